/-
  A list as what it has: its texts, and the blocks that are its own.
-/
import Derived.Test.YtemiajjjhhofaabQins
namespace Go.Proofs.Ytemiajjjhhofaab
open Go.RowKit Go.PlainAid

/-- A list at l, in packs of at most so many, that has the texts ts; F: its blocks. -/
structure QL (w : World) (B l most : Nat) (ts : List ByteArray) (F : List Nat) : Prop where
  ex : ∃ R ns, Lst w B l R most ts.length ns ∧ Ok most ns ∧ txN ns = ts ∧ F = l :: R :: fpN ns
  pos : 0 < most
  few : most ≤ 1000000
/-- What a call on a list leaves as it was. -/
structure Left (w w' : World) (F F' : List Nat) : Prop where
  stay : Stay w w' F
  new : ∀ k ∈ F', k ∈ F ∨ w.heap.size ≤ k
theorem Left.of_below {w w' : World} (h : Below w.heap.size w w') (F : List Nat) : Left w w' F F := ⟨Stay.of_below h _, fun _ hk => .inl hk⟩
theorem Left.trans {w w1 w2 : World} {F F1 F2 : List Nat} (h : Left w w1 F F1) (k : Left w1 w2 F1 F2) : Left w w2 F F2 :=
  ⟨h.stay.trans k.stay (fun i hi => h.new i hi), fun i hi => by
    rcases k.new i hi with h1 | h1
    · exact h.new i h1
    · exact .inr (Nat.le_trans h.stay.size h1)⟩
theorem Goes.left {w w' : World} {l R : Nat} {ns ns' : List Nd} (h : Goes w w' l R ns ns') : Left w w' (l :: R :: fpN ns) (l :: R :: fpN ns') :=
  ⟨h.stay, fun k hk => by
    simp only [List.mem_cons] at hk ⊢
    rcases hk with hk | hk | hk
    · exact .inl (.inl hk)
    · exact .inl (.inr (.inl hk))
    · exact (h.new k hk).imp (fun h => .inr (.inr h)) id⟩
/-- What a call does to a list. -/
def QDoes (w : World) (B l most : Nat) (ts : List ByteArray) (F : List Nat) (w' : World) : Prop := ∃ F', QL w' B l most ts F' ∧ Left w w' F F'
theorem Does.ql {w w' : World} {B l R most cnt : Nat} {ns : List Nd} {ts : List ByteArray} (h : Does w B l R most cnt ns ts w') (hc : cnt = ts.length) (h0 : 0 < most) (h1 : most ≤ 1000000) : QDoes w B l most ts (l :: R :: fpN ns) w' := by
  subst hc
  obtain ⟨ns', h2, h3, h4, h5⟩ := h
  exact ⟨_, ⟨⟨R, ns', h2, h4, h5, rfl⟩, h0, h1⟩, h3.left⟩
theorem QL.keep {w w' : World} {B l most : Nat} {ts : List ByteArray} {F : List Nat} (h : QL w B l most ts F) (hb : Below w.heap.size w w') : QL w' B l most ts F := by
  obtain ⟨R, ns, h1, h2, h3, h4⟩ := h.ex
  exact ⟨⟨R, ns, h1.keep hb, h2, h3, h4⟩, h.pos, h.few⟩
theorem QL.blocks {w : World} {B l most : Nat} {ts : List ByteArray} {F : List Nat} (h : QL w B l most ts F) : ∀ k ∈ F, B ≤ k ∧ k < w.heap.size := by
  obtain ⟨R, ns, h1, h2, h3, rfl⟩ := h.ex
  exact h1.fplt
theorem QL.stay {w w' : World} {B l most : Nat} {ts : List ByteArray} {F M : List Nat} (h : QL w B l most ts F) (hs : Stay w w' M) (hd : ∀ k ∈ F, k ∉ M) : QL w' B l most ts F := by
  obtain ⟨R, ns, h1, h2, h3, rfl⟩ := h.ex
  exact ⟨⟨R, ns, h1.stay hs hd, h2, h3, rfl⟩, h.pos, h.few⟩
theorem QL.low {w : World} {B l most : Nat} {ts : List ByteArray} {F : List Nat} (h : QL w B l most ts F) : B ≤ w.heap.size := by
  obtain ⟨R, ns, h1, h2, h3, rfl⟩ := h.ex
  exact Nat.le_trans h1.lowl (Nat.le_of_lt h1.lt)
theorem QL.down {w : World} {B C l most : Nat} {ts : List ByteArray} {F : List Nat} (h : QL w B l most ts F) (hC : C ≤ B) : QL w C l most ts F := by
  obtain ⟨R, ns, h1, h2, h3, rfl⟩ := h.ex
  refine ⟨⟨R, ns, ⟨h1.blk, h1.ring, h1.adj, fun d hd => ?_, h1.num, Nat.le_trans hC h1.lowl, Nat.le_trans hC h1.lowR⟩, h2, h3, rfl⟩, h.pos, h.few⟩
  have hd := h1.nod d hd
  exact ⟨hd.blk, hd.pk.low' hC, hd.fit, hd.siz, Nat.le_trans hC hd.low⟩
theorem QDoes.below {w w' : World} {B l most : Nat} {ts : List ByteArray} {F F' : List Nat} (h : QL w B l most ts F) (hd : Left w w' F F') : Below B w w' := hd.stay.below (fun k hk => (h.blocks k hk).1) h.low

/-- A list's blocks are no rows of texts. -/
theorem Lst.tags {w : World} {B l R most cnt : Nat} {ns : List Nd} (h : Lst w B l R most cnt ns) : ∀ k ∈ l :: R :: fpN ns, ∃ cs t, w.heap[k]? = some (.cells cs t (0, 0)) ∧ t ≠ 9 ∧ t ≠ 3 := by
  intro k hk
  rcases List.mem_cons.1 hk with rfl | hk
  · exact ⟨_, _, h.blk, by decide, by decide⟩
  rcases List.mem_cons.1 hk with rfl | hk
  · obtain ⟨x, y, e⟩ := h.ring
    exact ⟨_, _, e, by decide, by decide⟩
  · obtain ⟨d, hd, hk⟩ := List.mem_flatMap.1 hk
    have hN := h.nod d hd
    rcases List.mem_cons.1 hk with rfl | hk
    · obtain ⟨x, y, e⟩ := hN.blk
      exact ⟨_, _, e, by decide, by decide⟩
    rcases List.mem_cons.1 hk with rfl | hk
    · exact ⟨_, _, hN.pk.blk, by decide, by decide⟩
    · rw [Option.mem_toList] at hk
      rcases hN.pk.own.2 with ⟨h2, -⟩ | ⟨g, c, cur, h1, h3, h4, -⟩
      · injection h2 with e1
        rw [e1] at hk; cases hk
      · injection h1 with e1
        rw [e1] at hk
        cases hk
        exact ⟨_, _, h4, by decide, by decide⟩
theorem QL.far {w : World} {B C l most : Nat} {ts : List ByteArray} {F : List Nat} (h : QL w B l most ts F) {a : Option Addr} {n c : Nat} {ls : List ByteArray} (hO : OwnS w C a n c ls) : ∀ x, a = some x → x.block ∉ F ∧ x.block < w.heap.size := by
  obtain ⟨R, ns, h1, h2, h3, rfl⟩ := h.ex
  intro x hx
  rcases hO.2 with ⟨e, -⟩ | ⟨g, c', cur, e, h4, h5, -⟩
  · injection e with e1
    rw [e1] at hx; cases hx
  · injection e with e1
    rw [e1] at hx
    cases hx
    refine ⟨fun hm => ?_, (Array.getElem?_eq_some_iff.1 h5).1⟩
    obtain ⟨cs, t, h6, h7, -⟩ := h1.tags _ hm
    rw [h5] at h6
    injection h6 with h6
    injection h6 with _ h8
    exact h7 h8.symm
theorem QL.rdf {w : World} {B C l most : Nat} {ts : List ByteArray} {F : List Nat} (h : QL w B l most ts F) {a : Option Addr} {n c : Nat} {ls : List ByteArray} (hO : OwnS w C a n c ls) : RdF w a n ls F := ⟨hO.rd, h.far hO⟩
theorem QL.row {w w' : World} {B C l most : Nat} {ts : List ByteArray} {F F' : List Nat} (h : QL w B l most ts F) {a : Option Addr} {n c : Nat} {ls : List ByteArray} (hO : OwnS w C a n c ls) (hd : Left w w' F F') : OwnS w' C a n c ls := by
  have hf := h.far hO
  refine ⟨hO.1, ?_⟩
  rcases hO.2 with h2 | ⟨g, c', cur, e, h4, h5, h6⟩
  · exact .inl h2
  · refine .inr ⟨g, c', cur, e, h4, ?_, h6⟩
    injection e with e1
    obtain ⟨k1, k2⟩ := hf _ e1
    rw [hd.stay.block g k2 k1]
    exact h5

theorem QNew (m : Int) (w : World) (most : Nat) (hm : max m 1 = most) (hm2 : most ≤ 1000000) :
    Calls Try.prog 17 #[.int .i64 m] w fun e w' => Below w.heap.size w w' ∧ ∃ l F, e = .returned (ptr l) ∧ QL w' w.heap.size l most [] F := by
  refine (NewQ_any m w most hm).mono ?_
  rintro e w' ⟨hb, l, R, rfl, h⟩
  exact ⟨hb, l, _, rfl, ⟨R, [], h, fun d hd => absurd hd (by simp), rfl, rfl⟩, by omega, hm2⟩
theorem QLen (w : World) (B l most : Nat) (ts : List ByteArray) (F : List Nat) (h : QL w B l most ts F) : Calls Try.prog 21 #[ptr l] w fun e w' => e = .returned (.int .i64 (ts.length : Nat)) ∧ w' = w := by
  obtain ⟨R, ns, h1, h2, h3, rfl⟩ := h.ex
  exact LenQ_any B l R most _ ns w h1
theorem QRight (w : World) (B l most : Nat) (ts : List ByteArray) (F : List Nat) (h : QL w B l most ts F) (a : Option Addr) (n c : Nat) (ls : List ByteArray) (hR : RdF w a n ls F) (hf : Fit ls) (hc : ts.length + n ≤ 1000000) :
    Calls Try.prog 20 #[ptr l, .slice a n c] w fun e w' => e = .returned (.int .i64 0) ∧ QDoes w B l most (ts ++ ls) F w' := by
  obtain ⟨R, ns, h1, h2, rfl, rfl⟩ := h.ex
  refine (Right_ok B l R most _ ns a n c ls w h1 h2 hR hf hc h.pos).mono ?_
  rintro e w' ⟨rfl, hd⟩
  exact ⟨rfl, hd.ql (by rw [List.length_append, hR.rd.len]) h.pos h.few⟩
theorem QLeft (w : World) (B l most : Nat) (ts : List ByteArray) (F : List Nat) (h : QL w B l most ts F) (a : Option Addr) (n c : Nat) (ls : List ByteArray) (hR : RdF w a n ls F) (hf : Fit ls) (hc : ts.length + n ≤ 1000000) :
    Calls Try.prog 56 #[ptr l, .slice a n c] w fun e w' => e = .returned (.int .i64 0) ∧ QDoes w B l most (ls.reverse ++ ts) F w' := by
  obtain ⟨R, ns, h1, h2, rfl, rfl⟩ := h.ex
  refine (Left_ok B l R most _ ns a n c ls w h1 h2 hR hf hc h.pos).mono ?_
  rintro e w' ⟨rfl, hd⟩
  exact ⟨rfl, hd.ql (by rw [List.length_append, List.length_reverse, hR.rd.len]; omega) h.pos h.few⟩
theorem QPopLeft (w : World) (B l most : Nat) (ts : List ByteArray) (F : List Nat) (h : QL w B l most ts F) (hc : ts.length ≤ 1000000) :
    Calls Try.prog 27 #[ptr l] w fun e w' => e = .returned (.tuple #[.string (txt ts 0), .bool (decide (0 < ts.length))]) ∧ QDoes w B l most ts.tail F w' := by
  obtain ⟨R, ns, h1, h2, rfl, rfl⟩ := h.ex
  refine (PopLeft_any B l R most _ ns w h1 h2 rfl hc).mono ?_
  rintro e w' ⟨rfl, hd⟩
  exact ⟨rfl, hd.ql (by rw [List.length_tail]) h.pos h.few⟩
theorem QPopRight (w : World) (B l most : Nat) (ts : List ByteArray) (F : List Nat) (h : QL w B l most ts F) (hc : ts.length ≤ 1000000) :
    Calls Try.prog 26 #[ptr l] w fun e w' => e = .returned (.tuple #[.string (txt ts (ts.length - 1)), .bool (decide (0 < ts.length))]) ∧ QDoes w B l most ts.dropLast F w' := by
  obtain ⟨R, ns, h1, h2, rfl, rfl⟩ := h.ex
  refine (PopRight_any B l R most _ ns w h1 h2 rfl hc).mono ?_
  rintro e w' ⟨rfl, hd⟩
  exact ⟨rfl, hd.ql (by rw [List.length_dropLast]) h.pos h.few⟩
/-- The texts of a span. -/
def spn (ts : List ByteArray) (a b : Int) : List ByteArray := (ts.take (spT ts.length a b)).drop (spF ts.length a b)
theorem QTrim (w : World) (B l most : Nat) (ts : List ByteArray) (F : List Nat) (h : QL w B l most ts F) (hc : ts.length ≤ 1000000) (a b : Int) (ha : I64 a) (hb : I64 b) :
    Calls Try.prog 30 #[ptr l, .int .i64 a, .int .i64 b] w fun e w' => e = .returned (.tuple #[]) ∧ QDoes w B l most (spn ts a b) F w' := by
  obtain ⟨R, ns, h1, h2, rfl, rfl⟩ := h.ex
  refine (Trim_any B l R most _ ns a b w h1 h2 rfl hc ha hb).mono ?_
  rintro e w' ⟨rfl, hd⟩
  exact ⟨rfl, hd.ql (by rw [sp_len]) h.pos h.few⟩
theorem QRange (w : World) (B l most : Nat) (ts : List ByteArray) (F : List Nat) (h : QL w B l most ts F) (hc : ts.length ≤ 1000000) (a b : Int) (ha : I64 a) (hb : I64 b) :
    Calls Try.prog 29 #[ptr l, .int .i64 a, .int .i64 b] w fun e w' => Below w.heap.size w w' ∧ ∃ a2 n2 c2, e = .returned (.slice a2 n2 c2) ∧ OwnS w' w.heap.size a2 n2 c2 (spn ts a b) := by
  obtain ⟨R, ns, h1, h2, rfl, rfl⟩ := h.ex
  exact Range_any B l R most _ ns a b w h1 h2 rfl hc ha hb
theorem QAll (w : World) (B l most : Nat) (ts : List ByteArray) (F : List Nat) (h : QL w B l most ts F) (hc : ts.length ≤ 1000000) :
    Calls Try.prog 24 #[ptr l] w fun e w' => Below w.heap.size w w' ∧ ∃ a2 n2 c2, e = .returned (.slice a2 n2 c2) ∧ OwnS w' w.heap.size a2 n2 c2 ts := by
  obtain ⟨R, ns, h1, h2, rfl, rfl⟩ := h.ex
  exact AllQ_any B l R most _ ns w h1 h2 rfl hc
theorem ok_len {most : Nat} : ∀ {ns : List Nd}, Ok most ns → ns.length ≤ (txN ns).length
  | [], _ => by simp
  | d :: r, h => by
    have h1 := (h d (by simp)).1
    have h2 := ok_len (ns := r) (fun x hx => h x (List.mem_cons_of_mem _ hx))
    rw [txN_cons, List.length_append, List.length_cons]; omega
theorem sum_len : ∀ ns : List Nd, (ns.map fun d => d.ls.length).sum = (txN ns).length
  | [] => rfl
  | d :: r => by rw [List.map_cons, List.sum_cons, sum_len r, txN_cons, List.length_append]
theorem QNodes (w : World) (B l most : Nat) (ts : List ByteArray) (F : List Nat) (h : QL w B l most ts F) (hc : ts.length ≤ 999999) :
    Calls Try.prog 28 #[ptr l] w fun e w' => Below w.heap.size w w' ∧ ∃ a2 n2 c2 ks, e = .returned (.slice a2 n2 c2) ∧ OwnI w' w.heap.size a2 n2 c2 ks ∧ ks.sum = ts.length ∧ (∀ k ∈ ks, 0 < k ∧ k ≤ most) ∧ ks.length ≤ ts.length := by
  obtain ⟨R, ns, h1, h2, rfl, rfl⟩ := h.ex
  have hl := ok_len h2
  refine (Nodes_any B l R most _ ns w h1 (by omega)).mono ?_
  rintro e w' ⟨hb, a2, n2, c2, rfl, hO⟩
  refine ⟨hb, a2, n2, c2, _, rfl, hO, sum_len ns, ?_, by rw [List.length_map]; exact hl⟩
  intro k hk
  obtain ⟨d, hd, rfl⟩ := List.mem_map.1 hk
  exact h2 d hd

theorem Lists_of (w : World) (a a' : Option Addr) (n c n' c' : Nat) (ls : List ByteArray) (h : RdS w a n ls) (h' : RdS w a' n' ls) :
    Calls Try.prog 23 #[.slice a n c, .slice a' n' c'] w fun e w' => Below w.heap.size w w' ∧ e = .returned (.bool true) := by
  have e : n' = n := by rw [← h.len, ← h'.len]
  subst e
  exact Lists_any a a' n' c c' ls w h h'
end Go.Proofs.Ytemiajjjhhofaab
