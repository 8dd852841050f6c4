/-
  What turns one node of a list: Insert, Set, Delete of its pack; the count.
-/
import Derived.Test.YtemiajjjhhofaabHas
namespace Go.Proofs.Ytemiajjjhhofaab
open Go.RowKit Go.PlainAid

/-- No node is empty, none has too many. -/
def Ok (most : Nat) (ns : List Nd) : Prop := ∀ d ∈ ns, 0 < d.ls.length ∧ d.ls.length ≤ most
theorem Ok.mid {most : Nat} {l1 l2 : List Nd} {d d' : Nd} (h : Ok most (l1 ++ d :: l2)) (h' : 0 < d'.ls.length ∧ d'.ls.length ≤ most) : Ok most (l1 ++ d' :: l2) := by
  intro e he
  rcases mem_or he with rfl | he
  · exact h'
  · exact h e (mem_mid he d)
theorem Ok.less {most : Nat} {l1 l2 : List Nd} {d : Nd} (h : Ok most (l1 ++ d :: l2)) : Ok most (l1 ++ l2) := fun e he => h e (mem_mid he d)
theorem Ok.more {most : Nat} {l1 l2 : List Nd} {d : Nd} (h : Ok most (l1 ++ l2)) (h' : 0 < d.ls.length ∧ d.ls.length ≤ most) : Ok most (l1 ++ d :: l2) := by
  intro e he
  rcases mem_or he with rfl | he
  · exact h'
  · exact h e he
theorem fit_append {a b : List ByteArray} (ha : Fit a) (hb : Fit b) : Fit (a ++ b) := by
  intro s hs
  rcases List.mem_append.1 hs with h | h
  · exact ha s h
  · exact hb s h
theorem fit_take {a : List ByteArray} (ha : Fit a) (i : Nat) : Fit (a.take i) := fun s hs => ha s (List.mem_of_mem_take hs)
theorem fit_drop {a : List ByteArray} (ha : Fit a) (i : Nat) : Fit (a.drop i) := fun s hs => ha s (List.mem_of_mem_drop hs)
theorem pack_one (s : ByteArray) : (pack [s]).length = (enc (lst s)).length := by
  rw [pack, List.length_append]; rfl

/-- What a call does that turns one node's pack. -/
def Node1 (w : World) (B l R most cnt : Nat) (l1 l2 : List Nd) (d : Nd) (ls : List ByteArray) (w' : World) : Prop :=
  ∃ d', d'.a = d.a ∧ d'.p = d.p ∧ d'.ls = ls ∧ d'.n = (pack ls).length ∧ Lst w' B l R most cnt (l1 ++ d' :: l2) ∧ Goes w w' l R (l1 ++ d :: l2) (l1 ++ d' :: l2)
theorem Lst.node1 {w w' : World} {B l R most cnt : Nat} {l1 l2 : List Nd} {d : Nd} (h : Lst w B l R most cnt (l1 ++ d :: l2)) {ls : List ByteArray} (hm : Moves w w' d.p d.r) (hE : ∃ a' n' c', Pk w' B d.p a' n' c' ls ∧ Went w d.r a') (hf : Fit ls) (hn : (pack ls).length ≤ 65536) : Node1 w B l R most cnt l1 l2 d ls w' := by
  obtain ⟨a', n', c', hp, hw⟩ := hE
  have hl := hp.len
  obtain ⟨h1, h2⟩ := h.turn hm hp hw hf (by omega)
  exact ⟨⟨d.a, d.p, a', n', c', ls⟩, rfl, rfl, rfl, hl.symm, h1, h2⟩

theorem Insert_nd (B l R most cnt : Nat) (l1 l2 : List Nd) (d : Nd) (i : Nat) (a2 : Option Addr) (m c2 : Nat) (ts : List ByteArray) (w : World) (h : Lst w B l R most cnt (l1 ++ d :: l2)) (hi : i ≤ d.ls.length) (hR : RdS w a2 m ts) (hl : Fit ts) (hm : m ≤ 100000) (hx : d.n + (pack ts).length ≤ 65536) :
    Calls Try.prog 12 #[ptr d.p, .int .i64 i, .slice a2 m c2] w fun e w' => e = .returned (.int .i64 0) ∧ Node1 w B l R most cnt l1 l2 d (d.ls.take i ++ (ts ++ d.ls.drop i)) w' := by
  have hd := h.nod d (by simp)
  refine (Insert_ok B d.p d.r d.n d.c d.ls i a2 m c2 ts w hd.pk hd.fit hd.siz hi hR hl hm hx).mono ?_
  rintro e w' ⟨rfl, h1, h2⟩
  refine ⟨rfl, h.node1 h1 h2 (fit_append (fit_take hd.fit i) (fit_append hl (fit_drop hd.fit i))) ?_⟩
  have := rep_len d.ls ts i 0
  rw [Nat.add_zero] at this
  rw [this, hd.pk.len]
  omega
theorem Delete_nd (B l R most cnt : Nat) (l1 l2 : List Nd) (d : Nd) (i : Nat) (N : Int) (w : World) (h : Lst w B l R most cnt (l1 ++ d :: l2)) (hi : i < d.ls.length) :
    Calls Try.prog 41 #[ptr d.p, .int .i64 i, .int .i64 N] w fun e w' => e = .returned (.int .i64 (gone d.ls i N : Nat)) ∧ Node1 w B l R most cnt l1 l2 d (d.ls.take i ++ d.ls.drop (i + gone d.ls i N)) w' := by
  have hd := h.nod d (by simp)
  have hk : plc d.ls.length (i : Int) = some i := by unfold plc; rw [if_pos (by omega), if_pos (by omega)]; simp
  refine (Delete_some B d.p d.r d.n d.c d.ls i i N w hd.pk hd.fit hd.siz (by omega) hk).mono ?_
  rintro e w' ⟨rfl, h1, h2⟩
  refine ⟨rfl, h.node1 h1 h2 (fit_append (fit_take hd.fit i) (fit_drop hd.fit _)) ?_⟩
  have := rep_len d.ls [] i (gone d.ls i N)
  rw [List.nil_append] at this
  rw [this, hd.pk.len]
  have := hd.siz
  show _ - _ + 0 ≤ _
  omega
theorem len_set (ls : List ByteArray) (k : Nat) (s : ByteArray) (h : k < ls.length) : (pack (ls.set k s)).length = (pack ls).length - (off ls (k + 1) - off ls k) + (enc (lst s)).length := by
  rw [set_split ls k s h, rep_len, pack_one]
theorem Set_nd (B l R most cnt : Nat) (l1 l2 : List Nd) (d : Nd) (i : Nat) (s : ByteArray) (w : World) (h : Lst w B l R most cnt (l1 ++ d :: l2)) (hi : i < d.ls.length) (hs : s.size ≤ 4096) (hx : (pack (d.ls.set i s)).length ≤ 65536) :
    Calls Try.prog 14 #[ptr d.p, .int .i64 i, .string s] w fun e w' => e = .returned (.int .i64 0) ∧ Node1 w B l R most cnt l1 l2 d (d.ls.set i s) w' := by
  have hd := h.nod d (by simp)
  have hk : plc d.ls.length (i : Int) = some i := by unfold plc; rw [if_pos (by omega), if_pos (by omega)]; simp
  refine (Set_ok B d.p d.r d.n d.c d.ls i i s w hd.pk hd.fit hd.siz (by omega) hk hs hx).mono ?_
  rintro e w' ⟨rfl, h1, h2⟩
  refine ⟨rfl, h.node1 h1 h2 ?_ hx⟩
  rw [set_split d.ls i s hi]
  exact fit_append (fit_take hd.fit i) (fit_append (fit_one hs) (fit_drop hd.fit _))

/-- The place at a gap takes a text, or not. -/
theorem hasRoom_at (B l R most cnt : Nat) (ns : List Nd) (k : Nat) (s : ByteArray) (w : World) (h : Lst w B l R most cnt ns) (hk : k ∈ R :: adr ns) (hs : s.size ≤ 4096) :
    (∀ w1, Below w.heap.size w w1 → Calls Try.prog 77 #[ptr l, ptr k, .string s] w1 fun e w' => Below w1.heap.size w1 w' ∧ e = .returned (.bool false)) ∨
    (∃ d ∈ ns, d.a = k ∧ d.ls.length < most ∧ d.n + (enc (lst s)).length ≤ 65536 ∧ ∀ w1, Below w.heap.size w w1 → Calls Try.prog 77 #[ptr l, ptr k, .string s] w1 fun e w' => Below w1.heap.size w1 w' ∧ e = .returned (.bool true)) := by
  rcases List.mem_cons.1 hk with rfl | hk
  · exact .inl fun w1 hb => hasRoom_ring B l k most cnt ns s w1 (h.keep hb)
  · obtain ⟨d, hd, rfl⟩ := List.mem_map.1 hk
    by_cases hm : d.ls.length < most
    · by_cases hn : d.n + (enc (lst s)).length ≤ 65536
      · refine .inr ⟨d, hd, rfl, hm, hn, fun w1 hb => ?_⟩
        have := hasRoom_yes B l R most cnt ns d s w1 (h.keep hb) hd hm hs
        rw [decide_eq_true hn] at this
        exact this
      · refine .inl fun w1 hb => ?_
        have := hasRoom_yes B l R most cnt ns d s w1 (h.keep hb) hd hm hs
        rw [decide_eq_false hn] at this
        exact this
    · exact .inl fun w1 hb => hasRoom_no B l R most cnt ns d s w1 (h.keep hb) hd hm
end Go.Proofs.Ytemiajjjhhofaab
