/-
  Rows of pairs: parts of them, append(l, x...).
  The law's own model of a hash: pairs in a row; at, set, del.
  The model's set of an old field; del.
-/
import Derived.Test.YtembjlckcgginaaGreatG16
import Derived.Laws.AppendOwnNone
import Derived.BigRegion
namespace Go.Proofs.YtembjlckcgginaaGreat
open Go.RowKit Go.PlainAid
open Dk (En Stay hasK putE delE getE keysOf Dct Dg dtag ecells Turn)

/-- A slice that reads the pairs es. -/
structure RdP (w : World) (a : Option Addr) (n cap : Nat) (es : List En) : Prop where
  len : es.length = n
  fit : n ≤ cap
  max : cap ≤ maxLen
  nul : a = none → cap = 0
  cell : ∀ j u, (ecells es)[j]? = some u → ∃ b off, a = some ⟨b, off, none⟩ ∧ w.cell? ⟨b, off + j, none⟩ = some u
theorem RdP.keep {w wn : World} {a : Option Addr} {n cap : Nat} {es : List En} (h : RdP w a n cap es) (hb : Below w.heap.size w wn) : RdP wn a n cap es :=
  ⟨h.len, h.fit, h.max, h.nul, fun j u hu => by
    obtain ⟨b, off, e, hc⟩ := h.cell j u hu
    exact ⟨b, off, e, by rw [hb.cell (p := ⟨b, off + j, none⟩) (World.block_lt_of_cell? _ _ hc)]; exact hc⟩⟩
theorem OwnQ.rp {w : World} {B : Nat} {a : Option Addr} {n cap : Nat} {es : List En} (h : OwnQ w B a n cap es) : RdP w a n cap es := by
  have hl := OwnQ.len h
  have hc := Dk.OwnR.cap h
  refine ⟨hl, hc.1, hc.2, ?_, fun j u hu => ?_⟩
  · rcases h.2 with ⟨h2, h3⟩ | ⟨g, c, cur, h1, h3, h4, h5, h6, h7⟩
    · cases h2; intro; rfl
    · cases h1; intro e; cases e
  · have hj : j < (ecells es).length := by
      rcases Nat.lt_or_ge j (ecells es).length with h1 | h1
      · exact h1
      · rw [List.getElem?_eq_none h1] at hu; cases hu
    rw [Dk.ecells_len] at hj
    obtain ⟨g, h1, h2⟩ := Dk.OwnR.at h (by omega)
    exact ⟨g, 0, h1, by rw [Nat.zero_add]; exact h2 j u hu⟩
theorem ecells_drop (es : List En) (k : Nat) : ecells (es.drop k) = (ecells es).drop (k * 2) := by
  induction k generalizing es with
  | zero => simp
  | succ k ih =>
    cases es with
    | nil => simp [ecells]
    | cons e es =>
      rw [List.drop_succ_cons, ih es, show (k + 1) * 2 = k * 2 + 1 + 1 by omega]
      rfl
theorem ecells_take (es : List En) (k : Nat) : ecells (es.take k) = (ecells es).take (k * 2) := by
  induction k generalizing es with
  | zero => simp [ecells]
  | succ k ih =>
    cases es with
    | nil => simp [ecells]
    | cons e es =>
      rw [List.take_succ_cons, show (k + 1) * 2 = k * 2 + 1 + 1 by omega]
      show _ :: _ :: ecells (es.take k) = _ :: _ :: (ecells es).take (k * 2)
      rw [ih es]
theorem RdP.sub {w : World} {a : Option Addr} {n cap : Nat} {l : List En} (h : RdP w a n cap l) (lo hi : Nat) (h1 : lo ≤ hi) (h2 : hi ≤ n) :
    RdP w (if cap = lo then a else a.map (·.add (lo * 2))) (hi - lo) (cap - lo) ((l.drop lo).take (hi - lo)) := by
  have hl := h.len
  have hf := h.fit
  have hx := h.max
  refine ⟨by rw [List.length_take, List.length_drop, hl]; omega, by omega, by omega, fun hn => ?_, fun j u hu => ?_⟩
  · cases a with
    | none => have := h.nul rfl; omega
    | some x => split at hn <;> simp at hn
  · rw [ecells_take, List.getElem?_take] at hu
    split at hu
    · rename_i hj
      rw [ecells_drop, List.getElem?_drop] at hu
      obtain ⟨b, off, e, hc⟩ := h.cell _ u hu
      subst e
      have hne : ¬ cap = lo := by omega
      refine ⟨b, off + lo * 2, ?_, ?_⟩
      · rw [if_neg hne, Option.map_some, add_flat]
      · rw [Nat.add_assoc]; exact hc
    · cases hu
theorem Tryz.size56 (w : World) : (sizeOf 56).run Tryz.prog w = .ok 2 w := by go_simp
theorem Tryz.elem41 : Tryz.prog.elem 41 = 56 := by simp [Program.elem, Tryz.underlying41]
theorem RdP.slice_l {w : World} {a : Option Addr} {n cap : Nat} {l : List En} (h : RdP w a n cap l) (lo : Nat) (h1 : lo ≤ n) :
    ∃ a' cap', (∀ wx, (Instr.sliceAt 41 (.slice a n cap) (some (.int .i64 lo)) none none).run Tryz.prog wx = .ok (.slice a' (n - lo) cap') wx) ∧ RdP w a' (n - lo) cap' (l.drop lo) := by
  have hs := h.sub lo n h1 (Nat.le_refl _)
  rw [List.take_of_length_le (by rw [List.length_drop, h.len]; omega)] at hs
  refine ⟨_, _, fun wx => ?_, hs⟩
  have ht : Tryz.prog.underlying 41 = some (.slice (Tryz.prog.elem 41)) := by rw [Tryz.elem41]; exact Tryz.underlying41
  rw [run_sliceAt_slice _ _ _ _ _ _ ht, run_slice_l (P := Tryz.prog) wx 41 a n cap ht .i64 lo (by omega) (by omega), Tryz.elem41, Tryz.size56]
  simp [Result.andThen, sliced]
theorem RdP.slice_h {w : World} {a : Option Addr} {n cap : Nat} {l : List En} (h : RdP w a n cap l) (hi : Nat) (h1 : hi ≤ n) :
    ∃ a' cap', (∀ wx, (Instr.sliceAt 41 (.slice a n cap) none (some (.int .i64 hi)) none).run Tryz.prog wx = .ok (.slice a' hi cap') wx) ∧ RdP w a' hi cap' (l.take hi) := by
  have hs := h.sub 0 hi (Nat.zero_le _) h1
  rw [List.drop_zero, Nat.sub_zero, Nat.sub_zero] at hs
  refine ⟨_, _, fun wx => ?_, hs⟩
  have ht : Tryz.prog.underlying 41 = some (.slice (Tryz.prog.elem 41)) := by rw [Tryz.elem41]; exact Tryz.underlying41
  rw [run_sliceAt_slice _ _ _ _ _ _ ht, run_slice_h (P := Tryz.prog) wx 41 a n cap ht .i64 hi (by omega) (by have := h.fit; omega), Tryz.elem41, Tryz.size56]
  simp [Result.andThen, sliced]

theorem ecells_one {es : List En} : ∀ u ∈ ecells es, u.oneCell' = true := by
  intro u hu
  obtain ⟨e, -, h⟩ := List.mem_flatMap.1 hu
  simp only [List.mem_cons, List.not_mem_nil, or_false] at h
  rcases h with rfl | rfl <;> rfl
/-- append(l, x...) at rows of pairs. -/
theorem run_append_prs (w : World) (B : Nat) (a : Option Addr) (n cap : Nat) (ls : List En) (hown : OwnQ w B a n cap ls) (a' : Option Addr) (n' cap' : Nat) (rs : List En) (hr : RdP w a' n' cap' rs) (hb : n + n' ≤ 1000000) (hB : B ≤ w.heap.size) (ty : TypeId) :
    ∃ a2 c2 w2, (Builtin.append_ #[41, 41] ty #[.slice a n cap, .slice a' n' cap']).run Tryz.prog w = .ok (.slice a2 (n + n') c2) w2 ∧ OwnQ w2 B a2 (n + n') c2 (ls ++ rs) ∧ Below B w w2 := by
  obtain ⟨i0, hi, hz0, hz1, hz2⟩ := info_parts Tryz.infoQ
  have hblk : ∀ k, (Value.slice a n cap).ownBlock = some k → B ≤ k := fun k hk => (World.ownsRow.lt hown k hk).1
  cases a' with
  | none =>
    have hrl := hr.len
    have hc0 := hr.nul rfl
    have hf := hr.fit
    have hn0 : n' = 0 := by omega
    subst hn0
    subst hc0
    have hr0 : rs = [] := List.length_eq_zero_iff.1 hrl
    subst hr0
    refine ⟨a, cap, w, ?_, by rw [List.append_nil]; exact hown, Below.refl _ _⟩
    have := run_append_owned_none (P := Tryz.prog) w B 41 ty 56 i0 2 Tryz.underlying41 hi (.slice a n cap) n (ecells ls) hown
    exact this
  | some ad =>
    have hrun := run_append_own (P := Tryz.prog) w B 41 ty 56 i0 (.agg #[.string ⟨#[]⟩, .string ⟨#[]⟩]) 2 32 Tryz.underlying41 hi hz0 hz1 hz2 rfl (by decide) (.slice a n cap) n (ecells ls) hown ad n' cap' (ecells rs) (by rw [Dk.ecells_len, hr.len]) (fun j u hu => by
      obtain ⟨b, off, e, hc⟩ := hr.cell j u hu
      cases e
      rw [add_flat]
      exact hc) ecells_one (by unfold maxLen; omega) (by omega) hB
    obtain ⟨v', w', h1, h2, h3, -⟩ := hrun
    rw [← Dk.ecells_append] at h2
    have hbel : Below B w w' := (Below.refl B w).grown h3 hB hblk
    rcases h2.2 with ⟨rfl, h4⟩ | ⟨g, c, cur, rfl, h4⟩
    · refine ⟨none, 0, w', by rw [h1, h4], ?_, hbel⟩
      rw [h4] at h2 ⊢
      exact h2
    · exact ⟨_, _, w', h1, h2, hbel⟩
theorem append_prs {w : World} {ops : Array Oper} {rest : List Oper} {o : Oper} {ac : Act} {Q : Exit → Act → World → Prop} (hgd : o.guard = none) (s x : Operand) (ho : o.op = .call { callee := .builtin .append, args := #[s, x], argTypes := #[41, 41] })
    (B : Nat) {a : Option Addr} {n cap : Nat} {ls : List En} (hs : ac.eval s = .slice a n cap) (hown : OwnQ w B a n cap ls)
    {a' : Option Addr} {n' cap' : Nat} {rs : List En} (hx : ac.eval x = .slice a' n' cap') (hr : RdP w a' n' cap' rs) (hb : n + n' ≤ 1000000) (hB : B ≤ w.heap.size)
    (h : ∀ a2 n2 c2 w2, n2 = n + n' → Hid (OwnQ w2 B a2 n2 c2 (ls ++ rs)) → Hid (Below B w w2) → wpList Tryz.prog ops Q rest (ac.put o.dst (.slice a2 n2 c2)) w2) : wpList Tryz.prog ops Q (o :: rest) ac w := by
  obtain ⟨a2, c2, w2, h1, h2, h3⟩ := run_append_prs w B a n cap ls hown a' n' cap' rs hr hb hB o.type
  refine wpList_plain hgd fun K hK => ?_
  unfold Oper.wp
  simp [execOp, ho, resolve, invoke, builtin, hs, hx, h1, Result.andThen]
  exact hK _ _ (h a2 _ c2 w2 rfl h2 h3)
theorem step_append_prs {w : World} {ops : Array Oper} {o : Oper} {ac : Act} {K : Act → World → Prop} {Q : Exit → Act → World → Prop} {E : Prop} (hgd : o.guard = none) (s x : Operand) (ho : o.op = .call { callee := .builtin .append, args := #[s, x], argTypes := #[41, 41] })
    (B : Nat) {a : Option Addr} {n cap : Nat} {ls : List En} (hs : ac.eval s = .slice a n cap) (hown : OwnQ w B a n cap ls)
    {a' : Option Addr} {n' cap' : Nat} {rs : List En} (hx : ac.eval x = .slice a' n' cap') (hr : RdP w a' n' cap' rs) (hb : n + n' ≤ 1000000) (hB : B ≤ w.heap.size)
    (h : ∀ a2 n2 c2 w2, n2 = n + n' → Hid (OwnQ w2 B a2 n2 c2 (ls ++ rs)) → Hid (Below B w w2) → K (ac.put o.dst (.slice a2 n2 c2)) w2) : if Region.wanted o (yielded ops ac.tmps) = true then Oper.wp Tryz.prog o ac w K Q else E := by
  have hw : Region.wanted o (yielded ops ac.tmps) = true := by simp [Region.wanted, hgd]
  rw [if_pos hw]
  obtain ⟨a2, c2, w2, h1, h2, h3⟩ := run_append_prs w B a n cap ls hown a' n' cap' rs hr hb hB o.type
  unfold Oper.wp
  simp [execOp, ho, resolve, invoke, builtin, hs, hx, h1, Result.andThen]
  exact h a2 _ c2 w2 rfl h2 h3
end Go.Proofs.YtembjlckcgginaaGreat

namespace Go.Proofs.YtembjlckcgginaaGreat
open Go.RowKit Go.PlainAid
open Dk (En Stay hasK putE delE getE keysOf Dct Dg dtag ecells Turn)

/-- The model at q. -/
structure Md (w : World) (B q E T : Nat) (a : Option Addr) (n c : Nat) (es : List En) (pk : Bool) : Prop where
  blk : w.heap[q]? = some (.cells #[.slice a n c, .bool pk, .int .i64 (E : Nat), .int .i64 (T : Nat)] 43 (0, 0))
  row : OwnQ w B a n c es
  low : B ≤ q
theorem Md.lt {w : World} {B q E T : Nat} {a : Option Addr} {n c : Nat} {es : List En} {pk : Bool} (h : Md w B q E T a n c es pk) : q < w.heap.size := (Array.getElem?_eq_some_iff.1 h.blk).1
theorem Md.keep {w wn : World} {B q E T : Nat} {a : Option Addr} {n c : Nat} {es : List En} {pk : Bool} (h : Md w B q E T a n c es pk) (hb : Below w.heap.size w wn) : Md wn B q E T a n c es pk := ⟨by rw [hb.block q h.lt]; exact h.blk, h.row.keep hb, h.low⟩
theorem Md.c0 {w : World} {B q E T : Nat} {a : Option Addr} {n c : Nat} {es : List En} {pk : Bool} (h : Md w B q E T a n c es pk) : w.cell? ⟨q, 0, none⟩ = some (.slice a n c) := by simp [World.cell?, h.blk]
theorem Md.c1 {w : World} {B q E T : Nat} {a : Option Addr} {n c : Nat} {es : List En} {pk : Bool} (h : Md w B q E T a n c es pk) : w.cell? ⟨q, 1, none⟩ = some (.bool pk) := by simp [World.cell?, h.blk]
theorem Md.c2 {w : World} {B q E T : Nat} {a : Option Addr} {n c : Nat} {es : List En} {pk : Bool} (h : Md w B q E T a n c es pk) : w.cell? ⟨q, 2, none⟩ = some (.int .i64 (E : Nat)) := by simp [World.cell?, h.blk]
theorem Md.c3 {w : World} {B q E T : Nat} {a : Option Addr} {n c : Nat} {es : List En} {pk : Bool} (h : Md w B q E T a n c es pk) : w.cell? ⟨q, 3, none⟩ = some (.int .i64 (T : Nat)) := by simp [World.cell?, h.blk]
theorem Md.fz {w : World} {B q E T : Nat} {a : Option Addr} {n c : Nat} {es : List En} {pk : Bool} (h : Md w B q E T a n c es pk) (o : Nat) : w.frozen? ⟨q, o, none⟩ = false := by simp [World.frozen?, h.blk]
theorem Md.len {w : World} {B q E T : Nat} {a : Option Addr} {n c : Nat} {es : List En} {pk : Bool} (h : Md w B q E T a n c es pk) : es.length = n := OwnQ.len h.row
theorem Md.nr {w : World} {B q E T : Nat} {a : Option Addr} {n c : Nat} {es : List En} {pk : Bool} (h : Md w B q E T a n c es pk) : ∀ k, a.map (·.block) = some k → k ≠ q := by
  rintro k hk rfl
  obtain ⟨-, -, cur, h3⟩ := Dk.OwnR.lt h.row hk
  have h1 := h.blk
  rw [h3] at h1
  simp at h1
/-- Another row, whether it is packed: both are set. -/
theorem Md.setP {w : World} {B q E T : Nat} {a : Option Addr} {n c : Nat} {es : List En} {pk : Bool} (h : Md w B q E T a n c es pk) (pk' : Bool) : Md (w.setCell ⟨q, 1, none⟩ (.bool pk')) B q E T a n c es pk' :=
  ⟨by rw [Dk.heap_set h.blk]; rfl, Dk.OwnR.stay h.row (M := [q]) Stay.set (fun k hk hm => h.nr k hk (List.mem_singleton.1 hm)), h.low⟩
theorem Md.setR {w w1 : World} {B q E T : Nat} {a a' : Option Addr} {n c n' c' : Nat} {es es' : List En} {pk : Bool} (h : Md w B q E T a n c es pk) (hb : Below w.heap.size w w1) (hB : B ≤ w.heap.size) (hO : OwnQ w1 w.heap.size a' n' c' es') : Md (w1.setCell ⟨q, 0, none⟩ (.slice a' n' c')) B q E T a' n' c' es' pk :=
  ⟨by rw [Dk.heap_set (h.keep hb).blk]; rfl, Dk.OwnR.stay (Dk.OwnR.low hO hB) (M := [q]) Stay.set (fun k hk hm => by have := (Dk.OwnR.lt hO hk).1; have := h.lt; have := List.mem_singleton.1 hm; omega), h.low⟩

theorem at_no (B q E T : Nat) (a : Option Addr) (n c : Nat) (es : List En) (pk : Bool) (f : ByteArray) (w : World) (h : Md w B q E T a n c es pk) (hn : n ≤ 1000000) (hf : f ∉ keysOf es) :
    Calls Tryz.prog 22 #[ptr q, .string f] w fun e w' => e = .returned (.int .i64 (-1)) ∧ w' = w := by
  have hc := h.c0
  have HM : Hid (Md w B q E T a n c es pk) := h
  have HF : Hid (f ∉ keysOf es) := hf
  clear h hf
  go_enter Tryz.func22, Tryz.ntmps22
  go_wp2
  go_loopg [5] n (fun g iv wr => w = wr ∧ ∃ i : Nat, i + g = n ∧ iv = .int .i64 i)
  case atStart => exact ⟨rfl, 0, by omega, rfl⟩
  case round =>
    obtain ⟨rfl, i, hi, rfl⟩ := hrel
    by_cases h8 : (i : Int) < n
    · obtain ⟨g, hg, hk, -⟩ := OwnQ.cell HM.out.row (j := i) (by omega)
      have hne : ((es.getD i (⟨#[]⟩, ⟨#[]⟩)).1.toList == f.toList) = false := by
        rw [str_beq]
        refine decide_eq_false fun e => ?_
        refine HF.out (List.mem_map.2 ⟨es.getD i (⟨#[]⟩, ⟨#[]⟩), ?_, e⟩)
        have := HM.out.len
        rw [List.getD_eq_getElem?_getD, List.getElem?_eq_getElem (by omega)]
        exact List.getElem_mem _
      generalize (es.getD i (⟨#[]⟩, ⟨#[]⟩)).1 = k at hk hne
      subst hg
      go_wp2
      go_roundg (gk - 1)
      case measure => omega
      case rel => exact ⟨rfl, i + 1, by omega, by go_num⟩
    · go_wp2
      go_ret
      exact ⟨rfl, rfl⟩
theorem at_yes (B q E T : Nat) (a : Option Addr) (n c : Nat) (l r : List En) (u : ByteArray) (pk : Bool) (f : ByteArray) (w : World) (h : Md w B q E T a n c (l ++ (f, u) :: r) pk) (hn : n ≤ 1000000) (hf : f ∉ keysOf l) :
    Calls Tryz.prog 22 #[ptr q, .string f] w fun e w' => e = .returned (.int .i64 (l.length : Nat)) ∧ w' = w := by
  have hc := h.c0
  have HM : Hid (Md w B q E T a n c (l ++ (f, u) :: r) pk) := h
  have HF : Hid (f ∉ keysOf l) := hf
  have hlen : l.length < n := by have := h.len; rw [List.length_append, List.length_cons] at this; omega
  obtain ⟨L, hL⟩ : ∃ L, l.length = L := ⟨_, rfl⟩
  have HL : Hid (l.length = L) := hL
  rw [hL] at hlen ⊢
  clear h hf hL
  go_enter Tryz.func22, Tryz.ntmps22
  go_wp2
  go_loopg [5] L (fun g iv wr => w = wr ∧ ∃ i : Nat, i + g = L ∧ iv = .int .i64 i)
  case atStart => exact ⟨rfl, 0, by omega, rfl⟩
  case round =>
    obtain ⟨rfl, i, hi, rfl⟩ := hrel
    have h8 : (i : Int) < n := by omega
    obtain ⟨g, hg, hk, -⟩ := OwnQ.cell HM.out.row (j := i) (by omega)
    by_cases h9 : i < L
    · have hne : (((l ++ (f, u) :: r).getD i (⟨#[]⟩, ⟨#[]⟩)).1.toList == f.toList) = false := by
        rw [str_beq]
        refine decide_eq_false fun e => ?_
        have hi2 : i < l.length := by have := HL.out; omega
        rw [List.getD_eq_getElem?_getD, List.getElem?_append_left hi2, List.getElem?_eq_getElem hi2] at e
        exact HF.out (List.mem_map.2 ⟨l[i], List.getElem_mem hi2, e⟩)
      generalize ((l ++ (f, u) :: r).getD i (⟨#[]⟩, ⟨#[]⟩)).1 = k at hk hne
      subst hg
      go_wp2
      go_roundg (gk - 1)
      case measure => omega
      case rel => exact ⟨rfl, i + 1, by omega, by go_num⟩
    · have hiL : i = L := by omega
      subst hiL
      have he : ((l ++ (f, u) :: r).getD i (⟨#[]⟩, ⟨#[]⟩)).1 = f := by
        have := HL.out
        rw [List.getD_eq_getElem?_getD, List.getElem?_append_right (by omega), show i - l.length = 0 by omega]
        rfl
      rw [he] at hk
      clear he
      subst hg
      go_wp2
      go_ret
      exact ⟨rfl, rfl⟩

/-- The blocks of a model. -/
def mfp (q : Nat) (a : Option Addr) : List Nat := q :: (a.map (·.block)).toList
/-- What a call leaves that turns a model. -/
def MTo (w w' : World) (B q E T : Nat) (es : List En) (pk : Bool) (M : List Nat) : Prop := ∃ a n c, Md w' B q E T a n c es pk ∧ Stay w w' M ∧ (∀ k ∈ mfp q a, k ∈ M ∨ w.heap.size ≤ k)

/-- An empty row. -/
theorem OwnQ.empty (w : World) : OwnQ (w.alloc (.cells #[] 56)) w.heap.size (some ⟨w.heap.size, 0, none⟩) 0 0 [] :=
  ⟨rfl, .inr ⟨w.heap.size, 0, #[], rfl, Nat.le_refl _, heap_alloc_new w _, Nat.le_refl _, by decide, rfl, rfl⟩⟩
/-- Is the model packed behind a set? -/
def pk5 (pk : Bool) (n E T : Nat) (f v : ByteArray) : Bool := pk && decide (n ≤ E) && decide (f.size ≤ T) && decide (v.size ≤ T)
set_option maxRecDepth 100000 in
set_option maxHeartbeats 4000000 in
theorem set_new (B q E T : Nat) (a : Option Addr) (n c : Nat) (es : List En) (pk : Bool) (f v : ByteArray) (w : World) (h : Md w B q E T a n c es pk) (hB : B ≤ w.heap.size) (hn : n ≤ 100000) (hf : f ∉ keysOf es) :
    Calls Tryz.prog 36 #[ptr q, .string f, .string v] w fun e w' => e = .returned (.bool true) ∧ MTo w w' B q E T (es ++ [(f, v)]) (pk5 pk (n + 1) E T f v) (mfp q a) := by
  have HA := at_no B q E T a n c es pk f w h (by omega) hf
  have HM : Hid (Md w B q E T a n c es pk) := h
  have hc0 := h.c0
  obtain ⟨es', hes'⟩ : ∃ es', es ++ [(f, v)] = es' := ⟨_, rfl⟩
  obtain ⟨n', hn'⟩ : ∃ n', n + 1 = n' := ⟨_, rfl⟩
  have HEs : Hid (es ++ [(f, v)] = es') := hes'
  have HN' : Hid (n + 1 = n') := hn'
  have hn2 : n' ≤ 100001 := by omega
  rw [hes', hn']
  clear h hf hes' hn'
  go_enter Tryz.func36, Tryz.ntmps36
  go_wp2_with fail
  refine HA.mono ?_
  rintro e w1 ⟨rfl, rfl⟩
  clear HA
  go_upto_region 4 with fail
  go_cut [22] from 23 to 34 (fun u22 wx => ∃ wy a' c', wy = wx ∧ Hid (Md wy B q E T a' n' c' es' pk) ∧ Hid (Stay w1 wy (mfp q a)) ∧ Hid (∀ k ∈ mfp q a', k ∈ mfp q a ∨ w1.heap.size ≤ k))
  case first =>
    have hba : Below w1.heap.size w1 (w1.alloc (.cells #[] 56)) := alloc_below w1 _
    have hca := (HM.out.keep hba).c0
    have HO0 : Hid (OwnQ (w1.alloc (.cells #[] 56)) w1.heap.size (some ⟨w1.heap.size, 0, none⟩) 0 0 []) := OwnQ.empty w1
    have HRp : Hid (RdP (w1.alloc (.cells #[] 56)) a n c es) := (HM.out.keep hba).row.rp
    have HSz : Hid (w1.heap.size ≤ (w1.alloc (.cells #[] 56)).heap.size) := hba.size
    have HBa : Hid (Below w1.heap.size w1 (w1.alloc (.cells #[] 56))) := hba
    clear hba
    go_wp2_with (at_builtin; first
      | (refine append_prs rfl (.tmp 22) (.tmp 26) rfl w1.heap.size rfl HO0.out rfl HRp.out (by omega) HSz.out ?_; intro a2 n2 c2 w2 hn2' HO2 HB2; rw [Nat.zero_add] at hn2'; replace hn2' := hn2'.symm; subst hn2'; have HBw : Hid (Below w1.heap.size w1 w2) := HBa.out.trans HB2.out; have HBx : Hid (Below w1.heap.size w1 (w2.alloc (.cells #[.string f, .string v] 56))) := HBw.out.trans ((alloc_below w2 _).mono HBw.out.size); have HO3 : Hid (OwnQ (w2.alloc (.cells #[.string f, .string v] 56)) w1.heap.size a2 n c2 ([] ++ es)) := HO2.out.keep (alloc_below w2 _))
      | (refine append_q rfl (.tmp 27) (.tmp 31) rfl w1.heap.size rfl HO3.out rfl (by simp; rfl) (by simp; rfl) (by omega) HBx.out.size ?_; intro a4 n4 c4 w4 hn4 HO4 HB4; have HB5 : Hid (Below w1.heap.size w1 w4) := HBx.out.trans HB4.out; have hc4 := (HM.out.keep HB5.out).c0; have hf4 := (HM.out.keep HB5.out).fz 0))
    go_meet
    subst hn4
    rw [← HN'.out]
    have hO4 := HO4.out
    rw [List.nil_append, HEs.out] at hO4
    exact ⟨_, a4, c4, rfl, HM.out.setR HB5.out hB hO4, (Stay.of_below HB5.out _).trans (M' := [q]) Stay.set (fun i hi => .inl (by rw [List.mem_singleton.1 hi]; exact List.mem_cons_self ..)), fun k hk => by
      rcases List.mem_cons.1 hk with rfl | hk
      · exact .inl (List.mem_cons_self ..)
      · exact .inr (Dk.OwnR.lt hO4 (Option.mem_toList.1 hk)).1⟩
  case rest =>
  obtain ⟨wx, a', c', rfl, HMd, HSt, HFp⟩ := hcut
  clear hc0
  have HMd' : Md wx.drew B q E T a' n' c' es' pk := HMd.out.keep (below_drewN wx 1)
  have hd0 := HMd'.c0
  have hd1 := HMd'.c1
  have hd2 := HMd'.c2
  have hd3 := HMd'.c3
  have hdf := HMd'.fz 1
  have HEnd : Hid (∀ b, MTo w1 (wx.drew.setCell ⟨q, 1, none⟩ (.bool b)) B q E T es' b (mfp q a)) := fun b => ⟨a', n', c', HMd'.setP b, (HSt.out.trans (M' := []) (Stay.of_below (below_drewN wx 1) []) (fun _ hi => absurd hi List.not_mem_nil)).trans (M' := [q]) Stay.set (fun i hi => .inl (by rw [List.mem_singleton.1 hi]; exact List.mem_cons_self ..)), HFp.out⟩
  have HNl : Hid (es'.length = n') := HMd'.len
  clear HMd'
  cases pk with
  | false =>
    have E1 : Hid (pk5 false n' E T f v = false) := by show _ = _; unfold pk5; simp
    go_wp2_with fail
    go_region
    all_goals
      go_wp2
      go_ret
      exact ⟨rfl, by rw [E1.out]; exact HEnd.out false⟩
  | true =>
    by_cases h1 : n' ≤ E
    · have z1 : decide (n' ≤ E) = true := decide_eq_true h1
      by_cases h2 : f.size ≤ T
      · have z2 : decide (f.size ≤ T) = true := decide_eq_true h2
        by_cases h3 : v.size ≤ T
        · have z3 : decide (v.size ≤ T) = true := decide_eq_true h3
          have E1 : Hid (pk5 true n' E T f v = true) := by show _ = _; unfold pk5; simp [h1, h2, h3]
          go_wp2_with fail
          go_region
          all_goals
            go_wp2
            go_ret
            exact ⟨rfl, by rw [E1.out]; exact HEnd.out true⟩
        · have z3 : decide (v.size ≤ T) = false := decide_eq_false h3
          have E1 : Hid (pk5 true n' E T f v = false) := by show _ = _; unfold pk5; simp [h3]
          go_wp2_with fail
          go_region
          all_goals
            go_wp2
            go_ret
            exact ⟨rfl, by rw [E1.out]; exact HEnd.out false⟩
      · have z2 : decide (f.size ≤ T) = false := decide_eq_false h2
        have E1 : Hid (pk5 true n' E T f v = false) := by show _ = _; unfold pk5; simp [h2]
        go_wp2_with fail
        go_region
        all_goals
          go_wp2
          go_ret
          exact ⟨rfl, by rw [E1.out]; exact HEnd.out false⟩
    · have z1 : decide (n' ≤ E) = false := decide_eq_false h1
      have E1 : Hid (pk5 true n' E T f v = false) := by show _ = _; unfold pk5; simp [h1]
      go_wp2_with fail
      go_region
      all_goals
        go_wp2
        go_ret
        exact ⟨rfl, by rw [E1.out]; exact HEnd.out false⟩
end Go.Proofs.YtembjlckcgginaaGreat

namespace Go.Proofs.YtembjlckcgginaaGreat
open Go.RowKit Go.PlainAid
open Dk (En Stay hasK putE delE getE keysOf Dct Dg dtag ecells Turn)

theorem ecells_set (l r : List En) (k u v : ByteArray) : (ecells (l ++ (k, u) :: r)).set (l.length * 2 + 1) (.string v) = ecells (l ++ (k, v) :: r) := by
  rw [Dk.ecells_append, Dk.ecells_append, List.set_append, if_neg (by rw [Dk.ecells_len]; omega), Dk.ecells_len, show l.length * 2 + 1 - l.length * 2 = 1 by omega]
  rfl
/-- p[i].Value = v. -/
theorem OwnQ.setV {w : World} {B : Nat} {a : Option Addr} {n c : Nat} {l r : List En} {k u : ByteArray} (h : OwnQ w B a n c (l ++ (k, u) :: r)) (v : ByteArray) :
    ∃ g, a = some ⟨g, 0, none⟩ ∧ (∃ u, w.cell? ⟨g, l.length * 2 + 1, none⟩ = some u) ∧ w.frozen? ⟨g, l.length * 2 + 1, none⟩ = false ∧ OwnQ (w.setCell ⟨g, l.length * 2 + 1, none⟩ (.string v)) B a n c (l ++ (k, v) :: r) := by
  have hlen := OwnQ.len h
  obtain ⟨g0, ha0, -, hc0⟩ := OwnQ.cell h (j := l.length) (by rw [← hlen, List.length_append, List.length_cons]; omega)
  rcases h.2 with ⟨h2, h3⟩ | ⟨g, c', cur, h1, h3, h4, h5, h6, h7, h8⟩
  · rw [List.length_append, List.length_cons] at hlen; omega
  · cases h1
    cases ha0
    refine ⟨g0, rfl, ⟨_, hc0⟩, by simp [World.frozen?, h4], by rw [Dk.ecells_len, List.length_append, List.length_cons]; rw [List.length_append, List.length_cons] at hlen; omega, .inr ⟨g0, c, cur.setIfInBounds (l.length * 2 + 1) (.string v), rfl, h3, Dk.heap_set h4 _, h5, h6, by simpa using h7, ?_⟩⟩
    rw [Array.toList_setIfInBounds, List.take_set, h8, ecells_set]

set_option maxRecDepth 100000 in
set_option maxHeartbeats 4000000 in
theorem set_old (B q E T : Nat) (a : Option Addr) (n c : Nat) (l r : List En) (u : ByteArray) (pk : Bool) (f v : ByteArray) (w : World) (h : Md w B q E T a n c (l ++ (f, u) :: r) pk) (hn : n ≤ 100000) (hf : f ∉ keysOf l) :
    Calls Tryz.prog 36 #[ptr q, .string f, .string v] w fun e w' => e = .returned (.bool false) ∧ MTo w w' B q E T (l ++ (f, v) :: r) (pk5 pk n E T f v) (mfp q a) := by
  have HA := at_yes B q E T a n c l r u pk f w h (by omega) hf
  have HM : Hid (Md w B q E T a n c (l ++ (f, u) :: r) pk) := h
  have hc0 := h.c0
  have hlt : l.length < n := by have := h.len; rw [List.length_append, List.length_cons] at this; omega
  obtain ⟨g, hg, hcell, hfz, hO⟩ := h.row.setV v
  have HG : Hid (a = some ⟨g, 0, none⟩) := hg
  obtain ⟨es', hes'⟩ : ∃ es', l ++ (f, v) :: r = es' := ⟨_, rfl⟩
  obtain ⟨i, hi⟩ : ∃ i, l.length = i := ⟨_, rfl⟩
  obtain ⟨n', hn'⟩ : ∃ n', n = n' := ⟨_, rfl⟩
  have HN' : Hid (n = n') := hn'
  rw [hi] at hlt hcell hfz hO HA
  have hgq : g ≠ q := h.nr g (by rw [hg]; rfl)
  have HMs : Hid (Md (w.setCell ⟨g, i * 2 + 1, none⟩ (.string v)) B q E T a n c es' pk) := by
    refine Md.mk ?_ (hes' ▸ hO) h.low
    rw [Below.heap_setCell _ _ _ _ (by simpa using hgq.symm)]
    exact h.blk
  have HSs : Hid (Stay w (w.setCell ⟨g, i * 2 + 1, none⟩ (.string v)) (mfp q a)) := (Stay.set (w := w)).mono (fun k hk => by
    rw [List.mem_singleton.1 hk, hg]
    exact List.mem_cons_of_mem _ (by simp))
  obtain ⟨old, hcell⟩ := hcell
  rw [hes', hn']
  rw [hg] at hc0
  clear h hf hes' hO hi hn'
  go_enter Tryz.func36, Tryz.ntmps36
  go_wp2_with fail
  refine HA.mono ?_
  rintro e w1 ⟨rfl, rfl⟩
  clear HA
  have hiz : (i : Int) < n := by omega
  go_upto_region 3 with fail
  go_cut [13] from 14 to 20 (fun u13 wx => ∃ wy, wy = wx ∧ Hid (Md wy B q E T a n' c es' pk) ∧ Hid (Stay w1 wy (mfp q a)))
  case first =>
    go_wp2
    go_meet
    exact ⟨_, rfl, by rw [← HN'.out]; exact HMs, HSs⟩
  case rest =>
  obtain ⟨wx, rfl, HMd, HSt⟩ := hcut
  obtain ⟨a', ha'⟩ : ∃ a', a' = a := ⟨_, rfl⟩
  obtain ⟨c', hc'⟩ : ∃ c', c' = c := ⟨_, rfl⟩
  rw [← ha', ← hc'] at HMd
  have HFp : Hid (∀ k ∈ mfp q a', k ∈ mfp q a ∨ w1.heap.size ≤ k) := fun k hk => .inl (by rw [← ha']; exact hk)
  have hn2 : n' ≤ 100001 := by have := HN'.out; omega
  clear hc0 hcell hfz HMs HSs ha' hc' hg
  have HMd' : Md wx.drew B q E T a' n' c' es' pk := HMd.out.keep (below_drewN wx 1)
  have hd0 := HMd'.c0
  have hd1 := HMd'.c1
  have hd2 := HMd'.c2
  have hd3 := HMd'.c3
  have hdf := HMd'.fz 1
  have HEnd : Hid (∀ b, MTo w1 (wx.drew.setCell ⟨q, 1, none⟩ (.bool b)) B q E T es' b (mfp q a)) := fun b => ⟨a', n', c', HMd'.setP b, (HSt.out.trans (M' := []) (Stay.of_below (below_drewN wx 1) []) (fun _ hi => absurd hi List.not_mem_nil)).trans (M' := [q]) Stay.set (fun i hi => .inl (by rw [List.mem_singleton.1 hi]; exact List.mem_cons_self ..)), HFp.out⟩
  have HNl : Hid (es'.length = n') := HMd'.len
  clear HMd'
  cases pk with
  | false =>
    have E1 : Hid (pk5 false n' E T f v = false) := by show _ = _; unfold pk5; simp
    go_wp2_with fail
    go_region
    all_goals
      go_wp2
      go_ret
      exact ⟨rfl, by rw [E1.out]; exact HEnd.out false⟩
  | true =>
    by_cases h1 : n' ≤ E
    · have z1 : decide (n' ≤ E) = true := decide_eq_true h1
      by_cases h2 : f.size ≤ T
      · have z2 : decide (f.size ≤ T) = true := decide_eq_true h2
        by_cases h3 : v.size ≤ T
        · have z3 : decide (v.size ≤ T) = true := decide_eq_true h3
          have E1 : Hid (pk5 true n' E T f v = true) := by show _ = _; unfold pk5; simp [h1, h2, h3]
          go_wp2_with fail
          go_region
          all_goals
            go_wp2
            go_ret
            exact ⟨rfl, by rw [E1.out]; exact HEnd.out true⟩
        · have z3 : decide (v.size ≤ T) = false := decide_eq_false h3
          have E1 : Hid (pk5 true n' E T f v = false) := by show _ = _; unfold pk5; simp [h3]
          go_wp2_with fail
          go_region
          all_goals
            go_wp2
            go_ret
            exact ⟨rfl, by rw [E1.out]; exact HEnd.out false⟩
      · have z2 : decide (f.size ≤ T) = false := decide_eq_false h2
        have E1 : Hid (pk5 true n' E T f v = false) := by show _ = _; unfold pk5; simp [h2]
        go_wp2_with fail
        go_region
        all_goals
          go_wp2
          go_ret
          exact ⟨rfl, by rw [E1.out]; exact HEnd.out false⟩
    · have z1 : decide (n' ≤ E) = false := decide_eq_false h1
      have E1 : Hid (pk5 true n' E T f v = false) := by show _ = _; unfold pk5; simp [h1]
      go_wp2_with fail
      go_region
      all_goals
        go_wp2
        go_ret
        exact ⟨rfl, by rw [E1.out]; exact HEnd.out false⟩

theorem del_no (B q E T : Nat) (a : Option Addr) (n c : Nat) (es : List En) (pk : Bool) (f : ByteArray) (w : World) (h : Md w B q E T a n c es pk) (hn : n ≤ 100000) (hf : f ∉ keysOf es) :
    Calls Tryz.prog 37 #[ptr q, .string f] w fun e w' => e = .returned (.bool false) ∧ w' = w := by
  have HA := at_no B q E T a n c es pk f w h (by omega) hf
  clear h hf
  go_enter Tryz.func37, Tryz.ntmps37
  go_wp2_with fail
  refine HA.mono ?_
  rintro e w1 ⟨rfl, rfl⟩
  go_wp2
  go_ret
  exact ⟨rfl, rfl⟩
set_option maxRecDepth 100000 in
set_option maxHeartbeats 4000000 in
theorem del_yes (B q E T : Nat) (a : Option Addr) (n c : Nat) (l r : List En) (u : ByteArray) (pk : Bool) (f : ByteArray) (w : World) (h : Md w B q E T a n c (l ++ (f, u) :: r) pk) (hB : B ≤ w.heap.size) (hn : n ≤ 100000) (hf : f ∉ keysOf l) :
    Calls Tryz.prog 37 #[ptr q, .string f] w fun e w' => e = .returned (.bool true) ∧ MTo w w' B q E T (l ++ r) pk (mfp q a) := by
  have HA := at_yes B q E T a n c l r u pk f w h (by omega) hf
  have HM : Hid (Md w B q E T a n c (l ++ (f, u) :: r) pk) := h
  have hlt : l.length < n := by have := h.len; rw [List.length_append, List.length_cons] at this; omega
  obtain ⟨a1, c1, hs1, hr1⟩ := h.row.rp.slice_h l.length (by omega)
  obtain ⟨a2, c2, hs2, hr2⟩ := h.row.rp.slice_l (l.length + 1) (by omega)
  rw [List.take_append_of_le_length (Nat.le_refl _), List.take_length] at hr1
  rw [List.drop_append, List.drop_of_length_le (by omega), show l.length + 1 - l.length = 1 by omega] at hr2
  replace hr2 : RdP w a2 (n - (l.length + 1)) c2 r := hr2
  have HR1 : Hid (RdP w a1 l.length c1 l) := hr1
  have HR2 : Hid (RdP w a2 (n - (l.length + 1)) c2 r) := hr2
  have HL : Hid (l.length + (n - (l.length + 1)) ≤ 100000) := by show _ ≤ _; omega
  obtain ⟨i, hi⟩ : ∃ i, l.length = i := ⟨_, rfl⟩
  rw [hi] at hlt hs1 hs2 HA HR1 HR2 HL
  obtain ⟨i1, hi1⟩ : ∃ i1, i + 1 = i1 := ⟨_, rfl⟩
  obtain ⟨k2, hk2⟩ : ∃ k2, n - (i + 1) = k2 := ⟨_, rfl⟩
  rw [hk2] at hs2 HR2 HL
  rw [hi1] at hs2
  have hw1 : IntKind.i64.wrap ((i : Int) + 1) = (i1 : Int) := by rw [IntKind.wrap_i64]; omega
  obtain ⟨es', hes'⟩ : ∃ es', l ++ r = es' := ⟨_, rfl⟩
  have HEs : Hid (l ++ r = es') := hes'
  rw [hes']
  clear h hf hr1 hr2 hi hi1 hk2 hes'
  go_enter Tryz.func37, Tryz.ntmps37
  go_wp2_with fail
  refine HA.mono ?_
  rintro e w1 ⟨rfl, rfl⟩
  clear HA
  have hbd : Below w1.heap.size w1 w1.drew := below_drewN w1 1
  have hba : Below w1.heap.size w1 (w1.alloc (.cells #[] 56)).drew := (alloc_below w1 _).trans ((below_drewN _ 1).mono (alloc_below w1 _).size)
  have hcd := (HM.out.keep hbd).c0
  have hca := (HM.out.keep hba).c0
  have HO0 : Hid (OwnQ (w1.alloc (.cells #[] 56)).drew w1.heap.size (some ⟨w1.heap.size, 0, none⟩) 0 0 []) := (OwnQ.empty w1).keep (below_drewN _ 1)
  have HRa : Hid (RdP (w1.alloc (.cells #[] 56)).drew a1 i c1 l) := HR1.out.keep hba
  have HBa : Hid (Below w1.heap.size w1 (w1.alloc (.cells #[] 56)).drew) := hba
  have hL1 : 0 + i ≤ 1000000 := by have := HL.out; omega
  have hL2 : i + k2 ≤ 1000000 := by have := HL.out; omega
  clear hbd hba
  go_upto_region 4 with fail
  go_cut [11, 12] from 13 to 29 (fun u11 u12 wx => ∃ wy a' n' c', wy = wx ∧ Hid (Md wy B q E T a' n' c' es' pk) ∧ Hid (Stay w1 wy (mfp q a)) ∧ Hid (∀ k ∈ mfp q a', k ∈ mfp q a ∨ w1.heap.size ≤ k))
  case first =>
    go_region_law (first
      | (refine step_append_prs rfl (.tmp 12) (.tmp 18) rfl w1.heap.size (by simp [Act.eval, Act.put] <;> rfl) HO0.out (by simp [Act.eval, Act.put] <;> rfl) HRa.out hL1 HBa.out.size ?_; intro b2 n2 d2 w2 hn2' HO2 HB2; rw [Nat.zero_add] at hn2'; replace hn2' := hn2'.symm; subst hn2'; have HBw : Hid (Below w1.heap.size w1 w2) := HBa.out.trans HB2.out; have hc2 := (HM.out.keep HBw.out).c0; have HR2w : Hid (RdP w2 a2 k2 c2 r) := HR2.out.keep HBw.out)
      | (refine step_append_prs rfl (.tmp 19) (.tmp 26) rfl w1.heap.size (by simp [Act.eval, Act.put] <;> rfl) HO2.out (by simp [Act.eval, Act.put] <;> rfl) HR2w.out hL2 HBw.out.size ?_; intro b4 n4 d4 w4 hn4 HO4 HB4; have HB5 : Hid (Below w1.heap.size w1 w4) := HBw.out.trans HB4.out; have hc4 := (HM.out.keep HB5.out).c0; have hf4 := (HM.out.keep HB5.out).fz 0))
    all_goals
      go_wp2
      go_meet
      subst hn4
      have hO4 := HO4.out
      rw [List.nil_append, HEs.out] at hO4
      exact ⟨_, b4, i + k2, d4, rfl, HM.out.setR HB5.out hB hO4, (Stay.of_below HB5.out _).trans (M' := [q]) Stay.set (fun i hi => .inl (by rw [List.mem_singleton.1 hi]; exact List.mem_cons_self ..)), fun k hk => by
        rcases List.mem_cons.1 hk with rfl | hk
        · exact .inl (List.mem_cons_self ..)
        · exact .inr (Dk.OwnR.lt hO4 (Option.mem_toList.1 hk)).1⟩
  case rest =>
  obtain ⟨wx, a', n', c', rfl, HMd, HSt, HFp⟩ := hcut
  go_wp2
  go_ret
  exact ⟨rfl, a', n', c', HMd.out, HSt.out, HFp.out⟩
end Go.Proofs.YtembjlckcgginaaGreat
