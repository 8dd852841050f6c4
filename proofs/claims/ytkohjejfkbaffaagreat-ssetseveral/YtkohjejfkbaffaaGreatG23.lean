/-
  Rows of sets and of plain rows, side by side.
-/
import Derived.Test.YtkohjejfkbaffaaGreatG22
import Derived.Test.YtkohjejfkbaffaaGreatG19
namespace Go.Proofs.YtkohjejfkbaffaaGreat
open Go.RowKit Go.PlainAid
open Dk (En Stay hasK putE delE keysOf Dct Dg dtag Turn)

/-- The types of these rows' blocks. -/
def apartT (t : TypeId) : Bool := t == 27 || t == 40
/-- All is as it was, but for such rows, and what is new. -/
structure Vm (w w' : World) : Prop where
  os : w'.os = w.os
  tape : w'.tape = w.tape
  output : w'.output = w.output
  size : w.heap.size ≤ w'.heap.size
  block : ∀ (k : Nat) (cs : Array Value) (t : TypeId), w.heap[k]? = some (.cells cs t (0, 0)) → apartT t = false → w'.heap[k]? = w.heap[k]?
theorem Vm.of_below {w w' : World} (h : Below w.heap.size w w') : Vm w w' := ⟨h.os, h.tape, h.output, h.size, fun k _ _ hk _ => h.block k (Array.getElem?_eq_some_iff.1 hk).1⟩
theorem Vm.trans {w w1 w2 : World} (h : Vm w w1) (k : Vm w1 w2) : Vm w w2 :=
  ⟨k.os.trans h.os, k.tape.trans h.tape, k.output.trans h.output, Nat.le_trans h.size k.size, fun i cs t hi ht => by
    have h1 := h.block i cs t hi ht
    exact (k.block i cs t (h1.trans hi) ht).trans h1⟩
theorem Vm.of_grown {w w2 : World} {B : Nat} {e : TypeId} {s : Nat} {a : Option Addr} {n cap : Nat} {cs : List Value} (h : Dk.OwnR w B e s a n cap cs) (hg : w.grownBy w2 (a.map (·.block))) (he : apartT e = true) : Vm w w2 := by
  have hs : Stay w w2 (a.map (·.block)).toList := Stay.grown hg (fun g hg => by rw [hg]; simp)
  refine ⟨hs.os, hs.tape, hs.output, hs.size, fun k cs' t hk ht => hs.block k (Array.getElem?_eq_some_iff.1 hk).1 (fun hm => ?_)⟩
  obtain ⟨-, -, cur, h3⟩ := h.lt (Option.mem_toList.1 hm)
  rw [h3] at hk
  simp at hk
  rw [← hk.2, he] at ht
  cases ht
/-- The blocks that may turn. -/
def mof (w : World) : List Nat := (List.range w.heap.size).filter fun k => match w.heap[k]? with
  | some (.cells _ t (0, 0)) => apartT t
  | _ => true
theorem Vm.stay {w w' : World} (h : Vm w w') : Stay w w' (mof w) := by
  refine ⟨h.os, h.tape, h.output, h.size, fun k hk hm => ?_⟩
  unfold mof at hm
  rw [List.mem_filter] at hm
  replace hm : ¬ _ = true := fun h => hm ⟨List.mem_range.2 hk, h⟩
  split at hm
  · rename_i cs t he
    exact h.block k cs t he (by simpa using hm)
  · exact absurd rfl hm
theorem not_mof {w : World} {k : Nat} {cs : Array Value} {t : TypeId} (h : w.heap[k]? = some (.cells cs t (0, 0))) (ht : apartT t = false) : k ∉ mof w := by
  unfold mof
  rw [List.mem_filter]
  rintro ⟨-, h2⟩
  rw [h] at h2
  replace h2 : apartT t = true := h2
  rw [ht] at h2
  cases h2
theorem apart_h : ∀ t, htag t = true → apartT t = false := by
  intro t h
  cases e : apartT t with
  | false => rfl
  | true =>
    unfold apartT at e
    simp only [Bool.or_eq_true, beq_iff_eq] at e
    rcases e with rfl | rfl
    · revert h; decide
    · revert h; decide
theorem SetV.vm {w w' : World} {v : Value} {l : List ByteArray} (h : SetV w v l) (hv : Vm w w') : SetV w' v l := by
  rcases h with h | ⟨m, B, x, E, T, pk, F, h1, h2⟩
  · exact .inl h
  · refine .inr ⟨m, B, x, E, T, pk, F, h1, h2.stay hv.stay (fun k hk => ?_)⟩
    obtain ⟨-, -, cs, t, h3, h4⟩ := h2.tags k hk
    exact not_mof h3 (apart_h t h4)
theorem OwnS.vm {w w' : World} {B : Nat} {a : Option Addr} {n c : Nat} {l : List ByteArray} (h : OwnS w B a n c l) (hv : Vm w w') : OwnS w' B a n c l := by
  refine Dk.OwnR.stay (h : Dk.OwnR w B 9 1 a n c _) hv.stay (fun k hk => ?_)
  obtain ⟨-, -, cur, h3⟩ := Dk.OwnR.lt (h : Dk.OwnR w B 9 1 a n c _) hk
  exact not_mof h3 (by decide)

/-- Rows of values. -/
abbrev OwnV (w : World) (B : Nat) (a : Option Addr) (n c : Nat) (vs : List Value) : Prop := Dk.OwnR w B 27 1 a n c vs
abbrev OwnG (w : World) (B : Nat) (a : Option Addr) (n c : Nat) (us : List Value) : Prop := Dk.OwnR w B 40 1 a n c us
theorem Tryz.infoV : (Tryz.prog.info? 27).map (fun i => (i.zero, i.size, i.bytes)) = some (some (.pointer none), 1, 8) := by kernel_rfl
theorem eltV : Dk.Elt 46 27 1 8 := Dk.elt_of Tryz.underlying46 Tryz.infoV rfl (by decide)
theorem Tryz.infoGS : (Tryz.prog.info? 40).map (fun i => (i.zero, i.size, i.bytes)) = some (some (.slice none 0 0), 1, 24) := by kernel_rfl
theorem eltG : Dk.Elt 47 40 1 24 := Dk.elt_of Tryz.underlying47 Tryz.infoGS rfl (by decide)
theorem one_cell {w : World} {g : Nat} {v : Value} (h : w.cell? ⟨g, 0, none⟩ = some v) : ∀ j u, [v][j]? = some u → w.cell? ((⟨g, 0, none⟩ : Addr).add j) = some u := by
  intro j u hu
  cases j with
  | zero => rw [add_flat, h]; exact hu
  | succ j => simp at hu

/-- So far: the sets, and their plain rows. -/
def Sv (w : World) (B i : Nat) (sa : Option Addr) (sc : Nat) (pa : Option Addr) (pc : Nat) (ls : List (List ByteArray)) : Prop :=
  ∃ vs us, OwnV w B sa i sc vs ∧ OwnG w B pa i pc us ∧ ls.length = i ∧ ls.flatten.length ≤ 1600 * i ∧ ∀ j, j < i → ∃ v a' n' c', vs[j]? = some v ∧ us[j]? = some (.slice a' n' c') ∧ SetV w v (ls.getD j []) ∧ OwnS w 0 a' n' c' (ls.getD j [])
theorem Sv.start (w : World) (B : Nat) : Sv w B 0 none 0 none 0 [] := ⟨[], [], Dk.OwnR.nil _ _ _ _, Dk.OwnR.nil _ _ _ _, rfl, Nat.le_refl _, fun _ hj => absurd hj (Nat.not_lt_zero _)⟩
theorem Sv.rdt {w : World} {B i : Nat} {sa : Option Addr} {sc : Nat} {pa : Option Addr} {pc : Nat} {ls : List (List ByteArray)} (h : Sv w B i sa sc pa pc ls) (hi : i ≤ 4) : RdT w sa i ls ∧ RdG w pa i ls ∧ i ≤ sc := by
  obtain ⟨vs, us, h1, h2, h3, h4, h5⟩ := h
  refine ⟨⟨h3, by omega, fun j hj => ?_⟩, ⟨h3, by omega, fun j hj => ?_⟩, (Dk.OwnR.cap h1).1⟩
  · obtain ⟨v, a', n', c', k1, k2, k3, k4⟩ := h5 j hj
    obtain ⟨g, e, hc⟩ := Dk.OwnR.at h1 (by omega)
    exact ⟨g, 0, v, e, by rw [Nat.zero_add]; exact hc j v k1, k3⟩
  · obtain ⟨v, a', n', c', k1, k2, k3, k4⟩ := h5 j hj
    obtain ⟨g, e, hc⟩ := Dk.OwnR.at h2 (by omega)
    exact ⟨g, 0, a', n', c', e, by rw [Nat.zero_add]; exact hc j _ k2, k4⟩
/-- One more of both. -/
theorem Sv.more {w w' : World} {B i : Nat} {sa' : Option Addr} {sc' : Nat} {pa' : Option Addr} {pc' : Nat} {ls : List (List ByteArray)} {vs us : List Value} {v : Value} {a' : Option Addr} {n' c' : Nat} {l : List ByteArray}
    (hl : ls.length = i) (hf : ls.flatten.length ≤ 1600 * i) (h5 : ∀ j, j < i → ∃ v a' n' c', vs[j]? = some v ∧ us[j]? = some (.slice a' n' c') ∧ SetV w v (ls.getD j []) ∧ OwnS w 0 a' n' c' (ls.getD j []))
    (hvl : vs.length = i) (hul : us.length = i) (hv : Vm w w') (h1 : OwnV w' B sa' (i + 1) sc' (vs ++ [v])) (h2 : OwnG w' B pa' (i + 1) pc' (us ++ [.slice a' n' c'])) (hV : SetV w v l) (hO : OwnS w 0 a' n' c' l) (hll : l.length ≤ 1600) : Sv w' B (i + 1) sa' sc' pa' pc' (ls ++ [l]) := by
  refine ⟨_, _, h1, h2, by rw [List.length_append, hl]; rfl, by rw [List.flatten_append, List.length_append]; simp only [List.flatten_cons, List.flatten_nil, List.append_nil]; omega, fun j hj => ?_⟩
  rcases Nat.lt_or_ge j i with h3 | h3
  · obtain ⟨v1, a1, n1, c1, k1, k2, k3, k4⟩ := h5 j h3
    have e : (ls ++ [l]).getD j [] = ls.getD j [] := by rw [List.getD_eq_getElem?_getD, List.getElem?_append_left (by omega), List.getD_eq_getElem?_getD]
    rw [e]
    exact ⟨v1, a1, n1, c1, by rw [List.getElem?_append_left (by omega)]; exact k1, by rw [List.getElem?_append_left (by omega)]; exact k2, k3.vm hv, OwnS.vm k4 hv⟩
  · obtain rfl : j = i := by omega
    have e : (ls ++ [l]).getD j [] = l := by rw [List.getD_eq_getElem?_getD, List.getElem?_append_right (by omega), show j - ls.length = 0 by omega]; rfl
    rw [e]
    exact ⟨v, a', n', c', by rw [List.getElem?_append_right (by omega), show j - vs.length = 0 by omega]; rfl, by rw [List.getElem?_append_right (by omega), show j - us.length = 0 by omega]; rfl, hV.vm hv, OwnS.vm hO hv⟩
/-- Rows of the same, each once. -/
theorem perm_of2 {l r : List ByteArray} (hl : l.Nodup) (hr : r.Nodup) (h : ∀ s, s ∈ l ↔ s ∈ r) : l.Perm r := (List.perm_ext_iff_of_nodup hl hr).2 h
/-- What the document's own tells of several is what the program tells. -/
theorem sev_union {ls : List (List ByteArray)} {r t : List ByteArray} (h : sevP (fun _ _ => true) ls r) (k : UniP ls t) : t.Perm r := by
  refine perm_of2 k.1.1 h.1 fun s => ?_
  rw [k.1.2 s, h.2.1 s]
  constructor
  · rintro ⟨l, hl, hs⟩
    obtain ⟨i, hi, e⟩ := List.getElem_of_mem hl
    exact ⟨i, hi, by rw [List.getD_eq_getElem?_getD, List.getElem?_eq_getElem hi]; exact e ▸ hs, rfl⟩
  · rintro ⟨i, hi, hs, -⟩
    exact ⟨_, getD_memL hi, hs⟩
theorem cnt_all {ls : List (List ByteArray)} {s : ByteArray} : cntL ls s = ls.length ↔ ∀ l ∈ ls, s ∈ l := by
  unfold cntL
  rw [List.length_filter_eq_length_iff]
  exact ⟨fun h l hl => hasM_iff.1 (h l hl), fun h l hl => hasM_iff.2 (h l hl)⟩
theorem sev_inter {ls : List (List ByteArray)} {r t : List ByteArray} (h : sevP (fun _ m => m == ls.length) ls r) (k : IntP ls t) : t.Perm r := by
  refine perm_of2 k.1.1 h.1 fun s => ?_
  rw [k.1.2 s, h.2.1 s]
  constructor
  · rintro ⟨hne, hs⟩
    have hp : 0 < ls.length := List.length_pos_iff.2 hne
    exact ⟨0, hp, hs _ (getD_memL hp), beq_iff_eq.2 (cnt_all.2 hs)⟩
  · rintro ⟨i, hi, hs, hc⟩
    exact ⟨fun e => by rw [e] at hi; exact absurd hi (Nat.not_lt_zero _), cnt_all.1 (beq_iff_eq.1 hc)⟩
theorem sev_diff {l0 : List ByteArray} {lt : List (List ByteArray)} {r t : List ByteArray} (h : sevP (fun i m => i == 0 && m == 1) (l0 :: lt) r) (k : DifP (l0 :: lt) t) : t.Perm r := by
  refine perm_of2 k.1.1 h.1 fun s => ?_
  rw [k.1.2 s, h.2.1 s]
  have hc : s ∈ l0 → (cntL (l0 :: lt) s = 1 ↔ ∀ l ∈ lt, s ∉ l) := fun hs => by
    unfold cntL
    rw [List.filter_cons, if_pos (hasM_yes hs), List.length_cons]
    constructor
    · intro e l hl hm
      have h0 : (lt.filter fun l => hasM l s).length = 0 := by omega
      have : l ∈ lt.filter fun l => hasM l s := List.mem_filter.2 ⟨hl, hasM_yes hm⟩
      rw [List.eq_nil_of_length_eq_zero h0] at this
      exact absurd this List.not_mem_nil
    · intro hn
      have h0 : lt.filter (fun l => hasM l s) = [] := List.filter_eq_nil_iff.2 fun l hl hm => hn l hl (hasM_iff.1 hm)
      rw [h0]; rfl
  constructor
  · rintro ⟨x, y, e, hs, hn⟩
    cases e
    exact ⟨0, Nat.zero_lt_succ _, hs, by rw [(hc hs).2 hn]; rfl⟩
  · rintro ⟨i, hi, hs, ht⟩
    simp only [Bool.and_eq_true, beq_iff_eq] at ht
    obtain ⟨rfl, ht⟩ := ht
    exact ⟨l0, lt, rfl, hs, (hc hs).1 ht⟩
theorem sev_none {r : List ByteArray} {tk : Nat → Nat → Bool} (h : sevP tk [] r) : r = [] := by
  have := h.2.2
  simp at this
  exact this
end Go.Proofs.YtkohjejfkbaffaaGreat
