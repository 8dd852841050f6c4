/-
  Roomy, Same, Intact.
-/
import Derived.Test.YtemiajjjhhofaaaKeep
import Derived.Laws.CopyOwn
namespace Go.Proofs.Ytemiajjjhhofaaa
open Go.RowKit Go.PlainAid

/-- What stands at a place while the room is filled. -/
def fillF (l : List UInt8) (k j : Nat) : UInt8 := if j < l.length then l.getD j 0 else if j < l.length + k then 165 else 0
def fillV (l : List UInt8) (k : Nat) : Nat → Value := fun j => .int .u8 ((fillF l k j).toNat : Nat)

theorem Own.of_row {w : World} {g m B : Nat} (L : List UInt8) (f : Nat → Value) (h : w.rowIs g 5 m f) (hf : ∀ j, j < m → f j = .int .u8 ((L.getD j 0).toNat : Nat)) (hl : L.length = m) (hB : B ≤ g) (hm : m ≤ maxLen) :
    Own w B (some ⟨g, 0, none⟩) m m L := by
  obtain ⟨c, h1, h2, h3⟩ := h
  refine ⟨by simp [cells, hl], .inr ⟨g, m, c, rfl, hB, h1, Nat.le_refl _, hm, by omega, ?_⟩⟩
  rw [List.take_of_length_le (by simp [h2])]
  apply List.ext_getElem?
  intro j
  rcases Nat.lt_or_ge j m with hj | hj
  · rw [Array.getElem?_toList, h3 j hj, hf j hj]
    simp only [cells, List.getElem?_map, List.getD_eq_getElem?_getD]
    rw [List.getElem?_eq_getElem (by omega)]; rfl
  · rw [List.getElem?_eq_none (by simp [h2]; exact hj), List.getElem?_eq_none (by simp [cells, hl]; exact hj)]

theorem row_spliced (w : World) (g m : Nat) (l : List UInt8) (cur : List Value) (hm : m = l.length + 80) (hc : cur = List.replicate m (.int .u8 0))
    (h : w.heap[g]? = some (.cells (splice cur 0 (cells l)).toArray 5 (0, 0))) : w.rowIs g 5 m (fillV l 0) := by
  have hlen : (cells l).length = l.length := by simp [cells]
  refine ⟨_, h, ?_, fun j hj => ?_⟩
  · rw [List.size_toArray, length_splice _ _ _ (by rw [hc, List.length_replicate, hlen]; omega), hc, List.length_replicate]
  · rw [List.getElem?_toArray]
    unfold splice fillV fillF
    rw [List.take_zero, List.nil_append, Nat.zero_add, Nat.add_zero]
    by_cases hjl : j < l.length
    · rw [if_pos hjl, List.getElem?_append_left (by rw [hlen]; exact hjl)]
      simp only [cells, List.getElem?_map, List.getD_eq_getElem?_getD]
      rw [List.getElem?_eq_getElem hjl]; rfl
    · rw [if_neg hjl, if_neg hjl, List.getElem?_append_right (by rw [hlen]; omega), hlen, hc, List.drop_replicate, List.getElem?_replicate, if_pos (by omega)]; rfl

theorem made_list (n : Nat) : madeCells #[.int .u8 0] n = (List.replicate n (Value.int .u8 0)).toArray := by
  apply Array.ext
  · simp [madeCells]
  · intro i h1 h2
    simp [madeCells, Nat.mod_one]

/-- copy(full, l), full new and longer by 80. -/
theorem copy_row {w : World} {ops : Array Oper} {rest : List Oper} {o : Oper} {ac : Act} {Q : Exit → Act → World → Prop} (hgd : o.guard = none) (d s : Operand) (ho : o.op = .call { callee := .builtin .copy, args := #[d, s], argTypes := #[30, 30] })
    {a : Option Addr} {n cap g : Nat} {l : List UInt8} (hd : ac.eval d = .slice (some ⟨g, 0, none⟩) (n + 80) (n + 80)) (hs : ac.eval s = .slice a n cap) (hR : Rd w a n cap l)
    (hg : w.heap[g]? = some (.cells (List.replicate (n + 80) (Value.int .u8 0)).toArray 5 (0, 0))) (B : Nat) (w0 : World) (hb : Below B w0 w) (hB : B ≤ g)
    (h : ∀ w', w'.rowIs g 5 (n + 80) (fillV l 0) → Below B w0 w' → wpList Try.prog ops Q rest (ac.put o.dst (goInt (cells l).length)) w') : wpList Try.prog ops Q (o :: rest) ac w := by
  have hl := hR.len
  have hcl : (cells l).length = n := by simp [cells, hl]
  refine wpList_copy_splice hgd d s 30 30 ho 5 Try.underlying30 (by kernel_rfl) _ _ _ _ _ _ hd hs g 0 _ 5 hg (cells l) ?_ ?_ ?_ (cells_one l) B w0 hb hB ?_
  · rw [hcl]; exact (Nat.min_eq_left (by omega)).symm
  · intro hpos
    refine ⟨rfl, ?_⟩
    obtain ⟨b, off, e, -⟩ := hR.cell 0 (by omega)
    subst e
    refine ⟨_, rfl, fun j v hv => ?_⟩
    simp only [cells, List.getElem?_map] at hv
    have hj : j < l.length := by
      rcases Nat.lt_or_ge j l.length with h | h
      · exact h
      · rw [List.getElem?_eq_none h] at hv; cases hv
    obtain ⟨b', off', e, hc⟩ := hR.cell j (by omega)
    cases e
    rw [add_flat, hc, List.getD_eq_getElem?_getD]
    rw [List.getElem?_eq_getElem hj] at hv ⊢
    exact hv
  · rw [List.length_replicate, hcl]; omega
  · intro w' h1 h2
    exact h w' (row_spliced w' g (n + 80) l _ (by omega) rfl h1) h2

theorem fill_last (l : List UInt8) (n j : Nat) (hl : l.length = n) (hj : j < n + 80) : fillV l 80 j = .int .u8 (((l ++ List.replicate 80 165).getD j 0).toNat : Nat) := by
  unfold fillV fillF
  rw [List.getD_eq_getElem?_getD (l := l ++ List.replicate 80 165)]
  by_cases h : j < l.length
  · rw [if_pos h, List.getElem?_append_left h, List.getD_eq_getElem?_getD]
  · rw [if_neg h, if_pos (by omega), List.getElem?_append_right (by omega), List.getElem?_replicate, if_pos (by omega)]; rfl

set_option maxRecDepth 100000 in
set_option maxHeartbeats 4000000 in
theorem Roomy_any (a : Option Addr) (n cap : Nat) (l : List UInt8) (w : World) (hR : Rd w a n cap l) (hn : n ≤ 140737488355328) :
    Calls Try.prog 19 #[.slice a n cap, .int .u8 165] w fun e w' => Makes w (l ++ List.replicate 80 165) e w' := by
  have HL : Hid (l.length = n) := hR.len
  have hmk := run_make_row' (P := Try.prog) 30 5 (.int .u8 0) 1 Try.underlying30 Try.info5 rfl .i64 .i64 (n + 80) (by omega) (by omega)
  rw [show ((n + 80 : Nat) : Int) = (n : Int) + 80 by omega] at hmk
  obtain ⟨wf, hwf⟩ : ∃ wf, w.alloc (.cells (madeCells #[.int .u8 0] (n + 80)) 5) = wf := ⟨_, rfl⟩
  have HG0 : Hid (wf.heap[w.heap.size]? = some (.cells (List.replicate (n + 80) (.int .u8 0)).toArray 5 (0, 0))) := by
    show _ = _
    rw [← hwf, heap_alloc_new, made_list]
  have HB0 : Hid (Below w.heap.size w wf) := by show Below _ _ _; rw [← hwf]; exact alloc_below w _
  have HR : Hid (Rd wf a n cap l) := hR.keep HB0.out
  have hcl : (cells l).length = n := by simp [cells, hR.len]
  have HCL : Hid ((cells l).length = n) := hcl
  obtain ⟨g, hg⟩ : ∃ g, w.heap.size = g := ⟨_, rfl⟩
  have HGw : Hid (w.heap.size = g) := hg
  rw [hg] at HG0 HB0
  clear hR hcl
  go_enter Try.func19, Try.ntmps19
  go_wp2_with (refine copy_row rfl (.tmp 11) (.tmp 12) rfl rfl rfl HR.out HG0.out g w HB0.out (Nat.le_refl _) ?_; intro w2 hr2 hb2; have HR2 : Hid (w2.rowIs g 5 (n + 80) (fillV l 0)) := hr2; have HB2 : Hid (Below g w w2) := hb2; rw [HCL.out]; clear hr2 hb2)
  go_loopg [6] 80 (fun q iv wr => ∃ (k : Nat), k + q = 80 ∧ iv = .int .i64 ((n : Int) + k) ∧ Hid (wr.rowIs g 5 (n + 80) (fillV l k)) ∧ Hid (Below g w wr))
  case atStart => exact ⟨0, by omega, by go_num, HR2, HB2⟩
  case round =>
    obtain ⟨k, hk, rfl, HW, HB⟩ := hrel
    by_cases h8 : k < 80
    · have hc := HW.out.cell (i := n + k) (by omega)
      have hf := HW.out.frozen (n + k)
      generalize fillV l k (n + k) = v at hc
      have HN : Hid ((wr.setCell ⟨g, n + k, none⟩ (.int .u8 165)).rowIs g 5 (n + 80) (fillV l (k + 1))) := by
        refine (HW.out.set (n + k) (.int .u8 165)).congr fun j hj => ?_
        have := HL.out
        unfold fillV fillF
        by_cases hjk : j = n + k
        · rw [if_pos hjk, if_neg (by omega), if_pos (by omega)]; rfl
        · rw [if_neg hjk]
          by_cases h1 : j < l.length
          · rw [if_pos h1, if_pos h1]
          · rw [if_neg h1, if_neg h1]
            by_cases h2 : j < l.length + k
            · rw [if_pos h2, if_pos (by omega)]
            · rw [if_neg h2, if_neg (by omega)]
      have HBn : Hid (Below g w (wr.setCell ⟨g, n + k, none⟩ (.int .u8 165))) := HB.out.setCell (Nat.le_refl _) _
      have hkz : (n : Int) + k < n + 80 := by omega
      have hk0 : 0 ≤ (n : Int) + k := by omega
      have htn : ((n : Int) + (k : Int)).toNat = n + k := by omega
      go_wp2
      go_roundg (gk - 1)
      case measure => omega
      case rel => exact ⟨k + 1, by omega, by go_num, HN, HBn⟩
    · have hk8 : k = 80 := by omega
      subst hk8
      have HO : Hid (Own wr g (some ⟨g, 0, none⟩) (n + 80) (n + 80) (l ++ List.replicate 80 165)) :=
        Own.of_row _ _ HW.out (fun j hj => fill_last l n j HL.out hj) (by simp [HL.out]) (Nat.le_refl _) (by unfold maxLen; omega)
      go_wp2
      go_ret
      refine ⟨by rw [HGw.out]; exact HB.out, _, _, _, rfl, ?_⟩
      rw [HGw.out]; exact HO.out

set_option maxRecDepth 100000 in
set_option maxHeartbeats 4000000 in
theorem Same_any (a a' : Option Addr) (n cap cap' : Nat) (l : List UInt8) (w : World) (hR : Rd w a n cap l) (hR' : Rd w a' n cap' l) :
    Calls Try.prog 41 #[.slice a n cap, .slice a' n cap'] w fun e w' => Below w.heap.size w w' ∧ e = .returned (.bool true) := by
  have hn : n ≤ 9223372036854775807 := Nat.le_trans hR.fit hR.max
  have HR : Hid (Rd w a n cap l) := hR
  have HR' : Hid (Rd w a' n cap' l) := hR'
  have H0 : Hid (Below w.heap.size w w) := Below.refl _ _
  clear hR hR'
  go_enter Try.func41, Try.ntmps41
  go_wp2
  go_loopg [5] n (fun q iv wr => ∃ (k : Nat), k + q = n ∧ iv = .int .i64 k ∧ Hid (Below w.heap.size w wr))
  case atStart => exact ⟨0, by omega, rfl, H0⟩
  case round =>
    obtain ⟨k, hk, rfl, HB⟩ := hrel
    by_cases h8 : (k : Int) < n
    · obtain ⟨b, off, ha, hc⟩ := (HR.out.keep HB.out).cell k (by omega)
      subst ha
      obtain ⟨b', off', ha, hc'⟩ := (HR'.out.keep HB.out).cell k (by omega)
      subst ha
      obtain ⟨X, hX⟩ : ∃ X : Int, ((l.getD k 0).toNat : Int) = X := ⟨_, rfl⟩
      rw [hX] at hc hc'
      clear hX
      go_wp2
      go_quiet (fail)
      go_wp2
      go_roundg (gk - 1)
      case measure => omega
      case rel => exact ⟨k + 1, by omega, by go_num, step_below HB (below_drewN _ _)⟩
    · go_wp2
      go_ret
      exact ⟨HB.out, rfl⟩

set_option maxRecDepth 100000 in
set_option maxHeartbeats 4000000 in
theorem Intact_any (a a' : Option Addr) (n cap cap' : Nat) (l : List UInt8) (w : World) (hR : Rd w a (n + 80) cap (l ++ List.replicate 80 165)) (hR' : Rd w a' n cap' l) :
    Calls Try.prog 21 #[.slice a (n + 80) cap, .slice a' n cap', .int .u8 165] w fun e w' => Below w.heap.size w w' ∧ e = .returned (.bool true) := by
  have hn : n + 80 ≤ 9223372036854775807 := Nat.le_trans hR.fit hR.max
  obtain ⟨a1, c1, hsl, hR1⟩ := hR.slice_h n (by omega)
  have htk : (l ++ List.replicate 80 165).take n = l := by rw [← hR'.len]; simp
  rw [htk] at hR1
  have HS := fun w1 (e : Rd w1 a1 n c1 l) (e' : Rd w1 a' n cap' l) => Same_any a1 a' n c1 cap' l w1 e e'
  have HR : Hid (Rd w a (n + 80) cap (l ++ List.replicate 80 165)) := hR
  have HR1 : Hid (Rd w a1 n c1 l) := hR1
  have HR' : Hid (Rd w a' n cap' l) := hR'
  have HL : Hid (l.length = n) := hR'.len
  have H0 : Hid (Below w.heap.size w w) := Below.refl _ _
  have hq : (((n + 80 : Nat) : Int) != (n : Int) + 80) = false := by simp
  obtain ⟨m, hm⟩ : ∃ m, n + 80 = m := ⟨_, rfl⟩
  have hmz : (m : Int) = (n : Int) + 80 := by omega
  have HM : Hid (n + 80 = m) := hm
  rw [hm] at HR hsl ⊢
  have hnm : (n : Int) + 80 ≤ 9223372036854775807 := by omega
  clear hR hR' hR1 htk hq hm hn
  go_enter Try.func21, Try.ntmps21
  go_wp2_with fail
  refine (HS _ HR1.out HR'.out).mono ?_
  rintro e w1 ⟨hb, rfl⟩
  have H1 := step_below H0 hb
  clear hb
  go_wp2
  go_loopg [7] 80 (fun q iv wr => ∃ (k : Nat), k + q = 80 ∧ iv = .int .i64 ((n : Int) + k) ∧ Hid (Below w.heap.size w wr))
  case atStart => exact ⟨0, by omega, by go_num, H1⟩
  case round =>
    obtain ⟨k, hk, rfl, HB⟩ := hrel
    by_cases h8 : k < 80
    · obtain ⟨b, off, ha, hc⟩ := (HR.out.keep HB.out).cell (n + k) (by have := HM.out; omega)
      subst ha
      have hg : (l ++ List.replicate 80 165).getD (n + k) 0 = 165 := by
        rw [List.getD_eq_getElem?_getD, List.getElem?_append_right (by have := HL.out; omega), List.getElem?_replicate, if_pos (by have := HL.out; omega)]; rfl
      rw [hg] at hc
      replace hc : wr.cell? ⟨b, off + (n + k), none⟩ = some (.int .u8 165) := hc
      have hkz : (n : Int) + k < n + 80 := by omega
      have hk0 : 0 ≤ (n : Int) + k := by omega
      have htn : ((n : Int) + (k : Int)).toNat = n + k := by omega
      clear hg
      go_wp2
      go_roundg (gk - 1)
      case measure => omega
      case rel => exact ⟨k + 1, by omega, by go_num, HB⟩
    · have hk8 : k = 80 := by omega
      subst hk8
      go_wp2
      go_ret
      exact ⟨HB.out, rfl⟩
end Go.Proofs.Ytemiajjjhhofaaa
