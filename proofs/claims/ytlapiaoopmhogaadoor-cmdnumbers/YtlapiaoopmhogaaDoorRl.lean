/-
  The document's own Lookup.
-/
import Derived.Test.YtlapiaoopmhogaaDoorAl
import Derived.Test.YtlapiaoopmhogaaDoorLr
import Derived.Test.YtlapiaoopmhogaaDoorEx
namespace Go.Proofs.YtlapiaoopmhogaaDoor
open Go.RowKit Go.PlainAid

set_option maxRecDepth 100000 in
set_option maxHeartbeats 4000000 in
theorem rLookup_any (s : ByteArray) (w : World) (hs : s.size ≤ maxLen) :
    Calls Tryd.prog 15 #[.string s] w fun e w' => e = .returned (.tuple #[(cmOf (fnd refs (low s))).v, .bool (fnd refs (low s)).isSome]) ∧ Below w.heap.size w w' := by
  have HL := fun w => rLower_any s w hs
  clear hs
  obtain ⟨S, hS⟩ : ∃ S, low s = S := ⟨_, rfl⟩
  rw [hS] at HL ⊢
  clear hS
  go_enter Tryd.func15, Tryd.ntmps15
  have HZ : Hid (VarC (w.alloc (.cells #[.string ⟨#[]⟩, .int .i64 0, .int .i64 0, .bool false, .int .i64 0] 30)) w.heap.size Cm.z) := ⟨_, heap_alloc_new w _⟩
  go_wp2_with (go_at_call 7; refine (All_any _).mono ?_; rintro e w1 ⟨hB1, a, c, rfl, hO1⟩)
  have HV1 : Hid (VarC w1 w.heap.size Cm.z) := HZ.out.keep hB1 HZ.out.lt
  have HB1 : Hid (Below w.heap.size w w1) := (alloc_below w _).trans (hB1.mono (alloc_below w _).size)
  have HO1 : Hid (OwnC w1 (w.heap.size + 1) a 81 c refs) := by
    have h := hO1
    rw [show (w.alloc (.cells #[.string ⟨#[]⟩, .int .i64 0, .int .i64 0, .bool false, .int .i64 0] 30)).heap.size = w.heap.size + 1 by simp] at h
    exact h
  clear hB1 HZ hO1
  go_loopg [5] 81 (fun g iv wr => ∃ k : Nat, iv = .int .i64 k ∧ k + g = 81 ∧ Hid (Below w1.heap.size w1 wr) ∧ Hid (fnd (refs.take k) S = none))
  case atStart => exact ⟨0, rfl, rfl, Below.refl _ _, rfl⟩
  case round =>
    obtain ⟨k, rfl, hk, HB, HF⟩ := hrel
    have HV3 : Hid (∀ wx, Below wr.heap.size wr wx → VarC wx w.heap.size Cm.z) := fun wx h => (HV1.out.keep HB.out HV1.out.lt).keep h (Nat.lt_of_lt_of_le HV1.out.lt HB.out.size)
    have HBw : Hid (∀ wx, Below wr.heap.size wr wx → Below w.heap.size w wx) := fun wx h => HB1.out.trans ((HB.out.trans (h.mono HB.out.size)).mono HB1.out.size)
    by_cases h1 : (k : Int) < 81
    · obtain ⟨cm, hc⟩ := getElem_some refs_len (show k < 81 by omega)
      obtain ⟨g, rfl, -⟩ := OwnC.cells (OwnT.keep HO1.out HB.out) hc
      have HCe : Hid (∀ wx, Below wr.heap.size wr wx → wx.cell? ⟨g, k * 5, none⟩ = some (.string cm.nm) ∧ wx.cell? ⟨g, k * 5 + 1, none⟩ = some (.int .i64 cm.lo) ∧ wx.cell? ⟨g, k * 5 + 2, none⟩ = some (.int .i64 cm.hi) ∧ wx.cell? ⟨g, k * 5 + 3, none⟩ = some (.bool cm.wr) ∧ wx.cell? ⟨g, k * 5 + 4, none⟩ = some (.int .i64 cm.gr)) := fun wx h => (OwnC.cells ((OwnT.keep HO1.out HB.out).keep h) hc).elim fun g' h => by
        obtain ⟨e1, h2⟩ := h
        cases e1
        exact h2
      have HT : Hid (fnd (refs.take (k + 1)) S = if cm.nm = S then some cm else none) := fnd_take _ _ _ _ HF.out hc
      have HH : Hid (cm.nm = S → fnd refs S = some cm) := fnd_hit _ _ _ _ HF.out hc
      clear hc
      obtain ⟨nm, lo, hi, wb, gr⟩ := cm
      simp only at HCe HT HH
      have s1 : ∀ x : Ext wr, x.wx.cell? ⟨g, k * 5, none⟩ = some (.string nm) := fun x => (HCe.out _ x.ok).1
      have hex : Nonempty (Ext wr) := ⟨⟨wr, Below.refl _ _⟩⟩
      by_cases he : nm = S
      · have hbe : (nm.toList == S.toList) = true := by rw [toList_beq, decide_eq_true he]
        have HE : Hid (fnd refs S = some ⟨nm, lo, hi, wb, gr⟩) := HH.out he
        clear HT HH he
        go_upto_region 5 with fail
        refine wp_region_ext (by kernel_rfl) (by kernel_rfl) ?_
        repeat (go_big_quiet_step (first | (go_at_call 17; exact Calls.ext_of ((HL _).mono fun _ _ h => ⟨h.2, h.1⟩))))
        refine wpQuiet_nil ?_
        intro wz hz
        obtain ⟨xx, rfl⟩ := hz
        obtain ⟨u0, u1, u2, u3, u4⟩ := HCe.out _ xx.ok
        have HVx := HV3.out _ xx.ok
        have HBx := HBw.out _ xx.ok
        obtain ⟨z0, z1, z2, z3, z4⟩ := HVx.cells
        have fz := HVx.free
        have HVs := HVx.set ⟨nm, lo, hi, wb, gr⟩
        simp only [Cm.z] at z0 z1 z2 z3 z4
        clear s1 hex HVx
        go_wp2
        refine ret_RC rfl rfl rfl HVs ⟨by rw [HE.out]; rfl, ?_⟩
        exact ((((HBx.setCell (Nat.le_refl _) _).setCell (Nat.le_refl _) _).setCell (Nat.le_refl _) _).setCell (Nat.le_refl _) _).setCell (Nat.le_refl _) _
      · have hbe : (nm.toList == S.toList) = false := by rw [toList_beq, decide_eq_false he]
        have HE : Hid (fnd (refs.take (k + 1)) S = none) := by have := HT.out; rw [if_neg he] at this; exact this
        clear HT HH he
        go_upto_region 5 with fail
        refine wp_region_ext (by kernel_rfl) (by kernel_rfl) ?_
        repeat (go_big_quiet_step (first | (go_at_call 17; exact Calls.ext_of ((HL _).mono fun _ _ h => ⟨h.2, h.1⟩))))
        refine wpQuiet_nil ?_
        intro wz hz
        obtain ⟨xx, rfl⟩ := hz
        have HBn : Hid (Below w1.heap.size w1 xx.wx) := HB.out.trans (xx.ok.mono HB.out.size)
        clear s1 hex HCe HV3 HBw
        go_wp2
        go_roundg (gk - 1)
        case measure => omega
        case rel => exact ⟨k + 1, by go_num, by omega, HBn, HE⟩
    · have HE : Hid (fnd refs S = none) := by
        have := HF.out
        rw [List.take_of_length_le (by rw [refs_len]; omega)] at this
        exact this
      have HVx := HV3.out wr (Below.refl _ _)
      have HBx := HBw.out wr (Below.refl _ _)
      obtain ⟨z0, z1, z2, z3, z4⟩ := HVx.cells
      have fz := HVx.free
      have HVs := HVx.set Cm.z
      simp only [Cm.z] at z0 z1 z2 z3 z4
      clear HVx HV3 HBw
      go_wp2
      refine ret_RC rfl rfl rfl HVs ⟨by rw [HE.out]; rfl, ?_⟩
      exact ((((HBx.setCell (Nat.le_refl _) _).setCell (Nat.le_refl _) _).setCell (Nat.le_refl _) _).setCell (Nat.le_refl _) _).setCell (Nat.le_refl _) _
end Go.Proofs.YtlapiaoopmhogaaDoor
