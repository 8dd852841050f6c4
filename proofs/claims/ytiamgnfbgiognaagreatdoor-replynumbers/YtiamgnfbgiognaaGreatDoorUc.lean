/-
  Parts of rows; the document's pairs.
-/
import Derived.Test.YtiamgnfbgiognaaGreatDoorUb
namespace Go.Proofs.YtiamgnfbgiognaaGreatDoor
open Go.RowKit Go.PlainAid

theorem RdE.sub {w : World} {F : Nat → Prop} {a : Option Addr} {n cap : Nat} {es : List El} (h : RdE w F a n cap es) (lo hi : Nat) (h1 : lo ≤ hi) (h2 : hi ≤ n) :
    RdE w F (if cap = lo then a else a.map (·.add (lo * 4))) (hi - lo) (cap - lo) ((es.drop lo).take (hi - lo)) := by
  have hl := h.len
  have hf := h.fit
  have hx := h.max
  refine ⟨by rw [List.length_take, List.length_drop, hl]; omega, by omega, by omega, fun hn => ?_, fun j u hu => ?_⟩
  · cases a with
    | none => have := h.nul rfl; omega
    | some x => split at hn <;> simp at hn
  · rw [List.getElem?_take] at hu
    split at hu
    · rename_i hj
      rw [List.getElem?_drop] at hu
      obtain ⟨b, off, e, hF, hc⟩ := h.cell _ u hu
      subst e
      have hne : ¬ cap = lo := by omega
      refine ⟨b, off + lo * 4, ?_, hF, ?_⟩
      · rw [if_neg hne, Option.map_some, add_flat]
      · rw [show off + lo * 4 + j * 4 = off + (lo + j) * 4 by omega]; exact hc
    · cases hu
theorem Tryz.sizeRs (w : World) : (sizeOf 24).run Tryz.prog w = .ok 4 w := by go_simp
theorem Tryz.elemRs : Tryz.prog.elem 22 = 24 := by simp [Program.elem, Tryz.underlying22]
theorem Tryz.undRs : Tryz.prog.underlying 22 = some (.slice (Tryz.prog.elem 22)) := by rw [Tryz.elemRs]; exact Tryz.underlying22
theorem RdE.slice_l {w : World} {F : Nat → Prop} {a : Option Addr} {n cap : Nat} {l : List El} (h : RdE w F a n cap l) (lo : Nat) (h1 : lo ≤ n) :
    ∃ a' cap', (∀ wx, (Instr.sliceAt 22 (.slice a n cap) (some (.int .i64 lo)) none none).run Tryz.prog wx = .ok (.slice a' (n - lo) cap') wx) ∧ RdE w F a' (n - lo) cap' (l.drop lo) := by
  have hs := h.sub lo n h1 (Nat.le_refl _)
  rw [List.take_of_length_le (by rw [List.length_drop, h.len]; omega)] at hs
  refine ⟨_, _, fun wx => ?_, hs⟩
  rw [run_sliceAt_slice _ _ _ _ _ _ Tryz.undRs, run_slice_l (P := Tryz.prog) wx 22 a n cap Tryz.undRs .i64 lo (by omega) (by omega), Tryz.elemRs, Tryz.sizeRs]
  simp [Result.andThen, sliced]
theorem RdE.slice_h {w : World} {F : Nat → Prop} {a : Option Addr} {n cap : Nat} {l : List El} (h : RdE w F a n cap l) (hi : Nat) (h1 : hi ≤ n) :
    ∃ a' cap', (∀ wx, (Instr.sliceAt 22 (.slice a n cap) none (some (.int .i64 hi)) none).run Tryz.prog wx = .ok (.slice a' hi cap') wx) ∧ RdE w F a' hi cap' (l.take hi) := by
  have hs := h.sub 0 hi (Nat.zero_le _) h1
  rw [List.drop_zero, Nat.sub_zero, Nat.sub_zero] at hs
  refine ⟨_, _, fun wx => ?_, hs⟩
  rw [run_sliceAt_slice _ _ _ _ _ _ Tryz.undRs, run_slice_h (P := Tryz.prog) wx 22 a n cap Tryz.undRs .i64 hi (by omega) (by have := h.fit; omega), Tryz.elemRs, Tryz.sizeRs]
  simp [Result.andThen, sliced]
theorem RdE.slice_lh {w : World} {F : Nat → Prop} {a : Option Addr} {n cap : Nat} {l : List El} (h : RdE w F a n cap l) (lo hi : Nat) (h1 : lo ≤ hi) (h2 : hi ≤ n) :
    ∃ a' cap', (∀ wx, (Instr.sliceAt 22 (.slice a n cap) (some (.int .i64 lo)) (some (.int .i64 hi)) none).run Tryz.prog wx = .ok (.slice a' (hi - lo) cap') wx) ∧ RdE w F a' (hi - lo) cap' ((l.drop lo).take (hi - lo)) := by
  refine ⟨_, _, fun wx => ?_, h.sub lo hi h1 h2⟩
  rw [run_sliceAt_slice _ _ _ _ _ _ Tryz.undRs, run_slice_lh (P := Tryz.prog) wx 22 a n cap Tryz.undRs .i64 .i64 lo hi (by omega) (by omega) (by have := h.fit; omega), Tryz.elemRs, Tryz.sizeRs]
  simp [Result.andThen, sliced]
theorem Vls.take {w : World} {F : Nat → Prop} {d : Nat} {es : List El} {ts : List RT} (h : Vls w F d es ts) (k : Nat) : Vls w F d (es.take k) (ts.take k) := by
  refine ⟨by rw [List.length_take, List.length_take, h.len], fun j e t he ht => ?_⟩
  rw [List.getElem?_take] at he ht
  split at he
  · rename_i hj
    rw [if_pos hj] at ht
    exact h.el j e t he ht
  · cases he
/-- Each as a reply of two, in a row of its own. -/
def PairsP (w : World) (F : Nat → Prop) (d h : Nat) (ts : List RT) (r : Ending) (w' : World) : Prop := Below w.heap.size w w' ∧ ∃ (a : Option Addr) (c : Nat) (ps : List El), r = .returned (.slice a h c) ∧ OwnE w' w.heap.size a h c ps ∧ Vls w' (fun g => F g ∧ g < w.heap.size) (d + 1) ps ((prs ts).map pr)
set_option maxRecDepth 100000 in
set_option maxHeartbeats 4000000 in
theorem pairs_any (d : Nat) (F : Nat → Prop) (a : Option Addr) (n h c : Nat) (es : List El) (ts : List RT) (w : World) (hr : RdE w F a n c es) (hv : Vls w F d es ts) (hn : n = 2 * h) (h12 : n ≤ 12) :
    Calls Tryz.prog 31 #[.slice a n c] w (PairsP w F d h ts) := by
  have HR : Hid (RdE w (fun g => F g ∧ g < w.heap.size) a n c es) := hr.mono (fun g hl hf => ⟨hf, hl⟩)
  have HV : Hid (Vls w (fun g => F g ∧ g < w.heap.size) d es ts) := hv.mono (fun g hl hf => ⟨hf, hl⟩)
  have HN : Hid (n = 2 * h) := hn
  have HL : Hid (ts.length = n) := by show _ = _; rw [← hv.len]; exact hr.len
  clear hr hv hn
  go_enter Tryz.func31, Tryz.ntmps31
  go_wp2
  go_loopg [3, 4] h (fun gk u3 u4 wr => ∃ (i i2 : Nat) (ra : Option Addr) (rc : Nat) (ps : List El), i + gk = h ∧ i2 = 2 * i ∧ u3 = .slice ra i rc ∧ u4 = .int .i64 i2 ∧ Hid (OwnE wr w.heap.size ra i rc ps) ∧ Hid (Vls wr (fun g => F g ∧ g < w.heap.size) (d + 1) ps (((prs ts).take i).map pr)) ∧ Hid (Below w.heap.size w wr))
  case atStart => exact ⟨0, 0, none, 0, [], by omega, by omega, rfl, rfl, OwnR.nil _ _ _ _, Vls.nil _ _ _, Below.refl _ _⟩
  case round =>
    obtain ⟨i, i2, ra, rc, ps, hi, hi2, rfl, rfl, HO, HP, HB⟩ := hrel
    have HI2 : Hid (i2 = 2 * i) := hi2
    have HNn := HN.out
    have hw1 : IntKind.i64.wrap ((i2 : Int) + 1) = (i2 : Int) + 1 := by rw [IntKind.wrap_i64]; omega
    have hw2 : IntKind.i64.wrap ((i2 : Int) + 2) = (i2 : Int) + 2 := by rw [IntKind.wrap_i64]; omega
    by_cases h8 : i < h
    · have hlt : (i2 : Int) + 1 < n := by omega
      obtain ⟨a', c', hsl, hsub⟩ := HR.out.slice_lh i2 (i2 + 2) (by omega) (by omega)
      rw [Nat.add_sub_cancel_left] at hsl hsub
      have hsl' : ∀ wx, (Instr.sliceAt 22 (.slice a n c) (some (.int .i64 i2)) (some (.int .i64 ((i2 : Int) + 2))) none).run Tryz.prog wx = .ok (.slice a' 2 c') wx := hsl
      obtain ⟨tx, htx⟩ : ∃ tx, ts[2 * i]? = some tx := ⟨_, List.getElem?_eq_getElem (by rw [HL.out]; omega)⟩
      obtain ⟨ty, hty⟩ : ∃ ty, ts[2 * i + 1]? = some ty := ⟨_, List.getElem?_eq_getElem (by rw [HL.out]; omega)⟩
      have hvs : Vls w (fun g => F g ∧ g < w.heap.size) d ((es.drop i2).take 2) [tx, ty] := by
        have h1 := (HV.out.drop i2).take 2
        rw [hi2, drop_two htx hty] at h1
        rw [hi2]
        exact h1
      have HE : Hid (Vl w (fun g => F g ∧ g < w.heap.size) (d + 1) ⟨7, ⟨#[]⟩, 0, a', 2, c'⟩ (pr (tx, ty))) := ⟨rfl, rfl, rfl, Hd.of hsub (show 2 ≤ 12 by omega) hvs⟩
      have HTk : Hid (((prs ts).take (i + 1)).map pr = ((prs ts).take i).map pr ++ [pr (tx, ty)]) := by show _ = _; rw [List.take_add_one, prs_get ts i tx ty htx hty, List.map_append]; rfl
      obtain ⟨w5, hw5⟩ : ∃ w5, wr.alloc (.cells #[.int .i64 7, .string ⟨#[]⟩, .int .i64 0, .slice a' 2 c'] 24) = w5 := ⟨_, rfl⟩
      have hb5 : Below wr.heap.size wr w5 := by rw [← hw5]; exact alloc_below wr _
      have hI5 : BR w5 wr.heap.size 7 ⟨#[]⟩ 0 a' 2 c' := by rw [← hw5]; exact BR.new wr _ _ _ _ _ _
      have HB5 := step_below HB hb5
      have HO5 : Hid (OwnE w5 w.heap.size ra i rc ps) := OwnR.keep HO.out hb5
      have HNw : Hid (∀ (j : Nat) (v : Value), (rcells [⟨7, ⟨#[]⟩, 0, a', 2, c'⟩])[j]? = some v → w5.cell? ((⟨wr.heap.size, 0, none⟩ : Addr).add j) = some v) := fun j v hv => new_row hI5 j v hv
      have HP5 : Hid (Vls w5 (fun g => F g ∧ g < w.heap.size) (d + 1) ps (((prs ts).take i).map pr)) := HP.out.kp hb5
      have hi12 : i ≤ 6 := by omega
      clear hsl hsub hvs htx hty hb5 hI5 hi2 HNn
      go_wp2_with (at_builtin; refine append_r rfl _ _ rfl eltR w.heap.size rfl HO5.out (rcells [⟨7, ⟨#[]⟩, 0, a', 2, c'⟩]) rfl rfl HNw.out (rcells_one _) (by decide) (by omega) (by unfold maxLen; omega) HB5.out.size ?_; intro a2 n2 c2 w2 hn2 HO2 HG2 HGo2)
      have hb2 : Below w.heap.size w5 w2 := OwnR.below HO5.out HG2.out HB5.out.size
      have HBn : Hid (Below w.heap.size w w2) := HB5.out.trans hb2
      have HPn : Hid (Vls w2 (fun g => F g ∧ g < w.heap.size) (d + 1) (ps ++ [⟨7, ⟨#[]⟩, 0, a', 2, c'⟩]) (((prs ts).take (i + 1)).map pr)) := by
        rw [HTk.out]
        exact (HP5.out.keep (fun g hg hf => hb2.block g hf.2)).append (Vls.one (HE.out.keep (fun g hg hf => HBn.out.block g hf.2)))
      have HOn : Hid (OwnE w2 w.heap.size a2 n2 c2 (ps ++ [⟨7, ⟨#[]⟩, 0, a', 2, c'⟩])) := by
        have h1 := HO2.out
        rw [← rcells_append] at h1
        exact h1
      clear hb2 HO2 HG2 HGo2 HO HP HB HO5 HP5 HB5 HNw hw5 hsl'
      subst hn2
      go_wp2
      go_roundg (gk - 1)
      case measure => omega
      case rel => exact ⟨i + 1, i2 + 2, a2, c2, _, by omega, by have := HI2.out; omega, rfl, by go_num, HOn, HPn, HBn⟩
    · have hih : i = h := by omega
      subst hih
      have hnl : ¬ (i2 : Int) + 1 < n := by omega
      have HPe : Hid (Vls wr (fun g => F g ∧ g < w.heap.size) (d + 1) ps ((prs ts).map pr)) := by
        have h1 := HP.out
        rw [List.take_of_length_le (by rw [prs_len, HL.out]; omega)] at h1
        exact h1
      clear HNn hi2
      go_wp2
      go_ret
      exact ⟨HB.out, ra, rc, ps, rfl, HO.out, HPe.out⟩
end Go.Proofs.YtiamgnfbgiognaaGreatDoor
