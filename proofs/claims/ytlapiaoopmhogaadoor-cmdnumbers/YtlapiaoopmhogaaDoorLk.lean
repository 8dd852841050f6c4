/-
  A command looked up by its name.
-/
import Derived.Test.YtlapiaoopmhogaaDoorLw
import Derived.Test.YtlapiaoopmhogaaDoorCb
namespace Go.Proofs.YtlapiaoopmhogaaDoor
open Go.RowKit Go.PlainAid

/-- The first of that name. -/
def fnd (l : List Cm) (s : ByteArray) : Option Cm := l.find? fun c => decide (c.nm = s)
def cmOf (o : Option Cm) : Cm := o.getD Cm.z
theorem fnd_take (l : List Cm) (s : ByteArray) (k : Nat) (c : Cm) (h : fnd (l.take k) s = none) (hk : l[k]? = some c) : fnd (l.take (k + 1)) s = if c.nm = s then some c else none := by
  rw [List.take_add_one, hk, fnd, List.find?_append]
  rw [fnd] at h
  rw [h]
  by_cases e : c.nm = s <;> simp [e]
theorem fnd_hit (l : List Cm) (s : ByteArray) (k : Nat) (c : Cm) (h : fnd (l.take k) s = none) (hk : l[k]? = some c) (e : c.nm = s) : fnd l s = some c := by
  have h1 := fnd_take l s k c h hk
  rw [if_pos e] at h1
  rw [← List.take_append_drop (k + 1) l, fnd, List.find?_append]
  rw [fnd] at h1
  rw [h1]; rfl
theorem getElem_some {α : Type} {l : List α} {k n : Nat} (hn : l.length = n) (h : k < n) : ∃ c, l[k]? = some c := ⟨l[k]'(by omega), List.getElem?_eq_getElem (by omega)⟩
/-- A command's variable. -/
def VarC (w : World) (g : Nat) (c : Cm) : Prop := ∃ t, w.heap[g]? = some (.cells #[.string c.nm, .int .i64 c.lo, .int .i64 c.hi, .bool c.wr, .int .i64 c.gr] t (0, 0))
theorem VarC.cells {w : World} {g : Nat} {c : Cm} (h : VarC w g c) : w.cell? ⟨g, 0, none⟩ = some (.string c.nm) ∧ w.cell? ⟨g, 1, none⟩ = some (.int .i64 c.lo) ∧ w.cell? ⟨g, 2, none⟩ = some (.int .i64 c.hi) ∧ w.cell? ⟨g, 3, none⟩ = some (.bool c.wr) ∧ w.cell? ⟨g, 4, none⟩ = some (.int .i64 c.gr) := by
  obtain ⟨t, h⟩ := h
  simp only [World.cell?, h]
  exact ⟨rfl, rfl, rfl, rfl, rfl⟩
theorem VarC.free {w : World} {g : Nat} {c : Cm} (h : VarC w g c) (o : Nat) : w.frozen? ⟨g, o, none⟩ = false := by
  obtain ⟨t, h⟩ := h
  simp [World.frozen?, h]
theorem VarC.keep {w wn : World} {g B : Nat} {c : Cm} (h : VarC w g c) (hb : Below B w wn) (hg : g < B) : VarC wn g c := by
  obtain ⟨t, h⟩ := h
  exact ⟨t, by rw [hb.block g hg]; exact h⟩
theorem VarC.lt {w : World} {g : Nat} {c : Cm} (h : VarC w g c) : g < w.heap.size := by
  obtain ⟨t, h⟩ := h
  exact (Array.getElem?_eq_some_iff.1 h).1
theorem VarC.set {w : World} {g : Nat} {c : Cm} (h : VarC w g c) (d : Cm) : VarC (((((w.setCell ⟨g, 0, none⟩ (.string d.nm)).setCell ⟨g, 1, none⟩ (.int .i64 d.lo)).setCell ⟨g, 2, none⟩ (.int .i64 d.hi)).setCell ⟨g, 3, none⟩ (.bool d.wr)).setCell ⟨g, 4, none⟩ (.int .i64 d.gr)) g d := by
  obtain ⟨t, h⟩ := h
  exact ⟨t, heap_set (heap_set (heap_set (heap_set (heap_set h _) _) _) _) _⟩
theorem results_cell_tmp {P : Program} {fn : Func} {p t : Tmp} {ty : TypeId} (h : fn.results = #[.cell p ty, .tmp t]) (tmps : Array Value) (w : World) (g : Nat) (tt : TypeId) (cs : Array Value) (fr : Nat × Nat) (d : TypeDesc)
    (hp : tmps.getD p undef = .pointer (some ⟨g, 0, none⟩)) (hg : w.heap[g]? = some (.cells cs tt fr)) (hu : P.underlying ty = some d) (hd : (match d with | .struct _ | .array _ _ => true | _ => false) = true) (hi : (P.info? ty).map (·.size) = some cs.size) :
    (results fn tmps).run P w = .ok (.tuple #[.agg cs, tmps.getD t undef]) w := by
  have hp' : tmps[p]?.getD undef = .pointer (some ⟨g, 0, none⟩) := by simpa using hp
  simp [results, h, hp', asAddr, run_loadVar_row w g tt ty cs fr d hg hu hd hi]
theorem results_cell_tmp2 {P : Program} {fn : Func} {p t u : Tmp} {ty : TypeId} (h : fn.results = #[.cell p ty, .tmp t, .tmp u]) (tmps : Array Value) (w : World) (g : Nat) (tt : TypeId) (cs : Array Value) (fr : Nat × Nat) (d : TypeDesc)
    (hp : tmps.getD p undef = .pointer (some ⟨g, 0, none⟩)) (hg : w.heap[g]? = some (.cells cs tt fr)) (hu : P.underlying ty = some d) (hd : (match d with | .struct _ | .array _ _ => true | _ => false) = true) (hi : (P.info? ty).map (·.size) = some cs.size) :
    (results fn tmps).run P w = .ok (.tuple #[.agg cs, tmps.getD t undef, tmps.getD u undef]) w := by
  have hp' : tmps[p]?.getD undef = .pointer (some ⟨g, 0, none⟩) := by simpa using hp
  simp [results, h, hp', asAddr, run_loadVar_row w g tt ty cs fr d hg hu hd hi]
theorem Tryd.sizeCmd : (Tryd.prog.info? 27).map (·.size) = some 5 := by kernel_rfl
theorem Tryd.sizeRCmd : (Tryd.prog.info? 30).map (·.size) = some 5 := by kernel_rfl
/-- A command and one thing more come back. -/
theorem ret_C {fn : Func} {p t : Tmp} (h : fn.results = #[.cell p 27, .tmp t]) {tmps : Array Value} {w : World} {g : Nat} {c : Cm} {x : Value} {Q : Ending → World → Prop}
    (hp : tmps.getD p undef = .pointer (some ⟨g, 0, none⟩)) (hx : tmps.getD t undef = x) (hg : VarC w g c) (hQ : Q (.returned (.tuple #[c.v, x])) w) : bodyPost Tryd.prog fn Q .ret { tmps := tmps, defers := [] } w := by
  obtain ⟨tt, hg⟩ := hg
  subst hx
  exact bodyPost_ret (results_cell_tmp h _ _ g tt _ (0, 0) _ hp hg Tryd.underlying27 rfl Tryd.sizeCmd) rfl hQ
theorem ret_RC {fn : Func} {p t : Tmp} (h : fn.results = #[.cell p 30, .tmp t]) {tmps : Array Value} {w : World} {g : Nat} {c : Cm} {x : Value} {Q : Ending → World → Prop}
    (hp : tmps.getD p undef = .pointer (some ⟨g, 0, none⟩)) (hx : tmps.getD t undef = x) (hg : VarC w g c) (hQ : Q (.returned (.tuple #[c.v, x])) w) : bodyPost Tryd.prog fn Q .ret { tmps := tmps, defers := [] } w := by
  obtain ⟨tt, hg⟩ := hg
  subst hx
  exact bodyPost_ret (results_cell_tmp h _ _ g tt _ (0, 0) _ hp hg Tryd.underlying30 rfl Tryd.sizeRCmd) rfl hQ
theorem ret_RC2 {fn : Func} {p t u : Tmp} (h : fn.results = #[.cell p 30, .tmp t, .tmp u]) {tmps : Array Value} {w : World} {g : Nat} {c : Cm} {x y : Value} {Q : Ending → World → Prop}
    (hp : tmps.getD p undef = .pointer (some ⟨g, 0, none⟩)) (hx : tmps.getD t undef = x) (hy : tmps.getD u undef = y) (hg : VarC w g c) (hQ : Q (.returned (.tuple #[c.v, x, y])) w) : bodyPost Tryd.prog fn Q .ret { tmps := tmps, defers := [] } w := by
  obtain ⟨tt, hg⟩ := hg
  subst hx
  subst hy
  exact bodyPost_ret (results_cell_tmp2 h _ _ g tt _ (0, 0) _ hp hg Tryd.underlying30 rfl Tryd.sizeRCmd) rfl hQ
theorem zero60 : Tryd.zeroCells60.size = 81 * 5 := by kernel_rfl

set_option maxRecDepth 100000 in
set_option maxHeartbeats 4000000 in
theorem Lookup_any (s : ByteArray) (w : World) (hs : s.size ≤ maxLen) :
    Calls Tryd.prog 9 #[.string s] w fun e w' => e = .returned (.tuple #[(cmOf (fnd progs (low s))).v, .bool (fnd progs (low s)).isSome]) ∧ Below w.heap.size w w' := by
  have HL := fun w => Lower_any s w hs
  clear hs
  obtain ⟨S, hS⟩ : ∃ S, low s = S := ⟨_, rfl⟩
  rw [hS] at HL ⊢
  clear hS
  go_enter Tryd.func9, Tryd.ntmps9
  go_upto_region 2 with (go_at_call 16; refine (HL _).mono ?_; rintro e w1 ⟨rfl, hB1⟩)
  have HV1 : Hid (VarC w1 w.heap.size Cm.z) := VarC.keep (w := w.alloc (.cells #[.string ⟨#[]⟩, .int .i64 0, .int .i64 0, .bool false, .int .i64 0] 27)) ⟨_, heap_alloc_new w _⟩ hB1 (alloc_lt w _ _)
  have HB1 : Hid (Below w.heap.size w w1) := (alloc_below w _).trans (hB1.mono (alloc_below w _).size)
  clear hB1
  go_upto_region 3 with fail
  have HO1 : Hid (OwnT (w1.alloc (.cells Tryd.zeroCells60 60)) w1.heap.size 5 (some ⟨w1.heap.size, 0, none⟩) 0 81 []) :=
    ⟨rfl, .inr ⟨w1.heap.size, _, _, rfl, Nat.le_refl _, heap_alloc_new w1 _, Nat.zero_le _, by decide, zero60, by simp⟩⟩
  obtain ⟨wa, hwa⟩ : ∃ wa, w1.alloc (.cells Tryd.zeroCells60 60) = wa := ⟨_, rfl⟩
  have HBa : Hid (Below w1.heap.size w1 wa) := by show Below _ _ _; rw [← hwa]; exact alloc_below w1 _
  rw [hwa] at HO1
  simp only [hwa]
  clear hwa
  go_upto_region 4 with (go_at_call 24; refine (table_any w1.heap.size _ 81 _ HO1.out HBa.out.size).mono ?_; rintro e w2 ⟨a2, c2, rfl, HO2, hB2⟩)
  have HV2 : Hid (VarC w2 w.heap.size Cm.z) := HV1.out.keep (HBa.out.trans hB2.out) HV1.out.lt
  have HB2 : Hid (Below w.heap.size w w2) := HB1.out.trans ((HBa.out.trans hB2.out).mono HB1.out.size)
  clear hB2 HV1 HO1 HBa HB1
  go_loopg [12] 81 (fun g iv wr => ∃ k : Nat, iv = .int .i64 k ∧ k + g = 81 ∧ Hid (Below w2.heap.size w2 wr) ∧ Hid (fnd (progs.take k) S = none))
  case atStart => exact ⟨0, rfl, rfl, Below.refl _ _, rfl⟩
  case round =>
    obtain ⟨k, rfl, hk, HB, HF⟩ := hrel
    have HV3 : Hid (VarC wr w.heap.size Cm.z) := HV2.out.keep HB.out HV2.out.lt
    have HBw : Hid (Below w.heap.size w wr) := HB2.out.trans (HB.out.mono HB2.out.size)
    by_cases h1 : (k : Int) < 81
    · obtain ⟨c, hc⟩ := getElem_some progs_len (show k < 81 by omega)
      obtain ⟨g, rfl, s1, s2, s3, s4, s5⟩ := OwnC.cells (OwnT.keep HO2.out HB.out) hc
      have HT : Hid (fnd (progs.take (k + 1)) S = if c.nm = S then some c else none) := fnd_take _ _ _ _ HF.out hc
      have HH : Hid (c.nm = S → fnd progs S = some c) := fnd_hit _ _ _ _ HF.out hc
      clear hc
      obtain ⟨nm, lo, hi, wb, gr⟩ := c
      simp only at s1 s2 s3 s4 s5 HT HH
      by_cases he : nm = S
      · have hbe : (nm.toList == S.toList) = true := by rw [toList_beq, decide_eq_true he]
        have HE : Hid (fnd progs S = some ⟨nm, lo, hi, wb, gr⟩) := HH.out he
        have HBn : Hid (∀ o, Below w.heap.size w (wr.alloc o)) := fun o => HBw.out.trans ((alloc_below wr o).mono HBw.out.size)
        have HVn : ∀ o, VarC (wr.alloc o) w.heap.size Cm.z := fun o => HV3.out.keep (alloc_below wr o) HV3.out.lt
        have z0 := fun o => (HVn o).cells.1
        have z1 := fun o => (HVn o).cells.2.1
        have z2 := fun o => (HVn o).cells.2.2.1
        have z3 := fun o => (HVn o).cells.2.2.2.1
        have z4 := fun o => (HVn o).cells.2.2.2.2
        have fz := fun o => (HVn o).free
        simp only [Cm.z] at z0 z1 z2 z3 z4
        clear HT HH he
        have HVs := fun o => VarC.set (HVn o) ⟨nm, lo, hi, wb, gr⟩
        go_wp2
        refine ret_C rfl rfl rfl (HVs _) ⟨by rw [HE.out]; rfl, ?_⟩
        exact (((((HBn.out _).setCell (Nat.le_refl _) _).setCell (Nat.le_refl _) _).setCell (Nat.le_refl _) _).setCell (Nat.le_refl _) _).setCell (Nat.le_refl _) _
      · have hbe : (nm.toList == S.toList) = false := by rw [toList_beq, decide_eq_false he]
        have HE : Hid (fnd (progs.take (k + 1)) S = none) := by have := HT.out; rw [if_neg he] at this; exact this
        have HBn : Hid (∀ o, Below w2.heap.size w2 (wr.alloc o)) := fun o => HB.out.trans ((alloc_below wr o).mono HB.out.size)
        clear HT HH he
        go_wp2
        go_roundg (gk - 1)
        case measure => omega
        case rel => exact ⟨k + 1, by go_num, by omega, HBn.out _, HE⟩
    · have HE : Hid (fnd progs S = none) := by
        have := HF.out
        rw [List.take_of_length_le (by rw [progs_len]; omega)] at this
        exact this
      have z0 := HV3.out.cells.1
      have z1 := HV3.out.cells.2.1
      have z2 := HV3.out.cells.2.2.1
      have z3 := HV3.out.cells.2.2.2.1
      have z4 := HV3.out.cells.2.2.2.2
      have fz := HV3.out.free
      simp only [Cm.z] at z0 z1 z2 z3 z4
      have HVs := HV3.out.set Cm.z
      go_wp2
      refine ret_C rfl rfl rfl HVs ⟨by rw [HE.out]; rfl, ?_⟩
      exact ((((HBw.out.setCell (Nat.le_refl _) _).setCell (Nat.le_refl _) _).setCell (Nat.le_refl _) _).setCell (Nat.le_refl _) _).setCell (Nat.le_refl _) _
end Go.Proofs.YtlapiaoopmhogaaDoor
