/-
  Check, as the program has it.
-/
import Derived.Test.YtlapiaoopmhogaaDoorCk
import Derived.Test.YtlapiaoopmhogaaDoorFc
namespace Go.Proofs.YtlapiaoopmhogaaDoor
open Go.RowKit Go.PlainAid

abbrev set5 (w : World) (g : Nat) (d : Cm) : World := ((((w.setCell ⟨g, 0, none⟩ (.string d.nm)).setCell ⟨g, 1, none⟩ (.int .i64 d.lo)).setCell ⟨g, 2, none⟩ (.int .i64 d.hi)).setCell ⟨g, 3, none⟩ (.bool d.wr)).setCell ⟨g, 4, none⟩ (.int .i64 d.gr)
theorem set5_below {w0 w : World} {B g : Nat} (h : Below B w0 w) (hg : B ≤ g) (d : Cm) : Below B w0 (set5 w g d) := ((((h.setCell hg _).setCell hg _).setCell hg _).setCell hg _).setCell hg _
theorem set5_cell (w : World) (g b o : Nat) (d : Cm) (h : b ≠ g) : (set5 w g d).cell? ⟨b, o, none⟩ = w.cell? ⟨b, o, none⟩ := by
  have hn : ∀ i, (⟨g, i, none⟩ : Addr) ≠ ⟨b, o, none⟩ := fun i e => h (congrArg Addr.block e).symm
  rw [set5, World.cell?_setCell_other _ _ _ _ (hn _), World.cell?_setCell_other _ _ _ _ (hn _), World.cell?_setCell_other _ _ _ _ (hn _), World.cell?_setCell_other _ _ _ _ (hn _), World.cell?_setCell_other _ _ _ _ (hn _)]
theorem Flt.set5 {wk : World} {g : Nat} (hg : g < wk.heap.size) (s : ByteArray) (c : Int) (d : Cm) : Flt (set5 (newW wk s (codeV c)) g d) (newE wk) s c := by
  obtain ⟨b, h1, h2, h3⟩ := (Flt.new wk s c).ex
  have hb : b = wk.heap.size := by cases h1; rfl
  exact ⟨⟨b, h1, by rw [set5_cell _ _ _ _ _ (by omega)]; exact h2, by rw [set5_cell _ _ _ _ _ (by omega)]; exact h3⟩⟩
/-- What Check leaves. -/
def ChkP (w w' : World) (ls : List ByteArray) (e : Ending) : Prop :=
  Below w.heap.size w w' ∧ ((whyP ls = 0 ∧ e = .returned (.tuple #[(cP ls).v, .nilIface])) ∨ (¬ whyP ls = 0 ∧ ∃ E, e = .returned (.tuple #[(cP ls).v, E]) ∧ Flt w' E (nameP ls) (whyP ls)))

set_option maxRecDepth 100000 in
set_option maxHeartbeats 4000000 in
theorem Check_any (a : Option Addr) (n c : Nat) (ls : List ByteArray) (w : World) (h : RdS w a n ls) :
    Calls Tryd.prog 18 #[.slice a n c] w fun e w' => ChkP w w' ls e := by
  have HR : Hid (RdS w a n ls) := h
  have HN : Hid (ls.length = n) := h.len
  have HLk := fun w => Lookup_any (nameP ls) w (by have := nameP_size ls; unfold maxLen; omega)
  rw [low_nameP] at HLk
  have HWhy : Hid (whyP ls = whyOf (cmdP ls) n (longB ls)) := by show _ = _; rw [whyP, h.len]
  have HCp : Hid (cP ls = if whyP ls = 0 then cmOf (cmdP ls) else Cm.z) := rfl
  obtain ⟨L, hL⟩ : ∃ L, longB ls = L := ⟨_, rfl⟩
  have HLo := fun w h => hasLong_any a n c ls w h
  rw [hL] at HWhy HLo
  have HCa := fun w h => called_any a n c ls w h
  obtain ⟨NM, hNM⟩ : ∃ NM, nameP ls = NM := ⟨_, rfl⟩
  rw [hNM] at HCa HLk
  have HNM : Hid (nameP ls = NM) := hNM
  rw [cmdP, hNM] at HWhy HCp
  have HZ : Hid (VarC (w.alloc (.cells #[.string ⟨#[]⟩, .int .i64 0, .int .i64 0, .bool false, .int .i64 0] 27)) w.heap.size Cm.z) := ⟨_, heap_alloc_new w _⟩
  clear h hL hNM
  -- the end where it is refused
  have HEnd : Hid (∀ (wk : World) (why : Int), ¬ why = 0 → whyP ls = why → Below w.heap.size w wk → w.heap.size < wk.heap.size → ChkP w (set5 (newW wk NM (codeV why)) w.heap.size Cm.z) ls (.returned (.tuple #[Cm.z.v, newE wk]))) := fun wk why hw he hb hl => by
    have hc : cP ls = Cm.z := by rw [HCp.out, he, if_neg hw]
    refine ⟨set5_below (hb.trans ((newW_below wk NM (codeV why)).mono hb.size)) (Nat.le_refl _) _, .inr ⟨by rw [he]; exact hw, newE wk, by rw [hc], ?_⟩⟩
    rw [HNM.out, he]
    exact Flt.set5 hl NM why Cm.z
  have HVE : Hid (∀ (wk : World) (why : Int), VarC wk w.heap.size Cm.z → VarC (set5 (newW wk NM (codeV why)) w.heap.size Cm.z) w.heap.size Cm.z) := fun wk why h => (h.keep (newW_below wk NM (codeV why)) h.lt).set Cm.z
  cases hf : fnd progs NM with
  | none =>
    have hWhy : whyP ls = 3 := by rw [HWhy.out, hf]; rfl
    have HE3 := fun wk => HEnd.out wk 3 (by decide) hWhy
    rw [hf] at HLk
    have HLk : ∀ w, Calls Tryd.prog 9 #[.string NM] w fun e w' => e = .returned (.tuple #[.agg #[.string ⟨#[]⟩, .int .i64 0, .int .i64 0, .bool false, .int .i64 0], .bool false]) ∧ Below w.heap.size w w' := HLk
    clear HWhy HCp HLo hWhy hf HEnd
    go_enter Tryd.func18, Tryd.ntmps18
    go_upto_region 2 with (go_at_call 31; refine (HCa _ (HR.out.keep (alloc_below w _))).mono ?_; rintro e w1 ⟨rfl, hB1⟩)
    have HV1 : Hid (VarC w1 w.heap.size Cm.z) := HZ.out.keep hB1 HZ.out.lt
    have HB1 : Hid (Below w.heap.size w w1) := (alloc_below w _).trans (hB1.mono (alloc_below w _).size)
    clear hB1
    go_upto_region 4 with (go_at_call 9; refine (HLk _).mono ?_; rintro e w2 ⟨rfl, hB2⟩)
    have HV2 : Hid (∀ o o', VarC ((w2.alloc o).alloc o') w.heap.size Cm.z) := fun o o' => ((HV1.out.keep hB2 HV1.out.lt).keep (alloc_below w2 o) (Nat.lt_of_lt_of_le HV1.out.lt hB2.size)).keep (alloc_below _ o') (Nat.lt_of_lt_of_le HV1.out.lt (Nat.le_trans hB2.size (alloc_below w2 o).size))
    have HB2 : Hid (∀ o, Below w.heap.size w (w2.alloc o) ∧ w.heap.size < (w2.alloc o).heap.size) := fun o => ⟨HB1.out.trans ((hB2.mono HB1.out.size).trans ((alloc_below w2 o).mono (Nat.le_trans HB1.out.size hB2.size))), Nat.lt_of_lt_of_le HV1.out.lt (Nat.le_trans hB2.size (alloc_below w2 o).size)⟩
    have z0 := fun o o' => (HV2.out o o').cells.1
    have z1 := fun o o' => (HV2.out o o').cells.2.1
    have z2 := fun o o' => (HV2.out o o').cells.2.2.1
    have z3 := fun o o' => (HV2.out o o').cells.2.2.2.1
    have z4 := fun o o' => (HV2.out o o').cells.2.2.2.2
    have fz := fun o o' => (HV2.out o o').free
    have HVs := fun o o' => (HV2.out o o').set Cm.z
    simp only [Cm.z] at z0 z1 z2 z3 z4
    clear hB2 HV2 HV1
    go_wp2_with (go_at_call 34; refine (New_err NM 3 (by decide) _).mono ?_; rintro e wn ⟨rfl, rfl⟩)
    exact ret_C rfl rfl rfl (HVs _ _) (HE3 _ (HB2.out _).1 (HB2.out _).2)
  | some c0 =>
    obtain ⟨nm, lo, hi, wb, gr⟩ := c0
    have HT := fun w => takes_any ⟨nm, lo, hi, wb, gr⟩ n w
    rw [hf] at HLk
    have HLk : ∀ w, Calls Tryd.prog 9 #[.string NM] w fun e w' => e = .returned (.tuple #[.agg #[.string nm, .int .i64 lo, .int .i64 hi, .bool wb, .int .i64 gr], .bool true]) ∧ Below w.heap.size w w' := HLk
    have HT : ∀ w, Calls Tryd.prog 32 #[.agg #[.string nm, .int .i64 lo, .int .i64 hi, .bool wb, .int .i64 gr], .int .i64 n] w fun e w' => e = .returned (.bool (takesB ⟨nm, lo, hi, wb, gr⟩ n)) ∧ Below w.heap.size w w' := HT
    have HWhy2 : Hid (whyP ls = if takesB ⟨nm, lo, hi, wb, gr⟩ n = true then (if L = true then 11 else 0) else 2) := by show _ = _; rw [HWhy.out, hf]; rfl
    have HCp2 : Hid (cP ls = if whyP ls = 0 then ⟨nm, lo, hi, wb, gr⟩ else Cm.z) := by show _ = _; rw [HCp.out, hf]; rfl
    obtain ⟨tk, htk⟩ : ∃ tk, takesB ⟨nm, lo, hi, wb, gr⟩ n = tk := ⟨_, rfl⟩
    rw [htk] at HT HWhy2
    clear htk hf HWhy HCp
    cases tk with
    | false =>
      have HE3 := fun wk => HEnd.out wk 2 (by decide) (by rw [HWhy2.out]; rfl)
      clear HLo HCp2 HWhy2 HEnd
      go_enter Tryd.func18, Tryd.ntmps18
      go_upto_region 2 with (go_at_call 31; refine (HCa _ (HR.out.keep (alloc_below w _))).mono ?_; rintro e w1 ⟨rfl, hB1⟩)
      have HV1 : Hid (VarC w1 w.heap.size Cm.z) := HZ.out.keep hB1 HZ.out.lt
      have HB1 : Hid (Below w.heap.size w w1) := (alloc_below w _).trans (hB1.mono (alloc_below w _).size)
      clear hB1
      go_upto_region 4 with (go_at_call 9; refine (HLk _).mono ?_; rintro e w2 ⟨rfl, hB2⟩)
      obtain ⟨wq, hwq⟩ : ∃ wq, w2.alloc (.cells #[.string nm, .int .i64 lo, .int .i64 hi, .bool wb, .int .i64 gr] 27) = wq := ⟨_, rfl⟩
      have hBq : Below w2.heap.size w2 wq := by rw [← hwq]; exact alloc_below w2 _
      have HYq : Hid (VarC wq w2.heap.size ⟨nm, lo, hi, wb, gr⟩) := by rw [← hwq]; exact ⟨_, heap_alloc_new w2 _⟩
      have y0 := HYq.out.cells.1
      have y1 := HYq.out.cells.2.1
      have y2 := HYq.out.cells.2.2.1
      have y3 := HYq.out.cells.2.2.2.1
      have y4 := HYq.out.cells.2.2.2.2
      simp only at y0 y1 y2 y3 y4
      simp only [hwq]
      have HVq : Hid (VarC wq w.heap.size Cm.z) := HV1.out.keep (hB2.trans (hBq.mono hB2.size)) HV1.out.lt
      have HBq : Hid (Below w.heap.size w wq) := HB1.out.trans ((hB2.trans (hBq.mono hB2.size)).mono HB1.out.size)
      clear hwq hB2 hBq HV1 HB1
      go_upto_region 10 with (go_at_call 32; refine (HT _).mono ?_; rintro e w3 ⟨rfl, hB3⟩)
      have HV3c := HVq.out.keep hB3 HVq.out.lt
      have HY3 := HYq.out.keep hB3 HYq.out.lt
      have HB3 : Hid (Below w.heap.size w w3) := HBq.out.trans (hB3.mono HBq.out.size)
      have HS3 : Hid (w.heap.size < w3.heap.size) := HV3c.lt
      clear hB3 y0 y1 y2 y3 y4 HVq HYq HBq
      have HV3 : ∀ o, VarC (w3.alloc o) w.heap.size Cm.z := fun o => HV3c.keep (alloc_below w3 o) HV3c.lt
      have z0 := fun o => (HV3 o).cells.1
      have z1 := fun o => (HV3 o).cells.2.1
      have z2 := fun o => (HV3 o).cells.2.2.1
      have z3 := fun o => (HV3 o).cells.2.2.2.1
      have z4 := fun o => (HV3 o).cells.2.2.2.2
      have fz := fun o => (HV3 o).free
      have HVs := fun o => (HV3 o).set Cm.z
      simp only [Cm.z] at z0 z1 z2 z3 z4
      clear HV3 HV3c HY3
      go_wp2_with (go_at_call 34; refine (New_err NM 2 (by decide) _).mono ?_; rintro e wn ⟨rfl, rfl⟩)
      exact ret_C (x := newE _) rfl rfl rfl (HVs _) (HE3 _ HB3.out HS3.out)
    | true =>
      cases L with
      | true =>
        have HE3 := fun wk => HEnd.out wk 11 (by decide) (by rw [HWhy2.out]; rfl)
        clear HCp2 HWhy2 HEnd
        go_enter Tryd.func18, Tryd.ntmps18
        go_upto_region 2 with (go_at_call 31; refine (HCa _ (HR.out.keep (alloc_below w _))).mono ?_; rintro e w1 ⟨rfl, hB1⟩)
        have HV1 : Hid (VarC w1 w.heap.size Cm.z) := HZ.out.keep hB1 HZ.out.lt
        have HB1 : Hid (Below w.heap.size w w1) := (alloc_below w _).trans (hB1.mono (alloc_below w _).size)
        clear hB1
        go_upto_region 4 with (go_at_call 9; refine (HLk _).mono ?_; rintro e w2 ⟨rfl, hB2⟩)
        obtain ⟨wq, hwq⟩ : ∃ wq, w2.alloc (.cells #[.string nm, .int .i64 lo, .int .i64 hi, .bool wb, .int .i64 gr] 27) = wq := ⟨_, rfl⟩
        have hBq : Below w2.heap.size w2 wq := by rw [← hwq]; exact alloc_below w2 _
        have HYq : Hid (VarC wq w2.heap.size ⟨nm, lo, hi, wb, gr⟩) := by rw [← hwq]; exact ⟨_, heap_alloc_new w2 _⟩
        have y0 := HYq.out.cells.1
        have y1 := HYq.out.cells.2.1
        have y2 := HYq.out.cells.2.2.1
        have y3 := HYq.out.cells.2.2.2.1
        have y4 := HYq.out.cells.2.2.2.2
        simp only at y0 y1 y2 y3 y4
        simp only [hwq]
        have HVq : Hid (VarC wq w.heap.size Cm.z) := HV1.out.keep (hB2.trans (hBq.mono hB2.size)) HV1.out.lt
        have HBq : Hid (Below w.heap.size w wq) := HB1.out.trans ((hB2.trans (hBq.mono hB2.size)).mono HB1.out.size)
        clear hwq hB2 hBq HV1 HB1
        go_upto_region 8 with (go_at_call 32; refine (HT _).mono ?_; rintro e w3 ⟨rfl, hB3⟩)
        have HV3c := HVq.out.keep hB3 HVq.out.lt
        have HY3 := HYq.out.keep hB3 HYq.out.lt
        have HB3 : Hid (Below w.heap.size w w3) := HBq.out.trans (hB3.mono HBq.out.size)
        have HS3 : Hid (w.heap.size < w3.heap.size) := HV3c.lt
        clear hB3 y0 y1 y2 y3 y4 HVq HYq HBq
        have HV3 : ∀ o, VarC (w3.alloc o) w.heap.size Cm.z := fun o => HV3c.keep (alloc_below w3 o) HV3c.lt
        have z0 := fun o => (HV3 o).cells.1
        have z1 := fun o => (HV3 o).cells.2.1
        have z2 := fun o => (HV3 o).cells.2.2.1
        have z3 := fun o => (HV3 o).cells.2.2.2.1
        have z4 := fun o => (HV3 o).cells.2.2.2.2
        have fz := fun o => (HV3 o).free
        have HVs := fun o => (HV3 o).set Cm.z
        simp only [Cm.z] at z0 z1 z2 z3 z4
        clear HV3 HV3c HY3
        go_wp2_with (first
          | (go_at_call 33; refine (HLo _ (HR.out.keep HB3.out)).mono ?_; rintro e wn ⟨rfl, rfl⟩)
          | (go_at_call 34; refine (New_err NM 11 (by decide) _).mono ?_; rintro e wn ⟨rfl, rfl⟩))
        exact ret_C (x := newE _) rfl rfl rfl (HVs _) (HE3 _ HB3.out HS3.out)
      | false =>
        have HE0 : Hid (whyP ls = 0 ∧ cP ls = ⟨nm, lo, hi, wb, gr⟩) := by
          have : whyP ls = 0 := by rw [HWhy2.out]; rfl
          exact ⟨this, by rw [HCp2.out, if_pos this]⟩
        clear HCp2 HWhy2 HEnd
        go_enter Tryd.func18, Tryd.ntmps18
        go_upto_region 2 with (go_at_call 31; refine (HCa _ (HR.out.keep (alloc_below w _))).mono ?_; rintro e w1 ⟨rfl, hB1⟩)
        have HV1 : Hid (VarC w1 w.heap.size Cm.z) := HZ.out.keep hB1 HZ.out.lt
        have HB1 : Hid (Below w.heap.size w w1) := (alloc_below w _).trans (hB1.mono (alloc_below w _).size)
        clear hB1
        go_upto_region 4 with (go_at_call 9; refine (HLk _).mono ?_; rintro e w2 ⟨rfl, hB2⟩)
        obtain ⟨wq, hwq⟩ : ∃ wq, w2.alloc (.cells #[.string nm, .int .i64 lo, .int .i64 hi, .bool wb, .int .i64 gr] 27) = wq := ⟨_, rfl⟩
        have hBq : Below w2.heap.size w2 wq := by rw [← hwq]; exact alloc_below w2 _
        have HYq : Hid (VarC wq w2.heap.size ⟨nm, lo, hi, wb, gr⟩) := by rw [← hwq]; exact ⟨_, heap_alloc_new w2 _⟩
        have y0 := HYq.out.cells.1
        have y1 := HYq.out.cells.2.1
        have y2 := HYq.out.cells.2.2.1
        have y3 := HYq.out.cells.2.2.2.1
        have y4 := HYq.out.cells.2.2.2.2
        simp only at y0 y1 y2 y3 y4
        simp only [hwq]
        have HVq : Hid (VarC wq w.heap.size Cm.z) := HV1.out.keep (hB2.trans (hBq.mono hB2.size)) HV1.out.lt
        have HBq : Hid (Below w.heap.size w wq) := HB1.out.trans ((hB2.trans (hBq.mono hB2.size)).mono HB1.out.size)
        clear hwq hB2 hBq HV1 HB1
        go_upto_region 8 with (go_at_call 32; refine (HT _).mono ?_; rintro e w3 ⟨rfl, hB3⟩)
        have HV3c := HVq.out.keep hB3 HVq.out.lt
        have HY3 := HYq.out.keep hB3 HYq.out.lt
        have HB3 : Hid (Below w.heap.size w w3) := HBq.out.trans (hB3.mono HBq.out.size)
        have HS3 : Hid (w.heap.size < w3.heap.size) := HV3c.lt
        clear hB3 y0 y1 y2 y3 y4 HVq HYq HBq
        have HV3 := HV3c
        have z0 := HV3.cells.1
        have z1 := HV3.cells.2.1
        have z2 := HV3.cells.2.2.1
        have z3 := HV3.cells.2.2.2.1
        have z4 := HV3.cells.2.2.2.2
        have fz := HV3.free
        have HVs := HV3.set ⟨nm, lo, hi, wb, gr⟩
        simp only [Cm.z] at z0 z1 z2 z3 z4
        have y0 := HY3.cells.1
        have y1 := HY3.cells.2.1
        have y2 := HY3.cells.2.2.1
        have y3 := HY3.cells.2.2.2.1
        have y4 := HY3.cells.2.2.2.2
        simp only at y0 y1 y2 y3 y4
        clear HV3 HV3c HY3
        go_wp2_with (go_at_call 33; refine (HLo _ (HR.out.keep HB3.out)).mono ?_; rintro e wn ⟨rfl, rfl⟩)
        exact ret_C rfl rfl rfl HVs ⟨set5_below HB3.out (Nat.le_refl _) ⟨nm, lo, hi, wb, gr⟩, .inl ⟨HE0.out.1, by rw [HE0.out.2]; rfl⟩⟩
end Go.Proofs.YtlapiaoopmhogaaDoor
