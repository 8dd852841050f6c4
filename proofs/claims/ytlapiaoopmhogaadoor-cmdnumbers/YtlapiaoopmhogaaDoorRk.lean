/-
  The document's own Check.
-/
import Derived.Test.YtlapiaoopmhogaaDoorRl
import Derived.Test.YtlapiaoopmhogaaDoorCl
namespace Go.Proofs.YtlapiaoopmhogaaDoor
open Go.RowKit Go.PlainAid

def findD (l : List Cm) (s : ByteArray) : Option Cm := l.find? fun c => decide (c.nm.data.toList = s.data.toList)
theorem findD_eq (l : List Cm) (s : ByteArray) : findD l s = fnd l s := by
  unfold findD fnd
  congr 1
  funext c
  by_cases h : c.nm = s
  · rw [decide_eq_true h, h]; simp
  · rw [decide_eq_false h]
    refine decide_eq_false fun e => h ?_
    rw [← bs_lst c.nm, ← bs_lst s]
    exact congrArg bs e
def allFound : Bool := progs.all fun c => match findD refs c.nm with
  | some d => eqC c d
  | none => false
def allThere : Bool := refs.all fun c => (findD progs c.nm).isSome
def allShort (l : List Cm) : Bool := l.all fun c => decide (c.nm.data.toList.length < 64)
theorem allFound_yes : allFound = true := by kernel_rfl
theorem allThere_yes : allThere = true := by kernel_rfl
theorem short_progs : allShort progs = true := by kernel_rfl
theorem short_refs : allShort refs = true := by kernel_rfl
theorem fnd_some {l : List Cm} {s : ByteArray} {c : Cm} (h : fnd l s = some c) : c ∈ l ∧ c.nm = s := ⟨List.mem_of_find?_eq_some h, by have := List.find?_some h; simpa using this⟩
theorem fnd_none {l : List Cm} {s : ByteArray} (h : fnd l s = none) : ∀ c ∈ l, ¬ c.nm = s := fun c hc => by have := List.find?_eq_none.1 h c hc; simpa using this
theorem fnd_both (s : ByteArray) : fnd refs s = fnd progs s := by
  cases h : fnd progs s with
  | some c =>
    obtain ⟨h1, rfl⟩ := fnd_some h
    have h2 := List.all_eq_true.1 allFound_yes c h1
    rw [findD_eq] at h2
    cases h3 : fnd refs c.nm with
    | none => rw [h3] at h2; simp at h2
    | some d => rw [h3] at h2; rw [eqC_yes h2]
  | none =>
    cases h3 : fnd refs s with
    | none => rfl
    | some d =>
      obtain ⟨h4, rfl⟩ := fnd_some h3
      have h5 := List.all_eq_true.1 allThere_yes d h4
      rw [findD_eq, h] at h5
      exact absurd h5 (by decide)
theorem fnd_long {l : List Cm} (hl : allShort l = true) {s : ByteArray} (h : 64 ≤ s.size) : fnd l s = none := by
  cases h1 : fnd l s with
  | none => rfl
  | some c =>
    obtain ⟨h2, rfl⟩ := fnd_some h1
    have h3 := of_decide_eq_true (List.all_eq_true.1 hl c h2)
    have h4 := len_lst c.nm
    unfold lst at h4
    omega
theorem cmd_same (s : ByteArray) (l : List ByteArray) : fnd refs (low s) = cmdP (s :: l) := by
  rw [cmdP, nameP, fnd_both]
  by_cases h : (64 : Int) < s.size
  · rw [fnd_long short_progs (by rw [low_size]; omega), fnd_long short_progs]
    rw [low_size, cutB, if_pos h]
    simp; omega
  · rw [cutB, if_neg h]

set_option maxRecDepth 100000 in
set_option maxHeartbeats 4000000 in
theorem rCheck_any (a : Option Addr) (n c : Nat) (ls : List ByteArray) (w : World) (h : RdS w a n ls) (hz : ∀ s ∈ ls, s.size ≤ maxLen) :
    Calls Tryd.prog 26 #[.slice a n c] w fun e w' => e = .returned (.tuple #[(cP ls).v, .string (nameP ls), .int .i64 (whyP ls)]) ∧ Below w.heap.size w w' := by
  have HZ : Hid (VarC (w.alloc (.cells #[.string ⟨#[]⟩, .int .i64 0, .int .i64 0, .bool false, .int .i64 0] 30)) w.heap.size Cm.z) := ⟨_, heap_alloc_new w _⟩
  have hb0 := alloc_below w (.cells #[.string ⟨#[]⟩, .int .i64 0, .int .i64 0, .bool false, .int .i64 0] 30)
  have HR0 : Hid (RdS (w.alloc (.cells #[.string ⟨#[]⟩, .int .i64 0, .int .i64 0, .bool false, .int .i64 0] 30)) a n ls) := h.keep hb0
  obtain ⟨wa, hwa⟩ : ∃ wa, w.alloc (.cells #[.string ⟨#[]⟩, .int .i64 0, .int .i64 0, .bool false, .int .i64 0] 30) = wa := ⟨_, rfl⟩
  rw [hwa] at HZ HR0 hb0
  have HBa : Hid (Below w.heap.size w wa) := hb0
  have hn63 : n ≤ 9223372036854775807 := h.max
  cases ls with
  | nil =>
    have hn : n = 0 := by rw [← h.len]; rfl
    subst hn
    obtain ⟨z0, z1, z2, z3, z4⟩ := HZ.out.cells
    have fz := HZ.out.free
    have HVs := HZ.out.set Cm.z
    simp only [Cm.z] at z0 z1 z2 z3 z4
    have HE : Hid (whyP [] = 3 ∧ cP [] = Cm.z) := by
      have h3 : whyP [] = 3 := by
        have : cmdP [] = none := by rw [cmdP, nameP, ← findD_eq]; kernel_rfl
        rw [whyP, this]; rfl
      exact ⟨h3, by rw [cP, if_neg (by rw [h3]; decide)]⟩
    clear h hz hb0
    go_enter Tryd.func26, Tryd.ntmps26
    go_upto_region 1 with fail
    try simp only [hwa]
    clear hwa
    go_wp2
    refine ret_RC2 rfl rfl rfl rfl HVs ⟨by rw [HE.out.1, HE.out.2]; rfl, ?_⟩
    exact ((((HBa.out.setCell (Nat.le_refl _) _).setCell (Nat.le_refl _) _).setCell (Nat.le_refl _) _).setCell (Nat.le_refl _) _).setCell (Nat.le_refl _) _
  | cons s l =>
    have hl := h.len
    rw [List.length_cons] at hl
    have hn0 : (0 : Int) < n := by omega
    have hne : ((n : Int) == 0) = false := by simp; omega
    obtain ⟨b, off, rfl, hc⟩ := HR0.out.cell 0 (by omega)
    have hc1 : wa.cell? ⟨b, off, none⟩ = some (.string s) := hc
    have hss : s.size ≤ maxLen := hz s (by simp)
    have hcs := size_cutB s 64 (by omega)
    have HLw := fun w => rLower_any (cutB s 64) w (by unfold maxLen; omega)
    have HLk := fun w => rLookup_any s w hss
    rw [cmd_same s l] at HLk
    have HNM : Hid (nameP (s :: l) = low (cutB s 64)) := rfl
    have HCut : Hid (cutB s 64 = if (64 : Int) < s.size then s.extract 0 64 else s) := rfl
    have HWhy : Hid (whyP (s :: l) = whyOf (cmdP (s :: l)) n (longB (s :: l))) := by show _ = _; rw [whyP, h.len]
    have HCp : Hid (cP (s :: l) = if whyP (s :: l) = 0 then cmOf (cmdP (s :: l)) else Cm.z) := rfl
    have HN : Hid ((s :: l).length = n) := h.len
    obtain ⟨LS, hLS⟩ : ∃ LS, s :: l = LS := ⟨_, rfl⟩
    rw [hLS] at HLk HNM HWhy HCp HR0 HN ⊢
    obtain ⟨CS, hCS⟩ : ∃ CS, cutB s 64 = CS := ⟨_, rfl⟩
    rw [hCS] at HLw HNM HCut
    rw [HNM.out]
    obtain ⟨NM, hNM⟩ : ∃ NM, low CS = NM := ⟨_, rfl⟩
    rw [hNM] at HLw ⊢
    clear h hz hb0 hc hLS hCS hcs hss hNM HNM
    go_enter Tryd.func26, Tryd.ntmps26
    go_upto_region 1 with fail
    try simp only [hwa]
    clear hwa
    go_upto_if 19 with fail
    go_cut [5] from 10 (fun u wx => u = .string CS ∧ wx = wa)
    case first =>
      by_cases h64 : (64 : Int) < s.size
      · have HX : Hid (CS = s.extract 0 64) := by show _ = _; rw [HCut.out, if_pos h64]
        go_wp2
        go_meet
        exact ⟨by rw [HX.out], rfl⟩
      · have HX : Hid (CS = s) := by show _ = _; rw [HCut.out, if_neg h64]
        go_wp2
        go_meet
        exact ⟨by rw [HX.out], rfl⟩
    case rest =>
      obtain ⟨rfl, rfl⟩ := hcut
      -- the end where it is refused
      have HEnd : Hid (∀ (wk : World) (why : Int), ¬ why = 0 → whyP LS = why → Below w.heap.size w wk → (Ending.returned (.tuple #[Cm.z.v, .string NM, .int .i64 why]) = .returned (.tuple #[(cP LS).v, .string NM, .int .i64 (whyP LS)]) ∧ Below w.heap.size w (set5 wk w.heap.size Cm.z))) := fun wk why hw he hb => by
        have hcz : cP LS = Cm.z := by rw [HCp.out, he, if_neg hw]
        exact ⟨by rw [hcz, he], set5_below hb (Nat.le_refl _) _⟩
      go_upto_region 7 with (go_at_call 17; refine (HLw _).mono ?_; rintro e w1 ⟨rfl, hB1⟩)
      have HV1 : Hid (VarC w1 w.heap.size Cm.z) := HZ.out.keep hB1 HZ.out.lt
      have HB1 : Hid (Below w.heap.size w w1) := HBa.out.trans (hB1.mono HBa.out.size)
      have HR1 : Hid (RdS w1 (some ⟨b, off, none⟩) n LS) := HR0.out.keep hB1
      have hc2 : w1.cell? ⟨b, off, none⟩ = some (.string s) := by
        rw [hB1.cell (p := ⟨b, off, none⟩) (World.block_lt_of_cell? _ _ hc1)]; exact hc1
      clear hB1 hc1 HZ HBa HR0 HLw
      cases hf : cmdP LS with
      | none =>
        have HE3 := fun wk => HEnd.out wk 3 (by decide) (by rw [HWhy.out, hf]; rfl)
        rw [hf] at HLk
        have HLk : ∀ w, Calls Tryd.prog 15 #[.string s] w fun e w' => e = .returned (.tuple #[.agg #[.string ⟨#[]⟩, .int .i64 0, .int .i64 0, .bool false, .int .i64 0], .bool false]) ∧ Below w.heap.size w w' := HLk
        clear HWhy HCp hf HEnd
        go_upto_region 8 with (go_at_call 15; refine (HLk _).mono ?_; rintro e w2 ⟨rfl, hB2⟩)
        have HV2 : Hid (∀ o, VarC (w2.alloc o) w.heap.size Cm.z) := fun o => (HV1.out.keep hB2 HV1.out.lt).keep (alloc_below w2 o) (Nat.lt_of_lt_of_le HV1.out.lt hB2.size)
        have HB2 : Hid (∀ o, Below w.heap.size w (w2.alloc o)) := fun o => HB1.out.trans ((hB2.mono HB1.out.size).trans ((alloc_below w2 o).mono (Nat.le_trans HB1.out.size hB2.size)))
        have z0 := fun o => (HV2.out o).cells.1
        have z1 := fun o => (HV2.out o).cells.2.1
        have z2 := fun o => (HV2.out o).cells.2.2.1
        have z3 := fun o => (HV2.out o).cells.2.2.2.1
        have z4 := fun o => (HV2.out o).cells.2.2.2.2
        have fz := fun o => (HV2.out o).free
        have HVs := fun o => (HV2.out o).set Cm.z
        simp only [Cm.z] at z0 z1 z2 z3 z4
        clear hB2 HV2 HV1
        go_wp2
        exact ret_RC2 (x := .string NM) (y := .int .i64 3) rfl rfl rfl rfl (HVs _) (HE3 _ (HB2.out _))
      | some c0 =>
        obtain ⟨nm, lo, hi, wb, gr⟩ := c0
        rw [hf] at HLk
        have HLk : ∀ w, Calls Tryd.prog 15 #[.string s] w fun e w' => e = .returned (.tuple #[.agg #[.string nm, .int .i64 lo, .int .i64 hi, .bool wb, .int .i64 gr], .bool true]) ∧ Below w.heap.size w w' := HLk
        have HWhy2 : Hid (whyP LS = if takesB ⟨nm, lo, hi, wb, gr⟩ n = true then (if longB LS = true then 11 else 0) else 2) := by show _ = _; rw [HWhy.out, hf]; rfl
        have HCp2 : Hid (cP LS = if whyP LS = 0 then ⟨nm, lo, hi, wb, gr⟩ else Cm.z) := by show _ = _; rw [HCp.out, hf]; rfl
        have HTk : Hid (takesB ⟨nm, lo, hi, wb, gr⟩ n = (decide (lo ≤ n) && (decide ((n : Int) ≤ hi) && pairsB nm n))) := rfl
        have HPr : Hid (pairsB nm n = if nm = msetS then decide (n % 2 = 1) else if nm = hsetS then decide (n % 2 = 0) else true) := rfl
        obtain ⟨tk, htk⟩ : ∃ tk, takesB ⟨nm, lo, hi, wb, gr⟩ n = tk := ⟨_, rfl⟩
        rw [htk] at HWhy2 HTk
        clear htk hf HWhy HCp
        go_upto_region 8 with (go_at_call 15; refine (HLk _).mono ?_; rintro e w2 ⟨rfl, hB2⟩)
        obtain ⟨wq, hwq⟩ : ∃ wq, w2.alloc (.cells #[.string nm, .int .i64 lo, .int .i64 hi, .bool wb, .int .i64 gr] 30) = wq := ⟨_, rfl⟩
        have hBq : Below w2.heap.size w2 wq := by rw [← hwq]; exact alloc_below w2 _
        have HYq : Hid (VarC wq w2.heap.size ⟨nm, lo, hi, wb, gr⟩) := by rw [← hwq]; exact ⟨_, heap_alloc_new w2 _⟩
        obtain ⟨y0, y1, y2, y3, y4⟩ := HYq.out.cells
        simp only at y0 y1 y2 y3 y4
        have hB12 : Below w1.heap.size w1 wq := hB2.trans (hBq.mono hB2.size)
        have HVq : Hid (VarC wq w.heap.size Cm.z) := HV1.out.keep hB12 HV1.out.lt
        have HBq : Hid (Below w.heap.size w wq) := HB1.out.trans (hB12.mono HB1.out.size)
        have HRq : Hid (RdS wq (some ⟨b, off, none⟩) n LS) := HR1.out.keep hB12
        simp only [hwq]
        clear hwq hBq hB2 hB12 HV1 HB1 HR1 hc2 HLk
        go_upto_region 11 with fail
        have HM := mod2 n
        have h1 : (nm.toList == [109, 115, 101, 116]) = decide (nm = msetS) := eq_lit _ _
        have h2 : (nm.toList == [104, 115, 101, 116]) = decide (nm = hsetS) := eq_lit _ _
        go_cut [66] from 37 (fun u wx => u = .bool (!tk) ∧ wx = wq)
        case first =>
          by_cases hlo : (n : Int) < lo
          · have HQ : Hid (tk = false) := by show _ = _; rw [HTk.out, decide_eq_false (show ¬ lo ≤ (n : Int) by omega), Bool.false_and]
            clear HTk HPr h1 h2
            go_wp2
            go_meet
            exact ⟨by rw [HQ.out]; rfl, rfl⟩
          · by_cases hhi : hi < (n : Int)
            · have HQ : Hid (tk = false) := by show _ = _; rw [HTk.out, decide_eq_false (show ¬ (n : Int) ≤ hi by omega), Bool.false_and, Bool.and_false]
              clear HTk HPr h1 h2
              go_wp2
              go_meet
              exact ⟨by rw [HQ.out]; rfl, rfl⟩
            · have HT2 : Hid (tk = pairsB nm n) := by show _ = _; rw [HTk.out, decide_eq_true (show (n : Int) ≤ hi by omega), decide_eq_true (show lo ≤ (n : Int) by omega)]; rfl
              clear HTk
              by_cases e1 : nm = msetS
              · have e2 : ¬ nm = hsetS := by rw [e1]; intro e; exact absurd (congrArg (fun b : ByteArray => b.data.toList) e) (by decide)
                rw [decide_eq_true e1] at h1
                rw [decide_eq_false e2] at h2
                have HQ : Hid (tk = decide (n % 2 = 1)) := by show _ = _; rw [HT2.out, HPr.out, if_pos e1]
                clear e1 e2 HPr HT2
                rcases Nat.mod_two_eq_zero_or_one n with h | h
                all_goals
                  rw [h] at HM HQ
                  clear h
                  go_wp2
                  go_meet
                  exact ⟨by rw [HQ.out]; rfl, rfl⟩
              · rw [decide_eq_false e1] at h1
                by_cases e2 : nm = hsetS
                · rw [decide_eq_true e2] at h2
                  have HQ : Hid (tk = decide (n % 2 = 0)) := by show _ = _; rw [HT2.out, HPr.out, if_neg e1, if_pos e2]
                  clear e1 e2 HPr HT2
                  rcases Nat.mod_two_eq_zero_or_one n with h | h
                  all_goals
                    rw [h] at HM HQ
                    clear h
                    go_wp2
                    go_meet
                    exact ⟨by rw [HQ.out]; rfl, rfl⟩
                · rw [decide_eq_false e2] at h2
                  have HQ : Hid (tk = true) := by show _ = _; rw [HT2.out, HPr.out, if_neg e1, if_neg e2]
                  clear e1 e2 HPr HT2
                  go_wp2
                  go_meet
                  exact ⟨by rw [HQ.out]; rfl, rfl⟩
        case rest =>
          obtain ⟨rfl, rfl⟩ := hcut
          clear h1 h2 HM HTk HPr
          obtain ⟨z0, z1, z2, z3, z4⟩ := HVq.out.cells
          have fz := HVq.out.free
          have HVs := HVq.out.set Cm.z
          have HVc := HVq.out.set ⟨nm, lo, hi, wb, gr⟩
          simp only [Cm.z] at z0 z1 z2 z3 z4
          cases tk with
          | false =>
            have HE2 := HEnd.out wc 2 (by decide) (by rw [HWhy2.out]; rfl) HBq.out
            go_wp2
            exact ret_RC2 (x := .string NM) (y := .int .i64 2) rfl rfl rfl rfl HVs HE2
          | true =>
            have HF0 : Hid (longB (LS.take 0) = false) := rfl
            go_wp2
            go_loopg [9] n (fun g iv wr => ∃ k : Nat, iv = .int .i64 k ∧ k + g = n ∧ wr = wc ∧ Hid (longB (LS.take k) = false))
            case atStart => exact ⟨0, rfl, by omega, rfl, HF0⟩
            case round =>
              obtain ⟨k, rfl, hk, rfl, HF⟩ := hrel
              by_cases h1 : (k : Int) < n
              · have hk1 : k < LS.length := by rw [HN.out]; omega
                obtain ⟨b', off', e1, hc⟩ := HRq.out.cell k (by omega)
                cases e1
                have hs : LS.take (k + 1) = LS.take k ++ [LS.getD k ByteArray.empty] := by
                  rw [List.take_add_one, List.getElem?_eq_getElem hk1, List.getD_eq_getElem?_getD, List.getElem?_eq_getElem hk1]; rfl
                have HS : Hid (longB (LS.take (k + 1)) = decide (4096 < (LS.getD k ByteArray.empty).size)) := by
                  show _ = _
                  rw [hs, longB, List.any_append]
                  have := HF.out
                  rw [longB] at this
                  rw [this, Bool.false_or, List.any_cons, List.any_nil, Bool.or_false]
                have HH : Hid (longB (LS.take (k + 1)) = true → longB LS = true) := fun h => by
                  rw [← List.take_append_drop (k + 1) LS, longB, List.any_append]
                  rw [longB] at h
                  rw [h]; rfl
                obtain ⟨s2, hsx⟩ : ∃ s2, LS.getD k ByteArray.empty = s2 := ⟨_, rfl⟩
                rw [hsx] at hc HS
                clear hs hsx hk1
                by_cases h4 : (4096 : Int) < s2.size
                · have HE : Hid (longB LS = true) := HH.out (by rw [HS.out]; exact decide_eq_true (by omega))
                  have HE2 := HEnd.out wr 11 (by decide) (by rw [HWhy2.out, HE.out]; rfl) HBq.out
                  go_wp2
                  exact ret_RC2 (x := .string NM) (y := .int .i64 11) rfl rfl rfl rfl HVs HE2
                · have HE : Hid (longB (LS.take (k + 1)) = false) := by show _ = _; rw [HS.out]; exact decide_eq_false (by omega)
                  go_wp2
                  go_roundg (gk - 1)
                  case measure => omega
                  case rel => exact ⟨k + 1, by go_num, by omega, rfl, HE⟩
              · have HE : Hid (longB LS = false) := by
                  have := HF.out
                  rw [List.take_of_length_le (by rw [HN.out]; omega)] at this
                  exact this
                have HE0 : Hid (whyP LS = 0 ∧ cP LS = ⟨nm, lo, hi, wb, gr⟩) := by
                  have : whyP LS = 0 := by rw [HWhy2.out, HE.out]; rfl
                  exact ⟨this, by rw [HCp2.out, if_pos this]⟩
                go_wp2
                exact ret_RC2 (x := .string NM) (y := .int .i64 0) rfl rfl rfl rfl HVc ⟨by rw [HE0.out.1, HE0.out.2], set5_below HBq.out (Nat.le_refl _) ⟨nm, lo, hi, wb, gr⟩⟩
end Go.Proofs.YtlapiaoopmhogaaDoor
