/-
  The document's own class.
-/
import Derived.Test.YtbmcnbhceogcjaaClass
import Derived.Deep.CutRange
namespace Go.Proofs.Ytbmcnbhceogcjaa
open Go.RowKit Go.PlainAid

theorem first_yes {s : ByteArray} (h0 : 0 < s.size) (h : (s[0]'h0).toNat = 94) : true = decide ((lst s).head? = some 94) := by
  rw [lst_cons s h0, show s[0] = 94 from UInt8.toNat_inj.1 h]; rfl
theorem first_no {s : ByteArray} (h : ∀ h0 : 0 < s.size, (s[0]'h0).toNat ≠ 94) : false = decide ((lst s).head? = some 94) := by
  symm
  rw [decide_eq_false_iff_not]
  by_cases h0 : 0 < s.size
  · rw [lst_cons s h0]
    intro e
    have : s[0] = 94 := Option.some.inj e
    exact h h0 (by rw [this]; rfl)
  · rw [lst_nil h0]; simp
theorem first_at {s : ByteArray} (h0 : 0 < s.size) (h : true = decide ((lst s).head? = some 94)) : (s[0]'h0).toNat = 94 := by
  have h1 := of_decide_eq_true h.symm
  rw [lst_cons s h0] at h1
  rw [show s[0] = 94 from Option.some.inj h1]; rfl
theorem first_not {s : ByteArray} (h : false = decide ((lst s).head? = some 94)) (h0 : 0 < s.size) : (s[0]'h0).toNat ≠ 94 := by
  intro e
  rw [← first_yes h0 e] at h
  cases h

set_option maxRecDepth 100000 in
set_option maxHeartbeats 4000000 in
theorem refClass_any (s : ByteArray) (b : Nat) (w : World) (hs : s.size ≤ maxLen) :
    Calls Try.prog 19 #[.string s, .int .u8 b] w fun e w' => Below w.heap.size w w' ∧ e = .returned (rclsR (cls b (lst s))) := by
  unfold maxLen at hs
  go_enter Try.func19, Try.ntmps19
  go_upto_region 2 with fail
  go_cut [17] from 10 to 17 (fun tv wx => w = wx ∧ ∃ wo : Bool, tv = .bool wo ∧ (wo = true → 0 < s.size) ∧ Hid (wo = decide ((lst s).head? = some 94)))
  case first =>
    by_cases h0 : 0 < s.size
    · obtain ⟨c0, hc⟩ : ∃ c : Int, ((s[0]'h0).toNat : Int) = c := ⟨_, rfl⟩
      have hcb0 := byte_le _ hc
      by_cases hn : c0 = 94
      · have HD : Hid (true = decide ((lst s).head? = some 94)) := first_yes h0 (by omega)
        subst hn
        go_wp2
        go_meet
        exact ⟨rfl, true, rfl, fun _ => h0, HD⟩
      · have HD : Hid (false = decide ((lst s).head? = some 94)) := first_no (by intro _; omega)
        have hq0 : (c0 == 94) = false := by simpa using hn
        clear hn
        go_wp2
        go_meet
        exact ⟨rfl, false, rfl, (fun h => by cases h), HD⟩
    · have HD : Hid (false = decide ((lst s).head? = some 94)) := first_no (by intro h; omega)
      go_wp2
      go_meet
      exact ⟨rfl, false, rfl, (fun h => by cases h), HD⟩
  case rest =>
  obtain ⟨rfl, wo, rfl, hw0, HD⟩ := hcut
  go_upto_if 17 with fail
  go_cut [0, 6] from 10 to 19 (fun pv nv wx => w = wx ∧ ∃ (t : ByteArray), pv = .string t ∧ nv = .bool wo ∧ t.size ≤ s.size ∧ Hid (cls b (lst s) = ((mems b s.size (lst t) false).1 != wo, (mems b s.size (lst t) false).2)))
  case first =>
    cases wo with
    | true =>
      have h0 := hw0 rfl
      have HQ : Hid (cls b (lst s) = ((mems b s.size (lst (s.extract 1 s.size)) false).1 != true, (mems b s.size (lst (s.extract 1 s.size)) false).2)) := by
        show _ = _
        rw [cls_not b s h0 (first_at h0 HD.out), extract_bs, lst_bs, Bool.bne_true]
      have hs0 : (s.extract 1 s.size).size ≤ s.size := by simp
      clear hw0
      go_wp2
      go_meet
      exact ⟨rfl, _, rfl, rfl, hs0, HQ⟩
    | false =>
      have HQ : Hid (cls b (lst s) = ((mems b s.size (lst s) false).1 != false, (mems b s.size (lst s) false).2)) := by
        show _ = _
        rw [cls_yes b s (first_not HD.out), Bool.bne_false]
      clear hw0
      go_wp2
      go_meet
      exact ⟨rfl, _, rfl, rfl, Nat.le_refl _, HQ⟩
  case rest =>
    obtain ⟨rfl, t0, rfl, rfl, ht0, HQ0⟩ := hcut
    clear hw0 HD
    obtain ⟨Q, hQ⟩ : ∃ Q, mems b s.size (lst t0) false = Q := ⟨_, rfl⟩
    have HA : Hid (cls b (lst s) = (Q.1 != wo, Q.2)) := by show _ = _; rw [HQ0.out, hQ]
    have HQ : Hid (mems b s.size (lst t0) false = Q) := hQ
    clear hQ HQ0
    go_wp2
    go_loopg [0, 7] s.size (fun g pv hv wr => ∃ (t : ByteArray) (h : Bool), t.size ≤ g ∧ t.size ≤ 9223372036854775807 ∧ pv = .string t ∧ hv = .bool h ∧ Hid (mems b g (lst t) h = Q) ∧ Hid (Below w.heap.size w wr))
    case atStart => exact ⟨_, false, ht0, by omega, rfl, rfl, HQ, Below.refl _ _⟩
    case round =>
      obtain ⟨t, h, hg, hz, rfl, rfl, HM, HB⟩ := hrel
      have HG : Hid (t.size ≤ gk) := hg
      clear hg
      by_cases h0 : 0 < t.size
      · obtain ⟨c, hc⟩ : ∃ c : Int, ((t[0]'h0).toNat : Int) = c := ⟨_, rfl⟩
        have HC : Hid (((t[0]'h0).toNat : Int) = c) := hc
        have hcb := byte_le _ hc
        have hl0 := lst_cons t h0
        by_cases h93 : c = 93
        · have HE : Hid ((h, (lst t).drop 1) = Q) := (mems_end b gk t h h0 HG.out (by have := HC.out; omega)).symm.trans HM.out
          have HX : Hid (t.extract 1 t.size = bs ((lst t).drop 1)) := extract_bs t 1
          subst h93
          clear hl0
          go_wp2
          go_ret2
          exact ⟨HB.out, by rw [HA.out, ← HE.out, HX.out]; cases h <;> cases wo <;> rfl⟩
        · have hq : (c == 93) = false := by simpa using h93
          have HS : Hid (mems b (gk - 1) ((lst t).drop (msize (lst t))) (h || hit b (lst t)) = Q) := (mems_step b gk t h h0 HG.out (by have := HC.out; omega)).symm.trans HM.out
          clear HM h93
          by_cases h1 : 1 < t.size
          · have hl1 := drop_at t 1 h1
            obtain ⟨d, hd⟩ : ∃ d : Int, ((t[1]'h1).toNat : Int) = d := ⟨_, rfl⟩
            have hdb := byte_le _ hd
            by_cases h92 : c = 92
            · have HM1 : Mem (lst t) d d 2 := by
                rw [hl0, hl1]; exact mem_esc _ _ _ _ (by omega) hd
              have HMM : Hid (msize (lst t) = 2) := by have := HM1.1; show _ = _; omega
              have HH : Hid (hit b (lst t) = decide (d = (b : Int))) := by
                show _ = _
                rw [← HM1.2.2.2.2.2 b, Bool.eq_iff_iff]; simp; omega
              clear HM1
              clear hl0 hl1
              subst h92
              have HX : Hid (t.extract 2 t.size = bs ((lst t).drop 2)) := extract_bs t 2
              have hsz : (t.extract 2 t.size).size ≤ t.size := by simp
              have HSZ : Hid ((t.extract 2 t.size).size + 2 = t.size) := by show _ = _; simp; omega
              cases h with
              | true =>
                go_wp2
                go_roundg (gk - 1)
                case measure => have := HG.out; omega
                case rel =>
                  refine ⟨_, true, ?_, ?_, rfl, rfl, ?_, HB⟩
                  · have := HSZ.out; have := HG.out; omega
                  · omega
                  · have := HS.out; rw [HMM.out, Bool.true_or] at this
                    rw [HX.out]; exact this
              | false =>
                go_wp2
                go_roundg (gk - 1)
                case measure => have := HG.out; omega
                case rel =>
                  refine ⟨_, decide (d = (b : Int)), ?_, ?_, rfl, rfl, ?_, HB⟩
                  · have := HSZ.out; have := HG.out; omega
                  · omega
                  · have := HS.out; rw [HMM.out, HH.out, Bool.false_or] at this
                    rw [HX.out]; exact this
            have hq2 : (c == 92) = false := by simpa using h92
            by_cases h2 : 2 < t.size
            · have hl2 := drop_at t 2 h2
              obtain ⟨f, hf⟩ : ∃ f : Int, ((t[2]'h2).toNat : Int) = f := ⟨_, rfl⟩
              have hfb := byte_le _ hf
              by_cases h45 : d = 45
              · by_cases h932 : f = 93
                · have HM1 : Mem (lst t) c c 1 := by
                    rw [hl0, hl1, hl2]; exact mem_byte _ _ _ _ (by omega) (by rw [List.headD_cons]; omega) hc
                  have HMM : Hid (msize (lst t) = 1) := by have := HM1.1; show _ = _; omega
                  have HH : Hid (hit b (lst t) = decide (c = (b : Int))) := by
                    show _ = _
                    rw [← HM1.2.2.2.2.2 b, Bool.eq_iff_iff]; simp; omega
                  clear HM1
                  clear hl0 hl1 hl2 h92
                  subst h45 h932
                  have HX : Hid (t.extract 1 t.size = bs ((lst t).drop 1)) := extract_bs t 1
                  have hsz : (t.extract 1 t.size).size ≤ t.size := by simp
                  have HSZ : Hid ((t.extract 1 t.size).size + 1 = t.size) := by show _ = _; simp; omega
                  cases h with
                  | true =>
                    go_wp2
                    go_roundg (gk - 1)
                    case measure => have := HG.out; omega
                    case rel =>
                      refine ⟨_, true, ?_, ?_, rfl, rfl, ?_, HB⟩
                      · have := HSZ.out; have := HG.out; omega
                      · omega
                      · have := HS.out; rw [HMM.out, Bool.true_or] at this
                        rw [HX.out]; exact this
                  | false =>
                    go_wp2
                    go_roundg (gk - 1)
                    case measure => have := HG.out; omega
                    case rel =>
                      refine ⟨_, decide (c = (b : Int)), ?_, ?_, rfl, rfl, ?_, HB⟩
                      · have := HSZ.out; have := HG.out; omega
                      · omega
                      · have := HS.out; rw [HMM.out, HH.out, Bool.false_or] at this
                        rw [HX.out]; exact this
                · have HM2 : Mem (lst t) (min c f) (max c f) 3 := by
                    rw [hl0, hl1, hl2]; exact mem_range _ _ _ _ _ _ (by omega) (by omega) (by omega) hc hf
                  have HMM : Hid (msize (lst t) = 3) := by have := HM2.1; show _ = _; omega
                  clear hl0 hl1 hl2 h92
                  have hq3 : (f == 93) = false := by simpa using h932
                  clear h932
                  subst h45
                  have HX : Hid (t.extract 3 t.size = bs ((lst t).drop 3)) := extract_bs t 3
                  have hsz : (t.extract 3 t.size).size ≤ t.size := by simp
                  have HSZ : Hid ((t.extract 3 t.size).size + 3 = t.size) := by show _ = _; simp; omega
                  by_cases hcf : f < c
                  · have HH : Hid (hit b (lst t) = (decide (f ≤ (b : Int)) && decide ((b : Int) ≤ c))) := by
                      show _ = _
                      rw [← HM2.2.2.2.2.2 b]
                      rw [Int.min_eq_right (by omega), Int.max_eq_left (by omega)]
                    clear HM2
                    cases h with
                    | true =>
                      go_wp2
                      go_quiet (fail)
                      go_wp2
                      go_roundg (gk - 1)
                      case measure => have := HG.out; omega
                      case rel =>
                        refine ⟨_, true, ?_, ?_, rfl, rfl, ?_, HB.out.trans ((below_drewN _ _).mono HB.out.size)⟩
                        · have := HSZ.out; have := HG.out; omega
                        · omega
                        · have := HS.out; rw [HMM.out, Bool.true_or] at this
                          rw [HX.out]; exact this
                    | false =>
                      by_cases hlo : f ≤ (b : Int)
                      · go_wp2
                        go_quiet (fail)
                        go_wp2
                        go_roundg (gk - 1)
                        case measure => have := HG.out; omega
                        case rel =>
                          refine ⟨_, decide ((b : Int) ≤ c), ?_, ?_, rfl, rfl, ?_, HB.out.trans ((below_drewN _ _).mono HB.out.size)⟩
                          · have := HSZ.out; have := HG.out; omega
                          · omega
                          · have := HS.out; rw [HMM.out, HH.out, decide_eq_true (show f ≤ (b : Int) by omega), Bool.true_and, Bool.false_or] at this
                            rw [HX.out]; exact this
                      · go_wp2
                        go_quiet (fail)
                        go_wp2
                        go_roundg (gk - 1)
                        case measure => have := HG.out; omega
                        case rel =>
                          refine ⟨_, false, ?_, ?_, rfl, rfl, ?_, HB.out.trans ((below_drewN _ _).mono HB.out.size)⟩
                          · have := HSZ.out; have := HG.out; omega
                          · omega
                          · have := HS.out; rw [HMM.out, HH.out, decide_eq_false (show ¬ f ≤ (b : Int) by omega), Bool.false_and, Bool.false_or] at this
                            rw [HX.out]; exact this
                  · have HH : Hid (hit b (lst t) = (decide (c ≤ (b : Int)) && decide ((b : Int) ≤ f))) := by
                      show _ = _
                      rw [← HM2.2.2.2.2.2 b]
                      rw [Int.min_eq_left (by omega), Int.max_eq_right (by omega)]
                    clear HM2
                    cases h with
                    | true =>
                      go_wp2
                      go_quiet (fail)
                      go_wp2
                      go_roundg (gk - 1)
                      case measure => have := HG.out; omega
                      case rel =>
                        refine ⟨_, true, ?_, ?_, rfl, rfl, ?_, HB.out.trans ((below_drewN _ _).mono HB.out.size)⟩
                        · have := HSZ.out; have := HG.out; omega
                        · omega
                        · have := HS.out; rw [HMM.out, Bool.true_or] at this
                          rw [HX.out]; exact this
                    | false =>
                      by_cases hlo : c ≤ (b : Int)
                      · go_wp2
                        go_quiet (fail)
                        go_wp2
                        go_roundg (gk - 1)
                        case measure => have := HG.out; omega
                        case rel =>
                          refine ⟨_, decide ((b : Int) ≤ f), ?_, ?_, rfl, rfl, ?_, HB.out.trans ((below_drewN _ _).mono HB.out.size)⟩
                          · have := HSZ.out; have := HG.out; omega
                          · omega
                          · have := HS.out; rw [HMM.out, HH.out, decide_eq_true (show c ≤ (b : Int) by omega), Bool.true_and, Bool.false_or] at this
                            rw [HX.out]; exact this
                      · go_wp2
                        go_quiet (fail)
                        go_wp2
                        go_roundg (gk - 1)
                        case measure => have := HG.out; omega
                        case rel =>
                          refine ⟨_, false, ?_, ?_, rfl, rfl, ?_, HB.out.trans ((below_drewN _ _).mono HB.out.size)⟩
                          · have := HSZ.out; have := HG.out; omega
                          · omega
                          · have := HS.out; rw [HMM.out, HH.out, decide_eq_false (show ¬ c ≤ (b : Int) by omega), Bool.false_and, Bool.false_or] at this
                            rw [HX.out]; exact this
              · have HM1 : Mem (lst t) c c 1 := by
                  rw [hl0, hl1]; exact mem_byte _ _ _ _ (by omega) (by omega) hc
                have HMM : Hid (msize (lst t) = 1) := by have := HM1.1; show _ = _; omega
                have HH : Hid (hit b (lst t) = decide (c = (b : Int))) := by
                  show _ = _
                  rw [← HM1.2.2.2.2.2 b, Bool.eq_iff_iff]; simp; omega
                clear HM1
                have hq3 : (d == 45) = false := by simpa using h45
                clear hl0 hl1 hl2 h92 h45
                have HX : Hid (t.extract 1 t.size = bs ((lst t).drop 1)) := extract_bs t 1
                have hsz : (t.extract 1 t.size).size ≤ t.size := by simp
                have HSZ : Hid ((t.extract 1 t.size).size + 1 = t.size) := by show _ = _; simp; omega
                cases h with
                | true =>
                  go_wp2
                  go_roundg (gk - 1)
                  case measure => have := HG.out; omega
                  case rel =>
                    refine ⟨_, true, ?_, ?_, rfl, rfl, ?_, HB⟩
                    · have := HSZ.out; have := HG.out; omega
                    · omega
                    · have := HS.out; rw [HMM.out, Bool.true_or] at this
                      rw [HX.out]; exact this
                | false =>
                  go_wp2
                  go_roundg (gk - 1)
                  case measure => have := HG.out; omega
                  case rel =>
                    refine ⟨_, decide (c = (b : Int)), ?_, ?_, rfl, rfl, ?_, HB⟩
                    · have := HSZ.out; have := HG.out; omega
                    · omega
                    · have := HS.out; rw [HMM.out, HH.out, Bool.false_or] at this
                      rw [HX.out]; exact this
            · have HM1 : Mem (lst t) c c 1 := by
                rw [hl0, hl1, List.drop_eq_nil_of_le (by rw [len_lst]; omega)]; exact mem_byte _ _ _ _ (by omega) (by simp) hc
              have HMM : Hid (msize (lst t) = 1) := by have := HM1.1; show _ = _; omega
              have HH : Hid (hit b (lst t) = decide (c = (b : Int))) := by
                show _ = _
                rw [← HM1.2.2.2.2.2 b, Bool.eq_iff_iff]; simp; omega
              clear HM1
              clear hl0 hl1 h92
              have HX : Hid (t.extract 1 t.size = bs ((lst t).drop 1)) := extract_bs t 1
              have hsz : (t.extract 1 t.size).size ≤ t.size := by simp
              have HSZ : Hid ((t.extract 1 t.size).size + 1 = t.size) := by show _ = _; simp; omega
              cases h with
              | true =>
                go_wp2
                go_roundg (gk - 1)
                case measure => have := HG.out; omega
                case rel =>
                  refine ⟨_, true, ?_, ?_, rfl, rfl, ?_, HB⟩
                  · have := HSZ.out; have := HG.out; omega
                  · omega
                  · have := HS.out; rw [HMM.out, Bool.true_or] at this
                    rw [HX.out]; exact this
              | false =>
                go_wp2
                go_roundg (gk - 1)
                case measure => have := HG.out; omega
                case rel =>
                  refine ⟨_, decide (c = (b : Int)), ?_, ?_, rfl, rfl, ?_, HB⟩
                  · have := HSZ.out; have := HG.out; omega
                  · omega
                  · have := HS.out; rw [HMM.out, HH.out, Bool.false_or] at this
                    rw [HX.out]; exact this
          · have HM1 : Mem (lst t) c c 1 := by
              rw [hl0, List.drop_eq_nil_of_le (by rw [len_lst]; omega)]; exact mem_one _ _ hc
            have HMM : Hid (msize (lst t) = 1) := by have := HM1.1; show _ = _; omega
            have HH : Hid (hit b (lst t) = decide (c = (b : Int))) := by
              show _ = _
              rw [← HM1.2.2.2.2.2 b, Bool.eq_iff_iff]; simp; omega
            clear HM1
            clear hl0
            by_cases h92 : c = 92
            · subst h92
              have HX : Hid (t.extract 1 t.size = bs ((lst t).drop 1)) := extract_bs t 1
              have hsz : (t.extract 1 t.size).size ≤ t.size := by simp
              have HSZ : Hid ((t.extract 1 t.size).size + 1 = t.size) := by show _ = _; simp; omega
              cases h with
              | true =>
                go_wp2
                go_roundg (gk - 1)
                case measure => have := HG.out; omega
                case rel =>
                  refine ⟨_, true, ?_, ?_, rfl, rfl, ?_, HB⟩
                  · have := HSZ.out; have := HG.out; omega
                  · omega
                  · have := HS.out; rw [HMM.out, Bool.true_or] at this
                    rw [HX.out]; exact this
              | false =>
                go_wp2
                go_roundg (gk - 1)
                case measure => have := HG.out; omega
                case rel =>
                  refine ⟨_, decide (92 = (b : Int)), ?_, ?_, rfl, rfl, ?_, HB⟩
                  · have := HSZ.out; have := HG.out; omega
                  · omega
                  · have := HS.out; rw [HMM.out, HH.out, Bool.false_or] at this
                    rw [HX.out]; exact this
            · have hq2 : (c == 92) = false := by simpa using h92
              clear h92
              have HX : Hid (t.extract 1 t.size = bs ((lst t).drop 1)) := extract_bs t 1
              have hsz : (t.extract 1 t.size).size ≤ t.size := by simp
              have HSZ : Hid ((t.extract 1 t.size).size + 1 = t.size) := by show _ = _; simp; omega
              cases h with
              | true =>
                go_wp2
                go_roundg (gk - 1)
                case measure => have := HG.out; omega
                case rel =>
                  refine ⟨_, true, ?_, ?_, rfl, rfl, ?_, HB⟩
                  · have := HSZ.out; have := HG.out; omega
                  · omega
                  · have := HS.out; rw [HMM.out, Bool.true_or] at this
                    rw [HX.out]; exact this
              | false =>
                go_wp2
                go_roundg (gk - 1)
                case measure => have := HG.out; omega
                case rel =>
                  refine ⟨_, decide (c = (b : Int)), ?_, ?_, rfl, rfl, ?_, HB⟩
                  · have := HSZ.out; have := HG.out; omega
                  · omega
                  · have := HS.out; rw [HMM.out, HH.out, Bool.false_or] at this
                    rw [HX.out]; exact this
      · have HE : Hid ((h, []) = Q) := by
          have := HM.out; rw [lst_nil h0, mems_nil] at this; exact this
        have HT : Hid (t = bs []) := by show t = _; rw [← bs_lst t, lst_nil h0]
        go_wp2
        go_ret2
        exact ⟨HB.out, by rw [HA.out, ← HE.out, HT.out]; cases h <;> cases wo <;> rfl⟩
end Go.Proofs.Ytbmcnbhceogcjaa
