/-
  The law's tells: a pack tells just these texts.
-/
import Derived.Test.YtemiajjjhhofaabFinds
import Derived.Deep.RegionWith
namespace Go.Proofs.Ytemiajjjhhofaab
open Go.RowKit Go.PlainAid

/-- The law's own place. -/
def plR (o : Option Nat) : Int := match o with
  | none => -1
  | some k => k
theorem place5_any (m : Nat) (i : Int) (w : World) (hm : m ≤ 1000000) (hi1 : -9223372036854775808 ≤ i) (hi2 : i ≤ 9223372036854775807) :
    Calls Try.prog 40 #[.int .i64 m, .int .i64 i] w fun e w' => e = .returned (.int .i64 (plR (plc m i))) ∧ w' = w := by
  by_cases h0 : i < 0
  · by_cases h1 : i + m < 0
    · have HR : Hid (plR (plc m i) = -1) := by show _ = _; unfold plc; rw [if_neg (by omega), if_neg (by omega)]; rfl
      go_enter Try.func40, Try.ntmps40
      go_wp2
      go_ret
      exact ⟨by rw [HR.out]; rfl, rfl⟩
    · have HR : Hid (plR (plc m i) = i + m) := by show _ = _; unfold plc; rw [if_neg (by omega), if_pos (by omega)]; show ((i + m).toNat : Int) = _; omega
      have h2 : ¬ ((m : Int) ≤ i + m) := by omega
      go_enter Try.func40, Try.ntmps40
      go_wp2
      go_ret
      exact ⟨by rw [HR.out]; rfl, rfl⟩
  · by_cases h1 : (m : Int) ≤ i
    · have HR : Hid (plR (plc m i) = -1) := by show _ = _; unfold plc; rw [if_pos (by omega), if_neg (by omega)]; rfl
      go_enter Try.func40, Try.ntmps40
      go_wp2
      go_ret
      exact ⟨by rw [HR.out]; rfl, rfl⟩
    · have HR : Hid (plR (plc m i) = i) := by show _ = _; unfold plc; rw [if_pos (by omega), if_pos (by omega)]; show (i.toNat : Int) = _; omega
      go_enter Try.func40, Try.ntmps40
      go_wp2
      go_ret
      exact ⟨by rw [HR.out]; rfl, rfl⟩

set_option maxRecDepth 100000 in
set_option maxHeartbeats 8000000 in
theorem tells_any (B p : Nat) (a : Option Addr) (n c : Nat) (ls : List ByteArray) (la : Option Addr) (m lc : Nat) (w : World) (hP : Pk w B p a n c ls) (hf : Fit ls) (hn : n ≤ 65536) (hR : RdS w la m ls) :
    Calls Try.prog 15 #[ptr p, .slice la m lc] w fun e w' => Below w.heap.size w w' ∧ e = .returned (.bool true) := by
  have HP : Hid (Pk w B p a n c ls) := hP
  have HF : Hid (Fit ls) := hf
  have HR : Hid (RdS w la m ls) := hR
  have HM : Hid (ls.length = m) := hR.len
  have hmn : 2 * m ≤ n := by have := len_pack ls; have := hP.own.len; have := hR.len; omega
  have HL : Hid ((pack ls).length = n) := hP.own.len
  have HBy := Bytes_any la m lc ls w hR (by omega) hf
  obtain ⟨W, hW⟩ : ∃ W, bs (pack ls) = W := ⟨_, rfl⟩
  have HW : Hid (bs (pack ls) = W) := hW
  have hbW : (W.toList == W.toList) = true := by simp
  have hbW2 : (W.toList != W.toList) = false := by simp
  clear hP hf hR hW
  go_enter Try.func15, Try.ntmps15
  go_wp2_with fail
  refine HBy.mono ?_
  rintro e w1 ⟨hb, a1, n1, c1, rfl, hO1⟩
  have HB1 : Hid (Below w.heap.size w w1) := hb
  have hn1 : n1 = n := by have := hO1.len; have := HL.out; omega
  subst hn1
  have HR1 : Hid (Rd w1 a1 n1 c1 (pack ls)) := hO1.rd
  clear hb hO1 HBy
  go_upto_region 2 with fail
  go_cut [39] from 13 to 39 (fun v wx => v = .bool false ∧ Hid (Below w.heap.size w wx))
  case first =>
    have HBd : Hid (Below w.heap.size w w1.drew) := HB1.out.trans ((below_drewN w1 1).mono HB1.out.size)
    have HLe := Len_old B p a n1 c ls w1.drew (HP.out.keep HBd.out)
    rw [HM.out] at HLe
    go_region_with (first
      | (go_at_call 34; refine HLe.mono ?_; rintro e w2 ⟨hb, rfl⟩; have HB2 := step_below HBd hb; have HR2 : Hid (Rd w2 a1 n1 c1 (pack ls)) := HR1.out.keep ((below_drewN w1 1).trans hb); have hT2 := HR2.out.text; rw [HW.out] at hT2; have HP2 : Hid (Pk w2 B p a n1 c ls) := HP.out.keep HB2.out; clear hb)
      | (go_at_call 35; refine (Size_pk B p a n1 c ls _ HP2.out).mono ?_; rintro e w2 ⟨rfl, rfl⟩)
      | (go_at_call 36; refine (Bytes_pk B p a n1 c ls _ HP2.out (by omega)).mono ?_; rintro e w3 ⟨hb, a3, n3, c3, rfl, hO3⟩; have HB3 := step_below HB2 hb; have hT3 := hO3.rd.text; rw [HW.out] at hT3; have hT4 := (HR2.out.keep hb).text; rw [HW.out] at hT4; clear hb hO3)
      | (go_at_call 37; refine (All_any B p a n1 c ls _ (HP.out.keep HB3.out) HF.out (by omega)).mono ?_; rintro e w4 ⟨hb, a4, n4, c4, rfl, hO4⟩; have HB4 := step_below HB3 hb; have hn4 : n4 = m := (hO4.len.symm.trans HM.out); subst hn4; have HO4 : Hid (RdS w4 a4 n4 ls) := hO4.rd; clear hb hO4)
      | (go_at_call 23; refine (Lists_any _ _ _ _ _ ls _ HO4.out (HR.out.keep HB4.out)).mono ?_; rintro e w5 ⟨hb, rfl⟩; have HB5 := step_below HB4 hb; clear hb))
    all_goals (go_wp2; go_meet; exact ⟨rfl, HB5⟩)
  case rest =>
  obtain ⟨rfl, HB2⟩ := hcut
  have HBk := Back_pk B p a n1 c ls _ (HP.out.keep HB2.out) HF.out (by omega)
  go_wp2_with fail
  refine HBk.mono ?_
  rintro e w3 ⟨hb, a3, n3, c3, rfl, hO3⟩
  have HB3 := step_below HB2 hb
  have hn3 : n3 = m := by have h5 := hO3.len; rw [List.length_reverse] at h5; have := HM.out; omega
  subst hn3
  have HO3 : Hid (RdS w3 a3 n3 ls.reverse) := hO3.rd
  have HR3 : Hid (RdS w3 la n3 ls) := HR.out.keep HB3.out
  have HP3 : Hid (Pk w3 B p a n1 c ls) := HP.out.keep HB3.out
  obtain ⟨z0, hz0⟩ : ∃ z0 : Int, -(n3 : Int) - 1 = z0 := ⟨_, rfl⟩
  obtain ⟨T, hT⟩ : ∃ T : Nat, 2 * n3 + 2 = T := ⟨_, rfl⟩
  have hneg : -(n3 : Int) = z0 + 1 := by omega
  have hz01 : z0 + 1 - 1 = z0 := by omega
  clear hb hO3 HBk HR
  go_wp2
  go_loopg [7] T (fun g iv wr => ∃ z : Int, iv = .int .i64 z ∧ z0 ≤ z ∧ z + g = n3 + 1 ∧ Hid (Below w3.heap.size w3 wr))
  case atStart => exact ⟨z0, rfl, by omega, by omega, Below.refl _ _⟩
  case round =>
    obtain ⟨z, rfl, hz1, hz2, HBr⟩ := hrel
    have HBw : Hid (Below w.heap.size w wr) := HB3.out.trans (HBr.out.mono HB3.out.size)
    by_cases hze : z ≤ (n3 : Int)
    · have HPr : Hid (Pk wr B p a n1 c ls) := HP3.out.keep HBr.out
      cases hk : plc ls.length z with
      | none =>
        have HA := At_none B p a n1 c ls z wr HPr.out (by omega) hk
        have HPl := fun w => place5_any n3 z w (by omega) (by omega) (by omega)
        rw [HM.out] at hk
        rw [hk] at HPl
        have hout : ¬ (0 ≤ z ∧ z < (n3 : Int)) := by
          intro h
          unfold plc at hk
          rw [if_pos h.1, if_pos h.2] at hk
          cases hk
        have hbe : ((⟨#[]⟩ : ByteArray).toList != (⟨#[]⟩ : ByteArray).toList) = false := by simp
        clear hk
        go_wp2_with fail
        refine HA.mono ?_
        rintro e w4 ⟨hb, rfl⟩
        have HB4 := step_below HBr hb
        clear hb
        go_wp2_with fail
        refine (HPl _).mono ?_
        rintro e w4 ⟨rfl, rfl⟩
        unfold plR
        by_cases hzz : 0 ≤ z
        · have hzb : ¬ z < (n3 : Int) := fun h => hout ⟨hzz, h⟩
          have hd1 : decide (0 ≤ z) = true := decide_eq_true hzz
          have hd2 : decide (z < (n3 : Int)) = false := decide_eq_false hzb
          clear hout
          go_wp2_with fail
          go_quiet (fail)
          have HB5 : Hid (Below w3.heap.size w3 (w4.drewN nq)) := HB4.out.trans ((below_drewN w4 nq).mono HB4.out.size)
          generalize w4.drewN nq = W5 at *
          go_wp2
          go_roundg (gk - 1)
          case measure => omega
          case rel => exact ⟨z + 1, by go_num, by omega, by omega, HB5⟩
        · have hd1 : decide (0 ≤ z) = false := decide_eq_false hzz
          clear hout
          go_wp2_with fail
          go_quiet (fail)
          have HB5 : Hid (Below w3.heap.size w3 (w4.drewN nq)) := HB4.out.trans ((below_drewN w4 nq).mono HB4.out.size)
          generalize w4.drewN nq = W5 at *
          go_wp2
          go_roundg (gk - 1)
          case measure => omega
          case rel => exact ⟨z + 1, by go_num, by omega, by omega, HB5⟩
      | some k =>
        have HA := At_some B p a n1 c ls z k wr HPr.out HF.out (by omega) hk
        have HPl := fun w => place5_any n3 z w (by omega) (by omega) (by omega)
        have hkl := plc_lt hk
        rw [HM.out] at hk hkl
        rw [hk] at HPl
        have hbe : ((txt ls k).toList != (txt ls k).toList) = false := by simp
        have HX : Hid (ls.getD k ByteArray.empty = txt ls k) := rfl
        generalize txt ls k = x at HA hbe HX
        have hk0 : ¬ ((k : Int) < 0) := by omega
        have hk1 : (0 : Int) ≤ k := by omega
        have HZ : Hid ((z < 0 ∧ True) ∨ (0 ≤ z ∧ z = k)) := by
          show _ ∨ _
          unfold plc at hk
          split at hk
          · split at hk
            · cases hk; right; omega
            · cases hk
          · left; exact ⟨by omega, trivial⟩
        clear hk
        go_wp2_with fail
        refine HA.mono ?_
        rintro e w4 ⟨hb, rfl⟩
        have HB4 := step_below HBr hb
        obtain ⟨b, off, ha, hc⟩ := (HR3.out.keep HB4.out).cell k hkl
        rw [HX.out] at hc
        clear hb
        go_wp2_with fail
        refine (HPl _).mono ?_
        rintro e w4 ⟨rfl, rfl⟩
        unfold plR
        rcases HZ.out with ⟨hzz, -⟩ | ⟨hzz, hzk⟩
        · have hd1 : decide (0 ≤ z) = false := decide_eq_false (by omega)
          subst ha
          clear hzz
          go_wp2_with fail
          go_quiet (fail)
          have HB5 : Hid (Below w3.heap.size w3 (w4.drewN nq)) := HB4.out.trans ((below_drewN w4 nq).mono HB4.out.size)
          generalize w4.drewN nq = W5 at *
          go_wp2
          go_roundg (gk - 1)
          case measure => omega
          case rel => exact ⟨z + 1, by go_num, by omega, by omega, HB5⟩
        · subst hzk
          have hd1 : decide (0 ≤ (k : Int)) = true := decide_eq_true hk1
          have hd2 : decide ((k : Int) < (n3 : Int)) = true := decide_eq_true (by omega)
          obtain ⟨j, hj⟩ : ∃ j : Nat, n3 - 1 - k = j := ⟨_, rfl⟩
          have hj1 : (n3 : Int) - 1 - (k : Int) = j := by omega
          have hj2 : j < n3 := by omega
          obtain ⟨b2, off2, ha2, hc2⟩ := (HR3.out.keep HB4.out).cell j hj2
          obtain ⟨b3, off3, ha3, hc3⟩ := (HO3.out.keep HB4.out).cell k hkl
          have hrv : ls.reverse.getD k ByteArray.empty = ls.getD j ByteArray.empty := by
            have := HM.out
            rw [List.getD_eq_getElem?_getD, List.getD_eq_getElem?_getD, List.getElem?_reverse (by omega)]
            rw [show ls.length - 1 - k = j by omega]
          rw [hrv] at hc3
          have hbe2 : ((ls.getD j ByteArray.empty).toList != (ls.getD j ByteArray.empty).toList) = false := by simp
          generalize ls.getD j ByteArray.empty = y at hc2 hc3 hbe2
          subst ha
          cases ha2
          subst ha3
          have hwj : IntKind.i64.wrap ((n3 : Int) - 1 - (k : Int)) = j := by rw [hj1, IntKind.wrap_i64]; omega
          clear hrv hj
          go_wp2_with fail
          go_quiet (fail)
          have HB5 : Hid (Below w3.heap.size w3 (w4.drewN nq)) := HB4.out.trans ((below_drewN w4 nq).mono HB4.out.size)
          generalize w4.drewN nq = W5 at *
          go_wp2
          go_roundg (gk - 1)
          case measure => omega
          case rel => exact ⟨k + 1, by go_num, by omega, by omega, HB5⟩
    · have hze2 : (n3 : Int) < z := by omega
      go_wp2
      go_ret
      exact ⟨HBw.out, rfl⟩
end Go.Proofs.Ytemiajjjhhofaab
