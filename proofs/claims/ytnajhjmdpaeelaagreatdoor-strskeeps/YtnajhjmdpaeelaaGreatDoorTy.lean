/-
  StrsKeeps, walked.
-/
import Derived.Test.YtnajhjmdpaeelaaGreatDoorG31
import Derived.Test.YtnajhjmdpaeelaaGreatDoorG36
namespace Go.Proofs.YtnajhjmdpaeelaaGreatDoor.Sq
open Go.RowKit Go.PlainAid
open Dk (ptr below_drewN alloc_below step_below add_flat OwnR OwnP Mv pcells Elt elt_of)
open Cy (RdS OwnS whyP cP nameP cmdP takesB longB cutB)

abbrev optK (kp : Bool) : List ByteArray := if kp = true then [⟨#[107, 101, 101, 112, 116, 116, 108]⟩] else []
abbrev kpS (kp : Bool) : List ByteArray := [⟨#[115, 101, 116]⟩, kB, ⟨#[121]⟩] ++ optK kp
theorem kpS_cmd (kp : Bool) : cmdP (kpS kp) = some ⟨setN, 3, 8, true, 1⟩ := by cases kp <;> kernel_rfl
theorem kpS_P (kp : Bool) {M : AbT} {V : ByteArray → Int} {n b : Int} (hM : endOf (M kB) = some n) (hV : Vle V b) : (setP M V 0 (kpS kp)).1 = An.ok ∧ endOf ((setP M V 0 (kpS kp)).2.1 kB) = (if kp = true then some n else none) ∧ Vle (setP M V 0 (kpS kp)).2.2 (b + 1 + 1) := by
  cases kp with
  | false =>
    have h1 : rdO ((kpS false).drop 3) Opt.z = some Opt.z := rfl
    have ht : timeP Opt.z (endOf (M kB)) 0 = (0, none) := rfl
    have h2 := setP_rest (M := M) (V := V) (t := 0) (k := kB) h1 rfl (by rw [ht]) (.inl rfl)
    rw [ht, if_neg (fun h => absurd rfl h.1)] at h2
    rw [h2]
    refine ⟨rfl, ?_, (hV.inc _).mono (by omega)⟩
    show endOf (setA M kB _ kB) = _
    rw [setA_at]
    rfl
  | true =>
    have h1 : rdO ((kpS true).drop 3) Opt.z = some ⟨noB, noB, keepB, noB⟩ := by kernel_rfl
    have ht : timeP ⟨noB, noB, keepB, noB⟩ (endOf (M kB)) 0 = (0, some n) := by
      rw [hM]
      unfold timeP
      rw [if_neg (by decide), if_pos rfl]
    have h2 := setP_rest (M := M) (V := V) (t := 0) (k := kB) h1 rfl (by rw [ht]) (.inl rfl)
    rw [ht, if_neg (fun h => absurd rfl h.1)] at h2
    rw [h2]
    refine ⟨rfl, ?_, (hV.inc _).inc _⟩
    show endOf (setA M kB _ kB) = _
    rw [setA_at]
    rfl
set_option maxRecDepth 100000 in
set_option maxHeartbeats 4000000 in
theorem keeps_law (ms wh : Int) (kp : Bool) (w : World) (hL : Laid w) :
    Calls Tryz.prog 5 #[.int .i64 ms, .int .i64 wh, .bool kp] w fun e w' => e = .returned (.bool true) ∧ Below w.heap.size w w' := by
  have HN := New_any w 1 0 0 (by decide)
  have HL : Hid (Laid w) := hL
  have HU : Hid (¬ (w.heap.size ≤ 0)) := by have := lt_of_cell? hL; show ¬ _; omega
  replace HN : Calls Tryz.prog 7 #[.agg #[.int .u64 1, .int .i64 0, .int .i64 0]] w fun e w' => NewTo w w' 1 e := HN
  have HMx : Hid (Tx.Int64 0) := ⟨by decide, by decide⟩
  have HWm := fun wx => WithinK ms 1 1000 wx (by decide) (by decide) (by decide)
  have HWw := fun wx => WithinK wh 0 5 wx (by decide) (by decide) (by decide)
  clear hL
  go_enter Tryz.func5, Tryz.ntmps5
  go_wp2_with fail
  refine HN.mono ?_
  rintro e w1 ⟨hb1, s, rfl, -, hs1⟩
  have hq := eqlS_nil w1 s
  have HW1 : Hid (Lw w w1 s kNM noM (fun _ => 0)) := ⟨hb1, Seen.new (hs1 kNM kNM_names') 0, Vle.zero.mono (by decide)⟩
  clear hb1 hs1 HN
  go_wp2_with fail
  refine (HWm _).mono ?_
  rintro e wx ⟨rfl, n, hn1, hn2, rfl⟩
  clear HWm
  go_wp2_with fail
  refine (OfText_n ⟨#[53]⟩ wx).mono ?_
  rintro e w2 ⟨hb2, v, rfl, hvt, hvn⟩
  have HP := Put_s HW1.out.seen hb2 (HW1.out.vle.low (by decide)) kB (List.mem_cons_self ..) (by decide) v ⟨#[53]⟩ hvt hvn
  have HW2 := HW1.out.keep hb2
  replace HP : Calls Tryz.prog 16 #[ptr s, .string kB, ptr v, .int .i64 0] w2 fun e w' => e = .returned (.int .i64 0) ∧ Lw w w' s kNM (setA noM kB (some ((1, ⟨#[53]⟩), none))) (incV (fun _ => 0) kB) := HP.mono (by
    rintro e w' ⟨h1, h2, h3⟩
    exact ⟨h1, (Mb.mono h2 vtag_s).low HW2.bel, h3, (Vle.zero.inc _).mono (by decide)⟩)
  clear hb2 hvt hvn HW2
  go_wp2_with fail
  refine HP.mono ?_
  rintro e w3 ⟨rfl, hW3⟩
  have HE := Expire_s hW3.seen (hW3.vle.low (by decide)) n (by omega) kB (List.mem_cons_self ..) (by decide)
  obtain ⟨M4, hM4⟩ : ∃ M4, expA (setA noM kB (some ((1, ⟨#[53]⟩), none))) kB n 0 = M4 := ⟨_, rfl⟩
  obtain ⟨V4, hV4⟩ : ∃ V4, chgV (setA noM kB (some ((1, ⟨#[53]⟩), none))) (incV (fun _ => 0) kB) kB = V4 := ⟨_, rfl⟩
  have HM4 : Hid (M4 kB = some ((1, ⟨#[53]⟩), some n) ∧ Small M4) := by
    have h1 : M4 = setA (setA noM kB (some ((1, ⟨#[53]⟩), none))) kB (some ((1, ⟨#[53]⟩), some n)) := by
      rw [← hM4]
      unfold expA
      rw [setA_at]
      simp only
      rw [if_neg (by omega)]
    rw [h1]
    refine ⟨setA_at _ _ _, fun k d u h => ?_⟩
    unfold setA at h
    split at h
    · cases h; show (1 : Nat) ≤ 65536; decide
    · cases h
  have HV4 : Hid (Vle V4 10) := by
    rw [← hV4]
    exact ((Vle.zero.inc _).chg _ _).mono (by decide)
  rw [hM4, hV4] at HE
  replace HE : Calls Tryz.prog 18 #[ptr s, .string kB, .int .i64 n, .int .i64 0] w3 fun e w' => e = .returned (.bool true) ∧ Lw w w' s kNM M4 V4 := HE.mono (by
    rintro e w' ⟨h1, h2, h3⟩
    rw [setA_at] at h1
    exact ⟨h1, (Mb.mono h2 vtag_s).low hW3.bel, h3, HV4.out.mono (by decide)⟩)
  clear hW3 hM4 hV4 HP HW1
  go_wp2_with fail
  refine HE.mono ?_
  rintro e y0 ⟨rfl, hW4⟩
  obtain ⟨y1, hy1⟩ : ∃ z, y0.alloc (.cells #[.string ⟨#[105, 110, 99, 114]⟩, .string ⟨#[107]⟩] 9) = z := ⟨_, rfl⟩
  obtain ⟨y2, hy2⟩ : ∃ z, y1.alloc (.cells #[.string ⟨#[97, 112, 112, 101, 110, 100]⟩, .string ⟨#[107]⟩, .string ⟨#[49]⟩] 9) = z := ⟨_, rfl⟩
  obtain ⟨y3, hy3⟩ : ∃ z, y2.alloc (.cells #[.string ⟨#[115, 101, 116, 114, 97, 110, 103, 101]⟩, .string ⟨#[107]⟩, .string ⟨#[48]⟩, .string ⟨#[55]⟩] 9) = z := ⟨_, rfl⟩
  obtain ⟨y4, hy4⟩ : ∃ z, y3.alloc (.cells #[.string ⟨#[115, 101, 116, 98, 105, 116]⟩, .string ⟨#[107]⟩, .string ⟨#[51]⟩, .string ⟨#[49]⟩] 9) = z := ⟨_, rfl⟩
  obtain ⟨y5, hy5⟩ : ∃ z, y4.alloc (.cells #[.string ⟨#[100, 101, 99, 114, 98, 121]⟩, .string ⟨#[107]⟩, .string ⟨#[50]⟩] 9) = z := ⟨_, rfl⟩
  obtain ⟨y6, hy6⟩ : ∃ z, y5.alloc (.cells #[.string ⟨#[115, 101, 116]⟩, .string ⟨#[107]⟩, .string ⟨#[120]⟩, .string ⟨#[75, 69, 69, 80, 84, 84, 76]⟩] 9) = z := ⟨_, rfl⟩
  obtain ⟨y7, hy7⟩ : ∃ z, y6.alloc (.cells #[.slice (some ⟨y0.heap.size, 0, none⟩) 2 2, .slice (some ⟨y1.heap.size, 0, none⟩) 3 3, .slice (some ⟨y2.heap.size, 0, none⟩) 4 4, .slice (some ⟨y3.heap.size, 0, none⟩) 4 4, .slice (some ⟨y4.heap.size, 0, none⟩) 3 3, .slice (some ⟨y5.heap.size, 0, none⟩) 4 4] 30) = z := ⟨_, rfl⟩
  obtain ⟨hb7, hrow⟩ := rows_kp hy1 hy2 hy3 hy4 hy5 hy6 hy7
  have HW7 : Hid (Lw w y7 s kNM M4 V4) := hW4.keep hb7
  have HRow : Hid (∀ j, j < 6 → ∃ a k m, y7.cell? ⟨y6.heap.size, j, none⟩ = some (.slice a k m) ∧ Wds y7 a k m (kpL j) kNM) := hrow
  clear hW4 hb7 hrow HE
  go_upto_region 8 with fail
  clear hy1 hy2 hy3 hy4 hy5 hy6 hy7 hq
  go_wp2_with fail
  refine (HWw _).mono ?_
  rintro e wx ⟨rfl, z, hz0, hz1, rfl⟩
  obtain ⟨j, rfl⟩ : ∃ j : Nat, z = j := ⟨z.toNat, by omega⟩
  have hj : j < 6 := by omega
  have hz6 : (j : Int) < 6 := by omega
  obtain ⟨a, k, m, hc, hA⟩ := HRow.out j hj
  have HD := Do_kp j hj HW7.out.seen hA (laid_low HL.out HW7.out.bel) HU.out HV4.out (by decide) HM4.out.2 HM4.out.1
  clear HWw hA hz1
  go_wp2_with fail
  refine HD.mono ?_
  rintro e w8 ⟨q, M8, V8, rfl, hB8, hfin8, hv8⟩
  simp only [Rp.v]
  obtain ⟨y9, hy9, hvy9, w9, hz9, -, hb9⟩ := newR2 w8 q.r
  obtain ⟨p0, p1, p2, p3⟩ := hvy9.cells
  have pf := hvy9.free
  simp only [Rp.z] at p0 p1 p2 p3 hz9
  have HW9 : Hid (Lw w w9 s kNM M8 V8) := (HW7.out.step hB8 (hv8.mono (by decide))).keep hb9
  have HV9 : Hid (Vle V8 12) := hv8
  have HF9 : Hid (endOf (M8 kB) = some n) := hfin8
  have HX := Expiry_s HW9.out.seen (HW9.out.vle.low (by decide)) kB (by decide)
  rw [hfin8] at HX
  replace HX : Calls Tryz.prog 19 #[ptr s, .string kB, .int .i64 0] w9 fun e w' => e = .returned (.tuple #[.int .i64 n, .bool true]) ∧ Lw w w' s kNM M8 V8 := HX.mono (by
    rintro e w' ⟨h1, h2, h3⟩
    exact ⟨h1, (Mb.mono h2 vtag_s).low HW9.out.bel, h3, HW9.out.vle⟩)
  clear hB8 hfin8 hv8 hvy9 hb9 HD hc HRow
  go_wp2_with fail
  refine HX.mono ?_
  rintro e w10 ⟨rfl, hW10⟩
  obtain ⟨wl, hwl⟩ : ∃ wl, w10.alloc (.cells #[.string ⟨#[115, 101, 116]⟩, .string kB, .string ⟨#[121]⟩] 9) = wl := ⟨_, rfl⟩
  have hbl : Below w10.heap.size w10 wl := by rw [← hwl]; exact alloc_below w10 _
  have HWl : Hid (Lw w wl s kNM M8 V8) := hW10.keep hbl
  have HOl : Hid (OwnS wl w.heap.size (some ⟨w10.heap.size, 0, none⟩) 3 3 [⟨#[115, 101, 116]⟩, kB, ⟨#[121]⟩]) := by rw [← hwl]; exact OwnS.lit w10 w.heap.size [⟨#[115, 101, 116]⟩, kB, ⟨#[121]⟩] (Nat.le_of_ble_eq_true rfl) hW10.bel.size
  clear hbl hW10 HX HW9 p0 p1 p2 p3 pf hy9 hz9
  cases kp with
  | false =>
    have HOl2 : Hid (OwnS wl w.heap.size (some ⟨w10.heap.size, 0, none⟩) 3 3 (kpS false)) := HOl
    go_wp2_with fail
    have hlen := HOl2.out.len
    have hl2 : (kpS false).length = 3 := rfl
    have HAe : Wds wl (some ⟨w10.heap.size, 0, none⟩) 3 3 (kpS false) kNM := ⟨(OwnS.ars HOl2.out).1, (OwnS.ars HOl2.out).2, by omega, by decide⟩
    have HD := Do_set HWl.out.seen HAe (laid_low HL.out HWl.out.bel) HU.out (HWl.out.vle.mono (by decide)) 0 HMx.out (kpS_cmd false) (by omega) (by kernel_rfl) (List.mem_cons_self ..)
    obtain ⟨hP1, hP2, hP3⟩ := kpS_P false HF9.out HV9.out
    rw [hP1] at HD
    replace HD : Calls Tryz.prog 9 #[ptr s, .int .i64 0, .int .u64 0, .slice (some ⟨w10.heap.size, 0, none⟩) 3 3] wl fun e w' => e = .returned (.tuple #[An.ok.r.v, .nilIface]) ∧ ∃ M2 V2, Behind wl w' (fun k => w.heap.size ≤ k) s 1 kNM 0 M2 V2 ∧ endOf (M2 kB) = none ∧ Vle V2 14 := HD.mono (by
      rintro e w' ⟨h1, h2⟩
      exact ⟨h1.ok rfl, _, _, h2, hP2, hP3⟩)
    clear hP1 hP2 hP3 HAe hlen hl2
    refine HD.mono ?_
    rintro e w11 ⟨rfl, M11, V11, hB11, hf11, hv11⟩
    simp only [Rp.v]
    obtain ⟨y12, hy12, hvy12, w12, hz12, -, hb12⟩ := newR2 w11 An.ok.r
    obtain ⟨p0, p1, p2, p3⟩ := hvy12.cells
    have pf := hvy12.free
    simp only [Rp.z] at p0 p1 p2 p3 hz12
    have HW12 : Hid (Lw w w12 s kNM M11 V11) := (HWl.out.step hB11 (hv11.mono (by decide))).keep hb12
    have HX2 := Expiry_s HW12.out.seen (HW12.out.vle.low (by decide)) kB (by decide)
    rw [hf11] at HX2
    replace HX2 : Calls Tryz.prog 19 #[ptr s, .string kB, .int .i64 0] w12 fun e w' => e = .returned (.tuple #[.int .i64 0, .bool false]) ∧ Below w.heap.size w w' := HX2.mono (by
      rintro e w' ⟨h1, h2, h3⟩
      exact ⟨h1, (Mb.mono h2 vtag_s).low HW12.out.bel⟩)
    clear hB11 hf11 hv11 hvy12 hb12 HD
    go_wp2_with fail
    refine HX2.mono ?_
    rintro e w13 ⟨rfl, hb13⟩
    have HB13 : Hid (Below w.heap.size w w13) := hb13
    have HKn := known_any w13 (laid_low HL.out hb13)
    clear hb13 HX2 p0 p1 p2 p3 pf hy12 hz12
    go_wp2_with (go_at_call 12; refine HKn.mono ?_; rintro e w14 ⟨rfl, hb14⟩)
    go_ret
    exact ⟨rfl, HB13.out.trans (hb14.mono HB13.out.size)⟩
  | true =>
    go_wp2_with (at_builtin; refine append_g rfl (.tmp 66) (.tmp 67) rfl w.heap.size rfl (HOl.out.keep (alloc_below wl _)) rfl (by simp; rfl) (by decide) (Nat.le_trans HWl.out.bel.size (alloc_below wl _).size) ?_; intro a3 n3 c3 w3 hn3 hO3 hB3 hM3; have HO3 : Hid (OwnS w3 w.heap.size a3 n3 c3 (kpS true)) := hO3; have HW3 : Hid (Lw w w3 s kNM M8 V8) := (HWl.out.keep (alloc_below wl _)).mvt hB3 hM3; clear hn3 hO3 hB3 hM3)
    have hlen := HO3.out.len
    have hl2 : (kpS true).length = 4 := rfl
    have HAe : Wds w3 a3 n3 c3 (kpS true) kNM := ⟨(OwnS.ars HO3.out).1, (OwnS.ars HO3.out).2, by omega, by decide⟩
    have HD := Do_set HW3.out.seen HAe (laid_low HL.out HW3.out.bel) HU.out (HW3.out.vle.mono (by decide)) 0 HMx.out (kpS_cmd true) (by omega) (by kernel_rfl) (List.mem_cons_self ..)
    obtain ⟨hP1, hP2, hP3⟩ := kpS_P true HF9.out HV9.out
    rw [hP1] at HD
    replace HD : Calls Tryz.prog 9 #[ptr s, .int .i64 0, .int .u64 0, .slice a3 n3 c3] w3 fun e w' => e = .returned (.tuple #[An.ok.r.v, .nilIface]) ∧ ∃ M2 V2, Behind w3 w' (fun k => w.heap.size ≤ k) s 1 kNM 0 M2 V2 ∧ endOf (M2 kB) = some n ∧ Vle V2 14 := HD.mono (by
      rintro e w' ⟨h1, h2⟩
      exact ⟨h1.ok rfl, _, _, h2, hP2, hP3⟩)
    clear hP1 hP2 hP3 HAe hlen hl2
    refine HD.mono ?_
    rintro e w11 ⟨rfl, M11, V11, hB11, hf11, hv11⟩
    simp only [Rp.v]
    obtain ⟨y12, hy12, hvy12, w12, hz12, -, hb12⟩ := newR2 w11 An.ok.r
    obtain ⟨p0, p1, p2, p3⟩ := hvy12.cells
    have pf := hvy12.free
    simp only [Rp.z] at p0 p1 p2 p3 hz12
    have HW12 : Hid (Lw w w12 s kNM M11 V11) := (HW3.out.step hB11 (hv11.mono (by decide))).keep hb12
    have HX2 := Expiry_s HW12.out.seen (HW12.out.vle.low (by decide)) kB (by decide)
    rw [hf11] at HX2
    replace HX2 : Calls Tryz.prog 19 #[ptr s, .string kB, .int .i64 0] w12 fun e w' => e = .returned (.tuple #[.int .i64 n, .bool true]) ∧ Below w.heap.size w w' := HX2.mono (by
      rintro e w' ⟨h1, h2, h3⟩
      exact ⟨h1, (Mb.mono h2 vtag_s).low HW12.out.bel⟩)
    clear hB11 hf11 hv11 hvy12 hb12 HD
    go_wp2_with fail
    refine HX2.mono ?_
    rintro e w13 ⟨rfl, hb13⟩
    have HB13 : Hid (Below w.heap.size w w13) := hb13
    have HKn := known_any w13 (laid_low HL.out hb13)
    clear hb13 HX2 p0 p1 p2 p3 pf hy12 hz12
    go_wp2_with (go_at_call 12; refine HKn.mono ?_; rintro e w14 ⟨rfl, hb14⟩)
    go_ret
    exact ⟨rfl, HB13.out.trans (hb14.mono HB13.out.size)⟩
end Go.Proofs.YtnajhjmdpaeelaaGreatDoor.Sq
