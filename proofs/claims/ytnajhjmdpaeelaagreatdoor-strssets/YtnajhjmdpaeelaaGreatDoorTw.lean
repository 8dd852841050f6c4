/-
  StrsSets, walked.
-/
import Derived.Test.YtnajhjmdpaeelaaGreatDoorG32
namespace Go.Proofs.YtnajhjmdpaeelaaGreatDoor.Sq
open Go.RowKit Go.PlainAid
open Dk (ptr below_drewN alloc_below step_below add_flat OwnR OwnP Mv pcells Elt elt_of)
open Cy (RdS OwnS whyP cP nameP cmdP takesB longB cutB)

set_option maxRecDepth 100000 in
set_option maxHeartbeats 4000000 in
theorem sets_law (kb : Bool) (old v : ByteArray) (nx xx gt : Bool) (w : World) (hL : Laid w) :
    Calls Tryz.prog 4 #[.bool kb, .string old, .string v, .bool nx, .bool xx, .bool gt] w fun e w' => e = .returned (.bool true) ∧ Below w.heap.size w w' := by
  have HN := New_any w 1 0 0 (by decide)
  have HL : Hid (Laid w) := hL
  have HU : Hid (¬ (w.heap.size ≤ 0)) := by have := lt_of_cell? hL; show ¬ _; omega
  replace HN : Calls Tryz.prog 7 #[.agg #[.int .u64 1, .int .i64 0, .int .i64 0]] w fun e w' => NewTo w w' 1 e := HN
  have HMx : Hid (Tx.Int64 0) := ⟨by decide, by decide⟩
  obtain ⟨o2, ho2⟩ : ∃ o2, cutB old 20 = o2 := ⟨_, rfl⟩
  obtain ⟨v2, hv2⟩ : ∃ v2, cutB v 20 = v2 := ⟨_, rfl⟩
  have HC := fun (x : ByteArray) wx => Cy.Cut_any x 20 wx (by decide)
  have HZ : Hid (o2.size ≤ 20 ∧ v2.size ≤ 20) := by
    have h1 := Cy.size_cutB old 20 (by decide)
    have h2 := Cy.size_cutB v 20 (by decide)
    rw [ho2] at h1
    rw [hv2] at h2
    show _ ∧ _
    omega
  clear hL
  go_enter Tryz.func4, Tryz.ntmps4
  go_wp2_with fail
  refine HN.mono ?_
  rintro e w1 ⟨hb1, s, rfl, -, hs1⟩
  have hq := eqlS_nil w1 s
  have HW1 : Hid (Lw w w1 s kNM noM (fun _ => 0)) := ⟨hb1, Seen.new (hs1 kNM kNM_names') 0, Vle.zero.mono (by decide)⟩
  clear hb1 hs1 HN
  go_upto_if 30 with (go_at_call 13; refine (HC _ _).mono ?_; rintro e w1 ⟨rfl, rfl⟩)
  clear hq HC
  go_cut [14, 15] from 31 to 39 (fun _ _ wx => ∃ V, Hid (Lw w wx s kNM (setsM kb o2) V) ∧ Hid (Vle V 50))
  case first =>
    cases kb with
    | false =>
      go_wp2
      go_meet
      exact ⟨_, HW1, Vle.zero.mono (by decide)⟩
    | true =>
      obtain ⟨w2, hw2⟩ : ∃ w2, w1.alloc (.cells #[.string ⟨#[115, 101, 116]⟩, .string kB, .string o2] 9) = w2 := ⟨_, rfl⟩
      have hb2 : Below w1.heap.size w1 w2 := by rw [← hw2]; exact alloc_below w1 _
      have hz := sets_sz o2 false false false HZ.out.1
      have HA2 : Hid (Wds w2 (some ⟨w1.heap.size, 0, none⟩) 3 3 (setsL o2 false false false) kNM) := ⟨by rw [← hw2]; exact Ars.lit w1 [⟨#[115, 101, 116]⟩, kB, o2] (Nat.le_of_ble_eq_true rfl), by decide, by decide, hz.1⟩
      have HW2 := HW1.out.keep hb2
      have HD := Do_set HW2.seen HA2.out (laid_low HL.out HW2.bel) HU.out (HW2.vle.mono (by decide)) 0 HMx.out (sets_cmd o2 false false false) (by decide) hz.2.1 (List.mem_cons_self ..)
      have hP : setP noM (fun _ => 0) 0 (setsL o2 false false false) = (An.ok, setA noM kB (some ((1, o2), none)), incV (fun _ => 0) kB) := sets_P false o2 o2 false false false (fun _ => 0) rfl
      rw [hP] at HD
      have HW2 : Hid _ := HW2
      clear hb2 hz hP
      go_wp2_with fail
      refine HD.mono ?_
      rintro e w3 ⟨hA3, hB3⟩
      have he3 := hA3.ok rfl
      subst he3
      simp only [Rp.v]
      obtain ⟨y4, hy4, hvy4, w4, hz4, -, hb4⟩ := newR2 w3 An.ok.r
      obtain ⟨p0, p1, p2, p3⟩ := hvy4.cells
      have pf := hvy4.free
      simp only [Rp.z] at p0 p1 p2 p3 hz4
      have HW4 : Hid (Lw w w4 s kNM (setsM true o2) (incV (fun _ => 0) kB)) := (HW2.out.step hB3 ((Vle.zero.inc _).mono (by decide))).keep hb4
      clear hA3 hB3 hvy4 hb4 HD
      go_wp2
      go_meet
      exact ⟨_, HW4, (Vle.zero.inc _).mono (by decide)⟩
  case rest =>
    obtain ⟨V, HWa, HVb⟩ := hcut
    obtain ⟨wl, hwl⟩ : ∃ wl, wc.alloc (.cells #[.string ⟨#[115, 101, 116]⟩, .string kB, .string v2] 9) = wl := ⟨_, rfl⟩
    have hbl : Below wc.heap.size wc wl := by rw [← hwl]; exact alloc_below wc _
    have HWl : Hid (Lw w wl s kNM (setsM kb o2) V) := HWa.out.keep hbl
    have HOl : Hid (OwnS wl w.heap.size (some ⟨wc.heap.size, 0, none⟩) 3 3 [⟨#[115, 101, 116]⟩, kB, v2]) := by rw [← hwl]; exact OwnS.lit wc w.heap.size [⟨#[115, 101, 116]⟩, kB, v2] (Nat.le_of_ble_eq_true rfl) HWa.out.bel.size
    clear hbl HWa
    go_upto_if 42 with fail
    go_cut [16] from 43 to 45 (fun y wx => ∃ a n c, y = .slice a n c ∧ Hid (Lw w wx s kNM (setsM kb o2) V) ∧ Hid (OwnS wx w.heap.size a n c ([⟨#[115, 101, 116]⟩, kB, v2] ++ optG gt)))
    case first =>
      cases gt with
      | false =>
        go_wp2
        go_meet
        exact ⟨_, _, _, rfl, HWl, HOl⟩
      | true =>
        go_wp2_with (at_builtin; refine append_g rfl (.tmp 43) (.tmp 44) rfl w.heap.size rfl (HOl.out.keep (alloc_below wl _)) rfl (by simp; rfl) (by decide) (Nat.le_trans HWl.out.bel.size (alloc_below wl _).size) ?_; intro a3 n3 c3 w3 hn3 hO3 hB3 hM3; have HO3 : Hid (OwnS w3 w.heap.size a3 n3 c3 ([⟨#[115, 101, 116]⟩, kB, v2] ++ optG true)) := hO3; have HW3 : Hid (Lw w w3 s kNM (setsM kb o2) V) := (HWl.out.keep (alloc_below wl _)).mvt hB3 hM3; clear hn3 hO3 hB3 hM3)
        go_meet
        exact ⟨_, _, _, rfl, HW3, HO3⟩
    case rest =>
      obtain ⟨anx1, nnx1, cnx1, rfl, HWnx, HOnx⟩ := hcut
      go_upto_if 46 with fail
      go_cut [16] from 47 to 49 (fun y wx => ∃ a n c, y = .slice a n c ∧ Hid (Lw w wx s kNM (setsM kb o2) V) ∧ Hid (OwnS wx w.heap.size a n c (([⟨#[115, 101, 116]⟩, kB, v2] ++ optG gt) ++ optN nx)))
      case first =>
        cases nx with
        | false =>
          go_wp2
          go_meet
          exact ⟨_, _, _, rfl, HWnx, by rw [show optN false = [] from rfl, List.append_nil]; exact HOnx⟩
        | true =>
          have hnn : nnx1 + 1 ≤ 1000000 := by
            have h := HOnx.out.len
            have h2 := (by cases gt <;> exact Nat.le_of_ble_eq_true rfl : ([⟨#[115, 101, 116]⟩, kB, v2] ++ optG gt).length ≤ 8)
            omega
          go_wp2_with (at_builtin; refine append_g rfl (.tmp 47) (.tmp 48) rfl w.heap.size rfl (HOnx.out.keep (alloc_below wc _)) rfl (by simp; rfl) hnn (Nat.le_trans HWnx.out.bel.size (alloc_below wc _).size) ?_; intro a3 n3 c3 w3 hn3 hO3 hB3 hM3; have HO3 : Hid (OwnS w3 w.heap.size a3 n3 c3 (([⟨#[115, 101, 116]⟩, kB, v2] ++ optG gt) ++ optN true)) := hO3; have HW3 : Hid (Lw w w3 s kNM (setsM kb o2) V) := (HWnx.out.keep (alloc_below wc _)).mvt hB3 hM3; clear hn3 hO3 hB3 hM3)
          go_meet
          exact ⟨_, _, _, rfl, HW3, HO3⟩
      case rest =>
        obtain ⟨axx1, nxx1, cxx1, rfl, HWxx, HOxx⟩ := hcut
        go_upto_if 50 with fail
        go_cut [16] from 51 to 53 (fun y wx => ∃ a n c, y = .slice a n c ∧ Hid (Lw w wx s kNM (setsM kb o2) V) ∧ Hid (OwnS wx w.heap.size a n c (setsL v2 gt nx xx)))
        case first =>
          cases xx with
          | false =>
            go_wp2
            go_meet
            exact ⟨_, _, _, rfl, HWxx, by show Hid (OwnS _ _ _ _ _ ((([⟨#[115, 101, 116]⟩, kB, v2] ++ optG gt) ++ optN nx) ++ [])); rw [List.append_nil]; exact HOxx⟩
          | true =>
            have hnn : nxx1 + 1 ≤ 1000000 := by
              have h := HOxx.out.len
              have h2 := (by cases gt <;> cases nx <;> exact Nat.le_of_ble_eq_true rfl : (([⟨#[115, 101, 116]⟩, kB, v2] ++ optG gt) ++ optN nx).length ≤ 8)
              omega
            go_wp2_with (at_builtin; refine append_g rfl (.tmp 51) (.tmp 52) rfl w.heap.size rfl (HOxx.out.keep (alloc_below wc _)) rfl (by simp; rfl) hnn (Nat.le_trans HWxx.out.bel.size (alloc_below wc _).size) ?_; intro a3 n3 c3 w3 hn3 hO3 hB3 hM3; have HO3 : Hid (OwnS w3 w.heap.size a3 n3 c3 ((([⟨#[115, 101, 116]⟩, kB, v2] ++ optG gt) ++ optN nx) ++ optX true)) := hO3; have HW3 : Hid (Lw w w3 s kNM (setsM kb o2) V) := (HWxx.out.keep (alloc_below wc _)).mvt hB3 hM3; clear hn3 hO3 hB3 hM3)
            go_meet
            exact ⟨_, _, _, rfl, HW3, HO3⟩
        case rest =>
          obtain ⟨a2, n2, c2, rfl, HWe, HOe⟩ := hcut
          have hz := sets_sz v2 gt nx xx HZ.out.2
          have hlen := HOe.out.len
          have HAe : Hid (Wds wc a2 n2 c2 (setsL v2 gt nx xx) kNM) := ⟨(OwnS.ars HOe.out).1, (OwnS.ars HOe.out).2, by omega, hz.1⟩
          have hkk : (setsL v2 gt nx xx).getD 1 noB ∈ kNM := by
            cases gt <;> cases nx <;> cases xx <;> exact List.mem_cons_self ..
          have HD := Do_set HWe.out.seen HAe.out (laid_low HL.out HWe.out.bel) HU.out (HWe.out.vle.mono (by decide)) 0 HMx.out (sets_cmd v2 gt nx xx) (by omega) hz.2.1 hkk
          clear hz hlen hkk HAe HOe
          cases kb with
          | false =>
            cases nx with
            | false =>
              cases xx with
              | false =>
                cases gt with
                | false =>
                  rw [show setP (setsM false o2) V 0 (setsL v2 false false false) = (An.ok, (setA (setsM false o2) kB (some ((1, v2), none))), (incV V kB)) from (sets_P false o2 v2 false false false V rfl).trans (if_pos rfl)] at HD
                  go_wp2_with fail
                  refine HD.mono ?_
                  rintro e w3 ⟨hA3, hB3⟩
                  have he3 := hA3.ok rfl
                  subst he3
                  simp only [Rp.v]
                  obtain ⟨y4, hy4, hvy4, w4, hz4, hv4, hb4⟩ := newR2 w3 An.ok.r
                  obtain ⟨p0, p1, p2, p3⟩ := hvy4.cells
                  have pf := hvy4.free
                  simp only [Rp.z] at p0 p1 p2 p3 hz4
                  have hVi : Vle (incV V kB) 100 := (HVb.out.inc kB).mono (by decide)
                  have HW4 : Hid (Lw w w4 s kNM (setA (setsM false o2) kB (some ((1, v2), none))) (incV V kB)) := (HWe.out.step hB3 (hVi)).keep hb4
                  have HG := Get_s HW4.out.seen (HW4.out.vle.low (by decide)) kB (by decide)
                  replace HG : Calls Tryz.prog 14 #[ptr s, .string kB, .int .i64 0] w4 fun e w' => ∃ v, e = .returned (ptr v) ∧ Mb stag (fun k => w.heap.size ≤ k) w4 w' ∧ Vw w' v (1, v2) := HG.mono (by
                    rintro e w' ⟨h1, A, h2, h3⟩
                    unfold GotR at h3
                    rw [show (setA (setsM false o2) kB (some ((1, v2), none))) kB = some ((1, v2), none) from setA_at _ _ _] at h3
                    obtain ⟨v, h4, -, h5, -⟩ := h3
                    exact ⟨v, h4, h1, h5⟩)
                  have HV4 : Hid (VarR w4 w3.heap.size An.ok.r) := hv4
                  clear hA3 hB3 hb4 hvy4 hv4 HD hVi
                  go_wp2_with fail
                  refine HG.mono ?_
                  rintro e w5 ⟨xv, rfl, hm5, hv5⟩
                  have ht5 := hv5.ct
                  have n1 := neqV_w w5 xv
                  have n2 := eqlV_w w5 xv
                  have HB5 : Hid (Below w.heap.size w w5) := hm5.low HW4.out.bel
                  obtain ⟨r0, r1, r2, r3⟩ := (HV4.out.mv (Mb.mono hm5 vtag_s).mv).cells
                  have HKn := fun wx (h : Below w5.heap.size w5 wx) => known_any wx (laid_low HL.out (HB5.out.trans (h.mono HB5.out.size)))
                  simp only at r0 r1 r2 r3
                  clear hm5 HG p0 p1 p2 p3 pf hy4 hz4 hv5
                  go_wp2_with (go_at_call 12; refine (HKn _ (Below.refl _ _)).mono ?_; rintro e w7 ⟨rfl, hb7⟩)
                  go_ret
                  exact ⟨rfl, HB5.out.trans (hb7.mono HB5.out.size)⟩
                | true =>
                  rw [show setP (setsM false o2) V 0 (setsL v2 true false false) = (An.nul, (setA (setsM false o2) kB (some ((1, v2), none))), (incV V kB)) from (sets_P false o2 v2 true false false V rfl).trans (if_pos rfl)] at HD
                  go_wp2_with fail
                  refine HD.mono ?_
                  rintro e w3 ⟨hA3, hB3⟩
                  have he3 := hA3.ok rfl
                  subst he3
                  simp only [Rp.v]
                  obtain ⟨y4, hy4, hvy4, w4, hz4, hv4, hb4⟩ := newR2 w3 An.nul.r
                  obtain ⟨p0, p1, p2, p3⟩ := hvy4.cells
                  have pf := hvy4.free
                  simp only [Rp.z] at p0 p1 p2 p3 hz4
                  have hVi : Vle (incV V kB) 100 := (HVb.out.inc kB).mono (by decide)
                  have HW4 : Hid (Lw w w4 s kNM (setA (setsM false o2) kB (some ((1, v2), none))) (incV V kB)) := (HWe.out.step hB3 (hVi)).keep hb4
                  have HG := Get_s HW4.out.seen (HW4.out.vle.low (by decide)) kB (by decide)
                  replace HG : Calls Tryz.prog 14 #[ptr s, .string kB, .int .i64 0] w4 fun e w' => ∃ v, e = .returned (ptr v) ∧ Mb stag (fun k => w.heap.size ≤ k) w4 w' ∧ Vw w' v (1, v2) := HG.mono (by
                    rintro e w' ⟨h1, A, h2, h3⟩
                    unfold GotR at h3
                    rw [show (setA (setsM false o2) kB (some ((1, v2), none))) kB = some ((1, v2), none) from setA_at _ _ _] at h3
                    obtain ⟨v, h4, -, h5, -⟩ := h3
                    exact ⟨v, h4, h1, h5⟩)
                  have HV4 : Hid (VarR w4 w3.heap.size An.nul.r) := hv4
                  clear hA3 hB3 hb4 hvy4 hv4 HD hVi
                  go_wp2_with fail
                  refine HG.mono ?_
                  rintro e w5 ⟨xv, rfl, hm5, hv5⟩
                  have ht5 := hv5.ct
                  have n1 := neqV_w w5 xv
                  have n2 := eqlV_w w5 xv
                  have HB5 : Hid (Below w.heap.size w w5) := hm5.low HW4.out.bel
                  obtain ⟨r0, r1, r2, r3⟩ := (HV4.out.mv (Mb.mono hm5 vtag_s).mv).cells
                  have HKn := fun wx (h : Below w5.heap.size w5 wx) => known_any wx (laid_low HL.out (HB5.out.trans (h.mono HB5.out.size)))
                  simp only at r0 r1 r2 r3
                  clear hm5 HG p0 p1 p2 p3 pf hy4 hz4 hv5
                  go_wp2_with (go_at_call 12; refine (HKn _ (Below.refl _ _)).mono ?_; rintro e w7 ⟨rfl, hb7⟩)
                  go_ret
                  exact ⟨rfl, HB5.out.trans (hb7.mono HB5.out.size)⟩
              | true =>
                cases gt with
                | false =>
                  rw [show setP (setsM false o2) V 0 (setsL v2 false false true) = (An.nul, (setsM false o2), V) from (sets_P false o2 v2 false false true V rfl).trans (if_neg (by decide))] at HD
                  go_wp2_with fail
                  refine HD.mono ?_
                  rintro e w3 ⟨hA3, hB3⟩
                  have he3 := hA3.ok rfl
                  subst he3
                  simp only [Rp.v]
                  obtain ⟨y4, hy4, hvy4, w4, hz4, hv4, hb4⟩ := newR2 w3 An.nul.r
                  obtain ⟨p0, p1, p2, p3⟩ := hvy4.cells
                  have pf := hvy4.free
                  simp only [Rp.z] at p0 p1 p2 p3 hz4
                  have HW4 : Hid (Lw w w4 s kNM (setsM false o2) V) := (HWe.out.step hB3 (HWe.out.vle)).keep hb4
                  have HG := Get_s HW4.out.seen (HW4.out.vle.low (by decide)) kB (by decide)
                  replace HG : Calls Tryz.prog 14 #[ptr s, .string kB, .int .i64 0] w4 fun e w' => e = .returned (.pointer none) ∧ Mb stag (fun k => w.heap.size ≤ k) w4 w' := HG.mono (by
                    rintro e w' ⟨h1, A, h2, h3⟩
                    unfold GotR at h3
                    rw [show (setsM false o2) kB = none from rfl] at h3
                    exact ⟨h3, h1⟩)
                  have HV4 : Hid (VarR w4 w3.heap.size An.nul.r) := hv4
                  clear hA3 hB3 hb4 hvy4 hv4 HD
                  go_wp2_with fail
                  refine HG.mono ?_
                  rintro e w5 ⟨rfl, hm5⟩
                  have HB5 : Hid (Below w.heap.size w w5) := hm5.low HW4.out.bel
                  obtain ⟨r0, r1, r2, r3⟩ := (HV4.out.mv (Mb.mono hm5 vtag_s).mv).cells
                  have HKn := fun wx (h : Below w5.heap.size w5 wx) => known_any wx (laid_low HL.out (HB5.out.trans (h.mono HB5.out.size)))
                  simp only at r0 r1 r2 r3
                  clear hm5 HG p0 p1 p2 p3 pf hy4 hz4
                  go_wp2_with (go_at_call 12; refine (HKn _ (Below.refl _ _)).mono ?_; rintro e w7 ⟨rfl, hb7⟩)
                  go_ret
                  exact ⟨rfl, HB5.out.trans (hb7.mono HB5.out.size)⟩
                | true =>
                  rw [show setP (setsM false o2) V 0 (setsL v2 true false true) = (An.nul, (setsM false o2), V) from (sets_P false o2 v2 true false true V rfl).trans (if_neg (by decide))] at HD
                  go_wp2_with fail
                  refine HD.mono ?_
                  rintro e w3 ⟨hA3, hB3⟩
                  have he3 := hA3.ok rfl
                  subst he3
                  simp only [Rp.v]
                  obtain ⟨y4, hy4, hvy4, w4, hz4, hv4, hb4⟩ := newR2 w3 An.nul.r
                  obtain ⟨p0, p1, p2, p3⟩ := hvy4.cells
                  have pf := hvy4.free
                  simp only [Rp.z] at p0 p1 p2 p3 hz4
                  have HW4 : Hid (Lw w w4 s kNM (setsM false o2) V) := (HWe.out.step hB3 (HWe.out.vle)).keep hb4
                  have HG := Get_s HW4.out.seen (HW4.out.vle.low (by decide)) kB (by decide)
                  replace HG : Calls Tryz.prog 14 #[ptr s, .string kB, .int .i64 0] w4 fun e w' => e = .returned (.pointer none) ∧ Mb stag (fun k => w.heap.size ≤ k) w4 w' := HG.mono (by
                    rintro e w' ⟨h1, A, h2, h3⟩
                    unfold GotR at h3
                    rw [show (setsM false o2) kB = none from rfl] at h3
                    exact ⟨h3, h1⟩)
                  have HV4 : Hid (VarR w4 w3.heap.size An.nul.r) := hv4
                  clear hA3 hB3 hb4 hvy4 hv4 HD
                  go_wp2_with fail
                  refine HG.mono ?_
                  rintro e w5 ⟨rfl, hm5⟩
                  have HB5 : Hid (Below w.heap.size w w5) := hm5.low HW4.out.bel
                  obtain ⟨r0, r1, r2, r3⟩ := (HV4.out.mv (Mb.mono hm5 vtag_s).mv).cells
                  have HKn := fun wx (h : Below w5.heap.size w5 wx) => known_any wx (laid_low HL.out (HB5.out.trans (h.mono HB5.out.size)))
                  simp only at r0 r1 r2 r3
                  clear hm5 HG p0 p1 p2 p3 pf hy4 hz4
                  go_wp2_with (go_at_call 12; refine (HKn _ (Below.refl _ _)).mono ?_; rintro e w7 ⟨rfl, hb7⟩)
                  go_ret
                  exact ⟨rfl, HB5.out.trans (hb7.mono HB5.out.size)⟩
            | true =>
              cases xx with
              | false =>
                cases gt with
                | false =>
                  rw [show setP (setsM false o2) V 0 (setsL v2 false true false) = (An.ok, (setA (setsM false o2) kB (some ((1, v2), none))), (incV V kB)) from (sets_P false o2 v2 false true false V rfl).trans (if_pos rfl)] at HD
                  go_wp2_with fail
                  refine HD.mono ?_
                  rintro e w3 ⟨hA3, hB3⟩
                  have he3 := hA3.ok rfl
                  subst he3
                  simp only [Rp.v]
                  obtain ⟨y4, hy4, hvy4, w4, hz4, hv4, hb4⟩ := newR2 w3 An.ok.r
                  obtain ⟨p0, p1, p2, p3⟩ := hvy4.cells
                  have pf := hvy4.free
                  simp only [Rp.z] at p0 p1 p2 p3 hz4
                  have hVi : Vle (incV V kB) 100 := (HVb.out.inc kB).mono (by decide)
                  have HW4 : Hid (Lw w w4 s kNM (setA (setsM false o2) kB (some ((1, v2), none))) (incV V kB)) := (HWe.out.step hB3 (hVi)).keep hb4
                  have HG := Get_s HW4.out.seen (HW4.out.vle.low (by decide)) kB (by decide)
                  replace HG : Calls Tryz.prog 14 #[ptr s, .string kB, .int .i64 0] w4 fun e w' => ∃ v, e = .returned (ptr v) ∧ Mb stag (fun k => w.heap.size ≤ k) w4 w' ∧ Vw w' v (1, v2) := HG.mono (by
                    rintro e w' ⟨h1, A, h2, h3⟩
                    unfold GotR at h3
                    rw [show (setA (setsM false o2) kB (some ((1, v2), none))) kB = some ((1, v2), none) from setA_at _ _ _] at h3
                    obtain ⟨v, h4, -, h5, -⟩ := h3
                    exact ⟨v, h4, h1, h5⟩)
                  have HV4 : Hid (VarR w4 w3.heap.size An.ok.r) := hv4
                  clear hA3 hB3 hb4 hvy4 hv4 HD hVi
                  go_wp2_with fail
                  refine HG.mono ?_
                  rintro e w5 ⟨xv, rfl, hm5, hv5⟩
                  have ht5 := hv5.ct
                  have n1 := neqV_w w5 xv
                  have n2 := eqlV_w w5 xv
                  have HB5 : Hid (Below w.heap.size w w5) := hm5.low HW4.out.bel
                  obtain ⟨r0, r1, r2, r3⟩ := (HV4.out.mv (Mb.mono hm5 vtag_s).mv).cells
                  have HKn := fun wx (h : Below w5.heap.size w5 wx) => known_any wx (laid_low HL.out (HB5.out.trans (h.mono HB5.out.size)))
                  simp only at r0 r1 r2 r3
                  clear hm5 HG p0 p1 p2 p3 pf hy4 hz4 hv5
                  go_wp2_with (go_at_call 12; refine (HKn _ (Below.refl _ _)).mono ?_; rintro e w7 ⟨rfl, hb7⟩)
                  go_ret
                  exact ⟨rfl, HB5.out.trans (hb7.mono HB5.out.size)⟩
                | true =>
                  rw [show setP (setsM false o2) V 0 (setsL v2 true true false) = (An.nul, (setA (setsM false o2) kB (some ((1, v2), none))), (incV V kB)) from (sets_P false o2 v2 true true false V rfl).trans (if_pos rfl)] at HD
                  go_wp2_with fail
                  refine HD.mono ?_
                  rintro e w3 ⟨hA3, hB3⟩
                  have he3 := hA3.ok rfl
                  subst he3
                  simp only [Rp.v]
                  obtain ⟨y4, hy4, hvy4, w4, hz4, hv4, hb4⟩ := newR2 w3 An.nul.r
                  obtain ⟨p0, p1, p2, p3⟩ := hvy4.cells
                  have pf := hvy4.free
                  simp only [Rp.z] at p0 p1 p2 p3 hz4
                  have hVi : Vle (incV V kB) 100 := (HVb.out.inc kB).mono (by decide)
                  have HW4 : Hid (Lw w w4 s kNM (setA (setsM false o2) kB (some ((1, v2), none))) (incV V kB)) := (HWe.out.step hB3 (hVi)).keep hb4
                  have HG := Get_s HW4.out.seen (HW4.out.vle.low (by decide)) kB (by decide)
                  replace HG : Calls Tryz.prog 14 #[ptr s, .string kB, .int .i64 0] w4 fun e w' => ∃ v, e = .returned (ptr v) ∧ Mb stag (fun k => w.heap.size ≤ k) w4 w' ∧ Vw w' v (1, v2) := HG.mono (by
                    rintro e w' ⟨h1, A, h2, h3⟩
                    unfold GotR at h3
                    rw [show (setA (setsM false o2) kB (some ((1, v2), none))) kB = some ((1, v2), none) from setA_at _ _ _] at h3
                    obtain ⟨v, h4, -, h5, -⟩ := h3
                    exact ⟨v, h4, h1, h5⟩)
                  have HV4 : Hid (VarR w4 w3.heap.size An.nul.r) := hv4
                  clear hA3 hB3 hb4 hvy4 hv4 HD hVi
                  go_wp2_with fail
                  refine HG.mono ?_
                  rintro e w5 ⟨xv, rfl, hm5, hv5⟩
                  have ht5 := hv5.ct
                  have n1 := neqV_w w5 xv
                  have n2 := eqlV_w w5 xv
                  have HB5 : Hid (Below w.heap.size w w5) := hm5.low HW4.out.bel
                  obtain ⟨r0, r1, r2, r3⟩ := (HV4.out.mv (Mb.mono hm5 vtag_s).mv).cells
                  have HKn := fun wx (h : Below w5.heap.size w5 wx) => known_any wx (laid_low HL.out (HB5.out.trans (h.mono HB5.out.size)))
                  simp only at r0 r1 r2 r3
                  clear hm5 HG p0 p1 p2 p3 pf hy4 hz4 hv5
                  go_wp2_with (go_at_call 12; refine (HKn _ (Below.refl _ _)).mono ?_; rintro e w7 ⟨rfl, hb7⟩)
                  go_ret
                  exact ⟨rfl, HB5.out.trans (hb7.mono HB5.out.size)⟩
              | true =>
                cases gt with
                | false =>
                  rw [sets_bad false o2 v2 false V] at HD
                  go_wp2_with fail
                  refine HD.mono ?_
                  rintro e w3 ⟨hA3, hB3⟩
                  obtain ⟨b, rfl, hF3⟩ := hA3.no (by decide)
                  simp only [Rp.v, Rp.z]
                  obtain ⟨y4, hy4, hvy4, w4, hz4, hv4, hb4⟩ := newR2 w3 Rp.z
                  obtain ⟨p0, p1, p2, p3⟩ := hvy4.cells
                  have pf := hvy4.free
                  simp only [Rp.z] at p0 p1 p2 p3 hz4
                  have HW4 : Hid (Lw w w4 s kNM (setsM false o2) V) := (HWe.out.step hB3 (HWe.out.vle)).keep hb4
                  have HG := Get_s HW4.out.seen (HW4.out.vle.low (by decide)) kB (by decide)
                  replace HG : Calls Tryz.prog 14 #[ptr s, .string kB, .int .i64 0] w4 fun e w' => e = .returned (.pointer none) ∧ Mb stag (fun k => w.heap.size ≤ k) w4 w' := HG.mono (by
                    rintro e w' ⟨h1, A, h2, h3⟩
                    unfold GotR at h3
                    rw [show (setsM false o2) kB = none from rfl] at h3
                    exact ⟨h3, h1⟩)
                  have HV4 : Hid (VarR w4 w3.heap.size Rp.z) := hv4
                  have HF4 : Hid (Flt w4 (.iface 170 (.pointer (some ⟨b, 0, none⟩))) setN 1) := hF3.keep hb4
                  clear hA3 hB3 hb4 hvy4 hv4 HD hF3
                  go_wp2_with fail
                  refine HG.mono ?_
                  rintro e w5 ⟨rfl, hm5⟩
                  have HB5 : Hid (Below w.heap.size w w5) := hm5.low HW4.out.bel
                  obtain ⟨r0, r1, r2, r3⟩ := (HV4.out.mv (Mb.mono hm5 vtag_s).mv).cells
                  have HCd := (HF4.out.mv (Mb.mono hm5 vtag_s).mv).code (laid_low HL.out HB5.out)
                  have HKn := fun wx (h : Below w5.heap.size w5 wx) => known_any wx (laid_low HL.out (HB5.out.trans (h.mono HB5.out.size)))
                  simp only [Rp.z] at r0 r1 r2 r3
                  clear hm5 HG p0 p1 p2 p3 pf hy4 hz4
                  go_wp2_with (first
                    | (go_at_call 10; refine HCd.mono ?_; rintro e w6 ⟨rfl, hb6⟩; have HB6 : Hid (Below w5.heap.size w5 w6) := hb6; clear hb6)
                    | (go_at_call 12; refine (HKn _ HB6.out).mono ?_; rintro e w7 ⟨rfl, hb7⟩))
                  go_ret
                  exact ⟨rfl, (HB5.out.trans (HB6.out.mono HB5.out.size)).trans (hb7.mono (HB5.out.trans (HB6.out.mono HB5.out.size)).size)⟩
                | true =>
                  rw [sets_bad false o2 v2 true V] at HD
                  go_wp2_with fail
                  refine HD.mono ?_
                  rintro e w3 ⟨hA3, hB3⟩
                  obtain ⟨b, rfl, hF3⟩ := hA3.no (by decide)
                  simp only [Rp.v, Rp.z]
                  obtain ⟨y4, hy4, hvy4, w4, hz4, hv4, hb4⟩ := newR2 w3 Rp.z
                  obtain ⟨p0, p1, p2, p3⟩ := hvy4.cells
                  have pf := hvy4.free
                  simp only [Rp.z] at p0 p1 p2 p3 hz4
                  have HW4 : Hid (Lw w w4 s kNM (setsM false o2) V) := (HWe.out.step hB3 (HWe.out.vle)).keep hb4
                  have HG := Get_s HW4.out.seen (HW4.out.vle.low (by decide)) kB (by decide)
                  replace HG : Calls Tryz.prog 14 #[ptr s, .string kB, .int .i64 0] w4 fun e w' => e = .returned (.pointer none) ∧ Mb stag (fun k => w.heap.size ≤ k) w4 w' := HG.mono (by
                    rintro e w' ⟨h1, A, h2, h3⟩
                    unfold GotR at h3
                    rw [show (setsM false o2) kB = none from rfl] at h3
                    exact ⟨h3, h1⟩)
                  have HV4 : Hid (VarR w4 w3.heap.size Rp.z) := hv4
                  have HF4 : Hid (Flt w4 (.iface 170 (.pointer (some ⟨b, 0, none⟩))) setN 1) := hF3.keep hb4
                  clear hA3 hB3 hb4 hvy4 hv4 HD hF3
                  go_wp2_with fail
                  refine HG.mono ?_
                  rintro e w5 ⟨rfl, hm5⟩
                  have HB5 : Hid (Below w.heap.size w w5) := hm5.low HW4.out.bel
                  obtain ⟨r0, r1, r2, r3⟩ := (HV4.out.mv (Mb.mono hm5 vtag_s).mv).cells
                  have HCd := (HF4.out.mv (Mb.mono hm5 vtag_s).mv).code (laid_low HL.out HB5.out)
                  have HKn := fun wx (h : Below w5.heap.size w5 wx) => known_any wx (laid_low HL.out (HB5.out.trans (h.mono HB5.out.size)))
                  simp only [Rp.z] at r0 r1 r2 r3
                  clear hm5 HG p0 p1 p2 p3 pf hy4 hz4
                  go_wp2_with (first
                    | (go_at_call 10; refine HCd.mono ?_; rintro e w6 ⟨rfl, hb6⟩; have HB6 : Hid (Below w5.heap.size w5 w6) := hb6; clear hb6)
                    | (go_at_call 12; refine (HKn _ HB6.out).mono ?_; rintro e w7 ⟨rfl, hb7⟩))
                  go_ret
                  exact ⟨rfl, (HB5.out.trans (HB6.out.mono HB5.out.size)).trans (hb7.mono (HB5.out.trans (HB6.out.mono HB5.out.size)).size)⟩
          | true =>
            cases nx with
            | false =>
              cases xx with
              | false =>
                cases gt with
                | false =>
                  rw [show setP (setsM true o2) V 0 (setsL v2 false false false) = (An.ok, (setA (setsM true o2) kB (some ((1, v2), none))), (incV V kB)) from (sets_P true o2 v2 false false false V rfl).trans (if_pos rfl)] at HD
                  go_wp2_with fail
                  refine HD.mono ?_
                  rintro e w3 ⟨hA3, hB3⟩
                  have he3 := hA3.ok rfl
                  subst he3
                  simp only [Rp.v]
                  obtain ⟨y4, hy4, hvy4, w4, hz4, hv4, hb4⟩ := newR2 w3 An.ok.r
                  obtain ⟨p0, p1, p2, p3⟩ := hvy4.cells
                  have pf := hvy4.free
                  simp only [Rp.z] at p0 p1 p2 p3 hz4
                  have hVi : Vle (incV V kB) 100 := (HVb.out.inc kB).mono (by decide)
                  have HW4 : Hid (Lw w w4 s kNM (setA (setsM true o2) kB (some ((1, v2), none))) (incV V kB)) := (HWe.out.step hB3 (hVi)).keep hb4
                  have HG := Get_s HW4.out.seen (HW4.out.vle.low (by decide)) kB (by decide)
                  replace HG : Calls Tryz.prog 14 #[ptr s, .string kB, .int .i64 0] w4 fun e w' => ∃ v, e = .returned (ptr v) ∧ Mb stag (fun k => w.heap.size ≤ k) w4 w' ∧ Vw w' v (1, v2) := HG.mono (by
                    rintro e w' ⟨h1, A, h2, h3⟩
                    unfold GotR at h3
                    rw [show (setA (setsM true o2) kB (some ((1, v2), none))) kB = some ((1, v2), none) from setA_at _ _ _] at h3
                    obtain ⟨v, h4, -, h5, -⟩ := h3
                    exact ⟨v, h4, h1, h5⟩)
                  have HV4 : Hid (VarR w4 w3.heap.size An.ok.r) := hv4
                  clear hA3 hB3 hb4 hvy4 hv4 HD hVi
                  go_wp2_with fail
                  refine HG.mono ?_
                  rintro e w5 ⟨xv, rfl, hm5, hv5⟩
                  have ht5 := hv5.ct
                  have n1 := neqV_w w5 xv
                  have n2 := eqlV_w w5 xv
                  have HB5 : Hid (Below w.heap.size w w5) := hm5.low HW4.out.bel
                  obtain ⟨r0, r1, r2, r3⟩ := (HV4.out.mv (Mb.mono hm5 vtag_s).mv).cells
                  have HKn := fun wx (h : Below w5.heap.size w5 wx) => known_any wx (laid_low HL.out (HB5.out.trans (h.mono HB5.out.size)))
                  simp only at r0 r1 r2 r3
                  clear hm5 HG p0 p1 p2 p3 pf hy4 hz4 hv5
                  go_wp2_with (go_at_call 12; refine (HKn _ (Below.refl _ _)).mono ?_; rintro e w7 ⟨rfl, hb7⟩)
                  go_ret
                  exact ⟨rfl, HB5.out.trans (hb7.mono HB5.out.size)⟩
                | true =>
                  rw [show setP (setsM true o2) V 0 (setsL v2 true false false) = ((An.blk o2), (setA (setsM true o2) kB (some ((1, v2), none))), (incV V kB)) from (sets_P true o2 v2 true false false V rfl).trans (if_pos rfl)] at HD
                  go_wp2_with fail
                  refine HD.mono ?_
                  rintro e w3 ⟨hA3, hB3⟩
                  have he3 := hA3.ok rfl
                  subst he3
                  simp only [Rp.v]
                  obtain ⟨y4, hy4, hvy4, w4, hz4, hv4, hb4⟩ := newR2 w3 (An.blk o2).r
                  obtain ⟨p0, p1, p2, p3⟩ := hvy4.cells
                  have pf := hvy4.free
                  simp only [Rp.z] at p0 p1 p2 p3 hz4
                  have hVi : Vle (incV V kB) 100 := (HVb.out.inc kB).mono (by decide)
                  have HW4 : Hid (Lw w w4 s kNM (setA (setsM true o2) kB (some ((1, v2), none))) (incV V kB)) := (HWe.out.step hB3 (hVi)).keep hb4
                  have HG := Get_s HW4.out.seen (HW4.out.vle.low (by decide)) kB (by decide)
                  replace HG : Calls Tryz.prog 14 #[ptr s, .string kB, .int .i64 0] w4 fun e w' => ∃ v, e = .returned (ptr v) ∧ Mb stag (fun k => w.heap.size ≤ k) w4 w' ∧ Vw w' v (1, v2) := HG.mono (by
                    rintro e w' ⟨h1, A, h2, h3⟩
                    unfold GotR at h3
                    rw [show (setA (setsM true o2) kB (some ((1, v2), none))) kB = some ((1, v2), none) from setA_at _ _ _] at h3
                    obtain ⟨v, h4, -, h5, -⟩ := h3
                    exact ⟨v, h4, h1, h5⟩)
                  have HV4 : Hid (VarR w4 w3.heap.size (An.blk o2).r) := hv4
                  clear hA3 hB3 hb4 hvy4 hv4 HD hVi
                  go_wp2_with fail
                  refine HG.mono ?_
                  rintro e w5 ⟨xv, rfl, hm5, hv5⟩
                  have ht5 := hv5.ct
                  have n1 := neqV_w w5 xv
                  have n2 := eqlV_w w5 xv
                  have HB5 : Hid (Below w.heap.size w w5) := hm5.low HW4.out.bel
                  obtain ⟨r0, r1, r2, r3⟩ := (HV4.out.mv (Mb.mono hm5 vtag_s).mv).cells
                  have HKn := fun wx (h : Below w5.heap.size w5 wx) => known_any wx (laid_low HL.out (HB5.out.trans (h.mono HB5.out.size)))
                  simp only at r0 r1 r2 r3
                  clear hm5 HG p0 p1 p2 p3 pf hy4 hz4 hv5
                  go_wp2_with (go_at_call 12; refine (HKn _ (Below.refl _ _)).mono ?_; rintro e w7 ⟨rfl, hb7⟩)
                  go_ret
                  exact ⟨rfl, HB5.out.trans (hb7.mono HB5.out.size)⟩
              | true =>
                cases gt with
                | false =>
                  rw [show setP (setsM true o2) V 0 (setsL v2 false false true) = (An.ok, (setA (setsM true o2) kB (some ((1, v2), none))), (incV V kB)) from (sets_P true o2 v2 false false true V rfl).trans (if_pos rfl)] at HD
                  go_wp2_with fail
                  refine HD.mono ?_
                  rintro e w3 ⟨hA3, hB3⟩
                  have he3 := hA3.ok rfl
                  subst he3
                  simp only [Rp.v]
                  obtain ⟨y4, hy4, hvy4, w4, hz4, hv4, hb4⟩ := newR2 w3 An.ok.r
                  obtain ⟨p0, p1, p2, p3⟩ := hvy4.cells
                  have pf := hvy4.free
                  simp only [Rp.z] at p0 p1 p2 p3 hz4
                  have hVi : Vle (incV V kB) 100 := (HVb.out.inc kB).mono (by decide)
                  have HW4 : Hid (Lw w w4 s kNM (setA (setsM true o2) kB (some ((1, v2), none))) (incV V kB)) := (HWe.out.step hB3 (hVi)).keep hb4
                  have HG := Get_s HW4.out.seen (HW4.out.vle.low (by decide)) kB (by decide)
                  replace HG : Calls Tryz.prog 14 #[ptr s, .string kB, .int .i64 0] w4 fun e w' => ∃ v, e = .returned (ptr v) ∧ Mb stag (fun k => w.heap.size ≤ k) w4 w' ∧ Vw w' v (1, v2) := HG.mono (by
                    rintro e w' ⟨h1, A, h2, h3⟩
                    unfold GotR at h3
                    rw [show (setA (setsM true o2) kB (some ((1, v2), none))) kB = some ((1, v2), none) from setA_at _ _ _] at h3
                    obtain ⟨v, h4, -, h5, -⟩ := h3
                    exact ⟨v, h4, h1, h5⟩)
                  have HV4 : Hid (VarR w4 w3.heap.size An.ok.r) := hv4
                  clear hA3 hB3 hb4 hvy4 hv4 HD hVi
                  go_wp2_with fail
                  refine HG.mono ?_
                  rintro e w5 ⟨xv, rfl, hm5, hv5⟩
                  have ht5 := hv5.ct
                  have n1 := neqV_w w5 xv
                  have n2 := eqlV_w w5 xv
                  have HB5 : Hid (Below w.heap.size w w5) := hm5.low HW4.out.bel
                  obtain ⟨r0, r1, r2, r3⟩ := (HV4.out.mv (Mb.mono hm5 vtag_s).mv).cells
                  have HKn := fun wx (h : Below w5.heap.size w5 wx) => known_any wx (laid_low HL.out (HB5.out.trans (h.mono HB5.out.size)))
                  simp only at r0 r1 r2 r3
                  clear hm5 HG p0 p1 p2 p3 pf hy4 hz4 hv5
                  go_wp2_with (go_at_call 12; refine (HKn _ (Below.refl _ _)).mono ?_; rintro e w7 ⟨rfl, hb7⟩)
                  go_ret
                  exact ⟨rfl, HB5.out.trans (hb7.mono HB5.out.size)⟩
                | true =>
                  rw [show setP (setsM true o2) V 0 (setsL v2 true false true) = ((An.blk o2), (setA (setsM true o2) kB (some ((1, v2), none))), (incV V kB)) from (sets_P true o2 v2 true false true V rfl).trans (if_pos rfl)] at HD
                  go_wp2_with fail
                  refine HD.mono ?_
                  rintro e w3 ⟨hA3, hB3⟩
                  have he3 := hA3.ok rfl
                  subst he3
                  simp only [Rp.v]
                  obtain ⟨y4, hy4, hvy4, w4, hz4, hv4, hb4⟩ := newR2 w3 (An.blk o2).r
                  obtain ⟨p0, p1, p2, p3⟩ := hvy4.cells
                  have pf := hvy4.free
                  simp only [Rp.z] at p0 p1 p2 p3 hz4
                  have hVi : Vle (incV V kB) 100 := (HVb.out.inc kB).mono (by decide)
                  have HW4 : Hid (Lw w w4 s kNM (setA (setsM true o2) kB (some ((1, v2), none))) (incV V kB)) := (HWe.out.step hB3 (hVi)).keep hb4
                  have HG := Get_s HW4.out.seen (HW4.out.vle.low (by decide)) kB (by decide)
                  replace HG : Calls Tryz.prog 14 #[ptr s, .string kB, .int .i64 0] w4 fun e w' => ∃ v, e = .returned (ptr v) ∧ Mb stag (fun k => w.heap.size ≤ k) w4 w' ∧ Vw w' v (1, v2) := HG.mono (by
                    rintro e w' ⟨h1, A, h2, h3⟩
                    unfold GotR at h3
                    rw [show (setA (setsM true o2) kB (some ((1, v2), none))) kB = some ((1, v2), none) from setA_at _ _ _] at h3
                    obtain ⟨v, h4, -, h5, -⟩ := h3
                    exact ⟨v, h4, h1, h5⟩)
                  have HV4 : Hid (VarR w4 w3.heap.size (An.blk o2).r) := hv4
                  clear hA3 hB3 hb4 hvy4 hv4 HD hVi
                  go_wp2_with fail
                  refine HG.mono ?_
                  rintro e w5 ⟨xv, rfl, hm5, hv5⟩
                  have ht5 := hv5.ct
                  have n1 := neqV_w w5 xv
                  have n2 := eqlV_w w5 xv
                  have HB5 : Hid (Below w.heap.size w w5) := hm5.low HW4.out.bel
                  obtain ⟨r0, r1, r2, r3⟩ := (HV4.out.mv (Mb.mono hm5 vtag_s).mv).cells
                  have HKn := fun wx (h : Below w5.heap.size w5 wx) => known_any wx (laid_low HL.out (HB5.out.trans (h.mono HB5.out.size)))
                  simp only at r0 r1 r2 r3
                  clear hm5 HG p0 p1 p2 p3 pf hy4 hz4 hv5
                  go_wp2_with (go_at_call 12; refine (HKn _ (Below.refl _ _)).mono ?_; rintro e w7 ⟨rfl, hb7⟩)
                  go_ret
                  exact ⟨rfl, HB5.out.trans (hb7.mono HB5.out.size)⟩
            | true =>
              cases xx with
              | false =>
                cases gt with
                | false =>
                  rw [show setP (setsM true o2) V 0 (setsL v2 false true false) = (An.nul, (setsM true o2), V) from (sets_P true o2 v2 false true false V rfl).trans (if_neg (by decide))] at HD
                  go_wp2_with fail
                  refine HD.mono ?_
                  rintro e w3 ⟨hA3, hB3⟩
                  have he3 := hA3.ok rfl
                  subst he3
                  simp only [Rp.v]
                  obtain ⟨y4, hy4, hvy4, w4, hz4, hv4, hb4⟩ := newR2 w3 An.nul.r
                  obtain ⟨p0, p1, p2, p3⟩ := hvy4.cells
                  have pf := hvy4.free
                  simp only [Rp.z] at p0 p1 p2 p3 hz4
                  have HW4 : Hid (Lw w w4 s kNM (setsM true o2) V) := (HWe.out.step hB3 (HWe.out.vle)).keep hb4
                  have HG := Get_s HW4.out.seen (HW4.out.vle.low (by decide)) kB (by decide)
                  replace HG : Calls Tryz.prog 14 #[ptr s, .string kB, .int .i64 0] w4 fun e w' => ∃ v, e = .returned (ptr v) ∧ Mb stag (fun k => w.heap.size ≤ k) w4 w' ∧ Vw w' v (1, o2) := HG.mono (by
                    rintro e w' ⟨h1, A, h2, h3⟩
                    unfold GotR at h3
                    rw [show (setsM true o2) kB = some ((1, o2), none) from (setsM_at true o2).trans (if_pos rfl)] at h3
                    obtain ⟨v, h4, -, h5, -⟩ := h3
                    exact ⟨v, h4, h1, h5⟩)
                  have HV4 : Hid (VarR w4 w3.heap.size An.nul.r) := hv4
                  clear hA3 hB3 hb4 hvy4 hv4 HD
                  go_wp2_with fail
                  refine HG.mono ?_
                  rintro e w5 ⟨xv, rfl, hm5, hv5⟩
                  have ht5 := hv5.ct
                  have n1 := neqV_w w5 xv
                  have n2 := eqlV_w w5 xv
                  have HB5 : Hid (Below w.heap.size w w5) := hm5.low HW4.out.bel
                  obtain ⟨r0, r1, r2, r3⟩ := (HV4.out.mv (Mb.mono hm5 vtag_s).mv).cells
                  have HKn := fun wx (h : Below w5.heap.size w5 wx) => known_any wx (laid_low HL.out (HB5.out.trans (h.mono HB5.out.size)))
                  simp only at r0 r1 r2 r3
                  clear hm5 HG p0 p1 p2 p3 pf hy4 hz4 hv5
                  go_wp2_with (go_at_call 12; refine (HKn _ (Below.refl _ _)).mono ?_; rintro e w7 ⟨rfl, hb7⟩)
                  go_ret
                  exact ⟨rfl, HB5.out.trans (hb7.mono HB5.out.size)⟩
                | true =>
                  rw [show setP (setsM true o2) V 0 (setsL v2 true true false) = ((An.blk o2), (setsM true o2), V) from (sets_P true o2 v2 true true false V rfl).trans (if_neg (by decide))] at HD
                  go_wp2_with fail
                  refine HD.mono ?_
                  rintro e w3 ⟨hA3, hB3⟩
                  have he3 := hA3.ok rfl
                  subst he3
                  simp only [Rp.v]
                  obtain ⟨y4, hy4, hvy4, w4, hz4, hv4, hb4⟩ := newR2 w3 (An.blk o2).r
                  obtain ⟨p0, p1, p2, p3⟩ := hvy4.cells
                  have pf := hvy4.free
                  simp only [Rp.z] at p0 p1 p2 p3 hz4
                  have HW4 : Hid (Lw w w4 s kNM (setsM true o2) V) := (HWe.out.step hB3 (HWe.out.vle)).keep hb4
                  have HG := Get_s HW4.out.seen (HW4.out.vle.low (by decide)) kB (by decide)
                  replace HG : Calls Tryz.prog 14 #[ptr s, .string kB, .int .i64 0] w4 fun e w' => ∃ v, e = .returned (ptr v) ∧ Mb stag (fun k => w.heap.size ≤ k) w4 w' ∧ Vw w' v (1, o2) := HG.mono (by
                    rintro e w' ⟨h1, A, h2, h3⟩
                    unfold GotR at h3
                    rw [show (setsM true o2) kB = some ((1, o2), none) from (setsM_at true o2).trans (if_pos rfl)] at h3
                    obtain ⟨v, h4, -, h5, -⟩ := h3
                    exact ⟨v, h4, h1, h5⟩)
                  have HV4 : Hid (VarR w4 w3.heap.size (An.blk o2).r) := hv4
                  clear hA3 hB3 hb4 hvy4 hv4 HD
                  go_wp2_with fail
                  refine HG.mono ?_
                  rintro e w5 ⟨xv, rfl, hm5, hv5⟩
                  have ht5 := hv5.ct
                  have n1 := neqV_w w5 xv
                  have n2 := eqlV_w w5 xv
                  have HB5 : Hid (Below w.heap.size w w5) := hm5.low HW4.out.bel
                  obtain ⟨r0, r1, r2, r3⟩ := (HV4.out.mv (Mb.mono hm5 vtag_s).mv).cells
                  have HKn := fun wx (h : Below w5.heap.size w5 wx) => known_any wx (laid_low HL.out (HB5.out.trans (h.mono HB5.out.size)))
                  simp only at r0 r1 r2 r3
                  clear hm5 HG p0 p1 p2 p3 pf hy4 hz4 hv5
                  go_wp2_with (go_at_call 12; refine (HKn _ (Below.refl _ _)).mono ?_; rintro e w7 ⟨rfl, hb7⟩)
                  go_ret
                  exact ⟨rfl, HB5.out.trans (hb7.mono HB5.out.size)⟩
              | true =>
                cases gt with
                | false =>
                  rw [sets_bad true o2 v2 false V] at HD
                  go_wp2_with fail
                  refine HD.mono ?_
                  rintro e w3 ⟨hA3, hB3⟩
                  obtain ⟨b, rfl, hF3⟩ := hA3.no (by decide)
                  simp only [Rp.v, Rp.z]
                  obtain ⟨y4, hy4, hvy4, w4, hz4, hv4, hb4⟩ := newR2 w3 Rp.z
                  obtain ⟨p0, p1, p2, p3⟩ := hvy4.cells
                  have pf := hvy4.free
                  simp only [Rp.z] at p0 p1 p2 p3 hz4
                  have HW4 : Hid (Lw w w4 s kNM (setsM true o2) V) := (HWe.out.step hB3 (HWe.out.vle)).keep hb4
                  have HG := Get_s HW4.out.seen (HW4.out.vle.low (by decide)) kB (by decide)
                  replace HG : Calls Tryz.prog 14 #[ptr s, .string kB, .int .i64 0] w4 fun e w' => ∃ v, e = .returned (ptr v) ∧ Mb stag (fun k => w.heap.size ≤ k) w4 w' ∧ Vw w' v (1, o2) := HG.mono (by
                    rintro e w' ⟨h1, A, h2, h3⟩
                    unfold GotR at h3
                    rw [show (setsM true o2) kB = some ((1, o2), none) from (setsM_at true o2).trans (if_pos rfl)] at h3
                    obtain ⟨v, h4, -, h5, -⟩ := h3
                    exact ⟨v, h4, h1, h5⟩)
                  have HV4 : Hid (VarR w4 w3.heap.size Rp.z) := hv4
                  have HF4 : Hid (Flt w4 (.iface 170 (.pointer (some ⟨b, 0, none⟩))) setN 1) := hF3.keep hb4
                  clear hA3 hB3 hb4 hvy4 hv4 HD hF3
                  go_wp2_with fail
                  refine HG.mono ?_
                  rintro e w5 ⟨xv, rfl, hm5, hv5⟩
                  have ht5 := hv5.ct
                  have n1 := neqV_w w5 xv
                  have n2 := eqlV_w w5 xv
                  have HB5 : Hid (Below w.heap.size w w5) := hm5.low HW4.out.bel
                  obtain ⟨r0, r1, r2, r3⟩ := (HV4.out.mv (Mb.mono hm5 vtag_s).mv).cells
                  have HCd := (HF4.out.mv (Mb.mono hm5 vtag_s).mv).code (laid_low HL.out HB5.out)
                  have HKn := fun wx (h : Below w5.heap.size w5 wx) => known_any wx (laid_low HL.out (HB5.out.trans (h.mono HB5.out.size)))
                  simp only [Rp.z] at r0 r1 r2 r3
                  clear hm5 HG p0 p1 p2 p3 pf hy4 hz4 hv5
                  go_wp2_with (first
                    | (go_at_call 10; refine HCd.mono ?_; rintro e w6 ⟨rfl, hb6⟩; have HB6 : Hid (Below w5.heap.size w5 w6) := hb6; clear hb6)
                    | (go_at_call 12; refine (HKn _ HB6.out).mono ?_; rintro e w7 ⟨rfl, hb7⟩))
                  go_ret
                  exact ⟨rfl, (HB5.out.trans (HB6.out.mono HB5.out.size)).trans (hb7.mono (HB5.out.trans (HB6.out.mono HB5.out.size)).size)⟩
                | true =>
                  rw [sets_bad true o2 v2 true V] at HD
                  go_wp2_with fail
                  refine HD.mono ?_
                  rintro e w3 ⟨hA3, hB3⟩
                  obtain ⟨b, rfl, hF3⟩ := hA3.no (by decide)
                  simp only [Rp.v, Rp.z]
                  obtain ⟨y4, hy4, hvy4, w4, hz4, hv4, hb4⟩ := newR2 w3 Rp.z
                  obtain ⟨p0, p1, p2, p3⟩ := hvy4.cells
                  have pf := hvy4.free
                  simp only [Rp.z] at p0 p1 p2 p3 hz4
                  have HW4 : Hid (Lw w w4 s kNM (setsM true o2) V) := (HWe.out.step hB3 (HWe.out.vle)).keep hb4
                  have HG := Get_s HW4.out.seen (HW4.out.vle.low (by decide)) kB (by decide)
                  replace HG : Calls Tryz.prog 14 #[ptr s, .string kB, .int .i64 0] w4 fun e w' => ∃ v, e = .returned (ptr v) ∧ Mb stag (fun k => w.heap.size ≤ k) w4 w' ∧ Vw w' v (1, o2) := HG.mono (by
                    rintro e w' ⟨h1, A, h2, h3⟩
                    unfold GotR at h3
                    rw [show (setsM true o2) kB = some ((1, o2), none) from (setsM_at true o2).trans (if_pos rfl)] at h3
                    obtain ⟨v, h4, -, h5, -⟩ := h3
                    exact ⟨v, h4, h1, h5⟩)
                  have HV4 : Hid (VarR w4 w3.heap.size Rp.z) := hv4
                  have HF4 : Hid (Flt w4 (.iface 170 (.pointer (some ⟨b, 0, none⟩))) setN 1) := hF3.keep hb4
                  clear hA3 hB3 hb4 hvy4 hv4 HD hF3
                  go_wp2_with fail
                  refine HG.mono ?_
                  rintro e w5 ⟨xv, rfl, hm5, hv5⟩
                  have ht5 := hv5.ct
                  have n1 := neqV_w w5 xv
                  have n2 := eqlV_w w5 xv
                  have HB5 : Hid (Below w.heap.size w w5) := hm5.low HW4.out.bel
                  obtain ⟨r0, r1, r2, r3⟩ := (HV4.out.mv (Mb.mono hm5 vtag_s).mv).cells
                  have HCd := (HF4.out.mv (Mb.mono hm5 vtag_s).mv).code (laid_low HL.out HB5.out)
                  have HKn := fun wx (h : Below w5.heap.size w5 wx) => known_any wx (laid_low HL.out (HB5.out.trans (h.mono HB5.out.size)))
                  simp only [Rp.z] at r0 r1 r2 r3
                  clear hm5 HG p0 p1 p2 p3 pf hy4 hz4 hv5
                  go_wp2_with (first
                    | (go_at_call 10; refine HCd.mono ?_; rintro e w6 ⟨rfl, hb6⟩; have HB6 : Hid (Below w5.heap.size w5 w6) := hb6; clear hb6)
                    | (go_at_call 12; refine (HKn _ HB6.out).mono ?_; rintro e w7 ⟨rfl, hb7⟩))
                  go_ret
                  exact ⟨rfl, (HB5.out.trans (HB6.out.mono HB5.out.size)).trans (hb7.mono (HB5.out.trans (HB6.out.mono HB5.out.size)).size)⟩
end Go.Proofs.YtnajhjmdpaeelaaGreatDoor.Sq
