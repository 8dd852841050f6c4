/-
 alike.
-/
import Derived.Test.YtmjeljldmmkcpaaGreatK42
import Derived.BigQuiet
namespace Go.Proofs.YtmjeljldmmkcpaaGreat.Sq
open Go.RowKit Go.PlainAid
open Dk (ptr Aa Ac Ad Af OwnR OwnP OwnS Mv)

set_option maxRecDepth 100000 in
set_option maxHeartbeats 4000000 in
theorem alike_any (w : World) (W B s m x : Nat) (now : Int) (va wa : Nat) (nv nw : List Int) (A : Ab) (V : BA → Int) (rows : List Kr) (FP : BA → List Nat) (bd : Int) (H : St w W B s m x now va wa nv nw A V rows FP bd) (hva : B ≤ va) (hwa : B ≤ wa) (hbd : bd ≤ 900000)
  (hn : ∀ i, i < 7 → nv.getD i 0 ≤ vN A V now (nmA i)) (hi : ∀ i, i < 7 → (vN A V now (nmA i) = nv.getD i 0 ↔ uN rows now (nmA i) = nw.getD i 0)) (hz : ∀ k, uN rows now k = 0 → vN A V now k = 0) :
  Calls Tryz.prog 23 #[ptr W] w fun e w' => e = .returned (.bool true) ∧ Below B w w' ∧ Al w' W B s m x now va wa (NM7.map (vN A V now)) (NM7.map (uN rows now)) (dueA A now) (dueV A V now) (dueR now rows) FP := by
 have hbB : B ≤ w.heap.size := H.mr.md.lt
 have HSd : Hid (St w.drew W B s m x now va wa nv nw A V rows FP bd) := H.keep (Aa w 1)
 have HB0 : Hid (Below B w w.drew) := (Aa w 1).mono hbB
 obtain ⟨hlo, hlm, -, hln⟩ := H.low (by omega)
 have hst := H.stl (by omega)
 have HNm := Names_any w.drew B m rows now HSd.out.mr.md hlm
 have HLn := fun w1 (h : Mb mtag B w.drew w1) => Len_any w1.drew B s x NM7 A V ((HSd.out.pr.mt h).keep (Aa w1 1)).spc hlo now
 have HL : Hid (w.drew.cell? ⟨W, 0, none⟩ = some (ptr s) ∧ w.drew.cell? ⟨W, 1, none⟩ = some (ptr m) ∧ w.drew.cell? ⟨W, 2, none⟩ = some (.int .i64 now)) := HSd.out.pr.lw.c3
 have HLw1 : Hid (∀ w1, Mb mtag B w.drew w1 → Lw w1.drew W s m now va wa nv nw) := fun w1 h => ((HSd.out.pr.mt h).keep (Aa w1 1)).lw
 obtain ⟨A0, hA0⟩ : ∃ A0, dueA A now = A0 := ⟨_, rfl⟩
 obtain ⟨V0, hV0⟩ : ∃ V0, dueV A V now = V0 := ⟨_, rfl⟩
 obtain ⟨rs, hrs⟩ : ∃ rs, dueR now rows = rs := ⟨_, rfl⟩
 obtain ⟨U0, hU0⟩ : ∃ U0, dueV (mA rows) (verR rows) now = U0 := ⟨_, rfl⟩
 have HUr : Hid (verR rs = U0) := by show _ = _; rw [← hrs, Cr, hU0]
 have HAl : Hid (∀ w1 w2, MTo w.drew w1 B m rs → Bo w1.drew w2 B s x NM7 A V now → Al w2 W B s m x now va wa nv nw A0 V0 rs FP) := fun w1 w2 h1 h2 => by
  have h := HSd.out.al2 (MTo.keep (rows := dueR now rows) (by rw [hrs]; exact h1) (Aa w1 1)) h2
  rw [hA0, hV0, hrs] at h
  exact h
 have HHl : Hid (∀ e, LenR e (dueA A now) → e = .returned (.int .i64 ((A3 rs).length : Nat))) := fun e h => by
  have := HSd.out.held h
  rw [hrs] at this
  exact this
 have HSt : Hid (Stl now A0 V0 rs (bd + 1)) := by
  show Stl now A0 V0 rs (bd + 1)
  rw [← hA0, ← hV0, ← hrs]
  exact hst
 have HVA : Hid (B ≤ va ∧ B ≤ wa) := ⟨hva, hwa⟩
 simp only [vN, uN, hV0, hU0] at hn hi hz ⊢
 have HN : Hid (∀ i, i < 7 → nv.getD i 0 ≤ V0 (nmA i)) := hn
 have HI : Hid (∀ i, i < 7 → (V0 (nmA i) = nv.getD i 0 ↔ U0 (nmA i) = nw.getD i 0)) := hi
 have HZ : Hid (∀ k, U0 k = 0 → V0 k = 0) := hz
 have HLl : Hid (nv.length = 7 ∧ nw.length = 7) := ⟨H.pr.lw.lv, H.pr.lw.lw⟩
 have HEnd : Hid (∀ wr, Al wr W B s m x now va wa (NM7.map V0) (NM7.map U0) A0 V0 rs FP → Al wr W B s m x now va wa (NM7.map V0) (NM7.map U0) (dueA A now) V0 (dueR now rows) FP) := fun wr h => by rw [hA0, hrs]; exact h
 rw [hrs] at HNm
 have HDue : Hid (dueA A now = A0) := hA0
 clear hA0 hV0 hrs hU0 hn hi hz H hst hlo hlm hln hva hwa hbd hbB
 go_enter Tryz.func23, Tryz.ntmps23
 go_upto_region 1 with fail
 refine Ag 9 (fun w' => w'.cell? ⟨W, 0, none⟩ = some (ptr s) ∧ w'.cell? ⟨W, 1, none⟩ = some (ptr m) ∧ w'.cell? ⟨W, 2, none⟩ = some (.int .i64 now)) [false, false, false, false, false, false, false, false, false, false] ?_
 iterate 8
  refine tk (v := ?_) 0 HL.out ?_ ?_
  rotate_left
  ·(intro w hSw; (try dsimp only at hSw); go_simp; try with_reducible rfl)
  simp only [Act.put, uA, uB, uC]
 refine on1 8 fun K hK => ?_
 go_simp
 refine (HNm).mono ?_
 rintro e w1 ⟨hT1, an, nn, cn, rfl, hO1⟩
 refine hK.out _ _ (fun _ => ((HSd.out.pr.mt hT1.mb).lw.c3)) ?_
 clear hK
 simp only [uA, uB, uC]
 refine on1 9 fun K hK => ?_
 go_simp
 refine lst hK ?_
 clear hK
 have HT1 : Hid (MTo w.drew w1 B m rs) := hT1
 have hnn : (A3 rs).length = nn := Dk.OwnS.len hO1
 have hnn7 : nn ≤ 7 := by rw [← hnn]; exact Nat.le_trans (namesR_le rs) (HSt.out.ok.len hT1.md.nod)
 have HO1 : Hid (OwnS w1.drew w.drew.heap.size an nn cn (A3 rs)) := OwnR.keep hO1 (Aa w1 1)
 have HLn1 := HLn w1 hT1.mb
 have HL1 : Hid (w1.drew.cell? ⟨W, 0, none⟩ = some (ptr s) ∧ w1.drew.cell? ⟨W, 2, none⟩ = some (.int .i64 now)) := ⟨(HLw1.out _ hT1.mb).c3.1, (HLw1.out _ hT1.mb).c3.2.2⟩
 have HB1 : Hid (Below B w w1.drew) := (HB0.out.trans hT1.mb.be).trans ((Aa w1 1).mono hT1.md.lt)
 have HNn : Hid ((A3 rs).length = nn) := hnn
 have hbg : nn ≤ 1000000 := by omega
 clear hT1 hO1 hnn HLn HNm HL
 go_upto_region 2 with fail
 go_region_held3 (fun w' => w'.cell? ⟨W, 0, none⟩ = some (ptr s) ∧ w'.cell? ⟨W, 2, none⟩ = some (.int .i64 now)) (first | with_reducible exact ⟨HC4.out.c0, HC4.out.c2⟩ | with_reducible exact ⟨HC3.out.c0, HC3.out.c2⟩ | with_reducible exact ⟨HC2.out.c0, HC2.out.c2⟩ | with_reducible exact HL1.out) (first
  | (go_at_call 15; refine HLn1.mono ?_; rintro e w2 ⟨hT2, hlr⟩; have hle := HHl.out _ hlr; rw [HNn.out] at hle; subst hle; have HA2 : Hid (Al w2 W B s m x now va wa nv nw A0 V0 rs FP) := HAl.out _ _ HT1.out hT2; have HC2 : Hid (C5 w2 W s m now va wa) := HA2.out.lw.c5; have HO2 : Hid (OwnS w2 w.drew.heap.size an nn cn (A3 rs)) := owns_mv HO1.out hT2.mb.mv (by decide); have HB2 : Hid (Below B w w2) := HB1.out.trans hT2.mb.be; have HKy := keys_s HA2.out HSt.out; clear hT2 hlr)
  | (go_at_call 25; refine HKy.mono ?_; rintro e w3 ⟨hA3, hm3, ak, nk, ck, ks, rfl, hOk, hpk⟩; have hnk : nk = nn := (by have h1 := Dk.OwnS.len hOk; have h2 := hpk.length_eq; have h3 := HNn.out; omega); subst hnk; have HA3 : Hid (Al w3 W B s m x now va wa nv nw A0 V0 rs FP) := hA3; have HC3 : Hid (C5 w3 W s m now va wa) := hA3.lw.c5; have HBg := Dk.Bag_any ak an nk ck cn ks (A3 rs) w3 (OwnR.low hOk (Nat.zero_le _)) (OwnR.low (owns_mv HO2.out hm3.mv (by decide)) (Nat.zero_le _)) hbg hpk; have HB3 : Hid (Below B w w3) := HB2.out.trans hm3.be; clear hA3 hm3 hOk hpk)
  | (go_at_call 24; refine HBg.mono ?_; rintro e w4 ⟨rfl, hb4⟩; have HA4 : Hid (Al w4 W B s m x now va wa nv nw A0 V0 rs FP) := HA3.out.keep hb4; have HC4 : Hid (C5 w4 W s m now va wa) := HA4.out.lw.c5; have HHd := held_s HA4.out; rw [HNn.out] at HHd; have HB4 : Hid (Below B w w4) := HB3.out.trans (hb4.mono HA3.out.md.lt); clear hb4)
  | (go_at_call 64; refine HHd.mono ?_; rintro e w4 ⟨rfl, rfl⟩))
 clear HL1 HHd HBg HKy HLn1 HA3 HC2 HC3 HC4 HO1 HO2 HB1 HB2 HB3 HA2 HT1 HNn HHl HAl HLw1 HB0 HSd
 have HA5 : Hid (Al w4 W B s m x now va wa (mixV V0 nv 0) (mixV U0 nw 0) A0 V0 rs FP) := by
  show Al w4 _ _ _ _ _ _ _ _ _ _ _ _ _ _
  rw [mixV_zero, mixV_zero]
  exact HA4.out
 clear HA4
 go_wp2
 go_loopg [4] 7 (fun g iv wr => ∃ i : Nat, i + g = 7 ∧ iv = .int .i64 (i : Nat) ∧ Hid (Al wr W B s m x now va wa (mixV V0 nv i) (mixV U0 nw i) A0 V0 rs FP) ∧ Hid (Below B w wr))
 case atStart => exact ⟨0, by omega, rfl, HA5, HB4⟩
 case round =>
  obtain ⟨i, hig, rfl, HAr, HBr⟩ := hrel
  by_cases h7 : (i : Int) < 7
  ·have hi7 : i < 7 := by omega
   have HIG : Hid (i + gk = 7) := hig
   have HI7 : Hid (i < 7) := hi7
   have HNa := name_i i hi7 wr
   obtain ⟨k, HK⟩ : ∃ k, Hid (nmA i = k) := ⟨_, rfl⟩
   rw [HK.out] at HNa
   have HK7 : Hid (k ∈ NM7) := by rw [← HK.out]; exact nm7 hi7
   clear hig
   go_wp2_with fail
   refine HNa.mono ?_
   rintro e wr ⟨rfl, rfl⟩
   have HAd : Hid (Al wr.drew W B s m x now va wa (mixV V0 nv i) (mixV U0 nw i) A0 V0 rs FP) := HAr.out.keep (Aa wr 1)
   have HBd : Hid (Below B w wr.drew) := HBr.out.trans ((Aa wr 1).mono HAr.out.md.lt)
   have HGt := get_s HAd.out HSt.out k HK7.out
   clear HNa
   go_upto_region 8 with fail
   refine Ag 10 (fun w' => w'.cell? ⟨W, 0, none⟩ = some (ptr s) ∧ w'.cell? ⟨W, 1, none⟩ = some (ptr m) ∧ w'.cell? ⟨W, 2, none⟩ = some (.int .i64 now)) [false, false, false, false, false, false, false, false, false, false, false] ?_
   iterate 9
    refine tk (v := ?_) 0 HAd.out.lw.c3 ?_ ?_
    rotate_left
    ·(intro w hSw; (try dsimp only at hSw); go_simp; try with_reducible rfl)
    simp only [Act.put, uA, uB, uC]
   refine on1 9 fun K hK => ?_
   go_simp
   refine (HGt).mono ?_
   rintro e w5 ⟨rfl, hA5, hb5⟩
   refine hK.out _ _ (fun _ => hA5.lw.c3) ?_
   clear hK
   simp only [uA, uB, uC]
   refine on1 10 fun K hK => ?_
   go_simp
   refine lst hK ?_
   clear hK
   have HA5 : Hid (Al w5.drew W B s m x now va wa (mixV V0 nv i) (mixV U0 nw i) A0 V0 rs FP) := hA5.keep (Aa w5 1)
   have HB5 : Hid (Below B w w5.drew) := (HBd.out.trans hb5).trans ((Aa w5 1).mono hA5.md.lt)
   have HAt := at_s HA5.out HSt.out k
   clear HGt hA5 HAd hb5 HBd
   go_upto_region 9 with fail
   refine Ag 10 (fun w' => w'.cell? ⟨W, 0, none⟩ = some (ptr s) ∧ w'.cell? ⟨W, 1, none⟩ = some (ptr m) ∧ w'.cell? ⟨W, 2, none⟩ = some (.int .i64 now)) [false, false, false, false, false, false, false, false, false, false, false] ?_
   iterate 9
    refine tk (v := ?_) 0 HA5.out.lw.c3 ?_ ?_
    rotate_left
    ·(intro w hSw; (try dsimp only at hSw); go_simp; try with_reducible rfl)
    simp only [Act.put, uA, uB, uC]
   refine on1 9 fun K hK => ?_
   go_simp
   refine (HAt).mono ?_
   rintro e w6 ⟨hat, hA6, hb6⟩
   obtain ⟨zi, rfl, haz⟩ := hat.int
   clear hat
   refine hK.out _ _ (fun _ => hA6.lw.c3) ?_
   clear hK
   simp only [uA, uB, uC]
   refine on1 10 fun K hK => ?_
   go_simp
   refine lst hK ?_
   clear hK
   have HA6 : Hid (Al w6 W B s m x now va wa (mixV V0 nv i) (mixV U0 nw i) A0 V0 rs FP) := hA6
   clear HAt HA5
   have HB6 : Hid (Below B w w6) := HB5.out.trans hb6
   clear HB5 hb6
   go_upto_region 10 with fail
   go_cut [6, 74, 109] from 85 to 109 (fun _ _ v wx => v = .bool false ∧ Hid (Al wx W B s m x now va wa (mixV V0 nv i) (mixV U0 nw i) A0 V0 rs FP) ∧ Hid (Below B w wx))
   case first =>
    rcases haz with ⟨ia, r, rfl, hr, hk, hth⟩ | ⟨rfl, hno⟩
    ·obtain ⟨⟨p, hp⟩, HHs⟩ := has_al hA6 HSt.out hr hk hth
     rw [hp] at HHs ⊢
     have hvn := neqV_nil w6 p
     have hi0 : (0 : Int) ≤ (ia : Nat) := by omega
     obtain ⟨g, cc, hhd, ⟨p0, p1, p2, p3, p4, p5, p6, p7, p8⟩, -⟩ := hA6.md.fx hr
     have hil := B1 hr
     have hfew := hA6.md.few
     have w1c := hA6.lw.c5.c1
     generalize rs.length = n at *
     have hiz : (ia : Int) < n := by omega
     have hi9 : ia * 9 ≤ 9000 := by omega
     have hneg : decide ((ia : Int) < 0) = false := decide_eq_false (by omega)
     clear hr hk hth hp hA6 p0 p1 p6 p7 p8
     go_wp2_with fail
     refine HHs.mono ?_
     rintro e w7 ⟨rfl, hb7⟩
     have HA7 : Hid (Al w7 W B s m x now va wa (mixV V0 nv i) (mixV U0 nw i) A0 V0 rs FP) := HA6.out.keep hb7
     have HB7 : Hid (Below B w w7) := HB6.out.trans (hb7.mono HA6.out.md.lt)
     clear hb7 HHs
     go_wp2
     go_meet
     exact ⟨rfl, HA7, HB7⟩
    ·rw [show valOf (A0 k) = none by rw [hA6.off hno]; rfl]
     clear hno hA6
     go_wp2
     go_meet
     exact ⟨rfl, HA6, HB6⟩
   case rest =>
   obtain ⟨rfl, HA7, HB7⟩ := hcut
   clear haz hA6 HA6 HB6
   have HAd : Hid (Al wc.drew W B s m x now va wa (mixV V0 nv i) (mixV U0 nw i) A0 V0 rs FP) := HA7.out.keep (Aa wc 1)
   have HX1 := expiry_s HAd.out HSt.out k HK7.out
   have HBd : Hid (Below B w wc.drew) := HB7.out.trans ((Aa wc 1).mono HA7.out.md.lt)
   clear HA7 HB7
   go_upto_region 12 with fail
   refine Ag 14 (fun w' => w'.cell? ⟨W, 0, none⟩ = some (ptr s) ∧ w'.cell? ⟨W, 1, none⟩ = some (ptr m) ∧ w'.cell? ⟨W, 2, none⟩ = some (.int .i64 now)) [false, false, false, false, false, false, false, false, false, false, false, false, false, false, false] ?_
   iterate 9
    refine tk (v := ?_) 0 HAd.out.lw.c3 ?_ ?_
    rotate_left
    ·(intro w hSw; (try dsimp only at hSw); go_simp; try with_reducible rfl)
    simp only [Act.put, uA, uB, uC]
   refine on1 9 fun K hK => ?_
   go_simp
   refine (HX1).mono ?_
   rintro e w8 ⟨rfl, hA8, hb8⟩
   refine hK.out _ _ (fun _ => hA8.lw.c3) ?_
   clear hK
   simp only [uA, uB, uC]
   iterate 4
    refine tk (v := ?_) 10 hA8.lw.c3 ?_ ?_
    rotate_left
    ·(intro w hSw; (try dsimp only at hSw); go_simp; try with_reducible rfl)
    simp only [Act.put, uA, uB, uC]
   refine on1 14 fun K hK => ?_
   go_simp
   refine lst hK ?_
   clear hK
   have HA8 : Hid (Al w8.drew W B s m x now va wa (mixV V0 nv i) (mixV U0 nw i) A0 V0 rs FP) := hA8.keep (Aa w8 1)
   have HX2 := expiry_m HA8.out HSt.out k
   have HB8 : Hid (Below B w w8.drew) := (HBd.out.trans hb8).trans ((Aa w8 1).mono hA8.md.lt)
   clear HX1 hA8 HAd HBd hb8
   go_upto_region 13 with fail
   refine Ag 14 (fun w' => w'.cell? ⟨W, 0, none⟩ = some (ptr s) ∧ w'.cell? ⟨W, 1, none⟩ = some (ptr m) ∧ w'.cell? ⟨W, 2, none⟩ = some (.int .i64 now)) [false, false, false, false, false, false, false, false, false, false, false, false, false, false, false] ?_
   iterate 9
    refine tk (v := ?_) 0 HA8.out.lw.c3 ?_ ?_
    rotate_left
    ·(intro w hSw; (try dsimp only at hSw); go_simp; try with_reducible rfl)
    simp only [Act.put, uA, uB, uC]
   refine on1 9 fun K hK => ?_
   go_simp
   refine (HX2).mono ?_
   rintro e w9 ⟨rfl, hA9, hb9⟩
   refine hK.out _ _ (fun _ => hA9.lw.c3) ?_
   clear hK
   simp only [uA, uB, uC]
   iterate 4
    refine tk (v := ?_) 10 hA9.lw.c3 ?_ ?_
    rotate_left
    ·(intro w hSw; (try dsimp only at hSw); go_simp; try with_reducible rfl)
    simp only [Act.put, uA, uB, uC]
   refine on1 14 fun K hK => ?_
   go_simp
   refine lst hK ?_
   clear hK
   have HA9 : Hid (Al w9.drew W B s m x now va wa (mixV V0 nv i) (mixV U0 nw i) A0 V0 rs FP) := hA9.keep (Aa w9 1)
   have HV1 := ver_s HA9.out HSt.out k HK7.out
   have HB9 : Hid (Below B w w9.drew) := (HB8.out.trans hb9).trans ((Aa w9 1).mono hA9.md.lt)
   clear HX2 hA9 HA8 HB8 hb9
   generalize (endOf (A0 k)).getD 0 = en
   generalize (endOf (A0 k)).isSome = eb
   have heb : (eb == eb) = true := by simp
   have hebn : (eb != eb) = false := by simp
   go_upto_region 16 with fail
   refine Ag 21 (fun w' => w'.cell? ⟨W, 0, none⟩ = some (ptr s) ∧ w'.cell? ⟨W, 1, none⟩ = some (ptr m) ∧ w'.cell? ⟨W, 2, none⟩ = some (.int .i64 now)) [false, false, false, false, false, false, false, false, false, false, false, false, false, false, false, false, false, false, false, false, false, false] ?_
   iterate 9
    refine tk (v := ?_) 0 HA9.out.lw.c3 ?_ ?_
    rotate_left
    ·(intro w hSw; (try dsimp only at hSw); go_simp; try with_reducible rfl)
    simp only [Act.put, uA, uB, uC]
   iterate 9
    refine tk (v := ?_) 10 HA9.out.lw.c3 ?_ ?_
    rotate_left
    ·(intro w hSw; (try dsimp only at hSw); go_simp; try with_reducible rfl)
    simp only [Act.put, uA, uB, uC]
   refine on1 9 fun K hK => ?_
   go_simp
   refine HV1.mono ?_
   rintro e w10 ⟨rfl, hA10, hb10⟩
   refine hK.out _ _ (fun _ => hA10.lw.c3) ?_
   clear hK
   have HV2 := ver_m hA10 HSt.out k
   refine on1 19 fun K hK => ?_
   go_simp
   refine HV2.mono ?_
   rintro e w11 ⟨rfl, hA11, hb11⟩
   refine hK.out _ _ (fun _ => hA11.lw.c3) ?_
   clear hK
   simp only [uA, uB, uC]
   refine tk (v := ?_) 20 hA11.lw.c3 ?_ ?_
   rotate_left
   ·(intro w hSw; (try dsimp only at hSw); go_simp; try with_reducible rfl)
   simp only [Act.put, uA, uB, uC]
   refine on1 21 fun K hK => ?_
   go_simp
   refine lst hK ?_
   clear hK
   have HA11 : Hid (Al w11 W B s m x now va wa (mixV V0 nv i) (mixV U0 nw i) A0 V0 rs FP) := hA11
   have HB11 : Hid (Below B w w11) := (HB9.out.trans hb10).trans hb11
   rw [HUr.out]
   have hnv := mixV_at V0 HLl.out.1 HI7.out
   have hnw := mixV_at U0 HLl.out.2 HI7.out
   have r5 := hA11.lw.c5.c3
   have r6 := hA11.lw.c5.c4
   have r7 := hA11.lw.atv hnv
   have r8 := hA11.lw.atw hnw
   have hle := HN.out i HI7.out
   have hif := HI.out i HI7.out
   have hzr := HZ.out (nmA i)
   rw [HK.out] at hle hif hzr
   obtain ⟨n, HNv⟩ : ∃ n, Hid (V0 k = n) := ⟨_, rfl⟩
   obtain ⟨u, HUv⟩ : ∃ u, Hid (U0 k = u) := ⟨_, rfl⟩
   rw [HNv.out] at hle hif hzr ⊢
   rw [HUv.out] at hif hzr ⊢
   generalize nv.getD i 0 = y at hle hif r7
   generalize nw.getD i 0 = z at hif r8
   clear hnv hnw hA11 hA10 hb10 hb11 HV1 HV2 HA9 HB9
   go_upto_region 17 with fail
   go_cut [201] from 164 to 201 (fun v wx => v = .bool false ∧ Hid (Al wx W B s m x now va wa (mixV V0 nv i) (mixV U0 nw i) A0 V0 rs FP) ∧ Hid (Below B w wx))
   case first =>
    have hlt : decide (n < y) = false := decide_eq_false (by omega)
    have hi0 : (0 : Int) ≤ (i : Nat) := by omega
    by_cases h1 : n = y
    ·have h2 := hif.1 h1
     subst h1
     subst h2
     by_cases h3 : u = 0
     ·have h4 := hzr h3
      subst h3
      subst h4
      go_quiet (fail)
      have HA12 := Hid.out HA11 |>.keep (Aa w11 nq)
      have HB12 := HB11.out.trans ((Aa w11 nq).mono HA11.out.md.lt)
      go_wp2
      go_meet
      exact ⟨rfl, HA12, HB12⟩
     ·have h4 : (u == 0) = false := beq_no h3
      go_quiet (fail)
      have HA12 := HA11.out.keep (Aa w11 nq)
      have HB12 := HB11.out.trans ((Aa w11 nq).mono HA11.out.md.lt)
      go_wp2
      go_meet
      exact ⟨rfl, HA12, HB12⟩
    ·have h2 : u ≠ z := fun h => h1 (hif.2 h)
     have e1 : (n == y) = false := beq_no h1
     have e2 : (u == z) = false := beq_no h2
     have e3 : (n != y) = true := by simp [h1]
     have e4 : (u != z) = true := by simp [h2]
     by_cases h3 : u = 0
     ·have h4 := hzr h3
      subst h3
      subst h4
      go_quiet (fail)
      have HA12 := HA11.out.keep (Aa w11 nq)
      have HB12 := HB11.out.trans ((Aa w11 nq).mono HA11.out.md.lt)
      go_wp2
      go_meet
      exact ⟨rfl, HA12, HB12⟩
     ·have h4 : (u == 0) = false := beq_no h3
      go_quiet (fail)
      have HA12 := HA11.out.keep (Aa w11 nq)
      have HB12 := HB11.out.trans ((Aa w11 nq).mono HA11.out.md.lt)
      go_wp2
      go_meet
      exact ⟨rfl, HA12, HB12⟩
   case rest =>
   obtain ⟨rfl, HA12, HB12⟩ := hcut
   clear HA11 HB11 hle hif hzr r5 r6 r7 r8
   have hlw := HA12.out.lw
   have r3 : wc.drew.cell? ⟨W, 3, none⟩ = some (.slice (some ⟨va, 0, none⟩) 7 7) := hlw.c5.c3
   have r4 : wc.drew.cell? ⟨W, 4, none⟩ = some (.slice (some ⟨wa, 0, none⟩) 7 7) := hlw.c5.c4
   have HSw : Hid (wc.drew.cell? ⟨W, 3, none⟩ = some (.slice (some ⟨va, 0, none⟩) 7 7) ∧ wc.drew.cell? ⟨W, 4, none⟩ = some (.slice (some ⟨wa, 0, none⟩) 7 7)) := ⟨r3, r4⟩
   have r7 := hlw.atv (mixV_at V0 HLl.out.1 HI7.out)
   have r8 := hlw.atw (mixV_at U0 HLl.out.2 HI7.out)
   generalize nv.getD i 0 = y at r7
   generalize nw.getD i 0 = z at r8
   obtain ⟨f7, f8⟩ := hlw.fzv i
   have HSx : Hid (∀ v : Value, (wc.setCell ⟨va, i, none⟩ v).cell? ⟨W, 3, none⟩ = some (.slice (some ⟨va, 0, none⟩) 7 7) ∧ (wc.setCell ⟨va, i, none⟩ v).cell? ⟨W, 4, none⟩ = some (.slice (some ⟨wa, 0, none⟩) 7 7)) := fun v => by
    have h : (wc.setCell ⟨va, i, none⟩ v).heap[W]? = wc.heap[W]? := Ar (Bj hlw.blk hlw.bv (by decide))
    refine ⟨?_, ?_⟩ <;> simp [World.cell?, h, hlw.blk]
   have hxa : (wc.setCell ⟨va, i, none⟩ (.int .u64 n)).heap[wa]? = wc.heap[wa]? := Ar (Ne.symm hlw.ne)
   have t8 : (wc.setCell ⟨va, i, none⟩ (.int .u64 n)).cell? ⟨wa, i, none⟩ = some (.int .u64 z) := by
    rw [← r8]
    exact World.cell?_of_block hxa
   have g8 : (wc.setCell ⟨va, i, none⟩ (.int .u64 n)).frozen? ⟨wa, i, none⟩ = false := by
    rw [← f8]
    exact World.frozen?_of_block hxa
   have t9 : (wc.setCell ⟨va, i, none⟩ (.int .u64 n)).drew.cell? ⟨wa, i, none⟩ = some (.int .u64 z) := t8
   have g9 : (wc.setCell ⟨va, i, none⟩ (.int .u64 n)).drew.frozen? ⟨wa, i, none⟩ = false := g8
   have s7 : wc.drew.cell? ⟨va, i, none⟩ = some (.int .u64 y) := r7
   have s9 : wc.drew.frozen? ⟨va, i, none⟩ = false := f7
   have hi0 : decide ((i : Int) < 0) = false := decide_eq_false (by omega)
   clear hlw hxa
   go_upto_region 19 with fail
   refine Ag 15 (fun w' => w'.cell? ⟨W, 3, none⟩ = some (.slice (some ⟨va, 0, none⟩) 7 7) ∧ w'.cell? ⟨W, 4, none⟩ = some (.slice (some ⟨wa, 0, none⟩) 7 7)) [false, false, false, false, false, false, false, false, false, false, false, false, false, false, false, false] ?_
   iterate 13
    refine tk (v := ?_) 0 HSw.out ?_ ?_
    rotate_left
    ·(intro w hSw; (try dsimp only at hSw); go_simp; try with_reducible rfl)
    simp only [Act.put, uA, uB, uC]
   refine on1 13 fun K hK => ?_
   go_simp
   refine hK.out _ _ (fun _ => HSx.out _) ?_
   clear hK
   simp only [uA, uB, uC]
   refine tk (v := ?_) 14 (HSx.out _) ?_ ?_
   rotate_left
   ·(intro w hSw; (try dsimp only at hSw); go_simp; try with_reducible rfl)
   simp only [Act.put, uA, uB, uC]
   refine on1 15 fun K hK => ?_
   go_simp
   refine lst hK ?_
   clear hK
   obtain ⟨hA13, hB13⟩ := HA12.out.tell HVA.out.1 HVA.out.2 i n u
   have hB14 := (HB12.out.trans hB13).trans ((Aa _ 1).mono hA13.md.lt)
   have hA14 := hA13.keep (Aa _ 1)
   have e1 : (mixV V0 nv i).set i n = mixV V0 nv (i + 1) := by rw [← HNv.out, ← HK.out]; exact mixV_set V0 HLl.out.1 HI7.out
   have e2 : (mixV U0 nw i).set i u = mixV U0 nw (i + 1) := by rw [← HUv.out, ← HK.out]; exact mixV_set U0 HLl.out.2 HI7.out
   rw [e1, e2] at hA14
   obtain ⟨w14, hw14⟩ : ∃ w14, ((wc.setCell ⟨va, i, none⟩ (.int .u64 n)).setCell ⟨wa, i, none⟩ (.int .u64 u)).drew = w14 := ⟨_, rfl⟩
   have HA14 : Hid (Al w14 W B s m x now va wa (mixV V0 nv (i + 1)) (mixV U0 nw (i + 1)) A0 V0 rs FP) := by rw [← hw14]; exact hA14
   have HB14 : Hid (Below B w w14) := by rw [← hw14]; exact hB14
   clear hA13 hB13 hA14 hB14 e1 e2 HA12 HB12
   rw [hw14]
   clear hw14
   go_wp2
   go_roundg (gk - 1)
   case measure => have := HIG.out; omega
   case rel => exact ⟨i + 1, by have := HIG.out; omega, by go_num, HA14, HB14⟩
  ·have hi7 : i = 7 := by omega
   subst hi7
   have hA := HAr.out
   rw [mixV_end V0 HLl.out.1, mixV_end U0 HLl.out.2] at hA
   have HE := HEnd.out _ hA
   clear hA
   go_wp2
   go_ret
   exact ⟨rfl, HBr.out, HE⟩
end Go.Proofs.YtmjeljldmmkcpaaGreat.Sq
