/-
 The law's do: Copy, Touch, Flush, Cycle.
-/
import Derived.Test.YtmjeljldmmkcpaaGreatK41
namespace Go.Proofs.YtmjeljldmmkcpaaGreat.Sq
open Go.RowKit Go.PlainAid
open Dk (ptr Aa Ac Ad Af OwnR OwnP OwnS Mv)

set_option maxRecDepth 100000 in
set_option maxHeartbeats 4000000 in
theorem do_b (w : World) (W B s m x : Nat) (now : Int) (va wa : Nat) (nv nw : List Int) (A : Ab) (V : BA → Int) (rows : List Kr) (FP : BA → List Nat) (bd : Int) (H : St w W B s m x now va wa nv nw A V rows FP bd) (hW : B ≤ W) (hbd : bd ≤ 900000) (kd xa xb xn xt : Int) (xs : BA) (hk : kd = 6 ∨ kd = 7 ∨ kd = 8 ∨ kd = 9) :
  Calls Tryz.prog 21 #[ptr W, .agg #[.int .i64 kd, .int .i64 xa, .int .i64 xb, .int .i64 xn, .int .i64 xt, .string xs]] w fun e w' => DoE w w' W B s m x va wa nv nw (vN A V now) (uN rows now) (bd + 20) e := by
 obtain ⟨HK, -⟩ : Hid (kd = 6 ∨ kd = 7 ∨ kd = 8 ∨ kd = 9) ∧ True := ⟨hk, trivial⟩
 clear hk
 have hb0 : Below w.heap.size w (w.alloc (.cells #[.int .i64 kd, .int .i64 xa, .int .i64 xb, .int .i64 xn, .int .i64 xt, .string xs] 24)) := Ac w _
 have hx0 := heap_alloc_new w (.cells #[.int .i64 kd, .int .i64 xa, .int .i64 xb, .int .i64 xn, .int .i64 xt, .string xs] 24)
 obtain ⟨w0, hw0⟩ : ∃ w0, w.alloc (.cells #[.int .i64 kd, .int .i64 xa, .int .i64 xb, .int .i64 xn, .int .i64 xt, .string xs] 24) = w0 := ⟨_, rfl⟩
 obtain ⟨X, hX⟩ : ∃ X, w.heap.size = X := ⟨_, rfl⟩
 rw [hw0] at hb0 hx0
 rw [hX] at hx0
 have HW0 : Hid (w.alloc (.cells #[.int .i64 kd, .int .i64 xa, .int .i64 xb, .int .i64 xn, .int .i64 xt, .string xs] 24) = w0) := hw0
 have HXs : Hid (w.heap.size = X) := hX
 have HX0 : Hid (Xb w0.drew X kd xa xb xn xt xs) := (Xb.mk hx0).keep (Aa w0 1)
 have HBd : Hid (Below B w w0.drew) := (hb0.mono H.mr.md.lt).trans ((Aa w0 1).mono (Nat.le_trans H.mr.md.lt hb0.size))
 have HS0 : Hid (St w0.drew W B s m x now va wa nv nw A V rows FP bd) := (H.keep hb0).keep (Aa w0 1)
 have HWB : Hid (B ≤ W) := hW
 have HBD : Hid (bd ≤ 900000) := hbd
 have ht0 := H.t0
 have ht1 := H.t1
 have hfz := HS0.out.pr.lw.fz
 have hfy : w0.frozen? ⟨W, 2, none⟩ = false := hfz
 have HSa : Hid (w0.drew.cell? ⟨W, 2, none⟩ = some (.int .i64 now) ∧ w0.drew.cell? ⟨X, 4, none⟩ = some (.int .i64 xt)) := ⟨HS0.out.pr.lw.c3.2.2, HX0.out.c4⟩
 clear H hw0 hX hx0 hb0 hW hbd
 go_enter Tryz.func21, Tryz.ntmps21
 go_upto_region 1 with fail
 rw [HW0.out, HXs.out]
 refine Ag 11 (fun w' => w'.cell? ⟨W, 2, none⟩ = some (.int .i64 now) ∧ w'.cell? ⟨X, 4, none⟩ = some (.int .i64 xt)) [false, false, false, false, false, false, false, false, false, false, false, false] ?_
 iterate 7
  refine tk (v := ?_) 0 HSa.out ?_ ?_
  rotate_left
  ·(intro w hSw; (try dsimp only at hSw); go_simp; try with_reducible rfl)
  simp only [Act.put, uA, uB, uC]
 refine on1 7 fun K hK => ?_
 go_simp
 refine (Dk.Within_any xt 0 9 _ (by decide) (by decide) (by decide)).mono ?_
 rintro e wt ⟨rfl, z, hz1, hz2, rfl⟩
 refine hK.out _ _ (fun _ => HSa.out) ?_
 clear hK
 simp only [uA, uB, uC]
 iterate 3
  refine tk (v := ?_) 8 HSa.out ?_ ?_
  rotate_left
  ·(intro w hSw; (try dsimp only at hSw); go_simp; try with_reducible rfl)
  simp only [Act.put, uA, uB, uC]
 have hc2 : w0.cell? ⟨W, 2, none⟩ = some (.int .i64 now) := HSa.out.1
 have hc3 := HSa.out.1
 refine on1 11 fun K hK => ?_
 go_simp
 refine lst hK ?_
 clear hK
 have hnz : IntKind.i64.wrap (now + z) = now + z := i64_low (by omega) (by have := HBD.out; omega)
 rw [hnz]
 obtain ⟨w1, hw1⟩ : ∃ w1, (w0.setCell ⟨W, 2, none⟩ (.int .i64 (now + z))).drew = w1 := ⟨_, rfl⟩
 obtain ⟨nw', hnw⟩ : ∃ nw', now + z = nw' := ⟨_, rfl⟩
 obtain ⟨hS1, hG1, hB1, hX1⟩ := HS0.out.tick HWB.out (now' := now + z) (by omega) (c := bd + 10) (by omega) (by omega) HX0.out hw1.symm
 rw [hw1]
 rw [hnw] at hS1 hG1
 have HG : Hid (Grow (vN A V now) (vN A V nw') (uN rows now) (uN rows nw')) := hG1
 have HX2 : Hid (Xb w1.drew X kd xa xb xn xt xs) := hX1.keep (Aa w1 1)
 have HS2 : Hid (St w1.drew W B s m x nw' va wa nv nw A V rows FP (bd + 10)) := hS1.keep (Aa w1 1)
 have HB2 : Hid (Below B w w1.drew) := (HBd.out.trans hB1).trans ((Aa w1 1).mono hS1.mr.md.lt)
 have HXd : Hid (w1.drew.cell? ⟨X, 1, none⟩ = some (.int .i64 xa) ∧ w1.drew.cell? ⟨X, 2, none⟩ = some (.int .i64 xb)) := ⟨HX2.out.c1, HX2.out.c2⟩
 have x1 := HX2.out.c1
 have x2 := HX2.out.c2
 clear hS1 hG1 hB1 hX1 hw1 hnw hnz HS0 HX0 HSa HBd hfz hfy hc2 hc3 ht0 ht1 hz1 hz2 HW0 HXs
 go_upto_region 2 with fail
 refine Ag 7 (fun w' => w'.cell? ⟨X, 1, none⟩ = some (.int .i64 xa) ∧ w'.cell? ⟨X, 2, none⟩ = some (.int .i64 xb)) [false, false, false, false, false, false, false, false] ?_
 iterate 2
  refine tk (v := ?_) 0 HXd.out ?_ ?_
  rotate_left
  ·(intro w hSw; (try dsimp only at hSw); go_simp; try with_reducible rfl)
  simp only [Act.put, uA, uB, uC]
 iterate 2
  refine tk (v := ?_) 3 HXd.out ?_ ?_
  rotate_left
  ·(intro w hSw; (try dsimp only at hSw); go_simp; try with_reducible rfl)
  simp only [Act.put, uA, uB, uC]
 refine on1 2 fun K hK => ?_
 go_simp
 refine (name_any xa _).mono ?_
 rintro e wt ⟨rfl, da, hda, rfl⟩
 refine hK.out _ _ (fun _ => HXd.out) ?_
 clear hK
 simp only [uA, uB, uC]
 refine on1 5 fun K hK => ?_
 go_simp
 refine (name_any xb _).mono ?_
 rintro e wt ⟨rfl, db, hdb, rfl⟩
 refine hK.out _ _ (fun _ => HXd.out) ?_
 clear hK
 simp only [uA, uB, uC]
 refine tk (v := ?_) 6 HXd.out ?_ ?_
 rotate_left
 ·(intro w hSw; (try dsimp only at hSw); go_simp; try with_reducible rfl)
 simp only [Act.put, uA, uB, uC]
 refine on1 7 fun K hK => ?_
 go_simp
 refine lst hK ?_
 clear hK
 have HA : Hid (nmA da ∈ NM7) := nm7 hda
 have HAb : Hid (nmA db ∈ NM7) := nm7 hdb
 generalize nmA da = a at *
 generalize nmA db = b at *
 obtain ⟨w2, hw2⟩ : ∃ w2, w1.drew = w2 := ⟨_, rfl⟩
 rw [hw2] at HX2 HS2 HB2 x1 x2 ⊢
 have x0 := HX2.out.c0
 clear hw2 hda hdb HXd
 have HBd : Hid (Below w2.heap.size w2 w2.drew) := Aa w2 1
 have HEnd : Hid (∀ w3 c, DoT w2 w3 W B s m x nw' va wa nv nw (vN A V nw') (uN rows nw') c → c ≤ bd + 20 → ∃ now', DoT w w3 W B s m x now' va wa nv nw (vN A V now) (uN rows now) (bd + 20)) := fun w3 c h hc => ⟨nw', h.behind HB2.out HG.out hc⟩
 have HEndD : Hid (∀ w3 c, DoT w2.drew w3 W B s m x nw' va wa nv nw (vN A V nw') (uN rows nw') c → c ≤ bd + 20 → ∃ now', DoT w w3 W B s m x now' va wa nv nw (vN A V now) (uN rows now) (bd + 20)) := fun w3 c h hc => ⟨nw', h.behind (HB2.out.trans (HBd.out.mono HS2.out.mr.md.lt)) HG.out hc⟩
 have HSd : Hid (St w2.drew W B s m x nw' va wa nv nw A V rows FP (bd + 10)) := HS2.out.keep HBd.out
 obtain ⟨l0, l1, l2⟩ := HSd.out.pr.lw.c3
 have HL : Hid (w2.drew.cell? ⟨W, 0, none⟩ = some (ptr s) ∧ w2.drew.cell? ⟨W, 1, none⟩ = some (ptr m) ∧ w2.drew.cell? ⟨W, 2, none⟩ = some (.int .i64 nw')) := ⟨l0, l1, l2⟩
 have hbq : bd + 10 ≤ 1000000 := by have := HBD.out; omega
 obtain ⟨hlo, hlm, hlm2, hln⟩ := HSd.out.low hbq
 have hsa : a.size ≤ 4096 := by have := nm7_sz HA.out; omega
 have hsb : b.size ≤ 4096 := by have := nm7_sz HAb.out; omega
 have hma : a.size ≤ maxLen := by unfold maxLen; omega
 have hmb : b.size ≤ maxLen := by unfold maxLen; omega
 have HLm : Hid (∀ w3, Mb stag B w2.drew w3 → w3.cell? ⟨W, 0, none⟩ = some (ptr s) ∧ w3.cell? ⟨W, 1, none⟩ = some (ptr m) ∧ w3.cell? ⟨W, 2, none⟩ = some (.int .i64 nw')) := fun w3 h => (HSd.out.pr.lw.mv h.mv (by decide) (by decide)).c3
 have HLm2 : Hid (∀ w3 w4, Mb stag B w2.drew w3 → Mb mtag B w3 w4 → w4.cell? ⟨W, 0, none⟩ = some (ptr s) ∧ w4.cell? ⟨W, 1, none⟩ = some (ptr m) ∧ w4.cell? ⟨W, 2, none⟩ = some (.int .i64 nw')) := fun w3 w4 h h4 => ((HSd.out.pr.lw.mv h.mv (by decide) (by decide)).mv h4.mv (by decide) (by decide)).c3
 have HLd : Hid (∀ w3, Mb stag B w2.drew w3 → w3.drew.cell? ⟨W, 0, none⟩ = some (ptr s) ∧ w3.drew.cell? ⟨W, 1, none⟩ = some (ptr m) ∧ w3.drew.cell? ⟨W, 2, none⟩ = some (.int .i64 nw')) := HLm.out
 obtain hk | hk | hk | hk := HK.out
 ·clear HK
  subst hk
  by_cases hab : a = b
  ·have hkb := str_yes hab
   have HP := HSd.out.copyS hbq HA.out
   rw [← hab] at *
   clear hlo hlm hlm2 hln l0 l1 l2 hsa hsb hma hmb hab
   go_upto_region 37 with fail
   refine Ag 15 (fun w' => w'.cell? ⟨W, 0, none⟩ = some (ptr s) ∧ w'.cell? ⟨W, 1, none⟩ = some (ptr m) ∧ w'.cell? ⟨W, 2, none⟩ = some (.int .i64 nw')) [false, false, false, false, false, false, false, false, false, false, false, false, false, false, false, false] ?_
   iterate 10
    refine tk (v := ?_) 0 HL.out ?_ ?_
    rotate_left
    ·(intro w hSw; (try dsimp only at hSw); go_simp; try with_reducible rfl)
    simp only [Act.put, uA, uB, uC]
   refine on1 10 fun K hK => ?_
   go_simp
   refine (HP).mono ?_
   rintro e w3 ⟨rfl, h3⟩
   refine hK.out _ _ (fun _ => (HLm.out _ h3.mb)) ?_
   clear hK
   simp only [uA, uB, uC]
   iterate 4
    refine tk (v := ?_) 11 (HLm.out _ h3.mb) ?_ ?_
    rotate_left
    ·(intro w hSw; (try dsimp only at hSw); go_simp; try with_reducible rfl)
    simp only [Act.put, uA, uB, uC]
   refine on1 15 fun K hK => ?_
   go_simp
   refine lst hK ?_
   clear hK
   have HE := HEndD.out _ _ (HSd.out.alone h3) (by omega)
   clear h3 HLm HLm2 HP
   go_wp2
   go_ret
   exact ⟨rfl, HE⟩
  ·have hkb := str_no hab
   have HP := HSd.out.copyP hbq HA.out HAb.out
   have HM := fun w3 (h : Mb stag B w2.drew w3) => HSd.out.copyM hbq a b (h.trans (Mb.of_below (Aa w3 1) (HSd.out.mr.st h).md.lt))
   have HLm3 : Hid (∀ w3 w4, Mb stag B w2.drew w3 → Mb mtag B w3.drew w4 → w4.cell? ⟨W, 0, none⟩ = some (ptr s) ∧ w4.cell? ⟨W, 1, none⟩ = some (ptr m) ∧ w4.cell? ⟨W, 2, none⟩ = some (.int .i64 nw')) := fun w3 w4 h h4 => (((HSd.out.pr.lw.mv h.mv (by decide) (by decide)).keep (Aa w3 1)).mv h4.mv (by decide) (by decide)).c3
   obtain ⟨bq, HBq⟩ : ∃ bq, Hid (cpq A nw' a b = bq) := ⟨_, rfl⟩
   rw [HBq.out] at HP
   simp only [HBq.out] at HM
   clear hlo hlm hlm2 hln l0 l1 l2 hsa hsb hma hmb hab
   go_upto_region 39 with fail
   refine Ag 15 (fun w' => w'.cell? ⟨W, 0, none⟩ = some (ptr s) ∧ w'.cell? ⟨W, 1, none⟩ = some (ptr m) ∧ w'.cell? ⟨W, 2, none⟩ = some (.int .i64 nw')) [false, false, false, false, false, false, false, false, false, false, false, false, false, false, false, false] ?_
   iterate 10
    refine tk (v := ?_) 0 HL.out ?_ ?_
    rotate_left
    ·(intro w hSw; (try dsimp only at hSw); go_simp; try with_reducible rfl)
    simp only [Act.put, uA, uB, uC]
   refine on1 10 fun K hK => ?_
   go_simp
   refine (HP).mono ?_
   rintro e w3 ⟨rfl, h3⟩
   refine hK.out _ _ (fun _ => (HLm.out _ h3.mb)) ?_
   clear hK
   simp only [uA, uB, uC]
   iterate 4
    refine tk (v := ?_) 11 (HLm.out _ h3.mb) ?_ ?_
    rotate_left
    ·(intro w hSw; (try dsimp only at hSw); go_simp; try with_reducible rfl)
    simp only [Act.put, uA, uB, uC]
   refine on1 15 fun K hK => ?_
   go_simp
   refine lst hK ?_
   clear hK
   have HL3 : Hid (w3.drew.cell? ⟨W, 0, none⟩ = some (ptr s) ∧ w3.drew.cell? ⟨W, 1, none⟩ = some (ptr m) ∧ w3.drew.cell? ⟨W, 2, none⟩ = some (.int .i64 nw')) := HLd.out _ h3.mb
   have HM3 := HM w3 h3.mb
   have H3 : Hid (PC w2.drew w3 B s x nw' A V rows a b) := h3
   have hbb : (bq == bq) = true := by simp
   clear h3 HM HP
   go_upto_region 40 with fail
   refine Ag 17 (fun w' => w'.cell? ⟨W, 0, none⟩ = some (ptr s) ∧ w'.cell? ⟨W, 1, none⟩ = some (ptr m) ∧ w'.cell? ⟨W, 2, none⟩ = some (.int .i64 nw')) [false, false, false, false, false, false, false, false, false, false, false, false, false, false, false, false, false, false] ?_
   iterate 11
    refine tk (v := ?_) 0 HL3.out ?_ ?_
    rotate_left
    ·(intro w hSw; (try dsimp only at hSw); go_simp; try with_reducible rfl)
    simp only [Act.put, uA, uB, uC]
   refine on1 11 fun K hK => ?_
   go_simp
   refine HM3.mono ?_
   rintro e w4 ⟨rfl, hm4, h4⟩
   refine hK.out _ _ (fun _ => HLm3.out _ _ H3.out.mb hm4) ?_
   clear hK
   simp only [uA, uB, uC]
   iterate 5
    refine tk (v := ?_) 12 (HLm3.out _ _ H3.out.mb hm4) ?_ ?_
    rotate_left
    ·(intro w hSw; (try dsimp only at hSw); go_simp; try with_reducible rfl)
    simp only [Act.put, uA, uB, uC]
   refine on1 17 fun K hK => ?_
   go_simp
   refine lst hK ?_
   clear hK
   have HE := HEndD.out _ _ (HSd.out.copyE (by have := HSd.out.t0; have := HSd.out.t1; omega) HAb.out (H3.out.keep (Aa w3 1)) h4) (by omega)
   clear h4 hm4 HLm HLm2 HM3
   go_wp2
   go_ret
   exact ⟨rfl, HE⟩
 ·clear HK
  subst hk
  have HP := HSd.out.touch hbq HA.out
  have HM := fun w3 (h : Mb stag B w2.drew w3) => TouchM_any w3.drew B m rows a nw' ((HSd.out.mr.st h).keep (Aa w3 1)).md hlm HSd.out.oks
  clear hlo hlm hlm2 hln l0 l1 l2 hsa hsb hma hmb
  go_upto_region 42 with fail
  refine Ag 9 (fun w' => w'.cell? ⟨W, 0, none⟩ = some (ptr s) ∧ w'.cell? ⟨W, 1, none⟩ = some (ptr m) ∧ w'.cell? ⟨W, 2, none⟩ = some (.int .i64 nw')) [false, false, false, false, false, false, false, false, false, false] ?_
  iterate 9
   refine tk (v := ?_) 0 HL.out ?_ ?_
   rotate_left
   ·(intro w hSw; (try dsimp only at hSw); go_simp; try with_reducible rfl)
   simp only [Act.put, uA, uB, uC]
  refine on1 9 fun K hK => ?_
  go_simp
  refine (HP).mono ?_
  rintro e w3 ⟨rfl, h3⟩
  refine lst hK ?_
  clear hK
  go_upto_region 43 with fail
  refine Ag 9 (fun w' => w'.cell? ⟨W, 0, none⟩ = some (ptr s) ∧ w'.cell? ⟨W, 1, none⟩ = some (ptr m) ∧ w'.cell? ⟨W, 2, none⟩ = some (.int .i64 nw')) [false, false, false, false, false, false, false, false, false, false] ?_
  iterate 9
   refine tk (v := ?_) 0 (HLd.out _ h3.mb) ?_ ?_
   rotate_left
   ·(intro w hSw; (try dsimp only at hSw); go_simp; try with_reducible rfl)
   simp only [Act.put, uA, uB, uC]
  refine on1 9 fun K hK => ?_
  go_simp
  refine (HM _ h3.mb).mono ?_
  rintro e w4 ⟨rfl, h4⟩
  refine lst hK ?_
  clear hK
  have HE := HEndD.out _ _ (HSd.out.tou (h3.keep (Aa w3 1)) h4) (by omega)
  clear h3 h4 HLm HLm2 HM HP
  go_wp2
  go_ret
  exact ⟨rfl, HE⟩
 ·clear HK
  subst hk
  have hlo2 := HS2.out.low hbq
  have HF := Flush_any w2 B s x NM7 A V HS2.out.pr.spc hlo2.1
  obtain ⟨l0, l1, l2⟩ := HS2.out.pr.lw.c3
  have HLm : Hid (∀ w3, Mb stag B w2 w3 → w3.drew.cell? ⟨W, 0, none⟩ = some (ptr s) ∧ w3.drew.cell? ⟨W, 1, none⟩ = some (ptr m) ∧ w3.drew.cell? ⟨W, 2, none⟩ = some (.int .i64 nw')) := fun w3 h => (HS2.out.pr.lw.mv h.mv (by decide) (by decide)).c3
  have HN := fun w3 (h : Mb stag B w2 w3) => Names_any w3.drew B m rows nw' ((HS2.out.mr.st h).keep (Aa w3 1)).md hlm
  have HF2 := fun w4 (h : Md w4 B m (dueR nw' rows)) => FlushM_any w4 B m (dueR nw' rows) h ((HS2.out.mr.ok.due nw').low (by have := HBD.out; omega)).1
  have HLk : Hid (∀ w4, Lw w4 W s m nw' va wa nv nw → w4.cell? ⟨W, 0, none⟩ = some (ptr s) ∧ w4.cell? ⟨W, 1, none⟩ = some (ptr m) ∧ w4.cell? ⟨W, 2, none⟩ = some (.int .i64 nw')) := fun w4 h => h.c3
  by_cases h3 : xa.tmod 3 = 0
  ·have h3b : (xa.tmod 3 == 0) = true := by simpa using h3
   clear h3 hlo hlm hlm2 hln hsa hsb hma hmb
   go_wp2_with fail
   refine HF.mono ?_
   rintro e w3 ⟨rfl, h3⟩
   go_upto_region 47 with fail
   refine Ag 8 (fun w' => w'.cell? ⟨W, 0, none⟩ = some (ptr s) ∧ w'.cell? ⟨W, 1, none⟩ = some (ptr m) ∧ w'.cell? ⟨W, 2, none⟩ = some (.int .i64 nw')) [false, false, false, false, false, false, false, false, false] ?_
   iterate 8
    refine tk (v := ?_) 0 (HLm.out _ h3.mb) ?_ ?_
    rotate_left
    ·(intro w hSw; (try dsimp only at hSw); go_simp; try with_reducible rfl)
    simp only [Act.put, uA, uB, uC]
   refine on1 8 fun K hK => ?_
   go_simp
   refine (HN _ h3.mb).mono ?_
   rintro e w4 ⟨hT4, a4, n4, c4, rfl, hO4⟩
   refine lst hK ?_
   clear hK
   have HM4 := HF2 _ hT4.md
   obtain ⟨g0, g1, g2⟩ := HLk.out w4 (((HS2.out.pr.lw.mv h3.mb.mv (by decide) (by decide)).keep (Aa w3 1)).mv hT4.mb.mv (by decide) (by decide))
   have HT4 : Hid (MTo w3.drew w4 B m (dueR nw' rows)) := hT4
   have H3 : Hid (FluTo w2 w3.drew B s x NM7 A V) := To.keep h3 (Aa w3 1)
   clear hT4 h3 hO4 HN HF HF2
   go_wp2_with fail
   refine HM4.mono ?_
   rintro e w5 ⟨rfl, h5⟩
   have HE := HEnd.out _ _ (HS2.out.flu H3.out HT4.out h5) (by omega)
   clear h5 HM4
   go_wp2
   go_ret
   exact ⟨rfl, HE⟩
  ·have h3b : (xa.tmod 3 == 0) = false := by simpa using h3
   have HE := HEnd.out _ _ (HS2.out.rest (c := bd + 20) (by omega)) (by omega)
   clear h3 hlo hlm hlm2 hln hsa hsb hma hmb
   go_wp2
   go_ret
   exact ⟨rfl, HE⟩
 ·clear HK
  subst hk
  have HH := Held_any w2 B s x NM7 A V HS2.out.pr.spc
  obtain ⟨l0, l1, l2⟩ := HS2.out.pr.lw.c3
  have HC := fun n => Cycle_any w2.drew B s x NM7 A V HSd.out.pr.spc hlo n nw'
  have HH2 := fun w3 (h : Bo w2.drew w3 B s x NM7 A V nw') => Held_any w3.drew B s x NM7 (dueA A nw') (dueV A V nw') (h.spc.keep (Aa w3 1))
  have HN := fun w3 (h : Mb stag B w2.drew w3) => Names_any w3.drew B m rows nw' ((HSd.out.mr.st h).keep (Aa w3 1)).md hlm
  clear hlo hlm hlm2 hln hsa hsb hma hmb
  go_wp2_with fail
  refine HH.mono ?_
  rintro e w2 ⟨rfl, ks, hks, rfl⟩
  have HKs : Hid (∃ ks', Dom A ks' ∧ ((ks.length : Nat) : Int) = (ks'.length : Nat)) := ⟨ks, hks, rfl⟩
  obtain ⟨n, hn⟩ : ∃ n : Int, ((ks.length : Nat) : Int) = n := ⟨_, rfl⟩
  rw [hn] at HKs ⊢
  clear hks hn HH
  go_upto_region 51 with fail
  refine Ag 10 (fun w' => w'.cell? ⟨W, 0, none⟩ = some (ptr s) ∧ w'.cell? ⟨W, 1, none⟩ = some (ptr m) ∧ w'.cell? ⟨W, 2, none⟩ = some (.int .i64 nw')) [false, false, false, false, false, false, false, false, false, false, false] ?_
  iterate 9
   refine tk (v := ?_) 0 HL.out ?_ ?_
   rotate_left
   ·(intro w hSw; (try dsimp only at hSw); go_simp; try with_reducible rfl)
   simp only [Act.put, uA, uB, uC]
  refine on1 9 fun K hK => ?_
  go_simp
  refine (HC n).mono ?_
  rintro e w3 h3
  obtain ⟨q, rfl, hqn, h3⟩ := cyc_due HKs.out h3
  refine hK.out _ _ (fun _ => (HLm.out _ h3.mb)) ?_
  clear hK
  simp only [uA, uB, uC]
  refine on1 10 fun K hK => ?_
  go_simp
  refine lst hK ?_
  clear hK
  have hq0 : (0 : Int) ≤ (q : Nat) := by omega
  have HT3 : Hid (Bo w2.drew w3 B s x NM7 A V nw') := h3
  have HH3 := HH2 w3 h3
  have HN3 := HN w3 h3.mb
  have hl3 := HLm.out _ h3.mb
  have HL3 : Hid (w3.drew.cell? ⟨W, 0, none⟩ = some (ptr s) ∧ w3.drew.cell? ⟨W, 1, none⟩ = some (ptr m) ∧ w3.drew.cell? ⟨W, 2, none⟩ = some (.int .i64 nw')) := hl3
  clear h3 HH2 HN HC hl3
  go_upto_region 52 with fail
  go_region_held3 (fun w' => w'.cell? ⟨W, 0, none⟩ = some (ptr s) ∧ w'.cell? ⟨W, 1, none⟩ = some (ptr m) ∧ w'.cell? ⟨W, 2, none⟩ = some (.int .i64 nw')) (first | with_reducible exact HL4.out | with_reducible exact HL3.out) (first
   | (go_at_call 64; refine HH3.mono ?_; rintro e wt ⟨rfl, hlr⟩; have hlr2 := HSd.out.held hlr; subst hlr2; clear hlr)
   | (go_at_call 62; refine HN3.mono ?_; rintro e w4 ⟨hT4, a4, n4, c4, rfl, hO4⟩; have HT4 : Hid (MTo w3.drew w4 B m (dueR nw' rows)) := hT4; have HL4 : Hid (w4.cell? ⟨W, 0, none⟩ = some (ptr s) ∧ w4.cell? ⟨W, 1, none⟩ = some (ptr m) ∧ w4.cell? ⟨W, 2, none⟩ = some (.int .i64 nw')) := ((HSd.out.pr.lw.mv (HT3.out.keep (Aa w3 1)).mb.mv (by decide) (by decide)).mv hT4.mb.mv (by decide) (by decide)).c3; have hn4 : (A3 (dueR nw' rows)).length = n4 := Dk.OwnS.len hO4; subst hn4; clear hT4 hO4))
  have HE := HEndD.out _ _ (HSd.out.still (HT3.out.keep (Aa w3 1)) HT4.out) (by omega)
  go_wp2
  go_ret
  exact ⟨rfl, HE⟩
end Go.Proofs.YtmjeljldmmkcpaaGreat.Sq
