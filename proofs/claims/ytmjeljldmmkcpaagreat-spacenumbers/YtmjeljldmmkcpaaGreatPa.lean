/-
 The law's do: Delete, Expire, Persist, Rename.
-/
import Derived.Test.YtmjeljldmmkcpaaGreatK41
namespace Go.Proofs.YtmjeljldmmkcpaaGreat.Sq
open Go.RowKit Go.PlainAid
open Dk (ptr Aa Ac Ad Af OwnR OwnP OwnS Mv)

set_option maxRecDepth 100000 in
set_option maxHeartbeats 4000000 in
theorem do_a (w : World) (W B s m x : Nat) (now : Int) (va wa : Nat) (nv nw : List Int) (A : Ab) (V : BA → Int) (rows : List Kr) (FP : BA → List Nat) (bd : Int) (H : St w W B s m x now va wa nv nw A V rows FP bd) (hW : B ≤ W) (hbd : bd ≤ 900000) (kd xa xb xn xt : Int) (xs : BA) (hk : kd = 2 ∨ kd = 3 ∨ kd = 4 ∨ kd = 5) :
  Calls Tryz.prog 21 #[ptr W, .agg #[.int .i64 kd, .int .i64 xa, .int .i64 xb, .int .i64 xn, .int .i64 xt, .string xs]] w fun e w' => DoE w w' W B s m x va wa nv nw (vN A V now) (uN rows now) (bd + 20) e := by
 obtain ⟨HK, -⟩ : Hid (kd = 2 ∨ kd = 3 ∨ kd = 4 ∨ kd = 5) ∧ True := ⟨hk, trivial⟩
 clear hk
 have hb0 : Below w.heap.size w (w.alloc (.cells #[.int .i64 kd, .int .i64 xa, .int .i64 xb, .int .i64 xn, .int .i64 xt, .string xs] 24)) := Ac w _
 have hx0 := heap_alloc_new w (.cells #[.int .i64 kd, .int .i64 xa, .int .i64 xb, .int .i64 xn, .int .i64 xt, .string xs] 24)
 obtain ⟨w0, hw0⟩ : ∃ w0, w.alloc (.cells #[.int .i64 kd, .int .i64 xa, .int .i64 xb, .int .i64 xn, .int .i64 xt, .string xs] 24) = w0 := ⟨_, rfl⟩
 obtain ⟨X, hX⟩ : ∃ X, w.heap.size = X := ⟨_, rfl⟩
 rw [hw0] at hb0 hx0
 rw [hX] at hx0
 have HW0 : Hid (w.alloc (.cells #[.int .i64 kd, .int .i64 xa, .int .i64 xb, .int .i64 xn, .int .i64 xt, .string xs] 24) = w0) := hw0
 have HXs : Hid (w.heap.size = X) := hX
 have HX0 : Hid (Xb w0.drew X kd xa xb xn xt xs) := (Xb.mk hx0).keep (Aa w0 1)
 have HBd : Hid (Below B w w0.drew) := (hb0.mono H.mr.md.lt).trans ((Aa w0 1).mono (Nat.le_trans H.mr.md.lt hb0.size))
 have HS0 : Hid (St w0.drew W B s m x now va wa nv nw A V rows FP bd) := (H.keep hb0).keep (Aa w0 1)
 have HWB : Hid (B ≤ W) := hW
 have HBD : Hid (bd ≤ 900000) := hbd
 have ht0 := H.t0
 have ht1 := H.t1
 have hfz := HS0.out.pr.lw.fz
 have hfy : w0.frozen? ⟨W, 2, none⟩ = false := hfz
 have HSa : Hid (w0.drew.cell? ⟨W, 2, none⟩ = some (.int .i64 now) ∧ w0.drew.cell? ⟨X, 4, none⟩ = some (.int .i64 xt)) := ⟨HS0.out.pr.lw.c3.2.2, HX0.out.c4⟩
 clear H hw0 hX hx0 hb0 hW hbd
 go_enter Tryz.func21, Tryz.ntmps21
 go_upto_region 1 with fail
 rw [HW0.out, HXs.out]
 refine Ag 11 (fun w' => w'.cell? ⟨W, 2, none⟩ = some (.int .i64 now) ∧ w'.cell? ⟨X, 4, none⟩ = some (.int .i64 xt)) [false, false, false, false, false, false, false, false, false, false, false, false] ?_
 iterate 7
  refine tk (v := ?_) 0 HSa.out ?_ ?_
  rotate_left
  ·(intro w hSw; (try dsimp only at hSw); go_simp; try with_reducible rfl)
  simp only [Act.put, uA, uB, uC]
 refine on1 7 fun K hK => ?_
 go_simp
 refine (Dk.Within_any xt 0 9 _ (by decide) (by decide) (by decide)).mono ?_
 rintro e wt ⟨rfl, z, hz1, hz2, rfl⟩
 refine hK.out _ _ (fun _ => HSa.out) ?_
 clear hK
 simp only [uA, uB, uC]
 iterate 3
  refine tk (v := ?_) 8 HSa.out ?_ ?_
  rotate_left
  ·(intro w hSw; (try dsimp only at hSw); go_simp; try with_reducible rfl)
  simp only [Act.put, uA, uB, uC]
 have hc2 : w0.cell? ⟨W, 2, none⟩ = some (.int .i64 now) := HSa.out.1
 have hc3 := HSa.out.1
 refine on1 11 fun K hK => ?_
 go_simp
 refine lst hK ?_
 clear hK
 have hnz : IntKind.i64.wrap (now + z) = now + z := i64_low (by omega) (by have := HBD.out; omega)
 rw [hnz]
 obtain ⟨w1, hw1⟩ : ∃ w1, (w0.setCell ⟨W, 2, none⟩ (.int .i64 (now + z))).drew = w1 := ⟨_, rfl⟩
 obtain ⟨nw', hnw⟩ : ∃ nw', now + z = nw' := ⟨_, rfl⟩
 obtain ⟨hS1, hG1, hB1, hX1⟩ := HS0.out.tick HWB.out (now' := now + z) (by omega) (c := bd + 10) (by omega) (by omega) HX0.out hw1.symm
 rw [hw1]
 rw [hnw] at hS1 hG1
 have HG : Hid (Grow (vN A V now) (vN A V nw') (uN rows now) (uN rows nw')) := hG1
 have HX2 : Hid (Xb w1.drew X kd xa xb xn xt xs) := hX1.keep (Aa w1 1)
 have HS2 : Hid (St w1.drew W B s m x nw' va wa nv nw A V rows FP (bd + 10)) := hS1.keep (Aa w1 1)
 have HB2 : Hid (Below B w w1.drew) := (HBd.out.trans hB1).trans ((Aa w1 1).mono hS1.mr.md.lt)
 have HXd : Hid (w1.drew.cell? ⟨X, 1, none⟩ = some (.int .i64 xa) ∧ w1.drew.cell? ⟨X, 2, none⟩ = some (.int .i64 xb)) := ⟨HX2.out.c1, HX2.out.c2⟩
 have x1 := HX2.out.c1
 have x2 := HX2.out.c2
 clear hS1 hG1 hB1 hX1 hw1 hnw hnz HS0 HX0 HSa HBd hfz hfy hc2 hc3 ht0 ht1 hz1 hz2 HW0 HXs
 go_upto_region 2 with fail
 refine Ag 7 (fun w' => w'.cell? ⟨X, 1, none⟩ = some (.int .i64 xa) ∧ w'.cell? ⟨X, 2, none⟩ = some (.int .i64 xb)) [false, false, false, false, false, false, false, false] ?_
 iterate 2
  refine tk (v := ?_) 0 HXd.out ?_ ?_
  rotate_left
  ·(intro w hSw; (try dsimp only at hSw); go_simp; try with_reducible rfl)
  simp only [Act.put, uA, uB, uC]
 iterate 2
  refine tk (v := ?_) 3 HXd.out ?_ ?_
  rotate_left
  ·(intro w hSw; (try dsimp only at hSw); go_simp; try with_reducible rfl)
  simp only [Act.put, uA, uB, uC]
 refine on1 2 fun K hK => ?_
 go_simp
 refine (name_any xa _).mono ?_
 rintro e wt ⟨rfl, da, hda, rfl⟩
 refine hK.out _ _ (fun _ => HXd.out) ?_
 clear hK
 simp only [uA, uB, uC]
 refine on1 5 fun K hK => ?_
 go_simp
 refine (name_any xb _).mono ?_
 rintro e wt ⟨rfl, db, hdb, rfl⟩
 refine hK.out _ _ (fun _ => HXd.out) ?_
 clear hK
 simp only [uA, uB, uC]
 refine tk (v := ?_) 6 HXd.out ?_ ?_
 rotate_left
 ·(intro w hSw; (try dsimp only at hSw); go_simp; try with_reducible rfl)
 simp only [Act.put, uA, uB, uC]
 refine on1 7 fun K hK => ?_
 go_simp
 refine lst hK ?_
 clear hK
 have HA : Hid (nmA da ∈ NM7) := nm7 hda
 have HAb : Hid (nmA db ∈ NM7) := nm7 hdb
 generalize nmA da = a at *
 generalize nmA db = b at *
 obtain ⟨w2, hw2⟩ : ∃ w2, w1.drew = w2 := ⟨_, rfl⟩
 rw [hw2] at HX2 HS2 HB2 x1 x2 ⊢
 have x0 := HX2.out.c0
 clear hw2 hda hdb HXd
 have HBd : Hid (Below w2.heap.size w2 w2.drew) := Aa w2 1
 have HEnd : Hid (∀ w3 c, DoT w2 w3 W B s m x nw' va wa nv nw (vN A V nw') (uN rows nw') c → c ≤ bd + 20 → ∃ now', DoT w w3 W B s m x now' va wa nv nw (vN A V now) (uN rows now) (bd + 20)) := fun w3 c h hc => ⟨nw', h.behind HB2.out HG.out hc⟩
 have HEndD : Hid (∀ w3 c, DoT w2.drew w3 W B s m x nw' va wa nv nw (vN A V nw') (uN rows nw') c → c ≤ bd + 20 → ∃ now', DoT w w3 W B s m x now' va wa nv nw (vN A V now) (uN rows now) (bd + 20)) := fun w3 c h hc => ⟨nw', h.behind (HB2.out.trans (HBd.out.mono HS2.out.mr.md.lt)) HG.out hc⟩
 have HSd : Hid (St w2.drew W B s m x nw' va wa nv nw A V rows FP (bd + 10)) := HS2.out.keep HBd.out
 obtain ⟨l0, l1, l2⟩ := HSd.out.pr.lw.c3
 have HL : Hid (w2.drew.cell? ⟨W, 0, none⟩ = some (ptr s) ∧ w2.drew.cell? ⟨W, 1, none⟩ = some (ptr m) ∧ w2.drew.cell? ⟨W, 2, none⟩ = some (.int .i64 nw')) := ⟨l0, l1, l2⟩
 have hbq : bd + 10 ≤ 1000000 := by have := HBD.out; omega
 obtain ⟨hlo, hlm, hlm2, hln⟩ := HSd.out.low hbq
 have hsa : a.size ≤ 4096 := by have := nm7_sz HA.out; omega
 have hsb : b.size ≤ 4096 := by have := nm7_sz HAb.out; omega
 have hma : a.size ≤ maxLen := by unfold maxLen; omega
 have hmb : b.size ≤ maxLen := by unfold maxLen; omega
 have HLm : Hid (∀ w3, Mb stag B w2.drew w3 → w3.cell? ⟨W, 0, none⟩ = some (ptr s) ∧ w3.cell? ⟨W, 1, none⟩ = some (ptr m) ∧ w3.cell? ⟨W, 2, none⟩ = some (.int .i64 nw')) := fun w3 h => (HSd.out.pr.lw.mv h.mv (by decide) (by decide)).c3
 have HLm2 : Hid (∀ w3 w4, Mb stag B w2.drew w3 → Mb mtag B w3 w4 → w4.cell? ⟨W, 0, none⟩ = some (ptr s) ∧ w4.cell? ⟨W, 1, none⟩ = some (ptr m) ∧ w4.cell? ⟨W, 2, none⟩ = some (.int .i64 nw')) := fun w3 w4 h h4 => ((HSd.out.pr.lw.mv h.mv (by decide) (by decide)).mv h4.mv (by decide) (by decide)).c3
 have HLd : Hid (∀ w3, Mb stag B w2.drew w3 → w3.drew.cell? ⟨W, 0, none⟩ = some (ptr s) ∧ w3.drew.cell? ⟨W, 1, none⟩ = some (ptr m) ∧ w3.drew.cell? ⟨W, 2, none⟩ = some (.int .i64 nw')) := HLm.out
 obtain hk | hk | hk | hk := HK.out
 ·clear HK
  subst hk
  have HP := Delete_any w2.drew B s x NM7 A V HSd.out.pr.spc hlo nw' a hma
  have HM := fun w3 (h : Mb stag B w2.drew w3) => DeleteM_any w3 B m rows a nw' (HSd.out.mr.st h).md hlm
  obtain ⟨bq, hq⟩ : ∃ bq, (dueA A nw' a).isSome = bq := ⟨_, rfl⟩
  rw [hq] at HP
  simp only [HSd.out.there a, hq] at HM
  clear hq hlo hlm hlm2 hln l0 l1 l2 hsa hsb hma hmb
  go_upto_region 27 with fail
  refine Ag 21 (fun w' => w'.cell? ⟨W, 0, none⟩ = some (ptr s) ∧ w'.cell? ⟨W, 1, none⟩ = some (ptr m) ∧ w'.cell? ⟨W, 2, none⟩ = some (.int .i64 nw')) [false, false, false, false, false, false, false, false, false, false, false, false, false, false, false, false, false, false, false, false, false, false] ?_
  iterate 9
   refine tk (v := ?_) 0 HL.out ?_ ?_
   rotate_left
   ·(intro w hSw; (try dsimp only at hSw); go_simp; try with_reducible rfl)
   simp only [Act.put, uA, uB, uC]
  iterate 9
   refine tk (v := ?_) 10 HL.out ?_ ?_
   rotate_left
   ·(intro w hSw; (try dsimp only at hSw); go_simp; try with_reducible rfl)
   simp only [Act.put, uA, uB, uC]
  refine on1 9 fun K hK => ?_
  go_simp
  refine HP.mono ?_
  rintro e w3 ⟨rfl, h3⟩
  refine hK.out _ _ (fun _ => HLm.out _ h3.mb) ?_
  clear hK
  simp only [uA, uB, uC]
  refine on1 19 fun K hK => ?_
  go_simp
  refine (HM _ h3.mb).mono ?_
  rintro e w4 ⟨rfl, h4⟩
  refine hK.out _ _ (fun _ => HLm2.out _ _ h3.mb h4.mb) ?_
  clear hK
  simp only [uA, uB, uC]
  refine tk (v := ?_) 20 (HLm2.out _ _ h3.mb h4.mb) ?_ ?_
  rotate_left
  ·(intro w hSw; (try dsimp only at hSw); go_simp; try with_reducible rfl)
  simp only [Act.put, uA, uB, uC]
  refine on1 21 fun K hK => ?_
  go_simp
  refine lst hK ?_
  clear hK
  have HE := HEndD.out _ _ (HSd.out.del HA.out h3 h4) (by omega)
  clear h3 h4 HLm HLm2 HM HP
  go_wp2
  go_ret
  exact ⟨by cases bq <;> rfl, HE⟩
 ·clear HK
  subst hk
  clear HBd HEnd HEndD HSd l0 l1 l2 HL hbq hlo hlm hlm2 hln hsa hsb hma hmb HLm HLm2 HLd
  have HQ3 : Hid (w2.drew.cell? ⟨W, 2, none⟩ = some (.int .i64 nw') ∧ w2.drew.cell? ⟨X, 3, none⟩ = some (.int .i64 xn)) := ⟨(HS2.out.keep (Aa w2 1)).pr.lw.c3.2.2, (HX2.out.keep (Aa w2 1)).c3⟩
  obtain ⟨q2, q3⟩ := HQ3.out
  have hn0 := HS2.out.t0
  have hn1 := HS2.out.t1
  have hbd := HBD.out
  go_upto_region 29 with fail
  refine Ag 8 (fun w' => w'.cell? ⟨W, 2, none⟩ = some (.int .i64 nw') ∧ w'.cell? ⟨X, 3, none⟩ = some (.int .i64 xn)) [false, false, false, false, false, false, false, false, false] ?_
  iterate 6
   refine tk (v := ?_) 0 HQ3.out ?_ ?_
   rotate_left
   ·(intro w hSw; (try dsimp only at hSw); go_simp; try with_reducible rfl)
   simp only [Act.put, uA, uB, uC]
  refine on1 6 fun K hK => ?_
  go_simp
  refine (Dk.Within_any xn (-3) 20 _ (by decide) (by decide) (by decide)).mono ?_
  rintro e wt ⟨rfl, z, hz1, hz2, rfl⟩
  refine hK.out _ _ (fun _ => HQ3.out) ?_
  clear hK
  simp only [uA, uB, uC]
  refine tk (v := ?_) 7 HQ3.out ?_ ?_
  rotate_left
  ·(intro w hSw; (try dsimp only at hSw); go_simp; try with_reducible rfl)
  simp only [Act.put, uA, uB, uC]
  refine on1 8 fun K hK => ?_
  go_simp
  refine lst hK ?_
  clear hK
  have hnz : IntKind.i64.wrap (nw' + z) = nw' + z := by rw [IntKind.wrap_i64]; omega
  (try rw [hnz])
  obtain ⟨u, hu⟩ : ∃ u, nw' + z = u := ⟨_, rfl⟩
  rw [hu]
  clear hnz hu hz1 hz2 q2 q3 hn0 hn1 hbd HQ3
  have HS3 : Hid (St w2.drew W B s m x nw' va wa nv nw A V rows FP (bd + 10)) := HS2.out.keep (Aa w2 1)
  have HB3 : Hid (Below B w w2.drew) := HB2.out.trans ((Aa w2 1).mono HS2.out.mr.md.lt)
  clear x0 x1 x2 HX2 HS2 HB2
  obtain ⟨w3, hw3⟩ : ∃ w3, w2.drew = w3 := ⟨_, rfl⟩
  rw [hw3] at HS3 HB3 ⊢
  clear hw3
  obtain ⟨w2, rfl⟩ : ∃ w2, w2 = w3 := ⟨_, rfl⟩
  have HS2 := HS3
  have HB2 := HB3
  clear HS3 HB3
  have HBd : Hid (Below w2.heap.size w2 w2.drew) := Aa w2 1
  have HEnd : Hid (∀ w3 c, DoT w2 w3 W B s m x nw' va wa nv nw (vN A V nw') (uN rows nw') c → c ≤ bd + 20 → ∃ now', DoT w w3 W B s m x now' va wa nv nw (vN A V now) (uN rows now) (bd + 20)) := fun w3 c h hc => ⟨nw', h.behind HB2.out HG.out hc⟩
  have HEndD : Hid (∀ w3 c, DoT w2.drew w3 W B s m x nw' va wa nv nw (vN A V nw') (uN rows nw') c → c ≤ bd + 20 → ∃ now', DoT w w3 W B s m x now' va wa nv nw (vN A V now) (uN rows now) (bd + 20)) := fun w3 c h hc => ⟨nw', h.behind (HB2.out.trans (HBd.out.mono HS2.out.mr.md.lt)) HG.out hc⟩
  have HSd : Hid (St w2.drew W B s m x nw' va wa nv nw A V rows FP (bd + 10)) := HS2.out.keep HBd.out
  obtain ⟨l0, l1, l2⟩ := HSd.out.pr.lw.c3
  have HL : Hid (w2.drew.cell? ⟨W, 0, none⟩ = some (ptr s) ∧ w2.drew.cell? ⟨W, 1, none⟩ = some (ptr m) ∧ w2.drew.cell? ⟨W, 2, none⟩ = some (.int .i64 nw')) := ⟨l0, l1, l2⟩
  have hbq : bd + 10 ≤ 1000000 := by have := HBD.out; omega
  obtain ⟨hlo, hlm, hlm2, hln⟩ := HSd.out.low hbq
  have hsa : a.size ≤ 4096 := by have := nm7_sz HA.out; omega
  have hsb : b.size ≤ 4096 := by have := nm7_sz HAb.out; omega
  have hma : a.size ≤ maxLen := by unfold maxLen; omega
  have hmb : b.size ≤ maxLen := by unfold maxLen; omega
  have HP := Expire_any w2.drew B s x NM7 A V HSd.out.pr.spc hlo u nw' a HA.out hsa
  have HM := fun w3 (h : Mb stag B w2.drew w3) => ExpireM_any w3 B m rows a u nw' (HSd.out.mr.st h).md hlm2
  obtain ⟨bq, hq⟩ : ∃ bq, (dueA A nw' a).isSome = bq := ⟨_, rfl⟩
  rw [hq] at HP
  simp only [HSd.out.there a, hq] at HM
  have HLm : Hid (∀ w3, Mb stag B w2.drew w3 → w3.cell? ⟨W, 0, none⟩ = some (ptr s) ∧ w3.cell? ⟨W, 1, none⟩ = some (ptr m) ∧ w3.cell? ⟨W, 2, none⟩ = some (.int .i64 nw')) := fun w3 h => (HSd.out.pr.lw.mv h.mv (by decide) (by decide)).c3
  have HLm2 : Hid (∀ w3 w4, Mb stag B w2.drew w3 → Mb mtag B w3 w4 → w4.cell? ⟨W, 0, none⟩ = some (ptr s) ∧ w4.cell? ⟨W, 1, none⟩ = some (ptr m) ∧ w4.cell? ⟨W, 2, none⟩ = some (.int .i64 nw')) := fun w3 w4 h h4 => ((HSd.out.pr.lw.mv h.mv (by decide) (by decide)).mv h4.mv (by decide) (by decide)).c3
  clear hq hlo hlm hlm2 hln l0 l1 l2 hsa hsb hma hmb
  go_upto_region 30 with fail
  refine Ag 23 (fun w' => w'.cell? ⟨W, 0, none⟩ = some (ptr s) ∧ w'.cell? ⟨W, 1, none⟩ = some (ptr m) ∧ w'.cell? ⟨W, 2, none⟩ = some (.int .i64 nw')) [false, false, false, false, false, false, false, false, false, false, false, false, false, false, false, false, false, false, false, false, false, false, false, false] ?_
  iterate 10
   refine tk (v := ?_) 0 HL.out ?_ ?_
   rotate_left
   ·(intro w hSw; (try dsimp only at hSw); go_simp; try with_reducible rfl)
   simp only [Act.put, uA, uB, uC]
  iterate 10
   refine tk (v := ?_) 11 HL.out ?_ ?_
   rotate_left
   ·(intro w hSw; (try dsimp only at hSw); go_simp; try with_reducible rfl)
   simp only [Act.put, uA, uB, uC]
  refine on1 10 fun K hK => ?_
  go_simp
  refine HP.mono ?_
  rintro e w3 ⟨rfl, h3⟩
  refine hK.out _ _ (fun _ => HLm.out _ h3.mb) ?_
  clear hK
  simp only [uA, uB, uC]
  refine on1 21 fun K hK => ?_
  go_simp
  refine (HM _ h3.mb).mono ?_
  rintro e w4 ⟨rfl, h4⟩
  refine hK.out _ _ (fun _ => HLm2.out _ _ h3.mb h4.mb) ?_
  clear hK
  simp only [uA, uB, uC]
  refine tk (v := ?_) 22 (HLm2.out _ _ h3.mb h4.mb) ?_ ?_
  rotate_left
  ·(intro w hSw; (try dsimp only at hSw); go_simp; try with_reducible rfl)
  simp only [Act.put, uA, uB, uC]
  refine on1 23 fun K hK => ?_
  go_simp
  refine lst hK ?_
  clear hK
  have HE := HEndD.out _ _ (HSd.out.exp h3 h4) (by omega)
  clear h3 h4 HLm HLm2 HM HP
  go_wp2
  go_ret
  exact ⟨by cases bq <;> rfl, HE⟩
 ·clear HK
  subst hk
  have HP := Persist_any w2.drew B s x NM7 A V HSd.out.pr.spc hlo nw' a HA.out hsa
  have HM := fun w3 (h : Mb stag B w2.drew w3) => PersistM_any w3 B m rows a nw' (HSd.out.mr.st h).md hlm
  obtain ⟨bq, hq⟩ : ∃ bq, (endOf (dueA A nw' a)).isSome = bq := ⟨_, rfl⟩
  rw [hq] at HP
  simp only [HSd.out.ends a, hq] at HM
  clear hq hlo hlm hlm2 hln l0 l1 l2 hsa hsb hma hmb
  go_upto_region 32 with fail
  refine Ag 21 (fun w' => w'.cell? ⟨W, 0, none⟩ = some (ptr s) ∧ w'.cell? ⟨W, 1, none⟩ = some (ptr m) ∧ w'.cell? ⟨W, 2, none⟩ = some (.int .i64 nw')) [false, false, false, false, false, false, false, false, false, false, false, false, false, false, false, false, false, false, false, false, false, false] ?_
  iterate 9
   refine tk (v := ?_) 0 HL.out ?_ ?_
   rotate_left
   ·(intro w hSw; (try dsimp only at hSw); go_simp; try with_reducible rfl)
   simp only [Act.put, uA, uB, uC]
  iterate 9
   refine tk (v := ?_) 10 HL.out ?_ ?_
   rotate_left
   ·(intro w hSw; (try dsimp only at hSw); go_simp; try with_reducible rfl)
   simp only [Act.put, uA, uB, uC]
  refine on1 9 fun K hK => ?_
  go_simp
  refine HP.mono ?_
  rintro e w3 ⟨rfl, h3⟩
  refine hK.out _ _ (fun _ => HLm.out _ h3.mb) ?_
  clear hK
  simp only [uA, uB, uC]
  refine on1 19 fun K hK => ?_
  go_simp
  refine (HM _ h3.mb).mono ?_
  rintro e w4 ⟨rfl, h4⟩
  refine hK.out _ _ (fun _ => HLm2.out _ _ h3.mb h4.mb) ?_
  clear hK
  simp only [uA, uB, uC]
  refine tk (v := ?_) 20 (HLm2.out _ _ h3.mb h4.mb) ?_ ?_
  rotate_left
  ·(intro w hSw; (try dsimp only at hSw); go_simp; try with_reducible rfl)
  simp only [Act.put, uA, uB, uC]
  refine on1 21 fun K hK => ?_
  go_simp
  refine lst hK ?_
  clear hK
  have HE := HEndD.out _ _ (HSd.out.per h3 h4) (by omega)
  clear h3 h4 HLm HLm2 HM HP
  go_wp2
  go_ret
  exact ⟨by cases bq <;> rfl, HE⟩
 ·clear HK
  subst hk
  have HP := Rename_any w2.drew B s x NM7 A V HSd.out.pr.spc hlo nw' a b HA.out hsa HAb.out hsb
  have HM := fun w3 (h : Mb stag B w2.drew w3) => RenameM_any w3 B m rows a b nw' (HSd.out.mr.st h).md hlm (by omega)
  obtain ⟨bq, hq⟩ : ∃ bq, (dueA A nw' a).isSome = bq := ⟨_, rfl⟩
  rw [hq] at HP
  simp only [HSd.out.there a, hq] at HM
  clear hq hlo hlm hlm2 hln l0 l1 l2 hsa hsb hma hmb
  go_upto_region 34 with fail
  refine Ag 23 (fun w' => w'.cell? ⟨W, 0, none⟩ = some (ptr s) ∧ w'.cell? ⟨W, 1, none⟩ = some (ptr m) ∧ w'.cell? ⟨W, 2, none⟩ = some (.int .i64 nw')) [false, false, false, false, false, false, false, false, false, false, false, false, false, false, false, false, false, false, false, false, false, false, false, false] ?_
  iterate 10
   refine tk (v := ?_) 0 HL.out ?_ ?_
   rotate_left
   ·(intro w hSw; (try dsimp only at hSw); go_simp; try with_reducible rfl)
   simp only [Act.put, uA, uB, uC]
  iterate 10
   refine tk (v := ?_) 11 HL.out ?_ ?_
   rotate_left
   ·(intro w hSw; (try dsimp only at hSw); go_simp; try with_reducible rfl)
   simp only [Act.put, uA, uB, uC]
  refine on1 10 fun K hK => ?_
  go_simp
  refine HP.mono ?_
  rintro e w3 ⟨rfl, h3⟩
  refine hK.out _ _ (fun _ => HLm.out _ h3.mb) ?_
  clear hK
  simp only [uA, uB, uC]
  refine on1 21 fun K hK => ?_
  go_simp
  refine (HM _ h3.mb).mono ?_
  rintro e w4 ⟨rfl, h4⟩
  refine hK.out _ _ (fun _ => HLm2.out _ _ h3.mb h4.mb) ?_
  clear hK
  simp only [uA, uB, uC]
  refine tk (v := ?_) 22 (HLm2.out _ _ h3.mb h4.mb) ?_ ?_
  rotate_left
  ·(intro w hSw; (try dsimp only at hSw); go_simp; try with_reducible rfl)
  simp only [Act.put, uA, uB, uC]
  refine on1 23 fun K hK => ?_
  go_simp
  refine lst hK ?_
  clear hK
  have HE := HEndD.out _ _ (HSd.out.ren (by have := HSd.out.t0; have := HSd.out.t1; omega) HA.out HAb.out h3 h4) (by omega)
  clear h3 h4 HLm HLm2 HM HP
  go_wp2
  go_ret
  exact ⟨by cases bq <;> rfl, HE⟩
end Go.Proofs.YtmjeljldmmkcpaaGreat.Sq
