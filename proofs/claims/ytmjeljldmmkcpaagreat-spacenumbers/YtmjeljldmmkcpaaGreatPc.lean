/-
 The law's do: Put, and Get and change.
-/
import Derived.Test.YtmjeljldmmkcpaaGreatK41
namespace Go.Proofs.YtmjeljldmmkcpaaGreat.Sq
open Go.RowKit Go.PlainAid
open Dk (ptr Aa Ac Ad Af OwnR OwnP OwnS Mv)

set_option maxRecDepth 100000 in
set_option maxHeartbeats 4000000 in
theorem do_c (w : World) (W B s m x : Nat) (now : Int) (va wa : Nat) (nv nw : List Int) (A : Ab) (V : BA → Int) (rows : List Kr) (FP : BA → List Nat) (bd : Int) (H : St w W B s m x now va wa nv nw A V rows FP bd) (hW : B ≤ W) (hbd : bd ≤ 900000) (kd xa xb xn xt : Int) (xs : BA) (hk : kd = 1 ∨ kd ≠ 1 ∧ kd ≠ 2 ∧ kd ≠ 3 ∧ kd ≠ 4 ∧ kd ≠ 5 ∧ kd ≠ 6 ∧ kd ≠ 7 ∧ kd ≠ 8 ∧ kd ≠ 9) :
  Calls Tryz.prog 21 #[ptr W, .agg #[.int .i64 kd, .int .i64 xa, .int .i64 xb, .int .i64 xn, .int .i64 xt, .string xs]] w fun e w' => DoE w w' W B s m x va wa nv nw (vN A V now) (uN rows now) (bd + 20) e := by
 obtain ⟨HK, -⟩ : Hid (kd = 1 ∨ kd ≠ 1 ∧ kd ≠ 2 ∧ kd ≠ 3 ∧ kd ≠ 4 ∧ kd ≠ 5 ∧ kd ≠ 6 ∧ kd ≠ 7 ∧ kd ≠ 8 ∧ kd ≠ 9) ∧ True := ⟨hk, trivial⟩
 clear hk
 have hb0 : Below w.heap.size w (w.alloc (.cells #[.int .i64 kd, .int .i64 xa, .int .i64 xb, .int .i64 xn, .int .i64 xt, .string xs] 24)) := Ac w _
 have hx0 := heap_alloc_new w (.cells #[.int .i64 kd, .int .i64 xa, .int .i64 xb, .int .i64 xn, .int .i64 xt, .string xs] 24)
 obtain ⟨w0, hw0⟩ : ∃ w0, w.alloc (.cells #[.int .i64 kd, .int .i64 xa, .int .i64 xb, .int .i64 xn, .int .i64 xt, .string xs] 24) = w0 := ⟨_, rfl⟩
 obtain ⟨X, hX⟩ : ∃ X, w.heap.size = X := ⟨_, rfl⟩
 rw [hw0] at hb0 hx0
 rw [hX] at hx0
 have HW0 : Hid (w.alloc (.cells #[.int .i64 kd, .int .i64 xa, .int .i64 xb, .int .i64 xn, .int .i64 xt, .string xs] 24) = w0) := hw0
 have HXs : Hid (w.heap.size = X) := hX
 have HX0 : Hid (Xb w0.drew X kd xa xb xn xt xs) := (Xb.mk hx0).keep (Aa w0 1)
 have HBd : Hid (Below B w w0.drew) := (hb0.mono H.mr.md.lt).trans ((Aa w0 1).mono (Nat.le_trans H.mr.md.lt hb0.size))
 have HS0 : Hid (St w0.drew W B s m x now va wa nv nw A V rows FP bd) := (H.keep hb0).keep (Aa w0 1)
 have HWB : Hid (B ≤ W) := hW
 have HBD : Hid (bd ≤ 900000) := hbd
 have ht0 := H.t0
 have ht1 := H.t1
 have hfz := HS0.out.pr.lw.fz
 have hfy : w0.frozen? ⟨W, 2, none⟩ = false := hfz
 have HSa : Hid (w0.drew.cell? ⟨W, 2, none⟩ = some (.int .i64 now) ∧ w0.drew.cell? ⟨X, 4, none⟩ = some (.int .i64 xt)) := ⟨HS0.out.pr.lw.c3.2.2, HX0.out.c4⟩
 clear H hw0 hX hx0 hb0 hW hbd
 go_enter Tryz.func21, Tryz.ntmps21
 go_upto_region 1 with fail
 rw [HW0.out, HXs.out]
 refine Ag 11 (fun w' => w'.cell? ⟨W, 2, none⟩ = some (.int .i64 now) ∧ w'.cell? ⟨X, 4, none⟩ = some (.int .i64 xt)) [false, false, false, false, false, false, false, false, false, false, false, false] ?_
 iterate 7
  refine tk (v := ?_) 0 HSa.out ?_ ?_
  rotate_left
  ·(intro w hSw; (try dsimp only at hSw); go_simp; try with_reducible rfl)
  simp only [Act.put, uA, uB, uC]
 refine on1 7 fun K hK => ?_
 go_simp
 refine (Dk.Within_any xt 0 9 _ (by decide) (by decide) (by decide)).mono ?_
 rintro e wt ⟨rfl, z, hz1, hz2, rfl⟩
 refine hK.out _ _ (fun _ => HSa.out) ?_
 clear hK
 simp only [uA, uB, uC]
 iterate 3
  refine tk (v := ?_) 8 HSa.out ?_ ?_
  rotate_left
  ·(intro w hSw; (try dsimp only at hSw); go_simp; try with_reducible rfl)
  simp only [Act.put, uA, uB, uC]
 have hc2 : w0.cell? ⟨W, 2, none⟩ = some (.int .i64 now) := HSa.out.1
 have hc3 := HSa.out.1
 refine on1 11 fun K hK => ?_
 go_simp
 refine lst hK ?_
 clear hK
 have hnz : IntKind.i64.wrap (now + z) = now + z := i64_low (by omega) (by have := HBD.out; omega)
 rw [hnz]
 obtain ⟨w1, hw1⟩ : ∃ w1, (w0.setCell ⟨W, 2, none⟩ (.int .i64 (now + z))).drew = w1 := ⟨_, rfl⟩
 obtain ⟨nw', hnw⟩ : ∃ nw', now + z = nw' := ⟨_, rfl⟩
 obtain ⟨hS1, hG1, hB1, hX1⟩ := HS0.out.tick HWB.out (now' := now + z) (by omega) (c := bd + 10) (by omega) (by omega) HX0.out hw1.symm
 rw [hw1]
 rw [hnw] at hS1 hG1
 have HG : Hid (Grow (vN A V now) (vN A V nw') (uN rows now) (uN rows nw')) := hG1
 have HX2 : Hid (Xb w1.drew X kd xa xb xn xt xs) := hX1.keep (Aa w1 1)
 have HS2 : Hid (St w1.drew W B s m x nw' va wa nv nw A V rows FP (bd + 10)) := hS1.keep (Aa w1 1)
 have HB2 : Hid (Below B w w1.drew) := (HBd.out.trans hB1).trans ((Aa w1 1).mono hS1.mr.md.lt)
 have HXd : Hid (w1.drew.cell? ⟨X, 1, none⟩ = some (.int .i64 xa) ∧ w1.drew.cell? ⟨X, 2, none⟩ = some (.int .i64 xb)) := ⟨HX2.out.c1, HX2.out.c2⟩
 have x1 := HX2.out.c1
 have x2 := HX2.out.c2
 clear hS1 hG1 hB1 hX1 hw1 hnw hnz HS0 HX0 HSa HBd hfz hfy hc2 hc3 ht0 ht1 hz1 hz2 HW0 HXs
 go_upto_region 2 with fail
 refine Ag 7 (fun w' => w'.cell? ⟨X, 1, none⟩ = some (.int .i64 xa) ∧ w'.cell? ⟨X, 2, none⟩ = some (.int .i64 xb)) [false, false, false, false, false, false, false, false] ?_
 iterate 2
  refine tk (v := ?_) 0 HXd.out ?_ ?_
  rotate_left
  ·(intro w hSw; (try dsimp only at hSw); go_simp; try with_reducible rfl)
  simp only [Act.put, uA, uB, uC]
 iterate 2
  refine tk (v := ?_) 3 HXd.out ?_ ?_
  rotate_left
  ·(intro w hSw; (try dsimp only at hSw); go_simp; try with_reducible rfl)
  simp only [Act.put, uA, uB, uC]
 refine on1 2 fun K hK => ?_
 go_simp
 refine (name_any xa _).mono ?_
 rintro e wt ⟨rfl, da, hda, rfl⟩
 refine hK.out _ _ (fun _ => HXd.out) ?_
 clear hK
 simp only [uA, uB, uC]
 refine on1 5 fun K hK => ?_
 go_simp
 refine (name_any xb _).mono ?_
 rintro e wt ⟨rfl, db, hdb, rfl⟩
 refine hK.out _ _ (fun _ => HXd.out) ?_
 clear hK
 simp only [uA, uB, uC]
 refine tk (v := ?_) 6 HXd.out ?_ ?_
 rotate_left
 ·(intro w hSw; (try dsimp only at hSw); go_simp; try with_reducible rfl)
 simp only [Act.put, uA, uB, uC]
 refine on1 7 fun K hK => ?_
 go_simp
 refine lst hK ?_
 clear hK
 have HA : Hid (nmA da ∈ NM7) := nm7 hda
 have HAb : Hid (nmA db ∈ NM7) := nm7 hdb
 generalize nmA da = a at *
 generalize nmA db = b at *
 obtain ⟨w2, hw2⟩ : ∃ w2, w1.drew = w2 := ⟨_, rfl⟩
 rw [hw2] at HX2 HS2 HB2 x1 x2 ⊢
 have x0 := HX2.out.c0
 clear hw2 hda hdb HXd
 have HBd : Hid (Below w2.heap.size w2 w2.drew) := Aa w2 1
 have HEnd : Hid (∀ w3 c, DoT w2 w3 W B s m x nw' va wa nv nw (vN A V nw') (uN rows nw') c → c ≤ bd + 20 → ∃ now', DoT w w3 W B s m x now' va wa nv nw (vN A V now) (uN rows now) (bd + 20)) := fun w3 c h hc => ⟨nw', h.behind HB2.out HG.out hc⟩
 have HEndD : Hid (∀ w3 c, DoT w2.drew w3 W B s m x nw' va wa nv nw (vN A V nw') (uN rows nw') c → c ≤ bd + 20 → ∃ now', DoT w w3 W B s m x now' va wa nv nw (vN A V now) (uN rows now) (bd + 20)) := fun w3 c h hc => ⟨nw', h.behind (HB2.out.trans (HBd.out.mono HS2.out.mr.md.lt)) HG.out hc⟩
 have HSd : Hid (St w2.drew W B s m x nw' va wa nv nw A V rows FP (bd + 10)) := HS2.out.keep HBd.out
 obtain ⟨l0, l1, l2⟩ := HSd.out.pr.lw.c3
 have HL : Hid (w2.drew.cell? ⟨W, 0, none⟩ = some (ptr s) ∧ w2.drew.cell? ⟨W, 1, none⟩ = some (ptr m) ∧ w2.drew.cell? ⟨W, 2, none⟩ = some (.int .i64 nw')) := ⟨l0, l1, l2⟩
 have hbq : bd + 10 ≤ 1000000 := by have := HBD.out; omega
 obtain ⟨hlo, hlm, hlm2, hln⟩ := HSd.out.low hbq
 have hsa : a.size ≤ 4096 := by have := nm7_sz HA.out; omega
 have hsb : b.size ≤ 4096 := by have := nm7_sz HAb.out; omega
 have hma : a.size ≤ maxLen := by unfold maxLen; omega
 have hmb : b.size ≤ maxLen := by unfold maxLen; omega
 have HLm : Hid (∀ w3, Mb stag B w2.drew w3 → w3.cell? ⟨W, 0, none⟩ = some (ptr s) ∧ w3.cell? ⟨W, 1, none⟩ = some (ptr m) ∧ w3.cell? ⟨W, 2, none⟩ = some (.int .i64 nw')) := fun w3 h => (HSd.out.pr.lw.mv h.mv (by decide) (by decide)).c3
 have HLm2 : Hid (∀ w3 w4, Mb stag B w2.drew w3 → Mb mtag B w3 w4 → w4.cell? ⟨W, 0, none⟩ = some (ptr s) ∧ w4.cell? ⟨W, 1, none⟩ = some (ptr m) ∧ w4.cell? ⟨W, 2, none⟩ = some (.int .i64 nw')) := fun w3 w4 h h4 => ((HSd.out.pr.lw.mv h.mv (by decide) (by decide)).mv h4.mv (by decide) (by decide)).c3
 have HLd : Hid (∀ w3, Mb stag B w2.drew w3 → w3.drew.cell? ⟨W, 0, none⟩ = some (ptr s) ∧ w3.drew.cell? ⟨W, 1, none⟩ = some (ptr m) ∧ w3.drew.cell? ⟨W, 2, none⟩ = some (.int .i64 nw')) := HLm.out
 obtain hk | hk := HK.out
 ·clear HK
  subst hk
  by_cases h5 : xa.tmod 5 = 0
  ·have h5b : (xa.tmod 5 == 0) = true := by simpa using h5
   have HNw := New_l 1 3 9 w2
   have HXc : Hid (∀ wx, Below w2.heap.size w2 wx → wx.cell? ⟨X, 2, none⟩ = some (.int .i64 xb)) := fun wx h => (HX2.out.keep h).c2
   clear h5 l0 l1 l2
   go_wp2_with fail
   refine HNw.mono ?_
   rintro e w3 ⟨hb3, v, F, rfl, hv3⟩
   obtain ⟨l, mo, q, k1, k2⟩ := hv3.ex
   have c4 := k1.cl
   have hvn := eqlV_nil w3 v
   have hqn := eqlQ_nil w3 l
   have HB3 : Hid (Below w2.heap.size w2 w3) := hb3
   have HV3 : Hid (Vl w3 w2.heap.size v [] F) := hv3
   have hb4 : Below w3.heap.size w3 (w3.alloc (.cells #[.int .i64 4, .string ⟨#[]⟩, .slice none 0 0, .slice none 0 0] 107)) := Ac w3 _
   have hn4 := heap_alloc_new w3 (.cells #[.int .i64 4, .string ⟨#[]⟩, .slice none 0 0, .slice none 0 0] 107)
   have HBl : Hid (Bld w2 (w3.alloc (.cells #[.int .i64 4, .string ⟨#[]⟩, .slice none 0 0, .slice none 0 0] 107)) v w3.heap.size [] F none 0 0 []) := ⟨hb3.trans (hb4.mono hb3.size), hv3.keep hb4, hn4, OwnR.nil _ _ _ _, hb3.size⟩
   have hx4 := HXc.out _ HBl.out.be
   obtain ⟨w4, HW4⟩ : ∃ w4, Hid (w3.alloc (.cells #[.int .i64 4, .string ⟨#[]⟩, .slice none 0 0, .slice none 0 0] 107) = w4) := ⟨_, rfl⟩
   obtain ⟨M, HMz⟩ : ∃ M, Hid (w3.heap.size = M) := ⟨_, rfl⟩
   rw [HW4.out, HMz.out] at HBl
   clear HNw hb3 hv3 k1 k2 hb4 hn4
   go_wp2_with fail
   rw [HW4.out, HMz.out]
   refine (Dk.Within_any xb 0 3 _ (by decide) (by decide) (by decide)).mono ?_
   rintro e w4 ⟨rfl, z3, hz1, hz2, rfl⟩
   obtain ⟨zk, rfl⟩ : ∃ zk : Nat, z3 = (zk : Nat) := ⟨z3.toNat, by omega⟩
   have HZk : Hid (zk ≤ 3) := by show _ ≤ _; omega
   have HFt : Hid (Fit [a]) := by
    intro t ht
    rw [List.mem_singleton] at ht
    subst ht
    exact hsa
   clear hz1 hz2 hx4 c4 hvn hqn HW4 HMz HB3 HV3 HXc x0 x1 x2 h5b
   go_wp2
   go_loopg [9] zk (fun g iv wr => ∃ (j : Nat) (F : List Nat) (la : Option Addr) (c : Nat), j + g = zk ∧ iv = .int .i64 (g : Nat) ∧ Hid (Bld w2 wr v M (List.replicate j a) F la j c (List.replicate j a)))
   case atStart => exact ⟨0, F, none, 0, by omega, rfl, HBl⟩
   case round =>
    obtain ⟨j, F, la, c, hj, rfl, HBl⟩ := hrel
    by_cases h8 : (0 : Int) < (gk : Nat)
    ·obtain ⟨l, mo, q, k1, k2⟩ := HBl.out.vl.ex
     have c4 := k1.cl
     have hba : Below wr.heap.size wr (wr.alloc (.cells #[.string a] 9)) := Ac wr _
     have hfar := HBl.out.far a
     obtain ⟨wb, HWb⟩ : ∃ wb, Hid (wr.alloc (.cells #[.string a] 9) = wb) := ⟨_, rfl⟩
     obtain ⟨nb, HNb⟩ : ∃ nb, Hid (wr.heap.size = nb) := ⟨_, rfl⟩
     rw [HWb.out] at hba hfar
     have HB1 : Hid (Bld w2 wb v M (List.replicate j a) F la j c (List.replicate j a)) := HBl.out.keep hba
     rw [HNb.out] at hfar
     have hz3 := HZk.out
     have HRt := VRight wb w2.heap.size l mo q (List.replicate j a) F (k2.keep (by rw [← HWb.out]; exact Ac wr _)) (some ⟨nb, 0, none⟩) 1 1 [a] hfar HFt.out (by rw [List.length_replicate]; omega)
     have HRg : Hid (∀ w5, VDoes wb w2.heap.size l mo (List.replicate j a ++ [a]) F w5 → ∃ F', Bld w2 w5 v M (List.replicate (j + 1) a) F' la j c (List.replicate j a)) := fun w5 h => by
      have e : List.replicate (j + 1) a = List.replicate j a ++ [a] := List.replicate_succ'
      rw [e]
      exact HB1.out.right (k1.keep (by rw [← HWb.out]; exact Ac wr _)) (k2.keep (by rw [← HWb.out]; exact Ac wr _)) h
     have HJ : Hid (j + gk = zk) := hj
     clear k1 k2 hba hfar hz3 hj HBl
     go_wp2_with fail
     rw [HWb.out, HNb.out]
     refine HRt.mono ?_
     rintro e w5 ⟨rfl, h5⟩
     obtain ⟨F5, hB5⟩ := HRg.out w5 h5
     have m3 := hB5.cells.2.2.2
     have HB6 : Hid (Bld w2 (w5.alloc (.cells #[.string a] 9)) v M (List.replicate (j + 1) a) F5 la j c (List.replicate j a)) := hB5.keep (Ac w5 _)
     have hj3 : j + 1 ≤ 1000000 := by have := HZk.out; have := HJ.out; omega
     have HAp : Hid (∀ w7 a7 n7 c7, (w5.alloc (.cells #[.string a] 9)).grownBy w7 (la.map (·.block)) → OwnS w7 w2.heap.size a7 n7 c7 (List.replicate j a ++ [a]) → n7 = j + 1 → (w7.cell? ⟨M, 3, none⟩ = some (.slice la j c) ∧ w7.frozen? ⟨M, 3, none⟩ = false) ∧ Bld w2 (w7.setCell ⟨M, 3, none⟩ (.slice a7 n7 c7)) v M (List.replicate (j + 1) a) F5 a7 (j + 1) c7 (List.replicate (j + 1) a)) := fun w7 a7 n7 c7 hg ho hn => by
      have hM7 : w7.heap[M]? = some (.cells #[.int .i64 4, .string ⟨#[]⟩, .slice none 0 0, .slice la j c] 107 (0, 0)) := by rw [(grown_mv HB6.out.ow hg).block M _ _ HB6.out.mb (by decide)]; exact HB6.out.mb
      refine ⟨⟨by simp [World.cell?, hM7], by simp [World.frozen?, hM7]⟩, ?_⟩
      subst hn
      have e : List.replicate (j + 1) a = List.replicate j a ++ [a] := List.replicate_succ'
      have h := HB6.out.app hg ho rfl
      rw [← e] at h
      exact h
     clear h5 hB5 HRt HRg HB1 c4 HWb HNb
     go_wp2_with (at_builtin; refine Dk.append_s rfl (.tmp 161) (.tmp 163) rfl w2.heap.size rfl HB6.out.ow rfl (by simp; rfl) hj3 HB6.out.be.size ?_; intro a7 n7 c7 w7 hn7 HO7 HG7 _; obtain ⟨⟨m7, f7⟩, hB7⟩ := HAp.out w7 a7 n7 c7 HG7.out HO7.out hn7; have HB7 : Hid (Bld w2 (w7.setCell ⟨M, 3, none⟩ (.slice a7 n7 c7)) v M (List.replicate (j + 1) a) F5 a7 (j + 1) c7 (List.replicate (j + 1) a)) := hB7; clear hB7)
     go_roundg (gk - 1)
     case measure => omega
     case rel => subst hn7; exact ⟨j + 1, F5, a7, c7, by have := HJ.out; omega, by have h1 := HJ.out; have h2 := HZk.out; rw [show wrap64 ((gk : Nat) - 1) = ((gk - 1 : Nat) : Int) by unfold wrap64; omega], HB7⟩
    ·have hgz : gk = 0 := by omega
     subst hgz
     have hjz : j = zk := by omega
     subst hjz
     have HSr := HS2.out.putL hbq HA.out (HBl.out.keep (Aa wr 1)) HZk.out
     have HLr : Hid (w2.heap.size ≤ wr.heap.size) := HBl.out.be.size
     have HLw : Hid (Lw wr.drew W s m nw' va wa nv nw) := (HS2.out.pr.lw.keep HBl.out.be).keep (Aa wr 1)
     obtain ⟨q1, q2, q3, q4⟩ := (HBl.out.keep (Aa wr 1)).cells
     have HSs : Hid (wr.drew.cell? ⟨W, 1, none⟩ = some (ptr m) ∧ wr.drew.cell? ⟨W, 2, none⟩ = some (.int .i64 nw') ∧ wr.drew.cell? ⟨M, 0, none⟩ = some (.int .i64 4) ∧ wr.drew.cell? ⟨M, 1, none⟩ = some (.string ⟨#[]⟩) ∧ wr.drew.cell? ⟨M, 2, none⟩ = some (.slice none 0 0) ∧ wr.drew.cell? ⟨M, 3, none⟩ = some (.slice la j c)) := ⟨HLw.out.c3.2.1, HLw.out.c3.2.2, q1, q2, q3, q4⟩
     clear hj q1 q2 q3 q4 HBl
     go_upto_region 21 with fail
     refine Ag 10 (fun w' => w'.cell? ⟨W, 1, none⟩ = some (ptr m) ∧ w'.cell? ⟨W, 2, none⟩ = some (.int .i64 nw') ∧ w'.cell? ⟨M, 0, none⟩ = some (.int .i64 4) ∧ w'.cell? ⟨M, 1, none⟩ = some (.string ⟨#[]⟩) ∧ w'.cell? ⟨M, 2, none⟩ = some (.slice none 0 0) ∧ w'.cell? ⟨M, 3, none⟩ = some (.slice la j c)) [false, false, false, false, false, false, false, false, false, false, false] ?_
     iterate 10
      refine tk (v := ?_) 0 HSs.out ?_ ?_
      rotate_left
      ·(intro w hSw; (try dsimp only at hSw); go_simp; try with_reducible rfl)
      simp only [Act.put, uA, uB, uC]
     refine on1 10 fun K hK => ?_
     go_simp
     refine (HSr).mono ?_
     rintro e w6 ⟨rfl, hm6, hs6⟩
     refine lst hK ?_
     clear hK
     have HL6 : Hid (w6.drew.cell? ⟨W, 0, none⟩ = some (ptr s) ∧ w6.drew.cell? ⟨W, 1, none⟩ = some (ptr m) ∧ w6.drew.cell? ⟨W, 2, none⟩ = some (.int .i64 nw')) := (HLw.out.mv hm6.mv (by decide) (by decide)).c3
     have HLv : Hid (∀ w7, Mb stag B w6.drew w7 → w7.cell? ⟨W, 0, none⟩ = some (ptr s) ∧ w7.cell? ⟨W, 1, none⟩ = some (ptr m) ∧ w7.cell? ⟨W, 2, none⟩ = some (.int .i64 nw')) := fun w7 h => (((HLw.out.mv hm6.mv (by decide) (by decide)).keep (Aa w6 1)).mv h.mv (by decide) (by decide)).c3
     have HPv := hs6 w6.drew (Aa w6 1)
     clear hm6 hs6
     go_upto_region 22 with fail
     refine Ag 12 (fun w' => w'.cell? ⟨W, 0, none⟩ = some (ptr s) ∧ w'.cell? ⟨W, 1, none⟩ = some (ptr m) ∧ w'.cell? ⟨W, 2, none⟩ = some (.int .i64 nw')) [false, false, false, false, false, false, false, false, false, false, false, false, false] ?_
     iterate 10
      refine tk (v := ?_) 0 HL6.out ?_ ?_
      rotate_left
      ·(intro w hSw; (try dsimp only at hSw); go_simp; try with_reducible rfl)
      simp only [Act.put, uA, uB, uC]
     refine on1 10 fun K hK => ?_
     go_simp
     refine (HPv).mono ?_
     rintro e w7 ⟨rfl, hm7, hd7⟩
     refine hK.out _ _ (fun _ => (HLv.out _ hm7)) ?_
     clear hK
     simp only [uA, uB, uC]
     refine tk (v := ?_) 11 (HLv.out _ hm7) ?_ ?_
     rotate_left
     ·(intro w hSw; (try dsimp only at hSw); go_simp; try with_reducible rfl)
     simp only [Act.put, uA, uB, uC]
     refine on1 12 fun K hK => ?_
     go_simp
     refine lst hK ?_
     clear hK
     have HE := HEnd.out _ _ hd7 (by omega)
     clear hm7 hd7 HPv
     go_wp2
     go_ret
     exact ⟨rfl, HE⟩
  ·have h5b : (xa.tmod 5 == 0) = false := by simpa using h5
   have x5 := HX2.out.c5
   have HCt := Dk.Cut_any xs 20 w2 (by decide)
   obtain ⟨t, ht⟩ : ∃ t, Dk.cutB xs 20 = t := ⟨_, rfl⟩
   rw [ht] at HCt
   have HPm := PutM_full w2.drew B m rows a 1 t none 0 none 0 0 [] nw' HSd.out.mr.md hlm (by omega) (RdL.nil _) (by omega) (fun wx => EmptyM_txt wx t none 0 none 0 0)
   have HPu := fun w3 w4 v (h : Mb mtag B w2.drew w3) (hb : Below w3.drew.heap.size w3.drew w4) (hv : Vt w4 v t) => Put_any w4 B s x NM7 A V (((HSd.out.pr.mt h).keep (Aa w3 1)).keep hb).spc hlo nw' a HA.out hsa (some ⟨v, 0, none⟩) (Empty_t w4 v t hv)
   have HLq : Hid (∀ w3, Mb mtag B w2.drew w3 → Lw w3.drew W s m nw' va wa nv nw) := fun w3 h => ((HSd.out.pr.mt h).keep (Aa w3 1)).lw
   clear h5 ht hlo hlm hlm2 hln l0 l1 l2 hsa hsb hma hmb
   go_wp2_with fail
   refine HCt.mono ?_
   rintro e w2 ⟨rfl, rfl⟩
   go_upto_region 24 with fail
   refine Ag 11 (fun w' => w'.cell? ⟨W, 0, none⟩ = some (ptr s) ∧ w'.cell? ⟨W, 1, none⟩ = some (ptr m) ∧ w'.cell? ⟨W, 2, none⟩ = some (.int .i64 nw')) [false, false, false, false, false, false, false, false, false, false, false, false] ?_
   iterate 11
    refine tk (v := ?_) 0 HL.out ?_ ?_
    rotate_left
    ·(intro w hSw; (try dsimp only at hSw); go_simp; try with_reducible rfl)
    simp only [Act.put, uA, uB, uC]
   refine on1 11 fun K hK => ?_
   go_simp
   refine (HPm).mono ?_
   rintro e w3 ⟨rfl, pa, pc, la, lc, h3⟩
   refine lst hK ?_
   clear hK
   have HOf := OfText_t t w3.drew
   have HL3 : Hid (w3.drew.cell? ⟨W, 0, none⟩ = some (ptr s) ∧ w3.drew.cell? ⟨W, 1, none⟩ = some (ptr m) ∧ w3.drew.cell? ⟨W, 2, none⟩ = some (.int .i64 nw')) := (HLq.out _ h3.mb).c3
   go_upto_region 25 with fail
   refine Ag 13 (fun w' => w'.cell? ⟨W, 0, none⟩ = some (ptr s) ∧ w'.cell? ⟨W, 1, none⟩ = some (ptr m) ∧ w'.cell? ⟨W, 2, none⟩ = some (.int .i64 nw')) [false, false, false, false, false, false, false, false, false, false, false, false, false, false] ?_
   iterate 6
    refine tk (v := ?_) 0 HL3.out ?_ ?_
    rotate_left
    ·(intro w hSw; (try dsimp only at hSw); go_simp; try with_reducible rfl)
    simp only [Act.put, uA, uB, uC]
   iterate 4
    refine tk (v := ?_) 7 HL3.out ?_ ?_
    rotate_left
    ·(intro w hSw; (try dsimp only at hSw); go_simp; try with_reducible rfl)
    simp only [Act.put, uA, uB, uC]
   refine on1 6 fun K hK => ?_
   go_simp
   refine HOf.mono ?_
   rintro e w4 ⟨hb4, v, rfl, hv4⟩
   refine hK.out _ _ (fun _ => ((HLq.out _ h3.mb).keep hb4).c3) ?_
   clear hK
   simp only [uA, uB, uC]
   refine on1 11 fun K hK => ?_
   go_simp
   refine (HPu w3 w4 v h3.mb hb4 hv4).mono ?_
   rintro e w5 ⟨rfl, h5⟩
   refine hK.out _ _ (fun _ => (((HLq.out _ h3.mb).keep hb4).mv h5.mb.mv (by decide) (by decide)).c3) ?_
   clear hK
   simp only [uA, uB, uC]
   refine tk (v := ?_) 12 (((HLq.out _ h3.mb).keep hb4).mv h5.mb.mv (by decide) (by decide)).c3 ?_ ?_
   rotate_left
   ·(intro w hSw; (try dsimp only at hSw); go_simp; try with_reducible rfl)
   simp only [Act.put, uA, uB, uC]
   refine on1 13 fun K hK => ?_
   go_simp
   refine lst hK ?_
   clear hK
   have hV : IsV w4 w2.drew.heap.size v (if (1 : Int) = 1 then .txt t else .lst []) [] := ⟨hv4, rfl⟩
   have HE := HEndD.out _ _ (HSd.out.put (by have := HSd.out.t0; have := HSd.out.t1; omega) HA.out (.inl rfl) (by omega) (Below.refl _ _) (h3.keep (Aa w3 1)) hb4 (Nat.le_refl _) hV (fun y hy => by cases hy) h5) (by omega)
   clear h3 h5 hb4 hv4 hV HOf HPu HPm
   go_wp2
   go_ret
   exact ⟨rfl, HE⟩
 ·obtain ⟨j1, j2, j3, j4, j5, j6, j7, j8, j9⟩ := hk
  clear HK
  have i1 := beq_no j1
  have i2 := beq_no j2
  have i3 := beq_no j3
  have i4 := beq_no j4
  have i5 := beq_no j5
  have i6 := beq_no j6
  have i7 := beq_no j7
  have i8 := beq_no j8
  have i9 := beq_no j9
  have HP := Get_any w2.drew B s x NM7 A V HSd.out.pr.spc hlo nw' a hma
  have HM := fun w3 (h : Mb stag B w2.drew w3) => At_any w3 B m rows a nw' (HSd.out.mr.st h).md hlm
  have HAl : Hid (∀ w3 w4, Bo w2.drew w3 B s x NM7 A V nw' → MTo w3 w4 B m (dueR nw' rows) → Al w4 W B s m x nw' va wa nv nw (dueA A nw') (dueV A V nw') (dueR nw' rows) FP) := fun w3 w4 h h4 => HSd.out.al1 h h4
  have HSt := HSd.out.stl (by have := HBD.out; omega)
  clear hlo hlm hlm2 hln l0 l1 l2 hsa hsb hma hmb j1 j2 j3 j4 j5 j6 j7 j8 j9
  go_upto_region 4 with fail
  refine Ag 21 (fun w' => w'.cell? ⟨W, 0, none⟩ = some (ptr s) ∧ w'.cell? ⟨W, 1, none⟩ = some (ptr m) ∧ w'.cell? ⟨W, 2, none⟩ = some (.int .i64 nw')) [false, false, false, false, false, false, false, false, false, false, false, false, false, false, false, false, false, false, false, false, false, false] ?_
  iterate 9
   refine tk (v := ?_) 0 HL.out ?_ ?_
   rotate_left
   ·(intro w hSw; (try dsimp only at hSw); go_simp; try with_reducible rfl)
   simp only [Act.put, uA, uB, uC]
  iterate 9
   refine tk (v := ?_) 10 HL.out ?_ ?_
   rotate_left
   ·(intro w hSw; (try dsimp only at hSw); go_simp; try with_reducible rfl)
   simp only [Act.put, uA, uB, uC]
  refine on1 9 fun K hK => ?_
  go_simp
  refine HP.mono ?_
  rintro e w3 ⟨rfl, h3⟩
  refine hK.out _ _ (fun _ => HLm.out _ h3.mb) ?_
  clear hK
  simp only [uA, uB, uC]
  refine on1 19 fun K hK => ?_
  go_simp
  refine (HM _ h3.mb).mono ?_
  rintro e w4 ⟨h4, hat⟩
  obtain ⟨zi, rfl, haz⟩ := hat.int
  clear hat
  have HE0 := HEndD.out _ _ (HSd.out.still h3 h4) (by omega)
  have HB4 : Hid (Below B w w4) := (HB2.out.trans (HBd.out.mono HS2.out.mr.md.lt)).trans (h3.mb.be.trans h4.mb.be)
  have hAl := HAl.out _ _ h3 h4
  have HA4 : Hid (Al w4 W B s m x nw' va wa nv nw (dueA A nw') (dueV A V nw') (dueR nw' rows) FP) := hAl
  have HS4 : Hid (Stl nw' (dueA A nw') (dueV A V nw') (dueR nw' rows) (bd + 10 + 1)) := HSt
  have HL4 : Hid (w4.cell? ⟨W, 0, none⟩ = some (ptr s) ∧ w4.cell? ⟨W, 1, none⟩ = some (ptr m) ∧ w4.cell? ⟨W, 2, none⟩ = some (.int .i64 nw')) := HLm2.out _ _ h3.mb h4.mb
  have HT0 : Hid (0 ≤ nw' ∧ nw' ≤ bd + 10) := ⟨HSd.out.t0, HSd.out.t1⟩
  clear h3 h4 HLm HLm2 HM HP HAl HSt HSd HL HS2 HB2 HX2 x0 x1 x2 HEnd HEndD
  refine hK.out _ _ (fun _ => HL4.out) ?_
  clear hK
  simp only [uA, uB, uC]
  refine tk (v := ?_) 20 HL4.out ?_ ?_
  rotate_left
  ·(intro w hSw; (try dsimp only at hSw); go_simp; try with_reducible rfl)
  simp only [Act.put, uA, uB, uC]
  refine on1 21 fun K hK => ?_
  go_simp
  refine lst hK ?_
  clear hK
  rcases haz with ⟨i, r, rfl, hr, hk, hth⟩ | ⟨rfl, hno⟩
  ·rcases (HS4.out.ok r (List.mem_of_getElem? hr)).ok hth with hkd | ⟨hkd, hln⟩
   ·obtain ⟨p, u, k1, k2⟩ := hAl.txt hr hk hth hkd
    rw [show valOf (dueA A nw' a) = some ⟨p, 0, none⟩ by rw [k1]; rfl]
    have c0 := k2.ck
    have hvn := neqV_nil w4 p
    have hi0 : (0 : Int) ≤ (i : Nat) := by omega
    clear hr hk hth hkd k1 k2 hAl
    go_wp2
    go_ret
    exact ⟨rfl, HE0⟩
   ·obtain ⟨p, l, mo, q, k1, k2, k3, k4, k5, k6, k7⟩ := hAl.lst HS4.out hr hk hth hkd
    rw [show valOf (dueA A nw' a) = some ⟨p, 0, none⟩ by rw [k1]; rfl]
    have c0 := k3.ck
    have c4 := k3.cl
    have hvn := neqV_nil w4 p
    have hqn := neqQ_nil w4 l
    have hi0 : (0 : Int) ≤ (i : Nat) := by omega
    have HPp := VPopLeft w4 B l mo q r.ls (FP a) k4 (by omega)
    have HPo : Hid (∀ w5, VDoes w4 B l mo r.ls.tail (FP a) w5 → Below B w4 w5 ∧ Mv ltag w4 w5 ∧ ∃ FP', Vals w5 B (dueA A nw') (setA (mA (dueR nw' rows)) a (some (.lst r.ls.tail, if r.en then some r.at' else none))) FP') := fun w5 h5 => by
     obtain ⟨g1, g2⟩ := hAl.vals.pop (mA_pop hAl.md.nod hr hk hth hkd none).1 k1 k2 k3 k4 h5
     exact ⟨VDoes.below k4 h5, g1, g2⟩
    have HR : Hid ((dueR nw' rows)[i]? = some r ∧ r.nm = a ∧ r.th = true ∧ r.kd = 4 ∧ 0 < r.ln ∧ r.ln ≤ 100) := ⟨hr, hk, hth, hkd, k6, k7⟩
    clear hr hk hth hkd k1 k2 k3 k4 k5 k6 k7 hAl hln HE0
    go_wp2_with fail
    refine HPp.mono ?_
    rintro e w5 ⟨rfl, h5⟩
    obtain ⟨hb5, hm5, FP5, hv5⟩ := HPo.out w5 h5
    have hlw5 : Lw w5 W s m nw' va wa nv nw := HA4.out.lw.mv hm5 (by decide) (by decide)
    have hmd5 : Md w5 B m (dueR nw' rows) := HA4.out.md.mv hm5 (by decide) (by decide) (by decide)
    have HV5 : Hid (Vals w5 B (dueA A nw') (setA (mA (dueR nw' rows)) a (some (.lst r.ls.tail, if r.en then some r.at' else none))) FP5) := hv5
    have HB5 : Hid (Below B w4 w5 ∧ Mv ltag w4 w5) := ⟨hb5, hm5⟩
    have HMd5 : Hid (Md w5 B m (dueR nw' rows)) := hmd5
    have HLw5 : Hid (Lw w5 W s m nw' va wa nv nw) := hlw5
    have HSp5 : Hid (Spc w5 B s x NM7 (dueA A nw') (dueV A V nw')) := HA4.out.spc.mv hm5 off_ls.off
    obtain ⟨hr, hk, hth, hkd, hl0, hl1⟩ := HR.out
    obtain ⟨g, cc, b5, off, hla, hpt, hrl⟩ := Pth.mk' hlw5 hmd5 hr hl0
    have hlc := hrl.fit
    have hlx := hrl.max
    have hil := B1 hr
    have hfew := hmd5.few
    have hvr := hmd5.vle r (List.mem_of_getElem? hr)
    obtain ⟨n, hn⟩ : ∃ n, (dueR nw' rows).length = n := ⟨_, rfl⟩
    rw [hn] at hpt hil hfew
    have HPt : Hid (Pth w5 W m g n cc i b5 off r.ln r.lc) := hpt
    have HS5 : Hid (w5.drew.cell? ⟨W, 1, none⟩ = some (ptr m) ∧ w5.drew.cell? ⟨m, 0, none⟩ = some (.slice (some ⟨g, 0, none⟩) n cc) ∧ w5.drew.cell? ⟨g, i * 9 + 5, none⟩ = some (.slice (some ⟨b5, off, none⟩) r.ln r.lc)) := ⟨hpt.w1, hpt.m0, hpt.g5⟩
    have hfz5 : w5.frozen? ⟨g, i * 9 + 5, none⟩ = false := hpt.fz
    have hg5 : w5.cell? ⟨g, i * 9 + 5, none⟩ = some (.slice (some ⟨b5, off, none⟩) r.ln r.lc) := hpt.g5
    have HOut : Hid (∀ w6, w6 = w5.setCell ⟨g, i * 9 + 5, none⟩ (.slice (adv b5 off r.lc) (r.ln - 1) (r.lc - 1)) → Md w6 B m ((dueR nw' rows).set i (popK r (adv b5 off r.lc))) ∧ Mb mtag B w5 w6) := fun w6 h6 => Pth.out HMd5.out hr hla hl0 HPt.out hn hvr h6
    have hiz : (i : Int) < n := by omega
    have hi9 : i * 9 ≤ 9000 := by omega
    have hneg : decide ((i : Int) < 0) = false := decide_eq_false (by omega)
    clear hr hk hth hkd hla hpt hrl hil hvr hn h5 hb5 hm5 hv5 hlw5 hmd5 HPp HPo c0 c4 hvn hqn hi0
    generalize r.ln = ln at *
    generalize r.lc = lc at *
    have hl1i : (1 : Int) ≤ (ln : Nat) := by omega
    obtain ⟨la5, hla5⟩ : ∃ la5, adv b5 off lc = la5 := ⟨_, rfl⟩
    rw [hla5] at HOut
    have hla6 : (if lc = 1 then some (⟨b5, off, none⟩ : Addr) else some ⟨b5, off + 1, none⟩) = la5 := hla5
    clear hla5
    go_upto_region 7 with fail
    refine Ag 24 (fun w' => w'.cell? ⟨W, 1, none⟩ = some (ptr m) ∧ w'.cell? ⟨m, 0, none⟩ = some (.slice (some ⟨g, 0, none⟩) n cc) ∧ w'.cell? ⟨g, i * 9 + 5, none⟩ = some (.slice (some ⟨b5, off, none⟩) ln lc)) [false, false, false, false, false, false, false, false, false, false, false, false, false, false, false, false, false, false, false, false, false, false, false, false, false] ?_
    iterate 24
     refine tk (v := ?_) 0 HS5.out ?_ ?_
     rotate_left
     ·(intro w hSw; (try dsimp only at hSw); go_simp; try with_reducible rfl)
     simp only [Act.put, uA, uB, uC]
    refine on1 24 fun K hK => ?_
    go_simp
    refine lst hK ?_
    clear hK
    obtain ⟨hd6, hm6⟩ := HOut.out _ rfl
    obtain ⟨w6, hw6⟩ : ∃ w6, (w5.setCell ⟨g, i * 9 + 5, none⟩ (.slice la5 (ln - 1) (lc - 1))).drew = w6 := ⟨_, rfl⟩
    have hb6 : Below (w5.setCell ⟨g, i * 9 + 5, none⟩ (.slice la5 (ln - 1) (lc - 1))).heap.size (w5.setCell ⟨g, i * 9 + 5, none⟩ (.slice la5 (ln - 1) (lc - 1))) w6 := by rw [← hw6]; exact Aa _ 1
    have HMb6 : Hid (Mb mtag B w5 w6.drew) := (hm6.trans (Mb.of_below hb6 hd6.lt)).trans (Mb.of_below (Aa w6 1) (Nat.le_trans hd6.lt hb6.size))
    have HD6 : Hid (Md w6.drew B m ((dueR nw' rows).set i (popK r la5))) := (hd6.keep hb6).keep (Aa w6 1)
    have HLw6 : Hid (Lw w6.drew W s m nw' va wa nv nw) := HLw5.out.mv HMb6.out.mv (by decide) (by decide)
    have HL6 : Hid (w6.drew.cell? ⟨W, 0, none⟩ = some (ptr s) ∧ w6.drew.cell? ⟨W, 1, none⟩ = some (ptr m) ∧ w6.drew.cell? ⟨W, 2, none⟩ = some (.int .i64 nw')) := HLw6.out.c3
    have HTo := touch_pop (HSp5.out.mv HMb6.out.mv off_ms.off) HS4.out (HV5.out.mt HMb6.out) HA.out (Bz _ _ _)
    rw [hw6]
    clear hla6 hl1i hd6 hm6 hb6 hw6 hfz5 hg5 hlc hlx hfew hiz hi9 hneg hl0 hl1 HS5
    go_upto_region 8 with fail
    refine Ag 9 (fun w' => w'.cell? ⟨W, 0, none⟩ = some (ptr s) ∧ w'.cell? ⟨W, 1, none⟩ = some (ptr m) ∧ w'.cell? ⟨W, 2, none⟩ = some (.int .i64 nw')) [false, false, false, false, false, false, false, false, false, false] ?_
    iterate 9
     refine tk (v := ?_) 0 HL6.out ?_ ?_
     rotate_left
     ·(intro w hSw; (try dsimp only at hSw); go_simp; try with_reducible rfl)
     simp only [Act.put, uA, uB, uC]
    refine on1 9 fun K hK => ?_
    go_simp
    refine (HTo).mono ?_
    rintro e w7 ⟨rfl, h7⟩
    refine lst hK ?_
    clear hK
    obtain ⟨hlow, hoks⟩ := HS4.out.popM HR.out.1 HR.out.2.2.2.1 la5
    have HM7 := TouchM_any w7.drew B m _ a nw' ((HD6.out.mv h7.mb.mv (by decide) (by decide) (by decide)).keep (Aa w7 1)) hlow hoks
    have HL7 : Hid (w7.drew.cell? ⟨W, 0, none⟩ = some (ptr s) ∧ w7.drew.cell? ⟨W, 1, none⟩ = some (ptr m) ∧ w7.drew.cell? ⟨W, 2, none⟩ = some (.int .i64 nw')) := (HLw6.out.mv h7.mb.mv (by decide) (by decide)).c3
    have H7 : Hid (TouchTo w6.drew w7.drew B s x NM7 (dueA (dueA A nw') nw') (dueV (dueA A nw') (dueV A V nw') nw') a (decide (r.ls.tail.length = 0))) := To.keep h7 (Aa w7 1)
    clear h7 hlow hoks HTo
    go_upto_region 9 with fail
    refine Ag 9 (fun w' => w'.cell? ⟨W, 0, none⟩ = some (ptr s) ∧ w'.cell? ⟨W, 1, none⟩ = some (ptr m) ∧ w'.cell? ⟨W, 2, none⟩ = some (.int .i64 nw')) [false, false, false, false, false, false, false, false, false, false] ?_
    iterate 9
     refine tk (v := ?_) 0 HL7.out ?_ ?_
     rotate_left
     ·(intro w hSw; (try dsimp only at hSw); go_simp; try with_reducible rfl)
     simp only [Act.put, uA, uB, uC]
    refine on1 9 fun K hK => ?_
    go_simp
    refine (HM7).mono ?_
    rintro e w8 ⟨rfl, h8⟩
    refine lst hK ?_
    clear hK
    obtain ⟨hr, hk, hth, hkd, -, -⟩ := HR.out
    have hE := HA4.out.pop HS4.out HT0.out.1 (by have := HT0.out.2; omega) hr hk hth hkd HB5.out.1 HB5.out.2 HV5.out HMb6.out HD6.out H7.out h8
    rw [Cr] at hE
    have HE := hE.behind (c := bd + 20) HB4.out HG.out (by omega)
    clear hE hr hk hth hkd h8 HM7
    go_wp2
    go_ret
    exact ⟨rfl, nw', HE⟩
  ·rw [show valOf (dueA A nw' a) = none by rw [hAl.off hno]; rfl]
   clear hno hAl
   go_wp2
   go_ret
   exact ⟨rfl, HE0⟩
end Go.Proofs.YtmjeljldmmkcpaaGreat.Sq
