/-
  ReplyFails.
-/
import Derived.Test.YtiamgnfbgiognaaDoorFa
import Derived.Test.YtiamgnfbgiognaaDoorSl
namespace Go.Proofs.YtiamgnfbgiognaaDoor
open Go.RowKit Go.PlainAid

theorem size_cut20 (s : ByteArray) : (cutB s 20).size ≤ 20 := by
  unfold cutB
  split
  · rw [ByteArray.size_extract]; omega
  · omega
theorem same_one (t : RT) : sameT t t = true := by unfold sameT; rw [cmpT_self]; rfl
set_option maxRecDepth 100000 in
set_option maxHeartbeats 4000000 in
theorem fails_any (c : Int) (s : ByteArray) (dp : Int) (w : World) (hg : Laid w) : Calls Tryd.prog 3 #[.int .i64 c, .string s, .int .i64 dp] w fun r w' => r = .returned (.bool true) ∧ Below w.heap.size w w' := by
  have HG : Hid (Laid w) := hg
  have HP : Hid (0 < w.heap.size) := lt_of_cell? hg
  clear hg
  go_enter Tryd.func3, Tryd.ntmps3
  go_wp2_with fail
  refine (Within_any c 1 25 _ (by decide) (by decide) (by decide)).mono ?_
  rintro e wq ⟨rfl, z, hz1, hz2, rfl⟩
  have hz0 : ¬ z = 0 := by omega
  have HNw := New_err ⟨#[105, 110]⟩ z hz0 wq
  have HZ : Hid (1 ≤ z ∧ z ≤ 25) := ⟨hz1, hz2⟩
  clear hz0 hz1 hz2
  go_wp2_with fail
  refine HNw.mono ?_
  rintro e w1 ⟨rfl, hw1⟩
  have HB1 : Hid (Below wq.heap.size wq w1) := by rw [hw1]; exact newW_below _ _ _
  have HC1 : Hid (Chain w1 (codeV z) (newE wq) 1) := by rw [hw1]; exact (Chain.leaf (W := wq) (R := codeV z)).new _
  obtain ⟨E, hE⟩ : ∃ E, newE wq = E := ⟨_, rfl⟩
  rw [hE] at HC1 ⊢
  clear HNw hw1 hE
  go_wp2_with fail
  refine (Within_any dp 0 9 _ (by decide) (by decide) (by decide)).mono ?_
  rintro e wq2 ⟨rfl, q, hq1, hq2, rfl⟩
  obtain ⟨q, rfl⟩ : ∃ m : Nat, q = (m : Int) := ⟨q.toNat, by omega⟩
  have hq9 : q ≤ 9 := by omega
  clear hq1 hq2
  go_wp2
  go_loopg [8, 9] q (fun gk ev iv wr => ∃ (n : Nat) (E : Value), E = ev ∧ iv = .int .i64 gk ∧ gk ≤ 9 ∧ Hid (Chain wr (codeV z) ev n) ∧ Hid (Below wq.heap.size wq wr))
  case atStart => exact ⟨1, E, rfl, rfl, hq9, HC1, HB1⟩
  case round =>
    obtain ⟨n, E5, rfl, rfl, hgk, HC, HB⟩ := hrel
    clear HC1 HB1
    by_cases h8 : (0 : Int) < gk
    · have HW := Wrap_code ⟨#[111, 117, 116]⟩ E5 z n wr (HG.out.keep HB.out HP.out) (by have := HZ.out; omega) HC.out
      go_wp2_with fail
      refine HW.mono ?_
      rintro e w5 ⟨b, rfl, hb, -, -, hch⟩
      have HB5 := step_below HB hb
      have HC5 : Hid _ := hch
      clear hb hch HW
      go_wp2
      go_roundg (gk - 1)
      case measure => omega
      case rel => exact ⟨n + 1, _, rfl, by go_num, by omega, HC5, HB5⟩
    · go_wp2_with fail
      refine (Cut_any s 20 _ (by decide)).mono ?_
      rintro e wq3 ⟨rfl, rfl⟩
      have hcs := size_cut20 s
      generalize cutB s 20 = cs at hcs ⊢
      have HF1 := Fail_code cs E5 z n wq3 (HG.out.keep HB.out HP.out) HC.out (by omega)
      go_wp2_with fail
      refine HF1.mono ?_
      rintro e w5 ⟨hb, rfl⟩
      have HB5 := step_below HB hb
      have HNw := New_err ⟨#[111, 116, 104, 101, 114]⟩ z (by have := HZ.out; omega) w5
      clear hb HF1
      go_wp2_with fail
      refine HNw.mono ?_
      rintro e w6 ⟨rfl, hw6⟩
      have HB6 : Hid (Below wq.heap.size wq w6) := by rw [hw6]; exact step_below HB5 (newW_below _ _ _)
      have HC6 : Hid (Chain w6 (codeV z) (newE w5) 1) := by rw [hw6]; exact (Chain.leaf (W := w5) (R := codeV z)).new _
      obtain ⟨E2, hE2⟩ : ∃ E2, newE w5 = E2 := ⟨_, rfl⟩
      rw [hE2] at HC6 ⊢
      clear HNw hw6 hE2
      have HF2 := Fail_code cs E2 z 1 w6 (HG.out.keep HB6.out HP.out) HC6.out (by omega)
      have HTp : Hid (0 < (tellB z cs).size) := tell_pos z HZ.out.1 HZ.out.2 cs
      have HTm : Hid ((tellB z cs).size ≤ 4000) := tell_max z HZ.out.1 HZ.out.2 cs (by omega)
      go_wp2_with fail
      refine HF2.mono ?_
      rintro e w7 ⟨hb, rfl⟩
      have HB7 := step_below HB6 hb
      generalize tellB z cs = T at HTp HTm ⊢
      clear hb HF2 HC6 HC
      obtain ⟨w8, hw8⟩ : ∃ w8, w7.alloc (.cells #[.int .i64 0, .string ⟨#[]⟩, .int .i64 0, .slice none 0 0] 31) = w8 := ⟨_, rfl⟩
      obtain ⟨w9, hw9⟩ : ∃ w9, w8.alloc (.cells #[.int .i64 0, .string ⟨#[]⟩, .int .i64 0, .slice none 0 0] 31) = w9 := ⟨_, rfl⟩
      have hb8 : Below w7.heap.size w7 w8 := by rw [← hw8]; exact alloc_below w7 _
      have hb9 : Below w8.heap.size w8 w9 := by rw [← hw9]; exact alloc_below w8 _
      have hA : BR w9 w7.heap.size 0 ⟨#[]⟩ 0 none 0 0 := by
        refine BR.keep (w := w8) ?_ hb9
        rw [← hw8]; exact BR.new w7 _ _ _ _ _ _
      have hC : BR w9 w8.heap.size 0 ⟨#[]⟩ 0 none 0 0 := by rw [← hw9]; exact BR.new w8 _ _ _ _ _ _
      have hlt : w7.heap.size < w8.heap.size := by rw [← hw8]; exact alloc_lt w7 _ _
      have hn1 : ¬ w7.heap.size = w8.heap.size := by omega
      have hn2 : ¬ w8.heap.size = w7.heap.size := by omega
      have HB9 := step_below (step_below HB7 hb8) hb9
      obtain ⟨wz, hwz⟩ : ∃ wz, (((((((w9.setCell ⟨w7.heap.size, 0, none⟩ (.int .i64 2)).setCell ⟨w7.heap.size, 1, none⟩ (.string T)).setCell ⟨w7.heap.size, 2, none⟩ (.int .i64 0)).setCell ⟨w7.heap.size, 3, none⟩ (.slice none 0 0)).setCell ⟨w8.heap.size, 0, none⟩ (.int .i64 2)).setCell ⟨w8.heap.size, 1, none⟩ (.string T)).setCell ⟨w8.heap.size, 2, none⟩ (.int .i64 0)).setCell ⟨w8.heap.size, 3, none⟩ (.slice none 0 0) = wz := ⟨_, rfl⟩
      have hs1 := hA.put 2 T 0 none 0 0
      have hs2 := (hC.stay (Stay.set4 (q := w7.heap.size) (o1 := 0) (o2 := 1) (o3 := 2) (o4 := 3) (v1 := .int .i64 2) (v2 := .string T) (v3 := .int .i64 0) (v4 := .slice none 0 0)) (by simp; omega)).put 2 T 0 none 0 0
      have hs1' := hs1.stay (Stay.set4 (q := w8.heap.size) (o1 := 0) (o2 := 1) (o3 := 2) (o4 := 3) (v1 := .int .i64 2) (v2 := .string T) (v3 := .int .i64 0) (v4 := .slice none 0 0)) (by simp; omega)
      rw [hwz] at hs2 hs1'
      have HAz : Hid _ := hs1'
      have HCz : Hid _ := hs2
      have HBz : Hid (Below wq.heap.size wq wz) := by
        rw [← hwz]
        have h9 : wq.heap.size ≤ w7.heap.size := HB7.out.size
        exact HB9.out.trans (((Stay.set4 (q := w7.heap.size)).below (fun g hg => by simp at hg; omega) HB9.out.size).trans ((Stay.set4 (q := w8.heap.size)).below (fun g hg => by simp at hg; omega) (Nat.le_trans HB9.out.size (Stay.set4 (q := w7.heap.size)).size)))
      have x0 := hA.c0
      have x1 := hA.c1
      have x2 := hA.c2
      have x3 := hA.c3
      have x4 := hA.fz 0
      have x5 := hA.fz 1
      have x6 := hA.fz 2
      have x7 := hA.fz 3
      have y0 := hC.c0
      have y1 := hC.c1
      have y2 := hC.c2
      have y3 := hC.c3
      have y4 := hC.fz 0
      have y5 := hC.fz 1
      have y6 := hC.fz 2
      have y7 := hC.fz 3
      clear hA hC hs1 hs2 hs1' hb8 hb9 hlt
      go_upto_region 9 with fail
      try rw [hwz]
      clear x0 x1 x2 x3 x4 x5 x6 x7 y0 y1 y2 y3 y4 y5 y6 y7 hwz hw8 hw9
      have p0 := HAz.out.c0
      have p1 := HAz.out.c1
      have p2 := HAz.out.c2
      have p3 := HAz.out.c3
      have q0 := HCz.out.c0
      have q1 := HCz.out.c1
      have q2 := HCz.out.c2
      have q3 := HCz.out.c3
      have HSm := Same_all 0 ⟨2, T, 0, none, 0, 0⟩ ⟨2, T, 0, none, 0, 0⟩ (.mk 2 T 0 []) (.mk 2 T 0 []) wz (Vl.leaf wz _ 0 2 T 0) (Vl.leaf wz _ 0 2 T 0)
      rw [same_one] at HSm
      simp only [El.v] at HSm
      go_wp2_with fail
      refine HSm.mono ?_
      rintro e w10 ⟨hb, rfl⟩
      have HB10 := step_below HBz hb
      have HA10 : Hid _ := HAz.out.keep hb
      clear hb HSm p0 p1 p2 p3 q0 q1 q2 q3
      have p0 := HA10.out.c0
      have p1 := HA10.out.c1
      have p2 := HA10.out.c2
      have p3 := HA10.out.c3
      have HFl := Failed_any ⟨2, T, 0, none, 0, 0⟩ w10
      simp only [El.v] at HFl
      go_wp2_with fail
      refine HFl.mono ?_
      rintro e w11 ⟨hb, rfl⟩
      have HB11 := step_below HB10 hb
      have HA11 : Hid _ := HA10.out.keep hb
      clear hb HFl p0 p1 p2 p3
      have p1 := HA11.out.c1
      have hT1 : (0 : Int) < T.size := by have := HTp.out; omega
      have hT2 : T.size ≤ 4000 := HTm.out
      go_wp2_with fail
      refine (known_any _).mono ?_
      rintro e w12 ⟨hb, rfl⟩
      have HB12 := step_below HB11 hb
      clear hb p1
      go_wp2
      go_ret
      exact ⟨rfl, HB12.out⟩
end Go.Proofs.YtiamgnfbgiognaaDoor
