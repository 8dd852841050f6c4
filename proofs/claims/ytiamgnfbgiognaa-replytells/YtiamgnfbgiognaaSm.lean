/-
  made.
-/
import Derived.Test.YtiamgnfbgiognaaSl
namespace Go.Proofs.Ytiamgnfbgiognaa
open Go.RowKit Go.PlainAid

set_option maxRecDepth 100000 in
set_option maxHeartbeats 4000000 in
theorem made_step (q : Nat) (ih : ∀ q', q = q' + 1 → MadeC q') : MadeC q := by
  intro a n c at' deep w hq hN hat
  have HN : Hid (NdR w a n) := hN
  have hmx := hN.max
  obtain ⟨w1, hw1⟩ : ∃ w1, w.alloc (.cells #[.int .i64 0, .string ⟨#[]⟩, .int .i64 0, .slice none 0 0] 25) = w1 := ⟨_, rfl⟩
  have HB1 : Hid (Below w.heap.size w w1) := by rw [← hw1]; exact alloc_below w _
  have HZ1 : Hid (BR w1 w.heap.size 0 ⟨#[]⟩ 0 none 0 0) := by rw [← hw1]; exact BR.new w _ _ _ _ _ _
  unfold maxLen at hmx
  by_cases hge : at' = n
  · subst hge
    have HE : Hid (Below w.heap.size w (w.alloc (.cells #[.int .i64 5, .string ⟨#[]⟩, .int .i64 0, .slice none 0 0] 25))) := alloc_below w _
    clear hw1 HB1 HZ1 hN
    go_enter Try.func6, Try.ntmps6
    go_wp2
    exact ret_M rfl rfl rfl (heap_alloc_new w _) ⟨HE.out, ⟨5, ⟨#[]⟩, 0, none, 0, 0⟩, .mk 5 ⟨#[]⟩ 0 [], _, rfl, Nat.le_refl _, Nat.zero_le _, fun _ => ⟨rfl, rfl⟩, Vl.leaf _ _ _ _ _ _⟩
  · have hlt : at' < n := by omega
    have hlti : (at' : Int) < n := by omega
    have hnl : ¬ n ≤ at' := by omega
    have hnd : decide (n ≤ at') = false := decide_eq_false hnl
    obtain ⟨b, o, k, p, x, s, rfl, ca, cb, cc, cd⟩ := (hN.keep HB1.out).cell at' hlt
    obtain ⟨w2, hw2⟩ : ∃ w2, w1.alloc (.cells #[.int .i64 k, .int .i64 p, .int .i64 x, .string s] 37) = w2 := ⟨_, rfl⟩
    have hb2 : Below w1.heap.size w1 w2 := by rw [← hw2]; exact alloc_below w1 _
    have HB2 := step_below HB1 hb2
    have HZ2 : Hid _ := HZ1.out.keep hb2
    have hblk : w2.heap[w1.heap.size]? = some (.cells #[.int .i64 k, .int .i64 p, .int .i64 x, .string s] 37 (0, 0)) := by rw [← hw2]; exact heap_alloc_new w1 _
    have HL2 : Hid (w1.heap.size < w2.heap.size) := (Array.getElem?_eq_some_iff.1 hblk).1
    have HCs : Hid (∀ wx, Below w2.heap.size w2 wx → wx.cell? ⟨w1.heap.size, 0, none⟩ = some (.int .i64 k) ∧ wx.cell? ⟨w1.heap.size, 1, none⟩ = some (.int .i64 p) ∧ wx.cell? ⟨w1.heap.size, 2, none⟩ = some (.int .i64 x) ∧ wx.cell? ⟨w1.heap.size, 3, none⟩ = some (.string s)) := fun wx hx => by
      have h1 := hblk
      rw [← hx.block _ HL2.out] at h1
      refine ⟨?_, ?_, ?_, ?_⟩ <;> simp only [World.cell?, h1] <;> rfl
    have HD : Hid (Below w2.heap.size w2 w2.drew) := below_drewN w2 1
    have HCut := Cut_any s 9
    obtain ⟨u, hu⟩ : ∃ u, cutB s 9 = u := ⟨_, rfl⟩
    rw [hu] at HCut
    obtain ⟨y, hy⟩ : ∃ y, x.tmod 5 = y := ⟨_, rfl⟩
    have hy1 := Int.tmod_lt_of_pos x (b := 5) (by omega)
    have hy2 := Int.lt_tmod_of_pos x (b := 5) (by omega)
    rw [hy] at hy1 hy2
    have hyw : IntKind.i64.wrap y = y := by rw [IntKind.wrap_i64]; omega
    have HBN : Hid (∀ wx, Below w.heap.size w wx → NdR wx (some ⟨b, o, none⟩) n) := fun wx hx => hN.keep hx
    clear hb2 hblk hu hN HB1 HZ1
    have HRn : Hid (BR (w2.alloc (.cells #[.int .i64 k, .string u, .int .i64 y, .slice none 0 0] 25)).drew w2.heap.size k u y none 0 0) := (BR.new w2 k u y none 0 0).keep (below_drewN _ 1)
    have HBn : Hid (Below w2.heap.size w2 (w2.alloc (.cells #[.int .i64 k, .string u, .int .i64 y, .slice none 0 0] 25)).drew) := (alloc_below w2 _).drew
    go_enter Try.func6, Try.ntmps6
    go_upto_region 4 with fail
    go_cut [9] from 23 to 31 (fun u9 wx => ∃ wy g9, wy = wx ∧ u9 = .pointer (some ⟨g9, 0, none⟩) ∧ Hid (w2.heap.size ≤ g9) ∧ Hid (BR wy g9 k u y none 0 0) ∧ Hid (Below w2.heap.size w2 wy))
    case first =>
      go_region_held3 (fun w' => w'.cell? ⟨w1.heap.size, 0, none⟩ = some (.int .i64 k) ∧ w'.cell? ⟨w1.heap.size, 1, none⟩ = some (.int .i64 p) ∧ w'.cell? ⟨w1.heap.size, 2, none⟩ = some (.int .i64 x) ∧ w'.cell? ⟨w1.heap.size, 3, none⟩ = some (.string s)) (first | exact HCs.out _ HD.out | exact HCs.out _ ((alloc_below w2 _).drew)) (first
        | (go_at_call 18; refine (HCut _ (by decide)).mono ?_; rintro e wx ⟨rfl, rfl⟩))
      all_goals
        go_wp2
        go_meet
        exact ⟨_, w2.heap.size, rfl, rfl, Nat.le_refl _, HRn.out, HBn.out⟩
    case rest =>
    obtain ⟨wy, g9, rfl, rfl, HG9, HR9, HD9⟩ := hcut
    have HBy : Hid (Below w.heap.size w wy) := step_below HB2 HD9.out
    have HZy : Hid (BR wy w.heap.size 0 ⟨#[]⟩ 0 none 0 0) := HZ2.out.keep HD9.out
    obtain ⟨z0, z1, z2, z3⟩ := HCs.out wy HD9.out
    obtain ⟨at1, hat1⟩ : ∃ at1, at' + 1 = at1 := ⟨_, rfl⟩
    have ha1 : at1 ≤ n := by omega
    have hwa : IntKind.i64.wrap ((at' : Int) + 1) = (at1 : Int) := by rw [IntKind.wrap_i64]; omega
    have HNe : Hid (w.heap.size < g9) := by have h1 := HZ2.out.lt; have h2 := HG9.out; show _ < _; omega
    clear HCs HD HCut HRn HBn hw1 hw2 ca cb cc cd hy1 hy2
    by_cases hleaf : deep = 6 ∨ k < 7 ∨ k > 9
    · have r0 := HR9.out.c0
      have r1 := HR9.out.c1
      have r2 := HR9.out.c2
      have r3 := HR9.out.c3
      have y0 := HZy.out.c0
      have y1 := HZy.out.c1
      have y2 := HZy.out.c2
      have y3 := HZy.out.c3
      have f0 := HZy.out.fz 0
      have f1 := HZy.out.fz 1
      have f2 := HZy.out.fz 2
      have f3 := HZy.out.fz 3
      have HFz : Hid (((((wy.setCell ⟨w.heap.size, 0, none⟩ (.int .i64 k)).setCell ⟨w.heap.size, 1, none⟩ (.string u)).setCell ⟨w.heap.size, 2, none⟩ (.int .i64 y)).setCell ⟨w.heap.size, 3, none⟩ (.slice none 0 0)).heap[w.heap.size]? = some (.cells #[.int .i64 k, .string u, .int .i64 y, .slice none 0 0] 25 (0, 0)) ∧ Below w.heap.size w ((((wy.setCell ⟨w.heap.size, 0, none⟩ (.int .i64 k)).setCell ⟨w.heap.size, 1, none⟩ (.string u)).setCell ⟨w.heap.size, 2, none⟩ (.int .i64 y)).setCell ⟨w.heap.size, 3, none⟩ (.slice none 0 0))) := ⟨(HZy.out.put k u y none 0 0).blk, HBy.out.trans (Stay.set4.below (fun i hi => by simp at hi; omega) HBy.out.size)⟩
      rcases hleaf with h6 | h7 | h9
      · subst h6
        go_wp2
        exact ret_M rfl rfl rfl HFz.out.1 ⟨HFz.out.2, ⟨k, u, y, none, 0, 0⟩, .mk k u y [], _, rfl, ha1, Nat.zero_le _, fun _ => ⟨rfl, rfl⟩, Vl.leaf _ _ _ _ _ _⟩
      · by_cases h6 : (6 : Int) ≤ deep
        · go_wp2
          exact ret_M rfl rfl rfl HFz.out.1 ⟨HFz.out.2, ⟨k, u, y, none, 0, 0⟩, .mk k u y [], _, rfl, ha1, Nat.zero_le _, fun _ => ⟨rfl, rfl⟩, Vl.leaf _ _ _ _ _ _⟩
        · go_wp2
          exact ret_M rfl rfl rfl HFz.out.1 ⟨HFz.out.2, ⟨k, u, y, none, 0, 0⟩, .mk k u y [], _, rfl, ha1, Nat.zero_le _, fun _ => ⟨rfl, rfl⟩, Vl.leaf _ _ _ _ _ _⟩
      · by_cases h6 : (6 : Int) ≤ deep
        · go_wp2
          exact ret_M rfl rfl rfl HFz.out.1 ⟨HFz.out.2, ⟨k, u, y, none, 0, 0⟩, .mk k u y [], _, rfl, ha1, Nat.zero_le _, fun _ => ⟨rfl, rfl⟩, Vl.leaf _ _ _ _ _ _⟩
        · have h7 : ¬ k < 7 := by omega
          go_wp2
          exact ret_M rfl rfl rfl HFz.out.1 ⟨HFz.out.2, ⟨k, u, y, none, 0, 0⟩, .mk k u y [], _, rfl, ha1, Nat.zero_le _, fun _ => ⟨rfl, rfl⟩, Vl.leaf _ _ _ _ _ _⟩
    · have h6 : ¬ (6 : Int) ≤ deep := by omega
      have h7 : ¬ k < 7 := by omega
      have h9 : ¬ k > 9 := by omega
      obtain ⟨q', rfl⟩ : ∃ q', q = q' + 1 := ⟨q - 1, by omega⟩
      have HIH : Hid (MadeC q') := ih q' rfl
      clear ih hleaf
      have hwd : IntKind.i64.wrap ((deep : Int) + 1) = ((deep + 1 : Nat) : Int) := by rw [IntKind.wrap_i64]; omega
      have HWi := Within_any p 0 4 wy (by decide) (by decide) (by decide)
      go_wp2_with fail
      refine HWi.mono ?_
      rintro e w4 ⟨rfl, z, hz0, hz4, rfl⟩
      obtain ⟨j, rfl⟩ : ∃ j : Nat, z = (j : Int) := ⟨z.toNat, by omega⟩
      clear z0 z1 z2 z3 HWi
      go_wp2
      go_loopg [1, 10] j (fun gk av iv wr => ∃ (at2 : Nat) (ra : Option Addr) (rm rc : Nat) (es : List El) (ts : List RT), iv = .int .i64 gk ∧ av = .int .i64 at2 ∧ at2 ≤ n ∧ rm + gk ≤ 4 ∧ Hid (rm = 0 → ra = none ∧ rc = 0) ∧ Hid (BR wr g9 k u y ra rm rc) ∧ Hid (OwnE wr w4.heap.size ra rm rc es) ∧ Hid (Vls wr (fun g => w4.heap.size ≤ g ∧ some g ≠ ra.map (·.block)) q' es ts) ∧ Hid (BR wr w.heap.size 0 ⟨#[]⟩ 0 none 0 0) ∧ Hid (Below w.heap.size w wr) ∧ Hid (w4.heap.size ≤ wr.heap.size))
      case atStart => exact ⟨at1, none, 0, 0, [], [], rfl, rfl, ha1, by omega, (fun _ => ⟨rfl, rfl⟩ : 0 = 0 → none = none ∧ 0 = 0), HR9, OwnR.nil _ _ _ _, Vls.nil _ _ _, HZy, HBy, Nat.le_refl _⟩
      case round =>
        obtain ⟨at2, ra, rm, rc, es, ts, rfl, rfl, hat2, hrm, HNl, HR, HO, HV, HZ, HB, HS⟩ := hrel
        by_cases hj : gk = 0
        · subst hj
          have r0 := HR.out.c0
          have r1 := HR.out.c1
          have r2 := HR.out.c2
          have r3 := HR.out.c3
          have y0 := HZ.out.c0
          have y1 := HZ.out.c1
          have y2 := HZ.out.c2
          have y3 := HZ.out.c3
          have f0 := HZ.out.fz 0
          have f1 := HZ.out.fz 1
          have f2 := HZ.out.fz 2
          have f3 := HZ.out.fz 3
          obtain ⟨w9, hw9⟩ : ∃ w9, ((((wr.setCell ⟨w.heap.size, 0, none⟩ (.int .i64 k)).setCell ⟨w.heap.size, 1, none⟩ (.string u)).setCell ⟨w.heap.size, 2, none⟩ (.int .i64 y)).setCell ⟨w.heap.size, 3, none⟩ (.slice ra rm rc)) = w9 := ⟨_, rfl⟩
          have HFz : Hid (w9.heap[w.heap.size]? = some (.cells #[.int .i64 k, .string u, .int .i64 y, .slice ra rm rc] 25 (0, 0)) ∧ Below w.heap.size w w9 ∧ Vl w9 (fun g => w.heap.size ≤ g) (q' + 1) ⟨k, u, y, ra, rm, rc⟩ (.mk k u y ts)) := by
            have hs : Stay wr w9 [w.heap.size] := by rw [← hw9]; exact Stay.set4
            have hlt := HR9.out.lt
            have hwy := HNe.out
            refine ⟨by rw [← hw9]; exact (HZ.out.put k u y ra rm rc).blk, HB.out.trans (hs.below (fun i hi => by simp at hi; omega) HB.out.size), rfl, rfl, rfl, ?_⟩
            have hO9 : OwnE w9 w4.heap.size ra rm rc es := OwnR.kept HO.out (fun g hg => hs.block g (OwnR.lt HO.out hg).2.1 (by have := (OwnR.lt HO.out hg).1; simp; omega))
            have hV9 := HV.out.keep (w' := w9) (fun g hl hf => hs.block g hl (by simp; omega))
            exact Hd.of (OwnE.rdA hO9 (fun g hg => by have := (OwnR.lt HO.out hg).1; omega)) (show rm ≤ 12 by omega) (hV9.mono (fun g _ hf => by omega))
          clear HO HV HR HZ
          go_wp2
          exact ret_M rfl rfl rfl HFz.out.1 ⟨HFz.out.2.1, ⟨k, u, y, ra, rm, rc⟩, .mk k u y ts, at2, rfl, hat2, (by show rm ≤ 4; omega), HNl.out, HFz.out.2.2⟩
        · obtain ⟨i, rfl⟩ : ∃ i, gk = i + 1 := ⟨gk - 1, by omega⟩
          have hpos : (0 : Int) < (i : Int) + 1 := by omega
          have hwi : IntKind.i64.wrap ((i : Int) + 1 - 1) = (i : Int) := by rw [IntKind.wrap_i64]; omega
          have hwi2 : IntKind.i64.wrap (i : Int) = (i : Int) := by rw [IntKind.wrap_i64]; omega
          have HC := HIH.out (some ⟨b, o, none⟩) n c at2 (deep + 1) wr (by omega) (HBN.out wr HB.out) hat2
          go_wp2_with fail
          refine HC.mono ?_
          rintro e w5 ⟨hb5, X, tX, at3, rfl, hat3, hXm, hXn, hvX⟩
          have HB5 := step_below HB hb5
          have HR5 : Hid _ := HR.out.keep hb5
          have HZ5 : Hid _ := HZ.out.keep hb5
          have HO5 : Hid (OwnE w5 w4.heap.size ra rm rc es) := OwnR.keep HO.out hb5
          have HV5 : Hid _ := HV.out.kp hb5
          have HS5 : Hid (wr.heap.size ≤ w5.heap.size) := hb5.size
          have HX5 : Hid (Vl w5 (fun g => wr.heap.size ≤ g) q' X tX) := hvX
          obtain ⟨Xk, Xs, Xn, Xa, Xm, Xc⟩ := X
          simp only [El.v]
          have HRb : Hid (∀ g, ra.map (·.block) = some g → w4.heap.size ≤ g ∧ g < wr.heap.size) := fun g hg => ⟨(OwnR.lt HO.out hg).1, (OwnR.lt HO.out hg).2.1⟩
          clear hb5 hvX HC HR HZ HO HV hXm hXn
          obtain ⟨w6, hw6⟩ : ∃ w6, w5.alloc (.cells #[.int .i64 Xk, .string Xs, .int .i64 Xn, .slice Xa Xm Xc] 25) = w6 := ⟨_, rfl⟩
          have hb6 : Below w5.heap.size w5 w6 := by rw [← hw6]; exact alloc_below w5 _
          have HX6 : Hid (BR w6 w5.heap.size Xk Xs Xn Xa Xm Xc) := by rw [← hw6]; exact BR.new w5 _ _ _ _ _ _
          obtain ⟨w7, hw7⟩ : ∃ w7, w6.alloc (.cells #[.int .i64 Xk, .string Xs, .int .i64 Xn, .slice Xa Xm Xc] 25) = w7 := ⟨_, rfl⟩
          have hb7 : Below w6.heap.size w6 w7 := by rw [← hw7]; exact alloc_below w6 _
          have hX7 : BR w7 w6.heap.size Xk Xs Xn Xa Xm Xc := by rw [← hw7]; exact BR.new w6 _ _ _ _ _ _
          have hb57 : Below w5.heap.size w5 w7 := hb6.trans (hb7.mono hb6.size)
          have HB7 := step_below HB5 hb57
          have HR7 : Hid _ := HR5.out.keep hb57
          have HZ7 : Hid _ := HZ5.out.keep hb57
          have HO7 : Hid (OwnE w7 w4.heap.size ra rm rc es) := OwnR.keep HO5.out hb57
          have HV7 : Hid _ := HV5.out.kp hb57
          have HY7 : Hid _ := HX5.out.kp hb57
          have HS7 : Hid (w4.heap.size ≤ w7.heap.size) := by have h1 := HS.out; have h2 := HS5.out; have h3 := hb57.size; show _ ≤ _; omega
          have HNw : Hid (∀ (j : Nat) (v : Value), (rcells [⟨Xk, Xs, Xn, Xa, Xm, Xc⟩])[j]? = some v → w7.cell? ((⟨w6.heap.size, 0, none⟩ : Addr).add j) = some v) := fun j v hv => by
            rw [add_flat, Nat.zero_add]
            match j with
            | 0 => rw [hX7.c0]; exact hv
            | 1 => rw [hX7.c1]; exact hv
            | 2 => rw [hX7.c2]; exact hv
            | 3 => rw [hX7.c3]; exact hv
            | j + 4 => simp [rcells, El.cs] at hv
          have t3 := (HR5.out.keep hb6).c3
          have x0 := HX6.out.c0
          have x1 := HX6.out.c1
          have x2 := HX6.out.c2
          have x3 := HX6.out.c3
          clear hb6 hb7 hb57 hX7 HX6 HR5 HZ5 HO5 HV5 HX5
          go_wp2_with (at_builtin; refine append_r rfl (.tmp 64) (.tmp 66) rfl eltR w4.heap.size rfl HO7.out (rcells [⟨Xk, Xs, Xn, Xa, Xm, Xc⟩]) rfl rfl HNw.out (rcells_one _) (by decide) (by omega) (by unfold maxLen; omega) HS7.out ?_; intro a8 n8 c8 w8 hn8 HO8 HG8 HGo8; have HR8 : Hid (BR w8 g9 k u y ra rm rc) := HR7.out.kept (HG8.out.block g9 HR7.out.lt (fun e => by have h1 := (OwnR.lt HO7.out e.symm).1; have h2 := HR9.out.lt; omega)); have v3 := HR8.out.c3; have vf := HR8.out.fz 3)
          have hlt9 := HR9.out.lt
          have hne9 := HNe.out
          have HRn : Hid (BR (w8.setCell ⟨g9, 3, none⟩ (.slice a8 (rm + 1) c8)) g9 k u y a8 (rm + 1) c8) := HR8.out.put3 _ _ _
          have HOn : Hid (OwnE (w8.setCell ⟨g9, 3, none⟩ (.slice a8 (rm + 1) c8)) w4.heap.size a8 (rm + 1) c8 (es ++ [⟨Xk, Xs, Xn, Xa, Xm, Xc⟩])) := by
            have h1 := HO8.out
            try rw [hn8] at h1
            rw [← rcells_append] at h1
            exact OwnR.kept h1 (fun g hg => (Stay.set (q := g9)).block g (OwnR.lt h1 hg).2.1 (by have := (OwnR.lt h1 hg).1; simp; omega))
          have HVn : Hid (Vls (w8.setCell ⟨g9, 3, none⟩ (.slice a8 (rm + 1) c8)) (fun g => w4.heap.size ≤ g ∧ some g ≠ a8.map (·.block)) q' (es ++ [⟨Xk, Xs, Xn, Xa, Xm, Xc⟩]) (ts ++ [tX])) := by
            have h1 : Vl w7 (fun g => w4.heap.size ≤ g ∧ some g ≠ ra.map (·.block)) q' ⟨Xk, Xs, Xn, Xa, Xm, Xc⟩ tX := HY7.out.mono (fun g _ hg => ⟨Nat.le_trans HS.out hg, fun e => by have := (HRb.out g e.symm).2; omega⟩)
            have h2 := (HV7.out.append (Vls.one h1)).grown HG8.out HGo8.out
            exact h2.keep (fun g hl hf => (Stay.set (q := g9)).block g hl (by simp; omega))
          have HZn : Hid (BR (w8.setCell ⟨g9, 3, none⟩ (.slice a8 (rm + 1) c8)) w.heap.size 0 ⟨#[]⟩ 0 none 0 0) := (HZ7.out.kept (HG8.out.block _ HZ7.out.lt (fun e => by have := (HRb.out _ e.symm).1; omega))).stay (Stay.set (q := g9)) (by simp; omega)
          have HBn : Hid (Below w.heap.size w (w8.setCell ⟨g9, 3, none⟩ (.slice a8 (rm + 1) c8))) := by
            have h1 := (OwnR.below HO7.out HG8.out HS7.out).mono (show w.heap.size ≤ w4.heap.size by omega)
            have h2 := HB7.out.trans h1
            exact h2.trans ((Stay.set (q := g9)).below (fun i hi => by simp at hi; omega) h2.size)
          have HSn : Hid (w4.heap.size ≤ (w8.setCell ⟨g9, 3, none⟩ (.slice a8 (rm + 1) c8)).heap.size) := Nat.le_trans HS7.out (Nat.le_trans HG8.out.size (Stay.set (w := w8) (q := g9)).size)
          go_roundg i
          case measure => omega
          case rel => exact ⟨at3, a8, rm + 1, c8, _, _, by go_num, rfl, hat3, by omega, (fun h => by omega : rm + 1 = 0 → a8 = none ∧ c8 = 0), HRn, HOn, HVn, HZn, HBn, HSn⟩
theorem made_all (q : Nat) : MadeC q := by
  induction q with
  | zero => exact made_step 0 (fun _ h => by omega)
  | succ q ih => exact made_step (q + 1) (fun q' h => by cases h; exact ih)
end Go.Proofs.Ytiamgnfbgiognaa
