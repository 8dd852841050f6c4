/- Texts that the others stand on. -/
import Derived.Test.YtikimcbalkhooaaGreatJ27
import Derived.Deep.RegionHeld3
namespace Go.Proofs.YtikimcbalkhooaaGreat
open Go.RowKit Go.PlainAid
open Dk (En keysOf hasK putE ecells)
theorem cnt_one : ∀ {l : List ByteArray} {s : ByteArray}, l.Nodup → s ∈ l → cntB l s = 1
 | x :: r, s, hn, hm => by
  have h1 := List.nodup_cons.1 hn
  have e : cntB (x :: r) s = cntB r s + if x = s then 1 else 0 := by
   unfold cntB
   rw [List.countP_cons]
   by_cases h : x = s <;> simp [h]
  rw [e]
  by_cases h : x = s
  ·have h0 : ¬ 0 < cntB r s := fun hp => h1.1 (by rw [h]; exact cntB_pos.1 hp)
   rw [if_pos h]; omega
  ·rw [if_neg h]
   rcases List.mem_cons.1 hm with h2 | h2
   ·exact absurd h2.symm h
   ·rw [cnt_one h1.2 h2]
set_option maxRecDepth 100000 in
set_option maxHeartbeats 8000000 in
theorem rSame_s (w : World) (B1 B2 n : Nat) (a1 a2 : Option Addr) (c1 c2 : Nat) (l1 l2 : List ByteArray) (hO1 : OwnS w B1 a1 n c1 l1) (hO2 : OwnS w B2 a2 n c2 l2) (hn : n ≤ 100) (hk1 : l1.Nodup) (hk2 : l2.Nodup)
  (h1 : ∀ wx, Below w.heap.size w wx → Calls Tryz.prog 30 #[.agg #[.int .i64 3, .string ⟨#[]⟩, .slice none 0 0, .slice a1 n c1]] wx fun e w' => e = .returned (.int .i64 (n : Nat)) ∧ Below wx.heap.size wx w')
  (h2 : ∀ wx, Below w.heap.size w wx → Calls Tryz.prog 30 #[.agg #[.int .i64 3, .string ⟨#[]⟩, .slice none 0 0, .slice a2 n c2]] wx fun e w' => e = .returned (.int .i64 (n : Nat)) ∧ Below wx.heap.size wx w') :
  Calls Tryz.prog 12 #[.agg #[.int .i64 3, .string ⟨#[]⟩, .slice none 0 0, .slice a1 n c1], .agg #[.int .i64 3, .string ⟨#[]⟩, .slice none 0 0, .slice a2 n c2]] w fun e w' => EqR w w' e (l1.Perm l2) := by
 obtain ⟨w0, hw0⟩ : ∃ w0, w.alloc (.cells #[.int .i64 3, .string ⟨#[]⟩, .slice none 0 0, .slice a1 n c1] 29) = w0 := ⟨_, rfl⟩
 obtain ⟨w1, hw1⟩ : ∃ w1, w0.alloc (.cells #[.int .i64 3, .string ⟨#[]⟩, .slice none 0 0, .slice a2 n c2] 29) = w1 := ⟨_, rfl⟩
 have hb0 : Below w.heap.size w w0 := by rw [← hw0]; exact alloc_below w _
 have hb1 : Below w0.heap.size w0 w1 := by rw [← hw1]; exact alloc_below w0 _
 have hl0 : w.heap.size < w0.heap.size := by rw [← hw0]; exact alloc_lt w _ _
 have hl1 : w0.heap.size < w1.heap.size := by rw [← hw1]; exact alloc_lt w0 _ _
 have hb : Below w.heap.size w w1 := hb0.trans (hb1.mono hb0.size)
 have HB1 : Hid (Below w.heap.size w w1) := hb
 have HC : Hid (∀ wx, Below w1.heap.size w1 wx → wx.cell? ⟨w.heap.size, 0, none⟩ = some (.int .i64 3) ∧ wx.cell? ⟨w.heap.size, 1, none⟩ = some (.string ⟨#[]⟩) ∧ wx.cell? ⟨w.heap.size, 2, none⟩ = some (.slice none 0 0) ∧ wx.cell? ⟨w.heap.size, 3, none⟩ = some (.slice a1 n c1) ∧ wx.cell? ⟨w0.heap.size, 0, none⟩ = some (.int .i64 3) ∧ wx.cell? ⟨w0.heap.size, 1, none⟩ = some (.string ⟨#[]⟩) ∧ wx.cell? ⟨w0.heap.size, 2, none⟩ = some (.slice none 0 0) ∧ wx.cell? ⟨w0.heap.size, 3, none⟩ = some (.slice a2 n c2)) := fun wx hx => by
  have q1 : ∀ i u, (#[.int .i64 3, .string ⟨#[]⟩, .slice none 0 0, .slice a1 n c1] : Array Value)[i]? = some u → wx.cell? ⟨w.heap.size, i, none⟩ = some u := fun i u hu => by
   rw [hx.cell (p := ⟨w.heap.size, i, none⟩) (Nat.lt_trans hl0 hl1), hb1.cell (p := ⟨w.heap.size, i, none⟩) hl0, ← hw0]; exact cell_new w _ _ i _ hu
  have q2 : ∀ i u, (#[.int .i64 3, .string ⟨#[]⟩, .slice none 0 0, .slice a2 n c2] : Array Value)[i]? = some u → wx.cell? ⟨w0.heap.size, i, none⟩ = some u := fun i u hu => by
   rw [hx.cell (p := ⟨w0.heap.size, i, none⟩) hl1, ← hw1]; exact cell_new w0 _ _ i _ hu
  exact ⟨q1 0 _ rfl, q1 1 _ rfl, q1 2 _ rfl, q1 3 _ rfl, q2 0 _ rfl, q2 1 _ rfl, q2 2 _ rfl, q2 3 _ rfl⟩
 have HL1 : Hid (∀ wx, Below w1.heap.size w1 wx → Calls Tryz.prog 30 #[.agg #[.int .i64 3, .string ⟨#[]⟩, .slice none 0 0, .slice a1 n c1]] wx fun e w' => e = .returned (.int .i64 (n : Nat)) ∧ Below wx.heap.size wx w') := fun wx hx => h1 wx (hb.trans (hx.mono hb.size))
 have HL2 : Hid (∀ wx, Below w1.heap.size w1 wx → Calls Tryz.prog 30 #[.agg #[.int .i64 3, .string ⟨#[]⟩, .slice none 0 0, .slice a2 n c2]] wx fun e w' => e = .returned (.int .i64 (n : Nat)) ∧ Below wx.heap.size wx w') := fun wx hx => h2 wx (hb.trans (hx.mono hb.size))
 have HD : Hid (Below w1.heap.size w1 w1.drew) := below_drewN w1 1
 have HO1 : Hid (OwnS w1 B1 a1 n c1 l1) := hO1.keep hb
 have HO2 : Hid (OwnS w1 B2 a2 n c2 l2) := hO2.keep hb
 have HN1 : Hid (l1.length = n) := hO1.len
 have HN2 : Hid (l2.length = n) := hO2.len
 have HK1 : Hid (l1.Nodup) := hk1
 have HK2 : Hid (l2.Nodup) := hk2
 clear hb0 hb1 hl0 hl1 hb h1 h2 hO1 hO2 hk1 hk2
 go_enter Tryz.func12, Tryz.ntmps12
 go_upto_region 1 with fail
 go_cut [26] from 8 to 26 (fun u wx => ∃ wy, wy = wx ∧ u = .bool false ∧ Hid (Below w1.heap.size w1 wy))
 case first =>
  go_region_held3 (fun w' => w'.cell? ⟨w.heap.size, 0, none⟩ = some (.int .i64 3) ∧ w'.cell? ⟨w.heap.size, 1, none⟩ = some (.string ⟨#[]⟩) ∧ w'.cell? ⟨w.heap.size, 2, none⟩ = some (.slice none 0 0) ∧ w'.cell? ⟨w.heap.size, 3, none⟩ = some (.slice a1 n c1) ∧ w'.cell? ⟨w0.heap.size, 0, none⟩ = some (.int .i64 3) ∧ w'.cell? ⟨w0.heap.size, 1, none⟩ = some (.string ⟨#[]⟩) ∧ w'.cell? ⟨w0.heap.size, 2, none⟩ = some (.slice none 0 0) ∧ w'.cell? ⟨w0.heap.size, 3, none⟩ = some (.slice a2 n c2)) (exact HC.out _ HD.out) (first
   | (go_at_call_of 30 (Value.agg #[.int .i64 3, .string ⟨#[]⟩, .slice none 0 0, .slice a1 n c1]); refine (HL1.out _ HD.out).mono ?_; rintro e wx ⟨rfl, hb⟩; replace HD := step_below HD hb; clear hb)
   | (go_at_call_of 30 (Value.agg #[.int .i64 3, .string ⟨#[]⟩, .slice none 0 0, .slice a2 n c2]); refine (HL2.out _ HD.out).mono ?_; rintro e wx ⟨rfl, hb⟩; replace HD := step_below HD hb; clear hb))
  all_goals
   go_wp2
   go_meet
   exact ⟨_, rfl, rfl, HD⟩
 case rest =>
 obtain ⟨w2, rfl, rfl, HD2⟩ := hcut
 obtain ⟨s0, s1, s2, s3, s4, s5, s6, s7⟩ := HC.out w2 HD2.out
 clear HD HL1 HL2
 go_wp2
 go_loopg [5, 6] 0 (fun g iv kv wr => w2 = wr ∧ iv = .int .i64 0)
 case atStart => exact ⟨rfl, rfl⟩
 case round =>
  obtain ⟨rfl, rfl⟩ := hrel
  go_wp2
  go_loopg [7] n (fun g iv wr => ∃ i : Nat, i + g = n ∧ iv = .int .i64 i ∧ Hid (∀ e ∈ l1.take i, e ∈ l2) ∧ Hid (Below w1.heap.size w1 wr))
  case atStart => exact ⟨0, by omega, rfl, fun e he => absurd he (by simp), HD2⟩
  case round =>
   obtain ⟨i, hi, rfl, HIn, HB⟩ := hrel
   obtain ⟨s0, s1, s2, s3, s4, s5, s6, s7⟩ := HC.out wr HB.out
   by_cases h8 : (i : Int) < n
   ·have hbd : Below wr.heap.size wr wr.drew := below_drewN wr 1
    have HBd := step_below HB hbd
    obtain ⟨g1, o1, hg1, hx1⟩ := (HO1.out.keep HBd.out).rd.cell i (by omega)
    obtain ⟨g2, o2, hg2, hx2⟩ := (HO2.out.keep HBd.out).rd.cell i (by omega)
    have HT1 : Hid (l1.take (i + 1) = l1.take i ++ [l1.getD i ByteArray.empty]) := take_snocB l1 i (by have := HN1.out; omega)
    have HT2 : Hid (l2.take (i + 1) = l2.take i ++ [l2.getD i ByteArray.empty]) := take_snocB l2 i (by have := HN2.out; omega)
    have HM : Hid (l1.getD i ByteArray.empty ∈ l1) := getD_inS (by have := HN1.out; omega)
    have HNe : Hid (l1.getD i ByteArray.empty ≠ l2.getD i ByteArray.empty → ¬ l1 = l2) := fun h1 h2 => h1 (by rw [h2])
    generalize l1.getD i ByteArray.empty = K at hx1 HT1 HM HNe
    generalize l2.getD i ByteArray.empty = M at hx2 HT2 HNe
    have HA1 : Hid (∀ wx, Below w1.heap.size w1 wx → Calls Tryz.prog 47 #[.slice a1 n c1, .string K] wx fun e w' => e = .returned (.int .i64 (cntB l1 K : Nat)) ∧ w' = wx) := fun wx hx => rHas_any B1 a1 n c1 l1 K wx (HO1.out.keep hx) (by omega)
    have HA2 : Hid (∀ wx, Below w1.heap.size w1 wx → Calls Tryz.prog 47 #[.slice a2 n c2, .string K] wx fun e w' => e = .returned (.int .i64 (cntB l2 K : Nat)) ∧ w' = wx) := fun wx hx => rHas_any B2 a2 n c2 l2 K wx (HO2.out.keep hx) (by omega)
    obtain ⟨z0, z1, z2, z3, z4, z5, z6, z7⟩ := HC.out _ HBd.out
    subst hg1
    subst hg2
    have HSd : Hid ((fun w' : World => w'.cell? ⟨w.heap.size, 0, none⟩ = some (.int .i64 3) ∧ w'.cell? ⟨w.heap.size, 3, none⟩ = some (.slice (some ⟨g1, o1, none⟩) n c1) ∧ w'.cell? ⟨w0.heap.size, 3, none⟩ = some (.slice (some ⟨g2, o2, none⟩) n c2) ∧ w'.cell? ⟨g1, o1 + i, none⟩ = some (.string K) ∧ w'.cell? ⟨g2, o2 + i, none⟩ = some (.string M)) wr.drew) := ⟨z0, z3, z7, hx1, hx2⟩
    have HBe := step_below HB1 HBd.out
    have HCt : Hid (cntB l1 K = 1) := cnt_one HK1.out HM.out
    rw [HCt.out] at HA1
    clear hx1 hx2 z0 z1 z2 z3 z4 z5 z6 z7 hbd
    by_cases hm : cntB l2 K = 1
    ·rw [hm] at HA2
     have HIn2 : Hid (∀ e ∈ l1.take (i + 1), e ∈ l2) := fun e he => by
      rw [HT1.out] at he
      rcases List.mem_append.1 he with h1 | h1
      ·exact HIn.out e h1
      ·rw [List.mem_singleton.1 h1]; exact cntB_pos.1 (by omega)
     clear hm
     go_upto_region 12 with fail
     refine wp_region_held_drew (S := fun w' => w'.cell? ⟨w.heap.size, 0, none⟩ = some (.int .i64 3) ∧ w'.cell? ⟨w.heap.size, 3, none⟩ = some (.slice (some ⟨g1, o1, none⟩) n c1) ∧ w'.cell? ⟨w0.heap.size, 3, none⟩ = some (.slice (some ⟨g2, o2, none⟩) n c2) ∧ w'.cell? ⟨g1, o1 + i, none⟩ = some (.string K) ∧ w'.cell? ⟨g2, o2 + i, none⟩ = some (.string M)) (by kernel_rfl) (HSd.out) (fun hHeld => ?_)
     refine wpAnyH_take (i := 0) (oi := ⟨some 66, .fieldAddr 29 (.tmp 2) 0, 0, "ref.go:66", #[], none⟩) (v := ?_) rfl (by kernel_rfl) (by kernel_rfl) (by kernel_rfl) (fun _ _ _ h => h) (Or.inl ⟨by rfl, ?_⟩) (by assumption) ?_
     rotate_left
     ·(intro w hSw; (try dsimp only at hSw); go_simp; (try with_reducible rfl))
     try simp only [Act.put, List.setIfInBounds_toArray, List.set_cons_zero, List.set_cons_succ]
     refine wpAnyH_take (i := 1) (oi := ⟨some 67, .load 3 (.tmp 66), 3, "ref.go:66", #[⟨0, .data⟩], none⟩) (v := ?_) rfl (by kernel_rfl) (by kernel_rfl) (by kernel_rfl) (fun _ _ _ h => h) (Or.inl ⟨by rfl, ?_⟩) (by assumption) ?_
     rotate_left
     ·(intro w hSw; (try dsimp only at hSw); go_simp; (try with_reducible rfl))
     try simp only [Act.put, List.setIfInBounds_toArray, List.set_cons_zero, List.set_cons_succ]
     refine wpAnyH_take (i := 2) (oi := ⟨some 68, .binOp .eql 3 (.tmp 67) (.const (.int Go.IntKind.i64 4)) 3, 4, "ref.go:66", #[⟨1, .data⟩], none⟩) (v := ?_) rfl (by kernel_rfl) (by kernel_rfl) (by kernel_rfl) (fun _ _ _ h => h) (Or.inl ⟨by rfl, ?_⟩) (by assumption) ?_
     rotate_left
     ·(intro w hSw; (try dsimp only at hSw); go_simp; (try with_reducible rfl))
     try simp only [Act.put, List.setIfInBounds_toArray, List.set_cons_zero, List.set_cons_succ]
     refine wpAnyH_take (i := 3) (oi := ⟨some 69, .move (.tmp 68), 4, "ref.go:66", #[⟨2, .data⟩], none⟩) (v := ?_) rfl (by kernel_rfl) (by kernel_rfl) (by kernel_rfl) (fun _ _ _ h => h) (Or.inl ⟨by rfl, ?_⟩) (by assumption) ?_
     rotate_left
     ·(intro w hSw; (try dsimp only at hSw); go_simp; (try with_reducible rfl))
     try simp only [Act.put, List.setIfInBounds_toArray, List.set_cons_zero, List.set_cons_succ]
     refine wpAnyH_take (i := 4) (oi := ⟨some 70, .fieldAddr 29 (.tmp 2) 3, 0, "ref.go:66", #[⟨3, .guard⟩], some (3, true)⟩) (v := undef) rfl (by kernel_rfl) (by kernel_rfl) (by kernel_rfl) (fun _ _ _ h => h) (Or.inr ⟨by rfl, rfl⟩) (by assumption) ?_
     try simp only [Act.put, List.setIfInBounds_toArray, List.set_cons_zero, List.set_cons_succ]
     refine wpAnyH_take (i := 5) (oi := ⟨some 71, .load 23 (.tmp 70), 23, "ref.go:66", #[⟨4, .data⟩, ⟨3, .guard⟩], some (3, true)⟩) (v := undef) rfl (by kernel_rfl) (by kernel_rfl) (by kernel_rfl) (fun _ _ _ h => h) (Or.inr ⟨by rfl, rfl⟩) (by assumption) ?_
     try simp only [Act.put, List.setIfInBounds_toArray, List.set_cons_zero, List.set_cons_succ]
     refine wpAnyH_take (i := 6) (oi := ⟨some 72, .move (.tmp 7), 3, "ref.go:66", #[⟨3, .guard⟩], some (3, true)⟩) (v := undef) rfl (by kernel_rfl) (by kernel_rfl) (by kernel_rfl) (fun _ _ _ h => h) (Or.inr ⟨by rfl, rfl⟩) (by assumption) ?_
     try simp only [Act.put, List.setIfInBounds_toArray, List.set_cons_zero, List.set_cons_succ]
     refine wpAnyH_take (i := 7) (oi := ⟨some 73, .indexAddr 23 (.tmp 71) (.tmp 72), 0, "ref.go:66", #[⟨5, .data⟩, ⟨6, .data⟩, ⟨3, .guard⟩], some (3, true)⟩) (v := undef) rfl (by kernel_rfl) (by kernel_rfl) (by kernel_rfl) (fun _ _ _ h => h) (Or.inr ⟨by rfl, rfl⟩) (by assumption) ?_
     try simp only [Act.put, List.setIfInBounds_toArray, List.set_cons_zero, List.set_cons_succ]
     refine wpAnyH_take (i := 8) (oi := ⟨some 74, .load 9 (.tmp 73), 9, "ref.go:66", #[⟨7, .data⟩, ⟨3, .guard⟩], some (3, true)⟩) (v := undef) rfl (by kernel_rfl) (by kernel_rfl) (by kernel_rfl) (fun _ _ _ h => h) (Or.inr ⟨by rfl, rfl⟩) (by assumption) ?_
     try simp only [Act.put, List.setIfInBounds_toArray, List.set_cons_zero, List.set_cons_succ]
     refine wpAnyH_take (i := 9) (oi := ⟨some 75, .fieldAddr 29 (.tmp 3) 3, 0, "ref.go:66", #[⟨3, .guard⟩], some (3, true)⟩) (v := undef) rfl (by kernel_rfl) (by kernel_rfl) (by kernel_rfl) (fun _ _ _ h => h) (Or.inr ⟨by rfl, rfl⟩) (by assumption) ?_
     try simp only [Act.put, List.setIfInBounds_toArray, List.set_cons_zero, List.set_cons_succ]
     refine wpAnyH_take (i := 10) (oi := ⟨some 76, .load 23 (.tmp 75), 23, "ref.go:66", #[⟨9, .data⟩, ⟨3, .guard⟩], some (3, true)⟩) (v := undef) rfl (by kernel_rfl) (by kernel_rfl) (by kernel_rfl) (fun _ _ _ h => h) (Or.inr ⟨by rfl, rfl⟩) (by assumption) ?_
     try simp only [Act.put, List.setIfInBounds_toArray, List.set_cons_zero, List.set_cons_succ]
     refine wpAnyH_take (i := 11) (oi := ⟨some 77, .move (.tmp 7), 3, "ref.go:66", #[⟨3, .guard⟩], some (3, true)⟩) (v := undef) rfl (by kernel_rfl) (by kernel_rfl) (by kernel_rfl) (fun _ _ _ h => h) (Or.inr ⟨by rfl, rfl⟩) (by assumption) ?_
     try simp only [Act.put, List.setIfInBounds_toArray, List.set_cons_zero, List.set_cons_succ]
     refine wpAnyH_take (i := 12) (oi := ⟨some 78, .indexAddr 23 (.tmp 76) (.tmp 77), 0, "ref.go:66", #[⟨10, .data⟩, ⟨11, .data⟩, ⟨3, .guard⟩], some (3, true)⟩) (v := undef) rfl (by kernel_rfl) (by kernel_rfl) (by kernel_rfl) (fun _ _ _ h => h) (Or.inr ⟨by rfl, rfl⟩) (by assumption) ?_
     try simp only [Act.put, List.setIfInBounds_toArray, List.set_cons_zero, List.set_cons_succ]
     refine wpAnyH_take (i := 13) (oi := ⟨some 79, .load 9 (.tmp 78), 9, "ref.go:66", #[⟨12, .data⟩, ⟨3, .guard⟩], some (3, true)⟩) (v := undef) rfl (by kernel_rfl) (by kernel_rfl) (by kernel_rfl) (fun _ _ _ h => h) (Or.inr ⟨by rfl, rfl⟩) (by assumption) ?_
     try simp only [Act.put, List.setIfInBounds_toArray, List.set_cons_zero, List.set_cons_succ]
     refine wpAnyH_take (i := 14) (oi := ⟨some 80, .binOp .neq 9 (.tmp 74) (.tmp 79) 9, 4, "ref.go:66", #[⟨8, .data⟩, ⟨13, .data⟩, ⟨3, .guard⟩], some (3, true)⟩) (v := undef) rfl (by kernel_rfl) (by kernel_rfl) (by kernel_rfl) (fun _ _ _ h => h) (Or.inr ⟨by rfl, rfl⟩) (by assumption) ?_
     try simp only [Act.put, List.setIfInBounds_toArray, List.set_cons_zero, List.set_cons_succ]
     refine wpAnyH_take (i := 15) (oi := ⟨some 81, .pick (.tmp 69) (.tmp 80) (.const (.bool false)), 4, "ref.go:66", #[⟨3, .data⟩, ⟨14, .data⟩], none⟩) (v := ?_) rfl (by kernel_rfl) (by kernel_rfl) (by kernel_rfl) (fun _ _ _ h => h) (Or.inl ⟨by rfl, ?_⟩) (by assumption) ?_
     rotate_left
     ·(intro w hSw; (try dsimp only at hSw); go_simp; (try with_reducible rfl))
     try simp only [Act.put, List.setIfInBounds_toArray, List.set_cons_zero, List.set_cons_succ]
     refine wpAnyH_take (i := 16) (oi := ⟨some 82, .move (.tmp 81), 4, "ref.go:66", #[⟨15, .data⟩, ⟨3, .chain⟩], none⟩) (v := ?_) rfl (by kernel_rfl) (by kernel_rfl) (by kernel_rfl) (fun _ _ _ h => h) (Or.inl ⟨by rfl, ?_⟩) (by assumption) ?_
     rotate_left
     ·(intro w hSw; (try dsimp only at hSw); go_simp; (try with_reducible rfl))
     try simp only [Act.put, List.setIfInBounds_toArray, List.set_cons_zero, List.set_cons_succ]
     refine wpAnyH_take (i := 17) (oi := ⟨some 83, .fieldAddr 29 (.tmp 3) 3, 0, "ref.go:66", #[⟨16, .guard⟩], some (16, false)⟩) (v := ?_) rfl (by kernel_rfl) (by kernel_rfl) (by kernel_rfl) (fun _ _ _ h => h) (Or.inl ⟨by rfl, ?_⟩) (by assumption) ?_
     rotate_left
     ·(intro w hSw; (try dsimp only at hSw); go_simp; (try with_reducible rfl))
     try simp only [Act.put, List.setIfInBounds_toArray, List.set_cons_zero, List.set_cons_succ]
     refine wpAnyH_take (i := 18) (oi := ⟨some 84, .load 23 (.tmp 83), 23, "ref.go:66", #[⟨17, .data⟩, ⟨16, .guard⟩], some (16, false)⟩) (v := ?_) rfl (by kernel_rfl) (by kernel_rfl) (by kernel_rfl) (fun _ _ _ h => h) (Or.inl ⟨by rfl, ?_⟩) (by assumption) ?_
     rotate_left
     ·(intro w hSw; (try dsimp only at hSw); go_simp; (try with_reducible rfl))
     try simp only [Act.put, List.setIfInBounds_toArray, List.set_cons_zero, List.set_cons_succ]
     refine wpAnyH_take (i := 19) (oi := ⟨some 85, .fieldAddr 29 (.tmp 2) 3, 0, "ref.go:66", #[⟨16, .guard⟩], some (16, false)⟩) (v := ?_) rfl (by kernel_rfl) (by kernel_rfl) (by kernel_rfl) (fun _ _ _ h => h) (Or.inl ⟨by rfl, ?_⟩) (by assumption) ?_
     rotate_left
     ·(intro w hSw; (try dsimp only at hSw); go_simp; (try with_reducible rfl))
     try simp only [Act.put, List.setIfInBounds_toArray, List.set_cons_zero, List.set_cons_succ]
     refine wpAnyH_take (i := 20) (oi := ⟨some 86, .load 23 (.tmp 85), 23, "ref.go:66", #[⟨19, .data⟩, ⟨16, .guard⟩], some (16, false)⟩) (v := ?_) rfl (by kernel_rfl) (by kernel_rfl) (by kernel_rfl) (fun _ _ _ h => h) (Or.inl ⟨by rfl, ?_⟩) (by assumption) ?_
     rotate_left
     ·(intro w hSw; (try dsimp only at hSw); go_simp; (try with_reducible rfl))
     try simp only [Act.put, List.setIfInBounds_toArray, List.set_cons_zero, List.set_cons_succ]
     refine wpAnyH_take (i := 21) (oi := ⟨some 87, .move (.tmp 7), 3, "ref.go:66", #[⟨16, .guard⟩], some (16, false)⟩) (v := ?_) rfl (by kernel_rfl) (by kernel_rfl) (by kernel_rfl) (fun _ _ _ h => h) (Or.inl ⟨by rfl, ?_⟩) (by assumption) ?_
     rotate_left
     ·(intro w hSw; (try dsimp only at hSw); go_simp; (try with_reducible rfl))
     try simp only [Act.put, List.setIfInBounds_toArray, List.set_cons_zero, List.set_cons_succ]
     refine wpAnyH_take (i := 22) (oi := ⟨some 88, .indexAddr 23 (.tmp 86) (.tmp 87), 0, "ref.go:66", #[⟨20, .data⟩, ⟨21, .data⟩, ⟨16, .guard⟩], some (16, false)⟩) (v := ?_) rfl (by kernel_rfl) (by kernel_rfl) (by kernel_rfl) (fun _ _ _ h => h) (Or.inl ⟨by rfl, ?_⟩) (by assumption) ?_
     rotate_left
     ·(intro w hSw; (try dsimp only at hSw); go_simp; (try with_reducible rfl))
     try simp only [Act.put, List.setIfInBounds_toArray, List.set_cons_zero, List.set_cons_succ]
     refine wpAnyH_take (i := 23) (oi := ⟨some 89, .load 9 (.tmp 88), 9, "ref.go:66", #[⟨22, .data⟩, ⟨16, .guard⟩], some (16, false)⟩) (v := ?_) rfl (by kernel_rfl) (by kernel_rfl) (by kernel_rfl) (fun _ _ _ h => h) (Or.inl ⟨by rfl, ?_⟩) (by assumption) ?_
     rotate_left
     ·(intro w hSw; (try dsimp only at hSw); go_simp; (try with_reducible rfl))
     try simp only [Act.put, List.setIfInBounds_toArray, List.set_cons_zero, List.set_cons_succ]
     refine wpAnyH_take (i := 25) (oi := ⟨some 91, .fieldAddr 29 (.tmp 2) 3, 0, "ref.go:66", #[⟨16, .guard⟩], some (16, false)⟩) (v := ?_) rfl (by kernel_rfl) (by kernel_rfl) (by kernel_rfl) (fun _ _ _ h => h) (Or.inl ⟨by rfl, ?_⟩) (by assumption) ?_
     rotate_left
     ·(intro w hSw; (try dsimp only at hSw); go_simp; (try with_reducible rfl))
     try simp only [Act.put, List.setIfInBounds_toArray, List.set_cons_zero, List.set_cons_succ]
     refine wpAnyH_take (i := 26) (oi := ⟨some 92, .load 23 (.tmp 91), 23, "ref.go:66", #[⟨25, .data⟩, ⟨16, .guard⟩], some (16, false)⟩) (v := ?_) rfl (by kernel_rfl) (by kernel_rfl) (by kernel_rfl) (fun _ _ _ h => h) (Or.inl ⟨by rfl, ?_⟩) (by assumption) ?_
     rotate_left
     ·(intro w hSw; (try dsimp only at hSw); go_simp; (try with_reducible rfl))
     try simp only [Act.put, List.setIfInBounds_toArray, List.set_cons_zero, List.set_cons_succ]
     refine wpAnyH_take (i := 27) (oi := ⟨some 93, .fieldAddr 29 (.tmp 2) 3, 0, "ref.go:66", #[⟨16, .guard⟩], some (16, false)⟩) (v := ?_) rfl (by kernel_rfl) (by kernel_rfl) (by kernel_rfl) (fun _ _ _ h => h) (Or.inl ⟨by rfl, ?_⟩) (by assumption) ?_
     rotate_left
     ·(intro w hSw; (try dsimp only at hSw); go_simp; (try with_reducible rfl))
     try simp only [Act.put, List.setIfInBounds_toArray, List.set_cons_zero, List.set_cons_succ]
     refine wpAnyH_take (i := 28) (oi := ⟨some 94, .load 23 (.tmp 93), 23, "ref.go:66", #[⟨27, .data⟩, ⟨16, .guard⟩], some (16, false)⟩) (v := ?_) rfl (by kernel_rfl) (by kernel_rfl) (by kernel_rfl) (fun _ _ _ h => h) (Or.inl ⟨by rfl, ?_⟩) (by assumption) ?_
     rotate_left
     ·(intro w hSw; (try dsimp only at hSw); go_simp; (try with_reducible rfl))
     try simp only [Act.put, List.setIfInBounds_toArray, List.set_cons_zero, List.set_cons_succ]
     refine wpAnyH_take (i := 29) (oi := ⟨some 95, .move (.tmp 7), 3, "ref.go:66", #[⟨16, .guard⟩], some (16, false)⟩) (v := ?_) rfl (by kernel_rfl) (by kernel_rfl) (by kernel_rfl) (fun _ _ _ h => h) (Or.inl ⟨by rfl, ?_⟩) (by assumption) ?_
     rotate_left
     ·(intro w hSw; (try dsimp only at hSw); go_simp; (try with_reducible rfl))
     try simp only [Act.put, List.setIfInBounds_toArray, List.set_cons_zero, List.set_cons_succ]
     refine wpAnyH_take (i := 30) (oi := ⟨some 96, .indexAddr 23 (.tmp 94) (.tmp 95), 0, "ref.go:66", #[⟨28, .data⟩, ⟨29, .data⟩, ⟨16, .guard⟩], some (16, false)⟩) (v := ?_) rfl (by kernel_rfl) (by kernel_rfl) (by kernel_rfl) (fun _ _ _ h => h) (Or.inl ⟨by rfl, ?_⟩) (by assumption) ?_
     rotate_left
     ·(intro w hSw; (try dsimp only at hSw); go_simp; (try with_reducible rfl))
     try simp only [Act.put, List.setIfInBounds_toArray, List.set_cons_zero, List.set_cons_succ]
     refine wpAnyH_take (i := 31) (oi := ⟨some 97, .load 9 (.tmp 96), 9, "ref.go:66", #[⟨30, .data⟩, ⟨16, .guard⟩], some (16, false)⟩) (v := ?_) rfl (by kernel_rfl) (by kernel_rfl) (by kernel_rfl) (fun _ _ _ h => h) (Or.inl ⟨by rfl, ?_⟩) (by assumption) ?_
     rotate_left
     ·(intro w hSw; (try dsimp only at hSw); go_simp; (try with_reducible rfl))
     try simp only [Act.put, List.setIfInBounds_toArray, List.set_cons_zero, List.set_cons_succ]
     refine wpAnyH_ready (rs := [24]) (by kernel_rfl) (by simp) ?_
     refine AllReadyH.cons (o := ⟨some 90, .call { callee := .value (.func 47), args := #[.tmp 84, .tmp 89], argTypes := #[23, 9] }, 3, "ref.go:66", #[⟨18, .data⟩, ⟨23, .data⟩, ⟨16, .chain⟩, ⟨16, .guard⟩], some (16, false)⟩) rfl (fun K hK => ?_) AllReadyH.nil
     go_simp
     (go_at_call 47; refine (HA2.out _ HBd.out).mono ?_; rintro e wx ⟨rfl, rfl⟩)
     (try go_wp2_with fail)
     refine hK.out _ _ (HSd.out) ?_
     clear hK K hHeld
     intro hHeld
     try simp only [Act.put, List.setIfInBounds_toArray, List.set_cons_zero, List.set_cons_succ]
     refine wpAnyH_ready (rs := [32]) (by kernel_rfl) (by simp) ?_
     refine AllReadyH.cons (o := ⟨some 98, .call { callee := .value (.func 47), args := #[.tmp 92, .tmp 97], argTypes := #[23, 9] }, 3, "ref.go:66", #[⟨26, .data⟩, ⟨31, .data⟩, ⟨24, .chain⟩, ⟨16, .guard⟩], some (16, false)⟩) rfl (fun K hK => ?_) AllReadyH.nil
     go_simp
     (go_at_call 47; refine (HA1.out _ HBd.out).mono ?_; rintro e wx ⟨rfl, rfl⟩)
     (try go_wp2_with fail)
     refine hK.out _ _ (HSd.out) ?_
     clear hK K hHeld
     intro hHeld
     try simp only [Act.put, List.setIfInBounds_toArray, List.set_cons_zero, List.set_cons_succ]
     refine wpAnyH_take (i := 33) (oi := ⟨some 99, .binOp .neq 3 (.tmp 90) (.tmp 98) 3, 4, "ref.go:66", #[⟨24, .data⟩, ⟨32, .data⟩, ⟨16, .guard⟩], some (16, false)⟩) (v := ?_) rfl (by kernel_rfl) (by kernel_rfl) (by kernel_rfl) (fun _ _ _ h => h) (Or.inl ⟨by rfl, ?_⟩) (by assumption) ?_
     rotate_left
     ·(intro w hSw; (try dsimp only at hSw); go_simp; (try with_reducible rfl))
     try simp only [Act.put, List.setIfInBounds_toArray, List.set_cons_zero, List.set_cons_succ]
     refine wpAnyH_take (i := 34) (oi := ⟨some 100, .pick (.tmp 82) (.const (.bool true)) (.tmp 99), 4, "ref.go:66", #[⟨16, .data⟩, ⟨33, .data⟩], none⟩) (v := ?_) rfl (by kernel_rfl) (by kernel_rfl) (by kernel_rfl) (fun _ _ _ h => h) (Or.inl ⟨by rfl, ?_⟩) (by assumption) ?_
     rotate_left
     ·(intro w hSw; (try dsimp only at hSw); go_simp; (try with_reducible rfl))
     try simp only [Act.put, List.setIfInBounds_toArray, List.set_cons_zero, List.set_cons_succ]
     refine wpAnyH_done (by kernel_rfl) ?_ _
     go_wp2
     go_roundg (gk - 1)
     case measure => omega
     case rel => exact ⟨i + 1, by omega, by go_num, HIn2, HBd⟩
    ·have HNo : Hid (¬ l1.Perm l2) := fun hp => by
      have h3 : cntB l1 K = cntB l2 K := hp.countP_eq _
      have := HCt.out
      omega
     obtain ⟨ct, hct⟩ : ∃ ct, cntB l2 K = ct := ⟨_, rfl⟩
     rw [hct] at HA2 hm
     have hne : ((ct : Int) != 1) = true := by simp; omega
     have hne2 : ¬ (ct : Int) = 1 := by omega
     clear hm hct
     go_upto_region 12 with fail
     refine wp_region_held_drew (S := fun w' => w'.cell? ⟨w.heap.size, 0, none⟩ = some (.int .i64 3) ∧ w'.cell? ⟨w.heap.size, 3, none⟩ = some (.slice (some ⟨g1, o1, none⟩) n c1) ∧ w'.cell? ⟨w0.heap.size, 3, none⟩ = some (.slice (some ⟨g2, o2, none⟩) n c2) ∧ w'.cell? ⟨g1, o1 + i, none⟩ = some (.string K) ∧ w'.cell? ⟨g2, o2 + i, none⟩ = some (.string M)) (by kernel_rfl) (HSd.out) (fun hHeld => ?_)
     refine wpAnyH_take (i := 0) (oi := ⟨some 66, .fieldAddr 29 (.tmp 2) 0, 0, "ref.go:66", #[], none⟩) (v := ?_) rfl (by kernel_rfl) (by kernel_rfl) (by kernel_rfl) (fun _ _ _ h => h) (Or.inl ⟨by rfl, ?_⟩) (by assumption) ?_
     rotate_left
     ·(intro w hSw; (try dsimp only at hSw); go_simp; (try with_reducible rfl))
     try simp only [Act.put, List.setIfInBounds_toArray, List.set_cons_zero, List.set_cons_succ]
     refine wpAnyH_take (i := 1) (oi := ⟨some 67, .load 3 (.tmp 66), 3, "ref.go:66", #[⟨0, .data⟩], none⟩) (v := ?_) rfl (by kernel_rfl) (by kernel_rfl) (by kernel_rfl) (fun _ _ _ h => h) (Or.inl ⟨by rfl, ?_⟩) (by assumption) ?_
     rotate_left
     ·(intro w hSw; (try dsimp only at hSw); go_simp; (try with_reducible rfl))
     try simp only [Act.put, List.setIfInBounds_toArray, List.set_cons_zero, List.set_cons_succ]
     refine wpAnyH_take (i := 2) (oi := ⟨some 68, .binOp .eql 3 (.tmp 67) (.const (.int Go.IntKind.i64 4)) 3, 4, "ref.go:66", #[⟨1, .data⟩], none⟩) (v := ?_) rfl (by kernel_rfl) (by kernel_rfl) (by kernel_rfl) (fun _ _ _ h => h) (Or.inl ⟨by rfl, ?_⟩) (by assumption) ?_
     rotate_left
     ·(intro w hSw; (try dsimp only at hSw); go_simp; (try with_reducible rfl))
     try simp only [Act.put, List.setIfInBounds_toArray, List.set_cons_zero, List.set_cons_succ]
     refine wpAnyH_take (i := 3) (oi := ⟨some 69, .move (.tmp 68), 4, "ref.go:66", #[⟨2, .data⟩], none⟩) (v := ?_) rfl (by kernel_rfl) (by kernel_rfl) (by kernel_rfl) (fun _ _ _ h => h) (Or.inl ⟨by rfl, ?_⟩) (by assumption) ?_
     rotate_left
     ·(intro w hSw; (try dsimp only at hSw); go_simp; (try with_reducible rfl))
     try simp only [Act.put, List.setIfInBounds_toArray, List.set_cons_zero, List.set_cons_succ]
     refine wpAnyH_take (i := 4) (oi := ⟨some 70, .fieldAddr 29 (.tmp 2) 3, 0, "ref.go:66", #[⟨3, .guard⟩], some (3, true)⟩) (v := undef) rfl (by kernel_rfl) (by kernel_rfl) (by kernel_rfl) (fun _ _ _ h => h) (Or.inr ⟨by rfl, rfl⟩) (by assumption) ?_
     try simp only [Act.put, List.setIfInBounds_toArray, List.set_cons_zero, List.set_cons_succ]
     refine wpAnyH_take (i := 5) (oi := ⟨some 71, .load 23 (.tmp 70), 23, "ref.go:66", #[⟨4, .data⟩, ⟨3, .guard⟩], some (3, true)⟩) (v := undef) rfl (by kernel_rfl) (by kernel_rfl) (by kernel_rfl) (fun _ _ _ h => h) (Or.inr ⟨by rfl, rfl⟩) (by assumption) ?_
     try simp only [Act.put, List.setIfInBounds_toArray, List.set_cons_zero, List.set_cons_succ]
     refine wpAnyH_take (i := 6) (oi := ⟨some 72, .move (.tmp 7), 3, "ref.go:66", #[⟨3, .guard⟩], some (3, true)⟩) (v := undef) rfl (by kernel_rfl) (by kernel_rfl) (by kernel_rfl) (fun _ _ _ h => h) (Or.inr ⟨by rfl, rfl⟩) (by assumption) ?_
     try simp only [Act.put, List.setIfInBounds_toArray, List.set_cons_zero, List.set_cons_succ]
     refine wpAnyH_take (i := 7) (oi := ⟨some 73, .indexAddr 23 (.tmp 71) (.tmp 72), 0, "ref.go:66", #[⟨5, .data⟩, ⟨6, .data⟩, ⟨3, .guard⟩], some (3, true)⟩) (v := undef) rfl (by kernel_rfl) (by kernel_rfl) (by kernel_rfl) (fun _ _ _ h => h) (Or.inr ⟨by rfl, rfl⟩) (by assumption) ?_
     try simp only [Act.put, List.setIfInBounds_toArray, List.set_cons_zero, List.set_cons_succ]
     refine wpAnyH_take (i := 8) (oi := ⟨some 74, .load 9 (.tmp 73), 9, "ref.go:66", #[⟨7, .data⟩, ⟨3, .guard⟩], some (3, true)⟩) (v := undef) rfl (by kernel_rfl) (by kernel_rfl) (by kernel_rfl) (fun _ _ _ h => h) (Or.inr ⟨by rfl, rfl⟩) (by assumption) ?_
     try simp only [Act.put, List.setIfInBounds_toArray, List.set_cons_zero, List.set_cons_succ]
     refine wpAnyH_take (i := 9) (oi := ⟨some 75, .fieldAddr 29 (.tmp 3) 3, 0, "ref.go:66", #[⟨3, .guard⟩], some (3, true)⟩) (v := undef) rfl (by kernel_rfl) (by kernel_rfl) (by kernel_rfl) (fun _ _ _ h => h) (Or.inr ⟨by rfl, rfl⟩) (by assumption) ?_
     try simp only [Act.put, List.setIfInBounds_toArray, List.set_cons_zero, List.set_cons_succ]
     refine wpAnyH_take (i := 10) (oi := ⟨some 76, .load 23 (.tmp 75), 23, "ref.go:66", #[⟨9, .data⟩, ⟨3, .guard⟩], some (3, true)⟩) (v := undef) rfl (by kernel_rfl) (by kernel_rfl) (by kernel_rfl) (fun _ _ _ h => h) (Or.inr ⟨by rfl, rfl⟩) (by assumption) ?_
     try simp only [Act.put, List.setIfInBounds_toArray, List.set_cons_zero, List.set_cons_succ]
     refine wpAnyH_take (i := 11) (oi := ⟨some 77, .move (.tmp 7), 3, "ref.go:66", #[⟨3, .guard⟩], some (3, true)⟩) (v := undef) rfl (by kernel_rfl) (by kernel_rfl) (by kernel_rfl) (fun _ _ _ h => h) (Or.inr ⟨by rfl, rfl⟩) (by assumption) ?_
     try simp only [Act.put, List.setIfInBounds_toArray, List.set_cons_zero, List.set_cons_succ]
     refine wpAnyH_take (i := 12) (oi := ⟨some 78, .indexAddr 23 (.tmp 76) (.tmp 77), 0, "ref.go:66", #[⟨10, .data⟩, ⟨11, .data⟩, ⟨3, .guard⟩], some (3, true)⟩) (v := undef) rfl (by kernel_rfl) (by kernel_rfl) (by kernel_rfl) (fun _ _ _ h => h) (Or.inr ⟨by rfl, rfl⟩) (by assumption) ?_
     try simp only [Act.put, List.setIfInBounds_toArray, List.set_cons_zero, List.set_cons_succ]
     refine wpAnyH_take (i := 13) (oi := ⟨some 79, .load 9 (.tmp 78), 9, "ref.go:66", #[⟨12, .data⟩, ⟨3, .guard⟩], some (3, true)⟩) (v := undef) rfl (by kernel_rfl) (by kernel_rfl) (by kernel_rfl) (fun _ _ _ h => h) (Or.inr ⟨by rfl, rfl⟩) (by assumption) ?_
     try simp only [Act.put, List.setIfInBounds_toArray, List.set_cons_zero, List.set_cons_succ]
     refine wpAnyH_take (i := 14) (oi := ⟨some 80, .binOp .neq 9 (.tmp 74) (.tmp 79) 9, 4, "ref.go:66", #[⟨8, .data⟩, ⟨13, .data⟩, ⟨3, .guard⟩], some (3, true)⟩) (v := undef) rfl (by kernel_rfl) (by kernel_rfl) (by kernel_rfl) (fun _ _ _ h => h) (Or.inr ⟨by rfl, rfl⟩) (by assumption) ?_
     try simp only [Act.put, List.setIfInBounds_toArray, List.set_cons_zero, List.set_cons_succ]
     refine wpAnyH_take (i := 15) (oi := ⟨some 81, .pick (.tmp 69) (.tmp 80) (.const (.bool false)), 4, "ref.go:66", #[⟨3, .data⟩, ⟨14, .data⟩], none⟩) (v := ?_) rfl (by kernel_rfl) (by kernel_rfl) (by kernel_rfl) (fun _ _ _ h => h) (Or.inl ⟨by rfl, ?_⟩) (by assumption) ?_
     rotate_left
     ·(intro w hSw; (try dsimp only at hSw); go_simp; (try with_reducible rfl))
     try simp only [Act.put, List.setIfInBounds_toArray, List.set_cons_zero, List.set_cons_succ]
     refine wpAnyH_take (i := 16) (oi := ⟨some 82, .move (.tmp 81), 4, "ref.go:66", #[⟨15, .data⟩, ⟨3, .chain⟩], none⟩) (v := ?_) rfl (by kernel_rfl) (by kernel_rfl) (by kernel_rfl) (fun _ _ _ h => h) (Or.inl ⟨by rfl, ?_⟩) (by assumption) ?_
     rotate_left
     ·(intro w hSw; (try dsimp only at hSw); go_simp; (try with_reducible rfl))
     try simp only [Act.put, List.setIfInBounds_toArray, List.set_cons_zero, List.set_cons_succ]
     refine wpAnyH_take (i := 17) (oi := ⟨some 83, .fieldAddr 29 (.tmp 3) 3, 0, "ref.go:66", #[⟨16, .guard⟩], some (16, false)⟩) (v := ?_) rfl (by kernel_rfl) (by kernel_rfl) (by kernel_rfl) (fun _ _ _ h => h) (Or.inl ⟨by rfl, ?_⟩) (by assumption) ?_
     rotate_left
     ·(intro w hSw; (try dsimp only at hSw); go_simp; (try with_reducible rfl))
     try simp only [Act.put, List.setIfInBounds_toArray, List.set_cons_zero, List.set_cons_succ]
     refine wpAnyH_take (i := 18) (oi := ⟨some 84, .load 23 (.tmp 83), 23, "ref.go:66", #[⟨17, .data⟩, ⟨16, .guard⟩], some (16, false)⟩) (v := ?_) rfl (by kernel_rfl) (by kernel_rfl) (by kernel_rfl) (fun _ _ _ h => h) (Or.inl ⟨by rfl, ?_⟩) (by assumption) ?_
     rotate_left
     ·(intro w hSw; (try dsimp only at hSw); go_simp; (try with_reducible rfl))
     try simp only [Act.put, List.setIfInBounds_toArray, List.set_cons_zero, List.set_cons_succ]
     refine wpAnyH_take (i := 19) (oi := ⟨some 85, .fieldAddr 29 (.tmp 2) 3, 0, "ref.go:66", #[⟨16, .guard⟩], some (16, false)⟩) (v := ?_) rfl (by kernel_rfl) (by kernel_rfl) (by kernel_rfl) (fun _ _ _ h => h) (Or.inl ⟨by rfl, ?_⟩) (by assumption) ?_
     rotate_left
     ·(intro w hSw; (try dsimp only at hSw); go_simp; (try with_reducible rfl))
     try simp only [Act.put, List.setIfInBounds_toArray, List.set_cons_zero, List.set_cons_succ]
     refine wpAnyH_take (i := 20) (oi := ⟨some 86, .load 23 (.tmp 85), 23, "ref.go:66", #[⟨19, .data⟩, ⟨16, .guard⟩], some (16, false)⟩) (v := ?_) rfl (by kernel_rfl) (by kernel_rfl) (by kernel_rfl) (fun _ _ _ h => h) (Or.inl ⟨by rfl, ?_⟩) (by assumption) ?_
     rotate_left
     ·(intro w hSw; (try dsimp only at hSw); go_simp; (try with_reducible rfl))
     try simp only [Act.put, List.setIfInBounds_toArray, List.set_cons_zero, List.set_cons_succ]
     refine wpAnyH_take (i := 21) (oi := ⟨some 87, .move (.tmp 7), 3, "ref.go:66", #[⟨16, .guard⟩], some (16, false)⟩) (v := ?_) rfl (by kernel_rfl) (by kernel_rfl) (by kernel_rfl) (fun _ _ _ h => h) (Or.inl ⟨by rfl, ?_⟩) (by assumption) ?_
     rotate_left
     ·(intro w hSw; (try dsimp only at hSw); go_simp; (try with_reducible rfl))
     try simp only [Act.put, List.setIfInBounds_toArray, List.set_cons_zero, List.set_cons_succ]
     refine wpAnyH_take (i := 22) (oi := ⟨some 88, .indexAddr 23 (.tmp 86) (.tmp 87), 0, "ref.go:66", #[⟨20, .data⟩, ⟨21, .data⟩, ⟨16, .guard⟩], some (16, false)⟩) (v := ?_) rfl (by kernel_rfl) (by kernel_rfl) (by kernel_rfl) (fun _ _ _ h => h) (Or.inl ⟨by rfl, ?_⟩) (by assumption) ?_
     rotate_left
     ·(intro w hSw; (try dsimp only at hSw); go_simp; (try with_reducible rfl))
     try simp only [Act.put, List.setIfInBounds_toArray, List.set_cons_zero, List.set_cons_succ]
     refine wpAnyH_take (i := 23) (oi := ⟨some 89, .load 9 (.tmp 88), 9, "ref.go:66", #[⟨22, .data⟩, ⟨16, .guard⟩], some (16, false)⟩) (v := ?_) rfl (by kernel_rfl) (by kernel_rfl) (by kernel_rfl) (fun _ _ _ h => h) (Or.inl ⟨by rfl, ?_⟩) (by assumption) ?_
     rotate_left
     ·(intro w hSw; (try dsimp only at hSw); go_simp; (try with_reducible rfl))
     try simp only [Act.put, List.setIfInBounds_toArray, List.set_cons_zero, List.set_cons_succ]
     refine wpAnyH_take (i := 25) (oi := ⟨some 91, .fieldAddr 29 (.tmp 2) 3, 0, "ref.go:66", #[⟨16, .guard⟩], some (16, false)⟩) (v := ?_) rfl (by kernel_rfl) (by kernel_rfl) (by kernel_rfl) (fun _ _ _ h => h) (Or.inl ⟨by rfl, ?_⟩) (by assumption) ?_
     rotate_left
     ·(intro w hSw; (try dsimp only at hSw); go_simp; (try with_reducible rfl))
     try simp only [Act.put, List.setIfInBounds_toArray, List.set_cons_zero, List.set_cons_succ]
     refine wpAnyH_take (i := 26) (oi := ⟨some 92, .load 23 (.tmp 91), 23, "ref.go:66", #[⟨25, .data⟩, ⟨16, .guard⟩], some (16, false)⟩) (v := ?_) rfl (by kernel_rfl) (by kernel_rfl) (by kernel_rfl) (fun _ _ _ h => h) (Or.inl ⟨by rfl, ?_⟩) (by assumption) ?_
     rotate_left
     ·(intro w hSw; (try dsimp only at hSw); go_simp; (try with_reducible rfl))
     try simp only [Act.put, List.setIfInBounds_toArray, List.set_cons_zero, List.set_cons_succ]
     refine wpAnyH_take (i := 27) (oi := ⟨some 93, .fieldAddr 29 (.tmp 2) 3, 0, "ref.go:66", #[⟨16, .guard⟩], some (16, false)⟩) (v := ?_) rfl (by kernel_rfl) (by kernel_rfl) (by kernel_rfl) (fun _ _ _ h => h) (Or.inl ⟨by rfl, ?_⟩) (by assumption) ?_
     rotate_left
     ·(intro w hSw; (try dsimp only at hSw); go_simp; (try with_reducible rfl))
     try simp only [Act.put, List.setIfInBounds_toArray, List.set_cons_zero, List.set_cons_succ]
     refine wpAnyH_take (i := 28) (oi := ⟨some 94, .load 23 (.tmp 93), 23, "ref.go:66", #[⟨27, .data⟩, ⟨16, .guard⟩], some (16, false)⟩) (v := ?_) rfl (by kernel_rfl) (by kernel_rfl) (by kernel_rfl) (fun _ _ _ h => h) (Or.inl ⟨by rfl, ?_⟩) (by assumption) ?_
     rotate_left
     ·(intro w hSw; (try dsimp only at hSw); go_simp; (try with_reducible rfl))
     try simp only [Act.put, List.setIfInBounds_toArray, List.set_cons_zero, List.set_cons_succ]
     refine wpAnyH_take (i := 29) (oi := ⟨some 95, .move (.tmp 7), 3, "ref.go:66", #[⟨16, .guard⟩], some (16, false)⟩) (v := ?_) rfl (by kernel_rfl) (by kernel_rfl) (by kernel_rfl) (fun _ _ _ h => h) (Or.inl ⟨by rfl, ?_⟩) (by assumption) ?_
     rotate_left
     ·(intro w hSw; (try dsimp only at hSw); go_simp; (try with_reducible rfl))
     try simp only [Act.put, List.setIfInBounds_toArray, List.set_cons_zero, List.set_cons_succ]
     refine wpAnyH_take (i := 30) (oi := ⟨some 96, .indexAddr 23 (.tmp 94) (.tmp 95), 0, "ref.go:66", #[⟨28, .data⟩, ⟨29, .data⟩, ⟨16, .guard⟩], some (16, false)⟩) (v := ?_) rfl (by kernel_rfl) (by kernel_rfl) (by kernel_rfl) (fun _ _ _ h => h) (Or.inl ⟨by rfl, ?_⟩) (by assumption) ?_
     rotate_left
     ·(intro w hSw; (try dsimp only at hSw); go_simp; (try with_reducible rfl))
     try simp only [Act.put, List.setIfInBounds_toArray, List.set_cons_zero, List.set_cons_succ]
     refine wpAnyH_take (i := 31) (oi := ⟨some 97, .load 9 (.tmp 96), 9, "ref.go:66", #[⟨30, .data⟩, ⟨16, .guard⟩], some (16, false)⟩) (v := ?_) rfl (by kernel_rfl) (by kernel_rfl) (by kernel_rfl) (fun _ _ _ h => h) (Or.inl ⟨by rfl, ?_⟩) (by assumption) ?_
     rotate_left
     ·(intro w hSw; (try dsimp only at hSw); go_simp; (try with_reducible rfl))
     try simp only [Act.put, List.setIfInBounds_toArray, List.set_cons_zero, List.set_cons_succ]
     refine wpAnyH_ready (rs := [24]) (by kernel_rfl) (by simp) ?_
     refine AllReadyH.cons (o := ⟨some 90, .call { callee := .value (.func 47), args := #[.tmp 84, .tmp 89], argTypes := #[23, 9] }, 3, "ref.go:66", #[⟨18, .data⟩, ⟨23, .data⟩, ⟨16, .chain⟩, ⟨16, .guard⟩], some (16, false)⟩) rfl (fun K hK => ?_) AllReadyH.nil
     go_simp
     (go_at_call 47; refine (HA2.out _ HBd.out).mono ?_; rintro e wx ⟨rfl, rfl⟩)
     (try go_wp2_with fail)
     refine hK.out _ _ (HSd.out) ?_
     clear hK K hHeld
     intro hHeld
     try simp only [Act.put, List.setIfInBounds_toArray, List.set_cons_zero, List.set_cons_succ]
     refine wpAnyH_ready (rs := [32]) (by kernel_rfl) (by simp) ?_
     refine AllReadyH.cons (o := ⟨some 98, .call { callee := .value (.func 47), args := #[.tmp 92, .tmp 97], argTypes := #[23, 9] }, 3, "ref.go:66", #[⟨26, .data⟩, ⟨31, .data⟩, ⟨24, .chain⟩, ⟨16, .guard⟩], some (16, false)⟩) rfl (fun K hK => ?_) AllReadyH.nil
     go_simp
     (go_at_call 47; refine (HA1.out _ HBd.out).mono ?_; rintro e wx ⟨rfl, rfl⟩)
     (try go_wp2_with fail)
     refine hK.out _ _ (HSd.out) ?_
     clear hK K hHeld
     intro hHeld
     try simp only [Act.put, List.setIfInBounds_toArray, List.set_cons_zero, List.set_cons_succ]
     refine wpAnyH_take (i := 33) (oi := ⟨some 99, .binOp .neq 3 (.tmp 90) (.tmp 98) 3, 4, "ref.go:66", #[⟨24, .data⟩, ⟨32, .data⟩, ⟨16, .guard⟩], some (16, false)⟩) (v := ?_) rfl (by kernel_rfl) (by kernel_rfl) (by kernel_rfl) (fun _ _ _ h => h) (Or.inl ⟨by rfl, ?_⟩) (by assumption) ?_
     rotate_left
     ·(intro w hSw; (try dsimp only at hSw); go_simp; (try with_reducible rfl))
     try simp only [Act.put, List.setIfInBounds_toArray, List.set_cons_zero, List.set_cons_succ]
     refine wpAnyH_take (i := 34) (oi := ⟨some 100, .pick (.tmp 82) (.const (.bool true)) (.tmp 99), 4, "ref.go:66", #[⟨16, .data⟩, ⟨33, .data⟩], none⟩) (v := ?_) rfl (by kernel_rfl) (by kernel_rfl) (by kernel_rfl) (fun _ _ _ h => h) (Or.inl ⟨by rfl, ?_⟩) (by assumption) ?_
     rotate_left
     ·(intro w hSw; (try dsimp only at hSw); go_simp; (try with_reducible rfl))
     try simp only [Act.put, List.setIfInBounds_toArray, List.set_cons_zero, List.set_cons_succ]
     refine wpAnyH_done (by kernel_rfl) ?_ _
     go_wp2
     go_ret
     exact EqR.no HBe.out HNo.out
   ·have HP : Hid (l1.Perm l2) := by
     have h1 := HIn.out
     rw [List.take_of_length_le (by have := HN1.out; omega)] at h1
     exact perm_of_sub HK1.out h1 (HN1.out.trans HN2.out.symm)
    have HBe := step_below HB1 HB.out
    go_wp2
    go_ret
    exact EqR.yes HBe.out HP.out
end Go.Proofs.YtikimcbalkhooaaGreat
