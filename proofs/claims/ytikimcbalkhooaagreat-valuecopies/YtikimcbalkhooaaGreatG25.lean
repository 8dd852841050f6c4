/- Texts that the others stand on. -/
import Derived.Test.YtikimcbalkhooaaGreatG24
import Derived.Deep.RegionHeld3
namespace Go.Proofs.YtikimcbalkhooaaGreat
open Go.RowKit Go.PlainAid
open Dk (En keysOf hasK putE ecells)
set_option maxRecDepth 100000 in
set_option maxHeartbeats 8000000 in
theorem tells_h (B v : Nat) (one : Bool) (F : List Nat) (C : Nat) (a : Option Addr) (n c : Nat) (es : List En) (le lt : Int) (w : World) (h : PV w B v (.hsh es) one F) (hO : OwnQ w C a n c es) (hok : VD.ok (.hsh es)) :
  Calls Tryz.prog 9 #[ptr v, .agg #[.int .i64 2, .string ⟨#[]⟩, .slice a n c, .slice none 0 0], .agg #[.int .i64 le, .int .i64 lt]] w fun e w' => e = .returned (.bool true) ∧ Below w.heap.size w w' := by
 obtain ⟨w0, hw0⟩ : ∃ w0, w.alloc (.cells #[.int .i64 2, .string ⟨#[]⟩, .slice a n c, .slice none 0 0] 29) = w0 := ⟨_, rfl⟩
 obtain ⟨w1, hw1⟩ : ∃ w1, w0.alloc (.cells #[.int .i64 le, .int .i64 lt] 28) = w1 := ⟨_, rfl⟩
 have hb0 : Below w.heap.size w w0 := by rw [← hw0]; exact alloc_below w _
 have hb1 : Below w0.heap.size w0 w1 := by rw [← hw1]; exact alloc_below w0 _
 have hl0 : w.heap.size < w0.heap.size := by rw [← hw0]; exact alloc_lt w _ _
 have hl1 : w0.heap.size < w1.heap.size := by rw [← hw1]; exact alloc_lt w0 _ _
 have hb : Below w.heap.size w w1 := hb0.trans (hb1.mono hb0.size)
 have HB1 : Hid (Below w.heap.size w w1) := hb
 have hP := h.keep hb
 have hV0 : Vl w C (.hsh es) (.agg #[.int .i64 2, .string ⟨#[]⟩, .slice a n c, .slice none 0 0]) := ⟨a, n, c, rfl, hO⟩
 have hV := hV0.keep hb
 have HP : Hid (PV w1 B v (.hsh es) one F) := hP
 have HOk : Hid (VD.ok (.hsh es)) := hok
 have HC : Hid (∀ wx, Below w1.heap.size w1 wx → wx.cell? ⟨v, 0, none⟩ = some (.int .i64 2) ∧ wx.cell? ⟨w.heap.size, 0, none⟩ = some (.int .i64 2) ∧ wx.cell? ⟨w.heap.size, 1, none⟩ = some (.string ⟨#[]⟩) ∧ wx.cell? ⟨w.heap.size, 2, none⟩ = some (.slice a n c) ∧ wx.cell? ⟨w.heap.size, 3, none⟩ = some (.slice none 0 0)) := fun wx hx => by
  refine ⟨(hP.keep hx).ck, ?_, ?_, ?_, ?_⟩
  ·rw [hx.cell (p := ⟨w.heap.size, 0, none⟩) (Nat.lt_trans hl0 hl1), hb1.cell (p := ⟨w.heap.size, 0, none⟩) hl0, ← hw0]; exact cell_new w _ _ 0 _ rfl
  ·rw [hx.cell (p := ⟨w.heap.size, 1, none⟩) (Nat.lt_trans hl0 hl1), hb1.cell (p := ⟨w.heap.size, 1, none⟩) hl0, ← hw0]; exact cell_new w _ _ 1 _ rfl
  ·rw [hx.cell (p := ⟨w.heap.size, 2, none⟩) (Nat.lt_trans hl0 hl1), hb1.cell (p := ⟨w.heap.size, 2, none⟩) hl0, ← hw0]; exact cell_new w _ _ 2 _ rfl
  ·rw [hx.cell (p := ⟨w.heap.size, 3, none⟩) (Nat.lt_trans hl0 hl1), hb1.cell (p := ⟨w.heap.size, 3, none⟩) hl0, ← hw0]; exact cell_new w _ _ 3 _ rfl
 have HCL : Hid (∀ wx, Below w1.heap.size w1 wx → wx.cell? ⟨w0.heap.size, 0, none⟩ = some (.int .i64 le) ∧ wx.cell? ⟨w0.heap.size, 1, none⟩ = some (.int .i64 lt)) := fun wx hx => by
  rw [hx.cell (p := ⟨w0.heap.size, 0, none⟩) hl1, hx.cell (p := ⟨w0.heap.size, 1, none⟩) hl1, ← hw1]
  exact ⟨cell_new w0 _ _ 0 _ rfl, cell_new w0 _ _ 1 _ rfl⟩
 obtain ⟨L, hL⟩ : ∃ L, VD.len (.hsh es) = L := ⟨_, rfl⟩
 obtain ⟨E, hE⟩ : ∃ E, VD.emp (.hsh es) = E := ⟨_, rfl⟩
 have HL1 : Hid (∀ wx, Below w1.heap.size w1 wx → Calls Tryz.prog 22 #[ptr v] wx fun e w' => e = .returned (.int .i64 (L : Nat)) ∧ Below wx.heap.size wx w') := fun wx hx => by rw [← hL]; exact LenV wx B v _ one F (hP.keep hx)
 have HL2 : Hid (∀ wx, Below w1.heap.size w1 wx → Calls Tryz.prog 30 #[.agg #[.int .i64 2, .string ⟨#[]⟩, .slice a n c, .slice none 0 0]] wx fun e w' => e = .returned (.int .i64 (L : Nat)) ∧ Below wx.heap.size wx w') := fun wx hx => by rw [← hL]; exact (hV.keep hx).len
 have HE1 : Hid (∀ wx, Below w1.heap.size w1 wx → Calls Tryz.prog 21 #[ptr v] wx fun e w' => e = .returned (.bool E) ∧ Below wx.heap.size wx w') := fun wx hx => by rw [← hE]; exact EmptyV wx B v _ one F (hP.keep hx)
 have HE2 : Hid (∀ wx, Below w1.heap.size w1 wx → Calls Tryz.prog 31 #[.agg #[.int .i64 2, .string ⟨#[]⟩, .slice a n c, .slice none 0 0]] wx fun e w' => e = .returned (.bool E) ∧ Below wx.heap.size wx w') := fun wx hx => by rw [← hE]; exact (hV.keep hx).empty
 have HT1 : Hid (∀ wx, Below w1.heap.size w1 wx → Calls Tryz.prog 23 #[ptr v] wx fun e w' => e = .returned (.string (typ 2)) ∧ w' = wx) := fun wx hx => TypeV wx B v _ one F (hP.keep hx)
 have HT2 : Hid (∀ wx, Calls Tryz.prog 25 #[.int .i64 2] wx fun e w' => e = .returned (.string (typ 2)) ∧ w' = wx) := fun wx => rType_any wx 2 (by decide) (by decide)
 generalize typ 2 = T at HT1 HT2
 have HD : Hid (Below w1.heap.size w1 w1.drew) := below_drewN w1 1
 have HO : Hid (OwnQ w1 C a n c es) := Dk.OwnR.keep hO hb
 clear hb0 hb1 hl0 hl1 hb hP hV hV0 hL hE h hok hO
 go_enter Tryz.func9, Tryz.ntmps9
 go_upto_region 1 with fail
 go_cut [39] from 11 to 39 (fun u wx => ∃ wy, wy = wx ∧ u = .bool false ∧ Hid (Below w1.heap.size w1 wy))
 case first =>
  cases E
  all_goals
   go_region_held3 (fun w' => w'.cell? ⟨v, 0, none⟩ = some (.int .i64 2) ∧ w'.cell? ⟨w.heap.size, 0, none⟩ = some (.int .i64 2) ∧ w'.cell? ⟨w.heap.size, 1, none⟩ = some (.string ⟨#[]⟩) ∧ w'.cell? ⟨w.heap.size, 2, none⟩ = some (.slice a n c) ∧ w'.cell? ⟨w.heap.size, 3, none⟩ = some (.slice none 0 0)) (exact HC.out _ HD.out) (first
    | (go_at_call 22; refine (HL1.out _ HD.out).mono ?_; rintro e wx ⟨rfl, hb⟩; replace HD := step_below HD hb; clear hb)
    | (go_at_call 30; refine (HL2.out _ HD.out).mono ?_; rintro e wx ⟨rfl, hb⟩; replace HD := step_below HD hb; clear hb)
    | (go_at_call 21; refine (HE1.out _ HD.out).mono ?_; rintro e wx ⟨rfl, hb⟩; replace HD := step_below HD hb; clear hb)
    | (go_at_call 31; refine (HE2.out _ HD.out).mono ?_; rintro e wx ⟨rfl, hb⟩; replace HD := step_below HD hb; clear hb)
    | (go_at_call 23; refine (HT1.out _ HD.out).mono ?_; rintro e wx ⟨rfl, rfl⟩)
    | (go_at_call 25; refine (HT2.out _).mono ?_; rintro e wx ⟨rfl, rfl⟩))
   all_goals
    go_wp2
    go_meet
    exact ⟨_, rfl, rfl, HD⟩
 case rest =>
 obtain ⟨w2, rfl, rfl, HD2⟩ := hcut
 clear HL1 HL2 HE1 HE2 HT1 HT2 HD
 have HE := EncodingV w2 B v _ one F (HP.out.keep HD2.out) HOk.out
 obtain ⟨m, x, E2, T2, hVB, hH⟩ := HP.out.hash
 have HH : Hid (Hm w1 B m x E2 T2 es one F) := hH
 have HF : Hid (∀ wx, Below w1.heap.size w1 wx → wx.cell? ⟨v, 2, none⟩ = some (ptr m)) := fun wx hx => (hVB.keep hx).ch
 have HLn : Hid (es.length = n) := OwnQ.len HO.out
 have hn : n ≤ 100 := by rw [← HLn.out]; exact HOk.out.1
 clear hH hVB
 have HAl : Hid (∀ wx, Below w1.heap.size w1 wx → Calls Tryz.prog 35 #[ptr m] wx fun e w' => Below wx.heap.size wx w' ∧ ∃ a5 c5 fs, e = .returned (.slice a5 n c5) ∧ OwnQ w' wx.heap.size a5 n c5 fs ∧ fs.Perm es) := fun wx hx => by
  refine (AllH B m x E2 T2 es one F wx (HH.out.keep hx)).mono ?_
  rintro e w5 ⟨hb, a5, n5, c5, fs, rfl, hO5, hp⟩
  have e1 : n5 = n := by rw [← OwnQ.len hO5, hp.length_eq, HLn.out]
  subst e1
  exact ⟨hb, a5, c5, fs, rfl, hO5, hp⟩
 have HCmp : Hid (∀ wx, Below w1.heap.size w1 wx → ∀ wy a5 c5 fs, OwnQ wx wy a5 n c5 fs → fs.Perm es → Calls Tryz.prog 34 #[.slice a5 n c5, .slice a n c] wx fun e w' => e = .returned (.bool true) ∧ Below wx.heap.size wx w') := fun wx hx wy a5 c5 fs h5 hp => Pairs_same wy C a5 a n c5 c fs es wx h5 (Dk.OwnR.keep HO.out hx) hp (by omega)
 have HPk : Hid (∀ wx, Below w1.heap.size w1 wx → Calls Tryz.prog 33 #[ptr m] wx fun e w' => e = .returned (.bool one) ∧ w' = wx) := fun wx hx => PackedH B m x E2 T2 es one F wx (HH.out.keep hx)
 cases one
 ·simp only [VD.enc, if_false, Bool.false_eq_true] at HE
  go_wp2_with fail
  refine HE.mono ?_
  rintro e w3 ⟨rfl, hb⟩
  have HD3 := step_below HD2 hb
  obtain ⟨s0, s1, s2, s3, s4⟩ := HC.out _ HD3.out
  have f3 := HF.out _ HD3.out
  have HPw := HPk.out _ HD3.out
  clear hb HE
  go_wp2_with fail
  refine HPw.mono ?_
  rintro e w3 ⟨rfl, rfl⟩
  have HD4 := HD3
  clear HPw
  have HDd : Hid (Below w1.heap.size w1 w3.drew) := step_below HD4 (below_drewN w3 1)
  have HS1 : Hid (∀ wx, Below w1.heap.size w1 wx → (fun w' : World => w'.cell? ⟨v, 2, none⟩ = some (ptr m) ∧ w'.cell? ⟨w.heap.size, 2, none⟩ = some (.slice a n c)) wx) := fun wx hx => ⟨HF.out wx hx, (HC.out wx hx).2.2.2.1⟩
  go_upto_region 9 with fail
  refine wp_region_held_drew (S := fun w' => w'.cell? ⟨v, 2, none⟩ = some (ptr m) ∧ w'.cell? ⟨w.heap.size, 2, none⟩ = some (.slice a n c)) (by kernel_rfl) (HS1.out _ HDd.out) (fun hHeld => ?_)
  refine wpAnyH_take (i := 0) (oi := ⟨some 67, .move (.tmp 0), 31, "law.go:106", #[], none⟩) (v := ?_) rfl (by kernel_rfl) (by kernel_rfl) (by kernel_rfl) (fun _ _ _ h => h) (Or.inl ⟨by rfl, ?_⟩) (by assumption) ?_
  rotate_left
  ·(intro w hSw; (try dsimp only at hSw); go_simp; (try with_reducible rfl))
  try simp only [Act.put, List.setIfInBounds_toArray, List.set_cons_zero, List.set_cons_succ]
  refine wpAnyH_take (i := 1) (oi := ⟨some 68, .nilCheck (.tmp 67), 0, "law.go:106", #[⟨0, .data⟩], none⟩) (v := ?_) rfl (by kernel_rfl) (by kernel_rfl) (by kernel_rfl) (fun _ _ _ h => h) (Or.inl ⟨by rfl, ?_⟩) (by assumption) ?_
  rotate_left
  ·(intro w hSw; (try dsimp only at hSw); go_simp; (try with_reducible rfl))
  try simp only [Act.put, List.setIfInBounds_toArray, List.set_cons_zero, List.set_cons_succ]
  refine wpAnyH_take (i := 2) (oi := ⟨some 69, .fieldAddr 46 (.tmp 68) 2, 0, "law.go:106", #[⟨1, .data⟩], none⟩) (v := ?_) rfl (by kernel_rfl) (by kernel_rfl) (by kernel_rfl) (fun _ _ _ h => h) (Or.inl ⟨by rfl, ?_⟩) (by assumption) ?_
  rotate_left
  ·(intro w hSw; (try dsimp only at hSw); go_simp; (try with_reducible rfl))
  try simp only [Act.put, List.setIfInBounds_toArray, List.set_cons_zero, List.set_cons_succ]
  refine wpAnyH_take (i := 3) (oi := ⟨some 70, .load 42 (.tmp 69), 42, "law.go:106", #[⟨2, .data⟩], none⟩) (v := ?_) rfl (by kernel_rfl) (by kernel_rfl) (by kernel_rfl) (fun _ _ _ h => h) (Or.inl ⟨by rfl, ?_⟩) (by assumption) ?_
  rotate_left
  ·(intro w hSw; (try dsimp only at hSw); go_simp; (try with_reducible rfl))
  try simp only [Act.put, List.setIfInBounds_toArray, List.set_cons_zero, List.set_cons_succ]
  refine wpAnyH_take (i := 5) (oi := ⟨some 72, .fieldAddr 29 (.tmp 4) 2, 0, "law.go:106", #[], none⟩) (v := ?_) rfl (by kernel_rfl) (by kernel_rfl) (by kernel_rfl) (fun _ _ _ h => h) (Or.inl ⟨by rfl, ?_⟩) (by assumption) ?_
  rotate_left
  ·(intro w hSw; (try dsimp only at hSw); go_simp; (try with_reducible rfl))
  try simp only [Act.put, List.setIfInBounds_toArray, List.set_cons_zero, List.set_cons_succ]
  refine wpAnyH_take (i := 6) (oi := ⟨some 73, .load 22 (.tmp 72), 22, "law.go:106", #[⟨5, .data⟩], none⟩) (v := ?_) rfl (by kernel_rfl) (by kernel_rfl) (by kernel_rfl) (fun _ _ _ h => h) (Or.inl ⟨by rfl, ?_⟩) (by assumption) ?_
  rotate_left
  ·(intro w hSw; (try dsimp only at hSw); go_simp; (try with_reducible rfl))
  try simp only [Act.put, List.setIfInBounds_toArray, List.set_cons_zero, List.set_cons_succ]
  refine wpAnyH_ready (rs := [4]) (by kernel_rfl) (by simp) ?_
  refine AllReadyH.cons (o := ⟨some 71, .call { callee := .value (.func 35), args := #[.tmp 70], argTypes := #[42] }, 22, "law.go:106", #[⟨3, .data⟩], none⟩) rfl (fun K hK => ?_) AllReadyH.nil
  go_simp
  (go_at_call 35; refine (HAl.out _ HDd.out).mono ?_; rintro e w6 ⟨hb, a6, c6, fs, rfl, hO6, hp6⟩; have HD6 := step_below HDd hb; have HCm := HCmp.out _ HD6.out _ a6 c6 fs hO6 hp6; clear hb hO6 hp6)
  (try go_wp2_with fail)
  refine hK.out _ _ (HS1.out _ HD6.out) ?_
  clear hK K hHeld
  intro hHeld
  try simp only [Act.put, List.setIfInBounds_toArray, List.set_cons_zero, List.set_cons_succ]
  refine wpAnyH_ready (rs := [7]) (by kernel_rfl) (by simp) ?_
  refine AllReadyH.cons (o := ⟨some 74, .call { callee := .value (.func 34), args := #[.tmp 71, .tmp 73], argTypes := #[22, 22] }, 4, "law.go:106", #[⟨4, .data⟩, ⟨6, .data⟩, ⟨4, .chain⟩], none⟩) rfl (fun K hK => ?_) AllReadyH.nil
  go_simp
  (go_at_call 34; refine HCm.mono ?_; rintro e w7 ⟨rfl, hb⟩; have HD7 := step_below HD6 hb; clear hb)
  (try go_wp2_with fail)
  refine hK.out _ _ (HS1.out _ HD7.out) ?_
  clear hK K hHeld
  intro hHeld
  try simp only [Act.put, List.setIfInBounds_toArray, List.set_cons_zero, List.set_cons_succ]
  refine wpAnyH_take (i := 8) (oi := ⟨some 75, .move (.tmp 74), 4, "law.go:106", #[⟨7, .data⟩, ⟨7, .chain⟩], none⟩) (v := ?_) rfl (by kernel_rfl) (by kernel_rfl) (by kernel_rfl) (fun _ _ _ h => h) (Or.inl ⟨by rfl, ?_⟩) (by assumption) ?_
  rotate_left
  ·(intro w hSw; (try dsimp only at hSw); go_simp; (try with_reducible rfl))
  try simp only [Act.put, List.setIfInBounds_toArray, List.set_cons_zero, List.set_cons_succ]
  refine wpAnyH_take (i := 9) (oi := ⟨some 76, .move (.tmp 7), 9, "law.go:106", #[⟨8, .guard⟩], some (8, true)⟩) (v := ?_) rfl (by kernel_rfl) (by kernel_rfl) (by kernel_rfl) (fun _ _ _ h => h) (Or.inl ⟨by rfl, ?_⟩) (by assumption) ?_
  rotate_left
  ·(intro w hSw; (try dsimp only at hSw); go_simp; (try with_reducible rfl))
  try simp only [Act.put, List.setIfInBounds_toArray, List.set_cons_zero, List.set_cons_succ]
  refine wpAnyH_take (i := 10) (oi := ⟨some 77, .binOp .eql 9 (.tmp 76) (.const (.string { data := #[108, 105, 115, 116, 112, 97, 99, 107] })) 9, 4, "law.go:106", #[⟨9, .data⟩, ⟨8, .guard⟩], some (8, true)⟩) (v := ?_) rfl (by kernel_rfl) (by kernel_rfl) (by kernel_rfl) (fun _ _ _ h => h) (Or.inl ⟨by rfl, ?_⟩) (by assumption) ?_
  rotate_left
  ·(intro w hSw; (try dsimp only at hSw); go_simp; (try with_reducible rfl))
  try simp only [Act.put, List.setIfInBounds_toArray, List.set_cons_zero, List.set_cons_succ]
  refine wpAnyH_take (i := 11) (oi := ⟨some 78, .move (.tmp 77), 4, "law.go:106", #[⟨10, .data⟩, ⟨8, .chain⟩, ⟨8, .guard⟩], some (8, true)⟩) (v := ?_) rfl (by kernel_rfl) (by kernel_rfl) (by kernel_rfl) (fun _ _ _ h => h) (Or.inl ⟨by rfl, ?_⟩) (by assumption) ?_
  rotate_left
  ·(intro w hSw; (try dsimp only at hSw); go_simp; (try with_reducible rfl))
  try simp only [Act.put, List.setIfInBounds_toArray, List.set_cons_zero, List.set_cons_succ]
  refine wpAnyH_take (i := 12) (oi := ⟨some 79, .move (.tmp 8), 4, "law.go:106", #[⟨11, .guard⟩], some (11, true)⟩) (v := undef) rfl (by kernel_rfl) (by kernel_rfl) (by kernel_rfl) (fun _ _ _ h => h) (Or.inr ⟨by rfl, rfl⟩) (by assumption) ?_
  try simp only [Act.put, List.setIfInBounds_toArray, List.set_cons_zero, List.set_cons_succ]
  refine wpAnyH_take (i := 13) (oi := ⟨some 80, .pick (.tmp 78) (.tmp 79) (.const (.bool false)), 4, "law.go:106", #[⟨11, .data⟩, ⟨12, .data⟩, ⟨8, .guard⟩], some (8, true)⟩) (v := ?_) rfl (by kernel_rfl) (by kernel_rfl) (by kernel_rfl) (fun _ _ _ h => h) (Or.inl ⟨by rfl, ?_⟩) (by assumption) ?_
  rotate_left
  ·(intro w hSw; (try dsimp only at hSw); go_simp; (try with_reducible rfl))
  try simp only [Act.put, List.setIfInBounds_toArray, List.set_cons_zero, List.set_cons_succ]
  refine wpAnyH_take (i := 14) (oi := ⟨some 81, .move (.tmp 80), 4, "law.go:106", #[⟨13, .data⟩, ⟨11, .chain⟩, ⟨8, .guard⟩], some (8, true)⟩) (v := ?_) rfl (by kernel_rfl) (by kernel_rfl) (by kernel_rfl) (fun _ _ _ h => h) (Or.inl ⟨by rfl, ?_⟩) (by assumption) ?_
  rotate_left
  ·(intro w hSw; (try dsimp only at hSw); go_simp; (try with_reducible rfl))
  try simp only [Act.put, List.setIfInBounds_toArray, List.set_cons_zero, List.set_cons_succ]
  refine wpAnyH_take (i := 15) (oi := ⟨some 82, .move (.tmp 7), 9, "law.go:106", #[⟨14, .guard⟩], some (14, false)⟩) (v := ?_) rfl (by kernel_rfl) (by kernel_rfl) (by kernel_rfl) (fun _ _ _ h => h) (Or.inl ⟨by rfl, ?_⟩) (by assumption) ?_
  rotate_left
  ·(intro w hSw; (try dsimp only at hSw); go_simp; (try with_reducible rfl))
  try simp only [Act.put, List.setIfInBounds_toArray, List.set_cons_zero, List.set_cons_succ]
  refine wpAnyH_take (i := 16) (oi := ⟨some 83, .binOp .eql 9 (.tmp 82) (.const (.string { data := #[104, 97, 115, 104, 116, 97, 98, 108, 101] })) 9, 4, "law.go:106", #[⟨15, .data⟩, ⟨14, .guard⟩], some (14, false)⟩) (v := ?_) rfl (by kernel_rfl) (by kernel_rfl) (by kernel_rfl) (fun _ _ _ h => h) (Or.inl ⟨by rfl, ?_⟩) (by assumption) ?_
  rotate_left
  ·(intro w hSw; (try dsimp only at hSw); go_simp; (try with_reducible rfl))
  try simp only [Act.put, List.setIfInBounds_toArray, List.set_cons_zero, List.set_cons_succ]
  refine wpAnyH_take (i := 17) (oi := ⟨some 84, .move (.tmp 83), 4, "law.go:106", #[⟨16, .data⟩, ⟨14, .chain⟩, ⟨14, .guard⟩], some (14, false)⟩) (v := ?_) rfl (by kernel_rfl) (by kernel_rfl) (by kernel_rfl) (fun _ _ _ h => h) (Or.inl ⟨by rfl, ?_⟩) (by assumption) ?_
  rotate_left
  ·(intro w hSw; (try dsimp only at hSw); go_simp; (try with_reducible rfl))
  try simp only [Act.put, List.setIfInBounds_toArray, List.set_cons_zero, List.set_cons_succ]
  refine wpAnyH_take (i := 18) (oi := ⟨some 85, .move (.tmp 8), 4, "law.go:106", #[⟨17, .guard⟩], some (17, true)⟩) (v := ?_) rfl (by kernel_rfl) (by kernel_rfl) (by kernel_rfl) (fun _ _ _ h => h) (Or.inl ⟨by rfl, ?_⟩) (by assumption) ?_
  rotate_left
  ·(intro w hSw; (try dsimp only at hSw); go_simp; (try with_reducible rfl))
  try simp only [Act.put, List.setIfInBounds_toArray, List.set_cons_zero, List.set_cons_succ]
  refine wpAnyH_take (i := 19) (oi := ⟨some 86, .unOp .not 4 (.tmp 85), 4, "law.go:106", #[⟨18, .data⟩, ⟨17, .guard⟩], some (17, true)⟩) (v := ?_) rfl (by kernel_rfl) (by kernel_rfl) (by kernel_rfl) (fun _ _ _ h => h) (Or.inl ⟨by rfl, ?_⟩) (by assumption) ?_
  rotate_left
  ·(intro w hSw; (try dsimp only at hSw); go_simp; (try with_reducible rfl))
  try simp only [Act.put, List.setIfInBounds_toArray, List.set_cons_zero, List.set_cons_succ]
  refine wpAnyH_take (i := 20) (oi := ⟨some 87, .pick (.tmp 84) (.tmp 86) (.const (.bool false)), 4, "law.go:106", #[⟨17, .data⟩, ⟨19, .data⟩, ⟨14, .guard⟩], some (14, false)⟩) (v := ?_) rfl (by kernel_rfl) (by kernel_rfl) (by kernel_rfl) (fun _ _ _ h => h) (Or.inl ⟨by rfl, ?_⟩) (by assumption) ?_
  rotate_left
  ·(intro w hSw; (try dsimp only at hSw); go_simp; (try with_reducible rfl))
  try simp only [Act.put, List.setIfInBounds_toArray, List.set_cons_zero, List.set_cons_succ]
  refine wpAnyH_take (i := 21) (oi := ⟨some 88, .pick (.tmp 81) (.const (.bool true)) (.tmp 87), 4, "law.go:106", #[⟨14, .data⟩, ⟨20, .data⟩, ⟨8, .guard⟩], some (8, true)⟩) (v := ?_) rfl (by kernel_rfl) (by kernel_rfl) (by kernel_rfl) (fun _ _ _ h => h) (Or.inl ⟨by rfl, ?_⟩) (by assumption) ?_
  rotate_left
  ·(intro w hSw; (try dsimp only at hSw); go_simp; (try with_reducible rfl))
  try simp only [Act.put, List.setIfInBounds_toArray, List.set_cons_zero, List.set_cons_succ]
  refine wpAnyH_take (i := 22) (oi := ⟨some 89, .pick (.tmp 75) (.tmp 88) (.const (.bool false)), 4, "law.go:106", #[⟨8, .data⟩, ⟨21, .data⟩], none⟩) (v := ?_) rfl (by kernel_rfl) (by kernel_rfl) (by kernel_rfl) (fun _ _ _ h => h) (Or.inl ⟨by rfl, ?_⟩) (by assumption) ?_
  rotate_left
  ·(intro w hSw; (try dsimp only at hSw); go_simp; (try with_reducible rfl))
  try simp only [Act.put, List.setIfInBounds_toArray, List.set_cons_zero, List.set_cons_succ]
  refine wpAnyH_take (i := 23) (oi := ⟨some 6, .assign (.tmp 89), 4, "law.go:106", #[⟨22, .data⟩, ⟨17, .chain⟩, ⟨0, .phase⟩, ⟨1, .phase⟩, ⟨2, .phase⟩, ⟨3, .phase⟩, ⟨4, .phase⟩, ⟨5, .phase⟩, ⟨6, .phase⟩, ⟨7, .phase⟩, ⟨8, .phase⟩, ⟨9, .phase⟩, ⟨10, .phase⟩, ⟨11, .phase⟩, ⟨12, .phase⟩, ⟨13, .phase⟩, ⟨14, .phase⟩, ⟨15, .phase⟩, ⟨16, .phase⟩, ⟨17, .phase⟩, ⟨18, .phase⟩, ⟨19, .phase⟩, ⟨20, .phase⟩, ⟨21, .phase⟩, ⟨22, .phase⟩], none⟩) (v := ?_) rfl (by kernel_rfl) (by kernel_rfl) (by kernel_rfl) (fun _ _ _ h => h) (Or.inl ⟨by rfl, ?_⟩) (by assumption) ?_
  rotate_left
  ·(intro w hSw; (try dsimp only at hSw); go_simp; (try with_reducible rfl))
  try simp only [Act.put, List.setIfInBounds_toArray, List.set_cons_zero, List.set_cons_succ]
  refine wpAnyH_done (by kernel_rfl) ?_ _
  have HBe := step_below HB1 HD7.out
  go_wp2
  go_ret
  exact ⟨rfl, HBe.out⟩
 ·simp only [VD.enc, if_true] at HE
  go_wp2_with fail
  refine HE.mono ?_
  rintro e w3 ⟨rfl, hb⟩
  have HD3 := step_below HD2 hb
  obtain ⟨s0, s1, s2, s3, s4⟩ := HC.out _ HD3.out
  have f3 := HF.out _ HD3.out
  have HPw := HPk.out _ HD3.out
  clear hb HE
  go_wp2_with fail
  refine HPw.mono ?_
  rintro e w3 ⟨rfl, rfl⟩
  have HD4 := HD3
  clear HPw
  have HDd : Hid (Below w1.heap.size w1 w3.drew) := step_below HD4 (below_drewN w3 1)
  have HS1 : Hid (∀ wx, Below w1.heap.size w1 wx → (fun w' : World => w'.cell? ⟨v, 2, none⟩ = some (ptr m) ∧ w'.cell? ⟨w.heap.size, 2, none⟩ = some (.slice a n c)) wx) := fun wx hx => ⟨HF.out wx hx, (HC.out wx hx).2.2.2.1⟩
  go_upto_region 9 with fail
  refine wp_region_held_drew (S := fun w' => w'.cell? ⟨v, 2, none⟩ = some (ptr m) ∧ w'.cell? ⟨w.heap.size, 2, none⟩ = some (.slice a n c)) (by kernel_rfl) (HS1.out _ HDd.out) (fun hHeld => ?_)
  refine wpAnyH_take (i := 0) (oi := ⟨some 67, .move (.tmp 0), 31, "law.go:106", #[], none⟩) (v := ?_) rfl (by kernel_rfl) (by kernel_rfl) (by kernel_rfl) (fun _ _ _ h => h) (Or.inl ⟨by rfl, ?_⟩) (by assumption) ?_
  rotate_left
  ·(intro w hSw; (try dsimp only at hSw); go_simp; (try with_reducible rfl))
  try simp only [Act.put, List.setIfInBounds_toArray, List.set_cons_zero, List.set_cons_succ]
  refine wpAnyH_take (i := 1) (oi := ⟨some 68, .nilCheck (.tmp 67), 0, "law.go:106", #[⟨0, .data⟩], none⟩) (v := ?_) rfl (by kernel_rfl) (by kernel_rfl) (by kernel_rfl) (fun _ _ _ h => h) (Or.inl ⟨by rfl, ?_⟩) (by assumption) ?_
  rotate_left
  ·(intro w hSw; (try dsimp only at hSw); go_simp; (try with_reducible rfl))
  try simp only [Act.put, List.setIfInBounds_toArray, List.set_cons_zero, List.set_cons_succ]
  refine wpAnyH_take (i := 2) (oi := ⟨some 69, .fieldAddr 46 (.tmp 68) 2, 0, "law.go:106", #[⟨1, .data⟩], none⟩) (v := ?_) rfl (by kernel_rfl) (by kernel_rfl) (by kernel_rfl) (fun _ _ _ h => h) (Or.inl ⟨by rfl, ?_⟩) (by assumption) ?_
  rotate_left
  ·(intro w hSw; (try dsimp only at hSw); go_simp; (try with_reducible rfl))
  try simp only [Act.put, List.setIfInBounds_toArray, List.set_cons_zero, List.set_cons_succ]
  refine wpAnyH_take (i := 3) (oi := ⟨some 70, .load 42 (.tmp 69), 42, "law.go:106", #[⟨2, .data⟩], none⟩) (v := ?_) rfl (by kernel_rfl) (by kernel_rfl) (by kernel_rfl) (fun _ _ _ h => h) (Or.inl ⟨by rfl, ?_⟩) (by assumption) ?_
  rotate_left
  ·(intro w hSw; (try dsimp only at hSw); go_simp; (try with_reducible rfl))
  try simp only [Act.put, List.setIfInBounds_toArray, List.set_cons_zero, List.set_cons_succ]
  refine wpAnyH_take (i := 5) (oi := ⟨some 72, .fieldAddr 29 (.tmp 4) 2, 0, "law.go:106", #[], none⟩) (v := ?_) rfl (by kernel_rfl) (by kernel_rfl) (by kernel_rfl) (fun _ _ _ h => h) (Or.inl ⟨by rfl, ?_⟩) (by assumption) ?_
  rotate_left
  ·(intro w hSw; (try dsimp only at hSw); go_simp; (try with_reducible rfl))
  try simp only [Act.put, List.setIfInBounds_toArray, List.set_cons_zero, List.set_cons_succ]
  refine wpAnyH_take (i := 6) (oi := ⟨some 73, .load 22 (.tmp 72), 22, "law.go:106", #[⟨5, .data⟩], none⟩) (v := ?_) rfl (by kernel_rfl) (by kernel_rfl) (by kernel_rfl) (fun _ _ _ h => h) (Or.inl ⟨by rfl, ?_⟩) (by assumption) ?_
  rotate_left
  ·(intro w hSw; (try dsimp only at hSw); go_simp; (try with_reducible rfl))
  try simp only [Act.put, List.setIfInBounds_toArray, List.set_cons_zero, List.set_cons_succ]
  refine wpAnyH_ready (rs := [4]) (by kernel_rfl) (by simp) ?_
  refine AllReadyH.cons (o := ⟨some 71, .call { callee := .value (.func 35), args := #[.tmp 70], argTypes := #[42] }, 22, "law.go:106", #[⟨3, .data⟩], none⟩) rfl (fun K hK => ?_) AllReadyH.nil
  go_simp
  (go_at_call 35; refine (HAl.out _ HDd.out).mono ?_; rintro e w6 ⟨hb, a6, c6, fs, rfl, hO6, hp6⟩; have HD6 := step_below HDd hb; have HCm := HCmp.out _ HD6.out _ a6 c6 fs hO6 hp6; clear hb hO6 hp6)
  (try go_wp2_with fail)
  refine hK.out _ _ (HS1.out _ HD6.out) ?_
  clear hK K hHeld
  intro hHeld
  try simp only [Act.put, List.setIfInBounds_toArray, List.set_cons_zero, List.set_cons_succ]
  refine wpAnyH_ready (rs := [7]) (by kernel_rfl) (by simp) ?_
  refine AllReadyH.cons (o := ⟨some 74, .call { callee := .value (.func 34), args := #[.tmp 71, .tmp 73], argTypes := #[22, 22] }, 4, "law.go:106", #[⟨4, .data⟩, ⟨6, .data⟩, ⟨4, .chain⟩], none⟩) rfl (fun K hK => ?_) AllReadyH.nil
  go_simp
  (go_at_call 34; refine HCm.mono ?_; rintro e w7 ⟨rfl, hb⟩; have HD7 := step_below HD6 hb; clear hb)
  (try go_wp2_with fail)
  refine hK.out _ _ (HS1.out _ HD7.out) ?_
  clear hK K hHeld
  intro hHeld
  try simp only [Act.put, List.setIfInBounds_toArray, List.set_cons_zero, List.set_cons_succ]
  refine wpAnyH_take (i := 8) (oi := ⟨some 75, .move (.tmp 74), 4, "law.go:106", #[⟨7, .data⟩, ⟨7, .chain⟩], none⟩) (v := ?_) rfl (by kernel_rfl) (by kernel_rfl) (by kernel_rfl) (fun _ _ _ h => h) (Or.inl ⟨by rfl, ?_⟩) (by assumption) ?_
  rotate_left
  ·(intro w hSw; (try dsimp only at hSw); go_simp; (try with_reducible rfl))
  try simp only [Act.put, List.setIfInBounds_toArray, List.set_cons_zero, List.set_cons_succ]
  refine wpAnyH_take (i := 9) (oi := ⟨some 76, .move (.tmp 7), 9, "law.go:106", #[⟨8, .guard⟩], some (8, true)⟩) (v := ?_) rfl (by kernel_rfl) (by kernel_rfl) (by kernel_rfl) (fun _ _ _ h => h) (Or.inl ⟨by rfl, ?_⟩) (by assumption) ?_
  rotate_left
  ·(intro w hSw; (try dsimp only at hSw); go_simp; (try with_reducible rfl))
  try simp only [Act.put, List.setIfInBounds_toArray, List.set_cons_zero, List.set_cons_succ]
  refine wpAnyH_take (i := 10) (oi := ⟨some 77, .binOp .eql 9 (.tmp 76) (.const (.string { data := #[108, 105, 115, 116, 112, 97, 99, 107] })) 9, 4, "law.go:106", #[⟨9, .data⟩, ⟨8, .guard⟩], some (8, true)⟩) (v := ?_) rfl (by kernel_rfl) (by kernel_rfl) (by kernel_rfl) (fun _ _ _ h => h) (Or.inl ⟨by rfl, ?_⟩) (by assumption) ?_
  rotate_left
  ·(intro w hSw; (try dsimp only at hSw); go_simp; (try with_reducible rfl))
  try simp only [Act.put, List.setIfInBounds_toArray, List.set_cons_zero, List.set_cons_succ]
  refine wpAnyH_take (i := 11) (oi := ⟨some 78, .move (.tmp 77), 4, "law.go:106", #[⟨10, .data⟩, ⟨8, .chain⟩, ⟨8, .guard⟩], some (8, true)⟩) (v := ?_) rfl (by kernel_rfl) (by kernel_rfl) (by kernel_rfl) (fun _ _ _ h => h) (Or.inl ⟨by rfl, ?_⟩) (by assumption) ?_
  rotate_left
  ·(intro w hSw; (try dsimp only at hSw); go_simp; (try with_reducible rfl))
  try simp only [Act.put, List.setIfInBounds_toArray, List.set_cons_zero, List.set_cons_succ]
  refine wpAnyH_take (i := 12) (oi := ⟨some 79, .move (.tmp 8), 4, "law.go:106", #[⟨11, .guard⟩], some (11, true)⟩) (v := ?_) rfl (by kernel_rfl) (by kernel_rfl) (by kernel_rfl) (fun _ _ _ h => h) (Or.inl ⟨by rfl, ?_⟩) (by assumption) ?_
  rotate_left
  ·(intro w hSw; (try dsimp only at hSw); go_simp; (try with_reducible rfl))
  try simp only [Act.put, List.setIfInBounds_toArray, List.set_cons_zero, List.set_cons_succ]
  refine wpAnyH_take (i := 13) (oi := ⟨some 80, .pick (.tmp 78) (.tmp 79) (.const (.bool false)), 4, "law.go:106", #[⟨11, .data⟩, ⟨12, .data⟩, ⟨8, .guard⟩], some (8, true)⟩) (v := ?_) rfl (by kernel_rfl) (by kernel_rfl) (by kernel_rfl) (fun _ _ _ h => h) (Or.inl ⟨by rfl, ?_⟩) (by assumption) ?_
  rotate_left
  ·(intro w hSw; (try dsimp only at hSw); go_simp; (try with_reducible rfl))
  try simp only [Act.put, List.setIfInBounds_toArray, List.set_cons_zero, List.set_cons_succ]
  refine wpAnyH_take (i := 14) (oi := ⟨some 81, .move (.tmp 80), 4, "law.go:106", #[⟨13, .data⟩, ⟨11, .chain⟩, ⟨8, .guard⟩], some (8, true)⟩) (v := ?_) rfl (by kernel_rfl) (by kernel_rfl) (by kernel_rfl) (fun _ _ _ h => h) (Or.inl ⟨by rfl, ?_⟩) (by assumption) ?_
  rotate_left
  ·(intro w hSw; (try dsimp only at hSw); go_simp; (try with_reducible rfl))
  try simp only [Act.put, List.setIfInBounds_toArray, List.set_cons_zero, List.set_cons_succ]
  refine wpAnyH_take (i := 15) (oi := ⟨some 82, .move (.tmp 7), 9, "law.go:106", #[⟨14, .guard⟩], some (14, false)⟩) (v := undef) rfl (by kernel_rfl) (by kernel_rfl) (by kernel_rfl) (fun _ _ _ h => h) (Or.inr ⟨by rfl, rfl⟩) (by assumption) ?_
  try simp only [Act.put, List.setIfInBounds_toArray, List.set_cons_zero, List.set_cons_succ]
  refine wpAnyH_take (i := 16) (oi := ⟨some 83, .binOp .eql 9 (.tmp 82) (.const (.string { data := #[104, 97, 115, 104, 116, 97, 98, 108, 101] })) 9, 4, "law.go:106", #[⟨15, .data⟩, ⟨14, .guard⟩], some (14, false)⟩) (v := undef) rfl (by kernel_rfl) (by kernel_rfl) (by kernel_rfl) (fun _ _ _ h => h) (Or.inr ⟨by rfl, rfl⟩) (by assumption) ?_
  try simp only [Act.put, List.setIfInBounds_toArray, List.set_cons_zero, List.set_cons_succ]
  refine wpAnyH_take (i := 17) (oi := ⟨some 84, .move (.tmp 83), 4, "law.go:106", #[⟨16, .data⟩, ⟨14, .chain⟩, ⟨14, .guard⟩], some (14, false)⟩) (v := undef) rfl (by kernel_rfl) (by kernel_rfl) (by kernel_rfl) (fun _ _ _ h => h) (Or.inr ⟨by rfl, rfl⟩) (by assumption) ?_
  try simp only [Act.put, List.setIfInBounds_toArray, List.set_cons_zero, List.set_cons_succ]
  refine wpAnyH_take (i := 18) (oi := ⟨some 85, .move (.tmp 8), 4, "law.go:106", #[⟨17, .guard⟩], some (17, true)⟩) (v := undef) rfl (by kernel_rfl) (by kernel_rfl) (by kernel_rfl) (fun _ _ _ h => h) (Or.inr ⟨by rfl, rfl⟩) (by assumption) ?_
  try simp only [Act.put, List.setIfInBounds_toArray, List.set_cons_zero, List.set_cons_succ]
  refine wpAnyH_take (i := 19) (oi := ⟨some 86, .unOp .not 4 (.tmp 85), 4, "law.go:106", #[⟨18, .data⟩, ⟨17, .guard⟩], some (17, true)⟩) (v := undef) rfl (by kernel_rfl) (by kernel_rfl) (by kernel_rfl) (fun _ _ _ h => h) (Or.inr ⟨by rfl, rfl⟩) (by assumption) ?_
  try simp only [Act.put, List.setIfInBounds_toArray, List.set_cons_zero, List.set_cons_succ]
  refine wpAnyH_take (i := 20) (oi := ⟨some 87, .pick (.tmp 84) (.tmp 86) (.const (.bool false)), 4, "law.go:106", #[⟨17, .data⟩, ⟨19, .data⟩, ⟨14, .guard⟩], some (14, false)⟩) (v := undef) rfl (by kernel_rfl) (by kernel_rfl) (by kernel_rfl) (fun _ _ _ h => h) (Or.inr ⟨by rfl, rfl⟩) (by assumption) ?_
  try simp only [Act.put, List.setIfInBounds_toArray, List.set_cons_zero, List.set_cons_succ]
  refine wpAnyH_take (i := 21) (oi := ⟨some 88, .pick (.tmp 81) (.const (.bool true)) (.tmp 87), 4, "law.go:106", #[⟨14, .data⟩, ⟨20, .data⟩, ⟨8, .guard⟩], some (8, true)⟩) (v := ?_) rfl (by kernel_rfl) (by kernel_rfl) (by kernel_rfl) (fun _ _ _ h => h) (Or.inl ⟨by rfl, ?_⟩) (by assumption) ?_
  rotate_left
  ·(intro w hSw; (try dsimp only at hSw); go_simp; (try with_reducible rfl))
  try simp only [Act.put, List.setIfInBounds_toArray, List.set_cons_zero, List.set_cons_succ]
  refine wpAnyH_take (i := 22) (oi := ⟨some 89, .pick (.tmp 75) (.tmp 88) (.const (.bool false)), 4, "law.go:106", #[⟨8, .data⟩, ⟨21, .data⟩], none⟩) (v := ?_) rfl (by kernel_rfl) (by kernel_rfl) (by kernel_rfl) (fun _ _ _ h => h) (Or.inl ⟨by rfl, ?_⟩) (by assumption) ?_
  rotate_left
  ·(intro w hSw; (try dsimp only at hSw); go_simp; (try with_reducible rfl))
  try simp only [Act.put, List.setIfInBounds_toArray, List.set_cons_zero, List.set_cons_succ]
  refine wpAnyH_take (i := 23) (oi := ⟨some 6, .assign (.tmp 89), 4, "law.go:106", #[⟨22, .data⟩, ⟨17, .chain⟩, ⟨0, .phase⟩, ⟨1, .phase⟩, ⟨2, .phase⟩, ⟨3, .phase⟩, ⟨4, .phase⟩, ⟨5, .phase⟩, ⟨6, .phase⟩, ⟨7, .phase⟩, ⟨8, .phase⟩, ⟨9, .phase⟩, ⟨10, .phase⟩, ⟨11, .phase⟩, ⟨12, .phase⟩, ⟨13, .phase⟩, ⟨14, .phase⟩, ⟨15, .phase⟩, ⟨16, .phase⟩, ⟨17, .phase⟩, ⟨18, .phase⟩, ⟨19, .phase⟩, ⟨20, .phase⟩, ⟨21, .phase⟩, ⟨22, .phase⟩], none⟩) (v := ?_) rfl (by kernel_rfl) (by kernel_rfl) (by kernel_rfl) (fun _ _ _ h => h) (Or.inl ⟨by rfl, ?_⟩) (by assumption) ?_
  rotate_left
  ·(intro w hSw; (try dsimp only at hSw); go_simp; (try with_reducible rfl))
  try simp only [Act.put, List.setIfInBounds_toArray, List.set_cons_zero, List.set_cons_succ]
  refine wpAnyH_done (by kernel_rfl) ?_ _
  have HBe := step_below HB1 HD7.out
  go_wp2
  go_ret
  exact ⟨rfl, HBe.out⟩
end Go.Proofs.YtikimcbalkhooaaGreat
