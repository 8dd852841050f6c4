/- Texts that the others stand on. -/
import Derived.Test.YtikimcbalkhooaaGreatG24
import Derived.Deep.RegionHeld3
namespace Go.Proofs.YtikimcbalkhooaaGreat
open Go.RowKit Go.PlainAid
open Dk (En keysOf hasK putE ecells)
set_option maxRecDepth 100000 in
set_option maxHeartbeats 8000000 in
theorem tells_l (B v : Nat) (one : Bool) (F : List Nat) (C : Nat) (a : Option Addr) (n c : Nat) (es : List ByteArray) (le lt : Int) (w : World) (h : PV w B v (.lst es) one F) (hO : OwnS w C a n c es) (hok : VD.ok (.lst es)) :
  Calls Tryz.prog 9 #[ptr v, .agg #[.int .i64 4, .string ⟨#[]⟩, .slice none 0 0, .slice a n c], .agg #[.int .i64 le, .int .i64 lt]] w fun e w' => e = .returned (.bool true) ∧ Below w.heap.size w w' := by
 obtain ⟨w0, hw0⟩ : ∃ w0, w.alloc (.cells #[.int .i64 4, .string ⟨#[]⟩, .slice none 0 0, .slice a n c] 29) = w0 := ⟨_, rfl⟩
 obtain ⟨w1, hw1⟩ : ∃ w1, w0.alloc (.cells #[.int .i64 le, .int .i64 lt] 28) = w1 := ⟨_, rfl⟩
 have hb0 : Below w.heap.size w w0 := by rw [← hw0]; exact alloc_below w _
 have hb1 : Below w0.heap.size w0 w1 := by rw [← hw1]; exact alloc_below w0 _
 have hl0 : w.heap.size < w0.heap.size := by rw [← hw0]; exact alloc_lt w _ _
 have hl1 : w0.heap.size < w1.heap.size := by rw [← hw1]; exact alloc_lt w0 _ _
 have hb : Below w.heap.size w w1 := hb0.trans (hb1.mono hb0.size)
 have HB1 : Hid (Below w.heap.size w w1) := hb
 have hP := h.keep hb
 have hV0 : Vl w C (.lst es) (.agg #[.int .i64 4, .string ⟨#[]⟩, .slice none 0 0, .slice a n c]) := ⟨a, n, c, rfl, hO⟩
 have hV := hV0.keep hb
 have HP : Hid (PV w1 B v (.lst es) one F) := hP
 have HOk : Hid (VD.ok (.lst es)) := hok
 have HC : Hid (∀ wx, Below w1.heap.size w1 wx → wx.cell? ⟨v, 0, none⟩ = some (.int .i64 4) ∧ wx.cell? ⟨w.heap.size, 0, none⟩ = some (.int .i64 4) ∧ wx.cell? ⟨w.heap.size, 1, none⟩ = some (.string ⟨#[]⟩) ∧ wx.cell? ⟨w.heap.size, 2, none⟩ = some (.slice none 0 0) ∧ wx.cell? ⟨w.heap.size, 3, none⟩ = some (.slice a n c)) := fun wx hx => by
  refine ⟨(hP.keep hx).ck, ?_, ?_, ?_, ?_⟩
  ·rw [hx.cell (p := ⟨w.heap.size, 0, none⟩) (Nat.lt_trans hl0 hl1), hb1.cell (p := ⟨w.heap.size, 0, none⟩) hl0, ← hw0]; exact cell_new w _ _ 0 _ rfl
  ·rw [hx.cell (p := ⟨w.heap.size, 1, none⟩) (Nat.lt_trans hl0 hl1), hb1.cell (p := ⟨w.heap.size, 1, none⟩) hl0, ← hw0]; exact cell_new w _ _ 1 _ rfl
  ·rw [hx.cell (p := ⟨w.heap.size, 2, none⟩) (Nat.lt_trans hl0 hl1), hb1.cell (p := ⟨w.heap.size, 2, none⟩) hl0, ← hw0]; exact cell_new w _ _ 2 _ rfl
  ·rw [hx.cell (p := ⟨w.heap.size, 3, none⟩) (Nat.lt_trans hl0 hl1), hb1.cell (p := ⟨w.heap.size, 3, none⟩) hl0, ← hw0]; exact cell_new w _ _ 3 _ rfl
 have HCL : Hid (∀ wx, Below w1.heap.size w1 wx → wx.cell? ⟨w0.heap.size, 0, none⟩ = some (.int .i64 le) ∧ wx.cell? ⟨w0.heap.size, 1, none⟩ = some (.int .i64 lt)) := fun wx hx => by
  rw [hx.cell (p := ⟨w0.heap.size, 0, none⟩) hl1, hx.cell (p := ⟨w0.heap.size, 1, none⟩) hl1, ← hw1]
  exact ⟨cell_new w0 _ _ 0 _ rfl, cell_new w0 _ _ 1 _ rfl⟩
 obtain ⟨L, hL⟩ : ∃ L, VD.len (.lst es) = L := ⟨_, rfl⟩
 obtain ⟨E, hE⟩ : ∃ E, VD.emp (.lst es) = E := ⟨_, rfl⟩
 have HL1 : Hid (∀ wx, Below w1.heap.size w1 wx → Calls Tryz.prog 22 #[ptr v] wx fun e w' => e = .returned (.int .i64 (L : Nat)) ∧ Below wx.heap.size wx w') := fun wx hx => by rw [← hL]; exact LenV wx B v _ one F (hP.keep hx)
 have HL2 : Hid (∀ wx, Below w1.heap.size w1 wx → Calls Tryz.prog 30 #[.agg #[.int .i64 4, .string ⟨#[]⟩, .slice none 0 0, .slice a n c]] wx fun e w' => e = .returned (.int .i64 (L : Nat)) ∧ Below wx.heap.size wx w') := fun wx hx => by rw [← hL]; exact (hV.keep hx).len
 have HE1 : Hid (∀ wx, Below w1.heap.size w1 wx → Calls Tryz.prog 21 #[ptr v] wx fun e w' => e = .returned (.bool E) ∧ Below wx.heap.size wx w') := fun wx hx => by rw [← hE]; exact EmptyV wx B v _ one F (hP.keep hx)
 have HE2 : Hid (∀ wx, Below w1.heap.size w1 wx → Calls Tryz.prog 31 #[.agg #[.int .i64 4, .string ⟨#[]⟩, .slice none 0 0, .slice a n c]] wx fun e w' => e = .returned (.bool E) ∧ Below wx.heap.size wx w') := fun wx hx => by rw [← hE]; exact (hV.keep hx).empty
 have HT1 : Hid (∀ wx, Below w1.heap.size w1 wx → Calls Tryz.prog 23 #[ptr v] wx fun e w' => e = .returned (.string (typ 4)) ∧ w' = wx) := fun wx hx => TypeV wx B v _ one F (hP.keep hx)
 have HT2 : Hid (∀ wx, Calls Tryz.prog 25 #[.int .i64 4] wx fun e w' => e = .returned (.string (typ 4)) ∧ w' = wx) := fun wx => rType_any wx 4 (by decide) (by decide)
 generalize typ 4 = T at HT1 HT2
 have HD : Hid (Below w1.heap.size w1 w1.drew) := below_drewN w1 1
 have HO : Hid (OwnS w1 C a n c es) := hO.keep hb
 clear hb0 hb1 hl0 hl1 hb hP hV hV0 hL hE h hok hO
 go_enter Tryz.func9, Tryz.ntmps9
 go_upto_region 1 with fail
 go_cut [39] from 11 to 39 (fun u wx => ∃ wy, wy = wx ∧ u = .bool false ∧ Hid (Below w1.heap.size w1 wy))
 case first =>
  cases E
  all_goals
   go_region_held3 (fun w' => w'.cell? ⟨v, 0, none⟩ = some (.int .i64 4) ∧ w'.cell? ⟨w.heap.size, 0, none⟩ = some (.int .i64 4) ∧ w'.cell? ⟨w.heap.size, 1, none⟩ = some (.string ⟨#[]⟩) ∧ w'.cell? ⟨w.heap.size, 2, none⟩ = some (.slice none 0 0) ∧ w'.cell? ⟨w.heap.size, 3, none⟩ = some (.slice a n c)) (exact HC.out _ HD.out) (first
    | (go_at_call 22; refine (HL1.out _ HD.out).mono ?_; rintro e wx ⟨rfl, hb⟩; replace HD := step_below HD hb; clear hb)
    | (go_at_call 30; refine (HL2.out _ HD.out).mono ?_; rintro e wx ⟨rfl, hb⟩; replace HD := step_below HD hb; clear hb)
    | (go_at_call 21; refine (HE1.out _ HD.out).mono ?_; rintro e wx ⟨rfl, hb⟩; replace HD := step_below HD hb; clear hb)
    | (go_at_call 31; refine (HE2.out _ HD.out).mono ?_; rintro e wx ⟨rfl, hb⟩; replace HD := step_below HD hb; clear hb)
    | (go_at_call 23; refine (HT1.out _ HD.out).mono ?_; rintro e wx ⟨rfl, rfl⟩)
    | (go_at_call 25; refine (HT2.out _).mono ?_; rintro e wx ⟨rfl, rfl⟩))
   all_goals
    go_wp2
    go_meet
    exact ⟨_, rfl, rfl, HD⟩
 case rest =>
 obtain ⟨w2, rfl, rfl, HD2⟩ := hcut
 clear HL1 HL2 HE1 HE2 HT1 HT2 HD
 have HE := EncodingV w2 B v _ one F (HP.out.keep HD2.out) HOk.out
 obtain ⟨m, most, q, hVB, hH, hone⟩ := HP.out.list
 have HH : Hid (QV w1 B m most es q F) := hH
 have HF : Hid (∀ wx, Below w1.heap.size w1 wx → wx.cell? ⟨v, 4, none⟩ = some (ptr m)) := fun wx hx => (hVB.keep hx).cl
 have HLn : Hid (es.length = n) := HO.out.len
 have hn : n ≤ 100 := by rw [← HLn.out]; exact HOk.out.1
 clear hH hVB
 have HQ : Hid (one = decide (q ≤ 1)) := hone
 clear hone
 have HAl : Hid (∀ wx, Below w1.heap.size w1 wx → Calls Tryz.prog 41 #[ptr m] wx fun e w' => Below wx.heap.size wx w' ∧ ∃ a5 c5 fs, e = .returned (.slice a5 n c5) ∧ OwnS w' wx.heap.size a5 n c5 fs ∧ fs = es) := fun wx hx => by
  refine (VAll wx B m most q es F (HH.out.keep hx) (by rw [HLn.out]; omega)).mono ?_
  rintro e w5 ⟨hb, a5, n5, c5, rfl, hO5⟩
  have e1 : n5 = n := by rw [← hO5.len, HLn.out]
  subst e1
  exact ⟨hb, a5, c5, es, rfl, hO5, rfl⟩
 have HCmp : Hid (∀ wx, Below w1.heap.size w1 wx → ∀ wy a5 c5 fs, OwnS wx wy a5 n c5 fs → fs = es → Calls Tryz.prog 40 #[.slice a5 n c5, .slice a n c] wx fun e w' => e = .returned (.bool true) ∧ Below wx.heap.size wx w') := fun wx hx wy a5 c5 fs h5 hp => by
  subst hp
  refine (Lists_of wx a5 a n c5 n c fs h5.rd (HO.out.keep hx).rd).mono ?_
  rintro e w' ⟨h1, h2⟩
  exact ⟨h2, h1⟩
 have HPk : Hid (∀ wx, Below w1.heap.size w1 wx → Calls Tryz.prog 39 #[ptr m] wx fun e w' => Below wx.heap.size wx w' ∧ ∃ a5 c5, e = .returned (.slice a5 q c5)) := fun wx hx => VNodes wx B m most q es F (HH.out.keep hx) (by rw [HLn.out]; omega)
 have hq : (one = true ∧ (q : Int) ≤ 1) ∨ (one = false ∧ decide (q ≤ 1) = false ∧ decide ((q : Int) ≤ 1) = false ∧ (1 : Int) < q) := by
  have h1 := HQ.out
  by_cases h2 : q ≤ 1
  ·exact .inl ⟨by rw [h1]; simp [h2], by omega⟩
  ·exact .inr ⟨by rw [h1]; simp [h2], by simp [h2], by simp; omega, by omega⟩
 clear HQ
 rcases hq with ⟨rfl, hq1⟩ | ⟨rfl, hq1, hq2, hq3⟩
 ·simp only [VD.enc, if_true] at HE
  go_wp2_with fail
  refine HE.mono ?_
  rintro e w3 ⟨rfl, hb⟩
  have HD3 := step_below HD2 hb
  obtain ⟨s0, s1, s2, s3, s4⟩ := HC.out _ HD3.out
  have f3 := HF.out _ HD3.out
  have HPw := HPk.out _ HD3.out
  clear hb HE
  go_wp2_with fail
  refine HPw.mono ?_
  rintro e w4 ⟨hb, a5, c5, rfl⟩
  have HD4 := step_below HD3 hb
  clear hb HPw
  have HDd : Hid (Below w1.heap.size w1 w4.drew) := step_below HD4 (below_drewN w4 1)
  have HS1 : Hid (∀ wx, Below w1.heap.size w1 wx → (fun w' : World => w'.cell? ⟨v, 4, none⟩ = some (ptr m) ∧ w'.cell? ⟨w.heap.size, 3, none⟩ = some (.slice a n c)) wx) := fun wx hx => ⟨HF.out wx hx, (HC.out wx hx).2.2.2.2⟩
  go_upto_region 14 with fail
  refine wp_region_held_drew (S := fun w' => w'.cell? ⟨v, 4, none⟩ = some (ptr m) ∧ w'.cell? ⟨w.heap.size, 3, none⟩ = some (.slice a n c)) (by kernel_rfl) (HS1.out _ HDd.out) (fun hHeld => ?_)
  refine wpAnyH_take (i := 0) (oi := ⟨some 127, .move (.tmp 0), 31, "law.go:112", #[], none⟩) (v := ?_) rfl (by kernel_rfl) (by kernel_rfl) (by kernel_rfl) (fun _ _ _ h => h) (Or.inl ⟨by rfl, ?_⟩) (by assumption) ?_
  rotate_left
  ·(intro w hSw; (try dsimp only at hSw); go_simp; (try with_reducible rfl))
  try simp only [Act.put, List.setIfInBounds_toArray, List.set_cons_zero, List.set_cons_succ]
  refine wpAnyH_take (i := 1) (oi := ⟨some 128, .nilCheck (.tmp 127), 0, "law.go:112", #[⟨0, .data⟩], none⟩) (v := ?_) rfl (by kernel_rfl) (by kernel_rfl) (by kernel_rfl) (fun _ _ _ h => h) (Or.inl ⟨by rfl, ?_⟩) (by assumption) ?_
  rotate_left
  ·(intro w hSw; (try dsimp only at hSw); go_simp; (try with_reducible rfl))
  try simp only [Act.put, List.setIfInBounds_toArray, List.set_cons_zero, List.set_cons_succ]
  refine wpAnyH_take (i := 2) (oi := ⟨some 129, .fieldAddr 46 (.tmp 128) 4, 0, "law.go:112", #[⟨1, .data⟩], none⟩) (v := ?_) rfl (by kernel_rfl) (by kernel_rfl) (by kernel_rfl) (fun _ _ _ h => h) (Or.inl ⟨by rfl, ?_⟩) (by assumption) ?_
  rotate_left
  ·(intro w hSw; (try dsimp only at hSw); go_simp; (try with_reducible rfl))
  try simp only [Act.put, List.setIfInBounds_toArray, List.set_cons_zero, List.set_cons_succ]
  refine wpAnyH_take (i := 3) (oi := ⟨some 130, .load 44 (.tmp 129), 44, "law.go:112", #[⟨2, .data⟩], none⟩) (v := ?_) rfl (by kernel_rfl) (by kernel_rfl) (by kernel_rfl) (fun _ _ _ h => h) (Or.inl ⟨by rfl, ?_⟩) (by assumption) ?_
  rotate_left
  ·(intro w hSw; (try dsimp only at hSw); go_simp; (try with_reducible rfl))
  try simp only [Act.put, List.setIfInBounds_toArray, List.set_cons_zero, List.set_cons_succ]
  refine wpAnyH_take (i := 5) (oi := ⟨some 132, .fieldAddr 29 (.tmp 4) 3, 0, "law.go:112", #[], none⟩) (v := ?_) rfl (by kernel_rfl) (by kernel_rfl) (by kernel_rfl) (fun _ _ _ h => h) (Or.inl ⟨by rfl, ?_⟩) (by assumption) ?_
  rotate_left
  ·(intro w hSw; (try dsimp only at hSw); go_simp; (try with_reducible rfl))
  try simp only [Act.put, List.setIfInBounds_toArray, List.set_cons_zero, List.set_cons_succ]
  refine wpAnyH_take (i := 6) (oi := ⟨some 133, .load 23 (.tmp 132), 23, "law.go:112", #[⟨5, .data⟩], none⟩) (v := ?_) rfl (by kernel_rfl) (by kernel_rfl) (by kernel_rfl) (fun _ _ _ h => h) (Or.inl ⟨by rfl, ?_⟩) (by assumption) ?_
  rotate_left
  ·(intro w hSw; (try dsimp only at hSw); go_simp; (try with_reducible rfl))
  try simp only [Act.put, List.setIfInBounds_toArray, List.set_cons_zero, List.set_cons_succ]
  refine wpAnyH_ready (rs := [4]) (by kernel_rfl) (by simp) ?_
  refine AllReadyH.cons (o := ⟨some 131, .call { callee := .value (.func 41), args := #[.tmp 130], argTypes := #[44] }, 23, "law.go:112", #[⟨3, .data⟩], none⟩) rfl (fun K hK => ?_) AllReadyH.nil
  go_simp
  (go_at_call 41; refine (HAl.out _ HDd.out).mono ?_; rintro e w6 ⟨hb, a6, c6, fs, rfl, hO6, hp6⟩; have HD6 := step_below HDd hb; have HCm := HCmp.out _ HD6.out _ a6 c6 fs hO6 hp6; clear hb hO6 hp6)
  (try go_wp2_with fail)
  refine hK.out _ _ (HS1.out _ HD6.out) ?_
  clear hK K hHeld
  intro hHeld
  try simp only [Act.put, List.setIfInBounds_toArray, List.set_cons_zero, List.set_cons_succ]
  refine wpAnyH_ready (rs := [7]) (by kernel_rfl) (by simp) ?_
  refine AllReadyH.cons (o := ⟨some 134, .call { callee := .value (.func 40), args := #[.tmp 131, .tmp 133], argTypes := #[23, 23] }, 4, "law.go:112", #[⟨4, .data⟩, ⟨6, .data⟩, ⟨4, .chain⟩], none⟩) rfl (fun K hK => ?_) AllReadyH.nil
  go_simp
  (go_at_call 40; refine HCm.mono ?_; rintro e w7 ⟨rfl, hb⟩; have HD7 := step_below HD6 hb; clear hb)
  (try go_wp2_with fail)
  refine hK.out _ _ (HS1.out _ HD7.out) ?_
  clear hK K hHeld
  intro hHeld
  try simp only [Act.put, List.setIfInBounds_toArray, List.set_cons_zero, List.set_cons_succ]
  refine wpAnyH_take (i := 8) (oi := ⟨some 135, .move (.tmp 134), 4, "law.go:112", #[⟨7, .data⟩, ⟨7, .chain⟩], none⟩) (v := ?_) rfl (by kernel_rfl) (by kernel_rfl) (by kernel_rfl) (fun _ _ _ h => h) (Or.inl ⟨by rfl, ?_⟩) (by assumption) ?_
  rotate_left
  ·(intro w hSw; (try dsimp only at hSw); go_simp; (try with_reducible rfl))
  try simp only [Act.put, List.setIfInBounds_toArray, List.set_cons_zero, List.set_cons_succ]
  refine wpAnyH_take (i := 9) (oi := ⟨some 136, .move (.tmp 7), 9, "law.go:112", #[⟨8, .guard⟩], some (8, true)⟩) (v := ?_) rfl (by kernel_rfl) (by kernel_rfl) (by kernel_rfl) (fun _ _ _ h => h) (Or.inl ⟨by rfl, ?_⟩) (by assumption) ?_
  rotate_left
  ·(intro w hSw; (try dsimp only at hSw); go_simp; (try with_reducible rfl))
  try simp only [Act.put, List.setIfInBounds_toArray, List.set_cons_zero, List.set_cons_succ]
  refine wpAnyH_take (i := 10) (oi := ⟨some 137, .binOp .eql 9 (.tmp 136) (.const (.string { data := #[108, 105, 115, 116, 112, 97, 99, 107] })) 9, 4, "law.go:112", #[⟨9, .data⟩, ⟨8, .guard⟩], some (8, true)⟩) (v := ?_) rfl (by kernel_rfl) (by kernel_rfl) (by kernel_rfl) (fun _ _ _ h => h) (Or.inl ⟨by rfl, ?_⟩) (by assumption) ?_
  rotate_left
  ·(intro w hSw; (try dsimp only at hSw); go_simp; (try with_reducible rfl))
  try simp only [Act.put, List.setIfInBounds_toArray, List.set_cons_zero, List.set_cons_succ]
  refine wpAnyH_take (i := 11) (oi := ⟨some 138, .move (.tmp 137), 4, "law.go:112", #[⟨10, .data⟩, ⟨8, .chain⟩, ⟨8, .guard⟩], some (8, true)⟩) (v := ?_) rfl (by kernel_rfl) (by kernel_rfl) (by kernel_rfl) (fun _ _ _ h => h) (Or.inl ⟨by rfl, ?_⟩) (by assumption) ?_
  rotate_left
  ·(intro w hSw; (try dsimp only at hSw); go_simp; (try with_reducible rfl))
  try simp only [Act.put, List.setIfInBounds_toArray, List.set_cons_zero, List.set_cons_succ]
  refine wpAnyH_take (i := 12) (oi := ⟨some 139, .move (.tmp 10), 4, "law.go:112", #[⟨11, .guard⟩], some (11, true)⟩) (v := ?_) rfl (by kernel_rfl) (by kernel_rfl) (by kernel_rfl) (fun _ _ _ h => h) (Or.inl ⟨by rfl, ?_⟩) (by assumption) ?_
  rotate_left
  ·(intro w hSw; (try dsimp only at hSw); go_simp; (try with_reducible rfl))
  try simp only [Act.put, List.setIfInBounds_toArray, List.set_cons_zero, List.set_cons_succ]
  refine wpAnyH_take (i := 13) (oi := ⟨some 140, .pick (.tmp 138) (.tmp 139) (.const (.bool false)), 4, "law.go:112", #[⟨11, .data⟩, ⟨12, .data⟩, ⟨8, .guard⟩], some (8, true)⟩) (v := ?_) rfl (by kernel_rfl) (by kernel_rfl) (by kernel_rfl) (fun _ _ _ h => h) (Or.inl ⟨by rfl, ?_⟩) (by assumption) ?_
  rotate_left
  ·(intro w hSw; (try dsimp only at hSw); go_simp; (try with_reducible rfl))
  try simp only [Act.put, List.setIfInBounds_toArray, List.set_cons_zero, List.set_cons_succ]
  refine wpAnyH_take (i := 14) (oi := ⟨some 141, .move (.tmp 140), 4, "law.go:112", #[⟨13, .data⟩, ⟨11, .chain⟩, ⟨8, .guard⟩], some (8, true)⟩) (v := ?_) rfl (by kernel_rfl) (by kernel_rfl) (by kernel_rfl) (fun _ _ _ h => h) (Or.inl ⟨by rfl, ?_⟩) (by assumption) ?_
  rotate_left
  ·(intro w hSw; (try dsimp only at hSw); go_simp; (try with_reducible rfl))
  try simp only [Act.put, List.setIfInBounds_toArray, List.set_cons_zero, List.set_cons_succ]
  refine wpAnyH_take (i := 15) (oi := ⟨some 142, .move (.tmp 7), 9, "law.go:112", #[⟨14, .guard⟩], some (14, false)⟩) (v := undef) rfl (by kernel_rfl) (by kernel_rfl) (by kernel_rfl) (fun _ _ _ h => h) (Or.inr ⟨by rfl, rfl⟩) (by assumption) ?_
  try simp only [Act.put, List.setIfInBounds_toArray, List.set_cons_zero, List.set_cons_succ]
  refine wpAnyH_take (i := 16) (oi := ⟨some 143, .binOp .eql 9 (.tmp 142) (.const (.string { data := #[113, 117, 105, 99, 107, 108, 105, 115, 116] })) 9, 4, "law.go:112", #[⟨15, .data⟩, ⟨14, .guard⟩], some (14, false)⟩) (v := undef) rfl (by kernel_rfl) (by kernel_rfl) (by kernel_rfl) (fun _ _ _ h => h) (Or.inr ⟨by rfl, rfl⟩) (by assumption) ?_
  try simp only [Act.put, List.setIfInBounds_toArray, List.set_cons_zero, List.set_cons_succ]
  refine wpAnyH_take (i := 17) (oi := ⟨some 144, .move (.tmp 143), 4, "law.go:112", #[⟨16, .data⟩, ⟨14, .chain⟩, ⟨14, .guard⟩], some (14, false)⟩) (v := undef) rfl (by kernel_rfl) (by kernel_rfl) (by kernel_rfl) (fun _ _ _ h => h) (Or.inr ⟨by rfl, rfl⟩) (by assumption) ?_
  try simp only [Act.put, List.setIfInBounds_toArray, List.set_cons_zero, List.set_cons_succ]
  refine wpAnyH_take (i := 18) (oi := ⟨some 145, .move (.tmp 10), 4, "law.go:112", #[⟨17, .guard⟩], some (17, true)⟩) (v := undef) rfl (by kernel_rfl) (by kernel_rfl) (by kernel_rfl) (fun _ _ _ h => h) (Or.inr ⟨by rfl, rfl⟩) (by assumption) ?_
  try simp only [Act.put, List.setIfInBounds_toArray, List.set_cons_zero, List.set_cons_succ]
  refine wpAnyH_take (i := 19) (oi := ⟨some 146, .unOp .not 4 (.tmp 145), 4, "law.go:112", #[⟨18, .data⟩, ⟨17, .guard⟩], some (17, true)⟩) (v := undef) rfl (by kernel_rfl) (by kernel_rfl) (by kernel_rfl) (fun _ _ _ h => h) (Or.inr ⟨by rfl, rfl⟩) (by assumption) ?_
  try simp only [Act.put, List.setIfInBounds_toArray, List.set_cons_zero, List.set_cons_succ]
  refine wpAnyH_take (i := 20) (oi := ⟨some 147, .pick (.tmp 144) (.tmp 146) (.const (.bool false)), 4, "law.go:112", #[⟨17, .data⟩, ⟨19, .data⟩, ⟨14, .guard⟩], some (14, false)⟩) (v := undef) rfl (by kernel_rfl) (by kernel_rfl) (by kernel_rfl) (fun _ _ _ h => h) (Or.inr ⟨by rfl, rfl⟩) (by assumption) ?_
  try simp only [Act.put, List.setIfInBounds_toArray, List.set_cons_zero, List.set_cons_succ]
  refine wpAnyH_take (i := 21) (oi := ⟨some 148, .pick (.tmp 141) (.const (.bool true)) (.tmp 147), 4, "law.go:112", #[⟨14, .data⟩, ⟨20, .data⟩, ⟨8, .guard⟩], some (8, true)⟩) (v := ?_) rfl (by kernel_rfl) (by kernel_rfl) (by kernel_rfl) (fun _ _ _ h => h) (Or.inl ⟨by rfl, ?_⟩) (by assumption) ?_
  rotate_left
  ·(intro w hSw; (try dsimp only at hSw); go_simp; (try with_reducible rfl))
  try simp only [Act.put, List.setIfInBounds_toArray, List.set_cons_zero, List.set_cons_succ]
  refine wpAnyH_take (i := 22) (oi := ⟨some 149, .pick (.tmp 135) (.tmp 148) (.const (.bool false)), 4, "law.go:112", #[⟨8, .data⟩, ⟨21, .data⟩], none⟩) (v := ?_) rfl (by kernel_rfl) (by kernel_rfl) (by kernel_rfl) (fun _ _ _ h => h) (Or.inl ⟨by rfl, ?_⟩) (by assumption) ?_
  rotate_left
  ·(intro w hSw; (try dsimp only at hSw); go_simp; (try with_reducible rfl))
  try simp only [Act.put, List.setIfInBounds_toArray, List.set_cons_zero, List.set_cons_succ]
  refine wpAnyH_take (i := 23) (oi := ⟨some 6, .assign (.tmp 149), 4, "law.go:112", #[⟨22, .data⟩, ⟨17, .chain⟩, ⟨0, .phase⟩, ⟨1, .phase⟩, ⟨2, .phase⟩, ⟨3, .phase⟩, ⟨4, .phase⟩, ⟨5, .phase⟩, ⟨6, .phase⟩, ⟨7, .phase⟩, ⟨8, .phase⟩, ⟨9, .phase⟩, ⟨10, .phase⟩, ⟨11, .phase⟩, ⟨12, .phase⟩, ⟨13, .phase⟩, ⟨14, .phase⟩, ⟨15, .phase⟩, ⟨16, .phase⟩, ⟨17, .phase⟩, ⟨18, .phase⟩, ⟨19, .phase⟩, ⟨20, .phase⟩, ⟨21, .phase⟩, ⟨22, .phase⟩], none⟩) (v := ?_) rfl (by kernel_rfl) (by kernel_rfl) (by kernel_rfl) (fun _ _ _ h => h) (Or.inl ⟨by rfl, ?_⟩) (by assumption) ?_
  rotate_left
  ·(intro w hSw; (try dsimp only at hSw); go_simp; (try with_reducible rfl))
  try simp only [Act.put, List.setIfInBounds_toArray, List.set_cons_zero, List.set_cons_succ]
  refine wpAnyH_done (by kernel_rfl) ?_ _
  have HBe := step_below HB1 HD7.out
  go_wp2
  go_ret
  exact ⟨rfl, HBe.out⟩
 ·simp only [VD.enc, if_false, Bool.false_eq_true] at HE
  go_wp2_with fail
  refine HE.mono ?_
  rintro e w3 ⟨rfl, hb⟩
  have HD3 := step_below HD2 hb
  obtain ⟨s0, s1, s2, s3, s4⟩ := HC.out _ HD3.out
  have f3 := HF.out _ HD3.out
  have HPw := HPk.out _ HD3.out
  clear hb HE
  go_wp2_with fail
  refine HPw.mono ?_
  rintro e w4 ⟨hb, a5, c5, rfl⟩
  have HD4 := step_below HD3 hb
  clear hb HPw
  have HDd : Hid (Below w1.heap.size w1 w4.drew) := step_below HD4 (below_drewN w4 1)
  have HS1 : Hid (∀ wx, Below w1.heap.size w1 wx → (fun w' : World => w'.cell? ⟨v, 4, none⟩ = some (ptr m) ∧ w'.cell? ⟨w.heap.size, 3, none⟩ = some (.slice a n c)) wx) := fun wx hx => ⟨HF.out wx hx, (HC.out wx hx).2.2.2.2⟩
  go_upto_region 14 with fail
  refine wp_region_held_drew (S := fun w' => w'.cell? ⟨v, 4, none⟩ = some (ptr m) ∧ w'.cell? ⟨w.heap.size, 3, none⟩ = some (.slice a n c)) (by kernel_rfl) (HS1.out _ HDd.out) (fun hHeld => ?_)
  refine wpAnyH_take (i := 0) (oi := ⟨some 127, .move (.tmp 0), 31, "law.go:112", #[], none⟩) (v := ?_) rfl (by kernel_rfl) (by kernel_rfl) (by kernel_rfl) (fun _ _ _ h => h) (Or.inl ⟨by rfl, ?_⟩) (by assumption) ?_
  rotate_left
  ·(intro w hSw; (try dsimp only at hSw); go_simp; (try with_reducible rfl))
  try simp only [Act.put, List.setIfInBounds_toArray, List.set_cons_zero, List.set_cons_succ]
  refine wpAnyH_take (i := 1) (oi := ⟨some 128, .nilCheck (.tmp 127), 0, "law.go:112", #[⟨0, .data⟩], none⟩) (v := ?_) rfl (by kernel_rfl) (by kernel_rfl) (by kernel_rfl) (fun _ _ _ h => h) (Or.inl ⟨by rfl, ?_⟩) (by assumption) ?_
  rotate_left
  ·(intro w hSw; (try dsimp only at hSw); go_simp; (try with_reducible rfl))
  try simp only [Act.put, List.setIfInBounds_toArray, List.set_cons_zero, List.set_cons_succ]
  refine wpAnyH_take (i := 2) (oi := ⟨some 129, .fieldAddr 46 (.tmp 128) 4, 0, "law.go:112", #[⟨1, .data⟩], none⟩) (v := ?_) rfl (by kernel_rfl) (by kernel_rfl) (by kernel_rfl) (fun _ _ _ h => h) (Or.inl ⟨by rfl, ?_⟩) (by assumption) ?_
  rotate_left
  ·(intro w hSw; (try dsimp only at hSw); go_simp; (try with_reducible rfl))
  try simp only [Act.put, List.setIfInBounds_toArray, List.set_cons_zero, List.set_cons_succ]
  refine wpAnyH_take (i := 3) (oi := ⟨some 130, .load 44 (.tmp 129), 44, "law.go:112", #[⟨2, .data⟩], none⟩) (v := ?_) rfl (by kernel_rfl) (by kernel_rfl) (by kernel_rfl) (fun _ _ _ h => h) (Or.inl ⟨by rfl, ?_⟩) (by assumption) ?_
  rotate_left
  ·(intro w hSw; (try dsimp only at hSw); go_simp; (try with_reducible rfl))
  try simp only [Act.put, List.setIfInBounds_toArray, List.set_cons_zero, List.set_cons_succ]
  refine wpAnyH_take (i := 5) (oi := ⟨some 132, .fieldAddr 29 (.tmp 4) 3, 0, "law.go:112", #[], none⟩) (v := ?_) rfl (by kernel_rfl) (by kernel_rfl) (by kernel_rfl) (fun _ _ _ h => h) (Or.inl ⟨by rfl, ?_⟩) (by assumption) ?_
  rotate_left
  ·(intro w hSw; (try dsimp only at hSw); go_simp; (try with_reducible rfl))
  try simp only [Act.put, List.setIfInBounds_toArray, List.set_cons_zero, List.set_cons_succ]
  refine wpAnyH_take (i := 6) (oi := ⟨some 133, .load 23 (.tmp 132), 23, "law.go:112", #[⟨5, .data⟩], none⟩) (v := ?_) rfl (by kernel_rfl) (by kernel_rfl) (by kernel_rfl) (fun _ _ _ h => h) (Or.inl ⟨by rfl, ?_⟩) (by assumption) ?_
  rotate_left
  ·(intro w hSw; (try dsimp only at hSw); go_simp; (try with_reducible rfl))
  try simp only [Act.put, List.setIfInBounds_toArray, List.set_cons_zero, List.set_cons_succ]
  refine wpAnyH_ready (rs := [4]) (by kernel_rfl) (by simp) ?_
  refine AllReadyH.cons (o := ⟨some 131, .call { callee := .value (.func 41), args := #[.tmp 130], argTypes := #[44] }, 23, "law.go:112", #[⟨3, .data⟩], none⟩) rfl (fun K hK => ?_) AllReadyH.nil
  go_simp
  (go_at_call 41; refine (HAl.out _ HDd.out).mono ?_; rintro e w6 ⟨hb, a6, c6, fs, rfl, hO6, hp6⟩; have HD6 := step_below HDd hb; have HCm := HCmp.out _ HD6.out _ a6 c6 fs hO6 hp6; clear hb hO6 hp6)
  (try go_wp2_with fail)
  refine hK.out _ _ (HS1.out _ HD6.out) ?_
  clear hK K hHeld
  intro hHeld
  try simp only [Act.put, List.setIfInBounds_toArray, List.set_cons_zero, List.set_cons_succ]
  refine wpAnyH_ready (rs := [7]) (by kernel_rfl) (by simp) ?_
  refine AllReadyH.cons (o := ⟨some 134, .call { callee := .value (.func 40), args := #[.tmp 131, .tmp 133], argTypes := #[23, 23] }, 4, "law.go:112", #[⟨4, .data⟩, ⟨6, .data⟩, ⟨4, .chain⟩], none⟩) rfl (fun K hK => ?_) AllReadyH.nil
  go_simp
  (go_at_call 40; refine HCm.mono ?_; rintro e w7 ⟨rfl, hb⟩; have HD7 := step_below HD6 hb; clear hb)
  (try go_wp2_with fail)
  refine hK.out _ _ (HS1.out _ HD7.out) ?_
  clear hK K hHeld
  intro hHeld
  try simp only [Act.put, List.setIfInBounds_toArray, List.set_cons_zero, List.set_cons_succ]
  refine wpAnyH_take (i := 8) (oi := ⟨some 135, .move (.tmp 134), 4, "law.go:112", #[⟨7, .data⟩, ⟨7, .chain⟩], none⟩) (v := ?_) rfl (by kernel_rfl) (by kernel_rfl) (by kernel_rfl) (fun _ _ _ h => h) (Or.inl ⟨by rfl, ?_⟩) (by assumption) ?_
  rotate_left
  ·(intro w hSw; (try dsimp only at hSw); go_simp; (try with_reducible rfl))
  try simp only [Act.put, List.setIfInBounds_toArray, List.set_cons_zero, List.set_cons_succ]
  refine wpAnyH_take (i := 9) (oi := ⟨some 136, .move (.tmp 7), 9, "law.go:112", #[⟨8, .guard⟩], some (8, true)⟩) (v := ?_) rfl (by kernel_rfl) (by kernel_rfl) (by kernel_rfl) (fun _ _ _ h => h) (Or.inl ⟨by rfl, ?_⟩) (by assumption) ?_
  rotate_left
  ·(intro w hSw; (try dsimp only at hSw); go_simp; (try with_reducible rfl))
  try simp only [Act.put, List.setIfInBounds_toArray, List.set_cons_zero, List.set_cons_succ]
  refine wpAnyH_take (i := 10) (oi := ⟨some 137, .binOp .eql 9 (.tmp 136) (.const (.string { data := #[108, 105, 115, 116, 112, 97, 99, 107] })) 9, 4, "law.go:112", #[⟨9, .data⟩, ⟨8, .guard⟩], some (8, true)⟩) (v := ?_) rfl (by kernel_rfl) (by kernel_rfl) (by kernel_rfl) (fun _ _ _ h => h) (Or.inl ⟨by rfl, ?_⟩) (by assumption) ?_
  rotate_left
  ·(intro w hSw; (try dsimp only at hSw); go_simp; (try with_reducible rfl))
  try simp only [Act.put, List.setIfInBounds_toArray, List.set_cons_zero, List.set_cons_succ]
  refine wpAnyH_take (i := 11) (oi := ⟨some 138, .move (.tmp 137), 4, "law.go:112", #[⟨10, .data⟩, ⟨8, .chain⟩, ⟨8, .guard⟩], some (8, true)⟩) (v := ?_) rfl (by kernel_rfl) (by kernel_rfl) (by kernel_rfl) (fun _ _ _ h => h) (Or.inl ⟨by rfl, ?_⟩) (by assumption) ?_
  rotate_left
  ·(intro w hSw; (try dsimp only at hSw); go_simp; (try with_reducible rfl))
  try simp only [Act.put, List.setIfInBounds_toArray, List.set_cons_zero, List.set_cons_succ]
  refine wpAnyH_take (i := 12) (oi := ⟨some 139, .move (.tmp 10), 4, "law.go:112", #[⟨11, .guard⟩], some (11, true)⟩) (v := undef) rfl (by kernel_rfl) (by kernel_rfl) (by kernel_rfl) (fun _ _ _ h => h) (Or.inr ⟨by rfl, rfl⟩) (by assumption) ?_
  try simp only [Act.put, List.setIfInBounds_toArray, List.set_cons_zero, List.set_cons_succ]
  refine wpAnyH_take (i := 13) (oi := ⟨some 140, .pick (.tmp 138) (.tmp 139) (.const (.bool false)), 4, "law.go:112", #[⟨11, .data⟩, ⟨12, .data⟩, ⟨8, .guard⟩], some (8, true)⟩) (v := ?_) rfl (by kernel_rfl) (by kernel_rfl) (by kernel_rfl) (fun _ _ _ h => h) (Or.inl ⟨by rfl, ?_⟩) (by assumption) ?_
  rotate_left
  ·(intro w hSw; (try dsimp only at hSw); go_simp; (try with_reducible rfl))
  try simp only [Act.put, List.setIfInBounds_toArray, List.set_cons_zero, List.set_cons_succ]
  refine wpAnyH_take (i := 14) (oi := ⟨some 141, .move (.tmp 140), 4, "law.go:112", #[⟨13, .data⟩, ⟨11, .chain⟩, ⟨8, .guard⟩], some (8, true)⟩) (v := ?_) rfl (by kernel_rfl) (by kernel_rfl) (by kernel_rfl) (fun _ _ _ h => h) (Or.inl ⟨by rfl, ?_⟩) (by assumption) ?_
  rotate_left
  ·(intro w hSw; (try dsimp only at hSw); go_simp; (try with_reducible rfl))
  try simp only [Act.put, List.setIfInBounds_toArray, List.set_cons_zero, List.set_cons_succ]
  refine wpAnyH_take (i := 15) (oi := ⟨some 142, .move (.tmp 7), 9, "law.go:112", #[⟨14, .guard⟩], some (14, false)⟩) (v := ?_) rfl (by kernel_rfl) (by kernel_rfl) (by kernel_rfl) (fun _ _ _ h => h) (Or.inl ⟨by rfl, ?_⟩) (by assumption) ?_
  rotate_left
  ·(intro w hSw; (try dsimp only at hSw); go_simp; (try with_reducible rfl))
  try simp only [Act.put, List.setIfInBounds_toArray, List.set_cons_zero, List.set_cons_succ]
  refine wpAnyH_take (i := 16) (oi := ⟨some 143, .binOp .eql 9 (.tmp 142) (.const (.string { data := #[113, 117, 105, 99, 107, 108, 105, 115, 116] })) 9, 4, "law.go:112", #[⟨15, .data⟩, ⟨14, .guard⟩], some (14, false)⟩) (v := ?_) rfl (by kernel_rfl) (by kernel_rfl) (by kernel_rfl) (fun _ _ _ h => h) (Or.inl ⟨by rfl, ?_⟩) (by assumption) ?_
  rotate_left
  ·(intro w hSw; (try dsimp only at hSw); go_simp; (try with_reducible rfl))
  try simp only [Act.put, List.setIfInBounds_toArray, List.set_cons_zero, List.set_cons_succ]
  refine wpAnyH_take (i := 17) (oi := ⟨some 144, .move (.tmp 143), 4, "law.go:112", #[⟨16, .data⟩, ⟨14, .chain⟩, ⟨14, .guard⟩], some (14, false)⟩) (v := ?_) rfl (by kernel_rfl) (by kernel_rfl) (by kernel_rfl) (fun _ _ _ h => h) (Or.inl ⟨by rfl, ?_⟩) (by assumption) ?_
  rotate_left
  ·(intro w hSw; (try dsimp only at hSw); go_simp; (try with_reducible rfl))
  try simp only [Act.put, List.setIfInBounds_toArray, List.set_cons_zero, List.set_cons_succ]
  refine wpAnyH_take (i := 18) (oi := ⟨some 145, .move (.tmp 10), 4, "law.go:112", #[⟨17, .guard⟩], some (17, true)⟩) (v := ?_) rfl (by kernel_rfl) (by kernel_rfl) (by kernel_rfl) (fun _ _ _ h => h) (Or.inl ⟨by rfl, ?_⟩) (by assumption) ?_
  rotate_left
  ·(intro w hSw; (try dsimp only at hSw); go_simp; (try with_reducible rfl))
  try simp only [Act.put, List.setIfInBounds_toArray, List.set_cons_zero, List.set_cons_succ]
  refine wpAnyH_take (i := 19) (oi := ⟨some 146, .unOp .not 4 (.tmp 145), 4, "law.go:112", #[⟨18, .data⟩, ⟨17, .guard⟩], some (17, true)⟩) (v := ?_) rfl (by kernel_rfl) (by kernel_rfl) (by kernel_rfl) (fun _ _ _ h => h) (Or.inl ⟨by rfl, ?_⟩) (by assumption) ?_
  rotate_left
  ·(intro w hSw; (try dsimp only at hSw); go_simp; (try with_reducible rfl))
  try simp only [Act.put, List.setIfInBounds_toArray, List.set_cons_zero, List.set_cons_succ]
  refine wpAnyH_take (i := 20) (oi := ⟨some 147, .pick (.tmp 144) (.tmp 146) (.const (.bool false)), 4, "law.go:112", #[⟨17, .data⟩, ⟨19, .data⟩, ⟨14, .guard⟩], some (14, false)⟩) (v := ?_) rfl (by kernel_rfl) (by kernel_rfl) (by kernel_rfl) (fun _ _ _ h => h) (Or.inl ⟨by rfl, ?_⟩) (by assumption) ?_
  rotate_left
  ·(intro w hSw; (try dsimp only at hSw); go_simp; (try with_reducible rfl))
  try simp only [Act.put, List.setIfInBounds_toArray, List.set_cons_zero, List.set_cons_succ]
  refine wpAnyH_take (i := 21) (oi := ⟨some 148, .pick (.tmp 141) (.const (.bool true)) (.tmp 147), 4, "law.go:112", #[⟨14, .data⟩, ⟨20, .data⟩, ⟨8, .guard⟩], some (8, true)⟩) (v := ?_) rfl (by kernel_rfl) (by kernel_rfl) (by kernel_rfl) (fun _ _ _ h => h) (Or.inl ⟨by rfl, ?_⟩) (by assumption) ?_
  rotate_left
  ·(intro w hSw; (try dsimp only at hSw); go_simp; (try with_reducible rfl))
  try simp only [Act.put, List.setIfInBounds_toArray, List.set_cons_zero, List.set_cons_succ]
  refine wpAnyH_take (i := 22) (oi := ⟨some 149, .pick (.tmp 135) (.tmp 148) (.const (.bool false)), 4, "law.go:112", #[⟨8, .data⟩, ⟨21, .data⟩], none⟩) (v := ?_) rfl (by kernel_rfl) (by kernel_rfl) (by kernel_rfl) (fun _ _ _ h => h) (Or.inl ⟨by rfl, ?_⟩) (by assumption) ?_
  rotate_left
  ·(intro w hSw; (try dsimp only at hSw); go_simp; (try with_reducible rfl))
  try simp only [Act.put, List.setIfInBounds_toArray, List.set_cons_zero, List.set_cons_succ]
  refine wpAnyH_take (i := 23) (oi := ⟨some 6, .assign (.tmp 149), 4, "law.go:112", #[⟨22, .data⟩, ⟨17, .chain⟩, ⟨0, .phase⟩, ⟨1, .phase⟩, ⟨2, .phase⟩, ⟨3, .phase⟩, ⟨4, .phase⟩, ⟨5, .phase⟩, ⟨6, .phase⟩, ⟨7, .phase⟩, ⟨8, .phase⟩, ⟨9, .phase⟩, ⟨10, .phase⟩, ⟨11, .phase⟩, ⟨12, .phase⟩, ⟨13, .phase⟩, ⟨14, .phase⟩, ⟨15, .phase⟩, ⟨16, .phase⟩, ⟨17, .phase⟩, ⟨18, .phase⟩, ⟨19, .phase⟩, ⟨20, .phase⟩, ⟨21, .phase⟩, ⟨22, .phase⟩], none⟩) (v := ?_) rfl (by kernel_rfl) (by kernel_rfl) (by kernel_rfl) (fun _ _ _ h => h) (Or.inl ⟨by rfl, ?_⟩) (by assumption) ?_
  rotate_left
  ·(intro w hSw; (try dsimp only at hSw); go_simp; (try with_reducible rfl))
  try simp only [Act.put, List.setIfInBounds_toArray, List.set_cons_zero, List.set_cons_succ]
  refine wpAnyH_done (by kernel_rfl) ?_ _
  have HBe := step_below HB1 HD7.out
  go_wp2
  go_ret
  exact ⟨rfl, HBe.out⟩
end Go.Proofs.YtikimcbalkhooaaGreat
