/-
  SsetCopies.
-/
import Derived.Test.YtkohjejfkbaffaaGreatG19
namespace Go.Proofs.YtkohjejfkbaffaaGreat
open Go.RowKit Go.PlainAid
open Dk (En Stay hasK putE delE keysOf Dct Dg dtag Turn)

set_option maxRecDepth 100000 in
set_option maxHeartbeats 4000000 in
theorem copiesS_any (x : Nat) (a : Option Addr) (n cap : Nat) (more : ByteArray) (w : World) (hx : x < 18446744073709551616) (ha : RdK w a n) :
    Calls Tryz.prog 8 #[.int .u64 x, .slice a n cap, .string more] w fun e w' => e = .returned (.bool true) ∧ Below w.heap.size w w' := by
  have HMa := made_any x 5 20 a n cap w hx (by decide) (by decide) ha
  replace HMa : Calls Tryz.prog 9 #[.int .u64 x, .int .i64 5, .int .i64 20, .slice a n cap] w fun e w' => Made w w' x 5 20 e := HMa
  have HC := fun w => Cut_any more 9 w (by decide)
  have hk9 : (cutB more 9).size ≤ 9 := by have := size_cutB more 9 (by decide); omega
  generalize cutB more 9 = k9 at HC hk9
  clear ha
  go_enter Tryz.func8, Tryz.ntmps8
  go_wp2_with fail
  refine HMa.mono ?_
  rintro en w1 ⟨hb, m, q, l, F, M, rfl, hP, hl, hsz⟩
  have HB1 : Hid (Below w.heap.size w w1) := hb
  obtain ⟨pk, ra, rn, rc, hS, hM, -⟩ := hP
  have HS : Hid (Ss w1 w.heap.size m x 5 20 l pk F) := hS
  have HMd : Hid (Md w1 w.heap.size q 5 20 ra rn rc l pk) := hM
  have HL : Hid (l.length = rn) := hM.len
  have HSz : Hid (Szs 80 l) := hsz
  have hrn : rn ≤ 1600 := by have := hM.len; omega
  have HCp := CopyS w.heap.size m x 5 20 l pk F w1 hS (by omega)
  clear hb hS hM hsz hl HMa
  go_wp2_with fail
  refine HCp.mono ?_
  rintro en w2 ⟨hb, mc, Fc, rfl, hSc⟩
  have HB2 : Hid (Below w1.heap.size w1 w2) := hb
  have HBw2 := step_below HB1 hb
  have HSc : Hid (Ss w2 w1.heap.size mc x 5 20 l pk Fc) := hSc
  clear hb hSc HCp
  have hbd : Below w2.heap.size w2 w2.drew := below_drewN w2 1
  have HBd := step_below HB2 hbd
  have HPc := PackedS w1.heap.size mc x 5 20 l pk Fc w2.drew (HSc.out.keep hbd)
  have HPs := PackedS w.heap.size m x 5 20 l pk F w2.drew (HS.out.keep HBd.out)
  have HAl := AllS w1.heap.size mc x 5 20 l pk Fc w2.drew (HSc.out.keep hbd)
  have HSd : Hid (w2.drew.cell? ⟨q, 0, none⟩ = some (.slice ra rn rc)) := (HMd.out.keep HBd.out).c0
  have HE2 : Hid (Below w2.heap.size w2 w2.drew) := hbd
  have hmne : mc ≠ m := by
    have h1 := (HSc.out.lt).1
    have h2 := (HS.out.lt).2
    omega
  clear hbd
  go_upto_region 5 with fail
  go_cut [43] from 25 to 43 (fun u43 wx => ∃ wy, wy = wx ∧ u43 = .bool false ∧ Hid (Below w2.heap.size w2 wy))
  case first =>
    cases pk
    all_goals
      go_region_held3 (fun w' => w'.cell? ⟨q, 0, none⟩ = some (.slice ra rn rc)) (first | exact HS5.out | exact HS4.out | exact HSd.out) (first
        | (go_at_call_of 11 (ptr mc); refine HPc.mono ?_; rintro e wx ⟨rfl, rfl⟩)
        | (go_at_call_of 11 (ptr m); refine HPs.mono ?_; rintro e wx ⟨rfl, rfl⟩)
        | (go_at_call 21; refine HAl.mono ?_; rintro e w4 ⟨hb, a4, n4, c4, fs, rfl, hO4, hp4⟩; have HB4 := step_below HE2 hb; have HM4 := HMd.out.keep (HB2.out.trans (HB4.out.mono HB2.out.size)); have hn4 : rn = n4 := (hO4.len.symm.trans (hp4.length_eq.trans HL.out)).symm; subst hn4; have HBg := BagS w2.drew.heap.size w.heap.size a4 ra rn c4 rc fs l w4 hO4 HM4.row (by omega) hp4; have HS4 : Hid (w4.cell? ⟨q, 0, none⟩ = some (.slice ra rn rc)) := HM4.c0; clear hb hO4 hp4 HM4)
        | (go_at_call 19; refine HBg.mono ?_; rintro e w5 ⟨rfl, hb⟩; have HB5 := step_below HB4 hb; have HS5 : Hid (w5.cell? ⟨q, 0, none⟩ = some (.slice ra rn rc)) := (HMd.out.keep (HB2.out.trans (HB5.out.mono HB2.out.size))).c0; clear hb))
      all_goals
        go_wp2
        go_meet
        exact ⟨_, rfl, rfl, HB5⟩
  case rest =>
  obtain ⟨w6, rfl, rfl, HB6⟩ := hcut
  have HBw6 := step_below HBw2 HB6.out
  have HB16 := step_below HB2 HB6.out
  have HSc6 : Hid (Ss w6 w1.heap.size mc x 5 20 l pk Fc) := HSc.out.keep HB6.out
  clear HPc HPs HAl HSd HSc HE2 HBd HBw2 HB2 HB6
  go_upto_region 7 with fail
  go_cut [11] from 44 to 46 (fun v wx => w6 = wx ∧ ∃ X : ByteArray, v = .string X ∧ Hid (60 ≤ X.size ∧ X.size ≤ 120))
  case first =>
    go_wp2_with fail
    refine (HC _).mono ?_
    rintro e wx ⟨rfl, rfl⟩
    go_wp2
    go_meet
    refine ⟨rfl, _, rfl, ?_⟩
    show _ ∧ _
    rw [ByteArray.size_append]
    generalize hq : ByteArray.size { data := _ } = qq
    have : qq = 67 := by rw [← hq]; rfl
    omega
  case rest =>
  obtain ⟨rfl, X, rfl, HX⟩ := hcut
  obtain ⟨Z1, e1⟩ : ∃ Z1, (⟨#[122]⟩ : ByteArray) ++ X = Z1 := ⟨_, rfl⟩
  obtain ⟨Y, e2⟩ : ∃ Y, Z1 ++ X = Y := ⟨_, rfl⟩
  have hX := HX.out.2
  have hZ1 : Z1.size = 1 + X.size := by rw [← e1, ByteArray.size_append]; rfl
  have hY : Y.size = 1 + X.size + X.size := by rw [← e2, ByteArray.size_append, hZ1]
  have hno : Y ∉ l := fun hm => by have := HSz.out Y hm; have := HX.out.1; omega
  have HA := AddS w1.heap.size mc x 5 20 l pk Fc Y w6 HSc6.out (by omega) (by have := HL.out; omega)
  rw [hasM_no hno, addM_no hno] at HA
  have hZ2 : Z1.size ≤ 200 := by omega
  have hY2 : Y.size ≤ 300 := by omega
  clear HC hZ1 hY
  go_wp2_with fail
  refine HA.mono ?_
  rintro en w7 ⟨rfl, hto⟩
  have hbl : Below w1.heap.size w6 w7 := by
    obtain ⟨F', h1, h2, h3⟩ := hto
    exact h2.below (fun k hk => (HSc6.out.tags k hk).1) HSc6.out.2.1
  have HB17 : Hid (Below w1.heap.size w1 w7) := HB16.out.trans hbl
  obtain ⟨Fe, hSe, -, -⟩ := hto
  have HSe : Hid (Ss w7 w1.heap.size mc x 5 20 (l ++ [Y]) (pkA l pk 5 20 Y) Fe) := hSe
  have HBw7 := step_below HB1 HB17.out
  generalize pkA l pk 5 20 Y = pk2 at HSe
  clear hSe hbl HA HB16 HBw6
  have hbd : Below w7.heap.size w7 w7.drew := below_drewN w7 1
  have HBd := step_below HB17 hbd
  have hSs := HS.out.keep HBd.out
  have HHs := HasS w.heap.size m x 5 20 l pk F Y w7.drew hSs (by unfold maxLen; omega)
  rw [hasM_no hno] at HHs
  have HSd : Hid (w7.drew.cell? ⟨q, 0, none⟩ = some (.slice ra rn rc)) := (HMd.out.keep HBd.out).c0
  have HLy : Hid ((l ++ [Y]).length = rn + 1) := by show _ = _; rw [List.length_append, HL.out]; rfl
  have hw1 : IntKind.i64.wrap ((rn : Int) + 1) = (rn : Int) + 1 := by rw [IntKind.wrap_i64]; omega
  clear hSs hno
  have HSeB : Hid (Below w7.heap.size w7 w7.drew) := hbd
  clear hbd
  go_wp2_with fail
  refine wp_region_held_drew (S := fun w' => w'.cell? ⟨q, 0, none⟩ = some (.slice ra rn rc)) (by kernel_rfl) (HSd.out) (fun hHeld => ?_)
  refine wpAnyH_take (i := 0) (oi := { dst := some 62, op := Go.Op.move (Go.Operand.tmp 7), type := 27, pos := "law.go:261", after := #[], guard := none }) (v := ?_) rfl (by kernel_rfl) (by kernel_rfl) (by kernel_rfl) (fun _ _ _ h => h) (Or.inl ⟨by rfl, ?_⟩) (by assumption) ?_
  rotate_left
  · (intro w hSw; (try dsimp only at hSw); go_simp; (try with_reducible rfl))
  try simp only [Act.put, List.setIfInBounds_toArray, List.set_cons_zero, List.set_cons_succ]
  refine wpAnyH_take (i := 1) (oi := { dst := some 63, op := Go.Op.move (Go.Operand.tmp 11), type := 9, pos := "law.go:261", after := #[], guard := none }) (v := ?_) rfl (by kernel_rfl) (by kernel_rfl) (by kernel_rfl) (fun _ _ _ h => h) (Or.inl ⟨by rfl, ?_⟩) (by assumption) ?_
  rotate_left
  · (intro w hSw; (try dsimp only at hSw); go_simp; (try with_reducible rfl))
  try simp only [Act.put, List.setIfInBounds_toArray, List.set_cons_zero, List.set_cons_succ]
  refine wpAnyH_take (i := 3) (oi := { dst := some 65, op := Go.Op.move (Go.Operand.tmp 11), type := 9, pos := "law.go:261", after := #[], guard := none }) (v := ?_) rfl (by kernel_rfl) (by kernel_rfl) (by kernel_rfl) (fun _ _ _ h => h) (Or.inl ⟨by rfl, ?_⟩) (by assumption) ?_
  rotate_left
  · (intro w hSw; (try dsimp only at hSw); go_simp; (try with_reducible rfl))
  try simp only [Act.put, List.setIfInBounds_toArray, List.set_cons_zero, List.set_cons_succ]
  refine wpAnyH_ready (rs := [2]) (by kernel_rfl) (by simp) ?_
  refine AllReadyH.cons (o := { dst := some 64, op := Go.Op.binOp Go.BinOp.add 9 (Go.Operand.const (Go.Value.string { data := #[122] })) (Go.Operand.tmp 63) 9, type := 9, pos := "law.go:261", after := #[{ on := 1, ground := Go.Ground.data }], guard := none }) rfl (fun K hK => ?_) AllReadyH.nil
  go_simp
  skip
  (try go_wp2_with fail)
  refine hK.out _ _ (HSd.out) ?_
  clear hK K hHeld
  intro hHeld
  try simp only [Act.put, List.setIfInBounds_toArray, List.set_cons_zero, List.set_cons_succ]
  refine wpAnyH_ready (rs := [4]) (by kernel_rfl) (by simp) ?_
  refine AllReadyH.cons (o := { dst := some 66, op := Go.Op.binOp Go.BinOp.add 9 (Go.Operand.tmp 64) (Go.Operand.tmp 65) 9, type := 9, pos := "law.go:261", after := #[{ on := 2, ground := Go.Ground.data }, { on := 3, ground := Go.Ground.data }], guard := none }) rfl (fun K hK => ?_) AllReadyH.nil
  go_simp
  skip
  (try go_wp2_with fail)
  refine hK.out _ _ (HSd.out) ?_
  clear hK K hHeld
  intro hHeld
  try simp only [Act.put, List.setIfInBounds_toArray, List.set_cons_zero, List.set_cons_succ]
  refine wpAnyH_ready (rs := [5]) (by kernel_rfl) (by simp) ?_
  refine AllReadyH.cons (o := { dst := some 67, op := Go.Op.call { callee := Go.Callee.value (Go.Operand.func 27), args := #[Go.Operand.tmp 62, Go.Operand.tmp 66], argTypes := #[27, 9] }, type := 4, pos := "law.go:261", after := #[{ on := 0, ground := Go.Ground.data }, { on := 4, ground := Go.Ground.data }], guard := none }) rfl (fun K hK => ?_) AllReadyH.nil
  go_simp
  (go_at_call 27; refine HHs.mono ?_; rintro e w8 ⟨rfl, hb⟩; have HB8 := step_below HSeB hb; have HAl := AllS w.heap.size m x 5 20 l pk F w8 (HS.out.keep (HB17.out.trans (HB8.out.mono HB17.out.size))); have HS3 : Hid (w8.cell? ⟨q, 0, none⟩ = some (.slice ra rn rc)) := (HMd.out.keep (HB17.out.trans (HB8.out.mono HB17.out.size))).c0; clear hb)
  (try go_wp2_with fail)
  refine hK.out _ _ (HS3.out) ?_
  clear hK K hHeld
  intro hHeld
  try simp only [Act.put, List.setIfInBounds_toArray, List.set_cons_zero, List.set_cons_succ]
  refine wpAnyH_take (i := 6) (oi := { dst := some 68, op := Go.Op.unOp Go.UnOp.not 4 (Go.Operand.tmp 67), type := 4, pos := "law.go:261", after := #[{ on := 5, ground := Go.Ground.data }], guard := none }) (v := ?_) rfl (by kernel_rfl) (by kernel_rfl) (by kernel_rfl) (fun _ _ _ h => h) (Or.inl ⟨by rfl, ?_⟩) (by assumption) ?_
  rotate_left
  · (intro w hSw; (try dsimp only at hSw); go_simp; (try with_reducible rfl))
  try simp only [Act.put, List.setIfInBounds_toArray, List.set_cons_zero, List.set_cons_succ]
  refine wpAnyH_take (i := 7) (oi := { dst := some 69, op := Go.Op.move (Go.Operand.tmp 68), type := 4, pos := "law.go:261", after := #[{ on := 6, ground := Go.Ground.data }, { on := 5, ground := Go.Ground.chain }], guard := none }) (v := ?_) rfl (by kernel_rfl) (by kernel_rfl) (by kernel_rfl) (fun _ _ _ h => h) (Or.inl ⟨by rfl, ?_⟩) (by assumption) ?_
  rotate_left
  · (intro w hSw; (try dsimp only at hSw); go_simp; (try with_reducible rfl))
  try simp only [Act.put, List.setIfInBounds_toArray, List.set_cons_zero, List.set_cons_succ]
  refine wpAnyH_take (i := 8) (oi := { dst := some 70, op := Go.Op.move (Go.Operand.tmp 7), type := 27, pos := "law.go:261", after := #[{ on := 7, ground := Go.Ground.guard }], guard := some (7, true) }) (v := ?_) rfl (by kernel_rfl) (by kernel_rfl) (by kernel_rfl) (fun _ _ _ h => h) (Or.inl ⟨by rfl, ?_⟩) (by assumption) ?_
  rotate_left
  · (intro w hSw; (try dsimp only at hSw); go_simp; (try with_reducible rfl))
  try simp only [Act.put, List.setIfInBounds_toArray, List.set_cons_zero, List.set_cons_succ]
  refine wpAnyH_take (i := 10) (oi := { dst := some 72, op := Go.Op.move (Go.Operand.tmp 8), type := 28, pos := "law.go:261", after := #[{ on := 7, ground := Go.Ground.guard }], guard := some (7, true) }) (v := ?_) rfl (by kernel_rfl) (by kernel_rfl) (by kernel_rfl) (fun _ _ _ h => h) (Or.inl ⟨by rfl, ?_⟩) (by assumption) ?_
  rotate_left
  · (intro w hSw; (try dsimp only at hSw); go_simp; (try with_reducible rfl))
  try simp only [Act.put, List.setIfInBounds_toArray, List.set_cons_zero, List.set_cons_succ]
  refine wpAnyH_take (i := 11) (oi := { dst := some 73, op := Go.Op.nilCheck (Go.Operand.tmp 72), type := 0, pos := "law.go:261", after := #[{ on := 10, ground := Go.Ground.data }, { on := 7, ground := Go.Ground.guard }], guard := some (7, true) }) (v := ?_) rfl (by kernel_rfl) (by kernel_rfl) (by kernel_rfl) (fun _ _ _ h => h) (Or.inl ⟨by rfl, ?_⟩) (by assumption) ?_
  rotate_left
  · (intro w hSw; (try dsimp only at hSw); go_simp; (try with_reducible rfl))
  try simp only [Act.put, List.setIfInBounds_toArray, List.set_cons_zero, List.set_cons_succ]
  refine wpAnyH_take (i := 12) (oi := { dst := some 74, op := Go.Op.fieldAddr 49 (Go.Operand.tmp 73) 0, type := 0, pos := "law.go:261", after := #[{ on := 11, ground := Go.Ground.data }, { on := 7, ground := Go.Ground.guard }], guard := some (7, true) }) (v := ?_) rfl (by kernel_rfl) (by kernel_rfl) (by kernel_rfl) (fun _ _ _ h => h) (Or.inl ⟨by rfl, ?_⟩) (by assumption) ?_
  rotate_left
  · (intro w hSw; (try dsimp only at hSw); go_simp; (try with_reducible rfl))
  try simp only [Act.put, List.setIfInBounds_toArray, List.set_cons_zero, List.set_cons_succ]
  refine wpAnyH_take (i := 13) (oi := { dst := some 75, op := Go.Op.load 40 (Go.Operand.tmp 74), type := 40, pos := "law.go:261", after := #[{ on := 12, ground := Go.Ground.data }, { on := 7, ground := Go.Ground.guard }], guard := some (7, true) }) (v := ?_) rfl (by kernel_rfl) (by kernel_rfl) (by kernel_rfl) (fun _ _ _ h => h) (Or.inl ⟨by rfl, ?_⟩) (by assumption) ?_
  rotate_left
  · (intro w hSw; (try dsimp only at hSw); go_simp; (try with_reducible rfl))
  try simp only [Act.put, List.setIfInBounds_toArray, List.set_cons_zero, List.set_cons_succ]
  refine wpAnyH_ready (rs := [9]) (by kernel_rfl) (by simp) ?_
  refine AllReadyH.cons (o := { dst := some 71, op := Go.Op.call { callee := Go.Callee.value (Go.Operand.func 21), args := #[Go.Operand.tmp 70], argTypes := #[27] }, type := 40, pos := "law.go:261", after := #[{ on := 8, ground := Go.Ground.data }, { on := 7, ground := Go.Ground.chain }, { on := 7, ground := Go.Ground.guard }], guard := some (7, true) }) rfl (fun K hK => ?_) AllReadyH.nil
  go_simp
  (go_at_call 21; refine HAl.mono ?_; rintro e w9 ⟨hb, a4, n4, c4, fs, rfl, hO4, hp4⟩; have HB9 := step_below HB8 hb; have HM4 := HMd.out.keep (HB17.out.trans (HB9.out.mono HB17.out.size)); have hn4 : rn = n4 := (hO4.len.symm.trans (hp4.length_eq.trans HL.out)).symm; subst hn4; have HBg := BagS w8.heap.size w.heap.size a4 ra rn c4 rc fs l w9 hO4 HM4.row (by omega) hp4; have HS4 : Hid (w9.cell? ⟨q, 0, none⟩ = some (.slice ra rn rc)) := HM4.c0; clear hb hO4 hp4 HM4)
  (try go_wp2_with fail)
  refine hK.out _ _ (HS4.out) ?_
  clear hK K hHeld
  intro hHeld
  try simp only [Act.put, List.setIfInBounds_toArray, List.set_cons_zero, List.set_cons_succ]
  refine wpAnyH_ready (rs := [14]) (by kernel_rfl) (by simp) ?_
  refine AllReadyH.cons (o := { dst := some 76, op := Go.Op.call { callee := Go.Callee.value (Go.Operand.func 19), args := #[Go.Operand.tmp 71, Go.Operand.tmp 75], argTypes := #[40, 40] }, type := 4, pos := "law.go:261", after := #[{ on := 9, ground := Go.Ground.data }, { on := 13, ground := Go.Ground.data }, { on := 9, ground := Go.Ground.chain }, { on := 7, ground := Go.Ground.guard }], guard := some (7, true) }) rfl (fun K hK => ?_) AllReadyH.nil
  go_simp
  (go_at_call 19; refine HBg.mono ?_; rintro e w10 ⟨rfl, hb⟩; have HB10 := step_below HB9 hb; have HS5 : Hid (w10.cell? ⟨q, 0, none⟩ = some (.slice ra rn rc)) := (HMd.out.keep (HB17.out.trans (HB10.out.mono HB17.out.size))).c0; have HLc := LenS w1.heap.size mc x 5 20 (l ++ [Y]) pk2 Fe w10 (HSe.out.keep HB10.out); rw [HLy.out] at HLc; have HLs := LenS w.heap.size m x 5 20 l pk F w10 (HS.out.keep (HB17.out.trans (HB10.out.mono HB17.out.size))); rw [HL.out] at HLs; clear hb)
  (try go_wp2_with fail)
  refine hK.out _ _ (HS5.out) ?_
  clear hK K hHeld
  intro hHeld
  try simp only [Act.put, List.setIfInBounds_toArray, List.set_cons_zero, List.set_cons_succ]
  refine wpAnyH_take (i := 15) (oi := { dst := some 77, op := Go.Op.pick (Go.Operand.tmp 69) (Go.Operand.tmp 76) (Go.Operand.const (Go.Value.bool false)), type := 4, pos := "law.go:261", after := #[{ on := 7, ground := Go.Ground.data }, { on := 14, ground := Go.Ground.data }], guard := none }) (v := ?_) rfl (by kernel_rfl) (by kernel_rfl) (by kernel_rfl) (fun _ _ _ h => h) (Or.inl ⟨by rfl, ?_⟩) (by assumption) ?_
  rotate_left
  · (intro w hSw; (try dsimp only at hSw); go_simp; (try with_reducible rfl))
  try simp only [Act.put, List.setIfInBounds_toArray, List.set_cons_zero, List.set_cons_succ]
  refine wpAnyH_take (i := 16) (oi := { dst := some 78, op := Go.Op.move (Go.Operand.tmp 77), type := 4, pos := "law.go:261", after := #[{ on := 15, ground := Go.Ground.data }, { on := 14, ground := Go.Ground.chain }], guard := none }) (v := ?_) rfl (by kernel_rfl) (by kernel_rfl) (by kernel_rfl) (fun _ _ _ h => h) (Or.inl ⟨by rfl, ?_⟩) (by assumption) ?_
  rotate_left
  · (intro w hSw; (try dsimp only at hSw); go_simp; (try with_reducible rfl))
  try simp only [Act.put, List.setIfInBounds_toArray, List.set_cons_zero, List.set_cons_succ]
  refine wpAnyH_take (i := 17) (oi := { dst := some 79, op := Go.Op.move (Go.Operand.tmp 10), type := 27, pos := "law.go:261", after := #[{ on := 16, ground := Go.Ground.guard }], guard := some (16, true) }) (v := ?_) rfl (by kernel_rfl) (by kernel_rfl) (by kernel_rfl) (fun _ _ _ h => h) (Or.inl ⟨by rfl, ?_⟩) (by assumption) ?_
  rotate_left
  · (intro w hSw; (try dsimp only at hSw); go_simp; (try with_reducible rfl))
  try simp only [Act.put, List.setIfInBounds_toArray, List.set_cons_zero, List.set_cons_succ]
  refine wpAnyH_take (i := 19) (oi := { dst := some 81, op := Go.Op.move (Go.Operand.tmp 7), type := 27, pos := "law.go:261", after := #[{ on := 16, ground := Go.Ground.guard }], guard := some (16, true) }) (v := ?_) rfl (by kernel_rfl) (by kernel_rfl) (by kernel_rfl) (fun _ _ _ h => h) (Or.inl ⟨by rfl, ?_⟩) (by assumption) ?_
  rotate_left
  · (intro w hSw; (try dsimp only at hSw); go_simp; (try with_reducible rfl))
  try simp only [Act.put, List.setIfInBounds_toArray, List.set_cons_zero, List.set_cons_succ]
  refine wpAnyH_ready (rs := [18]) (by kernel_rfl) (by simp) ?_
  refine AllReadyH.cons (o := { dst := some 80, op := Go.Op.call { callee := Go.Callee.value (Go.Operand.func 13), args := #[Go.Operand.tmp 79], argTypes := #[27] }, type := 3, pos := "law.go:261", after := #[{ on := 17, ground := Go.Ground.data }, { on := 16, ground := Go.Ground.chain }, { on := 16, ground := Go.Ground.guard }], guard := some (16, true) }) rfl (fun K hK => ?_) AllReadyH.nil
  go_simp
  (go_at_call_of 13 (ptr mc); refine HLc.mono ?_; rintro e wx ⟨rfl, rfl⟩)
  (try go_wp2_with fail)
  refine hK.out _ _ (HS5.out) ?_
  clear hK K hHeld
  intro hHeld
  try simp only [Act.put, List.setIfInBounds_toArray, List.set_cons_zero, List.set_cons_succ]
  refine wpAnyH_ready (rs := [20]) (by kernel_rfl) (by simp) ?_
  refine AllReadyH.cons (o := { dst := some 82, op := Go.Op.call { callee := Go.Callee.value (Go.Operand.func 13), args := #[Go.Operand.tmp 81], argTypes := #[27] }, type := 3, pos := "law.go:261", after := #[{ on := 19, ground := Go.Ground.data }, { on := 18, ground := Go.Ground.chain }, { on := 16, ground := Go.Ground.guard }], guard := some (16, true) }) rfl (fun K hK => ?_) AllReadyH.nil
  go_simp
  (go_at_call_of 13 (ptr m); refine HLs.mono ?_; rintro e wx ⟨rfl, rfl⟩)
  (try go_wp2_with fail)
  refine hK.out _ _ (HS5.out) ?_
  clear hK K hHeld
  intro hHeld
  try simp only [Act.put, List.setIfInBounds_toArray, List.set_cons_zero, List.set_cons_succ]
  refine wpAnyH_take (i := 21) (oi := { dst := some 83, op := Go.Op.binOp Go.BinOp.add 3 (Go.Operand.tmp 82) (Go.Operand.const (Go.Value.int Go.IntKind.i64 1)) 3, type := 3, pos := "law.go:261", after := #[{ on := 20, ground := Go.Ground.data }, { on := 16, ground := Go.Ground.guard }], guard := some (16, true) }) (v := ?_) rfl (by kernel_rfl) (by kernel_rfl) (by kernel_rfl) (fun _ _ _ h => h) (Or.inl ⟨by rfl, ?_⟩) (by assumption) ?_
  rotate_left
  · (intro w hSw; (try dsimp only at hSw); go_simp; (try with_reducible rfl))
  try simp only [Act.put, List.setIfInBounds_toArray, List.set_cons_zero, List.set_cons_succ]
  refine wpAnyH_take (i := 22) (oi := { dst := some 84, op := Go.Op.binOp Go.BinOp.eql 3 (Go.Operand.tmp 80) (Go.Operand.tmp 83) 3, type := 4, pos := "law.go:261", after := #[{ on := 18, ground := Go.Ground.data }, { on := 21, ground := Go.Ground.data }, { on := 16, ground := Go.Ground.guard }], guard := some (16, true) }) (v := ?_) rfl (by kernel_rfl) (by kernel_rfl) (by kernel_rfl) (fun _ _ _ h => h) (Or.inl ⟨by rfl, ?_⟩) (by assumption) ?_
  rotate_left
  · (intro w hSw; (try dsimp only at hSw); go_simp; (try with_reducible rfl))
  try simp only [Act.put, List.setIfInBounds_toArray, List.set_cons_zero, List.set_cons_succ]
  refine wpAnyH_take (i := 23) (oi := { dst := some 85, op := Go.Op.pick (Go.Operand.tmp 78) (Go.Operand.tmp 84) (Go.Operand.const (Go.Value.bool false)), type := 4, pos := "law.go:261", after := #[{ on := 16, ground := Go.Ground.data }, { on := 22, ground := Go.Ground.data }], guard := none }) (v := ?_) rfl (by kernel_rfl) (by kernel_rfl) (by kernel_rfl) (fun _ _ _ h => h) (Or.inl ⟨by rfl, ?_⟩) (by assumption) ?_
  rotate_left
  · (intro w hSw; (try dsimp only at hSw); go_simp; (try with_reducible rfl))
  try simp only [Act.put, List.setIfInBounds_toArray, List.set_cons_zero, List.set_cons_succ]
  refine wpAnyH_take (i := 24) (oi := { dst := some 86, op := Go.Op.move (Go.Operand.tmp 85), type := 4, pos := "law.go:261", after := #[{ on := 23, ground := Go.Ground.data }, { on := 20, ground := Go.Ground.chain }], guard := none }) (v := ?_) rfl (by kernel_rfl) (by kernel_rfl) (by kernel_rfl) (fun _ _ _ h => h) (Or.inl ⟨by rfl, ?_⟩) (by assumption) ?_
  rotate_left
  · (intro w hSw; (try dsimp only at hSw); go_simp; (try with_reducible rfl))
  try simp only [Act.put, List.setIfInBounds_toArray, List.set_cons_zero, List.set_cons_succ]
  refine wpAnyH_ready (rs := [25]) (by kernel_rfl) (by simp) ?_
  refine AllReadyH.cons (o := { dst := some 87, op := Go.Op.call { callee := Go.Callee.value (Go.Operand.func 17), args := #[], argTypes := #[] }, type := 4, pos := "law.go:261", after := #[{ on := 24, ground := Go.Ground.chain }, { on := 24, ground := Go.Ground.guard }], guard := some (24, true) }) rfl (fun K hK => ?_) AllReadyH.nil
  go_simp
  (go_at_call 17; refine (known_any _).mono ?_; rintro e w11 ⟨rfl, hb⟩; have HB11 := step_below HB10 hb; have HS9 : Hid (w11.cell? ⟨q, 0, none⟩ = some (.slice ra rn rc)) := (HMd.out.keep (HB17.out.trans (HB11.out.mono HB17.out.size))).c0; clear hb)
  (try go_wp2_with fail)
  refine hK.out _ _ (HS9.out) ?_
  clear hK K hHeld
  intro hHeld
  try simp only [Act.put, List.setIfInBounds_toArray, List.set_cons_zero, List.set_cons_succ]
  refine wpAnyH_take (i := 26) (oi := { dst := some 88, op := Go.Op.pick (Go.Operand.tmp 86) (Go.Operand.tmp 87) (Go.Operand.const (Go.Value.bool false)), type := 4, pos := "law.go:261", after := #[{ on := 24, ground := Go.Ground.data }, { on := 25, ground := Go.Ground.data }], guard := none }) (v := ?_) rfl (by kernel_rfl) (by kernel_rfl) (by kernel_rfl) (fun _ _ _ h => h) (Or.inl ⟨by rfl, ?_⟩) (by assumption) ?_
  rotate_left
  · (intro w hSw; (try dsimp only at hSw); go_simp; (try with_reducible rfl))
  try simp only [Act.put, List.setIfInBounds_toArray, List.set_cons_zero, List.set_cons_succ]
  refine wpAnyH_take (i := 27) (oi := { dst := some 6, op := Go.Op.assign (Go.Operand.tmp 88), type := 4, pos := "law.go:261", after := #[{ on := 26, ground := Go.Ground.data }, { on := 25, ground := Go.Ground.chain }, { on := 0, ground := Go.Ground.phase }, { on := 1, ground := Go.Ground.phase }, { on := 2, ground := Go.Ground.phase }, { on := 3, ground := Go.Ground.phase }, { on := 4, ground := Go.Ground.phase }, { on := 5, ground := Go.Ground.phase }, { on := 6, ground := Go.Ground.phase }, { on := 7, ground := Go.Ground.phase }, { on := 8, ground := Go.Ground.phase }, { on := 9, ground := Go.Ground.phase }, { on := 10, ground := Go.Ground.phase }, { on := 11, ground := Go.Ground.phase }, { on := 12, ground := Go.Ground.phase }, { on := 13, ground := Go.Ground.phase }, { on := 14, ground := Go.Ground.phase }, { on := 15, ground := Go.Ground.phase }, { on := 16, ground := Go.Ground.phase }, { on := 17, ground := Go.Ground.phase }, { on := 18, ground := Go.Ground.phase }, { on := 19, ground := Go.Ground.phase }, { on := 20, ground := Go.Ground.phase }, { on := 21, ground := Go.Ground.phase }, { on := 22, ground := Go.Ground.phase }, { on := 23, ground := Go.Ground.phase }, { on := 24, ground := Go.Ground.phase }, { on := 25, ground := Go.Ground.phase }, { on := 26, ground := Go.Ground.phase }], guard := none }) (v := ?_) rfl (by kernel_rfl) (by kernel_rfl) (by kernel_rfl) (fun _ _ _ h => h) (Or.inl ⟨by rfl, ?_⟩) (by assumption) ?_
  rotate_left
  · (intro w hSw; (try dsimp only at hSw); go_simp; (try with_reducible rfl))
  try simp only [Act.put, List.setIfInBounds_toArray, List.set_cons_zero, List.set_cons_succ]
  refine wpAnyH_done (by kernel_rfl) ?_ _
  go_wp2
  go_ret
  exact ⟨rfl, HBw7.out.trans (HB11.out.mono HBw7.out.size)⟩
end Go.Proofs.YtkohjejfkbaffaaGreat
