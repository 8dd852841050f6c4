/- Texts that the others stand on. -/
import Derived.Test.YtikimcbalkhooaaGreatG30
namespace Go.Proofs.YtikimcbalkhooaaGreat
open Go.RowKit Go.PlainAid
open Dk (En keysOf ecells)
def sameD : VD → VD → Prop
 | .txt a, .txt b => a = b
 | .hsh a, .hsh b => a.Perm b
 | .set a, .set b => a.Perm b
 | .lst a, .lst b => a = b
 | _, _ => False
theorem sameD.kind {a b : VD} (h : sameD a b) : a.kind = b.kind := by
 cases a <;> cases b <;> first | rfl | exact absurd h (by simp [sameD])
theorem sameD.len {a b : VD} (h : sameD a b) : a.len = b.len := by
 cases a with
 | txt t => cases b with
  | txt u => exact congrArg ByteArray.size h
  | _ => exact absurd h (by simp [sameD])
 | hsh t => cases b with
  | hsh u => exact List.Perm.length_eq h
  | _ => exact absurd h (by simp [sameD])
 | set t => cases b with
  | set u => exact List.Perm.length_eq h
  | _ => exact absurd h (by simp [sameD])
 | lst t => cases b with
  | lst u => exact congrArg List.length h
  | _ => exact absurd h (by simp [sameD])
def VD.dozen : VD → Prop
 | .txt t => t.size ≤ 1000000
 | .hsh es => es.length ≤ 12
 | .set l => l.length ≤ 12
 | .lst l => l.length ≤ 12
theorem VD.few.dozen {d : VD} (h : d.few) : d.dozen := by
 cases d with
 | txt t => exact Nat.le_trans (show t.size ≤ 60 from h) (by decide)
 | hsh es => exact h.1
 | set l => exact h.1
 | lst l => exact h.1
theorem PV.ne {w : World} {B1 v1 : Nat} {d1 : VD} {o1 : Bool} {F1 : List Nat} {B2 v2 : Nat} {d2 : VD} {o2 : Bool} {F2 : List Nat} (h1 : PV w B1 v1 d1 o1 F1) (h2 : PV w B2 v2 d2 o2 F2) (hne : v1 ≠ v2) : ∀ wx, Below w.heap.size w wx → (binOp .eql 31 (ptr v1) (ptr v2)).run Tryz.prog wx = .ok (.bool false) wx := by
 intro wx hb
 obtain ⟨t, a, b, c, k1, -⟩ := (h1.keep hb).ex
 obtain ⟨t', a', b', c', k2, -⟩ := (h2.keep hb).ex
 exact eqlV_other hne k1.blk k2.blk
set_option maxRecDepth 100000 in
theorem Same_kind (w : World) (B1 v1 : Nat) (d1 : VD) (o1 : Bool) (F1 : List Nat) (B2 v2 : Nat) (d2 : VD) (o2 : Bool) (F2 : List Nat) (h1 : PV w B1 v1 d1 o1 F1) (h2 : PV w B2 v2 d2 o2 F2) (hne : v1 ≠ v2) (hk : d1.kind ≠ d2.kind) :
  Calls Tryz.prog 11 #[ptr v1, ptr v2] w fun e w' => EqR w w' e (sameD d1 d2) := by
 have HK1 := kind_any w B1 v1 d1 o1 F1 h1
 have HK2 := kind_any w B2 v2 d2 o2 F2 h2
 have hq := PV.ne h1 h2 hne w (Below.refl _ _)
 have HN : Hid (¬ sameD d1 d2) := fun h => hk h.kind
 generalize d1.kind = k1 at HK1 hk
 generalize d2.kind = k2 at HK2 hk
 have hk2 : ((k1 : Int) != (k2 : Int)) = true := by simp; omega
 have hk3 : ¬ (k1 : Int) = (k2 : Int) := by omega
 clear h1 h2 hk
 go_enter Tryz.func11, Tryz.ntmps11
 go_wp2_with fail
 refine HK1.mono ?_
 rintro e w ⟨rfl, rfl⟩
 go_wp2_with fail
 refine HK2.mono ?_
 rintro e w ⟨rfl, rfl⟩
 go_wp2
 go_ret
 exact EqR.no (Below.refl _ _) HN.out
set_option maxRecDepth 100000 in
theorem Same_len (w : World) (B1 v1 : Nat) (d1 : VD) (o1 : Bool) (F1 : List Nat) (B2 v2 : Nat) (d2 : VD) (o2 : Bool) (F2 : List Nat) (h1 : PV w B1 v1 d1 o1 F1) (h2 : PV w B2 v2 d2 o2 F2) (hne : v1 ≠ v2) (hk : d1.kind = d2.kind) (hl : d1.len ≠ d2.len) :
  Calls Tryz.prog 11 #[ptr v1, ptr v2] w fun e w' => EqR w w' e (sameD d1 d2) := by
 have HK1 := kind_any w B1 v1 d1 o1 F1 h1
 have HK2 := kind_any w B2 v2 d2 o2 F2 h2
 have HL1 := LenV w B1 v1 d1 o1 F1 h1
 have HL2 : Hid (∀ wx, Below w.heap.size w wx → Calls Tryz.prog 22 #[ptr v2] wx fun e w' => e = .returned (.int .i64 (d2.len : Nat)) ∧ Below wx.heap.size wx w') := fun wx hb => LenV wx B2 v2 d2 o2 F2 (h2.keep hb)
 have hq := PV.ne h1 h2 hne w (Below.refl _ _)
 have HN : Hid (¬ sameD d1 d2) := fun h => hl h.len
 rw [hk] at HK1
 generalize d2.kind = k2 at HK1 HK2
 generalize d1.len = n1 at HL1 hl
 generalize d2.len = n2 at HL2 hl
 have hk2 : ((n1 : Int) != (n2 : Int)) = true := by simp; omega
 have hk3 : ¬ (n1 : Int) = (n2 : Int) := by omega
 clear h1 h2 hk hl
 go_enter Tryz.func11, Tryz.ntmps11
 go_wp2_with fail
 refine HK1.mono ?_
 rintro e w ⟨rfl, rfl⟩
 go_wp2_with fail
 refine HK2.mono ?_
 rintro e w ⟨rfl, rfl⟩
 go_wp2_with fail
 refine HL1.mono ?_
 rintro e w1 ⟨rfl, hb⟩
 have HB1 : Hid (Below w.heap.size w w1) := hb
 have HL3 := HL2.out w1 hb
 clear hb
 go_wp2_with fail
 refine HL3.mono ?_
 rintro e w2 ⟨rfl, hb⟩
 have HB2 := step_below HB1 hb
 go_wp2
 go_ret
 exact EqR.no HB2.out HN.out
set_option maxRecDepth 100000 in
set_option maxHeartbeats 4000000 in
theorem Same_t (w : World) (B1 v1 : Nat) (x1 : ByteArray) (o1 : Bool) (F1 : List Nat) (B2 v2 : Nat) (x2 : ByteArray) (o2 : Bool) (F2 : List Nat) (h1 : PV w B1 v1 (.txt x1) o1 F1) (h2 : PV w B2 v2 (.txt x2) o2 F2) (hne : v1 ≠ v2) (hl : x1.size = x2.size) :
  Calls Tryz.prog 11 #[ptr v1, ptr v2] w fun e w' => EqR w w' e (x1 = x2) := by
 have HK1 := kind_any w B1 v1 _ o1 F1 h1
 have HK2 := kind_any w B2 v2 _ o2 F2 h2
 have HL1 := LenV w B1 v1 _ o1 F1 h1
 have HP1 : Hid (PV w B1 v1 (.txt x1) o1 F1) := h1
 have HP2 : Hid (PV w B2 v2 (.txt x2) o2 F2) := h2
 have HL2 : Hid (∀ wx, Below w.heap.size w wx → Calls Tryz.prog 22 #[ptr v2] wx fun e w' => e = .returned (.int .i64 (VD.len (.txt x2) : Nat)) ∧ Below wx.heap.size wx w') := fun wx hb => LenV wx B2 v2 _ o2 F2 (h2.keep hb)
 have HK3 : Hid (∀ wx, Below w.heap.size w wx → Calls Tryz.prog 42 #[ptr v1] wx fun e w' => e = .returned (.int .i64 1) ∧ w' = wx) := fun wx hb => kind_any wx B1 v1 _ o1 F1 (h1.keep hb)
 have hq := PV.ne h1 h2 hne w (Below.refl _ _)
 simp only [VD.kind, VD.len] at HK1 HK2 HL1 HL2
 rw [hl] at HL1
 have HE : Hid (x1.size = x2.size) := hl
 obtain ⟨n, hn'⟩ : ∃ n, x2.size = n := ⟨_, rfl⟩
 rw [hn'] at HL1 HL2
 have HN : Hid (x2.size = n) := hn'
 clear h1 h2 hne hl hn'
 go_enter Tryz.func11, Tryz.ntmps11
 go_wp2_with fail
 refine HK1.mono ?_
 rintro e w ⟨rfl, rfl⟩
 go_wp2_with fail
 refine HK2.mono ?_
 rintro e w ⟨rfl, rfl⟩
 go_wp2_with fail
 refine HL1.mono ?_
 rintro e w1 ⟨rfl, hb⟩
 have HB1 : Hid (Below w.heap.size w w1) := hb
 have HL3 := HL2.out w1 hb
 clear hb
 go_wp2_with fail
 refine HL3.mono ?_
 rintro e w2 ⟨rfl, hb⟩
 have HB2 := step_below HB1 hb
 have HK4 := HK3.out w2 HB2.out
 clear hb HL3
 go_wp2_with fail
 refine HK4.mono ?_
 rintro e w2 ⟨rfl, rfl⟩
 have HBd : Hid (Below w.heap.size w w2.drew) := step_below HB2 (below_drewN w2 1)
 obtain ⟨t1, a1, b1, c1, k1, e1⟩ := (HP1.out.keep HBd.out).ex
 obtain ⟨t2, a2, b2, c2, k2, e2⟩ := (HP2.out.keep HBd.out).ex
 obtain ⟨rfl, -, -, -, -⟩ := e1
 obtain ⟨rfl, -, -, -, -⟩ := e2
 have u1 := k1.ct
 have u2 := k2.ct
 have hs := str_beq t1 t2
 clear k1 k2
 go_upto_region 7 with fail
 by_cases ht : t1 = t2
 ·have hs2 : (t1.toList == t2.toList) = true := by rw [hs, decide_eq_true ht]
  have HT : Hid (t1 = t2) := ht
  clear hs ht
  go_region
  go_wp2
  go_ret
  exact EqR.yes HBd.out HT.out
 ·have hs2 : (t1.toList == t2.toList) = false := by rw [hs, decide_eq_false ht]
  have HT : Hid (¬ t1 = t2) := ht
  clear hs ht
  go_region
  go_wp2
  go_ret
  exact EqR.no HBd.out HT.out
set_option maxRecDepth 100000 in
set_option maxHeartbeats 4000000 in
theorem Same_h (w : World) (B1 v1 : Nat) (x1 : List En) (o1 : Bool) (F1 : List Nat) (B2 v2 : Nat) (x2 : List En) (o2 : Bool) (F2 : List Nat) (h1 : PV w B1 v1 (.hsh x1) o1 F1) (h2 : PV w B2 v2 (.hsh x2) o2 F2) (hne : v1 ≠ v2) (hl : x1.length = x2.length) (hn : x1.length ≤ 12) :
  Calls Tryz.prog 11 #[ptr v1, ptr v2] w fun e w' => EqR w w' e (x1.Perm x2) := by
 have HK1 := kind_any w B1 v1 _ o1 F1 h1
 have HK2 := kind_any w B2 v2 _ o2 F2 h2
 have HL1 := LenV w B1 v1 _ o1 F1 h1
 have HP1 : Hid (PV w B1 v1 (.hsh x1) o1 F1) := h1
 have HP2 : Hid (PV w B2 v2 (.hsh x2) o2 F2) := h2
 have HL2 : Hid (∀ wx, Below w.heap.size w wx → Calls Tryz.prog 22 #[ptr v2] wx fun e w' => e = .returned (.int .i64 (VD.len (.hsh x2) : Nat)) ∧ Below wx.heap.size wx w') := fun wx hb => LenV wx B2 v2 _ o2 F2 (h2.keep hb)
 have HK3 : Hid (∀ wx, Below w.heap.size w wx → Calls Tryz.prog 42 #[ptr v1] wx fun e w' => e = .returned (.int .i64 2) ∧ w' = wx) := fun wx hb => kind_any wx B1 v1 _ o1 F1 (h1.keep hb)
 have hq := PV.ne h1 h2 hne w (Below.refl _ _)
 simp only [VD.kind, VD.len] at HK1 HK2 HL1 HL2
 rw [hl] at HL1
 have HE : Hid (x1.length = x2.length) := hl
 obtain ⟨n, hn'⟩ : ∃ n, x2.length = n := ⟨_, rfl⟩
 rw [hn'] at HL1 HL2
 have HN : Hid (x2.length = n) := hn'
 have HN1 : Hid (x1.length ≤ 12) := hn
 clear h1 h2 hne hl hn' hn
 go_enter Tryz.func11, Tryz.ntmps11
 go_wp2_with fail
 refine HK1.mono ?_
 rintro e w ⟨rfl, rfl⟩
 go_wp2_with fail
 refine HK2.mono ?_
 rintro e w ⟨rfl, rfl⟩
 go_wp2_with fail
 refine HL1.mono ?_
 rintro e w1 ⟨rfl, hb⟩
 have HB1 : Hid (Below w.heap.size w w1) := hb
 have HL3 := HL2.out w1 hb
 clear hb
 go_wp2_with fail
 refine HL3.mono ?_
 rintro e w2 ⟨rfl, hb⟩
 have HB2 := step_below HB1 hb
 have HK4 := HK3.out w2 HB2.out
 clear hb HL3
 go_wp2_with fail
 refine HK4.mono ?_
 rintro e w2 ⟨rfl, rfl⟩
 have HBd : Hid (Below w.heap.size w w2.drew) := step_below HB2 (below_drewN w2 1)
 obtain ⟨m1, y1, E1, T1, k1, hH1⟩ := HP1.out.hash
 obtain ⟨m2, y2, E2, T2, k2, hH2⟩ := HP2.out.hash
 have HS1 : Hid (∀ wx, Below w.heap.size w wx → Calls Tryz.prog 44 #[ptr m1] wx fun e w' => Below wx.heap.size wx w' ∧ ∃ a c r, e = .returned (.slice a n c) ∧ OwnQ w' wx.heap.size a n c r ∧ r.Perm x1 ∧ Std ltE r) := fun wx hb => by
  refine (sortedPairs_any B1 m1 y1 E1 T1 x1 o1 F1 wx (hH1.keep hb) (by exact HN1.out)).mono ?_
  rintro e w' ⟨h1, a, n5, c, r, rfl, hO, h3, h4⟩
  have e1 : n5 = n := by rw [← OwnQ.len hO, h3.length_eq]; exact HE.out.trans HN.out
  subst e1
  exact ⟨h1, a, c, r, rfl, hO, h3, h4⟩
 have HS2 : Hid (∀ wx, Below w.heap.size w wx → Calls Tryz.prog 44 #[ptr m2] wx fun e w' => Below wx.heap.size wx w' ∧ ∃ a c r, e = .returned (.slice a n c) ∧ OwnQ w' wx.heap.size a n c r ∧ r.Perm x2 ∧ Std ltE r) := fun wx hb => by
  refine (sortedPairs_any B2 m2 y2 E2 T2 x2 o2 F2 wx (hH2.keep hb) (by rw [← HE.out]; exact HN1.out)).mono ?_
  rintro e w' ⟨h1, a, n5, c, r, rfl, hO, h3, h4⟩
  have e1 : n5 = n := by rw [← OwnQ.len hO, h3.length_eq]; exact HN.out
  subst e1
  exact ⟨h1, a, c, r, rfl, hO, h3, h4⟩
 have HNd : Hid ((keysOf x1).Nodup) := hH1.nod
 have HC : Hid (∀ wx, Below w.heap.size w wx → (fun w' : World => w'.cell? ⟨v1, 2, none⟩ = some (ptr m1) ∧ w'.cell? ⟨v2, 2, none⟩ = some (ptr m2)) wx) := fun wx hb => ⟨(k1.keep hb).ch, (k2.keep hb).ch⟩
 have hn100 : n ≤ 1000 := by have := HN.out; have := HE.out; have := HN1.out; omega
 clear k1 k2 hH1 hH2
 have HIf0 : Hid (∀ r4 r5, r4.Perm x1 → Std ltE r4 → r5.Perm x2 → Std ltE r5 → (r4 = r5 ↔ x1.Perm x2)) := fun r4 r5 hp1 hs1 hp2 hs2 => std_permE hp1 hp2 hs1 hs2 HNd.out
 go_upto_region 9 with fail
 go_region_held3 (fun w' => w'.cell? ⟨v1, 2, none⟩ = some (ptr m1) ∧ w'.cell? ⟨v2, 2, none⟩ = some (ptr m2)) (first | exact HC.out _ HB6.out | exact HC.out _ HB5.out | exact HC.out _ HB4.out | exact HC.out _ HBd.out) (first
  | (go_at_call 43; refine HEq.mono ?_; rintro e w6 ⟨hb, b6, rfl, hb6⟩; have HB6 := step_below HB5 hb; have H6 : Hid (b6 = true ↔ x1.Perm x2) := hb6.trans HIf.out; clear hb hb6)
  | (go_at_call_of 44 (ptr m2); refine (HS2.out _ HB4.out).mono ?_; rintro e w5 ⟨hb, a5, c5, r5, rfl, hO5, hp2, hs2⟩; have HB5 := step_below HB4 hb; have HIf : Hid (r4 = r5 ↔ x1.Perm x2) := HIf0.out r4 r5 H4.out.2.1 H4.out.2.2 hp2 hs2; have HEq := EqualQ_any _ _ a4 a5 n c4 c5 r4 r5 w5 (Dk.OwnR.keep H4.out.1 hb) hO5 hn100; clear hb hO5 hp2 hs2)
  | (go_at_call_of 44 (ptr m1); refine (HS1.out _ HBd.out).mono ?_; rintro e w4 ⟨hb, a4, c4, r4, rfl, hO4, hp1, hs1⟩; have HB4 := step_below HBd hb; have H4 : Hid (OwnQ w4 w2.drew.heap.size a4 n c4 r4 ∧ r4.Perm x1 ∧ Std ltE r4) := ⟨hO4, hp1, hs1⟩; clear hb hO4 hp1 hs1))
 all_goals
  go_wp2
  go_ret
  exact ⟨HB6.out, b6, rfl, H6.out⟩
set_option maxRecDepth 100000 in
set_option maxHeartbeats 4000000 in
theorem Same_s (w : World) (B1 v1 : Nat) (x1 : List ByteArray) (o1 : Bool) (F1 : List Nat) (B2 v2 : Nat) (x2 : List ByteArray) (o2 : Bool) (F2 : List Nat) (h1 : PV w B1 v1 (.set x1) o1 F1) (h2 : PV w B2 v2 (.set x2) o2 F2) (hne : v1 ≠ v2) (hl : x1.length = x2.length) (hn : x1.length ≤ 12) :
  Calls Tryz.prog 11 #[ptr v1, ptr v2] w fun e w' => EqR w w' e (x1.Perm x2) := by
 have HK1 := kind_any w B1 v1 _ o1 F1 h1
 have HK2 := kind_any w B2 v2 _ o2 F2 h2
 have HL1 := LenV w B1 v1 _ o1 F1 h1
 have HP1 : Hid (PV w B1 v1 (.set x1) o1 F1) := h1
 have HP2 : Hid (PV w B2 v2 (.set x2) o2 F2) := h2
 have HL2 : Hid (∀ wx, Below w.heap.size w wx → Calls Tryz.prog 22 #[ptr v2] wx fun e w' => e = .returned (.int .i64 (VD.len (.set x2) : Nat)) ∧ Below wx.heap.size wx w') := fun wx hb => LenV wx B2 v2 _ o2 F2 (h2.keep hb)
 have HK3 : Hid (∀ wx, Below w.heap.size w wx → Calls Tryz.prog 42 #[ptr v1] wx fun e w' => e = .returned (.int .i64 3) ∧ w' = wx) := fun wx hb => kind_any wx B1 v1 _ o1 F1 (h1.keep hb)
 have hq := PV.ne h1 h2 hne w (Below.refl _ _)
 simp only [VD.kind, VD.len] at HK1 HK2 HL1 HL2
 rw [hl] at HL1
 have HE : Hid (x1.length = x2.length) := hl
 obtain ⟨n, hn'⟩ : ∃ n, x2.length = n := ⟨_, rfl⟩
 rw [hn'] at HL1 HL2
 have HN : Hid (x2.length = n) := hn'
 have HN1 : Hid (x1.length ≤ 12) := hn
 clear h1 h2 hne hl hn' hn
 go_enter Tryz.func11, Tryz.ntmps11
 go_wp2_with fail
 refine HK1.mono ?_
 rintro e w ⟨rfl, rfl⟩
 go_wp2_with fail
 refine HK2.mono ?_
 rintro e w ⟨rfl, rfl⟩
 go_wp2_with fail
 refine HL1.mono ?_
 rintro e w1 ⟨rfl, hb⟩
 have HB1 : Hid (Below w.heap.size w w1) := hb
 have HL3 := HL2.out w1 hb
 clear hb
 go_wp2_with fail
 refine HL3.mono ?_
 rintro e w2 ⟨rfl, hb⟩
 have HB2 := step_below HB1 hb
 have HK4 := HK3.out w2 HB2.out
 clear hb HL3
 go_wp2_with fail
 refine HK4.mono ?_
 rintro e w2 ⟨rfl, rfl⟩
 have HBd : Hid (Below w.heap.size w w2.drew) := step_below HB2 (below_drewN w2 1)
 obtain ⟨m1, y1, E1, T1, k1, hH1⟩ := HP1.out.set
 obtain ⟨m2, y2, E2, T2, k2, hH2⟩ := HP2.out.set
 have HS1 : Hid (∀ wx, Below w.heap.size w wx → Calls Tryz.prog 46 #[ptr m1] wx fun e w' => Below wx.heap.size wx w' ∧ ∃ a c r, e = .returned (.slice a n c) ∧ OwnS w' wx.heap.size a n c r ∧ r.Perm x1 ∧ Std ltB r) := fun wx hb => by
  refine (sortedMembers_any B1 m1 y1 E1 T1 x1 o1 F1 wx (hH1.keep hb) (by exact HN1.out)).mono ?_
  rintro e w' ⟨h1, a, n5, c, r, rfl, hO, h3, h4⟩
  have e1 : n5 = n := by rw [← hO.len, h3.length_eq]; exact HE.out.trans HN.out
  subst e1
  exact ⟨h1, a, c, r, rfl, hO, h3, h4⟩
 have HS2 : Hid (∀ wx, Below w.heap.size w wx → Calls Tryz.prog 46 #[ptr m2] wx fun e w' => Below wx.heap.size wx w' ∧ ∃ a c r, e = .returned (.slice a n c) ∧ OwnS w' wx.heap.size a n c r ∧ r.Perm x2 ∧ Std ltB r) := fun wx hb => by
  refine (sortedMembers_any B2 m2 y2 E2 T2 x2 o2 F2 wx (hH2.keep hb) (by rw [← HE.out]; exact HN1.out)).mono ?_
  rintro e w' ⟨h1, a, n5, c, r, rfl, hO, h3, h4⟩
  have e1 : n5 = n := by rw [← hO.len, h3.length_eq]; exact HN.out
  subst e1
  exact ⟨h1, a, c, r, rfl, hO, h3, h4⟩
 have HC : Hid (∀ wx, Below w.heap.size w wx → (fun w' : World => w'.cell? ⟨v1, 3, none⟩ = some (ptr m1) ∧ w'.cell? ⟨v2, 3, none⟩ = some (ptr m2)) wx) := fun wx hb => ⟨(k1.keep hb).cs, (k2.keep hb).cs⟩
 have hn100 : n ≤ 1000 := by have := HN.out; have := HE.out; have := HN1.out; omega
 clear k1 k2 hH1 hH2
 have HIf0 : Hid (∀ r4 r5, r4.Perm x1 → Std ltB r4 → r5.Perm x2 → Std ltB r5 → (r4 = r5 ↔ x1.Perm x2)) := fun r4 r5 hp1 hs1 hp2 hs2 => std_permB hp1 hp2 hs1 hs2
 go_upto_region 11 with fail
 go_region_held3 (fun w' => w'.cell? ⟨v1, 3, none⟩ = some (ptr m1) ∧ w'.cell? ⟨v2, 3, none⟩ = some (ptr m2)) (first | exact HC.out _ HB6.out | exact HC.out _ HB5.out | exact HC.out _ HB4.out | exact HC.out _ HBd.out) (first
  | (go_at_call 45; refine HEq.mono ?_; rintro e w6 ⟨hb, b6, rfl, hb6⟩; have HB6 := step_below HB5 hb; have H6 : Hid (b6 = true ↔ x1.Perm x2) := hb6.trans HIf.out; clear hb hb6)
  | (go_at_call_of 46 (ptr m2); refine (HS2.out _ HB4.out).mono ?_; rintro e w5 ⟨hb, a5, c5, r5, rfl, hO5, hp2, hs2⟩; have HB5 := step_below HB4 hb; have HIf : Hid (r4 = r5 ↔ x1.Perm x2) := HIf0.out r4 r5 H4.out.2.1 H4.out.2.2 hp2 hs2; have HEq := EqualS_any _ _ a4 a5 n c4 c5 r4 r5 w5 (H4.out.1.keep hb) hO5 hn100; clear hb hO5 hp2 hs2)
  | (go_at_call_of 46 (ptr m1); refine (HS1.out _ HBd.out).mono ?_; rintro e w4 ⟨hb, a4, c4, r4, rfl, hO4, hp1, hs1⟩; have HB4 := step_below HBd hb; have H4 : Hid (OwnS w4 w2.drew.heap.size a4 n c4 r4 ∧ r4.Perm x1 ∧ Std ltB r4) := ⟨hO4, hp1, hs1⟩; clear hb hO4 hp1 hs1))
 all_goals
  go_wp2
  go_ret
  exact ⟨HB6.out, b6, rfl, H6.out⟩
set_option maxRecDepth 100000 in
set_option maxHeartbeats 4000000 in
theorem Same_l (w : World) (B1 v1 : Nat) (x1 : List ByteArray) (o1 : Bool) (F1 : List Nat) (B2 v2 : Nat) (x2 : List ByteArray) (o2 : Bool) (F2 : List Nat) (h1 : PV w B1 v1 (.lst x1) o1 F1) (h2 : PV w B2 v2 (.lst x2) o2 F2) (hne : v1 ≠ v2) (hl : x1.length = x2.length) (hn : x1.length ≤ 12) :
  Calls Tryz.prog 11 #[ptr v1, ptr v2] w fun e w' => EqR w w' e (x1 = x2) := by
 have HK1 := kind_any w B1 v1 _ o1 F1 h1
 have HK2 := kind_any w B2 v2 _ o2 F2 h2
 have HL1 := LenV w B1 v1 _ o1 F1 h1
 have HP1 : Hid (PV w B1 v1 (.lst x1) o1 F1) := h1
 have HP2 : Hid (PV w B2 v2 (.lst x2) o2 F2) := h2
 have HL2 : Hid (∀ wx, Below w.heap.size w wx → Calls Tryz.prog 22 #[ptr v2] wx fun e w' => e = .returned (.int .i64 (VD.len (.lst x2) : Nat)) ∧ Below wx.heap.size wx w') := fun wx hb => LenV wx B2 v2 _ o2 F2 (h2.keep hb)
 have HK3 : Hid (∀ wx, Below w.heap.size w wx → Calls Tryz.prog 42 #[ptr v1] wx fun e w' => e = .returned (.int .i64 4) ∧ w' = wx) := fun wx hb => kind_any wx B1 v1 _ o1 F1 (h1.keep hb)
 have hq := PV.ne h1 h2 hne w (Below.refl _ _)
 simp only [VD.kind, VD.len] at HK1 HK2 HL1 HL2
 rw [hl] at HL1
 have HE : Hid (x1.length = x2.length) := hl
 obtain ⟨n, hn'⟩ : ∃ n, x2.length = n := ⟨_, rfl⟩
 rw [hn'] at HL1 HL2
 have HN : Hid (x2.length = n) := hn'
 have HN1 : Hid (x1.length ≤ 12) := hn
 clear h1 h2 hne hl hn' hn
 go_enter Tryz.func11, Tryz.ntmps11
 go_wp2_with fail
 refine HK1.mono ?_
 rintro e w ⟨rfl, rfl⟩
 go_wp2_with fail
 refine HK2.mono ?_
 rintro e w ⟨rfl, rfl⟩
 go_wp2_with fail
 refine HL1.mono ?_
 rintro e w1 ⟨rfl, hb⟩
 have HB1 : Hid (Below w.heap.size w w1) := hb
 have HL3 := HL2.out w1 hb
 clear hb
 go_wp2_with fail
 refine HL3.mono ?_
 rintro e w2 ⟨rfl, hb⟩
 have HB2 := step_below HB1 hb
 have HK4 := HK3.out w2 HB2.out
 clear hb HL3
 go_wp2_with fail
 refine HK4.mono ?_
 rintro e w2 ⟨rfl, rfl⟩
 have HBd : Hid (Below w.heap.size w w2.drew) := step_below HB2 (below_drewN w2 1)
 obtain ⟨m1, mo1, q1, k1, hH1, -⟩ := HP1.out.list
 obtain ⟨m2, mo2, q2, k2, hH2, -⟩ := HP2.out.list
 have HS1 : Hid (∀ wx, Below w.heap.size w wx → Calls Tryz.prog 41 #[ptr m1] wx fun e w' => Below wx.heap.size wx w' ∧ ∃ a c, e = .returned (.slice a n c) ∧ OwnS w' wx.heap.size a n c x1) := fun wx hb => by
  refine (VAll wx B1 m1 mo1 q1 x1 F1 (hH1.keep hb) (by have := HN1.out; have := HE.out; omega)).mono ?_
  rintro e w' ⟨h1, a, n5, c, rfl, hO⟩
  have e1 : n5 = n := by rw [← hO.len]; exact HE.out.trans HN.out
  subst e1
  exact ⟨h1, a, c, rfl, hO⟩
 have HS2 : Hid (∀ wx, Below w.heap.size w wx → Calls Tryz.prog 41 #[ptr m2] wx fun e w' => Below wx.heap.size wx w' ∧ ∃ a c, e = .returned (.slice a n c) ∧ OwnS w' wx.heap.size a n c x2) := fun wx hb => by
  refine (VAll wx B2 m2 mo2 q2 x2 F2 (hH2.keep hb) (by have := HN1.out; have := HE.out; omega)).mono ?_
  rintro e w' ⟨h1, a, n5, c, rfl, hO⟩
  have e1 : n5 = n := by rw [← hO.len]; exact HN.out
  subst e1
  exact ⟨h1, a, c, rfl, hO⟩
 have HC : Hid (∀ wx, Below w.heap.size w wx → (fun w' : World => w'.cell? ⟨v1, 4, none⟩ = some (ptr m1) ∧ w'.cell? ⟨v2, 4, none⟩ = some (ptr m2)) wx) := fun wx hb => ⟨(k1.keep hb).cl, (k2.keep hb).cl⟩
 have hn100 : n ≤ 1000 := by have := HN.out; have := HE.out; have := HN1.out; omega
 clear k1 k2 hH1 hH2
 go_upto_region 13 with fail
 go_region_held3 (fun w' => w'.cell? ⟨v1, 4, none⟩ = some (ptr m1) ∧ w'.cell? ⟨v2, 4, none⟩ = some (ptr m2)) (first | exact HC.out _ HB6.out | exact HC.out _ HB5.out | exact HC.out _ HB4.out | exact HC.out _ HBd.out) (first
  | (go_at_call 45; refine HEq.mono ?_; rintro e w6 ⟨hb, b6, rfl, hb6⟩; have HB6 := step_below HB5 hb; have H6 : Hid (b6 = true ↔ x1 = x2) := hb6; clear hb hb6)
  | (go_at_call_of 41 (ptr m2); refine (HS2.out _ HB4.out).mono ?_; rintro e w5 ⟨hb, a5, c5, rfl, hO5⟩; have HB5 := step_below HB4 hb; have HEq := EqualS_any _ _ a4 a5 n c4 c5 x1 x2 w5 (H4.out.keep hb) hO5 hn100; clear hb hO5)
  | (go_at_call_of 41 (ptr m1); refine (HS1.out _ HBd.out).mono ?_; rintro e w4 ⟨hb, a4, c4, rfl, hO4⟩; have HB4 := step_below HBd hb; have H4 : Hid (OwnS w4 w2.drew.heap.size a4 n c4 x1) := hO4; clear hb hO4))
 all_goals
  go_wp2
  go_ret
  exact ⟨HB6.out, b6, rfl, H6.out⟩
theorem SameV (w : World) (B1 v1 : Nat) (d1 : VD) (o1 : Bool) (F1 : List Nat) (B2 v2 : Nat) (d2 : VD) (o2 : Bool) (F2 : List Nat) (h1 : PV w B1 v1 d1 o1 F1) (h2 : PV w B2 v2 d2 o2 F2) (hne : v1 ≠ v2) (hd : d1.dozen) :
  Calls Tryz.prog 11 #[ptr v1, ptr v2] w fun e w' => EqR w w' e (sameD d1 d2) := by
 by_cases hk : d1.kind = d2.kind
 ·by_cases hl : d1.len = d2.len
  ·cases d1 with
   | txt a => cases d2 with
    | txt b => exact Same_t w B1 v1 a o1 F1 B2 v2 b o2 F2 h1 h2 hne hl
    | _ => exact absurd hk (by simp [VD.kind])
   | hsh a => cases d2 with
    | hsh b => exact Same_h w B1 v1 a o1 F1 B2 v2 b o2 F2 h1 h2 hne hl hd
    | _ => exact absurd hk (by simp [VD.kind])
   | set a => cases d2 with
    | set b => exact Same_s w B1 v1 a o1 F1 B2 v2 b o2 F2 h1 h2 hne hl hd
    | _ => exact absurd hk (by simp [VD.kind])
   | lst a => cases d2 with
    | lst b => exact Same_l w B1 v1 a o1 F1 B2 v2 b o2 F2 h1 h2 hne hl hd
    | _ => exact absurd hk (by simp [VD.kind])
  ·exact Same_len w B1 v1 d1 o1 F1 B2 v2 d2 o2 F2 h1 h2 hne hk hl
 ·exact Same_kind w B1 v1 d1 o1 F1 B2 v2 d2 o2 F2 h1 h2 hne hk
def CopV (w w' : World) (d : VD) (one : Bool) (e : Ending) : Prop := Below w.heap.size w w' ∧ ∃ v F, e = .returned (ptr v) ∧ PV w' w.heap.size v d one F
theorem Copy_t (w : World) (B v : Nat) (t : ByteArray) (one : Bool) (F : List Nat) (h : PV w B v (.txt t) one F) : Calls Tryz.prog 13 #[ptr v] w fun e w' => CopV w w' (.txt t) one e := by
 have HK := kind_any w B v _ one F h
 obtain ⟨t1, a1, b1, c1, k1, e1⟩ := h.ex
 obtain ⟨rfl, -, -, -, -⟩ := e1
 have u1 := k1.ct
 have HO := OfText_any t1 w
 simp only [VD.kind] at HK
 clear h k1
 go_enter Tryz.func13, Tryz.ntmps13
 go_wp2_with fail
 refine HK.mono ?_
 rintro e w ⟨rfl, rfl⟩
 go_wp2_with fail
 refine HO.mono ?_
 rintro e w1 ⟨hb, v1, rfl, hV⟩
 have HR : Hid (Below w.heap.size w w1 ∧ PV w1 w.heap.size v1 (.txt t1) one []) := by
  refine ⟨hb, ?_⟩
  obtain ⟨⟨t, a, b, c, k, e⟩, h1, h2⟩ := hV
  exact ⟨⟨t, a, b, c, k, e⟩, h1, h2⟩
 clear hb hV
 go_wp2
 go_ret
 exact ⟨HR.out.1, v1, [], rfl, HR.out.2⟩
set_option maxRecDepth 100000 in
set_option maxHeartbeats 4000000 in
theorem Copy_h (w : World) (B v : Nat) (es : List En) (one : Bool) (F : List Nat) (h : PV w B v (.hsh es) one F) (hn : es.length < 1000000) : Calls Tryz.prog 13 #[ptr v] w fun e w' => CopV w w' (.hsh es) one e := by
 have HK := kind_any w B v _ one F h
 obtain ⟨m, x, E, T, k1, hH⟩ := h.hash
 have hbd : Below w.heap.size w w.drew := below_drewN w 1
 have HBd : Hid (Below w.heap.size w w.drew) := hbd
 have u0 := (k1.keep hbd).ck
 have u2 := (k1.keep hbd).ch
 have HC := CopyH B m x E T es one F w.drew (hH.keep hbd) hn
 have HVB : Hid (VB w v 2 ⟨#[]⟩ (ptr m) (.pointer none) (.pointer none)) := k1
 simp only [VD.kind] at HK
 clear h k1 hH hbd
 go_enter Tryz.func13, Tryz.ntmps13
 go_wp2_with fail
 refine HK.mono ?_
 rintro e w ⟨rfl, rfl⟩
 go_upto_region 5 with fail
 go_region_with (first
  | (go_at_call 48; refine HC.mono ?_; rintro e w1 ⟨hb, m', F', rfl, hH'⟩; have HB1 := step_below HBd hb; have HH1 : Hid (Hm w1 w.drew.heap.size m' x E T es one F') := hH'; have r0 := (HVB.out.keep HB1.out).ck; clear hb hH'))
 all_goals
  have hba := alloc_below w1 (.cells #[.int .i64 2, .string ⟨#[]⟩, ptr m', .pointer none, .pointer none] 46)
  have HR : Hid (PV (w1.alloc (.cells #[.int .i64 2, .string ⟨#[]⟩, ptr m', .pointer none, .pointer none] 46)) w.heap.size w1.heap.size (.hsh es) one F') := PV.of_hash (VB.new w1 2 _ _ _ _) ((HH1.out.lower HBd.out.size).keep hba) HB1.out.size
  have HB2 := step_below HB1 hba
  clear hba
  go_wp2
  go_ret
  exact ⟨HB2.out, _, F', rfl, HR.out⟩
set_option maxRecDepth 100000 in
set_option maxHeartbeats 4000000 in
theorem Copy_s (w : World) (B v : Nat) (es : List ByteArray) (one : Bool) (F : List Nat) (h : PV w B v (.set es) one F) (hn : es.length < 1000000) : Calls Tryz.prog 13 #[ptr v] w fun e w' => CopV w w' (.set es) one e := by
 have HK := kind_any w B v _ one F h
 obtain ⟨m, x, E, T, k1, hH⟩ := h.set
 have hbd : Below w.heap.size w w.drew := below_drewN w 1
 have HBd : Hid (Below w.heap.size w w.drew) := hbd
 have u0 := (k1.keep hbd).ck
 have u2 := (k1.keep hbd).cs
 have HC := Zs.CopyS B m x E T es one F w.drew (hH.keep hbd) hn
 have HVB : Hid (VB w v 3 ⟨#[]⟩ (.pointer none) (ptr m) (.pointer none)) := k1
 simp only [VD.kind] at HK
 clear h k1 hH hbd
 go_enter Tryz.func13, Tryz.ntmps13
 go_wp2_with fail
 refine HK.mono ?_
 rintro e w ⟨rfl, rfl⟩
 go_upto_region 7 with fail
 go_region_with (first
  | (go_at_call 49; refine HC.mono ?_; rintro e w1 ⟨hb, m', F', rfl, hH'⟩; have HB1 := step_below HBd hb; have HH1 : Hid (Zs.Ss w1 w.drew.heap.size m' x E T es one F') := hH'; have r0 := (HVB.out.keep HB1.out).ck; clear hb hH'))
 all_goals
  have hba := alloc_below w1 (.cells #[.int .i64 3, .string ⟨#[]⟩, .pointer none, ptr m', .pointer none] 46)
  have HR : Hid (PV (w1.alloc (.cells #[.int .i64 3, .string ⟨#[]⟩, .pointer none, ptr m', .pointer none] 46)) w.heap.size w1.heap.size (.set es) one F') := PV.of_set (VB.new w1 3 _ _ _ _) ((HH1.out.lower HBd.out.size).keep hba) HB1.out.size
  have HB2 := step_below HB1 hba
  clear hba
  go_wp2
  go_ret
  exact ⟨HB2.out, _, F', rfl, HR.out⟩
set_option maxRecDepth 100000 in
set_option maxHeartbeats 4000000 in
theorem Copy_l (w : World) (B v : Nat) (es : List ByteArray) (one : Bool) (F : List Nat) (h : PV w B v (.lst es) one F) : Calls Tryz.prog 13 #[ptr v] w fun e w' => CopV w w' (.lst es) one e := by
 have HK := kind_any w B v _ one F h
 obtain ⟨m, mo, q, k1, hH, hone⟩ := h.list
 have hbd : Below w.heap.size w w.drew := below_drewN w 1
 have HBd : Hid (Below w.heap.size w w.drew) := hbd
 have u0 := (k1.keep hbd).ck
 have u2 := (k1.keep hbd).cl
 have HC := VCopy w.drew B m mo q es F (hH.keep hbd)
 have HVB : Hid (VB w v 4 ⟨#[]⟩ (.pointer none) (.pointer none) (ptr m)) := k1
 have HQ : Hid (one = decide (q ≤ 1)) := hone
 clear hone
 simp only [VD.kind] at HK
 clear h k1 hH hbd
 go_enter Tryz.func13, Tryz.ntmps13
 go_wp2_with fail
 refine HK.mono ?_
 rintro e w ⟨rfl, rfl⟩
 go_upto_region 9 with fail
 go_region_with (first
  | (go_at_call 50; refine HC.mono ?_; rintro e w1 ⟨hb, m', F', rfl, hH'⟩; have HB1 := step_below HBd hb; have HH1 : Hid (QV w1 w.drew.heap.size m' mo es q F') := hH'; have r0 := (HVB.out.keep HB1.out).ck; clear hb hH'))
 all_goals
  have hba := alloc_below w1 (.cells #[.int .i64 4, .string ⟨#[]⟩, .pointer none, .pointer none, ptr m'] 46)
  have HR : Hid (PV (w1.alloc (.cells #[.int .i64 4, .string ⟨#[]⟩, .pointer none, .pointer none, ptr m'] 46)) w.heap.size w1.heap.size (.lst es) one F') := by (rw [HQ.out]; exact PV.of_list (VB.new w1 4 _ _ _ _) ((HH1.out.down HBd.out.size).keep hba) HB1.out.size)
  have HB2 := step_below HB1 hba
  clear hba
  go_wp2
  go_ret
  exact ⟨HB2.out, _, F', rfl, HR.out⟩
theorem CopyV (w : World) (B v : Nat) (d : VD) (one : Bool) (F : List Nat) (h : PV w B v d one F) (hok : d.ok) : Calls Tryz.prog 13 #[ptr v] w fun e w' => CopV w w' d one e := by
 cases d with
 | txt t => exact Copy_t w B v t one F h
 | hsh es => exact Copy_h w B v es one F h (by have := hok.1; omega)
 | set l => exact Copy_s w B v l one F h (by have := hok.1; omega)
 | lst l => exact Copy_l w B v l one F h
end Go.Proofs.YtikimcbalkhooaaGreat
