/- Texts that the others stand on. -/
import Derived.Test.YtikimcbalkhooaaGreatJ25
namespace Go.Proofs.YtikimcbalkhooaaGreat
open Go.RowKit Go.PlainAid
open Dk (En keysOf ecells)
def EqR (w w' : World) (e : Ending) (P : Prop) : Prop := Below w.heap.size w w' ∧ ∃ r : Bool, e = .returned (.bool r) ∧ (r = true ↔ P)
theorem EqR.yes {w w' : World} {P : Prop} (hb : Below w.heap.size w w') (h : P) : EqR w w' (.returned (.bool true)) P := ⟨hb, true, rfl, fun _ => h, fun _ => rfl⟩
theorem EqR.no {w w' : World} {P : Prop} (hb : Below w.heap.size w w') (h : ¬ P) : EqR w w' (.returned (.bool false)) P := ⟨hb, false, rfl, fun h1 => (by cases h1), fun h1 => absurd h1 h⟩
set_option maxRecDepth 100000 in
theorem EqualS_any (B C : Nat) (a1 a2 : Option Addr) (n c1 c2 : Nat) (l1 l2 : List ByteArray) (w : World) (h1 : OwnS w B a1 n c1 l1) (h2 : OwnS w C a2 n c2 l2) (hn : n ≤ 1000) :
  Calls Tryz.prog 45 #[.slice a1 n c1, .slice a2 n c2] w fun e w' => EqR w w' e (l1 = l2) := by
 have H1 : Hid (OwnS w B a1 n c1 l1) := h1
 have H2 : Hid (OwnS w C a2 n c2 l2) := h2
 have HL1 : Hid (l1.length = n) := h1.len
 have HL2 : Hid (l2.length = n) := h2.len
 clear h1 h2
 go_enter Tryz.func45, Tryz.ntmps45
 go_wp2
 go_loopg [13] n (fun g iv wr => ∃ i : Nat, i + g = n ∧ iv = .int .i64 i ∧ Hid (l1.take i = l2.take i) ∧ Hid (Below w.heap.size w wr))
 case atStart => exact ⟨0, by omega, rfl, rfl, Below.refl _ _⟩
 case round =>
  obtain ⟨i, hi, rfl, HE, HB⟩ := hrel
  by_cases h8 : (i : Int) < n
  ·have hbd : Below wr.heap.size wr wr.drew := below_drewN wr 1
   have HBd := step_below HB hbd
   obtain ⟨b1, o1, e1, k1⟩ := (H1.out.keep HB.out).rd.cell i (by omega)
   obtain ⟨b2, o2, e2, k2⟩ := (H2.out.keep HB.out).rd.cell i (by omega)
   have HT1 : Hid (l1.take (i + 1) = l1.take i ++ [l1.getD i ByteArray.empty]) := take_snocB l1 i (by have := HL1.out; omega)
   have HT2 : Hid (l2.take (i + 1) = l2.take i ++ [l2.getD i ByteArray.empty]) := take_snocB l2 i (by have := HL2.out; omega)
   have HNo : Hid (l1.getD i ByteArray.empty ≠ l2.getD i ByteArray.empty → ¬ l1 = l2) := fun h1 h2 => h1 (by rw [h2])
   generalize l1.getD i ByteArray.empty = x at k1 HT1 HNo
   generalize l2.getD i ByteArray.empty = y at k2 HT2 HNo
   have hq := str_beq x y
   subst e1
   subst e2
   clear hbd
   by_cases hxy : x = y
   ·have hq2 : (x.toList == y.toList) = true := by rw [hq, decide_eq_true hxy]
    have HE2 : Hid (l1.take (i + 1) = l2.take (i + 1)) := by show _ = _; rw [HT1.out, HT2.out, HE.out, hxy]
    have hk1 : wr.drew.cell? ⟨b1, o1 + i, none⟩ = some (.string x) := k1
    have hk2 : wr.drew.cell? ⟨b2, o2 + i, none⟩ = some (.string y) := k2
    clear hq hxy k1 k2
    go_upto_region 6 with fail
    go_region
    go_wp2
    go_roundg (gk - 1)
    case measure => omega
    case rel => exact ⟨i + 1, by omega, by go_num, HE2, HBd⟩
   ·have hq2 : (x.toList == y.toList) = false := by rw [hq, decide_eq_false hxy]
    have HF := HNo.out hxy
    have HFF : Hid (¬ l1 = l2) := HF
    have hk1 : wr.drew.cell? ⟨b1, o1 + i, none⟩ = some (.string x) := k1
    have hk2 : wr.drew.cell? ⟨b2, o2 + i, none⟩ = some (.string y) := k2
    clear hq hxy k1 k2 HF
    go_upto_region 6 with fail
    go_region
    go_wp2
    go_ret
    exact EqR.no HBd.out HFF.out
  ·have hin : i = n := by omega
   have HEq : Hid (l1 = l2) := by
    have h1 := HE.out
    rw [List.take_of_length_le (by have := HL1.out; omega), List.take_of_length_le (by have := HL2.out; omega)] at h1
    exact h1
   go_wp2
   go_ret
   exact EqR.yes HB.out HEq.out
set_option maxRecDepth 100000 in
theorem EqualQ_any (B C : Nat) (a1 a2 : Option Addr) (n c1 c2 : Nat) (l1 l2 : List En) (w : World) (h1 : OwnQ w B a1 n c1 l1) (h2 : OwnQ w C a2 n c2 l2) (hn : n ≤ 1000) :
  Calls Tryz.prog 43 #[.slice a1 n c1, .slice a2 n c2] w fun e w' => EqR w w' e (l1 = l2) := by
 have H1 : Hid (OwnQ w B a1 n c1 l1) := h1
 have H2 : Hid (OwnQ w C a2 n c2 l2) := h2
 have HL1 : Hid (l1.length = n) := OwnQ.len h1
 have HL2 : Hid (l2.length = n) := OwnQ.len h2
 clear h1 h2
 go_enter Tryz.func43, Tryz.ntmps43
 go_wp2
 go_loopg [13] n (fun g iv wr => ∃ i : Nat, i + g = n ∧ iv = .int .i64 i ∧ Hid (l1.take i = l2.take i) ∧ Hid (Below w.heap.size w wr))
 case atStart => exact ⟨0, by omega, rfl, rfl, Below.refl _ _⟩
 case round =>
  obtain ⟨i, hi, rfl, HE, HB⟩ := hrel
  by_cases h8 : (i : Int) < n
  ·have hbd : Below wr.heap.size wr wr.drew := below_drewN wr 1
   have HBd := step_below HB hbd
   obtain ⟨g1, e1, k1, j1⟩ := OwnQ.cell (Dk.OwnR.keep H1.out HBd.out) (j := i) (by omega)
   obtain ⟨g2, e2, k2, j2⟩ := OwnQ.cell (Dk.OwnR.keep H2.out HBd.out) (j := i) (by omega)
   have HT1 : Hid (l1.take (i + 1) = l1.take i ++ [l1.getD i (⟨#[]⟩, ⟨#[]⟩)]) := Dk.take_snoc l1 (⟨#[]⟩, ⟨#[]⟩) i (by have := HL1.out; omega)
   have HT2 : Hid (l2.take (i + 1) = l2.take i ++ [l2.getD i (⟨#[]⟩, ⟨#[]⟩)]) := Dk.take_snoc l2 (⟨#[]⟩, ⟨#[]⟩) i (by have := HL2.out; omega)
   have HNo : Hid (l1.getD i (⟨#[]⟩, ⟨#[]⟩) ≠ l2.getD i (⟨#[]⟩, ⟨#[]⟩) → ¬ l1 = l2) := fun h1 h2 => h1 (by rw [h2])
   generalize l1.getD i (⟨#[]⟩, ⟨#[]⟩) = x at k1 j1 HT1 HNo
   generalize l2.getD i (⟨#[]⟩, ⟨#[]⟩) = y at k2 j2 HT2 HNo
   obtain ⟨x1, x2⟩ := x
   obtain ⟨y1, y2⟩ := y
   simp only at k1 k2 j1 j2
   subst e1
   subst e2
   have hn2 : i * 2 ≤ 2000 := by omega
   clear hbd
   rcases pair_ways x1 x2 y1 y2 with ⟨f1, f2, f3⟩ | ⟨f1, f2, f3⟩ | ⟨f1, f2, f3⟩
   ·have hxy : ((x1, x2) : En) = (y1, y2) := by rw [list_inj.1 f1, list_inj.1 f2]
    have HE2 : Hid (l1.take (i + 1) = l2.take (i + 1)) := by show _ = _; rw [HT1.out, HT2.out, HE.out, hxy]
    clear f3 hxy
    go_upto_region 6 with fail
    go_region
    go_wp2
    go_roundg (gk - 1)
    case measure => omega
    case rel => exact ⟨i + 1, by omega, by go_num, HE2, HBd⟩
   all_goals
    have HFF : Hid (¬ l1 = l2) := HNo.out (fun e => by rw [if_pos e] at f3; cases f3)
    clear f3
    go_upto_region 6 with fail
    go_region
    go_wp2
    go_ret
    exact EqR.no HBd.out HFF.out
  ·have hin : i = n := by omega
   have HEq : Hid (l1 = l2) := by
    have h1 := HE.out
    rw [List.take_of_length_le (by have := HL1.out; omega), List.take_of_length_le (by have := HL2.out; omega)] at h1
    exact h1
   go_wp2
   go_ret
   exact EqR.yes HB.out HEq.out
set_option maxRecDepth 100000 in
theorem pdqE_any (B : Nat) (a : Option Addr) (n c : Nat) (l : List En) (z : Int) (w : World) (h : OwnQ w B a n c l) (hn : n ≤ 12) (hB : B ≤ w.heap.size) :
  Calls Tryz.prog 122 #[.slice a n c, .int .i64 0, .int .i64 n, .int .i64 z, .func (.func 81) #[] #[]] w fun e w' => e = .returned (.tuple #[]) ∧ Below B w w' ∧ ∃ r, OwnQ w' B a n c r ∧ r.Perm l ∧ Std ltE r := by
 have HI := insE_any B a n c l w h hn hB
 clear h
 have h12 : (n : Int) ≤ 12 := by omega
 go_enter Tryz.func122, Tryz.ntmps122
 go_wp2
 go_loopg [1, 2] 0 (fun g av bv wr => w = wr ∧ av = .int .i64 0 ∧ bv = .int .i64 n)
 case atStart => exact ⟨rfl, rfl, rfl⟩
 case round =>
  obtain ⟨rfl, rfl, rfl⟩ := hrel
  go_wp2_with fail
  refine HI.mono ?_
  rintro e w1 ⟨rfl, hb, r, h1, h2, h3⟩
  have HR : Hid (Below B w w1 ∧ ∃ r, OwnQ w1 B a n c r ∧ r.Perm l ∧ Std ltE r) := ⟨hb, r, h1, h2, h3⟩
  clear hb h1 h2 h3
  go_wp2
  (try simp only [Exit.inBlock, Exit.then])
  refine bodyPost_ret (results_none rfl _ _ _) rfl ?_
  exact ⟨rfl, HR.out⟩
theorem SortFunc_any (B : Nat) (a : Option Addr) (n c : Nat) (l : List En) (w : World) (h : OwnQ w B a n c l) (hn : n ≤ 12) (hB : B ≤ w.heap.size) :
  Calls Tryz.prog 80 #[.slice a n c, .func (.func 81) #[] #[]] w fun e w' => e = .returned (.tuple #[]) ∧ Below B w w' ∧ ∃ r, OwnQ w' B a n c r ∧ r.Perm l ∧ Std ltE r := by
 have HP := fun z => pdqE_any B a n c l z w h hn hB
 have HL := bLen_any n w hn
 clear h
 go_enter Tryz.func80, Tryz.ntmps80
 go_wp2_with fail
 refine HL.mono ?_
 rintro e w ⟨rfl, z, rfl⟩
 have HPz := HP z
 go_wp2_with fail
 refine HPz.mono ?_
 rintro e w1 ⟨rfl, hb, r, h1, h2, h3⟩
 have HR : Hid (Below B w w1 ∧ ∃ r, OwnQ w1 B a n c r ∧ r.Perm l ∧ Std ltE r) := ⟨hb, r, h1, h2, h3⟩
 clear hb h1 h2 h3
 go_wp2
 go_end0
 exact ⟨rfl, HR.out⟩
theorem sortedPairs_any (B m x E T : Nat) (l : List En) (pk : Bool) (F : List Nat) (w : World) (h : Hm w B m x E T l pk F) (hn : l.length ≤ 12) :
  Calls Tryz.prog 44 #[ptr m] w fun e w' => Below w.heap.size w w' ∧ ∃ a n c r, e = .returned (.slice a n c) ∧ OwnQ w' w.heap.size a n c r ∧ r.Perm l ∧ Std ltE r := by
 have HA := AllH B m x E T l pk F w h
 have HN : Hid (l.length ≤ 12) := hn
 clear h
 go_enter Tryz.func44, Tryz.ntmps44
 go_wp2_with fail
 refine HA.mono ?_
 rintro e w1 ⟨hb, a, n, c, r, rfl, hO, hp⟩
 have HB1 : Hid (Below w.heap.size w w1) := hb
 have HP1 : Hid (r.Perm l) := hp
 have HS := SortFunc_any w.heap.size a n c r w1 hO (by rw [← OwnQ.len hO, hp.length_eq]; exact hn) hb.size
 clear hb hO hp HA
 go_wp2_with fail
 refine HS.mono ?_
 rintro e w2 ⟨rfl, hb, r2, h1, h2, h3⟩
 have HR : Hid (Below w.heap.size w w2 ∧ OwnQ w2 w.heap.size a n c r2 ∧ r2.Perm l ∧ Std ltE r2) := ⟨HB1.out.trans hb, h1, h2.trans HP1.out, h3⟩
 clear hb h1 h2 h3
 go_wp2
 go_ret
 exact ⟨HR.out.1, a, n, c, r2, rfl, HR.out.2⟩
theorem std_permE {l r l' r' : List En} (h1 : l'.Perm l) (h2 : r'.Perm r) (s1 : Std ltE l') (s2 : Std ltE r') (hk : (keysOf l).Nodup) : l' = r' ↔ l.Perm r := by
 constructor
 ·rintro rfl; exact h1.symm.trans h2
 ·intro hp
  have hp' : l'.Perm r' := h1.trans (hp.trans h2.symm)
  refine std_one s1 s2 hp' (fun x y hx hy e1 e2 => ?_)
  have e3 : x.1 = y.1 := ltB_eq e2 e1
  have hx1 : x ∈ l := h1.mem_iff.1 hx
  have hy1 : y ∈ l := hp.mem_iff.2 (h2.mem_iff.1 hy)
  have g1 := Dk.getE_mem hk (k := x.1) (v := x.2) hx1
  have g2 := Dk.getE_mem hk (k := y.1) (v := y.2) hy1
  rw [e3, g2] at g1
  exact Prod.ext e3 g1.symm
theorem std_permB {l r l' r' : List ByteArray} (h1 : l'.Perm l) (h2 : r'.Perm r) (s1 : Std ltB l') (s2 : Std ltB r') : l' = r' ↔ l.Perm r := by
 constructor
 ·rintro rfl; exact h1.symm.trans h2
 ·intro hp
  exact std_one s1 s2 (h1.trans (hp.trans h2.symm)) (fun x y _ _ e1 e2 => ltB_eq e2 e1)
def sameD : VD → VD → Prop
 | .txt a, .txt b => a = b
 | .hsh a, .hsh b => a.Perm b
 | .set a, .set b => a.Perm b
 | .lst a, .lst b => a = b
 | _, _ => False
theorem sameD.kind {a b : VD} (h : sameD a b) : a.kind = b.kind := by
 cases a <;> cases b <;> first | rfl | exact absurd h (by simp [sameD])
theorem sameD.len {a b : VD} (h : sameD a b) : a.len = b.len := by
 cases a with
 | txt t => cases b with
  | txt u => exact congrArg ByteArray.size h
  | _ => exact absurd h (by simp [sameD])
 | hsh t => cases b with
  | hsh u => exact List.Perm.length_eq h
  | _ => exact absurd h (by simp [sameD])
 | set t => cases b with
  | set u => exact List.Perm.length_eq h
  | _ => exact absurd h (by simp [sameD])
 | lst t => cases b with
  | lst u => exact congrArg List.length h
  | _ => exact absurd h (by simp [sameD])
def VD.dozen : VD → Prop
 | .txt t => t.size ≤ 1000000
 | .hsh es => es.length ≤ 12
 | .set l => l.length ≤ 12
 | .lst l => l.length ≤ 12
theorem VD.few.dozen {d : VD} (h : d.few) : d.dozen := by
 cases d with
 | txt t => exact Nat.le_trans (show t.size ≤ 60 from h) (by decide)
 | hsh es => exact h.1
 | set l => exact h.1
 | lst l => exact h.1
theorem PV.ne {w : World} {B1 v1 : Nat} {d1 : VD} {o1 : Bool} {F1 : List Nat} {B2 v2 : Nat} {d2 : VD} {o2 : Bool} {F2 : List Nat} (h1 : PV w B1 v1 d1 o1 F1) (h2 : PV w B2 v2 d2 o2 F2) (hne : v1 ≠ v2) : ∀ wx, Below w.heap.size w wx → (binOp .eql 31 (ptr v1) (ptr v2)).run Tryz.prog wx = .ok (.bool false) wx := by
 intro wx hb
 obtain ⟨t, a, b, c, k1, -⟩ := (h1.keep hb).ex
 obtain ⟨t', a', b', c', k2, -⟩ := (h2.keep hb).ex
 exact eqlV_other hne k1.blk k2.blk
set_option maxRecDepth 100000 in
theorem Same_kind (w : World) (B1 v1 : Nat) (d1 : VD) (o1 : Bool) (F1 : List Nat) (B2 v2 : Nat) (d2 : VD) (o2 : Bool) (F2 : List Nat) (h1 : PV w B1 v1 d1 o1 F1) (h2 : PV w B2 v2 d2 o2 F2) (hne : v1 ≠ v2) (hk : d1.kind ≠ d2.kind) :
  Calls Tryz.prog 11 #[ptr v1, ptr v2] w fun e w' => EqR w w' e (sameD d1 d2) := by
 have HK1 := kind_any w B1 v1 d1 o1 F1 h1
 have HK2 := kind_any w B2 v2 d2 o2 F2 h2
 have hq := PV.ne h1 h2 hne w (Below.refl _ _)
 have HN : Hid (¬ sameD d1 d2) := fun h => hk h.kind
 generalize d1.kind = k1 at HK1 hk
 generalize d2.kind = k2 at HK2 hk
 have hk2 : ((k1 : Int) != (k2 : Int)) = true := by simp; omega
 have hk3 : ¬ (k1 : Int) = (k2 : Int) := by omega
 clear h1 h2 hk
 go_enter Tryz.func11, Tryz.ntmps11
 go_wp2_with fail
 refine HK1.mono ?_
 rintro e w ⟨rfl, rfl⟩
 go_wp2_with fail
 refine HK2.mono ?_
 rintro e w ⟨rfl, rfl⟩
 go_wp2
 go_ret
 exact EqR.no (Below.refl _ _) HN.out
set_option maxRecDepth 100000 in
theorem Same_len (w : World) (B1 v1 : Nat) (d1 : VD) (o1 : Bool) (F1 : List Nat) (B2 v2 : Nat) (d2 : VD) (o2 : Bool) (F2 : List Nat) (h1 : PV w B1 v1 d1 o1 F1) (h2 : PV w B2 v2 d2 o2 F2) (hne : v1 ≠ v2) (hk : d1.kind = d2.kind) (hl : d1.len ≠ d2.len) :
  Calls Tryz.prog 11 #[ptr v1, ptr v2] w fun e w' => EqR w w' e (sameD d1 d2) := by
 have HK1 := kind_any w B1 v1 d1 o1 F1 h1
 have HK2 := kind_any w B2 v2 d2 o2 F2 h2
 have HL1 := LenV w B1 v1 d1 o1 F1 h1
 have HL2 : Hid (∀ wx, Below w.heap.size w wx → Calls Tryz.prog 22 #[ptr v2] wx fun e w' => e = .returned (.int .i64 (d2.len : Nat)) ∧ Below wx.heap.size wx w') := fun wx hb => LenV wx B2 v2 d2 o2 F2 (h2.keep hb)
 have hq := PV.ne h1 h2 hne w (Below.refl _ _)
 have HN : Hid (¬ sameD d1 d2) := fun h => hl h.len
 rw [hk] at HK1
 generalize d2.kind = k2 at HK1 HK2
 generalize d1.len = n1 at HL1 hl
 generalize d2.len = n2 at HL2 hl
 have hk2 : ((n1 : Int) != (n2 : Int)) = true := by simp; omega
 have hk3 : ¬ (n1 : Int) = (n2 : Int) := by omega
 clear h1 h2 hk hl
 go_enter Tryz.func11, Tryz.ntmps11
 go_wp2_with fail
 refine HK1.mono ?_
 rintro e w ⟨rfl, rfl⟩
 go_wp2_with fail
 refine HK2.mono ?_
 rintro e w ⟨rfl, rfl⟩
 go_wp2_with fail
 refine HL1.mono ?_
 rintro e w1 ⟨rfl, hb⟩
 have HB1 : Hid (Below w.heap.size w w1) := hb
 have HL3 := HL2.out w1 hb
 clear hb
 go_wp2_with fail
 refine HL3.mono ?_
 rintro e w2 ⟨rfl, hb⟩
 have HB2 := step_below HB1 hb
 go_wp2
 go_ret
 exact EqR.no HB2.out HN.out
set_option maxRecDepth 100000 in
set_option maxHeartbeats 4000000 in
theorem Same_t (w : World) (B1 v1 : Nat) (x1 : ByteArray) (o1 : Bool) (F1 : List Nat) (B2 v2 : Nat) (x2 : ByteArray) (o2 : Bool) (F2 : List Nat) (h1 : PV w B1 v1 (.txt x1) o1 F1) (h2 : PV w B2 v2 (.txt x2) o2 F2) (hne : v1 ≠ v2) (hl : x1.size = x2.size) :
  Calls Tryz.prog 11 #[ptr v1, ptr v2] w fun e w' => EqR w w' e (x1 = x2) := by
 have HK1 := kind_any w B1 v1 _ o1 F1 h1
 have HK2 := kind_any w B2 v2 _ o2 F2 h2
 have HL1 := LenV w B1 v1 _ o1 F1 h1
 have HP1 : Hid (PV w B1 v1 (.txt x1) o1 F1) := h1
 have HP2 : Hid (PV w B2 v2 (.txt x2) o2 F2) := h2
 have HL2 : Hid (∀ wx, Below w.heap.size w wx → Calls Tryz.prog 22 #[ptr v2] wx fun e w' => e = .returned (.int .i64 (VD.len (.txt x2) : Nat)) ∧ Below wx.heap.size wx w') := fun wx hb => LenV wx B2 v2 _ o2 F2 (h2.keep hb)
 have HK3 : Hid (∀ wx, Below w.heap.size w wx → Calls Tryz.prog 42 #[ptr v1] wx fun e w' => e = .returned (.int .i64 1) ∧ w' = wx) := fun wx hb => kind_any wx B1 v1 _ o1 F1 (h1.keep hb)
 have hq := PV.ne h1 h2 hne w (Below.refl _ _)
 simp only [VD.kind, VD.len] at HK1 HK2 HL1 HL2
 rw [hl] at HL1
 have HE : Hid (x1.size = x2.size) := hl
 obtain ⟨n, hn'⟩ : ∃ n, x2.size = n := ⟨_, rfl⟩
 rw [hn'] at HL1 HL2
 have HN : Hid (x2.size = n) := hn'
 clear h1 h2 hne hl hn'
 go_enter Tryz.func11, Tryz.ntmps11
 go_wp2_with fail
 refine HK1.mono ?_
 rintro e w ⟨rfl, rfl⟩
 go_wp2_with fail
 refine HK2.mono ?_
 rintro e w ⟨rfl, rfl⟩
 go_wp2_with fail
 refine HL1.mono ?_
 rintro e w1 ⟨rfl, hb⟩
 have HB1 : Hid (Below w.heap.size w w1) := hb
 have HL3 := HL2.out w1 hb
 clear hb
 go_wp2_with fail
 refine HL3.mono ?_
 rintro e w2 ⟨rfl, hb⟩
 have HB2 := step_below HB1 hb
 have HK4 := HK3.out w2 HB2.out
 clear hb HL3
 go_wp2_with fail
 refine HK4.mono ?_
 rintro e w2 ⟨rfl, rfl⟩
 have HBd : Hid (Below w.heap.size w w2.drew) := step_below HB2 (below_drewN w2 1)
 obtain ⟨t1, a1, b1, c1, k1, e1⟩ := (HP1.out.keep HBd.out).ex
 obtain ⟨t2, a2, b2, c2, k2, e2⟩ := (HP2.out.keep HBd.out).ex
 obtain ⟨rfl, -, -, -, -⟩ := e1
 obtain ⟨rfl, -, -, -, -⟩ := e2
 have u1 := k1.ct
 have u2 := k2.ct
 have hs := str_beq t1 t2
 clear k1 k2
 go_upto_region 7 with fail
 by_cases ht : t1 = t2
 ·have hs2 : (t1.toList == t2.toList) = true := by rw [hs, decide_eq_true ht]
  have HT : Hid (t1 = t2) := ht
  clear hs ht
  go_region
  go_wp2
  go_ret
  exact EqR.yes HBd.out HT.out
 ·have hs2 : (t1.toList == t2.toList) = false := by rw [hs, decide_eq_false ht]
  have HT : Hid (¬ t1 = t2) := ht
  clear hs ht
  go_region
  go_wp2
  go_ret
  exact EqR.no HBd.out HT.out
set_option maxRecDepth 100000 in
set_option maxHeartbeats 4000000 in
theorem Same_h (w : World) (B1 v1 : Nat) (x1 : List En) (o1 : Bool) (F1 : List Nat) (B2 v2 : Nat) (x2 : List En) (o2 : Bool) (F2 : List Nat) (h1 : PV w B1 v1 (.hsh x1) o1 F1) (h2 : PV w B2 v2 (.hsh x2) o2 F2) (hne : v1 ≠ v2) (hl : x1.length = x2.length) (hn : x1.length ≤ 12) :
  Calls Tryz.prog 11 #[ptr v1, ptr v2] w fun e w' => EqR w w' e (x1.Perm x2) := by
 have HK1 := kind_any w B1 v1 _ o1 F1 h1
 have HK2 := kind_any w B2 v2 _ o2 F2 h2
 have HL1 := LenV w B1 v1 _ o1 F1 h1
 have HP1 : Hid (PV w B1 v1 (.hsh x1) o1 F1) := h1
 have HP2 : Hid (PV w B2 v2 (.hsh x2) o2 F2) := h2
 have HL2 : Hid (∀ wx, Below w.heap.size w wx → Calls Tryz.prog 22 #[ptr v2] wx fun e w' => e = .returned (.int .i64 (VD.len (.hsh x2) : Nat)) ∧ Below wx.heap.size wx w') := fun wx hb => LenV wx B2 v2 _ o2 F2 (h2.keep hb)
 have HK3 : Hid (∀ wx, Below w.heap.size w wx → Calls Tryz.prog 42 #[ptr v1] wx fun e w' => e = .returned (.int .i64 2) ∧ w' = wx) := fun wx hb => kind_any wx B1 v1 _ o1 F1 (h1.keep hb)
 have hq := PV.ne h1 h2 hne w (Below.refl _ _)
 simp only [VD.kind, VD.len] at HK1 HK2 HL1 HL2
 rw [hl] at HL1
 have HE : Hid (x1.length = x2.length) := hl
 obtain ⟨n, hn'⟩ : ∃ n, x2.length = n := ⟨_, rfl⟩
 rw [hn'] at HL1 HL2
 have HN : Hid (x2.length = n) := hn'
 have HN1 : Hid (x1.length ≤ 12) := hn
 clear h1 h2 hne hl hn' hn
 go_enter Tryz.func11, Tryz.ntmps11
 go_wp2_with fail
 refine HK1.mono ?_
 rintro e w ⟨rfl, rfl⟩
 go_wp2_with fail
 refine HK2.mono ?_
 rintro e w ⟨rfl, rfl⟩
 go_wp2_with fail
 refine HL1.mono ?_
 rintro e w1 ⟨rfl, hb⟩
 have HB1 : Hid (Below w.heap.size w w1) := hb
 have HL3 := HL2.out w1 hb
 clear hb
 go_wp2_with fail
 refine HL3.mono ?_
 rintro e w2 ⟨rfl, hb⟩
 have HB2 := step_below HB1 hb
 have HK4 := HK3.out w2 HB2.out
 clear hb HL3
 go_wp2_with fail
 refine HK4.mono ?_
 rintro e w2 ⟨rfl, rfl⟩
 have HBd : Hid (Below w.heap.size w w2.drew) := step_below HB2 (below_drewN w2 1)
 obtain ⟨m1, y1, E1, T1, k1, hH1⟩ := HP1.out.hash
 obtain ⟨m2, y2, E2, T2, k2, hH2⟩ := HP2.out.hash
 have HS1 : Hid (∀ wx, Below w.heap.size w wx → Calls Tryz.prog 44 #[ptr m1] wx fun e w' => Below wx.heap.size wx w' ∧ ∃ a c r, e = .returned (.slice a n c) ∧ OwnQ w' wx.heap.size a n c r ∧ r.Perm x1 ∧ Std ltE r) := fun wx hb => by
  refine (sortedPairs_any B1 m1 y1 E1 T1 x1 o1 F1 wx (hH1.keep hb) (by exact HN1.out)).mono ?_
  rintro e w' ⟨h1, a, n5, c, r, rfl, hO, h3, h4⟩
  have e1 : n5 = n := by rw [← OwnQ.len hO, h3.length_eq]; exact HE.out.trans HN.out
  subst e1
  exact ⟨h1, a, c, r, rfl, hO, h3, h4⟩
 have HS2 : Hid (∀ wx, Below w.heap.size w wx → Calls Tryz.prog 44 #[ptr m2] wx fun e w' => Below wx.heap.size wx w' ∧ ∃ a c r, e = .returned (.slice a n c) ∧ OwnQ w' wx.heap.size a n c r ∧ r.Perm x2 ∧ Std ltE r) := fun wx hb => by
  refine (sortedPairs_any B2 m2 y2 E2 T2 x2 o2 F2 wx (hH2.keep hb) (by rw [← HE.out]; exact HN1.out)).mono ?_
  rintro e w' ⟨h1, a, n5, c, r, rfl, hO, h3, h4⟩
  have e1 : n5 = n := by rw [← OwnQ.len hO, h3.length_eq]; exact HN.out
  subst e1
  exact ⟨h1, a, c, r, rfl, hO, h3, h4⟩
 have HNd : Hid ((keysOf x1).Nodup) := hH1.nod
 have HC : Hid (∀ wx, Below w.heap.size w wx → (fun w' : World => w'.cell? ⟨v1, 2, none⟩ = some (ptr m1) ∧ w'.cell? ⟨v2, 2, none⟩ = some (ptr m2)) wx) := fun wx hb => ⟨(k1.keep hb).ch, (k2.keep hb).ch⟩
 have hn100 : n ≤ 1000 := by have := HN.out; have := HE.out; have := HN1.out; omega
 clear k1 k2 hH1 hH2
 have HIf0 : Hid (∀ r4 r5, r4.Perm x1 → Std ltE r4 → r5.Perm x2 → Std ltE r5 → (r4 = r5 ↔ x1.Perm x2)) := fun r4 r5 hp1 hs1 hp2 hs2 => std_permE hp1 hp2 hs1 hs2 HNd.out
 go_upto_region 9 with fail
 go_region_held3 (fun w' => w'.cell? ⟨v1, 2, none⟩ = some (ptr m1) ∧ w'.cell? ⟨v2, 2, none⟩ = some (ptr m2)) (first | exact HC.out _ HB6.out | exact HC.out _ HB5.out | exact HC.out _ HB4.out | exact HC.out _ HBd.out) (first
  | (go_at_call 43; refine HEq.mono ?_; rintro e w6 ⟨hb, b6, rfl, hb6⟩; have HB6 := step_below HB5 hb; have H6 : Hid (b6 = true ↔ x1.Perm x2) := hb6.trans HIf.out; clear hb hb6)
  | (go_at_call_of 44 (ptr m2); refine (HS2.out _ HB4.out).mono ?_; rintro e w5 ⟨hb, a5, c5, r5, rfl, hO5, hp2, hs2⟩; have HB5 := step_below HB4 hb; have HIf : Hid (r4 = r5 ↔ x1.Perm x2) := HIf0.out r4 r5 H4.out.2.1 H4.out.2.2 hp2 hs2; have HEq := EqualQ_any _ _ a4 a5 n c4 c5 r4 r5 w5 (Dk.OwnR.keep H4.out.1 hb) hO5 hn100; clear hb hO5 hp2 hs2)
  | (go_at_call_of 44 (ptr m1); refine (HS1.out _ HBd.out).mono ?_; rintro e w4 ⟨hb, a4, c4, r4, rfl, hO4, hp1, hs1⟩; have HB4 := step_below HBd hb; have H4 : Hid (OwnQ w4 w2.drew.heap.size a4 n c4 r4 ∧ r4.Perm x1 ∧ Std ltE r4) := ⟨hO4, hp1, hs1⟩; clear hb hO4 hp1 hs1))
 all_goals
  go_wp2
  go_ret
  exact ⟨HB6.out, b6, rfl, H6.out⟩
set_option maxRecDepth 100000 in
set_option maxHeartbeats 4000000 in
theorem Same_s (w : World) (B1 v1 : Nat) (x1 : List ByteArray) (o1 : Bool) (F1 : List Nat) (B2 v2 : Nat) (x2 : List ByteArray) (o2 : Bool) (F2 : List Nat) (h1 : PV w B1 v1 (.set x1) o1 F1) (h2 : PV w B2 v2 (.set x2) o2 F2) (hne : v1 ≠ v2) (hl : x1.length = x2.length) (hn : x1.length ≤ 12) :
  Calls Tryz.prog 11 #[ptr v1, ptr v2] w fun e w' => EqR w w' e (x1.Perm x2) := by
 have HK1 := kind_any w B1 v1 _ o1 F1 h1
 have HK2 := kind_any w B2 v2 _ o2 F2 h2
 have HL1 := LenV w B1 v1 _ o1 F1 h1
 have HP1 : Hid (PV w B1 v1 (.set x1) o1 F1) := h1
 have HP2 : Hid (PV w B2 v2 (.set x2) o2 F2) := h2
 have HL2 : Hid (∀ wx, Below w.heap.size w wx → Calls Tryz.prog 22 #[ptr v2] wx fun e w' => e = .returned (.int .i64 (VD.len (.set x2) : Nat)) ∧ Below wx.heap.size wx w') := fun wx hb => LenV wx B2 v2 _ o2 F2 (h2.keep hb)
 have HK3 : Hid (∀ wx, Below w.heap.size w wx → Calls Tryz.prog 42 #[ptr v1] wx fun e w' => e = .returned (.int .i64 3) ∧ w' = wx) := fun wx hb => kind_any wx B1 v1 _ o1 F1 (h1.keep hb)
 have hq := PV.ne h1 h2 hne w (Below.refl _ _)
 simp only [VD.kind, VD.len] at HK1 HK2 HL1 HL2
 rw [hl] at HL1
 have HE : Hid (x1.length = x2.length) := hl
 obtain ⟨n, hn'⟩ : ∃ n, x2.length = n := ⟨_, rfl⟩
 rw [hn'] at HL1 HL2
 have HN : Hid (x2.length = n) := hn'
 have HN1 : Hid (x1.length ≤ 12) := hn
 clear h1 h2 hne hl hn' hn
 go_enter Tryz.func11, Tryz.ntmps11
 go_wp2_with fail
 refine HK1.mono ?_
 rintro e w ⟨rfl, rfl⟩
 go_wp2_with fail
 refine HK2.mono ?_
 rintro e w ⟨rfl, rfl⟩
 go_wp2_with fail
 refine HL1.mono ?_
 rintro e w1 ⟨rfl, hb⟩
 have HB1 : Hid (Below w.heap.size w w1) := hb
 have HL3 := HL2.out w1 hb
 clear hb
 go_wp2_with fail
 refine HL3.mono ?_
 rintro e w2 ⟨rfl, hb⟩
 have HB2 := step_below HB1 hb
 have HK4 := HK3.out w2 HB2.out
 clear hb HL3
 go_wp2_with fail
 refine HK4.mono ?_
 rintro e w2 ⟨rfl, rfl⟩
 have HBd : Hid (Below w.heap.size w w2.drew) := step_below HB2 (below_drewN w2 1)
 obtain ⟨m1, y1, E1, T1, k1, hH1⟩ := HP1.out.set
 obtain ⟨m2, y2, E2, T2, k2, hH2⟩ := HP2.out.set
 have HS1 : Hid (∀ wx, Below w.heap.size w wx → Calls Tryz.prog 46 #[ptr m1] wx fun e w' => Below wx.heap.size wx w' ∧ ∃ a c r, e = .returned (.slice a n c) ∧ OwnS w' wx.heap.size a n c r ∧ r.Perm x1 ∧ Std ltB r) := fun wx hb => by
  refine (sortedMembers_any B1 m1 y1 E1 T1 x1 o1 F1 wx (hH1.keep hb) (by exact HN1.out)).mono ?_
  rintro e w' ⟨h1, a, n5, c, r, rfl, hO, h3, h4⟩
  have e1 : n5 = n := by rw [← hO.len, h3.length_eq]; exact HE.out.trans HN.out
  subst e1
  exact ⟨h1, a, c, r, rfl, hO, h3, h4⟩
 have HS2 : Hid (∀ wx, Below w.heap.size w wx → Calls Tryz.prog 46 #[ptr m2] wx fun e w' => Below wx.heap.size wx w' ∧ ∃ a c r, e = .returned (.slice a n c) ∧ OwnS w' wx.heap.size a n c r ∧ r.Perm x2 ∧ Std ltB r) := fun wx hb => by
  refine (sortedMembers_any B2 m2 y2 E2 T2 x2 o2 F2 wx (hH2.keep hb) (by rw [← HE.out]; exact HN1.out)).mono ?_
  rintro e w' ⟨h1, a, n5, c, r, rfl, hO, h3, h4⟩
  have e1 : n5 = n := by rw [← hO.len, h3.length_eq]; exact HN.out
  subst e1
  exact ⟨h1, a, c, r, rfl, hO, h3, h4⟩
 have HC : Hid (∀ wx, Below w.heap.size w wx → (fun w' : World => w'.cell? ⟨v1, 3, none⟩ = some (ptr m1) ∧ w'.cell? ⟨v2, 3, none⟩ = some (ptr m2)) wx) := fun wx hb => ⟨(k1.keep hb).cs, (k2.keep hb).cs⟩
 have hn100 : n ≤ 1000 := by have := HN.out; have := HE.out; have := HN1.out; omega
 clear k1 k2 hH1 hH2
 have HIf0 : Hid (∀ r4 r5, r4.Perm x1 → Std ltB r4 → r5.Perm x2 → Std ltB r5 → (r4 = r5 ↔ x1.Perm x2)) := fun r4 r5 hp1 hs1 hp2 hs2 => std_permB hp1 hp2 hs1 hs2
 go_upto_region 11 with fail
 go_region_held3 (fun w' => w'.cell? ⟨v1, 3, none⟩ = some (ptr m1) ∧ w'.cell? ⟨v2, 3, none⟩ = some (ptr m2)) (first | exact HC.out _ HB6.out | exact HC.out _ HB5.out | exact HC.out _ HB4.out | exact HC.out _ HBd.out) (first
  | (go_at_call 45; refine HEq.mono ?_; rintro e w6 ⟨hb, b6, rfl, hb6⟩; have HB6 := step_below HB5 hb; have H6 : Hid (b6 = true ↔ x1.Perm x2) := hb6.trans HIf.out; clear hb hb6)
  | (go_at_call_of 46 (ptr m2); refine (HS2.out _ HB4.out).mono ?_; rintro e w5 ⟨hb, a5, c5, r5, rfl, hO5, hp2, hs2⟩; have HB5 := step_below HB4 hb; have HIf : Hid (r4 = r5 ↔ x1.Perm x2) := HIf0.out r4 r5 H4.out.2.1 H4.out.2.2 hp2 hs2; have HEq := EqualS_any _ _ a4 a5 n c4 c5 r4 r5 w5 (H4.out.1.keep hb) hO5 hn100; clear hb hO5 hp2 hs2)
  | (go_at_call_of 46 (ptr m1); refine (HS1.out _ HBd.out).mono ?_; rintro e w4 ⟨hb, a4, c4, r4, rfl, hO4, hp1, hs1⟩; have HB4 := step_below HBd hb; have H4 : Hid (OwnS w4 w2.drew.heap.size a4 n c4 r4 ∧ r4.Perm x1 ∧ Std ltB r4) := ⟨hO4, hp1, hs1⟩; clear hb hO4 hp1 hs1))
 all_goals
  go_wp2
  go_ret
  exact ⟨HB6.out, b6, rfl, H6.out⟩
set_option maxRecDepth 100000 in
set_option maxHeartbeats 4000000 in
theorem Same_l (w : World) (B1 v1 : Nat) (x1 : List ByteArray) (o1 : Bool) (F1 : List Nat) (B2 v2 : Nat) (x2 : List ByteArray) (o2 : Bool) (F2 : List Nat) (h1 : PV w B1 v1 (.lst x1) o1 F1) (h2 : PV w B2 v2 (.lst x2) o2 F2) (hne : v1 ≠ v2) (hl : x1.length = x2.length) (hn : x1.length ≤ 12) :
  Calls Tryz.prog 11 #[ptr v1, ptr v2] w fun e w' => EqR w w' e (x1 = x2) := by
 have HK1 := kind_any w B1 v1 _ o1 F1 h1
 have HK2 := kind_any w B2 v2 _ o2 F2 h2
 have HL1 := LenV w B1 v1 _ o1 F1 h1
 have HP1 : Hid (PV w B1 v1 (.lst x1) o1 F1) := h1
 have HP2 : Hid (PV w B2 v2 (.lst x2) o2 F2) := h2
 have HL2 : Hid (∀ wx, Below w.heap.size w wx → Calls Tryz.prog 22 #[ptr v2] wx fun e w' => e = .returned (.int .i64 (VD.len (.lst x2) : Nat)) ∧ Below wx.heap.size wx w') := fun wx hb => LenV wx B2 v2 _ o2 F2 (h2.keep hb)
 have HK3 : Hid (∀ wx, Below w.heap.size w wx → Calls Tryz.prog 42 #[ptr v1] wx fun e w' => e = .returned (.int .i64 4) ∧ w' = wx) := fun wx hb => kind_any wx B1 v1 _ o1 F1 (h1.keep hb)
 have hq := PV.ne h1 h2 hne w (Below.refl _ _)
 simp only [VD.kind, VD.len] at HK1 HK2 HL1 HL2
 rw [hl] at HL1
 have HE : Hid (x1.length = x2.length) := hl
 obtain ⟨n, hn'⟩ : ∃ n, x2.length = n := ⟨_, rfl⟩
 rw [hn'] at HL1 HL2
 have HN : Hid (x2.length = n) := hn'
 have HN1 : Hid (x1.length ≤ 12) := hn
 clear h1 h2 hne hl hn' hn
 go_enter Tryz.func11, Tryz.ntmps11
 go_wp2_with fail
 refine HK1.mono ?_
 rintro e w ⟨rfl, rfl⟩
 go_wp2_with fail
 refine HK2.mono ?_
 rintro e w ⟨rfl, rfl⟩
 go_wp2_with fail
 refine HL1.mono ?_
 rintro e w1 ⟨rfl, hb⟩
 have HB1 : Hid (Below w.heap.size w w1) := hb
 have HL3 := HL2.out w1 hb
 clear hb
 go_wp2_with fail
 refine HL3.mono ?_
 rintro e w2 ⟨rfl, hb⟩
 have HB2 := step_below HB1 hb
 have HK4 := HK3.out w2 HB2.out
 clear hb HL3
 go_wp2_with fail
 refine HK4.mono ?_
 rintro e w2 ⟨rfl, rfl⟩
 have HBd : Hid (Below w.heap.size w w2.drew) := step_below HB2 (below_drewN w2 1)
 obtain ⟨m1, mo1, q1, k1, hH1, -⟩ := HP1.out.list
 obtain ⟨m2, mo2, q2, k2, hH2, -⟩ := HP2.out.list
 have HS1 : Hid (∀ wx, Below w.heap.size w wx → Calls Tryz.prog 41 #[ptr m1] wx fun e w' => Below wx.heap.size wx w' ∧ ∃ a c, e = .returned (.slice a n c) ∧ OwnS w' wx.heap.size a n c x1) := fun wx hb => by
  refine (VAll wx B1 m1 mo1 q1 x1 F1 (hH1.keep hb) (by have := HN1.out; have := HE.out; omega)).mono ?_
  rintro e w' ⟨h1, a, n5, c, rfl, hO⟩
  have e1 : n5 = n := by rw [← hO.len]; exact HE.out.trans HN.out
  subst e1
  exact ⟨h1, a, c, rfl, hO⟩
 have HS2 : Hid (∀ wx, Below w.heap.size w wx → Calls Tryz.prog 41 #[ptr m2] wx fun e w' => Below wx.heap.size wx w' ∧ ∃ a c, e = .returned (.slice a n c) ∧ OwnS w' wx.heap.size a n c x2) := fun wx hb => by
  refine (VAll wx B2 m2 mo2 q2 x2 F2 (hH2.keep hb) (by have := HN1.out; have := HE.out; omega)).mono ?_
  rintro e w' ⟨h1, a, n5, c, rfl, hO⟩
  have e1 : n5 = n := by rw [← hO.len]; exact HN.out
  subst e1
  exact ⟨h1, a, c, rfl, hO⟩
 have HC : Hid (∀ wx, Below w.heap.size w wx → (fun w' : World => w'.cell? ⟨v1, 4, none⟩ = some (ptr m1) ∧ w'.cell? ⟨v2, 4, none⟩ = some (ptr m2)) wx) := fun wx hb => ⟨(k1.keep hb).cl, (k2.keep hb).cl⟩
 have hn100 : n ≤ 1000 := by have := HN.out; have := HE.out; have := HN1.out; omega
 clear k1 k2 hH1 hH2
 go_upto_region 13 with fail
 go_region_held3 (fun w' => w'.cell? ⟨v1, 4, none⟩ = some (ptr m1) ∧ w'.cell? ⟨v2, 4, none⟩ = some (ptr m2)) (first | exact HC.out _ HB6.out | exact HC.out _ HB5.out | exact HC.out _ HB4.out | exact HC.out _ HBd.out) (first
  | (go_at_call 45; refine HEq.mono ?_; rintro e w6 ⟨hb, b6, rfl, hb6⟩; have HB6 := step_below HB5 hb; have H6 : Hid (b6 = true ↔ x1 = x2) := hb6; clear hb hb6)
  | (go_at_call_of 41 (ptr m2); refine (HS2.out _ HB4.out).mono ?_; rintro e w5 ⟨hb, a5, c5, rfl, hO5⟩; have HB5 := step_below HB4 hb; have HEq := EqualS_any _ _ a4 a5 n c4 c5 x1 x2 w5 (H4.out.keep hb) hO5 hn100; clear hb hO5)
  | (go_at_call_of 41 (ptr m1); refine (HS1.out _ HBd.out).mono ?_; rintro e w4 ⟨hb, a4, c4, rfl, hO4⟩; have HB4 := step_below HBd hb; have H4 : Hid (OwnS w4 w2.drew.heap.size a4 n c4 x1) := hO4; clear hb hO4))
 all_goals
  go_wp2
  go_ret
  exact ⟨HB6.out, b6, rfl, H6.out⟩
theorem SameV (w : World) (B1 v1 : Nat) (d1 : VD) (o1 : Bool) (F1 : List Nat) (B2 v2 : Nat) (d2 : VD) (o2 : Bool) (F2 : List Nat) (h1 : PV w B1 v1 d1 o1 F1) (h2 : PV w B2 v2 d2 o2 F2) (hne : v1 ≠ v2) (hd : d1.dozen) :
  Calls Tryz.prog 11 #[ptr v1, ptr v2] w fun e w' => EqR w w' e (sameD d1 d2) := by
 by_cases hk : d1.kind = d2.kind
 ·by_cases hl : d1.len = d2.len
  ·cases d1 with
   | txt a => cases d2 with
    | txt b => exact Same_t w B1 v1 a o1 F1 B2 v2 b o2 F2 h1 h2 hne hl
    | _ => exact absurd hk (by simp [VD.kind])
   | hsh a => cases d2 with
    | hsh b => exact Same_h w B1 v1 a o1 F1 B2 v2 b o2 F2 h1 h2 hne hl hd
    | _ => exact absurd hk (by simp [VD.kind])
   | set a => cases d2 with
    | set b => exact Same_s w B1 v1 a o1 F1 B2 v2 b o2 F2 h1 h2 hne hl hd
    | _ => exact absurd hk (by simp [VD.kind])
   | lst a => cases d2 with
    | lst b => exact Same_l w B1 v1 a o1 F1 B2 v2 b o2 F2 h1 h2 hne hl hd
    | _ => exact absurd hk (by simp [VD.kind])
  ·exact Same_len w B1 v1 d1 o1 F1 B2 v2 d2 o2 F2 h1 h2 hne hk hl
 ·exact Same_kind w B1 v1 d1 o1 F1 B2 v2 d2 o2 F2 h1 h2 hne hk
end Go.Proofs.YtikimcbalkhooaaGreat
