/- Texts that the others stand on. -/
import Derived.Test.YtikimcbalkhooaaGreatJ24
import Derived.Lib.Bytealg
import Derived.Lib.BitFns
import Derived.Deep.RegionHeld3
import Derived.Laws.Externs
namespace Go.Proofs.YtikimcbalkhooaaGreat
structure Tot {α : Type} (lt : α → α → Bool) : Prop where
 asym : ∀ a b, lt a b = true → lt b a = false
 trans : ∀ a b c, lt b a = false → lt c b = false → lt c a = false
def Std {α : Type} (lt : α → α → Bool) (l : List α) : Prop := l.Pairwise (fun a b => lt b a = false)
structure Outr {α : Type} (lt : α → α → Bool) (l0 : List α) (i : Nat) (l : List α) : Prop where
 perm : l.Perm l0
 std : Std lt (l.take i)
structure Insr {α : Type} (lt : α → α → Bool) (l0 : List α) (i j : Nat) (l : List α) : Prop where
 perm : l.Perm l0
 ex : ∃ A x C R, l = A ++ x :: (C ++ R) ∧ A.length = j ∧ A.length + C.length = i ∧ Std lt (A ++ C) ∧ ∀ c ∈ C, lt x c = true
theorem Outr.start {α : Type} {lt : α → α → Bool} (l : List α) : Outr lt l 1 l := by
 refine ⟨List.Perm.refl _, ?_⟩
 cases l with
 | nil => exact List.Pairwise.nil
 | cons a r => exact List.pairwise_singleton _ _
theorem Outr.inner {α : Type} {lt : α → α → Bool} {l0 l : List α} {i : Nat} (h : Outr lt l0 i l) (hi : i < l.length) : Insr lt l0 i i l := by
 refine ⟨h.perm, l.take i, l[i], [], l.drop (i + 1), ?_, ?_, ?_, ?_, fun c hc => absurd hc (by simp)⟩
 ·rw [List.nil_append, ← List.drop_eq_getElem_cons hi, List.take_append_drop]
 ·rw [List.length_take]; omega
 ·rw [List.length_take, List.length_nil]; omega
 ·rw [List.append_nil]; exact h.std
theorem Outr.done {α : Type} {lt : α → α → Bool} {l0 l : List α} {i : Nat} (h : Outr lt l0 i l) (hi : l.length ≤ i) : l.Perm l0 ∧ Std lt l := by
 have := h.std
 rw [List.take_of_length_le hi] at this
 exact ⟨h.perm, this⟩
theorem Insr.swap {α : Type} {lt : α → α → Bool} {l0 l : List α} {i j : Nat} (z : α) (h : Insr lt l0 i (j + 1) l) (hlt : lt (l.getD (j + 1) z) (l.getD j z) = true) :
  Insr lt l0 i j ((l.set (j + 1) (l.getD j z)).set j (l.getD (j + 1) z)) := by
 obtain ⟨hp, A, x, C, R, rfl, h1, h2, h3, h4⟩ := h
 obtain ⟨A', y, rfl⟩ : ∃ A' y, A = A' ++ [y] := by
  exact ⟨A.dropLast, A.getLast (by rintro rfl; simp at h1), (List.dropLast_concat_getLast _).symm⟩
 have hl : A'.length = j := by simp at h1; exact h1
 subst hl
 have e1 : (A' ++ [y] ++ x :: (C ++ R)).getD (A'.length + 1) z = x := by
  rw [List.getD_eq_getElem?_getD, List.getElem?_append_right (by simp)]; simp
 have e2 : (A' ++ [y] ++ x :: (C ++ R)).getD A'.length z = y := by
  rw [List.append_assoc, List.getD_eq_getElem?_getD, List.getElem?_append_right (Nat.le_refl _)]; simp
 rw [e1, e2] at hlt ⊢
 have e3 : ((A' ++ [y] ++ x :: (C ++ R)).set (A'.length + 1) y).set A'.length x = A' ++ x :: ((y :: C) ++ R) := by
  rw [List.append_assoc, List.set_append_right _ _ (by omega), List.set_append_right _ _ (by omega)]
  simp
 rw [e3]
 refine ⟨?_, A', x, y :: C, R, rfl, rfl, ?_, ?_, ?_⟩
 ·refine List.Perm.trans ?_ hp
  rw [List.append_assoc]
  exact (List.Perm.swap y x (C ++ R)).append_left A'
 ·simp only [List.length_append, List.length_cons, List.length_nil] at h2 ⊢
  omega
 ·rw [List.append_assoc] at h3; exact h3
 ·intro c hc
  rcases List.mem_cons.1 hc with rfl | hc
  ·exact hlt
  ·exact h4 c hc
theorem Insr.stop {α : Type} {lt : α → α → Bool} (ht : Tot lt) {l0 l : List α} {i j : Nat} (z : α) (h : Insr lt l0 i j l) (hs : j = 0 ∨ lt (l.getD j z) (l.getD (j - 1) z) = false) : Outr lt l0 (i + 1) l := by
 obtain ⟨hp, A, x, C, R, rfl, h1, h2, h3, h4⟩ := h
 refine ⟨hp, ?_⟩
 have e : (A ++ x :: (C ++ R)).take (i + 1) = A ++ x :: C := by
  rw [show A ++ x :: (C ++ R) = (A ++ x :: C) ++ R by simp]
  rw [List.take_append_of_le_length (by simp; omega), List.take_of_length_le (by simp; omega)]
 rw [e]
 have hA := List.pairwise_append.1 h3
 refine List.pairwise_append.2 ⟨hA.1, List.pairwise_cons.2 ⟨fun c hc => ht.asym _ _ (h4 c hc), hA.2.1⟩, ?_⟩
 intro a ha b hb
 rcases List.mem_cons.1 hb with rfl | hb
 ·rcases hs with hs | hs
  ·rw [hs] at h1; rw [List.length_eq_zero_iff.1 h1] at ha; exact absurd ha (by simp)
  ·obtain ⟨A', y, rfl⟩ : ∃ A' y, A = A' ++ [y] := by
    exact ⟨A.dropLast, A.getLast (by rintro rfl; simp at ha), (List.dropLast_concat_getLast _).symm⟩
   have hl : A'.length + 1 = j := by simpa using h1
   subst hl
   have e1 : (A' ++ [y] ++ b :: (C ++ R)).getD (A'.length + 1) z = b := by
    rw [List.getD_eq_getElem?_getD, List.getElem?_append_right (by simp)]; simp
   have e2 : (A' ++ [y] ++ b :: (C ++ R)).getD A'.length z = y := by
    rw [List.append_assoc, List.getD_eq_getElem?_getD, List.getElem?_append_right (Nat.le_refl _)]; simp
   rw [Nat.add_sub_cancel, e1, e2] at hs
   rcases List.mem_append.1 ha with ha | ha
   ·exact ht.trans a y b ((List.pairwise_append.1 hA.1).2.2 a ha y (by simp)) hs
   ·rw [List.mem_singleton.1 ha]; exact hs
 ·exact hA.2.2 a ha b hb
theorem std_one {α : Type} {lt : α → α → Bool} {l r : List α} (hl : Std lt l) (hr : Std lt r) (hp : l.Perm r) (ha : ∀ a b, a ∈ l → b ∈ r → lt b a = false → lt a b = false → a = b) : l = r :=
 List.Perm.eq_of_pairwise ha hl hr hp
theorem str_inj {s t : ByteArray} (e : s.toList = t.toList) : s = t := by
 have h := str_beq s t
 rw [e, beq_self_eq_true] at h
 exact of_decide_eq_true h.symm
def ltB (a b : ByteArray) : Bool := Op.bytesLess a.toList b.toList
theorem less_asym : ∀ a b : List UInt8, Op.bytesLess a b = true → Op.bytesLess b a = false
 | _, [], h => by simp [Op.bytesLess] at h
 | [], _ :: _, _ => rfl
 | a :: x, b :: y, h => by
  have ih := less_asym x y
  simp only [Op.bytesLess, Bool.or_eq_true, Bool.and_eq_true, beq_iff_eq, decide_eq_true_eq, Bool.or_eq_false_iff, Bool.and_eq_false_iff, decide_eq_false_iff_not, beq_eq_false_iff_ne] at h ⊢
  rcases h with h | ⟨rfl, h⟩
  ·exact ⟨UInt8.not_lt.2 (UInt8.le_of_lt h), .inl (fun e => by subst e; exact UInt8.lt_irrefl _ h)⟩
  ·exact ⟨UInt8.lt_irrefl _, .inr (ih h)⟩
theorem less_eq : ∀ a b : List UInt8, Op.bytesLess a b = false → Op.bytesLess b a = false → a = b
 | [], [], _, _ => rfl
 | _ :: _, [], _, h => by simp [Op.bytesLess] at h
 | [], _ :: _, h, _ => by simp [Op.bytesLess] at h
 | a :: x, b :: y, h, k => by
  have ih := less_eq x y
  simp only [Op.bytesLess, Bool.or_eq_false_iff, Bool.and_eq_false_iff, decide_eq_false_iff_not, beq_eq_false_iff_ne] at h k
  have e : a = b := UInt8.le_antisymm (UInt8.not_lt.1 k.1) (UInt8.not_lt.1 h.1)
  subst e
  rcases h.2 with h2 | h2
  ·exact absurd rfl h2
  ·rcases k.2 with k2 | k2
   ·exact absurd rfl k2
   ·rw [ih h2 k2]
theorem less_trans : ∀ a b c : List UInt8, Op.bytesLess b a = false → Op.bytesLess c b = false → Op.bytesLess c a = false
 | [], _, _, _, _ => by simp [Op.bytesLess]
 | _ :: _, [], _, h, _ => by simp [Op.bytesLess] at h
 | _ :: _, _ :: _, [], _, h => by simp [Op.bytesLess] at h
 | a :: x, b :: y, c :: z, h, k => by
  have ih := less_trans x y z
  simp only [Op.bytesLess, Bool.or_eq_false_iff, Bool.and_eq_false_iff, decide_eq_false_iff_not, beq_eq_false_iff_ne] at h k ⊢
  have h1 := UInt8.not_lt.1 h.1
  have k1 := UInt8.not_lt.1 k.1
  refine ⟨UInt8.not_lt.2 (UInt8.le_trans h1 k1), ?_⟩
  by_cases e : c = a
  ·subst e
   have e2 : b = c := UInt8.le_antisymm k1 h1
   subst e2
   refine .inr (ih ?_ ?_)
   ·rcases h.2 with h2 | h2
    ·exact absurd rfl h2
    ·exact h2
   ·rcases k.2 with h2 | h2
    ·exact absurd rfl h2
    ·exact h2
  ·exact .inl e
theorem tot_B : Tot ltB := ⟨fun _ _ => less_asym _ _, fun _ _ _ => less_trans _ _ _⟩
theorem ltB_eq {a b : ByteArray} (h : ltB a b = false) (k : ltB b a = false) : a = b := str_inj (less_eq _ _ h k)
def ltE (a b : ByteArray × ByteArray) : Bool := ltB a.1 b.1
theorem tot_E : Tot ltE := ⟨fun _ _ => less_asym _ _, fun _ _ _ => less_trans _ _ _⟩
theorem cmp_less : ∀ a b : List UInt8, (Lib.compareBytes a b < 0 ↔ Op.bytesLess a b = true) ∧ -1 ≤ Lib.compareBytes a b ∧ Lib.compareBytes a b ≤ 1
 | [], [] => by simp [Lib.compareBytes, Op.bytesLess]
 | _ :: _, [] => by simp [Lib.compareBytes, Op.bytesLess]
 | [], _ :: _ => by simp [Lib.compareBytes, Op.bytesLess]
 | a :: x, b :: y => by
  have ih := cmp_less x y
  unfold Lib.compareBytes Op.bytesLess
  by_cases h1 : a < b
  ·simp [h1]
  ·by_cases h2 : b < a
   ·have : a ≠ b := fun e => by subst e; exact h1 h2
    simp [h1, h2, this]
   ·have e : a = b := UInt8.le_antisymm (UInt8.not_lt.1 h2) (UInt8.not_lt.1 h1)
    subst e
    simpa [h1] using ih
end Go.Proofs.YtikimcbalkhooaaGreat
namespace Go.Proofs.YtikimcbalkhooaaGreat
open Go.RowKit Go.PlainAid
open Dk (En keysOf)
theorem isNaN_no (s : ByteArray) (w : World) : Calls Tryz.prog 225 #[.string s] w fun e w' => e = .returned (.bool false) ∧ w' = w := by
 go_enter Tryz.func225, Tryz.ntmps225
 go_wp2
 go_ret
 exact ⟨rfl, rfl⟩
theorem Less_any (s t : ByteArray) (w : World) : Calls Tryz.prog 180 #[.string s, .string t] w fun e w' => e = .returned (.bool (ltB s t)) ∧ w' = w := by
 have HN := isNaN_no s
 have hq : Op.bytesLess s.toList t.toList = ltB s t := rfl
 generalize ltB s t = b at hq
 go_enter Tryz.func180, Tryz.ntmps180
 go_wp2_with fail
 refine (HN _).mono ?_
 rintro e w ⟨rfl, rfl⟩
 go_wp2
 go_ret
 exact ⟨rfl, rfl⟩
theorem OwnS.cells {w : World} {B : Nat} {a : Option Addr} {n c : Nat} {l : List ByteArray} (h : OwnS w B a n c l) (h0 : 0 < n) : ∃ g, a = some ⟨g, 0, none⟩ ∧ B ≤ g ∧ ∀ j, j < n → w.cell? ⟨g, j, none⟩ = some (.string (l.getD j ByteArray.empty)) ∧ w.frozen? ⟨g, j, none⟩ = false := by
 obtain ⟨g, hg, hB, -, -, -⟩ := h.set 0 h0 ByteArray.empty
 refine ⟨g, hg, hB, fun j hj => ?_⟩
 obtain ⟨g', hg', -, -, hf, -⟩ := h.set j hj ByteArray.empty
 obtain ⟨b, off, e, hc⟩ := h.rd.cell j hj
 obtain ⟨g2, h2, h3⟩ := Dk.OwnR.at (h : Dk.OwnR w B 9 1 a n c _) (by omega)
 rw [hg] at hg' h2
 obtain rfl : g = g' := by injection hg' with e1; injection e1
 obtain rfl : g = g2 := by injection h2 with e1; injection e1
 refine ⟨h3 j _ ?_, hf⟩
 rw [List.getElem?_map, List.getD_eq_getElem?_getD, List.getElem?_eq_getElem (by have := h.len; omega)]; rfl
set_option maxRecDepth 100000 in
set_option maxHeartbeats 4000000 in
theorem insS_any (B : Nat) (a : Option Addr) (n c : Nat) (l : List ByteArray) (w : World) (h : OwnS w B a n c l) (hn : n ≤ 12) (hB : B ≤ w.heap.size) :
  Calls Tryz.prog 174 #[.slice a n c, .int .i64 0, .int .i64 n] w fun e w' => e = .returned (.tuple #[]) ∧ Below B w w' ∧ ∃ r, OwnS w' B a n c r ∧ r.Perm l ∧ Std ltB r := by
 have HO : Hid (OwnS w B a n c l) := h
 have HL : Hid (l.length = n) := h.len
 clear h
 go_enter Tryz.func174, Tryz.ntmps174
 go_wp2
 go_loopg [6] n (fun g iv wr => ∃ (i : Nat) (r : List ByteArray), i + g = n + 1 ∧ 1 ≤ i ∧ iv = .int .i64 i ∧ Hid (OwnS wr B a n c r) ∧ Hid (Outr ltB l i r) ∧ Hid (Below B w wr))
 case atStart => exact ⟨1, l, by omega, by omega, by go_num, HO, Outr.start l, Below.refl _ _⟩
 case round =>
  obtain ⟨i, r, hi, hi1, rfl, HR, HT, HB⟩ := hrel
  by_cases h8 : (i : Int) < n
  ·have HI : Hid (Insr ltB l i i r) := HT.out.inner (by rw [HR.out.len]; omega)
   obtain ⟨g, hg, hBg, -⟩ := HR.out.cells (by omega)
   have HG : Hid (a = some ⟨g, 0, none⟩ ∧ B ≤ g) := ⟨hg, hBg⟩
   obtain ⟨wb, hwb⟩ : ∃ wb, wb = wr := ⟨_, rfl⟩
   subst hwb
   obtain ⟨gq, hgq⟩ : ∃ gq, gq = gk := ⟨_, rfl⟩
   subst hgq
   clear hg hBg
   go_wp2
   go_loopg [7] i (fun g jv wr => ∃ (r : List ByteArray), jv = .int .i64 g ∧ g ≤ i ∧ Hid (OwnS wr B a n c r) ∧ Hid (Insr ltB l i g r) ∧ Hid (Below B w wr))
   case atStart => exact ⟨r, rfl, Nat.le_refl _, HR, HI, HB⟩
   case round =>
    obtain ⟨r2, rfl, hji, HR2, HI2, HB2⟩ := hrel
    have hlen : r2.length = n := HR2.out.len
    obtain ⟨g', hg', -, hcw⟩ := HR2.out.cells (by omega)
    obtain rfl : g = g' := by have h1 := HG.out.1; rw [hg'] at h1; injection h1 with e1; injection e1 with e2; exact e2.symm
    have hstop : gk = 0 ∨ ltB (r2.getD gk ByteArray.empty) (r2.getD (gk - 1) ByteArray.empty) = false → Hid (Outr ltB l (i + 1) r2) := fun hs => HI2.out.stop tot_B ByteArray.empty hs
    have HStop : Hid _ := hstop
    clear hstop
    by_cases hj0 : gk = 0
    ·subst hj0
     have HO2 := HStop.out (.inl rfl)
     have HBd : Hid (∀ q, Below B w (wr.drewN q)) := fun q => HB2.out.trans ((below_drewN wr q).mono (Nat.le_trans hB HB2.out.size))
     have HRd : Hid (∀ q, OwnS (wr.drewN q) B a n c r2) := fun q => HR2.out.keep (below_drewN wr q)
     clear hcw hg'
     go_upto_region 4 with fail
     go_quiet (fail)
     go_wp2
     go_roundg (gq - 1)
     case measure => omega
     case rel => exact ⟨i + 1, r2, by omega, by omega, by go_num, HRd.out _, HO2, HBd.out _⟩
    ·obtain ⟨p, rfl⟩ : ∃ p, gk = p + 1 := ⟨gk - 1, by omega⟩
     obtain ⟨c1, f1⟩ := hcw (p + 1) (by omega)
     obtain ⟨c2, f2⟩ := hcw p (by omega)
     have HSw : Hid (ltB (r2.getD (p + 1) ByteArray.empty) (r2.getD p ByteArray.empty) = true → Insr ltB l i p ((r2.set (p + 1) (r2.getD p ByteArray.empty)).set p (r2.getD (p + 1) ByteArray.empty))) := fun hl => HI2.out.swap ByteArray.empty hl
     have HStop2 : Hid (ltB (r2.getD (p + 1) ByteArray.empty) (r2.getD p ByteArray.empty) = false → Outr ltB l (i + 1) r2) := fun hl => (HStop.out (.inr (by rw [Nat.add_sub_cancel]; exact hl))).out
     have hpos : (0 : Int) < (p : Int) + 1 := by omega
     have hp12 : p ≤ 12 := by omega
     have hw1 : IntKind.i64.wrap ((p : Int) + 1 - 1) = (p : Int) := by rw [IntKind.wrap_i64]; omega
     have hw2 : IntKind.i64.wrap (p : Int) = (p : Int) := by rw [IntKind.wrap_i64]; omega
     have hpn : p + 1 < n := by omega
     have HRs : Hid (∀ q (X Y : ByteArray), OwnS (((wr.drewN q).setCell ⟨g, p + 1, none⟩ (.string Y)).setCell ⟨g, p, none⟩ (.string X)) B (some ⟨g, 0, none⟩) n c ((r2.set (p + 1) Y).set p X) ∧ Below B w (((wr.drewN q).setCell ⟨g, p + 1, none⟩ (.string Y)).setCell ⟨g, p, none⟩ (.string X))) := fun q X Y => by
      have h1 := HR2.out.keep (below_drewN wr q)
      rw [hg'] at h1
      obtain ⟨g1, e1, -, -, -, h2⟩ := h1.set (p + 1) (by omega) Y
      obtain rfl : g = g1 := by injection e1 with e1; injection e1
      obtain ⟨g2, e2, -, -, -, h3⟩ := h2.set p (by omega) X
      obtain rfl : g = g2 := by injection e2 with e1; injection e1
      refine ⟨h3, (HB2.out.trans ((below_drewN wr q).mono (Nat.le_trans hB HB2.out.size))).trans ?_⟩
      refine ((Stay.set (w := wr.drewN q) (q := g) (o := p + 1) (v := .string Y)).trans Stay.set (fun _ h => .inl h)).below (fun j hj => ?_) (Nat.le_trans hB (HB2.out.trans ((below_drewN wr q).mono (Nat.le_trans hB HB2.out.size))).size)
      simp only [List.mem_singleton] at hj
      rw [hj]; exact HG.out.2
     have HBd : Hid (∀ q, Below B w (wr.drewN q)) := fun q => HB2.out.trans ((below_drewN wr q).mono (Nat.le_trans hB HB2.out.size))
     have HRd : Hid (∀ q, OwnS (wr.drewN q) B a n c r2) := fun q => HR2.out.keep (below_drewN wr q)
     subst hg'
     generalize r2.getD (p + 1) ByteArray.empty = X at c1 HSw HStop2
     generalize r2.getD p ByteArray.empty = Y at c2 HSw HStop2
     have HLs := fun w => Less_any X Y w
     clear HStop hcw hlen
     cases hb : ltB X Y
     ·rw [hb] at HLs HStop2
      have HO2 : Hid (Outr ltB l (i + 1) r2) := HStop2.out rfl
      clear hb HSw
      go_upto_region 4 with fail
      go_quiet ((go_at_call 180; refine Calls.quiet_of_same (HLs _)))
      go_wp2
      go_roundg (gq - 1)
      case measure => omega
      case rel => exact ⟨i + 1, r2, by omega, by omega, by go_num, HRd.out _, HO2, HBd.out _⟩
     ·rw [hb] at HLs HSw
      have HI3 : Hid (Insr ltB l i p ((r2.set (p + 1) Y).set p X)) := HSw.out rfl
      clear hb HStop2
      go_upto_region 4 with fail
      go_quiet ((go_at_call 180; refine Calls.quiet_of_same (HLs _)))
      go_wp2_with fail
      go_region
      all_goals
       go_wp2
       go_roundg p
       case measure => omega
       case rel => exact ⟨(r2.set (p + 1) Y).set p X, by go_num, by omega, (HRs.out _ X Y).1, HI3, (HRs.out _ X Y).2⟩
  ·have HE : Hid (r.Perm l ∧ Std ltB r) := HT.out.done (by rw [HR.out.len]; omega)
   go_wp2
   go_end0
   exact ⟨rfl, HB.out, r, HR.out, HE.out⟩
set_option maxRecDepth 100000 in
theorem bLen64_any (X : Int) (w : World) (h0 : 0 ≤ X) (hn : X ≤ 12) : Calls Tryz.prog 172 #[.int .u64 X] w fun e w' => w' = w ∧ ∃ z, e = .returned (.int .i64 z) := by
 go_enter Tryz.func172, Tryz.ntmps172
 go_wp2
 go_ret
 exact ⟨rfl, _, rfl⟩
theorem bLen_any (n : Nat) (w : World) (hn : n ≤ 12) : Calls Tryz.prog 123 #[.int .u64 n] w fun e w' => w' = w ∧ ∃ z, e = .returned (.int .i64 z) := by
 go_enter Tryz.func123, Tryz.ntmps123
 go_wp2_with fail
 refine (bLen64_any n w (by omega) (by omega)).mono ?_
 rintro e w ⟨rfl, z, rfl⟩
 go_wp2
 go_ret
 exact ⟨rfl, z, rfl⟩
set_option maxRecDepth 100000 in
theorem pdqS_any (B : Nat) (a : Option Addr) (n c : Nat) (l : List ByteArray) (z : Int) (w : World) (h : OwnS w B a n c l) (hn : n ≤ 12) (hB : B ≤ w.heap.size) :
  Calls Tryz.prog 125 #[.slice a n c, .int .i64 0, .int .i64 n, .int .i64 z] w fun e w' => e = .returned (.tuple #[]) ∧ Below B w w' ∧ ∃ r, OwnS w' B a n c r ∧ r.Perm l ∧ Std ltB r := by
 have HI := insS_any B a n c l w h hn hB
 clear h
 have h12 : (n : Int) ≤ 12 := by omega
 go_enter Tryz.func125, Tryz.ntmps125
 go_wp2
 go_loopg [1, 2] 0 (fun g av bv wr => w = wr ∧ av = .int .i64 0 ∧ bv = .int .i64 n)
 case atStart => exact ⟨rfl, rfl, rfl⟩
 case round =>
  obtain ⟨rfl, rfl, rfl⟩ := hrel
  go_wp2_with fail
  refine HI.mono ?_
  rintro e w1 ⟨rfl, hb, r, h1, h2, h3⟩
  have HR : Hid (Below B w w1 ∧ ∃ r, OwnS w1 B a n c r ∧ r.Perm l ∧ Std ltB r) := ⟨hb, r, h1, h2, h3⟩
  clear hb h1 h2 h3
  go_wp2
  (try simp only [Exit.inBlock, Exit.then])
  refine bodyPost_ret (results_none rfl _ _ _) rfl ?_
  exact ⟨rfl, HR.out⟩
theorem Sort_any (B : Nat) (a : Option Addr) (n c : Nat) (l : List ByteArray) (w : World) (h : OwnS w B a n c l) (hn : n ≤ 12) (hB : B ≤ w.heap.size) :
  Calls Tryz.prog 83 #[.slice a n c] w fun e w' => e = .returned (.tuple #[]) ∧ Below B w w' ∧ ∃ r, OwnS w' B a n c r ∧ r.Perm l ∧ Std ltB r := by
 have HP := fun z => pdqS_any B a n c l z w h hn hB
 have HL := bLen_any n w hn
 clear h
 go_enter Tryz.func83, Tryz.ntmps83
 go_wp2_with fail
 refine HL.mono ?_
 rintro e w ⟨rfl, z, rfl⟩
 have HPz := HP z
 go_wp2_with fail
 refine HPz.mono ?_
 rintro e w1 ⟨rfl, hb, r, h1, h2, h3⟩
 have HR : Hid (Below B w w1 ∧ ∃ r, OwnS w1 B a n c r ∧ r.Perm l ∧ Std ltB r) := ⟨hb, r, h1, h2, h3⟩
 clear hb h1 h2 h3
 go_wp2
 go_end0
 exact ⟨rfl, HR.out⟩
theorem sortedMembers_any (B m x E T : Nat) (l : List ByteArray) (pk : Bool) (F : List Nat) (w : World) (h : Zs.Ss w B m x E T l pk F) (hn : l.length ≤ 12) :
  Calls Tryz.prog 46 #[ptr m] w fun e w' => Below w.heap.size w w' ∧ ∃ a n c r, e = .returned (.slice a n c) ∧ OwnS w' w.heap.size a n c r ∧ r.Perm l ∧ Std ltB r := by
 have HA := Zs.AllS B m x E T l pk F w h
 have HN : Hid (l.length ≤ 12) := hn
 clear h
 go_enter Tryz.func46, Tryz.ntmps46
 go_wp2_with fail
 refine HA.mono ?_
 rintro e w1 ⟨hb, a, n, c, r, rfl, hO, hp⟩
 have HB1 : Hid (Below w.heap.size w w1) := hb
 have HP1 : Hid (r.Perm l) := hp
 have HS := Sort_any w.heap.size a n c r w1 hO (by rw [← hO.len, hp.length_eq]; exact hn) hb.size
 clear hb hO hp HA
 go_wp2_with fail
 refine HS.mono ?_
 rintro e w2 ⟨rfl, hb, r2, h1, h2, h3⟩
 have HR : Hid (Below w.heap.size w w2 ∧ OwnS w2 w.heap.size a n c r2 ∧ r2.Perm l ∧ Std ltB r2) := ⟨HB1.out.trans hb, h1, h2.trans HP1.out, h3⟩
 clear hb h1 h2 h3
 go_wp2
 go_ret
 exact ⟨HR.out.1, a, n, c, r2, rfl, HR.out.2⟩
end Go.Proofs.YtikimcbalkhooaaGreat
namespace Go.Proofs.YtikimcbalkhooaaGreat
open Go.RowKit Go.PlainAid
open Dk (En keysOf ecells)
set_option maxRecDepth 100000 in
theorem CompareString_any (s t : ByteArray) (w : World) : Calls Tryz.prog 124 #[.string s, .string t] w fun e w' => e = .returned (.int .i64 (Lib.compareBytes s.data.toList t.data.toList)) ∧ w' = w := by
 go_enter Tryz.func124, Tryz.ntmps124
 go_wp2
 rw [run_callFunc_extern Tryz.func173 (by kernel_rfl) (by kernel_rfl) (by kernel_rfl) (e := Extern.BytealgCompare.compare) (by kernel_rfl), Lib.run_compareString]
 simp only [Result.andThen]
 rw [Oper.upon_value]
 go_wp2
 go_ret
 exact ⟨rfl, rfl⟩
theorem Compare_any (s t : ByteArray) (w : World) : Calls Tryz.prog 82 #[.string s, .string t] w fun e w' => w' = w ∧ ∃ z : Int, e = .returned (.int .i64 z) ∧ decide (z < 0) = ltB s t := by
 have hq : decide (Lib.compareBytes s.data.toList t.data.toList < 0) = ltB s t := by
  unfold ltB
  rw [ByteArray.toList_eq, ByteArray.toList_eq]
  have := (cmp_less s.data.toList t.data.toList).1
  cases hb : Op.bytesLess s.data.toList t.data.toList
  ·rw [hb] at this; simp at this; simp; omega
  ·rw [hb] at this; simp at this; simp; omega
 have HQ : Hid _ := hq
 have HC := CompareString_any s t w
 generalize Lib.compareBytes s.data.toList t.data.toList = z at HC HQ
 clear hq
 go_enter Tryz.func82, Tryz.ntmps82
 go_wp2_with fail
 refine HC.mono ?_
 rintro e w ⟨rfl, rfl⟩
 go_wp2
 go_ret
 exact ⟨rfl, z, rfl, HQ.out⟩
theorem by_field (x1 x2 y1 y2 : ByteArray) (w : World) : Calls Tryz.prog 81 #[.agg #[.string x1, .string x2], .agg #[.string y1, .string y2]] w fun e w' => Below w.heap.size w w' ∧ ∃ z : Int, e = .returned (.int .i64 z) ∧ decide (z < 0) = ltB x1 y1 := by
 obtain ⟨w0, hw0⟩ : ∃ w0, w.alloc (.cells #[.string x1, .string x2] 62) = w0 := ⟨_, rfl⟩
 obtain ⟨w1, hw1⟩ : ∃ w1, w0.alloc (.cells #[.string y1, .string y2] 62) = w1 := ⟨_, rfl⟩
 have hb0 : Below w.heap.size w w0 := by rw [← hw0]; exact alloc_below w _
 have hb1 : Below w0.heap.size w0 w1 := by rw [← hw1]; exact alloc_below w0 _
 have hl0 : w.heap.size < w0.heap.size := by rw [← hw0]; exact alloc_lt w _ _
 have HB : Hid (Below w.heap.size w w1) := hb0.trans (hb1.mono hb0.size)
 have hc0 : w1.cell? ⟨w.heap.size, 0, none⟩ = some (.string x1) := by rw [hb1.cell (p := ⟨w.heap.size, 0, none⟩) hl0, ← hw0]; exact cell_new w _ _ 0 _ rfl
 have hc1 : w1.cell? ⟨w0.heap.size, 0, none⟩ = some (.string y1) := by rw [← hw1]; exact cell_new w0 _ _ 0 _ rfl
 have HC := Compare_any x1 y1 w1
 clear hb0 hb1 hl0
 go_enter Tryz.func81, Tryz.ntmps81
 go_wp2_with fail
 refine HC.mono ?_
 rintro e w1 ⟨rfl, z, rfl, hz⟩
 have HZ : Hid (decide (z < 0) = ltB x1 y1) := hz
 clear hz
 go_wp2
 go_ret
 exact ⟨HB.out, z, rfl, HZ.out⟩
theorem ecells_cons (e : En) (es : List En) : ecells (e :: es) = .string e.1 :: .string e.2 :: ecells es := rfl
theorem ecells_set2 : ∀ (es : List En) (j : Nat) (e : En), ((ecells es).set (j * 2) (.string e.1)).set (j * 2 + 1) (.string e.2) = ecells (es.set j e)
 | [], j, e => by simp [ecells]
 | x :: es, 0, e => by rw [List.set_cons_zero, ecells_cons, ecells_cons]; rfl
 | x :: es, j + 1, e => by
  rw [List.set_cons_succ, ecells_cons, ecells_cons, ← ecells_set2 es j e, show (j + 1) * 2 = j * 2 + 1 + 1 by omega]
  rfl
theorem OwnQ.cells {w : World} {B : Nat} {a : Option Addr} {n c : Nat} {l : List En} (h : OwnQ w B a n c l) (h0 : 0 < n) : ∃ g, a = some ⟨g, 0, none⟩ ∧ B ≤ g ∧ (∀ j, j < n → w.cell? ⟨g, j * 2, none⟩ = some (.string (l.getD j (⟨#[]⟩, ⟨#[]⟩)).1) ∧ w.cell? ⟨g, j * 2 + 1, none⟩ = some (.string (l.getD j (⟨#[]⟩, ⟨#[]⟩)).2)) ∧ ∀ o, w.frozen? ⟨g, o, none⟩ = false := by
 obtain ⟨g, hg, -⟩ := OwnQ.cell h (j := 0) h0
 refine ⟨g, hg, (Dk.OwnR.lt h (by rw [hg]; rfl)).1, fun j hj => ?_, fun o => ?_⟩
 ·obtain ⟨g', hg', h1, h2⟩ := OwnQ.cell h (j := j) hj
  rw [hg] at hg'
  obtain rfl : g = g' := by injection hg' with e1; injection e1
  exact ⟨h1, h2⟩
 ·obtain ⟨-, -, cur, h1⟩ := Dk.OwnR.lt h (k := g) (by rw [hg]; rfl)
  simp [World.frozen?, h1]
theorem OwnQ.set2 {w : World} {B g n c : Nat} {l : List En} (h : OwnQ w B (some ⟨g, 0, none⟩) n c l) (j : Nat) (e : En) : OwnQ ((w.setCell ⟨g, j * 2, none⟩ (.string e.1)).setCell ⟨g, j * 2 + 1, none⟩ (.string e.2)) B (some ⟨g, 0, none⟩) n c (l.set j e) := by
 rcases h.2 with ⟨h2, h3⟩ | ⟨g', c', cur, h1, h3, h4, h5, h6, h7, h8⟩
 ·cases h2
 ·cases h1
  refine ⟨?_, .inr ⟨g, c, (cur.setIfInBounds (j * 2) (.string e.1)).setIfInBounds (j * 2 + 1) (.string e.2), rfl, h3, Dk.heap_set (Dk.heap_set h4 _) _, h5, h6, by simpa using h7, ?_⟩⟩
  ·rw [Dk.ecells_len, List.length_set, ← Dk.ecells_len]; exact h.1
  ·rw [Array.toList_setIfInBounds, Array.toList_setIfInBounds, List.take_set, List.take_set, h8, ecells_set2]
set_option maxRecDepth 100000 in
set_option maxHeartbeats 4000000 in
theorem insE_any (B : Nat) (a : Option Addr) (n c : Nat) (l : List En) (w : World) (h : OwnQ w B a n c l) (hn : n ≤ 12) (hB : B ≤ w.heap.size) :
  Calls Tryz.prog 163 #[.slice a n c, .int .i64 0, .int .i64 n, .func (.func 81) #[] #[]] w fun e w' => e = .returned (.tuple #[]) ∧ Below B w w' ∧ ∃ r, OwnQ w' B a n c r ∧ r.Perm l ∧ Std ltE r := by
 have HO : Hid (OwnQ w B a n c l) := h
 have HL : Hid (l.length = n) := OwnQ.len h
 clear h
 go_enter Tryz.func163, Tryz.ntmps163
 go_wp2
 go_loopg [8] n (fun g iv wr => ∃ (i : Nat) (r : List En), i + g = n + 1 ∧ 1 ≤ i ∧ iv = .int .i64 i ∧ Hid (OwnQ wr B a n c r) ∧ Hid (Outr ltE l i r) ∧ Hid (Below B w wr))
 case atStart => exact ⟨1, l, by omega, by omega, by go_num, HO, Outr.start l, Below.refl _ _⟩
 case round =>
  obtain ⟨i, r, hi, hi1, rfl, HR, HT, HB⟩ := hrel
  by_cases h8 : (i : Int) < n
  ·have HI : Hid (Insr ltE l i i r) := HT.out.inner (by rw [OwnQ.len HR.out]; omega)
   obtain ⟨g, hg, hBg, -, -⟩ := OwnQ.cells HR.out (by omega)
   have HG : Hid (a = some ⟨g, 0, none⟩ ∧ B ≤ g) := ⟨hg, hBg⟩
   obtain ⟨wb, hwb⟩ : ∃ wb, wb = wr := ⟨_, rfl⟩
   subst hwb
   obtain ⟨gq, hgq⟩ : ∃ gq, gq = gk := ⟨_, rfl⟩
   subst hgq
   clear hg hBg
   go_wp2
   go_loopg [9] i (fun g jv wr => ∃ (r : List En), jv = .int .i64 g ∧ g ≤ i ∧ Hid (OwnQ wr B a n c r) ∧ Hid (Insr ltE l i g r) ∧ Hid (Below B w wr))
   case atStart => exact ⟨r, rfl, Nat.le_refl _, HR, HI, HB⟩
   case round =>
    obtain ⟨r2, rfl, hji, HR2, HI2, HB2⟩ := hrel
    have hlen : r2.length = n := OwnQ.len HR2.out
    obtain ⟨g', hg', -, hcw, hfw⟩ := OwnQ.cells HR2.out (by omega)
    obtain rfl : g = g' := by have h1 := HG.out.1; rw [hg'] at h1; injection h1 with e1; injection e1 with e2; exact e2.symm
    have hstop : gk = 0 ∨ ltE (r2.getD gk (⟨#[]⟩, ⟨#[]⟩)) (r2.getD (gk - 1) (⟨#[]⟩, ⟨#[]⟩)) = false → Hid (Outr ltE l (i + 1) r2) := fun hs => HI2.out.stop tot_E (⟨#[]⟩, ⟨#[]⟩) hs
    have HStop : Hid _ := hstop
    clear hstop
    by_cases hj0 : gk = 0
    ·subst hj0
     have HO2 := HStop.out (.inl rfl)
     have HBd : Hid (∀ q, Below B w (wr.drewN q)) := fun q => HB2.out.trans ((below_drewN wr q).mono (Nat.le_trans hB HB2.out.size))
     have HRd : Hid (∀ q, OwnQ (wr.drewN q) B a n c r2) := fun q => Dk.OwnR.keep HR2.out (below_drewN wr q)
     clear hcw hg'
     go_upto_region 4 with fail
     go_quiet (fail)
     go_wp2
     go_roundg (gq - 1)
     case measure => omega
     case rel => exact ⟨i + 1, r2, by omega, by omega, by go_num, HRd.out _, HO2, HBd.out _⟩
    ·obtain ⟨p, rfl⟩ : ∃ p, gk = p + 1 := ⟨gk - 1, by omega⟩
     obtain ⟨c1, f1⟩ := hcw (p + 1) (by omega)
     obtain ⟨c2, f2⟩ := hcw p (by omega)
     have HSw : Hid (ltE (r2.getD (p + 1) (⟨#[]⟩, ⟨#[]⟩)) (r2.getD p (⟨#[]⟩, ⟨#[]⟩)) = true → Insr ltE l i p ((r2.set (p + 1) (r2.getD p (⟨#[]⟩, ⟨#[]⟩))).set p (r2.getD (p + 1) (⟨#[]⟩, ⟨#[]⟩)))) := fun hl => HI2.out.swap (⟨#[]⟩, ⟨#[]⟩) hl
     have HStop2 : Hid (ltE (r2.getD (p + 1) (⟨#[]⟩, ⟨#[]⟩)) (r2.getD p (⟨#[]⟩, ⟨#[]⟩)) = false → Outr ltE l (i + 1) r2) := fun hl => (HStop.out (.inr (by rw [Nat.add_sub_cancel]; exact hl))).out
     have hpos : (0 : Int) < (p : Int) + 1 := by omega
     have hp12 : p ≤ 12 := by omega
     have hw1 : IntKind.i64.wrap ((p : Int) + 1 - 1) = (p : Int) := by rw [IntKind.wrap_i64]; omega
     have hw2 : IntKind.i64.wrap (p : Int) = (p : Int) := by rw [IntKind.wrap_i64]; omega
     have hpn : p + 1 < n := by omega
     have hpn0 : p < n := by omega
     have hpi : (p : Int) < n := by omega
     have hpi1 : (p : Int) + 1 < n := by omega
     have hpi2 : (0 : Int) ≤ p := by omega
     have hpi3 : (0 : Int) ≤ (p : Int) + 1 := by omega
     have HBB : Hid (B ≤ wr.heap.size) := Nat.le_trans hB HB2.out.size
     have HRs : Hid (∀ wx, Below wr.heap.size wr wx → ∀ (X Y : En), OwnQ ((((wx.setCell ⟨g, (p + 1) * 2, none⟩ (.string Y.1)).setCell ⟨g, (p + 1) * 2 + 1, none⟩ (.string Y.2)).setCell ⟨g, p * 2, none⟩ (.string X.1)).setCell ⟨g, p * 2 + 1, none⟩ (.string X.2)) B (some ⟨g, 0, none⟩) n c ((r2.set (p + 1) Y).set p X) ∧ Below B w ((((wx.setCell ⟨g, (p + 1) * 2, none⟩ (.string Y.1)).setCell ⟨g, (p + 1) * 2 + 1, none⟩ (.string Y.2)).setCell ⟨g, p * 2, none⟩ (.string X.1)).setCell ⟨g, p * 2 + 1, none⟩ (.string X.2))) := fun wx hx X Y => by
      have h1 : OwnQ wx B a n c r2 := Dk.OwnR.keep HR2.out hx
      rw [hg'] at h1
      refine ⟨(h1.set2 (p + 1) Y).set2 p X, (HB2.out.trans (hx.mono HBB.out)).trans ?_⟩
      refine (((Stay.set.trans Stay.set (fun _ h => .inl h)).trans Stay.set (fun _ h => .inl h)).trans Stay.set (fun _ h => .inl h) : Stay wx _ [g]).below (fun j hj => ?_) (Nat.le_trans HBB.out hx.size)
      simp only [List.mem_singleton] at hj
      rw [hj]; exact HG.out.2
     have HBd : Hid (∀ wx, Below wr.heap.size wr wx → Below B w wx) := fun wx hx => HB2.out.trans (hx.mono HBB.out)
     have HRd : Hid (∀ wx, Below wr.heap.size wr wx → OwnQ wx B a n c r2) := fun wx hx => Dk.OwnR.keep HR2.out hx
     have HFz : Hid (∀ wx, Below wr.heap.size wr wx → ∀ o, wx.frozen? ⟨g, o, none⟩ = false) := fun wx hx o => by
      obtain ⟨g2, e2, -, -, hf⟩ := OwnQ.cells (Dk.OwnR.keep HR2.out hx) (by omega)
      obtain rfl : g = g2 := by rw [hg'] at e2; injection e2 with e1; injection e1
      exact hf o
     have HCs : Hid (∀ wx, Below wr.heap.size wr wx → wx.cell? ⟨g, (p + 1) * 2, none⟩ = some (.string (r2.getD (p + 1) (⟨#[]⟩, ⟨#[]⟩)).1) ∧ wx.cell? ⟨g, (p + 1) * 2 + 1, none⟩ = some (.string (r2.getD (p + 1) (⟨#[]⟩, ⟨#[]⟩)).2) ∧ wx.cell? ⟨g, p * 2, none⟩ = some (.string (r2.getD p (⟨#[]⟩, ⟨#[]⟩)).1) ∧ wx.cell? ⟨g, p * 2 + 1, none⟩ = some (.string (r2.getD p (⟨#[]⟩, ⟨#[]⟩)).2)) := fun wx hx => by
      obtain ⟨g2, e2, -, hc, -⟩ := OwnQ.cells (Dk.OwnR.keep HR2.out hx) (by omega)
      obtain rfl : g = g2 := by rw [hg'] at e2; injection e2 with e1; injection e1
      exact ⟨(hc (p + 1) (by omega)).1, (hc (p + 1) (by omega)).2, (hc p (by omega)).1, (hc p (by omega)).2⟩
     subst hg'
     generalize r2.getD (p + 1) (⟨#[]⟩, ⟨#[]⟩) = X at c1 f1 HSw HStop2 HCs
     generalize r2.getD p (⟨#[]⟩, ⟨#[]⟩) = Y at c2 f2 HSw HStop2 HCs
     obtain ⟨X1, X2⟩ := X
     obtain ⟨Y1, Y2⟩ := Y
     simp only at HCs
     have HLs := by_field X1 X2 Y1 Y2
     have HD : Hid (Below wr.heap.size wr wr.drew) := below_drewN wr 1
     clear HStop hcw hlen c1 f1 c2 f2 hfw
     have hn24 : (p + 1) * 2 ≤ 26 := by omega
     go_upto_region 4 with fail
     go_cut [34] from 18 to 34 (fun u wx => ∃ wy, wy = wx ∧ u = .bool (ltB X1 Y1) ∧ Hid (Below wr.heap.size wr wy))
     case first =>
      go_region_held3 (fun w' => w'.cell? ⟨g, (p + 1) * 2, none⟩ = some (.string X1) ∧ w'.cell? ⟨g, (p + 1) * 2 + 1, none⟩ = some (.string X2) ∧ w'.cell? ⟨g, p * 2, none⟩ = some (.string Y1) ∧ w'.cell? ⟨g, p * 2 + 1, none⟩ = some (.string Y2)) (exact HCs.out _ HD.out) (first
       | (go_at_call 81; refine (HLs _).mono ?_; rintro e wx ⟨hb, z, rfl, hz⟩; replace HD := step_below HD hb; have HZ : Hid (decide (z < 0) = ltB X1 Y1) := hz; clear hb hz))
      all_goals
       go_wp2
       go_meet
       exact ⟨_, rfl, by rw [← HZ.out], HD⟩
     case rest =>
     obtain ⟨w3, rfl, rfl, HD3⟩ := hcut
     clear HLs HD
     cases hb : ltB X1 Y1
     ·have HO2 : Hid (Outr ltE l (i + 1) r2) := HStop2.out hb
      clear hb HSw
      go_wp2
      go_roundg (gq - 1)
      case measure => omega
      case rel => exact ⟨i + 1, r2, by omega, by omega, by go_num, HRd.out _ HD3.out, HO2, HBd.out _ HD3.out⟩
     ·have HI3 : Hid (Insr ltE l i p ((r2.set (p + 1) (Y1, Y2)).set p (X1, X2))) := HSw.out hb
      clear hb HStop2
      obtain ⟨s1, s2, s3, s4⟩ := HCs.out _ HD3.out
      have fz1 := HFz.out _ HD3.out ((p + 1) * 2)
      have fz2 := HFz.out _ HD3.out ((p + 1) * 2 + 1)
      have fz3 := HFz.out _ HD3.out (p * 2)
      have fz4 := HFz.out _ HD3.out (p * 2 + 1)
      have HRx := HRs.out _ HD3.out (X1, X2) (Y1, Y2)
      have HRy : Hid (OwnQ ((((w3.setCell ⟨g, (p + 1) * 2, none⟩ (.string Y1)).setCell ⟨g, (p + 1) * 2 + 1, none⟩ (.string Y2)).setCell ⟨g, p * 2, none⟩ (.string X1)).setCell ⟨g, p * 2 + 1, none⟩ (.string X2)).drew B (some ⟨g, 0, none⟩) n c ((r2.set (p + 1) (Y1, Y2)).set p (X1, X2)) ∧ Below B w ((((w3.setCell ⟨g, (p + 1) * 2, none⟩ (.string Y1)).setCell ⟨g, (p + 1) * 2 + 1, none⟩ (.string Y2)).setCell ⟨g, p * 2, none⟩ (.string X1)).setCell ⟨g, p * 2 + 1, none⟩ (.string X2)).drew) := ⟨Dk.OwnR.keep HRx.1 (below_drewN _ 1), HRx.2.trans ((below_drewN _ 1).mono (Nat.le_trans hB HRx.2.size))⟩
      clear HRx
      go_upto_region 6 with fail
      go_region
      all_goals
       go_wp2
       go_roundg p
       case measure => omega
       case rel => exact ⟨(r2.set (p + 1) (Y1, Y2)).set p (X1, X2), by go_num, by omega, HRy.out.1, HI3, HRy.out.2⟩
  ·have HE : Hid (r.Perm l ∧ Std ltE r) := HT.out.done (by rw [OwnQ.len HR.out]; omega)
   go_wp2
   go_end0
   exact ⟨rfl, HB.out, r, HR.out, HE.out⟩
end Go.Proofs.YtikimcbalkhooaaGreat
