/- Texts that the others stand on. -/
import Derived.Test.YtnajhjmdpaeelaaGreatDoorG23
import Derived.Lib.BitFns
namespace Go.Proofs.YtnajhjmdpaeelaaGreatDoor.Tx
open Go.RowKit Go.PlainAid
def Int64 (n : Int) : Prop := -9223372036854775808 ≤ n ∧ n < 9223372036854775808
def addO (a b : Int) : Option Int := if -9223372036854775808 ≤ a + b ∧ a + b < 9223372036854775808 then some (a + b) else none
theorem addO_some {a b : Int} (h : Int64 (a + b)) : addO a b = some (a + b) := if_pos h
theorem addO_none {a b : Int} (h : ¬ Int64 (a + b)) : addO a b = none := if_neg h
theorem Add_any (a b : Int) (w : World) (ha : Int64 a) (hb : Int64 b) :
    Calls Tryz.prog 153 #[.int .i64 a, .int .i64 b] w fun e w' => e = .returned (i64R (addO a b)) ∧ w' = w := by
  unfold Int64 at ha hb
  by_cases h : Int64 (a + b)
  · have HO : Hid (addO a b = some (a + b)) := addO_some h
    unfold Int64 at h
    by_cases hb0 : 0 ≤ b
    · go_enter Tryz.func153, Tryz.ntmps153
      go_wp2
      go_ret2
      exact ⟨by rw [HO.out]; rfl, rfl⟩
    · go_enter Tryz.func153, Tryz.ntmps153
      go_wp2
      go_ret2
      exact ⟨by rw [HO.out]; rfl, rfl⟩
  · have HO : Hid (addO a b = none) := addO_none h
    unfold Int64 at h
    by_cases hb0 : 0 ≤ b
    · have hw : wrap64 (a + b) = a + b - 18446744073709551616 := by unfold wrap64; omega
      go_enter Tryz.func153, Tryz.ntmps153
      go_wp2
      go_ret2
      exact ⟨by rw [HO.out]; rfl, rfl⟩
    · have hw : wrap64 (a + b) = a + b + 18446744073709551616 := by unfold wrap64; omega
      go_enter Tryz.func153, Tryz.ntmps153
      go_wp2
      go_ret2
      exact ⟨by rw [HO.out]; rfl, rfl⟩
def cutB (s : ByteArray) (n : Int) : ByteArray := if n < (s.size : Int) then s.extract 0 n.toNat else s
theorem size_cutB (s : ByteArray) : (cutB s 30).size ≤ 30 := by
  unfold cutB
  split
  · simp; omega
  · omega
theorem Cut_any (s : ByteArray) (n : Int) (w : World) (h0 : 0 ≤ n) :
    Calls Tryz.prog 13 #[.string s, .int .i64 n] w fun e w' => e = .returned (.string (cutB s n)) ∧ w' = w := by
  by_cases h : n < s.size
  · have HC : Hid (cutB s n = s.extract 0 n.toNat) := by show cutB s n = _; rw [cutB, if_pos h]
    go_enter Tryz.func13, Tryz.ntmps13
    go_wp2
    go_ret
    exact ⟨by rw [HC.out]; simp, rfl⟩
  · have HC : Hid (cutB s n = s) := by show cutB s n = _; rw [cutB, if_neg h]
    go_enter Tryz.func13, Tryz.ntmps13
    go_wp2
    go_ret
    exact ⟨by rw [HC.out]; rfl, rfl⟩
/-- A place, counted from the end if it is below 0. -/
def fs (n : Nat) (i : Int) : Int := if i < 0 then i + n else i
def setN (x j b : Nat) : Nat := if b = 1 then x ||| 2 ^ j else x &&& (255 - 2 ^ j)
/-- A row of bytes, with zero bytes up to n. -/
def ext (l : List UInt8) (n : Nat) : List UInt8 := l ++ List.replicate (n - l.length) 0
/-- What Incr answers. -/
def numO (s : ByteArray) : Option Int := if s.size = 0 then some 0 else parseL (lst s)
def incrR (s : ByteArray) (by_ : Int) : Value :=
  match numO s with
  | none => .tuple #[.string ⟨#[]⟩, .int .i64 0, .int .i64 5]
  | some n => match addO n by_ with
    | none => .tuple #[.string ⟨#[]⟩, .int .i64 0, .int .i64 6]
    | some m => .tuple #[.string (bs (fmtL m)), .int .i64 m, .int .i64 0]
theorem emp_size (s : ByteArray) (h : s.size = 0) : s = ⟨#[]⟩ := by
  apply ByteArray.ext
  exact Array.eq_empty_of_size_eq_zero h
theorem not_emp (t : ByteArray) (h : t.size ≠ 0) : t.toList.isEmpty = false := by
  rw [ByteArray.toList_eq]
  cases hq : t.data.toList with
  | nil => exact absurd (by rw [← len_lst, lst, hq]; rfl) h
  | cons b r => rfl
theorem number_any (s : ByteArray) (w : World) (hs : s.size ≤ maxLen) :
    Calls Tryz.prog 152 #[.string s] w fun e w' => e = .returned (i64R (numO s)) ∧ w' = w := by
  by_cases h : s.size = 0
  · rw [emp_size s h]
    go_enter Tryz.func152, Tryz.ntmps152
    go_wp2
    go_ret2
    exact ⟨rfl, rfl⟩
  · have hne := not_emp s h
    have HP := fun w => Parse_any s w hs _ rfl
    have HN : Hid (numO s = parseL (lst s)) := if_neg h
    unfold i64R at HP
    generalize parseL (lst s) = o at HP HN
    generalize ho1 : o.getD 0 = x at HP
    generalize ho2 : o.isSome = y at HP
    have HO : Hid (i64R o = .tuple #[.int .i64 x, .bool y]) := by show _ = _; unfold i64R; rw [ho1, ho2]
    clear ho1 ho2 h
    go_enter Tryz.func152, Tryz.ntmps152
    go_wp2_with fail
    refine (HP _).mono ?_
    rintro e w ⟨rfl, rfl⟩
    go_wp2
    go_ret2
    exact ⟨by rw [HN.out, HO.out]; rfl, rfl⟩
theorem numO_in {s : ByteArray} {n : Int} (h : numO s = some n) : Int64 n := by
  unfold numO at h
  split at h
  · cases h; unfold Int64; omega
  · exact (parseL_some h).2
theorem addO_in {a b m : Int} (h : addO a b = some m) : Int64 m ∧ a + b = m := by
  unfold addO at h
  split at h
  · cases h; exact ⟨by assumption, rfl⟩
  · cases h
set_option maxHeartbeats 1000000 in
theorem Incr_any (s : ByteArray) (d : Int) (w : World) (hs : s.size ≤ maxLen) (hd : Int64 d) :
    Calls Tryz.prog 105 #[.string s, .int .i64 d] w fun e w' => e = .returned (incrR s d) ∧ Below w.heap.size w w' := by
  have HN := fun w => number_any s w hs
  cases ho : numO s with
  | none =>
    have HR : Hid (incrR s d = .tuple #[.string ⟨#[]⟩, .int .i64 0, .int .i64 5]) := by show _ = _; unfold incrR; rw [ho]
    rw [ho] at HN
    dsimp only [i64R, Option.getD_none, Option.isSome_none] at HN
    clear ho
    go_enter Tryz.func105, Tryz.ntmps105
    go_wp2_with fail
    refine (HN _).mono ?_
    rintro e w ⟨rfl, rfl⟩
    go_wp2
    go_ret3
    exact ⟨by rw [HR.out]; rfl, Below.refl _ _⟩
  | some n =>
    have hn := numO_in ho
    have HA := fun w => Add_any n d w hn hd
    rw [ho] at HN
    dsimp only [i64R, Option.getD_some, Option.isSome_some] at HN
    cases ha : addO n d with
    | none =>
      have HR : Hid (incrR s d = .tuple #[.string ⟨#[]⟩, .int .i64 0, .int .i64 6]) := by show _ = _; unfold incrR; rw [ho]; simp only [ha]
      rw [ha] at HA
      dsimp only [i64R, Option.getD_none, Option.isSome_none] at HA
      clear ho ha hn
      go_enter Tryz.func105, Tryz.ntmps105
      go_wp2_with fail
      refine (HN _).mono ?_
      rintro e w ⟨rfl, rfl⟩
      go_wp2_with fail
      refine (HA _).mono ?_
      rintro e w ⟨rfl, rfl⟩
      go_wp2
      go_ret3
      exact ⟨by rw [HR.out]; rfl, Below.refl _ _⟩
    | some m =>
      obtain ⟨hm, -⟩ := addO_in ha
      have HF := fun w => Format_any m w hm.1 hm.2
      have HR : Hid (incrR s d = .tuple #[.string (bs (fmtL m)), .int .i64 m, .int .i64 0]) := by show _ = _; unfold incrR; rw [ho]; simp only [ha]
      rw [ha] at HA
      dsimp only [i64R, Option.getD_some, Option.isSome_some] at HA
      generalize bs (fmtL m) = f at HF HR
      clear ho ha hn hm
      go_enter Tryz.func105, Tryz.ntmps105
      go_wp2_with fail
      refine (HN _).mono ?_
      rintro e w ⟨rfl, rfl⟩
      go_wp2_with fail
      refine (HA _).mono ?_
      rintro e w ⟨rfl, rfl⟩
      go_wp2_with fail
      refine (HF _).mono ?_
      rintro e w1 ⟨rfl, hb⟩
      have HB : Hid (Below w.heap.size w w1) := hb
      clear hb
      go_wp2
      go_ret3
      exact ⟨by rw [HR.out]; rfl, HB.out⟩
end Go.Proofs.YtnajhjmdpaeelaaGreatDoor.Tx
