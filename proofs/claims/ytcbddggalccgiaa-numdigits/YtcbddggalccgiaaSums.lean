/-
  Add and Negate; the document's own Add; what the laws call besides: Cut, Within, mayParse, known, parses, adds.
-/
import Derived.Test.YtcbddggalccgiaaRefParse
namespace Go.Proofs.Ytcbddggalccgiaa
open Go.RowKit Go.PlainAid

def Int64 (n : Int) : Prop := -9223372036854775808 ≤ n ∧ n < 9223372036854775808
def addO (a b : Int) : Option Int := if -9223372036854775808 ≤ a + b ∧ a + b < 9223372036854775808 then some (a + b) else none
def negO (a : Int) : Option Int := if a = -9223372036854775808 then none else some (-a)

theorem addO_some {a b : Int} (h : Int64 (a + b)) : addO a b = some (a + b) := if_pos h
theorem addO_none {a b : Int} (h : ¬ Int64 (a + b)) : addO a b = none := if_neg h

theorem Add_any (a b : Int) (w : World) (ha : Int64 a) (hb : Int64 b) :
    Calls Try.prog 19 #[.int .i64 a, .int .i64 b] w fun e w' => e = .returned (i64R (addO a b)) ∧ w' = w := by
  unfold Int64 at ha hb
  by_cases h : Int64 (a + b)
  · have HO : Hid (addO a b = some (a + b)) := addO_some h
    unfold Int64 at h
    by_cases hb0 : 0 ≤ b
    · go_enter Try.func19, Try.ntmps19
      go_wp2
      go_ret2
      exact ⟨by rw [HO.out]; rfl, rfl⟩
    · go_enter Try.func19, Try.ntmps19
      go_wp2
      go_ret2
      exact ⟨by rw [HO.out]; rfl, rfl⟩
  · have HO : Hid (addO a b = none) := addO_none h
    unfold Int64 at h
    by_cases hb0 : 0 ≤ b
    · have hw : wrap64 (a + b) = a + b - 18446744073709551616 := by unfold wrap64; omega
      go_enter Try.func19, Try.ntmps19
      go_wp2
      go_ret2
      exact ⟨by rw [HO.out]; rfl, rfl⟩
    · have hw : wrap64 (a + b) = a + b + 18446744073709551616 := by unfold wrap64; omega
      go_enter Try.func19, Try.ntmps19
      go_wp2
      go_ret2
      exact ⟨by rw [HO.out]; rfl, rfl⟩

theorem refAdd_any (a b : Int) (w : World) (ha : Int64 a) (hb : Int64 b) :
    Calls Try.prog 24 #[.int .i64 a, .int .i64 b] w fun e w' => e = .returned (i64R (addO a b)) ∧ w' = w := by
  unfold Int64 at ha hb
  by_cases h : Int64 (a + b)
  · have HO : Hid (addO a b = some (a + b)) := addO_some h
    unfold Int64 at h
    by_cases hb0 : 0 < b
    · go_enter Try.func24, Try.ntmps24
      go_wp2
      go_ret2
      exact ⟨by rw [HO.out]; rfl, rfl⟩
    · by_cases hb1 : b < 0
      · go_enter Try.func24, Try.ntmps24
        go_wp2
        go_ret2
        exact ⟨by rw [HO.out]; rfl, rfl⟩
      · go_enter Try.func24, Try.ntmps24
        go_wp2
        go_ret2
        exact ⟨by rw [HO.out]; rfl, rfl⟩
  · have HO : Hid (addO a b = none) := addO_none h
    unfold Int64 at h
    by_cases hb0 : 0 < b
    · have hw : wrap64 (a + b) = a + b - 18446744073709551616 := by unfold wrap64; omega
      go_enter Try.func24, Try.ntmps24
      go_wp2
      go_ret2
      exact ⟨by rw [HO.out]; rfl, rfl⟩
    · have hb1 : b < 0 := by omega
      have hw : wrap64 (a + b) = a + b + 18446744073709551616 := by unfold wrap64; omega
      go_enter Try.func24, Try.ntmps24
      go_wp2
      go_ret2
      exact ⟨by rw [HO.out]; rfl, rfl⟩

theorem Negate_any (a : Int) (w : World) (ha : Int64 a) :
    Calls Try.prog 21 #[.int .i64 a] w fun e w' => e = .returned (i64R (negO a)) ∧ w' = w := by
  unfold Int64 at ha
  by_cases h : a = -9223372036854775808
  · subst h
    have hw : wrap64 9223372036854775808 = -9223372036854775808 := by unfold wrap64; omega
    go_enter Try.func21, Try.ntmps21
    go_wp2
    go_ret2
    exact ⟨rfl, rfl⟩
  · have HO : Hid (negO a = some (-a)) := if_neg h
    by_cases h0 : a < 0
    · go_enter Try.func21, Try.ntmps21
      go_wp2
      go_ret2
      exact ⟨by rw [HO.out]; rfl, rfl⟩
    · go_enter Try.func21, Try.ntmps21
      go_wp2
      go_ret2
      exact ⟨by rw [HO.out]; rfl, rfl⟩

def cutB (s : ByteArray) (n : Int) : ByteArray := if n < (s.size : Int) then s.extract 0 n.toNat else s
theorem size_cutB (s : ByteArray) : (cutB s 30).size ≤ 30 := by
  unfold cutB
  split
  · simp; omega
  · omega

theorem Cut_any (s : ByteArray) (n : Int) (w : World) (h0 : 0 ≤ n) :
    Calls Try.prog 15 #[.string s, .int .i64 n] w fun e w' => e = .returned (.string (cutB s n)) ∧ w' = w := by
  by_cases h : n < s.size
  · have HC : Hid (cutB s n = s.extract 0 n.toNat) := by show cutB s n = _; rw [cutB, if_pos h]
    go_enter Try.func15, Try.ntmps15
    go_wp2
    go_ret
    exact ⟨by rw [HC.out]; simp, rfl⟩
  · have HC : Hid (cutB s n = s) := by show cutB s n = _; rw [cutB, if_neg h]
    go_enter Try.func15, Try.ntmps15
    go_wp2
    go_ret
    exact ⟨by rw [HC.out]; rfl, rfl⟩

theorem Within_any (n hi : Int) (w : World) (h0 : 0 ≤ hi) (h1 : hi ≤ 1000) :
    Calls Try.prog 18 #[.int .i64 n, .int .i64 0, .int .i64 hi] w fun e w' => w' = w ∧ ∃ z : Int, 0 ≤ z ∧ z ≤ hi ∧ e = .returned (.int .i64 z) := by
  have hz : (hi + 1 == 0) = false := by simp; omega
  have hr0 : n.tmod (hi + 1) < hi + 1 := Int.tmod_lt_of_pos n (by omega)
  have hr1 : -(hi + 1) < n.tmod (hi + 1) := Int.lt_tmod_of_pos n (by omega)
  obtain ⟨r, hr⟩ : ∃ r, n.tmod (hi + 1) = r := ⟨_, rfl⟩
  rw [hr] at hr0 hr1
  by_cases hn : r < 0
  · go_enter Try.func18, Try.ntmps18
    go_wp2
    go_ret
    exact ⟨rfl, r + hi + 1, by omega, by omega, rfl⟩
  · go_enter Try.func18, Try.ntmps18
    go_wp2
    go_ret
    exact ⟨rfl, r, by omega, by omega, rfl⟩

theorem mayParse_any (s : ByteArray) (w : World) (hs : s.size ≤ maxLen) (o : Option Int) (ho : parseL (lst s) = o) :
    Calls Try.prog 20 #[.string s] w fun e w' => e = .returned (.bool o.isSome) ∧ w' = w := by
  have HP := fun w => Parse_any s w hs o ho
  unfold i64R at HP
  clear ho
  generalize o.getD 0 = x at HP
  generalize o.isSome = y at HP ⊢
  go_enter Try.func20, Try.ntmps20
  go_wp2_with (go_at_call 16; refine (HP _).mono ?_; rintro e w ⟨rfl, rfl⟩)
  go_ret
  exact ⟨rfl, rfl⟩

set_option maxRecDepth 100000 in
theorem known_any (w : World) : Calls Try.prog 14 #[] w fun e w' => e = .returned (.bool true) ∧ w' = w := by
  have HA := fun w => Parse_any ⟨#[45, 48]⟩ w (by decide) none (by decide +kernel)
  have HB := fun w => Parse_any ⟨#[48, 48, 55]⟩ w (by decide) none (by decide +kernel)
  have HC := fun w => Parse_any ⟨#[43, 49]⟩ w (by decide) none (by decide +kernel)
  have HD := fun w => Parse_any ⟨#[45, 57, 50, 50, 51, 51, 55, 50, 48, 51, 54, 56, 53, 52, 55, 55, 53, 56, 48, 56]⟩ w (by decide) (some (-9223372036854775808)) (by decide +kernel)
  dsimp only [i64R, Option.getD_none, Option.isSome_none, Option.getD_some, Option.isSome_some] at HA HB HC HD
  go_enter Try.func14, Try.ntmps14
  go_wp2_with fail
  refine (HA _).mono ?_
  rintro e w1 ⟨rfl, rfl⟩
  go_wp2_with fail
  refine (HB _).mono ?_
  rintro e w1 ⟨rfl, rfl⟩
  go_wp2_with fail
  refine (HC _).mono ?_
  rintro e w1 ⟨rfl, rfl⟩
  go_wp2_with fail
  refine (HD _).mono ?_
  rintro e w1 ⟨rfl, rfl⟩
  go_wp2
  go_ret
  exact ⟨rfl, rfl⟩

theorem parses_any (s : ByteArray) (w : World) (hs : s.size ≤ maxLen) : Calls Try.prog 8 #[.string s] w fun e w' => e = .returned (.bool true) ∧ w' = w := by
  have HA := fun w => Parse_any s w hs _ rfl
  have HB := fun w => refParse_any s w hs _ rfl
  have HC := fun w => Cursor_any s w hs _ rfl
  have HD := fun w => refCursor_any s w hs _ rfl
  unfold i64R at HA HB
  unfold u64R at HC HD
  generalize (parseL (lst s)).getD 0 = x at HA HB
  generalize (parseL (lst s)).isSome = y at HA HB
  generalize (cursorL (lst s)).getD 0 = u at HC HD
  generalize (cursorL (lst s)).isSome = v at HC HD
  go_enter Try.func8, Try.ntmps8
  go_wp2_with fail
  refine (HA _).mono ?_
  rintro e w1 ⟨rfl, rfl⟩
  go_wp2_with fail
  refine (HB _).mono ?_
  rintro e w1 ⟨rfl, rfl⟩
  go_wp2_with fail
  refine (HC _).mono ?_
  rintro e w1 ⟨rfl, rfl⟩
  go_wp2_with fail
  refine (HD _).mono ?_
  rintro e w1 ⟨rfl, rfl⟩
  go_wp2
  go_ret
  exact ⟨rfl, rfl⟩

theorem adds_any (a b : Int) (w : World) (ha : Int64 a) (hb : Int64 b) : Calls Try.prog 13 #[.int .i64 a, .int .i64 b] w fun e w' => e = .returned (.bool true) ∧ w' = w := by
  have HA := fun w => Add_any a b w ha hb
  have HB := fun w => refAdd_any a b w ha hb
  have HC := fun w => Negate_any a w ha
  unfold Int64 at ha
  unfold i64R at HA HB HC
  generalize (addO a b).getD 0 = x at HA HB
  generalize (addO a b).isSome = y at HA HB
  by_cases h : a = -9223372036854775808
  · subst h
    rw [show negO (-9223372036854775808) = none from rfl] at HC
    dsimp only [Option.getD_none, Option.isSome_none] at HC
    go_enter Try.func13, Try.ntmps13
    go_wp2_with fail
    refine (HA _).mono ?_
    rintro e w1 ⟨rfl, rfl⟩
    go_wp2_with fail
    refine (HB _).mono ?_
    rintro e w1 ⟨rfl, rfl⟩
    go_wp2_with fail
    refine (HC _).mono ?_
    rintro e w1 ⟨rfl, rfl⟩
    go_wp2
    go_ret
    exact ⟨rfl, rfl⟩
  · rw [show negO a = some (-a) from if_neg h] at HC
    dsimp only [Option.getD_some, Option.isSome_some] at HC
    have hq : (a != -9223372036854775808) = true := by simpa using h
    go_enter Try.func13, Try.ntmps13
    go_wp2_with fail
    refine (HA _).mono ?_
    rintro e w1 ⟨rfl, rfl⟩
    go_wp2_with fail
    refine (HB _).mono ?_
    rintro e w1 ⟨rfl, rfl⟩
    go_wp2_with fail
    refine (HC _).mono ?_
    rintro e w1 ⟨rfl, rfl⟩
    go_wp2
    go_ret
    exact ⟨rfl, rfl⟩
end Go.Proofs.Ytcbddggalccgiaa
