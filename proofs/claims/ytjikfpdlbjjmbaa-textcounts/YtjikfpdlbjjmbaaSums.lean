/-
  Add and Negate; the document's own Add; what the laws call besides: Cut, Within, mayParse, known, parses, adds.
-/
import Derived.Test.YtjikfpdlbjjmbaaRefParse
namespace Go.Proofs.Ytjikfpdlbjjmbaa
open Go.RowKit Go.PlainAid

def Int64 (n : Int) : Prop := -9223372036854775808 ≤ n ∧ n < 9223372036854775808
def addO (a b : Int) : Option Int := if -9223372036854775808 ≤ a + b ∧ a + b < 9223372036854775808 then some (a + b) else none
theorem addO_some {a b : Int} (h : Int64 (a + b)) : addO a b = some (a + b) := if_pos h
theorem addO_none {a b : Int} (h : ¬ Int64 (a + b)) : addO a b = none := if_neg h

theorem Add_any (a b : Int) (w : World) (ha : Int64 a) (hb : Int64 b) :
    Calls Try.prog 35 #[.int .i64 a, .int .i64 b] w fun e w' => e = .returned (i64R (addO a b)) ∧ w' = w := by
  unfold Int64 at ha hb
  by_cases h : Int64 (a + b)
  · have HO : Hid (addO a b = some (a + b)) := addO_some h
    unfold Int64 at h
    by_cases hb0 : 0 ≤ b
    · go_enter Try.func35, Try.ntmps35
      go_wp2
      go_ret2
      exact ⟨by rw [HO.out]; rfl, rfl⟩
    · go_enter Try.func35, Try.ntmps35
      go_wp2
      go_ret2
      exact ⟨by rw [HO.out]; rfl, rfl⟩
  · have HO : Hid (addO a b = none) := addO_none h
    unfold Int64 at h
    by_cases hb0 : 0 ≤ b
    · have hw : wrap64 (a + b) = a + b - 18446744073709551616 := by unfold wrap64; omega
      go_enter Try.func35, Try.ntmps35
      go_wp2
      go_ret2
      exact ⟨by rw [HO.out]; rfl, rfl⟩
    · have hw : wrap64 (a + b) = a + b + 18446744073709551616 := by unfold wrap64; omega
      go_enter Try.func35, Try.ntmps35
      go_wp2
      go_ret2
      exact ⟨by rw [HO.out]; rfl, rfl⟩

theorem refAdd_any (a b : Int) (w : World) (ha : Int64 a) (hb : Int64 b) :
    Calls Try.prog 41 #[.int .i64 a, .int .i64 b] w fun e w' => e = .returned (i64R (addO a b)) ∧ w' = w := by
  unfold Int64 at ha hb
  by_cases h : Int64 (a + b)
  · have HO : Hid (addO a b = some (a + b)) := addO_some h
    unfold Int64 at h
    by_cases hb0 : 0 < b
    · go_enter Try.func41, Try.ntmps41
      go_wp2
      go_ret2
      exact ⟨by rw [HO.out]; rfl, rfl⟩
    · by_cases hb1 : b < 0
      · go_enter Try.func41, Try.ntmps41
        go_wp2
        go_ret2
        exact ⟨by rw [HO.out]; rfl, rfl⟩
      · go_enter Try.func41, Try.ntmps41
        go_wp2
        go_ret2
        exact ⟨by rw [HO.out]; rfl, rfl⟩
  · have HO : Hid (addO a b = none) := addO_none h
    unfold Int64 at h
    by_cases hb0 : 0 < b
    · have hw : wrap64 (a + b) = a + b - 18446744073709551616 := by unfold wrap64; omega
      go_enter Try.func41, Try.ntmps41
      go_wp2
      go_ret2
      exact ⟨by rw [HO.out]; rfl, rfl⟩
    · have hb1 : b < 0 := by omega
      have hw : wrap64 (a + b) = a + b + 18446744073709551616 := by unfold wrap64; omega
      go_enter Try.func41, Try.ntmps41
      go_wp2
      go_ret2
      exact ⟨by rw [HO.out]; rfl, rfl⟩

def cutB (s : ByteArray) (n : Int) : ByteArray := if n < (s.size : Int) then s.extract 0 n.toNat else s
theorem size_cutB (s : ByteArray) : (cutB s 30).size ≤ 30 := by
  unfold cutB
  split
  · simp; omega
  · omega

theorem Cut_any (s : ByteArray) (n : Int) (w : World) (h0 : 0 ≤ n) :
    Calls Try.prog 14 #[.string s, .int .i64 n] w fun e w' => e = .returned (.string (cutB s n)) ∧ w' = w := by
  by_cases h : n < s.size
  · have HC : Hid (cutB s n = s.extract 0 n.toNat) := by show cutB s n = _; rw [cutB, if_pos h]
    go_enter Try.func14, Try.ntmps14
    go_wp2
    go_ret
    exact ⟨by rw [HC.out]; simp, rfl⟩
  · have HC : Hid (cutB s n = s) := by show cutB s n = _; rw [cutB, if_neg h]
    go_enter Try.func14, Try.ntmps14
    go_wp2
    go_ret
    exact ⟨by rw [HC.out]; rfl, rfl⟩

theorem Within_any (n hi : Int) (w : World) (h0 : 0 ≤ hi) (h1 : hi ≤ 1000) :
    Calls Try.prog 15 #[.int .i64 n, .int .i64 0, .int .i64 hi] w fun e w' => w' = w ∧ ∃ z : Int, 0 ≤ z ∧ z ≤ hi ∧ e = .returned (.int .i64 z) := by
  have hz : (hi + 1 == 0) = false := by simp; omega
  have hr0 : n.tmod (hi + 1) < hi + 1 := Int.tmod_lt_of_pos n (by omega)
  have hr1 : -(hi + 1) < n.tmod (hi + 1) := Int.lt_tmod_of_pos n (by omega)
  obtain ⟨r, hr⟩ : ∃ r, n.tmod (hi + 1) = r := ⟨_, rfl⟩
  rw [hr] at hr0 hr1
  by_cases hn : r < 0
  · go_enter Try.func15, Try.ntmps15
    go_wp2
    go_ret
    exact ⟨rfl, r + hi + 1, by omega, by omega, rfl⟩
  · go_enter Try.func15, Try.ntmps15
    go_wp2
    go_ret
    exact ⟨rfl, r, by omega, by omega, rfl⟩

end Go.Proofs.Ytjikfpdlbjjmbaa
