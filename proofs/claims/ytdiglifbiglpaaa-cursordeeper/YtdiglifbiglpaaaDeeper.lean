/-
  tallboylaw9.CursorDeeper: what was seen ahead of a cursor is just what is seen ahead of it at each greater depth.
-/
import Derived.Test.YtdiglifbiglpaaaAll
namespace Go.Proofs.Ytdiglifbiglpaaa
open Go.RowKit Go.PlainAid

theorem deeper_any (c h : Nat) (d more : Int) (w : World) (hc : c < 18446744073709551616) (hh : h < 18446744073709551616) :
    Calls Try.prog 6 #[.int .u64 c, .int .u64 h, .int .i64 d, .int .i64 more] w fun e w' => e = .returned (.bool true) ∧ Below w.heap.size w w' := by
  go_enter Try.func6, Try.ntmps6
  go_wp2_with fail
  refine (Within_any d 0 16 _ (by decide) (by decide) (by decide)).mono ?_
  rintro e w ⟨rfl, z, hz0, hz1, rfl⟩
  obtain ⟨k, rfl⟩ : ∃ k : Nat, z = k := ⟨z.toNat, by omega⟩
  go_wp2_with fail
  refine (Within_any more k 16 _ (by omega) (by omega) (by decide)).mono ?_
  rintro e w ⟨rfl, y, hy0, hy1, rfl⟩
  obtain ⟨m, rfl⟩ : ∃ m : Nat, y = m := ⟨y.toNat, by omega⟩
  have hk : k ≤ 16 := by omega
  have hm : m ≤ 16 := by omega
  have H1 := fun w => Bucket_any c k w hc (by omega) (by omega)
  have H5 := fun w => Bucket_any h k w hh (by omega) (by omega)
  have hx := low_lt c k
  rw [low_dep, dep_nat hk] at H1 H5 hx
  have hxp : c % 2 ^ k < 2 ^ k := Nat.mod_lt _ (pow_pos k)
  generalize c % 2 ^ k = x at H1 hx hxp
  have H2 := fun w => Seen_any x h k w (by omega) hh (by omega) (by omega)
  have H3 := fun w => Seen_any x h m w (by omega) hh (by omega) (by omega)
  have H4 := fun w => Next_any x k w (by omega) (by omega) (by omega)
  rw [dep_nat hk] at H2 H4
  rw [dep_nat hm, ← seen_deep hxp (by omega)] at H3
  have hn := nxt_lt k x
  have hp := pow_le_16 hk
  have HN : Hid (nxt k x ≠ 0 → seen k (nxt k x) h = (seen k x h || decide (h % 2 ^ k = x))) := seen_nxt hxp
  have HI : Hid (h % 2 ^ k = x → seen k x h = false) := seen_in hxp
  have H6 := fun w => Seen_any (nxt k x) h k w (by omega) hh (by omega) (by omega)
  rw [dep_nat hk] at H6
  generalize nxt k x = n at H4 H6 HN hn
  generalize h % 2 ^ k = b at H5 HN HI
  generalize seen k x h = S at H2 H3 HN HI
  generalize seen k n h = T at H6 HN
  clear hp hn hxp
  go_wp2_with fail
  refine (H1 _).mono ?_
  rintro e w ⟨rfl, rfl⟩
  go_wp2_with fail
  refine (H2 _).mono ?_
  rintro e w ⟨rfl, rfl⟩
  go_wp2_with fail
  refine (H3 _).mono ?_
  rintro e w ⟨rfl, rfl⟩
  go_wp2_with fail
  refine (H4 _).mono ?_
  rintro e w ⟨rfl, rfl⟩
  go_wp2_with fail
  refine (H5 _).mono ?_
  rintro e w ⟨rfl, rfl⟩
  clear H1 H3 H4 H5
  by_cases hbx : b = x
  · have hS := HI.out hbx
    subst hbx hS
    by_cases hn0 : n = 0
    · subst hn0
      go_wp2_with fail
      refine (H2 _).mono ?_
      rintro e w ⟨rfl, rfl⟩
      go_wp2_with fail
      refine (known_any _).mono ?_
      rintro e w1 ⟨rfl, hb⟩
      go_wp2
      go_ret
      exact ⟨rfl, hb⟩
    · have hT : T = true := by rw [HN.out hn0]; simp
      subst hT
      have hn1 : ((n : Int) == 0) = false := by simp; omega
      have hn2 : ((n : Int) = 0) = False := by simp; omega
      go_wp2_with fail
      refine (H2 _).mono ?_
      rintro e w ⟨rfl, rfl⟩
      go_wp2_with fail
      refine (H6 _).mono ?_
      rintro e w ⟨rfl, rfl⟩
      go_wp2_with fail
      refine (H2 _).mono ?_
      rintro e w ⟨rfl, rfl⟩
      go_wp2_with fail
      refine (known_any _).mono ?_
      rintro e w1 ⟨rfl, hb⟩
      go_wp2
      go_ret
      exact ⟨rfl, hb⟩
  · have hb1 : ((b : Int) == (x : Int)) = false := by simp; omega
    have hb2 : ((b : Int) = (x : Int)) = False := by simp; omega
    by_cases hn0 : n = 0
    · subst hn0
      go_wp2_with fail
      refine (known_any _).mono ?_
      rintro e w1 ⟨rfl, hb⟩
      go_wp2
      go_ret
      exact ⟨rfl, hb⟩
    · have hT : T = S := by rw [HN.out hn0]; simp [hbx]
      subst hT
      have hn1 : ((n : Int) == 0) = false := by simp; omega
      have hn2 : ((n : Int) = 0) = False := by simp; omega
      cases T with
      | true =>
        go_wp2_with fail
        refine (H6 _).mono ?_
        rintro e w ⟨rfl, rfl⟩
        go_wp2_with fail
        refine (H2 _).mono ?_
        rintro e w ⟨rfl, rfl⟩
        go_wp2_with fail
        refine (known_any _).mono ?_
        rintro e w1 ⟨rfl, hb⟩
        go_wp2
        go_ret
        exact ⟨rfl, hb⟩
      | false =>
        go_wp2_with fail
        refine (H6 _).mono ?_
        rintro e w ⟨rfl, rfl⟩
        go_wp2_with fail
        refine (H2 _).mono ?_
        rintro e w ⟨rfl, rfl⟩
        go_wp2_with fail
        refine (known_any _).mono ?_
        rintro e w1 ⟨rfl, hb⟩
        go_wp2
        go_ret
        exact ⟨rfl, hb⟩
end Go.Proofs.Ytdiglifbiglpaaa
