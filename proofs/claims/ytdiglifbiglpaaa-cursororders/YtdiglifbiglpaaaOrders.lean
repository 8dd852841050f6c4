/-
  tallboylaw9.CursorOrders: what was seen ahead of one cursor is seen ahead of each later one; a bucket is not seen ahead of itself.
-/
import Derived.Test.YtdiglifbiglpaaaAll
namespace Go.Proofs.Ytdiglifbiglpaaa
open Go.RowKit Go.PlainAid

set_option maxRecDepth 100000 in
theorem orders_any (c h : Nat) (d steps : Int) (w : World) (hc : c < 18446744073709551616) (hh : h < 18446744073709551616) :
    Calls Try.prog 8 #[.int .u64 c, .int .u64 h, .int .i64 d, .int .i64 steps] w fun e w' => e = .returned (.bool true) ∧ Below w.heap.size w w' := by
  go_enter Try.func8, Try.ntmps8
  go_wp2_with fail
  refine (Within_any d 0 12 _ (by decide) (by decide) (by decide)).mono ?_
  rintro e w ⟨rfl, z, hz0, hz1, rfl⟩
  obtain ⟨k, rfl⟩ : ∃ k : Nat, z = k := ⟨z.toNat, by omega⟩
  have hk : k ≤ 16 := by omega
  have H1 := fun w => Bucket_any c k w hc (by omega) (by omega)
  have hx := low_lt c k
  generalize lowN c k = x at H1 hx
  have H2 := fun w => Seen_any x x k w (by omega) (by omega) (by omega) (by omega)
  have H3 := fun w => Seen_any x h k w (by omega) hh (by omega) (by omega)
  rw [dep_nat hk] at H2 H3
  rw [seen_self] at H2
  go_wp2_with fail
  refine (H1 _).mono ?_
  rintro e w ⟨rfl, rfl⟩
  go_wp2_with fail
  refine (H2 _).mono ?_
  rintro e w ⟨rfl, rfl⟩
  go_wp2_with fail
  refine (H3 _).mono ?_
  rintro e w ⟨rfl, rfl⟩
  clear H1 H2 H3
  go_wp2_with fail
  refine (Within_any steps 0 50 _ (by decide) (by decide) (by decide)).mono ?_
  rintro e w ⟨rfl, z, hs0, hs1, rfl⟩
  obtain ⟨m, rfl⟩ : ∃ m : Nat, z = m := ⟨z.toNat, by omega⟩
  go_wp2_with fail
  go_loopg [10, 11, 12] m (fun g xv sv iv wr => w = wr ∧ ∃ n x : Nat, n = g ∧ xv = .int .u64 x ∧ sv = .bool (seen k x h) ∧ iv = .int .i64 n ∧ n ≤ 50 ∧ x < 65536)
  case atStart => exact ⟨rfl, m, x, rfl, rfl, rfl, rfl, by omega, hx⟩
  case round =>
    clear hx
    obtain ⟨rfl, n, x, hn, rfl, rfl, rfl, hn50, hx⟩ := hrel
    have H4 := fun w => Next_any x k w (by omega) (by omega) (by omega)
    rw [dep_nat hk] at H4
    have hy : nxt k x < 65536 := rev_64 _ hk
    by_cases h0 : 0 < n
    · have HO : Hid (nxt k x ≠ 0 → seen k x h = true → seen k (nxt k x) h = true) := seen_on
      generalize nxt k x = y at H4 hy HO
      generalize seen k x h = S at HO ⊢
      by_cases e0 : y = 0
      · subst e0
        clear HO
        go_wp2_with fail
        refine (H4 _).mono ?_
        rintro e w ⟨rfl, rfl⟩
        go_wp2_with fail
        refine (known_any _).mono ?_
        rintro e w1 ⟨rfl, hb⟩
        go_wp2
        go_ret
        exact ⟨rfl, hb⟩
      · have hy1 : ((y : Int) == 0) = false := by simp; omega
        have hy2 : ((y : Int) = 0) = False := by simp; omega
        have H5 := fun w => Seen_any y h k w (by omega) hh (by omega) (by omega)
        rw [dep_nat hk] at H5
        have HT := fun hs => HO.out e0 hs
        obtain ⟨T, hT⟩ : ∃ T, seen k y h = T := ⟨_, rfl⟩
        have HZ : Hid (seen k y h = T) := hT
        rw [hT] at H5 HT
        clear hT HO
        cases S with
        | true =>
          have hT : T = true := HT rfl
          subst hT
          clear HT
          go_wp2_with fail
          refine (H4 _).mono ?_
          rintro e w ⟨rfl, rfl⟩
          go_wp2_with fail
          refine (H5 _).mono ?_
          rintro e w ⟨rfl, rfl⟩
          go_wp2_with fail
          refine (H5 _).mono ?_
          rintro e w ⟨rfl, rfl⟩
          go_wp2
          go_roundg (gk - 1)
          case measure => omega
          case rel => exact ⟨rfl, n - 1, y, by omega, rfl, by rw [HZ.out], by congr 1; omega, by omega, by omega⟩
        | false =>
          clear HT
          go_wp2_with fail
          refine (H4 _).mono ?_
          rintro e w ⟨rfl, rfl⟩
          go_wp2_with fail
          refine (H5 _).mono ?_
          rintro e w ⟨rfl, rfl⟩
          go_wp2
          go_roundg (gk - 1)
          case measure => omega
          case rel => exact ⟨rfl, n - 1, y, by omega, rfl, by rw [HZ.out], by congr 1; omega, by omega, by omega⟩
    · obtain rfl : n = 0 := by omega
      go_wp2_with fail
      refine (known_any _).mono ?_
      rintro e w1 ⟨rfl, hb⟩
      go_wp2
      go_ret
      exact ⟨rfl, hb⟩
end Go.Proofs.Ytdiglifbiglpaaa
