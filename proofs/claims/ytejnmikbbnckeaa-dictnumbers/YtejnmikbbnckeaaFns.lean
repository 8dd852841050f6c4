/-
  The program's Next, Bucket and Seen, the document's own Next and Seen; Within: over every number.
-/
import Derived.Test.YtejnmikbbnckeaaTurn
namespace Go.Proofs.Ytejnmikbbnckeaa
open Go.RowKit Go.PlainAid

theorem rev_64 {d : Nat} (c : Nat) (hd : d ≤ 16) : rev d c < 65536 := Nat.lt_of_lt_of_le (rev_lt d c) (pow_le_16 hd)
theorem low_dep (c : Nat) (d : Int) : lowM c d = c % 2 ^ dep d := rfl
theorem low_lt (c : Nat) (d : Int) : lowM c d < 65536 := Nat.lt_of_lt_of_le (Nat.mod_lt _ (pow_pos _)) (pow_le_16 (dep_le d))
theorem wrap_one (n : Nat) (h : n < 65536) : IntKind.u64.wrap ((n : Int) + 1) = ((n + 1 : Nat) : Int) := by
  simp [IntKind.wrap, IntKind.signed, IntKind.bits]
  omega

theorem Bucket_any (c : Nat) (d : Int) (w : World) (hc : c < 18446744073709551616) (h0 : -9223372036854775808 ≤ d) (h1 : d ≤ 9223372036854775807) :
    Calls Try.prog 53 #[.int .u64 c, .int .i64 d] w fun e w' => e = .returned (.int .u64 (lowM c d : Nat)) ∧ w' = w := by
  have H := fun w => Low_any c d w hc (by omega) h0
  generalize lowM c d = z at H ⊢
  go_enter Try.func53, Try.ntmps53
  go_wp2_with fail
  refine (H _).mono ?_
  rintro e w ⟨rfl, rfl⟩
  go_wp2
  go_ret
  exact ⟨rfl, rfl⟩

theorem Next_any (c : Nat) (d : Int) (w : World) (hc : c < 18446744073709551616) (h0 : -9223372036854775808 ≤ d) (h1 : d ≤ 9223372036854775807) :
    Calls Try.prog 59 #[.int .u64 c, .int .i64 d] w fun e w' => e = .returned (.int .u64 (nxt (dep d) c : Nat)) ∧ w' = w := by
  have HC := fun w => clamp_any d w h0 h1
  have hd := dep_le d
  have hr := rev_64 c hd
  have H1 := fun w => turn_any c (dep d) w hc hd
  have H2 := fun w => turn_any (rev (dep d) c + 1) (dep d) w (by omega) hd
  have hw := wrap_one _ hr
  rw [nxt]
  generalize rev (dep d) (rev (dep d) c + 1) = z at H2 ⊢
  generalize rev (dep d) c = y at H1 H2 hw hr
  generalize dep d = k at HC H1 H2 hd
  generalize y + 1 = x at H2 hw
  go_enter Try.func59, Try.ntmps59
  go_wp2_with fail
  refine (HC _).mono ?_
  rintro e w ⟨rfl, rfl⟩
  go_wp2_with fail
  refine (H1 _).mono ?_
  rintro e w ⟨rfl, rfl⟩
  go_wp2_with fail
  refine (H2 _).mono ?_
  rintro e w ⟨rfl, rfl⟩
  go_wp2
  go_ret
  exact ⟨rfl, rfl⟩

theorem refNext_any (c : Nat) (d : Int) (w : World) (hc : c < 18446744073709551616) (h0 : -9223372036854775808 ≤ d) (h1 : d ≤ 9223372036854775807) :
    Calls Try.prog 24 #[.int .u64 c, .int .i64 d] w fun e w' => e = .returned (.int .u64 (nxt (dep d) c : Nat)) ∧ w' = w := by
  have HC := fun w => deep_any d w h0 h1
  have hd := dep_le d
  have hr := rev_64 c hd
  have hlt := rev_lt (dep d) c
  have H1 := fun w => Turned_any c (dep d) w hc hd
  have H2 := fun w => Turned_any (rev (dep d) c + 1) (dep d) w (by omega) hd
  have hw := wrap_one _ hr
  have hp := wrap_pow (dep d) hd
  have HZ : Hid (rev (dep d) c + 1 = 2 ^ dep d → nxt (dep d) c = 0) := fun h => nxt_last h
  have HX : Hid (nxt (dep d) c = rev (dep d) (rev (dep d) c + 1)) := rfl
  generalize rev (dep d) (rev (dep d) c + 1) = z at H2 HX
  generalize nxt (dep d) c = nx at HZ HX ⊢
  generalize rev (dep d) c = y at H1 H2 hw hr hlt HZ
  generalize dep d = k at HC H1 H2 hd hp hlt HZ
  have hple := pow_le_16 hd
  generalize 2 ^ k = p at hp hlt HZ hple
  obtain ⟨x, hx⟩ : ∃ x, y + 1 = x := ⟨_, rfl⟩
  rw [hx] at H2 hw HZ
  by_cases h : x = p
  · obtain rfl := h
    have HN := HZ.out rfl
    subst HN
    clear HX HZ H2 hx hlt
    go_enter Try.func24, Try.ntmps24
    go_wp2_with fail
    refine (HC _).mono ?_
    rintro e w ⟨rfl, rfl⟩
    go_wp2_with fail
    refine (H1 _).mono ?_
    rintro e w ⟨rfl, rfl⟩
    go_wp2
    go_ret
    exact ⟨rfl, rfl⟩
  · have hxp : x < p := by omega
    clear HZ hx hlt h
    go_enter Try.func24, Try.ntmps24
    go_wp2_with fail
    refine (HC _).mono ?_
    rintro e w ⟨rfl, rfl⟩
    go_wp2_with fail
    refine (H1 _).mono ?_
    rintro e w ⟨rfl, rfl⟩
    go_wp2_with fail
    refine (H2 _).mono ?_
    rintro e w ⟨rfl, rfl⟩
    go_wp2
    go_ret
    exact ⟨by rw [HX.out]; rfl, rfl⟩

end Go.Proofs.Ytejnmikbbnckeaa
