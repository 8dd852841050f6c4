/-
  tallboylaw9.CursorLong: from any cursor on, 0 comes within as many steps as there are buckets; each bucket that was not seen comes.
-/
import Derived.Test.YtdiglifbiglpaaaAll
namespace Go.Proofs.Ytdiglifbiglpaaa
open Go.RowKit Go.PlainAid

/-- Where the walk stands behind n steps from the cursor at place r: at x; what it met is what stands ahead. -/
structure On (k r h n x : Nat) (came : Bool) : Prop where
  at' : rev k x = r + n
  lt : x < 2 ^ k
  came : came = decide (rev k h < r + n)
theorem On.start {k x : Nat} (hx : x < 2 ^ k) (h : Nat) : On k (rev k x) h 0 x (seen k x h) := ⟨rfl, hx, rfl⟩
/-- The bucket itself is met. -/
theorem On.meet {k r h n x : Nat} {came : Bool} (H : On k r h n x came) : (came || decide (x = h % 2 ^ k)) = decide (rev k h < r + n + 1) := by
  have h1 := same_rev (a := h) H.lt
  have h2 := H.at'
  have h3 := H.came
  by_cases e : h % 2 ^ k = x
  · have := h1.1 e
    simp [e]
    omega
  · have h4 : rev k h ≠ rev k x := fun e2 => e (h1.2 e2)
    have h5 : ¬ x = h % 2 ^ k := fun e2 => e e2.symm
    simp [h5, h3]
    omega
theorem On.last {k r h n x : Nat} {came : Bool} (H : On k r h n x came) (hz : nxt k x = 0) : (came || decide (x = h % 2 ^ k)) = true ∧ n + 1 ≤ 2 ^ k := by
  have h1 := nxt_zero hz
  have h2 := H.at'
  have h3 := rev_lt k h
  rw [H.meet]
  constructor
  · simp; omega
  · omega
theorem On.step {k r h n x : Nat} {came : Bool} (H : On k r h n x came) (hz : nxt k x ≠ 0) : On k r h (n + 1) (nxt k x) (came || decide (x = h % 2 ^ k)) ∧ n + 1 < 2 ^ k := by
  have h1 := nxt_step hz
  have h2 := H.at'
  refine ⟨⟨by omega, nxt_lt k x, H.meet⟩, by omega⟩

set_option maxRecDepth 100000 in
theorem long_any (c : Nat) (d : Int) (h : Nat) (w : World) (hc : c < 18446744073709551616) (hh : h < 18446744073709551616) :
    Calls Try.prog 7 #[.int .u64 c, .int .i64 d, .int .u64 h] w fun e w' => e = .returned (.bool true) ∧ Below w.heap.size w w' := by
  go_enter Try.func7, Try.ntmps7
  go_wp2_with fail
  refine (Within_any d 0 10 _ (by decide) (by decide) (by decide)).mono ?_
  rintro e w ⟨rfl, z, hz0, hz1, rfl⟩
  obtain ⟨k, rfl⟩ : ∃ k : Nat, z = k := ⟨z.toNat, by omega⟩
  have hk : k ≤ 16 := by omega
  have H1 := fun w => Bucket_any c k w hc (by omega) (by omega)
  have H5 := fun w => Bucket_any h k w hh (by omega) (by omega)
  have hx := low_lt c k
  rw [low_dep, dep_nat hk] at H1 H5 hx
  have hxp : c % 2 ^ k < 2 ^ k := Nat.mod_lt _ (pow_pos k)
  generalize c % 2 ^ k = x at H1 hx hxp
  have H2 := fun w => Seen_any x h k w (by omega) hh (by omega) (by omega)
  rw [dep_nat hk] at H2
  have hp := pow_le_16 hk
  have hpw := ipow k hk
  have HS : Hid (On k (rev k x) h 0 x (seen k x h)) := On.start hxp h
  generalize seen k x h = S at H2 HS
  generalize rev k x = r at HS
  have HL : Hid (∀ n x came, On k r h n x came → nxt k x = 0 → (came || decide (x = h % 2 ^ k)) = true ∧ n + 1 ≤ 2 ^ k) := fun _ _ _ H => H.last
  have HT : Hid (∀ n x came, On k r h n x came → nxt k x ≠ 0 → On k r h (n + 1) (nxt k x) (came || decide (x = h % 2 ^ k)) ∧ n + 1 < 2 ^ k) := fun _ _ _ H => H.step
  have HX : Hid (∀ n x came, On k r h n x came → x < 2 ^ k) := fun _ _ _ H => H.lt
  have HNl : Hid (∀ x, nxt k x < 2 ^ k) := nxt_lt k
  generalize h % 2 ^ k = b at H5 HL HT
  generalize 2 ^ k = p at HL HT HX HNl hpw hp
  clear hxp
  go_wp2_with fail
  refine (H1 _).mono ?_
  rintro e w ⟨rfl, rfl⟩
  go_wp2_with fail
  refine (H2 _).mono ?_
  rintro e w ⟨rfl, rfl⟩
  clear H1 H2
  go_wp2_with fail
  go_loopg [8, 9, 10] p (fun g xv cv nv wr => w = wr ∧ ∃ (n x : Nat) (came : Bool), n + g = p ∧ xv = .int .u64 x ∧ cv = .bool came ∧ nv = .int .i64 n ∧ Hid (On k r h n x came))
  case atStart => exact ⟨rfl, 0, x, S, by omega, rfl, rfl, rfl, HS⟩
  case round =>
    clear HS hx
    obtain ⟨rfl, n, x, came, hn, rfl, rfl, rfl, HO⟩ := hrel
    have hx := Nat.lt_of_lt_of_le (HX.out _ _ _ HO.out) hp
    have H4 := fun w => Next_any x k w (by omega) (by omega) (by omega)
    rw [dep_nat hk] at H4
    have hy := Nat.lt_of_lt_of_le (HNl.out x) hp
    by_cases hz : nxt k x = 0
    · obtain ⟨H, hle⟩ := HL.out _ _ _ HO.out hz
      rw [hz] at H4
      clear HL HT HX HNl HO hz hy
      have hle2 : (n : Int) + 1 ≤ p := by omega
      cases came with
      | true =>
        clear H H5
        go_wp2_with fail
        refine (H4 _).mono ?_
        rintro e w ⟨rfl, rfl⟩
        go_wp2_with fail
        refine (known_any _).mono ?_
        rintro e w1 ⟨rfl, hb⟩
        go_wp2
        go_ret
        exact ⟨rfl, hb⟩
      | false =>
        obtain rfl : x = b := by simpa using H
        clear H
        go_wp2_with fail
        refine (H5 _).mono ?_
        rintro e w ⟨rfl, rfl⟩
        go_wp2_with fail
        refine (H4 _).mono ?_
        rintro e w ⟨rfl, rfl⟩
        go_wp2_with fail
        refine (known_any _).mono ?_
        rintro e w1 ⟨rfl, hb⟩
        go_wp2
        go_ret
        exact ⟨rfl, hb⟩
    · obtain ⟨H, hlt⟩ := HT.out _ _ _ HO.out hz
      generalize nxt k x = y at hz H4 hy H
      have hy1 : ((y : Int) == 0) = false := by simp; omega
      have hy2 : ((y : Int) = 0) = False := by simp; omega
      have hle2 : (n : Int) + 1 ≤ p := by omega
      clear HL HT HX HNl HO
      cases came with
      | true =>
        have HY : Hid (On k r h (n + 1) y true) := H
        clear H H5
        go_wp2_with fail
        refine (H4 _).mono ?_
        rintro e w ⟨rfl, rfl⟩
        go_wp2
        go_roundg (gk - 1)
        case measure => omega
        case rel => exact ⟨rfl, n + 1, y, _, by omega, rfl, rfl, by go_num, HY⟩
      | false =>
        by_cases e : x = b
        · subst e
          have HY : Hid (On k r h (n + 1) y true) := by show On _ _ _ _ _ _; simpa using H
          clear H
          go_wp2_with fail
          refine (H5 _).mono ?_
          rintro e w ⟨rfl, rfl⟩
          go_wp2_with fail
          refine (H4 _).mono ?_
          rintro e w ⟨rfl, rfl⟩
          go_wp2
          go_roundg (gk - 1)
          case measure => omega
          case rel => exact ⟨rfl, n + 1, y, _, by omega, rfl, rfl, by go_num, HY⟩
        · have HY : Hid (On k r h (n + 1) y false) := by
            show On _ _ _ _ _ _
            simpa [e] using H
          have hb1 : ((x : Int) == (b : Int)) = false := by simp; omega
          have hb2 : ((x : Int) = (b : Int)) = False := by simp; omega
          clear H
          go_wp2_with fail
          refine (H5 _).mono ?_
          rintro e w ⟨rfl, rfl⟩
          go_wp2_with fail
          refine (H4 _).mono ?_
          rintro e w ⟨rfl, rfl⟩
          go_wp2
          go_roundg (gk - 1)
          case measure => omega
          case rel => exact ⟨rfl, n + 1, y, _, by omega, rfl, rfl, by go_num, HY⟩
end Go.Proofs.Ytdiglifbiglpaaa
