/-
  The program's All: the row of cursors; the books' Same; the law's known.
-/
import Derived.Test.YtdiglifbiglpaaaFns
import Derived.Deep.OwnRows
import Derived.Deep.QuietTactic
namespace Go.Proofs.Ytdiglifbiglpaaa
open Go.RowKit Go.PlainAid

theorem step_below {w w1 w2 : World} (h : Hid (Below w.heap.size w w1)) (hb : Below w1.heap.size w1 w2) : Hid (Below w.heap.size w w2) := h.out.trans (hb.mono h.out.size)
theorem below_drewN (w : World) : ∀ n, Below w.heap.size w (w.drewN n)
  | 0 => Below.refl _ _
  | n + 1 => (below_drewN w n).drew
theorem below_same {w w' : World} (h : w' = w) : Below w.heap.size w w' := by rw [h]; exact Below.refl _ _
theorem Try.info22 : (Try.prog.info? 22).map (fun i => (i.zero, i.size, i.bytes)) = some (some (.int .u64 0), 1, 8) := by kernel_rfl

/-- A row of numbers, each told by its place. -/
abbrev isRow (wr : World) (A N : Nat) (f : Nat → Nat) : Prop := wr.rowIs A 22 N (fun j => .int .u64 (f j : Nat))
theorem keepRow {w w' : World} {A N : Nat} {f : Nat → Nat} (h : isRow w A N f) (hb : Below w.heap.size w w') : isRow w' A N f := h.of_block (hb.block A h.lt)
/-- The cursors ahead of place i; zero from there on. -/
def upto (k i j : Nat) : Nat := if j < i then rev k j else 0

theorem ipow (k : Nat) (h : k ≤ 16) : IntKind.i64.wrap (2 ^ k) = ((2 ^ k : Nat) : Int) := by
  have h1 := pow_le_16 h
  have : ((2 : Int) ^ k) = ((2 ^ k : Nat) : Int) := by simp
  rw [this]
  generalize 2 ^ k = p at h1
  simp [IntKind.wrap, IntKind.signed, IntKind.bits]
  omega

theorem All_no (d : Int) (w : World) (h0 : -9223372036854775808 ≤ d) (h1 : d ≤ 9223372036854775807) (h12 : 12 < dep d) :
    Calls Try.prog 10 #[.int .i64 d] w fun e w' => e = .returned (.slice none 0 0) ∧ w' = w := by
  have HC := fun w => clamp_any d w h0 h1
  generalize dep d = k at HC h12
  go_enter Try.func10, Try.ntmps10
  go_wp2_with fail
  refine (HC _).mono ?_
  rintro e w ⟨rfl, rfl⟩
  go_wp2
  go_ret
  exact ⟨rfl, rfl⟩

theorem All_in (d : Int) (w : World) (h0 : -9223372036854775808 ≤ d) (h1 : d ≤ 9223372036854775807) (h12 : dep d ≤ 12) :
    Calls Try.prog 10 #[.int .i64 d] w fun e w' => ∃ g, e = .returned (.slice (some ⟨g, 0, none⟩) (2 ^ dep d) (2 ^ dep d)) ∧ Below w.heap.size w w' ∧ w.heap.size ≤ g ∧ isRow w' g (2 ^ dep d) (rev (dep d)) := by
  have HC := fun w => clamp_any d w h0 h1
  generalize dep d = k at HC h12 ⊢
  have hk12 : (k : Int) ≤ 12 := by omega
  have hp1 := ipow k (by omega)
  have hpos := pow_pos k
  have hple := pow_le_16 (k := k) (by omega)
  have HP : Hid (∀ i, i + 1 < 2 ^ k → nxt k (rev k i) = rev k (i + 1)) := fun i hi => nxt_rev (by omega)
  have HR : Hid (∀ i, rev k i < 18446744073709551616) := fun i => by have := rev_64 i (d := k) (by omega); omega
  generalize 2 ^ k = p at hp1 hpos hple HP ⊢
  have hmk := run_make_row' (P := Try.prog) 25 22 (.int .u64 0) 8 Try.underlying25 Try.info22 rfl .i64 .i64 p (by omega) (by omega)
  obtain ⟨wf, hwf⟩ : ∃ wf, (w.alloc (.cells (madeCells #[.int .u64 0] p) 22)) = wf := ⟨_, rfl⟩
  have HA : Hid (isRow wf w.heap.size p (upto k 1)) := by
    show isRow _ _ _ _
    rw [← hwf]
    exact (World.rowIs_made ..).congr fun j hj => by
      unfold upto
      by_cases e : j < 1
      · obtain rfl : j = 0 := by omega
        simp [rev_zero]
      · simp [e]
  have HB0 : Hid (Below w.heap.size w wf) := by show Below _ _ _; rw [← hwf]; exact (Below.refl _ _).alloc (Nat.le_refl _) _
  go_enter Try.func10, Try.ntmps10
  go_wp2_with fail
  refine (HC _).mono ?_
  rintro e w ⟨rfl, rfl⟩
  clear HC
  go_wp2
  clear hmk hwf hp1
  generalize hg : w.heap.size = g at HA ⊢
  go_loopg [4] p (fun q iv wr => ∃ m : Nat, m + q = p ∧ m < p ∧ iv = .int .i64 ((m : Int) + 1) ∧ Hid (isRow wr g p (upto k (m + 1))) ∧ Hid (Below w.heap.size w wr))
  case atStart => exact ⟨0, by omega, by omega, rfl, HA, HB0⟩
  case round =>
    clear HA HB0
    obtain ⟨m, hm, hmp, rfl, HA, HB⟩ := hrel
    by_cases hlt : m + 1 < p
    · have hm1 : (m : Int) + 1 - 1 = m := by omega
      have hc := HA.out.cell (i := m) (by omega)
      have hfz := HA.out.frozen (m + 1)
      have hc1 := HA.out.cell (i := m + 1) (by omega)
      generalize upto k (m + 1) (m + 1) = u1 at hc1
      have HU : Hid (upto k (m + 1) m = rev k m) := by show _ = _; unfold upto; rw [if_pos (by omega)]
      rw [HU.out] at hc
      have HX : Hid (nxt k (rev k m) = rev k (m + 1)) := HP.out m (by omega)
      have HN := fun w => Next_any (rev k m) k w (HR.out m) (by omega) (by omega)
      rw [dep_nat (by omega), HX.out] at HN
      obtain ⟨y, hy⟩ : ∃ y, rev k m = y := ⟨_, rfl⟩
      rw [hy] at hc HN
      have HY : Hid (rev k (m + 1) = rev k (m + 1)) := rfl
      obtain ⟨z, hz⟩ : ∃ z, rev k (m + 1) = z := ⟨_, rfl⟩
      have HZ : Hid (rev k (m + 1) = z) := hz
      rw [hz] at HN
      clear hy hz HY HX HU
      have hlt2 : (m : Int) + 1 < p := by omega
      go_wp2_with fail
      refine (HN _).mono ?_
      rintro e w2 ⟨rfl, rfl⟩
      have HA2 : Hid (isRow (w2.setCell ⟨g, m + 1, none⟩ (.int .u64 z)) g p (upto k (m + 1 + 1))) := (HA.out.set (m + 1) (.int .u64 z)).congr fun j hj => by
        have := HZ.out
        unfold upto
        by_cases e : j = m + 1
        · subst e
          simp [this]
        · by_cases e2 : j < m + 1
          · simp [e, e2, show j < m + 1 + 1 by omega]
          · simp [e, e2, show ¬ j < m + 1 + 1 by omega]
      have HB2 : Hid (Below w.heap.size w (w2.setCell ⟨g, m + 1, none⟩ (.int .u64 z))) := HB.out.setCell (by show w.heap.size ≤ g; omega) _
      clear HA HB hc
      go_wp2
      go_roundg (gk - 1)
      case measure => omega
      case rel => exact ⟨m + 1, by omega, by omega, by go_num, HA2, HB2⟩
    · have HE : Hid (isRow wr g p (rev k)) := HA.out.congr fun j hj => by
        unfold upto
        rw [if_pos (by omega)]
      obtain rfl : p = m + 1 := by omega
      go_wp2
      go_ret
      exact ⟨g, rfl, HB.out, by omega, HE.out⟩

theorem Same_any (a a' n : Nat) (f : Nat → Nat) (w : World) (hn : n ≤ 65536) (hR : isRow w a n f) (hR' : isRow w a' n f) :
    Calls Try.prog 20 #[.slice (some ⟨a, 0, none⟩) n n, .slice (some ⟨a', 0, none⟩) n n] w fun e w' => e = .returned (.bool true) ∧ Below w.heap.size w w' := by
  have HR : Hid (isRow w a n f) := hR
  have HR' : Hid (isRow w a' n f) := hR'
  have H0 : Hid (Below w.heap.size w w) := Below.refl _ _
  clear hR hR'
  go_enter Try.func20, Try.ntmps20
  go_wp2
  go_loopg [5] n (fun q iv wr => ∃ (k : Nat), k + q = n ∧ iv = .int .i64 k ∧ Hid (Below w.heap.size w wr))
  case atStart => exact ⟨0, by omega, rfl, H0⟩
  case round =>
    obtain ⟨k, hk, rfl, HB⟩ := hrel
    by_cases h8 : (k : Int) < n
    · have hc := (keepRow HR.out HB.out).cell (i := k) (by omega)
      have hc' := (keepRow HR'.out HB.out).cell (i := k) (by omega)
      obtain ⟨X, hX⟩ : ∃ X : Int, (f k : Int) = X := ⟨_, rfl⟩
      rw [hX] at hc hc'
      clear hX
      go_wp2
      go_quiet (fail)
      go_wp2
      go_roundg (gk - 1)
      case measure => omega
      case rel => exact ⟨k + 1, by omega, by go_num, step_below HB (below_drewN _ _)⟩
    · go_wp2
      go_ret
      exact ⟨rfl, HB.out⟩

theorem rows_four (w : World) : isRow (w.alloc (.cells #[.int .u64 0, .int .u64 2, .int .u64 1, .int .u64 3] 22)) w.heap.size 4 (rev 2) :=
  World.rowIs_alloc w #[.int .u64 0, .int .u64 2, .int .u64 1, .int .u64 3] 22 (fun j => .int .u64 (rev 2 j : Nat)) (by
    intro i hi
    rcases i with _|_|_|_|i
    · rfl
    · rfl
    · rfl
    · rfl
    · simp at hi; omega)

theorem known_any (w : World) : Calls Try.prog 11 #[] w fun e w' => e = .returned (.bool true) ∧ Below w.heap.size w w' := by
  have H1 := fun w => All_in 2 w (by decide) (by decide) (by decide)
  have H2 := fun w => Next_any 3 2 w (by decide) (by decide) (by decide)
  have H3 := fun w => Next_any 0 0 w (by decide) (by decide) (by decide)
  rw [show dep 2 = 2 by decide] at H1
  rw [show (nxt (dep 2) 3 : Int) = 0 by decide] at H2
  rw [show (nxt (dep 0) 0 : Int) = 0 by decide] at H3
  go_enter Try.func11, Try.ntmps11
  go_wp2_with fail
  refine (H1 _).mono ?_
  rintro e w1 ⟨g, rfl, hb, hg, hR⟩
  have H4 := fun w => Same_any g w1.heap.size 4 (rev 2) w (by decide)
  have HR4 : Hid (isRow w1 g 4 (rev 2)) := hR
  have HB : Hid (Below w.heap.size w w1) := hb
  clear H1 hb hg hR
  obtain ⟨w2, hw2⟩ : ∃ w2, w1.alloc (.cells #[.int .u64 0, .int .u64 2, .int .u64 1, .int .u64 3] 22) = w2 := ⟨_, rfl⟩
  have HA : Hid (isRow w2 w1.heap.size 4 (rev 2)) := by show isRow _ _ _ _; rw [← hw2]; exact rows_four w1
  have HB1 : Below w1.heap.size w1 w2 := by rw [← hw2]; exact (Below.refl _ _).alloc (Nat.le_refl _) _
  have HR5 : Hid (isRow w2 g 4 (rev 2)) := keepRow HR4.out HB1
  have HB2 := step_below HB HB1
  have H5 := H4 w2 HR5.out HA.out
  clear H4 HB HB1 HR4
  generalize hsz : w1.heap.size = z at HA H5
  go_wp2_with fail
  refine H5.mono ?_
  rintro e w3 ⟨rfl, hb3⟩
  have HB3 := step_below HB2 hb3
  clear hb3 H5 HB2 HA HR5
  go_wp2_with fail
  refine (H2 _).mono ?_
  rintro e w4 ⟨rfl, rfl⟩
  go_wp2_with fail
  refine (H3 _).mono ?_
  rintro e w5 ⟨rfl, rfl⟩
  go_wp2
  go_ret
  exact ⟨rfl, HB3.out⟩
end Go.Proofs.Ytdiglifbiglpaaa
