/-
  The program's isSlot, isFree, At and Set, over every word, slot and byte.
-/
import Derived.Test.YtejnmikbbnckeaaWord
import Derived.Laws.BitsAllLaws
import Derived.Deep.LoopGhost
import Derived.Deep.Cut
import Derived.Deep.RegionWith
import Derived.Deep.CutRange
import Derived.Deep.QuietTactic
import Derived.BigQuiet
import Derived.Elder7
namespace Go.Proofs.Ytejnmikbbnckeaa
open Go.RowKit Go.PlainAid

theorem below_drewN (w : World) : ∀ n, Below w.heap.size w (w.drewN n)
  | 0 => Below.refl _ _
  | n + 1 => (below_drewN w n).drew
theorem step_below {w w1 w2 : World} (h : Hid (Below w.heap.size w w1)) (hb : Below w1.heap.size w1 w2) : Hid (Below w.heap.size w w2) := h.out.trans (hb.mono h.out.size)

theorem isSlot_yes (i : Int) (w : World) (h0 : 0 ≤ i) (h1 : i < 8) : Calls Try.prog 94 #[.int .i64 i] w fun e w' => e = .returned (.bool true) ∧ w' = w := by
  go_enter Try.func94, Try.ntmps94
  go_wp2
  go_ret
  exact ⟨rfl, rfl⟩
theorem isSlot_no (i : Int) (w : World) (h : i < 0 ∨ 8 ≤ i) : Calls Try.prog 94 #[.int .i64 i] w fun e w' => e = .returned (.bool false) ∧ w' = w := by
  rcases h with h | h
  · go_enter Try.func94, Try.ntmps94
    go_wp2
    go_ret
    exact ⟨rfl, rfl⟩
  · have h0 : 0 ≤ i := by omega
    go_enter Try.func94, Try.ntmps94
    go_wp2
    go_ret
    exact ⟨by simp; omega, rfl⟩
theorem isFree_any (b : Nat) (w : World) (hb : b < 256) : Calls Try.prog 92 #[.int .u8 b] w fun e w' => e = .returned (.bool (decide (128 ≤ b))) ∧ w' = w := by
  go_enter Try.func92, Try.ntmps92
  go_wp2
  go_ret
  exact ⟨by simp; omega, rfl⟩

theorem At_no (n : Nat) (i : Int) (w : World) (h : i < 0 ∨ 8 ≤ i) : Calls Try.prog 85 #[.int .u64 n, .int .i64 i] w fun e w' => e = .returned (.int .u8 128) ∧ w' = w := by
  have H := fun w => isSlot_no i w h
  go_enter Try.func85, Try.ntmps85
  go_wp2_with fail
  refine (H _).mono ?_
  rintro e w ⟨rfl, rfl⟩
  go_wp2
  go_ret
  exact ⟨rfl, rfl⟩

theorem slot8 {k : Nat} (h : k < 8) : k = 0 ∨ k = 1 ∨ k = 2 ∨ k = 3 ∨ k = 4 ∨ k = 5 ∨ k = 6 ∨ k = 7 := by omega

theorem At_in {l : List Nat} (hl : Ok l) (k : Nat) (hk : k < 8) (w : World) : Calls Try.prog 85 #[.int .u64 (val l : Nat), .int .i64 k] w fun e w' => e = .returned (.int .u8 (l.getD k 0 : Nat)) ∧ w' = w := by
  have hv := val_get hl.byt k
  have hlt := hl.lt
  have H := fun w => isSlot_yes k w (by omega) (by omega)
  generalize val l = n at hv hlt ⊢
  generalize l.getD k 0 = z at hv ⊢
  obtain ⟨c, hc⟩ : ∃ c : Int, (z : Int) = c := ⟨_, rfl⟩
  rcases slot8 hk with rfl | rfl | rfl | rfl | rfl | rfl | rfl | rfl
  all_goals
    simp only [Nat.reducePow] at hv
    subst hv
    go_enter Try.func85, Try.ntmps85
    go_wp2_with fail
    refine (H _).mono ?_
    rintro e w ⟨rfl, rfl⟩
    clear hc
    go_wp2
    go_ret
    exact ⟨by simp <;> omega, rfl⟩

theorem Set_no (n b : Nat) (i : Int) (w : World) (h : i < 0 ∨ 8 ≤ i) : Calls Try.prog 91 #[.int .u64 n, .int .i64 i, .int .u8 b] w fun e w' => e = .returned (.int .u64 n) ∧ w' = w := by
  have H := fun w => isSlot_no i w h
  go_enter Try.func91, Try.ntmps91
  go_wp2_with fail
  refine (H _).mono ?_
  rintro e w ⟨rfl, rfl⟩
  go_wp2
  go_ret
  exact ⟨rfl, rfl⟩

theorem Set_in {l : List Nat} (hl : Ok l) (k b : Nat) (hk : k < 8) (hb : b < 256) (w : World) :
    Calls Try.prog 91 #[.int .u64 (val l : Nat), .int .i64 k, .int .u8 b] w fun e w' => e = .returned (.int .u64 (val (l.set k b) : Nat)) ∧ Below w.heap.size w w' := by
  have hv := val_set hl hk hb
  have hlt := hl.lt
  have hz := (hl.set k hb).lt
  have H := fun w => isSlot_yes k w (by omega) (by omega)
  have HB : Hid (∀ q, Below w.heap.size w (w.drewN q)) := fun q => below_drewN w q
  generalize val (l.set k b) = z at hv hz ⊢
  generalize val l = n at hv hlt ⊢
  rcases slot8 hk with rfl | rfl | rfl | rfl | rfl | rfl | rfl | rfl
  · replace hv : (n &&& 18446744073709551360) ||| (b * 1) = z := hv
    have ha : bits .andNot .u64 (n : Int) 255 = ((n &&& 18446744073709551360 : Nat) : Int) := u64_andNot_nat n 255 hlt (by decide)
    have hA : n &&& 18446744073709551360 < 18446744073709551616 := Nat.lt_of_le_of_lt Nat.and_le_left hlt
    generalize n &&& 18446744073709551360 = A at ha hA hv
    have ho : bits .or .u64 (A : Int) ((b : Int) * 1) = (z : Int) := by
      rw [← hv, show ((b : Int) * 1) = ((b * 1 : Nat) : Int) by omega]
      exact u64_or_nat A (b * 1) hA (by omega)
    rw [Int.mul_one] at ho
    clear hv hA
    go_enter Try.func91, Try.ntmps91
    go_wp2_with fail
    refine (H _).mono ?_
    rintro e w ⟨rfl, rfl⟩
    go_wp2
    go_quiet (fail)
    go_wp2
    go_ret
    exact ⟨rfl, HB.out _⟩
  · replace hv : (n &&& 18446744073709486335) ||| (b * 256) = z := hv
    have ha : bits .andNot .u64 (n : Int) 65280 = ((n &&& 18446744073709486335 : Nat) : Int) := u64_andNot_nat n 65280 hlt (by decide)
    have hA : n &&& 18446744073709486335 < 18446744073709551616 := Nat.lt_of_le_of_lt Nat.and_le_left hlt
    generalize n &&& 18446744073709486335 = A at ha hA hv
    have ho : bits .or .u64 (A : Int) ((b : Int) * 256) = (z : Int) := by
      rw [← hv, show ((b : Int) * 256) = ((b * 256 : Nat) : Int) by omega]
      exact u64_or_nat A (b * 256) hA (by omega)
    clear hv hA
    go_enter Try.func91, Try.ntmps91
    go_wp2_with fail
    refine (H _).mono ?_
    rintro e w ⟨rfl, rfl⟩
    go_wp2
    go_quiet (fail)
    go_wp2
    go_ret
    exact ⟨rfl, HB.out _⟩
  · replace hv : (n &&& 18446744073692839935) ||| (b * 65536) = z := hv
    have ha : bits .andNot .u64 (n : Int) 16711680 = ((n &&& 18446744073692839935 : Nat) : Int) := u64_andNot_nat n 16711680 hlt (by decide)
    have hA : n &&& 18446744073692839935 < 18446744073709551616 := Nat.lt_of_le_of_lt Nat.and_le_left hlt
    generalize n &&& 18446744073692839935 = A at ha hA hv
    have ho : bits .or .u64 (A : Int) ((b : Int) * 65536) = (z : Int) := by
      rw [← hv, show ((b : Int) * 65536) = ((b * 65536 : Nat) : Int) by omega]
      exact u64_or_nat A (b * 65536) hA (by omega)
    clear hv hA
    go_enter Try.func91, Try.ntmps91
    go_wp2_with fail
    refine (H _).mono ?_
    rintro e w ⟨rfl, rfl⟩
    go_wp2
    go_quiet (fail)
    go_wp2
    go_ret
    exact ⟨rfl, HB.out _⟩
  · replace hv : (n &&& 18446744069431361535) ||| (b * 16777216) = z := hv
    have ha : bits .andNot .u64 (n : Int) 4278190080 = ((n &&& 18446744069431361535 : Nat) : Int) := u64_andNot_nat n 4278190080 hlt (by decide)
    have hA : n &&& 18446744069431361535 < 18446744073709551616 := Nat.lt_of_le_of_lt Nat.and_le_left hlt
    generalize n &&& 18446744069431361535 = A at ha hA hv
    have ho : bits .or .u64 (A : Int) ((b : Int) * 16777216) = (z : Int) := by
      rw [← hv, show ((b : Int) * 16777216) = ((b * 16777216 : Nat) : Int) by omega]
      exact u64_or_nat A (b * 16777216) hA (by omega)
    clear hv hA
    go_enter Try.func91, Try.ntmps91
    go_wp2_with fail
    refine (H _).mono ?_
    rintro e w ⟨rfl, rfl⟩
    go_wp2
    go_quiet (fail)
    go_wp2
    go_ret
    exact ⟨rfl, HB.out _⟩
  · replace hv : (n &&& 18446742978492891135) ||| (b * 4294967296) = z := hv
    have ha : bits .andNot .u64 (n : Int) 1095216660480 = ((n &&& 18446742978492891135 : Nat) : Int) := u64_andNot_nat n 1095216660480 hlt (by decide)
    have hA : n &&& 18446742978492891135 < 18446744073709551616 := Nat.lt_of_le_of_lt Nat.and_le_left hlt
    generalize n &&& 18446742978492891135 = A at ha hA hv
    have ho : bits .or .u64 (A : Int) ((b : Int) * 4294967296) = (z : Int) := by
      rw [← hv, show ((b : Int) * 4294967296) = ((b * 4294967296 : Nat) : Int) by omega]
      exact u64_or_nat A (b * 4294967296) hA (by omega)
    clear hv hA
    go_enter Try.func91, Try.ntmps91
    go_wp2_with fail
    refine (H _).mono ?_
    rintro e w ⟨rfl, rfl⟩
    go_wp2
    go_quiet (fail)
    go_wp2
    go_ret
    exact ⟨rfl, HB.out _⟩
  · replace hv : (n &&& 18446463698244468735) ||| (b * 1099511627776) = z := hv
    have ha : bits .andNot .u64 (n : Int) 280375465082880 = ((n &&& 18446463698244468735 : Nat) : Int) := u64_andNot_nat n 280375465082880 hlt (by decide)
    have hA : n &&& 18446463698244468735 < 18446744073709551616 := Nat.lt_of_le_of_lt Nat.and_le_left hlt
    generalize n &&& 18446463698244468735 = A at ha hA hv
    have ho : bits .or .u64 (A : Int) ((b : Int) * 1099511627776) = (z : Int) := by
      rw [← hv, show ((b : Int) * 1099511627776) = ((b * 1099511627776 : Nat) : Int) by omega]
      exact u64_or_nat A (b * 1099511627776) hA (by omega)
    clear hv hA
    go_enter Try.func91, Try.ntmps91
    go_wp2_with fail
    refine (H _).mono ?_
    rintro e w ⟨rfl, rfl⟩
    go_wp2
    go_quiet (fail)
    go_wp2
    go_ret
    exact ⟨rfl, HB.out _⟩
  · replace hv : (n &&& 18374967954648334335) ||| (b * 281474976710656) = z := hv
    have ha : bits .andNot .u64 (n : Int) 71776119061217280 = ((n &&& 18374967954648334335 : Nat) : Int) := u64_andNot_nat n 71776119061217280 hlt (by decide)
    have hA : n &&& 18374967954648334335 < 18446744073709551616 := Nat.lt_of_le_of_lt Nat.and_le_left hlt
    generalize n &&& 18374967954648334335 = A at ha hA hv
    have ho : bits .or .u64 (A : Int) ((b : Int) * 281474976710656) = (z : Int) := by
      rw [← hv, show ((b : Int) * 281474976710656) = ((b * 281474976710656 : Nat) : Int) by omega]
      exact u64_or_nat A (b * 281474976710656) hA (by omega)
    clear hv hA
    go_enter Try.func91, Try.ntmps91
    go_wp2_with fail
    refine (H _).mono ?_
    rintro e w ⟨rfl, rfl⟩
    go_wp2
    go_quiet (fail)
    go_wp2
    go_ret
    exact ⟨rfl, HB.out _⟩
  · replace hv : (n &&& 72057594037927935) ||| (b * 72057594037927936) = z := hv
    have ha : bits .andNot .u64 (n : Int) 18374686479671623680 = ((n &&& 72057594037927935 : Nat) : Int) := u64_andNot_nat n 18374686479671623680 hlt (by decide)
    have hA : n &&& 72057594037927935 < 18446744073709551616 := Nat.lt_of_le_of_lt Nat.and_le_left hlt
    generalize n &&& 72057594037927935 = A at ha hA hv
    have ho : bits .or .u64 (A : Int) ((b : Int) * 72057594037927936) = (z : Int) := by
      rw [← hv, show ((b : Int) * 72057594037927936) = ((b * 72057594037927936 : Nat) : Int) by omega]
      exact u64_or_nat A (b * 72057594037927936) hA (by omega)
    clear hv hA
    go_enter Try.func91, Try.ntmps91
    go_wp2_with fail
    refine (H _).mono ?_
    rintro e w ⟨rfl, rfl⟩
    go_wp2
    go_quiet (fail)
    go_wp2
    go_ret
    exact ⟨rfl, HB.out _⟩
end Go.Proofs.Ytejnmikbbnckeaa
