/-
  A command as it is drawn: words of a table, and what Args makes of them.
-/
import Derived.Test.YtlapiaoopmhogaaDoorKn
import Derived.Test.YtlapiaoopmhogaaDoorCb
namespace Go.Proofs.YtlapiaoopmhogaaDoor
open Go.RowKit Go.PlainAid

theorem eltS : Elt 24 9 1 16 := elt_of Tryd.underlying24 Tryd.info9 rfl (by decide)
def tb40 : List ByteArray := [⟨#[97]⟩, ⟨#[98]⟩, ⟨#[99]⟩, ⟨#[100]⟩, ⟨#[49]⟩, ⟨#[50]⟩, ⟨#[48]⟩, ⟨#[45, 49]⟩, ⟨#[120]⟩, ⟨#[53]⟩, ⟨#[110, 120]⟩, ⟨#[120, 120]⟩, ⟨#[103, 101, 116]⟩, ⟨#[101, 120]⟩, ⟨#[112, 120]⟩, ⟨#[107, 101, 101, 112, 116, 116, 108]⟩, ⟨#[109, 97, 116, 99, 104]⟩, ⟨#[99, 111, 117, 110, 116]⟩, ⟨#[116, 121, 112, 101]⟩, ⟨#[42]⟩, ⟨#[98, 101, 102, 111, 114, 101]⟩, ⟨#[65, 70, 84, 69, 82]⟩, ⟨#[101, 110, 99, 111, 100, 105, 110, 103]⟩, ⟨#[115, 116, 114, 105, 110, 103]⟩, ⟨#[49, 48]⟩, ⟨#[51]⟩, ⟨#[45, 50]⟩, ⟨#[49, 48, 48]⟩, ⟨#[]⟩, ⟨#[104, 101, 108, 108, 111]⟩, ⟨#[121]⟩, ⟨#[49, 50, 120]⟩, ⟨#[57, 50, 50, 51, 51, 55, 50, 48, 51, 54, 56, 53, 52, 55, 55, 53, 56, 48, 55]⟩, ⟨#[63]⟩, ⟨#[104, 97, 115, 104]⟩, ⟨#[115, 101, 116]⟩, ⟨#[108, 105, 115, 116]⟩, ⟨#[49, 48, 48, 48]⟩, ⟨#[102, 49]⟩, ⟨#[102, 50]⟩]
def tb40B : Bool := tb40.all fun s => decide (s.size ≤ 60)
theorem tb40_short : tb40B = true := by kernel_rfl
theorem tb40_len : tb40.length = 40 := by kernel_rfl
theorem tb40_at (j : Nat) : (tb40.getD j ByteArray.empty).size ≤ 60 := by
  rw [List.getD_eq_getElem?_getD]
  cases h : tb40[j]? with
  | none => decide
  | some s => exact of_decide_eq_true (List.all_eq_true.1 tb40_short s (List.mem_of_getElem? h))

set_option maxRecDepth 100000 in
set_option maxHeartbeats 4000000 in
theorem table40_any (w : World) : Calls Tryd.prog 30 #[] w fun e w' => e = .returned (.slice (some ⟨w.heap.size, 0, none⟩) 40 40) ∧ Hid (RdS w' (some ⟨w.heap.size, 0, none⟩) 40 tb40) ∧ Hid (Below w.heap.size w w') := by
  go_enter Tryd.func30, Tryd.ntmps30
  go_wp2
  go_ret
  exact ⟨rfl, RdS.lit w tb40 _ 40 _ rfl tb40_len (by decide), alloc_below w _⟩

theorem keep2 (w : World) (N : Int) (S : ByteArray) {w1 : World} (h : Below (w.alloc (.cells #[.int .i64 N, .string S] 67)).heap.size (w.alloc (.cells #[.int .i64 N, .string S] 67)) w1) : w1.cell? ⟨w.heap.size, 0, none⟩ = some (.int .i64 N) ∧ w1.cell? ⟨w.heap.size, 1, none⟩ = some (.string S) :=
  ⟨by rw [h.cell (p := ⟨w.heap.size, 0, none⟩) (alloc_lt w _ _)]; exact cell_new w _ _ 0 _ rfl, by rw [h.cell (p := ⟨w.heap.size, 1, none⟩) (alloc_lt w _ _)]; exact cell_new w _ _ 1 _ rfl⟩
theorem RdS.at0 {w : World} {g n : Nat} {ls : List ByteArray} (h : RdS w (some ⟨g, 0, none⟩) n ls) (j : Nat) (hj : j < n) : w.cell? ⟨g, j, none⟩ = some (.string (ls.getD j ByteArray.empty)) := by
  obtain ⟨b, off, e, hc⟩ := h.cell j hj
  cases e
  rw [Nat.zero_add] at hc
  exact hc

set_option maxRecDepth 100000 in
theorem Of_any (N : Int) (S : ByteArray) (w : World) : Calls Tryd.prog 29 #[.agg #[.int .i64 N, .string S]] w fun e w' => Below w.heap.size w w' ∧ ∃ t : ByteArray, e = .returned (.string t) ∧ Hid (t.size ≤ 100) := by
  have HC := fun w => Cut_any S 60 w (by omega)
  have hcs := size_cutB S 60 (by omega)
  obtain ⟨C, hC⟩ : ∃ x, cutB S 60 = x := ⟨_, rfl⟩
  rw [hC] at HC hcs
  have HCs : Hid (C.size ≤ 100) := by show _ ≤ _; omega
  clear hC hcs
  by_cases h0 : N < 0
  · go_enter Tryd.func29, Tryd.ntmps29
    go_wp2_with (first
      | (go_at_call 30; refine (table40_any _).mono ?_; rintro e w1 ⟨rfl, HT, HB1⟩; have HB : Hid (Below w.heap.size w w1) := (alloc_below w _).trans (HB1.out.mono (alloc_below w _).size); have z0 := (keep2 w N S HB1.out).1; have z1 := (keep2 w N S HB1.out).2)
      | (go_at_call 27; refine (HC _).mono ?_; rintro e wc ⟨rfl, rfl⟩))
    go_ret
    exact ⟨HB.out, _, rfl, HCs⟩
  · by_cases h40 : (40 : Int) ≤ N
    · go_enter Tryd.func29, Tryd.ntmps29
      go_wp2_with (first
        | (go_at_call 30; refine (table40_any _).mono ?_; rintro e w1 ⟨rfl, HT, HB1⟩; have HB : Hid (Below w.heap.size w w1) := (alloc_below w _).trans (HB1.out.mono (alloc_below w _).size); have z0 := (keep2 w N S HB1.out).1; have z1 := (keep2 w N S HB1.out).2)
        | (go_at_call 27; refine (HC _).mono ?_; rintro e wc ⟨rfl, rfl⟩))
      go_ret
      exact ⟨HB.out, _, rfl, HCs⟩
    · obtain ⟨j, rfl⟩ := Int.eq_ofNat_of_zero_le (show 0 ≤ N by omega)
      have hj : j < 40 := by omega
      have hji : (j : Int) < 40 := by omega
      have HS : Hid ((tb40.getD j ByteArray.empty).size ≤ 100) := Nat.le_trans (tb40_at j) (by decide)
      go_enter Tryd.func29, Tryd.ntmps29
      go_wp2_with (go_at_call 30; refine (table40_any _).mono ?_; rintro e w1 ⟨rfl, HT, HB1⟩; have HB : Hid (Below w.heap.size w w1) := (alloc_below w _).trans (HB1.out.mono (alloc_below w _).size); have z0 := (keep2 w j S HB1.out).1; have z1 := (keep2 w j S HB1.out).2; have hcc := HT.out.at0 j hj; rw [show (w.alloc (.cells #[.int .i64 (j : Int), .string S] 67)).heap.size = w.heap.size + 1 by simp] at hcc)
      go_ret
      exact ⟨HB.out, _, rfl, HS⟩
end Go.Proofs.YtlapiaoopmhogaaDoor
