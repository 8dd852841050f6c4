/-
  The law GlobTells, walked.
-/
import Derived.Test.YtbmcnbhceogcjaaOpen
import Derived.Test.YtbmcnbhceogcjaaRefMatch
namespace Go.Proofs.Ytbmcnbhceogcjaa
open Go.RowKit Go.PlainAid

/-- The pieces that the law's patterns are made of. -/
def pieceAt (j : Nat) : ByteArray := [⟨#[42]⟩, ⟨#[63]⟩, ⟨#[97]⟩, ⟨#[98]⟩, ⟨#[91, 97, 98, 93]⟩, ⟨#[91, 94, 97, 93]⟩, ⟨#[91, 97, 45, 99, 93]⟩, ⟨#[92, 97]⟩, ⟨#[91]⟩, ⟨#[93]⟩, ⟨#[94]⟩, ⟨#[45]⟩].getD j ⟨#[]⟩
theorem size_pieceAt (j : Nat) (h : j < 12) : (pieceAt j).size ≤ 5 := by
  have : ∀ j : Fin 12, (pieceAt j.1).size ≤ 5 := by decide
  exact this ⟨j, h⟩
theorem cell_piece (w : World) (j : Nat) (h : j < 12) : (w.alloc (.cells #[.string ⟨#[42]⟩, .string ⟨#[63]⟩, .string ⟨#[97]⟩, .string ⟨#[98]⟩, .string ⟨#[91, 97, 98, 93]⟩, .string ⟨#[91, 94, 97, 93]⟩, .string ⟨#[91, 97, 45, 99, 93]⟩, .string ⟨#[92, 97]⟩, .string ⟨#[91]⟩, .string ⟨#[93]⟩, .string ⟨#[94]⟩, .string ⟨#[45]⟩] 9)).cell? ⟨w.heap.size, j, none⟩ = some (.string (pieceAt j)) := by
  rcases j with _|_|_|_|_|_|_|_|_|_|_|_|j
  all_goals first | omega | (simp; rfl)

set_option maxRecDepth 100000 in
set_option maxHeartbeats 4000000 in
theorem tells_any (p0 s0 : ByteArray) (a : Option Addr) (len cap : Nat) (z : Nat → Int) (w : World) (hI : Ints w a len z) :
    Calls Try.prog 4 #[.string p0, .string s0, .slice a len cap] w fun e w' => e = .returned (.bool true) ∧ Below w.heap.size w w' := by
  have hlen : len ≤ 9223372036854775807 := hI.1
  have HL : Hid (Ints w a len z) := hI
  have H0 : Hid (Below w.heap.size w w) := Below.refl _ _
  clear hI
  go_enter Try.func4, Try.ntmps4
  go_wp2_with fail
  refine (Cut_any p0 30 _ (by decide)).mono ?_
  rintro e w ⟨rfl, rfl⟩
  have hp := size_cutB p0 30 (by omega)
  generalize cutB p0 30 = p at hp
  go_wp2_with fail
  refine (Cut_any s0 40 _ (by decide)).mono ?_
  rintro e w ⟨rfl, rfl⟩
  have hs := size_cutB s0 40 (by omega)
  generalize cutB s0 40 = s at hs
  go_wp2_with fail
  go_loopg [7, 8] 12 (fun g qv iv wr => ∃ (k : Nat) (q : ByteArray), k + g = 12 ∧ qv = .string q ∧ iv = .int .i64 k ∧ q.size ≤ 5 * k ∧ Hid (Below w.heap.size w wr))
  case atStart => exact ⟨0, ⟨#[]⟩, by omega, rfl, rfl, by decide, H0⟩
  case round =>
    obtain ⟨k, q, hk, rfl, rfl, hq, HB⟩ := hrel
    by_cases hlt : k < len
    · by_cases h12 : k < 12
      · obtain ⟨b, off, ha, hcell⟩ := (HL.out.keep HB.out).2 k hlt
        subst ha
        generalize z k = zk at hcell
        have hbl := World.block_lt_of_cell? _ _ hcell
        have hcell2 := (World.cell?_alloc_past (w := wr) (.cells #[.string ⟨#[42]⟩, .string ⟨#[63]⟩, .string ⟨#[97]⟩, .string ⟨#[98]⟩, .string ⟨#[91, 97, 98, 93]⟩, .string ⟨#[91, 94, 97, 93]⟩, .string ⟨#[91, 97, 45, 99, 93]⟩, .string ⟨#[92, 97]⟩, .string ⟨#[91]⟩, .string ⟨#[93]⟩, .string ⟨#[94]⟩, .string ⟨#[45]⟩] 9) b (off + k) hbl).trans hcell
        have HCP : Hid (∀ j, j < 12 → (wr.alloc (.cells #[.string ⟨#[42]⟩, .string ⟨#[63]⟩, .string ⟨#[97]⟩, .string ⟨#[98]⟩, .string ⟨#[91, 97, 98, 93]⟩, .string ⟨#[91, 94, 97, 93]⟩, .string ⟨#[91, 97, 45, 99, 93]⟩, .string ⟨#[92, 97]⟩, .string ⟨#[91]⟩, .string ⟨#[93]⟩, .string ⟨#[94]⟩, .string ⟨#[45]⟩] 9)).cell? ⟨wr.heap.size, j, none⟩ = some (.string (pieceAt j))) := fun j hj => cell_piece wr j hj
        have HB2 : Hid (Below w.heap.size w (wr.alloc (.cells #[.string ⟨#[42]⟩, .string ⟨#[63]⟩, .string ⟨#[97]⟩, .string ⟨#[98]⟩, .string ⟨#[91, 97, 98, 93]⟩, .string ⟨#[91, 94, 97, 93]⟩, .string ⟨#[91, 97, 45, 99, 93]⟩, .string ⟨#[92, 97]⟩, .string ⟨#[91]⟩, .string ⟨#[93]⟩, .string ⟨#[94]⟩, .string ⟨#[45]⟩] 9))) := HB.out.alloc HB.out.size _
        obtain ⟨wn, hwn⟩ : ∃ wn, wr.alloc (.cells #[.string ⟨#[42]⟩, .string ⟨#[63]⟩, .string ⟨#[97]⟩, .string ⟨#[98]⟩, .string ⟨#[91, 97, 98, 93]⟩, .string ⟨#[91, 94, 97, 93]⟩, .string ⟨#[91, 97, 45, 99, 93]⟩, .string ⟨#[92, 97]⟩, .string ⟨#[91]⟩, .string ⟨#[93]⟩, .string ⟨#[94]⟩, .string ⟨#[45]⟩] 9) = wn := ⟨_, rfl⟩
        rw [hwn] at hcell2 HCP HB2
        obtain ⟨B, hB⟩ : ∃ B, wr.heap.size = B := ⟨_, rfl⟩
        rw [hB] at HCP
        clear hcell hbl HB
        go_wp2_with fail
        refine (Within_any zk 1048576 _ (by omega) (by omega)).mono ?_
        rintro e w1 ⟨rfl, y, hy0, hy1, rfl⟩
        obtain ⟨m, hm, hm12⟩ : ∃ m : Nat, y.tmod 12 = (m : Int) ∧ m < 12 := ⟨(y.tmod 12).toNat, by have := Int.tmod_nonneg 12 hy0; omega, by have := Int.tmod_lt_of_pos y (b := 12) (by omega); omega⟩
        have hcm := HCP.out m hm12
        have hpm := size_pieceAt m hm12
        generalize pieceAt m = pm at hcm hpm
        clear hwn hB HCP hcell2
        go_wp2
        go_roundg (gk - 1)
        case measure => omega
        case rel => exact ⟨k + 1, _, by omega, rfl, by go_num, by rw [ByteArray.size_append]; omega, HB2⟩
      · have HA := fun w => Match_any p s w (by unfold maxLen; omega) (by unfold maxLen; omega)
        have HRA := fun w => refMatch_any p s w (by unfold maxLen; omega) (by omega)
        have HQ := fun w => Match_any q s w (by unfold maxLen; omega) (by unfold maxLen; omega)
        have HRQ := fun w => refMatch_any q s w (by unfold maxLen; omega) (by omega)
        have HP := fun w => Match_any p p w (by unfold maxLen; omega) (by unfold maxLen; omega)
        have HRP := fun w => refMatch_any p p w (by unfold maxLen; omega) (by omega)
        generalize mat (lst p) (lst s) = R1 at HA HRA
        generalize mat (lst q) (lst s) = R2 at HQ HRQ
        generalize mat (lst p) (lst p) = R3 at HP HRP
        clear hk HL
        go_wp2_with fail
        refine (HA _).mono ?_
        rintro e v0 ⟨hb, rfl⟩
        have G0 := step_below HB hb
        clear hb
        go_wp2_with fail
        refine (HRA _).mono ?_
        rintro e v1 ⟨hb, rfl⟩
        have G1 := step_below G0 hb
        clear hb
        go_wp2_with fail
        refine (HQ _).mono ?_
        rintro e v2 ⟨hb, rfl⟩
        have G2 := step_below G1 hb
        clear hb
        go_wp2_with fail
        refine (HRQ _).mono ?_
        rintro e v3 ⟨hb, rfl⟩
        have G3 := step_below G2 hb
        clear hb
        go_wp2_with fail
        refine (HP _).mono ?_
        rintro e v4 ⟨hb, rfl⟩
        have G4 := step_below G3 hb
        clear hb
        go_wp2_with fail
        refine (HRP _).mono ?_
        rintro e v5 ⟨hb, rfl⟩
        have G5 := step_below G4 hb
        clear hb
        go_wp2_with fail
        refine (known_any _).mono ?_
        rintro e v6 ⟨hb, rfl⟩
        have G6 := step_below G5 hb
        clear hb
        go_wp2
        go_ret
        exact ⟨rfl, G6.out⟩
    · have HA := fun w => Match_any p s w (by unfold maxLen; omega) (by unfold maxLen; omega)
      have HRA := fun w => refMatch_any p s w (by unfold maxLen; omega) (by omega)
      have HQ := fun w => Match_any q s w (by unfold maxLen; omega) (by unfold maxLen; omega)
      have HRQ := fun w => refMatch_any q s w (by unfold maxLen; omega) (by omega)
      have HP := fun w => Match_any p p w (by unfold maxLen; omega) (by unfold maxLen; omega)
      have HRP := fun w => refMatch_any p p w (by unfold maxLen; omega) (by omega)
      generalize mat (lst p) (lst s) = R1 at HA HRA
      generalize mat (lst q) (lst s) = R2 at HQ HRQ
      generalize mat (lst p) (lst p) = R3 at HP HRP
      clear hk HL
      go_wp2_with fail
      refine (HA _).mono ?_
      rintro e v0 ⟨hb, rfl⟩
      have G0 := step_below HB hb
      clear hb
      go_wp2_with fail
      refine (HRA _).mono ?_
      rintro e v1 ⟨hb, rfl⟩
      have G1 := step_below G0 hb
      clear hb
      go_wp2_with fail
      refine (HQ _).mono ?_
      rintro e v2 ⟨hb, rfl⟩
      have G2 := step_below G1 hb
      clear hb
      go_wp2_with fail
      refine (HRQ _).mono ?_
      rintro e v3 ⟨hb, rfl⟩
      have G3 := step_below G2 hb
      clear hb
      go_wp2_with fail
      refine (HP _).mono ?_
      rintro e v4 ⟨hb, rfl⟩
      have G4 := step_below G3 hb
      clear hb
      go_wp2_with fail
      refine (HRP _).mono ?_
      rintro e v5 ⟨hb, rfl⟩
      have G5 := step_below G4 hb
      clear hb
      go_wp2_with fail
      refine (known_any _).mono ?_
      rintro e v6 ⟨hb, rfl⟩
      have G6 := step_below G5 hb
      clear hb
      go_wp2
      go_ret
      exact ⟨rfl, G6.out⟩
end Go.Proofs.Ytbmcnbhceogcjaa
