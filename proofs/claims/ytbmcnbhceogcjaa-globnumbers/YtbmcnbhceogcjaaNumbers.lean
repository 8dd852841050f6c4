/-
  The law GlobNumbers, walked.
-/
import Derived.Test.YtbmcnbhceogcjaaKeep
import Derived.Test.YtbmcnbhceogcjaaRefMatch
namespace Go.Proofs.Ytbmcnbhceogcjaa
open Go.RowKit Go.PlainAid

/-- The texts of the closed sentence, by their places. -/
def textAt (j : Nat) : ByteArray := [⟨#[]⟩, ⟨#[97]⟩, ⟨#[98]⟩, ⟨#[97, 98]⟩, ⟨#[98, 97]⟩, ⟨#[97, 97, 98]⟩, ⟨#[93]⟩, ⟨#[45]⟩, ⟨#[94]⟩, ⟨#[92]⟩, ⟨#[91]⟩, ⟨#[42]⟩, ⟨#[63]⟩, ⟨#[97, 93]⟩, ⟨#[97, 98, 99]⟩, ⟨#[255]⟩].getD j ⟨#[]⟩
theorem size_textAt (j : Nat) (h : j < 16) : (textAt j).size ≤ 10 := by
  have : ∀ j : Fin 16, (textAt j.1).size ≤ 10 := by decide
  exact this ⟨j, h⟩
/-- Its patterns. -/
def patAt (j : Nat) : ByteArray := [⟨#[]⟩, ⟨#[42]⟩, ⟨#[42, 42]⟩, ⟨#[63]⟩, ⟨#[97, 42]⟩, ⟨#[42, 97]⟩, ⟨#[97, 63]⟩, ⟨#[91, 97, 93]⟩, ⟨#[91, 94, 97, 93]⟩, ⟨#[91, 97, 45, 99, 93]⟩, ⟨#[91, 99, 45, 97, 93]⟩, ⟨#[91, 93]⟩, ⟨#[91, 93, 97, 93]⟩, ⟨#[91, 97]⟩, ⟨#[91, 94]⟩, ⟨#[91]⟩, ⟨#[91, 97, 45]⟩, ⟨#[91, 97, 45, 93]⟩, ⟨#[91, 92, 93, 93]⟩, ⟨#[91, 92]⟩, ⟨#[92]⟩, ⟨#[92, 97]⟩, ⟨#[92, 42]⟩, ⟨#[97, 92]⟩, ⟨#[42, 63, 42]⟩, ⟨#[91, 97, 45, 98, 45, 93, 42]⟩, ⟨#[91, 94, 97, 45, 98, 93, 63]⟩, ⟨#[97, 42, 42, 98]⟩, ⟨#[42, 91, 98, 93]⟩, ⟨#[91, 92, 97, 45, 98, 93]⟩, ⟨#[91, 97, 45, 92, 93]⟩].getD j ⟨#[]⟩
theorem size_patAt (j : Nat) (h : j < 31) : (patAt j).size ≤ 10 := by
  have : ∀ j : Fin 31, (patAt j.1).size ≤ 10 := by decide
  exact this ⟨j, h⟩
theorem cell_text (w : World) (j : Nat) (h : j < 16) : (w.alloc (.cells #[.string ⟨#[]⟩, .string ⟨#[97]⟩, .string ⟨#[98]⟩, .string ⟨#[97, 98]⟩, .string ⟨#[98, 97]⟩, .string ⟨#[97, 97, 98]⟩, .string ⟨#[93]⟩, .string ⟨#[45]⟩, .string ⟨#[94]⟩, .string ⟨#[92]⟩, .string ⟨#[91]⟩, .string ⟨#[42]⟩, .string ⟨#[63]⟩, .string ⟨#[97, 93]⟩, .string ⟨#[97, 98, 99]⟩, .string ⟨#[255]⟩] 9)).cell? ⟨w.heap.size, j, none⟩ = some (.string (textAt j)) := by
  rcases j with _|_|_|_|_|_|_|_|_|_|_|_|_|_|_|_|j
  all_goals first | omega | (simp; rfl)
theorem cell_pat (w : World) (j : Nat) (h : j < 31) : (w.alloc (.cells #[.string ⟨#[]⟩, .string ⟨#[42]⟩, .string ⟨#[42, 42]⟩, .string ⟨#[63]⟩, .string ⟨#[97, 42]⟩, .string ⟨#[42, 97]⟩, .string ⟨#[97, 63]⟩, .string ⟨#[91, 97, 93]⟩, .string ⟨#[91, 94, 97, 93]⟩, .string ⟨#[91, 97, 45, 99, 93]⟩, .string ⟨#[91, 99, 45, 97, 93]⟩, .string ⟨#[91, 93]⟩, .string ⟨#[91, 93, 97, 93]⟩, .string ⟨#[91, 97]⟩, .string ⟨#[91, 94]⟩, .string ⟨#[91]⟩, .string ⟨#[91, 97, 45]⟩, .string ⟨#[91, 97, 45, 93]⟩, .string ⟨#[91, 92, 93, 93]⟩, .string ⟨#[91, 92]⟩, .string ⟨#[92]⟩, .string ⟨#[92, 97]⟩, .string ⟨#[92, 42]⟩, .string ⟨#[97, 92]⟩, .string ⟨#[42, 63, 42]⟩, .string ⟨#[91, 97, 45, 98, 45, 93, 42]⟩, .string ⟨#[91, 94, 97, 45, 98, 93, 63]⟩, .string ⟨#[97, 42, 42, 98]⟩, .string ⟨#[42, 91, 98, 93]⟩, .string ⟨#[91, 92, 97, 45, 98, 93]⟩, .string ⟨#[91, 97, 45, 92, 93]⟩] 9)).cell? ⟨w.heap.size, j, none⟩ = some (.string (patAt j)) := by
  rcases j with _|_|_|_|_|_|_|_|_|_|_|_|_|_|_|_|_|_|_|_|_|_|_|_|_|_|_|_|_|_|_|j
  all_goals first | omega | (simp; rfl)

/-- Both rows in memory. -/
structure Both (w wr : World) (A B : Nat) : Prop where
  below : Below w.heap.size w wr
  sa : A < wr.heap.size
  sb : B < wr.heap.size
  text : ∀ j, j < 16 → wr.cell? ⟨A, j, none⟩ = some (.string (textAt j))
  pat : ∀ j, j < 31 → wr.cell? ⟨B, j, none⟩ = some (.string (patAt j))
theorem Both.keep {w wr wn : World} {A B : Nat} (h : Both w wr A B) (hb : Below wr.heap.size wr wn) : Both w wn A B where
  below := h.below.trans (hb.mono h.below.size)
  sa := Nat.lt_of_lt_of_le h.sa hb.size
  sb := Nat.lt_of_lt_of_le h.sb hb.size
  text j hj := by rw [hb.cell (p := ⟨A, j, none⟩) h.sa]; exact h.text j hj
  pat j hj := by rw [hb.cell (p := ⟨B, j, none⟩) h.sb]; exact h.pat j hj

theorem plains_snoc (s : ByteArray) (k : Nat) (h : k < s.size) : plains ((lst s).take (k + 1)) = (plains ((lst s).take k) && plainB (s[k]'h)) := by
  rw [show (lst s).take (k + 1) = (lst s).take k ++ [s[k]] by rw [List.take_succ_eq_append_getElem (by simpa using h)]; rfl]
  unfold plains
  rw [List.all_append]; simp
theorem plainB_no {x : UInt8} {c : Int} (hc : (x.toNat : Int) = c) (hx : c = 42 ∨ c = 63 ∨ c = 91 ∨ c = 92) : plainB x = false := by
  unfold plainB; exact decide_eq_false (by omega)
theorem plainB_yes {x : UInt8} {c : Int} (hc : (x.toNat : Int) = c) (h1 : c ≠ 42) (h2 : c ≠ 63) (h3 : c ≠ 91) (h4 : c ≠ 92) : plainB x = true := by
  unfold plainB; exact decide_eq_true (by omega)

set_option maxRecDepth 100000 in
set_option maxHeartbeats 8000000 in
theorem numbers_any (w : World) : Calls Try.prog 3 #[] w fun e w' => e = .returned (.bool true) ∧ Below w.heap.size w w' := by
  obtain ⟨wt, hwt⟩ : ∃ wt, w.alloc (.cells #[.string ⟨#[]⟩, .string ⟨#[97]⟩, .string ⟨#[98]⟩, .string ⟨#[97, 98]⟩, .string ⟨#[98, 97]⟩, .string ⟨#[97, 97, 98]⟩, .string ⟨#[93]⟩, .string ⟨#[45]⟩, .string ⟨#[94]⟩, .string ⟨#[92]⟩, .string ⟨#[91]⟩, .string ⟨#[42]⟩, .string ⟨#[63]⟩, .string ⟨#[97, 93]⟩, .string ⟨#[97, 98, 99]⟩, .string ⟨#[255]⟩] 9) = wt := ⟨_, rfl⟩
  obtain ⟨wp, hwp⟩ : ∃ wp, wt.alloc (.cells #[.string ⟨#[]⟩, .string ⟨#[42]⟩, .string ⟨#[42, 42]⟩, .string ⟨#[63]⟩, .string ⟨#[97, 42]⟩, .string ⟨#[42, 97]⟩, .string ⟨#[97, 63]⟩, .string ⟨#[91, 97, 93]⟩, .string ⟨#[91, 94, 97, 93]⟩, .string ⟨#[91, 97, 45, 99, 93]⟩, .string ⟨#[91, 99, 45, 97, 93]⟩, .string ⟨#[91, 93]⟩, .string ⟨#[91, 93, 97, 93]⟩, .string ⟨#[91, 97]⟩, .string ⟨#[91, 94]⟩, .string ⟨#[91]⟩, .string ⟨#[91, 97, 45]⟩, .string ⟨#[91, 97, 45, 93]⟩, .string ⟨#[91, 92, 93, 93]⟩, .string ⟨#[91, 92]⟩, .string ⟨#[92]⟩, .string ⟨#[92, 97]⟩, .string ⟨#[92, 42]⟩, .string ⟨#[97, 92]⟩, .string ⟨#[42, 63, 42]⟩, .string ⟨#[91, 97, 45, 98, 45, 93, 42]⟩, .string ⟨#[91, 94, 97, 45, 98, 93, 63]⟩, .string ⟨#[97, 42, 42, 98]⟩, .string ⟨#[42, 91, 98, 93]⟩, .string ⟨#[91, 92, 97, 45, 98, 93]⟩, .string ⟨#[91, 97, 45, 92, 93]⟩] 9) = wp := ⟨_, rfl⟩
  have HI : Hid (Both w wp w.heap.size wt.heap.size) := by
    have hb1 : Below w.heap.size w wt := by rw [← hwt]; exact (Below.refl _ _).alloc (Nat.le_refl _) _
    have hb2 : Below wt.heap.size wt wp := by rw [← hwp]; exact (Below.refl _ _).alloc (Nat.le_refl _) _
    have h1 : w.heap.size < wt.heap.size := by rw [← hwt]; simp
    have h2 : wt.heap.size < wp.heap.size := by rw [← hwp]; simp
    refine ⟨hb1.trans (hb2.mono hb1.size), by omega, h2, fun j hj => ?_, fun j hj => ?_⟩
    · rw [hb2.cell (p := ⟨w.heap.size, j, none⟩) h1, ← hwt]; exact cell_text w j hj
    · rw [← hwp]; exact cell_pat wt j hj
  obtain ⟨A, hA⟩ : ∃ A, w.heap.size = A := ⟨_, rfl⟩
  obtain ⟨B, hB⟩ : ∃ B, wt.heap.size = B := ⟨_, rfl⟩
  have HI2 : Hid (Both w wp A B) := by show Both _ _ _ _; rw [← hA, ← hB]; exact HI.out
  have HAw : Hid (w.heap.size = A) := hA
  clear HI
  go_enter Try.func3, Try.ntmps3
  go_wp2
  clear hA hB hwt hwp
  go_loopg [11] 31 (fun g iv wr => ∃ k : Nat, k + g = 31 ∧ iv = .int .i64 k ∧ Hid (Both w wr A B))
  case atStart => exact ⟨0, by omega, rfl, HI2⟩
  case round =>
    clear HI2
    obtain ⟨i, hi, rfl, H⟩ := hrel
    obtain ⟨wa, hwa⟩ : ∃ wa, wa = wr := ⟨_, rfl⟩
    subst hwa
    obtain ⟨ga, hga⟩ : ∃ ga, ga = gk := ⟨_, rfl⟩
    subst hga
    by_cases hlt : i < 31
    · have hcp := H.out.pat i hlt
      have hps := size_patAt i hlt
      generalize patAt i = p at hcp hps
      have hlt' : (i : Int) < 31 := by omega
      go_wp2
      clear hcp
      go_loopg [17] 16 (fun g jv wr => ∃ k : Nat, k + g = 16 ∧ jv = .int .i64 k ∧ Hid (Both w wr A B))
      case atStart => exact ⟨0, by omega, rfl, H⟩
      case round =>
        clear H
        obtain ⟨j, hj, rfl, H⟩ := hrel
        obtain ⟨wb, hwb⟩ : ∃ wb, wb = wr := ⟨_, rfl⟩
        subst hwb
        by_cases hjt : j < 16
        · have hct := H.out.text j hjt
          have hts := size_textAt j hjt
          generalize textAt j = t at hct hts
          have HM := fun w => Match_any p t w (by unfold maxLen; omega) (by unfold maxLen; omega)
          have HR := fun w => refMatch_any p t w (by unfold maxLen; omega) (by omega)
          generalize mat (lst p) (lst t) = R at HM HR
          go_wp2_with fail
          refine (HM _).mono ?_
          rintro e v1 ⟨hb, rfl⟩
          have H1 : Hid (Both w v1 A B) := H.out.keep hb
          clear hb H hct
          go_wp2_with fail
          refine (HR _).mono ?_
          rintro e v2 ⟨hb, rfl⟩
          have H2 : Hid (Both w v2 A B) := H1.out.keep hb
          clear hb H1
          go_wp2
          go_roundg (gk - 1)
          case measure => omega
          case rel => exact ⟨j + 1, by omega, by go_num, H2⟩
        · have HPl := fun w => Plain_any p w (by unfold maxLen; omega)
          have hjn : ¬ ((j : Int) < 16) := by omega
          go_wp2
          clear hjt hj
          go_loopg [6, 7] p.size (fun g ov kv wr => wb = wr ∧ ∃ (k : Nat) (o : Bool), k + g = p.size ∧ ov = .bool o ∧ kv = .int .i64 k ∧ Hid (plains ((lst p).take k) = o))
          case atStart => exact ⟨rfl, 0, true, by omega, rfl, rfl, rfl⟩
          case round =>
            obtain ⟨rfl, k, o, hk, rfl, rfl, HO⟩ := hrel
            by_cases hkl : k < p.size
            · have HN : Hid (plains ((lst p).take (k + 1)) = (o && plainB (p[k]'hkl))) := by
                show _ = _; rw [plains_snoc p k hkl, HO.out]
              obtain ⟨c, hc⟩ : ∃ c : Int, ((p[k]'hkl).toNat : Int) = c := ⟨_, rfl⟩
              have hcb := byte_le _ hc
              have HC : Hid (((p[k]'hkl).toNat : Int) = c) := hc
              clear HO
              cases o with
              | false =>
                rw [Bool.false_and] at HN
                go_wp2
                go_roundg (gk - 1)
                case measure => omega
                case rel => exact ⟨rfl, k + 1, false, by omega, rfl, by go_num, HN⟩
              | true =>
                rw [Bool.true_and] at HN
                by_cases h42 : c = 42
                · rw [plainB_no HC.out (by omega)] at HN
                  subst h42
                  go_wp2
                  go_roundg (gk - 1)
                  case measure => omega
                  case rel => exact ⟨rfl, k + 1, false, by omega, rfl, by go_num, HN⟩
                by_cases h63 : c = 63
                · rw [plainB_no HC.out (by omega)] at HN
                  subst h63
                  go_wp2
                  go_roundg (gk - 1)
                  case measure => omega
                  case rel => exact ⟨rfl, k + 1, false, by omega, rfl, by go_num, HN⟩
                by_cases h91 : c = 91
                · rw [plainB_no HC.out (by omega)] at HN
                  subst h91
                  go_wp2
                  go_roundg (gk - 1)
                  case measure => omega
                  case rel => exact ⟨rfl, k + 1, false, by omega, rfl, by go_num, HN⟩
                by_cases h92 : c = 92
                · rw [plainB_no HC.out (by omega)] at HN
                  subst h92
                  go_wp2
                  go_roundg (gk - 1)
                  case measure => omega
                  case rel => exact ⟨rfl, k + 1, false, by omega, rfl, by go_num, HN⟩
                rw [plainB_yes HC.out h42 h63 h91 h92] at HN
                have hq1 : (c == 42) = false := by simpa using h42
                have hn1 : (c != 42) = true := by simpa using h42
                have hq2 : (c == 63) = false := by simpa using h63
                have hn2 : (c != 63) = true := by simpa using h63
                have hq3 : (c == 91) = false := by simpa using h91
                have hn3 : (c != 91) = true := by simpa using h91
                have hq4 : (c == 92) = false := by simpa using h92
                have hn4 : (c != 92) = true := by simpa using h92
                clear h42 h63 h91 h92
                go_wp2
                go_roundg (gk - 1)
                case measure => omega
                case rel => exact ⟨rfl, k + 1, true, by omega, rfl, by go_num, HN⟩
            · have HE : Hid (plains (lst p) = o) := by
                have := HO.out
                rw [List.take_of_length_le (by rw [len_lst]; omega)] at this; exact this
              rw [HE.out] at HPl
              clear HO HE
              cases o with
              | false =>
                go_wp2_with fail
                refine (HPl _).mono ?_
                rintro e wb ⟨rfl, rfl⟩
                go_wp2
                go_roundg (ga - 1)
                case measure => omega
                case rel => exact ⟨i + 1, by omega, by go_num, H⟩
              | true =>
                go_wp2_with fail
                refine (HPl _).mono ?_
                rintro e wb ⟨rfl, rfl⟩
                go_wp2
                go_roundg (ga - 1)
                case measure => omega
                case rel => exact ⟨i + 1, by omega, by go_num, H⟩
    · have HB : Hid (Below w.heap.size w wa) := H.out.below
      clear H
      go_wp2_with fail
      refine (known_any _).mono ?_
      rintro e v1 ⟨hb, rfl⟩
      have H1 := step_below HB hb
      clear hb
      go_wp2
      go_ret
      exact ⟨rfl, H1.out⟩
end Go.Proofs.Ytbmcnbhceogcjaa
