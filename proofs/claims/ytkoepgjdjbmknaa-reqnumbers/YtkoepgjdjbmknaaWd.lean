/-
  The law: chapter 19's runs, and each kind of request cut off.
-/
import Derived.Test.YtkoepgjdjbmknaaVj
import Derived.Test.YtkoepgjdjbmknaaLawEnd
namespace Go.Proofs.Ytkoepgjdjbmknaa
open Go.RowKit Go.PlainAid

def runs : List ByteArray := [⟨#[42, 48, 13, 10]⟩, ⟨#[42, 45, 49, 13, 10]⟩, ⟨#[42, 45, 50, 13, 10]⟩, ⟨#[42, 50, 53, 55, 13, 10]⟩, ⟨#[42, 50, 53, 54, 13, 10]⟩, ⟨#[42, 49, 13, 10, 36, 52, 13, 10, 80, 73, 78, 71, 13, 10]⟩, ⟨#[42, 50, 13, 10, 36, 49, 13, 10, 97, 13, 10, 36, 48, 13, 10, 13, 10, 42, 49, 13, 10, 36, 49, 13, 10, 98, 13, 10]⟩, ⟨#[42, 49, 13, 10, 36, 45, 49, 13, 10]⟩, ⟨#[42, 49, 13, 10, 36, 54, 53, 53, 51, 55, 13, 10]⟩, ⟨#[42, 49, 13, 10, 58, 49, 13, 10]⟩, ⟨#[42, 49, 13, 10, 36, 49, 13, 10, 97, 98, 99]⟩, ⟨#[42, 48, 49, 13, 10]⟩, ⟨#[10]⟩, ⟨#[13, 10]⟩, ⟨#[32, 32, 13, 10]⟩, ⟨#[97, 32, 98, 9, 99, 0, 100, 13, 10]⟩, ⟨#[97, 32, 34, 98, 32, 99, 34, 32, 39, 100, 32, 101, 39, 10]⟩, ⟨#[34, 97, 34, 98, 10]⟩, ⟨#[97, 34, 98, 32, 99, 34, 10]⟩, ⟨#[39, 105, 116, 92, 39, 115, 39, 10]⟩, ⟨#[34, 92, 110, 92, 114, 92, 116, 92, 92, 92, 34, 92, 120, 34, 10]⟩, ⟨#[34, 97, 10]⟩, ⟨#[39, 97, 10]⟩, ⟨#[42, 49, 49, 49, 49, 49, 49, 49, 49, 49, 49, 49, 49, 49, 49, 49, 49, 49, 49, 49, 49, 49, 49, 49, 49, 49, 49, 49, 49, 49, 49, 49, 49, 49]⟩, ⟨#[42, 49, 10, 36, 49, 13, 10]⟩, ⟨#[43, 79, 75, 13, 10]⟩, ⟨#[36, 49, 13, 10]⟩, ⟨#[34, 34, 32, 39, 39, 10]⟩, ⟨#[39, 97, 92, 98, 39, 10]⟩, ⟨#[34, 97, 92]⟩]
theorem runs_len : runs.length = 30 := rfl
theorem runs_size : ∀ s ∈ runs, s.size ≤ 40 := by decide
theorem runs_vals : runs.map Value.string = [.string ⟨#[42, 48, 13, 10]⟩, .string ⟨#[42, 45, 49, 13, 10]⟩, .string ⟨#[42, 45, 50, 13, 10]⟩, .string ⟨#[42, 50, 53, 55, 13, 10]⟩, .string ⟨#[42, 50, 53, 54, 13, 10]⟩, .string ⟨#[42, 49, 13, 10, 36, 52, 13, 10, 80, 73, 78, 71, 13, 10]⟩, .string ⟨#[42, 50, 13, 10, 36, 49, 13, 10, 97, 13, 10, 36, 48, 13, 10, 13, 10, 42, 49, 13, 10, 36, 49, 13, 10, 98, 13, 10]⟩, .string ⟨#[42, 49, 13, 10, 36, 45, 49, 13, 10]⟩, .string ⟨#[42, 49, 13, 10, 36, 54, 53, 53, 51, 55, 13, 10]⟩, .string ⟨#[42, 49, 13, 10, 58, 49, 13, 10]⟩, .string ⟨#[42, 49, 13, 10, 36, 49, 13, 10, 97, 98, 99]⟩, .string ⟨#[42, 48, 49, 13, 10]⟩, .string ⟨#[10]⟩, .string ⟨#[13, 10]⟩, .string ⟨#[32, 32, 13, 10]⟩, .string ⟨#[97, 32, 98, 9, 99, 0, 100, 13, 10]⟩, .string ⟨#[97, 32, 34, 98, 32, 99, 34, 32, 39, 100, 32, 101, 39, 10]⟩, .string ⟨#[34, 97, 34, 98, 10]⟩, .string ⟨#[97, 34, 98, 32, 99, 34, 10]⟩, .string ⟨#[39, 105, 116, 92, 39, 115, 39, 10]⟩, .string ⟨#[34, 92, 110, 92, 114, 92, 116, 92, 92, 92, 34, 92, 120, 34, 10]⟩, .string ⟨#[34, 97, 10]⟩, .string ⟨#[39, 97, 10]⟩, .string ⟨#[42, 49, 49, 49, 49, 49, 49, 49, 49, 49, 49, 49, 49, 49, 49, 49, 49, 49, 49, 49, 49, 49, 49, 49, 49, 49, 49, 49, 49, 49, 49, 49, 49, 49]⟩, .string ⟨#[42, 49, 10, 36, 49, 13, 10]⟩, .string ⟨#[43, 79, 75, 13, 10]⟩, .string ⟨#[36, 49, 13, 10]⟩, .string ⟨#[34, 34, 32, 39, 39, 10]⟩, .string ⟨#[39, 97, 92, 98, 39, 10]⟩, .string ⟨#[34, 97, 92]⟩] := rfl
theorem runs_own (w : World) : OwnS (w.alloc (.cells #[.string ⟨#[42, 48, 13, 10]⟩, .string ⟨#[42, 45, 49, 13, 10]⟩, .string ⟨#[42, 45, 50, 13, 10]⟩, .string ⟨#[42, 50, 53, 55, 13, 10]⟩, .string ⟨#[42, 50, 53, 54, 13, 10]⟩, .string ⟨#[42, 49, 13, 10, 36, 52, 13, 10, 80, 73, 78, 71, 13, 10]⟩, .string ⟨#[42, 50, 13, 10, 36, 49, 13, 10, 97, 13, 10, 36, 48, 13, 10, 13, 10, 42, 49, 13, 10, 36, 49, 13, 10, 98, 13, 10]⟩, .string ⟨#[42, 49, 13, 10, 36, 45, 49, 13, 10]⟩, .string ⟨#[42, 49, 13, 10, 36, 54, 53, 53, 51, 55, 13, 10]⟩, .string ⟨#[42, 49, 13, 10, 58, 49, 13, 10]⟩, .string ⟨#[42, 49, 13, 10, 36, 49, 13, 10, 97, 98, 99]⟩, .string ⟨#[42, 48, 49, 13, 10]⟩, .string ⟨#[10]⟩, .string ⟨#[13, 10]⟩, .string ⟨#[32, 32, 13, 10]⟩, .string ⟨#[97, 32, 98, 9, 99, 0, 100, 13, 10]⟩, .string ⟨#[97, 32, 34, 98, 32, 99, 34, 32, 39, 100, 32, 101, 39, 10]⟩, .string ⟨#[34, 97, 34, 98, 10]⟩, .string ⟨#[97, 34, 98, 32, 99, 34, 10]⟩, .string ⟨#[39, 105, 116, 92, 39, 115, 39, 10]⟩, .string ⟨#[34, 92, 110, 92, 114, 92, 116, 92, 92, 92, 34, 92, 120, 34, 10]⟩, .string ⟨#[34, 97, 10]⟩, .string ⟨#[39, 97, 10]⟩, .string ⟨#[42, 49, 49, 49, 49, 49, 49, 49, 49, 49, 49, 49, 49, 49, 49, 49, 49, 49, 49, 49, 49, 49, 49, 49, 49, 49, 49, 49, 49, 49, 49, 49, 49, 49]⟩, .string ⟨#[42, 49, 10, 36, 49, 13, 10]⟩, .string ⟨#[43, 79, 75, 13, 10]⟩, .string ⟨#[36, 49, 13, 10]⟩, .string ⟨#[34, 34, 32, 39, 39, 10]⟩, .string ⟨#[39, 97, 92, 98, 39, 10]⟩, .string ⟨#[34, 97, 92]⟩] 9)) w.heap.size (some ⟨w.heap.size, 0, none⟩) 30 30 runs := by
  refine ⟨rfl, .inr ⟨w.heap.size, 30, _, rfl, Nat.le_refl _, heap_alloc_new w _, Nat.le_refl _, by decide, rfl, rfl⟩⟩
theorem made_list (n : Nat) : madeCells #[.int .u8 0] n = (List.replicate n (Value.int .u8 0)).toArray := by
  apply Array.ext
  · simp [madeCells]
  · intro i h1 h2
    simp [madeCells, Nat.mod_one]
theorem Own.zeros (w : World) (B n : Nat) (hB : B ≤ w.heap.size) (hm : n ≤ maxLen) : Own (w.alloc (.cells (madeCells #[.int .u8 0] n) 5)) B (some ⟨w.heap.size, 0, none⟩) n n (List.replicate n 0) := by
  have := Own.made w (List.replicate n 0) B n (List.length_replicate ..) hB hm
  rw [show cells (List.replicate n 0) = List.replicate n (.int .u8 0) by rw [cells, List.map_replicate]; rfl, ← made_list] at this
  exact this
theorem make_4096 (wx : World) : (Instr.makeSlice 24 (.int .i64 4096) (.int .i64 4096)).run Try.prog wx = .ok (.slice (some ⟨wx.heap.size, 0, none⟩) 4096 4096) (wx.alloc (.cells (madeCells #[.int .u8 0] 4096) 5)) :=
  run_make_row' (P := Try.prog) (w := wx) 24 5 (.int .u8 0) 1 Try.underlying24 Try.info5 rfl .i64 .i64 4096 (by omega) (by omega)
/-- 'a' and a blank, so often. -/
def manyA : Nat → ByteArray
  | 0 => ⟨#[]⟩
  | n + 1 => manyA n ++ ⟨#[97, 32]⟩
theorem manyA_size (n : Nat) : (manyA n).size = 2 * n := by
  induction n with
  | zero => rfl
  | succ n ih => rw [manyA, ByteArray.size_append, ih]; show 2 * n + 2 = _; omega
theorem made_two : makeL [[97], []] = [42, 50, 13, 10, 36, 49, 13, 10, 97, 13, 10, 36, 48, 13, 10, 13, 10] := by
  simp only [makeL, lineN, blks, List.length_cons, List.length_nil, fmtL]
  rw [if_neg (by omega), if_neg (by omega), if_neg (by omega)]
  simp only [Int.toNat_natCast]
  rw [dec_low (by omega), dec_low (by omega), dec_low (by omega)]
  rfl
theorem made_none : makeL [] = [42, 48, 13, 10] := by
  simp only [makeL, lineN, blks, List.length_nil, fmtL]
  rw [if_neg (by omega)]
  simp only [Int.toNat_natCast]
  rw [dec_low (by omega)]
  rfl

set_option maxHeartbeats 8000000 in
set_option maxRecDepth 100000 in
theorem numbers_any (w : World) (hg : GL w) : Calls Try.prog 3 #[] w fun e w' => e = .returned (.bool true) ∧ Below w.heap.size w w' := by
  have hown := runs_own w
  have hb0 := alloc_below w (.cells #[.string ⟨#[42, 48, 13, 10]⟩, .string ⟨#[42, 45, 49, 13, 10]⟩, .string ⟨#[42, 45, 50, 13, 10]⟩, .string ⟨#[42, 50, 53, 55, 13, 10]⟩, .string ⟨#[42, 50, 53, 54, 13, 10]⟩, .string ⟨#[42, 49, 13, 10, 36, 52, 13, 10, 80, 73, 78, 71, 13, 10]⟩, .string ⟨#[42, 50, 13, 10, 36, 49, 13, 10, 97, 13, 10, 36, 48, 13, 10, 13, 10, 42, 49, 13, 10, 36, 49, 13, 10, 98, 13, 10]⟩, .string ⟨#[42, 49, 13, 10, 36, 45, 49, 13, 10]⟩, .string ⟨#[42, 49, 13, 10, 36, 54, 53, 53, 51, 55, 13, 10]⟩, .string ⟨#[42, 49, 13, 10, 58, 49, 13, 10]⟩, .string ⟨#[42, 49, 13, 10, 36, 49, 13, 10, 97, 98, 99]⟩, .string ⟨#[42, 48, 49, 13, 10]⟩, .string ⟨#[10]⟩, .string ⟨#[13, 10]⟩, .string ⟨#[32, 32, 13, 10]⟩, .string ⟨#[97, 32, 98, 9, 99, 0, 100, 13, 10]⟩, .string ⟨#[97, 32, 34, 98, 32, 99, 34, 32, 39, 100, 32, 101, 39, 10]⟩, .string ⟨#[34, 97, 34, 98, 10]⟩, .string ⟨#[97, 34, 98, 32, 99, 34, 10]⟩, .string ⟨#[39, 105, 116, 92, 39, 115, 39, 10]⟩, .string ⟨#[34, 92, 110, 92, 114, 92, 116, 92, 92, 92, 34, 92, 120, 34, 10]⟩, .string ⟨#[34, 97, 10]⟩, .string ⟨#[39, 97, 10]⟩, .string ⟨#[42, 49, 49, 49, 49, 49, 49, 49, 49, 49, 49, 49, 49, 49, 49, 49, 49, 49, 49, 49, 49, 49, 49, 49, 49, 49, 49, 49, 49, 49, 49, 49, 49, 49]⟩, .string ⟨#[42, 49, 10, 36, 49, 13, 10]⟩, .string ⟨#[43, 79, 75, 13, 10]⟩, .string ⟨#[36, 49, 13, 10]⟩, .string ⟨#[34, 34, 32, 39, 39, 10]⟩, .string ⟨#[39, 97, 92, 98, 39, 10]⟩, .string ⟨#[34, 97, 92]⟩] 9)
  obtain ⟨w0, hw0⟩ : ∃ w0, w.alloc (.cells #[.string ⟨#[42, 48, 13, 10]⟩, .string ⟨#[42, 45, 49, 13, 10]⟩, .string ⟨#[42, 45, 50, 13, 10]⟩, .string ⟨#[42, 50, 53, 55, 13, 10]⟩, .string ⟨#[42, 50, 53, 54, 13, 10]⟩, .string ⟨#[42, 49, 13, 10, 36, 52, 13, 10, 80, 73, 78, 71, 13, 10]⟩, .string ⟨#[42, 50, 13, 10, 36, 49, 13, 10, 97, 13, 10, 36, 48, 13, 10, 13, 10, 42, 49, 13, 10, 36, 49, 13, 10, 98, 13, 10]⟩, .string ⟨#[42, 49, 13, 10, 36, 45, 49, 13, 10]⟩, .string ⟨#[42, 49, 13, 10, 36, 54, 53, 53, 51, 55, 13, 10]⟩, .string ⟨#[42, 49, 13, 10, 58, 49, 13, 10]⟩, .string ⟨#[42, 49, 13, 10, 36, 49, 13, 10, 97, 98, 99]⟩, .string ⟨#[42, 48, 49, 13, 10]⟩, .string ⟨#[10]⟩, .string ⟨#[13, 10]⟩, .string ⟨#[32, 32, 13, 10]⟩, .string ⟨#[97, 32, 98, 9, 99, 0, 100, 13, 10]⟩, .string ⟨#[97, 32, 34, 98, 32, 99, 34, 32, 39, 100, 32, 101, 39, 10]⟩, .string ⟨#[34, 97, 34, 98, 10]⟩, .string ⟨#[97, 34, 98, 32, 99, 34, 10]⟩, .string ⟨#[39, 105, 116, 92, 39, 115, 39, 10]⟩, .string ⟨#[34, 92, 110, 92, 114, 92, 116, 92, 92, 92, 34, 92, 120, 34, 10]⟩, .string ⟨#[34, 97, 10]⟩, .string ⟨#[39, 97, 10]⟩, .string ⟨#[42, 49, 49, 49, 49, 49, 49, 49, 49, 49, 49, 49, 49, 49, 49, 49, 49, 49, 49, 49, 49, 49, 49, 49, 49, 49, 49, 49, 49, 49, 49, 49, 49, 49]⟩, .string ⟨#[42, 49, 10, 36, 49, 13, 10]⟩, .string ⟨#[43, 79, 75, 13, 10]⟩, .string ⟨#[36, 49, 13, 10]⟩, .string ⟨#[34, 34, 32, 39, 39, 10]⟩, .string ⟨#[39, 97, 92, 98, 39, 10]⟩, .string ⟨#[34, 97, 92]⟩] 9) = w0 := ⟨_, rfl⟩
  rw [hw0] at hown hb0
  have HO : Hid (OwnS w0 w.heap.size (some ⟨w.heap.size, 0, none⟩) 30 30 runs) := hown
  have HB0 : Hid (Below w.heap.size w w0) := hb0
  have HG : Hid (GL w) := hg
  clear hown hb0 hg
  go_enter Try.func3, Try.ntmps3
  go_wp2
  go_loopg [9] 30 (fun g iv wr => ∃ i : Nat, iv = .int .i64 i ∧ Hid (i + g = 30) ∧ Hid (Below w0.heap.size w0 wr))
  case atStart => exact ⟨0, rfl, rfl, Below.refl _ _⟩
  case round =>
    obtain ⟨i, rfl, HI, HB⟩ := hrel
    by_cases hi : (i : Int) < 30
    · have hin : i < 30 := by omega
      obtain ⟨W, hW⟩ : ∃ W, runs.getD i ByteArray.empty = W := ⟨_, rfl⟩
      have hws : W.size ≤ 40 := by
        rw [← hW, List.getD_eq_getElem?_getD, List.getElem?_eq_getElem (by rw [runs_len]; exact hin)]
        exact runs_size _ (List.getElem_mem _)
      have hc : wr.cell? ⟨w.heap.size, i, none⟩ = some (.string W) := by
        obtain ⟨b, off, e, hc⟩ := (HO.out.keep HB.out).rd.cell i hin
        cases e
        rw [hW, Nat.zero_add] at hc
        exact hc
      obtain ⟨f, rfl⟩ : ∃ f, gk = f + 1 := ⟨gk - 1, by have := HI.out; omega⟩
      obtain ⟨wa, rfl⟩ : ∃ wa, wa = wr := ⟨_, rfl⟩
      clear hW
      go_wp2
      clear hc
      go_loopg [3] (W.size + 1) (fun g kv wx => ∃ k : Nat, kv = .int .i64 k ∧ Hid (k + g = W.size + 1) ∧ Hid (Below w0.heap.size w0 wx))
      case atStart => exact ⟨0, rfl, by show _ = _; omega, HB⟩
      case round =>
        obtain ⟨k, rfl, HK, HB2⟩ := hrel
        have HGr : Hid (GL wr) := (HG.out.keep HB0.out).keep HB2.out
        by_cases hk : (k : Int) ≤ W.size
        · have hkn : k ≤ W.size := by omega
          obtain ⟨P, hP⟩ : ∃ P, W.extract 0 k = P := ⟨_, rfl⟩
          have hPs : P.size ≤ 40 := by rw [← hP]; simp; omega
          obtain ⟨Q, hQ⟩ : ∃ Q, W ++ P = Q := ⟨_, rfl⟩
          have hQs : Q.size ≤ 80 := by rw [← hQ]; simp; omega
          go_wp2_with (first
            | (go_at_call 9; refine (next_any _ _ HGr.out (by omega)).mono ?_; rintro e w3 ⟨rfl, hB3⟩; have HB3 : Hid (Below w0.heap.size w0 w3) := HB2.out.trans (hB3.mono HB2.out.size); have HG3 : Hid (GL w3) := HGr.out.keep hB3; clear hB3)
            | (go_at_call 10; refine (all_any Q _ HG4.out (by omega)).mono ?_; rintro e w5 ⟨rfl, hB5⟩; have HB5 : Hid (Below w0.heap.size w0 w5) := HB4.out.trans (hB5.mono HB4.out.size); clear hB5)
            | (go_at_call 10; refine (all_any P _ HG3.out (by omega)).mono ?_; rintro e w4 ⟨rfl, hB4⟩; have HB4 : Hid (Below w0.heap.size w0 w4) := HB3.out.trans (hB4.mono HB3.out.size); have HG4 : Hid (GL w4) := HG3.out.keep hB4; clear hB4))
          go_roundg (gk - 1)
          case measure => have := HK.out; omega
          case rel => exact ⟨k + 1, by go_num, by have := HK.out; show _ = _; omega, HB5⟩
        · go_wp2_with (go_at_call 11; refine (words_any _ _ (by omega)).mono ?_; rintro e w3 ⟨rfl, hB3⟩; have HB3 : Hid (Below w0.heap.size w0 w3) := HB2.out.trans (hB3.mono HB2.out.size); clear hB3)
          go_roundg f
          case measure => omega
          case rel => exact ⟨i + 1, by go_num, by have := HI.out; show _ = _; omega, HB3⟩
    · have HGr : Hid (GL wr) := (HG.out.keep HB0.out).keep HB.out
      have kmk := make_4096
      have hz := (Own.zeros wr wr.heap.size 4096 (Nat.le_refl _) (by decide)).rd.text
      have hb1 := alloc_below wr (.cells (madeCells #[.int .u8 0] 4096) 5)
      obtain ⟨w1, hw1⟩ : ∃ w1, wr.alloc (.cells (madeCells #[.int .u8 0] 4096) 5) = w1 := ⟨_, rfl⟩
      simp only [hw1] at hz hb1
      have kmk1 := kmk wr
      rw [hw1] at kmk1
      obtain ⟨Z, hZ⟩ : ∃ Z, bs (List.replicate 4096 0) = Z := ⟨_, rfl⟩
      have hZs : Z.size = 4096 := by rw [← hZ, size_bs, List.length_replicate]
      rw [hZ] at hz
      have HB1 : Hid (Below w0.heap.size w0 w1) := HB.out.trans (hb1.mono HB.out.size)
      have HG1 : Hid (GL w1) := HGr.out.keep hb1
      obtain ⟨Z1, hZ1⟩ : ∃ Z1, Z ++ (⟨#[97]⟩ : ByteArray) = Z1 := ⟨_, rfl⟩
      obtain ⟨Z2, hZ2⟩ : ∃ Z1, Z ++ (⟨#[10]⟩ : ByteArray) = Z1 := ⟨_, rfl⟩
      obtain ⟨Z3, hZ3⟩ : ∃ Z1, Z ++ (⟨#[13, 10]⟩ : ByteArray) = Z1 := ⟨_, rfl⟩
      obtain ⟨Z4, hZ4⟩ : ∃ Z1, (⟨#[97]⟩ : ByteArray) ++ Z = Z1 := ⟨_, rfl⟩
      obtain ⟨Z5, hZ5⟩ : ∃ Z1, Z4 ++ (⟨#[10]⟩ : ByteArray) = Z1 := ⟨_, rfl⟩
      have hs1 : Z1.size ≤ 5000 := by rw [← hZ1, ByteArray.size_append, hZs]; decide
      have hs2 : Z2.size ≤ 5000 := by rw [← hZ2, ByteArray.size_append, hZs]; decide
      have hs3 : Z3.size ≤ 5000 := by rw [← hZ3, ByteArray.size_append, hZs]; decide
      have hs4 : Z4.size ≤ 4097 := by rw [← hZ4, ByteArray.size_append, hZs]; decide
      have hs5 : Z5.size ≤ 5000 := by rw [← hZ5, ByteArray.size_append]; have : (⟨#[10]⟩ : ByteArray).size = 1 := rfl; omega
      clear kmk hw1 hb1 hZ
      go_wp2_with (first
        | (go_at_call 9; refine (next_any Z5 _ HG5.out (by omega)).mono ?_; rintro e w6 ⟨rfl, hB6⟩; have HB6 : Hid (Below w0.heap.size w0 w6) := HB5.out.trans (hB6.mono HB5.out.size); clear hB6)
        | (go_at_call 9; refine (next_any Z3 _ HG4.out (by omega)).mono ?_; rintro e w5 ⟨rfl, hB5⟩; have HB5 : Hid (Below w0.heap.size w0 w5) := HB4.out.trans (hB5.mono HB4.out.size); have HG5 : Hid (GL w5) := HG4.out.keep hB5; clear hB5)
        | (go_at_call 9; refine (next_any Z2 _ HG3.out (by omega)).mono ?_; rintro e w4 ⟨rfl, hB4⟩; have HB4 : Hid (Below w0.heap.size w0 w4) := HB3.out.trans (hB4.mono HB3.out.size); have HG4 : Hid (GL w4) := HG3.out.keep hB4; clear hB4)
        | (go_at_call 9; refine (next_any Z1 _ HG2.out (by omega)).mono ?_; rintro e w3 ⟨rfl, hB3⟩; have HB3 : Hid (Below w0.heap.size w0 w3) := HB2.out.trans (hB3.mono HB2.out.size); have HG3 : Hid (GL w3) := HG2.out.keep hB3; clear hB3)
        | (go_at_call 9; refine (next_any Z _ HG1.out (by omega)).mono ?_; rintro e w2 ⟨rfl, hB2⟩; have HB2 : Hid (Below w0.heap.size w0 w2) := HB1.out.trans (hB2.mono HB1.out.size); have HG2 : Hid (GL w2) := HG1.out.keep hB2; clear hB2))
      clear hz kmk1 hZ1 hZ2 hZ3 hZ4 hZ5 hs1 hs2 hs3 hs4 hs5
      go_loopg [5, 6] 257 (fun g sv iv wx => ∃ j : Nat, sv = .string (manyA j) ∧ iv = .int .i64 j ∧ Hid (j + g = 257) ∧ Hid (Below w0.heap.size w0 wx))
      case atStart => exact ⟨0, rfl, rfl, rfl, HB6⟩
      case round =>
        obtain ⟨j, rfl, rfl, HJ, HB7⟩ := hrel
        have HG7 : Hid (GL wr) := (HG.out.keep HB0.out).keep HB7.out
        by_cases hj : (j : Int) < 257
        · have hms := manyA_size j
          obtain ⟨M0, hM0⟩ : ∃ M, manyA j = M := ⟨_, rfl⟩
          obtain ⟨M, hM⟩ : ∃ M, manyA (j + 1) = M := ⟨_, rfl⟩
          have hcat : M0 ++ (⟨#[97, 32]⟩ : ByteArray) = M := by rw [← hM, ← hM0]; rfl
          have hm1 := manyA_size (j + 1)
          rw [hM0] at hms
          rw [hM] at hm1
          have hMs : M.size ≤ 600 := by omega
          have hM0s : M0.size ≤ 600 := by omega
          have HMM : Hid (manyA (j + 1) = M) := hM
          rw [hM0]
          obtain ⟨M2, hM2⟩ : ∃ M2, M ++ (⟨#[10]⟩ : ByteArray) = M2 := ⟨_, rfl⟩
          have hM2s : M2.size ≤ 700 := by rw [← hM2, ByteArray.size_append]; have : (⟨#[10]⟩ : ByteArray).size = 1 := rfl; omega
          clear hms hm1 hM0 hM
          by_cases h253 : (253 : Int) < (j : Int)
          · go_wp2_with (first
              | (go_at_call 11; refine (words_any _ _ (by omega)).mono ?_; rintro e w8 ⟨rfl, hB8⟩; have HB8 : Hid (Below w0.heap.size w0 w8) := HB7.out.trans (hB8.mono HB7.out.size); have HG8 : Hid (GL w8) := HG7.out.keep hB8; clear hB8)
              | (go_at_call 9; refine (next_any _ _ HG8.out (by omega)).mono ?_; rintro e w9 ⟨rfl, hB9⟩; have HB9 : Hid (Below w0.heap.size w0 w9) := HB8.out.trans (hB9.mono HB8.out.size); clear hB9))
            go_roundg (gk - 1)
            case measure => have := HJ.out; omega
            case rel => exact ⟨j + 1, by rw [HMM.out], by go_num, by have := HJ.out; show _ = _; omega, HB9⟩
          · go_wp2
            go_roundg (gk - 1)
            case measure => have := HJ.out; omega
            case rel => exact ⟨j + 1, by rw [HMM.out], by go_num, by have := HJ.out; show _ = _; omega, HB7⟩
        · have hb8 := alloc_below wr (.cells #[.string ⟨#[97]⟩, .string ⟨#[]⟩] 9)
          have hO8 : OwnS (wr.alloc (.cells #[.string ⟨#[97]⟩, .string ⟨#[]⟩] 9)) wr.heap.size (some ⟨wr.heap.size, 0, none⟩) 2 2 [⟨#[97]⟩, ⟨#[]⟩] :=
            ⟨rfl, .inr ⟨wr.heap.size, 2, _, rfl, Nat.le_refl _, heap_alloc_new wr _, Nat.le_refl _, by decide, rfl, rfl⟩⟩
          have HMK := Make_any _ 2 2 _ _ hO8.rd (by omega) (by decide)
          have HM2 : ([⟨#[97]⟩, ⟨#[]⟩] : List ByteArray).map lst = [[97], []] := rfl
          rw [HM2, made_two] at HMK
          have HB8 : Hid (Below wr.heap.size wr (wr.alloc (.cells #[.string ⟨#[97]⟩, .string ⟨#[]⟩] 9))) := hb8
          obtain ⟨T, hT⟩ : ∃ T, bs [42, 50, 13, 10, 36, 49, 13, 10, 97, 13, 10, 36, 48, 13, 10, 13, 10] = T := ⟨_, rfl⟩
          have hTe : (T.toList == [42, 50, 13, 10, 36, 49, 13, 10, 97, 13, 10, 36, 48, 13, 10, 13, 10]) = true := by rw [← hT, ByteArray.toList_eq]; rfl
          obtain ⟨T2, hT2⟩ : ∃ T, bs [42, 48, 13, 10] = T := ⟨_, rfl⟩
          have hTe2 : (T2.toList == [42, 48, 13, 10]) = true := by rw [← hT2, ByteArray.toList_eq]; rfl
          clear hO8 HM2 hb8
          go_wp2_with (first
            | (go_at_call 12; refine HMK2.mono ?_; rintro e w10 ⟨hB10, a10, n10, c10, rfl, hO10⟩; have hX10 := hO10.rd.text; rw [show makeL (([] : List ByteArray).map lst) = [42, 48, 13, 10] from made_none, hT2] at hX10; have HB10 : Hid (Below w0.heap.size w0 w10) := HB9.out.trans (hB10.mono HB9.out.size); have HG10 : Hid (GL w10) := HG9.out.keep hB10; clear hB10 hO10)
            | (go_at_call 12; refine HMK.mono ?_; rintro e w9 ⟨hB9, a9, n9, c9, rfl, hO9⟩; have hX9 := hO9.rd.text; rw [hT] at hX9; have hB9' : Below wr.heap.size wr w9 := HB8.out.trans (hB9.mono HB8.out.size); have HB9 : Hid (Below w0.heap.size w0 w9) := HB7.out.trans (hB9'.mono HB7.out.size); have HG9 : Hid (GL w9) := HG7.out.keep hB9'; have HMK2 := Make_any none 0 0 [] w9 ⟨rfl, Nat.zero_le _, fun j hj => absurd hj (Nat.not_lt_zero _)⟩ (by omega) (by simp); clear hB9 hB9' hO9)
            | (go_at_call 13; refine (known_any _ HG10.out).mono ?_; rintro e w11 ⟨rfl, hB11⟩; have HB11 : Hid (Below w0.heap.size w0 w11) := HB10.out.trans (hB11.mono HB10.out.size); clear hB11))
          go_ret
          exact ⟨rfl, HB0.out.trans (HB11.out.mono HB0.out.size)⟩
end Go.Proofs.Ytkoepgjdjbmknaa
