/-
  The law TextNumbers, walked.
-/
import Derived.Test.YtjikfpdlbjjmbaaTells
namespace Go.Proofs.Ytjikfpdlbjjmbaa
open Go.RowKit Go.PlainAid

/-- The places of the closed sentence. -/
def atAt (j : Nat) : Int := [-9223372036854775808, -1, 0, 65534, 65535, 65536, 524287, 524288, 9223372036854775807].getD j 0
theorem atAt_in (j : Nat) (h : j < 9) : I64 (atAt j) := by
  have : ∀ j : Fin 9, -9223372036854775808 ≤ atAt j.1 ∧ atAt j.1 ≤ 9223372036854775807 := by decide
  exact this ⟨j, h⟩
/-- The texts of the closed sentence. -/
def textAt (j : Nat) : ByteArray := [⟨#[]⟩, ⟨#[48]⟩, ⟨#[45, 49]⟩, ⟨#[57, 50, 50, 51, 51, 55, 50, 48, 51, 54, 56, 53, 52, 55, 55, 53, 56, 48, 55]⟩, ⟨#[45, 57, 50, 50, 51, 51, 55, 50, 48, 51, 54, 56, 53, 52, 55, 55, 53, 56, 48, 56]⟩, ⟨#[48, 49]⟩, ⟨#[97]⟩, ⟨#[32, 49]⟩].getD j ⟨#[]⟩
theorem size_textAt (j : Nat) (h : j < 8) : (textAt j).size ≤ 30 := by
  have : ∀ j : Fin 8, (textAt j.1).size ≤ 30 := by decide
  exact this ⟨j, h⟩

/-- The row of places in memory. -/
structure Nine (w wr : World) (B : Nat) : Prop where
  below : Below w.heap.size w wr
  size : B < wr.heap.size
  cell : ∀ j, j < 9 → wr.cell? ⟨B, j, none⟩ = some (.int .i64 (atAt j))
theorem Nine.keep {w wr wn : World} {B : Nat} (h : Nine w wr B) (hb : Below wr.heap.size wr wn) : Nine w wn B where
  below := h.below.trans (hb.mono h.below.size)
  size := Nat.lt_of_lt_of_le h.size hb.size
  cell j hj := by rw [hb.cell (p := ⟨B, j, none⟩) h.size]; exact h.cell j hj
theorem Nine.made (w wr : World) (h : Below w.heap.size w wr) : Nine w (wr.alloc (.cells #[.int .i64 (-9223372036854775808), .int .i64 (-1), .int .i64 0, .int .i64 65534, .int .i64 65535, .int .i64 65536, .int .i64 524287, .int .i64 524288, .int .i64 9223372036854775807] 2)) wr.heap.size where
  below := h.alloc h.size _
  size := by simp
  cell j hj := by
    rcases j with _|_|_|_|_|_|_|_|_|j
    all_goals first | omega | (simp; rfl)
/-- The row of texts in memory. -/
structure Eight (w wr : World) (B : Nat) : Prop where
  below : Below w.heap.size w wr
  size : B < wr.heap.size
  cell : ∀ j, j < 8 → wr.cell? ⟨B, j, none⟩ = some (.string (textAt j))
theorem Eight.keep {w wr wn : World} {B : Nat} (h : Eight w wr B) (hb : Below wr.heap.size wr wn) : Eight w wn B where
  below := h.below.trans (hb.mono h.below.size)
  size := Nat.lt_of_lt_of_le h.size hb.size
  cell j hj := by rw [hb.cell (p := ⟨B, j, none⟩) h.size]; exact h.cell j hj
theorem Eight.made (w wr : World) (h : Below w.heap.size w wr) : Eight w (wr.alloc (.cells #[.string ⟨#[]⟩, .string ⟨#[48]⟩, .string ⟨#[45, 49]⟩, .string ⟨#[57, 50, 50, 51, 51, 55, 50, 48, 51, 54, 56, 53, 52, 55, 55, 53, 56, 48, 55]⟩, .string ⟨#[45, 57, 50, 50, 51, 51, 55, 50, 48, 51, 54, 56, 53, 52, 55, 55, 53, 56, 48, 56]⟩, .string ⟨#[48, 49]⟩, .string ⟨#[97]⟩, .string ⟨#[32, 49]⟩] 9)) wr.heap.size where
  below := h.alloc h.size _
  size := by simp
  cell j hj := by
    rcases j with _|_|_|_|_|_|_|_|j
    all_goals first | omega | (simp; rfl)

theorem make_big (wx : World) : (Instr.makeSlice 27 (.int .i64 65536) (.int .i64 65536)).run Try.prog wx = .ok (.slice (some ⟨wx.heap.size, 0, none⟩) 65536 65536) (wx.alloc (.cells (madeCells #[.int .u8 0] 65536) 5)) :=
  run_make_row' (P := Try.prog) (w := wx) 27 5 (.int .u8 0) 1 Try.underlying27 Try.info5 rfl .i64 .i64 65536 (by omega) (by omega)

set_option maxRecDepth 100000 in
set_option maxHeartbeats 8000000 in
theorem numbers_any (w : World) : Calls Try.prog 3 #[] w fun e w' => e = .returned (.bool true) ∧ Below w.heap.size w w' := by
  have HR := fun (a b : Int) (ha : I64 a) (hb : I64 b) w => ranges_any ⟨#[104, 101, 108, 108, 111, 255, 1]⟩ a b w ha hb (by decide)
  have HE := fun (a b : Int) (ha : I64 a) (hb : I64 b) w => ranges_any ⟨#[]⟩ a b w ha hb (by decide)
  go_enter Try.func3, Try.ntmps3
  go_wp2
  go_loopg [2, 3] 19 (fun g i bv wr => ∃ a : Int, a + g = 10 ∧ -9 ≤ a ∧ i = .int .i64 a ∧ Hid (Below w.heap.size w wr))
  case atStart => exact ⟨-9, by decide, by decide, rfl, Below.refl _ _⟩
  case round =>
    obtain ⟨a, ha, ha0, rfl, HB⟩ := hrel
    obtain ⟨wa, hwa⟩ : ∃ wa, wa = wr := ⟨_, rfl⟩
    subst hwa
    obtain ⟨ga, hga⟩ : ∃ ga, ga = gk := ⟨_, rfl⟩
    subst hga
    by_cases ha10 : a < 10
    · have HGA : Hid (a + ga = 10) := ha
      clear ha
      go_wp2
      go_loopg [3] 19 (fun g bv wr => ∃ b : Int, b + g = 10 ∧ -9 ≤ b ∧ bv = .int .i64 b ∧ Hid (Below w.heap.size w wr))
      case atStart => exact ⟨-9, by decide, by decide, rfl, HB⟩
      case round =>
        obtain ⟨b, hb, hb0, rfl, HB⟩ := hrel
        by_cases hb10 : b < 10
        · have H1 := HR a b (by unfold I64; omega) (by unfold I64; omega)
          have H2 := HE a b (by unfold I64; omega) (by unfold I64; omega)
          go_wp2_with fail
          refine (H1 _).mono ?_
          rintro e w1 ⟨rfl, hbl⟩
          have HB1 := step_below HB hbl
          clear hbl
          go_wp2_with fail
          refine (H2 _).mono ?_
          rintro e w2 ⟨rfl, hbl⟩
          have HB2 := step_below HB1 hbl
          clear hbl
          go_wp2
          go_roundg (gk - 1)
          case measure => omega
          case rel => exact ⟨b + 1, by omega, by omega, by go_num, HB2⟩
        · have H1 := fun w => sets_any ⟨#[104, 101, 108, 108, 111, 255, 1]⟩ a ⟨#[120, 121]⟩ a w (by unfold I64; omega) (by decide) (by decide)
          have H2 := fun w => sets_any ⟨#[104, 101, 108, 108, 111, 255, 1]⟩ (a * 7) ⟨#[]⟩ 1 w (by unfold I64; omega) (by decide) (by decide)
          clear hb
          go_wp2_with fail
          refine (H1 _).mono ?_
          rintro e w1 ⟨rfl, hbl⟩
          have HB1 := step_below HB hbl
          clear hbl
          go_wp2_with fail
          refine (H2 _).mono ?_
          rintro e w2 ⟨rfl, hbl⟩
          have HB2 := step_below HB1 hbl
          clear hbl
          go_wp2
          go_roundg (ga - 1)
          case measure => have := HGA.out; omega
          case rel => exact ⟨a + 1, by have := HGA.out; omega, by omega, by go_num, HB2⟩
    · clear ha ha0
      have HN := Nine.made w wa HB.out
      obtain ⟨wn, hwn⟩ : ∃ wn, wa.alloc (.cells #[.int .i64 (-9223372036854775808), .int .i64 (-1), .int .i64 0, .int .i64 65534, .int .i64 65535, .int .i64 65536, .int .i64 524287, .int .i64 524288, .int .i64 9223372036854775807] 2) = wn := ⟨_, rfl⟩
      rw [hwn] at HN
      obtain ⟨G, hG⟩ : ∃ G, wa.heap.size = G := ⟨_, rfl⟩
      rw [hG] at HN
      replace HN : Hid (Nine w wn G) := HN
      go_upto_region 13 with fail
      clear hwn hG
      go_wp2
      go_loopg [5, 46] 9 (fun g av iv wr => ∃ j : Nat, j + g = 9 ∧ iv = .int .i64 j ∧ Hid (Nine w wr G))
      case atStart => exact ⟨0, rfl, rfl, HN⟩
      case round =>
        obtain ⟨j, hj, rfl, HN⟩ := hrel
        by_cases hj9 : j < 9
        · have hc := HN.out.cell j hj9
          have hx := atAt_in j hj9
          generalize atAt j = x at hc hx
          have H1 := fun w => sets_any ⟨#[97]⟩ x ⟨#[120, 121]⟩ 1 w hx (by decide) (by decide)
          have H2 := fun w => sets_any ⟨#[97]⟩ x ⟨#[]⟩ 0 w hx (by decide) (by decide)
          have H3 := HR x x hx hx
          have H4 := HR (-3) x (by unfold I64; omega) hx
          clear hx
          go_wp2_with fail
          refine (H1 _).mono ?_
          rintro e w1 ⟨rfl, hbl⟩
          have HN1 : Hid (Nine w w1 G) := HN.out.keep hbl
          clear hbl hc
          go_wp2_with fail
          refine (H2 _).mono ?_
          rintro e w2 ⟨rfl, hbl⟩
          have HN2 : Hid (Nine w w2 G) := HN1.out.keep hbl
          clear hbl
          go_wp2_with fail
          refine (H3 _).mono ?_
          rintro e w3 ⟨rfl, hbl⟩
          have HN3 : Hid (Nine w w3 G) := HN2.out.keep hbl
          clear hbl
          go_wp2_with fail
          refine (H4 _).mono ?_
          rintro e w4 ⟨rfl, hbl⟩
          have HN4 : Hid (Nine w w4 G) := HN3.out.keep hbl
          clear hbl
          go_wp2
          go_roundg (gk - 1)
          case measure => omega
          case rel => exact ⟨j + 1, by omega, by go_num, HN4⟩
        · have HB : Hid (Below w.heap.size w wr) := HN.out.below
          clear hj HN
          have HT := Eight.made w wr HB.out
          obtain ⟨wn, hwn⟩ : ∃ wn, wr.alloc (.cells #[.string ⟨#[]⟩, .string ⟨#[48]⟩, .string ⟨#[45, 49]⟩, .string ⟨#[57, 50, 50, 51, 51, 55, 50, 48, 51, 54, 56, 53, 52, 55, 55, 53, 56, 48, 55]⟩, .string ⟨#[45, 57, 50, 50, 51, 51, 55, 50, 48, 51, 54, 56, 53, 52, 55, 55, 53, 56, 48, 56]⟩, .string ⟨#[48, 49]⟩, .string ⟨#[97]⟩, .string ⟨#[32, 49]⟩] 9) = wn := ⟨_, rfl⟩
          rw [hwn] at HT
          obtain ⟨G, hG⟩ : ∃ G, wr.heap.size = G := ⟨_, rfl⟩
          rw [hG] at HT
          replace HT : Hid (Eight w wn G) := HT
          go_upto_region 19 with fail
          clear hwn hG
          go_wp2
          go_loopg [7, 74] 8 (fun g tv iv wr => ∃ j : Nat, j + g = 8 ∧ iv = .int .i64 j ∧ Hid (Eight w wr G))
          case atStart => exact ⟨0, rfl, rfl, HT⟩
          case round =>
            obtain ⟨j, hj, rfl, HT⟩ := hrel
            by_cases hj8 : j < 8
            · have hc := HT.out.cell j hj8
              have hx := size_textAt j hj8
              generalize textAt j = x at hc hx
              have HA := fun (d : Int) (hd : Int64 d) w => adds_any x d w (by unfold maxLen; omega) hd
              have H1 := HA 1 (by unfold Int64; omega)
              have H2 := HA (-1) (by unfold Int64; omega)
              have H3 := HA 9223372036854775807 (by unfold Int64; omega)
              have H4 := HA (-9223372036854775808) (by unfold Int64; omega)
              clear hx HA
              go_wp2_with fail
              refine (H1 _).mono ?_
              rintro e w1 ⟨rfl, hbl⟩
              have HN1 : Hid (Eight w w1 G) := HT.out.keep hbl
              clear hbl hc
              go_wp2_with fail
              refine (H2 _).mono ?_
              rintro e w2 ⟨rfl, hbl⟩
              have HN2 : Hid (Eight w w2 G) := HN1.out.keep hbl
              clear hbl
              go_wp2_with fail
              refine (H3 _).mono ?_
              rintro e w3 ⟨rfl, hbl⟩
              have HN3 : Hid (Eight w w3 G) := HN2.out.keep hbl
              clear hbl
              go_wp2_with fail
              refine (H4 _).mono ?_
              rintro e w4 ⟨rfl, hbl⟩
              have HN4 : Hid (Eight w w4 G) := HN3.out.keep hbl
              clear hbl
              go_wp2
              go_roundg (gk - 1)
              case measure => omega
              case rel => exact ⟨j + 1, by omega, by go_num, HN4⟩
            · have HB : Hid (Below w.heap.size w wr) := HT.out.below
              clear hj HT
              have hmk := make_big wr
              have hB0 : Bk (wr.alloc (.cells (madeCells #[.int .u8 0] 65536) 5)) wr.heap.size (List.replicate 65536 0) := by
                show _ = _
                rw [heap_alloc_new, made_list]
              have HB1 := step_below HB (alloc_below wr (.cells (madeCells #[.int .u8 0] 65536) 5))
              obtain ⟨wn, hwn⟩ : ∃ wn, wr.alloc (.cells (madeCells #[.int .u8 0] 65536) 5) = wn := ⟨_, rfl⟩
              rw [hwn] at hmk hB0 HB1
              have htx := hB0.text 65536 (by rw [List.length_replicate]) (by unfold maxLen; omega)
              have hbz : (bs (List.replicate 65536 0)).size = 65536 := by rw [size_bs, List.length_replicate]
              generalize bs (List.replicate 65536 0) = big at htx hbz
              have HA1 := fun w => Append_any big ⟨#[]⟩ w (by omega) (by decide) (by rw [hbz]; decide)
              have HA2 := fun w => Append_no big ⟨#[97]⟩ w (by omega) (by decide) (by rw [hbz]; decide)
              have hX : (((big ++ ⟨#[]⟩ : ByteArray).size : Int) == 65536) = true := by
                rw [ByteArray.size_append, hbz]; rfl
              generalize big ++ ⟨#[]⟩ = X at HA1 hX
              clear hB0 hwn hbz HR HE
              go_wp2_with fail
              refine (HA1 _).mono ?_
              rintro e w1 ⟨rfl, rfl⟩
              go_wp2_with fail
              refine (HA2 _).mono ?_
              rintro e w1 ⟨rfl, rfl⟩
              go_wp2_with fail
              refine (known_any _).mono ?_
              rintro e w2 ⟨rfl, hbl⟩
              have HB2 := step_below HB1 hbl
              clear hbl
              go_wp2
              go_ret
              exact ⟨rfl, HB2.out⟩
end Go.Proofs.Ytjikfpdlbjjmbaa
