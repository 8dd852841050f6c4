/-
  HmapUpgrades.
-/
import Derived.Test.YtembjlckcgginaaGreatG15
namespace Go.Proofs.YtembjlckcgginaaGreat
open Go.RowKit Go.PlainAid
open Dk (En Stay hasK putE delE getE keysOf Dct Dg dtag ecells Turn)

/-- A hash, wherever it lies. -/
def Hy (w : World) (B m x E T : Nat) (es : List En) (pk : Bool) : Prop := ∃ F, Hm w B m x E T es pk F
theorem Hy.keep {w wn : World} {B m x E T : Nat} {es : List En} {pk : Bool} (h : Hy w B m x E T es pk) (hb : Below w.heap.size w wn) : Hy wn B m x E T es pk := by
  obtain ⟨F, h⟩ := h
  exact ⟨F, h.keep hb⟩
theorem SetY (B m x E T : Nat) (es : List En) (pk : Bool) (k v : ByteArray) (w : World) (h : Hy w B m x E T es pk) (hk : k.size ≤ 4096) (hv : v.size ≤ 4096) (hle : es.length < 1000000) :
    Calls Tryz.prog 11 #[ptr m, .string k, .string v] w fun e w' => e = .returned (.tuple #[.bool (!hasK es k), .int .i64 0]) ∧ Hy w' B m x E T (putE es k v) (pkE es pk E T k v) ∧ Below B w w' := by
  obtain ⟨F, h⟩ := h
  refine (SetH B m x E T es pk F k v w h hk hv hle).mono ?_
  rintro e w' ⟨rfl, ht⟩
  have hb := ht.below h
  obtain ⟨F', h1, -, -⟩ := ht
  exact ⟨rfl, ⟨F', h1⟩, hb⟩
theorem DelY (B m x E T : Nat) (es : List En) (pk : Bool) (k : ByteArray) (w : World) (h : Hy w B m x E T es pk) (hk : k.size ≤ maxLen) :
    Calls Tryz.prog 25 #[ptr m, .string k] w fun e w' => e = .returned (.bool (hasK es k)) ∧ Hy w' B m x E T (delE es k) pk ∧ Below B w w' := by
  obtain ⟨F, h⟩ := h
  refine (DelH B m x E T es pk F k w h hk).mono ?_
  rintro e w' ⟨rfl, ht⟩
  have hb := ht.below h
  obtain ⟨F', h1, -, -⟩ := ht
  exact ⟨rfl, ⟨F', h1⟩, hb⟩
theorem PackedY (B m x E T : Nat) (es : List En) (pk : Bool) (w : World) (h : Hy w B m x E T es pk) : Calls Tryz.prog 13 #[ptr m] w fun e w' => e = .returned (.bool pk) ∧ w' = w := by
  obtain ⟨F, h⟩ := h
  exact PackedH B m x E T es pk F w h
theorem LenY (B m x E T : Nat) (es : List En) (pk : Bool) (w : World) (h : Hy w B m x E T es pk) : Calls Tryz.prog 14 #[ptr m] w fun e w' => e = .returned (.int .i64 (es.length : Nat)) ∧ Below w.heap.size w w' := by
  obtain ⟨F, h⟩ := h
  exact LenH B m x E T es pk F w h
theorem lim_nat {n hi : Nat} (h : n ≤ hi) : lim (n : Int) hi = n := by unfold lim; omega

/-- The first n of many fields, each with v. -/
def mnys (v : ByteArray) (n : Nat) : List En := (List.range n).map fun j : Nat => (mny j, v)
theorem mnys_len (v : ByteArray) (n : Nat) : (mnys v n).length = n := by unfold mnys; rw [List.length_map, List.length_range]
theorem mnys_succ (v : ByteArray) (n : Nat) : mnys v (n + 1) = mnys v n ++ [(mny n, v)] := by unfold mnys; rw [List.range_succ, List.map_append]; rfl
theorem mnys_no (v : ByteArray) {n : Nat} (h : n < 676) : mny n ∉ keysOf (mnys v n) := by
  intro hm
  unfold mnys keysOf at hm
  rw [List.map_map] at hm
  obtain ⟨j, hj, e⟩ := List.mem_map.1 hm
  rw [List.mem_range] at hj
  have := mny_inj (n := j) (m := n) (by omega) h e
  omega
theorem mnys_put (v : ByteArray) {n : Nat} (h : n < 676) : putE (mnys v n) (mny n) v = mnys v (n + 1) := by
  unfold putE
  rw [if_neg (by rw [Dk.hasK_no (mnys_no v h)]; decide), mnys_succ]
/-- The fields from i on. -/
def mnyd (v : ByteArray) (K i : Nat) : List En := (List.range' i (K - i)).map fun j : Nat => (mny j, v)
theorem mnyd_zero (v : ByteArray) (K : Nat) : mnyd v K 0 = mnys v K := by unfold mnyd mnys; rw [List.range_eq_range', Nat.sub_zero]
theorem mnyd_all (v : ByteArray) (K : Nat) : mnyd v K K = [] := by unfold mnyd; rw [Nat.sub_self]; rfl
theorem mnyd_succ (v : ByteArray) {K i : Nat} (h : i < K) : mnyd v K i = (mny i, v) :: mnyd v K (i + 1) := by
  unfold mnyd
  rw [show K - i = K - (i + 1) + 1 by omega, List.range'_succ]
  rfl
theorem mnyd_del (v : ByteArray) {K i : Nat} (h : i < K) (hK : K < 676) : hasK (mnyd v K i) (mny i) = true ∧ delE (mnyd v K i) (mny i) = mnyd v K (i + 1) := by
  rw [mnyd_succ v h]
  refine ⟨by unfold hasK; simp, ?_⟩
  have h1 : mny i ∉ keysOf (mnyd v K (i + 1)) := by
    intro hm
    unfold mnyd keysOf at hm
    rw [List.map_map] at hm
    obtain ⟨j, hj, e⟩ := List.mem_map.1 hm
    rw [List.mem_range'_1] at hj
    have := mny_inj (n := j) (m := i) (by omega) (by omega) e
    omega
  have h2 := Dk.filter_same h1
  unfold delE at h2 ⊢
  rw [List.filter_cons_of_neg (by simp), h2]

set_option maxRecDepth 100000 in
set_option maxHeartbeats 4000000 in
theorem upgrades_any (x : Nat) (entries n : Int) (w : World) (hx : x < 18446744073709551616) :
    Calls Tryz.prog 7 #[.int .u64 x, .int .i64 entries, .int .i64 n] w fun e w' => e = .returned (.bool true) ∧ Below w.heap.size w w' := by
  have HW1 := Within_wi entries 40 w (by decide)
  have hE := wi_le entries 40
  generalize wi entries 40 = E at HW1 hE
  have HN := NewH x E 10 w hx
  rw [lim_nat (by omega), show lim 10 60 = 10 from rfl] at HN
  have hK := wi_le n 60
  have HW2 := fun w => Within_wi n 60 w (by decide)
  generalize wi n 60 = K at HW2 hK
  go_enter Tryz.func7, Tryz.ntmps7
  go_wp2_with fail
  refine HW1.mono ?_
  rintro e w0 ⟨rfl, rfl⟩
  go_wp2_with fail
  refine HN.mono ?_
  rintro e w1 ⟨hb, m, F, rfl, hH⟩
  have HB1 : Hid (Below w0.heap.size w0 w1) := hb
  have HH1 : Hid (Hy w1 w0.heap.size m x E 10 [] true) := ⟨F, hH⟩
  clear hb hH HN HW1
  go_wp2_with fail
  refine (HW2 _).mono ?_
  rintro e w2 ⟨rfl, rfl⟩
  clear HW2
  go_wp2
  go_loopg [10, 11, 12] K (fun g iv nv fv wr => ∃ i : Nat, i + g = K ∧ iv = .int .i64 i ∧ Hid (Hy wr w0.heap.size m x E 10 (mnys ⟨#[118]⟩ i) (decide (i ≤ E))) ∧ Hid (Below w0.heap.size w0 wr))
  case atStart => exact ⟨0, by omega, rfl, by rw [show decide (0 ≤ E) = true by simp]; exact HH1, HB1⟩
  case round =>
    obtain ⟨i, hi, rfl, HH, HB⟩ := hrel
    by_cases h8 : (i : Int) < K
    · have HM := fun w => many_any i w (by omega) (by omega)
      have HS := fun w' (h : Hy w' w0.heap.size m x E 10 (mnys ⟨#[118]⟩ i) (decide (i ≤ E))) => SetY w0.heap.size m x E 10 (mnys ⟨#[118]⟩ i) (decide (i ≤ E)) (mny i) ⟨#[118]⟩ w' h (by rw [mny_size]; decide) (by decide) (by rw [mnys_len]; omega)
      rw [mnys_put _ (by omega), show pkE (mnys ⟨#[118]⟩ i) (decide (i ≤ E)) E 10 (mny i) ⟨#[118]⟩ = decide (i + 1 ≤ E) by
        unfold pkE
        rw [mnys_put _ (by omega), mnys_len, mny_size]
        by_cases h : i + 1 ≤ E
        · have h' : i ≤ E := by omega
          simp [h, h']; decide
        · simp [h]] at HS
      generalize (!hasK (mnys ⟨#[118]⟩ i) (mny i)) = t at HS
      go_wp2_with fail
      refine (HM _).mono ?_
      rintro e w3 ⟨rfl, rfl⟩
      go_wp2_with fail
      refine (HS _ HH.out).mono ?_
      rintro e w4 ⟨rfl, hH, hb⟩
      have HP := PackedY _ _ _ _ _ _ _ w4 hH
      have HH4 : Hid (Hy w4 w0.heap.size m x E 10 (mnys ⟨#[118]⟩ (i + 1)) (decide (i + 1 ≤ E))) := hH
      have HB4 : Hid (Below w0.heap.size w0 w4) := HB.out.trans hb
      clear hH hb HS HM
      by_cases hle : (i : Int) + 1 ≤ E
      · have e1 : decide (i + 1 ≤ E) = true := by simp; omega
        rw [e1] at HP
        go_wp2_with fail
        refine HP.mono ?_
        rintro e w5 ⟨rfl, rfl⟩
        go_wp2
        go_roundg (gk - 1)
        case measure => omega
        case rel => exact ⟨i + 1, by omega, by go_num, HH4, HB4⟩
      · have e1 : decide (i + 1 ≤ E) = false := by simp; omega
        rw [e1] at HP
        go_wp2_with fail
        refine HP.mono ?_
        rintro e w5 ⟨rfl, rfl⟩
        go_wp2
        go_roundg (gk - 1)
        case measure => omega
        case rel => exact ⟨i + 1, by omega, by go_num, HH4, HB4⟩
    · have hiK : i = K := by omega
      subst hiK
      have HP := PackedY _ _ _ _ _ _ _ wr HH.out
      have HH0 : Hid (Hy wr w0.heap.size m x E 10 (mnyd ⟨#[118]⟩ i 0) (decide (i ≤ E))) := by rw [mnyd_zero]; exact HH
      generalize decide (i ≤ E) = pk at HP HH0
      clear HH
      obtain ⟨w2, hw2⟩ : ∃ w2, w2 = wr := ⟨_, rfl⟩
      obtain ⟨K, hK2⟩ : ∃ K, K = i := ⟨_, rfl⟩
      subst hw2
      subst hK2
      go_wp2_with fail
      refine HP.mono ?_
      rintro e w3 ⟨rfl, rfl⟩
      go_wp2
      go_loopg [14] K (fun g iv wr => ∃ i : Nat, i + g = K ∧ iv = .int .i64 i ∧ Hid (Hy wr w0.heap.size m x E 10 (mnyd ⟨#[118]⟩ K i) pk) ∧ Hid (Below w0.heap.size w0 wr))
      case atStart => exact ⟨0, by omega, rfl, HH0, HB⟩
      case round =>
        clear HH0 HB
        obtain ⟨i, hi, rfl, HH, HB⟩ := hrel
        by_cases h8 : (i : Int) < K
        · have HM := fun w => many_any i w (by omega) (by omega)
          have hdl := mnyd_del ⟨#[118]⟩ (K := K) (i := i) (by omega) (by omega)
          have HS := DelY w0.heap.size m x E 10 (mnyd ⟨#[118]⟩ K i) pk (mny i) wr HH.out (by rw [mny_size]; decide)
          rw [hdl.1, hdl.2] at HS
          clear hdl
          go_wp2_with fail
          refine (HM _).mono ?_
          rintro e w4 ⟨rfl, rfl⟩
          go_wp2_with fail
          refine HS.mono ?_
          rintro e w5 ⟨rfl, hH, hb⟩
          have HP := PackedY _ _ _ _ _ _ _ w5 hH
          have HH5 : Hid (Hy w5 w0.heap.size m x E 10 (mnyd ⟨#[118]⟩ K (i + 1)) pk) := hH
          have HB5 : Hid (Below w0.heap.size w0 w5) := HB.out.trans hb
          clear hH hb HM
          go_wp2_with fail
          refine HP.mono ?_
          rintro e w6 ⟨rfl, rfl⟩
          go_wp2
          go_roundg (gk - 1)
          case measure => omega
          case rel => exact ⟨i + 1, by omega, by go_num, HH5, HB5⟩
        · have hiK : i = K := by omega
          have HH1 : Hid (Hy wr w0.heap.size m x E 10 [] pk) := by rw [hiK, mnyd_all] at HH; exact HH
          clear hiK HH
          have HS := SetY w0.heap.size m x E 10 [] pk ⟨#[102]⟩ ⟨#[97, 32, 116, 101, 120, 116, 32, 116, 104, 97, 116, 32, 105, 115, 32, 116, 111, 111, 32, 108, 111, 110, 103]⟩ wr HH1.out (by decide) (by decide) (by decide)
          rw [show pkE [] pk E 10 ⟨#[102]⟩ ⟨#[97, 32, 116, 101, 120, 116, 32, 116, 104, 97, 116, 32, 105, 115, 32, 116, 111, 111, 32, 108, 111, 110, 103]⟩ = false by unfold pkE; rw [Bool.and_eq_false_iff]; exact .inr (by decide)] at HS
          go_wp2_with fail
          refine HS.mono ?_
          rintro e w5 ⟨rfl, hH, hb⟩
          have HB5 : Hid (Below w0.heap.size w0 w5) := HB.out.trans hb
          have HP := PackedY _ _ _ _ _ _ _ w5 hH
          have HL := LenY _ _ _ _ _ _ _ w5 hH
          have HH5 : Hid (Hy w5 w0.heap.size m x E 10 (putE [] ⟨#[102]⟩ ⟨#[97, 32, 116, 101, 120, 116, 32, 116, 104, 97, 116, 32, 105, 115, 32, 116, 111, 111, 32, 108, 111, 110, 103]⟩) false) := hH
          clear hH hb
          go_wp2_with fail
          refine HP.mono ?_
          rintro e w6 ⟨rfl, rfl⟩
          go_wp2_with fail
          refine HL.mono ?_
          rintro e w7 ⟨rfl, hb⟩
          have HB7 := step_below HB5 hb
          have HD := DelY _ _ _ _ _ _ _ ⟨#[102]⟩ w7 (HH5.out.keep hb) (by decide)
          clear hb
          go_wp2_with fail
          refine HD.mono ?_
          rintro e w8 ⟨rfl, hH, hb⟩
          have HP8 := PackedY _ _ _ _ _ _ _ w8 hH
          have HB8 : Hid (Below w0.heap.size w0 w8) := HB7.out.trans hb
          have e1 : hasK (putE [] ⟨#[102]⟩ ⟨#[97, 32, 116, 101, 120, 116, 32, 116, 104, 97, 116, 32, 105, 115, 32, 116, 111, 111, 32, 108, 111, 110, 103]⟩) ⟨#[102]⟩ = true := rfl
          rw [e1]
          clear hH hb
          go_wp2_with fail
          refine HP8.mono ?_
          rintro e w9 ⟨rfl, rfl⟩
          go_wp2_with fail
          refine (known_any _).mono ?_
          rintro e w10 ⟨rfl, hb⟩
          have HB10 := step_below HB8 hb
          clear hb
          go_wp2
          go_ret
          exact ⟨rfl, HB10.out⟩
end Go.Proofs.YtembjlckcgginaaGreat
