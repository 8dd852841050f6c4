/-
  What the laws call besides: Cut, Within, known, writes, reads.
-/
import Derived.Test.YtdlnodedikiamaaRefBack
import Derived.Deep.RegionWith
namespace Go.Proofs.Ytdlnodedikiamaa
open Go.RowKit Go.PlainAid

def cutB (s : ByteArray) (n : Int) : ByteArray := if n < (s.size : Int) then s.extract 0 n.toNat else s
theorem size_cutB (s : ByteArray) (n : Int) (h : 0 ≤ n) : ((cutB s n).size : Int) ≤ n := by
  unfold cutB
  split
  · simp; omega
  · omega

theorem Cut_any (s : ByteArray) (n : Int) (w : World) (h0 : 0 ≤ n) :
    Calls Try.prog 22 #[.string s, .int .i64 n] w fun e w' => e = .returned (.string (cutB s n)) ∧ w' = w := by
  by_cases h : n < s.size
  · have HC : Hid (cutB s n = s.extract 0 n.toNat) := by show cutB s n = _; rw [cutB, if_pos h]
    go_enter Try.func22, Try.ntmps22
    go_wp2
    go_ret
    exact ⟨by rw [HC.out]; simp, rfl⟩
  · have HC : Hid (cutB s n = s) := by show cutB s n = _; rw [cutB, if_neg h]
    go_enter Try.func22, Try.ntmps22
    go_wp2
    go_ret
    exact ⟨by rw [HC.out]; rfl, rfl⟩

theorem Within_any (n hi : Int) (w : World) (h0 : 0 ≤ hi) (h1 : hi ≤ 4611686018427387904) :
    Calls Try.prog 14 #[.int .i64 n, .int .i64 0, .int .i64 hi] w fun e w' => w' = w ∧ ∃ z : Int, 0 ≤ z ∧ z ≤ hi ∧ e = .returned (.int .i64 z) := by
  have hz : (hi + 1 == 0) = false := by simp; omega
  have hr0 : n.tmod (hi + 1) < hi + 1 := Int.tmod_lt_of_pos n (by omega)
  have hr1 : -(hi + 1) < n.tmod (hi + 1) := Int.lt_tmod_of_pos n (by omega)
  obtain ⟨r, hr⟩ : ∃ r, n.tmod (hi + 1) = r := ⟨_, rfl⟩
  rw [hr] at hr0 hr1
  by_cases hn : r < 0
  · go_enter Try.func14, Try.ntmps14
    go_wp2
    go_ret
    exact ⟨rfl, r + hi + 1, by omega, by omega, rfl⟩
  · go_enter Try.func14, Try.ntmps14
    go_wp2
    go_ret
    exact ⟨rfl, r, by omega, by omega, rfl⟩

set_option maxRecDepth 100000 in
theorem known_any (w : World) : Calls Try.prog 12 #[] w fun e w' => Below w.heap.size w w' ∧ e = .returned (.bool true) := by
  have HA := fun w => Encode_any ⟨#[53]⟩ w (by decide)
  have HB := fun w => Encode_any ⟨#[97, 98]⟩ w (by decide)
  have HC := fun w => Decode_any none 0 0 [] 0 w (Rd.nil w) (by decide)
  have hA : enc (lst ⟨#[53]⟩) = [5, 1] := by decide +kernel
  have hB : enc (lst ⟨#[97, 98]⟩) = [130, 97, 98, 3] := by decide +kernel
  have hC : decAt [] 0 = none := rfl
  rw [hC, cR_none] at HC
  unfold EncR at HA HB
  rw [hA] at HA
  rw [hB] at HB
  have H0 : Hid (Below w.heap.size w w) := Below.refl _ _
  clear hA hB hC
  go_enter Try.func12, Try.ntmps12
  go_wp2_with fail
  refine (HA _).mono ?_
  rintro e w1 ⟨hb, a1, n1, c1, rfl, hO1⟩
  have HR1 : Hid (Rd w1 a1 n1 c1 [5, 1]) := hO1.rd
  have H1 := step_below H0 hb
  clear hb hO1
  go_wp2_with fail
  refine (HB _).mono ?_
  rintro e w2 ⟨hb, a2, n2, c2, rfl, hO2⟩
  have HR2 : Hid (Rd w2 a2 n2 c2 [130, 97, 98, 3]) := hO2.rd
  have HR1 : Hid (Rd w2 a1 n1 c1 [5, 1]) := HR1.out.keep hb
  have H2 := step_below H1 hb
  clear hb hO2
  go_wp2_with fail
  refine (HC _).mono ?_
  rintro e w3 ⟨hb, rfl⟩
  have hT1 := (HR1.out.keep hb).text
  have hT2 := (HR2.out.keep hb).text
  have H3 := step_below H2 hb
  rw [show bs [5, 1] = ⟨#[5, 1]⟩ from rfl] at hT1
  rw [show bs [130, 97, 98, 3] = ⟨#[130, 97, 98, 3]⟩ from rfl] at hT2
  clear hb
  go_wp2
  go_ret
  exact ⟨H3.out, rfl⟩

set_option maxRecDepth 100000 in
set_option maxHeartbeats 4000000 in
theorem writes_long (s : ByteArray) (w : World) (hs : 4096 < s.size) (hm : s.size ≤ maxLen) : Calls Try.prog 8 #[.string s] w fun e w' => Below w.heap.size w w' ∧ e = .returned (.bool true) := by
  have HE := fun w => Encode_long s w hs hm
  have HZ := fun w => Size_long s w hs hm
  unfold maxLen at hm
  go_enter Try.func8, Try.ntmps8
  go_wp2_with fail
  refine (HE _).mono ?_
  rintro e w ⟨rfl, rfl⟩
  go_wp2_with fail
  refine (HZ _).mono ?_
  rintro e w ⟨rfl, rfl⟩
  go_wp2
  go_ret
  exact ⟨Below.refl _ _, rfl⟩

set_option maxRecDepth 100000 in
set_option maxHeartbeats 4000000 in
theorem reads_any (a : Option Addr) (n cap : Nat) (l : List UInt8) (at' : Int) (w : World) (hR : Rd w a n cap l) (h63 : at' ≤ 9223372036854775807) :
    Calls Try.prog 10 #[.slice a n cap, .int .i64 at'] w fun e w' => Below w.heap.size w w' ∧ e = .returned (.bool true) := by
  have H1 := fun w1 (e : Rd w1 a n cap l) => Decode_any a n cap l at' w1 e h63
  have H2 := fun w1 (e : Rd w1 a n cap l) => refDecode_any a n cap l at' w1 e h63
  have H3 := fun w1 (e : Rd w1 a n cap l) => Back_any a n cap l at' w1 e
  have H4 := fun w1 (e : Rd w1 a n cap l) => refBack_any a n cap l at' w1 e
  have HR : Hid (Rd w a n cap l) := hR
  have H0 : Hid (Below w.heap.size w w) := Below.refl _ _
  clear hR
  unfold cR dR at *
  unfold kR bR at *
  cases hd : decAt l at' with
  | none =>
    rw [hd] at H1 H2
    dsimp only [dS, dN, Option.isSome_none] at H1 H2
    cases hb : bkAt l at' with
    | none =>
      rw [hb] at H3 H4
      dsimp only [Option.getD_none, Option.isSome_none] at H3 H4
      simp only [Bool.false_eq_true, if_false] at H1 H3
      clear hd hb
      go_enter Try.func10, Try.ntmps10
      go_wp2_with fail
      refine (H1 _ HR.out).mono ?_
      rintro e w1 ⟨hb, rfl⟩
      have G1 := step_below H0 hb
      clear hb
      go_wp2_with fail
      refine (H2 _ (HR.out.keep G1.out)).mono ?_
      rintro e w2 ⟨hb, rfl⟩
      have G2 := step_below G1 hb
      clear hb
      go_wp2_with fail
      refine (H3 _ (HR.out.keep G2.out)).mono ?_
      rintro e w3 ⟨hb, rfl⟩
      have G3 := step_below G2 hb
      clear hb
      go_wp2_with fail
      refine (H4 _ (HR.out.keep G3.out)).mono ?_
      rintro e w4 ⟨hb, rfl⟩
      have G4 := step_below G3 hb
      clear hb
      go_wp2
      go_ret
      exact ⟨G4.out, rfl⟩
    | some k =>
      rw [hb] at H3 H4
      dsimp only [Option.getD_some, Option.isSome_some] at H3 H4
      simp only [Bool.false_eq_true, if_false, if_true] at H1 H3
      clear hd hb
      go_enter Try.func10, Try.ntmps10
      go_wp2_with fail
      refine (H1 _ HR.out).mono ?_
      rintro e w1 ⟨hb, rfl⟩
      have G1 := step_below H0 hb
      clear hb
      go_wp2_with fail
      refine (H2 _ (HR.out.keep G1.out)).mono ?_
      rintro e w2 ⟨hb, rfl⟩
      have G2 := step_below G1 hb
      clear hb
      go_wp2_with fail
      refine (H3 _ (HR.out.keep G2.out)).mono ?_
      rintro e w3 ⟨hb, rfl⟩
      have G3 := step_below G2 hb
      clear hb
      go_wp2_with fail
      refine (H4 _ (HR.out.keep G3.out)).mono ?_
      rintro e w4 ⟨hb, rfl⟩
      have G4 := step_below G3 hb
      clear hb
      go_wp2
      go_ret
      exact ⟨G4.out, rfl⟩
  | some q =>
    obtain ⟨s, z⟩ := q
    rw [hd] at H1 H2
    dsimp only [dS, dN, Option.isSome_some] at H1 H2
    generalize bs s = S at H1 H2
    generalize ((z : Nat) : Int) = Z at H1 H2
    cases hb : bkAt l at' with
    | none =>
      rw [hb] at H3 H4
      dsimp only [Option.getD_none, Option.isSome_none] at H3 H4
      simp only [Bool.false_eq_true, if_false, if_true] at H1 H3
      clear hd hb
      go_enter Try.func10, Try.ntmps10
      go_wp2_with fail
      refine (H1 _ HR.out).mono ?_
      rintro e w1 ⟨hb, rfl⟩
      have G1 := step_below H0 hb
      clear hb
      go_wp2_with fail
      refine (H2 _ (HR.out.keep G1.out)).mono ?_
      rintro e w2 ⟨hb, rfl⟩
      have G2 := step_below G1 hb
      clear hb
      go_wp2_with fail
      refine (H3 _ (HR.out.keep G2.out)).mono ?_
      rintro e w3 ⟨hb, rfl⟩
      have G3 := step_below G2 hb
      clear hb
      go_wp2_with fail
      refine (H4 _ (HR.out.keep G3.out)).mono ?_
      rintro e w4 ⟨hb, rfl⟩
      have G4 := step_below G3 hb
      clear hb
      go_wp2
      go_ret
      exact ⟨G4.out, rfl⟩
    | some k =>
      rw [hb] at H3 H4
      dsimp only [Option.getD_some, Option.isSome_some] at H3 H4
      simp only [if_true] at H1 H3
      clear hd hb
      go_enter Try.func10, Try.ntmps10
      go_wp2_with fail
      refine (H1 _ HR.out).mono ?_
      rintro e w1 ⟨hb, rfl⟩
      have G1 := step_below H0 hb
      clear hb
      go_wp2_with fail
      refine (H2 _ (HR.out.keep G1.out)).mono ?_
      rintro e w2 ⟨hb, rfl⟩
      have G2 := step_below G1 hb
      clear hb
      go_wp2_with fail
      refine (H3 _ (HR.out.keep G2.out)).mono ?_
      rintro e w3 ⟨hb, rfl⟩
      have G3 := step_below G2 hb
      clear hb
      go_wp2_with fail
      refine (H4 _ (HR.out.keep G3.out)).mono ?_
      rintro e w4 ⟨hb, rfl⟩
      have G4 := step_below G3 hb
      clear hb
      go_wp2
      go_ret
      exact ⟨G4.out, rfl⟩
end Go.Proofs.Ytdlnodedikiamaa
