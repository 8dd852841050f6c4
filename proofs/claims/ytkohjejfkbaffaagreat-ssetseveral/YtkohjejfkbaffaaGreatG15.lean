/-
  The laws' own: Within, many, known.
-/
import Derived.Test.YtkohjejfkbaffaaGreatG14
namespace Go.Proofs.YtkohjejfkbaffaaGreat
open Go.RowKit Go.PlainAid
open Dk (En Stay hasK putE delE keysOf Dct Dg dtag Turn)

/-- What Within tells from 0 on. -/
def wi (n : Int) (hi : Nat) : Nat := (if n.tmod (hi + 1) < 0 then n.tmod (hi + 1) + hi + 1 else n.tmod (hi + 1)).toNat
theorem wi_le (n : Int) (hi : Nat) : wi n hi ≤ hi := by
  unfold wi
  have h1 := Int.tmod_lt_of_pos n (b := (hi + 1 : Int)) (by omega)
  have h2 := Int.lt_tmod_of_pos n (b := (hi + 1 : Int)) (by omega)
  split <;> omega
theorem Within_wi (n : Int) (hi : Nat) (w : World) (h1 : hi ≤ 1073741824) :
    Calls Tryz.prog 18 #[.int .i64 n, .int .i64 0, .int .i64 hi] w fun e w' => e = .returned (.int .i64 (wi n hi : Nat)) ∧ w' = w := by
  have h3 := Int.tmod_lt_of_pos n (b := (hi + 1 : Int)) (by omega)
  have h4 := Int.lt_tmod_of_pos n (b := (hi + 1 : Int)) (by omega)
  have hz : ((hi : Int) + 1 == 0) = false := by simp; omega
  obtain ⟨r, hr⟩ : ∃ r, n.tmod (hi + 1) = r := ⟨_, rfl⟩
  have HW : Hid (wi n hi = (if r < 0 then r + hi + 1 else r).toNat) := by show _ = _; unfold wi; rw [hr]
  rw [hr] at h3 h4
  by_cases hn : r < 0
  · have HW2 : Hid ((wi n hi : Int) = r + hi + 1) := by show _ = _; rw [HW.out, if_pos hn]; omega
    clear HW
    go_enter Tryz.func18, Tryz.ntmps18
    go_wp2
    go_ret
    exact ⟨by rw [HW2.out]; rfl, rfl⟩
  · have HW2 : Hid ((wi n hi : Int) = r) := by show _ = _; rw [HW.out, if_neg hn]; omega
    clear HW
    go_enter Tryz.func18, Tryz.ntmps18
    go_wp2
    go_ret
    exact ⟨by rw [HW2.out]; rfl, rfl⟩

/-- A letter; the n-th of many fields. -/
def ltr (z : Int) : ByteArray := Utf8.encode (97 + z)
def mny (n : Int) : ByteArray := (⟨#[109]⟩ ++ ltr ((n.tdiv 26).tmod 26)) ++ ltr (n.tmod 26)
theorem ltr_all : ∀ r, r < 51 → (Utf8.encode (72 + ((r : Nat) : Int))).data = #[UInt8.ofNat (72 + r)] := by decide +kernel
theorem ltr_data {z : Int} (h1 : -26 < z) (h2 : z < 26) : (ltr z).data = #[UInt8.ofNat (97 + z).toNat] := by
  obtain ⟨r, hr⟩ : ∃ r : Nat, z = (r : Int) - 25 := ⟨(z + 25).toNat, by omega⟩
  have := ltr_all r (by omega)
  unfold ltr
  rw [hr, show (97 : Int) + ((r : Int) - 25) = 72 + (r : Int) by omega, this]
  congr 3
theorem tm26 (n : Int) : -26 < n.tmod 26 ∧ n.tmod 26 < 26 := ⟨Int.lt_tmod_of_pos n (by decide), Int.tmod_lt_of_pos n (by decide)⟩
theorem mny_data (n : Int) : (mny n).data = #[109, UInt8.ofNat (97 + (n.tdiv 26).tmod 26).toNat, UInt8.ofNat (97 + n.tmod 26).toNat] := by
  unfold mny
  rw [ByteArray.data_append, ByteArray.data_append, ltr_data (tm26 _).1 (tm26 _).2, ltr_data (tm26 _).1 (tm26 _).2]
  rfl
theorem mny_size (n : Int) : (mny n).size = 3 := by
  rw [← ByteArray.size_data, mny_data]
  rfl
theorem u8_inj {a b : Nat} (ha : a < 256) (hb : b < 256) (h : UInt8.ofNat a = UInt8.ofNat b) : a = b := by
  have := congrArg UInt8.toNat h
  rw [UInt8.toNat_ofNat', UInt8.toNat_ofNat'] at this
  omega
theorem mny_inj {n m : Nat} (hn : n < 676) (hm : m < 676) (h : mny n = mny m) : n = m := by
  have h1 : (mny n).data = (mny m).data := by rw [h]
  rw [mny_data, mny_data] at h1
  simp only [Array.mk.injEq, List.cons.injEq, and_true, true_and] at h1
  obtain ⟨e1, e2⟩ := h1
  have hq : ∀ k : Nat, k < 676 → (k : Int).tmod 26 = ((k % 26 : Nat) : Int) ∧ ((k : Int).tdiv 26).tmod 26 = ((k / 26 : Nat) : Int) := by
    intro k hk
    have a1 : (k : Int).tmod 26 = ((k % 26 : Nat) : Int) := by rw [Int.tmod_eq_emod_of_nonneg (by omega)]; omega
    have a2 : (k : Int).tdiv 26 = ((k / 26 : Nat) : Int) := by rw [Int.tdiv_eq_ediv_of_nonneg (by omega)]; omega
    refine ⟨a1, ?_⟩
    rw [a2, Int.tmod_eq_emod_of_nonneg (by omega)]
    omega
  rw [(hq n hn).1, (hq m hm).1] at e2
  rw [(hq n hn).2, (hq m hm).2] at e1
  have f1 := u8_inj (by omega) (by omega) e1
  have f2 := u8_inj (by omega) (by omega) e2
  omega
theorem many_any (n : Int) (w : World) (h1 : -9223372036854775808 ≤ n) (h2 : n ≤ 9223372036854775807) : Calls Tryz.prog 22 #[.int .i64 n] w fun e w' => e = .returned (.string (mny n)) ∧ w' = w := by
  obtain ⟨R, hR⟩ : ∃ R, mny n = R := ⟨_, rfl⟩
  have HR : Hid ((⟨#[109]⟩ ++ ltr ((n.tdiv 26).tmod 26)) ++ ltr (n.tmod 26) = R) := hR
  rw [hR]
  have ha := tm26 n
  have hb := tm26 (n.tdiv 26)
  have hdm := Int.mul_tdiv_add_tmod n 26
  have hc1 : n.tdiv 26 ≤ 9223372036854775807 := by omega
  have hc2 : -9223372036854775808 ≤ n.tdiv 26 := by omega
  clear hdm
  have hs1 : (ltr (n.tmod 26)).size ≤ 4 := by rw [← ByteArray.size_data, ltr_data ha.1 ha.2]; exact (by decide : 1 ≤ 4)
  have hs2 : (ltr ((n.tdiv 26).tmod 26)).size ≤ 4 := by rw [← ByteArray.size_data, ltr_data hb.1 hb.2]; exact (by decide : 1 ≤ 4)
  have e1 : Utf8.encode (97 + n.tmod 26) = ltr (n.tmod 26) := rfl
  have e2 : Utf8.encode (97 + (n.tdiv 26).tmod 26) = ltr ((n.tdiv 26).tmod 26) := rfl
  generalize ltr (n.tmod 26) = L1 at e1 HR hs1
  generalize ltr ((n.tdiv 26).tmod 26) = L2 at e2 HR hs2
  obtain ⟨q, hq⟩ : ∃ q, n.tdiv 26 = q := ⟨_, rfl⟩
  rw [hq] at hb e2 hc1 hc2
  obtain ⟨r, hr⟩ : ∃ r, n.tmod 26 = r := ⟨_, rfl⟩
  rw [hr] at ha e1
  obtain ⟨s, hs⟩ : ∃ s, q.tmod 26 = s := ⟨_, rfl⟩
  rw [hs] at hb e2
  clear hR
  go_enter Tryz.func22, Tryz.ntmps22
  go_wp2
  go_ret
  exact ⟨by rw [← HR.out]; rfl, rfl⟩

theorem u64_some (y : Int) : ∃ d0 : Nat, IntKind.u64.wrap y = (d0 : Int) ∧ d0 < 18446744073709551616 := by
  refine ⟨(IntKind.u64.wrap y).toNat, ?_, ?_⟩ <;> rw [IntKind.wrap_u64] <;> omega
theorem lim_self (E hi : Nat) (h : E ≤ hi) : lim (E : Int) hi = E := by unfold lim; omega
set_option maxRecDepth 100000 in
set_option maxHeartbeats 4000000 in
theorem known_any (w : World) : Calls Tryz.prog 17 #[] w fun e w' => e = .returned (.bool true) ∧ Below w.heap.size w w' := by
  have HN := NewS 1 2 8 w (by decide)
  go_enter Tryz.func17, Tryz.ntmps17
  go_wp2_with fail
  refine HN.mono ?_
  rintro e w1 ⟨hb, m, F, rfl, hH⟩
  have HB1 : Hid (Below w.heap.size w w1) := hb
  have HH1 : Hid (Ss w1 w.heap.size m 1 2 8 [] true F) := hH
  clear hb hH HN
  go_wp2_with fail
  refine (AddS _ m 1 2 8 [] true F ⟨#[97]⟩ _ HH1.out (by decide) (by decide)).mono ?_
  rintro e w2 ⟨rfl, hto⟩
  have HB2 : Hid (Below w.heap.size w w2) := HB1.out.trans (hto.below HH1.out)
  obtain ⟨F2, hH2, -, -⟩ := hto
  have HH2 : Hid (Ss w2 w.heap.size m 1 2 8 [⟨#[97]⟩] true F2) := hH2
  clear hH2
  go_wp2_with fail
  refine (AddS _ m 1 2 8 _ true F2 ⟨#[97]⟩ _ HH2.out (by decide) (by decide)).mono ?_
  rintro e w3 ⟨rfl, hto⟩
  have HB3 : Hid (Below w.heap.size w w3) := HB2.out.trans (hto.below HH2.out)
  obtain ⟨F3, hH3, -, -⟩ := hto
  have HH3 : Hid (Ss w3 w.heap.size m 1 2 8 [⟨#[97]⟩] true F3) := hH3
  clear hH3
  have HN2 := NewS 1 0 0 w3 (by decide)
  go_wp2_with fail
  refine HN2.mono ?_
  rintro e w4 ⟨hb, m2, F4, rfl, hH⟩
  have HB4 := step_below HB3 hb
  have HP4 := PickS_none _ m2 1 _ _ [] true F4 1 w4 hH rfl
  have HH4 : Hid (Ss w4 w.heap.size m 1 2 8 [⟨#[97]⟩] true F3) := HH3.out.keep hb
  clear hb hH HN2
  go_wp2_with fail
  refine HP4.mono ?_
  rintro e w5 ⟨rfl, hb⟩
  have HB5 := step_below HB4 hb
  have HH5 : Hid (Ss w5 w.heap.size m 1 2 8 [⟨#[97]⟩] true F3) := HH4.out.keep hb
  have HHs := HasS _ m 1 2 8 _ true F3 ⟨#[97]⟩ w5 HH5.out (by decide)
  have e3 : hasM [(⟨#[97]⟩ : ByteArray)] ⟨#[97]⟩ = true := rfl
  have e4 : hasM ([] : List ByteArray) ⟨#[97]⟩ = false := rfl
  rw [e3] at HHs
  rw [e3, e4]
  clear hb HP4
  go_wp2_with fail
  refine HHs.mono ?_
  rintro e w6 ⟨rfl, hb⟩
  have HB6 := step_below HB5 hb
  have HP := PackedS _ m 1 2 8 _ true F3 w6 (HH5.out.keep hb)
  clear hb
  go_wp2_with fail
  refine HP.mono ?_
  rintro e w7 ⟨rfl, rfl⟩
  go_wp2
  go_ret
  exact ⟨rfl, HB6.out⟩
end Go.Proofs.YtkohjejfkbaffaaGreat
