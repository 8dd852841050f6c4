/-
  The law NumDigits, walked.
-/
import Derived.Test.YtcbddggalccgiaaTells
namespace Go.Proofs.Ytcbddggalccgiaa
open Go.RowKit Go.PlainAid

def zeros20 : ByteArray := ⟨#[48, 48, 48, 48, 48, 48, 48, 48, 48, 48, 48, 48, 48, 48, 48, 48, 48, 48, 48, 48]⟩

theorem zeros_cut (z : Nat) (h : z ≤ 20) : zeros20.extract 0 z = bs (List.replicate z 48) := by
  have : ∀ z : Fin 21, zeros20.extract 0 z.1 = bs (List.replicate z.1 48) := by decide +kernel
  exact this ⟨z, by omega⟩

theorem append_bs (l r : List UInt8) : bs l ++ bs r = bs (l ++ r) := ByteArray.mk_append_mk l r

theorem parseL_zero (n : Nat) : parseL (48 :: dec n) = none := by
  have hp : 0 < (dec n).length := List.length_pos_iff.2 (dec_ne n)
  unfold parseL
  rw [if_neg (by simp), plainL, if_pos ⟨by simp; omega, rfl⟩]
  rfl

theorem Cursor_zeros (U Z : Nat) (d : ByteArray) (w : World) (hU : U < 18446744073709551616) (hd : bs (dec U) = d) (hz : Z + d.size ≤ 20) :
    Calls Try.prog 17 #[.string (bs (List.replicate Z 48) ++ d)] w fun e w' => e = .returned (u64R (some U)) ∧ w' = w := by
  subst hd
  rw [size_bs] at hz
  rw [append_bs]
  refine Cursor_any _ w ?_ _ ?_
  · rw [size_bs]; unfold maxLen; simp; omega
  · rw [lst_bs]; exact cursorL_zeros hU Z hz

theorem mayParse_zero (U : Nat) (d : ByteArray) (w : World) (hU : U < 18446744073709551616) (hd : bs (dec U) = d) :
    Calls Try.prog 20 #[.string ((⟨#[48]⟩ : ByteArray) ++ d)] w fun e w' => e = .returned (.bool false) ∧ w' = w := by
  subst hd
  rw [cons_bs]
  refine mayParse_any _ w ?_ none ?_
  · rw [size_bs]; have := dec_len20 hU; unfold maxLen; simp; omega
  · rw [lst_bs]; exact parseL_zero U

theorem d48 (d : ByteArray) : (d.toList == [48]) = true ∨ (d.toList == [48]) = false := by
  cases (d.toList == [48]) <;> simp

theorem negO_some {a : Int} (h : ¬ a = -9223372036854775808) : negO a = some (-a) := if_neg h

set_option maxHeartbeats 2000000 in
theorem digits_least (zeros : Int) (w : World) :
    Calls Try.prog 7 #[.int .i64 (-9223372036854775808), .int .i64 zeros] w fun e w' => e = .returned (.bool true) ∧ Below w.heap.size w w' := by
  have HN := fun w => Negate_any (-9223372036854775808) w ⟨by decide, by decide⟩
  rw [show negO (-9223372036854775808) = none from rfl] at HN
  dsimp only [i64R, Option.getD_none, Option.isSome_none] at HN
  obtain ⟨U, hU, hlt⟩ : ∃ U : Nat, IntKind.u64.wrap (-9223372036854775808) = U ∧ U < 18446744073709551616 := ⟨(IntKind.u64.wrap (-9223372036854775808)).toNat, by rw [IntKind.wrap_u64]; omega, by rw [IntKind.wrap_u64]; omega⟩
  have HLT : Hid (U < 18446744073709551616) := hlt
  have HUn := fun w => Unsigned_any U w hlt
  have hlen := dec_len20 hlt
  rw [← size_bs] at hlen
  obtain ⟨d, hd⟩ : ∃ d, bs (dec U) = d := ⟨_, rfl⟩
  rw [hd] at HUn hlen
  have HD : Hid (bs (dec U) = d) := hd
  have HMP := fun w => mayParse_zero U d w hlt hd
  clear hlt hd
  go_enter Try.func7, Try.ntmps7
  go_wp2_with fail
  refine (HUn _).mono ?_
  rintro e w1 ⟨rfl, hb1⟩
  have H1 : Hid (Below w.heap.size w w1) := hb1
  clear hb1
  by_cases hpos : (d.size : Int) < 20
  · go_wp2_with fail
    refine (Within_any zeros _ _ (by omega) (by omega)).mono ?_
    rintro e w2 ⟨rfl, z, hz0, hz1, rfl⟩
    obtain ⟨Z, rfl⟩ : ∃ Z : Nat, (Z : Int) = z := ⟨z.toNat, by omega⟩
    have hzs : Z + d.size ≤ 20 := by omega
    have hzc : (⟨#[48, 48, 48, 48, 48, 48, 48, 48, 48, 48, 48, 48, 48, 48, 48, 48, 48, 48, 48, 48]⟩ : ByteArray).extract 0 Z = bs (List.replicate Z 48) := zeros_cut Z (by omega)
    have HC := fun w => Cursor_zeros U Z d w HLT.out HD.out hzs
    have hrs : (bs (List.replicate Z 48)).size ≤ 20 := by rw [size_bs]; simp; omega
    generalize bs (List.replicate Z 48) = zb at hzc HC hrs
    dsimp only [u64R, Option.getD_some, Option.isSome_some] at HC
    go_wp2_with fail
    refine (HC _).mono ?_
    rintro e w3 ⟨rfl, rfl⟩
    clear hz1 hpos hzc HC hrs
    by_cases hZ : 0 < (Z : Int)
    · rcases d48 d with h48 | h48
      · go_upto_region 7 with (go_at_call 20; refine (HMP _).mono ?_; rintro e w4 ⟨rfl, rfl⟩)
        go_wp2_with fail
        refine (HN _).mono ?_
        rintro e w4 ⟨rfl, rfl⟩
        go_wp2_with fail
        refine (known_any _).mono ?_
        rintro e w4 ⟨rfl, rfl⟩
        go_wp2
        go_ret
        exact ⟨rfl, H1.out⟩
      · go_upto_region 7 with (go_at_call 20; refine (HMP _).mono ?_; rintro e w4 ⟨rfl, rfl⟩)
        go_wp2_with fail
        refine (HN _).mono ?_
        rintro e w4 ⟨rfl, rfl⟩
        go_wp2_with fail
        refine (known_any _).mono ?_
        rintro e w4 ⟨rfl, rfl⟩
        go_wp2
        go_ret
        exact ⟨rfl, H1.out⟩
    · go_upto_region 7 with (go_at_call 20; refine (HMP _).mono ?_; rintro e w4 ⟨rfl, rfl⟩)
      go_wp2_with fail
      refine (HN _).mono ?_
      rintro e w4 ⟨rfl, rfl⟩
      go_wp2_with fail
      refine (known_any _).mono ?_
      rintro e w4 ⟨rfl, rfl⟩
      go_wp2
      go_ret
      exact ⟨rfl, H1.out⟩
  · go_wp2_with fail
    refine (Within_any zeros _ _ (by omega) (by omega)).mono ?_
    rintro e w2 ⟨rfl, z, hz0, hz1, rfl⟩
    obtain ⟨Z, rfl⟩ : ∃ Z : Nat, (Z : Int) = z := ⟨z.toNat, by omega⟩
    have hzs : Z + d.size ≤ 20 := by omega
    have hzc : (⟨#[48, 48, 48, 48, 48, 48, 48, 48, 48, 48, 48, 48, 48, 48, 48, 48, 48, 48, 48, 48]⟩ : ByteArray).extract 0 Z = bs (List.replicate Z 48) := zeros_cut Z (by omega)
    have HC := fun w => Cursor_zeros U Z d w HLT.out HD.out hzs
    have hrs : (bs (List.replicate Z 48)).size ≤ 20 := by rw [size_bs]; simp; omega
    generalize bs (List.replicate Z 48) = zb at hzc HC hrs
    dsimp only [u64R, Option.getD_some, Option.isSome_some] at HC
    go_wp2_with fail
    refine (HC _).mono ?_
    rintro e w3 ⟨rfl, rfl⟩
    clear hz1 hpos hzc HC hrs
    by_cases hZ : 0 < (Z : Int)
    · rcases d48 d with h48 | h48
      · go_upto_region 7 with (go_at_call 20; refine (HMP _).mono ?_; rintro e w4 ⟨rfl, rfl⟩)
        go_wp2_with fail
        refine (HN _).mono ?_
        rintro e w4 ⟨rfl, rfl⟩
        go_wp2_with fail
        refine (known_any _).mono ?_
        rintro e w4 ⟨rfl, rfl⟩
        go_wp2
        go_ret
        exact ⟨rfl, H1.out⟩
      · go_upto_region 7 with (go_at_call 20; refine (HMP _).mono ?_; rintro e w4 ⟨rfl, rfl⟩)
        go_wp2_with fail
        refine (HN _).mono ?_
        rintro e w4 ⟨rfl, rfl⟩
        go_wp2_with fail
        refine (known_any _).mono ?_
        rintro e w4 ⟨rfl, rfl⟩
        go_wp2
        go_ret
        exact ⟨rfl, H1.out⟩
    · go_upto_region 7 with (go_at_call 20; refine (HMP _).mono ?_; rintro e w4 ⟨rfl, rfl⟩)
      go_wp2_with fail
      refine (HN _).mono ?_
      rintro e w4 ⟨rfl, rfl⟩
      go_wp2_with fail
      refine (known_any _).mono ?_
      rintro e w4 ⟨rfl, rfl⟩
      go_wp2
      go_ret
      exact ⟨rfl, H1.out⟩

set_option maxHeartbeats 2000000 in
theorem digits_zero (zeros : Int) (w : World) :
    Calls Try.prog 7 #[.int .i64 0, .int .i64 zeros] w fun e w' => e = .returned (.bool true) ∧ Below w.heap.size w w' := by
  have HN := fun w => Negate_any 0 w ⟨by decide, by decide⟩
  rw [show negO 0 = some 0 from rfl] at HN
  dsimp only [i64R, Option.getD_some, Option.isSome_some] at HN
  have HX := fun w => Format_any 0 w (by decide) (by decide)
  have HY := HX
  generalize bs (fmtL 0) = x at HX HY
  obtain ⟨U, hU, hlt⟩ : ∃ U : Nat, IntKind.u64.wrap 0 = U ∧ U < 18446744073709551616 := ⟨(IntKind.u64.wrap 0).toNat, by rw [IntKind.wrap_u64]; omega, by rw [IntKind.wrap_u64]; omega⟩
  have HLT : Hid (U < 18446744073709551616) := hlt
  have HUn := fun w => Unsigned_any U w hlt
  have hlen := dec_len20 hlt
  rw [← size_bs] at hlen
  obtain ⟨d, hd⟩ : ∃ d, bs (dec U) = d := ⟨_, rfl⟩
  rw [hd] at HUn hlen
  have HD : Hid (bs (dec U) = d) := hd
  have HMP := fun w => mayParse_zero U d w hlt hd
  clear hlt hd
  go_enter Try.func7, Try.ntmps7
  go_wp2_with fail
  refine (HUn _).mono ?_
  rintro e w1 ⟨rfl, hb1⟩
  have H1 : Hid (Below w.heap.size w w1) := hb1
  clear hb1
  by_cases hpos : (d.size : Int) < 20
  · go_wp2_with fail
    refine (Within_any zeros _ _ (by omega) (by omega)).mono ?_
    rintro e w2 ⟨rfl, z, hz0, hz1, rfl⟩
    obtain ⟨Z, rfl⟩ : ∃ Z : Nat, (Z : Int) = z := ⟨z.toNat, by omega⟩
    have hzs : Z + d.size ≤ 20 := by omega
    have hzc : (⟨#[48, 48, 48, 48, 48, 48, 48, 48, 48, 48, 48, 48, 48, 48, 48, 48, 48, 48, 48, 48]⟩ : ByteArray).extract 0 Z = bs (List.replicate Z 48) := zeros_cut Z (by omega)
    have HC := fun w => Cursor_zeros U Z d w HLT.out HD.out hzs
    have hrs : (bs (List.replicate Z 48)).size ≤ 20 := by rw [size_bs]; simp; omega
    generalize bs (List.replicate Z 48) = zb at hzc HC hrs
    dsimp only [u64R, Option.getD_some, Option.isSome_some] at HC
    go_wp2_with fail
    refine (HC _).mono ?_
    rintro e w3 ⟨rfl, rfl⟩
    clear hz1 hpos hzc HC hrs
    by_cases hZ : 0 < (Z : Int)
    · rcases d48 d with h48 | h48
      · go_upto_region 7 with (go_at_call 20; refine (HMP _).mono ?_; rintro e w4 ⟨rfl, rfl⟩)
        go_wp2_with fail
        refine (HN _).mono ?_
        rintro e w4 ⟨rfl, rfl⟩
        go_wp2_with fail
        refine (HX _).mono ?_
        rintro e w5 ⟨rfl, hb5⟩
        have H5 : Hid (Below w.heap.size w w5) := H1.out.trans (hb5.mono H1.out.size)
        clear hb5
        go_wp2_with fail
        refine (HY _).mono ?_
        rintro e w6 ⟨rfl, hb6⟩
        have H6 : Hid (Below w.heap.size w w6) := H5.out.trans (hb6.mono H5.out.size)
        clear hb6
        go_wp2_with fail
        refine (known_any _).mono ?_
        rintro e w7 ⟨rfl, rfl⟩
        go_wp2
        go_ret
        exact ⟨rfl, H6.out⟩
      · go_upto_region 7 with (go_at_call 20; refine (HMP _).mono ?_; rintro e w4 ⟨rfl, rfl⟩)
        go_wp2_with fail
        refine (HN _).mono ?_
        rintro e w4 ⟨rfl, rfl⟩
        go_wp2_with fail
        refine (HX _).mono ?_
        rintro e w5 ⟨rfl, hb5⟩
        have H5 : Hid (Below w.heap.size w w5) := H1.out.trans (hb5.mono H1.out.size)
        clear hb5
        go_wp2_with fail
        refine (HY _).mono ?_
        rintro e w6 ⟨rfl, hb6⟩
        have H6 : Hid (Below w.heap.size w w6) := H5.out.trans (hb6.mono H5.out.size)
        clear hb6
        go_wp2_with fail
        refine (known_any _).mono ?_
        rintro e w7 ⟨rfl, rfl⟩
        go_wp2
        go_ret
        exact ⟨rfl, H6.out⟩
    · go_upto_region 7 with (go_at_call 20; refine (HMP _).mono ?_; rintro e w4 ⟨rfl, rfl⟩)
      go_wp2_with fail
      refine (HN _).mono ?_
      rintro e w4 ⟨rfl, rfl⟩
      go_wp2_with fail
      refine (HX _).mono ?_
      rintro e w5 ⟨rfl, hb5⟩
      have H5 : Hid (Below w.heap.size w w5) := H1.out.trans (hb5.mono H1.out.size)
      clear hb5
      go_wp2_with fail
      refine (HY _).mono ?_
      rintro e w6 ⟨rfl, hb6⟩
      have H6 : Hid (Below w.heap.size w w6) := H5.out.trans (hb6.mono H5.out.size)
      clear hb6
      go_wp2_with fail
      refine (known_any _).mono ?_
      rintro e w7 ⟨rfl, rfl⟩
      go_wp2
      go_ret
      exact ⟨rfl, H6.out⟩
  · go_wp2_with fail
    refine (Within_any zeros _ _ (by omega) (by omega)).mono ?_
    rintro e w2 ⟨rfl, z, hz0, hz1, rfl⟩
    obtain ⟨Z, rfl⟩ : ∃ Z : Nat, (Z : Int) = z := ⟨z.toNat, by omega⟩
    have hzs : Z + d.size ≤ 20 := by omega
    have hzc : (⟨#[48, 48, 48, 48, 48, 48, 48, 48, 48, 48, 48, 48, 48, 48, 48, 48, 48, 48, 48, 48]⟩ : ByteArray).extract 0 Z = bs (List.replicate Z 48) := zeros_cut Z (by omega)
    have HC := fun w => Cursor_zeros U Z d w HLT.out HD.out hzs
    have hrs : (bs (List.replicate Z 48)).size ≤ 20 := by rw [size_bs]; simp; omega
    generalize bs (List.replicate Z 48) = zb at hzc HC hrs
    dsimp only [u64R, Option.getD_some, Option.isSome_some] at HC
    go_wp2_with fail
    refine (HC _).mono ?_
    rintro e w3 ⟨rfl, rfl⟩
    clear hz1 hpos hzc HC hrs
    by_cases hZ : 0 < (Z : Int)
    · rcases d48 d with h48 | h48
      · go_upto_region 7 with (go_at_call 20; refine (HMP _).mono ?_; rintro e w4 ⟨rfl, rfl⟩)
        go_wp2_with fail
        refine (HN _).mono ?_
        rintro e w4 ⟨rfl, rfl⟩
        go_wp2_with fail
        refine (HX _).mono ?_
        rintro e w5 ⟨rfl, hb5⟩
        have H5 : Hid (Below w.heap.size w w5) := H1.out.trans (hb5.mono H1.out.size)
        clear hb5
        go_wp2_with fail
        refine (HY _).mono ?_
        rintro e w6 ⟨rfl, hb6⟩
        have H6 : Hid (Below w.heap.size w w6) := H5.out.trans (hb6.mono H5.out.size)
        clear hb6
        go_wp2_with fail
        refine (known_any _).mono ?_
        rintro e w7 ⟨rfl, rfl⟩
        go_wp2
        go_ret
        exact ⟨rfl, H6.out⟩
      · go_upto_region 7 with (go_at_call 20; refine (HMP _).mono ?_; rintro e w4 ⟨rfl, rfl⟩)
        go_wp2_with fail
        refine (HN _).mono ?_
        rintro e w4 ⟨rfl, rfl⟩
        go_wp2_with fail
        refine (HX _).mono ?_
        rintro e w5 ⟨rfl, hb5⟩
        have H5 : Hid (Below w.heap.size w w5) := H1.out.trans (hb5.mono H1.out.size)
        clear hb5
        go_wp2_with fail
        refine (HY _).mono ?_
        rintro e w6 ⟨rfl, hb6⟩
        have H6 : Hid (Below w.heap.size w w6) := H5.out.trans (hb6.mono H5.out.size)
        clear hb6
        go_wp2_with fail
        refine (known_any _).mono ?_
        rintro e w7 ⟨rfl, rfl⟩
        go_wp2
        go_ret
        exact ⟨rfl, H6.out⟩
    · go_upto_region 7 with (go_at_call 20; refine (HMP _).mono ?_; rintro e w4 ⟨rfl, rfl⟩)
      go_wp2_with fail
      refine (HN _).mono ?_
      rintro e w4 ⟨rfl, rfl⟩
      go_wp2_with fail
      refine (HX _).mono ?_
      rintro e w5 ⟨rfl, hb5⟩
      have H5 : Hid (Below w.heap.size w w5) := H1.out.trans (hb5.mono H1.out.size)
      clear hb5
      go_wp2_with fail
      refine (HY _).mono ?_
      rintro e w6 ⟨rfl, hb6⟩
      have H6 : Hid (Below w.heap.size w w6) := H5.out.trans (hb6.mono H5.out.size)
      clear hb6
      go_wp2_with fail
      refine (known_any _).mono ?_
      rintro e w7 ⟨rfl, rfl⟩
      go_wp2
      go_ret
      exact ⟨rfl, H6.out⟩

set_option maxHeartbeats 2000000 in
theorem digits_above (a zeros : Int) (w : World) (ha : Int64 a) (h0 : 0 < a) :
    Calls Try.prog 7 #[.int .i64 a, .int .i64 zeros] w fun e w' => e = .returned (.bool true) ∧ Below w.heap.size w w' := by
  have HN := fun w => Negate_any a w ha
  unfold Int64 at ha
  rw [negO_some (by omega)] at HN
  dsimp only [i64R, Option.getD_some, Option.isSome_some] at HN
  have HX := fun w => Format_any a w ha.1 ha.2
  have HY := fun w => Format_any (-a) w (by omega) (by omega)
  rw [fmtL_pos (show ¬ a < 0 by omega)] at HX
  rw [fmtL_neg (show -a < 0 by omega), ← minus_bs, Int.neg_neg] at HY
  have hxs : (bs (dec a.toNat)).size ≤ 20 := dec_len20 (n := a.toNat) (by omega)
  generalize bs (dec a.toNat) = x at HX HY hxs
  have hq0 : (a == 0) = false := by simp; omega
  obtain ⟨U, hU, hlt⟩ : ∃ U : Nat, IntKind.u64.wrap a = U ∧ U < 18446744073709551616 := ⟨(IntKind.u64.wrap a).toNat, by rw [IntKind.wrap_u64]; omega, by rw [IntKind.wrap_u64]; omega⟩
  have HLT : Hid (U < 18446744073709551616) := hlt
  have HUn := fun w => Unsigned_any U w hlt
  have hlen := dec_len20 hlt
  rw [← size_bs] at hlen
  obtain ⟨d, hd⟩ : ∃ d, bs (dec U) = d := ⟨_, rfl⟩
  rw [hd] at HUn hlen
  have HD : Hid (bs (dec U) = d) := hd
  have HMP := fun w => mayParse_zero U d w hlt hd
  clear ha hlt hd
  go_enter Try.func7, Try.ntmps7
  go_wp2_with fail
  refine (HUn _).mono ?_
  rintro e w1 ⟨rfl, hb1⟩
  have H1 : Hid (Below w.heap.size w w1) := hb1
  clear hb1
  by_cases hpos : (d.size : Int) < 20
  · go_wp2_with fail
    refine (Within_any zeros _ _ (by omega) (by omega)).mono ?_
    rintro e w2 ⟨rfl, z, hz0, hz1, rfl⟩
    obtain ⟨Z, rfl⟩ : ∃ Z : Nat, (Z : Int) = z := ⟨z.toNat, by omega⟩
    have hzs : Z + d.size ≤ 20 := by omega
    have hzc : (⟨#[48, 48, 48, 48, 48, 48, 48, 48, 48, 48, 48, 48, 48, 48, 48, 48, 48, 48, 48, 48]⟩ : ByteArray).extract 0 Z = bs (List.replicate Z 48) := zeros_cut Z (by omega)
    have HC := fun w => Cursor_zeros U Z d w HLT.out HD.out hzs
    have hrs : (bs (List.replicate Z 48)).size ≤ 20 := by rw [size_bs]; simp; omega
    generalize bs (List.replicate Z 48) = zb at hzc HC hrs
    dsimp only [u64R, Option.getD_some, Option.isSome_some] at HC
    go_wp2_with fail
    refine (HC _).mono ?_
    rintro e w3 ⟨rfl, rfl⟩
    clear hz1 hpos hzc HC hrs
    by_cases hZ : 0 < (Z : Int)
    · rcases d48 d with h48 | h48
      · go_upto_region 7 with (go_at_call 20; refine (HMP _).mono ?_; rintro e w4 ⟨rfl, rfl⟩)
        go_wp2_with fail
        refine (HN _).mono ?_
        rintro e w4 ⟨rfl, rfl⟩
        go_wp2_with fail
        refine (HX _).mono ?_
        rintro e w5 ⟨rfl, hb5⟩
        have H5 : Hid (Below w.heap.size w w5) := H1.out.trans (hb5.mono H1.out.size)
        clear hb5
        go_wp2_with fail
        refine (HY _).mono ?_
        rintro e w6 ⟨rfl, hb6⟩
        have H6 : Hid (Below w.heap.size w w6) := H5.out.trans (hb6.mono H5.out.size)
        clear hb6
        go_wp2_with fail
        refine (known_any _).mono ?_
        rintro e w7 ⟨rfl, rfl⟩
        go_wp2
        go_ret
        exact ⟨rfl, H6.out⟩
      · go_upto_region 7 with (go_at_call 20; refine (HMP _).mono ?_; rintro e w4 ⟨rfl, rfl⟩)
        go_wp2_with fail
        refine (HN _).mono ?_
        rintro e w4 ⟨rfl, rfl⟩
        go_wp2_with fail
        refine (HX _).mono ?_
        rintro e w5 ⟨rfl, hb5⟩
        have H5 : Hid (Below w.heap.size w w5) := H1.out.trans (hb5.mono H1.out.size)
        clear hb5
        go_wp2_with fail
        refine (HY _).mono ?_
        rintro e w6 ⟨rfl, hb6⟩
        have H6 : Hid (Below w.heap.size w w6) := H5.out.trans (hb6.mono H5.out.size)
        clear hb6
        go_wp2_with fail
        refine (known_any _).mono ?_
        rintro e w7 ⟨rfl, rfl⟩
        go_wp2
        go_ret
        exact ⟨rfl, H6.out⟩
    · go_upto_region 7 with (go_at_call 20; refine (HMP _).mono ?_; rintro e w4 ⟨rfl, rfl⟩)
      go_wp2_with fail
      refine (HN _).mono ?_
      rintro e w4 ⟨rfl, rfl⟩
      go_wp2_with fail
      refine (HX _).mono ?_
      rintro e w5 ⟨rfl, hb5⟩
      have H5 : Hid (Below w.heap.size w w5) := H1.out.trans (hb5.mono H1.out.size)
      clear hb5
      go_wp2_with fail
      refine (HY _).mono ?_
      rintro e w6 ⟨rfl, hb6⟩
      have H6 : Hid (Below w.heap.size w w6) := H5.out.trans (hb6.mono H5.out.size)
      clear hb6
      go_wp2_with fail
      refine (known_any _).mono ?_
      rintro e w7 ⟨rfl, rfl⟩
      go_wp2
      go_ret
      exact ⟨rfl, H6.out⟩
  · go_wp2_with fail
    refine (Within_any zeros _ _ (by omega) (by omega)).mono ?_
    rintro e w2 ⟨rfl, z, hz0, hz1, rfl⟩
    obtain ⟨Z, rfl⟩ : ∃ Z : Nat, (Z : Int) = z := ⟨z.toNat, by omega⟩
    have hzs : Z + d.size ≤ 20 := by omega
    have hzc : (⟨#[48, 48, 48, 48, 48, 48, 48, 48, 48, 48, 48, 48, 48, 48, 48, 48, 48, 48, 48, 48]⟩ : ByteArray).extract 0 Z = bs (List.replicate Z 48) := zeros_cut Z (by omega)
    have HC := fun w => Cursor_zeros U Z d w HLT.out HD.out hzs
    have hrs : (bs (List.replicate Z 48)).size ≤ 20 := by rw [size_bs]; simp; omega
    generalize bs (List.replicate Z 48) = zb at hzc HC hrs
    dsimp only [u64R, Option.getD_some, Option.isSome_some] at HC
    go_wp2_with fail
    refine (HC _).mono ?_
    rintro e w3 ⟨rfl, rfl⟩
    clear hz1 hpos hzc HC hrs
    by_cases hZ : 0 < (Z : Int)
    · rcases d48 d with h48 | h48
      · go_upto_region 7 with (go_at_call 20; refine (HMP _).mono ?_; rintro e w4 ⟨rfl, rfl⟩)
        go_wp2_with fail
        refine (HN _).mono ?_
        rintro e w4 ⟨rfl, rfl⟩
        go_wp2_with fail
        refine (HX _).mono ?_
        rintro e w5 ⟨rfl, hb5⟩
        have H5 : Hid (Below w.heap.size w w5) := H1.out.trans (hb5.mono H1.out.size)
        clear hb5
        go_wp2_with fail
        refine (HY _).mono ?_
        rintro e w6 ⟨rfl, hb6⟩
        have H6 : Hid (Below w.heap.size w w6) := H5.out.trans (hb6.mono H5.out.size)
        clear hb6
        go_wp2_with fail
        refine (known_any _).mono ?_
        rintro e w7 ⟨rfl, rfl⟩
        go_wp2
        go_ret
        exact ⟨rfl, H6.out⟩
      · go_upto_region 7 with (go_at_call 20; refine (HMP _).mono ?_; rintro e w4 ⟨rfl, rfl⟩)
        go_wp2_with fail
        refine (HN _).mono ?_
        rintro e w4 ⟨rfl, rfl⟩
        go_wp2_with fail
        refine (HX _).mono ?_
        rintro e w5 ⟨rfl, hb5⟩
        have H5 : Hid (Below w.heap.size w w5) := H1.out.trans (hb5.mono H1.out.size)
        clear hb5
        go_wp2_with fail
        refine (HY _).mono ?_
        rintro e w6 ⟨rfl, hb6⟩
        have H6 : Hid (Below w.heap.size w w6) := H5.out.trans (hb6.mono H5.out.size)
        clear hb6
        go_wp2_with fail
        refine (known_any _).mono ?_
        rintro e w7 ⟨rfl, rfl⟩
        go_wp2
        go_ret
        exact ⟨rfl, H6.out⟩
    · go_upto_region 7 with (go_at_call 20; refine (HMP _).mono ?_; rintro e w4 ⟨rfl, rfl⟩)
      go_wp2_with fail
      refine (HN _).mono ?_
      rintro e w4 ⟨rfl, rfl⟩
      go_wp2_with fail
      refine (HX _).mono ?_
      rintro e w5 ⟨rfl, hb5⟩
      have H5 : Hid (Below w.heap.size w w5) := H1.out.trans (hb5.mono H1.out.size)
      clear hb5
      go_wp2_with fail
      refine (HY _).mono ?_
      rintro e w6 ⟨rfl, hb6⟩
      have H6 : Hid (Below w.heap.size w w6) := H5.out.trans (hb6.mono H5.out.size)
      clear hb6
      go_wp2_with fail
      refine (known_any _).mono ?_
      rintro e w7 ⟨rfl, rfl⟩
      go_wp2
      go_ret
      exact ⟨rfl, H6.out⟩

set_option maxHeartbeats 2000000 in
theorem digits_below (a zeros : Int) (w : World) (ha : Int64 a) (h0 : a < 0) (h1 : ¬ a = -9223372036854775808) :
    Calls Try.prog 7 #[.int .i64 a, .int .i64 zeros] w fun e w' => e = .returned (.bool true) ∧ Below w.heap.size w w' := by
  have HN := fun w => Negate_any a w ha
  unfold Int64 at ha
  rw [negO_some (by omega)] at HN
  dsimp only [i64R, Option.getD_some, Option.isSome_some] at HN
  have HX := fun w => Format_any a w ha.1 ha.2
  have HY := fun w => Format_any (-a) w (by omega) (by omega)
  rw [fmtL_neg h0, ← minus_bs] at HX
  rw [fmtL_pos (show ¬ -a < 0 by omega)] at HY
  have hxs : (bs (dec (-a).toNat)).size ≤ 20 := dec_len20 (n := (-a).toNat) (by omega)
  generalize bs (dec (-a).toNat) = y at HX HY hxs
  have hq0 : (a == 0) = false := by simp; omega
  obtain ⟨U, hU, hlt⟩ : ∃ U : Nat, IntKind.u64.wrap a = U ∧ U < 18446744073709551616 := ⟨(IntKind.u64.wrap a).toNat, by rw [IntKind.wrap_u64]; omega, by rw [IntKind.wrap_u64]; omega⟩
  have HLT : Hid (U < 18446744073709551616) := hlt
  have HUn := fun w => Unsigned_any U w hlt
  have hlen := dec_len20 hlt
  rw [← size_bs] at hlen
  obtain ⟨d, hd⟩ : ∃ d, bs (dec U) = d := ⟨_, rfl⟩
  rw [hd] at HUn hlen
  have HD : Hid (bs (dec U) = d) := hd
  have HMP := fun w => mayParse_zero U d w hlt hd
  clear ha h1 hlt hd
  go_enter Try.func7, Try.ntmps7
  go_wp2_with fail
  refine (HUn _).mono ?_
  rintro e w1 ⟨rfl, hb1⟩
  have H1 : Hid (Below w.heap.size w w1) := hb1
  clear hb1
  by_cases hpos : (d.size : Int) < 20
  · go_wp2_with fail
    refine (Within_any zeros _ _ (by omega) (by omega)).mono ?_
    rintro e w2 ⟨rfl, z, hz0, hz1, rfl⟩
    obtain ⟨Z, rfl⟩ : ∃ Z : Nat, (Z : Int) = z := ⟨z.toNat, by omega⟩
    have hzs : Z + d.size ≤ 20 := by omega
    have hzc : (⟨#[48, 48, 48, 48, 48, 48, 48, 48, 48, 48, 48, 48, 48, 48, 48, 48, 48, 48, 48, 48]⟩ : ByteArray).extract 0 Z = bs (List.replicate Z 48) := zeros_cut Z (by omega)
    have HC := fun w => Cursor_zeros U Z d w HLT.out HD.out hzs
    have hrs : (bs (List.replicate Z 48)).size ≤ 20 := by rw [size_bs]; simp; omega
    generalize bs (List.replicate Z 48) = zb at hzc HC hrs
    dsimp only [u64R, Option.getD_some, Option.isSome_some] at HC
    go_wp2_with fail
    refine (HC _).mono ?_
    rintro e w3 ⟨rfl, rfl⟩
    clear hz1 hpos hzc HC hrs
    by_cases hZ : 0 < (Z : Int)
    · rcases d48 d with h48 | h48
      · go_upto_region 7 with (go_at_call 20; refine (HMP _).mono ?_; rintro e w4 ⟨rfl, rfl⟩)
        go_wp2_with fail
        refine (HN _).mono ?_
        rintro e w4 ⟨rfl, rfl⟩
        go_wp2_with fail
        refine (HX _).mono ?_
        rintro e w5 ⟨rfl, hb5⟩
        have H5 : Hid (Below w.heap.size w w5) := H1.out.trans (hb5.mono H1.out.size)
        clear hb5
        go_wp2_with fail
        refine (HY _).mono ?_
        rintro e w6 ⟨rfl, hb6⟩
        have H6 : Hid (Below w.heap.size w w6) := H5.out.trans (hb6.mono H5.out.size)
        clear hb6
        go_wp2_with fail
        refine (known_any _).mono ?_
        rintro e w7 ⟨rfl, rfl⟩
        go_wp2
        go_ret
        exact ⟨rfl, H6.out⟩
      · go_upto_region 7 with (go_at_call 20; refine (HMP _).mono ?_; rintro e w4 ⟨rfl, rfl⟩)
        go_wp2_with fail
        refine (HN _).mono ?_
        rintro e w4 ⟨rfl, rfl⟩
        go_wp2_with fail
        refine (HX _).mono ?_
        rintro e w5 ⟨rfl, hb5⟩
        have H5 : Hid (Below w.heap.size w w5) := H1.out.trans (hb5.mono H1.out.size)
        clear hb5
        go_wp2_with fail
        refine (HY _).mono ?_
        rintro e w6 ⟨rfl, hb6⟩
        have H6 : Hid (Below w.heap.size w w6) := H5.out.trans (hb6.mono H5.out.size)
        clear hb6
        go_wp2_with fail
        refine (known_any _).mono ?_
        rintro e w7 ⟨rfl, rfl⟩
        go_wp2
        go_ret
        exact ⟨rfl, H6.out⟩
    · go_upto_region 7 with (go_at_call 20; refine (HMP _).mono ?_; rintro e w4 ⟨rfl, rfl⟩)
      go_wp2_with fail
      refine (HN _).mono ?_
      rintro e w4 ⟨rfl, rfl⟩
      go_wp2_with fail
      refine (HX _).mono ?_
      rintro e w5 ⟨rfl, hb5⟩
      have H5 : Hid (Below w.heap.size w w5) := H1.out.trans (hb5.mono H1.out.size)
      clear hb5
      go_wp2_with fail
      refine (HY _).mono ?_
      rintro e w6 ⟨rfl, hb6⟩
      have H6 : Hid (Below w.heap.size w w6) := H5.out.trans (hb6.mono H5.out.size)
      clear hb6
      go_wp2_with fail
      refine (known_any _).mono ?_
      rintro e w7 ⟨rfl, rfl⟩
      go_wp2
      go_ret
      exact ⟨rfl, H6.out⟩
  · go_wp2_with fail
    refine (Within_any zeros _ _ (by omega) (by omega)).mono ?_
    rintro e w2 ⟨rfl, z, hz0, hz1, rfl⟩
    obtain ⟨Z, rfl⟩ : ∃ Z : Nat, (Z : Int) = z := ⟨z.toNat, by omega⟩
    have hzs : Z + d.size ≤ 20 := by omega
    have hzc : (⟨#[48, 48, 48, 48, 48, 48, 48, 48, 48, 48, 48, 48, 48, 48, 48, 48, 48, 48, 48, 48]⟩ : ByteArray).extract 0 Z = bs (List.replicate Z 48) := zeros_cut Z (by omega)
    have HC := fun w => Cursor_zeros U Z d w HLT.out HD.out hzs
    have hrs : (bs (List.replicate Z 48)).size ≤ 20 := by rw [size_bs]; simp; omega
    generalize bs (List.replicate Z 48) = zb at hzc HC hrs
    dsimp only [u64R, Option.getD_some, Option.isSome_some] at HC
    go_wp2_with fail
    refine (HC _).mono ?_
    rintro e w3 ⟨rfl, rfl⟩
    clear hz1 hpos hzc HC hrs
    by_cases hZ : 0 < (Z : Int)
    · rcases d48 d with h48 | h48
      · go_upto_region 7 with (go_at_call 20; refine (HMP _).mono ?_; rintro e w4 ⟨rfl, rfl⟩)
        go_wp2_with fail
        refine (HN _).mono ?_
        rintro e w4 ⟨rfl, rfl⟩
        go_wp2_with fail
        refine (HX _).mono ?_
        rintro e w5 ⟨rfl, hb5⟩
        have H5 : Hid (Below w.heap.size w w5) := H1.out.trans (hb5.mono H1.out.size)
        clear hb5
        go_wp2_with fail
        refine (HY _).mono ?_
        rintro e w6 ⟨rfl, hb6⟩
        have H6 : Hid (Below w.heap.size w w6) := H5.out.trans (hb6.mono H5.out.size)
        clear hb6
        go_wp2_with fail
        refine (known_any _).mono ?_
        rintro e w7 ⟨rfl, rfl⟩
        go_wp2
        go_ret
        exact ⟨rfl, H6.out⟩
      · go_upto_region 7 with (go_at_call 20; refine (HMP _).mono ?_; rintro e w4 ⟨rfl, rfl⟩)
        go_wp2_with fail
        refine (HN _).mono ?_
        rintro e w4 ⟨rfl, rfl⟩
        go_wp2_with fail
        refine (HX _).mono ?_
        rintro e w5 ⟨rfl, hb5⟩
        have H5 : Hid (Below w.heap.size w w5) := H1.out.trans (hb5.mono H1.out.size)
        clear hb5
        go_wp2_with fail
        refine (HY _).mono ?_
        rintro e w6 ⟨rfl, hb6⟩
        have H6 : Hid (Below w.heap.size w w6) := H5.out.trans (hb6.mono H5.out.size)
        clear hb6
        go_wp2_with fail
        refine (known_any _).mono ?_
        rintro e w7 ⟨rfl, rfl⟩
        go_wp2
        go_ret
        exact ⟨rfl, H6.out⟩
    · go_upto_region 7 with (go_at_call 20; refine (HMP _).mono ?_; rintro e w4 ⟨rfl, rfl⟩)
      go_wp2_with fail
      refine (HN _).mono ?_
      rintro e w4 ⟨rfl, rfl⟩
      go_wp2_with fail
      refine (HX _).mono ?_
      rintro e w5 ⟨rfl, hb5⟩
      have H5 : Hid (Below w.heap.size w w5) := H1.out.trans (hb5.mono H1.out.size)
      clear hb5
      go_wp2_with fail
      refine (HY _).mono ?_
      rintro e w6 ⟨rfl, hb6⟩
      have H6 : Hid (Below w.heap.size w w6) := H5.out.trans (hb6.mono H5.out.size)
      clear hb6
      go_wp2_with fail
      refine (known_any _).mono ?_
      rintro e w7 ⟨rfl, rfl⟩
      go_wp2
      go_ret
      exact ⟨rfl, H6.out⟩

theorem digits_law (a zeros : Int) (w : World) (ha : Int64 a) :
    Calls Try.prog 7 #[.int .i64 a, .int .i64 zeros] w fun e w' => e = .returned (.bool true) ∧ Below w.heap.size w w' := by
  by_cases h : a = -9223372036854775808
  · subst h; exact digits_least zeros w
  by_cases h0 : a = 0
  · subst h0; exact digits_zero zeros w
  by_cases h1 : 0 < a
  · exact digits_above a zeros w ha h1
  · exact digits_below a zeros w ha (by omega) h
end Go.Proofs.Ytcbddggalccgiaa
