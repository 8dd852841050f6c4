/-
  The document's own requests, third part: a line of words.
-/
import Derived.Test.YtkoepgjdjbmknaaVd
import Derived.Test.YtkoepgjdjbmknaaUu
namespace Go.Proofs.Ytkoepgjdjbmknaa
open Go.RowKit Go.PlainAid

set_option maxHeartbeats 4000000 in
set_option maxRecDepth 100000 in
theorem refInline_any (s : ByteArray) (w : World) (hs : s.size ≤ 100000) :
    Calls Try.prog 30 #[.string s] w fun e w' => Below w.heap.size w w' ∧ RefNextR w w' s.size (inlR (lst s)) e := by
  obtain ⟨l, hl⟩ : ∃ l, lst s = l := ⟨_, rfl⟩
  rw [hl]
  have HL : Hid (lst s = l) := hl
  have HLL : Hid (l.length = s.size) := by show _ = _; rw [← hl, len_lst]
  clear hl
  go_enter Try.func30, Try.ntmps30
  go_wp2
  go_loopg [5] s.size (fun g iv wr => w = wr ∧ ∃ k : Nat, iv = .int .i64 k ∧ Hid (k + g = s.size) ∧ Hid (∀ j : Nat, j < k → l[j]? ≠ some 10))
  case atStart => exact ⟨rfl, 0, rfl, by show _ = _; omega, fun j hj => absurd hj (Nat.not_lt_zero _)⟩
  case round =>
    obtain ⟨rfl, k, rfl, HK, HNO⟩ := hrel
    have hk63 : k ≤ 1000000 := by have := HK.out; omega
    by_cases hlt : k < s.size
    · obtain ⟨x, hx⟩ : ∃ c : Int, ((s[k]'hlt).toNat : Int) = c := ⟨_, rfl⟩
      have hxb := byte_in _ hx
      have HX : Hid (l[k]? = some (s[k]'hlt)) := by show _ = _; rw [← HL.out, get_lst s k hlt]
      have HX2 : Hid (s[k]'hlt = 10 ↔ x = 10) := byte_is hx 10
      by_cases h10 : x = 10
      · have HC : Hid (lf l = some k) := lf_eq (by rw [HX.out, HX2.out.2 h10]) HNO.out
        subst h10
        clear HX HX2
        by_cases hg : (4096 : Int) < (k : Int)
        · have HU : Hid (inlR l = .wrong) := by
            show _ = _
            rw [inlR, HC.out, upR, if_pos (by omega)]
          go_wp2
          go_ret3
          refine ⟨Below.refl _ _, ?_⟩
          rw [HU.out]
          rfl
        · have HU0 : Hid (upR (lf l) 1 4096 l = .yes (l.take k) (l.drop (k + 1))) := by
            show _ = _
            rw [HC.out, upR, if_neg (by omega)]
          have HR : Hid ((s.size : Int) - ((l.drop (k + 1)).length : Nat) = (k : Int) + 1) := by
            have h2 := HLL.out
            show _ = _
            rw [List.length_drop]; omega
          obtain ⟨X, hX⟩ : ∃ X, cut13 (l.take k) = X := ⟨_, rfl⟩
          have HXL : Hid (X.length ≤ 4096) := by
            have := cut13_len (l.take k)
            rw [hX, List.length_take] at this
            show _ ≤ _
            omega
          have HWD := fun w => refWords_any (bs X) w (by rw [size_bs]; have := HXL.out; omega)
          rw [lst_bs, size_bs] at HWD
          have HXX : Hid (cut13 (l.take k) = X) := hX
          clear hX
          by_cases h0 : 0 < k
          · obtain ⟨K, hK⟩ : ∃ K : Nat, k = K + 1 := ⟨k - 1, by omega⟩
            have hsub : (k : Int) - 1 = (K : Int) := by omega
            have hKs : K < s.size := by omega
            obtain ⟨y, hy⟩ : ∃ c : Int, ((s[K]'hKs).toNat : Int) = c := ⟨_, rfl⟩
            have hyb := byte_in _ hy
            have HY : Hid (l[K]? = some (s[K]'hKs)) := by show _ = _; rw [← HL.out, get_lst s K hKs]
            have HY2 : Hid (s[K]'hKs = 13 ↔ y = 13) := byte_is hy 13
            by_cases h13 : y = 13
            · have hE : s.extract 0 K = bs X := by
                rw [extract_lst, List.drop_zero, HL.out, ← HXX.out, cut13_take l k (by rw [HLL.out]; omega) ⟨K, hK, by rw [HY.out, HY2.out.2 h13]⟩, hK]; rfl
              subst h13
              clear HY HY2 hK
              cases hw : wds (X.length + 1) [] X with
              | none =>
                have HU : Hid (inlR l = .wrong) := by
                  show _ = _
                  rw [inlR, HU0.out]
                  simp only [HXX.out, wordsL_none hw]
                rw [hw] at HWD
                clear hw
                go_wp2_with (go_at_call 24; refine (HWD _).mono ?_; rintro e w5 ⟨hB5, hQ5⟩; have hQ6 : e = _ := hQ5; subst hQ6; clear hQ5; have HB5 : Hid (Below w.heap.size w w5) := hB5; clear hB5)
                go_ret3
                refine ⟨HB5.out, ?_⟩
                rw [HU.out]
                rfl
              | some ws =>
                rw [hw] at HWD
                by_cases h256 : ws.length ≤ 256
                · have HU : Hid (inlR l = .yes ws (l.drop (k + 1))) := by
                    show _ = _
                    rw [inlR, HU0.out]
                    simp only [HXX.out, wordsL_some hw h256]
                  have h256t : decide (ws.length ≤ 256) = true := decide_eq_true h256
                  clear hw h256
                  go_wp2_with (go_at_call 24; refine (HWD _).mono ?_; rintro e w5 ⟨hB5, a5, n5, c5, rfl, hO5⟩; have HO5 : Hid (OwnS w5 w.heap.size a5 n5 c5 (ws.map bs)) := hO5; clear hO5; have HB5 : Hid (Below w.heap.size w w5) := hB5; clear hB5)
                  go_ret3
                  refine ⟨HB5.out, ?_⟩
                  rw [HU.out]
                  exact ⟨_, _, _, by rw [HR.out]; rfl, HO5.out⟩
                · have HU : Hid (inlR l = .wrong) := by
                    show _ = _
                    rw [inlR, HU0.out]
                    simp only [HXX.out, wordsL_long hw h256]
                  have h256t : decide (ws.length ≤ 256) = false := decide_eq_false h256
                  clear hw h256
                  go_wp2_with (go_at_call 24; refine (HWD _).mono ?_; rintro e w5 ⟨hB5, a5, n5, c5, rfl, hO5⟩; have HB5 : Hid (Below w.heap.size w w5) := hB5; clear hB5)
                  go_ret3
                  refine ⟨HB5.out, ?_⟩
                  rw [HU.out]
                  rfl
            · have hE : s.extract 0 k = bs X := by
                rw [extract_lst, List.drop_zero, HL.out, ← HXX.out, cut13_keep l k (by rw [HLL.out]; omega)]
                · rfl
                · intro j hj h2
                  obtain rfl : j = K := by omega
                  rw [HY.out] at h2
                  exact h13 (HY2.out.1 (Option.some.inj h2))
              have hy13 : (y == 13) = false := by simpa using h13
              clear h13 HY HY2 hK
              cases hw : wds (X.length + 1) [] X with
              | none =>
                have HU : Hid (inlR l = .wrong) := by
                  show _ = _
                  rw [inlR, HU0.out]
                  simp only [HXX.out, wordsL_none hw]
                rw [hw] at HWD
                clear hw
                go_wp2_with (go_at_call 24; refine (HWD _).mono ?_; rintro e w5 ⟨hB5, hQ5⟩; have hQ6 : e = _ := hQ5; subst hQ6; clear hQ5; have HB5 : Hid (Below w.heap.size w w5) := hB5; clear hB5)
                go_ret3
                refine ⟨HB5.out, ?_⟩
                rw [HU.out]
                rfl
              | some ws =>
                rw [hw] at HWD
                by_cases h256 : ws.length ≤ 256
                · have HU : Hid (inlR l = .yes ws (l.drop (k + 1))) := by
                    show _ = _
                    rw [inlR, HU0.out]
                    simp only [HXX.out, wordsL_some hw h256]
                  have h256t : decide (ws.length ≤ 256) = true := decide_eq_true h256
                  clear hw h256
                  go_wp2_with (go_at_call 24; refine (HWD _).mono ?_; rintro e w5 ⟨hB5, a5, n5, c5, rfl, hO5⟩; have HO5 : Hid (OwnS w5 w.heap.size a5 n5 c5 (ws.map bs)) := hO5; clear hO5; have HB5 : Hid (Below w.heap.size w w5) := hB5; clear hB5)
                  go_ret3
                  refine ⟨HB5.out, ?_⟩
                  rw [HU.out]
                  exact ⟨_, _, _, by rw [HR.out]; rfl, HO5.out⟩
                · have HU : Hid (inlR l = .wrong) := by
                    show _ = _
                    rw [inlR, HU0.out]
                    simp only [HXX.out, wordsL_long hw h256]
                  have h256t : decide (ws.length ≤ 256) = false := decide_eq_false h256
                  clear hw h256
                  go_wp2_with (go_at_call 24; refine (HWD _).mono ?_; rintro e w5 ⟨hB5, a5, n5, c5, rfl, hO5⟩; have HB5 : Hid (Below w.heap.size w w5) := hB5; clear hB5)
                  go_ret3
                  refine ⟨HB5.out, ?_⟩
                  rw [HU.out]
                  rfl
          · have hE : s.extract 0 k = bs X := by
              rw [extract_lst, List.drop_zero, HL.out, ← HXX.out, cut13_keep l k (by rw [HLL.out]; omega)]
              · rfl
              · intro j hj; omega
            have hk0 : ¬ (0 : Int) < (k : Int) := by omega
            clear h0
            cases hw : wds (X.length + 1) [] X with
            | none =>
              have HU : Hid (inlR l = .wrong) := by
                show _ = _
                rw [inlR, HU0.out]
                simp only [HXX.out, wordsL_none hw]
              rw [hw] at HWD
              clear hw
              go_wp2_with (go_at_call 24; refine (HWD _).mono ?_; rintro e w5 ⟨hB5, hQ5⟩; have hQ6 : e = _ := hQ5; subst hQ6; clear hQ5; have HB5 : Hid (Below w.heap.size w w5) := hB5; clear hB5)
              go_ret3
              refine ⟨HB5.out, ?_⟩
              rw [HU.out]
              rfl
            | some ws =>
              rw [hw] at HWD
              by_cases h256 : ws.length ≤ 256
              · have HU : Hid (inlR l = .yes ws (l.drop (k + 1))) := by
                  show _ = _
                  rw [inlR, HU0.out]
                  simp only [HXX.out, wordsL_some hw h256]
                have h256t : decide (ws.length ≤ 256) = true := decide_eq_true h256
                clear hw h256
                go_wp2_with (go_at_call 24; refine (HWD _).mono ?_; rintro e w5 ⟨hB5, a5, n5, c5, rfl, hO5⟩; have HO5 : Hid (OwnS w5 w.heap.size a5 n5 c5 (ws.map bs)) := hO5; clear hO5; have HB5 : Hid (Below w.heap.size w w5) := hB5; clear hB5)
                go_ret3
                refine ⟨HB5.out, ?_⟩
                rw [HU.out]
                exact ⟨_, _, _, by rw [HR.out]; rfl, HO5.out⟩
              · have HU : Hid (inlR l = .wrong) := by
                  show _ = _
                  rw [inlR, HU0.out]
                  simp only [HXX.out, wordsL_long hw h256]
                have h256t : decide (ws.length ≤ 256) = false := decide_eq_false h256
                clear hw h256
                go_wp2_with (go_at_call 24; refine (HWD _).mono ?_; rintro e w5 ⟨hB5, a5, n5, c5, rfl, hO5⟩; have HB5 : Hid (Below w.heap.size w w5) := hB5; clear hB5)
                go_ret3
                refine ⟨HB5.out, ?_⟩
                rw [HU.out]
                rfl
      · have HN2 : Hid (∀ j : Nat, j < k + 1 → l[j]? ≠ some 10) := by
          intro j hj
          by_cases hjk : j < k
          · exact HNO.out j hjk
          · obtain rfl : j = k := by omega
            rw [HX.out]
            intro h2
            exact h10 (HX2.out.1 (Option.some.inj h2))
        have hx10 : (x != 10) = true := by simpa using h10
        clear h10 HX HX2
        go_wp2
        go_roundg (gk - 1)
        case measure => have := HK.out; omega
        case rel => exact ⟨rfl, k + 1, by go_num, by have := HK.out; show _ = _; omega, HN2⟩
    · have HC : Hid (lf l = none) := by
        refine lf_eq_none fun j h2 => ?_
        have h3 := (List.getElem?_eq_some_iff.1 h2).1
        have := HLL.out
        exact HNO.out j (by omega) h2
      by_cases hg : (4096 : Int) < (s.size : Int)
      · have HU : Hid (inlR l = .wrong) := by
          show _ = _
          rw [inlR, HC.out, upR, if_pos (by have := HLL.out; omega)]
        go_wp2
        go_ret3
        refine ⟨Below.refl _ _, ?_⟩
        rw [HU.out]
        rfl
      · have HU : Hid (inlR l = .part) := by
          show _ = _
          rw [inlR, HC.out, upR, if_neg (by have := HLL.out; omega)]
        go_wp2
        go_ret3
        refine ⟨Below.refl _ _, ?_⟩
        rw [HU.out]
        rfl
end Go.Proofs.Ytkoepgjdjbmknaa
