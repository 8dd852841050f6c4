/-
  The law's own helpers: next, words, all.
-/
import Derived.Test.YtkoepgjdjbmknaaVg
import Derived.Test.YtkoepgjdjbmknaaVh
namespace Go.Proofs.Ytkoepgjdjbmknaa
open Go.RowKit Go.PlainAid

theorem Lists_same {a a' : Option Addr} {n c n' c' B B' : Nat} {ls : List ByteArray} {w : World} (h : OwnS w B a n c ls) (h' : OwnS w B' a' n' c' ls) :
    Calls Try.prog 18 #[.slice a n c, .slice a' n' c'] w fun e w' => e = .returned (.bool true) ∧ ∃ q, w' = w.drewN q :=
  (Lists_any a a' n c n' c' ls ls w h.rd h'.rd).mono fun e w' ⟨h1, h2⟩ => ⟨by rw [h1, decide_eq_true rfl], h2⟩

set_option maxRecDepth 100000 in
theorem next_any (s : ByteArray) (w : World) (hg : GL w) (hs : s.size ≤ 100000) :
    Calls Try.prog 9 #[.string s] w fun e w' => e = .returned (.bool true) ∧ Below w.heap.size w w' := by
  obtain ⟨cE, hcv0, hRE⟩ := conv_rd w s (by omega)
  have hB1 := conv_below w s
  obtain ⟨W1, hW1⟩ : ∃ W1, Lib.bytesWorld w 5 s = W1 := ⟨_, rfl⟩
  rw [hW1] at hcv0 hRE hB1
  have HNX := Next_any (some ⟨w.heap.size, 0, none⟩) s.size cE (lst s) W1 (hg.keep hB1) hRE (by omega)
  have HRX := fun w => refNext_any s w hs
  have HB1 : Hid (Below w.heap.size w W1) := hB1
  clear hg hRE hW1 hB1
  cases ho : reqR (lst s) using Rs.elim with
  | part =>
    rw [ho] at HNX HRX
    clear ho
    go_enter Try.func9, Try.ntmps9
    go_wp2_with (first
      | (go_at_call 21; refine HNX.mono ?_; rintro e w2 ⟨hB2, hQ⟩; have hQ2 : e = _ := hQ; subst hQ2; clear hQ; have HB2 : Hid (Below w.heap.size w w2) := HB1.out.trans (hB2.mono HB1.out.size); clear hB2)
      | (go_at_call 22; refine (HRX _).mono ?_; rintro e w3 ⟨hB3, hQ⟩; have hQ2 : e = _ := hQ; subst hQ2; clear hQ; have HB3 : Hid (Below w.heap.size w w3) := HB2.out.trans (hB3.mono HB2.out.size); clear hB3))
    go_ret
    exact ⟨rfl, HB3.out⟩
  | wrong =>
    rw [ho] at HNX HRX
    clear ho
    go_enter Try.func9, Try.ntmps9
    go_wp2_with (first
      | (go_at_call 21; refine HNX.mono ?_; rintro e w2 ⟨hB2, hQ⟩; have hQ2 : e = _ := hQ; subst hQ2; clear hQ; have HB2 : Hid (Below w.heap.size w w2) := HB1.out.trans (hB2.mono HB1.out.size); clear hB2)
      | (go_at_call 22; refine (HRX _).mono ?_; rintro e w3 ⟨hB3, hQ⟩; have hQ2 : e = _ := hQ; subst hQ2; clear hQ; have HB3 : Hid (Below w.heap.size w w3) := HB2.out.trans (hB3.mono HB2.out.size); clear hB3))
    go_ret
    exact ⟨rfl, HB3.out⟩
  | yes ws r =>
    obtain ⟨D, hD⟩ : ∃ D : Int, (s.size : Int) - r.length = D := ⟨_, rfl⟩
    rw [ho] at HNX HRX
    have HNX2 : Calls Try.prog 21 #[.slice (some ⟨w.heap.size, 0, none⟩) s.size cE] W1 fun e w' => Below W1.heap.size W1 w' ∧ ∃ a n c, e = .returned (.tuple #[.slice a n c, .int .i64 D, .int .i64 0]) ∧ OwnS w' W1.heap.size a n c (ws.map bs) := by rw [← hD]; exact HNX
    have HRX2 : ∀ w, Calls Try.prog 22 #[.string s] w fun e w' => Below w.heap.size w w' ∧ ∃ a n c, e = .returned (.tuple #[.slice a n c, .int .i64 D, .int .i64 1]) ∧ OwnS w' w.heap.size a n c (ws.map bs) := by rw [← hD]; exact HRX
    clear ho HNX HRX hD
    go_enter Try.func9, Try.ntmps9
    go_wp2_with (first
      | (go_at_call 21; refine HNX2.mono ?_; rintro e w2 ⟨hB2, a1, n1, c1, rfl, hO1⟩; have HB2 : Hid (Below w.heap.size w w2) := HB1.out.trans (hB2.mono HB1.out.size); have HO1 : Hid (OwnS w2 W1.heap.size a1 n1 c1 (ws.map bs)) := hO1; clear hB2 hO1)
      | (go_at_call 22; refine (HRX2 _).mono ?_; rintro e w3 ⟨hB3, a2, n2, c2, rfl, hO2⟩; have HB3 : Hid (Below w.heap.size w w3) := HB2.out.trans (hB3.mono HB2.out.size); have HL3 := Lists_same (HO1.out.keep hB3) hO2; clear hB3 hO2)
      | (go_at_call 18; refine HL3.mono ?_; rintro e w4 ⟨rfl, q, hw4⟩; have HB4 : Hid (Below w.heap.size w w4) := (by rw [hw4]; exact HB3.out.trans ((below_drewN _ _).mono HB3.out.size)); clear hw4))
    go_ret
    exact ⟨rfl, HB4.out⟩

set_option maxRecDepth 100000 in
theorem words_any (s : ByteArray) (w : World) (hs : s.size ≤ 100000) :
    Calls Try.prog 11 #[.string s] w fun e w' => e = .returned (.bool true) ∧ Below w.heap.size w w' := by
  have HWD := fun w => Words_any s w (by omega)
  have HRD := fun w => refWords_any s w hs
  have hlen : (lst s).length = s.size := len_lst s
  cases hw : wds (s.size + 1) [] (lst s) with
  | none =>
    have hw2 := wordsL_none (by rw [hlen]; exact hw)
    rw [hw2] at HWD
    rw [hw] at HRD
    clear hw hw2 hlen
    go_enter Try.func11, Try.ntmps11
    go_wp2_with (first
      | (go_at_call 20; refine (HWD _).mono ?_; rintro e w2 ⟨hB2, hQ⟩; have hQ2 : e = _ := hQ; subst hQ2; clear hQ; have HB2 : Hid (Below w.heap.size w w2) := hB2; clear hB2)
      | (go_at_call 24; refine (HRD _).mono ?_; rintro e w3 ⟨hB3, hQ⟩; have hQ2 : e = _ := hQ; subst hQ2; clear hQ; have HB3 : Hid (Below w.heap.size w w3) := HB2.out.trans (hB3.mono HB2.out.size); clear hB3))
    go_ret
    exact ⟨rfl, HB3.out⟩
  | some ws =>
    by_cases h256 : ws.length ≤ 256
    · have hw2 := wordsL_some (by rw [hlen]; exact hw) h256
      rw [hw2] at HWD
      rw [hw] at HRD
      have hd : decide (ws.length ≤ 256) = true := decide_eq_true h256
      clear hw hw2 hlen h256
      go_enter Try.func11, Try.ntmps11
      go_wp2_with (first
        | (go_at_call 20; refine (HWD _).mono ?_; rintro e w2 ⟨hB2, a1, n1, c1, rfl, hO1⟩; have HB2 : Hid (Below w.heap.size w w2) := hB2; have HO1 : Hid (OwnS w2 w.heap.size a1 n1 c1 (ws.map bs)) := hO1; clear hB2 hO1)
        | (go_at_call 24; refine (HRD _).mono ?_; rintro e w3 ⟨hB3, a2, n2, c2, hQ, hO2⟩; rw [hd] at hQ; subst hQ; have HB3 : Hid (Below w.heap.size w w3) := HB2.out.trans (hB3.mono HB2.out.size); have HL3 := Lists_same (HO1.out.keep hB3) hO2; clear hB3 hO2)
        | (go_at_call 18; refine HL3.mono ?_; rintro e w4 ⟨rfl, q, hw4⟩; have HB4 : Hid (Below w.heap.size w w4) := (by rw [hw4]; exact HB3.out.trans ((below_drewN _ _).mono HB3.out.size)); clear hw4))
      go_ret
      exact ⟨rfl, HB4.out⟩
    · have hw2 := wordsL_long (by rw [hlen]; exact hw) h256
      rw [hw2] at HWD
      rw [hw] at HRD
      have hd : decide (ws.length ≤ 256) = false := decide_eq_false h256
      clear hw hw2 hlen h256
      go_enter Try.func11, Try.ntmps11
      go_wp2_with (first
        | (go_at_call 20; refine (HWD _).mono ?_; rintro e w2 ⟨hB2, hQ⟩; have hQ2 : e = _ := hQ; subst hQ2; clear hQ; have HB2 : Hid (Below w.heap.size w w2) := hB2; clear hB2)
        | (go_at_call 24; refine (HRD _).mono ?_; rintro e w3 ⟨hB3, a2, n2, c2, hQ, hO2⟩; rw [hd] at hQ; subst hQ; have HB3 : Hid (Below w.heap.size w w3) := HB2.out.trans (hB3.mono HB2.out.size); clear hB3 hO2))
      go_ret
      exact ⟨rfl, HB3.out⟩

set_option maxHeartbeats 2000000 in
set_option maxRecDepth 100000 in
theorem all_any (s : ByteArray) (w : World) (hg : GL w) (hs : s.size ≤ 100000) :
    Calls Try.prog 10 #[.string s] w fun e w' => e = .returned (.bool true) ∧ Below w.heap.size w w' := by
  obtain ⟨cE, hcv0, hRE⟩ := conv_rd w s (by omega)
  have hB1 := conv_below w s
  obtain ⟨W1, hW1⟩ : ∃ W1, Lib.bytesWorld w 5 s = W1 := ⟨_, rfl⟩
  rw [hW1] at hcv0 hRE hB1
  have HNX := All_any (some ⟨w.heap.size, 0, none⟩) s.size cE (lst s) W1 (hg.keep hB1) hRE (by omega)
  have HRX := fun w => refAll_any s w hs
  have HB1 : Hid (Below w.heap.size w W1) := hB1
  clear hg hRE hW1 hB1
  obtain ⟨X, hX⟩ : ∃ X, allL (lst s) = X := ⟨_, rfl⟩
  rw [hX] at HNX
  simp only [hX] at HRX
  clear hX
  obtain ⟨L, rest, bad⟩ := X
  obtain ⟨D, hD⟩ : ∃ D : Int, (s.size : Int) - rest.length = D := ⟨_, rfl⟩
  obtain ⟨M, hM⟩ : ∃ M, L.map (·.map bs) = M := ⟨_, rfl⟩
  obtain ⟨E, hE⟩ : ∃ E : Int, (if bad then (16 : Int) else 0) = E := ⟨_, rfl⟩
  have HNX2 : Calls Try.prog 17 #[.slice (some ⟨w.heap.size, 0, none⟩) s.size cE] W1 fun e w' => Below W1.heap.size W1 w' ∧ ∃ a n c T, e = .returned (.tuple #[.slice a n c, .int .i64 D, .int .i64 E]) ∧ OwnSS w' W1.heap.size a n c M T := by rw [← hD, ← hM, ← hE]; exact HNX
  have HRX2 : ∀ w, Calls Try.prog 23 #[.string s] w fun e w' => Below w.heap.size w w' ∧ ∃ a n c T, e = .returned (.tuple #[.slice a n c, .int .i64 D, .bool bad]) ∧ OwnSS w' w.heap.size a n c M T := by rw [← hD, ← hM]; exact HRX
  have he : (E = 16 ∧ bad = true) ∨ (E = 0 ∧ bad = false) := by
    cases bad
    · exact .inr ⟨hE.symm, rfl⟩
    · exact .inl ⟨hE.symm, rfl⟩
  clear HNX HRX hD hM hE
  obtain ⟨m, hm⟩ : ∃ m, M.length = m := ⟨_, rfl⟩
  have HM : Hid (M.length = m) := hm
  clear hm
  rcases he with ⟨rfl, rfl⟩ | ⟨rfl, rfl⟩
  all_goals
    go_enter Try.func10, Try.ntmps10
    go_wp2_with (first
      | (go_at_call 17; refine HNX2.mono ?_; rintro e w2 ⟨hB2, a1, n1, c1, T1, rfl, hO1⟩; have hn1 : n1 = m := (by rw [← hO1.count, HM.out]); subst hn1; have HB2 : Hid (Below w.heap.size w w2) := HB1.out.trans (hB2.mono HB1.out.size); have HO1 : Hid (OwnSS w2 W1.heap.size a1 n1 c1 M T1) := hO1; clear hB2 hO1)
      | (go_at_call 23; refine (HRX2 _).mono ?_; rintro e w3 ⟨hB3, a2, n2, c2, T2, rfl, hO2⟩; have hn2 : n2 = n1 := (by rw [← hO2.count, HM.out]); subst hn2; have HB3 : Hid (Below w.heap.size w w3) := HB2.out.trans (hB3.mono HB2.out.size); have HO3 : Hid (OwnSS w3 W1.heap.size a1 n2 c1 M T1) := HO1.out.keep hB3; have HO2 : Hid (OwnSS w3 w2.heap.size a2 n2 c2 M T2) := hO2; have hn63 : n2 ≤ 9223372036854775807 := (by have h1 := hO2.own.cap; have h2 := h1.2; unfold maxLen at h2; omega); clear hB3 hO2))
    obtain ⟨n, rfl⟩ : ∃ n, n = n2 := ⟨_, rfl⟩
    go_loopg [9] n (fun g iv wr => ∃ (k : Nat), iv = .int .i64 k ∧ Hid (k + g = n) ∧ Hid (∃ q, wr = w3.drewN q))
    case atStart => exact ⟨0, rfl, by show _ = _; omega, ⟨0, rfl⟩⟩
    case round =>
      obtain ⟨k, rfl, HK, HW⟩ := hrel
      have HB4 : Hid (Below w3.heap.size w3 wr) := by obtain ⟨q, hq⟩ := HW.out; show Below _ _ _; rw [hq]; exact below_drewN _ _
      by_cases hk : (k : Int) < n
      · have hkn : k < n := by omega
        obtain ⟨g, b1, m1, d1, rfl, hc1, hr1⟩ := HO3.out.cell k hkn
        obtain ⟨g', b2, m2, d2, rfl, hc2, hr2⟩ := HO2.out.cell k hkn
        have hbj : ∀ j, Below w3.heap.size w3 (wr.drewN j) := fun j => HB4.out.trans ((below_drewN wr j).mono HB4.out.size)
        have hd : ∀ j, (wr.drewN j).cell? ⟨g, k, none⟩ = some (.slice b1 m1 d1) := fun j => by
          rw [(hbj j).cell (p := ⟨g, k, none⟩) (World.block_lt_of_cell? _ _ hc1)]; exact hc1
        have hd' : ∀ j, (wr.drewN j).cell? ⟨g', k, none⟩ = some (.slice b2 m2 d2) := fun j => by
          rw [(hbj j).cell (p := ⟨g', k, none⟩) (World.block_lt_of_cell? _ _ hc2)]; exact hc2
        have HL4 := fun j => Lists_same (hr1.keep (hbj j)) (hr2.keep (hbj j))
        clear hc1 hr1 hc2 hr2 hbj
        go_wp2
        go_quiet (first | (go_at_call 18; exact Calls.quiet_of (HL4 _)))
        go_wp2
        go_roundg (gk - 1)
        case measure => have := HK.out; omega
        case rel => exact ⟨k + 1, by go_num, by have := HK.out; show _ = _; omega, by obtain ⟨q, hq⟩ := HW.out; exact ⟨_, by rw [hq, drewN_drewN]⟩⟩
      · go_wp2
        go_ret
        exact ⟨rfl, HB3.out.trans (HB4.out.mono HB3.out.size)⟩
end Go.Proofs.Ytkoepgjdjbmknaa
