/-
  The document's own Back.
-/
import Derived.Test.YtdlnodedikiamaaRefDec
namespace Go.Proofs.Ytdlnodedikiamaa
open Go.RowKit Go.PlainAid

set_option maxRecDepth 100000 in
set_option maxHeartbeats 4000000 in
theorem refBack_any (a : Option Addr) (n cap : Nat) (l : List UInt8) (e' : Int) (w : World) (hR : Rd w a n cap l) :
    Calls Try.prog 25 #[.slice a n cap, .int .i64 e'] w fun e w' => Below w.heap.size w w' ∧ e = .returned (bR (bkAt l e')) := by
  have hn : n ≤ 9223372036854775807 := Nat.le_trans hR.fit hR.max
  have hl := hR.len
  by_cases h0 : e' < 1
  · have HD : Hid (bkAt l e' = none) := by show _ = _; unfold bkAt; rw [if_pos (.inl (by omega))]
    rw [HD.out, bR_none]
    clear hR hl
    go_enter Try.func25, Try.ntmps25
    go_wp2
    go_ret2
    exact ⟨Below.refl _ _, rfl⟩
  by_cases h1 : (n : Int) < e'
  · have HD : Hid (bkAt l e' = none) := by show _ = _; unfold bkAt; rw [if_pos (.inr (by rw [hl]; exact h1))]
    rw [HD.out, bR_none]
    have h0' : 1 ≤ e' := by omega
    clear hR hl h0
    go_enter Try.func25, Try.ntmps25
    go_wp2
    go_ret2
    exact ⟨Below.refl _ _, rfl⟩
  obtain ⟨p, rfl⟩ := Int.eq_ofNat_of_zero_le (show 0 ≤ e' by omega)
  obtain ⟨m, rfl⟩ : ∃ m, p = m + 1 := ⟨p - 1, by omega⟩
  have hp : m + 1 ≤ n := by omega
  have hb0 : bkAt l ((m + 1 : Nat) : Int) = match begn (l.take (m + 1)) with
    | none => none
    | some k => match decAt l k with
      | none => none
      | some q => if (q.2 : Int) = ((m + 1 : Nat) : Int) then some k else none := by
    unfold bkAt; rw [if_neg (by rw [hl]; omega)]; rfl
  have hlt : (l.take (m + 1)).length = m + 1 := by rw [List.length_take, hl]; omega
  have hg1 : (l.take (m + 1)).getD m 0 = l.getD m 0 := by rw [List.getD_eq_getElem?_getD, List.getD_eq_getElem?_getD, List.getElem?_take, if_pos (by omega)]
  have HR : Hid (Rd w a n cap l) := hR
  obtain ⟨b, off, ha, hc⟩ := hR.cell m (by omega)
  subst ha
  obtain ⟨X, hX⟩ : ∃ X : Int, ((l.getD m 0).toNat : Int) = X := ⟨_, rfl⟩
  rw [hX] at hc
  have hXb := byte_le _ hX
  have hm1 : ((m + 1 : Nat) : Int) - 1 = m := by omega
  have hmn : ((m + 1 : Nat) : Int) ≤ n := by omega
  have hm0 : (1 : Int) ≤ ((m + 1 : Nat) : Int) := by omega
  have hmlt : (m : Int) < n := by omega
  obtain ⟨E, hE⟩ : ∃ E : Int, ((m + 1 : Nat) : Int) = E := ⟨_, rfl⟩
  rw [hE] at hm1 hmn hm0 hb0 ⊢
  by_cases h2 : X < 128
  · obtain ⟨k, hk⟩ : ∃ k : Int, (m : Int) - X = k := ⟨_, rfl⟩
    have hB : begn (l.take (m + 1)) = some k := by
      unfold begn
      rw [hlt, Nat.add_sub_cancel, hg1, if_pos (by omega), hX]
      congr 1; omega
    have HC := fun w1 (e : Rd w1 (some ⟨b, off, none⟩) n cap l) => refDecode_any _ n cap l k w1 e (by omega)
    have hkb : k ≤ 9223372036854775807 := by omega
    cases hd : decAt l k with
    | none =>
      have HB : Hid (bkAt l E = none) := by show _ = _; rw [hb0, hB]; dsimp only; rw [hd]
      rw [HB.out, bR_none]
      rw [hd, dR_none] at HC
      clear hR hl hp hb0 hlt hg1 h0 h1 hX hB hd hE
      go_enter Try.func25, Try.ntmps25
      go_wp2_with fail
      refine (HC _ HR.out).mono ?_
      rintro e w1 ⟨hb, rfl⟩
      go_wp2
      go_ret2
      exact ⟨hb, rfl⟩
    | some q =>
      obtain ⟨s, z⟩ := q
      rw [hd, dR_some] at HC
      by_cases hz : (z : Int) = E
      · have HB : Hid (bkAt l E = some k) := by show _ = _; rw [hb0, hB]; dsimp only; rw [hd]; dsimp only; rw [if_pos hz]
        rw [HB.out, bR_some]
        rw [hz] at HC
        clear hR hl hp hb0 hlt hg1 h0 h1 hX hB hd hz hE
        go_enter Try.func25, Try.ntmps25
        go_wp2_with fail
        refine (HC _ HR.out).mono ?_
        rintro e w1 ⟨hb, rfl⟩
        go_wp2
        go_ret2
        exact ⟨hb, rfl⟩
      · have HB : Hid (bkAt l E = none) := by show _ = _; rw [hb0, hB]; dsimp only; rw [hd]; dsimp only; rw [if_neg hz]
        rw [HB.out, bR_none]
        have hq : ((z : Int) != E) = true := by simpa using hz
        have hq2 : ((z : Int) == E) = false := by simpa using hz
        generalize (z : Int) = M at HC hq hq2
        clear hR hl hp hb0 hlt hg1 h0 h1 hX hB hd hz hE
        go_enter Try.func25, Try.ntmps25
        go_wp2_with fail
        refine (HC _ HR.out).mono ?_
        rintro e w1 ⟨hb, rfl⟩
        go_wp2
        go_ret2
        exact ⟨hb, rfl⟩
  by_cases h3 : m = 0
  · have hB : begn (l.take (m + 1)) = none := by
      unfold begn
      rw [hlt, Nat.add_sub_cancel, hg1, if_neg (by omega), if_pos (by omega)]
    have HB : Hid (bkAt l E = none) := by show _ = _; rw [hb0, hB]
    rw [HB.out, bR_none]
    have hE1 : E = 1 := by omega
    subst hE1
    subst h3
    rw [Nat.add_zero] at hc
    have h128 : 128 ≤ X := by omega
    clear hR hl hp hb0 hlt hg1 h0 h1 hX hB hE hm1 h2
    go_enter Try.func25, Try.ntmps25
    go_wp2
    go_ret2
    exact ⟨Below.refl _ _, rfl⟩
  · obtain ⟨q, rfl⟩ : ∃ q, m = q + 1 := ⟨m - 1, by omega⟩
    obtain ⟨b', off', ha, hc2⟩ := hR.cell q (by omega)
    cases ha
    obtain ⟨Y, hY⟩ : ∃ Y : Int, ((l.getD q 0).toNat : Int) = Y := ⟨_, rfl⟩
    rw [hY] at hc2
    have hYb := byte_le _ hY
    have hg2 : (l.take (q + 1 + 1)).getD q 0 = l.getD q 0 := by rw [List.getD_eq_getElem?_getD, List.getD_eq_getElem?_getD, List.getElem?_take, if_pos (by omega)]
    have hqz : E - 2 = (q : Int) := by omega
    have hqn : (q : Int) < n := by omega
    have hE2 : 2 ≤ E := by omega
    have h128 : 128 ≤ X := by omega
    obtain ⟨N, hN⟩ : ∃ N : Int, Y * 128 + X - 128 = N := ⟨_, rfl⟩
    have hN0 : 0 ≤ N := by omega
    have hN1 : N ≤ 32767 := by omega
    obtain ⟨k, hk⟩ : ∃ k : Int, (q : Int) - N = k := ⟨_, rfl⟩
    have hB : begn (l.take (q + 1 + 1)) = some k := by
      unfold begn
      rw [hlt, Nat.add_sub_cancel, hg1, if_neg (by omega), if_neg (by omega), show q + 1 + 1 - 2 = q by omega, hg2, hX, hY]
      congr 1; omega
    have HC := fun w1 (e : Rd w1 (some ⟨b, off, none⟩) n cap l) => refDecode_any _ n cap l k w1 e (by omega)
    have hkb : k ≤ 9223372036854775807 := by omega
    cases hd : decAt l k with
    | none =>
      have HB : Hid (bkAt l E = none) := by show _ = _; rw [hb0, hB]; dsimp only; rw [hd]
      rw [HB.out, bR_none]
      rw [hd, dR_none] at HC
      clear hR hl hp hb0 hlt hg1 hg2 h0 h1 hX hY hB hd hE h3 h2
      go_enter Try.func25, Try.ntmps25
      go_wp2_with fail
      refine (HC _ HR.out).mono ?_
      rintro e w1 ⟨hb, rfl⟩
      go_wp2
      go_ret2
      exact ⟨hb, rfl⟩
    | some q' =>
      obtain ⟨s, z⟩ := q'
      rw [hd, dR_some] at HC
      by_cases hz : (z : Int) = E
      · have HB : Hid (bkAt l E = some k) := by show _ = _; rw [hb0, hB]; dsimp only; rw [hd]; dsimp only; rw [if_pos hz]
        rw [HB.out, bR_some]
        rw [hz] at HC
        clear hR hl hp hb0 hlt hg1 hg2 h0 h1 hX hY hB hd hz hE h3 h2
        go_enter Try.func25, Try.ntmps25
        go_wp2_with fail
        refine (HC _ HR.out).mono ?_
        rintro e w1 ⟨hb, rfl⟩
        go_wp2
        go_ret2
        exact ⟨hb, rfl⟩
      · have HB : Hid (bkAt l E = none) := by show _ = _; rw [hb0, hB]; dsimp only; rw [hd]; dsimp only; rw [if_neg hz]
        rw [HB.out, bR_none]
        have hq : ((z : Int) != E) = true := by simpa using hz
        have hq2 : ((z : Int) == E) = false := by simpa using hz
        generalize (z : Int) = M at HC hq hq2
        clear hR hl hp hb0 hlt hg1 hg2 h0 h1 hX hY hB hd hz hE h3 h2
        go_enter Try.func25, Try.ntmps25
        go_wp2_with fail
        refine (HC _ HR.out).mono ?_
        rintro e w1 ⟨hb, rfl⟩
        go_wp2
        go_ret2
        exact ⟨hb, rfl⟩
end Go.Proofs.Ytdlnodedikiamaa
