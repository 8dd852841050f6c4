/-
  A line without the 13 at its end.
-/
import Derived.Test.YtkoepgjdjbmknaaUs
import Derived.Lib.SlBytesConst
namespace Go.Proofs.Ytkoepgjdjbmknaa
open Go.RowKit Go.PlainAid

theorem last_drop (l : List UInt8) (m : Nat) (h : l.length = m + 1) : l.getLast? = some 13 ↔ l.drop m = [13] := by
  have hd : l.drop m = [l[m]'(by omega)] := by
    rw [List.drop_eq_getElem_cons (by omega), List.drop_eq_nil_of_le (by omega)]
  have e : l.length - 1 = m := by omega
  rw [hd, List.getLast?_eq_getElem?, e, List.getElem?_eq_getElem (by omega)]
  simp

theorem HasSuffix_nil (a a2 : Option Addr) (c c2 : Nat) (w : World) : Calls Try.prog 53 #[.slice a 0 c, .slice a2 1 c2] w fun e w' => e = .returned (.bool false) ∧ w' = w := by
  go_enter Try.func53, Try.ntmps53
  go_wp2
  go_ret
  exact ⟨rfl, rfl⟩
theorem HasSuffix_13 (a a2 : Option Addr) (m c c2 : Nat) (l : List UInt8) (w : World) (h : Rd w a (m + 1) c l) (h2 : Rd w a2 1 c2 [13]) (hm : m ≤ 1000000) :
    Calls Try.prog 53 #[.slice a (m + 1 : Nat) c, .slice a2 1 c2] w fun e w' => e = .returned (.bool (decide (l.getLast? = some 13))) ∧ w' = w := by
  obtain ⟨N, hN⟩ : ∃ N, m + 1 = N := ⟨_, rfl⟩
  obtain ⟨a3, c3, hs3, hR3⟩ := h.slice_l m (by omega)
  rw [Nat.add_sub_cancel_left] at hs3 hR3
  have HE := Equal_any a3 a2 1 1 c3 c2 (l.drop m) [13] w hR3 h2
  have HD : Hid (decide (l.drop m = [13]) = decide (l.getLast? = some 13)) := by
    show _ = _
    rw [Bool.eq_iff_iff, decide_eq_true_iff, decide_eq_true_iff]
    exact (last_drop l m h.len).symm
  rw [hN] at hs3 ⊢
  have hge : (1 : Int) ≤ (N : Int) := by omega
  have hsub : (N : Int) - 1 = (m : Int) := by omega
  rw [HD.out] at HE
  clear h h2 hR3 hN
  go_enter Try.func53, Try.ntmps53
  go_wp2_with (go_at_call 56; refine HE.mono ?_; rintro e w ⟨rfl, rfl⟩)
  go_ret
  exact ⟨rfl, rfl⟩

theorem cut13_len (l : List UInt8) : (cut13 l).length ≤ l.length := by
  unfold cut13; split
  · rw [List.length_dropLast]; omega
  · exact Nat.le_refl _

theorem TrimSuffix_13 (a a2 : Option Addr) (n c c2 : Nat) (l : List UInt8) (w : World) (h : Rd w a n c l) (h2 : Rd w a2 1 c2 [13]) (hn : n ≤ 1000000) :
    Calls Try.prog 47 #[.slice a n c, .slice a2 1 c2] w fun e w' => w' = w ∧ ∃ a' n' c', e = .returned (.slice a' n' c') ∧ Rd w a' n' c' (cut13 l) := by
  have hl := h.len
  cases n with
  | zero =>
    have hl0 : l = [] := List.length_eq_zero_iff.1 hl
    subst hl0
    have HH : Hid (Rd w a 0 c (cut13 [])) := h
    clear h h2 hl
    go_enter Try.func47, Try.ntmps47
    go_wp2_with (go_at_call 53; refine (HasSuffix_nil _ _ _ _ _).mono ?_; rintro e w ⟨rfl, rfl⟩)
    go_ret
    exact ⟨rfl, _, _, _, rfl, HH.out⟩
  | succ m =>
    have HS := HasSuffix_13 a a2 m c c2 l w h h2 (by omega)
    by_cases hc : l.getLast? = some 13
    · rw [decide_eq_true hc] at HS
      obtain ⟨a3, c3, hs3, hR3⟩ := h.slice_h m (by omega)
      have HR : Hid (Rd w a3 m c3 (cut13 l)) := by
        show Rd _ _ _ _ _
        rw [cut13, if_pos hc, List.dropLast_eq_take, hl]
        exact hR3
      obtain ⟨N, hN⟩ : ∃ N, m + 1 = N := ⟨_, rfl⟩
      rw [hN] at HS hs3 ⊢
      have hsub : (N : Int) - 1 = (m : Int) := by omega
      clear h h2 hR3 hl hc hN
      go_enter Try.func47, Try.ntmps47
      go_wp2_with (go_at_call 53; refine HS.mono ?_; rintro e w ⟨rfl, rfl⟩)
      go_ret
      exact ⟨rfl, _, _, _, rfl, HR.out⟩
    · rw [decide_eq_false hc] at HS
      have HR : Hid (Rd w a (m + 1) c (cut13 l)) := by
        show Rd _ _ _ _ _
        rw [cut13, if_neg hc]
        exact h
      obtain ⟨N, hN⟩ : ∃ N, m + 1 = N := ⟨_, rfl⟩
      rw [hN] at HS HR ⊢
      clear h h2 hl hc hN
      go_enter Try.func47, Try.ntmps47
      go_wp2_with (go_at_call 53; refine HS.mono ?_; rintro e w ⟨rfl, rfl⟩)
      go_ret
      exact ⟨rfl, _, _, _, rfl, HR.out⟩

/-- A byte that a constant was converted to. -/
theorem Rd.mark (w : World) (x : Int) (b : UInt8) (c : Nat) (h : (b.toNat : Int) = x) (hc : 1 ≤ c) (hc2 : c ≤ maxLen) : Rd (w.alloc (.cells #[.int .u8 x] 5 (1, 2))) (some ⟨w.heap.size, 0, none⟩) 1 c [b] := by
  refine ⟨rfl, hc, hc2, (fun e => (by cases e)), fun j hj => ⟨w.heap.size, 0, rfl, ?_⟩⟩
  obtain rfl : j = 0 := by omega
  simp only [World.cell?, heap_alloc_new]
  simp [h]
end Go.Proofs.Ytkoepgjdjbmknaa
