/-
  The program's OnesCount8, Count, Append; the document's own Span, Range, Count; Within.
-/
import Derived.Test.YtjikfpdlbjjmbaaSpn
namespace Go.Proofs.Ytjikfpdlbjjmbaa
open Go.RowKit Go.PlainAid

set_option maxRecDepth 100000 in
theorem Ones_any (x : Nat) (w : World) (h : x < 256) : Calls Try.prog 32 #[.int .u8 x] w fun e w' => e = .returned (.int .i64 (pop x : Nat)) ∧ w' = w := by
  have hp := Lib.pop8_int (x : Int) (by omega) (by omega)
  rw [show ((x : Int).toNat) = x from Int.toNat_natCast x] at hp
  obtain ⟨X, hX⟩ : ∃ X : Int, (x : Int) = X := ⟨_, rfl⟩
  have h0 : 0 ≤ X ∧ X ≤ 255 := by omega
  rw [hX] at hp ⊢
  have HP : Hid (wrap64 (Lib.pop8 X) = (pop x : Nat)) := by
    show _ = _
    unfold wrap64; exact hp
  generalize pop x = p at HP ⊢
  clear hX hp h
  go_enter Try.func32, Try.ntmps32
  go_wp2
  go_ret
  exact ⟨by rw [← HP.out]; rfl, rfl⟩

theorem popL_done (l : List UInt8) (k : Nat) (h : l.length ≤ k) : popL (l.take k) = popL l := by rw [List.take_of_length_le h]

set_option maxHeartbeats 1000000 in
theorem Count_any (s : ByteArray) (a b : Int) (w : World) (ha : I64 a) (hb : I64 b) (hs : s.size ≤ 140737488355328) :
    Calls Try.prog 18 #[.string s, .int .i64 a, .int .i64 b] w fun e w' => e = .returned (.int .i64 (popL (lst (spanB s a b)) : Nat)) ∧ w' = w := by
  have H1 := fun w => span_any s a b w ha hb (by unfold maxLen; omega)
  have hz := Nat.le_trans (size_spanB s a b) hs
  generalize spanB s a b = t at H1 hz ⊢
  have HL : Hid ((lst t).length = t.size) := len_lst t
  clear hs ha hb
  go_enter Try.func18, Try.ntmps18
  go_wp2_with fail
  refine (H1 _).mono ?_
  rintro e w1 ⟨rfl, rfl⟩
  clear H1
  go_wp2
  go_loopg [7, 8] t.size (fun g nv i wr => w1 = wr ∧ ∃ k n : Nat, k + g = t.size ∧ i = .int .i64 k ∧ nv = .int .i64 n ∧ Hid (popL ((lst t).take k) = n))
  case atStart => exact ⟨rfl, 0, 0, by omega, rfl, rfl, by show _ = _; simp [popL]⟩
  case round =>
    obtain ⟨rfl, k, n, hk, rfl, rfl, HN⟩ := hrel
    have hn : n ≤ 1125899906842624 := by
      have := popL_le ((lst t).take k)
      rw [HN.out, List.length_take, HL.out] at this
      omega
    by_cases hlt : k < t.size
    · have HO := fun w => Ones_any (t[k]'hlt).toNat w (t[k]'hlt).toNat_lt
      have hp8 : pop (t[k]'hlt).toNat ≤ 8 := pop_le _ (t[k]'hlt).toNat_lt
      have HP : Hid (popL ((lst t).take (k + 1)) = n + pop (t[k]'hlt).toNat) := by
        show _ = _
        rw [popL_take _ _ (by rw [HL.out]; exact hlt), HN.out]
        have := byteAt_in t k hlt
        unfold byteAt at this
        rw [this]
      generalize hP : pop (t[k]'hlt).toNat = P at HO hp8 HP
      clear hP
      go_wp2_with (go_at_call 32; refine (HO _).mono ?_; rintro e w ⟨rfl, rfl⟩)
      go_roundg (gk - 1)
      case measure => omega
      case rel => exact ⟨rfl, k + 1, n + P, by omega, by go_num, by go_num, HP⟩
    · have HE : Hid (popL (lst t) = n) := by show _ = _; rw [← HN.out, popL_done _ _ (by rw [HL.out]; omega)]
      go_wp2
      go_ret
      exact ⟨by rw [HE.out]; rfl, rfl⟩

theorem Append_any (s t : ByteArray) (w : World) (h1 : s.size ≤ 1000000) (h2 : t.size ≤ 1000000) (h : s.size + t.size ≤ 65536) :
    Calls Try.prog 12 #[.string s, .string t] w fun e w' => e = .returned (.tuple #[.string (s ++ t), .int .i64 0]) ∧ w' = w := by
  go_enter Try.func12, Try.ntmps12
  go_wp2
  go_ret2
  exact ⟨rfl, rfl⟩
theorem Append_no (s t : ByteArray) (w : World) (h1 : s.size ≤ 1000000) (h2 : t.size ≤ 1000000) (h : ¬ s.size + t.size ≤ 65536) :
    Calls Try.prog 12 #[.string s, .string t] w fun e w' => e = .returned (.tuple #[.string ⟨#[]⟩, .int .i64 11]) ∧ w' = w := by
  go_enter Try.func12, Try.ntmps12
  go_wp2
  go_ret2
  exact ⟨rfl, rfl⟩

theorem WithinZ_any (n lo hi : Int) (w : World) (h0 : -1000 ≤ lo) (h1 : lo ≤ hi) (h2 : hi ≤ 1000000) :
    Calls Try.prog 15 #[.int .i64 n, .int .i64 lo, .int .i64 hi] w fun e w' => w' = w ∧ ∃ z : Int, lo ≤ z ∧ z ≤ hi ∧ e = .returned (.int .i64 z) := by
  obtain ⟨m, hm⟩ : ∃ m, hi - lo = m := ⟨_, rfl⟩
  have hm0 : 0 ≤ m ∧ m ≤ 1001000 := by omega
  have hz : (m + 1 == 0) = false := by simp; omega
  have hr0 : n.tmod (m + 1) < m + 1 := Int.tmod_lt_of_pos n (by omega)
  have hr1 : -(m + 1) < n.tmod (m + 1) := Int.lt_tmod_of_pos n (by omega)
  obtain ⟨r, hr⟩ : ∃ r, n.tmod (m + 1) = r := ⟨_, rfl⟩
  rw [hr] at hr0 hr1
  by_cases hn : r < 0
  · go_enter Try.func15, Try.ntmps15
    go_wp2
    go_ret
    exact ⟨rfl, _, by omega, by omega, rfl⟩
  · go_enter Try.func15, Try.ntmps15
    go_wp2
    go_ret
    exact ⟨rfl, _, by omega, by omega, rfl⟩

/-- From and behind the last; nothing: both 0. -/
def spanI (n : Nat) (a b : Int) : Int × Int := if spB n b < spA n a then (0, 0) else (spA n a, spB n b + 1)

set_option maxHeartbeats 1000000 in
theorem refSpan_any (n : Nat) (a b : Int) (w : World) (ha : I64 a) (hb : I64 b) (hn : n ≤ 9223372036854775807) :
    Calls Try.prog 38 #[.int .i64 n, .int .i64 a, .int .i64 b] w fun e w' => e = .returned (.tuple #[.int .i64 (spanI n a b).1, .int .i64 (spanI n a b).2]) ∧ w' = w := by
  have hfa := fs_bounds n a ha hn
  have hfb := fs_bounds n b hb hn
  have HS : Hid (spanI n a b = if spB n b < spA n a then (0, 0) else (spA n a, spB n b + 1)) := rfl
  have hA : max (fs n a) 0 = spA n a := rfl
  have hB : min (fs n b) ((n : Int) - 1) = spB n b := rfl
  have hX : (a < 0 ∧ fs n a = a + n) ∨ (0 ≤ a ∧ fs n a = a) := by unfold fs; split <;> omega
  have hY : (b < 0 ∧ fs n b = b + n) ∨ (0 ≤ b ∧ fs n b = b) := by unfold fs; split <;> omega
  unfold I64 at hfa hfb ha hb
  generalize fs n a = X at *
  generalize fs n b = Y at *
  generalize spA n a = A at *
  generalize spB n b = B at *
  have hA' : (X < 0 ∧ A = 0) ∨ (0 ≤ X ∧ A = X) := by omega
  obtain ⟨E, hE⟩ : ∃ E, B + 1 = E := ⟨_, rfl⟩
  rw [hE] at HS
  have hB' : ((n : Int) - 1 < Y ∧ B = n - 1 ∧ E = n) ∨ (Y ≤ (n : Int) - 1 ∧ B = Y ∧ E = Y + 1) := by omega
  clear hA hB hE
  by_cases h : B < A
  · rw [if_pos h] at HS
    rcases hX with ⟨h1, rfl⟩ | ⟨h1, rfl⟩ <;> rcases hY with ⟨h2, rfl⟩ | ⟨h2, rfl⟩ <;> rcases hA' with ⟨h3, rfl⟩ | ⟨h3, rfl⟩ <;> rcases hB' with ⟨h4, rfl, rfl⟩ | ⟨h4, rfl, rfl⟩ <;> first
    | (exfalso; omega)
    | (go_enter Try.func38, Try.ntmps38
       go_wp2
       go_ret2
       exact ⟨by rw [HS.out]; rfl, rfl⟩)
  · rw [if_neg h] at HS
    rcases hX with ⟨h1, rfl⟩ | ⟨h1, rfl⟩ <;> rcases hY with ⟨h2, rfl⟩ | ⟨h2, rfl⟩ <;> rcases hA' with ⟨h3, rfl⟩ | ⟨h3, rfl⟩ <;> rcases hB' with ⟨h4, rfl, rfl⟩ | ⟨h4, rfl, rfl⟩ <;> first
    | (exfalso; omega)
    | (go_enter Try.func38, Try.ntmps38
       go_wp2
       go_ret2
       exact ⟨by rw [HS.out]; rfl, rfl⟩)

theorem spanI_in (n : Nat) (a b : Int) : 0 ≤ (spanI n a b).1 ∧ (spanI n a b).1 ≤ (spanI n a b).2 ∧ (spanI n a b).2 ≤ n := by
  unfold spanI
  split
  · exact ⟨by omega, by omega, by show (0 : Int) ≤ n; omega⟩
  · have : 0 ≤ spA n a := by unfold spA; omega
    have : spB n b ≤ (n : Int) - 1 := by unfold spB; omega
    exact ⟨by omega, by show spA n a ≤ spB n b + 1; omega, by show spB n b + 1 ≤ n; omega⟩
theorem spanI_text (s : ByteArray) (a b : Int) : s.extract (spanI s.size a b).1.toNat (spanI s.size a b).2.toNat = spanB s a b := by
  unfold spanI spanB
  split
  · apply emp_of; simp
  · rfl

theorem refRange_any (s : ByteArray) (a b : Int) (w : World) (ha : I64 a) (hb : I64 b) (hs : s.size ≤ 140737488355328) :
    Calls Try.prog 23 #[.string s, .int .i64 a, .int .i64 b] w fun e w' => e = .returned (.string (spanB s a b)) ∧ w' = w := by
  have H1 := fun w => refSpan_any s.size a b w ha hb (by omega)
  obtain ⟨h1, h2, h3⟩ := spanI_in s.size a b
  have HT : Hid (s.extract (spanI s.size a b).1.toNat (spanI s.size a b).2.toNat = spanB s a b) := spanI_text s a b
  generalize (spanI s.size a b).1 = A at *
  generalize (spanI s.size a b).2 = B at *
  obtain ⟨lo, rfl⟩ : ∃ lo : Nat, A = lo := ⟨A.toNat, by omega⟩
  obtain ⟨hi, rfl⟩ : ∃ hi : Nat, B = (hi : Int) := ⟨B.toNat, by omega⟩
  go_enter Try.func23, Try.ntmps23
  go_wp2_with fail
  refine (H1 _).mono ?_
  rintro e w1 ⟨rfl, rfl⟩
  clear H1
  go_wp2
  go_ret
  exact ⟨by rw [← HT.out]; rfl, rfl⟩

set_option maxHeartbeats 1000000 in
theorem refCount_any (s : ByteArray) (a b : Int) (w : World) (ha : I64 a) (hb : I64 b) (hs : s.size ≤ 140737488355328) :
    Calls Try.prog 24 #[.string s, .int .i64 a, .int .i64 b] w fun e w' => e = .returned (.int .i64 (popL (lst (spanB s a b)) : Nat)) ∧ w' = w := by
  have H1 := fun w => refRange_any s a b w ha hb hs
  have hz := Nat.le_trans (size_spanB s a b) hs
  generalize spanB s a b = t at H1 hz ⊢
  have HL : Hid ((lst t).length = t.size) := len_lst t
  clear hs ha hb
  go_enter Try.func24, Try.ntmps24
  go_wp2_with fail
  refine (H1 _).mono ?_
  rintro e w1 ⟨rfl, rfl⟩
  clear H1
  go_wp2
  go_loopg [8, 9] t.size (fun g nv i wr => w1 = wr ∧ ∃ k n : Nat, k + g = t.size ∧ i = .int .i64 k ∧ nv = .int .i64 n ∧ Hid (popL ((lst t).take k) = n))
  case atStart => exact ⟨rfl, 0, 0, by omega, rfl, rfl, by show _ = _; simp [popL]⟩
  case round =>
    obtain ⟨rfl, k, n, hk, rfl, rfl, HN⟩ := hrel
    have hn : n ≤ 1125899906842624 := by
      have := popL_le ((lst t).take k)
      rw [HN.out, List.length_take, HL.out] at this
      omega
    by_cases hlt : k < t.size
    · have HP : Hid (popL ((lst t).take (k + 1)) = n + pop (t[k]'hlt).toNat) := by
        show _ = _
        rw [popL_take _ _ (by rw [HL.out]; exact hlt), HN.out]
        have := byteAt_in t k hlt
        unfold byteAt at this
        rw [this]
      have hc256 := (t[k]'hlt).toNat_lt
      have HK : Hid (k + gk = t.size) := hk
      generalize hP : (t[k]'hlt).toNat = P at HP hc256
      obtain ⟨C, hC⟩ : ∃ C : Int, (P : Int) = C := ⟨_, rfl⟩
      have hP' : ((t[k]'hlt).toNat : Int) = C := by rw [hP, hC]
      clear hP hk
      obtain ⟨gq, hgq⟩ : ∃ gq, gq = gk := ⟨_, rfl⟩
      rw [← hgq] at HK
      have HGQ : Hid (gq = gk) := hgq
      clear hgq
      go_wp2
      go_loopg [8, 10] 255 (fun g nv cv wr => w1 = wr ∧ ∃ c m : Nat, c ≤ g ∧ c ≤ 255 ∧ cv = .int .u8 c ∧ nv = .int .i64 m ∧ m ≤ 1125899906842632 ∧ Hid (m + pop c = n + pop P))
      case atStart => exact ⟨rfl, P, n, by omega, by omega, by rw [hC], rfl, by omega, rfl⟩
      case round =>
        obtain ⟨rfl, c, m, hcg, hc5, rfl, rfl, hm, HM⟩ := hrel
        have HST : Hid (pop c = c % 2 + pop (c / 2)) := pop_step c (by omega)
        have hP8 := pop_le P hc256
        have hm2 : m ≤ n + 8 := by have := HM.out; omega
        obtain ⟨Q, hQ⟩ : ∃ Q : Int, (c : Int) = Q := ⟨_, rfl⟩
        rw [hQ]
        have HQ : Hid ((c : Int) = Q) := hQ
        have hQ0 : 0 ≤ Q ∧ Q ≤ 255 := by omega
        have HCG : Hid (c ≤ gk) := hcg
        by_cases h0 : 0 < Q
        · have HM2 : Hid (m + c % 2 ≤ n + 8) := by
            show _ ≤ _
            have := HM.out; have := HST.out; omega
          clear hQ hcg
          go_wp2
          go_roundg (c / 2)
          case measure => have := HQ.out; have := HCG.out; omega
          case rel => exact ⟨rfl, c / 2, m + c % 2, by omega, by omega, by have := HQ.out; go_num, by have := HQ.out; go_num, by have := HM2.out; omega, by show _ = _; have := HM.out; have := HST.out; omega⟩
        · have hc0 : c = 0 := by omega
          have HF : Hid (m = n + pop P) := by
            have := HM.out
            rw [hc0] at this
            exact this
          clear hQ hcg
          go_wp2
          go_roundg (gq - 1)
          case measure => have := HK.out; have := HGQ.out; omega
          case rel => exact ⟨rfl, k + 1, m, by have := HK.out; omega, by go_num, rfl, by show _ = _; rw [HP.out, HF.out]⟩
    · have HE : Hid (popL (lst t) = n) := by show _ = _; rw [← HN.out, popL_done _ _ (by rw [HL.out]; omega)]
      go_wp2
      go_ret
      exact ⟨by rw [HE.out]; rfl, rfl⟩
end Go.Proofs.Ytjikfpdlbjjmbaa
