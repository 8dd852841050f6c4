/-
  A class, held against a byte: class.
-/
import Derived.Test.YtbmcnbhceogcjaaPrims
namespace Go.Proofs.Ytbmcnbhceogcjaa
open Go.RowKit Go.PlainAid

theorem mems_nil (b g : Nat) (h : Bool) : mems b g [] h = (h, []) := by cases g <;> rfl
theorem mems_end (b g : Nat) (t : ByteArray) (h : Bool) (h0 : 0 < t.size) (hg : t.size ≤ g) (hc : (t[0]'h0).toNat = 93) : mems b g (lst t) h = (h, (lst t).drop 1) := by
  obtain ⟨g, rfl⟩ : ∃ k, g = k + 1 := ⟨g - 1, by omega⟩
  rw [lst_cons t h0]
  simp only [mems, hc, if_true]
  rfl
theorem mems_step (b g : Nat) (t : ByteArray) (h : Bool) (h0 : 0 < t.size) (hg : t.size ≤ g) (hc : (t[0]'h0).toNat ≠ 93) :
    mems b g (lst t) h = mems b (g - 1) ((lst t).drop (msize (lst t))) (h || hit b (lst t)) := by
  obtain ⟨g, rfl⟩ : ∃ k, g = k + 1 := ⟨g - 1, by omega⟩
  rw [lst_cons t h0]
  simp only [mems, hc, if_false]
  rfl
theorem msize_le (l : List UInt8) (h : 0 < l.length) : msize l ≤ l.length := by
  unfold msize; split
  · rename_i x y r
    split
    · simp
    · split
      · rename_i hh
        cases r with
        | nil => exact absurd rfl hh.2
        | cons z r => simp
      · simp
  · omega
/-- What class answers. -/
def clsR (q : Bool × List UInt8) : Value := .tuple #[.string (bs q.2), .bool q.1]
/-- What the document's own class answers. -/
def rclsR (q : Bool × List UInt8) : Value := .tuple #[.bool q.1, .string (bs q.2)]

theorem cls_not (b : Nat) (s : ByteArray) (h0 : 0 < s.size) (hc : (s[0]'h0).toNat = 94) : cls b (lst s) = (!(mems b s.size ((lst s).drop 1) false).1, (mems b s.size ((lst s).drop 1) false).2) := by
  unfold cls
  rw [if_pos (by rw [lst_cons s h0]; exact hc), ← List.drop_one]; rfl
theorem cls_yes (b : Nat) (s : ByteArray) (hc : ∀ h0 : 0 < s.size, (s[0]'h0).toNat ≠ 94) : cls b (lst s) = mems b s.size (lst s) false := by
  unfold cls
  rw [if_neg]; · rfl
  by_cases h0 : 0 < s.size
  · rw [lst_cons s h0]; exact hc h0
  · rw [lst_nil h0]; decide

set_option maxHeartbeats 2000000 in
theorem classNot (s : ByteArray) (b : Nat) (w : World) (hs : s.size ≤ maxLen) (h0 : 0 < s.size) (hc : ((s[0]'h0).toNat : Int) = 94) :
    Calls Try.prog 18 #[.string s, .int .u8 b] w fun e w' => Below w.heap.size w w' ∧ e = .returned (clsR (cls b (lst s))) := by
  unfold maxLen at hs
  have HQ0 := cls_not b s h0 (by omega)
  have hx0 := extract_bs s 1
  have hs0 : (s.extract 1 s.size).size ≤ s.size := by simp
  have hne0 := emp_no h0
  obtain ⟨Q, hQ⟩ : ∃ Q, mems b s.size ((lst s).drop 1) false = Q := ⟨_, rfl⟩
  have HA : Hid (cls b (lst s) = (!Q.1, Q.2)) := by show _ = _; rw [HQ0, hQ]
  have HQ : Hid (mems b s.size (lst (s.extract 1 s.size)) false = Q) := by show _ = _; rw [hx0]; exact hQ
  clear hQ HQ0 hx0
  go_enter Try.func18, Try.ntmps18
  go_wp2
  go_loopg [0, 7] s.size (fun g pv hv wr => ∃ (t : ByteArray) (h : Bool), t.size ≤ g ∧ t.size ≤ 9223372036854775807 ∧ pv = .string t ∧ hv = .bool h ∧ Hid (mems b g (lst t) h = Q) ∧ Hid (Below w.heap.size w wr))
  case atStart => exact ⟨_, false, hs0, by omega, rfl, rfl, HQ, Below.refl _ _⟩
  case round =>
    obtain ⟨t, h, hg, hz, rfl, rfl, HM, HB⟩ := hrel
    have HG : Hid (t.size ≤ gk) := hg
    have HZ : Hid (t.size ≤ maxLen) := hz
    clear hg
    by_cases h0 : 0 < t.size
    · obtain ⟨c, hc⟩ : ∃ c : Int, ((t[0]'h0).toNat : Int) = c := ⟨_, rfl⟩
      have HC : Hid (((t[0]'h0).toNat : Int) = c) := hc
      have hcb := byte_le _ hc
      have hne := emp_no h0
      by_cases h93 : c = 93
      · have HE : Hid ((h, (lst t).drop 1) = Q) := (mems_end b gk t h h0 HG.out (by have := HC.out; omega)).symm.trans HM.out
        have HX : Hid (t.extract 1 t.size = bs ((lst t).drop 1)) := extract_bs t 1
        subst h93
        go_wp2
        go_ret2
        exact ⟨HB.out, by rw [HA.out, ← HE.out, HX.out]; cases h <;> rfl⟩
      · have hq : (c == 93) = false := by simpa using h93
        have HS : Hid (mems b (gk - 1) ((lst t).drop (msize (lst t))) (h || hit b (lst t)) = Q) := (mems_step b gk t h h0 HG.out (by have := HC.out; omega)).symm.trans HM.out
        have HP := msize_le (lst t) (by rw [len_lst]; exact h0)
        rw [len_lst] at HP
        have HP0 := msize_pos (lst t)
        clear HM h93
        go_wp2_with fail
        refine (member_any t _ h0 HZ.out).mono ?_
        rintro e w1 ⟨hb1, lo, hi, n, ⟨rfl, hm⟩, rfl⟩
        have HB1 : Hid (Below w.heap.size w w1) := HB.out.trans (hb1.mono HB.out.size)
        clear hb1 HB
        have HH : Hid ((decide (lo ≤ (b : Int)) && decide ((b : Int) ≤ hi)) = hit b (lst t)) := hm.2.2.2.2 b
        obtain ⟨hlo0, hlo, hhi0, hhi, -⟩ := hm
        unfold memR
        obtain ⟨m, hm⟩ : ∃ m, msize (lst t) = m := ⟨_, rfl⟩
        have HMM : Hid (msize (lst t) = m) := hm
        rw [hm] at HP HP0 ⊢
        clear hm
        have HX : Hid (t.extract m t.size = bs ((lst t).drop m)) := extract_bs t m
        have hsz : (t.extract m t.size).size ≤ t.size := by simp
        have HSZ : Hid ((t.extract m t.size).size + m = t.size) := by show _ = _; simp; omega
        cases h with
        | true =>
          go_wp2
          go_roundg (gk - 1)
          case measure => have := HG.out; omega
          case rel =>
            refine ⟨_, true, ?_, ?_, rfl, rfl, ?_, HB1⟩
            · have := HSZ.out; have := HG.out; omega
            · omega
            · have := HS.out; rw [HMM.out, Bool.true_or] at this
              rw [HX.out]; exact this
        | false =>
          by_cases hl : lo ≤ (b : Int)
          · go_wp2
            go_roundg (gk - 1)
            case measure => have := HG.out; omega
            case rel =>
              refine ⟨_, decide ((b : Int) ≤ hi), ?_, ?_, rfl, rfl, ?_, HB1⟩
              · have := HSZ.out; have := HG.out; omega
              · omega
              · have := HS.out; rw [HMM.out, ← HH.out, decide_eq_true (show lo ≤ (b : Int) by omega), Bool.true_and, Bool.false_or] at this
                rw [HX.out]; exact this
          · go_wp2
            go_roundg (gk - 1)
            case measure => have := HG.out; omega
            case rel =>
              refine ⟨_, false, ?_, ?_, rfl, rfl, ?_, HB1⟩
              · have := HSZ.out; have := HG.out; omega
              · omega
              · have := HS.out; rw [HMM.out, ← HH.out, decide_eq_false (show ¬ lo ≤ (b : Int) by omega), Bool.false_and] at this
                rw [HX.out]; exact this
    · have hne := emp_yes h0
      have HE : Hid ((h, []) = Q) := by
        have := HM.out; rw [lst_nil h0, mems_nil] at this; exact this
      have HT : Hid (t = bs []) := by show t = _; rw [← bs_lst t, lst_nil h0]
      go_wp2
      go_ret2
      exact ⟨HB.out, by rw [HA.out, ← HE.out, HT.out]; cases h <;> rfl⟩

set_option maxHeartbeats 2000000 in
theorem class_yes (s : ByteArray) (b : Nat) (w : World) (hs : s.size ≤ maxLen) (h0 : 0 < s.size) (c0 : Int) (hc : ((s[0]'h0).toNat : Int) = c0) (hn : c0 ≠ 94) :
    Calls Try.prog 18 #[.string s, .int .u8 b] w fun e w' => Below w.heap.size w w' ∧ e = .returned (clsR (cls b (lst s))) := by
  unfold maxLen at hs
  have HQ0 := cls_yes b s (by intro _; omega)
  have hcb0 := byte_le _ hc
  have hne0 := emp_no h0
  obtain ⟨Q, hQ⟩ : ∃ Q, mems b s.size (lst s) false = Q := ⟨_, rfl⟩
  have HA : Hid (cls b (lst s) = Q) := by show _ = _; rw [HQ0, hQ]
  have HQ : Hid (mems b s.size (lst s) false = Q) := hQ
  have hq0 : (c0 == 94) = false := by simpa using hn
  clear hQ HQ0 hn
  go_enter Try.func18, Try.ntmps18
  go_wp2
  go_loopg [0, 7] s.size (fun g pv hv wr => ∃ (t : ByteArray) (h : Bool), t.size ≤ g ∧ t.size ≤ 9223372036854775807 ∧ pv = .string t ∧ hv = .bool h ∧ Hid (mems b g (lst t) h = Q) ∧ Hid (Below w.heap.size w wr))
  case atStart => exact ⟨_, false, Nat.le_refl _, by omega, rfl, rfl, HQ, Below.refl _ _⟩
  case round =>
    obtain ⟨t, h, hg, hz, rfl, rfl, HM, HB⟩ := hrel
    have HG : Hid (t.size ≤ gk) := hg
    have HZ : Hid (t.size ≤ maxLen) := hz
    clear hg
    by_cases h0 : 0 < t.size
    · obtain ⟨c, hc⟩ : ∃ c : Int, ((t[0]'h0).toNat : Int) = c := ⟨_, rfl⟩
      have HC : Hid (((t[0]'h0).toNat : Int) = c) := hc
      have hcb := byte_le _ hc
      have hne := emp_no h0
      by_cases h93 : c = 93
      · have HE : Hid ((h, (lst t).drop 1) = Q) := (mems_end b gk t h h0 HG.out (by have := HC.out; omega)).symm.trans HM.out
        have HX : Hid (t.extract 1 t.size = bs ((lst t).drop 1)) := extract_bs t 1
        subst h93
        go_wp2
        go_ret2
        exact ⟨HB.out, by rw [HA.out, ← HE.out, HX.out]; cases h <;> rfl⟩
      · have hq : (c == 93) = false := by simpa using h93
        have HS : Hid (mems b (gk - 1) ((lst t).drop (msize (lst t))) (h || hit b (lst t)) = Q) := (mems_step b gk t h h0 HG.out (by have := HC.out; omega)).symm.trans HM.out
        have HP := msize_le (lst t) (by rw [len_lst]; exact h0)
        rw [len_lst] at HP
        have HP0 := msize_pos (lst t)
        clear HM h93
        go_wp2_with fail
        refine (member_any t _ h0 HZ.out).mono ?_
        rintro e w1 ⟨hb1, lo, hi, n, ⟨rfl, hm⟩, rfl⟩
        have HB1 : Hid (Below w.heap.size w w1) := HB.out.trans (hb1.mono HB.out.size)
        clear hb1 HB
        have HH : Hid ((decide (lo ≤ (b : Int)) && decide ((b : Int) ≤ hi)) = hit b (lst t)) := hm.2.2.2.2 b
        obtain ⟨hlo0, hlo, hhi0, hhi, -⟩ := hm
        unfold memR
        obtain ⟨m, hm⟩ : ∃ m, msize (lst t) = m := ⟨_, rfl⟩
        have HMM : Hid (msize (lst t) = m) := hm
        rw [hm] at HP HP0 ⊢
        clear hm
        have HX : Hid (t.extract m t.size = bs ((lst t).drop m)) := extract_bs t m
        have hsz : (t.extract m t.size).size ≤ t.size := by simp
        have HSZ : Hid ((t.extract m t.size).size + m = t.size) := by show _ = _; simp; omega
        cases h with
        | true =>
          go_wp2
          go_roundg (gk - 1)
          case measure => have := HG.out; omega
          case rel =>
            refine ⟨_, true, ?_, ?_, rfl, rfl, ?_, HB1⟩
            · have := HSZ.out; have := HG.out; omega
            · omega
            · have := HS.out; rw [HMM.out, Bool.true_or] at this
              rw [HX.out]; exact this
        | false =>
          by_cases hl : lo ≤ (b : Int)
          · go_wp2
            go_roundg (gk - 1)
            case measure => have := HG.out; omega
            case rel =>
              refine ⟨_, decide ((b : Int) ≤ hi), ?_, ?_, rfl, rfl, ?_, HB1⟩
              · have := HSZ.out; have := HG.out; omega
              · omega
              · have := HS.out; rw [HMM.out, ← HH.out, decide_eq_true (show lo ≤ (b : Int) by omega), Bool.true_and, Bool.false_or] at this
                rw [HX.out]; exact this
          · go_wp2
            go_roundg (gk - 1)
            case measure => have := HG.out; omega
            case rel =>
              refine ⟨_, false, ?_, ?_, rfl, rfl, ?_, HB1⟩
              · have := HSZ.out; have := HG.out; omega
              · omega
              · have := HS.out; rw [HMM.out, ← HH.out, decide_eq_false (show ¬ lo ≤ (b : Int) by omega), Bool.false_and] at this
                rw [HX.out]; exact this
    · have hne := emp_yes h0
      have HE : Hid ((h, []) = Q) := by
        have := HM.out; rw [lst_nil h0, mems_nil] at this; exact this
      have HT : Hid (t = bs []) := by show t = _; rw [← bs_lst t, lst_nil h0]
      go_wp2
      go_ret2
      exact ⟨HB.out, by rw [HA.out, ← HE.out, HT.out]; cases h <;> rfl⟩

set_option maxHeartbeats 2000000 in
theorem class_nil (s : ByteArray) (b : Nat) (w : World) (hs : s.size ≤ maxLen) (h0 : ¬ 0 < s.size) :
    Calls Try.prog 18 #[.string s, .int .u8 b] w fun e w' => Below w.heap.size w w' ∧ e = .returned (clsR (cls b (lst s))) := by
  unfold maxLen at hs
  have HQ0 := cls_yes b s (by intro h; omega)
  have hne0 := emp_yes h0
  obtain ⟨Q, hQ⟩ : ∃ Q, mems b s.size (lst s) false = Q := ⟨_, rfl⟩
  have HA : Hid (cls b (lst s) = Q) := by show _ = _; rw [HQ0, hQ]
  have HQ : Hid (mems b s.size (lst s) false = Q) := hQ
  clear hQ HQ0
  go_enter Try.func18, Try.ntmps18
  go_wp2
  go_loopg [0, 7] s.size (fun g pv hv wr => ∃ (t : ByteArray) (h : Bool), t.size ≤ g ∧ t.size ≤ 9223372036854775807 ∧ pv = .string t ∧ hv = .bool h ∧ Hid (mems b g (lst t) h = Q) ∧ Hid (Below w.heap.size w wr))
  case atStart => exact ⟨_, false, Nat.le_refl _, by omega, rfl, rfl, HQ, Below.refl _ _⟩
  case round =>
    obtain ⟨t, h, hg, hz, rfl, rfl, HM, HB⟩ := hrel
    have HG : Hid (t.size ≤ gk) := hg
    have HZ : Hid (t.size ≤ maxLen) := hz
    clear hg
    by_cases h0 : 0 < t.size
    · obtain ⟨c, hc⟩ : ∃ c : Int, ((t[0]'h0).toNat : Int) = c := ⟨_, rfl⟩
      have HC : Hid (((t[0]'h0).toNat : Int) = c) := hc
      have hcb := byte_le _ hc
      have hne := emp_no h0
      by_cases h93 : c = 93
      · have HE : Hid ((h, (lst t).drop 1) = Q) := (mems_end b gk t h h0 HG.out (by have := HC.out; omega)).symm.trans HM.out
        have HX : Hid (t.extract 1 t.size = bs ((lst t).drop 1)) := extract_bs t 1
        subst h93
        go_wp2
        go_ret2
        exact ⟨HB.out, by rw [HA.out, ← HE.out, HX.out]; cases h <;> rfl⟩
      · have hq : (c == 93) = false := by simpa using h93
        have HS : Hid (mems b (gk - 1) ((lst t).drop (msize (lst t))) (h || hit b (lst t)) = Q) := (mems_step b gk t h h0 HG.out (by have := HC.out; omega)).symm.trans HM.out
        have HP := msize_le (lst t) (by rw [len_lst]; exact h0)
        rw [len_lst] at HP
        have HP0 := msize_pos (lst t)
        clear HM h93
        go_wp2_with fail
        refine (member_any t _ h0 HZ.out).mono ?_
        rintro e w1 ⟨hb1, lo, hi, n, ⟨rfl, hm⟩, rfl⟩
        have HB1 : Hid (Below w.heap.size w w1) := HB.out.trans (hb1.mono HB.out.size)
        clear hb1 HB
        have HH : Hid ((decide (lo ≤ (b : Int)) && decide ((b : Int) ≤ hi)) = hit b (lst t)) := hm.2.2.2.2 b
        obtain ⟨hlo0, hlo, hhi0, hhi, -⟩ := hm
        unfold memR
        obtain ⟨m, hm⟩ : ∃ m, msize (lst t) = m := ⟨_, rfl⟩
        have HMM : Hid (msize (lst t) = m) := hm
        rw [hm] at HP HP0 ⊢
        clear hm
        have HX : Hid (t.extract m t.size = bs ((lst t).drop m)) := extract_bs t m
        have hsz : (t.extract m t.size).size ≤ t.size := by simp
        have HSZ : Hid ((t.extract m t.size).size + m = t.size) := by show _ = _; simp; omega
        cases h with
        | true =>
          go_wp2
          go_roundg (gk - 1)
          case measure => have := HG.out; omega
          case rel =>
            refine ⟨_, true, ?_, ?_, rfl, rfl, ?_, HB1⟩
            · have := HSZ.out; have := HG.out; omega
            · omega
            · have := HS.out; rw [HMM.out, Bool.true_or] at this
              rw [HX.out]; exact this
        | false =>
          by_cases hl : lo ≤ (b : Int)
          · go_wp2
            go_roundg (gk - 1)
            case measure => have := HG.out; omega
            case rel =>
              refine ⟨_, decide ((b : Int) ≤ hi), ?_, ?_, rfl, rfl, ?_, HB1⟩
              · have := HSZ.out; have := HG.out; omega
              · omega
              · have := HS.out; rw [HMM.out, ← HH.out, decide_eq_true (show lo ≤ (b : Int) by omega), Bool.true_and, Bool.false_or] at this
                rw [HX.out]; exact this
          · go_wp2
            go_roundg (gk - 1)
            case measure => have := HG.out; omega
            case rel =>
              refine ⟨_, false, ?_, ?_, rfl, rfl, ?_, HB1⟩
              · have := HSZ.out; have := HG.out; omega
              · omega
              · have := HS.out; rw [HMM.out, ← HH.out, decide_eq_false (show ¬ lo ≤ (b : Int) by omega), Bool.false_and] at this
                rw [HX.out]; exact this
    · have hne := emp_yes h0
      have HE : Hid ((h, []) = Q) := by
        have := HM.out; rw [lst_nil h0, mems_nil] at this; exact this
      have HT : Hid (t = bs []) := by show t = _; rw [← bs_lst t, lst_nil h0]
      go_wp2
      go_ret2
      exact ⟨HB.out, by rw [HA.out, ← HE.out, HT.out]; cases h <;> rfl⟩

theorem class_any (s : ByteArray) (b : Nat) (w : World) (hs : s.size ≤ maxLen) :
    Calls Try.prog 18 #[.string s, .int .u8 b] w fun e w' => Below w.heap.size w w' ∧ e = .returned (clsR (cls b (lst s))) := by
  by_cases h0 : 0 < s.size
  · by_cases hc : ((s[0]'h0).toNat : Int) = 94
    · exact classNot s b w hs h0 hc
    · exact class_yes s b w hs h0 _ rfl hc
  · exact class_nil s b w hs h0
end Go.Proofs.Ytbmcnbhceogcjaa
