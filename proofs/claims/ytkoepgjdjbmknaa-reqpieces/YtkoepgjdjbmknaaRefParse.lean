/-
  The document's own Parse.
-/
import Derived.Test.YtkoepgjdjbmknaaRef
namespace Go.Proofs.Ytkoepgjdjbmknaa
open Go.RowKit Go.PlainAid

theorem wrap64_in (n : Int) : -9223372036854775808 ≤ wrap64 n ∧ wrap64 n < 9223372036854775808 := by unfold wrap64; omega

theorem refParse_minus_none (s : ByteArray) (w : World) (hs : s.size ≤ maxLen) (h0 : 0 < s.size) (hc : ((s[0]'h0).toNat : Int) = 45) (ho : cursorL ((lst s).tail) = none) :
    Calls Try.prog 41 #[.string s] w fun e w' => e = .returned (i64R none) ∧ w' = w := by
  have HX : Hid ((s.extract 1 s.size).size ≤ maxLen) := by
    have : (s.extract 1 s.size).size ≤ s.size := by simp
    show _ ≤ _
    omega
  have HN : Hid (cursorL (lst (s.extract 1 s.size)) = none) := by
    show _ = _
    rw [tail_at]; exact ho
  clear ho
  unfold maxLen at hs
  go_enter Try.func41, Try.ntmps41
  go_wp2_with (first | (go_at_call 51; refine (refCursor_any _ _ HX.out _ HN.out).mono ?_; rintro e w ⟨rfl, rfl⟩; dsimp only [u64R, Option.getD_none, Option.isSome_none]))
  go_ret2
  exact ⟨rfl, rfl⟩

theorem refParse_minus_yes (s : ByteArray) (w : World) (hs : s.size ≤ maxLen) (h0 : 0 < s.size) (hc : ((s[0]'h0).toNat : Int) = 45) (u : Nat) (ho : cursorL ((lst s).tail) = some u) (v : Int) (hv : wrap64 (-(wrap64 (u : Int))) = v) (b : ByteArray) (hb : bs (fmtL v) = b) (he : (b.toList == s.toList) = true) :
    Calls Try.prog 41 #[.string s] w fun e w' => e = .returned (i64R (some v)) ∧ w' = w := by
  have HX : Hid ((s.extract 1 s.size).size ≤ maxLen) := by
    have : (s.extract 1 s.size).size ≤ s.size := by simp
    show _ ≤ _
    omega
  have HN : Hid (cursorL (lst (s.extract 1 s.size)) = (some u)) := by
    show _ = _
    rw [tail_at]; exact ho
  have HF := fun w => refFormat_any v w (by rw [← hv]; exact (wrap64_in _).1) (by rw [← hv]; exact (wrap64_in _).2)
  rw [hb] at HF
  clear ho hb
  unfold maxLen at hs
  go_enter Try.func41, Try.ntmps41
  go_wp2_with (first | (go_at_call 51; refine (refCursor_any _ _ HX.out _ HN.out).mono ?_; rintro e w ⟨rfl, rfl⟩; dsimp only [u64R, Option.getD_some, Option.isSome_some]) | (go_at_call 35; refine (HF _).mono ?_; rintro e w ⟨rfl, rfl⟩))
  go_ret2
  exact ⟨rfl, rfl⟩

theorem refParse_minus_no (s : ByteArray) (w : World) (hs : s.size ≤ maxLen) (h0 : 0 < s.size) (hc : ((s[0]'h0).toNat : Int) = 45) (u : Nat) (ho : cursorL ((lst s).tail) = some u) (v : Int) (hv : wrap64 (-(wrap64 (u : Int))) = v) (b : ByteArray) (hb : bs (fmtL v) = b) (he : (b.toList == s.toList) = false) :
    Calls Try.prog 41 #[.string s] w fun e w' => e = .returned (i64R none) ∧ w' = w := by
  have HX : Hid ((s.extract 1 s.size).size ≤ maxLen) := by
    have : (s.extract 1 s.size).size ≤ s.size := by simp
    show _ ≤ _
    omega
  have HN : Hid (cursorL (lst (s.extract 1 s.size)) = (some u)) := by
    show _ = _
    rw [tail_at]; exact ho
  have HF := fun w => refFormat_any v w (by rw [← hv]; exact (wrap64_in _).1) (by rw [← hv]; exact (wrap64_in _).2)
  rw [hb] at HF
  clear ho hb
  unfold maxLen at hs
  go_enter Try.func41, Try.ntmps41
  go_wp2_with (first | (go_at_call 51; refine (refCursor_any _ _ HX.out _ HN.out).mono ?_; rintro e w ⟨rfl, rfl⟩; dsimp only [u64R, Option.getD_some, Option.isSome_some]) | (go_at_call 35; refine (HF _).mono ?_; rintro e w ⟨rfl, rfl⟩))
  go_ret2
  exact ⟨rfl, rfl⟩

theorem refParse_plain_none (s : ByteArray) (w : World) (hs : s.size ≤ maxLen) (h0 : 0 < s.size) (c : Int) (hc : ((s[0]'h0).toNat : Int) = c) (hq : (c == 45) = false) (ho : cursorL (lst s) = none) :
    Calls Try.prog 41 #[.string s] w fun e w' => e = .returned (i64R none) ∧ w' = w := by
  have HX : Hid (s.size ≤ maxLen) := hs
  have HN : Hid (cursorL (lst s) = none) := ho
  clear ho
  unfold maxLen at hs
  go_enter Try.func41, Try.ntmps41
  go_wp2_with (first | (go_at_call 51; refine (refCursor_any _ _ HX.out _ HN.out).mono ?_; rintro e w ⟨rfl, rfl⟩; dsimp only [u64R, Option.getD_none, Option.isSome_none]))
  go_ret2
  exact ⟨rfl, rfl⟩

theorem refParse_plain_yes (s : ByteArray) (w : World) (hs : s.size ≤ maxLen) (h0 : 0 < s.size) (c : Int) (hc : ((s[0]'h0).toNat : Int) = c) (hq : (c == 45) = false) (u : Nat) (ho : cursorL (lst s) = some u) (v : Int) (hv : wrap64 (u : Int) = v) (b : ByteArray) (hb : bs (fmtL v) = b) (he : (b.toList == s.toList) = true) :
    Calls Try.prog 41 #[.string s] w fun e w' => e = .returned (i64R (some v)) ∧ w' = w := by
  have HX : Hid (s.size ≤ maxLen) := hs
  have HN : Hid (cursorL (lst s) = (some u)) := ho
  have HF := fun w => refFormat_any v w (by rw [← hv]; exact (wrap64_in _).1) (by rw [← hv]; exact (wrap64_in _).2)
  rw [hb] at HF
  clear ho hb
  unfold maxLen at hs
  go_enter Try.func41, Try.ntmps41
  go_wp2_with (first | (go_at_call 51; refine (refCursor_any _ _ HX.out _ HN.out).mono ?_; rintro e w ⟨rfl, rfl⟩; dsimp only [u64R, Option.getD_some, Option.isSome_some]) | (go_at_call 35; refine (HF _).mono ?_; rintro e w ⟨rfl, rfl⟩))
  go_ret2
  exact ⟨rfl, rfl⟩

theorem refParse_plain_no (s : ByteArray) (w : World) (hs : s.size ≤ maxLen) (h0 : 0 < s.size) (c : Int) (hc : ((s[0]'h0).toNat : Int) = c) (hq : (c == 45) = false) (u : Nat) (ho : cursorL (lst s) = some u) (v : Int) (hv : wrap64 (u : Int) = v) (b : ByteArray) (hb : bs (fmtL v) = b) (he : (b.toList == s.toList) = false) :
    Calls Try.prog 41 #[.string s] w fun e w' => e = .returned (i64R none) ∧ w' = w := by
  have HX : Hid (s.size ≤ maxLen) := hs
  have HN : Hid (cursorL (lst s) = (some u)) := ho
  have HF := fun w => refFormat_any v w (by rw [← hv]; exact (wrap64_in _).1) (by rw [← hv]; exact (wrap64_in _).2)
  rw [hb] at HF
  clear ho hb
  unfold maxLen at hs
  go_enter Try.func41, Try.ntmps41
  go_wp2_with (first | (go_at_call 51; refine (refCursor_any _ _ HX.out _ HN.out).mono ?_; rintro e w ⟨rfl, rfl⟩; dsimp only [u64R, Option.getD_some, Option.isSome_some]) | (go_at_call 35; refine (HF _).mono ?_; rintro e w ⟨rfl, rfl⟩))
  go_ret2
  exact ⟨rfl, rfl⟩

theorem refParse_empty (w : World) : Calls Try.prog 41 #[.string ⟨#[]⟩] w fun e w' => e = .returned (i64R none) ∧ w' = w := by
  go_enter Try.func41, Try.ntmps41
  go_wp2_with (go_at_call 51; refine (refCursor_any _ _ (by decide) none rfl).mono ?_; rintro e w ⟨rfl, rfl⟩; dsimp only [u64R, Option.getD_none, Option.isSome_none])
  go_ret2
  exact ⟨rfl, rfl⟩

theorem toList_beq (a b : ByteArray) : (a.toList == b.toList) = decide (a = b) := by
  rw [ByteArray.toList_eq, ByteArray.toList_eq]
  by_cases h : a = b
  · rw [decide_eq_true h, h]; simp
  · rw [decide_eq_false h, beq_eq_false_iff_ne]
    intro e
    exact h (by rw [← bs_lst a, ← bs_lst b]; exact congrArg bs e)

theorem cursorL_lt {l : List UInt8} {n : Nat} (h : cursorL l = some n) : n < 18446744073709551616 := by
  unfold cursorL at h
  split at h
  · cases h
  · exact digitsL_lt h

theorem refParse_any (s : ByteArray) (w : World) (hs : s.size ≤ maxLen) (o : Option Int) (ho : parseL (lst s) = o) :
    Calls Try.prog 41 #[.string s] w fun e w' => e = .returned (i64R o) ∧ w' = w := by
  by_cases h0 : 0 < s.size
  · have hh := head_at s h0
    by_cases hc : ((s[0]'h0).toNat : Int) = 45
    · have hd : (lst s).head? = some 45 := by rw [hh, (byte_eq hc 45 (by omega)).2 rfl]; rfl
      have hl : lst s = 45 :: (lst s).tail := by
        cases hq : lst s with
        | nil => rw [hq] at hd; cases hd
        | cons b r => rw [hq] at hd; have : b = 45 := by simpa using hd
                      rw [this]; rfl
      cases hp : cursorL (lst s).tail with
      | none =>
        have : o = none := by
          rw [← ho]
          cases hv : parseL (lst s) with
          | none => rfl
          | some v =>
            obtain ⟨e, h1, h2⟩ := parseL_some hv
            by_cases hn : v < 0
            · rw [fmtL_neg hn] at e
              rw [e, List.tail_cons, cursorL_dec (by omega)] at hp
              cases hp
            · rw [e, fmtL_pos hn] at hd
              exact absurd hd (dec_head45 _)
        subst this
        exact refParse_minus_none s w hs h0 hc hp
      | some u =>
        have hu := cursorL_lt hp
        by_cases he : bs (fmtL (wrap64 (-(wrap64 (u : Int))))) = s
        · have : o = some (wrap64 (-(wrap64 (u : Int)))) := by
            rw [← ho, ← parseL_fmtL (wrap64_in (-(wrap64 (u : Int)))).1 (wrap64_in (-(wrap64 (u : Int)))).2, ← congrArg lst he, lst_bs]
          subst this
          exact refParse_minus_yes s w hs h0 hc u hp _ rfl _ rfl (by rw [toList_beq, decide_eq_true he])
        · have : o = none := by
            rw [← ho]
            cases hv : parseL (lst s) with
            | none => rfl
            | some v =>
              obtain ⟨e, h1, h2⟩ := parseL_some hv
              by_cases hn : v < 0
              · have e' := e
                rw [fmtL_neg hn] at e
                rw [e, List.tail_cons, cursorL_dec (by omega)] at hp
                have hu' : (-v).toNat = u := Option.some.inj hp
                refine absurd ?_ he
                rw [show wrap64 (-(wrap64 (u : Int))) = v by unfold wrap64; omega, ← e', bs_lst]
              · rw [e, fmtL_pos hn] at hd
                exact absurd hd (dec_head45 _)
          subst this
          exact refParse_minus_no s w hs h0 hc u hp _ rfl _ rfl (by rw [toList_beq, decide_eq_false he])
    · have hd : (lst s).head? ≠ some 45 := by
        intro h2
        rw [hh] at h2
        exact hc ((byte_eq rfl 45 (by omega)).1 (Option.some.inj h2))
      have hq : (((s[0]'h0).toNat : Int) == 45) = false := by simpa using hc
      cases hp : cursorL (lst s) with
      | none =>
        have : o = none := by
          rw [← ho]
          cases hv : parseL (lst s) with
          | none => rfl
          | some v =>
            obtain ⟨e, h1, h2⟩ := parseL_some hv
            by_cases hn : v < 0
            · rw [e, fmtL_neg hn] at hd
              exact absurd rfl hd
            · rw [fmtL_pos hn] at e
              rw [e, cursorL_dec (by omega)] at hp
              cases hp
        subst this
        exact refParse_plain_none s w hs h0 _ rfl hq hp
      | some u =>
        have hu := cursorL_lt hp
        by_cases he : bs (fmtL (wrap64 (u : Int))) = s
        · have : o = some (wrap64 (u : Int)) := by
            rw [← ho, ← parseL_fmtL (wrap64_in (u : Int)).1 (wrap64_in (u : Int)).2, ← congrArg lst he, lst_bs]
          subst this
          exact refParse_plain_yes s w hs h0 _ rfl hq u hp _ rfl _ rfl (by rw [toList_beq, decide_eq_true he])
        · have : o = none := by
            rw [← ho]
            cases hv : parseL (lst s) with
            | none => rfl
            | some v =>
              obtain ⟨e, h1, h2⟩ := parseL_some hv
              by_cases hn : v < 0
              · rw [e, fmtL_neg hn] at hd
                exact absurd rfl hd
              · have e' := e
                rw [fmtL_pos hn] at e
                rw [e, cursorL_dec (by omega)] at hp
                have hu' : v.toNat = u := Option.some.inj hp
                refine absurd ?_ he
                rw [show wrap64 (u : Int) = v by unfold wrap64; omega, ← e', bs_lst]
          subst this
          exact refParse_plain_no s w hs h0 _ rfl hq u hp _ rfl _ rfl (by rw [toList_beq, decide_eq_false he])
  · have hl : lst s = [] := List.length_eq_zero_iff.1 (by rw [Array.length_toList]; show s.size = 0; omega)
    have hz : s = ⟨#[]⟩ := by rw [← bs_lst s, hl]; rfl
    subst hz
    rw [← ho]
    exact refParse_empty w
end Go.Proofs.Ytkoepgjdjbmknaa
