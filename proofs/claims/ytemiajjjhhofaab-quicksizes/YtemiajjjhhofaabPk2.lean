/-
  What only reads a pack: Bytes, All, Back; what makes one: New, Copy.
-/
import Derived.Test.YtemiajjjhhofaabPk
namespace Go.Proofs.Ytemiajjjhhofaab
open Go.RowKit Go.PlainAid

/-- What a call answers that makes a pack. -/
def MakesPk (w : World) (l : List ByteArray) (e : Ending) (w' : World) : Prop :=
  Below w.heap.size w w' ∧ ∃ p a n c, e = .returned (ptr p) ∧ Pk w' w.heap.size p a n c l

theorem New_any (w : World) : Calls Try.prog 11 #[] w fun e w' => MakesPk w [] e w' := by
  go_enter Try.func11, Try.ntmps11
  go_wp2
  go_ret
  exact ⟨alloc_below w _, w.heap.size, none, 0, 0, rfl, heap_alloc_new w _, Nat.le_refl _, Own.nil _ _⟩

set_option maxRecDepth 100000 in
theorem Clone_any (a : Option Addr) (n c : Nat) (l : List UInt8) (w : World) (hR : Rd w a n c l) (hn : n ≤ 140737488355328) :
    Calls Try.prog 67 #[.slice a n c] w fun e w' => Makes w l e w' := by
  cases a with
  | none =>
    have h0 : l = [] := by
      cases l with
      | nil => rfl
      | cons x r =>
        obtain ⟨b, off, e, -⟩ := hR.cell 0 (by rw [← hR.len]; simp)
        cases e
    subst h0
    have heq : ∀ w, (binOp .eql 42 (.slice none n c) (.slice none 0 0)).run Try.prog w = .ok (.bool true) w := fun w => Lib.run_eql_slice_nil w 42 5 none n c 0 0 Try.underlying42
    clear hR
    go_enter Try.func67, Try.ntmps67
    go_wp2
    go_ret
    exact ⟨Below.refl _ _, none, 0, 0, rfl, Own.nil _ _⟩
  | some ad =>
    have HM : Hid (Own (w.alloc (.cells #[] 5)) w.heap.size (some ⟨w.heap.size, 0, none⟩) 0 0 []) := by
      have := Own.made w [] w.heap.size 0 rfl (Nat.le_refl _) (by decide)
      show Own _ _ _ _ _ _
      simpa [cells] using this
    have HR : Hid (Rd (w.alloc (.cells #[] 5)) (some ad) n c l) := hR.keep (alloc_below w _)
    have HN : Hid (0 + n ≤ 140737488355328) := by show _ ≤ _; omega
    have HS : Hid (w.heap.size ≤ (w.alloc (.cells #[] 5)).heap.size) := (alloc_below w _).size
    have heq : ∀ w, (binOp .eql 42 (.slice (some ad) n c) (.slice none 0 0)).run Try.prog w = .ok (.bool false) w := fun w => Lib.run_eql_slice_nil w 42 5 (some ad) n c 0 0 Try.underlying42
    clear hR
    go_enter Try.func67, Try.ntmps67
    go_wp2_with (at_builtin; refine append_row rfl (.tmp 5) (.tmp 6) rfl w.heap.size rfl HM.out rfl HR.out HN.out HS.out ?_; intro a4 n4 c4 w4 hn4 hO4 hB4; have HO4 : Hid (Own w4 w.heap.size a4 n4 c4 ([] ++ l)) := hO4; have HB4 : Hid (Below w.heap.size w w4) := (alloc_below w _).trans hB4; clear hn4 hO4 hB4)
    go_ret
    exact ⟨HB4.out, _, _, _, rfl, HO4.out⟩

theorem Bytes_pk (B p : Nat) (a : Option Addr) (n c : Nat) (l : List ByteArray) (w : World) (hP : Pk w B p a n c l) (hn : n ≤ 140737488355328) :
    Calls Try.prog 36 #[ptr p] w fun e w' => Makes w (pack l) e w' := by
  have hc := hP.cell
  have HC := Clone_any a n c (pack l) w hP.own.rd hn
  clear hP
  go_enter Try.func36, Try.ntmps36
  go_wp2_with fail
  refine HC.mono ?_
  rintro e w1 ⟨hb, a3, n3, c3, rfl, hO3⟩
  have HB : Hid (Below w.heap.size w w1) := hb
  have HO : Hid (Own w1 w.heap.size a3 n3 c3 (pack l)) := hO3
  clear hb hO3
  go_wp2
  go_ret
  exact ⟨HB.out, _, _, _, rfl, HO.out⟩
set_option maxRecDepth 100000 in
set_option maxHeartbeats 4000000 in
theorem Copy_any (B p : Nat) (a : Option Addr) (n c : Nat) (l : List ByteArray) (w : World) (hP : Pk w B p a n c l) (hn : n ≤ 140737488355328) :
    Calls Try.prog 58 #[ptr p] w fun e w' => MakesPk w l e w' := by
  have HP : Hid (Pk w B p a n c l) := hP
  have hd : w.drew.cell? ⟨p, 1, none⟩ = some (.int .i64 (l.length : Nat)) := (hP.keep (below_drewN w 1)).cnt
  have HC := Bytes_pk B p a n c l w.drew (hP.keep (below_drewN w 1)) hn
  clear hP
  go_enter Try.func58, Try.ntmps58
  go_wp2_with fail
  go_region_with (go_at_call 36; refine HC.mono ?_; rintro e w1 ⟨hb, a3, n3, c3, rfl, hO3⟩; have HB : Hid (Below w.heap.size w w1) := (below_drewN w 1).trans hb; have HO : Hid (Own w1 w.heap.size a3 n3 c3 (pack l)) := hO3; have hd1 := (HP.out.keep HB.out).cnt; clear hb hO3)
  all_goals
    go_wp2
    go_ret
    exact ⟨HB.out.trans ((alloc_below w1 _).mono HB.out.size), w1.heap.size, a3, n3, c3, rfl, heap_alloc_new w1 _, HB.out.size, HO.out.keep (alloc_below w1 _)⟩

set_option maxRecDepth 100000 in
set_option maxHeartbeats 4000000 in
theorem All_any (B p : Nat) (a : Option Addr) (n c : Nat) (ls : List ByteArray) (w : World) (hP : Pk w B p a n c ls) (hf : Fit ls) (hm : n ≤ 1000000) :
    Calls Try.prog 37 #[ptr p] w fun e w' => Below w.heap.size w w' ∧ ∃ a2 n2 c2, e = .returned (.slice a2 n2 c2) ∧ OwnS w' w.heap.size a2 n2 c2 ls := by
  obtain ⟨m, hM⟩ : ∃ m, ls.length = m := ⟨_, rfl⟩
  have HL : Hid ((pack ls).length = n) := hP.own.len
  have hmn : 2 * m ≤ n := by have := len_pack ls; have := hP.own.len; omega
  have HP : Hid (Pk w B p a n c ls) := hP
  have HF : Hid (Fit ls) := hf
  have HM : Hid (ls.length = m) := hM
  have HO : Hid (OwnS w w.heap.size none 0 0 (ls.take 0)) := World.ownsRow_nil w _ 9 1
  have HX0 : Hid (off ls 0 = 0) := rfl
  clear hP hf hM
  go_enter Try.func37, Try.ntmps37
  go_wp2
  go_loopg [3, 4] m (fun g lv av wr => ∃ k x : Nat, ∃ a2 n2 c2, k + g = m ∧ lv = .slice a2 n2 c2 ∧ av = .int .i64 x ∧ Hid (off ls k = x) ∧ Hid (OwnS wr w.heap.size a2 n2 c2 (ls.take k)) ∧ Hid (Pk wr B p a n c ls) ∧ Hid (Below w.heap.size w wr))
  case atStart => exact ⟨0, 0, none, 0, 0, by omega, rfl, rfl, HX0, HO, HP, Below.refl _ _⟩
  case round =>
    obtain ⟨k, x, a2, n2, c2, hk, rfl, rfl, HX, HO, HPr, HB⟩ := hrel
    have hc1 := HPr.out.cell
    by_cases hkm : k < m
    · have hil : k < ls.length := by have := HM.out; omega
      have h2 : (x : Int) < n := by have := off_lt ls hil; have := HL.out; have := HX.out; omega
      have HD : Hid (decAt (pack ls) (x : Nat) = some (lst (txt ls k), off ls (k + 1))) := by show _ = _; rw [← HX.out]; exact decAt_off HF.out hil
      have HC := Decode_any a n c (pack ls) x wr HPr.out.own.rd (by omega)
      rw [HD.out, cR_some, bs_lst] at HC
      obtain ⟨y, hy⟩ : ∃ y, off ls (k + 1) = y := ⟨_, rfl⟩
      rw [hy] at HC
      have HY : Hid (off ls (k + 1) = y) := hy
      have HT : Hid (ls.take k ++ [txt ls k] = ls.take (k + 1)) := (take_snocB ls k hil).symm
      generalize txt ls k = s at HC HT
      have HN : Hid (n2 + 1 ≤ 1000000) := by
        have := HO.out.len
        rw [List.length_take] at this
        show _ ≤ _
        omega
      clear hy HD
      go_wp2_with fail
      refine HC.mono ?_
      rintro e w1 ⟨hb, rfl⟩
      have HP1 : Hid (Pk w1 B p a n c ls) := HPr.out.keep hb
      have HB1 := step_below HB hb
      have HO1 : Hid (OwnS w1 w.heap.size a2 n2 c2 (ls.take k)) := HO.out.keep hb
      have hsz := HB1.out.size
      clear hb
      go_wp2_with (at_builtin; refine append_str rfl (.tmp 25) (.tmp 27) rfl w.heap.size rfl (HO1.out.keep (alloc_below w1 _)) rfl (by simp; rfl) HN.out (Nat.le_trans hsz (alloc_below w1 _).size) ?_; intro a3 n3 c3 w3 hn3 hO3 hB3; have HO3 : Hid (OwnS w3 w.heap.size a3 n3 c3 (ls.take (k + 1))) := (by rw [HT.out] at hO3; exact hO3); have HB3 : Hid (Below w.heap.size w w3) := (HB1.out.trans ((alloc_below w1 _).mono hsz)).trans hB3; clear hn3 hO3 hB3)
      have HP3 : Hid (Pk w3 B p a n c ls) := HP.out.keep HB3.out
      go_roundg (gk - 1)
      case measure => omega
      case rel => exact ⟨k + 1, y, _, _, _, by omega, rfl, rfl, HY, HO3, HP3, HB3⟩
    · have hkk : k = m := by omega
      subst hkk
      have h2 : ¬ ((x : Int) < n) := by
        have := off_all ls (i := k) (by have := HM.out; omega)
        have := HL.out
        have := HX.out
        omega
      have HE : Hid (ls.take k = ls) := List.take_of_length_le (by have := HM.out; omega)
      go_wp2
      go_ret
      exact ⟨HB.out, _, _, _, rfl, by rw [HE.out] at HO; exact HO.out⟩

theorem rev_snoc (ls : List ByteArray) (k : Nat) (h : k < ls.length) : (ls.reverse).take (k + 1) = (ls.reverse).take k ++ [txt ls (ls.length - 1 - k)] := by
  rw [List.take_add_one, List.getElem?_eq_getElem (by rw [List.length_reverse]; exact h), List.getElem_reverse]
  congr 1
  rw [txt, List.getD_eq_getElem?_getD, List.getElem?_eq_getElem (by omega)]; rfl

set_option maxRecDepth 100000 in
set_option maxHeartbeats 4000000 in
theorem Back_pk (B p : Nat) (a : Option Addr) (n c : Nat) (ls : List ByteArray) (w : World) (hP : Pk w B p a n c ls) (hf : Fit ls) (hm : n ≤ 1000000) :
    Calls Try.prog 38 #[ptr p] w fun e w' => Below w.heap.size w w' ∧ ∃ a2 n2 c2, e = .returned (.slice a2 n2 c2) ∧ OwnS w' w.heap.size a2 n2 c2 ls.reverse := by
  obtain ⟨m, hM⟩ : ∃ m, ls.length = m := ⟨_, rfl⟩
  have HL : Hid ((pack ls).length = n) := hP.own.len
  have hmn : 2 * m ≤ n := by have := len_pack ls; have := hP.own.len; omega
  have HP : Hid (Pk w B p a n c ls) := hP
  have HF : Hid (Fit ls) := hf
  have HM : Hid (ls.length = m) := hM
  have HO : Hid (OwnS w w.heap.size none 0 0 (ls.reverse.take 0)) := World.ownsRow_nil w _ 9 1
  have HX0 : Hid (off ls (m - 0) = n) := by show _ = _; rw [off_all ls (by omega)]; exact hP.own.len
  have hc0 := hP.cell
  clear hP hf hM
  go_enter Try.func38, Try.ntmps38
  go_wp2
  go_loopg [3, 4] m (fun g lv av wr => ∃ k x : Nat, ∃ a2 n2 c2, k + g = m ∧ lv = .slice a2 n2 c2 ∧ av = .int .i64 x ∧ Hid (off ls (m - k) = x) ∧ Hid (OwnS wr w.heap.size a2 n2 c2 (ls.reverse.take k)) ∧ Hid (Below w.heap.size w wr))
  case atStart => exact ⟨0, n, none, 0, 0, by omega, rfl, rfl, HX0, HO, Below.refl _ _⟩
  case round =>
    obtain ⟨k, x, a2, n2, c2, hk, rfl, rfl, HX, HO, HB⟩ := hrel
    have HPr : Hid (Pk wr B p a n c ls) := HP.out.keep HB.out
    have hc1 := HPr.out.cell
    by_cases hkm : k < m
    · have hil : m - k - 1 < ls.length := by have := HM.out; omega
      have h2 : (0 : Int) < x := by have := off_pos ls (i := m - k) (by omega) (by have := HM.out; omega); have := HX.out; omega
      have hxn : x ≤ n := by have := off_le ls (m - k); have := HL.out; have := HX.out; omega
      have HD : Hid (bkAt (pack ls) (x : Nat) = some ((off ls (m - k - 1) : Nat) : Int)) := by
        show _ = _
        rw [← HX.out]
        have := bkAt_off HF.out hil
        rw [show m - k - 1 + 1 = m - k by omega] at this
        exact this
      have HC := Back_any a n c (pack ls) x wr HPr.out.own.rd
      rw [HD.out, kR_some] at HC
      obtain ⟨y, hy⟩ : ∃ y, off ls (m - k - 1) = y := ⟨_, rfl⟩
      rw [hy] at HC
      have HY : Hid (off ls (m - (k + 1)) = y) := hy
      have hyn : y ≤ n := by have := off_le ls (m - k - 1); have := HL.out; omega
      have HD2 : Hid (decAt (pack ls) (y : Nat) = some (lst (txt ls (m - k - 1)), off ls (m - k - 1 + 1))) := by show _ = _; rw [← hy]; exact decAt_off HF.out hil
      have HT : Hid (ls.reverse.take k ++ [txt ls (m - k - 1)] = ls.reverse.take (k + 1)) := by
        have := rev_snoc ls k (by have := HM.out; omega)
        rw [HM.out, show m - 1 - k = m - k - 1 by omega] at this
        exact this.symm
      obtain ⟨q, hq⟩ : ∃ q, off ls (m - k - 1 + 1) = q := ⟨_, rfl⟩
      rw [hq] at HD2
      generalize txt ls (m - k - 1) = s at HD2 HT
      have HN : Hid (n2 + 1 ≤ 1000000) := by
        have := HO.out.len
        rw [List.length_take] at this
        show _ ≤ _
        omega
      clear hy HD hq
      go_wp2_with fail
      refine HC.mono ?_
      rintro e w0 ⟨hb, rfl⟩
      have HB0 := step_below HB hb
      have HP0 : Hid (Pk w0 B p a n c ls) := HP.out.keep HB0.out
      have HO0 : Hid (OwnS w0 w.heap.size a2 n2 c2 (ls.reverse.take k)) := HO.out.keep hb
      have HC2 := Decode_any a n c (pack ls) y w0 HP0.out.own.rd (by omega)
      rw [HD2.out, cR_some, bs_lst] at HC2
      have hc2 := HP0.out.cell
      clear hb HC
      go_wp2_with fail
      refine HC2.mono ?_
      rintro e w1 ⟨hb, rfl⟩
      have HB1 := step_below HB0 hb
      have HO1 : Hid (OwnS w1 w.heap.size a2 n2 c2 (ls.reverse.take k)) := HO0.out.keep hb
      have hsz := HB1.out.size
      clear hb
      go_wp2_with (at_builtin; refine append_str rfl (.tmp 36) (.tmp 38) rfl w.heap.size rfl (HO1.out.keep (alloc_below w1 _)) rfl (by simp; rfl) HN.out (Nat.le_trans hsz (alloc_below w1 _).size) ?_; intro a3 n3 c3 w3 hn3 hO3 hB3; have HO3 : Hid (OwnS w3 w.heap.size a3 n3 c3 (ls.reverse.take (k + 1))) := (by rw [HT.out] at hO3; exact hO3); have HB3 : Hid (Below w.heap.size w w3) := (HB1.out.trans ((alloc_below w1 _).mono hsz)).trans hB3; clear hn3 hO3 hB3)
      go_roundg (gk - 1)
      case measure => omega
      case rel => exact ⟨k + 1, y, _, _, _, by omega, rfl, rfl, HY, HO3, HB3⟩
    · have hkk : k = m := by omega
      subst hkk
      have hx0 : x = 0 := by have := HX.out; rw [Nat.sub_self, off_zero] at this; omega
      subst hx0
      have HE : Hid (ls.reverse.take k = ls.reverse) := List.take_of_length_le (by have := HM.out; rw [List.length_reverse]; omega)
      go_wp2
      go_ret
      exact ⟨HB.out, _, _, _, rfl, by rw [HE.out] at HO; exact HO.out⟩
end Go.Proofs.Ytemiajjjhhofaab
