/-
  The program's words: all of a line.
-/
import Derived.Test.YtkoepgjdjbmknaaRc
namespace Go.Proofs.Ytkoepgjdjbmknaa
open Go.RowKit Go.PlainAid

/-- What Words leaves. -/
def WordsR (w w' : World) (o : Option (List (List UInt8))) (e : Ending) : Prop :=
  match o with
  | some ws => ∃ a n c, e = .returned (.tuple #[.slice a n c, .bool true]) ∧ OwnS w' w.heap.size a n c (ws.map bs)
  | none => e = .returned (.tuple #[.slice none 0 0, .bool false])
/-- No more than 256. -/
def few256 (o : Option (List (List UInt8))) : Option (List (List UInt8)) :=
  match o with
  | some ws => if 256 < ws.length then none else some ws
  | none => none
theorem wordsL_few (l : List UInt8) : wordsL l = few256 (wds (l.length + 1) [] l) := rfl

theorem wds_len (f : Nat) : ∀ (acc : List (List UInt8)) (l : List UInt8) (ws : List (List UInt8)), wds f acc l = some ws → acc.length ≤ ws.length := by
  induction f with
  | zero => intro acc l ws h; rw [wds] at h; cases h; exact Nat.le_refl _
  | succ f ih =>
    intro acc l ws h
    rw [wds] at h
    split at h
    · cases h; exact Nat.le_refl _
    · split at h
      · have := ih _ _ _ h
        simp at this; omega
      · cases h
theorem wrd_len {l : List UInt8} : ∀ {acc x s : List UInt8}, wrd acc l = some (x, s) → s.length ≤ l.length := by
  induction l with
  | nil => intro acc x s h; rw [wrd] at h; cases h; exact Nat.le_refl _
  | cons b r ih =>
    intro acc x s h
    rw [wrd] at h
    split at h
    · cases h; exact Nat.le_refl _
    · split at h
      · split at h
        · rename_i hq
          split at h
          · cases h
            have := quo_len hq
            simp at this ⊢; omega
          · cases h
        · cases h
      · have := ih h
        simp; omega
theorem wrd_lt {b : UInt8} {r acc x s : List UInt8} (hb : blk b = false) (h : wrd acc (b :: r) = some (x, s)) : s.length < (b :: r).length := by
  by_cases h1 : b = 34 ∨ b = 39
  · cases hq : quo b [] r with
    | none => rw [wrd_none hb h1 hq] at h; cases h
    | some o =>
      obtain ⟨p, t⟩ := o
      rw [wrd_some hb h1 hq] at h
      have := quo_len hq
      split at h
      · cases h; simp at this ⊢; omega
      · cases h
  · rw [wrd_push hb h1] at h
    have := wrd_len h
    simp; omega
theorem drop_len (l : List UInt8) : (l.dropWhile blk).length ≤ l.length := by
  induction l with
  | nil => simp
  | cons b r ih =>
    rw [List.dropWhile_cons]
    split
    · simp; omega
    · exact Nat.le_refl _
theorem drop_head {l r : List UInt8} {b : UInt8} (h : l.dropWhile blk = b :: r) : blk b = false := by
  induction l with
  | nil => cases h
  | cons c l ih =>
    rw [List.dropWhile_cons] at h
    split at h
    · exact ih h
    · rename_i hc
      cases h
      simpa using hc
theorem wds_done {f : Nat} {acc : List (List UInt8)} {l : List UInt8} (h : l.dropWhile blk = []) : wds (f + 1) acc l = some acc := by rw [wds, h]
theorem wds_bad {f : Nat} {acc : List (List UInt8)} {l r : List UInt8} {b : UInt8} (h : l.dropWhile blk = b :: r) (h1 : wrd [] (b :: r) = none) : wds (f + 1) acc l = none := by rw [wds, h]; simp only; rw [h1]
theorem wds_step {f : Nat} {acc : List (List UInt8)} {l r x s : List UInt8} {b : UInt8} (h : l.dropWhile blk = b :: r) (h1 : wrd [] (b :: r) = some (x, s)) : wds (f + 1) acc l = wds f (acc ++ [x]) s := by rw [wds, h]; simp only; rw [h1]

set_option maxHeartbeats 2000000 in
theorem Words_any (s : ByteArray) (w : World) (hs : s.size ≤ 1000000) :
    Calls Try.prog 20 #[.string s] w fun e w' => Below w.heap.size w w' ∧ WordsR w w' (wordsL (lst s)) e := by
  rw [wordsL_few, len_lst]
  obtain ⟨R, hR⟩ : ∃ R, few256 (wds (s.size + 1) [] (lst s)) = R := ⟨_, rfl⟩
  rw [hR]
  have HR : Hid (few256 (wds (s.size + 1) [] (lst s)) = R) := hR
  clear hR
  have HO : Hid (OwnS w w.heap.size none 0 0 []) := World.ownsRow_nil w _ 9 1
  go_enter Try.func20, Try.ntmps20
  go_wp2
  go_loopg [0, 4] (s.size + 1) (fun g sv wv wr => ∃ (t : ByteArray) (a : Option Addr) (n c : Nat) (acc : List (List UInt8)), sv = .string t ∧ wv = .slice a n c ∧ Hid (t.size < g) ∧ Hid (t.size ≤ 1000000) ∧ Hid (OwnS wr w.heap.size a n c (acc.map bs)) ∧ Hid (acc.length ≤ 256) ∧ Hid (Below w.heap.size w wr) ∧ Hid (few256 (wds g acc (lst t)) = R))
  case atStart => exact ⟨s, none, 0, 0, [], rfl, rfl, Nat.lt_succ_self _, hs, HO, Nat.zero_le _, Below.refl _ _, HR⟩
  case round =>
    obtain ⟨t, a, n, c, acc, rfl, rfl, HT, HT2, HO1, HA, HB, H⟩ := hrel
    obtain ⟨f, rfl⟩ : ∃ f, gk = f + 1 := ⟨gk - 1, by have := HT.out; omega⟩
    have hn : n = acc.length := by have := HO1.out.len; rw [List.length_map] at this; exact this.symm
    have HPB := fun w => passBlanks_any t w (by have := HT2.out; unfold maxLen; omega)
    have HDL := drop_len (lst t)
    clear HO
    cases hd : (lst t).dropWhile blk with
    | nil =>
      have HN : Hid (R = some acc) := by
        show _ = _
        rw [← H.out, wds_done hd]
        unfold few256
        simp only
        rw [if_neg (by have := HA.out; omega)]
      rw [hd] at HPB
      clear hd HDL hn
      obtain ⟨tb, htb⟩ : ∃ tb, bs [] = tb := ⟨_, rfl⟩
      have he : tb.toList.isEmpty = true := emp_yes (by rw [← htb]; decide)
      go_wp2_with (go_at_call 27; refine (HPB _).mono ?_; rintro e wr ⟨rfl, rfl⟩)
      go_ret2
      refine ⟨HB.out, ?_⟩
      rw [HN.out]
      exact ⟨_, _, _, rfl, HO1.out⟩
    | cons b r =>
      rw [hd] at HPB HDL
      have HBK : Hid (blk b = false) := drop_head hd
      obtain ⟨tb, htb⟩ : ∃ tb, bs (b :: r) = tb := ⟨_, rfl⟩
      have hl : lst tb = b :: r := by rw [← htb]; rfl
      have hts : 0 < tb.size := by rw [← htb, size_bs]; simp
      have htz : tb.size ≤ t.size := by rw [← htb, size_bs]; rw [len_lst] at HDL; exact HDL
      have he : tb.toList.isEmpty = false := emp_no hts
      have HCW := fun w => cutWord_any tb w (by have := HT2.out; omega)
      rw [hl] at HCW
      have HTZ : Hid (tb.size ≤ t.size) := htz
      have HRL : Hid ((b :: r).length = tb.size) := by show _ = _; rw [← hl, len_lst]
      clear hts htz HDL
      cases ho : wrd [] (b :: r) with
      | none =>
        have HN : Hid (R = none) := by
          show _ = _
          rw [← H.out, wds_bad hd ho]
          rfl
        rw [ho] at HCW
        clear hd ho hl hn
        go_wp2_with (first
          | (go_at_call 27; refine (HPB _).mono ?_; rintro e wr ⟨rfl, rfl⟩)
          | (go_at_call 28; refine (HCW _).mono ?_; rintro e w1 ⟨hB1, hQ1⟩; have hQ2 : e = _ := hQ1; subst hQ2; clear hQ1; have HB1 : Hid (Below w.heap.size w w1) := HB.out.trans (hB1.mono HB.out.size); clear hB1))
        go_ret2
        refine ⟨HB1.out, ?_⟩
        rw [HN.out]
        rfl
      | some o =>
        obtain ⟨x, s2⟩ := o
        have HLT : Hid (s2.length < tb.size) := by have := wrd_lt HBK.out ho; rw [HRL.out] at this; exact this
        have HW : Hid (few256 (wds f (acc ++ [x]) s2) = R) := by
          show _ = _
          rw [← H.out, wds_step hd ho]
        rw [ho] at HCW
        clear hd ho hl
        by_cases h256 : acc.length = 256
        · have HN : Hid (R = none) := by
            show _ = _
            rw [← HW.out]
            cases hw : wds f (acc ++ [x]) s2 with
            | none => rfl
            | some ws =>
              have := wds_len _ _ _ _ hw
              unfold few256
              simp only
              rw [if_pos (by simp at this; omega)]
          have hn2 : n = 256 := by omega
          clear h256 hn
          subst hn2
          go_wp2_with (first
            | (go_at_call 27; refine (HPB _).mono ?_; rintro e wr ⟨rfl, rfl⟩)
            | (go_at_call 28; refine (HCW _).mono ?_; rintro e w1 ⟨hB1, hQ1⟩; have hQ2 : e = _ := hQ1; subst hQ2; clear hQ1; have HB1 : Hid (Below w.heap.size w w1) := HB.out.trans (hB1.mono HB.out.size); clear hB1))
          go_ret2
          refine ⟨HB1.out, ?_⟩
          rw [HN.out]
          rfl
        · have hnf : ((n : Int) == 256) = false := by simp; omega
          have HA2 : Hid (acc.length + 1 ≤ 256) := by have := HA.out; show _ ≤ _; omega
          have HM : Hid (n + 1 ≤ 1000000) := by have := HA2.out; show _ ≤ _; omega
          clear h256 hn
          go_wp2_with (first
            | (go_at_call 27; refine (HPB _).mono ?_; rintro e wr ⟨rfl, rfl⟩)
            | (go_at_call 28; refine (HCW _).mono ?_; rintro e w1 ⟨hB1, hQ1⟩; have hQ2 : e = _ := hQ1; subst hQ2; clear hQ1; have HO3 : Hid (OwnS w1 w.heap.size a n c (acc.map bs)) := HO1.out.keep hB1; have HB1 : Hid (Below w.heap.size w w1) := HB.out.trans (hB1.mono HB.out.size); have HS1 : Hid (w.heap.size ≤ w1.heap.size) := HB1.out.size; clear hB1)
            | (at_builtin; refine append_str rfl (.tmp 26) (.tmp 28) rfl w.heap.size rfl (HO3.out.keep (alloc_below w1 _)) rfl (by simp; rfl) HM.out (Nat.le_trans HS1.out (alloc_below w1 _).size) ?_; intro a3 n3 c3 w3 hn3 hO3 hB3; have HO4 : Hid (OwnS w3 w.heap.size a3 n3 c3 ((acc ++ [x]).map bs)) := (by rw [List.map_append]; exact hO3); have HB3 : Hid (Below w.heap.size w w3) := (HB1.out.trans ((alloc_below w1 _).mono HS1.out)).trans hB3; clear hn3 hO3 hB3))
          go_roundg f
          case measure => omega
          case rel => exact ⟨bs s2, _, _, _, acc ++ [x], rfl, rfl, by have h1 := HLT.out; have h2 := HTZ.out; have h3 := HT.out; show _ < _; rw [size_bs]; omega, by have h1 := HLT.out; have h2 := HTZ.out; have h3 := HT2.out; show _ ≤ _; rw [size_bs]; omega, HO4, by have := HA2.out; show _ ≤ _; simp; omega, HB3, HW⟩
end Go.Proofs.Ytkoepgjdjbmknaa
