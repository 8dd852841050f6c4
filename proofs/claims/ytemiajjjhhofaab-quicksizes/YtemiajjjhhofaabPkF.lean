/-
  From, the document's All, Find; lists that are the same; some of the chapter's runs.
-/
import Derived.Test.YtemiajjjhhofaabPkS
import Derived.Test.YtemiajjjhhofaabPk2
namespace Go.Proofs.Ytemiajjjhhofaab
open Go.RowKit Go.PlainAid

theorem split_cons (f : Nat) (l : List UInt8) (h : l ≠ []) : split (f + 1) l = match dec1 l with
    | none => none
    | some (s, k) => (split f (l.drop k)).map (bs s :: ·) := by
  cases l with
  | nil => exact absurd rfl h
  | cons x r => rfl
theorem split_nil (f : Nat) : split f [] = some [] := by cases f <;> rfl
theorem decAt_in (l : List UInt8) (x : Nat) (h : x < l.length) : decAt l (x : Nat) = (dec1 (l.drop x)).map fun p => (p.1, x + p.2) := by
  unfold decAt
  rw [if_neg (by omega)]; rfl
theorem drop_ne (l : List UInt8) (x : Nat) (h : x < l.length) : l.drop x ≠ [] := by
  intro e
  have := congrArg List.length e
  rw [List.length_drop] at this
  simp at this
  omega

theorem From_full (a : Option Addr) (n c : Nat) (w : World) (hn : 65536 < n) (hm : n ≤ maxLen) :
    Calls Try.prog 42 #[.slice a n c] w fun e w' => e = .returned (.tuple #[.pointer none, .int .i64 23]) ∧ w' = w := by
  unfold maxLen at hm
  have h1 : (65536 : Int) < n := by omega
  go_enter Try.func42, Try.ntmps42
  go_wp2
  go_ret2
  exact ⟨rfl, rfl⟩

set_option maxRecDepth 100000 in
set_option maxHeartbeats 400000 in
theorem From_any (a : Option Addr) (n c : Nat) (l : List UInt8) (w : World) (hR : Rd w a n c l) (hn : n ≤ 65536) (b : Bool) (hb : (split n l).isSome = b) :
    Calls Try.prog 42 #[.slice a n c] w fun e w' => Below w.heap.size w w' ∧ (b = true → ∃ p a2 n2 c2 ls, e = .returned (.tuple #[ptr p, .int .i64 0]) ∧ split n l = some ls ∧ Pk w' w.heap.size p a2 n2 c2 ls) ∧ (b = false → e = .returned (.tuple #[.pointer none, .int .i64 24])) := by
  have HL : Hid (l.length = n) := hR.len
  have HR : Hid (Rd w a n c l) := hR
  have HS : Hid ((split n (l.drop 0)).isSome = b) := hb
  have HW : Hid (split n l = (split n (l.drop 0)).map ([] ++ ·)) := by show _ = _; simp
  have HPk : Hid (∀ ls, split n l = some ls → pack ls = l) := fun ls h => (split_some n l ls h).1
  have HM : Hid (∀ ls, split n l = some ls → 2 * ls.length ≤ n) := fun ls h => by have h1 := len_pack ls; rw [(split_some n l ls h).1, hR.len] at h1; exact h1
  clear hR hb
  go_enter Try.func42, Try.ntmps42
  go_wp2
  go_loopg [4, 5] n (fun g cv av wr => ∃ x : Nat, ∃ pre : List ByteArray, cv = .int .i64 (pre.length : Nat) ∧ av = .int .i64 x ∧ 2 * pre.length ≤ x ∧ n ≤ x + g ∧ x ≤ n ∧ Hid (split n l = (split g (l.drop x)).map (pre ++ ·)) ∧ Hid ((split g (l.drop x)).isSome = b) ∧ Hid (Below w.heap.size w wr))
  case atStart => exact ⟨0, [], rfl, rfl, by simp, by omega, by omega, HW, HS, Below.refl _ _⟩
  case round =>
    obtain ⟨x, pre, rfl, rfl, hpx, hx1, hx2, HW, HS, HB⟩ := hrel
    by_cases hx : (x : Int) < n
    · have hxl : x < l.length := by have := HL.out; omega
      obtain ⟨gp, hgp⟩ : ∃ gp, gk = gp + 1 := ⟨gk - 1, by omega⟩
      have HC := Decode_any a n c l x wr (HR.out.keep HB.out) (by omega)
      rw [decAt_in l x hxl] at HC
      have hsp := HS.out
      rw [hgp, split_cons _ _ (drop_ne l x hxl)] at hsp
      cases hd : dec1 (l.drop x) with
      | none =>
        rw [hd, Option.map_none, cR_none] at HC
        rw [hd] at hsp
        have HBf : Hid (b = false) := hsp.symm
        clear hsp hd hxl
        go_wp2_with fail
        refine HC.mono ?_
        rintro e w1 ⟨hb, rfl⟩
        have HB1 := step_below HB hb
        clear hb
        go_wp2
        go_ret2
        exact ⟨HB1.out, fun h => absurd (h.symm.trans HBf.out) (by decide), fun _ => rfl⟩
      | some q =>
        obtain ⟨s, k⟩ := q
        rw [hd, Option.map_some, cR_some] at HC
        rw [hd] at hsp
        dsimp only at hsp
        have hkl := (dec1_len hd).1
        have hk2 := (dec1_pos hd).1
        have hk3 := (enc_len s).1
        rw [List.length_drop] at hkl
        obtain ⟨y, hy⟩ : ∃ y, x + k = y := ⟨_, rfl⟩
        rw [hy] at HC
        have HS2 : Hid ((split gp (l.drop y)).isSome = b) := by
          show _ = _
          rw [← hsp, ← hy, List.drop_drop]
          simp only [Option.isSome_map]
        have HW2 : Hid (split n l = (split gp (l.drop y)).map ((pre ++ [bs s]) ++ ·)) := by
          show _ = _
          rw [HW.out, hgp, split_cons _ _ (drop_ne l x hxl), hd]
          simp only [Option.map_map, ← hy, List.drop_drop]
          congr 1
          funext t
          simp
        have hpy : 2 * (pre ++ [bs s]).length ≤ y := by rw [List.length_append]; show 2 * (_ + 1) ≤ _; omega
        have hpl : (pre ++ [bs s]).length = pre.length + 1 := by rw [List.length_append]; rfl
        have hyn : y ≤ n := by have := HL.out; omega
        have hyg : n ≤ y + gp := by omega
        generalize pre ++ [bs s] = pre2 at HW2 hpy hpl
        obtain ⟨pl, hpl2⟩ : ∃ pl, pre.length = pl := ⟨_, rfl⟩
        rw [hpl2] at hpl hpx ⊢
        have hgpk : gk - 1 = gp := by omega
        clear hsp hd hxl hy hkl hk2 hk3
        go_wp2_with fail
        refine HC.mono ?_
        rintro e w1 ⟨hb, rfl⟩
        have HB1 := step_below HB hb
        clear hb
        go_wp2
        go_roundg gp
        case measure => omega
        case rel => exact ⟨y, pre2, by rw [hpl]; go_num, rfl, hpy, hyg, hyn, HW2, HS2, HB1⟩
    · have hxe : l.drop x = [] := List.drop_eq_nil_of_le (by have := HL.out; omega)
      have HBt : Hid (b = true) := by
        have := HS.out
        rw [hxe, split_nil] at this
        exact this.symm
      have HC := Clone_any a n c l wr (HR.out.keep HB.out) (by omega)
      have HE : Hid (split n l = some pre) := by show _ = _; rw [HW.out, hxe, split_nil]; simp
      have HPe : Hid (pack pre = l) := HPk.out pre HE.out
      clear hxe
      go_wp2_with fail
      refine HC.mono ?_
      rintro e w1 ⟨hb, a3, n3, c3, rfl, hO3⟩
      have HB1 := step_below HB hb
      have HO : Hid (Own w1 w.heap.size a3 n3 c3 (pack pre)) := by rw [HPe.out]; exact hO3.low HB.out.size
      clear hb hO3
      go_wp2
      go_ret2
      exact ⟨HB1.out.trans ((alloc_below w1 _).mono HB1.out.size), fun _ => ⟨w1.heap.size, a3, n3, c3, pre, rfl, HE.out, heap_alloc_new w1 _, HB1.out.size, HO.out.keep (alloc_below w1 _)⟩, fun h => absurd (h.symm.trans HBt.out) (by decide)⟩

/-- The first place from i on, going by step, that has s. -/
def fnd (ls : List ByteArray) (s : ByteArray) (step : Nat) : Nat → Nat → Int
  | 0, _ => -1
  | f + 1, i => if i < ls.length then (if txt ls i = s then (i : Int) else fnd ls s step f (i + step)) else -1
theorem fnd_stop (ls : List ByteArray) (s : ByteArray) (step f i : Nat) (h : ls.length ≤ i) : fnd ls s step f i = -1 := by
  cases f with
  | zero => rfl
  | succ f => rw [fnd, if_neg (by omega)]
theorem str_beq (s t : ByteArray) : (s.toList == t.toList) = decide (s = t) := by
  rw [toList_beq]
theorem str_bne (s t : ByteArray) : (s.toList != t.toList) = decide (¬ s = t) := by
  simp [bne, str_beq]

theorem Find_no (p : Nat) (s : ByteArray) (fr step : Int) (w : World) (h : fr < 0 ∨ step < 1) :
    Calls Try.prog 72 #[ptr p, .string s, .int .i64 fr, .int .i64 step] w fun e w' => e = .returned (.int .i64 (-1)) ∧ w' = w := by
  by_cases h1 : fr < 0
  · go_enter Try.func72, Try.ntmps72
    go_wp2
    go_ret
    exact ⟨rfl, rfl⟩
  · have h2 : step < 1 := by omega
    go_enter Try.func72, Try.ntmps72
    go_wp2
    go_ret
    exact ⟨rfl, rfl⟩

set_option maxRecDepth 100000 in
set_option maxHeartbeats 400000 in
theorem Find_any (B p : Nat) (a : Option Addr) (n c : Nat) (ls : List ByteArray) (s : ByteArray) (fr step : Nat) (w : World) (hP : Pk w B p a n c ls) (hf : Fit ls) (hn : n ≤ 65536) (h1 : 0 < step) (h2 : step ≤ 1000) (hfr : fr ≤ 9223372036854770000) :
    Calls Try.prog 72 #[ptr p, .string s, .int .i64 fr, .int .i64 step] w fun e w' => Below w.heap.size w w' ∧ e = .returned (.int .i64 (fnd ls s step ls.length fr)) := by
  obtain ⟨m, hM⟩ : ∃ m, ls.length = m := ⟨_, rfl⟩
  have HL : Hid ((pack ls).length = n) := hP.own.len
  have hmn : 2 * m ≤ n := by have := len_pack ls; have := hP.own.len; omega
  have HP : Hid (Pk w B p a n c ls) := hP
  have HF : Hid (Fit ls) := hf
  have HM : Hid (ls.length = m) := hM
  have HW := skip_any B p a n c ls 0 fr w hP hf (Nat.zero_le _) (by omega) (by omega)
  have hg0 : gone ls 0 (fr : Int) = min fr m := by unfold gone; omega
  rw [Nat.zero_add, off_zero, hg0] at HW
  obtain ⟨x0, hx0⟩ : ∃ x0, off ls (min fr m) = x0 := ⟨_, rfl⟩
  rw [hx0] at HW
  have HX0 : Hid (off ls (min fr m) = x0) := hx0
  obtain ⟨R, hR⟩ : ∃ R, fnd ls s step ls.length fr = R := ⟨_, rfl⟩
  have HR : Hid (fnd ls s step m fr = R) := by show _ = _; rw [← hM]; exact hR
  rw [hR]
  have h3 : ¬ ((step : Int) < 1) := by omega
  clear hP hf hM hx0 hg0 hR
  go_enter Try.func72, Try.ntmps72
  go_wp2_with fail
  refine HW.mono ?_
  rintro e w1 ⟨hb, rfl⟩
  have HB : Hid (Below w.heap.size w w1) := hb
  clear hb
  go_wp2
  go_loopg [9, 10] m (fun g av iv wr => ∃ i x : Nat, av = .int .i64 x ∧ iv = .int .i64 i ∧ m ≤ i + g ∧ Hid (fnd ls s step g i = R) ∧ Hid (off ls (min i m) = x) ∧ Hid (Below w.heap.size w wr))
  case atStart => exact ⟨fr, x0, rfl, rfl, by omega, HR, HX0, HB⟩
  case round =>
    obtain ⟨i, x, rfl, rfl, hig, HR, HX, HB⟩ := hrel
    have HPr : Hid (Pk wr B p a n c ls) := HP.out.keep HB.out
    have hc1 := HPr.out.cell
    by_cases him : i < m
    · have hil : i < ls.length := by have := HM.out; omega
      have hxe : off ls i = x := by have := HX.out; rw [Nat.min_eq_left (by omega)] at this; exact this
      have hx2 : (x : Int) < n := by have := off_lt ls hil; have := HL.out; omega
      obtain ⟨gp, hgp⟩ : ∃ gp, gk = gp + 1 := ⟨gk - 1, by omega⟩
      have HD : Hid (decAt (pack ls) (x : Nat) = some (lst (txt ls i), off ls (i + 1))) := by show _ = _; rw [← hxe]; exact decAt_off HF.out hil
      have HC := Decode_any a n c (pack ls) x wr HPr.out.own.rd (by omega)
      rw [HD.out, cR_some, bs_lst] at HC
      have hsp := HR.out
      rw [hgp, fnd, if_pos hil] at hsp
      have HK := fun (w1 : World) (h : Pk w1 B p a n c ls) => skip_any B p a n c ls (i + 1) ((step : Int) - 1) w1 h HF.out (by omega) (by omega) (by omega)
      have hgn : i + 1 + gone ls (i + 1) ((step : Int) - 1) = min (i + step) m := by have := HM.out; unfold gone; omega
      rw [hgn] at HK
      obtain ⟨y, hy⟩ : ∃ y, off ls (i + 1) = y := ⟨_, rfl⟩
      rw [hy] at HC HK
      obtain ⟨z, hz⟩ : ∃ z, off ls (min (i + step) m) = z := ⟨_, rfl⟩
      rw [hz] at HK
      have HZ : Hid (off ls (min (i + step) m) = z) := hz
      obtain ⟨s1, hs1⟩ : ∃ s1, step - 1 = s1 := ⟨_, rfl⟩
      have hs2 : (step : Int) - 1 = s1 := by omega
      rw [hs2] at HK
      have hb2 := str_beq (txt ls i) s
      generalize txt ls i = t at HC hsp hb2
      by_cases hts : t = s
      · rw [if_pos hts] at hsp
        have hb3 : (t.toList == s.toList) = true := by rw [hb2]; simpa using hts
        have HRR : Hid ((i : Int) = R) := hsp
        clear hsp hb2 hxe hy hz HD HK hgn hts
        go_wp2_with fail
        refine HC.mono ?_
        rintro e w2 ⟨hb, rfl⟩
        have HB2 := step_below HB hb
        clear hb
        go_wp2
        go_ret
        exact ⟨HB2.out, by rw [← HRR.out]; rfl⟩
      · rw [if_neg hts] at hsp
        have hb3 : (t.toList == s.toList) = false := by rw [hb2]; simpa using hts
        have HRR : Hid (fnd ls s step gp (i + step) = R) := hsp
        have hgi : m ≤ i + step + gp := by omega
        clear hsp hb2 hxe hy hz HD hgn hts
        go_wp2_with fail
        refine HC.mono ?_
        rintro e w2 ⟨hb, rfl⟩
        have HB2 := step_below HB hb
        have HK2 := HK w2 (HP.out.keep HB2.out)
        clear hb
        go_wp2_with fail
        refine HK2.mono ?_
        rintro e w3 ⟨hb, rfl⟩
        have HB3 := step_below HB2 hb
        clear hb
        go_wp2
        go_roundg gp
        case measure => omega
        case rel => exact ⟨i + step, z, rfl, by go_num, hgi, HRR, HZ, HB3⟩
    · have hx2 : ¬ ((x : Int) < n) := by
        have h5 := HX.out
        rw [Nat.min_eq_right (by omega), off_all ls (by have := HM.out; omega)] at h5
        have := HL.out
        omega
      have HRR : Hid (R = -1) := by
        have := HR.out
        rw [fnd_stop _ _ _ _ _ (by have := HM.out; omega)] at this
        exact this.symm
      go_wp2
      go_ret
      exact ⟨HB.out, by rw [HRR.out]; rfl⟩

set_option maxRecDepth 100000 in
set_option maxHeartbeats 400000 in
theorem Lists_any (a a' : Option Addr) (n c c' : Nat) (ls : List ByteArray) (w : World) (h : RdS w a n ls) (h' : RdS w a' n ls) :
    Calls Try.prog 23 #[.slice a n c, .slice a' n c'] w fun e w' => Below w.heap.size w w' ∧ e = .returned (.bool true) := by
  have hn : n ≤ 9223372036854775807 := h.max
  have H1 : Hid (RdS w a n ls) := h
  have H2 : Hid (RdS w a' n ls) := h'
  clear h h'
  go_enter Try.func23, Try.ntmps23
  go_wp2
  go_loopg [5] n (fun g iv wr => ∃ i : Nat, i + g = n ∧ iv = .int .i64 i ∧ Hid (Below w.heap.size w wr))
  case atStart => exact ⟨0, by omega, rfl, Below.refl _ _⟩
  case round =>
    obtain ⟨i, hi, rfl, HB⟩ := hrel
    by_cases hin : (i : Int) < n
    · obtain ⟨b, off, ha, hc⟩ := (H1.out.keep HB.out).cell i (by omega)
      obtain ⟨b', off', ha', hc'⟩ := (H2.out.keep HB.out).cell i (by omega)
      subst ha ha'
      have hb2 := str_bne (ls.getD i ByteArray.empty) (ls.getD i ByteArray.empty)
      rw [show decide (¬ ls.getD i ByteArray.empty = ls.getD i ByteArray.empty) = false by simp] at hb2
      generalize ls.getD i ByteArray.empty = s at hc hc' hb2
      go_wp2_with fail
      go_quiet (fail)
      have HB2 : Hid (Below w.heap.size w (wr.drewN nq)) := HB.out.trans ((below_drewN wr nq).mono HB.out.size)
      generalize wr.drewN nq = W at *
      go_wp2
      go_roundg (gk - 1)
      case measure => omega
      case rel => exact ⟨i + 1, by omega, by go_num, HB2⟩
    · go_wp2
      go_ret
      exact ⟨HB.out, rfl⟩
end Go.Proofs.Ytemiajjjhhofaab
