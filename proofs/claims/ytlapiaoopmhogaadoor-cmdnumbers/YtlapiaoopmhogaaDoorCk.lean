/-
  What a request is refused for: the program's way.
-/
import Derived.Test.YtlapiaoopmhogaaDoorLk
import Derived.Test.YtlapiaoopmhogaaDoorVh
import Derived.Test.YtlapiaoopmhogaaDoorXFault
namespace Go.Proofs.YtlapiaoopmhogaaDoor
open Go.RowKit Go.PlainAid

def msetS : ByteArray := ⟨#[109, 115, 101, 116]⟩
def hsetS : ByteArray := ⟨#[104, 115, 101, 116]⟩
def pairsB (nm : ByteArray) (n : Nat) : Bool := if nm = msetS then decide (n % 2 = 1) else if nm = hsetS then decide (n % 2 = 0) else true
def takesB (c : Cm) (n : Nat) : Bool := decide (c.lo ≤ n) && (decide ((n : Int) ≤ c.hi) && pairsB c.nm n)
def longB (ls : List ByteArray) : Bool := ls.any fun s => decide (4096 < s.size)
/-- What errors call it. -/
def nameP : List ByteArray → ByteArray
  | [] => ⟨#[]⟩
  | s :: _ => low (cutB s 64)
def whyOf (o : Option Cm) (n : Nat) (long : Bool) : Int := match o with
  | none => 3
  | some c => if takesB c n = true then (if long = true then 11 else 0) else 2
def cmdP (ls : List ByteArray) : Option Cm := fnd progs (nameP ls)
def whyP (ls : List ByteArray) : Int := whyOf (cmdP ls) ls.length (longB ls)
def cP (ls : List ByteArray) : Cm := if whyP ls = 0 then cmOf (cmdP ls) else Cm.z

theorem lowB_low (x : UInt8) : lowB (lowB x) = lowB x := by
  by_cases h : 65 ≤ x.toNat ∧ x.toNat ≤ 90
  · have h1 := lowB_yes x h.1 h.2
    exact lowB_no _ (by omega)
  · rw [lowB_no x h, lowB_no x h]
theorem low_low (s : ByteArray) : low (low s) = low s := by
  rw [low, low, lst_bs, List.map_map]
  congr 1
  exact List.map_congr_left fun x _ => lowB_low x
theorem low_nameP (ls : List ByteArray) : low (nameP ls) = nameP ls := by
  cases ls with
  | nil => rfl
  | cons s l => exact low_low _
theorem nameP_size (ls : List ByteArray) : (nameP ls).size ≤ 64 := by
  cases ls with
  | nil => decide
  | cons s l => rw [nameP, low_size]; have := size_cutB s 64 (by omega); omega
theorem mod2 (n : Nat) : (n : Int) % 2 = ((n % 2 : Nat) : Int) := by omega
theorem eq_lit (nm : ByteArray) (l : List UInt8) : (nm.toList == l) = decide (nm = bs l) := by
  have e : (bs l).toList = l := by rw [ByteArray.toList_eq]; simp [bs]
  rw [← e, toList_beq, e]

set_option maxRecDepth 100000 in
theorem inPairs_any (nm : ByteArray) (n : Nat) (w : World) : Calls Tryd.prog 45 #[.string nm, .int .i64 n] w fun e w' => e = .returned (.bool (pairsB nm n)) ∧ w' = w := by
  have HM := mod2 n
  have h1 : (nm.toList == [109, 115, 101, 116]) = decide (nm = msetS) := eq_lit _ _
  have h2 : (nm.toList == [104, 115, 101, 116]) = decide (nm = hsetS) := eq_lit _ _
  have HP : Hid (pairsB nm n = if nm = msetS then decide (n % 2 = 1) else if nm = hsetS then decide (n % 2 = 0) else true) := rfl
  by_cases e1 : nm = msetS
  · rw [decide_eq_true e1] at h1
    have HQ : Hid (pairsB nm n = decide (n % 2 = 1)) := by show _ = _; rw [HP.out, if_pos e1]
    clear e1 h2 HP
    rcases Nat.mod_two_eq_zero_or_one n with h | h
    all_goals
      rw [h] at HM HQ
      clear h
      go_enter Tryd.func45, Tryd.ntmps45
      go_wp2
      go_ret
      exact ⟨by rw [HQ.out]; rfl, rfl⟩
  · rw [decide_eq_false e1] at h1
    by_cases e2 : nm = hsetS
    · rw [decide_eq_true e2] at h2
      have HQ : Hid (pairsB nm n = decide (n % 2 = 0)) := by show _ = _; rw [HP.out, if_neg e1, if_pos e2]
      clear e1 e2 HP
      rcases Nat.mod_two_eq_zero_or_one n with h | h
      all_goals
        rw [h] at HM HQ
        clear h
        go_enter Tryd.func45, Tryd.ntmps45
        go_wp2
        go_ret
        exact ⟨by rw [HQ.out]; rfl, rfl⟩
    · rw [decide_eq_false e2] at h2
      have HQ : Hid (pairsB nm n = true) := by show _ = _; rw [HP.out, if_neg e1, if_neg e2]
      clear e1 e2 HP
      go_enter Tryd.func45, Tryd.ntmps45
      go_wp2
      go_ret
      exact ⟨by rw [HQ.out]; rfl, rfl⟩

set_option maxRecDepth 100000 in
theorem takes_any (c : Cm) (n : Nat) (w : World) : Calls Tryd.prog 32 #[c.v, .int .i64 n] w fun e w' => e = .returned (.bool (takesB c n)) ∧ Below w.heap.size w w' := by
  obtain ⟨nm, lo, hi, wb, gr⟩ := c
  have HT : Hid (takesB ⟨nm, lo, hi, wb, gr⟩ n = (decide (lo ≤ n) && (decide ((n : Int) ≤ hi) && pairsB nm n))) := rfl
  have HI := fun w => inPairs_any nm n w
  show Calls Tryd.prog 32 #[.agg #[.string nm, .int .i64 lo, .int .i64 hi, .bool wb, .int .i64 gr], .int .i64 n] w _
  by_cases h1 : lo ≤ n
  · by_cases h2 : (n : Int) ≤ hi
    · have HQ : Hid (takesB ⟨nm, lo, hi, wb, gr⟩ n = pairsB nm n) := by show _ = _; rw [HT.out, decide_eq_true h1, decide_eq_true h2]; rfl
      clear HT
      go_enter Tryd.func32, Tryd.ntmps32
      go_wp2_with (go_at_call 45; refine (HI _).mono ?_; rintro e wn ⟨rfl, rfl⟩)
      go_ret
      exact ⟨by rw [HQ.out]; rfl, alloc_below _ _⟩
    · have HQ : Hid (takesB ⟨nm, lo, hi, wb, gr⟩ n = false) := by show _ = _; rw [HT.out, decide_eq_false h2, Bool.false_and, Bool.and_false]
      clear HT
      go_enter Tryd.func32, Tryd.ntmps32
      go_wp2_with fail
      go_ret
      exact ⟨by rw [HQ.out]; rfl, alloc_below _ _⟩
  · have HQ : Hid (takesB ⟨nm, lo, hi, wb, gr⟩ n = false) := by show _ = _; rw [HT.out, decide_eq_false h1, Bool.false_and]
    clear HT
    go_enter Tryd.func32, Tryd.ntmps32
    go_wp2_with fail
    go_ret
    exact ⟨by rw [HQ.out]; rfl, alloc_below _ _⟩

set_option maxRecDepth 100000 in
theorem hasLong_any (a : Option Addr) (n c : Nat) (ls : List ByteArray) (w : World) (h : RdS w a n ls) : Calls Tryd.prog 33 #[.slice a n c] w fun e w' => e = .returned (.bool (longB ls)) ∧ w' = w := by
  have hn : n ≤ 9223372036854775807 := h.max
  have HR : Hid (RdS w a n ls) := h
  have HN : Hid (ls.length = n) := h.len
  clear h
  go_enter Tryd.func33, Tryd.ntmps33
  go_wp2
  go_loopg [7] n (fun g iv wr => ∃ k : Nat, iv = .int .i64 k ∧ k + g = n ∧ wr = w ∧ Hid (longB (ls.take k) = false))
  case atStart => exact ⟨0, rfl, by omega, rfl, rfl⟩
  case round =>
    obtain ⟨k, rfl, hk, rfl, HF⟩ := hrel
    by_cases h1 : (k : Int) < n
    · obtain ⟨b, off, rfl, hc⟩ := HR.out.cell k (by omega)
      have hs : ls.take (k + 1) = ls.take k ++ [ls.getD k ByteArray.empty] := by
        rw [List.take_add_one, List.getElem?_eq_getElem (by rw [HN.out]; omega), List.getD_eq_getElem?_getD, List.getElem?_eq_getElem (by rw [HN.out]; omega)]; rfl
      have HS : Hid (longB (ls.take (k + 1)) = decide (4096 < (ls.getD k ByteArray.empty).size)) := by
        show _ = _
        rw [hs, longB, List.any_append]
        have := HF.out
        rw [longB] at this
        rw [this, Bool.false_or, List.any_cons, List.any_nil, Bool.or_false]
      have HH : Hid (longB (ls.take (k + 1)) = true → longB ls = true) := fun h => by
        rw [← List.take_append_drop (k + 1) ls, longB, List.any_append]
        rw [longB] at h
        rw [h]; rfl
      obtain ⟨s, hsx⟩ : ∃ s, ls.getD k ByteArray.empty = s := ⟨_, rfl⟩
      rw [hsx] at hc HS
      clear hs hsx
      by_cases h4 : (4096 : Int) < s.size
      · have HE : Hid (longB ls = true) := HH.out (by rw [HS.out]; exact decide_eq_true (by omega))
        go_wp2
        go_ret
        exact ⟨by rw [HE.out]; rfl, rfl⟩
      · have HE : Hid (longB (ls.take (k + 1)) = false) := by show _ = _; rw [HS.out]; exact decide_eq_false (by omega)
        go_wp2
        go_roundg (gk - 1)
        case measure => omega
        case rel => exact ⟨k + 1, by go_num, by omega, rfl, HE⟩
    · have HE : Hid (longB ls = false) := by
        have := HF.out
        rw [List.take_of_length_le (by rw [HN.out]; omega)] at this
        exact this
      go_wp2
      go_ret
      exact ⟨by rw [HE.out]; rfl, rfl⟩

set_option maxRecDepth 100000 in
theorem called_any (a : Option Addr) (n c : Nat) (ls : List ByteArray) (w : World) (h : RdS w a n ls) : Calls Tryd.prog 31 #[.slice a n c] w fun e w' => e = .returned (.string (nameP ls)) ∧ Below w.heap.size w w' := by
  cases ls with
  | nil =>
    have hn : n = 0 := by rw [← h.len]; rfl
    subst hn
    go_enter Tryd.func31, Tryd.ntmps31
    go_wp2
    go_ret
    exact ⟨rfl, Below.refl _ _⟩
  | cons s l =>
    have hl := h.len
    rw [List.length_cons] at hl
    obtain ⟨b, off, rfl, hc⟩ := h.cell 0 (by omega)
    have hc1 : w.cell? ⟨b, off, none⟩ = some (.string s) := hc
    have hn : n ≤ 9223372036854775807 := h.max
    have hn0 : (0 : Int) < n := by omega
    have hne : ((n : Int) == 0) = false := by simp; omega
    have hcs := size_cutB s 64 (by omega)
    have HL := fun w => Lower_any (cutB s 64) w (by unfold maxLen; omega)
    have HE : Hid (nameP (s :: l) = low (cutB s 64)) := rfl
    clear h hc hl hcs
    by_cases h64 : (64 : Int) < s.size
    · have HX : Hid (cutB s 64 = s.extract 0 64) := by show cutB s 64 = _; rw [cutB, if_pos h64]; rfl
      rw [HX.out] at HL HE
      have hmin : min (s.size : Int) 64 = 64 := by omega
      go_enter Tryd.func31, Tryd.ntmps31
      go_wp2_with (go_at_call 16; refine (HL _).mono ?_; rintro e w1 ⟨rfl, hB1⟩)
      go_ret
      exact ⟨by rw [HE.out]; rfl, hB1⟩
    · have HX : Hid (cutB s 64 = s) := by show cutB s 64 = _; rw [cutB, if_neg h64]
      rw [HX.out] at HL HE
      have hx : s.extract 0 s.size = s := by simp
      have hmin : min (s.size : Int) 64 = s.size := by omega
      go_enter Tryd.func31, Tryd.ntmps31
      go_wp2_with (go_at_call 16; refine (HL _).mono ?_; rintro e w1 ⟨rfl, hB1⟩)
      go_ret
      exact ⟨by rw [HE.out]; rfl, hB1⟩
end Go.Proofs.YtlapiaoopmhogaaDoor
