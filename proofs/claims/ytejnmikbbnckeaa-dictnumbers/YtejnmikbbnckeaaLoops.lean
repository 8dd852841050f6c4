/-
  The control words: New, Match, Free, HasEmpty, Count.
-/
import Derived.Test.YtejnmikbbnckeaaInts
namespace Go.Proofs.Ytejnmikbbnckeaa
open Go.RowKit Go.PlainAid

/-- The slots below k of which p is true, rising. -/
def slots (p : Nat → Bool) (k : Nat) : List Nat := (List.range k).filter p
theorem slots_yes {p : Nat → Bool} {k : Nat} (h : p k = true) : slots p (k + 1) = slots p k ++ [k] := by
  unfold slots; rw [List.range_succ, List.filter_append]; simp [h]
theorem slots_no {p : Nat → Bool} {k : Nat} (h : p k = false) : slots p (k + 1) = slots p k := by
  unfold slots; rw [List.range_succ, List.filter_append]; simp [h]
theorem slots_len (p : Nat → Bool) (k : Nat) : (slots p k).length ≤ k := by
  unfold slots; have := List.length_filter_le p (List.range k); simpa using this
/-- Is p true of a slot below k? -/
def some? (p : Nat → Bool) (k : Nat) : Bool := (List.range k).any p
theorem some_step (p : Nat → Bool) (k : Nat) : some? p (k + 1) = (some? p k || p k) := by
  unfold some?; rw [List.range_succ, List.any_append]; simp
theorem some_mono {p : Nat → Bool} {k m : Nat} (h : some? p k = true) (hkm : k ≤ m) : some? p m = true := by
  unfold some? at *
  rw [List.any_eq_true] at *
  obtain ⟨x, hx, hp⟩ := h
  exact ⟨x, by simp at *; omega, hp⟩
/-- Which slots have the byte c; which are free; which are full. -/
def has (l : List Nat) (c k : Nat) : Bool := decide (l.getD k 0 = c)
def fre (l : List Nat) (k : Nat) : Bool := decide (128 ≤ l.getD k 0)
def ful (l : List Nat) (k : Nat) : Bool := !fre l k
/-- A byte that is cleaned. -/
def cl (b : Nat) : Nat := if b = 254 then 128 else b
/-- The first k bytes cleaned. -/
def cln (l : List Nat) (k : Nat) : List Nat := (l.take k).map cl ++ l.drop k
theorem cl_lt {b : Nat} (h : b < 256) : cl b < 256 := by unfold cl; split <;> omega
theorem cln_zero (l : List Nat) : cln l 0 = l := rfl
theorem cln_len (l : List Nat) (k : Nat) : (cln l k).length = l.length := by simp [cln]; omega
theorem cln_get (l : List Nat) (k : Nat) (hk : k < l.length) : (cln l k).getD k 0 = l.getD k 0 := by
  unfold cln
  rw [List.getD_eq_getElem?_getD, List.getElem?_append_right (by simp; omega)]
  simp [List.getD_eq_getElem?_getD, Nat.min_eq_left (Nat.le_of_lt hk)]
theorem cln_set (l : List Nat) (k : Nat) (hk : k < l.length) : (cln l k).set k (cl (l.getD k 0)) = cln l (k + 1) := by
  unfold cln
  rw [List.set_append_right _ _ (by simp; omega), List.length_map, List.length_take, Nat.min_eq_left (Nat.le_of_lt hk), Nat.sub_self, List.drop_eq_getElem_cons hk, List.set_cons_zero, List.take_add_one,
    List.getElem?_eq_getElem hk, List.map_append, List.append_assoc, List.getD_eq_getElem?_getD, List.getElem?_eq_getElem hk]
  rfl
theorem cln_same (l : List Nat) (k : Nat) (hk : k < l.length) (h : l.getD k 0 ≠ 254) : cln l k = cln l (k + 1) := by
  rw [← cln_set l k hk, cl, if_neg h]
  conv => rhs; rw [← cln_get l k hk, List.getD_eq_getElem?_getD, List.getElem?_eq_getElem (by rw [cln_len]; exact hk)]
  simp
theorem cln_ok {l : List Nat} (h : Ok l) (k : Nat) : Ok (cln l k) := by
  refine ⟨by rw [cln_len, h.len], fun b hb => ?_⟩
  unfold cln at hb
  rcases List.mem_append.1 hb with hb | hb
  · obtain ⟨c, hc, rfl⟩ := List.mem_map.1 hb
    exact cl_lt (h.byt c (List.mem_of_mem_take hc))
  · exact h.byt b (List.mem_of_mem_drop hb)

/-- All Empty. -/
abbrev new8 : List Nat := [128, 128, 128, 128, 128, 128, 128, 128]
def news (k : Nat) : List Nat := List.replicate k 128 ++ List.replicate (8 - k) 0
theorem news_ok {k : Nat} (hk : k ≤ 8) : Ok (news k) := by
  refine ⟨by simp [news]; omega, fun b hb => ?_⟩
  unfold news at hb
  rcases List.mem_append.1 hb with hb | hb <;> rw [List.eq_of_mem_replicate hb] <;> decide
theorem news_set {k : Nat} (hk : k < 8) : (news k).set k 128 = news (k + 1) := by
  rcases slot8 hk with rfl | rfl | rfl | rfl | rfl | rfl | rfl | rfl <;> rfl
theorem new8_ok : Ok new8 := news_ok (Nat.le_refl 8)

theorem New_any (w : World) : Calls Try.prog 77 #[] w fun e w' => e = .returned (.int .u64 (val new8 : Nat)) ∧ Below w.heap.size w w' := by
  have HB : Hid (Below w.heap.size w w) := Below.refl _ _
  have HS := fun (k : Nat) (hk : k < 8) w => Set_in (news_ok (Nat.le_of_lt hk)) k 128 hk (by decide) w
  have HE : Hid (val (news 8) = val new8) := rfl
  have HZ : Hid (val (news 0) = 0) := rfl
  go_enter Try.func77, Try.ntmps77
  go_wp2
  go_loopg [1, 2, 3] 8 (fun q nv iv jv wr => ∃ k : Nat, k + q = 8 ∧ jv = .int .i64 k ∧ nv = .int .u64 (val (news k) : Nat) ∧ Hid (Below w.heap.size w wr))
  case atStart => exact ⟨0, by omega, rfl, by rw [HZ.out]; rfl, HB⟩
  case round =>
    clear HB
    obtain ⟨k, hk, rfl, rfl, HB⟩ := hrel
    by_cases h8 : k < 8
    · have HSk := HS k h8
      rw [news_set h8] at HSk
      clear HS
      have hkz : (k : Int) < 8 := by omega
      generalize val (news k) = n at HSk ⊢
      obtain ⟨m, hm⟩ : ∃ m, val (news (k + 1)) = m := ⟨_, rfl⟩
      have HM : Hid (val (news (k + 1)) = m) := hm
      rw [hm] at HSk
      clear hm
      go_wp2_with fail
      refine (HSk _).mono ?_
      rintro e w1 ⟨rfl, hb⟩
      have H1 := step_below HB hb
      clear hb
      go_wp2
      go_roundg (gk - 1)
      case measure => omega
      case rel => exact ⟨k + 1, by omega, by go_num, by rw [HM.out], H1⟩
    · obtain rfl : k = 8 := by omega
      rw [HE.out]
      go_wp2
      go_ret
      exact ⟨rfl, HB.out⟩

theorem HasEmpty_any {l : List Nat} (hl : Ok l) (w : World) : Calls Try.prog 81 #[.int .u64 (val l : Nat)] w fun e w' => e = .returned (.bool (some? (has l 128) 8)) ∧ w' = w := by
  have HA := fun (k : Nat) (hk : k < 8) w => At_in hl k hk w
  have HG : Hid (∀ k, l.getD k 0 < 256) := hl.get
  generalize val l = n at HA ⊢
  go_enter Try.func81, Try.ntmps81
  go_wp2
  go_loopg [3, 4] 8 (fun q iv jv wr => w = wr ∧ ∃ k : Nat, k + q = 8 ∧ jv = .int .i64 k ∧ Hid (some? (has l 128) k = false))
  case atStart => exact ⟨rfl, 0, by omega, rfl, rfl⟩
  case round =>
    obtain ⟨rfl, k, hk, rfl, HF⟩ := hrel
    by_cases h8 : k < 8
    · have HAk := HA k h8
      have HST := some_step (has l 128) k
      rw [HF.out, Bool.false_or] at HST
      have HST : Hid (some? (has l 128) (k + 1) = has l 128 k) := HST
      have HH : Hid (has l 128 k = decide (l.getD k 0 = 128)) := rfl
      have hlt := HG.out k
      have hkz : (k : Int) < 8 := by omega
      clear HA
      generalize l.getD k 0 = b at HAk HH hlt
      by_cases hb : b = 128
      · have HT : Hid (some? (has l 128) 8 = true) := some_mono (k := k + 1) (by rw [HST.out, HH.out]; exact decide_eq_true hb) (by omega)
        subst hb
        go_wp2_with fail
        refine (HAk _).mono ?_
        rintro e w ⟨rfl, rfl⟩
        go_wp2
        go_ret
        exact ⟨by rw [HT.out]; rfl, rfl⟩
      · have HT : Hid (some? (has l 128) (k + 1) = false) := by show _ = _; rw [HST.out, HH.out]; exact decide_eq_false hb
        have hbz : ((b : Int) == 128) = false := by simp; omega
        go_wp2_with fail
        refine (HAk _).mono ?_
        rintro e w ⟨rfl, rfl⟩
        go_wp2
        go_roundg (gk - 1)
        case measure => omega
        case rel => exact ⟨rfl, k + 1, by omega, by go_num, HT⟩
    · obtain rfl : k = 8 := by omega
      go_wp2
      go_ret
      exact ⟨by rw [HF.out]; rfl, rfl⟩

theorem Count_any {l : List Nat} (hl : Ok l) (w : World) : Calls Try.prog 83 #[.int .u64 (val l : Nat)] w fun e w' => e = .returned (.int .i64 ((slots (ful l) 8).length : Nat)) ∧ w' = w := by
  have HA := fun (k : Nat) (hk : k < 8) w => At_in hl k hk w
  have HG : Hid (∀ k, l.getD k 0 < 256) := hl.get
  generalize val l = n at HA ⊢
  go_enter Try.func83, Try.ntmps83
  go_wp2
  go_loopg [3, 4, 5] 8 (fun q nv iv jv wr => w = wr ∧ ∃ k : Nat, k + q = 8 ∧ jv = .int .i64 k ∧ nv = .int .i64 ((slots (ful l) k).length : Nat))
  case atStart => exact ⟨rfl, 0, by omega, rfl, rfl⟩
  case round =>
    obtain ⟨rfl, k, hk, rfl, rfl⟩ := hrel
    by_cases h8 : k < 8
    · have HAk := HA k h8
      have HH : Hid (ful l k = !decide (128 ≤ l.getD k 0)) := rfl
      have hlt := HG.out k
      have HFr := fun w => isFree_any (l.getD k 0) w hlt
      have hkz : (k : Int) < 8 := by omega
      have hsl := slots_len (ful l) k
      clear HA
      generalize l.getD k 0 = b at HAk HH hlt HFr
      by_cases hb : 128 ≤ b
      · rw [decide_eq_true hb] at HFr HH
        have HT : Hid (slots (ful l) (k + 1) = slots (ful l) k) := slots_no HH.out
        generalize slots (ful l) k = s at HT hsl ⊢
        go_wp2_with fail
        refine (HAk _).mono ?_
        rintro e w ⟨rfl, rfl⟩
        go_wp2_with fail
        refine (HFr _).mono ?_
        rintro e w ⟨rfl, rfl⟩
        go_wp2
        go_roundg (gk - 1)
        case measure => omega
        case rel => exact ⟨rfl, k + 1, by omega, by go_num, by rw [HT.out]⟩
      · rw [decide_eq_false hb] at HFr HH
        have HT : Hid (slots (ful l) (k + 1) = slots (ful l) k ++ [k]) := slots_yes HH.out
        generalize slots (ful l) k = s at HT hsl ⊢
        go_wp2_with fail
        refine (HAk _).mono ?_
        rintro e w ⟨rfl, rfl⟩
        go_wp2_with fail
        refine (HFr _).mono ?_
        rintro e w ⟨rfl, rfl⟩
        go_wp2
        go_roundg (gk - 1)
        case measure => omega
        case rel => exact ⟨rfl, k + 1, by omega, by go_num, by rw [HT.out]; simp⟩
    · obtain rfl : k = 8 := by omega
      go_wp2
      go_ret
      exact ⟨rfl, rfl⟩

/-- What a call answers that makes a row of numbers. -/
def Makes (w : World) (ls : List Nat) (e : Ending) (w' : World) : Prop := Below w.heap.size w w' ∧ ∃ a n c, e = .returned (.slice a n c) ∧ OwnI w' w.heap.size a n c ls

set_option maxHeartbeats 2000000 in
theorem Free_any {l : List Nat} (hl : Ok l) (w : World) : Calls Try.prog 93 #[.int .u64 (val l : Nat)] w fun e w' => Makes w (slots (fre l) 8) e w' := by
  have HA := fun (k : Nat) (hk : k < 8) w => At_in hl k hk w
  have HG : Hid (∀ k, l.getD k 0 < 256) := hl.get
  have HB : Hid (Below w.heap.size w w) := Below.refl _ _
  generalize val l = n at HA ⊢
  go_enter Try.func93, Try.ntmps93
  go_wp2
  go_loopg [3, 4, 5] 8 (fun q sv iv jv wr => ∃ (k : Nat) (a : Option Addr) (m c : Nat), k + q = 8 ∧ jv = .int .i64 k ∧ sv = .slice a m c ∧ m ≤ k ∧ Hid (OwnI wr w.heap.size a m c (slots (fre l) k)) ∧ Hid (Below w.heap.size w wr))
  case atStart => exact ⟨0, none, 0, 0, by omega, rfl, rfl, Nat.le_refl _, OwnI.nil _ _, HB⟩
  case round =>
    clear HB
    obtain ⟨k, a, m, c, hk, rfl, rfl, hm, HO, HB⟩ := hrel
    by_cases h8 : k < 8
    · have HAk := HA k h8
      have HH : Hid (fre l k = decide (128 ≤ l.getD k 0)) := rfl
      have hlt := HG.out k
      have HFr := fun w => isFree_any (l.getD k 0) w hlt
      have hkz : (k : Int) < 8 := by omega
      have hsz := HB.out.size
      clear HA
      generalize l.getD k 0 = b at HAk HH hlt HFr
      by_cases hb : 128 ≤ b
      · rw [decide_eq_true hb] at HFr HH
        have HT : Hid (slots (fre l) (k + 1) = slots (fre l) k ++ [k]) := slots_yes HH.out
        generalize slots (fre l) k = s at HT HO
        go_wp2_with fail
        refine (HAk _).mono ?_
        rintro e wr ⟨rfl, rfl⟩
        go_wp2_with fail
        refine (HFr _).mono ?_
        rintro e wr ⟨rfl, rfl⟩
        go_wp2_with (at_builtin; refine append_int rfl (.tmp 12) (.tmp 14) rfl w.heap.size rfl (HO.out.keep (alloc_below wr _)) rfl (by simp; rfl) (by omega) (Nat.le_trans hsz (alloc_below wr _).size) ?_; intro a3 n3 c3 w3 hn3 HO3 HG3 HW3; have HB3 : Hid (Below w.heap.size w w3) := (HB.out.trans ((alloc_below wr _).mono hsz)).trans ((HO.out.keep (alloc_below wr _)).below HG3.out (Nat.le_trans hsz (alloc_below wr _).size)))
        go_roundg (gk - 1)
        case measure => omega
        case rel => exact ⟨k + 1, _, _, _, by omega, by go_num, rfl, by omega, by rw [HT.out, ← hn3]; exact HO3, HB3⟩
      · rw [decide_eq_false hb] at HFr HH
        have HT : Hid (slots (fre l) (k + 1) = slots (fre l) k) := slots_no HH.out
        generalize slots (fre l) k = s at HT HO
        go_wp2_with fail
        refine (HAk _).mono ?_
        rintro e wr ⟨rfl, rfl⟩
        go_wp2_with fail
        refine (HFr _).mono ?_
        rintro e wr ⟨rfl, rfl⟩
        go_wp2
        go_roundg (gk - 1)
        case measure => omega
        case rel => exact ⟨k + 1, _, _, _, by omega, by go_num, rfl, by omega, by rw [HT.out]; exact HO, HB⟩
    · obtain rfl : k = 8 := by omega
      go_wp2
      go_ret
      exact ⟨HB.out, _, _, _, rfl, HO.out⟩

set_option maxHeartbeats 2000000 in
theorem Match_any {l : List Nat} (hl : Ok l) (x : Nat) (hx : x < 256) (w : World) : Calls Try.prog 79 #[.int .u64 (val l : Nat), .int .u8 x] w fun e w' => Makes w (slots (has l x) 8) e w' := by
  have HA := fun (k : Nat) (hk : k < 8) w => At_in hl k hk w
  have HG : Hid (∀ k, l.getD k 0 < 256) := hl.get
  have HB : Hid (Below w.heap.size w w) := Below.refl _ _
  generalize val l = n at HA ⊢
  go_enter Try.func79, Try.ntmps79
  go_wp2
  go_loopg [5, 6, 7] 8 (fun q sv iv jv wr => ∃ (k : Nat) (a : Option Addr) (m c : Nat), k + q = 8 ∧ jv = .int .i64 k ∧ sv = .slice a m c ∧ m ≤ k ∧ Hid (OwnI wr w.heap.size a m c (slots (has l x) k)) ∧ Hid (Below w.heap.size w wr))
  case atStart => exact ⟨0, none, 0, 0, by omega, rfl, rfl, Nat.le_refl _, OwnI.nil _ _, HB⟩
  case round =>
    clear HB
    obtain ⟨k, a, m, c, hk, rfl, rfl, hm, HO, HB⟩ := hrel
    by_cases h8 : k < 8
    · have HAk := HA k h8
      have HH : Hid (has l x k = decide (l.getD k 0 = x)) := rfl
      have hlt := HG.out k
      have hkz : (k : Int) < 8 := by omega
      have hsz := HB.out.size
      clear HA
      generalize l.getD k 0 = b at HAk HH hlt
      by_cases hb : b = x
      · rw [decide_eq_true hb] at HH
        subst hb
        have HT : Hid (slots (has l b) (k + 1) = slots (has l b) k ++ [k]) := slots_yes HH.out
        generalize slots (has l b) k = s at HT HO
        go_wp2_with fail
        refine (HAk _).mono ?_
        rintro e wr ⟨rfl, rfl⟩
        go_wp2_with (at_builtin; refine append_int rfl (.tmp 15) (.tmp 17) rfl w.heap.size rfl (HO.out.keep (alloc_below wr _)) rfl (by simp; rfl) (by omega) (Nat.le_trans hsz (alloc_below wr _).size) ?_; intro a3 n3 c3 w3 hn3 HO3 HG3 HW3; have HB3 : Hid (Below w.heap.size w w3) := (HB.out.trans ((alloc_below wr _).mono hsz)).trans ((HO.out.keep (alloc_below wr _)).below HG3.out (Nat.le_trans hsz (alloc_below wr _).size)))
        go_roundg (gk - 1)
        case measure => omega
        case rel => exact ⟨k + 1, _, _, _, by omega, by go_num, rfl, by omega, by rw [HT.out, ← hn3]; exact HO3, HB3⟩
      · rw [decide_eq_false hb] at HH
        have HT : Hid (slots (has l x) (k + 1) = slots (has l x) k) := slots_no HH.out
        generalize slots (has l x) k = s at HT HO
        have hbz : ((b : Int) == (x : Int)) = false := by simp; omega
        go_wp2_with fail
        refine (HAk _).mono ?_
        rintro e wr ⟨rfl, rfl⟩
        go_wp2
        go_roundg (gk - 1)
        case measure => omega
        case rel => exact ⟨k + 1, _, _, _, by omega, by go_num, rfl, by omega, by rw [HT.out]; exact HO, HB⟩
    · obtain rfl : k = 8 := by omega
      go_wp2
      go_ret
      exact ⟨HB.out, _, _, _, rfl, HO.out⟩

end Go.Proofs.Ytejnmikbbnckeaa
