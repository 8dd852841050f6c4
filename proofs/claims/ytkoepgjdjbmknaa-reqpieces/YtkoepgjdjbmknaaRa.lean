/-
  The program's words, first part: blanks, pairs, what stands in quotes.
-/
import Derived.Test.YtkoepgjdjbmknaaRr
import Derived.Test.YtkoepgjdjbmknaaRq
import Derived.Deep.RegionWith
import Derived.OwnWalk
namespace Go.Proofs.Ytkoepgjdjbmknaa
open Go.RowKit Go.PlainAid

theorem lst_cons (s : ByteArray) (h : 0 < s.size) : lst s = s[0] :: (lst s).drop 1 := by
  have := drop_at s 0 h
  rwa [List.drop_zero] at this
theorem extract_bs (s : ByteArray) (k : Nat) : s.extract k s.size = bs ((lst s).drop k) := by
  rw [← bs_lst (s.extract k s.size)]
  unfold lst; rw [Lib.extract_to_end]
theorem emp_no {s : ByteArray} (h : 0 < s.size) : s.toList.isEmpty = false := by
  rw [ByteArray.toList_eq, show s.data.toList = s[0] :: (lst s).drop 1 from lst_cons s h]; rfl
theorem lst_nil {s : ByteArray} (h : ¬ 0 < s.size) : lst s = [] := List.length_eq_zero_iff.1 (by rw [len_lst]; omega)
theorem emp_yes {s : ByteArray} (h : ¬ 0 < s.size) : s.toList.isEmpty = true := by
  rw [ByteArray.toList_eq, show s.data.toList = [] from lst_nil h]; rfl
theorem byte_in (b : UInt8) {c : Int} (h : (b.toNat : Int) = c) : 0 ≤ c ∧ c ≤ 255 := by have := b.toNat_lt; omega
theorem byte_is {b : UInt8} {c : Int} (h : (b.toNat : Int) = c) (d : UInt8) : b = d ↔ c = (d.toNat : Int) := by
  rw [← h]
  constructor
  · rintro rfl; rfl
  · intro e; exact UInt8.toNat_inj.1 (by omega)

def blkI (c : Int) : Bool := c == 32 || c == 9 || c == 0
theorem blk_int {b : UInt8} {c : Int} (h : (b.toNat : Int) = c) : blk b = blkI c := by
  unfold blk blkI
  rw [Bool.eq_iff_iff]
  simp only [Bool.or_eq_true, beq_iff_eq]
  rw [byte_is h 32, byte_is h 9, byte_is h 0]
  rfl

theorem isBlank_any (c : Int) (v : Bool) (hv : blkI c = v) (w : World) :
    Calls Try.prog 36 #[.int .u8 c] w fun e w' => e = .returned (.bool v) ∧ w' = w := by
  subst hv
  by_cases h1 : c = 32
  · subst h1
    go_enter Try.func36, Try.ntmps36
    go_wp2
    go_ret
    exact ⟨rfl, rfl⟩
  by_cases h2 : c = 9
  · subst h2
    go_enter Try.func36, Try.ntmps36
    go_wp2
    go_ret
    exact ⟨rfl, rfl⟩
  by_cases h3 : c = 0
  · subst h3
    go_enter Try.func36, Try.ntmps36
    go_wp2
    go_ret
    exact ⟨rfl, rfl⟩
  have hv : Hid (blkI c = false) := by show blkI c = false; unfold blkI; simp [h1, h2, h3]
  have e1 : (c == 32) = false := by simpa using h1
  have e2 : (c == 9) = false := by simpa using h2
  have e3 : (c == 0) = false := by simpa using h3
  clear h1 h2 h3
  rw [hv.out]
  go_enter Try.func36, Try.ntmps36
  go_wp2
  go_ret
  exact ⟨rfl, rfl⟩

def pairI (q c : Int) : Bool := q == 34 || c == q
theorem isPair_any (q c : Int) (v : Bool) (hv : pairI q c = v) (w : World) :
    Calls Try.prog 44 #[.int .u8 q, .int .u8 c] w fun e w' => e = .returned (.bool v) ∧ w' = w := by
  subst hv
  by_cases h1 : q = 34
  · subst h1
    go_enter Try.func44, Try.ntmps44
    go_wp2
    go_ret
    exact ⟨rfl, rfl⟩
  have e1 : (q == 34) = false := by simpa using h1
  have hv : Hid (pairI q c = (c == q)) := by show _ = _; unfold pairI; rw [e1]; rfl
  rw [hv.out]
  clear h1
  go_enter Try.func44, Try.ntmps44
  go_wp2
  go_ret
  exact ⟨rfl, rfl⟩

def mntI (c : Int) : Int := if c = 110 then 10 else if c = 114 then 13 else if c = 116 then 9 else c
theorem mnt_int {b : UInt8} {c : Int} (h : (b.toNat : Int) = c) : ((mnt b).toNat : Int) = mntI c := by
  unfold mnt mntI
  simp only [byte_is h]
  by_cases h1 : c = 110
  · rw [if_pos (by simpa using h1), if_pos h1]; rfl
  by_cases h2 : c = 114
  · rw [if_neg (by simpa using h1), if_pos (by simpa using h2), if_neg h1, if_pos h2]; rfl
  by_cases h3 : c = 116
  · rw [if_neg (by simpa using h1), if_neg (by simpa using h2), if_pos (by simpa using h3), if_neg h1, if_neg h2, if_pos h3]; rfl
  rw [if_neg (by simpa using h1), if_neg (by simpa using h2), if_neg (by simpa using h3), if_neg h1, if_neg h2, if_neg h3]; exact h
theorem meant_any (c v : Int) (hv : mntI c = v) (w : World) :
    Calls Try.prog 45 #[.int .u8 c] w fun e w' => e = .returned (.int .u8 v) ∧ w' = w := by
  subst hv
  by_cases h1 : c = 110
  · subst h1
    go_enter Try.func45, Try.ntmps45
    go_wp2
    go_ret
    exact ⟨rfl, rfl⟩
  by_cases h2 : c = 114
  · subst h2
    go_enter Try.func45, Try.ntmps45
    go_wp2
    go_ret
    exact ⟨rfl, rfl⟩
  by_cases h3 : c = 116
  · subst h3
    go_enter Try.func45, Try.ntmps45
    go_wp2
    go_ret
    exact ⟨rfl, rfl⟩
  have hv : Hid (mntI c = c) := by show _ = _; unfold mntI; rw [if_neg h1, if_neg h2, if_neg h3]
  have e1 : (c == 110) = false := by simpa using h1
  have e2 : (c == 114) = false := by simpa using h2
  have e3 : (c == 116) = false := by simpa using h3
  clear h1 h2 h3
  rw [hv.out]
  go_enter Try.func45, Try.ntmps45
  go_wp2
  go_ret
  exact ⟨rfl, rfl⟩

theorem passBlanks_any (s : ByteArray) (w : World) (hs : s.size ≤ maxLen) :
    Calls Try.prog 27 #[.string s] w fun e w' => e = .returned (.string (bs ((lst s).dropWhile blk))) ∧ w' = w := by
  obtain ⟨D, hD⟩ : ∃ D, bs ((lst s).dropWhile blk) = D := ⟨_, rfl⟩
  rw [hD]
  have HD : Hid (bs ((lst s).dropWhile blk) = D) := hD
  clear hD
  unfold maxLen at hs
  go_enter Try.func27, Try.ntmps27
  go_wp2
  go_loopg [0] s.size (fun g sv wr => w = wr ∧ ∃ t : ByteArray, t.size = g ∧ sv = .string t ∧ g ≤ 9223372036854775807 ∧ Hid (bs ((lst t).dropWhile blk) = D))
  case atStart => exact ⟨rfl, s, rfl, rfl, hs, HD⟩
  case round =>
    obtain ⟨rfl, t, ht, rfl, hg, H⟩ := hrel
    subst ht
    by_cases h0 : 0 < t.size
    · have hl := lst_cons t h0
      obtain ⟨c, hc⟩ : ∃ c : Int, ((t[0]'h0).toNat : Int) = c := ⟨_, rfl⟩
      have hcb := byte_in _ hc
      have he := emp_no h0
      have hbk := blk_int hc
      cases hv : blkI c with
      | true =>
        have H2 : Hid (bs ((lst (t.extract 1 t.size)).dropWhile blk) = D) := by
          show _ = _
          rw [← H.out, extract_bs, lst_bs, hl, List.dropWhile_cons_of_pos (by rw [hbk]; exact hv), List.drop_one]
          simp
        clear hl hbk
        have HV : Hid (blkI c = true) := hv
        clear hv
        go_wp2_with (go_at_call 36; refine (isBlank_any _ true HV.out _).mono ?_; rintro e w ⟨rfl, rfl⟩)
        go_roundg (t.size - 1)
        case measure => omega
        case rel => exact ⟨rfl, t.extract 1 t.size, by simp, rfl, by omega, H2⟩
      | false =>
        have H2 : Hid (t = D) := by
          show _ = _
          rw [← H.out, hl, List.dropWhile_cons_of_neg (by rw [hbk, hv]; simp), ← hl, bs_lst]
        clear hl hbk
        have HV : Hid (blkI c = false) := hv
        clear hv
        go_wp2_with (go_at_call 36; refine (isBlank_any _ false HV.out _).mono ?_; rintro e w ⟨rfl, rfl⟩)
        go_ret
        exact ⟨by rw [H2.out]; rfl, rfl⟩
    · have he := emp_yes h0
      have H2 : Hid (t = D) := by
        show _ = _
        rw [← H.out, lst_nil h0, List.dropWhile_nil, ← lst_nil h0, bs_lst]
      clear h0
      go_wp2
      go_ret
      exact ⟨by rw [H2.out]; rfl, rfl⟩
end Go.Proofs.Ytkoepgjdjbmknaa
