/-
  Texts as rows of bytes; a member of a class (member).
-/
import Derived.Test.YtbmcnbhceogcjaaProg
import Derived.Test.YtbmcnbhceogcjaaSpec
import Derived.WalkKit
import Derived.WalkSpells
import Derived.Laws.IdiomStrings
import Derived.Deep.LoopGhost
import Derived.Deep.Cut
import Derived.Deep.RegionWith
import Derived.Deep.QuietTactic
import Derived.BigQuiet
import Derived.PlainAid
import Derived.Lib.IndexBytes
import Derived.Elder7
namespace Go.Proofs.Ytbmcnbhceogcjaa
open Go.RowKit Go.PlainAid

/-- A text's bytes. -/
abbrev lst (s : ByteArray) : List UInt8 := s.data.toList
/-- A row of bytes as a text. -/
def bs (l : List UInt8) : ByteArray := ⟨l.toArray⟩
theorem lst_bs (l : List UInt8) : lst (bs l) = l := rfl
theorem bs_lst (s : ByteArray) : bs (lst s) = s := rfl
theorem size_bs (l : List UInt8) : (bs l).size = l.length := rfl
theorem len_lst (s : ByteArray) : (lst s).length = s.size := rfl
theorem append_bs (l r : List UInt8) : bs l ++ bs r = bs (l ++ r) := ByteArray.mk_append_mk l r

theorem drop_at (s : ByteArray) (k : Nat) (h : k < s.size) : (lst s).drop k = s[k] :: (lst s).drop (k + 1) := by
  rw [List.drop_eq_getElem_cons (by simpa using h)]; rfl
theorem lst_cons (s : ByteArray) (h : 0 < s.size) : lst s = s[0] :: (lst s).drop 1 := by
  have := drop_at s 0 h
  rwa [List.drop_zero] at this
theorem extract_bs (s : ByteArray) (k : Nat) : s.extract k s.size = bs ((lst s).drop k) := by
  rw [← bs_lst (s.extract k s.size)]
  unfold lst; rw [Lib.extract_to_end]
theorem emp_no {s : ByteArray} (h : 0 < s.size) : s.toList.isEmpty = false := by
  rw [ByteArray.toList_eq, show s.data.toList = s[0] :: (lst s).drop 1 from lst_cons s h]; rfl
theorem lst_nil {s : ByteArray} (h : ¬ 0 < s.size) : lst s = [] := List.length_eq_zero_iff.1 (by rw [len_lst]; omega)
theorem emp_yes {s : ByteArray} (h : ¬ 0 < s.size) : s.toList.isEmpty = true := by
  rw [ByteArray.toList_eq, show s.data.toList = [] from lst_nil h]; rfl
theorem byte_le (b : UInt8) {c : Int} (h : (b.toNat : Int) = c) : 0 ≤ c ∧ c ≤ 255 := by have := b.toNat_lt; omega

/-- What a member is: all from lo to hi. -/
def Mem (l : List UInt8) (lo hi n : Int) : Prop := n = msize l ∧ 0 ≤ lo ∧ lo ≤ 255 ∧ 0 ≤ hi ∧ hi ≤ 255 ∧ ∀ b : Nat, (decide (lo ≤ (b : Int)) && decide ((b : Int) ≤ hi)) = hit b l

theorem mem_one (x : UInt8) (c : Int) (h : (x.toNat : Int) = c) : Mem [x] c c 1 := by
  have := byte_le x h
  refine ⟨rfl, by omega, by omega, by omega, by omega, fun b => ?_⟩
  simp only [hit]
  rw [Bool.eq_iff_iff]; simp; omega
theorem mem_esc (x y : UInt8) (r : List UInt8) (c : Int) (hx : x.toNat = 92) (h : (y.toNat : Int) = c) : Mem (x :: y :: r) c c 2 := by
  have := byte_le y h
  refine ⟨by simp [msize, hx], by omega, by omega, by omega, by omega, fun b => ?_⟩
  simp only [hit, hx, if_true]
  rw [Bool.eq_iff_iff]; simp; omega
theorem mem_range (x y z : UInt8) (r : List UInt8) (c d : Int) (hx : x.toNat ≠ 92) (hy : y.toNat = 45) (hz : z.toNat ≠ 93) (h : (x.toNat : Int) = c) (h' : (z.toNat : Int) = d) : Mem (x :: y :: z :: r) (min c d) (max c d) 3 := by
  have := byte_le x h
  have := byte_le z h'
  refine ⟨by simp [msize, hx, hy, hz], by omega, by omega, by omega, by omega, fun b => ?_⟩
  have hh : hit b (x :: y :: z :: r) = decide (min x.toNat z.toNat ≤ b ∧ b ≤ max x.toNat z.toNat) := by
    simp only [hit]; rw [if_neg hx, if_pos ⟨hy, hz⟩]; rfl
  rw [hh, Bool.eq_iff_iff]
  simp only [Bool.and_eq_true, decide_eq_true_eq]
  omega
theorem mem_byte (x y : UInt8) (r : List UInt8) (c : Int) (hx : x.toNat ≠ 92) (hy : ¬ (y.toNat = 45 ∧ (r.headD 93).toNat ≠ 93)) (h : (x.toNat : Int) = c) : Mem (x :: y :: r) c c 1 := by
  have := byte_le x h
  refine ⟨by simp only [msize, hx, if_false, hy]; rfl, by omega, by omega, by omega, by omega, fun b => ?_⟩
  simp only [hit, hx, if_false, hy]
  rw [Bool.eq_iff_iff]; simp; omega

theorem below_drewN (w : World) : ∀ n, Below w.heap.size w (w.drewN n)
  | 0 => Below.refl _ _
  | n + 1 => (below_drewN w n).drew
/-- What member answers. -/
def memR (lo hi n : Int) : Value := .tuple #[.int .u8 lo, .int .u8 hi, .int .i64 n]

set_option maxHeartbeats 1000000 in
theorem member_any (s : ByteArray) (w : World) (h0 : 0 < s.size) (hs : s.size ≤ maxLen) :
    Calls Try.prog 20 #[.string s] w fun e w' => Below w.heap.size w w' ∧ ∃ lo hi n, Mem (lst s) lo hi n ∧ e = .returned (memR lo hi n) := by
  unfold maxLen at hs
  have hl0 := lst_cons s h0
  obtain ⟨c, hc⟩ : ∃ c : Int, ((s[0]'h0).toNat : Int) = c := ⟨_, rfl⟩
  have hcb := byte_le _ hc
  by_cases h1 : 1 < s.size
  · have hl1 := drop_at s 1 h1
    obtain ⟨d, hd⟩ : ∃ d : Int, ((s[1]'h1).toNat : Int) = d := ⟨_, rfl⟩
    have hdb := byte_le _ hd
    by_cases h92 : c = 92
    · have HM : Hid (Mem (lst s) d d 2) := by
        show Mem _ _ _ _
        rw [hl0, hl1]; exact mem_esc _ _ _ _ (by omega) hd
      clear hl0 hl1
      go_enter Try.func20, Try.ntmps20
      go_wp2
      go_quiet (fail)
      go_wp2
      go_ret3
      exact ⟨below_drewN .., d, d, 2, HM.out, rfl⟩
    have hq : (c == 92) = false := by simpa using h92
    by_cases h2 : 2 < s.size
    · have hl2 := drop_at s 2 h2
      obtain ⟨f, hf⟩ : ∃ f : Int, ((s[2]'h2).toNat : Int) = f := ⟨_, rfl⟩
      have hfb := byte_le _ hf
      by_cases h45 : d = 45
      · by_cases h93 : f = 93
        · have HM : Hid (Mem (lst s) c c 1) := by
            show Mem _ _ _ _
            rw [hl0, hl1, hl2]; exact mem_byte _ _ _ _ (by omega) (by rw [List.headD_cons]; omega) hc
          clear hl0 hl1 hl2 h92
          go_enter Try.func20, Try.ntmps20
          go_wp2
          go_ret3
          exact ⟨Below.refl _ _, _, _, 1, HM.out, rfl⟩
        · have HM : Hid (Mem (lst s) (min c f) (max c f) 3) := by
            show Mem _ _ _ _
            rw [hl0, hl1, hl2]; exact mem_range _ _ _ _ _ _ (by omega) (by omega) (by omega) hc hf
          clear hl0 hl1 hl2 h92
          have hq2 : (f == 93) = false := by simpa using h93
          clear h93
          by_cases hcf : f < c
          · rw [Int.min_eq_right (by omega), Int.max_eq_left (by omega)] at HM
            go_enter Try.func20, Try.ntmps20
            go_wp2
            go_region
            all_goals go_wp2
            all_goals go_ret3
            all_goals exact ⟨(Below.refl _ _).drew, _, _, 3, HM.out, rfl⟩
          rw [Int.min_eq_left (by omega), Int.max_eq_right (by omega)] at HM
          by_cases hfc : f = c
          · subst hfc
            go_enter Try.func20, Try.ntmps20
            go_wp2
            go_region
            all_goals go_wp2
            all_goals go_ret3
            all_goals exact ⟨(Below.refl _ _).drew, _, _, 3, HM.out, rfl⟩
          · have hlt : c < f := by omega
            clear hcf hfc
            go_enter Try.func20, Try.ntmps20
            go_wp2
            go_region
            all_goals go_wp2
            all_goals go_ret3
            all_goals exact ⟨(Below.refl _ _).drew, _, _, 3, HM.out, rfl⟩
      · have HM : Hid (Mem (lst s) c c 1) := by
          show Mem _ _ _ _
          rw [hl0, hl1]; exact mem_byte _ _ _ _ (by omega) (by omega) hc
        clear hl0 hl1 hl2 h92
        have hq2 : (d == 45) = false := by simpa using h45
        clear h45
        go_enter Try.func20, Try.ntmps20
        go_wp2
        go_ret3
        exact ⟨Below.refl _ _, _, _, 1, HM.out, rfl⟩
    · have HM : Hid (Mem (lst s) c c 1) := by
        show Mem _ _ _ _
        rw [hl0, hl1, List.drop_eq_nil_of_le (by rw [len_lst]; omega)]
        exact mem_byte _ _ _ _ (by omega) (by simp) hc
      clear hl0 hl1 h92
      go_enter Try.func20, Try.ntmps20
      go_wp2
      go_ret3
      exact ⟨Below.refl _ _, _, _, 1, HM.out, rfl⟩
  · have HM : Hid (Mem (lst s) c c 1) := by
      show Mem _ _ _ _
      rw [hl0, List.drop_eq_nil_of_le (by rw [len_lst]; omega)]
      exact mem_one _ _ hc
    clear hl0
    by_cases h92 : c = 92
    · subst h92
      go_enter Try.func20, Try.ntmps20
      go_wp2
      go_ret3
      exact ⟨Below.refl _ _, _, _, 1, HM.out, rfl⟩
    · have hq : (c == 92) = false := by simpa using h92
      go_enter Try.func20, Try.ntmps20
      go_wp2
      go_ret3
      exact ⟨Below.refl _ _, _, _, 1, HM.out, rfl⟩
end Go.Proofs.Ytbmcnbhceogcjaa
