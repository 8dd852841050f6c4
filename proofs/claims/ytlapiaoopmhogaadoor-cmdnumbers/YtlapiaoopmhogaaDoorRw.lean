/-
  The document's own table: words parted by blanks, small numbers.
-/
import Derived.Test.YtlapiaoopmhogaaDoorCk
namespace Go.Proofs.YtlapiaoopmhogaaDoor
open Go.RowKit Go.PlainAid

theorem byte_in (b : UInt8) {c : Int} (h : (b.toNat : Int) = c) : 0 ≤ c ∧ c ≤ 255 := by have := b.toNat_lt; omega
theorem byte_is {b : UInt8} {c : Int} (h : (b.toNat : Int) = c) (d : UInt8) : b = d ↔ c = (d.toNat : Int) := by
  rw [← h]
  constructor
  · rintro rfl; rfl
  · intro e; exact UInt8.toNat_inj.1 (by omega)
def wordsM : List UInt8 → List UInt8 → List (List UInt8)
  | [], w => if w = [] then [] else [w]
  | b :: r, w => if b = 32 then (if w = [] then wordsM r [] else w :: wordsM r []) else wordsM r (w ++ [b])
theorem extract_lst (s : ByteArray) (i j : Nat) : s.extract i j = bs (((lst s).drop i).take (j - i)) := by
  rw [← bs_lst (s.extract i j)]
  congr 1
  exact Lib.extract_data s i j
/-- What is left of the way from the i-th on. -/
structure WTo (l : List UInt8) (n i : Nat) (acc : List (List UInt8)) (w : List UInt8) : Prop where
  on : i ≤ n → acc ++ wordsM (l.drop i) w = wordsM l []
  done : ¬ i ≤ n → acc = wordsM l []
theorem WTo.push {l : List UInt8} {n i : Nat} {acc : List (List UInt8)} {w : List UInt8} {b : UInt8} (h : WTo l n i acc w) (hi : i < n) (hd : l.drop i = b :: l.drop (i + 1)) (hb : ¬ b = 32) : WTo l n (i + 1) acc (w ++ [b]) :=
  ⟨fun _ => by rw [← h.on (by omega), hd, wordsM, if_neg hb], fun h => absurd hi (by omega)⟩
theorem WTo.blank {l : List UInt8} {n i : Nat} {acc : List (List UInt8)} {w : List UInt8} (h : WTo l n i acc w) (hi : i < n) (hd : l.drop i = 32 :: l.drop (i + 1)) : WTo l n (i + 1) (if w = [] then acc else acc ++ [w]) [] :=
  ⟨fun _ => by
    rw [← h.on (by omega), hd, wordsM, if_pos rfl]
    split
    · rfl
    · rw [List.append_assoc]; rfl, fun h => absurd hi (by omega)⟩
theorem WTo.last {l : List UInt8} {n i : Nat} {acc : List (List UInt8)} {w : List UInt8} (h : WTo l n i acc w) (hi : i = n) (hd : l.length ≤ i) : WTo l n (i + 1) (if w = [] then acc else acc ++ [w]) [] :=
  ⟨fun h => absurd h (by omega), fun _ => by
    rw [← h.on (by omega), List.drop_eq_nil_of_le hd, wordsM]
    split
    · rw [List.append_nil]
    · rfl⟩
theorem bs_eq (l : List UInt8) (m : List UInt8) : ((bs l).toList == m) = decide (l = m) := by
  have e : (bs l).toList = l := by rw [ByteArray.toList_eq]; simp [bs]
  rw [e]
  by_cases h : l = m
  · rw [h]; simp
  · rw [decide_eq_false h]; simpa using h

set_option maxRecDepth 100000 in
set_option maxHeartbeats 4000000 in
theorem words_any (s : ByteArray) (w : World) (hs : s.size ≤ 10000) :
    Calls Tryd.prog 21 #[.string s] w fun e w' => Below w.heap.size w w' ∧ ∃ a2 n2 c2, e = .returned (.slice a2 n2 c2) ∧ OwnS w' w.heap.size a2 n2 c2 ((wordsM (lst s) []).map bs) := by
  obtain ⟨l, hl⟩ : ∃ l, lst s = l := ⟨_, rfl⟩
  have HL : Hid (lst s = l) := hl
  have HLL : Hid (l.length = s.size) := by show _ = _; rw [← hl, len_lst]
  have HO : Hid (OwnS w w.heap.size none 0 0 (([] : List (List UInt8)).map bs)) := World.ownsRow_nil w _ 9 1
  have HW : Hid (WTo l s.size 0 [] []) := ⟨fun _ => rfl, fun h => absurd h (by omega)⟩
  rw [hl]
  have HS : Hid (s.size ≤ 10000) := hs
  have hsz : s.size ≤ 10000 := hs
  clear hl hs
  go_enter Tryd.func21, Tryd.ntmps21
  go_wp2
  go_loopg [3, 4, 5] (s.size + 1) (fun g bv wv iv wr => ∃ (i : Nat) (acc : List (List UInt8)) (wd : List UInt8) (a2 : Option Addr) (n2 c2 : Nat), i + g = s.size + 1 ∧ bv = .slice a2 n2 c2 ∧ wv = .string (bs wd) ∧ iv = .int .i64 i ∧ Hid (OwnS wr w.heap.size a2 n2 c2 (acc.map bs)) ∧ Hid (Below w.heap.size w wr) ∧ Hid (WTo l s.size i acc wd) ∧ Hid (acc.length ≤ i ∧ wd.length ≤ i))
  case atStart => exact ⟨0, [], [], none, 0, 0, by omega, rfl, rfl, rfl, HO, Below.refl _ _, HW, ⟨Nat.le_refl _, Nat.le_refl _⟩⟩
  case round =>
    obtain ⟨i, acc, wd, a2, n2, c2, hi, rfl, rfl, rfl, HO, HB, HW, HZ⟩ := hrel
    have hn2 : n2 + 1 ≤ 1000000 := by have h1 := HO.out.len; have h2 := HZ.out.1; rw [List.length_map] at h1; omega
    have HN2 : Hid (n2 + 1 ≤ 1000000) := hn2
    clear hn2
    by_cases h1 : (i : Int) ≤ s.size
    · by_cases h2 : (i : Int) < s.size
      · have h2n : i < s.size := by omega
        have h4 : (i : Int) + 1 ≤ s.size := by omega
        obtain ⟨x, hx⟩ : ∃ c : Int, ((s[i]'h2n).toNat : Int) = c := ⟨_, rfl⟩
        obtain ⟨b, hb⟩ : ∃ b, s[i]'h2n = b := ⟨_, rfl⟩
        have HX : Hid ((b.toNat : Int) = x) := by show _ = _; rw [← hb]; exact hx
        have HD : Hid (l.drop i = b :: l.drop (i + 1)) := by show _ = _; rw [← HL.out, ← hb]; exact drop_at s i h2n
        have hxb := byte_in _ hx
        have HE : Hid (s.extract i (i + 1) = bs [b]) := by
          show _ = _
          rw [extract_lst, HL.out, HD.out, Nat.add_sub_cancel_left]; rfl
        clear hb
        by_cases h32 : x = 32
        · have hb32 : b = 32 := UInt8.toNat_inj.1 (by have := HX.out; rw [h32] at this; have h3 : (32 : UInt8).toNat = 32 := rfl; omega)
          have HWn := HW.out.blank h2n (by rw [HD.out, hb32])
          subst h32
          by_cases hw : wd = []
          · have hwe := bs_eq wd []
            rw [decide_eq_true hw] at hwe
            rw [if_pos hw] at HWn
            have HWm : Hid (WTo l s.size (i + 1) acc []) := HWn
            clear HWn hw hb32
            go_wp2
            go_roundg (gk - 1)
            case measure => omega
            case rel => exact ⟨i + 1, acc, [], a2, n2, c2, by omega, rfl, rfl, by go_num, HO, HB, HWm, ⟨by have := HZ.out; omega, Nat.zero_le _⟩⟩
          · have hwe := bs_eq wd []
            rw [decide_eq_false hw] at hwe
            rw [if_neg hw] at HWn
            have HWm : Hid (WTo l s.size (i + 1) (acc ++ [wd]) []) := HWn
            clear HWn hw hb32
            go_wp2_with (at_builtin; refine append_str rfl (.tmp 31) (.tmp 33) rfl w.heap.size rfl (HO.out.keep (alloc_below wr _)) rfl (by simp; rfl) HN2.out (Nat.le_trans HB.out.size (alloc_below wr _).size) ?_; intro a3 n3 c3 w3 hn3 hO3 hB3; have HO3 : Hid (OwnS w3 w.heap.size a3 n3 c3 ((acc ++ [wd]).map bs)) := (by show OwnS _ _ _ _ _ _; rw [List.map_append]; exact hO3); have HB3 : Hid (Below w.heap.size w w3) := (HB.out.trans ((alloc_below wr _).mono HB.out.size)).trans hB3; clear hn3 hO3 hB3)
            go_roundg (gk - 1)
            case measure => omega
            case rel => exact ⟨i + 1, _, [], _, _, _, by omega, rfl, rfl, by go_num, HO3, HB3, HWm, ⟨by have := HZ.out; simp; omega, Nat.zero_le _⟩⟩
        · have hb32 : ¬ b = 32 := fun e => h32 (by have := HX.out; rw [e] at this; exact this.symm)
          have HWm : Hid (WTo l s.size (i + 1) acc (wd ++ [b])) := HW.out.push h2n HD.out hb32
          have hx32 : (x != 32) = true := by simpa using h32
          have hcat : bs wd ++ bs [b] = bs (wd ++ [b]) := append_bs _ _
          have hwl : (bs wd).size + (bs [b]).size ≤ 100000 := by have := HZ.out; rw [size_bs, size_bs]; simp; omega
          have hE := HE.out
          clear hb32
          go_wp2
          go_roundg (gk - 1)
          case measure => omega
          case rel => exact ⟨i + 1, acc, wd ++ [b], a2, n2, c2, by omega, rfl, rfl, by go_num, HO, HB, HWm, ⟨by have := HZ.out; omega, by have := HZ.out; simp; omega⟩⟩
      · have hin : i = s.size := by omega
        have HWn := HW.out.last hin (by rw [HLL.out]; omega)
        by_cases hw : wd = []
        · have hwe := bs_eq wd []
          rw [decide_eq_true hw] at hwe
          rw [if_pos hw] at HWn
          have HWm : Hid (WTo l s.size (i + 1) acc []) := HWn
          clear HWn hw hin
          go_wp2
          go_roundg (gk - 1)
          case measure => omega
          case rel => exact ⟨i + 1, acc, [], a2, n2, c2, by omega, rfl, rfl, by go_num, HO, HB, HWm, ⟨by have := HZ.out; omega, Nat.zero_le _⟩⟩
        · have hwe := bs_eq wd []
          rw [decide_eq_false hw] at hwe
          rw [if_neg hw] at HWn
          have HWm : Hid (WTo l s.size (i + 1) (acc ++ [wd]) []) := HWn
          clear HWn hw hin
          go_wp2_with (at_builtin; refine append_str rfl (.tmp 31) (.tmp 33) rfl w.heap.size rfl (HO.out.keep (alloc_below wr _)) rfl (by simp; rfl) HN2.out (Nat.le_trans HB.out.size (alloc_below wr _).size) ?_; intro a3 n3 c3 w3 hn3 hO3 hB3; have HO3 : Hid (OwnS w3 w.heap.size a3 n3 c3 ((acc ++ [wd]).map bs)) := (by show OwnS _ _ _ _ _ _; rw [List.map_append]; exact hO3); have HB3 : Hid (Below w.heap.size w w3) := (HB.out.trans ((alloc_below wr _).mono HB.out.size)).trans hB3; clear hn3 hO3 hB3)
          go_roundg (gk - 1)
          case measure => omega
          case rel => exact ⟨i + 1, _, [], _, _, _, by omega, rfl, rfl, by go_num, HO3, HB3, HWm, ⟨by have := HZ.out; simp; omega, Nat.zero_le _⟩⟩
    · have HE : Hid (acc = wordsM l []) := HW.out.done (by omega)
      go_wp2
      go_ret
      exact ⟨HB.out, _, _, _, rfl, by rw [← HE.out]; exact HO.out⟩
end Go.Proofs.YtlapiaoopmhogaaDoor
