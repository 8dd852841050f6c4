/-
  Within, Cut, the law's key; Times and Bag.
-/
import Derived.Test.YtejnmikbbnckeaaDele
import Derived.Laws.Runes
namespace Go.Proofs.Ytejnmikbbnckeaa
open Go.RowKit Go.PlainAid

def cutB (s : ByteArray) (n : Int) : ByteArray := if n < (s.size : Int) then s.extract 0 n.toNat else s
theorem size_cutB (s : ByteArray) (n : Int) (h : 0 ≤ n) : ((cutB s n).size : Int) ≤ n := by
  unfold cutB
  split
  · simp; omega
  · omega

theorem Cut_any (s : ByteArray) (n : Int) (w : World) (h0 : 0 ≤ n) :
    Calls Try.prog 61 #[.string s, .int .i64 n] w fun e w' => e = .returned (.string (cutB s n)) ∧ w' = w := by
  by_cases h : n < s.size
  · have HC : Hid (cutB s n = s.extract 0 n.toNat) := by show cutB s n = _; rw [cutB, if_pos h]
    go_enter Try.func61, Try.ntmps61
    go_wp2
    go_ret
    exact ⟨by rw [HC.out]; simp, rfl⟩
  · have HC : Hid (cutB s n = s) := by show cutB s n = _; rw [cutB, if_neg h]
    go_enter Try.func61, Try.ntmps61
    go_wp2
    go_ret
    exact ⟨by rw [HC.out]; rfl, rfl⟩

theorem Within_any (n lo hi : Int) (w : World) (h0 : lo ≤ hi) (h1 : hi ≤ 2000000) (h2 : -2000000 ≤ lo) :
    Calls Try.prog 19 #[.int .i64 n, .int .i64 lo, .int .i64 hi] w fun e w' => w' = w ∧ ∃ z : Int, lo ≤ z ∧ z ≤ hi ∧ e = .returned (.int .i64 z) := by
  obtain ⟨D, hD⟩ : ∃ D, hi - lo = D := ⟨_, rfl⟩
  have hz : (D + 1 == 0) = false := by simp; omega
  have hr0 : n.tmod (D + 1) < D + 1 := Int.tmod_lt_of_pos n (by omega)
  have hr1 : -(D + 1) < n.tmod (D + 1) := Int.lt_tmod_of_pos n (by omega)
  obtain ⟨r, hr⟩ : ∃ r, n.tmod (D + 1) = r := ⟨_, rfl⟩
  rw [hr] at hr0 hr1
  by_cases hn : r < 0
  · obtain ⟨r1, e1⟩ : ∃ r1, r + hi = r1 := ⟨_, rfl⟩
    obtain ⟨r2, e2⟩ : ∃ r2, r1 - lo = r2 := ⟨_, rfl⟩
    go_enter Try.func19, Try.ntmps19
    go_wp2
    go_ret
    exact ⟨rfl, lo + (r2 + 1), by omega, by omega, rfl⟩
  · go_enter Try.func19, Try.ntmps19
    go_wp2
    go_ret
    exact ⟨rfl, lo + r, by omega, by omega, rfl⟩

/-- A key that is asked for, whichever. -/
theorem encode_size (r : Int) : (Utf8.encode r).size ≤ 4 := by
  unfold Utf8.encode
  generalize (if Utf8.valid r then r.toNat else Utf8.runeError) = c
  simp only []
  split
  · show 1 ≤ 4; omega
  · split
    · show 2 ≤ 4; omega
    · split
      · show 3 ≤ 4; omega
      · show 4 ≤ 4; omega

/-- How often a text is among others. -/
def cnt (ls : List ByteArray) (s : ByteArray) : Nat := (ls.filter (fun t => decide (t = s))).length
theorem cnt_snoc (ls : List ByteArray) (k s : ByteArray) : cnt (ls ++ [k]) s = cnt ls s + (if k = s then 1 else 0) := by
  unfold cnt
  rw [List.filter_append, List.length_append]
  by_cases h : k = s
  · rw [List.filter_cons_of_pos (by simpa using h), if_pos h]; rfl
  · rw [List.filter_cons_of_neg (by simpa using h), if_neg h]; rfl
theorem cnt_le (ls : List ByteArray) (s : ByteArray) : cnt ls s ≤ ls.length := List.length_filter_le _ _
theorem cnt_perm {l l' : List ByteArray} (h : l.Perm l') (s : ByteArray) : cnt l s = cnt l' s := (h.filter _).length_eq
theorem cnt_zero {ls : List ByteArray} {s : ByteArray} : cnt ls s = 0 ↔ s ∉ ls := by
  unfold cnt
  rw [List.length_eq_zero_iff, List.filter_eq_nil_iff]
  constructor
  · intro h hm; exact h s hm (by simp)
  · intro h t ht he; rw [of_decide_eq_true he] at ht; exact h ht
theorem Times_any (a : Option Addr) (n cap : Nat) (ls : List ByteArray) (s : ByteArray) (w : World) (hO : OwnS w 0 a n cap ls) (hn : n ≤ 1000000) :
    Calls Try.prog 58 #[.slice a n cap, .string s] w fun e w' => e = .returned (.int .i64 (cnt ls s : Nat)) ∧ w' = w := by
  have HO : Hid (OwnS w 0 a n cap ls) := hO
  have HL : Hid (ls.length = n) := OwnS.len hO
  clear hO
  go_enter Try.func58, Try.ntmps58
  go_wp2
  go_loopg [5, 6] n (fun q nv iv wr => w = wr ∧ ∃ i : Nat, i + q = n ∧ iv = .int .i64 i ∧ nv = .int .i64 (cnt (ls.take i) s : Nat))
  case atStart => exact ⟨rfl, 0, by omega, rfl, rfl⟩
  case round =>
    obtain ⟨rfl, i, hi, rfl, rfl⟩ := hrel
    by_cases h8 : (i : Int) < n
    · obtain ⟨g, ha, hc⟩ := OwnS.cell HO.out (j := i) (by omega)
      subst ha
      have HS : Hid (ls.take (i + 1) = ls.take i ++ [ls.getD i ⟨#[]⟩]) := take_snoc ls _ i (by have := HL.out; omega)
      have hcl : cnt (ls.take i) s ≤ 1000000 := by
        have h1 := cnt_le (ls.take i) s
        rw [List.length_take] at h1
        omega
      generalize ls.getD i ⟨#[]⟩ = k at hc HS
      by_cases hk : k = s
      · subst hk
        have HE : Hid (cnt (ls.take (i + 1)) k = cnt (ls.take i) k + 1) := by show _ = _; rw [HS.out, cnt_snoc, if_pos rfl]
        generalize cnt (ls.take i) k = m at HE hcl ⊢
        go_wp2
        go_roundg (gk - 1)
        case measure => omega
        case rel => exact ⟨rfl, i + 1, by omega, by go_num, by rw [HE.out]; go_num⟩
      · have HE : Hid (cnt (ls.take (i + 1)) s = cnt (ls.take i) s) := by show _ = _; rw [HS.out, cnt_snoc, if_neg hk]; rfl
        generalize cnt (ls.take i) s = m at HE hcl ⊢
        have hkb : (k.toList == s.toList) = false := by rw [str_beq]; exact decide_eq_false hk
        go_wp2
        go_roundg (gk - 1)
        case measure => omega
        case rel => exact ⟨rfl, i + 1, by omega, by go_num, by rw [HE.out]⟩
    · have HE : Hid (ls.take i = ls) := by show _ = _; rw [List.take_of_length_le (by have := HL.out; omega)]
      rw [HE.out]
      go_wp2
      go_ret
      exact ⟨rfl, rfl⟩

/-- The same texts, each as often. -/
theorem Bag_any (a a' : Option Addr) (n cap cap' : Nat) (ls ls' : List ByteArray) (w : World) (hO : OwnS w 0 a n cap ls) (hO' : OwnS w 0 a' n cap' ls') (hn : n ≤ 1000000) (hp : ls.Perm ls') :
    Calls Try.prog 25 #[.slice a n cap, .slice a' n cap'] w fun e w' => e = .returned (.bool true) ∧ Below w.heap.size w w' := by
  have HO : Hid (OwnS w 0 a n cap ls) := hO
  have HO' : Hid (OwnS w 0 a' n cap' ls') := hO'
  have HP : Hid (∀ s, cnt ls s = cnt ls' s) := fun s => cnt_perm hp s
  have HT := fun s w hO => Times_any a n cap ls s w hO hn
  have HT' := fun s w hO => Times_any a' n cap' ls' s w hO hn
  clear hO hO'
  go_enter Try.func25, Try.ntmps25
  go_wp2
  go_loopg [5] n (fun q iv wr => ∃ i : Nat, i + q = n ∧ iv = .int .i64 i ∧ Hid (Below w.heap.size w wr))
  case atStart => exact ⟨0, by omega, rfl, Below.refl _ _⟩
  case round =>
    obtain ⟨i, hi, rfl, HB⟩ := hrel
    by_cases h8 : (i : Int) < n
    · obtain ⟨g, ha, hc⟩ := OwnS.cell (OwnR.keep HO.out HB.out) (j := i) (by omega)
      subst ha
      generalize ls.getD i ⟨#[]⟩ = k at hc
      have HTk := fun q => HT k (wr.drewN q) (OwnR.keep (OwnR.keep HO.out HB.out) (below_drewN wr q))
      have HTk' := fun q => HT' k (wr.drewN q) (OwnR.keep (OwnR.keep HO'.out HB.out) (below_drewN wr q))
      rw [HP.out k] at HTk
      generalize cnt ls' k = m at HTk HTk'
      clear HT HT'
      go_wp2
      go_quiet ((go_at_call 58; first | with_reducible exact Calls.quiet_of_same (HTk _) | with_reducible exact Calls.quiet_of_same (HTk' _)))
      go_wp2
      go_roundg (gk - 1)
      case measure => omega
      case rel => exact ⟨i + 1, by omega, by go_num, step_below HB (below_drewN _ _)⟩
    · go_wp2
      go_ret
      exact ⟨rfl, HB.out⟩
end Go.Proofs.Ytejnmikbbnckeaa
