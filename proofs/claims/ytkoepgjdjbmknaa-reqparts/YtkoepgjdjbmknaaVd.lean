/-
  The document's own requests, second part: a number behind a sign; a line of words.
-/
import Derived.Test.YtkoepgjdjbmknaaVc
import Derived.Test.YtkoepgjdjbmknaaUr
namespace Go.Proofs.Ytkoepgjdjbmknaa
open Go.RowKit Go.PlainAid

/-- A number, behind its sign. -/
def cntR (lo hi : Int) (r : List UInt8) : Rs Int :=
  match upR (crlf r) 2 32 r with
  | some (some (x, r2)) => match parseL x with
    | some n => if n < lo ∨ hi < n then .wrong else .yes n r2
    | none => .wrong
  | none => .part
  | some none => .wrong
theorem numR_cnt (sign : UInt8) (lo hi : Int) (r : List UInt8) : numR sign lo hi (sign :: r) = cntR lo hi r := by
  rw [numR_cons rfl]; rfl
/-- What count answers. -/
def CountR (m : Nat) (o : Rs Int) (e : Ending) : Prop :=
  match o with
  | some (some (k, r)) => e = .returned (.tuple #[.int .i64 k, .int .i64 ((m : Int) - r.length), .int .i64 1])
  | none => e = .returned (.tuple #[.int .i64 0, .int .i64 0, .int .i64 2])
  | some none => e = .returned (.tuple #[.int .i64 0, .int .i64 0, .int .i64 3])

set_option maxRecDepth 100000 in
theorem refCount_any (s : ByteArray) (A : Nat) (lo hi : Int) (w : World) (hA : A ≤ s.size) (hs : s.size ≤ 1000000) :
    Calls Try.prog 31 #[.string s, .int .i64 A, .int .i64 lo, .int .i64 hi] w fun e w' => CountR s.size (cntR lo hi ((lst s).drop A)) e ∧ w' = w := by
  have HLN := fun w => refLine_any s A w hA hs
  obtain ⟨l, hl⟩ : ∃ l, (lst s).drop A = l := ⟨_, rfl⟩
  rw [hl] at HLN ⊢
  have hsz : s.size ≤ 1000000 := hs
  clear hA hl
  cases hu : upR (crlf l) 2 32 l using Rs.elim with
  | part =>
    have HC : Hid (cntR lo hi l = .part) := by show _ = _; rw [cntR, hu]
    rw [hu] at HLN
    clear hu
    go_enter Try.func31, Try.ntmps31
    go_wp2_with (go_at_call 40; refine (HLN _).mono ?_; rintro e w1 ⟨hQ, hw⟩; have hQ2 : e = _ := hQ; subst hQ2; have hw2 := hw.symm; subst hw2; clear hQ)
    go_ret3
    refine ⟨?_, rfl⟩
    rw [HC.out]
    rfl
  | wrong =>
    have HC : Hid (cntR lo hi l = .wrong) := by show _ = _; rw [cntR, hu]
    rw [hu] at HLN
    clear hu
    go_enter Try.func31, Try.ntmps31
    go_wp2_with (go_at_call 40; refine (HLN _).mono ?_; rintro e w1 ⟨hQ, hw⟩; have hQ2 : e = _ := hQ; subst hQ2; have hw2 := hw.symm; subst hw2; clear hQ)
    go_ret3
    refine ⟨?_, rfl⟩
    rw [HC.out]
    rfl
  | yes x r =>
    have hxl := upR_len hu
    have HP := fun w o (ho : parseL x = o) => refParse_any (bs x) w (by rw [size_bs]; unfold maxLen; omega) o ho
    rw [hu] at HLN
    cases hp : parseL x with
    | none =>
      have HC : Hid (cntR lo hi l = .wrong) := by show _ = _; rw [cntR, hu]; simp only [hp]
      have HPN := fun w => HP w none hp
      clear hu hp hxl HP
      go_enter Try.func31, Try.ntmps31
      go_wp2_with (first
        | (go_at_call 40; refine (HLN _).mono ?_; rintro e w1 ⟨hQ, hw⟩; have hQ2 : e = _ := hQ; subst hQ2; have hw2 := hw.symm; subst hw2; clear hQ)
        | (go_at_call 41; refine (HPN _).mono ?_; rintro e w3 ⟨rfl, rfl⟩; dsimp only [i64R, Option.getD_none, Option.isSome_none]))
      go_ret3
      refine ⟨?_, rfl⟩
      rw [HC.out]
      rfl
    | some k =>
      have HPN := fun w => HP w (some k) hp
      by_cases h1 : k < lo
      · have HC : Hid (cntR lo hi l = .wrong) := by show _ = _; rw [cntR, hu]; simp only [hp]; rw [if_pos (.inl h1)]
        clear hu hp hxl HP
        go_enter Try.func31, Try.ntmps31
        go_wp2_with (first
          | (go_at_call 40; refine (HLN _).mono ?_; rintro e w1 ⟨hQ, hw⟩; have hQ2 : e = _ := hQ; subst hQ2; have hw2 := hw.symm; subst hw2; clear hQ)
          | (go_at_call 41; refine (HPN _).mono ?_; rintro e w3 ⟨rfl, rfl⟩; dsimp only [i64R, Option.getD_some, Option.isSome_some]))
        go_ret3
        refine ⟨?_, rfl⟩
        rw [HC.out]
        rfl
      · by_cases h2 : hi < k
        · have HC : Hid (cntR lo hi l = .wrong) := by show _ = _; rw [cntR, hu]; simp only [hp]; rw [if_pos (.inr h2)]
          clear hu hp hxl HP
          go_enter Try.func31, Try.ntmps31
          go_wp2_with (first
            | (go_at_call 40; refine (HLN _).mono ?_; rintro e w1 ⟨hQ, hw⟩; have hQ2 : e = _ := hQ; subst hQ2; have hw2 := hw.symm; subst hw2; clear hQ)
            | (go_at_call 41; refine (HPN _).mono ?_; rintro e w3 ⟨rfl, rfl⟩; dsimp only [i64R, Option.getD_some, Option.isSome_some]))
          go_ret3
          refine ⟨?_, rfl⟩
          rw [HC.out]
          rfl
        · have HC : Hid (cntR lo hi l = .yes k r) := by show _ = _; rw [cntR, hu]; simp only [hp]; rw [if_neg (by omega)]
          clear hu hp hxl HP
          go_enter Try.func31, Try.ntmps31
          go_wp2_with (first
            | (go_at_call 40; refine (HLN _).mono ?_; rintro e w1 ⟨hQ, hw⟩; have hQ2 : e = _ := hQ; subst hQ2; have hw2 := hw.symm; subst hw2; clear hQ)
            | (go_at_call 41; refine (HPN _).mono ?_; rintro e w3 ⟨rfl, rfl⟩; dsimp only [i64R, Option.getD_some, Option.isSome_some]))
          go_ret3
          refine ⟨?_, rfl⟩
          rw [HC.out]
          rfl

/-- What the document's Next leaves. -/
def RefNextR (w w' : World) (m : Nat) (o : Rs (List (List UInt8))) (e : Ending) : Prop :=
  match o with
  | some (some (ws, r)) => ∃ a n c, e = .returned (.tuple #[.slice a n c, .int .i64 ((m : Int) - r.length), .int .i64 1]) ∧ OwnS w' w.heap.size a n c (ws.map bs)
  | none => e = .returned (.tuple #[.slice none 0 0, .int .i64 0, .int .i64 2])
  | some none => e = .returned (.tuple #[.slice none 0 0, .int .i64 0, .int .i64 3])

theorem wordsL_some {l : List UInt8} {ws : List (List UInt8)} (h : wds (l.length + 1) [] l = some ws) (h2 : ws.length ≤ 256) : wordsL l = some ws := by
  rw [wordsL_few, h]; unfold few256; simp only; rw [if_neg (by omega)]
theorem wordsL_long {l : List UInt8} {ws : List (List UInt8)} (h : wds (l.length + 1) [] l = some ws) (h2 : ¬ ws.length ≤ 256) : wordsL l = none := by
  rw [wordsL_few, h]; unfold few256; simp only; rw [if_pos (by omega)]
theorem wordsL_none {l : List UInt8} (h : wds (l.length + 1) [] l = none) : wordsL l = none := by
  rw [wordsL_few, h]; rfl

theorem cut13_take (l : List UInt8) (k : Nat) (hk : k ≤ l.length) (h : ∃ j, k = j + 1 ∧ l[j]? = some 13) : cut13 (l.take k) = l.take (k - 1) := by
  obtain ⟨j, rfl, hj⟩ := h
  have e : (l.take (j + 1)).length - 1 = j := by rw [List.length_take]; omega
  rw [cut13, if_pos]
  · rw [List.dropLast_eq_take, List.take_take, e]; congr 1; omega
  · rw [List.getLast?_eq_getElem?, e, List.getElem?_take, if_pos (by omega)]; exact hj
theorem cut13_keep (l : List UInt8) (k : Nat) (hk : k ≤ l.length) (h : ∀ j, k = j + 1 → l[j]? ≠ some 13) : cut13 (l.take k) = l.take k := by
  rw [cut13, if_neg]
  intro h2
  rw [List.getLast?_eq_getElem?] at h2
  have hk1 : (l.take k).length - 1 < (l.take k).length := (List.getElem?_eq_some_iff.1 h2).1
  rw [List.length_take] at hk1
  have e : (l.take k).length - 1 = k - 1 := by rw [List.length_take]; omega
  rw [e, List.getElem?_take, if_pos (by omega)] at h2
  exact h (k - 1) (by omega) h2
end Go.Proofs.Ytkoepgjdjbmknaa
