/-
  The document's own requests, first part: a line, a number.
-/
import Derived.Test.YtkoepgjdjbmknaaVb
import Derived.Test.YtkoepgjdjbmknaaRt
namespace Go.Proofs.Ytkoepgjdjbmknaa
open Go.RowKit Go.PlainAid

theorem get_lst (s : ByteArray) (i : Nat) (h : i < s.size) : (lst s)[i]? = some (s[i]'h) := by
  have := drop_at s i h
  have h2 := congrArg (·[0]?) this
  simpa using h2
theorem extract_lst (s : ByteArray) (i j : Nat) : s.extract i j = bs (((lst s).drop i).take (j - i)) := by
  rw [← bs_lst (s.extract i j)]
  congr 1
  exact Lib.extract_data s i j

/-- What line answers. -/
def LineR (m : Nat) (o : Rs (List UInt8)) (e : Ending) : Prop :=
  match o with
  | some (some (x, r)) => e = .returned (.tuple #[.string (bs x), .int .i64 ((m : Int) - r.length), .int .i64 1])
  | none => e = .returned (.tuple #[.string ⟨#[]⟩, .int .i64 0, .int .i64 2])
  | some none => e = .returned (.tuple #[.string ⟨#[]⟩, .int .i64 0, .int .i64 3])

set_option maxHeartbeats 2000000 in
set_option maxRecDepth 100000 in
theorem refLine_any (s : ByteArray) (A : Nat) (w : World) (hA : A ≤ s.size) (hs : s.size ≤ 1000000) :
    Calls Try.prog 40 #[.string s, .int .i64 A] w fun e w' => LineR s.size (upR (crlf ((lst s).drop A)) 2 32 ((lst s).drop A)) e ∧ w' = w := by
  obtain ⟨l, hl⟩ : ∃ l, (lst s).drop A = l := ⟨_, rfl⟩
  rw [hl]
  have HL : Hid ((lst s).drop A = l) := hl
  have HLL : Hid (l.length + A = s.size) := by
    show _ = _
    rw [← hl, List.length_drop, len_lst]; omega
  have HG : ∀ j, Hid (l[j]? = (lst s)[A + j]?) := by
    intro j
    show _ = _
    rw [← hl, List.getElem?_drop]
  clear hl
  go_enter Try.func40, Try.ntmps40
  go_wp2
  go_loopg [7] (s.size - A) (fun g iv wr => w = wr ∧ ∃ k : Nat, iv = .int .i64 k ∧ Hid (k + g = s.size) ∧ Hid (A ≤ k) ∧ Hid (∀ j, A + j < k → ¬ (l[j]? = some 13 ∧ l[j + 1]? = some 10)))
  case atStart => exact ⟨rfl, A, rfl, by show _ = _; omega, Nat.le_refl _, fun j hj => by omega⟩
  case round =>
    obtain ⟨rfl, k, rfl, HK, HAK, HNO⟩ := hrel
    have hk63 : k ≤ 1000000 := by have := HK.out; omega
    by_cases hlt : k + 1 < s.size
    · have hltI : (k : Int) + 1 < s.size := by omega
      have hk0 : k < s.size := by omega
      obtain ⟨x, hx⟩ : ∃ c : Int, ((s[k]'hk0).toNat : Int) = c := ⟨_, rfl⟩
      obtain ⟨y, hy⟩ : ∃ c : Int, ((s[k + 1]'hlt).toNat : Int) = c := ⟨_, rfl⟩
      have hxb := byte_in _ hx
      have hyb := byte_in _ hy
      have HX : Hid (l[k - A]? = some (s[k]'hk0)) := by
        show _ = _
        rw [(HG (k - A)).out, show A + (k - A) = k by have := HAK.out; omega, get_lst s k hk0]
      have HY : Hid (l[k - A + 1]? = some (s[k + 1]'hlt)) := by
        show _ = _
        rw [(HG (k - A + 1)).out, show A + (k - A + 1) = k + 1 by have := HAK.out; omega, get_lst s (k + 1) hlt]
      have HX2 : Hid (s[k]'hk0 = 13 ↔ x = 13) := byte_is hx 13
      have HY2 : Hid (s[k + 1]'hlt = 10 ↔ y = 10) := byte_is hy 10
      by_cases h13 : x = 13
      · by_cases h10 : y = 10
        · have HC : Hid (crlf l = some (k - A)) := by
            refine crlf_eq (by rw [HX.out, HX2.out.2 h13]) (by rw [HY.out, HY2.out.2 h10]) fun j hj => HNO.out j (by omega)
          obtain ⟨I, hI⟩ : ∃ I : Nat, I = k - A := ⟨_, rfl⟩
          have hIs : (k : Int) - A = (I : Int) := by have := HAK.out; omega
          have HI : Hid (I = k - A) := hI
          clear hI
          by_cases hg : (32 : Int) < (I : Int)
          · have HU : Hid (upR (crlf l) 2 32 l = .wrong) := by
              show _ = _
              rw [HC.out, upR, if_pos (by have := HI.out; omega)]
            subst h13
            subst h10
            clear HX HY HX2 HY2
            go_wp2
            go_ret3
            refine ⟨?_, rfl⟩
            rw [HU.out]
            rfl
          · have HU : Hid (upR (crlf l) 2 32 l = .yes (l.take I) (l.drop (I + 2))) := by
              show _ = _
              rw [HC.out, upR, if_neg (by have := HI.out; omega), ← HI.out]
            have hE : s.extract A k = bs (l.take I) := by rw [extract_lst, HL.out, HI.out]
            have HR : Hid ((s.size : Int) - ((l.drop (I + 2)).length : Nat) = (k : Int) + 2) := by
              have h1 := HI.out
              have h2 := HLL.out
              have h3 := HAK.out
              show _ = _
              rw [List.length_drop]; omega
            have hak := HAK.out
            subst h13
            subst h10
            clear HX HY HX2 HY2
            go_wp2
            go_ret3
            refine ⟨?_, rfl⟩
            rw [HU.out]
            show _ = _
            rw [HR.out]
            rfl
        · have HN2 : Hid (∀ j, A + j < k + 1 → ¬ (l[j]? = some 13 ∧ l[j + 1]? = some 10)) := by
            intro j hj
            by_cases hjk : A + j < k
            · exact HNO.out j hjk
            · have hjj : j = k - A := by omega
              subst hjj
              rintro ⟨-, h2⟩
              rw [HY.out] at h2
              exact h10 (HY2.out.1 (Option.some.inj h2))
          have hy10 : (y == 10) = false := by simpa using h10
          subst h13
          clear h10 HX HY HX2 HY2
          go_wp2
          go_roundg (gk - 1)
          case measure => have := HK.out; omega
          case rel => exact ⟨rfl, k + 1, by go_num, by have := HK.out; show _ = _; omega, by have := HAK.out; show _ ≤ _; omega, HN2⟩
      · have HN2 : Hid (∀ j, A + j < k + 1 → ¬ (l[j]? = some 13 ∧ l[j + 1]? = some 10)) := by
          intro j hj
          by_cases hjk : A + j < k
          · exact HNO.out j hjk
          · have hjj : j = k - A := by omega
            subst hjj
            rintro ⟨h2, -⟩
            rw [HX.out] at h2
            exact h13 (HX2.out.1 (Option.some.inj h2))
        have hx13 : (x == 13) = false := by simpa using h13
        clear h13 HX HY HX2 HY2
        go_wp2
        go_roundg (gk - 1)
        case measure => have := HK.out; omega
        case rel => exact ⟨rfl, k + 1, by go_num, by have := HK.out; show _ = _; omega, by have := HAK.out; show _ ≤ _; omega, HN2⟩
    · have hltI : ¬ (k : Int) + 1 < s.size := by omega
      have HC : Hid (crlf l = none) := by
        refine crlf_eq_none fun j => ?_
        by_cases hjk : A + j < k
        · exact HNO.out j hjk
        · rintro ⟨-, h2⟩
          have h3 : j + 1 < l.length := (List.getElem?_eq_some_iff.1 h2).1
          have := HLL.out
          omega
      obtain ⟨I, hI⟩ : ∃ I : Nat, I = s.size - A := ⟨_, rfl⟩
      have hIs : (s.size : Int) - A = (I : Int) := by omega
      have HI : Hid (I = l.length) := by have := HLL.out; show _ = _; omega
      clear hI
      by_cases hg : (32 : Int) < (I : Int)
      · have HU : Hid (upR (crlf l) 2 32 l = .wrong) := by
          show _ = _
          rw [HC.out, upR, if_pos (by have := HI.out; omega)]
        go_wp2
        go_ret3
        refine ⟨?_, rfl⟩
        rw [HU.out]
        rfl
      · have HU : Hid (upR (crlf l) 2 32 l = .part) := by
          show _ = _
          rw [HC.out, upR, if_neg (by have := HI.out; omega)]
        go_wp2
        go_ret3
        refine ⟨?_, rfl⟩
        rw [HU.out]
        rfl
end Go.Proofs.Ytkoepgjdjbmknaa
