/-
  From, the document's All, Find; lists that are the same; some of the chapter's runs.
-/
import Derived.Test.YtemiajjjhhofaacPkS
import Derived.Test.YtemiajjjhhofaacPk2
namespace Go.Proofs.Ytemiajjjhhofaac
open Go.RowKit Go.PlainAid

theorem split_cons (f : Nat) (l : List UInt8) (h : l ≠ []) : split (f + 1) l = match dec1 l with
    | none => none
    | some (s, k) => (split f (l.drop k)).map (bs s :: ·) := by
  cases l with
  | nil => exact absurd rfl h
  | cons x r => rfl
theorem split_nil (f : Nat) : split f [] = some [] := by cases f <;> rfl
theorem decAt_in (l : List UInt8) (x : Nat) (h : x < l.length) : decAt l (x : Nat) = (dec1 (l.drop x)).map fun p => (p.1, x + p.2) := by
  unfold decAt
  rw [if_neg (by omega)]; rfl
theorem drop_ne (l : List UInt8) (x : Nat) (h : x < l.length) : l.drop x ≠ [] := by
  intro e
  have := congrArg List.length e
  rw [List.length_drop] at this
  simp at this
  omega

/-- The first place from i on, going by step, that has s. -/
def fnd (ls : List ByteArray) (s : ByteArray) (step : Nat) : Nat → Nat → Int
  | 0, _ => -1
  | f + 1, i => if i < ls.length then (if txt ls i = s then (i : Int) else fnd ls s step f (i + step)) else -1
theorem fnd_stop (ls : List ByteArray) (s : ByteArray) (step f i : Nat) (h : ls.length ≤ i) : fnd ls s step f i = -1 := by
  cases f with
  | zero => rfl
  | succ f => rw [fnd, if_neg (by omega)]
theorem str_beq (s t : ByteArray) : (s.toList == t.toList) = decide (s = t) := by
  rw [toList_beq]
theorem str_bne (s t : ByteArray) : (s.toList != t.toList) = decide (¬ s = t) := by
  simp [bne, str_beq]

set_option maxRecDepth 100000 in
set_option maxHeartbeats 400000 in
theorem Lists_any (a a' : Option Addr) (n c c' : Nat) (ls : List ByteArray) (w : World) (h : RdS w a n ls) (h' : RdS w a' n ls) :
    Calls Try.prog 11 #[.slice a n c, .slice a' n c'] w fun e w' => Below w.heap.size w w' ∧ e = .returned (.bool true) := by
  have hn : n ≤ 9223372036854775807 := h.max
  have H1 : Hid (RdS w a n ls) := h
  have H2 : Hid (RdS w a' n ls) := h'
  clear h h'
  go_enter Try.func11, Try.ntmps11
  go_wp2
  go_loopg [5] n (fun g iv wr => ∃ i : Nat, i + g = n ∧ iv = .int .i64 i ∧ Hid (Below w.heap.size w wr))
  case atStart => exact ⟨0, by omega, rfl, Below.refl _ _⟩
  case round =>
    obtain ⟨i, hi, rfl, HB⟩ := hrel
    by_cases hin : (i : Int) < n
    · obtain ⟨b, off, ha, hc⟩ := (H1.out.keep HB.out).cell i (by omega)
      obtain ⟨b', off', ha', hc'⟩ := (H2.out.keep HB.out).cell i (by omega)
      subst ha ha'
      have hb2 := str_bne (ls.getD i ByteArray.empty) (ls.getD i ByteArray.empty)
      rw [show decide (¬ ls.getD i ByteArray.empty = ls.getD i ByteArray.empty) = false by simp] at hb2
      generalize ls.getD i ByteArray.empty = s at hc hc' hb2
      go_wp2_with fail
      go_quiet (fail)
      have HB2 : Hid (Below w.heap.size w (wr.drewN nq)) := HB.out.trans ((below_drewN wr nq).mono HB.out.size)
      generalize wr.drewN nq = W at *
      go_wp2
      go_roundg (gk - 1)
      case measure => omega
      case rel => exact ⟨i + 1, by omega, by go_num, HB2⟩
    · go_wp2
      go_ret
      exact ⟨HB.out, rfl⟩
end Go.Proofs.Ytemiajjjhhofaac
