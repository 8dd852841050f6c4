/-
  append(l, x...) at rows of texts.
-/
import Derived.Test.YtkoepgjdjbmknaaRr
namespace Go.Proofs.Ytkoepgjdjbmknaa
open Go.RowKit Go.PlainAid

/-- A slice that reads the texts ls, with its room. -/
structure RdL (w : World) (a : Option Addr) (n cap : Nat) (ls : List ByteArray) : Prop where
  rd : RdS w a n ls
  fit : n ≤ cap
  max : cap ≤ maxLen
  nul : a = none → cap = 0
theorem RdL.keep {w wn : World} {a : Option Addr} {n cap : Nat} {ls : List ByteArray} (h : RdL w a n cap ls) (hb : Below w.heap.size w wn) : RdL wn a n cap ls := ⟨h.rd.keep hb, h.fit, h.max, h.nul⟩
theorem OwnS.rl {w : World} {B : Nat} {a : Option Addr} {n cap : Nat} {ls : List ByteArray} (h : OwnS w B a n cap ls) : RdL w a n cap ls := by
  refine ⟨h.rd, ?_, ?_, ?_⟩
  all_goals
    rcases h.2 with ⟨h2, h3⟩ | ⟨g, c, cur, h1, h3, h4, h5, h6, h7⟩
  · cases h2; omega
  · cases h1; exact h5
  · cases h2; decide
  · cases h1; exact h6
  · cases h2; intro; rfl
  · cases h1; intro e; cases e

/-- append(l, x...) at rows of texts. -/
theorem run_append_strs (w : World) (B : Nat) (a : Option Addr) (n cap : Nat) (ls : List ByteArray) (hown : OwnS w B a n cap ls) (a' : Option Addr) (n' cap' : Nat) (rs : List ByteArray) (hr : RdL w a' n' cap' rs) (hb : n + n' ≤ 1000000) (hB : B ≤ w.heap.size) (ty : TypeId) :
    ∃ a2 c2 w2, (Builtin.append_ #[22, 22] ty #[.slice a n cap, .slice a' n' cap']).run Try.prog w = .ok (.slice a2 (n + n') c2) w2 ∧ OwnS w2 B a2 (n + n') c2 (ls ++ rs) ∧ Below B w w2 := by
  obtain ⟨i0, hi, hz0, hz1, hz2⟩ := info_parts Try.info9
  have hblk : ∀ k, (Value.slice a n cap).ownBlock = some k → B ≤ k := fun k hk => (hown.lt k hk).1
  cases a' with
  | none =>
    have hrl := hr.rd.len
    have hc0 := hr.nul rfl
    have hf := hr.fit
    have hn0 : n' = 0 := by omega
    subst hn0
    subst hc0
    have hr0 : rs = [] := List.length_eq_zero_iff.1 hrl
    subst hr0
    refine ⟨a, cap, w, ?_, by rw [List.append_nil]; exact hown, Below.refl _ _⟩
    have := run_append_owned_none (P := Try.prog) w B 22 ty 9 i0 1 Try.underlying22 hi (.slice a n cap) n (ls.map Value.string) hown
    exact this
  | some ad =>
    have hrun := run_append_own (P := Try.prog) w B 22 ty 9 i0 (.string ⟨#[]⟩) 1 16 Try.underlying22 hi hz0 hz1 hz2 rfl (by decide) (.slice a n cap) n (ls.map Value.string) hown ad n' cap' (rs.map Value.string) (by rw [List.length_map, hr.rd.len]; omega) (fun j u hu => by
      rw [List.getElem?_map] at hu
      have hj : j < rs.length := by
        rcases Nat.lt_or_ge j rs.length with h | h
        · exact h
        · rw [List.getElem?_eq_none h] at hu; cases hu
      obtain ⟨b, off, e, hc⟩ := hr.rd.cell j (by rw [← hr.rd.len]; exact hj)
      cases e
      rw [add_flat, hc, List.getD_eq_getElem?_getD]
      rw [List.getElem?_eq_getElem hj] at hu ⊢
      exact hu) (by simp [Value.oneCell']) (by unfold maxLen; omega) (by omega) hB
    obtain ⟨v', w', h1, h2, h3, -⟩ := hrun
    rw [← List.map_append] at h2
    have hbel : Below B w w' := (Below.refl B w).grown h3 hB hblk
    rcases h2.2 with ⟨rfl, h4⟩ | ⟨g, c, cur, rfl, h4⟩
    · refine ⟨none, 0, w', by rw [h1, h4], ?_, hbel⟩
      rw [h4] at h2 ⊢
      exact h2
    · exact ⟨_, _, w', h1, h2, hbel⟩

theorem append_strs {w : World} {ops : Array Oper} {rest : List Oper} {o : Oper} {ac : Act} {Q : Exit → Act → World → Prop} (hgd : o.guard = none) (s x : Operand) (ho : o.op = .call { callee := .builtin .append, args := #[s, x], argTypes := #[22, 22] })
    (B : Nat) {a : Option Addr} {n cap : Nat} {ls : List ByteArray} (hs : ac.eval s = .slice a n cap) (hown : OwnS w B a n cap ls)
    {a' : Option Addr} {n' cap' : Nat} {rs : List ByteArray} (hx : ac.eval x = .slice a' n' cap') (hr : RdL w a' n' cap' rs) (hb : n + n' ≤ 1000000) (hB : B ≤ w.heap.size)
    (h : ∀ a2 n2 c2 w2, n2 = n + n' → Hid (OwnS w2 B a2 n2 c2 (ls ++ rs)) → Hid (Below B w w2) → wpList Try.prog ops Q rest (ac.put o.dst (.slice a2 n2 c2)) w2) : wpList Try.prog ops Q (o :: rest) ac w := by
  obtain ⟨a2, c2, w2, h1, h2, h3⟩ := run_append_strs w B a n cap ls hown a' n' cap' rs hr hb hB o.type
  refine wpList_plain hgd fun K hK => ?_
  unfold Oper.wp
  simp [execOp, ho, resolve, invoke, builtin, hs, hx, h1, Result.andThen]
  exact hK _ _ (h a2 _ c2 w2 rfl h2 h3)
end Go.Proofs.Ytkoepgjdjbmknaa
