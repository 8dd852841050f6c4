/-
  ReplyUnlike.
-/
import Derived.Test.YtiamgnfbgiognaaGreatDoorSm
namespace Go.Proofs.YtiamgnfbgiognaaGreatDoor
open Go.RowKit Go.PlainAid

theorem unlike_in {k : Int} (h : hasL k = true) (s : ByteArray) (n : Int) (l : List RT) (t : RT) : alikeT (.mk k s n l) (.mk k s n (l ++ [t])) = false ∧ sameT (.mk k s n l) (.mk k s n (l ++ [t])) = false := by
  constructor
  · cases hb : alikeT (.mk k s n l) (.mk k s n (l ++ [t])) with
    | false => rfl
    | true =>
      unfold alikeT at hb
      have h1 := cmpT_zero.1 (of_decide_eq_true hb)
      rw [srt_mk, srt_mk] at h1
      unfold mean at h1
      injection h1 with _ _ _ h1
      rw [if_pos h, if_pos h] at h1
      have := congrArg List.length h1
      rw [ordd_len, ordd_len] at this
      simp at this
  · cases hb : sameT (.mk k s n l) (.mk k s n (l ++ [t])) with
    | false => rfl
    | true =>
      unfold sameT at hb
      have h1 := cmpT_zero.1 (of_decide_eq_true hb)
      rw [can_mk, can_mk] at h1
      unfold mean at h1
      injection h1 with _ _ _ h1
      rw [if_pos h, if_pos h] at h1
      have := congrArg List.length h1
      simp at this
theorem alike_out {k : Int} (h : hasL k = false) (s : ByteArray) (n : Int) (l l' : List RT) : alikeT (.mk k s n l) (.mk k s n l') = true := by
  have e : srt (.mk k s n l) = srt (.mk k s n l') := by
    rw [srt_mk, srt_mk]; unfold mean; simp [h]
  unfold alikeT
  rw [e, cmpT_self]; rfl
/-- append(x, y...) where y is nothing. -/
theorem append_0 {w : World} {ops : Array Oper} {rest : List Oper} {o : Oper} {ac : Act} {Q : Exit → Act → World → Prop} (hgd : o.guard = none) (s x : Operand) (ho : o.op = .call { callee := .builtin .append, args := #[s, x], argTypes := #[22, 22] })
    (B : Nat) {a : Option Addr} {n cap : Nat} {cs : List Value} (hs : ac.eval s = .slice a n cap) (hown : OwnR w B 24 4 a n cap cs) (hx : ac.eval x = .slice none 0 0) (h : wpList Tryz.prog ops Q rest (ac.put o.dst (.slice a n cap)) w) : wpList Tryz.prog ops Q (o :: rest) ac w := by
  obtain ⟨i0, hi, hz0, hz1, hz2⟩ := info_parts Tryz.infoRR
  exact wpList_append_own_none hgd s x 22 ho B 24 i0 4 Tryz.underlying22 hi (.slice a n cap) n cs hs hown hx h
end Go.Proofs.YtiamgnfbgiognaaGreatDoor
