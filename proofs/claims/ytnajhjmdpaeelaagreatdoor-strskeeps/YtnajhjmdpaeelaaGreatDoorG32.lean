/- Texts that the others stand on. -/
import Derived.Test.YtnajhjmdpaeelaaGreatDoorG31
namespace Go.Proofs.YtnajhjmdpaeelaaGreatDoor.Sq
open Go.RowKit Go.PlainAid
open Dk (ptr below_drewN alloc_below step_below add_flat OwnR OwnP Mv pcells Elt elt_of)
open Cy (RdS OwnS whyP cP nameP cmdP takesB longB cutB)
theorem OwnS.lit (w : World) (B : Nat) (ls : List ByteArray) (hn : ls.length ≤ 300) (hB : B ≤ w.heap.size) : OwnS (w.alloc (.cells (ls.map Value.string).toArray 9)) B (some ⟨w.heap.size, 0, none⟩) ls.length ls.length ls := by
  refine ⟨by simp, .inr ⟨w.heap.size, ls.length, (ls.map Value.string).toArray, rfl, hB, heap_alloc_new w _, Nat.le_refl _, by unfold maxLen; omega, by simp, ?_⟩⟩
  simp only [Nat.mul_one]
  exact List.take_of_length_le (by simp)
theorem OwnS.ars {w : World} {B : Nat} {a : Option Addr} {n c : Nat} {ls : List ByteArray} (h : OwnS w B a n c ls) : Ars w a n ls ∧ n ≤ c := by
  rcases h.2 with ⟨h2, h3⟩ | ⟨g, c', cur, h1, h3, h4, h5, h6, h7⟩
  · refine ⟨⟨h.rd, fun ad e => ?_⟩, ?_⟩
    · cases h2; cases e
    · cases h2; omega
  · refine ⟨⟨h.rd, fun ad e => ?_⟩, ?_⟩
    · cases h1; cases e; exact ⟨cur, 9, h4, by decide⟩
    · cases h1; exact h5
/-- The law's world. -/
structure Lw (w wx : World) (s : Nat) (NM : List ByteArray) (M : AbT) (V : ByteArray → Int) : Prop where
  bel : Below w.heap.size w wx
  seen : Seen wx (fun k => w.heap.size ≤ k) s 1 NM 0 M V
  vle : Vle V 100
section
variable {w wx wy : World} {s : Nat} {NM : List ByteArray} {M M' : AbT} {V V' : ByteArray → Int}
theorem Lw.keep (h : Lw w wx s NM M V) (hb : Below wx.heap.size wx wy) : Lw w wy s NM M V := ⟨h.bel.trans (hb.mono h.bel.size), h.seen.keep hb, h.vle⟩
theorem Lw.step (h : Lw w wx s NM M V) (hb : Behind wx wy (fun k => w.heap.size ≤ k) s 1 NM 0 M' V') (hv : Vle V' 100) : Lw w wy s NM M' V' := ⟨hb.mb.low h.bel, hb.seen, hv⟩
end
theorem Seen.mvt {w w' : World} {U : Own} {s x : Nat} {NM : List ByteArray} {t : Int} {M : AbT} {V : ByteArray → Int} (h : Seen w U s x NM t M V) {p : TypeId → Bool} (hm : Mv p w w') (hp : ∀ k, vtag k = true → p k = false) : Seen w' U s x NM t M V := by
  obtain ⟨A, M0, V0, h1, h2, h3⟩ := h
  exact ⟨A, M0, V0, ⟨h1.spc.mv hm (fun k hk => hp k (vtag_s k hk)), h1.val.mv hm (hp _ (by decide)), h1.pos⟩, h2, h3⟩
theorem not9 : ∀ k, vtag k = true → (k == 9) = false := fun k hk => by
  cases e : k == 9 with
  | false => rfl
  | true =>
    rw [eq_of_beq e] at hk
    exact absurd hk (by decide)
/-- out = append(out, s): of other types nothing turns. -/
theorem append_g {w : World} {ops : Array Oper} {rest : List Oper} {o : Oper} {ac : Act} {Q : Exit → Act → World → Prop} (hgd : o.guard = none) (s x : Operand) (ho : o.op = .call { callee := .builtin .append, args := #[s, x], argTypes := #[30, 30] })
    (B : Nat) {a : Option Addr} {n cap : Nat} {ls : List ByteArray} (hs : ac.eval s = .slice a n cap) (hown : OwnS w B a n cap ls)
    {g : Nat} {t : ByteArray} (hx : ac.eval x = .slice (some ⟨g, 0, none⟩) 1 1) (hr : w.cell? ⟨g, 0, none⟩ = some (.string t)) (hb : n + 1 ≤ 1000000) (hB : B ≤ w.heap.size)
    (h : ∀ a2 n2 c2 w2, n2 = n + 1 → OwnS w2 B a2 n2 c2 (ls ++ [t]) → Below B w w2 → Mv (fun y => y == 9) w w2 → wpList Tryz.prog ops Q rest (ac.put o.dst (.slice a2 n2 c2)) w2) : wpList Tryz.prog ops Q (o :: rest) ac w := by
  obtain ⟨i0, hi, hz0, hz1, hz2⟩ := info_parts Cy.Tryz.info9
  refine wpList_append_own w hgd s x 30 ho B 9 i0 (.string ⟨#[]⟩) 1 16 Tryz.underlying30 hi hz0 hz1 hz2 rfl (by decide) (.slice a n cap) n (ls.map Value.string) hs hown ⟨g, 0, none⟩ 1 1 [.string t] hx rfl ?_ (by simp [Value.oneCell']) (by unfold maxLen; omega) (by omega) hB ?_
  · intro j u hu
    cases j with
    | zero => rw [add_flat, hr]; exact hu
    | succ j => simp at hu
  · intro v' w' h1 h2 _
    have hbel : Below B w w' := (Below.refl B w).grown h2 hB (fun k hk => (hown.lt k hk).1)
    have hmv : Mv (fun y => y == 9) w w' := ⟨h2.os, h2.tape, h2.output, h2.size, fun k cs ty hk ht => h2.block k (Array.getElem?_eq_some_iff.1 hk).1 (fun e => by
      rcases hown.2 with ⟨h3, -⟩ | ⟨g', c', cur, h3, h4, h5, -⟩
      · cases h3; cases e
      · cases h3
        cases e
        rw [h5] at hk
        injection hk with hk
        injection hk with _ hk
        rw [← hk] at ht
        cases ht)⟩
    have e1 : ls.map Value.string ++ [.string t] = (ls ++ [t]).map Value.string := by rw [List.map_append]; rfl
    rw [e1] at h1
    rcases h1.2 with ⟨rfl, h3⟩ | ⟨g, c, cur, rfl, h3⟩
    · omega
    · exact h _ _ _ w' rfl h1 hbel hmv
theorem Lw.mvt {w wx wy : World} {s : Nat} {NM : List ByteArray} {M : AbT} {V : ByteArray → Int} (h : Lw w wx s NM M V) (hb : Below w.heap.size wx wy) (hm : Mv (fun y => y == 9) wx wy) : Lw w wy s NM M V := ⟨h.bel.trans hb, h.seen.mvt hm not9, h.vle⟩
end Go.Proofs.YtnajhjmdpaeelaaGreatDoor.Sq
