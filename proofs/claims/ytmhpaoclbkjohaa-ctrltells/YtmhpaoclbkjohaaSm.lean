/-
  What lies in memory while the law's own 'same' goes over a word: two arrays and two rows of numbers.
-/
import Derived.Test.YtmhpaoclbkjohaaKeep
namespace Go.Proofs.Ytmhpaoclbkjohaa
open Go.RowKit Go.PlainAid

theorem hid {p : Prop} (h : p) : Hid p := h
theorem Ok.eight {l : List Nat} (h : Ok l) : ∃ s0 s1 s2 s3 s4 s5 s6 s7, l = [s0, s1, s2, s3, s4, s5, s6, s7] := by
  obtain ⟨h, -⟩ := h
  match l, h with
  | [a, b, c, d, e, f, g, i], _ => exact ⟨a, b, c, d, e, f, g, i, rfl⟩
/-- x = *p, an array of eight bytes, behind a guard. -/
theorem load_arr_w {w : World} {ops : Array Oper} {rest : List Oper} {o : Oper} {ac : Act} {Q : Exit → Act → World → Prop} (hgd : Region.wanted o (yielded ops ac.tmps) = true) (p : Operand) (ho : o.op = .load 28 p)
    {g : Nat} {l : List Nat} (hp : ac.eval p = .pointer (some ⟨g, 0, none⟩)) (hA : Arr w g l) (hl : l.length = 8)
    (h : wpList Try.prog ops Q rest (ac.put o.dst (.agg (arr l))) w) : wpList Try.prog ops Q (o :: rest) ac w := by
  have h1 := hA.loadAt hl
  refine BigFrame.wpList_want hgd fun K hK => ?_
  unfold Oper.wp
  simp only [execOp, ho, hp, Sem.run_bind, h1, Result.andThen, Sem.run_pure]
  rw [Oper.upon_value]
  exact hK _ _ h

/-- An array of bytes is no row of numbers. -/
theorem Arr.ne_row {w : World} {B g : Nat} {l ls : List Nat} {a : Option Addr} {n cap : Nat} (h : Arr w g l) (ho : OwnI w B a n cap ls) : a.map (·.block) ≠ some g := by
  rcases ho.2 with ⟨e, -⟩ | ⟨b, c, cur, e, -, h4, -⟩
  · cases e; simp
  · cases e
    intro e
    have hb : b = g := by simpa using e
    subst hb
    have h' : w.heap[b]? = some (.cells (arr l) 28 (0, 0)) := h
    rw [h'] at h4
    simp at h4

structure Sm (w wr : World) (g1 g2 : Nat) (l c : List Nat) (am : Option Addr) (nm cm : Nat) (lm : List Nat) (af : Option Addr) (nf cf : Nat) (lf : List Nat) : Prop where
  below : Below w.heap.size w wr
  old : w.heap.size ≤ g2
  ne : g1 ≠ g2
  a1 : Arr wr g1 l
  a2 : Arr wr g2 c
  m : OwnI wr w.heap.size am nm cm lm
  f : OwnI wr w.heap.size af nf cf lf
  apart : ∀ g, am = some ⟨g, 0, none⟩ → af ≠ some ⟨g, 0, none⟩

variable {w wr wn : World} {g1 g2 : Nat} {l c : List Nat} {am : Option Addr} {nm cm : Nat} {lm : List Nat} {af : Option Addr} {nf cf : Nat} {lf : List Nat}
theorem Sm.keep (h : Sm w wr g1 g2 l c am nm cm lm af nf cf lf) (hb : Below wr.heap.size wr wn) : Sm w wn g1 g2 l c am nm cm lm af nf cf lf :=
  ⟨h.below.trans (hb.mono h.below.size), h.old, h.ne, h.a1.keep hb, h.a2.keep hb, h.m.keep hb, h.f.keep hb, h.apart⟩
theorem own_blk {B : Nat} {a : Option Addr} {n cap : Nat} {ls : List Nat} (h : OwnI w B a n cap ls) {g : Nat} (e : a.map (·.block) = some g) : a = some ⟨g, 0, none⟩ ∧ g < w.heap.size := by
  rcases h.2 with ⟨e', -⟩ | ⟨b, c, cur, e', -, h4, -⟩
  · cases e'; simp at e
  · cases e'
    have hb : b = g := by simpa using e
    subst hb
    exact ⟨rfl, (Array.getElem?_eq_some_iff.1 h4).1⟩
theorem own_lt {B : Nat} {a : Option Addr} {n cap : Nat} {ls : List Nat} (h : OwnI w B a n cap ls) {g : Nat} (e : a = some ⟨g, 0, none⟩) : g < w.heap.size := (own_blk h (g := g) (by rw [e]; rfl)).2
/-- A number more in the first row. -/
theorem Sm.appM (h : Sm w wr g1 g2 l c am nm cm lm af nf cf lf) {a2 : Option Addr} {n2 c2 : Nat} {l2 : List Nat} (hO : OwnI wn w.heap.size a2 n2 c2 l2) (hg : wr.grownBy wn (am.map (·.block))) (hw : Went wr am a2) :
    Sm w wn g1 g2 l c a2 n2 c2 l2 af nf cf lf := by
  refine ⟨h.below.trans (h.m.below hg h.below.size), h.old, h.ne, h.a1.kept hg (h.a1.ne_row h.m), h.a2.kept hg (h.a2.ne_row h.m), hO, h.f.kept hg (fun g e e' => h.apart g (own_blk h.m e').1 e), fun g e e' => ?_⟩
  rcases hw with rfl | ⟨b, hb, hlt⟩
  · exact h.apart g e e'
  · rw [hb] at e
    cases e
    have := own_lt h.f e'
    omega
/-- A number more in the second row. -/
theorem Sm.appF (h : Sm w wr g1 g2 l c am nm cm lm af nf cf lf) {a2 : Option Addr} {n2 c2 : Nat} {l2 : List Nat} (hO : OwnI wn w.heap.size a2 n2 c2 l2) (hg : wr.grownBy wn (af.map (·.block))) (hw : Went wr af a2) :
    Sm w wn g1 g2 l c am nm cm lm a2 n2 c2 l2 := by
  refine ⟨h.below.trans (h.f.below hg h.below.size), h.old, h.ne, h.a1.kept hg (h.a1.ne_row h.f), h.a2.kept hg (h.a2.ne_row h.f), h.m.kept hg (fun g e e' => h.apart g e (own_blk h.f e').1), hO, fun g e e' => ?_⟩
  rcases hw with rfl | ⟨b, hb, hlt⟩
  · exact h.apart g e e'
  · rw [hb] at e'
    cases e'
    have := own_lt h.m e
    omega
theorem row_setCell {B : Nat} {a : Option Addr} {n cap : Nat} {ls : List Nat} (h : OwnI wr B a n cap ls) (ha : Arr wr g2 c) (k : Nat) (v : Value) : OwnI (wr.setCell ⟨g2, k, none⟩ v) B a n cap ls :=
  h.kept (row := some g2) ⟨rfl, rfl, rfl, by simp [World.setCell], fun q _ hr => Deep.blk_setCell_other wr _ v q (fun e => hr (by rw [e]))⟩ (fun g e e' => by
    cases e'
    exact ha.ne_row h (by rw [e]; rfl))
/-- A byte of the second array turned. -/
theorem Sm.setC (h : Sm w wr g1 g2 l c am nm cm lm af nf cf lf) (k b : Nat) : Sm w (wr.setCell ⟨g2, k, none⟩ (.int .u8 (b : Nat))) g1 g2 l (c.set k b) am nm cm lm af nf cf lf :=
  ⟨h.below.setCell h.old _, h.old, h.ne, h.a1.other k _ h.ne, h.a2.set k b, row_setCell h.m h.a2 k _, row_setCell h.f h.a2 k _, h.apart⟩
theorem Sm.reM (h : Sm w wr g1 g2 l c am nm cm lm af nf cf lf) {l2 c2 lm2 lf2 : List Nat} (e2 : c2 = c) (e3 : lm2 = lm) (e4 : lf2 = lf) (e1 : l2 = l) : Sm w wr g1 g2 l2 c2 am nm cm lm2 af nf cf lf2 := by
  subst e1 e2 e3 e4; exact h
end Go.Proofs.Ytmhpaoclbkjohaa
