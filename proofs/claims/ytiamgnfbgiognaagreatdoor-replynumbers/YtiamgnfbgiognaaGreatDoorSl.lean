/-
  Cut, Within, rows that grow; made.
-/
import Derived.Test.YtiamgnfbgiognaaGreatDoorSk
namespace Go.Proofs.YtiamgnfbgiognaaGreatDoor
open Go.RowKit Go.PlainAid

def cutB (s : ByteArray) (n : Int) : ByteArray := if n < (s.size : Int) then s.extract 0 n.toNat else s
theorem OwnE.rdA {w : World} {B : Nat} {a : Option Addr} {n c : Nat} {es : List El} {F : Nat → Prop} (h : OwnE w B a n c es) (hF : ∀ g, a.map (·.block) = some g → F g) : RdE w F a n c es := by
  refine ⟨OwnE.len h, (OwnR.cap h).1, (OwnR.cap h).2, fun e => ?_, fun j e he => ?_⟩
  · rcases h.2 with ⟨h2, h3⟩ | ⟨g, c', cur, h1, h3⟩
    · cases h2; rfl
    · cases h1; cases e
  · have hj : j < es.length := (List.getElem?_eq_some_iff.1 he).1
    obtain ⟨g, e1, -⟩ := OwnR.at h (by have := OwnE.len h; omega)
    subst e1
    refine ⟨g, 0, rfl, hF g rfl, ?_⟩
    have := OwnE.cells h he
    simp only [Nat.zero_add]
    exact this
theorem Vls.grown {w w2 : World} {B : Nat} {a a2 : Option Addr} {d : Nat} {es : List El} {ts : List RT} (h : Vls w (fun g => B ≤ g ∧ some g ≠ a.map (·.block)) d es ts) (hg : w.grownBy w2 (a.map (·.block))) (hgo : Goes w a a2) : Vls w2 (fun g => B ≤ g ∧ some g ≠ a2.map (·.block)) d es ts := by
  have h1 : Vls w (fun g => (B ≤ g ∧ some g ≠ a.map (·.block)) ∧ g < w.heap.size) d es ts := h.mono (fun g hl hf => ⟨hf, hl⟩)
  have h2 := h1.keep (w' := w2) (fun g hl hf => hg.block g hl hf.1.2)
  refine h2.mono (fun g _ hf => ⟨hf.1.1, ?_⟩)
  rcases hgo with e | e
  · rw [e]; exact hf.1.2
  · rw [e]; intro e2; cases e2; exact Nat.lt_irrefl _ hf.2
/-- A row of nodes that may be read. -/
structure NdR (w : World) (a : Option Addr) (n : Nat) : Prop where
  max : n ≤ maxLen
  cell : ∀ j, j < n → ∃ b o k p x s, a = some ⟨b, o, none⟩ ∧ w.cell? ⟨b, o + j * 4, none⟩ = some (.int .i64 k) ∧ w.cell? ⟨b, o + j * 4 + 1, none⟩ = some (.int .i64 p) ∧ w.cell? ⟨b, o + j * 4 + 2, none⟩ = some (.int .i64 x) ∧ w.cell? ⟨b, o + j * 4 + 3, none⟩ = some (.string s)
theorem NdR.keep {w w' : World} {a : Option Addr} {n : Nat} (h : NdR w a n) (hb : Below w.heap.size w w') : NdR w' a n :=
  ⟨h.max, fun j hj => by
    obtain ⟨b, o, k, p, x, s, h1, h2, h3, h4, h5⟩ := h.cell j hj
    have hl := World.block_lt_of_cell? w _ h2
    refine ⟨b, o, k, p, x, s, h1, ?_, ?_, ?_, ?_⟩
    · rw [hb.cell (p := ⟨b, o + j * 4, none⟩) hl]; exact h2
    · rw [hb.cell (p := ⟨b, o + j * 4 + 1, none⟩) hl]; exact h3
    · rw [hb.cell (p := ⟨b, o + j * 4 + 2, none⟩) hl]; exact h4
    · rw [hb.cell (p := ⟨b, o + j * 4 + 3, none⟩) hl]; exact h5⟩
theorem RdE.flat {w : World} {F : Nat → Prop} {g o m c : Nat} {es : List El} (h : RdE w F (some ⟨g, o, none⟩) m c es) (j : Nat) (v : Value) (hv : (rcells es)[j]? = some v) : w.cell? ⟨g, o + j, none⟩ = some v := by
  have hj : j < es.length * 4 := by rw [← rcells_len]; exact (List.getElem?_eq_some_iff.1 hv).1
  obtain ⟨e, he⟩ : ∃ e, es[j / 4]? = some e := ⟨_, List.getElem?_eq_getElem (by omega)⟩
  obtain ⟨k0, k1, k2, k3⟩ := rcells_get es (j / 4) e he
  obtain ⟨g', o', e1, -, c0, c1, c2, c3⟩ := h.cell (j / 4) e he
  cases e1
  have hr : j % 4 = 0 ∨ j % 4 = 1 ∨ j % 4 = 2 ∨ j % 4 = 3 := by omega
  rcases hr with hr | hr | hr | hr
  · have hj' : j / 4 * 4 = j := by omega
    rw [hj'] at k0 c0; rw [k0] at hv; rw [c0]; exact hv
  · have hj' : j / 4 * 4 + 1 = j := by omega
    rw [hj'] at k1; rw [Nat.add_assoc, hj'] at c1; rw [k1] at hv; rw [c1]; exact hv
  · have hj' : j / 4 * 4 + 2 = j := by omega
    rw [hj'] at k2; rw [Nat.add_assoc, hj'] at c2; rw [k2] at hv; rw [c2]; exact hv
  · have hj' : j / 4 * 4 + 3 = j := by omega
    rw [hj'] at k3; rw [Nat.add_assoc, hj'] at c3; rw [k3] at hv; rw [c3]; exact hv
/-- What made gives. -/
def RetM (w : World) (q n : Nat) (r : Ending) (w' : World) : Prop := Below w.heap.size w w' ∧ ∃ (e : El) (t : RT) (at' : Nat), r = .returned (.tuple #[e.v, .int .i64 at']) ∧ at' ≤ n ∧ e.m ≤ 4 ∧ (e.m = 0 → e.a = none ∧ e.c = 0) ∧ Vl w' (fun g => w.heap.size ≤ g) q e t
theorem ret_M {fn : Func} {p u : Tmp} (h : fn.results = #[.cell p 24, .tmp u]) {tmps : Array Value} {w : World} {g : Nat} {v0 v1 v2 v3 v : Value} {Q : Ending → World → Prop}
    (hp : tmps.getD p undef = .pointer (some ⟨g, 0, none⟩)) (hv : tmps.getD u undef = v) (hg : w.heap[g]? = some (.cells #[v0, v1, v2, v3] 24 (0, 0))) (hQ : Q (.returned (.tuple #[.agg #[v0, v1, v2, v3], v])) w) : bodyPost Tryz.prog fn Q .ret { tmps := tmps, defers := [] } w := by
  have hr := run_loadVar_row (P := Tryz.prog) w g 24 24 #[v0, v1, v2, v3] (0, 0) _ hg Tryz.underlying24 rfl Tryz.infoR
  have hp' : tmps[p]?.getD undef = .pointer (some ⟨g, 0, none⟩) := by simpa using hp
  have hv' : tmps[u]?.getD undef = v := by simpa using hv
  exact bodyPost_ret (by simp [results, h, hp', hv', asAddr, hr]) rfl hQ
end Go.Proofs.YtiamgnfbgiognaaGreatDoor
