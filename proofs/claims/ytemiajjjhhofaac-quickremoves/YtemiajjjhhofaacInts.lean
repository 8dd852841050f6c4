/-
  Rows of ints in memory: a slice that reads the numbers ls (RdI), a row of the call's own (OwnI), what append of one number makes of it.
-/
import Derived.Test.YtemiajjjhhofaacSl0
import Derived.Deep.OwnRows
import Derived.Laws.AppendOwnNone
import Derived.Laws.Rows
import Derived.Laws.Tables
namespace Go.Proofs.Ytemiajjjhhofaac
open Go.RowKit Go.PlainAid

/-- A slice that reads the numbers ls. -/
structure RdI (w : World) (a : Option Addr) (n : Nat) (ls : List Nat) : Prop where
  len : ls.length = n
  max : n ≤ maxLen
  cell : ∀ j, j < n → ∃ b off, a = some ⟨b, off, none⟩ ∧ w.cell? ⟨b, off + j, none⟩ = some (.int .i64 (ls.getD j 0 : Nat))
theorem RdI.keep {w wn : World} {a : Option Addr} {n : Nat} {ls : List Nat} (h : RdI w a n ls) (hb : Below w.heap.size w wn) : RdI wn a n ls :=
  ⟨h.len, h.max, fun j hj => by
    obtain ⟨b, off, e, hc⟩ := h.cell j hj
    exact ⟨b, off, e, by rw [hb.cell (p := ⟨b, off + j, none⟩) (World.block_lt_of_cell? _ _ hc)]; exact hc⟩⟩

/-- The numbers as cells. -/
def icells (ls : List Nat) : List Value := ls.map fun (b : Nat) => Value.int .i64 (b : Int)
theorem icells_append (l r : List Nat) : icells (l ++ r) = icells l ++ icells r := List.map_append ..
/-- A row of numbers of the call's own. -/
def OwnI (w : World) (B : Nat) (a : Option Addr) (n cap : Nat) (ls : List Nat) : Prop := w.ownsRow B 3 1 (.slice a n cap) n (icells ls)
theorem OwnI.nil (w : World) (B : Nat) : OwnI w B none 0 0 [] := World.ownsRow_nil w B 3 1
theorem OwnI.len {w : World} {B : Nat} {a : Option Addr} {n cap : Nat} {ls : List Nat} (h : OwnI w B a n cap ls) : ls.length = n := by
  have := h.1; simpa [icells] using this
theorem OwnI.keep {w wn : World} {B : Nat} {a : Option Addr} {n cap : Nat} {l : List Nat} (h : OwnI w B a n cap l) (hb : Below w.heap.size w wn) : OwnI wn B a n cap l := by
  refine ⟨h.1, ?_⟩
  rcases h.2 with h2 | ⟨g, c, cur, h1, h3, h4, h5⟩
  · exact .inl h2
  · refine .inr ⟨g, c, cur, h1, h3, ?_, h5⟩
    rw [hb.block g (Array.getElem?_eq_some_iff.1 h4).1]; exact h4
theorem OwnI.kept {w wn : World} {B : Nat} {a : Option Addr} {n cap : Nat} {l : List Nat} {row : Option Nat} (h : OwnI w B a n cap l) (hg : w.grownBy wn row) (hne : ∀ g, a = some ⟨g, 0, none⟩ → row ≠ some g) : OwnI wn B a n cap l := by
  refine ⟨h.1, ?_⟩
  rcases h.2 with h2 | ⟨g, c, cur, h1, h3, h4, h5⟩
  · exact .inl h2
  · refine .inr ⟨g, c, cur, h1, h3, ?_, h5⟩
    cases h1
    rw [hg.block g (Array.getElem?_eq_some_iff.1 h4).1 (fun e => hne g rfl e.symm)]; exact h4
theorem OwnI.rd {w : World} {B : Nat} {a : Option Addr} {n cap : Nat} {ls : List Nat} (h : OwnI w B a n cap ls) : RdI w a n ls := by
  have hl := h.len
  rcases h.2 with ⟨h2, h3⟩ | ⟨g, c, cur, h1, h3, h4, h5, h6, h7, h8⟩
  · cases h2
    exact RdI.mk hl (by rw [h3]; decide) (fun j hj => absurd hj (by omega))
  · cases h1
    refine RdI.mk hl (Nat.le_trans h5 h6) (fun j hj => ⟨g, 0, rfl, ?_⟩)
    have := h.cells (g := g) rfl j (.int .i64 (ls.getD j 0 : Nat)) (by
      simp only [icells, List.getElem?_map, List.getD_eq_getElem?_getD]
      rw [List.getElem?_eq_getElem (by omega)]; rfl)
    rw [add_flat] at this
    rw [Nat.zero_add] at this ⊢
    exact this
theorem Try.info3 : (Try.prog.info? 3).map (fun i => (i.zero, i.size, i.bytes)) = some (some (.int .i64 0), 1, 8) := by kernel_rfl

theorem OwnI.below {w w2 : World} {B : Nat} {a : Option Addr} {n cap : Nat} {ls : List Nat} (h : OwnI w B a n cap ls) (hg : w.grownBy w2 (a.map (·.block))) (hB : B ≤ w.heap.size) : Below B w w2 := by
  have hblk : (Value.slice a n cap).ownBlock = a.map (·.block) := by cases a <;> rfl
  rw [← hblk] at hg
  exact (Below.refl B w).grown hg hB (fun k hk => (h.lt k hk).1)

end Go.Proofs.Ytemiajjjhhofaac
