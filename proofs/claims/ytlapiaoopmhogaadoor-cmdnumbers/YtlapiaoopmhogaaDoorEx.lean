/-
  Regions that draw their order and hold a call that makes memory: one walk, in every world that has more at its end alone.
-/
import Derived.Test.YtlapiaoopmhogaaDoorRr
namespace Go.Proofs.YtlapiaoopmhogaaDoor
open Go.RowKit Go.PlainAid

/-- A world that has more than w had, at its end alone. -/
structure Ext (w : World) where
  wx : World
  ok : Below w.heap.size w wx

theorem wp_region_ext {P : Program} {id : Nat} {Q : Exit → Act → World → Prop} {a : Act} {w : World} {l : List Oper} (hm : P.follows .mixedOrders = true) (hB : Region.lexB .any l.toArray = true)
    (h : wpQuiet P l.toArray (fun w' => ∃ x : Ext w, w' = x.wx) (fun a' => ∀ w', (∃ x : Ext w, w' = x.wx) → Q .normal a' w') l a) : (Code.region id l.toArray true).wp P Q a w :=
  wp_region_quiet (C := fun w' => ∃ x : Ext w, w' = x.wx) hm hB ⟨⟨_, (Below.refl _ _).drew⟩, rfl⟩ (by simpa using h)

theorem Calls.ext_of {P : Program} {f : FuncId} {args : Array Value} {w : World} {x : Ext w} {v : Value}
    (h : Calls P f args x.wx fun e w' => Below x.wx.heap.size x.wx w' ∧ e = .returned v) : Calls P f args x.wx fun e w'' => e = .returned v ∧ ∃ y : Ext w, w'' = y.wx :=
  h.mono fun _ w' ⟨hb, he⟩ => ⟨he, ⟨w', x.ok.trans (hb.mono x.ok.size)⟩, rfl⟩
theorem Calls.ext_same {P : Program} {f : FuncId} {args : Array Value} {w : World} {x : Ext w} {v : Value}
    (h : Calls P f args x.wx fun e w' => e = .returned v ∧ w' = x.wx) : Calls P f args x.wx fun e w'' => e = .returned v ∧ ∃ y : Ext w, w'' = y.wx :=
  h.mono fun _ _ ⟨he, hm⟩ => ⟨he, x, hm⟩
end Go.Proofs.YtlapiaoopmhogaaDoor
