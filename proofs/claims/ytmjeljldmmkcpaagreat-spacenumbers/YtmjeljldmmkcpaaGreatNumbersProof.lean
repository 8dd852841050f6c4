/-
 PROVED: tallboylaw16.SpaceNumbers answers true (chapter 16's runs, each call on keys that are there, and not, and whose time comes), and nothing that was in memory has turned.
 Conditions: none.
-/
import Derived.Test.YtmjeljldmmkcpaaGreatK42
import Derived.Test.YtmjeljldmmkcpaaGreatOw
import Derived.Test.YtmjeljldmmkcpaaGreatNuC
namespace Go.Proofs.YtmjeljldmmkcpaaGreat
open Go.ChangeShapes Go.WideShapes Go.ChangeAt Go.RowKit
open Go.ChangeMaps (open_string)

set_option maxRecDepth 100000 in
theorem spaceNumbers_lifted (os : Os) (started : os.Started) (H : Type) (enc : TypeId × Value → H) :
  ReturnsInHanded {} Tryz.checked os 3 .any (Rows.spaceNumbersSpec.pre6 enc Tryz.prog Tryz.f3 Rows.spaceNumbersRow.domain false) (Rows.spaceNumbersSpec.post enc Tryz.prog Tryz.f3 false true false false) := by
 refine returnsInHanded_of_change (C := Tryz.checked) Tryz.own started (by kernel_rfl) Tryz.func3
  (ChangeSpec.witness6 (enc := enc) (C := Tryz.checked) false ⟨#[], #[], []⟩ 8 (by kernel_rfl) (by kernel_rfl) (by kernel_rfl) (by kernel_rfl)) ?_
 intro W base args ds gs before hval0 hW _ _
 have hval : ∀ (j : Nat) t v, Tryz.f3.params[j]? = some t → args[j]? = some v → Value.okWide Tryz.prog W .any base t v := hval0
 have hW' := hW
 obtain ⟨p, q, hA0, hV, rfl, hfz, hnd⟩ := hW
 have hA : DataW.TrodAll enc Tryz.prog W 0 (fun _ => true) true Tryz.f3.params.toList args.toList ds p := hA0
 rw [Tryz.params3] at hA hval
 obtain ⟨rfl, rfl, rfl⟩ := trodAll_none hA
 obtain ⟨rfl, rfl⟩ := trodVars_none hV
 have hwalk : Calls Tryz.prog 3 #[] W fun e w' => e = .returned (.bool true) ∧ Below W.heap.size W w' := Sq.numbers_any W
 refine hwalk.mono fun e W' ⟨he, hb⟩ => ?_
 subst he
 refine ⟨_, rfl, law_post (P := Tryz.prog) Tryz.laidOut ?_ (by kernel_rfl) Tryz.underlying4 rfl rfl hW' hb⟩
 rw [Tryz.params3]
 intro t ht
 simp at ht

theorem spaceNumbers_holds : Rows.SpaceNumbersSaid :=
 OpenClaim.holds_of_wide 3 Tryz.f3 rfl rfl rfl rfl rfl rfl rfl ⟨rfl, rfl, rfl, rfl, rfl⟩ rfl rfl rfl rfl rfl (by kernel_rfl) Tryz.func3 numbers_closed
  (of_decide_eq_true (by kernel_rfl)) (by unfold Func.isWrapper; rw [if_neg (of_decide_eq_false (by kernel_rfl))]; exact ⟨rfl, rfl⟩)
  (fun os started H enc _ => spaceNumbers_lifted os started H enc)
#print axioms spaceNumbers_holds
end Go.Proofs.YtmjeljldmmkcpaaGreat
