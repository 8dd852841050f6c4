/-
  PROVED: for every Config, every row of numbers and every time, tallboylaw16.SpaceRenames answers true (a key that is renamed, again and again, has what it had, and when it ends; where it was nothing is), its arguments read afterwards as before, and nothing that was in memory has turned.
  Conditions: none.
-/
import Derived.Test.YtmjeljldmmkcpaaGreatOpC
namespace Go.Proofs.YtmjeljldmmkcpaaGreat
open Go.ChangeShapes Go.WideShapes Go.ChangeAt Go.RowKit
open Go.ChangeMaps (open_string)

set_option maxRecDepth 100000 in
theorem spaceRenames_lifted (os : Os) (started : os.Started) (H : Type) (enc : TypeId × Value → H) :
    ReturnsInHanded {} Tryz.checked os 8 .any (Rows.spaceRenamesSpec.pre6 enc Tryz.prog Tryz.f8 Rows.spaceRenamesRow.domain false) (Rows.spaceRenamesSpec.post enc Tryz.prog Tryz.f8 false true false false) := by
  refine returnsInHanded_of_change (C := Tryz.checked) Tryz.own started (by kernel_rfl) Tryz.func8
    (ChangeSpec.witness6 (enc := enc) (C := Tryz.checked) false ⟨#[], #[.agg #[.int .u64 0, .int .i64 0, .int .i64 0], .slice none 0 0, .int .i64 0], []⟩ 8 (by kernel_rfl) (by kernel_rfl) (by kernel_rfl) (by kernel_rfl)) ?_
  intro W base args ds gs before hval0 hW _ _
  have hval : ∀ (j : Nat) t v, Tryz.f8.params[j]? = some t → args[j]? = some v → Value.okWide Tryz.prog W .any base t v := hval0
  have hW' := hW
  obtain ⟨p, q, hA0, hV, rfl, hfz, hnd⟩ := hW
  have hA : DataW.TrodAll enc Tryz.prog W 0 (fun _ => true) true Tryz.f8.params.toList args.toList ds p := hA0
  rw [Tryz.params8] at hA hval
  obtain ⟨v0, v1, v2, d0, d1, d2, p0, p1, p2, rfl, rfl, rfl, h0, h1, h2⟩ := trodAll_three hA
  obtain ⟨rfl, rfl⟩ := trodVars_none hV
  obtain ⟨cx, cE, cT, hcx, rfl⟩ := cfg_of_trod (hval 0 31 v0 rfl rfl) h0
  obtain ⟨a1, len1, cap1, rfl⟩ := okWide_slice Tryz.underlying46 (hval 1 46 v1 rfl rfl)
  obtain ⟨l, hl⟩ := ints_of_trod h1
  obtain ⟨u, rfl, rfl, rfl, hu⟩ := open_int Tryz.underlying2 (hval 2 2 v2 rfl rfl) h2
  replace hu : -9223372036854775808 ≤ u ∧ u ≤ 9223372036854775807 := by simpa [Lit.wf, IntKind.min, IntKind.max, IntKind.bits, IntKind.signed] using hu
  have hwalk : Calls Tryz.prog 8 #[.agg #[.int .u64 (cx : Nat), .int .i64 cE, .int .i64 cT], .slice a1 len1 cap1, .int .i64 u] W fun e w' => e = .returned (.bool true) ∧ Below W.heap.size W w' := Sq.renames_any cx cE cT a1 len1 cap1 l u W hcx hl
  refine hwalk.mono fun e W' ⟨he, hb⟩ => ?_
  subst he
  refine ⟨_, rfl, law_post (P := Tryz.prog) Tryz.laidOut ?_ (by kernel_rfl) Tryz.underlying4 rfl rfl hW' hb⟩
  rw [Tryz.params8]
  have hall : ([31, 46, 2].all fun t => Tryz.prog.readableRec t && decide (t < Tryz.prog.types.size)) = true := by kernel_rfl
  intro t ht
  have := List.all_eq_true.1 hall t (by simpa using ht)
  simpa using this

theorem spaceRenames_holds : Rows.SpaceRenamesSaid :=
  OpenClaim.holds_of_wide 8 Tryz.f8 rfl rfl rfl rfl rfl rfl rfl ⟨rfl, rfl, rfl, rfl, rfl⟩ rfl rfl rfl rfl rfl (by kernel_rfl) Tryz.func8 (by kernel_rfl)
    (of_decide_eq_true (by kernel_rfl)) (by unfold Func.isWrapper; rw [if_neg (of_decide_eq_false (by kernel_rfl))]; exact ⟨rfl, rfl⟩)
    (fun os started H enc _ => spaceRenames_lifted os started H enc)
#print axioms spaceRenames_holds
end Go.Proofs.YtmjeljldmmkcpaaGreat
