/-
  PROVED: for every drawn value, every seed and every text, tallboylaw15.ValueCopies answers true (a copy is the same, and by itself: what is done to it is not seen), its arguments read afterwards as before, and nothing that was in memory has turned.
  Conditions: none.
-/
import Derived.Test.YtikimcbalkhooaaGreatG31
import Derived.Test.YtikimcbalkhooaaGreatCopies
namespace Go.Proofs.YtikimcbalkhooaaGreat
open Go.ChangeShapes Go.WideShapes Go.ChangeAt Go.RowKit
open Go.ChangeMaps (open_string)

set_option maxRecDepth 100000 in
theorem valueCopies_lifted (os : Os) (started : os.Started) (H : Type) (enc : TypeId × Value → H) :
    ReturnsInHanded {} Tryz.checked os 5 .any (Rows.valueCopiesSpec.pre6 enc Tryz.prog Tryz.f5 Rows.valueCopiesRow.domain false) (Rows.valueCopiesSpec.post enc Tryz.prog Tryz.f5 false true false false) := by
  refine returnsInHanded_of_change (C := Tryz.checked) Tryz.own started (by kernel_rfl) Tryz.func5
    (ChangeSpec.witness6 (enc := enc) (C := Tryz.checked) false ⟨#[], #[.agg #[.int .i64 0, .string ⟨#[]⟩, .slice none 0 0, .slice none 0 0], .int .u64 0, .string ⟨#[]⟩], []⟩ 8 (by kernel_rfl) (by kernel_rfl) (by kernel_rfl) (by kernel_rfl)) ?_
  intro W base args ds gs before hval0 hW _ _
  have hval : ∀ (j : Nat) t v, Tryz.f5.params[j]? = some t → args[j]? = some v → Value.okWide Tryz.prog W .any base t v := hval0
  have hW' := hW
  obtain ⟨p, q, hA0, hV, rfl, hfz, hnd⟩ := hW
  have hA : DataW.TrodAll enc Tryz.prog W 0 (fun _ => true) true Tryz.f5.params.toList args.toList ds p := hA0
  rw [Tryz.params5] at hA hval
  obtain ⟨v0, v1, v2, d0, d1, d2, p0, p1, p2, rfl, rfl, rfl, h0, h1, h2⟩ := trodAll_three hA
  obtain ⟨rfl, rfl⟩ := trodVars_none hV
  have hd := drw_of_trod (hval 0 25 v0 rfl rfl) h0
  obtain ⟨seed, rfl, rfl, rfl, hseed⟩ := open_int Tryz.underlying26 (hval 1 26 v1 rfl rfl) h1
  replace hseed : 0 ≤ seed ∧ seed ≤ 18446744073709551615 := by simpa [Lit.wf, IntKind.min, IntKind.max, IntKind.bits, IntKind.signed] using hseed
  obtain ⟨seed, rfl⟩ : ∃ m : Nat, seed = (m : Int) := ⟨seed.toNat, by omega⟩
  obtain ⟨more, rfl, rfl, rfl, hmore⟩ := open_string Tryz.underlying9 (hval 2 9 v2 rfl rfl) h2
  have hwalk : Calls Tryz.prog 5 #[v0, .int .u64 seed, .string more] W fun e w' => e = .returned (.bool true) ∧ Below W.heap.size W w' := copiesV_any v0 seed more W (by omega) hd
  refine hwalk.mono fun e W' ⟨he, hb⟩ => ?_
  subst he
  refine ⟨_, rfl, law_post (P := Tryz.prog) Tryz.laidOut ?_ (by kernel_rfl) Tryz.underlying4 rfl rfl hW' hb⟩
  rw [Tryz.params5]
  have hall : ([25, 26, 9].all fun t => Tryz.prog.readableRec t && decide (t < Tryz.prog.types.size)) = true := by kernel_rfl
  intro t ht
  have := List.all_eq_true.1 hall t (by simpa using ht)
  simpa using this

theorem valueCopies_holds : Rows.ValueCopiesSaid :=
  OpenClaim.holds_of_wide 5 Tryz.f5 rfl rfl rfl rfl rfl rfl rfl ⟨rfl, rfl, rfl, rfl, rfl⟩ rfl rfl rfl rfl rfl (by kernel_rfl) Tryz.func5 (by kernel_rfl)
    (of_decide_eq_true (by kernel_rfl)) (by unfold Func.isWrapper; rw [if_neg (of_decide_eq_false (by kernel_rfl))]; exact ⟨rfl, rfl⟩)
    (fun os started H enc _ => valueCopies_lifted os started H enc)
#print axioms valueCopies_holds
end Go.Proofs.YtikimcbalkhooaaGreat
