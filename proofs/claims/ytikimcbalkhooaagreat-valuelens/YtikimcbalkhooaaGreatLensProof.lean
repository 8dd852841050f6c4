/-
  PROVED: for every number, every seed and every text, tallboylaw15.ValueLens answers true (a collection that has nothing is Empty, with one thing it is not; its type never turns), its arguments read afterwards as before, and nothing that was in memory has turned.
  Conditions: none.
-/
import Derived.Test.YtikimcbalkhooaaGreatG31
import Derived.Test.YtikimcbalkhooaaGreatLens
namespace Go.Proofs.YtikimcbalkhooaaGreat
open Go.ChangeShapes Go.WideShapes Go.ChangeAt Go.RowKit
open Go.ChangeMaps (open_string)

set_option maxRecDepth 100000 in
theorem valueLens_lifted (os : Os) (started : os.Started) (H : Type) (enc : TypeId × Value → H) :
    ReturnsInHanded {} Tryz.checked os 6 .any (Rows.valueLensSpec.pre6 enc Tryz.prog Tryz.f6 Rows.valueLensRow.domain false) (Rows.valueLensSpec.post enc Tryz.prog Tryz.f6 false true false false) := by
  refine returnsInHanded_of_change (C := Tryz.checked) Tryz.own started (by kernel_rfl) Tryz.func6
    (ChangeSpec.witness6 (enc := enc) (C := Tryz.checked) false ⟨#[], #[.int .i64 0, .int .u64 0, .string ⟨#[]⟩], []⟩ 8 (by kernel_rfl) (by kernel_rfl) (by kernel_rfl) (by kernel_rfl)) ?_
  intro W base args ds gs before hval0 hW _ _
  have hval : ∀ (j : Nat) t v, Tryz.f6.params[j]? = some t → args[j]? = some v → Value.okWide Tryz.prog W .any base t v := hval0
  have hW' := hW
  obtain ⟨p, q, hA0, hV, rfl, hfz, hnd⟩ := hW
  have hA : DataW.TrodAll enc Tryz.prog W 0 (fun _ => true) true Tryz.f6.params.toList args.toList ds p := hA0
  rw [Tryz.params6] at hA hval
  obtain ⟨v0, v1, v2, d0, d1, d2, p0, p1, p2, rfl, rfl, rfl, h0, h1, h2⟩ := trodAll_three hA
  obtain ⟨rfl, rfl⟩ := trodVars_none hV
  obtain ⟨kind, rfl, rfl, rfl, hkind⟩ := open_int Tryz.underlying3 (hval 0 3 v0 rfl rfl) h0
  replace hkind : -9223372036854775808 ≤ kind ∧ kind ≤ 9223372036854775807 := by simpa [Lit.wf, IntKind.min, IntKind.max, IntKind.bits, IntKind.signed] using hkind
  obtain ⟨seed, rfl, rfl, rfl, hseed⟩ := open_int Tryz.underlying26 (hval 1 26 v1 rfl rfl) h1
  replace hseed : 0 ≤ seed ∧ seed ≤ 18446744073709551615 := by simpa [Lit.wf, IntKind.min, IntKind.max, IntKind.bits, IntKind.signed] using hseed
  obtain ⟨seed, rfl⟩ : ∃ m : Nat, seed = (m : Int) := ⟨seed.toNat, by omega⟩
  obtain ⟨s, rfl, rfl, rfl, hs⟩ := open_string Tryz.underlying9 (hval 2 9 v2 rfl rfl) h2
  have hwalk : Calls Tryz.prog 6 #[.int .i64 kind, .int .u64 seed, .string s] W fun e w' => e = .returned (.bool true) ∧ Below W.heap.size W w' := lens_any kind seed s W (by omega)
  refine hwalk.mono fun e W' ⟨he, hb⟩ => ?_
  subst he
  refine ⟨_, rfl, law_post (P := Tryz.prog) Tryz.laidOut ?_ (by kernel_rfl) Tryz.underlying4 rfl rfl hW' hb⟩
  rw [Tryz.params6]
  have hall : ([3, 26, 9].all fun t => Tryz.prog.readableRec t && decide (t < Tryz.prog.types.size)) = true := by kernel_rfl
  intro t ht
  have := List.all_eq_true.1 hall t (by simpa using ht)
  simpa using this

theorem valueLens_holds : Rows.ValueLensSaid :=
  OpenClaim.holds_of_wide 6 Tryz.f6 rfl rfl rfl rfl rfl rfl rfl ⟨rfl, rfl, rfl, rfl, rfl⟩ rfl rfl rfl rfl rfl (by kernel_rfl) Tryz.func6 (by kernel_rfl)
    (of_decide_eq_true (by kernel_rfl)) (by unfold Func.isWrapper; rw [if_neg (of_decide_eq_false (by kernel_rfl))]; exact ⟨rfl, rfl⟩)
    (fun os started H enc _ => valueLens_lifted os started H enc)
#print axioms valueLens_holds
end Go.Proofs.YtikimcbalkhooaaGreat
