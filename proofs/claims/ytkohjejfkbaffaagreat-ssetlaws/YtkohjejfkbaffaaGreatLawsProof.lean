/-
  PROVED: for every two rows of calls and every seed, tallboylaw14.SsetLaws answers true (two sets' members are those of both, those of the first alone, and those of the second alone; each once), its arguments read afterwards as before, and nothing that was in memory has turned.
  Conditions: none.
-/
import Derived.Test.YtkohjejfkbaffaaGreatG20
import Derived.Test.YtkohjejfkbaffaaGreatLaws
namespace Go.Proofs.YtkohjejfkbaffaaGreat
open Go.ChangeShapes Go.WideShapes Go.ChangeAt Go.RowKit
open Go.ChangeMaps (open_string)

set_option maxRecDepth 100000 in
theorem ssetLaws_lifted (os : Os) (started : os.Started) (H : Type) (enc : TypeId × Value → H) :
    ReturnsInHanded {} Tryz.checked os 6 .any (Rows.ssetLawsSpec.pre6 enc Tryz.prog Tryz.f6 Rows.ssetLawsRow.domain false) (Rows.ssetLawsSpec.post enc Tryz.prog Tryz.f6 false true false false) := by
  refine returnsInHanded_of_change (C := Tryz.checked) Tryz.own started (by kernel_rfl) Tryz.func6
    (ChangeSpec.witness6 (enc := enc) (C := Tryz.checked) false ⟨#[], #[.slice none 0 0, .slice none 0 0, .int .u64 0], []⟩ 8 (by kernel_rfl) (by kernel_rfl) (by kernel_rfl) (by kernel_rfl)) ?_
  intro W base args ds gs before hval0 hW _ _
  have hval : ∀ (j : Nat) t v, Tryz.f6.params[j]? = some t → args[j]? = some v → Value.okWide Tryz.prog W .any base t v := hval0
  have hW' := hW
  obtain ⟨p, q, hA0, hV, rfl, hfz, hnd⟩ := hW
  have hA : DataW.TrodAll enc Tryz.prog W 0 (fun _ => true) true Tryz.f6.params.toList args.toList ds p := hA0
  rw [Tryz.params6] at hA hval
  obtain ⟨v0, v1, v2, d0, d1, d2, p0, p1, p2, rfl, rfl, rfl, h0, h1, h2⟩ := trodAll_three hA
  obtain ⟨rfl, rfl⟩ := trodVars_none hV
  obtain ⟨a0, len0, cap0, rfl⟩ := okWide_slice Tryz.underlying22 (hval 0 22 v0 rfl rfl)
  have ha := asks_of_trod h0
  obtain ⟨a1, len1, cap1, rfl⟩ := okWide_slice Tryz.underlying22 (hval 1 22 v1 rfl rfl)
  have hb := asks_of_trod h1
  obtain ⟨seed, rfl, rfl, rfl, hseed⟩ := open_int Tryz.underlying31 (hval 2 31 v2 rfl rfl) h2
  replace hseed : 0 ≤ seed ∧ seed ≤ 18446744073709551615 := by simpa [Lit.wf, IntKind.min, IntKind.max, IntKind.bits, IntKind.signed] using hseed
  obtain ⟨seed, rfl⟩ : ∃ m : Nat, seed = (m : Int) := ⟨seed.toNat, by omega⟩
  have hwalk : Calls Tryz.prog 6 #[.slice a0 len0 cap0, .slice a1 len1 cap1, .int .u64 seed] W fun e w' => e = .returned (.bool true) ∧ Below W.heap.size W w' := lawsS_any a0 len0 cap0 a1 len1 cap1 seed W (by omega) ha hb
  refine hwalk.mono fun e W' ⟨he, hb⟩ => ?_
  subst he
  refine ⟨_, rfl, law_post (P := Tryz.prog) Tryz.laidOut ?_ (by kernel_rfl) Tryz.underlying4 rfl rfl hW' hb⟩
  rw [Tryz.params6]
  have hall : ([22, 22, 31].all fun t => Tryz.prog.readableRec t && decide (t < Tryz.prog.types.size)) = true := by kernel_rfl
  intro t ht
  have := List.all_eq_true.1 hall t (by simpa using ht)
  simpa using this

theorem ssetLaws_holds : Rows.SsetLawsSaid :=
  OpenClaim.holds_of_wide 6 Tryz.f6 rfl rfl rfl rfl rfl rfl rfl ⟨rfl, rfl, rfl, rfl, rfl⟩ rfl rfl rfl rfl rfl (by kernel_rfl) Tryz.func6 (by kernel_rfl)
    (of_decide_eq_true (by kernel_rfl)) (by unfold Func.isWrapper; rw [if_neg (of_decide_eq_false (by kernel_rfl))]; exact ⟨rfl, rfl⟩)
    (fun os started H enc _ => ssetLaws_lifted os started H enc)
#print axioms ssetLaws_holds
end Go.Proofs.YtkohjejfkbaffaaGreat
