/-
  PROVED: for every row of bytes and every turn, tallboylaw7.CtrlBuilds answers true (a word that is built slot for slot, in any order, is the same word), its arguments read afterwards as before, and nothing that was in memory has turned.
  Conditions: none.
-/
import Derived.Test.YtmhpaoclbkjohaaLawEnd
import Derived.Test.YtmhpaoclbkjohaaOpen
import Derived.Test.YtmhpaoclbkjohaaBuilds
namespace Go.Proofs.Ytmhpaoclbkjohaa
open Go.ChangeShapes Go.WideShapes Go.ChangeAt Go.RowKit
open Go.ChangeMaps (open_string)

set_option maxRecDepth 100000 in
theorem ctrlBuilds_lifted (os : Os) (started : os.Started) (H : Type) (enc : TypeId × Value → H) :
    ReturnsInHanded {} Try.checked os 7 .any (Rows.ctrlBuildsSpec.pre6 enc Try.prog Try.f7 Rows.ctrlBuildsRow.domain false) (Rows.ctrlBuildsSpec.post enc Try.prog Try.f7 false true false false) := by
  refine returnsInHanded_of_change (C := Try.checked) Try.own started (by kernel_rfl) Try.func7
    (ChangeSpec.witness6 (enc := enc) (C := Try.checked) false ⟨#[], #[.slice none 0 0, .int .i64 0], []⟩ 8 (by kernel_rfl) (by kernel_rfl) (by kernel_rfl) (by kernel_rfl)) ?_
  intro W base args ds gs before hval0 hW _ _
  have hval : ∀ (j : Nat) t v, Try.f7.params[j]? = some t → args[j]? = some v → Value.okWide Try.prog W .any base t v := hval0
  have hW' := hW
  obtain ⟨p, q, hA0, hV, rfl, hfz, hnd⟩ := hW
  have hA : DataW.TrodAll enc Try.prog W 0 (fun _ => true) true Try.f7.params.toList args.toList ds p := hA0
  rw [Try.params7] at hA hval
  obtain ⟨v0, v1, d0, d1, p0, p1, rfl, rfl, rfl, h0, h1⟩ := trodAll_two hA
  obtain ⟨rfl, rfl⟩ := trodVars_none hV
  obtain ⟨a0, len0, cap0, rfl⟩ := okWide_slice Try.underlying30 (hval 0 30 v0 rfl rfl)
  obtain ⟨b, hb⟩ := bytes_of_trod h0
  obtain ⟨turn, rfl, rfl, rfl, hturn⟩ := open_int Try.underlying3 (hval 1 3 v1 rfl rfl) h1
  replace hturn : -9223372036854775808 ≤ turn ∧ turn ≤ 9223372036854775807 := by simpa [Lit.wf, IntKind.min, IntKind.max, IntKind.bits, IntKind.signed] using hturn
  have hwalk : Calls Try.prog 7 #[.slice a0 len0 cap0, .int .i64 turn] W fun e w' => e = .returned (.bool true) ∧ Below W.heap.size W w' := builds_any a0 len0 cap0 b turn W hb
  refine hwalk.mono fun e W' ⟨he, hb⟩ => ?_
  subst he
  refine ⟨_, rfl, law_post (P := Try.prog) Try.laidOut ?_ (by kernel_rfl) Try.underlying4 rfl rfl hW' hb⟩
  rw [Try.params7]
  have hall : ([30, 3].all fun t => Try.prog.readableRec t && decide (t < Try.prog.types.size)) = true := by kernel_rfl
  intro t ht
  have := List.all_eq_true.1 hall t (by simpa using ht)
  simpa using this

theorem ctrlBuilds_holds : Rows.CtrlBuildsSaid :=
  OpenClaim.holds_of_wide 7 Try.f7 rfl rfl rfl rfl rfl rfl rfl ⟨rfl, rfl, rfl, rfl, rfl⟩ rfl rfl rfl rfl rfl (by kernel_rfl) Try.func7 (by kernel_rfl)
    (of_decide_eq_true (by kernel_rfl)) (by unfold Func.isWrapper; rw [if_neg (of_decide_eq_false (by kernel_rfl))]; exact ⟨rfl, rfl⟩)
    (fun os started H enc _ => ctrlBuilds_lifted os started H enc)
#print axioms ctrlBuilds_holds
end Go.Proofs.Ytmhpaoclbkjohaa
