/-
  PROVED: for every row of bytes and every byte, tallboylaw3.GlobClasses answers true (a class of bytes matches each of them alone; with a caret each other one), its arguments read afterwards as before, and nothing that was in memory has turned.
  Conditions: none.
-/
import Derived.Test.YtbmcnbhceogcjaaOpen
namespace Go.Proofs.Ytbmcnbhceogcjaa
open Go.ChangeShapes Go.WideShapes Go.ChangeAt Go.RowKit
open Go.ChangeMaps (open_string)

set_option maxRecDepth 100000 in
theorem globClasses_lifted (os : Os) (started : os.Started) (H : Type) (enc : TypeId × Value → H) :
    ReturnsInHanded {} Try.checked os 6 .any (Rows.globClassesSpec.pre6 enc Try.prog Try.f6 Rows.globClassesRow.domain false) (Rows.globClassesSpec.post enc Try.prog Try.f6 false true false false) := by
  refine returnsInHanded_of_change (C := Try.checked) Try.own started (by kernel_rfl) Try.func6
    (ChangeSpec.witness6 (enc := enc) (C := Try.checked) false ⟨#[], #[.slice none 0 0, .int .u8 0], []⟩ 8 (by kernel_rfl) (by kernel_rfl) (by kernel_rfl) (by kernel_rfl)) ?_
  intro W base args ds gs before hval0 hW _ _
  have hval : ∀ (j : Nat) t v, Try.f6.params[j]? = some t → args[j]? = some v → Value.okWide Try.prog W .any base t v := hval0
  have hW' := hW
  obtain ⟨p, q, hA0, hV, rfl, hfz, hnd⟩ := hW
  have hA : DataW.TrodAll enc Try.prog W 0 (fun _ => true) true Try.f6.params.toList args.toList ds p := hA0
  rw [Try.params6] at hA hval
  obtain ⟨v0, v1, d0, d1, p0, p1, rfl, rfl, rfl, h0, h1⟩ := trodAll_two hA
  obtain ⟨rfl, rfl⟩ := trodVars_none hV
  obtain ⟨a0, len0, cap0, rfl⟩ := okWide_slice Try.underlying30 (hval 0 30 v0 rfl rfl)
  obtain ⟨l, hl⟩ := bytes_of_trod h0
  obtain ⟨c, rfl, rfl, rfl, hc⟩ := open_int Try.underlying5 (hval 1 5 v1 rfl rfl) h1
  obtain ⟨cb, rfl⟩ : ∃ cb : UInt8, (cb.toNat : Int) = c := by
    have hb : 0 ≤ c ∧ c ≤ 255 := by simpa [Lit.wf, IntKind.min, IntKind.max, IntKind.bits, IntKind.signed] using hc
    exact ⟨UInt8.ofNat c.toNat, by rw [UInt8.toNat_ofNat']; omega⟩
  have hwalk : Calls Try.prog 6 #[.slice a0 len0 cap0, .int .u8 (cb.toNat : Nat)] W fun e w' => e = .returned (.bool true) ∧ Below W.heap.size W w' := classes_any a0 len0 cap0 cb l W hl
  refine hwalk.mono fun e W' ⟨he, hb⟩ => ?_
  subst he
  refine ⟨_, rfl, law_post (P := Try.prog) Try.laidOut ?_ (by kernel_rfl) Try.underlying4 rfl rfl hW' hb⟩
  rw [Try.params6]
  have hall : ([30, 5].all fun t => Try.prog.readableRec t && decide (t < Try.prog.types.size)) = true := by kernel_rfl
  intro t ht
  have := List.all_eq_true.1 hall t (by simpa using ht)
  simpa using this

theorem globClasses_holds : Rows.GlobClassesSaid :=
  OpenClaim.holds_of_wide 6 Try.f6 rfl rfl rfl rfl rfl rfl rfl ⟨rfl, rfl, rfl, rfl, rfl⟩ rfl rfl rfl rfl rfl (by kernel_rfl) Try.func6 (by kernel_rfl)
    (of_decide_eq_true (by kernel_rfl)) (by unfold Func.isWrapper; rw [if_neg (of_decide_eq_false (by kernel_rfl))]; exact ⟨rfl, rfl⟩)
    (fun os started H enc _ => globClasses_lifted os started H enc)
#print axioms globClasses_holds
end Go.Proofs.Ytbmcnbhceogcjaa
