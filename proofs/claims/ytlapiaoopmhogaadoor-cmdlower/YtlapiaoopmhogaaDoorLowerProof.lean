/-
  PROVED: for every drawn command and every row of flips, tallboylaw20.CmdLower answers true (letters' sizes make no difference to which command it is, nor to what it is refused for), its arguments read afterwards as before, and nothing that was in memory has turned.
  Conditions: the package-level variable errors.errorType starts as the program's text lays it (the card ties it, over a pruned copy of the project: the packages that the law loads); nothing else.
-/
import Derived.Test.YtlapiaoopmhogaaDoorXLawEnd
import Derived.Test.YtlapiaoopmhogaaDoorOpT
import Derived.Test.YtlapiaoopmhogaaDoorWl
import Derived.Test.YtlapiaoopmhogaaDoorTie
import Derived.Test.YtlapiaoopmhogaaDoorCards
import Derived.SevenTiedAt
namespace Go.Proofs.YtlapiaoopmhogaaDoor
open Go.ChangeShapes Go.WideShapes Go.ChangeAt Go.RowKit
open Go.ChangeMaps (open_string)

set_option maxRecDepth 100000 in
theorem lower_lifted (os : Os) (started : os.Started) (H : Type) (enc : TypeId × Value → H) :
    ReturnsInHanded {} Tryd.checked os 5 .any (fun w args => (Rows.cmdLowerSpec.pre enc Tryd.prog Tryd.f5 [] false w args ∧ laidMetH Tryd.prog laidL w) ∧ sizedMet enc Tryd.prog Tryd.f5 (OpenSpec.ofChange Rows.cmdLowerSpec) false w args)
      (Rows.cmdLowerSpec.post enc Tryd.prog Tryd.f5 false true false false) := by
  refine returnsInHanded_of_change_and (C := Tryd.checked) (X := fun w _ => laidMetH Tryd.prog laidL w) (fun _ _ _ hh h => h.of_heap hh) Tryd.own started (by kernel_rfl) Tryd.func5
    (ChangeSpec.witness_at (enc := enc) (C := Tryd.checked) (os := os) (X := fun w _ => laidMetH Tryd.prog laidL w) false (laidWorld Tryd.prog os) #[.agg #[.int .i64 0, .slice none 0 0, .bool false, .bool false], .slice none 0 0] 8 rfl (by kernel_rfl) (by kernel_rfl) (by kernel_rfl) (by kernel_rfl) (by kernel_rfl) (laidWorld_met os _)) ?_
  intro W base args ds gs before hval0 hW _ _ hL _
  have hval : ∀ (j : Nat) t v, Tryd.f5.params[j]? = some t → args[j]? = some v → Value.okWide Tryd.prog W .any base t v := hval0
  have hW' := hW
  obtain ⟨p, q, hA0, hV, rfl, hfz, hnd⟩ := hW
  have hA : DataW.TrodAll enc Tryd.prog W 0 (fun _ => true) true Tryd.f5.params.toList args.toList ds p := hA0
  rw [Tryd.params5] at hA hval
  obtain ⟨v0, v1, d0, d1, p0, p1, rfl, rfl, rfl, h0, h1⟩ := trodAll_two hA
  obtain ⟨rfl, rfl⟩ := trodVars_none hV
  obtain ⟨wh, wa, wn, wk, ft, up, rfl, hw⟩ := ask_of_trod (hval 0 37 v0 rfl rfl) h0
  obtain ⟨fa, fn, fc, rfl⟩ := okWide_slice Tryd.underlying44 (hval 1 44 v1 rfl rfl)
  have hf := bools_of_trod h1
  have hg := handle_of_laid hL
  have hwalk : Calls Tryd.prog 5 #[.agg #[.int .i64 wh, .slice wa wn wk, .bool ft, .bool up], .slice fa fn fc] W fun e w' => e = .returned (.bool true) ∧ Below W.heap.size W w' := lower_law wh wa wn wk ft up fa fn fc W hw hf hg
  refine hwalk.mono fun e W' ⟨he, hb⟩ => ?_
  subst he
  refine ⟨_, rfl, law_post (P := Tryd.prog) Tryd.laidOut ?_ (by kernel_rfl) Tryd.underlying4 rfl rfl hW' hb⟩
  rw [Tryd.params5]
  have hall : ([37, 44].all fun t => Tryd.prog.readableRec t && decide (t < Tryd.prog.types.size)) = true := by kernel_rfl
  intro t ht
  have := List.all_eq_true.1 hall t (by simpa using ht)
  simpa using this

theorem lower_row : Rows.CmdLowerSaid :=
  OpenClaim.holds_of_wide 5 Tryd.f5 rfl rfl rfl rfl rfl rfl rfl ⟨rfl, rfl, rfl, rfl, rfl⟩ rfl rfl rfl rfl rfl (by kernel_rfl) Tryd.func5 (by kernel_rfl)
    (of_decide_eq_true (by kernel_rfl)) (by unfold Func.isWrapper; rw [if_neg (of_decide_eq_false (by kernel_rfl))]; exact ⟨rfl, rfl⟩)
    (fun os started H enc _ => lower_lifted os started H enc)

theorem lower_holds : Rows.CmdLowerCardSaid :=
  Claim7.holds_tied_plain_at .later [] [.handle] true (true, "5a99078b1ffc795e45eb8b825f5f8b96bca79e9b41f5c9a823950a60f7372cd3") true
    lower_row (fun _ h => by cases h) (by kernel_rfl) (fun _ h => by cases h) cmdLower_row_tie rfl ⟨rfl, rfl⟩ (by kernel_rfl) rfl
    (fun f fn hf hfn => by
      obtain rfl : f = 5 := Option.some.inj ((show Tryd.prog.funcNamed Rows.cmdLowerRow.func = some 5 by kernel_rfl).symm.trans hf) |>.symm
      obtain rfl : fn = Tryd.f5 := (Option.some.inj (Tryd.func5.symm.trans hfn)).symm
      exact ⟨by kernel_rfl, fun j t ht => by
        rw [Tryd.params5] at ht
        have hm : t ∈ [37, 44] := by simpa using Array.mem_of_getElem? ht
        have hall : ([37, 44].all fun u => !Tryd.prog.wantsStandIn u) = true := by kernel_rfl
        exact (show Tryd.prog.wantsStandIn t = false by simpa using List.all_eq_true.1 hall t hm)⟩)
    (by kernel_rfl)
#print axioms lower_holds
end Go.Proofs.YtlapiaoopmhogaaDoor
