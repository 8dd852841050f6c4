/-
  errors.Unwrap, the methods at a nil fault; the law FaultUnwraps, walked.
-/
import Derived.Test.YtnbiejedmakaaaaDoorKnown
import Derived.RegionTactic
import Derived.ChangeAlike
namespace Go.Proofs.YtnbiejedmakaaaaDoor
open Go.RowKit Go.Extern.Stop Go.Stop Go.Extern

theorem Unwrap23 (b : Nat) (E : Value) (w : World) (h : w.cell? ⟨b, 1, none⟩ = some E) : Calls Tryd.prog 23 #[.iface 36 (.pointer (some ⟨b, 0, none⟩))] w fun e w' => e = .returned E ∧ w' = w := by
  have hU := Tryd.hasUnwrap36
  have mU := Tryd.methodUnwrap
  go_enter Tryd.func23, Tryd.ntmps23
  go_wp2_with (go_at_call 25; refine (Unwrap_fault b E _ h).mono ?_; rintro e w' ⟨rfl, rfl⟩)
  go_ret
  exact ⟨rfl, rfl⟩

theorem Unwrap_none (w : World) : Calls Tryd.prog 25 #[.pointer none] w fun e w' => e = .returned .nilIface ∧ w' = w := by
  go_enter Tryd.func25, Tryd.ntmps25
  go_wp2
  go_ret
  exact ⟨rfl, rfl⟩

set_option maxHeartbeats 400000 in
theorem String_empty (b : Nat) (w : World) (h : w.cell? ⟨b, 1, none⟩ = some (.slice none 0 0)) : Calls Tryd.prog 40 #[.pointer (some ⟨b, 0, none⟩)] w fun e w' => e = .returned (.string ⟨#[]⟩) ∧ Below w.heap.size w w' := by
  have hSD : ∀ w : World, (Builtin.unsafeSliceData_ #[78] 97 #[.slice none 0 0]).run Tryd.prog w = .ok (.pointer none) w := fun _ => rfl
  have hUS : ∀ w : World, (Builtin.unsafeString_ #[97, 3] 9 #[.pointer none, .int .i64 0]).run Tryd.prog w = .ok (.string ⟨#[]⟩) w := fun _ => rfl
  go_enter Tryd.func40, Tryd.ntmps40
  go_wp2
  go_region
  go_wp2
  go_ret
  exact ⟨rfl, (Below.refl _ _).drew⟩

set_option maxHeartbeats 400000 in
theorem Error_none (w : World) : Calls Tryd.prog 24 #[.pointer none] w fun e w' => e = .returned (.string ⟨#[]⟩) ∧ Below w.heap.size w w' := by
  go_enter Tryd.func24, Tryd.ntmps24
  go_wp2
  refine wp_loop_rounds 1 ?_
  rw [rounds_succ]
  go_wp2_with (go_at_call 40; refine (String_empty w.heap.size _ (by simp)).mono ?_; rintro e w' ⟨rfl, hb⟩)
  go_ret
  exact ⟨rfl, ((Below.refl _ _).alloc (Nat.le_refl _) _).trans (hb.mono (by simp))⟩

set_option maxHeartbeats 1000000 in
theorem unwraps_ok (a : Option Addr) (len cap : Nat) (s : ByteArray) (w : World) (hg : Laid w) (hs : Strs w a len) :
    Calls Tryd.prog 6 #[.int .i64 0, .slice a len cap, .string s] w fun e w' => e = .returned (.bool true) ∧ Below w.heap.size w w' := by
  have HS : Hid (Strs w a len) := hs
  have HG : Hid (Laid w) := hg
  clear hs hg
  go_enter Tryd.func6, Tryd.ntmps6
  go_wp2_with (first
    | (go_at_call 18; refine (chain_ok a len cap _ HS.out).mono ?_; rintro e w ⟨rfl, rfl⟩)
    | (go_at_call 19; refine (Cut_any _ _ _ (by decide)).mono ?_; rintro e w ⟨rfl, rfl⟩)
    | (go_at_call 16; refine (Wrap_nil _ _).mono ?_; rintro e w ⟨rfl, rfl⟩)
    | (go_at_call 17; refine (known_any _ HG.out).mono ?_; rintro e w2 ⟨rfl, hb2⟩))
  go_ret
  exact ⟨rfl, hb2⟩

/-- What stands in memory while the law asks: the error b under the fault b2. -/
structure Two (c : Int) (w wi : World) (n b b2 : Nat) (t s2 : ByteArray) : Prop where
  below : Below w.heap.size w wi
  outer : Chain wi (codeV c) (.iface 36 (.pointer (some ⟨b2, 0, none⟩))) (n + 1)
  inner : Chain wi (codeV c) (.iface 36 (.pointer (some ⟨b, 0, none⟩))) n
  cmd : wi.cell? ⟨b, 0, none⟩ = some (.string t)
  cmd2 : wi.cell? ⟨b2, 0, none⟩ = some (.string s2)

theorem Two.keep {c : Int} {w wi wj : World} {n b b2 : Nat} {t s2 : ByteArray} (h : Two c w wi n b b2 t s2) (hb : Below wi.heap.size wi wj) : Two c w wj n b b2 t s2 where
  below := h.below.trans (hb.mono h.below.size)
  outer := h.outer.keep hb (Nat.le_refl _)
  inner := h.inner.keep hb (Nat.le_refl _)
  cmd := by rw [hb.cell (p := ⟨b, 0, none⟩) (lt_of_cell? h.cmd)]; exact h.cmd
  cmd2 := by rw [hb.cell (p := ⟨b2, 0, none⟩) (lt_of_cell? h.cmd2)]; exact h.cmd2

set_option maxHeartbeats 1000000 in
theorem unwraps_err (c : Int) (a : Option Addr) (len cap : Nat) (s : ByteArray) (w : World) (hg : Laid w) (hc : ¬ c = 0) (hs : Strs w a len) :
    Calls Tryd.prog 6 #[.int .i64 c, .slice a len cap, .string s] w fun e w' => e = .returned (.bool true) ∧ Below w.heap.size w w' := by
  have HS : Hid (Strs w a len) := hs
  have HG : Hid (Laid w) := hg
  have hpos := lt_of_cell? hg
  clear hs hg
  have hc0 : (c == 0) = false := by simp [hc]
  have hcc : (c == c) = true := by simp
  go_enter Tryd.func6, Tryd.ntmps6
  go_wp2_with fail
  refine (chain_err c a len cap _ HG.out hc HS.out).mono ?_
  rintro e w1 ⟨b, t, rfl, hb1, hch1, hcm1, -⟩
  have hn : min len 10 + 1 ≤ 11 := by omega
  generalize min len 10 + 1 = n at hch1 hn
  have HB1 : Hid (Below w.heap.size w w1) := hb1
  have HC1 : Hid (Chain w1 (codeV c) (.iface 36 (.pointer (some ⟨b, 0, none⟩))) n) := hch1
  have HM1 : Hid (w1.cell? ⟨b, 0, none⟩ = some (.string t)) := hcm1
  clear hb1 hch1 hcm1
  go_wp2_with fail
  refine (Cut_any _ _ _ (by decide)).mono ?_
  rintro e w1 ⟨rfl, rfl⟩
  generalize hs2 : cutB s 20 = s2
  have HS2 : Hid (cutB s 20 = s2) := hs2
  clear hs2
  go_wp2_with fail
  refine (Wrap_code _ _ c n _ (HG.out.keep HB1.out hpos) hc HC1.out).mono ?_
  rintro e w2 ⟨b2, rfl, hb2, hcm2, hin2, hch2⟩
  have T2 : Hid (Two c w w2 n b b2 t s2) := ⟨HB1.out.trans (hb2.mono HB1.out.size), hch2, HC1.out.keep hb2 (Nat.le_refl _), by rw [hb2.cell (p := ⟨b, 0, none⟩) (lt_of_cell? HM1.out)]; exact HM1.out, hcm2⟩
  have HU2 : Hid (w2.cell? ⟨b2, 1, none⟩ = some (.iface 36 (.pointer (some ⟨b, 0, none⟩)))) := hin2
  clear hb2 hcm2 hin2 hch2 HB1 HC1 HM1
  have hq : ((n : Int) == ((n + 1 : Nat) : Int) - 1) = true := by rw [beq_iff_eq]; omega
  go_wp2_with fail
  refine (Unwrap23 b2 _ _ HU2.out).mono ?_
  rintro e w2 ⟨rfl, rfl⟩
  go_wp2_with fail
  refine (Depth_chain _ _ n _ (noFault_code c) (HG.out.keep T2.out.below hpos) (by omega) T2.out.inner).mono ?_
  rintro e w3 ⟨rfl, hb3⟩
  have T3 : Hid (Two c w w3 n b b2 t s2) := T2.out.keep hb3
  clear hb3 T2
  go_wp2_with fail
  refine (Depth_chain _ _ (n + 1) _ (noFault_code c) (HG.out.keep T3.out.below hpos) (by omega) T3.out.outer).mono ?_
  rintro e w4 ⟨rfl, hb4⟩
  have T4 : Hid (Two c w w4 n b b2 t s2) := T3.out.keep hb4
  clear hb4 T3
  go_wp2_with fail
  refine (Code_code _ c n _ (HG.out.keep T4.out.below hpos) T4.out.inner).mono ?_
  rintro e w5 ⟨rfl, hb5⟩
  have T5 : Hid (Two c w w5 n b b2 t s2) := T4.out.keep hb5
  clear hb5 T4
  go_wp2_with fail
  refine (Code_code _ c (n + 1) _ (HG.out.keep T5.out.below hpos) T5.out.outer).mono ?_
  rintro e w6 ⟨rfl, hb6⟩
  have T6 : Hid (Two c w w6 n b b2 t s2) := T5.out.keep hb6
  clear hb6 T5
  go_wp2_with fail
  refine (Cmd_fault b2 s2 _ (HG.out.keep T6.out.below hpos) T6.out.cmd2).mono ?_
  rintro e w7 ⟨rfl, hb7⟩
  have T7 : Hid (Two c w w7 n b b2 t s2) := T6.out.keep hb7
  clear hb7 T6
  go_wp2_with fail
  refine (Cut_any _ _ _ (by decide)).mono ?_
  rintro e w7 ⟨rfl, rfl⟩
  rw [HS2.out]
  go_wp2_with fail
  refine (Cmd_fault b t _ (HG.out.keep T7.out.below hpos) T7.out.cmd).mono ?_
  rintro e w8 ⟨rfl, hb8⟩
  have T8 : Hid (Two c w w8 n b b2 t s2) := T7.out.keep hb8
  clear hb8 T7
  go_wp2_with fail
  refine (Cmd_fault b t _ (HG.out.keep T8.out.below hpos) T8.out.cmd).mono ?_
  rintro e w9 ⟨rfl, hb9⟩
  have T9 : Hid (Two c w w9 n b b2 t s2) := T8.out.keep hb9
  clear hb9 T8
  go_wp2_with fail
  refine (Error_none _).mono ?_
  rintro e w10 ⟨rfl, hb10⟩
  have T10 : Hid (Two c w w10 n b b2 t s2) := T9.out.keep hb10
  clear hb10 T9
  go_wp2_with fail
  refine (Unwrap_none _).mono ?_
  rintro e w10 ⟨rfl, rfl⟩
  go_wp2_with fail
  refine (known_any _ (HG.out.keep T10.out.below hpos)).mono ?_
  rintro e w11 ⟨rfl, hb11⟩
  have T11 : Hid (Two c w w11 n b b2 t s2) := T10.out.keep hb11
  clear hb11 T10
  go_wp2
  go_ret
  exact ⟨rfl, T11.out.below⟩
end Go.Proofs.YtnbiejedmakaaaaDoor
