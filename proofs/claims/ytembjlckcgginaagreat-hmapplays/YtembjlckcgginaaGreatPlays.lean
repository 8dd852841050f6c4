/-
  HmapPlays.
-/
import Derived.Test.YtembjlckcgginaaGreatG19
namespace Go.Proofs.YtembjlckcgginaaGreat
open Go.RowKit Go.PlainAid
open Dk (En Stay hasK putE delE getE keysOf Dct Dg dtag ecells Turn)

set_option maxRecDepth 100000 in
set_option maxHeartbeats 4000000 in
theorem playsH_any (x : Nat) (le lt : Int) (a : Option Addr) (n cap : Nat) (w : World) (hx : x < 18446744073709551616) (ha : RdK w a n) :
    Calls Tryz.prog 4 #[.int .u64 x, .agg #[.int .i64 le, .int .i64 lt], .slice a n cap] w fun e w' => e = .returned (.bool true) ∧ Below w.heap.size w w' := by
  have HK : Hid (RdK w a n) := ha
  obtain ⟨wa, hwa⟩ : ∃ wa, wa = w.alloc (.cells #[.int .i64 le, .int .i64 lt] 30) := ⟨_, rfl⟩
  have hba : Below w.heap.size w wa := by rw [hwa]; exact alloc_below w _
  have hlt : w.heap.size < wa.heap.size := by rw [hwa]; exact (Array.getElem?_eq_some_iff.1 (heap_alloc_new w _)).1
  have HLm : Hid (∀ w2, Below wa.heap.size wa w2 → w2.cell? ⟨w.heap.size, 0, none⟩ = some (.int .i64 le) ∧ w2.cell? ⟨w.heap.size, 1, none⟩ = some (.int .i64 lt)) := fun w2 hb => ⟨by rw [hb.cell (p := ⟨w.heap.size, 0, none⟩) hlt]; subst hwa; simp, by rw [hb.cell (p := ⟨w.heap.size, 1, none⟩) hlt]; subst hwa; simp⟩
  have HBa : Hid (Below w.heap.size w wa) := hba
  have hbd : Below wa.heap.size wa wa.drew := below_drewN wa 1
  have HBd : Hid (Below wa.heap.size wa wa.drew) := hbd
  have HP1 := play_any x le lt a n cap wa.drew hx ((ha.keep hba).keep hbd)
  have hc := HLm.out wa.drew hbd
  have HSd : Hid (wa.drew.cell? ⟨w.heap.size, 0, none⟩ = some (.int .i64 le) ∧ wa.drew.cell? ⟨w.heap.size, 1, none⟩ = some (.int .i64 lt)) := hc
  have HW1 := fun w => Within_wi le 30 w (by decide)
  have HW2 := fun w => Within_wi lt 20 w (by decide)
  generalize wi le 30 = z1 at HW1
  generalize wi lt 20 = z2 at HW2
  clear ha hba hbd hlt hc
  go_enter Tryz.func4, Tryz.ntmps4
  go_upto_region 1 with fail
  rw [← hwa]
  clear hwa
  go_region_held3 (fun w' => w'.cell? ⟨w.heap.size, 0, none⟩ = some (.int .i64 le) ∧ w'.cell? ⟨w.heap.size, 1, none⟩ = some (.int .i64 lt)) (first | exact HS7.out | exact HS5.out | exact HS2.out | exact HSd.out) (first
    | (go_at_call_of 9 (Value.int IntKind.i64 le); refine HP1.mono ?_; rintro e w2 ⟨rfl, hb⟩; have HB2 := step_below HBd hb; have HS2 : Hid (w2.cell? ⟨w.heap.size, 0, none⟩ = some (.int .i64 le) ∧ w2.cell? ⟨w.heap.size, 1, none⟩ = some (.int .i64 lt)) := HLm.out w2 HB2.out; clear hb)
    | (go_at_call_of 16 (Value.int IntKind.i64 le); refine (HW1 _).mono ?_; rintro e w3 ⟨rfl, rfl⟩)
    | (go_at_call_of 16 (Value.int IntKind.i64 lt); refine (HW2 _).mono ?_; rintro e w4 ⟨rfl, rfl⟩)
    | (go_at_call_of 9 (Value.int IntKind.i64 (z1 : Nat)); refine (play_any x z1 z2 a n cap _ hx (HK.out.keep (HBa.out.trans (HB2.out.mono HBa.out.size)))).mono ?_; rintro e w5 ⟨rfl, hb⟩; have HB5 := step_below HB2 hb; have HS5 : Hid (w5.cell? ⟨w.heap.size, 0, none⟩ = some (.int .i64 le) ∧ w5.cell? ⟨w.heap.size, 1, none⟩ = some (.int .i64 lt)) := HLm.out w5 HB5.out; clear hb)
    | (go_at_call 15; refine (known_any _).mono ?_; rintro e w7 ⟨rfl, hb⟩; have HB7 := step_below HB5 hb; have HS7 : Hid (w7.cell? ⟨w.heap.size, 0, none⟩ = some (.int .i64 le) ∧ w7.cell? ⟨w.heap.size, 1, none⟩ = some (.int .i64 lt)) := HLm.out w7 HB7.out; clear hb))
  all_goals
    go_wp2
    go_ret
    exact ⟨rfl, HBa.out.trans (HB7.out.mono HBa.out.size)⟩
end Go.Proofs.YtembjlckcgginaaGreat
