/- Texts that the others stand on. -/
import Derived.Test.YtikimcbalkhooaaGreatJ10
import Derived.Test.YtikimcbalkhooaaGreatJ23
import Derived.Deep.RegionHeld3
namespace Go.Proofs.YtikimcbalkhooaaGreat
open Go.RowKit Go.PlainAid
open Dk (En Stay hasK putE getE keysOf Dct Dg dtag ecells Turn)
theorem list_inj {s t : ByteArray} : s.toList = t.toList ↔ s = t := by
 have h := str_beq s t
 constructor
 ·intro e
  rw [e, beq_self_eq_true] at h
  exact of_decide_eq_true h.symm
 ·rintro rfl; rfl
theorem pair_ways (y1 y2 x1 x2 : ByteArray) : (y1.toList = x1.toList ∧ y2.toList = x2.toList ∧ (if ((y1, y2) : En) = (x1, x2) then 1 else 0) = 1) ∨ (y1.toList = x1.toList ∧ ¬ y2.toList = x2.toList ∧ (if ((y1, y2) : En) = (x1, x2) then 1 else 0) = 0) ∨ (¬ y1.toList = x1.toList ∧ True ∧ (if ((y1, y2) : En) = (x1, x2) then 1 else 0) = 0) := by
 rw [list_inj, list_inj]
 by_cases h1 : y1 = x1
 ·by_cases h2 : y2 = x2
  ·exact .inl ⟨h1, h2, by rw [h1, h2, if_pos rfl]⟩
  ·exact .inr (.inl ⟨h1, h2, by rw [if_neg (fun e => h2 (congrArg Prod.snd e))]⟩)
 ·exact .inr (.inr ⟨h1, trivial, by rw [if_neg (fun e => h1 (congrArg Prod.fst e))]⟩)
end Go.Proofs.YtikimcbalkhooaaGreat
namespace Go.Proofs.YtikimcbalkhooaaGreat
open Go.RowKit Go.PlainAid
open Dk (En keysOf hasK putE ecells)
theorem Vl.keep {w w' : World} {B : Nat} {d : VD} {va : Value} (h : Vl w B d va) (hb : Below w.heap.size w w') : Vl w' B d va := by
 cases d with
 | txt t => exact h
 | hsh es => obtain ⟨a, n, c, h1, h2⟩ := h; exact ⟨a, n, c, h1, Dk.OwnR.keep h2 hb⟩
 | set l => obtain ⟨a, n, c, h1, h2⟩ := h; exact ⟨a, n, c, h1, h2.keep hb⟩
 | lst l => obtain ⟨a, n, c, h1, h2⟩ := h; exact ⟨a, n, c, h1, h2.keep hb⟩
theorem Vl.len {w : World} {B : Nat} {d : VD} {va : Value} (h : Vl w B d va) : Calls Tryz.prog 30 #[va] w fun e w' => e = .returned (.int .i64 (d.len : Nat)) ∧ Below w.heap.size w w' := by
 cases d with
 | txt t =>
  rw [show va = _ from h]
  have hb := alloc_below w (.cells #[.int .i64 1, .string t, .slice none 0 0, .slice none 0 0] 29)
  have HB : Hid (Below w.heap.size w _) := hb
  clear hb
  go_enter Tryz.func30, Tryz.ntmps30
  go_wp2
  go_ret
  exact ⟨rfl, HB.out⟩
 | hsh es =>
  obtain ⟨a, n, c, rfl, hO⟩ := h
  have HL : Hid (es.length = n) := OwnQ.len hO
  have hb := alloc_below w (.cells #[.int .i64 2, .string ⟨#[]⟩, .slice a n c, .slice none 0 0] 29)
  have HB : Hid (Below w.heap.size w _) := hb
  clear hb hO
  go_enter Tryz.func30, Tryz.ntmps30
  go_wp2
  go_ret
  exact ⟨by simp only [VD.len]; rw [HL.out]; rfl, HB.out⟩
 | set l =>
  obtain ⟨a, n, c, rfl, hO⟩ := h
  have HL : Hid (l.length = n) := hO.len
  have hb := alloc_below w (.cells #[.int .i64 3, .string ⟨#[]⟩, .slice none 0 0, .slice a n c] 29)
  have HB : Hid (Below w.heap.size w _) := hb
  clear hb hO
  go_enter Tryz.func30, Tryz.ntmps30
  go_wp2
  go_ret
  exact ⟨by simp only [VD.len]; rw [HL.out]; rfl, HB.out⟩
 | lst l =>
  obtain ⟨a, n, c, rfl, hO⟩ := h
  have HL : Hid (l.length = n) := hO.len
  have hb := alloc_below w (.cells #[.int .i64 4, .string ⟨#[]⟩, .slice none 0 0, .slice a n c] 29)
  have HB : Hid (Below w.heap.size w _) := hb
  clear hb hO
  go_enter Tryz.func30, Tryz.ntmps30
  go_wp2
  go_ret
  exact ⟨by simp only [VD.len]; rw [HL.out]; rfl, HB.out⟩
theorem Vl.shape {w : World} {B : Nat} {d : VD} {va : Value} (h : Vl w B d va) : ∃ t a n c a' n' c', va = .agg #[.int .i64 (d.kind : Nat), .string t, .slice a n c, .slice a' n' c'] := by
 cases d with
 | txt t => exact ⟨t, none, 0, 0, none, 0, 0, h⟩
 | hsh es => obtain ⟨a, n, c, h1, -⟩ := h; exact ⟨⟨#[]⟩, a, n, c, none, 0, 0, h1⟩
 | set l => obtain ⟨a, n, c, h1, -⟩ := h; exact ⟨⟨#[]⟩, none, 0, 0, a, n, c, h1⟩
 | lst l => obtain ⟨a, n, c, h1, -⟩ := h; exact ⟨⟨#[]⟩, none, 0, 0, a, n, c, h1⟩
end Go.Proofs.YtikimcbalkhooaaGreat
