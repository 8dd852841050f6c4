/-
 ValueTells.
-/
import Derived.Test.YtikimcbalkhooaaGreatG28
namespace Go.Proofs.YtikimcbalkhooaaGreat
open Go.RowKit Go.PlainAid
open Dk (En keysOf hasK putE ecells)

set_option maxRecDepth 100000 in
set_option maxHeartbeats 4000000 in
theorem tellsL_any (dv : Value) (x : Nat) (le lt : Int) (w : World) (hx : x < 18446744073709551616) (hd : Drw w dv) :
  Calls Tryz.prog 3 #[dv, .int .u64 x, .agg #[.int .i64 le, .int .i64 lt]] w fun e w' => e = .returned (.bool true) ∧ Below w.heap.size w w' := by
 obtain ⟨k, t, pa, pn, pc, es, la, ln, lc, ls, rfl, h2, h3⟩ := hd
 obtain ⟨w0, hw0⟩ : ∃ w0, w.alloc (.cells #[.int .i64 k, .string t, .slice pa pn pc, .slice la ln lc] 25) = w0 := ⟨_, rfl⟩
 obtain ⟨w1, hw1⟩ : ∃ w1, w0.alloc (.cells #[.int .i64 le, .int .i64 lt] 28) = w1 := ⟨_, rfl⟩
 have hb0 : Below w.heap.size w w0 := by rw [← hw0]; exact alloc_below w _
 have hb1 : Below w0.heap.size w0 w1 := by rw [← hw1]; exact alloc_below w0 _
 have hl0 : w.heap.size < w0.heap.size := by rw [← hw0]; exact alloc_lt w _ _
 have hl1 : w0.heap.size < w1.heap.size := by rw [← hw1]; exact alloc_lt w0 _ _
 have hb : Below w.heap.size w w1 := hb0.trans (hb1.mono hb0.size)
 have HB1 : Hid (Below w.heap.size w w1) := hb
 have hc : ∀ i u, (#[.int .i64 k, .string t, .slice pa pn pc, .slice la ln lc] : Array Value)[i]? = some u → w1.cell? ⟨w.heap.size, i, none⟩ = some u := fun i u hu => by
  rw [hb1.cell (p := ⟨w.heap.size, i, none⟩) hl0, ← hw0]; exact cell_new w _ _ i _ hu
 have hc0 := hc 0 _ rfl
 have hc1 := hc 1 _ rfl
 have hc2 := hc 2 _ rfl
 have hc3 := hc 3 _ rfl
 have HCL : Hid (∀ wx, Below w1.heap.size w1 wx → wx.cell? ⟨w0.heap.size, 0, none⟩ = some (.int .i64 le) ∧ wx.cell? ⟨w0.heap.size, 1, none⟩ = some (.int .i64 lt)) := fun wx hx => by
  rw [hx.cell (p := ⟨w0.heap.size, 0, none⟩) hl1, hx.cell (p := ⟨w0.heap.size, 1, none⟩) hl1, ← hw1]
  exact ⟨cell_new w0 _ _ 0 _ rfl, cell_new w0 _ _ 1 _ rfl⟩
 have HPl := plainV_any w1 (.agg #[.int .i64 k, .string t, .slice pa pn pc, .slice la ln lc]) ⟨k, t, pa, pn, pc, es, la, ln, lc, ls, rfl, h2.keep hb, h3.keep hb⟩
 clear hb0 hb1 hl0 hl1 hb hc h2 h3
 go_enter Tryz.func3, Tryz.ntmps3
 go_wp2_with fail
 refine HPl.mono ?_
 rintro en w2 ⟨hb, va, d, rfl, hV, hf, hon⟩
 have HB2 : Hid (Below w1.heap.size w1 w2) := hb
 obtain ⟨ut, ua, un, uc, ua', un', uc', hva⟩ := hV.shape
 obtain ⟨w3, hw3⟩ : ∃ w3, w2.alloc (.cells #[.int .i64 (d.kind : Nat), .string ut, .slice ua un uc, .slice ua' un' uc'] 29) = w3 := ⟨_, rfl⟩
 have hb3 : Below w2.heap.size w2 w3 := by rw [← hw3]; exact alloc_below w2 _
 have hl2 : w2.heap.size < w3.heap.size := by rw [← hw3]; exact alloc_lt w2 _ _
 have HB3 := step_below HB2 hb3
 have HV3 : Hid (Vl w3 w1.heap.size d va) := hV.keep hb3
 have HCV : Hid (∀ wx, Below w3.heap.size w3 wx → wx.cell? ⟨w2.heap.size, 0, none⟩ = some (.int .i64 (d.kind : Nat)) ∧ wx.cell? ⟨w2.heap.size, 1, none⟩ = some (.string ut) ∧ wx.cell? ⟨w2.heap.size, 2, none⟩ = some (.slice ua un uc) ∧ wx.cell? ⟨w2.heap.size, 3, none⟩ = some (.slice ua' un' uc')) := fun wx hx => by
  have hq : ∀ i u, (#[.int .i64 (d.kind : Nat), .string ut, .slice ua un uc, .slice ua' un' uc'] : Array Value)[i]? = some u → wx.cell? ⟨w2.heap.size, i, none⟩ = some u := fun i u hu => by
   rw [hx.cell (p := ⟨w2.heap.size, i, none⟩) hl2, ← hw3]; exact cell_new w2 _ _ i _ hu
  exact ⟨hq 0 _ rfl, hq 1 _ rfl, hq 2 _ rfl, hq 3 _ rfl⟩
 have HF : Hid (d.few ∧ d.once) := ⟨hf, hon⟩
 have HM := made_any x le lt w1.heap.size d va w3 hx HV3.out hf.ok hon
 obtain ⟨c0, c1, c2, c3⟩ := HCV.out w3 (Below.refl _ _)
 obtain ⟨l0, l1⟩ := HCL.out w3 HB3.out
 subst hva
 clear hb hV hf hon hb3 hl2 HPl hc0 hc1 hc2 hc3
 go_wp2_with fail
 refine HM.mono ?_
 rintro en w4 ⟨hb, v, F, one, rfl, hP⟩
 have HB4 : Hid (Below w3.heap.size w3 w4) := hb
 have HB14 := step_below HB3 hb
 have HT := tellsV_any _ _ v d one F _ le lt w4 hP (HV3.out.keep hb) HF.out.1.ok
 obtain ⟨e0, e1, e2, e3⟩ := HCV.out w4 hb
 obtain ⟨m0, m1⟩ := HCL.out w4 HB14.out
 clear hb hP HM c0 c1 c2 c3 l0 l1
 go_wp2_with fail
 refine HT.mono ?_
 rintro en w5 ⟨rfl, hb⟩
 have HB5 := step_below HB1 (step_below HB14 hb).out
 clear hb HT
 go_wp2_with fail
 refine (known_v _).mono ?_
 rintro en w6 ⟨rfl, hb⟩
 have HB6 := step_below HB5 hb
 go_wp2
 go_ret
 exact ⟨rfl, HB6.out⟩
end Go.Proofs.YtikimcbalkhooaaGreat
