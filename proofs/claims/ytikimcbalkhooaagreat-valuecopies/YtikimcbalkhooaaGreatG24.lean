/- Texts that the others stand on. -/
import Derived.Test.YtikimcbalkhooaaGreatG10
import Derived.Test.YtikimcbalkhooaaGreatG23
import Derived.Deep.RegionHeld3
namespace Go.Proofs.YtikimcbalkhooaaGreat
open Go.RowKit Go.PlainAid
open Dk (En Stay hasK putE getE keysOf Dct Dg dtag ecells Turn)
def cntE (l : List En) (x : En) : Nat := l.countP fun e => decide (e = x)
theorem cntE_snoc (l : List En) (x y : En) : cntE (l ++ [y]) x = cntE l x + if y = x then 1 else 0 := by
 unfold cntE
 rw [List.countP_append]
 by_cases h : y = x <;> simp [h]
theorem cntE_perm {l r : List En} (h : l.Perm r) (x : En) : cntE l x = cntE r x := h.countP_eq _
theorem list_inj {s t : ByteArray} : s.toList = t.toList ↔ s = t := by
 have h := str_beq s t
 constructor
 ·intro e
  rw [e, beq_self_eq_true] at h
  exact of_decide_eq_true h.symm
 ·rintro rfl; rfl
theorem pair_ways (y1 y2 x1 x2 : ByteArray) : (y1.toList = x1.toList ∧ y2.toList = x2.toList ∧ (if ((y1, y2) : En) = (x1, x2) then 1 else 0) = 1) ∨ (y1.toList = x1.toList ∧ ¬ y2.toList = x2.toList ∧ (if ((y1, y2) : En) = (x1, x2) then 1 else 0) = 0) ∨ (¬ y1.toList = x1.toList ∧ True ∧ (if ((y1, y2) : En) = (x1, x2) then 1 else 0) = 0) := by
 rw [list_inj, list_inj]
 by_cases h1 : y1 = x1
 ·by_cases h2 : y2 = x2
  ·exact .inl ⟨h1, h2, by rw [h1, h2, if_pos rfl]⟩
  ·exact .inr (.inl ⟨h1, h2, by rw [if_neg (fun e => h2 (congrArg Prod.snd e))]⟩)
 ·exact .inr (.inr ⟨h1, trivial, by rw [if_neg (fun e => h1 (congrArg Prod.fst e))]⟩)
set_option maxRecDepth 100000 in
set_option maxHeartbeats 4000000 in
theorem Pairs_same (B C : Nat) (a1 a2 : Option Addr) (n c1 c2 : Nat) (l1 l2 : List En) (w : World) (h1 : OwnQ w B a1 n c1 l1) (h2 : OwnQ w C a2 n c2 l2) (hp : l1.Perm l2) (hn : n ≤ 1000000) :
  Calls Tryz.prog 34 #[.slice a1 n c1, .slice a2 n c2] w fun e w' => e = .returned (.bool true) ∧ Below w.heap.size w w' := by
 have H1 : Hid (OwnQ w B a1 n c1 l1) := h1
 have H2 : Hid (OwnQ w C a2 n c2 l2) := h2
 have HP : Hid (l1.Perm l2) := hp
 have HL1 : Hid (l1.length = n) := OwnQ.len h1
 have HL2 : Hid (l2.length = n) := OwnQ.len h2
 clear h1 h2 hp
 go_enter Tryz.func34, Tryz.ntmps34
 go_wp2
 go_loopg [5, 6, 7, 8] n (fun g iv nv mv kv wr => ∃ i : Nat, i + g = n ∧ iv = .int .i64 i ∧ Hid (Below w.heap.size w wr))
 case atStart => exact ⟨0, by omega, rfl, Below.refl _ _⟩
 case round =>
  obtain ⟨i, hi, rfl, HB⟩ := hrel
  by_cases h8 : (i : Int) < n
  ·obtain ⟨g1, hg1, hx1, hx2⟩ := OwnQ.cell (H1.out.keep HB.out) (j := i) (by omega)
   have HG1 : Hid (a1 = some ⟨g1, 0, none⟩) := hg1
   clear hg1
   obtain ⟨x, hx⟩ : ∃ x, l1.getD i (⟨#[]⟩, ⟨#[]⟩) = x := ⟨_, rfl⟩
   rw [hx] at hx1 hx2
   clear hx
   obtain ⟨wb, hwb⟩ : ∃ wb, wb = wr := ⟨_, rfl⟩
   have HBb : Hid (Below w.heap.size w wb) := by rw [hwb]; exact HB
   rename_i gk0 _
   subst hwb
   have hgk : i + gk = n := hi
   obtain ⟨gq, hgq⟩ : ∃ gq, gq = gk := ⟨_, rfl⟩
   subst hgq
   go_wp2
   go_loopg [6, 7, 8] n (fun g nv mv kv wr => ∃ k c d : Nat, k + g = n ∧ kv = .int .i64 k ∧ nv = .int .i64 c ∧ mv = .int .i64 d ∧ c ≤ k ∧ d ≤ k ∧ Hid (cntE (l1.take k) x = c) ∧ Hid (cntE (l2.take k) x = d) ∧ Hid (Below wb.heap.size wb wr))
   case atStart => exact ⟨0, 0, 0, by omega, rfl, rfl, rfl, Nat.le_refl _, Nat.le_refl _, (rfl : cntE [] x = 0), (rfl : cntE [] x = 0), Below.refl _ _⟩
   case round =>
    obtain ⟨k, c, d, hk, rfl, rfl, rfl, hck, hdk, HC, HD, HBr⟩ := hrel
    by_cases h9 : (k : Int) < n
    ·obtain ⟨g1', hg1', hy1, hy2⟩ := OwnQ.cell (H1.out.keep (HBb.out.trans (HBr.out.mono HBb.out.size))) (j := k) (by omega)
     obtain ⟨g2, hg2, hz1, hz2⟩ := OwnQ.cell (H2.out.keep (HBb.out.trans (HBr.out.mono HBb.out.size))) (j := k) (by omega)
     obtain rfl : g1 = g1' := by rw [HG1.out] at hg1'; cases hg1'; rfl
     have hg1 := HG1.out
     have hv1 : wr.cell? ⟨g1, i * 2, none⟩ = some (.string x.1) := by rw [HBr.out.cell (p := ⟨g1, i * 2, none⟩) (World.block_lt_of_cell? _ _ hx1)]; exact hx1
     have hv2 : wr.cell? ⟨g1, i * 2 + 1, none⟩ = some (.string x.2) := by rw [HBr.out.cell (p := ⟨g1, i * 2 + 1, none⟩) (World.block_lt_of_cell? _ _ hx2)]; exact hx2
     have HS1 : Hid (cntE (l1.take (k + 1)) x = cntE (l1.take k) x + if l1.getD k (⟨#[]⟩, ⟨#[]⟩) = x then 1 else 0) := by
      show _ = _
      rw [Dk.take_snoc l1 (⟨#[]⟩, ⟨#[]⟩) k (by have := HL1.out; omega), cntE_snoc]
     have HS2 : Hid (cntE (l2.take (k + 1)) x = cntE (l2.take k) x + if l2.getD k (⟨#[]⟩, ⟨#[]⟩) = x then 1 else 0) := by
      show _ = _
      rw [Dk.take_snoc l2 (⟨#[]⟩, ⟨#[]⟩) k (by have := HL2.out; omega), cntE_snoc]
     generalize l1.getD k (⟨#[]⟩, ⟨#[]⟩) = y at hy1 hy2 HS1
     generalize l2.getD k (⟨#[]⟩, ⟨#[]⟩) = z at hz1 hz2 HS2
     rw [HC.out] at HS1
     rw [HD.out] at HS2
     obtain ⟨x1, x2⟩ := x
     obtain ⟨y1, y2⟩ := y
     obtain ⟨z1, z2⟩ := z
     simp only at hv1 hv2 hy1 hy2 hz1 hz2
     have hn2 : n * 2 ≤ 2000000 := by omega
     subst hg1
     subst hg2
     clear hg1' hx1 hx2
     have HBd : Hid (Below wb.heap.size wb wr.drew.drew) := HBr.out.trans ((below_drewN wr 2).mono HBr.out.size)
     have hy1d : wr.drew.cell? ⟨g1, k * 2, none⟩ = some (.string y1) := hy1
     have hy2d : wr.drew.cell? ⟨g1, k * 2 + 1, none⟩ = some (.string y2) := hy2
     have hv1d : wr.drew.cell? ⟨g1, i * 2, none⟩ = some (.string x1) := hv1
     have hv2d : wr.drew.cell? ⟨g1, i * 2 + 1, none⟩ = some (.string x2) := hv2
     have hz1e : wr.drew.drew.cell? ⟨g2, k * 2, none⟩ = some (.string z1) := hz1
     have hz2e : wr.drew.drew.cell? ⟨g2, k * 2 + 1, none⟩ = some (.string z2) := hz2
     have hv1e : wr.drew.drew.cell? ⟨g1, i * 2, none⟩ = some (.string x1) := hv1
     have hv2e : wr.drew.drew.cell? ⟨g1, i * 2 + 1, none⟩ = some (.string x2) := hv2
     clear hy1 hy2 hz1 hz2 hv1 hv2
     rcases pair_ways y1 y2 x1 x2 with ⟨e1, e2, e3⟩ | ⟨e1, e2, e3⟩ | ⟨e1, e2, e3⟩
     all_goals rcases pair_ways z1 z2 x1 x2 with ⟨f1, f2, f3⟩ | ⟨f1, f2, f3⟩ | ⟨f1, f2, f3⟩
     all_goals
      rw [e3] at HS1
      rw [f3] at HS2
      clear e3 f3
      go_wp2_with fail
      go_region
      go_wp2_with fail
      go_region
      go_wp2
      go_roundg (gk - 1)
      case measure => omega
      case rel => exact ⟨k + 1, _, _, by omega, by go_num, by go_num, by go_num, by omega, by omega, HS1, HS2, HBd⟩
    ·have hkn : k = n := by omega
     have HE : Hid (c = d) := by
      show c = d
      rw [← HC.out, ← HD.out, List.take_of_length_le (by have := HL1.out; omega), List.take_of_length_le (by have := HL2.out; omega)]
      exact cntE_perm HP.out x
     obtain rfl : c = d := HE.out
     have HB2 : Hid (Below w.heap.size w wr) := HBb.out.trans (HBr.out.mono HBb.out.size)
     go_wp2
     go_roundg (gq - 1)
     case measure => omega
     case rel => exact ⟨i + 1, by omega, by go_num, HB2⟩
  ·go_wp2
   go_ret
   exact ⟨rfl, HB.out⟩
end Go.Proofs.YtikimcbalkhooaaGreat
namespace Go.Proofs.YtikimcbalkhooaaGreat
open Go.RowKit Go.PlainAid
open Dk (En keysOf hasK putE ecells)
theorem Vl.keep {w w' : World} {B : Nat} {d : VD} {va : Value} (h : Vl w B d va) (hb : Below w.heap.size w w') : Vl w' B d va := by
 cases d with
 | txt t => exact h
 | hsh es => obtain ⟨a, n, c, h1, h2⟩ := h; exact ⟨a, n, c, h1, Dk.OwnR.keep h2 hb⟩
 | set l => obtain ⟨a, n, c, h1, h2⟩ := h; exact ⟨a, n, c, h1, h2.keep hb⟩
 | lst l => obtain ⟨a, n, c, h1, h2⟩ := h; exact ⟨a, n, c, h1, h2.keep hb⟩
def VC (d : VD) (va c0 c1 c2 c3 : Value) : Prop := va = .agg #[c0, c1, c2, c3] ∧ c0 = .int .i64 (d.kind : Nat)
theorem Vl.len {w : World} {B : Nat} {d : VD} {va : Value} (h : Vl w B d va) : Calls Tryz.prog 30 #[va] w fun e w' => e = .returned (.int .i64 (d.len : Nat)) ∧ Below w.heap.size w w' := by
 cases d with
 | txt t =>
  rw [show va = _ from h]
  have hb := alloc_below w (.cells #[.int .i64 1, .string t, .slice none 0 0, .slice none 0 0] 29)
  have HB : Hid (Below w.heap.size w _) := hb
  clear hb
  go_enter Tryz.func30, Tryz.ntmps30
  go_wp2
  go_ret
  exact ⟨rfl, HB.out⟩
 | hsh es =>
  obtain ⟨a, n, c, rfl, hO⟩ := h
  have HL : Hid (es.length = n) := OwnQ.len hO
  have hb := alloc_below w (.cells #[.int .i64 2, .string ⟨#[]⟩, .slice a n c, .slice none 0 0] 29)
  have HB : Hid (Below w.heap.size w _) := hb
  clear hb hO
  go_enter Tryz.func30, Tryz.ntmps30
  go_wp2
  go_ret
  exact ⟨by simp only [VD.len]; rw [HL.out]; rfl, HB.out⟩
 | set l =>
  obtain ⟨a, n, c, rfl, hO⟩ := h
  have HL : Hid (l.length = n) := hO.len
  have hb := alloc_below w (.cells #[.int .i64 3, .string ⟨#[]⟩, .slice none 0 0, .slice a n c] 29)
  have HB : Hid (Below w.heap.size w _) := hb
  clear hb hO
  go_enter Tryz.func30, Tryz.ntmps30
  go_wp2
  go_ret
  exact ⟨by simp only [VD.len]; rw [HL.out]; rfl, HB.out⟩
 | lst l =>
  obtain ⟨a, n, c, rfl, hO⟩ := h
  have HL : Hid (l.length = n) := hO.len
  have hb := alloc_below w (.cells #[.int .i64 4, .string ⟨#[]⟩, .slice none 0 0, .slice a n c] 29)
  have HB : Hid (Below w.heap.size w _) := hb
  clear hb hO
  go_enter Tryz.func30, Tryz.ntmps30
  go_wp2
  go_ret
  exact ⟨by simp only [VD.len]; rw [HL.out]; rfl, HB.out⟩
theorem Vl.cells {w : World} {B : Nat} {d : VD} {va : Value} (h : Vl w B d va) : ∃ c1 c2 c3, va = .agg #[.int .i64 (d.kind : Nat), c1, c2, c3] := by
 cases d with
 | txt t => exact ⟨_, _, _, h⟩
 | hsh es => obtain ⟨a, n, c, h1, -⟩ := h; exact ⟨_, _, _, h1⟩
 | set l => obtain ⟨a, n, c, h1, -⟩ := h; exact ⟨_, _, _, h1⟩
 | lst l => obtain ⟨a, n, c, h1, -⟩ := h; exact ⟨_, _, _, h1⟩
theorem Vl.empty {w : World} {B : Nat} {d : VD} {va : Value} (h : Vl w B d va) : Calls Tryz.prog 31 #[va] w fun e w' => e = .returned (.bool d.emp) ∧ Below w.heap.size w w' := by
 obtain ⟨c1, c2, c3, hva⟩ := h.cells
 obtain ⟨w0, hw0⟩ : ∃ w0, w.alloc (.cells #[.int .i64 (d.kind : Nat), c1, c2, c3] 29) = w0 := ⟨_, rfl⟩
 have hb0 : Below w.heap.size w w0 := by rw [← hw0]; exact alloc_below w _
 have HB0 : Hid (Below w.heap.size w w0) := hb0
 have HL := (h.keep hb0).len
 have hk := d.kind_le
 have k0 : w0.cell? ⟨w.heap.size, 0, none⟩ = some (.int .i64 (d.kind : Nat)) := by rw [← hw0]; exact cell_new w _ _ 0 _ rfl
 have k1 : w0.cell? ⟨w.heap.size, 1, none⟩ = some c1 := by rw [← hw0]; exact cell_new w _ _ 1 _ rfl
 have k2 : w0.cell? ⟨w.heap.size, 2, none⟩ = some c2 := by rw [← hw0]; exact cell_new w _ _ 2 _ rfl
 have k3 : w0.cell? ⟨w.heap.size, 3, none⟩ = some c3 := by rw [← hw0]; exact cell_new w _ _ 3 _ rfl
 rw [hva] at HL
 subst hva
 clear h hb0
 obtain ⟨E, hE⟩ : ∃ E, d.emp = E := ⟨_, rfl⟩
 have HE : Hid ((decide (d.kind ≠ 1) && decide (d.len = 0)) = E) := hE
 rw [hE]
 clear hE
 generalize d.kind = k at HL HE hk hw0 k0 ⊢
 generalize d.len = n at HL HE
 by_cases h1 : k = 1
 ·subst h1
  have HE2 : Hid (E = false) := by show _ = _; rw [← HE.out]; simp
  go_enter Tryz.func31, Tryz.ntmps31
  go_wp2
  go_ret
  exact ⟨by rw [HE2.out]; rfl, by have h := HB0.out; rw [← hw0] at h; exact h⟩
 ·have hne : ((k : Int) != 1) = true := by simp; omega
  have HE2 : Hid (E = decide (n = 0)) := by show _ = _; rw [← HE.out]; simp [h1]
  by_cases h0 : n = 0
  ·have hn0 : ((n : Int) == 0) = true := by simp; omega
   have HE3 : Hid (E = true) := by show _ = _; rw [HE2.out, h0]; rfl
   clear h0 h1
   go_enter Tryz.func31, Tryz.ntmps31
   go_wp2_with fail
   refine HL.mono ?_
   rintro e w1 ⟨rfl, hb⟩
   have HB1 := step_below HB0 hb
   go_wp2
   go_ret
   exact ⟨by rw [HE3.out]; rfl, HB1.out⟩
  ·have hn0 : ((n : Int) == 0) = false := by simp; omega
   have HE3 : Hid (E = false) := by show _ = _; rw [HE2.out, decide_eq_false h0]
   clear h0 h1
   go_enter Tryz.func31, Tryz.ntmps31
   go_wp2_with fail
   refine HL.mono ?_
   rintro e w1 ⟨rfl, hb⟩
   have HB1 := step_below HB0 hb
   go_wp2
   go_ret
   exact ⟨by rw [HE3.out]; rfl, HB1.out⟩
theorem encoding_t (t : ByteArray) (e1 e2 : Int) (w : World) (ht : t.size ≤ 100) :
  Calls Tryz.prog 32 #[.agg #[.int .i64 1, .string t, .slice none 0 0, .slice none 0 0], .agg #[.int .i64 e1, .int .i64 e2]] w fun e w' => e = .returned (.string (encT t)) ∧ Below w.heap.size w w' := by
 obtain ⟨w0, hw0⟩ : ∃ w0, w.alloc (.cells #[.int .i64 1, .string t, .slice none 0 0, .slice none 0 0] 29) = w0 := ⟨_, rfl⟩
 obtain ⟨w1, hw1⟩ : ∃ w1, w0.alloc (.cells #[.int .i64 e1, .int .i64 e2] 28) = w1 := ⟨_, rfl⟩
 have hb0 : Below w.heap.size w w0 := by rw [← hw0]; exact alloc_below w _
 have hb1 : Below w0.heap.size w0 w1 := by rw [← hw1]; exact alloc_below w0 _
 have HB : Hid (Below w.heap.size w w1) := hb0.trans (hb1.mono hb0.size)
 have hlt : w.heap.size < w0.heap.size := by rw [← hw0]; exact alloc_lt w _ _
 have hc0 : w1.cell? ⟨w.heap.size, 0, none⟩ = some (.int .i64 1) := by rw [hb1.cell (p := ⟨w.heap.size, 0, none⟩) hlt, ← hw0]; exact cell_new w _ _ 0 _ rfl
 have hc1 : w1.cell? ⟨w.heap.size, 1, none⟩ = some (.string t) := by rw [hb1.cell (p := ⟨w.heap.size, 1, none⟩) hlt, ← hw0]; exact cell_new w _ _ 1 _ rfl
 obtain ⟨o, ho⟩ : ∃ o, parseL (lst t) = o := ⟨_, rfl⟩
 have HP := refParse_any t w1 (by unfold maxLen; omega) o ho
 obtain ⟨R, hR⟩ : ∃ R, encT t = R := ⟨_, rfl⟩
 have HR : Hid ((if o.isSome then nInt else if t.size ≤ 44 then nEmb else nRaw) = R) := by show _ = _; rw [← hR, ← ho]; rfl
 rw [hR]
 clear hR ho hb0 hb1 hlt
 cases o with
 | some z =>
  have HR2 : Hid (nInt = R) := HR.out
  go_enter Tryz.func32, Tryz.ntmps32
  go_wp2_with fail
  refine HP.mono ?_
  rintro e w1 ⟨rfl, rfl⟩
  dsimp only [i64R, Option.getD_some, Option.isSome_some]
  go_wp2
  go_ret
  exact ⟨by rw [← HR2.out]; rfl, HB.out⟩
 | none =>
  have HR2 : Hid ((if t.size ≤ 44 then nEmb else nRaw) = R) := HR.out
  by_cases h44 : t.size ≤ 44
  ·have HR3 : Hid (nEmb = R) := by show _ = _; rw [← HR2.out, if_pos h44]
   go_enter Tryz.func32, Tryz.ntmps32
   go_wp2_with fail
   refine HP.mono ?_
   rintro e w1 ⟨rfl, rfl⟩
   dsimp only [i64R, Option.getD_none, Option.isSome_none]
   go_wp2
   go_ret
   exact ⟨by rw [← HR3.out]; rfl, HB.out⟩
  ·have HR3 : Hid (nRaw = R) := by show _ = _; rw [← HR2.out, if_neg h44]
   go_enter Tryz.func32, Tryz.ntmps32
   go_wp2_with fail
   refine HP.mono ?_
   rintro e w1 ⟨rfl, rfl⟩
   dsimp only [i64R, Option.getD_none, Option.isSome_none]
   go_wp2
   go_ret
   exact ⟨by rw [← HR3.out]; rfl, HB.out⟩
set_option maxRecDepth 100000 in
set_option maxHeartbeats 8000000 in
theorem tells_t (B v : Nat) (one : Bool) (F : List Nat) (t : ByteArray) (le lt : Int) (w : World) (h : PV w B v (.txt t) one F) (hok : VD.ok (.txt t)) :
  Calls Tryz.prog 9 #[ptr v, .agg #[.int .i64 1, .string t, .slice none 0 0, .slice none 0 0], .agg #[.int .i64 le, .int .i64 lt]] w fun e w' => e = .returned (.bool true) ∧ Below w.heap.size w w' := by
 obtain ⟨w0, hw0⟩ : ∃ w0, w.alloc (.cells #[.int .i64 1, .string t, .slice none 0 0, .slice none 0 0] 29) = w0 := ⟨_, rfl⟩
 obtain ⟨w1, hw1⟩ : ∃ w1, w0.alloc (.cells #[.int .i64 le, .int .i64 lt] 28) = w1 := ⟨_, rfl⟩
 have hb0 : Below w.heap.size w w0 := by rw [← hw0]; exact alloc_below w _
 have hb1 : Below w0.heap.size w0 w1 := by rw [← hw1]; exact alloc_below w0 _
 have hl0 : w.heap.size < w0.heap.size := by rw [← hw0]; exact alloc_lt w _ _
 have hl1 : w0.heap.size < w1.heap.size := by rw [← hw1]; exact alloc_lt w0 _ _
 have hb : Below w.heap.size w w1 := hb0.trans (hb1.mono hb0.size)
 have HB1 : Hid (Below w.heap.size w w1) := hb
 have hP := h.keep hb
 have hV0 : Vl w 0 (.txt t) (.agg #[.int .i64 1, .string t, .slice none 0 0, .slice none 0 0]) := rfl
 have hV := hV0.keep hb
 have HP : Hid (PV w1 B v (.txt t) one F) := hP
 have HOk : Hid (VD.ok (.txt t)) := hok
 have HC : Hid (∀ wx, Below w1.heap.size w1 wx → wx.cell? ⟨v, 0, none⟩ = some (.int .i64 1) ∧ wx.cell? ⟨w.heap.size, 0, none⟩ = some (.int .i64 1) ∧ wx.cell? ⟨w.heap.size, 1, none⟩ = some (.string t) ∧ wx.cell? ⟨w.heap.size, 2, none⟩ = some (.slice none 0 0) ∧ wx.cell? ⟨w.heap.size, 3, none⟩ = some (.slice none 0 0)) := fun wx hx => by
  refine ⟨(hP.keep hx).ck, ?_, ?_, ?_, ?_⟩
  ·rw [hx.cell (p := ⟨w.heap.size, 0, none⟩) (Nat.lt_trans hl0 hl1), hb1.cell (p := ⟨w.heap.size, 0, none⟩) hl0, ← hw0]; exact cell_new w _ _ 0 _ rfl
  ·rw [hx.cell (p := ⟨w.heap.size, 1, none⟩) (Nat.lt_trans hl0 hl1), hb1.cell (p := ⟨w.heap.size, 1, none⟩) hl0, ← hw0]; exact cell_new w _ _ 1 _ rfl
  ·rw [hx.cell (p := ⟨w.heap.size, 2, none⟩) (Nat.lt_trans hl0 hl1), hb1.cell (p := ⟨w.heap.size, 2, none⟩) hl0, ← hw0]; exact cell_new w _ _ 2 _ rfl
  ·rw [hx.cell (p := ⟨w.heap.size, 3, none⟩) (Nat.lt_trans hl0 hl1), hb1.cell (p := ⟨w.heap.size, 3, none⟩) hl0, ← hw0]; exact cell_new w _ _ 3 _ rfl
 have HCL : Hid (∀ wx, Below w1.heap.size w1 wx → wx.cell? ⟨w0.heap.size, 0, none⟩ = some (.int .i64 le) ∧ wx.cell? ⟨w0.heap.size, 1, none⟩ = some (.int .i64 lt)) := fun wx hx => by
  rw [hx.cell (p := ⟨w0.heap.size, 0, none⟩) hl1, hx.cell (p := ⟨w0.heap.size, 1, none⟩) hl1, ← hw1]
  exact ⟨cell_new w0 _ _ 0 _ rfl, cell_new w0 _ _ 1 _ rfl⟩
 obtain ⟨L, hL⟩ : ∃ L, VD.len (.txt t) = L := ⟨_, rfl⟩
 obtain ⟨E, hE⟩ : ∃ E, VD.emp (.txt t) = E := ⟨_, rfl⟩
 have HL1 : Hid (∀ wx, Below w1.heap.size w1 wx → Calls Tryz.prog 22 #[ptr v] wx fun e w' => e = .returned (.int .i64 (L : Nat)) ∧ Below wx.heap.size wx w') := fun wx hx => by rw [← hL]; exact LenV wx B v _ one F (hP.keep hx)
 have HL2 : Hid (∀ wx, Below w1.heap.size w1 wx → Calls Tryz.prog 30 #[.agg #[.int .i64 1, .string t, .slice none 0 0, .slice none 0 0]] wx fun e w' => e = .returned (.int .i64 (L : Nat)) ∧ Below wx.heap.size wx w') := fun wx hx => by rw [← hL]; exact (hV.keep hx).len
 have HE1 : Hid (∀ wx, Below w1.heap.size w1 wx → Calls Tryz.prog 21 #[ptr v] wx fun e w' => e = .returned (.bool E) ∧ Below wx.heap.size wx w') := fun wx hx => by rw [← hE]; exact EmptyV wx B v _ one F (hP.keep hx)
 have HE2 : Hid (∀ wx, Below w1.heap.size w1 wx → Calls Tryz.prog 31 #[.agg #[.int .i64 1, .string t, .slice none 0 0, .slice none 0 0]] wx fun e w' => e = .returned (.bool E) ∧ Below wx.heap.size wx w') := fun wx hx => by rw [← hE]; exact (hV.keep hx).empty
 have HT1 : Hid (∀ wx, Below w1.heap.size w1 wx → Calls Tryz.prog 23 #[ptr v] wx fun e w' => e = .returned (.string (typ 1)) ∧ w' = wx) := fun wx hx => TypeV wx B v _ one F (hP.keep hx)
 have HT2 : Hid (∀ wx, Calls Tryz.prog 25 #[.int .i64 1] wx fun e w' => e = .returned (.string (typ 1)) ∧ w' = wx) := fun wx => rType_any wx 1 (by decide) (by decide)
 generalize typ 1 = T at HT1 HT2
 have HD : Hid (Below w1.heap.size w1 w1.drew) := below_drewN w1 1
 clear hb0 hb1 hl0 hl1 hb hP hV hV0 hL hE h hok
 go_enter Tryz.func9, Tryz.ntmps9
 go_upto_region 1 with fail
 go_cut [39] from 11 to 39 (fun u wx => ∃ wy, wy = wx ∧ u = .bool false ∧ Hid (Below w1.heap.size w1 wy))
 case first =>
  cases E
  all_goals
   go_region_held3 (fun w' => w'.cell? ⟨v, 0, none⟩ = some (.int .i64 1) ∧ w'.cell? ⟨w.heap.size, 0, none⟩ = some (.int .i64 1) ∧ w'.cell? ⟨w.heap.size, 1, none⟩ = some (.string t) ∧ w'.cell? ⟨w.heap.size, 2, none⟩ = some (.slice none 0 0) ∧ w'.cell? ⟨w.heap.size, 3, none⟩ = some (.slice none 0 0)) (exact HC.out _ HD.out) (first
    | (go_at_call 22; refine (HL1.out _ HD.out).mono ?_; rintro e wx ⟨rfl, hb⟩; replace HD := step_below HD hb; clear hb)
    | (go_at_call 30; refine (HL2.out _ HD.out).mono ?_; rintro e wx ⟨rfl, hb⟩; replace HD := step_below HD hb; clear hb)
    | (go_at_call 21; refine (HE1.out _ HD.out).mono ?_; rintro e wx ⟨rfl, hb⟩; replace HD := step_below HD hb; clear hb)
    | (go_at_call 31; refine (HE2.out _ HD.out).mono ?_; rintro e wx ⟨rfl, hb⟩; replace HD := step_below HD hb; clear hb)
    | (go_at_call 23; refine (HT1.out _ HD.out).mono ?_; rintro e wx ⟨rfl, rfl⟩)
    | (go_at_call 25; refine (HT2.out _).mono ?_; rintro e wx ⟨rfl, rfl⟩))
   all_goals
    go_wp2
    go_meet
    exact ⟨_, rfl, rfl, HD⟩
 case rest =>
 obtain ⟨w2, rfl, rfl, HD2⟩ := hcut
 clear HL1 HL2 HE1 HE2 HT1 HT2 HD
 have HE := EncodingV w2 B v _ one F (HP.out.keep HD2.out) HOk.out
 replace HE : Calls Tryz.prog 14 #[ptr v] w2 fun e w' => e = .returned (.string (encT t)) ∧ Below w2.heap.size w2 w' := HE
 have HN : Hid (∀ wx, Calls Tryz.prog 32 #[.agg #[.int .i64 1, .string t, .slice none 0 0, .slice none 0 0], .agg #[.int .i64 le, .int .i64 lt]] wx fun e w' => e = .returned (.string (encT t)) ∧ Below wx.heap.size wx w') := fun wx => encoding_t t le lt wx HOk.out
 generalize encT t = R at HE HN
 go_wp2_with fail
 refine HE.mono ?_
 rintro e w3 ⟨rfl, hb⟩
 have HD3 := step_below HD2 hb
 obtain ⟨s0, s1, s2, s3, s4⟩ := HC.out _ HD3.out
 have HDd : Hid (Below w1.heap.size w1 w3.drew) := step_below HD3 (below_drewN w3 1)
 obtain ⟨t0, ah, as_, al, hVB, hH⟩ := HP.out.ex
 obtain ⟨rfl, rfl, rfl, rfl, rfl⟩ := hH
 have HS1 : Hid (∀ wx, Below w1.heap.size w1 wx → (fun w' : World => w'.cell? ⟨v, 1, none⟩ = some (.string t0) ∧ w'.cell? ⟨w.heap.size, 0, none⟩ = some (.int .i64 1) ∧ w'.cell? ⟨w.heap.size, 1, none⟩ = some (.string t0) ∧ w'.cell? ⟨w.heap.size, 2, none⟩ = some (.slice none 0 0) ∧ w'.cell? ⟨w.heap.size, 3, none⟩ = some (.slice none 0 0) ∧ w'.cell? ⟨w0.heap.size, 0, none⟩ = some (.int .i64 le) ∧ w'.cell? ⟨w0.heap.size, 1, none⟩ = some (.int .i64 lt)) wx) := fun wx hx => ⟨(hVB.keep hx).ct, (HC.out wx hx).2.1, (HC.out wx hx).2.2.1, (HC.out wx hx).2.2.2.1, (HC.out wx hx).2.2.2.2, HCL.out wx hx⟩
 clear hb HE hVB
 go_upto_region 6 with fail
 go_region_held3 (fun w' => w'.cell? ⟨v, 1, none⟩ = some (.string t0) ∧ w'.cell? ⟨w.heap.size, 0, none⟩ = some (.int .i64 1) ∧ w'.cell? ⟨w.heap.size, 1, none⟩ = some (.string t0) ∧ w'.cell? ⟨w.heap.size, 2, none⟩ = some (.slice none 0 0) ∧ w'.cell? ⟨w.heap.size, 3, none⟩ = some (.slice none 0 0) ∧ w'.cell? ⟨w0.heap.size, 0, none⟩ = some (.int .i64 le) ∧ w'.cell? ⟨w0.heap.size, 1, none⟩ = some (.int .i64 lt)) (exact HS1.out _ HDd.out) (first
  | (go_at_call 32; refine (HN.out _).mono ?_; rintro e wx ⟨rfl, hb⟩; replace HDd := step_below HDd hb; clear hb))
 all_goals
  have HBe := step_below HB1 HDd.out
  go_wp2
  go_ret
  exact ⟨rfl, HBe.out⟩
end Go.Proofs.YtikimcbalkhooaaGreat
