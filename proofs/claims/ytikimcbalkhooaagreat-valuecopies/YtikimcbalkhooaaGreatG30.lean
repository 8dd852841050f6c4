/- Texts that the others stand on. -/
import Derived.Test.YtikimcbalkhooaaGreatG29
import Derived.Deep.RegionHeld3
import Derived.Laws.Externs
namespace Go.Proofs.YtikimcbalkhooaaGreat
open Go.RowKit Go.PlainAid
open Dk (En keysOf ecells)
set_option maxRecDepth 100000 in
theorem CompareString_any (s t : ByteArray) (w : World) : Calls Tryz.prog 124 #[.string s, .string t] w fun e w' => e = .returned (.int .i64 (Lib.compareBytes s.data.toList t.data.toList)) ∧ w' = w := by
 go_enter Tryz.func124, Tryz.ntmps124
 go_wp2
 rw [run_callFunc_extern Tryz.func173 (by kernel_rfl) (by kernel_rfl) (by kernel_rfl) (e := Extern.BytealgCompare.compare) (by kernel_rfl), Lib.run_compareString]
 simp only [Result.andThen]
 rw [Oper.upon_value]
 go_wp2
 go_ret
 exact ⟨rfl, rfl⟩
theorem Compare_any (s t : ByteArray) (w : World) : Calls Tryz.prog 82 #[.string s, .string t] w fun e w' => w' = w ∧ ∃ z : Int, e = .returned (.int .i64 z) ∧ decide (z < 0) = ltB s t := by
 have hq : decide (Lib.compareBytes s.data.toList t.data.toList < 0) = ltB s t := by
  unfold ltB
  rw [ByteArray.toList_eq, ByteArray.toList_eq]
  have := (cmp_less s.data.toList t.data.toList).1
  cases hb : Op.bytesLess s.data.toList t.data.toList
  ·rw [hb] at this; simp at this; simp; omega
  ·rw [hb] at this; simp at this; simp; omega
 have HQ : Hid _ := hq
 have HC := CompareString_any s t w
 generalize Lib.compareBytes s.data.toList t.data.toList = z at HC HQ
 clear hq
 go_enter Tryz.func82, Tryz.ntmps82
 go_wp2_with fail
 refine HC.mono ?_
 rintro e w ⟨rfl, rfl⟩
 go_wp2
 go_ret
 exact ⟨rfl, z, rfl, HQ.out⟩
theorem by_field (x1 x2 y1 y2 : ByteArray) (w : World) : Calls Tryz.prog 81 #[.agg #[.string x1, .string x2], .agg #[.string y1, .string y2]] w fun e w' => Below w.heap.size w w' ∧ ∃ z : Int, e = .returned (.int .i64 z) ∧ decide (z < 0) = ltB x1 y1 := by
 obtain ⟨w0, hw0⟩ : ∃ w0, w.alloc (.cells #[.string x1, .string x2] 62) = w0 := ⟨_, rfl⟩
 obtain ⟨w1, hw1⟩ : ∃ w1, w0.alloc (.cells #[.string y1, .string y2] 62) = w1 := ⟨_, rfl⟩
 have hb0 : Below w.heap.size w w0 := by rw [← hw0]; exact alloc_below w _
 have hb1 : Below w0.heap.size w0 w1 := by rw [← hw1]; exact alloc_below w0 _
 have hl0 : w.heap.size < w0.heap.size := by rw [← hw0]; exact alloc_lt w _ _
 have HB : Hid (Below w.heap.size w w1) := hb0.trans (hb1.mono hb0.size)
 have hc0 : w1.cell? ⟨w.heap.size, 0, none⟩ = some (.string x1) := by rw [hb1.cell (p := ⟨w.heap.size, 0, none⟩) hl0, ← hw0]; exact cell_new w _ _ 0 _ rfl
 have hc1 : w1.cell? ⟨w0.heap.size, 0, none⟩ = some (.string y1) := by rw [← hw1]; exact cell_new w0 _ _ 0 _ rfl
 have HC := Compare_any x1 y1 w1
 clear hb0 hb1 hl0
 go_enter Tryz.func81, Tryz.ntmps81
 go_wp2_with fail
 refine HC.mono ?_
 rintro e w1 ⟨rfl, z, rfl, hz⟩
 have HZ : Hid (decide (z < 0) = ltB x1 y1) := hz
 clear hz
 go_wp2
 go_ret
 exact ⟨HB.out, z, rfl, HZ.out⟩
theorem ecells_cons (e : En) (es : List En) : ecells (e :: es) = .string e.1 :: .string e.2 :: ecells es := rfl
theorem ecells_set2 : ∀ (es : List En) (j : Nat) (e : En), ((ecells es).set (j * 2) (.string e.1)).set (j * 2 + 1) (.string e.2) = ecells (es.set j e)
 | [], j, e => by simp [ecells]
 | x :: es, 0, e => by rw [List.set_cons_zero, ecells_cons, ecells_cons]; rfl
 | x :: es, j + 1, e => by
  rw [List.set_cons_succ, ecells_cons, ecells_cons, ← ecells_set2 es j e, show (j + 1) * 2 = j * 2 + 1 + 1 by omega]
  rfl
theorem OwnQ.cells {w : World} {B : Nat} {a : Option Addr} {n c : Nat} {l : List En} (h : OwnQ w B a n c l) (h0 : 0 < n) : ∃ g, a = some ⟨g, 0, none⟩ ∧ B ≤ g ∧ (∀ j, j < n → w.cell? ⟨g, j * 2, none⟩ = some (.string (l.getD j (⟨#[]⟩, ⟨#[]⟩)).1) ∧ w.cell? ⟨g, j * 2 + 1, none⟩ = some (.string (l.getD j (⟨#[]⟩, ⟨#[]⟩)).2)) ∧ ∀ o, w.frozen? ⟨g, o, none⟩ = false := by
 obtain ⟨g, hg, -⟩ := OwnQ.cell h (j := 0) h0
 refine ⟨g, hg, (Dk.OwnR.lt h (by rw [hg]; rfl)).1, fun j hj => ?_, fun o => ?_⟩
 ·obtain ⟨g', hg', h1, h2⟩ := OwnQ.cell h (j := j) hj
  rw [hg] at hg'
  obtain rfl : g = g' := by injection hg' with e1; injection e1
  exact ⟨h1, h2⟩
 ·obtain ⟨-, -, cur, h1⟩ := Dk.OwnR.lt h (k := g) (by rw [hg]; rfl)
  simp [World.frozen?, h1]
theorem OwnQ.set2 {w : World} {B g n c : Nat} {l : List En} (h : OwnQ w B (some ⟨g, 0, none⟩) n c l) (j : Nat) (e : En) : OwnQ ((w.setCell ⟨g, j * 2, none⟩ (.string e.1)).setCell ⟨g, j * 2 + 1, none⟩ (.string e.2)) B (some ⟨g, 0, none⟩) n c (l.set j e) := by
 rcases h.2 with ⟨h2, h3⟩ | ⟨g', c', cur, h1, h3, h4, h5, h6, h7, h8⟩
 ·cases h2
 ·cases h1
  refine ⟨?_, .inr ⟨g, c, (cur.setIfInBounds (j * 2) (.string e.1)).setIfInBounds (j * 2 + 1) (.string e.2), rfl, h3, Dk.heap_set (Dk.heap_set h4 _) _, h5, h6, by simpa using h7, ?_⟩⟩
  ·rw [Dk.ecells_len, List.length_set, ← Dk.ecells_len]; exact h.1
  ·rw [Array.toList_setIfInBounds, Array.toList_setIfInBounds, List.take_set, List.take_set, h8, ecells_set2]
set_option maxRecDepth 100000 in
set_option maxHeartbeats 4000000 in
theorem insE_any (B : Nat) (a : Option Addr) (n c : Nat) (l : List En) (w : World) (h : OwnQ w B a n c l) (hn : n ≤ 12) (hB : B ≤ w.heap.size) :
  Calls Tryz.prog 163 #[.slice a n c, .int .i64 0, .int .i64 n, .func (.func 81) #[] #[]] w fun e w' => e = .returned (.tuple #[]) ∧ Below B w w' ∧ ∃ r, OwnQ w' B a n c r ∧ r.Perm l ∧ Std ltE r := by
 have HO : Hid (OwnQ w B a n c l) := h
 have HL : Hid (l.length = n) := OwnQ.len h
 clear h
 go_enter Tryz.func163, Tryz.ntmps163
 go_wp2
 go_loopg [8] n (fun g iv wr => ∃ (i : Nat) (r : List En), i + g = n + 1 ∧ 1 ≤ i ∧ iv = .int .i64 i ∧ Hid (OwnQ wr B a n c r) ∧ Hid (Outr ltE l i r) ∧ Hid (Below B w wr))
 case atStart => exact ⟨1, l, by omega, by omega, by go_num, HO, Outr.start l, Below.refl _ _⟩
 case round =>
  obtain ⟨i, r, hi, hi1, rfl, HR, HT, HB⟩ := hrel
  by_cases h8 : (i : Int) < n
  ·have HI : Hid (Insr ltE l i i r) := HT.out.inner (by rw [OwnQ.len HR.out]; omega)
   obtain ⟨g, hg, hBg, -, -⟩ := OwnQ.cells HR.out (by omega)
   have HG : Hid (a = some ⟨g, 0, none⟩ ∧ B ≤ g) := ⟨hg, hBg⟩
   obtain ⟨wb, hwb⟩ : ∃ wb, wb = wr := ⟨_, rfl⟩
   subst hwb
   obtain ⟨gq, hgq⟩ : ∃ gq, gq = gk := ⟨_, rfl⟩
   subst hgq
   clear hg hBg
   go_wp2
   go_loopg [9] i (fun g jv wr => ∃ (r : List En), jv = .int .i64 g ∧ g ≤ i ∧ Hid (OwnQ wr B a n c r) ∧ Hid (Insr ltE l i g r) ∧ Hid (Below B w wr))
   case atStart => exact ⟨r, rfl, Nat.le_refl _, HR, HI, HB⟩
   case round =>
    obtain ⟨r2, rfl, hji, HR2, HI2, HB2⟩ := hrel
    have hlen : r2.length = n := OwnQ.len HR2.out
    obtain ⟨g', hg', -, hcw, hfw⟩ := OwnQ.cells HR2.out (by omega)
    obtain rfl : g = g' := by have h1 := HG.out.1; rw [hg'] at h1; injection h1 with e1; injection e1 with e2; exact e2.symm
    have hstop : gk = 0 ∨ ltE (r2.getD gk (⟨#[]⟩, ⟨#[]⟩)) (r2.getD (gk - 1) (⟨#[]⟩, ⟨#[]⟩)) = false → Hid (Outr ltE l (i + 1) r2) := fun hs => HI2.out.stop tot_E (⟨#[]⟩, ⟨#[]⟩) hs
    have HStop : Hid _ := hstop
    clear hstop
    by_cases hj0 : gk = 0
    ·subst hj0
     have HO2 := HStop.out (.inl rfl)
     have HBd : Hid (∀ q, Below B w (wr.drewN q)) := fun q => HB2.out.trans ((below_drewN wr q).mono (Nat.le_trans hB HB2.out.size))
     have HRd : Hid (∀ q, OwnQ (wr.drewN q) B a n c r2) := fun q => Dk.OwnR.keep HR2.out (below_drewN wr q)
     clear hcw hg'
     go_upto_region 4 with fail
     go_quiet (fail)
     go_wp2
     go_roundg (gq - 1)
     case measure => omega
     case rel => exact ⟨i + 1, r2, by omega, by omega, by go_num, HRd.out _, HO2, HBd.out _⟩
    ·obtain ⟨p, rfl⟩ : ∃ p, gk = p + 1 := ⟨gk - 1, by omega⟩
     obtain ⟨c1, f1⟩ := hcw (p + 1) (by omega)
     obtain ⟨c2, f2⟩ := hcw p (by omega)
     have HSw : Hid (ltE (r2.getD (p + 1) (⟨#[]⟩, ⟨#[]⟩)) (r2.getD p (⟨#[]⟩, ⟨#[]⟩)) = true → Insr ltE l i p ((r2.set (p + 1) (r2.getD p (⟨#[]⟩, ⟨#[]⟩))).set p (r2.getD (p + 1) (⟨#[]⟩, ⟨#[]⟩)))) := fun hl => HI2.out.swap (⟨#[]⟩, ⟨#[]⟩) hl
     have HStop2 : Hid (ltE (r2.getD (p + 1) (⟨#[]⟩, ⟨#[]⟩)) (r2.getD p (⟨#[]⟩, ⟨#[]⟩)) = false → Outr ltE l (i + 1) r2) := fun hl => (HStop.out (.inr (by rw [Nat.add_sub_cancel]; exact hl))).out
     have hpos : (0 : Int) < (p : Int) + 1 := by omega
     have hp12 : p ≤ 12 := by omega
     have hw1 : IntKind.i64.wrap ((p : Int) + 1 - 1) = (p : Int) := by rw [IntKind.wrap_i64]; omega
     have hw2 : IntKind.i64.wrap (p : Int) = (p : Int) := by rw [IntKind.wrap_i64]; omega
     have hpn : p + 1 < n := by omega
     have hpn0 : p < n := by omega
     have hpi : (p : Int) < n := by omega
     have hpi1 : (p : Int) + 1 < n := by omega
     have hpi2 : (0 : Int) ≤ p := by omega
     have hpi3 : (0 : Int) ≤ (p : Int) + 1 := by omega
     have HBB : Hid (B ≤ wr.heap.size) := Nat.le_trans hB HB2.out.size
     have HRs : Hid (∀ wx, Below wr.heap.size wr wx → ∀ (X Y : En), OwnQ ((((wx.setCell ⟨g, (p + 1) * 2, none⟩ (.string Y.1)).setCell ⟨g, (p + 1) * 2 + 1, none⟩ (.string Y.2)).setCell ⟨g, p * 2, none⟩ (.string X.1)).setCell ⟨g, p * 2 + 1, none⟩ (.string X.2)) B (some ⟨g, 0, none⟩) n c ((r2.set (p + 1) Y).set p X) ∧ Below B w ((((wx.setCell ⟨g, (p + 1) * 2, none⟩ (.string Y.1)).setCell ⟨g, (p + 1) * 2 + 1, none⟩ (.string Y.2)).setCell ⟨g, p * 2, none⟩ (.string X.1)).setCell ⟨g, p * 2 + 1, none⟩ (.string X.2))) := fun wx hx X Y => by
      have h1 : OwnQ wx B a n c r2 := Dk.OwnR.keep HR2.out hx
      rw [hg'] at h1
      refine ⟨(h1.set2 (p + 1) Y).set2 p X, (HB2.out.trans (hx.mono HBB.out)).trans ?_⟩
      refine (((Stay.set.trans Stay.set (fun _ h => .inl h)).trans Stay.set (fun _ h => .inl h)).trans Stay.set (fun _ h => .inl h) : Stay wx _ [g]).below (fun j hj => ?_) (Nat.le_trans HBB.out hx.size)
      simp only [List.mem_singleton] at hj
      rw [hj]; exact HG.out.2
     have HBd : Hid (∀ wx, Below wr.heap.size wr wx → Below B w wx) := fun wx hx => HB2.out.trans (hx.mono HBB.out)
     have HRd : Hid (∀ wx, Below wr.heap.size wr wx → OwnQ wx B a n c r2) := fun wx hx => Dk.OwnR.keep HR2.out hx
     have HFz : Hid (∀ wx, Below wr.heap.size wr wx → ∀ o, wx.frozen? ⟨g, o, none⟩ = false) := fun wx hx o => by
      obtain ⟨g2, e2, -, -, hf⟩ := OwnQ.cells (Dk.OwnR.keep HR2.out hx) (by omega)
      obtain rfl : g = g2 := by rw [hg'] at e2; injection e2 with e1; injection e1
      exact hf o
     have HCs : Hid (∀ wx, Below wr.heap.size wr wx → wx.cell? ⟨g, (p + 1) * 2, none⟩ = some (.string (r2.getD (p + 1) (⟨#[]⟩, ⟨#[]⟩)).1) ∧ wx.cell? ⟨g, (p + 1) * 2 + 1, none⟩ = some (.string (r2.getD (p + 1) (⟨#[]⟩, ⟨#[]⟩)).2) ∧ wx.cell? ⟨g, p * 2, none⟩ = some (.string (r2.getD p (⟨#[]⟩, ⟨#[]⟩)).1) ∧ wx.cell? ⟨g, p * 2 + 1, none⟩ = some (.string (r2.getD p (⟨#[]⟩, ⟨#[]⟩)).2)) := fun wx hx => by
      obtain ⟨g2, e2, -, hc, -⟩ := OwnQ.cells (Dk.OwnR.keep HR2.out hx) (by omega)
      obtain rfl : g = g2 := by rw [hg'] at e2; injection e2 with e1; injection e1
      exact ⟨(hc (p + 1) (by omega)).1, (hc (p + 1) (by omega)).2, (hc p (by omega)).1, (hc p (by omega)).2⟩
     subst hg'
     generalize r2.getD (p + 1) (⟨#[]⟩, ⟨#[]⟩) = X at c1 f1 HSw HStop2 HCs
     generalize r2.getD p (⟨#[]⟩, ⟨#[]⟩) = Y at c2 f2 HSw HStop2 HCs
     obtain ⟨X1, X2⟩ := X
     obtain ⟨Y1, Y2⟩ := Y
     simp only at HCs
     have HLs := by_field X1 X2 Y1 Y2
     have HD : Hid (Below wr.heap.size wr wr.drew) := below_drewN wr 1
     clear HStop hcw hlen c1 f1 c2 f2 hfw
     have hn24 : (p + 1) * 2 ≤ 26 := by omega
     go_upto_region 4 with fail
     go_cut [34] from 18 to 34 (fun u wx => ∃ wy, wy = wx ∧ u = .bool (ltB X1 Y1) ∧ Hid (Below wr.heap.size wr wy))
     case first =>
      go_region_held3 (fun w' => w'.cell? ⟨g, (p + 1) * 2, none⟩ = some (.string X1) ∧ w'.cell? ⟨g, (p + 1) * 2 + 1, none⟩ = some (.string X2) ∧ w'.cell? ⟨g, p * 2, none⟩ = some (.string Y1) ∧ w'.cell? ⟨g, p * 2 + 1, none⟩ = some (.string Y2)) (exact HCs.out _ HD.out) (first
       | (go_at_call 81; refine (HLs _).mono ?_; rintro e wx ⟨hb, z, rfl, hz⟩; replace HD := step_below HD hb; have HZ : Hid (decide (z < 0) = ltB X1 Y1) := hz; clear hb hz))
      all_goals
       go_wp2
       go_meet
       exact ⟨_, rfl, by rw [← HZ.out], HD⟩
     case rest =>
     obtain ⟨w3, rfl, rfl, HD3⟩ := hcut
     clear HLs HD
     cases hb : ltB X1 Y1
     ·have HO2 : Hid (Outr ltE l (i + 1) r2) := HStop2.out hb
      clear hb HSw
      go_wp2
      go_roundg (gq - 1)
      case measure => omega
      case rel => exact ⟨i + 1, r2, by omega, by omega, by go_num, HRd.out _ HD3.out, HO2, HBd.out _ HD3.out⟩
     ·have HI3 : Hid (Insr ltE l i p ((r2.set (p + 1) (Y1, Y2)).set p (X1, X2))) := HSw.out hb
      clear hb HStop2
      obtain ⟨s1, s2, s3, s4⟩ := HCs.out _ HD3.out
      have fz1 := HFz.out _ HD3.out ((p + 1) * 2)
      have fz2 := HFz.out _ HD3.out ((p + 1) * 2 + 1)
      have fz3 := HFz.out _ HD3.out (p * 2)
      have fz4 := HFz.out _ HD3.out (p * 2 + 1)
      have HRx := HRs.out _ HD3.out (X1, X2) (Y1, Y2)
      have HRy : Hid (OwnQ ((((w3.setCell ⟨g, (p + 1) * 2, none⟩ (.string Y1)).setCell ⟨g, (p + 1) * 2 + 1, none⟩ (.string Y2)).setCell ⟨g, p * 2, none⟩ (.string X1)).setCell ⟨g, p * 2 + 1, none⟩ (.string X2)).drew B (some ⟨g, 0, none⟩) n c ((r2.set (p + 1) (Y1, Y2)).set p (X1, X2)) ∧ Below B w ((((w3.setCell ⟨g, (p + 1) * 2, none⟩ (.string Y1)).setCell ⟨g, (p + 1) * 2 + 1, none⟩ (.string Y2)).setCell ⟨g, p * 2, none⟩ (.string X1)).setCell ⟨g, p * 2 + 1, none⟩ (.string X2)).drew) := ⟨Dk.OwnR.keep HRx.1 (below_drewN _ 1), HRx.2.trans ((below_drewN _ 1).mono (Nat.le_trans hB HRx.2.size))⟩
      clear HRx
      go_upto_region 6 with fail
      go_region
      all_goals
       go_wp2
       go_roundg p
       case measure => omega
       case rel => exact ⟨(r2.set (p + 1) (Y1, Y2)).set p (X1, X2), by go_num, by omega, HRy.out.1, HI3, HRy.out.2⟩
  ·have HE : Hid (r.Perm l ∧ Std ltE r) := HT.out.done (by rw [OwnQ.len HR.out]; omega)
   go_wp2
   go_end0
   exact ⟨rfl, HB.out, r, HR.out, HE.out⟩
def EqR (w w' : World) (e : Ending) (P : Prop) : Prop := Below w.heap.size w w' ∧ ∃ r : Bool, e = .returned (.bool r) ∧ (r = true ↔ P)
theorem EqR.yes {w w' : World} {P : Prop} (hb : Below w.heap.size w w') (h : P) : EqR w w' (.returned (.bool true)) P := ⟨hb, true, rfl, fun _ => h, fun _ => rfl⟩
theorem EqR.no {w w' : World} {P : Prop} (hb : Below w.heap.size w w') (h : ¬ P) : EqR w w' (.returned (.bool false)) P := ⟨hb, false, rfl, fun h1 => (by cases h1), fun h1 => absurd h1 h⟩
set_option maxRecDepth 100000 in
theorem EqualS_any (B C : Nat) (a1 a2 : Option Addr) (n c1 c2 : Nat) (l1 l2 : List ByteArray) (w : World) (h1 : OwnS w B a1 n c1 l1) (h2 : OwnS w C a2 n c2 l2) (hn : n ≤ 1000) :
  Calls Tryz.prog 45 #[.slice a1 n c1, .slice a2 n c2] w fun e w' => EqR w w' e (l1 = l2) := by
 have H1 : Hid (OwnS w B a1 n c1 l1) := h1
 have H2 : Hid (OwnS w C a2 n c2 l2) := h2
 have HL1 : Hid (l1.length = n) := h1.len
 have HL2 : Hid (l2.length = n) := h2.len
 clear h1 h2
 go_enter Tryz.func45, Tryz.ntmps45
 go_wp2
 go_loopg [13] n (fun g iv wr => ∃ i : Nat, i + g = n ∧ iv = .int .i64 i ∧ Hid (l1.take i = l2.take i) ∧ Hid (Below w.heap.size w wr))
 case atStart => exact ⟨0, by omega, rfl, rfl, Below.refl _ _⟩
 case round =>
  obtain ⟨i, hi, rfl, HE, HB⟩ := hrel
  by_cases h8 : (i : Int) < n
  ·have hbd : Below wr.heap.size wr wr.drew := below_drewN wr 1
   have HBd := step_below HB hbd
   obtain ⟨b1, o1, e1, k1⟩ := (H1.out.keep HB.out).rd.cell i (by omega)
   obtain ⟨b2, o2, e2, k2⟩ := (H2.out.keep HB.out).rd.cell i (by omega)
   have HT1 : Hid (l1.take (i + 1) = l1.take i ++ [l1.getD i ByteArray.empty]) := take_snocB l1 i (by have := HL1.out; omega)
   have HT2 : Hid (l2.take (i + 1) = l2.take i ++ [l2.getD i ByteArray.empty]) := take_snocB l2 i (by have := HL2.out; omega)
   have HNo : Hid (l1.getD i ByteArray.empty ≠ l2.getD i ByteArray.empty → ¬ l1 = l2) := fun h1 h2 => h1 (by rw [h2])
   generalize l1.getD i ByteArray.empty = x at k1 HT1 HNo
   generalize l2.getD i ByteArray.empty = y at k2 HT2 HNo
   have hq := str_beq x y
   subst e1
   subst e2
   clear hbd
   by_cases hxy : x = y
   ·have hq2 : (x.toList == y.toList) = true := by rw [hq, decide_eq_true hxy]
    have HE2 : Hid (l1.take (i + 1) = l2.take (i + 1)) := by show _ = _; rw [HT1.out, HT2.out, HE.out, hxy]
    have hk1 : wr.drew.cell? ⟨b1, o1 + i, none⟩ = some (.string x) := k1
    have hk2 : wr.drew.cell? ⟨b2, o2 + i, none⟩ = some (.string y) := k2
    clear hq hxy k1 k2
    go_upto_region 6 with fail
    go_region
    go_wp2
    go_roundg (gk - 1)
    case measure => omega
    case rel => exact ⟨i + 1, by omega, by go_num, HE2, HBd⟩
   ·have hq2 : (x.toList == y.toList) = false := by rw [hq, decide_eq_false hxy]
    have HF := HNo.out hxy
    have HFF : Hid (¬ l1 = l2) := HF
    have hk1 : wr.drew.cell? ⟨b1, o1 + i, none⟩ = some (.string x) := k1
    have hk2 : wr.drew.cell? ⟨b2, o2 + i, none⟩ = some (.string y) := k2
    clear hq hxy k1 k2 HF
    go_upto_region 6 with fail
    go_region
    go_wp2
    go_ret
    exact EqR.no HBd.out HFF.out
  ·have hin : i = n := by omega
   have HEq : Hid (l1 = l2) := by
    have h1 := HE.out
    rw [List.take_of_length_le (by have := HL1.out; omega), List.take_of_length_le (by have := HL2.out; omega)] at h1
    exact h1
   go_wp2
   go_ret
   exact EqR.yes HB.out HEq.out
set_option maxRecDepth 100000 in
theorem EqualQ_any (B C : Nat) (a1 a2 : Option Addr) (n c1 c2 : Nat) (l1 l2 : List En) (w : World) (h1 : OwnQ w B a1 n c1 l1) (h2 : OwnQ w C a2 n c2 l2) (hn : n ≤ 1000) :
  Calls Tryz.prog 43 #[.slice a1 n c1, .slice a2 n c2] w fun e w' => EqR w w' e (l1 = l2) := by
 have H1 : Hid (OwnQ w B a1 n c1 l1) := h1
 have H2 : Hid (OwnQ w C a2 n c2 l2) := h2
 have HL1 : Hid (l1.length = n) := OwnQ.len h1
 have HL2 : Hid (l2.length = n) := OwnQ.len h2
 clear h1 h2
 go_enter Tryz.func43, Tryz.ntmps43
 go_wp2
 go_loopg [13] n (fun g iv wr => ∃ i : Nat, i + g = n ∧ iv = .int .i64 i ∧ Hid (l1.take i = l2.take i) ∧ Hid (Below w.heap.size w wr))
 case atStart => exact ⟨0, by omega, rfl, rfl, Below.refl _ _⟩
 case round =>
  obtain ⟨i, hi, rfl, HE, HB⟩ := hrel
  by_cases h8 : (i : Int) < n
  ·have hbd : Below wr.heap.size wr wr.drew := below_drewN wr 1
   have HBd := step_below HB hbd
   obtain ⟨g1, e1, k1, j1⟩ := OwnQ.cell (Dk.OwnR.keep H1.out HBd.out) (j := i) (by omega)
   obtain ⟨g2, e2, k2, j2⟩ := OwnQ.cell (Dk.OwnR.keep H2.out HBd.out) (j := i) (by omega)
   have HT1 : Hid (l1.take (i + 1) = l1.take i ++ [l1.getD i (⟨#[]⟩, ⟨#[]⟩)]) := Dk.take_snoc l1 (⟨#[]⟩, ⟨#[]⟩) i (by have := HL1.out; omega)
   have HT2 : Hid (l2.take (i + 1) = l2.take i ++ [l2.getD i (⟨#[]⟩, ⟨#[]⟩)]) := Dk.take_snoc l2 (⟨#[]⟩, ⟨#[]⟩) i (by have := HL2.out; omega)
   have HNo : Hid (l1.getD i (⟨#[]⟩, ⟨#[]⟩) ≠ l2.getD i (⟨#[]⟩, ⟨#[]⟩) → ¬ l1 = l2) := fun h1 h2 => h1 (by rw [h2])
   generalize l1.getD i (⟨#[]⟩, ⟨#[]⟩) = x at k1 j1 HT1 HNo
   generalize l2.getD i (⟨#[]⟩, ⟨#[]⟩) = y at k2 j2 HT2 HNo
   obtain ⟨x1, x2⟩ := x
   obtain ⟨y1, y2⟩ := y
   simp only at k1 k2 j1 j2
   subst e1
   subst e2
   have hn2 : i * 2 ≤ 2000 := by omega
   clear hbd
   rcases pair_ways x1 x2 y1 y2 with ⟨f1, f2, f3⟩ | ⟨f1, f2, f3⟩ | ⟨f1, f2, f3⟩
   ·have hxy : ((x1, x2) : En) = (y1, y2) := by rw [list_inj.1 f1, list_inj.1 f2]
    have HE2 : Hid (l1.take (i + 1) = l2.take (i + 1)) := by show _ = _; rw [HT1.out, HT2.out, HE.out, hxy]
    clear f3 hxy
    go_upto_region 6 with fail
    go_region
    go_wp2
    go_roundg (gk - 1)
    case measure => omega
    case rel => exact ⟨i + 1, by omega, by go_num, HE2, HBd⟩
   all_goals
    have HFF : Hid (¬ l1 = l2) := HNo.out (fun e => by rw [if_pos e] at f3; cases f3)
    clear f3
    go_upto_region 6 with fail
    go_region
    go_wp2
    go_ret
    exact EqR.no HBd.out HFF.out
  ·have hin : i = n := by omega
   have HEq : Hid (l1 = l2) := by
    have h1 := HE.out
    rw [List.take_of_length_le (by have := HL1.out; omega), List.take_of_length_le (by have := HL2.out; omega)] at h1
    exact h1
   go_wp2
   go_ret
   exact EqR.yes HB.out HEq.out
set_option maxRecDepth 100000 in
theorem pdqE_any (B : Nat) (a : Option Addr) (n c : Nat) (l : List En) (z : Int) (w : World) (h : OwnQ w B a n c l) (hn : n ≤ 12) (hB : B ≤ w.heap.size) :
  Calls Tryz.prog 122 #[.slice a n c, .int .i64 0, .int .i64 n, .int .i64 z, .func (.func 81) #[] #[]] w fun e w' => e = .returned (.tuple #[]) ∧ Below B w w' ∧ ∃ r, OwnQ w' B a n c r ∧ r.Perm l ∧ Std ltE r := by
 have HI := insE_any B a n c l w h hn hB
 clear h
 have h12 : (n : Int) ≤ 12 := by omega
 go_enter Tryz.func122, Tryz.ntmps122
 go_wp2
 go_loopg [1, 2] 0 (fun g av bv wr => w = wr ∧ av = .int .i64 0 ∧ bv = .int .i64 n)
 case atStart => exact ⟨rfl, rfl, rfl⟩
 case round =>
  obtain ⟨rfl, rfl, rfl⟩ := hrel
  go_wp2_with fail
  refine HI.mono ?_
  rintro e w1 ⟨rfl, hb, r, h1, h2, h3⟩
  have HR : Hid (Below B w w1 ∧ ∃ r, OwnQ w1 B a n c r ∧ r.Perm l ∧ Std ltE r) := ⟨hb, r, h1, h2, h3⟩
  clear hb h1 h2 h3
  go_wp2
  (try simp only [Exit.inBlock, Exit.then])
  refine bodyPost_ret (results_none rfl _ _ _) rfl ?_
  exact ⟨rfl, HR.out⟩
theorem SortFunc_any (B : Nat) (a : Option Addr) (n c : Nat) (l : List En) (w : World) (h : OwnQ w B a n c l) (hn : n ≤ 12) (hB : B ≤ w.heap.size) :
  Calls Tryz.prog 80 #[.slice a n c, .func (.func 81) #[] #[]] w fun e w' => e = .returned (.tuple #[]) ∧ Below B w w' ∧ ∃ r, OwnQ w' B a n c r ∧ r.Perm l ∧ Std ltE r := by
 have HP := fun z => pdqE_any B a n c l z w h hn hB
 have HL := bLen_any n w hn
 clear h
 go_enter Tryz.func80, Tryz.ntmps80
 go_wp2_with fail
 refine HL.mono ?_
 rintro e w ⟨rfl, z, rfl⟩
 have HPz := HP z
 go_wp2_with fail
 refine HPz.mono ?_
 rintro e w1 ⟨rfl, hb, r, h1, h2, h3⟩
 have HR : Hid (Below B w w1 ∧ ∃ r, OwnQ w1 B a n c r ∧ r.Perm l ∧ Std ltE r) := ⟨hb, r, h1, h2, h3⟩
 clear hb h1 h2 h3
 go_wp2
 go_end0
 exact ⟨rfl, HR.out⟩
theorem sortedPairs_any (B m x E T : Nat) (l : List En) (pk : Bool) (F : List Nat) (w : World) (h : Hm w B m x E T l pk F) (hn : l.length ≤ 12) :
  Calls Tryz.prog 44 #[ptr m] w fun e w' => Below w.heap.size w w' ∧ ∃ a n c r, e = .returned (.slice a n c) ∧ OwnQ w' w.heap.size a n c r ∧ r.Perm l ∧ Std ltE r := by
 have HA := AllH B m x E T l pk F w h
 have HN : Hid (l.length ≤ 12) := hn
 clear h
 go_enter Tryz.func44, Tryz.ntmps44
 go_wp2_with fail
 refine HA.mono ?_
 rintro e w1 ⟨hb, a, n, c, r, rfl, hO, hp⟩
 have HB1 : Hid (Below w.heap.size w w1) := hb
 have HP1 : Hid (r.Perm l) := hp
 have HS := SortFunc_any w.heap.size a n c r w1 hO (by rw [← OwnQ.len hO, hp.length_eq]; exact hn) hb.size
 clear hb hO hp HA
 go_wp2_with fail
 refine HS.mono ?_
 rintro e w2 ⟨rfl, hb, r2, h1, h2, h3⟩
 have HR : Hid (Below w.heap.size w w2 ∧ OwnQ w2 w.heap.size a n c r2 ∧ r2.Perm l ∧ Std ltE r2) := ⟨HB1.out.trans hb, h1, h2.trans HP1.out, h3⟩
 clear hb h1 h2 h3
 go_wp2
 go_ret
 exact ⟨HR.out.1, a, n, c, r2, rfl, HR.out.2⟩
theorem std_permE {l r l' r' : List En} (h1 : l'.Perm l) (h2 : r'.Perm r) (s1 : Std ltE l') (s2 : Std ltE r') (hk : (keysOf l).Nodup) : l' = r' ↔ l.Perm r := by
 constructor
 ·rintro rfl; exact h1.symm.trans h2
 ·intro hp
  have hp' : l'.Perm r' := h1.trans (hp.trans h2.symm)
  refine std_one s1 s2 hp' (fun x y hx hy e1 e2 => ?_)
  have e3 : x.1 = y.1 := ltB_eq e2 e1
  have hx1 : x ∈ l := h1.mem_iff.1 hx
  have hy1 : y ∈ l := hp.mem_iff.2 (h2.mem_iff.1 hy)
  have g1 := Dk.getE_mem hk (k := x.1) (v := x.2) hx1
  have g2 := Dk.getE_mem hk (k := y.1) (v := y.2) hy1
  rw [e3, g2] at g1
  exact Prod.ext e3 g1.symm
theorem std_permB {l r l' r' : List ByteArray} (h1 : l'.Perm l) (h2 : r'.Perm r) (s1 : Std ltB l') (s2 : Std ltB r') : l' = r' ↔ l.Perm r := by
 constructor
 ·rintro rfl; exact h1.symm.trans h2
 ·intro hp
  exact std_one s1 s2 (h1.trans (hp.trans h2.symm)) (fun x y _ _ e1 e2 => ltB_eq e2 e1)
end Go.Proofs.YtikimcbalkhooaaGreat
