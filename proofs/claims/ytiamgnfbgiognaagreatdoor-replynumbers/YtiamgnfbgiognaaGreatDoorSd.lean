/-
  slices.SortFunc of a row of at most twelve replies.
-/
import Derived.Test.YtiamgnfbgiognaaGreatDoorSc
namespace Go.Proofs.YtiamgnfbgiognaaGreatDoor
open Go.RowKit Go.PlainAid

theorem ltT_int (a b : RT) : decide (cmpT a b < 0) = ltT a b := rfl
def RT.z : RT := .mk 0 ⟨#[]⟩ 0 []
/-- A row of replies of the call's own. -/
abbrev OwnE (w : World) (B : Nat) (a : Option Addr) (n c : Nat) (es : List El) : Prop := OwnR w B 24 4 a n c (rcells es)
theorem Tryz.infoRR : (Tryz.prog.info? 24).map (fun i => (i.zero, i.size, i.bytes)) = some (some (.agg #[.int .i64 0, .string ⟨#[]⟩, .int .i64 0, .slice none 0 0]), 4, 56) := by kernel_rfl
theorem eltR : Elt 22 24 4 56 := elt_of Tryz.underlying22 Tryz.infoRR rfl (by decide)
theorem OwnE.len {w : World} {B : Nat} {a : Option Addr} {n c : Nat} {es : List El} (h : OwnE w B a n c es) : es.length = n := by have := OwnR.len h; rw [rcells_len] at this; omega
theorem OwnE.cells {w : World} {B g n c : Nat} {es : List El} (h : OwnE w B (some ⟨g, 0, none⟩) n c es) {j : Nat} {e : El} (hj : es[j]? = some e) : w.cell? ⟨g, j * 4, none⟩ = some (.int .i64 e.k) ∧ w.cell? ⟨g, j * 4 + 1, none⟩ = some (.string e.s) ∧ w.cell? ⟨g, j * 4 + 2, none⟩ = some (.int .i64 e.n) ∧ w.cell? ⟨g, j * 4 + 3, none⟩ = some (.slice e.a e.m e.c) := by
  have hl := OwnE.len h
  have hj' : j < es.length := (List.getElem?_eq_some_iff.1 hj).1
  obtain ⟨g', e1, h2⟩ := OwnR.at h (by omega)
  cases e1
  obtain ⟨k1, k2, k3, k4⟩ := rcells_get es j e hj
  exact ⟨h2 _ _ k1, h2 _ _ k2, h2 _ _ k3, h2 _ _ k4⟩
theorem OwnR.fz {w : World} {B : Nat} {t : TypeId} {s g n c : Nat} {cs : List Value} (h : OwnR w B t s (some ⟨g, 0, none⟩) n c cs) (o : Nat) : w.frozen? ⟨g, o, none⟩ = false := by
  obtain ⟨-, -, cur, h1⟩ := OwnR.lt h (k := g) rfl
  simp [World.frozen?, h1]
theorem OwnE.set4 {w : World} {B g n c : Nat} {es : List El} (h : OwnE w B (some ⟨g, 0, none⟩) n c es) (j : Nat) (e : El) : OwnE ((((w.setCell ⟨g, j * 4, none⟩ (.int .i64 e.k)).setCell ⟨g, j * 4 + 1, none⟩ (.string e.s)).setCell ⟨g, j * 4 + 2, none⟩ (.int .i64 e.n)).setCell ⟨g, j * 4 + 3, none⟩ (.slice e.a e.m e.c)) B (some ⟨g, 0, none⟩) n c (es.set j e) := by
  rcases h.2 with ⟨h2, h3⟩ | ⟨g', c', cur, h1, h3, h4, h5, h6, h7, h8⟩
  · cases h2
  · cases h1
    refine ⟨?_, .inr ⟨g, c, (((cur.setIfInBounds (j * 4) (.int .i64 e.k)).setIfInBounds (j * 4 + 1) (.string e.s)).setIfInBounds (j * 4 + 2) (.int .i64 e.n)).setIfInBounds (j * 4 + 3) (.slice e.a e.m e.c), rfl, h3, heap_set (heap_set (heap_set (heap_set h4 _) _) _) _, h5, h6, by simpa using h7, ?_⟩⟩
    · rw [rcells_len, List.length_set, ← rcells_len]; exact h.1
    · rw [Array.toList_setIfInBounds, Array.toList_setIfInBounds, Array.toList_setIfInBounds, Array.toList_setIfInBounds, List.take_set, List.take_set, List.take_set, List.take_set, h8, rcells_set]
theorem getD_of {α : Type} {l : List α} {j : Nat} {x : α} (h : l[j]? = some x) (z : α) : l.getD j z = x := by rw [List.getD_eq_getElem?_getD, h]; rfl
theorem Vls.at {w : World} {F : Nat → Prop} {d : Nat} {es : List El} {l : List RT} (h : Vls w F d es l) {g : Nat} (hF : ¬ F g) {w' : World} (hs : Stay w w' [g]) {j : Nat} (hj : j < es.length) : ∃ e t, es[j]? = some e ∧ l[j]? = some t ∧ Vl w F d e t ∧ VL w' d e t := by
  obtain ⟨e, t, h1, h2, h3⟩ := h.get hj
  exact ⟨e, t, h1, h2, h3, (h3.keep fun k hk hf => hs.block k hk (by simp; rintro rfl; exact hF hf)).lo⟩
set_option maxRecDepth 100000 in
set_option maxHeartbeats 4000000 in
theorem insR_any (d : Nat) (F : Nat → Prop) (B g n c : Nat) (es : List El) (ts : List RT) (w : World) (h : OwnE w B (some ⟨g, 0, none⟩) n c es) (hv : Vls w F d es ts) (hF : ¬ F g) (hn : n ≤ 12) :
    Calls Tryz.prog 46 #[.slice (some ⟨g, 0, none⟩) n c, .int .i64 0, .int .i64 n, .func (.func 28) #[] #[]] w fun e w' => e = .returned (.tuple #[]) ∧ Stay w w' [g] ∧ ∃ es', OwnE w' B (some ⟨g, 0, none⟩) n c es' ∧ Vls w F d es' (sortT ts) := by
  have HO : Hid (OwnE w B (some ⟨g, 0, none⟩) n c es) := h
  have HV : Hid (Vls w F d es ts) := hv
  have HF : Hid (¬ F g) := hF
  have HGB : Hid (g < w.heap.size) := (OwnR.lt h rfl).2.1
  clear h hv hF
  go_enter Tryz.func46, Tryz.ntmps46
  go_wp2
  go_loopg [8] n (fun gk iv wr => ∃ (i : Nat) (r : List El) (rs : List RT), i + gk = n + 1 ∧ 1 ≤ i ∧ iv = .int .i64 i ∧ Hid (OwnE wr B (some ⟨g, 0, none⟩) n c r) ∧ Hid (Vls w F d r rs) ∧ Hid (Outr ltT ts i rs) ∧ Hid (Stay w wr [g]))
  case atStart => exact ⟨1, es, ts, by omega, by omega, by go_num, HO, HV, Outr.start ts, Stay.of_below (Below.refl _ _) _⟩
  case round =>
    obtain ⟨i, r, rs, hi, hi1, rfl, HR, HW, HT, HB⟩ := hrel
    by_cases h8 : (i : Int) < n
    · have HI : Hid (Insr ltT ts i i rs) := HT.out.inner (by rw [← HW.out.len, OwnE.len HR.out]; omega)
      obtain ⟨wb, hwb⟩ : ∃ wb, wb = wr := ⟨_, rfl⟩
      subst hwb
      obtain ⟨gq, hgq⟩ : ∃ gq, gq = gk := ⟨_, rfl⟩
      subst hgq
      go_wp2
      go_loopg [9] i (fun gk jv wr => ∃ (r : List El) (rs : List RT), jv = .int .i64 gk ∧ gk ≤ i ∧ Hid (OwnE wr B (some ⟨g, 0, none⟩) n c r) ∧ Hid (Vls w F d r rs) ∧ Hid (Insr ltT ts i gk rs) ∧ Hid (Stay w wr [g]))
      case atStart => exact ⟨r, rs, rfl, Nat.le_refl _, HR, HW, HI, HB⟩
      case round =>
        obtain ⟨r2, rs2, rfl, hji, HR2, HW2, HI2, HB2⟩ := hrel
        have hlen : r2.length = n := OwnE.len HR2.out
        have HStop : Hid (gk = 0 ∨ ltT (rs2.getD gk RT.z) (rs2.getD (gk - 1) RT.z) = false → Hid (Outr ltT ts (i + 1) rs2)) := fun hs => HI2.out.stop tot_T RT.z hs
        by_cases hj0 : gk = 0
        · subst hj0
          have HO2 := HStop.out (.inl rfl)
          have HBd : Hid (∀ q, Stay w (wr.drewN q) [g]) := fun q => HB2.out.trans (Stay.of_below (below_drewN wr q) [g]) (fun _ h => .inl h)
          have HRd : Hid (∀ q, OwnE (wr.drewN q) B (some ⟨g, 0, none⟩) n c r2) := fun q => OwnR.keep HR2.out (below_drewN wr q)
          clear HStop
          go_upto_region 4 with fail
          go_quiet (fail)
          go_wp2
          go_roundg (gq - 1)
          case measure => omega
          case rel => exact ⟨i + 1, r2, rs2, by omega, by omega, by go_num, HRd.out _, HW2, HO2, HBd.out _⟩
        · obtain ⟨p, rfl⟩ : ∃ p, gk = p + 1 := ⟨gk - 1, by omega⟩
          obtain ⟨X, tx, hX, htx, hvx, hvX⟩ := HW2.out.at HF.out HB2.out (j := p + 1) (by omega)
          obtain ⟨Y, ty, hY, hty, hvy, hvY⟩ := HW2.out.at HF.out HB2.out (j := p) (by omega)
          have hgx := getD_of htx RT.z
          have hgy := getD_of hty RT.z
          have HSw : Hid (ltT tx ty = true → Insr ltT ts i p ((rs2.set (p + 1) ty).set p tx)) := fun hl => by
            have := HI2.out.swap RT.z (by rw [hgx, hgy]; exact hl)
            rw [hgx, hgy] at this
            exact this
          have HStop2 : Hid (ltT tx ty = false → Outr ltT ts (i + 1) rs2) := fun hl => (HStop.out (.inr (by rw [Nat.add_sub_cancel, hgx, hgy]; exact hl))).out
          have HWn : Hid (Vls w F d ((r2.set (p + 1) Y).set p X) ((rs2.set (p + 1) ty).set p tx)) := (HW2.out.set (p + 1) hvy).set p hvx
          have hpos : (0 : Int) < (p : Int) + 1 := by omega
          have hp12 : p ≤ 12 := by omega
          have hw1 : IntKind.i64.wrap ((p : Int) + 1 - 1) = (p : Int) := by rw [IntKind.wrap_i64]; omega
          have hw2 : IntKind.i64.wrap (p : Int) = (p : Int) := by rw [IntKind.wrap_i64]; omega
          have hpn : p + 1 < n := by omega
          have hpn0 : p < n := by omega
          have hpi : (p : Int) < n := by omega
          have hpi1 : (p : Int) + 1 < n := by omega
          have hpi2 : (0 : Int) ≤ p := by omega
          have hpi3 : (0 : Int) ≤ (p : Int) + 1 := by omega
          have HRs : Hid (∀ wx, Below wr.heap.size wr wx → OwnE ((((((((wx.setCell ⟨g, (p + 1) * 4, none⟩ (.int .i64 Y.k)).setCell ⟨g, (p + 1) * 4 + 1, none⟩ (.string Y.s)).setCell ⟨g, (p + 1) * 4 + 2, none⟩ (.int .i64 Y.n)).setCell ⟨g, (p + 1) * 4 + 3, none⟩ (.slice Y.a Y.m Y.c)).setCell ⟨g, p * 4, none⟩ (.int .i64 X.k)).setCell ⟨g, p * 4 + 1, none⟩ (.string X.s)).setCell ⟨g, p * 4 + 2, none⟩ (.int .i64 X.n)).setCell ⟨g, p * 4 + 3, none⟩ (.slice X.a X.m X.c)).drew B (some ⟨g, 0, none⟩) n c ((r2.set (p + 1) Y).set p X) ∧ Stay w (((((((((wx.setCell ⟨g, (p + 1) * 4, none⟩ (.int .i64 Y.k)).setCell ⟨g, (p + 1) * 4 + 1, none⟩ (.string Y.s)).setCell ⟨g, (p + 1) * 4 + 2, none⟩ (.int .i64 Y.n)).setCell ⟨g, (p + 1) * 4 + 3, none⟩ (.slice Y.a Y.m Y.c)).setCell ⟨g, p * 4, none⟩ (.int .i64 X.k)).setCell ⟨g, p * 4 + 1, none⟩ (.string X.s)).setCell ⟨g, p * 4 + 2, none⟩ (.int .i64 X.n)).setCell ⟨g, p * 4 + 3, none⟩ (.slice X.a X.m X.c)).drew) [g]) := fun wx hx => by
            have h1 : OwnE wx B (some ⟨g, 0, none⟩) n c r2 := OwnR.keep HR2.out hx
            refine ⟨OwnR.keep (OwnE.set4 (OwnE.set4 h1 (p + 1) Y) p X) (below_drewN _ 1), ?_⟩
            exact (((HB2.out.trans (Stay.of_below hx [g]) (fun _ h => .inl h)).trans Stay.set4 (fun _ h => .inl h)).trans Stay.set4 (fun _ h => .inl h)).trans (Stay.of_below (below_drewN _ 1) [g]) (fun _ h => .inl h)
          have HBd : Hid (∀ wx, Below wr.heap.size wr wx → Stay w wx [g]) := fun wx hx => HB2.out.trans (Stay.of_below hx [g]) (fun _ h => .inl h)
          have HRd : Hid (∀ wx, Below wr.heap.size wr wx → OwnE wx B (some ⟨g, 0, none⟩) n c r2) := fun wx hx => OwnR.keep HR2.out hx
          have HFz : Hid (∀ wx, Below wr.heap.size wr wx → ∀ o, wx.frozen? ⟨g, o, none⟩ = false) := fun wx hx o => OwnR.fz (OwnR.keep HR2.out hx) o
          have HCs : Hid (∀ wx, Below wr.heap.size wr wx → wx.cell? ⟨g, (p + 1) * 4, none⟩ = some (.int .i64 X.k) ∧ wx.cell? ⟨g, (p + 1) * 4 + 1, none⟩ = some (.string X.s) ∧ wx.cell? ⟨g, (p + 1) * 4 + 2, none⟩ = some (.int .i64 X.n) ∧ wx.cell? ⟨g, (p + 1) * 4 + 3, none⟩ = some (.slice X.a X.m X.c) ∧ wx.cell? ⟨g, p * 4, none⟩ = some (.int .i64 Y.k) ∧ wx.cell? ⟨g, p * 4 + 1, none⟩ = some (.string Y.s) ∧ wx.cell? ⟨g, p * 4 + 2, none⟩ = some (.int .i64 Y.n) ∧ wx.cell? ⟨g, p * 4 + 3, none⟩ = some (.slice Y.a Y.m Y.c)) := fun wx hx => by
            have h1 : OwnE wx B (some ⟨g, 0, none⟩) n c r2 := OwnR.keep HR2.out hx
            obtain ⟨k1, k2, k3, k4⟩ := OwnE.cells h1 hX
            obtain ⟨k5, k6, k7, k8⟩ := OwnE.cells h1 hY
            exact ⟨k1, k2, k3, k4, k5, k6, k7, k8⟩
          have HLs : Hid (∀ wx, Below wr.heap.size wr wx → Calls Tryz.prog 28 #[X.v, Y.v] wx fun e w' => Below wx.heap.size wx w' ∧ e = .returned (.int .i64 (cmpT tx ty))) := fun wx hx => compare_all d X Y tx ty wx (hvX.kp hx) (hvY.kp hx)
          have HQ : Hid (decide (cmpT tx ty < 0) = ltT tx ty) := rfl
          obtain ⟨Xk, Xs, Xn, Xa, Xm, Xc⟩ := X
          obtain ⟨Yk, Ys, Yn, Ya, Ym, Yc⟩ := Y
          simp only at HCs HRs
          simp only [El.v] at HLs
          have HD : Hid (Below wr.heap.size wr wr.drew) := below_drewN wr 1
          generalize cmpT tx ty = z at HLs HQ
          clear HStop hlen hX hY htx hty hvx hvX hvy hvY hgx hgy
          have hn24 : (p + 1) * 4 ≤ 52 := by omega
          go_upto_region 4 with fail
          go_cut [34] from 18 to 34 (fun u wx => ∃ wy, wy = wx ∧ u = .bool (ltT tx ty) ∧ Hid (Below wr.heap.size wr wy))
          case first =>
            go_region_held3 (fun w' => w'.cell? ⟨g, (p + 1) * 4, none⟩ = some (.int .i64 Xk) ∧ w'.cell? ⟨g, (p + 1) * 4 + 1, none⟩ = some (.string Xs) ∧ w'.cell? ⟨g, (p + 1) * 4 + 2, none⟩ = some (.int .i64 Xn) ∧ w'.cell? ⟨g, (p + 1) * 4 + 3, none⟩ = some (.slice Xa Xm Xc) ∧ w'.cell? ⟨g, p * 4, none⟩ = some (.int .i64 Yk) ∧ w'.cell? ⟨g, p * 4 + 1, none⟩ = some (.string Ys) ∧ w'.cell? ⟨g, p * 4 + 2, none⟩ = some (.int .i64 Yn) ∧ w'.cell? ⟨g, p * 4 + 3, none⟩ = some (.slice Ya Ym Yc)) (exact HCs.out _ HD.out) (first
              | (go_at_call 28; refine (HLs.out _ HD.out).mono ?_; rintro e wx ⟨hb, rfl⟩; replace HD := step_below HD hb; clear hb))
            all_goals
              go_wp2
              go_meet
              exact ⟨_, rfl, by rw [← HQ.out], HD⟩
          case rest =>
          obtain ⟨w3, rfl, rfl, HD3⟩ := hcut
          clear HLs HD HQ
          cases hb : ltT tx ty
          · have HO2 : Hid (Outr ltT ts (i + 1) rs2) := HStop2.out hb
            clear hb HSw HRs
            go_wp2
            go_roundg (gq - 1)
            case measure => omega
            case rel => exact ⟨i + 1, r2, rs2, by omega, by omega, by go_num, HRd.out _ HD3.out, HW2, HO2, HBd.out _ HD3.out⟩
          · have HI3 : Hid (Insr ltT ts i p ((rs2.set (p + 1) ty).set p tx)) := HSw.out hb
            clear hb HStop2
            obtain ⟨s1, s2, s3, s4, s5, s6, s7, s8⟩ := HCs.out _ HD3.out
            have fz1 := HFz.out _ HD3.out ((p + 1) * 4)
            have fz2 := HFz.out _ HD3.out ((p + 1) * 4 + 1)
            have fz3 := HFz.out _ HD3.out ((p + 1) * 4 + 2)
            have fz4 := HFz.out _ HD3.out ((p + 1) * 4 + 3)
            have fz5 := HFz.out _ HD3.out (p * 4)
            have fz6 := HFz.out _ HD3.out (p * 4 + 1)
            have fz7 := HFz.out _ HD3.out (p * 4 + 2)
            have fz8 := HFz.out _ HD3.out (p * 4 + 3)
            have HRx : Hid _ := HRs.out _ HD3.out
            clear HRs HCs HFz
            go_upto_region 6 with fail
            go_region
            all_goals
              go_wp2
              go_roundg p
              case measure => omega
              case rel => exact ⟨_, _, by go_num, by omega, HRx.out.1, HWn, HI3, HRx.out.2⟩
    · have HE : Hid (rs.Perm ts ∧ Std ltT rs) := HT.out.done (by rw [← HW.out.len, OwnE.len HR.out]; omega)
      have HS : Hid (Vls w F d r (sortT ts)) := by rw [← sortT_of HE.out.1 HE.out.2]; exact HW
      go_wp2
      go_end0
      exact ⟨rfl, HB.out, r, HR.out, HS.out⟩
end Go.Proofs.YtiamgnfbgiognaaGreatDoor
