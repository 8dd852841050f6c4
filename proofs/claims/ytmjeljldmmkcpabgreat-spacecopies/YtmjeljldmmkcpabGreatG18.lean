/- Texts that the others stand on. -/
import Derived.Test.YtmjeljldmmkcpabGreatG17
import Derived.Deep.CutRange
import Derived.BigQuiet
namespace Go.Proofs.YtmjeljldmmkcpabGreat.Sq
open Go.RowKit Go.PlainAid
open Dk (ptr below_drewN alloc_below step_below add_flat OwnR OwnP OwnS Mv pcells Elt elt_of)
abbrev qp (s : Nat) : Value := .pointer (some ⟨s, 4, none⟩)
theorem first_any (w : World) (B s : Nat) (S : Sd) (g c : Nat) (L : List Nat) (I : Nat → Itm) (P : Nat → Int) (Q : List Nat) (h : Nat) (H : Hs w B s S g c L I P Q h) (h0 : 0 < Q.length) (hh : h ≠ 0) :
    Calls Tryz.prog 63 #[qp s] w fun e w' => e = .returned (ptr (at' Q 0)) ∧ w' = w := by
  have e1 := H.head
  have e2 := H.cell h0 (Ne.symm hh)
  have hz : (0 : Int) < Q.length := by omega
  clear H
  go_enter Tryz.func63, Tryz.ntmps63
  go_wp2
  go_ret
  exact ⟨rfl, rfl⟩
theorem isTimed_any (w : World) (p : Nat) (n : Int) (h : w.cell? ⟨p, 3, none⟩ = some (.int .i64 n)) :
    Calls Tryz.prog 40 #[ptr p] w fun e w' => e = .returned (.bool (decide (n ≠ -1))) ∧ w' = w := by
  by_cases hn : n = -1
  · subst hn
    go_enter Tryz.func40, Tryz.ntmps40
    go_wp2
    go_ret
    exact ⟨rfl, rfl⟩
  · rw [decide_eq_true hn]
    have hb : (n != -1) = true := by simpa using hn
    go_enter Tryz.func40, Tryz.ntmps40
    go_wp2
    go_ret
    exact ⟨rfl, rfl⟩
/-- An item is laid at a place. -/
theorem lay_any (w : World) (B s : Nat) (S : Sd) (g c : Nat) (L : List Nat) (I : Nat → Itm) (P : Nat → Int) (Q : List Nat) (h : Nat) (H : Hs w B s S g c L I P Q h) (q : Nat) (hq : q ∈ L) (hh : h < Q.length) :
    Calls Tryz.prog 100 #[qp s, ptr q, .int .i64 h] w fun e w' => e = .returned (.tuple #[]) ∧ w' = (w.setCell ⟨g, h, none⟩ (ptr q)).setCell ⟨q, 3, none⟩ (.int .i64 h) := by
  have e1 := H.head
  obtain ⟨v0, e2⟩ := H.any hh
  have e3 := H.fz h
  have hz : (h : Int) < Q.length := by omega
  have hI := H.its q hq
  obtain ⟨cur, k1, -⟩ := H.row.ex
  have n1 : (w.setCell ⟨g, h, none⟩ (ptr q)).heap[q]? = some (.cells (icells (I q) (P q)) 86 (0, 0)) := by rw [heap_ne (Ne.symm (tag_ne k1 hI.2 (by decide)))]; exact hI.2
  have e4 : (w.setCell ⟨g, h, none⟩ (ptr q)).cell? ⟨q, 3, none⟩ = some (.int .i64 (P q)) := by simp [World.cell?, n1]
  have e5 : (w.setCell ⟨g, h, none⟩ (ptr q)).frozen? ⟨q, 3, none⟩ = false := by simp [World.frozen?, n1]
  clear H hI k1 n1
  go_enter Tryz.func100, Tryz.ntmps100
  go_wp2
  go_end0
  exact ⟨rfl, rfl⟩
/-- What rise leaves. -/
def RiseTo (w w' : World) (B s : Nat) (S : Sd) (g c : Nat) (L : List Nat) (I : Nat → Itm) (P : Nat → Int) (Q : List Nat) (h it : Nat) : Prop :=
  ∃ P' Q' h', Fin w w' B s S g c L I P Q h it P' Q' ∧ h' < Q'.length ∧ at' Q' h' = it ∧ P' it = h' ∧ Gap (un I) Q' h' ∧ ahead I Q' h' it ∧ (kids I Q h it → Ord (un I) Q')
theorem Way.rose {w0 w : World} {B s : Nat} {S : Sd} {g c : Nat} {L : List Nat} {I : Nat → Itm} {P0 : Nat → Int} {Q0 : List Nat} {h0 it : Nat} {P : Nat → Int} {Q : List Nat} {h : Nat} (W : Way w0 w B s S g c L I P0 Q0 h0 it P Q h) (hit : it ∈ L) {w' : World} (hw : w' = (w.setCell ⟨g, h, none⟩ (ptr it)).setCell ⟨it, 3, none⟩ (.int .i64 h)) (ha : ahead I Q h it) (hk : kids I Q0 h0 it → kids I Q h it) : RiseTo w0 w' B s S g c L I P0 Q0 h0 it := by
  obtain ⟨k1, k2⟩ := W.gap.lay (x := it) ha
  exact ⟨_, _, h, W.lay hit hw, by rw [List.length_set]; exact W.lt, at_eq rfl W.lt, upd_eq _ _ _, k1, k2, fun k => W.gap.done W.lt ha (hk k)⟩
set_option maxRecDepth 100000 in
theorem rise_any (w : World) (B s : Nat) (S : Sd) (g c : Nat) (L : List Nat) (I : Nat → Itm) (P : Nat → Int) (Q : List Nat) (h it : Nat) (hW : Way w w B s S g c L I P Q h it P Q h) (hit : it ∈ L) :
    Calls Tryz.prog 68 #[qp s, ptr it, .int .i64 h] w fun e w' => e = .returned (.tuple #[]) ∧ RiseTo w w' B s S g c L I P Q h it := by
  have HW0 : Hid (Way w w B s S g c L I P Q h it P Q h) := hW
  clear hW
  go_enter Tryz.func68, Tryz.ntmps68
  go_wp2
  go_loopg [2] (h + 1) (fun gk pv wr => ∃ (h' : Nat) (P' : Nat → Int) (Q' : List Nat), pv = .int .i64 h' ∧ h' + 1 ≤ gk ∧ Hid (Way w wr B s S g c L I P Q h it P' Q' h') ∧ Hid (kids I Q h it → kids I Q' h' it))
  case atStart => exact ⟨h, P, Q, rfl, Nat.le_refl _, HW0, fun k => k⟩
  case round =>
    obtain ⟨h', P', Q', rfl, hg, HW, HK⟩ := hrel
    have hlen := HW.out.hs.few
    have hlt := HW.out.lt
    by_cases h0 : (0 : Int) < h'
    · obtain ⟨a, ha⟩ : ∃ a, (h' - 1) / 2 = a := ⟨_, rfl⟩
      have halt : a < h' := by omega
      have hah : a ≠ h' := by omega
      have hal : a < Q'.length := by omega
      have hiz : (a : Int) < Q'.length := by omega
      have hq1 : ((h' : Int) - 1).tdiv 2 = (a : Nat) := by rw [Int.tdiv_eq_ediv_of_nonneg (by omega)]; omega
      have e1 := HW.out.hs.head
      have e2 := HW.out.hs.cell hal hah
      have hr := HW.out.hs.sub a hal hah
      obtain ⟨r, hre⟩ : ∃ r, at' Q' a = r := ⟨_, rfl⟩
      rw [hre] at e2 hr
      have e3 := HW.out.hs.its.cu hr
      have e4 := HW.out.hs.its.cu hit
      have HRE : Hid (at' Q' a = r) := hre
      have HA : Hid ((h' - 1) / 2 = a) := ha
      clear hre ha
      by_cases hc : (I r).u ≤ (I it).u
      · have HC : Hid ((I r).u ≤ (I it).u) := hc
        have hcz : decide ((I r).u ≤ (I it).u) = true := decide_eq_true hc
        clear hc
        go_upto_region 2 with fail
        go_quiet (fail)
        have HW1 := HW.out.keep (below_drewN wr nq)
        generalize wr.drewN nq = w1 at HW1 ⊢
        have HL := lay_any w1 B s S g c L I P' Q' h' HW1.hs it hit HW1.lt
        have HW2 : Hid (Way w w1 B s S g c L I P Q h it P' Q' h') := HW1
        clear e1 e2 e3 e4 HW1
        go_wp2_with fail
        refine HL.mono ?_
        rintro e w2 ⟨rfl, hw2⟩
        have HR : Hid (RiseTo w w2 B s S g c L I P Q h it) := HW2.out.rose hit hw2 (fun _ => by rw [HA.out, HRE.out]; exact HC.out) HK.out
        clear hw2 HL
        go_wp2
        go_end0
        exact ⟨rfl, HR.out⟩
      · have HC : Hid ((I it).u ≤ (I r).u) := by show _ ≤ _; omega
        have hcz : decide ((I r).u ≤ (I it).u) = false := decide_eq_false hc
        clear hc
        go_upto_region 2 with fail
        go_quiet (fail)
        have HW1 := HW.out.keep (below_drewN wr nq)
        generalize wr.drewN nq = w1 at HW1 ⊢
        have HL := lay_any w1 B s S g c L I P' Q' h' HW1.hs r hr HW1.lt
        have HW2 : Hid (Way w w1 B s S g c L I P Q h it P' Q' h') := HW1
        clear e1 e2 e3 e4 HW1
        have e1 := HW2.out.hs.head
        have e2 := HW2.out.hs.cell hal hah
        rw [HRE.out] at e2
        go_wp2_with fail
        refine HL.mono ?_
        rintro e w2 ⟨rfl, hw2⟩
        have HW3 : Hid (Way w w2 B s S g c L I P Q h it (upd P' r h') (Q'.set h' r) a) := by
          have h1 := HW2.out.gap.up (by omega) HW2.out.lt
          rw [HA.out] at h1
          have h2 := HW2.out.fill hal hah (w' := w2) (by rw [HRE.out]; exact hw2) h1
          rw [HRE.out] at h2
          exact h2
        have HK3 : Hid (kids I Q h it → kids I (Q'.set h' r) a it) := fun _ => by
          have h1 := HW2.out.gap.behind (x := it) (by omega) HW2.out.lt (by rw [HA.out, HRE.out]; exact HC.out)
          rw [HA.out, HRE.out] at h1
          exact h1
        clear hw2 HL e1 e2
        go_wp2
        go_roundg (gk - 1)
        case measure => omega
        case rel => exact ⟨a, _, _, rfl, by omega, HW3, HK3⟩
    · obtain rfl : h' = 0 := by omega
      have HL : Calls Tryz.prog 100 #[qp s, ptr it, .int .i64 0] wr fun e w' => e = .returned (.tuple #[]) ∧ w' = (wr.setCell ⟨g, 0, none⟩ (ptr it)).setCell ⟨it, 3, none⟩ (.int .i64 0) := lay_any wr B s S g c L I P' Q' 0 HW.out.hs it hit HW.out.lt
      clear h0
      go_wp2_with fail
      refine HL.mono ?_
      rintro e w2 ⟨rfl, hw2⟩
      have HR : Hid (RiseTo w w2 B s S g c L I P Q h it) := HW.out.rose hit hw2 (fun h1 => by omega) HK.out
      clear hw2 HL
      go_wp2
      go_end0
      exact ⟨rfl, HR.out⟩
/-- What sink leaves. -/
def SinkTo (w w' : World) (B s : Nat) (S : Sd) (g c : Nat) (L : List Nat) (I : Nat → Itm) (P : Nat → Int) (Q : List Nat) (h it : Nat) : Prop :=
  ∃ P' Q', Fin w w' B s S g c L I P Q h it P' Q' ∧ Ord (un I) Q'
theorem Way.sunk {w0 w : World} {B s : Nat} {S : Sd} {g c : Nat} {L : List Nat} {I : Nat → Itm} {P0 : Nat → Int} {Q0 : List Nat} {h0 it : Nat} {P : Nat → Int} {Q : List Nat} {h : Nat} (W : Way w0 w B s S g c L I P0 Q0 h0 it P Q h) (hit : it ∈ L) {w' : World} (hw : w' = (w.setCell ⟨g, h, none⟩ (ptr it)).setCell ⟨it, 3, none⟩ (.int .i64 h)) (ha : ahead I Q h it) (hk : kids I Q h it) : SinkTo w0 w' B s S g c L I P0 Q0 h0 it :=
  ⟨_, _, W.lay hit hw, W.gap.done W.lt ha hk⟩
/-- The sooner one of those behind a place. -/
structure Kid (I : Nat → Itm) (Q : List Nat) (h b : Nat) : Prop where
  lt : b < Q.length
  pos : 0 < b
  par : (b - 1) / 2 = h
  min : ∀ i, 0 < i → i < Q.length → (i - 1) / 2 = h → un I (at' Q b) ≤ un I (at' Q i)
set_option maxRecDepth 100000 in
theorem sink_any (w : World) (B s : Nat) (S : Sd) (g c : Nat) (L : List Nat) (I : Nat → Itm) (P : Nat → Int) (Q : List Nat) (h it : Nat) (hW : Way w w B s S g c L I P Q h it P Q h) (hA : ahead I Q h it) (hit : it ∈ L) :
    Calls Tryz.prog 69 #[qp s, ptr it, .int .i64 h] w fun e w' => e = .returned (.tuple #[]) ∧ SinkTo w w' B s S g c L I P Q h it := by
  have HW0 : Hid (Way w w B s S g c L I P Q h it P Q h) := hW
  have HA0 : Hid (ahead I Q h it) := hA
  clear hW hA
  go_enter Tryz.func69, Tryz.ntmps69
  go_wp2
  go_loopg [2] (Q.length + 1) (fun gk pv wr => ∃ (h' : Nat) (P' : Nat → Int) (Q' : List Nat), pv = .int .i64 h' ∧ Q.length + 1 ≤ gk + h' ∧ Hid (Way w wr B s S g c L I P Q h it P' Q' h') ∧ Hid (ahead I Q' h' it))
  case atStart => exact ⟨h, P, Q, rfl, by omega, HW0, HA0⟩
  case round =>
    obtain ⟨h', P', Q', rfl, hg, HW, HA⟩ := hrel
    have hlen := HW.out.hs.few
    have hlt := HW.out.lt
    have hqq := HW.out.len
    obtain ⟨b1, hb1⟩ : ∃ b1 : Nat, 2 * (h' : Int) + 1 = (b1 : Nat) := ⟨2 * h' + 1, by omega⟩
    obtain ⟨b2, hb2⟩ : ∃ b2 : Nat, (b1 : Int) + 1 = (b2 : Nat) := ⟨b1 + 1, by omega⟩
    have e1 := HW.out.hs.head
    obtain ⟨n, hn⟩ : ∃ n, Q'.length = n := ⟨_, rfl⟩
    rw [hn] at e1 hlen hlt
    by_cases hk : b1 < n
    · obtain ⟨bh, tb, HB, hways⟩ : ∃ (bh : Nat) (tb : Bool), Hid (Kid I Q' h' bh) ∧ (bh = b1 ∧ tb = false ∧ (n ≤ b2 ∨ b2 < n ∧ un I (at' Q' b1) ≤ un I (at' Q' b2)) ∨ bh = b2 ∧ tb = true ∧ b2 < n ∧ un I (at' Q' b2) < un I (at' Q' b1)) := by
        have hkids : ∀ i, 0 < i → i < Q'.length → (i - 1) / 2 = h' → i = b1 ∨ i = b2 := fun i h1 h2 h3 => by omega
        by_cases h2 : b2 < n
        · by_cases h3 : un I (at' Q' b2) < un I (at' Q' b1)
          · refine ⟨b2, true, ⟨by omega, by omega, by omega, fun i i0 hi hp => ?_⟩, .inr ⟨rfl, rfl, h2, h3⟩⟩
            rcases hkids i i0 hi hp with rfl | rfl
            · exact Int.le_of_lt h3
            · exact Int.le_refl _
          · refine ⟨b1, false, ⟨by omega, by omega, by omega, fun i i0 hi hp => ?_⟩, .inl ⟨rfl, rfl, .inr ⟨h2, by omega⟩⟩⟩
            rcases hkids i i0 hi hp with rfl | rfl
            · exact Int.le_refl _
            · omega
        · refine ⟨b1, false, ⟨by omega, by omega, by omega, fun i i0 hi hp => ?_⟩, .inl ⟨rfl, rfl, .inl (by omega)⟩⟩
          rcases hkids i i0 hi hp with rfl | rfl
          · exact Int.le_refl _
          · omega
      go_upto_region 1 with fail
      go_cut [41] from 10 to 41 (fun v wx => v = .bool tb ∧ Hid (Below wr.heap.size wr wx))
      case first =>
        rcases hways with ⟨rfl, rfl, h2 | ⟨h2, h3⟩⟩ | ⟨rfl, rfl, h2, h3⟩
        · have hg1 : decide (b2 < n) = false := decide_eq_false (by omega)
          go_quiet (fail)
          have HB1 : Hid (Below wr.heap.size wr (wr.drewN nq)) := below_drewN wr nq
          generalize wr.drewN nq = w1 at HB1 ⊢
          go_wp2
          go_meet
          exact ⟨rfl, HB1⟩
        · have hg1 : decide (b2 < n) = true := decide_eq_true (by omega)
          have h2z : (b2 : Int) < n := by omega
          have hkz : (bh : Int) < n := by omega
          have e2 := HW.out.hs.cell (i := bh) (by omega) (by omega)
          have e3 := HW.out.hs.cell (i := b2) (by omega) (by omega)
          have e4 := HW.out.hs.its.cu (HW.out.hs.sub bh (by omega) (by omega))
          have e5 := HW.out.hs.its.cu (HW.out.hs.sub b2 (by omega) (by omega))
          generalize at' Q' bh = p1 at e2 e4 h3
          generalize at' Q' b2 = p2 at e3 e5 h3
          have hg2 : decide ((I p2).u < (I p1).u) = false := decide_eq_false (by show ¬ _; exact Int.not_lt.2 h3)
          clear h3
          go_quiet (fail)
          have HB1 : Hid (Below wr.heap.size wr (wr.drewN nq)) := below_drewN wr nq
          generalize wr.drewN nq = w1 at HB1 ⊢
          go_wp2
          go_meet
          exact ⟨rfl, HB1⟩
        · have hg1 : decide (bh < n) = true := decide_eq_true (by omega)
          have h2z : (bh : Int) < n := by omega
          have hkz : (b1 : Int) < n := by omega
          have e2 := HW.out.hs.cell (i := b1) (by omega) (by omega)
          have e3 := HW.out.hs.cell (i := bh) (by omega) (by omega)
          have e4 := HW.out.hs.its.cu (HW.out.hs.sub b1 (by omega) (by omega))
          have e5 := HW.out.hs.its.cu (HW.out.hs.sub bh (by omega) (by omega))
          generalize at' Q' b1 = p1 at e2 e4 h3
          generalize at' Q' bh = p2 at e3 e5 h3
          have hg2 : decide ((I p2).u < (I p1).u) = true := decide_eq_true h3
          clear h3
          go_quiet (fail)
          have HB1 : Hid (Below wr.heap.size wr (wr.drewN nq)) := below_drewN wr nq
          generalize wr.drewN nq = w1 at HB1 ⊢
          go_wp2
          go_meet
          exact ⟨rfl, HB1⟩
      case rest =>
        obtain ⟨rfl, HB1⟩ := hcut
        have HW1 : Hid (Way w wc B s S g c L I P Q h it P' Q' h') := HW.out.keep HB1.out
        clear e1 HB1
        have hbz : (bh : Int) < n := by have := HB.out.lt; omega
        have hbn : bh < n := by omega
        have hbne : bh ≠ h' := by have := HB.out.par; have := HB.out.pos; omega
        have HBL : Hid (h' < bh) := by have := HB.out.par; have := HB.out.pos; show _ < _; omega
        go_upto_if 41 with fail
        go_cut [6] from 42 to 43 (fun v wy => v = .int .i64 (bh : Nat) ∧ wc = wy)
        case first =>
          rcases hways with ⟨rfl, rfl, -⟩ | ⟨rfl, rfl, -⟩
          · go_wp2
            go_meet
            exact ⟨rfl, rfl⟩
          · go_wp2
            go_meet
            exact ⟨rfl, rfl⟩
        case rest =>
          obtain ⟨rfl, rfl⟩ := hcut
          clear hways
          have hng : decide (n ≤ bh) = false := decide_eq_false (by omega)
          have e1 := HW1.out.hs.head
          rw [hn] at e1
          have e2 := HW1.out.hs.cell (i := bh) (by omega) hbne
          have hr := HW1.out.hs.sub bh (by omega) hbne
          obtain ⟨r, hre⟩ : ∃ r, at' Q' bh = r := ⟨_, rfl⟩
          rw [hre] at e2 hr
          have e3 := HW1.out.hs.its.cu hr
          have e4 := HW1.out.hs.its.cu hit
          have HRE : Hid (at' Q' bh = r) := hre
          clear hre
          by_cases hc : (I it).u ≤ (I r).u
          · have HC : Hid ((I it).u ≤ (I r).u) := hc
            have hcz : decide ((I it).u ≤ (I r).u) = true := decide_eq_true hc
            clear hc
            go_upto_region 3 with fail
            go_quiet (fail)
            have HW2 : Hid (Way w (wc.drewN nq) B s S g c L I P Q h it P' Q' h') := HW1.out.keep (below_drewN wc nq)
            generalize wc.drewN nq = w1 at HW2 ⊢
            have HL := lay_any w1 B s S g c L I P' Q' h' HW2.out.hs it hit HW2.out.lt
            clear e1 e2 e3 e4
            go_wp2_with fail
            refine HL.mono ?_
            rintro e w2 ⟨rfl, hw2⟩
            have HR : Hid (SinkTo w w2 B s S g c L I P Q h it) := HW2.out.sunk hit hw2 HA.out (fun i i0 hi hp => by
              have := HB.out.min i i0 hi hp
              rw [HRE.out] at this
              exact Int.le_trans HC.out this)
            clear hw2 HL
            go_wp2
            go_end0
            exact ⟨rfl, HR.out⟩
          · have HC : Hid ((I r).u ≤ (I it).u) := by show _ ≤ _; omega
            have hcz : decide ((I it).u ≤ (I r).u) = false := decide_eq_false hc
            clear hc
            go_upto_region 3 with fail
            go_quiet (fail)
            have HW2 : Hid (Way w (wc.drewN nq) B s S g c L I P Q h it P' Q' h') := HW1.out.keep (below_drewN wc nq)
            generalize wc.drewN nq = w1 at HW2 ⊢
            have HL := lay_any w1 B s S g c L I P' Q' h' HW2.out.hs r hr HW2.out.lt
            clear e1 e2 e3 e4
            have e1 := HW2.out.hs.head
            rw [hn] at e1
            have e2 := HW2.out.hs.cell (i := bh) (by omega) hbne
            rw [HRE.out] at e2
            go_wp2_with fail
            refine HL.mono ?_
            rintro e w2 ⟨rfl, hw2⟩
            have HW3 : Hid (Way w w2 B s S g c L I P Q h it (upd P' r h') (Q'.set h' r) bh ∧ ahead I (Q'.set h' r) bh it) := by
              obtain ⟨h1, h3⟩ := HW2.out.gap.down (x := it) HB.out.pos HB.out.lt HB.out.par HB.out.min (by rw [HRE.out]; exact HC.out)
              have h2 := HW2.out.fill HB.out.lt hbne (w' := w2) (by rw [HRE.out]; exact hw2) h1
              rw [HRE.out] at h2 h3
              exact ⟨h2, h3⟩
            clear hw2 HL e1 e2
            have hbl := HBL.out
            go_wp2
            go_roundg (gk - 1)
            case measure => omega
            case rel => exact ⟨bh, _, _, rfl, by omega, HW3.out.1, HW3.out.2⟩
    · have hg1 : decide (b2 < n) = false := decide_eq_false (by omega)
      have hg2 : decide (n ≤ b1) = true := decide_eq_true (by omega)
      go_upto_region 1 with fail
      go_quiet (fail)
      have HW1 : Hid (Way w (wr.drewN nq) B s S g c L I P Q h it P' Q' h') := HW.out.keep (below_drewN wr nq)
      generalize wr.drewN nq = w1 at HW1 ⊢
      clear e1
      have e1 := HW1.out.hs.head
      rw [hn] at e1
      go_upto_region 3 with fail
      go_quiet (fail)
      have HW2 : Hid (Way w (w1.drewN nq) B s S g c L I P Q h it P' Q' h') := HW1.out.keep (below_drewN w1 nq)
      generalize w1.drewN nq = w2 at HW2 ⊢
      have HL := lay_any w2 B s S g c L I P' Q' h' HW2.out.hs it hit HW2.out.lt
      clear e1
      go_wp2_with fail
      refine HL.mono ?_
      rintro e w3 ⟨rfl, hw3⟩
      have HR : Hid (SinkTo w w3 B s S g c L I P Q h it) := HW2.out.sunk hit hw3 HA.out (fun i i0 hi hp => by omega)
      clear hw3 HL
      go_wp2
      go_end0
      exact ⟨rfl, HR.out⟩
end Go.Proofs.YtmjeljldmmkcpabGreat.Sq
