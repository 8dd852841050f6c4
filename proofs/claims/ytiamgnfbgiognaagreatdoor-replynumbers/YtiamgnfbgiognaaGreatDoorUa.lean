/-
  The document's rise.
-/
import Derived.Test.YtiamgnfbgiognaaGreatDoorTr
import Derived.Test.YtiamgnfbgiognaaGreatDoorSn
namespace Go.Proofs.YtiamgnfbgiognaaGreatDoor
open Go.RowKit Go.PlainAid

def ltO (a b : RT) : Bool := ltT (can a) (can b)
theorem tot_O : Tot ltO := ⟨fun _ _ => tot_T.asym _ _, fun _ _ _ => tot_T.trans _ _ _⟩
theorem run_append_e (w : World) (B : Nat) {t e : TypeId} {s by8 : Nat} (F : Elt t e s by8) {a : Option Addr} {n cap : Nat} {cs : List Value} (hown : OwnR w B e s a n cap cs) {ad : Addr} {m c : Nat} (news : List Value) (hl : news.length = m * s)
    (hnews : ∀ j u, news[j]? = some u → w.cell? (ad.add j) = some u) (h1 : ∀ u ∈ news, u.oneCell' = true) (hb : (n + m) * by8 ≤ 140737488355328) (h63 : n + m ≤ maxLen) (hB : B ≤ w.heap.size) (ty : TypeId) :
    ∃ a2 c2 w2, (Builtin.append_ #[t, t] ty #[.slice a n cap, .slice (some ad) m c]).run Tryz.prog w = .ok (.slice a2 (n + m) c2) w2 ∧ OwnR w2 B e s a2 (n + m) c2 (cs ++ news) ∧ w.grownBy w2 (a.map (·.block)) ∧ Goes w a a2 := by
  obtain ⟨i, z, hi, hz0, hz1, hz2, hz3⟩ := F.inf
  obtain ⟨v', w', k1, k2, k3, -, k5⟩ := run_append_own_at (P := Tryz.prog) w B t ty e i z s by8 F.und hi hz0 hz1 hz2 hz3 F.pos (.slice a n cap) n cs hown ad m c news hl hnews h1 h63 hb hB
  have hblk : (Value.slice a n cap).ownBlock = a.map (·.block) := by cases a <;> rfl
  rw [hblk] at k3 k5
  rcases k2.2 with ⟨rfl, h4⟩ | ⟨g2, c2, cur, rfl, h4⟩
  · refine ⟨none, 0, w', ?_, ?_, k3, k5⟩
    · rw [h4]; exact k1
    · rw [h4] at k2 ⊢; exact k2
  · exact ⟨_, _, w', k1, k2, k3, k5⟩
theorem append_e {w : World} {ops : Array Oper} {rest : List Oper} {o : Oper} {ac : Act} {Q : Exit → Act → World → Prop} (hgd : o.guard = none) (s x : Operand) {t e : TypeId} {sz by8 : Nat} (ho : o.op = .call { callee := .builtin .append, args := #[s, x], argTypes := #[t, t] })
    (F : Elt t e sz by8) (B : Nat) {a : Option Addr} {n cap : Nat} {cs : List Value} (hs : ac.eval s = .slice a n cap) (hown : OwnR w B e sz a n cap cs) {ad : Addr} {m c : Nat} (news : List Value) (hx : ac.eval x = .slice (some ad) m c) (hl : news.length = m * sz)
    (hnews : ∀ j u, news[j]? = some u → w.cell? (ad.add j) = some u) (h1 : ∀ u ∈ news, u.oneCell' = true) (hb : (n + m) * by8 ≤ 140737488355328) (h63 : n + m ≤ maxLen) (hB : B ≤ w.heap.size)
    (h : ∀ a2 n2 c2 w2, n2 = n + m → Hid (OwnR w2 B e sz a2 n2 c2 (cs ++ news)) → Hid (w.grownBy w2 (a.map (·.block))) → Hid (Goes w a a2) → wpList Tryz.prog ops Q rest (ac.put o.dst (.slice a2 n2 c2)) w2) : wpList Tryz.prog ops Q (o :: rest) ac w := by
  obtain ⟨a2, c2, w2, h1, h2, h3, h4⟩ := run_append_e w B F hown (c := c) news hl hnews h1 hb h63 hB o.type
  refine wpList_plain hgd fun K hK => ?_
  unfold Oper.wp
  simp [execOp, ho, resolve, invoke, builtin, hs, hx, h1, Result.andThen]
  exact hK _ _ (h a2 _ c2 w2 rfl h2 h3 h4)
/-- In rising order, in a row of its own. -/
def RiseP (w : World) (F : Nat → Prop) (d m : Nat) (ts : List RT) (r : Ending) (w' : World) : Prop := Below w.heap.size w w' ∧ ∃ (a : Option Addr) (c : Nat) (es : List El) (ts' : List RT), r = .returned (.slice a m c) ∧ OwnE w' w.heap.size a m c es ∧ Vls w' (fun g => F g ∧ g < w.heap.size) d es ts' ∧ ts'.Perm ts ∧ Std ltO ts'
set_option maxRecDepth 100000 in
set_option maxHeartbeats 4000000 in
theorem rise_any (d : Nat) (F : Nat → Prop) (a : Option Addr) (n c : Nat) (es : List El) (ts : List RT) (w : World) (h : RdE w F a n c es) (hv : Vls w F d es ts) (hn : n ≤ 12) :
    Calls Tryz.prog 30 #[.slice a n c] w (RiseP w F d n ts) := by
  obtain ⟨w1, hw1⟩ : ∃ w1, w.alloc (.cells #[] 24) = w1 := ⟨_, rfl⟩
  have hb1 : Below w.heap.size w w1 := by rw [← hw1]; exact alloc_below w _
  have HB1 : Hid _ := hb1
  have HO1 : Hid (OwnE w1 w.heap.size (some ⟨w.heap.size, 0, none⟩) 0 0 []) := by
    rw [← hw1]; exact ⟨rfl, .inr ⟨w.heap.size, 0, #[], rfl, Nat.le_refl _, heap_alloc_new w _, Nat.le_refl _, by decide, rfl, rfl⟩⟩
  have HRd : Hid (RdE w F a n c es) := h
  have HRd1 : Hid (RdE w1 F a n c es) := h.keep (fun g hg _ => hb1.block g hg)
  have HVw : Hid (Vls w (fun g => F g ∧ g < w.heap.size) d es ts) := hv.mono (fun g hl hf => ⟨hf, hl⟩)
  have HL0 : Hid (es.length = n ∧ ts.length = n) := ⟨h.len, by rw [← hv.len]; exact h.len⟩
  clear h hv hb1
  go_enter Tryz.func30, Tryz.ntmps30
  go_upto_region 1 with fail
  go_cut [3, 6, 7, 8] from 6 to 8 (fun u3 u6 u7 u8 wx => ∃ (w2 : World) (a2 : Option Addr) (c2 : Nat), w2 = wx ∧ u3 = .slice a2 n c2 ∧ Hid (OwnE w2 w.heap.size a2 n c2 es) ∧ Hid (Below w.heap.size w w2))
  case first =>
    cases a with
    | none =>
      have hc0 := HRd.out.nul rfl
      have hf := HRd.out.fit
      have hn0 : n = 0 := by omega
      have hes : es = [] := List.length_eq_zero_iff.1 (by have := HL0.out.1; omega)
      subst hc0 hn0 hes
      go_wp2_with (at_builtin; refine append_0 rfl _ _ rfl w.heap.size rfl HO1.out rfl ?_)
      go_meet
      exact ⟨_, _, _, rfl, rfl, HO1, HB1⟩
    | some ad =>
      have HN : Hid (∀ j u, (rcells es)[j]? = some u → w1.cell? (ad.add j) = some u) := fun j u hu => by
        have hj : j < es.length * 4 := by rw [← rcells_len]; exact (List.getElem?_eq_some_iff.1 hu).1
        have h0 : 0 < es.length := by omega
        obtain ⟨g, o, e, -, -⟩ := HRd1.out.cell 0 _ (List.getElem?_eq_getElem h0)
        cases e
        rw [add_flat]
        exact RdE.flat HRd1.out j u hu
      have hle : (rcells es).length = n * 4 := by rw [rcells_len, HL0.out.1]
      have hle' : Hid _ := hle
      clear hle
      go_wp2_with (at_builtin; refine append_e rfl _ _ rfl eltR w.heap.size rfl HO1.out (rcells es) rfl hle'.out HN.out (rcells_one es) (by omega) (by unfold maxLen; omega) HB1.out.size ?_; intro a2 n2 c2 w2 hn2 HO2 HG2 HGo2)
      have hnn : n2 = n := by omega
      subst hnn
      go_wp2
      go_meet
      exact ⟨_, _, _, rfl, rfl, HO2, HB1.out.trans (OwnR.below HO1.out HG2.out HB1.out.size)⟩
  case rest =>
  obtain ⟨w2, a2, c2, rfl, rfl, HO, HBw⟩ := hcut
  obtain ⟨G, hG⟩ : ∃ G : Nat → Prop, (fun g => F g ∧ g < w.heap.size) = G := ⟨_, rfl⟩
  have HGG : Hid _ := hG
  have HV : Hid (Vls w2 G d es ts) := by rw [← hG]; exact HVw.out.keep (fun g hg _ => HBw.out.block g hg)
  obtain ⟨g, hg, hgB, hgG⟩ : ∃ g, (n = 0 ∨ a2 = some ⟨g, 0, none⟩) ∧ w.heap.size ≤ g ∧ ¬ G g := by
    by_cases h0 : n = 0
    · exact ⟨w.heap.size, .inl h0, Nat.le_refl _, by rw [← hG]; intro h; omega⟩
    · obtain ⟨g, e, -⟩ := OwnR.at HO.out (by omega)
      subst e
      have := (OwnR.lt HO.out (k := g) rfl).1
      exact ⟨g, .inr rfl, this, by rw [← hG]; intro h; omega⟩
  have HGg : Hid _ := hg
  have HF : Hid (¬ G g) := hgG
  have HgB : Hid (w.heap.size ≤ g) := hgB
  clear hg hgG hgB hG HVw HRd HRd1 HO1 hw1 HB1
  go_wp2
  go_loopg [4] n (fun gk iv wr => ∃ (i : Nat) (r : List El) (rs : List RT), i + gk = n + 1 ∧ 1 ≤ i ∧ iv = .int .i64 i ∧ Hid (OwnE wr w.heap.size a2 n c2 r) ∧ Hid (Vls w2 G d r rs) ∧ Hid (Outr ltO ts i rs) ∧ Hid (Stay w2 wr [g]))
  case atStart => exact ⟨1, es, ts, by omega, by omega, by go_num, HO, HV, Outr.start ts, Stay.of_below (Below.refl _ _) _⟩
  case round =>
    obtain ⟨i, r, rs, hi, hi1, rfl, HR, HW, HT, HB⟩ := hrel
    by_cases h8 : (i : Int) < n
    · have HI : Hid (Insr ltO ts i i rs) := HT.out.inner (by rw [← HW.out.len, OwnE.len HR.out]; omega)
      obtain ⟨wb, hwb⟩ : ∃ wb, wb = wr := ⟨_, rfl⟩
      subst hwb
      obtain ⟨gq, hgq⟩ : ∃ gq, gq = gk := ⟨_, rfl⟩
      subst hgq
      go_wp2
      go_loopg [5] i (fun gk jv wr => ∃ (r : List El) (rs : List RT), jv = .int .i64 gk ∧ gk ≤ i ∧ Hid (OwnE wr w.heap.size a2 n c2 r) ∧ Hid (Vls w2 G d r rs) ∧ Hid (Insr ltO ts i gk rs) ∧ Hid (Stay w2 wr [g]))
      case atStart => exact ⟨r, rs, rfl, Nat.le_refl _, HR, HW, HI, HB⟩
      case round =>
        obtain ⟨r2, rs2, rfl, hji, HR2, HW2, HI2, HB2⟩ := hrel
        have hlen : r2.length = n := OwnE.len HR2.out
        have HStop : Hid (gk = 0 ∨ ltO (rs2.getD gk RT.z) (rs2.getD (gk - 1) RT.z) = false → Hid (Outr ltO ts (i + 1) rs2)) := fun hs => HI2.out.stop tot_O RT.z hs
        by_cases hj0 : gk = 0
        · subst hj0
          have HO2 := HStop.out (.inl rfl)
          have HBd : Hid (∀ q, Stay w2 (wr.drewN q) [g]) := fun q => HB2.out.trans (Stay.of_below (below_drewN wr q) [g]) (fun _ h => .inl h)
          have HRd : Hid (∀ q, OwnE (wr.drewN q) w.heap.size a2 n c2 r2) := fun q => OwnR.keep HR2.out (below_drewN wr q)
          clear HStop
          go_upto_region 6 with fail
          go_quiet (fail)
          go_wp2
          go_roundg (gq - 1)
          case measure => omega
          case rel => exact ⟨i + 1, r2, rs2, by omega, by omega, by go_num, HRd.out _, HW2, HO2, HBd.out _⟩
        · obtain ⟨p, rfl⟩ : ∃ p, gk = p + 1 := ⟨gk - 1, by omega⟩
          obtain rfl : a2 = some ⟨g, 0, none⟩ := HGg.out.resolve_left (by omega)
          obtain ⟨X, tx, hX, htx, hvx, hvX⟩ := HW2.out.at HF.out HB2.out (j := p + 1) (by omega)
          obtain ⟨Y, ty, hY, hty, hvy, hvY⟩ := HW2.out.at HF.out HB2.out (j := p) (by omega)
          have hgx := getD_of htx RT.z
          have hgy := getD_of hty RT.z
          have HSw : Hid (ltO tx ty = true → Insr ltO ts i p ((rs2.set (p + 1) ty).set p tx)) := fun hl => by
            have := HI2.out.swap RT.z (by rw [hgx, hgy]; exact hl)
            rw [hgx, hgy] at this
            exact this
          have HStop2 : Hid (ltO tx ty = false → Outr ltO ts (i + 1) rs2) := fun hl => (HStop.out (.inr (by rw [Nat.add_sub_cancel, hgx, hgy]; exact hl))).out
          have HWn : Hid (Vls w2 G d ((r2.set (p + 1) Y).set p X) ((rs2.set (p + 1) ty).set p tx)) := (HW2.out.set (p + 1) hvy).set p hvx
          have hpos : (0 : Int) < (p : Int) + 1 := by omega
          have hp12 : p ≤ 12 := by omega
          have hw1 : IntKind.i64.wrap ((p : Int) + 1 - 1) = (p : Int) := by rw [IntKind.wrap_i64]; omega
          have hw2 : IntKind.i64.wrap (p : Int) = (p : Int) := by rw [IntKind.wrap_i64]; omega
          have hpn : p + 1 < n := by omega
          have hpn0 : p < n := by omega
          have hpi : (p : Int) < n := by omega
          have hpi1 : (p : Int) + 1 < n := by omega
          have hpi2 : (0 : Int) ≤ p := by omega
          have hpi3 : (0 : Int) ≤ (p : Int) + 1 := by omega
          have HRs : Hid (∀ wx, Below wr.heap.size wr wx → OwnE ((((((((wx.setCell ⟨g, (p + 1) * 4, none⟩ (.int .i64 Y.k)).setCell ⟨g, (p + 1) * 4 + 1, none⟩ (.string Y.s)).setCell ⟨g, (p + 1) * 4 + 2, none⟩ (.int .i64 Y.n)).setCell ⟨g, (p + 1) * 4 + 3, none⟩ (.slice Y.a Y.m Y.c)).setCell ⟨g, p * 4, none⟩ (.int .i64 X.k)).setCell ⟨g, p * 4 + 1, none⟩ (.string X.s)).setCell ⟨g, p * 4 + 2, none⟩ (.int .i64 X.n)).setCell ⟨g, p * 4 + 3, none⟩ (.slice X.a X.m X.c)).drew w.heap.size (some ⟨g, 0, none⟩) n c2 ((r2.set (p + 1) Y).set p X) ∧ Stay w2 (((((((((wx.setCell ⟨g, (p + 1) * 4, none⟩ (.int .i64 Y.k)).setCell ⟨g, (p + 1) * 4 + 1, none⟩ (.string Y.s)).setCell ⟨g, (p + 1) * 4 + 2, none⟩ (.int .i64 Y.n)).setCell ⟨g, (p + 1) * 4 + 3, none⟩ (.slice Y.a Y.m Y.c)).setCell ⟨g, p * 4, none⟩ (.int .i64 X.k)).setCell ⟨g, p * 4 + 1, none⟩ (.string X.s)).setCell ⟨g, p * 4 + 2, none⟩ (.int .i64 X.n)).setCell ⟨g, p * 4 + 3, none⟩ (.slice X.a X.m X.c)).drew) [g]) := fun wx hx => by
            have h1 : OwnE wx w.heap.size (some ⟨g, 0, none⟩) n c2 r2 := OwnR.keep HR2.out hx
            refine ⟨OwnR.keep (OwnE.set4 (OwnE.set4 h1 (p + 1) Y) p X) (below_drewN _ 1), ?_⟩
            exact (((HB2.out.trans (Stay.of_below hx [g]) (fun _ h => .inl h)).trans Stay.set4 (fun _ h => .inl h)).trans Stay.set4 (fun _ h => .inl h)).trans (Stay.of_below (below_drewN _ 1) [g]) (fun _ h => .inl h)
          have HBd : Hid (∀ wx, Below wr.heap.size wr wx → Stay w2 wx [g]) := fun wx hx => HB2.out.trans (Stay.of_below hx [g]) (fun _ h => .inl h)
          have HRd : Hid (∀ wx, Below wr.heap.size wr wx → OwnE wx w.heap.size (some ⟨g, 0, none⟩) n c2 r2) := fun wx hx => OwnR.keep HR2.out hx
          have HFz : Hid (∀ wx, Below wr.heap.size wr wx → ∀ o, wx.frozen? ⟨g, o, none⟩ = false) := fun wx hx o => OwnR.fz (OwnR.keep HR2.out hx) o
          have HCs : Hid (∀ wx, Below wr.heap.size wr wx → wx.cell? ⟨g, (p + 1) * 4, none⟩ = some (.int .i64 X.k) ∧ wx.cell? ⟨g, (p + 1) * 4 + 1, none⟩ = some (.string X.s) ∧ wx.cell? ⟨g, (p + 1) * 4 + 2, none⟩ = some (.int .i64 X.n) ∧ wx.cell? ⟨g, (p + 1) * 4 + 3, none⟩ = some (.slice X.a X.m X.c) ∧ wx.cell? ⟨g, p * 4, none⟩ = some (.int .i64 Y.k) ∧ wx.cell? ⟨g, p * 4 + 1, none⟩ = some (.string Y.s) ∧ wx.cell? ⟨g, p * 4 + 2, none⟩ = some (.int .i64 Y.n) ∧ wx.cell? ⟨g, p * 4 + 3, none⟩ = some (.slice Y.a Y.m Y.c)) := fun wx hx => by
            have h1 : OwnE wx w.heap.size (some ⟨g, 0, none⟩) n c2 r2 := OwnR.keep HR2.out hx
            obtain ⟨k1, k2, k3, k4⟩ := OwnE.cells h1 hX
            obtain ⟨k5, k6, k7, k8⟩ := OwnE.cells h1 hY
            exact ⟨k1, k2, k3, k4, k5, k6, k7, k8⟩
          have HLs : Hid (∀ wx, Below wr.heap.size wr wx → Calls Tryz.prog 18 #[X.v, Y.v] wx fun e w' => Below wx.heap.size wx w' ∧ e = .returned (.int .i64 (ordT tx ty))) := fun wx hx => Order_all d X Y tx ty wx (hvX.kp hx) (hvY.kp hx)
          have HQ : Hid (decide (ordT tx ty < 0) = ltO tx ty) := rfl
          obtain ⟨Xk, Xs, Xn, Xa, Xm, Xc⟩ := X
          obtain ⟨Yk, Ys, Yn, Ya, Ym, Yc⟩ := Y
          simp only at HCs HRs
          simp only [El.v] at HLs
          have HD : Hid (Below wr.heap.size wr wr.drew) := below_drewN wr 1
          generalize ordT tx ty = z at HLs HQ
          clear HStop hlen hX hY htx hty hvx hvX hvy hvY hgx hgy
          have hn24 : (p + 1) * 4 ≤ 52 := by omega
          go_upto_region 6 with fail
          go_cut [30] from 16 to 30 (fun u wx => ∃ wy, wy = wx ∧ u = .bool (ltO tx ty) ∧ Hid (Below wr.heap.size wr wy))
          case first =>
            go_region_held3 (fun w' => w'.cell? ⟨g, (p + 1) * 4, none⟩ = some (.int .i64 Xk) ∧ w'.cell? ⟨g, (p + 1) * 4 + 1, none⟩ = some (.string Xs) ∧ w'.cell? ⟨g, (p + 1) * 4 + 2, none⟩ = some (.int .i64 Xn) ∧ w'.cell? ⟨g, (p + 1) * 4 + 3, none⟩ = some (.slice Xa Xm Xc) ∧ w'.cell? ⟨g, p * 4, none⟩ = some (.int .i64 Yk) ∧ w'.cell? ⟨g, p * 4 + 1, none⟩ = some (.string Ys) ∧ w'.cell? ⟨g, p * 4 + 2, none⟩ = some (.int .i64 Yn) ∧ w'.cell? ⟨g, p * 4 + 3, none⟩ = some (.slice Ya Ym Yc)) (exact HCs.out _ HD.out) (first
              | (go_at_call 18; refine (HLs.out _ HD.out).mono ?_; rintro e wx ⟨hb, rfl⟩; replace HD := step_below HD hb; clear hb))
            all_goals
              go_wp2
              go_meet
              exact ⟨_, rfl, by rw [← HQ.out], HD⟩
          case rest =>
          obtain ⟨w3, rfl, rfl, HD3⟩ := hcut
          clear HLs HD HQ
          cases hb : ltO tx ty
          · have HO2 : Hid (Outr ltO ts (i + 1) rs2) := HStop2.out hb
            clear hb HSw HRs
            go_wp2
            go_roundg (gq - 1)
            case measure => omega
            case rel => exact ⟨i + 1, r2, rs2, by omega, by omega, by go_num, HRd.out _ HD3.out, HW2, HO2, HBd.out _ HD3.out⟩
          · have HI3 : Hid (Insr ltO ts i p ((rs2.set (p + 1) ty).set p tx)) := HSw.out hb
            clear hb HStop2
            obtain ⟨s1, s2, s3, s4, s5, s6, s7, s8⟩ := HCs.out _ HD3.out
            have fz1 := HFz.out _ HD3.out ((p + 1) * 4)
            have fz2 := HFz.out _ HD3.out ((p + 1) * 4 + 1)
            have fz3 := HFz.out _ HD3.out ((p + 1) * 4 + 2)
            have fz4 := HFz.out _ HD3.out ((p + 1) * 4 + 3)
            have fz5 := HFz.out _ HD3.out (p * 4)
            have fz6 := HFz.out _ HD3.out (p * 4 + 1)
            have fz7 := HFz.out _ HD3.out (p * 4 + 2)
            have fz8 := HFz.out _ HD3.out (p * 4 + 3)
            have HRx : Hid _ := HRs.out _ HD3.out
            clear HRs HCs HFz
            go_upto_region 8 with fail
            go_region
            all_goals
              go_wp2
              go_roundg p
              case measure => omega
              case rel => exact ⟨_, _, by go_num, by omega, HRx.out.1, HWn, HI3, HRx.out.2⟩
    · have HE : Hid (rs.Perm ts ∧ Std ltO rs) := HT.out.done (by rw [← HW.out.len, OwnE.len HR.out]; omega)
      have HEnd : Hid (Below w.heap.size w wr) := HBw.out.trans (HB.out.below (fun i hi => by have := HgB.out; simp at hi; omega) HBw.out.size)
      have HVE : Hid (Vls wr (fun g => F g ∧ g < w.heap.size) d r rs) := by
        have h1 := HW.out
        rw [← HGG.out] at h1
        refine h1.keep (fun k hk hf => HB.out.block k hk (by have := HgB.out; simp; omega))
      go_wp2
      go_ret
      exact ⟨HEnd.out, a2, c2, r, rs, rfl, HR.out, HVE.out, HE.out.1, HE.out.2⟩
end Go.Proofs.YtiamgnfbgiognaaGreatDoor
