/-
  The law PackFrom.
-/
import Derived.Test.YtemiajjjhhofaaaRefAll
import Derived.Test.YtemiajjjhhofaaaTells
import Derived.Test.YtemiajjjhhofaaaRoom
import Derived.Test.YtemiajjjhhofaaaCopies
import Derived.Laws.BitsAllLaws
namespace Go.Proofs.Ytemiajjjhhofaaa
open Go.RowKit Go.PlainAid

set_option maxRecDepth 100000 in
set_option maxHeartbeats 400000 in
theorem refAll_wide (a : Option Addr) (n c : Nat) (l : List UInt8) (w : World) (hR : Rd w a n c l) (hn : n ≤ 1048576) (o : Option (List ByteArray)) (ho : split n l = o) :
    Calls Try.prog 20 #[.slice a n c] w fun e w' => Below w.heap.size w w' ∧ (∀ ls, o = some ls → ∃ a2 n2 c2, e = .returned (.tuple #[.slice a2 n2 c2, .bool true]) ∧ OwnS w' w.heap.size a2 n2 c2 ls) ∧ (o = none → e = .returned (.tuple #[.slice none 0 0, .bool false])) := by
  have HL : Hid (l.length = n) := hR.len
  have HR : Hid (Rd w a n c l) := hR
  have HS : Hid ((split n (l.drop 0)).map (([] : List ByteArray) ++ ·) = o) := by show _ = _; rw [← ho]; simp
  have HO : Hid (OwnS w w.heap.size none 0 0 []) := World.ownsRow_nil w _ 9 1
  clear hR ho
  go_enter Try.func20, Try.ntmps20
  go_wp2
  go_loopg [4, 5] n (fun g lv av wr => ∃ x : Nat, ∃ a2 n2 c2 pre, lv = .slice a2 n2 c2 ∧ av = .int .i64 x ∧ n ≤ x + g ∧ x ≤ n ∧ 2 * n2 ≤ x ∧ Hid ((split g (l.drop x)).map (pre ++ ·) = o) ∧ Hid (OwnS wr w.heap.size a2 n2 c2 pre) ∧ Hid (Below w.heap.size w wr))
  case atStart => exact ⟨0, none, 0, 0, [], rfl, rfl, by omega, by omega, by omega, HS, HO, Below.refl _ _⟩
  case round =>
    obtain ⟨x, a2, n2, c2, pre, rfl, rfl, hx1, hx2, hn2, HS, HO, HB⟩ := hrel
    by_cases hx : (x : Int) < n
    · have hxl : x < l.length := by have := HL.out; omega
      obtain ⟨gp, hgp⟩ : ∃ gp, gk = gp + 1 := ⟨gk - 1, by omega⟩
      have HC := refDecode_any a n c l x wr (HR.out.keep HB.out) (by omega)
      rw [decAt_in l x hxl] at HC
      have hsp := HS.out
      rw [hgp, split_cons _ _ (drop_ne l x hxl)] at hsp
      cases hd : dec1 (l.drop x) with
      | none =>
        rw [hd, Option.map_none, dR_none] at HC
        rw [hd] at hsp
        have HBf : Hid (o = none) := hsp.symm
        clear hsp hd hxl
        go_wp2_with fail
        refine HC.mono ?_
        rintro e w1 ⟨hb, rfl⟩
        have HB1 := step_below HB hb
        clear hb
        go_wp2
        go_ret2
        exact ⟨HB1.out, fun ls h => absurd (h.symm.trans HBf.out) (by simp), fun _ => rfl⟩
      | some q =>
        obtain ⟨s, k⟩ := q
        rw [hd, Option.map_some, dR_some] at HC
        rw [hd] at hsp
        dsimp only at hsp
        have hkl := (dec1_len hd).1
        have hk2 := (dec1_pos hd).1
        have hk3 := (enc_len s).1
        rw [List.length_drop] at hkl
        obtain ⟨y, hy⟩ : ∃ y, x + k = y := ⟨_, rfl⟩
        rw [hy] at HC
        have HS2 : Hid ((split gp (l.drop y)).map ((pre ++ [bs s]) ++ ·) = o) := by
          show _ = _
          rw [← hsp, ← hy, List.drop_drop, Option.map_map]
          congr 1
          funext t
          simp
        have hyn : y ≤ n := by have := HL.out; omega
        have hyg : n ≤ y + gp := by omega
        have hgpk : gk - 1 = gp := by omega
        have hyk : x + 2 ≤ y := by omega
        have HN : Hid (n2 + 1 ≤ 1000000) := by show _ ≤ _; omega
        generalize bs s = t at HC HS2
        clear hsp hd hxl hy hkl hk2 hk3
        go_wp2_with fail
        refine HC.mono ?_
        rintro e w1 ⟨hb, rfl⟩
        have HB1 := step_below HB hb
        have HO1 : Hid (OwnS w1 w.heap.size a2 n2 c2 pre) := HO.out.keep hb
        have hsz := HB1.out.size
        clear hb
        go_wp2_with (at_builtin; refine append_str rfl (.tmp 22) (.tmp 24) rfl w.heap.size rfl (HO1.out.keep (alloc_below w1 _)) rfl (by simp; rfl) HN.out (Nat.le_trans hsz (alloc_below w1 _).size) ?_; intro a3 n3 c3 w3 hn3 hO3 hB3; have HO3 : Hid (OwnS w3 w.heap.size a3 n3 c3 (pre ++ [t])) := hO3; have HB3 : Hid (Below w.heap.size w w3) := (HB1.out.trans ((alloc_below w1 _).mono hsz)).trans hB3; have HN3 : Hid (n3 = n2 + 1) := hn3; clear hn3 hO3 hB3)
        go_roundg gp
        case measure => omega
        case rel => exact ⟨y, _, _, _, _, rfl, rfl, hyg, hyn, by have := HN3.out; omega, HS2, HO3, HB3⟩
    · have hxe : l.drop x = [] := List.drop_eq_nil_of_le (by have := HL.out; omega)
      have HBt : Hid (o = some pre) := by
        have := HS.out
        rw [hxe, split_nil] at this
        show _ = _
        simpa using this.symm
      clear hxe
      go_wp2
      go_ret2
      exact ⟨HB.out, fun ls h => ⟨_, _, _, rfl, by have := h.symm.trans HBt.out; cases this; exact HO.out⟩, fun h => absurd (h.symm.trans HBt.out) (by simp)⟩


theorem xor_byte (X : UInt8) (T : UInt8) : ∃ b : UInt8, bits .xor .u8 ((X.toNat : Nat) : Int) ((T.toNat : Nat) : Int) = ((b.toNat : Nat) : Int) := by
  have h1 := X.toNat_lt
  have h2 := T.toNat_lt
  have hx : X.toNat ^^^ T.toNat < 2 ^ 8 := Nat.xor_lt_two_pow (by omega) (by omega)
  refine ⟨UInt8.ofNat (X.toNat ^^^ T.toNat), ?_⟩
  rw [u8_xor_nat _ _ (by omega) (by omega), UInt8.toNat_ofNat', Nat.mod_eq_of_lt hx]

/-- Three rows of bytes side by side. -/
def Three (w : World) (g : Nat) (v : Nat → Value) : Prop := ∀ j, j < 3 → w.cell? ⟨g, j, none⟩ = some (v j) ∧ ∃ a n c l, v j = .slice a n c ∧ Rd w a n c l ∧ n ≤ 1048576

set_option maxRecDepth 100000 in
set_option maxHeartbeats 8000000 in
theorem from_any (a : Option Addr) (n c : Nat) (ls : List ByteArray) (ab : Option Addr) (nb cb : Nat) (lb : List UInt8) (at' : Int) (tb : UInt8) (w : World) (hR : RdS w a n ls) (hB : Rd w ab nb cb lb) (hnb : nb ≤ 1048576) :
    Calls Try.prog 5 #[.slice a n c, .slice ab nb cb, .int .i64 at', .int .u8 (tb.toNat : Nat)] w fun e w' => e = .returned (.bool true) ∧ Below w.heap.size w w' := by
  have HF := Few_any a n c ls 12 90 w hR (by omega) (by omega)
  have HRb : Hid (Rd w ab nb cb lb) := hB
  obtain ⟨T, hT⟩ : ∃ T : Int, (tb.toNat : Int) = T := ⟨_, rfl⟩
  have hTb := byte_le _ hT
  have HTt : Hid ((tb.toNat : Int) = T) := hT
  rw [hT]
  clear hR hB hT
  go_enter Try.func5, Try.ntmps5
  go_wp2_with fail
  refine HF.mono ?_
  rintro e w1 ⟨hb, a1, n1, c1, rfl, l1, hO1, hS⟩
  have HB1 : Hid (Below w.heap.size w w1) := hb
  have HO1 : Hid (OwnS w1 w.heap.size a1 n1 c1 l1) := hO1
  have HS : Hid (Short l1 12 90) := hS
  have hn1 : n1 ≤ 12 := by have := hO1.len; have := hS.1; omega
  have HPL : Hid ((pack l1).length ≤ 1212) := hS.pack 90 1212 (by omega) (by omega)
  have HFit : Hid (Fit l1) := hS.fit (by omega)
  have HBy := fun (wq : World) (h : RdS wq a1 n1 l1) => Bytes_any a1 n1 c1 l1 wq h (by omega) HFit.out
  have HBy1 := HBy w1 hO1.rd
  clear hb hO1 hS HF
  go_wp2_with fail
  refine HBy1.mono ?_
  rintro e w2 ⟨hb, ax, nx, cx, rfl, hOx⟩
  have HB2 := step_below HB1 hb
  have HOx : Hid (Own w2 w1.heap.size ax nx cx (pack l1)) := hOx
  have hnx : nx ≤ 1212 := by have := hOx.len; have := HPL.out; omega
  have HO2 : Hid (OwnS w2 w.heap.size a1 n1 c1 l1) := HO1.out.keep hb
  have HBx : Hid (Below w1.heap.size w1 w2) := hb
  clear hb hOx HBy1
  go_upto_if 23 with fail
  go_cut [] from 21 to 34 (fun wx => ∃ lx, Hid (Own wx w1.heap.size ax nx cx lx) ∧ Hid (Below w1.heap.size w1 wx))
  case first =>
    by_cases hx : (0 : Int) < nx
    · obtain ⟨H, hH⟩ : ∃ H : Int, (nx : Int) - 1 = H := ⟨_, rfl⟩
      go_wp2_with fail
      refine (Within_any at' 0 H w2 (by omega) (by omega) (by omega)).mono ?_
      rintro e w2 ⟨rfl, k, hk0, hk1, rfl⟩
      obtain ⟨k, rfl⟩ := Int.eq_ofNat_of_zero_le hk0
      obtain ⟨g, cur, ha, hBg, hk, -, -, -, -⟩ := HOx.out.parts (by omega)
      subst ha
      obtain ⟨b, off, e, hc⟩ := HOx.out.rd.cell k (by omega)
      cases e
      have hfz := hk.frozen (0 + k)
      rw [Nat.zero_add] at hc hfz
      obtain ⟨X, hX⟩ : ∃ X : Int, (((pack l1).getD k 0).toNat : Int) = X := ⟨_, rfl⟩
      have hXb := byte_le _ hX
      rw [hX] at hc
      obtain ⟨Y, hY⟩ : ∃ Y, bits BinOp.xor IntKind.u8 X T = Y := ⟨_, rfl⟩
      have hYb : 0 ≤ Y ∧ Y ≤ 255 := by
        obtain ⟨yb, hyb⟩ := xor_byte ((pack l1).getD k 0) tb
        rw [hX, HTt.out, hY] at hyb
        exact byte_le yb hyb.symm
      have HO7 := HOx.out.set k (by omega) (UInt8.ofNat Y.toNat)
      rw [UInt8.toNat_ofNat', show ((Y.toNat % 2 ^ 8 : Nat) : Int) = Y by omega] at HO7
      have HO8 : Hid (Own (w2.setCell ⟨g, k, none⟩ (.int .u8 Y)) w1.heap.size (some ⟨g, 0, none⟩) nx cx ((pack l1).set k (UInt8.ofNat Y.toNat))) := HO7
      have HB8 : Hid (Below w1.heap.size w1 (w2.setCell ⟨g, k, none⟩ (.int .u8 Y))) := HBx.out.trans (below_setCell w2 w1.heap.size g k _ hBg)
      clear HO7 hX hk
      go_wp2
      go_meet
      exact ⟨_, HO8, HB8⟩
    · go_wp2
      go_meet
      exact ⟨_, HOx, HBx⟩
  case rest =>
  obtain ⟨lx, HOx, HBx⟩ := hcut
  have HLx : Hid (lx.length = nx) := HOx.out.len
  have HRo := Roomy_any ax nx cx lx wc HOx.out.rd (by omega)
  have HBc := step_below HB1 HBx.out
  go_wp2_with fail
  refine HRo.mono ?_
  rintro e w3 ⟨hb, af, nf, cf, rfl, hOf⟩
  have HB3 := step_below HBc hb
  have hnf : nf = nx + 80 := by have := hOf.len; rw [List.length_append, List.length_replicate] at this; have := HLx.out; omega
  subst hnf
  have HRf : Hid (Rd w3 af (nx + 80) cf (lx ++ List.replicate 80 165)) := hOf.rd
  have HRx : Hid (Rd w3 ax nx cx lx) := HOx.out.rd.keep hb
  obtain ⟨ay, cy, sly, hRy⟩ := hOf.rd.slice_h nx (by omega)
  have etk : (lx ++ List.replicate 80 165).take nx = lx := by rw [← HLx.out]; simp
  rw [etk] at hRy
  have HRy : Hid (Rd w3 ay nx cy lx) := hRy
  have HR13 : Hid (Below w1.heap.size w1 w3) := HBx.out.trans (hb.mono HBx.out.size)
  have HBy3 := HBy w3.drew ((HO1.out.keep HR13.out).keep (below_drewN w3 1)).rd
  clear hb hOf HRo hRy etk
  go_upto_region 6 with fail
  go_cut [44, 45, 46] from 37 to 46 (fun v44 v45 v46 wx => v45 = .int .i64 3 ∧ v46 = .int .i64 0 ∧ ∃ g v, v44 = .slice (some ⟨g, 0, none⟩) 3 3 ∧ Hid (Three wx g v) ∧ Hid (Below w3.heap.size w3 wx))
  case first =>
    go_region_with (go_at_call 18; refine HBy3.mono ?_; rintro e w4 ⟨hb, a4, n4, c4, rfl, hO4⟩; have HB4 : Hid (Below w3.heap.size w3 w4) := (below_drewN w3 1).trans hb; have HO4 : Hid (Rd w4 a4 n4 c4 (pack l1)) := hO4.rd; clear hb hO4)
    all_goals
      go_wp2
      go_meet
      refine ⟨rfl, rfl, w4.heap.size, fun j => if j = 0 then .slice ay nx cy else if j = 1 then .slice ab nb cb else .slice a4 n4 c4, rfl, ?_, HB4.out.trans ((alloc_below w4 _).mono HB4.out.size)⟩
      have hn4 : n4 ≤ 1212 := by have := HO4.out.len; have := HPL.out; omega
      intro j hj
      have hnew := heap_alloc_new w4 (.cells #[.slice ay nx cy, .slice ab nb cb, .slice a4 n4 c4] 30)
      match j, hj with
      | 0, _ => exact ⟨by simp only [World.cell?, hnew]; rfl, _, _, _, lx, rfl, (HRy.out.keep HB4.out).keep (alloc_below w4 _), by omega⟩
      | 1, _ => exact ⟨by simp only [World.cell?, hnew]; rfl, _, _, _, lb, rfl, ((HRb.out.keep HB3.out).keep HB4.out).keep (alloc_below w4 _), hnb⟩
      | 2, _ => exact ⟨by simp only [World.cell?, hnew]; rfl, _, _, _, pack l1, rfl, HO4.out.keep (alloc_below w4 _), by omega⟩
  case rest =>
  obtain ⟨rfl, rfl, g, v, rfl, HT3, HB4⟩ := hcut
  go_wp2
  go_loopg [46] 3 (fun gg iv wr => ∃ i : Nat, i + gg = 3 ∧ iv = .int .i64 i ∧ Hid (Below wc.heap.size wc wr))
  case atStart => exact ⟨0, by omega, rfl, Below.refl _ _⟩
  case round =>
    obtain ⟨i, hi, rfl, HBr⟩ := hrel
    by_cases hi3 : (i : Int) < 3
    · obtain ⟨hc0, ay2, ny, cyy, ly, hv, hRd0, hny⟩ := HT3.out i (by omega)
      have hRd := hRd0.keep HBr.out
      have hcy : wr.cell? ⟨g, i, none⟩ = some (.slice ay2 ny cyy) := by
        rw [HBr.out.cell (p := ⟨g, i, none⟩) (World.block_lt_of_cell? _ _ hc0), hc0, hv]
      have HRd : Hid (Rd wr ay2 ny cyy ly) := hRd
      clear hc0 hv hRd0 hRd
      obtain ⟨o, ho⟩ : ∃ o, split ny ly = o := ⟨_, rfl⟩
      have hAll := fun (wq : World) (h : Rd wq ay2 ny cyy ly) => refAll_wide ay2 ny cyy ly wq h hny o ho
      by_cases hbig : 65536 < ny
      · have HFr := From_full ay2 ny cyy wr hbig (by unfold maxLen; omega)
        have hbi : (65536 : Int) < ny := by omega
        have HAl := hAll wr HRd.out
        clear hAll ho
        go_wp2_with fail
        refine HFr.mono ?_
        rintro e wr ⟨rfl, rfl⟩
        cases o with
        | none =>
          go_wp2_with fail
          refine HAl.mono ?_
          rintro e w5 ⟨hb, -, he⟩
          cases he (by trivial)
          have HB5 := step_below HBr hb
          clear hb he
          go_wp2
          go_roundg (gk - 1)
          case measure => omega
          case rel => exact ⟨i + 1, by omega, by go_num, HB5⟩
        | some m =>
          go_wp2_with fail
          refine HAl.mono ?_
          rintro e w5 ⟨hb, he, -⟩
          obtain ⟨a5, n5, c5, rfl, hO5⟩ := he m rfl
          have HB5 := step_below HBr hb
          clear hb he hO5
          go_wp2
          go_roundg (gk - 1)
          case measure => omega
          case rel => exact ⟨i + 1, by omega, by go_num, HB5⟩
      · have hbi : ¬ ((65536 : Int) < ny) := by omega
        cases o with
        | none =>
          have HFr := From_any ay2 ny cyy ly wr HRd.out (by omega) false (by rw [ho]; rfl)
          go_wp2_with fail
          refine HFr.mono ?_
          rintro e w5 ⟨hb, -, he⟩
          cases he (by trivial)
          have HB5 := step_below HBr hb
          have HAl := hAll w5 (HRd.out.keep hb)
          clear hb he
          go_wp2_with fail
          refine HAl.mono ?_
          rintro e w6 ⟨hb, -, he⟩
          cases he (by trivial)
          have HB6 := step_below HB5 hb
          clear hb he
          go_wp2
          go_roundg (gk - 1)
          case measure => omega
          case rel => exact ⟨i + 1, by omega, by go_num, HB6⟩
        | some m =>
          have HFr := From_any ay2 ny cyy ly wr HRd.out (by omega) true (by rw [ho]; rfl)
          obtain ⟨hpm, hfm⟩ := split_some _ _ _ ho
          have HPm : Hid (pack m = ly) := hpm
          have HFm : Hid (Fit m) := hfm
          have HLy : Hid (ly.length = ny) := HRd.out.len
          clear hpm hfm
          go_wp2_with fail
          refine HFr.mono ?_
          rintro e w5 ⟨hb, he, -⟩
          obtain ⟨p, ap, np, cp, m9, rfl, hs9, hP⟩ := he (by trivial)
          have hm9 : m = m9 := (Option.some.inj (hs9.symm.trans ho)).symm
          subst hm9
          have HB5 := step_below HBr hb
          have HAl := hAll w5 (HRd.out.keep hb)
          have HP : Hid (Pk w5 wr.heap.size p ap np cp m) := hP
          have hnp : np ≤ 65536 := by have h9 := hP.own.len; rw [HPm.out] at h9; have := HLy.out; omega
          clear hb he hP
          go_wp2_with fail
          refine HAl.mono ?_
          rintro e w6 ⟨hb, he, -⟩
          obtain ⟨a6, n6, c6, rfl, hO6⟩ := he m rfl
          have HB6 := step_below HB5 hb
          have HTe := tells_any wr.heap.size p ap np cp m a6 n6 c6 w6 (HP.out.keep hb) HFm.out hnp hO6.rd
          clear hb he hO6
          go_wp2_with fail
          refine HTe.mono ?_
          rintro e w7 ⟨hb, rfl⟩
          have HB7 := step_below HB6 hb
          clear hb
          go_wp2
          go_roundg (gk - 1)
          case measure => omega
          case rel => exact ⟨i + 1, by omega, by go_num, HB7⟩
    · have HBz : Hid (Below w3.heap.size w3 wr) := HB4.out.trans (HBr.out.mono HB4.out.size)
      have HIn := Intact_any af ax nx cf cx lx wr (HRf.out.keep HBz.out) (HRx.out.keep HBz.out)
      have HBw := step_below HB3 HBz.out
      go_wp2_with fail
      refine HIn.mono ?_
      rintro e w8 ⟨hb, rfl⟩
      have HB8 := step_below HBw hb
      clear hb
      go_wp2_with fail
      refine (known_any _).mono ?_
      rintro e w9 ⟨hb, rfl⟩
      have HB9 := step_below HB8 hb
      clear hb
      go_wp2
      go_ret
      exact ⟨rfl, HB9.out⟩
end Go.Proofs.Ytemiajjjhhofaaa
