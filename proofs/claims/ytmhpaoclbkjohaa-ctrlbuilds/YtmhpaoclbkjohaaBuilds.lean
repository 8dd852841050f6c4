/-
  tallboylaw7.CtrlBuilds: a word that is built slot for slot, in any order, is the same word.
-/
import Derived.Test.YtmhpaoclbkjohaaOpen
import Derived.Test.YtmhpaoclbkjohaaSm
namespace Go.Proofs.Ytmhpaoclbkjohaa
open Go.RowKit Go.PlainAid

/-- The bytes that are built: the row's, Empty behind it. -/
def tgt (b : List Nat) : List Nat := (List.range 8).map fun j => if j < b.length then b.getD j 0 else 128
theorem tgt_get (b : List Nat) {j : Nat} (hj : j < 8) : (tgt b).getD j 0 = if j < b.length then b.getD j 0 else 128 := by
  unfold tgt
  rw [List.getD_eq_getElem?_getD, List.getElem?_map, List.getElem?_range hj]; rfl
theorem tgt_ok {b : List Nat} (h : Byt b) : Ok (tgt b) := by
  refine ⟨by simp [tgt], fun x hx => ?_⟩
  unfold tgt at hx
  obtain ⟨j, -, rfl⟩ := List.mem_map.1 hx
  split
  · exact h.get j
  · decide
/-- A word that is built from the front. -/
def xx (v : List Nat) : Nat → List Nat
  | 0 => new8
  | i + 1 => (xx v i).set i (v.getD i 0)
/-- A word that is built in another order. -/
def yy (v : List Nat) (k : Nat) : Nat → List Nat
  | 0 => new8
  | i + 1 => (yy v k i).set ((i * 3 + k) % 8) (v.getD ((i * 3 + k) % 8) 0)
theorem xx_ok {v : List Nat} (h : Ok v) : ∀ i, Ok (xx v i)
  | 0 => new8_ok
  | i + 1 => (xx_ok h i).set _ (h.get _)
theorem yy_ok {v : List Nat} (h : Ok v) (k : Nat) : ∀ i, Ok (yy v k i)
  | 0 => new8_ok
  | i + 1 => (yy_ok h k i).set _ (h.get _)
theorem xx_all {v : List Nat} (h : Ok v) : xx v 8 = v := by
  obtain ⟨s0, s1, s2, s3, s4, s5, s6, s7, rfl⟩ := h.eight
  rfl
theorem yy_all {v : List Nat} (h : Ok v) {k : Nat} (hk : k < 8) : yy v k 8 = v := by
  obtain ⟨s0, s1, s2, s3, s4, s5, s6, s7, rfl⟩ := h.eight
  rcases slot8 hk with rfl | rfl | rfl | rfl | rfl | rfl | rfl | rfl <;> rfl

set_option maxRecDepth 100000 in
set_option maxHeartbeats 4000000 in
theorem builds_any (a : Option Addr) (m cap : Nat) (b : List Nat) (turn : Int) (w : World) (hR : RdB w a m b) :
    Calls Try.prog 7 #[.slice a m cap, .int .i64 turn] w fun e w' => e = .returned (.bool true) ∧ Below w.heap.size w w' := by
  have H0 : Hid (Below w.heap.size w w) := Below.refl _ _
  have HR : Hid (RdB w a m b) := hR
  have HL : Hid (b.length = m) := hR.len
  have hm : m ≤ 9223372036854775807 := hR.max
  have HV : Hid (Ok (tgt b)) := tgt_ok hR.byt
  have HG : Hid (∀ j, j < 8 → (tgt b).getD j 0 = if j < m then b.getD j 0 else 128) := fun j hj => by rw [tgt_get b hj, HL.out]
  have HN := New_any
  have HKn := known_any
  have HWi := fun w => Within_any turn w
  have HW := fun w => word_any HV.out w
  generalize tgt b = v at HV HG HW
  obtain ⟨vn, hvn⟩ : ∃ vn, val v = vn := ⟨_, rfl⟩
  have HVN : Hid (val v = vn) := hvn
  rw [hvn] at HW
  obtain ⟨n8, hn8⟩ : ∃ n8, val new8 = n8 := ⟨_, rfl⟩
  have HN8 : Hid (val new8 = n8) := hn8
  rw [hn8] at HN
  clear hR hvn hn8
  go_enter Try.func7, Try.ntmps7
  go_wp2_with fail
  refine (HN _).mono ?_
  rintro e w1 ⟨rfl, hb1⟩
  have H1 := step_below H0 hb1
  clear hb1
  go_wp2_with fail
  refine (HN _).mono ?_
  rintro e w2 ⟨rfl, hb2⟩
  have H2 := step_below H1 hb2
  clear hb2 HN
  obtain ⟨g, hg⟩ : ∃ g, w2.heap.size = g := ⟨_, rfl⟩
  obtain ⟨w3, hw3⟩ : ∃ w3, w2.alloc (.cells #[.int .u8 0, .int .u8 0, .int .u8 0, .int .u8 0, .int .u8 0, .int .u8 0, .int .u8 0, .int .u8 0] 28) = w3 := ⟨_, rfl⟩
  have HA3 : Hid (Arr w3 g zeros) := by show Arr _ _ _; rw [← hw3, ← hg]; exact Arr.made w2 zeros
  have H3 : Hid (Below w.heap.size w w3) := by show Below _ _ _; rw [← hw3]; exact H2.out.trans ((alloc_below _ _).mono H2.out.size)
  have HGw : Hid (w.heap.size ≤ g) := by show _ ≤ _; rw [← hg]; exact H2.out.size
  go_wp2
  go_loopg [8] 8 (fun q iv wr => ∃ k : Nat, k + q = 8 ∧ iv = .int .i64 k ∧ Hid (Arr wr g (fill v k)) ∧ Hid (Below w.heap.size w wr))
  case atStart => exact ⟨0, by omega, rfl, HA3, H3⟩
  case round =>
    clear hw3 hg HA3 H3 H2 H1 H0
    obtain ⟨k, hk, rfl, HA, HB⟩ := hrel
    by_cases h8 : k < 8
    · have hkz : (k : Int) < 8 := by omega
      have hfl : k < (fill v k).length := by rw [fill_len HV.out.len (by omega)]; exact h8
      have hc1 := HA.out.cell k hfl
      have hf1 := HA.out.frozen k
      generalize (fill v k).getD k 0 = z0 at hc1
      have HA1 : Hid (Arr (wr.setCell ⟨g, k, none⟩ (.int .u8 (128 : Nat))) g ((fill v k).set k 128)) := HA.out.set k 128
      have HB1 : Hid (Below w.heap.size w (wr.setCell ⟨g, k, none⟩ (.int .u8 (128 : Nat)))) := HB.out.setCell HGw.out _
      have HGk := HG.out k h8
      clear HWi HW HKn
      by_cases hlt : (k : Int) < m
      · rw [if_pos (by omega)] at HGk
        have HAB : Hid (∀ z, Arr ((wr.setCell ⟨g, k, none⟩ (.int .u8 (128 : Nat))).setCell ⟨g, k, none⟩ (.int .u8 (z : Nat))) g (((fill v k).set k 128).set k z)) := fun z => HA1.out.set k z
        have HBB : Hid (∀ z, Below w.heap.size w ((wr.setCell ⟨g, k, none⟩ (.int .u8 (128 : Nat))).setCell ⟨g, k, none⟩ (.int .u8 (z : Nat)))) := fun z => HB1.out.setCell HGw.out _
        have hf2 := HA1.out.frozen k
        have hc2 := HA1.out.cell k (by rw [List.length_set]; exact hfl)
        obtain ⟨bb, off, ha, hcb⟩ := (HR.out.keep HB1.out).cell k (by omega)
        subst ha
        rw [← HGk] at hcb
        have HFS : Hid (((fill v k).set k 128).set k (v.getD k 0) = fill v (k + 1)) := by show _ = _; rw [List.set_set]; exact fill_set HV.out.len h8
        generalize v.getD k 0 = z at hcb HFS
        obtain ⟨wn, hwn⟩ : ∃ wn, wr.setCell ⟨g, k, none⟩ (.int .u8 128) = wn := ⟨_, rfl⟩
        have hw' : wr.setCell ⟨g, k, none⟩ (.int .u8 (128 : Nat)) = wn := hwn
        rw [hw'] at hf2 hc2 hcb HA1 HB1 HAB HBB
        generalize ((fill v k).set k 128).getD k 0 = z2 at hc2
        clear hw' HGk hfl
        go_wp2
        go_roundg (gk - 1)
        case measure => omega
        case rel => exact ⟨k + 1, by omega, by go_num, by rw [← HFS.out]; exact HAB.out z, HBB.out z⟩
      · rw [if_neg (by omega)] at HGk
        have HFS : Hid ((fill v k).set k 128 = fill v (k + 1)) := by show _ = _; rw [← HGk]; exact fill_set HV.out.len h8
        clear HGk hfl
        go_wp2
        go_roundg (gk - 1)
        case measure => omega
        case rel => exact ⟨k + 1, by omega, by go_num, by rw [← HFS.out]; exact HA1, HB1⟩
    · obtain rfl : k = 8 := by omega
      rw [fill_all HV.out.len] at HA
      go_wp2_with fail
      refine (HWi _).mono ?_
      rintro e wr ⟨rfl, t, ht, rfl⟩
      clear HWi hk h8
      have HS := fun (i j : Nat) (hj : j < 8) w => Set_in (xx_ok HV.out i) j (v.getD j 0) hj (HV.out.get j) w
      have HT := fun (i j : Nat) (hj : j < 8) w => Set_in (yy_ok HV.out t i) j (v.getD j 0) hj (HV.out.get j) w
      have HX : Hid (val (xx v 8) = vn) := by show _ = _; rw [xx_all HV.out, HVN.out]
      have HY : Hid (val (yy v t 8) = vn) := by show _ = _; rw [yy_all HV.out ht, HVN.out]
      obtain ⟨wa, hwa⟩ : ∃ wa, wa = wr := ⟨_, rfl⟩
      subst hwa
      go_wp2
      go_loopg [5, 6, 10, 11] 8 (fun q xv yv iv jv wr => ∃ i : Nat, i + q = 8 ∧ iv = .int .i64 i ∧ xv = .int .u64 (val (xx v i) : Nat) ∧ yv = .int .u64 (val (yy v t i) : Nat) ∧ Hid (Arr wr g v) ∧ Hid (Below w.heap.size w wr))
      case atStart => exact ⟨0, by omega, rfl, by rw [← HN8.out]; rfl, by rw [← HN8.out]; rfl, HA, HB⟩
      case round =>
        clear HA HB
        obtain ⟨i, hi, rfl, rfl, rfl, HA, HB⟩ := hrel
        by_cases h8 : i < 8
        · have hiz : (i : Int) < 8 := by omega
          have hc1 := HA.out.cell i (by rw [HV.out.len]; exact h8)
          obtain ⟨j, hj⟩ : ∃ j, (i * 3 + t) % 8 = j := ⟨_, rfl⟩
          have hj8 : j < 8 := by omega
          have hjz : ((i : Int) * 3 + (t : Int)).tmod 8 = (j : Int) := by
            rw [Int.tmod_eq_emod_of_nonneg (by omega)]; omega
          have HSi := HS i i h8
          have HTi := HT i j hj8
          have HXn : Hid (val ((xx v i).set i (v.getD i 0)) = val (xx v (i + 1))) := rfl
          have HYn : Hid (val ((yy v t i).set j (v.getD j 0)) = val (yy v t (i + 1))) := by show _ = _; rw [yy, hj]
          have HJ : Hid ((i * 3 + t) % 8 = j) := hj
          rw [HXn.out] at HSi
          rw [HYn.out] at HTi
          obtain ⟨xn, hxn⟩ : ∃ xn, val (xx v (i + 1)) = xn := ⟨_, rfl⟩
          obtain ⟨yn, hyn⟩ : ∃ yn, val (yy v t (i + 1)) = yn := ⟨_, rfl⟩
          have HXX : Hid (val (xx v (i + 1)) = xn) := hxn
          have HYY : Hid (val (yy v t (i + 1)) = yn) := hyn
          rw [hxn] at HSi
          rw [hyn] at HTi
          generalize val (xx v i) = x0 at HSi ⊢
          generalize val (yy v t i) = y0 at HTi ⊢
          have HJL : Hid (j < v.length) := by show _ < _; rw [HV.out.len]; exact hj8
          obtain ⟨zi, hzi⟩ : ∃ zi, v.getD i 0 = zi := ⟨_, rfl⟩
          obtain ⟨zj, hzj⟩ : ∃ zj, v.getD j 0 = zj := ⟨_, rfl⟩
          have HZJ : Hid (v.getD j 0 = zj) := hzj
          rw [hzi] at HSi hc1
          rw [hzj] at HTi
          clear hzi hzj
          have hjz2 : (j : Int) < 8 := by omega
          clear HS HT HXn HYn hxn hyn HX HY HW HKn hj
          go_wp2_with fail
          refine (HSi _).mono ?_
          rintro e w5 ⟨rfl, hb5⟩
          have HA5 := hid (HA.out.keep hb5)
          have HB5 := step_below HB hb5
          have hc2 := HA5.out.cell j HJL.out
          rw [HZJ.out] at hc2
          clear hb5 hc1
          go_wp2_with fail
          refine (HTi _).mono ?_
          rintro e w6 ⟨rfl, hb6⟩
          have HA6 := hid (HA5.out.keep hb6)
          have HB6 := step_below HB5 hb6
          clear hb6 hc2
          go_wp2
          go_roundg (gk - 1)
          case measure => omega
          case rel => exact ⟨i + 1, by omega, by go_num, by rw [HXX.out], by rw [HYY.out], HA6, HB6⟩
        · obtain rfl : i = 8 := by omega
          rw [HX.out, HY.out]
          clear HS HT
          go_wp2_with (refine load_arr_w rfl (.tmp 7) rfl rfl HA.out HV.out.len ?_)
          refine (HW _).mono ?_
          rintro e w5 ⟨rfl, hb5⟩
          have H5 := step_below HB hb5
          clear hb5
          go_wp2_with fail
          refine (HKn _).mono ?_
          rintro e w6 ⟨rfl, hb6⟩
          have H6 := step_below H5 hb6
          clear hb6
          go_wp2
          go_ret
          exact ⟨rfl, H6.out⟩
end Go.Proofs.Ytmhpaoclbkjohaa
