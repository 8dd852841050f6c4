/-
  The law's do: Find.
-/
import Derived.Test.YtemiajjjhhofaaaDo2
namespace Go.Proofs.Ytemiajjjhhofaaa
open Go.RowKit Go.PlainAid

set_option maxRecDepth 100000 in
set_option maxHeartbeats 400000 in
theorem Find_big (B p : Nat) (a : Option Addr) (n c : Nat) (ls : List ByteArray) (s : ByteArray) (fr step : Nat) (w : World) (hP : Pk w B p a n c ls) (hf : Fit ls) (h1 : 0 < step) (h2 : step ≤ 1000) (hfr : ls.length ≤ fr) (hfr2 : fr ≤ 9223372036854775807) :
    Calls Try.prog 28 #[ptr p, .string s, .int .i64 fr, .int .i64 step] w fun e w' => Below w.heap.size w w' ∧ e = .returned (.int .i64 (-1)) := by
  have HW := skip_any B p a n c ls 0 fr w hP hf (Nat.zero_le _) (by omega) (by omega)
  have hg0 : gone ls 0 (fr : Int) = ls.length := by unfold gone; omega
  rw [Nat.zero_add, off_zero, hg0, off_all ls (Nat.le_refl _), hP.own.len] at HW
  have HP : Hid (Pk w B p a n c ls) := hP
  have h3 : ¬ ((step : Int) < 1) := by omega
  clear hP hf hg0
  go_enter Try.func28, Try.ntmps28
  go_wp2_with fail
  refine HW.mono ?_
  rintro e w1 ⟨hb, rfl⟩
  have HB : Hid (Below w.heap.size w w1) := hb
  have hc1 := (HP.out.keep hb).cell
  clear hb HW
  go_wp2
  go_loopg [9, 10] 0 (fun g av iv wr => w1 = wr ∧ av = .int .i64 n ∧ iv = .int .i64 fr)
  case atStart => exact ⟨rfl, rfl, rfl⟩
  case round =>
    obtain ⟨rfl, rfl, rfl⟩ := hrel
    have hx : ¬ ((n : Int) < n) := by omega
    go_wp2
    go_ret
    exact ⟨HB.out, rfl⟩
theorem Find_all (B p : Nat) (a : Option Addr) (n c : Nat) (ls : List ByteArray) (s : ByteArray) (fr step : Nat) (w : World) (hP : Pk w B p a n c ls) (hf : Fit ls) (hn : n ≤ 65536) (h1 : 0 < step) (h2 : step ≤ 1000) (hfr2 : fr ≤ 9223372036854775807) :
    Calls Try.prog 28 #[ptr p, .string s, .int .i64 fr, .int .i64 step] w fun e w' => Below w.heap.size w w' ∧ e = .returned (.int .i64 (fnd ls s step ls.length fr)) := by
  by_cases h : fr ≤ 9223372036854770000
  · exact Find_any B p a n c ls s fr step w hP hf hn h1 h2 h
  · have hm := hP.many
    rw [fnd_stop ls s step _ fr (by omega)]
    exact Find_big B p a n c ls s fr step w hP hf h1 h2 (by omega) hfr2

set_option maxRecDepth 100000 in
set_option maxHeartbeats 8000000 in
theorem do4_any (B p : Nat) (a : Option Addr) (n c : Nat) (l : List ByteArray) (la : Option Addr) (ln lc : Nat) (i N : Int) (xa : Option Addr) (xn xc : Nat) (xl : List ByteArray) (w : World) (hP : Pk w B p a n c l) (hf : Fit l) (hn : n ≤ 65536) (hO : OwnS w B la ln lc l) (hR : RdS w xa xn xl) (hi1 : -9223372036854775808 ≤ i) (hi2 : i ≤ 9223372036854775807) :
    Calls Try.prog 10 #[ptr p, .slice la ln lc, askV 4 i N xa xn xc] w fun e w' => Did w B p l e w' := by
  have HP : Hid (Pk w B p a n c l) := hP
  have HO : Hid (OwnS w B la ln lc l) := hO
  have HL : Hid (l.length = ln) := hO.len
  have HF : Hid (Fit l) := hf
  have hBw : B ≤ w.heap.size := Nat.le_trans hP.low (Nat.le_of_lt hP.lt)
  have hA := alloc_below w (.cells #[.int .i64 4, .int .i64 i, .int .i64 N, .slice xa xn xc] 28)
  have HX : Hid (Xb (w.alloc (.cells #[.int .i64 4, .int .i64 i, .int .i64 N, .slice xa xn xc] 28)) w.heap.size 4 i N xa xn xc) := heap_alloc_new w _
  have HS0 : Hid (xl.length = 0 → fst1 xl 50 = ⟨#[]⟩) := fun h => fst1_none 50 h
  have HS1 : Hid (0 < xl.length → fst1 xl 50 = cutB (xl.getD 0 ByteArray.empty) 50) := fun h => fst1_some 50 h
  obtain ⟨s, hs⟩ : ∃ s, fst1 xl 50 = s := ⟨_, rfl⟩
  rw [hs] at HS0 HS1
  have hln : ln ≤ 65536 := by have := len_pack l; have := hP.own.len; have := hO.len; omega
  have HRx : Hid (RdS (w.alloc (.cells #[.int .i64 4, .int .i64 i, .int .i64 N, .slice xa xn xc] 28)) xa xn xl) := hR.keep hA
  have HXL : Hid (xl.length = xn) := hR.len
  have hxm : xn ≤ 9223372036854775807 := hR.max
  obtain ⟨w0, hw0⟩ : ∃ w0, w.alloc (.cells #[.int .i64 4, .int .i64 i, .int .i64 N, .slice xa xn xc] 28) = w0 := ⟨_, rfl⟩
  have HB0 : Hid (Below w.heap.size w w0) := by rw [← hw0]; exact hA
  rw [hw0] at HX HRx
  have hx0 := HX.out.c0
  have hx3 := HX.out.c3
  have hx1 := HX.out.c1
  have hx2 := HX.out.c2
  clear hP hf hO hR hA hs
  go_enter Try.func10, Try.ntmps10
  go_upto_if 184 with fail
  go_cut [16] from 181 to 189 (fun sv wx => sv = .string s ∧ wx = w0)
  case first =>
    by_cases hx : (0 : Int) < xn
    · obtain ⟨b, off, ha, hc⟩ := HRx.out.cell 0 (by omega)
      subst ha
      rw [Nat.add_zero] at hc
      have HC := fun w => Cut_any (xl.getD 0 ByteArray.empty) 50 w (by omega)
      rw [← HS1.out (by have := HXL.out; omega)] at HC
      generalize xl.getD 0 ByteArray.empty = t at hc HC
      go_wp2_with fail
      refine (HC _).mono ?_
      rintro e w0 ⟨rfl, rfl⟩
      go_wp2
      go_meet
      exact ⟨rfl, rfl⟩
    · have hs0 : s = ⟨#[]⟩ := HS0.out (by have := HXL.out; omega)
      subst hs0
      go_wp2
      go_meet
      exact ⟨rfl, rfl⟩
  case rest =>
  obtain ⟨rfl, rfl⟩ := hcut
  have HP0 : Hid (Pk wc B p a n c l) := HP.out.keep HB0.out
  have HOl : Hid (OwnS wc B la ln lc l) := HO.out.keep HB0.out
  go_wp2_with fail
  refine (Within_any N (-1) 5 wc (by omega) (by omega) (by omega)).mono ?_
  rintro e wc ⟨rfl, z, hz0, hz1, rfl⟩
  by_cases hno : i < 0 ∨ z < 1
  · have HFn := Find_no p s i z wc hno
    go_wp2
    go_loopg [18, 19] 0 (fun g vv iv wr => vv = .int .i64 (-1) ∧ iv = .int .i64 i ∧ wr = wc)
    case atStart => exact ⟨rfl, rfl, rfl⟩
    case round =>
      obtain ⟨rfl, rfl, rfl⟩ := hrel
      by_cases hz : (0 : Int) < z
      · have hi0 : ¬ (0 ≤ i) := by omega
        go_wp2_with fail
        refine HFn.mono ?_
        rintro e wr ⟨rfl, rfl⟩
        go_wp2
        go_ret2
        exact ⟨HB0.out.mono hBw, _, _, _, _, _, _, rfl, HP0.out, HOl.out⟩
      · go_wp2_with fail
        refine HFn.mono ?_
        rintro e wr ⟨rfl, rfl⟩
        go_wp2
        go_ret2
        exact ⟨HB0.out.mono hBw, _, _, _, _, _, _, rfl, HP0.out, HOl.out⟩
  · obtain ⟨fr, rfl⟩ := Int.eq_ofNat_of_zero_le (by omega : 0 ≤ i)
    obtain ⟨st, rfl⟩ := Int.eq_ofNat_of_zero_le (by omega : 0 ≤ z)
    have hst : 0 < st := by omega
    have HFi := Find_all B p a n c l s fr st wc HP0.out HF.out hn hst (by omega) (by omega)
    obtain ⟨R, hRR⟩ : ∃ R, fnd l s st l.length fr = R := ⟨_, rfl⟩
    rw [hRR] at HFi
    have HR : Hid (fnd l s st ln fr = R) := by show _ = _; rw [← HL.out]; exact hRR
    have hst0 : (0 : Int) < st := by omega
    clear hRR hno
    go_wp2
    go_loopg [18, 19] (ln + 1) (fun g vv iv wr => ∃ (j : Nat) (v : Int), vv = .int .i64 v ∧ iv = .int .i64 j ∧ wr = wc ∧ ((v = -1 ∧ Hid (∃ f, ln ≤ j + f ∧ f + 1 = g ∧ fnd l s st f j = R)) ∨ (0 ≤ v ∧ v = R)))
    case atStart => exact ⟨fr, -1, rfl, rfl, rfl, .inl ⟨rfl, ln, by omega, rfl, HR.out⟩⟩
    case round =>
      obtain ⟨j, v, rfl, rfl, rfl, hv⟩ := hrel
      rcases hv with ⟨rfl, HV⟩ | ⟨hv0, rfl⟩
      · by_cases hjn : (j : Int) < ln
        · obtain ⟨f, hf1, hf2, hf3⟩ := HV.out
          obtain ⟨gp, rfl⟩ : ∃ gp, f = gp + 1 := ⟨f - 1, by omega⟩
          have hjl : j < l.length := by have := HL.out; omega
          obtain ⟨b, off, ha, hc⟩ := HOl.out.rd.cell j (by omega)
          subst ha
          have hb2 := str_beq (txt l j) s
          have hhere : fnd l s st (gp + 1) j = j ↔ txt l j = s := fnd_here hst hjl
          have hnext := fun h => fnd_next (step := st) (f := gp) (s := s) hjl h
          change wr.cell? _ = some (.string (txt l j)) at hc
          generalize txt l j = x at hc hb2 hhere hnext
          have hjb : (j : Int) ≤ 65536 := by omega
          by_cases hx : x = s
          · have hb3 : (x.toList == s.toList) = true := by rw [hb2]; simpa using hx
            have HR2 : Hid ((j : Int) = R) := by show _ = _; rw [← hf3]; exact (hhere.2 hx).symm
            clear hb2 hhere hnext hf3 hx
            go_wp2
            go_roundg (gk - 1)
            case measure => omega
            case rel => exact ⟨j + st, j, rfl, by go_num, rfl, .inr ⟨by omega, HR2.out⟩⟩
          · have hb3 : (x.toList == s.toList) = false := by rw [hb2]; simpa using hx
            have HR2 : Hid (∃ f, ln ≤ j + st + f ∧ f + 1 = gk - 1 ∧ fnd l s st f (j + st) = R) := ⟨gp, by omega, by omega, by rw [← hnext hx]; exact hf3⟩
            clear hb2 hhere hnext hf3 hx
            go_wp2
            go_roundg (gk - 1)
            case measure => omega
            case rel => exact ⟨j + st, -1, rfl, by go_num, rfl, .inl ⟨rfl, HR2⟩⟩
        · have hR2 : R = -1 := by
            obtain ⟨f, hf1, hf2, hf3⟩ := HV.out
            rw [← hf3]; exact fnd_stop _ _ _ _ _ (by have := HL.out; omega)
          subst hR2
          have hj0 : (0 : Int) ≤ j := by omega
          go_wp2_with fail
          refine HFi.mono ?_
          rintro e w2 ⟨hb, rfl⟩
          have HB2 := step_below HB0 hb
          clear hb
          go_wp2
          go_ret2
          exact ⟨HB2.out.mono hBw, _, _, _, _, _, _, rfl, HP.out.keep HB2.out, HO.out.keep HB2.out⟩
      · by_cases hjn : (j : Int) < ln
        · have hv1 : ¬ (v < 0) := by omega
          go_wp2_with fail
          refine HFi.mono ?_
          rintro e w2 ⟨hb, rfl⟩
          have HB2 := step_below HB0 hb
          clear hb
          go_wp2
          go_ret2
          exact ⟨HB2.out.mono hBw, _, _, _, _, _, _, by simp, HP.out.keep HB2.out, HO.out.keep HB2.out⟩
        · go_wp2_with fail
          refine HFi.mono ?_
          rintro e w2 ⟨hb, rfl⟩
          have HB2 := step_below HB0 hb
          clear hb
          go_wp2
          go_ret2
          exact ⟨HB2.out.mono hBw, _, _, _, _, _, _, by simp, HP.out.keep HB2.out, HO.out.keep HB2.out⟩
end Go.Proofs.Ytemiajjjhhofaaa
