/-
  The law's do: Set.
-/
import Derived.Test.YtemiajjjhhofaaaDo1
namespace Go.Proofs.Ytemiajjjhhofaaa
open Go.RowKit Go.PlainAid

theorem len_set (ls : List ByteArray) (k : Nat) (s : ByteArray) (h : k < ls.length) : (pack (ls.set k s)).length = (pack ls).length - (off ls (k + 1) - off ls k) + (enc (lst s)).length := by
  have h1 : (pack [s]).length = (enc (lst s)).length := by rw [pack, List.length_append]; rfl
  rw [set_split ls k s h, rep_len, h1]

/-- The first text of a call. -/
def fst1 (xl : List ByteArray) (m : Int) : ByteArray := match xl with
  | [] => ⟨#[]⟩
  | t :: _ => cutB t m
theorem fst1_le (xl : List ByteArray) (m : Int) (hm : 0 ≤ m) : ((fst1 xl m).size : Int) ≤ m := by
  cases xl with
  | nil => exact hm
  | cons t r => exact size_cutB t m hm
theorem fst1_none {xl : List ByteArray} (m : Int) (h : xl.length = 0) : fst1 xl m = ⟨#[]⟩ := by rw [List.length_eq_zero_iff.1 h]; rfl
theorem fst1_some {xl : List ByteArray} (m : Int) (h : 0 < xl.length) : fst1 xl m = cutB (xl.getD 0 ByteArray.empty) m := by
  cases xl with
  | nil => simp at h
  | cons t r => rfl
theorem below_setCellS (w : World) (C g i : Nat) (v : Value) (h : C ≤ g) : Below C w (w.setCell ⟨g, i, none⟩ v) := by
  have h1 := grown_setCell w g i v
  exact ⟨h1.os, h1.tape, h1.output, h1.size, fun k hk => Deep.blk_setCell_other w _ v k (by show k ≠ g; omega)⟩
theorem fit_set {ls : List ByteArray} {k : Nat} {s : ByteArray} (h : Fit ls) (hs : s.size ≤ 4096) : Fit (ls.set k s) := by
  intro t ht
  rcases List.mem_or_eq_of_mem_set ht with h1 | h1
  · exact h t h1
  · rw [h1]; exact hs

/-- What Set leaves. -/
def setN (l : List ByteArray) (i : Int) (s : ByteArray) : List ByteArray := match plc l.length i with
  | none => l
  | some k => if 4096 < s.size then l else if 65536 < (pack (l.set k s)).length then l else l.set k s

set_option maxRecDepth 100000 in
set_option maxHeartbeats 8000000 in
theorem do2_any (B p : Nat) (a : Option Addr) (n c : Nat) (l : List ByteArray) (la : Option Addr) (ln lc : Nat) (i N : Int) (xa : Option Addr) (xn xc : Nat) (xl : List ByteArray) (w : World) (hP : Pk w B p a n c l) (hf : Fit l) (hn : n ≤ 65536) (hO : OwnS w B la ln lc l) (hR : RdS w xa xn xl) (hi1 : -9223372036854775808 ≤ i) (hi2 : i ≤ 9223372036854775807) :
    Calls Try.prog 10 #[ptr p, .slice la ln lc, askV 2 i N xa xn xc] w fun e w' => Did w B p (setN l i (fst1 xl 5000)) e w' := by
  have HP : Hid (Pk w B p a n c l) := hP
  have HO : Hid (OwnS w B la ln lc l) := hO
  have HL : Hid (l.length = ln) := hO.len
  have HF : Hid (Fit l) := hf
  have hBw : B ≤ w.heap.size := Nat.le_trans hP.low (Nat.le_of_lt hP.lt)
  have hA := alloc_below w (.cells #[.int .i64 2, .int .i64 i, .int .i64 N, .slice xa xn xc] 28)
  have HX : Hid (Xb (w.alloc (.cells #[.int .i64 2, .int .i64 i, .int .i64 N, .slice xa xn xc] 28)) w.heap.size 2 i N xa xn xc) := heap_alloc_new w _
  have hsl : ((fst1 xl 5000).size : Int) ≤ 5000 := fst1_le xl 5000 (by omega)
  have HS0 : Hid (xl.length = 0 → fst1 xl 5000 = ⟨#[]⟩) := fun h => fst1_none 5000 h
  have HS1 : Hid (0 < xl.length → fst1 xl 5000 = cutB (xl.getD 0 ByteArray.empty) 5000) := fun h => fst1_some 5000 h
  obtain ⟨s, hs⟩ : ∃ s, fst1 xl 5000 = s := ⟨_, rfl⟩
  rw [hs] at hsl HS0 HS1 ⊢
  have hln : ln ≤ 65536 := by have := len_pack l; have := hP.own.len; have := hO.len; omega
  have HRx : Hid (RdS (w.alloc (.cells #[.int .i64 2, .int .i64 i, .int .i64 N, .slice xa xn xc] 28)) xa xn xl) := hR.keep hA
  have HXL : Hid (xl.length = xn) := hR.len
  have hxm : xn ≤ 9223372036854775807 := hR.max
  obtain ⟨w0, hw0⟩ : ∃ w0, w.alloc (.cells #[.int .i64 2, .int .i64 i, .int .i64 N, .slice xa xn xc] 28) = w0 := ⟨_, rfl⟩
  have HB0 : Hid (Below w.heap.size w w0) := by rw [← hw0]; exact hA
  rw [hw0] at HX HRx
  have hx0 := HX.out.c0
  have hx3 := HX.out.c3
  have hx1 := HX.out.c1
  clear hP hf hO hR hA hs
  go_enter Try.func10, Try.ntmps10
  go_upto_if 71 with fail
  go_cut [11] from 68 to 76 (fun sv wx => sv = .string s ∧ wx = w0)
  case first =>
    by_cases hx : (0 : Int) < xn
    · obtain ⟨b, off, ha, hc⟩ := HRx.out.cell 0 (by omega)
      subst ha
      rw [Nat.add_zero] at hc
      have HC := fun w => Cut_any (xl.getD 0 ByteArray.empty) 5000 w (by omega)
      rw [← HS1.out (by have := HXL.out; omega)] at HC
      generalize xl.getD 0 ByteArray.empty = t at hc HC
      go_wp2_with fail
      refine (HC _).mono ?_
      rintro e w0 ⟨rfl, rfl⟩
      go_wp2
      go_meet
      exact ⟨rfl, rfl⟩
    · have hs0 : s = ⟨#[]⟩ := HS0.out (by have := HXL.out; omega)
      subst hs0
      go_wp2
      go_meet
      exact ⟨rfl, rfl⟩
  case rest =>
  obtain ⟨rfl, rfl⟩ := hcut
  have HPl := fun w => place5_any ln i w (by omega) hi1 hi2
  have HP0 : Hid (Pk wc B p a n c l) := HP.out.keep HB0.out
  cases hk : plc l.length i with
  | none =>
    have HSi := Set_index B p a n c l i s wc HP0.out hi1 hk
    have HE : Hid (setN l i s = l) := by show _ = _; unfold setN; rw [hk]
    rw [HL.out] at hk
    rw [hk] at HPl
    clear hk
    go_wp2_with fail
    refine (HPl _).mono ?_
    rintro e wc ⟨rfl, rfl⟩
    unfold plR
    go_wp2_with fail
    refine HSi.mono ?_
    rintro e w2 ⟨hb, rfl⟩
    have HB2 := step_below HB0 hb
    clear hb
    go_wp2
    go_ret2
    rw [HE.out]
    exact ⟨HB2.out.mono hBw, _, _, _, _, _, _, rfl, HP.out.keep HB2.out, HO.out.keep HB2.out⟩
  | some k =>
    have hkl := plc_lt hk
    have HE : Hid (setN l i s = if 4096 < s.size then l else if 65536 < (pack (l.set k s)).length then l else l.set k s) := by show _ = _; unfold setN; rw [hk]
    have HK : Hid (plc l.length i = some k) := hk
    rw [HL.out] at hk hkl
    rw [hk] at HPl
    clear hk
    have hk0 : ¬ ((k : Int) < 0) := by omega
    by_cases h4 : 4096 < (s.size : Int)
    · have HSi := Set_long B p a n c l i k s wc HP0.out hi1 HK.out (by omega) (by omega)
      have HE2 : Hid (setN l i s = l) := by show _ = _; rw [HE.out, if_pos (by omega)]
      go_wp2_with fail
      refine (HPl _).mono ?_
      rintro e wc ⟨rfl, rfl⟩
      unfold plR
      go_wp2_with fail
      refine HSi.mono ?_
      rintro e w2 ⟨hb, rfl⟩
      have HB2 := step_below HB0 hb
      clear hb
      go_wp2
      go_ret2
      rw [HE2.out]
      exact ⟨HB2.out.mono hBw, _, _, _, _, _, _, rfl, HP.out.keep HB2.out, HO.out.keep HB2.out⟩
    · have HOl : Hid (OwnS wc B la ln lc l) := HO.out.keep HB0.out
      have HE1 : Hid (setN l i s = if 65536 < (pack (l.set k s)).length then l else l.set k s) := by show _ = _; rw [HE.out, if_neg (by omega)]
      go_wp2_with fail
      refine (HPl _).mono ?_
      rintro e wc ⟨rfl, rfl⟩
      unfold plR
      have HOa : Hid (OwnS (wc.alloc (.cells #[] 9)) wc.heap.size (some ⟨wc.heap.size, 0, none⟩) 0 0 []) := OwnS.made wc [] wc.heap.size 0 rfl (Nat.le_refl _) (by decide) _ rfl
      have HRa : Hid (RdL (wc.alloc (.cells #[] 9)) la ln lc l) := (HOl.out.keep (alloc_below wc _)).rl
      have HNa : Hid (0 + ln ≤ 1000000) := by show _ ≤ _; omega
      have HSa : Hid (wc.heap.size ≤ (wc.alloc (.cells #[] 9)).heap.size) := (alloc_below wc _).size
      go_upto_region 24 with (at_builtin; refine append_strs rfl (.tmp 101) (.tmp 102) rfl wc.heap.size rfl HOa.out rfl HRa.out HNa.out HSa.out ?_; intro a9 n9 c9 w9 hn9 HO9 HB9; have hn9' : n9 = ln := (by omega); subst hn9'; clear hn9)
      have hO9 := HO9.out
      rw [List.nil_append] at hO9
      obtain ⟨g, ha9, hBg, ⟨v, hv⟩, hfz, hO10⟩ := hO9.set k (by omega) s
      subst ha9
      have HO10 : Hid (OwnS (w9.setCell ⟨g, k, none⟩ (.string s)) wc.heap.size (some ⟨g, 0, none⟩) n9 c9 (l.set k s)) := hO10
      have HB10 : Hid (Below wc.heap.size wc (w9.setCell ⟨g, k, none⟩ (.string s))) := ((alloc_below wc _).trans HB9.out).trans (below_setCellS w9 wc.heap.size g k _ hBg)
      obtain ⟨wn, hwn⟩ : ∃ wn, w9.setCell ⟨g, k, none⟩ (.string s) = wn := ⟨_, rfl⟩
      rw [hwn] at HO10 HB10
      have HFs : Hid (Fit (l.set k s)) := fit_set HF.out (by omega)
      have HBy := Bytes_any (some ⟨g, 0, none⟩) n9 c9 (l.set k s) wn HO10.out.rd (by omega) HFs.out
      clear hO9 hO10
      go_wp2_with fail
      refine HBy.mono ?_
      rintro e w2 ⟨hb, a7, n7, c7, rfl, hO7⟩
      have HBn := step_below HB0 HB10.out
      have HB2 := step_below HBn hb
      have HN7 : Hid ((pack (l.set k s)).length = n7) := hO7.len
      have HO2 : Hid (OwnS w2 wc.heap.size (some ⟨g, 0, none⟩) n9 c9 (l.set k s)) := HO10.out.keep hb
      have hx12 := ((HX.out.keep HB10.out).keep hb).c1
      have hPk := HP.out.keep HB2.out
      have hn7 : n7 ≤ 1000000 := by
        have h1 := len_set l k s (by have := HL.out; omega)
        have h2 := (enc_len (lst s)).2
        rw [len_lst] at h2
        have := HN7.out
        have := HP.out.own.len
        omega
      clear hb hO7 HBy
      by_cases hx : 65536 < n7
      · have HSi := Set_full B p a n c l i k s w2 hPk HF.out hn hi1 HK.out (by omega) (by have := HN7.out; omega)
        have hx7 : (65536 : Int) < n7 := by omega
        have HE2 : Hid (setN l i s = l) := by have := HN7.out; show _ = _; rw [HE1.out, if_pos (by omega)]
        clear hPk
        go_wp2_with fail
        refine HSi.mono ?_
        rintro e w3 ⟨hb, rfl⟩
        have HB3 := step_below HB2 hb
        clear hb
        go_wp2
        go_ret2
        rw [HE2.out]
        exact ⟨HB3.out.mono hBw, _, _, _, _, _, _, rfl, HP.out.keep HB3.out, HO.out.keep HB3.out⟩
      · have HSi := Set_ok B p a n c l i k s w2 hPk HF.out hn hi1 HK.out (by omega) (by have := HN7.out; omega)
        have hx7 : ¬ ((65536 : Int) < n7) := by omega
        have HE2 : Hid (setN l i s = l.set k s) := by have := HN7.out; show _ = _; rw [HE1.out, if_neg (by omega)]
        have HPk : Hid (Pk w2 B p a n c l) := hPk
        clear hPk
        go_wp2_with fail
        refine HSi.mono ?_
        rintro e w3 ⟨rfl, hM, a3, n3, c3, hP3, -⟩
        have HB3 : Hid (Below B w w3) := (HB2.out.mono hBw).trans (hM.below HPk.out)
        have HO3 : Hid (OwnS w3 wc.heap.size (some ⟨g, 0, none⟩) n9 c9 (l.set k s)) := HO2.out.moves hM HPk.out
        have HP3 : Hid (Pk w3 B p a3 n3 c3 (l.set k s)) := hP3
        clear hM hP3
        go_wp2
        go_ret2
        rw [HE2.out]
        exact ⟨HB3.out, _, _, _, _, _, _, rfl, HP3.out, HO3.out.lowS (Nat.le_trans hBw HB0.out.size)⟩
end Go.Proofs.Ytemiajjjhhofaaa
