/- Texts that the others stand on. -/
import Derived.Test.YtikimcbalkhooaaGreatJ22
namespace Go.Proofs.YtikimcbalkhooaaGreat
open Go.RowKit Go.PlainAid
open Dk (En keysOf hasK putE ecells)
set_option maxRecDepth 100000 in
set_option maxHeartbeats 8000000 in
theorem plain_s (w : World) (k : Int) (t : ByteArray) (pa : Option Addr) (pn pc : Nat) (la : Option Addr) (ln lc : Nat) (ts : List ByteArray) (hR : RdS w la ln ts) (hk : wi k 1048576 % 4 = 2) :
  Calls Tryz.prog 7 #[.agg #[.int .i64 k, .string t, .slice pa pn pc, .slice la ln lc]] w fun e w' => PlainV w w' e := by
 have HR : Hid (RdS w la ln ts) := hR
 have hpn : ln ≤ 9223372036854775807 := Nat.le_trans hR.max (by decide)
 clear hR
 have HW := fun w => Within_wi k 1048576 w (by decide)
 obtain ⟨z, hz⟩ : ∃ z, wi k 1048576 = z := ⟨_, rfl⟩
 have hz2 := wi_le k 1048576
 rw [hz] at HW hk hz2
 have hz3 : (z : Int).tmod 4 = 2 := by rw [Int.tmod_eq_emod_of_nonneg (by omega)]; omega
 clear hz hk
 obtain ⟨w0, hw0⟩ : ∃ w0, w.alloc (.cells #[.int .i64 k, .string t, .slice pa pn pc, .slice la ln lc] 25) = w0 := ⟨_, rfl⟩
 obtain ⟨w1, hw1⟩ : ∃ w1, w0.alloc (.cells #[.int .i64 0, .string ⟨#[]⟩, .slice none 0 0, .slice none 0 0] 29) = w1 := ⟨_, rfl⟩
 obtain ⟨w2, hw2⟩ : ∃ w2, w1.alloc (.cells #[.int .i64 3, .string ⟨#[]⟩, .slice none 0 0, .slice none 0 0] 29) = w2 := ⟨_, rfl⟩
 have hb0 : Below w.heap.size w w0 := by rw [← hw0]; exact alloc_below w _
 have hb1 : Below w0.heap.size w0 w1 := by rw [← hw1]; exact alloc_below w0 _
 have hb2 : Below w1.heap.size w1 w2 := by rw [← hw2]; exact alloc_below w1 _
 have hl0 : w.heap.size < w0.heap.size := by rw [← hw0]; exact alloc_lt w _ _
 have hl1 : w0.heap.size < w1.heap.size := by rw [← hw1]; exact alloc_lt w0 _ _
 have hl2 : w1.heap.size < w2.heap.size := by rw [← hw2]; exact alloc_lt w1 _ _
 have hs1 : w0.heap.size + 1 = w1.heap.size := by rw [← hw1]; exact (World.size_alloc _ _).symm
 have HP : Hid (PX w w2 w2.heap.size w.heap.size w0.heap.size w1.heap.size #[.int .i64 k, .string t, .slice pa pn pc, .slice la ln lc] 3 ⟨#[]⟩ (.slice none 0 0) (.slice none 0 0)) := by
  refine ⟨hb0.trans ((hb1.trans (hb2.mono hb1.size)).mono hb0.size), Nat.le_refl _, ?_, ?_, ?_, Nat.le_refl _, hl0, hl1, hl2⟩
  ·rw [hb2.block _ (by omega), hb1.block _ hl0, ← hw0]; exact heap_alloc_new w _
  ·rw [hb2.block _ hl1, ← hw1]; exact heap_alloc_new w0 _
  ·rw [← hw2]; exact heap_alloc_new w1 _
 have hc0 : w0.cell? ⟨w.heap.size, 0, none⟩ = some (.int .i64 k) := by rw [← hw0]; exact cell_new w _ _ 0 _ rfl
 have hc0' : w1.cell? ⟨w.heap.size, 0, none⟩ = some (.int .i64 k) := by rw [hb1.cell (p := ⟨w.heap.size, 0, none⟩) hl0]; exact hc0
 have HW2 : Hid (w1.alloc (.cells #[.int .i64 3, .string ⟨#[]⟩, .slice none 0 0, .slice none 0 0] 29) = w2) := hw2
 have hl3 : w.heap.size < w1.heap.size := by omega
 obtain ⟨N, hN⟩ : ∃ N, min ln 12 = N := ⟨_, rfl⟩
 have hN1 : N ≤ ln ∧ N ≤ 12 ∧ (ln = N ∨ N = 12) := by omega
 clear hN
 clear hb0 hb1 hb2 hl2 hw2
 go_enter Tryz.func7, Tryz.ntmps7
 go_wp2_with fail
 refine (HW _).mono ?_
 rintro e w1 ⟨rfl, rfl⟩
 go_wp2
 rw [HW2.out]
 go_loopg [8, 9] N (fun g iv fv wr => ∃ (i : Nat) (a : Option Addr) (m c : Nat) (acc : List ByteArray), i + g = N ∧ iv = .int .i64 i ∧ m ≤ i ∧ Hid (PX w wr w2.heap.size w.heap.size w0.heap.size w1.heap.size #[.int .i64 k, .string t, .slice pa pn pc, .slice la ln lc] 3 ⟨#[]⟩ (.slice none 0 0) (.slice a m c)) ∧ Hid (OwnS wr w2.heap.size a m c acc) ∧ Hid ((∀ s ∈ acc, s.size ≤ 20) ∧ acc.Nodup))
 case atStart => exact ⟨0, none, 0, 0, [], by omega, rfl, Nat.le_refl _, HP, World.ownsRow_nil _ _ _ _, fun e he => absurd he (by simp), List.nodup_nil⟩
 case round =>
  obtain ⟨i, a, m, c, acc, hi, rfl, hmi, HX, HO, HS⟩ := hrel
  by_cases hiN : i < N
  ·have h8 : (i : Int) < ln := by omega
   have h9 : (i : Int) < 12 := by omega
   obtain ⟨pb, off, hpa, hK⟩ := (HR.out.keep HX.out.bel).cell i (by omega)
   generalize ts.getD i ByteArray.empty = K at hK
   have HC1 := fun w => Cut_any K 20 w (by decide)
   have hf9 : (cutB K 20).size ≤ 20 := by have := size_cutB K 20 (by decide); omega
   generalize cutB K 20 = f at HC1 hf9
   have HZ : Hid (f.size ≤ 20) := hf9
   obtain ⟨d0, d1, d2, d3⟩ := HX.out.cd
   obtain ⟨x0, x1, x2, x3, xf⟩ := HX.out.cv
   have HML : Hid (acc.length = m) := HO.out.len
   subst hpa
   have hm12 : m ≤ 12 := by omega
   clear hf9
   by_cases hmem : f ∈ acc
   ·obtain ⟨l, r, hsp, hnl⟩ : ∃ l r, acc = l ++ f :: r ∧ f ∉ l := by
     obtain ⟨l, r, hsp⟩ := List.append_of_mem hmem
     refine ⟨l, r, hsp, fun hq => ?_⟩
     have h1 := HS.out.2
     rw [hsp, List.nodup_append] at h1
     exact h1.2.2 f hq f (by simp) rfl
    have HA := rAt_yes w2.heap.size a m c l r f wr (by rw [← hsp]; exact HO.out) (by omega) hnl
    obtain ⟨q, hq⟩ : ∃ q, l.length = q := ⟨_, rfl⟩
    rw [hq] at HA
    have hq0 : ¬ (q : Int) < 0 := by omega
    clear hsp hnl hmem hq
    go_wp2_with fail
    refine (HC1 _).mono ?_
    rintro e wr ⟨rfl, rfl⟩
    go_wp2_with fail
    refine HA.mono ?_
    rintro e wr ⟨rfl, rfl⟩
    go_wp2
    go_roundg (gk - 1)
    case measure => omega
    case rel => exact ⟨i + 1, a, m, c, acc, by omega, by go_num, by omega, HX, HO, HS⟩
   ·have HA := rAt_no w2.heap.size a m c acc f wr HO.out (by omega) hmem
    have HNm : Hid (f ∉ acc) := hmem
    clear hmem
    have HS6 : Hid ((∀ s ∈ acc ++ [f], s.size ≤ 20) ∧ (acc ++ [f]).Nodup) := by
     refine ⟨fun s hs => ?_, ?_⟩
     ·rcases List.mem_append.1 hs with h1 | h1
      ·exact HS.out.1 s h1
      ·rw [List.mem_singleton.1 h1]; exact HZ.out
     ·rw [List.nodup_append]
      refine ⟨HS.out.2, by simp, ?_⟩
      rintro q hq s hs rfl
      rw [List.mem_singleton.1 hs] at hq
      exact HNm.out hq
    go_wp2_with fail
    refine (HC1 _).mono ?_
    rintro e wr ⟨rfl, rfl⟩
    go_wp2_with fail
    refine HA.mono ?_
    rintro e wr ⟨rfl, rfl⟩
    obtain ⟨z0, z1, z2, z3, zf⟩ := HX.out.cv
    have hsz := HX.out.siz
    have HC5 : Hid (∀ wn, Below w2.heap.size wr wn → wn.frozen? ⟨w1.heap.size, 3, none⟩ = false ∧ wn.cell? ⟨w1.heap.size, 3, none⟩ = some (.slice a m c)) := fun wn hb => ⟨(HX.out.keep hb).cv.2.2.2.2 3, (HX.out.keep hb).cv.2.2.2.1⟩
    go_wp2_with (at_builtin; refine append_str rfl (.tmp 46) (.tmp 48) rfl w2.heap.size rfl (HO.out.keep (alloc_below wr _)) rfl (by simp; rfl) (by omega) (Nat.le_trans hsz (alloc_below wr _).size) ?_; intro a3 n3 c3 w3 hn3 hO3 hB3; have HO3 : Hid (OwnS w3 w2.heap.size a3 n3 c3 (acc ++ [f])) := hO3; have HB4 : Hid (Below w2.heap.size wr w3) := ((alloc_below wr _).mono hsz).trans hB3; clear hO3 hB3; obtain ⟨fz3, cl3⟩ := HC5.out w3 HB4.out)
    have HX3 : Hid (PX w (w3.setCell ⟨w1.heap.size, 3, none⟩ (.slice a3 n3 c3)) w2.heap.size w.heap.size w0.heap.size w1.heap.size #[.int .i64 k, .string t, .slice pa pn pc, .slice (some ⟨pb, off, none⟩) ln lc] 3 ⟨#[]⟩ (.slice none 0 0) (.slice a3 n3 c3)) := (HX.out.keep HB4.out).set (i := 3) rfl
    have HO4 : Hid (OwnS (w3.setCell ⟨w1.heap.size, 3, none⟩ (.slice a3 n3 c3)) w2.heap.size a3 n3 c3 (acc ++ [f])) := by
     refine Dk.OwnR.stay HO3.out (Dk.Stay.set (w := w3)) (fun j hj hm => ?_)
     have h1 := (Dk.OwnR.lt (HO3.out : Dk.OwnR _ _ _ _ _ _ _ _) hj).1
     have h2 := HX.out.o4
     simp only [List.mem_singleton] at hm; omega
    go_roundg (gk - 1)
    case measure => omega
    case rel => subst hn3; exact ⟨i + 1, a3, m + 1, c3, acc ++ [f], by omega, by go_num, by omega, HX3, HO4, HS6⟩
  ·have hiN : i = N := by omega
   have hnot : ((i : Int) < ln ∧ ¬ (i : Int) < 12) ∨ ¬ (i : Int) < ln := by omega
   obtain ⟨x0, x1, x2, x3, xf⟩ := HX.out.cv
   obtain ⟨r0, r1, r2, r3, rf⟩ := HX.out.cr
   obtain ⟨d0, d1, d2, d3⟩ := HX.out.cd
   have HSt := stay_last wr w0.heap.size (.int .i64 3) (.string ⟨#[]⟩) (.slice none 0 0) (.slice a m c)
   have HEnd : Hid (Below w.heap.size w ((((wr.setCell ⟨w0.heap.size, 0, none⟩ (.int .i64 3)).setCell ⟨w0.heap.size, 1, none⟩ (.string ⟨#[]⟩)).setCell ⟨w0.heap.size, 2, none⟩ (.slice none 0 0)).setCell ⟨w0.heap.size, 3, none⟩ (.slice a m c))) := HX.out.bel.trans (HSt.below (fun j hj => by simp only [List.mem_singleton] at hj; omega) HX.out.bel.size)
   have HOw : Hid (OwnS ((((wr.setCell ⟨w0.heap.size, 0, none⟩ (.int .i64 3)).setCell ⟨w0.heap.size, 1, none⟩ (.string ⟨#[]⟩)).setCell ⟨w0.heap.size, 2, none⟩ (.slice none 0 0)).setCell ⟨w0.heap.size, 3, none⟩ (.slice a m c)) w.heap.size a m c acc) := by
    have o3 := HX.out.o3; have o4 := HX.out.o4
    refine Dk.OwnR.low (Dk.OwnR.stay HO.out (⟨HSt.os, HSt.tape, HSt.output, HSt.size, HSt.block⟩ : Dk.Stay _ _ _) (fun j hj hm => ?_)) (by have := HX.out.o1; have := HX.out.o2; omega)
    have := (Dk.OwnR.lt HO.out hj).1
    simp only [List.mem_singleton] at hm; omega
   clear HSt
   rcases hnot with ⟨h8, h9⟩ | h8
   all_goals
    go_wp2
    exact bodyPost_ret (v := .agg #[.int .i64 3, .string ⟨#[]⟩, (.slice none 0 0), (.slice a m c)]) (results_cell_row rfl _ _ w0.heap.size 29 _ (0, 0) _ rfl (heap_last HX.out.r _ _ _ _) Tryz.underlying29 rfl Tryz.infoVal) rfl ⟨HEnd.out, _, .set acc, rfl, ⟨a, m, c, rfl, HOw.out⟩, ⟨by rw [HO.out.len]; omega, HS.out.1⟩, HS.out.2⟩
set_option maxRecDepth 100000 in
set_option maxHeartbeats 8000000 in
theorem plain_l (w : World) (k : Int) (t : ByteArray) (pa : Option Addr) (pn pc : Nat) (la : Option Addr) (ln lc : Nat) (ts : List ByteArray) (hR : RdS w la ln ts) (hk : wi k 1048576 % 4 = 3) :
  Calls Tryz.prog 7 #[.agg #[.int .i64 k, .string t, .slice pa pn pc, .slice la ln lc]] w fun e w' => PlainV w w' e := by
 have HR : Hid (RdS w la ln ts) := hR
 have hpn : ln ≤ 9223372036854775807 := Nat.le_trans hR.max (by decide)
 clear hR
 have HW := fun w => Within_wi k 1048576 w (by decide)
 obtain ⟨z, hz⟩ : ∃ z, wi k 1048576 = z := ⟨_, rfl⟩
 have hz2 := wi_le k 1048576
 rw [hz] at HW hk hz2
 have hz3 : (z : Int).tmod 4 = 3 := by rw [Int.tmod_eq_emod_of_nonneg (by omega)]; omega
 clear hz hk
 obtain ⟨w0, hw0⟩ : ∃ w0, w.alloc (.cells #[.int .i64 k, .string t, .slice pa pn pc, .slice la ln lc] 25) = w0 := ⟨_, rfl⟩
 obtain ⟨w1, hw1⟩ : ∃ w1, w0.alloc (.cells #[.int .i64 0, .string ⟨#[]⟩, .slice none 0 0, .slice none 0 0] 29) = w1 := ⟨_, rfl⟩
 obtain ⟨w2, hw2⟩ : ∃ w2, w1.alloc (.cells #[.int .i64 4, .string ⟨#[]⟩, .slice none 0 0, .slice none 0 0] 29) = w2 := ⟨_, rfl⟩
 have hb0 : Below w.heap.size w w0 := by rw [← hw0]; exact alloc_below w _
 have hb1 : Below w0.heap.size w0 w1 := by rw [← hw1]; exact alloc_below w0 _
 have hb2 : Below w1.heap.size w1 w2 := by rw [← hw2]; exact alloc_below w1 _
 have hl0 : w.heap.size < w0.heap.size := by rw [← hw0]; exact alloc_lt w _ _
 have hl1 : w0.heap.size < w1.heap.size := by rw [← hw1]; exact alloc_lt w0 _ _
 have hl2 : w1.heap.size < w2.heap.size := by rw [← hw2]; exact alloc_lt w1 _ _
 have hs1 : w0.heap.size + 1 = w1.heap.size := by rw [← hw1]; exact (World.size_alloc _ _).symm
 have HP : Hid (PX w w2 w2.heap.size w.heap.size w0.heap.size w1.heap.size #[.int .i64 k, .string t, .slice pa pn pc, .slice la ln lc] 4 ⟨#[]⟩ (.slice none 0 0) (.slice none 0 0)) := by
  refine ⟨hb0.trans ((hb1.trans (hb2.mono hb1.size)).mono hb0.size), Nat.le_refl _, ?_, ?_, ?_, Nat.le_refl _, hl0, hl1, hl2⟩
  ·rw [hb2.block _ (by omega), hb1.block _ hl0, ← hw0]; exact heap_alloc_new w _
  ·rw [hb2.block _ hl1, ← hw1]; exact heap_alloc_new w0 _
  ·rw [← hw2]; exact heap_alloc_new w1 _
 have hc0 : w0.cell? ⟨w.heap.size, 0, none⟩ = some (.int .i64 k) := by rw [← hw0]; exact cell_new w _ _ 0 _ rfl
 have hc0' : w1.cell? ⟨w.heap.size, 0, none⟩ = some (.int .i64 k) := by rw [hb1.cell (p := ⟨w.heap.size, 0, none⟩) hl0]; exact hc0
 have HW2 : Hid (w1.alloc (.cells #[.int .i64 4, .string ⟨#[]⟩, .slice none 0 0, .slice none 0 0] 29) = w2) := hw2
 have hl3 : w.heap.size < w1.heap.size := by omega
 obtain ⟨N, hN⟩ : ∃ N, min ln 12 = N := ⟨_, rfl⟩
 have hN1 : N ≤ ln ∧ N ≤ 12 ∧ (ln = N ∨ N = 12) := by omega
 clear hN
 clear hb0 hb1 hb2 hl2 hw2
 go_enter Tryz.func7, Tryz.ntmps7
 go_wp2_with fail
 refine (HW _).mono ?_
 rintro e w1 ⟨rfl, rfl⟩
 go_wp2
 rw [HW2.out]
 go_loopg [8, 9] N (fun g iv fv wr => ∃ (i : Nat) (a : Option Addr) (m c : Nat) (acc : List ByteArray), i + g = N ∧ iv = .int .i64 i ∧ m ≤ i ∧ Hid (PX w wr w2.heap.size w.heap.size w0.heap.size w1.heap.size #[.int .i64 k, .string t, .slice pa pn pc, .slice la ln lc] 4 ⟨#[]⟩ (.slice none 0 0) (.slice a m c)) ∧ Hid (OwnS wr w2.heap.size a m c acc) ∧ Hid ((∀ s ∈ acc, s.size ≤ 20) ∧ True))
 case atStart => exact ⟨0, none, 0, 0, [], by omega, rfl, Nat.le_refl _, HP, World.ownsRow_nil _ _ _ _, fun e he => absurd he (by simp), trivial⟩
 case round =>
  obtain ⟨i, a, m, c, acc, hi, rfl, hmi, HX, HO, HS⟩ := hrel
  by_cases hiN : i < N
  ·have h8 : (i : Int) < ln := by omega
   have h9 : (i : Int) < 12 := by omega
   obtain ⟨pb, off, hpa, hK⟩ := (HR.out.keep HX.out.bel).cell i (by omega)
   generalize ts.getD i ByteArray.empty = K at hK
   have HC1 := fun w => Cut_any K 20 w (by decide)
   have hf9 : (cutB K 20).size ≤ 20 := by have := size_cutB K 20 (by decide); omega
   generalize cutB K 20 = f at HC1 hf9
   have HZ : Hid (f.size ≤ 20) := hf9
   obtain ⟨d0, d1, d2, d3⟩ := HX.out.cd
   obtain ⟨x0, x1, x2, x3, xf⟩ := HX.out.cv
   have HML : Hid (acc.length = m) := HO.out.len
   subst hpa
   have hm12 : m ≤ 12 := by omega
   clear hf9
   have HS6 : Hid ((∀ s ∈ acc ++ [f], s.size ≤ 20) ∧ True) := by
     refine ⟨fun s hs => ?_, trivial⟩
     rcases List.mem_append.1 hs with h1 | h1
     ·exact HS.out.1 s h1
     ·rw [List.mem_singleton.1 h1]; exact HZ.out
   ·go_wp2_with fail
    refine (HC1 _).mono ?_
    rintro e wr ⟨rfl, rfl⟩
    obtain ⟨z0, z1, z2, z3, zf⟩ := HX.out.cv
    have hsz := HX.out.siz
    have HC5 : Hid (∀ wn, Below w2.heap.size wr wn → wn.frozen? ⟨w1.heap.size, 3, none⟩ = false ∧ wn.cell? ⟨w1.heap.size, 3, none⟩ = some (.slice a m c)) := fun wn hb => ⟨(HX.out.keep hb).cv.2.2.2.2 3, (HX.out.keep hb).cv.2.2.2.1⟩
    go_wp2_with (at_builtin; refine append_str rfl (.tmp 46) (.tmp 48) rfl w2.heap.size rfl (HO.out.keep (alloc_below wr _)) rfl (by simp; rfl) (by omega) (Nat.le_trans hsz (alloc_below wr _).size) ?_; intro a3 n3 c3 w3 hn3 hO3 hB3; have HO3 : Hid (OwnS w3 w2.heap.size a3 n3 c3 (acc ++ [f])) := hO3; have HB4 : Hid (Below w2.heap.size wr w3) := ((alloc_below wr _).mono hsz).trans hB3; clear hO3 hB3; obtain ⟨fz3, cl3⟩ := HC5.out w3 HB4.out)
    have HX3 : Hid (PX w (w3.setCell ⟨w1.heap.size, 3, none⟩ (.slice a3 n3 c3)) w2.heap.size w.heap.size w0.heap.size w1.heap.size #[.int .i64 k, .string t, .slice pa pn pc, .slice (some ⟨pb, off, none⟩) ln lc] 4 ⟨#[]⟩ (.slice none 0 0) (.slice a3 n3 c3)) := (HX.out.keep HB4.out).set (i := 3) rfl
    have HO4 : Hid (OwnS (w3.setCell ⟨w1.heap.size, 3, none⟩ (.slice a3 n3 c3)) w2.heap.size a3 n3 c3 (acc ++ [f])) := by
     refine Dk.OwnR.stay HO3.out (Dk.Stay.set (w := w3)) (fun j hj hm => ?_)
     have h1 := (Dk.OwnR.lt (HO3.out : Dk.OwnR _ _ _ _ _ _ _ _) hj).1
     have h2 := HX.out.o4
     simp only [List.mem_singleton] at hm; omega
    go_roundg (gk - 1)
    case measure => omega
    case rel => subst hn3; exact ⟨i + 1, a3, m + 1, c3, acc ++ [f], by omega, by go_num, by omega, HX3, HO4, HS6⟩
  ·have hiN : i = N := by omega
   have hnot : ((i : Int) < ln ∧ ¬ (i : Int) < 12) ∨ ¬ (i : Int) < ln := by omega
   obtain ⟨x0, x1, x2, x3, xf⟩ := HX.out.cv
   obtain ⟨r0, r1, r2, r3, rf⟩ := HX.out.cr
   obtain ⟨d0, d1, d2, d3⟩ := HX.out.cd
   have HSt := stay_last wr w0.heap.size (.int .i64 4) (.string ⟨#[]⟩) (.slice none 0 0) (.slice a m c)
   have HEnd : Hid (Below w.heap.size w ((((wr.setCell ⟨w0.heap.size, 0, none⟩ (.int .i64 4)).setCell ⟨w0.heap.size, 1, none⟩ (.string ⟨#[]⟩)).setCell ⟨w0.heap.size, 2, none⟩ (.slice none 0 0)).setCell ⟨w0.heap.size, 3, none⟩ (.slice a m c))) := HX.out.bel.trans (HSt.below (fun j hj => by simp only [List.mem_singleton] at hj; omega) HX.out.bel.size)
   have HOw : Hid (OwnS ((((wr.setCell ⟨w0.heap.size, 0, none⟩ (.int .i64 4)).setCell ⟨w0.heap.size, 1, none⟩ (.string ⟨#[]⟩)).setCell ⟨w0.heap.size, 2, none⟩ (.slice none 0 0)).setCell ⟨w0.heap.size, 3, none⟩ (.slice a m c)) w.heap.size a m c acc) := by
    have o3 := HX.out.o3; have o4 := HX.out.o4
    refine Dk.OwnR.low (Dk.OwnR.stay HO.out (⟨HSt.os, HSt.tape, HSt.output, HSt.size, HSt.block⟩ : Dk.Stay _ _ _) (fun j hj hm => ?_)) (by have := HX.out.o1; have := HX.out.o2; omega)
    have := (Dk.OwnR.lt HO.out hj).1
    simp only [List.mem_singleton] at hm; omega
   clear HSt
   rcases hnot with ⟨h8, h9⟩ | h8
   all_goals
    go_wp2
    exact bodyPost_ret (v := .agg #[.int .i64 4, .string ⟨#[]⟩, (.slice none 0 0), (.slice a m c)]) (results_cell_row rfl _ _ w0.heap.size 29 _ (0, 0) _ rfl (heap_last HX.out.r _ _ _ _) Tryz.underlying29 rfl Tryz.infoVal) rfl ⟨HEnd.out, _, .lst acc, rfl, ⟨a, m, c, rfl, HOw.out⟩, ⟨by rw [HO.out.len]; omega, HS.out.1⟩, trivial⟩
theorem plainV_any (w : World) (dv : Value) (h : Drw w dv) : Calls Tryz.prog 7 #[dv] w fun e w' => PlainV w w' e := by
 obtain ⟨k, t, pa, pn, pc, es, la, ln, lc, ls, rfl, h2, h3⟩ := h
 have h4 : wi k 1048576 % 4 = 0 ∨ wi k 1048576 % 4 = 1 ∨ wi k 1048576 % 4 = 2 ∨ wi k 1048576 % 4 = 3 := by omega
 rcases h4 with h | h | h | h
 ·exact plain_t w k t _ _ h
 ·exact plain_h w k t pa pn pc es la ln lc h2 h
 ·exact plain_s w k t pa pn pc la ln lc ls h3 h
 ·exact plain_l w k t pa pn pc la ln lc ls h3 h
end Go.Proofs.YtikimcbalkhooaaGreat
