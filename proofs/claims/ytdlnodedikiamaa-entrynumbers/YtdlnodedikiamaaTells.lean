/-
  The law EntryTells, walked.
-/
import Derived.Test.YtdlnodedikiamaaRoom
import Derived.Test.YtdlnodedikiamaaWrites
import Derived.Test.YtdlnodedikiamaaStrs
namespace Go.Proofs.Ytdlnodedikiamaa
open Go.RowKit Go.PlainAid

theorem writes_all (s : ByteArray) (w : World) (hs : s.size ≤ maxLen) : Calls Try.prog 8 #[.string s] w fun e w' => Below w.heap.size w w' ∧ e = .returned (.bool true) := by
  by_cases h : s.size ≤ 4096
  · exact writes_any s w h
  · exact writes_long s w (by omega) hs

/-- A store into a row of the call's own. -/
theorem Own.store {w : World} {B : Nat} {a : Option Addr} {n cap : Nat} {l : List UInt8} (h : Own w B a n cap l) (j : Nat) (hj : j < n) :
    ∃ g, a = some ⟨g, 0, none⟩ ∧ B ≤ g ∧ w.cell? ⟨g, j, none⟩ = some (.int .u8 ((l.getD j 0).toNat : Nat)) ∧ w.frozen? ⟨g, j, none⟩ = false ∧
      ∀ b : UInt8, ∃ l', Rd (w.setCell ⟨g, j, none⟩ (.int .u8 (b.toNat : Nat))) a n cap l' := by
  have hrd := h.rd
  rcases h.2 with ⟨h2, h3⟩ | ⟨g, c, cur, h1, h3, h4, h5, h6, h7, h8⟩
  · omega
  · cases h1
    have hrow : w.rowIs g 5 cap (fun i => cur.getD i (.int .u8 0)) := ⟨cur, h4, by omega, fun i hi => by
      show cur[i]? = some (cur.getD i (.int .u8 0))
      rw [Array.getD_eq_getD_getElem?, Array.getElem?_eq_getElem (by omega)]; rfl⟩
    have hcell : ∀ i, i < n → w.cell? ⟨g, i, none⟩ = some (.int .u8 ((l.getD i 0).toNat : Nat)) := fun i hi => by
      obtain ⟨b, off, e, hc⟩ := hrd.cell i hi
      cases e
      rwa [Nat.zero_add] at hc
    refine ⟨g, rfl, h3, hcell j hj, hrow.frozen j, fun b => ⟨l.set j b, Rd.mk (by rw [List.length_set]; exact hrd.len) hrd.fit hrd.max (fun e => nomatch e) (fun i hi => ⟨g, 0, rfl, ?_⟩)⟩⟩
    rw [Nat.zero_add, (hrow.set j (.int .u8 (b.toNat : Nat))).cell (i := i) (by omega), List.getD_eq_getElem?_getD, List.getElem?_set]
    by_cases hij : j = i
    · subst hij
      rw [if_pos rfl, if_pos rfl, if_pos (by rw [hrd.len]; exact hj)]; rfl
    · rw [if_neg (fun e => hij e.symm), if_neg hij, ← List.getD_eq_getElem?_getD]
      have e1 := hrow.cell (i := i) (by omega)
      rw [hcell i hi] at e1
      exact e1.symm

theorem xor_byte (X : UInt8) (T : UInt8) : ∃ b : UInt8, bits .xor .u8 ((X.toNat : Nat) : Int) ((T.toNat : Nat) : Int) = ((b.toNat : Nat) : Int) := by
  have h1 := X.toNat_lt
  have h2 := T.toNat_lt
  have hx : X.toNat ^^^ T.toNat < 2 ^ 8 := Nat.xor_lt_two_pow (by omega) (by omega)
  refine ⟨UInt8.ofNat (X.toNat ^^^ T.toNat), ?_⟩
  rw [u8_xor_nat _ _ (by omega) (by omega), UInt8.toNat_ofNat', Nat.mod_eq_of_lt hx]

theorem pack_short {lo : List ByteArray} (hS : Short lo 8 90) : (pack lo).length ≤ 1000 := by
  have h := pack_len lo 90 (fun s hs => by have := hS.2 s hs; omega)
  have h8 := hS.1
  have : lo.length * (90 + 11) ≤ 8 * (90 + 11) := Nat.mul_le_mul_right _ h8
  omega

set_option maxRecDepth 100000 in
set_option maxHeartbeats 16000000 in
theorem tells_any (s : ByteArray) (n : Int) (al : Option Addr) (nl cl : Nat) (ls : List ByteArray) (ab : Option Addr) (nb cb : Nat) (lb : List UInt8) (at' : Int) (T : UInt8) (w : World)
    (hs : s.size ≤ maxLen) (h1 : -9223372036854775808 ≤ n) (h2 : n < 9223372036854775808) (hl : RdS w al nl ls) (hb : Rd w ab nb cb lb) (hnb : nb ≤ 140737488355328) (hat : at' ≤ 9223372036854775807) :
    Calls Try.prog 4 #[.string s, .int .i64 n, .slice al nl cl, .slice ab nb cb, .int .i64 at', .int .u8 (T.toNat : Nat)] w fun e w' => e = .returned (.bool true) ∧ Below w.heap.size w w' := by
  have CF := fun w1 (e : RdS w1 al nl ls) => Few_any al nl cl ls 8 90 w1 e (by decide) (by decide)
  have CR := fun w1 (e : Rd w1 ab nb cb lb) => Roomy_any ab nb cb lb w1 e hnb
  have CW := fun w => writes_all s w hs
  have hfl := fmtL_len h1 h2
  have CM := fun w => refFormat_any n w h1 h2
  have CV := fun w => writes_all (bs (fmtL n)) w (by rw [size_bs]; unfold maxLen; omega)
  have CK := fun w => known_any w
  have HLs : Hid (RdS w al nl ls) := hl
  have HRb : Hid (Rd w ab nb cb lb) := hb
  have HNB : Hid (nb ≤ 140737488355328) := hnb
  have HAT : Hid (at' ≤ 9223372036854775807) := hat
  have hnbz : (nb : Int) ≤ 140737488355328 := by omega
  have CWb := fun w => Within_any at' nb w (by omega) (by omega)
  generalize bs (fmtL n) = FN at CM CV
  obtain ⟨TI, hTI⟩ : ∃ TI : Int, ((T.toNat : Nat) : Int) = TI := ⟨_, rfl⟩
  have HTI : Hid (((T.toNat : Nat) : Int) = TI) := hTI
  rw [hTI]
  clear hl hb hfl hs hat hTI
  go_enter Try.func4, Try.ntmps4
  go_wp2_with fail
  refine (CF _ HLs.out).mono ?_
  rintro e w1 ⟨hb, a1, n1, c1, rfl, lo, hO, hS⟩
  have H1 : Hid (Below w.heap.size w w1) := hb
  have hn1 : n1 ≤ 8 := by have := hO.len; have := hS.1; omega
  have CB := fun w2 (e : RdS w2 a1 n1 lo) => Bytes_any a1 n1 c1 lo w2 e (by omega) (fun s hs => by have := hS.2 s hs; omega)
  have HR1 : Hid (RdS w1 a1 n1 lo) := hO.rd
  have HPL : Hid ((pack lo).length ≤ 1000) := pack_short hS
  clear hb hO hS
  go_wp2_with fail
  refine (CB _ HR1.out).mono ?_
  rintro e w2 ⟨hb, ax, nx, cx, rfl, hO⟩
  have H2 := step_below H1 hb
  have HX : Hid (Rd w2 ax nx cx (pack lo)) := hO.rd
  have hnx : nx ≤ 1000 := by have := hO.len; have := HPL.out; omega
  have HE : Hid (Own (w2.alloc (.cells #[] 5)) w2.heap.size (some ⟨w2.heap.size, 0, none⟩) 0 0 []) := Own.made w2 [] w2.heap.size 0 rfl (Nat.le_refl _) (by decide)
  have HM : Hid (0 + nx ≤ 140737488355328) := by show _ ≤ _; omega
  have CX := fun w => Within_any at' nx w (by omega) (by omega)
  have CY := fun (z : Int) (hz : 0 ≤ z) (hz2 : z ≤ nx) w3 (e : Rd w3 ax nx cx (pack lo)) => reads_any ax nx cx (pack lo) z w3 e (by omega)
  clear hb hO
  by_cases hz : nx = 0
  · subst hz
    go_wp2_with (at_builtin; refine append_row rfl (.tmp 21) (.tmp 22) rfl w2.heap.size rfl HE.out rfl (HX.out.keep (alloc_below w2 _)) HM.out (alloc_below w2 _).size ?_; intro ay ny cy w3 hny hO3 hB3; have HY : Hid (Own w3 w2.heap.size ay ny cy (pack lo)) := hO3; have H3 : Hid (Below w2.heap.size w2 w3) := (alloc_below w2 _).trans hB3; rw [Nat.zero_add] at hny; subst hny; clear hO3 hB3)
    obtain ⟨wy, hwy⟩ : ∃ wy, wy = w3 := ⟨_, rfl⟩
    subst hwy
    have Hy := step_below H2 H3.out
    have HXy : Hid (Rd wy ax 0 cx (pack lo)) := HX.out.keep H3.out
    obtain ⟨ly, HYy⟩ : ∃ ly, Hid (Rd wy ay 0 cy ly) := ⟨_, HY.out.rd⟩
    have CZ := fun (z : Int) (hz2 : z ≤ 0) w4 (e : Rd w4 ay 0 cy ly) => reads_any ay 0 cy ly z w4 e (by omega)
    go_wp2_with fail
    refine (CX _).mono ?_
    rintro e wy ⟨rfl, z, hz0, hz1, rfl⟩
    go_wp2_with fail
    refine (CR _ (HRb.out.keep Hy.out)).mono ?_
    rintro e w5 ⟨hb, af, nf, cf, rfl, hO⟩
    have H5 := step_below Hy hb
    have HX5 : Hid (Rd w5 ax 0 cx (pack lo)) := HXy.out.keep hb
    have HY5 : Hid (Rd w5 ay 0 cy ly) := HYy.out.keep hb
    have hnf : nf = nb + 80 := by
      have := hO.len
      rw [List.length_append, List.length_replicate, HRb.out.len] at this
      exact this.symm
    subst hnf
    obtain ⟨ag, cg, hsl, hRg⟩ := hO.rd.slice_h nb (by omega)
    have htk : (lb ++ List.replicate 80 165).take nb = lb := by rw [← HRb.out.len]; simp
    rw [htk] at hRg
    have HF5 : Hid (Rd w5 af (nb + 80) cf (lb ++ List.replicate 80 165)) := hO.rd
    have HG5 : Hid (Rd w5 ag nb cg lb) := hRg
    have CG := fun w4 (e : Rd w4 ag nb cg lb) => reads_any ag nb cg lb at' w4 e HAT.out
    have CH := fun (z : Int) (hz2 : z ≤ nb) w4 (e : Rd w4 ab nb cb lb) => reads_any ab nb cb lb z w4 e (by omega)
    have CI := fun w4 (e : Rd w4 af (nb + 80) cf (lb ++ List.replicate 80 165)) (e' : Rd w4 ab nb cb lb) => Intact_any af ab nb cf cb lb w4 e e'
    have HB5 : Hid (Below w5.heap.size w5 w5) := Below.refl _ _
    clear hb hO htk hRg
    go_wp2_with fail
    refine (CW _).mono ?_
    rintro e v1 ⟨hb, rfl⟩
    have G1 := step_below HB5 hb
    clear hb
    go_wp2_with fail
    refine (CM _).mono ?_
    rintro e v1 ⟨rfl, rfl⟩
    go_wp2_with fail
    refine (CV _).mono ?_
    rintro e v2 ⟨hb, rfl⟩
    have G2 := step_below G1 hb
    clear hb
    go_wp2_with fail
    refine (CY z hz0 hz1 _ (HX5.out.keep G2.out)).mono ?_
    rintro e v3 ⟨hb, rfl⟩
    have G3 := step_below G2 hb
    clear hb
    go_wp2_with fail
    refine (CZ z hz1 _ (HY5.out.keep G3.out)).mono ?_
    rintro e v4 ⟨hb, rfl⟩
    have G4 := step_below G3 hb
    clear hb
    go_wp2_with fail
    refine (CG _ (HG5.out.keep G4.out)).mono ?_
    rintro e v5 ⟨hb, rfl⟩
    have G5 := step_below G4 hb
    clear hb
    go_wp2_with fail
    refine (CWb _).mono ?_
    rintro e v5 ⟨rfl, zb, hzb0, hzb1, rfl⟩
    go_wp2_with fail
    refine (CH zb hzb1 _ (HRb.out.keep (H5.out.trans (G5.out.mono H5.out.size)))).mono ?_
    rintro e v6 ⟨hb, rfl⟩
    have G6 := step_below G5 hb
    clear hb
    go_wp2_with fail
    refine (CI _ (HF5.out.keep G6.out) (HRb.out.keep (H5.out.trans (G6.out.mono H5.out.size)))).mono ?_
    rintro e v7 ⟨hb, rfl⟩
    have G7 := step_below G6 hb
    clear hb
    go_wp2_with fail
    refine (CK _).mono ?_
    rintro e v8 ⟨hb, rfl⟩
    have G8 := step_below G7 hb
    clear hb
    go_wp2
    go_ret
    exact ⟨rfl, H5.out.trans (G8.out.mono H5.out.size)⟩
  · have hpos : (0 : Int) < nx := by omega
    have CQ := fun w => Within_any at' ((nx : Int) - 1) w (by omega) (by omega)
    go_wp2_with (at_builtin; refine append_row rfl (.tmp 21) (.tmp 22) rfl w2.heap.size rfl HE.out rfl (HX.out.keep (alloc_below w2 _)) HM.out (alloc_below w2 _).size ?_; intro ay ny cy w3 hny hO3 hB3; have HY : Hid (Own w3 w2.heap.size ay ny cy (pack lo)) := hO3; have H3 : Hid (Below w2.heap.size w2 w3) := (alloc_below w2 _).trans hB3; rw [Nat.zero_add] at hny; subst hny; clear hO3 hB3)
    go_wp2_with fail
    refine (CQ _).mono ?_
    rintro e w3 ⟨rfl, q, hq0, hq1, rfl⟩
    obtain ⟨j, rfl⟩ := Int.eq_ofNat_of_zero_le hq0
    obtain ⟨g, hay, hBg, hcell, hfr, hset⟩ := HY.out.store j (by omega)
    subst hay
    obtain ⟨bx, hbx⟩ := xor_byte ((pack lo).getD j 0) T
    obtain ⟨X, hX⟩ : ∃ X : Int, (((pack lo).getD j 0).toNat : Int) = X := ⟨_, rfl⟩
    rw [hX, HTI.out] at hbx
    rw [hX] at hcell
    obtain ⟨ly, hly⟩ := hset bx
    have HYs : Hid (Rd (w3.setCell ⟨g, j, none⟩ (.int .u8 (bx.toNat : Nat))) (some ⟨g, 0, none⟩) ny cy ly) := hly
    have Hs : Hid (Below w2.heap.size w2 (w3.setCell ⟨g, j, none⟩ (.int .u8 (bx.toNat : Nat)))) := H3.out.setCell hBg _
    obtain ⟨BX, hBX⟩ : ∃ BX : Int, ((bx.toNat : Nat) : Int) = BX := ⟨_, rfl⟩
    rw [hBX] at HYs Hs hbx
    have hjn : (j : Int) < ny := by omega
    obtain ⟨wy, hwy⟩ : ∃ wy, w3.setCell ⟨g, j, none⟩ (.int .u8 BX) = wy := ⟨_, rfl⟩
    rw [hwy] at HYs Hs
    have Hy := step_below H2 Hs.out
    have HXy : Hid (Rd wy ax ny cx (pack lo)) := HX.out.keep Hs.out
    have HYy : Hid (Rd wy (some ⟨g, 0, none⟩) ny cy ly) := HYs
    clear hX hBX hly hset hBg hq0
    have CZ := fun (z : Int) (hz2 : z ≤ ny) w4 (e : Rd w4 (some ⟨g, 0, none⟩) ny cy ly) => reads_any (some ⟨g, 0, none⟩) ny cy ly z w4 e (by omega)
    go_wp2_with fail
    refine (CX _).mono ?_
    rintro e wy ⟨rfl, z, hz0, hz1, rfl⟩
    go_wp2_with fail
    refine (CR _ (HRb.out.keep Hy.out)).mono ?_
    rintro e w5 ⟨hb, af, nf, cf, rfl, hO⟩
    have H5 := step_below Hy hb
    have HX5 : Hid (Rd w5 ax ny cx (pack lo)) := HXy.out.keep hb
    have HY5 : Hid (Rd w5 (some ⟨g, 0, none⟩) ny cy ly) := HYy.out.keep hb
    have hnf : nf = nb + 80 := by
      have := hO.len
      rw [List.length_append, List.length_replicate, HRb.out.len] at this
      exact this.symm
    subst hnf
    obtain ⟨ag, cg, hsl, hRg⟩ := hO.rd.slice_h nb (by omega)
    have htk : (lb ++ List.replicate 80 165).take nb = lb := by rw [← HRb.out.len]; simp
    rw [htk] at hRg
    have HF5 : Hid (Rd w5 af (nb + 80) cf (lb ++ List.replicate 80 165)) := hO.rd
    have HG5 : Hid (Rd w5 ag nb cg lb) := hRg
    have CG := fun w4 (e : Rd w4 ag nb cg lb) => reads_any ag nb cg lb at' w4 e HAT.out
    have CH := fun (z : Int) (hz2 : z ≤ nb) w4 (e : Rd w4 ab nb cb lb) => reads_any ab nb cb lb z w4 e (by omega)
    have CI := fun w4 (e : Rd w4 af (nb + 80) cf (lb ++ List.replicate 80 165)) (e' : Rd w4 ab nb cb lb) => Intact_any af ab nb cf cb lb w4 e e'
    have HB5 : Hid (Below w5.heap.size w5 w5) := Below.refl _ _
    clear hb hO htk hRg
    go_wp2_with fail
    refine (CW _).mono ?_
    rintro e v1 ⟨hb, rfl⟩
    have G1 := step_below HB5 hb
    clear hb
    go_wp2_with fail
    refine (CM _).mono ?_
    rintro e v1 ⟨rfl, rfl⟩
    go_wp2_with fail
    refine (CV _).mono ?_
    rintro e v2 ⟨hb, rfl⟩
    have G2 := step_below G1 hb
    clear hb
    go_wp2_with fail
    refine (CY z hz0 hz1 _ (HX5.out.keep G2.out)).mono ?_
    rintro e v3 ⟨hb, rfl⟩
    have G3 := step_below G2 hb
    clear hb
    go_wp2_with fail
    refine (CZ z hz1 _ (HY5.out.keep G3.out)).mono ?_
    rintro e v4 ⟨hb, rfl⟩
    have G4 := step_below G3 hb
    clear hb
    go_wp2_with fail
    refine (CG _ (HG5.out.keep G4.out)).mono ?_
    rintro e v5 ⟨hb, rfl⟩
    have G5 := step_below G4 hb
    clear hb
    go_wp2_with fail
    refine (CWb _).mono ?_
    rintro e v5 ⟨rfl, zb, hzb0, hzb1, rfl⟩
    go_wp2_with fail
    refine (CH zb hzb1 _ (HRb.out.keep (H5.out.trans (G5.out.mono H5.out.size)))).mono ?_
    rintro e v6 ⟨hb, rfl⟩
    have G6 := step_below G5 hb
    clear hb
    go_wp2_with fail
    refine (CI _ (HF5.out.keep G6.out) (HRb.out.keep (H5.out.trans (G6.out.mono H5.out.size)))).mono ?_
    rintro e v7 ⟨hb, rfl⟩
    have G7 := step_below G6 hb
    clear hb
    go_wp2_with fail
    refine (CK _).mono ?_
    rintro e v8 ⟨hb, rfl⟩
    have G8 := step_below G7 hb
    clear hb
    go_wp2
    go_ret
    exact ⟨rfl, H5.out.trans (G8.out.mono H5.out.size)⟩
end Go.Proofs.Ytdlnodedikiamaa
