/-
  The law's own 'same': all that is told of a word is what its bytes say.
-/
import Derived.Test.YtmhpaoclbkjohaaSm
import Derived.Deep.RegionHeld3
namespace Go.Proofs.Ytmhpaoclbkjohaa
open Go.RowKit Go.PlainAid

structure Fin3 (w wr : World) (g2 g3 : Nat) (c st : List Nat) (am : Option Addr) (nm cm : Nat) (lm : List Nat) (af : Option Addr) (nf cf : Nat) (lf : List Nat) : Prop where
  below : Below w.heap.size w wr
  a2 : Arr wr g2 c
  a3 : Arr wr g3 st
  m : OwnI wr w.heap.size am nm cm lm
  f : OwnI wr w.heap.size af nf cf lf
theorem Fin3.keep {w wr wn : World} {g2 g3 : Nat} {c st : List Nat} {am : Option Addr} {nm cm : Nat} {lm : List Nat} {af : Option Addr} {nf cf : Nat} {lf : List Nat} (h : Fin3 w wr g2 g3 c st am nm cm lm af nf cf lf) (hb : Below wr.heap.size wr wn) : Fin3 w wn g2 g3 c st am nm cm lm af nf cf lf :=
  ⟨h.below.trans (hb.mono h.below.size), h.a2.keep hb, h.a3.keep hb, h.m.keep hb, h.f.keep hb⟩
theorem Fin3.set {w wr : World} {g2 g3 : Nat} {c st : List Nat} {am : Option Addr} {nm cm : Nat} {lm : List Nat} {af : Option Addr} {nf cf : Nat} {lf : List Nat} (h : Fin3 w wr g2 g3 c st am nm cm lm af nf cf lf) (k b : Nat) (h3 : w.heap.size ≤ g3) (hne : g2 ≠ g3) :
    Fin3 w (wr.setCell ⟨g3, k, none⟩ (.int .u8 (b : Nat))) g2 g3 c (st.set k b) am nm cm lm af nf cf lf :=
  ⟨h.below.setCell h3 _, h.a2.other k _ hne, h.a3.set k b, row_setCell h.m h.a3 k _, row_setCell h.f h.a3 k _⟩
theorem Arr.cells8 {w : World} {g s0 s1 s2 s3 s4 s5 s6 s7 : Nat} (h : Arr w g [s0, s1, s2, s3, s4, s5, s6, s7]) :
    w.cell? ⟨g, 0, none⟩ = some (.int .u8 (s0 : Nat)) ∧ w.cell? ⟨g, 1, none⟩ = some (.int .u8 (s1 : Nat)) ∧ w.cell? ⟨g, 2, none⟩ = some (.int .u8 (s2 : Nat)) ∧ w.cell? ⟨g, 3, none⟩ = some (.int .u8 (s3 : Nat)) ∧
    w.cell? ⟨g, 4, none⟩ = some (.int .u8 (s4 : Nat)) ∧ w.cell? ⟨g, 5, none⟩ = some (.int .u8 (s5 : Nat)) ∧ w.cell? ⟨g, 6, none⟩ = some (.int .u8 (s6 : Nat)) ∧ w.cell? ⟨g, 7, none⟩ = some (.int .u8 (s7 : Nat)) :=
  ⟨h.cell 0 (by simp), h.cell 1 (by simp), h.cell 2 (by simp), h.cell 3 (by simp), h.cell 4 (by simp), h.cell 5 (by simp), h.cell 6 (by simp), h.cell 7 (by simp)⟩
theorem Fin3.cells {w wr : World} {g2 g3 : Nat} {s0 s1 s2 s3 s4 s5 s6 s7 c0 c1 c2 c3 c4 c5 c6 c7 : Nat} {am : Option Addr} {nm cm : Nat} {lm : List Nat} {af : Option Addr} {nf cf : Nat} {lf : List Nat} (h : Fin3 w wr g2 g3 [c0, c1, c2, c3, c4, c5, c6, c7] [s0, s1, s2, s3, s4, s5, s6, s7] am nm cm lm af nf cf lf) :
    wr.cell? ⟨g3, 0, none⟩ = some (.int .u8 (s0 : Nat)) ∧ wr.cell? ⟨g3, 1, none⟩ = some (.int .u8 (s1 : Nat)) ∧ wr.cell? ⟨g3, 2, none⟩ = some (.int .u8 (s2 : Nat)) ∧ wr.cell? ⟨g3, 3, none⟩ = some (.int .u8 (s3 : Nat)) ∧ wr.cell? ⟨g3, 4, none⟩ = some (.int .u8 (s4 : Nat)) ∧ wr.cell? ⟨g3, 5, none⟩ = some (.int .u8 (s5 : Nat)) ∧ wr.cell? ⟨g3, 6, none⟩ = some (.int .u8 (s6 : Nat)) ∧ wr.cell? ⟨g3, 7, none⟩ = some (.int .u8 (s7 : Nat)) ∧ wr.cell? ⟨g2, 0, none⟩ = some (.int .u8 (c0 : Nat)) ∧ wr.cell? ⟨g2, 1, none⟩ = some (.int .u8 (c1 : Nat)) ∧ wr.cell? ⟨g2, 2, none⟩ = some (.int .u8 (c2 : Nat)) ∧ wr.cell? ⟨g2, 3, none⟩ = some (.int .u8 (c3 : Nat)) ∧ wr.cell? ⟨g2, 4, none⟩ = some (.int .u8 (c4 : Nat)) ∧ wr.cell? ⟨g2, 5, none⟩ = some (.int .u8 (c5 : Nat)) ∧ wr.cell? ⟨g2, 6, none⟩ = some (.int .u8 (c6 : Nat)) ∧ wr.cell? ⟨g2, 7, none⟩ = some (.int .u8 (c7 : Nat)) := by
  obtain ⟨h0, h1, h2, h3, h4, h5, h6, h7⟩ := h.a3.cells8
  exact ⟨h0, h1, h2, h3, h4, h5, h6, h7, h.a2.cells8⟩

set_option maxRecDepth 100000 in
set_option maxHeartbeats 16000000 in
theorem same_any {l : List Nat} (hl : Ok l) (i : Int) (c : Nat) (hc : c < 256) (w : World) : Calls Try.prog 10 #[.int .u64 (val l : Nat), .int .i64 i, .int .u8 c] w fun e w' => e = .returned (.bool true) ∧ Below w.heap.size w w' := by
  have HL : Hid (Ok l) := hl
  have HBy := bytes_any hl w
  have HM := fun w => Match_any hl c hc w
  have HF := fun w => Free_any hl w
  have HE := fun w => HasEmpty_any hl w
  have HC := fun w => Count_any hl w
  have HK := fun w => Clean_any hl w
  have HAin := fun (k : Nat) (hk : k < 8) w => At_in hl k hk w
  have HAno := fun (h : i < 0 ∨ 8 ≤ i) w => At_no (val l) i w h
  have HSin := fun (k : Nat) (hk : k < 8) w => Set_in hl k c hk hc w
  have HSno := fun (h : i < 0 ∨ 8 ≤ i) w => Set_no (val l) c i w h
  have HVA : Hid (arr zeros = #[.int .u8 0, .int .u8 0, .int .u8 0, .int .u8 0, .int .u8 0, .int .u8 0, .int .u8 0, .int .u8 0]) := rfl
  obtain ⟨n, hn⟩ : ∃ n, val l = n := ⟨_, rfl⟩
  have HN : Hid (val l = n) := hn
  rw [hn] at HBy HM HF HE HC HK HAno HSno
  simp only [hn] at HAin HSin
  rw [hn]
  clear hl hn
  go_enter Try.func10, Try.ntmps10
  go_wp2_with fail
  refine HBy.mono ?_
  rintro e w1 ⟨rfl, hb⟩
  have HB1 : Hid (Below w.heap.size w w1) := hb
  obtain ⟨g1, hg1⟩ : ∃ g1, w1.heap.size = g1 := ⟨_, rfl⟩
  obtain ⟨w2, hw2⟩ : ∃ w2, w1.alloc (.cells #[.int .u8 0, .int .u8 0, .int .u8 0, .int .u8 0, .int .u8 0, .int .u8 0, .int .u8 0, .int .u8 0] 28) = w2 := ⟨_, rfl⟩
  have HA2 : Hid (Arr w2 g1 zeros) := by show Arr _ _ _; rw [← hw2, ← hg1, ← HVA.out]; exact Arr.made w1 zeros
  have HB2 : Hid (Below w.heap.size w w2) := by show Below _ _ _; rw [← hw2]; exact HB1.out.trans ((alloc_below _ _).mono HB1.out.size)
  have HG1 : Hid (w.heap.size ≤ g1) := by show _ ≤ _; rw [← hg1]; exact HB1.out.size
  clear hb HBy
  go_wp2_with (first
    | (refine store_arr rfl (.tmp 7) (.tmp 17) rfl rfl rfl HA2.out rfl HL.out.len ?_
       intro w3 HA3 HG3
       have HB3 : Hid (Below w.heap.size w w3) := HB2.out.grown HG3.out (by have h1 := HA2.out.lt; have h2 := HG1.out; omega) (fun q hq => by cases hq; exact HG1.out)
       clear hw2 hg1 HG3
       obtain ⟨g2, hg2⟩ : ∃ g2, w3.heap.size = g2 := ⟨_, rfl⟩
       obtain ⟨w4, hw4⟩ : ∃ w4, w3.alloc (.cells #[.int .u8 0, .int .u8 0, .int .u8 0, .int .u8 0, .int .u8 0, .int .u8 0, .int .u8 0, .int .u8 0] 28) = w4 := ⟨_, rfl⟩
       have HA4 : Hid (Arr w4 g2 zeros) := by show Arr _ _ _; rw [← hw4, ← hg2, ← HVA.out]; exact Arr.made w3 zeros
       have HA41 : Hid (Arr w4 g1 l) := by show Arr _ _ _; rw [← hw4]; exact HA3.out.keep (alloc_below _ _)
       have HB4 : Hid (Below w.heap.size w w4) := by show Below _ _ _; rw [← hw4]; exact HB3.out.trans ((alloc_below _ _).mono HB3.out.size)
       have HNE : Hid (g1 ≠ g2) := by show _ ≠ _; have := HA3.out.lt; omega
       have HG2 : Hid (w.heap.size ≤ g2) := by show _ ≤ _; rw [← hg2]; exact HB3.out.size)
    | refine load_arr rfl (.tmp 7) rfl rfl HA3.out HL.out.len ?_
    | (refine store_arr rfl (.tmp 12) (.tmp 18) rfl rfl rfl HA4.out rfl HL.out.len ?_
       intro w5 HA5 HG5
       have HS : Hid (Sm w w5 g1 g2 l l none 0 0 [] none 0 0 []) := ⟨HB4.out.grown HG5.out (by have h1 := HA4.out.lt; have h2 := HG2.out; omega) (fun q hq => by cases hq; exact HG2.out), HG2.out, HNE.out, HA41.out.kept HG5.out (by intro e; cases e; exact HNE.out rfl), HA5.out, OwnI.nil _ _, OwnI.nil _ _, fun g e => by cases e⟩
       clear hw4 hg2 HG5 HA5 HA4 HA41 HB4 HA3 HB3 HA2 HB2))
  go_loopg [8, 9, 10, 11, 13] 8 (fun q mv fv ev cv kv wr => ∃ (k : Nat) (am : Option Addr) (nm cm : Nat) (af : Option Addr) (nf cf cnt : Nat) (e : Bool), k + q = 8 ∧ kv = .int .i64 k ∧ mv = .slice am nm cm ∧ fv = .slice af nf cf ∧ ev = .bool e ∧ cv = .int .i64 cnt ∧ nm ≤ k ∧ nf ≤ k ∧ cnt ≤ k ∧ Hid ((slots (ful l) k).length = cnt) ∧ Hid (some? (has l 128) k = e) ∧ Hid (Sm w wr g1 g2 l (cln l k) am nm cm (slots (has l c) k) af nf cf (slots (fre l) k)))
  case atStart => exact ⟨0, none, 0, 0, none, 0, 0, 0, false, by omega, rfl, rfl, rfl, rfl, rfl, Nat.le_refl _, Nat.le_refl _, Nat.le_refl _, rfl, rfl, HS⟩
  case round =>
    clear HS
    obtain ⟨k, am, nm, cm, af, nf, cf, cnt, e, hk, rfl, rfl, rfl, rfl, rfl, hnm, hnf, hcnt, HCN, HEM, HS⟩ := hrel
    by_cases h8 : k < 8
    · clear HM HF HE HC HK HAin HAno HSin HSno
      have hkl : k < l.length := by rw [HL.out.len]; exact h8
      have hkz : (k : Int) < 8 := by omega
      have hcell := HS.out.a1.cell k hkl
      have HH : Hid (has l c k = decide (l.getD k 0 = c)) := rfl
      have HH8 : Hid (has l 128 k = decide (l.getD k 0 = 128)) := rfl
      have HFR : Hid (fre l k = decide (128 ≤ l.getD k 0)) := rfl
      have HFU : Hid (ful l k = !decide (128 ≤ l.getD k 0)) := rfl
      have HCL : Hid ((cln l k).set k (cl (l.getD k 0)) = cln l (k + 1)) := cln_set l k hkl
      have HCS : Hid (l.getD k 0 ≠ 254 → cln l (k + 1) = cln l k) := fun h => (cln_same l k hkl h).symm
      have HES : Hid (some? (has l 128) (k + 1) = (e || has l 128 k)) := by show _ = _; rw [some_step, HEM.out]
      have hblt := HL.out.get k
      have hk2 : k < (cln l k).length := by rw [cln_len]; exact hkl
      have hcell2 := HS.out.a2.cell k hk2
      have hfz2 := HS.out.a2.frozen k
      generalize (cln l k).getD k 0 = bz at hcell2
      obtain ⟨b, hb⟩ : ∃ b, l.getD k 0 = b := ⟨_, rfl⟩
      have HBB : Hid (l.getD k 0 = b) := hb
      rw [hb] at hcell HH HH8 HFR HFU HCL HCS hblt
      clear hb
      rw [HH8.out] at HES
      clear hk2 hkl HH8 HEM
      by_cases hm : b = c
      · subst hm
        rcases Nat.lt_or_ge b 128 with hA | hA
        · skip
          cases e with
          | true =>
            have HTm : Hid (slots (has l b) (k + 1) = slots (has l b) k ++ [k]) := slots_yes (by rw [HH.out]; exact decide_eq_true rfl)
            have HTf : Hid (slots (fre l) (k + 1) = slots (fre l) k) := slots_no (by rw [HFR.out]; exact decide_eq_false (by omega))
            have HTu : Hid ((slots (ful l) (k + 1)).length = cnt + 1) := by show _ = _; rw [slots_yes (by rw [HFU.out, decide_eq_false (by omega)]; rfl)]; rw [List.length_append, HCN.out]; rfl
            have HTe : Hid (some? (has l 128) (k + 1) = true) := by show _ = _; rw [HES.out]; simp
            have HTc : Hid (cln l (k + 1) = cln l k) := HCS.out (by omega)
            have hx2 : ((b : Int) == 128) = false := by simp; omega
            have hx3 : ((b : Int) == 254) = false := by simp; omega
            clear HH HFR HFU HCL HCS HES HCN
            go_wp2_with (first
              | (at_builtin
                 refine append_int rfl (.tmp 28) (.tmp 30) rfl w.heap.size rfl (HS.out.keep (alloc_below _ _)).m rfl (by simp; rfl) (by omega) (HS.out.keep (alloc_below _ _)).below.size ?_
                 intro am2 nm2 cm2 wm hnm2 HOm HGm HWm
                 subst hnm2
                 replace HS := hid (Sm.appM (HS.out.keep (alloc_below _ _)) HOm.out HGm.out HWm.out)
                 clear HOm HGm HWm
                 have hcell := HS.out.a1.cell k (by rw [HL.out.len]; omega)
                 rw [HBB.out] at hcell
                 have hcell2 := HS.out.a2.cell k (by rw [cln_len, HL.out.len]; omega)
                 have hfz2 := HS.out.a2.frozen k))
            go_roundg (gk - 1)
            case measure => omega
            case rel => exact ⟨k + 1, _, _, _, _, _, _, _, _, by omega, by go_num, rfl, rfl, rfl, by go_num, by omega, by omega, by omega, HTu, HTe, HS.out.reM HTc.out HTm.out HTf.out rfl⟩
          | false =>
            have HTm : Hid (slots (has l b) (k + 1) = slots (has l b) k ++ [k]) := slots_yes (by rw [HH.out]; exact decide_eq_true rfl)
            have HTf : Hid (slots (fre l) (k + 1) = slots (fre l) k) := slots_no (by rw [HFR.out]; exact decide_eq_false (by omega))
            have HTu : Hid ((slots (ful l) (k + 1)).length = cnt + 1) := by show _ = _; rw [slots_yes (by rw [HFU.out, decide_eq_false (by omega)]; rfl)]; rw [List.length_append, HCN.out]; rfl
            have HTe : Hid (some? (has l 128) (k + 1) = false) := by show _ = _; rw [HES.out]; simp; omega
            have HTc : Hid (cln l (k + 1) = cln l k) := HCS.out (by omega)
            have hx2 : ((b : Int) == 128) = false := by simp; omega
            have hx3 : ((b : Int) == 254) = false := by simp; omega
            clear HH HFR HFU HCL HCS HES HCN
            go_wp2_with (first
              | (at_builtin
                 refine append_int rfl (.tmp 28) (.tmp 30) rfl w.heap.size rfl (HS.out.keep (alloc_below _ _)).m rfl (by simp; rfl) (by omega) (HS.out.keep (alloc_below _ _)).below.size ?_
                 intro am2 nm2 cm2 wm hnm2 HOm HGm HWm
                 subst hnm2
                 replace HS := hid (Sm.appM (HS.out.keep (alloc_below _ _)) HOm.out HGm.out HWm.out)
                 clear HOm HGm HWm
                 have hcell := HS.out.a1.cell k (by rw [HL.out.len]; omega)
                 rw [HBB.out] at hcell
                 have hcell2 := HS.out.a2.cell k (by rw [cln_len, HL.out.len]; omega)
                 have hfz2 := HS.out.a2.frozen k))
            go_roundg (gk - 1)
            case measure => omega
            case rel => exact ⟨k + 1, _, _, _, _, _, _, _, _, by omega, by go_num, rfl, rfl, rfl, by go_num, by omega, by omega, by omega, HTu, HTe, HS.out.reM HTc.out HTm.out HTf.out rfl⟩
        · by_cases hB : b = 128
          · subst hB
            cases e with
            | true =>
              have HTm : Hid (slots (has l 128) (k + 1) = slots (has l 128) k ++ [k]) := slots_yes (by rw [HH.out]; rfl)
              have HTf : Hid (slots (fre l) (k + 1) = slots (fre l) k ++ [k]) := slots_yes (by rw [HFR.out]; exact decide_eq_true (by omega))
              have HTu : Hid ((slots (ful l) (k + 1)).length = cnt) := by show _ = _; rw [slots_no (by rw [HFU.out, decide_eq_true (by omega)]; rfl)]; exact HCN.out
              have HTe : Hid (some? (has l 128) (k + 1) = true) := by show _ = _; rw [HES.out]; simp
              have HTc : Hid (cln l (k + 1) = cln l k) := HCS.out (by omega)
              clear HH HFR HFU HCL HCS HES HCN
              go_wp2_with (first
                | (at_builtin
                   refine append_int rfl (.tmp 28) (.tmp 30) rfl w.heap.size rfl (HS.out.keep (alloc_below _ _)).m rfl (by simp; rfl) (by omega) (HS.out.keep (alloc_below _ _)).below.size ?_
                   intro am2 nm2 cm2 wm hnm2 HOm HGm HWm
                   subst hnm2
                   replace HS := hid (Sm.appM (HS.out.keep (alloc_below _ _)) HOm.out HGm.out HWm.out)
                   clear HOm HGm HWm
                   have hcell := HS.out.a1.cell k (by rw [HL.out.len]; omega)
                   rw [HBB.out] at hcell
                   have hcell2 := HS.out.a2.cell k (by rw [cln_len, HL.out.len]; omega)
                   have hfz2 := HS.out.a2.frozen k)
                | (at_builtin
                   refine append_int rfl (.tmp 36) (.tmp 38) rfl w.heap.size rfl (HS.out.keep (alloc_below _ _)).f rfl (by simp; rfl) (by omega) (HS.out.keep (alloc_below _ _)).below.size ?_
                   intro af2 nf2 cf2 wf hnf2 HOf HGf HWf
                   subst hnf2
                   replace HS := hid (Sm.appF (HS.out.keep (alloc_below _ _)) HOf.out HGf.out HWf.out)
                   clear HOf HGf HWf
                   have hcell := HS.out.a1.cell k (by rw [HL.out.len]; omega)
                   rw [HBB.out] at hcell
                   have hcell2 := HS.out.a2.cell k (by rw [cln_len, HL.out.len]; omega)
                   have hfz2 := HS.out.a2.frozen k))
              go_roundg (gk - 1)
              case measure => omega
              case rel => exact ⟨k + 1, _, _, _, _, _, _, _, _, by omega, by go_num, rfl, rfl, rfl, by go_num, by omega, by omega, by omega, HTu, HTe, HS.out.reM HTc.out HTm.out HTf.out rfl⟩
            | false =>
              have HTm : Hid (slots (has l 128) (k + 1) = slots (has l 128) k ++ [k]) := slots_yes (by rw [HH.out]; rfl)
              have HTf : Hid (slots (fre l) (k + 1) = slots (fre l) k ++ [k]) := slots_yes (by rw [HFR.out]; exact decide_eq_true (by omega))
              have HTu : Hid ((slots (ful l) (k + 1)).length = cnt) := by show _ = _; rw [slots_no (by rw [HFU.out, decide_eq_true (by omega)]; rfl)]; exact HCN.out
              have HTe : Hid (some? (has l 128) (k + 1) = true) := by show _ = _; rw [HES.out]; simp
              have HTc : Hid (cln l (k + 1) = cln l k) := HCS.out (by omega)
              clear HH HFR HFU HCL HCS HES HCN
              go_wp2_with (first
                | (at_builtin
                   refine append_int rfl (.tmp 28) (.tmp 30) rfl w.heap.size rfl (HS.out.keep (alloc_below _ _)).m rfl (by simp; rfl) (by omega) (HS.out.keep (alloc_below _ _)).below.size ?_
                   intro am2 nm2 cm2 wm hnm2 HOm HGm HWm
                   subst hnm2
                   replace HS := hid (Sm.appM (HS.out.keep (alloc_below _ _)) HOm.out HGm.out HWm.out)
                   clear HOm HGm HWm
                   have hcell := HS.out.a1.cell k (by rw [HL.out.len]; omega)
                   rw [HBB.out] at hcell
                   have hcell2 := HS.out.a2.cell k (by rw [cln_len, HL.out.len]; omega)
                   have hfz2 := HS.out.a2.frozen k)
                | (at_builtin
                   refine append_int rfl (.tmp 36) (.tmp 38) rfl w.heap.size rfl (HS.out.keep (alloc_below _ _)).f rfl (by simp; rfl) (by omega) (HS.out.keep (alloc_below _ _)).below.size ?_
                   intro af2 nf2 cf2 wf hnf2 HOf HGf HWf
                   subst hnf2
                   replace HS := hid (Sm.appF (HS.out.keep (alloc_below _ _)) HOf.out HGf.out HWf.out)
                   clear HOf HGf HWf
                   have hcell := HS.out.a1.cell k (by rw [HL.out.len]; omega)
                   rw [HBB.out] at hcell
                   have hcell2 := HS.out.a2.cell k (by rw [cln_len, HL.out.len]; omega)
                   have hfz2 := HS.out.a2.frozen k))
              go_roundg (gk - 1)
              case measure => omega
              case rel => exact ⟨k + 1, _, _, _, _, _, _, _, _, by omega, by go_num, rfl, rfl, rfl, by go_num, by omega, by omega, by omega, HTu, HTe, HS.out.reM HTc.out HTm.out HTf.out rfl⟩
          · by_cases hC : b = 254
            · subst hC
              cases e with
              | true =>
                have HTm : Hid (slots (has l 254) (k + 1) = slots (has l 254) k ++ [k]) := slots_yes (by rw [HH.out]; rfl)
                have HTf : Hid (slots (fre l) (k + 1) = slots (fre l) k ++ [k]) := slots_yes (by rw [HFR.out]; exact decide_eq_true (by omega))
                have HTu : Hid ((slots (ful l) (k + 1)).length = cnt) := by show _ = _; rw [slots_no (by rw [HFU.out, decide_eq_true (by omega)]; rfl)]; exact HCN.out
                have HTe : Hid (some? (has l 128) (k + 1) = true) := by show _ = _; rw [HES.out]; simp
                have HTc : Hid (cln l (k + 1) = (cln l k).set k 128) := HCL.out.symm
                clear HH HFR HFU HCL HCS HES HCN
                go_wp2_with (first
                  | (at_builtin
                     refine append_int rfl (.tmp 28) (.tmp 30) rfl w.heap.size rfl (HS.out.keep (alloc_below _ _)).m rfl (by simp; rfl) (by omega) (HS.out.keep (alloc_below _ _)).below.size ?_
                     intro am2 nm2 cm2 wm hnm2 HOm HGm HWm
                     subst hnm2
                     replace HS := hid (Sm.appM (HS.out.keep (alloc_below _ _)) HOm.out HGm.out HWm.out)
                     clear HOm HGm HWm
                     have hcell := HS.out.a1.cell k (by rw [HL.out.len]; omega)
                     rw [HBB.out] at hcell
                     have hcell2 := HS.out.a2.cell k (by rw [cln_len, HL.out.len]; omega)
                     have hfz2 := HS.out.a2.frozen k)
                  | (at_builtin
                     refine append_int rfl (.tmp 36) (.tmp 38) rfl w.heap.size rfl (HS.out.keep (alloc_below _ _)).f rfl (by simp; rfl) (by omega) (HS.out.keep (alloc_below _ _)).below.size ?_
                     intro af2 nf2 cf2 wf hnf2 HOf HGf HWf
                     subst hnf2
                     replace HS := hid (Sm.appF (HS.out.keep (alloc_below _ _)) HOf.out HGf.out HWf.out)
                     clear HOf HGf HWf
                     have hcell := HS.out.a1.cell k (by rw [HL.out.len]; omega)
                     rw [HBB.out] at hcell
                     have hcell2 := HS.out.a2.cell k (by rw [cln_len, HL.out.len]; omega)
                     have hfz2 := HS.out.a2.frozen k))
                go_roundg (gk - 1)
                case measure => omega
                case rel => exact ⟨k + 1, _, _, _, _, _, _, _, _, by omega, by go_num, rfl, rfl, rfl, by go_num, by omega, by omega, by omega, HTu, HTe, (HS.out.setC k 128).reM HTc.out HTm.out HTf.out rfl⟩
              | false =>
                have HTm : Hid (slots (has l 254) (k + 1) = slots (has l 254) k ++ [k]) := slots_yes (by rw [HH.out]; rfl)
                have HTf : Hid (slots (fre l) (k + 1) = slots (fre l) k ++ [k]) := slots_yes (by rw [HFR.out]; exact decide_eq_true (by omega))
                have HTu : Hid ((slots (ful l) (k + 1)).length = cnt) := by show _ = _; rw [slots_no (by rw [HFU.out, decide_eq_true (by omega)]; rfl)]; exact HCN.out
                have HTe : Hid (some? (has l 128) (k + 1) = false) := by show _ = _; rw [HES.out]; simp
                have HTc : Hid (cln l (k + 1) = (cln l k).set k 128) := HCL.out.symm
                clear HH HFR HFU HCL HCS HES HCN
                go_wp2_with (first
                  | (at_builtin
                     refine append_int rfl (.tmp 28) (.tmp 30) rfl w.heap.size rfl (HS.out.keep (alloc_below _ _)).m rfl (by simp; rfl) (by omega) (HS.out.keep (alloc_below _ _)).below.size ?_
                     intro am2 nm2 cm2 wm hnm2 HOm HGm HWm
                     subst hnm2
                     replace HS := hid (Sm.appM (HS.out.keep (alloc_below _ _)) HOm.out HGm.out HWm.out)
                     clear HOm HGm HWm
                     have hcell := HS.out.a1.cell k (by rw [HL.out.len]; omega)
                     rw [HBB.out] at hcell
                     have hcell2 := HS.out.a2.cell k (by rw [cln_len, HL.out.len]; omega)
                     have hfz2 := HS.out.a2.frozen k)
                  | (at_builtin
                     refine append_int rfl (.tmp 36) (.tmp 38) rfl w.heap.size rfl (HS.out.keep (alloc_below _ _)).f rfl (by simp; rfl) (by omega) (HS.out.keep (alloc_below _ _)).below.size ?_
                     intro af2 nf2 cf2 wf hnf2 HOf HGf HWf
                     subst hnf2
                     replace HS := hid (Sm.appF (HS.out.keep (alloc_below _ _)) HOf.out HGf.out HWf.out)
                     clear HOf HGf HWf
                     have hcell := HS.out.a1.cell k (by rw [HL.out.len]; omega)
                     rw [HBB.out] at hcell
                     have hcell2 := HS.out.a2.cell k (by rw [cln_len, HL.out.len]; omega)
                     have hfz2 := HS.out.a2.frozen k))
                go_roundg (gk - 1)
                case measure => omega
                case rel => exact ⟨k + 1, _, _, _, _, _, _, _, _, by omega, by go_num, rfl, rfl, rfl, by go_num, by omega, by omega, by omega, HTu, HTe, (HS.out.setC k 128).reM HTc.out HTm.out HTf.out rfl⟩
            · skip
              cases e with
              | true =>
                have HTm : Hid (slots (has l b) (k + 1) = slots (has l b) k ++ [k]) := slots_yes (by rw [HH.out]; exact decide_eq_true rfl)
                have HTf : Hid (slots (fre l) (k + 1) = slots (fre l) k ++ [k]) := slots_yes (by rw [HFR.out]; exact decide_eq_true (by omega))
                have HTu : Hid ((slots (ful l) (k + 1)).length = cnt) := by show _ = _; rw [slots_no (by rw [HFU.out, decide_eq_true (by omega)]; rfl)]; exact HCN.out
                have HTe : Hid (some? (has l 128) (k + 1) = true) := by show _ = _; rw [HES.out]; simp
                have HTc : Hid (cln l (k + 1) = cln l k) := HCS.out (by omega)
                have hx2 : ((b : Int) == 128) = false := by simp; omega
                have hx3 : ((b : Int) == 254) = false := by simp; omega
                clear HH HFR HFU HCL HCS HES HCN
                go_wp2_with (first
                  | (at_builtin
                     refine append_int rfl (.tmp 28) (.tmp 30) rfl w.heap.size rfl (HS.out.keep (alloc_below _ _)).m rfl (by simp; rfl) (by omega) (HS.out.keep (alloc_below _ _)).below.size ?_
                     intro am2 nm2 cm2 wm hnm2 HOm HGm HWm
                     subst hnm2
                     replace HS := hid (Sm.appM (HS.out.keep (alloc_below _ _)) HOm.out HGm.out HWm.out)
                     clear HOm HGm HWm
                     have hcell := HS.out.a1.cell k (by rw [HL.out.len]; omega)
                     rw [HBB.out] at hcell
                     have hcell2 := HS.out.a2.cell k (by rw [cln_len, HL.out.len]; omega)
                     have hfz2 := HS.out.a2.frozen k)
                  | (at_builtin
                     refine append_int rfl (.tmp 36) (.tmp 38) rfl w.heap.size rfl (HS.out.keep (alloc_below _ _)).f rfl (by simp; rfl) (by omega) (HS.out.keep (alloc_below _ _)).below.size ?_
                     intro af2 nf2 cf2 wf hnf2 HOf HGf HWf
                     subst hnf2
                     replace HS := hid (Sm.appF (HS.out.keep (alloc_below _ _)) HOf.out HGf.out HWf.out)
                     clear HOf HGf HWf
                     have hcell := HS.out.a1.cell k (by rw [HL.out.len]; omega)
                     rw [HBB.out] at hcell
                     have hcell2 := HS.out.a2.cell k (by rw [cln_len, HL.out.len]; omega)
                     have hfz2 := HS.out.a2.frozen k))
                go_roundg (gk - 1)
                case measure => omega
                case rel => exact ⟨k + 1, _, _, _, _, _, _, _, _, by omega, by go_num, rfl, rfl, rfl, by go_num, by omega, by omega, by omega, HTu, HTe, HS.out.reM HTc.out HTm.out HTf.out rfl⟩
              | false =>
                have HTm : Hid (slots (has l b) (k + 1) = slots (has l b) k ++ [k]) := slots_yes (by rw [HH.out]; exact decide_eq_true rfl)
                have HTf : Hid (slots (fre l) (k + 1) = slots (fre l) k ++ [k]) := slots_yes (by rw [HFR.out]; exact decide_eq_true (by omega))
                have HTu : Hid ((slots (ful l) (k + 1)).length = cnt) := by show _ = _; rw [slots_no (by rw [HFU.out, decide_eq_true (by omega)]; rfl)]; exact HCN.out
                have HTe : Hid (some? (has l 128) (k + 1) = false) := by show _ = _; rw [HES.out]; simp; omega
                have HTc : Hid (cln l (k + 1) = cln l k) := HCS.out (by omega)
                have hx2 : ((b : Int) == 128) = false := by simp; omega
                have hx3 : ((b : Int) == 254) = false := by simp; omega
                clear HH HFR HFU HCL HCS HES HCN
                go_wp2_with (first
                  | (at_builtin
                     refine append_int rfl (.tmp 28) (.tmp 30) rfl w.heap.size rfl (HS.out.keep (alloc_below _ _)).m rfl (by simp; rfl) (by omega) (HS.out.keep (alloc_below _ _)).below.size ?_
                     intro am2 nm2 cm2 wm hnm2 HOm HGm HWm
                     subst hnm2
                     replace HS := hid (Sm.appM (HS.out.keep (alloc_below _ _)) HOm.out HGm.out HWm.out)
                     clear HOm HGm HWm
                     have hcell := HS.out.a1.cell k (by rw [HL.out.len]; omega)
                     rw [HBB.out] at hcell
                     have hcell2 := HS.out.a2.cell k (by rw [cln_len, HL.out.len]; omega)
                     have hfz2 := HS.out.a2.frozen k)
                  | (at_builtin
                     refine append_int rfl (.tmp 36) (.tmp 38) rfl w.heap.size rfl (HS.out.keep (alloc_below _ _)).f rfl (by simp; rfl) (by omega) (HS.out.keep (alloc_below _ _)).below.size ?_
                     intro af2 nf2 cf2 wf hnf2 HOf HGf HWf
                     subst hnf2
                     replace HS := hid (Sm.appF (HS.out.keep (alloc_below _ _)) HOf.out HGf.out HWf.out)
                     clear HOf HGf HWf
                     have hcell := HS.out.a1.cell k (by rw [HL.out.len]; omega)
                     rw [HBB.out] at hcell
                     have hcell2 := HS.out.a2.cell k (by rw [cln_len, HL.out.len]; omega)
                     have hfz2 := HS.out.a2.frozen k))
                go_roundg (gk - 1)
                case measure => omega
                case rel => exact ⟨k + 1, _, _, _, _, _, _, _, _, by omega, by go_num, rfl, rfl, rfl, by go_num, by omega, by omega, by omega, HTu, HTe, HS.out.reM HTc.out HTm.out HTf.out rfl⟩
      · have hm' : b ≠ c := hm
        rcases Nat.lt_or_ge b 128 with hA | hA
        · skip
          cases e with
          | true =>
            have HTm : Hid (slots (has l c) (k + 1) = slots (has l c) k) := slots_no (by rw [HH.out]; exact decide_eq_false hm)
            have HTf : Hid (slots (fre l) (k + 1) = slots (fre l) k) := slots_no (by rw [HFR.out]; exact decide_eq_false (by omega))
            have HTu : Hid ((slots (ful l) (k + 1)).length = cnt + 1) := by show _ = _; rw [slots_yes (by rw [HFU.out, decide_eq_false (by omega)]; rfl)]; rw [List.length_append, HCN.out]; rfl
            have HTe : Hid (some? (has l 128) (k + 1) = true) := by show _ = _; rw [HES.out]; simp
            have HTc : Hid (cln l (k + 1) = cln l k) := HCS.out (by omega)
            have hx1 : ((b : Int) == (c : Int)) = false := by simp; omega
            have hx2 : ((b : Int) == 128) = false := by simp; omega
            have hx3 : ((b : Int) == 254) = false := by simp; omega
            clear HH HFR HFU HCL HCS HES HCN
            go_wp2
            go_roundg (gk - 1)
            case measure => omega
            case rel => exact ⟨k + 1, _, _, _, _, _, _, _, _, by omega, by go_num, rfl, rfl, rfl, by go_num, by omega, by omega, by omega, HTu, HTe, HS.out.reM HTc.out HTm.out HTf.out rfl⟩
          | false =>
            have HTm : Hid (slots (has l c) (k + 1) = slots (has l c) k) := slots_no (by rw [HH.out]; exact decide_eq_false hm)
            have HTf : Hid (slots (fre l) (k + 1) = slots (fre l) k) := slots_no (by rw [HFR.out]; exact decide_eq_false (by omega))
            have HTu : Hid ((slots (ful l) (k + 1)).length = cnt + 1) := by show _ = _; rw [slots_yes (by rw [HFU.out, decide_eq_false (by omega)]; rfl)]; rw [List.length_append, HCN.out]; rfl
            have HTe : Hid (some? (has l 128) (k + 1) = false) := by show _ = _; rw [HES.out]; simp; omega
            have HTc : Hid (cln l (k + 1) = cln l k) := HCS.out (by omega)
            have hx1 : ((b : Int) == (c : Int)) = false := by simp; omega
            have hx2 : ((b : Int) == 128) = false := by simp; omega
            have hx3 : ((b : Int) == 254) = false := by simp; omega
            clear HH HFR HFU HCL HCS HES HCN
            go_wp2
            go_roundg (gk - 1)
            case measure => omega
            case rel => exact ⟨k + 1, _, _, _, _, _, _, _, _, by omega, by go_num, rfl, rfl, rfl, by go_num, by omega, by omega, by omega, HTu, HTe, HS.out.reM HTc.out HTm.out HTf.out rfl⟩
        · by_cases hB : b = 128
          · subst hB
            cases e with
            | true =>
              have HTm : Hid (slots (has l c) (k + 1) = slots (has l c) k) := slots_no (by rw [HH.out]; exact decide_eq_false hm)
              have HTf : Hid (slots (fre l) (k + 1) = slots (fre l) k ++ [k]) := slots_yes (by rw [HFR.out]; exact decide_eq_true (by omega))
              have HTu : Hid ((slots (ful l) (k + 1)).length = cnt) := by show _ = _; rw [slots_no (by rw [HFU.out, decide_eq_true (by omega)]; rfl)]; exact HCN.out
              have HTe : Hid (some? (has l 128) (k + 1) = true) := by show _ = _; rw [HES.out]; simp
              have HTc : Hid (cln l (k + 1) = cln l k) := HCS.out (by omega)
              have hx1 : ((128 : Int) == (c : Int)) = false := by simp; omega
              clear HH HFR HFU HCL HCS HES HCN
              go_wp2_with (first
                | (at_builtin
                   refine append_int rfl (.tmp 36) (.tmp 38) rfl w.heap.size rfl (HS.out.keep (alloc_below _ _)).f rfl (by simp; rfl) (by omega) (HS.out.keep (alloc_below _ _)).below.size ?_
                   intro af2 nf2 cf2 wf hnf2 HOf HGf HWf
                   subst hnf2
                   replace HS := hid (Sm.appF (HS.out.keep (alloc_below _ _)) HOf.out HGf.out HWf.out)
                   clear HOf HGf HWf
                   have hcell := HS.out.a1.cell k (by rw [HL.out.len]; omega)
                   rw [HBB.out] at hcell
                   have hcell2 := HS.out.a2.cell k (by rw [cln_len, HL.out.len]; omega)
                   have hfz2 := HS.out.a2.frozen k))
              go_roundg (gk - 1)
              case measure => omega
              case rel => exact ⟨k + 1, _, _, _, _, _, _, _, _, by omega, by go_num, rfl, rfl, rfl, by go_num, by omega, by omega, by omega, HTu, HTe, HS.out.reM HTc.out HTm.out HTf.out rfl⟩
            | false =>
              have HTm : Hid (slots (has l c) (k + 1) = slots (has l c) k) := slots_no (by rw [HH.out]; exact decide_eq_false hm)
              have HTf : Hid (slots (fre l) (k + 1) = slots (fre l) k ++ [k]) := slots_yes (by rw [HFR.out]; exact decide_eq_true (by omega))
              have HTu : Hid ((slots (ful l) (k + 1)).length = cnt) := by show _ = _; rw [slots_no (by rw [HFU.out, decide_eq_true (by omega)]; rfl)]; exact HCN.out
              have HTe : Hid (some? (has l 128) (k + 1) = true) := by show _ = _; rw [HES.out]; simp
              have HTc : Hid (cln l (k + 1) = cln l k) := HCS.out (by omega)
              have hx1 : ((128 : Int) == (c : Int)) = false := by simp; omega
              clear HH HFR HFU HCL HCS HES HCN
              go_wp2_with (first
                | (at_builtin
                   refine append_int rfl (.tmp 36) (.tmp 38) rfl w.heap.size rfl (HS.out.keep (alloc_below _ _)).f rfl (by simp; rfl) (by omega) (HS.out.keep (alloc_below _ _)).below.size ?_
                   intro af2 nf2 cf2 wf hnf2 HOf HGf HWf
                   subst hnf2
                   replace HS := hid (Sm.appF (HS.out.keep (alloc_below _ _)) HOf.out HGf.out HWf.out)
                   clear HOf HGf HWf
                   have hcell := HS.out.a1.cell k (by rw [HL.out.len]; omega)
                   rw [HBB.out] at hcell
                   have hcell2 := HS.out.a2.cell k (by rw [cln_len, HL.out.len]; omega)
                   have hfz2 := HS.out.a2.frozen k))
              go_roundg (gk - 1)
              case measure => omega
              case rel => exact ⟨k + 1, _, _, _, _, _, _, _, _, by omega, by go_num, rfl, rfl, rfl, by go_num, by omega, by omega, by omega, HTu, HTe, HS.out.reM HTc.out HTm.out HTf.out rfl⟩
          · by_cases hC : b = 254
            · subst hC
              cases e with
              | true =>
                have HTm : Hid (slots (has l c) (k + 1) = slots (has l c) k) := slots_no (by rw [HH.out]; exact decide_eq_false hm)
                have HTf : Hid (slots (fre l) (k + 1) = slots (fre l) k ++ [k]) := slots_yes (by rw [HFR.out]; exact decide_eq_true (by omega))
                have HTu : Hid ((slots (ful l) (k + 1)).length = cnt) := by show _ = _; rw [slots_no (by rw [HFU.out, decide_eq_true (by omega)]; rfl)]; exact HCN.out
                have HTe : Hid (some? (has l 128) (k + 1) = true) := by show _ = _; rw [HES.out]; simp
                have HTc : Hid (cln l (k + 1) = (cln l k).set k 128) := HCL.out.symm
                have hx1 : ((254 : Int) == (c : Int)) = false := by simp; omega
                clear HH HFR HFU HCL HCS HES HCN
                go_wp2_with (first
                  | (at_builtin
                     refine append_int rfl (.tmp 36) (.tmp 38) rfl w.heap.size rfl (HS.out.keep (alloc_below _ _)).f rfl (by simp; rfl) (by omega) (HS.out.keep (alloc_below _ _)).below.size ?_
                     intro af2 nf2 cf2 wf hnf2 HOf HGf HWf
                     subst hnf2
                     replace HS := hid (Sm.appF (HS.out.keep (alloc_below _ _)) HOf.out HGf.out HWf.out)
                     clear HOf HGf HWf
                     have hcell := HS.out.a1.cell k (by rw [HL.out.len]; omega)
                     rw [HBB.out] at hcell
                     have hcell2 := HS.out.a2.cell k (by rw [cln_len, HL.out.len]; omega)
                     have hfz2 := HS.out.a2.frozen k))
                go_roundg (gk - 1)
                case measure => omega
                case rel => exact ⟨k + 1, _, _, _, _, _, _, _, _, by omega, by go_num, rfl, rfl, rfl, by go_num, by omega, by omega, by omega, HTu, HTe, (HS.out.setC k 128).reM HTc.out HTm.out HTf.out rfl⟩
              | false =>
                have HTm : Hid (slots (has l c) (k + 1) = slots (has l c) k) := slots_no (by rw [HH.out]; exact decide_eq_false hm)
                have HTf : Hid (slots (fre l) (k + 1) = slots (fre l) k ++ [k]) := slots_yes (by rw [HFR.out]; exact decide_eq_true (by omega))
                have HTu : Hid ((slots (ful l) (k + 1)).length = cnt) := by show _ = _; rw [slots_no (by rw [HFU.out, decide_eq_true (by omega)]; rfl)]; exact HCN.out
                have HTe : Hid (some? (has l 128) (k + 1) = false) := by show _ = _; rw [HES.out]; simp
                have HTc : Hid (cln l (k + 1) = (cln l k).set k 128) := HCL.out.symm
                have hx1 : ((254 : Int) == (c : Int)) = false := by simp; omega
                clear HH HFR HFU HCL HCS HES HCN
                go_wp2_with (first
                  | (at_builtin
                     refine append_int rfl (.tmp 36) (.tmp 38) rfl w.heap.size rfl (HS.out.keep (alloc_below _ _)).f rfl (by simp; rfl) (by omega) (HS.out.keep (alloc_below _ _)).below.size ?_
                     intro af2 nf2 cf2 wf hnf2 HOf HGf HWf
                     subst hnf2
                     replace HS := hid (Sm.appF (HS.out.keep (alloc_below _ _)) HOf.out HGf.out HWf.out)
                     clear HOf HGf HWf
                     have hcell := HS.out.a1.cell k (by rw [HL.out.len]; omega)
                     rw [HBB.out] at hcell
                     have hcell2 := HS.out.a2.cell k (by rw [cln_len, HL.out.len]; omega)
                     have hfz2 := HS.out.a2.frozen k))
                go_roundg (gk - 1)
                case measure => omega
                case rel => exact ⟨k + 1, _, _, _, _, _, _, _, _, by omega, by go_num, rfl, rfl, rfl, by go_num, by omega, by omega, by omega, HTu, HTe, (HS.out.setC k 128).reM HTc.out HTm.out HTf.out rfl⟩
            · skip
              cases e with
              | true =>
                have HTm : Hid (slots (has l c) (k + 1) = slots (has l c) k) := slots_no (by rw [HH.out]; exact decide_eq_false hm)
                have HTf : Hid (slots (fre l) (k + 1) = slots (fre l) k ++ [k]) := slots_yes (by rw [HFR.out]; exact decide_eq_true (by omega))
                have HTu : Hid ((slots (ful l) (k + 1)).length = cnt) := by show _ = _; rw [slots_no (by rw [HFU.out, decide_eq_true (by omega)]; rfl)]; exact HCN.out
                have HTe : Hid (some? (has l 128) (k + 1) = true) := by show _ = _; rw [HES.out]; simp
                have HTc : Hid (cln l (k + 1) = cln l k) := HCS.out (by omega)
                have hx1 : ((b : Int) == (c : Int)) = false := by simp; omega
                have hx2 : ((b : Int) == 128) = false := by simp; omega
                have hx3 : ((b : Int) == 254) = false := by simp; omega
                clear HH HFR HFU HCL HCS HES HCN
                go_wp2_with (first
                  | (at_builtin
                     refine append_int rfl (.tmp 36) (.tmp 38) rfl w.heap.size rfl (HS.out.keep (alloc_below _ _)).f rfl (by simp; rfl) (by omega) (HS.out.keep (alloc_below _ _)).below.size ?_
                     intro af2 nf2 cf2 wf hnf2 HOf HGf HWf
                     subst hnf2
                     replace HS := hid (Sm.appF (HS.out.keep (alloc_below _ _)) HOf.out HGf.out HWf.out)
                     clear HOf HGf HWf
                     have hcell := HS.out.a1.cell k (by rw [HL.out.len]; omega)
                     rw [HBB.out] at hcell
                     have hcell2 := HS.out.a2.cell k (by rw [cln_len, HL.out.len]; omega)
                     have hfz2 := HS.out.a2.frozen k))
                go_roundg (gk - 1)
                case measure => omega
                case rel => exact ⟨k + 1, _, _, _, _, _, _, _, _, by omega, by go_num, rfl, rfl, rfl, by go_num, by omega, by omega, by omega, HTu, HTe, HS.out.reM HTc.out HTm.out HTf.out rfl⟩
              | false =>
                have HTm : Hid (slots (has l c) (k + 1) = slots (has l c) k) := slots_no (by rw [HH.out]; exact decide_eq_false hm)
                have HTf : Hid (slots (fre l) (k + 1) = slots (fre l) k ++ [k]) := slots_yes (by rw [HFR.out]; exact decide_eq_true (by omega))
                have HTu : Hid ((slots (ful l) (k + 1)).length = cnt) := by show _ = _; rw [slots_no (by rw [HFU.out, decide_eq_true (by omega)]; rfl)]; exact HCN.out
                have HTe : Hid (some? (has l 128) (k + 1) = false) := by show _ = _; rw [HES.out]; simp; omega
                have HTc : Hid (cln l (k + 1) = cln l k) := HCS.out (by omega)
                have hx1 : ((b : Int) == (c : Int)) = false := by simp; omega
                have hx2 : ((b : Int) == 128) = false := by simp; omega
                have hx3 : ((b : Int) == 254) = false := by simp; omega
                clear HH HFR HFU HCL HCS HES HCN
                go_wp2_with (first
                  | (at_builtin
                     refine append_int rfl (.tmp 36) (.tmp 38) rfl w.heap.size rfl (HS.out.keep (alloc_below _ _)).f rfl (by simp; rfl) (by omega) (HS.out.keep (alloc_below _ _)).below.size ?_
                     intro af2 nf2 cf2 wf hnf2 HOf HGf HWf
                     subst hnf2
                     replace HS := hid (Sm.appF (HS.out.keep (alloc_below _ _)) HOf.out HGf.out HWf.out)
                     clear HOf HGf HWf
                     have hcell := HS.out.a1.cell k (by rw [HL.out.len]; omega)
                     rw [HBB.out] at hcell
                     have hcell2 := HS.out.a2.cell k (by rw [cln_len, HL.out.len]; omega)
                     have hfz2 := HS.out.a2.frozen k))
                go_roundg (gk - 1)
                case measure => omega
                case rel => exact ⟨k + 1, _, _, _, _, _, _, _, _, by omega, by go_num, rfl, rfl, rfl, by go_num, by omega, by omega, by omega, HTu, HTe, HS.out.reM HTc.out HTm.out HTf.out rfl⟩
    · obtain rfl : k = 8 := by omega
      rw [HEM.out] at HE
      rw [HCN.out] at HC
      have HOC := cln_ok HL.out 8
      have HWc := fun w => word_any HOC w
      generalize cln l 8 = cl8 at HK HS HOC HWc
      obtain ⟨c0, c1, c2, c3, c4, c5, c6, c7, hcl⟩ := HOC.eight
      subst hcl
      obtain ⟨nk, hnk⟩ : ∃ nk, val [c0, c1, c2, c3, c4, c5, c6, c7] = nk := ⟨_, rfl⟩
      rw [hnk] at HK HWc
      replace HWc : ∀ w, Calls Try.prog 11 #[.agg #[.int .u8 (c0 : Nat), .int .u8 (c1 : Nat), .int .u8 (c2 : Nat), .int .u8 (c3 : Nat), .int .u8 (c4 : Nat), .int .u8 (c5 : Nat), .int .u8 (c6 : Nat), .int .u8 (c7 : Nat)]] w fun e w' => e = .returned (.int .u64 (nk : Nat)) ∧ Below w.heap.size w w' := HWc
      clear hnk HOC hcnt HEM HCN hk h8
      obtain ⟨g3, hg3⟩ : ∃ g3, wr.heap.size = g3 := ⟨_, rfl⟩
      obtain ⟨w5, hw5⟩ : ∃ w5, wr.alloc (.cells #[.int .u8 0, .int .u8 0, .int .u8 0, .int .u8 0, .int .u8 0, .int .u8 0, .int .u8 0, .int .u8 0] 28) = w5 := ⟨_, rfl⟩
      have HA5 : Hid (Arr w5 g3 zeros) := by show Arr _ _ _; rw [← hw5, ← hg3, ← HVA.out]; exact Arr.made wr zeros
      have HS5 : Hid (Sm w w5 g1 g2 l [c0, c1, c2, c3, c4, c5, c6, c7] am nm cm (slots (has l c) 8) af nf cf (slots (fre l) 8)) := by show Sm _ _ _ _ _ _ _ _ _ _ _ _ _ _; rw [← hw5]; exact HS.out.keep (alloc_below _ _)
      have HG3 : Hid (w.heap.size ≤ g3 ∧ g1 < g3 ∧ g2 < g3) := by show _ ∧ _; rw [← hg3]; exact ⟨HS.out.below.size, HS.out.a1.lt, HS.out.a2.lt⟩
      generalize slots (has l c) 8 = sm at HM HS HS5
      generalize slots (fre l) 8 = sf at HF HS HS5
      go_upto_region 19 with (first
        | (refine load_arr rfl (.tmp 7) rfl rfl HS.out.a1 HL.out.len ?_
           simp only [Act.put, List.setIfInBounds_toArray, List.set_cons_succ, List.set_cons_zero])
        | (refine store_arr rfl (.tmp 15) (.tmp 55) rfl rfl rfl HA5.out rfl HL.out.len ?_
           intro w6 HA6 HG6
           have HFn0 : Hid (Fin3 w w6 g2 g3 [c0, c1, c2, c3, c4, c5, c6, c7] l am nm cm sm af nf cf sf) := ⟨HS5.out.below.grown HG6.out (by have h1 := HA5.out.lt; have h2 := HG3.out.1; omega) (fun q hq => by cases hq; exact HG3.out.1), HS5.out.a2.kept HG6.out (by intro e; cases e; exact Nat.lt_irrefl _ HG3.out.2.2), HA6.out, HS5.out.m.kept HG6.out (fun g e e' => HA5.out.ne_row HS5.out.m (by rw [e]; cases e'; rfl)), HS5.out.f.kept HG6.out (fun g e e' => HA5.out.ne_row HS5.out.f (by rw [e]; cases e'; rfl))⟩
           have HA61 : Hid (Arr w6 g1 l) := HS5.out.a1.kept HG6.out (by intro e; cases e; exact Nat.lt_irrefl _ HG3.out.2.1)
           clear HG6 HA6 HS5 HA5 hw5 hg3 HS
           simp only [Act.put]))
      go_cut [61] from 56 to 61 (fun v wx => v = .bool (decide (0 ≤ i ∧ i < 8)) ∧ wx = w6)
      case first =>
        by_cases h0 : 0 ≤ i
        · by_cases h1 : i < 8
          · go_wp2
            go_meet
            exact ⟨by rw [decide_eq_true ⟨h0, h1⟩], rfl⟩
          · have h1' : 8 ≤ i := by omega
            go_wp2
            go_meet
            exact ⟨by simp; omega, rfl⟩
        · have h0' : i < 0 := by omega
          go_wp2
          go_meet
          exact ⟨by simp; omega, rfl⟩
      case rest =>
      obtain ⟨rfl, rfl⟩ := hcut
      go_upto_if 61 with fail
      go_cut [14, 61] from 62 to 67 (fun atv tv wy => ∃ (av ns s0 s1 s2 s3 s4 s5 s6 s7 : Nat), atv = .int .u8 av ∧ Hid (∀ w, Calls Try.prog 15 #[.int .u64 n, .int .i64 i] w fun e w' => e = .returned (.int .u8 (av : Nat)) ∧ w' = w) ∧
        Hid (∀ w, Calls Try.prog 9 #[.int .u64 n, .int .i64 i, .int .u8 c] w fun e w' => e = .returned (.int .u64 (ns : Nat)) ∧ Below w.heap.size w w') ∧
        Hid (∀ w, Calls Try.prog 11 #[.agg #[.int .u8 (s0 : Nat), .int .u8 (s1 : Nat), .int .u8 (s2 : Nat), .int .u8 (s3 : Nat), .int .u8 (s4 : Nat), .int .u8 (s5 : Nat), .int .u8 (s6 : Nat), .int .u8 (s7 : Nat)]] w fun e w' => e = .returned (.int .u64 (ns : Nat)) ∧ Below w.heap.size w w') ∧
        Hid (Fin3 w wy g2 g3 [c0, c1, c2, c3, c4, c5, c6, c7] [s0, s1, s2, s3, s4, s5, s6, s7] am nm cm sm af nf cf sf))
      case first =>
        by_cases hin : 0 ≤ i ∧ i < 8
        · rw [decide_eq_true hin]
          obtain ⟨hi0, hi1⟩ := hin
          obtain ⟨k, rfl⟩ : ∃ k : Nat, i = (k : Int) := ⟨i.toNat, by omega⟩
          have hk8 : k < 8 := by omega
          have hkl : k < l.length := by rw [HL.out.len]; exact hk8
          have HAt := hid (HAin k hk8)
          have HSt := hid (HSin k hk8)
          have HOS := HL.out.set k hc
          have HWs := hid (fun w => word_any HOS w)
          have hbc := HA61.out.cell k hkl
          have hfz := HFn0.out.a3.frozen k
          have hsc := HFn0.out.a3.cell k hkl
          have HFn := hid (HFn0.out.set k c HG3.out.1 (by have := HG3.out.2.2; omega))
          generalize l.getD k 0 = av at HAt hbc hsc
          generalize l.set k c = sl at HSt HOS HWs HFn
          obtain ⟨s0, s1, s2, s3, s4, s5, s6, s7, hs8⟩ := HOS.eight
          subst hs8
          clear HOS HAin HSin HAno HSno HM HF HE HC HK HWc
          go_wp2
          go_meet
          exact ⟨av, _, s0, s1, s2, s3, s4, s5, s6, s7, rfl, HAt, HSt, HWs, HFn⟩
        · rw [decide_eq_false hin]
          have hout : i < 0 ∨ 8 ≤ i := by omega
          have HAt := hid (HAno hout)
          have HSt := hid (fun wz => (HSno hout wz).mono fun e wy h => (⟨h.1, by rw [h.2]; exact Below.refl _ _⟩ : e = .returned (.int .u64 (n : Nat)) ∧ Below wz.heap.size wz wy))
          have HWs := hid (fun w => word_any HL.out w)
          rw [HN.out] at HWs
          obtain ⟨s0, s1, s2, s3, s4, s5, s6, s7, hs8⟩ := HL.out.eight
          rw [hs8] at HWs HFn0
          clear hs8 HAin HSin HAno HSno HM HF HE HC HK HWc
          go_wp2
          go_meet
          exact ⟨128, _, s0, s1, s2, s3, s4, s5, s6, s7, rfl, HAt, HSt, HWs, HFn0⟩
      case rest =>
      obtain ⟨av, ns, s0, s1, s2, s3, s4, s5, s6, s7, rfl, HAt0, HSt0, HWs0, HFn⟩ := hcut
      have HAt := HAt0.out
      have HSt := HSt0.out
      have HWs := HWs0.out
      clear HAt0 HSt0 HWs0 HAin HSin HAno HSno HA61 HFn0
      go_upto_region 22 with fail
      have HD : Hid (Below wc.heap.size wc wc.drew) := below_drewN wc 1
      go_region_held3 (fun w' => w'.cell? ⟨g3, 0, none⟩ = some (.int .u8 (s0 : Nat)) ∧ w'.cell? ⟨g3, 1, none⟩ = some (.int .u8 (s1 : Nat)) ∧ w'.cell? ⟨g3, 2, none⟩ = some (.int .u8 (s2 : Nat)) ∧ w'.cell? ⟨g3, 3, none⟩ = some (.int .u8 (s3 : Nat)) ∧ w'.cell? ⟨g3, 4, none⟩ = some (.int .u8 (s4 : Nat)) ∧ w'.cell? ⟨g3, 5, none⟩ = some (.int .u8 (s5 : Nat)) ∧ w'.cell? ⟨g3, 6, none⟩ = some (.int .u8 (s6 : Nat)) ∧ w'.cell? ⟨g3, 7, none⟩ = some (.int .u8 (s7 : Nat)) ∧ w'.cell? ⟨g2, 0, none⟩ = some (.int .u8 (c0 : Nat)) ∧ w'.cell? ⟨g2, 1, none⟩ = some (.int .u8 (c1 : Nat)) ∧ w'.cell? ⟨g2, 2, none⟩ = some (.int .u8 (c2 : Nat)) ∧ w'.cell? ⟨g2, 3, none⟩ = some (.int .u8 (c3 : Nat)) ∧ w'.cell? ⟨g2, 4, none⟩ = some (.int .u8 (c4 : Nat)) ∧ w'.cell? ⟨g2, 5, none⟩ = some (.int .u8 (c5 : Nat)) ∧ w'.cell? ⟨g2, 6, none⟩ = some (.int .u8 (c6 : Nat)) ∧ w'.cell? ⟨g2, 7, none⟩ = some (.int .u8 (c7 : Nat))) (exact (HFn.out.keep HD.out).cells) (first
        | (go_at_call 15; refine (HAt _).mono ?_; rintro e wx ⟨rfl, rfl⟩)
        | (go_at_call 9; refine (HSt _).mono ?_; rintro e wx ⟨rfl, hb⟩; replace HD := step_below HD hb; clear hb)
        | (go_at_call 11; refine (HWs _).mono ?_; rintro e wx ⟨rfl, hb⟩; replace HD := step_below HD hb; clear hb; clear HWs)
        | (go_at_call 11; refine (HWc _).mono ?_; rintro e wx ⟨rfl, hb⟩; replace HD := step_below HD hb; clear hb)
        | (go_at_call 19; refine (HM _).mono ?_; rintro e wx ⟨hb, a9, n9, c9, rfl, hO⟩; replace HD := step_below HD hb; have hn9 : n9 = nm := hO.len.symm.trans HFn.out.m.len; subst hn9; have HR1 := hid hO.rd; have HR2 := hid (HFn.out.keep HD.out).m.rd; clear hb hO)
        | (go_at_call 18; refine (HF _).mono ?_; rintro e wx ⟨hb, a9, n9, c9, rfl, hO⟩; replace HD := step_below HD hb; have hn9 : n9 = nf := hO.len.symm.trans HFn.out.f.len; subst hn9; have HR1 := hid hO.rd; have HR2 := hid (HFn.out.keep HD.out).f.rd; clear hb hO)
        | (go_at_call 20; refine (Same_any _ _ _ _ _ _ _ HR1.out HR2.out).mono ?_; rintro e wx ⟨rfl, hb⟩; replace HD := step_below HD hb; clear hb HR1 HR2)
        | (go_at_call 22; refine (HE _).mono ?_; rintro e wx ⟨rfl, rfl⟩)
        | (go_at_call 17; refine (HC _).mono ?_; rintro e wx ⟨rfl, rfl⟩)
        | (go_at_call 16; refine (HK _).mono ?_; rintro e wx ⟨rfl, hb⟩; replace HD := step_below HD hb; clear hb))
      all_goals (go_wp2; go_ret; exact ⟨rfl, HFn.out.below.trans (HD.out.mono HFn.out.below.size)⟩)
end Go.Proofs.Ytmhpaoclbkjohaa
