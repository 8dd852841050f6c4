/- Texts that the others stand on. -/
import Derived.Test.YtnajhjmdpaeelaaGreatDoorG30
import Derived.Deep.CutRange
import Derived.BigQuiet
import Derived.Test.YtnajhjmdpaeelaaGreatDoorG29
import Derived.Test.YtnajhjmdpaeelaaGreatDoorG23
namespace Go.Proofs.YtnajhjmdpaeelaaGreatDoor.Sq
open Go.RowKit Go.PlainAid
open Dk (ptr below_drewN alloc_below step_below add_flat OwnR OwnP OwnS Mv pcells Elt elt_of)
open Cy (RdS low)
section
variable {w w' : World} {U : Own} {s x : Nat} {NM : List ByteArray} {t : Int} {A : Ab} {M M' : AbT} {V V' : ByteArray → Int} {c : Nat} {nm : ByteArray} {a : Option Addr} {n m : Nat} {ls : List ByteArray}
/-- A new variable of a reply, and what is laid into it. -/
theorem newR2 (w2 : World) (r : Rp) : ∃ w3, w2.alloc (.cells #[.int .i64 0, .string ⟨#[]⟩, .int .i64 0, .slice none 0 0] 39) = w3 ∧ VarR w3 w2.heap.size Rp.z ∧ ∃ w4, (((w3.setCell ⟨w2.heap.size, 0, none⟩ (.int .i64 r.kd)).setCell ⟨w2.heap.size, 1, none⟩ (.string r.s)).setCell ⟨w2.heap.size, 2, none⟩ (.int .i64 r.n)).setCell ⟨w2.heap.size, 3, none⟩ (.slice r.a r.m r.c) = w4 ∧ VarR w4 w2.heap.size r ∧ Below w2.heap.size w2 w4 :=
  ⟨_, rfl, heap_alloc_new w2 _, _, rfl, (VarR.new w2).set r, ((((alloc_below w2 _).setCell (Nat.le_refl _) _).setCell (Nat.le_refl _) _).setCell (Nat.le_refl _) _).setCell (Nat.le_refl _) _⟩
/-- A new variable of options, and what is laid into it. -/
theorem newO (w2 : World) (o : Opt) : ∃ w3, w2.alloc (.cells #[.string noB, .string noB, .string noB, .string noB] 178) = w3 ∧ (VarO w3 w2.heap.size Opt.z) ∧ ∃ w4, (((w3.setCell ⟨w2.heap.size, 0, none⟩ (.string o.only)).setCell ⟨w2.heap.size, 1, none⟩ (.string o.get)).setCell ⟨w2.heap.size, 2, none⟩ (.string o.unt)).setCell ⟨w2.heap.size, 3, none⟩ (.string o.wait) = w4 ∧ Hid (VarO w4 w2.heap.size o) ∧ Hid (Below w2.heap.size w2 w4) :=
  ⟨_, rfl, heap_alloc_new w2 _, _, rfl, (show VarO (w2.alloc (.cells Opt.z.cs 178)) w2.heap.size Opt.z from heap_alloc_new w2 _).set o, ((((alloc_below w2 _).setCell (Nat.le_refl _) _).setCell (Nat.le_refl _) _).setCell (Nat.le_refl _) _).setCell (Nat.le_refl _) _⟩
theorem rdO_wait : ∀ (r : List ByteArray) (o : Opt) (B : Nat), (∀ k ∈ r, k.size ≤ B) → o.wait.size ≤ B → ∀ o', rdO r o = some o' → o'.wait.size ≤ B := by
  intro r
  induction hr : r.length using Nat.strongRecOn generalizing r with
  | ind N ih =>
    intro o B h1 h2 o' h3
    cases r with
    | nil => rw [rdO.eq_def] at h3; cases h3; exact h2
    | cons p r =>
      have hlt : r.length < N := by rw [← hr]; simp
      have hr1 : ∀ k ∈ r, k.size ≤ B := fun k hk => h1 k (List.mem_cons_of_mem _ hk)
      rw [rdO.eq_def] at h3
      simp only at h3
      split at h3
      · split at h3
        · exact ih _ hlt r rfl { o with only := low p } B hr1 h2 o' h3
        · cases h3
      · split at h3
        · split at h3
          · exact ih _ hlt r rfl { o with get := low p } B hr1 h2 o' h3
          · cases h3
        · split at h3
          · cases r with
            | nil => cases h3
            | cons q r' =>
              simp only at h3
              split at h3
              · exact ih _ (by rw [← hr]; simp; omega) r' rfl { o with unt := low p, wait := q } B (fun k hk => hr1 k (List.mem_cons_of_mem _ hk)) (hr1 q (by simp)) o' h3
              · cases h3
          · split at h3
            · split at h3
              · exact ih _ hlt r rfl { o with unt := low p } B hr1 h2 o' h3
              · cases h3
            · cases h3
theorem exp_put {k : ByteArray} {d : Kt} {u : Int} (h : t < u) : expA (setA M k (some (d, none))) k u t = setA M k (some (d, some u)) := by
  unfold expA
  rw [setA_at]
  simp only [if_neg (Int.not_le.2 h)]
  exact setA_twice _ _ _ _
theorem chg_put {k : ByteArray} {d : Kt} : chgV (setA M k (some (d, none))) (incV V k) k = incV (incV V k) k := by
  unfold chgV
  rw [setA_at]
  rfl
section
variable {o : Opt} {k : ByteArray}
theorem setP_bad (h : rdO (ls.drop 3) Opt.z = none) : setP M V t ls = (An.no 1, M, V) := by
  unfold setP
  simp only [h]
theorem setP_time (h : rdO (ls.drop 3) Opt.z = some o) (hk : ls.getD 1 noB = k) (h1 : ¬ (timeP o (endOf (M k)) t).1 = 0) : setP M V t ls = (An.no (timeP o (endOf (M k)) t).1, M, V) := by
  unfold setP
  simp only [h, hk]
  exact if_pos h1
theorem setP_get (h : rdO (ls.drop 3) Opt.z = some o) (hk : ls.getD 1 noB = k) (h1 : (timeP o (endOf (M k)) t).1 = 0) (h2 : ¬ o.get = noB) (h3 : ¬ (getP (M k)).code = 0) : setP M V t ls = (An.no 4, M, V) := by
  unfold setP
  simp only [h, hk]
  exact (if_neg (fun h => h h1)).trans (if_pos ⟨h2, h3⟩)
theorem setP_rest (h : rdO (ls.drop 3) Opt.z = some o) (hk : ls.getD 1 noB = k) (h1 : (timeP o (endOf (M k)) t).1 = 0) (h2 : o.get = noB ∨ (getP (M k)).code = 0) : setP M V t ls = if ¬ o.only = noB ∧ ((M k).isSome != decide (o.only = xxB)) = true then (if o.get = noB then An.nul else getP (M k), M, V)
    else setE (timeP o (endOf (M k)) t).2 (if o.get = noB then An.ok else getP (M k)) M V k (ls.getD 2 noB) := by
  unfold setP
  simp only [h, hk]
  refine (if_neg (fun h => h h1)).trans (if_neg ?_)
  rintro ⟨h3, h4⟩
  rcases h2 with h2 | h2
  · exact h3 h2
  · exact h4 h2
end
set_option maxRecDepth 100000 in
set_option maxHeartbeats 4000000 in
theorem set_any (hC : Ctx w U s x NM t M V c nm a n m ls) (hv : Vle V 900000) (hN : ∀ k ∈ ls, k.size ≤ 4096) (h2 : 2 < n) (hnm : n ≤ m) (hn : n ≤ 300) (ht : Tx.Int64 t) (hk : ls.getD 1 noB ∈ NM) (h0 : ∀ ad, a = some ad → ad.block < w.heap.size) :
    Calls Tryz.prog 56 #[ptr c] w fun e w' => Says w' nm (setP M V t ls).1 e ∧ Behind w w' U s x NM t (setP M V t ls).2.1 (setP M V t ls).2.2 := by
  obtain ⟨w1, hal, HV1, HM1, HC1⟩ := hC.newR
  have hlen := hC.ars.rd.len
  have HN2 : Hid ((∀ ad, a = some ad → ad.block < w.heap.size) ∧ 0 < w.heap.size) := ⟨h0, lt_of_cell? hC.laid⟩
  obtain ⟨b0, off, rfl, -⟩ := hC.word (j := 1) (by omega)
  obtain ⟨o3, hsl, hrd⟩ := slice_strs b0 off n m 3 (by omega) hnm ls
  have HRO := readOptions_any (some ⟨b0, o3, none⟩) (n - 3) (m - 3) (ls.drop 3) w1 (hrd w1 HC1.out.ars.rd) (fun k hk => by have := hN k (List.mem_of_mem_drop hk); unfold maxLen; omega) (by omega)
  have HWd : Hid (∀ wx, Ctx wx U s x NM t M V c nm (some ⟨b0, off, none⟩) n m ls → wx.cell? ⟨b0, off + 1, none⟩ = some (.string (ls.getD 1 noB)) ∧ wx.cell? ⟨b0, off + 2, none⟩ = some (.string (ls.getD 2 noB))) := fun wx h => by
    obtain ⟨b1, o1, e1, h1⟩ := h.word (j := 1) (by omega)
    obtain ⟨b2, o2, e2, h3⟩ := h.word (j := 2) (by omega)
    cases e1
    cases e2
    exact ⟨h1, h3⟩
  have hks : (ls.getD 1 noB).size ≤ 4096 := by
    rw [List.getD_eq_getElem?_getD, List.getElem?_eq_getElem (by omega)]
    exact hN _ (List.getElem_mem _)
  have hwt : ∀ o, rdO (ls.drop 3) Opt.z = some o → o.wait.size ≤ 4096 := fun o ho => rdO_wait _ _ 4096 (fun k hk => hN k (List.mem_of_mem_drop hk)) (by decide) o ho
  obtain ⟨k, hkk⟩ : ∃ k, ls.getD 1 noB = k := ⟨_, rfl⟩
  obtain ⟨tx, htx⟩ : ∃ tx, ls.getD 2 noB = tx := ⟨_, rfl⟩
  have HKS : Hid (k ∈ NM ∧ k.size ≤ 4096) := by rw [← hkk]; exact ⟨hk, hks⟩
  rw [hkk, htx] at HWd
  have hn3 : (3 : Int) ≤ n := by omega
  have hn63 : (n : Int) ≤ 300 := by omega
  obtain ⟨d1, d2⟩ := HWd.out w1 HC1.out
  have c3 := HC1.out.cll.c3
  replace hsl : ∀ wx, (Instr.sliceAt 30 (.slice (some ⟨b0, off, none⟩) n m) (some (.int .i64 3)) none none).run Tryz.prog wx = .ok (.slice (some ⟨b0, o3, none⟩) (n - 3) (m - 3)) wx := hsl
  have HVl : Hid (Vle V 900000) := hv
  cases hR : rdO (ls.drop 3) Opt.z with
  | none =>
    rw [hR] at HRO
    have HQ : Hid (setP M V t ls = (An.no 1, M, V)) := setP_bad hR
    replace HRO : Calls Tryz.prog 94 #[.slice (some ⟨b0, o3, none⟩) (n - 3) (m - 3)] w1 fun e w' => e = .returned (.tuple #[Opt.z.v, .bool false]) ∧ Below w1.heap.size w1 w' := HRO
    clear hC hR hwt hks hk hlen h0 hrd hN hv hkk htx
    go_enter Tryz.func56, Tryz.ntmps56
    go_wp2_with (go_at_call 94; first | rw [hal] | skip; refine HRO.mono ?_; rintro e w2 ⟨rfl, hb2⟩; obtain ⟨w3, hw3, hv3, w4, hw4, hvo4, hb4⟩ := newO w2 Opt.z; obtain ⟨y0, y1, y2, y3⟩ := hv3.cells; have yf := hv3.free; have HC4 : Hid (Ctx w4 U s x NM t M V c nm (some ⟨b0, off, none⟩) n m ls) := (HC1.out.keep hb2).keep hb4.out; have HV4 : Hid (VarR w4 w.heap.size Rp.z) := (HV1.out.mv (Mv.of_below hb2)).mv (Mv.of_below hb4.out); have HM4 : Hid (Mb vtag U w w4) := (HM1.out.trans (Mb.of_below hb2)).trans (Mb.of_below hb4.out); have HRf := refuse_any 1 (by decide) w4 HC4.out.cll; simp only [Opt.v, Opt.z] at hw3 hw4 y0 y1 y2 y3 ⊢; clear hb2 hb4 hvo4 hv3)
    refine HRf.mono ?_
    rintro e w5 ⟨hb5, E, rfl, hF5⟩
    obtain ⟨b, rfl, -⟩ := hF5.ex
    have hv5 := HV4.out.mv (Mv.of_below hb5)
    have HV5 : Hid _ := hv5.set Rp.z
    have HE : Hid _ := Behind.bad (nm := nm) ⟨HM4.out.trans (Mb.of_below hb5), HC4.out.seen.keep hb5⟩ hv5 (show ¬ (1 : Int) = 0 by decide) hF5
    obtain ⟨z0, z1, z2, z3⟩ := hv5.cells
    have fz := hv5.free
    simp only [Rp.z] at z0 z1 z2 z3
    simp only [Rp.v, Rp.z]
    clear hb5 hF5 hv5 HRf
    go_wp2
    exact ret_E (r := Rp.z) (x := .iface 170 (.pointer (some ⟨b, 0, none⟩))) rfl rfl rfl HV5.out (by rw [HQ.out]; exact HE.out)
  | some o =>
    rw [hR] at HRO
    replace HRO : Calls Tryz.prog 94 #[.slice (some ⟨b0, o3, none⟩) (n - 3) (m - 3)] w1 fun e w' => e = .returned (.tuple #[o.v, .bool true]) ∧ Below w1.heap.size w1 w' := HRO
    have hwo := hwt o hR
    have HX := fun (wx : World) (h : Ctx wx U s x NM t M V c nm (some ⟨b0, off, none⟩) n m ls) => expiry_any h (HVl.out.low (by decide)) ht k (by have := HKS.out.2; unfold maxLen; omega) o (by unfold maxLen; omega)
    have HRd : Hid (rdO (ls.drop 3) Opt.z = some o ∧ ls.getD 1 noB = k ∧ ls.getD 2 noB = tx) := ⟨hR, hkk, htx⟩
    obtain ⟨q, hq⟩ : ∃ q, timeP o (endOf (M k)) t = q := ⟨_, rfl⟩
    rw [hq] at HX
    have HQq : Hid (timeP o (endOf (M k)) t = q) := hq
    obtain ⟨on, ge, un, wa⟩ := o
    obtain ⟨qc, qu⟩ := q
    by_cases h1 : qc = 0
    · subst h1
      replace HX : ∀ wx, Ctx wx U s x NM t M V c nm (some ⟨b0, off, none⟩) n m ls → Calls Tryz.prog 95 #[ptr c, .string k, .agg #[.string on, .string ge, .string un, .string wa]] wx fun e w' => e = .returned (.tuple #[.int .i64 (qu.getD 0), .bool qu.isSome, .nilIface]) ∧ Mb vtag U wx w' ∧ Seen w' U s x NM t M V := fun wx h => (HX wx h).mono (by
        rintro e w' ⟨h1 | h1, h3⟩
        · exact ⟨h1.2, h3⟩
        · exact absurd rfl h1.1)
      have hgc := getP_code (M k)
      obtain ⟨TR, hTR⟩ : ∃ TR, (if ge = noB then An.ok.r else (getP (M k)).r) = TR := ⟨_, rfl⟩
      have HTR : Hid ((if ge = noB then An.ok.r else (getP (M k)).r) = TR) := hTR
      have HGc : Hid ((getP (M k)).code = 0 ∨ getP (M k) = An.no 4) := hgc
      obtain ⟨gb, hgb⟩ : ∃ gb, decide (ge = noB) = gb := ⟨_, rfl⟩
      have hge : (ge.toList == []) = gb := by rw [← hgb]; exact Cy.eq_lit _ _
      have hge2 : ge.toList.isEmpty = gb := by
        rw [← hge]
        cases ge.toList <;> rfl
      have HGB : Hid (decide (ge = noB) = gb) := hgb
      have HQr : Hid _ := fun h => setP_rest (M := M) (V := V) (t := t) hR hkk (by rw [hq]) h
      rw [hq] at HQr
      have HTL : Hid (∀ u, qu = some u → Still M t → t < u) := fun u hu hM => timeP_lt hM (o := ⟨on, ge, un, wa⟩) (k := k) (by rw [hq]; exact hu)
      have HTX : Hid (ls.getD 2 noB = tx) := htx
      have HQb : Hid (¬ ge = noB → ¬ (getP (M k)).code = 0 → setP M V t ls = (An.no 4, M, V)) := fun h4 h5 => setP_get hR hkk (by rw [hq]) h4 h5
      clear hC hR hwt hks hk hlen h0 hrd hN hv hkk htx hq hwo hgc hTR hgb
      go_enter Tryz.func56, Tryz.ntmps56
      go_upto_if 47 with (first
        | (go_at_call 94; first | rw [hal] | skip; refine HRO.mono ?_; rintro e w2 ⟨rfl, hb2⟩; obtain ⟨w3, hw3, hv3, w4, hw4, hvo4, hb4⟩ := newO w2 ⟨on, ge, un, wa⟩; obtain ⟨y0, y1, y2, y3⟩ := hv3.cells; have yf := hv3.free; obtain ⟨u0, u1, u2, u3⟩ := hvo4.out.cells; have HC4 : Hid (Ctx w4 U s x NM t M V c nm (some ⟨b0, off, none⟩) n m ls) := (HC1.out.keep hb2).keep hb4.out; have HV4 : Hid (VarR w4 w.heap.size Rp.z) := (HV1.out.mv (Mv.of_below hb2)).mv (Mv.of_below hb4.out); have HO4 : Hid (VarO w4 w2.heap.size ⟨on, ge, un, wa⟩ ∧ w.heap.size < w2.heap.size) := ⟨hvo4.out, (HV1.out.mv (Mv.of_below hb2)).lt⟩; have HM4 : Hid (Mb vtag U w w4) := (HM1.out.trans (Mb.of_below hb2)).trans (Mb.of_below hb4.out); simp only [Opt.v, Opt.z] at hw3 hw4 y0 y1 y2 y3 u0 u1 u2 u3 ⊢; clear hb2 hb4 hvo4 hv3)
        | (go_at_call 95; refine (HX _ HC4.out).mono ?_; rintro e w5 ⟨rfl, hm5, hS5⟩; have HC5 : Hid (Ctx w5 U s x NM t M V c nm (some ⟨b0, off, none⟩) n m ls) := HC4.out.step hm5 hS5; have HV5 : Hid (VarR w5 w.heap.size Rp.z) := HV4.out.mv hm5.mv; have HO5 : Hid (VarO w5 w2.heap.size ⟨on, ge, un, wa⟩) := HO4.out.1.mv hm5.mv; have HM5 : Hid (Mb vtag U w w5) := HM4.out.trans hm5; clear hm5 hS5 u0 u1 u2 u3)
        | (go_at_call 96; refine (OK_r w5).mono ?_; rintro e w6 ⟨rfl, hb6⟩; obtain ⟨w7, hw7, hv7, w8, hw8, hv8, hb8⟩ := newR2 w6 An.ok.r; have HSW : Hid (SetW w w8 U s x NM t M V c nm (some ⟨b0, off, none⟩) n m ls w2.heap.size w6.heap.size ⟨on, ge, un, wa⟩ An.ok.r) := ⟨(HC5.out.keep hb6).keep hb8, (HM5.out.trans (Mb.of_below hb6)).trans (Mb.of_below hb8), (HV5.out.mv (Mv.of_below hb6)).mv (Mv.of_below hb8), (HO5.out.mv (Mv.of_below hb6)).mv (Mv.of_below hb8), hv8, ⟨by have := HV5.out.lt; have := hb6.size; omega, by have := HV5.out.lt; have := hb6.size; omega, by have := HO5.out.lt; have := hb6.size; omega⟩, HN2.out⟩; obtain ⟨x0, x1, x2, x3⟩ := hv7.cells; have xf := hv7.free; obtain ⟨u0, u1, u2, u3⟩ := HSW.out.v1.cells; simp only [Rp.z, Rp.v] at hw7 hw8 x0 x1 x2 x3 u0 u1 u2 u3 ⊢; clear hb6 hb8 hv7 hv8))
      go_cut [9] from 48 to 57 (fun _ wx => Hid (SetW w wx U s x NM t M V c nm (some ⟨b0, off, none⟩) n m ls w2.heap.size w6.heap.size ⟨on, ge, un, wa⟩ TR) ∧ Hid (ge = noB ∨ (getP (M k)).code = 0))
      case first =>
        cases gb with
        | true =>
          have HT : Hid (TR = An.ok.r) := by show _ = _; rw [← HTR.out, if_pos (of_decide_eq_true HGB.out)]
          go_wp2
          go_meet
          rw [HT.out]
          exact ⟨HSW, .inl (of_decide_eq_true HGB.out)⟩
        | false =>
          have h4 : ¬ ge = noB := of_decide_eq_false HGB.out
          have HT : Hid (TR = (getP (M k)).r) := by show _ = _; rw [← HTR.out, if_neg h4]
          have HG := get_any HSW.out.ctx (HVl.out.low (by decide)) k (by have := HKS.out.2; unfold maxLen; omega)
          rcases HGc.out with hc | hc
          · obtain ⟨gr, hgr⟩ : ∃ gr, (getP (M k)).r = gr := ⟨_, rfl⟩
            have HG2 : Calls Tryz.prog 55 #[ptr c, .string k] w8 fun e w' => e = .returned (.tuple #[gr.v, .nilIface]) ∧ Mb vtag U w8 w' ∧ Seen w' U s x NM t M V := HG.mono (by
              rintro e w' ⟨h5 | h5, h6⟩
              · exact ⟨by rw [← hgr]; exact h5.2, h6⟩
              · exact absurd hc h5.1)
            rw [hgr] at HT
            have HC0 : Hid ((getP (M k)).code = 0) := hc
            clear h4 hc hgr HG HRO HX
            go_wp2_with (go_at_call 55; refine HG2.mono ?_; rintro e w9 ⟨rfl, hm9, hS9⟩; have hs9 := HSW.out.step hm9 hS9; have HS9 : Hid _ := hs9.told gr; obtain ⟨z0, z1, z2, z3⟩ := hs9.v2.cells; have fz := hs9.v2.free; simp only [Rp.v]; clear hm9 hS9 hs9)
            go_meet
            rw [HT.out]
            exact ⟨HS9, .inr HC0.out⟩
          · have HQ : Hid (setP M V t ls = (An.no 4, M, V)) := HQb.out h4 (by rw [hc]; decide)
            have HG2 : Calls Tryz.prog 55 #[ptr c, .string k] w8 fun e w' => ∃ b, e = .returned (.tuple #[Rp.z.v, .iface 170 (.pointer (some ⟨b, 0, none⟩))]) ∧ Mb vtag U w8 w' ∧ Seen w' U s x NM t M V ∧ Flt w' (.iface 170 (.pointer (some ⟨b, 0, none⟩))) nm 4 := HG.mono (by
              rintro e w' ⟨h5 | ⟨-, b, h5, h7⟩, h6⟩
              · rw [hc] at h5; exact absurd h5.1 (by decide)
              · rw [hc] at h7; exact ⟨b, h5, h6.1, h6.2, h7⟩)
            clear h4 hc HG HRO HX
            go_wp2_with (go_at_call 55; refine HG2.mono ?_; rintro e w9 ⟨b, rfl, hm9, hS9, hF9⟩; have hs9 := HSW.out.step hm9 hS9; have HS9 := hs9.told Rp.z; have hF10 := Flt.set4 hF9 hs9.v2 Rp.z; obtain ⟨z0, z1, z2, z3⟩ := hs9.v2.cells; have fz := hs9.v2.free; obtain ⟨w10, hw10⟩ : ∃ w10, set4 w9 w6.heap.size Rp.z = w10 := ⟨_, rfl⟩; rw [hw10] at HS9 hF10; obtain ⟨t0, t1, t2, t3⟩ := HS9.v0.cells; have tf := HS9.v0.free; have HV : Hid _ := HS9.v0.set Rp.z; have HE : Hid _ := Behind.bad (nm := nm) ⟨HS9.mb, HS9.ctx.seen⟩ HS9.v0 (show ¬ (4 : Int) = 0 by decide) hF10; simp only [set4, Rp.z] at hw10; simp only [Rp.z] at t0 t1 t2 t3; simp only [Rp.v, Rp.z]; clear hm9 hS9 hs9 hF9 hF10 HS9)
            exact ret_E (r := Rp.z) (x := .iface 170 (.pointer (some ⟨b, 0, none⟩))) rfl rfl rfl HV.out (by rw [HQ.out]; exact HE.out)
      case rest =>
        obtain ⟨HSx, HGx⟩ := hcut
        clear HRO HX HC4 HC5 HV4 HV5 HO4 HO5 HM4 HM5 HSW
        obtain ⟨u0, u1, u2, u3⟩ := HSx.out.v1.cells
        simp only at u0 u1 u2 u3
        obtain ⟨ob, hob⟩ : ∃ ob, decide (on = noB) = ob := ⟨_, rfl⟩
        have ho : (on.toList == []) = ob := by rw [← hob]; exact Cy.eq_lit _ _
        have ho2 : on.toList.isEmpty = ob := by
          rw [← ho]
          cases on.toList <;> rfl
        obtain ⟨xb, hxb⟩ : ∃ xb, decide (on = xxB) = xb := ⟨_, rfl⟩
        have hx : (on.toList == [120, 120]) = xb := by rw [← hxb]; exact Cy.eq_lit _ _
        obtain ⟨ib, hib⟩ : ∃ ib, (M k).isSome = ib := ⟨_, rfl⟩
        have HBs : Hid (decide (on = noB) = ob ∧ decide (on = xxB) = xb ∧ (M k).isSome = ib) := ⟨hob, hxb, hib⟩
        clear hob hxb hib
        go_upto_region 13 with fail
        go_cut [69] from 58 to 69 (fun v wx => v = .bool (!ob && (ib != xb)) ∧ Hid (SetW w wx U s x NM t M V c nm (some ⟨b0, off, none⟩) n m ls w2.heap.size w6.heap.size ⟨on, ge, un, wa⟩ TR))
        case first =>
          cases ob with
          | true =>
            go_quiet (fail)
            go_wp2
            go_meet
            exact ⟨rfl, HSx.out.step (Mb.of_below (below_drewN _ _)) (HSx.out.ctx.seen.keep (below_drewN _ _))⟩
          | false =>
            have HSd : Hid (SetW w wc.drew U s x NM t M V c nm (some ⟨b0, off, none⟩) n m ls w2.heap.size w6.heap.size ⟨on, ge, un, wa⟩ TR) := HSx.out.step (Mb.of_below (below_drewN wc 1)) (HSx.out.ctx.seen.keep (below_drewN wc 1))
            have HIs := isThere_any HSd.out.ctx (HVl.out.low (by decide)) k (by have := HKS.out.2; unfold maxLen; omega)
            rw [HBs.out.2.2] at HIs
            clear HBs
            cases ib
            all_goals
              cases xb
              all_goals
                go_region_with (go_at_call 97; refine HIs.mono ?_; rintro e w9 ⟨rfl, hm9, hS9⟩; have HS9 : Hid (SetW w w9 U s x NM t M V c nm (some ⟨b0, off, none⟩) n m ls w2.heap.size w6.heap.size ⟨on, ge, un, wa⟩ TR) := HSd.out.step hm9 hS9; obtain ⟨v0, v1, v2, v3⟩ := HS9.out.v1.cells; simp only at v0 v1 v2 v3; clear hm9 hS9)
                all_goals
                  go_wp2
                  go_meet
                  exact ⟨rfl, HS9⟩
        case rest =>
          obtain ⟨rfl, HSy⟩ := hcut
          clear HSx u0 u1 u2 u3 ho ho2 hx
          have HCn : Hid ((!ob && (ib != xb)) = true ↔ (¬ on = noB ∧ ((M k).isSome != decide (on = xxB)) = true)) := by
            show _ ↔ _
            rw [HBs.out.2.2, HBs.out.2.1, ← HBs.out.1]
            simp
          obtain ⟨cnd, hcnd⟩ : ∃ cnd, (!ob && (ib != xb)) = cnd := ⟨_, rfl⟩
          rw [hcnd] at HCn
          simp only [hcnd]
          clear hcnd
          have HQ0 : Hid (setP M V t ls = if ¬ on = noB ∧ ((M k).isSome != decide (on = xxB)) = true then (if ge = noB then An.nul else getP (M k), M, V) else setE qu (if ge = noB then An.ok else getP (M k)) M V k tx) := by
            have h := HQr.out HGx.out
            rw [HTX.out] at h
            exact h
          have HSay : Hid (∀ (q : An), (q = if ge = noB then An.ok else getP (M k)) → q.code = 0 ∧ q.r = TR) := fun q hq => by
            by_cases hg : ge = noB
            · rw [if_pos hg] at hq
              have h1 := HTR.out
              rw [if_pos hg] at h1
              exact ⟨by rw [hq], by rw [hq, ← h1]⟩
            · rw [if_neg hg] at hq
              have h1 := HTR.out
              rw [if_neg hg] at h1
              exact ⟨by rw [hq]; exact HGx.out.resolve_left hg, by rw [hq, ← h1]⟩
          obtain ⟨v0, v1, v2, v3⟩ := HSy.out.v1.cells
          simp only at v0 v1 v2 v3
          cases cnd with
          | true =>
            have hQ1 : setP M V t ls = (if ge = noB then An.nul else getP (M k), M, V) := by rw [HQ0.out, if_pos (HCn.out.1 rfl)]
            cases gb with
            | true =>
              have HQ : Hid (setP M V t ls = (An.nul, M, V)) := by show _ = _; rw [hQ1, if_pos (of_decide_eq_true HGB.out)]
              clear hQ1
              go_wp2_with (go_at_call 92; refine (null_r wc).mono ?_; rintro e w9 ⟨rfl, hb9⟩; have hs9 := HSy.out.step (Mb.of_below hb9) (HSy.out.ctx.seen.keep hb9); have HSz := hs9.told An.nul.r; obtain ⟨z0, z1, z2, z3⟩ := hs9.v2.cells; have fz := hs9.v2.free; obtain ⟨w10, hw10⟩ : ∃ w10, set4 w9 w6.heap.size An.nul.r = w10 := ⟨_, rfl⟩; rw [hw10] at HSz; obtain ⟨t0, t1, t2, t3⟩ := HSz.v0.cells; have tf := HSz.v0.free; obtain ⟨s0, s1, s2, s3⟩ := HSz.v2.cells; have HV : Hid _ := HSz.v0.set An.nul.r; have HE : Hid _ := Behind.fin (nm := nm) ⟨HSz.mb, HSz.ctx.seen⟩ HSz.v0 An.nul rfl; simp only [set4] at hw10; simp only [Rp.z] at t0 t1 t2 t3; simp only [Rp.v]; clear hb9 hs9 HSz)
              exact ret_E (r := An.nul.r) (x := .nilIface) rfl rfl rfl HV.out (by rw [HQ.out]; exact HE.out)
            | false =>
              have hg : ¬ ge = noB := of_decide_eq_false HGB.out
              have HQ : Hid (setP M V t ls = (getP (M k), M, V)) := by show _ = _; rw [hQ1, if_neg hg]
              obtain ⟨q1, q2⟩ := HSay.out (getP (M k)) (if_neg hg).symm
              obtain ⟨t0, t1, t2, t3⟩ := HSy.out.v0.cells
              have tf := HSy.out.v0.free
              obtain ⟨s0, s1, s2, s3⟩ := HSy.out.v2.cells
              have HV : Hid _ := HSy.out.v0.set TR
              have HE : Hid _ := Behind.fin (nm := nm) ⟨HSy.out.mb, HSy.out.ctx.seen⟩ HSy.out.v0 (getP (M k)) q1
              rw [q2] at HE
              simp only [Rp.z] at t0 t1 t2 t3
              clear hQ1 hg q1 q2
              go_wp2
              exact ret_E (r := TR) (x := .nilIface) rfl rfl rfl HV.out (by rw [HQ.out]; exact HE.out)
          | false =>
            have hQ1 : setP M V t ls = setE qu (if ge = noB then An.ok else getP (M k)) M V k tx := by
              rw [HQ0.out, if_neg (fun h => by have := HCn.out.2 h; cases this)]
            obtain ⟨q, hq⟩ : ∃ q, (if ge = noB then An.ok else getP (M k)) = q := ⟨_, rfl⟩
            rw [hq] at hQ1
            have HQC : Hid (q.code = 0 ∧ q.r = TR) := HSay.out q hq.symm
            obtain ⟨-, k2⟩ := HWd.out wc HSy.out.ctx
            have k3 := HSy.out.ctx.cll.c3
            have HPu := put_any HSy.out.ctx (HVl.out.low (by decide)) k HKS.out.1 HKS.out.2 tx
            clear hq
            cases qu with
            | none =>
              have HQ : Hid (setP M V t ls = (q, setA M k (some ((1, tx), none)), incV V k)) := hQ1
              clear hQ1
              go_wp2_with (go_at_call 98; refine HPu.mono ?_; rintro e w9 ⟨rfl, hm9, hS9⟩; have HSz := HSy.out.step hm9 hS9; obtain ⟨t0, t1, t2, t3⟩ := HSz.v0.cells; have tf := HSz.v0.free; obtain ⟨s0, s1, s2, s3⟩ := HSz.v2.cells; have HV : Hid _ := HSz.v0.set TR; have HE0 := Behind.fin (nm := nm) ⟨HSz.mb, HSz.ctx.seen⟩ HSz.v0 q HQC.out.1; rw [HQC.out.2] at HE0; have HE : Hid _ := HE0; simp only [Rp.z] at t0 t1 t2 t3; clear hm9 hS9 HSz HE0)
              exact ret_E (r := TR) (x := .nilIface) rfl rfl rfl HV.out (by rw [HQ.out]; exact HE.out)
            | some u =>
              have HQ : Hid (setP M V t ls = (q, setA M k (some ((1, tx), some u)), incV (incV V k) k)) := hQ1
              have HU : Hid (t < u) := HTL.out u rfl HSy.out.ctx.seen.still
              clear hQ1
              go_upto_region 19 with (go_at_call 98; refine HPu.mono ?_; rintro e w9 ⟨rfl, hm9, hS9⟩; have HSz : Hid _ := (HSy.out.step hm9 hS9).step (Mb.of_below (below_drewN w9 1)) (hS9.keep (below_drewN w9 1)); clear hm9 hS9)
              have HSz : Hid (SetW w w9.drew U s x NM t (setA M k (some ((1, tx), none))) (incV V k) c nm (some ⟨b0, off, none⟩) n m ls w2.heap.size w6.heap.size ⟨on, ge, un, wa⟩ TR) := HSz.out
              have HXp := Expire_s HSz.out.ctx.seen ((HVl.out.inc k).low (by decide)) u HU.out k HKS.out.1 HKS.out.2
              rw [exp_put HU.out, chg_put] at HXp
              have c0 := HSz.out.ctx.cll.c0
              have c1 := HSz.out.ctx.cll.c1
              clear HPu k2 k3
              go_region_with (go_at_call 18; refine HXp.mono ?_; rintro e w10 ⟨rfl, hm10, hS10⟩; have hsz := HSz.out.step (Mb.mono hm10 vtag_s) hS10; obtain ⟨t0, t1, t2, t3⟩ := hsz.v0.cells; have tf := hsz.v0.free; obtain ⟨s0, s1, s2, s3⟩ := hsz.v2.cells; have HV : Hid _ := hsz.v0.set TR; have HE0 := Behind.fin (nm := nm) ⟨hsz.mb, hsz.ctx.seen⟩ hsz.v0 q HQC.out.1; rw [HQC.out.2] at HE0; have HE : Hid _ := HE0; simp only [Rp.z] at t0 t1 t2 t3; clear hm10 hS10 hsz HE0)
              all_goals
                go_wp2
                exact ret_E (r := TR) (x := .nilIface) rfl rfl rfl HV.out (by rw [HQ.out]; exact HE.out)
    · have HQ : Hid (setP M V t ls = (An.no qc, M, V)) := by
        show _ = _
        have h3 := setP_time (M := M) (V := V) (t := t) hR hkk (by rw [hq]; exact h1)
        rw [hq] at h3
        exact h3
      have H1 : Hid (¬ qc = 0) := h1
      replace HX : ∀ wx, Ctx wx U s x NM t M V c nm (some ⟨b0, off, none⟩) n m ls → Calls Tryz.prog 95 #[ptr c, .string k, .agg #[.string on, .string ge, .string un, .string wa]] wx fun e w' => ∃ b z r, e = .returned (.tuple #[.int .i64 z, .bool r, .iface 170 (.pointer (some ⟨b, 0, none⟩))]) ∧ Mb vtag U wx w' ∧ Seen w' U s x NM t M V ∧ Flt w' (.iface 170 (.pointer (some ⟨b, 0, none⟩))) nm qc := fun wx h => (HX wx h).mono (by
        rintro e w' ⟨h4 | ⟨-, b, z, r, h4, h5⟩, h3⟩
        · exact absurd h4.1 h1
        · exact ⟨b, z, r, h4, h3.1, h3.2, h5⟩)
      clear hC hR hwt hks hk hlen h0 hrd hN hv hkk htx hq h1 hwo
      go_enter Tryz.func56, Tryz.ntmps56
      go_wp2_with (first
        | (go_at_call 94; first | rw [hal] | skip; refine HRO.mono ?_; rintro e w2 ⟨rfl, hb2⟩; obtain ⟨w3, hw3, hv3, w4, hw4, hvo4, hb4⟩ := newO w2 ⟨on, ge, un, wa⟩; obtain ⟨y0, y1, y2, y3⟩ := hv3.cells; have yf := hv3.free; obtain ⟨u0, u1, u2, u3⟩ := hvo4.out.cells; have HC4 : Hid (Ctx w4 U s x NM t M V c nm (some ⟨b0, off, none⟩) n m ls) := (HC1.out.keep hb2).keep hb4.out; have HV4 : Hid (VarR w4 w.heap.size Rp.z) := (HV1.out.mv (Mv.of_below hb2)).mv (Mv.of_below hb4.out); have HM4 : Hid (Mb vtag U w w4) := (HM1.out.trans (Mb.of_below hb2)).trans (Mb.of_below hb4.out); simp only [Opt.v, Opt.z] at hw3 hw4 y0 y1 y2 y3 u0 u1 u2 u3 ⊢; clear hb2 hb4 hvo4 hv3)
        | (go_at_call 95; refine (HX _ HC4.out).mono ?_; rintro e w5 ⟨b, z, r, rfl, hm5, hS5, hF5⟩; have hv5 := HV4.out.mv hm5.mv; have HV5 : Hid _ := hv5.set Rp.z; have HE : Hid _ := Behind.bad (nm := nm) ⟨HM4.out.trans hm5, hS5⟩ hv5 H1.out hF5; obtain ⟨z0, z1, z2, z3⟩ := hv5.cells; have fz := hv5.free; simp only [Rp.z] at z0 z1 z2 z3; clear hm5 hS5 hF5 hv5))
      exact ret_E (r := Rp.z) (x := .iface 170 (.pointer (some ⟨b, 0, none⟩))) rfl rfl rfl HV5.out (by rw [HQ.out]; exact HE.out)
end
end Go.Proofs.YtnajhjmdpaeelaaGreatDoor.Sq
namespace Go.Proofs.YtnajhjmdpaeelaaGreatDoor.Sq
open Go.RowKit Go.PlainAid
open Dk (ptr below_drewN alloc_below step_below add_flat OwnR OwnP OwnS Mv pcells Elt elt_of)
open Cy (RdS whyP cP nameP)
section
variable {w w' : World} {U : Own} {s x : Nat} {NM : List ByteArray} {t : Int} {A : Ab} {M M' : AbT} {V V' : ByteArray → Int} {c : Nat} {nm : ByteArray} {a : Option Addr} {n m : Nat} {ls : List ByteArray}
theorem Behind.first {w0 w1 w2 : World} (h : Behind w1 w2 U s x NM t M V) (hm : Mb vtag U w0 w1) : Behind w0 w2 U s x NM t M V := ⟨hm.trans h.mb, h.seen⟩
set_option maxRecDepth 100000 in
theorem Do_ok (hS : Seen w U s x NM t M V) (hA : Ars w a n ls) (hL : Laid w) (h0 : ¬ U 0) (d : Nat) (lo hi : Int) (wr : Bool) (hwhy : whyP ls = 0) (hcp : cP ls = ⟨nm, lo, hi, wr, 1⟩) (q : An)
    (hDo : ∀ (wx : World) (c : Nat), Ctx wx U s x NM t M V c nm a n m ls → (∀ ad, a = some ad → ad.block < wx.heap.size) → Calls Tryz.prog 28 #[ptr c] wx fun e w' => Says w' nm q e ∧ Behind wx w' U s x NM t M' V') :
    Calls Tryz.prog 9 #[ptr s, .int .i64 t, .int .u64 d, .slice a n m] w fun e w' => Says w' nm q e ∧ Behind w w' U s x NM t M' V' := by
  obtain ⟨w1, hal⟩ : ∃ w1, w.alloc (.cells #[.int .i64 0, .string ⟨#[]⟩, .int .i64 0, .slice none 0 0] 39) = w1 := ⟨_, rfl⟩
  have hb1 : Below w.heap.size w w1 := by rw [← hal]; exact alloc_below w _
  have HV1 : Hid (VarR w1 w.heap.size Rp.z) := by rw [← hal]; exact VarR.new w
  have HM1 : Hid (Mb vtag U w w1) := Mb.of_below hb1
  have HA1 : Hid (Ars w1 a n ls) := hA.mv (Mv.of_below hb1)
  have HS1 : Hid (Seen w1 U s x NM t M V) := hS.keep hb1
  have HL1 : Hid (Laid w1) := Laid.bel hL (Mb.of_below (p := vtag) hb1).be h0
  have HU0 : Hid (¬ U 0) := h0
  have hq := eqlS_nil
  have HC := Cy.Check_any a n m ls w1 HA1.out.rd
  replace HC : Calls Tryz.prog 26 #[.slice a n m] w1 fun e w' => e = .returned (.tuple #[.agg #[.string nm, .int .i64 lo, .int .i64 hi, .bool wr, .int .i64 1], .nilIface]) ∧ Below w1.heap.size w1 w' := HC.mono (by
    rintro e w' ⟨h1, ⟨-, h2⟩ | ⟨h2, -⟩⟩
    · rw [hcp] at h2; exact ⟨h2, h1⟩
    · exact absurd hwhy h2)
  clear hS hA hL h0 hb1 hwhy hcp
  go_enter Tryz.func9, Tryz.ntmps9
  go_wp2_with (go_at_call 26; first | rw [hal] | skip; refine HC.mono ?_; rintro e w2 ⟨rfl, hb2⟩; obtain ⟨w3, hw3⟩ : ∃ w3, w2.alloc (.cells #[.string nm, .int .i64 lo, .int .i64 hi, .bool wr, .int .i64 1] 87) = w3 := ⟨_, rfl⟩; have hk3 : w3.heap[w2.heap.size]? = some (.cells #[.string nm, .int .i64 lo, .int .i64 hi, .bool wr, .int .i64 1] 87 (0, 0)) := (by rw [← hw3]; exact heap_alloc_new w2 _); have hb3 : Below w2.heap.size w2 w3 := (by rw [← hw3]; exact alloc_below w2 _); obtain ⟨w4, hw4⟩ : ∃ w4, w3.alloc (.cells #[ptr s, .int .i64 t, .string nm, .slice a n m] 92) = w4 := ⟨_, rfl⟩; have hk4 : w4.heap[w3.heap.size]? = some (.cells #[ptr s, .int .i64 t, .string nm, .slice a n m] 92 (0, 0)) := (by rw [← hw4]; exact heap_alloc_new w3 _); have hb4 : Below w3.heap.size w3 w4 := (by rw [← hw4]; exact alloc_below w3 _); have hbA : Below w1.heap.size w1 w4 := hb2.trans ((hb3.trans (hb4.mono hb3.size)).mono hb2.size); have HC4 : Hid (Ctx w4 U s x NM t M V w3.heap.size nm a n m ls) := ⟨HS1.out.keep hbA, ⟨hk4⟩, HA1.out.mv (Mv.of_below hbA), Laid.bel HL1.out (Mb.of_below (p := vtag) hbA).be HU0.out, HU0.out⟩; have HV4 : Hid (VarR w4 w.heap.size Rp.z) := HV1.out.mv (Mv.of_below hbA); have HM4 : Hid (Mb vtag U w w4) := HM1.out.trans (Mb.of_below hbA); have HDo := hDo w4 w3.heap.size HC4.out (fun ad e => by obtain ⟨cs, ty, h1, -⟩ := HC4.out.ars.tg ad e; exact (Array.getElem?_eq_some_iff.1 h1).1); have y0 : w3.cell? ⟨w2.heap.size, 0, none⟩ = some (.string nm) := (by simp [World.cell?, hk3]); have y4 : w3.cell? ⟨w2.heap.size, 4, none⟩ = some (.int .i64 1) := (by simp [World.cell?, hk3]); have t4 : w4.cell? ⟨w2.heap.size, 4, none⟩ = some (.int .i64 1) := (by rw [hb4.cell (p := ⟨w2.heap.size, 4, none⟩) (World.block_lt_of_cell? _ _ y4)]; exact y4); clear hb2 hb3 hb4 hbA hk3 hk4)
  refine HDo.mono ?_
  rintro e w5 ⟨hA5, hB5⟩
  have hv5 := HV4.out.mv hB5.mb.mv
  obtain ⟨x', r, rfl, hA6⟩ := hA5.again hv5
  have HE : Hid _ := And.intro hA6 (Behind.set4 (hB5.first HM4.out) hv5 r)
  have HV5 : Hid _ := hv5.set r
  obtain ⟨z0, z1, z2, z3⟩ := hv5.cells
  have fz := hv5.free
  simp only [Rp.z] at z0 z1 z2 z3
  simp only [Rp.v]
  clear hA5 hA6 hB5 hv5 HDo
  go_wp2
  exact ret_E (r := r) (x := x') rfl rfl rfl HV5.out HE.out
end
end Go.Proofs.YtnajhjmdpaeelaaGreatDoor.Sq
namespace Go.Proofs.YtnajhjmdpaeelaaGreatDoor.Sq
open Go.RowKit Go.PlainAid
open Dk (ptr below_drewN alloc_below step_below add_flat OwnR OwnP OwnS Mv pcells Elt elt_of)
open Cy (RdS)
theorem then_exit {P : Act → World → Prop} {Q : Exit → Act → World → Prop} {j : Nat} {ac : Act} {w : World} (h : Q (.exit j) ac w) : Exit.then P Q (.exit j) ac w := h
theorem then_normal {P : Act → World → Prop} {Q : Exit → Act → World → Prop} {ac : Act} {w : World} (h : P ac w) : Exit.then P Q .normal ac w := h
theorem in_other {Q : Exit → Act → World → Prop} {i j : Nat} {ac : Act} {w : World} (hn : j ≠ i) (h : Q (.exit j) ac w) : Exit.inBlock i Q (.exit j) ac w := by
  show if j = i then Q .normal ac w else Q (.exit j) ac w
  rw [if_neg hn]
  exact h
theorem in_own {Q : Exit → Act → World → Prop} {i : Nat} {ac : Act} {w : World} (h : Q .normal ac w) : Exit.inBlock i Q (.exit i) ac w := by
  show if i = i then Q .normal ac w else Q (.exit i) ac w
  rw [if_pos rfl]
  exact h
section
variable {w w' : World} {U : Own} {s x : Nat} {NM : List ByteArray} {t : Int} {A : Ab} {M M' : AbT} {V V' : ByteArray → Int} {c : Nat} {nm : ByteArray} {a : Option Addr} {n m : Nat} {ls : List ByteArray}
set_option maxRecDepth 100000 in
set_option maxHeartbeats 4000000 in
theorem do_set (hC : Ctx w U s x NM t M V c nm a n m ls) (hnm : nm = ⟨#[115, 101, 116]⟩) (q : An)
    (hD : ∀ wx, Ctx wx U s x NM t M V c nm a n m ls → Below w.heap.size w wx → Calls Tryz.prog 56 #[ptr c] wx fun e w' => Says w' nm q e ∧ Behind wx w' U s x NM t M' V') :
    Calls Tryz.prog 28 #[ptr c] w fun e w' => Says w' nm q e ∧ Behind w w' U s x NM t M' V' := by
  obtain ⟨w1, hal, HV1, HM1, HC1⟩ := hC.newR
  have c2 := HC1.out.cll.c2
  have HDo := hD w1 HC1.out (by rw [← hal]; exact alloc_below w _)
  have q0 := lit_no (b := ⟨#[103, 101, 116]⟩) (x := [103, 101, 116]) (fun e => absurd (hnm.symm.trans e) (by decide)) rfl
  have q1 := lit_yes (x := [115, 101, 116]) hnm rfl
  clear hC hD hnm
  go_enter Tryz.func28, Tryz.ntmps28
  go_upto_if 11 with fail
  refine wp_cond_true rfl ?_
  refine wp_exit ?_
  repeat (first | refine then_exit ?_ | refine in_own ?_ | refine in_other (by decide) ?_ | refine then_normal ?_)
  go_wp2_with fail
  refine HDo.mono ?_
  rintro e w5 ⟨hA5, hB5⟩
  have hv5 := HV1.out.mv hB5.mb.mv
  obtain ⟨x', r, rfl, hA6⟩ := hA5.again hv5
  have HE : Hid _ := And.intro hA6 (Behind.set4 (hB5.first HM1.out) hv5 r)
  have HV5 : Hid _ := hv5.set r
  obtain ⟨z0, z1, z2, z3⟩ := hv5.cells
  have fz := hv5.free
  simp only [Rp.z] at z0 z1 z2 z3
  simp only [Rp.v]
  clear hA5 hA6 hB5 hv5 HDo
  go_wp2
  exact ret_E (r := r) (x := x') rfl rfl rfl HV5.out HE.out
set_option maxRecDepth 100000 in
set_option maxHeartbeats 4000000 in
theorem do_incr (hC : Ctx w U s x NM t M V c nm a n m ls) (hnm : nm = ⟨#[105, 110, 99, 114]⟩) (q : An)
    (hD : ∀ wx, Ctx wx U s x NM t M V c nm a n m ls → Below w.heap.size w wx → Calls Tryz.prog 62 #[ptr c, .bool false] wx fun e w' => Says w' nm q e ∧ Behind wx w' U s x NM t M' V') :
    Calls Tryz.prog 28 #[ptr c] w fun e w' => Says w' nm q e ∧ Behind w w' U s x NM t M' V' := by
  obtain ⟨w1, hal, HV1, HM1, HC1⟩ := hC.newR
  have c2 := HC1.out.cll.c2
  have HDo := hD w1 HC1.out (by rw [← hal]; exact alloc_below w _)
  have q0 := lit_no (b := ⟨#[103, 101, 116]⟩) (x := [103, 101, 116]) (fun e => absurd (hnm.symm.trans e) (by decide)) rfl
  have q1 := lit_no (b := ⟨#[115, 101, 116]⟩) (x := [115, 101, 116]) (fun e => absurd (hnm.symm.trans e) (by decide)) rfl
  have q2 := lit_no (b := ⟨#[115, 101, 116, 110, 120]⟩) (x := [115, 101, 116, 110, 120]) (fun e => absurd (hnm.symm.trans e) (by decide)) rfl
  have q3 := lit_no (b := ⟨#[103, 101, 116, 115, 101, 116]⟩) (x := [103, 101, 116, 115, 101, 116]) (fun e => absurd (hnm.symm.trans e) (by decide)) rfl
  have q4 := lit_no (b := ⟨#[103, 101, 116, 100, 101, 108]⟩) (x := [103, 101, 116, 100, 101, 108]) (fun e => absurd (hnm.symm.trans e) (by decide)) rfl
  have q5 := lit_no (b := ⟨#[97, 112, 112, 101, 110, 100]⟩) (x := [97, 112, 112, 101, 110, 100]) (fun e => absurd (hnm.symm.trans e) (by decide)) rfl
  have q6 := lit_no (b := ⟨#[115, 116, 114, 108, 101, 110]⟩) (x := [115, 116, 114, 108, 101, 110]) (fun e => absurd (hnm.symm.trans e) (by decide)) rfl
  have q7 := lit_no (b := ⟨#[100, 101, 99, 114]⟩) (x := [100, 101, 99, 114]) (fun e => absurd (hnm.symm.trans e) (by decide)) rfl
  have q8 := lit_no (b := ⟨#[100, 101, 99, 114, 98, 121]⟩) (x := [100, 101, 99, 114, 98, 121]) (fun e => absurd (hnm.symm.trans e) (by decide)) rfl
  have q9 := lit_yes (x := [105, 110, 99, 114]) hnm rfl
  clear hC hD hnm
  go_enter Tryz.func28, Tryz.ntmps28
  go_upto_if 26 with fail
  refine wp_cond_true rfl ?_
  go_upto_if 26 with fail
  refine wp_cond_true rfl ?_
  refine wp_exit ?_
  repeat (first | refine then_exit ?_ | refine in_own ?_ | refine in_other (by decide) ?_ | refine then_normal ?_)
  go_wp2_with fail
  refine HDo.mono ?_
  rintro e w5 ⟨hA5, hB5⟩
  have hv5 := HV1.out.mv hB5.mb.mv
  obtain ⟨x', r, rfl, hA6⟩ := hA5.again hv5
  have HE : Hid _ := And.intro hA6 (Behind.set4 (hB5.first HM1.out) hv5 r)
  have HV5 : Hid _ := hv5.set r
  obtain ⟨z0, z1, z2, z3⟩ := hv5.cells
  have fz := hv5.free
  simp only [Rp.z] at z0 z1 z2 z3
  simp only [Rp.v]
  clear hA5 hA6 hB5 hv5 HDo
  go_wp2
  exact ret_E (r := r) (x := x') rfl rfl rfl HV5.out HE.out
set_option maxRecDepth 100000 in
set_option maxHeartbeats 4000000 in
theorem do_append (hC : Ctx w U s x NM t M V c nm a n m ls) (hnm : nm = ⟨#[97, 112, 112, 101, 110, 100]⟩) (q : An)
    (hD : ∀ wx, Ctx wx U s x NM t M V c nm a n m ls → Below w.heap.size w wx → Calls Tryz.prog 60 #[ptr c] wx fun e w' => Says w' nm q e ∧ Behind wx w' U s x NM t M' V') :
    Calls Tryz.prog 28 #[ptr c] w fun e w' => Says w' nm q e ∧ Behind w w' U s x NM t M' V' := by
  obtain ⟨w1, hal, HV1, HM1, HC1⟩ := hC.newR
  have c2 := HC1.out.cll.c2
  have HDo := hD w1 HC1.out (by rw [← hal]; exact alloc_below w _)
  have q0 := lit_no (b := ⟨#[103, 101, 116]⟩) (x := [103, 101, 116]) (fun e => absurd (hnm.symm.trans e) (by decide)) rfl
  have q1 := lit_no (b := ⟨#[115, 101, 116]⟩) (x := [115, 101, 116]) (fun e => absurd (hnm.symm.trans e) (by decide)) rfl
  have q2 := lit_no (b := ⟨#[115, 101, 116, 110, 120]⟩) (x := [115, 101, 116, 110, 120]) (fun e => absurd (hnm.symm.trans e) (by decide)) rfl
  have q3 := lit_no (b := ⟨#[103, 101, 116, 115, 101, 116]⟩) (x := [103, 101, 116, 115, 101, 116]) (fun e => absurd (hnm.symm.trans e) (by decide)) rfl
  have q4 := lit_no (b := ⟨#[103, 101, 116, 100, 101, 108]⟩) (x := [103, 101, 116, 100, 101, 108]) (fun e => absurd (hnm.symm.trans e) (by decide)) rfl
  have q5 := lit_yes (x := [97, 112, 112, 101, 110, 100]) hnm rfl
  clear hC hD hnm
  go_enter Tryz.func28, Tryz.ntmps28
  go_upto_if 19 with fail
  refine wp_cond_true rfl ?_
  refine wp_exit ?_
  repeat (first | refine then_exit ?_ | refine in_own ?_ | refine in_other (by decide) ?_ | refine then_normal ?_)
  go_wp2_with fail
  refine HDo.mono ?_
  rintro e w5 ⟨hA5, hB5⟩
  have hv5 := HV1.out.mv hB5.mb.mv
  obtain ⟨x', r, rfl, hA6⟩ := hA5.again hv5
  have HE : Hid _ := And.intro hA6 (Behind.set4 (hB5.first HM1.out) hv5 r)
  have HV5 : Hid _ := hv5.set r
  obtain ⟨z0, z1, z2, z3⟩ := hv5.cells
  have fz := hv5.free
  simp only [Rp.z] at z0 z1 z2 z3
  simp only [Rp.v]
  clear hA5 hA6 hB5 hv5 HDo
  go_wp2
  exact ret_E (r := r) (x := x') rfl rfl rfl HV5.out HE.out
set_option maxRecDepth 100000 in
set_option maxHeartbeats 4000000 in
theorem do_decrby (hC : Ctx w U s x NM t M V c nm a n m ls) (hnm : nm = ⟨#[100, 101, 99, 114, 98, 121]⟩) (q : An)
    (hD : ∀ wx, Ctx wx U s x NM t M V c nm a n m ls → Below w.heap.size w wx → Calls Tryz.prog 62 #[ptr c, .bool true] wx fun e w' => Says w' nm q e ∧ Behind wx w' U s x NM t M' V') :
    Calls Tryz.prog 28 #[ptr c] w fun e w' => Says w' nm q e ∧ Behind w w' U s x NM t M' V' := by
  obtain ⟨w1, hal, HV1, HM1, HC1⟩ := hC.newR
  have c2 := HC1.out.cll.c2
  have HDo := hD w1 HC1.out (by rw [← hal]; exact alloc_below w _)
  have q0 := lit_no (b := ⟨#[103, 101, 116]⟩) (x := [103, 101, 116]) (fun e => absurd (hnm.symm.trans e) (by decide)) rfl
  have q1 := lit_no (b := ⟨#[115, 101, 116]⟩) (x := [115, 101, 116]) (fun e => absurd (hnm.symm.trans e) (by decide)) rfl
  have q2 := lit_no (b := ⟨#[115, 101, 116, 110, 120]⟩) (x := [115, 101, 116, 110, 120]) (fun e => absurd (hnm.symm.trans e) (by decide)) rfl
  have q3 := lit_no (b := ⟨#[103, 101, 116, 115, 101, 116]⟩) (x := [103, 101, 116, 115, 101, 116]) (fun e => absurd (hnm.symm.trans e) (by decide)) rfl
  have q4 := lit_no (b := ⟨#[103, 101, 116, 100, 101, 108]⟩) (x := [103, 101, 116, 100, 101, 108]) (fun e => absurd (hnm.symm.trans e) (by decide)) rfl
  have q5 := lit_no (b := ⟨#[97, 112, 112, 101, 110, 100]⟩) (x := [97, 112, 112, 101, 110, 100]) (fun e => absurd (hnm.symm.trans e) (by decide)) rfl
  have q6 := lit_no (b := ⟨#[115, 116, 114, 108, 101, 110]⟩) (x := [115, 116, 114, 108, 101, 110]) (fun e => absurd (hnm.symm.trans e) (by decide)) rfl
  have q7 := lit_no (b := ⟨#[100, 101, 99, 114]⟩) (x := [100, 101, 99, 114]) (fun e => absurd (hnm.symm.trans e) (by decide)) rfl
  have q8 := lit_yes (x := [100, 101, 99, 114, 98, 121]) hnm rfl
  clear hC hD hnm
  go_enter Tryz.func28, Tryz.ntmps28
  go_upto_if 23 with fail
  refine wp_cond_false rfl ?_
  go_upto_if 23 with fail
  refine wp_cond_true rfl ?_
  refine wp_exit ?_
  repeat (first | refine then_exit ?_ | refine in_own ?_ | refine in_other (by decide) ?_ | refine then_normal ?_)
  go_wp2_with fail
  refine HDo.mono ?_
  rintro e w5 ⟨hA5, hB5⟩
  have hv5 := HV1.out.mv hB5.mb.mv
  obtain ⟨x', r, rfl, hA6⟩ := hA5.again hv5
  have HE : Hid _ := And.intro hA6 (Behind.set4 (hB5.first HM1.out) hv5 r)
  have HV5 : Hid _ := hv5.set r
  obtain ⟨z0, z1, z2, z3⟩ := hv5.cells
  have fz := hv5.free
  simp only [Rp.z] at z0 z1 z2 z3
  simp only [Rp.v]
  clear hA5 hA6 hB5 hv5 HDo
  go_wp2
  exact ret_E (r := r) (x := x') rfl rfl rfl HV5.out HE.out
set_option maxRecDepth 100000 in
set_option maxHeartbeats 4000000 in
theorem do_setrange (hC : Ctx w U s x NM t M V c nm a n m ls) (hnm : nm = ⟨#[115, 101, 116, 114, 97, 110, 103, 101]⟩) (q : An)
    (hD : ∀ wx, Ctx wx U s x NM t M V c nm a n m ls → Below w.heap.size w wx → Calls Tryz.prog 64 #[ptr c] wx fun e w' => Says w' nm q e ∧ Behind wx w' U s x NM t M' V') :
    Calls Tryz.prog 28 #[ptr c] w fun e w' => Says w' nm q e ∧ Behind w w' U s x NM t M' V' := by
  obtain ⟨w1, hal, HV1, HM1, HC1⟩ := hC.newR
  have c2 := HC1.out.cll.c2
  have HDo := hD w1 HC1.out (by rw [← hal]; exact alloc_below w _)
  have q0 := lit_no (b := ⟨#[103, 101, 116]⟩) (x := [103, 101, 116]) (fun e => absurd (hnm.symm.trans e) (by decide)) rfl
  have q1 := lit_no (b := ⟨#[115, 101, 116]⟩) (x := [115, 101, 116]) (fun e => absurd (hnm.symm.trans e) (by decide)) rfl
  have q2 := lit_no (b := ⟨#[115, 101, 116, 110, 120]⟩) (x := [115, 101, 116, 110, 120]) (fun e => absurd (hnm.symm.trans e) (by decide)) rfl
  have q3 := lit_no (b := ⟨#[103, 101, 116, 115, 101, 116]⟩) (x := [103, 101, 116, 115, 101, 116]) (fun e => absurd (hnm.symm.trans e) (by decide)) rfl
  have q4 := lit_no (b := ⟨#[103, 101, 116, 100, 101, 108]⟩) (x := [103, 101, 116, 100, 101, 108]) (fun e => absurd (hnm.symm.trans e) (by decide)) rfl
  have q5 := lit_no (b := ⟨#[97, 112, 112, 101, 110, 100]⟩) (x := [97, 112, 112, 101, 110, 100]) (fun e => absurd (hnm.symm.trans e) (by decide)) rfl
  have q6 := lit_no (b := ⟨#[115, 116, 114, 108, 101, 110]⟩) (x := [115, 116, 114, 108, 101, 110]) (fun e => absurd (hnm.symm.trans e) (by decide)) rfl
  have q7 := lit_no (b := ⟨#[100, 101, 99, 114]⟩) (x := [100, 101, 99, 114]) (fun e => absurd (hnm.symm.trans e) (by decide)) rfl
  have q8 := lit_no (b := ⟨#[100, 101, 99, 114, 98, 121]⟩) (x := [100, 101, 99, 114, 98, 121]) (fun e => absurd (hnm.symm.trans e) (by decide)) rfl
  have q9 := lit_no (b := ⟨#[105, 110, 99, 114]⟩) (x := [105, 110, 99, 114]) (fun e => absurd (hnm.symm.trans e) (by decide)) rfl
  have q10 := lit_no (b := ⟨#[105, 110, 99, 114, 98, 121]⟩) (x := [105, 110, 99, 114, 98, 121]) (fun e => absurd (hnm.symm.trans e) (by decide)) rfl
  have q11 := lit_no (b := ⟨#[103, 101, 116, 114, 97, 110, 103, 101]⟩) (x := [103, 101, 116, 114, 97, 110, 103, 101]) (fun e => absurd (hnm.symm.trans e) (by decide)) rfl
  have q12 := lit_yes (x := [115, 101, 116, 114, 97, 110, 103, 101]) hnm rfl
  clear hC hD hnm
  go_enter Tryz.func28, Tryz.ntmps28
  go_upto_if 31 with fail
  refine wp_cond_true rfl ?_
  refine wp_exit ?_
  repeat (first | refine then_exit ?_ | refine in_own ?_ | refine in_other (by decide) ?_ | refine then_normal ?_)
  go_wp2_with fail
  refine HDo.mono ?_
  rintro e w5 ⟨hA5, hB5⟩
  have hv5 := HV1.out.mv hB5.mb.mv
  obtain ⟨x', r, rfl, hA6⟩ := hA5.again hv5
  have HE : Hid _ := And.intro hA6 (Behind.set4 (hB5.first HM1.out) hv5 r)
  have HV5 : Hid _ := hv5.set r
  obtain ⟨z0, z1, z2, z3⟩ := hv5.cells
  have fz := hv5.free
  simp only [Rp.z] at z0 z1 z2 z3
  simp only [Rp.v]
  clear hA5 hA6 hB5 hv5 HDo
  go_wp2
  exact ret_E (r := r) (x := x') rfl rfl rfl HV5.out HE.out
set_option maxRecDepth 100000 in
set_option maxHeartbeats 4000000 in
theorem do_setbit (hC : Ctx w U s x NM t M V c nm a n m ls) (hnm : nm = ⟨#[115, 101, 116, 98, 105, 116]⟩) (q : An)
    (hD : ∀ wx, Ctx wx U s x NM t M V c nm a n m ls → Below w.heap.size w wx → Calls Tryz.prog 66 #[ptr c] wx fun e w' => Says w' nm q e ∧ Behind wx w' U s x NM t M' V') :
    Calls Tryz.prog 28 #[ptr c] w fun e w' => Says w' nm q e ∧ Behind w w' U s x NM t M' V' := by
  obtain ⟨w1, hal, HV1, HM1, HC1⟩ := hC.newR
  have c2 := HC1.out.cll.c2
  have HDo := hD w1 HC1.out (by rw [← hal]; exact alloc_below w _)
  have q0 := lit_no (b := ⟨#[103, 101, 116]⟩) (x := [103, 101, 116]) (fun e => absurd (hnm.symm.trans e) (by decide)) rfl
  have q1 := lit_no (b := ⟨#[115, 101, 116]⟩) (x := [115, 101, 116]) (fun e => absurd (hnm.symm.trans e) (by decide)) rfl
  have q2 := lit_no (b := ⟨#[115, 101, 116, 110, 120]⟩) (x := [115, 101, 116, 110, 120]) (fun e => absurd (hnm.symm.trans e) (by decide)) rfl
  have q3 := lit_no (b := ⟨#[103, 101, 116, 115, 101, 116]⟩) (x := [103, 101, 116, 115, 101, 116]) (fun e => absurd (hnm.symm.trans e) (by decide)) rfl
  have q4 := lit_no (b := ⟨#[103, 101, 116, 100, 101, 108]⟩) (x := [103, 101, 116, 100, 101, 108]) (fun e => absurd (hnm.symm.trans e) (by decide)) rfl
  have q5 := lit_no (b := ⟨#[97, 112, 112, 101, 110, 100]⟩) (x := [97, 112, 112, 101, 110, 100]) (fun e => absurd (hnm.symm.trans e) (by decide)) rfl
  have q6 := lit_no (b := ⟨#[115, 116, 114, 108, 101, 110]⟩) (x := [115, 116, 114, 108, 101, 110]) (fun e => absurd (hnm.symm.trans e) (by decide)) rfl
  have q7 := lit_no (b := ⟨#[100, 101, 99, 114]⟩) (x := [100, 101, 99, 114]) (fun e => absurd (hnm.symm.trans e) (by decide)) rfl
  have q8 := lit_no (b := ⟨#[100, 101, 99, 114, 98, 121]⟩) (x := [100, 101, 99, 114, 98, 121]) (fun e => absurd (hnm.symm.trans e) (by decide)) rfl
  have q9 := lit_no (b := ⟨#[105, 110, 99, 114]⟩) (x := [105, 110, 99, 114]) (fun e => absurd (hnm.symm.trans e) (by decide)) rfl
  have q10 := lit_no (b := ⟨#[105, 110, 99, 114, 98, 121]⟩) (x := [105, 110, 99, 114, 98, 121]) (fun e => absurd (hnm.symm.trans e) (by decide)) rfl
  have q11 := lit_no (b := ⟨#[103, 101, 116, 114, 97, 110, 103, 101]⟩) (x := [103, 101, 116, 114, 97, 110, 103, 101]) (fun e => absurd (hnm.symm.trans e) (by decide)) rfl
  have q12 := lit_no (b := ⟨#[115, 101, 116, 114, 97, 110, 103, 101]⟩) (x := [115, 101, 116, 114, 97, 110, 103, 101]) (fun e => absurd (hnm.symm.trans e) (by decide)) rfl
  have q13 := lit_no (b := ⟨#[103, 101, 116, 98, 105, 116]⟩) (x := [103, 101, 116, 98, 105, 116]) (fun e => absurd (hnm.symm.trans e) (by decide)) rfl
  have q14 := lit_yes (x := [115, 101, 116, 98, 105, 116]) hnm rfl
  clear hC hD hnm
  go_enter Tryz.func28, Tryz.ntmps28
  go_upto_if 35 with fail
  refine wp_cond_true rfl ?_
  refine wp_exit ?_
  repeat (first | refine then_exit ?_ | refine in_own ?_ | refine in_other (by decide) ?_ | refine then_normal ?_)
  go_wp2_with fail
  refine HDo.mono ?_
  rintro e w5 ⟨hA5, hB5⟩
  have hv5 := HV1.out.mv hB5.mb.mv
  obtain ⟨x', r, rfl, hA6⟩ := hA5.again hv5
  have HE : Hid _ := And.intro hA6 (Behind.set4 (hB5.first HM1.out) hv5 r)
  have HV5 : Hid _ := hv5.set r
  obtain ⟨z0, z1, z2, z3⟩ := hv5.cells
  have fz := hv5.free
  simp only [Rp.z] at z0 z1 z2 z3
  simp only [Rp.v]
  clear hA5 hA6 hB5 hv5 HDo
  go_wp2
  exact ret_E (r := r) (x := x') rfl rfl rfl HV5.out HE.out
end
end Go.Proofs.YtnajhjmdpaeelaaGreatDoor.Sq
namespace Go.Proofs.YtnajhjmdpaeelaaGreatDoor.Sq
open Go.RowKit Go.PlainAid
open Dk (ptr below_drewN alloc_below step_below add_flat OwnR OwnP OwnS Mv pcells Elt elt_of)
open Cy (RdS whyP cP nameP cmdP takesB longB)
abbrev setN : ByteArray := ⟨#[115, 101, 116]⟩
abbrev incrN : ByteArray := ⟨#[105, 110, 99, 114]⟩
theorem why_of {ls : List ByteArray} {c : Cy.Cm} (h : cmdP ls = some c) (ht : takesB c ls.length = true) (hl : longB ls = false) : whyP ls = 0 ∧ cP ls = c := by
  have h1 : whyP ls = 0 := by
    unfold whyP Cy.whyOf
    rw [h]
    simp only [ht, hl]
    rfl
  refine ⟨h1, ?_⟩
  unfold cP
  rw [if_pos h1, h]
  rfl
/-- What is asked of a command's words. -/
structure Wds (w : World) (a : Option Addr) (n m : Nat) (ls : List ByteArray) (NM : List ByteArray) : Prop where
  ars : Ars w a n ls
  cap : n ≤ m
  few : n ≤ 300
  sz : ∀ k ∈ ls, k.size ≤ 4096
section
variable {w w' : World} {U : Own} {s x : Nat} {NM : List ByteArray} {t : Int} {A : Ab} {M M' : AbT} {V V' : ByteArray → Int} {c : Nat} {nm : ByteArray} {a : Option Addr} {n m : Nat} {ls : List ByteArray}
theorem Do_set (hS : Seen w U s x NM t M V) (hA : Wds w a n m ls NM) (hL : Laid w) (h0 : ¬ U 0) (hv : Vle V 900000) (d : Nat) (ht : Tx.Int64 t) (hc : cmdP ls = some ⟨setN, 3, 8, true, 1⟩) (hn : 3 ≤ n ∧ n ≤ 8) (hl : longB ls = false) (hk : ls.getD 1 noB ∈ NM) :
    Calls Tryz.prog 9 #[ptr s, .int .i64 t, .int .u64 d, .slice a n m] w fun e w' => Says w' setN (setP M V t ls).1 e ∧ Behind w w' U s x NM t (setP M V t ls).2.1 (setP M V t ls).2.2 := by
  have hlen := hA.ars.rd.len
  obtain ⟨h1, h2⟩ := why_of hc (by
    unfold takesB Cy.pairsB
    rw [hlen]
    simp only [show ¬ (setN = Cy.msetS) by decide, show ¬ (setN = Cy.hsetS) by decide, if_false, Bool.and_true, Bool.and_eq_true, decide_eq_true_eq]
    omega) hl
  refine Do_ok hS hA.ars hL h0 d 3 8 true h1 h2 (setP M V t ls).1 (fun wx c hC hb => do_set hC rfl _ (fun wy hCy hbl => ?_))
  exact set_any hCy hv hA.sz (by omega) hA.cap hA.few ht hk (fun ad e => Nat.lt_of_lt_of_le (hb ad e) hbl.size)
theorem Do_incr (hS : Seen w U s x NM t M V) (hA : Wds w a n m ls NM) (hL : Laid w) (h0 : ¬ U 0) (hv : Vle V 900000) (hSm : Small M) (d : Nat) (hc : cmdP ls = some ⟨incrN, 2, 2, true, 1⟩) (hn : n = 2) (hl : longB ls = false) (hk : ls.getD 1 noB ∈ NM) :
    Calls Tryz.prog 9 #[ptr s, .int .i64 t, .int .u64 d, .slice a n m] w fun e w' => Says w' incrN (countP M V ls false).1 e ∧ Behind w w' U s x NM t (countP M V ls false).2.1 (countP M V ls false).2.2 := by
  have hlen := hA.ars.rd.len
  obtain ⟨h1, h2⟩ := why_of hc (by rw [hlen, hn]; decide) hl
  exact Do_ok hS hA.ars hL h0 d 2 2 true h1 h2 (countP M V ls false).1 (fun wx c hC hb => do_incr hC rfl _ (fun wy hCy hbl => count_any hCy (hv.low (by decide)) hSm hA.sz (by omega) hk false))
end
/-- Nothing is there. -/
abbrev noM : AbT := fun _ => none
theorem Seen.new {w : World} {B s x : Nat} {NM : List ByteArray} (h : Spc w (fun k => B ≤ k) s x NM (fun _ => none) (fun _ => 0)) (t : Int) : Seen w (fun k => B ≤ k) s x NM t noM (fun _ => 0) :=
  Sure.seen (A := fun _ => none) ⟨⟨h, ⟨fun _ _ => rfl, (fun k d u h => (by cases h)), (fun k j v u u' h => (by cases h))⟩, fun _ => Int.le_refl _⟩, (fun k v e h => (by cases h))⟩
/-- Words that were written out. -/
theorem Ars.lit (w : World) (ls : List ByteArray) (hn : ls.length ≤ 300) : Ars (w.alloc (.cells (ls.map Value.string).toArray 9)) (some ⟨w.heap.size, 0, none⟩) ls.length ls := by
  refine ⟨⟨rfl, by unfold maxLen; omega, fun j hj => ⟨w.heap.size, 0, rfl, ?_⟩⟩, fun ad e => ?_⟩
  · simp only [World.cell?, heap_alloc_new, Nat.zero_add]
    rw [List.getD_eq_getElem?_getD, List.getElem?_eq_getElem hj]
    simp [hj]
  · cases e
    exact ⟨_, _, heap_alloc_new w _, by decide⟩
abbrev kS1 : List ByteArray := [⟨#[115, 101, 116]⟩, ⟨#[97]⟩, ⟨#[49]⟩]
abbrev kS2 : List ByteArray := [⟨#[73, 78, 67, 82]⟩, ⟨#[97]⟩]
abbrev kS3 : List ByteArray := [⟨#[115, 101, 116]⟩, ⟨#[107]⟩, ⟨#[118]⟩, ⟨#[78, 88]⟩, ⟨#[88, 88]⟩]
abbrev kNMs : List ByteArray := [⟨#[97]⟩, ⟨#[107]⟩]
theorem kS1_cmd : cmdP kS1 = some ⟨setN, 3, 8, true, 1⟩ := by kernel_rfl
theorem kS2_cmd : cmdP kS2 = some ⟨incrN, 2, 2, true, 1⟩ := by kernel_rfl
theorem kS3_cmd : cmdP kS3 = some ⟨setN, 3, 8, true, 1⟩ := by kernel_rfl
theorem kNMs_names : Names kNMs := ⟨by decide, by decide⟩
theorem kS1_P : setP noM (fun _ => 0) 0 kS1 = (An.ok, setA noM ⟨#[97]⟩ (some ((1, ⟨#[49]⟩), none)), incV (fun _ => 0) ⟨#[97]⟩) := by
  have h1 : rdO (kS1.drop 3) Opt.z = some Opt.z := rfl
  have h2 : timeP Opt.z (endOf (noM ⟨#[97]⟩)) 0 = (0, none) := rfl
  have h3 := setP_rest (M := noM) (V := fun _ => 0) (t := 0) (k := ⟨#[97]⟩) h1 rfl (by rw [h2]) (.inl rfl)
  rw [h2, if_neg (fun h => absurd rfl h.1)] at h3
  exact h3
theorem kS3_P (M : AbT) (V : ByteArray → Int) : setP M V 0 kS3 = (An.no 1, M, V) := setP_bad (by kernel_rfl)
theorem kS2_P (V : ByteArray → Int) : (countP (setA noM ⟨#[97]⟩ (some ((1, ⟨#[49]⟩), none))) V kS2 false).1 = An.int 2 := by
  have h1 : stepP kS2 false = (0, 1) := by kernel_rfl
  have h2 : txtO (setA noM (⟨#[97]⟩ : ByteArray) (some ((1, ⟨#[49]⟩), none)) ⟨#[97]⟩) = some ⟨#[49]⟩ := by rw [setA_at]; rfl
  have h3 : incP ⟨#[49]⟩ 1 = (0, ⟨#[50]⟩, 2) := by kernel_rfl
  unfold countP
  rw [h1, if_pos rfl]
  show (madeP (setA noM (⟨#[97]⟩ : ByteArray) (some ((1, ⟨#[49]⟩), none))) V ⟨#[97]⟩ fun tx => incP tx 1).1 = _
  unfold madeP
  rw [h2]
  simp only [h3]
  rfl
theorem Vle.keep {M : AbT} {V : ByteArray → Int} {b : Int} (h : Vle V b) (k tx : ByteArray) : Vle (keepV M V k tx) (b + 1) := by
  unfold keepV
  split
  · exact h.inc k
  · split
    · exact h.mono (by omega)
    · exact h.inc k
theorem Vle.made {M : AbT} {V : ByteArray → Int} {b : Int} (h : Vle V b) (k : ByteArray) (f : ByteArray → Int × ByteArray × Int) : Vle (madeP M V k f).2.2 (b + 1) := by
  unfold madeP
  split
  · exact h.mono (by omega)
  · split
    · exact h.keep _ _
    · exact h.mono (by omega)
theorem Vle.count {M : AbT} {V : ByteArray → Int} {b : Int} (h : Vle V b) (ls : List ByteArray) (d : Bool) : Vle (countP M V ls d).2.2 (b + 1) := by
  unfold countP
  split
  · exact h.made _ _
  · exact h.mono (by omega)
theorem Mb.low {w0 w w' : World} {p : TypeId → Bool} (h : Mb p (fun k => w0.heap.size ≤ k) w w') (hb : Below w0.heap.size w0 w) : Below w0.heap.size w0 w' := hb.trans (h.be.below hb.size)
theorem laid_low {w0 w : World} (h : Laid w0) (hb : Below w0.heap.size w0 w) : Laid w := Laid.keep h hb (lt_of_cell? h)
theorem Says.ok {w : World} {nm : ByteArray} {q : An} {e : Ending} (h : Says w nm q e) (hq : q.code = 0) : e = .returned (.tuple #[q.r.v, .nilIface]) := by
  rcases h with h | h
  · exact h.2
  · exact absurd hq h.1
theorem Says.no {w : World} {nm : ByteArray} {why : Int} {e : Ending} (h : Says w nm (An.no why) e) (hq : ¬ why = 0) : ∃ b, e = .returned (.tuple #[Rp.z.v, .iface 170 (.pointer (some ⟨b, 0, none⟩))]) ∧ Flt w (.iface 170 (.pointer (some ⟨b, 0, none⟩))) nm why := by
  rcases h with h | h
  · exact absurd h.1 hq
  · exact h.2
set_option maxRecDepth 100000 in
set_option maxHeartbeats 1600000 in
theorem known_any (w : World) (hL : Laid w) : Calls Tryz.prog 12 #[] w fun e w' => e = .returned (.bool true) ∧ Below w.heap.size w w' := by
  have HN := New_any w 0 0 0 (by decide)
  have HL : Hid (Laid w) := hL
  have HU : Hid (¬ (w.heap.size ≤ 0)) := by have := lt_of_cell? hL; show ¬ _; omega
  replace HN : Calls Tryz.prog 7 #[.agg #[.int .u64 0, .int .i64 0, .int .i64 0]] w fun e w' => NewTo w w' 0 e := HN
  have hmx : Tx.Int64 0 := ⟨by decide, by decide⟩
  have HMx : Hid (Tx.Int64 0) := hmx
  clear hL hmx
  go_enter Tryz.func12, Tryz.ntmps12
  go_wp2_with fail
  refine HN.mono ?_
  rintro e w1 ⟨hb1, s, rfl, -, hs1⟩
  have hq := eqlS_nil w1 s
  obtain ⟨w2, hw2⟩ : ∃ w2, w1.alloc (.cells #[.string ⟨#[115, 101, 116]⟩, .string ⟨#[97]⟩, .string ⟨#[49]⟩] 9) = w2 := ⟨_, rfl⟩
  have hb2 : Below w1.heap.size w1 w2 := by rw [← hw2]; exact alloc_below w1 _
  have HA2 : Hid (Wds w2 (some ⟨w1.heap.size, 0, none⟩) 3 3 kS1 kNMs) := ⟨by rw [← hw2]; exact Ars.lit w1 kS1 (by decide), by decide, by decide, by decide⟩
  have HB2 : Hid (Below w.heap.size w w2) := hb1.trans (hb2.mono hb1.size)
  have HS2 : Hid (Seen w2 (fun k => w.heap.size ≤ k) s 0 kNMs 0 noM (fun _ => 0)) := (Seen.new (hs1 kNMs kNMs_names) 0).keep hb2
  have HD1 := Do_set HS2.out HA2.out (laid_low HL.out HB2.out) HU.out (Vle.zero.mono (by decide)) 0 HMx.out kS1_cmd (by decide) (by decide) (List.mem_cons_self ..)
  rw [kS1_P] at HD1
  clear hb1 hs1 hb2 HN
  go_wp2_with fail
  refine HD1.mono ?_
  rintro e w3 ⟨hA3, hB3⟩
  have he3 := hA3.ok rfl
  subst he3
  simp only [Rp.v]
  obtain ⟨y4, hy4, hvy4, w4, hz4, HVn4, hb4⟩ := newR2 w3 An.ok.r
  obtain ⟨p0, p1, p2, p3⟩ := hvy4.cells
  have pf := hvy4.free
  simp only [Rp.z] at p0 p1 p2 p3 hz4
  have HV4 : Hid (VarR w4 w3.heap.size An.ok.r) := HVn4
  clear hvy4 HVn4
  have HB4 : Hid (Below w.heap.size w w4) := (hB3.mb.low HB2.out).trans (hb4.mono (hB3.mb.low HB2.out).size)
  have HS4 := hB3.seen.keep hb4
  obtain ⟨w5, hw5⟩ : ∃ w5, w4.alloc (.cells #[.string ⟨#[73, 78, 67, 82]⟩, .string ⟨#[97]⟩] 9) = w5 := ⟨_, rfl⟩
  have hb5 : Below w4.heap.size w4 w5 := by rw [← hw5]; exact alloc_below w4 _
  have HA5 : Hid (Wds w5 (some ⟨w4.heap.size, 0, none⟩) 2 2 kS2 kNMs) := ⟨by rw [← hw5]; exact Ars.lit w4 kS2 (by decide), by decide, by decide, by decide⟩
  have HV5 : Hid (VarR w5 w3.heap.size An.ok.r) := HV4.out.mv (Mv.of_below hb5)
  have HB5 : Hid (Below w.heap.size w w5) := HB4.out.trans (hb5.mono HB4.out.size)
  have HS5 : Hid _ := HS4.keep hb5
  have HD2 := Do_incr HS5.out HA5.out (laid_low HL.out HB5.out) HU.out ((Vle.zero.inc _).mono (by decide)) (fun k d u h => by
    unfold setA at h
    split at h
    · cases h; show (1 : Nat) ≤ 65536; decide
    · cases h) 0 kS2_cmd rfl (by decide) (List.mem_cons_self ..)
  rw [kS2_P] at HD2
  clear hA3 hB3 hb4 HS4 hb5 HD1
  go_wp2_with fail
  refine HD2.mono ?_
  rintro e w6 ⟨hA6, hB6⟩
  have he6 := hA6.ok rfl
  subst he6
  clear p0 p1 p2 p3 pf hy4 hz4
  simp only [Rp.v]
  obtain ⟨y7, hy7, hvy7, w7, hz7, HVn7, hb7⟩ := newR2 w6 (An.int 2).r
  obtain ⟨p0, p1, p2, p3⟩ := hvy7.cells
  have pf := hvy7.free
  simp only [Rp.z] at p0 p1 p2 p3 hz7
  have hv7 := HVn7
  clear hvy7 HVn7
  have hB7 : Below w.heap.size w w7 := (hB6.mb.low HB5.out).trans (hb7.mono (hB6.mb.low HB5.out).size)
  obtain ⟨w8, hw8⟩ : ∃ w8, w7.alloc (.cells #[.string ⟨#[115, 101, 116]⟩, .string ⟨#[107]⟩, .string ⟨#[118]⟩, .string ⟨#[78, 88]⟩, .string ⟨#[88, 88]⟩] 9) = w8 := ⟨_, rfl⟩
  have hb8 : Below w7.heap.size w7 w8 := by rw [← hw8]; exact alloc_below w7 _
  have HA8 : Hid (Wds w8 (some ⟨w7.heap.size, 0, none⟩) 5 5 kS3 kNMs) := ⟨by rw [← hw8]; exact Ars.lit w7 kS3 (by decide), by decide, by decide, by decide⟩
  have HV8 : Hid (VarR w8 w3.heap.size An.ok.r ∧ VarR w8 w6.heap.size (An.int 2).r) := ⟨((HV5.out.mv hB6.mb.mv).mv (Mv.of_below hb7)).mv (Mv.of_below hb8), hv7.mv (Mv.of_below hb8)⟩
  have HB8 : Hid (Below w.heap.size w w8) := hB7.trans (hb8.mono hB7.size)
  have HS8 : Hid _ := (hB6.seen.keep hb7).keep hb8
  have HD3 := Do_set HS8.out HA8.out (laid_low HL.out HB8.out) HU.out ((Vle.zero.inc _).count _ _ |>.mono (by decide)) 0 HMx.out kS3_cmd (by decide) (by decide) (List.mem_cons_of_mem _ (List.mem_cons_self ..))
  rw [kS3_P] at HD3
  clear hA6 hB6 hb7 hv7 hB7 hb8 HD2
  go_wp2_with fail
  refine HD3.mono ?_
  rintro e w9 ⟨hA9, hB9⟩
  obtain ⟨b, rfl, hF9⟩ := hA9.no (by decide)
  clear p0 p1 p2 p3 pf hy7 hz7
  simp only [Rp.v, Rp.z]
  obtain ⟨y10, hy10, hvy10, w10, hz10, HVn10, hb10⟩ := newR2 w9 Rp.z
  obtain ⟨p0, p1, p2, p3⟩ := hvy10.cells
  have pf := hvy10.free
  simp only [Rp.z] at p0 p1 p2 p3 hz10
  clear hvy10 HVn10
  have hB10 : Below w.heap.size w w10 := (hB9.mb.low HB8.out).trans (hb10.mono (hB9.mb.low HB8.out).size)
  have HB10 : Hid (Below w.heap.size w w10) := hB10
  obtain ⟨a0, a1, a2, a3⟩ := ((HV8.out.1.mv hB9.mb.mv).mv (Mv.of_below hb10)).cells
  obtain ⟨b0, b1, b2, b3⟩ := ((HV8.out.2.mv hB9.mb.mv).mv (Mv.of_below hb10)).cells
  have HCd := (hF9.keep hb10).code (laid_low HL.out hB10)
  simp only at a1 b2
  clear hA9 hB9 hF9 hb10 hB10 HD3 a0 a2 a3 b0 b1 b3
  go_wp2_with (go_at_call 10; refine HCd.mono ?_; rintro e w11 ⟨rfl, hb11⟩)
  go_ret
  exact ⟨rfl, HB10.out.trans (hb11.mono HB10.out.size)⟩
end Go.Proofs.YtnajhjmdpaeelaaGreatDoor.Sq
namespace Go.Proofs.YtnajhjmdpaeelaaGreatDoor.Sq
open Go.RowKit Go.PlainAid
open Dk (ptr below_drewN alloc_below step_below add_flat OwnR OwnP Mv pcells Elt elt_of)
open Cy (RdS OwnS whyP cP nameP cmdP takesB longB)
abbrev kB : ByteArray := ⟨#[107]⟩
abbrev kNM : List ByteArray := [kB]
theorem kNM_names' : Names kNM := ⟨by decide, by decide⟩
/-- What the key has ahead of the set. -/
def setsM (kb : Bool) (old : ByteArray) : AbT := if kb = true then setA noM kB (some ((1, old), none)) else noM
abbrev optG (b : Bool) : List ByteArray := if b = true then [⟨#[71, 69, 84]⟩] else []
abbrev optN (b : Bool) : List ByteArray := if b = true then [⟨#[78, 88]⟩] else []
abbrev optX (b : Bool) : List ByteArray := if b = true then [⟨#[120, 120]⟩] else []
abbrev setsL (v : ByteArray) (gt nx xx : Bool) : List ByteArray := (([⟨#[115, 101, 116]⟩, kB, v] ++ optG gt) ++ optN nx) ++ optX xx
def setsT (kb gt : Bool) (old : ByteArray) : An := if gt = true then (if kb = true then An.blk old else An.nul) else An.ok
def setsD (kb nx xx : Bool) : Bool := (!nx || !kb) && (!xx || kb)
theorem setsM_at (kb : Bool) (old : ByteArray) : setsM kb old kB = if kb = true then some ((1, old), none) else none := by
  unfold setsM
  cases kb
  · rfl
  · show setA noM kB _ kB = _
    exact setA_at _ _ _
theorem getP_sets (kb : Bool) (old : ByteArray) : getP (setsM kb old kB) = if kb = true then An.blk old else An.nul := by
  rw [setsM_at]
  cases kb <;> rfl
theorem sets_P (kb : Bool) (old v : ByteArray) (gt nx xx : Bool) (V : ByteArray → Int) (h : (nx && xx) = false) : setP (setsM kb old) V 0 (setsL v gt nx xx) = if setsD kb nx xx = true then (setsT kb gt old, setA (setsM kb old) kB (some ((1, v), none)), incV V kB) else (if gt = true then setsT kb gt old else An.nul, setsM kb old, V) := by
  have h0 : ∀ gt nx xx, (nx && xx) = false → rdO ((setsL v gt nx xx).drop 3) Opt.z = some ⟨if nx = true then nxB else if xx = true then xxB else noB, if gt = true then getB else noB, noB, noB⟩ := by
    intro gt nx xx h
    cases gt <;> cases nx <;> cases xx <;> first | (cases h; done) | kernel_rfl
  have h1 := h0 gt nx xx h
  obtain ⟨o, ho⟩ : ∃ o : Opt, (⟨if nx = true then nxB else if xx = true then xxB else noB, if gt = true then getB else noB, noB, noB⟩ : Opt) = o := ⟨_, rfl⟩
  rw [ho] at h1
  have hk1 : (setsL v gt nx xx).getD 1 noB = kB := by cases gt <;> cases nx <;> cases xx <;> rfl
  have hk2 : (setsL v gt nx xx).getD 2 noB = v := by cases gt <;> cases nx <;> cases xx <;> rfl
  have ht : timeP o (endOf (setsM kb old kB)) 0 = (0, none) := by rw [← ho]; exact if_pos rfl
  have hg : o.get = noB ∨ (getP (setsM kb old kB)).code = 0 := .inr (by rw [getP_sets]; cases kb <;> rfl)
  have h2 := setP_rest (M := setsM kb old) (V := V) (t := 0) h1 hk1 (by rw [ht]) hg
  rw [ht, hk2, getP_sets] at h2
  have hi : (setsM kb old kB).isSome = kb := by rw [setsM_at]; cases kb <;> rfl
  rw [hi] at h2
  rw [h2, ← ho]
  have n1 : ¬ nxB = noB := by decide
  have n2 : ¬ xxB = noB := by decide
  have n3 : ¬ getB = noB := by decide
  have n4 : ¬ nxB = xxB := by decide
  have n5 : ¬ noB = xxB := by decide
  cases gt <;> cases nx <;> cases xx <;> cases kb <;> first | (cases h; done) | (simp [setsD, setsT, setE, n1, n2, n3, n4, n5])
theorem sets_bad (kb : Bool) (old v : ByteArray) (gt : Bool) (V : ByteArray → Int) : setP (setsM kb old) V 0 (setsL v gt true true) = (An.no 1, setsM kb old, V) := by
  refine setP_bad ?_
  cases gt <;> kernel_rfl
theorem sets_cmd (v : ByteArray) (gt nx xx : Bool) : cmdP (setsL v gt nx xx) = some ⟨setN, 3, 8, true, 1⟩ := by
  cases gt <;> cases nx <;> cases xx <;> kernel_rfl
theorem sets_sz (v : ByteArray) (gt nx xx : Bool) (hv : v.size ≤ 20) : (∀ k ∈ setsL v gt nx xx, k.size ≤ 4096) ∧ longB (setsL v gt nx xx) = false ∧ (setsL v gt nx xx).length ≤ 8 ∧ 3 ≤ (setsL v gt nx xx).length := by
  have h : ∀ k ∈ setsL v gt nx xx, k.size ≤ 4096 := by
    intro k hk
    have h7 : ∀ b : ByteArray, k = b → b.size ≤ 20 → k.size ≤ 4096 := fun b e h => by rw [e]; omega
    rcases List.mem_append.1 hk with hk | hk
    · rcases List.mem_append.1 hk with hk | hk
      · rcases List.mem_append.1 hk with hk | hk
        · rcases List.mem_cons.1 hk with e | hk
          · exact h7 _ e (by decide)
          · rcases List.mem_cons.1 hk with e | hk
            · exact h7 _ e (by decide)
            · exact h7 _ (List.mem_singleton.1 hk) hv
        · cases gt
          · cases hk
          · exact h7 _ (List.mem_singleton.1 hk) (by decide)
      · cases nx
        · cases hk
        · exact h7 _ (List.mem_singleton.1 hk) (by decide)
    · cases xx
      · cases hk
      · exact h7 _ (List.mem_singleton.1 hk) (by decide)
  refine ⟨h, ?_, ?_, ?_⟩
  · unfold longB
    rw [List.any_eq_false]
    intro k hk
    have := h k hk
    simp
    omega
  · cases gt <;> cases nx <;> cases xx <;> exact Nat.le_of_ble_eq_true rfl
  · cases gt <;> cases nx <;> cases xx <;> exact Nat.le_of_ble_eq_true rfl
end Go.Proofs.YtnajhjmdpaeelaaGreatDoor.Sq
