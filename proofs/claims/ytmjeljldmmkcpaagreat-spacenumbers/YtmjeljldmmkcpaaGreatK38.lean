/- Texts that the others stand on. -/
import Derived.Test.YtmjeljldmmkcpaaGreatK37
import Derived.Test.YtmjeljldmmkcpaaGreatK28
import Derived.Test.YtmjeljldmmkcpaaGreatK36
set_option maxRecDepth 100000
set_option maxHeartbeats 4000000
namespace Go.Proofs.YtmjeljldmmkcpaaGreat.Sq
open Go.RowKit Go.PlainAid
open Dk (ptr Aa Ac Ad Af OwnR OwnP OwnS Mv Am Elt A4)
theorem dueK_idem (t : Int) (r : Kr) : dueK t (dueK t r) = dueK t r := by
 unfold dueK
 split
 ·rw [if_neg (fun h => by have := h.1; simp [Kr.off] at this)]
 ·rfl
theorem dueR_idem (t : Int) (rows : List Kr) : dueR t (dueR t rows) = dueR t rows := by
 unfold dueR
 rw [List.map_map]
 exact List.map_congr_left fun r _ => dueK_idem t r
def CopM (w w' : World) (B m : Nat) (rs : List Kr) (a b : BA) (e : Ending) : Prop :=
 e = .returned (.bool (Bc rs a && !Bc rs b)) ∧ ∃ pa pc la lc, MTo w w' B m (if (Bc rs a && !Bc rs b) = true then updR (sltR rs b) b (putK b (srcR rs a).kd (srcR rs a).tx pa pc la (srcR rs a).ln lc (srcR rs a).ls (srcR rs a).at' (srcR rs a).en) else rs)
theorem CopyM_any (w : World) (B m : Nat) (rows : List Kr) (a b : BA) (t : Int) (H : Md w B m rows) (hv : ∀ r ∈ rows, 0 ≤ r.ver ∧ r.ver < 4611686018427387800) (hlen : rows.length < 1000) (hln : ∀ r ∈ dueR t rows, r.ln ≤ 1000) :
  Calls Tryz.prog 59 #[ptr m, .string a, .string b, .int .i64 t] w fun e w' => CopM w w' B m (dueR t rows) a b e := by
 have hvL : LowM rows := fun r hr => ⟨(hv r hr).1, by have := (hv r hr).2; omega⟩
 have HA := At_any w B m rows a t H hvL
 have HV := hvL.due t
 have HVd : Hid (LowM (dueR t rows)) := fun r hr => by
  obtain ⟨q, hq, rfl⟩ := List.mem_map.1 hr
  have := hv q hq
  unfold dueK
  split
  ·exact ⟨by show 0 ≤ q.ver + 1; omega, by show q.ver + 1 < _; omega⟩
  ·exact ⟨this.1, by omega⟩
 have HLe : Hid ((dueR t rows).length < 1000) := by show List.length _ < _; unfold dueR; rw [List.length_map]; exact hlen
 clear H
 go_enter Tryz.func59, Tryz.ntmps59
 go_wp2_with fail
 refine HA.mono ?_
 rintro e w1 ⟨⟨hm1, hd1⟩, ⟨i, r, rfl, hr, hk, hth⟩ | ⟨rfl, hno⟩⟩
 ·have HA2 := At_any w1 B m (dueR t rows) b t hd1 HVd.out
  rw [dueR_idem] at HA2
  have HM1 : Hid (Mb mtag B w w1) := hm1
  have hneg : decide ((i : Int) < 0) = false := decide_eq_false (by omega)
  have HT : Hid (Bc (dueR t rows) a = true) := thereR_yes hr hk hth
  have HSr : Hid (srcR (dueR t rows) a = r) := srcR_get hd1.nod hr hk
  have hlnr : r.ln ≤ 1000 := hln r (List.mem_of_getElem? hr)
  clear hd1 HA
  go_wp2_with fail
  refine HA2.mono ?_
  rintro e w2 ⟨⟨hm2, hd2⟩, ⟨i2, r2, rfl, hr2, hk2, hth2⟩ | ⟨rfl, hno⟩⟩
  ·have HTb : Hid (Bc (dueR t rows) b = true) := thereR_yes hr2 hk2 hth2
   have hneg2 : decide ((0 : Int) ≤ (i2 : Int)) = true := decide_eq_true (by omega)
   have HE : Hid (MTo w w2 B m (dueR t rows)) := ⟨HM1.out.trans hm2, hd2⟩
   clear hm2 hd2 hr2 hk2 hth2 HA2
   go_wp2
   go_ret
   exact ⟨by rw [HT.out, HTb.out]; rfl, none, 0, none, 0, by rw [HT.out, HTb.out]; exact HE.out⟩
  ·have HTb : Hid (Bc (dueR t rows) b = false) := Ct hno
   have HS := slot_any w2 B m _ b hd2 HLe.out
   have HM2 : Hid (Mb mtag B w w2) := HM1.out.trans hm2
   clear hm2 hd2 HA2
   go_wp2_with fail
   refine HS.mono ?_
   rintro e w3 ⟨k, rs3, q, rfl, hM3, hq, hqb, hor⟩
   have hrs3 := sltR_of hq hqb hor
   have HVr : Hid (∀ q ∈ rs3, 0 ≤ q.ver ∧ q.ver < 4611686018427387901) := by rw [hrs3]; exact sltR_low (by decide) HV
   have hr3 := slt_get hr hor
   have HM3 : Hid (Mb mtag B w w3) := HM2.out.trans hM3.mb
   have HD3 : Hid (Md w3 B m rs3) := hM3.md
   have HRS3 : Hid (rs3 = sltR (dueR t rows) b) := hrs3
   have hfew := hM3.md.few
   have hlt := B1 hr3
   have hltk := B1 hq
   obtain ⟨g, c, hF⟩ := hM3.md.fx hr3
   have hFk := hM3.md.fx2 hq hF.hd
   obtain ⟨n, hn'⟩ : ∃ n, rs3.length = n := ⟨_, rfl⟩
   rw [hn'] at hF hlt hfew hFk hltk
   have hvq := HVr.out q (List.mem_of_getElem? hq)
   have hv1 := hvq.1
   have hv2 := hvq.2
   have hiz : (i : Int) < n := by omega
   have hkz : (k : Int) < n := by omega
   have hi9 : i * 9 ≤ 9000 := by omega
   have hk9 : k * 9 ≤ 9000 := by omega
   have HF : Hid (Fx w3 m g n c i r) := hF
   have HFk : Hid (Fx w3 m g n c k q) := hFk
   have HWq : Hid (IntKind.u64.wrap (q.ver + 1) = q.ver + 1) := wrap_ver hv1 hv2
   have HLn : Hid (r.ln ≤ 1000) := hlnr
   have HL3 : Hid (RdL w3.drew r.la r.ln r.lc r.ls) := (HD3.out.lst r (List.mem_of_getElem? hr3)).keep (Aa w3 1)
   have HS9 : Hid (∀ (w4 : World) (p2 : Option Addr) (c2 : Nat) (l2 : Option Addr) (lc2 : Nat), Below w3.drew.heap.size w3.drew w4 → RdL w4 l2 r.ln lc2 r.ls → MTo w (w4.setCells g (k * 9) (putK b r.kd r.tx p2 c2 l2 r.ln lc2 r.ls r.at' r.en q).cells) B m (updR (sltR (dueR t rows) b) b (putK b r.kd r.tx p2 c2 l2 r.ln lc2 r.ls r.at' r.en))) := fun w4 p2 c2 l2 lc2 hb hl => by
    have hb4 : Below w3.heap.size w3 w4 := (Aa w3 1).trans hb
    have hD4 := HD3.out.keep hb4
    have hF4 := HFk.out.keep hb4
    have h := hD4.set (i := k) (by rw [hn']; omega) (by rw [hn']; exact hF4.hd) (r := putK b r.kd r.tx p2 c2 l2 r.ln lc2 r.ls r.at' r.en q) (by rw [nm_get hq]; exact hqb.symm) hl ⟨by show 0 ≤ q.ver + 1; omega, by show q.ver + 1 < _; omega⟩ rfl
    rw [Cs HD3.out.nod hq hqb (putK b r.kd r.tx p2 c2 l2 r.ln lc2 r.ls r.at' r.en), HRS3.out] at h
    exact ⟨(HM3.out.trans (Mb.of_below hb4 HD3.out.lt)).trans h.2, h.1⟩
   clear hM3 hq hqb hor hrs3 HS hr hk hth hr3 hvq hln hlnr hno
   obtain ⟨f0, ⟨p0, p1, p2, p3, p4, p5, p6, p7, p8⟩, fz⟩ := hF
   obtain ⟨-, ⟨q0, q1, q2, q3, q4, q5, q6, q7, q8⟩, -⟩ := hFk
   have HS1 : Hid (w3.drew.cell? ⟨m, 0, none⟩ = some (.slice (some ⟨g, 0, none⟩) n c) ∧ w3.drew.cell? ⟨g, i * 9 + 2, none⟩ = some (.int .i64 r.kd) ∧ w3.drew.cell? ⟨g, i * 9 + 3, none⟩ = some (.string r.tx) ∧ w3.drew.cell? ⟨g, i * 9 + 4, none⟩ = some (.slice r.pa 0 r.pc) ∧ w3.drew.cell? ⟨g, i * 9 + 5, none⟩ = some (.slice r.la r.ln r.lc) ∧ w3.drew.cell? ⟨g, i * 9 + 6, none⟩ = some (.int .i64 r.at') ∧ w3.drew.cell? ⟨g, i * 9 + 7, none⟩ = some (.bool r.en) ∧ w3.drew.cell? ⟨g, k * 9 + 8, none⟩ = some (.int .u64 q.ver)) := ⟨f0, p2, p3, p4, p5, p6, p7, q8⟩
   clear f0 p0 p1 p2 p3 p4 p5 p6 p7 p8 q0 q1 q2 q3 q4 q5 q6 q7 q8 fz
   go_upto_region 5 with fail
   refine Ag 42 (fun w' => w'.cell? ⟨m, 0, none⟩ = some (.slice (some ⟨g, 0, none⟩) n c) ∧ w'.cell? ⟨g, i * 9 + 2, none⟩ = some (.int .i64 r.kd) ∧ w'.cell? ⟨g, i * 9 + 3, none⟩ = some (.string r.tx) ∧ w'.cell? ⟨g, i * 9 + 4, none⟩ = some (.slice r.pa 0 r.pc) ∧ w'.cell? ⟨g, i * 9 + 5, none⟩ = some (.slice r.la r.ln r.lc) ∧ w'.cell? ⟨g, i * 9 + 6, none⟩ = some (.int .i64 r.at') ∧ w'.cell? ⟨g, i * 9 + 7, none⟩ = some (.bool r.en) ∧ w'.cell? ⟨g, k * 9 + 8, none⟩ = some (.int .u64 q.ver)) [false, false, false, false, false, false, false, false, false, false, false, false, false, false, false, false, false, false, false, false, false, false, false, false, false, false, false, false, false, false, false, false, false, false, false, false, false, false, false, false, false, false, false] ?_
   iterate 14
    refine tk (v := ?_) 0 HS1.out ?_ ?_
    rotate_left
    ·(intro w hSw; (try dsimp only at hSw); go_simp; try with_reducible rfl)
    simp only [Act.put, uA, uB, uC]
   iterate 25
    refine tk (v := ?_) 15 HS1.out ?_ ?_
    rotate_left
    ·(intro w hSw; (try dsimp only at hSw); go_simp; try with_reducible rfl)
    simp only [Act.put, uA, uB, uC]
   refine on1 14 fun K hK => ?_
   go_simp
   refine (CopyVM_any _ r.kd r.tx r.pa r.pc r.la r.ln r.lc r.ls HL3.out HLn.out).mono ?_
   rintro e w4 ⟨hb4, p2, pc2, l2, lc2, rfl, hl4⟩
   have HB4 : Hid (Below w3.drew.heap.size w3.drew w4) := hb4
   have HL4 : Hid (RdL w4 l2 r.ln lc2 r.ls) := hl4
   obtain ⟨f0, ⟨P0, P1, P2, P3, P4, P5, P6, P7, P8⟩, fz4⟩ := HF.out.keep ((Aa w3 1).trans hb4)
   obtain ⟨-, ⟨Q0, Q1, Q2, Q3, Q4, Q5, Q6, Q7, Q8⟩, -⟩ := HFk.out.keep ((Aa w3 1).trans hb4)
   have HS4 : Hid (w4.cell? ⟨m, 0, none⟩ = some (.slice (some ⟨g, 0, none⟩) n c) ∧ w4.cell? ⟨g, i * 9 + 2, none⟩ = some (.int .i64 r.kd) ∧ w4.cell? ⟨g, i * 9 + 3, none⟩ = some (.string r.tx) ∧ w4.cell? ⟨g, i * 9 + 4, none⟩ = some (.slice r.pa 0 r.pc) ∧ w4.cell? ⟨g, i * 9 + 5, none⟩ = some (.slice r.la r.ln r.lc) ∧ w4.cell? ⟨g, i * 9 + 6, none⟩ = some (.int .i64 r.at') ∧ w4.cell? ⟨g, i * 9 + 7, none⟩ = some (.bool r.en) ∧ w4.cell? ⟨g, k * 9 + 8, none⟩ = some (.int .u64 q.ver)) := ⟨f0, P2, P3, P4, P5, P6, P7, Q8⟩
   clear hb4 hl4
   refine hK.out _ _ (fun _ => HS4.out) ?_
   clear hK
   simp only [uA, uB, uC]
   iterate 2
    refine tk (v := ?_) 40 HS4.out ?_ ?_
    rotate_left
    ·(intro w hSw; (try dsimp only at hSw); go_simp; try with_reducible rfl)
    simp only [Act.put, uA, uB, uC]
   refine on1 42 fun K hK => ?_
   go_simp
   refine lst hK ?_
   clear hK
   have HE : Hid (MTo w (w4.setCells g (k * 9) (putK b r.kd r.tx p2 pc2 l2 r.ln lc2 r.ls r.at' r.en q).cells) B m (updR (sltR (dueR t rows) b) b (putK b r.kd r.tx p2 pc2 l2 r.ln lc2 r.ls r.at' r.en))) := HS9.out w4 p2 pc2 l2 lc2 HB4.out HL4.out
   go_wp2
   go_ret
   rw [HWq.out]
   exact ⟨by rw [HT.out, HTb.out]; rfl, p2, pc2, l2, lc2, by rw [HT.out, HTb.out, HSr.out]; exact HE.out⟩
 ·have HT : Hid (Bc (dueR t rows) a = false) := Ct hno
  have HE : Hid (MTo w w1 B m (dueR t rows)) := ⟨hm1, hd1⟩
  clear hm1 hd1 hno HA
  go_wp2
  go_ret
  exact ⟨by rw [HT.out]; rfl, none, 0, none, 0, by rw [HT.out]; exact HE.out⟩
end Go.Proofs.YtmjeljldmmkcpaaGreat.Sq
namespace Go.Proofs.YtmjeljldmmkcpaaGreat.Sq
open Go.RowKit Go.PlainAid
inductive Dv where
 | txt (t : BA)
 | lst (ls : List BA)
def dvK (r : Kr) : Dv := if r.kd = 1 then .txt r.tx else .lst r.ls
def abK (r : Kr) : Option (Dv × Option Int) := if r.th then some (dvK r, if r.en then some r.at' else none) else none
def fndR (rows : List Kr) (k : BA) : Option Kr := rows.find? fun r => decide (r.nm = k)
def mA (rows : List Kr) : AbV Dv := fun k => (fndR rows k).bind abK
theorem Cg (rows : List Kr) (k : BA) : verR rows k = ((fndR rows k).map (·.ver)).getD 0 := rfl
theorem fnd_nil (k : BA) : fndR [] k = none := rfl
theorem fnd_cons (r : Kr) (rows : List Kr) (k : BA) : fndR (r :: rows) k = if r.nm = k then some r else fndR rows k := by
 unfold fndR
 rw [List.find?_cons]
 by_cases h : r.nm = k
 ·rw [if_pos h, decide_eq_true h]
 ·rw [if_neg h, decide_eq_false h]
theorem fnd_nm {rows : List Kr} {k : BA} {r : Kr} (h : fndR rows k = some r) : r.nm = k := by
 have := List.find?_some h
 simpa using this
theorem fnd_mem {rows : List Kr} {k : BA} {r : Kr} (h : fndR rows k = some r) : r ∈ rows := List.mem_of_find?_eq_some h
theorem fnd_none {rows : List Kr} {k : BA} : fndR rows k = none ↔ ∀ r ∈ rows, r.nm ≠ k := by
 unfold fndR
 rw [List.find?_eq_none]
 exact ⟨fun h r hr e => h r hr (decide_eq_true e), fun h r hr e => h r hr (of_decide_eq_true e)⟩
theorem fnd_of {rows : List Kr} (hn : (rows.map (·.nm)).Nodup) {r : Kr} (hr : r ∈ rows) : fndR rows r.nm = some r := by
 obtain ⟨i, hi⟩ := List.mem_iff_getElem?.1 hr
 exact find_row hn hi rfl
theorem fnd_upd (rows : List Kr) (k : BA) (f : Kr → Kr) (hf : ∀ r, r.nm = k → (f r).nm = k) (j : BA) : fndR (updR rows k f) j = if j = k then (fndR rows k).map f else fndR rows j := by
 induction rows with
 | nil => simp [updR, fnd_nil]
 | cons r rows ih =>
  have e : updR (r :: rows) k f = (if r.nm = k then f r else r) :: updR rows k f := rfl
  rw [e, fnd_cons, ih, fnd_cons, fnd_cons]
  by_cases hr : r.nm = k
  ·by_cases hj : j = k
   ·subst hj
    simp [hr, hf r hr]
   ·have h1 : (f r).nm ≠ j := fun e => hj (by rw [← e]; exact hf r hr)
    have h2 : r.nm ≠ j := fun e => hj (by rw [← e]; exact hr)
    simp [hr, h1, hj]
    intro h
    exact absurd h.symm hj
  ·by_cases hj : j = k
   ·subst hj
    simp [hr]
   ·simp [hr, hj]
theorem fnd_map (rows : List Kr) (f : Kr → Kr) (hf : ∀ r, (f r).nm = r.nm) (j : BA) : fndR (rows.map f) j = (fndR rows j).map f := by
 induction rows with
 | nil => rfl
 | cons r rows ih =>
  rw [List.map_cons, fnd_cons, fnd_cons, ih, hf]
  by_cases h : r.nm = j <;> simp [h]
theorem fnd_due (rows : List Kr) (t : Int) (j : BA) : fndR (dueR t rows) j = (fndR rows j).map (dueK t) := fnd_map rows _ (dueK_nm t) j
theorem fnd_append (rows : List Kr) (r : Kr) (j : BA) : fndR (rows ++ [r]) j = (fndR rows j).or (if r.nm = j then some r else none) := by
 induction rows with
 | nil => rw [List.nil_append, fnd_cons, fnd_nil]; rfl
 | cons q rows ih =>
  rw [List.cons_append, fnd_cons, fnd_cons, ih]
  by_cases h : q.nm = j <;> simp [h]
theorem fnd_slt (rows : List Kr) (k j : BA) : fndR (sltR rows k) j = if j = k then some ((fndR rows k).getD (Kr.off k 0)) else fndR rows j := by
 unfold sltR
 by_cases h : (rows.any fun r => decide (r.nm = k)) = true
 ·rw [if_pos h]
  by_cases hj : j = k
  ·subst hj
   rw [if_pos rfl]
   obtain ⟨q, hq, he⟩ := List.any_eq_true.1 h
   cases hf : fndR rows j with
   | none => exact absurd (of_decide_eq_true he) (fnd_none.1 hf q hq)
   | some r => rfl
  ·rw [if_neg hj]
 ·rw [if_neg h, fnd_append]
  have hn : fndR rows k = none := fnd_none.2 fun r hr e => h (List.any_eq_true.2 ⟨r, hr, decide_eq_true e⟩)
  by_cases hj : j = k
  ·subst hj
   rw [if_pos rfl, hn]
   simp [Kr.off]
  ·rw [if_neg hj]
   have : (Kr.off k 0).nm ≠ j := fun e => hj e.symm
   rw [if_neg this, Option.or_none]
theorem mA_at (rows : List Kr) (k : BA) : mA rows k = (fndR rows k).bind abK := rfl
theorem Co (rows : List Kr) (t : Int) : mA (dueR t rows) = dueA (mA rows) t := by
 funext j
 cases hf : fndR rows j with
 | none => simp [dueA, mA_at, fnd_due, hf]
 | some r =>
  simp only [dueA, mA_at, fnd_due, hf, Option.map_some, Option.bind_some]
  unfold dueK abK
  cases h1 : r.th <;> cases h2 : r.en <;> by_cases h3 : r.at' ≤ t <;> simp [h1, h2, h3, Kr.off, dvK]
theorem Cr (rows : List Kr) (t : Int) : verR (dueR t rows) = dueV (mA rows) (verR rows) t := by
 funext j
 cases hf : fndR rows j with
 | none => simp [dueV, mA_at, Cg, fnd_due, hf]
 | some r =>
  simp only [dueV, mA_at, Cg, fnd_due, hf, Option.map_some, Option.bind_some, Option.getD_some]
  unfold dueK abK
  cases r.th <;> cases r.en <;> by_cases h3 : r.at' ≤ t <;> simp [h3, Kr.off]
theorem there_eq {rows : List Kr} (hn : (rows.map (·.nm)).Nodup) (k : BA) : Bc rows k = (mA rows k).isSome := by
 unfold mA
 cases hf : fndR rows k with
 | none => exact Ct fun r hr e => absurd e (fnd_none.1 hf r hr)
 | some r =>
  show _ = (abK r).isSome
  unfold abK
  cases h : r.th with
  | true =>
   obtain ⟨i, hi⟩ := List.mem_iff_getElem?.1 (fnd_mem hf)
   rw [thereR_yes hi (fnd_nm hf) h]
   rfl
  | false =>
   refine Ct fun q hq e => ?_
   have := fnd_of hn hq
   rw [e, hf] at this
   cases this
   exact h
theorem end_eq (rows : List Kr) (k : BA) : endR rows k = endOf (mA rows k) := by
 show (fndR rows k).bind _ = endOf ((fndR rows k).bind abK)
 cases fndR rows k with
 | none => rfl
 | some r =>
  show (if r.th && r.en then some r.at' else none) = endOf (abK r)
  unfold abK endOf
  cases r.th <;> cases r.en <;> rfl
theorem src_eq (rows : List Kr) (k : BA) : abK (srcR rows k) = mA rows k := by
 show abK ((fndR rows k).getD _) = (fndR rows k).bind abK
 cases fndR rows k <;> rfl
theorem mA_upd (rows : List Kr) (k : BA) (f : Kr → Kr) (hf : ∀ r, r.nm = k → (f r).nm = k) : mA (updR rows k f) = setA (mA rows) k (((fndR rows k).map f).bind abK) := by
 funext j
 unfold mA setA
 rw [fnd_upd rows k f hf]
 by_cases h : j = k
 ·simp [h]
 ·simp [h]
theorem ver_upd (rows : List Kr) (k : BA) (f : Kr → Kr) (hf : ∀ r, r.nm = k → (f r).nm = k) (j : BA) : verR (updR rows k f) j = if j = k then (((fndR rows k).map f).map (·.ver)).getD 0 else verR rows j := by
 rw [Cg, fnd_upd rows k f hf, Cg]
 by_cases h : j = k
 ·simp [h]
 ·simp [h]
theorem mA_put (rows : List Kr) (k : BA) (kd : Int) (tx : BA) (pa : Option Addr) (pc : Nat) (la : Option Addr) (ln lc : Nat) (ls : List BA) (u : Int) (en : Bool) :
  mA (updR (sltR rows k) k (putK k kd tx pa pc la ln lc ls u en)) = setA (mA rows) k (some (if kd = 1 then .txt tx else .lst ls, if en then some u else none)) ∧ verR (updR (sltR rows k) k (putK k kd tx pa pc la ln lc ls u en)) = incV (verR rows) k := by
 have hf : ∀ r : Kr, r.nm = k → (putK k kd tx pa pc la ln lc ls u en r).nm = k := fun _ _ => rfl
 refine ⟨?_, ?_⟩
 ·rw [mA_upd _ _ _ hf]
  funext j
  unfold setA
  rw [mA_at, mA_at, fnd_slt, fnd_slt, if_pos rfl]
  by_cases h : j = k
  ·simp [h, putK, abK, dvK]
  ·simp [h]
 ·funext j
  rw [ver_upd _ _ _ hf, fnd_slt, if_pos rfl]
  unfold incV
  rw [Cg, Cg, fnd_slt]
  by_cases h : j = k
  ·subst h
   cases hf : fndR rows j <;> simp [putK, Kr.off]
  ·simp [h]
theorem chg_eq {rows : List Kr} {k : BA} {f : Kr → Kr} (hf : ∀ r, r.nm = k → (f r).nm = k) (hv : ∀ r, (f r).ver = r.ver + 1) {A : AbV Dv} (hA : A = mA rows) (hy : (mA rows k).isSome = true) : verR (updR rows k f) = chgV A (verR rows) k := by
 subst hA
 funext j
 unfold chgV
 rw [ver_upd _ _ _ hf, if_pos hy]
 unfold incV
 by_cases h : j = k
 ·subst h
  rw [if_pos rfl, if_pos rfl, Cg]
  unfold mA at hy
  cases hq : fndR rows j with
  | none => rw [hq] at hy; cases hy
  | some r => simp [hv]
 ·rw [if_neg h, if_neg h]
theorem mA_del {rows : List Kr} (hn : (rows.map (·.nm)).Nodup) (k : BA) : mA (delR rows k) = setA (mA rows) k none ∧ verR (delR rows k) = chgV (mA rows) (verR rows) k := by
 unfold delR
 rw [there_eq hn]
 by_cases h : (mA rows k).isSome = true
 ·rw [if_pos h]
  have hf : ∀ r : Kr, r.nm = k → (Kr.off k (r.ver + 1)).nm = k := fun _ _ => rfl
  refine ⟨?_, chg_eq hf (fun _ => rfl) rfl h⟩
  rw [mA_upd _ _ _ hf]
  cases fndR rows k <;> rfl
 ·rw [if_neg h]
  have hk : mA rows k = none := by simpa using h
  refine ⟨?_, ?_⟩
  ·funext j
   unfold setA
   by_cases hj : j = k
   ·rw [if_pos hj, hj, hk]
   ·rw [if_neg hj]
  ·unfold chgV
   rw [if_neg h]
theorem not_some {α : Type} {o : Option α} (h : ¬ o.isSome = true) : o = none := by simpa using h
theorem setA_congr {α : Type} {A : AbV α} {k : BA} {y z : Option (α × Option Int)} (h : y = z) : setA A k y = setA A k z := by rw [h]
theorem fnd_some {rows : List Kr} {k : BA} (h : (mA rows k).isSome = true) : ∃ r, fndR rows k = some r ∧ r.th = true := by
 rw [mA_at] at h
 cases hf : fndR rows k with
 | none => rw [hf] at h; cases h
 | some r =>
  refine ⟨r, rfl, ?_⟩
  rw [hf] at h
  replace h : (abK r).isSome = true := h
  unfold abK at h
  cases ht : r.th with
  | true => rfl
  | false => rw [ht] at h; cases h
def OnlyK (U U' : BA → Int) (k : BA) (b : Bool) : Prop := ∀ j, if j = k ∧ b = true then U j < U' j ∧ U' j ≤ U j + 2 else U' j = U j
theorem mA_exp {rows : List Kr} (hn : (rows.map (·.nm)).Nodup) (k : BA) (u t : Int) (hs : Still (mA rows) t) :
  mA (expR rows k u t) = expA (mA rows) k u t ∧ OnlyK (verR rows) (verR (expR rows k u t)) k (mA rows k).isSome := by
 unfold expR
 rw [there_eq hn]
 have hf : ∀ r : Kr, r.nm = k → (expK u r).nm = k := fun _ h => h
 by_cases h : (mA rows k).isSome = true
 ·rw [if_pos h]
  obtain ⟨r, hr, ht⟩ := fnd_some h
  have hk : mA rows k = some (dvK r, if r.en then some r.at' else none) := by rw [mA_at, hr]; simp [abK, ht]
  have hk2 : ((fndR rows k).map (expK u)).bind abK = some (dvK r, some u) := by rw [hr]; simp [abK, expK, ht, dvK]
  refine ⟨?_, fun j => ?_⟩
  ·rw [Co, mA_upd _ _ _ hf, hk2]
   unfold expA
   rw [hk]
   funext j
   show dueA (setA (mA rows) k (some (dvK r, some u))) t j = setA (mA rows) k (if u ≤ t then none else some (dvK r, some u)) j
   by_cases hj : j = k
   ·subst hj
    simp only [dueA, Bz]
   ·have h2 := congrFun hs.due j
    simp only [dueA, Cd _ _ hj] at h2 ⊢
    exact h2
  ·rw [Cr, mA_upd _ _ _ hf, hk2]
   by_cases hj : j = k
   ·subst hj
    rw [if_pos ⟨rfl, h⟩]
    simp only [dueV, Bz]
    rw [ver_upd _ _ _ hf, if_pos rfl, Cg, hr]
    simp only [Option.map_some, Option.getD_some, expK]
    split <;> omega
   ·rw [if_neg (fun e => hj e.1)]
    have h2 := congrFun (hs.dueV (verR rows)) j
    simp only [dueV, Cd _ _ hj] at h2 ⊢
    rw [ver_upd _ _ _ hf, if_neg hj]
    exact h2
 ·rw [if_neg h]
  refine ⟨?_, fun j => by rw [if_neg (fun e => h e.2)]⟩
  unfold expA
  rw [not_some h]
theorem mA_per (rows : List Kr) (k : BA) : mA (perR rows k) = perA (mA rows) k ∧ verR (perR rows k) = perV (mA rows) (verR rows) k := by
 unfold perR
 rw [end_eq]
 have hf : ∀ r : Kr, r.nm = k → (perK r).nm = k := fun _ h => h
 unfold perV
 by_cases h : (endOf (mA rows k)).isSome = true
 ·rw [if_pos h, if_pos h]
  have hy : (mA rows k).isSome = true := by
   cases hm : mA rows k with
   | none => rw [hm] at h; cases h
   | some y => rfl
  obtain ⟨r, hr, ht⟩ := fnd_some hy
  have hk : mA rows k = some (dvK r, if r.en then some r.at' else none) := by rw [mA_at, hr]; simp [abK, ht]
  have he : r.en = true := by
   cases he : r.en with
   | true => rfl
   | false => rw [hk, he] at h; cases h
  refine ⟨?_, ?_⟩
  ·rw [mA_upd _ _ _ hf]
   unfold perA
   rw [hk, he]
   refine setA_congr ?_
   rw [hr]
   simp [abK, perK, ht, dvK]
  ·have h3 := chg_eq (f := perK) hf (fun _ => rfl) rfl hy
   rw [h3]
   unfold chgV
   rw [if_pos hy]
 ·rw [if_neg h, if_neg h]
  refine ⟨?_, rfl⟩
  unfold perA
  cases hm : mA rows k with
  | none => rfl
  | some y =>
   obtain ⟨d, o⟩ := y
   cases o with
   | none => rfl
   | some e => rw [hm] at h; exact absurd rfl h
theorem mA_ren {rows : List Kr} (hn : (rows.map (·.nm)).Nodup) (a b : BA) : mA (renR rows a b) = renA (mA rows) a b ∧ verR (renR rows a b) = renV (mA rows) (verR rows) a b := by
 unfold renR renA renV
 rw [there_eq hn]
 by_cases h : (mA rows a).isSome = true
 ·rw [if_pos h, if_pos h, if_pos h]
  obtain ⟨r, hr, ht⟩ := fnd_some h
  by_cases hab : a = b
  ·rw [if_pos hab, if_pos hab, if_pos hab]
   have hf : ∀ r : Kr, r.nm = a → (incK r).nm = a := fun _ h => h
   refine ⟨?_, ?_⟩
   ·rw [mA_upd _ _ _ hf]
    refine setA_self ?_
    rw [mA_at, hr]
    simp [abK, incK, dvK]
   ·rw [chg_eq (f := incK) hf (fun _ => rfl) rfl h]
    unfold chgV
    rw [if_pos h]
  ·rw [if_neg hab, if_neg hab, if_neg hab]
   have hf : ∀ r : Kr, r.nm = a → (Kr.off a (r.ver + 1)).nm = a := fun _ _ => rfl
   have hs : srcR rows a = r := by show (fndR rows a).getD _ = r; rw [hr]; rfl
   obtain ⟨p1, p2⟩ := mA_put rows b r.kd r.tx r.pa r.pc r.la r.ln r.lc r.ls r.at' r.en
   have hm : movK b (srcR rows a) = putK b r.kd r.tx r.pa r.pc r.la r.ln r.lc r.ls r.at' r.en := by rw [hs]; rfl
   rw [hm]
   generalize hR : updR (sltR rows b) b (putK b r.kd r.tx r.pa r.pc r.la r.ln r.lc r.ls r.at' r.en) = rs at p1 p2
   have hka : mA rows a = some (dvK r, if r.en then some r.at' else none) := by rw [mA_at, hr]; simp [abK, ht]
   have hq : fndR rs a = some r := by
    have hf2 : ∀ q : Kr, q.nm = b → (putK b r.kd r.tx r.pa r.pc r.la r.ln r.lc r.ls r.at' r.en q).nm = b := fun _ _ => rfl
    rw [← hR, fnd_upd _ _ _ hf2, if_neg hab, fnd_slt, if_neg hab]
    exact hr
   refine ⟨?_, ?_⟩
   ·rw [mA_upd _ _ _ hf, p1, hq]
    funext j
    simp only [setA]
    by_cases hja : j = a
    ·simp [hja, hab, abK, Kr.off]
    ·by_cases hjb : j = b
     ·simp [hjb, hka, dvK]
      intro e
      exact absurd e.symm hab
     ·simp [hja, hjb]
   ·funext j
    rw [ver_upd _ _ _ hf, p2, hq]
    simp only [incV]
    by_cases hja : j = a
    ·subst hja
     rw [if_pos rfl, if_neg hab, if_pos rfl, Cg, hr]
     rfl
    ·rw [if_neg hja, if_neg hja]
 ·rw [if_neg h, if_neg h, if_neg h]
  exact ⟨rfl, rfl⟩
def emV (d : Dv) : Bool := match d with
 | .txt _ => false
 | .lst ls => decide (ls.length = 0)
def touA (A : AbV Dv) (k : BA) : AbV Dv := match A k with
 | some (d, _) => if emV d = true then setA A k none else A
 | none => A
theorem mA_tou {rows : List Kr} (hn : (rows.map (·.nm)).Nodup) (hok : ∀ r ∈ rows, r.ls.length = r.ln) (k : BA) : mA (touR rows k) = touA (mA rows) k ∧ verR (touR rows k) = chgV (mA rows) (verR rows) k := by
 unfold touR
 rw [there_eq hn]
 have hf : ∀ r : Kr, r.nm = k → (touK r).nm = k := fun r h => by unfold touK; split <;> exact h
 by_cases h : (mA rows k).isSome = true
 ·rw [if_pos h]
  refine ⟨?_, chg_eq (f := touK) hf (fun r => by unfold touK; split <;> rfl) rfl h⟩
  obtain ⟨r, hr, ht⟩ := fnd_some h
  have hk : mA rows k = some (dvK r, if r.en then some r.at' else none) := by rw [mA_at, hr]; simp [abK, ht]
  have he : emV (dvK r) = emR r := by
   unfold emV dvK emR
   by_cases h1 : r.kd = 1
   ·simp [h1]
   ·simp [h1, hok r (fnd_mem hr)]
  rw [mA_upd _ _ _ hf, hr]
  unfold touA
  rw [hk]
  simp only [he, Option.map_some, Option.bind_some]
  unfold touK
  by_cases h2 : emR r = true
  ·rw [if_pos h2, if_pos h2]
   rfl
  ·rw [if_neg h2, if_neg h2]
   refine setA_self ?_
   rw [hk]
   simp [abK, ht, dvK]
 ·rw [if_neg h]
  refine ⟨?_, ?_⟩
  ·unfold touA
   rw [not_some h]
  ·unfold chgV
   rw [if_neg h]
theorem mA_flu (rows : List Kr) : mA (rows.map fluK) = (fun _ => none) ∧ verR (rows.map fluK) = fluV (mA rows) (verR rows) := by
 have hf : ∀ r : Kr, (fluK r).nm = r.nm := fun r => by unfold fluK; split <;> rfl
 refine ⟨?_, ?_⟩
 ·funext j
  rw [mA_at, fnd_map _ _ hf]
  cases fndR rows j with
  | none => rfl
  | some r =>
   simp only [Option.map_some, Option.bind_some]
   unfold fluK abK
   cases h : r.th <;> simp [h, Kr.off]
 ·funext j
  unfold fluV
  rw [Cg, fnd_map _ _ hf, mA_at, Cg]
  cases fndR rows j with
  | none => rfl
  | some r =>
   simp only [Option.map_some, Option.bind_some, Option.getD_some]
   unfold fluK abK
   cases h : r.th <;> simp [Kr.off]
structure DomV {α : Type} (A : AbV α) (ks : List BA) : Prop where
 nod : ks.Nodup
 iff : ∀ k, k ∈ ks ↔ (A k).isSome = true
theorem dom_names {rows : List Kr} (hn : (rows.map (·.nm)).Nodup) : DomV (mA rows) (A3 rows) := by
 refine ⟨?_, fun k => ?_⟩
 ·unfold A3
  exact (List.filter_sublist.map _).nodup hn
 ·unfold A3
  rw [List.mem_map, ← there_eq hn]
  unfold Bc
  rw [List.any_eq_true]
  constructor
  ·rintro ⟨r, hr, rfl⟩
   obtain ⟨h1, h2⟩ := List.mem_filter.1 hr
   exact ⟨r, h1, by simp [h2]⟩
  ·rintro ⟨r, h1, h2⟩
   simp only [Bool.and_eq_true, decide_eq_true_eq] at h2
   exact ⟨r, List.mem_filter.2 ⟨h1, h2.2⟩, h2.1⟩
theorem nod_due {rows : List Kr} (hn : (rows.map (·.nm)).Nodup) (t : Int) : ((dueR t rows).map (·.nm)).Nodup := by
 have e : (dueR t rows).map (·.nm) = rows.map (·.nm) := by
  unfold dueR
  rw [List.map_map]
  exact List.map_congr_left fun r _ => dueK_nm t r
 rw [e]
 exact hn
structure Vl (w : World) (B v : Nat) (ls : List BA) (F : List Nat) : Prop where
 ex : ∃ m most q, VB w v 4 ⟨#[]⟩ (.pointer none) (.pointer none) (ptr m) ∧ QV w B m most ls q F
 low : B ≤ v
theorem Vl.keep {w w' : World} {B v : Nat} {ls : List BA} {F : List Nat} (h : Vl w B v ls F) (hb : Below w.heap.size w w') : Vl w' B v ls F := by
 obtain ⟨m, mo, q, h1, h2⟩ := h.ex
 exact ⟨⟨m, mo, q, h1.keep hb, h2.keep hb⟩, h.low⟩
theorem Vl.down {w : World} {B C v : Nat} {ls : List BA} {F : List Nat} (h : Vl w B v ls F) (hC : C ≤ B) : Vl w C v ls F := by
 obtain ⟨m, mo, q, h1, h2⟩ := h.ex
 exact ⟨⟨m, mo, q, h1, h2.down hC⟩, Nat.le_trans hC h.low⟩
theorem kind_l (w : World) (B v : Nat) (ls : List BA) (F : List Nat) (h : Vl w B v ls F) : Calls Tryz.prog 81 #[ptr v] w fun e w' => e = .returned (.int .i64 4) ∧ w' = w := by
 obtain ⟨m, mo, q, h1, -⟩ := h.ex
 have k0 : w.cell? ⟨v, 0, none⟩ = some (.int .i64 4) := h1.ck
 have k2 := h1.ch
 have k3 := h1.cs
 have k4 := h1.cl
 clear h h1
 go_enter Tryz.func81, Tryz.ntmps81
 go_wp2
 go_ret
 exact ⟨rfl, rfl⟩
theorem Len_l (w : World) (B v : Nat) (ls : List BA) (F : List Nat) (h : Vl w B v ls F) : Calls Tryz.prog 82 #[ptr v] w fun e w' => e = .returned (.int .i64 (ls.length : Nat)) ∧ w' = w := by
 have HK := kind_l w B v ls F h
 obtain ⟨m, mo, q, h1, h2⟩ := h.ex
 have k4 := h1.cl
 have HL := VLen w B m mo q ls F h2
 clear h h1 h2
 go_enter Tryz.func82, Tryz.ntmps82
 go_wp2_with fail
 refine HK.mono ?_
 rintro e w ⟨rfl, rfl⟩
 go_wp2_with fail
 refine HL.mono ?_
 rintro e w ⟨rfl, rfl⟩
 go_wp2
 go_ret
 exact ⟨rfl, rfl⟩
theorem Empty_l (w : World) (B v : Nat) (ls : List BA) (F : List Nat) (h : Vl w B v ls F) : Calls Tryz.prog 36 #[ptr v] w fun e w' => e = .returned (.bool (decide (ls.length = 0))) ∧ Below w.heap.size w w' := by
 have HK := kind_l w B v ls F h
 have HL := Len_l w B v ls F h
 clear h
 generalize ls.length = n at HL ⊢
 by_cases hn : n = 0
 ·subst hn
  go_enter Tryz.func36, Tryz.ntmps36
  go_wp2_with fail
  refine HK.mono ?_
  rintro e w ⟨rfl, rfl⟩
  go_wp2_with fail
  refine HL.mono ?_
  rintro e w ⟨rfl, rfl⟩
  go_wp2
  go_ret
  exact ⟨rfl, Below.refl _ _⟩
 ·have hb : ((n : Int) == 0) = false := by simp; omega
  rw [decide_eq_false hn]
  go_enter Tryz.func36, Tryz.ntmps36
  go_wp2_with fail
  refine HK.mono ?_
  rintro e w ⟨rfl, rfl⟩
  go_wp2_with fail
  refine HL.mono ?_
  rintro e w ⟨rfl, rfl⟩
  go_wp2
  go_ret
  exact ⟨rfl, Below.refl _ _⟩
theorem New_l (x : Nat) (e t : Int) (w : World) :
  Calls Tryz.prog 12 #[.int .i64 4, .int .u64 x, .agg #[.int .i64 e, .int .i64 t]] w fun en w' => Below w.heap.size w w' ∧ ∃ v F, en = .returned (ptr v) ∧ Vl w' w.heap.size v [] F := by
 obtain ⟨w0, hw0⟩ : ∃ w0, w.alloc (.cells #[.int .i64 e, .int .i64 t] 29) = w0 := ⟨_, rfl⟩
 have HB0 : Hid (Below w.heap.size w w0) := by rw [← hw0]; exact Ac w _
 obtain ⟨mo, hmo⟩ : ∃ mo : Nat, max e 1 = mo := ⟨(max e 1).toNat, by omega⟩
 have HN := VNew e w0 mo hmo
 clear hmo
 have hblk : w0.heap[w.heap.size]? = some (.cells #[.int .i64 e, .int .i64 t] 29 (0, 0)) := by rw [← hw0]; exact heap_alloc_new w _
 have hc0 : w0.cell? ⟨w.heap.size, 0, none⟩ = some (.int .i64 e) := by simp [World.cell?, hblk]
 have hc1 : w0.cell? ⟨w.heap.size, 1, none⟩ = some (.int .i64 t) := by simp [World.cell?, hblk]
 clear hblk
 go_enter Tryz.func12, Tryz.ntmps12
 go_wp2_with fail
 refine HN.mono ?_
 rintro en w1 ⟨hb, m, F, rfl, hH⟩
 have HB1 := Ad HB0 hb
 have hBe := Ac w1 (.cells #[.int .i64 4, .string ⟨#[]⟩, .pointer none, .pointer none, ptr m] 74)
 have HR : Hid (Vl (w1.alloc (.cells #[.int .i64 4, .string ⟨#[]⟩, .pointer none, .pointer none, ptr m] 74)) w.heap.size w1.heap.size [] F) := ⟨⟨m, mo, 0, VB.new w1 4 _ _ _ _, (QV.down hH HB0.out.size).keep hBe⟩, HB1.out.size⟩
 have HB2 := Ad HB1 hBe
 clear hb hH HN hBe
 go_wp2
 go_ret
 exact ⟨HB2.out, _, F, rfl, HR.out⟩
theorem Copy_l (w : World) (B v : Nat) (ls : List BA) (F : List Nat) (h : Vl w B v ls F) : Calls Tryz.prog 45 #[ptr v] w fun e w' => Below w.heap.size w w' ∧ ∃ v' F', e = .returned (ptr v') ∧ Vl w' w.heap.size v' ls F' := by
 have HK := kind_l w B v ls F h
 obtain ⟨m, mo, q, k1, hH⟩ := h.ex
 have hbd : Below w.heap.size w w.drew := Aa w 1
 have HBd : Hid (Below w.heap.size w w.drew) := hbd
 have u0 : w.drew.cell? ⟨v, 0, none⟩ = some (.int .i64 4) := (k1.keep hbd).ck
 have u2 := (k1.keep hbd).cl
 have HC := VCopy w.drew B m mo q ls F (hH.keep hbd)
 have HVB : Hid (VB w v 4 ⟨#[]⟩ (.pointer none) (.pointer none) (ptr m)) := k1
 clear h k1 hH hbd
 go_enter Tryz.func45, Tryz.ntmps45
 go_wp2_with fail
 refine HK.mono ?_
 rintro e w ⟨rfl, rfl⟩
 go_upto_region 9 with fail
 go_region_with (first
  | (go_at_call 92; refine HC.mono ?_; rintro e w1 ⟨hb, m', F', rfl, hH'⟩; have HB1 := Ad HBd hb; have HH1 : Hid (QV w1 w.drew.heap.size m' mo ls q F') := hH'; have r0 : w1.cell? ⟨v, 0, none⟩ = some (.int .i64 4) := (HVB.out.keep HB1.out).ck; clear hb hH'))
 all_goals
  have hba := Ac w1 (.cells #[.int .i64 4, .string ⟨#[]⟩, .pointer none, .pointer none, ptr m'] 74)
  have HR : Hid (Vl (w1.alloc (.cells #[.int .i64 4, .string ⟨#[]⟩, .pointer none, .pointer none, ptr m'] 74)) w.heap.size w1.heap.size ls F') := ⟨⟨m', mo, q, VB.new w1 4 _ _ _ _, (HH1.out.down HBd.out.size).keep hba⟩, HB1.out.size⟩
  have HB2 := Ad HB1 hba
  clear hba
  go_wp2
  go_ret
  exact ⟨HB2.out, _, F', rfl, HR.out⟩
end Go.Proofs.YtmjeljldmmkcpaaGreat.Sq
