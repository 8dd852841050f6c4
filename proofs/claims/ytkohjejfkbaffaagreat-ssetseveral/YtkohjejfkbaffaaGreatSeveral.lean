/-
  SsetSeveral.
-/
import Derived.Test.YtkohjejfkbaffaaGreatG23
import Derived.Deep.RegionLaw
namespace Go.Proofs.YtkohjejfkbaffaaGreat
open Go.RowKit Go.PlainAid
open Dk (En Stay hasK putE delE keysOf Dct Dg dtag Turn)

/-- A slice that reads rows of calls; one that reads bools. -/
structure RdKK (w : World) (a : Option Addr) (n : Nat) : Prop where
  max : n ≤ maxLen
  elem : ∀ j, j < n → ∃ b off a' n' c', a = some ⟨b, off, none⟩ ∧ w.cell? ⟨b, off + j, none⟩ = some (.slice a' n' c') ∧ RdK w a' n'
structure RdBl (w : World) (a : Option Addr) (n : Nat) : Prop where
  max : n ≤ maxLen
  elem : ∀ j, j < n → ∃ b off t, a = some ⟨b, off, none⟩ ∧ w.cell? ⟨b, off + j, none⟩ = some (.bool t)
theorem RdKK.keep {w wn : World} {a : Option Addr} {n : Nat} (h : RdKK w a n) (hb : Below w.heap.size w wn) : RdKK wn a n :=
  ⟨h.max, fun j hj => by
    obtain ⟨b, off, a', n', c', e, h1, h2⟩ := h.elem j hj
    exact ⟨b, off, a', n', c', e, by rw [hb.cell (p := ⟨b, _, none⟩) (World.block_lt_of_cell? _ _ h1)]; exact h1, h2.keep hb⟩⟩
theorem RdBl.keep {w wn : World} {a : Option Addr} {n : Nat} (h : RdBl w a n) (hb : Below w.heap.size w wn) : RdBl wn a n :=
  ⟨h.max, fun j hj => by
    obtain ⟨b, off, t, e, h1⟩ := h.elem j hj
    exact ⟨b, off, t, e, by rw [hb.cell (p := ⟨b, _, none⟩) (World.block_lt_of_cell? _ _ h1)]; exact h1⟩⟩
theorem box_cell (wq : World) (v : Value) (t : TypeId) : (wq.alloc (.cells #[v] t)).cell? ⟨wq.heap.size, 0, none⟩ = some v := by simp only [World.cell?]; rw [heap_alloc_new]; rfl
theorem box_kept {wd wc v2 : World} {B i : Nat} {vs : List Value} {sa : Option Addr} {sc : Nat} (hs : OwnV wd B sa i sc vs) (hg : wc.grownBy v2 (sa.map (·.block))) {k : Nat} {u : Value} (hk : wd.heap.size ≤ k) (hc : wc.cell? ⟨k, 0, none⟩ = some u) : v2.cell? ⟨k, 0, none⟩ = some u := by
  have h1 : v2.heap[k]? = wc.heap[k]? := hg.block k (World.block_lt_of_cell? _ _ hc) (fun e => by have := (Dk.OwnR.lt hs e.symm).2.1; omega)
  simp only [World.cell?, h1] at hc ⊢
  exact hc
theorem Md.vmc {w w' : World} {B q E T : Nat} {a : Option Addr} {n c : Nat} {l : List ByteArray} {pk : Bool} (h : Md w B q E T a n c l pk) (hv : Vm w w') : w'.cell? ⟨q, 0, none⟩ = some (.slice a n c) := by
  have h1 := hv.block q _ _ h.blk (by decide)
  have h2 := h.c0
  simp only [World.cell?, h1] at h2 ⊢
  exact h2

/-- Both rows are grown by one, the sets' row first. -/
structure Grow2 (w0 w' : World) (B i : Nat) (vs us : List Value) (v u : Value) (sa' : Option Addr) (sc' : Nat) (pa' : Option Addr) (pc' : Nat) : Prop where
  one : OwnV w' B sa' (i + 1) sc' (vs ++ [v])
  two : OwnG w' B pa' (i + 1) pc' (us ++ [u])
  vm : Vm w0 w'
  low : Below B w0 w'
theorem grow2 {w0 w1 w2 w3 w4 : World} {B i : Nat} {vs us : List Value} {v u : Value} {sa sa' pa pa' : Option Addr} {sc sc' pc pc' n1 n2 : Nat} (hB : B ≤ w0.heap.size)
    (hs : OwnV w0 B sa i sc vs) (hp : OwnG w0 B pa i pc us) (b1 : Below w0.heap.size w0 w1) (g1 : w1.grownBy w2 (sa.map (·.block))) (o1 : OwnV w2 B sa' n1 sc' (vs ++ [v])) (e1 : n1 = i + 1) (b2 : Below w2.heap.size w2 w3) (g2 : w3.grownBy w4 (pa.map (·.block))) (o2 : OwnG w4 B pa' n2 pc' (us ++ [u])) (e2 : n2 = i + 1)
    : Grow2 w0 w4 B i vs us v u sa' sc' pa' pc' := by
  subst e1 e2
  have hs1 : OwnV w1 B sa i sc vs := Dk.OwnR.keep hs b1
  have hp1 : OwnG w1 B pa i pc us := Dk.OwnR.keep hp b1
  have hp2 : OwnG w2 B pa i pc us := Dk.OwnR.grown hp1 g1 (fun k hk e => Dk.OwnR.apart hp1 hs1 (by decide) k hk e)
  have hp3 : OwnG w3 B pa i pc us := Dk.OwnR.keep hp2 b2
  have o13 := Dk.OwnR.keep o1 b2
  have k1 : Below B w0 w1 := b1.mono hB
  have k2 : Below B w1 w2 := Dk.OwnR.below hs1 g1 (Nat.le_trans hB b1.size)
  have hB2 : B ≤ w2.heap.size := Nat.le_trans hB (Nat.le_trans b1.size k2.size)
  have k3 : Below B w2 w3 := b2.mono hB2
  have k4 : Below B w3 w4 := Dk.OwnR.below hp3 g2 (Nat.le_trans hB2 b2.size)
  exact ⟨Dk.OwnR.grown o13 g2 (fun k hk e => Dk.OwnR.apart o13 hp3 (by decide) k hk e), o2, ((Vm.of_below b1).trans (Vm.of_grown hs1 g1 rfl)).trans ((Vm.of_below b2).trans (Vm.of_grown hp3 g2 rfl)), ((k1.trans k2).trans k3).trans k4⟩
/-- The rows at the second append. -/
theorem grow1 {w0 w1 w2 : World} {B i : Nat} {vs us : List Value} {sa pa : Option Addr} {sc pc : Nat} (hs : OwnV w0 B sa i sc vs) (hp : OwnG w0 B pa i pc us) (b1 : Below w0.heap.size w0 w1) (g1 : w1.grownBy w2 (sa.map (·.block))) : OwnG w2 B pa i pc us :=
  Dk.OwnR.grown (Dk.OwnR.keep hp b1) g1 (fun k hk e => Dk.OwnR.apart (Dk.OwnR.keep hp b1) (Dk.OwnR.keep hs b1) (by decide) k hk e)

set_option maxRecDepth 100000 in
set_option maxHeartbeats 4000000 in
theorem severalS_any (x : Nat) (a1 : Option Addr) (n1 cap1 : Nat) (en : Int) (a3 : Option Addr) (n3 cap3 : Nat) (w : World) (hl : RdKK w a1 n1) (hn : RdBl w a3 n3) :
    Calls Tryz.prog 5 #[.int .u64 x, .slice a1 n1 cap1, .int .i64 en, .slice a3 n3 cap3] w fun e w' => e = .returned (.bool true) ∧ Below w.heap.size w w' := by
  have HK : Hid (RdKK w a1 n1) := hl
  have HN : Hid (RdBl w a3 n3) := hn
  have hm1 := hl.max
  have hm3 := hn.max
  unfold maxLen at hm1 hm3
  have HW := fun w => Within_wi en 9 w (by decide)
  have hE9 := wi_le en 9
  generalize wi en 9 = E9 at HW hE9
  clear hl hn
  go_enter Tryz.func5, Tryz.ntmps5
  go_wp2
  go_loopg [9, 10, 11, 12, 13, 14] 4 (fun g sv pv iv v12 v13 v14 wr => ∃ (i : Nat) (sa : Option Addr) (sc : Nat) (pa : Option Addr) (pc : Nat) (ls : List (List ByteArray)), i + g = 4 ∧ iv = .int .i64 i ∧ sv = .slice sa i sc ∧ pv = .slice pa i pc ∧ Hid (Sv wr w.heap.size i sa sc pa pc ls) ∧ Hid (Below w.heap.size w wr))
  case atStart => exact ⟨0, none, 0, none, 0, [], by omega, rfl, rfl, rfl, Sv.start _ _, Below.refl _ _⟩
  case round =>
    obtain ⟨i, sa, sc, pa, pc, ls, hi, rfl, rfl, rfl, HS, HB⟩ := hrel
    have hi4 : i ≤ 4 := by omega
    by_cases hc : (i : Int) < n1 ∧ (i : Int) < 4
    · obtain ⟨h8, h9⟩ := hc
      obtain ⟨b, off, a', n', c', rfl, hci, hRK⟩ := (HK.out.keep HB.out).elem i (by omega)
      obtain ⟨d0, hd0, hd1⟩ := u64_some ((x : Int) + (i : Int))
      obtain ⟨EE, hEE⟩ : ∃ EE, E9 + i = EE := ⟨_, rfl⟩
      have hw1 : IntKind.u64.wrap (i : Int) = i := by rw [IntKind.wrap_u64]; omega
      have hw2 : IntKind.i64.wrap ((E9 : Int) + (i : Int)) = (EE : Int) := by rw [IntKind.wrap_i64]; omega
      have hEE2 : EE ≤ 13 := by omega
      have hbd : Below wr.heap.size wr wr.drew := below_drewN wr 1
      have HMa := made_any d0 EE 20 a' n' c' wr.drew hd1 (by omega) (by decide) (hRK.keep hbd)
      replace HMa : Calls Tryz.prog 9 #[.int .u64 (d0 : Nat), .int .i64 (EE : Nat), .int .i64 20, .slice a' n' c'] wr.drew fun e w' => Made wr.drew w' d0 EE 20 e := HMa
      have hcd : wr.drew.cell? ⟨b, off + i, none⟩ = some (.slice a' n' c') := hci
      have HBd : Hid (Below wr.heap.size wr wr.drew) := hbd
      clear hRK hbd hci hEE
      go_upto_region 6 with fail
      go_cut [12, 13, 14] from 25 to 41 (fun u12 u13 u14 wx => ∃ (m q : Nat) (wy : World), wy = wx ∧ u12 = ptr m ∧ u13 = ptr q ∧ u14 = .bool true ∧ Hid (Below wr.heap.size wr wy) ∧ Hid (∃ l ra rn rc pk F E T, Ss wy wr.drew.heap.size m d0 E T l pk F ∧ Md wy wr.drew.heap.size q E T ra rn rc l pk ∧ l.length ≤ 1600))
      case first =>
        go_region_with (first
          | (go_at_call 18; refine (HW _).mono ?_; rintro e wx ⟨rfl, rfl⟩)
          | (go_at_call 9; refine HMa.mono ?_; rintro e w2 ⟨hb, m, q, l, F, M, rfl, hP, hll, -⟩; have HB2 := step_below HBd hb; obtain ⟨pk, ra, rn, rc, hS, hM, -⟩ := hP; have HR : Hid (∃ l ra rn rc pk F E T, Ss w2 wr.drew.heap.size m d0 E T l pk F ∧ Md w2 wr.drew.heap.size q E T ra rn rc l pk ∧ l.length ≤ 1600) := ⟨l, ra, rn, rc, pk, F, _, _, hS, hM, hll⟩; clear hb hS hM hll))
        all_goals
          go_wp2
          go_meet
          exact ⟨m, q, _, rfl, rfl, rfl, rfl, HB2, HR⟩
      case rest =>
      obtain ⟨m, q, w2, rfl, rfl, rfl, rfl, HB2, HR⟩ := hcut
      obtain ⟨l, ra, rn, rc, pk, F, E, T, hS, hM, hll⟩ := HR.out
      obtain ⟨vs, us, hvs, hus, hlen, hfl, hel⟩ := HS.out
      have HBw2 := step_below HB HB2.out
      have HVs : Hid (OwnV w2 w.heap.size sa i sc vs) := Dk.OwnR.keep hvs HB2.out
      have HUs : Hid (OwnG w2 w.heap.size pa i pc us) := Dk.OwnR.keep hus HB2.out
      have HEl : Hid (∀ j, j < i → ∃ v a' n' c', vs[j]? = some v ∧ us[j]? = some (.slice a' n' c') ∧ SetV w2 v (ls.getD j []) ∧ OwnS w2 0 a' n' c' (ls.getD j [])) := fun j hj => by
        obtain ⟨v, a', n', c', k1, k2, k3, k4⟩ := hel j hj
        exact ⟨v, a', n', c', k1, k2, k3.keep HB2.out, k4.keep HB2.out⟩
      have HLs : Hid (ls.length = i ∧ ls.flatten.length ≤ 1600 * i ∧ vs.length = i ∧ us.length = i) := ⟨hlen, hfl, by have := Dk.OwnR.len hvs; omega, by have := Dk.OwnR.len hus; omega⟩
      have HV : Hid (SetV w2 (ptr m) l) := .inr ⟨_, _, _, _, _, _, _, rfl, hS⟩
      have HRw : Hid (OwnS w2 0 ra rn rc l) := Dk.OwnR.low hM.row (Nat.zero_le _)
      have HLl : Hid (l.length ≤ 1600) := hll
      have HMc : Hid (Md w2 wr.drew.heap.size q E T ra rn rc l pk) := hM
      have HBs : Hid (w.heap.size ≤ w2.heap.size) := HBw2.out.size
      have hfit1 : (i + 1) * 8 ≤ 140737488355328 := by omega
      have hfit2 : (i + 1) * 24 ≤ 140737488355328 := by omega
      have hfit3 : i + 1 ≤ maxLen := by unfold maxLen; omega
      clear hS hM hll hvs hus hlen hfl hel HR hcd HMa HBd HS HB2
      have hnil : (∃ t : Bool, (((i : Int) < n3 ∧ ∃ b3 off3, a3 = some ⟨b3, off3, none⟩ ∧ w2.cell? ⟨b3, off3 + i, none⟩ = some (.bool t)) ∨ (¬ (i : Int) < n3 ∧ t = false))) := by
        by_cases h : (i : Int) < n3
        · obtain ⟨b3, off3, t, e, h1⟩ := (HN.out.keep HBw2.out).elem i (by omega)
          exact ⟨t, .inl ⟨h, b3, off3, e, h1⟩⟩
        · exact ⟨false, .inr ⟨h, rfl⟩⟩
      obtain ⟨t, hnil⟩ := hnil
      go_upto_region 9 with fail
      go_cut [53] from 44 to 53 (fun u53 wx => w2 = wx ∧ u53 = .bool t)
      case first =>
        rcases hnil with ⟨h10, b3, off3, rfl, hc3⟩ | ⟨h10, rfl⟩
        · cases t
          all_goals
            go_wp2
            go_meet
            exact ⟨rfl, rfl⟩
        · go_wp2
          go_meet
          exact ⟨rfl, rfl⟩
      case rest =>
      obtain ⟨rfl, rfl⟩ := hcut
      clear hnil
      cases t
      · have hbd : Below w2.heap.size w2 w2.drew := below_drewN w2 1
        obtain ⟨O1, hO1⟩ : ∃ O1, Obj.cells #[ptr m] 27 (0, 0) = O1 := ⟨_, rfl⟩
        obtain ⟨O2, hO2⟩ : ∃ O2, Obj.cells #[.slice ra rn rc] 40 (0, 0) = O2 := ⟨_, rfl⟩
        have hbA : Below w2.drew.heap.size w2.drew (w2.drew.alloc O1) := alloc_below w2.drew O1
        have hb2 : Below w2.drew.heap.size w2.drew (w2.drew.alloc O2) := alloc_below w2.drew O2
        have hb12 : Below w2.drew.heap.size w2.drew ((w2.drew.alloc O1).alloc O2) := hbA.trans ((alloc_below (w2.drew.alloc O1) O2).mono hbA.size)
        have hb21 : Below w2.drew.heap.size w2.drew ((w2.drew.alloc O2).alloc O1) := hb2.trans ((alloc_below (w2.drew.alloc O2) O1).mono hb2.size)
        have HVd : Hid (OwnV w2.drew w.heap.size sa i sc vs) := Dk.OwnR.keep HVs.out hbd
        have HUd : Hid (OwnG w2.drew w.heap.size pa i pc us) := Dk.OwnR.keep HUs.out hbd
        have HMd := HMc.out.keep hbd
        have HMk : Hid (Md w2.drew wr.drew.heap.size q E T ra rn rc l pk) := HMd
        have HSd : Hid (w2.drew.cell? ⟨q, 0, none⟩ = some (.slice ra rn rc)) := HMd.c0
        have HSA : Hid ((w2.drew.alloc O1).cell? ⟨q, 0, none⟩ = some (.slice ra rn rc)) := (HMd.keep hbA).c0
        have HS2 : Hid ((w2.drew.alloc O2).cell? ⟨q, 0, none⟩ = some (.slice ra rn rc)) := (HMd.keep hb2).c0
        have HS12 : Hid (((w2.drew.alloc O1).alloc O2).cell? ⟨q, 0, none⟩ = some (.slice ra rn rc)) := (HMd.keep hb12).c0
        have HS21 : Hid (((w2.drew.alloc O2).alloc O1).cell? ⟨q, 0, none⟩ = some (.slice ra rn rc)) := (HMd.keep hb21).c0
        have HBA : Hid (Below w2.drew.heap.size w2.drew (w2.drew.alloc O1)) := hbA
        have HB12 : Hid (Below w2.drew.heap.size w2.drew ((w2.drew.alloc O1).alloc O2)) := hb12
        have HB21 : Hid (Below w2.drew.heap.size w2.drew ((w2.drew.alloc O2).alloc O1)) := hb21
        have HBsd : Hid (w.heap.size ≤ w2.drew.heap.size) := HBs.out
        have hcl : ∀ (wq : World) (v : Value) (t : TypeId), (wq.alloc (.cells #[v] t)).cell? ⟨wq.heap.size, 0, none⟩ = some v := fun wq v t => by simp only [World.cell?]; rw [heap_alloc_new]; rfl
        have HxA : Hid ((w2.drew.alloc O1).cell? ⟨w2.drew.heap.size, 0, none⟩ = some (ptr m)) := by rw [← hO1]; exact hcl _ _ _
        have Hx12 : Hid (((w2.drew.alloc O1).alloc O2).cell? ⟨w2.drew.heap.size, 0, none⟩ = some (ptr m)) := by
          show _ = _
          rw [(alloc_below (w2.drew.alloc O1) O2).cell (p := ⟨w2.drew.heap.size, 0, none⟩) (World.block_lt_of_cell? _ _ HxA.out)]
          exact HxA.out
        have Hx21 : Hid (((w2.drew.alloc O2).alloc O1).cell? ⟨(w2.drew.alloc O2).heap.size, 0, none⟩ = some (ptr m)) := by rw [← hO1]; exact hcl _ _ _
        have Hy12 : Hid (((w2.drew.alloc O1).alloc O2).cell? ⟨(w2.drew.alloc O1).heap.size, 0, none⟩ = some (.slice ra rn rc)) := by rw [← hO2]; exact hcl _ _ _
        have hy2 : (w2.drew.alloc O2).cell? ⟨w2.drew.heap.size, 0, none⟩ = some (.slice ra rn rc) := by rw [← hO2]; exact hcl _ _ _
        have Hy21 : Hid (((w2.drew.alloc O2).alloc O1).cell? ⟨w2.drew.heap.size, 0, none⟩ = some (.slice ra rn rc)) := by
          show _ = _
          rw [(alloc_below (w2.drew.alloc O2) O1).cell (p := ⟨w2.drew.heap.size, 0, none⟩) (World.block_lt_of_cell? _ _ hy2)]
          exact hy2
        have HyD : Hid (∀ wq : World, (wq.alloc O2).cell? ⟨wq.heap.size, 0, none⟩ = some (.slice ra rn rc)) := fun wq => by rw [← hO2]; exact hcl _ _ _
        clear hbA hb2 hb12 hb21 HMd hcl hy2 hbd
        go_upto_region 11 with fail
        go_region_held3 (fun w' => w'.cell? ⟨q, 0, none⟩ = some (.slice ra rn rc)) (first | exact HSe.out | exact HSvB.out | exact HSv.out | exact HSd.out | exact HSA.out | exact HS2.out | exact HS12.out | exact HS21.out) (first
            | (refine Dk.step_append_r rfl (.tmp 64) (.tmp 69) rfl eltG w.heap.size (by simp [Act.eval] <;> rfl) (Dk.OwnR.keep HU2.out (alloc_below v2 O2)) [.slice ra rn rc] (by simp [Act.eval] <;> rfl) rfl (one_cell (HyD.out v2)) (by simp [Value.oneCell']) (by decide) hfit2 hfit3 (Nat.le_trans HsV.out (alloc_below v2 O2).size) ?_; intro pa2 pn2 pc2 v4 hn4 HO4 HG4 _; subst hn4; have HGr : Hid (Grow2 w2.drew v4 w.heap.size i vs us (ptr m) (.slice ra rn rc) sa2 sc2 pa2 pc2) := grow2 HBsd.out HVd.out HUd.out HBc.out HG2.out HO2.out rfl (alloc_below v2 O2) HG4.out HO4.out rfl; have HSe : Hid (v4.cell? ⟨q, 0, none⟩ = some (.slice ra rn rc)) := HMk.out.vmc HGr.out.vm)
            | (refine Dk.step_append_r rfl (.tmp 64) (.tmp 69) rfl eltG w.heap.size (by simp [Act.eval] <;> rfl) HU2.out [.slice ra rn rc] (by simp [Act.eval] <;> rfl) rfl (one_cell HyE.out) (by simp [Value.oneCell']) (by decide) hfit2 hfit3 HsV.out ?_; intro pa2 pn2 pc2 v4 hn4 HO4 HG4 _; subst hn4; have HGr : Hid (Grow2 w2.drew v4 w.heap.size i vs us (ptr m) (.slice ra rn rc) sa2 sc2 pa2 pc2) := grow2 HBsd.out HVd.out HUd.out HBc.out HG2.out HO2.out rfl (Below.refl _ _) HG4.out HO4.out rfl; have HSe : Hid (v4.cell? ⟨q, 0, none⟩ = some (.slice ra rn rc)) := HMk.out.vmc HGr.out.vm)
            | (refine Dk.step_append_r rfl (.tmp 60) (.tmp 62) rfl eltV w.heap.size (by simp [Act.eval] <;> rfl) (Dk.OwnR.keep HVd.out HBA.out) [ptr m] (by simp [Act.eval] <;> rfl) rfl (one_cell HxA.out) (by simp [Value.oneCell']) (by decide) hfit1 hfit3 (Nat.le_trans HBsd.out HBA.out.size) ?_; intro sa2 sn2 sc2 v2 hn2 HO2 HG2 _; subst hn2; have HBc := HBA; have HU2 : Hid (OwnG v2 w.heap.size pa i pc us) := grow1 HVd.out HUd.out HBA.out HG2.out; have Hvm : Hid (Vm w2.drew v2) := (Vm.of_below HBA.out).trans (Vm.of_grown (Dk.OwnR.keep HVd.out HBA.out) HG2.out rfl); have HSv : Hid (v2.cell? ⟨q, 0, none⟩ = some (.slice ra rn rc)) := HMk.out.vmc Hvm.out; have HSvB : Hid ((v2.alloc O2).cell? ⟨q, 0, none⟩ = some (.slice ra rn rc)) := HMk.out.vmc (Hvm.out.trans (Vm.of_below (alloc_below v2 O2))); have HsV : Hid (w.heap.size ≤ v2.heap.size) := Nat.le_trans HBsd.out Hvm.out.size)
            | (refine Dk.step_append_r rfl (.tmp 60) (.tmp 62) rfl eltV w.heap.size (by simp [Act.eval] <;> rfl) (Dk.OwnR.keep HVd.out HB12.out) [ptr m] (by simp [Act.eval] <;> rfl) rfl (one_cell Hx12.out) (by simp [Value.oneCell']) (by decide) hfit1 hfit3 (Nat.le_trans HBsd.out HB12.out.size) ?_; intro sa2 sn2 sc2 v2 hn2 HO2 HG2 _; subst hn2; have HBc := HB12; have HU2 : Hid (OwnG v2 w.heap.size pa i pc us) := grow1 HVd.out HUd.out HB12.out HG2.out; have Hvm : Hid (Vm w2.drew v2) := (Vm.of_below HB12.out).trans (Vm.of_grown (Dk.OwnR.keep HVd.out HB12.out) HG2.out rfl); have HSv : Hid (v2.cell? ⟨q, 0, none⟩ = some (.slice ra rn rc)) := HMk.out.vmc Hvm.out; have HsV : Hid (w.heap.size ≤ v2.heap.size) := Nat.le_trans HBsd.out Hvm.out.size; have HyE : Hid (v2.cell? ⟨(w2.drew.alloc O1).heap.size, 0, none⟩ = some (.slice ra rn rc)) := box_kept HVd.out HG2.out HBA.out.size Hy12.out)
            | (refine Dk.step_append_r rfl (.tmp 60) (.tmp 62) rfl eltV w.heap.size (by simp [Act.eval] <;> rfl) (Dk.OwnR.keep HVd.out HB21.out) [ptr m] (by simp [Act.eval] <;> rfl) rfl (one_cell Hx21.out) (by simp [Value.oneCell']) (by decide) hfit1 hfit3 (Nat.le_trans HBsd.out HB21.out.size) ?_; intro sa2 sn2 sc2 v2 hn2 HO2 HG2 _; subst hn2; have HBc := HB21; have HU2 : Hid (OwnG v2 w.heap.size pa i pc us) := grow1 HVd.out HUd.out HB21.out HG2.out; have Hvm : Hid (Vm w2.drew v2) := (Vm.of_below HB21.out).trans (Vm.of_grown (Dk.OwnR.keep HVd.out HB21.out) HG2.out rfl); have HSv : Hid (v2.cell? ⟨q, 0, none⟩ = some (.slice ra rn rc)) := HMk.out.vmc Hvm.out; have HsV : Hid (w.heap.size ≤ v2.heap.size) := Nat.le_trans HBsd.out Hvm.out.size; have HyE : Hid (v2.cell? ⟨w2.drew.heap.size, 0, none⟩ = some (.slice ra rn rc)) := box_kept HVd.out HG2.out (Nat.le_refl _) Hy21.out))
        all_goals
          have HS4 : Hid (Sv v4 w.heap.size (i + 1) sa2 sc2 pa2 pc2 (ls ++ [l])) := Sv.more HLs.out.1 HLs.out.2.1 HEl.out HLs.out.2.2.1 HLs.out.2.2.2 ((Vm.of_below (below_drewN w2 1)).trans HGr.out.vm) HGr.out.one HGr.out.two HV.out HRw.out HLl.out
          have HB4 : Hid (Below w.heap.size w v4) := (HBw2.out.trans ((below_drewN w2 1).mono HBw2.out.size)).trans HGr.out.low
          clear HGr
          go_wp2
          go_roundg (gk - 1)
          case measure => omega
          case rel => exact ⟨i + 1, sa2, sc2, pa2, pc2, ls ++ [l], by omega, by go_num, rfl, rfl, HS4, HB4⟩
      · have hw8 : w.heap.size ≤ (w2.alloc (.cells #[.pointer none] 27)).heap.size := Nat.le_trans HBs.out (alloc_below w2 _).size
        have HW8 : Hid (w.heap.size ≤ (w2.alloc (.cells #[.pointer none] 27)).heap.size) := hw8
        clear hw8
        go_wp2_with (at_builtin; first
          | (refine Dk.append_r rfl (.tmp 54) (.tmp 55) rfl eltV w.heap.size rfl (Dk.OwnR.keep HVs.out (alloc_below w2 _)) [.pointer none] rfl rfl (one_cell (box_cell w2 _ _)) (by simp [Value.oneCell']) (by decide) hfit1 hfit3 HW8.out ?_; intro sa2 sn2 sc2 v2 hn2 HO2 HG2 _; subst hn2; have HU2 : Hid (OwnG v2 w.heap.size pa i pc us) := grow1 HVs.out HUs.out (alloc_below w2 _) HG2.out; have HsV : Hid (w.heap.size ≤ (v2.alloc (.cells #[.slice none 0 0] 40)).heap.size) := Nat.le_trans (Nat.le_trans HW8.out (Dk.OwnR.below (Dk.OwnR.keep HVs.out (alloc_below w2 _)) HG2.out HW8.out).size) (alloc_below v2 _).size)
          | (refine Dk.append_r rfl (.tmp 57) (.tmp 58) rfl eltG w.heap.size rfl (Dk.OwnR.keep HU2.out (alloc_below v2 _)) [.slice none 0 0] rfl rfl (one_cell (box_cell v2 _ _)) (by simp [Value.oneCell']) (by decide) hfit2 hfit3 HsV.out ?_; intro pa2 pn2 pc2 v4 hn4 HO4 HG4 _; subst hn4; have HGr : Hid (Grow2 w2 v4 w.heap.size i vs us (.pointer none) (.slice none 0 0) sa2 sc2 pa2 pc2) := grow2 HBs.out HVs.out HUs.out (alloc_below w2 _) HG2.out HO2.out rfl (alloc_below v2 _) HG4.out HO4.out rfl))
        have HS4 : Hid (Sv v4 w.heap.size (i + 1) sa2 sc2 pa2 pc2 (ls ++ [[]])) := Sv.more HLs.out.1 HLs.out.2.1 HEl.out HLs.out.2.2.1 HLs.out.2.2.2 HGr.out.vm HGr.out.one HGr.out.two (.inl ⟨rfl, rfl⟩) (Dk.OwnR.nil _ _ _ _) (Nat.zero_le _)
        have HB4 : Hid (Below w.heap.size w v4) := HBw2.out.trans HGr.out.low
        clear HGr
        go_roundg (gk - 1)
        case measure => omega
        case rel => exact ⟨i + 1, sa2, sc2, pa2, pc2, ls ++ [[]], by omega, by go_num, rfl, rfl, HS4, HB4⟩
    · have hcz : ((i : Int) < n1 ∧ ¬ (i : Int) < 4) ∨ ¬ (i : Int) < n1 := by omega
      obtain ⟨hT, hG, hsc⟩ := HS.out.rdt hi4
      have hfl : ls.flatten.length ≤ 6400 := by obtain ⟨_, _, _, _, _, h, _⟩ := HS.out; omega
      have HT : Hid (RdT wr sa i ls) := hT
      have HG : Hid (RdG wr pa i ls) := hG
      have HFl : Hid (ls.flatten.length ≤ 6400) := hfl
      have HI := Inter_any sa i sc ls wr hT (by omega)
      have HDi : Hid (∀ w', Below wr.heap.size wr w' → Calls Tryz.prog 16 #[.slice sa i sc] w' fun e w2 => Tells w' w2 (fun r => ∀ r2, sevP (fun i m => i == 0 && m == 1) ls r2 → r.Perm r2) e) := by
        intro w' hb
        have hT' := hT.keep hb
        cases ls with
        | nil =>
          obtain rfl : 0 = i := hT.len
          refine (Diff_none sa sc w').mono ?_
          rintro e w2 ⟨rfl, rfl⟩
          exact ⟨Below.refl _ _, none, 0, 0, [], rfl, Dk.OwnR.nil _ _ _ _, fun r2 h2 => by rw [sev_none h2]⟩
        | cons l0 lt =>
          refine (Diff_some sa i sc l0 lt w' hT' hsc (by omega)).mono ?_
          rintro e w2 ⟨hb2, a2, n2, c2, r, h1, h2, h3⟩
          exact ⟨hb2, a2, n2, c2, r, h1, h2, fun r2 hr => sev_diff hr h3⟩
      clear hT hG hfl hsc
      rcases hcz with ⟨h8, h9⟩ | h8
      all_goals
        clear hc
        go_wp2_with fail
        refine HI.mono ?_
        rintro e w2 ⟨hb, xa, xn, xc, rx, rfl, hO, hX⟩
        have HB2 : Hid (Below wr.heap.size wr w2) := hb
        have HOx : Hid (OwnS w2 wr.heap.size xa xn xc rx) := hO
        have HX : Hid (IntP ls rx) := hX
        have HSv := Several_inter pa i pc ls w2 (HG.out.keep hb) (by have := HFl.out; omega)
        have hxn : xn ≤ 6400 := by have h1 := hO.len; have h2 := hX.2; have := HFl.out; omega
        clear hb hO hX
        go_wp2_with fail
        refine HSv.mono ?_
        rintro e w3 ⟨hb, ya, yn, yc, ry, rfl, hO, hY⟩
        have HB3 := step_below HB2 hb
        have hp := sev_inter hY HX.out
        have hyn : xn = yn := by rw [← hO.len, ← hp.length_eq]; exact HOx.out.len.symm
        subst hyn
        have HBg := BagS wr.heap.size w2.heap.size xa ya xn xc yc rx ry w3 (HOx.out.keep hb) hO (by omega) hp
        clear hb hO hY hp HSv
        go_wp2_with fail
        refine HBg.mono ?_
        rintro e w4 ⟨rfl, hb⟩
        have HB4 := step_below HB3 hb
        have HU := Union_any sa i sc ls w4 (HT.out.keep HB4.out) (by have := HFl.out; omega)
        clear hb HBg HOx HX
        go_wp2_with fail
        refine HU.mono ?_
        rintro e w5 ⟨hb, ua, un, uc, ru, rfl, hO, hU⟩
        have HB5 := step_below HB4 hb
        have HOu : Hid (OwnS w5 w4.heap.size ua un uc ru) := hO
        have HUu : Hid (UniP ls ru) := hU
        have HSv := Several_union pa i pc ls w5 (HG.out.keep HB5.out) (by have := HFl.out; omega)
        have hun : un ≤ 6400 := by have h1 := hO.len; have h2 := hU.2; have := HFl.out; omega
        clear hb hO hU HU
        go_wp2_with fail
        refine HSv.mono ?_
        rintro e w6 ⟨hb, ya, yn, yc, ry, rfl, hO, hY⟩
        have HB6 := step_below HB5 hb
        have hp := sev_union hY HUu.out
        have hyn : un = yn := by rw [← hO.len, ← hp.length_eq]; exact HOu.out.len.symm
        subst hyn
        have HBg := BagS w4.heap.size w5.heap.size ua ya un uc yc ru ry w6 (HOu.out.keep hb) hO (by omega) hp
        clear hb hO hY hp HSv
        go_wp2_with fail
        refine HBg.mono ?_
        rintro e w7 ⟨rfl, hb⟩
        have HB7 := step_below HB6 hb
        have HD := HDi.out w7 HB7.out
        clear hb HBg HOu HUu
        go_wp2_with fail
        refine HD.mono ?_
        rintro e w8 ⟨hb, da, dn, dc, rd, rfl, hO, hD⟩
        have HB8 := step_below HB7 hb
        have HOd : Hid (OwnS w8 w7.heap.size da dn dc rd) := hO
        have HDd : Hid (∀ r2, sevP (fun i m => i == 0 && m == 1) ls r2 → rd.Perm r2) := hD
        have HSv := Several_diff pa i pc ls w8 (HG.out.keep HB8.out) (by have := HFl.out; omega)
        clear hb hO hD HD
        go_wp2_with fail
        refine HSv.mono ?_
        rintro e w9 ⟨hb, ya, yn, yc, ry, rfl, hO, hY⟩
        have HB9 := step_below HB8 hb
        have hp := HDd.out ry hY
        have hyn : dn = yn := by rw [← hO.len, ← hp.length_eq]; exact HOd.out.len.symm
        subst hyn
        have HBg := BagS w7.heap.size w8.heap.size da ya dn dc yc rd ry w9 (HOd.out.keep hb) hO (by have h1 := hO.len; have h2 := hY.2.2; have := HFl.out; omega) hp
        clear hb hO hY hp HSv
        go_wp2_with fail
        refine HBg.mono ?_
        rintro e w10 ⟨rfl, hb⟩
        have HB10 := step_below HB9 hb
        clear hb HBg
        go_wp2_with fail
        refine (known_any _).mono ?_
        rintro e w11 ⟨rfl, hb⟩
        have HB11 := step_below HB10 hb
        clear hb
        go_wp2
        go_ret
        exact ⟨rfl, HB.out.trans (HB11.out.mono HB.out.size)⟩
end Go.Proofs.YtkohjejfkbaffaaGreat
