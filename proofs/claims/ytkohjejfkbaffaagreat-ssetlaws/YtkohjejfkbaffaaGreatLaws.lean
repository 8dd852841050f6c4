/-
  SsetLaws.
-/
import Derived.Test.YtkohjejfkbaffaaGreatG21
import Derived.Test.YtkohjejfkbaffaaGreatG19
namespace Go.Proofs.YtkohjejfkbaffaaGreat
open Go.RowKit Go.PlainAid
open Dk (En Stay hasK putE delE keysOf Dct Dg dtag Turn)

theorem RdT.two (w : World) (v1 v2 : Value) (l1 l2 : List ByteArray) (h1 : SetV w v1 l1) (h2 : SetV w v2 l2) : RdT (w.alloc (.cells #[v1, v2] 27)) (some ⟨w.heap.size, 0, none⟩) 2 [l1, l2] :=
  ⟨rfl, by decide, fun j hj => by
    have hc : ∀ i, (w.alloc (.cells #[v1, v2] 27)).cell? ⟨w.heap.size, i, none⟩ = #[v1, v2][i]? := fun i => by simp only [World.cell?]; rw [heap_alloc_new]; rfl
    match j, hj with
    | 0, _ => exact ⟨w.heap.size, 0, v1, rfl, hc 0, h1.keep (alloc_below w _)⟩
    | 1, _ => exact ⟨w.heap.size, 0, v2, rfl, hc 1, h2.keep (alloc_below w _)⟩⟩
theorem Tells.from {w w' : World} {o : Obj} {P : List ByteArray → Prop} {e : Ending} (h : Tells (w.alloc o) w' P e) : Tells w w' P e := by
  obtain ⟨hb, a, n, c, r, h1, h2, h3⟩ := h
  have h0 := alloc_below w o
  exact ⟨h0.trans (hb.mono h0.size), a, n, c, r, h1, Dk.OwnR.low h2 h0.size, h3⟩
theorem Inter_two (w : World) (v1 v2 : Value) (l1 l2 : List ByteArray) (h1 : SetV w v1 l1) (h2 : SetV w v2 l2) (hl : l1.length ≤ 1600) (hm : l2.length ≤ 1600) :
    Calls Tryz.prog 14 #[.slice (some ⟨w.heap.size, 0, none⟩) 2 2] (w.alloc (.cells #[v1, v2] 27)) fun e w' => Tells w w' (IntP [l1, l2]) e :=
  (Inter_any _ 2 2 [l1, l2] _ (RdT.two w v1 v2 l1 l2 h1 h2) (by simp; omega)).mono fun _ _ h => h.from
theorem Union_two (w : World) (v1 v2 : Value) (l1 l2 : List ByteArray) (h1 : SetV w v1 l1) (h2 : SetV w v2 l2) (hl : l1.length ≤ 1600) (hm : l2.length ≤ 1600) :
    Calls Tryz.prog 15 #[.slice (some ⟨w.heap.size, 0, none⟩) 2 2] (w.alloc (.cells #[v1, v2] 27)) fun e w' => Tells w w' (UniP [l1, l2]) e :=
  (Union_any _ 2 2 [l1, l2] _ (RdT.two w v1 v2 l1 l2 h1 h2) (by simp; omega)).mono fun _ _ h => h.from
theorem Diff_two (w : World) (v1 v2 : Value) (l1 l2 : List ByteArray) (h1 : SetV w v1 l1) (h2 : SetV w v2 l2) (hl : l1.length ≤ 1600) (hm : l2.length ≤ 1600) :
    Calls Tryz.prog 16 #[.slice (some ⟨w.heap.size, 0, none⟩) 2 2] (w.alloc (.cells #[v1, v2] 27)) fun e w' => Tells w w' (DifP [l1, l2]) e :=
  (Diff_some _ 2 2 l1 [l2] _ (RdT.two w v1 v2 l1 l2 h1 h2) (by decide) (by simp; omega)).mono fun _ _ h => h.from
theorem IntP.mem {l1 l2 r : List ByteArray} (h : IntP [l1, l2] r) (s : ByteArray) : s ∈ r ↔ s ∈ l1 ∧ s ∈ l2 := by rw [h.1.2 s]; simp
theorem UniP.mem {l1 l2 r : List ByteArray} (h : UniP [l1, l2] r) (s : ByteArray) : s ∈ r ↔ s ∈ l1 ∨ s ∈ l2 := by rw [h.1.2 s]; simp
theorem DifP.mem {l1 l2 r : List ByteArray} (h : DifP [l1, l2] r) (s : ByteArray) : s ∈ r ↔ s ∈ l1 ∧ s ∉ l2 := by
  rw [h.1.2 s]
  constructor
  · rintro ⟨l0, lt, e, h1, h2⟩
    cases e
    exact ⟨h1, h2 l2 (by simp)⟩
  · rintro ⟨h1, h2⟩
    exact ⟨l1, [l2], rfl, h1, fun l hl => by rw [List.mem_singleton.1 hl]; exact h2⟩
/-- Rows of the same, each once. -/
theorem perm_of {l r : List ByteArray} (hl : l.Nodup) (hr : r.Nodup) (h : ∀ s, s ∈ l ↔ s ∈ r) : l.Perm r := (List.perm_ext_iff_of_nodup hl hr).2 h
theorem nodup_app {l r : List ByteArray} (hl : l.Nodup) (hr : r.Nodup) (h : ∀ s, s ∈ l → s ∉ r) : (l ++ r).Nodup := List.nodup_append.2 ⟨hl, hr, fun s hs _ ht e => h s hs (e ▸ ht)⟩
theorem laws_all {la lb rx ry rz ru : List ByteArray} (hx : IntP [la, lb] rx) (hy : DifP [la, lb] ry) (hz : DifP [lb, la] rz) (hu : UniP [lb, la] ru) : ((rx ++ ry) ++ rz).Perm ru := by
  refine perm_of (nodup_app (nodup_app hx.1.1 hy.1.1 ?_) hz.1.1 ?_) hu.1.1 ?_
  · intro s h1 h2
    exact ((hy.mem s).1 h2).2 ((hx.mem s).1 h1).2
  · intro s h1 h2
    have h3 := (hz.mem s).1 h2
    rcases List.mem_append.1 h1 with h | h
    · exact h3.2 ((hx.mem s).1 h).1
    · exact h3.2 ((hy.mem s).1 h).1
  · intro s
    rw [List.mem_append, List.mem_append, hx.mem s, hy.mem s, hz.mem s, hu.mem s]
    by_cases h1 : s ∈ la <;> by_cases h2 : s ∈ lb <;> simp [h1, h2]
theorem laws_one {la lb rx ry : List ByteArray} (hn : la.Nodup) (hx : IntP [la, lb] rx) (hy : DifP [la, lb] ry) : (rx ++ ry).Perm la := by
  refine perm_of (nodup_app hx.1.1 hy.1.1 ?_) hn ?_
  · intro s h1 h2
    exact ((hy.mem s).1 h2).2 ((hx.mem s).1 h1).2
  · intro s
    rw [List.mem_append, hx.mem s, hy.mem s]
    by_cases h1 : s ∈ la <;> by_cases h2 : s ∈ lb <;> simp [h1, h2]
theorem laws_none {la r : List ByteArray} (h : DifP [la, la] r) : r = [] := by
  refine List.eq_nil_iff_forall_not_mem.2 fun s hs => ?_
  have := (h.mem s).1 hs
  exact this.2 this.1
theorem laws_same {la r : List ByteArray} (hn : la.Nodup) (h : IntP [la, la] r) : r.Perm la := perm_of h.1.1 hn fun s => by rw [h.mem s]; simp

set_option maxRecDepth 100000 in
set_option maxHeartbeats 4000000 in
theorem lawsS_any (a1 : Option Addr) (n1 cap1 : Nat) (a2 : Option Addr) (n2 cap2 : Nat) (x : Nat) (w : World) (hx : x < 18446744073709551616) (ha : RdK w a1 n1) (hb : RdK w a2 n2) :
    Calls Tryz.prog 6 #[.slice a1 n1 cap1, .slice a2 n2 cap2, .int .u64 x] w fun e w' => e = .returned (.bool true) ∧ Below w.heap.size w w' := by
  have HMa := made_any x 5 20 a1 n1 cap1 w hx (by decide) (by decide) ha
  replace HMa : Calls Tryz.prog 9 #[.int .u64 x, .int .i64 5, .int .i64 20, .slice a1 n1 cap1] w fun e w' => Made w w' x 5 20 e := HMa
  obtain ⟨x2, hx2, hx2l⟩ := u64_some ((x : Int) + 1)
  have HKb : Hid (RdK w a2 n2) := hb
  clear ha hb
  go_enter Tryz.func6, Tryz.ntmps6
  go_wp2_with fail
  refine HMa.mono ?_
  rintro en w1 ⟨hb, m, q, la, F, M, rfl, hP, hla, -⟩
  have HB1 : Hid (Below w.heap.size w w1) := hb
  obtain ⟨pk, ra, rn, rc, hS, -, -⟩ := hP
  have HS1 : Hid (Ss w1 w.heap.size m x 5 20 la pk F) := hS
  have HMb := made_any x2 50 20 a2 n2 cap2 w1 hx2l (by decide) (by decide) (HKb.out.keep hb)
  replace HMb : Calls Tryz.prog 9 #[.int .u64 x2, .int .i64 50, .int .i64 20, .slice a2 n2 cap2] w1 fun e w' => Made w1 w' x2 50 20 e := HMb
  clear hb hS HMa
  go_wp2_with fail
  refine HMb.mono ?_
  rintro en w2 ⟨hb, m2, q2, lb, F2, M2, rfl, hP, hlb, -⟩
  have HB2 := step_below HB1 hb
  obtain ⟨pk2, ra2, rn2, rc2, hS2, -, -⟩ := hP
  have HV1 : Hid (∀ w', Below w2.heap.size w2 w' → SetV w' (ptr m) la) := fun w' h => .inr ⟨_, _, _, _, _, _, _, rfl, (HS1.out.keep hb).keep h⟩
  have HV2 : Hid (∀ w', Below w2.heap.size w2 w' → SetV w' (ptr m2) lb) := fun w' h => .inr ⟨_, _, _, _, _, _, _, rfl, hS2.keep h⟩
  have HSs : Hid (Ss w2 w.heap.size m x 5 20 la pk F) := HS1.out.keep hb
  have HNa : Hid (la.Nodup) := HS1.out.nod
  have HI1 := Inter_two w2 (ptr m) (ptr m2) la lb (HV1.out _ (Below.refl _ _)) (HV2.out _ (Below.refl _ _)) hla hlb
  clear hb hS2 HMb HS1 HKb
  go_wp2_with fail
  refine HI1.mono ?_
  rintro en w3 ⟨hb, xa, xn, xc, rx, rfl, hO, hX⟩
  have HB3 : Hid (Below w2.heap.size w2 w3) := hb
  have HOx : Hid (OwnS w3 w2.heap.size xa xn xc rx) := hO
  have HX : Hid (IntP [la, lb] rx) := hX
  have hxn : xn ≤ 3200 := by have h1 := hO.len; have h2 := hX.2; simp at h2; omega
  have HD1 := Diff_two w3 (ptr m) (ptr m2) la lb (HV1.out _ hb) (HV2.out _ hb) hla hlb
  clear hb hO hX HI1
  go_wp2_with fail
  refine HD1.mono ?_
  rintro en w4 ⟨hb, ya, yn, yc, ry, rfl, hO, hY⟩
  have HB4 := step_below HB3 hb
  have HOx4 : Hid (OwnS w4 w2.heap.size xa xn xc rx) := HOx.out.keep hb
  have HOy : Hid (OwnS w4 w2.heap.size ya yn yc ry) := Dk.OwnR.low hO HB3.out.size
  have HY : Hid (DifP [la, lb] ry) := hY
  have hyn : yn ≤ 3200 := by have h1 := hO.len; have h2 := hY.2; simp at h2; omega
  have HD2 := Diff_two w4 (ptr m2) (ptr m) lb la (HV2.out _ HB4.out) (HV1.out _ HB4.out) hlb hla
  clear hb hO hY HD1 HOx
  go_wp2_with fail
  refine HD2.mono ?_
  rintro en w5 ⟨hb, za, zn, zc, rz, rfl, hO, hZ⟩
  have HB5 := step_below HB4 hb
  have HOx5 : Hid (OwnS w5 w2.heap.size xa xn xc rx) := HOx4.out.keep hb
  have HOy5 : Hid (OwnS w5 w2.heap.size ya yn yc ry) := HOy.out.keep hb
  have HOz : Hid (OwnS w5 w2.heap.size za zn zc rz) := Dk.OwnR.low hO HB4.out.size
  have HZ : Hid (DifP [lb, la] rz) := hZ
  have hzn : zn ≤ 3200 := by have h1 := hO.len; have h2 := hZ.2; simp at h2; omega
  clear hb hO hZ HD2 HOx4 HOy HB3 HB4
  have hba : Below w5.heap.size w5 (w5.alloc (.cells #[] 9)) := alloc_below w5 _
  have HO0 : Hid (OwnS (w5.alloc (.cells #[] 9)) w5.heap.size (some ⟨w5.heap.size, 0, none⟩) 0 0 []) := OwnS.made w5 [] w5.heap.size 0 rfl (Nat.le_refl _) (by decide) _ rfl
  have HBa : Hid (Below w5.heap.size w5 (w5.alloc (.cells #[] 9))) := hba
  have HRx : Hid (RdL (w5.alloc (.cells #[] 9)) xa xn xc rx) := (HOx5.out.keep hba).rl
  have hf1 : 0 + xn ≤ 1000000 := by omega
  clear hba
  go_upto_region 6 with fail
  go_cut [16] from 50 to 56 (fun u16 wx => ∃ wy aa ca, wy = wx ∧ u16 = .slice aa (xn + yn + zn) ca ∧ Hid (OwnS wy w5.heap.size aa (xn + yn + zn) ca ((rx ++ ry) ++ rz)) ∧ Hid (Below w5.heap.size w5 wy))
  case first =>
    go_wp2_with (at_builtin; first
      | (refine append_strs rfl (.tmp 50) (.tmp 51) rfl w5.heap.size rfl HO0.out rfl HRx.out hf1 HBa.out.size ?_; intro b2 k2 d2 v2 hk2 HQ2 HC2; rw [Nat.zero_add] at hk2; replace hk2 := hk2.symm; subst hk2; have HC2w : Hid (Below w5.heap.size w5 v2) := HBa.out.trans HC2.out; have HRy : Hid (RdL v2 ya yn yc ry) := (HOy5.out.keep HC2w.out).rl; have hf2 : xn + yn ≤ 1000000 := by omega)
      | (refine append_strs rfl (.tmp 52) (.tmp 53) rfl w5.heap.size rfl HQ2.out rfl HRy.out hf2 HC2w.out.size ?_; intro b3 k3 d3 v3 hk3 HQ3 HC3; replace hk3 := hk3.symm; subst hk3; have HC3w : Hid (Below w5.heap.size w5 v3) := HC2w.out.trans HC3.out; have HRz : Hid (RdL v3 za zn zc rz) := (HOz.out.keep HC3w.out).rl; have hf3 : xn + yn + zn ≤ 1000000 := by omega)
      | (refine append_strs rfl (.tmp 54) (.tmp 55) rfl w5.heap.size rfl HQ3.out rfl HRz.out hf3 HC3w.out.size ?_; intro b4 k4 d4 v4 hk4 HQ4 HC4; replace hk4 := hk4.symm; subst hk4; have HC4w : Hid (Below w5.heap.size w5 v4) := HC3w.out.trans HC4.out))
    go_meet
    have hq := HQ4.out
    rw [List.nil_append] at hq
    exact ⟨_, b4, d4, rfl, rfl, hq, HC4w⟩
  case rest =>
  obtain ⟨w6, aa, ca, rfl, rfl, HOA, HB6'⟩ := hcut
  obtain ⟨nn, hnn⟩ : ∃ nn, xn + yn + zn = nn := ⟨_, rfl⟩
  rw [hnn] at HOA
  have HB6 := step_below HB5 HB6'.out
  have HUn := Union_two w6 (ptr m2) (ptr m) lb la (HV2.out _ HB6.out) (HV1.out _ HB6.out) hlb hla
  have hnn2 : nn ≤ 9600 := by omega
  go_wp2_with fail
  refine HUn.mono ?_
  rintro en w7 ⟨hb, ua, un, uc, ru, rfl, hO, hU⟩
  have HB7 := step_below HB6 hb
  have HB57 := step_below HB6' hb
  have hpu := laws_all HX.out HY.out HZ.out hU
  have hun : nn = un := by rw [← hO.len, ← hpu.length_eq]; exact (HOA.out.len).symm
  subst hun
  have HBg := BagS w5.heap.size w6.heap.size aa ua nn ca uc _ ru w7 (HOA.out.keep hb) hO (by omega) hpu
  clear hb hO hU hpu HUn
  go_wp2_with fail
  refine HBg.mono ?_
  rintro en w8 ⟨rfl, hb⟩
  have HB8 := step_below HB7 hb
  have HB58 := step_below HB57 hb
  clear hb HBg HOA
  have hba : Below w8.heap.size w8 (w8.alloc (.cells #[] 9)) := alloc_below w8 _
  have HO8 : Hid (OwnS (w8.alloc (.cells #[] 9)) w8.heap.size (some ⟨w8.heap.size, 0, none⟩) 0 0 []) := OwnS.made w8 [] w8.heap.size 0 rfl (Nat.le_refl _) (by decide) _ rfl
  have HBa8 : Hid (Below w8.heap.size w8 (w8.alloc (.cells #[] 9))) := hba
  have HRx8 : Hid (RdL (w8.alloc (.cells #[] 9)) xa xn xc rx) := ((HOx5.out.keep HB58.out).keep hba).rl
  have HOy8 : Hid (OwnS w8 w2.heap.size ya yn yc ry) := HOy5.out.keep HB58.out
  have hg2 : xn + yn ≤ 1000000 := by omega
  clear hba
  go_wp2_with (first
    | (at_builtin; refine append_strs_w rfl (.tmp 64) (.tmp 65) rfl w8.heap.size rfl HO8.out rfl HRx8.out hf1 HBa8.out.size ?_; intro b2 k2 d2 v2 hk2 HQ2 HC2; rw [Nat.zero_add] at hk2; replace hk2 := hk2.symm; subst hk2; have HC2w : Hid (Below w8.heap.size w8 v2) := HBa8.out.trans HC2.out; have HRy : Hid (RdL v2 ya yn yc ry) := (HOy8.out.keep HC2w.out).rl)
    | (at_builtin; refine append_strs_w rfl (.tmp 66) (.tmp 67) rfl w8.heap.size rfl HQ2.out rfl HRy.out hg2 HC2w.out.size ?_; intro b3 k3 d3 v3 hk3 HQ3 HC3; replace hk3 := hk3.symm; subst hk3; have HC3w : Hid (Below w8.heap.size w8 v3) := HC2w.out.trans HC3.out; have HB9 := step_below HB8 HC3w.out; have HAl := AllS w.heap.size m x 5 20 la pk F v3 (HSs.out.keep HB9.out); have HP1 : Hid (([] ++ rx ++ ry).Perm la) := (by rw [List.nil_append]; exact laws_one HNa.out HX.out HY.out))
    | (go_at_call 21; refine HAl.mono ?_; rintro en w10 ⟨hb, sa, sn, sc, rs, rfl, hO, hp⟩; have HB10 := step_below HB9 hb; have hp1 := HP1.out.trans hp.symm; have hsn : xn + yn = sn := (by rw [← hO.len, ← hp1.length_eq]; exact (HQ3.out.len).symm); subst hsn; have HBg := BagS w8.heap.size v3.heap.size b3 sa (xn + yn) d3 sc _ rs w10 (HQ3.out.keep hb) hO (by omega) hp1; clear hb hO hp hp1)
    | (go_at_call 19; refine HBg.mono ?_; rintro en w11 ⟨rfl, hb⟩; have HB11 := step_below HB10 hb; have HDs := Diff_two w11 (ptr m) (ptr m) la la (HV1.out _ HB11.out) (HV1.out _ HB11.out) hla hla; clear hb HBg)
    | (go_at_call 16; refine HDs.mono ?_; rintro en w12 ⟨hb, da, dn, dc, rd, rfl, hO, hD⟩; have HB12 := step_below HB11 hb; have hdn : 0 = dn := (by rw [← hO.len, laws_none hD]; rfl); subst hdn; have HIs := Inter_two w12 (ptr m) (ptr m) la la (HV1.out _ HB12.out) (HV1.out _ HB12.out) hla hla; clear hb hO hD HDs)
    | (go_at_call 14; refine HIs.mono ?_; rintro en w13 ⟨hb, ia, inn, ic, ri, rfl, hO, hI⟩; have HB13 := step_below HB12 hb; have HOi : Hid (OwnS w13 w12.heap.size ia inn ic ri) := hO; have HPi : Hid (ri.Perm la) := laws_same HNa.out hI; have HAl2 := AllS w.heap.size m x 5 20 la pk F w13 (HSs.out.keep HB13.out); clear hb hO hI HIs)
    | (go_at_call 21; refine HAl2.mono ?_; rintro en w14 ⟨hb, sa, sn, sc, rs, rfl, hO, hp⟩; have HB14 := step_below HB13 hb; have hp1 := HPi.out.trans hp.symm; have hsn : inn = sn := (by rw [← hO.len, ← hp1.length_eq]; exact (HOi.out.len).symm); subst hsn; have HBg2 := BagS w12.heap.size w13.heap.size ia sa inn ic sc ri rs w14 (HOi.out.keep hb) hO (by have h1 := HOi.out.len; have h2 := HPi.out.length_eq; omega) hp1; clear hb hO hp hp1)
    | (go_at_call 19; refine HBg2.mono ?_; rintro en w15 ⟨rfl, hb⟩; have HB15 := step_below HB14 hb; clear hb HBg2)
    | (go_at_call 17; refine (known_any _).mono ?_; rintro en w16 ⟨rfl, hb⟩; have HB16 := step_below HB15 hb; clear hb))
  go_ret
  exact ⟨rfl, HB2.out.trans (HB16.out.mono HB2.out.size)⟩
end Go.Proofs.YtkohjejfkbaffaaGreat
