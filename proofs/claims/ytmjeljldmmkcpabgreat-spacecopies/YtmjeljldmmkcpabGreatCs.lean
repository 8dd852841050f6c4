/-
  SpaceCopies: what is copied is by itself.
-/
import Derived.Test.YtmjeljldmmkcpabGreatG24
namespace Go.Proofs.YtmjeljldmmkcpabGreat.Sq
open Go.RowKit Go.PlainAid

def cNM : List ByteArray := [⟨#[97]⟩, ⟨#[98]⟩]
theorem cNM_names : Names cNM := ⟨by decide, by decide⟩
theorem a_in : (⟨#[97]⟩ : ByteArray) ∈ cNM := by simp [cNM]
theorem b_in : (⟨#[98]⟩ : ByteArray) ∈ cNM := by simp [cNM]
theorem a_ne_b : (⟨#[98]⟩ : ByteArray) ≠ ⟨#[97]⟩ := by decide
theorem eqlQ_nil (w : World) (l : Nat) : (binOp .eql 34 (ptr l) (.pointer none)).run Tryz.prog w = .ok (.bool false) w := by
  rw [run_eql_pointer_nil w 34 (some ⟨l, 0, none⟩) (by rw [Tryz.underlying34]; kernel_rfl)]; rfl
theorem neqQ_nil (w : World) (l : Nat) : (binOp .neq 34 (ptr l) (.pointer none)).run Tryz.prog w = .ok (.bool true) w := by
  rw [run_neq_pointer_nil w 34 (some ⟨l, 0, none⟩) (by rw [Tryz.underlying34]; kernel_rfl)]; rfl
/-- Two keys that end at the same time. -/
def two (va vb : Nat) : Ab := setA (one ⟨#[97]⟩ (some ⟨va, 0, none⟩, some 100)) ⟨#[98]⟩ (some (some ⟨vb, 0, none⟩, some 100))
theorem two_a (va vb : Nat) : two va vb ⟨#[97]⟩ = some (some ⟨va, 0, none⟩, some 100) := by
  unfold two
  rw [setA_ne _ _ (Ne.symm a_ne_b)]
  exact one_at _ _
theorem two_b (va vb : Nat) : two va vb ⟨#[98]⟩ = some (some ⟨vb, 0, none⟩, some 100) := setA_at _ _ _
theorem two_still (va vb : Nat) : Still (two va vb) 0 := fun k v e h => by
  unfold two setA at h
  split at h
  · injection h with h
    injection h with _ h
    injection h with h
    omega
  · exact one_still (u := 100) (by decide) k v e h
theorem two_gone (va vb : Nat) : dueA (two va vb) 100 = none' := by
  funext j
  have h1 : ∀ y, two va vb j = some y → y.2 = some 100 := fun y h => by
    unfold two one setA at h
    split at h
    · cases h; rfl
    · split at h
      · cases h; rfl
      · cases h
  unfold dueA
  split
  · rename_i v e he
    have := h1 _ he
    simp at this
    subst this
    rfl
  · rename_i hno
    cases hj : two va vb j with
    | none => rfl
    | some y =>
      obtain ⟨v, q⟩ := y
      have := h1 _ hj
      simp at this
      subst this
      exact absurd hj (hno v 100)
theorem VB.far {w w' : World} {v k : Nat} {t : ByteArray} {h s l : Value} (b : VB w v k t h s l) {C m most q : Nat} {rs : List ByteArray} {G : List Nat} (hq : QV w C m most rs q G) (hs : Stay w w' G) : VB w' v k t h s l := by
  refine b.kept (hs.block v b.lt fun hm => ?_)
  obtain ⟨cs, t, h1, -, h2, -⟩ := hq.tags v hm
  rw [b.blk] at h1
  injection h1 with h1
  injection h1 with _ e
  exact h2 e.symm
theorem VB.mb {w w' : World} {B v k : Nat} {t : ByteArray} {h s l : Value} (b : VB w v k t h s l) (hm : Mb stag B w w') : VB w' v k t h s l := b.kept (hm.mv.block v _ _ b.blk (by decide))
/-- A row of one text that is new. -/
theorem one_far (w : World) (t : ByteArray) {B l most q : Nat} {ts : List ByteArray} {F : List Nat} (h : QV w B l most ts q F) : RdF (w.alloc (.cells #[.string t] 9)) (some ⟨w.heap.size, 0, none⟩) 1 [t] F := by
  have hb : (w.alloc (.cells #[.string t] 9)).heap[w.heap.size]? = some (.cells #[.string t] 9 (0, 0)) := heap_alloc_new w _
  refine ⟨⟨rfl, by decide, fun j hj => ⟨w.heap.size, 0, rfl, ?_⟩⟩, fun x hx => ?_⟩
  · obtain rfl : j = 0 := by omega
    simp only [World.cell?, hb]
    rfl
  · cases hx
    exact ⟨fun hm => by have := (h.blocks _ hm).2; simp at this, (Array.getElem?_eq_some_iff.1 hb).1⟩
/-- What the copy is. -/
def Cpy (w0 : World) (ls : List ByteArray) (w : World) (p : Nat) : Prop := ∃ C F, w0.heap.size ≤ C ∧ Vl w C p ls F
set_option maxRecDepth 100000 in
set_option maxHeartbeats 4000000 in
theorem copies_any (x : Nat) (E T : Int) (a : Option Addr) (n c : Nat) (l : List ByteArray) (more : ByteArray) (w : World) (hx : x < 18446744073709551616) (hL : RdS w a n l) :
    Calls Tryz.prog 3 #[.agg #[.int .u64 (x : Nat), .int .i64 E, .int .i64 T], .slice a n c, .string more] w fun e w' => e = .returned (.bool true) ∧ Below w.heap.size w w' := by
  obtain ⟨w0, hw0⟩ : ∃ w0, w.alloc (.cells #[.int .u64 (x : Nat), .int .i64 E, .int .i64 T] 26) = w0 := ⟨_, rfl⟩
  have hB0 : Below w.heap.size w w0 := by rw [← hw0]; exact alloc_below w _
  have HB0 : Hid (Below w.heap.size w w0) := hB0
  have hblk : w0.heap[w.heap.size]? = some (.cells #[.int .u64 (x : Nat), .int .i64 E, .int .i64 T] 26 (0, 0)) := by rw [← hw0]; exact heap_alloc_new w _
  have c0 : w0.cell? ⟨w.heap.size, 0, none⟩ = some (.int .u64 (x : Nat)) := by simp [World.cell?, hblk]
  have c1 : w0.cell? ⟨w.heap.size, 1, none⟩ = some (.int .i64 E) := by simp [World.cell?, hblk]
  have c2 : w0.cell? ⟨w.heap.size, 2, none⟩ = some (.int .i64 T) := by simp [World.cell?, hblk]
  have HRd : Hid (RdS w a n l) := hL
  have HN := New_any w0 x E T hx
  clear hblk hB0 hL
  go_enter Tryz.func3, Tryz.ntmps3
  go_wp2_with fail
  refine HN.mono ?_
  rintro e w1 ⟨hb1, s, rfl, -, hs⟩
  obtain ⟨B, hBe⟩ : ∃ B, w0.heap.size = B := ⟨_, rfl⟩
  rw [hBe] at hs
  have HBw : Hid (w.heap.size ≤ B) := by show _ ≤ _; rw [← hBe]; exact HB0.out.size
  have HB1 := step_below HB0 hb1
  have HS1 : Hid (Spc w1 B s x cNM none' (fun _ => 0)) := hs cNM cNM_names
  have HO : Calls Tryz.prog 5 #[.int .i64 4, .int .u64 1, .agg #[.int .i64 3, .int .i64 9]] w1 fun en w' => Below w1.heap.size w1 w' ∧ ∃ v F, en = .returned (ptr v) ∧ Vl w' w1.heap.size v [] F := New_l 1 3 9 w1
  clear hb1 hs HN c0 c1 c2 hBe
  go_wp2_with fail
  refine HO.mono ?_
  rintro e w2 ⟨hb2, v, F, rfl, hV⟩
  have HB2 := step_below HB1 hb2
  have HS2 : Hid (Spc w2 B s x cNM none' (fun _ => 0)) := HS1.out.keep hb2
  obtain ⟨m, mo, q, hVB, hQV⟩ := hV.ex
  have HV2 : Hid (VB w2 v 4 ⟨#[]⟩ (.pointer none) (.pointer none) (ptr m)) := hVB
  have HQ2 : Hid (QV w2 w1.heap.size m mo [] q F) := hQV
  have HLv : Hid (w1.heap.size ≤ v) := hV.low
  have HW1 : Hid (w.heap.size ≤ w1.heap.size) := HB1.out.size
  have hq1 := fun wx => eqlS_nil wx s
  have hq2 := fun wx => eqlV_nil wx v
  have hq3 := fun wx => eqlQ_nil wx m
  have HBd : Hid (Below w2.heap.size w2 w2.drew) := below_drewN w2 1
  have HFw := fun wx (h : Below w.heap.size w wx) => Few_any a n c l 10 20 wx (HRd.out.keep h) (by decide) (by decide)
  clear hb2 hV hVB hQV HO
  have HV3 : Hid (VB w2.drew v 4 ⟨#[]⟩ (.pointer none) (.pointer none) (ptr m)) := HV2.out.keep HBd.out
  have HQ3 : Hid (QV w2.drew w1.heap.size m mo [] q F) := HQ2.out.keep HBd.out
  have HS3 : Hid (Spc w2.drew B s x cNM none' (fun _ => 0)) := HS2.out.keep HBd.out
  have HB3 := step_below HB2 HBd.out
  have hc4 := HV3.out.cl
  go_upto_region 3 with fail
  go_region_held3 (fun w' => w'.cell? ⟨v, 4, none⟩ = some (ptr m)) (first | exact HV8.out.cl | exact HV7.out.cl | exact HV6.out.cl | exact HV5.out.cl | exact HV4.out.cl | exact HV3.out.cl) (first
    | (go_at_call 8; refine HPut.mono ?_; rintro e w8 ⟨rfl, hm8, hs8⟩; have HV8 : Hid (VB w8 v 4 ⟨#[]⟩ (.pointer none) (.pointer none) (ptr m)) := VB.mb HV7.out hm8; have HS8 : Hid (Spc w8 B s x cNM (setA (dueA none' 0) ⟨#[97]⟩ (some (some ⟨v, 0, none⟩, none))) (incV (dueV none' (fun _ => 0) 0) ⟨#[97]⟩)) := hs8; have HB8 := Mb.step HB7 hm8 HBw.out; have HL8 : Hid (Vl w8 w1.heap.size v (l2 ++ [⟨#[108, 97, 115, 116]⟩]) F7) := HL7.out.mb hm8; clear hm8 hs8)
    | (go_at_call 6; refine HRt2.mono ?_; rintro e w7 ⟨rfl, q7, F7, hQ7, hL7⟩; have HV7 : Hid (VB w7 v 4 ⟨#[]⟩ (.pointer none) (.pointer none) (ptr m)) := VB.far HV6.out HQ6.out hL7.stay; have HS7 : Hid (Spc w7 B s x cNM none' (fun _ => 0)) := HS6.out.far HQ6.out hL7.stay; have HB7 : Hid (Below w.heap.size w w7) := HB6.out.trans ((VDoes.below HQ6.out ⟨q7, F7, hQ7, hL7⟩).mono HW1.out); have HL7 : Hid (Vl w7 w1.heap.size v (l2 ++ [⟨#[108, 97, 115, 116]⟩]) F7) := ⟨⟨m, mo, q7, HV7.out, hQ7⟩, HLv.out⟩; have HPut := Put_any w7 B s x cNM none' _ HS7.out (Vle.zero.low (by decide)) 0 ⟨#[97]⟩ a_in (by decide) (some ⟨v, 0, none⟩) (by have h := Empty_l w7 _ v _ F7 HL7.out; rw [decide_eq_false (by simp)] at h; exact h); clear hQ7 hL7)
    | (go_at_call 6; refine HRt.mono ?_; rintro e w5 ⟨rfl, q5, F5, hQ5, hL5⟩; rw [List.nil_append] at hQ5; have HV5 : Hid (VB w5 v 4 ⟨#[]⟩ (.pointer none) (.pointer none) (ptr m)) := VB.far HV4.out HQ4.out hL5.stay; have HB5 : Hid (Below w.heap.size w w5) := HB4.out.trans ((VDoes.below HQ4.out ⟨q5, F5, hQ5, hL5⟩).mono HW1.out); have HS5 : Hid (Spc w5 B s x cNM none' (fun _ => 0)) := HS4.out.far HQ4.out hL5.stay; have HBa : Hid (Below w5.heap.size w5 (w5.alloc (.cells #[.string ⟨#[108, 97, 115, 116]⟩] 9))) := alloc_below w5 _; have HV6 : Hid (VB (w5.alloc (.cells #[.string ⟨#[108, 97, 115, 116]⟩] 9)) v 4 ⟨#[]⟩ (.pointer none) (.pointer none) (ptr m)) := HV5.out.keep HBa.out; have HQ6 : Hid (QV (w5.alloc (.cells #[.string ⟨#[108, 97, 115, 116]⟩] 9)) w1.heap.size m mo l2 q5 F5) := hQ5.keep HBa.out; have HS6 : Hid (Spc (w5.alloc (.cells #[.string ⟨#[108, 97, 115, 116]⟩] 9)) B s x cNM none' (fun _ => 0)) := HS5.out.keep HBa.out; have HB6 := step_below HB5 HBa.out; have HRt2 := VRight (w5.alloc (.cells #[.string ⟨#[108, 97, 115, 116]⟩] 9)) w1.heap.size m mo q5 l2 F5 HQ6.out (some ⟨w5.heap.size, 0, none⟩) 1 1 [⟨#[108, 97, 115, 116]⟩] (one_far w5 _ hQ5) (by intro t ht; simp at ht; subst ht; decide) (by have := HSh.out.1; omega); clear hQ5 hL5)
    | (go_at_call 7; refine (HFw _ HB3.out).mono ?_; rintro e w4 ⟨hb4, a2, n2, c2, rfl, l2, hO2, hsh⟩; have HB4 := step_below HB3 hb4; have HV4 : Hid (VB w4 v 4 ⟨#[]⟩ (.pointer none) (.pointer none) (ptr m)) := HV3.out.keep hb4; have HQ4 : Hid (QV w4 w1.heap.size m mo [] q F) := HQ3.out.keep hb4; have HS4 : Hid (Spc w4 B s x cNM none' (fun _ => 0)) := HS3.out.keep hb4; have HSh : Hid (Short l2 10 20) := hsh; have HRt := VRight w4 w1.heap.size m mo q [] F HQ4.out a2 n2 c2 l2 (QV.far HQ4.out hO2) (fun t ht => by have := hsh.2 t ht; omega) (by have h1 := hsh.1; have h2 := hO2.len; simp; omega); clear hb4 hO2 hsh))
  obtain ⟨ls, hls⟩ : ∃ ls, l2 ++ [⟨#[108, 97, 115, 116]⟩] = ls := ⟨_, rfl⟩
  have HLn : Hid (ls.length ≤ 11) := by
    show _ ≤ _
    rw [← hls, List.length_append]
    have := HSh.out.1
    show l2.length + 1 ≤ 11
    omega
  have HFt : Hid (Fit ls) := by
    intro t ht
    rw [← hls] at ht
    rcases List.mem_append.1 ht with h | h
    · have := HSh.out.2 t h; omega
    · simp at h; subst h; decide
  rw [hls] at HL8
  obtain ⟨V8, HS9⟩ : ∃ V8, Hid (Spc w8 B s x cNM (one ⟨#[97]⟩ (some ⟨v, 0, none⟩, none)) V8 ∧ Vle V8 5) := ⟨_, by have h := HS8.out; rw [none_due] at h; exact h, ((Vle.zero.due _ _).inc _).mono (by decide)⟩
  have HE := Expire_any w8 B s x cNM _ V8 HS9.out.1 (HS9.out.2.low (by decide)) 100 0 ⟨#[97]⟩ a_in (by decide)
  rw [(one_none _ _ _).due, one_at] at HE
  clear hls hq1 hq2 hq3 hc4 HPut HRt2 HRt HFw HV3 HV4 HV5 HV6 HV7 HV8 HQ3 HQ4 HQ6 HS3 HS4 HS5 HS6 HS7 HS8 HB3 HB4 HB5 HB6 HB7 HBa HL7
  go_wp2_with fail
  refine HE.mono ?_
  rintro e w9 ⟨rfl, hm9, hs9⟩
  rw [one_exp (by decide)] at hs9
  have HB9 := Mb.step HB8 hm9 HBw.out
  have HL9 : Hid (Vl w9 w1.heap.size v ls F7) := HL8.out.mb hm9
  obtain ⟨V9, HS9'⟩ : ∃ V9, Hid (Spc w9 B s x cNM (one ⟨#[97]⟩ (some ⟨v, 0, none⟩, some 100)) V9 ∧ Vle V9 10) := ⟨_, hs9, ((HS9.out.2.due _ _).chg _ _).mono (by decide)⟩
  have hst : Still (one ⟨#[97]⟩ (some ⟨v, 0, none⟩, some 100)) 0 := one_still (by decide)
  have HC := Copy_some w9 B s x cNM _ V9 HS9'.out.1 (HS9'.out.2.low (by decide)) 0 ⟨#[97]⟩ ⟨#[98]⟩ (by decide) b_in (by decide) (some ⟨v, 0, none⟩) (some 100) (by rw [hst.due]; exact one_at _ _) (by rw [hst.due]; exact setA_ne _ _ a_ne_b) (Cpy w9 ls) (fun wx hm => by
    refine (Copy_l wx w1.heap.size v ls F7 (HL9.out.mb hm)).mono ?_
    rintro e w' ⟨hb, v', F', rfl, hV⟩
    exact ⟨hb, v', rfl, wx.heap.size, F', hm.mv.size, hV⟩)
  rw [hst.due, hst.dueV] at HC
  clear hm9 hs9 HE hst
  go_wp2_with fail
  refine HC.mono ?_
  rintro e w10 ⟨rfl, p, wq, ⟨C, G, hC9, hVq⟩, hmq, ht10⟩
  have HB10 := Mb.step HB9 ht10.mb HBw.out
  have HLv10 : Hid (Vl w10 w1.heap.size v ls F7) := HL9.out.mb ht10.mb
  have HLp10 : Hid (Vl w10 C p ls G) := hVq.mb hmq
  have HDis : Hid (∀ k ∈ F7, k < C) := fun k hk => by
    obtain ⟨m', mo', q', -, hq⟩ := HL9.out.ex
    have := (hq.blocks k hk).2
    omega
  have hvp : p ≠ v := by
    have h1 := HL9.out.lt
    have h2 := hVq.low
    omega
  obtain ⟨V10, HS10⟩ : ∃ V10, Hid (Spc w10 B s x cNM (two v p) V10 ∧ Vle V10 20) := ⟨_, ht10.spc, (HS9'.out.2.inc _).mono (by decide)⟩
  have HC9 : Hid (w.heap.size ≤ C) := Nat.le_trans HB9.out.size hC9
  have HG := Get_any w10 B s x cNM _ V10 HS10.out.1 (HS10.out.2.low (by decide)) 0 ⟨#[98]⟩ (by decide)
  rw [(two_still v p).due, two_b] at HG
  replace HG : Calls Tryz.prog 11 #[Dk.ptr s, .string ⟨#[98]⟩, .int .i64 0] w10 fun e w' => e = .returned (ptr p) ∧ DueTo w10 w' B s x cNM (two v p) V10 0 := HG
  clear hC9 hVq hmq ht10 HC
  go_wp2_with fail
  refine HG.mono ?_
  rintro e w11 ⟨rfl, hd11⟩
  have ht11 := To.keepV (two_still v p) hd11
  have HB11 := Mb.step HB10 ht11.mb HBw.out
  have HS11 : Hid (Spc w11 B s x cNM (two v p) V10) := ht11.spc
  have HLv11 : Hid (Vl w11 w1.heap.size v ls F7) := HLv10.out.mb ht11.mb
  have HLp11 : Hid (Vl w11 C p ls G) := HLp10.out.mb ht11.mb
  obtain ⟨mp, mop, qp', hVBp, hQVp⟩ := HLp11.out.ex
  have hcp := hVBp.cl
  have hn1 := eqlV_nil w11 p
  have hn2 := eqlQ_nil w11 mp
  have HG := Get_any w11 B s x cNM _ V10 HS11.out (HS10.out.2.low (by decide)) 0 ⟨#[97]⟩ (by decide)
  rw [(two_still v p).due, two_a] at HG
  replace HG : Calls Tryz.prog 11 #[Dk.ptr s, .string ⟨#[97]⟩, .int .i64 0] w11 fun e w' => e = .returned (ptr v) ∧ DueTo w11 w' B s x cNM (two v p) V10 0 := HG
  clear hd11 ht11 hVBp hQVp
  go_wp2_with fail
  refine HG.mono ?_
  rintro e w12 ⟨rfl, hd12⟩
  have ht12 := To.keepV (two_still v p) hd12
  have HB12 := Mb.step HB11 ht12.mb HBw.out
  have HS12 : Hid (Spc w12 B s x cNM (two v p) V10) := ht12.spc
  have HLv12 : Hid (Vl w12 w1.heap.size v ls F7) := HLv11.out.mb ht12.mb
  have HLp12 : Hid (Vl w12 C p ls G) := HLp11.out.mb ht12.mb
  have HSm := Same_ll w12 C p G w1.heap.size v ls F7 HLp12.out HLv12.out hvp (by have := HLn.out; omega)
  clear hd12 ht12 HG hcp hn1 hn2
  go_wp2_with fail
  refine HSm.mono ?_
  rintro e w13 ⟨rfl, hb13⟩
  have HB13 := step_below HB12 hb13
  have HS13 : Hid (Spc w13 B s x cNM (two v p) V10) := HS12.out.keep hb13
  have HLv13 : Hid (Vl w13 w1.heap.size v ls F7) := HLv12.out.keep hb13
  have HLp13 : Hid (Vl w13 C p ls G) := HLp12.out.keep hb13
  clear hb13 HSm
  have HBd13 : Hid (Below w13.heap.size w13 w13.drew) := below_drewN w13 1
  obtain ⟨mr, mop, qq, hVBp, hQVp⟩ := HLp13.out.ex
  have HVp : Hid (VB w13 p 4 ⟨#[]⟩ (.pointer none) (.pointer none) (ptr mr)) := hVBp
  have HQp : Hid (QV w13 C mr mop ls qq G) := hQVp
  obtain ⟨t, HT⟩ : ∃ t, Hid (cutB more 9 = t) := ⟨_, rfl⟩
  have HCut := fun wx => Cut_any more 9 wx (by decide)
  rw [HT.out] at HCut
  have HTs : Hid (t.size ≤ 9) := by have := size_cutB more 9 (by decide); rw [HT.out] at this; show _ ≤ _; omega
  have HVd : Hid (VB w13.drew p 4 ⟨#[]⟩ (.pointer none) (.pointer none) (ptr mr)) := HVp.out.keep HBd13.out
  have HQd : Hid (QV w13.drew C mr mop ls qq G) := HQp.out.keep HBd13.out
  have HBe : Hid (Below w13.drew.heap.size w13.drew (w13.drew.alloc (.cells #[.string t] 9))) := alloc_below w13.drew _
  have HQe : Hid (QV (w13.drew.alloc (.cells #[.string t] 9)) C mr mop ls qq G) := HQd.out.keep HBe.out
  have HVe : Hid (VB (w13.drew.alloc (.cells #[.string t] 9)) p 4 ⟨#[]⟩ (.pointer none) (.pointer none) (ptr mr)) := HVd.out.keep HBe.out
  have HLf := VLeft (w13.drew.alloc (.cells #[.string t] 9)) C mr mop qq ls G HQe.out (some ⟨w13.drew.heap.size, 0, none⟩) 1 1 [t] (one_far w13.drew t HQd.out) (by intro r hr; simp at hr; subst hr; have := HTs.out; omega) (by have := HLn.out; omega)
  have hcd := HVd.out.cl
  clear hVBp hQVp
  go_upto_region 10 with fail
  go_region_held3 (fun w' => w'.cell? ⟨p, 4, none⟩ = some (ptr mr)) (first | exact HV14.out.cl | exact HVe.out.cl | exact HVd.out.cl) (first
    | (go_at_call 13; refine HLf.mono ?_; rintro e w14 ⟨rfl, q14, G14, hQ14, hL14⟩; have HV14 : Hid (VB w14 p 4 ⟨#[]⟩ (.pointer none) (.pointer none) (ptr mr)) := VB.far HVe.out HQe.out hL14.stay; have HQ14 : Hid (QV w14 C mr mop ([t].reverse ++ ls) q14 G14) := hQ14; have HL14 : Hid (Left (w13.drew.alloc (.cells #[.string t] 9)) w14 G G14) := hL14; clear hQ14 hL14)
    | (go_at_call 14; refine (HCut _).mono ?_; rintro e wz ⟨rfl, rfl⟩))
  have HLp14 : Hid (Vl w14 C p (t :: ls) G14) := ⟨⟨mr, mop, q14, HV14.out, HQ14.out⟩, HLp13.out.low⟩
  have HDe : Hid (Below w13.heap.size w13 (w13.drew.alloc (.cells #[.string t] 9))) := step_below HBd13 HBe.out
  have HS14 : Hid (Spc w14 B s x cNM (two v p) V10) := (HS13.out.keep HDe.out).far HQe.out HL14.out.stay
  have HLv14 : Hid (Vl w14 w1.heap.size v ls F7) := (HLv13.out.keep HDe.out).far HQe.out HL14.out.stay (fun k hk hm => by have := HDis.out k hk; have := (HQe.out.blocks k hm).1; omega)
  have HB14 : Hid (Below w.heap.size w w14) := (step_below HB13 HDe.out).out.trans ((VDoes.below HQe.out ⟨q14, G14, HQ14.out, HL14.out⟩).mono HC9.out)
  clear hcd HLf HCut HVd HQd HVe HQe HBe HDe HBd13 HV14 HQ14 HL14 HVp HQp
  have HTo := Touch_any w14 B s x cNM _ V10 HS14.out (HS10.out.2.low (by decide)) 0 ⟨#[98]⟩ b_in (by decide) false (fun wx v' u hm hy => by
    rw [(two_still v p).due, two_b] at hy
    injection hy with hy
    injection hy with h1 h2
    rw [← h1]
    have h := Empty_l wx C p (t :: ls) G14 (HLp14.out.mb hm)
    rw [decide_eq_false (by simp)] at h
    exact h)
  go_wp2_with fail
  refine HTo.mono ?_
  rintro e w15 ⟨rfl, ht15⟩
  replace ht15 : To w14 w15 B s x cNM (dueA (two v p) 0) (chgV (dueA (two v p) 0) (dueV (two v p) V10 0) ⟨#[98]⟩) := ht15
  rw [(two_still v p).due, (two_still v p).dueV] at ht15
  have HB15 := Mb.step HB14 ht15.mb HBw.out
  obtain ⟨V15, HS15⟩ : ∃ V15, Hid (Spc w15 B s x cNM (two v p) V15 ∧ Vle V15 30) := ⟨_, ht15.spc, (HS10.out.2.chg _ _).mono (by decide)⟩
  have HLv15 : Hid (Vl w15 w1.heap.size v ls F7) := HLv14.out.mb ht15.mb
  have HLp15 : Hid (Vl w15 C p (t :: ls) G14) := HLp14.out.mb ht15.mb
  have HY := Expiry_any w15 B s x cNM _ V15 HS15.out.1 (HS15.out.2.low (by decide)) 0 ⟨#[98]⟩ (by decide)
  rw [(two_still v p).due, two_b] at HY
  replace HY : Calls Tryz.prog 16 #[Dk.ptr s, .string ⟨#[98]⟩, .int .i64 0] w15 fun e w' => e = .returned (.tuple #[.int .i64 100, .bool true]) ∧ DueTo w15 w' B s x cNM (two v p) V15 0 := HY
  clear ht15 HTo
  go_wp2_with fail
  refine HY.mono ?_
  rintro e w16 ⟨rfl, hd16⟩
  have ht16 := To.keepV (two_still v p) hd16
  have HB16 := Mb.step HB15 ht16.mb HBw.out
  have HS16 : Hid (Spc w16 B s x cNM (two v p) V15) := ht16.spc
  have HLv16 : Hid (Vl w16 w1.heap.size v ls F7) := HLv15.out.mb ht16.mb
  have HLp16 : Hid (Vl w16 C p (t :: ls) G14) := HLp15.out.mb ht16.mb
  have HG := Get_any w16 B s x cNM _ V15 HS16.out (HS15.out.2.low (by decide)) 0 ⟨#[97]⟩ (by decide)
  rw [(two_still v p).due, two_a] at HG
  replace HG : Calls Tryz.prog 11 #[Dk.ptr s, .string ⟨#[97]⟩, .int .i64 0] w16 fun e w' => e = .returned (ptr v) ∧ DueTo w16 w' B s x cNM (two v p) V15 0 := HG
  clear hd16 ht16 HY
  go_wp2_with fail
  refine HG.mono ?_
  rintro e w17 ⟨rfl, hd17⟩
  have ht17 := To.keepV (two_still v p) hd17
  have HB17 := Mb.step HB16 ht17.mb HBw.out
  have HS17 : Hid (Spc w17 B s x cNM (two v p) V15) := ht17.spc
  have HLv17 : Hid (Vl w17 w1.heap.size v ls F7) := HLv16.out.mb ht17.mb
  have HLp17 : Hid (Vl w17 C p (t :: ls) G14) := HLp16.out.mb ht17.mb
  have HC2 := Copy_there w17 B s x cNM _ V15 HS17.out (HS15.out.2.low (by decide)) 0 ⟨#[97]⟩ ⟨#[98]⟩ (by decide) (by decide) (by rw [(two_still v p).due, two_a]; rfl) (by rw [(two_still v p).due, two_b]; rfl)
  clear hd17 ht17 HG
  go_wp2_with fail
  refine HC2.mono ?_
  rintro e w18 ⟨rfl, hd18⟩
  have ht18 := To.keepV (two_still v p) hd18
  have HB18 := Mb.step HB17 ht18.mb HBw.out
  have HS18 : Hid (Spc w18 B s x cNM (two v p) V15) := ht18.spc
  have HLv18 : Hid (Vl w18 w1.heap.size v ls F7) := HLv17.out.mb ht18.mb
  have HLp18 : Hid (Vl w18 C p (t :: ls) G14) := HLp17.out.mb ht18.mb
  obtain ⟨mv, mov, qv, hVBv, -⟩ := HLv18.out.ex
  have hcv := hVBv.cl
  have hn1 := neqV_nil w18 v
  have hn2 := neqQ_nil w18 mv
  have HN1 := Len_l w18 C p (t :: ls) G14 HLp18.out
  have HN2 := Len_l w18 w1.heap.size v ls F7 HLv18.out
  obtain ⟨n5, hn5⟩ : ∃ n5, ls.length = n5 := ⟨_, rfl⟩
  have hn5l : n5 ≤ 11 := by rw [← hn5]; exact HLn.out
  rw [List.length_cons, hn5] at HN1
  replace HN1 : Calls Tryz.prog 17 #[ptr p] w18 fun e w' => e = .returned (.int .i64 ((n5 : Int) + 1)) ∧ w' = w18 := HN1
  rw [hn5] at HN2
  have HLe := Len_any w18 B s x cNM _ V15 HS18.out (HS15.out.2.low (by decide)) 100
  rw [two_gone] at HLe
  clear hd18 ht18 HC2 hVBv hn5
  go_wp2_with fail
  refine HN1.mono ?_
  rintro e w18 ⟨rfl, rfl⟩
  go_wp2_with fail
  refine HN2.mono ?_
  rintro e w18 ⟨rfl, rfl⟩
  go_wp2_with fail
  refine HLe.mono ?_
  rintro e w19 ⟨hd19, hl19⟩
  have he := hl19.of none_dom
  replace he : e = .returned (.int .i64 0) := he
  subst he
  have HB19 := Mb.step HB18 hd19.mb HBw.out
  clear hd19 hl19 HLe
  go_wp2_with fail
  refine (known_any w19).mono ?_
  rintro e w20 ⟨rfl, hb20⟩
  have HB20 := step_below HB19 hb20
  clear hb20
  go_wp2
  go_ret
  exact ⟨rfl, HB20.out⟩
end Go.Proofs.YtmjeljldmmkcpabGreat.Sq
