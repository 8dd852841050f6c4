/- Texts that the others stand on. -/
import Derived.Test.YtnajhjmdpaeelaaGreatDoorG29
namespace Go.Proofs.YtnajhjmdpaeelaaGreatDoor.Sq
open Go.RowKit Go.PlainAid
open Dk (ptr below_drewN alloc_below step_below add_flat OwnR OwnP OwnS Mv pcells Elt elt_of)
open Cy (RdS low)
/-- What readOptions tells. -/
def optR (r : Option Opt) : Ending := match r with
  | some o => .returned (.tuple #[o.v, .bool true])
  | none => .returned (.tuple #[Opt.z.v, .bool false])
theorem lit_yes {l b : ByteArray} {x : List UInt8} (h : l = b) (hb : b = bs x) : (l.toList == x) = true := by rw [Cy.eq_lit, h, hb]; exact decide_eq_true rfl
theorem lit_no {l b : ByteArray} {x : List UInt8} (h : ¬ l = b) (hb : b = bs x) : (l.toList == x) = false := by rw [Cy.eq_lit, ← hb]; exact decide_eq_false h
theorem drop_at {ls : List ByteArray} {k : Nat} (h : k < ls.length) : ls.drop k = ls.getD k ByteArray.empty :: ls.drop (k + 1) := by
  rw [List.getD_eq_getElem?_getD, List.getElem?_eq_getElem h]
  exact List.drop_eq_getElem_cons h
theorem rd_only {p : ByteArray} {r : List ByteArray} {o : Opt} (h : low p = nxB ∨ low p = xxB) : rdO (p :: r) o = if o.only = noB then rdO r { o with only := low p } else none := by
  rw [rdO.eq_def]
  exact if_pos h
theorem rd_get {p : ByteArray} {r : List ByteArray} {o : Opt} (h : low p = getB) : rdO (p :: r) o = if o.get = noB then rdO r { o with get := low p } else none := by
  rw [rdO.eq_def]
  exact (if_neg (by rw [h]; decide)).trans (if_pos h)
theorem rd_time {p q : ByteArray} {r : List ByteArray} {o : Opt} (h : low p = exB ∨ low p = pxB) : rdO (p :: q :: r) o = if o.unt = noB then rdO r { o with unt := low p, wait := q } else none := by
  rw [rdO.eq_def]
  exact (if_neg (by rcases h with h | h <;> rw [h] <;> decide)).trans ((if_neg (by rcases h with h | h <;> rw [h] <;> decide)).trans (if_pos h))
theorem rd_end {p : ByteArray} {o : Opt} (h : low p = exB ∨ low p = pxB) : rdO [p] o = none := by
  rw [rdO.eq_def]
  exact (if_neg (by rcases h with h | h <;> rw [h] <;> decide)).trans ((if_neg (by rcases h with h | h <;> rw [h] <;> decide)).trans (if_pos h))
theorem rd_keep {p : ByteArray} {r : List ByteArray} {o : Opt} (h : low p = keepB) : rdO (p :: r) o = if o.unt = noB then rdO r { o with unt := low p } else none := by
  rw [rdO.eq_def]
  exact (if_neg (by rw [h]; decide)).trans ((if_neg (by rw [h]; decide)).trans ((if_neg (by rw [h]; decide)).trans (if_pos h)))
theorem rd_no {p : ByteArray} {r : List ByteArray} {o : Opt} (h1 : ¬ low p = nxB) (h2 : ¬ low p = xxB) (h3 : ¬ low p = getB) (h4 : ¬ low p = exB) (h5 : ¬ low p = pxB) (h6 : ¬ low p = keepB) : rdO (p :: r) o = none := by
  rw [rdO.eq_def]
  exact (if_neg (by rintro (h | h) <;> contradiction)).trans ((if_neg h3).trans ((if_neg (by rintro (h | h) <;> contradiction)).trans (if_neg h6)))
set_option maxRecDepth 100000 in
set_option maxHeartbeats 4000000 in
theorem readOptions_any (a : Option Addr) (n m : Nat) (ls : List ByteArray) (w : World) (hR : RdS w a n ls) (hk : ∀ k ∈ ls, k.size ≤ maxLen) (hn3 : n ≤ 1000) :
    Calls Tryz.prog 94 #[.slice a n m] w fun e w' => e = optR (rdO ls Opt.z) ∧ Below w.heap.size w w' := by
  have HR : Hid (RdS w a n ls) := hR
  have HL : Hid (ls.length = n) := hR.len
  have HK : Hid (∀ k ∈ ls, k.size ≤ maxLen) := hk
  obtain ⟨R, hRd⟩ : ∃ R, rdO ls Opt.z = R := ⟨_, rfl⟩
  rw [hRd]
  obtain ⟨w1, hw1⟩ : ∃ w1, w.alloc (.cells #[.string noB, .string noB, .string noB, .string noB] 178) = w1 := ⟨_, rfl⟩
  obtain ⟨w2, hw2⟩ : ∃ w2, w1.alloc (.cells #[.string noB, .string noB, .string noB, .string noB] 178) = w2 := ⟨_, rfl⟩
  have hv1 : VarO w1 w.heap.size Opt.z := by rw [← hw1]; exact heap_alloc_new w _
  have hb1 : Below w.heap.size w w1 := by rw [← hw1]; exact alloc_below w _
  have hb2 : Below w1.heap.size w1 w2 := by rw [← hw2]; exact alloc_below w1 _
  have HV1 : Hid (VarO w2 w.heap.size Opt.z) := hv1.keep hb2
  have HV2 : Hid (VarO w2 w1.heap.size Opt.z) := by rw [← hw2]; exact heap_alloc_new w1 _
  have HB2 : Hid (Below w.heap.size w w2) := hb1.trans (hb2.mono hb1.size)
  obtain ⟨g, hg⟩ : ∃ g, w1.heap.size = g := ⟨_, rfl⟩
  rw [hg] at HV2
  have HG : Hid (w.heap.size < g) := by rw [← hg]; exact hv1.lt
  have hgg : ∀ (o : Obj), w1.alloc o = w1.alloc o := fun _ => rfl
  have hD : rdO (ls.drop 0) Opt.z = R := hRd
  have hw2' : ({ block := w1.heap.size, off := 0 } : Addr) = ⟨g, 0, none⟩ := by rw [hg]
  clear hR hk hv1 hb1 hb2 hRd hgg
  go_enter Tryz.func94, Tryz.ntmps94
  go_wp2
  go_loopg [5] n (fun gk iv wr => ∃ (k : Nat) (o : Opt), iv = .int .i64 k ∧ Hid (k + gk = n) ∧ Hid (VarO wr w.heap.size Opt.z) ∧ Hid (VarO wr g o) ∧ Hid (Below w.heap.size w wr) ∧ Hid (rdO (ls.drop k) o = R))
  case atStart => exact ⟨0, Opt.z, rfl, by show _ = _; omega, HV1, HV2, HB2, hD⟩
  case round =>
    obtain ⟨k, o, rfl, HKn, HVz, HVo, HB, HDr⟩ := hrel
    -- the round
    have hKn := HKn.out
    have HBd : Hid (∀ wx, VarO wx w.heap.size Opt.z → Below w.heap.size w wx → R = none → Below w.heap.size w (setO wx w.heap.size Opt.z) ∧ VarO (setO wx w.heap.size Opt.z) w.heap.size Opt.z ∧ .returned (.tuple #[Opt.z.v, .bool false]) = optR R) := fun wx h1 h2 h3 =>
      ⟨(((h2.setCell (Nat.le_refl _) _).setCell (Nat.le_refl _) _).setCell (Nat.le_refl _) _).setCell (Nat.le_refl _) _, h1.set Opt.z, by rw [h3]; rfl⟩
    by_cases hk : k < n
    · have hki : (k : Int) < n := by omega
      obtain ⟨b, off, rfl, hc⟩ := (HR.out.cell k hk)
      have hc' : wr.cell? ⟨b, off + k, none⟩ = some (.string (ls.getD k ByteArray.empty)) := by
        rw [HB.out.cell (p := ⟨b, off + k, none⟩) (World.block_lt_of_cell? _ _ hc)]; exact hc
      have hdr := HDr.out
      rw [drop_at (by rw [HL.out]; exact hk)] at hdr
      obtain ⟨p, hp⟩ : ∃ p, ls.getD k ByteArray.empty = p := ⟨_, rfl⟩
      rw [hp] at hc' hdr
      have hps : p.size ≤ maxLen := by
        rw [← hp, List.getD_eq_getElem?_getD, List.getElem?_eq_getElem (by rw [HL.out]; exact hk)]
        exact HK.out _ (List.getElem_mem _)
      have HLw := Cy.Lower_any p wr hps
      obtain ⟨on, ge, un, wa⟩ := o
      obtain ⟨l, hl⟩ : ∃ l, low p = l := ⟨_, rfl⟩
      rw [hl] at HLw
      have HNx : Hid (∀ wx, VarO wr w.heap.size Opt.z ∧ VarO wr g ⟨on, ge, un, wa⟩ ∧ Below w.heap.size w wr → Below wr.heap.size wr wx → VarO wx w.heap.size Opt.z ∧ VarO wx g ⟨on, ge, un, wa⟩ ∧ Below w.heap.size w wx) := fun wx h hb => ⟨h.1.keep hb, h.2.1.keep hb, h.2.2.trans (hb.mono h.2.2.size)⟩
      have HA : Hid (VarO wr w.heap.size Opt.z ∧ VarO wr g ⟨on, ge, un, wa⟩ ∧ Below w.heap.size w wr) := ⟨HVz.out, HVo.out, HB.out⟩
      clear hc hp hps HVz HVo HB HDr
      by_cases e1 : l = nxB
      · have q1 := lit_yes (x := [110, 120]) e1 rfl
        rw [rd_only (.inl (by rw [hl]; exact e1))] at hdr
        simp only at hdr
        by_cases ho : on = noB
        · subst ho
          rw [if_pos rfl, hl] at hdr
          have HDn : Hid _ := hdr
          clear hdr e1
          go_wp2_with (first
            | (go_at_call 88; refine HLw.mono ?_; rintro e w3 ⟨rfl, hb3⟩; have HA3 : Hid (VarO w3 w.heap.size Opt.z ∧ VarO w3 g ⟨noB, ge, un, wa⟩ ∧ Below w.heap.size w w3) := HNx.out w3 HA.out hb3; obtain ⟨y0, y1, y2, y3⟩ := HA3.out.2.1.cells; have yf := HA3.out.2.1.free; obtain ⟨z0, z1, z2, z3⟩ := HA3.out.1.cells; have zf := HA3.out.1.free; simp only [Opt.z] at z0 z1 z2 z3; clear hb3)
            | (go_at_call 149; refine (say_yes g 0 l _ y0 (yf 0)).mono ?_; rintro e w4 ⟨rfl, hw4⟩; have HA4 : Hid (VarO w4 w.heap.size Opt.z ∧ VarO w4 g ⟨l, ge, un, wa⟩ ∧ Below w.heap.size w w4) := (by rw [hw4]; exact ⟨HA3.out.1.off (Nat.ne_of_lt HG.out), HA3.out.2.1.s0 l, HA3.out.2.2.setCell (Nat.le_of_lt HG.out) _⟩); clear hw4 y0 y1 y2 y3 yf z0 z1 z2 z3 zf))
          go_roundg (gk - 1)
          case measure => omega
          case rel => exact ⟨k + 1, ⟨l, ge, un, wa⟩, by go_num, by show _ = _; omega, HA4.out.1, HA4.out.2.1, HA4.out.2.2, HDn.out⟩
        · rw [if_neg ho] at hdr
          have HRn : Hid (R = none) := hdr.symm
          have HO : Hid (¬ on = noB) := ho
          clear hdr ho e1
          go_wp2_with (first
            | (go_at_call 88; refine HLw.mono ?_; rintro e w3 ⟨rfl, hb3⟩; have HA3 : Hid (VarO w3 w.heap.size Opt.z ∧ VarO w3 g ⟨on, ge, un, wa⟩ ∧ Below w.heap.size w w3) := HNx.out w3 HA.out hb3; obtain ⟨y0, y1, y2, y3⟩ := HA3.out.2.1.cells; have yf := HA3.out.2.1.free; obtain ⟨z0, z1, z2, z3⟩ := HA3.out.1.cells; have zf := HA3.out.1.free; simp only [Opt.z] at z0 z1 z2 z3; obtain ⟨hE1, hE2, hE3⟩ := HBd.out w3 HA3.out.1 HA3.out.2.2 HRn.out; have HE : Hid _ := And.intro hE3 hE1; have HV : Hid _ := hE2; clear hE1 hE2 hE3; clear hb3)
            | (go_at_call 149; refine (say_no g 0 on l HO.out _ y0).mono ?_; rintro e w4 ⟨rfl, rfl⟩))
          exact ret_O (o := Opt.z) (x := .bool false) rfl rfl rfl HV.out HE.out
      by_cases e2 : l = xxB
      · have q1 := lit_no (x := [110, 120]) e1 rfl
        have q2 := lit_yes (x := [120, 120]) e2 rfl
        rw [rd_only (.inr (by rw [hl]; exact e2))] at hdr
        simp only at hdr
        by_cases ho : on = noB
        · subst ho
          rw [if_pos rfl, hl] at hdr
          have HDn : Hid _ := hdr
          clear hdr e1 e2
          go_wp2_with (first
            | (go_at_call 88; refine HLw.mono ?_; rintro e w3 ⟨rfl, hb3⟩; have HA3 : Hid (VarO w3 w.heap.size Opt.z ∧ VarO w3 g ⟨noB, ge, un, wa⟩ ∧ Below w.heap.size w w3) := HNx.out w3 HA.out hb3; obtain ⟨y0, y1, y2, y3⟩ := HA3.out.2.1.cells; have yf := HA3.out.2.1.free; obtain ⟨z0, z1, z2, z3⟩ := HA3.out.1.cells; have zf := HA3.out.1.free; simp only [Opt.z] at z0 z1 z2 z3; clear hb3)
            | (go_at_call 149; refine (say_yes g 0 l _ y0 (yf 0)).mono ?_; rintro e w4 ⟨rfl, hw4⟩; have HA4 : Hid (VarO w4 w.heap.size Opt.z ∧ VarO w4 g ⟨l, ge, un, wa⟩ ∧ Below w.heap.size w w4) := (by rw [hw4]; exact ⟨HA3.out.1.off (Nat.ne_of_lt HG.out), HA3.out.2.1.s0 l, HA3.out.2.2.setCell (Nat.le_of_lt HG.out) _⟩); clear hw4 y0 y1 y2 y3 yf z0 z1 z2 z3 zf))
          go_roundg (gk - 1)
          case measure => omega
          case rel => exact ⟨k + 1, ⟨l, ge, un, wa⟩, by go_num, by show _ = _; omega, HA4.out.1, HA4.out.2.1, HA4.out.2.2, HDn.out⟩
        · rw [if_neg ho] at hdr
          have HRn : Hid (R = none) := hdr.symm
          have HO : Hid (¬ on = noB) := ho
          clear hdr ho e1 e2
          go_wp2_with (first
            | (go_at_call 88; refine HLw.mono ?_; rintro e w3 ⟨rfl, hb3⟩; have HA3 : Hid (VarO w3 w.heap.size Opt.z ∧ VarO w3 g ⟨on, ge, un, wa⟩ ∧ Below w.heap.size w w3) := HNx.out w3 HA.out hb3; obtain ⟨y0, y1, y2, y3⟩ := HA3.out.2.1.cells; have yf := HA3.out.2.1.free; obtain ⟨z0, z1, z2, z3⟩ := HA3.out.1.cells; have zf := HA3.out.1.free; simp only [Opt.z] at z0 z1 z2 z3; obtain ⟨hE1, hE2, hE3⟩ := HBd.out w3 HA3.out.1 HA3.out.2.2 HRn.out; have HE : Hid _ := And.intro hE3 hE1; have HV : Hid _ := hE2; clear hE1 hE2 hE3; clear hb3)
            | (go_at_call 149; refine (say_no g 0 on l HO.out _ y0).mono ?_; rintro e w4 ⟨rfl, rfl⟩))
          exact ret_O (o := Opt.z) (x := .bool false) rfl rfl rfl HV.out HE.out
      by_cases e3 : l = getB
      · have q1 := lit_no (x := [110, 120]) e1 rfl
        have q2 := lit_no (x := [120, 120]) e2 rfl
        have q3 := lit_yes (x := [103, 101, 116]) e3 rfl
        rw [rd_get (by rw [hl]; exact e3)] at hdr
        simp only at hdr
        by_cases ho : ge = noB
        · subst ho
          rw [if_pos rfl, hl] at hdr
          have HDn : Hid _ := hdr
          clear hdr e1 e2 e3
          go_wp2_with (first
            | (go_at_call 88; refine HLw.mono ?_; rintro e w3 ⟨rfl, hb3⟩; have HA3 : Hid (VarO w3 w.heap.size Opt.z ∧ VarO w3 g ⟨on, noB, un, wa⟩ ∧ Below w.heap.size w w3) := HNx.out w3 HA.out hb3; obtain ⟨y0, y1, y2, y3⟩ := HA3.out.2.1.cells; have yf := HA3.out.2.1.free; obtain ⟨z0, z1, z2, z3⟩ := HA3.out.1.cells; have zf := HA3.out.1.free; simp only [Opt.z] at z0 z1 z2 z3; clear hb3)
            | (go_at_call 149; refine (say_yes g 1 l _ y1 (yf 1)).mono ?_; rintro e w4 ⟨rfl, hw4⟩; have HA4 : Hid (VarO w4 w.heap.size Opt.z ∧ VarO w4 g ⟨on, l, un, wa⟩ ∧ Below w.heap.size w w4) := (by rw [hw4]; exact ⟨HA3.out.1.off (Nat.ne_of_lt HG.out), HA3.out.2.1.s1 l, HA3.out.2.2.setCell (Nat.le_of_lt HG.out) _⟩); clear hw4 y0 y1 y2 y3 yf z0 z1 z2 z3 zf))
          go_roundg (gk - 1)
          case measure => omega
          case rel => exact ⟨k + 1, ⟨on, l, un, wa⟩, by go_num, by show _ = _; omega, HA4.out.1, HA4.out.2.1, HA4.out.2.2, HDn.out⟩
        · rw [if_neg ho] at hdr
          have HRn : Hid (R = none) := hdr.symm
          have HO : Hid (¬ ge = noB) := ho
          clear hdr ho e1 e2 e3
          go_wp2_with (first
            | (go_at_call 88; refine HLw.mono ?_; rintro e w3 ⟨rfl, hb3⟩; have HA3 : Hid (VarO w3 w.heap.size Opt.z ∧ VarO w3 g ⟨on, ge, un, wa⟩ ∧ Below w.heap.size w w3) := HNx.out w3 HA.out hb3; obtain ⟨y0, y1, y2, y3⟩ := HA3.out.2.1.cells; have yf := HA3.out.2.1.free; obtain ⟨z0, z1, z2, z3⟩ := HA3.out.1.cells; have zf := HA3.out.1.free; simp only [Opt.z] at z0 z1 z2 z3; obtain ⟨hE1, hE2, hE3⟩ := HBd.out w3 HA3.out.1 HA3.out.2.2 HRn.out; have HE : Hid _ := And.intro hE3 hE1; have HV : Hid _ := hE2; clear hE1 hE2 hE3; clear hb3)
            | (go_at_call 149; refine (say_no g 1 ge l HO.out _ y1).mono ?_; rintro e w4 ⟨rfl, rfl⟩))
          exact ret_O (o := Opt.z) (x := .bool false) rfl rfl rfl HV.out HE.out
      by_cases e4 : l = exB
      · have q1 := lit_no (x := [110, 120]) e1 rfl
        have q2 := lit_no (x := [120, 120]) e2 rfl
        have q3 := lit_no (x := [103, 101, 116]) e3 rfl
        have q4 := lit_yes (x := [101, 120]) e4 rfl
        by_cases hk2 : k + 1 < n
        · rw [drop_at (by rw [HL.out]; exact hk2), rd_time (.inl (by rw [hl]; exact e4))] at hdr
          simp only at hdr
          have hki2 : ¬ ((k : Int) + 1 = n) := by omega
          have hki3 : (((k : Int) + 1 == n) : Bool) = false := by simpa using hki2
          obtain ⟨b', off', hbb, hcv⟩ := HR.out.cell (k + 1) hk2
          cases hbb
          obtain ⟨q, hq⟩ : ∃ q, ls.getD (k + 1) ByteArray.empty = q := ⟨_, rfl⟩
          rw [hq] at hcv hdr
          have HCv : Hid (∀ wx, Below w.heap.size w wx → wx.cell? ⟨b, off + (k + 1), none⟩ = some (.string q)) := fun wx hb => by rw [hb.cell (p := ⟨b, off + (k + 1), none⟩) (World.block_lt_of_cell? _ _ hcv)]; exact hcv
          by_cases ho : un = noB
          · subst ho
            rw [if_pos rfl, hl] at hdr
            have HDn : Hid _ := hdr
            clear hdr hq hcv e1 e2 e3 e4
            go_wp2_with (first
              | (go_at_call 88; refine HLw.mono ?_; rintro e w3 ⟨rfl, hb3⟩; have HA3 : Hid (VarO w3 w.heap.size Opt.z ∧ VarO w3 g ⟨on, ge, noB, wa⟩ ∧ Below w.heap.size w w3) := HNx.out w3 HA.out hb3; obtain ⟨y0, y1, y2, y3⟩ := HA3.out.2.1.cells; have yf := HA3.out.2.1.free; obtain ⟨z0, z1, z2, z3⟩ := HA3.out.1.cells; have zf := HA3.out.1.free; simp only [Opt.z] at z0 z1 z2 z3; have v0 := HCv.out w3 HA3.out.2.2; have HS : Hid (∀ wx, wx = w3.setCell ⟨g, 3, none⟩ (.string q) → VarO wx w.heap.size Opt.z ∧ VarO wx g ⟨on, ge, noB, q⟩ ∧ Below w.heap.size w wx) := fun wx h => (by rw [h]; exact ⟨HA3.out.1.off (Nat.ne_of_lt HG.out), HA3.out.2.1.s3 q, HA3.out.2.2.setCell (Nat.le_of_lt HG.out) _⟩); obtain ⟨w5, hw5⟩ : ∃ w5, w3.setCell ⟨g, 3, none⟩ (.string q) = w5 := ⟨_, rfl⟩; have HA5 : Hid (VarO w5 w.heap.size Opt.z ∧ VarO w5 g ⟨on, ge, noB, q⟩ ∧ Below w.heap.size w w5) := HS.out w5 hw5.symm; obtain ⟨x0, x1, x2, x3⟩ := HA5.out.2.1.cells; have xf := HA5.out.2.1.free; clear HS; clear hb3)
              | (go_at_call 149; refine (say_yes g 2 l _ x2 (xf 2)).mono ?_; rintro e w4 ⟨rfl, hw4⟩; have HA4 : Hid (VarO w4 w.heap.size Opt.z ∧ VarO w4 g ⟨on, ge, l, q⟩ ∧ Below w.heap.size w w4) := (by rw [hw4]; exact ⟨HA5.out.1.off (Nat.ne_of_lt HG.out), HA5.out.2.1.s2 l, HA5.out.2.2.setCell (Nat.le_of_lt HG.out) _⟩); clear hw4 hw5 x0 x1 x2 x3 xf y0 y1 y2 y3 yf z0 z1 z2 z3 zf v0))
            go_roundg (gk - 2)
            case measure => omega
            case rel => exact ⟨k + 2, ⟨on, ge, l, q⟩, by go_num, by show _ = _; omega, HA4.out.1, HA4.out.2.1, HA4.out.2.2, HDn.out⟩
          · rw [if_neg ho] at hdr
            have HRn : Hid (R = none) := hdr.symm
            have HO : Hid (¬ un = noB) := ho
            clear hdr ho hq hcv e1 e2 e3 e4
            go_wp2_with (first
              | (go_at_call 88; refine HLw.mono ?_; rintro e w3 ⟨rfl, hb3⟩; have HA3 : Hid (VarO w3 w.heap.size Opt.z ∧ VarO w3 g ⟨on, ge, un, wa⟩ ∧ Below w.heap.size w w3) := HNx.out w3 HA.out hb3; obtain ⟨y0, y1, y2, y3⟩ := HA3.out.2.1.cells; have yf := HA3.out.2.1.free; obtain ⟨z0, z1, z2, z3⟩ := HA3.out.1.cells; have zf := HA3.out.1.free; simp only [Opt.z] at z0 z1 z2 z3; have v0 := HCv.out w3 HA3.out.2.2; obtain ⟨w5, hw5⟩ : ∃ w5, w3.setCell ⟨g, 3, none⟩ (.string q) = w5 := ⟨_, rfl⟩; have HA5 : Hid (VarO w5 w.heap.size Opt.z ∧ VarO w5 g ⟨on, ge, un, q⟩ ∧ Below w.heap.size w w5) := (by rw [← hw5]; exact ⟨HA3.out.1.off (Nat.ne_of_lt HG.out), HA3.out.2.1.s3 q, HA3.out.2.2.setCell (Nat.le_of_lt HG.out) _⟩); obtain ⟨x0, x1, x2, x3⟩ := HA5.out.2.1.cells; obtain ⟨t0, t1, t2, t3⟩ := HA5.out.1.cells; have tf := HA5.out.1.free; simp only [Opt.z] at t0 t1 t2 t3; obtain ⟨hE1, hE2, hE3⟩ := HBd.out w5 HA5.out.1 HA5.out.2.2 HRn.out; have HE : Hid _ := And.intro hE3 hE1; have HV : Hid _ := hE2; clear hE1 hE2 hE3; clear hb3)
              | (go_at_call 149; refine (say_no g 2 un l HO.out _ x2).mono ?_; rintro e w4 ⟨rfl, rfl⟩))
            exact ret_O (o := Opt.z) (x := .bool false) rfl rfl rfl HV.out HE.out
        · rw [List.drop_eq_nil_of_le (by rw [HL.out]; omega), rd_end (.inl (by rw [hl]; exact e4))] at hdr
          have HRn : Hid (R = none) := hdr.symm
          have hki2 : (k : Int) + 1 = n := by omega
          have hki3 : (((k : Int) + 1 == n) : Bool) = true := by simpa using hki2
          clear hdr e1 e2 e3 e4
          go_wp2_with (go_at_call 88; refine HLw.mono ?_; rintro e w3 ⟨rfl, hb3⟩; have HA3 : Hid (VarO w3 w.heap.size Opt.z ∧ VarO w3 g ⟨on, ge, un, wa⟩ ∧ Below w.heap.size w w3) := HNx.out w3 HA.out hb3; obtain ⟨y0, y1, y2, y3⟩ := HA3.out.2.1.cells; have yf := HA3.out.2.1.free; obtain ⟨z0, z1, z2, z3⟩ := HA3.out.1.cells; have zf := HA3.out.1.free; simp only [Opt.z] at z0 z1 z2 z3; obtain ⟨hE1, hE2, hE3⟩ := HBd.out w3 HA3.out.1 HA3.out.2.2 HRn.out; have HE : Hid _ := And.intro hE3 hE1; have HV : Hid _ := hE2; clear hE1 hE2 hE3; clear hb3)
          exact ret_O (o := Opt.z) (x := .bool false) rfl rfl rfl HV.out HE.out
      by_cases e5 : l = pxB
      · have q1 := lit_no (x := [110, 120]) e1 rfl
        have q2 := lit_no (x := [120, 120]) e2 rfl
        have q3 := lit_no (x := [103, 101, 116]) e3 rfl
        have q4 := lit_no (x := [101, 120]) e4 rfl
        have q5 := lit_yes (x := [112, 120]) e5 rfl
        by_cases hk2 : k + 1 < n
        · rw [drop_at (by rw [HL.out]; exact hk2), rd_time (.inr (by rw [hl]; exact e5))] at hdr
          simp only at hdr
          have hki2 : ¬ ((k : Int) + 1 = n) := by omega
          have hki3 : (((k : Int) + 1 == n) : Bool) = false := by simpa using hki2
          obtain ⟨b', off', hbb, hcv⟩ := HR.out.cell (k + 1) hk2
          cases hbb
          obtain ⟨q, hq⟩ : ∃ q, ls.getD (k + 1) ByteArray.empty = q := ⟨_, rfl⟩
          rw [hq] at hcv hdr
          have HCv : Hid (∀ wx, Below w.heap.size w wx → wx.cell? ⟨b, off + (k + 1), none⟩ = some (.string q)) := fun wx hb => by rw [hb.cell (p := ⟨b, off + (k + 1), none⟩) (World.block_lt_of_cell? _ _ hcv)]; exact hcv
          by_cases ho : un = noB
          · subst ho
            rw [if_pos rfl, hl] at hdr
            have HDn : Hid _ := hdr
            clear hdr hq hcv e1 e2 e3 e4 e5
            go_wp2_with (first
              | (go_at_call 88; refine HLw.mono ?_; rintro e w3 ⟨rfl, hb3⟩; have HA3 : Hid (VarO w3 w.heap.size Opt.z ∧ VarO w3 g ⟨on, ge, noB, wa⟩ ∧ Below w.heap.size w w3) := HNx.out w3 HA.out hb3; obtain ⟨y0, y1, y2, y3⟩ := HA3.out.2.1.cells; have yf := HA3.out.2.1.free; obtain ⟨z0, z1, z2, z3⟩ := HA3.out.1.cells; have zf := HA3.out.1.free; simp only [Opt.z] at z0 z1 z2 z3; have v0 := HCv.out w3 HA3.out.2.2; have HS : Hid (∀ wx, wx = w3.setCell ⟨g, 3, none⟩ (.string q) → VarO wx w.heap.size Opt.z ∧ VarO wx g ⟨on, ge, noB, q⟩ ∧ Below w.heap.size w wx) := fun wx h => (by rw [h]; exact ⟨HA3.out.1.off (Nat.ne_of_lt HG.out), HA3.out.2.1.s3 q, HA3.out.2.2.setCell (Nat.le_of_lt HG.out) _⟩); obtain ⟨w5, hw5⟩ : ∃ w5, w3.setCell ⟨g, 3, none⟩ (.string q) = w5 := ⟨_, rfl⟩; have HA5 : Hid (VarO w5 w.heap.size Opt.z ∧ VarO w5 g ⟨on, ge, noB, q⟩ ∧ Below w.heap.size w w5) := HS.out w5 hw5.symm; obtain ⟨x0, x1, x2, x3⟩ := HA5.out.2.1.cells; have xf := HA5.out.2.1.free; clear HS; clear hb3)
              | (go_at_call 149; refine (say_yes g 2 l _ x2 (xf 2)).mono ?_; rintro e w4 ⟨rfl, hw4⟩; have HA4 : Hid (VarO w4 w.heap.size Opt.z ∧ VarO w4 g ⟨on, ge, l, q⟩ ∧ Below w.heap.size w w4) := (by rw [hw4]; exact ⟨HA5.out.1.off (Nat.ne_of_lt HG.out), HA5.out.2.1.s2 l, HA5.out.2.2.setCell (Nat.le_of_lt HG.out) _⟩); clear hw4 hw5 x0 x1 x2 x3 xf y0 y1 y2 y3 yf z0 z1 z2 z3 zf v0))
            go_roundg (gk - 2)
            case measure => omega
            case rel => exact ⟨k + 2, ⟨on, ge, l, q⟩, by go_num, by show _ = _; omega, HA4.out.1, HA4.out.2.1, HA4.out.2.2, HDn.out⟩
          · rw [if_neg ho] at hdr
            have HRn : Hid (R = none) := hdr.symm
            have HO : Hid (¬ un = noB) := ho
            clear hdr ho hq hcv e1 e2 e3 e4 e5
            go_wp2_with (first
              | (go_at_call 88; refine HLw.mono ?_; rintro e w3 ⟨rfl, hb3⟩; have HA3 : Hid (VarO w3 w.heap.size Opt.z ∧ VarO w3 g ⟨on, ge, un, wa⟩ ∧ Below w.heap.size w w3) := HNx.out w3 HA.out hb3; obtain ⟨y0, y1, y2, y3⟩ := HA3.out.2.1.cells; have yf := HA3.out.2.1.free; obtain ⟨z0, z1, z2, z3⟩ := HA3.out.1.cells; have zf := HA3.out.1.free; simp only [Opt.z] at z0 z1 z2 z3; have v0 := HCv.out w3 HA3.out.2.2; obtain ⟨w5, hw5⟩ : ∃ w5, w3.setCell ⟨g, 3, none⟩ (.string q) = w5 := ⟨_, rfl⟩; have HA5 : Hid (VarO w5 w.heap.size Opt.z ∧ VarO w5 g ⟨on, ge, un, q⟩ ∧ Below w.heap.size w w5) := (by rw [← hw5]; exact ⟨HA3.out.1.off (Nat.ne_of_lt HG.out), HA3.out.2.1.s3 q, HA3.out.2.2.setCell (Nat.le_of_lt HG.out) _⟩); obtain ⟨x0, x1, x2, x3⟩ := HA5.out.2.1.cells; obtain ⟨t0, t1, t2, t3⟩ := HA5.out.1.cells; have tf := HA5.out.1.free; simp only [Opt.z] at t0 t1 t2 t3; obtain ⟨hE1, hE2, hE3⟩ := HBd.out w5 HA5.out.1 HA5.out.2.2 HRn.out; have HE : Hid _ := And.intro hE3 hE1; have HV : Hid _ := hE2; clear hE1 hE2 hE3; clear hb3)
              | (go_at_call 149; refine (say_no g 2 un l HO.out _ x2).mono ?_; rintro e w4 ⟨rfl, rfl⟩))
            exact ret_O (o := Opt.z) (x := .bool false) rfl rfl rfl HV.out HE.out
        · rw [List.drop_eq_nil_of_le (by rw [HL.out]; omega), rd_end (.inr (by rw [hl]; exact e5))] at hdr
          have HRn : Hid (R = none) := hdr.symm
          have hki2 : (k : Int) + 1 = n := by omega
          have hki3 : (((k : Int) + 1 == n) : Bool) = true := by simpa using hki2
          clear hdr e1 e2 e3 e4 e5
          go_wp2_with (go_at_call 88; refine HLw.mono ?_; rintro e w3 ⟨rfl, hb3⟩; have HA3 : Hid (VarO w3 w.heap.size Opt.z ∧ VarO w3 g ⟨on, ge, un, wa⟩ ∧ Below w.heap.size w w3) := HNx.out w3 HA.out hb3; obtain ⟨y0, y1, y2, y3⟩ := HA3.out.2.1.cells; have yf := HA3.out.2.1.free; obtain ⟨z0, z1, z2, z3⟩ := HA3.out.1.cells; have zf := HA3.out.1.free; simp only [Opt.z] at z0 z1 z2 z3; obtain ⟨hE1, hE2, hE3⟩ := HBd.out w3 HA3.out.1 HA3.out.2.2 HRn.out; have HE : Hid _ := And.intro hE3 hE1; have HV : Hid _ := hE2; clear hE1 hE2 hE3; clear hb3)
          exact ret_O (o := Opt.z) (x := .bool false) rfl rfl rfl HV.out HE.out
      by_cases e6 : l = keepB
      · have q1 := lit_no (x := [110, 120]) e1 rfl
        have q2 := lit_no (x := [120, 120]) e2 rfl
        have q3 := lit_no (x := [103, 101, 116]) e3 rfl
        have q4 := lit_no (x := [101, 120]) e4 rfl
        have q5 := lit_no (x := [112, 120]) e5 rfl
        have q6 := lit_yes (x := [107, 101, 101, 112, 116, 116, 108]) e6 rfl
        rw [rd_keep (by rw [hl]; exact e6)] at hdr
        simp only at hdr
        by_cases ho : un = noB
        · subst ho
          rw [if_pos rfl, hl] at hdr
          have HDn : Hid _ := hdr
          clear hdr e1 e2 e3 e4 e5 e6
          go_wp2_with (first
            | (go_at_call 88; refine HLw.mono ?_; rintro e w3 ⟨rfl, hb3⟩; have HA3 : Hid (VarO w3 w.heap.size Opt.z ∧ VarO w3 g ⟨on, ge, noB, wa⟩ ∧ Below w.heap.size w w3) := HNx.out w3 HA.out hb3; obtain ⟨y0, y1, y2, y3⟩ := HA3.out.2.1.cells; have yf := HA3.out.2.1.free; obtain ⟨z0, z1, z2, z3⟩ := HA3.out.1.cells; have zf := HA3.out.1.free; simp only [Opt.z] at z0 z1 z2 z3; clear hb3)
            | (go_at_call 149; refine (say_yes g 2 l _ y2 (yf 2)).mono ?_; rintro e w4 ⟨rfl, hw4⟩; have HA4 : Hid (VarO w4 w.heap.size Opt.z ∧ VarO w4 g ⟨on, ge, l, wa⟩ ∧ Below w.heap.size w w4) := (by rw [hw4]; exact ⟨HA3.out.1.off (Nat.ne_of_lt HG.out), HA3.out.2.1.s2 l, HA3.out.2.2.setCell (Nat.le_of_lt HG.out) _⟩); clear hw4 y0 y1 y2 y3 yf z0 z1 z2 z3 zf))
          go_roundg (gk - 1)
          case measure => omega
          case rel => exact ⟨k + 1, ⟨on, ge, l, wa⟩, by go_num, by show _ = _; omega, HA4.out.1, HA4.out.2.1, HA4.out.2.2, HDn.out⟩
        · rw [if_neg ho] at hdr
          have HRn : Hid (R = none) := hdr.symm
          have HO : Hid (¬ un = noB) := ho
          clear hdr ho e1 e2 e3 e4 e5 e6
          go_wp2_with (first
            | (go_at_call 88; refine HLw.mono ?_; rintro e w3 ⟨rfl, hb3⟩; have HA3 : Hid (VarO w3 w.heap.size Opt.z ∧ VarO w3 g ⟨on, ge, un, wa⟩ ∧ Below w.heap.size w w3) := HNx.out w3 HA.out hb3; obtain ⟨y0, y1, y2, y3⟩ := HA3.out.2.1.cells; have yf := HA3.out.2.1.free; obtain ⟨z0, z1, z2, z3⟩ := HA3.out.1.cells; have zf := HA3.out.1.free; simp only [Opt.z] at z0 z1 z2 z3; obtain ⟨hE1, hE2, hE3⟩ := HBd.out w3 HA3.out.1 HA3.out.2.2 HRn.out; have HE : Hid _ := And.intro hE3 hE1; have HV : Hid _ := hE2; clear hE1 hE2 hE3; clear hb3)
            | (go_at_call 149; refine (say_no g 2 un l HO.out _ y2).mono ?_; rintro e w4 ⟨rfl, rfl⟩))
          exact ret_O (o := Opt.z) (x := .bool false) rfl rfl rfl HV.out HE.out
      have q1 := lit_no (x := [110, 120]) e1 rfl
      have q2 := lit_no (x := [120, 120]) e2 rfl
      have q3 := lit_no (x := [103, 101, 116]) e3 rfl
      have q4 := lit_no (x := [101, 120]) e4 rfl
      have q5 := lit_no (x := [112, 120]) e5 rfl
      have q6 := lit_no (x := [107, 101, 101, 112, 116, 116, 108]) e6 rfl
      rw [rd_no (by rw [hl]; exact e1) (by rw [hl]; exact e2) (by rw [hl]; exact e3) (by rw [hl]; exact e4) (by rw [hl]; exact e5) (by rw [hl]; exact e6)] at hdr
      have HRn : Hid (R = none) := hdr.symm
      clear hdr e1 e2 e3 e4 e5 e6
      go_wp2_with (go_at_call 88; refine HLw.mono ?_; rintro e w3 ⟨rfl, hb3⟩; have HA3 : Hid (VarO w3 w.heap.size Opt.z ∧ VarO w3 g ⟨on, ge, un, wa⟩ ∧ Below w.heap.size w w3) := HNx.out w3 HA.out hb3; obtain ⟨y0, y1, y2, y3⟩ := HA3.out.2.1.cells; have yf := HA3.out.2.1.free; obtain ⟨z0, z1, z2, z3⟩ := HA3.out.1.cells; have zf := HA3.out.1.free; simp only [Opt.z] at z0 z1 z2 z3; obtain ⟨hE1, hE2, hE3⟩ := HBd.out w3 HA3.out.1 HA3.out.2.2 HRn.out; have HE : Hid _ := And.intro hE3 hE1; have HV : Hid _ := hE2; clear hE1 hE2 hE3; clear hb3)
      exact ret_O (o := Opt.z) (x := .bool false) rfl rfl rfl HV.out HE.out
    · have hki : ¬ ((k : Int) < n) := by omega
      have hdr := HDr.out
      rw [List.drop_eq_nil_of_le (by rw [HL.out]; omega), rdO] at hdr
      have HRn : Hid (R = some o) := hdr.symm
      obtain ⟨y0, y1, y2, y3⟩ := HVo.out.cells
      have yf := HVo.out.free
      obtain ⟨z0, z1, z2, z3⟩ := HVz.out.cells
      have zf := HVz.out.free
      simp only [Opt.z] at z0 z1 z2 z3
      have HE : Hid (.returned (.tuple #[o.v, .bool true]) = optR R ∧ Below w.heap.size w (setO wr w.heap.size o)) := ⟨by rw [HRn.out]; rfl, (((HB.out.setCell (Nat.le_refl _) _).setCell (Nat.le_refl _) _).setCell (Nat.le_refl _) _).setCell (Nat.le_refl _) _⟩
      have HV : Hid (VarO (setO wr w.heap.size o) w.heap.size o) := HVz.out.set o
      clear hdr
      go_wp2
      exact ret_O (o := o) (x := .bool true) rfl rfl rfl HV.out HE.out
def behindP (t z : Int) (sec : Bool) : Option Int := if z < 1 then none else if sec = true then (if 9223372036854775 < z then none else Tx.addO t (z * 1000)) else Tx.addO t z
/-- Until when a key will be there: a refusal's code, and it. -/
def timeP (o : Opt) (cur : Option Int) (t : Int) : Int × Option Int :=
  if o.unt = noB then (0, none) else if o.unt = keepB then (0, cur) else match parseL (lst o.wait) with
    | none => (5, none)
    | some z => match behindP t z (decide (o.unt = exB)) with
      | none => (12, none)
      | some u => (0, some u)
def ExpR (w' : World) (nm : ByteArray) (q : Int × Option Int) (e : Ending) : Prop := (q.1 = 0 ∧ e = .returned (.tuple #[.int .i64 (q.2.getD 0), .bool q.2.isSome, .nilIface])) ∨ (¬ q.1 = 0 ∧ ∃ b z r, e = .returned (.tuple #[.int .i64 z, .bool r, .iface 170 (.pointer (some ⟨b, 0, none⟩))]) ∧ Flt w' (.iface 170 (.pointer (some ⟨b, 0, none⟩))) nm q.1)
section
variable {w w' : World} {U : Own} {s x : Nat} {NM : List ByteArray} {t : Int} {A : Ab} {M M' : AbT} {V V' : ByteArray → Int} {c : Nat} {nm : ByteArray} {a : Option Addr} {n m : Nat} {ls : List ByteArray}
theorem behind_any (h : Cll w c s t nm a n m) (ht : Tx.Int64 t) (z : Int) (hz : Tx.Int64 z) (sec : Bool) :
    Calls Tryz.prog 150 #[ptr c, .int .i64 z, .bool sec] w fun e w' => e = .returned (i64R (behindP t z sec)) ∧ w' = w := by
  have c1 := h.c1
  clear h
  by_cases h1 : z < 1
  · have HQ : Hid (behindP t z sec = none) := if_pos h1
    go_enter Tryz.func150, Tryz.ntmps150
    go_wp2
    go_ret2
    exact ⟨by rw [HQ.out]; rfl, rfl⟩
  · unfold Tx.Int64 at hz
    cases sec with
    | false =>
      have HQ : Hid (behindP t z false = Tx.addO t z) := if_neg h1
      have HA := Tx.Add_any t z w ht hz
      cases ho : Tx.addO t z with
      | none =>
        rw [ho] at HA HQ
        replace HA : Calls Tryz.prog 153 #[.int .i64 t, .int .i64 z] w fun e w' => e = .returned (.tuple #[.int .i64 0, .bool false]) ∧ w' = w := HA
        clear ho
        go_enter Tryz.func150, Tryz.ntmps150
        go_wp2_with (go_at_call 153; refine HA.mono ?_; rintro e wx ⟨rfl, rfl⟩)
        go_ret2
        exact ⟨by rw [HQ.out]; rfl, rfl⟩
      | some u =>
        rw [ho] at HA HQ
        replace HA : Calls Tryz.prog 153 #[.int .i64 t, .int .i64 z] w fun e w' => e = .returned (.tuple #[.int .i64 u, .bool true]) ∧ w' = w := HA
        clear ho
        go_enter Tryz.func150, Tryz.ntmps150
        go_wp2_with (go_at_call 153; refine HA.mono ?_; rintro e wx ⟨rfl, rfl⟩)
        go_ret2
        exact ⟨by rw [HQ.out]; rfl, rfl⟩
    | true =>
      by_cases h2 : 9223372036854775 < z
      · have HQ : Hid (behindP t z true = none) := (if_neg h1).trans ((if_pos rfl).trans (if_pos h2))
        go_enter Tryz.func150, Tryz.ntmps150
        go_wp2
        go_ret2
        exact ⟨by rw [HQ.out]; rfl, rfl⟩
      · have HQ : Hid (behindP t z true = Tx.addO t (z * 1000)) := (if_neg h1).trans ((if_pos rfl).trans (if_neg h2))
        have HA := Tx.Add_any t (z * 1000) w ht (by unfold Tx.Int64; omega)
        have hw : wrap64 (z * 1000) = z * 1000 := by unfold wrap64; omega
        cases ho : Tx.addO t (z * 1000) with
        | none =>
          rw [ho] at HA HQ
          replace HA : Calls Tryz.prog 153 #[.int .i64 t, .int .i64 (z * 1000)] w fun e w' => e = .returned (.tuple #[.int .i64 0, .bool false]) ∧ w' = w := HA
          clear ho
          go_enter Tryz.func150, Tryz.ntmps150
          go_wp2_with (go_at_call 153; refine HA.mono ?_; rintro e wx ⟨rfl, rfl⟩)
          go_ret2
          exact ⟨by rw [HQ.out]; rfl, rfl⟩
        | some u =>
          rw [ho] at HA HQ
          replace HA : Calls Tryz.prog 153 #[.int .i64 t, .int .i64 (z * 1000)] w fun e w' => e = .returned (.tuple #[.int .i64 u, .bool true]) ∧ w' = w := HA
          clear ho
          go_enter Tryz.func150, Tryz.ntmps150
          go_wp2_with (go_at_call 153; refine HA.mono ?_; rintro e wx ⟨rfl, rfl⟩)
          go_ret2
          exact ⟨by rw [HQ.out]; rfl, rfl⟩
theorem expiry_any (hC : Ctx w U s x NM t M V c nm a n m ls) (hv : Low V) (ht : Tx.Int64 t) (k : ByteArray) (hk : k.size ≤ maxLen) (o : Opt) (hw : o.wait.size ≤ maxLen) :
    Calls Tryz.prog 95 #[ptr c, .string k, o.v] w fun e w' => ExpR w' nm (timeP o (endOf (M k)) t) e ∧ Mb vtag U w w' ∧ Seen w' U s x NM t M V := by
  obtain ⟨on, ge, un, wa⟩ := o
  obtain ⟨w1, hal⟩ : ∃ w1, w.alloc (.cells #[.string on, .string ge, .string un, .string wa] 178) = w1 := ⟨_, rfl⟩
  have hb1 : Below w.heap.size w w1 := by rw [← hal]; exact alloc_below w _
  have hv1 : VarO w1 w.heap.size ⟨on, ge, un, wa⟩ := by rw [← hal]; exact heap_alloc_new w _
  have HC1 : Hid (Ctx w1 U s x NM t M V c nm a n m ls) := hC.keep hb1
  have HM1 : Hid (Mb vtag U w w1) := Mb.of_below hb1
  obtain ⟨y0, y1, y2, y3⟩ := hv1.cells
  simp only at y0 y1 y2 y3 hw
  simp only [Opt.v]
  clear hC hb1
  by_cases h1 : un = noB
  · subst h1
    have HQ : Hid (timeP ⟨on, ge, noB, wa⟩ (endOf (M k)) t = (0, none)) := if_pos rfl
    clear hv1
    go_enter Tryz.func95, Tryz.ntmps95
    go_wp2
    go_ret3
    exact ⟨by rw [HQ.out]; exact .inl ⟨rfl, rfl⟩, HM1.out, HC1.out.seen⟩
  · have q1 := lit_no (x := []) h1 rfl
    have q2 : un.toList.isEmpty = false := by
      cases h : un.toList with
      | nil => rw [h] at q1; cases q1
      | cons _ _ => rfl
    by_cases h2 : un = keepB
    · have q3 := lit_yes (x := [107, 101, 101, 112, 116, 116, 108]) h2 rfl
      have HQ : Hid (timeP ⟨on, ge, un, wa⟩ (endOf (M k)) t = (0, endOf (M k))) := (if_neg h1).trans (if_pos h2)
      obtain ⟨cu, hcu⟩ : ∃ cu, endOf (M k) = cu := ⟨_, rfl⟩
      have HC2 : Hid (Ctx w1.drew U s x NM t M V c nm a n m ls) := HC1.out.keep (below_drewN w1 1)
      have HX := Expiry_s HC2.out.seen hv k hk
      rw [hcu] at HX HQ ⊢
      have c0 := HC2.out.cll.c0
      have c1 := HC2.out.cll.c1
      have HM2 : Hid (Mb vtag U w w1.drew) := HM1.out.trans (Mb.of_below (below_drewN w1 1))
      clear h1 h2 hv1 hcu
      go_enter Tryz.func95, Tryz.ntmps95
      go_upto_region 5 with fail
      go_region_with (go_at_call 19; refine HX.mono ?_; rintro e w2 ⟨rfl, hm2, hS2⟩; have HE : Hid (Mb vtag U w w2 ∧ Seen w2 U s x NM t M V) := ⟨HM2.out.trans (Mb.mono hm2 vtag_s), hS2⟩; clear hm2 hS2)
      all_goals
        go_wp2
        go_ret3
        exact ⟨by rw [HQ.out]; exact .inl ⟨rfl, rfl⟩, HE.out⟩
    · have q3 := lit_no (x := [107, 101, 101, 112, 116, 116, 108]) h2 rfl
      have hq0 : timeP ⟨on, ge, un, wa⟩ (endOf (M k)) t = (match parseL (lst wa) with | none => (5, none) | some z => match behindP t z (decide (un = exB)) with | none => (12, none) | some u => (0, some u)) := (if_neg h1).trans (if_neg h2)
      have HQ0 : Hid _ := hq0
      have q4 : (un.toList == [101, 120]) = decide (un = exB) := Cy.eq_lit _ _
      obtain ⟨sec, hsec⟩ : ∃ sec, decide (un = exB) = sec := ⟨_, rfl⟩
      rw [hsec] at q4 hq0
      clear h1 h2
      cases ho : parseL (lst wa) with
      | none =>
        have HQ : Hid (timeP ⟨on, ge, un, wa⟩ (endOf (M k)) t = (5, none)) := by show _ = _; rw [hq0, ho]
        have HN := number_no wa hw w1 HC1.out.cll ho
        have HF : Hid (Flt (newW w1 nm (codeV 5)) (newE w1) nm 5) := Flt.new w1 nm 5
        have HMx : Hid (Mb vtag U w (newW w1 nm (codeV 5)) ∧ Seen (newW w1 nm (codeV 5)) U s x NM t M V) := ⟨HM1.out.trans (Mb.of_below (newW_below _ _ _)), HC1.out.seen.keep (newW_below _ _ _)⟩
        obtain ⟨w2, hw2⟩ : ∃ w2, newW w1 nm (codeV 5) = w2 := ⟨_, rfl⟩
        obtain ⟨E, hE⟩ : ∃ E, newE w1 = .iface 170 (.pointer (some ⟨E, 0, none⟩)) := ⟨_, rfl⟩
        rw [hw2, hE] at HN HF
        rw [hw2] at HMx
        clear hq0 ho hw2 hE hv1 hsec
        go_enter Tryz.func95, Tryz.ntmps95
        go_wp2_with (go_at_call 108; first | rw [hal] | skip; refine HN.mono ?_; rintro e wx ⟨rfl, rfl⟩)
        go_ret3
        exact ⟨by rw [HQ.out]; exact .inr ⟨show ¬ (5 : Int) = 0 by decide, E, 0, false, rfl, HF.out⟩, HMx.out⟩
      | some z =>
        have HN := number_yes (c := c) wa hw z w1 ho
        have HBh := behind_any HC1.out.cll ht z (parse_int ho) sec
        cases hb : behindP t z sec with
        | none =>
          have HQ : Hid (timeP ⟨on, ge, un, wa⟩ (endOf (M k)) t = (12, none)) := by show _ = _; rw [hq0, ho]; simp only [hb]
          rw [hb] at HBh
          replace HBh : Calls Tryz.prog 150 #[ptr c, .int .i64 z, .bool sec] w1 fun e w' => e = .returned (.tuple #[.int .i64 0, .bool false]) ∧ w' = w1 := HBh
          have HN2 := because_any 12 (by decide) w1 HC1.out.cll
          have HF : Hid (Flt (newW w1 nm (codeV 12)) (newE w1) nm 12) := Flt.new w1 nm 12
          have HMx : Hid (Mb vtag U w (newW w1 nm (codeV 12)) ∧ Seen (newW w1 nm (codeV 12)) U s x NM t M V) := ⟨HM1.out.trans (Mb.of_below (newW_below _ _ _)), HC1.out.seen.keep (newW_below _ _ _)⟩
          obtain ⟨w2, hw2⟩ : ∃ w2, newW w1 nm (codeV 12) = w2 := ⟨_, rfl⟩
          obtain ⟨E, hE⟩ : ∃ E, newE w1 = .iface 170 (.pointer (some ⟨E, 0, none⟩)) := ⟨_, rfl⟩
          rw [hw2, hE] at HN2 HF
          rw [hw2] at HMx
          clear hq0 ho hw2 hE hb hv1 hsec
          go_enter Tryz.func95, Tryz.ntmps95
          go_wp2_with (first
            | (go_at_call 108; first | rw [hal] | skip; refine HN.mono ?_; rintro e wx ⟨rfl, rfl⟩)
            | (go_at_call 150; refine HBh.mono ?_; rintro e wx ⟨rfl, rfl⟩)
            | (go_at_call 54; refine HN2.mono ?_; rintro e wx ⟨rfl, rfl⟩))
          go_ret3
          exact ⟨by rw [HQ.out]; exact .inr ⟨show ¬ (12 : Int) = 0 by decide, E, 0, false, rfl, HF.out⟩, HMx.out⟩
        | some u =>
          have HQ : Hid (timeP ⟨on, ge, un, wa⟩ (endOf (M k)) t = (0, some u)) := by show _ = _; rw [hq0, ho]; simp only [hb]
          rw [hb] at HBh
          replace HBh : Calls Tryz.prog 150 #[ptr c, .int .i64 z, .bool sec] w1 fun e w' => e = .returned (.tuple #[.int .i64 u, .bool true]) ∧ w' = w1 := HBh
          clear hq0 ho hb hv1 hsec
          go_enter Tryz.func95, Tryz.ntmps95
          go_wp2_with (first
            | (go_at_call 108; first | rw [hal] | skip; refine HN.mono ?_; rintro e wx ⟨rfl, rfl⟩)
            | (go_at_call 150; refine HBh.mono ?_; rintro e wx ⟨rfl, rfl⟩))
          go_ret3
          exact ⟨by rw [HQ.out]; exact .inl ⟨rfl, rfl⟩, HM1.out, HC1.out.seen⟩
end
theorem Tryz.size9 (w : World) : (sizeOf 9).run Tryz.prog w = .ok 1 w := by go_simp
/-- A row of texts from a place on. -/
theorem slice_strs (b off n m lo : Nat) (h1 : lo ≤ n) (h2 : n ≤ m) (ls : List ByteArray) :
    ∃ o, (∀ wx, (Instr.sliceAt 30 (.slice (some ⟨b, off, none⟩) n m) (some (.int .i64 lo)) none none).run Tryz.prog wx = .ok (.slice (some ⟨b, o, none⟩) (n - lo) (m - lo)) wx) ∧ ∀ wx, RdS wx (some ⟨b, off, none⟩) n ls → RdS wx (some ⟨b, o, none⟩) (n - lo) (ls.drop lo) := by
  have ht : Tryz.prog.underlying 30 = some (.slice (Tryz.prog.elem 30)) := by simp [Program.elem, Tryz.underlying30]
  have he : Tryz.prog.elem 30 = 9 := by simp [Program.elem, Tryz.underlying30]
  refine ⟨if m = lo then off else off + lo, fun wx => ?_, fun wx h => ?_⟩
  · rw [run_sliceAt_slice _ _ _ _ _ _ ht, run_slice_l (P := Tryz.prog) wx 30 _ n m ht .i64 lo (by omega) (by omega), he, Tryz.size9]
    simp only [Result.andThen, sliced, Int.toNat_natCast]
    split <;> simp [*, add_flat]
  · have hl := h.len
    refine ⟨by rw [List.length_drop, hl], Nat.le_trans (Nat.sub_le _ _) h.max, fun j hj => ?_⟩
    obtain ⟨b', off', e, hc⟩ := h.cell (lo + j) (by omega)
    cases e
    refine ⟨b, _, rfl, ?_⟩
    rw [if_neg (by omega), Nat.add_assoc, hc]
    simp only [List.getD_eq_getElem?_getD, List.getElem?_drop]
theorem VarO.mv {w w' : World} {g : Nat} {o : Opt} (h : VarO w g o) (hm : Mv vtag w w') : VarO w' g o := by
  unfold VarO
  rw [hm.block g _ _ h (by decide)]
  exact h
/-- What a set leaves that has put its text. -/
def setE (qu : Option Int) (r : An) (M : AbT) (V : ByteArray → Int) (k tx : ByteArray) : An × AbT × (ByteArray → Int) := match qu with
  | none => (r, setA M k (some ((1, tx), none)), incV V k)
  | some u => (r, setA M k (some ((1, tx), some u)), incV (incV V k) k)
/-- What a set answers, and leaves. -/
def setP (M : AbT) (V : ByteArray → Int) (t : Int) (ls : List ByteArray) : An × AbT × (ByteArray → Int) :=
  match rdO (ls.drop 3) Opt.z with
  | none => (An.no 1, M, V)
  | some o =>
    if ¬ (timeP o (endOf (M (ls.getD 1 noB))) t).1 = 0 then (An.no (timeP o (endOf (M (ls.getD 1 noB))) t).1, M, V)
    else if ¬ o.get = noB ∧ ¬ (getP (M (ls.getD 1 noB))).code = 0 then (An.no 4, M, V)
    else if ¬ o.only = noB ∧ ((M (ls.getD 1 noB)).isSome != decide (o.only = xxB)) = true then (if o.get = noB then An.nul else getP (M (ls.getD 1 noB)), M, V)
    else setE (timeP o (endOf (M (ls.getD 1 noB))) t).2 (if o.get = noB then An.ok else getP (M (ls.getD 1 noB))) M V (ls.getD 1 noB) (ls.getD 2 noB)
theorem addO_lt {t z u : Int} (h : Tx.addO t z = some u) (hz : 1 ≤ z) : t < u := by
  unfold Tx.addO at h
  split at h
  · cases h; omega
  · cases h
theorem timeP_lt {o : Opt} {M : AbT} {t : Int} (hM : Still M t) {k : ByteArray} {u : Int} (h : (timeP o (endOf (M k)) t).2 = some u) : t < u := by
  unfold timeP at h
  split at h
  · cases h
  · split at h
    · unfold endOf at h
      cases hk : M k with
      | none => rw [hk] at h; cases h
      | some y =>
        obtain ⟨d, u'⟩ := y
        rw [hk] at h
        have h : u' = some u := h
        subst h
        exact hM k d u hk
    · split at h
      · cases h
      · rename_i z hz
        split at h
        · cases h
        · rename_i u' hu
          have h : some u' = some u := h
          cases h
          unfold behindP at hu
          split at hu
          · cases hu
          · split at hu
            · split at hu
              · cases hu
              · exact addO_lt hu (by omega)
            · exact addO_lt hu (by omega)
theorem getP_code (y : Option (Kt × Option Int)) : (getP y).code = 0 ∨ getP y = An.no 4 := by
  unfold getP
  split
  · exact .inl rfl
  · split
    · exact .inl rfl
    · exact .inr rfl
/-- Ahead of a set's turn. -/
structure SetW (w wx : World) (U : Own) (s x : Nat) (NM : List ByteArray) (t : Int) (M : AbT) (V : ByteArray → Int) (c : Nat) (nm : ByteArray) (a : Option Addr) (n m : Nat) (ls : List ByteArray) (g1 g2 : Nat) (o : Opt) (r : Rp) : Prop where
  ctx : Ctx wx U s x NM t M V c nm a n m ls
  mb : Mb vtag U w wx
  v0 : VarR wx w.heap.size Rp.z
  v1 : VarO wx g1 o
  v2 : VarR wx g2 r
  n1 : w.heap.size ≤ g2 ∧ w.heap.size ≠ g2 ∧ g1 ≠ g2
  n2 : (∀ ad, a = some ad → ad.block < w.heap.size) ∧ 0 < w.heap.size
theorem SetW.step {w wx wy : World} {U : Own} {s x : Nat} {NM : List ByteArray} {t : Int} {M M' : AbT} {V V' : ByteArray → Int} {c : Nat} {nm : ByteArray} {a : Option Addr} {n m : Nat} {ls : List ByteArray} {g1 g2 : Nat} {o : Opt} {r : Rp} (h : SetW w wx U s x NM t M V c nm a n m ls g1 g2 o r) (hm : Mb vtag U wx wy) (hS : Seen wy U s x NM t M' V') : SetW w wy U s x NM t M' V' c nm a n m ls g1 g2 o r :=
  ⟨h.ctx.step hm hS, h.mb.trans hm, h.v0.mv hm.mv, h.v1.mv hm.mv, h.v2.mv hm.mv, h.n1, h.n2⟩
theorem SetW.told {w wx : World} {U : Own} {s x : Nat} {NM : List ByteArray} {t : Int} {M : AbT} {V : ByteArray → Int} {c : Nat} {nm : ByteArray} {a : Option Addr} {n m : Nat} {ls : List ByteArray} {g1 g2 : Nat} {o : Opt} {r : Rp} (h : SetW w wx U s x NM t M V c nm a n m ls g1 g2 o r) (d : Rp) : SetW w (set4 wx g2 d) U s x NM t M V c nm a n m ls g1 g2 o d := by
  have hS := h.ctx.seen.set4 h.v2 d
  have hk : ∀ k, k ≠ g2 → (set4 wx g2 d).heap[k]? = wx.heap[k]? := fun k hk => by rw [set4, heap_ne hk, heap_ne hk, heap_ne hk, heap_ne hk]
  have hne : ∀ k cs ty, wx.heap[k]? = some (.cells cs ty (0, 0)) → ty ≠ 39 → k ≠ g2 := fun k cs ty h1 h2 e => by
    subst e
    have h3 := h.v2
    unfold VarR at h3
    rw [h1] at h3
    injection h3 with h3
    injection h3 with _ h4
    exact h2 h4
  have hmv : Mv (fun y => y == 39) wx (set4 wx g2 d) := ⟨rfl, rfl, rfl, by simp [set4, World.setCell], fun k cs ty h1 h2 => hk k (hne k cs ty h1 (fun e => by rw [e] at h2; exact absurd h2 (by decide)))⟩
  refine ⟨⟨hS, ⟨by rw [hk c (hne c _ _ h.ctx.cll.blk (by decide))]; exact h.ctx.cll.blk⟩, ?_, ?_, h.ctx.u0⟩, h.mb.set4 h.n1.1 d, ?_, ?_, h.v2.set d, h.n1, h.n2⟩
  · have hb : ∀ ad, a = some ad → (set4 wx g2 d).heap[ad.block]? = wx.heap[ad.block]? := fun ad e => hk _ (by have := h.n2.1 ad e; have := h.n1.1; omega)
    refine ⟨⟨h.ctx.ars.rd.len, h.ctx.ars.rd.max, fun j hj => ?_⟩, fun ad e => ?_⟩
    · obtain ⟨b, off, e, h1⟩ := h.ctx.ars.rd.cell j hj
      refine ⟨b, off, e, ?_⟩
      have h2 := hb _ e
      unfold World.cell? at h1 ⊢
      rw [h2]; exact h1
    · obtain ⟨cs, ty, h1, h2⟩ := h.ctx.ars.tg ad e
      exact ⟨cs, ty, by rw [hb ad e]; exact h1, h2⟩
  · have h1 := h.ctx.laid
    unfold Laid World.cell? at h1 ⊢
    rw [hk 0 (by have := h.n2.2; have := h.n1.1; omega)]; exact h1
  · unfold VarR; rw [hk _ h.n1.2.1]; exact h.v0
  · unfold VarO; rw [hk _ h.n1.2.2]; exact h.v1
end Go.Proofs.YtnajhjmdpaeelaaGreatDoor.Sq
