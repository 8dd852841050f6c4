/- Texts that the others stand on. -/
import Derived.Test.YtmjeljldmmkcpabGreatG22
import Derived.Test.YtmjeljldmmkcpabGreatG16
namespace Go.Proofs.YtmjeljldmmkcpabGreat.Sq
open Go.RowKit Go.PlainAid
open Dk (ptr below_drewN alloc_below step_below add_flat OwnR OwnP OwnS Mv pcells Elt elt_of)
theorem takeDue_still (w : World) (B s x : Nat) (NM : List ByteArray) (L : List Nat) (I : Nat → Itm) (Q : List Nat) (A : Ab) (V : ByteArray → Int) (hI : In w B s x NM L I Q V) (hR : Rep L I Q A) (t : Int) (hst : Still A t) :
    Calls Tryz.prog 31 #[ptr s, .int .i64 t] w fun e w' => e = .returned (.tuple #[]) ∧ w' = w := by
  obtain ⟨S, P, D, D2, hX⟩ := hI
  have HD := isDue_any w B s S L I P Q hX.qs t
  have hno : ¬ (0 < Q.length ∧ (I (at' Q 0)).u ≤ t) := fun h => by
    have hq : at' Q 0 ∈ Q := at_mem h.1
    have h1 := hR.yes _ (hX.qs.sub _ hq)
    rw [if_pos hq] at h1
    have := hst _ _ _ h1
    omega
  have HNo : Hid (¬ (0 < Q.length ∧ (I (at' Q 0)).u ≤ t)) := hno
  clear hX hR hst hno
  go_enter Tryz.func31, Tryz.ntmps31
  go_wp2
  go_loopg [] 1 (fun gk wr => w = wr ∧ gk = 1)
  case atStart => exact ⟨rfl, rfl⟩
  case round =>
    obtain ⟨rfl, rfl⟩ := hrel
    go_wp2_with fail
    refine HD.mono ?_
    rintro e w ⟨rfl, r, rfl, hr⟩
    cases r with
    | true => exact absurd (hr.1 rfl) HNo.out
    | false =>
      clear hr
      go_wp2
      go_end0
      exact ⟨rfl, rfl⟩
/-- What find tells, if none's time has come. -/
def FoundAt (L : List Nat) (I : Nat → Itm) (A : Ab) (k : ByteArray) (e : Ending) : Prop := e = .returned (.pointer none) ∧ A k = none ∨ ∃ p ∈ L, (I p).k = k ∧ e = .returned (ptr p) ∧ (A k).isSome = true
theorem find_still (w : World) (B s x : Nat) (NM : List ByteArray) (L : List Nat) (I : Nat → Itm) (Q : List Nat) (A : Ab) (V : ByteArray → Int) (hI : In w B s x NM L I Q V) (hR : Rep L I Q A) (t : Int) (hst : Still A t) (k : ByteArray) (hk : k.size ≤ maxLen) :
    Calls Tryz.prog 33 #[ptr s, .string k, .int .i64 t] w fun e w' => Below w.heap.size w w' ∧ FoundAt L I A k e := by
  have HD := takeDue_still w B s x NM L I Q A V hI hR t hst
  obtain ⟨S, P, D, D2, hX⟩ := hI
  have HX : Hid (Sx w B s x NM L I Q V S P D D2) := hX
  have HR : Hid (Rep L I Q A) := hR
  have c3 := hX.cd
  have HG := Dk.GetD B S.d x D k w hX.kd hk
  clear hX hR hst
  obtain ⟨r, HRr⟩ : ∃ r : Option Addr, Hid (Dk.getE D.es k = r) := ⟨_, rfl⟩
  rw [HRr.out] at HG
  obtain ⟨q, HQq⟩ : ∃ q : Bool, Hid (Dk.hasK D.es k = q) := ⟨_, rfl⟩
  rw [HQq.out] at HG
  go_enter Tryz.func33, Tryz.ntmps33
  go_wp2_with fail
  refine HD.mono ?_
  rintro e w ⟨rfl, rfl⟩
  go_wp2_with fail
  refine HG.mono ?_
  rintro e w2 ⟨rfl, hb⟩
  have HE : Hid (Below w.heap.size w w2 ∧ FoundAt L I A k (.returned (.pointer r))) := by
    refine ⟨hb, ?_⟩
    by_cases h : ∃ p ∈ L, (I p).k = k
    · obtain ⟨p, hp, rfl⟩ := h
      have h1 := (HX.out.found hp).1
      rw [HRr.out] at h1
      exact .inr ⟨p, hp, rfl, by rw [h1], by rw [HR.out.yes p hp]; rfl⟩
    · have h1 := (HX.out.lacks (k := k) (fun p hp e => h ⟨p, hp, e⟩)).1
      rw [HRr.out] at h1
      refine .inl ⟨by rw [h1], ?_⟩
      cases hA : A k with
      | none => rfl
      | some y => exact absurd (HR.out.no k y hA) h
  clear hb HG HD c3
  go_wp2
  go_ret
  exact HE.out
/-- What Copy leaves where it copies: the value's copy is at p. -/
def CopTo (w w' : World) (B s x : Nat) (NM : List ByteArray) (A : Ab) (V : ByteArray → Int) (b : ByteArray) (u : Option Int) (R : World → Nat → Prop) : Prop :=
  ∃ p w2, R w2 p ∧ Mb stag B w2 w' ∧ To w w' B s x NM (setA A b (some (some ⟨p, 0, none⟩, u))) (incV V b)
theorem Copy_there (w : World) (B s x : Nat) (NM : List ByteArray) (A : Ab) (V : ByteArray → Int) (hS : Spc w B s x NM A V) (hv : Low V) (t : Int) (a b : ByteArray) (ha : a.size ≤ maxLen) (hb : b.size ≤ maxLen) (hA : (dueA A t a).isSome = true) (hB : (dueA A t b).isSome = true) :
    Calls Tryz.prog 10 #[ptr s, .string a, .string b, .int .i64 t] w fun e w' => e = .returned (.tuple #[.bool false, .int .i64 0]) ∧ DueTo w w' B s x NM A V t := by
  have HF := find_any w B s x NM A V hS hv t a ha
  go_enter Tryz.func10, Tryz.ntmps10
  go_wp2_with fail
  refine HF.mono ?_
  rintro e w1 ⟨hm, L, I, Q, hi, hr, ⟨rfl, hn⟩ | ⟨p, hp, hpk, rfl, hy⟩⟩
  · rw [hn] at hA; cases hA
  · have HF2 := find_still w1 B s x NM L I Q _ _ hi hr t (dueA_still A t) b hb
    have HI : Hid (In w1 B s x NM L I Q (dueV A V t)) := hi
    have HR : Hid (Rep L I Q (dueA A t)) := hr
    have HM : Hid (Mb stag B w w1) := hm
    have hnn := eqlI_nil w1 p
    have HB : Hid ((dueA A t b).isSome = true) := hB
    clear hm hi hr HF hA hB hy
    go_wp2_with fail
    refine HF2.mono ?_
    rintro e w2 ⟨hb2, ⟨rfl, hn⟩ | ⟨q, hq, hqk, rfl, -⟩⟩
    · have := HB.out
      rw [hn] at this; cases this
    · have HE : Hid (DueTo w w2 B s x NM A V t) := ⟨HM.out.trans (Mb.of_below hb2 (by obtain ⟨S, P, D, D2, hX⟩ := HI.out; have := hX.lt; omega)), L, I, Q, HI.out.keep hb2, HR.out⟩
      have hnq := neqI_nil w2 q
      clear hb2 HF2
      go_wp2
      go_ret2
      exact ⟨rfl, HE.out⟩
set_option maxRecDepth 100000 in
set_option maxHeartbeats 1600000 in
theorem Copy_some (w : World) (B s x : Nat) (NM : List ByteArray) (A : Ab) (V : ByteArray → Int) (hS : Spc w B s x NM A V) (hv : Low V) (t : Int) (a b : ByteArray) (ha : a.size ≤ maxLen) (hb : b ∈ NM) (hbs : b.size ≤ 4096) (v : Option Addr) (u : Option Int) (hA : dueA A t a = some (v, u)) (hB : dueA A t b = none) (R : World → Nat → Prop)
    (hC : ∀ w1, Mb stag B w w1 → Calls Tryz.prog 39 #[.pointer v] w1 fun e w2 => Below w1.heap.size w1 w2 ∧ ∃ p, e = .returned (ptr p) ∧ R w2 p) :
    Calls Tryz.prog 10 #[ptr s, .string a, .string b, .int .i64 t] w fun e w' => e = .returned (.tuple #[.bool true, .int .i64 0]) ∧ CopTo w w' B s x NM (dueA A t) (dueV A V t) b u R := by
  have HF := find_any w B s x NM A V hS hv t a ha
  have hbz : (b.size : Int) ≤ 4096 := by omega
  go_enter Tryz.func10, Tryz.ntmps10
  go_wp2_with fail
  refine HF.mono ?_
  rintro e w1 ⟨hm, L, I, Q, hi, hr, ⟨rfl, hn⟩ | ⟨p, hp, hpk, rfl, hy⟩⟩
  · rw [hn] at hA; cases hA
  · have HF2 := find_still w1 B s x NM L I Q _ _ hi hr t (dueA_still A t) b (by unfold maxLen; omega)
    have HI : Hid (In w1 B s x NM L I Q (dueV A V t)) := hi
    have HR : Hid (Rep L I Q (dueA A t)) := hr
    have HM : Hid (Mb stag B w w1) := hm
    have hnn := eqlI_nil w1 p
    have HB : Hid (dueA A t b = none) := hB
    rw [hA] at hy
    injection hy with hy
    injection hy with hv1 hu1
    have HPK : Hid ((I p).k ≠ b) := fun h => by rw [← h, hpk, hA] at hB; cases hB
    have HVU : Hid ((I p).v = v ∧ (if p ∈ Q then some (I p).u else none) = u) := ⟨hv1.symm, hu1.symm⟩
    clear hm hi hr HF hA hB hv1 hu1
    go_wp2_with fail
    refine HF2.mono ?_
    rintro e w2 ⟨hb2, ⟨rfl, hn⟩ | ⟨q, hq, hqk, rfl, hs⟩⟩
    · have hlt : B ≤ w1.heap.size := by obtain ⟨S, P, D, D2, hX⟩ := HI.out; have := hX.lt; omega
      have HI2 : Hid (In w2.drew B s x NM L I Q (dueV A V t)) := (HI.out.keep hb2).keep (below_drewN w2 1)
      have HM2 : Hid (Mb stag B w w2.drew) := (HM.out.trans (Mb.of_below hb2 hlt)).trans (Mb.of_below (below_drewN w2 1) (Nat.le_trans hlt hb2.size))
      have HCells : Hid (∀ wx, In wx B s x NM L I Q (dueV A V t) → wx.cell? ⟨p, 1, none⟩ = some (.pointer v) ∧ wx.cell? ⟨p, 2, none⟩ = some (.int .i64 (I p).u)) := fun wx ⟨S, P, D, D2, hX⟩ => ⟨by rw [hX.qs.its.cv hp, HVU.out.1], hX.qs.its.cu hp⟩
      have HTm := fun wx (h : In wx B s x NM L I Q (dueV A V t)) => timed_any wx B s x NM L I Q _ h p hp
      have HCp := fun wx (h : Mb stag B w wx) => hC wx h
      obtain ⟨e1, e2⟩ := HCells.out _ HI2.out
      clear hb2 HF2 hn hC
      go_upto_region 6 with fail
      have HLt : Hid (∀ wx, In wx B s x NM L I Q (dueV A V t) → B ≤ wx.heap.size) := fun wx ⟨S, P, D, D2, hX⟩ => (by have := hX.lt; omega)
      have HU := fun wx pc (h : In wx B s x NM L I Q (dueV A V t)) => holdUntil_in wx B s x NM L I Q (dueA A t) (dueV A V t) h HR.out b hb (hv.due A t b) (some ⟨pc, 0, none⟩) (I p).u (decide (p ∈ Q))
      go_region_held3 (fun w' => w'.cell? ⟨p, 1, none⟩ = some (.pointer v) ∧ w'.cell? ⟨p, 2, none⟩ = some (.int .i64 (I p).u)) (first | exact HCells.out _ HI2.out | exact HAfter.out) (first
        | (go_at_call 39; refine (HCp _ HM2.out).mono ?_; rintro e w3 ⟨hb3, pc, rfl, hr3⟩; have HM3 : Hid (Mb stag B w w3) := HM2.out.trans (Mb.of_below hb3 (HLt.out _ HI2.out)); clear HM2; have HM2 := HM3; clear HM3; have HI3 : Hid (In w3 B s x NM L I Q (dueV A V t)) := HI2.out.keep hb3; clear HI2; have HI2 := HI3; clear HI3; have HRr : Hid (R w3 pc) := hr3; clear hb3 hr3)
        | (go_at_call 40; refine (HTm _ HI2.out).mono ?_; rintro e wt ⟨rfl, rfl⟩)
        | (go_at_call 38; refine (HU _ pc HI2.out).mono ?_; rintro e w5 ⟨rfl, hm5, L5, I5, Q5, hi5, hr5, hol⟩; have HE : Hid (CopTo w w5 B s x NM (dueA A t) (dueV A V t) b u R) := (by
            refine ⟨pc, _, HRr.out, hm5, HM2.out.trans hm5, ?_⟩
            have e : (if decide (p ∈ Q) = true then some (I p).u else none) = u := (by
              rw [← HVU.out.2]
              by_cases h : p ∈ Q
              · rw [if_pos h, if_pos (decide_eq_true h)]
              · rw [if_neg h, if_neg (by rw [decide_eq_false h]; decide)])
            rw [← e]
            exact ⟨L5, I5, Q5, hi5, hr5⟩); have HAfter : Hid (w5.cell? ⟨p, 1, none⟩ = some (.pointer v) ∧ w5.cell? ⟨p, 2, none⟩ = some (.int .i64 (I p).u)) := (by
            obtain ⟨S, P, D, D2, hX⟩ := hi5
            obtain ⟨h1, h2⟩ := hol p hp HPK.out
            have h3 := hX.qs.its.cv h1
            have h4 := hX.qs.its.cu h1
            rw [h2] at h3 h4
            rw [HVU.out.1] at h3
            exact ⟨h3, h4⟩); clear hm5 hi5 hr5 hol))
      clear e1 e2 HI2 HM2 HRr HAfter
      go_wp2
      go_ret2
      exact ⟨rfl, HE.out⟩
    · rw [HB.out] at hs; cases hs
end Go.Proofs.YtmjeljldmmkcpabGreat.Sq
namespace Go.Proofs.YtmjeljldmmkcpabGreat
open Go.RowKit Go.PlainAid
/-- A list with how many packs it has. -/
structure QV (w : World) (B l most : Nat) (ts : List ByteArray) (q : Nat) (F : List Nat) : Prop where
  ex : ∃ R ns, Lst w B l R most ts.length ns ∧ Ok most ns ∧ txN ns = ts ∧ ns.length = q ∧ F = l :: R :: fpN ns
  pos : 0 < most
theorem QV.keep {w w' : World} {B l most q : Nat} {ts : List ByteArray} {F : List Nat} (h : QV w B l most ts q F) (hb : Below w.heap.size w w') : QV w' B l most ts q F := by
  obtain ⟨R, ns, h1, h2, h3, h4⟩ := h.ex
  exact ⟨⟨R, ns, h1.keep hb, h2, h3, h4⟩, h.pos⟩
theorem QV.blocks {w : World} {B l most q : Nat} {ts : List ByteArray} {F : List Nat} (h : QV w B l most ts q F) : ∀ k ∈ F, B ≤ k ∧ k < w.heap.size := by
  obtain ⟨R, ns, h1, h2, h3, h4, rfl⟩ := h.ex
  exact h1.fplt
theorem QV.low {w : World} {B l most q : Nat} {ts : List ByteArray} {F : List Nat} (h : QV w B l most ts q F) : B ≤ w.heap.size := by
  obtain ⟨R, ns, h1, h2, h3, h4, rfl⟩ := h.ex
  exact Nat.le_trans h1.lowl (Nat.le_of_lt h1.lt)
theorem QV.stay {w w' : World} {B l most q : Nat} {ts : List ByteArray} {F M : List Nat} (h : QV w B l most ts q F) (hs : Stay w w' M) (hd : ∀ k ∈ F, k ∉ M) : QV w' B l most ts q F := by
  obtain ⟨R, ns, h1, h2, h3, h4, rfl⟩ := h.ex
  exact ⟨⟨R, ns, h1.stay hs hd, h2, h3, h4, rfl⟩, h.pos⟩
theorem QV.down {w : World} {B C l most q : Nat} {ts : List ByteArray} {F : List Nat} (h : QV w B l most ts q F) (hC : C ≤ B) : QV w C l most ts q F := by
  obtain ⟨R, ns, h1, h2, h3, h4, rfl⟩ := h.ex
  refine ⟨⟨R, ns, ⟨h1.blk, h1.ring, h1.adj, fun d hd => ?_, h1.num, Nat.le_trans hC h1.lowl, Nat.le_trans hC h1.lowR⟩, h2, h3, h4, rfl⟩, h.pos⟩
  have hd := h1.nod d hd
  exact ⟨hd.blk, hd.pk.low' hC, hd.fit, hd.siz, Nat.le_trans hC hd.low⟩
theorem Lst.tagsV {w : World} {B l R most cnt : Nat} {ns : List Nd} (h : Lst w B l R most cnt ns) : ∀ k ∈ l :: R :: fpN ns, ∃ cs t, w.heap[k]? = some (.cells cs t (0, 0)) ∧ t ≠ 9 ∧ t ≠ 36 ∧ t ≠ 91 := by
  intro k hk
  rcases List.mem_cons.1 hk with rfl | hk
  · exact ⟨_, _, h.blk, by decide, by decide, by decide⟩
  rcases List.mem_cons.1 hk with rfl | hk
  · obtain ⟨x, y, e⟩ := h.ring
    exact ⟨_, _, e, by decide, by decide, by decide⟩
  · obtain ⟨d, hd, hk⟩ := List.mem_flatMap.1 hk
    have hN := h.nod d hd
    rcases List.mem_cons.1 hk with rfl | hk
    · obtain ⟨x, y, e⟩ := hN.blk
      exact ⟨_, _, e, by decide, by decide, by decide⟩
    rcases List.mem_cons.1 hk with rfl | hk
    · exact ⟨_, _, hN.pk.blk, by decide, by decide, by decide⟩
    · rw [Option.mem_toList] at hk
      rcases hN.pk.own.2 with ⟨h2, -⟩ | ⟨g, c, cur, h1, h3, h4, -⟩
      · injection h2 with e1
        rw [e1] at hk; cases hk
      · injection h1 with e1
        rw [e1] at hk
        cases hk
        exact ⟨_, _, h4, by decide, by decide, by decide⟩
theorem QV.tags {w : World} {B l most q : Nat} {ts : List ByteArray} {F : List Nat} (h : QV w B l most ts q F) : ∀ k ∈ F, ∃ cs t, w.heap[k]? = some (.cells cs t (0, 0)) ∧ t ≠ 9 ∧ t ≠ 36 ∧ t ≠ 91 := by
  obtain ⟨R, ns, h1, h2, h3, h4, rfl⟩ := h.ex
  exact h1.tagsV
/-- A row of texts is none of its blocks. -/
theorem QV.far {w : World} {B C l most q : Nat} {ts : List ByteArray} {F : List Nat} (h : QV w B l most ts q F) {a : Option Addr} {n c : Nat} {ls : List ByteArray} (hO : OwnS w C a n c ls) : RdF w a n ls F := by
  refine ⟨hO.rd, ?_⟩
  intro x hx
  rcases hO.2 with ⟨e, -⟩ | ⟨g, c', cur, e, h4, h5, -⟩
  · injection e with e1
    rw [e1] at hx; cases hx
  · injection e with e1
    rw [e1] at hx
    cases hx
    refine ⟨fun hm => ?_, (Array.getElem?_eq_some_iff.1 h5).1⟩
    obtain ⟨cs, t, h6, h7, -⟩ := h.tags _ hm
    rw [h5] at h6
    injection h6 with h6
    injection h6 with _ h8
    exact h7 h8.symm
/-- What a call does to a list. -/
def VDoes (w : World) (B l most : Nat) (ts : List ByteArray) (F : List Nat) (w' : World) : Prop := ∃ q F', QV w' B l most ts q F' ∧ Left w w' F F'
theorem Does.qv {w w' : World} {B l R most cnt : Nat} {ns : List Nd} {ts : List ByteArray} (h : Does w B l R most cnt ns ts w') (hc : cnt = ts.length) (h0 : 0 < most) : VDoes w B l most ts (l :: R :: fpN ns) w' := by
  subst hc
  obtain ⟨ns', h2, h3, h4, h5⟩ := h
  exact ⟨_, _, ⟨⟨R, ns', h2, h4, h5, rfl, rfl⟩, h0⟩, h3.left⟩
theorem VDoes.below {w w' : World} {B l most q : Nat} {ts rs : List ByteArray} {F : List Nat} (h : QV w B l most rs q F) (hd : VDoes w B l most ts F w') : Below B w w' := by
  obtain ⟨q', F', h1, h2⟩ := hd
  exact h2.stay.below (fun k hk => (h.blocks k hk).1) h.low
theorem VNew (m : Int) (w : World) (most : Nat) (hm : max m 1 = most) :
    Calls Tryz.prog 25 #[.int .i64 m] w fun e w' => Below w.heap.size w w' ∧ ∃ l F, e = .returned (ptr l) ∧ QV w' w.heap.size l most [] 0 F := by
  refine (NewQ_any m w most hm).mono ?_
  rintro e w' ⟨hb, l, R, rfl, h⟩
  exact ⟨hb, l, _, rfl, ⟨R, [], h, fun d hd => absurd hd (by simp), rfl, rfl, rfl⟩, by omega⟩
theorem VLen (w : World) (B l most q : Nat) (ts : List ByteArray) (F : List Nat) (h : QV w B l most ts q F) : Calls Tryz.prog 49 #[ptr l] w fun e w' => e = .returned (.int .i64 (ts.length : Nat)) ∧ w' = w := by
  obtain ⟨R, ns, h1, h2, h3, h4, rfl⟩ := h.ex
  exact LenQ_any B l R most _ ns w h1
theorem VRight (w : World) (B l most q : Nat) (ts : List ByteArray) (F : List Nat) (h : QV w B l most ts q F) (a : Option Addr) (n c : Nat) (ls : List ByteArray) (hR : RdF w a n ls F) (hf : Fit ls) (hc : ts.length + n ≤ 1000000) :
    Calls Tryz.prog 6 #[ptr l, .slice a n c] w fun e w' => e = .returned (.int .i64 0) ∧ VDoes w B l most (ts ++ ls) F w' := by
  obtain ⟨R, ns, h1, h2, rfl, h4, rfl⟩ := h.ex
  refine (Right_ok B l R most _ ns a n c ls w h1 h2 hR hf hc h.pos).mono ?_
  rintro e w' ⟨rfl, hd⟩
  exact ⟨rfl, hd.qv (by rw [List.length_append, hR.rd.len]) h.pos⟩
theorem VLeft (w : World) (B l most q : Nat) (ts : List ByteArray) (F : List Nat) (h : QV w B l most ts q F) (a : Option Addr) (n c : Nat) (ls : List ByteArray) (hR : RdF w a n ls F) (hf : Fit ls) (hc : ts.length + n ≤ 1000000) :
    Calls Tryz.prog 13 #[ptr l, .slice a n c] w fun e w' => e = .returned (.int .i64 0) ∧ VDoes w B l most (ls.reverse ++ ts) F w' := by
  obtain ⟨R, ns, h1, h2, rfl, h4, rfl⟩ := h.ex
  refine (Left_ok B l R most _ ns a n c ls w h1 h2 hR hf hc h.pos).mono ?_
  rintro e w' ⟨rfl, hd⟩
  exact ⟨rfl, hd.qv (by rw [List.length_append, List.length_reverse, hR.rd.len]; omega) h.pos⟩
theorem VAll (w : World) (B l most q : Nat) (ts : List ByteArray) (F : List Nat) (h : QV w B l most ts q F) (hc : ts.length ≤ 1000000) :
    Calls Tryz.prog 46 #[ptr l] w fun e w' => Below w.heap.size w w' ∧ ∃ a2 n2 c2, e = .returned (.slice a2 n2 c2) ∧ OwnS w' w.heap.size a2 n2 c2 ts := by
  obtain ⟨R, ns, h1, h2, rfl, h4, rfl⟩ := h.ex
  exact AllQ_any B l R most _ ns w h1 h2 rfl hc
theorem VCopy (w : World) (B l most q : Nat) (ts : List ByteArray) (F : List Nat) (h : QV w B l most ts q F) :
    Calls Tryz.prog 74 #[ptr l] w fun e w' => Below w.heap.size w w' ∧ ∃ c F', e = .returned (ptr c) ∧ QV w' w.heap.size c most ts q F' := by
  obtain ⟨R, ns, h1, h2, h3, h0, rfl⟩ := h.ex
  refine (CopyQ_any B l R most _ ns w h1 h.pos).mono ?_
  rintro e w' ⟨hb, c, R2, ns2, rfl, h4, h5⟩
  have hf : ∀ l1 : List Nd, txN l1 = (l1.map fun d => d.ls).flatten := fun l1 => by unfold txN; rw [List.flatMap_def]
  refine ⟨hb, c, _, rfl, ⟨R2, ns2, h4, fun d hd => ?_, by rw [hf, h5, ← hf]; exact h3, ?_, rfl⟩, h.pos⟩
  · have hm : d.ls ∈ ns2.map (fun d => d.ls) := List.mem_map.2 ⟨d, hd, rfl⟩
    rw [h5] at hm
    obtain ⟨d', hd', e⟩ := List.mem_map.1 hm
    rw [← e]; exact h2 d' hd'
  · have := congrArg List.length h5
    rw [List.length_map, List.length_map] at this
    omega
/-- A value's own block. -/
structure VB (w : World) (v k : Nat) (t : ByteArray) (h s l : Value) : Prop where
  blk : w.heap[v]? = some (.cells #[.int .i64 (k : Nat), .string t, h, s, l] 36 (0, 0))
theorem VB.lt {w : World} {v k : Nat} {t : ByteArray} {h s l : Value} (b : VB w v k t h s l) : v < w.heap.size := (Array.getElem?_eq_some_iff.1 b.blk).1
theorem VB.kept {w wn : World} {v k : Nat} {t : ByteArray} {h s l : Value} (b : VB w v k t h s l) (hb : wn.heap[v]? = w.heap[v]?) : VB wn v k t h s l := ⟨by rw [hb]; exact b.blk⟩
theorem VB.keep {w wn : World} {v k : Nat} {t : ByteArray} {h s l : Value} (b : VB w v k t h s l) (hb : Below w.heap.size w wn) : VB wn v k t h s l := b.kept (hb.block v b.lt)
theorem VB.ck {w : World} {v k : Nat} {t : ByteArray} {h s l : Value} (b : VB w v k t h s l) : w.cell? ⟨v, 0, none⟩ = some (.int .i64 (k : Nat)) := by simp [World.cell?, b.blk]
theorem VB.ch {w : World} {v k : Nat} {t : ByteArray} {h s l : Value} (b : VB w v k t h s l) : w.cell? ⟨v, 2, none⟩ = some h := by simp [World.cell?, b.blk]
theorem VB.cs {w : World} {v k : Nat} {t : ByteArray} {h s l : Value} (b : VB w v k t h s l) : w.cell? ⟨v, 3, none⟩ = some s := by simp [World.cell?, b.blk]
theorem VB.cl {w : World} {v k : Nat} {t : ByteArray} {h s l : Value} (b : VB w v k t h s l) : w.cell? ⟨v, 4, none⟩ = some l := by simp [World.cell?, b.blk]
theorem VB.fz {w : World} {v k : Nat} {t : ByteArray} {h s l : Value} (b : VB w v k t h s l) (o : Nat) : w.frozen? ⟨v, o, none⟩ = false := by simp [World.frozen?, b.blk]
theorem VB.new (w : World) (k : Nat) (t : ByteArray) (h s l : Value) : VB (w.alloc (.cells #[.int .i64 (k : Nat), .string t, h, s, l] 36)) w.heap.size k t h s l := ⟨heap_alloc_new w _⟩
end Go.Proofs.YtmjeljldmmkcpabGreat
namespace Go.Proofs.YtmjeljldmmkcpabGreat.Sq
open Go.RowKit Go.PlainAid
/-- A value at v that is a list: its texts; its blocks but for its own. -/
structure Vl (w : World) (B v : Nat) (ls : List ByteArray) (F : List Nat) : Prop where
  ex : ∃ m most q, VB w v 4 ⟨#[]⟩ (.pointer none) (.pointer none) (ptr m) ∧ QV w B m most ls q F
  low : B ≤ v
theorem Vl.lt {w : World} {B v : Nat} {ls : List ByteArray} {F : List Nat} (h : Vl w B v ls F) : v < w.heap.size := by
  obtain ⟨m, mo, q, h1, -⟩ := h.ex
  exact h1.lt
theorem Vl.keep {w w' : World} {B v : Nat} {ls : List ByteArray} {F : List Nat} (h : Vl w B v ls F) (hb : Below w.heap.size w w') : Vl w' B v ls F := by
  obtain ⟨m, mo, q, h1, h2⟩ := h.ex
  exact ⟨⟨m, mo, q, h1.keep hb, h2.keep hb⟩, h.low⟩
/-- The types of a list's blocks are none of a space's. -/
theorem Lst.tagsS {w : World} {B l R most cnt : Nat} {ns : List Nd} (h : Lst w B l R most cnt ns) : ∀ k ∈ l :: R :: fpN ns, ∃ cs t, w.heap[k]? = some (.cells cs t (0, 0)) ∧ stag t = false := by
  intro k hk
  rcases List.mem_cons.1 hk with rfl | hk
  · exact ⟨_, _, h.blk, by decide⟩
  rcases List.mem_cons.1 hk with rfl | hk
  · obtain ⟨x, y, e⟩ := h.ring
    exact ⟨_, _, e, by decide⟩
  · obtain ⟨d, hd, hk⟩ := List.mem_flatMap.1 hk
    have hN := h.nod d hd
    rcases List.mem_cons.1 hk with rfl | hk
    · obtain ⟨x, y, e⟩ := hN.blk
      exact ⟨_, _, e, by decide⟩
    rcases List.mem_cons.1 hk with rfl | hk
    · exact ⟨_, _, hN.pk.blk, by decide⟩
    · rw [Option.mem_toList] at hk
      rcases hN.pk.own.2 with ⟨h2, -⟩ | ⟨g, c, cur, h1, h3, h4, -⟩
      · injection h2 with e1
        rw [e1] at hk; cases hk
      · injection h1 with e1
        rw [e1] at hk
        cases hk
        exact ⟨_, _, h4, by decide⟩
/-- Only blocks of a space were turned. -/
theorem Mb.stay {w w' : World} {B : Nat} (h : Mb stag B w w') : Stay w w' (Dk.chg stag w) := ⟨h.mv.stay.os, h.mv.stay.tape, h.mv.stay.output, h.mv.stay.size, h.mv.stay.block⟩
theorem Vl.mb {w w' : World} {B C v : Nat} {ls : List ByteArray} {F : List Nat} (h : Vl w B v ls F) (hb : Mb stag C w w') : Vl w' B v ls F := by
  obtain ⟨m, mo, q, h1, h2⟩ := h.ex
  refine ⟨⟨m, mo, q, h1.kept (hb.mv.block v _ _ h1.blk (by decide)), h2.stay hb.stay fun k hk => ?_⟩, h.low⟩
  obtain ⟨R, ns, h3, h4, h5, h6, rfl⟩ := h2.ex
  obtain ⟨cs, t, h7, h8⟩ := Lst.tagsS h3 k hk
  exact Dk.chg_no h7 h8
theorem Vl.down {w : World} {B C v : Nat} {ls : List ByteArray} {F : List Nat} (h : Vl w B v ls F) (hC : C ≤ B) : Vl w C v ls F := by
  obtain ⟨m, mo, q, h1, h2⟩ := h.ex
  exact ⟨⟨m, mo, q, h1, h2.down hC⟩, Nat.le_trans hC h.low⟩
theorem Vl.ck {w : World} {B v : Nat} {ls : List ByteArray} {F : List Nat} (h : Vl w B v ls F) : w.cell? ⟨v, 0, none⟩ = some (.int .i64 4) := by
  obtain ⟨m, mo, q, h1, -⟩ := h.ex
  exact h1.ck
theorem kind_l (w : World) (B v : Nat) (ls : List ByteArray) (F : List Nat) (h : Vl w B v ls F) : Calls Tryz.prog 41 #[ptr v] w fun e w' => e = .returned (.int .i64 4) ∧ w' = w := by
  obtain ⟨m, mo, q, h1, -⟩ := h.ex
  have k0 : w.cell? ⟨v, 0, none⟩ = some (.int .i64 4) := h1.ck
  have k2 := h1.ch
  have k3 := h1.cs
  have k4 := h1.cl
  clear h h1
  go_enter Tryz.func41, Tryz.ntmps41
  go_wp2
  go_ret
  exact ⟨rfl, rfl⟩
theorem Len_l (w : World) (B v : Nat) (ls : List ByteArray) (F : List Nat) (h : Vl w B v ls F) : Calls Tryz.prog 17 #[ptr v] w fun e w' => e = .returned (.int .i64 (ls.length : Nat)) ∧ w' = w := by
  have HK := kind_l w B v ls F h
  obtain ⟨m, mo, q, h1, h2⟩ := h.ex
  have k4 := h1.cl
  have HL := VLen w B m mo q ls F h2
  clear h h1 h2
  go_enter Tryz.func17, Tryz.ntmps17
  go_wp2_with fail
  refine HK.mono ?_
  rintro e w ⟨rfl, rfl⟩
  go_wp2_with fail
  refine HL.mono ?_
  rintro e w ⟨rfl, rfl⟩
  go_wp2
  go_ret
  exact ⟨rfl, rfl⟩
theorem Empty_l (w : World) (B v : Nat) (ls : List ByteArray) (F : List Nat) (h : Vl w B v ls F) : Calls Tryz.prog 29 #[ptr v] w fun e w' => e = .returned (.bool (decide (ls.length = 0))) ∧ Below w.heap.size w w' := by
  have HK := kind_l w B v ls F h
  have HL := Len_l w B v ls F h
  clear h
  generalize ls.length = n at HL ⊢
  by_cases hn : n = 0
  · subst hn
    go_enter Tryz.func29, Tryz.ntmps29
    go_wp2_with fail
    refine HK.mono ?_
    rintro e w ⟨rfl, rfl⟩
    go_wp2_with fail
    refine HL.mono ?_
    rintro e w ⟨rfl, rfl⟩
    go_wp2
    go_ret
    exact ⟨rfl, Below.refl _ _⟩
  · have hb : ((n : Int) == 0) = false := by simp; omega
    rw [decide_eq_false hn]
    go_enter Tryz.func29, Tryz.ntmps29
    go_wp2_with fail
    refine HK.mono ?_
    rintro e w ⟨rfl, rfl⟩
    go_wp2_with fail
    refine HL.mono ?_
    rintro e w ⟨rfl, rfl⟩
    go_wp2
    go_ret
    exact ⟨rfl, Below.refl _ _⟩
set_option maxRecDepth 100000 in
theorem New_l (x : Nat) (e t : Int) (w : World) :
    Calls Tryz.prog 5 #[.int .i64 4, .int .u64 x, .agg #[.int .i64 e, .int .i64 t]] w fun en w' => Below w.heap.size w w' ∧ ∃ v F, en = .returned (ptr v) ∧ Vl w' w.heap.size v [] F := by
  obtain ⟨w0, hw0⟩ : ∃ w0, w.alloc (.cells #[.int .i64 e, .int .i64 t] 24) = w0 := ⟨_, rfl⟩
  have HB0 : Hid (Below w.heap.size w w0) := by rw [← hw0]; exact alloc_below w _
  obtain ⟨mo, hmo⟩ : ∃ mo : Nat, max e 1 = mo := ⟨(max e 1).toNat, by omega⟩
  have HN := VNew e w0 mo hmo
  clear hmo
  have hblk : w0.heap[w.heap.size]? = some (.cells #[.int .i64 e, .int .i64 t] 24 (0, 0)) := by rw [← hw0]; exact heap_alloc_new w _
  have hc0 : w0.cell? ⟨w.heap.size, 0, none⟩ = some (.int .i64 e) := by simp [World.cell?, hblk]
  have hc1 : w0.cell? ⟨w.heap.size, 1, none⟩ = some (.int .i64 t) := by simp [World.cell?, hblk]
  clear hblk
  go_enter Tryz.func5, Tryz.ntmps5
  go_wp2_with fail
  refine HN.mono ?_
  rintro en w1 ⟨hb, m, F, rfl, hH⟩
  have HB1 := step_below HB0 hb
  have hBe := alloc_below w1 (.cells #[.int .i64 4, .string ⟨#[]⟩, .pointer none, .pointer none, ptr m] 36)
  have HR : Hid (Vl (w1.alloc (.cells #[.int .i64 4, .string ⟨#[]⟩, .pointer none, .pointer none, ptr m] 36)) w.heap.size w1.heap.size [] F) := ⟨⟨m, mo, 0, VB.new w1 4 _ _ _ _, (QV.down hH HB0.out.size).keep hBe⟩, HB1.out.size⟩
  have HB2 := step_below HB1 hBe
  clear hb hH HN hBe
  go_wp2
  go_ret
  exact ⟨HB2.out, _, F, rfl, HR.out⟩
set_option maxRecDepth 100000 in
set_option maxHeartbeats 4000000 in
theorem Copy_l (w : World) (B v : Nat) (ls : List ByteArray) (F : List Nat) (h : Vl w B v ls F) : Calls Tryz.prog 39 #[ptr v] w fun e w' => Below w.heap.size w w' ∧ ∃ v' F', e = .returned (ptr v') ∧ Vl w' w.heap.size v' ls F' := by
  have HK := kind_l w B v ls F h
  obtain ⟨m, mo, q, k1, hH⟩ := h.ex
  have hbd : Below w.heap.size w w.drew := below_drewN w 1
  have HBd : Hid (Below w.heap.size w w.drew) := hbd
  have u0 : w.drew.cell? ⟨v, 0, none⟩ = some (.int .i64 4) := (k1.keep hbd).ck
  have u2 := (k1.keep hbd).cl
  have HC := VCopy w.drew B m mo q ls F (hH.keep hbd)
  have HVB : Hid (VB w v 4 ⟨#[]⟩ (.pointer none) (.pointer none) (ptr m)) := k1
  clear h k1 hH hbd
  go_enter Tryz.func39, Tryz.ntmps39
  go_wp2_with fail
  refine HK.mono ?_
  rintro e w ⟨rfl, rfl⟩
  go_upto_region 9 with fail
  go_region_with (first
    | (go_at_call 74; refine HC.mono ?_; rintro e w1 ⟨hb, m', F', rfl, hH'⟩; have HB1 := step_below HBd hb; have HH1 : Hid (QV w1 w.drew.heap.size m' mo ls q F') := hH'; have r0 : w1.cell? ⟨v, 0, none⟩ = some (.int .i64 4) := (HVB.out.keep HB1.out).ck; clear hb hH'))
  all_goals
    have hba := alloc_below w1 (.cells #[.int .i64 4, .string ⟨#[]⟩, .pointer none, .pointer none, ptr m'] 36)
    have HR : Hid (Vl (w1.alloc (.cells #[.int .i64 4, .string ⟨#[]⟩, .pointer none, .pointer none, ptr m'] 36)) w.heap.size w1.heap.size ls F') := ⟨⟨m', mo, q, VB.new w1 4 _ _ _ _, (HH1.out.down HBd.out.size).keep hba⟩, HB1.out.size⟩
    have HB2 := step_below HB1 hba
    clear hba
    go_wp2
    go_ret
    exact ⟨HB2.out, _, F', rfl, HR.out⟩
end Go.Proofs.YtmjeljldmmkcpabGreat.Sq
