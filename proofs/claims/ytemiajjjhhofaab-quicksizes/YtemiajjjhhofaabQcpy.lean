/-
  Two lists side by side; Remove as what it leaves; how often a text is among others.
  Copy of a list.
-/
import Derived.Test.YtemiajjjhhofaabQdo2
import Derived.Test.YtemiajjjhhofaabQkn
namespace Go.Proofs.Ytemiajjjhhofaab
open Go.RowKit Go.PlainAid

/-- Two lists that share no block. -/
structure Pr (w : World) (B p mp : Nat) (tp : List ByteArray) (F1 : List Nat) (q mq : Nat) (tq : List ByteArray) (F2 : List Nat) : Prop where
  a : QL w B p mp tp F1
  b : QL w B q mq tq F2
  d : ∀ k ∈ F1, k ∉ F2
theorem Pr.keep {w w' : World} {B p mp q mq : Nat} {tp tq : List ByteArray} {F1 F2 : List Nat} (h : Pr w B p mp tp F1 q mq tq F2) (hb : Below w.heap.size w w') : Pr w' B p mp tp F1 q mq tq F2 := ⟨h.a.keep hb, h.b.keep hb, h.d⟩
theorem Pr.one {w w' : World} {B p mp q mq : Nat} {tp tp' tq : List ByteArray} {F1 F1' F2 : List Nat} (h : Pr w B p mp tp F1 q mq tq F2) (hQ : QL w' B p mp tp' F1') (hL : Left w w' F1 F1') : Pr w' B p mp tp' F1' q mq tq F2 :=
  ⟨hQ, h.b.stay hL.stay (fun k hk hm => h.d k hm hk), fun k hk hm => by
    rcases hL.new k hk with h1 | h1
    · exact h.d k h1 hm
    · have := (h.b.blocks k hm).2; omega⟩
theorem Pr.two {w w' : World} {B p mp q mq : Nat} {tp tq tq' : List ByteArray} {F1 F2 F2' : List Nat} (h : Pr w B p mp tp F1 q mq tq F2) (hQ : QL w' B q mq tq' F2') (hL : Left w w' F2 F2') : Pr w' B p mp tp F1 q mq tq' F2' :=
  ⟨h.a.stay hL.stay (fun k hk hm => h.d k hk hm), hQ, fun k hk hm => by
    rcases hL.new k hm with h1 | h1
    · exact h.d k hk h1
    · have := (h.a.blocks k hk).2; omega⟩

def oth (l : List ByteArray) (s : ByteArray) : List ByteArray := l.filter fun t => !decide (t = s)
def tms (l : List ByteArray) (s : ByteArray) : Nat := (l.filter fun t => decide (t = s)).length
theorem tms_oth (s : ByteArray) : ∀ l : List ByteArray, tms l s + (oth l s).length = l.length
  | [] => rfl
  | x :: r => by
    have := tms_oth s r
    unfold tms oth at this ⊢
    by_cases h : x = s
    · simp only [List.filter_cons, h, decide_true, Bool.not_true, if_true, List.length_cons]
      simp; omega
    · simp only [List.filter_cons, h, decide_false, Bool.not_false, if_true, List.length_cons]
      simp; omega
theorem kp_all (s : ByteArray) : ∀ (l : List ByteArray) (m : Nat), l.length ≤ m → kp s m l = oth l s
  | [], _, _ => rfl
  | x :: r, m, h => by
    rw [List.length_cons] at h
    unfold kp oth
    rw [rem]
    by_cases e : x = s
    · rw [if_pos ⟨e, by omega⟩]
      have := kp_all s r (m - 1) (by omega)
      unfold kp oth at this
      rw [this, List.filter_cons, if_neg (by simp [e])]
    · rw [if_neg (fun hh => e hh.1)]
      have := kp_all s r m (by omega)
      unfold kp oth at this
      rw [List.filter_cons, if_pos (by simp [e]), ← this]
theorem rp_all (s : ByteArray) (l : List ByteArray) (m : Nat) (h : l.length ≤ m) : rp s m l = oth l s := by
  unfold rp
  rw [kp_all s l.reverse m (by rw [List.length_reverse]; exact h)]
  unfold oth
  rw [List.filter_reverse, List.reverse_reverse]
theorem kp_none (s : ByteArray) : ∀ (l : List ByteArray) (m : Nat), (∀ t ∈ l, t ≠ s) → kp s m l = l
  | [], _, _ => rfl
  | x :: r, m, h => by
    have h1 := h x (by simp)
    have h2 := kp_none s r m (fun t ht => h t (List.mem_cons_of_mem _ ht))
    unfold kp at h2 ⊢
    rw [rem, if_neg (fun hh => h1 hh.1), h2]
theorem oth_ne (l : List ByteArray) (s : ByteArray) : ∀ t ∈ oth l s, t ≠ s := by
  intro t ht
  have := (List.mem_filter.1 ht).2
  simpa using this
theorem rmv_zero (l : List ByteArray) (s : ByteArray) : rmv l s 0 = oth l s := by
  unfold rmv
  rw [if_neg (by decide), if_neg (by decide)]
  exact kp_all s l _ (Nat.le_refl _)
theorem rmv_back (l : List ByteArray) (s : ByteArray) (h : l.length ≤ 100) : rmv l s (-100) = oth l s := by
  unfold rmv
  rw [if_pos (by decide)]
  exact rp_all s l _ (by show l.length ≤ min 100 l.length; omega)
theorem rmv_gone (l : List ByteArray) (s : ByteArray) : rmv (oth l s) s 1 = oth l s := by
  unfold rmv
  rw [if_neg (by decide), if_pos (by decide)]
  exact kp_none s _ _ (oth_ne l s)
theorem tms_oth0 (l : List ByteArray) (s : ByteArray) : tms (oth l s) s = 0 := by
  unfold tms
  rw [List.length_eq_zero_iff, List.filter_eq_nil_iff]
  intro t ht
  simpa using oth_ne l s t ht
theorem tms_snoc (l : List ByteArray) (x s : ByteArray) : tms (l ++ [x]) s = tms l s + (if x = s then 1 else 0) := by
  unfold tms
  rw [List.filter_append, List.length_append]
  by_cases h : x = s <;> simp [h]
theorem tms_le (l : List ByteArray) (s : ByteArray) : tms l s ≤ l.length := by unfold tms; exact List.length_filter_le _ _

end Go.Proofs.Ytemiajjjhhofaab

namespace Go.Proofs.Ytemiajjjhhofaab
open Go.RowKit Go.PlainAid

set_option maxRecDepth 100000 in
set_option maxHeartbeats 1000000 in
theorem CopyQ_any (B l R most cnt : Nat) (ns : List Nd) (w : World) (h : Lst w B l R most cnt ns) (h0 : 0 < most) :
    Calls Try.prog 25 #[ptr l] w fun e w' => Below w.heap.size w w' ∧ ∃ c R2 ns2, e = .returned (ptr c) ∧ Lst w' w.heap.size c R2 most cnt ns2 ∧ ns2.map (fun d => d.ls) = ns.map (fun d => d.ls) := by
  have hc := h.cring
  have hmo := h.cmost
  have HL : Hid (Lst w B l R most cnt ns) := h
  have HN := NewQ_any (most : Int) w most (by omega)
  clear h
  go_enter Try.func25, Try.ntmps25
  go_wp2_with fail
  refine HN.mono ?_
  rintro e w1 ⟨hb, c, R2, rfl, hC⟩
  have HB1 : Hid (Below w.heap.size w w1) := hb
  have HL1 : Hid (Lst w1 B l R most cnt ns) := HL.out.keep hb
  have hcc := HL1.out.ccnt
  have hcr := HL1.out.cring
  have hcm := hC.ccnt
  have hfz : w1.frozen? ⟨c, 1, none⟩ = false := by simp [World.frozen?, hC.blk]
  obtain ⟨k1, k2⟩ := hC.count cnt
  have hBc : Below w.heap.size w1 (w1.setCell ⟨c, 1, none⟩ (.int .i64 (cnt : Nat))) := k2.stay.below (fun k hk => (hC.fplt k hk).1) hb.size
  obtain ⟨w2, hw2⟩ : ∃ w2, w1.setCell ⟨c, 1, none⟩ (.int .i64 (cnt : Nat)) = w2 := ⟨_, rfl⟩
  rw [hw2] at k1 hBc
  have HC2 : Hid (Lst w2 w.heap.size c R2 most cnt []) := k1
  have HB2 : Hid (Below w.heap.size w w2) := HB1.out.trans hBc
  clear k1 k2 hBc hb hC HN
  have HL2 : Hid (Lst w2 B l R most cnt ns) := HL.out.keep HB2.out
  have hcr2 := HL2.out.cring
  have hg : w2.cell? ⟨R, 2, none⟩ = some (ptr (hdA R ns)) := (Lst.gap (l1 := []) (l2 := ns) HL2.out).1
  obtain ⟨m, hm⟩ : ∃ m, ns.length = m := ⟨_, rfl⟩
  have HM : Hid (ns.length = m) := hm
  obtain ⟨v, hv⟩ : ∃ v, hdA R ns = v := ⟨_, rfl⟩
  have HV : Hid (hdA R ns = v) := hv
  rw [hv] at hg
  clear hm hv
  go_wp2
  go_loopg [4] m (fun g nv wr => ∃ l1 l2 ns2 : List Nd, ∃ v : Nat, nv = ptr v ∧ Hid (hdA R l2 = v) ∧ Hid (l2.length = g) ∧ Hid (ns = l1 ++ l2) ∧ Hid (Lst wr w.heap.size c R2 most cnt ns2) ∧ Hid (ns2.map (fun d => d.ls) = l1.map (fun d => d.ls)) ∧ Hid (Below w.heap.size w wr))
  case atStart => exact ⟨[], ns, [], v, rfl, HV, HM, rfl, HC2, rfl, HB2⟩
  case round =>
    obtain ⟨l1, l2, ns2, v, rfl, HV, HG, HE, HC, HT, HB⟩ := hrel
    have hLk := HL.out.keep HB.out
    have hcr := hLk.cring
    cases l2 with
    | nil =>
      have hvR : R = v := HV.out
      subst hvR
      have hq := neq_same wr R
      have HEE : Hid (ns = l1) := by show _ = _; have := HE.out; simpa using this
      clear hLk
      go_wp2
      go_ret
      exact ⟨HB.out, c, R2, ns2, rfl, HC.out, by rw [HEE.out]; exact HT.out⟩
    | cons d r =>
      have hvd : d.a = v := HV.out
      subst hvd
      rw [HE.out] at hLk
      have hq := (hLk.neqR (d := d) (by simp)).2
      have HLk : Hid (Lst wr B l R most cnt (l1 ++ d :: r)) := hLk
      have hdN := hLk.nod d (by simp)
      have HPd : Hid (∀ w', Below wr.heap.size wr w' → Calls Try.prog 58 #[ptr d.p] w' fun e w'' => MakesPk w' d.ls e w'') := fun w' hb => Copy_any B d.p d.r d.n d.c d.ls w' (hdN.pk.keep hb) (by have := hdN.siz; omega)
      have HFd : Hid (Fit d.ls ∧ (pack d.ls).length ≤ 65536) := ⟨hdN.fit, by rw [hdN.pk.len]; exact hdN.siz⟩
      obtain ⟨v2, hv2⟩ : ∃ v2, hdA R r = v2 := ⟨_, rfl⟩
      have HV2 : Hid (hdA R r = v2) := hv2
      have hg2 : Hid (∀ w', Below w.heap.size w w' → w'.cell? ⟨d.a, 2, none⟩ = some (ptr v2)) := fun w' hb => by
        have h3 := HL.out.keep hb
        rw [HE.out] at h3
        have := (Lst.gap (l1 := l1 ++ [d]) (l2 := r) (by simpa using h3)).1
        rw [laA_snoc, hv2] at this
        exact this
      have HE1 : Hid (ns = (l1 ++ [d]) ++ r) := by show _ = _; rw [HE.out]; simp
      have HK : Hid (r.length = gk - 1) := by have := HG.out; rw [List.length_cons] at this; show _ = _; omega
      have hg0 : gk ≠ 0 := by have := HG.out; rw [List.length_cons] at this; omega
      have HCells : Hid (∀ w', Below wr.heap.size wr w' → w'.cell? ⟨c, 2, none⟩ = some (ptr R2) ∧ w'.cell? ⟨R2, 1, none⟩ = some (ptr (laA R2 ns2)) ∧ w'.cell? ⟨d.a, 0, none⟩ = some (ptr d.p)) := fun w' hb => by
        have h1 := HC.out.keep hb
        refine ⟨h1.cring, ?_, (HLk.out.keep hb).cpk (by simp)⟩
        exact (Lst.gap (l1 := ns2) (l2 := []) (by simpa using h1)).2
      have HD : Hid (Below wr.heap.size wr wr.drew) := below_drewN wr 1
      obtain ⟨c1, c2, c3⟩ := HCells.out _ HD.out
      clear hLk hdN hv2
      go_upto_region 6 with fail
      go_region_with (first
          | (go_at_call 58; refine (HPd.out _ HD.out).mono ?_; rintro e w3 ⟨hb, p, ra, rn, rc, rfl, hP⟩; have HB3 : Hid (Below wr.heap.size wr w3) := HD.out.trans hb; obtain ⟨e1, e2, e3⟩ := HCells.out _ HB3.out; have HP3 : Hid (Pk w3 wr.heap.size p ra rn rc d.ls) := hP; clear hb hP)
          | (go_at_call 57; refine (link_any w.heap.size c R2 most cnt ns2 [] p ra rn rc d.ls w3 (by rw [List.append_nil]; exact HC.out.keep HB3.out) (HP3.out.low' HB.out.size) HFd.out.1 (by have h := HP3.out.len; have h2 := HFd.out.2; omega) HP3.out.blocks.2 (by rw [List.append_nil]; exact HC.out.fresh HP3.out (Nat.le_refl _))).mono ?_; rintro e w4 ⟨rfl, f, hf, h4, h5⟩; have HL4 : Hid (Lst w4 w.heap.size c R2 most cnt (ns2 ++ [⟨f, p, ra, rn, rc, d.ls⟩])) := h4; have HB4 : Hid (Below w.heap.size w w4) := (HB.out.trans (HB3.out.mono HB.out.size)).trans (h5.below (fun k hk => ((HC.out.keep HB3.out).fplt k (by simpa using hk)).1) (Nat.le_trans HB.out.size HB3.out.size)); clear h4 h5 hf))
      all_goals
        have hg3 := hg2.out _ HB4.out
        have HT5 : Hid ((ns2 ++ [(⟨f, p, ra, rn, rc, d.ls⟩ : Nd)]).map (fun d : Nd => d.ls) = (l1 ++ [d]).map (fun d : Nd => d.ls)) := by
          show _ = _
          rw [List.map_append, List.map_append, HT.out]; rfl
        go_wp2
        go_roundg (gk - 1)
        case measure => omega
        case rel => exact ⟨l1 ++ [d], r, _, v2, rfl, HV2, HK, HE1, HL4, HT5, HB4⟩
end Go.Proofs.Ytemiajjjhhofaab
