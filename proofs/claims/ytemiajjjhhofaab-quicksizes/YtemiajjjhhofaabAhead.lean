/-
  joinAll, cut, putAhead.
-/
import Derived.Test.YtemiajjjhhofaabJoin
namespace Go.Proofs.Ytemiajjjhhofaab
open Go.RowKit Go.PlainAid

/-- What a call does to a list: it has these texts then. -/
def Does (w : World) (B l R most cnt : Nat) (ns : List Nd) (ts : List ByteArray) (w' : World) : Prop :=
  ∃ ns', Lst w' B l R most cnt ns' ∧ Goes w w' l R ns ns' ∧ Ok most ns' ∧ txN ns' = ts

theorem snoc_inj {a b : List Nd} {x y : Nd} (h : a ++ [x] = b ++ [y]) : a = b ∧ x = y := by
  have := List.append_inj' h rfl
  exact ⟨this.1, by have := this.2; simpa using this⟩
/-- Behind a join that took place, or did not. -/
theorem JoinAt.does {w w' : World} {B l R most cnt : Nat} {l1 l2 : List Nd} {b : Bool} (h : Lst w B l R most cnt (l1 ++ l2)) (hok : Ok most (l1 ++ l2)) (hj : JoinAt w B l R most cnt l1 l2 b w') : Does w B l R most cnt (l1 ++ l2) (txN (l1 ++ l2)) w' := by
  rcases hj with ⟨-, hb⟩ | ⟨-, k1, d, e, k2, d', rfl, rfl, h4, h5, h6, h7, h8⟩
  · exact ⟨_, h.keep hb, Goes.of_below hb _ _ _, hok, rfl⟩
  · refine ⟨_, h4, h5, ?_, ?_⟩
    · intro x hx
      rcases mem_or hx with rfl | hx
      · have := (hok d (by simp)).1
        rw [h7, List.length_append] at h8 ⊢
        omega
      · refine hok x ?_
        simp only [List.mem_append, List.mem_cons, List.not_mem_nil, or_false] at hx ⊢
        rcases hx with hx | hx
        · exact .inl (.inl hx)
        · exact .inr (.inr hx)
    · rw [txN_append, txN_cons, h7, txN_append, txN_append, txN_cons, txN_cons]; simp [txN_nil]

set_option maxRecDepth 100000 in
set_option maxHeartbeats 4000000 in
theorem joinAll_any (B l R most cnt : Nat) (ns : List Nd) (w : World) (h : Lst w B l R most cnt ns) (hok : Ok most ns) (hmost : most ≤ 1000000) :
    Calls Try.prog 75 #[ptr l] w fun r w' => r = .returned (.tuple #[]) ∧ Does w B l R most cnt ns (txN ns) w' := by
  have hc := h.cring
  have hg : w.cell? ⟨R, 2, none⟩ = some (ptr (hdA R ns)) := (Lst.gap (l1 := []) (l2 := ns) h).1
  have HL : Hid (Lst w B l R most cnt ([] ++ ns)) := h
  have HOk : Hid (Ok most ([] ++ ns)) := hok
  obtain ⟨m, hm⟩ : ∃ m, ns.length = m := ⟨_, rfl⟩
  have HM : Hid (ns.length = m) := hm
  obtain ⟨v, hv⟩ : ∃ v, hdA R ns = v := ⟨_, rfl⟩
  have HV : Hid (hdA R ns = v) := hv
  rw [hv] at hg
  clear h hok hm hv
  go_enter Try.func75, Try.ntmps75
  go_wp2
  go_loopg [2] m (fun g nv wr => ∃ l1 l2 : List Nd, ∃ v : Nat, nv = ptr v ∧ Hid (hdA R l2 = v) ∧ Hid (l2.length = g) ∧ Hid (Lst wr B l R most cnt (l1 ++ l2)) ∧ Hid (Goes w wr l R ns (l1 ++ l2)) ∧ Hid (Ok most (l1 ++ l2)) ∧ Hid (txN (l1 ++ l2) = txN ns))
  case atStart => exact ⟨[], ns, v, rfl, HV, HM, HL, Goes.refl _ _ _ _, HOk, rfl⟩
  case round =>
    obtain ⟨l1, l2, v, rfl, HV, HG, HL, HGo, HOk, HT⟩ := hrel
    have hcr := HL.out.cring
    cases l2 with
    | nil =>
      have hvR : R = v := HV.out
      subst hvR
      have hq := neq_same wr R
      go_wp2
      go_end0
      exact ⟨rfl, _, HL.out, HGo.out, HOk.out, HT.out⟩
    | cons d k2 =>
      have hvd : d.a = v := HV.out
      subst hvd
      have hq := (HL.out.neqR (d := d) (by simp)).2
      have es : ∀ x : Nd, ∀ k : List Nd, l1 ++ x :: k = (l1 ++ [x]) ++ k := fun x k => by simp
      have HJ := join_any B l R most cnt (l1 ++ [d]) k2 wr (by rw [← es]; exact HL.out) hmost
      rw [laA_snoc] at HJ
      have hg0 : gk ≠ 0 := by have := HG.out; rw [List.length_cons] at this; omega
      go_wp2_with fail
      refine HJ.mono ?_
      rintro r w1 ⟨b, rfl, hj⟩
      cases b with
      | false =>
        have hb : Below wr.heap.size wr w1 := by
          rcases hj with ⟨-, hb⟩ | ⟨h, -⟩
          · exact hb
          · cases h
        have HL1 : Hid (Lst w1 B l R most cnt (l1 ++ [d] ++ k2)) := by rw [← es]; exact HL.out.keep hb
        have HGo1 : Hid (Goes w w1 l R ns (l1 ++ [d] ++ k2)) := by rw [← es]; exact HGo.out.trans (Goes.of_below hb _ _ _)
        have HOk1 : Hid (Ok most (l1 ++ [d] ++ k2)) := by rw [← es]; exact HOk.out
        have HT1 : Hid (txN (l1 ++ [d] ++ k2) = txN ns) := by rw [← es]; exact HT.out
        have hg1 := HL1.out.gap.1
        rw [laA_snoc] at hg1
        obtain ⟨v, hv⟩ : ∃ v, hdA R k2 = v := ⟨_, rfl⟩
        have HV1 : Hid (hdA R k2 = v) := hv
        have HK : Hid (k2.length = gk - 1) := by have := HG.out; rw [List.length_cons] at this; show _ = _; omega
        rw [hv] at hg1
        clear hj hb hv
        go_wp2
        go_roundg (gk - 1)
        case measure => omega
        case rel => exact ⟨_, _, _, rfl, HV1, HK, HL1, HGo1, HOk1, HT1⟩
      | true =>
        obtain ⟨k1, d0, e, k3, d', e1, e2, h4, h5, h6, h7, h8⟩ : ∃ k1 d0 e k3 d', l1 ++ [d] = k1 ++ [d0] ∧ k2 = e :: k3 ∧ Lst w1 B l R most cnt (k1 ++ d' :: k3) ∧ Goes wr w1 l R ((l1 ++ [d]) ++ k2) (k1 ++ d' :: k3) ∧ d'.a = d0.a ∧ d'.ls = d0.ls ++ e.ls ∧ d'.ls.length ≤ most := by
          rcases hj with ⟨h, -⟩ | ⟨-, h⟩
          · cases h
          · exact h
        obtain ⟨rfl, rfl⟩ := snoc_inj e1
        subst e2
        have HL1 : Hid (Lst w1 B l R most cnt (l1 ++ d' :: k3)) := h4
        have HGo1 : Hid (Goes w w1 l R ns (l1 ++ d' :: k3)) := by rw [← es] at h5; exact HGo.out.trans h5
        have HT1 : Hid (txN (l1 ++ d' :: k3) = txN ns) := by
          show _ = _
          rw [← HT.out, txN_append, txN_append, txN_cons, txN_cons, txN_cons, h7, List.append_assoc]
        have HOk1 : Hid (Ok most (l1 ++ d' :: k3)) := by
          have h0 : Ok most (l1 ++ d :: e :: k3) := HOk.out
          have h1 := (h0 d (by simp)).1
          intro x hx
          rcases mem_or hx with rfl | hx
          · rw [h7, List.length_append] at h8 ⊢
            omega
          · refine h0 x ?_
            simp only [List.mem_append, List.mem_cons] at hx ⊢
            rcases hx with hx | hx
            · exact .inl hx
            · exact .inr (.inr (.inr hx))
        have HV1 : Hid (hdA R (d' :: k3) = d.a) := h6
        have HK : Hid ((d' :: k3).length = gk - 1) := by have := HG.out; simp only [List.length_cons] at this ⊢; show _ = _; omega
        clear hj h4 h5 h6 h7 h8 e1
        go_wp2
        go_roundg (gk - 1)
        case measure => omega
        case rel => exact ⟨_, _, _, rfl, HV1, HK, HL1, HGo1, HOk1, HT1⟩
end Go.Proofs.Ytemiajjjhhofaab
