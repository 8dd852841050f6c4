/-
  putAhead: a text comes ahead of another of a node.
-/
import Derived.Test.YtemiajjjhhofaabCut
namespace Go.Proofs.Ytemiajjjhhofaab
open Go.RowKit Go.PlainAid

theorem hdA_adr {R : Nat} {a b : List Nd} (h : adr a = adr b) : hdA R a = hdA R b := by
  cases a with
  | nil => cases b with
    | nil => rfl
    | cons d r => cases h
  | cons x r => cases b with
    | nil => cases h
    | cons d r2 => rw [adr_cons, adr_cons] at h; injection h
theorem laA_adr {R : Nat} {a b : List Nd} (h : adr a = adr b) : laA R a = laA R b := by
  rcases snoc_ex a with rfl | ⟨k, d, rfl⟩
  · cases b with
    | nil => rfl
    | cons d r => cases h
  · rcases snoc_ex b with rfl | ⟨k2, d2, rfl⟩
    · rw [adr_append] at h; simp [adr] at h
    · rw [laA_snoc, laA_snoc]
      rw [adr_append, adr_append] at h
      have := (List.append_inj' h rfl).2
      simpa [adr] using this

/-- A join behind which the nodes ahead of the gap's left one are as they were. -/
theorem JoinAt.fore {w w' : World} {B l R most cnt : Nat} {P Q l2 : List Nd} {b : Bool} (h : Lst w B l R most cnt (P ++ Q ++ l2)) (hok : Ok most (P ++ Q ++ l2)) (hQ : Q ≠ []) (hj : JoinAt w B l R most cnt (P ++ Q) l2 b w') : ∃ X, Lst w' B l R most cnt (P ++ X) ∧ Goes w w' l R (P ++ Q ++ l2) (P ++ X) ∧ Ok most (P ++ X) ∧ txN (P ++ X) = txN (P ++ Q ++ l2) := by
  rcases hj with ⟨-, hb⟩ | ⟨hb, k1, d, e, k2, d', e1, rfl, h4, h5, h6, h7, h8⟩
  · refine ⟨Q ++ l2, ?_, ?_, ?_, by rw [List.append_assoc]⟩
    · rw [← List.append_assoc]; exact h.keep hb
    · rw [← List.append_assoc]; exact Goes.of_below hb _ _ _
    · rw [← List.append_assoc]; exact hok
  · rcases snoc_ex Q with rfl | ⟨q, x, rfl⟩
    · exact absurd rfl hQ
    · rw [← List.append_assoc] at e1
      obtain ⟨rfl, rfl⟩ := snoc_inj e1
      have hd : Does w B l R most cnt (P ++ (q ++ [x]) ++ e :: k2) (txN (P ++ (q ++ [x]) ++ e :: k2)) w' := JoinAt.does h hok (.inr ⟨hb, P ++ q, x, e, k2, d', by rw [List.append_assoc], rfl, h4, h5, h6, h7, h8⟩)
      refine ⟨q ++ d' :: k2, by rw [← List.append_assoc]; exact h4, by rw [List.append_assoc P q] at h5; exact h5, ?_, ?_⟩
      · rw [← List.append_assoc]
        intro y hy
        rcases mem_or hy with rfl | hy
        · have := (hok x (by simp)).1
          rw [h7, List.length_append] at h8 ⊢
          omega
        · refine hok y ?_
          simp only [List.mem_append, List.mem_cons, List.not_mem_nil, or_false] at hy ⊢
          rcases hy with (hy | hy) | hy
          · exact .inl (.inl hy)
          · exact .inl (.inr (.inl hy))
          · exact .inr (.inr hy)
      · simp only [txN_append, txN_cons, h7, txN_nil, List.append_assoc, List.append_nil]

set_option maxRecDepth 100000 in
set_option maxHeartbeats 4000000 in
theorem putAhead_any (B l R most cnt : Nat) (l1 l2 : List Nd) (d : Nd) (i : Nat) (s : ByteArray) (w : World) (h : Lst w B l R most cnt (l1 ++ d :: l2)) (hok : Ok most (l1 ++ d :: l2)) (hi : i ≤ d.ls.length) (hs : s.size ≤ 4096) (hcnt : cnt ≤ 1000000) (hmost : 0 < most) (hmost2 : most ≤ 1000000) :
    Calls Try.prog 71 #[ptr l, ptr d.a, .int .i64 i, .string s] w fun r w' => r = .returned (.tuple #[]) ∧ Does w B l R most (cnt + 1) (l1 ++ d :: l2) (txN l1 ++ (d.ls.take i ++ (s :: d.ls.drop i)) ++ txN l2) w' := by
  have HL : Hid (Lst w B l R most cnt (l1 ++ d :: l2)) := h
  have HOk : Hid (Ok most (l1 ++ d :: l2)) := hok
  have HS : Hid (s.size ≤ 4096) := hs
  have HI : Hid (i ≤ d.ls.length) := hi
  rcases hasRoom_at B l R most cnt _ d.a s w h (by rw [adr_append, adr_cons]; simp) hs with HA | ⟨d0, hd0, hda, hm, hn, HA⟩
  · have HA0 := HA w (Below.refl _ _)
    have HCu := fun w1 (hb : Below w.heap.size w w1) => cut_any B l R most cnt l1 l2 d i w1 (h.keep hb) hok hi
    clear h hok hs hi HA
    go_enter Try.func71, Try.ntmps71
    go_wp2_with fail
    refine HA0.mono ?_
    rintro e w1 ⟨hb, rfl⟩
    have HB : Hid (Below w.heap.size w w1) := hb
    have HC := HCu w1 hb
    clear hb HA0 HCu
    go_wp2_with fail
    refine HC.mono ?_
    rintro e w2 ⟨A, C, rfl, hL2, hG2, hO2, hA2, hC2⟩
    have HL2 : Hid (Lst w2 B l R most cnt (A ++ C)) := hL2
    have HG2 : Hid (Goes w w2 l R (l1 ++ d :: l2) (A ++ C)) := hG2.first HB.out
    have HTx : Hid (txN A ++ (s :: txN C) = txN l1 ++ (d.ls.take i ++ (s :: d.ls.drop i)) ++ txN l2) := by show _ = _; rw [hA2, hC2]; simp
    have HPu := putBehind_any B l R most cnt A C s w2 hL2 hO2 HS.out hcnt hmost
    have hg2 := hL2.gap.1
    obtain ⟨u, hu⟩ : ∃ u, laA R A = u := ⟨_, rfl⟩
    have HU : Hid (laA R A = u) := hu
    obtain ⟨v, hv⟩ : ∃ v, hdA R C = v := ⟨_, rfl⟩
    have HV : Hid (hdA R C = v) := hv
    rw [hu] at hg2 HPu
    rw [hv] at hg2
    rw [hu]
    clear hL2 hG2 hO2 hA2 hC2 hu hv HC
    go_wp2_with fail
    refine HPu.mono ?_
    rintro e w3 ⟨rfl, M1, mid, M2, hL3, hG3, hO3, hM1, hM2, hT3⟩
    have hvM : hdA R M2 = v := (hdA_adr hM2).trans HV.out
    have huM : laA R M1 = u := (laA_adr hM1).trans HU.out
    have HG3 : Hid (Goes w w3 l R (l1 ++ d :: l2) (M1 ++ (mid ++ M2))) := HG2.out.trans hG3
    have HT3 : Hid (txN (M1 ++ (mid ++ M2)) = txN l1 ++ (d.ls.take i ++ (s :: d.ls.drop i)) ++ txN l2) := by show _ = _; rw [← HTx.out, ← hT3, txN_append, txN_append]
    have HJ : Calls Try.prog 91 #[ptr l, ptr v] w3 fun r w' => (∃ b, r = .returned (.bool b)) ∧ ∃ X, Lst w' B l R most (cnt + 1) (M1 ++ X) ∧ Goes w3 w' l R (M1 ++ (mid ++ M2)) (M1 ++ X) ∧ Ok most (M1 ++ X) ∧ txN (M1 ++ X) = txN (M1 ++ (mid ++ M2)) := by
      cases M2 with
      | nil =>
        have hvR : R = v := hvM
        subst hvR
        refine (join_ring B l R most (cnt + 1) _ w3 hL3).mono ?_
        rintro r w' ⟨rfl, hb⟩
        exact ⟨⟨_, rfl⟩, mid ++ [], hL3.keep hb, Goes.of_below hb _ _ _, hO3, rfl⟩
      | cons e K =>
        have hve : e.a = v := hvM
        have es : M1 ++ (mid ++ e :: K) = M1 ++ (mid ++ [e]) ++ K := by simp
        have hJ := join_any B l R most (cnt + 1) (M1 ++ (mid ++ [e])) K w3 (es ▸ hL3) hmost2
        have hla : laA R (M1 ++ (mid ++ [e])) = v := by rw [← List.append_assoc, laA_snoc]; exact hve
        rw [hla] at hJ
        refine hJ.mono ?_
        rintro r w' ⟨b, rfl, hj⟩
        have := hj.fore (es ▸ hL3) (es ▸ hO3) (by simp)
        rw [← es] at this
        exact ⟨⟨_, rfl⟩, this⟩
    have HUM : Hid (laA R M1 = u) := huM
    clear hL3 hG3 hO3 hM1 hM2 hT3 hvM huM HPu hg2
    go_wp2_with fail
    refine HJ.mono ?_
    rintro e w4 ⟨⟨b, rfl⟩, X, hL4, hG4, hO4, hT4⟩
    have HG4 : Hid (Goes w w4 l R (l1 ++ d :: l2) (M1 ++ X)) := HG3.out.trans hG4
    have HT4 : Hid (txN (M1 ++ X) = txN l1 ++ (d.ls.take i ++ (s :: d.ls.drop i)) ++ txN l2) := by show _ = _; rw [hT4]; exact HT3.out
    obtain ⟨t, ht, HJ2⟩ : ∃ t, w4.cell? ⟨u, 1, none⟩ = some (ptr t) ∧ Calls Try.prog 91 #[ptr l, ptr t] w4 fun r w' => (∃ b, r = .returned (.bool b)) ∧ Does w4 B l R most (cnt + 1) (M1 ++ X) (txN (M1 ++ X)) w' := by
      rcases snoc_ex M1 with e1 | ⟨k, d1, e1⟩
      · have hu : R = u := by have := HUM.out; rw [e1] at this; exact this
        subst hu
        have hg := (Lst.gap (l1 := M1 ++ X) (l2 := []) (by rw [List.append_nil]; exact hL4)).2
        refine ⟨laA R (M1 ++ X), hg, ?_⟩
        refine (join_any B l R most (cnt + 1) (M1 ++ X) [] w4 (by rw [List.append_nil]; exact hL4) hmost2).mono ?_
        rintro r w' ⟨b, rfl, hj⟩
        have := JoinAt.does (by rw [List.append_nil]; exact hL4) (by rw [List.append_nil]; exact hO4) hj
        rw [List.append_nil] at this
        exact ⟨⟨_, rfl⟩, this⟩
      · have hu : d1.a = u := by have := HUM.out; rw [e1, laA_snoc] at this; exact this
        subst hu
        have es : M1 ++ X = k ++ (d1 :: X) := by rw [e1]; simp
        have hg := (Lst.gap (l1 := k) (l2 := d1 :: X) (es ▸ hL4)).2
        refine ⟨laA R k, hg, ?_⟩
        refine (join_any B l R most (cnt + 1) k (d1 :: X) w4 (es ▸ hL4) hmost2).mono ?_
        rintro r w' ⟨b, rfl, hj⟩
        have := JoinAt.does (es ▸ hL4) (es ▸ hO4) hj
        rw [← es] at this
        exact ⟨⟨_, rfl⟩, this⟩
    clear hL4 hG4 hO4 hT4 HJ
    go_wp2_with fail
    refine HJ2.mono ?_
    rintro e w5 ⟨⟨b2, rfl⟩, hD⟩
    have HD : Hid (Does w B l R most (cnt + 1) (l1 ++ d :: l2) (txN l1 ++ (d.ls.take i ++ (s :: d.ls.drop i)) ++ txN l2) w5) := by
      obtain ⟨ns', h1, h2, h3, h4⟩ := hD
      exact ⟨ns', h1, HG4.out.trans h2, h3, by rw [h4]; exact HT4.out⟩
    clear hD HJ2
    go_wp2
    go_end0
    exact ⟨rfl, HD.out⟩
  · have hdd : d0 = d := h.same hd0 (by simp) hda
    subst hdd
    have HA0 := HA w (Below.refl _ _)
    have HX : Hid (d0.n + (pack [s]).length ≤ 65536) := by show _ ≤ _; rw [pack_one]; exact hn
    have HM : Hid (d0.ls.length < most) := hm
    clear h hok hs hi HA hd0 hda hm hn
    go_enter Try.func71, Try.ntmps71
    go_wp2_with fail
    refine HA0.mono ?_
    rintro e w1 ⟨hb, rfl⟩
    have HB : Hid (Below w.heap.size w w1) := hb
    have hc1 := (HL.out.keep hb).cpk (d := d0) (by simp)
    have hba : Below w1.heap.size w1 (w1.alloc (.cells #[.string s] 9)) := alloc_below w1 _
    have HBa : Hid (Below w.heap.size w (w1.alloc (.cells #[.string s] 9))) := HB.out.trans (hba.mono HB.out.size)
    have HIn := Insert_nd B l R most cnt l1 l2 d0 i (some ⟨w1.heap.size, 0, none⟩) 1 1 [s] (w1.alloc (.cells #[.string s] 9)) (HL.out.keep HBa.out) HI.out (RdS.box w1 s) (fit_one HS.out) (by decide) HX.out
    clear hb HA0 hba
    go_wp2_with fail
    refine HIn.mono ?_
    rintro e w2 ⟨rfl, d', e1, e2, e3, -, h4, h5⟩
    obtain ⟨h6, h7⟩ := h4.count (cnt + 1)
    have hc2 := h4.ccnt
    have hf2 := h4.frozen 1
    have HD : Hid (Does w B l R most (cnt + 1) (l1 ++ d0 :: l2) (txN l1 ++ (d0.ls.take i ++ (s :: d0.ls.drop i)) ++ txN l2) (w2.setCell ⟨l, 1, none⟩ (.int .i64 ((cnt + 1 : Nat) : Nat)))) := by
      refine ⟨_, h6, (h5.first HBa.out).trans h7, HOk.out.mid ?_, ?_⟩
      · rw [e3]
        have := HM.out
        have := HI.out
        simp only [List.length_append, List.length_take, List.length_drop, List.length_cons, List.length_nil]
        omega
      · rw [txN_append, txN_cons, e3]; simp
    clear h4 h5 h6 h7 HIn
    go_wp2
    (try simp only [Exit.inBlock, Exit.then])
    refine bodyPost_ret (results_none rfl _ _ _) rfl ?_
    exact ⟨rfl, HD.out⟩
end Go.Proofs.Ytemiajjjhhofaab
