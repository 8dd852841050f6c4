/-
  The law EntryApart, walked.
-/
import Derived.Test.YtdlnodedikiamaaExt
import Derived.Deep.RegionWith
namespace Go.Proofs.Ytdlnodedikiamaa
open Go.RowKit Go.PlainAid

theorem pre_same {A B r : List UInt8} (hA : A.length ≤ 4096) (hB : B.length ≤ 4096) (h : enc B = enc A ++ r) : A = B := by
  have h1 := dec_enc A r hA
  have h2 := dec_enc B [] hB
  rw [List.append_nil, h, h1] at h2
  exact (Prod.mk.inj (Option.some.inj h2)).1
/-- Unlike texts: no entry begins another one. -/
theorem apart {A B : List UInt8} (hA : A.length ≤ 4096) (hB : B.length ≤ 4096) (hne : A ≠ B) (m : Nat) (hm : m = min (enc A).length (enc B).length) : (enc A).take m ≠ (enc B).take m := by
  intro h
  rcases Nat.le_total (enc A).length (enc B).length with hl | hl
  · rw [hm, Nat.min_eq_left hl, List.take_length] at h
    exact hne (pre_same hA hB (r := (enc B).drop (enc A).length) (by conv => lhs; rw [← List.take_append_drop (enc A).length (enc B)]
                                                                     rw [← h]))
  · rw [hm, Nat.min_eq_right hl, List.take_length] at h
    exact hne (pre_same hB hA (r := (enc A).drop (enc B).length) (by conv => lhs; rw [← List.take_append_drop (enc B).length (enc A)]
                                                                     rw [h])).symm

set_option maxRecDepth 100000 in
set_option maxHeartbeats 4000000 in
theorem apart_any (s t : ByteArray) (w : World) : Calls Try.prog 6 #[.string s, .string t] w fun e w' => e = .returned (.bool true) ∧ Below w.heap.size w w' := by
  have HC1 := fun w => Cut_any s 300 w (by decide)
  have hc1 := size_cutB s 300 (by decide)
  have HC2 := fun w => Cut_any t 300 w (by decide)
  have hc2 := size_cutB t 300 (by decide)
  generalize cutB s 300 = S at HC1 hc1
  generalize cutB t 300 = T at HC2 hc2
  have HE1 := fun w => Encode_any S w (by omega)
  have HE2 := fun w => Encode_any T w (by omega)
  have HK := fun w => known_any w
  have H0 : Hid (Below w.heap.size w w) := Below.refl _ _
  unfold EncR at HE1 HE2
  have hl1 := (enc_len (lst S)).2
  have hl2 := (enc_len (lst T)).2
  rw [len_lst] at hl1 hl2
  by_cases heq : S = T
  · subst heq
    have hq : (S.toList == S.toList) = true := by simp
    obtain ⟨A, hA⟩ : ∃ A, bs (enc (lst S)) = A := ⟨_, rfl⟩
    have HA : Hid (bs (enc (lst S)) = A) := hA
    clear hA hc2 HE2
    go_enter Try.func6, Try.ntmps6
    go_wp2_with fail
    refine (HC1 _).mono ?_
    rintro e w ⟨rfl, rfl⟩
    go_wp2_with fail
    refine (HC2 _).mono ?_
    rintro e w ⟨rfl, rfl⟩
    go_wp2_with fail
    refine (HE1 _).mono ?_
    rintro e w1 ⟨hb, a1, n1, c1, rfl, hO1⟩
    have HR1 : Hid (Rd w1 a1 n1 c1 (enc (lst S))) := hO1.rd
    have G1 := step_below H0 hb
    clear hb hO1
    go_wp2_with fail
    refine (HE1 _).mono ?_
    rintro e w2 ⟨hb, a2, n2, c2, rfl, hO2⟩
    have hT1 := (HR1.out.keep hb).text
    have hT2 := hO2.rd.text
    have G2 := step_below G1 hb
    rw [HA.out] at hT1 hT2
    clear hb hO2
    go_wp2_with fail
    refine (HK _).mono ?_
    rintro e w3 ⟨hb, rfl⟩
    have G3 := step_below G2 hb
    clear hb
    go_wp2
    go_ret
    exact ⟨rfl, G3.out⟩
  · have hq : (S.toList == T.toList) = false := by rw [toList_beq]; simpa using heq
    have HNE : Hid (lst S ≠ lst T) := by show _ ≠ _; intro h; exact heq (by rw [← bs_lst S, ← bs_lst T, h])
    have HS1 : Hid (S.size ≤ 300) := by show _ ≤ _; omega
    have HS2 : Hid (T.size ≤ 300) := by show _ ≤ _; omega
    have HL1 : Hid ((enc (lst S)).length ≤ S.size + 11) := hl1
    have HL2 : Hid ((enc (lst T)).length ≤ T.size + 11) := hl2
    clear heq hl1 hl2
    go_enter Try.func6, Try.ntmps6
    go_wp2_with fail
    refine (HC1 _).mono ?_
    rintro e w ⟨rfl, rfl⟩
    go_wp2_with fail
    refine (HC2 _).mono ?_
    rintro e w ⟨rfl, rfl⟩
    go_wp2_with fail
    refine (HE1 _).mono ?_
    rintro e w1 ⟨hb, a1, n1, c1, rfl, hO1⟩
    have HR1 : Hid (Rd w1 a1 n1 c1 (enc (lst S))) := hO1.rd
    have G1 := step_below H0 hb
    clear hb hO1
    go_wp2_with fail
    refine (HE2 _).mono ?_
    rintro e w2 ⟨hb, a2, n2, c2, rfl, hO2⟩
    have G2 := step_below G1 hb
    have hR1 := HR1.out.keep hb
    have hR2 := hO2.rd
    have hn1 : n1 ≤ 311 := by have := hR1.len; have := HL1.out; have := HS1.out; omega
    have hn2 : n2 ≤ 311 := by have := hR2.len; have := HL2.out; have := HS2.out; omega
    by_cases h : n2 < n1
    · obtain ⟨a3, c3, hsl1, hR3⟩ := hR1.slice_h n2 (by omega)
      obtain ⟨a4, c4, hsl2, hR4⟩ := hR2.slice_h n2 (by omega)
      have hne := apart (by rw [len_lst]; have := HS1.out; omega) (by rw [len_lst]; have := HS2.out; omega) HNE.out n2 (by rw [hR1.len, hR2.len]; omega)
      have hT1 := fun x : Ext w2 => (hR3.keep x.ok).text
      have hT2 := fun x : Ext w2 => (hR4.keep x.ok).text
      have hqq := eqB ((enc (lst S)).take n2) ((enc (lst T)).take n2)
      rw [decide_eq_false hne] at hqq
      generalize bs ((enc (lst S)).take n2) = A at hT1 hqq
      generalize bs ((enc (lst T)).take n2) = B at hT2 hqq
      have hqn : (A.toList != B.toList) = true := by rw [bne, hqq]; rfl
      have hex : Nonempty (Ext w2) := ⟨⟨w2, Below.refl _ _⟩⟩
      have HB : Hid (Below w2.heap.size w2 w2) := Below.refl _ _
      clear hb hO2 hR1 hR2 hR3 hR4 hne
      go_wp2_with fail
      refine wp_region_ext (by kernel_rfl) (by kernel_rfl) ?_
      repeat (go_big_quiet_step (first | (go_at_call 12; exact Calls.ext_of (HK _))))
      refine wpQuiet_nil ?_
      intro wz hz
      obtain ⟨x, rfl⟩ := hz
      have G3 := step_below G2 x.ok
      go_wp2
      go_ret
      exact ⟨rfl, G3.out⟩
    · obtain ⟨a3, c3, hsl1, hR3⟩ := hR1.slice_h n1 (by omega)
      obtain ⟨a4, c4, hsl2, hR4⟩ := hR2.slice_h n1 (by omega)
      have hne := apart (by rw [len_lst]; have := HS1.out; omega) (by rw [len_lst]; have := HS2.out; omega) HNE.out n1 (by rw [hR1.len, hR2.len]; omega)
      have hT1 := fun x : Ext w2 => (hR3.keep x.ok).text
      have hT2 := fun x : Ext w2 => (hR4.keep x.ok).text
      have hqq := eqB ((enc (lst S)).take n1) ((enc (lst T)).take n1)
      rw [decide_eq_false hne] at hqq
      generalize bs ((enc (lst S)).take n1) = A at hT1 hqq
      generalize bs ((enc (lst T)).take n1) = B at hT2 hqq
      have hqn : (A.toList != B.toList) = true := by rw [bne, hqq]; rfl
      have hex : Nonempty (Ext w2) := ⟨⟨w2, Below.refl _ _⟩⟩
      have HB : Hid (Below w2.heap.size w2 w2) := Below.refl _ _
      clear hb hO2 hR1 hR2 hR3 hR4 hne
      go_wp2_with fail
      refine wp_region_ext (by kernel_rfl) (by kernel_rfl) ?_
      repeat (go_big_quiet_step (first | (go_at_call 12; exact Calls.ext_of (HK _))))
      refine wpQuiet_nil ?_
      intro wz hz
      obtain ⟨x, rfl⟩ := hz
      have G3 := step_below G2 x.ok
      go_wp2
      go_ret
      exact ⟨rfl, G3.out⟩
end Go.Proofs.Ytdlnodedikiamaa
