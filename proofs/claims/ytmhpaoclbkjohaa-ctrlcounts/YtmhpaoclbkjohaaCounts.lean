/-
  tallboylaw7.CtrlCounts: each slot is full or free; cleaned, a word has as many full ones, and no Deleted.
-/
import Derived.Test.YtmhpaoclbkjohaaKeep
namespace Go.Proofs.Ytmhpaoclbkjohaa
open Go.RowKit Go.PlainAid

theorem slots_both (l : List Nat) : ∀ k, (slots (ful l) k).length + (slots (fre l) k).length = k
  | 0 => rfl
  | k + 1 => by
    have ih := slots_both l k
    cases h : fre l k with
    | true => rw [slots_yes h, slots_no (p := ful l) (by unfold ful; rw [h]; rfl), List.length_append, List.length_singleton]; omega
    | false => rw [slots_no h, slots_yes (p := ful l) (by unfold ful; rw [h]; rfl), List.length_append, List.length_singleton]; omega
theorem slots_congr {p q : Nat → Bool} : ∀ k, (∀ j, j < k → p j = q j) → slots p k = slots q k
  | 0, _ => rfl
  | k + 1, h => by
    have ih := slots_congr k (fun j hj => h j (by omega))
    have hk := h k (by omega)
    cases hp : p k with
    | true => rw [slots_yes hp, slots_yes (by rw [← hk]; exact hp), ih]
    | false => rw [slots_no hp, slots_no (by rw [← hk]; exact hp), ih]
theorem slots_none {p : Nat → Bool} : ∀ k, (∀ j, j < k → p j = false) → slots p k = []
  | 0, _ => rfl
  | k + 1, h => by rw [slots_no (h k (by omega)), slots_none k (fun j hj => h j (by omega))]
theorem cln_all {l : List Nat} (h : Ok l) : cln l 8 = l.map cl := by
  unfold cln
  rw [List.take_of_length_le (by rw [h.len]; exact Nat.le_refl _), List.drop_of_length_le (by rw [h.len]; exact Nat.le_refl _), List.append_nil]
theorem cln_get8 {l : List Nat} (h : Ok l) {j : Nat} (hj : j < 8) : (cln l 8).getD j 0 = cl (l.getD j 0) := by
  rw [cln_all h, List.getD_eq_getElem?_getD, List.getD_eq_getElem?_getD, List.getElem?_map, List.getElem?_eq_getElem (by rw [h.len]; exact hj)]; rfl
theorem cl_free (b : Nat) : decide (128 ≤ cl b) = decide (128 ≤ b) := by
  unfold cl
  split
  · next h => subst h; rfl
  · rfl
theorem cl_cl (b : Nat) : cl (cl b) = cl b := by
  unfold cl
  split <;> rfl
theorem cl_ne (b : Nat) : cl b ≠ 254 := by
  unfold cl
  split <;> omega
theorem fre_cln {l : List Nat} (h : Ok l) : slots (fre (cln l 8)) 8 = slots (fre l) 8 :=
  slots_congr 8 fun j hj => by unfold fre; rw [cln_get8 h hj, cl_free]
theorem ful_cln {l : List Nat} (h : Ok l) : slots (ful (cln l 8)) 8 = slots (ful l) 8 :=
  slots_congr 8 fun j hj => by unfold ful fre; rw [cln_get8 h hj, cl_free]
theorem has_cln {l : List Nat} (h : Ok l) : slots (has (cln l 8) 254) 8 = [] :=
  slots_none 8 fun j hj => by unfold has; rw [cln_get8 h hj]; exact decide_eq_false (cl_ne _)
theorem cln_cln {l : List Nat} (h : Ok l) : cln (cln l 8) 8 = cln l 8 := by
  rw [cln_all (cln_ok h 8), cln_all h, List.map_map]
  congr 1
  funext b
  exact cl_cl b

set_option maxRecDepth 100000 in
set_option maxHeartbeats 4000000 in
theorem counts_any (n : Nat) (w : World) (hn : n < 18446744073709551616) :
    Calls Try.prog 6 #[.int .u64 n] w fun e w' => e = .returned (.bool true) ∧ Below w.heap.size w w' := by
  obtain ⟨l, hl, rfl⟩ := word_ex n hn
  have H0 : Hid (Below w.heap.size w w) := Below.refl _ _
  have HKn := known_any
  have hO := cln_ok hl 8
  have HC := fun w => Count_any hl w
  have HF := fun w => Free_any hl w
  have HK := fun w => Clean_any hl w
  have HC2 := fun w => Count_any hO w
  have HF2 := fun w => Free_any hO w
  have HK2 := fun w => Clean_any hO w
  have HM2 := fun w => Match_any hO 254 (by decide) w
  rw [fre_cln hl] at HF2
  rw [ful_cln hl] at HC2
  rw [has_cln hl] at HM2
  rw [cln_cln hl] at HK2
  have hb := slots_both l 8
  generalize val (cln l 8) = m at HK HC2 HF2 HK2 HM2
  generalize val l = n at HC HF HK ⊢
  obtain ⟨f, hf⟩ : ∃ f, slots (fre l) 8 = f := ⟨_, rfl⟩
  rw [hf] at HF HF2 hb
  obtain ⟨q, hq⟩ : ∃ q, (slots (ful l) 8).length = q := ⟨_, rfl⟩
  rw [hq] at HC HC2 hb
  clear hf hq hl hO hn
  go_enter Try.func6, Try.ntmps6
  go_wp2_with fail
  refine (HK _).mono ?_
  rintro e w1 ⟨rfl, hb1⟩
  have H1 := step_below H0 hb1
  clear hb1
  go_wp2_with fail
  refine (HC _).mono ?_
  rintro e w1 ⟨rfl, rfl⟩
  go_wp2_with fail
  refine (HF _).mono ?_
  rintro e w2 ⟨hb2, a2, n2, c2, rfl, hO2⟩
  have H2 := step_below H1 hb2
  have hs : (q : Int) + (n2 : Int) = 8 := by have := hO2.len; omega
  clear hb2 hO2
  go_wp2_with fail
  refine (HC2 _).mono ?_
  rintro e w2 ⟨rfl, rfl⟩
  go_wp2_with fail
  refine (HC _).mono ?_
  rintro e w2 ⟨rfl, rfl⟩
  go_wp2_with fail
  refine (HM2 _).mono ?_
  rintro e w3 ⟨hb3, a3, n3, c3, rfl, hO3⟩
  have H3 := step_below H2 hb3
  have hn3 : n3 = 0 := hO3.len.symm
  subst hn3
  clear hb3 hO3
  go_wp2_with fail
  refine (HF2 _).mono ?_
  rintro e w4 ⟨hb4, a4, n4, c4, rfl, hO4⟩
  have H4 := step_below H3 hb4
  have HO4 : Hid (OwnI w4 w3.heap.size a4 n4 c4 f) := hO4
  clear hb4 hO4
  go_wp2_with fail
  refine (HF _).mono ?_
  rintro e w5 ⟨hb5, a5, n5, c5, rfl, hO5⟩
  have H5 := step_below H4 hb5
  have hn5 : n5 = n4 := hO5.len.symm.trans HO4.out.len
  subst hn5
  have HR := hO5.rd
  have HR' := (HO4.out.keep hb5).rd
  have HSm := Same_any a4 a5 n5 c4 c5 f w5 HR' HR
  clear hb5 hO5 HR HR'
  go_wp2_with fail
  refine HSm.mono ?_
  rintro e w6 ⟨rfl, hb6⟩
  have H6 := step_below H5 hb6
  clear hb6 HSm
  go_wp2_with fail
  refine (HK2 _).mono ?_
  rintro e w7 ⟨rfl, hb7⟩
  have H7 := step_below H6 hb7
  clear hb7
  go_wp2_with fail
  refine (HKn _).mono ?_
  rintro e w8 ⟨rfl, hb8⟩
  have H8 := step_below H7 hb8
  clear hb8
  go_wp2
  go_ret
  exact ⟨rfl, H8.out⟩
end Go.Proofs.Ytmhpaoclbkjohaa
