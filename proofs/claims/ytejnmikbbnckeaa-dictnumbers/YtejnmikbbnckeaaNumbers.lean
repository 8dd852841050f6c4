/-
  DictNumbers: a dict of a thousand names, and the document's own beside it.
-/
import Derived.Test.YtejnmikbbnckeaaPl
import Derived.Test.YtejnmikbbnckeaaLawEnd
namespace Go.Proofs.Ytejnmikbbnckeaa
open Go.RowKit Go.PlainAid

theorem Shp.four {g : Nat} {sh : List Pt} (h : Shp g sh) (hg : g ≤ 2) : sh.length ≤ 4 := by
  have h1 : (sh.map (·.2)).Nodup := by
    unfold List.Nodup
    rw [List.pairwise_map]
    refine List.Pairwise.imp_of_mem ?_ h.dis
    intro a b ha hb hab e
    have h2 := hab a.2 (isIn_self (h.lt a ha).1)
    rw [e, isIn_self (h.lt b hb).1] at h2
    cases h2
  have h2 := nodup_le (n := 4) h1 (fun a ha => by
    obtain ⟨s, hs, rfl⟩ := List.mem_map.1 ha
    have h3 := h.lt s hs
    have h4 : 2 ^ s.1 ≤ 2 ^ 2 := Nat.pow_le_pow_right (by decide) (by omega)
    omega)
  rw [List.length_map] at h2
  exact h2
theorem esL_le : ∀ (L : List Lf), (∀ f ∈ L, f.es.length ≤ 112) → (esL L).length ≤ 112 * L.length
  | [], _ => by simp [esL]
  | f :: L, h => by
    have h1 := esL_le L (fun u hu => h u (by simp [hu]))
    have h2 := h f (by simp)
    unfold esL at h1 ⊢
    rw [List.flatMap_cons, List.length_append, List.length_cons]
    omega
/-- A thousand keys want a depth of three. -/
theorem deep3 {w : World} {B d x g : Nat} {sh : List Pt} {es : List En} (h : Dic w B d x g sh es) (he : es.length = 1000) : 3 ≤ g := by
  refine Nat.le_of_not_lt fun hg => ?_
  have h4 := h.shp.four (by omega)
  obtain ⟨D, h1, rfl, rfl, h5⟩ := h
  have h2 := esL_le D.L (fun f hf => by
    have hl := (h1.shp.lt f.pt (List.mem_map.2 ⟨f, hf, rfl⟩)).2
    obtain ⟨t, ht⟩ := List.length_eq_one_iff.1 (h1.one f hf (by unfold Lf.pt at hl; simp only at hl; omega))
    have hT := (h1.leaf f hf).tab t (by rw [ht]; simp)
    have e2 : f.es = ents t.z := by unfold Lf.es; rw [ht, tsEs_one]; rfl
    rw [e2]
    have := hT.inv.room
    have := hT.inv.grp.le
    omega)
  have h3 : D.sh.length = D.L.length := List.length_map ..
  have h6 := h5.length_eq
  have h7 : (esL D.L).length = D.es.length := rfl
  omega

set_option maxRecDepth 100000 in
set_option maxHeartbeats 8000000 in
theorem numbers_any (w : World) : Calls Try.prog 3 #[] w fun e w' => e = .returned (.bool true) ∧ Below w.heap.size w w' := by
  have HN1 := DNew 7 w (by decide)
  have HN2 := fun w => RNew 7 w (by decide)
  have HKn := known_any
  go_enter Try.func3, Try.ntmps3
  go_wp2_with fail
  refine HN1.mono ?_
  rintro e w1 ⟨hb1, d, rfl, hD1⟩
  have HB1 : Hid (Below w.heap.size w w1) := hb1
  have HD1 : Hid (Dic w1 w.heap.size d 7 0 [(0, 0)] []) := hD1
  clear hb1 hD1 HN1
  go_wp2_with fail
  refine (HN2 _).mono ?_
  rintro e w2 ⟨hb2, r, pr, rfl, hR2⟩
  have HB2 := step_below HB1 hb2
  have HS2 : Hid (Sx w2 w.heap.size d w1.heap.size r 7 (nms up 0)) := Sx.start HD1.out hb2 hR2
  have HBB : Hid (w.heap.size ≤ w1.heap.size) := HB1.out.size
  generalize w1.heap.size = B' at HS2 HBB
  clear hb2 hR2 HN2 HB1 HD1
  go_wp2
  go_loopg [3] 1000 (fun q iv wr => ∃ i : Nat, i + q = 1000 ∧ iv = .int .i64 i ∧ Hid (Sx wr w.heap.size d B' r 7 (nms up i)) ∧ Hid (Below w.heap.size w wr))
  case atStart => exact ⟨0, by omega, rfl, HS2, HB2⟩
  case round =>
    clear HS2 HB2
    obtain ⟨i, hi, rfl, HS, HB⟩ := hrel
    by_cases hlt : (i : Int) < 1000
    · have HNm : ∀ w, Calls Try.prog 12 #[.int .i64 (i : Int)] w fun e w' => e = .returned (.string (nm i)) ∧ w' = w := fun w => name_any i w (by omega)
      have hks : (nm i).size ≤ maxLen := by have := nm_size i; unfold maxLen; omega
      have hll := nms_len up i
      have hP1 := Sx.rput w.heap.size d B' r 7 (nms up i) (nm i) (up i) wr HS.out HBB.out hks (by omega)
      have hst : putE (nms up i) (nm i) (up i) = nms up (i + 1) := by rw [putE_new (nms_new up (by omega)), nms_step]
      have HP2 : ∀ w', Sm w' w.heap.size d B' r 7 (nms up i) (nm i) (up i) → Calls Try.prog 13 #[ptr d, .string (nm i), .int .i64 (i : Int)] w' fun e w'' => e = .returned (.int .i64 0) ∧ Sx w'' w.heap.size d B' r 7 (nms up (i + 1)) ∧ Below w.heap.size w' w'' := fun w' h => by
        have := Sm.put _ d B' r 7 (nms up i) (nm i) (up i) w' h hks (by omega)
        rw [hst] at this
        exact this
      have HT : ∀ w', Sx w' w.heap.size d B' r 7 (nms up (i + 1)) → Calls Try.prog 14 #[ptr d, ptr r, .int .u64 (i : Int)] w' fun e w'' => e = .returned (.bool true) ∧ Below w'.heap.size w' w'' := fun w' h => Sx.tells _ d B' r 7 _ i w' h (by omega) (by rw [nms_len]; omega)
      have hwr : IntKind.u64.wrap (i : Int) = i := by rw [IntKind.wrap_u64]; omega
      generalize nm i = kk at HNm hP1 HP2
      clear hks hst
      go_wp2_with fail
      refine (HNm _).mono ?_
      rintro e wr ⟨rfl, rfl⟩
      go_wp2_with fail
      refine hP1.mono ?_
      rintro e w5 ⟨rfl, hM5, hb5⟩
      have hP2 := HP2 w5 hM5
      have HB5 : Hid (Below w.heap.size w w5) := HB.out.trans hb5
      clear hP1 hM5 hb5 HP2 HS HB
      go_wp2_with fail
      refine (HNm _).mono ?_
      rintro e w5 ⟨rfl, rfl⟩
      go_wp2_with fail
      refine hP2.mono ?_
      rintro e w6 ⟨rfl, hS6, hb6⟩
      have HS6 : Hid (Sx w6 w.heap.size d B' r 7 (nms up (i + 1))) := hS6
      have HB6 : Hid (Below w.heap.size w w6) := HB5.out.trans hb6
      have hT := HT w6 hS6
      clear hP2 hS6 hb6 HB5 HT HNm
      by_cases h97 : (i : Int).tmod 97 = 0
      · have h97b : ((i : Int).tmod 97 == 0) = true := by simpa using h97
        go_wp2_with fail
        refine hT.mono ?_
        rintro e w7 ⟨rfl, hb7⟩
        have HS7 : Hid (Sx w7 w.heap.size d B' r 7 (nms up (i + 1))) := HS6.out.keep hb7
        have HB7 := step_below HB6 hb7
        clear hb7 hT HS6 HB6
        go_wp2
        go_roundg (gk - 1)
        case measure => omega
        case rel => exact ⟨i + 1, by omega, by go_num, HS7, HB7⟩
      · have h97b : ((i : Int).tmod 97 == 0) = false := by simpa using h97
        clear hT
        go_wp2
        go_roundg (gk - 1)
        case measure => omega
        case rel => exact ⟨i + 1, by omega, by go_num, HS6, HB6⟩
    · obtain rfl : i = 1000 := by omega
      have HSc : ∀ w' (c : Nat) count, Sx w' w.heap.size d B' r 7 (nms up 1000) → c < 18446744073709551616 → Calls Try.prog 15 #[ptr d, ptr r, .int .u64 (c : Nat), .int .i64 count] w' fun e w'' => e = .returned (.bool true) ∧ Below w'.heap.size w' w'' := fun w' c count h hc => Sx.scans _ d B' r 7 _ c count w' h hc (by rw [nms_len]; decide)
      have HDp : ∀ w', Sx w' w.heap.size d B' r 7 (nms up 1000) → ∃ g : Nat, (3 : Int) ≤ g ∧ Calls Try.prog 16 #[ptr d] w' fun e w'' => e = .returned (.int .i64 (g : Nat)) ∧ w'' = w' := fun w' h => by
        obtain ⟨g, sh, h⟩ := h
        have := deep3 h.1 (nms_len up 1000)
        exact ⟨g, by omega, DDepth _ d 7 g sh _ w' h.1⟩
      generalize nms up 1000 = es at HS HSc HDp
      clear hlt
      go_wp2
      go_loopg [4] 9 (fun q cv wr => ∃ c : Nat, c + q = 9 ∧ cv = .int .u64 c ∧ Hid (Sx wr w.heap.size d B' r 7 es) ∧ Hid (Below w.heap.size w wr))
      case atStart => exact ⟨0, by omega, rfl, HS, HB⟩
      case round =>
        clear HS HB
        obtain ⟨c, hc, rfl, HS, HB⟩ := hrel
        by_cases hlt : (c : Int) < 9
        · have h3 := HSc wr c 10 HS.out (by omega)
          go_wp2_with fail
          refine h3.mono ?_
          rintro e w4 ⟨rfl, hb4⟩
          have HS4 : Hid (Sx w4 w.heap.size d B' r 7 es) := HS.out.keep hb4
          have HB4 := step_below HB hb4
          have h4 := HSc w4 c (-1) HS4.out (by omega)
          clear hb4 h3 HS HB
          go_wp2_with fail
          refine h4.mono ?_
          rintro e w5 ⟨rfl, hb5⟩
          have HS5 : Hid (Sx w5 w.heap.size d B' r 7 es) := HS4.out.keep hb5
          have HB5 := step_below HB4 hb5
          have h5 := HSc w5 c 5000 HS5.out (by omega)
          clear hb5 h4 HS4 HB4
          go_wp2_with fail
          refine h5.mono ?_
          rintro e w6 ⟨rfl, hb6⟩
          have HS6 : Hid (Sx w6 w.heap.size d B' r 7 es) := HS5.out.keep hb6
          have HB6 := step_below HB5 hb6
          clear hb6 h5 HS5 HB5
          go_wp2
          go_roundg (gk - 1)
          case measure => omega
          case rel => exact ⟨c + 1, by omega, by go_num, HS6, HB6⟩
        · obtain ⟨g, hg, hD⟩ := HDp wr HS.out
          go_wp2_with fail
          refine hD.mono ?_
          rintro e wr ⟨rfl, rfl⟩
          go_wp2_with fail
          refine (HKn _).mono ?_
          rintro e w7 ⟨rfl, hb7⟩
          have HB7 := step_below HB hb7
          clear hb7
          go_wp2
          go_ret
          exact ⟨rfl, HB7.out⟩
end Go.Proofs.Ytejnmikbbnckeaa
