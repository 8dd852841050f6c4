/-
  DictDeletes: a dict that is filled, emptied and filled again.
-/
import Derived.Test.YtejnmikbbnckeaaKn
namespace Go.Proofs.Ytejnmikbbnckeaa
open Go.RowKit Go.PlainAid

/-- The first m names, and what they have. -/
def nms (f : Nat → Int) (m : Nat) : List En := (List.range m).map fun i => (nm i, f i)
theorem nms_len (f : Nat → Int) (m : Nat) : (nms f m).length = m := by simp [nms]
theorem nms_step (f : Nat → Int) (m : Nat) : nms f (m + 1) = nms f m ++ [(nm m, f m)] := by unfold nms; rw [List.range_succ, List.map_append]; rfl
theorem nms_keys (f : Nat → Int) (m : Nat) : keysOf (nms f m) = (List.range m).map nm := by unfold nms keysOf; rw [List.map_map]; rfl
theorem nms_new (f : Nat → Int) {m : Nat} (hm : m < 456976) : nm m ∉ keysOf (nms f m) := by
  rw [nms_keys]
  intro h
  obtain ⟨i, hi, e⟩ := List.mem_map.1 h
  rw [List.mem_range] at hi
  have := nm_inj (by omega) hm e
  omega
theorem nms_mem (f : Nat → Int) {m i : Nat} (h : i < m) : (nm i, f i) ∈ nms f m := List.mem_map.2 ⟨i, List.mem_range.2 h, rfl⟩
theorem nms_drop (f : Nat → Int) {m i : Nat} (h : i < m) : (nms f m).drop i = (nm i, f i) :: (nms f m).drop (i + 1) := by
  rw [List.drop_eq_getElem_cons (by rw [nms_len]; exact h)]
  congr 1
  simp [nms]
theorem nms_gone (f : Nat → Int) {m i : Nat} (h : i < m) (hm : m < 456976) : nm i ∉ keysOf ((nms f m).drop (i + 1)) := by
  intro hk
  obtain ⟨e, he, h1⟩ := List.mem_map.1 hk
  obtain ⟨j, hj, h2⟩ := List.getElem_of_mem he
  rw [List.length_drop, nms_len] at hj
  rw [List.getElem_drop] at h2
  have h3 : e.1 = nm (i + 1 + j) := by rw [← h2]; simp [nms]
  rw [h3] at h1
  have := nm_inj (by omega) (by omega) h1
  omega
/-- Filled with fewer keys than it had, a dict has room. -/
theorem refill {g x i k : Nat} {sh : List Pt} (hS : Shp g sh) (hi : i < k) (hr : ∀ s ∈ sh, s.1 < 16 → cntIn x ((List.range k).map nm) s ≤ 112) : grow x ((List.range i).map nm) (hsh x (nm i)) 17 g sh = (g, sh) := by
  refine grow_room hS fun s hs hin hl => ?_
  have h1 := hr s hs hl
  have h2 : (List.range k).map nm = (List.range i).map nm ++ ([nm i] ++ ((List.range k).map nm).drop (i + 1)) := by
    have e1 : ((List.range k).map nm).take i = (List.range i).map nm := by rw [← List.map_take, List.take_range, Nat.min_eq_left (by omega)]
    have e2 : ((List.range k).map nm).drop i = nm i :: ((List.range k).map nm).drop (i + 1) := by
      rw [List.drop_eq_getElem_cons (by simp; exact hi)]
      congr 1
      simp
    conv => lhs; rw [← List.take_append_drop i ((List.range k).map nm), e1, e2]
    rfl
  rw [h2, cntIn_append, cntIn_append] at h1
  have h3 : cntIn x [nm i] s = 1 := by unfold cntIn; rw [List.filter_cons_of_pos (p := fun k => isIn s (hsh x k)) hin]; rfl
  omega
abbrev up (i : Nat) : Int := (i : Int)
abbrev dn (i : Nat) : Int := -(i : Int)

set_option maxRecDepth 100000 in
set_option maxHeartbeats 8000000 in
theorem deletes_any (x : Nat) (n : Int) (w : World) (hx : x < 18446744073709551616) :
    Calls Try.prog 8 #[.int .u64 x, .int .i64 n] w fun e w' => e = .returned (.bool true) ∧ Below w.heap.size w w' := by
  have HN := fun w => DNew x w hx
  have HKn := known_any
  have HW1 := fun w => Within_any n 0 400 w (by decide) (by decide) (by decide)
  go_enter Try.func8, Try.ntmps8
  go_wp2_with fail
  refine (HN _).mono ?_
  rintro e w1 ⟨hb1, d, rfl, hD1⟩
  have HB1 : Hid (Below w.heap.size w w1) := hb1
  have HD1 : Hid (∃ g sh, Dic w1 w.heap.size d x g sh (nms up 0)) := ⟨_, _, hD1⟩
  clear hb1 hD1 HN
  go_wp2_with fail
  refine (HW1 _).mono ?_
  rintro e w1 ⟨rfl, z, hz0, hz1, rfl⟩
  obtain ⟨k, rfl⟩ : ∃ k : Nat, z = (k : Int) := ⟨z.toNat, by omega⟩
  have hk : k ≤ 400 := by omega
  clear HW1 hz0 hz1
  go_wp2
  go_loopg [7] k (fun q iv wr => ∃ i : Nat, i + q = k ∧ iv = .int .i64 i ∧ Hid (∃ g sh, Dic wr w.heap.size d x g sh (nms up i)) ∧ Hid (Below w.heap.size w wr))
  case atStart => exact ⟨0, by omega, rfl, HD1, HB1⟩
  case round =>
    clear HD1 HB1
    obtain ⟨i, hi, rfl, HD, HB⟩ := hrel
    by_cases h8 : (i : Int) < k
    · have hNm := fun w => name_any i w (by omega)
      have HNs : Hid (nms up (i + 1) = nms up i ++ [(nm i, (i : Int))]) := nms_step up i
      obtain ⟨g, sh, hD⟩ := HD.out
      have hP := DPut_new _ _ _ _ _ (nms up i) (nm i) i _ hD (nm_max i) (nms_new up (by omega)) (by rw [nms_len]; omega)
      generalize nm i = ky at hNm hP HNs
      clear HKn hD
      go_wp2_with fail
      refine (hNm _).mono ?_
      rintro e wr ⟨rfl, rfl⟩
      go_wp2_with fail
      refine hP.mono ?_
      rintro e w2 ⟨rfl, hb2, -, hD2⟩
      have HD2 : Hid (∃ g sh, Dic w2 w.heap.size d x g sh (nms up (i + 1))) := ⟨_, _, by rw [HNs.out]; exact hD2⟩
      have HB2 : Hid (Below w.heap.size w w2) := HB.out.trans hb2
      clear hb2 hD2 hP hNm
      go_wp2
      go_roundg (gk - 1)
      case measure => omega
      case rel => exact ⟨i + 1, by omega, by go_num, HD2, HB2⟩
    · have : i = k := by omega
      subst this
      clear hi h8
      obtain ⟨g, sh, hD⟩ := HD.out
      have hg16 := hD.shp.le
      have HS : Hid (Shp g sh) := hD.shp
      have HRm : Hid (∀ s ∈ sh, s.1 < 16 → cntIn x ((List.range i).map nm) s ≤ 112) := fun s hs hl => by have := hD.room hs hl; rw [nms_keys] at this; exact this
      have HD0 : Hid (Dic wr w.heap.size d x g sh ((nms up i).drop 0)) := hD
      have hDep := DDepth _ d x g sh (nms up i) wr hD
      have hTab := DTables _ d x g sh (nms up i) wr hD
      clear hD HD
      go_wp2_with fail
      refine hDep.mono ?_
      rintro e wr ⟨rfl, rfl⟩
      go_wp2_with fail
      refine hTab.mono ?_
      rintro e w3 ⟨rfl, hb3⟩
      have HB3 := step_below HB hb3
      have HD3 : Hid (Dic w3 w.heap.size d x g sh ((nms up i).drop 0)) := HD0.out.keep hb3
      clear hb3 hDep hTab HB HD0
      generalize hT : sh.length = T
      have HTl : Hid (sh.length = T) := hT
      clear hT
      go_wp2
      go_loopg [10] i (fun q jv wr => ∃ j : Nat, j + q = i ∧ jv = .int .i64 j ∧ Hid (Dic wr w.heap.size d x g sh ((nms up i).drop j)) ∧ Hid (Below w.heap.size w wr))
      case atStart => exact ⟨0, by omega, rfl, HD3, HB3⟩
      case round =>
        clear HD3 HB3
        obtain ⟨j, hj, rfl, HD, HB⟩ := hrel
        by_cases h9 : (j : Int) < i
        · have hNm := fun w => name_any j w (by omega)
          have hD := HD.out
          rw [nms_drop up (by omega)] at hD
          have hDl := DDelete_yes _ d x g sh [] ((nms up i).drop (j + 1)) (nm j) j wr hD
          rw [List.nil_append] at hDl
          have HDn := fun B w hD => DDelete_no B d x g sh ((nms up i).drop (j + 1)) (nm j) w hD (nm_max j) (nms_gone up (by omega) (by omega))
          generalize nm j = ky at hNm hDl HDn
          clear hD HKn
          go_wp2_with fail
          refine (hNm _).mono ?_
          rintro e wr ⟨rfl, rfl⟩
          go_wp2_with fail
          refine hDl.mono ?_
          rintro e w4 ⟨rfl, hb4, -, hD4⟩
          have HD4 : Hid (Dic w4 w.heap.size d x g sh ((nms up i).drop (j + 1))) := hD4
          have HB4 : Hid (Below w.heap.size w w4) := HB.out.trans hb4
          have hDn := HDn _ _ hD4
          clear hb4 hD4 hDl HDn HB HD
          go_wp2_with fail
          refine (hNm _).mono ?_
          rintro e w4 ⟨rfl, rfl⟩
          go_wp2_with fail
          refine hDn.mono ?_
          rintro e w5 ⟨rfl, hb5⟩
          have HD5 : Hid (Dic w5 w.heap.size d x g sh ((nms up i).drop (j + 1))) := HD4.out.keep hb5
          have HB5 := step_below HB4 hb5
          clear hb5 hDn hNm
          go_wp2
          go_roundg (gk - 1)
          case measure => omega
          case rel => exact ⟨j + 1, by omega, by go_num, HD5, HB5⟩
        · have HDz : Hid (Dic wr w.heap.size d x g sh (nms dn 0)) := by
            have := HD.out
            rw [List.drop_of_length_le (by rw [nms_len]; omega)] at this
            exact this
          have hLe := DLen _ d x g sh (nms dn 0) wr HDz.out
          replace hLe : Calls Try.prog 31 #[ptr d] wr fun e w' => e = .returned (.int .i64 0) ∧ w' = wr := hLe
          have hDep := DDepth _ d x g sh (nms dn 0) wr HDz.out
          have hTab := DTables _ d x g sh (nms dn 0) wr HDz.out
          have HKy := fun B w hD => DKeys B d x g sh (nms dn 0) w hD
          rw [HTl.out] at hTab
          clear HD
          go_wp2_with fail
          refine hLe.mono ?_
          rintro e wr ⟨rfl, rfl⟩
          go_wp2_with fail
          refine hDep.mono ?_
          rintro e wr ⟨rfl, rfl⟩
          go_wp2_with fail
          refine hTab.mono ?_
          rintro e w4 ⟨rfl, hb4⟩
          have HD4 : Hid (Dic w4 w.heap.size d x g sh (nms dn 0)) := HDz.out.keep hb4
          have HB4 := step_below HB hb4
          have hKy := HKy _ _ HD4.out
          clear hb4 hLe hDep hTab HKy HDz HB
          go_wp2_with fail
          refine hKy.mono ?_
          rintro e w5 ⟨hb5, a5, n5, c5, ks5, rfl, hO5, hp5⟩
          obtain rfl : n5 = 0 := by
            have h1 := OwnS.len hO5
            have h2 := hp5.length_eq
            have h3 : (keysOf (nms dn 0)).length = 0 := rfl
            omega
          have HD5 : Hid (Dic w5 w.heap.size d x g sh (nms dn 0)) := HD4.out.keep hb5
          have HB5 := step_below HB4 hb5
          clear hb5 hKy hO5 hp5 HD4 HB4
          go_wp2
          go_loopg [11] i (fun q jv wr => ∃ j : Nat, j + q = i ∧ jv = .int .i64 j ∧ Hid (Dic wr w.heap.size d x g sh (nms dn j)) ∧ Hid (Below w.heap.size w wr))
          case atStart => exact ⟨0, by omega, rfl, HD5, HB5⟩
          case round =>
            clear HD5 HB5
            obtain ⟨j, hj, rfl, HD, HB⟩ := hrel
            by_cases h9 : (j : Int) < i
            · have hNm := fun w => name_any j w (by omega)
              have hP := DPut_new _ d x g sh (nms dn j) (nm j) (-(j : Int)) _ HD.out (nm_max j) (nms_new dn (by omega)) (by rw [nms_len]; omega)
              rw [nms_keys, refill HS.out (by omega) HRm.out] at hP
              have HNs : Hid (nms dn (j + 1) = nms dn j ++ [(nm j, -(j : Int))]) := nms_step dn j
              generalize nm j = ky at hNm hP HNs
              clear HKn
              go_wp2_with fail
              refine (hNm _).mono ?_
              rintro e wr ⟨rfl, rfl⟩
              go_wp2_with fail
              refine hP.mono ?_
              rintro e w4 ⟨rfl, hb4, -, hD4⟩
              have HD4 : Hid (Dic w4 w.heap.size d x g sh (nms dn (j + 1))) := by show Dic _ _ _ _ _ _ _; rw [HNs.out]; exact hD4
              have HB4 : Hid (Below w.heap.size w w4) := HB.out.trans hb4
              clear hb4 hD4 hP HB HD hNm
              go_wp2
              go_roundg (gk - 1)
              case measure => omega
              case rel => exact ⟨j + 1, by omega, by go_num, HD4, HB4⟩
            · have : j = i := by omega
              subst this
              clear hj h9
              go_wp2
              go_loopg [12, 13, 14] j (fun q iv vv bv wr => ∃ i : Nat, i + q = j ∧ iv = .int .i64 i ∧ Hid (Dic wr w.heap.size d x g sh (nms dn j)) ∧ Hid (Below w.heap.size w wr))
              case atStart => exact ⟨0, by omega, rfl, HD, HB⟩
              case round =>
                clear HD HB
                obtain ⟨i, hi, rfl, HD, HB⟩ := hrel
                by_cases h9 : (i : Int) < j
                · have hNm := fun w => name_any i w (by omega)
                  have hG := DGet_some _ d x g sh (nms dn j) (nm i) (-(i : Int)) _ HD.out (nm_max i) (nms_mem dn (by omega))
                  generalize nm i = ky at hNm hG
                  clear HKn
                  go_wp2_with fail
                  refine (hNm _).mono ?_
                  rintro e wr ⟨rfl, rfl⟩
                  go_wp2_with fail
                  refine hG.mono ?_
                  rintro e w4 ⟨rfl, hb4⟩
                  have HD4 : Hid (Dic w4 w.heap.size d x g sh (nms dn j)) := HD.out.keep hb4
                  have HB4 := step_below HB hb4
                  clear hb4 hG HB HD hNm
                  go_wp2
                  go_roundg (gk - 1)
                  case measure => omega
                  case rel => exact ⟨i + 1, by omega, by go_num, HD4, HB4⟩
                · have hLe := DLen _ d x g sh (nms dn j) wr HD.out
                  rw [nms_len] at hLe
                  have hDep := DDepth _ d x g sh (nms dn j) wr HD.out
                  go_wp2_with fail
                  refine hLe.mono ?_
                  rintro e wr ⟨rfl, rfl⟩
                  go_wp2_with fail
                  refine hDep.mono ?_
                  rintro e wr ⟨rfl, rfl⟩
                  go_wp2_with fail
                  refine (HKn _).mono ?_
                  rintro e w6 ⟨rfl, hb6⟩
                  have HB6 := step_below HB hb6
                  clear hb6 hLe hDep
                  go_wp2
                  go_ret
                  exact ⟨rfl, HB6.out⟩
end Go.Proofs.Ytejnmikbbnckeaa
