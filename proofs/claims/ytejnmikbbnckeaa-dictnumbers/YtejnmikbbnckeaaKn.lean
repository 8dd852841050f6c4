/-
  The law's known; how much room a part has.
-/
import Derived.Test.YtejnmikbbnckeaaDic
namespace Go.Proofs.Ytejnmikbbnckeaa
open Go.RowKit Go.PlainAid

theorem grow_first (x h : Nat) : grow x [] h 17 0 [(0, 0)] = (0, [(0, 0)]) :=
  grow_no (a := []) (c := []) (l := 0) (q := 0) (isIn_iff.2 (by simp [Nat.mod_one])) (by simp) (by simp [cntIn])
theorem bkt_zero (x : Nat) (ks : List ByteArray) (c : Nat) : bkt x 0 ks c = ks := by
  unfold bkt
  rw [List.filter_eq_self]
  intro k _
  simp [Nat.mod_one]
theorem scan_zero (x : Nat) (ks : List ByteArray) (cnt n c : Nat) : scanP x 0 ks cnt (n + 1) [] c = (ks, 0) := by
  rw [scanP]
  have h : nxt 0 c = 0 := rfl
  rw [if_pos (.inl h), bkt_zero, h, List.nil_append]
/-- A part that is not as deep as can be has no more keys than a table has room for. -/
theorem Dic.room {w : World} {B d x g : Nat} {sh : List Pt} {es : List En} (h : Dic w B d x g sh es) {s : Pt} (hs : s ∈ sh) (hl : s.1 < 16) : cntIn x (keysOf es) s ≤ 112 := by
  obtain ⟨D, h1, rfl, rfl, h4⟩ := h
  obtain ⟨f, hf, rfl⟩ := List.mem_map.1 hs
  obtain ⟨La, Lc, e⟩ := List.append_of_mem hf
  rw [← cntIn_perm (h4.map (·.1)), h1.cnt_of e]
  obtain ⟨t, ht⟩ := List.length_eq_one_iff.1 (h1.one f hf hl)
  have hT := (h1.leaf f hf).tab t (by rw [ht]; simp)
  have e2 : f.es = ents t.z := by unfold Lf.es; rw [ht, tsEs_one]; rfl
  rw [e2]
  have := hT.inv.room
  have := hT.inv.grp.le
  omega
/-- Where there is room, nothing is split. -/
theorem grow_room {g x h n : Nat} {sh : List Pt} {ks : List ByteArray} (hS : Shp g sh) (hr : ∀ s ∈ sh, isIn s h = true → s.1 < 16 → cntIn x ks s < 112) : grow x ks h n g sh = (g, sh) := by
  obtain ⟨a, ⟨l, q⟩, c, rfl, h1, h2, h3⟩ := hS.parts h
  exact grow_no h1 h2 (fun hh => by have := hr (l, q) (by simp) h1 hh.1; have := hh.2; omega)
theorem cntIn_append (x : Nat) (a b : List ByteArray) (s : Pt) : cntIn x (a ++ b) s = cntIn x a s + cntIn x b s := by unfold cntIn; rw [List.filter_append, List.length_append]

abbrev aKey : ByteArray := ⟨#[97]⟩
set_option maxHeartbeats 4000000 in
theorem known_any (w : World) : Calls Try.prog 17 #[] w fun e w' => e = .returned (.bool true) ∧ Below w.heap.size w w' := by
  have HN := DNew 1 w (by decide)
  have HP := fun B d w hD => DPut_new B d 1 0 [(0, 0)] [] aKey 5 w hD (by decide) (by simp) (by decide)
  rw [show keysOf ([] : List En) = [] from rfl] at HP
  simp only [grow_first] at HP
  have HG := fun B d w hD => DGet_some B d 1 0 [(0, 0)] [(aKey, 5)] aKey 5 w hD (by decide) (by simp)
  have HS := fun B d w hD => DScan B d 1 0 [(0, 0)] [(aKey, 5)] 0 1 w hD (by decide)
  have hsc : scanP 1 0 (keysOf [(aKey, (5 : Int))]) (cntC 1) (10 * cntC 1) [] 0 = ([aKey], 0) := scan_zero 1 [aKey] 1 9 0
  simp only [hsc] at HS
  have HDe := fun B d w hD => DDepth B d 1 0 [(0, 0)] [(aKey, 5)] w hD
  have HTa := fun B d w hD => DTables B d 1 0 [(0, 0)] [(aKey, 5)] w hD
  have HLi := fun a cap a' cap' w hO hO' => Lists_one a a' cap cap' aKey w hO hO'
  clear hsc
  go_enter Try.func17, Try.ntmps17
  go_wp2_with fail
  refine HN.mono ?_
  rintro e w1 ⟨hb1, d, rfl, hD1⟩
  have HB1 : Hid (Below w.heap.size w w1) := hb1
  have HD1 : Hid (Dic w1 w.heap.size d 1 0 [(0, 0)] []) := hD1
  clear hb1 hD1 HN
  go_wp2_with fail
  refine (HP _ _ _ HD1.out).mono ?_
  rintro e w2 ⟨rfl, hb2, -, hD2⟩
  have HB2 : Hid (Below w.heap.size w w2) := HB1.out.trans hb2
  have HD2 : Hid (Dic w2 w.heap.size d 1 0 [(0, 0)] [(aKey, 5)]) := hD2
  clear hb2 hD2 HP HB1 HD1
  go_wp2_with fail
  refine (HG _ _ _ HD2.out).mono ?_
  rintro e w3 ⟨rfl, hb3⟩
  have HB3 := step_below HB2 hb3
  have HD3 : Hid (Dic w3 w.heap.size d 1 0 [(0, 0)] [(aKey, 5)]) := HD2.out.keep hb3
  clear hb3 HG HB2 HD2
  go_wp2_with fail
  refine (HS _ _ _ HD3.out).mono ?_
  rintro e w4 ⟨hb4, a, n, cp, ks, rfl, hO4, hp4⟩
  have hks : ks = [aKey] := List.perm_singleton.1 hp4
  subst hks
  obtain rfl : n = 1 := (OwnS.len hO4).symm
  have HO4 : Hid (OwnS w4 0 a 1 cp [aKey]) := OwnR.low hO4 (Nat.zero_le _)
  have HB4 := step_below HB3 hb4
  have HD4 : Hid (Dic w4 w.heap.size d 1 0 [(0, 0)] [(aKey, 5)]) := HD3.out.keep hb4
  clear hb4 HS HB3 HD3 hO4 hp4
  go_wp2_with fail
  refine (HDe _ _ _ HD4.out).mono ?_
  rintro e w4 ⟨rfl, rfl⟩
  go_wp2_with fail
  refine (HTa _ _ _ HD4.out).mono ?_
  rintro e w5 ⟨rfl, hb5⟩
  have HB5 := step_below HB4 hb5
  have HO5 : Hid (OwnS w5 0 a 1 cp [aKey]) := OwnR.keep HO4.out hb5
  clear hb5 HTa HDe HO4 HB4 HD4
  obtain ⟨w6, hw6⟩ : ∃ w6, w5.alloc (.cells #[.string aKey] 9) = w6 := ⟨_, rfl⟩
  obtain ⟨q, hq⟩ : ∃ q, w5.heap.size = q := ⟨_, rfl⟩
  have HB6' : Hid (Below w5.heap.size w5 w6) := by show Below _ _ _; rw [← hw6]; exact alloc_below w5 _
  have HO6 : Hid (OwnS w6 0 (some ⟨q, 0, none⟩) 1 1 [aKey]) := by
    show OwnS _ _ _ _ _ _
    rw [← hw6, ← hq]
    exact ⟨rfl, .inr ⟨w5.heap.size, 1, #[.string aKey], rfl, Nat.zero_le _, heap_alloc_new w5 _, Nat.le_refl _, by decide, rfl, rfl⟩⟩
  have HB6 := step_below HB5 HB6'.out
  have hLi := HLi _ _ _ _ w6 (OwnR.keep HO5.out HB6'.out) HO6.out
  clear HB6' HO5 HO6 HB5 HLi
  go_wp2_with fail
  refine hLi.mono ?_
  rintro e w7 ⟨rfl, hb7⟩
  have HB7 := step_below HB6 hb7
  clear hb7 hLi
  go_wp2
  go_ret
  exact ⟨rfl, HB7.out⟩
end Go.Proofs.Ytejnmikbbnckeaa
