/-
  Put of a key that is there; Delete.
-/
import Derived.Test.YtejnmikbbnckeaaDc5
namespace Go.Proofs.Ytejnmikbbnckeaa
open Go.RowKit Go.PlainAid

theorem Dct.siz {w : World} {B d x : Nat} {D : Dg} (h : Dct w B d x D) : ∀ e ∈ D.es, e.1.size ≤ maxLen := by
  intro e he
  obtain ⟨f, hf, he⟩ := List.mem_flatMap.1 he
  obtain ⟨t, ht, he⟩ := List.mem_flatMap.1 he
  exact ((h.leaf f hf).tab t ht).siz e he
/-- The dict's own block is none of a leaf's. -/
theorem Dct.apart {w : World} {B d x : Nat} {D : Dg} (h : Dct w B d x D) {f : Lf} (hf : f ∈ D.L) : d ∉ f.fp := by
  intro hd
  have := (List.nodup_cons.1 h.nod).1
  exact this (List.mem_cons_of_mem _ (mem_fpL hf hd))

set_option maxHeartbeats 4000000 in
theorem PutD_old (B d x : Nat) (D : Dg) (k : ByteArray) (u v : Int) (w : World) (hD : Dct w B d x D) (hk : (k, u) ∈ D.es) :
    Calls Try.prog 13 #[ptr d, .string k, .int .i64 v] w fun e w' => e = .returned (.int .i64 0) ∧ ∃ D', Turn w w' B d x D D' ∧ D'.g = D.g ∧ D'.sh = D.sh ∧ ∃ A C, D.es = A ++ (k, u) :: C ∧ D'.es = A ++ (k, v) :: C := by
  have hks := hD.siz _ hk
  obtain ⟨La, f, Lc, eL, hi, h2, h3⟩ := hD.parts (hsh x k)
  have hf : f ∈ D.L := by rw [eL]; simp
  have hkf : (k, u) ∈ f.es := (hD.mem eL h2 h3).1 hk
  have HKf : Hid ((k, u) ∈ f.es) := hkf
  have HD : Hid (Dct w B d x D) := hD
  have HeL : Hid (D.L = La ++ f :: Lc) := eL
  have Hf : Hid (f ∈ D.L) := hf
  have hc := hD.cseed
  have HOf := fun w => Of_hsh x k w hks hD.seed
  have HLf := fun w hD => leafOf_any B d x D f (hsh x k) w hD hf hi (hsh_lt x k)
  have HHo := fun w hL => holder_yes B x f k w hL hks (List.mem_map.2 ⟨_, hkf, rfl⟩)
  have HKS : Hid (k.size ≤ maxLen) := hks
  generalize hsh x k = h at HOf HLf
  clear hD hk hks hi h2 h3 eL hf hkf
  go_enter Try.func13, Try.ntmps13
  go_wp2_with fail
  refine (HOf _).mono ?_
  rintro e w ⟨rfl, rfl⟩
  go_wp2_with fail
  refine (HLf _ HD.out).mono ?_
  rintro e w1 ⟨rfl, hb1⟩
  have HB1 : Hid (Below w.heap.size w w1) := hb1
  have hHo := HHo _ ((HD.out.keep hb1).leaf f Hf.out)
  clear HOf HLf HHo hb1
  go_wp2_with fail
  refine hHo.mono ?_
  rintro e w2 ⟨hb2, t, rfl, htm, hk2⟩
  have HB2 := step_below HB1 hb2
  have HL2 : Hid (Leaf w2 B x f) := (HD.out.keep HB2.out).leaf f Hf.out
  have Htm : Hid (t ∈ f.ts) := htm
  have hP := Put_old _ _ _ _ _ _ k v _ (HL2.out.tab t htm) HKS.out hk2
  clear hb2 htm hk2 hHo HB1
  go_wp2_with fail
  refine hP.mono ?_
  rintro e w3 ⟨rfl, hm3, z3, hT3, a3, c3, u3, hz, hz3⟩
  have HR : Hid (∃ D', Turn w w3 B d x D D' ∧ D'.g = D.g ∧ D'.sh = D.sh ∧ ∃ A C, D.es = A ++ (k, u) :: C ∧ D'.es = A ++ (k, v) :: C) := by
    obtain ⟨pre, post, ets⟩ := List.append_of_mem Htm.out
    have hu : u3 = u := by
      refine val_one HL2.out.key (k := k) ?_ HKf.out
      refine List.mem_flatMap.2 ⟨t, Htm.out, ?_⟩
      show _ ∈ ents t.z
      rw [hz]; simp
    subst hu
    have e1 : f.es = (tsEs pre ++ a3) ++ (k, u3) :: (c3 ++ tsEs post) := by
      unfold Lf.es
      rw [ets, tsEs_append, tsEs_cons]
      unfold Tb.es
      rw [hz]
      simp
    have e2 : tsEs (pre ++ ⟨t.p, t.b, t.G, z3⟩ :: post) = (tsEs pre ++ a3) ++ (k, v) :: (c3 ++ tsEs post) := by
      rw [tsEs_append, tsEs_cons]
      unfold Tb.es
      rw [hz3]
      simp
    have hkn : (keysOf (tsEs (pre ++ ⟨t.p, t.b, t.G, z3⟩ :: post))).Nodup := by
      have := HL2.out.key
      rw [e1] at this
      rw [e2]
      simpa [keysOf] using this
    obtain ⟨k1, k2, k3⟩ := HL2.out.turn ets (Stay.of_moves hm3) hT3 (.inl rfl) hkn
    have hG : Grew w2 w3 B x f { f with ts := pre ++ ⟨t.p, t.b, t.G, z3⟩ :: post } := ⟨k1, k3, k2, rfl, rfl, rfl⟩
    have hD2 := HD.out.keep HB2.out
    have el : (esL (La ++ { f with ts := pre ++ ⟨t.p, t.b, t.G, z3⟩ :: post } :: Lc)).length = D.es.length := by
      unfold Dg.es
      rw [HeL.out, esL_append, esL_append, esL_cons, esL_cons, e1]
      simp only [Lf.es, e2]
      simp
    have hT := hD2.turn HeL.out hG (w'' := w3) (by rw [el, k3.block d hD2.lt (hD2.apart Hf.out)]; exact hD2.blk) (Stay.of_below (Below.refl _ _) _) ?_ ?_ ?_ (by rw [el]; exact hD2.le)
    · refine ⟨_, hT.first HB2.out, rfl, ?_, esL La ++ (tsEs pre ++ a3), (c3 ++ tsEs post) ++ esL Lc, ?_, ?_⟩
      · unfold Dg.sh shL
        rw [HeL.out, List.map_append, List.map_append]
        rfl
      · unfold Dg.es
        rw [HeL.out, esL_append, esL_cons, e1]
        simp
      · show esL _ = _
        rw [esL_append, esL_cons]
        show esL La ++ (tsEs _ ++ _) = _
        rw [e2]
        simp
    · intro e he
      have he2 : e ∈ tsEs (pre ++ ⟨t.p, t.b, t.G, z3⟩ :: post) := he
      rw [e2] at he2
      have ho := HD.out.own f Hf.out
      rw [e1] at ho
      rcases List.mem_append.1 he2 with he2 | he2
      · exact ho e (List.mem_append.2 (.inl he2))
      · rcases List.mem_cons.1 he2 with rfl | he2
        · exact ho (k, u3) (by simp)
        · exact ho e (List.mem_append.2 (.inr (List.mem_cons_of_mem _ he2)))
    · intro hl
      have := HD.out.one f Hf.out hl
      rw [ets] at this
      simp at this ⊢
      omega
    · rcases HD.out.ful f Hf.out with h1 | h1
      · refine .inl ?_
        rw [ets] at h1
        simp at h1 ⊢
        omega
      · refine .inr fun y hy => ?_
        rcases List.mem_append.1 hy with hy | hy
        · exact h1 y (by rw [ets]; simp [hy])
        · rcases List.mem_cons.1 hy with rfl | hy
          · show 0 < (ents z3).length
            rw [hz3, List.length_append, List.length_cons]; omega
          · exact h1 y (by rw [ets]; simp [hy])
  clear hm3 hT3 hz hz3 hP
  go_wp2
  go_ret
  exact ⟨rfl, HR.out⟩

theorem DeleteD_no (B d x : Nat) (D : Dg) (k : ByteArray) (w : World) (hD : Dct w B d x D) (hks : k.size ≤ maxLen) (hk : k ∉ keysOf D.es) :
    Calls Try.prog 29 #[ptr d, .string k] w fun e w' => e = .returned (.bool false) ∧ Below w.heap.size w w' := by
  obtain ⟨La, f, Lc, eL, hi, h2, h3⟩ := hD.parts (hsh x k)
  have hf : f ∈ D.L := by rw [eL]; simp
  have HD : Hid (Dct w B d x D) := hD
  have Hf : Hid (f ∈ D.L) := hf
  have hc := hD.cseed
  have HOf := fun w => Of_hsh x k w hks hD.seed
  have HLf := fun w hD => leafOf_any B d x D f (hsh x k) w hD hf hi (hsh_lt x k)
  have HRe := fun w hL => remove_no B x f k w hL hks (fun h => hk ((hD.memk eL h2 h3).2 h))
  generalize hsh x k = h at HOf HLf
  clear hD hk hks hi h2 h3 eL hf
  go_enter Try.func29, Try.ntmps29
  go_wp2_with fail
  refine (HOf _).mono ?_
  rintro e w ⟨rfl, rfl⟩
  go_wp2_with fail
  refine (HLf _ HD.out).mono ?_
  rintro e w1 ⟨rfl, hb1⟩
  have HB1 : Hid (Below w.heap.size w w1) := hb1
  have hRe := HRe _ ((HD.out.keep hb1).leaf f Hf.out)
  clear HOf HLf HRe hb1
  go_wp2_with fail
  refine hRe.mono ?_
  rintro e w2 ⟨rfl, hb2⟩
  have HB2 := step_below HB1 hb2
  clear hb2 hRe
  go_wp2
  go_ret
  exact ⟨rfl, HB2.out⟩

set_option maxHeartbeats 4000000 in
theorem DeleteD_yes (B d x : Nat) (D : Dg) (k : ByteArray) (w : World) (hD : Dct w B d x D) (hk : k ∈ keysOf D.es) :
    Calls Try.prog 29 #[ptr d, .string k] w fun e w' => e = .returned (.bool true) ∧ ∃ D', Turn w w' B d x D D' ∧ D'.g = D.g ∧ D'.sh = D.sh ∧ ∃ u, D.es.Perm ((k, u) :: D'.es) := by
  obtain ⟨⟨k', u0⟩, hku, rfl⟩ := List.mem_map.1 hk
  have hks := hD.siz _ hku
  obtain ⟨La, f, Lc, eL, hi, h2, h3⟩ := hD.parts (hsh x k')
  have hf : f ∈ D.L := by rw [eL]; simp
  have HD : Hid (Dct w B d x D) := hD
  have HeL : Hid (D.L = La ++ f :: Lc) := eL
  have Hf : Hid (f ∈ D.L) := hf
  have hc := hD.cseed
  have HOf := fun w => Of_hsh x k' w hks hD.seed
  have HLf := fun w hD => leafOf_any B d x D f (hsh x k') w hD hf hi (hsh_lt x k')
  have HRe := fun w hL => remove_yes B x f k' w hL hks ((hD.memk eL h2 h3).1 hk)
  generalize hsh x k' = h at HOf HLf
  clear hD hk hks hi h2 h3 eL hf hku
  go_enter Try.func29, Try.ntmps29
  go_wp2_with fail
  refine (HOf _).mono ?_
  rintro e w ⟨rfl, rfl⟩
  go_wp2_with fail
  refine (HLf _ HD.out).mono ?_
  rintro e w1 ⟨rfl, hb1⟩
  have HB1 : Hid (Below w.heap.size w w1) := hb1
  have hRe := HRe _ ((HD.out.keep hb1).leaf f Hf.out)
  clear HOf HLf HRe hb1
  go_wp2_with fail
  refine hRe.mono ?_
  rintro e w2 ⟨rfl, f', hG, ⟨u, hp⟩, hone, hful⟩
  have hD1 := HD.out.keep HB1.out
  have hblk : w2.heap[d]? = w1.heap[d]? := hG.stay.block d hD1.lt (hD1.apart Hf.out)
  have hc2 : w2.cell? ⟨d, 1, none⟩ = some (.int .i64 (D.es.length : Nat)) := by rw [World.cell?_of_block hblk]; exact hD1.ccnt
  have hf2 : w2.frozen? ⟨d, 1, none⟩ = false := by have := hD1.blk; rw [← hblk] at this; simp [World.frozen?, this]
  have hPm : D.es.Perm ((k', u) :: esL (La ++ f' :: Lc)) := by
    unfold Dg.es
    rw [HeL.out, esL_append, esL_append, esL_cons, esL_cons]
    refine (List.Perm.append_left _ (hp.append_right _)).trans ?_
    exact List.perm_middle
  have hlen : (esL (La ++ f' :: Lc)).length + 1 = D.es.length := by rw [hPm.length_eq]; rfl
  have hle := HD.out.le
  have HR : Hid (∃ D', Turn w (w2.setCell ⟨d, 1, none⟩ (.int .i64 ((esL (La ++ f' :: Lc)).length : Nat))) B d x D D' ∧ D'.g = D.g ∧ D'.sh = D.sh ∧ ∃ u, D.es.Perm ((k', u) :: D'.es)) := by
    have hT := hD1.turn HeL.out hG (w'' := w2.setCell ⟨d, 1, none⟩ (.int .i64 ((esL (La ++ f' :: Lc)).length : Nat))) (by have := hD1.blk; rw [← hblk] at this; rw [heap_set this]; rfl) Stay.set ?_ ?_ ?_ (by omega)
    · refine ⟨_, hT.first HB1.out, rfl, ?_, u, hPm⟩
      have : f'.pt = f.pt := by unfold Lf.pt; rw [hG.l, hG.q]
      unfold Dg.sh shL
      rw [HeL.out, List.map_append, List.map_append, List.map_cons, List.map_cons, this]
    · intro e he
      exact HD.out.own f Hf.out e (hp.mem_iff.2 (List.mem_cons_of_mem _ he))
    · intro hl
      exact hone (HD.out.one f Hf.out hl)
    · exact hful (HD.out.ful f Hf.out)
  generalize hn : (esL (La ++ f' :: Lc)).length = n at hlen HR
  generalize D.es.length = m at hlen hc2 hle
  have hnz : (m : Int) - 1 = (n : Nat) := by omega
  clear hG hp hone hful hD1 hblk hPm hRe hn
  go_wp2
  go_ret
  exact ⟨rfl, HR.out⟩
end Go.Proofs.Ytejnmikbbnckeaa
