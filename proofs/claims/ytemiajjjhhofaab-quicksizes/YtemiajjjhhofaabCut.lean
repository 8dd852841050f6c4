/-
  cut, putAhead.
-/
import Derived.Test.YtemiajjjhhofaabAhead
namespace Go.Proofs.Ytemiajjjhhofaab
open Go.RowKit Go.PlainAid

/-- What cut makes: a gap ahead of the i-th text of a node. -/
def CutAt (w : World) (B l R most cnt : Nat) (l1 l2 : List Nd) (d : Nd) (i : Nat) (r : Ending) (w' : World) : Prop :=
  ∃ A C, r = .returned (ptr (laA R A)) ∧ Lst w' B l R most cnt (A ++ C) ∧ Goes w w' l R (l1 ++ d :: l2) (A ++ C) ∧ Ok most (A ++ C) ∧ txN A = txN l1 ++ d.ls.take i ∧ txN C = d.ls.drop i ++ txN l2

set_option maxRecDepth 100000 in
set_option maxHeartbeats 4000000 in
theorem cut_any (B l R most cnt : Nat) (l1 l2 : List Nd) (d : Nd) (i : Nat) (w : World) (h : Lst w B l R most cnt (l1 ++ d :: l2)) (hok : Ok most (l1 ++ d :: l2)) (hi : i ≤ d.ls.length) :
    Calls Try.prog 90 #[ptr l, ptr d.a, .int .i64 i] w fun r w' => CutAt w B l R most cnt l1 l2 d i r w' := by
  have hdN := h.nod d (by simp)
  have hdm := hdN.pk.many
  have hd6 := hdN.siz
  have HOk : Hid (Ok most (l1 ++ d :: l2)) := hok
  have HL : Hid (Lst w B l R most cnt (l1 ++ d :: l2)) := h
  by_cases h0 : i = 0
  · subst h0
    have hg : w.cell? ⟨d.a, 1, none⟩ = some (ptr (laA R l1)) := (h.gap (l1 := l1) (l2 := d :: l2)).2
    obtain ⟨u, hu⟩ : ∃ u, laA R l1 = u := ⟨_, rfl⟩
    have HU : Hid (laA R l1 = u) := hu
    rw [hu] at hg
    clear h hok hdN hu
    go_enter Try.func90, Try.ntmps90
    go_wp2
    go_ret
    exact ⟨l1, d :: l2, by rw [HU.out]; rfl, HL.out, Goes.refl _ _ _ _, HOk.out, by simp, by rw [txN_cons]; simp⟩
  · have h01 : ¬ ((i : Int) = 0) := by omega
    have HLen := Len_any B d.p d.r d.n d.c d.ls w hdN.pk
    have hcp := h.cpk (d := d) (by simp)
    by_cases hlt : i < d.ls.length
    · have HCo := Copy_any B d.p d.r d.n d.c d.ls w hdN.pk (by omega)
      have HF : Hid (Fit d.ls) := hdN.fit
      obtain ⟨k, hk⟩ : ∃ k, d.ls.length = k := ⟨_, rfl⟩
      have HK : Hid (d.ls.length = k) := hk
      rw [hk] at HLen hlt hdm
      have hlt1 : (i : Int) < (k : Int) := by omega
      have HI0 : Hid (0 < i) := by show _ < _; omega
      have HD6 : Hid (d.n ≤ 65536) := hd6
      clear h hok hdN hk hi
      go_enter Try.func90, Try.ntmps90
      go_wp2_with fail
      refine HLen.mono ?_
      rintro e w ⟨rfl, rfl⟩
      go_wp2_with fail
      refine HCo.mono ?_
      rintro e w1 ⟨hb, q, qa, qn, qc, rfl, hQ⟩
      have HB1 : Hid (Below w.heap.size w w1) := hb
      have HQ : Hid (Pk w1 w.heap.size q qa qn qc d.ls) := hQ
      have hqn : qn ≤ 65536 := by have h1 := hQ.len; have h2 := (HL.out.nod d (by simp)).pk.len; have := HD6.out; omega
      have hp0 : plc d.ls.length 0 = some 0 := by unfold plc; rw [if_pos (by decide), if_pos (by rw [HK.out]; omega)]; rfl
      have HDe := Delete_some w.heap.size q qa qn qc d.ls 0 0 i w1 hQ HF.out hqn (by decide) hp0
      have hgn : gone d.ls 0 (i : Int) = i := by unfold gone; rw [HK.out]; omega
      rw [hgn, List.take_zero, List.nil_append, Nat.zero_add] at HDe
      clear hb hQ HLen HCo hp0 hgn
      go_wp2_with fail
      refine HDe.mono ?_
      rintro e w2 ⟨rfl, hM, a', n', c', hP2, hW2⟩
      have HL2 : Hid (Lst w2 B l R most cnt (l1 ++ d :: l2)) := (HL.out.keep HB1.out).stay (Stay.of_moves hM) (fun k hk hm => HL.out.fresh HQ.out (Nat.le_refl _) k hm hk)
      have HS2 : Hid (Stay w w2 (l :: R :: fpN (l1 ++ d :: l2))) := (Stay.of_below HB1.out _).trans (Stay.of_moves hM) (fun k hk => .inr (HQ.out.blocks.1 k hk).1)
      have HP2 : Hid (Pk w2 w.heap.size q a' n' c' (d.ls.drop i)) := hP2
      have hn2 : n' ≤ 65536 := by
        have h1 := hP2.len
        have h2 := drop_off d.ls i
        have h3 := congrArg List.length h2
        rw [List.length_drop, HQ.out.len] at h3
        omega
      have hdl : (d.ls.drop i).length = k - i := by rw [List.length_drop, HK.out]
      have HS : Hid (∀ w', Below w2.heap.size w2 w' → w'.cell? ⟨d.a, 0, none⟩ = some (ptr d.p)) := fun w' hb => (HL2.out.keep hb).cpk (by simp)
      have HLq : ∀ w', Below w2.heap.size w2 w' → Calls Try.prog 34 #[ptr q] w' fun e w'' => e = .returned (.int .i64 ((k - i : Nat) : Nat)) ∧ w'' = w' := fun w' hb => by
        have := Len_any w.heap.size q a' n' c' (d.ls.drop i) w' (HP2.out.keep hb)
        rw [hdl] at this
        exact this
      have HDd : ∀ w', Below w2.heap.size w2 w' → Calls Try.prog 41 #[ptr d.p, .int .i64 i, .int .i64 ((k - i : Nat) : Nat)] w' fun e w'' => (∃ z : Int, e = .returned (.int .i64 z)) ∧ Node1 w2 B l R most cnt l1 l2 d (d.ls.take i) w'' := fun w' hb => by
        refine (Delete_nd B l R most cnt l1 l2 d i ((k - i : Nat) : Nat) w' (HL2.out.keep hb) (by rw [HK.out]; exact hlt)).mono ?_
        rintro e w'' ⟨rfl, h1⟩
        have hg1 : i + gone d.ls i ((k - i : Nat) : Int) = k := by unfold gone; rw [HK.out]; omega
        rw [hg1, ← HK.out, List.drop_length, List.append_nil] at h1
        obtain ⟨d', e1, e2, e3, e4, h4, h5⟩ := h1
        exact ⟨⟨_, rfl⟩, d', e1, e2, e3, e4, h4, h5.first hb⟩
      have HD : Hid (Below w2.heap.size w2 w2.drew) := below_drewN w2 1
      generalize k - i = ki at HLq HDd
      clear hM hP2 hW2 HDe hdl
      go_upto_region 6 with fail
      go_region_held3 (fun w' => w'.cell? ⟨d.a, 0, none⟩ = some (ptr d.p)) (first | exact HS.out _ HD.out | exact HSz.out) (first
        | (go_at_call 34; refine (HLq _ HD.out).mono ?_; rintro r wx ⟨rfl, rfl⟩)
        | (go_at_call 41; refine (HDd _ HD.out).mono ?_; rintro r wz ⟨⟨z, rfl⟩, hN⟩; have HN : Hid (Node1 w2 B l R most cnt l1 l2 d (d.ls.take i) wz) := hN; have HSz : Hid (wz.cell? ⟨d.a, 0, none⟩ = some (ptr d.p)) := (by obtain ⟨d', e1, e2, -, -, h4, -⟩ := hN; rw [← e1, ← e2]; exact h4.cpk (by simp)); clear hN))
      all_goals
        obtain ⟨d', e1, e2, e3, e4, h4, h5⟩ := HN.out
        have es : l1 ++ d' :: l2 = (l1 ++ [d']) ++ l2 := by simp
        have hdis : ∀ k ∈ q :: (a'.map (·.block)).toList, k ∉ l :: R :: fpN (l1 ++ d :: l2) := HL.out.fresh HP2.out (Nat.le_refl _)
        have hPz : Pk wz w.heap.size q a' n' c' (d.ls.drop i) := HP2.out.stay h5.stay (hdis q (by simp)) (fun k hk => hdis k (List.mem_cons_of_mem _ hk))
        have hdis2 : ∀ k ∈ q :: (a'.map (·.block)).toList, k ∉ l :: R :: fpN (l1 ++ [d'] ++ l2) := by
          intro k hk hm
          rw [← es] at hm
          have hk1 := (HP2.out.blocks.1 k hk).2
          refine hdis k hk ?_
          simp only [List.mem_cons] at hm ⊢
          rcases hm with hm | hm | hm
          · exact .inl hm
          · exact .inr (.inl hm)
          · rcases h5.new k hm with h | h
            · exact .inr (.inr h)
            · omega
        have HLk := link_any B l R most cnt (l1 ++ [d']) l2 q a' n' c' (d.ls.drop i) wz (es ▸ h4) (hPz.low' (Nat.le_trans HL.out.lowl (Nat.le_of_lt HL.out.lt))) (fit_drop HF.out i) hn2 hPz.blocks.2 hdis2
        rw [laA_snoc, e1] at HLk
        have HG : Hid (Goes w2 wz l R (l1 ++ d :: l2) (l1 ++ [d'] ++ l2)) := by rw [← es]; exact h5
        have HE : Hid (d'.a = d.a ∧ d'.ls = d.ls.take i) := ⟨e1, e3⟩
        clear h4 h5 HN HSz HDd HLq es hdis hdis2 hPz
        go_wp2_with fail
        refine HLk.mono ?_
        rintro r w9 ⟨rfl, f, hf, hL9, hS9⟩
        have HFin : Hid (CutAt w B l R most cnt l1 l2 d i (.returned (ptr d.a)) w9) := by
          refine ⟨l1 ++ [d'], ⟨f, q, a', n', c', d.ls.drop i⟩ :: l2, by rw [laA_snoc, HE.out.1], hL9, ?_, ?_, ?_, ?_⟩
          · have hs1 : Stay w wz (l :: R :: fpN (l1 ++ d :: l2)) := HS2.out.trans HG.out.stay (fun _ hi => .inl hi)
            refine ⟨hs1.trans hS9 ?_, ?_⟩
            · intro k hk
              simp only [List.mem_cons] at hk ⊢
              rcases hk with hk | hk | hk
              · exact .inl (.inl hk)
              · exact .inl (.inr (.inl hk))
              · rcases HG.out.new k hk with h | h
                · exact .inl (.inr (.inr h))
                · exact .inr (Nat.le_trans HS2.out.size h)
            · intro k hk
              rw [fpN_append, fpN_cons] at hk
              simp only [List.mem_append] at hk
              rcases hk with hk | hk | hk
              · rcases HG.out.new k (by rw [fpN_append]; simp [hk]) with h | h
                · exact .inl h
                · exact .inr (Nat.le_trans HS2.out.size h)
              · rcases List.mem_cons.1 hk with rfl | hk
                · exact .inr (Nat.le_trans hs1.size hf)
                · exact .inr (HP2.out.blocks.1 k hk).1
              · rcases HG.out.new k (by rw [fpN_append]; simp [hk]) with h | h
                · exact .inl h
                · exact .inr (Nat.le_trans HS2.out.size h)
          · have h0 := HOk.out d (by simp)
            have h1 := HK.out
            intro x hx
            rcases mem_or hx with rfl | hx
            · show 0 < (d.ls.drop i).length ∧ (d.ls.drop i).length ≤ most
              rw [List.length_drop]; omega
            · simp only [List.mem_append, List.mem_singleton] at hx
              rcases hx with (hx | rfl) | hx
              · exact HOk.out x (by simp [hx])
              · rw [HE.out.2, List.length_take]; have := HI0.out; omega
              · exact HOk.out x (by simp [hx])
          · rw [txN_append, txN_cons, HE.out.2]; simp [txN_nil]
          · rw [txN_cons]
        clear hL9 hS9
        go_wp2
        go_ret
        exact HFin.out
    · have hik : i = d.ls.length := by omega
      have HK : Hid (i = d.ls.length) := hik
      rw [← hik] at HLen
      clear h hok hdN hi hlt hik
      go_enter Try.func90, Try.ntmps90
      go_wp2_with fail
      refine HLen.mono ?_
      rintro e w ⟨rfl, rfl⟩
      go_wp2
      go_ret
      have es : l1 ++ d :: l2 = (l1 ++ [d]) ++ l2 := by simp
      refine ⟨l1 ++ [d], l2, by rw [laA_snoc]; rfl, es ▸ HL.out, by rw [← es]; exact Goes.refl _ _ _ _, es ▸ HOk.out, ?_, ?_⟩
      · rw [txN_append, txN_cons, HK.out]; simp [txN_nil]
      · rw [HK.out]; simp
end Go.Proofs.Ytemiajjjhhofaab
