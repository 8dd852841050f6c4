/-
  join, joinAll: two nodes that have room for each other become one.
-/
import Derived.Test.YtemiajjjhhofaabPutB
namespace Go.Proofs.Ytemiajjjhhofaab
open Go.RowKit Go.PlainAid

/-- What join does at a gap. -/
def JoinAt (w : World) (B l R most cnt : Nat) (l1 l2 : List Nd) (b : Bool) (w' : World) : Prop :=
  (b = false ∧ Below w.heap.size w w') ∨
  (b = true ∧ ∃ k1 d e k2 d', l1 = k1 ++ [d] ∧ l2 = e :: k2 ∧ Lst w' B l R most cnt (k1 ++ d' :: k2) ∧ Goes w w' l R (l1 ++ l2) (k1 ++ d' :: k2) ∧ d'.a = d.a ∧ d'.ls = d.ls ++ e.ls ∧ d'.ls.length ≤ most)

set_option maxRecDepth 100000 in
theorem join_ring (B l R most cnt : Nat) (l2 : List Nd) (w : World) (h : Lst w B l R most cnt l2) :
    Calls Try.prog 91 #[ptr l, ptr R] w fun e w' => e = .returned (.bool false) ∧ Below w.heap.size w w' := by
  have hg : w.cell? ⟨R, 2, none⟩ = some (ptr (hdA R l2)) := (Lst.gap (l1 := []) (l2 := l2) h).1
  have hc := h.cring
  have hq := eql_same w R
  generalize hdA R l2 = v at hg
  clear h
  go_enter Try.func91, Try.ntmps91
  go_wp2
  go_ret
  exact ⟨rfl, Below.refl _ _⟩
set_option maxRecDepth 100000 in
theorem join_last (B l R most cnt : Nat) (k1 : List Nd) (d : Nd) (w : World) (h : Lst w B l R most cnt (k1 ++ [d])) :
    Calls Try.prog 91 #[ptr l, ptr d.a] w fun e w' => e = .returned (.bool false) ∧ Below w.heap.size w w' := by
  have hg := (Lst.gap (l1 := k1 ++ [d]) (l2 := []) (by rw [List.append_nil]; exact h)).1
  rw [laA_snoc] at hg
  have hg2 : w.cell? ⟨d.a, 2, none⟩ = some (ptr R) := hg
  have hc := h.cring
  have hq := eql_same w R
  have hq2 := (h.neqR (d := d) (by simp)).1
  clear h hg
  go_enter Try.func91, Try.ntmps91
  go_wp2
  go_ret
  exact ⟨rfl, Below.refl _ _⟩

theorem mem_two {k1 k2 : List Nd} {d e : Nd} : d ∈ k1 ++ d :: e :: k2 ∧ e ∈ k1 ++ d :: e :: k2 := by simp

set_option maxRecDepth 100000 in
set_option maxHeartbeats 4000000 in
theorem join_two (B l R most cnt : Nat) (k1 k2 : List Nd) (d e : Nd) (w : World) (h : Lst w B l R most cnt (k1 ++ d :: e :: k2)) (hmost : most ≤ 1000000) :
    Calls Try.prog 91 #[ptr l, ptr d.a] w fun r w' => ∃ b, r = .returned (.bool b) ∧ JoinAt w B l R most cnt (k1 ++ [d]) (e :: k2) b w' := by
  have es : k1 ++ d :: e :: k2 = (k1 ++ [d]) ++ e :: k2 := by simp
  have es2 : k1 ++ [d] ++ e :: k2 = k1 ++ d :: e :: k2 := by simp
  have hg := (Lst.gap (l1 := k1 ++ [d]) (l2 := e :: k2) (es ▸ h)).1
  rw [laA_snoc] at hg
  have hg2 : w.cell? ⟨d.a, 2, none⟩ = some (ptr e.a) := hg
  have hc := h.cring
  have hq2 := (h.neqR (d := d) mem_two.1).1
  have hq3 := (h.neqR (d := e) mem_two.2).1
  have HL : Hid (Lst w B l R most cnt (k1 ++ d :: e :: k2)) := h
  have hdN := h.nod d mem_two.1
  have heN := h.nod e mem_two.2
  have hex : Nonempty (Ext w) := ⟨⟨w, Below.refl _ _⟩⟩
  have HL1 := fun x : Ext w => Len_any B d.p d.r d.n d.c d.ls x.wx (hdN.pk.keep x.ok)
  have HL2 := fun x : Ext w => Len_any B e.p e.r e.n e.c e.ls x.wx (heN.pk.keep x.ok)
  have HS1 := fun x : Ext w => Size_pk B d.p d.r d.n d.c d.ls x.wx (hdN.pk.keep x.ok)
  have HS2 := fun x : Ext w => Size_pk B e.p e.r e.n e.c e.ls x.wx (heN.pk.keep x.ok)
  have hcm1 := fun x : Ext w => (h.keep x.ok).cmost
  have hcp1 := fun x : Ext w => (h.keep x.ok).cpk (d := d) mem_two.1
  have hcp2 := fun x : Ext w => (h.keep x.ok).cpk (d := e) mem_two.2
  have hd6 := hdN.siz
  have he6 := heN.siz
  have hdm := hdN.pk.many
  have hem := heN.pk.many
  have HEl : Hid ((pack e.ls).length = e.n) := heN.pk.len
  obtain ⟨dk, hdk⟩ : ∃ k, d.ls.length = k := ⟨_, rfl⟩
  obtain ⟨ek, hek⟩ : ∃ k, e.ls.length = k := ⟨_, rfl⟩
  have HDk : Hid (d.ls.length = dk) := hdk
  have HEk : Hid (e.ls.length = ek) := hek
  simp only [hdk] at HL1 hdm
  simp only [hek] at HL2 hem
  obtain ⟨dn, hdn⟩ : ∃ k, d.n = k := ⟨_, rfl⟩
  obtain ⟨en, hen⟩ : ∃ k, e.n = k := ⟨_, rfl⟩
  have HDn : Hid (d.n = dn) := hdn
  have HEn : Hid (e.n = en) := hen
  simp only [hdn] at HS1 hdm hd6
  simp only [hen] at HS2 hem he6
  clear h hg hdN heN hdk hek hdn hen
  by_cases hA : most < dk + ek
  · have hA1 : decide ((most : Int) < (dk : Int) + (ek : Int)) = true := decide_eq_true (by omega)
    go_enter Try.func91, Try.ntmps91
    go_wp2_with fail
    refine wp_region_ext (by kernel_rfl) (by kernel_rfl) ?_
    repeat (go_big_quiet_step (first | (go_at_call 34; first | exact Calls.ext_same (HL1 _) | exact Calls.ext_same (HL2 _))))
    refine wpQuiet_nil ?_
    intro wz hz
    obtain ⟨x, rfl⟩ := hz
    have HB : Hid (Below w.heap.size w x.wx) := x.ok
    go_wp2
    go_ret
    exact ⟨_, rfl, .inl ⟨rfl, HB.out⟩⟩
  · have hA1 : decide ((most : Int) < (dk : Int) + (ek : Int)) = false := decide_eq_false (by omega)
    have hA2 : ¬ ((most : Int) < (dk : Int) + (ek : Int)) := by omega
    by_cases hB : 65536 < dn + en
    · have hB1 : (65536 : Int) < (dn : Int) + (en : Int) := by omega
      go_enter Try.func91, Try.ntmps91
      go_wp2_with fail
      refine wp_region_ext (by kernel_rfl) (by kernel_rfl) ?_
      repeat (go_big_quiet_step (first | (go_at_call 34; first | exact Calls.ext_same (HL1 _) | exact Calls.ext_same (HL2 _)) | (go_at_call 35; first | exact Calls.ext_same (HS1 _) | exact Calls.ext_same (HS2 _))))
      refine wpQuiet_nil ?_
      intro wz hz
      obtain ⟨x, rfl⟩ := hz
      have HB : Hid (Below w.heap.size w x.wx) := x.ok
      go_wp2
      go_ret
      exact ⟨_, rfl, .inl ⟨rfl, HB.out⟩⟩
    · have hB1 : ¬ ((65536 : Int) < (dn : Int) + (en : Int)) := by omega
      go_enter Try.func91, Try.ntmps91
      go_wp2_with fail
      refine wp_region_ext (by kernel_rfl) (by kernel_rfl) ?_
      repeat (go_big_quiet_step (first | (go_at_call 34; first | exact Calls.ext_same (HL1 _) | exact Calls.ext_same (HL2 _)) | (go_at_call 35; first | exact Calls.ext_same (HS1 _) | exact Calls.ext_same (HS2 _))))
      refine wpQuiet_nil ?_
      intro wz hz
      obtain ⟨x, rfl⟩ := hz
      have HB : Hid (Below w.heap.size w x.wx) := x.ok
      obtain ⟨w1, hw1⟩ : ∃ w1, x.wx = w1 := ⟨_, rfl⟩
      rw [hw1] at HB ⊢
      clear hw1 x HL1 HL2 HS1 HS2 hcm1 hcp1 hcp2 hex
      have HLw : Hid (∀ w', Below w1.heap.size w1 w' → Lst w' B l R most cnt (k1 ++ d :: e :: k2)) := fun w' hb => HL.out.keep (HB.out.trans (hb.mono HB.out.size))
      have HD : Hid (Below w1.heap.size w1 w1.drew) := below_drewN w1 1
      have HSc : Hid (∀ w', Below w1.heap.size w1 w' → w'.cell? ⟨d.a, 0, none⟩ = some (ptr d.p) ∧ w'.cell? ⟨e.a, 0, none⟩ = some (ptr e.p)) := fun w' hb => ⟨(HLw.out w' hb).cpk mem_two.1, (HLw.out w' hb).cpk mem_two.2⟩
      have HLe : ∀ w', Below w1.heap.size w1 w' → Calls Try.prog 34 #[ptr d.p] w' fun r w'' => r = .returned (.int .i64 (dk : Nat)) ∧ w'' = w' := fun w' hb => by
        have := Len_any B d.p d.r d.n d.c d.ls w' ((HLw.out w' hb).nod d mem_two.1).pk
        rw [HDk.out] at this
        exact this
      have HAl : ∀ w', Below w1.heap.size w1 w' → Calls Try.prog 37 #[ptr e.p] w' fun r w'' => Below w'.heap.size w' w'' ∧ ∃ a2 n2 c2, r = .returned (.slice a2 n2 c2) ∧ OwnS w'' w'.heap.size a2 n2 c2 e.ls := fun w' hb => All_any B e.p e.r e.n e.c e.ls w' ((HLw.out w' hb).nod e mem_two.2).pk ((HLw.out w' hb).nod e mem_two.2).fit (by have := HEn.out; omega)
      have HIn : ∀ w' a2 n2 c2, Below w1.heap.size w1 w' → RdS w' a2 n2 e.ls → Calls Try.prog 12 #[ptr d.p, .int .i64 (dk : Nat), .slice a2 n2 c2] w' fun r w'' => r = .returned (.int .i64 0) ∧ Node1 w B l R most cnt k1 (e :: k2) d (d.ls ++ e.ls) w'' := fun w' a2 n2 c2 hb hR => by
        have h1 := hR.len
        have h2 := HEk.out
        have h3 := HDn.out
        have h4 := HEn.out
        have h5 := HEl.out
        have := Insert_nd B l R most cnt k1 (e :: k2) d d.ls.length a2 n2 c2 e.ls w' (HLw.out w' hb) (Nat.le_refl _) hR ((HLw.out w' hb).nod e mem_two.2).fit (by omega) (by omega)
        rw [List.take_length, List.drop_length, List.append_nil, HDk.out] at this
        refine this.mono ?_
        rintro r w'' ⟨rfl, d', e1, e2, e3, e4, h6, h7⟩
        exact ⟨rfl, d', e1, e2, e3, e4, h6, h7.first (HB.out.trans (hb.mono HB.out.size))⟩
      go_upto_region 6 with fail
      go_region_held3 (fun w' => w'.cell? ⟨d.a, 0, none⟩ = some (ptr d.p) ∧ w'.cell? ⟨e.a, 0, none⟩ = some (ptr e.p)) (first | exact HSc.out _ HD.out | exact HSz.out) (first
        | (go_at_call 34; refine (HLe _ HD.out).mono ?_; rintro r wx ⟨rfl, rfl⟩)
        | (go_at_call 37; refine (HAl _ HD.out).mono ?_; rintro r wy ⟨hb, a2, n2, c2, rfl, hO⟩; replace HD := step_below HD hb; have HO : Hid (RdS wy a2 n2 e.ls) := hO.rd; clear hb hO)
        | (go_at_call 12; refine (HIn _ _ _ _ HD.out HO.out).mono ?_; rintro r wz ⟨rfl, hN⟩; have HN : Hid (Node1 w B l R most cnt k1 (e :: k2) d (d.ls ++ e.ls) wz) := hN; have HSz : Hid (wz.cell? ⟨d.a, 0, none⟩ = some (ptr d.p) ∧ wz.cell? ⟨e.a, 0, none⟩ = some (ptr e.p)) := (by obtain ⟨d', e1, e2, -, -, h4, -⟩ := hN; rw [← e1, ← e2]; exact ⟨h4.cpk mem_two.1, h4.cpk mem_two.2⟩); clear hN))
      all_goals
        obtain ⟨d', e1, e2, e3, e4, h4, h5⟩ := HN.out
        have es3 : k1 ++ d' :: e :: k2 = (k1 ++ [d']) ++ e :: k2 := by simp
        have HU := unlink_any B l R most cnt (k1 ++ [d']) k2 e wz (es3 ▸ h4)
        have HG : Hid (Goes w wz l R (k1 ++ d :: e :: k2) (k1 ++ [d'] ++ e :: k2)) := by rw [← es3]; exact h5
        have HE : Hid (d'.a = d.a ∧ d'.ls = d.ls ++ e.ls) := ⟨e1, e3⟩
        clear h4 h5 HN HSz HIn HAl HLe es3
        go_wp2_with fail
        refine HU.mono ?_
        rintro r w9 ⟨rfl, h6, h7, -, -⟩
        have HF : Hid (JoinAt w B l R most cnt (k1 ++ [d]) (e :: k2) true w9) := by
          have es4 : k1 ++ [d'] ++ k2 = k1 ++ d' :: k2 := by simp
          refine .inr ⟨rfl, k1, d, e, k2, d', rfl, rfl, es4 ▸ h6, ?_, HE.out.1, HE.out.2, ?_⟩
          · rw [es2, ← es4]
            exact HG.out.trans h7
          · rw [HE.out.2, List.length_append, HDk.out, HEk.out]; omega
        clear h6 h7
        go_wp2
        go_ret
        exact ⟨_, rfl, HF.out⟩

theorem join_any (B l R most cnt : Nat) (l1 l2 : List Nd) (w : World) (h : Lst w B l R most cnt (l1 ++ l2)) (hmost : most ≤ 1000000) :
    Calls Try.prog 91 #[ptr l, ptr (laA R l1)] w fun r w' => ∃ b, r = .returned (.bool b) ∧ JoinAt w B l R most cnt l1 l2 b w' := by
  rcases snoc_ex l1 with rfl | ⟨k1, d, rfl⟩
  · exact (join_ring B l R most cnt l2 w h).mono fun r w' hh => ⟨false, hh.1, .inl ⟨rfl, hh.2⟩⟩
  · rw [laA_snoc]
    cases l2 with
    | nil =>
      rw [List.append_nil] at h
      exact (join_last B l R most cnt k1 d w h).mono fun r w' hh => ⟨false, hh.1, .inl ⟨rfl, hh.2⟩⟩
    | cons e k2 =>
      have es2 : k1 ++ [d] ++ e :: k2 = k1 ++ d :: e :: k2 := by simp
      rw [es2] at h
      exact join_two B l R most cnt k1 k2 d e w h hmost
end Go.Proofs.Ytemiajjjhhofaab
