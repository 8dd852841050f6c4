/-
  Insert, Nodes of a list.
-/
import Derived.Test.YtemiajjjhhofaabQset
namespace Go.Proofs.Ytemiajjjhhofaab
open Go.RowKit Go.PlainAid

theorem fnd_hit (ls : List ByteArray) (s : ByteArray) (j : Nat) (hj : j < ls.length) (hs : txt ls j = s) : ∀ (f i : Nat), ls.length ≤ i + f → i ≤ j → (∀ k, i ≤ k → k < j → txt ls k ≠ s) → fnd ls s 1 f i = (j : Int)
  | 0, i, h, hi, _ => by omega
  | f + 1, i, h, hi, hk => by
    rw [fnd, if_pos (by omega)]
    by_cases e : i = j
    · subst e
      rw [if_pos hs]
    · rw [if_neg (hk i (Nat.le_refl _) (by omega))]
      exact fnd_hit ls s j hj hs f (i + 1) (by omega) (by omega) (fun k h1 h2 => hk k (by omega) h2)
theorem fnd_miss (ls : List ByteArray) (s : ByteArray) (h : ∀ k, k < ls.length → txt ls k ≠ s) : ∀ (f i : Nat), fnd ls s 1 f i = -1
  | 0, _ => rfl
  | f + 1, i => by
    rw [fnd]
    split
    · rename_i hi
      rw [if_neg (h i hi)]
      exact fnd_miss ls s h f (i + 1)
    · rfl
theorem txt_mem {ls : List ByteArray} {k : Nat} (h : k < ls.length) : txt ls k ∈ ls := by
  rw [txt, List.getD_eq_getElem?_getD, List.getElem?_eq_getElem h]
  exact List.getElem_mem h
theorem fnd_at (A Y : List ByteArray) (s : ByteArray) (h : ∀ t ∈ A, t ≠ s) : fnd (A ++ s :: Y) s 1 (A ++ s :: Y).length 0 = (A.length : Int) := by
  refine fnd_hit _ s A.length (by simp) ?_ _ 0 (by omega) (by omega) ?_
  · rw [txt, List.getD_eq_getElem?_getD, List.getElem?_append_right (Nat.le_refl _), Nat.sub_self]; rfl
  · intro k _ hk
    rw [txt, List.getD_eq_getElem?_getD, List.getElem?_append_left hk, List.getElem?_eq_getElem hk]
    exact h _ (List.getElem_mem hk)
theorem fnd_not (ls : List ByteArray) (s : ByteArray) (h : ∀ t ∈ ls, t ≠ s) : fnd ls s 1 ls.length 0 = -1 := fnd_miss ls s (fun _ hk => h _ (txt_mem hk)) _ _
/-- Where the first pivot lies, node by node. -/
theorem piv_split {A C X Z : List ByteArray} {p : ByteArray} (h : X ++ Z = A ++ p :: C) (hA : ∀ t ∈ A, t ≠ p) : (∃ A', A = X ++ A' ∧ Z = A' ++ p :: C ∧ ∀ t ∈ X, t ≠ p) ∨ (∃ Y, X = A ++ p :: Y ∧ C = Y ++ Z) := by
  rcases List.append_eq_append_iff.1 h with ⟨A', e1, e2⟩ | ⟨Y, e1, e2⟩
  · exact .inl ⟨A', e1, e2, fun t ht => hA t (by rw [e1]; simp [ht])⟩
  · cases Y with
    | nil =>
      rw [List.append_nil] at e1
      exact .inl ⟨[], by rw [e1]; simp, by simpa using e2.symm, fun t ht => hA t (by rw [← e1]; exact ht)⟩
    | cons y Y =>
      injection e2 with e3 e4
      exact .inr ⟨Y, by rw [e1, e3], e4⟩

set_option maxRecDepth 100000 in
set_option maxHeartbeats 400000 in
theorem InsertQ_long (l : Nat) (p s : ByteArray) (b : Bool) (w : World) (hs : 4096 < s.size) (hs2 : s.size ≤ 5000) :
    Calls Try.prog 48 #[ptr l, .string p, .string s, .bool b] w fun e w' => e = .returned (.tuple #[.int .i64 0, .int .i64 11]) ∧ w' = w := by
  have HT := tooLong_any s w (by omega)
  rw [decide_eq_true hs] at HT
  go_enter Try.func48, Try.ntmps48
  go_wp2_with fail
  refine HT.mono ?_
  rintro e w ⟨rfl, rfl⟩
  go_wp2
  go_ret2
  exact ⟨rfl, rfl⟩

set_option maxRecDepth 100000 in
set_option maxHeartbeats 400000 in
theorem InsertQ_none (B l R most cnt : Nat) (ns : List Nd) (p s : ByteArray) (b : Bool) (w : World) (h : Lst w B l R most cnt ns) (hs : s.size ≤ 4096) (hp : ∀ t ∈ txN ns, t ≠ p) :
    Calls Try.prog 48 #[ptr l, .string p, .string s, .bool b] w fun e w' => e = .returned (.tuple #[.int .i64 (-1), .int .i64 0]) ∧ Below w.heap.size w w' := by
  have HT := tooLong_any s w (by omega)
  rw [decide_eq_false (by omega)] at HT
  have hc := h.cring
  have hg : w.cell? ⟨R, 2, none⟩ = some (ptr (hdA R ns)) := (Lst.gap (l1 := []) (l2 := ns) h).1
  have HL : Hid (Lst w B l R most cnt ns) := h
  have HP : Hid (∀ t ∈ txN ns, t ≠ p) := hp
  obtain ⟨m, hm⟩ : ∃ m, ns.length = m := ⟨_, rfl⟩
  have HM : Hid (ns.length = m) := hm
  obtain ⟨v, hv⟩ : ∃ v, hdA R ns = v := ⟨_, rfl⟩
  have HV : Hid (hdA R ns = v) := hv
  rw [hv] at hg
  clear h hp hm hv
  go_enter Try.func48, Try.ntmps48
  go_wp2_with fail
  refine HT.mono ?_
  rintro e w ⟨rfl, rfl⟩
  go_wp2
  go_loopg [10, 11] m (fun g nv av wr => ∃ l1 l2 : List Nd, ∃ v : Nat, nv = ptr v ∧ Hid (hdA R l2 = v) ∧ Hid (l2.length = g) ∧ Hid (ns = l1 ++ l2) ∧ Hid (Below w.heap.size w wr))
  case atStart => exact ⟨[], ns, v, rfl, HV, HM, rfl, Below.refl _ _⟩
  case round =>
    obtain ⟨l1, l2, v, rfl, HV, HG, HE, HB⟩ := hrel
    have hLk := HL.out.keep HB.out
    have hcr := hLk.cring
    cases l2 with
    | nil =>
      have hvR : R = v := HV.out
      subst hvR
      have hq := neq_same wr R
      clear hLk
      go_wp2
      go_ret2
      exact ⟨rfl, HB.out⟩
    | cons d r =>
      have hvd : d.a = v := HV.out
      subst hvd
      rw [HE.out] at hLk
      have hq := (hLk.neqR (d := d) (by simp)).2
      have hcp := hLk.cpk (d := d) (by simp)
      have hdN := hLk.nod d (by simp)
      have HF := Find_any B d.p d.r d.n d.c d.ls p 0 1 wr hdN.pk hdN.fit hdN.siz (by decide) (by decide) (by decide)
      rw [fnd_not d.ls p (fun t ht => HP.out t (by rw [HE.out, txN_append, txN_cons]; simp [ht]))] at HF
      obtain ⟨v2, hv2⟩ : ∃ v2, hdA R r = v2 := ⟨_, rfl⟩
      have HV2 : Hid (hdA R r = v2) := hv2
      have hg2 : ∀ w', Below wr.heap.size wr w' → w'.cell? ⟨d.a, 2, none⟩ = some (ptr v2) := fun w' hb => by
        have h3 := hLk.keep hb
        have := (Lst.gap (l1 := l1 ++ [d]) (l2 := r) (by simpa using h3)).1
        rw [laA_snoc, hv2] at this
        exact this
      have HE1 : Hid (ns = (l1 ++ [d]) ++ r) := by show _ = _; rw [HE.out]; simp
      have HK : Hid (r.length = gk - 1) := by have := HG.out; rw [List.length_cons] at this; show _ = _; omega
      have hg0 : gk ≠ 0 := by have := HG.out; rw [List.length_cons] at this; omega
      clear hLk hdN hv2
      go_wp2_with fail
      refine HF.mono ?_
      rintro e w1 ⟨hb, rfl⟩
      have HB1 := step_below HB hb
      have hg3 := hg2 w1 hb
      clear hb hg2 HF
      go_wp2
      go_roundg (gk - 1)
      case measure => omega
      case rel => exact ⟨_, r, v2, rfl, HV2, HK, HE1, HB1⟩

set_option maxRecDepth 100000 in
set_option maxHeartbeats 400000 in
theorem InsertQ_some (B l R most cnt : Nat) (ns : List Nd) (p s : ByteArray) (b : Bool) (A C : List ByteArray) (w : World) (h : Lst w B l R most cnt ns) (hok : Ok most ns) (hcnt : cnt ≤ 1000000) (hmost : 0 < most) (hmost2 : most ≤ 1000000) (hs : s.size ≤ 4096) (hT : txN ns = A ++ p :: C) (hp : ∀ t ∈ A, t ≠ p) :
    Calls Try.prog 48 #[ptr l, .string p, .string s, .bool b] w fun e w' => e = .returned (.tuple #[.int .i64 ((cnt + 1 : Nat) : Nat), .int .i64 0]) ∧ Does w B l R most (cnt + 1) ns (if b then A ++ (p :: (s :: C)) else A ++ (s :: (p :: C))) w' := by
  have HT := tooLong_any s w (by omega)
  rw [decide_eq_false (by omega)] at HT
  have hc := h.cring
  have hg : w.cell? ⟨R, 2, none⟩ = some (ptr (hdA R ns)) := (Lst.gap (l1 := []) (l2 := ns) h).1
  have HL : Hid (Lst w B l R most cnt ns) := h
  have HOk : Hid (Ok most ns) := hok
  have HS : Hid (s.size ≤ 4096) := hs
  have HP : Hid (∀ t ∈ A, t ≠ p) := hp
  obtain ⟨m, hm⟩ : ∃ m, ns.length = m := ⟨_, rfl⟩
  have HM : Hid (ns.length = m) := hm
  obtain ⟨v, hv⟩ : ∃ v, hdA R ns = v := ⟨_, rfl⟩
  have HV : Hid (hdA R ns = v) := hv
  have HA0 : Hid (A = txN [] ++ A ∧ txN ns = A ++ p :: C) := ⟨rfl, hT⟩
  rw [hv] at hg
  clear h hp hm hv hT hok hs
  go_enter Try.func48, Try.ntmps48
  go_wp2_with fail
  refine HT.mono ?_
  rintro e w ⟨rfl, rfl⟩
  go_wp2
  go_loopg [10, 11] m (fun g nv av wr => ∃ l1 l2 : List Nd, ∃ v : Nat, ∃ A' : List ByteArray, nv = ptr v ∧ Hid (hdA R l2 = v) ∧ Hid (l2.length = g) ∧ Hid (ns = l1 ++ l2) ∧ Hid (A = txN l1 ++ A' ∧ txN l2 = A' ++ p :: C) ∧ Hid (Below w.heap.size w wr))
  case atStart => exact ⟨[], ns, v, A, rfl, HV, HM, rfl, HA0, Below.refl _ _⟩
  case round =>
    obtain ⟨l1, l2, v, A', rfl, HV, HG, HE, HA, HB⟩ := hrel
    have hLk := HL.out.keep HB.out
    have hcr := hLk.cring
    cases l2 with
    | nil =>
      exfalso
      have := congrArg List.length HA.out.2
      rw [txN_nil] at this
      simp at this
    | cons d r =>
      have hvd : d.a = v := HV.out
      subst hvd
      rw [HE.out] at hLk
      have hq := (hLk.neqR (d := d) (by simp)).2
      have hcp := hLk.cpk (d := d) (by simp)
      have hdN := hLk.nod d (by simp)
      have HF := Find_any B d.p d.r d.n d.c d.ls p 0 1 wr hdN.pk hdN.fit hdN.siz (by decide) (by decide) (by decide)
      have hd6 := hdN.siz
      have hdm := hdN.pk.many
      rcases piv_split (X := d.ls) (Z := txN r) (by rw [← txN_cons]; exact HA.out.2) (fun t ht => HP.out t (by rw [HA.out.1]; simp [ht])) with ⟨A2, e1, e2, e3⟩ | ⟨Y, e1, e2⟩
      · rw [fnd_not d.ls p e3] at HF
        obtain ⟨v2, hv2⟩ : ∃ v2, hdA R r = v2 := ⟨_, rfl⟩
        have HV2 : Hid (hdA R r = v2) := hv2
        have hg2 : ∀ w', Below wr.heap.size wr w' → w'.cell? ⟨d.a, 2, none⟩ = some (ptr v2) := fun w' hb => by
          have h3 := hLk.keep hb
          have := (Lst.gap (l1 := l1 ++ [d]) (l2 := r) (by simpa using h3)).1
          rw [laA_snoc, hv2] at this
          exact this
        have HE1 : Hid (ns = (l1 ++ [d]) ++ r) := by show _ = _; rw [HE.out]; simp
        have HA1 : Hid (A = txN (l1 ++ [d]) ++ A2 ∧ txN r = A2 ++ p :: C) := ⟨by rw [HA.out.1, e1, txN_append, txN_cons, txN_nil]; simp, e2⟩
        have HK : Hid (r.length = gk - 1) := by have := HG.out; rw [List.length_cons] at this; show _ = _; omega
        have hg0 : gk ≠ 0 := by have := HG.out; rw [List.length_cons] at this; omega
        clear hLk hdN hv2 e1 e2 e3
        go_wp2_with fail
        refine HF.mono ?_
        rintro e w1 ⟨hb, rfl⟩
        have HB1 := step_below HB hb
        have hg3 := hg2 w1 hb
        clear hb hg2 HF
        go_wp2
        go_roundg (gk - 1)
        case measure => omega
        case rel => exact ⟨_, r, v2, A2, rfl, HV2, HK, HE1, HA1, HB1⟩
      · have hfa := fnd_at A' Y p (fun t ht => HP.out t (by rw [HA.out.1]; simp [ht]))
        rw [← e1] at hfa
        rw [hfa] at HF
        obtain ⟨j, hj⟩ : ∃ j, A'.length = j := ⟨_, rfl⟩
        rw [hj] at HF
        have hjd : j < d.ls.length := by rw [e1]; simp; omega
        have HPu : ∀ jj, jj ≤ d.ls.length → ∀ w', Below wr.heap.size wr w' → Calls Try.prog 71 #[ptr l, ptr d.a, .int .i64 (jj : Nat), .string s] w' fun e w'' => e = .returned (.tuple #[]) ∧ Does w' B l R most (cnt + 1) (l1 ++ d :: r) (txN l1 ++ (d.ls.take jj ++ (s :: d.ls.drop jj)) ++ txN r) w'' := fun jj hjj w' hb =>
          putAhead_any B l R most cnt l1 r d jj s w' (hLk.keep hb) (HE.out ▸ HOk.out) hjj HS.out hcnt hmost hmost2
        have HEE : Hid (ns = l1 ++ d :: r) := HE.out
        have hj0 : ¬ ((j : Int) < 0) := by omega
        cases b with
        | true =>
          have HPj := HPu (j + 1) (by omega)
          have HX : Hid (txN l1 ++ (d.ls.take (j + 1) ++ (s :: d.ls.drop (j + 1))) ++ txN r = A ++ (p :: (s :: C))) := by
            show _ = _
            rw [HA.out.1, e1, e2, ← hj]
            have t1 : (A' ++ p :: Y).take (A'.length + 1) = A' ++ [p] := by rw [List.take_length_add_append]; rfl
            have t2 : (A' ++ p :: Y).drop (A'.length + 1) = Y := by rw [List.drop_length_add_append]; rfl
            rw [t1, t2]; simp
          clear hLk hdN e1 e2 hfa hj HPu
          go_wp2_with fail
          refine HF.mono ?_
          rintro e w1 ⟨hb, rfl⟩
          have HB1 := step_below HB hb
          have HP1 := HPj w1 hb
          clear hb HF HPj
          go_wp2_with fail
          refine HP1.mono ?_
          rintro e w2 ⟨rfl, ns2, h1, h2, h3, h4⟩
          have hc2 := h1.ccnt
          have HD : Hid (Does w B l R most (cnt + 1) ns (A ++ (p :: (s :: C))) w2) := ⟨ns2, h1, by rw [HEE.out]; exact h2.first HB1.out, h3, by rw [h4]; exact HX.out⟩
          clear h1 h2 h3 h4 HP1
          go_wp2
          go_ret2
          exact ⟨rfl, HD.out⟩
        | false =>
          have HPj := HPu j (by omega)
          have HX : Hid (txN l1 ++ (d.ls.take j ++ (s :: d.ls.drop j)) ++ txN r = A ++ (s :: (p :: C))) := by
            show _ = _
            rw [HA.out.1, e1, e2, ← hj, List.take_left, List.drop_left]; simp
          clear hLk hdN e1 e2 hfa hj HPu
          go_wp2_with fail
          refine HF.mono ?_
          rintro e w1 ⟨hb, rfl⟩
          have HB1 := step_below HB hb
          have HP1 := HPj w1 hb
          clear hb HF HPj
          go_wp2_with fail
          refine HP1.mono ?_
          rintro e w2 ⟨rfl, ns2, h1, h2, h3, h4⟩
          have hc2 := h1.ccnt
          have HD : Hid (Does w B l R most (cnt + 1) ns (A ++ (s :: (p :: C))) w2) := ⟨ns2, h1, by rw [HEE.out]; exact h2.first HB1.out, h3, by rw [h4]; exact HX.out⟩
          clear h1 h2 h3 h4 HP1
          go_wp2
          go_ret2
          exact ⟨rfl, HD.out⟩

set_option maxRecDepth 100000 in
set_option maxHeartbeats 400000 in
theorem Nodes_any (B l R most cnt : Nat) (ns : List Nd) (w : World) (h : Lst w B l R most cnt ns) (hm1 : ns.length ≤ 999999) :
    Calls Try.prog 28 #[ptr l] w fun e w' => Below w.heap.size w w' ∧ ∃ a2 n2 c2, e = .returned (.slice a2 n2 c2) ∧ OwnI w' w.heap.size a2 n2 c2 (ns.map fun d => d.ls.length) := by
  have hc := h.cring
  have hg : w.cell? ⟨R, 2, none⟩ = some (ptr (hdA R ns)) := (Lst.gap (l1 := []) (l2 := ns) h).1
  have HL : Hid (Lst w B l R most cnt ns) := h
  obtain ⟨m, hm⟩ : ∃ m, ns.length = m := ⟨_, rfl⟩
  have HM : Hid (ns.length = m) := hm
  obtain ⟨v, hv⟩ : ∃ v, hdA R ns = v := ⟨_, rfl⟩
  have HV : Hid (hdA R ns = v) := hv
  have HO0 : Hid (OwnI w w.heap.size none 0 0 (([] : List Nd).map fun d => d.ls.length)) := OwnI.nil w _
  rw [hv] at hg
  rw [hm] at hm1
  clear h hm hv
  go_enter Try.func28, Try.ntmps28
  go_wp2
  go_loopg [3, 4] m (fun g tv nv wr => ∃ l1 l2 : List Nd, ∃ v : Nat, ∃ a2 n2 c2, tv = .slice a2 n2 c2 ∧ nv = ptr v ∧ Hid (hdA R l2 = v) ∧ Hid (l2.length = g) ∧ Hid (ns = l1 ++ l2) ∧ Hid (OwnI wr w.heap.size a2 n2 c2 (l1.map fun d => d.ls.length)) ∧ Hid (Below w.heap.size w wr))
  case atStart => exact ⟨[], ns, v, none, 0, 0, rfl, rfl, HV, HM, rfl, HO0, Below.refl _ _⟩
  case round =>
    obtain ⟨l1, l2, v, a2, n2, c2, rfl, rfl, HV, HG, HE, HO, HB⟩ := hrel
    have hLk := HL.out.keep HB.out
    have hcr := hLk.cring
    cases l2 with
    | nil =>
      have hvR : R = v := HV.out
      subst hvR
      have hq := neq_same wr R
      have HEE : Hid (ns = l1) := by show _ = _; have := HE.out; simpa using this
      clear hLk
      go_wp2
      go_ret
      exact ⟨HB.out, _, _, _, rfl, by rw [HEE.out]; exact HO.out⟩
    | cons d r =>
      have hvd : d.a = v := HV.out
      subst hvd
      rw [HE.out] at hLk
      have hq := (hLk.neqR (d := d) (by simp)).2
      have hcp := hLk.cpk (d := d) (by simp)
      have hdN := hLk.nod d (by simp)
      have HLen := Len_any B d.p d.r d.n d.c d.ls wr hdN.pk
      obtain ⟨v2, hv2⟩ : ∃ v2, hdA R r = v2 := ⟨_, rfl⟩
      have HV2 : Hid (hdA R r = v2) := hv2
      have hg2 : Hid (∀ w', Below w.heap.size w w' → w'.cell? ⟨d.a, 2, none⟩ = some (ptr v2)) := fun w' hb => by
        have h3 := HL.out.keep hb
        rw [HE.out] at h3
        have := (Lst.gap (l1 := l1 ++ [d]) (l2 := r) (by simpa using h3)).1
        rw [laA_snoc, hv2] at this
        exact this
      have HE1 : Hid (ns = (l1 ++ [d]) ++ r) := by show _ = _; rw [HE.out]; simp
      have HK : Hid (r.length = gk - 1) := by have := HG.out; rw [List.length_cons] at this; show _ = _; omega
      have hg0 : gk ≠ 0 := by have := HG.out; rw [List.length_cons] at this; omega
      have HN : Hid (n2 + 1 ≤ 1000000) := by
        have h1 := HO.out.len
        have h2 := HM.out
        rw [HE.out] at h2
        simp at h1 h2
        show _ ≤ _
        omega
      have HQ : Hid ((l1.map fun d => d.ls.length) ++ [d.ls.length] = (l1 ++ [d]).map fun d => d.ls.length) := by show _ = _; simp
      generalize d.ls.length = q at HLen HQ
      clear hLk hdN hv2
      go_wp2_with fail
      refine HLen.mono ?_
      rintro e wr ⟨rfl, rfl⟩
      go_wp2_with (at_builtin; refine append_int rfl (.tmp 22) (.tmp 28) rfl w.heap.size rfl (HO.out.keep (alloc_below wr (.cells #[.int .i64 (q : Nat)] 3))) rfl (by simp; rfl) HN.out (Nat.le_trans HB.out.size (alloc_below wr _).size) ?_; intro a3 n3 c3 w3 hn3 HO3 HG3 HW3; have HB3 : Hid (Below w.heap.size w w3) := (HB.out.trans ((alloc_below wr _).mono HB.out.size)).trans (OwnI.below (HO.out.keep (alloc_below wr (.cells #[.int .i64 (q : Nat)] 3))) HG3.out (Nat.le_trans HB.out.size (alloc_below wr _).size)); have hg3 := hg2.out w3 HB3.out; clear hn3)
      go_roundg (gk - 1)
      case measure => omega
      case rel => exact ⟨_, r, v2, _, _, _, rfl, rfl, HV2, HK, HE1, by rw [HQ.out] at HO3; exact HO3, HB3⟩
end Go.Proofs.Ytemiajjjhhofaab
