/-
  comparePairs; slices.SortFunc of a row of at most twelve pairs.
-/
import Derived.Test.YtiamgnfbgiognaaGreatDoorSd
namespace Go.Proofs.YtiamgnfbgiognaaGreatDoor
open Go.RowKit Go.PlainAid

/-- A pair's fields as they lie in memory. -/
abbrev PE := El × El
def PE.cs (p : PE) : List Value := [.int .i64 p.1.k, .string p.1.s, .int .i64 p.1.n, .slice p.1.a p.1.m p.1.c, .int .i64 p.2.k, .string p.2.s, .int .i64 p.2.n, .slice p.2.a p.2.m p.2.c]
def PE.v (p : PE) : Value := .agg #[.int .i64 p.1.k, .string p.1.s, .int .i64 p.1.n, .slice p.1.a p.1.m p.1.c, .int .i64 p.2.k, .string p.2.s, .int .i64 p.2.n, .slice p.2.a p.2.m p.2.c]
def qcells (es : List PE) : List Value := es.flatMap PE.cs
theorem qcells_len (es : List PE) : (qcells es).length = es.length * 8 := by
  unfold qcells
  induction es with
  | nil => rfl
  | cons e es ih => rw [List.flatMap_cons, List.length_append, ih]; simp [PE.cs]; omega
theorem qcells_get : ∀ (es : List PE) (j : Nat) (e : PE), es[j]? = some e → (qcells es)[j * 8]? = some (.int .i64 e.1.k) ∧ (qcells es)[j * 8 + 1]? = some (.string e.1.s) ∧ (qcells es)[j * 8 + 2]? = some (.int .i64 e.1.n) ∧ (qcells es)[j * 8 + 3]? = some (.slice e.1.a e.1.m e.1.c) ∧ (qcells es)[j * 8 + 4]? = some (.int .i64 e.2.k) ∧ (qcells es)[j * 8 + 5]? = some (.string e.2.s) ∧ (qcells es)[j * 8 + 6]? = some (.int .i64 e.2.n) ∧ (qcells es)[j * 8 + 7]? = some (.slice e.2.a e.2.m e.2.c)
  | [], _, _, h => by simp at h
  | x :: es, 0, e, h => by
    simp at h; subst h
    exact ⟨rfl, rfl, rfl, rfl, rfl, rfl, rfl, rfl⟩
  | x :: es, j + 1, e, h => by
    have ih := qcells_get es j e (by simpa using h)
    have e1 : qcells (x :: es) = .int .i64 x.1.k :: .string x.1.s :: .int .i64 x.1.n :: .slice x.1.a x.1.m x.1.c :: .int .i64 x.2.k :: .string x.2.s :: .int .i64 x.2.n :: .slice x.2.a x.2.m x.2.c :: qcells es := rfl
    rw [e1, show (j + 1) * 8 = j * 8 + 1 + 1 + 1 + 1 + 1 + 1 + 1 + 1 by omega]
    exact ih
theorem qcells_set : ∀ (es : List PE) (j : Nat) (e : PE), (((((((((qcells es).set (j * 8) (.int .i64 e.1.k)).set (j * 8 + 1) (.string e.1.s)).set (j * 8 + 2) (.int .i64 e.1.n)).set (j * 8 + 3) (.slice e.1.a e.1.m e.1.c)).set (j * 8 + 4) (.int .i64 e.2.k)).set (j * 8 + 5) (.string e.2.s)).set (j * 8 + 6) (.int .i64 e.2.n)).set (j * 8 + 7) (.slice e.2.a e.2.m e.2.c)) = qcells (es.set j e)
  | [], j, e => by simp [qcells]
  | x :: es, 0, e => rfl
  | x :: es, j + 1, e => by
    have ih := qcells_set es j e
    have e1 : ∀ x es, qcells (x :: es) = .int .i64 x.1.k :: .string x.1.s :: .int .i64 x.1.n :: .slice x.1.a x.1.m x.1.c :: .int .i64 x.2.k :: .string x.2.s :: .int .i64 x.2.n :: .slice x.2.a x.2.m x.2.c :: qcells es := fun _ _ => rfl
    rw [List.set_cons_succ, e1, e1, ← ih, show (j + 1) * 8 = j * 8 + 1 + 1 + 1 + 1 + 1 + 1 + 1 + 1 by omega]
    rfl
/-- Pairs and the trees that they are. -/
structure Vp (w : World) (F : Nat → Prop) (d : Nat) (e : PE) (t : RT × RT) : Prop where
  f : Vl w F d e.1 t.1
  v : Vl w F d e.2 t.2
structure Vps (w : World) (F : Nat → Prop) (d : Nat) (es : List PE) (l : List (RT × RT)) : Prop where
  len : es.length = l.length
  el : ∀ (j : Nat) (e : PE) (t : RT × RT), es[j]? = some e → l[j]? = some t → Vp w F d e t
theorem Vps.set {w : World} {F : Nat → Prop} {d : Nat} {es : List PE} {l : List (RT × RT)} {e : PE} {t : RT × RT} (h : Vps w F d es l) (j : Nat) (ht : Vp w F d e t) : Vps w F d (es.set j e) (l.set j t) := by
  refine ⟨by simp [h.len], fun i e' t' he ht' => ?_⟩
  by_cases hij : j = i
  · subst hij
    rw [List.getElem?_set_self'] at he ht'
    cases h1 : es[j]? with
    | none => rw [h1] at he; simp at he
    | some x =>
      cases h2 : l[j]? with
      | none => rw [h2] at ht'; simp at ht'
      | some y =>
        rw [h1] at he; rw [h2] at ht'
        simp at he ht'; subst he ht'; exact ht
  · rw [List.getElem?_set_ne hij] at he ht'
    exact h.el i e' t' he ht'
theorem Vps.at {w : World} {F : Nat → Prop} {d : Nat} {es : List PE} {l : List (RT × RT)} (h : Vps w F d es l) {g : Nat} (hF : ¬ F g) {w' : World} (hs : Stay w w' [g]) {j : Nat} (hj : j < es.length) : ∃ e t, es[j]? = some e ∧ l[j]? = some t ∧ Vp w F d e t ∧ VL w' d e.1 t.1 ∧ VL w' d e.2 t.2 := by
  have h2 : j < l.length := by rw [← h.len]; exact hj
  have hk : ∀ k, k < w.heap.size → F k → w'.heap[k]? = w.heap[k]? := fun k hk hf => hs.block k hk (by simp; rintro rfl; exact hF hf)
  have h3 := h.el j _ _ (List.getElem?_eq_getElem hj) (List.getElem?_eq_getElem h2)
  exact ⟨es[j], l[j], List.getElem?_eq_getElem hj, List.getElem?_eq_getElem h2, h3, (h3.f.keep hk).lo, (h3.v.keep hk).lo⟩
theorem Vps.keep {w w' : World} {F : Nat → Prop} {d : Nat} {es : List PE} {l : List (RT × RT)} (h : Vps w F d es l) (hF : ∀ g, g < w.heap.size → F g → w'.heap[g]? = w.heap[g]?) : Vps w' F d es l := ⟨h.len, fun j e t he ht => ⟨(h.el j e t he ht).f.keep hF, (h.el j e t he ht).v.keep hF⟩⟩
/-- A row of pairs of the call's own. -/
abbrev OwnP (w : World) (B : Nat) (a : Option Addr) (n c : Nat) (es : List PE) : Prop := OwnR w B 66 8 a n c (qcells es)
theorem OwnP.len {w : World} {B : Nat} {a : Option Addr} {n c : Nat} {es : List PE} (h : OwnP w B a n c es) : es.length = n := by have := OwnR.len h; rw [qcells_len] at this; omega
theorem OwnP.cells {w : World} {B g n c : Nat} {es : List PE} (h : OwnP w B (some ⟨g, 0, none⟩) n c es) {j : Nat} {e : PE} (hj : es[j]? = some e) : w.cell? ⟨g, j * 8, none⟩ = some (.int .i64 e.1.k) ∧ w.cell? ⟨g, j * 8 + 1, none⟩ = some (.string e.1.s) ∧ w.cell? ⟨g, j * 8 + 2, none⟩ = some (.int .i64 e.1.n) ∧ w.cell? ⟨g, j * 8 + 3, none⟩ = some (.slice e.1.a e.1.m e.1.c) ∧ w.cell? ⟨g, j * 8 + 4, none⟩ = some (.int .i64 e.2.k) ∧ w.cell? ⟨g, j * 8 + 5, none⟩ = some (.string e.2.s) ∧ w.cell? ⟨g, j * 8 + 6, none⟩ = some (.int .i64 e.2.n) ∧ w.cell? ⟨g, j * 8 + 7, none⟩ = some (.slice e.2.a e.2.m e.2.c) := by
  have hl := OwnP.len h
  have hj' : j < es.length := (List.getElem?_eq_some_iff.1 hj).1
  obtain ⟨g', e1, h2⟩ := OwnR.at h (by omega)
  cases e1
  obtain ⟨k1, k2, k3, k4, k5, k6, k7, k8⟩ := qcells_get es j e hj
  exact ⟨h2 _ _ k1, h2 _ _ k2, h2 _ _ k3, h2 _ _ k4, h2 _ _ k5, h2 _ _ k6, h2 _ _ k7, h2 _ _ k8⟩
theorem OwnP.set8 {w : World} {B g n c : Nat} {es : List PE} (h : OwnP w B (some ⟨g, 0, none⟩) n c es) (j : Nat) (e : PE) : OwnP ((((((((w.setCell ⟨g, j * 8, none⟩ (.int .i64 e.1.k)).setCell ⟨g, j * 8 + 1, none⟩ (.string e.1.s)).setCell ⟨g, j * 8 + 2, none⟩ (.int .i64 e.1.n)).setCell ⟨g, j * 8 + 3, none⟩ (.slice e.1.a e.1.m e.1.c)).setCell ⟨g, j * 8 + 4, none⟩ (.int .i64 e.2.k)).setCell ⟨g, j * 8 + 5, none⟩ (.string e.2.s)).setCell ⟨g, j * 8 + 6, none⟩ (.int .i64 e.2.n)).setCell ⟨g, j * 8 + 7, none⟩ (.slice e.2.a e.2.m e.2.c)) B (some ⟨g, 0, none⟩) n c (es.set j e) := by
  rcases h.2 with ⟨h2, h3⟩ | ⟨g', c', cur, h1, h3, h4, h5, h6, h7, h8⟩
  · cases h2
  · cases h1
    refine ⟨?_, .inr ⟨g, c, ((((((((cur.setIfInBounds (j * 8) (.int .i64 e.1.k)).setIfInBounds (j * 8 + 1) (.string e.1.s)).setIfInBounds (j * 8 + 2) (.int .i64 e.1.n)).setIfInBounds (j * 8 + 3) (.slice e.1.a e.1.m e.1.c)).setIfInBounds (j * 8 + 4) (.int .i64 e.2.k)).setIfInBounds (j * 8 + 5) (.string e.2.s)).setIfInBounds (j * 8 + 6) (.int .i64 e.2.n)).setIfInBounds (j * 8 + 7) (.slice e.2.a e.2.m e.2.c)), rfl, h3, (heap_set (heap_set (heap_set (heap_set (heap_set (heap_set (heap_set (heap_set h4 _) _) _) _) _) _) _) _), h5, h6, by simpa using h7, ?_⟩⟩
    · rw [qcells_len, List.length_set, ← qcells_len]; exact h.1
    · simp only [Array.toList_setIfInBounds, List.take_set, h8]
      exact qcells_set es j e
theorem Stay.set8 {w : World} {q o1 o2 o3 o4 o5 o6 o7 o8 : Nat} {v1 v2 v3 v4 v5 v6 v7 v8 : Value} : Stay w ((((((((w.setCell ⟨q, o1, none⟩ v1).setCell ⟨q, o2, none⟩ v2).setCell ⟨q, o3, none⟩ v3).setCell ⟨q, o4, none⟩ v4).setCell ⟨q, o5, none⟩ v5).setCell ⟨q, o6, none⟩ v6).setCell ⟨q, o7, none⟩ v7).setCell ⟨q, o8, none⟩ v8) [q] :=
  (((Stay.set4.trans Stay.set (fun _ h => .inl h)).trans Stay.set (fun _ h => .inl h)).trans Stay.set (fun _ h => .inl h)).trans Stay.set (fun _ h => .inl h)
set_option maxRecDepth 100000 in
set_option maxHeartbeats 4000000 in
theorem comparePairs_any (d : Nat) (x y : PE) (tx ty : RT × RT) (w : World) (hx : VL w d x.1 tx.1) (hx2 : VL w d x.2 tx.2) (hy : VL w d y.1 ty.1) (hy2 : VL w d y.2 ty.2) :
    Calls Tryz.prog 43 #[PE.v x, PE.v y] w fun e w' => Below w.heap.size w w' ∧ e = .returned (.int .i64 (cmpT (pr tx) (pr ty))) := by
  have HC1 : Hid (∀ wx, Below w.heap.size w wx → Calls Tryz.prog 28 #[x.1.v, y.1.v] wx fun e w' => Below wx.heap.size wx w' ∧ e = .returned (.int .i64 (cmpT tx.1 ty.1))) := fun wx h => compare_all d _ _ _ _ wx (hx.kp h) (hy.kp h)
  have HC2 : Hid (∀ wx, Below w.heap.size w wx → Calls Tryz.prog 28 #[x.2.v, y.2.v] wx fun e w' => Below wx.heap.size wx w' ∧ e = .returned (.int .i64 (cmpT tx.2 ty.2))) := fun wx h => compare_all d _ _ _ _ wx (hx2.kp h) (hy2.kp h)
  clear hx hx2 hy hy2
  rw [cmp_pr]
  generalize cmpT tx.1 ty.1 = z1 at HC1
  generalize cmpT tx.2 ty.2 = z2 at HC2
  obtain ⟨⟨xk1, xs1, xn1, xa1, xm1, xc1⟩, ⟨xk2, xs2, xn2, xa2, xm2, xc2⟩⟩ := x
  obtain ⟨⟨yk1, ys1, yn1, ya1, ym1, yc1⟩, ⟨yk2, ys2, yn2, ya2, ym2, yc2⟩⟩ := y
  obtain ⟨r, hr⟩ : ∃ r, orI z1 z2 = r := ⟨_, rfl⟩
  rw [hr]
  have HR : Hid (orI z1 z2 = r) := hr
  clear hr
  simp only [El.v] at HC1 HC2
  simp only [PE.v]
  obtain ⟨w0, hw0⟩ : ∃ w0, w.alloc (.cells #[.int .i64 xk1, .string xs1, .int .i64 xn1, .slice xa1 xm1 xc1, .int .i64 xk2, .string xs2, .int .i64 xn2, .slice xa2 xm2 xc2] 66) = w0 := ⟨_, rfl⟩
  obtain ⟨w1, hw1⟩ : ∃ w1, w0.alloc (.cells #[.int .i64 yk1, .string ys1, .int .i64 yn1, .slice ya1 ym1 yc1, .int .i64 yk2, .string ys2, .int .i64 yn2, .slice ya2 ym2 yc2] 66) = w1 := ⟨_, rfl⟩
  have HB1 : Hid (Below w.heap.size w w1) := by
    rw [← hw1, ← hw0]; exact below2 w _ _
  have HCs : Hid (∀ wx, Below w1.heap.size w1 wx → (wx.cell? ⟨w.heap.size, 0, none⟩ = some (.int .i64 xk1) ∧ wx.cell? ⟨w.heap.size, 1, none⟩ = some (.string xs1) ∧ wx.cell? ⟨w.heap.size, 2, none⟩ = some (.int .i64 xn1) ∧ wx.cell? ⟨w.heap.size, 3, none⟩ = some (.slice xa1 xm1 xc1) ∧ wx.cell? ⟨w.heap.size, 4, none⟩ = some (.int .i64 xk2) ∧ wx.cell? ⟨w.heap.size, 5, none⟩ = some (.string xs2) ∧ wx.cell? ⟨w.heap.size, 6, none⟩ = some (.int .i64 xn2) ∧ wx.cell? ⟨w.heap.size, 7, none⟩ = some (.slice xa2 xm2 xc2)) ∧ (wx.cell? ⟨w0.heap.size, 0, none⟩ = some (.int .i64 yk1) ∧ wx.cell? ⟨w0.heap.size, 1, none⟩ = some (.string ys1) ∧ wx.cell? ⟨w0.heap.size, 2, none⟩ = some (.int .i64 yn1) ∧ wx.cell? ⟨w0.heap.size, 3, none⟩ = some (.slice ya1 ym1 yc1) ∧ wx.cell? ⟨w0.heap.size, 4, none⟩ = some (.int .i64 yk2) ∧ wx.cell? ⟨w0.heap.size, 5, none⟩ = some (.string ys2) ∧ wx.cell? ⟨w0.heap.size, 6, none⟩ = some (.int .i64 yn2) ∧ wx.cell? ⟨w0.heap.size, 7, none⟩ = some (.slice ya2 ym2 yc2))) := fun wx hx => by
    have hl0 : w.heap.size < w0.heap.size := by rw [← hw0]; exact alloc_lt w _ _
    have hl1 : w0.heap.size < w1.heap.size := by rw [← hw1]; exact alloc_lt w0 _ _
    have hb1 : Below w0.heap.size w0 w1 := by rw [← hw1]; exact alloc_below w0 _
    have h1 : wx.heap[w.heap.size]? = some (.cells #[.int .i64 xk1, .string xs1, .int .i64 xn1, .slice xa1 xm1 xc1, .int .i64 xk2, .string xs2, .int .i64 xn2, .slice xa2 xm2 xc2] 66 (0, 0)) := by
      rw [hx.block _ (Nat.lt_trans hl0 hl1), hb1.block _ hl0, ← hw0]; exact heap_alloc_new w _
    have h2 : wx.heap[w0.heap.size]? = some (.cells #[.int .i64 yk1, .string ys1, .int .i64 yn1, .slice ya1 ym1 yc1, .int .i64 yk2, .string ys2, .int .i64 yn2, .slice ya2 ym2 yc2] 66 (0, 0)) := by
      rw [hx.block _ hl1, ← hw1]; exact heap_alloc_new w0 _
    refine ⟨⟨?_, ?_, ?_, ?_, ?_, ?_, ?_, ?_⟩, ⟨?_, ?_, ?_, ?_, ?_, ?_, ?_, ?_⟩⟩
    all_goals
      simp only [World.cell?, h1, h2]
      rfl
  obtain ⟨⟨p0, p1, p2, p3, p4, p5, p6, p7⟩, ⟨q0, q1, q2, q3, q4, q5, q6, q7⟩⟩ := HCs.out w1 (Below.refl _ _)
  have H1 := HC1.out w1 HB1.out
  clear HC1
  go_enter Tryz.func43, Tryz.ntmps43
  go_wp2_with fail
  refine H1.mono ?_
  rintro e w2 ⟨hb, rfl⟩
  obtain ⟨⟨a0, a1, a2, a3, a4, a5, a6, a7⟩, ⟨b0, b1, b2, b3, b4, b5, b6, b7⟩⟩ := HCs.out w2 hb
  have HB2 := step_below HB1 hb
  have H2 := HC2.out w2 HB2.out
  clear hb HC2 H1 HCs p0 p1 p2 p3 p4 p5 p6 p7 q0 q1 q2 q3 q4 q5 q6 q7 hw0 hw1
  by_cases hz : z1 = 0
  · have hr : r = z2 := by rw [← HR.out, hz]; rfl
    clear HR
    subst hr hz
    go_wp2_with fail
    refine H2.mono ?_
    rintro e w5 ⟨hb, rfl⟩
    have HB5 := step_below HB2 hb
    clear hb H2
    go_wp2
    go_ret
    exact ⟨HB5.out, rfl⟩
  · have hr : r = z1 := by rw [← HR.out]; unfold orI; rw [if_neg hz]
    clear HR H2
    subst hr
    go_wp2
    go_ret
    exact ⟨HB2.out, rfl⟩
set_option maxRecDepth 100000 in
set_option maxHeartbeats 4000000 in
theorem insP_any (d : Nat) (F : Nat → Prop) (B g n c : Nat) (es : List PE) (ts : List (RT × RT)) (w : World) (h : OwnP w B (some ⟨g, 0, none⟩) n c es) (hv : Vps w F d es ts) (hF : ¬ F g) (hn : n ≤ 12) :
    Calls Tryz.prog 70 #[.slice (some ⟨g, 0, none⟩) n c, .int .i64 0, .int .i64 n, .func (.func 43) #[] #[]] w fun e w' => e = .returned (.tuple #[]) ∧ Stay w w' [g] ∧ ∃ es', OwnP w' B (some ⟨g, 0, none⟩) n c es' ∧ Vps w F d es' (sortP ts) := by
  have HO : Hid (OwnP w B (some ⟨g, 0, none⟩) n c es) := h
  have HV : Hid (Vps w F d es ts) := hv
  have HF : Hid (¬ F g) := hF
  have HGB : Hid (g < w.heap.size) := (OwnR.lt h rfl).2.1
  clear h hv hF
  go_enter Tryz.func70, Tryz.ntmps70
  go_wp2
  go_loopg [8] n (fun gk iv wr => ∃ (i : Nat) (r : List PE) (rs : List (RT × RT)), i + gk = n + 1 ∧ 1 ≤ i ∧ iv = .int .i64 i ∧ Hid (OwnP wr B (some ⟨g, 0, none⟩) n c r) ∧ Hid (Vps w F d r rs) ∧ Hid (Outr ltP ts i rs) ∧ Hid (Stay w wr [g]))
  case atStart => exact ⟨1, es, ts, by omega, by omega, by go_num, HO, HV, Outr.start ts, Stay.of_below (Below.refl _ _) _⟩
  case round =>
    obtain ⟨i, r, rs, hi, hi1, rfl, HR, HW, HT, HB⟩ := hrel
    by_cases h8 : (i : Int) < n
    · have HI : Hid (Insr ltP ts i i rs) := HT.out.inner (by rw [← HW.out.len, OwnP.len HR.out]; omega)
      obtain ⟨wb, hwb⟩ : ∃ wb, wb = wr := ⟨_, rfl⟩
      subst hwb
      obtain ⟨gq, hgq⟩ : ∃ gq, gq = gk := ⟨_, rfl⟩
      subst hgq
      go_wp2
      go_loopg [9] i (fun gk jv wr => ∃ (r : List PE) (rs : List (RT × RT)), jv = .int .i64 gk ∧ gk ≤ i ∧ Hid (OwnP wr B (some ⟨g, 0, none⟩) n c r) ∧ Hid (Vps w F d r rs) ∧ Hid (Insr ltP ts i gk rs) ∧ Hid (Stay w wr [g]))
      case atStart => exact ⟨r, rs, rfl, Nat.le_refl _, HR, HW, HI, HB⟩
      case round =>
        obtain ⟨r2, rs2, rfl, hji, HR2, HW2, HI2, HB2⟩ := hrel
        have hlen : r2.length = n := OwnP.len HR2.out
        have HStop : Hid (gk = 0 ∨ ltP (rs2.getD gk (RT.z, RT.z)) (rs2.getD (gk - 1) (RT.z, RT.z)) = false → Hid (Outr ltP ts (i + 1) rs2)) := fun hs => HI2.out.stop tot_P (RT.z, RT.z) hs
        by_cases hj0 : gk = 0
        · subst hj0
          have HO2 := HStop.out (.inl rfl)
          have HBd : Hid (∀ q, Stay w (wr.drewN q) [g]) := fun q => HB2.out.trans (Stay.of_below (below_drewN wr q) [g]) (fun _ h => .inl h)
          have HRd : Hid (∀ q, OwnP (wr.drewN q) B (some ⟨g, 0, none⟩) n c r2) := fun q => OwnR.keep HR2.out (below_drewN wr q)
          clear HStop
          go_upto_region 4 with fail
          go_quiet (fail)
          go_wp2
          go_roundg (gq - 1)
          case measure => omega
          case rel => exact ⟨i + 1, r2, rs2, by omega, by omega, by go_num, HRd.out _, HW2, HO2, HBd.out _⟩
        · obtain ⟨p, rfl⟩ : ∃ p, gk = p + 1 := ⟨gk - 1, by omega⟩
          obtain ⟨X, tx, hX, htx, hvx, hvX, hvX2⟩ := HW2.out.at HF.out HB2.out (j := p + 1) (by omega)
          obtain ⟨Y, ty, hY, hty, hvy, hvY, hvY2⟩ := HW2.out.at HF.out HB2.out (j := p) (by omega)
          have hgx := getD_of htx (RT.z, RT.z)
          have hgy := getD_of hty (RT.z, RT.z)
          have HSw : Hid (ltP tx ty = true → Insr ltP ts i p ((rs2.set (p + 1) ty).set p tx)) := fun hl => by
            have := HI2.out.swap (RT.z, RT.z) (by rw [hgx, hgy]; exact hl)
            rw [hgx, hgy] at this
            exact this
          have HStop2 : Hid (ltP tx ty = false → Outr ltP ts (i + 1) rs2) := fun hl => (HStop.out (.inr (by rw [Nat.add_sub_cancel, hgx, hgy]; exact hl))).out
          have HWn : Hid (Vps w F d ((r2.set (p + 1) Y).set p X) ((rs2.set (p + 1) ty).set p tx)) := (HW2.out.set (p + 1) hvy).set p hvx
          have hpos : (0 : Int) < (p : Int) + 1 := by omega
          have hp12 : p ≤ 12 := by omega
          have hw1 : IntKind.i64.wrap ((p : Int) + 1 - 1) = (p : Int) := by rw [IntKind.wrap_i64]; omega
          have hw2 : IntKind.i64.wrap (p : Int) = (p : Int) := by rw [IntKind.wrap_i64]; omega
          have hpn : p + 1 < n := by omega
          have hpn0 : p < n := by omega
          have hpi : (p : Int) < n := by omega
          have hpi1 : (p : Int) + 1 < n := by omega
          have hpi2 : (0 : Int) ≤ p := by omega
          have hpi3 : (0 : Int) ≤ (p : Int) + 1 := by omega
          have HRs : Hid (∀ wx, Below wr.heap.size wr wx → OwnP ((((((((((((((((wx.setCell ⟨g, (p + 1) * 8, none⟩ (.int .i64 Y.1.k)).setCell ⟨g, (p + 1) * 8 + 1, none⟩ (.string Y.1.s)).setCell ⟨g, (p + 1) * 8 + 2, none⟩ (.int .i64 Y.1.n)).setCell ⟨g, (p + 1) * 8 + 3, none⟩ (.slice Y.1.a Y.1.m Y.1.c)).setCell ⟨g, (p + 1) * 8 + 4, none⟩ (.int .i64 Y.2.k)).setCell ⟨g, (p + 1) * 8 + 5, none⟩ (.string Y.2.s)).setCell ⟨g, (p + 1) * 8 + 6, none⟩ (.int .i64 Y.2.n)).setCell ⟨g, (p + 1) * 8 + 7, none⟩ (.slice Y.2.a Y.2.m Y.2.c)).setCell ⟨g, p * 8, none⟩ (.int .i64 X.1.k)).setCell ⟨g, p * 8 + 1, none⟩ (.string X.1.s)).setCell ⟨g, p * 8 + 2, none⟩ (.int .i64 X.1.n)).setCell ⟨g, p * 8 + 3, none⟩ (.slice X.1.a X.1.m X.1.c)).setCell ⟨g, p * 8 + 4, none⟩ (.int .i64 X.2.k)).setCell ⟨g, p * 8 + 5, none⟩ (.string X.2.s)).setCell ⟨g, p * 8 + 6, none⟩ (.int .i64 X.2.n)).setCell ⟨g, p * 8 + 7, none⟩ (.slice X.2.a X.2.m X.2.c)).drew B (some ⟨g, 0, none⟩) n c ((r2.set (p + 1) Y).set p X) ∧ Stay w ((((((((((((((((wx.setCell ⟨g, (p + 1) * 8, none⟩ (.int .i64 Y.1.k)).setCell ⟨g, (p + 1) * 8 + 1, none⟩ (.string Y.1.s)).setCell ⟨g, (p + 1) * 8 + 2, none⟩ (.int .i64 Y.1.n)).setCell ⟨g, (p + 1) * 8 + 3, none⟩ (.slice Y.1.a Y.1.m Y.1.c)).setCell ⟨g, (p + 1) * 8 + 4, none⟩ (.int .i64 Y.2.k)).setCell ⟨g, (p + 1) * 8 + 5, none⟩ (.string Y.2.s)).setCell ⟨g, (p + 1) * 8 + 6, none⟩ (.int .i64 Y.2.n)).setCell ⟨g, (p + 1) * 8 + 7, none⟩ (.slice Y.2.a Y.2.m Y.2.c)).setCell ⟨g, p * 8, none⟩ (.int .i64 X.1.k)).setCell ⟨g, p * 8 + 1, none⟩ (.string X.1.s)).setCell ⟨g, p * 8 + 2, none⟩ (.int .i64 X.1.n)).setCell ⟨g, p * 8 + 3, none⟩ (.slice X.1.a X.1.m X.1.c)).setCell ⟨g, p * 8 + 4, none⟩ (.int .i64 X.2.k)).setCell ⟨g, p * 8 + 5, none⟩ (.string X.2.s)).setCell ⟨g, p * 8 + 6, none⟩ (.int .i64 X.2.n)).setCell ⟨g, p * 8 + 7, none⟩ (.slice X.2.a X.2.m X.2.c)).drew [g]) := fun wx hx => by
            have h1 : OwnP wx B (some ⟨g, 0, none⟩) n c r2 := OwnR.keep HR2.out hx
            refine ⟨OwnR.keep (OwnP.set8 (OwnP.set8 h1 (p + 1) Y) p X) (below_drewN _ 1), ?_⟩
            exact (((HB2.out.trans (Stay.of_below hx [g]) (fun _ h => .inl h)).trans Stay.set8 (fun _ h => .inl h)).trans Stay.set8 (fun _ h => .inl h)).trans (Stay.of_below (below_drewN _ 1) [g]) (fun _ h => .inl h)
          have HBd : Hid (∀ wx, Below wr.heap.size wr wx → Stay w wx [g]) := fun wx hx => HB2.out.trans (Stay.of_below hx [g]) (fun _ h => .inl h)
          have HRd : Hid (∀ wx, Below wr.heap.size wr wx → OwnP wx B (some ⟨g, 0, none⟩) n c r2) := fun wx hx => OwnR.keep HR2.out hx
          have HFz : Hid (∀ wx, Below wr.heap.size wr wx → ∀ o, wx.frozen? ⟨g, o, none⟩ = false) := fun wx hx o => OwnR.fz (OwnR.keep HR2.out hx) o
          have HCs : Hid (∀ wx, Below wr.heap.size wr wx → (wx.cell? ⟨g, (p + 1) * 8, none⟩ = some (.int .i64 X.1.k) ∧ wx.cell? ⟨g, (p + 1) * 8 + 1, none⟩ = some (.string X.1.s) ∧ wx.cell? ⟨g, (p + 1) * 8 + 2, none⟩ = some (.int .i64 X.1.n) ∧ wx.cell? ⟨g, (p + 1) * 8 + 3, none⟩ = some (.slice X.1.a X.1.m X.1.c) ∧ wx.cell? ⟨g, (p + 1) * 8 + 4, none⟩ = some (.int .i64 X.2.k) ∧ wx.cell? ⟨g, (p + 1) * 8 + 5, none⟩ = some (.string X.2.s) ∧ wx.cell? ⟨g, (p + 1) * 8 + 6, none⟩ = some (.int .i64 X.2.n) ∧ wx.cell? ⟨g, (p + 1) * 8 + 7, none⟩ = some (.slice X.2.a X.2.m X.2.c)) ∧ wx.cell? ⟨g, p * 8, none⟩ = some (.int .i64 Y.1.k) ∧ wx.cell? ⟨g, p * 8 + 1, none⟩ = some (.string Y.1.s) ∧ wx.cell? ⟨g, p * 8 + 2, none⟩ = some (.int .i64 Y.1.n) ∧ wx.cell? ⟨g, p * 8 + 3, none⟩ = some (.slice Y.1.a Y.1.m Y.1.c) ∧ wx.cell? ⟨g, p * 8 + 4, none⟩ = some (.int .i64 Y.2.k) ∧ wx.cell? ⟨g, p * 8 + 5, none⟩ = some (.string Y.2.s) ∧ wx.cell? ⟨g, p * 8 + 6, none⟩ = some (.int .i64 Y.2.n) ∧ wx.cell? ⟨g, p * 8 + 7, none⟩ = some (.slice Y.2.a Y.2.m Y.2.c)) := fun wx hx => by
            have h1 : OwnP wx B (some ⟨g, 0, none⟩) n c r2 := OwnR.keep HR2.out hx
            exact ⟨OwnP.cells h1 hX, OwnP.cells h1 hY⟩
          have HLs : Hid (∀ wx, Below wr.heap.size wr wx → Calls Tryz.prog 43 #[PE.v X, PE.v Y] wx fun e w' => Below wx.heap.size wx w' ∧ e = .returned (.int .i64 (cmpT (pr tx) (pr ty)))) := fun wx hx => comparePairs_any d X Y tx ty wx (hvX.kp hx) (hvX2.kp hx) (hvY.kp hx) (hvY2.kp hx)
          have HQ : Hid (decide (cmpT (pr tx) (pr ty) < 0) = ltP tx ty) := rfl
          obtain ⟨⟨Xk1, Xs1, Xn1, Xa1, Xm1, Xc1⟩, ⟨Xk2, Xs2, Xn2, Xa2, Xm2, Xc2⟩⟩ := X
          obtain ⟨⟨Yk1, Ys1, Yn1, Ya1, Ym1, Yc1⟩, ⟨Yk2, Ys2, Yn2, Ya2, Ym2, Yc2⟩⟩ := Y
          simp only at HCs HRs
          simp only [PE.v] at HLs
          have HD : Hid (Below wr.heap.size wr wr.drew) := below_drewN wr 1
          generalize cmpT (pr tx) (pr ty) = z at HLs HQ
          clear HStop hlen hX hY htx hty hvx hvX hvX2 hvy hvY hvY2 hgx hgy
          have hn24 : (p + 1) * 8 ≤ 104 := by omega
          go_upto_region 4 with fail
          go_cut [34] from 18 to 34 (fun u wx => ∃ wy, wy = wx ∧ u = .bool (ltP tx ty) ∧ Hid (Below wr.heap.size wr wy))
          case first =>
            go_region_held3 (fun w' => (w'.cell? ⟨g, (p + 1) * 8, none⟩ = some (.int .i64 Xk1) ∧ w'.cell? ⟨g, (p + 1) * 8 + 1, none⟩ = some (.string Xs1) ∧ w'.cell? ⟨g, (p + 1) * 8 + 2, none⟩ = some (.int .i64 Xn1) ∧ w'.cell? ⟨g, (p + 1) * 8 + 3, none⟩ = some (.slice Xa1 Xm1 Xc1) ∧ w'.cell? ⟨g, (p + 1) * 8 + 4, none⟩ = some (.int .i64 Xk2) ∧ w'.cell? ⟨g, (p + 1) * 8 + 5, none⟩ = some (.string Xs2) ∧ w'.cell? ⟨g, (p + 1) * 8 + 6, none⟩ = some (.int .i64 Xn2) ∧ w'.cell? ⟨g, (p + 1) * 8 + 7, none⟩ = some (.slice Xa2 Xm2 Xc2)) ∧ w'.cell? ⟨g, p * 8, none⟩ = some (.int .i64 Yk1) ∧ w'.cell? ⟨g, p * 8 + 1, none⟩ = some (.string Ys1) ∧ w'.cell? ⟨g, p * 8 + 2, none⟩ = some (.int .i64 Yn1) ∧ w'.cell? ⟨g, p * 8 + 3, none⟩ = some (.slice Ya1 Ym1 Yc1) ∧ w'.cell? ⟨g, p * 8 + 4, none⟩ = some (.int .i64 Yk2) ∧ w'.cell? ⟨g, p * 8 + 5, none⟩ = some (.string Ys2) ∧ w'.cell? ⟨g, p * 8 + 6, none⟩ = some (.int .i64 Yn2) ∧ w'.cell? ⟨g, p * 8 + 7, none⟩ = some (.slice Ya2 Ym2 Yc2)) (exact HCs.out _ HD.out) (first
              | (go_at_call 43; refine (HLs.out _ HD.out).mono ?_; rintro e wx ⟨hb, rfl⟩; replace HD := step_below HD hb; clear hb))
            all_goals
              go_wp2
              go_meet
              exact ⟨_, rfl, by rw [← HQ.out], HD⟩
          case rest =>
          obtain ⟨w3, rfl, rfl, HD3⟩ := hcut
          clear HLs HD HQ
          cases hb : ltP tx ty
          · have HO2 : Hid (Outr ltP ts (i + 1) rs2) := HStop2.out hb
            clear hb HSw HRs
            go_wp2
            go_roundg (gq - 1)
            case measure => omega
            case rel => exact ⟨i + 1, r2, rs2, by omega, by omega, by go_num, HRd.out _ HD3.out, HW2, HO2, HBd.out _ HD3.out⟩
          · have HI3 : Hid (Insr ltP ts i p ((rs2.set (p + 1) ty).set p tx)) := HSw.out hb
            clear hb HStop2
            obtain ⟨⟨s1, s2, s3, s4, s5, s6, s7, s8⟩, ⟨u1, u2, u3, u4, u5, u6, u7, u8⟩⟩ := HCs.out _ HD3.out
            have fz0 := HFz.out _ HD3.out ((p + 1) * 8)
            have fz1 := HFz.out _ HD3.out ((p + 1) * 8 + 1)
            have fz2 := HFz.out _ HD3.out ((p + 1) * 8 + 2)
            have fz3 := HFz.out _ HD3.out ((p + 1) * 8 + 3)
            have fz4 := HFz.out _ HD3.out ((p + 1) * 8 + 4)
            have fz5 := HFz.out _ HD3.out ((p + 1) * 8 + 5)
            have fz6 := HFz.out _ HD3.out ((p + 1) * 8 + 6)
            have fz7 := HFz.out _ HD3.out ((p + 1) * 8 + 7)
            have fy0 := HFz.out _ HD3.out (p * 8)
            have fy1 := HFz.out _ HD3.out (p * 8 + 1)
            have fy2 := HFz.out _ HD3.out (p * 8 + 2)
            have fy3 := HFz.out _ HD3.out (p * 8 + 3)
            have fy4 := HFz.out _ HD3.out (p * 8 + 4)
            have fy5 := HFz.out _ HD3.out (p * 8 + 5)
            have fy6 := HFz.out _ HD3.out (p * 8 + 6)
            have fy7 := HFz.out _ HD3.out (p * 8 + 7)
            have HRx : Hid _ := HRs.out _ HD3.out
            clear HRs HCs HFz
            go_upto_region 6 with fail
            go_region
            all_goals
              go_wp2
              go_roundg p
              case measure => omega
              case rel => exact ⟨_, _, by go_num, by omega, HRx.out.1, HWn, HI3, HRx.out.2⟩
    · have HE : Hid (rs.Perm ts ∧ Std ltP rs) := HT.out.done (by rw [← HW.out.len, OwnP.len HR.out]; omega)
      have HS : Hid (Vps w F d r (sortP ts)) := by rw [← sortP_of HE.out.1 HE.out.2]; exact HW
      go_wp2
      go_end0
      exact ⟨rfl, HB.out, r, HR.out, HS.out⟩
end Go.Proofs.YtiamgnfbgiognaaGreatDoor
