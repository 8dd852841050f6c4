/-
  A reply's block; Same.
-/
import Derived.Test.YtiamgnfbgiognaaGreatDoorSa
namespace Go.Proofs.YtiamgnfbgiognaaGreatDoor
open Go.RowKit Go.PlainAid

/-- A block that holds a reply. -/
structure BR (w : World) (g : Nat) (k : Int) (s : ByteArray) (n : Int) (a : Option Addr) (m c : Nat) : Prop where
  blk : w.heap[g]? = some (.cells #[.int .i64 k, .string s, .int .i64 n, .slice a m c] 24 (0, 0))
section
variable {w w' : World} {g : Nat} {k : Int} {s : ByteArray} {n : Int} {a : Option Addr} {m c : Nat}
theorem BR.lt (h : BR w g k s n a m c) : g < w.heap.size := (Array.getElem?_eq_some_iff.1 h.blk).1
theorem BR.c0 (h : BR w g k s n a m c) : w.cell? ⟨g, 0, none⟩ = some (.int .i64 k) := by simp only [World.cell?, h.blk]; rfl
theorem BR.c1 (h : BR w g k s n a m c) : w.cell? ⟨g, 1, none⟩ = some (.string s) := by simp only [World.cell?, h.blk]; rfl
theorem BR.c2 (h : BR w g k s n a m c) : w.cell? ⟨g, 2, none⟩ = some (.int .i64 n) := by simp only [World.cell?, h.blk]; rfl
theorem BR.c3 (h : BR w g k s n a m c) : w.cell? ⟨g, 3, none⟩ = some (.slice a m c) := by simp only [World.cell?, h.blk]; rfl
theorem BR.fz (h : BR w g k s n a m c) (o : Nat) : w.frozen? ⟨g, o, none⟩ = false := by simp [World.frozen?, h.blk]
theorem BR.kept (h : BR w g k s n a m c) (hb : w'.heap[g]? = w.heap[g]?) : BR w' g k s n a m c := ⟨by rw [hb]; exact h.blk⟩
theorem BR.keep (h : BR w g k s n a m c) (hb : Below w.heap.size w w') : BR w' g k s n a m c := h.kept (hb.block g h.lt)
theorem BR.new (w : World) (k : Int) (s : ByteArray) (n : Int) (a : Option Addr) (m c : Nat) : BR (w.alloc (.cells #[.int .i64 k, .string s, .int .i64 n, .slice a m c] 24)) w.heap.size k s n a m c := ⟨heap_alloc_new w _⟩
theorem BR.put (h : BR w g k s n a m c) (k' : Int) (s' : ByteArray) (n' : Int) (a' : Option Addr) (m' c' : Nat) : BR ((((w.setCell ⟨g, 0, none⟩ (.int .i64 k')).setCell ⟨g, 1, none⟩ (.string s')).setCell ⟨g, 2, none⟩ (.int .i64 n')).setCell ⟨g, 3, none⟩ (.slice a' m' c')) g k' s' n' a' m' c' := by
  refine ⟨?_⟩
  rw [heap_set (heap_set (heap_set (heap_set h.blk _) _) _) _]
  rfl
theorem BR.put3 (h : BR w g k s n a m c) (a' : Option Addr) (m' c' : Nat) : BR (w.setCell ⟨g, 3, none⟩ (.slice a' m' c')) g k s n a' m' c' := by
  refine ⟨?_⟩
  rw [heap_set h.blk _]
  rfl
end
theorem Stay.set4 {w : World} {q o1 o2 o3 o4 : Nat} {v1 v2 v3 v4 : Value} : Stay w ((((w.setCell ⟨q, o1, none⟩ v1).setCell ⟨q, o2, none⟩ v2).setCell ⟨q, o3, none⟩ v3).setCell ⟨q, o4, none⟩ v4) [q] :=
  ((Stay.set.trans Stay.set (fun _ h => .inl h)).trans Stay.set (fun _ h => .inl h)).trans Stay.set (fun _ h => .inl h)
theorem BR.stay {w w' : World} {g : Nat} {k : Int} {s : ByteArray} {n : Int} {a : Option Addr} {m c : Nat} {M : List Nat} (h : BR w g k s n a m c) (hs : Stay w w' M) (hn : g ∉ M) : BR w' g k s n a m c := h.kept (hs.block g h.lt hn)

theorem RT.eta (t : RT) : RT.mk t.k t.s t.n t.l = t := by cases t; rfl
/-- They tell the same. -/
def sameT (t t' : RT) : Bool := decide (cmpT (can t) (can t') = 0)
theorem can_t (t : RT) : can t = .mk (mean t.k t.s t.n t.l).k (mean t.k t.s t.n t.l).s (mean t.k t.s t.n t.l).n ((mean t.k t.s t.n t.l).l.map can) := by
  obtain ⟨k, s, n, l⟩ := t
  rw [can_mk]
  show RT.mk _ _ _ _ = RT.mk k _ _ ((if hasL k then l else []).map can)
  congr 1
  split <;> rfl
/-- Of two with what counts alone: the same fields, and parts that tell the same. -/
theorem same_iff (t t' : RT) : sameT t t' = true ↔ (mean t.k t.s t.n t.l).k = (mean t'.k t'.s t'.n t'.l).k ∧ (mean t.k t.s t.n t.l).s = (mean t'.k t'.s t'.n t'.l).s ∧ (mean t.k t.s t.n t.l).n = (mean t'.k t'.s t'.n t'.l).n ∧ (mean t.k t.s t.n t.l).l.map can = (mean t'.k t'.s t'.n t'.l).l.map can := by
  unfold sameT
  rw [decide_eq_true_eq, cmpT_zero, can_t t, can_t t']
  constructor
  · intro h; injection h with h1 h2 h3 h4; exact ⟨h1, h2, h3, h4⟩
  · rintro ⟨h1, h2, h3, h4⟩; rw [h1, h2, h3, h4]
theorem str_beq (s t : ByteArray) : (s.toList == t.toList) = decide (s = t) := by
  rw [ByteArray.toList_eq, ByteArray.toList_eq]
  by_cases h : s = t
  · rw [decide_eq_true h, h]; simp
  · rw [decide_eq_false h, beq_eq_false_iff_ne]
    exact fun e => h (bytes_ext e)
/-- One of the parts. -/
theorem Hd.get {w : World} {F : Nat → Prop} {d : Nat} {a : Option Addr} {m c : Nat} {l : List RT} (h : Hd w F d a m c l) {j : Nat} (hj : j < m) :
    ∃ d' g o e t, d = d' + 1 ∧ a = some ⟨g, o, none⟩ ∧ F g ∧ l[j]? = some t ∧ Vl w F d' e t ∧ w.cell? ⟨g, o + j * 4, none⟩ = some (.int .i64 e.k) ∧ w.cell? ⟨g, o + j * 4 + 1, none⟩ = some (.string e.s) ∧ w.cell? ⟨g, o + j * 4 + 2, none⟩ = some (.int .i64 e.n) ∧ w.cell? ⟨g, o + j * 4 + 3, none⟩ = some (.slice e.a e.m e.c) := by
  cases d with
  | zero => obtain ⟨-, h⟩ := h; have := h.len; simp at this; omega
  | succ d =>
    obtain ⟨es, h1, h2, h3⟩ := h.ex
    obtain ⟨e, t, k1, k2, k3⟩ := h3.get (j := j) (by rw [h1.len]; exact hj)
    obtain ⟨g, o, r1, r2, r3⟩ := h1.cell j e k1
    exact ⟨d, g, o, e, t, rfl, r1, r2, k2, k3, r3⟩
theorem map_take_succ {α : Type} (f : RT → α) {l l' : List RT} {i : Nat} {t t' : RT} (h : l[i]? = some t) (h' : l'[i]? = some t') (he : (l.take i).map f = (l'.take i).map f) (hf : f t = f t') : (l.take (i + 1)).map f = (l'.take (i + 1)).map f := by
  rw [List.take_add_one, List.take_add_one, h, h', List.map_append, List.map_append, he]
  simp [hf]
theorem map_ne_at {α : Type} (f : RT → α) {l l' : List RT} {i : Nat} {t t' : RT} (h : l[i]? = some t) (h' : l'[i]? = some t') (hf : ¬ f t = f t') : ¬ l.map f = l'.map f := by
  intro e
  have := congrArg (fun x => x[i]?) e
  simp only [List.getElem?_map, h, h', Option.map_some] at this
  exact hf (Option.some.inj this)
/-- The contract of Same for parts less deep. -/
def SameC (d : Nat) : Prop := ∀ (e e' : El) (t t' : RT) (w : World), VL w d e t → VL w d e' t' → Calls Tryz.prog 4 #[e.v, e'.v] w fun r w' => Below w.heap.size w w' ∧ r = .returned (.bool (sameT t t'))
set_option maxRecDepth 100000 in
set_option maxHeartbeats 4000000 in
theorem Same_step (d : Nat) (ih : ∀ d', d = d' + 1 → SameC d') : SameC d := by
  intro e e' t t' w h h'
  obtain ⟨em, hem⟩ : ∃ em, e.mean = em := ⟨_, rfl⟩
  obtain ⟨em', hem'⟩ : ∃ em', e'.mean = em' := ⟨_, rfl⟩
  have V1 := h.mean
  have V2 := h'.mean
  have HS := same_iff t t'
  rw [hem] at V1
  rw [hem'] at V2
  rw [← V1.k, ← V1.s, ← V1.n, ← V2.k, ← V2.s, ← V2.n] at HS
  have hL1 := V1.l
  have hL2 := V2.l
  generalize (mean t.k t.s t.n t.l).l = l1 at HS hL1
  generalize (mean t'.k t'.s t'.n t'.l).l = l2 at HS hL2
  generalize sameT t t' = b at HS
  have HM := meant_any e
  have HM' := meant_any e'
  rw [hem] at HM
  rw [hem'] at HM'
  clear V1 V2 h h' hem hem'
  obtain ⟨k, s, n, a, m, c⟩ := e
  obtain ⟨k', s', n', a', m', c'⟩ := e'
  obtain ⟨k1, s1, n1, a1, m1, c1⟩ := em
  obtain ⟨k2, s2, n2, a2, m2, c2⟩ := em'
  simp only at HS hL1 hL2
  replace HS : Hid _ := HS
  have HL1 : Hid _ := hL1
  have HL2 : Hid _ := hL2
  have HN : Hid (l1.length = m1 ∧ m1 ≤ 12 ∧ l2.length = m2) := ⟨hL1.len.1, hL1.len.2, hL2.len.1⟩
  clear hL1 hL2
  simp only [El.v] at HM HM' ⊢
  obtain ⟨w0, hw0⟩ : ∃ w0, w.alloc (.cells #[.int .i64 k, .string s, .int .i64 n, .slice a m c] 24) = w0 := ⟨_, rfl⟩
  obtain ⟨w1, hw1⟩ : ∃ w1, w0.alloc (.cells #[.int .i64 k', .string s', .int .i64 n', .slice a' m' c'] 24) = w1 := ⟨_, rfl⟩
  have HB1 : Hid (Below w.heap.size w w1.drew) := by
    rw [← hw1, ← hw0]; exact (below2 w _ _).drew
  have HA : Hid (BR w1.drew w.heap.size k s n a m c) := by
    rw [← hw1, ← hw0]; exact ((BR.new w k s n a m c).keep (alloc_below _ _)).keep (below_drewN _ 1)
  have HBb : Hid (BR w1.drew w0.heap.size k' s' n' a' m' c') := by
    rw [← hw1]; exact (BR.new w0 k' s' n' a' m' c').keep (below_drewN _ 1)
  have HNe : Hid (w.heap.size < w0.heap.size) := by rw [← hw0]; exact alloc_lt w _ _
  have HF : Hid (∀ w3, BR w3 w.heap.size k s n a m c → BR w3 w0.heap.size k' s' n' a' m' c' → Below w.heap.size w w3 → ∀ w4, w4 = (((((((w3.setCell ⟨w.heap.size, 0, none⟩ (.int .i64 k1)).setCell ⟨w.heap.size, 1, none⟩ (.string s1)).setCell ⟨w.heap.size, 2, none⟩ (.int .i64 n1)).setCell ⟨w.heap.size, 3, none⟩ (.slice a1 m1 c1)).setCell ⟨w0.heap.size, 0, none⟩ (.int .i64 k2)).setCell ⟨w0.heap.size, 1, none⟩ (.string s2)).setCell ⟨w0.heap.size, 2, none⟩ (.int .i64 n2)).setCell ⟨w0.heap.size, 3, none⟩ (.slice a2 m2 c2) → Hid (BR w4 w.heap.size k1 s1 n1 a1 m1 c1) ∧ Hid (BR w4 w0.heap.size k2 s2 n2 a2 m2 c2) ∧ Hid (Below w.heap.size w w4)) := by
    intro w3 h1 h2 h3 w4 h4
    have hne := HNe.out
    subst h4
    refine ⟨(h1.put k1 s1 n1 a1 m1 c1).stay Stay.set4 (by simp; omega), (h2.stay Stay.set4 (by simp; omega)).put k2 s2 n2 a2 m2 c2, h3.trans ?_⟩
    exact (Stay.set4.below (w := w3) (fun i hi => by simp at hi; omega) h3.size).trans (Stay.set4.below (fun i hi => by simp at hi; omega) (Nat.le_trans h3.size Stay.set4.size))
  go_enter Tryz.func4, Tryz.ntmps4
  go_upto_region 1 with fail
  go_cut [7, 8, 9, 10] from 7 to 10 (fun u7 u8 u9 u10 wx => ∃ wy, wy = wx ∧ Hid (BR wy w.heap.size k1 s1 n1 a1 m1 c1) ∧ Hid (BR wy w0.heap.size k2 s2 n2 a2 m2 c2) ∧ Hid (Below w.heap.size w wy))
  case first =>
    have hne1 : ¬ w.heap.size = w0.heap.size := by have := HNe.out; omega
    have hne2 : ¬ w0.heap.size = w.heap.size := by have := HNe.out; omega
    have p0 := HA.out.c0
    have p1 := HA.out.c1
    have p2 := HA.out.c2
    have p3 := HA.out.c3
    have q0 := HBb.out.c0
    have q1 := HBb.out.c1
    have q2 := HBb.out.c2
    have q3 := HBb.out.c3
    go_region_with (first
      | (go_at_call 17; have HB2' := HB2; clear HB2'; refine (HM' _).mono ?_; rintro e w3 ⟨hb, rfl⟩; have HB3 := step_below HB2 hb; have HA3 : Hid _ := HA2.out.keep hb; have HBb3 : Hid _ := HBb2.out.keep hb; have x0 := HA3.out.c0; have x1 := HA3.out.c1; have x2 := HA3.out.c2; have x3 := HA3.out.c3; have y0 := HBb3.out.c0; have y1 := HBb3.out.c1; have y2 := HBb3.out.c2; have y3 := HBb3.out.c3; have f0 := HA3.out.fz 0; have f1 := HA3.out.fz 1; have f2 := HA3.out.fz 2; have f3 := HA3.out.fz 3; have g0 := HBb3.out.fz 0; have g1 := HBb3.out.fz 1; have g2 := HBb3.out.fz 2; have g3 := HBb3.out.fz 3; clear hb)
      | (go_at_call 17; refine (HM _).mono ?_; rintro e w2 ⟨hb, rfl⟩; have HB2 := step_below HB1 hb; have HA2 : Hid _ := HA.out.keep hb; have HBb2 : Hid _ := HBb.out.keep hb; have r0 := HBb2.out.c0; have r1 := HBb2.out.c1; have r2 := HBb2.out.c2; have r3 := HBb2.out.c3; clear hb))
    all_goals
      go_wp2
      go_meet
      exact ⟨_, rfl, HF.out _ HA3.out HBb3.out HB3.out _ rfl⟩
  case rest =>
  obtain ⟨wy, rfl, HA1, HA2, HB2⟩ := hcut
  clear HF HM HM' HA HBb HB1 hw1
  have z0 := HA1.out.c0
  have z1 := HA1.out.c1
  have z2 := HA1.out.c2
  have z3 := HA1.out.c3
  have y0 := HA2.out.c0
  have y1 := HA2.out.c1
  have y2 := HA2.out.c2
  have y3 := HA2.out.c3
  have HEnd : Hid (¬ (k1 = k2 ∧ s1 = s2 ∧ n1 = n2 ∧ m1 = m2) → b = false) := fun h => by
    cases hb : b with
    | false => rfl
    | true =>
      obtain ⟨h1, h2, h3, h4⟩ := HS.out.1 hb
      have := congrArg List.length h4
      rw [List.length_map, List.length_map, HN.out.1, HN.out.2.2] at this
      exact absurd ⟨h1, h2, h3, this⟩ h
  by_cases hk : k1 = k2
  case neg =>
    have hb := HEnd.out (fun h => hk h.1)
    subst hb
    go_wp2
    go_ret
    exact ⟨HB2.out, rfl⟩
  by_cases hn : n1 = n2
  case neg =>
    have hb := HEnd.out (fun h => hn h.2.2.1)
    subst hb hk
    go_wp2
    go_ret
    exact ⟨HB2.out, rfl⟩
  by_cases hs : s1 = s2
  case neg =>
    have hb := HEnd.out (fun h => hs h.2.1)
    have hq : (s1.toList == s2.toList) = false := by rw [str_beq]; exact decide_eq_false hs
    have hq2 : (s1.toList != s2.toList) = true := by rw [bne, hq]; rfl
    subst hb hk hn
    go_wp2
    go_ret
    exact ⟨HB2.out, rfl⟩
  by_cases hm : m1 = m2
  case neg =>
    have hb := HEnd.out (fun h => hm h.2.2.2)
    have hmi : ¬ (m1 : Int) = m2 := by omega
    subst hb hk hn hs
    go_wp2
    go_ret
    exact ⟨HB2.out, rfl⟩
  subst hk hn hs hm
  clear HEnd
  go_wp2
  go_loopg [42] m1 (fun g iv wr => ∃ i : Nat, i + g = m1 ∧ iv = .int .i64 i ∧ Hid (Below wy.heap.size wy wr) ∧ Hid ((l1.take i).map can = (l2.take i).map can))
  case atStart => exact ⟨0, by omega, rfl, Below.refl _ _, (rfl : ([] : List RT) = [])⟩
  case round =>
    obtain ⟨i, hi, rfl, HB, HT⟩ := hrel
    by_cases h8 : (i : Int) < m1
    · have hBw : Below w.heap.size w wr := HB2.out.trans (HB.out.mono HB2.out.size)
      obtain ⟨d', g1, o1, e1, t1, hd, rfl, hg1, ht1, hv1, cx0, cx1, cx2, cx3⟩ := (Hd.keep (fun g hg _ => hBw.block g hg) d HL1.out).get (j := i) (by omega)
      obtain ⟨d2, g2, o2, e2, t2, hd2, rfl, hg2, ht2, hv2, cy0, cy1, cy2, cy3⟩ := (Hd.keep (fun g hg _ => hBw.block g hg) d HL2.out).get (j := i) (by omega)
      obtain rfl : d' = d2 := by omega
      obtain ⟨w5, hw5⟩ : ∃ w5, wr.alloc (.cells #[.int .i64 e1.k, .string e1.s, .int .i64 e1.n, .slice e1.a e1.m e1.c] 24) = w5 := ⟨_, rfl⟩
      have hb5 : Below wr.heap.size wr w5 := by rw [← hw5]; exact alloc_below wr _
      have HC : Hid (∀ wx, Below wr.heap.size wr wx → Calls Tryz.prog 4 #[e1.v, e2.v] wx fun r w' => Below wx.heap.size wx w' ∧ r = .returned (.bool (sameT t1 t2))) := fun wx hx => ih d' hd e1 e2 t1 t2 wx (hv1.lo.kp hx) (hv2.lo.kp hx)
      have HA5 : Hid (BR w5 wr.heap.size e1.k e1.s e1.n e1.a e1.m e1.c) := by rw [← hw5]; exact BR.new wr _ _ _ _ _ _
      have HCs : Hid (∀ wx, Below w5.heap.size w5 wx → wx.cell? ⟨wr.heap.size, 0, none⟩ = some (.int .i64 e1.k) ∧ wx.cell? ⟨wr.heap.size, 1, none⟩ = some (.string e1.s) ∧ wx.cell? ⟨wr.heap.size, 2, none⟩ = some (.int .i64 e1.n) ∧ wx.cell? ⟨wr.heap.size, 3, none⟩ = some (.slice e1.a e1.m e1.c) ∧ wx.cell? ⟨w0.heap.size, 3, none⟩ = some (.slice (some ⟨g2, o2, none⟩) m1 c2) ∧ wx.cell? ⟨g2, o2 + i * 4, none⟩ = some (.int .i64 e2.k) ∧ wx.cell? ⟨g2, o2 + i * 4 + 1, none⟩ = some (.string e2.s) ∧ wx.cell? ⟨g2, o2 + i * 4 + 2, none⟩ = some (.int .i64 e2.n) ∧ wx.cell? ⟨g2, o2 + i * 4 + 3, none⟩ = some (.slice e2.a e2.m e2.c)) := fun wx hx => by
        have h1 := HA5.out.keep hx
        have h2 := ((HA2.out.keep HB.out).keep hb5).keep hx
        have h3 : ∀ p : Addr, p.block < wr.heap.size → wx.cell? p = wr.cell? p := fun p hp => by
          rw [hx.cell (p := p) (Nat.lt_of_lt_of_le hp hb5.size), hb5.cell (p := p) hp]
        have hl2 := World.block_lt_of_cell? wr _ cy0
        exact ⟨h1.c0, h1.c1, h1.c2, h1.c3, h2.c3, by rw [h3 _ hl2]; exact cy0, by rw [h3 ⟨g2, o2 + i * 4 + 1, none⟩ hl2]; exact cy1, by rw [h3 ⟨g2, o2 + i * 4 + 2, none⟩ hl2]; exact cy2, by rw [h3 ⟨g2, o2 + i * 4 + 3, none⟩ hl2]; exact cy3⟩
      have HD : Hid (Below w5.heap.size w5 w5.drew) := below_drewN w5 1
      have HC5 : Hid (∀ wx, Below w5.heap.size w5 wx → Calls Tryz.prog 4 #[e1.v, e2.v] wx fun r w' => Below wx.heap.size wx w' ∧ r = .returned (.bool (sameT t1 t2))) := fun wx hx => HC.out wx (hb5.trans (hx.mono hb5.size))
      have HBn : Hid (∀ wx, Below w5.heap.size w5 wx → Below wy.heap.size wy wx) := fun wx hx => (HB.out.trans (hb5.mono HB.out.size)).trans (hx.mono (Nat.le_trans HB.out.size hb5.size))
      have HTy : Hid (sameT t1 t2 = true → (l1.take (i + 1)).map can = (l2.take (i + 1)).map can) := fun h => map_take_succ can ht1 ht2 HT.out (cmpT_zero.1 (of_decide_eq_true h))
      have HTn : Hid (sameT t1 t2 = false → b = false) := fun h => by
        cases hb : b with
        | false => rfl
        | true => exact absurd (HS.out.1 hb).2.2.2 (map_ne_at can ht1 ht2 (fun e => by unfold sameT at h; exact of_decide_eq_false h (cmpT_zero.2 e)))
      have hi12 : i ≤ 12 := by have := HN.out.2.1; omega
      have hin : i < m1 := by omega
      obtain ⟨ek1, es1, en1, ea1, em1, ec1⟩ := e1
      obtain ⟨ek2, es2, en2, ea2, em2, ec2⟩ := e2
      simp only [El.v] at HC5 HCs hw5 cx0 cx1 cx2 cx3
      generalize sameT t1 t2 = b2 at HC5 HTy HTn
      clear HC HA5 hv1 hv2 ht1 ht2 hb5 hBw hg1 hg2 cy0 cy1 cy2 cy3 z0 z1 z2 y0 y1 y2
      go_upto_region 7 with fail
      go_cut [54] from 47 to 54 (fun u wx => ∃ wz, wz = wx ∧ u = .bool (!b2) ∧ Hid (Below w5.heap.size w5 wz))
      case first =>
        go_region_held3 (fun w' => w'.cell? ⟨wr.heap.size, 0, none⟩ = some (.int .i64 ek1) ∧ w'.cell? ⟨wr.heap.size, 1, none⟩ = some (.string es1) ∧ w'.cell? ⟨wr.heap.size, 2, none⟩ = some (.int .i64 en1) ∧ w'.cell? ⟨wr.heap.size, 3, none⟩ = some (.slice ea1 em1 ec1) ∧ w'.cell? ⟨w0.heap.size, 3, none⟩ = some (.slice (some ⟨g2, o2, none⟩) m1 c2) ∧ w'.cell? ⟨g2, o2 + i * 4, none⟩ = some (.int .i64 ek2) ∧ w'.cell? ⟨g2, o2 + i * 4 + 1, none⟩ = some (.string es2) ∧ w'.cell? ⟨g2, o2 + i * 4 + 2, none⟩ = some (.int .i64 en2) ∧ w'.cell? ⟨g2, o2 + i * 4 + 3, none⟩ = some (.slice ea2 em2 ec2)) (exact HCs.out _ HD.out) (first
          | (go_at_call 4; refine (HC5.out _ HD.out).mono ?_; rintro e wx ⟨hb, rfl⟩; replace HD := step_below HD hb; clear hb))
        all_goals
          go_wp2
          go_meet
          exact ⟨_, rfl, rfl, HD⟩
      case rest =>
      obtain ⟨wz, rfl, rfl, HD3⟩ := hcut
      clear HD HC5 HCs
      cases b2
      · have hb := HTn.out rfl
        subst hb
        have HE : Hid (Below w.heap.size w wz) := HB2.out.trans ((HBn.out wz HD3.out).mono HB2.out.size)
        go_wp2
        go_ret
        exact ⟨HE.out, rfl⟩
      · have HT2 : Hid _ := HTy.out rfl
        have HB3 : Hid _ := HBn.out wz HD3.out
        go_wp2
        go_roundg (gk - 1)
        case measure => omega
        case rel => exact ⟨i + 1, by omega, by go_num, HB3, HT2⟩
    · have hb : b = true := by
        have hi2 : i = m1 := by omega
        have h1 := HT.out
        rw [List.take_of_length_le (by rw [HN.out.1]; omega), List.take_of_length_le (by rw [HN.out.2.2]; omega)] at h1
        exact HS.out.2 (by simpa using h1)
      subst hb
      have HE : Hid (Below w.heap.size w wr) := HB2.out.trans (HB.out.mono HB2.out.size)
      go_wp2
      go_ret
      exact ⟨HE.out, rfl⟩
theorem Same_all (d : Nat) : SameC d := by
  induction d with
  | zero => exact Same_step 0 (fun _ h => by omega)
  | succ d ih => exact Same_step (d + 1) (fun d' h => by cases h; exact ih)
end Go.Proofs.YtiamgnfbgiognaaGreatDoor
