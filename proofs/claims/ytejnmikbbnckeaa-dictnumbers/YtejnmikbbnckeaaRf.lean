/-
  The document's own dict in memory: New, part, at, Has, All.
-/
import Derived.Test.YtejnmikbbnckeaaBuckets
namespace Go.Proofs.Ytejnmikbbnckeaa
open Go.RowKit Go.PlainAid

/-- A part: its own depth, its bits, where its keys lie, its keys. -/
structure Rp where
  l : Nat
  q : Nat
  a : Option Addr
  n : Nat
  cap : Nat
  ks : List ByteArray
def Rp.pt (p : Rp) : Pt := (p.l, p.q)
def Rp.cells (p : Rp) : List Value := [.int .i64 (p.l : Nat), .int .u64 (p.q : Nat), .slice p.a p.n p.cap]
def rcells (ps : List Rp) : List Value := ps.flatMap Rp.cells
def rks (ps : List Rp) : List ByteArray := ps.flatMap Rp.ks
def rsh (ps : List Rp) : List Pt := ps.map Rp.pt
theorem rcells_append (a b : List Rp) : rcells (a ++ b) = rcells a ++ rcells b := List.flatMap_append ..
theorem rcells_len (ps : List Rp) : (rcells ps).length = ps.length * 3 := by
  induction ps with
  | nil => rfl
  | cons p ps ih => rw [rcells, List.flatMap_cons, List.length_append, List.length_cons]; rw [rcells] at ih; rw [ih]; simp [Rp.cells]; omega
theorem rcells_get {ps : List Rp} {j : Nat} {p : Rp} (h : ps[j]? = some p) : (rcells ps)[j * 3]? = some (.int .i64 (p.l : Nat)) ∧ (rcells ps)[j * 3 + 1]? = some (.int .u64 (p.q : Nat)) ∧ (rcells ps)[j * 3 + 2]? = some (.slice p.a p.n p.cap) := by
  induction ps generalizing j with
  | nil => simp at h
  | cons y ps ih =>
    have e1 : rcells (y :: ps) = .int .i64 (y.l : Nat) :: .int .u64 (y.q : Nat) :: .slice y.a y.n y.cap :: rcells ps := rfl
    rw [e1]
    cases j with
    | zero => simp at h; subst h; exact ⟨rfl, rfl, rfl⟩
    | succ j =>
      simp at h
      have := ih h
      rw [show (j + 1) * 3 = j * 3 + 1 + 1 + 1 by omega]
      simp only [List.getElem?_cons_succ]
      exact this
theorem rks_append (a b : List Rp) : rks (a ++ b) = rks a ++ rks b := List.flatMap_append ..
theorem rks_cons (p : Rp) (b : List Rp) : rks (p :: b) = p.ks ++ rks b := List.flatMap_cons ..

/-- The document's dict in memory. -/
structure RefD (w : World) (B r x g pr cap : Nat) (ps : List Rp) : Prop where
  blk : w.heap[r]? = some (.cells #[.int .u64 (x : Nat), .int .i64 (g : Nat), .slice (some ⟨pr, 0, none⟩) ps.length cap] 68 (0, 0))
  row : OwnR w B 65 3 (some ⟨pr, 0, none⟩) ps.length cap (rcells ps)
  key : ∀ p ∈ ps, OwnS w B p.a p.n p.cap p.ks
  low : B ≤ r
  seed : x < 18446744073709551616
  shp : Shp g (rsh ps)
  own : ∀ p ∈ ps, ∀ k ∈ p.ks, isIn p.pt (hsh x k) = true
  nod : (rks ps).Nodup
  siz : ∀ k ∈ rks ps, k.size ≤ maxLen
  le : (rks ps).length ≤ 1000000
  few : ps.length ≤ 65536
theorem RefD.lt {w : World} {B r x g pr cap : Nat} {ps : List Rp} (h : RefD w B r x g pr cap ps) : r < w.heap.size := (Array.getElem?_eq_some_iff.1 h.blk).1
theorem RefD.mv {w w' : World} {B r x g pr cap : Nat} {ps : List Rp} (h : RefD w B r x g pr cap ps) {p : TypeId → Bool} (hm : Mv p w w') (h1 : p 68 = false) (h2 : p 65 = false) (h3 : p 9 = false) : RefD w' B r x g pr cap ps :=
  ⟨by rw [hm.block r _ 68 h.blk h1]; exact h.blk, OwnR.mv h.row hm h2, fun p hp => OwnR.mv (h.key p hp) hm h3, h.low, h.seed, h.shp, h.own, h.nod, h.siz, h.le, h.few⟩
theorem RefD.keep {w w' : World} {B r x g pr cap : Nat} {ps : List Rp} (h : RefD w B r x g pr cap ps) (hb : Below w.heap.size w w') : RefD w' B r x g pr cap ps :=
  h.mv (p := fun _ => false) (Mv.of_below hb) rfl rfl rfl
theorem RefD.cseed {w : World} {B r x g pr cap : Nat} {ps : List Rp} (h : RefD w B r x g pr cap ps) : w.cell? ⟨r, 0, none⟩ = some (.int .u64 (x : Nat)) := by simp [World.cell?, h.blk]
theorem RefD.cdep {w : World} {B r x g pr cap : Nat} {ps : List Rp} (h : RefD w B r x g pr cap ps) : w.cell? ⟨r, 1, none⟩ = some (.int .i64 (g : Nat)) := by simp [World.cell?, h.blk]
theorem RefD.cpar {w : World} {B r x g pr cap : Nat} {ps : List Rp} (h : RefD w B r x g pr cap ps) : w.cell? ⟨r, 2, none⟩ = some (.slice (some ⟨pr, 0, none⟩) ps.length cap) := by simp [World.cell?, h.blk]
theorem RefD.at {w : World} {B r x g pr cap : Nat} {ps : List Rp} (h : RefD w B r x g pr cap ps) {j : Nat} {p : Rp} (hj : ps[j]? = some p) : w.cell? ⟨pr, j * 3, none⟩ = some (.int .i64 (p.l : Nat)) ∧ w.cell? ⟨pr, j * 3 + 1, none⟩ = some (.int .u64 (p.q : Nat)) ∧ w.cell? ⟨pr, j * 3 + 2, none⟩ = some (.slice p.a p.n p.cap) := by
  have hpos : 0 < ps.length := by have := (List.getElem?_eq_some_iff.1 hj).1; omega
  obtain ⟨g', e, hc⟩ := OwnR.at h.row hpos
  cases e
  obtain ⟨h1, h2, h3⟩ := rcells_get hj
  exact ⟨hc _ _ h1, hc _ _ h2, hc _ _ h3⟩
/-- The part of a hash. -/
theorem RefD.parts {w : World} {B r x g pr cap : Nat} {ps : List Rp} (h : RefD w B r x g pr cap ps) (hh : Nat) : ∃ a p c, ps = a ++ p :: c ∧ isIn p.pt hh = true ∧ (∀ u ∈ a, isIn u.pt hh = false) ∧ (∀ u ∈ c, isIn u.pt hh = false) ∧ pidx (rsh ps) hh = a.length := by
  obtain ⟨sa, s, sc, e, h1, h2, h3⟩ := h.shp.parts hh
  have hidx := pidx_at (c := sc) h1 h2
  rw [← e] at hidx
  unfold rsh at e
  obtain ⟨a, l2, e1, rfl, e3⟩ := List.map_eq_append_iff.1 e
  obtain ⟨p, c, rfl, rfl, rfl⟩ := List.map_eq_cons_iff.1 e3
  exact ⟨a, p, c, e1, h1, fun u hu => h2 _ (List.mem_map_of_mem hu), fun u hu => h3 _ (List.mem_map_of_mem hu), by rw [hidx, List.length_map]⟩
theorem RefD.filter {w : World} {B r x g pr cap : Nat} {a c : List Rp} {p : Rp} (h : RefD w B r x g pr cap (a ++ p :: c)) {k : ByteArray} (h2 : ∀ u ∈ a, isIn u.pt (hsh x k) = false) (h3 : ∀ u ∈ c, isIn u.pt (hsh x k) = false) : k ∈ rks (a ++ p :: c) ↔ k ∈ p.ks := by
  rw [rks_append, rks_cons, List.mem_append, List.mem_append]
  have n1 : k ∉ rks a := fun hm => by
    obtain ⟨u, hu, hm⟩ := List.mem_flatMap.1 hm
    have := h.own u (by simp [hu]) k hm
    rw [h2 u hu] at this; cases this
  have n3 : k ∉ rks c := fun hm => by
    obtain ⟨u, hu, hm⟩ := List.mem_flatMap.1 hm
    have := h.own u (by simp [hu]) k hm
    rw [h3 u hu] at this; cases this
  constructor
  · rintro (h | h | h)
    · exact absurd h n1
    · exact h
    · exact absurd h n3
  · exact fun h => .inr (.inl h)
theorem RefD.cnt {w : World} {B r x g pr cap : Nat} {a c : List Rp} {p : Rp} (h : RefD w B r x g pr cap (a ++ p :: c)) : cntIn x (rks (a ++ p :: c)) p.pt = p.ks.length := by
  have hd := h.shp.dis
  unfold rsh at hd
  rw [List.map_append, List.map_cons, List.pairwise_append, List.pairwise_cons] at hd
  have no : ∀ u ∈ a ++ c, (u.ks.filter fun k => isIn p.pt (hsh x k)) = [] := by
    intro u hu
    rw [List.filter_eq_nil_iff]
    intro k hk hi
    have h1 := h.own u (by rcases List.mem_append.1 hu with h | h <;> simp [h]) k hk
    rcases List.mem_append.1 hu with hu | hu
    · have := hd.2.2 u.pt (List.mem_map_of_mem hu) p.pt (by simp) _ h1
      rw [hi] at this; cases this
    · have := hd.2.1.1 u.pt (List.mem_map_of_mem hu) _ hi
      rw [h1] at this; cases this
  have nl : ∀ (M : List Rp), (∀ u ∈ M, (u.ks.filter fun k => isIn p.pt (hsh x k)) = []) → ((rks M).filter fun k => isIn p.pt (hsh x k)) = [] := by
    intro M hM
    rw [List.filter_eq_nil_iff]
    intro k hk hi
    obtain ⟨u, hu, hk⟩ := List.mem_flatMap.1 hk
    exact (List.filter_eq_nil_iff.1 (hM u hu)) k hk hi
  unfold cntIn
  rw [rks_append, rks_cons, List.filter_append, List.filter_append, nl a (fun u hu => no u (by simp [hu])), nl c (fun u hu => no u (by simp [hu])), List.nil_append, List.append_nil, List.filter_eq_self.2]
  intro k hk
  exact h.own p (by simp) k hk

theorem RNew (x : Nat) (w : World) (hx : x < 18446744073709551616) : Calls Try.prog 10 #[.int .u64 x] w fun e w' => Below w.heap.size w w' ∧ ∃ r pr, e = .returned (ptr r) ∧ RefD w' w.heap.size r x 0 pr 1 [⟨0, 0, none, 0, 0, []⟩] := by
  obtain ⟨w1, hw1⟩ : ∃ w1, w.alloc (.cells #[.int .i64 0, .int .u64 0, .slice none 0 0] 65) = w1 := ⟨_, rfl⟩
  have HB1 : Hid (Below w.heap.size w w1) := by show Below _ _ _; rw [← hw1]; exact alloc_below w _
  have HO1 : Hid (OwnR w1 w.heap.size 65 3 (some ⟨w.heap.size, 0, none⟩) 1 1 (rcells [⟨0, 0, none, 0, 0, []⟩])) := by
    show OwnR _ _ _ _ _ _ _ _
    rw [← hw1]
    exact ⟨rfl, .inr ⟨w.heap.size, 1, _, rfl, Nat.le_refl _, heap_alloc_new w _, Nat.le_refl _, by decide, rfl, rfl⟩⟩
  obtain ⟨w2, hw2⟩ : ∃ w2, w1.alloc (.cells #[.int .u64 (x : Nat), .int .i64 0, .slice (some ⟨w.heap.size, 0, none⟩) 1 1] 68) = w2 := ⟨_, rfl⟩
  have HB2 : Hid (Below w1.heap.size w1 w2) := by show Below _ _ _; rw [← hw2]; exact alloc_below w1 _
  have HK2 : Hid (w2.heap[w1.heap.size]? = some (.cells #[.int .u64 (x : Nat), .int .i64 0, .slice (some ⟨w.heap.size, 0, none⟩) 1 1] 68 (0, 0))) := by show _ = _; rw [← hw2]; exact heap_alloc_new w1 _
  have HX : Hid (x < 18446744073709551616) := hx
  clear hx
  go_enter Try.func10, Try.ntmps10
  go_wp2
  go_ret
  refine ⟨(step_below HB1 HB2.out).out, w1.heap.size, w.heap.size, rfl, HK2.out, OwnR.keep HO1.out HB2.out, ?_, HB1.out.size, HX.out, Shp.new, ?_, List.nodup_nil, ?_, by decide, by decide⟩
  · intro p hp
    cases List.mem_singleton.1 hp
    exact OwnR.nil _ _ _ _
  · intro p hp k hk
    cases List.mem_singleton.1 hp
    cases hk
  · intro k hk
    simp [rks] at hk

set_option maxHeartbeats 4000000 in
theorem part_any (B r x g pr cap : Nat) (ps : List Rp) (h : Nat) (w : World) (hR : RefD w B r x g pr cap ps) (hh : h < 18446744073709551616) :
    Calls Try.prog 35 #[ptr r, .int .u64 h] w fun e w' => e = .returned (.int .i64 (pidx (rsh ps) h : Nat)) ∧ Below w.heap.size w w' := by
  obtain ⟨pa, p, pc, eP, hi, h2, h3, hix⟩ := hR.parts h
  rw [hix]
  have HR : Hid (RefD w B r x g pr cap ps) := hR
  have HE : Hid (ps = pa ++ p :: pc) := eP
  have Hi : Hid (isIn p.pt h = true) := hi
  have Ha : Hid (∀ u ∈ pa, isIn u.pt h = false) := h2
  have hfew := hR.few
  have hml : pa.length < ps.length := by rw [eP]; simp
  generalize hn : ps.length = n at hfew hml
  have HN : Hid (ps.length = n) := hn
  generalize hm : pa.length = m at hml ⊢
  have HM : Hid (pa.length = m) := hm
  clear hR eP hi h2 h3 hn hm hix
  go_enter Try.func35, Try.ntmps35
  go_wp2
  go_loopg [5] (m + 1) (fun q iv wr => ∃ i : Nat, i + q = m + 1 ∧ i ≤ m ∧ iv = .int .i64 i ∧ Hid (Below w.heap.size w wr))
  case atStart => exact ⟨0, by omega, by omega, rfl, Below.refl _ _⟩
  case round =>
    obtain ⟨i, hi, him, rfl, HB⟩ := hrel
    have hRr := HR.out.keep HB.out
    have hc := hRr.cpar
    rw [HN.out] at hc
    obtain ⟨u, hu, hum⟩ := get_of_lt (l := ps) (i := i) (by have := HN.out; omega)
    obtain ⟨c0, c1, -⟩ := hRr.at hu
    have hlu := hRr.shp.lt u.pt (List.mem_map_of_mem hum)
    have hgl := hRr.shp.le
    have hin : (i : Int) < n := by omega
    have HLo := fun w => refLow_nat h u.l w hh (by simp only [Rp.pt] at hlu; omega)
    have hmd : h % 2 ^ u.l < 65536 := Nat.lt_of_lt_of_le (Nat.mod_lt _ (pow_pos _)) (pow_le_16 (by simp only [Rp.pt] at hlu; omega))
    have hqd : u.q < 65536 := by
      have h1 : 2 ^ u.l ≤ 65536 := pow_le_16 (by simp only [Rp.pt] at hlu; omega)
      simp only [Rp.pt] at hlu
      omega
    have Hcase : Hid (if i = m then h % 2 ^ u.l = u.q else h % 2 ^ u.l ≠ u.q) := by
      show if i = m then _ else _
      split
      · rename_i e
        have : u = p := by
          have h1 := hu
          rw [HE.out, e, ← HM.out, List.getElem?_append_right (Nat.le_refl _), Nat.sub_self] at h1
          simpa using h1.symm
        rw [this]
        exact isIn_iff.1 Hi.out
      · have h1 := hu
        rw [HE.out, List.getElem?_append_left (by have := HM.out; omega)] at h1
        exact isIn_no.1 (Ha.out u (List.mem_of_getElem? h1))
    generalize h % 2 ^ u.l = y at HLo hmd Hcase
    generalize u.q = qq at c1 hqd Hcase
    generalize u.l = ll at c0 HLo
    clear hRr hu hum hlu hgl
    by_cases e : i = m
    · have he := Hcase.out
      rw [if_pos e] at he
      subst he
      subst e
      clear Hcase
      go_wp2
      go_quiet ((go_at_call 21; with_reducible exact Calls.quiet_of_same (HLo _)))
      have HB1 := step_below HB (below_drewN wr nq)
      generalize wr.drewN nq = w1 at HB1 ⊢
      clear c0 c1 hc
      go_wp2
      go_ret
      exact ⟨rfl, HB1.out⟩
    · have he := Hcase.out
      rw [if_neg e] at he
      have hne : ((y : Int) == (qq : Int)) = false := by simp; omega
      clear Hcase he
      go_wp2
      go_quiet ((go_at_call 21; with_reducible exact Calls.quiet_of_same (HLo _)))
      have HB1 := step_below HB (below_drewN wr nq)
      generalize wr.drewN nq = w1 at HB1 ⊢
      clear c0 c1 hc
      go_wp2
      go_roundg (gk - 1)
      case measure => omega
      case rel => exact ⟨i + 1, by omega, by omega, by go_num, HB1⟩

/-- Where a text is among others. -/
theorem at_no (a : Option Addr) (n cap : Nat) (ls : List ByteArray) (s : ByteArray) (w : World) (hO : OwnS w 0 a n cap ls) (hn : n ≤ 1000000) (hs : s ∉ ls) :
    Calls Try.prog 36 #[.slice a n cap, .string s] w fun e w' => e = .returned (.int .i64 (-1)) ∧ w' = w := by
  have HO : Hid (OwnS w 0 a n cap ls) := hO
  have HL : Hid (ls.length = n) := OwnS.len hO
  have HS : Hid (s ∉ ls) := hs
  clear hO hs
  go_enter Try.func36, Try.ntmps36
  go_wp2
  go_loopg [5] n (fun q iv wr => w = wr ∧ ∃ i : Nat, i + q = n ∧ iv = .int .i64 i)
  case atStart => exact ⟨rfl, 0, by omega, rfl⟩
  case round =>
    obtain ⟨rfl, i, hi, rfl⟩ := hrel
    by_cases h8 : (i : Int) < n
    · obtain ⟨g, ha, hc⟩ := OwnS.cell HO.out (j := i) (by omega)
      subst ha
      obtain ⟨k, hk, hkm⟩ := get_of_lt (l := ls) (i := i) (by have := HL.out; omega)
      rw [List.getD_eq_getElem?_getD, hk] at hc
      simp only [Option.getD_some] at hc
      have hne : (k.toList == s.toList) = false := by rw [str_beq]; exact decide_eq_false (fun e => HS.out (e ▸ hkm))
      clear hk hkm
      go_wp2
      go_roundg (gk - 1)
      case measure => omega
      case rel => exact ⟨rfl, i + 1, by omega, by go_num⟩
    · go_wp2
      go_ret
      exact ⟨rfl, rfl⟩
theorem at_yes (a : Option Addr) (n cap : Nat) (la lc : List ByteArray) (s : ByteArray) (w : World) (hO : OwnS w 0 a n cap (la ++ s :: lc)) (hn : n ≤ 1000000) (hs : s ∉ la) :
    Calls Try.prog 36 #[.slice a n cap, .string s] w fun e w' => e = .returned (.int .i64 (la.length : Nat)) ∧ w' = w := by
  have HO : Hid (OwnS w 0 a n cap (la ++ s :: lc)) := hO
  have hL := OwnS.len hO
  rw [List.length_append, List.length_cons] at hL
  have HS : Hid (s ∉ la) := hs
  generalize hm : la.length = m at hL ⊢
  have HM : Hid (la.length = m) := hm
  clear hO hs hm
  go_enter Try.func36, Try.ntmps36
  go_wp2
  go_loopg [5] (m + 1) (fun q iv wr => w = wr ∧ ∃ i : Nat, i + q = m + 1 ∧ i ≤ m ∧ iv = .int .i64 i)
  case atStart => exact ⟨rfl, 0, by omega, by omega, rfl⟩
  case round =>
    obtain ⟨rfl, i, hi, him, rfl⟩ := hrel
    have hin : (i : Int) < n := by omega
    obtain ⟨g, ha, hc⟩ := OwnS.cell HO.out (j := i) (by omega)
    subst ha
    by_cases e : i = m
    · have hk : (la ++ s :: lc).getD i ⟨#[]⟩ = s := by rw [e, ← HM.out, List.getD_eq_getElem?_getD, List.getElem?_append_right (Nat.le_refl _), Nat.sub_self]; rfl
      rw [hk] at hc
      subst e
      clear hk
      go_wp2
      go_ret
      exact ⟨rfl, rfl⟩
    · obtain ⟨k, hk, hkm⟩ := get_of_lt (l := la) (i := i) (by have := HM.out; omega)
      have hk2 : (la ++ s :: lc).getD i ⟨#[]⟩ = k := by rw [List.getD_eq_getElem?_getD, List.getElem?_append_left (by have := HM.out; omega), hk]; rfl
      rw [hk2] at hc
      have hne : (k.toList == s.toList) = false := by rw [str_beq]; exact decide_eq_false (fun e => HS.out (e ▸ hkm))
      clear hk hkm hk2
      go_wp2
      go_roundg (gk - 1)
      case measure => omega
      case rel => exact ⟨rfl, i + 1, by omega, by omega, by go_num⟩
end Go.Proofs.Ytejnmikbbnckeaa
