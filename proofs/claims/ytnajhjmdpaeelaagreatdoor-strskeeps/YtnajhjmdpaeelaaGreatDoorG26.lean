/- Texts that the others stand on. -/
import Derived.Test.YtnajhjmdpaeelaaGreatDoorG24
import Derived.Test.YtnajhjmdpaeelaaGreatDoorG25
namespace Go.Proofs.YtnajhjmdpaeelaaGreatDoor.Cy
open Go.RowKit Go.PlainAid
/-- The first of that name. -/
def fnd (l : List Cm) (s : ByteArray) : Option Cm := l.find? fun c => decide (c.nm = s)
def cmOf (o : Option Cm) : Cm := o.getD Cm.z
theorem fnd_take (l : List Cm) (s : ByteArray) (k : Nat) (c : Cm) (h : fnd (l.take k) s = none) (hk : l[k]? = some c) : fnd (l.take (k + 1)) s = if c.nm = s then some c else none := by
  rw [List.take_add_one, hk, fnd, List.find?_append]
  rw [fnd] at h
  rw [h]
  by_cases e : c.nm = s <;> simp [e]
theorem fnd_hit (l : List Cm) (s : ByteArray) (k : Nat) (c : Cm) (h : fnd (l.take k) s = none) (hk : l[k]? = some c) (e : c.nm = s) : fnd l s = some c := by
  have h1 := fnd_take l s k c h hk
  rw [if_pos e] at h1
  rw [← List.take_append_drop (k + 1) l, fnd, List.find?_append]
  rw [fnd] at h1
  rw [h1]; rfl
theorem getElem_some {α : Type} {l : List α} {k n : Nat} (hn : l.length = n) (h : k < n) : ∃ c, l[k]? = some c := ⟨l[k]'(by omega), List.getElem?_eq_getElem (by omega)⟩
/-- A command's variable. -/
def VarC (w : World) (g : Nat) (c : Cm) : Prop := ∃ t, w.heap[g]? = some (.cells #[.string c.nm, .int .i64 c.lo, .int .i64 c.hi, .bool c.wr, .int .i64 c.gr] t (0, 0))
theorem VarC.cells {w : World} {g : Nat} {c : Cm} (h : VarC w g c) : w.cell? ⟨g, 0, none⟩ = some (.string c.nm) ∧ w.cell? ⟨g, 1, none⟩ = some (.int .i64 c.lo) ∧ w.cell? ⟨g, 2, none⟩ = some (.int .i64 c.hi) ∧ w.cell? ⟨g, 3, none⟩ = some (.bool c.wr) ∧ w.cell? ⟨g, 4, none⟩ = some (.int .i64 c.gr) := by
  obtain ⟨t, h⟩ := h
  simp only [World.cell?, h]
  exact ⟨rfl, rfl, rfl, rfl, rfl⟩
theorem VarC.free {w : World} {g : Nat} {c : Cm} (h : VarC w g c) (o : Nat) : w.frozen? ⟨g, o, none⟩ = false := by
  obtain ⟨t, h⟩ := h
  simp [World.frozen?, h]
theorem VarC.keep {w wn : World} {g B : Nat} {c : Cm} (h : VarC w g c) (hb : Below B w wn) (hg : g < B) : VarC wn g c := by
  obtain ⟨t, h⟩ := h
  exact ⟨t, by rw [hb.block g hg]; exact h⟩
theorem VarC.lt {w : World} {g : Nat} {c : Cm} (h : VarC w g c) : g < w.heap.size := by
  obtain ⟨t, h⟩ := h
  exact (Array.getElem?_eq_some_iff.1 h).1
theorem VarC.set {w : World} {g : Nat} {c : Cm} (h : VarC w g c) (d : Cm) : VarC (((((w.setCell ⟨g, 0, none⟩ (.string d.nm)).setCell ⟨g, 1, none⟩ (.int .i64 d.lo)).setCell ⟨g, 2, none⟩ (.int .i64 d.hi)).setCell ⟨g, 3, none⟩ (.bool d.wr)).setCell ⟨g, 4, none⟩ (.int .i64 d.gr)) g d := by
  obtain ⟨t, h⟩ := h
  exact ⟨t, heap_set (heap_set (heap_set (heap_set (heap_set h _) _) _) _) _⟩
theorem results_cell_tmp {P : Program} {fn : Func} {p t : Tmp} {ty : TypeId} (h : fn.results = #[.cell p ty, .tmp t]) (tmps : Array Value) (w : World) (g : Nat) (tt : TypeId) (cs : Array Value) (fr : Nat × Nat) (d : TypeDesc)
    (hp : tmps.getD p undef = .pointer (some ⟨g, 0, none⟩)) (hg : w.heap[g]? = some (.cells cs tt fr)) (hu : P.underlying ty = some d) (hd : (match d with | .struct _ | .array _ _ => true | _ => false) = true) (hi : (P.info? ty).map (·.size) = some cs.size) :
    (results fn tmps).run P w = .ok (.tuple #[.agg cs, tmps.getD t undef]) w := by
  have hp' : tmps[p]?.getD undef = .pointer (some ⟨g, 0, none⟩) := by simpa using hp
  simp [results, h, hp', asAddr, run_loadVar_row w g tt ty cs fr d hg hu hd hi]
theorem Tryz.sizeCmd : (Tryz.prog.info? 87).map (·.size) = some 5 := by kernel_rfl
/-- A command and one thing more come back. -/
theorem ret_C {fn : Func} {p t : Tmp} (h : fn.results = #[.cell p 87, .tmp t]) {tmps : Array Value} {w : World} {g : Nat} {c : Cm} {x : Value} {Q : Ending → World → Prop}
    (hp : tmps.getD p undef = .pointer (some ⟨g, 0, none⟩)) (hx : tmps.getD t undef = x) (hg : VarC w g c) (hQ : Q (.returned (.tuple #[c.v, x])) w) : bodyPost Tryz.prog fn Q .ret { tmps := tmps, defers := [] } w := by
  obtain ⟨tt, hg⟩ := hg
  subst hx
  exact bodyPost_ret (results_cell_tmp h _ _ g tt _ (0, 0) _ hp hg Tryz.underlying87 rfl Tryz.sizeCmd) rfl hQ
theorem zero60 : Tryz.zeroCells166.size = 81 * 5 := by kernel_rfl
set_option maxRecDepth 100000 in
set_option maxHeartbeats 4000000 in
theorem Lookup_any (s : ByteArray) (w : World) (hs : s.size ≤ maxLen) :
    Calls Tryz.prog 50 #[.string s] w fun e w' => e = .returned (.tuple #[(cmOf (fnd progs (low s))).v, .bool (fnd progs (low s)).isSome]) ∧ Below w.heap.size w w' := by
  have HL := fun w => Lower_any s w hs
  clear hs
  obtain ⟨S, hS⟩ : ∃ S, low s = S := ⟨_, rfl⟩
  rw [hS] at HL ⊢
  clear hS
  go_enter Tryz.func50, Tryz.ntmps50
  go_upto_region 2 with (go_at_call 88; refine (HL _).mono ?_; rintro e w1 ⟨rfl, hB1⟩)
  have HV1 : Hid (VarC w1 w.heap.size Cm.z) := VarC.keep (w := w.alloc (.cells #[.string ⟨#[]⟩, .int .i64 0, .int .i64 0, .bool false, .int .i64 0] 87)) ⟨_, heap_alloc_new w _⟩ hB1 (alloc_lt w _ _)
  have HB1 : Hid (Below w.heap.size w w1) := (alloc_below w _).trans (hB1.mono (alloc_below w _).size)
  clear hB1
  go_upto_region 3 with fail
  have HO1 : Hid (OwnT (w1.alloc (.cells Tryz.zeroCells166 166)) w1.heap.size 5 (some ⟨w1.heap.size, 0, none⟩) 0 81 []) :=
    ⟨rfl, .inr ⟨w1.heap.size, _, _, rfl, Nat.le_refl _, heap_alloc_new w1 _, Nat.zero_le _, by decide, zero60, by simp⟩⟩
  obtain ⟨wa, hwa⟩ : ∃ wa, w1.alloc (.cells Tryz.zeroCells166 166) = wa := ⟨_, rfl⟩
  have HBa : Hid (Below w1.heap.size w1 wa) := by show Below _ _ _; rw [← hwa]; exact alloc_below w1 _
  rw [hwa] at HO1
  simp only [hwa]
  clear hwa
  go_upto_region 4 with (go_at_call 89; refine (table_any w1.heap.size _ 81 _ HO1.out HBa.out.size).mono ?_; rintro e w2 ⟨a2, c2, rfl, HO2, hB2⟩)
  have HV2 : Hid (VarC w2 w.heap.size Cm.z) := HV1.out.keep (HBa.out.trans hB2.out) HV1.out.lt
  have HB2 : Hid (Below w.heap.size w w2) := HB1.out.trans ((HBa.out.trans hB2.out).mono HB1.out.size)
  clear hB2 HV1 HO1 HBa HB1
  go_loopg [12] 81 (fun g iv wr => ∃ k : Nat, iv = .int .i64 k ∧ k + g = 81 ∧ Hid (Below w2.heap.size w2 wr) ∧ Hid (fnd (progs.take k) S = none))
  case atStart => exact ⟨0, rfl, rfl, Below.refl _ _, rfl⟩
  case round =>
    obtain ⟨k, rfl, hk, HB, HF⟩ := hrel
    have HV3 : Hid (VarC wr w.heap.size Cm.z) := HV2.out.keep HB.out HV2.out.lt
    have HBw : Hid (Below w.heap.size w wr) := HB2.out.trans (HB.out.mono HB2.out.size)
    by_cases h1 : (k : Int) < 81
    · obtain ⟨c, hc⟩ := getElem_some progs_len (show k < 81 by omega)
      obtain ⟨g, rfl, s1, s2, s3, s4, s5⟩ := OwnC.cells (OwnT.keep HO2.out HB.out) hc
      have HT : Hid (fnd (progs.take (k + 1)) S = if c.nm = S then some c else none) := fnd_take _ _ _ _ HF.out hc
      have HH : Hid (c.nm = S → fnd progs S = some c) := fnd_hit _ _ _ _ HF.out hc
      clear hc
      obtain ⟨nm, lo, hi, wb, gr⟩ := c
      simp only at s1 s2 s3 s4 s5 HT HH
      by_cases he : nm = S
      · have hbe : (nm.toList == S.toList) = true := by rw [toList_beq, decide_eq_true he]
        have HE : Hid (fnd progs S = some ⟨nm, lo, hi, wb, gr⟩) := HH.out he
        have HBn : Hid (∀ o, Below w.heap.size w (wr.alloc o)) := fun o => HBw.out.trans ((alloc_below wr o).mono HBw.out.size)
        have HVn : ∀ o, VarC (wr.alloc o) w.heap.size Cm.z := fun o => HV3.out.keep (alloc_below wr o) HV3.out.lt
        have z0 := fun o => (HVn o).cells.1
        have z1 := fun o => (HVn o).cells.2.1
        have z2 := fun o => (HVn o).cells.2.2.1
        have z3 := fun o => (HVn o).cells.2.2.2.1
        have z4 := fun o => (HVn o).cells.2.2.2.2
        have fz := fun o => (HVn o).free
        simp only [Cm.z] at z0 z1 z2 z3 z4
        clear HT HH he
        have HVs := fun o => VarC.set (HVn o) ⟨nm, lo, hi, wb, gr⟩
        go_wp2
        refine ret_C rfl rfl rfl (HVs _) ⟨by rw [HE.out]; rfl, ?_⟩
        exact (((((HBn.out _).setCell (Nat.le_refl _) _).setCell (Nat.le_refl _) _).setCell (Nat.le_refl _) _).setCell (Nat.le_refl _) _).setCell (Nat.le_refl _) _
      · have hbe : (nm.toList == S.toList) = false := by rw [toList_beq, decide_eq_false he]
        have HE : Hid (fnd (progs.take (k + 1)) S = none) := by have := HT.out; rw [if_neg he] at this; exact this
        have HBn : Hid (∀ o, Below w2.heap.size w2 (wr.alloc o)) := fun o => HB.out.trans ((alloc_below wr o).mono HB.out.size)
        clear HT HH he
        go_wp2
        go_roundg (gk - 1)
        case measure => omega
        case rel => exact ⟨k + 1, by go_num, by omega, HBn.out _, HE⟩
    · have HE : Hid (fnd progs S = none) := by
        have := HF.out
        rw [List.take_of_length_le (by rw [progs_len]; omega)] at this
        exact this
      have z0 := HV3.out.cells.1
      have z1 := HV3.out.cells.2.1
      have z2 := HV3.out.cells.2.2.1
      have z3 := HV3.out.cells.2.2.2.1
      have z4 := HV3.out.cells.2.2.2.2
      have fz := HV3.out.free
      simp only [Cm.z] at z0 z1 z2 z3 z4
      have HVs := HV3.out.set Cm.z
      go_wp2
      refine ret_C rfl rfl rfl HVs ⟨by rw [HE.out]; rfl, ?_⟩
      exact ((((HBw.out.setCell (Nat.le_refl _) _).setCell (Nat.le_refl _) _).setCell (Nat.le_refl _) _).setCell (Nat.le_refl _) _).setCell (Nat.le_refl _) _
def cutB (s : ByteArray) (n : Int) : ByteArray := if n < (s.size : Int) then s.extract 0 n.toNat else s
theorem size_cutB (s : ByteArray) (n : Int) (h : 0 ≤ n) : ((cutB s n).size : Int) ≤ n := by
  unfold cutB
  split
  · simp; omega
  · omega
theorem Cut_any (s : ByteArray) (n : Int) (w : World) (h0 : 0 ≤ n) :
    Calls Tryz.prog 13 #[.string s, .int .i64 n] w fun e w' => e = .returned (.string (cutB s n)) ∧ w' = w := by
  by_cases h : n < s.size
  · have HC : Hid (cutB s n = s.extract 0 n.toNat) := by show cutB s n = _; rw [cutB, if_pos h]
    go_enter Tryz.func13, Tryz.ntmps13
    go_wp2
    go_ret
    exact ⟨by rw [HC.out]; simp, rfl⟩
  · have HC : Hid (cutB s n = s) := by show cutB s n = _; rw [cutB, if_neg h]
    go_enter Tryz.func13, Tryz.ntmps13
    go_wp2
    go_ret
    exact ⟨by rw [HC.out]; rfl, rfl⟩
def msetS : ByteArray := ⟨#[109, 115, 101, 116]⟩
def hsetS : ByteArray := ⟨#[104, 115, 101, 116]⟩
def pairsB (nm : ByteArray) (n : Nat) : Bool := if nm = msetS then decide (n % 2 = 1) else if nm = hsetS then decide (n % 2 = 0) else true
def takesB (c : Cm) (n : Nat) : Bool := decide (c.lo ≤ n) && (decide ((n : Int) ≤ c.hi) && pairsB c.nm n)
def longB (ls : List ByteArray) : Bool := ls.any fun s => decide (4096 < s.size)
/-- What errors call it. -/
def nameP : List ByteArray → ByteArray
  | [] => ⟨#[]⟩
  | s :: _ => low (cutB s 64)
def whyOf (o : Option Cm) (n : Nat) (long : Bool) : Int := match o with
  | none => 3
  | some c => if takesB c n = true then (if long = true then 11 else 0) else 2
def cmdP (ls : List ByteArray) : Option Cm := fnd progs (nameP ls)
def whyP (ls : List ByteArray) : Int := whyOf (cmdP ls) ls.length (longB ls)
def cP (ls : List ByteArray) : Cm := if whyP ls = 0 then cmOf (cmdP ls) else Cm.z
theorem lowB_low (x : UInt8) : lowB (lowB x) = lowB x := by
  by_cases h : 65 ≤ x.toNat ∧ x.toNat ≤ 90
  · have h1 := lowB_yes x h.1 h.2
    exact lowB_no _ (by omega)
  · rw [lowB_no x h, lowB_no x h]
theorem low_low (s : ByteArray) : low (low s) = low s := by
  rw [low, low, lst_bs, List.map_map]
  congr 1
  exact List.map_congr_left fun x _ => lowB_low x
theorem low_nameP (ls : List ByteArray) : low (nameP ls) = nameP ls := by
  cases ls with
  | nil => rfl
  | cons s l => exact low_low _
theorem nameP_size (ls : List ByteArray) : (nameP ls).size ≤ 64 := by
  cases ls with
  | nil => decide
  | cons s l => rw [nameP, low_size]; have := size_cutB s 64 (by omega); omega
theorem mod2 (n : Nat) : (n : Int) % 2 = ((n % 2 : Nat) : Int) := by omega
theorem eq_lit (nm : ByteArray) (l : List UInt8) : (nm.toList == l) = decide (nm = bs l) := by
  have e : (bs l).toList = l := by rw [ByteArray.toList_eq]; simp [bs]
  rw [← e, toList_beq, e]
set_option maxRecDepth 100000 in
theorem inPairs_any (nm : ByteArray) (n : Nat) (w : World) : Calls Tryz.prog 90 #[.string nm, .int .i64 n] w fun e w' => e = .returned (.bool (pairsB nm n)) ∧ w' = w := by
  have HM := mod2 n
  have h1 : (nm.toList == [109, 115, 101, 116]) = decide (nm = msetS) := eq_lit _ _
  have h2 : (nm.toList == [104, 115, 101, 116]) = decide (nm = hsetS) := eq_lit _ _
  have HP : Hid (pairsB nm n = if nm = msetS then decide (n % 2 = 1) else if nm = hsetS then decide (n % 2 = 0) else true) := rfl
  by_cases e1 : nm = msetS
  · rw [decide_eq_true e1] at h1
    have HQ : Hid (pairsB nm n = decide (n % 2 = 1)) := by show _ = _; rw [HP.out, if_pos e1]
    clear e1 h2 HP
    rcases Nat.mod_two_eq_zero_or_one n with h | h
    all_goals
      rw [h] at HM HQ
      clear h
      go_enter Tryz.func90, Tryz.ntmps90
      go_wp2
      go_ret
      exact ⟨by rw [HQ.out]; rfl, rfl⟩
  · rw [decide_eq_false e1] at h1
    by_cases e2 : nm = hsetS
    · rw [decide_eq_true e2] at h2
      have HQ : Hid (pairsB nm n = decide (n % 2 = 0)) := by show _ = _; rw [HP.out, if_neg e1, if_pos e2]
      clear e1 e2 HP
      rcases Nat.mod_two_eq_zero_or_one n with h | h
      all_goals
        rw [h] at HM HQ
        clear h
        go_enter Tryz.func90, Tryz.ntmps90
        go_wp2
        go_ret
        exact ⟨by rw [HQ.out]; rfl, rfl⟩
    · rw [decide_eq_false e2] at h2
      have HQ : Hid (pairsB nm n = true) := by show _ = _; rw [HP.out, if_neg e1, if_neg e2]
      clear e1 e2 HP
      go_enter Tryz.func90, Tryz.ntmps90
      go_wp2
      go_ret
      exact ⟨by rw [HQ.out]; rfl, rfl⟩
set_option maxRecDepth 100000 in
theorem takes_any (c : Cm) (n : Nat) (w : World) : Calls Tryz.prog 51 #[c.v, .int .i64 n] w fun e w' => e = .returned (.bool (takesB c n)) ∧ Below w.heap.size w w' := by
  obtain ⟨nm, lo, hi, wb, gr⟩ := c
  have HT : Hid (takesB ⟨nm, lo, hi, wb, gr⟩ n = (decide (lo ≤ n) && (decide ((n : Int) ≤ hi) && pairsB nm n))) := rfl
  have HI := fun w => inPairs_any nm n w
  show Calls Tryz.prog 51 #[.agg #[.string nm, .int .i64 lo, .int .i64 hi, .bool wb, .int .i64 gr], .int .i64 n] w _
  by_cases h1 : lo ≤ n
  · by_cases h2 : (n : Int) ≤ hi
    · have HQ : Hid (takesB ⟨nm, lo, hi, wb, gr⟩ n = pairsB nm n) := by show _ = _; rw [HT.out, decide_eq_true h1, decide_eq_true h2]; rfl
      clear HT
      go_enter Tryz.func51, Tryz.ntmps51
      go_wp2_with (go_at_call 90; refine (HI _).mono ?_; rintro e wn ⟨rfl, rfl⟩)
      go_ret
      exact ⟨by rw [HQ.out]; rfl, alloc_below _ _⟩
    · have HQ : Hid (takesB ⟨nm, lo, hi, wb, gr⟩ n = false) := by show _ = _; rw [HT.out, decide_eq_false h2, Bool.false_and, Bool.and_false]
      clear HT
      go_enter Tryz.func51, Tryz.ntmps51
      go_wp2_with fail
      go_ret
      exact ⟨by rw [HQ.out]; rfl, alloc_below _ _⟩
  · have HQ : Hid (takesB ⟨nm, lo, hi, wb, gr⟩ n = false) := by show _ = _; rw [HT.out, decide_eq_false h1, Bool.false_and]
    clear HT
    go_enter Tryz.func51, Tryz.ntmps51
    go_wp2_with fail
    go_ret
    exact ⟨by rw [HQ.out]; rfl, alloc_below _ _⟩
set_option maxRecDepth 100000 in
theorem hasLong_any (a : Option Addr) (n c : Nat) (ls : List ByteArray) (w : World) (h : RdS w a n ls) : Calls Tryz.prog 52 #[.slice a n c] w fun e w' => e = .returned (.bool (longB ls)) ∧ w' = w := by
  have hn : n ≤ 9223372036854775807 := h.max
  have HR : Hid (RdS w a n ls) := h
  have HN : Hid (ls.length = n) := h.len
  clear h
  go_enter Tryz.func52, Tryz.ntmps52
  go_wp2
  go_loopg [7] n (fun g iv wr => ∃ k : Nat, iv = .int .i64 k ∧ k + g = n ∧ wr = w ∧ Hid (longB (ls.take k) = false))
  case atStart => exact ⟨0, rfl, by omega, rfl, rfl⟩
  case round =>
    obtain ⟨k, rfl, hk, rfl, HF⟩ := hrel
    by_cases h1 : (k : Int) < n
    · obtain ⟨b, off, rfl, hc⟩ := HR.out.cell k (by omega)
      have hs : ls.take (k + 1) = ls.take k ++ [ls.getD k ByteArray.empty] := by
        rw [List.take_add_one, List.getElem?_eq_getElem (by rw [HN.out]; omega), List.getD_eq_getElem?_getD, List.getElem?_eq_getElem (by rw [HN.out]; omega)]; rfl
      have HS : Hid (longB (ls.take (k + 1)) = decide (4096 < (ls.getD k ByteArray.empty).size)) := by
        show _ = _
        rw [hs, longB, List.any_append]
        have := HF.out
        rw [longB] at this
        rw [this, Bool.false_or, List.any_cons, List.any_nil, Bool.or_false]
      have HH : Hid (longB (ls.take (k + 1)) = true → longB ls = true) := fun h => by
        rw [← List.take_append_drop (k + 1) ls, longB, List.any_append]
        rw [longB] at h
        rw [h]; rfl
      obtain ⟨s, hsx⟩ : ∃ s, ls.getD k ByteArray.empty = s := ⟨_, rfl⟩
      rw [hsx] at hc HS
      clear hs hsx
      by_cases h4 : (4096 : Int) < s.size
      · have HE : Hid (longB ls = true) := HH.out (by rw [HS.out]; exact decide_eq_true (by omega))
        go_wp2
        go_ret
        exact ⟨by rw [HE.out]; rfl, rfl⟩
      · have HE : Hid (longB (ls.take (k + 1)) = false) := by show _ = _; rw [HS.out]; exact decide_eq_false (by omega)
        go_wp2
        go_roundg (gk - 1)
        case measure => omega
        case rel => exact ⟨k + 1, by go_num, by omega, rfl, HE⟩
    · have HE : Hid (longB ls = false) := by
        have := HF.out
        rw [List.take_of_length_le (by rw [HN.out]; omega)] at this
        exact this
      go_wp2
      go_ret
      exact ⟨by rw [HE.out]; rfl, rfl⟩
set_option maxRecDepth 100000 in
theorem called_any (a : Option Addr) (n c : Nat) (ls : List ByteArray) (w : World) (h : RdS w a n ls) : Calls Tryz.prog 49 #[.slice a n c] w fun e w' => e = .returned (.string (nameP ls)) ∧ Below w.heap.size w w' := by
  cases ls with
  | nil =>
    have hn : n = 0 := by rw [← h.len]; rfl
    subst hn
    go_enter Tryz.func49, Tryz.ntmps49
    go_wp2
    go_ret
    exact ⟨rfl, Below.refl _ _⟩
  | cons s l =>
    have hl := h.len
    rw [List.length_cons] at hl
    obtain ⟨b, off, rfl, hc⟩ := h.cell 0 (by omega)
    have hc1 : w.cell? ⟨b, off, none⟩ = some (.string s) := hc
    have hn : n ≤ 9223372036854775807 := h.max
    have hn0 : (0 : Int) < n := by omega
    have hne : ((n : Int) == 0) = false := by simp; omega
    have hcs := size_cutB s 64 (by omega)
    have HL := fun w => Lower_any (cutB s 64) w (by unfold maxLen; omega)
    have HE : Hid (nameP (s :: l) = low (cutB s 64)) := rfl
    clear h hc hl hcs
    by_cases h64 : (64 : Int) < s.size
    · have HX : Hid (cutB s 64 = s.extract 0 64) := by show cutB s 64 = _; rw [cutB, if_pos h64]; rfl
      rw [HX.out] at HL HE
      have hmin : min (s.size : Int) 64 = 64 := by omega
      go_enter Tryz.func49, Tryz.ntmps49
      go_wp2_with (go_at_call 88; refine (HL _).mono ?_; rintro e w1 ⟨rfl, hB1⟩)
      go_ret
      exact ⟨by rw [HE.out]; rfl, hB1⟩
    · have HX : Hid (cutB s 64 = s) := by show cutB s 64 = _; rw [cutB, if_neg h64]
      rw [HX.out] at HL HE
      have hx : s.extract 0 s.size = s := by simp
      have hmin : min (s.size : Int) 64 = s.size := by omega
      go_enter Tryz.func49, Tryz.ntmps49
      go_wp2_with (go_at_call 88; refine (HL _).mono ?_; rintro e w1 ⟨rfl, hB1⟩)
      go_ret
      exact ⟨by rw [HE.out]; rfl, hB1⟩
end Go.Proofs.YtnajhjmdpaeelaaGreatDoor.Cy
namespace Go.Proofs.YtnajhjmdpaeelaaGreatDoor.Cy
open Go.RowKit Go.Extern.Stop Go.Stop Go.Extern
/-- A fault in memory: what is told, and the code under it. -/
structure Flt (w : World) (E : Value) (s : ByteArray) (c : Int) : Prop where
  ex : ∃ g, E = .iface 170 (.pointer (some ⟨g, 0, none⟩)) ∧ w.cell? ⟨g, 0, none⟩ = some (.string s) ∧ w.cell? ⟨g, 1, none⟩ = some (codeV c)
theorem Flt.new (w : World) (s : ByteArray) (c : Int) : Flt (newW w s (codeV c)) (newE w) s c :=
  ⟨⟨w.heap.size, rfl, by simp, by simp⟩⟩
theorem Flt.keep {w wn : World} {E : Value} {s : ByteArray} {c : Int} (h : Flt w E s c) (hb : Below w.heap.size w wn) : Flt wn E s c := by
  obtain ⟨g, h1, h2, h3⟩ := h.ex
  have hl := lt_of_cell? h2
  exact ⟨⟨g, h1, by rw [hb.cell hl]; exact h2, by rw [hb.cell (p := ⟨g, 1, none⟩) hl]; exact h3⟩⟩
theorem Flt.code {w : World} {E : Value} {s : ByteArray} {c : Int} (h : Flt w E s c) (hg : Laid w) : Calls Tryz.prog 10 #[E] w fun e w' => e = .returned (.int .i64 c) ∧ Below w.heap.size w w' := by
  obtain ⟨g, rfl, h2, h3⟩ := h.ex
  exact Code_code _ c 1 w hg (.wrap g s _ 0 h2 h3 .leaf)
end Go.Proofs.YtnajhjmdpaeelaaGreatDoor.Cy
namespace Go.Proofs.YtnajhjmdpaeelaaGreatDoor.Cy
open Go.RowKit Go.PlainAid
abbrev set5 (w : World) (g : Nat) (d : Cm) : World := ((((w.setCell ⟨g, 0, none⟩ (.string d.nm)).setCell ⟨g, 1, none⟩ (.int .i64 d.lo)).setCell ⟨g, 2, none⟩ (.int .i64 d.hi)).setCell ⟨g, 3, none⟩ (.bool d.wr)).setCell ⟨g, 4, none⟩ (.int .i64 d.gr)
theorem set5_below {w0 w : World} {B g : Nat} (h : Below B w0 w) (hg : B ≤ g) (d : Cm) : Below B w0 (set5 w g d) := ((((h.setCell hg _).setCell hg _).setCell hg _).setCell hg _).setCell hg _
theorem set5_cell (w : World) (g b o : Nat) (d : Cm) (h : b ≠ g) : (set5 w g d).cell? ⟨b, o, none⟩ = w.cell? ⟨b, o, none⟩ := by
  have hn : ∀ i, (⟨g, i, none⟩ : Addr) ≠ ⟨b, o, none⟩ := fun i e => h (congrArg Addr.block e).symm
  rw [set5, World.cell?_setCell_other _ _ _ _ (hn _), World.cell?_setCell_other _ _ _ _ (hn _), World.cell?_setCell_other _ _ _ _ (hn _), World.cell?_setCell_other _ _ _ _ (hn _), World.cell?_setCell_other _ _ _ _ (hn _)]
theorem Flt.set5 {wk : World} {g : Nat} (hg : g < wk.heap.size) (s : ByteArray) (c : Int) (d : Cm) : Flt (set5 (newW wk s (codeV c)) g d) (newE wk) s c := by
  obtain ⟨b, h1, h2, h3⟩ := (Flt.new wk s c).ex
  have hb : b = wk.heap.size := by cases h1; rfl
  exact ⟨⟨b, h1, by rw [set5_cell _ _ _ _ _ (by omega)]; exact h2, by rw [set5_cell _ _ _ _ _ (by omega)]; exact h3⟩⟩
/-- What Check leaves. -/
def ChkP (w w' : World) (ls : List ByteArray) (e : Ending) : Prop :=
  Below w.heap.size w w' ∧ ((whyP ls = 0 ∧ e = .returned (.tuple #[(cP ls).v, .nilIface])) ∨ (¬ whyP ls = 0 ∧ ∃ E, e = .returned (.tuple #[(cP ls).v, E]) ∧ Flt w' E (nameP ls) (whyP ls)))
set_option maxRecDepth 100000 in
set_option maxHeartbeats 4000000 in
theorem Check_any (a : Option Addr) (n c : Nat) (ls : List ByteArray) (w : World) (h : RdS w a n ls) :
    Calls Tryz.prog 26 #[.slice a n c] w fun e w' => ChkP w w' ls e := by
  have HR : Hid (RdS w a n ls) := h
  have HN : Hid (ls.length = n) := h.len
  have HLk := fun w => Lookup_any (nameP ls) w (by have := nameP_size ls; unfold maxLen; omega)
  rw [low_nameP] at HLk
  have HWhy : Hid (whyP ls = whyOf (cmdP ls) n (longB ls)) := by show _ = _; rw [whyP, h.len]
  have HCp : Hid (cP ls = if whyP ls = 0 then cmOf (cmdP ls) else Cm.z) := rfl
  obtain ⟨L, hL⟩ : ∃ L, longB ls = L := ⟨_, rfl⟩
  have HLo := fun w h => hasLong_any a n c ls w h
  rw [hL] at HWhy HLo
  have HCa := fun w h => called_any a n c ls w h
  obtain ⟨NM, hNM⟩ : ∃ NM, nameP ls = NM := ⟨_, rfl⟩
  rw [hNM] at HCa HLk
  have HNM : Hid (nameP ls = NM) := hNM
  rw [cmdP, hNM] at HWhy HCp
  have HZ : Hid (VarC (w.alloc (.cells #[.string ⟨#[]⟩, .int .i64 0, .int .i64 0, .bool false, .int .i64 0] 87)) w.heap.size Cm.z) := ⟨_, heap_alloc_new w _⟩
  clear h hL hNM
  -- the end where it is refused
  have HEnd : Hid (∀ (wk : World) (why : Int), ¬ why = 0 → whyP ls = why → Below w.heap.size w wk → w.heap.size < wk.heap.size → ChkP w (set5 (newW wk NM (codeV why)) w.heap.size Cm.z) ls (.returned (.tuple #[Cm.z.v, newE wk]))) := fun wk why hw he hb hl => by
    have hc : cP ls = Cm.z := by rw [HCp.out, he, if_neg hw]
    refine ⟨set5_below (hb.trans ((newW_below wk NM (codeV why)).mono hb.size)) (Nat.le_refl _) _, .inr ⟨by rw [he]; exact hw, newE wk, by rw [hc], ?_⟩⟩
    rw [HNM.out, he]
    exact Flt.set5 hl NM why Cm.z
  have HVE : Hid (∀ (wk : World) (why : Int), VarC wk w.heap.size Cm.z → VarC (set5 (newW wk NM (codeV why)) w.heap.size Cm.z) w.heap.size Cm.z) := fun wk why h => (h.keep (newW_below wk NM (codeV why)) h.lt).set Cm.z
  cases hf : fnd progs NM with
  | none =>
    have hWhy : whyP ls = 3 := by rw [HWhy.out, hf]; rfl
    have HE3 := fun wk => HEnd.out wk 3 (by decide) hWhy
    rw [hf] at HLk
    have HLk : ∀ w, Calls Tryz.prog 50 #[.string NM] w fun e w' => e = .returned (.tuple #[.agg #[.string ⟨#[]⟩, .int .i64 0, .int .i64 0, .bool false, .int .i64 0], .bool false]) ∧ Below w.heap.size w w' := HLk
    clear HWhy HCp HLo hWhy hf HEnd
    go_enter Tryz.func26, Tryz.ntmps26
    go_upto_region 2 with (go_at_call 49; refine (HCa _ (HR.out.keep (alloc_below w _))).mono ?_; rintro e w1 ⟨rfl, hB1⟩)
    have HV1 : Hid (VarC w1 w.heap.size Cm.z) := HZ.out.keep hB1 HZ.out.lt
    have HB1 : Hid (Below w.heap.size w w1) := (alloc_below w _).trans (hB1.mono (alloc_below w _).size)
    clear hB1
    go_upto_region 4 with (go_at_call 50; refine (HLk _).mono ?_; rintro e w2 ⟨rfl, hB2⟩)
    have HV2 : Hid (∀ o o', VarC ((w2.alloc o).alloc o') w.heap.size Cm.z) := fun o o' => ((HV1.out.keep hB2 HV1.out.lt).keep (alloc_below w2 o) (Nat.lt_of_lt_of_le HV1.out.lt hB2.size)).keep (alloc_below _ o') (Nat.lt_of_lt_of_le HV1.out.lt (Nat.le_trans hB2.size (alloc_below w2 o).size))
    have HB2 : Hid (∀ o, Below w.heap.size w (w2.alloc o) ∧ w.heap.size < (w2.alloc o).heap.size) := fun o => ⟨HB1.out.trans ((hB2.mono HB1.out.size).trans ((alloc_below w2 o).mono (Nat.le_trans HB1.out.size hB2.size))), Nat.lt_of_lt_of_le HV1.out.lt (Nat.le_trans hB2.size (alloc_below w2 o).size)⟩
    have z0 := fun o o' => (HV2.out o o').cells.1
    have z1 := fun o o' => (HV2.out o o').cells.2.1
    have z2 := fun o o' => (HV2.out o o').cells.2.2.1
    have z3 := fun o o' => (HV2.out o o').cells.2.2.2.1
    have z4 := fun o o' => (HV2.out o o').cells.2.2.2.2
    have fz := fun o o' => (HV2.out o o').free
    have HVs := fun o o' => (HV2.out o o').set Cm.z
    simp only [Cm.z] at z0 z1 z2 z3 z4
    clear hB2 HV2 HV1
    go_wp2_with (go_at_call 53; refine (New_err NM 3 (by decide) _).mono ?_; rintro e wn ⟨rfl, rfl⟩)
    exact ret_C rfl rfl rfl (HVs _ _) (HE3 _ (HB2.out _).1 (HB2.out _).2)
  | some c0 =>
    obtain ⟨nm, lo, hi, wb, gr⟩ := c0
    have HT := fun w => takes_any ⟨nm, lo, hi, wb, gr⟩ n w
    rw [hf] at HLk
    have HLk : ∀ w, Calls Tryz.prog 50 #[.string NM] w fun e w' => e = .returned (.tuple #[.agg #[.string nm, .int .i64 lo, .int .i64 hi, .bool wb, .int .i64 gr], .bool true]) ∧ Below w.heap.size w w' := HLk
    have HT : ∀ w, Calls Tryz.prog 51 #[.agg #[.string nm, .int .i64 lo, .int .i64 hi, .bool wb, .int .i64 gr], .int .i64 n] w fun e w' => e = .returned (.bool (takesB ⟨nm, lo, hi, wb, gr⟩ n)) ∧ Below w.heap.size w w' := HT
    have HWhy2 : Hid (whyP ls = if takesB ⟨nm, lo, hi, wb, gr⟩ n = true then (if L = true then 11 else 0) else 2) := by show _ = _; rw [HWhy.out, hf]; rfl
    have HCp2 : Hid (cP ls = if whyP ls = 0 then ⟨nm, lo, hi, wb, gr⟩ else Cm.z) := by show _ = _; rw [HCp.out, hf]; rfl
    obtain ⟨tk, htk⟩ : ∃ tk, takesB ⟨nm, lo, hi, wb, gr⟩ n = tk := ⟨_, rfl⟩
    rw [htk] at HT HWhy2
    clear htk hf HWhy HCp
    cases tk with
    | false =>
      have HE3 := fun wk => HEnd.out wk 2 (by decide) (by rw [HWhy2.out]; rfl)
      clear HLo HCp2 HWhy2 HEnd
      go_enter Tryz.func26, Tryz.ntmps26
      go_upto_region 2 with (go_at_call 49; refine (HCa _ (HR.out.keep (alloc_below w _))).mono ?_; rintro e w1 ⟨rfl, hB1⟩)
      have HV1 : Hid (VarC w1 w.heap.size Cm.z) := HZ.out.keep hB1 HZ.out.lt
      have HB1 : Hid (Below w.heap.size w w1) := (alloc_below w _).trans (hB1.mono (alloc_below w _).size)
      clear hB1
      go_upto_region 4 with (go_at_call 50; refine (HLk _).mono ?_; rintro e w2 ⟨rfl, hB2⟩)
      obtain ⟨wq, hwq⟩ : ∃ wq, w2.alloc (.cells #[.string nm, .int .i64 lo, .int .i64 hi, .bool wb, .int .i64 gr] 87) = wq := ⟨_, rfl⟩
      have hBq : Below w2.heap.size w2 wq := by rw [← hwq]; exact alloc_below w2 _
      have HYq : Hid (VarC wq w2.heap.size ⟨nm, lo, hi, wb, gr⟩) := by rw [← hwq]; exact ⟨_, heap_alloc_new w2 _⟩
      have y0 := HYq.out.cells.1
      have y1 := HYq.out.cells.2.1
      have y2 := HYq.out.cells.2.2.1
      have y3 := HYq.out.cells.2.2.2.1
      have y4 := HYq.out.cells.2.2.2.2
      simp only at y0 y1 y2 y3 y4
      simp only [hwq]
      have HVq : Hid (VarC wq w.heap.size Cm.z) := HV1.out.keep (hB2.trans (hBq.mono hB2.size)) HV1.out.lt
      have HBq : Hid (Below w.heap.size w wq) := HB1.out.trans ((hB2.trans (hBq.mono hB2.size)).mono HB1.out.size)
      clear hwq hB2 hBq HV1 HB1
      go_upto_region 10 with (go_at_call 51; refine (HT _).mono ?_; rintro e w3 ⟨rfl, hB3⟩)
      have HV3c := HVq.out.keep hB3 HVq.out.lt
      have HY3 := HYq.out.keep hB3 HYq.out.lt
      have HB3 : Hid (Below w.heap.size w w3) := HBq.out.trans (hB3.mono HBq.out.size)
      have HS3 : Hid (w.heap.size < w3.heap.size) := HV3c.lt
      clear hB3 y0 y1 y2 y3 y4 HVq HYq HBq
      have HV3 : ∀ o, VarC (w3.alloc o) w.heap.size Cm.z := fun o => HV3c.keep (alloc_below w3 o) HV3c.lt
      have z0 := fun o => (HV3 o).cells.1
      have z1 := fun o => (HV3 o).cells.2.1
      have z2 := fun o => (HV3 o).cells.2.2.1
      have z3 := fun o => (HV3 o).cells.2.2.2.1
      have z4 := fun o => (HV3 o).cells.2.2.2.2
      have fz := fun o => (HV3 o).free
      have HVs := fun o => (HV3 o).set Cm.z
      simp only [Cm.z] at z0 z1 z2 z3 z4
      clear HV3 HV3c HY3
      go_wp2_with (go_at_call 53; refine (New_err NM 2 (by decide) _).mono ?_; rintro e wn ⟨rfl, rfl⟩)
      exact ret_C (x := newE _) rfl rfl rfl (HVs _) (HE3 _ HB3.out HS3.out)
    | true =>
      cases L with
      | true =>
        have HE3 := fun wk => HEnd.out wk 11 (by decide) (by rw [HWhy2.out]; rfl)
        clear HCp2 HWhy2 HEnd
        go_enter Tryz.func26, Tryz.ntmps26
        go_upto_region 2 with (go_at_call 49; refine (HCa _ (HR.out.keep (alloc_below w _))).mono ?_; rintro e w1 ⟨rfl, hB1⟩)
        have HV1 : Hid (VarC w1 w.heap.size Cm.z) := HZ.out.keep hB1 HZ.out.lt
        have HB1 : Hid (Below w.heap.size w w1) := (alloc_below w _).trans (hB1.mono (alloc_below w _).size)
        clear hB1
        go_upto_region 4 with (go_at_call 50; refine (HLk _).mono ?_; rintro e w2 ⟨rfl, hB2⟩)
        obtain ⟨wq, hwq⟩ : ∃ wq, w2.alloc (.cells #[.string nm, .int .i64 lo, .int .i64 hi, .bool wb, .int .i64 gr] 87) = wq := ⟨_, rfl⟩
        have hBq : Below w2.heap.size w2 wq := by rw [← hwq]; exact alloc_below w2 _
        have HYq : Hid (VarC wq w2.heap.size ⟨nm, lo, hi, wb, gr⟩) := by rw [← hwq]; exact ⟨_, heap_alloc_new w2 _⟩
        have y0 := HYq.out.cells.1
        have y1 := HYq.out.cells.2.1
        have y2 := HYq.out.cells.2.2.1
        have y3 := HYq.out.cells.2.2.2.1
        have y4 := HYq.out.cells.2.2.2.2
        simp only at y0 y1 y2 y3 y4
        simp only [hwq]
        have HVq : Hid (VarC wq w.heap.size Cm.z) := HV1.out.keep (hB2.trans (hBq.mono hB2.size)) HV1.out.lt
        have HBq : Hid (Below w.heap.size w wq) := HB1.out.trans ((hB2.trans (hBq.mono hB2.size)).mono HB1.out.size)
        clear hwq hB2 hBq HV1 HB1
        go_upto_region 8 with (go_at_call 51; refine (HT _).mono ?_; rintro e w3 ⟨rfl, hB3⟩)
        have HV3c := HVq.out.keep hB3 HVq.out.lt
        have HY3 := HYq.out.keep hB3 HYq.out.lt
        have HB3 : Hid (Below w.heap.size w w3) := HBq.out.trans (hB3.mono HBq.out.size)
        have HS3 : Hid (w.heap.size < w3.heap.size) := HV3c.lt
        clear hB3 y0 y1 y2 y3 y4 HVq HYq HBq
        have HV3 : ∀ o, VarC (w3.alloc o) w.heap.size Cm.z := fun o => HV3c.keep (alloc_below w3 o) HV3c.lt
        have z0 := fun o => (HV3 o).cells.1
        have z1 := fun o => (HV3 o).cells.2.1
        have z2 := fun o => (HV3 o).cells.2.2.1
        have z3 := fun o => (HV3 o).cells.2.2.2.1
        have z4 := fun o => (HV3 o).cells.2.2.2.2
        have fz := fun o => (HV3 o).free
        have HVs := fun o => (HV3 o).set Cm.z
        simp only [Cm.z] at z0 z1 z2 z3 z4
        clear HV3 HV3c HY3
        go_wp2_with (first
          | (go_at_call 52; refine (HLo _ (HR.out.keep HB3.out)).mono ?_; rintro e wn ⟨rfl, rfl⟩)
          | (go_at_call 53; refine (New_err NM 11 (by decide) _).mono ?_; rintro e wn ⟨rfl, rfl⟩))
        exact ret_C (x := newE _) rfl rfl rfl (HVs _) (HE3 _ HB3.out HS3.out)
      | false =>
        have HE0 : Hid (whyP ls = 0 ∧ cP ls = ⟨nm, lo, hi, wb, gr⟩) := by
          have : whyP ls = 0 := by rw [HWhy2.out]; rfl
          exact ⟨this, by rw [HCp2.out, if_pos this]⟩
        clear HCp2 HWhy2 HEnd
        go_enter Tryz.func26, Tryz.ntmps26
        go_upto_region 2 with (go_at_call 49; refine (HCa _ (HR.out.keep (alloc_below w _))).mono ?_; rintro e w1 ⟨rfl, hB1⟩)
        have HV1 : Hid (VarC w1 w.heap.size Cm.z) := HZ.out.keep hB1 HZ.out.lt
        have HB1 : Hid (Below w.heap.size w w1) := (alloc_below w _).trans (hB1.mono (alloc_below w _).size)
        clear hB1
        go_upto_region 4 with (go_at_call 50; refine (HLk _).mono ?_; rintro e w2 ⟨rfl, hB2⟩)
        obtain ⟨wq, hwq⟩ : ∃ wq, w2.alloc (.cells #[.string nm, .int .i64 lo, .int .i64 hi, .bool wb, .int .i64 gr] 87) = wq := ⟨_, rfl⟩
        have hBq : Below w2.heap.size w2 wq := by rw [← hwq]; exact alloc_below w2 _
        have HYq : Hid (VarC wq w2.heap.size ⟨nm, lo, hi, wb, gr⟩) := by rw [← hwq]; exact ⟨_, heap_alloc_new w2 _⟩
        have y0 := HYq.out.cells.1
        have y1 := HYq.out.cells.2.1
        have y2 := HYq.out.cells.2.2.1
        have y3 := HYq.out.cells.2.2.2.1
        have y4 := HYq.out.cells.2.2.2.2
        simp only at y0 y1 y2 y3 y4
        simp only [hwq]
        have HVq : Hid (VarC wq w.heap.size Cm.z) := HV1.out.keep (hB2.trans (hBq.mono hB2.size)) HV1.out.lt
        have HBq : Hid (Below w.heap.size w wq) := HB1.out.trans ((hB2.trans (hBq.mono hB2.size)).mono HB1.out.size)
        clear hwq hB2 hBq HV1 HB1
        go_upto_region 8 with (go_at_call 51; refine (HT _).mono ?_; rintro e w3 ⟨rfl, hB3⟩)
        have HV3c := HVq.out.keep hB3 HVq.out.lt
        have HY3 := HYq.out.keep hB3 HYq.out.lt
        have HB3 : Hid (Below w.heap.size w w3) := HBq.out.trans (hB3.mono HBq.out.size)
        have HS3 : Hid (w.heap.size < w3.heap.size) := HV3c.lt
        clear hB3 y0 y1 y2 y3 y4 HVq HYq HBq
        have HV3 := HV3c
        have z0 := HV3.cells.1
        have z1 := HV3.cells.2.1
        have z2 := HV3.cells.2.2.1
        have z3 := HV3.cells.2.2.2.1
        have z4 := HV3.cells.2.2.2.2
        have fz := HV3.free
        have HVs := HV3.set ⟨nm, lo, hi, wb, gr⟩
        simp only [Cm.z] at z0 z1 z2 z3 z4
        have y0 := HY3.cells.1
        have y1 := HY3.cells.2.1
        have y2 := HY3.cells.2.2.1
        have y3 := HY3.cells.2.2.2.1
        have y4 := HY3.cells.2.2.2.2
        simp only at y0 y1 y2 y3 y4
        clear HV3 HV3c HY3
        go_wp2_with (go_at_call 52; refine (HLo _ (HR.out.keep HB3.out)).mono ?_; rintro e wn ⟨rfl, rfl⟩)
        exact ret_C rfl rfl rfl HVs ⟨set5_below HB3.out (Nat.le_refl _) ⟨nm, lo, hi, wb, gr⟩, .inl ⟨HE0.out.1, by rw [HE0.out.2]; rfl⟩⟩
end Go.Proofs.YtnajhjmdpaeelaaGreatDoor.Cy
