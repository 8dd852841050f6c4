/-
  The law: names stand in rising order, each is found, and is its own; a text that is not among them is none.
-/
import Derived.Test.YtlapiaoopmhogaaDoorKn
import Derived.Test.YtlapiaoopmhogaaDoorNm
namespace Go.Proofs.YtlapiaoopmhogaaDoor
open Go.RowKit Go.PlainAid

def ownB : Bool := refs.all fun c => match findD progs (low c.nm) with
  | some d => eqC d c
  | none => false
def goodB : Bool := refs.all fun c => decide (1 ≤ c.lo) && (decide (c.lo ≤ c.hi) && (decide (1 ≤ c.gr) && (decide (c.gr ≤ 6) && decide (c.nm.size ≤ 100))))
def adjB : List Cm → Bool
  | a :: b :: r => ltD a.nm b.nm && adjB (b :: r)
  | _ => true
theorem ownB_yes : ownB = true := by kernel_rfl
theorem goodB_yes : goodB = true := by kernel_rfl
theorem adjB_yes : adjB refs = true := by kernel_rfl
theorem own_name {c : Cm} (h : c ∈ refs) : fnd progs (low c.nm) = some c := by
  have h1 := List.all_eq_true.1 ownB_yes c h
  rw [findD_eq] at h1
  cases h2 : fnd progs (low c.nm) with
  | none => rw [h2] at h1; simp at h1
  | some d => rw [h2] at h1; rw [eqC_yes h1]
theorem good_row {c : Cm} (h : c ∈ refs) : 1 ≤ c.lo ∧ c.lo ≤ c.hi ∧ 1 ≤ c.gr ∧ c.gr ≤ 6 ∧ c.nm.size ≤ 100 := by
  have h1 := List.all_eq_true.1 goodB_yes c h
  simpa only [Bool.and_eq_true, decide_eq_true_eq] using h1
theorem adj_at : ∀ (l : List Cm) (p : Nat) (a b : Cm), adjB l = true → l[p]? = some a → l[p + 1]? = some b → ltD a.nm b.nm = true
  | x :: y :: r, 0, a, b, h, ha, hb => by
    simp at ha hb
    subst ha; subst hb
    rw [adjB, Bool.and_eq_true] at h
    exact h.1
  | x :: y :: r, p + 1, a, b, h, ha, hb => by
    rw [adjB, Bool.and_eq_true] at h
    exact adj_at (y :: r) p a b h.2 ha hb
  | [x], 0, a, b, _, _, hb => by simp at hb
  | [x], p + 1, a, b, _, ha, _ => by simp at ha
  | [], _, a, b, _, ha, _ => by simp at ha
theorem any_found (s : ByteArray) : (fnd progs s).isSome = refs.any fun c => decide (c.nm = s) := by
  rw [← fnd_both, fnd, Bool.eq_iff_iff, List.find?_isSome, List.any_eq_true]
theorem any_take (s : ByteArray) (k : Nat) (c : Cm) (h : refs[k]? = some c) : ((refs.take (k + 1)).any fun c => decide (c.nm = s)) = (((refs.take k).any fun c => decide (c.nm = s)) || decide (c.nm = s)) := by
  rw [List.take_add_one, h, List.any_append]
  simp

set_option maxRecDepth 100000 in
set_option maxHeartbeats 4000000 in
theorem names_law (s : ByteArray) (w : World) (hs : s.size ≤ maxLen) (hg : Laid w) : Calls Tryd.prog 6 #[.string s] w fun e w' => e = .returned (.bool true) ∧ Below w.heap.size w w' := by
  have HG : Hid (Laid w) := hg
  have hgl := lt_of_cell? hg
  have HGL : Hid (0 < w.heap.size) := hgl
  have HLw := fun w => Lower_any s w hs
  have HLs := fun w => Lookup_any s w hs
  rw [any_found] at HLs
  obtain ⟨S, hS⟩ : ∃ x, low s = x := ⟨_, rfl⟩
  rw [hS] at HLw HLs
  clear hg hgl hS hs
  go_enter Tryd.func6, Tryd.ntmps6
  go_upto_region 4 with (go_at_call 8; refine (Names_any _).mono ?_; rintro e w1 ⟨hB1, a, c, rfl, HO1⟩; have HB1 : Hid (Below w.heap.size w w1) := hB1; clear hB1)
  obtain ⟨g, rfl, hcell⟩ := OwnS.at HO1.out (by decide)
  have HCe : Hid (∀ (k : Nat) (cm : Cm), refs[k]? = some cm → w1.cell? ⟨g, k, none⟩ = some (.string cm.nm)) := fun k cm h => hcell k cm.nm (by rw [List.getElem?_map, h]; rfl)
  clear hcell
  go_loopg [4, 5] 81 (fun gk bv iv wr => ∃ (k : Nat) (b : Bool), k + gk = 81 ∧ iv = .int .i64 k ∧ bv = .bool b ∧ Hid (b = (refs.take k).any fun c => decide (c.nm = S)) ∧ Hid (Below w1.heap.size w1 wr))
  case atStart => exact ⟨0, false, rfl, rfl, rfl, rfl, Below.refl _ _⟩
  case round =>
    obtain ⟨k, b, hk, rfl, rfl, Hb, HB⟩ := hrel
    by_cases h1 : (k : Int) < 81
    · obtain ⟨cm, hc⟩ := getElem_some refs_len (show k < 81 by omega)
      have hmem : cm ∈ refs := List.mem_of_getElem? hc
      have hgd := good_row hmem
      have HLn : ∀ w, Calls Tryd.prog 9 #[.string cm.nm] w fun e w' => e = .returned (.tuple #[.agg #[.string cm.nm, .int .i64 cm.lo, .int .i64 cm.hi, .bool cm.wr, .int .i64 cm.gr], .bool true]) ∧ Below w.heap.size w w' := fun w => by
        have h := Lookup_any cm.nm w (by unfold maxLen; omega)
        rw [own_name hmem] at h
        exact h
      have HCk : Hid (∀ wx, Below wr.heap.size wr wx → wx.cell? ⟨g, k, none⟩ = some (.string cm.nm)) := fun wx h => by
        have h1 := HCe.out k cm hc
        have h2 := HB.out.trans (h.mono HB.out.size)
        rw [h2.cell (p := ⟨g, k, none⟩) (World.block_lt_of_cell? _ _ h1)]; exact h1
      have HPr : Hid (∀ p, k = p + 1 → ∃ nm0, Op.bytesLess nm0.toList cm.nm.toList = true ∧ ∀ wx, Below wr.heap.size wr wx → wx.cell? ⟨g, p, none⟩ = some (.string nm0)) := fun p hp => by
        obtain ⟨c0, hc0⟩ := getElem_some refs_len (show p < 81 by omega)
        refine ⟨c0.nm, ?_, fun wx h => ?_⟩
        · have h2 := adj_at refs p c0 cm adjB_yes hc0 (by rw [← hp]; exact hc)
          rw [← ltB_eq] at h2
          exact h2
        · have h1 := HCe.out p c0 hc0
          have h2 := HB.out.trans (h.mono HB.out.size)
          rw [h2.cell (p := ⟨g, p, none⟩) (World.block_lt_of_cell? _ _ h1)]; exact h1
      have HT : Hid (((refs.take (k + 1)).any fun c => decide (c.nm = S)) = (b || decide (cm.nm = S))) := by
        show _ = _
        rw [any_take S k cm hc, ← Hb.out]
      have c0 := HCk.out wr (Below.refl _ _)
      clear hc hmem
      obtain ⟨nm, lo, hi, wb, gr⟩ := cm
      simp only at hgd HLn HCk HPr HT c0
      obtain ⟨g1, g2, g3, g4, -⟩ := hgd
      go_upto_region 7 with (go_at_call 9; refine (HLn _).mono ?_; rintro e w2 ⟨rfl, hB2⟩)
      obtain ⟨wq, hwq⟩ : ∃ wq, w2.alloc (.cells #[.string nm, .int .i64 lo, .int .i64 hi, .bool wb, .int .i64 gr] 27) = wq := ⟨_, rfl⟩
      have hBq : Below w2.heap.size w2 wq := by rw [← hwq]; exact alloc_below w2 _
      have HYq : Hid (VarC wq w2.heap.size ⟨nm, lo, hi, wb, gr⟩) := by rw [← hwq]; exact ⟨_, heap_alloc_new w2 _⟩
      have hq : Below wr.heap.size wr wq := hB2.trans (hBq.mono hB2.size)
      have HBq : Hid (Below wr.heap.size wr wq) := hq
      try simp only [hwq]
      clear hwq hB2 hBq
      obtain ⟨y0, y1, y2, y3, y4⟩ := HYq.out.cells
      simp only at y0 y1 y2 y3 y4
      have cq := HCk.out _ hq
      have hbe : (nm.toList == nm.toList) = true := beq_self_eq_true _
      have hbn : (nm.toList != nm.toList) = false := by simp
      have d1 : decide (lo < 1) = false := decide_eq_false (by omega)
      have d2 : decide (hi < lo) = false := decide_eq_false (by omega)
      have d3 : decide (gr < 1) = false := decide_eq_false (by omega)
      have d4 : decide ((6 : Int) < gr) = false := decide_eq_false (by omega)
      have hk81 : k ≤ 81 := by omega
      go_cut [73] from 25 to 83 (fun u wx => u = .bool false ∧ ∃ z, wx = wq.drewN z)
      case first =>
        by_cases hk0 : k = 0
        · subst hk0
          have d0 : decide ((0 : Int) < ((0 : Nat) : Int)) = false := rfl
          go_quiet (fail)
          go_wp2
          go_meet
          exact ⟨rfl, _, rfl⟩
        · obtain ⟨p, rfl⟩ : ∃ p, k = p + 1 := ⟨k - 1, by omega⟩
          obtain ⟨nm0, hlt, hpc⟩ := HPr.out p rfl
          have cp := hpc _ hq
          have d0 : decide ((0 : Int) < (p : Int) + 1) = true := decide_eq_true (by omega)
          have hp1 : (p : Int) + 1 < 81 := by omega
          have hp0 : (p : Int) < 81 := by omega
          have hp2 : (0 : Int) ≤ (p : Int) + 1 := by omega
          have hp3 : (0 : Int) ≤ (p : Int) := by omega
          have hw1 : IntKind.i64.wrap ((p : Int) + 1 - 1) = (p : Int) := by rw [IntKind.wrap_i64]; omega
          have hw2 : IntKind.i64.wrap (p : Int) = (p : Int) := by rw [IntKind.wrap_i64]; omega
          clear hpc
          go_quiet (fail)
          go_wp2
          go_meet
          exact ⟨rfl, _, rfl⟩
      case rest =>
        obtain ⟨rfl, z, rfl⟩ := hcut
        have hBz : Below wr.heap.size wr (wq.drewN z) := HBq.out.trans ((below_drewN wq z).mono HBq.out.size)
        obtain ⟨wy, hwy⟩ : ∃ wy, wq.drewN z = wy := ⟨_, rfl⟩
        rw [hwy] at hBz
        simp only [hwy]
        have HBz : Hid (Below wr.heap.size wr wy) := hBz
        have HBy : Hid (Below w1.heap.size w1 wy) := HB.out.trans (hBz.mono HB.out.size)
        have cy := HCk.out _ hBz
        clear hwy hq hBz y0 y1 y2 y3 y4 cq d1 d2 d3 d4 hbe hbn HPr HLn
        cases b with
        | true =>
          have HBd : Hid (∀ q, Below w1.heap.size w1 (wy.drewN q)) := fun q => HBy.out.trans ((below_drewN wy q).mono HBy.out.size)
          have HTn : Hid (true = (refs.take (k + 1)).any fun c => decide (c.nm = S)) := by show _ = _; rw [HT.out]; rfl
          clear HT
          go_upto_region 9 with fail
          go_quiet (fail)
          go_wp2
          go_roundg (gk - 1)
          case measure => omega
          case rel => exact ⟨k + 1, true, by omega, by go_num, rfl, HTn, HBd.out _⟩
        | false =>
          have hbe : (nm.toList == S.toList) = decide (nm = S) := toList_beq _ _
          have hex : Nonempty (Ext wy) := ⟨⟨wy, Below.refl _ _⟩⟩
          have s1 : ∀ x : Ext wy, x.wx.cell? ⟨g, k, none⟩ = some (.string nm) := fun x => HCk.out _ (HBz.out.trans (x.ok.mono HBz.out.size))
          have HTn : Hid (decide (nm = S) = (refs.take (k + 1)).any fun c => decide (c.nm = S)) := by show _ = _; rw [HT.out]; rfl
          obtain ⟨b2, hb2⟩ : ∃ b2, decide (nm = S) = b2 := ⟨_, rfl⟩
          rw [hb2] at hbe HTn
          clear HT hb2
          go_upto_region 9 with fail
          refine wp_region_ext (by kernel_rfl) (by kernel_rfl) ?_
          repeat (go_big_quiet_step (first | (go_at_call 16; exact Calls.ext_of ((HLw _).mono fun _ _ h => ⟨h.2, h.1⟩))))
          refine wpQuiet_nil ?_
          intro wz hz
          obtain ⟨xx, rfl⟩ := hz
          have HBx : Hid (Below w1.heap.size w1 xx.wx) := HBy.out.trans (xx.ok.mono HBy.out.size)
          clear s1 hex
          go_wp2
          go_roundg (gk - 1)
          case measure => omega
          case rel => exact ⟨k + 1, b2, by omega, by go_num, rfl, HTn, HBx⟩
    · have HE : Hid (b = refs.any fun c => decide (c.nm = S)) := by
        have := Hb.out
        rw [List.take_of_length_le (by rw [refs_len]; omega)] at this
        exact this
      rw [← HE.out] at HLs
      have HBw : Hid (Below w.heap.size w wr) := HB1.out.trans (HB.out.mono HB1.out.size)
      have hbb : (b == b) = true := beq_self_eq_true _
      obtain ⟨⟨nm, lo, hi, wb, gr⟩, hcm⟩ : ∃ cm, cmOf (fnd progs S) = cm := ⟨_, rfl⟩
      rw [hcm] at HLs
      have HLs : ∀ w, Calls Tryd.prog 9 #[.string s] w fun e w' => e = .returned (.tuple #[.agg #[.string nm, .int .i64 lo, .int .i64 hi, .bool wb, .int .i64 gr], .bool b]) ∧ Below w.heap.size w w' := HLs
      have HAl : Hid (∀ wx, Below wr.heap.size wr wx → ∀ o, Below w.heap.size w (wx.alloc o) ∧ Laid (wx.alloc o)) := fun wx h o => by
        have h1 := HBw.out.trans ((h.trans ((alloc_below wx o).mono h.size)).mono HBw.out.size)
        exact ⟨h1, HG.out.keep h1 HGL.out⟩
      clear hcm
      go_wp2_with (first
        | (go_at_call 9; refine (HLs _).mono ?_; rintro e w3 ⟨rfl, hB3⟩; have HB3 : Hid (∀ o, Below w.heap.size w (w3.alloc o) ∧ Laid (w3.alloc o)) := HAl.out _ hB3; clear hB3)
        | (go_at_call 12; refine (known_any _ (HB3.out _).2).mono ?_; rintro e w4 ⟨rfl, hB4⟩; have HB4 : Hid (Below w.heap.size w w4) := (HB3.out _).1.trans (hB4.mono (HB3.out _).1.size); clear hB4))
      go_ret
      exact ⟨rfl, HB4.out⟩
end Go.Proofs.YtlapiaoopmhogaaDoor
