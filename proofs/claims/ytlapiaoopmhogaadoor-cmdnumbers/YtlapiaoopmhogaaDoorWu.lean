/-
  The law: chapter 20's runs, all commands, each with each number of words.
-/
import Derived.Test.YtlapiaoopmhogaaDoorAh
import Derived.Test.YtlapiaoopmhogaaDoorNm
import Derived.Deep.CutRange
import Derived.Laws.OwnMore
import Derived.Laws.MakeOwn
namespace Go.Proofs.YtlapiaoopmhogaaDoor
open Go.RowKit Go.PlainAid

theorem RdS.take {w : World} {a : Option Addr} {n : Nat} {ls : List ByteArray} (h : RdS w a n ls) {k : Nat} (hk : k ≤ n) : RdS w a k (ls.take k) :=
  ⟨by rw [List.length_take, h.len]; omega, Nat.le_trans hk h.max, fun j hj => by
    obtain ⟨b, off, e, hc⟩ := h.cell j (by omega)
    refine ⟨b, off, e, ?_⟩
    rw [List.getD_eq_getElem?_getD, List.getElem?_take, if_pos hj, ← List.getD_eq_getElem?_getD]
    exact hc⟩

theorem OwnT.store {w : World} {B g n c : Nat} {cs : List Value} (h : OwnT w B 1 (some ⟨g, 0, none⟩) n c cs) (j : Nat) (u : Value) : OwnT (w.setCell ⟨g, j, none⟩ u) B 1 (some ⟨g, 0, none⟩) n c (cs.set j u) := by
  rcases h.2 with ⟨h1, -⟩ | ⟨g', cur, tg, h1, h3, h4, h5, h6, h7, h8⟩
  · cases h1
  · cases h1
    refine ⟨by rw [List.length_set]; exact h.1, .inr ⟨g, cur.setIfInBounds j u, tg, rfl, h3, heap_set h4 u, h5, h6, by simpa using h7, ?_⟩⟩
    rw [Array.toList_setIfInBounds, List.take_set, h8]
theorem OwnT.fz {w : World} {B g n c s : Nat} {cs : List Value} (h : OwnT w B s (some ⟨g, 0, none⟩) n c cs) (o : Nat) : w.frozen? ⟨g, o, none⟩ = false := by
  rcases h.2 with ⟨h1, -⟩ | ⟨g', cur, tg, h1, h3, h4, -⟩
  · cases h1
  · cases h1
    simp [World.frozen?, h4]
/-- Zeros. -/
def zc (n : Nat) : Array Value := madeCells (Value.int .u8 0).cells (n * 1)
def zs (n : Nat) : ByteArray := bs (List.replicate n 0)
theorem zs_size (n : Nat) : (zs n).size = n := by rw [zs, size_bs, List.length_replicate]
theorem zmake (n : Nat) (hn : n ≤ 100000) (w : World) : (Instr.makeSlice 33 (.int .i64 (n : Int)) (.int .i64 (n : Int))).run Tryd.prog w = .ok (.slice (some ⟨w.heap.size, 0, none⟩) n n) (w.alloc (.cells (zc n) 5)) := by
  obtain ⟨i, hi, hz0, hz1, hz2⟩ := info_parts Tryd.info5
  have h := run_make (P := Tryd.prog) w 33 5 i _ Tryd.underlying33 hi hz0 .i64 .i64 n n (by omega) (Int.le_refl _) (by rw [hz2]; omega) (by omega)
  rw [hz1] at h
  exact h
theorem ztext (n : Nat) (hn : n ≤ 100000) (w : World) : (convert 33 9 (.slice (some ⟨w.heap.size, 0, none⟩) n n)).run Tryd.prog (w.alloc (.cells (zc n) 5)) = .ok (.string (zs n)) (w.alloc (.cells (zc n) 5)) := by
  refine Rd.text (l := List.replicate n 0) ⟨List.length_replicate, Nat.le_refl _, by unfold maxLen; omega, (fun e => by cases e), fun j hj => ⟨w.heap.size, 0, rfl, ?_⟩⟩
  rw [Nat.zero_add]
  refine cell_new w (zc n) 5 j _ ?_
  have e : (zc n).toList = List.replicate n (Value.int .u8 0) := by rw [zc, Nat.mul_one]; exact toList_madeCells_one _ n
  rw [← Array.getElem?_toList, e, List.getElem?_replicate, if_pos hj, List.getD_eq_getElem?_getD, List.getElem?_replicate, if_pos hj]
  rfl
def mc : Array Value := madeCells (Value.string ⟨#[]⟩).cells (258 * 1)
theorem mmake (w : World) : (Instr.makeSlice 24 (.int .i64 258) (.int .i64 258)).run Tryd.prog w = .ok (.slice (some ⟨w.heap.size, 0, none⟩) 258 258) (w.alloc (.cells mc 9)) := by
  obtain ⟨i, hi, hz0, hz1, hz2⟩ := info_parts Tryd.info9
  have h := run_make (P := Tryd.prog) w 24 9 i _ Tryd.underlying24 hi hz0 .i64 .i64 258 258 (by omega) (Int.le_refl _) (by rw [hz2]; omega) (by omega)
  rw [hz1] at h
  exact h
theorem many_own (w : World) (B : Nat) (hB : B ≤ w.heap.size) : Lst (w.alloc (.cells mc 9)) B (some ⟨w.heap.size, 0, none⟩) 258 258 (List.replicate 258 ⟨#[]⟩) := by
  have e : mc.toList = (List.replicate 258 (⟨#[]⟩ : ByteArray)).map Value.string := by rw [List.map_replicate, mc]; exact toList_madeCells_one _ 258
  refine ⟨⟨by rw [List.length_map, List.length_replicate], .inr ⟨w.heap.size, mc, 9, rfl, hB, heap_alloc_new w _, Nat.le_refl _, by decide, by rw [mc, size_madeCells], ?_⟩⟩, fun s hs => by rw [List.eq_of_mem_replicate hs]; decide, by decide⟩
  rw [e]
  exact List.take_of_length_le (by rw [List.length_map, List.length_replicate]; decide)

theorem lit_checks (w : World) (ls : List ByteArray) (n : Nat) (cs : Array Value) (hc : cs.toList = ls.map Value.string) (hn : ls.length = n) (hm : n ≤ maxLen) (hz : ∀ s ∈ ls, s.size ≤ maxLen) (hg : Laid w) :
    Calls Tryd.prog 11 #[.slice (some ⟨w.heap.size, 0, none⟩) n n] (w.alloc (.cells cs 9)) fun e w' => e = .returned (.bool true) ∧ Below w.heap.size w w' :=
  (checks_any _ n n ls _ (RdS.lit w ls 9 n cs hc hn hm) hz (hg.keep (alloc_below w _) (lt_of_cell? hg))).mono fun _ _ k => ⟨k.1, (alloc_below w _).trans (k.2.mono (alloc_below w _).size)⟩
theorem zero_checks (w : World) (ls : List ByteArray) (n : Nat) (cs zv : Array Value) (hc : cs.toList = ls.map Value.string) (hn : ls.length = n) (hm : n ≤ maxLen) (hz : ∀ s ∈ ls, s.size ≤ maxLen) (hg : Laid w) :
    Calls Tryd.prog 11 #[.slice (some ⟨w.heap.size + 1, 0, none⟩) n n] ((w.alloc (.cells zv 5)).alloc (.cells cs 9)) fun e w' => e = .returned (.bool true) ∧ Below w.heap.size w w' := by
  have h := lit_checks (w.alloc (.cells zv 5)) ls n cs hc hn hm hz (hg.keep (alloc_below w _) (lt_of_cell? hg))
  have e : (w.alloc (.cells zv 5)).heap.size = w.heap.size + 1 := by simp
  rw [e] at h
  exact h.mono fun _ _ k => ⟨k.1, (alloc_below w _).trans (k.2.mono (Nat.le_succ _))⟩

def nms : List ByteArray := [⟨#[100, 101, 108]⟩, ⟨#[109, 115, 101, 116]⟩, ⟨#[104, 115, 101, 116]⟩, ⟨#[109, 103, 101, 116]⟩]
theorem nms_at (k : Nat) : (nms.getD k ByteArray.empty).size ≤ 100 := by
  have hb : (nms.all fun s => decide (s.size ≤ 100)) = true := by kernel_rfl
  rw [List.getD_eq_getElem?_getD]
  cases h : nms[k]? with
  | none => decide
  | some s => exact of_decide_eq_true (List.all_eq_true.1 hb s (List.mem_of_getElem? h))

set_option maxRecDepth 100000 in
set_option maxHeartbeats 8000000 in
theorem numbers_law (w : World) (hg : Laid w) : Calls Tryd.prog 3 #[] w fun e w' => e = .returned (.bool true) ∧ Below w.heap.size w w' := by
  have hgl := lt_of_cell? hg
  have HGL : Hid (0 < w.heap.size) := hgl
  have HG : Hid (Laid w) := hg
  clear hg hgl
  go_enter Tryd.func3, Tryd.ntmps3
  go_upto_region 6 with (first
    | (go_at_call 7; refine (All_any _).mono ?_; rintro e w1 ⟨hB1, a1, c1, rfl, hO1⟩; have HB1 : Hid (Below w.heap.size w w1) := hB1; have HO1 : Hid (OwnC w1 w.heap.size a1 81 c1 refs) := hO1; clear hB1 hO1)
    | (go_at_call 8; refine (Names_any _).mono ?_; rintro e w2 ⟨hB2, a2, c2, rfl, HO2⟩; have HB2 : Hid (Below w1.heap.size w1 w2) := hB2; clear hB2))
  obtain ⟨gn, rfl, hcn⟩ := OwnS.at HO2.out (by decide)
  obtain ⟨gl, rfl, -⟩ := OwnT.at HO1.out (by decide)
  have HCn : Hid (∀ (k : Nat) (cm : Cm), refs[k]? = some cm → ∀ wx, Below w2.heap.size w2 wx → wx.cell? ⟨gn, k, none⟩ = some (.string cm.nm) ∧ wx.cell? ⟨gl, k * 5, none⟩ = some (.string cm.nm) ∧ wx.cell? ⟨gl, k * 5 + 1, none⟩ = some (.int .i64 cm.lo) ∧ wx.cell? ⟨gl, k * 5 + 2, none⟩ = some (.int .i64 cm.hi) ∧ wx.cell? ⟨gl, k * 5 + 3, none⟩ = some (.bool cm.wr) ∧ wx.cell? ⟨gl, k * 5 + 4, none⟩ = some (.int .i64 cm.gr)) := fun k cm h wx hx => by
    have h1 := hcn k cm.nm (by rw [List.getElem?_map, h]; rfl)
    refine ⟨by rw [hx.cell (p := ⟨gn, k, none⟩) (World.block_lt_of_cell? _ _ h1)]; exact h1, ?_⟩
    have h2 := OwnC.cells (OwnT.keep HO1.out (HB2.out.trans (hx.mono HB2.out.size))) h
    obtain ⟨g', e, h3⟩ := h2
    cases e
    exact h3
  have HBw : Hid (Below w.heap.size w w2) := HB1.out.trans (HB2.out.mono HB1.out.size)
  have HX : Hid (∀ wx, Below w2.heap.size w2 wx → Laid wx ∧ Below w.heap.size w wx ∧ 0 < wx.heap.size) := fun wx h => by
    have h1 := HBw.out.trans (h.mono HBw.out.size)
    exact ⟨HG.out.keep h1 HGL.out, h1, Nat.lt_of_lt_of_le HGL.out h1.size⟩
  have HB0 : Hid (Below w2.heap.size w2 w2) := Below.refl _ _
  clear hcn
  go_loopg [3] 81 (fun gk iv wr => ∃ i : Nat, i + gk = 81 ∧ iv = .int .i64 i ∧ Hid (Below w2.heap.size w2 wr))
  case atStart => exact ⟨0, rfl, rfl, HB0⟩
  case round =>
    obtain ⟨i, hi, rfl, HB⟩ := hrel
    obtain ⟨gi, hgi⟩ : ∃ gq, gq = gk := ⟨_, rfl⟩
    subst hgi
    clear HB0
    by_cases h1 : (i : Int) < 81
    · obtain ⟨cm, hc⟩ := getElem_some refs_len (show i < 81 by omega)
      have hmem : cm ∈ refs := List.mem_of_getElem? hc
      have hgd := good_row hmem
      have HNz : Hid (cm.nm.size ≤ 100) := hgd.2.2.2.2
      have HLn : ∀ w, Calls Tryd.prog 9 #[.string cm.nm] w fun e w' => e = .returned (.tuple #[.agg #[.string cm.nm, .int .i64 cm.lo, .int .i64 cm.hi, .bool cm.wr, .int .i64 cm.gr], .bool true]) ∧ Below w.heap.size w w' := fun w => by
        have h := Lookup_any cm.nm w (by unfold maxLen; omega)
        rw [own_name hmem] at h
        exact h
      have HCk := HCn.out i cm hc
      have HSm := fun w => same_yes cm w
      clear hc hmem hgd
      obtain ⟨nm, lo, hi', wb, gr⟩ := cm
      simp only [Cm.v] at HLn HCk HNz HSm
      have HCk : Hid _ := HCk
      obtain ⟨n0, s0, s1, s2, s3, s4⟩ := HCk.out _ HB.out
      go_upto_region 9 with (go_at_call 9; refine (HLn _).mono ?_; rintro e w3 ⟨rfl, hB3⟩)
      obtain ⟨w4, hw4⟩ : ∃ x, w3.alloc (.cells #[.string nm, .int .i64 lo, .int .i64 hi', .bool wb, .int .i64 gr] 27) = x := ⟨_, rfl⟩
      have hb4 : Below w3.heap.size w3 w4 := by rw [← hw4]; exact alloc_below w3 _
      have hv4 : VarC w4 w3.heap.size ⟨nm, lo, hi', wb, gr⟩ := by rw [← hw4]; exact ⟨_, heap_alloc_new w3 _⟩
      have hr4 : Below wr.heap.size wr w4 := hB3.trans (hb4.mono hB3.size)
      have HB4 : Hid (Below w2.heap.size w2 w4) := HB.out.trans (hr4.mono HB.out.size)
      obtain ⟨g4, hg4⟩ : ∃ x, w3.heap.size = x := ⟨_, rfl⟩
      rw [hg4] at hv4
      try simp only [hw4, hg4]
      obtain ⟨y0, y1, y2, y3, y4⟩ := hv4.cells
      simp only at y0 y1 y2 y3 y4
      have hex : Nonempty (Ext w4) := ⟨⟨w4, Below.refl _ _⟩⟩
      have keepc : ∀ (x : Ext w4) (g i : Nat) (v : Value), w4.cell? ⟨g, i, none⟩ = some v → x.wx.cell? ⟨g, i, none⟩ = some v := fun x g i v h => by
        rw [x.ok.cell (p := ⟨g, i, none⟩) (World.block_lt_of_cell? _ _ h)]; exact h
      obtain ⟨n0, s0, s1, s2, s3, s4⟩ := HCk.out _ HB4.out
      have ey0 := fun x => keepc x _ _ _ y0
      have ey1 := fun x => keepc x _ _ _ y1
      have ey2 := fun x => keepc x _ _ _ y2
      have ey3 := fun x => keepc x _ _ _ y3
      have ey4 := fun x => keepc x _ _ _ y4
      have en0 := fun x => keepc x _ _ _ n0
      have es0 := fun x => keepc x _ _ _ s0
      have es1 := fun x => keepc x _ _ _ s1
      have es2 := fun x => keepc x _ _ _ s2
      have es3 := fun x => keepc x _ _ _ s3
      have es4 := fun x => keepc x _ _ _ s4
      have hbn : (nm.toList == nm.toList) = true := beq_self_eq_true _
      have HSm2 : ∀ x : Ext w4, Calls Tryd.prog 10 #[.agg #[.string nm, .int .i64 lo, .int .i64 hi', .bool wb, .int .i64 gr], .agg #[.string nm, .int .i64 lo, .int .i64 hi', .bool wb, .int .i64 gr]] x.wx fun e w' => Below x.wx.heap.size x.wx w' ∧ e = .returned (.bool true) := fun x => (HSm x.wx).mono fun _ _ k => ⟨k.2, k.1⟩
      have hi81 : i ≤ 81 := by omega
      clear hw4 hg4 hb4 hv4 hr4 hB3 y0 y1 y2 y3 y4 n0 s0 s1 s2 s3 s4 keepc HSm HLn
      refine wp_region_ext (by kernel_rfl) (by kernel_rfl) ?_
      repeat (go_big_quiet_step (first | (go_at_call 10; exact Calls.ext_of (HSm2 _))))
      refine wpQuiet_nil ?_
      intro wz hz
      obtain ⟨xx, rfl⟩ := hz
      have HBx : Hid (Below w2.heap.size w2 xx.wx) := HB4.out.trans (xx.ok.mono HB4.out.size)
      have hl1 : Lst (xx.wx.alloc (.cells #[.string nm] 9)) xx.wx.heap.size (some ⟨xx.wx.heap.size, 0, none⟩) 1 1 [nm] := Lst.one (heap_alloc_new xx.wx _) (Nat.le_refl _) HNz.out
      obtain ⟨w5, hw5⟩ : ∃ x, xx.wx.alloc (.cells #[.string nm] 9) = x := ⟨_, rfl⟩
      obtain ⟨g5, hg5⟩ : ∃ x, xx.wx.heap.size = x := ⟨_, rfl⟩
      have hb5 : Below xx.wx.heap.size xx.wx w5 := by rw [← hw5]; exact alloc_below xx.wx _
      rw [hw5, hg5] at hl1
      have HL5 : Hid (Lst w5 w2.heap.size (some ⟨g5, 0, none⟩) 1 1 [nm]) := ⟨hl1.own.low (by rw [← hg5]; exact HBx.out.size), hl1.sz, hl1.pos⟩
      have HB5 : Hid (Below w2.heap.size w2 w5) := HBx.out.trans (hb5.mono HBx.out.size)
      have HN1 : Hid (1 ≤ 1 + 0) := Nat.le_refl _
      clear hl1 hb5
      go_upto_region 13 with fail
      try simp only [hw5, hg5]
      clear hw5 hg5 ey0 ey1 ey2 ey3 ey4 en0 es0 es1 es2 es3 es4 hex HSm2
      go_loopg [6, 7] 12 (fun g ov kv wr => ∃ (k : Nat) (a : Option Addr) (n c : Nat) (ls : List ByteArray), k + g = 12 ∧ kv = .int .i64 k ∧ ov = .slice a n c ∧ Hid (Lst wr w2.heap.size a n c ls) ∧ Hid (n ≤ 1 + k) ∧ Hid (Below w2.heap.size w2 wr))
      case atStart => exact ⟨0, _, 1, 1, [nm], rfl, rfl, rfl, HL5, HN1, HB5⟩
      case round =>
        obtain ⟨k, a, n, c, ls, hk, rfl, rfl, HL, HNn, HB⟩ := hrel
        clear HL5 HB5 HN1
        by_cases h12 : (k : Int) < 12
        · have hck := checks_any a n c ls wr HL.out.rd (fun s hs => by have := HL.out.sz s hs; unfold maxLen; omega) (HX.out _ HB.out).1
          have hb1 : (n + 1) * 16 ≤ 140737488355328 := by have := HNn.out; omega
          have hm1 : n + 1 ≤ maxLen := by have := HNn.out; unfold maxLen; omega
          have h97 : Hid ((ByteArray.mk #[97]).size ≤ 100) := by show _ ≤ _; decide
          go_wp2_with (first
            | (go_at_call 11; refine hck.mono ?_; rintro e w6 ⟨rfl, hB6⟩; have HL6 : Hid (Lst (w6.alloc (.cells #[.string ⟨#[97]⟩] 9)) w2.heap.size a n c ls) := (HL.out.keep hB6).keep (alloc_below w6 _); have HB6 : Hid (Below w2.heap.size w2 (w6.alloc (.cells #[.string ⟨#[97]⟩] 9))) := (HB.out.trans (hB6.mono HB.out.size)).trans ((alloc_below w6 _).mono (Nat.le_trans HB.out.size hB6.size)); clear hB6)
            | (at_builtin; refine append_t rfl (.tmp 69) (.tmp 70) rfl eltS w2.heap.size rfl HL6.out.own [.string ⟨#[97]⟩] rfl rfl (fun h => by cases h) (cells_new rfl) (one1 _) hb1 hm1 HB6.out.size ?_; intro a7 n7 c7 w7 hn7 HO7 HB7; have HL7 : Hid (Lst w7 w2.heap.size a7 n7 c7 (ls ++ [⟨#[97]⟩])) := HL6.out.push HO7.out hn7 h97.out; have HB7x : Hid (Below w2.heap.size w2 w7) := HB6.out.trans HB7.out; have HN7 : Hid (n7 ≤ 1 + (k + 1)) := (by have := HNn.out; show _ ≤ _; omega)))
          go_roundg (gk - 1)
          case measure => omega
          case rel => exact ⟨k + 1, a7, n7, c7, _, by omega, by go_num, by rw [hn7], HL7, HN7, HB7x⟩
        · clear HL HNn
          go_wp2
          go_roundg (gi - 1)
          case measure => omega
          case rel => exact ⟨i + 1, by omega, by go_num, HB⟩
    · clear HCn
      have hmk := mmake wr
      obtain ⟨gm, hgm⟩ : ∃ x, wr.heap.size = x := ⟨_, rfl⟩
      have hL0 := many_own wr w2.heap.size HB.out.size
      rw [hgm] at hmk hL0
      obtain ⟨w5, hw5⟩ : ∃ x, wr.alloc (.cells mc 9) = x := ⟨_, rfl⟩
      rw [hw5] at hmk hL0
      have hb5 : Below wr.heap.size wr w5 := by rw [← hw5]; exact alloc_below wr _
      have HB5 : Hid (Below w2.heap.size w2 w5) := HB.out.trans (hb5.mono HB.out.size)
      have HL0 : Hid (Lst w5 w2.heap.size (some ⟨gm, 0, none⟩) 258 258 (List.replicate 258 ⟨#[]⟩)) := hL0
      clear hgm hw5 hb5 hL0
      go_upto_region 20 with fail
      obtain ⟨w6, hw6⟩ : ∃ x, w5.alloc (.cells #[.string ⟨#[100, 101, 108]⟩, .string ⟨#[109, 115, 101, 116]⟩, .string ⟨#[104, 115, 101, 116]⟩, .string ⟨#[109, 103, 101, 116]⟩] 9) = x := ⟨_, rfl⟩
      obtain ⟨g73, hg73⟩ : ∃ x, w5.heap.size = x := ⟨_, rfl⟩
      have hb6 : Below w5.heap.size w5 w6 := by rw [← hw6]; exact alloc_below w5 _
      have hNm : RdS w6 (some ⟨g73, 0, none⟩) 4 nms := by rw [← hw6, ← hg73]; exact RdS.lit w5 nms 9 4 _ rfl rfl (by decide)
      have HB6 : Hid (Below w2.heap.size w2 w6) := HB5.out.trans (hb6.mono HB5.out.size)
      have HL6 : Hid (Lst w6 w2.heap.size (some ⟨gm, 0, none⟩) 258 258 (List.replicate 258 ⟨#[]⟩)) := HL0.out.keep hb6
      have hgm73 : gm ≠ g73 := by
        have := (HL0.out.own.lt (k := gm) rfl).2
        omega
      have HNm : Hid (∀ j, j < 4 → w6.cell? ⟨g73, j, none⟩ = some (.string (nms.getD j ByteArray.empty))) := fun j hj => hNm.at0 j hj
      try simp only [hw6, hg73]
      clear hw6 hg73 hb6 hNm HL0 HB5 HB hmk
      go_loopg [75] 4 (fun g iv wr => ∃ (k : Nat) (ls : List ByteArray), k + g = 4 ∧ iv = .int .i64 k ∧ Hid (Lst wr w2.heap.size (some ⟨gm, 0, none⟩) 258 258 ls) ∧ Hid (∀ j, j < 4 → wr.cell? ⟨g73, j, none⟩ = some (.string (nms.getD j ByteArray.empty))) ∧ Hid (Below w2.heap.size w2 wr))
      case atStart => exact ⟨0, _, rfl, rfl, HL6, HNm, HB6⟩
      case round =>
        obtain ⟨k, ls, hk, rfl, HL, HNm, HB⟩ := hrel
        clear HL6 HB6
        by_cases h4 : (k : Int) < 4
        · have cnm := HNm.out k (by omega)
          have hnz := nms_at k
          obtain ⟨t, ht⟩ : ∃ x, nms.getD k ByteArray.empty = x := ⟨_, rfl⟩
          rw [ht] at cnm hnz
          have hll : ls.length = 258 := HL.out.rd.len
          have cm0 : wr.cell? ⟨gm, 0, none⟩ = some (.string (ls.getD 0 ByteArray.empty)) := HL.out.rd.at0 0 (by decide)
          have fm0 := HL.out.own.fz 0
          have hgml : w2.heap.size ≤ gm := (HL.out.own.lt (k := gm) rfl).1
          obtain ⟨w7, hw7⟩ : ∃ x, wr.setCell ⟨gm, 0, none⟩ (.string t) = x := ⟨_, rfl⟩
          have HB7 : Hid (Below w2.heap.size w2 w7) := by show Below _ _ _; rw [← hw7]; exact HB.out.setCell hgml _
          have HL7 : Hid (Lst w7 w2.heap.size (some ⟨gm, 0, none⟩) 258 258 (ls.set 0 t)) := by
            show Lst _ _ _ _ _ _
            rw [← hw7]
            refine ⟨by rw [List.map_set]; exact HL.out.own.store 0 _, fun s hs => ?_, by decide⟩
            rcases List.mem_or_eq_of_mem_set hs with h | h
            · exact HL.out.sz s h
            · rw [h]; exact hnz
          have HNm7 : Hid (∀ j, j < 4 → w7.cell? ⟨g73, j, none⟩ = some (.string (nms.getD j ByteArray.empty))) := fun j hj => by
            rw [← hw7, World.cell?_setCell_other _ _ _ _ (fun e => hgm73 (congrArg Addr.block e))]
            exact HNm.out j hj
          obtain ⟨l7, hl7⟩ : ∃ x, ls.set 0 t = x := ⟨_, rfl⟩
          rw [hl7] at HL7
          have hs255 : ∀ wx, (Instr.sliceAt 24 (.slice (some ⟨gm, 0, none⟩) 258 258) none (some (.int .i64 255)) none).run Tryd.prog wx = .ok (.slice (some ⟨gm, 0, none⟩) 255 258) wx := OwnS_slice (k := 255) HL7.out.own (by decide) (by decide)
          have hs256 : ∀ wx, (Instr.sliceAt 24 (.slice (some ⟨gm, 0, none⟩) 258 258) none (some (.int .i64 256)) none).run Tryd.prog wx = .ok (.slice (some ⟨gm, 0, none⟩) 256 258) wx := OwnS_slice (k := 256) HL7.out.own (by decide) (by decide)
          have hs257 : ∀ wx, (Instr.sliceAt 24 (.slice (some ⟨gm, 0, none⟩) 258 258) none (some (.int .i64 257)) none).run Tryd.prog wx = .ok (.slice (some ⟨gm, 0, none⟩) 257 258) wx := OwnS_slice (k := 257) HL7.out.own (by decide) (by decide)
          have HCk : Hid (∀ wx, Below w7.heap.size w7 wx → ∀ m, m ≤ 258 → Calls Tryd.prog 11 #[.slice (some ⟨gm, 0, none⟩) m 258] wx fun e w' => e = .returned (.bool true) ∧ Below w7.heap.size w7 w') := fun wx h m hm => by
            have h1 := HB7.out.trans (h.mono HB7.out.size)
            exact (checks_any _ m 258 (l7.take m) wx ((HL7.out.keep h).rd.take hm) (fun s hs => by have := HL7.out.sz s (List.mem_of_mem_take hs); unfold maxLen; omega) (HX.out _ h1).1).mono fun e w' q => ⟨q.1, h.trans (q.2.mono h.size)⟩
          have hck1 := HCk.out w7 (Below.refl _ _) 255 (by decide)
          clear ht hll hl7
          go_wp2_with (first
            | (go_at_call 11; refine (HCk.out _ HBc.out 258 (by decide)).mono ?_; rintro e wd ⟨rfl, hBd⟩; have HBd : Hid (Below w7.heap.size w7 wd) := hBd; clear hBd)
            | (go_at_call 11; refine (HCk.out _ HBb.out 257 (by decide)).mono ?_; rintro e wc ⟨rfl, hBc⟩; have HBc : Hid (Below w7.heap.size w7 wc) := hBc; clear hBc)
            | (go_at_call 11; refine (HCk.out _ HBa.out 256 (by decide)).mono ?_; rintro e wb ⟨rfl, hBb⟩; have HBb : Hid (Below w7.heap.size w7 wb) := hBb; clear hBb)
            | (go_at_call 11; refine hck1.mono ?_; rintro e wa ⟨rfl, hBa⟩; have HBa : Hid (Below w7.heap.size w7 wa) := hBa; clear hBa))
          have HLn : Hid (Lst wd w2.heap.size (some ⟨gm, 0, none⟩) 258 258 l7) := HL7.out.keep HBd.out
          have HNn : Hid (∀ j, j < 4 → wd.cell? ⟨g73, j, none⟩ = some (.string (nms.getD j ByteArray.empty))) := fun j hj => by
            have h := HNm7.out j hj
            rw [HBd.out.cell (p := ⟨g73, j, none⟩) (World.block_lt_of_cell? _ _ h)]; exact h
          have HBn : Hid (Below w2.heap.size w2 wd) := HB7.out.trans (HBd.out.mono HB7.out.size)
          go_roundg (gk - 1)
          case measure => omega
          case rel => exact ⟨k + 1, l7, by omega, by go_num, HLn, HNn, HBn⟩
        · clear HL HNm
          go_upto_region 26 with fail
          have hxr := HX.out wr HB.out
          have ckN := checks_any none 0 0 [] wr ⟨rfl, Nat.zero_le _, fun j hj => absurd hj (Nat.not_lt_zero _)⟩ (fun s hs => absurd hs (by simp)) hxr.1
          have ck1 := fun w hg => lit_checks w [⟨#[]⟩] 1 #[.string ⟨#[]⟩] rfl rfl (by decide) (fun s hs => by rw [List.mem_singleton.1 hs]; decide) hg
          have hmk5 : ∀ w, (Instr.makeSlice 33 (.int .i64 5000) (.int .i64 5000)).run Tryd.prog w = .ok (.slice (some ⟨w.heap.size, 0, none⟩) 5000 5000) (w.alloc (.cells (zc 5000) 5)) := zmake 5000 (by decide)
          have hmk7 : ∀ w, (Instr.makeSlice 33 (.int .i64 4097) (.int .i64 4097)).run Tryd.prog w = .ok (.slice (some ⟨w.heap.size, 0, none⟩) 4097 4097) (w.alloc (.cells (zc 4097) 5)) := zmake 4097 (by decide)
          have hmk6 : ∀ w, (Instr.makeSlice 33 (.int .i64 4096) (.int .i64 4096)).run Tryd.prog w = .ok (.slice (some ⟨w.heap.size, 0, none⟩) 4096 4096) (w.alloc (.cells (zc 4096) 5)) := zmake 4096 (by decide)
          have hcv5 := ztext 5000 (by decide)
          have hcv7 := ztext 4097 (by decide)
          have hcv6 := ztext 4096 (by decide)
          have hzz5 : (zs 5000).size ≤ maxLen := by rw [zs_size]; decide
          have hzz7 : (zs 4097).size ≤ maxLen := by rw [zs_size]; decide
          have hzz6 : (zs 4096).size ≤ maxLen := by rw [zs_size]; decide
          obtain ⟨C5, hC5⟩ : ∃ x, zc 5000 = x := ⟨_, rfl⟩
          obtain ⟨C7, hC7⟩ : ∃ x, zc 4097 = x := ⟨_, rfl⟩
          obtain ⟨C6, hC6⟩ : ∃ x, zc 4096 = x := ⟨_, rfl⟩
          obtain ⟨Z5, hZ5⟩ : ∃ x, zs 5000 = x := ⟨_, rfl⟩
          obtain ⟨Z7, hZ7⟩ : ∃ x, zs 4097 = x := ⟨_, rfl⟩
          obtain ⟨Z6, hZ6⟩ : ∃ x, zs 4096 = x := ⟨_, rfl⟩
          simp only [hC5] at hmk5 hcv5
          simp only [hC7] at hmk7 hcv7
          simp only [hC6] at hmk6 hcv6
          simp only [hZ5] at hcv5 hzz5
          simp only [hZ7] at hcv7 hzz7
          simp only [hZ6] at hcv6 hzz6
          clear hC5 hC7 hC6 hZ5 hZ7 hZ6
          have HZ : Hid (Z5.size ≤ maxLen ∧ Z7.size ≤ maxLen ∧ Z6.size ≤ maxLen) := ⟨hzz5, hzz7, hzz6⟩
          have hg3 : (ByteArray.mk #[103, 101, 116]).size ≤ maxLen := by decide
          have HG3 : Hid _ := hg3
          clear hzz5 hzz7 hzz6 hg3
          have ck5 := fun w hg => zero_checks w [Z5] 1 #[.string Z5] C5 rfl rfl (by decide) (fun s hs => by rw [List.mem_singleton.1 hs]; exact HZ.out.1) hg
          have ck7 := fun w hg => zero_checks w [⟨#[103, 101, 116]⟩, Z7] 2 #[.string ⟨#[103, 101, 116]⟩, .string Z7] C7 rfl rfl (by decide) (fun s hs => (List.mem_cons.1 hs).elim (fun h => by rw [h]; exact HG3.out) (fun h => by rw [List.mem_singleton.1 h]; exact HZ.out.2.1)) hg
          have ck6 := fun w hg => zero_checks w [⟨#[103, 101, 116]⟩, Z6] 2 #[.string ⟨#[103, 101, 116]⟩, .string Z6] C6 rfl rfl (by decide) (fun s hs => (List.mem_cons.1 hs).elim (fun h => by rw [h]; exact HG3.out) (fun h => by rw [List.mem_singleton.1 h]; exact HZ.out.2.2)) hg
          clear hxr
          go_wp2_with (first
            | (go_at_call 12; refine (known_any _ (HX.out _ HB6.out).1).mono ?_; rintro e wk ⟨rfl, hBk⟩; have HBk : Hid (Below w2.heap.size w2 wk) := HB6.out.trans (hBk.mono HB6.out.size); clear hBk)
            | (go_at_call 11; refine (ck6 _ (HX.out _ HB7.out).1).mono ?_; rintro e w66 ⟨rfl, hB6⟩; have HB6 : Hid (Below w2.heap.size w2 w66) := HB7.out.trans (hB6.mono HB7.out.size); clear hB6)
            | (go_at_call 11; refine (ck7 _ (HX.out _ HB5.out).1).mono ?_; rintro e w67 ⟨rfl, hB7⟩; have HB7 : Hid (Below w2.heap.size w2 w67) := HB5.out.trans (hB7.mono HB5.out.size); clear hB7)
            | (go_at_call 11; refine (ck5 _ (HX.out _ HB1x.out).1).mono ?_; rintro e w65 ⟨rfl, hB5⟩; have HB5 : Hid (Below w2.heap.size w2 w65) := HB1x.out.trans (hB5.mono HB1x.out.size); clear hB5)
            | (go_at_call 11; refine (ck1 _ (HX.out _ HBn.out).1).mono ?_; rintro e w61 ⟨rfl, hB1x⟩; have HB1x : Hid (Below w2.heap.size w2 w61) := HBn.out.trans (hB1x.mono HBn.out.size); clear hB1x)
            | (go_at_call 11; refine ckN.mono ?_; rintro e w60 ⟨rfl, hBn⟩; have HBn : Hid (Below w2.heap.size w2 w60) := HB.out.trans (hBn.mono HB.out.size); clear hBn))
          go_ret
          exact ⟨rfl, (HX.out _ HBk.out).2.1⟩
end Go.Proofs.YtlapiaoopmhogaaDoor
