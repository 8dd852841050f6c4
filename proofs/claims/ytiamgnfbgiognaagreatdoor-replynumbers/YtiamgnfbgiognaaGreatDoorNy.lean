/-
  ReplyNumbers: each Kind against each.
-/
import Derived.Test.YtiamgnfbgiognaaGreatDoorFa
import Derived.Test.YtiamgnfbgiognaaGreatDoorXRefText
import Derived.Test.YtiamgnfbgiognaaGreatDoorRg
namespace Go.Proofs.YtiamgnfbgiognaaGreatDoor
open Go.RowKit Go.PlainAid

theorem field0 (k : Int) (v1 v2 v3 : Value) (w : World) : (Instr.field 24 (.agg #[.int .i64 k, v1, v2, v3]) 0).run Tryz.prog w = .ok (.int .i64 k) w := by
  simp [Instr.field, asAgg, part]
  try go_simp
theorem field2 (n : Int) (v0 v1 v3 : Value) (w : World) : (Instr.field 24 (.agg #[v0, v1, .int .i64 n, v3]) 2).run Tryz.prog w = .ok (.int .i64 n) w := by
  simp [Instr.field, asAgg, part]
  try go_simp
theorem Int_any (n : Int) (w : World) : Calls Tryz.prog 13 #[.int .i64 n] w fun r w' => Below w.heap.size w w' ∧ r = .returned (.agg #[.int .i64 3, .string ⟨#[]⟩, .int .i64 n, .slice none 0 0]) := by
  obtain ⟨w1, hw1⟩ : ∃ w1, w.alloc (.cells #[.int .i64 0, .string ⟨#[]⟩, .int .i64 0, .slice none 0 0] 24) = w1 := ⟨_, rfl⟩
  have HB1 : Hid (Below w.heap.size w w1) := by rw [← hw1]; exact alloc_below w _
  have HZ1 : Hid (BR w1 w.heap.size 0 ⟨#[]⟩ 0 none 0 0) := by rw [← hw1]; exact BR.new w _ _ _ _ _ _
  have HE : ∀ w9, w9 = (((w1.setCell ⟨w.heap.size, 0, none⟩ (.int .i64 3)).setCell ⟨w.heap.size, 1, none⟩ (.string ⟨#[]⟩)).setCell ⟨w.heap.size, 2, none⟩ (.int .i64 n)).setCell ⟨w.heap.size, 3, none⟩ (.slice none 0 0) → Hid (w9.heap[w.heap.size]? = some (.cells #[.int .i64 3, .string ⟨#[]⟩, .int .i64 n, .slice none 0 0] 24 (0, 0))) ∧ Hid (Below w.heap.size w w9) := fun w9 h9 => by
    have h1 := HZ1.out.put 3 ⟨#[]⟩ n none 0 0
    rw [← h9] at h1
    have hs9 : Stay w1 w9 [w.heap.size] := by rw [h9]; exact Stay.set4
    exact ⟨h1.blk, HB1.out.trans (hs9.below (fun g hg => by simp at hg; omega) HB1.out.size)⟩
  obtain ⟨HE1, HE2⟩ := HE _ rfl
  have x0 := HZ1.out.c0
  have x1 := HZ1.out.c1
  have x2 := HZ1.out.c2
  have x3 := HZ1.out.c3
  have y0 := HZ1.out.fz 0
  have y1 := HZ1.out.fz 1
  have y2 := HZ1.out.fz 2
  have y3 := HZ1.out.fz 3
  clear HE
  go_enter Tryz.func13, Tryz.ntmps13
  go_wp2
  exact ret_R rfl rfl HE1.out ⟨HE2.out, rfl⟩
theorem New_code (s : ByteArray) (c : Int) (w : World) (hg : Laid w) : Calls Tryz.prog 9 #[.string s, .int .i64 c] w fun e w' => ∃ E, e = .returned E ∧ Below w.heap.size w w' ∧ ∀ wx, Below w'.heap.size w' wx → Calls Tryz.prog 22 #[E] wx fun e2 w2 => e2 = .returned (.int .i64 c) ∧ Below wx.heap.size wx w2 := by
  by_cases h : c = 0
  · subst h
    refine (New_ok s w).mono fun e w' h => ?_
    obtain ⟨rfl, rfl⟩ := h
    exact ⟨_, rfl, Below.refl _ _, fun wx _ => (Code_nil wx).mono fun e2 w2 h => ⟨h.1, by rw [h.2]; exact Below.refl _ _⟩⟩
  · refine (New_err s c h w).mono fun e w' h => ?_
    obtain ⟨rfl, rfl⟩ := h
    have hb := newW_below w s (codeV c)
    have hg1 : Laid (newW w s (codeV c)) := hg.keep hb (lt_of_cell? hg)
    exact ⟨_, rfl, hb, fun wx hx => Code_code _ c 1 wx (hg1.keep hx (lt_of_cell? hg1)) (((Chain.leaf (W := w) (R := codeV c)).new s).keep hx (Nat.le_refl _))⟩
/-- Two parts in a row, as they were made. -/
theorem row2 (w w' : World) (k k' n n' : Int) (h : w.alloc (.cells #[.int .i64 k, .string ⟨#[]⟩, .int .i64 n, .slice none 0 0, .int .i64 k', .string ⟨#[]⟩, .int .i64 n', .slice none 0 0] 24) = w') (q : Int) (s : ByteArray) (z : Int) : Vl w' (fun g => w.heap.size ≤ g) 1 ⟨q, s, z, some ⟨w.heap.size, 0, none⟩, 2, 2⟩ (.mk q s z [.mk k ⟨#[]⟩ n [], .mk k' ⟨#[]⟩ n' []]) := by
  subst h
  have h1 := OwnE.made w [⟨k, ⟨#[]⟩, n, none, 0, 0⟩, ⟨k', ⟨#[]⟩, n', none, 0, 0⟩] w.heap.size 2 rfl (Nat.le_refl _) (by omega)
  refine ⟨rfl, rfl, rfl, Hd.of (OwnE.rd h1 (Nat.le_refl _)) (show 2 ≤ 12 by omega) ?_⟩
  exact (Vls.one (Vl.leaf _ _ _ k ⟨#[]⟩ n)).append (Vls.one (Vl.leaf _ _ _ k' ⟨#[]⟩ n'))
/-- Two texts as bulks. -/
def B2 (s t : ByteArray) : List El := [⟨4, s, 0, none, 0, 0⟩, ⟨4, t, 0, none, 0, 0⟩]
set_option maxRecDepth 100000 in
set_option maxHeartbeats 2000000 in
theorem Bulks_two (g : Nat) (s t : ByteArray) (w : World) (h0 : w.cell? ⟨g, 0, none⟩ = some (.string s)) (h1 : w.cell? ⟨g, 1, none⟩ = some (.string t)) : Calls Tryz.prog 12 #[.slice (some ⟨g, 0, none⟩) 2 2] w fun r w' => Below w.heap.size w w' ∧ ∃ g', r = .returned (.agg #[.int .i64 7, .string ⟨#[]⟩, .int .i64 0, .slice (some ⟨g', 0, none⟩) 2 2]) ∧ w'.cell? ⟨g', 5, none⟩ = some (.string t) := by
  have HBu := Bulk_any
  obtain ⟨w1, hw1⟩ : ∃ w1, w.alloc (.cells #[.int .i64 0, .string ⟨#[]⟩, .int .i64 0, .slice none 0 0] 24) = w1 := ⟨_, rfl⟩
  have hb1 : Below w.heap.size w w1 := by rw [← hw1]; exact alloc_below w _
  have HZ1 : Hid (BR w1 w.heap.size 0 ⟨#[]⟩ 0 none 0 0) := by rw [← hw1]; exact BR.new w _ _ _ _ _ _
  have hmk := make_R w1 2 (by omega)
  obtain ⟨w4, hw4⟩ : ∃ w4, w1.alloc (.cells (rcells (List.replicate 2 El.z)).toArray 24) = w4 := ⟨_, rfl⟩
  rw [hw4] at hmk
  replace hmk : (Instr.makeSlice 22 (.int .i64 2) (.int .i64 2)).run Tryz.prog w1 = .ok (.slice (some ⟨w1.heap.size, 0, none⟩) 2 2) w4 := hmk
  have hb4 : Below w1.heap.size w1 w4 := by rw [← hw4]; exact alloc_below w1 _
  have HZ4 : Hid _ := HZ1.out.keep hb4
  have HB4 : Hid (Below w.heap.size w w4) := hb1.trans (hb4.mono hb1.size)
  have HO4 : Hid (OwnE w4 w1.heap.size (some ⟨w1.heap.size, 0, none⟩) 2 2 (List.replicate 2 El.z)) := by rw [← hw4]; exact OwnE.made w1 _ _ 2 (by simp) (Nat.le_refl _) (by omega)
  have HL : Hid (w.heap.size < w1.heap.size ∧ w1.heap.size < w4.heap.size) := ⟨HZ1.out.lt, by rw [← hw4]; exact alloc_lt w1 _ _⟩
  have HC : Hid (∀ (i : Nat) wx, i < 2 → Below w.heap.size w wx → wx.cell? ⟨g, i, none⟩ = some (.string (if i = 0 then s else t))) := fun i wx hi hx => by
    have hl := World.block_lt_of_cell? w _ h0
    rw [hx.cell (p := ⟨g, i, none⟩) hl]
    have : i = 0 ∨ i = 1 := by omega
    rcases this with rfl | rfl
    · exact h0
    · exact h1
  clear hb1 hb4 h0 h1 hw4
  go_enter Tryz.func12, Tryz.ntmps12
  go_wp2
  clear hmk hw1
  go_loopg [11] 2 (fun gk iv wr => ∃ (i : Nat), i + gk = 2 ∧ iv = .int .i64 i ∧ Hid (OwnE wr w1.heap.size (some ⟨w1.heap.size, 0, none⟩) 2 2 ((B2 s t).take i ++ List.replicate (2 - i) El.z)) ∧ Hid (Below w.heap.size w wr) ∧ Hid (BR wr w.heap.size 0 ⟨#[]⟩ 0 none 0 0))
  case atStart => exact ⟨0, by omega, rfl, HO4, HB4, HZ4⟩
  case round =>
    obtain ⟨i, hi, rfl, HO, HB, HZ⟩ := hrel
    by_cases h8 : (i : Int) < 2
    · have hin : i < 2 := by omega
      have c0 := HC.out i wr hin HB.out
      obtain ⟨q, hq⟩ : ∃ q, (if i = 0 then s else t) = q := ⟨_, rfl⟩
      rw [hq] at c0
      have HQ : Hid ((B2 s t).take (i + 1) = (B2 s t).take i ++ [⟨4, q, 0, none, 0, 0⟩]) := by
        have : i = 0 ∨ i = 1 := by omega
        rcases this with rfl | rfl
        · rw [← hq]; rfl
        · rw [← hq]; rfl
      have HXl : Hid (((B2 s t).take i).length = i) := by show _ = _; rw [List.length_take]; show min i 2 = i; omega
      clear hq
      go_wp2_with fail
      refine (HBu _ _).mono ?_
      rintro e w6 ⟨hb6, rfl⟩
      have HB6 := step_below HB hb6
      have HZ6 : Hid _ := HZ.out.keep hb6
      have hO6 : OwnE w6 w1.heap.size (some ⟨w1.heap.size, 0, none⟩) 2 2 ((B2 s t).take i ++ List.replicate (2 - i) El.z) := OwnR.keep HO.out hb6
      obtain ⟨p, hp⟩ : ∃ p, ((B2 s t).take i ++ List.replicate (2 - i) El.z)[i]? = some p := ⟨_, List.getElem?_eq_getElem (by rw [OwnE.len hO6]; exact hin)⟩
      obtain ⟨s0, s1', s2, s3⟩ := OwnE.cells hO6 hp
      have g0 := OwnR.fz hO6 (i * 4)
      have g1' := OwnR.fz hO6 (i * 4 + 1)
      have g2 := OwnR.fz hO6 (i * 4 + 2)
      have g3 := OwnR.fz hO6 (i * 4 + 3)
      have HO7 : Hid (OwnE ((((w6.setCell ⟨w1.heap.size, i * 4, none⟩ (.int .i64 4)).setCell ⟨w1.heap.size, i * 4 + 1, none⟩ (.string q)).setCell ⟨w1.heap.size, i * 4 + 2, none⟩ (.int .i64 0)).setCell ⟨w1.heap.size, i * 4 + 3, none⟩ (.slice none 0 0)) w1.heap.size (some ⟨w1.heap.size, 0, none⟩) 2 2 ((B2 s t).take (i + 1) ++ List.replicate (2 - (i + 1)) El.z)) := by
        have h1 := OwnE.set4 hO6 i ⟨4, q, 0, none, 0, 0⟩
        rw [set_one _ _ HXl.out hin, ← HQ.out] at h1
        exact h1
      have HB7 : Hid (Below w.heap.size w ((((w6.setCell ⟨w1.heap.size, i * 4, none⟩ (.int .i64 4)).setCell ⟨w1.heap.size, i * 4 + 1, none⟩ (.string q)).setCell ⟨w1.heap.size, i * 4 + 2, none⟩ (.int .i64 0)).setCell ⟨w1.heap.size, i * 4 + 3, none⟩ (.slice none 0 0))) := HB6.out.trans (Stay.set4.below (fun k hk => by have := HL.out; simp at hk; omega) HB6.out.size)
      have HZ7 : Hid (BR ((((w6.setCell ⟨w1.heap.size, i * 4, none⟩ (.int .i64 4)).setCell ⟨w1.heap.size, i * 4 + 1, none⟩ (.string q)).setCell ⟨w1.heap.size, i * 4 + 2, none⟩ (.int .i64 0)).setCell ⟨w1.heap.size, i * 4 + 3, none⟩ (.slice none 0 0)) w.heap.size 0 ⟨#[]⟩ 0 none 0 0) := HZ6.out.stay Stay.set4 (by have := HL.out; simp; omega)
      clear hb6 hO6 hp HO HB HZ
      go_wp2
      go_roundg (gk - 1)
      case measure => omega
      case rel => exact ⟨i + 1, by omega, by go_num, HO7, HB7, HZ7⟩
    · have hi2 : i = 2 := by omega
      subst hi2
      have HO' : Hid (OwnE wr w1.heap.size (some ⟨w1.heap.size, 0, none⟩) 2 2 (B2 s t)) := HO
      have HE : ∀ w9, w9 = (((wr.setCell ⟨w.heap.size, 0, none⟩ (.int .i64 7)).setCell ⟨w.heap.size, 1, none⟩ (.string ⟨#[]⟩)).setCell ⟨w.heap.size, 2, none⟩ (.int .i64 0)).setCell ⟨w.heap.size, 3, none⟩ (.slice (some ⟨w1.heap.size, 0, none⟩) 2 2) → Hid (w9.heap[w.heap.size]? = some (.cells #[.int .i64 7, .string ⟨#[]⟩, .int .i64 0, .slice (some ⟨w1.heap.size, 0, none⟩) 2 2] 24 (0, 0))) ∧ Hid (Below w.heap.size w w9) ∧ Hid (w9.cell? ⟨w1.heap.size, 5, none⟩ = some (.string t)) := fun w9 h9 => by
        have h1 := HZ.out.put 7 ⟨#[]⟩ 0 (some ⟨w1.heap.size, 0, none⟩) 2 2
        rw [← h9] at h1
        have hs9 : Stay wr w9 [w.heap.size] := by rw [h9]; exact Stay.set4
        have hO9 : OwnE w9 w1.heap.size (some ⟨w1.heap.size, 0, none⟩) 2 2 (B2 s t) := OwnR.kept HO'.out (fun k hk => by cases hk; exact hs9.block _ (OwnR.lt HO'.out rfl).2.1 (by have := HL.out; simp; omega))
        have hc := OwnE.cells hO9 (j := 1) (e := ⟨4, t, 0, none, 0, 0⟩) rfl
        exact ⟨h1.blk, HB.out.trans (hs9.below (fun g hg => by simp at hg; omega) HB.out.size), hc.2.1⟩
      obtain ⟨HE1, HE2, HE3⟩ := HE _ rfl
      have x0 := HZ.out.c0
      have x1 := HZ.out.c1
      have x2 := HZ.out.c2
      have x3 := HZ.out.c3
      have y0 := HZ.out.fz 0
      have y1 := HZ.out.fz 1
      have y2 := HZ.out.fz 2
      have y3 := HZ.out.fz 3
      clear HE HO HO'
      go_wp2
      exact ret_R rfl rfl HE1.out ⟨HE2.out, _, rfl, HE3.out⟩
end Go.Proofs.YtiamgnfbgiognaaGreatDoor
