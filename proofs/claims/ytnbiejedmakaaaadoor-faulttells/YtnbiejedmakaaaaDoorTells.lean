/-
  The law FaultTells, walked.
-/
import Derived.Test.YtnbiejedmakaaaaDoorIs
namespace Go.Proofs.YtnbiejedmakaaaaDoor
open Go.RowKit Go.Extern.Stop Go.Stop Go.Extern

set_option maxHeartbeats 1000000 in
theorem tells_ok (a : Option Addr) (len cap : Nat) (w : World) (hg : Laid w) (hs : Strs w a len) :
    Calls Tryd.prog 4 #[.int .i64 0, .slice a len cap] w fun e w' => e = .returned (.bool true) ∧ Below w.heap.size w w' := by
  have hl := hs.1
  unfold maxLen at hl
  have HS : Hid (Strs w a len) := hs
  have HG : Hid (Laid w) := hg
  have hpos := lt_of_cell? hg
  clear hs hg
  by_cases h10 : 10 < len
  all_goals
    go_enter Tryd.func4, Tryd.ntmps4
    go_wp2_with (first
      | (go_at_call 18; refine (chain_ok a len cap _ HS.out).mono ?_; rintro e w ⟨rfl, rfl⟩)
      | (go_at_call 14; refine (Depth_chain .nilIface .nilIface 0 _ noFault_nil HG.out (by decide) .leaf).mono ?_; rintro e w1 ⟨rfl, hb1⟩)
      | (go_at_call 17; refine (known_any _ (HG.out.keep hb1 hpos)).mono ?_; rintro e w2 ⟨rfl, hb2⟩))
    go_ret
    exact ⟨rfl, hb1.trans (hb2.mono hb1.size)⟩

/-- A variable t got v; new blocks came; nothing else has turned. -/
structure Put (w w' : World) (t : Addr) (v : Value) : Prop where
  cell : w'.cell? t = some v
  free : w'.frozen? t = false
  other : ∀ p : Addr, p.block < w.heap.size → p ≠ t → w'.cell? p = w.cell? p
  fother : ∀ p : Addr, p.block < w.heap.size → w'.frozen? p = w.frozen? p
  below : ∀ B, B ≤ t.block → Below B w w'

theorem asW_put (w : World) (T T' : Nat) (t : Addr) (v old : Value) (ht : w.cell? t = some old) (hf : w.frozen? t = false) : Put w (asW w T T' t v) t v := by
  have hl := lt_of_cell? ht
  have hbx := below4 w (.cells #[.pointer (some t)] T) (rv T ⟨w.heap.size, 0, none⟩) (rv T ⟨w.heap.size, 0, none⟩) (.cells #[v] T')
  show Put w (((((w.alloc (.cells #[.pointer (some t)] T)).alloc (rv T ⟨w.heap.size, 0, none⟩)).alloc (rv T ⟨w.heap.size, 0, none⟩)).alloc (.cells #[v] T')).setCell t v) t v
  generalize ((((w.alloc (.cells #[.pointer (some t)] T)).alloc (rv T ⟨w.heap.size, 0, none⟩)).alloc (rv T ⟨w.heap.size, 0, none⟩)).alloc (.cells #[v] T')) = wx at hbx ⊢
  have hcx : wx.cell? t = some old := by rw [hbx.cell hl]; exact ht
  have hfx : wx.frozen? t = false := by rw [hbx.frozen hl]; exact hf
  refine ⟨World.cell?_setCell_same _ _ _ hcx, by simpa using hfx, fun p hp hne => ?_, fun p hp => ?_, fun B hB => ?_⟩
  · rw [World.cell?_setCell_other (a := t) (b := p) _ _ (fun e => hne e.symm)]; exact hbx.cell hp
  · have : (wx.setCell t v).frozen? p = wx.frozen? p := by simp
    rw [this]; exact hbx.frozen hp
  · exact (hbx.mono (by omega)).setCell hB _

/-- The law's last sentence, whatever 'last' is. -/
structure Asked (c : Int) (w w1 : World) (b : Nat) (t : ByteArray) (n : Nat) : Prop where
  below : Below w.heap.size w w1
  chain : Chain w1 (codeV c) (.iface 36 (.pointer (some ⟨b, 0, none⟩))) (n + 1)
  cmd : w1.cell? ⟨b, 0, none⟩ = some (.string t)

theorem Asked.keep {c : Int} {w w1 w2 : World} {b : Nat} {t : ByteArray} {n B : Nat} (h : Asked c w w1 b t n) (hb : Below B w1 w2) (hB : w1.heap.size ≤ B) : Asked c w w2 b t n where
  below := h.below.trans (hb.mono (Nat.le_trans h.below.size hB))
  chain := h.chain.keep hb hB
  cmd := by rw [hb.cell (p := ⟨b, 0, none⟩) (Nat.lt_of_lt_of_le (lt_of_cell? h.cmd) hB)]; exact h.cmd

set_option maxHeartbeats 1000000 in
theorem tells_err (c : Int) (a : Option Addr) (len cap : Nat) (w : World) (hg : Laid w) (hc : ¬ c = 0) (hs : Strs w a len) :
    Calls Tryd.prog 4 #[.int .i64 c, .slice a len cap] w fun e w' => e = .returned (.bool true) ∧ Below w.heap.size w w' := by
  have hl := hs.1
  unfold maxLen at hl
  have HS : Hid (Strs w a len) := hs
  have HG : Hid (Laid w) := hg
  have hpos := lt_of_cell? hg
  clear hs hg
  have hc0 : (c == 0) = false := by simp [hc]
  have hcc : (c == c) = true := by simp
  by_cases h0 : len = 0
  · subst h0
    go_enter Tryd.func4, Tryd.ntmps4
    go_wp2_with fail
    refine (chain_err c a 0 cap _ HG.out hc HS.out).mono ?_
    rintro e w1 ⟨b, t, rfl, hb1, hch1, hcm1, hla⟩
    have A1 : Hid (Asked c w w1 b t 0) := ⟨hb1, hch1, hcm1⟩
    have ht : t = ⟨#[102, 105, 114, 115, 116]⟩ := by
      rcases hla with ⟨_, h⟩ | ⟨_, _, _, h, _⟩
      · exact h
      · simp at h
    subst ht
    clear hb1 hch1 hcm1 hla
    have HN : Hid (((w1.alloc (Obj.cells #[Value.pointer none] 36)).alloc (Obj.cells #[Value.int IntKind.i64 0] 22)).heap.size = w1.heap.size + 2) := by show _ = _; simp
    have HA : Hid (Below w1.heap.size w1 ((w1.alloc (Obj.cells #[Value.pointer none] 36)).alloc (Obj.cells #[Value.int IntKind.i64 0] 22))) := ((Below.refl _ _).alloc (Nat.le_refl _) _).alloc (by simp) _
    have HGA : Hid (Laid ((w1.alloc (Obj.cells #[Value.pointer none] 36)).alloc (Obj.cells #[Value.int IntKind.i64 0] 22))) := (HG.out.keep A1.out.below hpos).keep HA.out (Nat.lt_of_lt_of_le hpos A1.out.below.size)
    go_wp2_with fail
    refine (As_fault ⟨b, 0, none⟩ ⟨w1.heap.size, 0, none⟩ (.pointer none) _ HGA.out (by simp) (by simp)).mono ?_
    rintro e w2 ⟨rfl, hw2⟩
    have P2 := asW_put ((w1.alloc (Obj.cells #[Value.pointer none] 36)).alloc (Obj.cells #[Value.int IntKind.i64 0] 22)) 38 36 ⟨w1.heap.size, 0, none⟩ (.pointer (some ⟨b, 0, none⟩)) (.pointer none) (by simp) (by simp)
    rw [← hw2] at P2
    clear hw2
    have hB2 : Below w1.heap.size w1 w2 := HA.out.trans (P2.below _ (Nat.le_refl _))
    have hf2 : w2.cell? ⟨w1.heap.size, 0, none⟩ = some (.pointer (some ⟨b, 0, none⟩)) := P2.cell
    have hk2 : w2.cell? ⟨w1.heap.size + 1, 0, none⟩ = some (.int .i64 0) := by rw [P2.other ⟨w1.heap.size + 1, 0, none⟩ (by rw [HN.out]; exact Nat.lt_succ_self _) (by simp)]; simp
    have hz2 : w2.frozen? ⟨w1.heap.size + 1, 0, none⟩ = false := by rw [P2.fother ⟨w1.heap.size + 1, 0, none⟩ (by rw [HN.out]; exact Nat.lt_succ_self _)]; simp
    have hA2 := A1.out.keep hB2 (Nat.le_refl _)
    have hcm2 : w2.cell? ⟨b, 0, none⟩ = some (.string ⟨#[102, 105, 114, 115, 116]⟩) := hA2.cmd
    have A2 : Hid (Asked c w w2 b ⟨#[102, 105, 114, 115, 116]⟩ 0) := hA2
    have HB2 : Hid (Below w1.heap.size w1 w2) := hB2
    have HK2 : Hid (w2.cell? ⟨w1.heap.size + 1, 0, none⟩ = some (.int .i64 0)) := hk2
    have HZ2 : Hid (w2.frozen? ⟨w1.heap.size + 1, 0, none⟩ = false) := hz2
    clear P2 hB2 hA2 hk2 hz2 HGA HA HN
    go_wp2_with fail
    refine (As_code _ c (0 + 1) ⟨w1.heap.size + 1, 0, none⟩ (.int .i64 0) _ (HG.out.keep A2.out.below hpos) A2.out.chain HK2.out HZ2.out).mono ?_
    rintro e w3 ⟨rfl, hw3⟩
    have P3 := asW_put w2 41 22 ⟨w1.heap.size + 1, 0, none⟩ (.int .i64 c) (.int .i64 0) HK2.out HZ2.out
    rw [← hw3] at P3
    clear hw3 hcm2 hf2
    have hk3 : w3.cell? ⟨w1.heap.size + 1, 0, none⟩ = some (.int .i64 c) := P3.cell
    have A3 : Hid (Asked c w w3 b ⟨#[102, 105, 114, 115, 116]⟩ 0) := A1.out.keep (HB2.out.trans (P3.below _ (Nat.le_succ _))) (Nat.le_refl _)
    clear P3 HK2 HZ2 A2 HB2
    go_wp2_with fail
    refine (Is_code _ c c (0 + 1) _ A3.out.chain).mono ?_
    rintro e w3 ⟨rfl, rfl⟩
    clear hk3
    go_wp2_with fail
    refine (Code_code _ c (0 + 1) _ (HG.out.keep A3.out.below hpos) A3.out.chain).mono ?_
    rintro e w4 ⟨rfl, hb4⟩
    have A4 : Hid (Asked c w w4 b ⟨#[102, 105, 114, 115, 116]⟩ 0) := A3.out.keep hb4 (Nat.le_refl _)
    clear hb4 A3
    go_wp2_with fail
    refine (Cmd_fault b ⟨#[102, 105, 114, 115, 116]⟩ _ (HG.out.keep A4.out.below hpos) A4.out.cmd).mono ?_
    rintro e w5 ⟨rfl, hb5⟩
    have A5 : Hid (Asked c w w5 b ⟨#[102, 105, 114, 115, 116]⟩ 0) := A4.out.keep hb5 (Nat.le_refl _)
    clear hb5 A4
    go_wp2_with fail
    refine (Depth_chain _ _ (0 + 1) _ (noFault_code c) (HG.out.keep A5.out.below hpos) (by omega) A5.out.chain).mono ?_
    rintro e w6 ⟨rfl, hb6⟩
    have A6 : Hid (Asked c w w6 b ⟨#[102, 105, 114, 115, 116]⟩ 0) := A5.out.keep hb6 (Nat.le_refl _)
    clear hb6 A5
    go_wp2_with fail
    refine (known_any _ (HG.out.keep A6.out.below hpos)).mono ?_
    rintro e w7 ⟨rfl, hb7⟩
    have A7 : Hid (Asked c w w7 b ⟨#[102, 105, 114, 115, 116]⟩ 0) := A6.out.keep hb7 (Nat.le_refl _)
    clear hb7 A6
    go_wp2
    go_ret
    exact ⟨rfl, A7.out.below⟩
  · by_cases h10 : 10 < len
    · obtain ⟨b', off, t', rfl, hcl, hsz⟩ := HS.out.2 9 (by omega)
      have hlb := lt_of_cell? hcl
      have HCL : Hid (w.cell? ⟨b', off + 9, none⟩ = some (.string t')) := hcl
      clear hcl
      go_enter Tryd.func4, Tryd.ntmps4
      go_wp2_with fail
      refine (chain_err c _ len cap _ HG.out hc HS.out).mono ?_
      rintro e w1 ⟨b, t, rfl, hb1, hch1, hcm1, hla⟩
      rw [show min len 10 = 10 by omega] at hch1 hla
      have A1 : Hid (Asked c w w1 b t 10) := ⟨hb1, hch1, hcm1⟩
      have ht : cutB t' 20 = t := by
        rcases hla with ⟨h, _⟩ | ⟨b3, off3, t3, _, h, h3, h4⟩
        · simp at h
        · cases h
          rw [HCL.out] at h3
          cases h3
          exact h4.symm
      have HT : Hid (cutB t' 20 = t) := ht
      have hcl1 : w1.cell? ⟨b', off + 9, none⟩ = some (.string t') := by rw [hb1.cell (p := ⟨b', off + 9, none⟩) hlb]; exact HCL.out
      clear hb1 hch1 hcm1 hla ht
      go_wp2_with fail
      refine (Cut_any _ _ _ (by decide)).mono ?_
      rintro e w1 ⟨rfl, rfl⟩
      rw [HT.out]
      have HN : Hid (((w1.alloc (Obj.cells #[Value.pointer none] 36)).alloc (Obj.cells #[Value.int IntKind.i64 0] 22)).heap.size = w1.heap.size + 2) := by show _ = _; simp
      have HA : Hid (Below w1.heap.size w1 ((w1.alloc (Obj.cells #[Value.pointer none] 36)).alloc (Obj.cells #[Value.int IntKind.i64 0] 22))) := ((Below.refl _ _).alloc (Nat.le_refl _) _).alloc (by simp) _
      have HGA : Hid (Laid ((w1.alloc (Obj.cells #[Value.pointer none] 36)).alloc (Obj.cells #[Value.int IntKind.i64 0] 22))) := (HG.out.keep A1.out.below hpos).keep HA.out (Nat.lt_of_lt_of_le hpos A1.out.below.size)
      go_wp2_with fail
      refine (As_fault ⟨b, 0, none⟩ ⟨w1.heap.size, 0, none⟩ (.pointer none) _ HGA.out (by simp) (by simp)).mono ?_
      rintro e w2 ⟨rfl, hw2⟩
      have P2 := asW_put ((w1.alloc (Obj.cells #[Value.pointer none] 36)).alloc (Obj.cells #[Value.int IntKind.i64 0] 22)) 38 36 ⟨w1.heap.size, 0, none⟩ (.pointer (some ⟨b, 0, none⟩)) (.pointer none) (by simp) (by simp)
      rw [← hw2] at P2
      clear hw2
      have hB2 : Below w1.heap.size w1 w2 := HA.out.trans (P2.below _ (Nat.le_refl _))
      have hf2 : w2.cell? ⟨w1.heap.size, 0, none⟩ = some (.pointer (some ⟨b, 0, none⟩)) := P2.cell
      have hk2 : w2.cell? ⟨w1.heap.size + 1, 0, none⟩ = some (.int .i64 0) := by rw [P2.other ⟨w1.heap.size + 1, 0, none⟩ (by rw [HN.out]; exact Nat.lt_succ_self _) (by simp)]; simp
      have hz2 : w2.frozen? ⟨w1.heap.size + 1, 0, none⟩ = false := by rw [P2.fother ⟨w1.heap.size + 1, 0, none⟩ (by rw [HN.out]; exact Nat.lt_succ_self _)]; simp
      have hA2 := A1.out.keep hB2 (Nat.le_refl _)
      have hcm2 : w2.cell? ⟨b, 0, none⟩ = some (.string t) := hA2.cmd
      have A2 : Hid (Asked c w w2 b t 10) := hA2
      have HB2 : Hid (Below w1.heap.size w1 w2) := hB2
      have HK2 : Hid (w2.cell? ⟨w1.heap.size + 1, 0, none⟩ = some (.int .i64 0)) := hk2
      have HZ2 : Hid (w2.frozen? ⟨w1.heap.size + 1, 0, none⟩ = false) := hz2
      clear P2 hB2 hA2 hk2 hz2 HGA HA HN
      go_wp2_with fail
      refine (As_code _ c (10 + 1) ⟨w1.heap.size + 1, 0, none⟩ (.int .i64 0) _ (HG.out.keep A2.out.below hpos) A2.out.chain HK2.out HZ2.out).mono ?_
      rintro e w3 ⟨rfl, hw3⟩
      have P3 := asW_put w2 41 22 ⟨w1.heap.size + 1, 0, none⟩ (.int .i64 c) (.int .i64 0) HK2.out HZ2.out
      rw [← hw3] at P3
      clear hw3 hcm2 hf2
      have hk3 : w3.cell? ⟨w1.heap.size + 1, 0, none⟩ = some (.int .i64 c) := P3.cell
      have A3 : Hid (Asked c w w3 b t 10) := A1.out.keep (HB2.out.trans (P3.below _ (Nat.le_succ _))) (Nat.le_refl _)
      clear P3 HK2 HZ2 A2 HB2
      go_wp2_with fail
      refine (Is_code _ c c (10 + 1) _ A3.out.chain).mono ?_
      rintro e w3 ⟨rfl, rfl⟩
      clear hk3
      go_wp2_with fail
      refine (Code_code _ c (10 + 1) _ (HG.out.keep A3.out.below hpos) A3.out.chain).mono ?_
      rintro e w4 ⟨rfl, hb4⟩
      have A4 : Hid (Asked c w w4 b t 10) := A3.out.keep hb4 (Nat.le_refl _)
      clear hb4 A3
      go_wp2_with fail
      refine (Cmd_fault b t _ (HG.out.keep A4.out.below hpos) A4.out.cmd).mono ?_
      rintro e w5 ⟨rfl, hb5⟩
      have A5 : Hid (Asked c w w5 b t 10) := A4.out.keep hb5 (Nat.le_refl _)
      clear hb5 A4
      go_wp2_with fail
      refine (Depth_chain _ _ (10 + 1) _ (noFault_code c) (HG.out.keep A5.out.below hpos) (by omega) A5.out.chain).mono ?_
      rintro e w6 ⟨rfl, hb6⟩
      have A6 : Hid (Asked c w w6 b t 10) := A5.out.keep hb6 (Nat.le_refl _)
      clear hb6 A5
      go_wp2_with fail
      refine (known_any _ (HG.out.keep A6.out.below hpos)).mono ?_
      rintro e w7 ⟨rfl, hb7⟩
      have A7 : Hid (Asked c w w7 b t 10) := A6.out.keep hb7 (Nat.le_refl _)
      clear hb7 A6
      go_wp2
      go_ret
      exact ⟨rfl, A7.out.below⟩
    · obtain ⟨m, rfl⟩ : ∃ m, len = m + 1 := ⟨len - 1, by omega⟩
      obtain ⟨b', off, t', rfl, hcl, hsz⟩ := HS.out.2 m (by omega)
      have hlb := lt_of_cell? hcl
      have HCL : Hid (w.cell? ⟨b', off + m, none⟩ = some (.string t')) := hcl
      clear hcl
      go_enter Tryd.func4, Tryd.ntmps4
      go_wp2_with fail
      refine (chain_err c _ (m + 1) cap _ HG.out hc HS.out).mono ?_
      rintro e w1 ⟨b, t, rfl, hb1, hch1, hcm1, hla⟩
      rw [show min (m + 1) 10 = m + 1 by omega] at hch1 hla
      have A1 : Hid (Asked c w w1 b t (m + 1)) := ⟨hb1, hch1, hcm1⟩
      have ht : cutB t' 20 = t := by
        rcases hla with ⟨h, _⟩ | ⟨b3, off3, t3, _, h, h3, h4⟩
        · simp at h
        · cases h
          rw [show m + 1 - 1 = m by omega, HCL.out] at h3
          cases h3
          exact h4.symm
      have HT : Hid (cutB t' 20 = t) := ht
      have hcl1 : w1.cell? ⟨b', off + m, none⟩ = some (.string t') := by rw [hb1.cell (p := ⟨b', off + m, none⟩) hlb]; exact HCL.out
      clear hb1 hch1 hcm1 hla ht
      go_wp2_with fail
      refine (Cut_any _ _ _ (by decide)).mono ?_
      rintro e w1 ⟨rfl, rfl⟩
      rw [HT.out]
      have HN : Hid (((w1.alloc (Obj.cells #[Value.pointer none] 36)).alloc (Obj.cells #[Value.int IntKind.i64 0] 22)).heap.size = w1.heap.size + 2) := by show _ = _; simp
      have HA : Hid (Below w1.heap.size w1 ((w1.alloc (Obj.cells #[Value.pointer none] 36)).alloc (Obj.cells #[Value.int IntKind.i64 0] 22))) := ((Below.refl _ _).alloc (Nat.le_refl _) _).alloc (by simp) _
      have HGA : Hid (Laid ((w1.alloc (Obj.cells #[Value.pointer none] 36)).alloc (Obj.cells #[Value.int IntKind.i64 0] 22))) := (HG.out.keep A1.out.below hpos).keep HA.out (Nat.lt_of_lt_of_le hpos A1.out.below.size)
      go_wp2_with fail
      refine (As_fault ⟨b, 0, none⟩ ⟨w1.heap.size, 0, none⟩ (.pointer none) _ HGA.out (by simp) (by simp)).mono ?_
      rintro e w2 ⟨rfl, hw2⟩
      have P2 := asW_put ((w1.alloc (Obj.cells #[Value.pointer none] 36)).alloc (Obj.cells #[Value.int IntKind.i64 0] 22)) 38 36 ⟨w1.heap.size, 0, none⟩ (.pointer (some ⟨b, 0, none⟩)) (.pointer none) (by simp) (by simp)
      rw [← hw2] at P2
      clear hw2
      have hB2 : Below w1.heap.size w1 w2 := HA.out.trans (P2.below _ (Nat.le_refl _))
      have hf2 : w2.cell? ⟨w1.heap.size, 0, none⟩ = some (.pointer (some ⟨b, 0, none⟩)) := P2.cell
      have hk2 : w2.cell? ⟨w1.heap.size + 1, 0, none⟩ = some (.int .i64 0) := by rw [P2.other ⟨w1.heap.size + 1, 0, none⟩ (by rw [HN.out]; exact Nat.lt_succ_self _) (by simp)]; simp
      have hz2 : w2.frozen? ⟨w1.heap.size + 1, 0, none⟩ = false := by rw [P2.fother ⟨w1.heap.size + 1, 0, none⟩ (by rw [HN.out]; exact Nat.lt_succ_self _)]; simp
      have hA2 := A1.out.keep hB2 (Nat.le_refl _)
      have hcm2 : w2.cell? ⟨b, 0, none⟩ = some (.string t) := hA2.cmd
      have A2 : Hid (Asked c w w2 b t (m + 1)) := hA2
      have HB2 : Hid (Below w1.heap.size w1 w2) := hB2
      have HK2 : Hid (w2.cell? ⟨w1.heap.size + 1, 0, none⟩ = some (.int .i64 0)) := hk2
      have HZ2 : Hid (w2.frozen? ⟨w1.heap.size + 1, 0, none⟩ = false) := hz2
      clear P2 hB2 hA2 hk2 hz2 HGA HA HN
      go_wp2_with fail
      refine (As_code _ c ((m + 1) + 1) ⟨w1.heap.size + 1, 0, none⟩ (.int .i64 0) _ (HG.out.keep A2.out.below hpos) A2.out.chain HK2.out HZ2.out).mono ?_
      rintro e w3 ⟨rfl, hw3⟩
      have P3 := asW_put w2 41 22 ⟨w1.heap.size + 1, 0, none⟩ (.int .i64 c) (.int .i64 0) HK2.out HZ2.out
      rw [← hw3] at P3
      clear hw3 hcm2 hf2
      have hk3 : w3.cell? ⟨w1.heap.size + 1, 0, none⟩ = some (.int .i64 c) := P3.cell
      have A3 : Hid (Asked c w w3 b t (m + 1)) := A1.out.keep (HB2.out.trans (P3.below _ (Nat.le_succ _))) (Nat.le_refl _)
      clear P3 HK2 HZ2 A2 HB2
      go_wp2_with fail
      refine (Is_code _ c c ((m + 1) + 1) _ A3.out.chain).mono ?_
      rintro e w3 ⟨rfl, rfl⟩
      clear hk3
      go_wp2_with fail
      refine (Code_code _ c ((m + 1) + 1) _ (HG.out.keep A3.out.below hpos) A3.out.chain).mono ?_
      rintro e w4 ⟨rfl, hb4⟩
      have A4 : Hid (Asked c w w4 b t (m + 1)) := A3.out.keep hb4 (Nat.le_refl _)
      clear hb4 A3
      go_wp2_with fail
      refine (Cmd_fault b t _ (HG.out.keep A4.out.below hpos) A4.out.cmd).mono ?_
      rintro e w5 ⟨rfl, hb5⟩
      have A5 : Hid (Asked c w w5 b t (m + 1)) := A4.out.keep hb5 (Nat.le_refl _)
      clear hb5 A4
      go_wp2_with fail
      refine (Depth_chain _ _ ((m + 1) + 1) _ (noFault_code c) (HG.out.keep A5.out.below hpos) (by omega) A5.out.chain).mono ?_
      rintro e w6 ⟨rfl, hb6⟩
      have A6 : Hid (Asked c w w6 b t (m + 1)) := A5.out.keep hb6 (Nat.le_refl _)
      clear hb6 A5
      go_wp2_with fail
      refine (known_any _ (HG.out.keep A6.out.below hpos)).mono ?_
      rintro e w7 ⟨rfl, hb7⟩
      have A7 : Hid (Asked c w w7 b t (m + 1)) := A6.out.keep hb7 (Nat.le_refl _)
      clear hb7 A6
      go_wp2
      go_ret
      exact ⟨rfl, A7.out.below⟩
end Go.Proofs.YtnbiejedmakaaaaDoor
