/-
  The law FaultNumbers, walked.
-/
import Derived.Test.YtnbiejedmakaaaaDoorKnown
import Derived.Test.YtnbiejedmakaaaaDoorRefText
namespace Go.Proofs.YtnbiejedmakaaaaDoor
open Go.RowKit Go.Extern.Stop Go.Stop Go.Extern

theorem errNew (s : ByteArray) (w : World) : Calls Tryd.prog 15 #[.string s] w fun e w' => e = .returned (.iface 58 (.pointer (some ⟨w.heap.size, 0, none⟩))) ∧ Below w.heap.size w w' := by
  go_enter Tryd.func15, Tryd.ntmps15
  go_wp2
  go_ret
  exact ⟨rfl, (Below.refl _ _).alloc (Nat.le_refl _) _⟩

def nameAt (j : Nat) : ByteArray := [⟨#[103, 101, 116]⟩, ⟨#[]⟩, ⟨#[105, 116, 39, 115]⟩, ⟨#[255, 0]⟩, ⟨#[97, 32, 98]⟩].getD j ⟨#[]⟩
theorem size_nameAt (j : Nat) (h : j < 5) : (nameAt j).size ≤ 4 := by
  have : ∀ j : Fin 5, (nameAt j.1).size ≤ 4 := by decide
  exact this ⟨j, h⟩

/-- What stands in memory while the law asks of a new error. -/
structure Asked1 (c : Int) (w w1 : World) (b : Nat) : Prop where
  below : Below w.heap.size w w1
  chain : Chain w1 (codeV c) (.iface 36 (.pointer (some ⟨b, 0, none⟩))) 1
  cmd : w1.cell? ⟨b, 0, none⟩ = some (.string ⟨#[120]⟩)

theorem Asked1.keep {c : Int} {w w1 w2 : World} {b : Nat} (h : Asked1 c w w1 b) (hb : Below w1.heap.size w1 w2) : Asked1 c w w2 b where
  below := h.below.trans (hb.mono h.below.size)
  chain := h.chain.keep hb (Nat.le_refl _)
  cmd := by rw [hb.cell (p := ⟨b, 0, none⟩) (lt_of_cell? h.cmd)]; exact h.cmd

set_option maxHeartbeats 1000000 in
theorem numbers_any (w : World) (hg : Laid w) : Calls Tryd.prog 3 #[] w fun e w' => e = .returned (.bool true) ∧ Below w.heap.size w w' := by
  have HG : Hid (Laid w) := hg
  have hpos := lt_of_cell? hg
  clear hg
  go_enter Tryd.func3, Tryd.ntmps3
  go_wp2
  go_loopg [1] 31 (fun g cv wr => ∃ c : Int, c + g = 30 ∧ -1 ≤ c ∧ cv = .int .i64 c ∧ Hid (Below w.heap.size w wr))
  case atStart => exact ⟨-1, by omega, by omega, rfl, Below.refl _ _⟩
  case round =>
    obtain ⟨c, hc, hcl, rfl, HB⟩ := hrel
    obtain ⟨wa, hwa⟩ : ∃ wa, wa = wr := ⟨_, rfl⟩
    subst hwa
    obtain ⟨ga, hga⟩ : ∃ ga, ga = gk := ⟨_, rfl⟩
    subst hga
    by_cases hlt : c < 30
    · go_wp2
      go_loopg [12] 5 (fun g i wr => ∃ k : Nat, k + g = 5 ∧ i = .int .i64 k ∧ Hid (Below wa.heap.size wa wr ∧ wa.heap.size < wr.heap.size ∧ ∀ j, j < 5 → wr.cell? ⟨wa.heap.size, j, none⟩ = some (.string (nameAt j))))
      case atStart =>
        refine ⟨0, rfl, rfl, (Below.refl _ _).alloc (Nat.le_refl _) _, by simp, fun j hj => ?_⟩
        match j, hj with
        | 0, _ => simp; rfl
        | 1, _ => simp; rfl
        | 2, _ => simp; rfl
        | 3, _ => simp; rfl
        | 4, _ => simp; rfl
      case round =>
        obtain ⟨k, hk, rfl, H⟩ := hrel
        by_cases hk5 : k < 5
        · have hcell := H.out.2.2 k hk5
          have hz := size_nameAt k hk5
          generalize nameAt k = t at hcell hz
          obtain ⟨n, hn⟩ : ∃ n, shownB t = n := ⟨_, rfl⟩
          have HN : Hid (shownB t = n) := hn
          clear hn
          go_wp2_with fail
          refine (Text_any c t n _ (by omega) HN.out).mono ?_
          rintro e w1 ⟨rfl, hb1⟩
          have H1 : Hid (Below wa.heap.size wa w1 ∧ wa.heap.size < w1.heap.size ∧ ∀ j, j < 5 → w1.cell? ⟨wa.heap.size, j, none⟩ = some (.string (nameAt j))) := by
            refine ⟨H.out.1.trans (hb1.mono H.out.1.size), Nat.lt_of_lt_of_le H.out.2.1 hb1.size, fun j hj => ?_⟩
            rw [hb1.cell (p := ⟨wa.heap.size, j, none⟩) H.out.2.1]; exact H.out.2.2 j hj
          clear hb1 hcell
          go_wp2_with fail
          refine (ref_any c t n _ (by omega) HN.out).mono ?_
          rintro e w1 ⟨rfl, rfl⟩
          generalize textB c n = x
          go_wp2
          go_roundg (gk - 1)
          case measure => omega
          case rel => exact ⟨k + 1, by omega, by go_num, H1⟩
        · have HBr : Hid (Below w.heap.size w wr) := HB.out.trans (H.out.1.mono HB.out.size)
          clear H
          by_cases h0 : c = 0
          · subst h0
            go_wp2_with (go_at_call 11; refine (New_ok _ _).mono ?_; rintro e w1 ⟨rfl, rfl⟩)
            go_roundg (ga - 1)
            case measure => omega
            case rel => exact ⟨1, by omega, by omega, rfl, HBr⟩
          · have hc0 : (c == 0) = false := by simp [h0]
            have hcc : (c != c) = false := by simp
            go_wp2_with fail
            refine (New_err _ c h0 _).mono ?_
            rintro e w1 ⟨rfl, hw1⟩
            have hb1 : Below wr.heap.size wr w1 := by rw [hw1]; exact newW_below _ _ _
            have hc1 : Chain w1 (codeV c) (.iface 36 (.pointer (some ⟨wr.heap.size, 0, none⟩))) 1 := by rw [hw1]; exact Chain.leaf.new _
            have hm1 : w1.cell? ⟨wr.heap.size, 0, none⟩ = some (.string ⟨#[120]⟩) := by rw [hw1]; simp
            have A1 : Hid (Asked1 c w w1 wr.heap.size) := ⟨HBr.out.trans (hb1.mono HBr.out.size), hc1, hm1⟩
            clear hw1 hb1 hc1 hm1
            dsimp only [newE]
            generalize wr.heap.size = b at A1 ⊢
            go_wp2_with fail
            refine (Code_code _ c 1 _ (HG.out.keep A1.out.below hpos) A1.out.chain).mono ?_
            rintro e w2 ⟨rfl, hb2⟩
            have A2 : Hid (Asked1 c w w2 b) := A1.out.keep hb2
            clear hb2 A1
            go_wp2_with fail
            refine (Cmd_fault b _ _ (HG.out.keep A2.out.below hpos) A2.out.cmd).mono ?_
            rintro e w3 ⟨rfl, hb3⟩
            have A3 : Hid (Asked1 c w w3 b) := A2.out.keep hb3
            clear hb3 A2
            go_wp2_with fail
            refine (Depth_chain _ _ 1 _ (noFault_code c) (HG.out.keep A3.out.below hpos) (by decide) A3.out.chain).mono ?_
            rintro e w4 ⟨rfl, hb4⟩
            have A4 : Hid (Asked1 c w w4 b) := A3.out.keep hb4
            clear hb4 A3
            go_wp2
            go_roundg (ga - 1)
            case measure => omega
            case rel => exact ⟨c + 1, by omega, by omega, rfl, A4.out.below⟩
    · go_wp2_with fail
      refine (errNew _ _).mono ?_
      rintro e w1 ⟨rfl, hb1⟩
      generalize Value.pointer (some ⟨wa.heap.size, 0, none⟩) = x
      have HB1 : Hid (Below w.heap.size w w1) := HB.out.trans (hb1.mono HB.out.size)
      clear hb1
      go_wp2_with fail
      refine (Code_other _ x 0 _ (HG.out.keep HB1.out hpos) .leaf).mono ?_
      rintro e w2 ⟨rfl, hb2⟩
      have HB2 : Hid (Below w.heap.size w w2) := HB1.out.trans (hb2.mono HB1.out.size)
      clear hb2
      go_wp2_with fail
      refine (Cmd_other x _ (HG.out.keep HB2.out hpos)).mono ?_
      rintro e w3 ⟨rfl, hb3⟩
      have HB3 : Hid (Below w.heap.size w w3) := HB2.out.trans (hb3.mono HB2.out.size)
      clear hb3
      go_wp2_with fail
      refine (Depth_chain _ _ 0 _ (noFault_other x) (HG.out.keep HB3.out hpos) (by decide) .leaf).mono ?_
      rintro e w4 ⟨rfl, hb4⟩
      have HB4 : Hid (Below w.heap.size w w4) := HB3.out.trans (hb4.mono HB3.out.size)
      clear hb4
      go_wp2_with fail
      refine (Depth_chain _ _ 0 _ noFault_nil (HG.out.keep HB4.out hpos) (by decide) .leaf).mono ?_
      rintro e w5 ⟨rfl, hb5⟩
      have HB5 : Hid (Below w.heap.size w w5) := HB4.out.trans (hb5.mono HB4.out.size)
      clear hb5
      go_wp2_with fail
      refine (Cmd_nil _).mono ?_
      rintro e w6 ⟨rfl, hb6⟩
      have HB6 : Hid (Below w.heap.size w w6) := HB5.out.trans (hb6.mono HB5.out.size)
      clear hb6
      go_wp2_with fail
      refine (Wrap_ok _ _ (HG.out.keep HB6.out hpos)).mono ?_
      rintro e w7 ⟨rfl, hb7⟩
      have HB7 : Hid (Below w.heap.size w w7) := HB6.out.trans (hb7.mono HB6.out.size)
      clear hb7
      go_wp2_with fail
      refine (Wrap_other _ _ x 0 _ (HG.out.keep HB7.out hpos) .leaf).mono ?_
      rintro e w8 ⟨b8, rfl, hb8, -, -, hc8⟩
      have HB8 : Hid (Below w.heap.size w w8) := HB7.out.trans (hb8.mono HB7.out.size)
      have HC8 : Hid (Chain w8 (.iface 58 x) (.iface 36 (.pointer (some ⟨b8, 0, none⟩))) 1) := hc8
      clear hb8 hc8
      go_wp2_with fail
      refine (Code_other _ x 1 _ (HG.out.keep HB8.out hpos) HC8.out).mono ?_
      rintro e w9 ⟨rfl, hb9⟩
      have HB9 : Hid (Below w.heap.size w w9) := HB8.out.trans (hb9.mono HB8.out.size)
      clear hb9 HC8
      go_wp2_with fail
      refine (Wrap_other _ _ x 0 _ (HG.out.keep HB9.out hpos) .leaf).mono ?_
      rintro e w10 ⟨b10, rfl, hb10, -, -, hc10⟩
      have HB10 : Hid (Below w.heap.size w w10) := HB9.out.trans (hb10.mono HB9.out.size)
      have HC10 : Hid (Chain w10 (.iface 58 x) (.iface 36 (.pointer (some ⟨b10, 0, none⟩))) 1) := hc10
      clear hb10 hc10
      go_wp2_with fail
      refine (Wrap_other _ _ x 1 _ (HG.out.keep HB10.out hpos) HC10.out).mono ?_
      rintro e w11 ⟨b11, rfl, hb11, -, -, hc11⟩
      have HB11 : Hid (Below w.heap.size w w11) := HB10.out.trans (hb11.mono HB10.out.size)
      have HC11 : Hid (Chain w11 (.iface 58 x) (.iface 36 (.pointer (some ⟨b11, 0, none⟩))) 2) := hc11
      clear hb11 hc11 HC10
      go_wp2_with fail
      refine (Depth_chain _ _ 2 _ (noFault_other x) (HG.out.keep HB11.out hpos) (by decide) HC11.out).mono ?_
      rintro e w12 ⟨rfl, hb12⟩
      have HB12 : Hid (Below w.heap.size w w12) := HB11.out.trans (hb12.mono HB11.out.size)
      clear hb12 HC11
      go_wp2_with fail
      refine (known_any _ (HG.out.keep HB12.out hpos)).mono ?_
      rintro e w13 ⟨rfl, hb13⟩
      have HB13 : Hid (Below w.heap.size w w13) := HB12.out.trans (hb13.mono HB12.out.size)
      clear hb13
      go_wp2
      go_ret
      exact ⟨rfl, HB13.out⟩
end Go.Proofs.YtnbiejedmakaaaaDoor
