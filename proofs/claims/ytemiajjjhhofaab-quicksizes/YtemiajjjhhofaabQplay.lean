/-
  The law QuickPlays.
-/
import Derived.Test.YtemiajjjhhofaabQdo2
import Derived.Test.YtemiajjjhhofaabRdQ
namespace Go.Proofs.Ytemiajjjhhofaab
open Go.RowKit Go.PlainAid

/-- A call in memory. -/
theorem Bx.of {w : World} {X : Nat} {kind A B : Int} {S P : ByteArray} {xa : Option Addr} {xn xc : Nat} {af : Bool} (h : w.heap[X]? = some (.cells (askC kind A B S P xa xn xc af) 37 (0, 0))) : Bx w [] X kind A B S P xa xn xc af := ⟨h, by simp⟩
theorem row_none {w : World} {B l most : Nat} {ts : List ByteArray} {F : List Nat} (hQ : QL w B l most ts F) : Row (w.alloc (.cells #[] 9)) F (some ⟨w.heap.size, 0, none⟩) 0 0 [] :=
  ((OwnS.made w [] w.heap.size 0 rfl (Nat.le_refl _) (by decide) _ rfl).row0 (Nat.le_refl _) (fun k hk => (hQ.blocks k hk).2) none).1

set_option maxRecDepth 100000 in
set_option maxHeartbeats 1000000 in
theorem playsQ_any (most : Int) (a : Option Addr) (n c : Nat) (w : World) (hR : RdQ w a n) :
    Calls Try.prog 5 #[.int .i64 most, .slice a n c] w fun e w' => e = .returned (.bool true) ∧ Below w.heap.size w w' := by
  have HR : Hid (RdQ w a n) := hR
  have hnm : n ≤ 9223372036854775807 := hR.max
  have HWi := fun w => Within_any most (-1) 40 w (by decide) (by decide) (by decide)
  clear hR
  go_enter Try.func5, Try.ntmps5
  go_wp2_with fail
  refine (HWi w).mono ?_
  rintro e w ⟨rfl, z, hz1, hz2, rfl⟩
  obtain ⟨mo, hmo⟩ : ∃ mo : Nat, max z 1 = mo := ⟨(max z 1).toNat, by omega⟩
  have HN := QNew z w mo hmo (by omega)
  have HMx : Hid (max (1 : Int) z = (mo : Int)) := by show _ = _; omega
  clear HWi hmo
  go_wp2_with fail
  refine HN.mono ?_
  rintro e w1 ⟨hb, q, F, rfl, hQ⟩
  have HB1 : Hid (Below w.heap.size w w1) := hb
  have hnn := notnil w1 q
  have HA : Hid (Below w1.heap.size w1 (w1.alloc (.cells #[] 9))) := alloc_below w1 _
  have HQ1 : Hid (QL (w1.alloc (.cells #[] 9)) w.heap.size q mo [] F) := hQ.keep HA.out
  have HR1 : Hid (Row (w1.alloc (.cells #[] 9)) F (some ⟨w1.heap.size, 0, none⟩) 0 0 []) := row_none hQ
  have HB2 := step_below HB1 HA.out
  clear hb hQ HN
  go_wp2
  go_loopg [7, 8, 9] 50 (fun g mv ov iv wr => ∃ (i : Nat) (a' : Option Addr) (n' c' : Nat) (ts : List ByteArray), i + g = 50 ∧ i ≤ n ∧ mv = .slice a' n' c' ∧ ov = .bool true ∧ iv = .int .i64 i ∧ Hid (ts.length ≤ 6 * i) ∧ Hid (∃ F, QL wr w.heap.size q mo ts F ∧ Row wr F a' n' c' ts) ∧ Hid (Below w.heap.size w wr))
  case atStart => exact ⟨0, _, _, _, [], by omega, by omega, rfl, rfl, rfl, Nat.le_refl _, ⟨F, HQ1.out, HR1.out⟩, HB2⟩
  case round =>
    obtain ⟨i, a', n', c', ts, hi, hin, rfl, rfl, rfl, HTl, HQR, HB⟩ := hrel
    by_cases h1 : (i : Int) < n
    · by_cases h2 : (i : Int) < 50
      · obtain ⟨b, off, ha, kind, A, B, S, P, xa, xn, xc, af, xl, hc0, hc1, hc2, hc3, hc4, hc5, hc6, hI, hJ, hX⟩ := HR.out.elem i (by omega)
        subst ha
        have k0 : wr.cell? ⟨b, off + i * 7, none⟩ = some (.int .i64 kind) := by rw [HB.out.cell (p := ⟨b, off + i * 7, none⟩) (World.block_lt_of_cell? _ _ hc0)]; exact hc0
        have k1 : wr.cell? ⟨b, off + i * 7 + 1, none⟩ = some (.int .i64 A) := by rw [HB.out.cell (p := ⟨b, off + i * 7 + 1, none⟩) (World.block_lt_of_cell? _ _ hc1)]; exact hc1
        have k2 : wr.cell? ⟨b, off + i * 7 + 2, none⟩ = some (.int .i64 B) := by rw [HB.out.cell (p := ⟨b, off + i * 7 + 2, none⟩) (World.block_lt_of_cell? _ _ hc2)]; exact hc2
        have k3 : wr.cell? ⟨b, off + i * 7 + 3, none⟩ = some (.string S) := by rw [HB.out.cell (p := ⟨b, off + i * 7 + 3, none⟩) (World.block_lt_of_cell? _ _ hc3)]; exact hc3
        have k4 : wr.cell? ⟨b, off + i * 7 + 4, none⟩ = some (.string P) := by rw [HB.out.cell (p := ⟨b, off + i * 7 + 4, none⟩) (World.block_lt_of_cell? _ _ hc4)]; exact hc4
        have k5 : wr.cell? ⟨b, off + i * 7 + 5, none⟩ = some (.slice xa xn xc) := by rw [HB.out.cell (p := ⟨b, off + i * 7 + 5, none⟩) (World.block_lt_of_cell? _ _ hc5)]; exact hc5
        have k6 : wr.cell? ⟨b, off + i * 7 + 6, none⟩ = some (.bool af) := by rw [HB.out.cell (p := ⟨b, off + i * 7 + 6, none⟩) (World.block_lt_of_cell? _ _ hc6)]; exact hc6
        have HX : Hid (RdS w xa xn xl) := hX
        have HI : Hid (I64 A) := hI
        have HJ : Hid (I64 B) := hJ
        clear hc0 hc1 hc2 hc3 hc4 hc5 hc6 hX hI hJ
        by_cases h3 : 0 < (i : Int) % 4
        · go_upto_region 12 with fail
          go_cut [10] from 35 to 42 (fun v wx => v = ptr wr.heap.size ∧ ∃ z1 z2, Hid (I64 z1) ∧ Hid (I64 z2) ∧ Hid (wx.heap[wr.heap.size]? = some (.cells (askC kind z1 z2 S P xa xn xc af) 37 (0, 0))) ∧ Hid (Below wr.heap.size wr wx))
          case first =>
            go_region_with (go_at_call 13; refine (Within_any _ (-9) 9 _ (by decide) (by decide) (by decide)).mono ?_; rintro e wq ⟨rfl, zz, hz3, hz4, rfl⟩)
            all_goals (go_wp2; go_meet; exact ⟨rfl, _, _, (⟨by omega, by omega⟩ : I64 _), (⟨by omega, by omega⟩ : I64 _), heap_alloc_new wr _, by first | exact alloc_below wr _ | exact (alloc_below wr _).drew⟩)
          case rest =>
          obtain ⟨rfl, z1, z2, HI1, HJ1, HBox, HBx⟩ := hcut
          have x0 := (Bx.of HBox.out).cell 0 _ rfl
          have x1 := (Bx.of HBox.out).cell 1 _ rfl
          have x2 := (Bx.of HBox.out).cell 2 _ rfl
          have x3 := (Bx.of HBox.out).cell 3 _ rfl
          have x4 := (Bx.of HBox.out).cell 4 _ rfl
          have x5 := (Bx.of HBox.out).cell 5 _ rfl
          have x6 := (Bx.of HBox.out).cell 6 _ rfl
          obtain ⟨Fr, hQr, hRr⟩ := HQR.out
          have HBw := step_below HB HBx.out
          have HD := do_any _ w.heap.size q mo ts Fr (hQr.keep HBx.out) a' n' c' (hRr.keep HBx.out) z1 z2 S P xa xn xc af kind xl (HX.out.keep HBw.out) HI1.out HJ1.out (by have := HTl.out; omega)
          have HDl : Hid ((doN ts kind z1 z2 S P af xl).length ≤ 6 * (i + 1)) := by have h4 := doN_len ts z1 z2 S P af kind xl; have h5 := HTl.out; show _ ≤ _; omega
          generalize doN ts kind z1 z2 S P af xl = ts2 at HD HDl
          have HBl : Hid (∀ w2, ∀ F2, Left _ w2 Fr F2 → Below w.heap.size w w2) := fun w2 F2 h => HBw.out.trans (QDoes.below (hQr.keep HBx.out) h)
          clear hQr hRr
          go_wp2_with fail
          refine HD.mono ?_
          rintro e w2 ⟨F2, a2, n2, c2, rfl, hQ2, hL2, hR2, -⟩
          have HB2 : Hid (Below w.heap.size w w2) := HBl.out w2 F2 hL2
          have HQR2 : Hid (QL w2 w.heap.size q mo ts2 F2 ∧ Row w2 F2 a2 n2 c2 ts2) := ⟨hQ2, hR2⟩
          have HTe := tellsQ_any w2 w.heap.size q mo ts2 F2 hQ2 a2 n2 c2 hR2.rl.rd (by have := HDl.out; omega)
          clear hQ2 hL2 hR2 HD HBl
          by_cases hzc : (1 : Int) < z
          · have hze : (mo : Int) = z := by have := HMx.out; omega
            rw [hze] at HTe
            clear hze
            go_wp2_with fail
            refine HTe.mono ?_
            rintro e w3 ⟨hb, rfl⟩
            have HB3 := step_below HB2 hb
            have HQR3 : Hid (∃ F, QL w3 w.heap.size q mo ts2 F ∧ Row w3 F a2 n2 c2 ts2) := ⟨F2, HQR2.out.1.keep hb, HQR2.out.2.keep hb⟩
            clear hb HTe
            go_wp2
            go_roundg (gk - 1)
            case measure => omega
            case rel => exact ⟨i + 1, a2, n2, c2, ts2, by omega, by omega, rfl, rfl, by go_num, HDl, HQR3, HB3⟩
          · have hze : (mo : Int) = 1 := by have := HMx.out; omega
            rw [hze] at HTe
            clear hze
            go_wp2_with fail
            refine HTe.mono ?_
            rintro e w3 ⟨hb, rfl⟩
            have HB3 := step_below HB2 hb
            have HQR3 : Hid (∃ F, QL w3 w.heap.size q mo ts2 F ∧ Row w3 F a2 n2 c2 ts2) := ⟨F2, HQR2.out.1.keep hb, HQR2.out.2.keep hb⟩
            clear hb HTe
            go_wp2
            go_roundg (gk - 1)
            case measure => omega
            case rel => exact ⟨i + 1, a2, n2, c2, ts2, by omega, by omega, rfl, rfl, by go_num, HDl, HQR3, HB3⟩
        · have HBox : Hid ((wr.alloc (.cells (askC kind A B S P xa xn xc af) 37)).heap[wr.heap.size]? = some (.cells (askC kind A B S P xa xn xc af) 37 (0, 0))) := heap_alloc_new wr _
          have HBx : Hid (Below wr.heap.size wr (wr.alloc (.cells (askC kind A B S P xa xn xc af) 37))) := alloc_below wr _
          have x0 := (Bx.of HBox.out).cell 0 _ rfl
          have x1 := (Bx.of HBox.out).cell 1 _ rfl
          have x2 := (Bx.of HBox.out).cell 2 _ rfl
          have x3 := (Bx.of HBox.out).cell 3 _ rfl
          have x4 := (Bx.of HBox.out).cell 4 _ rfl
          have x5 := (Bx.of HBox.out).cell 5 _ rfl
          have x6 := (Bx.of HBox.out).cell 6 _ rfl
          obtain ⟨Fr, hQr, hRr⟩ := HQR.out
          have HBw := step_below HB HBx.out
          have HD := do_any _ w.heap.size q mo ts Fr (hQr.keep HBx.out) a' n' c' (hRr.keep HBx.out) A B S P xa xn xc af kind xl (HX.out.keep HBw.out) HI.out HJ.out (by have := HTl.out; omega)
          have HDl : Hid ((doN ts kind A B S P af xl).length ≤ 6 * (i + 1)) := by have h4 := doN_len ts A B S P af kind xl; have h5 := HTl.out; show _ ≤ _; omega
          generalize doN ts kind A B S P af xl = ts2 at HD HDl
          have HBl : Hid (∀ w2, ∀ F2, Left _ w2 Fr F2 → Below w.heap.size w w2) := fun w2 F2 h => HBw.out.trans (QDoes.below (hQr.keep HBx.out) h)
          clear hQr hRr
          go_wp2_with fail
          refine HD.mono ?_
          rintro e w2 ⟨F2, a2, n2, c2, rfl, hQ2, hL2, hR2, -⟩
          have HB2 : Hid (Below w.heap.size w w2) := HBl.out w2 F2 hL2
          have HQR2 : Hid (QL w2 w.heap.size q mo ts2 F2 ∧ Row w2 F2 a2 n2 c2 ts2) := ⟨hQ2, hR2⟩
          have HTe := tellsQ_any w2 w.heap.size q mo ts2 F2 hQ2 a2 n2 c2 hR2.rl.rd (by have := HDl.out; omega)
          clear hQ2 hL2 hR2 HD HBl
          by_cases hzc : (1 : Int) < z
          · have hze : (mo : Int) = z := by have := HMx.out; omega
            rw [hze] at HTe
            clear hze
            go_wp2_with fail
            refine HTe.mono ?_
            rintro e w3 ⟨hb, rfl⟩
            have HB3 := step_below HB2 hb
            have HQR3 : Hid (∃ F, QL w3 w.heap.size q mo ts2 F ∧ Row w3 F a2 n2 c2 ts2) := ⟨F2, HQR2.out.1.keep hb, HQR2.out.2.keep hb⟩
            clear hb HTe
            go_wp2
            go_roundg (gk - 1)
            case measure => omega
            case rel => exact ⟨i + 1, a2, n2, c2, ts2, by omega, by omega, rfl, rfl, by go_num, HDl, HQR3, HB3⟩
          · have hze : (mo : Int) = 1 := by have := HMx.out; omega
            rw [hze] at HTe
            clear hze
            go_wp2_with fail
            refine HTe.mono ?_
            rintro e w3 ⟨hb, rfl⟩
            have HB3 := step_below HB2 hb
            have HQR3 : Hid (∃ F, QL w3 w.heap.size q mo ts2 F ∧ Row w3 F a2 n2 c2 ts2) := ⟨F2, HQR2.out.1.keep hb, HQR2.out.2.keep hb⟩
            clear hb HTe
            go_wp2
            go_roundg (gk - 1)
            case measure => omega
            case rel => exact ⟨i + 1, a2, n2, c2, ts2, by omega, by omega, rfl, rfl, by go_num, HDl, HQR3, HB3⟩
      · have hi30 : i = 50 := by omega
        go_wp2_with fail
        refine (knownQ_any _).mono ?_
        rintro e w3 ⟨hb, rfl⟩
        have HB3 := step_below HB hb
        clear hb
        go_wp2
        go_ret
        exact ⟨rfl, HB3.out⟩
    · go_wp2_with fail
      refine (knownQ_any _).mono ?_
      rintro e w3 ⟨hb, rfl⟩
      have HB3 := step_below HB hb
      clear hb
      go_wp2
      go_ret
      exact ⟨rfl, HB3.out⟩
end Go.Proofs.Ytemiajjjhhofaab
