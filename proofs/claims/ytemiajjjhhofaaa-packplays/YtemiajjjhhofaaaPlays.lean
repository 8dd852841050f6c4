/-
  The law PackPlays.
-/
import Derived.Test.YtemiajjjhhofaaaDo
import Derived.Test.YtemiajjjhhofaaaRdA
namespace Go.Proofs.Ytemiajjjhhofaaa
open Go.RowKit Go.PlainAid


set_option maxRecDepth 100000 in
set_option maxHeartbeats 8000000 in
theorem plays_any (a : Option Addr) (n c : Nat) (w : World) (hR : RdA w a n) :
    Calls Try.prog 4 #[.slice a n c] w fun e w' => e = .returned (.bool true) ∧ Below w.heap.size w w' := by
  have HR : Hid (RdA w a n) := hR
  have hnm : n ≤ 9223372036854775807 := hR.max
  clear hR
  go_enter Try.func4, Try.ntmps4
  go_wp2_with fail
  refine (New_any _).mono ?_
  rintro e w1 ⟨hb, p, ap, np, cp, rfl, hP⟩
  have HB1 : Hid (Below w.heap.size w w1) := hb
  have HP1 : Hid (Pk w1 w.heap.size p ap np cp []) := hP
  have HG : Hid (Good []) := ⟨fun s hs => absurd hs (by simp), by simp [pack]⟩
  have HA : Hid (Below w1.heap.size w1 (w1.alloc (.cells #[] 9))) := alloc_below w1 _
  have HO1 : Hid (OwnS (w1.alloc (.cells #[] 9)) w.heap.size (some ⟨w1.heap.size, 0, none⟩) 0 0 []) := OwnS.made w1 [] w.heap.size 0 rfl hb.size (by decide) _ rfl
  have HP2 : Hid (Pk (w1.alloc (.cells #[] 9)) w.heap.size p ap np cp []) := hP.keep HA.out
  have HB2 := step_below HB1 HA.out
  clear hb hP
  go_wp2
  go_loopg [4, 5, 6] 30 (fun g lv ov iv wr => ∃ (i : Nat) (la : Option Addr) (ln lc : Nat) (l : List ByteArray) (a' : Option Addr) (n' c' : Nat), i + g = 30 ∧ i ≤ n ∧ lv = .slice la ln lc ∧ ov = .bool true ∧ iv = .int .i64 i ∧ Hid (Good l) ∧ Hid (OwnS wr w.heap.size la ln lc l) ∧ Hid (Pk wr w.heap.size p a' n' c' l) ∧ Hid (Below w.heap.size w wr))
  case atStart => exact ⟨0, _, _, _, [], ap, np, cp, by omega, by omega, rfl, rfl, rfl, HG, HO1, HP2, HB2⟩
  case round =>
    obtain ⟨i, la, ln, lc, l, a', n', c', hi, hin, rfl, rfl, rfl, HG, HO, HP, HB⟩ := hrel
    by_cases h1 : (i : Int) < n
    · by_cases h2 : (i : Int) < 30
      · obtain ⟨b, off, ha, kind, I, N, xa, xn, xc, xl, hc0, hc1, hc2, hc3, hI1, hI2, hX⟩ := HR.out.elem i (by omega)
        subst ha
        have hk0 : wr.cell? ⟨b, off + i * 4, none⟩ = some (.int .i64 kind) := by rw [HB.out.cell (p := ⟨b, off + i * 4, none⟩) (World.block_lt_of_cell? _ _ hc0)]; exact hc0
        have hk1 : wr.cell? ⟨b, off + i * 4 + 1, none⟩ = some (.int .i64 I) := by rw [HB.out.cell (p := ⟨b, off + i * 4 + 1, none⟩) (World.block_lt_of_cell? _ _ hc1)]; exact hc1
        have hk2 : wr.cell? ⟨b, off + i * 4 + 2, none⟩ = some (.int .i64 N) := by rw [HB.out.cell (p := ⟨b, off + i * 4 + 2, none⟩) (World.block_lt_of_cell? _ _ hc2)]; exact hc2
        have hk3 : wr.cell? ⟨b, off + i * 4 + 3, none⟩ = some (.slice xa xn xc) := by rw [HB.out.cell (p := ⟨b, off + i * 4 + 3, none⟩) (World.block_lt_of_cell? _ _ hc3)]; exact hc3
        have HX : Hid (RdS w xa xn xl) := hX
        clear hc0 hc1 hc2 hc3 hX
        have hln : ln ≤ 65536 := by have h1 := len_pack l; have := HG.out.2; have := HO.out.len; omega
        by_cases h3 : 0 < (i : Int) % 3
        · go_wp2_with fail
          refine (Within_any I (-3) ((ln : Int) + 1) _ (by omega) (by omega) (by omega)).mono ?_
          rintro e wq ⟨rfl, z, hz1, hz2, rfl⟩
          have hA := alloc_below wr (.cells #[.int .i64 kind, .int .i64 z, .int .i64 N, .slice xa xn xc] 28)
          have HBa := step_below HB hA
          have HD := do_any w.heap.size p a' n' c' l la ln lc kind z N xa xn xc xl (wr.alloc (.cells #[.int .i64 kind, .int .i64 z, .int .i64 N, .slice xa xn xc] 28)) (HP.out.keep hA) HG.out (HO.out.keep hA) (HX.out.keep HBa.out) (by omega) (by omega)
          clear hA
          have HGn : Hid (Good (nxt l kind z N xl)) := good_nxt HG.out kind z N xl
          go_wp2_with fail
          refine HD.mono ?_
          rintro e w2 ⟨hb, a2, n2, c2, la2, ln2, lc2, rfl, hP2, hO2⟩
          have HB2 : Hid (Below w.heap.size w w2) := HBa.out.trans hb
          have HP2 : Hid (Pk w2 w.heap.size p a2 n2 c2 (nxt l kind z N xl)) := hP2
          have HO2 : Hid (OwnS w2 w.heap.size la2 ln2 lc2 (nxt l kind z N xl)) := hO2
          have HTe := tells_any w.heap.size p a2 n2 c2 _ la2 ln2 lc2 w2 hP2 HGn.out.1 (by have := hP2.own.len; have := HGn.out.2; omega) hO2.rd
          clear hb hP2 hO2 HD
          go_wp2_with fail
          refine HTe.mono ?_
          rintro e w3 ⟨hb, rfl⟩
          have HB3 := step_below HB2 hb
          have HP3 : Hid (Pk w3 w.heap.size p a2 n2 c2 (nxt l kind z N xl)) := HP2.out.keep hb
          have HO3 : Hid (OwnS w3 w.heap.size la2 ln2 lc2 (nxt l kind z N xl)) := HO2.out.keep hb
          clear hb HTe
          go_wp2
          go_roundg (gk - 1)
          case measure => omega
          case rel => exact ⟨i + 1, la2, ln2, lc2, _, a2, n2, c2, by omega, by omega, rfl, rfl, by go_num, HGn, HO3, HP3, HB3⟩
        · have hA := alloc_below wr (.cells #[.int .i64 kind, .int .i64 I, .int .i64 N, .slice xa xn xc] 28)
          have HBa := step_below HB hA
          have HD := do_any w.heap.size p a' n' c' l la ln lc kind I N xa xn xc xl (wr.alloc (.cells #[.int .i64 kind, .int .i64 I, .int .i64 N, .slice xa xn xc] 28)) (HP.out.keep hA) HG.out (HO.out.keep hA) (HX.out.keep HBa.out) (by omega) (by omega)
          clear hA
          have HGn : Hid (Good (nxt l kind I N xl)) := good_nxt HG.out kind I N xl
          go_wp2_with fail
          refine HD.mono ?_
          rintro e w2 ⟨hb, a2, n2, c2, la2, ln2, lc2, rfl, hP2, hO2⟩
          have HB2 : Hid (Below w.heap.size w w2) := HBa.out.trans hb
          have HP2 : Hid (Pk w2 w.heap.size p a2 n2 c2 (nxt l kind I N xl)) := hP2
          have HO2 : Hid (OwnS w2 w.heap.size la2 ln2 lc2 (nxt l kind I N xl)) := hO2
          have HTe := tells_any w.heap.size p a2 n2 c2 _ la2 ln2 lc2 w2 hP2 HGn.out.1 (by have := hP2.own.len; have := HGn.out.2; omega) hO2.rd
          clear hb hP2 hO2 HD
          go_wp2_with fail
          refine HTe.mono ?_
          rintro e w3 ⟨hb, rfl⟩
          have HB3 := step_below HB2 hb
          have HP3 : Hid (Pk w3 w.heap.size p a2 n2 c2 (nxt l kind I N xl)) := HP2.out.keep hb
          have HO3 : Hid (OwnS w3 w.heap.size la2 ln2 lc2 (nxt l kind I N xl)) := HO2.out.keep hb
          clear hb HTe
          go_wp2
          go_roundg (gk - 1)
          case measure => omega
          case rel => exact ⟨i + 1, la2, ln2, lc2, _, a2, n2, c2, by omega, by omega, rfl, rfl, by go_num, HGn, HO3, HP3, HB3⟩
      · have hi30 : i = 30 := by omega
        go_wp2_with fail
        refine (known_any _).mono ?_
        rintro e w3 ⟨hb, rfl⟩
        have HB3 := step_below HB hb
        clear hb
        go_wp2
        go_ret
        exact ⟨rfl, HB3.out⟩
    · go_wp2_with fail
      refine (known_any _).mono ?_
      rintro e w3 ⟨hb, rfl⟩
      have HB3 := step_below HB hb
      clear hb
      go_wp2
      go_ret
      exact ⟨rfl, HB3.out⟩
end Go.Proofs.Ytemiajjjhhofaaa
