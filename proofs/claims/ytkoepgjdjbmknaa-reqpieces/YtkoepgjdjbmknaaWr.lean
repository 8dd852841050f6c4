/-
  The law's own helper: a row of parts.
-/
import Derived.Test.YtkoepgjdjbmknaaVj
namespace Go.Proofs.Ytkoepgjdjbmknaa
open Go.RowKit Go.PlainAid

/-- A slice that reads n parts. -/
structure RdP (w : World) (a : Option Addr) (n : Nat) : Prop where
  max : n ≤ maxLen
  elem : ∀ j, j < n → ∃ b off, a = some ⟨b, off, none⟩ ∧ ∃ (k : Int) (xa : Option Addr) (xn xc : Nat) (xl : List ByteArray) (s : ByteArray),
    w.cell? ⟨b, off + j * 3, none⟩ = some (.int .i64 k) ∧ w.cell? ⟨b, off + j * 3 + 1, none⟩ = some (.slice xa xn xc) ∧ w.cell? ⟨b, off + j * 3 + 2, none⟩ = some (.string s) ∧ RdS w xa xn xl
theorem RdP.keep {w wn : World} {a : Option Addr} {n : Nat} (h : RdP w a n) (hb : Below w.heap.size w wn) : RdP wn a n :=
  ⟨h.max, fun j hj => by
    obtain ⟨b, off, e, k, xa, xn, xc, xl, s, h1, h2, h3, h4⟩ := h.elem j hj
    exact ⟨b, off, e, k, xa, xn, xc, xl, s, by rw [hb.cell (p := ⟨b, off + j * 3, none⟩) (World.block_lt_of_cell? _ _ h1)]; exact h1, by rw [hb.cell (p := ⟨b, off + j * 3 + 1, none⟩) (World.block_lt_of_cell? _ _ h2)]; exact h2, by rw [hb.cell (p := ⟨b, off + j * 3 + 2, none⟩) (World.block_lt_of_cell? _ _ h3)]; exact h3, h4.keep hb⟩⟩

set_option maxHeartbeats 2000000 in
set_option maxRecDepth 100000 in
theorem refMake_any (a : Option Addr) (n c : Nat) (ls : List ByteArray) (w : World) (hR : RdS w a n ls) (hn : n ≤ 5) (hz : ∀ s ∈ ls, (s.size : Int) ≤ 20) :
    Calls Try.prog 26 #[.slice a n c] w fun e w' => Below w.heap.size w w' ∧ ∃ o : ByteArray, e = .returned (.string o) ∧ o.size ≤ 260 := by
  have HR : Hid (RdS w a n ls) := hR
  have HL : Hid (ls.length = n) := hR.len
  have HZ : Hid (∀ s ∈ ls, (s.size : Int) ≤ 20) := hz
  have HF := fun w => refFormat_any (n : Int) w (by omega) (by omega)
  have hfl := fmtL_len (n := (n : Int)) (by omega) (by omega)
  obtain ⟨F, hF⟩ : ∃ F, bs (fmtL (n : Int)) = F := ⟨_, rfl⟩
  have hFs : F.size ≤ 21 := by rw [← hF, size_bs]; exact hfl
  rw [hF] at HF
  obtain ⟨e1, h1, k1⟩ : ∃ e1, (⟨#[42]⟩ : ByteArray) ++ F = e1 ∧ e1.size ≤ 22 := ⟨_, rfl, by rw [ByteArray.size_append]; have : (⟨#[42]⟩ : ByteArray).size = 1 := rfl; omega⟩
  obtain ⟨e2, h2, k2⟩ : ∃ e2, e1 ++ (⟨#[13, 10]⟩ : ByteArray) = e2 ∧ e2.size ≤ 24 := ⟨_, rfl, by rw [ByteArray.size_append]; have : (⟨#[13, 10]⟩ : ByteArray).size = 2 := rfl; omega⟩
  have HK2 : Hid (e2.size ≤ 24) := k2
  clear hR hz hF hfl
  go_enter Try.func26, Try.ntmps26
  go_wp2_with (go_at_call 35; refine (HF _).mono ?_; rintro e w ⟨rfl, rfl⟩)
  go_loopg [3, 4] n (fun g ov iv wr => ∃ (i : Nat) (o : ByteArray), ov = .string o ∧ iv = .int .i64 i ∧ Hid (i + g = n) ∧ Hid (o.size ≤ 24 + i * 46) ∧ Hid (Below w.heap.size w wr))
  case atStart => exact ⟨0, _, rfl, rfl, by show _ = _; omega, HK2, Below.refl _ _⟩
  case round =>
    obtain ⟨i, o, rfl, rfl, HI, HS, HB⟩ := hrel
    by_cases hi : (i : Int) < n
    · have hin : i < n := by omega
      have HOS : Hid (o.size ≤ 24 + i * 46) := HS
      have hos : o.size ≤ 210 := by have := HS.out; omega
      obtain ⟨b, off, rfl, hc⟩ := HR.out.cell i hin
      obtain ⟨s, hs⟩ : ∃ s, ls.getD i ByteArray.empty = s := ⟨_, rfl⟩
      have hss : s.size ≤ 20 := by
        rw [← hs, List.getD_eq_getElem?_getD, List.getElem?_eq_getElem (by rw [HL.out]; exact hin)]
        have := HZ.out _ (List.getElem_mem (by rw [HL.out]; exact hin))
        simp only [Option.getD_some]
        omega
      rw [hs] at hc
      have hd : ∀ j, (wr.drewN j).cell? ⟨b, off + i, none⟩ = some (.string s) := fun j => by
        rw [(HB.out.trans ((below_drewN wr j).mono HB.out.size)).cell (p := ⟨b, off + i, none⟩) (World.block_lt_of_cell? _ _ hc)]; exact hc
      have HF2 := fun w => refFormat_any (s.size : Int) w (by omega) (by omega)
      have hfl2 := fmtL_len (n := (s.size : Int)) (by omega) (by omega)
      obtain ⟨G, hG⟩ : ∃ F, bs (fmtL (s.size : Int)) = F := ⟨_, rfl⟩
      have hGs : G.size ≤ 21 := by rw [← hG, size_bs]; exact hfl2
      rw [hG] at HF2
      have z1 : (⟨#[36]⟩ : ByteArray).size = 1 := rfl
      have z2 : (⟨#[13, 10]⟩ : ByteArray).size = 2 := rfl
      obtain ⟨d1, g1, t1⟩ : ∃ d1, o ++ (⟨#[36]⟩ : ByteArray) = d1 ∧ d1.size = o.size + 1 := ⟨_, rfl, by rw [ByteArray.size_append, z1]⟩
      obtain ⟨d2, g2, t2⟩ : ∃ d2, d1 ++ G = d2 ∧ d2.size = d1.size + G.size := ⟨_, rfl, by rw [ByteArray.size_append]⟩
      obtain ⟨d3, g3, t3⟩ : ∃ d3, d2 ++ (⟨#[13, 10]⟩ : ByteArray) = d3 ∧ d3.size = d2.size + 2 := ⟨_, rfl, by rw [ByteArray.size_append, z2]⟩
      obtain ⟨d4, g4, t4⟩ : ∃ d4, d3 ++ s = d4 ∧ d4.size = d3.size + s.size := ⟨_, rfl, by rw [ByteArray.size_append]⟩
      obtain ⟨d5, g5, t5⟩ : ∃ d5, d4 ++ (⟨#[13, 10]⟩ : ByteArray) = d5 ∧ d5.size = d4.size + 2 := ⟨_, rfl, by rw [ByteArray.size_append, z2]⟩
      have HS5 : Hid (d5.size ≤ 24 + (i + 1) * 46) := by have := HOS.out; show _ ≤ _; omega
      have m1 : d1.size ≤ 300 := by omega
      have m2 : d2.size ≤ 300 := by omega
      have m3 : d3.size ≤ 300 := by omega
      have m4 : d4.size ≤ 300 := by omega
      clear hc hs hG hfl2 t1 t2 t3 t4 t5 z1 z2
      go_wp2
      go_quiet (first | (go_at_call 35; exact Calls.quiet_of_same (HF2 _)))
      go_wp2
      go_roundg (gk - 1)
      case measure => have := HI.out; omega
      case rel => exact ⟨i + 1, d5, rfl, by go_num, by have := HI.out; show _ = _; omega, HS5, HB.out.trans ((below_drewN _ _).mono HB.out.size)⟩
    · have hos : o.size ≤ 260 := by have h1 := HS.out; have h2 := HI.out; omega
      go_wp2
      go_ret
      exact ⟨HB.out, _, rfl, hos⟩

set_option maxHeartbeats 8000000 in
set_option maxRecDepth 100000 in
theorem row_any (a : Option Addr) (n c : Nat) (w : World) (h : RdP w a n) :
    Calls Try.prog 14 #[.slice a n c] w fun e w' => Below w.heap.size w w' ∧ ∃ o : ByteArray, e = .returned (.string o) ∧ o.size ≤ 2080 := by
  have hn63 : n ≤ 9223372036854775807 := h.max
  have HP : Hid (RdP w a n) := h
  clear h
  go_enter Try.func14, Try.ntmps14
  go_wp2
  go_loopg [3, 4] 8 (fun g sv iv wr => ∃ (i : Nat) (o : ByteArray), sv = .string o ∧ iv = .int .i64 i ∧ Hid (i + g = 8) ∧ Hid (o.size ≤ i * 260) ∧ Hid (Below w.heap.size w wr))
  case atStart => exact ⟨0, ⟨#[]⟩, rfl, rfl, rfl, Nat.zero_le _, Below.refl _ _⟩
  case round =>
    obtain ⟨i, o, rfl, rfl, HI, HS, HB⟩ := hrel
    have hos : o.size ≤ 2080 := by have h1 := HS.out; have h2 := HI.out; omega
    have HOS : Hid (o.size ≤ 2080) := hos
    by_cases hgo : (i : Int) < n ∧ (i : Int) < 8
    · obtain ⟨hi, hi8⟩ := hgo
      have hin : i < n := by omega
      have hos2 : o.size ≤ 1820 := by have h1 := HS.out; omega
      obtain ⟨f, rfl⟩ : ∃ f, gk = f + 1 := ⟨gk - 1, by have := HI.out; omega⟩
      obtain ⟨b, off, rfl, k, xa, xn, xc, xl, s, h1, h2, h3, hX⟩ := (HP.out.keep HB.out).elem i hin
      have HX : Hid (RdS wr xa xn xl) := hX
      clear hX
      by_cases hk1 : k = 1
      · subst hk1
        have HFW := Few_any xa xn xc xl 5 20 wr HX.out (by omega) (by omega)
        go_wp2_with (first
          | (go_at_call 19; refine HFW.mono ?_; rintro e w1 ⟨hB1, a1, n1, c1, rfl, hO1⟩; have HMK := refMake_any a1 n1 c1 _ w1 hO1.rd (by have h1 := hO1.len; have h2 := fewL_len 5 20 xl; omega) (fewL_size 5 20 xl (by omega)); have HB1 : Hid (Below w.heap.size w w1) := HB.out.trans (hB1.mono HB.out.size); clear hB1 hO1)
          | (go_at_call 26; refine HMK.mono ?_; rintro e w2 ⟨hB2, m, rfl, hm⟩; have HB2 : Hid (Below w.heap.size w w2) := HB1.out.trans (hB2.mono HB1.out.size); have HMS : Hid ((o ++ m).size ≤ (i + 1) * 260) := (by rw [ByteArray.size_append]; have := HS.out; show _ ≤ _; omega); clear hB2))
        go_roundg f
        case measure => omega
        case rel => exact ⟨i + 1, _, rfl, by go_num, by have := HI.out; show _ = _; omega, HMS, HB2⟩
      · have hk1f : (k == 1) = false := by simpa using hk1
        by_cases hk2 : k = 2
        · subst hk2
          have HFW := Few_any xa xn xc xl 5 9 wr HX.out (by omega) (by omega)
          go_wp2_with (go_at_call 19; refine HFW.mono ?_; rintro e w1 ⟨hB1, a1, n1, c1, rfl, hO1⟩; have hn1 : n1 ≤ 5 := (by have h1 := hO1.len; have h2 := fewL_len 5 9 xl; omega); have HB1 : Hid (Below w.heap.size w w1) := HB.out.trans (hB1.mono HB.out.size); have HO1 : Hid (OwnS w1 wr.heap.size a1 n1 c1 (fewL 5 9 xl)) := hO1; clear hB1 hO1)
          obtain ⟨L, hL⟩ : ∃ L, fewL 5 9 xl = L := ⟨_, rfl⟩
          have HLS : Hid (∀ s ∈ L, (s.size : Int) ≤ 9) := by rw [← hL]; exact fewL_size 5 9 xl (by omega)
          rw [hL] at HO1
          clear hL h1 h2 h3 HFW
          obtain ⟨wa, rfl⟩ : ∃ wa, wa = wr := ⟨_, rfl⟩
          go_loopg [3, 51] n1 (fun g sv jv wx => w1 = wx ∧ ∃ (j : Nat) (p : ByteArray), sv = .string p ∧ jv = .int .i64 j ∧ Hid (j + g = n1) ∧ Hid (p.size ≤ i * 260 + j * 10))
          case atStart => exact ⟨rfl, 0, o, rfl, rfl, by show _ = _; omega, by have := HS.out; show _ ≤ _; omega⟩
          case round =>
            obtain ⟨rfl, j, p, rfl, rfl, HJ, HPS⟩ := hrel
            have hps : p.size ≤ 2000 := by have h1 := HPS.out; have h2 := HJ.out; omega
            by_cases hj : (j : Int) < n1
            · have hjn : j < n1 := by omega
              obtain ⟨f2, rfl⟩ : ∃ f, gk = f + 1 := ⟨gk - 1, by have := HJ.out; omega⟩
              obtain ⟨b2, off2, rfl, hc⟩ := HO1.out.rd.cell j hjn
              obtain ⟨W, hW⟩ : ∃ W, L.getD j ByteArray.empty = W := ⟨_, rfl⟩
              have hWs : W.size ≤ 9 := by
                rw [← hW, List.getD_eq_getElem?_getD, List.getElem?_eq_getElem (by rw [HO1.out.len]; exact hjn)]
                have := HLS.out _ (List.getElem_mem (by rw [HO1.out.len]; exact hjn))
                simp only [Option.getD_some]
                omega
              rw [hW] at hc
              clear hW
              obtain ⟨wb, rfl⟩ : ∃ wb, wb = w1 := ⟨_, rfl⟩
              go_wp2
              go_loopg [3, 7] W.size (fun g sv mv wx => wb = wx ∧ ∃ (m : Nat) (q : ByteArray), sv = .string q ∧ mv = .int .i64 m ∧ Hid (m + g = W.size) ∧ Hid (q.size ≤ i * 260 + j * 10 + m))
              case atStart => exact ⟨rfl, 0, p, rfl, rfl, by show _ = _; omega, by have := HPS.out; show _ ≤ _; omega⟩
              case round =>
                obtain ⟨rfl, m, q, rfl, rfl, HM, HQS⟩ := hrel
                have hqs : q.size ≤ 2000 := by have h1 := HQS.out; have h2 := HM.out; omega
                by_cases hm : (m : Int) < W.size
                · have hmn : m < W.size := by omega
                  obtain ⟨x, hx⟩ : ∃ c : Int, ((W[m]'hmn).toNat : Int) = c := ⟨_, rfl⟩
                  have hxb := byte_in _ hx
                  have HQ2 : Hid (q.size ≤ i * 260 + j * 10 + (m + 1)) := by have := HQS.out; show _ ≤ _; omega
                  by_cases hap : (32 : Int) < x ∧ ¬ x = 34 ∧ ¬ x = 39 ∧ ¬ x = 42
                  · obtain ⟨g1, g2, g3, g4⟩ := hap
                    have e2 : (x != 34) = true := by simpa using g2
                    have e3 : (x != 39) = true := by simpa using g3
                    have e4 : (x != 42) = true := by simpa using g4
                    obtain ⟨C, hC, hCs⟩ : ∃ C, W.extract m (m + 1) = C ∧ C.size = 1 := ⟨_, rfl, by simp; omega⟩
                    have HQ3 : Hid ((q ++ C).size ≤ i * 260 + j * 10 + (m + 1)) := by have := HQS.out; show _ ≤ _; rw [ByteArray.size_append, hCs]; omega
                    clear g2 g3 g4
                    go_wp2
                    go_roundg (gk - 1)
                    case measure => have := HM.out; omega
                    case rel => exact ⟨rfl, m + 1, _, rfl, by go_num, by have := HM.out; show _ = _; omega, HQ3⟩
                  · have hno : (¬ (32 : Int) < x) ∨ ((32 : Int) < x ∧ x = 34) ∨ ((32 : Int) < x ∧ (x != 34) = true ∧ x = 39) ∨ ((32 : Int) < x ∧ (x != 34) = true ∧ (x != 39) = true ∧ x = 42) := by
                      simp only [bne_iff_ne, ne_eq]
                      omega
                    clear hap
                    rcases hno with g1 | ⟨g1, rfl⟩ | ⟨g1, g2, rfl⟩ | ⟨g1, g2, g3, rfl⟩
                    all_goals
                      go_wp2
                      go_roundg (gk - 1)
                      case measure => have := HM.out; omega
                      case rel => exact ⟨rfl, m + 1, q, rfl, by go_num, by have := HM.out; show _ = _; omega, HQ2⟩
                · have HQ3 : Hid ((q ++ (⟨#[32]⟩ : ByteArray)).size ≤ i * 260 + (j + 1) * 10) := by
                    have h1 := HQS.out
                    have h2 := HM.out
                    have z1 : (⟨#[32]⟩ : ByteArray).size = 1 := rfl
                    show _ ≤ _
                    rw [ByteArray.size_append, z1]; omega
                  go_wp2
                  go_roundg f2
                  case measure => omega
                  case rel => exact ⟨rfl, j + 1, _, rfl, by go_num, by have := HJ.out; show _ = _; omega, HQ3⟩
            · have HQ3 : Hid ((p ++ (⟨#[13, 10]⟩ : ByteArray)).size ≤ (i + 1) * 260) := by
                have h1 := HPS.out
                have h2 := HJ.out
                have z1 : (⟨#[13, 10]⟩ : ByteArray).size = 2 := rfl
                show _ ≤ _
                rw [ByteArray.size_append, z1]; omega
              go_wp2
              go_roundg f
              case measure => omega
              case rel => exact ⟨i + 1, _, rfl, by go_num, by have := HI.out; show _ = _; omega, HQ3, HB1⟩
        · have hk2f : (k == 2) = false := by simpa using hk2
          have HCU := fun w => Cut_any s 30 w (by omega)
          have hcs := size_cutB s 30 (by omega)
          obtain ⟨m, hm⟩ : ∃ m, cutB s 30 = m := ⟨_, rfl⟩
          rw [hm] at HCU hcs
          have HMS : Hid ((o ++ m).size ≤ (i + 1) * 260) := by rw [ByteArray.size_append]; have := HS.out; show _ ≤ _; omega
          have hms : m.size ≤ 30 := by omega
          clear hk1 hk2 hcs hm
          go_wp2_with (go_at_call 16; refine (HCU _).mono ?_; rintro e wr ⟨rfl, rfl⟩)
          go_roundg f
          case measure => omega
          case rel => exact ⟨i + 1, _, rfl, by go_num, by have := HI.out; show _ = _; omega, HMS, HB⟩
    · by_cases hi : (i : Int) < n
      · have hi8 : ¬ (i : Int) < 8 := fun h => hgo ⟨hi, h⟩
        clear hgo
        go_wp2
        go_ret
        exact ⟨HB.out, _, rfl, HOS.out⟩
      · clear hgo
        go_wp2
        go_ret
        exact ⟨HB.out, _, rfl, HOS.out⟩
end Go.Proofs.Ytkoepgjdjbmknaa
