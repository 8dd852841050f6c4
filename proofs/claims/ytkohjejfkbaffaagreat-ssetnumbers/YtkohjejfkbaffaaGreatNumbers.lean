/-
  SsetNumbers.
-/
import Derived.Test.YtkohjejfkbaffaaGreatG21
import Derived.Test.YtkohjejfkbaffaaGreatG19
namespace Go.Proofs.YtkohjejfkbaffaaGreat
open Go.RowKit Go.PlainAid
open Dk (En Stay hasK putE delE keysOf Dct Dg dtag Turn)

theorem made_list (n : Nat) : madeCells #[.int .u8 0] n = (List.replicate n (Value.int .u8 0)).toArray := by
  apply Array.ext
  · simp [madeCells]
  · intro i h1 h2
    simp [madeCells, Nat.mod_one]
/-- A text of n bytes 0. -/
def zs (n : Nat) : ByteArray := bs (List.replicate n 0)
theorem zs_size (n : Nat) : (zs n).size = n := by
  rw [← len_lst, zs, lst_bs, List.length_replicate]
theorem Own.zeros (w : World) (B n : Nat) (hB : B ≤ w.heap.size) (hm : n ≤ maxLen) : Own (w.alloc (.cells (madeCells #[.int .u8 0] n) 5)) B (some ⟨w.heap.size, 0, none⟩) n n (List.replicate n 0) := by
  have := Own.made w (List.replicate n 0) B n (List.length_replicate ..) hB hm
  rw [show cells (List.replicate n 0) = List.replicate n (.int .u8 0) by rw [cells, List.map_replicate]; rfl, ← made_list] at this
  exact this
theorem make_zs (wx : World) (n : Nat) (hn : n ≤ 5000) : (Instr.makeSlice 23 (.int .i64 n) (.int .i64 n)).run Tryz.prog wx = .ok (.slice (some ⟨wx.heap.size, 0, none⟩) n n) (wx.alloc (.cells (madeCells #[.int .u8 0] n) 5)) ∧ (convert 23 9 (.slice (some ⟨wx.heap.size, 0, none⟩) n n)).run Tryz.prog (wx.alloc (.cells (madeCells #[.int .u8 0] n) 5)) = .ok (.string (zs n)) (wx.alloc (.cells (madeCells #[.int .u8 0] n) 5)) :=
  ⟨by simpa using run_make_row' (P := Tryz.prog) (w := wx) 23 5 (.int .u8 0) 1 Tryz.underlying23 Tryz.info5 rfl .i64 .i64 n (by omega) (by omega), (Own.zeros wx 0 n (Nat.zero_le _) (by unfold maxLen; omega)).rd.text⟩

/-- Cells of n calls. -/
def AskC (cs : List Value) (n : Nat) : Prop := ∀ j, j < n → ∃ (kind N : Int) (F : ByteArray), cs[j * 3]? = some (.int .i64 kind) ∧ cs[j * 3 + 1]? = some (.int .i64 N) ∧ cs[j * 3 + 2]? = some (.string F)
theorem AskC.snoc {cs : List Value} {n : Nat} (h : AskC cs n) (hl : cs.length = n * 3) (kind N : Int) (F : ByteArray) : AskC (cs ++ [.int .i64 kind, .int .i64 N, .string F]) (n + 1) := by
  intro j hj
  rcases Nat.lt_or_ge j n with h1 | h1
  · obtain ⟨k, M, G, h2, h3, h4⟩ := h j h1
    exact ⟨k, M, G, by rw [List.getElem?_append_left (by omega)]; exact h2, by rw [List.getElem?_append_left (by omega)]; exact h3, by rw [List.getElem?_append_left (by omega)]; exact h4⟩
  · have : j = n := by omega
    subst this
    refine ⟨kind, N, F, ?_, ?_, ?_⟩ <;> rw [List.getElem?_append_right (by omega), hl]
    · rw [Nat.sub_self]; rfl
    · rw [show j * 3 + 1 - j * 3 = 1 by omega]; rfl
    · rw [show j * 3 + 2 - j * 3 = 2 by omega]; rfl
abbrev OwnK (w : World) (B : Nat) (a : Option Addr) (n cap : Nat) (cs : List Value) : Prop := Dk.OwnR w B 25 3 a n cap cs
theorem Tryz.infoK : (Tryz.prog.info? 25).map (fun i => (i.zero, i.size, i.bytes)) = some (some (.agg #[.int .i64 0, .int .i64 0, .string ⟨#[]⟩]), 3, 32) := by kernel_rfl
theorem eltK : Dk.Elt 22 25 3 32 := Dk.elt_of Tryz.underlying22 Tryz.infoK rfl (by decide)
theorem OwnK.rk {w : World} {B : Nat} {a : Option Addr} {n cap : Nat} {cs : List Value} (h : OwnK w B a n cap cs) (hc : AskC cs n) : RdK w a n := by
  have hm := Dk.OwnR.cap h
  refine ⟨Nat.le_trans hm.1 hm.2, fun j hj => ?_⟩
  obtain ⟨g, h1, h2⟩ := Dk.OwnR.at h (by omega)
  obtain ⟨kind, N, F, k1, k2, k3⟩ := hc j hj
  refine ⟨g, 0, h1, kind, N, F, ?_, ?_, ?_⟩
  · rw [Nat.zero_add]; exact h2 _ _ k1
  · rw [Nat.zero_add]; exact h2 _ _ k2
  · rw [Nat.zero_add]; exact h2 _ _ k3

theorem RdT.nil (w : World) : RdT w none 0 [] := ⟨rfl, by decide, fun j hj => absurd hj (Nat.not_lt_zero _)⟩
set_option maxRecDepth 100000 in
set_option maxHeartbeats 4000000 in
theorem numbersS_any (w : World) : Calls Tryz.prog 3 #[] w fun e w' => e = .returned (.bool true) ∧ Below w.heap.size w w' := by
  go_enter Tryz.func3, Tryz.ntmps3
  go_wp2
  go_loopg [1, 2] 39 (fun g lv iv wr => ∃ (i : Nat) (a : Option Addr) (n c : Nat) (cs : List Value), i + g = 40 ∧ iv = .int .i64 i ∧ lv = .slice a n c ∧ n + 1 = i ∧ Hid (OwnK wr w.heap.size a n c cs) ∧ Hid (AskC cs n) ∧ Hid (Below w.heap.size w wr))
  case atStart => exact ⟨1, none, 0, 0, [], by omega, rfl, rfl, rfl, Dk.OwnR.nil _ _ _ _, fun j hj => absurd hj (Nat.not_lt_zero _), Below.refl _ _⟩
  case round =>
    obtain ⟨i, a, n, c, cs, hi, rfl, rfl, hn, HO, HA, HB⟩ := hrel
    by_cases h8 : (i : Int) < 40
    · obtain ⟨q, hq⟩ : ∃ q, i * 2 = q := ⟨_, rfl⟩
      have hq2 : (i : Int) * 2 = (q : Int) := by omega
      obtain ⟨k3, hk3⟩ : ∃ k3 : Int, ((i : Int) * 3) % 4 = k3 := ⟨_, rfl⟩
      have hk3t : ((i : Int) * 3).tmod 4 = k3 := by rw [Int.tmod_eq_emod_of_nonneg (by omega)]; exact hk3
      have hk4 : 0 ≤ k3 ∧ k3 < 4 := by omega
      obtain ⟨hmk, htx⟩ := make_zs wr q (by omega)
      have HBz : Hid (Below wr.heap.size wr (wr.alloc (.cells (madeCells #[.int .u8 0] q) 5))) := alloc_below wr _
      obtain ⟨wz, hwz⟩ : ∃ wz, wr.alloc (.cells (madeCells #[.int .u8 0] q) 5) = wz := ⟨_, rfl⟩
      rw [hwz] at hmk htx HBz
      obtain ⟨V, hV⟩ : ∃ V, zs q = V := ⟨_, rfl⟩
      rw [hV] at htx
      have HIN : Hid (n + 1 = i) := hn
      have HIG : Hid (i + gk = 40) := hi
      have hi40 : i < 40 := by omega
      have hgk : 0 < gk := by omega
      have HOz : Hid (OwnK wz w.heap.size a n c cs) := HO.out.keep HBz.out
      have HBw : Hid (Below w.heap.size w wz) := step_below HB HBz.out
      have hn9 : n ≤ 40 := by omega
      clear hwz hV hq hn hi
      have HN1 : Hid (∀ j u, ([.int .i64 (1 + k3), .int .i64 (i : Int), .string V] : List Value)[j]? = some u → (wz.alloc (.cells #[.int .i64 (1 + k3), .int .i64 (i : Int), .string V] 25)).cell? ((⟨wz.heap.size, 0, none⟩ : Addr).add j) = some u) := by
        intro j u hu
        have hb := heap_alloc_new wz (.cells #[.int .i64 (1 + k3), .int .i64 (i : Int), .string V] 25)
        rw [add_flat, Nat.zero_add]
        simp only [World.cell?, hb]
        rw [← hu]
        simp
      have HBe : Hid (Below wz.heap.size wz (wz.alloc (.cells #[.int .i64 (1 + k3), .int .i64 (i : Int), .string V] 25))) := alloc_below wz _
      have HOe : Hid (OwnK (wz.alloc (.cells #[.int .i64 (1 + k3), .int .i64 (i : Int), .string V] 25)) w.heap.size a n c cs) := HOz.out.keep HBe.out
      have HBv : Hid (Below w.heap.size w (wz.alloc (.cells #[.int .i64 (1 + k3), .int .i64 (i : Int), .string V] 25))) := step_below HBw HBe.out
      have HSn : Hid (AskC (cs ++ [.int .i64 (1 + k3), .int .i64 (i : Int), .string V]) (n + 1)) := HA.out.snoc (Dk.OwnR.len HO.out) _ _ _
      have hb1 : (n + 1) * 32 ≤ 140737488355328 := by omega
      have hb2 : n + 1 ≤ maxLen := by unfold maxLen; omega
      go_wp2_with (at_builtin; refine Dk.append_r rfl (.tmp 20) (.tmp 31) rfl eltK w.heap.size rfl HOe.out [.int .i64 (1 + k3), .int .i64 (i : Int), .string V] rfl rfl HN1.out (by simp [Value.oneCell']) (by decide) hb1 hb2 HBv.out.size ?_; intro a2 n2 c2 w2 hn2 HO2 HG2 _)
      have HB2 : Hid (Below w.heap.size w w2) := HBv.out.trans (Dk.OwnR.below HOe.out HG2.out HBv.out.size)
      go_roundg (gk - 1)
      case measure => omega
      case rel => subst hn2; exact ⟨i + 1, _, _, _, _, by have := HIG.out; omega, by go_num, rfl, by have := HIN.out; omega, HO2, HSn, HB2⟩
    · have hn39 : n = 39 := by omega
      have HRk : Hid (RdK wr a n) := OwnK.rk HO.out HA.out
      obtain ⟨w1, hw1⟩ : ∃ w1, w1 = wr := ⟨_, rfl⟩
      subst hw1
      have hba : Below w1.heap.size w1 (w1.alloc (.cells #[.int .i64 0, .int .i64 1, .int .i64 3, .int .i64 60] 3)) := alloc_below w1 _
      have hbl := heap_alloc_new w1 (.cells #[.int .i64 0, .int .i64 1, .int .i64 3, .int .i64 60] 3)
      obtain ⟨w2, hw2⟩ : ∃ w2, w1.alloc (.cells #[.int .i64 0, .int .i64 1, .int .i64 3, .int .i64 60] 3) = w2 := ⟨_, rfl⟩
      have HW2 : Hid (w1.alloc (.cells #[.int .i64 0, .int .i64 1, .int .i64 3, .int .i64 60] 3) = w2) := hw2
      rw [hw2] at hba hbl
      have HB2 := step_below HB hba
      have HR2 : Hid (RdK w2 a n) := HRk.out.keep hba
      have HZ : Hid (∀ wq, Below w2.heap.size w2 wq → ∀ j, j < 4 → ∃ z : Nat, z ≤ 60 ∧ wq.cell? ⟨w1.heap.size, j, none⟩ = some (.int .i64 (z : Nat))) := by
        intro wq hq j hj
        have hlt := (Array.getElem?_eq_some_iff.1 hbl).1
        have hc : wq.cell? ⟨w1.heap.size, j, none⟩ = w2.cell? ⟨w1.heap.size, j, none⟩ := hq.cell (p := ⟨w1.heap.size, j, none⟩) hlt
        rw [hc]
        simp only [World.cell?, hbl]
        match j, hj with
        | 0, _ => exact ⟨0, by omega, rfl⟩
        | 1, _ => exact ⟨1, by omega, rfl⟩
        | 2, _ => exact ⟨3, by omega, rfl⟩
        | 3, _ => exact ⟨60, by omega, rfl⟩
      obtain ⟨g0, hg0⟩ : ∃ g0, w1.heap.size = g0 := ⟨_, rfl⟩
      have HG0 : Hid (w1.heap.size = g0) := hg0
      clear hba hbl hw2 hg0 hn39
      go_wp2
      rw [HW2.out, HG0.out]
      rw [HG0.out] at HZ
      go_loopg [4, 5, 6, 7, 8, 9, 10, 35] 4 (fun g nv v5 v6 v7 v8 v9 v10 jv wr => ∃ j : Nat, j + g = 4 ∧ jv = .int .i64 j ∧ Hid (Below w2.heap.size w2 wr))
      case atStart => exact ⟨0, by omega, rfl, Below.refl _ _⟩
      case round =>
        obtain ⟨j, hj, rfl, HBr⟩ := hrel
        have HBw : Hid (Below w.heap.size w wr) := HB2.out.trans (HBr.out.mono HB2.out.size)
        by_cases h9 : (j : Int) < 4
        · obtain ⟨z, hz2, hc⟩ := HZ.out wr HBr.out j (by omega)
          have HP1 := made_any z z 60 a n c wr (by omega) (by omega) (by decide) (HR2.out.keep HBr.out)
          replace HP1 : Calls Tryz.prog 9 #[.int .u64 (z : Nat), .int .i64 (z : Nat), .int .i64 60, .slice a n c] wr fun e w' => Made wr w' z z 60 e := HP1
          go_wp2_with fail
          refine HP1.mono ?_
          rintro e w3 ⟨hb, m3, q3, l3, F3, M3, rfl, -, -, -⟩
          have HB3 := step_below HBr hb
          have HP2 := made_any 9 30 z a n c w3 (by decide) (by decide) hz2 (HR2.out.keep HB3.out)
          replace HP2 : Calls Tryz.prog 9 #[.int .u64 9, .int .i64 30, .int .i64 (z : Nat), .slice a n c] w3 fun e w' => Made w3 w' 9 30 z e := HP2
          clear hb HP1
          go_wp2_with fail
          refine HP2.mono ?_
          rintro e w4 ⟨hb, m4, q4, l4, F4, M4, rfl, -, -, -⟩
          have HB4 := step_below HB3 hb
          clear hb HP2
          go_wp2
          go_roundg (gk - 1)
          case measure => omega
          case rel => exact ⟨j + 1, by omega, by go_num, HB4⟩
        · have HN := NewS 1 (-5) (-5) wr (by decide)
          rw [show lim (-5) 512 = 0 from rfl, show lim (-5) 60 = 0 from rfl] at HN
          clear HZ HR2
          go_wp2_with fail
          refine HN.mono ?_
          rintro e w3 ⟨hb, m, F, rfl, hH⟩
          have HB3 := step_below HBw hb
          have HP3 := PackedS wr.heap.size m 1 0 0 [] true F w3 hH
          obtain ⟨hmk, htx⟩ := make_zs w3 4097 (by decide)
          have hbz : Below w3.heap.size w3 (w3.alloc (.cells (madeCells #[.int .u8 0] 4097) 5)) := alloc_below w3 _
          obtain ⟨w4, hw4⟩ : ∃ w4, w3.alloc (.cells (madeCells #[.int .u8 0] 4097) 5) = w4 := ⟨_, rfl⟩
          rw [hw4] at hmk htx hbz
          have HB4 := step_below HB3 hbz
          have HH4 : Hid (Ss w4 wr.heap.size m 1 0 0 [] true F) := hH.keep hbz
          obtain ⟨V, hV⟩ : ∃ V, zs 4097 = V := ⟨_, rfl⟩
          rw [hV] at htx
          have HSv : Hid (V.size = 4097) := by show _ = _; rw [← hV, zs_size]
          have HBq : Hid (w.heap.size ≤ wr.heap.size) := HBw.out.size
          replace hmk : (Instr.makeSlice 23 (.int .i64 4097) (.int .i64 4097)).run Tryz.prog w3 = .ok (.slice (some ⟨w3.heap.size, 0, none⟩) 4097 4097) w4 := hmk
          have HS1 := fun w => Add_long m V w (by have := HSv.out; omega)
          have HS2 := AddS wr.heap.size m 1 0 0 [] true F ⟨#[]⟩ w4 HH4.out (by decide) (by decide)
          replace HS2 : Calls Tryz.prog 12 #[ptr m, .string ⟨#[]⟩] w4 fun e w' => e = .returned (.tuple #[.bool true, .int .i64 0]) ∧ STo w4 w' wr.heap.size m 1 0 0 [⟨#[]⟩] false F := HS2
          clear hb hH hw4 hV hbz HN
          go_wp2_with fail
          refine HP3.mono ?_
          rintro e w5 ⟨rfl, rfl⟩
          go_wp2_with fail
          refine (HS1 _).mono ?_
          rintro e w6 ⟨rfl, rfl⟩
          go_wp2_with fail
          refine HS2.mono ?_
          rintro e w7 ⟨rfl, hto⟩
          have HB7 : Hid (Below w.heap.size w w7) := HB4.out.trans ((hto.below HH4.out).mono HBq.out)
          obtain ⟨F', hF', -, -⟩ := hto
          have HP6 := PackedS wr.heap.size m 1 0 0 [⟨#[]⟩] false F' w7 hF'
          have HL6 := LenS wr.heap.size m 1 0 0 [⟨#[]⟩] false F' w7 hF'
          replace HL6 : Calls Tryz.prog 13 #[ptr m] w7 fun e w' => e = .returned (.int .i64 1) ∧ w' = w7 := HL6
          have HIn := Inter_any none 0 0 [] w7 (RdT.nil w7) (by decide)
          clear hF' HS1 HS2 HP3
          go_wp2_with fail
          refine HP6.mono ?_
          rintro e w8 ⟨rfl, rfl⟩
          go_wp2_with fail
          refine HL6.mono ?_
          rintro e w8 ⟨rfl, rfl⟩
          go_wp2_with fail
          refine HIn.mono ?_
          rintro e w9 ⟨hb, ia, ir, ic, ri, rfl, hO, hI⟩
          have HB9 := step_below HB7 hb
          have hi0 : 0 = ir := by have h1 := hO.len; have h2 := hI.2; simp at h2; rw [h2] at h1; exact h1
          subst hi0
          have HUn := Union_any none 0 0 [] w9 (RdT.nil w9) (by decide)
          clear hb hO hI HIn HP6 HL6
          go_wp2_with fail
          refine HUn.mono ?_
          rintro e w10 ⟨hb, ua, ur, uc, ru, rfl, hO, hI⟩
          have HB10 := step_below HB9 hb
          have hi0 : 0 = ur := by have h1 := hO.len; have h2 := hI.2; simp at h2; rw [h2] at h1; exact h1
          subst hi0
          clear hb hO hI HUn
          go_wp2_with fail
          refine (Diff_none none 0 w10).mono ?_
          rintro e w11 ⟨rfl, rfl⟩
          go_wp2_with fail
          refine (known_any _).mono ?_
          rintro e w12 ⟨rfl, hb⟩
          have HB12 := step_below HB10 hb
          clear hb
          go_wp2
          go_ret
          exact ⟨rfl, HB12.out⟩
end Go.Proofs.YtkohjejfkbaffaaGreat
