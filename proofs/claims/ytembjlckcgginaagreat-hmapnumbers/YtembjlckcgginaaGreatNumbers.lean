/-
  HmapNumbers.
-/
import Derived.Test.YtembjlckcgginaaGreatG19
namespace Go.Proofs.YtembjlckcgginaaGreat
open Go.RowKit Go.PlainAid
open Dk (En Stay hasK putE delE getE keysOf Dct Dg dtag ecells Turn)

theorem made_list (n : Nat) : madeCells #[.int .u8 0] n = (List.replicate n (Value.int .u8 0)).toArray := by
  apply Array.ext
  · simp [madeCells]
  · intro i h1 h2
    simp [madeCells, Nat.mod_one]
/-- A text of n bytes 0. -/
def zs (n : Nat) : ByteArray := bs (List.replicate n 0)
theorem zs_size (n : Nat) : (zs n).size = n := by
  rw [← len_lst, zs, lst_bs, List.length_replicate]
theorem Own.zeros (w : World) (B n : Nat) (hB : B ≤ w.heap.size) (hm : n ≤ maxLen) : Own (w.alloc (.cells (madeCells #[.int .u8 0] n) 5)) B (some ⟨w.heap.size, 0, none⟩) n n (List.replicate n 0) := by
  have := Own.made w (List.replicate n 0) B n (List.length_replicate ..) hB hm
  rw [show cells (List.replicate n 0) = List.replicate n (.int .u8 0) by rw [cells, List.map_replicate]; rfl, ← made_list] at this
  exact this
theorem make_zs (wx : World) (n : Nat) (hn : n ≤ 5000) : (Instr.makeSlice 23 (.int .i64 n) (.int .i64 n)).run Tryz.prog wx = .ok (.slice (some ⟨wx.heap.size, 0, none⟩) n n) (wx.alloc (.cells (madeCells #[.int .u8 0] n) 5)) ∧ (convert 23 9 (.slice (some ⟨wx.heap.size, 0, none⟩) n n)).run Tryz.prog (wx.alloc (.cells (madeCells #[.int .u8 0] n) 5)) = .ok (.string (zs n)) (wx.alloc (.cells (madeCells #[.int .u8 0] n) 5)) :=
  ⟨by simpa using run_make_row' (P := Tryz.prog) (w := wx) 23 5 (.int .u8 0) 1 Tryz.underlying23 Tryz.info5 rfl .i64 .i64 n (by omega) (by omega), (Own.zeros wx 0 n (Nat.zero_le _) (by unfold maxLen; omega)).rd.text⟩

/-- Cells of n calls. -/
def AskC (cs : List Value) (n : Nat) : Prop := ∀ j, j < n → ∃ (kind N : Int) (F V : ByteArray), cs[j * 4]? = some (.int .i64 kind) ∧ cs[j * 4 + 1]? = some (.int .i64 N) ∧ cs[j * 4 + 2]? = some (.string F) ∧ cs[j * 4 + 3]? = some (.string V)
theorem AskC.snoc {cs : List Value} {n : Nat} (h : AskC cs n) (hl : cs.length = n * 4) (kind N : Int) (F V : ByteArray) : AskC (cs ++ [.int .i64 kind, .int .i64 N, .string F, .string V]) (n + 1) := by
  intro j hj
  rcases Nat.lt_or_ge j n with h1 | h1
  · obtain ⟨k, M, G, U, h2, h3, h4, h5⟩ := h j h1
    exact ⟨k, M, G, U, by rw [List.getElem?_append_left (by omega)]; exact h2, by rw [List.getElem?_append_left (by omega)]; exact h3, by rw [List.getElem?_append_left (by omega)]; exact h4, by rw [List.getElem?_append_left (by omega)]; exact h5⟩
  · have : j = n := by omega
    subst this
    refine ⟨kind, N, F, V, ?_, ?_, ?_, ?_⟩ <;> rw [List.getElem?_append_right (by omega), hl]
    · rw [Nat.sub_self]; rfl
    · rw [show j * 4 + 1 - j * 4 = 1 by omega]; rfl
    · rw [show j * 4 + 2 - j * 4 = 2 by omega]; rfl
    · rw [show j * 4 + 3 - j * 4 = 3 by omega]; rfl
abbrev OwnK (w : World) (B : Nat) (a : Option Addr) (n cap : Nat) (cs : List Value) : Prop := Dk.OwnR w B 25 4 a n cap cs
theorem Tryz.infoK : (Tryz.prog.info? 25).map (fun i => (i.zero, i.size, i.bytes)) = some (some (.agg #[.int .i64 0, .int .i64 0, .string ⟨#[]⟩, .string ⟨#[]⟩]), 4, 48) := by kernel_rfl
theorem eltK : Dk.Elt 22 25 4 48 := Dk.elt_of Tryz.underlying22 Tryz.infoK rfl (by decide)
theorem OwnK.rk {w : World} {B : Nat} {a : Option Addr} {n cap : Nat} {cs : List Value} (h : OwnK w B a n cap cs) (hc : AskC cs n) : RdK w a n := by
  have hm := Dk.OwnR.cap h
  refine ⟨Nat.le_trans hm.1 hm.2, fun j hj => ?_⟩
  obtain ⟨g, h1, h2⟩ := Dk.OwnR.at h (by omega)
  obtain ⟨kind, N, F, V, k1, k2, k3, k4⟩ := hc j hj
  refine ⟨g, 0, h1, kind, N, F, V, ?_, ?_, ?_, ?_⟩
  · rw [Nat.zero_add]; exact h2 _ _ k1
  · rw [Nat.zero_add]; exact h2 _ _ k2
  · rw [Nat.zero_add]; exact h2 _ _ k3
  · rw [Nat.zero_add]; exact h2 _ _ k4

/-- The first n of many fields, each with itself. -/
def mnk (n : Nat) : List En := (List.range n).map fun j : Nat => (mny j, mny j)
theorem mnk_len (n : Nat) : (mnk n).length = n := by unfold mnk; rw [List.length_map, List.length_range]
theorem mnk_no {n : Nat} (h : n < 676) : mny n ∉ keysOf (mnk n) := by
  intro hm
  unfold mnk keysOf at hm
  rw [List.map_map] at hm
  obtain ⟨j, hj, e⟩ := List.mem_map.1 hm
  rw [List.mem_range] at hj
  have := mny_inj (n := j) (m := n) (by omega) h e
  omega
theorem mnk_put {n : Nat} (h : n < 676) : hasK (mnk n) (mny n) = false ∧ putE (mnk n) (mny n) (mny n) = mnk (n + 1) := by
  refine ⟨Dk.hasK_no (mnk_no h), ?_⟩
  unfold putE
  rw [if_neg (by rw [Dk.hasK_no (mnk_no h)]; decide)]
  unfold mnk
  rw [List.range_succ, List.map_append]
  rfl
theorem mnk_key {n : Nat} {k : ByteArray} (h : k ∈ keysOf (mnk n)) : k.size = 3 := by
  unfold mnk keysOf at h
  rw [List.map_map] at h
  obtain ⟨j, hj, rfl⟩ := List.mem_map.1 h
  exact mny_size _

set_option maxRecDepth 100000 in
set_option maxHeartbeats 4000000 in
theorem numbersH_any (w : World) : Calls Tryz.prog 3 #[] w fun e w' => e = .returned (.bool true) ∧ Below w.heap.size w w' := by
  go_enter Tryz.func3, Tryz.ntmps3
  go_wp2
  go_loopg [1, 2] 39 (fun g lv iv wr => ∃ (i : Nat) (a : Option Addr) (n c : Nat) (cs : List Value), i + g = 40 ∧ iv = .int .i64 i ∧ lv = .slice a n c ∧ n + 1 = i ∧ Hid (OwnK wr w.heap.size a n c cs) ∧ Hid (AskC cs n) ∧ Hid (Below w.heap.size w wr))
  case atStart => exact ⟨1, none, 0, 0, [], by omega, rfl, rfl, rfl, Dk.OwnR.nil _ _ _ _, fun j hj => absurd hj (Nat.not_lt_zero _), Below.refl _ _⟩
  case round =>
    obtain ⟨i, a, n, c, cs, hi, rfl, rfl, hn, HO, HA, HB⟩ := hrel
    by_cases h8 : (i : Int) < 40
    · obtain ⟨q, hq⟩ : ∃ q, i * 2 = q := ⟨_, rfl⟩
      have hq2 : (i : Int) * 2 = (q : Int) := by omega
      obtain ⟨k3, hk3⟩ : ∃ k3 : Int, (i : Int).tmod 3 = k3 := ⟨_, rfl⟩
      have hk4 : 0 ≤ k3 ∧ k3 < 3 := by rw [← hk3]; exact ⟨Int.tmod_nonneg _ (by omega), Int.tmod_lt_of_pos _ (by decide)⟩
      obtain ⟨hmk, htx⟩ := make_zs wr q (by omega)
      have HBz : Hid (Below wr.heap.size wr (wr.alloc (.cells (madeCells #[.int .u8 0] q) 5))) := alloc_below wr _
      obtain ⟨wz, hwz⟩ : ∃ wz, wr.alloc (.cells (madeCells #[.int .u8 0] q) 5) = wz := ⟨_, rfl⟩
      rw [hwz] at hmk htx HBz
      obtain ⟨V, hV⟩ : ∃ V, zs q = V := ⟨_, rfl⟩
      rw [hV] at htx
      have HSv : Hid (V.size ≤ 80) := by show _ ≤ _; rw [← hV, zs_size]; omega
      have HIN : Hid (n + 1 = i) := hn
      have HIG : Hid (i + gk = 40) := hi
      have hi40 : i < 40 := by omega
      have hgk : 0 < gk := by omega
      have HOz : Hid (OwnK wz w.heap.size a n c cs) := HO.out.keep HBz.out
      have HBw : Hid (Below w.heap.size w wz) := step_below HB HBz.out
      have hn9 : n ≤ 40 := by omega
      clear hwz hV hq hn hi
      have HN1 : Hid (∀ j u, ([.int .i64 (1 + k3), .int .i64 (i : Int), .string ⟨#[102, 105, 101, 108, 100]⟩, .string V] : List Value)[j]? = some u → (wz.alloc (.cells #[.int .i64 (1 + k3), .int .i64 (i : Int), .string ⟨#[102, 105, 101, 108, 100]⟩, .string V] 25)).cell? ((⟨wz.heap.size, 0, none⟩ : Addr).add j) = some u) := by
        intro j u hu
        have hb := heap_alloc_new wz (.cells #[.int .i64 (1 + k3), .int .i64 (i : Int), .string ⟨#[102, 105, 101, 108, 100]⟩, .string V] 25)
        rw [add_flat, Nat.zero_add]
        simp only [World.cell?, hb]
        rw [← hu]
        simp
      have HBe : Hid (Below wz.heap.size wz (wz.alloc (.cells #[.int .i64 (1 + k3), .int .i64 (i : Int), .string ⟨#[102, 105, 101, 108, 100]⟩, .string V] 25))) := alloc_below wz _
      have HOe : Hid (OwnK (wz.alloc (.cells #[.int .i64 (1 + k3), .int .i64 (i : Int), .string ⟨#[102, 105, 101, 108, 100]⟩, .string V] 25)) w.heap.size a n c cs) := HOz.out.keep HBe.out
      have HBv : Hid (Below w.heap.size w (wz.alloc (.cells #[.int .i64 (1 + k3), .int .i64 (i : Int), .string ⟨#[102, 105, 101, 108, 100]⟩, .string V] 25))) := step_below HBw HBe.out
      have HSn : Hid (AskC (cs ++ [.int .i64 (1 + k3), .int .i64 (i : Int), .string ⟨#[102, 105, 101, 108, 100]⟩, .string V]) (n + 1)) := HA.out.snoc (Dk.OwnR.len HO.out) _ _ _ _
      have hb1 : (n + 1) * 48 ≤ 140737488355328 := by omega
      have hb2 : n + 1 ≤ maxLen := by unfold maxLen; omega
      go_wp2_with (at_builtin; refine Dk.append_r rfl (.tmp 21) (.tmp 31) rfl eltK w.heap.size rfl HOe.out [.int .i64 (1 + k3), .int .i64 (i : Int), .string ⟨#[102, 105, 101, 108, 100]⟩, .string V] rfl rfl HN1.out (by simp [Value.oneCell']) (by decide) hb1 hb2 HBv.out.size ?_; intro a2 n2 c2 w2 hn2 HO2 HG2 _)
      have HB2 : Hid (Below w.heap.size w w2) := HBv.out.trans (Dk.OwnR.below HOe.out HG2.out HBv.out.size)
      go_roundg (gk - 1)
      case measure => omega
      case rel => subst hn2; exact ⟨i + 1, _, _, _, _, by have := HIG.out; omega, by go_num, rfl, by have := HIN.out; omega, HO2, HSn, HB2⟩
    · have hn39 : n = 39 := by omega
      have HRk : Hid (RdK wr a n) := OwnK.rk HO.out HA.out
      obtain ⟨w1, hw1⟩ : ∃ w1, w1 = wr := ⟨_, rfl⟩
      subst hw1
      have hba : Below w1.heap.size w1 (w1.alloc (.cells #[.int .i64 (-1), .int .i64 0, .int .i64 1, .int .i64 3, .int .i64 60, .int .i64 61, .int .i64 1000] 3)) := alloc_below w1 _
      have hbl := heap_alloc_new w1 (.cells #[.int .i64 (-1), .int .i64 0, .int .i64 1, .int .i64 3, .int .i64 60, .int .i64 61, .int .i64 1000] 3)
      obtain ⟨w2, hw2⟩ : ∃ w2, w1.alloc (.cells #[.int .i64 (-1), .int .i64 0, .int .i64 1, .int .i64 3, .int .i64 60, .int .i64 61, .int .i64 1000] 3) = w2 := ⟨_, rfl⟩
      have HW2 : Hid (w1.alloc (.cells #[.int .i64 (-1), .int .i64 0, .int .i64 1, .int .i64 3, .int .i64 60, .int .i64 61, .int .i64 1000] 3) = w2) := hw2
      rw [hw2] at hba hbl
      have HB2 := step_below HB hba
      have HR2 : Hid (RdK w2 a n) := HRk.out.keep hba
      have HZ : Hid (∀ wq, Below w2.heap.size w2 wq → ∀ j, j < 7 → ∃ z : Int, -1 ≤ z ∧ z ≤ 1000 ∧ wq.cell? ⟨w1.heap.size, j, none⟩ = some (.int .i64 z)) := by
        intro wq hq j hj
        have hlt := (Array.getElem?_eq_some_iff.1 hbl).1
        have hc : wq.cell? ⟨w1.heap.size, j, none⟩ = w2.cell? ⟨w1.heap.size, j, none⟩ := hq.cell (p := ⟨w1.heap.size, j, none⟩) hlt
        rw [hc]
        simp only [World.cell?, hbl]
        match j, hj with
        | 0, _ => exact ⟨-1, by omega, by omega, rfl⟩
        | 1, _ => exact ⟨0, by omega, by omega, rfl⟩
        | 2, _ => exact ⟨1, by omega, by omega, rfl⟩
        | 3, _ => exact ⟨3, by omega, by omega, rfl⟩
        | 4, _ => exact ⟨60, by omega, by omega, rfl⟩
        | 5, _ => exact ⟨61, by omega, by omega, rfl⟩
        | 6, _ => exact ⟨1000, by omega, by omega, rfl⟩
      obtain ⟨g0, hg0⟩ : ∃ g0, w1.heap.size = g0 := ⟨_, rfl⟩
      have HG0 : Hid (w1.heap.size = g0) := hg0
      clear hba hbl hw2 hg0 hn39
      go_wp2
      rw [HW2.out, HG0.out]
      rw [HG0.out] at HZ
      go_loopg [4, 35] 7 (fun g nv jv wr => ∃ j : Nat, j + g = 7 ∧ jv = .int .i64 j ∧ Hid (Below w2.heap.size w2 wr))
      case atStart => exact ⟨0, by omega, rfl, Below.refl _ _⟩
      case round =>
        obtain ⟨j, hj, rfl, HBr⟩ := hrel
        have HBw : Hid (Below w.heap.size w wr) := HB2.out.trans (HBr.out.mono HB2.out.size)
        by_cases h9 : (j : Int) < 7
        · obtain ⟨z, hz1, hz2, hc⟩ := HZ.out wr HBr.out j (by omega)
          obtain ⟨x, hx1, hx2⟩ : ∃ x : Nat, IntKind.u64.wrap z = (x : Int) ∧ x < 18446744073709551616 := ⟨(IntKind.u64.wrap z).toNat, by rw [IntKind.wrap_u64]; omega, by rw [IntKind.wrap_u64]; omega⟩
          have HP1 := play_any x z 60 a n c wr hx2 (HR2.out.keep HBr.out)
          go_wp2_with fail
          refine HP1.mono ?_
          rintro e w3 ⟨rfl, hb⟩
          have HB3 := step_below HBr hb
          have HP2 := play_any 5 30 z a n c w3 (by decide) (HR2.out.keep HB3.out)
          clear hb HP1
          go_wp2_with fail
          refine HP2.mono ?_
          rintro e w4 ⟨rfl, hb⟩
          have HB4 := step_below HB3 hb
          clear hb HP2
          go_wp2
          go_roundg (gk - 1)
          case measure => omega
          case rel => exact ⟨j + 1, by omega, by go_num, HB4⟩
        · have HN := NewH 1 600 60 wr (by decide)
          rw [show lim 600 512 = 512 from rfl, show lim 60 60 = 60 from rfl] at HN
          clear HZ HR2
          go_wp2_with fail
          refine HN.mono ?_
          rintro e w3 ⟨hb, m, F, rfl, hH⟩
          have HB3 := step_below HBw hb
          obtain ⟨hmk, htx⟩ := make_zs w3 4097 (by decide)
          have hbz : Below w3.heap.size w3 (w3.alloc (.cells (madeCells #[.int .u8 0] 4097) 5)) := alloc_below w3 _
          obtain ⟨w4, hw4⟩ : ∃ w4, w3.alloc (.cells (madeCells #[.int .u8 0] 4097) 5) = w4 := ⟨_, rfl⟩
          rw [hw4] at hmk htx hbz
          have HB4 := step_below HB3 hbz
          have HH4 : Hid (∃ F, Hm w4 wr.heap.size m 1 512 60 (mnk 0) true F) := ⟨F, hH.keep hbz⟩
          obtain ⟨V, hV⟩ : ∃ V, zs 4097 = V := ⟨_, rfl⟩
          rw [hV] at htx
          have HSv : Hid (V.size = 4097) := by show _ = _; rw [← hV, zs_size]
          have HBq : Hid (w.heap.size ≤ wr.heap.size) := HBw.out.size
          obtain ⟨B, hB⟩ : ∃ B, wr.heap.size = B := ⟨_, rfl⟩
          rw [hB] at HH4 HBq
          replace hmk : (Instr.makeSlice 23 (.int .i64 4097) (.int .i64 4097)).run Tryz.prog w3 = .ok (.slice (some ⟨w3.heap.size, 0, none⟩) 4097 4097) w4 := hmk
          clear hb hH hw4 hV hbz HN hB
          obtain ⟨wk, hwk⟩ : ∃ wk, wk = wr := ⟨_, rfl⟩
          subst hwk
          go_wp2
          go_loopg [7, 8, 9] 512 (fun g iv nv ev wr => ∃ i : Nat, i + g = 512 ∧ iv = .int .i64 i ∧ Hid (∃ F, Hm wr B m 1 512 60 (mnk i) true F) ∧ Hid (Below w.heap.size w wr))
          case atStart => exact ⟨0, by omega, rfl, HH4, HB4⟩
          case round =>
            obtain ⟨i, hi, rfl, HH, HBs⟩ := hrel
            by_cases h5 : (i : Int) < 512
            · have HMk := fun w => many_any i w (by omega) (by omega)
              have hs3 := mny_size i
              obtain ⟨F, hF⟩ := HH.out
              have HS := SetH B m 1 512 60 (mnk i) true F (mny i) (mny i) wr hF (by omega) (by omega) (by rw [mnk_len]; omega)
              have hmp := mnk_put (n := i) (by omega)
              have hpk : pkE (mnk i) true 512 60 (mny i) (mny i) = true := by
                unfold pkE
                rw [hmp.2, mnk_len, hs3]
                simp
                omega
              rw [hmp.1, hmp.2, hpk] at HS
              have HF : Hid (Hm wr B m 1 512 60 (mnk i) true F) := hF
              generalize mny i = k at HMk HS
              clear hmp hpk hF hs3
              go_wp2_with fail
              refine (HMk _).mono ?_
              rintro e w5 ⟨rfl, rfl⟩
              go_wp2_with fail
              refine (HMk _).mono ?_
              rintro e w5 ⟨rfl, rfl⟩
              go_wp2_with fail
              refine HS.mono ?_
              rintro e w6 ⟨rfl, hto⟩
              have HB6 : Hid (Below w.heap.size w w6) := HBs.out.trans ((hto.below HF.out).mono HBq.out)
              obtain ⟨F', hF', -, -⟩ := hto
              have HF6 : Hid (∃ F, Hm w6 B m 1 512 60 (mnk (i + 1)) true F) := ⟨F', hF'⟩
              clear hF' HMk HS
              go_wp2
              go_roundg (gk - 1)
              case measure => omega
              case rel => exact ⟨i + 1, by omega, by go_num, HF6, HB6⟩
            · obtain rfl : i = 512 := by omega
              obtain ⟨F, hF⟩ := HH.out
              have HP := PackedH B m 1 512 60 (mnk 512) true F wr hF
              have hno : (⟨#[111, 110, 101, 32, 109, 111, 114, 101]⟩ : ByteArray) ∉ keysOf (mnk 512) := fun h => by have := mnk_key h; revert this; decide
              have HS1 := fun w => SetH_long m V ⟨#[97]⟩ w (by have := HSv.out; omega)
              have HS2 := fun w => SetH_long m ⟨#[97]⟩ V w (by have := HSv.out; omega)
              have HS3 := SetH B m 1 512 60 (mnk 512) true F ⟨#[111, 110, 101, 32, 109, 111, 114, 101]⟩ ⟨#[]⟩ wr hF (by decide) (by decide) (by rw [mnk_len]; decide)
              have hpl : (putE (mnk 512) ⟨#[111, 110, 101, 32, 109, 111, 114, 101]⟩ ⟨#[]⟩).length = 513 := by rw [hasK_len, Dk.hasK_no hno, mnk_len]; rfl
              rw [Dk.hasK_no hno, show pkE (mnk 512) true 512 60 ⟨#[111, 110, 101, 32, 109, 111, 114, 101]⟩ ⟨#[]⟩ = false by unfold pkE; rw [hpl]; rfl] at HS3
              have HPl : Hid ((putE (mnk 512) ⟨#[111, 110, 101, 32, 109, 111, 114, 101]⟩ ⟨#[]⟩).length = 513) := hpl
              generalize putE (mnk 512) ⟨#[111, 110, 101, 32, 109, 111, 114, 101]⟩ ⟨#[]⟩ = es' at HS3 HPl
              have HF : Hid (Hm wr B m 1 512 60 (mnk 512) true F) := hF
              clear hno hpl hF
              go_wp2_with fail
              refine HP.mono ?_
              rintro e w5 ⟨rfl, rfl⟩
              go_wp2_with fail
              refine (HS1 _).mono ?_
              rintro e w5 ⟨rfl, rfl⟩
              go_wp2_with fail
              refine (HS2 _).mono ?_
              rintro e w5 ⟨rfl, rfl⟩
              go_wp2_with fail
              refine HS3.mono ?_
              rintro e w6 ⟨rfl, hto⟩
              have HB6 : Hid (Below w.heap.size w w6) := HBs.out.trans ((hto.below HF.out).mono HBq.out)
              obtain ⟨F', hF', -, -⟩ := hto
              have HP6 := PackedH B m 1 512 60 es' false F' w6 hF'
              have HL6 := LenH B m 1 512 60 es' false F' w6 hF'
              rw [HPl.out] at HL6
              clear hF' HS1 HS2 HS3 HP
              go_wp2_with fail
              refine HP6.mono ?_
              rintro e w7 ⟨rfl, rfl⟩
              go_wp2_with fail
              refine HL6.mono ?_
              rintro e w8 ⟨rfl, hb⟩
              have HB8 := step_below HB6 hb
              clear hb
              go_wp2_with fail
              refine (known_any _).mono ?_
              rintro e w9 ⟨rfl, hb⟩
              have HB9 := step_below HB8 hb
              clear hb
              go_wp2
              go_ret
              exact ⟨rfl, HB9.out⟩
end Go.Proofs.YtembjlckcgginaaGreat
