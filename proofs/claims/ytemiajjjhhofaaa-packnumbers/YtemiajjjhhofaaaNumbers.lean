/-
  The law PackNumbers.
-/
import Derived.Test.YtemiajjjhhofaaaDo
import Derived.Test.YtemiajjjhhofaaaRoom
namespace Go.Proofs.Ytemiajjjhhofaaa
open Go.RowKit Go.PlainAid

/-- A text of n bytes 0. -/
def zs (n : Nat) : ByteArray := bs (List.replicate n 0)
theorem zs_size (n : Nat) : (zs n).size = n := by
  rw [← len_lst, zs, lst_bs, List.length_replicate]
theorem enc_zs : (enc (lst (zs 4096))).length = 4101 := by
  have hl : (lst (zs 4096)).length = 4096 := by rw [len_lst, zs_size]
  have hp : parseL (lst (zs 4096)) = none := by
    cases h : parseL (lst (zs 4096)) with
    | none => rfl
    | some n =>
      obtain ⟨h1, h2, h3⟩ := parseL_some h
      have := fmtL_len h2 h3
      rw [← h1] at this
      omega
  have hb : (body (lst (zs 4096))).length = 4099 := by
    rw [body_long hp (by omega), List.length_cons, List.length_cons, List.length_cons]; omega
  unfold enc
  rw [List.length_append, back_len, hb]; rfl
theorem pack_rep (k : Nat) : (pack (List.replicate k (zs 4096))).length = k * 4101 := by
  induction k with
  | zero => rfl
  | succ k ih => rw [List.replicate_succ, pack, List.length_append, ih, enc_zs]; omega
theorem few_zs : few [zs 4096] 6 5000 = [zs 4096] := by
  show [cutB (zs 4096) 5000] = _
  rw [cutB, zs_size, if_neg (by omega)]
theorem ins_rep (k j : Nat) (h : j ≤ k) : (List.replicate k (zs 4096)).take j ++ ([zs 4096] ++ (List.replicate k (zs 4096)).drop j) = List.replicate (k + 1) (zs 4096) := by
  rw [List.take_replicate, List.drop_replicate, Nat.min_eq_left h]
  rw [show [zs 4096] = List.replicate 1 (zs 4096) from rfl, List.replicate_append_replicate, List.replicate_append_replicate]
  congr 1; omega
theorem nxt_zs (i : Nat) (hi : i < 17) : nxt (List.replicate (min i 15) (zs 4096)) 1 ((i / 2 : Nat) : Int) 0 [zs 4096] = List.replicate (min (i + 1) 15) (zs 4096) := by
  unfold nxt
  rw [if_pos rfl, few_zs]
  unfold insN
  rw [List.length_replicate, if_pos (by omega), if_pos (by simp [zs_size]), pack_rep, pack, pack, List.append_nil, enc_zs, Int.toNat_natCast]
  by_cases h : i < 15
  · rw [if_neg (by omega), Nat.min_eq_left (by omega), ins_rep _ _ (by omega), Nat.min_eq_left (by omega)]
  · rw [if_pos (by omega), Nat.min_eq_right (by omega), Nat.min_eq_right (by omega)]
theorem Own.zeros (w : World) (B n : Nat) (hB : B ≤ w.heap.size) (hm : n ≤ maxLen) : Own (w.alloc (.cells (madeCells #[.int .u8 0] n) 5)) B (some ⟨w.heap.size, 0, none⟩) n n (List.replicate n 0) := by
  have := Own.made w (List.replicate n 0) B n (List.length_replicate ..) hB hm
  rw [show cells (List.replicate n 0) = List.replicate n (.int .u8 0) by rw [cells, List.map_replicate]; rfl, ← made_list] at this
  exact this
theorem good_rep (k : Nat) (h : k ≤ 15) : Good (List.replicate k (zs 4096)) := by
  refine ⟨fun s hs => ?_, by rw [pack_rep]; omega⟩
  rw [List.eq_of_mem_replicate hs, zs_size]; omega

def t12 : ByteArray := ⟨#[49, 50]⟩
def tY : ByteArray := ⟨#[121]⟩
def tX1 : ByteArray := ⟨#[120]⟩

theorem make_4096 (wx : World) : (Instr.makeSlice 30 (.int .i64 4096) (.int .i64 4096)).run Try.prog wx = .ok (.slice (some ⟨wx.heap.size, 0, none⟩) 4096 4096) (wx.alloc (.cells (madeCells #[.int .u8 0] 4096) 5)) :=
  run_make_row' (P := Try.prog) (w := wx) 30 5 (.int .u8 0) 1 Try.underlying30 Try.info5 rfl .i64 .i64 4096 (by omega) (by omega)
theorem make_4097 (wx : World) : (Instr.makeSlice 30 (.int .i64 4097) (.int .i64 4097)).run Try.prog wx = .ok (.slice (some ⟨wx.heap.size, 0, none⟩) 4097 4097) (wx.alloc (.cells (madeCells #[.int .u8 0] 4097) 5)) :=
  run_make_row' (P := Try.prog) (w := wx) 30 5 (.int .u8 0) 1 Try.underlying30 Try.info5 rfl .i64 .i64 4097 (by omega) (by omega)
theorem make_65537 (wx : World) : (Instr.makeSlice 30 (.int .i64 65537) (.int .i64 65537)).run Try.prog wx = .ok (.slice (some ⟨wx.heap.size, 0, none⟩) 65537 65537) (wx.alloc (.cells (madeCells #[.int .u8 0] 65537) 5)) :=
  run_make_row' (P := Try.prog) (w := wx) 30 5 (.int .u8 0) 1 Try.underlying30 Try.info5 rfl .i64 .i64 65537 (by omega) (by omega)

set_option maxRecDepth 100000 in
set_option maxHeartbeats 8000000 in
theorem numbers_any (w : World) : Calls Try.prog 3 #[] w fun e w' => e = .returned (.bool true) ∧ Below w.heap.size w w' := by
  go_enter Try.func3, Try.ntmps3
  go_wp2_with fail
  refine (New_any _).mono ?_
  rintro e w1 ⟨hb, p, ap, np, cp, rfl, hP⟩
  have HB1 : Hid (Below w.heap.size w w1) := hb
  have HG : Hid (Good []) := ⟨fun s hs => absurd hs (by simp), by simp [pack]⟩
  have HA : Hid (Below w1.heap.size w1 (w1.alloc (.cells #[] 9))) := alloc_below w1 _
  have HO1 : Hid (OwnS (w1.alloc (.cells #[] 9)) w.heap.size (some ⟨w1.heap.size, 0, none⟩) 0 0 []) := OwnS.made w1 [] w.heap.size 0 rfl hb.size (by decide) _ rfl
  have HP2 : Hid (Pk (w1.alloc (.cells #[] 9)) w.heap.size p ap np cp []) := hP.keep HA.out
  have HB2 := step_below HB1 HA.out
  clear hb hP
  go_wp2
  go_loopg [2, 3, 4] 30 (fun g lv ov iv wr => ∃ (i : Nat) (la : Option Addr) (ln lc : Nat) (l : List ByteArray) (a' : Option Addr) (n' c' : Nat), i + g = 30 ∧ lv = .slice la ln lc ∧ ov = .bool true ∧ iv = .int .i64 i ∧ Hid (Good l) ∧ Hid (OwnS wr w.heap.size la ln lc l) ∧ Hid (Pk wr w.heap.size p a' n' c' l) ∧ Hid (Below w.heap.size w wr))
  case atStart => exact ⟨0, _, _, _, [], ap, np, cp, by omega, rfl, rfl, rfl, HG, HO1, HP2, HB2⟩
  case round =>
    obtain ⟨i, la, ln, lc, l, a', n', c', hi, rfl, rfl, rfl, HG, HO, HP, HB⟩ := hrel
    by_cases h30 : (i : Int) < 30
    · obtain ⟨M, hM⟩ : ∃ M : Int, (i : Int) * 7 % 4 = M := ⟨_, rfl⟩
      have hMb : 0 ≤ M ∧ M ≤ 3 := by omega
      obtain ⟨P7, hP7⟩ : ∃ P7 : Int, (i : Int) % 7 = P7 := ⟨_, rfl⟩
      have hPb : 0 ≤ P7 ∧ P7 ≤ 6 := by omega
      obtain ⟨q, hq⟩ : ∃ q : Nat, i % 4 = q := ⟨_, rfl⟩
      have hqi : (i : Int) % 4 = q := by omega
      have hqb : q ≤ 3 := by omega
      have hA := alloc_below wr (.cells #[.string ⟨#[97]⟩, .string ⟨#[49, 50]⟩, .string ⟨#[98]⟩] 9)
      have hOx := OwnS.made wr [tA, t12, tB] wr.heap.size 3 rfl (Nat.le_refl _) (by decide) #[.string ⟨#[97]⟩, .string ⟨#[49, 50]⟩, .string ⟨#[98]⟩] rfl
      obtain ⟨ax, cx, sx, hRx⟩ := hOx.rl.slice_h q hqb
      have HBa := step_below HB hA
      have HD := do_any w.heap.size p a' n' c' l la ln lc (1 + M) (P7 - 3) q ax q cx ([tA, t12, tB].take q) _ (HP.out.keep hA) HG.out (HO.out.keep hA) hRx.rd (by omega) (by omega)
      have HGn : Hid (Good (nxt l (1 + M) (P7 - 3) q ([tA, t12, tB].take q))) := good_nxt HG.out _ _ _ _
      generalize nxt l (1 + M) (P7 - 3) q ([tA, t12, tB].take q) = l2 at HD HGn
      clear hOx hRx hA hq
      go_wp2_with fail
      refine HD.mono ?_
      rintro e w2 ⟨hb, a2, n2, c2, la2, ln2, lc2, rfl, hP2, hO2⟩
      have HB2 : Hid (Below w.heap.size w w2) := HBa.out.trans hb
      have HP2 : Hid (Pk w2 w.heap.size p a2 n2 c2 l2) := hP2
      have HO2 : Hid (OwnS w2 w.heap.size la2 ln2 lc2 l2) := hO2
      have HTe := tells_any w.heap.size p a2 n2 c2 _ la2 ln2 lc2 w2 hP2 HGn.out.1 (by have := hP2.own.len; have := HGn.out.2; omega) hO2.rd
      clear hb hP2 hO2 HD
      go_wp2_with fail
      refine HTe.mono ?_
      rintro e w3 ⟨hb, rfl⟩
      have HB3 := step_below HB2 hb
      have HP3 : Hid (Pk w3 w.heap.size p a2 n2 c2 l2) := HP2.out.keep hb
      have HO3 : Hid (OwnS w3 w.heap.size la2 ln2 lc2 l2) := HO2.out.keep hb
      clear hb HTe
      go_wp2
      go_roundg (gk - 1)
      case measure => omega
      case rel => exact ⟨i + 1, la2, ln2, lc2, _, a2, n2, c2, by omega, rfl, rfl, by go_num, HGn, HO3, HP3, HB3⟩
    · obtain ⟨wa, hwa⟩ : ∃ wa, wa = wr := ⟨_, rfl⟩
      subst hwa
      obtain ⟨ga, hga⟩ : ∃ ga, ga = gk := ⟨_, rfl⟩
      subst hga
      clear HP HO HG HA HO1 HP2 HB2 HB1
      have hmk := make_4096 wa
      have HZ : Hid (Own (wa.alloc (.cells (madeCells #[.int .u8 0] 4096) 5)) w.heap.size (some ⟨wa.heap.size, 0, none⟩) 4096 4096 (List.replicate 4096 0)) := Own.zeros wa w.heap.size 4096 HB.out.size (by decide)
      have HB4 := step_below HB (alloc_below wa (.cells (madeCells #[.int .u8 0] 4096) 5))
      obtain ⟨w4, hw4⟩ : ∃ w4, wa.alloc (.cells (madeCells #[.int .u8 0] 4096) 5) = w4 := ⟨_, rfl⟩
      rw [hw4] at HZ HB4 hmk
      obtain ⟨G, hG⟩ : ∃ G, wa.heap.size = G := ⟨_, rfl⟩
      rw [hG] at HZ
      go_wp2_with fail
      refine (New_any _).mono ?_
      rintro e w5 ⟨hb, q, aq, nq, cq, rfl, hP⟩
      have HB5 : Hid (Below w4.heap.size w4 w5) := hb
      have HA5 : Hid (Below w5.heap.size w5 (w5.alloc (.cells #[] 9))) := alloc_below w5 _
      have HO5 : Hid (OwnS (w5.alloc (.cells #[] 9)) w4.heap.size (some ⟨w5.heap.size, 0, none⟩) 0 0 (List.replicate (min 0 15) (zs 4096))) := OwnS.made w5 [] w4.heap.size 0 rfl HB5.out.size (by decide) _ rfl
      have HP5 : Hid (Pk (w5.alloc (.cells #[] 9)) w4.heap.size q aq nq cq (List.replicate (min 0 15) (zs 4096))) := hP.keep HA5.out
      have HB6 := step_below HB5 HA5.out
      clear hb hP
      go_wp2
      go_loopg [7, 3, 8] 17 (fun g lv ov iv wr => ∃ (i : Nat) (la : Option Addr) (ln lc : Nat) (a' : Option Addr) (n' c' : Nat), i + g = 17 ∧ lv = .slice la ln lc ∧ ov = .bool true ∧ iv = .int .i64 i ∧ Hid (OwnS wr w4.heap.size la ln lc (List.replicate (min i 15) (zs 4096))) ∧ Hid (Pk wr w4.heap.size q a' n' c' (List.replicate (min i 15) (zs 4096))) ∧ Hid (Below w4.heap.size w4 wr))
      case atStart => exact ⟨0, _, _, _, aq, nq, cq, by omega, rfl, rfl, rfl, HO5, HP5, HB6⟩
      case round =>
        obtain ⟨j, la2, ln2, lc2, a2, n2, c2, hj, rfl, rfl, rfl, HO, HP, HBr⟩ := hrel
        have HR : Hid (Rd wr (some ⟨G, 0, none⟩) 4096 4096 (List.replicate 4096 0)) := HZ.out.rd.keep HBr.out
        have hT2 : (convert 30 9 (.slice (some ⟨G, 0, none⟩) 4096 4096)).run Try.prog wr = .ok (.string (zs 4096)) wr := HR.out.text
        obtain ⟨Z, hZ⟩ : ∃ Z, zs 4096 = Z := ⟨_, rfl⟩
        rw [hZ] at hT2
        have HZe : Hid (zs 4096 = Z) := hZ
        by_cases h17 : (j : Int) < 17
        · have hA := alloc_below wr (.cells #[.string Z] 9)
          obtain ⟨h2, hh2⟩ : ∃ h2 : Nat, j / 2 = h2 := ⟨_, rfl⟩
          have hj2 : (j : Int) / 2 = h2 := by omega
          have HN := nxt_zs j (by omega)
          rw [hh2] at HN
          have HD := do_any w4.heap.size q a2 n2 c2 _ la2 ln2 lc2 1 h2 0 (some ⟨wr.heap.size, 0, none⟩) 1 1 [zs 4096] _ (HP.out.keep hA) (good_rep _ (by omega)) (HO.out.keep hA) (RdS.made wr [zs 4096] 1 rfl (by decide) #[.string Z] (by rw [← hZ]; rfl)) (by omega) (by omega)
          rw [HN] at HD
          have HBa : Hid (Below w4.heap.size w4 (wr.alloc (.cells #[.string Z] 9))) := step_below HBr hA
          clear hA hZ HN hh2
          go_wp2_with fail
          refine HD.mono ?_
          rintro e w7 ⟨hb, a7, n7, c7, la7, ln7, lc7, rfl, hP7, hO7⟩
          have HB7 : Hid (Below w4.heap.size w4 w7) := HBa.out.trans hb
          have HP7 : Hid (Pk w7 w4.heap.size q a7 n7 c7 (List.replicate (min (j + 1) 15) (zs 4096))) := hP7
          have HO7 : Hid (OwnS w7 w4.heap.size la7 ln7 lc7 (List.replicate (min (j + 1) 15) (zs 4096))) := hO7
          clear hb hP7 hO7 HD
          go_wp2
          go_roundg (gk - 1)
          case measure => omega
          case rel => exact ⟨j + 1, la7, ln7, lc7, a7, n7, c7, by omega, rfl, rfl, by go_num, HO7, HP7, HB7⟩
        · have hj17 : j = 17 := by omega
          subst hj17
          obtain ⟨m, hm⟩ : ∃ m, List.replicate (min 17 15) (zs 4096) = m := ⟨_, rfl⟩
          have HGm : Hid (Good m) := by rw [← hm]; exact good_rep 15 (by omega)
          have HLm : Hid (m.length = 15) := by show _ = _; rw [← hm, List.length_replicate]; rfl
          have HPm : Hid ((pack m).length = 61515) := by show _ = _; rw [← hm, pack_rep]; rfl
          have HTm : Hid (off m 1 = 4101 ∧ off m 0 = 0) := by
            refine ⟨?_, rfl⟩
            rw [← hm, off, List.take_replicate, pack_rep]; rfl
          rw [hm] at HO HP
          have hln : ln2 = 15 := by have := HO.out.len; have := HLm.out; omega
          subst hln
          have hn2 : n2 = 61515 := by have := HP.out.own.len; have := HPm.out; omega
          have HZs : Hid (Z.size = 4096) := by show _ = _; rw [← hZ]; exact zs_size 4096
          have HEz : Hid ((enc (lst Z)).length = 4101) := by show _ = _; rw [← hZ]; exact enc_zs
          -- one text is set
          have hlx : (pack (m.set 0 tX1)).length ≤ 57450 := by
            have h1 := len_set m 0 tX1 (by have := HLm.out; omega)
            have h2 := HTm.out
            have h3 := (enc_len (lst tX1)).2
            have h4 : (lst tX1).length = 1 := rfl
            have := HPm.out
            rw [h2.1, h2.2] at h1
            omega
          have HSe := Set_ok w4.heap.size q a2 n2 c2 m 0 0 tX1 wr HP.out HGm.out.1 (by omega) (by omega) (by rw [HLm.out]; rfl) (by decide) (by omega)
          have HF1 : Hid (Fit (m.set 0 tX1)) := fit_set HGm.out.1 (by decide)
          have HL1 : Hid ((m.set 0 tX1).length = 15) := by show _ = _; rw [List.length_set]; exact HLm.out
          have HP1 : Hid ((pack (m.set 0 tX1)).length ≤ 57450) := hlx
          obtain ⟨m1, hm1⟩ : ∃ m1, m.set 0 tX1 = m1 := ⟨_, rfl⟩
          rw [hm1] at HSe HF1 HL1 HP1
          clear hm hm1 hlx hZ hj
          go_wp2_with fail
          refine HSe.mono ?_
          rintro e w8 ⟨rfl, hM, a8, n8, c8, hP8, -⟩
          have HB8 : Hid (Below w4.heap.size w4 w8) := HBr.out.trans (hM.below HP.out)
          have HP8 : Hid (Pk w8 w4.heap.size q a8 n8 c8 m1) := hP8
          have hn8 : n8 ≤ 57450 := by have := hP8.own.len; have := HP1.out; omega
          have hT8 : (convert 30 9 (.slice (some ⟨G, 0, none⟩) 4096 4096)).run Try.prog w8 = .ok (.string Z) w8 := by
            have := (HZ.out.rd.keep HB8.out).text
            rw [show bs (List.replicate 4096 0) = Z from HZe.out] at this
            exact this
          -- two are put ahead
          have hA8 := alloc_below w8 (.cells #[.string ⟨#[121]⟩, .string Z] 9)
          have hPa := HP8.out.keep hA8
          have HFt : Fit [tY, Z] := by
            intro s hs
            rcases List.mem_cons.1 hs with rfl | hs
            · decide
            · rw [List.mem_singleton.1 hs]; have := HZs.out; omega
          have HPt : (pack [tY, Z]).length ≤ 4120 := by
            have h3 := (enc_len (lst tY)).2
            have h4 : (lst tY).length = 1 := rfl
            have := HEz.out
            rw [pack, pack, pack, List.append_nil, List.length_append]
            omega
          have HIn := Insert_ok w4.heap.size q a8 n8 c8 m1 0 (some ⟨w8.heap.size, 0, none⟩) 2 2 [tY, Z] _ hPa HF1.out (by omega) (Nat.zero_le _) (RdS.made w8 [tY, Z] 2 rfl (by decide) #[.string ⟨#[121]⟩, .string Z] rfl) HFt (by omega) (by omega)
          rw [List.take_zero, List.nil_append, List.drop_zero] at HIn
          have HF2 : Hid (Fit ([tY, Z] ++ m1)) := by
            intro s hs
            rcases List.mem_append.1 hs with h | h
            · exact HFt s h
            · exact HF1.out s h
          have HP2 : Hid ((pack ([tY, Z] ++ m1)).length ≤ 65536) := by have := HP1.out; show _ ≤ _; rw [pack_append, List.length_append]; omega
          have HL2 : Hid (([tY, Z] ++ m1).length = 17) := by show _ = _; rw [List.length_append, HL1.out]; rfl
          have HPa : Hid (Pk (w8.alloc (.cells #[.string ⟨#[121]⟩, .string Z] 9)) w4.heap.size q a8 n8 c8 m1) := hPa
          have HBa : Hid (Below w4.heap.size w4 (w8.alloc (.cells #[.string ⟨#[121]⟩, .string Z] 9))) := step_below HB8 hA8
          obtain ⟨m2, hm2⟩ : ∃ m2, [tY, Z] ++ m1 = m2 := ⟨_, rfl⟩
          rw [hm2] at HIn HF2 HP2 HL2
          clear hM hP8 HSe hA8 hPa hm2 HFt HPt
          go_wp2_with fail
          refine HIn.mono ?_
          rintro e w9 ⟨rfl, hM, a9, n9, c9, hP9, -⟩
          have HB9 : Hid (Below w4.heap.size w4 w9) := HBa.out.trans (hM.below HPa.out)
          have HP9 : Hid (Pk w9 w4.heap.size q a9 n9 c9 m2) := hP9
          have hn9 : n9 ≤ 65536 := by have := HP9.out.own.len; have := HP2.out; omega
          clear hM hP9 HIn
          -- one that is too long is put ahead
          obtain ⟨Y, hY⟩ : ∃ Y, zs 4097 = Y := ⟨_, rfl⟩
          have HYs : Hid (Y.size = 4097) := by show _ = _; rw [← hY]; exact zs_size 4097
          have HYe : Hid (zs 4097 = Y) := hY
          have hmk2 := make_4097 w9
          have hA10 := alloc_below w9 (.cells (madeCells #[.int .u8 0] 4097) 5)
          have hR10 := (Own.zeros w9 w9.heap.size 4097 (Nat.le_refl _) (by decide)).rd.text
          rw [show bs (List.replicate 4097 0) = Y from HYe.out] at hR10
          obtain ⟨w10, hw10⟩ : ∃ w10, w9.alloc (.cells (madeCells #[.int .u8 0] 4097) 5) = w10 := ⟨_, rfl⟩
          rw [hw10] at hA10 hR10 hmk2
          obtain ⟨G9, hG9⟩ : ∃ G9, w9.heap.size = G9 := ⟨_, rfl⟩
          rw [hG9] at hR10 hmk2
          have HB10 := step_below HB9 hA10
          have HP10 : Hid (Pk w10 w4.heap.size q a9 n9 c9 m2) := HP9.out.keep hA10
          have hA11 := alloc_below w10 (.cells #[.string Y] 9)
          have HIl := Insert_long w4.heap.size q a9 n9 c9 m2 0 (some ⟨w10.heap.size, 0, none⟩) 1 1 [Y] _ (HP10.out.keep hA11) (Nat.zero_le _) (RdS.made w10 [Y] 1 rfl (by decide) #[.string Y] rfl) (fun h => by have := h Y (by simp); have := HYs.out; omega) (fun s hs => by rw [List.mem_singleton.1 hs]; have := HYs.out; omega) (by omega)
          have HB11 : Hid (Below w4.heap.size w4 (w10.alloc (.cells #[.string Y] 9))) := step_below HB10 hA11
          have HP11 : Hid (Pk (w10.alloc (.cells #[.string Y] 9)) w4.heap.size q a9 n9 c9 m2) := HP10.out.keep hA11
          clear hA10 hA11 hY hG9
          go_wp2_with fail
          refine HIl.mono ?_
          rintro e w12 ⟨hb, rfl⟩
          have HB12 := step_below HB11 hb
          have HP12 : Hid (Pk w12 w4.heap.size q a9 n9 c9 m2) := HP11.out.keep hb
          clear hb HIl
          -- one that is too long is set
          have hmk3 := make_4097 w12
          have hA13 := alloc_below w12 (.cells (madeCells #[.int .u8 0] 4097) 5)
          have hR13 := (Own.zeros w12 w12.heap.size 4097 (Nat.le_refl _) (by decide)).rd.text
          rw [show bs (List.replicate 4097 0) = Y from HYe.out] at hR13
          obtain ⟨w13, hw13⟩ : ∃ w13, w12.alloc (.cells (madeCells #[.int .u8 0] 4097) 5) = w13 := ⟨_, rfl⟩
          rw [hw13] at hA13 hR13 hmk3
          have HB13 := step_below HB12 hA13
          have HSl := Set_long w4.heap.size q a9 n9 c9 m2 0 0 Y w13 (HP12.out.keep hA13) (by omega) (by rw [HL2.out]; rfl) (by have := HYs.out; omega) (by have := HYs.out; omega)
          clear hA13
          go_wp2_with fail
          refine HSl.mono ?_
          rintro e w14 ⟨hb, rfl⟩
          have HB14 := step_below HB13 hb
          clear hb HSl
          -- too many bytes, and none
          have hmk4 := make_65537 w14
          have hA15 := alloc_below w14 (.cells (madeCells #[.int .u8 0] 65537) 5)
          obtain ⟨w15, hw15⟩ : ∃ w15, w14.alloc (.cells (madeCells #[.int .u8 0] 65537) 5) = w15 := ⟨_, rfl⟩
          rw [hw15] at hA15 hmk4
          have HB15 := step_below HB14 hA15
          clear hA15
          go_wp2_with fail
          refine (From_full _ 65537 65537 w15 (by omega) (by decide)).mono ?_
          rintro e w15 ⟨rfl, rfl⟩
          have HFn := From_any none 0 0 [] w15 (Rd.nil w15) (by omega) true rfl
          go_wp2_with fail
          refine HFn.mono ?_
          rintro e w16 ⟨hb, he, -⟩
          obtain ⟨pn, an, nn, cn, l9, rfl, hs9, hPn⟩ := he (by trivial)
          have hl9 : [] = l9 := Option.some.inj hs9
          subst hl9
          have HB16 := step_below HB15 hb
          have HTe := tells_any w15.heap.size pn an nn cn [] none 0 0 w16 hPn (fun s hs => absurd hs (by simp)) (by have : ([] : List UInt8).length = nn := hPn.own.len; simp at this; omega) ⟨rfl, Nat.zero_le _, fun i hi => absurd hi (Nat.not_lt_zero _)⟩
          clear hb he hPn HFn
          go_wp2_with fail
          refine HTe.mono ?_
          rintro e w17 ⟨hb, rfl⟩
          have HB17 := step_below HB16 hb
          clear hb HTe
          go_wp2_with fail
          refine (known_any _).mono ?_
          rintro e w18 ⟨hb, rfl⟩
          have HB18 := step_below HB17 hb
          clear hb
          go_wp2
          go_ret
          exact ⟨rfl, HB4.out.trans (HB18.out.mono HB4.out.size)⟩
end Go.Proofs.Ytemiajjjhhofaaa
