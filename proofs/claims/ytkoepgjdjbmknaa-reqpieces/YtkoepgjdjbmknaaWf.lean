/-
  The law: cut into pieces, a row of bytes tells the same requests.
-/
import Derived.Test.YtkoepgjdjbmknaaWp
import Derived.Test.YtkoepgjdjbmknaaOpC
namespace Go.Proofs.Ytkoepgjdjbmknaa
open Go.RowKit Go.PlainAid

theorem lst_ext (s : ByteArray) (i j : Nat) : lst (s.extract i j) = ((lst s).drop i).take (j - i) := by rw [extract_lst]; rfl
theorem lst_app2 (s t : ByteArray) : lst (s ++ t) = lst s ++ lst t := by
  rw [← bs_lst s, ← bs_lst t, append_bs]; rfl

set_option maxHeartbeats 16000000 in
set_option maxRecDepth 100000 in
theorem pieces_any (a : Option Addr) (n c : Nat) (b : ByteArray) (a2 : Option Addr) (n2 c2 : Nat) (zs : Nat → Int) (w : World) (hg : GL w) (h : RdP w a n) (hz : RdZ w a2 n2 zs) :
    Calls Try.prog 5 #[.slice a n c, .string b, .slice a2 n2 c2] w fun e w' => e = .returned (.bool true) ∧ Below w.heap.size w w' := by
  have CR := row_any a n c w h
  have HGW : Hid (GL w) := hg
  have HZ : Hid (RdZ w a2 n2 zs) := hz
  have hz63 : n2 ≤ 9223372036854775807 := hz.max
  have CC := fun w => Cut_any b 40 w (by omega)
  have hbs := size_cutB b 40 (by omega)
  obtain ⟨B, hB⟩ : ∃ B, cutB b 40 = B := ⟨_, rfl⟩
  rw [hB] at CC hbs
  clear hg h hz hB
  go_enter Try.func5, Try.ntmps5
  go_wp2_with fail
  refine CR.mono ?_
  rintro e w1 ⟨hB1, o, rfl, hos⟩
  clear CR
  have hSs : (o ++ B).size ≤ 2200 := by rw [ByteArray.size_append]; omega
  obtain ⟨S, hS⟩ : ∃ S, o ++ B = S := ⟨_, rfl⟩
  rw [hS] at hSs
  obtain ⟨cS, hcvS, hRS⟩ := conv_rd w1 S (by omega)
  have hB2 := conv_below w1 S
  obtain ⟨w2, hw2⟩ : ∃ W1, Lib.bytesWorld w1 5 S = W1 := ⟨_, rfl⟩
  rw [hw2] at hcvS hRS hB2
  have HB2 : Hid (Below w.heap.size w w2) := hB1.trans (hB2.mono hB1.size)
  have HALLS0 := All_any (some ⟨w1.heap.size, 0, none⟩) S.size cS (lst S) w2 (HGW.out.keep HB2.out) hRS (by omega)
  obtain ⟨O, hO⟩ : ∃ O, allL (lst S) = O := ⟨_, rfl⟩
  rw [hO] at HALLS0
  have HOO : Hid (allL (lst S) = O) := hO
  clear hO
  obtain ⟨GW, ZW, bW⟩ := O
  obtain ⟨DW, hDW⟩ : ∃ D : Int, (S.size : Int) - ZW.length = D := ⟨_, rfl⟩
  obtain ⟨EW, hEW⟩ : ∃ E : Int, (if bW = true then (16 : Int) else 0) = E := ⟨_, rfl⟩
  have HALLS : Calls Try.prog 17 #[.slice (some ⟨w1.heap.size, 0, none⟩) S.size cS] w2 fun e w' => Below w2.heap.size w2 w' ∧ ∃ a n c T, e = .returned (.tuple #[.slice a n c, .int .i64 DW, .int .i64 EW]) ∧ OwnSS w' w2.heap.size a n c (GW.map (·.map bs)) T := by rw [← hDW, ← hEW]; exact HALLS0
  have HEW : Hid ((if bW = true then (16 : Int) else 0) = EW) := hEW
  clear HALLS0 hEW hDW hw2 hRS hB2 hB1
  go_wp2_with (first
    | (go_at_call 16; refine (CC _).mono ?_; rintro e wz ⟨rfl, rfl⟩)
    | (go_at_call 17; refine HALLS.mono ?_; rintro e w3 ⟨hB3, aW, nW, cW, TW, rfl, hO3⟩; have HB3 : Hid (Below w.heap.size w w3) := HB2.out.trans (hB3.mono HB2.out.size); have HG3 : Hid (GL w3) := HGW.out.keep HB3.out; have HWO : Hid (OwnSS w3 w2.heap.size aW nW cW (GW.map (·.map bs)) TW) := hO3; clear hB3 hO3))
  have HO0 : Hid (OwnSS w3 w3.heap.size none 0 0 [] []) := OwnSS.nil w3 _
  clear CC hbs hos hcvS HALLS hS
  go_loopg [11, 12, 13, 14, 15] 20 (fun g gv rv ev kv iv wr => ∃ (i : Nat) (ag : Option Addr) (ng cg : Nat) (G : List (List (List UInt8))) (TG : List Tr) (R : ByteArray) (E : Int) (k : Nat), gv = .slice ag ng cg ∧ rv = .string R ∧ ev = .int .i64 E ∧ kv = .int .i64 k ∧ iv = .int .i64 i ∧ Hid (i + g = 20) ∧ k ≤ S.size ∧ Hid (R.size ≤ k) ∧ Hid (OwnSS wr w3.heap.size ag ng cg (G.map (·.map bs)) TG) ∧ Hid (Below w3.heap.size w3 wr) ∧ Hid (G.length ≤ i * 3000) ∧ Hid ((E = 0 ∧ Pcs (lst S) k G (lst R) false) ∨ (E = 16 ∧ Pcs (lst S) k G (lst R) true)) ∧ Hid (n2 < i ∨ 20 ≤ i → k = S.size))
  case atStart => exact ⟨0, none, 0, 0, [], [], ⟨#[]⟩, 0, 0, rfl, rfl, rfl, rfl, rfl, rfl, Nat.zero_le _, Nat.le_refl _, HO0, Below.refl _ _, Nat.le_refl _, .inl ⟨rfl, Pcs.start _⟩, by show _ → _; omega⟩
  case round =>
    obtain ⟨i, ag, ng, cg, G, TG, R, E, k, rfl, rfl, rfl, rfl, rfl, HI, hk, HRS, HGO, HB, HGC, HE, HKEND0⟩ := hrel
    have HP := HE.out
    by_cases hgo : E = 0 ∧ (i : Int) ≤ n2 ∧ (i : Int) < 20
    · obtain ⟨rfl, hi1, hi2⟩ := hgo
      have hp : Pcs (lst S) k G (lst R) false := by
        rcases HP with ⟨-, hp⟩ | ⟨h0, -⟩
        · exact hp
        · omega
      clear HP HE HKEND0
      obtain ⟨f, rfl⟩ : ∃ f, gk = f + 1 := ⟨gk - 1, by have := HI.out; omega⟩
      by_cases hin : (i : Int) < n2 ∧ (i : Int) < 19
      · obtain ⟨hin1, hin2⟩ := hin
        have hinn : i < n2 := by omega
        obtain ⟨bz, offz, rfl, hcz⟩ := (HZ.out.keep (HB3.out.trans (HB.out.mono HB3.out.size))).elem i hinn
        have CZ := fun w => Within_any (zs i) k S.size w (by omega) (by omega) (by omega)
        go_wp2_with fail
        refine (CZ _).mono ?_
        rintro e wr ⟨rfl, z, hz0, hz1, rfl⟩
        obtain ⟨z, rfl⟩ := Int.eq_ofNat_of_zero_le (show 0 ≤ z by omega)
        have hzk : k ≤ z := by omega
        have hzS : z ≤ S.size := by omega
        have HKEND : Hid (n2 < i + 1 ∨ 20 ≤ i + 1 → z = S.size) := by show _ → _; omega
        clear CZ hz0 hz1 hcz
        have hRs : R.size ≤ k := HRS.out
        have HCK : Hid (k ≤ z ∧ z ≤ S.size) := ⟨by omega, by omega⟩
        obtain ⟨P, hP⟩ : ∃ P, S.extract k z = P := ⟨_, rfl⟩
        have hPs : P.size = z - k := by rw [← hP, ByteArray.size_extract, Nat.min_eq_left (by omega)]
        have hPl : lst P = ((lst S).drop k).take (z - k) := by rw [← hP, lst_ext]
        obtain ⟨R1, hR1⟩ : ∃ R1, R ++ P = R1 := ⟨_, rfl⟩
        have hR1s : R1.size = R.size + (z - k) := by rw [← hR1, ByteArray.size_append, hPs]
        have hR1l : lst R1 = lst R ++ ((lst S).drop k).take (z - k) := by rw [← hR1, lst_app2, hPl]
        have hps := hp.step HCK.out.1 hR1l
        have hcount := allL_count (lst R1).length (lst R1) (Nat.le_refl _)
        obtain ⟨-, -, -, d, hd, hdr⟩ := allL_app (lst R1).length (lst R1) [] (Nat.le_refl _)
        rw [len_lst] at hcount hd
        obtain ⟨cE, hcv0, hRE⟩ := conv_rd wr R1 (by omega)
        have hB1 := conv_below wr R1
        have HALL0 := All_any (some ⟨wr.heap.size, 0, none⟩) R1.size cE (lst R1) (Lib.bytesWorld wr 5 R1) ((HG3.out.keep HB.out).keep hB1) hRE (by omega)
        obtain ⟨W1, hW1⟩ : ∃ W1, Lib.bytesWorld wr 5 R1 = W1 := ⟨_, rfl⟩
        rw [hW1] at hcv0 hRE hB1 HALL0
        have HB1 : Hid (Below w3.heap.size w3 W1) := HB.out.trans (hB1.mono HB.out.size)
        have HGO1 : Hid (OwnSS W1 w3.heap.size ag ng cg (G.map (·.map bs)) TG) := HGO.out.keep hB1
        obtain ⟨R2, hR2⟩ : ∃ R2, R1.extract d R1.size = R2 := ⟨_, rfl⟩
        have hR2s : R2.size = R1.size - d := by rw [← hR2, ByteArray.size_extract, Nat.min_self]
        have hR2l : lst R2 = (allL (lst R1)).2.1 := by rw [hdr, ← hR2, lst_ext]; rw [List.take_of_length_le (by rw [List.length_drop, len_lst]; omega)]
        have hlen2 : (allL (lst R1)).2.1.length = R1.size - d := by rw [hdr, List.length_drop, len_lst]
        rw [← hR2l] at hps
        unfold AllR at HALL0
        rw [hlen2, show (R1.size : Int) - ((R1.size - d : Nat) : Int) = (d : Int) by omega] at HALL0
        obtain ⟨O, hO⟩ : ∃ O, allL (lst R1) = O := ⟨_, rfl⟩
        rw [hO] at HALL0 hps hcount
        obtain ⟨M, Z, bad⟩ := O
        have HMC : Hid (M.length ≤ 3000) := by show _ ≤ _; simp only at hcount; omega
        obtain ⟨E, hE⟩ : ∃ E : Int, (if bad = true then (16 : Int) else 0) = E := ⟨_, rfl⟩
        have HALL : Calls Try.prog 17 #[.slice (some ⟨wr.heap.size, 0, none⟩) R1.size cE] W1 fun e w' => Below W1.heap.size W1 w' ∧ ∃ a n c T, e = .returned (.tuple #[.slice a n c, .int .i64 (d : Int), .int .i64 E]) ∧ OwnSS w' W1.heap.size a n c (M.map (·.map bs)) T := by rw [← hE]; exact HALL0
        have HE2 : Hid ((E = 0 ∧ Pcs (lst S) z (G ++ M) (lst R2) false) ∨ (E = 16 ∧ Pcs (lst S) z (G ++ M) (lst R2) true)) := by
          cases bad
          · exact .inl ⟨hE.symm, hps⟩
          · exact .inr ⟨hE.symm, hps⟩
        have HRK : Hid (R2.size ≤ z) := by show _ ≤ _; have := HRS.out; omega
        have hng : ng ≤ 60000 := by have h1 := HGC.out; have h2 := HI.out; have h3 := HGO.out.count; rw [List.length_map] at h3; omega
        have hdR : (d : Int) ≤ R1.size := by omega
        have hR1z : R1.size ≤ 3000 := by have := HRS.out; omega
        have hPz : P.size ≤ 3000 := by omega
        clear HALL0 hps hcount hO hE hR2l hlen2 hdr hW1 hRE hB1 hR1l hPl hR2s hPs hR1s
        go_wp2_with (first
          | (at_builtin; refine append_sss rfl (.tmp 87) (.tmp 88) rfl w3.heap.size rfl HG5.out rfl HO5.out (by omega) HZ5.out ?_; intro a6 n6 c6 w6 hn6 hO6 hB6; have HO6 : Hid (OwnSS w6 w3.heap.size a6 n6 c6 ((G ++ M).map (·.map bs)) (TG ++ T5)) := (by rw [List.map_append]; exact hO6); have HB6 : Hid (Below w3.heap.size w3 w6) := HB5.out.trans hB6; clear hn6 hO6 hB6)
          | (go_at_call 17; refine HALL.mono ?_; rintro e w5 ⟨hB5, a5, n5, c5, T5, rfl, hO5⟩; have hn5 : n5 ≤ 3000 := (by have h1 := hO5.count; have h2 := HMC.out; rw [List.length_map] at h1; omega); have HB5 : Hid (Below w3.heap.size w3 w5) := HB1.out.trans (hB5.mono HB1.out.size); have HO5 : Hid (OwnSS w5 w3.heap.size a5 n5 c5 (M.map (·.map bs)) T5) := hO5.low HB1.out.size; have HG5 : Hid (OwnSS w5 w3.heap.size ag ng cg (G.map (·.map bs)) TG) := HGO1.out.keep hB5; have HZ5 : Hid (w3.heap.size ≤ w5.heap.size) := HB5.out.size; clear hB5 hO5))
        go_roundg f
        case measure => omega
        case rel => exact ⟨i + 1, _, _, _, G ++ M, _, R2, E, z, rfl, rfl, rfl, by go_num, by go_num, by have := HI.out; show _ = _; omega, HCK.out.2, HRK, HO6, HB6, by have h1 := HGC.out; have h2 := HMC.out; show _ ≤ _; rw [List.length_append]; omega, HE2, HKEND⟩
      · have HKEND : Hid (n2 < i + 1 ∨ 20 ≤ i + 1 → S.size = S.size) := fun _ => rfl
        by_cases hin1 : (i : Int) < n2
        · have hin2 : ¬ (i : Int) < 19 := fun h => hin ⟨hin1, h⟩
          clear hin
          have hRs : R.size ≤ k := HRS.out
          have HCK : Hid (k ≤ S.size ∧ S.size ≤ S.size) := ⟨by omega, by omega⟩
          obtain ⟨P, hP⟩ : ∃ P, S.extract k S.size = P := ⟨_, rfl⟩
          have hPs : P.size = S.size - k := by rw [← hP, ByteArray.size_extract, Nat.min_eq_left (by omega)]
          have hPl : lst P = ((lst S).drop k).take (S.size - k) := by rw [← hP, lst_ext]
          obtain ⟨R1, hR1⟩ : ∃ R1, R ++ P = R1 := ⟨_, rfl⟩
          have hR1s : R1.size = R.size + (S.size - k) := by rw [← hR1, ByteArray.size_append, hPs]
          have hR1l : lst R1 = lst R ++ ((lst S).drop k).take (S.size - k) := by rw [← hR1, lst_app2, hPl]
          have hps := hp.step HCK.out.1 hR1l
          have hcount := allL_count (lst R1).length (lst R1) (Nat.le_refl _)
          obtain ⟨-, -, -, d, hd, hdr⟩ := allL_app (lst R1).length (lst R1) [] (Nat.le_refl _)
          rw [len_lst] at hcount hd
          obtain ⟨cE, hcv0, hRE⟩ := conv_rd wr R1 (by omega)
          have hB1 := conv_below wr R1
          have HALL0 := All_any (some ⟨wr.heap.size, 0, none⟩) R1.size cE (lst R1) (Lib.bytesWorld wr 5 R1) ((HG3.out.keep HB.out).keep hB1) hRE (by omega)
          obtain ⟨W1, hW1⟩ : ∃ W1, Lib.bytesWorld wr 5 R1 = W1 := ⟨_, rfl⟩
          rw [hW1] at hcv0 hRE hB1 HALL0
          have HB1 : Hid (Below w3.heap.size w3 W1) := HB.out.trans (hB1.mono HB.out.size)
          have HGO1 : Hid (OwnSS W1 w3.heap.size ag ng cg (G.map (·.map bs)) TG) := HGO.out.keep hB1
          obtain ⟨R2, hR2⟩ : ∃ R2, R1.extract d R1.size = R2 := ⟨_, rfl⟩
          have hR2s : R2.size = R1.size - d := by rw [← hR2, ByteArray.size_extract, Nat.min_self]
          have hR2l : lst R2 = (allL (lst R1)).2.1 := by rw [hdr, ← hR2, lst_ext]; rw [List.take_of_length_le (by rw [List.length_drop, len_lst]; omega)]
          have hlen2 : (allL (lst R1)).2.1.length = R1.size - d := by rw [hdr, List.length_drop, len_lst]
          rw [← hR2l] at hps
          unfold AllR at HALL0
          rw [hlen2, show (R1.size : Int) - ((R1.size - d : Nat) : Int) = (d : Int) by omega] at HALL0
          obtain ⟨O, hO⟩ : ∃ O, allL (lst R1) = O := ⟨_, rfl⟩
          rw [hO] at HALL0 hps hcount
          obtain ⟨M, Z, bad⟩ := O
          have HMC : Hid (M.length ≤ 3000) := by show _ ≤ _; simp only at hcount; omega
          obtain ⟨E, hE⟩ : ∃ E : Int, (if bad = true then (16 : Int) else 0) = E := ⟨_, rfl⟩
          have HALL : Calls Try.prog 17 #[.slice (some ⟨wr.heap.size, 0, none⟩) R1.size cE] W1 fun e w' => Below W1.heap.size W1 w' ∧ ∃ a n c T, e = .returned (.tuple #[.slice a n c, .int .i64 (d : Int), .int .i64 E]) ∧ OwnSS w' W1.heap.size a n c (M.map (·.map bs)) T := by rw [← hE]; exact HALL0
          have HE2 : Hid ((E = 0 ∧ Pcs (lst S) S.size (G ++ M) (lst R2) false) ∨ (E = 16 ∧ Pcs (lst S) S.size (G ++ M) (lst R2) true)) := by
            cases bad
            · exact .inl ⟨hE.symm, hps⟩
            · exact .inr ⟨hE.symm, hps⟩
          have HRK : Hid (R2.size ≤ S.size) := by show _ ≤ _; have := HRS.out; omega
          have hng : ng ≤ 60000 := by have h1 := HGC.out; have h2 := HI.out; have h3 := HGO.out.count; rw [List.length_map] at h3; omega
          have hdR : (d : Int) ≤ R1.size := by omega
          have hR1z : R1.size ≤ 3000 := by have := HRS.out; omega
          have hPz : P.size ≤ 3000 := by omega
          clear HALL0 hps hcount hO hE hR2l hlen2 hdr hW1 hRE hB1 hR1l hPl hR2s hPs hR1s
          go_wp2_with (first
            | (at_builtin; refine append_sss rfl (.tmp 87) (.tmp 88) rfl w3.heap.size rfl HG5.out rfl HO5.out (by omega) HZ5.out ?_; intro a6 n6 c6 w6 hn6 hO6 hB6; have HO6 : Hid (OwnSS w6 w3.heap.size a6 n6 c6 ((G ++ M).map (·.map bs)) (TG ++ T5)) := (by rw [List.map_append]; exact hO6); have HB6 : Hid (Below w3.heap.size w3 w6) := HB5.out.trans hB6; clear hn6 hO6 hB6)
            | (go_at_call 17; refine HALL.mono ?_; rintro e w5 ⟨hB5, a5, n5, c5, T5, rfl, hO5⟩; have hn5 : n5 ≤ 3000 := (by have h1 := hO5.count; have h2 := HMC.out; rw [List.length_map] at h1; omega); have HB5 : Hid (Below w3.heap.size w3 w5) := HB1.out.trans (hB5.mono HB1.out.size); have HO5 : Hid (OwnSS w5 w3.heap.size a5 n5 c5 (M.map (·.map bs)) T5) := hO5.low HB1.out.size; have HG5 : Hid (OwnSS w5 w3.heap.size ag ng cg (G.map (·.map bs)) TG) := HGO1.out.keep hB5; have HZ5 : Hid (w3.heap.size ≤ w5.heap.size) := HB5.out.size; clear hB5 hO5))
          go_roundg f
          case measure => omega
          case rel => exact ⟨i + 1, _, _, _, G ++ M, _, R2, E, S.size, rfl, rfl, rfl, by go_num, by go_num, by have := HI.out; show _ = _; omega, HCK.out.2, HRK, HO6, HB6, by have h1 := HGC.out; have h2 := HMC.out; show _ ≤ _; rw [List.length_append]; omega, HE2, fun _ => rfl⟩
        · clear hin
          have hRs : R.size ≤ k := HRS.out
          have HCK : Hid (k ≤ S.size ∧ S.size ≤ S.size) := ⟨by omega, by omega⟩
          obtain ⟨P, hP⟩ : ∃ P, S.extract k S.size = P := ⟨_, rfl⟩
          have hPs : P.size = S.size - k := by rw [← hP, ByteArray.size_extract, Nat.min_eq_left (by omega)]
          have hPl : lst P = ((lst S).drop k).take (S.size - k) := by rw [← hP, lst_ext]
          obtain ⟨R1, hR1⟩ : ∃ R1, R ++ P = R1 := ⟨_, rfl⟩
          have hR1s : R1.size = R.size + (S.size - k) := by rw [← hR1, ByteArray.size_append, hPs]
          have hR1l : lst R1 = lst R ++ ((lst S).drop k).take (S.size - k) := by rw [← hR1, lst_app2, hPl]
          have hps := hp.step HCK.out.1 hR1l
          have hcount := allL_count (lst R1).length (lst R1) (Nat.le_refl _)
          obtain ⟨-, -, -, d, hd, hdr⟩ := allL_app (lst R1).length (lst R1) [] (Nat.le_refl _)
          rw [len_lst] at hcount hd
          obtain ⟨cE, hcv0, hRE⟩ := conv_rd wr R1 (by omega)
          have hB1 := conv_below wr R1
          have HALL0 := All_any (some ⟨wr.heap.size, 0, none⟩) R1.size cE (lst R1) (Lib.bytesWorld wr 5 R1) ((HG3.out.keep HB.out).keep hB1) hRE (by omega)
          obtain ⟨W1, hW1⟩ : ∃ W1, Lib.bytesWorld wr 5 R1 = W1 := ⟨_, rfl⟩
          rw [hW1] at hcv0 hRE hB1 HALL0
          have HB1 : Hid (Below w3.heap.size w3 W1) := HB.out.trans (hB1.mono HB.out.size)
          have HGO1 : Hid (OwnSS W1 w3.heap.size ag ng cg (G.map (·.map bs)) TG) := HGO.out.keep hB1
          obtain ⟨R2, hR2⟩ : ∃ R2, R1.extract d R1.size = R2 := ⟨_, rfl⟩
          have hR2s : R2.size = R1.size - d := by rw [← hR2, ByteArray.size_extract, Nat.min_self]
          have hR2l : lst R2 = (allL (lst R1)).2.1 := by rw [hdr, ← hR2, lst_ext]; rw [List.take_of_length_le (by rw [List.length_drop, len_lst]; omega)]
          have hlen2 : (allL (lst R1)).2.1.length = R1.size - d := by rw [hdr, List.length_drop, len_lst]
          rw [← hR2l] at hps
          unfold AllR at HALL0
          rw [hlen2, show (R1.size : Int) - ((R1.size - d : Nat) : Int) = (d : Int) by omega] at HALL0
          obtain ⟨O, hO⟩ : ∃ O, allL (lst R1) = O := ⟨_, rfl⟩
          rw [hO] at HALL0 hps hcount
          obtain ⟨M, Z, bad⟩ := O
          have HMC : Hid (M.length ≤ 3000) := by show _ ≤ _; simp only at hcount; omega
          obtain ⟨E, hE⟩ : ∃ E : Int, (if bad = true then (16 : Int) else 0) = E := ⟨_, rfl⟩
          have HALL : Calls Try.prog 17 #[.slice (some ⟨wr.heap.size, 0, none⟩) R1.size cE] W1 fun e w' => Below W1.heap.size W1 w' ∧ ∃ a n c T, e = .returned (.tuple #[.slice a n c, .int .i64 (d : Int), .int .i64 E]) ∧ OwnSS w' W1.heap.size a n c (M.map (·.map bs)) T := by rw [← hE]; exact HALL0
          have HE2 : Hid ((E = 0 ∧ Pcs (lst S) S.size (G ++ M) (lst R2) false) ∨ (E = 16 ∧ Pcs (lst S) S.size (G ++ M) (lst R2) true)) := by
            cases bad
            · exact .inl ⟨hE.symm, hps⟩
            · exact .inr ⟨hE.symm, hps⟩
          have HRK : Hid (R2.size ≤ S.size) := by show _ ≤ _; have := HRS.out; omega
          have hng : ng ≤ 60000 := by have h1 := HGC.out; have h2 := HI.out; have h3 := HGO.out.count; rw [List.length_map] at h3; omega
          have hdR : (d : Int) ≤ R1.size := by omega
          have hR1z : R1.size ≤ 3000 := by have := HRS.out; omega
          have hPz : P.size ≤ 3000 := by omega
          clear HALL0 hps hcount hO hE hR2l hlen2 hdr hW1 hRE hB1 hR1l hPl hR2s hPs hR1s
          go_wp2_with (first
            | (at_builtin; refine append_sss rfl (.tmp 87) (.tmp 88) rfl w3.heap.size rfl HG5.out rfl HO5.out (by omega) HZ5.out ?_; intro a6 n6 c6 w6 hn6 hO6 hB6; have HO6 : Hid (OwnSS w6 w3.heap.size a6 n6 c6 ((G ++ M).map (·.map bs)) (TG ++ T5)) := (by rw [List.map_append]; exact hO6); have HB6 : Hid (Below w3.heap.size w3 w6) := HB5.out.trans hB6; clear hn6 hO6 hB6)
            | (go_at_call 17; refine HALL.mono ?_; rintro e w5 ⟨hB5, a5, n5, c5, T5, rfl, hO5⟩; have hn5 : n5 ≤ 3000 := (by have h1 := hO5.count; have h2 := HMC.out; rw [List.length_map] at h1; omega); have HB5 : Hid (Below w3.heap.size w3 w5) := HB1.out.trans (hB5.mono HB1.out.size); have HO5 : Hid (OwnSS w5 w3.heap.size a5 n5 c5 (M.map (·.map bs)) T5) := hO5.low HB1.out.size; have HG5 : Hid (OwnSS w5 w3.heap.size ag ng cg (G.map (·.map bs)) TG) := HGO1.out.keep hB5; have HZ5 : Hid (w3.heap.size ≤ w5.heap.size) := HB5.out.size; clear hB5 hO5))
          go_roundg f
          case measure => omega
          case rel => exact ⟨i + 1, _, _, _, G ++ M, _, R2, E, S.size, rfl, rfl, rfl, by go_num, by go_num, by have := HI.out; show _ = _; omega, HCK.out.2, HRK, HO6, HB6, by have h1 := HGC.out; have h2 := HMC.out; show _ ≤ _; rw [List.length_append]; omega, HE2, fun _ => rfl⟩
    · have hfin : GW = G ∧ EW = E := by
        rcases HP with ⟨rfl, hp⟩ | ⟨rfl, hp⟩
        · have := hp.done (by rw [len_lst, HKEND0.out (by omega)]; exact Nat.le_refl _)
          rw [HOO.out] at this
          obtain ⟨h1, h2⟩ := this
          have h3 : bW = false := h2
          subst h3
          exact ⟨h1, HEW.out.symm⟩
        · obtain ⟨h1, h2⟩ := hp
          rw [HOO.out] at h1 h2
          have h3 : bW = true := h2
          subst h3
          exact ⟨h1, HEW.out.symm⟩
      obtain ⟨rfl, rfl⟩ := hfin
      have HKEND : Hid True := trivial
      have hex : ((¬ (i : Int) ≤ n2) ∧ EW = 0) ∨ ((¬ (i : Int) ≤ n2) ∧ EW = 16) ∨ ((i : Int) ≤ n2 ∧ (¬ (i : Int) < 20) ∧ EW = 0) ∨ ((i : Int) ≤ n2 ∧ (¬ (i : Int) < 20) ∧ EW = 16) ∨ ((i : Int) ≤ n2 ∧ (i : Int) < 20 ∧ EW = 16) := by
        rcases HP with ⟨h0, -⟩ | ⟨h0, -⟩
        all_goals omega
      clear hgo HEW HKEND0
      rcases hex with ⟨x1, rfl⟩ | ⟨x1, rfl⟩ | ⟨x1, x2, rfl⟩ | ⟨x1, x2, rfl⟩ | ⟨x1, x2, rfl⟩
      all_goals
        have HGOF : Hid (OwnSS wr w3.heap.size ag ng cg (GW.map (·.map bs)) TG) := HGO
        have HGWF : Hid (OwnSS wr w2.heap.size aW nW cW (GW.map (·.map bs)) TW) := HWO.out.keep HB.out
        have hnn : nW = ng := by rw [← HGOF.out.count, HGWF.out.count]
        subst hnn
        have hn63 : nW ≤ 9223372036854775807 := by have h1 := HGOF.out.own.cap; have h2 := h1.2; unfold maxLen at h2; omega
        have HBW : Hid (Below w.heap.size w wr) := HB3.out.trans (HB.out.mono HB3.out.size)
        clear HGO HP HE HKEND HGC HRS
        obtain ⟨wy, rfl⟩ : ∃ wy, wy = wr := ⟨_, rfl⟩
        go_wp2
        go_loopg [20] nW (fun g iv wx => ∃ (q : Nat), iv = .int .i64 q ∧ Hid (q + g = nW) ∧ Hid (∃ r, wx = wy.drewN r))
        case atStart => exact ⟨0, rfl, by show _ = _; omega, ⟨0, rfl⟩⟩
        case round =>
          obtain ⟨q, rfl, HK, HW⟩ := hrel
          have HB4 : Hid (Below wy.heap.size wy wr) := by obtain ⟨q, hq⟩ := HW.out; show Below _ _ _; rw [hq]; exact below_drewN _ _
          have HB5 : Hid (Below w.heap.size w wr) := HBW.out.trans (HB4.out.mono HBW.out.size)
          by_cases hk : (q : Int) < nW
          · have hkn : q < nW := by omega
            obtain ⟨g, b1, m1, d1, rfl, hc1, hr1⟩ := HGOF.out.cell q hkn
            obtain ⟨g', b2, m2, d2, rfl, hc2, hr2⟩ := HGWF.out.cell q hkn
            have hbj : ∀ j, Below wy.heap.size wy (wr.drewN j) := fun j => HB4.out.trans ((below_drewN wr j).mono HB4.out.size)
            have hd : ∀ j, (wr.drewN j).cell? ⟨g, q, none⟩ = some (.slice b1 m1 d1) := fun j => by
              rw [(hbj j).cell (p := ⟨g, q, none⟩) (World.block_lt_of_cell? _ _ hc1)]; exact hc1
            have hd' : ∀ j, (wr.drewN j).cell? ⟨g', q, none⟩ = some (.slice b2 m2 d2) := fun j => by
              rw [(hbj j).cell (p := ⟨g', q, none⟩) (World.block_lt_of_cell? _ _ hc2)]; exact hc2
            have HL4 := fun j => Lists_same (hr1.keep (hbj j)) (hr2.keep (hbj j))
            clear hc1 hr1 hc2 hr2 hbj
            go_wp2
            go_quiet (first | (go_at_call 18; exact Calls.quiet_of (HL4 _)))
            go_wp2
            go_roundg (gk - 1)
            case measure => have := HK.out; omega
            case rel => exact ⟨q + 1, by go_num, by have := HK.out; show _ = _; omega, by obtain ⟨q, hq⟩ := HW.out; exact ⟨_, by rw [hq, drewN_drewN]⟩⟩
          · go_wp2_with (go_at_call 13; refine (known_any _ (HGW.out.keep HB5.out)).mono ?_; rintro e wc ⟨rfl, hBc⟩; have HBc : Hid (Below w.heap.size w wc) := HB5.out.trans (hBc.mono HB5.out.size); clear hBc)
            go_ret
            exact ⟨rfl, HBc.out⟩
end Go.Proofs.Ytkoepgjdjbmknaa
