/-
  SpaceVersions' walk.
-/
import Derived.Test.YtmjeljldmmkcpaaGreatVr
import Derived.Deep.CutBlock
namespace Go.Proofs.YtmjeljldmmkcpaaGreat.Sq
open Go.RowKit Go.PlainAid
open Dk (ptr below_drewN alloc_below step_below add_flat OwnR OwnP OwnS Mv pcells Elt elt_of)

set_option maxRecDepth 100000 in
set_option maxHeartbeats 1600000 in
theorem versions_any (x : Nat) (E T : Int) (a : Option Addr) (n c : Nat) (w : World) (hx : x < 18446744073709551616) (hK : RdK w a n) :
    Calls Tryz.prog 7 #[.agg #[.int .u64 (x : Nat), .int .i64 E, .int .i64 T], .slice a n c] w fun e w' => e = .returned (.bool true) ∧ Below w.heap.size w w' := by
  obtain ⟨w0, hw0⟩ : ∃ w0, w.alloc (.cells #[.int .u64 (x : Nat), .int .i64 E, .int .i64 T] 31) = w0 := ⟨_, rfl⟩
  have hB0 : Below w.heap.size w w0 := by rw [← hw0]; exact alloc_below w _
  have HB0 : Hid (Below w.heap.size w w0) := hB0
  have hblk : w0.heap[w.heap.size]? = some (.cells #[.int .u64 (x : Nat), .int .i64 E, .int .i64 T] 31 (0, 0)) := by rw [← hw0]; exact heap_alloc_new w _
  have c0 : w0.cell? ⟨w.heap.size, 0, none⟩ = some (.int .u64 (x : Nat)) := by simp [World.cell?, hblk]
  have c1 : w0.cell? ⟨w.heap.size, 1, none⟩ = some (.int .i64 E) := by simp [World.cell?, hblk]
  have c2 : w0.cell? ⟨w.heap.size, 2, none⟩ = some (.int .i64 T) := by simp [World.cell?, hblk]
  have HZ : Hid (RdK w a n) := hK
  have hnl := hK.le
  unfold maxLen at hnl
  have HN := New_any w0 x E T hx
  clear hblk hB0 hK
  go_enter Tryz.func7, Tryz.ntmps7
  go_wp2_with fail
  refine HN.mono ?_
  rintro e w1 ⟨hb1, s, rfl, -, hs⟩
  obtain ⟨B, hBe⟩ : ∃ B, w0.heap.size = B := ⟨_, rfl⟩
  rw [hBe] at hs
  have HBw : Hid (w.heap.size ≤ B) := by show _ ≤ _; rw [← hBe]; exact HB0.out.size
  have HB1 := step_below HB0 hb1
  have HS1 : Hid (Spc w1 B s x vNM none' (fun _ => 0)) := hs vNM vNM_names
  have hq := eqlS_nil w1 s
  have HO := OfText_t ⟨#[120]⟩ w1
  clear hb1 hs HN c0 c1 c2 hBe
  go_wp2_with fail
  refine HO.mono ?_
  rintro e w2 ⟨hb2, v, rfl, hv⟩
  have HB2 := step_below HB1 hb2
  have HV2 : Hid (Vt w2 v ⟨#[120]⟩) := hv
  have HP := Put_any w2 B s x vNM none' _ (HS1.out.keep hb2) (Vle.zero.low (by decide)) 0 ⟨#[109, 105, 110, 101]⟩ mine_in (by decide) (some ⟨v, 0, none⟩) (Empty_t w2 v _ hv)
  clear hb2 hv hq HO
  go_wp2_with fail
  refine HP.mono ?_
  rintro e w3 ⟨rfl, hm3, hs3⟩
  obtain ⟨A3, V3, n3, HI3⟩ : ∃ A3 V3, ∃ n3 : Int, Hid (Vi w w3 B s x A3 V3 10 n3) := by
    rw [none_due] at hs3
    refine ⟨_, _, _, (Mb.step HB2 hm3 HBw.out).out, hs3, ⟨v, setA_at _ _ _⟩, one_none _ _ _, fun k q u h => ?_, ((Vle.zero.due _ _).inc _).mono (by decide), rfl, HBw.out⟩
    unfold setA at h
    split at h
    · injection h with h
      injection h with h1 h2
      rw [← h1]
      exact ⟨v, _, rfl, HV2.out.mb hm3⟩
    · cases h
  have HVer := Version_vi w w3 B s x A3 V3 10 n3 HI3.out (by decide)
  clear hm3 hs3 HP
  go_wp2_with fail
  refine HVer.mono ?_
  rintro e w4 ⟨rfl, hi4⟩
  have HI4 : Hid (Vi w w4 B s x A3 V3 10 n3) := hi4
  clear hi4 HVer
  go_wp2
  go_loopg [6, 7] (n + 1) (fun gk vv iv wr => ∃ (i : Nat) (m : Int) (A : Ab) (V : ByteArray → Int), vv = .int .u64 m ∧ iv = .int .i64 i ∧ i + gk = n + 1 ∧ i ≤ 30 ∧ Hid (Vi w wr B s x A V (10 * i + 10) m))
  case atStart => exact ⟨0, n3, A3, V3, rfl, rfl, by omega, by decide, HI4⟩
  case round =>
    obtain ⟨i, m, A, V, rfl, rfl, hi, hi2, HI⟩ := hrel
    by_cases h1 : (i : Int) < n
    · by_cases h2 : (i : Int) < 30
      · obtain ⟨b, off, kind, ka, kb, kn, kt, ks, hae, k0, k1, k2, k3, k4, k5⟩ := (HZ.out.keep HI.out.be).elem i (by omega)
        subst hae
        have HLt : b < w.heap.size := by
          obtain ⟨b', off', _, _, _, _, _, _, e', h', -⟩ := HZ.out.elem i (by omega)
          injection e' with e'
          injection e' with e1 e2
          rw [e1]
          exact World.block_lt_of_cell? _ _ h'
        have HNm := name_any ka wr
        have h1d : decide (i < n) = true := decide_eq_true (by omega)
        have h2d : decide (i < 30) = true := decide_eq_true (by omega)
        have hz6 : i * 6 ≤ 1000 := by omega
        have HK2 : Hid (∀ wq, Below w.heap.size w wq → wq.cell? ⟨b, off + i * 6 + 2, none⟩ = some (.int .i64 kb)) := fun wq hb => by
          have h2 := k2
          rw [HI.out.be.cell (p := ⟨b, off + i * 6 + 2, none⟩) HLt] at h2
          rw [hb.cell (p := ⟨b, off + i * 6 + 2, none⟩) HLt]
          exact h2
        clear k3 k4 k5
        go_wp2_with fail
        refine HNm.mono ?_
        rintro e wr ⟨rfl, d, hd, rfl⟩
        have hkm := nmA_in hd
        have hkn := nmA_ne d hd
        generalize nmA d = k at hkm hkn ⊢
        go_upto_block 2 with fail
        go_cut [] from 42 to 72 (fun wx => Hid (Other w wx B s x (10 * i + 11) m))
        case first =>
          by_cases e1 : kind = 1
          · subst e1
            have HO := OfText_t ⟨#[121]⟩ wr
            go_wp2_with fail
            refine HO.mono ?_
            rintro e w5 ⟨hb5, v5, rfl, hv5⟩
            have HP := Put_vi w w5 B s x A V _ m (HI.out.keep hb5) (by omega) k hkm hkn v5 _ hv5
            clear hb5 hv5 HO
            go_wp2_with fail
            refine HP.mono ?_
            rintro e w6 ⟨rfl, ho6⟩
            have HO6 : Hid (Other w w6 B s x (10 * i + 11) m) := by
              obtain ⟨A', V', h⟩ := ho6
              exact ⟨A', V', h.be, h.spc, h.own, h.still, h.txt, h.vle.mono (by omega), h.ver, h.low⟩
            clear ho6 HP
            go_wp2
            go_meet
            exact HO6
          · have b1 : (kind == 1) = false := by simpa using e1
            by_cases e2 : kind = 2
            · subst e2
              have HP := Delete_vi w wr B s x A V _ m HI.out (by omega) k hkm hkn
              go_wp2_with fail
              refine HP.mono ?_
              rintro e w6 ⟨⟨r, rfl⟩, ho6⟩
              have HO6 : Hid (Other w w6 B s x (10 * i + 11) m) := by
                obtain ⟨A', V', h⟩ := ho6
                exact ⟨A', V', h.be, h.spc, h.own, h.still, h.txt, h.vle.mono (by omega), h.ver, h.low⟩
              clear ho6 HP
              go_wp2
              go_meet
              exact HO6
            · have b2 : (kind == 2) = false := by simpa using e2
              by_cases e3 : kind = 3
              · subst e3
                have HP := Expire_vi w wr B s x A V _ m HI.out (by omega) k hkm hkn
                go_wp2_with fail
                refine HP.mono ?_
                rintro e w6 ⟨⟨r, rfl⟩, ho6⟩
                have HO6 : Hid (Other w w6 B s x (10 * i + 11) m) := by
                  obtain ⟨A', V', h⟩ := ho6
                  exact ⟨A', V', h.be, h.spc, h.own, h.still, h.txt, h.vle.mono (by omega), h.ver, h.low⟩
                clear ho6 HP
                go_wp2
                go_meet
                exact HO6
              · have b3 : (kind == 3) = false := by simpa using e3
                by_cases e4 : kind = 4
                · subst e4
                  have HP := Touch_vi w wr B s x A V _ m HI.out (by omega) k hkm
                  go_wp2_with fail
                  refine HP.mono ?_
                  rintro e w6 ⟨rfl, ho6⟩
                  have HO6 : Hid (Other w w6 B s x (10 * i + 11) m) := ⟨_, _, ho6.be, ho6.spc, ho6.own, ho6.still, ho6.txt, ho6.vle.mono (by omega), by rw [chgV_ne _ _ (Ne.symm hkn)]; exact HI.out.ver, ho6.low⟩
                  clear ho6 HP
                  go_wp2
                  go_meet
                  exact HO6
                · have b4 : (kind == 4) = false := by simpa using e4
                  clear e1 e2 e3 e4
                  have HG : Calls Tryz.prog 17 #[ptr s, .string ⟨#[109, 105, 110, 101]⟩, .int .i64 0] wr fun e w' => (∃ p, e = .returned (ptr p)) ∧ Vi w w' B s x A V (10 * i + 10) m := Get_vi w wr B s x A V _ m HI.out (by omega)
                  go_wp2_with fail
                  refine HG.mono ?_
                  rintro e w6 ⟨⟨p6, rfl⟩, h6⟩
                  have HI6 : Hid (Vi w w6 B s x A V (10 * i + 10) m) := h6
                  have HY : Calls Tryz.prog 33 #[ptr s, .string ⟨#[109, 105, 110, 101]⟩, .int .i64 0] w6 fun e w' => (∃ v, e = .returned v) ∧ Vi w w' B s x A V (10 * i + 10) m := Expiry_vi w w6 B s x A V _ m h6 (by omega)
                  clear h6 HG
                  go_wp2_with fail
                  refine HY.mono ?_
                  rintro e w7 ⟨⟨v7, rfl⟩, h7⟩
                  have HI7 : Hid (Vi w w7 B s x A V (10 * i + 10) m) := h7
                  have HC := Scan_vi w w7 B s x A V _ m h7 (by omega) i (by omega)
                  clear h7 HY
                  go_wp2_with fail
                  refine HC.mono ?_
                  rintro e w8 ⟨⟨v8, rfl⟩, h8⟩
                  have HI8 : Hid (Vi w w8 B s x A V (10 * i + 10) m) := h8
                  have HD := Cycle_vi w w8 B s x A V _ m h8 (by omega)
                  clear h8 HC
                  go_wp2_with fail
                  refine HD.mono ?_
                  rintro e w9 ⟨⟨v9, rfl⟩, h9⟩
                  have HO6 : Hid (Other w w9 B s x (10 * i + 11) m) := ⟨_, _, h9.be, h9.spc, h9.own, h9.still, h9.txt, h9.vle.mono (by omega), h9.ver, h9.low⟩
                  clear h9 HD
                  go_wp2
                  go_meet
                  exact HO6
        case rest =>
        obtain ⟨A5, V5, h5⟩ := hcut
        have HI5 : Hid (Vi w wc B s x A5 V5 (10 * i + 11) m) := h5
        have HVe : Calls Tryz.prog 13 #[ptr s, .string ⟨#[109, 105, 110, 101]⟩, .int .i64 0] wc fun e w' => e = .returned (.int .u64 m) ∧ Vi w w' B s x A5 V5 (10 * i + 11) m := Version_vi w wc B s x A5 V5 _ m h5 (by omega)
        clear h5
        go_wp2_with fail
        refine HVe.mono ?_
        rintro e w6 ⟨rfl, h6⟩
        have HI6 : Hid (Vi w w6 B s x A5 V5 (10 * i + 11) m) := h6
        have hkb : w6.cell? ⟨b, off + i * 6 + 2, none⟩ = some (.int .i64 kb) := HK2.out w6 h6.be
        clear h6 HVe
        by_cases h3 : kb.tmod 3 = 0
        · have h3b : (kb.tmod 3 == 0) = true := by simpa using h3
          have HT : Calls Tryz.prog 32 #[ptr s, .string ⟨#[109, 105, 110, 101]⟩, .int .i64 0] w6 fun e w' => e = .returned (.tuple #[]) ∧ Vi w w' B s x A5 (chgV A5 V5 mine) (10 * i + 11 + 1) (chgV A5 V5 mine mine) := Touch_vi w w6 B s x A5 V5 _ m HI6.out (by omega) mine mine_in
          go_wp2_with fail
          refine HT.mono ?_
          rintro e w7 ⟨rfl, h7⟩
          have hm1 : chgV A5 V5 mine mine = m + 1 := by
            obtain ⟨p, hp⟩ := HI6.out.own
            unfold chgV
            rw [hp, ← HI6.out.ver]
            show incV V5 mine mine = V5 mine + 1
            exact incV_at _ _
          rw [hm1] at h7
          have HI7 : Hid (Vi w w7 B s x A5 (chgV A5 V5 mine) (10 * i + 12) (m + 1)) := ⟨h7.be, h7.spc, h7.own, h7.still, h7.txt, h7.vle.mono (by omega), h7.ver, h7.low⟩
          have HVe : Calls Tryz.prog 13 #[ptr s, .string ⟨#[109, 105, 110, 101]⟩, .int .i64 0] w7 fun e w' => e = .returned (.int .u64 (m + 1)) ∧ Vi w w' B s x A5 (chgV A5 V5 mine) (10 * i + 12) (m + 1) := Version_vi w w7 B s x _ _ _ _ HI7.out (by omega)
          clear h7 hm1 HT
          go_wp2_with fail
          refine HVe.mono ?_
          rintro e w8 ⟨rfl, h8⟩
          have HI8 : Hid (Vi w w8 B s x A5 (chgV A5 V5 mine) (10 * i + 12) (m + 1)) := h8
          have HVf : Calls Tryz.prog 13 #[ptr s, .string ⟨#[109, 105, 110, 101]⟩, .int .i64 0] w8 fun e w' => e = .returned (.int .u64 (m + 1)) ∧ Vi w w' B s x A5 (chgV A5 V5 mine) (10 * i + 12) (m + 1) := Version_vi w w8 B s x _ _ _ _ HI8.out (by omega)
          have hle : decide (m + 1 ≤ m) = false := decide_eq_false (by omega)
          have hlt : ¬ m + 1 ≤ m := by omega
          clear h8 HVe
          go_wp2_with fail
          refine HVf.mono ?_
          rintro e w9 ⟨rfl, h9⟩
          have HI9 : Hid (Vi w w9 B s x A5 (chgV A5 V5 mine) (10 * (i + 1 : Nat) + 10) (m + 1)) := ⟨h9.be, h9.spc, h9.own, h9.still, h9.txt, h9.vle.mono (by omega), h9.ver, h9.low⟩
          clear h9 HVf hle hlt
          go_wp2
          go_roundg (gk - 1)
          case measure => omega
          case rel => exact ⟨i + 1, m + 1, _, _, rfl, by go_num, by omega, by omega, HI9⟩
        · have h3b : (kb.tmod 3 == 0) = false := by simpa using h3
          have HI9 : Hid (Vi w w6 B s x A5 V5 (10 * (i + 1 : Nat) + 10) m) := by
            have h9 := HI6.out
            exact ⟨h9.be, h9.spc, h9.own, h9.still, h9.txt, h9.vle.mono (by omega), h9.ver, h9.low⟩
          go_wp2
          go_roundg (gk - 1)
          case measure => omega
          case rel => exact ⟨i + 1, m, _, _, rfl, by go_num, by omega, by omega, HI9⟩
      · have h2d : decide (i < 30) = false := decide_eq_false (by omega)
        have h1d : decide (i < n) = true := decide_eq_true (by omega)
        have HG : Calls Tryz.prog 17 #[ptr s, .string ⟨#[109, 105, 110, 101]⟩, .int .i64 0] wr fun e w' => (∃ p, e = .returned (ptr p)) ∧ Vi w w' B s x A V (10 * i + 10) m := Get_vi w wr B s x A V _ m HI.out (by omega)
        go_wp2_with fail
        refine HG.mono ?_
        rintro e w6 ⟨⟨p6, rfl⟩, h6⟩
        have HI6 : Hid (Below w.heap.size w w6) := h6.be
        have hn6 := neqV_nil w6 p6
        clear h6 HG
        go_wp2_with fail
        refine (known_any w6).mono ?_
        rintro e w7 ⟨rfl, hb7⟩
        have HB7 := step_below HI6 hb7
        clear hb7
        go_wp2
        go_ret
        exact ⟨rfl, HB7.out⟩
    · have h1d : decide (i < n) = false := decide_eq_false (by omega)
      have HG : Calls Tryz.prog 17 #[ptr s, .string ⟨#[109, 105, 110, 101]⟩, .int .i64 0] wr fun e w' => (∃ p, e = .returned (ptr p)) ∧ Vi w w' B s x A V (10 * i + 10) m := Get_vi w wr B s x A V _ m HI.out (by omega)
      go_wp2_with fail
      refine HG.mono ?_
      rintro e w6 ⟨⟨p6, rfl⟩, h6⟩
      have HI6 : Hid (Below w.heap.size w w6) := h6.be
      have hn6 := neqV_nil w6 p6
      clear h6 HG
      go_wp2_with fail
      refine (known_any w6).mono ?_
      rintro e w7 ⟨rfl, hb7⟩
      have HB7 := step_below HI6 hb7
      clear hb7
      go_wp2
      go_ret
      exact ⟨rfl, HB7.out⟩
end Go.Proofs.YtmjeljldmmkcpaaGreat.Sq
