/-
  SpaceRenames: a key that is renamed has what it had.
-/
import Derived.Test.YtmjeljldmmkcpaaGreatG16
namespace Go.Proofs.YtmjeljldmmkcpaaGreat.Sq
open Go.RowKit Go.PlainAid
open Dk (ptr below_drewN alloc_below step_below add_flat OwnR OwnP OwnS Mv pcells Elt elt_of)

/-- A row of numbers that is read alone. -/
structure RdZ (w : World) (a : Option Addr) (n : Nat) (z : Nat → Int) : Prop where
  le : n ≤ maxLen
  cell : ∀ i, i < n → ∃ b off, a = some ⟨b, off, none⟩ ∧ w.cell? ⟨b, off + i, none⟩ = some (.int .i64 (z i))
theorem RdZ.keep {w wn : World} {a : Option Addr} {n : Nat} {z : Nat → Int} (h : RdZ w a n z) (hb : Below w.heap.size w wn) : RdZ wn a n z := by
  refine ⟨h.le, fun i hi => ?_⟩
  obtain ⟨b, off, e, h1⟩ := h.cell i hi
  exact ⟨b, off, e, by rw [hb.cell (p := ⟨b, off + i, none⟩) (World.block_lt_of_cell? _ _ h1)]; exact h1⟩
/-- The name by a digit. -/
def nmD (d : Nat) : ByteArray := (⟨#[107]⟩ : ByteArray) ++ Utf8.encode (48 + (d : Int))
def rNM : List ByteArray := (List.range 10).map nmD
theorem nmD_size (d : Nat) : (nmD d).size ≤ 5 := by
  have := Dk.encode_size (48 + (d : Int))
  unfold nmD
  rw [ByteArray.size_append]
  have h : (⟨#[107]⟩ : ByteArray).size = 1 := rfl
  omega
theorem rNM_names : Names rNM := ⟨by decide, fun k hk => by
  obtain ⟨d, -, rfl⟩ := List.mem_map.1 hk
  have := nmD_size d
  omega⟩
theorem nmD_mem {d : Nat} (h : d < 10) : nmD d ∈ rNM := List.mem_map.2 ⟨d, List.mem_range.2 h, rfl⟩
theorem nmD_zero : nmD 0 = ⟨#[107, 48]⟩ := by decide +kernel
theorem rNM_size {k : ByteArray} (h : k ∈ rNM) : k.size ≤ 5 := by
  obtain ⟨d, -, rfl⟩ := List.mem_map.1 h
  exact nmD_size d
set_option maxRecDepth 100000 in
set_option maxHeartbeats 1600000 in
theorem renames_any (x : Nat) (E T : Int) (a : Option Addr) (n c : Nat) (z : Nat → Int) (u : Int) (w : World) (hx : x < 18446744073709551616) (hZ : RdZ w a n z) :
    Calls Tryz.prog 8 #[.agg #[.int .u64 (x : Nat), .int .i64 E, .int .i64 T], .slice a n c, .int .i64 u] w fun e w' => e = .returned (.bool true) ∧ Below w.heap.size w w' := by
  obtain ⟨w0, hw0⟩ : ∃ w0, w.alloc (.cells #[.int .u64 (x : Nat), .int .i64 E, .int .i64 T] 31) = w0 := ⟨_, rfl⟩
  have hB0 : Below w.heap.size w w0 := by rw [← hw0]; exact alloc_below w _
  have HB0 : Hid (Below w.heap.size w w0) := hB0
  have hblk : w0.heap[w.heap.size]? = some (.cells #[.int .u64 (x : Nat), .int .i64 E, .int .i64 T] 31 (0, 0)) := by rw [← hw0]; exact heap_alloc_new w _
  have c0 : w0.cell? ⟨w.heap.size, 0, none⟩ = some (.int .u64 (x : Nat)) := by simp [World.cell?, hblk]
  have c1 : w0.cell? ⟨w.heap.size, 1, none⟩ = some (.int .i64 E) := by simp [World.cell?, hblk]
  have c2 : w0.cell? ⟨w.heap.size, 2, none⟩ = some (.int .i64 T) := by simp [World.cell?, hblk]
  have HZ : Hid (RdZ w a n z) := hZ
  have hnl := hZ.le
  unfold maxLen at hnl
  have HN := New_any w0 x E T hx
  clear hblk hB0 hZ
  go_enter Tryz.func8, Tryz.ntmps8
  go_wp2_with fail
  refine HN.mono ?_
  rintro e w1 ⟨hb1, s, rfl, -, hs⟩
  obtain ⟨B, hBe⟩ : ∃ B, w0.heap.size = B := ⟨_, rfl⟩
  rw [hBe] at hs
  have HBw : Hid (w.heap.size ≤ B) := by show _ ≤ _; rw [← hBe]; exact HB0.out.size
  have HB1 := step_below HB0 hb1
  have HS1 : Hid (Spc w1 B s x rNM none' (fun _ => 0)) := hs rNM rNM_names
  have hq := eqlS_nil w1 s
  have HO := OfText_t ⟨#[120]⟩ w1
  clear hb1 hs HN c0 c1 c2 hBe
  go_wp2_with fail
  refine HO.mono ?_
  rintro e w2 ⟨hb2, v, rfl, hv⟩
  have HB2 := step_below HB1 hb2
  have HV2 : Hid (Vt w2 v ⟨#[120]⟩) := hv
  have hk0 : (⟨#[107, 48]⟩ : ByteArray) ∈ rNM := by rw [← nmD_zero]; exact nmD_mem (by decide)
  have HP := Put_any w2 B s x rNM none' _ (HS1.out.keep hb2) (Vle.zero.low (by decide)) 0 ⟨#[107, 48]⟩ hk0 (by decide) (some ⟨v, 0, none⟩) (Empty_t w2 v _ hv)
  clear hb2 hv hq HO
  go_wp2_with fail
  refine HP.mono ?_
  rintro e w3 ⟨rfl, hm3, hs3⟩
  have HB3 := Mb.step HB2 hm3 HBw.out
  have HV3 : Hid (Vt w3 v ⟨#[120]⟩) := HV2.out.mb hm3
  rw [none_due] at hs3
  obtain ⟨V3, HS3⟩ : ∃ V3, Hid (Spc w3 B s x rNM (one ⟨#[107, 48]⟩ (some ⟨v, 0, none⟩, none)) V3 ∧ Vle V3 5) := ⟨_, hs3, ((Vle.zero.due _ _).inc _).mono (by decide)⟩
  have HW := Dk.Within_any u 1 1000 w3 (by decide) (by decide) (by decide)
  clear hm3 hs3 HP
  go_wp2_with fail
  refine HW.mono ?_
  rintro e w3 ⟨rfl, et, he1, he2, rfl⟩
  have HE := Expire_any w3 B s x rNM _ V3 HS3.out.1 (HS3.out.2.low (by decide)) et 0 ⟨#[107, 48]⟩ hk0 (by decide)
  rw [(one_none _ _ _).due, one_at] at HE
  clear HW
  go_wp2_with fail
  refine HE.mono ?_
  rintro e w4 ⟨rfl, hm4, hs4⟩
  rw [one_exp (by omega)] at hs4
  have HB4 := Mb.step HB3 hm4 HBw.out
  have HV4 : Hid (Vt w4 v ⟨#[120]⟩) := HV3.out.mb hm4
  obtain ⟨V4, HS4⟩ : ∃ V4, Hid (Spc w4 B s x rNM (one ⟨#[107, 48]⟩ (some ⟨v, 0, none⟩, some et)) V4 ∧ Vle V4 10) := ⟨_, hs4, ((HS3.out.2.due _ _).chg _ _).mono (by decide)⟩
  clear hm4 hs4 HE
  go_wp2
  go_loopg [9, 10] (n + 1) (fun gk kv iv wr => ∃ (i : Nat) (k : ByteArray) (V : ByteArray → Int), kv = .string k ∧ iv = .int .i64 i ∧ i + gk = n + 1 ∧ i ≤ 20 ∧ Hid (k ∈ rNM) ∧ Hid (Below w.heap.size w wr) ∧ Hid (Vt wr v ⟨#[120]⟩) ∧ Hid (Spc wr B s x rNM (one k (some ⟨v, 0, none⟩, some et)) V ∧ Vle V (10 * i + 10)))
  case atStart => exact ⟨0, _, V4, rfl, rfl, by omega, by decide, hk0, HB4, HV4, HS4⟩
  case round =>
    obtain ⟨i, k, V, rfl, rfl, hi, hi2, HK, HB, HV, HS⟩ := hrel
    by_cases h1 : (i : Int) < n
    · by_cases h2 : (i : Int) < 20
      · obtain ⟨b, off, hae, hcell⟩ := (HZ.out.keep HB.out).cell i (by omega)
        subst hae
        have HW := Dk.Within_any (z i) 0 9 wr (by decide) (by decide) (by decide)
        have h1d : decide (i < n) = true := decide_eq_true (by omega)
        have h2d : decide (i < 20) = true := decide_eq_true (by omega)
        go_wp2_with fail
        refine HW.mono ?_
        rintro e wr ⟨rfl, dz, hd1, hd2, rfl⟩
        obtain ⟨d, rfl⟩ : ∃ d : Nat, dz = (d : Nat) := ⟨dz.toNat, by omega⟩
        have HD : Hid (d < 10) := by show _ < _; omega
        obtain ⟨en, hen⟩ : ∃ en, Utf8.encode (48 + (d : Int)) = en := ⟨_, rfl⟩
        have hes : en.size ≤ 4 := by rw [← hen]; exact Dk.encode_size _
        obtain ⟨nx, hnx⟩ : ∃ nx, (⟨#[107]⟩ : ByteArray) ++ en = nx := ⟨_, rfl⟩
        have HNX : Hid (nx ∈ rNM) := by
          have : nx = nmD d := by rw [← hnx, ← hen]; rfl
          rw [this]
          exact nmD_mem HD.out
        have HR := Rename_any wr B s x rNM _ V HS.out.1 (HS.out.2.low (by omega)) 0 k nx HK.out (Nat.le_trans (rNM_size HK.out) (by decide)) HNX.out (Nat.le_trans (rNM_size HNX.out) (by decide))
        rw [(one_still (by omega)).due, one_at] at HR
        clear HW hcell
        go_upto_region 11 with fail
        go_cut [64] from 49 to 64 (fun y wx => y = .bool false ∧ ∃ V5, Hid (Below w.heap.size w wx) ∧ Hid (Vt wx v ⟨#[120]⟩) ∧ Hid (Spc wx B s x rNM (one nx (some ⟨v, 0, none⟩, some et)) V5 ∧ Vle V5 (10 * (i + 1 : Nat) + 10)))
        case first =>
          go_wp2_with fail
          refine HR.mono ?_
          rintro e w5 ⟨rfl, hm5, hs5⟩
          rw [one_ren] at hs5
          have HB5 := Mb.step HB hm5 HBw.out
          have HV5 : Hid (Vt w5 v ⟨#[120]⟩) := HV.out.mb hm5
          obtain ⟨V5, HS5⟩ : ∃ V5, Hid (Spc w5 B s x rNM (one nx (some ⟨v, 0, none⟩, some et)) V5 ∧ Vle V5 (10 * (i + 1 : Nat) + 10)) := ⟨_, hs5, ((HS.out.2.due _ _).ren _ _ _).mono (by omega)⟩
          clear hm5 hs5 HR
          by_cases hnk : nx = k
          · have hq : (nx.toList == k.toList) = true := by rw [Dk.str_beq]; exact decide_eq_true hnk
            clear hnk
            go_wp2
            go_meet
            exact ⟨rfl, V5, HB5, HV5, HS5⟩
          · have hq : (nx.toList == k.toList) = false := by rw [Dk.str_beq]; exact decide_eq_false hnk
            have hst : Still (one nx (some ⟨v, 0, none⟩, some et)) 0 := one_still (by omega)
            have HST : Hid (Still (one nx (some ⟨v, 0, none⟩, some et)) 0) := hst
            have HG := Get_any w5 B s x rNM _ V5 HS5.out.1 (HS5.out.2.low (by omega)) 0 k (Nat.le_trans (rNM_size HK.out) (by decide))
            rw [hst.due, show one nx (some ⟨v, 0, none⟩, some et) k = none from setA_ne _ _ (Ne.symm hnk)] at HG
            replace HG : Calls Tryz.prog 17 #[ptr s, .string k, .int .i64 0] w5 fun e w' => e = .returned (.pointer none) ∧ DueTo w5 w' B s x rNM (one nx (some ⟨v, 0, none⟩, some et)) V5 0 := HG
            clear hnk hst
            go_wp2_with fail
            refine HG.mono ?_
            rintro e w6 ⟨rfl, hd6⟩
            have ht6 := To.keepV HST.out hd6
            have HB6 := Mb.step HB5 ht6.mb HBw.out
            have HV6 : Hid (Vt w6 v ⟨#[120]⟩) := HV5.out.mb ht6.mb
            have HS6 : Hid (Spc w6 B s x rNM (one nx (some ⟨v, 0, none⟩, some et)) V5 ∧ Vle V5 (10 * (i + 1 : Nat) + 10)) := ⟨ht6.spc, HS5.out.2⟩
            clear hd6 ht6 HG
            go_wp2
            go_meet
            exact ⟨rfl, V5, HB6, HV6, HS6⟩
        case rest =>
        obtain ⟨rfl, V5, HB5, HV5, HS5⟩ := hcut
        have hst : Still (one nx (some ⟨v, 0, none⟩, some et)) 0 := one_still (by omega)
        have HST : Hid (Still (one nx (some ⟨v, 0, none⟩, some et)) 0) := hst
        have HG := Get_any wc B s x rNM _ V5 HS5.out.1 (HS5.out.2.low (by omega)) 0 nx (Nat.le_trans (rNM_size HNX.out) (by decide))
        rw [hst.due, one_at] at HG
        replace HG : Calls Tryz.prog 17 #[ptr s, .string nx, .int .i64 0] wc fun e w' => e = .returned (ptr v) ∧ DueTo wc w' B s x rNM (one nx (some ⟨v, 0, none⟩, some et)) V5 0 := HG
        clear hst HR
        go_wp2_with fail
        refine HG.mono ?_
        rintro e w6 ⟨rfl, hd6⟩
        have ht6 := To.keepV HST.out hd6
        have HB6 := Mb.step HB5 ht6.mb HBw.out
        have HV6 : Hid (Vt w6 v ⟨#[120]⟩) := HV5.out.mb ht6.mb
        have HS6 : Hid (Spc w6 B s x rNM (one nx (some ⟨v, 0, none⟩, some et)) V5) := ht6.spc
        have HY := Expiry_any w6 B s x rNM _ V5 HS6.out (HS5.out.2.low (by omega)) 0 nx (Nat.le_trans (rNM_size HNX.out) (by decide))
        rw [HST.out.due, one_at] at HY
        replace HY : Calls Tryz.prog 33 #[ptr s, .string nx, .int .i64 0] w6 fun e w' => e = .returned (.tuple #[.int .i64 et, .bool true]) ∧ DueTo w6 w' B s x rNM (one nx (some ⟨v, 0, none⟩, some et)) V5 0 := HY
        clear hd6 ht6 HG
        go_wp2_with fail
        refine HY.mono ?_
        rintro e w7 ⟨rfl, hd7⟩
        have ht7 := To.keepV HST.out hd7
        have HB7 := Mb.step HB6 ht7.mb HBw.out
        have HV7 : Hid (Vt w7 v ⟨#[120]⟩) := HV6.out.mb ht7.mb
        have HS7 : Hid (Spc w7 B s x rNM (one nx (some ⟨v, 0, none⟩, some et)) V5) := ht7.spc
        have HL := Len_any w7 B s x rNM _ V5 HS7.out (HS5.out.2.low (by omega)) 0
        have hct := HV7.out.ct
        have hn7 := eqlV_nil w7 v
        clear hd7 ht7 HY
        go_wp2_with fail
        refine HL.mono ?_
        rintro e w8 ⟨hd8, hl8⟩
        rw [HST.out.due] at hl8
        have he := hl8.of (one_dom _ _)
        replace he : e = .returned (.int .i64 1) := he
        subst he
        have ht8 := To.keepV HST.out hd8
        have HB8 := Mb.step HB7 ht8.mb HBw.out
        have HV8 : Hid (Vt w8 v ⟨#[120]⟩) := HV7.out.mb ht8.mb
        have HS8 : Hid (Spc w8 B s x rNM (one nx (some ⟨v, 0, none⟩, some et)) V5 ∧ Vle V5 (10 * (i + 1 : Nat) + 10)) := ⟨ht8.spc, HS5.out.2⟩
        clear hd8 ht8 hl8 HL hct hn7
        go_wp2
        go_roundg (gk - 1)
        case measure => omega
        case rel => exact ⟨i + 1, nx, V5, rfl, by go_num, by omega, by omega, HNX, HB8, HV8, HS8⟩
      · have h2d : decide (i < 20) = false := decide_eq_false (by omega)
        have h1d : decide (i < n) = true := decide_eq_true (by omega)
        have HG := Get_any wr B s x rNM _ V HS.out.1 (HS.out.2.low (by omega)) et k (Nat.le_trans (rNM_size HK.out) (by decide))
        rw [one_gone (Int.le_refl _)] at HG
        replace HG : Calls Tryz.prog 17 #[ptr s, .string k, .int .i64 et] wr fun e w' => e = .returned (.pointer none) ∧ DueTo wr w' B s x rNM (one k (some ⟨v, 0, none⟩, some et)) V et := HG
        go_wp2_with fail
        refine HG.mono ?_
        rintro e w5 ⟨rfl, hm5, hs5⟩
        rw [one_gone (Int.le_refl _)] at hs5
        have HB5 := Mb.step HB hm5 HBw.out
        obtain ⟨V5, HS5⟩ : ∃ V5, Hid (Spc w5 B s x rNM none' V5 ∧ Vle V5 500) := ⟨_, hs5, (HS.out.2.due _ _).mono (by omega)⟩
        have HL := Len_any w5 B s x rNM none' V5 HS5.out.1 (HS5.out.2.low (by decide)) et
        clear hm5 hs5 HG
        go_wp2_with fail
        refine HL.mono ?_
        rintro e w6 ⟨hd6, hl6⟩
        rw [none_due] at hl6
        have he := hl6.of none_dom
        replace he : e = .returned (.int .i64 0) := he
        subst he
        have HB6 := Mb.step HB5 hd6.mb HBw.out
        clear hd6 hl6 HL
        go_wp2_with fail
        refine (known_any w6).mono ?_
        rintro e w7 ⟨rfl, hb7⟩
        have HB7 := step_below HB6 hb7
        clear hb7
        go_wp2
        go_ret
        exact ⟨rfl, HB7.out⟩
    · have h1d : decide (i < n) = false := decide_eq_false (by omega)
      have HG := Get_any wr B s x rNM _ V HS.out.1 (HS.out.2.low (by omega)) et k (Nat.le_trans (rNM_size HK.out) (by decide))
      rw [one_gone (Int.le_refl _)] at HG
      replace HG : Calls Tryz.prog 17 #[ptr s, .string k, .int .i64 et] wr fun e w' => e = .returned (.pointer none) ∧ DueTo wr w' B s x rNM (one k (some ⟨v, 0, none⟩, some et)) V et := HG
      go_wp2_with fail
      refine HG.mono ?_
      rintro e w5 ⟨rfl, hm5, hs5⟩
      rw [one_gone (Int.le_refl _)] at hs5
      have HB5 := Mb.step HB hm5 HBw.out
      obtain ⟨V5, HS5⟩ : ∃ V5, Hid (Spc w5 B s x rNM none' V5 ∧ Vle V5 500) := ⟨_, hs5, (HS.out.2.due _ _).mono (by omega)⟩
      have HL := Len_any w5 B s x rNM none' V5 HS5.out.1 (HS5.out.2.low (by decide)) et
      clear hm5 hs5 HG
      go_wp2_with fail
      refine HL.mono ?_
      rintro e w6 ⟨hd6, hl6⟩
      rw [none_due] at hl6
      have he := hl6.of none_dom
      replace he : e = .returned (.int .i64 0) := he
      subst he
      have HB6 := Mb.step HB5 hd6.mb HBw.out
      clear hd6 hl6 HL
      go_wp2_with fail
      refine (known_any w6).mono ?_
      rintro e w7 ⟨rfl, hb7⟩
      have HB7 := step_below HB6 hb7
      clear hb7
      go_wp2
      go_ret
      exact ⟨rfl, HB7.out⟩
end Go.Proofs.YtmjeljldmmkcpaaGreat.Sq
