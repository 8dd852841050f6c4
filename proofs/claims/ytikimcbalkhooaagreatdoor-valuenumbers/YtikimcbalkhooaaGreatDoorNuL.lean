/-
  ValueNumbers, walked.
-/
import Derived.Test.YtikimcbalkhooaaGreatDoorNu
namespace Go.Proofs.YtikimcbalkhooaaGreatDoor
open Go.RowKit Go.PlainAid

set_option maxRecDepth 100000 in
theorem New_t (x : Nat) (e t : Int) (w : World) :
    Calls Tryz.prog 12 #[.int .i64 1, .int .u64 x, .agg #[.int .i64 e, .int .i64 t]] w fun en w' => Below w.heap.size w w' ∧ ∃ v F, en = .returned (ptr v) ∧ PV w' w.heap.size v (.txt ⟨#[]⟩) true F := by
  obtain ⟨w0, hw0⟩ : ∃ w0, w.alloc (.cells #[.int .i64 e, .int .i64 t] 39) = w0 := ⟨_, rfl⟩
  have HB0 : Hid (Below w.heap.size w w0) := by rw [← hw0]; exact alloc_below w _
  have HN := OfText_any ⟨#[]⟩ w0
  go_enter Tryz.func12, Tryz.ntmps12
  go_wp2_with fail
  refine HN.mono ?_
  rintro en w1 ⟨hb, v, rfl, hV⟩
  have HB1 := step_below HB0 hb
  have HV : Hid (PV w1 w.heap.size v (.txt ⟨#[]⟩) true []) := by
    obtain ⟨h1, h2, h3⟩ := hV
    exact ⟨h1, Nat.le_trans HB0.out.size h2, Nat.le_trans HB0.out.size h3⟩
  clear hb hV HN
  go_wp2
  go_ret
  exact ⟨HB1.out, v, [], rfl, HV.out⟩
theorem New_k (k : Nat) (h1 : 1 ≤ k) (h4 : k ≤ 4) (w : World) :
    Calls Tryz.prog 12 #[.int .i64 (k : Nat), .int .u64 1, .agg #[.int .i64 3, .int .i64 3]] w fun en w' => Below w.heap.size w w' ∧ ∃ v F d, en = .returned (ptr v) ∧ PV w' w.heap.size v d true F ∧ d.kind = k ∧ d.emp = ((k : Int) != 1) := by
  have hk : k = 1 ∨ k = 2 ∨ k = 3 ∨ k = 4 := by omega
  rcases hk with rfl | rfl | rfl | rfl
  · exact (New_t 1 3 3 w).mono fun _ _ ⟨hb, v, F, he, hP⟩ => ⟨hb, v, F, _, he, hP, rfl, rfl⟩
  · exact (New_h 1 3 3 w (by decide)).mono fun _ _ ⟨hb, v, F, he, hP⟩ => ⟨hb, v, F, _, he, hP, rfl, rfl⟩
  · exact (New_s 1 3 3 w (by decide)).mono fun _ _ ⟨hb, v, F, he, hP⟩ => ⟨hb, v, F, _, he, hP, rfl, rfl⟩
  · exact (New_l 1 3 3 w).mono fun _ _ ⟨hb, v, F, he, hP⟩ => ⟨hb, v, F, _, he, hP, rfl, rfl⟩
def nAt (j : Nat) : Nat := [0, 1, 43, 44, 45, 100].getD j 0
theorem nAt_le (j : Nat) (h : j < 6) : nAt j ≤ 100 := by
  have : ∀ j : Fin 6, nAt j.1 ≤ 100 := by decide
  exact this ⟨j, h⟩

set_option maxRecDepth 100000 in
set_option maxHeartbeats 8000000 in
theorem numbers_v (w : World) (hg : Laid w) : Calls Tryz.prog 3 #[] w fun e w' => e = .returned (.bool true) ∧ Below w.heap.size w w' := by
  have HG : Hid (Laid w) := hg
  have hpos := lt_of_cell? hg
  clear hg
  go_enter Tryz.func3, Tryz.ntmps3
  go_wp2_with (first
    | (go_at_call 4; refine (LenV_nil _).mono ?_; rintro e w ⟨rfl, rfl⟩)
    | (go_at_call 5; refine (Empty_nil _).mono ?_; rintro e w ⟨rfl, rfl⟩)
    | (go_at_call 6; refine (Copy_nil _).mono ?_; rintro e w ⟨rfl, rfl⟩)
    | (go_at_call 7; refine (Is_nil _ _).mono ?_; rintro e w ⟨rfl, rfl⟩)
    | (go_at_call 8; refine (Encoding_nil _).mono ?_; rintro e w ⟨rfl, rfl⟩)
    | (go_at_call 9; refine (Type_nil _).mono ?_; rintro e w ⟨rfl, rfl⟩))
  go_loopg [39] 6 (fun g i wr => ∃ k : Nat, k + g = 6 ∧ i = .int .i64 k ∧ Hid (Below w.heap.size w wr ∧ w.heap.size < wr.heap.size ∧ ∀ j, j < 6 → wr.cell? ⟨w.heap.size, j, none⟩ = some (.int .i64 (nAt j))))
  case atStart =>
    refine ⟨0, rfl, rfl, (Below.refl _ _).alloc (Nat.le_refl _) _, by simp, fun j hj => ?_⟩
    match j, hj with
    | 0, _ => simp; rfl
    | 1, _ => simp; rfl
    | 2, _ => simp; rfl
    | 3, _ => simp; rfl
    | 4, _ => simp; rfl
    | 5, _ => simp; rfl
  case round =>
    obtain ⟨k, hk, rfl, H⟩ := hrel
    by_cases hk6 : k < 6
    · have hcell := H.out.2.2 k hk6
      have hq := nAt_le k hk6
      generalize nAt k = q at hcell hq
      obtain ⟨hmk, htx⟩ := make_zs wr q (by omega)
      have hbz : Below wr.heap.size wr (wr.alloc (.cells (madeCells #[.int .u8 0] q) 5)) := alloc_below wr _
      obtain ⟨wz, hwz⟩ : ∃ wz, wr.alloc (.cells (madeCells #[.int .u8 0] q) 5) = wz := ⟨_, rfl⟩
      rw [hwz] at hmk htx hbz
      obtain ⟨V, hV⟩ : ∃ V, zs q = V := ⟨_, rfl⟩
      rw [hV] at htx
      have HSv : Hid (V.size ≤ 100) := by show _ ≤ _; rw [← hV, zs_size]; exact hq
      clear hV hwz
      obtain ⟨wv, hwv⟩ : ∃ wv, wz.alloc (.cells #[.int .i64 1, .string V, .slice none 0 0, .slice none 0 0] 35) = wv := ⟨_, rfl⟩
      have hbv : Below wz.heap.size wz wv := by rw [← hwv]; exact alloc_below wz _
      have hlv : wz.heap.size < wv.heap.size := by rw [← hwv]; exact alloc_lt wz _ _
      have HBv : Hid (Below wr.heap.size wr wv) := hbz.trans (hbv.mono hbz.size)
      have HCV : Hid (∀ wx, Below wv.heap.size wv wx → wx.cell? ⟨wz.heap.size, 0, none⟩ = some (.int .i64 1) ∧ wx.cell? ⟨wz.heap.size, 1, none⟩ = some (.string V) ∧ wx.cell? ⟨wz.heap.size, 2, none⟩ = some (.slice none 0 0) ∧ wx.cell? ⟨wz.heap.size, 3, none⟩ = some (.slice none 0 0)) := fun wx hx => by
        have hz : ∀ i u, (#[.int .i64 1, .string V, .slice none 0 0, .slice none 0 0] : Array Value)[i]? = some u → wx.cell? ⟨wz.heap.size, i, none⟩ = some u := fun i u hu => by
          rw [hx.cell (p := ⟨wz.heap.size, i, none⟩) hlv, ← hwv]; exact cell_new wz _ _ i _ hu
        exact ⟨hz 0 _ rfl, hz 1 _ rfl, hz 2 _ rfl, hz 3 _ rfl⟩
      have HM := made_txt 1 0 0 V wv
      rw [← hwv] at HM
      have HWv : Hid (wz.alloc (.cells #[.int .i64 1, .string V, .slice none 0 0, .slice none 0 0] 35) = wv) := hwv
      clear hbv hlv hbz hwv
      go_wp2_with fail
      refine HM.mono ?_
      rintro en w4 ⟨hb, v, F, one, rfl, hP⟩
      rw [HWv.out] at hb hP
      have HB4 := step_below HBv hb
      have HT := tells_t _ v one F V 0 0 w4 hP HSv.out
      obtain ⟨e0, e1, e2, e3⟩ := HCV.out w4 hb
      clear hb hP HM
      go_wp2_with fail
      refine HT.mono ?_
      rintro en w5 ⟨rfl, hb⟩
      have HB5 := step_below HB4 hb
      clear hb HT e0 e1 e2 e3
      go_wp2
      go_roundg (gk - 1)
      case measure => omega
      case rel =>
        refine ⟨k + 1, by omega, by go_num, H.out.1.trans (HB5.out.mono H.out.1.size), Nat.lt_of_lt_of_le H.out.2.1 HB5.out.size, fun j hj => ?_⟩
        rw [HB5.out.cell (p := ⟨w.heap.size, j, none⟩) H.out.2.1]; exact H.out.2.2 j hj
    · have HB0 : Hid (Below w.heap.size w wr) := H.out.1
      obtain ⟨wa, hwa⟩ : ∃ wa, wa = wr := ⟨_, rfl⟩
      subst hwa
      clear H hk
      go_wp2
      go_loopg [6] 4 (fun g kv wr => ∃ k : Nat, k + g = 5 ∧ 1 ≤ k ∧ kv = .int .i64 k ∧ Hid (Below w.heap.size w wr))
      case atStart => exact ⟨1, rfl, Nat.le_refl _, rfl, HB0⟩
      case round =>
        obtain ⟨n, hn, hn1, rfl, HB⟩ := hrel
        obtain ⟨wb, hwb⟩ : ∃ wb, wb = wr := ⟨_, rfl⟩
        subst hwb
        obtain ⟨gb, hgb⟩ : ∃ gb, gb = gk := ⟨_, rfl⟩
        subst hgb
        by_cases hn4 : n ≤ 4
        · have HN := New_k n hn1 hn4 wb
          go_wp2_with fail
          refine HN.mono ?_
          rintro en w1 ⟨hb, v, F, d, rfl, hP, hd, hem⟩
          have HB1 := step_below HB hb
          have HE := EmptyV w1 _ v d true F hP
          have HP1 : Hid (PV w1 wb.heap.size v d true F) := hP
          have hck := hP.ck
          rw [hd] at hck
          rw [hem] at HE
          obtain ⟨E, hE⟩ : ∃ E : Bool, ((n : Int) != 1) = E := ⟨_, rfl⟩
          rw [hE] at HE
          have hnn : ((n : Int) != n) = false := by simp
          have hEE : (E != E) = false := by simp
          clear hb hP HN hem
          go_wp2_with fail
          refine HE.mono ?_
          rintro en w2 ⟨rfl, hb⟩
          have HB2 := step_below HB1 hb
          have HP2 : Hid (PV w2 wb.heap.size v d true F) := HP1.out.keep hb
          have HI := Is_same w2 _ v d true F HP2.out
          rw [hd] at HI
          clear hb HP1 HB1 HE hck
          go_wp2_with fail
          refine HI.mono ?_
          rintro en w2 ⟨rfl, rfl⟩
          clear HI
          go_wp2
          go_loopg [8] 6 (fun g jv wr => ∃ j : Nat, j + g = 6 ∧ jv = .int .i64 j ∧ Hid (Below w.heap.size w wr) ∧ Hid (PV wr wb.heap.size v d true F))
          case atStart => exact ⟨0, rfl, rfl, HB2, HP2⟩
          case round =>
            obtain ⟨j, hj, rfl, HBj, HPj⟩ := hrel
            by_cases hj6 : j < 6
            · by_cases hjn : j = n
              · subst hjn
                go_wp2
                go_roundg (gk - 1)
                case measure => omega
                case rel => exact ⟨j + 1, by omega, by go_num, HBj, HPj⟩
              · have hne : ((j : Int) != n) = true := by simp; omega
                have HI := Is_other wr _ v d true F HPj.out j (by rw [hd]; omega)
                have HC := Code_other wr (HG.out.keep HBj.out hpos)
                go_wp2_with fail
                refine HI.mono ?_
                rintro en w3 ⟨rfl, rfl⟩
                go_wp2_with fail
                refine HC.mono ?_
                rintro en w4 ⟨rfl, hb⟩
                have HB4 := step_below HBj hb
                have HP4 : Hid (PV w4 wb.heap.size v d true F) := HPj.out.keep hb
                clear hb HI HC
                go_wp2
                go_roundg (gk - 1)
                case measure => omega
                case rel => exact ⟨j + 1, by omega, by go_num, HB4, HP4⟩
            · go_wp2
              go_roundg (gb - 1)
              case measure => omega
              case rel => exact ⟨n + 1, by omega, by omega, by go_num, HBj⟩
        · have HN := New_none 1 0 0 wb 0 (Or.inl rfl)
          go_wp2_with fail
          refine HN.mono ?_
          rintro en w1 ⟨rfl, hb⟩
          have HB1 := step_below HB hb
          clear hb HN
          go_wp2_with fail
          refine (OfText_any _ _).mono ?_
          rintro en w2 ⟨hb, v, rfl, hV⟩
          have HB2 := step_below HB1 hb
          have HI := Is_other w2 _ v _ true [] hV 3 (by decide)
          have HC := Cmd_other w2 (HG.out.keep HB2.out hpos)
          clear hb hV
          go_wp2_with fail
          refine HI.mono ?_
          rintro en w3 ⟨rfl, rfl⟩
          go_wp2_with fail
          refine HC.mono ?_
          rintro en w4 ⟨rfl, hb⟩
          have HB4 := step_below HB2 hb
          clear hb HI HC
          go_wp2_with fail
          refine (known_v _).mono ?_
          rintro en w5 ⟨rfl, hb⟩
          have HB5 := step_below HB4 hb
          clear hb
          go_wp2
          go_ret
          exact ⟨rfl, HB5.out⟩
end Go.Proofs.YtikimcbalkhooaaGreatDoor
