/-
  The law QuickNumbers.
-/
import Derived.Test.YtemiajjjhhofaabQplay
namespace Go.Proofs.Ytemiajjjhhofaab
open Go.RowKit Go.PlainAid

def tC : ByteArray := ⟨#[99]⟩
theorem made_list (n : Nat) : madeCells #[.int .u8 0] n = (List.replicate n (Value.int .u8 0)).toArray := by
  apply Array.ext
  · simp [madeCells]
  · intro i h1 h2
    simp [madeCells, Nat.mod_one]
theorem box_new (w : World) (vs : Array Value) (t : TypeId) (k : Nat) (hk : k = w.heap.size) : (w.alloc (.cells vs t)).heap[k]? = some (.cells vs t (0, 0)) := by subst hk; exact heap_alloc_new w _
/-- A text of n bytes 0. -/
def zs (n : Nat) : ByteArray := bs (List.replicate n 0)
theorem zs_size (n : Nat) : (zs n).size = n := by
  rw [← len_lst, zs, lst_bs, List.length_replicate]
theorem Own.zeros (w : World) (B n : Nat) (hB : B ≤ w.heap.size) (hm : n ≤ maxLen) : Own (w.alloc (.cells (madeCells #[.int .u8 0] n) 5)) B (some ⟨w.heap.size, 0, none⟩) n n (List.replicate n 0) := by
  have := Own.made w (List.replicate n 0) B n (List.length_replicate ..) hB hm
  rw [show cells (List.replicate n 0) = List.replicate n (.int .u8 0) by rw [cells, List.map_replicate]; rfl, ← made_list] at this
  exact this
theorem make_4097 (wx : World) : (Instr.makeSlice 42 (.int .i64 4097) (.int .i64 4097)).run Try.prog wx = .ok (.slice (some ⟨wx.heap.size, 0, none⟩) 4097 4097) (wx.alloc (.cells (madeCells #[.int .u8 0] 4097) 5)) :=
  run_make_row' (P := Try.prog) (w := wx) 42 5 (.int .u8 0) 1 Try.underlying42 Try.info5 rfl .i64 .i64 4097 (by omega) (by omega)
theorem isnil (w : World) (l : Nat) : (binOp .neq 34 (ptr l) (.pointer none)).run Try.prog w = .ok (.bool true) w := by
  rw [run_neq_pointer_nil w 34 (some ⟨l, 0, none⟩) (by rw [Try.underlying34]; kernel_rfl)]; rfl

set_option maxRecDepth 100000 in
set_option maxHeartbeats 1000000 in
theorem numbersQ_any (w : World) :
    Calls Try.prog 4 #[] w fun e w' => e = .returned (.bool true) ∧ Below w.heap.size w w' := by
  go_enter Try.func4, Try.ntmps4
  go_wp2
  go_loopg [1] 7 (fun g mv wr => ∃ j : Nat, j + g = 7 ∧ mv = .int .i64 ((j : Int) - 1) ∧ Hid (Below w.heap.size w wr))
  case atStart => exact ⟨0, by omega, rfl, Below.refl _ _⟩
  case round =>
    obtain ⟨j, hj, rfl, HB⟩ := hrel
    by_cases h1 : (j : Int) < 7
    · obtain ⟨z, hz⟩ : ∃ z : Int, (j : Int) - 1 = z := ⟨_, rfl⟩
      have HZ : Hid ((j : Int) - 1 = z) := hz
      rw [hz]
      have hz1 : -1 ≤ z := by omega
      have hz2 : z ≤ 5 := by omega
      have hz6 : z < 6 := by omega
      obtain ⟨mo, hmo⟩ : ∃ mo : Nat, max z 1 = mo := ⟨(max z 1).toNat, by omega⟩
      have HN := QNew z wr mo hmo (by omega)
      have HMx : Hid (max (1 : Int) z = (mo : Int)) := by show _ = _; omega
      have HJ : Hid (j + gk = 7) := hj
      clear hmo hz hj h1
      go_wp2_with fail
      refine HN.mono ?_
      rintro e w1 ⟨hb, q, F, rfl, hQ⟩
      have HB1 := step_below HB hb
      have hnn := notnil w1 q
      have HA : Hid (Below w1.heap.size w1 (w1.alloc (.cells #[] 9))) := alloc_below w1 _
      have HQ1 : Hid (QL (w1.alloc (.cells #[] 9)) w.heap.size q mo [] F) := (hQ.keep HA.out).down HB.out.size
      have HR1 : Hid (Row (w1.alloc (.cells #[] 9)) F (some ⟨w1.heap.size, 0, none⟩) 0 0 []) := row_none hQ
      have HB2 := step_below HB1 HA.out
      clear hb hQ HN
      go_wp2
      obtain ⟨wa, hwa⟩ : ∃ wa, wa = wr := ⟨_, rfl⟩
      subst hwa
      obtain ⟨ga, hga⟩ : ∃ ga, ga = gk := ⟨_, rfl⟩
      subst hga
      go_loopg [3, 4, 5] 60 (fun g mv ov iv wr => ∃ (i : Nat) (a' : Option Addr) (n' c' : Nat) (ts : List ByteArray), i + g = 60 ∧ mv = .slice a' n' c' ∧ ov = .bool true ∧ iv = .int .i64 i ∧ Hid (ts.length ≤ 6 * i) ∧ Hid (∃ F, QL wr w.heap.size q mo ts F ∧ Row wr F a' n' c' ts) ∧ Hid (Below w.heap.size w wr))
      case atStart => exact ⟨0, _, _, _, [], by omega, rfl, rfl, rfl, Nat.le_refl _, ⟨F, HQ1.out, HR1.out⟩, HB2⟩
      case round =>
        obtain ⟨i, a', n', c', ts, hi, rfl, rfl, rfl, HTl, HQR, HBr⟩ := hrel
        by_cases h2 : (i : Int) < 60
        · go_upto_region 12 with fail
          go_cut [6] from 21 to 48 (fun v wx => ∃ (X : Nat) (kind A B : Int) (S P : ByteArray) (xa : Option Addr) (xn xc : Nat) (af : Bool) (xl : List ByteArray), v = ptr X ∧ Hid (I64 A) ∧ Hid (I64 B) ∧ Hid (wx.heap[X]? = some (.cells (askC kind A B S P xa xn xc af) 37 (0, 0))) ∧ Hid (RdS wx xa xn xl) ∧ Hid (Below wr.heap.size wr wx))
          case first =>
            have HA : Hid (Below wr.heap.size wr (wr.alloc (.cells #[.string ⟨#[97]⟩, .string ⟨#[98]⟩, .string ⟨#[99]⟩, .string ⟨#[97]⟩] 9))) := alloc_below wr _
            have hO := OwnS.made wr [tA, tB, tC, tA] wr.heap.size 4 rfl (Nat.le_refl _) (by decide) #[.string ⟨#[97]⟩, .string ⟨#[98]⟩, .string ⟨#[99]⟩, .string ⟨#[97]⟩] rfl
            obtain ⟨r5, hr5⟩ : ∃ r : Nat, i % 5 = r := ⟨_, rfl⟩
            have hi5 : (i : Int) % 5 = r5 := by omega
            obtain ⟨a4, c4, s4, hR4⟩ := hO.rl.slice_h r5 (by omega)
            have HR4 : Hid (RdS (wr.alloc (.cells #[.string ⟨#[97]⟩, .string ⟨#[98]⟩, .string ⟨#[99]⟩, .string ⟨#[97]⟩] 9)) a4 r5 ([tA, tB, tC, tA].take r5)) := hR4.rd
            have h4 : (i : Int) % 4 = 0 ∨ (i : Int) % 4 = 1 ∨ (i : Int) % 4 = 2 ∨ (i : Int) % 4 = 3 := by omega
            have h3 : (i : Int) % 3 = 0 ∨ (i : Int) % 3 = 1 ∨ (i : Int) % 3 = 2 := by omega
            clear hr5 hR4 hO
            clear h4 h3
            go_wp2
            go_meet
            exact ⟨wr.heap.size + 1, 1 + (i : Int) * 7 % 9, (i : Int) % 9 - 4, (r5 : Int) - 2, _, _, a4, r5, c4, _, _, rfl, (⟨by omega, by omega⟩ : I64 _), (⟨by omega, by omega⟩ : I64 _), box_new (wr.alloc (.cells #[.string ⟨#[97]⟩, .string ⟨#[98]⟩, .string ⟨#[99]⟩, .string ⟨#[97]⟩] 9)) _ _ _ (by simp), HR4.out.keep (alloc_below _ _), HA.out.trans ((alloc_below _ _).mono HA.out.size)⟩
          case rest =>
          obtain ⟨X, kind, A, B, S, P, xa, xn, xc, af, xl, rfl, HI1, HJ1, HBox, HX, HBx⟩ := hcut
          have x0 := (Bx.of HBox.out).cell 0 _ rfl
          have x1 := (Bx.of HBox.out).cell 1 _ rfl
          have x2 := (Bx.of HBox.out).cell 2 _ rfl
          have x3 := (Bx.of HBox.out).cell 3 _ rfl
          have x4 := (Bx.of HBox.out).cell 4 _ rfl
          have x5 := (Bx.of HBox.out).cell 5 _ rfl
          have x6 := (Bx.of HBox.out).cell 6 _ rfl
          obtain ⟨Fr, hQr, hRr⟩ := HQR.out
          have HBw := step_below HBr HBx.out
          have HD := do_any _ w.heap.size q mo ts Fr (hQr.keep HBx.out) a' n' c' (hRr.keep HBx.out) A B S P xa xn xc af kind xl HX.out HI1.out HJ1.out (by have := HTl.out; omega)
          have HDl : Hid ((doN ts kind A B S P af xl).length ≤ 6 * (i + 1)) := by have h4 := doN_len ts A B S P af kind xl; have h5 := HTl.out; show _ ≤ _; omega
          generalize doN ts kind A B S P af xl = ts2 at HD HDl
          have HBl : Hid (∀ w2, ∀ F2, Left _ w2 Fr F2 → Below w.heap.size w w2) := fun w2 F2 h => HBw.out.trans (QDoes.below (hQr.keep HBx.out) h)
          clear hQr hRr
          go_wp2_with fail
          refine HD.mono ?_
          rintro e w2 ⟨F2, a2, n2, c2, rfl, hQ2, hL2, hR2, -⟩
          have HB2 : Hid (Below w.heap.size w w2) := HBl.out w2 F2 hL2
          have HQR2 : Hid (QL w2 w.heap.size q mo ts2 F2 ∧ Row w2 F2 a2 n2 c2 ts2) := ⟨hQ2, hR2⟩
          have HTe := tellsQ_any w2 w.heap.size q mo ts2 F2 hQ2 a2 n2 c2 hR2.rl.rd (by have := HDl.out; omega)
          clear hQ2 hL2 hR2 HD HBl
          by_cases hzc : (1 : Int) < z
          · have hze : (mo : Int) = z := by have := HMx.out; omega
            rw [hze] at HTe
            clear hze
            go_wp2_with fail
            refine HTe.mono ?_
            rintro e w3 ⟨hb, rfl⟩
            have HB3 := step_below HB2 hb
            have HQR3 : Hid (∃ F, QL w3 w.heap.size q mo ts2 F ∧ Row w3 F a2 n2 c2 ts2) := ⟨F2, HQR2.out.1.keep hb, HQR2.out.2.keep hb⟩
            clear hb HTe
            go_wp2
            go_roundg (gk - 1)
            case measure => omega
            case rel => exact ⟨i + 1, a2, n2, c2, ts2, by omega, rfl, rfl, by go_num, HDl, HQR3, HB3⟩
          · have hze : (mo : Int) = 1 := by have := HMx.out; omega
            rw [hze] at HTe
            clear hze
            go_wp2_with fail
            refine HTe.mono ?_
            rintro e w3 ⟨hb, rfl⟩
            have HB3 := step_below HB2 hb
            have HQR3 : Hid (∃ F, QL w3 w.heap.size q mo ts2 F ∧ Row w3 F a2 n2 c2 ts2) := ⟨F2, HQR2.out.1.keep hb, HQR2.out.2.keep hb⟩
            clear hb HTe
            go_wp2
            go_roundg (gk - 1)
            case measure => omega
            case rel => exact ⟨i + 1, a2, n2, c2, ts2, by omega, rfl, rfl, by go_num, HDl, HQR3, HB3⟩
        · obtain ⟨Fr, hQr, hRr⟩ := HQR.out
          have HD := do_any _ w.heap.size q mo ts Fr hQr a' n' c' hRr 1 (-2) ⟨#[]⟩ ⟨#[]⟩ none 0 0 false 10 [] (RdS.none0 _) ⟨by decide, by decide⟩ ⟨by decide, by decide⟩ (by have := HTl.out; omega)
          have HDl : Hid ((doN ts 10 1 (-2) ⟨#[]⟩ ⟨#[]⟩ false []).length ≤ 6 * (i + 1)) := by have h4 := doN_len ts 1 (-2) ⟨#[]⟩ ⟨#[]⟩ false 10 []; have h5 := HTl.out; show _ ≤ _; omega
          generalize doN ts 10 1 (-2) ⟨#[]⟩ ⟨#[]⟩ false [] = ts2 at HD HDl
          have HBl : Hid (∀ w2, ∀ F2, Left wr w2 Fr F2 → Below w.heap.size w w2) := fun w2 F2 h => HBr.out.trans (QDoes.below hQr h)
          clear hQr hRr
          go_wp2_with fail
          refine HD.mono ?_
          rintro e w2 ⟨F2, a2, n2, c2, rfl, hQ2, hL2, hR2, -⟩
          have HB2 : Hid (Below w.heap.size w w2) := HBl.out w2 F2 hL2
          have HTe := tellsQ_any w2 w.heap.size q mo ts2 F2 hQ2 a2 n2 c2 hR2.rl.rd (by have := HDl.out; omega)
          clear hQ2 hL2 hR2 HD HBl
          by_cases hzc : (1 : Int) < z
          · have hze : (mo : Int) = z := by have := HMx.out; omega
            rw [hze] at HTe
            clear hze
            go_wp2_with fail
            refine HTe.mono ?_
            rintro e w3 ⟨hb, rfl⟩
            have HB3 := step_below HB2 hb
            clear hb HTe
            go_wp2
            go_roundg (ga - 1)
            case measure => have := HJ.out; have := HZ.out; omega
            case rel => exact ⟨j + 1, by have := HJ.out; have := HZ.out; omega, by have := HZ.out; go_num, HB3⟩
          · have hze : (mo : Int) = 1 := by have := HMx.out; omega
            rw [hze] at HTe
            clear hze
            go_wp2_with fail
            refine HTe.mono ?_
            rintro e w3 ⟨hb, rfl⟩
            have HB3 := step_below HB2 hb
            clear hb HTe
            go_wp2
            go_roundg (ga - 1)
            case measure => have := HJ.out; have := HZ.out; omega
            case rel => exact ⟨j + 1, by have := HJ.out; have := HZ.out; omega, by have := HZ.out; go_num, HB3⟩
    · have HN := QNew 3 wr 3 (by decide) (by decide)
      clear hj
      go_wp2_with fail
      refine HN.mono ?_
      rintro e w1 ⟨hb, q, F, rfl, hQ⟩
      have HB1 := step_below HB hb
      have hnn := isnil w1 q
      have hmk := make_4097 w1
      have hA1 := alloc_below w1 (.cells (madeCells #[.int .u8 0] 4097) 5)
      have hT := (Own.zeros w1 w1.heap.size 4097 (Nat.le_refl _) (by decide)).rd.text
      rw [show bs (List.replicate 4097 0) = zs 4097 from rfl] at hT
      have hZs := zs_size 4097
      obtain ⟨Z, hZ⟩ : ∃ Z, zs 4097 = Z := ⟨_, rfl⟩
      rw [hZ] at hT hZs
      obtain ⟨w2, hw2⟩ : ∃ w2, w1.alloc (.cells (madeCells #[.int .u8 0] 4097) 5) = w2 := ⟨_, rfl⟩
      rw [hw2] at hT hmk hA1
      have hA2 := alloc_below w2 (.cells #[.string ⟨#[97]⟩, .string Z] 9)
      have HQ2 : Hid (QL (w2.alloc (.cells #[.string ⟨#[97]⟩, .string Z] 9)) wr.heap.size q 3 [] F) := (hQ.keep hA1).keep hA2
      have HB2 := step_below (step_below HB1 hA1) hA2
      have HRi := QRight_long q (some ⟨w2.heap.size, 0, none⟩) 2 2 [tA, Z] _ (RdS.made w2 [tA, Z] 2 rfl (by decide) #[.string ⟨#[97]⟩, .string Z] rfl) ⟨by show 2 ≤ 6; omega, fun s hs => by
        rcases List.mem_cons.1 hs with rfl | hs
        · decide
        · rw [List.mem_singleton.1 hs, hZs]; decide⟩ (fun hf => by have := hf Z (by simp); omega)
      have HLe := QLen _ wr.heap.size q 3 [] F HQ2.out
      clear hb hQ HN hA1 hA2 hZ hZs hw2
      go_wp2_with fail
      refine HRi.mono ?_
      rintro e w3 ⟨rfl, rfl⟩
      go_wp2_with fail
      refine HLe.mono ?_
      rintro e w3 ⟨rfl, rfl⟩
      rw [show (([] : List ByteArray).length : Int) = 0 from rfl]
      go_wp2_with fail
      refine (knownQ_any _).mono ?_
      rintro e w4 ⟨hb, rfl⟩
      have HB4 := step_below HB2 hb
      clear hb
      go_wp2
      go_ret
      exact ⟨rfl, HB4.out⟩
end Go.Proofs.Ytemiajjjhhofaab
