/-
  Some of chapter 12's runs; what goes in at one end comes out at the other; what is left of a trim.
-/
import Derived.Test.YtemiajjjhhofaabQabs
namespace Go.Proofs.Ytemiajjjhhofaab
open Go.RowKit Go.PlainAid

def tA : ByteArray := ⟨#[97]⟩
def tB : ByteArray := ⟨#[98]⟩
theorem fit_ab : Fit [tA, tB] := by
  intro s hs
  rcases List.mem_cons.1 hs with rfl | hs
  · decide
  · rw [List.mem_singleton.1 hs]; decide
theorem notnil (w : World) (l : Nat) : (binOp .eql 34 (ptr l) (.pointer none)).run Try.prog w = .ok (.bool false) w := by
  rw [run_eql_pointer_nil w 34 (some ⟨l, 0, none⟩) (by rw [Try.underlying34]; kernel_rfl)]; rfl

set_option maxRecDepth 100000 in
set_option maxHeartbeats 400000 in
theorem knownQ_any (w : World) : Calls Try.prog 22 #[] w fun e w' => Below w.heap.size w w' ∧ e = .returned (.bool true) := by
  have HN := QNew 2 w 2 (by decide) (by decide)
  go_enter Try.func22, Try.ntmps22
  go_wp2_with fail
  refine HN.mono ?_
  rintro e w1 ⟨hb, l, F, rfl, hQ⟩
  have HB : Hid (Below w.heap.size w w1) := hb
  have hA := alloc_below w1 (.cells #[.string ⟨#[97]⟩, .string ⟨#[98]⟩] 9)
  have hO := OwnS.made w1 [tA, tB] w1.heap.size 2 rfl (Nat.le_refl _) (by decide) #[.string ⟨#[97]⟩, .string ⟨#[98]⟩] rfl
  have hQ1 := hQ.keep hA
  have HLf := QLeft _ w.heap.size l 2 [] F hQ1 (some ⟨w1.heap.size, 0, none⟩) 2 2 [tA, tB] (hQ1.rdf hO) fit_ab (by decide)
  have HQ1 : Hid (QL (w1.alloc (.cells #[.string ⟨#[97]⟩, .string ⟨#[98]⟩] 9)) w.heap.size l 2 [] F) := hQ1
  have HB1 : Hid (Below w.heap.size w (w1.alloc (.cells #[.string ⟨#[97]⟩, .string ⟨#[98]⟩] 9))) := HB.out.trans (hA.mono HB.out.size)
  have hnn := notnil w1 l
  clear hb hQ hA hO hQ1 HN
  go_wp2_with fail
  refine HLf.mono ?_
  rintro e w2 ⟨rfl, F2, hQ2, hL2⟩
  have HB2 : Hid (Below w.heap.size w w2) := HB1.out.trans (QDoes.below HQ1.out hL2)
  have HAl := QAll w2 w.heap.size l 2 _ F2 hQ2 (by decide)
  rw [show [tA, tB].reverse ++ [] = [tB, tA] from rfl] at HAl hQ2
  have HQ2 : Hid (QL w2 w.heap.size l 2 [tB, tA] F2) := hQ2
  clear hQ2 hL2 HLf
  go_wp2_with fail
  refine HAl.mono ?_
  rintro e w3 ⟨hb, a3, n3, c3, rfl, hO3⟩
  have HB3 := step_below HB2 hb
  have hA3 := alloc_below w3 (.cells #[.string ⟨#[98]⟩, .string ⟨#[97]⟩] 9)
  have hO4 := OwnS.made w3 [tB, tA] w3.heap.size 2 rfl (Nat.le_refl _) (by decide) #[.string ⟨#[98]⟩, .string ⟨#[97]⟩] rfl
  have HLs := Lists_of _ a3 (some ⟨w3.heap.size, 0, none⟩) n3 c3 2 2 [tB, tA] (hO3.keep hA3).rd hO4.rd
  have HQ4 : Hid (QL (w3.alloc (.cells #[.string ⟨#[98]⟩, .string ⟨#[97]⟩] 9)) w.heap.size l 2 [tB, tA] F2) := (HQ2.out.keep hb).keep hA3
  have HB4 : Hid (Below w.heap.size w (w3.alloc (.cells #[.string ⟨#[98]⟩, .string ⟨#[97]⟩] 9))) := HB3.out.trans (hA3.mono HB3.out.size)
  clear hb hO3 hA3 hO4 HAl
  go_wp2_with fail
  refine HLs.mono ?_
  rintro e w5 ⟨hb, rfl⟩
  have HB5 := step_below HB4 hb
  have HLe := QLen w5 w.heap.size l 2 [tB, tA] F2 (HQ4.out.keep hb)
  rw [show ([tB, tA] : List ByteArray).length = 2 from rfl] at HLe
  clear hb HLs
  go_wp2_with fail
  refine HLe.mono ?_
  rintro e w5 ⟨rfl, rfl⟩
  go_wp2
  go_ret
  exact ⟨HB5.out, rfl⟩

theorem short_fit {l : List ByteArray} {k : Nat} {m : Int} (h : Short l k m) (hm : m ≤ 4096) : Fit l := fun s hs => by have := h.2 s hs; omega

set_option maxRecDepth 100000 in
set_option maxHeartbeats 400000 in
theorem turns_any (a : Option Addr) (n c : Nat) (ls : List ByteArray) (most : Int) (same : Bool) (w : World) (hR : RdS w a n ls) :
    Calls Try.prog 7 #[.int .i64 most, .slice a n c, .bool same] w fun e w' => e = .returned (.bool true) ∧ Below w.heap.size w w' := by
  have HF := Few_any a n c ls 40 30 w hR (by decide) (by decide)
  have HWi := fun w => Within_any most 1 10 w (by decide) (by decide) (by decide)
  clear hR
  go_enter Try.func7, Try.ntmps7
  go_wp2_with fail
  refine HF.mono ?_
  rintro e w1 ⟨hb, a1, n1, c1, rfl, L, hO1, hSh⟩
  have HB1 : Hid (Below w.heap.size w w1) := hb
  have HO1 : Hid (OwnS w1 w.heap.size a1 n1 c1 L) := hO1
  have HSh : Hid (Short L 40 30) := hSh
  have hn1 : n1 ≤ 40 := by have h1 := hSh.1; have h2 := hO1.len; omega
  clear hb hO1 hSh HF
  go_wp2_with fail
  refine (HWi w1).mono ?_
  rintro e w1 ⟨rfl, z, hz1, hz2, rfl⟩
  obtain ⟨mo, hmo⟩ : ∃ mo : Nat, max z 1 = mo := ⟨z.toNat, by omega⟩
  have HN := QNew z w1 mo hmo (by omega)
  clear HWi hmo hz1 hz2
  go_wp2_with fail
  refine HN.mono ?_
  rintro e w2 ⟨hb, q, F, rfl, hQ⟩
  have HB2 := step_below HB1 hb
  have hQ' := hQ.down HB1.out.size
  have hO2 := HO1.out.keep hb
  have HRi := QRight w2 w.heap.size q mo [] F hQ' a1 n1 c1 L (hQ'.rdf hO2) (short_fit HSh.out (by decide)) (by simp; omega)
  have HQ : Hid (QL w2 w.heap.size q mo [] F) := hQ'
  have HO2 : Hid (OwnS w2 w.heap.size a1 n1 c1 L) := hO2
  have hnn := notnil w2 q
  rw [List.nil_append] at HRi
  clear hb hQ hQ' hO2 HN
  go_wp2_with fail
  refine HRi.mono ?_
  rintro e w3 ⟨rfl, F3, hQ3, hL3⟩
  have HB3 : Hid (Below w.heap.size w w3) := HB2.out.trans (QDoes.below HQ.out hL3)
  have HO3 : Hid (OwnS w3 w.heap.size a1 n1 c1 L) := HQ.out.row HO2.out hL3
  have HLl : Hid (L.length = n1) := HO2.out.len
  clear HRi hL3
  cases same with
  | false =>
    have HQ3 : Hid (∃ F, QL w3 w.heap.size q mo (L.drop 0) F) := ⟨F3, hQ3⟩
    clear hQ3
    go_wp2
    go_loopg [8] n1 (fun g iv wr => ∃ i : Nat, i + g = n1 ∧ iv = .int .i64 i ∧ Hid (∃ F, QL wr w.heap.size q mo (L.drop i) F) ∧ Hid (OwnS wr w.heap.size a1 n1 c1 L) ∧ Hid (Below w.heap.size w wr))
    case atStart => exact ⟨0, by omega, rfl, HQ3, HO3, HB3⟩
    case round =>
      obtain ⟨i, hi, rfl, HQr, HOr, HBr⟩ := hrel
      obtain ⟨Fr, hQr⟩ := HQr.out
      have hll := HLl.out
      have hPo := QPopLeft wr w.heap.size q mo _ Fr hQr (by rw [List.length_drop]; omega)
      have HQq : Hid (QL wr w.heap.size q mo (L.drop i) Fr) := hQr
      by_cases h1 : (i : Int) < n1
      · obtain ⟨b, off, ha, -⟩ := HOr.out.rd.cell i (by omega)
        rw [decide_eq_true (by rw [List.length_drop]; omega)] at hPo
        have htx : txt (L.drop i) 0 = L.getD i ByteArray.empty := by
          unfold txt
          rw [List.getD_eq_getElem?_getD, List.getD_eq_getElem?_getD, List.getElem?_drop, Nat.add_zero]
        rw [htx, List.tail_drop] at hPo
        have hb2 := str_bne (L.getD i ByteArray.empty) (L.getD i ByteArray.empty)
        rw [show decide (¬ L.getD i ByteArray.empty = L.getD i ByteArray.empty) = false by simp] at hb2
        have HCe : Hid (∀ w', OwnS w' w.heap.size a1 n1 c1 L → ∃ b off, a1 = some ⟨b, off, none⟩ ∧ w'.cell? ⟨b, off + i, none⟩ = some (.string (L.getD i ByteArray.empty))) := fun w' hO => hO.rd.cell i (by omega)
        generalize L.getD i ByteArray.empty = s at hPo hb2 HCe
        clear hQr htx ha
        go_wp2_with fail
        refine hPo.mono ?_
        rintro e w4 ⟨rfl, F4, hQ4, hL4⟩
        have HB4 : Hid (Below w.heap.size w w4) := HBr.out.trans (QDoes.below HQq.out hL4)
        have HO4 : Hid (OwnS w4 w.heap.size a1 n1 c1 L) := HQq.out.row HOr.out hL4
        have HQ4 : Hid (∃ F, QL w4 w.heap.size q mo (L.drop (i + 1)) F) := ⟨F4, hQ4⟩
        obtain ⟨b, off, ha, hc⟩ := HCe.out w4 HO4.out
        subst ha
        clear hQ4 hL4 hPo
        go_wp2
        go_roundg (gk - 1)
        case measure => omega
        case rel => exact ⟨i + 1, by omega, by go_num, HQ4, HO4, HB4⟩
      · rw [List.drop_eq_nil_of_le (by omega)] at hPo HQq
        rw [show decide (0 < ([] : List ByteArray).length) = false from rfl] at hPo
        generalize txt [] 0 = s0 at hPo
        clear hQr
        go_wp2_with fail
        refine hPo.mono ?_
        rintro e w4 ⟨rfl, F4, hQ4, hL4⟩
        have HB4 : Hid (Below w.heap.size w w4) := HBr.out.trans (QDoes.below HQq.out hL4)
        rw [List.tail_nil] at hQ4
        have HLe := QLen w4 w.heap.size q mo [] F4 hQ4
        have HNo := QNodes w4 w.heap.size q mo [] F4 hQ4 (by decide)
        rw [show ([] : List ByteArray).length = 0 from rfl] at HLe
        clear hQ4 hL4 hPo
        go_wp2_with fail
        refine HLe.mono ?_
        rintro e w4 ⟨rfl, rfl⟩
        go_wp2_with fail
        refine HNo.mono ?_
        rintro e w5 ⟨hb, a5, n5, c5, ks, rfl, hO5, -, -, hk5⟩
        have HB5 := step_below HB4 hb
        have hn5 : n5 = 0 := by have := hO5.len; simp at hk5; rw [hk5] at this; simpa using this.symm
        subst hn5
        have HK := knownQ_any w5
        clear hb hO5 hk5 HNo HLe
        go_wp2_with fail
        refine HK.mono ?_
        rintro e w6 ⟨hb, rfl⟩
        have HB6 := step_below HB5 hb
        clear hb
        go_wp2
        go_ret
        exact ⟨rfl, HB6.out⟩
  | true =>
    have HQ3 : Hid (∃ F, QL w3 w.heap.size q mo (L.take (n1 - 0)) F) := ⟨F3, by rw [List.take_of_length_le (by have := HLl.out; omega)]; exact hQ3⟩
    clear hQ3
    go_wp2
    go_loopg [8] n1 (fun g iv wr => ∃ i : Nat, i + g = n1 ∧ iv = .int .i64 i ∧ Hid (∃ F, QL wr w.heap.size q mo (L.take (n1 - i)) F) ∧ Hid (OwnS wr w.heap.size a1 n1 c1 L) ∧ Hid (Below w.heap.size w wr))
    case atStart => exact ⟨0, by omega, rfl, HQ3, HO3, HB3⟩
    case round =>
      obtain ⟨i, hi, rfl, HQr, HOr, HBr⟩ := hrel
      obtain ⟨Fr, hQr⟩ := HQr.out
      have hll := HLl.out
      have HQq : Hid (QL wr w.heap.size q mo (L.take (n1 - i)) Fr) := hQr
      by_cases h1 : (i : Int) < n1
      · have hPo := QPopRight wr w.heap.size q mo _ Fr hQr (by rw [List.length_take]; omega)
        have hlt : (L.take (n1 - i)).length = n1 - i := by rw [List.length_take]; omega
        rw [decide_eq_true (by omega), hlt] at hPo
        obtain ⟨j, hj⟩ : ∃ j, n1 - 1 - i = j := ⟨_, rfl⟩
        have hj2 : n1 - i - 1 = j := by omega
        have htx : txt (L.take (n1 - i)) (n1 - i - 1) = L.getD j ByteArray.empty := by
          unfold txt
          rw [hj2, List.getD_eq_getElem?_getD, List.getD_eq_getElem?_getD, List.getElem?_take, if_pos (by omega)]
        rw [htx, List.dropLast_eq_take, hlt, List.take_take, Nat.min_eq_left (by omega), hj2] at hPo
        have hb2 := str_bne (L.getD j ByteArray.empty) (L.getD j ByteArray.empty)
        rw [show decide (¬ L.getD j ByteArray.empty = L.getD j ByteArray.empty) = false by simp] at hb2
        have HCe : Hid (∀ w', OwnS w' w.heap.size a1 n1 c1 L → ∃ b off, a1 = some ⟨b, off, none⟩ ∧ w'.cell? ⟨b, off + j, none⟩ = some (.string (L.getD j ByteArray.empty))) := fun w' hO => hO.rd.cell j (by omega)
        have hji : (n1 : Int) - 1 - (i : Int) = j := by omega
        obtain ⟨n0, hn0⟩ : ∃ n0 : Nat, (n1 : Int) - 1 = n0 := ⟨n1 - 1, by omega⟩
        rw [hn0] at hji
        have hjn : j < n1 := by omega
        have HJ : Hid (n1 - (i + 1) = j) := by show _ = _; omega
        generalize L.getD j ByteArray.empty = s at hPo hb2 HCe
        clear hQr htx hlt hj hj2
        go_wp2_with fail
        refine hPo.mono ?_
        rintro e w4 ⟨rfl, F4, hQ4, hL4⟩
        have HB4 : Hid (Below w.heap.size w w4) := HBr.out.trans (QDoes.below HQq.out hL4)
        have HO4 : Hid (OwnS w4 w.heap.size a1 n1 c1 L) := HQq.out.row HOr.out hL4
        have HQ4 : Hid (∃ F, QL w4 w.heap.size q mo (L.take (n1 - (i + 1))) F) := ⟨F4, by rw [HJ.out]; exact hQ4⟩
        obtain ⟨b, off, ha, hc⟩ := HCe.out w4 HO4.out
        subst ha
        clear hQ4 hL4 hPo
        go_wp2
        go_roundg (gk - 1)
        case measure => omega
        case rel => exact ⟨i + 1, by omega, by go_num, HQ4, HO4, HB4⟩
      · rw [show n1 - i = 0 by omega, List.take_zero] at HQq
        have hPo := QPopLeft wr w.heap.size q mo [] Fr HQq.out (by decide)
        rw [show decide (0 < ([] : List ByteArray).length) = false from rfl] at hPo
        generalize txt [] 0 = s0 at hPo
        clear hQr
        go_wp2_with fail
        refine hPo.mono ?_
        rintro e w4 ⟨rfl, F4, hQ4, hL4⟩
        have HB4 : Hid (Below w.heap.size w w4) := HBr.out.trans (QDoes.below HQq.out hL4)
        rw [List.tail_nil] at hQ4
        have HLe := QLen w4 w.heap.size q mo [] F4 hQ4
        have HNo := QNodes w4 w.heap.size q mo [] F4 hQ4 (by decide)
        rw [show ([] : List ByteArray).length = 0 from rfl] at HLe
        clear hQ4 hL4 hPo
        go_wp2_with fail
        refine HLe.mono ?_
        rintro e w4 ⟨rfl, rfl⟩
        go_wp2_with fail
        refine HNo.mono ?_
        rintro e w5 ⟨hb, a5, n5, c5, ks, rfl, hO5, -, -, hk5⟩
        have HB5 := step_below HB4 hb
        have hn5 : n5 = 0 := by have := hO5.len; simp at hk5; rw [hk5] at this; simpa using this.symm
        subst hn5
        have HK := knownQ_any w5
        clear hb hO5 hk5 HNo HLe
        go_wp2_with fail
        refine HK.mono ?_
        rintro e w6 ⟨hb, rfl⟩
        have HB6 := step_below HB5 hb
        clear hb
        go_wp2
        go_ret
        exact ⟨rfl, HB6.out⟩

theorem spn_all (ts : List ByteArray) : spn ts 0 (-1) = ts := by
  unfold spn
  rw [(sp_all ts.length).1, (sp_all ts.length).2, List.take_length, List.drop_zero]
theorem spn_len (ts : List ByteArray) (a b : Int) : (spn ts a b).length ≤ ts.length := by
  unfold spn
  rw [List.length_drop, List.length_take]; omega

set_option maxRecDepth 100000 in
set_option maxHeartbeats 400000 in
theorem trims_any (a : Option Addr) (n c : Nat) (ls : List ByteArray) (most x y : Int) (w : World) (hR : RdS w a n ls) :
    Calls Try.prog 8 #[.int .i64 most, .slice a n c, .int .i64 x, .int .i64 y] w fun e w' => e = .returned (.bool true) ∧ Below w.heap.size w w' := by
  have HF := Few_any a n c ls 40 9 w hR (by decide) (by decide)
  have HWi := fun w => Within_any most 1 9 w (by decide) (by decide) (by decide)
  have HWx := fun w => Within_any x (-45) 45 w (by decide) (by decide) (by decide)
  have HWy := fun w => Within_any y (-45) 45 w (by decide) (by decide) (by decide)
  clear hR
  go_enter Try.func8, Try.ntmps8
  go_wp2_with fail
  refine HF.mono ?_
  rintro e w1 ⟨hb, a1, n1, c1, rfl, L, hO1, hSh⟩
  have HB1 : Hid (Below w.heap.size w w1) := hb
  have HO1 : Hid (OwnS w1 w.heap.size a1 n1 c1 L) := hO1
  have HSh : Hid (Short L 40 9) := hSh
  have hn1 : n1 ≤ 40 := by have h1 := hSh.1; have h2 := hO1.len; omega
  clear hb hO1 hSh HF
  go_wp2_with fail
  refine (HWi w1).mono ?_
  rintro e w1 ⟨rfl, z, hz1, hz2, rfl⟩
  obtain ⟨mo, hmo⟩ : ∃ mo : Nat, max z 1 = mo := ⟨z.toNat, by omega⟩
  have HN := QNew z w1 mo hmo (by omega)
  clear HWi hmo hz1 hz2
  go_wp2_with fail
  refine HN.mono ?_
  rintro e w2 ⟨hb, q, F, rfl, hQ⟩
  have HB2 := step_below HB1 hb
  have hQ' := hQ.down HB1.out.size
  have hO2 := HO1.out.keep hb
  have HRi := QRight w2 w.heap.size q mo [] F hQ' a1 n1 c1 L (hQ'.rdf hO2) (short_fit HSh.out (by decide)) (by simp; omega)
  have HQ : Hid (QL w2 w.heap.size q mo [] F) := hQ'
  have HLl : Hid (L.length ≤ 40) := by have := hO2.len; show _ ≤ _; omega
  have hnn := notnil w2 q
  rw [List.nil_append] at HRi
  clear hb hQ hQ' hO2 HN
  go_wp2_with fail
  refine HRi.mono ?_
  rintro e w3 ⟨rfl, F3, hQ3, hL3⟩
  have HB3 : Hid (Below w.heap.size w w3) := HB2.out.trans (QDoes.below HQ.out hL3)
  have HQ3 : Hid (QL w3 w.heap.size q mo L F3) := hQ3
  clear HRi hL3 hQ3
  go_wp2_with fail
  refine (HWx w3).mono ?_
  rintro e w3 ⟨rfl, i, hi1, hi2, rfl⟩
  clear HWx
  go_wp2_with fail
  refine (HWy w3).mono ?_
  rintro e w3 ⟨rfl, k, hk1, hk2, rfl⟩
  clear HWy
  have hIi : I64 i := by unfold I64; omega
  have hIk : I64 k := by unfold I64; omega
  have hll := HLl.out
  have HRa := QRange w3 w.heap.size q mo L F3 HQ3.out (by omega) i k hIi hIk
  have HTr := fun w' hb => QTrim w' w.heap.size q mo L F3 (HQ3.out.keep hb) (by omega) i k hIi hIk
  have hsl := spn_len L i k
  generalize spn L i k = P at HRa HTr hsl
  go_wp2_with fail
  refine HRa.mono ?_
  rintro e w4 ⟨hb, a4, n4, c4, rfl, hO4⟩
  have HB4 := step_below HB3 hb
  have HQ4 : Hid (QL w4 w.heap.size q mo L F3) := HQ3.out.keep hb
  have HO4 : Hid (OwnS w4 w3.heap.size a4 n4 c4 P) := hO4
  have HT4 := HTr w4 hb
  clear hb hO4 HRa HTr
  go_wp2_with fail
  refine HT4.mono ?_
  rintro e w5 ⟨rfl, F5, hQ5, hL5⟩
  have HB5 : Hid (Below w.heap.size w w5) := HB4.out.trans (QDoes.below HQ4.out hL5)
  have HO5 : Hid (OwnS w5 w3.heap.size a4 n4 c4 P) := HQ4.out.row HO4.out hL5
  have HQ5 : Hid (QL w5 w.heap.size q mo P F5) := hQ5
  have HPl : Hid (P.length = n4) := HO4.out.len
  have HAl := QAll w5 w.heap.size q mo P F5 hQ5 (by omega)
  clear hQ5 hL5 HT4
  go_wp2_with fail
  refine HAl.mono ?_
  rintro e w6 ⟨hb, a6, n6, c6, rfl, hO6⟩
  have HB6 := step_below HB5 hb
  have HO6 : Hid (OwnS w6 w3.heap.size a4 n4 c4 P) := HO5.out.keep hb
  have HQ6 : Hid (QL w6 w.heap.size q mo P F5) := HQ5.out.keep hb
  have HLs := Lists_of w6 a6 a4 n6 c6 n4 c4 P hO6.rd HO6.out.rd
  clear hb hO6 HAl
  go_wp2_with fail
  refine HLs.mono ?_
  rintro e w7 ⟨hb, rfl⟩
  have HB7 := step_below HB6 hb
  have HO7 : Hid (OwnS w7 w3.heap.size a4 n4 c4 P) := HO6.out.keep hb
  have HQ7 : Hid (QL w7 w.heap.size q mo P F5) := HQ6.out.keep hb
  have HLe := QLen w7 w.heap.size q mo P F5 HQ7.out
  rw [HPl.out] at HLe
  clear hb HLs
  go_wp2_with fail
  refine HLe.mono ?_
  rintro e w7 ⟨rfl, rfl⟩
  have HT7 := QTrim w7 w.heap.size q mo P F5 HQ7.out (by omega) 0 (-1) (by decide) (by decide)
  rw [spn_all] at HT7
  clear HLe
  go_wp2_with fail
  refine HT7.mono ?_
  rintro e w8 ⟨rfl, F8, hQ8, hL8⟩
  have HB8 : Hid (Below w.heap.size w w8) := HB7.out.trans (QDoes.below HQ7.out hL8)
  have HO8 : Hid (OwnS w8 w3.heap.size a4 n4 c4 P) := HQ7.out.row HO7.out hL8
  have HAl := QAll w8 w.heap.size q mo P F8 hQ8 (by omega)
  clear hQ8 hL8 HT7
  go_wp2_with fail
  refine HAl.mono ?_
  rintro e w9 ⟨hb, a9, n9, c9, rfl, hO9⟩
  have HB9 := step_below HB8 hb
  have HLs := Lists_of w9 a9 a4 n9 c9 n4 c4 P hO9.rd (HO8.out.keep hb).rd
  clear hb hO9 HAl
  go_wp2_with fail
  refine HLs.mono ?_
  rintro e w10 ⟨hb, rfl⟩
  have HB10 := step_below HB9 hb
  have HK := knownQ_any w10
  clear hb HLs
  go_wp2_with fail
  refine HK.mono ?_
  rintro e w11 ⟨hb, rfl⟩
  have HB11 := step_below HB10 hb
  clear hb
  go_wp2
  go_ret
  exact ⟨rfl, HB11.out⟩
end Go.Proofs.Ytemiajjjhhofaab
