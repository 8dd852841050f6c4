/-
  The law's tells.
  A slice of calls among the arguments, opened for the walk.
-/
import Derived.Test.YtemiajjjhhofaabQdo2
import Derived.Test.YtemiajjjhhofaabOpen
import Derived.Deep.SlicePairs
namespace Go.Proofs.Ytemiajjjhhofaab
open Go.RowKit Go.PlainAid

theorem sum_take (l : List Nat) : ∀ i, (l.take i).sum ≤ l.sum := by
  induction l with
  | nil => intro i; simp
  | cons x r ih =>
    intro i
    cases i with
    | zero => simp
    | succ i => rw [List.take_succ_cons, List.sum_cons, List.sum_cons]; have := ih i; omega
theorem take_snocN (l : List Nat) (i : Nat) (h : i < l.length) : (l.take (i + 1)).sum = (l.take i).sum + l.getD i 0 := by
  rw [List.take_add_one, List.getD_eq_getElem?_getD, List.getElem?_eq_getElem h, List.sum_append]
  show (l.take i).sum + ([l[i]] : List Nat).sum = (l.take i).sum + l[i]
  rw [List.sum_cons, List.sum_nil, Nat.add_zero]

set_option maxRecDepth 100000 in
set_option maxHeartbeats 800000 in
theorem tellsQ_any (w : World) (B l most : Nat) (ts : List ByteArray) (F : List Nat) (hQ : QL w B l most ts F) (a : Option Addr) (n c : Nat) (hR : RdS w a n ts) (hc : ts.length ≤ 900000) :
    Calls Try.prog 19 #[ptr l, .slice a n c, .int .i64 most] w fun e w' => Below w.heap.size w w' ∧ e = .returned (.bool true) := by
  have HQ : Hid (QL w B l most ts F) := hQ
  have HR : Hid (RdS w a n ts) := hR
  have HL : Hid (ts.length = n) := hR.len
  have hn : n ≤ 900000 := by have := hR.len; omega
  have hmo : most ≤ 1000000 := hQ.few
  have HLe := QLen w B l most ts F hQ
  rw [HL.out] at HLe
  have HAl := QAll w B l most ts F hQ (by omega)
  clear hQ hR
  go_enter Try.func19, Try.ntmps19
  go_wp2_with fail
  refine HLe.mono ?_
  rintro e w ⟨rfl, rfl⟩
  go_wp2_with fail
  refine HAl.mono ?_
  rintro e w1 ⟨hb, a2, n2, c2, rfl, hO2⟩
  have HB1 : Hid (Below w.heap.size w w1) := hb
  have HLs := Lists_of w1 a2 a n2 c2 n c ts hO2.rd (HR.out.keep hb)
  have HQ1 : Hid (QL w1 B l most ts F) := HQ.out.keep hb
  clear hb hO2 HAl HLe
  go_wp2_with fail
  refine HLs.mono ?_
  rintro e w2 ⟨hb, rfl⟩
  have HB2 := step_below HB1 hb
  have HNo := QNodes w2 B l most ts F (HQ1.out.keep hb) (by omega)
  clear hb HLs
  go_wp2_with fail
  refine HNo.mono ?_
  rintro e w3 ⟨hb, a3, n3, c3, ks, rfl, hO3, hs, hk, hkl⟩
  have HB3 := step_below HB2 hb
  have HO3 : Hid (OwnI w3 w2.heap.size a3 n3 c3 ks) := hO3
  have HSm : Hid (ks.sum = n) := hs.trans HL.out
  have HKs : Hid (∀ k ∈ ks, 0 < k ∧ k ≤ most) := hk
  have HKl : Hid (ks.length = n3) := hO3.len
  have hn3 : n3 ≤ 900000 := by have := hO3.len; omega
  clear hb hO3 hs hk hkl HNo
  go_wp2
  go_loopg [7, 9] n3 (fun g nv iv wr => ∃ i : Nat, i + g = n3 ∧ iv = .int .i64 i ∧ nv = .int .i64 ((ks.take i).sum : Nat) ∧ wr = w3)
  case atStart => exact ⟨0, by omega, rfl, rfl, rfl⟩
  case round =>
    obtain ⟨i, hi, rfl, rfl, rfl⟩ := hrel
    by_cases h1 : (i : Int) < n3
    · obtain ⟨b, off, ha, hc3⟩ := HO3.out.rd.cell i (by omega)
      subst ha
      have hil : i < ks.length := by have := HKl.out; omega
      have HT : Hid ((ks.take (i + 1)).sum = (ks.take i).sum + ks.getD i 0) := take_snocN ks i hil
      have hkm : 0 < ks.getD i 0 ∧ ks.getD i 0 ≤ most := by
        refine HKs.out _ ?_
        rw [List.getD_eq_getElem?_getD, List.getElem?_eq_getElem hil]; exact List.getElem_mem hil
      have hsm := sum_take ks (i + 1)
      rw [HT.out, HSm.out] at hsm
      obtain ⟨x, hx⟩ : ∃ x, ks.getD i 0 = x := ⟨_, rfl⟩
      obtain ⟨y, hy⟩ : ∃ y, (ks.take i).sum = y := ⟨_, rfl⟩
      rw [hx] at hkm hsm HT hc3
      rw [hy] at hsm HT ⊢
      have hx1 : ¬ ((x : Int) < 1) := by omega
      have hx2 : ¬ ((most : Int) < x) := by omega
      have hxy : (y : Int) + x ≤ 900000 := by omega
      clear hx hy hkm hsm
      go_wp2
      go_roundg (gk - 1)
      case measure => omega
      case rel => exact ⟨i + 1, by omega, by go_num, by rw [HT.out]; go_num, rfl⟩
    · have HE : Hid ((ks.take i).sum = n) := by
        show _ = _
        rw [List.take_of_length_le (by have := HKl.out; omega)]; exact HSm.out
      rw [HE.out]
      go_wp2
      go_ret
      exact ⟨HB3.out, rfl⟩
end Go.Proofs.Ytemiajjjhhofaab

namespace Go.Proofs.Ytemiajjjhhofaab
open Go.ChangeShapes Go.WideShapes Go.ChangeAt Go.RowKit

/-- A slice that reads n calls. -/
structure RdQ (w : World) (a : Option Addr) (n : Nat) : Prop where
  max : n ≤ maxLen
  elem : ∀ j, j < n → ∃ b off, a = some ⟨b, off, none⟩ ∧ ∃ (kind A B : Int) (S P : ByteArray) (xa : Option Addr) (xn xc : Nat) (af : Bool) (xl : List ByteArray),
    w.cell? ⟨b, off + j * 7, none⟩ = some (.int .i64 kind) ∧ w.cell? ⟨b, off + j * 7 + 1, none⟩ = some (.int .i64 A) ∧ w.cell? ⟨b, off + j * 7 + 2, none⟩ = some (.int .i64 B) ∧ w.cell? ⟨b, off + j * 7 + 3, none⟩ = some (.string S) ∧ w.cell? ⟨b, off + j * 7 + 4, none⟩ = some (.string P) ∧ w.cell? ⟨b, off + j * 7 + 5, none⟩ = some (.slice xa xn xc) ∧ w.cell? ⟨b, off + j * 7 + 6, none⟩ = some (.bool af) ∧
    (-9223372036854775808 ≤ A ∧ A ≤ 9223372036854775807) ∧ (-9223372036854775808 ≤ B ∧ B ≤ 9223372036854775807) ∧ RdS w xa xn xl

theorem Try.cells37 : Try.prog.cellsOf 37 = 7 := by kernel_rfl
theorem Try.cells3 : Try.prog.cellsOf 3 = 1 := by kernel_rfl
theorem Try.cells2 : Try.prog.cellsOf 2 = 1 := by kernel_rfl
theorem Try.cells4 : Try.prog.cellsOf 4 = 1 := by kernel_rfl
theorem Try.cells22 : Try.prog.cellsOf 22 = 1 := by kernel_rfl

theorem strs_of_cells {H : Type} {enc : TypeId × Value → H} {W : World} {v : Value} {x : DataW H × List MemPlace} {fuel : Nat}
    (h : DataW.trod enc Try.prog W 0 (fun _ => true) true fuel 22 [v] = some x) : ∃ a n c ls, v = .slice a n c ∧ RdS W a n ls := by
  obtain ⟨d, p⟩ := x
  have hv : ∃ a n c, v = .slice a n c := by
    rcases open_strings Try.underlying22 Try.underlying9 Try.cells9 h with ⟨hcs, -⟩ | ⟨a', len', cap', ss, hcs, -⟩
    · exact ⟨_, _, _, by simpa using hcs⟩
    · exact ⟨_, _, _, by simpa using hcs⟩
  obtain ⟨a, n, c, rfl⟩ := hv
  obtain ⟨ls, hls⟩ := strs_of_trod (a := a) (len := n) (cap := c) (d := d) (p := p) ⟨fuel, h⟩
  exact ⟨a, n, c, ls, rfl, hls⟩

set_option maxRecDepth 100000 in
theorem asks_of_trod {H : Type} {enc : TypeId × Value → H} {W : World} {a : Option Addr} {len cap : Nat} {d : DataW H} {p : List MemPlace}
    (h : DataW.Trod enc Try.prog W 0 (fun _ => true) true 44 (.slice a len cap) d p) : RdQ W a len := by
  obtain ⟨fuel, hf⟩ := h
  rcases Deep.open_slice Try.underlying44 hf with ⟨hcs, -⟩ | ⟨a', len', cap', m, n, D, Pl, hcs, hb, hl, hm, hmm, hx, hel⟩
  · simp [Value.cells] at hcs
    obtain ⟨rfl, rfl, rfl⟩ := hcs
    exact ⟨Nat.zero_le _, fun j hj => absurd hj (Nat.not_lt_zero _)⟩
  · simp [Value.cells] at hcs
    obtain ⟨rfl, rfl, rfl⟩ := hcs
    rw [if_pos rfl] at hmm
    refine ⟨Nat.le_trans hl hm, fun j hj => ?_⟩
    obtain ⟨cs', h1, h2⟩ := hel j (by omega)
    rw [Try.cells37] at h1
    obtain ⟨_, hlen, hcell⟩ := World.cells?_some h1
    obtain ⟨xs, k, hk, hxy, _, hxl, hff⟩ := DataW.trod_struct Try.underlying37 h2
    match xs, hxl, cs', hlen with
    | [y0, y1, y2, y3, y4, y5, y6], _, [v0, v1, v2, v3, v4, v5, v6], _ =>
      have g0 := hff 0 _ rfl
      have g1 := hff 1 _ rfl
      have g2 := hff 2 _ rfl
      have g3 := hff 3 _ rfl
      have g4 := hff 4 _ rfl
      have g5 := hff 5 _ rfl
      have g6 := hff 6 _ rfl
      simp [Try.cells3, Try.cells2, Try.cells4, Try.cells9, Try.cells22] at g0 g1 g2 g3 g4 g5 g6
      have e0 := hcell 0 (by omega)
      have e1 := hcell 1 (by omega)
      have e2 := hcell 2 (by omega)
      have e3 := hcell 3 (by omega)
      have e4 := hcell 4 (by omega)
      have e5 := hcell 5 (by omega)
      have e6 := hcell 6 (by omega)
      rw [Deep.add_add] at e0 e1 e2 e3 e4 e5 e6
      obtain ⟨z0, hz0, -, -⟩ := DataW.trod_int Try.underlying3 g0
      obtain ⟨z1, hz1, -, hw1⟩ := DataW.trod_int Try.underlying2 g1
      obtain ⟨z2, hz2, -, hw2⟩ := DataW.trod_int Try.underlying2 g2
      obtain ⟨z3, hz3, -, -⟩ := DataW.trod_string Try.underlying9 g3
      obtain ⟨z4, hz4, -, -⟩ := DataW.trod_string Try.underlying9 g4
      obtain ⟨xa, xn, xc, xl, hv5, hX⟩ := strs_of_cells g5
      obtain ⟨z6, hz6, -⟩ := DataW.trod_bool Try.underlying4 g6
      simp at hz0 hz1 hz2 hz3 hz4 hz6
      subst hz0 hz1 hz2 hz3 hz4 hv5 hz6
      obtain ⟨b, off, spot⟩ := a'
      have hspot : spot = none := by
        obtain ⟨cs0, k1, -⟩ := hel 0 (by omega)
        rw [Try.cells37] at k1
        obtain ⟨_, hlen0, hcell0⟩ := World.cells?_some k1
        have f0 := hcell0 0 (by omega)
        rw [List.getElem?_eq_getElem (by omega)] at f0
        simpa [Addr.add] using World.cell?_spot f0
      subst hspot
      have hwb1 : -9223372036854775808 ≤ z1 ∧ z1 ≤ 9223372036854775807 := by simpa [Lit.wf, IntKind.min, IntKind.max, IntKind.bits, IntKind.signed] using hw1
      have hwb2 : -9223372036854775808 ≤ z2 ∧ z2 ≤ 9223372036854775807 := by simpa [Lit.wf, IntKind.min, IntKind.max, IntKind.bits, IntKind.signed] using hw2
      rw [Go.WideShapes.add_plain] at e0 e1 e2 e3 e4 e5 e6
      exact ⟨b, off, rfl, z0, z1, z2, z3, z4, xa, xn, xc, z6, xl, by simpa using e0, by simpa [Nat.add_assoc] using e1, by simpa [Nat.add_assoc] using e2, by simpa [Nat.add_assoc] using e3, by simpa [Nat.add_assoc] using e4, by simpa [Nat.add_assoc] using e5, by simpa [Nat.add_assoc] using e6, hwb1, hwb2, hX⟩
end Go.Proofs.Ytemiajjjhhofaab
