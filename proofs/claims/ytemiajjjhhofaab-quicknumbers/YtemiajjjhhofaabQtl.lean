/-
  The law's tells.
-/
import Derived.Test.YtemiajjjhhofaabQdo2
namespace Go.Proofs.Ytemiajjjhhofaab
open Go.RowKit Go.PlainAid

theorem sum_take (l : List Nat) : ∀ i, (l.take i).sum ≤ l.sum := by
  induction l with
  | nil => intro i; simp
  | cons x r ih =>
    intro i
    cases i with
    | zero => simp
    | succ i => rw [List.take_succ_cons, List.sum_cons, List.sum_cons]; have := ih i; omega
theorem take_snocN (l : List Nat) (i : Nat) (h : i < l.length) : (l.take (i + 1)).sum = (l.take i).sum + l.getD i 0 := by
  rw [List.take_add_one, List.getD_eq_getElem?_getD, List.getElem?_eq_getElem h, List.sum_append]
  show (l.take i).sum + ([l[i]] : List Nat).sum = (l.take i).sum + l[i]
  rw [List.sum_cons, List.sum_nil, Nat.add_zero]

set_option maxRecDepth 100000 in
set_option maxHeartbeats 800000 in
theorem tellsQ_any (w : World) (B l most : Nat) (ts : List ByteArray) (F : List Nat) (hQ : QL w B l most ts F) (a : Option Addr) (n c : Nat) (hR : RdS w a n ts) (hc : ts.length ≤ 900000) :
    Calls Try.prog 19 #[ptr l, .slice a n c, .int .i64 most] w fun e w' => Below w.heap.size w w' ∧ e = .returned (.bool true) := by
  have HQ : Hid (QL w B l most ts F) := hQ
  have HR : Hid (RdS w a n ts) := hR
  have HL : Hid (ts.length = n) := hR.len
  have hn : n ≤ 900000 := by have := hR.len; omega
  have hmo : most ≤ 1000000 := hQ.few
  have HLe := QLen w B l most ts F hQ
  rw [HL.out] at HLe
  have HAl := QAll w B l most ts F hQ (by omega)
  clear hQ hR
  go_enter Try.func19, Try.ntmps19
  go_wp2_with fail
  refine HLe.mono ?_
  rintro e w ⟨rfl, rfl⟩
  go_wp2_with fail
  refine HAl.mono ?_
  rintro e w1 ⟨hb, a2, n2, c2, rfl, hO2⟩
  have HB1 : Hid (Below w.heap.size w w1) := hb
  have HLs := Lists_of w1 a2 a n2 c2 n c ts hO2.rd (HR.out.keep hb)
  have HQ1 : Hid (QL w1 B l most ts F) := HQ.out.keep hb
  clear hb hO2 HAl HLe
  go_wp2_with fail
  refine HLs.mono ?_
  rintro e w2 ⟨hb, rfl⟩
  have HB2 := step_below HB1 hb
  have HNo := QNodes w2 B l most ts F (HQ1.out.keep hb) (by omega)
  clear hb HLs
  go_wp2_with fail
  refine HNo.mono ?_
  rintro e w3 ⟨hb, a3, n3, c3, ks, rfl, hO3, hs, hk, hkl⟩
  have HB3 := step_below HB2 hb
  have HO3 : Hid (OwnI w3 w2.heap.size a3 n3 c3 ks) := hO3
  have HSm : Hid (ks.sum = n) := hs.trans HL.out
  have HKs : Hid (∀ k ∈ ks, 0 < k ∧ k ≤ most) := hk
  have HKl : Hid (ks.length = n3) := hO3.len
  have hn3 : n3 ≤ 900000 := by have := hO3.len; omega
  clear hb hO3 hs hk hkl HNo
  go_wp2
  go_loopg [7, 9] n3 (fun g nv iv wr => ∃ i : Nat, i + g = n3 ∧ iv = .int .i64 i ∧ nv = .int .i64 ((ks.take i).sum : Nat) ∧ wr = w3)
  case atStart => exact ⟨0, by omega, rfl, rfl, rfl⟩
  case round =>
    obtain ⟨i, hi, rfl, rfl, rfl⟩ := hrel
    by_cases h1 : (i : Int) < n3
    · obtain ⟨b, off, ha, hc3⟩ := HO3.out.rd.cell i (by omega)
      subst ha
      have hil : i < ks.length := by have := HKl.out; omega
      have HT : Hid ((ks.take (i + 1)).sum = (ks.take i).sum + ks.getD i 0) := take_snocN ks i hil
      have hkm : 0 < ks.getD i 0 ∧ ks.getD i 0 ≤ most := by
        refine HKs.out _ ?_
        rw [List.getD_eq_getElem?_getD, List.getElem?_eq_getElem hil]; exact List.getElem_mem hil
      have hsm := sum_take ks (i + 1)
      rw [HT.out, HSm.out] at hsm
      obtain ⟨x, hx⟩ : ∃ x, ks.getD i 0 = x := ⟨_, rfl⟩
      obtain ⟨y, hy⟩ : ∃ y, (ks.take i).sum = y := ⟨_, rfl⟩
      rw [hx] at hkm hsm HT hc3
      rw [hy] at hsm HT ⊢
      have hx1 : ¬ ((x : Int) < 1) := by omega
      have hx2 : ¬ ((most : Int) < x) := by omega
      have hxy : (y : Int) + x ≤ 900000 := by omega
      clear hx hy hkm hsm
      go_wp2
      go_roundg (gk - 1)
      case measure => omega
      case rel => exact ⟨i + 1, by omega, by go_num, by rw [HT.out]; go_num, rfl⟩
    · have HE : Hid ((ks.take i).sum = n) := by
        show _ = _
        rw [List.take_of_length_le (by have := HKl.out; omega)]; exact HSm.out
      rw [HE.out]
      go_wp2
      go_ret
      exact ⟨HB3.out, rfl⟩
end Go.Proofs.Ytemiajjjhhofaab
