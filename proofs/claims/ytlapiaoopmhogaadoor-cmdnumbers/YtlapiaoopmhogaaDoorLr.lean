/-
  Small letters, as the document has them.
-/
import Derived.Test.YtlapiaoopmhogaaDoorLw
namespace Go.Proofs.YtlapiaoopmhogaaDoor
open Go.RowKit Go.PlainAid

set_option maxRecDepth 100000 in
set_option maxHeartbeats 4000000 in
theorem rLower_any (s : ByteArray) (w : World) (hs : s.size ≤ maxLen) :
    Calls Tryd.prog 17 #[.string s] w fun e w' => e = .returned (.string (low s)) ∧ Below w.heap.size w w' := by
  obtain ⟨cE, W2, hcv, hB2, hlt, hRow⟩ := conv_row w s hs
  obtain ⟨l, hl⟩ : ∃ l, lst s = l := ⟨_, rfl⟩
  have HE : Hid (low s = bs (l.map lowB)) := by show _ = _; rw [low, hl]
  have HN : Hid (l.length = s.size) := by show _ = _; rw [← hl]; exact len_lst s
  have HB2 : Hid (Below w.heap.size w W2) := hB2
  have HRow : Hid (Row W2 w.heap.size w.heap.size s.size cE (lowTo 0 l)) := by show Row _ _ _ _ _ _; rw [lowTo_zero, ← hl]; exact hRow
  obtain ⟨n, hn⟩ : ∃ n, s.size = n := ⟨_, rfl⟩
  rw [hn] at hcv HN HRow hs
  have hfits : cE ≤ maxLen := hRow.max
  have hfit : n ≤ cE := by rw [← hn]; exact hRow.fit
  have hm : n ≤ 9223372036854775807 := hs
  obtain ⟨gx, hgx⟩ : ∃ g, w.heap.size = g := ⟨_, rfl⟩
  rw [hgx] at hcv HRow
  have HG : Hid (w.heap.size ≤ gx) := by show _ ≤ _; omega
  clear hB2 hlt hRow hl hn hgx hs
  go_enter Tryd.func17, Tryd.ntmps17
  go_wp2
  go_loopg [4] n (fun g iv wr => ∃ k : Nat, iv = .int .i64 k ∧ k + g = n ∧ Hid (Row wr gx gx n cE (lowTo k l)) ∧ Hid (Below w.heap.size w wr))
  case atStart => exact ⟨0, rfl, by omega, HRow, HB2⟩
  case round =>
    obtain ⟨k, rfl, hk, HR, HB⟩ := hrel
    by_cases h1 : (k : Int) < n
    · have hkn : k < n := by omega
      have hcell := HR.out.cell k hkn
      rw [lowTo_at] at hcell
      have hfr := HR.out.free k (by omega)
      have hU : Hid (65 ≤ (l.getD k 0).toNat ∧ (l.getD k 0).toNat ≤ 90 → Row (wr.setCell ⟨gx, k, none⟩ (.int .u8 (((l.getD k 0).toNat : Int) + 32))) gx gx n cE (lowTo (k + 1) l)) := fun hx => by
        rw [lowTo_up k l (by rw [HN.out]; exact hkn)]
        exact HR.out.set k hkn _ _ (lowB_yes _ hx.1 hx.2).symm
      have hS : Hid (¬ (65 ≤ (l.getD k 0).toNat ∧ (l.getD k 0).toNat ≤ 90) → Row wr gx gx n cE (lowTo (k + 1) l)) := fun hx => by
        rw [lowTo_same k l (by rw [HN.out]; exact hkn) (lowB_no _ hx)]
        exact HR.out
      have hx255 := (l.getD k 0).toNat_lt
      obtain ⟨X, hX⟩ : ∃ X, (l.getD k 0).toNat = X := ⟨_, rfl⟩
      rw [hX] at hcell hU hS hx255
      clear hX
      by_cases h65 : (65 : Int) ≤ X
      · by_cases h90 : (X : Int) ≤ 90
        · have hRn := hU.out ⟨by omega, by omega⟩
          have HBn : Hid (Below w.heap.size w (wr.setCell ⟨gx, k, none⟩ (.int .u8 ((X : Int) + 32)))) := HB.out.setCell HG.out _
          have hw2 : IntKind.u8.wrap ((X : Int) + 32) = (X : Int) + 32 := by rw [IntKind.wrap_u8]; omega
          have HRn : Hid (Row (wr.setCell ⟨gx, k, none⟩ (.int .u8 ((X : Int) + 32))) gx gx n cE (lowTo (k + 1) l)) := hRn
          clear hRn hU hS
          go_wp2
          go_roundg (gk - 1)
          case measure => omega
          case rel => exact ⟨k + 1, by go_num, by omega, HRn, HBn⟩
        · have HRn : Hid (Row wr gx gx n cE (lowTo (k + 1) l)) := hS.out (by omega)
          clear hU hS
          go_wp2
          go_roundg (gk - 1)
          case measure => omega
          case rel => exact ⟨k + 1, by go_num, by omega, HRn, HB⟩
      · have HRn : Hid (Row wr gx gx n cE (lowTo (k + 1) l)) := hS.out (by omega)
        clear hU hS
        go_wp2
        go_roundg (gk - 1)
        case measure => omega
        case rel => exact ⟨k + 1, by go_num, by omega, HRn, HB⟩
    · have hk2 : k = n := by omega
      subst hk2
      have hx := HR.out.rd.text
      rw [lowTo_all k l (by rw [HN.out]; omega), ← HE.out] at hx
      go_wp2
      go_ret
      exact ⟨rfl, HB.out⟩
end Go.Proofs.YtlapiaoopmhogaaDoor
