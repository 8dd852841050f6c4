/- Texts that the others stand on. -/
import Derived.Test.YtnajhjmdpaeelaaGreatDoorG33
namespace Go.Proofs.YtnajhjmdpaeelaaGreatDoor.Tx
open Go.RowKit Go.PlainAid
/-- What stands behind the store. -/
structure Aft (g : Nat) (l : List UInt8) (w1 wx : World) : Prop where
  bk : Bk wx g l
  below : Below g w1 wx
theorem Aft.drew {g : Nat} {l : List UInt8} {w1 wx : World} (h : Aft g l w1 wx) : Aft g l w1 wx.drew := ⟨h.bk, h.below.drew⟩
theorem Aft.drewN {g : Nat} {l : List UInt8} {w1 wx : World} (h : Aft g l w1 wx) : ∀ n, Aft g l w1 (wx.drewN n)
  | 0 => h
  | n + 1 => (h.drewN n).drew
theorem Aft.set {g : Nat} {l : List UInt8} {w1 : World} (h : Bk w1 g l) (q : Nat) (b : UInt8) (x : Int) (hx : x = (b.toNat : Nat)) (n : Nat) : Aft g (l.set q b) w1 ((w1.drewN n).setCell ⟨g, q, none⟩ (.int .u8 x)) := by
  have h0 : Aft g l w1 (w1.drewN n) := Aft.drewN ⟨h, Below.refl _ _⟩ n
  exact ⟨h0.bk.set q b x hx, h0.below.setCell (Nat.le_refl _) _⟩
theorem ofNat_int (n : Nat) (h : n < 256) : (n : Int) = ((UInt8.ofNat n).toNat : Nat) := by
  rw [UInt8.toNat_ofNat']; omega
set_option maxRecDepth 100000 in
set_option maxHeartbeats 4000000 in
theorem SetBit_one (s : ByteArray) (k : Nat) (w : World) (hk : k < 524288) (hs : s.size ≤ 140737488355328) :
    Calls Tryz.prog 114 #[.string s, .int .i64 k, .int .i64 1] w fun e w' => e = .returned (.tuple #[.string (setBitB s k 1), .int .i64 (bitB s k : Nat), .int .i64 0]) ∧ Below w.heap.size w w' := by
  have HBi := fun w => BitQ_any s k w (by unfold I64; omega) (by unfold maxLen; omega)
  have HM := fun w => mask_any k w (by omega)
  have hSB : setBitB s k 1 = bs ((ext (lst s) (k / 8 + 1)).set (k / 8) (UInt8.ofNat (setN (byteAt s (k / 8)) (7 - k % 8) 1))) := rfl
  rw [hSB]
  have hj : 7 - k % 8 < 8 := by omega
  generalize 7 - k % 8 = j at HM hj ⊢
  obtain ⟨q, hq⟩ : ∃ q, k / 8 = q := ⟨_, rfl⟩
  rw [hq]
  have hqz : (k : Int) / 8 = (q : Int) := by omega
  have hq6 : q < 65536 := by omega
  obtain ⟨m, hm⟩ : ∃ m, max s.size (q + 1) = m := ⟨_, rfl⟩
  have HA := fun w => atLeast_any s (q + 1) m w (by omega) (by omega) hs hm
  rw [show (((q + 1 : Nat)) : Int) = (q : Int) + 1 by omega] at HA
  have hle : (ext (lst s) (q + 1)).length = m := by rw [ext_len, len_lst, hm]
  have hc : ∀ w1 g, Bk w1 g (ext (lst s) (q + 1)) → w1.cell? ⟨g, q, none⟩ = some (.int .u8 (byteAt s q : Nat)) := fun w1 g h => by
    rw [h.cell q (by omega), ext_getD]; rfl
  have hO : bits .or .u8 ((byteAt s q : Nat) : Int) ((2 ^ j : Nat) : Int) = (setN (byteAt s q) j 1 : Nat) := u8_or_nat _ _ (byteAt_lt s q) (pow_lt8 j hj).1
  have hlt := setN_lt (byteAt s q) j 1 (byteAt_lt s q) hj
  have hb256 := byteAt_lt s q
  generalize byteAt s q = c at hc hO hlt hb256 ⊢
  generalize setN c j 1 = R at hO hlt ⊢
  obtain ⟨M, hM⟩ : ∃ M : Int, ((2 ^ j : Nat) : Int) = M := ⟨_, rfl⟩
  rw [hM] at hO HM
  have HAft : Hid (∀ w1 g n, Bk w1 g (ext (lst s) (q + 1)) → Aft g ((ext (lst s) (q + 1)).set q (UInt8.ofNat R)) w1 ((w1.drewN n).setCell ⟨g, q, none⟩ (.int .u8 (R : Int)))) := fun w1 g n h => Aft.set h q _ _ (ofNat_int R hlt) n
  have HTX : Hid (∀ wx g, Bk wx g ((ext (lst s) (q + 1)).set q (UInt8.ofNat R)) → (convert 82 9 (.slice (some ⟨g, 0, none⟩) m m)).run Tryz.prog wx = .ok (.string (bs ((ext (lst s) (q + 1)).set q (UInt8.ofNat R)))) wx) := fun wx g h => h.text m (by rw [List.length_set, hle]) (by unfold maxLen; omega)
  have HC : Hid (∀ w1 g, Bk w1 g (ext (lst s) (q + 1)) → w1.cell? ⟨g, q, none⟩ = some (.int .u8 (c : Nat))) := hc
  generalize (ext (lst s) (q + 1)).set q (UInt8.ofNat R) = l2 at HAft HTX ⊢
  have hqm : (q : Int) < m := by omega
  have hqw : IntKind.i64.wrap (q : Int) = q := by rw [IntKind.wrap_i64]; omega
  have hm47 : m ≤ 140737488421000 := by omega
  obtain ⟨K, hK⟩ : ∃ K : Int, (k : Int) = K := ⟨_, rfl⟩
  have hkz : 0 ≤ K ∧ K < 524288 := by omega
  rw [hK] at HBi HM hqz ⊢
  generalize bitB s K = V at HBi ⊢
  have hqt : K.tdiv 8 = (q : Int) := by rw [Int.tdiv_eq_ediv_of_nonneg (by omega)]; exact hqz
  clear hK
  clear hk hM hj hq hm hle hc hlt hSB hq6
  go_enter Tryz.func114, Tryz.ntmps114
  go_wp2_with fail
  refine (HA _).mono ?_
  rintro e w1 ⟨rfl, hb1, hk1⟩
  obtain ⟨g, hg⟩ : ∃ g, w.heap.size = g := ⟨_, rfl⟩
  rw [hg] at hb1 hk1 ⊢
  have HB1 : Hid (Below g w w1) := hb1
  have HK1 : Hid (Bk w1 g (ext (lst s) (q + 1))) := hk1
  have hcell := HC.out w1 g hk1
  have hfz := hk1.frozen q
  clear hb1 hk1 HA
  go_upto_region 5 with fail
  go_cut [] from 31 to 39 (fun wx => Hid (Aft g l2 w1 wx))
  case first =>
    go_region_with (go_at_call 160; refine (HM _).mono ?_; rintro e wx ⟨rfl, rfl⟩)
    all_goals (go_wp2; go_meet; exact HAft.out _ _ _ HK1.out)
  case rest =>
    have hcut' := hcut.out
    have htx := HTX.out wc g hcut'.bk
    have HTQ : Hid (∀ n, Bk (wc.drewN n) g l2) := fun n => (Aft.drewN hcut' n).bk
    have htq : ∀ n, (convert 82 9 (.slice (some ⟨g, 0, none⟩) m m)).run Tryz.prog (wc.drewN n) = .ok (.string (bs l2)) (wc.drewN n) := fun n => HTX.out _ g (HTQ.out n)
    have HBW : Hid (∀ n, Below g w (wc.drewN n)) := fun n => HB1.out.trans (Aft.drewN hcut' n).below
    clear hcut hcut' HAft hcell hfz
    go_wp2
    go_quiet ((go_at_call 112; refine Calls.quiet_of (HBi _)))
    go_wp2
    go_ret3
    exact ⟨rfl, by rw [hg]; exact HBW.out _⟩
set_option maxRecDepth 100000 in
set_option maxHeartbeats 4000000 in
theorem SetBit_zero (s : ByteArray) (k : Nat) (w : World) (hk : k < 524288) (hs : s.size ≤ 140737488355328) :
    Calls Tryz.prog 114 #[.string s, .int .i64 k, .int .i64 0] w fun e w' => e = .returned (.tuple #[.string (setBitB s k 0), .int .i64 (bitB s k : Nat), .int .i64 0]) ∧ Below w.heap.size w w' := by
  have HBi := fun w => BitQ_any s k w (by unfold I64; omega) (by unfold maxLen; omega)
  have HM := fun w => mask_any k w (by omega)
  have hSB : setBitB s k 0 = bs ((ext (lst s) (k / 8 + 1)).set (k / 8) (UInt8.ofNat (setN (byteAt s (k / 8)) (7 - k % 8) 0))) := rfl
  rw [hSB]
  have hj : 7 - k % 8 < 8 := by omega
  generalize 7 - k % 8 = j at HM hj ⊢
  obtain ⟨q, hq⟩ : ∃ q, k / 8 = q := ⟨_, rfl⟩
  rw [hq]
  have hqz : (k : Int) / 8 = (q : Int) := by omega
  have hq6 : q < 65536 := by omega
  obtain ⟨m, hm⟩ : ∃ m, max s.size (q + 1) = m := ⟨_, rfl⟩
  have HA := fun w => atLeast_any s (q + 1) m w (by omega) (by omega) hs hm
  rw [show (((q + 1 : Nat)) : Int) = (q : Int) + 1 by omega] at HA
  have hle : (ext (lst s) (q + 1)).length = m := by rw [ext_len, len_lst, hm]
  have hc : ∀ w1 g, Bk w1 g (ext (lst s) (q + 1)) → w1.cell? ⟨g, q, none⟩ = some (.int .u8 (byteAt s q : Nat)) := fun w1 g h => by
    rw [h.cell q (by omega), ext_getD]; rfl
  have hO : bits .andNot .u8 ((byteAt s q : Nat) : Int) ((2 ^ j : Nat) : Int) = (setN (byteAt s q) j 0 : Nat) := u8_andNot_nat _ _ (byteAt_lt s q) (pow_lt8 j hj).1
  have hlt := setN_lt (byteAt s q) j 0 (byteAt_lt s q) hj
  have hb256 := byteAt_lt s q
  generalize byteAt s q = c at hc hO hlt hb256 ⊢
  generalize setN c j 0 = R at hO hlt ⊢
  obtain ⟨M, hM⟩ : ∃ M : Int, ((2 ^ j : Nat) : Int) = M := ⟨_, rfl⟩
  rw [hM] at hO HM
  have HAft : Hid (∀ w1 g n, Bk w1 g (ext (lst s) (q + 1)) → Aft g ((ext (lst s) (q + 1)).set q (UInt8.ofNat R)) w1 ((w1.drewN n).setCell ⟨g, q, none⟩ (.int .u8 (R : Int)))) := fun w1 g n h => Aft.set h q _ _ (ofNat_int R hlt) n
  have HTX : Hid (∀ wx g, Bk wx g ((ext (lst s) (q + 1)).set q (UInt8.ofNat R)) → (convert 82 9 (.slice (some ⟨g, 0, none⟩) m m)).run Tryz.prog wx = .ok (.string (bs ((ext (lst s) (q + 1)).set q (UInt8.ofNat R)))) wx) := fun wx g h => h.text m (by rw [List.length_set, hle]) (by unfold maxLen; omega)
  have HC : Hid (∀ w1 g, Bk w1 g (ext (lst s) (q + 1)) → w1.cell? ⟨g, q, none⟩ = some (.int .u8 (c : Nat))) := hc
  generalize (ext (lst s) (q + 1)).set q (UInt8.ofNat R) = l2 at HAft HTX ⊢
  have hqm : (q : Int) < m := by omega
  have hqw : IntKind.i64.wrap (q : Int) = q := by rw [IntKind.wrap_i64]; omega
  have hm47 : m ≤ 140737488421000 := by omega
  obtain ⟨K, hK⟩ : ∃ K : Int, (k : Int) = K := ⟨_, rfl⟩
  have hkz : 0 ≤ K ∧ K < 524288 := by omega
  rw [hK] at HBi HM hqz ⊢
  generalize bitB s K = V at HBi ⊢
  have hqt : K.tdiv 8 = (q : Int) := by rw [Int.tdiv_eq_ediv_of_nonneg (by omega)]; exact hqz
  clear hK
  clear hk hM hj hq hm hle hc hlt hSB hq6
  go_enter Tryz.func114, Tryz.ntmps114
  go_wp2_with fail
  refine (HA _).mono ?_
  rintro e w1 ⟨rfl, hb1, hk1⟩
  obtain ⟨g, hg⟩ : ∃ g, w.heap.size = g := ⟨_, rfl⟩
  rw [hg] at hb1 hk1 ⊢
  have HB1 : Hid (Below g w w1) := hb1
  have HK1 : Hid (Bk w1 g (ext (lst s) (q + 1))) := hk1
  have hcell := HC.out w1 g hk1
  have hfz := hk1.frozen q
  clear hb1 hk1 HA
  go_upto_region 6 with fail
  go_cut [] from 40 to 48 (fun wx => Hid (Aft g l2 w1 wx))
  case first =>
    go_region_with (go_at_call 160; refine (HM _).mono ?_; rintro e wx ⟨rfl, rfl⟩)
    all_goals (go_wp2; go_meet; exact HAft.out _ _ _ HK1.out)
  case rest =>
    have hcut' := hcut.out
    have htx := HTX.out wc g hcut'.bk
    have HTQ : Hid (∀ n, Bk (wc.drewN n) g l2) := fun n => (Aft.drewN hcut' n).bk
    have htq : ∀ n, (convert 82 9 (.slice (some ⟨g, 0, none⟩) m m)).run Tryz.prog (wc.drewN n) = .ok (.string (bs l2)) (wc.drewN n) := fun n => HTX.out _ g (HTQ.out n)
    have HBW : Hid (∀ n, Below g w (wc.drewN n)) := fun n => HB1.out.trans (Aft.drewN hcut' n).below
    clear hcut hcut' HAft hcell hfz
    go_wp2
    go_quiet ((go_at_call 112; refine Calls.quiet_of (HBi _)))
    go_wp2
    go_ret3
    exact ⟨rfl, by rw [hg]; exact HBW.out _⟩
theorem SetBit_no (s : ByteArray) (i b : Int) (w : World) (h : ¬ (0 ≤ i ∧ i < 524288 ∧ 0 ≤ b ∧ b ≤ 1)) :
    Calls Tryz.prog 114 #[.string s, .int .i64 i, .int .i64 b] w fun e w' => e = .returned (.tuple #[.string ⟨#[]⟩, .int .i64 0, .int .i64 10]) ∧ Below w.heap.size w w' := by
  by_cases h1 : i < 0
  · go_enter Tryz.func114, Tryz.ntmps114
    go_wp2
    go_ret3
    exact ⟨rfl, Below.refl _ _⟩
  · by_cases h2 : 524288 ≤ i
    · go_enter Tryz.func114, Tryz.ntmps114
      go_wp2
      go_ret3
      exact ⟨rfl, Below.refl _ _⟩
    · have hb0 : (b != 0) = true := by simp; omega
      have hb1 : (b != 1) = true := by simp; omega
      have hi : 0 ≤ i ∧ i < 524288 := by omega
      clear h h1 h2
      go_enter Tryz.func114, Tryz.ntmps114
      go_wp2
      go_ret3
      exact ⟨rfl, Below.refl _ _⟩
theorem SetBit_any (s : ByteArray) (i b : Int) (w : World) (hs : s.size ≤ 140737488355328) :
    Calls Tryz.prog 114 #[.string s, .int .i64 i, .int .i64 b] w fun e w' => e = .returned (setBitR s i b) ∧ Below w.heap.size w w' := by
  unfold setBitR
  by_cases h : 0 ≤ i ∧ i < 524288 ∧ 0 ≤ b ∧ b ≤ 1
  · rw [if_pos h]
    obtain ⟨k, rfl⟩ : ∃ k : Nat, i = k := ⟨i.toNat, by omega⟩
    rw [Int.toNat_natCast]
    have : b = 0 ∨ b = 1 := by omega
    rcases this with rfl | rfl
    · exact SetBit_zero s k w (by omega) hs
    · exact SetBit_one s k w (by omega) hs
  · rw [if_neg h]
    exact SetBit_no s i b w h
end Go.Proofs.YtnajhjmdpaeelaaGreatDoor.Tx
