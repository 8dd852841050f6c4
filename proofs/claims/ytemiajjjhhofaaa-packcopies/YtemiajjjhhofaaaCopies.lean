/-
  The law PackCopies.
-/
import Derived.Test.YtemiajjjhhofaaaTells
import Derived.Test.YtemiajjjhhofaaaStr2
namespace Go.Proofs.Ytemiajjjhhofaaa
open Go.RowKit Go.PlainAid

theorem Own.set {w : World} {B g n c : Nat} {l : List UInt8} (h : Own w B (some ⟨g, 0, none⟩) n c l) (i : Nat) (hi : i < n) (y : UInt8) : Own (w.setCell ⟨g, i, none⟩ (.int .u8 (y.toNat : Nat))) B (some ⟨g, 0, none⟩) n c (l.set i y) := by
  obtain ⟨g', cur, e, h1, h2, h3, h4, h5, h6⟩ := h.parts (by omega)
  cases e
  refine Own.of h1 (cur_set h2 i _) h3 h4 (by rw [List.length_set]; exact h5) ?_
  rw [List.take_set, h6, cells, cells, List.map_set]
theorem below_setCell (w : World) (C g i : Nat) (v : Value) (h : C ≤ g) : Below C w (w.setCell ⟨g, i, none⟩ v) := by
  have h1 := grown_setCell w g i v
  exact ⟨h1.os, h1.tape, h1.output, h1.size, fun k hk => Deep.blk_setCell_other w _ v k (by show k ≠ g; omega)⟩
def tX : ByteArray := ⟨#[120]⟩

set_option maxRecDepth 100000 in
set_option maxHeartbeats 400000 in
theorem copies_any (a : Option Addr) (n c : Nat) (ls : List ByteArray) (s : ByteArray) (w : World) (hR : RdS w a n ls) :
    Calls Try.prog 6 #[.slice a n c, .string s] w fun e w' => e = .returned (.bool true) ∧ Below w.heap.size w w' := by
  have HF := Few_any a n c ls 12 90 w hR (by omega) (by omega)
  have HC := fun w => Cut_any s 50 w (by omega)
  have HT : Hid (((cutB s 50).size : Int) ≤ 50) := size_cutB s 50 (by omega)
  generalize cutB s 50 = t at HC HT
  have HFt : Hid (Fit [t, tX]) := by
    intro s hs
    rcases List.mem_cons.1 hs with rfl | hs
    · have := HT.out; omega
    · rw [List.mem_singleton.1 hs]; decide
  have HPt : Hid ((pack [t, tX]).length ≤ 122) := by
    have := HT.out
    have h := pack_len [t, tX] 50 (fun s hs => by
      rcases List.mem_cons.1 hs with rfl | hs
      · omega
      · rw [List.mem_singleton.1 hs]; decide)
    show _ ≤ _
    simpa using h
  clear hR
  go_enter Try.func6, Try.ntmps6
  go_wp2_with fail
  refine HF.mono ?_
  rintro e w1 ⟨hb, a1, n1, c1, rfl, l1, hO1, hS⟩
  have HB1 : Hid (Below w.heap.size w w1) := hb
  have HO1 : Hid (OwnS w1 w.heap.size a1 n1 c1 l1) := hO1
  have HS : Hid (Short l1 12 90) := hS
  have hn1 : n1 ≤ 12 := by have := hO1.len; have := hS.1; omega
  have HL : Hid (l1.length = n1) := hO1.len
  clear hb hO1 hS HF
  go_wp2_with fail
  refine (New_any _).mono ?_
  rintro e w2 ⟨hb, p, ap, np, cp, rfl, hP⟩
  have HB2 := step_below HB1 hb
  have HO2 : Hid (OwnS w2 w.heap.size a1 n1 c1 l1) := HO1.out.keep hb
  have hP' : Pk w2 w.heap.size p ap np cp [] := hP.low' HB1.out.size
  have hn0 : np = 0 := hP.own.len.symm
  subst hn0
  have HPL : Hid ((pack l1).length ≤ 1212) := HS.out.pack 90 1212 (by omega) (by omega)
  have HFit : Hid (Fit l1) := HS.out.fit (by omega)
  have HI := Insert_ok w.heap.size p ap 0 cp [] 0 a1 n1 c1 l1 w2 hP' (fun s hs => absurd hs (by simp)) (by omega) (Nat.zero_le _) HO2.out.rd HFit.out (by omega) (by have := HPL.out; omega)
  rw [ins_all] at HI
  have HPn : Hid (Pk w2 w.heap.size p ap 0 cp []) := hP'
  clear hb hP hP' HO1
  go_wp2_with fail
  refine HI.mono ?_
  rintro e w3 ⟨rfl, hM, a3, n3, c3, hP3, -⟩
  have HB3 : Hid (Below w.heap.size w w3) := HB2.out.trans (hM.below HPn.out)
  have HO3 : Hid (OwnS w3 w.heap.size a1 n1 c1 l1) := HO2.out.moves hM HPn.out
  have HP3 : Hid (Pk w3 w.heap.size p a3 n3 c3 l1) := hP3
  have hn3 : n3 ≤ 1212 := by have := hP3.own.len; have := HPL.out; omega
  have HN3 : Hid ((pack l1).length = n3) := hP3.own.len
  clear hM hP3 HI HPn HO2
  go_wp2_with fail
  refine (Copy_any w.heap.size p a3 n3 c3 l1 w3 HP3.out (by omega)).mono ?_
  rintro e w4 ⟨hb, q, a4, n4, c4, rfl, hP4⟩
  have HB4 : Hid (Below w3.heap.size w3 w4) := hb
  have HP4 : Hid (Pk w4 w3.heap.size q a4 n4 c4 l1) := hP4
  have hn4 : n4 ≤ 1212 := by have := hP4.own.len; have := HPL.out; omega
  clear hb hP4
  go_wp2_with fail
  refine (HC _).mono ?_
  rintro e w4 ⟨rfl, rfl⟩
  go_wp2_with fail
  have hA := alloc_below w4 (.cells #[.string t, .string ⟨#[120]⟩] 9)
  have hP5 := HP4.out.keep hA
  have HI2 := Insert_ok w3.heap.size q a4 n4 c4 l1 0 (some ⟨w4.heap.size, 0, none⟩) 2 2 [t, tX] _ hP5 HFit.out (by omega) (Nat.zero_le _) (RdS.made w4 [t, tX] 2 rfl (by decide) #[.string t, .string ⟨#[120]⟩] rfl) HFt.out (by omega) (by have := HPt.out; omega)
  rw [List.take_zero, List.nil_append, List.drop_zero] at HI2
  refine HI2.mono ?_
  rintro e w5 ⟨rfl, hM, a5, n5, c5, hP6, -⟩
  have HB5 : Hid (Below w3.heap.size w3 w5) := (HB4.out.trans (hA.mono HB4.out.size)).trans (hM.below hP5)
  have HP5 : Hid (Pk w5 w3.heap.size q a5 n5 c5 ([t, tX] ++ l1)) := hP6
  have hn5 : n5 ≤ 2000 := by
    have := hP6.own.len
    rw [pack_append, List.length_append] at this
    have := HPt.out
    have := HPL.out
    omega
  clear hA hP5 HI2 hM hP6
  go_wp2_with fail
  refine (Bytes_pk w.heap.size p a3 n3 c3 l1 w5 (HP3.out.keep HB5.out) (by omega)).mono ?_
  rintro e w6 ⟨hb, a6, n6, c6, rfl, hO6⟩
  have HB6 : Hid (Below w5.heap.size w5 w6) := hb
  have HO6 : Hid (Own w6 w5.heap.size a6 n6 c6 (pack l1)) := hO6
  have hn6 : n6 ≤ 1212 := by have := hO6.len; have := HPL.out; omega
  clear hb hO6
  go_wp2
  go_loopg [8] n6 (fun g iv wr => ∃ (i : Nat) (l6 : List UInt8), i + g = n6 ∧ iv = .int .i64 i ∧ Hid (Own wr w5.heap.size a6 n6 c6 l6) ∧ Hid (Below w5.heap.size w5 wr))
  case atStart => exact ⟨0, pack l1, by omega, rfl, HO6, HB6⟩
  case round =>
    obtain ⟨i, l6, hi, rfl, HO, HB⟩ := hrel
    by_cases hin : (i : Int) < n6
    · obtain ⟨g, cur, ha, hBg, hk, -, -, -, -⟩ := HO.out.parts (by omega)
      subst ha
      obtain ⟨b, off, e, hc⟩ := HO.out.rd.cell i (by omega)
      cases e
      have hfz := hk.frozen (0 + i)
      rw [Nat.zero_add] at hc hfz
      obtain ⟨X, hX⟩ : ∃ X : Int, ((l6.getD i 0).toNat : Int) = X := ⟨_, rfl⟩
      have hXb := byte_le _ hX
      have HN : Hid (∀ Y : Int, Y = IntKind.u8.wrap (X + 1) → ∃ l7, Own (wr.setCell ⟨g, i, none⟩ (.int .u8 Y)) w5.heap.size (some ⟨g, 0, none⟩) n6 c6 l7) := by
        intro Y hY
        have hy : 0 ≤ Y ∧ Y ≤ 255 := by
          rw [hY]
          simp [IntKind.wrap, IntKind.signed, IntKind.bits]
          omega
        refine ⟨l6.set i (UInt8.ofNat Y.toNat), ?_⟩
        have := HO.out.set i (by omega) (UInt8.ofNat Y.toNat)
        rw [UInt8.toNat_ofNat', show ((Y.toNat % 2 ^ 8 : Nat) : Int) = Y by omega] at this
        exact this
      have HBs : Hid (∀ v, Below w5.heap.size w5 (wr.setCell ⟨g, i, none⟩ v)) := fun v => HB.out.trans ((below_setCell wr w5.heap.size g i v hBg))
      rw [hX] at hc
      clear hX hk
      obtain ⟨Y, hY⟩ : ∃ Y, IntKind.u8.wrap (X + 1) = Y := ⟨_, rfl⟩
      obtain ⟨l7, hO7⟩ := HN.out Y hY.symm
      have HO7 : Hid (Own (wr.setCell ⟨g, i, none⟩ (.int .u8 Y)) w5.heap.size (some ⟨g, 0, none⟩) n6 c6 l7) := hO7
      clear hO7 HN
      go_wp2
      go_roundg (gk - 1)
      case measure => omega
      case rel => exact ⟨i + 1, l7, by omega, by go_num, HO7, HBs.out _⟩
    · have HB7 : Hid (Below w3.heap.size w3 wr) := HB5.out.trans (HB.out.mono HB5.out.size)
      have HT1 := tells_any w.heap.size p a3 n3 c3 l1 a1 n1 c1 wr (HP3.out.keep HB7.out) HFit.out (by omega) (HO3.out.keep HB7.out).rd
      go_wp2_with fail
      refine HT1.mono ?_
      rintro e w8 ⟨hb, rfl⟩
      have HB8 := step_below HB7 hb
      have HBq : Hid (Below w5.heap.size w5 w8) := HB.out.trans (hb.mono HB.out.size)
      clear hb HT1
      go_wp2_with fail
      refine (HC _).mono ?_
      rintro e w8 ⟨rfl, rfl⟩
      have HOa : Hid (OwnS (w8.alloc (.cells #[.string t, .string ⟨#[120]⟩] 9)) w8.heap.size (some ⟨w8.heap.size, 0, none⟩) 2 2 [t, tX]) := OwnS.made w8 [t, tX] w8.heap.size 2 rfl (Nat.le_refl _) (by decide) _ rfl
      have HRa : Hid (RdL (w8.alloc (.cells #[.string t, .string ⟨#[120]⟩] 9)) a1 n1 c1 l1) := ((HO3.out.keep HB8.out).keep (alloc_below w8 _)).rl
      have HNa : Hid (2 + n1 ≤ 1000000) := by show _ ≤ _; omega
      have HSa : Hid (w8.heap.size ≤ (w8.alloc (.cells #[.string t, .string ⟨#[120]⟩] 9)).heap.size) := (alloc_below w8 _).size
      go_wp2_with (at_builtin; refine append_strs_w rfl (.tmp 53) (.tmp 54) rfl w8.heap.size rfl HOa.out rfl HRa.out HNa.out HSa.out ?_; intro a9 n9 c9 w9 hn9 HO9 HB9; clear hn9)
      have HBa : Hid (Below w8.heap.size w8 w9) := (alloc_below w8 _).trans HB9.out
      have HT2 := tells_any w3.heap.size q a5 n5 c5 ([t, tX] ++ l1) a9 n9 c9 w9 ((HP5.out.keep HBq.out).keep HBa.out) (by
        intro s hs
        rcases List.mem_append.1 hs with h | h
        · exact HFt.out s h
        · exact HFit.out s h) (by omega) HO9.out.rd
      refine HT2.mono ?_
      rintro e w10 ⟨hb, rfl⟩
      have HB10 := step_below (step_below HB8 HBa.out) hb
      clear hb HT2
      go_wp2_with fail
      refine (known_any _).mono ?_
      rintro e w11 ⟨hb, rfl⟩
      have HB11 := step_below HB10 hb
      clear hb
      go_wp2
      go_ret
      exact ⟨rfl, HB3.out.trans (HB11.out.mono HB3.out.size)⟩
end Go.Proofs.Ytemiajjjhhofaaa
