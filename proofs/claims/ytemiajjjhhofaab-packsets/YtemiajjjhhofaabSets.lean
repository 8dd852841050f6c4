/-
  The law PackSets.
-/
import Derived.Test.YtemiajjjhhofaabTells
import Derived.Test.YtemiajjjhhofaabStr2
namespace Go.Proofs.Ytemiajjjhhofaab
open Go.RowKit Go.PlainAid

theorem len_set (ls : List ByteArray) (k : Nat) (s : ByteArray) (h : k < ls.length) : (pack (ls.set k s)).length = (pack ls).length - (off ls (k + 1) - off ls k) + (enc (lst s)).length := by
  have h1 : (pack [s]).length = (enc (lst s)).length := by rw [pack, List.length_append]; rfl
  rw [set_split ls k s h, rep_len, h1]

def tL : ByteArray := ⟨#[108, 97, 115, 116]⟩
theorem below_setCell (w : World) (C g i : Nat) (v : Value) (h : C ≤ g) : Below C w (w.setCell ⟨g, i, none⟩ v) := by
  have h1 := grown_setCell w g i v
  exact ⟨h1.os, h1.tape, h1.output, h1.size, fun k hk => Deep.blk_setCell_other w _ v k (by show k ≠ g; omega)⟩
theorem fit_set {ls : List ByteArray} {k : Nat} {s : ByteArray} (h : Fit ls) (hs : s.size ≤ 4096) : Fit (ls.set k s) := by
  intro t ht
  rcases List.mem_or_eq_of_mem_set ht with h1 | h1
  · exact h t h1
  · rw [h1]; exact hs

set_option maxRecDepth 100000 in
set_option maxHeartbeats 400000 in
theorem sets_any (a : Option Addr) (n c : Nat) (ls : List ByteArray) (i : Int) (s : ByteArray) (w : World) (hR : RdS w a n ls) :
    Calls Try.prog 3 #[.slice a n c, .int .i64 i, .string s] w fun e w' => e = .returned (.bool true) ∧ Below w.heap.size w w' := by
  have HF := Few_any a n c ls 15 90 w hR (by omega) (by omega)
  have HC := fun w => Cut_any s 200 w (by omega)
  have HT : Hid (((cutB s 200).size : Int) ≤ 200) := size_cutB s 200 (by omega)
  generalize cutB s 200 = t at HC HT
  clear hR
  go_enter Try.func3, Try.ntmps3
  go_wp2_with fail
  refine HF.mono ?_
  rintro e w0 ⟨hb, a0, n0, c0, rfl, l0, hO0, hS0⟩
  have HB0 : Hid (Below w.heap.size w w0) := hb
  have HO0 : Hid (OwnS w0 w.heap.size a0 n0 c0 l0) := hO0
  have HS0 : Hid (Short l0 15 90) := hS0
  have HL0 : Hid (l0.length = n0) := hO0.len
  have HN0 : Hid (n0 + 1 ≤ 1000000) := by have := hO0.len; have := hS0.1; show _ ≤ _; omega
  have hsz := HB0.out.size
  clear hb hO0 hS0 HF
  go_wp2_with (at_builtin; refine append_str rfl (.tmp 11) (.tmp 12) rfl w.heap.size rfl (HO0.out.keep (alloc_below w0 _)) rfl (by simp; rfl) HN0.out (Nat.le_trans hsz (alloc_below w0 _).size) ?_; intro a1 n1 c1 w1 hn1 hO1 hB1; have HO1 : Hid (OwnS w1 w.heap.size a1 n1 c1 (l0 ++ [tL])) := hO1; have HB1 : Hid (Below w.heap.size w w1) := (HB0.out.trans ((alloc_below w0 _).mono hsz)).trans hB1; clear hn1 hO1 hB1)
  obtain ⟨l1, hl1⟩ : ∃ l1, l0 ++ [tL] = l1 := ⟨_, rfl⟩
  have HS : Hid (Short l1 16 90) := by
    rw [← hl1]
    refine ⟨by have := HS0.out.1; simp; omega, fun s hs => ?_⟩
    rcases List.mem_append.1 hs with h | h
    · exact HS0.out.2 s h
    · rw [List.mem_singleton.1 h]; decide
  have HL : Hid (l1.length = n1) := by rw [← hl1]; exact HO1.out.len
  have hn1 : 1 ≤ n1 ∧ n1 ≤ 16 := by have := HL.out; have := HS.out.1; rw [← hl1] at this; simp at this; have h2 := HL.out; rw [← hl1] at h2; simp at h2; omega
  rw [hl1] at HO1
  clear hl1 HO0 HS0 HL0 HN0
  go_wp2_with fail
  refine (HC _).mono ?_
  rintro e w1 ⟨rfl, rfl⟩
  go_wp2_with fail
  refine (New_any _).mono ?_
  rintro e w2 ⟨hb, p, ap, np, cp, rfl, hP⟩
  have HB2 := step_below HB1 hb
  have HO2 : Hid (OwnS w2 w.heap.size a1 n1 c1 l1) := HO1.out.keep hb
  have hP' : Pk w2 w.heap.size p ap np cp [] := hP.low' HB1.out.size
  have hn0 : np = 0 := hP.own.len.symm
  subst hn0
  have HPL : Hid ((pack l1).length ≤ 1616) := HS.out.pack 90 1616 (by omega) (by omega)
  have HFit : Hid (Fit l1) := HS.out.fit (by omega)
  have HI := Insert_ok w.heap.size p ap 0 cp [] 0 a1 n1 c1 l1 w2 hP' (fun s hs => absurd hs (by simp)) (by omega) (Nat.zero_le _) HO2.out.rd HFit.out (by omega) (by have := HPL.out; omega)
  rw [ins_all] at HI
  have HPn : Hid (Pk w2 w.heap.size p ap 0 cp []) := hP'
  clear hb hP hP' HO1
  go_wp2_with fail
  refine HI.mono ?_
  rintro e w3 ⟨rfl, hM, a3, n3, c3, hP3, -⟩
  have HB3 : Hid (Below w.heap.size w w3) := HB2.out.trans (hM.below HPn.out)
  have HO3 : Hid (OwnS w3 w.heap.size a1 n1 c1 l1) := HO2.out.moves hM HPn.out
  have HP3 : Hid (Pk w3 w.heap.size p a3 n3 c3 l1) := hP3
  have hn3 : n3 ≤ 1616 := by have := hP3.own.len; have := HPL.out; omega
  have HN3 : Hid ((pack l1).length = n3) := hP3.own.len
  obtain ⟨H, hH⟩ : ∃ H : Int, (n1 : Int) - 1 = H := ⟨_, rfl⟩
  clear hM hP3 HI HPn HO2
  go_wp2_with fail
  refine (Within_any i 0 H w3 (by omega) (by omega) (by omega)).mono ?_
  rintro e w3 ⟨rfl, k, hk0, hk1, rfl⟩
  obtain ⟨k, rfl⟩ := Int.eq_ofNat_of_zero_le hk0
  obtain ⟨I, hI⟩ : ∃ I : Int, (k : Int) - (n1 : Int) = I := ⟨_, rfl⟩
  have HPl : plc l1.length I = some k := by
    rw [HL.out]
    unfold plc
    rw [if_neg (by omega), if_pos (by omega)]
    congr 1; omega
  have hkl : k < l1.length := by have := HL.out; omega
  have hlen := len_set l1 k t hkl
  have hel := (enc_len (lst t)).2
  rw [len_lst] at hel
  have HX : Hid ((pack (l1.set k t)).length ≤ 60000) := by have := HT.out; have := HPL.out; show _ ≤ _; omega
  have HFs : Hid (Fit (l1.set k t)) := fit_set HFit.out (by have := HT.out; omega)
  have HSe := Set_ok w.heap.size p a3 n3 c3 l1 I k t _ HP3.out HFit.out (by omega) (by omega) HPl (by have := HT.out; omega) (by have := HX.out; omega)
  have HLs : Hid ((l1.set k t).length = n1) := by show _ = _; rw [List.length_set]; exact HL.out
  obtain ⟨l2, hl2⟩ : ∃ l2, l1.set k t = l2 := ⟨_, rfl⟩
  have HL2 : Hid (l1.set k t = l2) := hl2
  rw [hl2] at HSe HX HFs HLs
  clear HPl hkl hlen hel hl2
  go_wp2_with fail
  refine HSe.mono ?_
  rintro e w4 ⟨rfl, hM, a4, n4, c4, hP4, -⟩
  have HB4 : Hid (Below w.heap.size w w4) := HB3.out.trans (hM.below HP3.out)
  have HO4 : Hid (OwnS w4 w.heap.size a1 n1 c1 l1) := HO3.out.moves hM HP3.out
  have HP4 : Hid (Pk w4 w.heap.size p a4 n4 c4 l2) := hP4
  have hn4 : n4 ≤ 60000 := by have := hP4.own.len; have := HX.out; omega
  clear hM hP4 HSe
  have HOa : Hid (OwnS (w4.alloc (.cells #[] 9)) w4.heap.size (some ⟨w4.heap.size, 0, none⟩) 0 0 []) := OwnS.made w4 [] w4.heap.size 0 rfl (Nat.le_refl _) (by decide) _ rfl
  have HRa : Hid (RdL (w4.alloc (.cells #[] 9)) a1 n1 c1 l1) := (HO4.out.keep (alloc_below w4 _)).rl
  have HNa : Hid (0 + n1 ≤ 1000000) := by show _ ≤ _; omega
  have HSa : Hid (w4.heap.size ≤ (w4.alloc (.cells #[] 9)).heap.size) := (alloc_below w4 _).size
  go_upto_region 10 with (at_builtin; refine append_strs rfl (.tmp 38) (.tmp 39) rfl w4.heap.size rfl HOa.out rfl HRa.out HNa.out HSa.out ?_; intro a9 n9 c9 w9 hn9 HO9 HB9; have hn9' : n9 = n1 := (by omega); subst hn9'; clear hn9)
  have hO9 := HO9.out
  rw [List.nil_append] at hO9
  obtain ⟨g, ha9, hBg, ⟨v, hv⟩, hfz, hO10⟩ := hO9.set k (by omega) t
  subst ha9
  rw [HL2.out] at hO10
  have HO10 : Hid (OwnS (w9.setCell ⟨g, k, none⟩ (.string t)) w4.heap.size (some ⟨g, 0, none⟩) n9 c9 l2) := hO10
  have HB10 : Hid (Below w4.heap.size w4 (w9.setCell ⟨g, k, none⟩ (.string t))) := ((alloc_below w4 _).trans HB9.out).trans (below_setCell w9 w4.heap.size g k _ hBg)
  obtain ⟨wn, hwn⟩ : ∃ wn, w9.setCell ⟨g, k, none⟩ (.string t) = wn := ⟨_, rfl⟩
  rw [hwn] at HO10 HB10
  have HTe := tells_any w.heap.size p a4 n4 c4 l2 (some ⟨g, 0, none⟩) n9 c9 wn (HP4.out.keep HB10.out) HFs.out (by omega) HO10.out.rd
  clear hO9 hO10
  go_wp2_with fail
  refine HTe.mono ?_
  rintro e w11 ⟨hb, rfl⟩
  have HB11 := step_below (step_below HB4 HB10.out) hb
  clear hb HTe
  go_wp2_with fail
  refine (known_any _).mono ?_
  rintro e w12 ⟨hb, rfl⟩
  have HB12 := step_below HB11 hb
  clear hb
  go_wp2
  go_ret
  exact ⟨rfl, HB12.out⟩
end Go.Proofs.Ytemiajjjhhofaab
