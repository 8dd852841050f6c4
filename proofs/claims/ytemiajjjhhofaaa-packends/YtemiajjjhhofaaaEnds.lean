/-
  The law PackEnds.
-/
import Derived.Test.YtemiajjjhhofaaaFinds
namespace Go.Proofs.Ytemiajjjhhofaaa
open Go.RowKit Go.PlainAid

set_option maxRecDepth 100000 in
set_option maxHeartbeats 400000 in
theorem ends_way (a : Option Addr) (n c : Nat) (ls : List ByteArray) (s : ByteArray) (last : Bool) (w : World) (hR : RdS w a n ls) :
    Calls Try.prog 7 #[.slice a n c, .string s, .bool last] w fun e w' => e = .returned (.bool true) ∧ Below w.heap.size w w' := by
  have HF := Few_any a n c ls 15 60 w hR (by omega) (by omega)
  have HC := fun w => Cut_any s 60 w (by omega)
  have HT : Hid (((cutB s 60).size : Int) ≤ 60) := size_cutB s 60 (by omega)
  generalize cutB s 60 = t at HC HT
  clear hR
  go_enter Try.func7, Try.ntmps7
  go_wp2_with fail
  refine HF.mono ?_
  rintro e w1 ⟨hb, a1, n1, c1, rfl, l1, hO1, hS⟩
  have HB1 : Hid (Below w.heap.size w w1) := hb
  have HO1 : Hid (OwnS w1 w.heap.size a1 n1 c1 l1) := hO1
  have HS : Hid (Short l1 15 60) := hS
  have hn1 : n1 ≤ 15 := by have := hO1.len; have := hS.1; omega
  have HL : Hid (l1.length = n1) := hO1.len
  clear hb hO1 hS HF
  go_wp2_with fail
  refine (HC _).mono ?_
  rintro e w1 ⟨rfl, rfl⟩
  go_wp2_with fail
  refine (New_any _).mono ?_
  rintro e w2 ⟨hb, p, ap, np, cp, rfl, hP⟩
  have HB2 := step_below HB1 hb
  have HO2 : Hid (OwnS w2 w.heap.size a1 n1 c1 l1) := HO1.out.keep hb
  have hP' : Pk w2 w.heap.size p ap np cp [] := hP.low' HB1.out.size
  have hn0 : np = 0 := hP.own.len.symm
  subst hn0
  have HPL : Hid ((pack l1).length ≤ 1065) := HS.out.pack 60 1065 (by omega) (by omega)
  have HFit : Hid (Fit l1) := HS.out.fit (by omega)
  have HI := Insert_ok w.heap.size p ap 0 cp [] 0 a1 n1 c1 l1 w2 hP' (fun s hs => absurd hs (by simp)) (by omega) (Nat.zero_le _) HO2.out.rd HFit.out (by omega) (by have := HPL.out; omega)
  rw [ins_all] at HI
  have HPn : Hid (Pk w2 w.heap.size p ap 0 cp []) := hP'
  clear hb hP hP' HO1
  go_wp2_with fail
  refine HI.mono ?_
  rintro e w3 ⟨rfl, hM, a3, n3, c3, hP3, -⟩
  have HB3 : Hid (Below w.heap.size w w3) := HB2.out.trans (hM.below HPn.out)
  have HP3 : Hid (Pk w3 w.heap.size p a3 n3 c3 l1) := hP3
  have hn3 : n3 ≤ 1065 := by have := hP3.own.len; have := HPL.out; omega
  have HN3 : Hid ((pack l1).length = n3) := hP3.own.len
  clear hM hP3 HI HPn HO2
  go_wp2_with fail
  refine (Bytes_pk w.heap.size p a3 n3 c3 l1 w3 HP3.out (by omega)).mono ?_
  rintro e w4 ⟨hb, a4, n4, c4, rfl, hO4⟩
  have HB4 := step_below HB3 hb
  have HP4 : Hid (Pk w4 w.heap.size p a3 n3 c3 l1) := HP3.out.keep hb
  have hT4 := hO4.rd.text
  obtain ⟨W, hW⟩ : ∃ W, bs (pack l1) = W := ⟨_, rfl⟩
  rw [hW] at hT4
  have HW : Hid (bs (pack l1) = W) := hW
  clear hb hO4 hW
  -- the place where it is put
  obtain ⟨k, i, hk, hkL, hki⟩ : ∃ (k : Nat) (i : Int), (if last then (n1 : Int) else 0) = k ∧ k ≤ n1 ∧ (if last then (-1 : Int) else 0) = i := by
    cases last
    · exact ⟨0, 0, rfl, by omega, rfl⟩
    · exact ⟨n1, -1, rfl, by omega, rfl⟩
  have HE : Hid ((pack [t]).length ≤ 71) := by
    have := HT.out
    have h := pack_len [t] 60 (fun s hs => by rw [List.mem_singleton.1 hs]; omega)
    show _ ≤ _
    simpa using h
  have HFt : Hid (Fit [t]) := fun s hs => by rw [List.mem_singleton.1 hs]; have := HT.out; omega
  obtain ⟨l2, hl2⟩ : ∃ l2, l1.take k ++ ([t] ++ l1.drop k) = l2 := ⟨_, rfl⟩
  have hA := alloc_below w4 (.cells #[.string t] 9)
  have hP5 := HP4.out.keep hA
  have HI2 := Insert_ok w.heap.size p a3 n3 c3 l1 k (some ⟨w4.heap.size, 0, none⟩) 1 1 [t] _ hP5 HFit.out (by omega) (by have := HL.out; omega) (RdS.made w4 [t] 1 rfl (by decide) #[.string t] rfl) HFt.out (by omega) (by have := HE.out; omega)
  rw [hl2] at HI2
  have HPn : Hid (Pk (w4.alloc (.cells #[.string t] 9)) w.heap.size p a3 n3 c3 l1) := hP5
  have HBn : Hid (Below w.heap.size w (w4.alloc (.cells #[.string t] 9))) := HB4.out.trans (hA.mono HB4.out.size)
  have HL2 : Hid (l2.length = n1 + 1) := by have := HL.out; show _ = _; rw [← hl2]; simp; omega
  have HFit2 : Hid (Fit l2) := by
    intro s hs
    rw [← hl2] at hs
    rcases List.mem_append.1 hs with h | h
    · exact HFit.out s (List.mem_of_mem_take h)
    · rcases List.mem_append.1 h with h | h
      · exact HFt.out s h
      · exact HFit.out s (List.mem_of_mem_drop h)
  have HPl : Hid (plc l2.length i = some k) := by
    show _ = _
    rw [HL2.out]
    cases last
    · have e1 : k = 0 := by have : (0 : Int) = k := hk; omega
      have e2 : (0 : Int) = i := hki
      subst e1; subst e2
      unfold plc
      rw [if_pos (by omega), if_pos (by omega)]; rfl
    · have e1 : k = n1 := by have : (n1 : Int) = k := hk; omega
      have e2 : (-1 : Int) = i := hki
      subst e1; subst e2
      unfold plc
      rw [if_neg (by omega), if_pos (by omega)]
      congr 1; omega
  have HTx : Hid (txt l2 k = t) := by
    have := HL.out
    show _ = _
    rw [← hl2, txt, List.getD_eq_getElem?_getD, List.getElem?_append_right (by rw [List.length_take]; omega), List.length_take, Nat.min_eq_left (by omega), Nat.sub_self]
    rfl
  have HDl : Hid (l2.take k ++ l2.drop (k + gone l2 k 1) = l1) := by
    have h1 := HL.out
    have h2 := HL2.out
    show _ = _
    rw [show gone l2 k 1 = 1 by unfold gone; omega, ← hl2]
    rw [List.take_append_of_le_length (by rw [List.length_take]; omega), List.take_take, Nat.min_self]
    rw [List.drop_append, List.drop_eq_nil_of_le (by rw [List.length_take]; omega), List.nil_append, List.length_take, Nat.min_eq_left (by omega), show k + 1 - k = 1 by omega]
    show List.take k l1 ++ List.drop k l1 = l1
    exact List.take_append_drop k l1
  have HG1 : Hid (gone l2 k 1 = 1) := by
    have h2 := HL2.out
    show _ = _
    unfold gone; omega
  have hi63 : -9223372036854775808 ≤ i := by cases last <;> (simp at hki; omega)
  have HAt := fun (wq : World) (aq : Option Addr) (nq cq : Nat) (h : Pk wq w.heap.size p aq nq cq l2) => At_some w.heap.size p aq nq cq l2 i k wq h HFit2.out hi63 HPl.out
  rw [HTx.out] at HAt
  have HLe := fun (wq : World) (aq : Option Addr) (nq cq : Nat) (h : Pk wq w.heap.size p aq nq cq l2) => Len_old w.heap.size p aq nq cq l2 wq h
  rw [HL2.out, show ((n1 + 1 : Nat) : Int) = (n1 : Int) + 1 by omega] at HLe
  have HPK2 : Hid ((pack l2).length ≤ 65536) := by
    have h1 := rep_len l1 [t] k 0
    rw [Nat.add_zero] at h1
    have h2 := pack_len [t] 4096 HFt.out
    have h3 := HPL.out
    rw [List.length_singleton] at h2
    show _ ≤ _
    rw [← hl2, h1]
    omega
  have HDe := fun (wq : World) (aq : Option Addr) (nq cq : Nat) (h : Pk wq w.heap.size p aq nq cq l2) => Delete_some w.heap.size p aq nq cq l2 i k 1 wq h HFit2.out (by have h1 := h.own.len; have h2 := HPK2.out; omega) hi63 HPl.out
  simp only [HDl.out] at HDe
  simp only [HG1.out] at HDe
  have hbt : (t.toList == t.toList) = true := by simp
  have hbW : (W.toList == W.toList) = true := by simp
  clear hP5 hA hl2
  cases last
  · have e1 : k = 0 := by have : (0 : Int) = k := hk; omega
    have e2 : i = 0 := by have : (0 : Int) = i := hki; omega
    subst e1; subst e2
    clear hk hki
    go_wp2_with fail
    refine HI2.mono ?_
    rintro e w5 ⟨rfl, hM, a5, n5, c5, hP5, -⟩
    have HB5 : Hid (Below w.heap.size w w5) := HBn.out.trans (hM.below HPn.out)
    have HP5 : Hid (Pk w5 w.heap.size p a5 n5 c5 l2) := hP5
    clear hM hP5 HI2
    go_wp2_with fail
    refine (HAt w5 a5 n5 c5 HP5.out).mono ?_
    rintro e w6 ⟨hb, rfl⟩
    have HB6 := step_below HB5 hb
    have HP6 : Hid (Pk w6 w.heap.size p a5 n5 c5 l2) := HP5.out.keep hb
    clear hb HAt
    go_wp2_with fail
    refine (HLe w6 a5 n5 c5 HP6.out).mono ?_
    rintro e w7 ⟨hb, rfl⟩
    have HB7 := step_below HB6 hb
    have HP7 : Hid (Pk w7 w.heap.size p a5 n5 c5 l2) := HP6.out.keep hb
    clear hb HLe
    go_wp2_with fail
    refine (HDe w7 a5 n5 c5 HP7.out).mono ?_
    rintro e w8 ⟨rfl, hM, a8, n8, c8, hP8, -⟩
    have HB8 : Hid (Below w.heap.size w w8) := HB7.out.trans (hM.below HP7.out)
    have HBy := Bytes_pk w.heap.size p a8 n8 c8 l1 w8 hP8 (by have := hP8.own.len; have := HPL.out; omega)
    clear hM hP8 HDe
    go_wp2_with fail
    refine HBy.mono ?_
    rintro e w9 ⟨hb, a9, n9, c9, rfl, hO9⟩
    have HB9 := step_below HB8 hb
    have hT9 := hO9.rd.text
    rw [HW.out] at hT9
    clear hb hO9 HBy
    go_wp2_with fail
    refine (known_any _).mono ?_
    rintro e w10 ⟨hb, rfl⟩
    have HB10 := step_below HB9 hb
    clear hb
    go_wp2
    go_ret
    exact ⟨rfl, HB10.out⟩
  · have e1 : k = n1 := by have : (n1 : Int) = k := hk; omega
    have e2 : i = -1 := by have : (-1 : Int) = i := hki; omega
    subst e1; subst e2
    clear hk hki
    go_wp2_with fail
    refine HI2.mono ?_
    rintro e w5 ⟨rfl, hM, a5, n5, c5, hP5, -⟩
    have HB5 : Hid (Below w.heap.size w w5) := HBn.out.trans (hM.below HPn.out)
    have HP5 : Hid (Pk w5 w.heap.size p a5 n5 c5 l2) := hP5
    clear hM hP5 HI2
    go_wp2_with fail
    refine (HAt w5 a5 n5 c5 HP5.out).mono ?_
    rintro e w6 ⟨hb, rfl⟩
    have HB6 := step_below HB5 hb
    have HP6 : Hid (Pk w6 w.heap.size p a5 n5 c5 l2) := HP5.out.keep hb
    clear hb HAt
    go_wp2_with fail
    refine (HLe w6 a5 n5 c5 HP6.out).mono ?_
    rintro e w7 ⟨hb, rfl⟩
    have HB7 := step_below HB6 hb
    have HP7 : Hid (Pk w7 w.heap.size p a5 n5 c5 l2) := HP6.out.keep hb
    clear hb HLe
    go_wp2_with fail
    refine (HDe w7 a5 n5 c5 HP7.out).mono ?_
    rintro e w8 ⟨rfl, hM, a8, n8, c8, hP8, -⟩
    have HB8 : Hid (Below w.heap.size w w8) := HB7.out.trans (hM.below HP7.out)
    have HBy := Bytes_pk w.heap.size p a8 n8 c8 l1 w8 hP8 (by have := hP8.own.len; have := HPL.out; omega)
    clear hM hP8 HDe
    go_wp2_with fail
    refine HBy.mono ?_
    rintro e w9 ⟨hb, a9, n9, c9, rfl, hO9⟩
    have HB9 := step_below HB8 hb
    have hT9 := hO9.rd.text
    rw [HW.out] at hT9
    clear hb hO9 HBy
    go_wp2_with fail
    refine (known_any _).mono ?_
    rintro e w10 ⟨hb, rfl⟩
    have HB10 := step_below HB9 hb
    clear hb
    go_wp2
    go_ret
    exact ⟨rfl, HB10.out⟩
end Go.Proofs.Ytemiajjjhhofaaa
