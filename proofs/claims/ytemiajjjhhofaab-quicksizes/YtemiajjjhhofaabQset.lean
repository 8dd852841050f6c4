/-
  Set, Insert, Nodes of a list.
-/
import Derived.Test.YtemiajjjhhofaabQread
import Derived.Test.YtemiajjjhhofaabPkF
import Derived.Test.YtemiajjjhhofaabInts
namespace Go.Proofs.Ytemiajjjhhofaab
open Go.RowKit Go.PlainAid

theorem set_mid {l1 l2 : List Nd} {d : Nd} {j k : Nat} (s : ByteArray) (hk : (txN l1).length + j = k) (hj : j < d.ls.length) : txN l1 ++ (d.ls.set j s ++ txN l2) = (txN (l1 ++ d :: l2)).set k s := by
  rw [txN_append, txN_cons, List.set_append_right _ _ (by omega), List.set_append_left _ _ (by omega), show k - (txN l1).length = j by omega]

set_option maxRecDepth 100000 in
set_option maxHeartbeats 400000 in
theorem SetQ_index (B l R most cnt : Nat) (ns : List Nd) (i : Int) (s : ByteArray) (w : World) (h : Lst w B l R most cnt ns) (hcnt : cnt ≤ 1000000) (hk : plc cnt i = none) :
    Calls Try.prog 46 #[ptr l, .int .i64 i, .string s] w fun e w' => e = .returned (.int .i64 8) ∧ w' = w := by
  have HF := find_none B l R most cnt ns i w h hcnt hk
  clear h hk
  go_enter Try.func46, Try.ntmps46
  go_wp2_with fail
  refine HF.mono ?_
  rintro e w ⟨rfl, rfl⟩
  go_wp2
  go_ret
  exact ⟨rfl, rfl⟩
set_option maxRecDepth 100000 in
set_option maxHeartbeats 400000 in
theorem SetQ_long (B l R most cnt : Nat) (ns : List Nd) (i : Int) (k : Nat) (s : ByteArray) (w : World) (h : Lst w B l R most cnt ns) (hT : (txN ns).length = cnt) (hcnt : cnt ≤ 1000000) (hk : plc cnt i = some k) (hs : 4096 < s.size) (hs2 : s.size ≤ 5000) :
    Calls Try.prog 46 #[ptr l, .int .i64 i, .string s] w fun e w' => e = .returned (.int .i64 11) ∧ Below w.heap.size w w' := by
  have HF := find_some B l R most cnt ns i k w h hT hcnt hk
  have HL : Hid (Lst w B l R most cnt ns) := h
  clear h hk hT
  go_enter Try.func46, Try.ntmps46
  go_wp2_with fail
  refine HF.mono ?_
  rintro e w ⟨⟨l1, d, l2, j, he, hj1, hj2, rfl⟩, rfl⟩
  have hL : Lst w B l R most cnt (l1 ++ d :: l2) := he ▸ HL.out
  have hcp := hL.cpk (d := d) (by simp)
  have hdN := hL.nod d (by simp)
  have HS := Set_long B d.p d.r d.n d.c d.ls j j s w hdN.pk (by omega) (plc_nat hj2) hs hs2
  clear hL hdN HF he
  go_wp2_with fail
  refine HS.mono ?_
  rintro e w1 ⟨hb, rfl⟩
  have HB : Hid (Below w.heap.size w w1) := hb
  clear hb
  go_wp2
  go_ret
  exact ⟨rfl, HB.out⟩

theorem pack_le {ls : List ByteArray} (h : Fit ls) (h1 : ls.length ≤ 1) : (pack ls).length ≤ 5000 := by
  match ls, h1 with
  | [], _ => exact Nat.zero_le _
  | [s], _ => rw [pack_one]; exact (enc_le s (h s (by simp))).2

set_option maxRecDepth 100000 in
set_option maxHeartbeats 400000 in
theorem SetQ_ok (B l R most cnt : Nat) (ns : List Nd) (i : Int) (k : Nat) (s : ByteArray) (w : World) (h : Lst w B l R most cnt ns) (hok : Ok most ns) (hT : (txN ns).length = cnt) (hcnt : cnt ≤ 1000000) (hk : plc cnt i = some k) (hs : s.size ≤ 4096) (hmost : 0 < most) (hmost2 : most ≤ 1000000) :
    Calls Try.prog 46 #[ptr l, .int .i64 i, .string s] w fun e w' => e = .returned (.int .i64 0) ∧ Does w B l R most cnt ns ((txN ns).set k s) w' := by
  have HF := find_some B l R most cnt ns i k w h hT hcnt hk
  have HL : Hid (Lst w B l R most cnt ns) := h
  have HOk : Hid (Ok most ns) := hok
  have HS : Hid (s.size ≤ 4096) := hs
  have HC0 : Hid (0 < cnt) := by have := plc_lt hk; show _ < _; omega
  clear h hk hT hok hs
  go_enter Try.func46, Try.ntmps46
  go_wp2_with fail
  refine HF.mono ?_
  rintro e w ⟨⟨l1, d, l2, j, he, hj1, hj2, rfl⟩, rfl⟩
  have hL : Lst w B l R most cnt (l1 ++ d :: l2) := he ▸ HL.out
  have hO : Ok most (l1 ++ d :: l2) := he ▸ HOk.out
  have hcp := hL.cpk (d := d) (by simp)
  have HE : Hid (∀ X : List ByteArray, X = d.ls.set j s → txN l1 ++ (X ++ txN l2) = (txN ns).set k s) := fun X hX => by rw [hX, set_mid s hj1 hj2, he]
  by_cases hx : (pack (d.ls.set j s)).length ≤ 65536
  · have HSe := Set_nd B l R most cnt l1 l2 d j s w hL hj2 HS.out hx
    have HD : Hid (∀ w1, Node1 w B l R most cnt l1 l2 d (d.ls.set j s) w1 → Does w B l R most cnt ns ((txN ns).set k s) w1) := fun w1 hN => by
      obtain ⟨d', e1, e2, e3, -, h4, h5⟩ := hN
      rw [he]
      refine ⟨_, h4, h5, hO.mid ?_, ?_⟩
      · rw [e3, List.length_set]; exact hO d (by simp)
      · rw [txN_append, txN_cons, ← he, HE.out _ e3]
    clear hL HF he hO
    go_wp2_with fail
    refine HSe.mono ?_
    rintro e w1 ⟨rfl, hN⟩
    have HDD : Hid (Does w B l R most cnt ns ((txN ns).set k s) w1) := HD.out w1 hN
    clear hN HSe
    go_wp2
    go_ret
    exact ⟨rfl, HDD.out⟩
  · have hdN := hL.nod d (by simp)
    have HSe := Set_full B d.p d.r d.n d.c d.ls j j s w hdN.pk hdN.fit hdN.siz (by omega) (plc_nat hj2) HS.out (by omega)
    have HL1 : Hid (Lst w B l R most cnt (l1 ++ d :: l2)) := hL
    have HO1 : Hid (Ok most (l1 ++ d :: l2)) := hO
    have HJ : Hid (j < d.ls.length) := hj2
    have H2 : Hid (2 ≤ d.ls.length) := by
      rcases Nat.lt_or_ge d.ls.length 2 with h2 | h2
      · exfalso
        have hf2 : Fit (d.ls.set j s) := by
          rw [set_split d.ls j s hj2]
          exact fit_append (fit_take hdN.fit j) (fit_append (fit_one HS.out) (fit_drop hdN.fit _))
        have := pack_le hf2 (by rw [List.length_set]; omega)
        omega
      · exact h2
    have HEn : Hid (ns = l1 ++ d :: l2) := he
    clear hL HF he hdN hO
    go_wp2_with fail
    refine HSe.mono ?_
    rintro e w1 ⟨hb, rfl⟩
    have HB : Hid (Below w.heap.size w w1) := hb
    have hL1 := HL1.out.keep hb
    have hcp1 := hL1.cpk (d := d) (by simp)
    have HDe := Delete_nd B l R most cnt l1 l2 d j 1 w1 hL1 HJ.out
    have hg1 : gone d.ls j 1 = 1 := by have := HJ.out; unfold gone; omega
    rw [hg1] at HDe
    clear hb hL1 HSe hg1
    go_wp2_with fail
    refine HDe.mono ?_
    rintro e w2 ⟨rfl, d', e1, e2, e3, -, h4, h5⟩
    obtain ⟨q, hq⟩ : ∃ q, cnt = q + 1 := ⟨cnt - 1, by have := HC0.out; omega⟩
    obtain ⟨h6, h7⟩ := h4.count q
    have hc2 := h4.ccnt
    have hf2 := h4.frozen 1
    have hqi : (cnt : Int) - 1 = q := by omega
    have hO2 : Ok most (l1 ++ d' :: l2) := HO1.out.mid (by
      have h0 := HO1.out d (by simp)
      have h2 := H2.out
      have h3 := HJ.out
      rw [e3]
      simp only [List.length_append, List.length_take, List.length_drop]
      omega)
    have hjd : j ≤ d'.ls.length := by
      have h2 := H2.out
      have h3 := HJ.out
      rw [e3]
      simp only [List.length_append, List.length_take, List.length_drop]
      omega
    have HP := putAhead_any B l R most q l1 l2 d' j s _ h6 hO2 hjd HS.out (by omega) hmost hmost2
    have HG : Hid (Goes w (w2.setCell ⟨l, 1, none⟩ (.int .i64 (q : Nat))) l R ns (l1 ++ d' :: l2)) := by rw [HEn.out]; exact (h5.first HB.out).trans h7
    have HQ : Hid (q + 1 = cnt) := hq.symm
    have HTx : Hid (txN l1 ++ (d'.ls.take j ++ (s :: d'.ls.drop j)) ++ txN l2 = (txN ns).set k s) := by
      show _ = _
      have h3 := HJ.out
      rw [← HE.out _ rfl, set_split d.ls j s h3, List.append_assoc]
      have e4 : d'.ls.take j = d.ls.take j := by
        rw [e3, List.take_append_of_le_length (by rw [List.length_take]; omega), List.take_take, Nat.min_self]
      have e5 : d'.ls.drop j = d.ls.drop (j + 1) := by
        rw [e3, List.drop_append_of_le_length (by rw [List.length_take]; omega), List.drop_take, Nat.sub_self, List.take_zero, List.nil_append]
      rw [e4, e5]; simp
    rw [e1] at HP
    clear h4 h5 h6 h7 hO2 hjd HDe e1 e2 e3
    go_wp2_with fail
    refine HP.mono ?_
    rintro e w3 ⟨rfl, ns3, h1, h2, h3, h4⟩
    have HDD : Hid (Does w B l R most cnt ns ((txN ns).set k s) w3) := ⟨ns3, by rw [HQ.out] at h1; exact h1, HG.out.trans h2, h3, by rw [h4]; exact HTx.out⟩
    clear h1 h2 h3 h4 HP
    go_wp2
    go_ret
    exact ⟨rfl, HDD.out⟩
end Go.Proofs.Ytemiajjjhhofaab
