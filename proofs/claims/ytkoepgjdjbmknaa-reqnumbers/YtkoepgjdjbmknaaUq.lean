/-
  A line up to its end, read.
-/
import Derived.Test.YtkoepgjdjbmknaaUp
import Derived.BigRegion
namespace Go.Proofs.Ytkoepgjdjbmknaa
open Go.RowKit Go.PlainAid

/-- What upTo leaves. -/
def UpR (w' : World) (p : Nat) (o : Rs (List UInt8)) (e : Ending) : Prop :=
  match o with
  | some (some (x, r)) => ∃ a n c a2 n2 c2, e = .returned (.tuple #[.slice a n c, .bool true]) ∧ Rd w' a n c x ∧ Rdr w' p a2 n2 c2 r false
  | none => ∃ a2 n2 c2 r, e = .returned (.tuple #[.slice none 0 0, .bool false]) ∧ Rdr w' p a2 n2 c2 r false
  | some none => ∃ a2 n2 c2 r, e = .returned (.tuple #[.slice none 0 0, .bool false]) ∧ Rdr w' p a2 n2 c2 r true

theorem take_crlf (l : List UInt8) (m H : Nat) (hH : H = min l.length (m + 2)) : crlf (l.take H) = (crlf l).bind fun i => if m < i then none else some i := by
  subst hH
  cases h : crlf l with
  | none =>
    refine crlf_eq_none fun j => ?_
    rintro ⟨h1, h2⟩
    rw [List.getElem?_take] at h1 h2
    split at h1
    · split at h2
      · exact crlf_none h j ⟨h1, h2⟩
      · cases h2
    · cases h1
  | some i =>
    obtain ⟨k0, k1, k2⟩ := crlf_some h
    show _ = if m < i then none else some i
    by_cases hm : m < i
    · rw [if_pos hm]
      refine crlf_eq_none fun j => ?_
      rintro ⟨h1, h2⟩
      rw [List.getElem?_take] at h1 h2
      split at h1
      · split at h2
        · exact crlf_min h j (by omega) ⟨h1, h2⟩
        · cases h2
      · cases h1
    · rw [if_neg hm]
      refine crlf_eq ?_ ?_ fun j hj => ?_
      · rw [List.getElem?_take, if_pos (by omega)]; exact k1
      · rw [List.getElem?_take, if_pos (by omega)]; exact k2
      · rintro ⟨h1, h2⟩
        rw [List.getElem?_take] at h1 h2
        split at h1
        · split at h2
          · exact crlf_min h j hj ⟨h1, h2⟩
          · cases h2
        · cases h1
theorem take_lf (l : List UInt8) (m H : Nat) (hH : H = min l.length (m + 1)) : lf (l.take H) = (lf l).bind fun i => if m < i then none else some i := by
  subst hH
  cases h : lf l with
  | none =>
    refine lf_eq_none fun j => ?_
    rw [List.getElem?_take]
    split
    · exact lf_none h j
    · simp
  | some i =>
    obtain ⟨k0, k1⟩ := lf_some h
    show _ = if m < i then none else some i
    by_cases hm : m < i
    · rw [if_pos hm]
      refine lf_eq_none fun j => ?_
      rw [List.getElem?_take]
      split
      · exact lf_min h j (by omega)
      · simp
    · rw [if_neg hm]
      refine lf_eq ?_ fun j hj => ?_
      · rw [List.getElem?_take, if_pos (by omega)]; exact k1
      · rw [List.getElem?_take]
        split
        · exact lf_min h j hj
        · simp

/-- A text that was converted. -/
theorem conv_rd (w : World) (s : ByteArray) (hs : s.size ≤ 1000000) : ∃ c, (convert 9 24 (.string s)).run Try.prog w = .ok (.slice (some ⟨w.heap.size, 0, none⟩) s.size c) (Lib.bytesWorld w 5 s) ∧ Rd (Lib.bytesWorld w 5 s) (some ⟨w.heap.size, 0, none⟩) s.size c (lst s) := by
  have hsz : (Lib.bytesCells w 5 s).size = s.size + (grownCap w s.size 0 5 - s.size) := by simp [Lib.bytesCells]
  have hge := grownCap_ge w s.size 0 5
  refine ⟨_, Lib.run_convert_string_bytes (P := Try.prog) w 9 24 5 s Try.underlying9 Try.underlying24 Try.underlying5, len_lst s, hge, grownCap_le_maxLen w s.size 0 5 (by unfold maxLen; omega), (fun e => (by cases e)), fun j hj => ⟨w.heap.size, 0, rfl, ?_⟩⟩
  rw [Nat.zero_add]
  exact Lib.bytesWorld_cell w 5 s j hj
theorem conv_below (w : World) (s : ByteArray) : Below w.heap.size w (Lib.bytesWorld w 5 s) :=
  ⟨rfl, rfl, rfl, by rw [Lib.bytesWorld_size]; omega, fun k hk => Lib.bytesWorld_at_old w 5 s k hk⟩

set_option maxHeartbeats 2000000 in
set_option maxRecDepth 100000 in
theorem upTo_any (E : ByteArray) (ix : List UInt8 → Option Nat) (m : Nat) (hE1 : 0 < E.size) (hE2 : E.size ≤ 2) (hm : m ≤ 4096) (hix : ∀ l, Lib.index l (lst E) = idxV (ix l)) (htk : ∀ (l : List UInt8) H, H = min l.length (m + E.size) → ix (l.take H) = (ix l).bind fun i => if m < i then none else some i) (hlt : ∀ l i, ix l = some i → i + E.size ≤ l.length)
    (p : Nat) (a : Option Addr) (n c : Nat) (l : List UInt8) (M : Int) (w : World) (hM : w.cell? ⟨0, 0, none⟩ = some (.int .i64 M)) (h : Rdr w p a n c l false) :
    Calls Try.prog 46 #[.pointer (some ⟨p, 0, none⟩), .string E, .int .i64 m] w fun e w' => Hid (Stay w w' [p]) ∧ UpR w' p (upR (ix l) E.size m l) e := by
  obtain ⟨H, hH⟩ : ∃ H, H = min l.length (m + E.size) := ⟨_, rfl⟩
  have HT : Hid (ix (l.take H) = (ix l).bind fun i => if m < i then none else some i) := htk l H hH
  have hn : l.length = n := h.rd.len
  rw [hn] at hH
  have c0 := h.cell0
  obtain ⟨an, cn, hsl, hRn⟩ := h.rd.slice_h H (by omega)
  have hn63 : n ≤ 9223372036854775807 := by have h1 := h.rd.fit; have h2 := h.rd.max; unfold maxLen at h2; omega
  have HH : Hid (Rdr w p a n c l false) := h
  have HM : Hid (w.cell? ⟨0, 0, none⟩ = some (.int .i64 M)) := hM
  have hsum : IntKind.i64.wrap ((m : Int) + E.size) = (m : Int) + E.size := by simp [IntKind.wrap, IntKind.signed, IntKind.bits]; omega
  have hmin : min (n : Int) ((m : Int) + E.size) = (H : Int) := by omega
  have HHE : Hid (H = min n (m + E.size)) := hH
  have HN : Hid (l.length = n) := hn
  clear h hM htk hH hn
  go_enter Try.func46, Try.ntmps46
  go_wp2
  go_region
  have HD : Hid (Rdr w.drew p a n c l false) := HH.out.keep (Below.refl _ _).drew
  obtain ⟨cE, hcv0, hRE⟩ := conv_rd w.drew E (by omega)
  have HB1 : Hid (Below w.heap.size w (Lib.bytesWorld w.drew 5 E)) := (Below.refl _ _).drew.trans (conv_below w.drew E)
  obtain ⟨W1, hW1⟩ : ∃ W1, Lib.bytesWorld w.drew 5 E = W1 := ⟨_, rfl⟩
  rw [hW1] at hcv0 hRE HB1
  have hcv : (convert 9 24 (.string E)).run Try.prog w.drew = .ok (.slice (some ⟨w.heap.size, 0, none⟩) E.size cE) W1 := hcv0
  have HR1 : Hid (Rdr W1 p a n c l false) := HH.out.keep HB1.out
  have HRN : Hid (Rd W1 an H cn (l.take H)) := hRn.keep HB1.out
  have hM1 : W1.cell? ⟨0, 0, none⟩ = some (.int .i64 M) := by rw [HB1.out.cell (p := ⟨0, 0, none⟩) (World.block_lt_of_cell? _ _ HM.out)]; exact HM.out
  have HIX := Index_any (e := lst E) M HRN.out hRE hE1 (by omega) (by have := HHE.out; omega) hM1
  rw [hix, HT.out] at HIX
  have HS1 : Hid (Stay w W1 [p]) := Stay.of_below HB1.out _
  clear hW1 hcv0 hRE hM1 hRn HT hsum hmin HB1 c0
  cases ho : ix l with
  | none =>
    rw [ho] at HIX
    by_cases hg : m < n
    · have HU : Hid (upR (ix l) E.size m l = .wrong) := by show _ = _; rw [ho, upR, if_pos (by rw [HN.out]; exact hg)]
      have hgI : (m : Int) < (n : Int) := by omega
      go_wp2_with (go_at_call 52; refine HIX.mono ?_; rintro e w2 ⟨rfl, q, hw2⟩; have HB2 : Hid (Below W1.heap.size W1 w2) := (by rw [hw2]; exact below_drewN _ _); have HR2 : Hid (Rdr w2 p a n c l false) := HR1.out.keep HB2.out; have HN2 : Hid (Rd w2 an H cn (l.take H)) := HRN.out.keep HB2.out; have HS2 : Hid (Stay w w2 [p]) := HS1.out.trans (Stay.of_below HB2.out [p]) (fun _ h => .inl h); have c20 := HR2.out.cell0; have c21 := HR2.out.cell1; have f20 := HR2.out.free 0; have f21 := HR2.out.free 1; clear hw2)
      go_ret2
      refine ⟨HS2.out.trans Stay.set (fun _ h => .inl h), ?_⟩
      rw [HU.out]
      exact ⟨_, _, _, _, rfl, HR2.out.set1 _⟩
    · have HU : Hid (upR (ix l) E.size m l = .part) := by show _ = _; rw [ho, upR, if_neg (by rw [HN.out]; exact hg)]
      have hgI : ¬ (m : Int) < (n : Int) := by omega
      go_wp2_with (go_at_call 52; refine HIX.mono ?_; rintro e w2 ⟨rfl, q, hw2⟩; have HB2 : Hid (Below W1.heap.size W1 w2) := (by rw [hw2]; exact below_drewN _ _); have HR2 : Hid (Rdr w2 p a n c l false) := HR1.out.keep HB2.out; have HN2 : Hid (Rd w2 an H cn (l.take H)) := HRN.out.keep HB2.out; have HS2 : Hid (Stay w w2 [p]) := HS1.out.trans (Stay.of_below HB2.out [p]) (fun _ h => .inl h); have c20 := HR2.out.cell0; have c21 := HR2.out.cell1; have f20 := HR2.out.free 0; have f21 := HR2.out.free 1; clear hw2)
      go_ret2
      refine ⟨HS2.out.trans Stay.set (fun _ h => .inl h), ?_⟩
      rw [HU.out]
      exact ⟨_, _, _, _, rfl, HR2.out.set1 _⟩
  | some i =>
    have hil := hlt l i ho
    rw [ho] at HIX
    by_cases hmi : m < i
    · have HU : Hid (upR (ix l) E.size m l = .wrong) := by show _ = _; rw [ho, upR, if_pos hmi]
      have hgI : (m : Int) < (n : Int) := by have := HN.out; omega
      have HIX2 : Calls Try.prog 52 #[.slice an H cn, .slice (some ⟨w.heap.size, 0, none⟩) E.size cE] W1 fun e w' => e = .returned (.int .i64 (idxV none)) ∧ ∃ q, w' = W1.drewN q := by
        have : ((some i).bind fun i => if m < i then none else some i) = none := by show (if m < i then none else some i) = none; rw [if_pos hmi]
        rw [this] at HIX
        exact HIX
      clear HIX hmi hil
      go_wp2_with (go_at_call 52; refine HIX2.mono ?_; rintro e w2 ⟨rfl, q, hw2⟩; have HB2 : Hid (Below W1.heap.size W1 w2) := (by rw [hw2]; exact below_drewN _ _); have HR2 : Hid (Rdr w2 p a n c l false) := HR1.out.keep HB2.out; have HN2 : Hid (Rd w2 an H cn (l.take H)) := HRN.out.keep HB2.out; have HS2 : Hid (Stay w w2 [p]) := HS1.out.trans (Stay.of_below HB2.out [p]) (fun _ h => .inl h); have c20 := HR2.out.cell0; have c21 := HR2.out.cell1; have f20 := HR2.out.free 0; have f21 := HR2.out.free 1; clear hw2)
      go_ret2
      refine ⟨HS2.out.trans Stay.set (fun _ h => .inl h), ?_⟩
      rw [HU.out]
      exact ⟨_, _, _, _, rfl, HR2.out.set1 _⟩
    · have HU : Hid (upR (ix l) E.size m l = .yes (l.take i) (l.drop (i + E.size))) := by show _ = _; rw [ho, upR, if_neg hmi]
      have HIX2 : Calls Try.prog 52 #[.slice an H cn, .slice (some ⟨w.heap.size, 0, none⟩) E.size cE] W1 fun e w' => e = .returned (.int .i64 (i : Int)) ∧ ∃ q, w' = W1.drewN q := by
        have : ((some i).bind fun i => if m < i then none else some i) = some i := by show (if m < i then none else some i) = some i; rw [if_neg hmi]
        rw [this] at HIX
        exact HIX
      have hnl := HN.out
      obtain ⟨a3, c3, hs3, hR3, hL3⟩ := HR1.out.slice_l (i + E.size) (by omega)
      obtain ⟨a4, c4, hs4, hR4⟩ := HRN.out.slice_h i (by have := HHE.out; omega)
      rw [List.take_take, Nat.min_eq_left (by have := HHE.out; omega)] at hR4
      have HR3 : Hid (Rd W1 a3 (n - (i + E.size)) c3 (l.drop (i + E.size))) := hR3
      have HR4 : Hid (Rd W1 a4 i c4 (l.take i)) := hR4
      have HL3 : Hid (0 < n - (i + E.size) → ∀ x, a3 = some x → x.block < p) := hL3
      obtain ⟨K, hK⟩ : ∃ K : Nat, K = i + E.size := ⟨_, rfl⟩
      have hKI : (i : Int) + E.size = (K : Int) := by omega
      rw [← hK] at hs3 HR3 HU HL3
      have HK : Hid (K = i + E.size) := hK
      have hi0 : ¬ (i : Int) < 0 := by omega
      have hib : i ≤ 4096 := by omega
      clear HIX hmi hil hR3 hR4 hK hnl hL3
      go_wp2_with (go_at_call 52; refine HIX2.mono ?_; rintro e w2 ⟨rfl, q, hw2⟩; have HB2 : Hid (Below W1.heap.size W1 w2) := (by rw [hw2]; exact below_drewN _ _); have HR2 : Hid (Rdr w2 p a n c l false) := HR1.out.keep HB2.out; have HQ3 : Hid (Rd w2 a3 (n - K) c3 (l.drop K)) := HR3.out.keep HB2.out; have HQ4 : Hid (Rd w2 a4 i c4 (l.take i)) := HR4.out.keep HB2.out; have HS2 : Hid (Stay w w2 [p]) := HS1.out.trans (Stay.of_below HB2.out [p]) (fun _ h => .inl h); have c20 := HR2.out.cell0; have c21 := HR2.out.cell1; have f20 := HR2.out.free 0; have f21 := HR2.out.free 1; clear hw2)
      go_ret2
      refine ⟨HS2.out.trans Stay.set (fun _ h => .inl h), ?_⟩
      rw [HU.out]
      exact ⟨_, _, _, _, _, _, rfl, Rd.set HR2.out HQ4.out, HR2.out.set0 HQ3.out HL3.out⟩
end Go.Proofs.Ytkoepgjdjbmknaa
