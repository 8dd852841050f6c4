/-
  Small letters, as the program and as the document have them.
-/
import Derived.Test.YtlapiaoopmhogaaDoorRr
import Derived.Lib.ConvBytes
namespace Go.Proofs.YtlapiaoopmhogaaDoor
open Go.RowKit Go.PlainAid

/-- A row of bytes in block g, cell by cell; a mark behind its end is let in. -/
structure Row (w : World) (B g n c : Nat) (l : List UInt8) : Prop where
  low : B ≤ g
  len : l.length = n
  fit : n ≤ c
  max : c ≤ maxLen
  cell : ∀ j, j < n → w.cell? ⟨g, j, none⟩ = some (.int .u8 ((l.getD j 0).toNat : Nat))
  free : ∀ j, j < c → w.frozen? ⟨g, j, none⟩ = false
theorem Row.set {w : World} {B g n c : Nat} {l : List UInt8} (h : Row w B g n c l) (i : Nat) (hi : i < n) (b : UInt8) (x : Int) (hx : x = (b.toNat : Nat)) : Row (w.setCell ⟨g, i, none⟩ (.int .u8 x)) B g n c (l.set i b) := by
  refine ⟨h.low, by rw [List.length_set]; exact h.len, h.fit, h.max, fun j hj => ?_, fun j hj => by rw [World.frozen?_setCell]; exact h.free j hj⟩
  by_cases e : j = i
  · subst e
    rw [World.cell?_setCell_same _ _ _ (h.cell j hj), hx, List.getD_eq_getElem?_getD, List.getElem?_set_self (by rw [h.len]; exact hj)]; rfl
  · rw [World.cell?_setCell_other _ _ _ _ (by intro q; cases q; exact e rfl), h.cell j hj, List.getD_eq_getElem?_getD, List.getD_eq_getElem?_getD, List.getElem?_set_ne (fun q => e q.symm)]
theorem Row.rd {w : World} {B g n c : Nat} {l : List UInt8} (h : Row w B g n c l) : Rd w (some ⟨g, 0, none⟩) n c l :=
  ⟨h.len, h.fit, h.max, (fun e => (by cases e)), fun j hj => ⟨g, 0, rfl, by rw [Nat.zero_add]; exact h.cell j hj⟩⟩
/-- []byte(s). -/
theorem conv_row (w : World) (s : ByteArray) (hs : s.size ≤ maxLen) :
    ∃ c wn, (convert 9 33 (.string s)).run Tryd.prog w = .ok (.slice (some ⟨w.heap.size, 0, none⟩) s.size c) wn ∧ Below w.heap.size w wn ∧ w.heap.size < wn.heap.size ∧ Row wn w.heap.size w.heap.size s.size c (lst s) := by
  refine ⟨_, _, Lib.run_convert_string_bytes (P := Tryd.prog) w 9 33 5 s Tryd.underlying9 Tryd.underlying33 Tryd.underlying5, ?_, by rw [Lib.bytesWorld_size]; omega, ?_⟩
  · exact ⟨rfl, rfl, rfl, by rw [Lib.bytesWorld_size]; omega, fun k hk => Lib.bytesWorld_at_old w 5 s k hk⟩
  · have hsz : (Lib.bytesCells w 5 s).size = s.size + (grownCap w s.size 0 5 - s.size) := by simp [Lib.bytesCells]
    have hge := grownCap_ge w s.size 0 5
    refine ⟨Nat.le_refl _, len_lst s, hge, grownCap_le_maxLen w s.size 0 5 hs, fun j hj => Lib.bytesWorld_cell w 5 s j hj, fun j hj => ?_⟩
    have hat := Lib.bytesWorld_at_new w 5 s
    simp only [World.frozen?, hat]
    simp; omega

def lowB (x : UInt8) : UInt8 := if 65 ≤ x.toNat ∧ x.toNat ≤ 90 then UInt8.ofNat (x.toNat + 32) else x
def low (s : ByteArray) : ByteArray := bs ((lst s).map lowB)
theorem low_size (s : ByteArray) : (low s).size = s.size := by rw [low, size_bs, List.length_map, len_lst]
theorem lowB_yes (x : UInt8) (h : 65 ≤ x.toNat) (h2 : x.toNat ≤ 90) : ((lowB x).toNat : Int) = (x.toNat : Int) + 32 := by
  rw [lowB, if_pos ⟨h, h2⟩, UInt8.toNat_ofNat', Nat.mod_eq_of_lt (by omega)]; rfl
theorem lowB_no (x : UInt8) (h : ¬ (65 ≤ x.toNat ∧ x.toNat ≤ 90)) : lowB x = x := by rw [lowB, if_neg h]
/-- The first k bytes small. -/
def lowTo (k : Nat) (l : List UInt8) : List UInt8 := (l.take k).map lowB ++ l.drop k
theorem lowTo_zero (l : List UInt8) : lowTo 0 l = l := by simp [lowTo]
theorem lowTo_at (k : Nat) (l : List UInt8) : (lowTo k l).getD k 0 = l.getD k 0 := by
  unfold lowTo
  rw [List.getD_eq_getElem?_getD, List.getD_eq_getElem?_getD]
  by_cases h : k < l.length
  · rw [List.getElem?_append_right (by simp; omega)]
    simp [List.length_take, Nat.min_eq_left (Nat.le_of_lt h)]
  · rw [List.getElem?_eq_none (by simp; omega), List.getElem?_eq_none (by omega)]
theorem lowTo_up (k : Nat) (l : List UInt8) (h : k < l.length) : lowTo (k + 1) l = (lowTo k l).set k (lowB (l.getD k 0)) := by
  unfold lowTo
  have e : ((l.take k).map lowB).length = k := by rw [List.length_map, List.length_take, Nat.min_eq_left (Nat.le_of_lt h)]
  rw [List.set_append_right _ _ (by rw [e]; exact Nat.le_refl _), e, Nat.sub_self, List.drop_eq_getElem_cons h, List.take_add_one, List.getElem?_eq_getElem h, List.map_append, List.append_assoc, List.getD_eq_getElem?_getD, List.getElem?_eq_getElem h]
  rfl
theorem lowTo_same (k : Nat) (l : List UInt8) (h : k < l.length) (he : lowB (l.getD k 0) = l.getD k 0) : lowTo (k + 1) l = lowTo k l := by
  rw [lowTo_up k l h, he]
  have e := lowTo_at k l
  rw [← e]
  have hl : k < (lowTo k l).length := by unfold lowTo; simp; omega
  rw [List.getD_eq_getElem?_getD, List.getElem?_eq_getElem hl]
  exact List.set_getElem_self hl
theorem lowTo_all (k : Nat) (l : List UInt8) (h : l.length ≤ k) : lowTo k l = l.map lowB := by
  unfold lowTo; rw [List.take_of_length_le h, List.drop_eq_nil_of_le h, List.append_nil]

set_option maxRecDepth 100000 in
set_option maxHeartbeats 4000000 in
theorem Lower_any (s : ByteArray) (w : World) (hs : s.size ≤ maxLen) :
    Calls Tryd.prog 16 #[.string s] w fun e w' => e = .returned (.string (low s)) ∧ Below w.heap.size w w' := by
  obtain ⟨cE, W2, hcv, hB2, hlt, hRow⟩ := conv_row w s hs
  obtain ⟨l, hl⟩ : ∃ l, lst s = l := ⟨_, rfl⟩
  have HE : Hid (low s = bs (l.map lowB)) := by show _ = _; rw [low, hl]
  have HN : Hid (l.length = s.size) := by show _ = _; rw [← hl]; exact len_lst s
  have HB2 : Hid (Below w.heap.size w W2) := hB2
  have HRow : Hid (Row W2 w.heap.size w.heap.size s.size cE (lowTo 0 l)) := by show Row _ _ _ _ _ _; rw [lowTo_zero, ← hl]; exact hRow
  obtain ⟨n, hn⟩ : ∃ n, s.size = n := ⟨_, rfl⟩
  rw [hn] at hcv HN HRow hs
  have hfits : cE ≤ maxLen := hRow.max
  have hfit : n ≤ cE := by rw [← hn]; exact hRow.fit
  have hm : n ≤ 9223372036854775807 := hs
  obtain ⟨gx, hgx⟩ : ∃ g, w.heap.size = g := ⟨_, rfl⟩
  rw [hgx] at hcv HRow
  have HG : Hid (w.heap.size ≤ gx) := by show _ ≤ _; omega
  clear hB2 hlt hRow hl hn hgx hs
  go_enter Tryd.func16, Tryd.ntmps16
  go_wp2
  go_loopg [10] n (fun g iv wr => ∃ k : Nat, iv = .int .i64 k ∧ k + g = n ∧ Hid (Row wr gx gx n cE (lowTo k l)) ∧ Hid (Below w.heap.size w wr))
  case atStart => exact ⟨0, rfl, by omega, HRow, HB2⟩
  case round =>
    obtain ⟨k, rfl, hk, HR, HB⟩ := hrel
    by_cases h1 : (k : Int) < n
    · have hkn : k < n := by omega
      have hcell := HR.out.cell k hkn
      rw [lowTo_at] at hcell
      have hfr := HR.out.free k (by omega)
      have hU : Hid (65 ≤ (l.getD k 0).toNat ∧ (l.getD k 0).toNat ≤ 90 → Row (wr.setCell ⟨gx, k, none⟩ (.int .u8 (((l.getD k 0).toNat : Int) + 32))) gx gx n cE (lowTo (k + 1) l)) := fun hx => by
        rw [lowTo_up k l (by rw [HN.out]; exact hkn)]
        exact HR.out.set k hkn _ _ (lowB_yes _ hx.1 hx.2).symm
      have hS : Hid (¬ (65 ≤ (l.getD k 0).toNat ∧ (l.getD k 0).toNat ≤ 90) → Row wr gx gx n cE (lowTo (k + 1) l)) := fun hx => by
        rw [lowTo_same k l (by rw [HN.out]; exact hkn) (lowB_no _ hx)]
        exact HR.out
      have hx255 := (l.getD k 0).toNat_lt
      obtain ⟨X, hX⟩ : ∃ X, (l.getD k 0).toNat = X := ⟨_, rfl⟩
      rw [hX] at hcell hU hS hx255
      clear hX
      by_cases h65 : (65 : Int) ≤ X
      · by_cases h90 : (X : Int) ≤ 90
        · have hRn := hU.out ⟨by omega, by omega⟩
          have HBn : Hid (Below w.heap.size w (wr.setCell ⟨gx, k, none⟩ (.int .u8 ((X : Int) + 32)))) := HB.out.setCell HG.out _
          have hw1 : IntKind.u8.wrap ((X : Int) - 65) = (X : Int) - 65 := by rw [IntKind.wrap_u8]; omega
          have hw2 : IntKind.u8.wrap ((X : Int) - 65 + 97) = (X : Int) + 32 := by rw [IntKind.wrap_u8]; omega
          have HRn : Hid (Row (wr.setCell ⟨gx, k, none⟩ (.int .u8 ((X : Int) + 32))) gx gx n cE (lowTo (k + 1) l)) := hRn
          clear hRn hU hS
          go_wp2
          go_roundg (gk - 1)
          case measure => omega
          case rel => exact ⟨k + 1, by go_num, by omega, HRn, HBn⟩
        · have HRn : Hid (Row wr gx gx n cE (lowTo (k + 1) l)) := hS.out (by omega)
          clear hU hS
          go_wp2
          go_roundg (gk - 1)
          case measure => omega
          case rel => exact ⟨k + 1, by go_num, by omega, HRn, HB⟩
      · have HRn : Hid (Row wr gx gx n cE (lowTo (k + 1) l)) := hS.out (by omega)
        clear hU hS
        go_wp2
        go_roundg (gk - 1)
        case measure => omega
        case rel => exact ⟨k + 1, by go_num, by omega, HRn, HB⟩
    · have hk2 : k = n := by omega
      subst hk2
      have hx := HR.out.rd.text
      rw [lowTo_all k l (by rw [HN.out]; omega), ← HE.out] at hx
      go_wp2
      go_ret
      exact ⟨rfl, HB.out⟩
end Go.Proofs.YtlapiaoopmhogaaDoor
