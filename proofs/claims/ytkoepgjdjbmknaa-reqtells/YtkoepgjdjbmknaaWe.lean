/-
  The law: rows of right requests, with some turned, cut off, are read as the document says.
-/
import Derived.Test.YtkoepgjdjbmknaaWr
import Derived.Test.YtkoepgjdjbmknaaLawEnd
namespace Go.Proofs.Ytkoepgjdjbmknaa
open Go.RowKit Go.PlainAid

/-- A row of bytes in block g, cell by cell; a mark behind its end is let in. -/
structure Row (w : World) (B g n c : Nat) (l : List UInt8) : Prop where
  low : B ≤ g
  len : l.length = n
  fit : n ≤ c
  max : c ≤ maxLen
  cell : ∀ j, j < n → w.cell? ⟨g, j, none⟩ = some (.int .u8 ((l.getD j 0).toNat : Nat))
  free : ∀ j, j < c → w.frozen? ⟨g, j, none⟩ = false
theorem Row.set {w : World} {B g n c : Nat} {l : List UInt8} (h : Row w B g n c l) (i : Nat) (hi : i < n) (b : UInt8) (x : Int) (hx : x = (b.toNat : Nat)) : Row (w.setCell ⟨g, i, none⟩ (.int .u8 x)) B g n c (l.set i b) := by
  refine ⟨h.low, by rw [List.length_set]; exact h.len, h.fit, h.max, fun j hj => ?_, fun j hj => by rw [World.frozen?_setCell]; exact h.free j hj⟩
  by_cases e : j = i
  · subst e
    rw [World.cell?_setCell_same _ _ _ (h.cell j hj), hx, List.getD_eq_getElem?_getD, List.getElem?_set_self (by rw [h.len]; exact hj)]; rfl
  · rw [World.cell?_setCell_other _ _ _ _ (by intro q; cases q; exact e rfl), h.cell j hj, List.getD_eq_getElem?_getD, List.getD_eq_getElem?_getD, List.getElem?_set_ne (fun q => e q.symm)]
theorem Row.rd {w : World} {B g n c : Nat} {l : List UInt8} (h : Row w B g n c l) : Rd w (some ⟨g, 0, none⟩) n c l :=
  ⟨h.len, h.fit, h.max, (fun e => (by cases e)), fun j hj => ⟨g, 0, rfl, by rw [Nat.zero_add]; exact h.cell j hj⟩⟩
/-- []byte(s). -/
theorem conv_row (w : World) (s : ByteArray) (hs : s.size ≤ 140737488355328) :
    ∃ c wn, (convert 9 24 (.string s)).run Try.prog w = .ok (.slice (some ⟨w.heap.size, 0, none⟩) s.size c) wn ∧ Below w.heap.size w wn ∧ w.heap.size < wn.heap.size ∧ Row wn w.heap.size w.heap.size s.size c (lst s) := by
  refine ⟨_, _, Lib.run_convert_string_bytes (P := Try.prog) w 9 24 5 s Try.underlying9 Try.underlying24 Try.underlying5, ?_, by rw [Lib.bytesWorld_size]; omega, ?_⟩
  · exact ⟨rfl, rfl, rfl, by rw [Lib.bytesWorld_size]; omega, fun k hk => Lib.bytesWorld_at_old w 5 s k hk⟩
  · have hsz : (Lib.bytesCells w 5 s).size = s.size + (grownCap w s.size 0 5 - s.size) := by simp [Lib.bytesCells]
    have hge := grownCap_ge w s.size 0 5
    refine ⟨Nat.le_refl _, len_lst s, hge, grownCap_le_maxLen w s.size 0 5 (by unfold maxLen; omega), fun j hj => Lib.bytesWorld_cell w 5 s j hj, fun j hj => ?_⟩
    have hat := Lib.bytesWorld_at_new w 5 s
    simp only [World.frozen?, hat]
    simp; omega
theorem xor_byte (X : UInt8) (T : Nat) (hT : T ≤ 255) : ∃ b : UInt8, bits .xor .u8 ((X.toNat : Nat) : Int) (T : Int) = ((b.toNat : Nat) : Int) := by
  have h1 := X.toNat_lt
  have hx : X.toNat ^^^ T < 2 ^ 8 := Nat.xor_lt_two_pow (by omega) (by omega)
  refine ⟨UInt8.ofNat (X.toNat ^^^ T), ?_⟩
  rw [u8_xor_nat _ _ (by omega) (by omega), UInt8.toNat_ofNat', Nat.mod_eq_of_lt hx]

set_option maxHeartbeats 8000000 in
set_option maxRecDepth 100000 in
theorem tells_any (a : Option Addr) (n c : Nat) (b : ByteArray) (pl : Int) (turn : Nat) (cut : Int) (w : World) (hg : GL w) (h : RdP w a n) (ht : turn ≤ 255) :
    Calls Try.prog 4 #[.slice a n c, .string b, .int .i64 pl, .int .u8 (turn : Int), .int .i64 cut] w fun e w' => e = .returned (.bool true) ∧ Below w.heap.size w w' := by
  have CR := row_any a n c w h
  have HG : Hid (GL w) := hg
  have HT : Hid (turn ≤ 255) := ht
  have CC := fun w => Cut_any b 100 w (by omega)
  have hbs := size_cutB b 100 (by omega)
  obtain ⟨B, hB⟩ : ∃ B, cutB b 100 = B := ⟨_, rfl⟩
  rw [hB] at CC hbs
  clear hg h ht hB
  go_enter Try.func4, Try.ntmps4
  go_wp2_with fail
  refine CR.mono ?_
  rintro e w1 ⟨hB1, o, rfl, hos⟩
  clear CR
  obtain ⟨cE, W2, hcv, hB2, hlt, hRow⟩ := conv_row w1 o (by omega)
  have HB2 : Hid (Below w.heap.size w W2) := hB1.trans (hB2.mono hB1.size)
  have HRow : Hid (Row W2 w1.heap.size w1.heap.size o.size cE (lst o)) := hRow
  have HL : Hid (w.heap.size ≤ w1.heap.size) := hB1.size
  have hfits : cE ≤ maxLen := hRow.max
  have hxs : (bs (lst o)).size = o.size := by rw [size_bs, len_lst]
  have CZ := fun w => Within_any cut 0 o.size w (by omega) (by omega) (by omega)
  have hob : (o ++ B).size ≤ 3000 := by rw [ByteArray.size_append]; omega
  obtain ⟨OB, hOB⟩ : ∃ OB, o ++ B = OB := ⟨_, rfl⟩
  rw [hOB] at hob
  obtain ⟨gx, hgx⟩ : ∃ g, w1.heap.size = g := ⟨_, rfl⟩
  rw [hgx] at hcv HRow HL
  clear hB1 hB2 hlt hRow hgx
  by_cases hpos : (0 : Int) < o.size
  · have CW := fun w => Within_any pl 0 ((o.size : Int) - 1) w (by omega) (by omega) (by omega)
    go_wp2_with fail
    refine (CW _).mono ?_
    rintro e w3 ⟨rfl, q, hq0, hq1, rfl⟩
    obtain ⟨j, rfl⟩ := Int.eq_ofNat_of_zero_le hq0
    have hjn : (j : Int) < o.size := by omega
    have hcell := HRow.out.cell j (by omega)
    have hfr := HRow.out.free j (by have := HRow.out.fit; omega)
    obtain ⟨bx, hbx⟩ := xor_byte ((lst o).getD j 0) turn HT.out
    obtain ⟨X, hX⟩ : ∃ X : Int, (((lst o).getD j 0).toNat : Int) = X := ⟨_, rfl⟩
    rw [hX] at hbx hcell
    obtain ⟨BX, hBX⟩ : ∃ BX : Int, ((bx.toNat : Nat) : Int) = BX := ⟨_, rfl⟩
    rw [hBX] at hbx
    have HSet := HRow.out.set j (by omega) bx BX hBX.symm
    obtain ⟨lx, hlx⟩ : ∃ lx, (lst o).set j bx = lx := ⟨_, rfl⟩
    rw [hlx] at HSet
    have hHB3 : Below w.heap.size w (w3.setCell ⟨gx, j, none⟩ (.int .u8 BX)) := HB2.out.setCell HL.out _
    obtain ⟨W3, hW3⟩ : ∃ W3, w3.setCell ⟨gx, j, none⟩ (.int .u8 BX) = W3 := ⟨_, rfl⟩
    rw [hW3] at HSet hHB3
    have HB3 : Hid (Below w.heap.size w W3) := hHB3
    have HXx := HSet.rd
    clear HSet hHB3 hlx hBX hX hq0
    have HX3 : Hid (Rd W3 (some ⟨gx, 0, none⟩) o.size cE lx) := HXx
    have HG3 : Hid (GL W3) := HG.out.keep HB3.out
    obtain ⟨XS, hXS⟩ : ∃ X, bs lx = X := ⟨_, rfl⟩
    have hXSs : XS.size = o.size := by rw [← hXS, size_bs, HX3.out.len]
    clear HXx
    go_wp2_with fail
    go_wp2_with (first
      | (go_at_call 13; refine (known_any _ HGb.out).mono ?_; rintro e wc ⟨rfl, hBc⟩; have HBc : Hid (Below w.heap.size w wc) := HBb.out.trans (hBc.mono HBb.out.size); clear hBc)
      | (go_at_call 11; refine (words_any _ _ (by omega)).mono ?_; rintro e wb ⟨rfl, hBb⟩; have HBb : Hid (Below w.heap.size w wb) := HBa.out.trans (hBb.mono HBa.out.size); have HGb : Hid (GL wb) := HGa.out.keep hBb; clear hBb)
      | (go_at_call 9; refine (next_any _ _ HG9.out (by omega)).mono ?_; rintro e wa ⟨rfl, hBa⟩; have HBa : Hid (Below w.heap.size w wa) := HB9.out.trans (hBa.mono HB9.out.size); have HGa : Hid (GL wa) := HG9.out.keep hBa; clear hBa)
      | (go_at_call 9; refine (next_any _ _ HG8.out (by omega)).mono ?_; rintro e w9 ⟨rfl, hB9⟩; have HB9 : Hid (Below w.heap.size w w9) := HB8.out.trans (hB9.mono HB8.out.size); have HG9 : Hid (GL w9) := HG8.out.keep hB9; have HX9 := HX8.out.keep hB9; have hx9 := HX9.text; rw [hXS] at hx9; clear hB9 HX9)
      | (go_at_call 10; refine (all_any _ _ HG7.out (by omega)).mono ?_; rintro e w8 ⟨rfl, hB8⟩; have HB8 : Hid (Below w.heap.size w w8) := HB7.out.trans (hB8.mono HB7.out.size); have HG8 : Hid (GL w8) := HG7.out.keep hB8; have HX8 : Hid (Rd w8 (some ⟨gx, 0, none⟩) o.size cE lx) := HX7.out.keep hB8; clear hB8)
      | (go_at_call 10; refine (all_any _ _ HG6.out (by omega)).mono ?_; rintro e w7 ⟨rfl, hB7⟩; have HB7 : Hid (Below w.heap.size w w7) := HB6.out.trans (hB7.mono HB6.out.size); have HG7 : Hid (GL w7) := HG6.out.keep hB7; have HX7 : Hid (Rd w7 (some ⟨gx, 0, none⟩) o.size cE lx) := HX6.out.keep hB7; clear hB7)
      | (go_at_call 10; refine (all_any _ _ HG5.out (by simp; omega)).mono ?_; rintro e w6 ⟨rfl, hB6⟩; have HB6 : Hid (Below w.heap.size w w6) := HB5.out.trans (hB6.mono HB5.out.size); have HG6 : Hid (GL w6) := HG5.out.keep hB6; have HX6 : Hid (Rd w6 (some ⟨gx, 0, none⟩) o.size cE lx) := HX5.out.keep hB6; clear hB6)
      | (go_at_call 15; refine (CZ _).mono ?_; rintro e w5 ⟨rfl, z, hz0, hz1, rfl⟩; obtain ⟨z, rfl⟩ := Int.eq_ofNat_of_zero_le hz0; have hzn : z ≤ o.size := (by omega); clear hz0)
      | (go_at_call 10; refine (all_any _ _ HG4.out (by omega)).mono ?_; rintro e w5 ⟨rfl, hB5⟩; have HB5 : Hid (Below w.heap.size w w5) := HB4.out.trans (hB5.mono HB4.out.size); have HG5 : Hid (GL w5) := HG4.out.keep hB5; have HX5 : Hid (Rd w5 (some ⟨gx, 0, none⟩) o.size cE lx) := HX4.out.keep hB5; clear hB5)
      | (go_at_call 10; refine (all_any _ _ HG3.out (by omega)).mono ?_; rintro e w4 ⟨rfl, hB4⟩; have HB4 : Hid (Below w.heap.size w w4) := HB3.out.trans (hB4.mono HB3.out.size); have HG4 : Hid (GL w4) := HG3.out.keep hB4; have HX4 : Hid (Rd w4 (some ⟨gx, 0, none⟩) o.size cE lx) := HX3.out.keep hB4; have hx4 := HX4.out.text; rw [hXS] at hx4; clear hB4)
      | (go_at_call 16; refine (CC _).mono ?_; rintro e wz ⟨rfl, rfl⟩))
    go_ret
    exact ⟨rfl, HBc.out⟩
  · obtain ⟨lx, hlx⟩ : ∃ lx, lst o = lx := ⟨_, rfl⟩
    rw [hlx] at HRow hxs
    obtain ⟨W3, hW3⟩ : ∃ W3, W3 = W2 := ⟨_, rfl⟩
    have HB3 : Hid (Below w.heap.size w W3) := by rw [hW3]; exact HB2
    have HXx : Rd W3 (some ⟨gx, 0, none⟩) o.size cE lx := by rw [hW3]; exact HRow.out.rd
    rw [← hW3] at HB2 HRow hcv
    clear hW3
    have HX3 : Hid (Rd W3 (some ⟨gx, 0, none⟩) o.size cE lx) := HXx
    have HG3 : Hid (GL W3) := HG.out.keep HB3.out
    obtain ⟨XS, hXS⟩ : ∃ X, bs lx = X := ⟨_, rfl⟩
    have hXSs : XS.size = o.size := by rw [← hXS, size_bs, HX3.out.len]
    go_wp2_with (first
      | (go_at_call 13; refine (known_any _ HGb.out).mono ?_; rintro e wc ⟨rfl, hBc⟩; have HBc : Hid (Below w.heap.size w wc) := HBb.out.trans (hBc.mono HBb.out.size); clear hBc)
      | (go_at_call 11; refine (words_any _ _ (by omega)).mono ?_; rintro e wb ⟨rfl, hBb⟩; have HBb : Hid (Below w.heap.size w wb) := HBa.out.trans (hBb.mono HBa.out.size); have HGb : Hid (GL wb) := HGa.out.keep hBb; clear hBb)
      | (go_at_call 9; refine (next_any _ _ HG9.out (by omega)).mono ?_; rintro e wa ⟨rfl, hBa⟩; have HBa : Hid (Below w.heap.size w wa) := HB9.out.trans (hBa.mono HB9.out.size); have HGa : Hid (GL wa) := HG9.out.keep hBa; clear hBa)
      | (go_at_call 9; refine (next_any _ _ HG8.out (by omega)).mono ?_; rintro e w9 ⟨rfl, hB9⟩; have HB9 : Hid (Below w.heap.size w w9) := HB8.out.trans (hB9.mono HB8.out.size); have HG9 : Hid (GL w9) := HG8.out.keep hB9; have HX9 := HX8.out.keep hB9; have hx9 := HX9.text; rw [hXS] at hx9; clear hB9 HX9)
      | (go_at_call 10; refine (all_any _ _ HG7.out (by omega)).mono ?_; rintro e w8 ⟨rfl, hB8⟩; have HB8 : Hid (Below w.heap.size w w8) := HB7.out.trans (hB8.mono HB7.out.size); have HG8 : Hid (GL w8) := HG7.out.keep hB8; have HX8 : Hid (Rd w8 (some ⟨gx, 0, none⟩) o.size cE lx) := HX7.out.keep hB8; clear hB8)
      | (go_at_call 10; refine (all_any _ _ HG6.out (by omega)).mono ?_; rintro e w7 ⟨rfl, hB7⟩; have HB7 : Hid (Below w.heap.size w w7) := HB6.out.trans (hB7.mono HB6.out.size); have HG7 : Hid (GL w7) := HG6.out.keep hB7; have HX7 : Hid (Rd w7 (some ⟨gx, 0, none⟩) o.size cE lx) := HX6.out.keep hB7; clear hB7)
      | (go_at_call 10; refine (all_any _ _ HG5.out (by simp; omega)).mono ?_; rintro e w6 ⟨rfl, hB6⟩; have HB6 : Hid (Below w.heap.size w w6) := HB5.out.trans (hB6.mono HB5.out.size); have HG6 : Hid (GL w6) := HG5.out.keep hB6; have HX6 : Hid (Rd w6 (some ⟨gx, 0, none⟩) o.size cE lx) := HX5.out.keep hB6; clear hB6)
      | (go_at_call 15; refine (CZ _).mono ?_; rintro e w5 ⟨rfl, z, hz0, hz1, rfl⟩; obtain ⟨z, rfl⟩ := Int.eq_ofNat_of_zero_le hz0; have hzn : z ≤ o.size := (by omega); clear hz0)
      | (go_at_call 10; refine (all_any _ _ HG4.out (by omega)).mono ?_; rintro e w5 ⟨rfl, hB5⟩; have HB5 : Hid (Below w.heap.size w w5) := HB4.out.trans (hB5.mono HB4.out.size); have HG5 : Hid (GL w5) := HG4.out.keep hB5; have HX5 : Hid (Rd w5 (some ⟨gx, 0, none⟩) o.size cE lx) := HX4.out.keep hB5; clear hB5)
      | (go_at_call 10; refine (all_any _ _ HG3.out (by omega)).mono ?_; rintro e w4 ⟨rfl, hB4⟩; have HB4 : Hid (Below w.heap.size w w4) := HB3.out.trans (hB4.mono HB3.out.size); have HG4 : Hid (GL w4) := HG3.out.keep hB4; have HX4 : Hid (Rd w4 (some ⟨gx, 0, none⟩) o.size cE lx) := HX3.out.keep hB4; have hx4 := HX4.out.text; rw [hXS] at hx4; clear hB4)
      | (go_at_call 16; refine (CC _).mono ?_; rintro e wz ⟨rfl, rfl⟩))
    go_ret
    exact ⟨rfl, HBc.out⟩
end Go.Proofs.Ytkoepgjdjbmknaa
