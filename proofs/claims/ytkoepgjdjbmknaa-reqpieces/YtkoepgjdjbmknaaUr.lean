/-
  A number behind a sign, read.
-/
import Derived.Test.YtkoepgjdjbmknaaUq
namespace Go.Proofs.Ytkoepgjdjbmknaa
open Go.RowKit Go.PlainAid

/-- The library's one variable holds some number. -/
def GL (w : World) : Prop := ∃ M : Int, w.cell? ⟨0, 0, none⟩ = some (.int .i64 M)
theorem GL.keep {w wn : World} (h : GL w) (hb : Below w.heap.size w wn) : GL wn := by
  obtain ⟨M, hM⟩ := h
  exact ⟨M, by rw [hb.cell (p := ⟨0, 0, none⟩) (World.block_lt_of_cell? _ _ hM)]; exact hM⟩
theorem Rdr.pos {w : World} {p : Nat} {a : Option Addr} {n c : Nat} {l : List UInt8} {b : Bool} (h : Rdr w p a n c l b) (hg : GL w) : (0 : Nat) ≠ p := by
  rintro rfl
  obtain ⟨M, hM⟩ := hg
  rw [h.cell0] at hM
  cases hM
theorem GL.stay {w wn : World} {p : Nat} {a : Option Addr} {n c : Nat} {l : List UInt8} {b : Bool} (hg : GL w) (h : Rdr w p a n c l b) (hs : Stay w wn [p]) : GL wn := by
  have hp := h.pos hg
  obtain ⟨M, hM⟩ := hg
  exact ⟨M, by rw [World.cell?_of_block (w := w) (hs.block 0 (World.block_lt_of_cell? _ _ hM) (by simpa using hp))]; exact hM⟩

/-- What number leaves. -/
def NumR (w' : World) (p : Nat) (o : Rs Int) (e : Ending) : Prop :=
  match o with
  | some (some (k, r)) => ∃ a n c, e = .returned (.tuple #[.int .i64 k, .bool true]) ∧ Rdr w' p a n c r false
  | none => ∃ a n c r, e = .returned (.tuple #[.int .i64 0, .bool false]) ∧ Rdr w' p a n c r false
  | some none => ∃ a n c r, e = .returned (.tuple #[.int .i64 0, .bool false]) ∧ Rdr w' p a n c r true

theorem upTo_crlf (p : Nat) (a : Option Addr) (n c : Nat) (l : List UInt8) (w : World) (hg : GL w) (h : Rdr w p a n c l false) :
    Calls Try.prog 46 #[.pointer (some ⟨p, 0, none⟩), .string ⟨#[13, 10]⟩, .int .i64 32] w fun e w' => Hid (Stay w w' [p]) ∧ UpR w' p (upR (crlf l) 2 32 l) e := by
  obtain ⟨M, hM⟩ := hg
  exact upTo_any ⟨#[13, 10]⟩ crlf 32 (by decide) (by decide) (by decide) index_crlf (fun l H hH => take_crlf l 32 H hH) (fun l i hi => (crlf_some hi).1) p a n c l M w hM h
theorem upTo_lf (p : Nat) (a : Option Addr) (n c : Nat) (l : List UInt8) (w : World) (hg : GL w) (h : Rdr w p a n c l false) :
    Calls Try.prog 46 #[.pointer (some ⟨p, 0, none⟩), .string ⟨#[10]⟩, .int .i64 4096] w fun e w' => Hid (Stay w w' [p]) ∧ UpR w' p (upR (lf l) 1 4096 l) e := by
  obtain ⟨M, hM⟩ := hg
  exact upTo_any ⟨#[10]⟩ lf 4096 (by decide) (by decide) (by decide) index_lf (fun l H hH => take_lf l 4096 H hH) (fun l i hi => (lf_some hi).1) p a n c l M w hM h

theorem stay_step {w w1 w2 : World} {p : Nat} (h1 : Hid (Stay w w1 [p])) (h2 : Hid (Stay w1 w2 [p])) : Hid (Stay w w2 [p]) := Stay.trans h1.out h2.out (fun _ h => .inl h)

/-- The pure side of number, behind the sign. -/
theorem numR_cons {sign b : UInt8} {lo hi : Int} {r : List UInt8} (h : b = sign) : numR sign lo hi (b :: r) = match upR (crlf r) 2 32 r with
      | some (some (x, r2)) => match parseL x with
        | some n => if n < lo ∨ hi < n then .wrong else .yes n r2
        | none => .wrong
      | none => .part
      | some none => .wrong := by rw [numR, if_pos h]; rfl
theorem numR_sign {sign b : UInt8} {lo hi : Int} {r : List UInt8} (h : ¬ b = sign) : numR sign lo hi (b :: r) = .wrong := by rw [numR, if_neg h]

theorem upR_len {i : Option Nat} {k m : Nat} {l x r : List UInt8} (h : upR i k m l = .yes x r) : x.length ≤ m := by
  unfold upR at h
  split at h
  · split at h
    · cases h
    · cases h; rw [List.length_take]; omega
  · split at h <;> cases h

theorem number_nil (x lo hi : Int) (p : Nat) (a : Option Addr) (n c : Nat) (w : World) (h : Rdr w p a n c [] false) :
    Calls Try.prog 49 #[.pointer (some ⟨p, 0, none⟩), .int .u8 x, .int .i64 lo, .int .i64 hi] w fun e w' => Hid (Stay w w' [p]) ∧ NumR w' p .part e := by
  have hn : n = 0 := h.rd.len.symm
  subst hn
  have c0 := h.cell0
  have HH : Hid (Rdr w p a 0 c [] false) := h
  clear h
  go_enter Try.func49, Try.ntmps49
  go_wp2
  go_ret2
  exact ⟨Stay.of_below (Below.refl _ _) _, _, _, _, _, rfl, HH.out⟩

theorem number_sign (b : UInt8) (x y lo hi : Int) (hy : (b.toNat : Int) = y) (hxy : (y != x) = true) (p : Nat) (a : Option Addr) (n c : Nat) (r : List UInt8) (w : World) (h : Rdr w p a n c (b :: r) false) :
    Calls Try.prog 49 #[.pointer (some ⟨p, 0, none⟩), .int .u8 x, .int .i64 lo, .int .i64 hi] w fun e w' => Hid (Stay w w' [p]) ∧ NumR w' p .wrong e := by
  have hn : n = r.length + 1 := h.rd.len.symm
  obtain ⟨q, off, rfl, hc⟩ := h.rd.cell 0 (by omega)
  have hc1 : w.cell? ⟨q, off, none⟩ = some (.int .u8 y) := by rw [← hy]; exact hc
  have hn0 : ((n : Int) == 0) = false := by simp; omega
  have hpos : (0 : Int) < n := by omega
  have c0 := h.cell0
  have HRF := fun wx hh => refuse_any p (some ⟨q, off, none⟩) n c (b :: r) false wx hh
  have HH : Hid (Rdr w p (some ⟨q, off, none⟩) n c (b :: r) false) := h
  clear h hc hn hy
  go_enter Try.func49, Try.ntmps49
  go_wp2_with (go_at_call 48; refine (HRF _ HH.out).mono ?_; rintro e w2 ⟨rfl, HS2, HR2⟩)
  go_ret2
  exact ⟨HS2, _, _, _, _, rfl, HR2.out⟩
set_option maxRecDepth 100000 in
theorem number_part (b : UInt8) (x lo hi : Int) (hx : (b.toNat : Int) = x) (p : Nat) (a : Option Addr) (n c : Nat) (r : List UInt8) (w : World) (hg : GL w) (h : Rdr w p a n c (b :: r) false) (hu : upR (crlf r) 2 32 r = .part) :
    Calls Try.prog 49 #[.pointer (some ⟨p, 0, none⟩), .int .u8 x, .int .i64 lo, .int .i64 hi] w fun e w' => Hid (Stay w w' [p]) ∧ NumR w' p .part e := by
  have hn : n = r.length + 1 := h.rd.len.symm
  obtain ⟨a1, c1, hs1, hR1, hL1⟩ := h.slice_l 1 (by omega)
  obtain ⟨q, off, rfl, hc⟩ := h.rd.cell 0 (by omega)
  have hc1 : w.cell? ⟨q, off, none⟩ = some (.int .u8 x) := by rw [← hx]; exact hc
  have hn0 : ((n : Int) == 0) = false := by simp; omega
  have hpos : (0 : Int) < n := by omega
  have hxx : (x != x) = false := by simp
  have c0 := h.cell0
  have f0 := h.free 0
  obtain ⟨N1, hN1⟩ : ∃ N1, n - 1 = N1 := ⟨_, rfl⟩
  rw [hN1] at hs1 hR1 hL1
  replace hs1 : ∀ wx, (Instr.sliceAt 24 (.slice (some ⟨q, off, none⟩) n c) (some (.int .i64 1)) none none).run Try.prog wx = .ok (.slice a1 N1 c1) wx := hs1
  have HR1 := h.set0 hR1 hL1
  rw [List.drop_one, List.tail_cons] at HR1
  have HS1 : Hid (Stay w (w.setCell ⟨p, 0, none⟩ (.slice a1 N1 c1)) [p]) := Stay.set
  have HG1 := hg.stay h HS1.out
  obtain ⟨w1, hw1⟩ : ∃ w1, w.setCell ⟨p, 0, none⟩ (.slice a1 N1 c1) = w1 := ⟨_, rfl⟩
  rw [hw1] at HR1 HS1 HG1
  have HU := upTo_crlf p a1 N1 c1 r w1 HG1 HR1
  rw [hu] at HU
  have HG1 : Hid (GL w1) := HG1
  clear h hc hn hx hg hR1 HR1 hN1 hu hL1
  go_enter Try.func49, Try.ntmps49
  go_wp2_with (go_at_call 46; refine HU.mono ?_; rintro e w2 ⟨hS2, a2, n2, c2, r2, rfl, hR2⟩; have HS2 : Hid (Stay w w2 [p]) := stay_step HS1 hS2; have HR2 : Hid (Rdr w2 p a2 n2 c2 r2 false) := hR2; clear hS2 hR2)
  go_ret2
  exact ⟨HS2, _, _, _, _, rfl, HR2.out⟩

set_option maxRecDepth 100000 in
theorem number_wrong (b : UInt8) (x lo hi : Int) (hx : (b.toNat : Int) = x) (p : Nat) (a : Option Addr) (n c : Nat) (r : List UInt8) (w : World) (hg : GL w) (h : Rdr w p a n c (b :: r) false) (hu : upR (crlf r) 2 32 r = .wrong) :
    Calls Try.prog 49 #[.pointer (some ⟨p, 0, none⟩), .int .u8 x, .int .i64 lo, .int .i64 hi] w fun e w' => Hid (Stay w w' [p]) ∧ NumR w' p .wrong e := by
  have hn : n = r.length + 1 := h.rd.len.symm
  obtain ⟨a1, c1, hs1, hR1, hL1⟩ := h.slice_l 1 (by omega)
  obtain ⟨q, off, rfl, hc⟩ := h.rd.cell 0 (by omega)
  have hc1 : w.cell? ⟨q, off, none⟩ = some (.int .u8 x) := by rw [← hx]; exact hc
  have hn0 : ((n : Int) == 0) = false := by simp; omega
  have hpos : (0 : Int) < n := by omega
  have hxx : (x != x) = false := by simp
  have c0 := h.cell0
  have f0 := h.free 0
  obtain ⟨N1, hN1⟩ : ∃ N1, n - 1 = N1 := ⟨_, rfl⟩
  rw [hN1] at hs1 hR1 hL1
  replace hs1 : ∀ wx, (Instr.sliceAt 24 (.slice (some ⟨q, off, none⟩) n c) (some (.int .i64 1)) none none).run Try.prog wx = .ok (.slice a1 N1 c1) wx := hs1
  have HR1 := h.set0 hR1 hL1
  rw [List.drop_one, List.tail_cons] at HR1
  have HS1 : Hid (Stay w (w.setCell ⟨p, 0, none⟩ (.slice a1 N1 c1)) [p]) := Stay.set
  have HG1 := hg.stay h HS1.out
  obtain ⟨w1, hw1⟩ : ∃ w1, w.setCell ⟨p, 0, none⟩ (.slice a1 N1 c1) = w1 := ⟨_, rfl⟩
  rw [hw1] at HR1 HS1 HG1
  have HU := upTo_crlf p a1 N1 c1 r w1 HG1 HR1
  rw [hu] at HU
  have HG1 : Hid (GL w1) := HG1
  clear h hc hn hx hg hR1 HR1 hN1 hu hL1
  go_enter Try.func49, Try.ntmps49
  go_wp2_with (go_at_call 46; refine HU.mono ?_; rintro e w2 ⟨hS2, a2, n2, c2, r2, rfl, hR2⟩; have HS2 : Hid (Stay w w2 [p]) := stay_step HS1 hS2; have HR2 : Hid (Rdr w2 p a2 n2 c2 r2 true) := hR2; clear hS2 hR2)
  go_ret2
  exact ⟨HS2, _, _, _, _, rfl, HR2.out⟩

set_option maxRecDepth 100000 in
theorem number_none (b : UInt8) (x lo hi : Int) (hx : (b.toNat : Int) = x) (p : Nat) (a : Option Addr) (n c : Nat) (r : List UInt8) (w : World) (hg : GL w) (h : Rdr w p a n c (b :: r) false) (xs r2 : List UInt8) (hu : upR (crlf r) 2 32 r = .yes xs r2) (hxs : xs.length ≤ 32) (hp : parseL xs = none) :
    Calls Try.prog 49 #[.pointer (some ⟨p, 0, none⟩), .int .u8 x, .int .i64 lo, .int .i64 hi] w fun e w' => Hid (Stay w w' [p]) ∧ NumR w' p .wrong e := by
  have hn : n = r.length + 1 := h.rd.len.symm
  obtain ⟨a1, c1, hs1, hR1, hL1⟩ := h.slice_l 1 (by omega)
  obtain ⟨q, off, rfl, hc⟩ := h.rd.cell 0 (by omega)
  have hc1 : w.cell? ⟨q, off, none⟩ = some (.int .u8 x) := by rw [← hx]; exact hc
  have hn0 : ((n : Int) == 0) = false := by simp; omega
  have hpos : (0 : Int) < n := by omega
  have hxx : (x != x) = false := by simp
  have c0 := h.cell0
  have f0 := h.free 0
  obtain ⟨N1, hN1⟩ : ∃ N1, n - 1 = N1 := ⟨_, rfl⟩
  rw [hN1] at hs1 hR1 hL1
  replace hs1 : ∀ wx, (Instr.sliceAt 24 (.slice (some ⟨q, off, none⟩) n c) (some (.int .i64 1)) none none).run Try.prog wx = .ok (.slice a1 N1 c1) wx := hs1
  have HR1 := h.set0 hR1 hL1
  rw [List.drop_one, List.tail_cons] at HR1
  have HS1 : Hid (Stay w (w.setCell ⟨p, 0, none⟩ (.slice a1 N1 c1)) [p]) := Stay.set
  have HG1 := hg.stay h HS1.out
  obtain ⟨w1, hw1⟩ : ∃ w1, w.setCell ⟨p, 0, none⟩ (.slice a1 N1 c1) = w1 := ⟨_, rfl⟩
  rw [hw1] at HR1 HS1 HG1
  have HU := upTo_crlf p a1 N1 c1 r w1 HG1 HR1
  rw [hu] at HU
  have HG1 : Hid (GL w1) := HG1
  clear h hc hn hx hg hR1 HR1 hN1 hu hL1
  have HX : Hid (lst (bs xs) = xs) := lst_bs xs
  have hxl : (bs xs).size ≤ maxLen := by rw [size_bs]; unfold maxLen; omega
  have HP := fun w => Parse_any (bs xs) w hxl _ rfl
  rw [lst_bs, hp] at HP
  clear hp hxl hxs
  go_enter Try.func49, Try.ntmps49
  go_wp2_with (first
    | (go_at_call 46; refine HU.mono ?_; rintro e w2 ⟨hS2, a2, n2, c2, a3, n3, c3, rfl, hL2, hR2⟩; have hT2 := hL2.text; have HS2 : Hid (Stay w w2 [p]) := stay_step HS1 hS2; have HR2 : Hid (Rdr w2 p a3 n3 c3 r2 false) := hR2; have HRF := refuse_any p a3 n3 c3 r2 false w2 hR2; clear hS2 hL2 hR2)
    | (go_at_call 54; refine (HP _).mono ?_; rintro e w3 ⟨rfl, rfl⟩; dsimp only [i64R, Option.getD_none, Option.isSome_none, Option.getD_some, Option.isSome_some])
    | (go_at_call 48; refine HRF.mono ?_; rintro e w4 ⟨rfl, HS4, HR4⟩))
  go_ret2
  exact ⟨stay_step HS2 HS4, _, _, _, _, rfl, HR4.out⟩

set_option maxRecDepth 100000 in
theorem number_low (b : UInt8) (x lo hi : Int) (hx : (b.toNat : Int) = x) (p : Nat) (a : Option Addr) (n c : Nat) (r : List UInt8) (w : World) (hg : GL w) (h : Rdr w p a n c (b :: r) false) (xs r2 : List UInt8) (hu : upR (crlf r) 2 32 r = .yes xs r2) (hxs : xs.length ≤ 32) (k : Int) (hp : parseL xs = some k) (hk : k < lo) :
    Calls Try.prog 49 #[.pointer (some ⟨p, 0, none⟩), .int .u8 x, .int .i64 lo, .int .i64 hi] w fun e w' => Hid (Stay w w' [p]) ∧ NumR w' p .wrong e := by
  have hn : n = r.length + 1 := h.rd.len.symm
  obtain ⟨a1, c1, hs1, hR1, hL1⟩ := h.slice_l 1 (by omega)
  obtain ⟨q, off, rfl, hc⟩ := h.rd.cell 0 (by omega)
  have hc1 : w.cell? ⟨q, off, none⟩ = some (.int .u8 x) := by rw [← hx]; exact hc
  have hn0 : ((n : Int) == 0) = false := by simp; omega
  have hpos : (0 : Int) < n := by omega
  have hxx : (x != x) = false := by simp
  have c0 := h.cell0
  have f0 := h.free 0
  obtain ⟨N1, hN1⟩ : ∃ N1, n - 1 = N1 := ⟨_, rfl⟩
  rw [hN1] at hs1 hR1 hL1
  replace hs1 : ∀ wx, (Instr.sliceAt 24 (.slice (some ⟨q, off, none⟩) n c) (some (.int .i64 1)) none none).run Try.prog wx = .ok (.slice a1 N1 c1) wx := hs1
  have HR1 := h.set0 hR1 hL1
  rw [List.drop_one, List.tail_cons] at HR1
  have HS1 : Hid (Stay w (w.setCell ⟨p, 0, none⟩ (.slice a1 N1 c1)) [p]) := Stay.set
  have HG1 := hg.stay h HS1.out
  obtain ⟨w1, hw1⟩ : ∃ w1, w.setCell ⟨p, 0, none⟩ (.slice a1 N1 c1) = w1 := ⟨_, rfl⟩
  rw [hw1] at HR1 HS1 HG1
  have HU := upTo_crlf p a1 N1 c1 r w1 HG1 HR1
  rw [hu] at HU
  have HG1 : Hid (GL w1) := HG1
  clear h hc hn hx hg hR1 HR1 hN1 hu hL1
  have HX : Hid (lst (bs xs) = xs) := lst_bs xs
  have hxl : (bs xs).size ≤ maxLen := by rw [size_bs]; unfold maxLen; omega
  have HP := fun w => Parse_any (bs xs) w hxl _ rfl
  rw [lst_bs, hp] at HP
  clear hp hxl hxs
  go_enter Try.func49, Try.ntmps49
  go_wp2_with (first
    | (go_at_call 46; refine HU.mono ?_; rintro e w2 ⟨hS2, a2, n2, c2, a3, n3, c3, rfl, hL2, hR2⟩; have hT2 := hL2.text; have HS2 : Hid (Stay w w2 [p]) := stay_step HS1 hS2; have HR2 : Hid (Rdr w2 p a3 n3 c3 r2 false) := hR2; have HRF := refuse_any p a3 n3 c3 r2 false w2 hR2; clear hS2 hL2 hR2)
    | (go_at_call 54; refine (HP _).mono ?_; rintro e w3 ⟨rfl, rfl⟩; dsimp only [i64R, Option.getD_none, Option.isSome_none, Option.getD_some, Option.isSome_some])
    | (go_at_call 48; refine HRF.mono ?_; rintro e w4 ⟨rfl, HS4, HR4⟩))
  go_ret2
  exact ⟨stay_step HS2 HS4, _, _, _, _, rfl, HR4.out⟩

set_option maxRecDepth 100000 in
theorem number_high (b : UInt8) (x lo hi : Int) (hx : (b.toNat : Int) = x) (p : Nat) (a : Option Addr) (n c : Nat) (r : List UInt8) (w : World) (hg : GL w) (h : Rdr w p a n c (b :: r) false) (xs r2 : List UInt8) (hu : upR (crlf r) 2 32 r = .yes xs r2) (hxs : xs.length ≤ 32) (k : Int) (hp : parseL xs = some k) (hk : ¬ k < lo) (hk2 : hi < k) :
    Calls Try.prog 49 #[.pointer (some ⟨p, 0, none⟩), .int .u8 x, .int .i64 lo, .int .i64 hi] w fun e w' => Hid (Stay w w' [p]) ∧ NumR w' p .wrong e := by
  have hn : n = r.length + 1 := h.rd.len.symm
  obtain ⟨a1, c1, hs1, hR1, hL1⟩ := h.slice_l 1 (by omega)
  obtain ⟨q, off, rfl, hc⟩ := h.rd.cell 0 (by omega)
  have hc1 : w.cell? ⟨q, off, none⟩ = some (.int .u8 x) := by rw [← hx]; exact hc
  have hn0 : ((n : Int) == 0) = false := by simp; omega
  have hpos : (0 : Int) < n := by omega
  have hxx : (x != x) = false := by simp
  have c0 := h.cell0
  have f0 := h.free 0
  obtain ⟨N1, hN1⟩ : ∃ N1, n - 1 = N1 := ⟨_, rfl⟩
  rw [hN1] at hs1 hR1 hL1
  replace hs1 : ∀ wx, (Instr.sliceAt 24 (.slice (some ⟨q, off, none⟩) n c) (some (.int .i64 1)) none none).run Try.prog wx = .ok (.slice a1 N1 c1) wx := hs1
  have HR1 := h.set0 hR1 hL1
  rw [List.drop_one, List.tail_cons] at HR1
  have HS1 : Hid (Stay w (w.setCell ⟨p, 0, none⟩ (.slice a1 N1 c1)) [p]) := Stay.set
  have HG1 := hg.stay h HS1.out
  obtain ⟨w1, hw1⟩ : ∃ w1, w.setCell ⟨p, 0, none⟩ (.slice a1 N1 c1) = w1 := ⟨_, rfl⟩
  rw [hw1] at HR1 HS1 HG1
  have HU := upTo_crlf p a1 N1 c1 r w1 HG1 HR1
  rw [hu] at HU
  have HG1 : Hid (GL w1) := HG1
  clear h hc hn hx hg hR1 HR1 hN1 hu hL1
  have HX : Hid (lst (bs xs) = xs) := lst_bs xs
  have hxl : (bs xs).size ≤ maxLen := by rw [size_bs]; unfold maxLen; omega
  have HP := fun w => Parse_any (bs xs) w hxl _ rfl
  rw [lst_bs, hp] at HP
  clear hp hxl hxs
  go_enter Try.func49, Try.ntmps49
  go_wp2_with (first
    | (go_at_call 46; refine HU.mono ?_; rintro e w2 ⟨hS2, a2, n2, c2, a3, n3, c3, rfl, hL2, hR2⟩; have hT2 := hL2.text; have HS2 : Hid (Stay w w2 [p]) := stay_step HS1 hS2; have HR2 : Hid (Rdr w2 p a3 n3 c3 r2 false) := hR2; have HRF := refuse_any p a3 n3 c3 r2 false w2 hR2; clear hS2 hL2 hR2)
    | (go_at_call 54; refine (HP _).mono ?_; rintro e w3 ⟨rfl, rfl⟩; dsimp only [i64R, Option.getD_none, Option.isSome_none, Option.getD_some, Option.isSome_some])
    | (go_at_call 48; refine HRF.mono ?_; rintro e w4 ⟨rfl, HS4, HR4⟩))
  go_ret2
  exact ⟨stay_step HS2 HS4, _, _, _, _, rfl, HR4.out⟩

set_option maxRecDepth 100000 in
theorem number_yes (b : UInt8) (x lo hi : Int) (hx : (b.toNat : Int) = x) (p : Nat) (a : Option Addr) (n c : Nat) (r : List UInt8) (w : World) (hg : GL w) (h : Rdr w p a n c (b :: r) false) (xs r2 : List UInt8) (hu : upR (crlf r) 2 32 r = .yes xs r2) (hxs : xs.length ≤ 32) (k : Int) (hp : parseL xs = some k) (hk : ¬ k < lo) (hk2 : ¬ hi < k) :
    Calls Try.prog 49 #[.pointer (some ⟨p, 0, none⟩), .int .u8 x, .int .i64 lo, .int .i64 hi] w fun e w' => Hid (Stay w w' [p]) ∧ NumR w' p (.yes k r2) e := by
  have hn : n = r.length + 1 := h.rd.len.symm
  obtain ⟨a1, c1, hs1, hR1, hL1⟩ := h.slice_l 1 (by omega)
  obtain ⟨q, off, rfl, hc⟩ := h.rd.cell 0 (by omega)
  have hc1 : w.cell? ⟨q, off, none⟩ = some (.int .u8 x) := by rw [← hx]; exact hc
  have hn0 : ((n : Int) == 0) = false := by simp; omega
  have hpos : (0 : Int) < n := by omega
  have hxx : (x != x) = false := by simp
  have c0 := h.cell0
  have f0 := h.free 0
  obtain ⟨N1, hN1⟩ : ∃ N1, n - 1 = N1 := ⟨_, rfl⟩
  rw [hN1] at hs1 hR1 hL1
  replace hs1 : ∀ wx, (Instr.sliceAt 24 (.slice (some ⟨q, off, none⟩) n c) (some (.int .i64 1)) none none).run Try.prog wx = .ok (.slice a1 N1 c1) wx := hs1
  have HR1 := h.set0 hR1 hL1
  rw [List.drop_one, List.tail_cons] at HR1
  have HS1 : Hid (Stay w (w.setCell ⟨p, 0, none⟩ (.slice a1 N1 c1)) [p]) := Stay.set
  have HG1 := hg.stay h HS1.out
  obtain ⟨w1, hw1⟩ : ∃ w1, w.setCell ⟨p, 0, none⟩ (.slice a1 N1 c1) = w1 := ⟨_, rfl⟩
  rw [hw1] at HR1 HS1 HG1
  have HU := upTo_crlf p a1 N1 c1 r w1 HG1 HR1
  rw [hu] at HU
  have HG1 : Hid (GL w1) := HG1
  clear h hc hn hx hg hR1 HR1 hN1 hu hL1
  have HX : Hid (lst (bs xs) = xs) := lst_bs xs
  have hxl : (bs xs).size ≤ maxLen := by rw [size_bs]; unfold maxLen; omega
  have HP := fun w => Parse_any (bs xs) w hxl _ rfl
  rw [lst_bs, hp] at HP
  clear hp hxl hxs
  go_enter Try.func49, Try.ntmps49
  go_wp2_with (first
    | (go_at_call 46; refine HU.mono ?_; rintro e w2 ⟨hS2, a2, n2, c2, a3, n3, c3, rfl, hL2, hR2⟩; have hT2 := hL2.text; have HS2 : Hid (Stay w w2 [p]) := stay_step HS1 hS2; have HR2 : Hid (Rdr w2 p a3 n3 c3 r2 false) := hR2; clear hS2 hL2 hR2)
    | (go_at_call 54; refine (HP _).mono ?_; rintro e w3 ⟨rfl, rfl⟩; dsimp only [i64R, Option.getD_none, Option.isSome_none, Option.getD_some, Option.isSome_some]))
  go_ret2
  exact ⟨HS2, _, _, _, rfl, HR2.out⟩

theorem number_any (sign : UInt8) (x lo hi : Int) (hx : (sign.toNat : Int) = x) (p : Nat) (a : Option Addr) (n c : Nat) (l : List UInt8) (w : World) (hg : GL w) (h : Rdr w p a n c l false) :
    Calls Try.prog 49 #[.pointer (some ⟨p, 0, none⟩), .int .u8 x, .int .i64 lo, .int .i64 hi] w fun e w' => Hid (Stay w w' [p]) ∧ NumR w' p (numR sign lo hi l) e := by
  cases l with
  | nil => exact number_nil x lo hi p a n c w h
  | cons b r =>
    by_cases hb : b = sign
    · rw [numR_cons hb]
      subst hb
      cases hu : upR (crlf r) 2 32 r using Rs.elim with
      | part => exact number_part b x lo hi hx p a n c r w hg h hu
      | wrong => exact number_wrong b x lo hi hx p a n c r w hg h hu
      | yes xs r2 =>
        have hl := upR_len hu
        show Calls _ _ _ _ fun e w' => _ ∧ NumR w' p (match parseL xs with
          | some n => if n < lo ∨ hi < n then .wrong else .yes n r2
          | none => .wrong) e
        cases hp : parseL xs with
        | none => exact number_none b x lo hi hx p a n c r w hg h xs r2 hu hl hp
        | some k =>
          show Calls _ _ _ _ fun e w' => _ ∧ NumR w' p (if k < lo ∨ hi < k then .wrong else .yes k r2) e
          by_cases h1 : k < lo
          · rw [if_pos (.inl h1)]
            exact number_low b x lo hi hx p a n c r w hg h xs r2 hu hl k hp h1
          · by_cases h2 : hi < k
            · rw [if_pos (.inr h2)]
              exact number_high b x lo hi hx p a n c r w hg h xs r2 hu hl k hp h1 h2
            · rw [if_neg (by omega)]
              exact number_yes b x lo hi hx p a n c r w hg h xs r2 hu hl k hp h1 h2
    · rw [numR_sign hb]
      have hxy : ((b.toNat : Int) != x) = true := by
        rw [← hx]
        simp only [bne_iff_ne, ne_eq]
        intro e
        exact hb (UInt8.toNat_inj.1 (by omega))
      exact number_sign b x _ lo hi rfl hxy p a n c r w h
end Go.Proofs.Ytkoepgjdjbmknaa
