/-
  The reader in memory; a line up to its end.
-/
import Derived.Test.YtkoepgjdjbmknaaSx
namespace Go.Proofs.Ytkoepgjdjbmknaa
open Go.RowKit Go.PlainAid

/-- A reader in block p: what is left for it, and whether it is wrong. -/
structure Rdr (w : World) (p : Nat) (a : Option Addr) (n c : Nat) (l : List UInt8) (b : Bool) : Prop where
  obj : w.heap[p]? = some (.cells #[.slice a n c, .bool b] 59 (0, 0))
  rd : Rd w a n c l
  low : 0 < n → ∀ x, a = some x → x.block < p
theorem Rdr.cell0 {w : World} {p : Nat} {a : Option Addr} {n c : Nat} {l : List UInt8} {b : Bool} (h : Rdr w p a n c l b) : w.cell? ⟨p, 0, none⟩ = some (.slice a n c) := by
  simp only [World.cell?, h.obj]; rfl
theorem Rdr.cell1 {w : World} {p : Nat} {a : Option Addr} {n c : Nat} {l : List UInt8} {b : Bool} (h : Rdr w p a n c l b) : w.cell? ⟨p, 1, none⟩ = some (.bool b) := by
  simp only [World.cell?, h.obj]; rfl
theorem Rdr.free {w : World} {p : Nat} {a : Option Addr} {n c : Nat} {l : List UInt8} {b : Bool} (h : Rdr w p a n c l b) (i : Nat) : w.frozen? ⟨p, i, none⟩ = false := by
  simp [World.frozen?, h.obj]
theorem Rdr.lt {w : World} {p : Nat} {a : Option Addr} {n c : Nat} {l : List UInt8} {b : Bool} (h : Rdr w p a n c l b) : p < w.heap.size := (Array.getElem?_eq_some_iff.1 h.obj).1
theorem Rdr.keep {w wn : World} {p : Nat} {a : Option Addr} {n c : Nat} {l : List UInt8} {b : Bool} (h : Rdr w p a n c l b) (hb : Below w.heap.size w wn) : Rdr wn p a n c l b :=
  ⟨by rw [hb.block p h.lt]; exact h.obj, h.rd.keep hb, h.low⟩
/-- A row of bytes lies in no reader's block. -/
theorem Rdr.apart {w : World} {p : Nat} {a : Option Addr} {n c : Nat} {l : List UInt8} {b : Bool} (h : Rdr w p a n c l b) {a' : Option Addr} {n' c' : Nat} {l' : List UInt8} (h' : Rd w a' n' c' l') {j : Nat} (hj : j < n') : ∃ q off, a' = some ⟨q, off, none⟩ ∧ q ≠ p ∧ w.cell? ⟨q, off + j, none⟩ = some (.int .u8 ((l'.getD j 0).toNat : Nat)) := by
  obtain ⟨q, off, e, hc⟩ := h'.cell j hj
  refine ⟨q, off, e, fun hq => ?_, hc⟩
  subst hq
  simp only [World.cell?, h.obj] at hc
  rcases hk : off + j with _ | _ | k <;> rw [hk] at hc <;> simp at hc
theorem Rd.set {w : World} {p o : Nat} {v : Value} {a : Option Addr} {n c : Nat} {l : List UInt8} {b : Bool} (h : Rdr w p a n c l b) {a' : Option Addr} {n' c' : Nat} {l' : List UInt8} (h' : Rd w a' n' c' l') : Rd (w.setCell ⟨p, o, none⟩ v) a' n' c' l' :=
  ⟨h'.len, h'.fit, h'.max, h'.nul, fun j hj => by
    obtain ⟨q, off, e, hq, hc⟩ := h.apart h' hj
    refine ⟨q, off, e, ?_⟩
    rw [World.cell?_setCell_other _ _ _ _ (by intro h1; cases h1; exact hq rfl)]
    exact hc⟩
theorem Rdr.set0 {w : World} {p : Nat} {a : Option Addr} {n c : Nat} {l : List UInt8} {b : Bool} (h : Rdr w p a n c l b) {a' : Option Addr} {n' c' : Nat} {l' : List UInt8} (h' : Rd w a' n' c' l') (hl : 0 < n' → ∀ x, a' = some x → x.block < p) : Rdr (w.setCell ⟨p, 0, none⟩ (.slice a' n' c')) p a' n' c' l' b :=
  ⟨heap_set h.obj _, Rd.set h h', hl⟩
theorem Rdr.set1 {w : World} {p : Nat} {a : Option Addr} {n c : Nat} {l : List UInt8} {b : Bool} (h : Rdr w p a n c l b) (b' : Bool) : Rdr (w.setCell ⟨p, 1, none⟩ (.bool b')) p a n c l b' :=
  ⟨heap_set h.obj _, Rd.set h h.rd, h.low⟩
theorem Rd.stay {w w' : World} {p : Nat} {a : Option Addr} {n c : Nat} {l : List UInt8} {b : Bool} (h : Rdr w p a n c l b) (hs : Stay w w' [p]) {a' : Option Addr} {n' c' : Nat} {l' : List UInt8} (h' : Rd w a' n' c' l') : Rd w' a' n' c' l' :=
  ⟨h'.len, h'.fit, h'.max, h'.nul, fun j hj => by
    obtain ⟨q, off, e, hq, hc⟩ := h.apart h' hj
    refine ⟨q, off, e, ?_⟩
    rw [World.cell?_of_block (w := w) (hs.block q (World.block_lt_of_cell? _ _ hc) (by simpa using hq))]
    exact hc⟩

theorem Rdr.below {w wn : World} {p B : Nat} {a : Option Addr} {n c : Nat} {l : List UInt8} {b : Bool} (h : Rdr w p a n c l b) (hb : Below B w wn) (hp : p < B) : Rdr wn p a n c l b :=
  ⟨by rw [hb.block p hp]; exact h.obj, ⟨h.rd.len, h.rd.fit, h.rd.max, h.rd.nul, fun j hj => by
    obtain ⟨q, off, e, hc⟩ := h.rd.cell j hj
    refine ⟨q, off, e, ?_⟩
    have := h.low (by omega) _ e
    rw [World.cell?_of_block (w := w) (hb.block q (by have h2 : q < p := this; omega))]
    exact hc⟩, h.low⟩
theorem add_block (x : Addr) (j : Nat) : (x.add j).block = x.block := by
  simp only [Addr.add]; split <;> rfl
theorem Rdr.slice_l {w : World} {p : Nat} {a : Option Addr} {n cap : Nat} {l : List UInt8} {b : Bool} (h : Rdr w p a n cap l b) (lo : Nat) (h1 : lo ≤ n) :
    ∃ a' cap', (∀ wx, (Instr.sliceAt 24 (.slice a n cap) (some (.int .i64 lo)) none none).run Try.prog wx = .ok (.slice a' (n - lo) cap') wx) ∧ Rd w a' (n - lo) cap' (l.drop lo) ∧ (0 < n - lo → ∀ x, a' = some x → x.block < p) := by
  have hs := h.rd.sub lo n h1 (Nat.le_refl _)
  rw [List.take_of_length_le (by rw [List.length_drop, h.rd.len]; omega)] at hs
  refine ⟨_, _, fun wx => ?_, hs, fun hp x hx => ?_⟩
  · have ht : Try.prog.underlying 24 = some (.slice (Try.prog.elem 24)) := by rw [Try.elem24]; exact Try.underlying24
    rw [run_sliceAt_slice _ _ _ _ _ _ ht, run_slice_l (P := Try.prog) wx 24 a n cap ht .i64 lo (by omega) (by omega), Try.elem24, Try.size5]
    simp [Result.andThen, sliced]
  · split at hx
    · exact h.low (by omega) x hx
    · cases a with
      | none => cases hx
      | some y =>
        cases hx
        rw [add_block]
        exact h.low (by omega) y rfl

theorem refuse_any (p : Nat) (a : Option Addr) (n c : Nat) (l : List UInt8) (b : Bool) (w : World) (h : Rdr w p a n c l b) :
    Calls Try.prog 48 #[.pointer (some ⟨p, 0, none⟩)] w fun e w' => e = .returned (.bool false) ∧ Hid (Stay w w' [p]) ∧ Hid (Rdr w' p a n c l true) := by
  have c1 := h.cell1
  have f1 := h.free 1
  have HR : Hid (Rdr (w.setCell ⟨p, 1, none⟩ (.bool true)) p a n c l true) := h.set1 true
  clear h
  go_enter Try.func48, Try.ntmps48
  go_wp2
  go_ret
  exact ⟨rfl, Stay.set, HR⟩
end Go.Proofs.Ytkoepgjdjbmknaa
