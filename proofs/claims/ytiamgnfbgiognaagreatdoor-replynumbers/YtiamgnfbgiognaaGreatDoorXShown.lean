/-
  shown: each byte that is not printable, or is a quote, becomes a question mark.
-/
import Derived.Test.YtiamgnfbgiognaaGreatDoorProg
import Derived.WalkKit
import Derived.WalkSpells
import Derived.Lib.ConvBytes
import Derived.Laws.IdiomStrings
import Derived.Deep.LoopGhost
import Derived.Elder7
namespace Go.Proofs.YtiamgnfbgiognaaGreatDoor
open Go.RowKit

def qb (b : UInt8) : UInt8 := if b.toNat < 32 ∨ 126 < b.toNat ∨ b.toNat = 39 then 63 else b
def shownB (s : ByteArray) : ByteArray := ⟨(s.data.toList.map qb).toArray⟩
/-- A byte of the row behind k rounds. -/
def rowB (s : ByteArray) (k j : Nat) : Int := ((if j < k then qb (s.data.toList.getD j 0) else s.data.toList.getD j 0).toNat : Nat)
theorem rowB_at (s : ByteArray) (k : Nat) : rowB s k k = ((s.data.toList.getD k 0).toNat : Int) := by simp [rowB]
theorem rowB_succ_ne (s : ByteArray) (k j : Nat) (h : j ≠ k) : rowB s (k + 1) j = rowB s k j := by
  unfold rowB
  by_cases h1 : j < k
  · rw [if_pos h1, if_pos (by omega)]
  · rw [if_neg h1, if_neg (by omega)]
theorem rowB_succ_q (s : ByteArray) (k : Nat) (n : Int) (hn : n = ((s.data.toList.getD k 0).toNat : Int)) (h : n < 32 ∨ 126 < n ∨ n = 39) : rowB s (k + 1) k = 63 := by
  unfold rowB qb
  rw [if_pos (by omega), if_pos (by omega)]; rfl
theorem rowB_succ_id (s : ByteArray) (k : Nat) (n : Int) (hn : n = ((s.data.toList.getD k 0).toNat : Int)) (h : ¬ (n < 32 ∨ 126 < n ∨ n = 39)) : rowB s (k + 1) k = n := by
  unfold rowB qb
  rw [if_pos (by omega), if_neg (by omega)]; exact hn.symm
theorem rowB_bd (s : ByteArray) (k j : Nat) : 0 ≤ rowB s k j ∧ rowB s k j < 256 := by
  unfold rowB
  split <;> exact ⟨by omega, by have := UInt8.toNat_lt (qb (s.data.toList.getD j 0)); have := UInt8.toNat_lt (s.data.toList.getD j 0); omega⟩

/-- The row of bytes, behind k rounds. -/
structure Row (s : ByteArray) (w wr : World) (k : Nat) : Prop where
  below : Below w.heap.size w wr
  size : w.heap.size < wr.heap.size
  cell : ∀ j, j < s.size → wr.cell? ⟨w.heap.size, j, none⟩ = some (.int .u8 (rowB s k j))
  free : ∀ j, j < s.size → wr.frozen? ⟨w.heap.size, j, none⟩ = false

theorem Row.start (s : ByteArray) (w : World) (e : TypeId) : Row s w (Lib.bytesWorld w e s) 0 where
  below := ⟨rfl, rfl, rfl, by rw [Lib.bytesWorld_size]; omega, fun k hk => Lib.bytesWorld_at_old w e s k hk⟩
  size := by rw [Lib.bytesWorld_size]; omega
  cell j hj := by rw [Lib.bytesWorld_cell w e s j hj]; rfl
  free j hj := by
    have hsz : s.size ≤ (Lib.bytesCells w e s).size := by simp [Lib.bytesCells]
    simp only [World.frozen?, Lib.bytesWorld_at_new]
    simp; omega

theorem Row.set {s : ByteArray} {w wr : World} {k : Nat} (h : Row s w wr k) (hk : k < s.size) (n : Int) (hn : n = rowB s (k + 1) k) : Row s w (wr.setCell ⟨w.heap.size, k, none⟩ (.int .u8 n)) (k + 1) where
  below := h.below.setCell (Nat.le_refl _) _
  size := by simpa using h.size
  cell j hj := by
    by_cases e : j = k
    · subst e
      obtain ⟨v, hv⟩ : ∃ v, wr.cell? ⟨w.heap.size, j, none⟩ = some v := ⟨_, h.cell j hj⟩
      rw [World.cell?_setCell_same _ _ _ hv, hn]
    · rw [World.cell?_setCell_other (a := ⟨w.heap.size, k, none⟩) (b := ⟨w.heap.size, j, none⟩) _ _ (by intro h; cases h; exact e rfl), h.cell j hj, rowB_succ_ne s k j e]
  free j hj := by simpa using h.free j hj

theorem Row.stay {s : ByteArray} {w wr : World} {k : Nat} (h : Row s w wr k) (he : rowB s (k + 1) k = rowB s k k) : Row s w wr (k + 1) where
  below := h.below
  size := h.size
  cell j hj := by
    rw [h.cell j hj]
    by_cases e : j = k
    · subst e; rw [he]
    · rw [rowB_succ_ne s k j e]
  free := h.free

theorem shown_row (s : ByteArray) (j : Nat) (hj : j < s.size) : rowB s s.size j = (((s.data.toList.map qb)[j]'(by simpa using hj)).toNat : Int) := by
  have hj' : j < s.data.toList.length := by simpa using hj
  unfold rowB
  rw [if_pos hj, List.getElem_map]
  have hj2 : j < s.data.size := by simpa using hj
  simp only [List.getD, Array.getElem?_toList, Array.getElem_toList]
  rw [Array.getElem?_eq_getElem hj2]
  rfl

set_option maxHeartbeats 1000000 in
theorem shown_any (s : ByteArray) (w : World) (hs : s.size ≤ maxLen) :
    Calls Tryz.prog 32 #[.string s] w fun e w' => e = .returned (.string (shownB s)) ∧ Below w.heap.size w w' := by
  unfold maxLen at hs
  have hconv := Lib.run_convert_string_bytes (P := Tryz.prog) w 9 69 5 s Tryz.underlying9 Tryz.underlying69 Tryz.underlying5
  have R0 : Hid (Row s w (Lib.bytesWorld w 5 s) 0) := Row.start s w 5
  generalize Lib.bytesWorld w 5 s = W at hconv R0
  generalize Go.grownCap w s.size 0 5 = cap at hconv
  go_enter Tryz.func32, Tryz.ntmps32
  go_wp2
  go_loopg [10] s.size (fun g i wr => ∃ k : Nat, g + k = s.size ∧ i = .int .i64 k ∧ Hid (Row s w wr k))
  case atStart => exact ⟨0, by omega, rfl, R0⟩
  case round =>
    obtain ⟨k, hk, rfl, R⟩ := hrel
    clear hconv R0
    by_cases hlt : k < s.size
    · have hc := R.out.cell k hlt
      have hf := R.out.free k hlt
      have hbd := rowB_bd s k k
      have hat := rowB_at s k
      have HAT : Hid (rowB s k k = ((s.data.toList.getD k 0).toNat : Int)) := hat
      clear hat
      generalize hn : rowB s k k = n at *
      have HN : Hid (rowB s k k = n) := hn
      clear hn
      go_wp2
      · rename_i h
        simp at h
        go_roundg (s.size - (k + 1))
        case measure => omega
        case rel => exact ⟨k + 1, by omega, by go_num, R.out.set hlt 63 (rowB_succ_q s k n HAT.out (by omega)).symm⟩
      · rename_i h
        simp at h
        go_roundg (s.size - (k + 1))
        case measure => omega
        case rel => exact ⟨k + 1, by omega, by go_num, R.out.stay ((rowB_succ_id s k n HAT.out (by omega)).trans HN.out.symm)⟩
      · go_roundg (s.size - (k + 1))
        case measure => omega
        case rel => exact ⟨k + 1, by omega, by go_num, R.out.set hlt 63 (rowB_succ_q s k n HAT.out (by omega)).symm⟩
      · go_roundg (s.size - (k + 1))
        case measure => omega
        case rel => exact ⟨k + 1, by omega, by go_num, R.out.set hlt 63 (rowB_succ_q s k n HAT.out (by omega)).symm⟩
    · have hc := run_convert_bytes_back (P := Tryz.prog) wr 69 9 5 ⟨w.heap.size, 0, none⟩ cap (s.data.toList.map qb) Tryz.underlying69 Tryz.underlying5 Tryz.underlying9 (fun j hj => by
        have hj' : j < s.size := by simpa using hj
        have hks : k = s.size := by omega
        subst hks
        have := R.out.cell j hj'
        rw [shown_row s j hj'] at this
        have e0 : (⟨w.heap.size, 0, none⟩ : Addr).add j = ⟨w.heap.size, j, none⟩ := by
          simp only [Addr.add]; split <;> simp_all
        rw [e0]; exact this)
      rw [show (s.data.toList.map qb).length = s.size by simp] at hc
      go_wp2
      go_ret
      exact ⟨rfl, R.out.below⟩
end Go.Proofs.YtiamgnfbgiognaaGreatDoor
