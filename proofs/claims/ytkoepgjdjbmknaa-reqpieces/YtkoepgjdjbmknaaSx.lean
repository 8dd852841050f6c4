/-
  bytes.Index, by the library's contract, at a line's two ends.
-/
import Derived.Test.YtkoepgjdjbmknaaRm
import Derived.Shelf.Bytes.SlIndexWhole
import Derived.KernelRfl
namespace Go.Proofs.Ytkoepgjdjbmknaa
open Go.RowKit Go.PlainAid

def ren : Go.Shelf.Ren := ⟨fun | 115 => 56 | 185 => 52 | 187 => 55 | 224 => 58 | 253 => 57 | 254 => 59 | 255 => 62 | 291 => 63 | n => n, fun | 0 => 0 | 3 => 3 | 4 => 4 | 5 => 5 | 9 => 9 | 37 => 24 | 46 => 91 | 51 => 92 | 146 => 93 | n => n, fun | 1 => 0 | n => n⟩
theorem lays185 : Lays.n185 Try.prog ren where
  mixed := by kernel_rfl
  f115 := Try.func56.trans (congrArg some (by kernel_rfl))
  f185 := Try.func52.trans (congrArg some (by kernel_rfl))
  f187 := Try.func55.trans (congrArg some (by kernel_rfl))
  f224 := Try.func58.trans (congrArg some (by kernel_rfl))
  f253 := Try.func57.trans (congrArg some (by kernel_rfl))
  f254 := Try.func59.trans (congrArg some (by kernel_rfl))
  f255 := Try.func62.trans (congrArg some (by kernel_rfl))
  f291 := Try.func63.trans (congrArg some (by kernel_rfl))
  t0 := Try.underlying0
  a0 := Try.isAgg0
  z0 := Try.sizeOf0
  v0 := Try.zeroValue0
  t3 := Try.underlying3
  a3 := Try.isAgg3
  z3 := Try.sizeOf3
  v3 := Try.zeroValue3
  t4 := Try.underlying4
  a4 := Try.isAgg4
  z4 := Try.sizeOf4
  v4 := Try.zeroValue4
  t5 := Try.underlying5
  a5 := Try.isAgg5
  z5 := Try.sizeOf5
  v5 := Try.zeroValue5
  t9 := Try.underlying9
  a9 := Try.isAgg9
  z9 := Try.sizeOf9
  v9 := Try.zeroValue9
  t37 := Try.underlying24
  a37 := Try.isAgg24
  z37 := Try.sizeOf24
  v37 := Try.zeroValue24
  t46 := Try.underlying91
  a46 := Try.isAgg91
  z46 := Try.sizeOf91
  v46 := Try.zeroValue91
  t51 := Try.underlying92
  a51 := Try.isAgg92
  z51 := Try.sizeOf92
  v51 := Try.zeroValue92
  t146 := Try.underlying93
  a146 := Try.isAgg93
  z146 := Try.sizeOf93
  v146 := Try.zeroValue93
  g1 := by kernel_rfl

/-- A place, or -1. -/
def idxV (o : Option Nat) : Int := match o with | some i => (i : Int) | none => -1
theorem idxV_map (o : Option Nat) : idxV (o.map (· + 1)) = if idxV o == -1 then -1 else idxV o + 1 := by
  cases o with
  | none => rfl
  | some i =>
    show ((i + 1 : Nat) : Int) = if (i : Int) == -1 then -1 else (i : Int) + 1
    rw [if_neg (by simp)]; rfl
theorem index_crlf (l : List UInt8) : Lib.index l [13, 10] = idxV (crlf l) := by
  induction l with
  | nil => rfl
  | cons b r ih =>
    rw [Lib.index, crlf, ih]
    have hp : ([13, 10] : List UInt8).isPrefixOf (b :: r) = decide (b = 13 ∧ r.head? = some 10) := by
      rw [List.isPrefixOf, Bool.eq_iff_iff]
      cases r with
      | nil => simp [List.isPrefixOf]
      | cons c r => simp [List.isPrefixOf]; exact ⟨fun h => ⟨h.1.symm, h.2.symm⟩, fun h => ⟨h.1.symm, h.2.symm⟩⟩
    rw [hp]
    by_cases h : b = 13 ∧ r.head? = some 10
    · rw [if_pos (by simpa using h), if_pos h]; rfl
    · rw [if_neg (by simpa using h), if_neg h, idxV_map]
theorem index_lf (l : List UInt8) : Lib.index l [10] = idxV (lf l) := by
  induction l with
  | nil => rfl
  | cons b r ih =>
    rw [Lib.index, lf, ih]
    have hp : ([10] : List UInt8).isPrefixOf (b :: r) = decide (b = 10) := by
      rw [List.isPrefixOf, Bool.eq_iff_iff]
      simp [List.isPrefixOf]
      exact eq_comm
    rw [hp]
    by_cases h : b = 10
    · rw [if_pos (by simpa using h), if_pos h]; rfl
    · rw [if_neg (by simpa using h), if_neg h, idxV_map]

def nums (l : List UInt8) : List Int := l.map fun b => (b.toNat : Int)
theorem of_nums (l : List UInt8) : Lib.bytesOf (nums l) = l := by
  unfold Lib.bytesOf nums
  rw [List.map_map]
  conv => rhs; rw [← List.map_id l]
  refine List.map_congr_left fun b _ => ?_
  simp
theorem nums_range (l : List UInt8) : ∀ x ∈ nums l, 0 ≤ x ∧ x < 256 := by
  intro x hx
  unfold nums at hx
  rw [List.mem_map] at hx
  obtain ⟨b, -, rfl⟩ := hx
  have := b.toNat_lt
  omega
theorem nums_get (l : List UInt8) (j : Nat) : (nums l).getD j 0 = ((l.getD j 0).toNat : Int) := by
  unfold nums
  rw [List.getD_eq_getElem?_getD, List.getD_eq_getElem?_getD, List.getElem?_map]
  cases l[j]? <;> rfl

/-- bytes.Index at a row that is told by its bytes, and an end of a byte or more. -/
theorem Index_any {w : World} {a a2 : Option Addr} {n c k c2 : Nat} {l e : List UInt8} (m : Int) (h : Rd w a n c l) (h2 : Rd w a2 k c2 e) (hk : 0 < k) (hk2 : k ≤ 9223372036854775807) (hn : n < 4294967281) (hm : w.cell? ⟨0, 0, none⟩ = some (.int .i64 m)) :
    Calls Try.prog 52 #[.slice a n c, .slice a2 k c2] w fun e' w' => e' = .returned (.int .i64 (Lib.index l e)) ∧ ∃ q, w' = w.drewN q := by
  cases a with
  | none =>
    have hc := h.nul rfl
    have hf := h.fit
    have hl := h.len
    have hn0 : n = 0 := by omega
    subst hn0
    subst hc
    have hl0 : l = [] := List.length_eq_zero_iff.1 hl
    subst hl0
    have := Any.bytes_Index_nil lays185 a2 k c2 w hk2 (by
      intro k1
      obtain ⟨b, off, e1, hc⟩ := h2.cell 0 (by omega)
      exact ⟨b, off, _, e1, by rw [Nat.add_zero] at hc; exact hc⟩)
    refine this.mono fun e' w' ⟨he, hw⟩ => ⟨?_, 0, hw⟩
    rw [he, if_neg (by omega)]
    have hi : Lib.index [] e = -1 := by
      cases e with
      | nil => have := h2.len; simp at this; omega
      | cons => rfl
    rw [hi]
  | some x =>
    cases a2 with
    | none => have := h2.nul rfl; have := h2.fit; omega
    | some y =>
      have := Any.bytes_Index_at lays185 x y n c k c2 (nums l) (nums e) m w (by rw [nums, List.length_map]; exact h.len) (by rw [nums, List.length_map]; exact h2.len) (nums_range _) (nums_range _) (by
          intro i hi
          obtain ⟨b, off, e1, hc⟩ := h.cell i hi
          cases e1
          rw [add_flat, hc, nums_get]) (by
          intro i hi
          obtain ⟨b, off, e1, hc⟩ := h2.cell i hi
          cases e1
          rw [add_flat, hc, nums_get]) h.fit hn hk2 hm
      rw [of_nums, of_nums] at this
      exact this
end Go.Proofs.Ytkoepgjdjbmknaa
