/-
  Spans: the program's fromStart, span, Clone, Range, Count; the document's own Span, Range, Count; Append; Within.
-/
import Derived.Test.YtjikfpdlbjjmbaaTxt
import Derived.Lib.MinMax
import Derived.Lib.BufferWrite
import Derived.Lib.UnsafeStr
namespace Go.Proofs.Ytjikfpdlbjjmbaa
open Go.RowKit Go.PlainAid

def I64 (a : Int) : Prop := -9223372036854775808 ≤ a ∧ a ≤ 9223372036854775807

theorem fromStart_any (i : Int) (n : Nat) (w : World) (hi : I64 i) (hn : n ≤ 9223372036854775807) :
    Calls Try.prog 42 #[.int .i64 i, .int .i64 n] w fun e w' => e = .returned (.int .i64 (fs n i)) ∧ w' = w := by
  unfold I64 at hi
  by_cases h : i < 0
  · have HF : Hid (fs n i = i + n) := if_pos h
    go_enter Try.func42, Try.ntmps42
    go_wp2
    go_ret
    exact ⟨by rw [HF.out]; rfl, rfl⟩
  · have HF : Hid (fs n i = i) := if_neg h
    go_enter Try.func42, Try.ntmps42
    go_wp2
    go_ret
    exact ⟨by rw [HF.out]; rfl, rfl⟩

theorem fs_bounds (n : Nat) (i : Int) (hi : I64 i) (hn : n ≤ 9223372036854775807) : I64 (fs n i) := by
  unfold I64 fs at *; split <;> omega

theorem span_any (s : ByteArray) (a b : Int) (w : World) (ha : I64 a) (hb : I64 b) (hs : s.size ≤ maxLen) :
    Calls Try.prog 31 #[.string s, .int .i64 a, .int .i64 b] w fun e w' => e = .returned (.string (spanB s a b)) ∧ w' = w := by
  unfold maxLen at hs
  have HA := fun w => fromStart_any a s.size w ha (by omega)
  have HB := fun w => fromStart_any b s.size w hb (by omega)
  have hfa := fs_bounds s.size a ha (by omega)
  have hfb := fs_bounds s.size b hb (by omega)
  have HS : Hid (spanB s a b = if spB s.size b < spA s.size a then ⟨#[]⟩ else s.extract (spA s.size a).toNat (spB s.size b + 1).toNat) := rfl
  have hA : max (fs s.size a) 0 = spA s.size a := rfl
  have hB : min (fs s.size b) ((s.size : Int) - 1) = spB s.size b := rfl
  unfold I64 at hfa hfb ha hb
  have hA0 : 0 ≤ spA s.size a ∧ spA s.size a ≤ 9223372036854775807 := by omega
  have hB0 : -9223372036854775808 ≤ spB s.size b ∧ spB s.size b < s.size := by omega
  generalize fs s.size a = X at *
  generalize fs s.size b = Y at *
  generalize spA s.size a = A at *
  generalize spB s.size b = B at *
  by_cases h : B < A
  · rw [if_pos h] at HS
    go_enter Try.func31, Try.ntmps31
    go_wp2_with fail
    refine (HA _).mono ?_
    rintro e w ⟨rfl, rfl⟩
    go_wp2_with fail
    refine (HB _).mono ?_
    rintro e w ⟨rfl, rfl⟩
    go_wp2
    go_ret
    exact ⟨by rw [HS.out]; rfl, rfl⟩
  · rw [if_neg h] at HS
    obtain ⟨lo, rfl⟩ : ∃ lo : Nat, A = lo := ⟨A.toNat, by omega⟩
    obtain ⟨hi, rfl⟩ : ∃ hi : Nat, B = (hi : Int) := ⟨B.toNat, by omega⟩
    go_enter Try.func31, Try.ntmps31
    go_wp2_with fail
    refine (HA _).mono ?_
    rintro e w ⟨rfl, rfl⟩
    go_wp2_with fail
    refine (HB _).mono ?_
    rintro e w ⟨rfl, rfl⟩
    go_wp2
    go_ret
    exact ⟨by rw [HS.out]; rfl, rfl⟩

theorem alloc_below (w : World) (o : Obj) : Below w.heap.size w (w.alloc o) := (Below.refl _ _).alloc (Nat.le_refl _) _
/-- Block g has these bytes. -/
def Bk (w : World) (g : Nat) (l : List UInt8) : Prop := w.heap[g]? = some (.cells (cells l).toArray 5 (0, 0))
theorem len_cells (l : List UInt8) : (cells l).length = l.length := by simp [cells]
theorem Bk.own {w : World} {g : Nat} {l : List UInt8} (h : Bk w g l) (B n : Nat) (hB : B ≤ g) (hn : l.length = n) (hm : n ≤ maxLen) : Own w B (some ⟨g, 0, none⟩) n n l := by
  refine ⟨by simp [cells, hn], .inr ⟨g, n, (cells l).toArray, rfl, hB, h, Nat.le_refl _, hm, by simp [cells, hn], ?_⟩⟩
  rw [List.take_of_length_le (by simp [cells, hn])]
theorem Bk.keep {w w' : World} {g : Nat} {l : List UInt8} (h : Bk w g l) (hb : Below w.heap.size w w') : Bk w' g l := by
  show _ = _
  rw [hb.block g (Array.getElem?_eq_some_iff.1 h).1]; exact h
theorem Bk.cell {w : World} {g : Nat} {l : List UInt8} (h : Bk w g l) (j : Nat) (hj : j < l.length) : w.cell? ⟨g, j, none⟩ = some (.int .u8 ((l.getD j 0).toNat : Nat)) := by
  have h' : w.heap[g]? = some (.cells (cells l).toArray 5 (0, 0)) := h
  simp [World.cell?, h', cells, List.getD_eq_getElem?_getD, hj]
theorem Bk.frozen {w : World} {g : Nat} {l : List UInt8} (h : Bk w g l) (j : Nat) : w.frozen? ⟨g, j, none⟩ = false := by
  have h' : w.heap[g]? = some (.cells (cells l).toArray 5 (0, 0)) := h
  simp [World.frozen?, h']
theorem Bk.set {w : World} {g : Nat} {l : List UInt8} (h : Bk w g l) (j : Nat) (b : UInt8) (x : Int) (hx : x = (b.toNat : Nat)) : Bk (w.setCell ⟨g, j, none⟩ (.int .u8 x)) g (l.set j b) := by
  have h' : w.heap[g]? = some (.cells (cells l).toArray 5 (0, 0)) := h
  subst hx
  show (w.setCell ⟨g, j, none⟩ _).heap[g]? = _
  simp [World.setCell, Array.getElem?_modify, h', cells, List.map_set]

theorem made_list (n : Nat) : madeCells #[.int .u8 0] n = (cells (List.replicate n 0)).toArray := by
  apply Array.ext
  · simp [madeCells, cells]
  · intro i h1 h2
    simp [madeCells, Nat.mod_one, cells]

/-- copy(d, s), d in block g from place o on. -/
theorem copy_str (w : World) (g o dLen dCap : Nat) (l : List UInt8) (s : ByteArray) (h : Bk w g l) (hle : s.size ≤ dLen) (hfit : o + s.size ≤ l.length) :
    ∃ w', (∀ ty, (Builtin.copy_ #[27, 9] ty #[.slice (some ⟨g, o, none⟩) dLen dCap, .string s]).run Try.prog w = .ok (goInt s.size) w') ∧ Bk w' g (over l o (lst s)) ∧ ∀ B, B ≤ g → Below B w w' := by
  have h' : w.heap[g]? = some (.cells (cells l).toArray 5 (0, 0)) := h
  refine ⟨_, fun ty => Lib.run_copy_row_string (P := Try.prog) w 27 9 ty 5 g o dLen dCap s (cells l).toArray 5 Try.underlying27 (by kernel_rfl) h hle (by simpa [cells] using hfit), ?_, fun B hB => ?_⟩
  · show _ = _
    rw [setRow_heap w g (cells l).toArray _ 5 (0, 0) h]
    congr 3
    simp [over, cells, Lib.byteCells, List.map_append, List.map_take, List.map_drop]
  · exact ⟨rfl, rfl, rfl, by simp, fun k hk => setRow_other _ _ _ _ (by omega)⟩

theorem emp_of (s : ByteArray) (h : s.size = 0) : s = ⟨#[]⟩ := by
  apply ByteArray.ext
  exact Array.eq_empty_of_size_eq_zero h

theorem over_all (l r : List UInt8) (h : l.length = r.length) : over l 0 r = r := by
  unfold over
  rw [List.take_zero, List.nil_append, List.drop_of_length_le (by omega), List.append_nil]

set_option maxHeartbeats 1000000 in
theorem Clone_any (s : ByteArray) (w : World) (hs : s.size ≤ 140737488355328) :
    Calls Try.prog 43 #[.string s] w fun e w' => e = .returned (.string s) ∧ Below w.heap.size w w' := by
  by_cases h0 : s.size = 0
  · rw [emp_of s h0]
    go_enter Try.func43, Try.ntmps43
    go_wp2
    go_ret
    exact ⟨rfl, Below.refl _ _⟩
  · have hmk := run_make_row' (P := Try.prog) 27 5 (.int .u8 0) 1 Try.underlying27 Try.info5 rfl .i64 .i64 s.size (by omega) (by omega)
    obtain ⟨wf, hwf⟩ : ∃ wf, w.alloc (.cells (madeCells #[.int .u8 0] s.size) 5) = wf := ⟨_, rfl⟩
    have hB0 : Bk wf w.heap.size (List.replicate s.size 0) := by
      show _ = _
      rw [← hwf, heap_alloc_new, made_list]
    have HB0 : Hid (Below w.heap.size w wf) := by show Below _ _ _; rw [← hwf]; exact alloc_below w _
    obtain ⟨w2, hcp, hB2, hb2⟩ := copy_str wf w.heap.size 0 s.size s.size _ s hB0 (Nat.le_refl _) (by simp)
    rw [over_all _ _ (by simp [lst])] at hB2
    have HB2 : Hid (Below w.heap.size w w2) := HB0.out.trans (hb2 _ (Nat.le_refl _))
    have hsh : w2.shape? w.heap.size = some (5, s.size) := by
      have h' : w2.heap[w.heap.size]? = some (.cells (cells (lst s)).toArray 5 (0, 0)) := hB2
      simp [World.shape?, h', cells, lst]
    have hUS := Lib.run_unsafeString_row (P := Try.prog) w2 63 3 9 5 Try.underlying63 (by kernel_rfl) w.heap.size s.size hsh (lst s) (fun e => h0 (by rw [← len_lst, e]; rfl)) (by rw [len_lst]; omega) (by rw [len_lst]; omega)
      (fun j x hx => by
        have hj : j < (lst s).length := by
          rcases Nat.lt_or_ge j (lst s).length with h | h
          · exact h
          · rw [List.getElem?_eq_none h] at hx; cases hx
        rw [add_flat, Nat.zero_add, hB2.cell j hj, List.getD_eq_getElem?_getD, hx]; rfl)
    rw [len_lst] at hUS
    have hcell := hB2.cell 0 (by have := len_lst s; omega)
    have HBf : Hid (Below w.heap.size w (w2.freeze ⟨w.heap.size, 0, none⟩ s.size)) := Lib.below_freeze HB2.out (p := ⟨w.heap.size, 0, none⟩) (Nat.le_refl _) _
    have hq : ((s.size : Int) == 0) = false := by simpa using h0
    clear hB0 hb2 hB2 hsh
    go_enter Try.func43, Try.ntmps43
    go_wp2
    go_ret
    exact ⟨rfl, HBf.out⟩

theorem sClone_any (s : ByteArray) (w : World) (hs : s.size ≤ 140737488355328) :
    Calls Try.prog 33 #[.string s] w fun e w' => e = .returned (.string s) ∧ Below w.heap.size w w' := by
  have H := fun w => Clone_any s w hs
  go_enter Try.func33, Try.ntmps33
  go_wp2_with fail
  refine (H _).mono ?_
  rintro e w1 ⟨rfl, hb⟩
  have HB : Hid (Below w.heap.size w w1) := hb
  clear hb
  go_wp2
  go_ret
  exact ⟨rfl, HB.out⟩

theorem Range_any (s : ByteArray) (a b : Int) (w : World) (ha : I64 a) (hb : I64 b) (hs : s.size ≤ 140737488355328) :
    Calls Try.prog 20 #[.string s, .int .i64 a, .int .i64 b] w fun e w' => e = .returned (.string (spanB s a b)) ∧ Below w.heap.size w w' := by
  have H1 := fun w => span_any s a b w ha hb (by unfold maxLen; omega)
  have H2 := fun w => sClone_any (spanB s a b) w (Nat.le_trans (size_spanB s a b) hs)
  generalize spanB s a b = t at H1 H2 ⊢
  go_enter Try.func20, Try.ntmps20
  go_wp2_with fail
  refine (H1 _).mono ?_
  rintro e w1 ⟨rfl, rfl⟩
  go_wp2_with fail
  refine (H2 _).mono ?_
  rintro e w2 ⟨rfl, hb⟩
  have HB : Hid (Below w1.heap.size w1 w2) := hb
  clear hb
  go_wp2
  go_ret
  exact ⟨rfl, HB.out⟩
end Go.Proofs.Ytjikfpdlbjjmbaa
