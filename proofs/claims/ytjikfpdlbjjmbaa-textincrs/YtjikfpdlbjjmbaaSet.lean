/-
  The program's atLeast, SetRange and SetBit.
-/
import Derived.Test.YtjikfpdlbjjmbaaBit
namespace Go.Proofs.Ytjikfpdlbjjmbaa
open Go.RowKit Go.PlainAid

theorem over_zeros (l : List UInt8) (n m : Nat) (hm : max l.length n = m) : over (List.replicate m 0) 0 l = ext l n := by
  unfold over ext
  rw [List.take_zero, List.nil_append, List.drop_replicate]
  congr 2; omega

set_option maxHeartbeats 1000000 in
theorem atLeast_any (s : ByteArray) (n m : Nat) (w : World) (h1 : 1 ≤ n) (hn : n ≤ 1000000) (hs : s.size ≤ 140737488355328) (hm : max s.size n = m) :
    Calls Try.prog 29 #[.string s, .int .i64 n] w fun e w' => e = .returned (.slice (some ⟨w.heap.size, 0, none⟩) m m) ∧ Below w.heap.size w w' ∧ Bk w' w.heap.size (ext (lst s) n) := by
  have hmax : max (s.size : Int) (n : Int) = (m : Int) := by omega
  have hmk := run_make_row' (P := Try.prog) 27 5 (.int .u8 0) 1 Try.underlying27 Try.info5 rfl .i64 .i64 m (by omega) (by omega)
  obtain ⟨wf, hwf⟩ : ∃ wf, w.alloc (.cells (madeCells #[.int .u8 0] m) 5) = wf := ⟨_, rfl⟩
  have hB0 : Bk wf w.heap.size (List.replicate m 0) := by
    show _ = _
    rw [← hwf, heap_alloc_new, made_list]
  have HB0 : Hid (Below w.heap.size w wf) := by show Below _ _ _; rw [← hwf]; exact alloc_below w _
  obtain ⟨w2, hcp, hB2, hb2⟩ := copy_str wf w.heap.size 0 m m _ s hB0 (by omega) (by simp; omega)
  rw [over_zeros _ n _ (by rw [len_lst]; exact hm)] at hB2
  have HB2 : Hid (Below w.heap.size w w2) := HB0.out.trans (hb2 _ (Nat.le_refl _))
  have HK : Hid (Bk w2 w.heap.size (ext (lst s) n)) := hB2
  clear hB0 hb2 hB2
  go_enter Try.func29, Try.ntmps29
  go_wp2
  go_ret
  exact ⟨rfl, HB2.out, HK.out⟩

theorem slice_lo (g n c lo : Nat) (h1 : lo ≤ n) (h2 : lo < c) :
    ∀ wx, (Instr.sliceAt 27 (.slice (some ⟨g, 0, none⟩) n c) (some (.int .i64 lo)) none none).run Try.prog wx = .ok (.slice (some ⟨g, lo, none⟩) (n - lo) (c - lo)) wx := by
  have ht : Try.prog.underlying 27 = some (.slice (Try.prog.elem 27)) := by rw [Try.elem27]; exact Try.underlying27
  intro wx
  rw [run_sliceAt_slice _ _ _ _ _ _ ht, run_slice_l (P := Try.prog) wx 27 _ n c ht .i64 lo (by omega) (by omega), Try.elem27, Try.size5]
  simp only [Result.andThen, sliced, Int.toNat_natCast]
  rw [if_neg (by omega)]
  simp [add_flat]

theorem Bk.text {w : World} {g : Nat} {l : List UInt8} (h : Bk w g l) (n : Nat) (hn : l.length = n) (hm : n ≤ maxLen) : (convert 27 9 (.slice (some ⟨g, 0, none⟩) n n)).run Try.prog w = .ok (.string (bs l)) w :=
  (h.own 0 n (Nat.zero_le _) hn hm).rd.text

theorem over_len (l r : List UInt8) (o : Nat) (h : o + r.length ≤ l.length) : (over l o r).length = l.length := by
  unfold over; simp; omega

theorem notEmp (t : ByteArray) (h : t.size ≠ 0) : t.toList.isEmpty = false := by
  rw [ByteArray.toList_eq]
  cases hq : t.data.toList with
  | nil => exact absurd (by rw [← len_lst, lst, hq]; rfl) h
  | cons b r => rfl

set_option maxHeartbeats 1000000 in
theorem SetRange_any (s : ByteArray) (i : Int) (t : ByteArray) (w : World) (hi : I64 i) (hs : s.size ≤ 140737488355328) (ht : t.size ≤ 140737488355328) :
    Calls Try.prog 19 #[.string s, .int .i64 i, .string t] w fun e w' => e = .returned (setRangeR s i t) ∧ Below w.heap.size w w' := by
  unfold I64 at hi
  unfold setRangeR
  by_cases h : i < 0
  · rw [if_pos h]
    go_enter Try.func19, Try.ntmps19
    go_wp2
    go_ret2
    exact ⟨rfl, Below.refl _ _⟩
  rw [if_neg h]
  by_cases h0 : t.size = 0
  · rw [if_pos h0, emp_of t h0]
    go_enter Try.func19, Try.ntmps19
    go_wp2
    go_ret2
    exact ⟨rfl, Below.refl _ _⟩
  rw [if_neg h0]
  have hne := notEmp t h0
  by_cases h2 : i + t.size ≤ 65536
  · rw [if_pos h2]
    obtain ⟨k, rfl⟩ : ∃ k : Nat, i = k := ⟨i.toNat, by omega⟩
    rw [Int.toNat_natCast]
    obtain ⟨n, hn⟩ : ∃ n, k + t.size = n := ⟨_, rfl⟩
    obtain ⟨m, hm⟩ : ∃ m, max s.size n = m := ⟨_, rfl⟩
    have hnz : (k : Int) + t.size = (n : Int) := by omega
    have hnz' : (k : Int) + t.size ≤ 65536 := by omega
    have HA := fun w => atLeast_any s n m w (by omega) (by omega) hs hm
    have hle : (ext (lst s) n).length = m := by rw [ext_len, len_lst, hm]
    have hsl := slice_lo w.heap.size m m k (by omega) (by omega)
    have HST : Hid (∀ w1, Bk w1 w.heap.size (ext (lst s) n) → ∃ w', (∀ ty, (Builtin.copy_ #[27, 9] ty #[.slice (some ⟨w.heap.size, k, none⟩) (m - k) (m - k), .string t]).run Try.prog w1 = .ok (goInt t.size) w') ∧ Bk w' w.heap.size (over (ext (lst s) n) k (lst t)) ∧ Below w.heap.size w1 w' ∧ (convert 27 9 (.slice (some ⟨w.heap.size, 0, none⟩) m m)).run Try.prog w' = .ok (.string (setRangeB s k t)) w') := by
      intro w1 hw1
      obtain ⟨w2, hcp, hB2, hb2⟩ := copy_str w1 w.heap.size k (m - k) (m - k) _ t hw1 (by omega) (by omega)
      refine ⟨w2, hcp, hB2, hb2 _ (Nat.le_refl _), ?_⟩
      rw [hB2.text m (by rw [over_len _ _ _ (by rw [len_lst]; omega), hle]) (by unfold maxLen; omega)]
      unfold setRangeB; rw [hn]
    have hkm : (k : Int) ≤ m := by omega
    clear hle hm hn
    go_enter Try.func19, Try.ntmps19
    go_wp2_with fail
    refine (HA _).mono ?_
    rintro e w1 ⟨rfl, hb1, hk1⟩
    obtain ⟨w2, hcp, -, hb2, htx⟩ := HST.out w1 hk1
    have HB : Hid (Below w.heap.size w w2) := hb1.trans hb2
    clear hb1 hk1 hb2
    go_wp2
    go_ret2
    exact ⟨rfl, HB.out⟩
  · rw [if_neg h2]
    by_cases h3 : 65536 < i
    · go_enter Try.func19, Try.ntmps19
      go_wp2
      go_ret2
      exact ⟨rfl, Below.refl _ _⟩
    · go_enter Try.func19, Try.ntmps19
      go_wp2
      go_ret2
      exact ⟨rfl, Below.refl _ _⟩
end Go.Proofs.Ytjikfpdlbjjmbaa
