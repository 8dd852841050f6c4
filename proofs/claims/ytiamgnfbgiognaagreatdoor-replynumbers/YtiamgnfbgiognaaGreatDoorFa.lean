/-
  Fail: what a client is told of an error.
-/
import Derived.Test.YtiamgnfbgiognaaGreatDoorXFault
import Derived.Test.YtiamgnfbgiognaaGreatDoorXText
import Derived.Test.YtiamgnfbgiognaaGreatDoorFd
namespace Go.Proofs.YtiamgnfbgiognaaGreatDoor
open Go.RowKit Go.PlainAid

/-- What a code's text is, of a name as it came. -/
def tellB (c : Int) (s : ByteArray) : ByteArray := textB c (shownB s)
set_option maxRecDepth 100000 in
set_option maxHeartbeats 1000000 in
theorem Fail_raw (s : ByteArray) (E : Value) (c : Int) (w : World) (hs : s.size ≤ 1000) (hc : ∀ wx, Below w.heap.size w wx → Calls Tryz.prog 22 #[E] wx fun e w' => e = .returned (.int .i64 c) ∧ Below wx.heap.size wx w') :
    Calls Tryz.prog 8 #[.string s, E] w fun r w' => Below w.heap.size w w' ∧ r = .returned (.agg #[.int .i64 2, .string (tellB c s), .int .i64 0, .slice none 0 0]) := by
  obtain ⟨w1, hw1⟩ : ∃ w1, w.alloc (.cells #[.int .i64 0, .string ⟨#[]⟩, .int .i64 0, .slice none 0 0] 24) = w1 := ⟨_, rfl⟩
  have hb1 : Below w.heap.size w w1 := by rw [← hw1]; exact alloc_below w _
  have HB1 : Hid _ := hb1
  have HZ1 : Hid (BR w1 w.heap.size 0 ⟨#[]⟩ 0 none 0 0) := by rw [← hw1]; exact BR.new w _ _ _ _ _ _
  have HC := hc w1 hb1
  have hs' : s.size ≤ 1000 := hs
  have HT : Hid (∀ wx, Calls Tryz.prog 21 #[.int .i64 c, .string s] wx fun e w' => e = .returned (.string (tellB c s)) ∧ Below wx.heap.size wx w') := fun wx => Text_any c s _ wx hs' rfl
  generalize tellB c s = T at HT ⊢
  clear hb1 hc hs hs'
  go_enter Tryz.func8, Tryz.ntmps8
  go_wp2_with fail
  refine HC.mono ?_
  rintro e w2 ⟨rfl, hb⟩
  have HB2 := step_below HB1 hb
  have HZ2 : Hid _ := HZ1.out.keep hb
  clear hb HC
  go_wp2_with fail
  refine (HT.out _).mono ?_
  rintro e w3 ⟨rfl, hb⟩
  have HB3 := step_below HB2 hb
  have HZ3 : Hid _ := HZ2.out.keep hb
  clear hb hw1
  have HE : ∀ w9, w9 = (((w3.setCell ⟨w.heap.size, 0, none⟩ (.int .i64 2)).setCell ⟨w.heap.size, 1, none⟩ (.string T)).setCell ⟨w.heap.size, 2, none⟩ (.int .i64 0)).setCell ⟨w.heap.size, 3, none⟩ (.slice none 0 0) → Hid (w9.heap[w.heap.size]? = some (.cells #[.int .i64 2, .string T, .int .i64 0, .slice none 0 0] 24 (0, 0))) ∧ Hid (Below w.heap.size w w9) := fun w9 h9 => by
    have h1 := HZ3.out.put 2 T 0 none 0 0
    rw [← h9] at h1
    have hs9 : Stay w3 w9 [w.heap.size] := by rw [h9]; exact Stay.set4
    exact ⟨h1.blk, HB3.out.trans (hs9.below (fun g hg => by simp at hg; omega) HB3.out.size)⟩
  obtain ⟨HE1, HE2⟩ := HE _ rfl
  have x0 := HZ3.out.c0
  have x1 := HZ3.out.c1
  have x2 := HZ3.out.c2
  have x3 := HZ3.out.c3
  have y0 := HZ3.out.fz 0
  have y1 := HZ3.out.fz 1
  have y2 := HZ3.out.fz 2
  have y3 := HZ3.out.fz 3
  clear HE HT
  go_wp2
  exact ret_R rfl rfl HE1.out ⟨HE2.out, rfl⟩
theorem Fail_code (s : ByteArray) (E : Value) (c : Int) (n : Nat) (w : World) (hg : Laid w) (hch : Chain w (codeV c) E n) (hs : s.size ≤ 1000) :
    Calls Tryz.prog 8 #[.string s, E] w fun r w' => Below w.heap.size w w' ∧ r = .returned (.agg #[.int .i64 2, .string (tellB c s), .int .i64 0, .slice none 0 0]) :=
  Fail_raw s E c w hs fun wx hx => Code_code E c n wx (hg.keep hx (lt_of_cell? hg)) (hch.keep hx (Nat.le_refl _))
theorem Fail_nil (s : ByteArray) (w : World) (hs : s.size ≤ 1000) :
    Calls Tryz.prog 8 #[.string s, .nilIface] w fun r w' => Below w.heap.size w w' ∧ r = .returned (.agg #[.int .i64 2, .string (tellB 0 s), .int .i64 0, .slice none 0 0]) :=
  Fail_raw s .nilIface 0 w hs fun wx _ => (Code_nil wx).mono fun e w' h => ⟨h.1, by rw [h.2]; exact Below.refl _ _⟩
theorem tell_pos (c : Int) (h1 : 1 ≤ c) (h2 : c ≤ 25) (s : ByteArray) : 0 < (tellB c s).size := by
  have h : c = 1 ∨ c = 2 ∨ c = 3 ∨ c = 4 ∨ c = 5 ∨ c = 6 ∨ c = 7 ∨ c = 8 ∨ c = 9 ∨ c = 10 ∨ c = 11 ∨ c = 12 ∨ c = 13 ∨ c = 14 ∨ c = 15 ∨ c = 16 ∨ c = 17 ∨ c = 18 ∨ c = 19 ∨ c = 20 ∨ c = 21 ∨ c = 22 ∨ c = 23 ∨ c = 24 ∨ c = 25 := by omega
  unfold tellB
  generalize shownB s = n
  have hp : ∀ a b : ByteArray, 0 < a.size → 0 < (a ++ n ++ b).size := fun a b h => by rw [ByteArray.size_append, ByteArray.size_append]; omega
  rcases h with rfl | rfl | rfl | rfl | rfl | rfl | rfl | rfl | rfl | rfl | rfl | rfl | rfl | rfl | rfl | rfl | rfl | rfl | rfl | rfl | rfl | rfl | rfl | rfl | rfl
  all_goals first
    | exact hp _ _ (by decide)
    | (unfold textB; rw [if_neg (by decide), if_neg (by decide), if_neg (by decide)]; decide)
theorem tell_max (c : Int) (h1 : 1 ≤ c) (h2 : c ≤ 25) (s : ByteArray) (hs : s.size ≤ 1000) : (tellB c s).size ≤ 4000 := by
  have h : c = 1 ∨ c = 2 ∨ c = 3 ∨ c = 4 ∨ c = 5 ∨ c = 6 ∨ c = 7 ∨ c = 8 ∨ c = 9 ∨ c = 10 ∨ c = 11 ∨ c = 12 ∨ c = 13 ∨ c = 14 ∨ c = 15 ∨ c = 16 ∨ c = 17 ∨ c = 18 ∨ c = 19 ∨ c = 20 ∨ c = 21 ∨ c = 22 ∨ c = 23 ∨ c = 24 ∨ c = 25 := by omega
  have hn := size_shownB s
  unfold tellB
  generalize shownB s = n at hn ⊢
  have hp : ∀ a b : ByteArray, a.size ≤ 1000 → b.size ≤ 1000 → (a ++ n ++ b).size ≤ 4000 := fun a b h h' => by rw [ByteArray.size_append, ByteArray.size_append]; omega
  rcases h with rfl | rfl | rfl | rfl | rfl | rfl | rfl | rfl | rfl | rfl | rfl | rfl | rfl | rfl | rfl | rfl | rfl | rfl | rfl | rfl | rfl | rfl | rfl | rfl | rfl
  all_goals first
    | exact hp _ _ (by decide) (by decide)
    | (unfold textB; rw [if_neg (by decide), if_neg (by decide), if_neg (by decide)]; decide)
end Go.Proofs.YtiamgnfbgiognaaGreatDoor
