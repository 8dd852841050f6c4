/-
  Package fault's functions by their contracts: over chains of faults round a code, and round another error.
-/
import Derived.Test.YtnbiejedmakaaaaDoorFind
namespace Go.Proofs.YtnbiejedmakaaaaDoor
open Go.RowKit Go.Extern.Stop Go.Stop Go.Extern

theorem Tryd.comp36 : (Tryd.prog.info? 36).map (·.comparable) = some true := by kernel_rfl
theorem Tryd.size40 : (Tryd.prog.info? 40).map (·.size) = some 2 := by kernel_rfl

/-- 'x != y', both the same pointer in an interface: false. -/
theorem neq36 (a : Addr) (w : World) : (binOp .neq 26 (.iface 36 (.pointer (some a))) (.iface 36 (.pointer (some a)))).run Tryd.prog w = .ok (.bool false) w := by
  obtain ⟨i, hi, hcmp⟩ := Option.map_eq_some_iff.1 Tryd.comp36
  obtain ⟨j, hj, hjs⟩ := Option.map_eq_some_iff.1 Tryd.size40
  simp only [binOp]
  simp [Op.equal, Op.maxDepth, run_equalIn_iface_ptr_same w 9998 a Tryd.underlying26 Tryd.underlying36 hi hcmp hj]

theorem New_ok (s : ByteArray) (w : World) : Calls Tryd.prog 11 #[.string s, .int .i64 0] w fun e w' => e = .returned .nilIface ∧ w' = w := by
  go_enter Tryd.func11, Tryd.ntmps11
  go_wp2
  go_ret
  exact ⟨rfl, rfl⟩

abbrev newW (w : World) (s : ByteArray) (E : Value) : World := w.alloc (.cells #[.string s, E] 40)
abbrev newE (w : World) : Value := .iface 36 (.pointer (some ⟨w.heap.size, 0, none⟩))

theorem newW_below (w : World) (s : ByteArray) (E : Value) : Below w.heap.size w (newW w s E) := (Below.refl _ _).alloc (Nat.le_refl _) _

theorem Chain.new {w : World} {R E : Value} {n : Nat} (h : Chain w R E n) (s : ByteArray) : Chain (newW w s E) R (newE w) (n + 1) :=
  .wrap _ s E n (by simp) (by simp) (h.keep (newW_below w s E) (Nat.le_refl _))

theorem New_err (s : ByteArray) (c : Int) (hc : ¬ c = 0) (w : World) : Calls Tryd.prog 11 #[.string s, .int .i64 c] w fun e w' => e = .returned (newE w) ∧ w' = newW w s (codeV c) := by
  have hc' : (c == 0) = false := by simp [hc]
  go_enter Tryd.func11, Tryd.ntmps11
  go_wp2
  go_ret
  exact ⟨rfl, rfl⟩

theorem Code_nil (w : World) : Calls Tryd.prog 12 #[.nilIface] w fun e w' => e = .returned (.int .i64 0) ∧ w' = w := by
  go_enter Tryd.func12, Tryd.ntmps12
  go_wp2
  go_ret
  exact ⟨rfl, rfl⟩

set_option maxHeartbeats 400000 in
theorem Code_code (E : Value) (c : Int) (n : Nat) (w : World) (hg : Laid w) (hch : Chain w (codeV c) E n) :
    Calls Tryd.prog 12 #[E] w fun e w' => e = .returned (.int .i64 c) ∧ Below w.heap.size w w' := by
  obtain ⟨u, v, rfl⟩ := hch.iface ⟨_, _, rfl⟩
  have HC : Hid (Chain w (codeV c) (.iface u v) n) := hch
  have HG : Hid (Laid w) := hg
  clear hch hg
  go_enter Tryd.func12, Tryd.ntmps12
  go_wp2_with (go_at_call 29; refine (findCode_code _ c n _ HG.out HC.out).mono ?_; rintro e w' ⟨rfl, hb⟩)
  go_ret
  exact ⟨rfl, hb⟩

set_option maxHeartbeats 400000 in
theorem Code_other (E x : Value) (n : Nat) (w : World) (hg : Laid w) (hch : Chain w (.iface 58 x) E n) :
    Calls Tryd.prog 12 #[E] w fun e w' => e = .returned (.int .i64 24) ∧ Below w.heap.size w w' := by
  obtain ⟨u, v, rfl⟩ := hch.iface ⟨_, _, rfl⟩
  have HC : Hid (Chain w (.iface 58 x) (.iface u v) n) := hch
  have HG : Hid (Laid w) := hg
  clear hch hg
  go_enter Tryd.func12, Tryd.ntmps12
  go_wp2_with (go_at_call 29; refine (findCode_other _ x n _ HG.out HC.out).mono ?_; rintro e w' ⟨rfl, hb⟩)
  go_ret
  exact ⟨rfl, hb⟩

theorem Wrap_nil (s : ByteArray) (w : World) : Calls Tryd.prog 16 #[.string s, .nilIface] w fun e w' => e = .returned .nilIface ∧ w' = w := by
  go_enter Tryd.func16, Tryd.ntmps16
  go_wp2_with (go_at_call 12; refine (Code_nil _).mono ?_; rintro e w' ⟨rfl, rfl⟩)
  go_ret
  exact ⟨rfl, rfl⟩

set_option maxHeartbeats 400000 in
/-- Wrap of the code OK itself: nil. -/
theorem Wrap_ok (s : ByteArray) (w : World) (hg : Laid w) : Calls Tryd.prog 16 #[.string s, codeV 0] w fun e w' => e = .returned .nilIface ∧ Below w.heap.size w w' := by
  have HG : Hid (Laid w) := hg
  clear hg
  go_enter Tryd.func16, Tryd.ntmps16
  go_wp2_with (go_at_call 12; refine (Code_code _ 0 0 _ HG.out .leaf).mono ?_; rintro e w' ⟨rfl, hb⟩)
  go_ret
  exact ⟨rfl, hb⟩

set_option maxHeartbeats 400000 in
theorem Wrap_code (s : ByteArray) (E : Value) (c : Int) (n : Nat) (w : World) (hg : Laid w) (hc : ¬ c = 0) (hch : Chain w (codeV c) E n) :
    Calls Tryd.prog 16 #[.string s, E] w fun e w' => ∃ b, e = .returned (.iface 36 (.pointer (some ⟨b, 0, none⟩))) ∧ Below w.heap.size w w' ∧ w'.cell? ⟨b, 0, none⟩ = some (.string s) ∧ w'.cell? ⟨b, 1, none⟩ = some E ∧ Chain w' (codeV c) (.iface 36 (.pointer (some ⟨b, 0, none⟩))) (n + 1) := by
  have hc' : (c == 0) = false := by simp [hc]
  obtain ⟨u, v, rfl⟩ := hch.iface ⟨_, _, rfl⟩
  have HC : Hid (Chain w (codeV c) (.iface u v) n) := hch
  have HG : Hid (Laid w) := hg
  clear hch hg
  go_enter Tryd.func16, Tryd.ntmps16
  go_wp2_with (go_at_call 12; refine (Code_code _ c n _ HG.out HC.out).mono ?_; rintro e w' ⟨rfl, hb⟩)
  go_ret
  exact ⟨_, rfl, hb.trans ((newW_below _ _ _).mono hb.size), by simp, by simp, (HC.out.keep hb (Nat.le_refl _)).new s⟩

set_option maxHeartbeats 400000 in
theorem Wrap_other (s : ByteArray) (E x : Value) (n : Nat) (w : World) (hg : Laid w) (hch : Chain w (.iface 58 x) E n) :
    Calls Tryd.prog 16 #[.string s, E] w fun e w' => ∃ b, e = .returned (.iface 36 (.pointer (some ⟨b, 0, none⟩))) ∧ Below w.heap.size w w' ∧ w'.cell? ⟨b, 0, none⟩ = some (.string s) ∧ w'.cell? ⟨b, 1, none⟩ = some E ∧ Chain w' (.iface 58 x) (.iface 36 (.pointer (some ⟨b, 0, none⟩))) (n + 1) := by
  obtain ⟨u, v, rfl⟩ := hch.iface ⟨_, _, rfl⟩
  have HC : Hid (Chain w (.iface 58 x) (.iface u v) n) := hch
  have HG : Hid (Laid w) := hg
  clear hch hg
  go_enter Tryd.func16, Tryd.ntmps16
  go_wp2_with (go_at_call 12; refine (Code_other _ x n _ HG.out HC.out).mono ?_; rintro e w' ⟨rfl, hb⟩)
  go_ret
  exact ⟨_, rfl, hb.trans ((newW_below _ _ _).mono hb.size), by simp, by simp, (HC.out.keep hb (Nat.le_refl _)).new s⟩

theorem Cmd_nil (w : World) : Calls Tryd.prog 13 #[.nilIface] w fun e w' => e = .returned (.string ⟨#[]⟩) ∧ Below w.heap.size w w' := by
  go_enter Tryd.func13, Tryd.ntmps13
  go_wp2_with (go_at_call 30; refine (findFault_nil _).mono ?_; rintro e w' ⟨rfl, hb⟩)
  go_ret
  exact ⟨rfl, hb⟩

set_option maxHeartbeats 400000 in
theorem Cmd_other (x : Value) (w : World) (hg : Laid w) : Calls Tryd.prog 13 #[.iface 58 x] w fun e w' => e = .returned (.string ⟨#[]⟩) ∧ Below w.heap.size w w' := by
  have HG : Hid (Laid w) := hg
  clear hg
  go_enter Tryd.func13, Tryd.ntmps13
  go_wp2_with (go_at_call 30; refine (findFault_other x _ HG.out).mono ?_; rintro e w' ⟨rfl, hb⟩)
  go_ret
  exact ⟨rfl, hb⟩

set_option maxHeartbeats 400000 in
theorem Cmd_fault (b : Nat) (s : ByteArray) (w : World) (hg : Laid w) (hs : w.cell? ⟨b, 0, none⟩ = some (.string s)) : Calls Tryd.prog 13 #[.iface 36 (.pointer (some ⟨b, 0, none⟩))] w fun e w' => e = .returned (.string s) ∧ Below w.heap.size w w' := by
  have HG : Hid (Laid w) := hg
  clear hg
  have hl := lt_of_cell? hs
  go_enter Tryd.func13, Tryd.ntmps13
  go_wp2_with (go_at_call 30; refine (findFault_fault ⟨b, 0, none⟩ _ HG.out).mono ?_; rintro e w' ⟨rfl, hb⟩; have hs' : w'.cell? ⟨b, 0, none⟩ = some (.string s) := by rw [hb.cell hl]; exact hs)
  go_ret
  exact ⟨rfl, hb⟩

set_option maxHeartbeats 400000 in
theorem asFault_fault (a : Addr) (w : World) (hg : Laid w) :
    Calls Tryd.prog 31 #[.iface 36 (.pointer (some a))] w fun e w' => e = .returned (.tuple #[.pointer (some a), .bool true]) ∧ Below w.heap.size w w' := by
  have HG : Hid (Laid w) := hg
  clear hg
  have hn := neq36
  go_enter Tryd.func31, Tryd.ntmps31
  go_wp2_with (go_at_call 30; refine (findFault_fault a _ HG.out).mono ?_; rintro e w' ⟨rfl, hb⟩)
  go_ret2
  exact ⟨rfl, hb⟩

set_option maxHeartbeats 400000 in
theorem asFault_none (E : Value) (w : World) (h : Calls Tryd.prog 30 #[E] w fun e w' => e = .returned (.tuple #[.pointer none, .bool false]) ∧ Below w.heap.size w w') :
    Calls Tryd.prog 31 #[E] w fun e w' => e = .returned (.tuple #[.pointer none, .bool false]) ∧ Below w.heap.size w w' := by
  have H : Hid (Calls Tryd.prog 30 #[E] w fun e w' => e = .returned (.tuple #[.pointer none, .bool false]) ∧ Below w.heap.size w w') := h
  clear h
  go_enter Tryd.func31, Tryd.ntmps31
  go_wp2_with (go_at_call 30; refine H.out.mono ?_; rintro e w' ⟨rfl, hb⟩)
  go_ret2
  exact ⟨rfl, hb⟩

set_option maxHeartbeats 400000 in
theorem Unwrap_fault (b : Nat) (E : Value) (w : World) (h : w.cell? ⟨b, 1, none⟩ = some E) : Calls Tryd.prog 25 #[.pointer (some ⟨b, 0, none⟩)] w fun e w' => e = .returned E ∧ w' = w := by
  go_enter Tryd.func25, Tryd.ntmps25
  go_wp2
  go_ret
  exact ⟨rfl, rfl⟩
end Go.Proofs.YtnbiejedmakaaaaDoor
