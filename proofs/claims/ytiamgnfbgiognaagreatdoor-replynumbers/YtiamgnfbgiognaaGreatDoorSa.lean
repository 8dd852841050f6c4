/-
  meant; cmp.Compare, strings.Compare, cmp.Or.
-/
import Derived.Test.YtiamgnfbgiognaaGreatDoorRp
import Derived.Laws.Externs
import Derived.Lib.BitFns
import Derived.Deep.SlicePairs
namespace Go.Proofs.YtiamgnfbgiognaaGreatDoor
open Go.RowKit Go.PlainAid

theorem Tryz.infoR : (Tryz.prog.info? 24).map (·.size) = some 4 := by kernel_rfl
theorem below2 (w : World) (o o' : Obj) : Below w.heap.size w ((w.alloc o).alloc o') := (alloc_below w o).trans ((alloc_below (w.alloc o) o').mono (alloc_below w o).size)
theorem alloc_size (w : World) (o : Obj) : (w.alloc o).heap.size = w.heap.size + 1 := by show (w.heap.push o).size = _; exact Array.size_push _
theorem heap_new2 (w : World) (o o' : Obj) : ((w.alloc o).alloc o').heap[w.heap.size + 1]? = some o' := by
  have := heap_alloc_new (w.alloc o) o'
  rwa [alloc_size] at this
/-- A reply comes back out of its cell. -/
theorem ret_R {fn : Func} {p : Tmp} (h : fn.results = #[.cell p 24]) {tmps : Array Value} {w : World} {g : Nat} {v0 v1 v2 v3 : Value} {Q : Ending → World → Prop}
    (hp : tmps.getD p undef = .pointer (some ⟨g, 0, none⟩)) (hg : w.heap[g]? = some (.cells #[v0, v1, v2, v3] 24 (0, 0))) (hQ : Q (.returned (.agg #[v0, v1, v2, v3])) w) : bodyPost Tryz.prog fn Q .ret { tmps := tmps, defers := [] } w :=
  bodyPost_ret (results_cell_row h _ _ g 24 _ (0, 0) _ hp hg Tryz.underlying24 rfl Tryz.infoR) rfl hQ
set_option maxRecDepth 100000 in
set_option maxHeartbeats 4000000 in
theorem meant_raw (k : Int) (s : ByteArray) (n : Int) (a : Option Addr) (m c : Nat) (w : World) :
    Calls Tryz.prog 17 #[.agg #[.int .i64 k, .string s, .int .i64 n, .slice a m c]] w fun r w' => Below w.heap.size w w' ∧ r = .returned (El.mean ⟨k, s, n, a, m, c⟩).v := by
  have HR : ∀ v w', Hid (v = (El.mean ⟨k, s, n, a, m, c⟩).v) → Below w.heap.size w w' → Hid (Below w.heap.size w w' ∧ Ending.returned v = .returned (El.mean ⟨k, s, n, a, m, c⟩).v) := fun v w' h hb => ⟨hb, by rw [h.out]⟩
  by_cases hs : k = 1 ∨ k = 2 ∨ k = 4
  · have HV : Hid (Value.agg #[.int .i64 k, .string s, .int .i64 0, .slice none 0 0] = (El.mean ⟨k, s, n, a, m, c⟩).v) := by
      show _ = _
      rcases hs with rfl | rfl | rfl <;> rfl
    have HE := HR _ _ HV (below2 w (.cells #[.int .i64 k, .string s, .int .i64 n, .slice a m c] 24) (.cells #[.int .i64 k, .string s, .int .i64 0, .slice none 0 0] 24))
    clear HR HV
    go_enter Tryz.func17, Tryz.ntmps17
    rcases hs with rfl | rfl | rfl
    all_goals
      go_wp2
      exact ret_R rfl rfl (heap_new2 w _ _) HE.out
  · by_cases hn : k = 3
    · have HV : Hid (Value.agg #[.int .i64 k, .string ⟨#[]⟩, .int .i64 n, .slice none 0 0] = (El.mean ⟨k, s, n, a, m, c⟩).v) := by
        show _ = _
        subst hn; rfl
      have HE := HR _ _ HV (below2 w (.cells #[.int .i64 k, .string s, .int .i64 n, .slice a m c] 24) (.cells #[.int .i64 k, .string ⟨#[]⟩, .int .i64 n, .slice none 0 0] 24))
      clear HR HV
      go_enter Tryz.func17, Tryz.ntmps17
      subst hn
      go_wp2
      exact ret_R rfl rfl (heap_new2 w _ _) HE.out
    · by_cases hl : k = 7 ∨ k = 8 ∨ k = 9
      · have HV : Hid (Value.agg #[.int .i64 k, .string ⟨#[]⟩, .int .i64 0, .slice a m c] = (El.mean ⟨k, s, n, a, m, c⟩).v) := by
          show _ = _
          rcases hl with rfl | rfl | rfl <;> rfl
        have HE := HR _ _ HV (below2 w (.cells #[.int .i64 k, .string s, .int .i64 n, .slice a m c] 24) (.cells #[.int .i64 k, .string ⟨#[]⟩, .int .i64 0, .slice a m c] 24))
        clear HR HV
        go_enter Tryz.func17, Tryz.ntmps17
        rcases hl with rfl | rfl | rfl
        all_goals
          go_wp2
          exact ret_R rfl rfl (heap_new2 w _ _) HE.out
      · have HV : Hid (Value.agg #[.int .i64 k, .string ⟨#[]⟩, .int .i64 0, .slice none 0 0] = (El.mean ⟨k, s, n, a, m, c⟩).v) := by
          have h1 : hasS k = false := decide_eq_false hs
          have h2 : hasN k = false := decide_eq_false hn
          have h3 : hasL k = false := decide_eq_false hl
          show _ = _
          unfold El.mean El.v
          simp only [h1, h2, h3]
          rfl
        have HE := HR _ _ HV (below2 w (.cells #[.int .i64 k, .string s, .int .i64 n, .slice a m c] 24) (.cells #[.int .i64 k, .string ⟨#[]⟩, .int .i64 0, .slice none 0 0] 24))
        clear HR HV
        have n1 : ¬ k = 1 := fun h => hs (.inl h)
        have n2 : ¬ k = 2 := fun h => hs (.inr (.inl h))
        have n4 : ¬ k = 4 := fun h => hs (.inr (.inr h))
        have n7 : ¬ k = 7 := fun h => hl (.inl h)
        have n8 : ¬ k = 8 := fun h => hl (.inr (.inl h))
        have n9 : ¬ k = 9 := fun h => hl (.inr (.inr h))
        clear hs hl
        go_enter Tryz.func17, Tryz.ntmps17
        go_wp2
        exact ret_R rfl rfl (heap_new2 w _ _) HE.out
theorem meant_any (e : El) (w : World) : Calls Tryz.prog 17 #[e.v] w fun r w' => Below w.heap.size w w' ∧ r = .returned e.mean.v := meant_raw e.k e.s e.n e.a e.m e.c w

theorem nanInt_no (x : Int) (w : World) : Calls Tryz.prog 56 #[.int .i64 x] w fun e w' => e = .returned (.bool false) ∧ w' = w := by
  go_enter Tryz.func56, Tryz.ntmps56
  go_wp2
  go_ret
  exact ⟨rfl, rfl⟩
theorem nanI64_no (x : Int) (w : World) : Calls Tryz.prog 57 #[.int .i64 x] w fun e w' => e = .returned (.bool false) ∧ w' = w := by
  go_enter Tryz.func57, Tryz.ntmps57
  go_wp2
  go_ret
  exact ⟨rfl, rfl⟩
theorem cmpInt_any (x y : Int) (w : World) : Calls Tryz.prog 38 #[.int .i64 x, .int .i64 y] w fun e w' => e = .returned (.int .i64 (cmpI x y)) ∧ w' = w := by
  have H1 := nanInt_no x
  have H2 := nanInt_no y
  have h0 : (x < y ∧ cmpI x y = -1) ∨ (¬ x < y ∧ y < x ∧ cmpI x y = 1) ∨ (¬ x < y ∧ ¬ y < x ∧ cmpI x y = 0) := by
    unfold cmpI; split
    · exact .inl ⟨by assumption, rfl⟩
    · split
      · exact .inr (.inl ⟨by assumption, by assumption, rfl⟩)
      · exact .inr (.inr ⟨by assumption, by assumption, rfl⟩)
  generalize cmpI x y = z at h0
  go_enter Tryz.func38, Tryz.ntmps38
  go_wp2_with fail
  refine (H1 _).mono ?_
  rintro e w ⟨rfl, rfl⟩
  go_wp2_with fail
  refine (H2 _).mono ?_
  rintro e w ⟨rfl, rfl⟩
  rcases h0 with ⟨h, rfl⟩ | ⟨h, h', rfl⟩ | ⟨h, h', rfl⟩
  all_goals
    go_wp2
    go_ret
    exact ⟨rfl, rfl⟩
theorem cmpI64_any (x y : Int) (w : World) : Calls Tryz.prog 39 #[.int .i64 x, .int .i64 y] w fun e w' => e = .returned (.int .i64 (cmpI x y)) ∧ w' = w := by
  have H1 := nanI64_no x
  have H2 := nanI64_no y
  have h0 : (x < y ∧ cmpI x y = -1) ∨ (¬ x < y ∧ y < x ∧ cmpI x y = 1) ∨ (¬ x < y ∧ ¬ y < x ∧ cmpI x y = 0) := by
    unfold cmpI; split
    · exact .inl ⟨by assumption, rfl⟩
    · split
      · exact .inr (.inl ⟨by assumption, by assumption, rfl⟩)
      · exact .inr (.inr ⟨by assumption, by assumption, rfl⟩)
  generalize cmpI x y = z at h0
  go_enter Tryz.func39, Tryz.ntmps39
  go_wp2_with fail
  refine (H1 _).mono ?_
  rintro e w ⟨rfl, rfl⟩
  go_wp2_with fail
  refine (H2 _).mono ?_
  rintro e w ⟨rfl, rfl⟩
  rcases h0 with ⟨h, rfl⟩ | ⟨h, h', rfl⟩ | ⟨h, h', rfl⟩
  all_goals
    go_wp2
    go_ret
    exact ⟨rfl, rfl⟩
set_option maxRecDepth 100000 in
theorem CompareString_any (s t : ByteArray) (w : World) : Calls Tryz.prog 58 #[.string s, .string t] w fun e w' => e = .returned (.int .i64 (cmpB s t)) ∧ w' = w := by
  go_enter Tryz.func58, Tryz.ntmps58
  go_wp2
  rw [run_callFunc_extern Tryz.func69 (by kernel_rfl) (by kernel_rfl) (by kernel_rfl) (e := Extern.BytealgCompare.compare) (by kernel_rfl), Lib.run_compareString]
  simp only [Result.andThen]
  rw [Oper.upon_value]
  go_wp2
  go_ret
  exact ⟨rfl, rfl⟩
theorem Compare_any (s t : ByteArray) (w : World) : Calls Tryz.prog 40 #[.string s, .string t] w fun e w' => e = .returned (.int .i64 (cmpB s t)) ∧ w' = w := by
  have HC := CompareString_any s t w
  generalize cmpB s t = z at HC
  go_enter Tryz.func40, Tryz.ntmps40
  go_wp2_with fail
  refine HC.mono ?_
  rintro e w ⟨rfl, rfl⟩
  go_wp2
  go_ret
  exact ⟨rfl, rfl⟩
set_option maxRecDepth 100000 in
set_option maxHeartbeats 4000000 in
theorem Or_any (g : Nat) (x y z : Int) (w : World) (h0 : w.cell? ⟨g, 0, none⟩ = some (.int .i64 x)) (h1 : w.cell? ⟨g, 1, none⟩ = some (.int .i64 y)) (h2 : w.cell? ⟨g, 2, none⟩ = some (.int .i64 z)) :
    Calls Tryz.prog 37 #[.slice (some ⟨g, 0, none⟩) 3 3] w fun e w' => e = .returned (.int .i64 (orI x (orI y z))) ∧ w' = w := by
  have HR : Hid (∀ r : Int, (x ≠ 0 ∧ r = x) ∨ (x = 0 ∧ y ≠ 0 ∧ r = y) ∨ (x = 0 ∧ y = 0 ∧ r = z) → r = orI x (orI y z)) := fun r h => by
    unfold orI
    rcases h with ⟨h, rfl⟩ | ⟨h, h', rfl⟩ | ⟨h, h', rfl⟩
    · rw [if_neg h]
    · rw [if_pos h, if_neg h']
    · rw [if_pos h, if_pos h']
  go_enter Tryz.func37, Tryz.ntmps37
  go_wp2
  go_loopg [8] 3 (fun g jv wr => ∃ j : Nat, j + g = 3 ∧ jv = .int .i64 j ∧ w = wr ∧ Hid ((1 ≤ j → x = 0) ∧ (2 ≤ j → y = 0) ∧ (3 ≤ j → z = 0)))
  case atStart => exact ⟨0, by omega, rfl, rfl, (⟨by omega, by omega, by omega⟩ : _ ∧ _ ∧ _)⟩
  case round =>
    obtain ⟨j, hj, rfl, rfl, HZ⟩ := hrel
    obtain rfl | rfl | rfl | rfl : j = 0 ∨ j = 1 ∨ j = 2 ∨ j = 3 := by omega
    · by_cases e : x = 0
      · go_wp2
        go_roundg (gk - 1)
        case measure => omega
        case rel => exact ⟨1, by omega, by go_num, rfl, (⟨fun _ => e, by omega, by omega⟩ : _ ∧ _ ∧ _)⟩
      · go_wp2
        go_ret
        exact ⟨congrArg (fun r => Ending.returned (.int .i64 r)) (HR.out x (.inl ⟨e, rfl⟩)), rfl⟩
    · have hx : Hid (x = 0) := HZ.out.1 (by omega)
      by_cases e : y = 0
      · go_wp2
        go_roundg (gk - 1)
        case measure => omega
        case rel => exact ⟨2, by omega, by go_num, rfl, (⟨fun _ => hx.out, fun _ => e, by omega⟩ : _ ∧ _ ∧ _)⟩
      · have HE : Hid _ := HR.out y (.inr (.inl ⟨hx.out, e, rfl⟩))
        clear hx
        go_wp2
        go_ret
        exact ⟨congrArg (fun r => Ending.returned (.int .i64 r)) HE.out, rfl⟩
    · have hx : Hid (x = 0) := HZ.out.1 (by omega)
      have hy : Hid (y = 0) := HZ.out.2.1 (by omega)
      by_cases e : z = 0
      · go_wp2
        go_roundg (gk - 1)
        case measure => omega
        case rel => exact ⟨3, by omega, by go_num, rfl, (⟨fun _ => hx.out, fun _ => hy.out, fun _ => e⟩ : _ ∧ _ ∧ _)⟩
      · have HE : Hid _ := HR.out z (.inr (.inr ⟨hx.out, hy.out, rfl⟩))
        clear hx hy
        go_wp2
        go_ret
        exact ⟨congrArg (fun r => Ending.returned (.int .i64 r)) HE.out, rfl⟩
    · have HE : Hid _ := HR.out 0 (.inr (.inr ⟨HZ.out.1 (by omega), HZ.out.2.1 (by omega), (HZ.out.2.2 (by omega)).symm⟩))
      go_wp2
      go_ret
      exact ⟨congrArg (fun r => Ending.returned (.int .i64 r)) HE.out, rfl⟩
end Go.Proofs.YtiamgnfbgiognaaGreatDoor
