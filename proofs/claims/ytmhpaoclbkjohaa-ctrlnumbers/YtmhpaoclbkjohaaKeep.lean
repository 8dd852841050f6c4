/-
  Within and known; regions that draw their order and change nothing old.
-/
import Derived.Test.YtmhpaoclbkjohaaLoops
namespace Go.Proofs.Ytmhpaoclbkjohaa
open Go.RowKit Go.PlainAid

theorem Within_any (n : Int) (w : World) :
    Calls Try.prog 14 #[.int .i64 n, .int .i64 0, .int .i64 7] w fun e w' => w' = w ∧ ∃ k : Nat, k < 8 ∧ e = .returned (.int .i64 k) := by
  have hr0 : n.tmod 8 < 8 := Int.tmod_lt_of_pos n (by omega)
  have hr1 : -8 < n.tmod 8 := Int.lt_tmod_of_pos n (by omega)
  obtain ⟨r, hr⟩ : ∃ r, n.tmod 8 = r := ⟨_, rfl⟩
  rw [hr] at hr0 hr1
  by_cases hn : r < 0
  · go_enter Try.func14, Try.ntmps14
    go_wp2
    go_ret
    exact ⟨rfl, (r + 8).toNat, by omega, by simp; omega⟩
  · go_enter Try.func14, Try.ntmps14
    go_wp2
    go_ret
    exact ⟨rfl, r.toNat, by omega, by simp; omega⟩

theorem OwnI.made (w : World) (ls : List Nat) (B n : Nat) (hn : ls.length = n) (hB : B ≤ w.heap.size) (hm : n ≤ maxLen) (vs : Array Value) (hv : vs = (icells ls).toArray) : OwnI (w.alloc (.cells vs 3)) B (some ⟨w.heap.size, 0, none⟩) n n ls := by
  subst hv
  refine ⟨by simp [icells, hn], .inr ⟨w.heap.size, n, (icells ls).toArray, rfl, hB, heap_alloc_new w _, Nat.le_refl _, hm, by simp [icells, hn], ?_⟩⟩
  rw [List.take_of_length_le (by simp [icells, hn])]

theorem known_any (w : World) : Calls Try.prog 12 #[] w fun e w' => e = .returned (.bool true) ∧ Below w.heap.size w w' := by
  have H0 : Hid (Below w.heap.size w w) := Below.refl _ _
  have HN := New_any
  have HS := fun w => Set_in new8_ok 3 5 (by decide) (by decide) w
  have HM := fun w => Match_any (new8_ok.set 3 (b := 5) (by decide)) 5 (by decide) w
  have HE := fun w => HasEmpty_any new8_ok w
  have HC := fun w => Count_any new8_ok w
  rw [show slots (has (new8.set 3 5) 5) 8 = [3] by decide +kernel] at HM
  rw [show some? (has new8 128) 8 = true by decide +kernel] at HE
  rw [show (slots (ful new8) 8).length = 0 by decide +kernel] at HC
  generalize val (new8.set 3 5) = n5 at HS HM
  generalize val new8 = n8 at HN HS HE HC
  go_enter Try.func12, Try.ntmps12
  go_wp2_with fail
  refine (HN _).mono ?_
  rintro e w1 ⟨rfl, hb⟩
  have H1 := step_below H0 hb
  clear hb
  go_wp2_with fail
  refine (HS _).mono ?_
  rintro e w2 ⟨rfl, hb⟩
  have H2 := step_below H1 hb
  clear hb
  go_wp2_with fail
  refine (HM _).mono ?_
  rintro e w3 ⟨hb, a, n, c, rfl, hO⟩
  have H3 := step_below H2 hb
  have hn : n = 1 := hO.len.symm
  subst hn
  obtain ⟨w4, hw4⟩ : ∃ w4, w3.alloc (.cells #[.int .i64 3] 3) = w4 := ⟨_, rfl⟩
  have H4 : Hid (Below w.heap.size w w4) := by show Below _ _ _; rw [← hw4]; exact H3.out.trans ((alloc_below _ _).mono H3.out.size)
  have HR : Hid (RdI w4 a 1 [3]) := by show RdI _ _ _ _; rw [← hw4]; exact (hO.keep (alloc_below _ _)).rd
  have HR' : Hid (RdI w4 (some ⟨w3.heap.size, 0, none⟩) 1 [3]) := by
    show RdI _ _ _ _; rw [← hw4]; exact (OwnI.made w3 [3] w3.heap.size 1 rfl (Nat.le_refl _) (by decide) _ rfl).rd
  clear hb hO
  go_wp2_with fail
  refine (Same_any _ _ 1 _ _ [3] _ HR.out HR'.out).mono ?_
  rintro e w5 ⟨rfl, hb⟩
  have H5 := step_below H4 hb
  clear hb
  go_wp2_with fail
  refine (HN _).mono ?_
  rintro e w6 ⟨rfl, hb⟩
  have H6 := step_below H5 hb
  clear hb
  go_wp2_with fail
  refine (HE _).mono ?_
  rintro e w6 ⟨rfl, rfl⟩
  go_wp2_with fail
  refine (HN _).mono ?_
  rintro e w7 ⟨rfl, hb⟩
  have H7 := step_below H6 hb
  clear hb
  go_wp2_with fail
  refine (HC _).mono ?_
  rintro e w7 ⟨rfl, rfl⟩
  go_wp2
  go_ret
  exact ⟨rfl, H7.out⟩

/-- A world that has more than w had, at its end alone. -/
structure Ext (w : World) where
  wx : World
  ok : Below w.heap.size w wx

/-- A region that draws its order, whose operations write nothing old: one walk, in every such world. -/
theorem wp_region_ext {P : Program} {id : Nat} {Q : Exit → Act → World → Prop} {a : Act} {w : World} {l : List Oper} (hm : P.follows .mixedOrders = true) (hB : Region.lexB .any l.toArray = true)
    (h : wpQuiet P l.toArray (fun w' => ∃ x : Ext w, w' = x.wx) (fun a' => ∀ w', (∃ x : Ext w, w' = x.wx) → Q .normal a' w') l a) : (Code.region id l.toArray true).wp P Q a w :=
  wp_region_quiet (C := fun w' => ∃ x : Ext w, w' = x.wx) hm hB ⟨⟨_, (Below.refl _ _).drew⟩, rfl⟩ (by simpa using h)

theorem Calls.ext_of {P : Program} {f : FuncId} {args : Array Value} {w : World} {x : Ext w} {v : Value}
    (h : Calls P f args x.wx fun e w' => e = .returned v ∧ Below x.wx.heap.size x.wx w') : Calls P f args x.wx fun e w'' => e = .returned v ∧ ∃ y : Ext w, w'' = y.wx :=
  h.mono fun _ w' ⟨he, hb⟩ => ⟨he, ⟨w', x.ok.trans (hb.mono x.ok.size)⟩, rfl⟩

theorem Calls.ext_of_same {P : Program} {f : FuncId} {args : Array Value} {w : World} {x : Ext w} {v : Value}
    (h : Calls P f args x.wx fun e w' => e = .returned v ∧ w' = x.wx) : Calls P f args x.wx fun e w'' => e = .returned v ∧ ∃ y : Ext w, w'' = y.wx :=
  h.mono fun _ _ ⟨he, hm⟩ => ⟨he, x, hm⟩
end Go.Proofs.Ytmhpaoclbkjohaa
