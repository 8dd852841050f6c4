/-
  What the laws call besides: Cut, Within, known; regions that draw their order and change nothing old.
-/
import Derived.Test.YtjkccfhpemobeaaHash
import Derived.Deep.RegionWith
import Derived.Deep.CutRange
import Derived.Deep.QuietTactic
import Derived.BigQuiet
namespace Go.Proofs.Ytjkccfhpemobeaa
open Go.RowKit Go.PlainAid

def cutB (s : ByteArray) (n : Int) : ByteArray := if n < (s.size : Int) then s.extract 0 n.toNat else s
theorem size_cutB (s : ByteArray) (n : Int) (h : 0 ≤ n) : ((cutB s n).size : Int) ≤ n := by
  unfold cutB
  split
  · simp; omega
  · omega

theorem Cut_any (s : ByteArray) (n : Int) (w : World) (h0 : 0 ≤ n) :
    Calls Try.prog 11 #[.string s, .int .i64 n] w fun e w' => e = .returned (.string (cutB s n)) ∧ w' = w := by
  by_cases h : n < s.size
  · have HC : Hid (cutB s n = s.extract 0 n.toNat) := by show cutB s n = _; rw [cutB, if_pos h]
    go_enter Try.func11, Try.ntmps11
    go_wp2
    go_ret
    exact ⟨by rw [HC.out]; simp, rfl⟩
  · have HC : Hid (cutB s n = s) := by show cutB s n = _; rw [cutB, if_neg h]
    go_enter Try.func11, Try.ntmps11
    go_wp2
    go_ret
    exact ⟨by rw [HC.out]; rfl, rfl⟩

theorem Within_any (n hi : Int) (w : World) (h0 : 0 ≤ hi) (h1 : hi ≤ 4611686018427387904) :
    Calls Try.prog 12 #[.int .i64 n, .int .i64 0, .int .i64 hi] w fun e w' => w' = w ∧ ∃ z : Int, 0 ≤ z ∧ z ≤ hi ∧ e = .returned (.int .i64 z) := by
  have hz : (hi + 1 == 0) = false := by simp; omega
  have hr0 : n.tmod (hi + 1) < hi + 1 := Int.tmod_lt_of_pos n (by omega)
  have hr1 : -(hi + 1) < n.tmod (hi + 1) := Int.lt_tmod_of_pos n (by omega)
  obtain ⟨r, hr⟩ : ∃ r, n.tmod (hi + 1) = r := ⟨_, rfl⟩
  rw [hr] at hr0 hr1
  by_cases hn : r < 0
  · go_enter Try.func12, Try.ntmps12
    go_wp2
    go_ret
    exact ⟨rfl, r + hi + 1, by omega, by omega, rfl⟩
  · go_enter Try.func12, Try.ntmps12
    go_wp2
    go_ret
    exact ⟨rfl, r, by omega, by omega, rfl⟩

theorem known_any (w : World) : Calls Try.prog 10 #[] w fun e w' => e = .returned (.bool true) ∧ w' = w := by
  have H1 := fun w => Low_any 255 3 w (by decide) (by decide) (by decide)
  have H2 := fun w => Low_any 255 0 w (by decide) (by decide) (by decide)
  have H3 := fun w => Seven_any 18446744073709551615 w (by decide) (by decide)
  have H4 := fun w => Of_any 1 ⟨#[97]⟩ w (by decide) (by decide)
  rw [show lowN 255 3 = 7 by decide +kernel] at H1
  rw [show lowN 255 0 = 0 by decide +kernel] at H2
  rw [show (18446744073709551615 : Int) / 144115188075855872 = 127 by decide] at H3
  have hz : ofL 1 (lst ⟨#[97]⟩) ≠ 0 := by decide +kernel
  generalize ofL 1 (lst ⟨#[97]⟩) = z at H4 hz
  have hz1 : ((z : Int) == 0) = false := by simp; omega
  have hz2 : ((z : Int) != 0) = true := by simp; omega
  go_enter Try.func10, Try.ntmps10
  go_wp2_with fail
  refine (H1 _).mono ?_
  rintro e w ⟨rfl, rfl⟩
  go_wp2_with fail
  refine (H2 _).mono ?_
  rintro e w ⟨rfl, rfl⟩
  go_wp2_with fail
  refine (H3 _).mono ?_
  rintro e w ⟨rfl, rfl⟩
  go_wp2_with fail
  refine (H4 _).mono ?_
  rintro e w ⟨rfl, rfl⟩
  go_wp2
  go_ret
  exact ⟨rfl, rfl⟩

/-- A world that has more than w had, at its end alone. -/
structure Ext (w : World) where
  wx : World
  ok : Below w.heap.size w wx

/-- A region that draws its order, whose operations write nothing old: one walk, in every such world. -/
theorem wp_region_ext {P : Program} {id : Nat} {Q : Exit → Act → World → Prop} {a : Act} {w : World} {l : List Oper} (hm : P.follows .mixedOrders = true) (hB : Region.lexB .any l.toArray = true)
    (h : wpQuiet P l.toArray (fun w' => ∃ x : Ext w, w' = x.wx) (fun a' => ∀ w', (∃ x : Ext w, w' = x.wx) → Q .normal a' w') l a) : (Code.region id l.toArray true).wp P Q a w :=
  wp_region_quiet (C := fun w' => ∃ x : Ext w, w' = x.wx) hm hB ⟨⟨_, (Below.refl _ _).drew⟩, rfl⟩ (by simpa using h)

theorem Calls.ext_of {P : Program} {f : FuncId} {args : Array Value} {w : World} {x : Ext w} {v : Value}
    (h : Calls P f args x.wx fun e w' => e = .returned v ∧ Below x.wx.heap.size x.wx w') : Calls P f args x.wx fun e w'' => e = .returned v ∧ ∃ y : Ext w, w'' = y.wx :=
  h.mono fun _ w' ⟨he, hb⟩ => ⟨he, ⟨w', x.ok.trans (hb.mono x.ok.size)⟩, rfl⟩

theorem Calls.ext_of_same {P : Program} {f : FuncId} {args : Array Value} {w : World} {x : Ext w} {v : Value}
    (h : Calls P f args x.wx fun e w' => e = .returned v ∧ w' = x.wx) : Calls P f args x.wx fun e w'' => e = .returned v ∧ ∃ y : Ext w, w'' = y.wx :=
  h.mono fun _ _ ⟨he, hm⟩ => ⟨he, x, hm⟩
end Go.Proofs.Ytjkccfhpemobeaa
