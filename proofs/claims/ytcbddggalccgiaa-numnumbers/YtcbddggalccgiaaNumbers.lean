/-
  The law NumNumbers, walked.
-/
import Derived.Test.YtcbddggalccgiaaTells
import Derived.Deep.RegionWith
import Derived.Deep.CutRange
import Derived.Deep.QuietTactic
import Derived.BigQuiet
namespace Go.Proofs.Ytcbddggalccgiaa
open Go.RowKit Go.PlainAid

/-- The texts of the closed sentence, by their places. -/
def textAt (j : Nat) : ByteArray := [⟨#[]⟩, ⟨#[45]⟩, ⟨#[48]⟩, ⟨#[48, 48]⟩, ⟨#[45, 49]⟩, ⟨#[57, 50, 50, 51, 51, 55, 50, 48, 51, 54, 56, 53, 52, 55, 55, 53, 56, 48, 55]⟩, ⟨#[57, 50, 50, 51, 51, 55, 50, 48, 51, 54, 56, 53, 52, 55, 55, 53, 56, 48, 56]⟩, ⟨#[45, 57, 50, 50, 51, 51, 55, 50, 48, 51, 54, 56, 53, 52, 55, 55, 53, 56, 48, 56]⟩, ⟨#[45, 57, 50, 50, 51, 51, 55, 50, 48, 51, 54, 56, 53, 52, 55, 55, 53, 56, 48, 57]⟩, ⟨#[49, 56, 52, 52, 54, 55, 52, 52, 48, 55, 51, 55, 48, 57, 53, 53, 49, 54, 49, 53]⟩, ⟨#[49, 56, 52, 52, 54, 55, 52, 52, 48, 55, 51, 55, 48, 57, 53, 53, 49, 54, 49, 54]⟩, ⟨#[57, 57, 57, 57, 57, 57, 57, 57, 57, 57, 57, 57, 57, 57, 57, 57, 57, 57, 57, 57]⟩, ⟨#[48, 48, 48, 48, 48, 48, 48, 48, 48, 48, 48, 48, 48, 48, 48, 48, 48, 48, 48, 49]⟩, ⟨#[48, 48, 48, 48, 48, 48, 48, 48, 48, 48, 48, 48, 48, 48, 48, 48, 48, 48, 48, 48, 49]⟩, ⟨#[32, 49]⟩, ⟨#[49, 32]⟩, ⟨#[49, 97]⟩, ⟨#[45, 45, 49]⟩, ⟨#[45, 48]⟩, ⟨#[195, 169]⟩].getD j ⟨#[]⟩
theorem size_textAt (j : Nat) (h : j < 20) : (textAt j).size ≤ 30 := by
  have : ∀ j : Fin 20, (textAt j.1).size ≤ 30 := by decide
  exact this ⟨j, h⟩

/-- The numbers of the closed sentence, by their places. -/
def intAt (j : Nat) : Int := [-9223372036854775808, -9223372036854775807, -4611686018427387904, -1, 0, 1, 4611686018427387904, 9223372036854775807].getD j 0
theorem intAt_in (j : Nat) (h : j < 8) : Int64 (intAt j) := by
  have : ∀ j : Fin 8, -9223372036854775808 ≤ intAt j.1 ∧ intAt j.1 < 9223372036854775808 := by decide
  exact this ⟨j, h⟩

/-- A row of strings in memory. -/
structure Texts (w wr : World) : Prop where
  below : Below w.heap.size w wr
  cell : ∀ j, j < 20 → wr.cell? ⟨w.heap.size, j, none⟩ = some (.string (textAt j))

/-- The row of numbers in memory. -/
structure Eight (w wr : World) (B : Nat) : Prop where
  below : Below w.heap.size w wr
  size : B < wr.heap.size
  cell : ∀ j, j < 8 → wr.cell? ⟨B, j, none⟩ = some (.int .i64 (intAt j))

theorem Eight.keep {w wr wn : World} {B : Nat} (h : Eight w wr B) (hb : Below wr.heap.size wr wn) : Eight w wn B where
  below := h.below.trans (hb.mono h.below.size)
  size := Nat.lt_of_lt_of_le h.size hb.size
  cell j hj := by rw [hb.cell (p := ⟨B, j, none⟩) h.size]; exact h.cell j hj

/-- A world that has more than w had, at its end alone. -/
structure Ext (w : World) where
  wx : World
  ok : Below w.heap.size w wx

/-- A region that draws its order, whose operations write nothing old: one walk, in every such world. -/
theorem wp_region_ext {P : Program} {id : Nat} {Q : Exit → Act → World → Prop} {a : Act} {w : World} {l : List Oper} (hm : P.follows .mixedOrders = true) (hB : Region.lexB .any l.toArray = true)
    (h : wpQuiet P l.toArray (fun w' => ∃ x : Ext w, w' = x.wx) (fun a' => ∀ w', (∃ x : Ext w, w' = x.wx) → Q .normal a' w') l a) : (Code.region id l.toArray true).wp P Q a w :=
  wp_region_quiet (C := fun w' => ∃ x : Ext w, w' = x.wx) hm hB ⟨⟨_, (Below.refl _ _).drew⟩, rfl⟩ (by simpa using h)

theorem Calls.ext_of {P : Program} {f : FuncId} {args : Array Value} {w : World} {x : Ext w} {v : Value}
    (h : Calls P f args x.wx fun e w' => e = .returned v ∧ Below x.wx.heap.size x.wx w') : Calls P f args x.wx fun e w'' => e = .returned v ∧ ∃ y : Ext w, w'' = y.wx :=
  h.mono fun _ w' ⟨he, hb⟩ => ⟨he, ⟨w', x.ok.trans (hb.mono x.ok.size)⟩, rfl⟩

theorem Calls.ext_of_same {P : Program} {f : FuncId} {args : Array Value} {w : World} {x : Ext w} {v : Value}
    (h : Calls P f args x.wx fun e w' => e = .returned v ∧ w' = x.wx) : Calls P f args x.wx fun e w'' => e = .returned v ∧ ∃ y : Ext w, w'' = y.wx :=
  h.mono fun _ _ ⟨he, hm⟩ => ⟨he, x, hm⟩

set_option maxHeartbeats 4000000 in
theorem numbers_any (w : World) : Calls Try.prog 3 #[] w fun e w' => e = .returned (.bool true) ∧ Below w.heap.size w w' := by
  go_enter Try.func3, Try.ntmps3
  go_wp2
  go_loopg [8] 20 (fun g i wr => ∃ k : Nat, k + g = 20 ∧ i = .int .i64 k ∧ Hid (Texts w wr))
  case atStart =>
    refine ⟨0, rfl, rfl, (Below.refl _ _).alloc (Nat.le_refl _) _, fun j hj => ?_⟩
    rcases j with _|_|_|_|_|_|_|_|_|_|_|_|_|_|_|_|_|_|_|_|j
    all_goals first | omega | (simp; rfl)
  case round =>
    obtain ⟨k, hk, rfl, H⟩ := hrel
    by_cases hlt : k < 20
    · have hc := H.out.cell k hlt
      have HZ : Hid ((textAt k).size ≤ maxLen) := by
        show _ ≤ _
        have := size_textAt k hlt; unfold maxLen; omega
      generalize textAt k = t at hc HZ
      go_wp2_with (go_at_call 8; refine (parses_any t _ HZ.out).mono ?_; rintro e w1 ⟨rfl, rfl⟩)
      go_roundg (gk - 1)
      case measure => omega
      case rel => exact ⟨k + 1, by omega, by go_num, H⟩
    · have HB : Hid (Below w.heap.size w wr) := H.out.below
      obtain ⟨wa, hwa⟩ : ∃ wa, wa = wr := ⟨_, rfl⟩
      subst hwa
      clear H hk
      go_wp2
      go_loopg [4] 8 (fun g i wr => ∃ k : Nat, k + g = 8 ∧ i = .int .i64 k ∧ Hid (Eight w wr wa.heap.size))
      case atStart =>
        refine ⟨0, rfl, rfl, HB.out.alloc HB.out.size _, by simp, fun j hj => ?_⟩
        rcases j with _|_|_|_|_|_|_|_|j
        all_goals first | omega | (simp; rfl)
      case round =>
        obtain ⟨i, hi, rfl, H⟩ := hrel
        obtain ⟨wb, hwb⟩ : ∃ wb, wb = wr := ⟨_, rfl⟩
        subst hwb
        obtain ⟨gb, hgb⟩ : ∃ gb, gb = gk := ⟨_, rfl⟩
        subst hgb
        by_cases hi8 : i < 8
        · have hc0 := H.out.cell i hi8
          have hin := intAt_in i hi8
          have hsz := H.out.size
          have HIN : Hid (Int64 (intAt i)) := hin
          generalize intAt i = v at hc0 hin HIN
          obtain ⟨U, hU, hlt⟩ : ∃ U : Nat, IntKind.u64.wrap v = U ∧ U < 18446744073709551616 := ⟨(IntKind.u64.wrap v).toNat, by rw [IntKind.wrap_u64]; omega, by rw [IntKind.wrap_u64]; omega⟩
          have cF := fun w => Format_any v w hin.1 hin.2
          have cRF := fun w => refFormat_any v w hin.1 hin.2
          have cU := fun w => Unsigned_any U w hlt
          have cRU := fun w => refUnsigned_any U w hlt
          generalize bs (fmtL v) = f at cF cRF
          generalize bs (dec U) = d at cU cRU
          clear hin hlt
          generalize wa.heap.size = B at *
          go_upto_region 11 with fail
          have hx : ∀ x : Ext wb, x.wx.cell? ⟨B, i, none⟩ = some (.int .i64 v) := fun x => (x.ok.cell (p := ⟨B, i, none⟩) hsz).trans hc0
          have hne : Nonempty (Ext wb) := ⟨⟨wb, Below.refl _ _⟩⟩
          refine wp_region_ext (by kernel_rfl) (by kernel_rfl) ?_
          repeat (go_big_quiet_step (first | (go_at_call 9; exact Calls.ext_of (cF _)) | (go_at_call 10; exact Calls.ext_of_same (cRF _)) | (go_at_call 11; exact Calls.ext_of (cU _)) | (go_at_call 12; exact Calls.ext_of_same (cRU _))))
          refine wpQuiet_nil ?_
          intro wz hz
          obtain ⟨x, rfl⟩ := hz
          have H2 : Hid (Eight w x.wx B) := H.out.keep x.ok
          clear hx hne cF cRF cU cRU hc0 hsz hU H
          generalize x.wx = wc at H2
          go_wp2
          go_loopg [5] 8 (fun g j wr => ∃ k : Nat, k + g = 8 ∧ j = .int .i64 k ∧ Hid (Eight w wr B))
          case atStart => exact ⟨0, rfl, rfl, H2⟩
          case round =>
            obtain ⟨j, hj, rfl, H⟩ := hrel
            by_cases hj8 : j < 8
            · have hne : Nonempty (Ext wr) := ⟨⟨wr, Below.refl _ _⟩⟩
              have hxi : ∀ x : Ext wr, x.wx.cell? ⟨B, i, none⟩ = some (.int .i64 (intAt i)) := fun x => (x.ok.cell (p := ⟨B, i, none⟩) H.out.size).trans (H.out.cell i hi8)
              have hxj : ∀ x : Ext wr, x.wx.cell? ⟨B, j, none⟩ = some (.int .i64 (intAt j)) := fun x => (x.ok.cell (p := ⟨B, j, none⟩) H.out.size).trans (H.out.cell j hj8)
              have cA := fun w => adds_any (intAt i) (intAt j) w (intAt_in i hi8) (intAt_in j hj8)
              generalize intAt i = p at hxi cA
              generalize intAt j = q at hxj cA
              go_upto_region 16 with fail
              refine wp_region_ext (by kernel_rfl) (by kernel_rfl) ?_
              repeat (go_big_quiet_step (first | (go_at_call 13; exact Calls.ext_of_same (cA _))))
              refine wpQuiet_nil ?_
              intro wz hz
              obtain ⟨x, rfl⟩ := hz
              have H3 : Hid (Eight w x.wx B) := H.out.keep x.ok
              clear hxi hxj hne cA H
              generalize x.wx = wc at H3
              go_wp2
              go_roundg (gk - 1)
              case measure => omega
              case rel => exact ⟨j + 1, by omega, by go_num, H3⟩
            · go_wp2
              go_roundg (gb - 1)
              case measure => omega
              case rel => exact ⟨i + 1, by omega, by go_num, H⟩
        · go_wp2_with (go_at_call 14; refine (known_any _).mono ?_; rintro e w1 ⟨rfl, rfl⟩)
          go_ret
          exact ⟨rfl, H.out.below⟩
end Go.Proofs.Ytcbddggalccgiaa
