/-
 Values that have nothing; a name that is too long; rows of calls in the making.
-/
import Derived.Test.YtmjeljldmmkcpaaGreatOn
namespace Go.Proofs.YtmjeljldmmkcpaaGreat.Sq
open Go.RowKit Go.PlainAid
open Dk (ptr Aa Ac Ad Af OwnR OwnP OwnS Mv Am Elt A4)

theorem kind_nil (w : World) : Calls Tryz.prog 81 #[.pointer none] w fun e w' => e = .returned (.int .i64 0) ∧ w' = w := by
 go_enter Tryz.func81, Tryz.ntmps81
 go_wp2
 go_ret
 exact ⟨rfl, rfl⟩
theorem LenV_nil (w : World) : Calls Tryz.prog 82 #[.pointer none] w fun e w' => e = .returned (.int .i64 0) ∧ w' = w := by
 have HK := kind_nil w
 go_enter Tryz.func82, Tryz.ntmps82
 go_wp2_with fail
 refine HK.mono ?_
 rintro e w ⟨rfl, rfl⟩
 clear HK
 go_wp2
 go_ret
 exact ⟨rfl, rfl⟩
theorem Empty_nil (w : World) : Calls Tryz.prog 36 #[.pointer none] w fun e w' => e = .returned (.bool true) ∧ Below w.heap.size w w' := by
 have HK := kind_nil w
 have HL := LenV_nil w
 go_enter Tryz.func36, Tryz.ntmps36
 go_wp2_with fail
 refine HK.mono ?_
 rintro e w ⟨rfl, rfl⟩
 clear HK
 go_wp2_with fail
 refine HL.mono ?_
 rintro e w ⟨rfl, rfl⟩
 clear HL
 go_wp2
 go_ret
 exact ⟨rfl, Below.refl _ _⟩
structure Vz (w : World) (B v : Nat) : Prop where
 ex : ∃ q p a n c, VB w v 3 ⟨#[]⟩ (.pointer none) (ptr q) (.pointer none) ∧ w.cell? ⟨q, 3, none⟩ = some (ptr p) ∧ w.cell? ⟨q, 4, none⟩ = some (.pointer none) ∧ Pk w B p a n c []
theorem Vz.keep {w w' : World} {B v : Nat} (h : Vz w B v) (hb : Below w.heap.size w w') : Vz w' B v := by
 obtain ⟨q, p, a, n, c, h1, h2, h3, h4⟩ := h.ex
 exact ⟨q, p, a, n, c, h1.keep hb, by rw [hb.cell (p := ⟨q, 3, none⟩) (World.block_lt_of_cell? _ _ h2)]; exact h2, by rw [hb.cell (p := ⟨q, 4, none⟩) (World.block_lt_of_cell? _ _ h3)]; exact h3, h4.keep hb⟩
theorem Packed_z (w : World) (q : Nat) (h : w.cell? ⟨q, 4, none⟩ = some (.pointer none)) : Calls Tryz.prog 134 #[ptr q] w fun e w' => e = .returned (.bool true) ∧ w' = w := by
 go_enter Tryz.func134, Tryz.ntmps134
 go_wp2
 go_ret
 exact ⟨rfl, rfl⟩
theorem LenS_z (w : World) (B q p : Nat) (a : Option Addr) (n c : Nat) (h : w.cell? ⟨q, 4, none⟩ = some (.pointer none)) (h3 : w.cell? ⟨q, 3, none⟩ = some (ptr p)) (hP : Pk w B p a n c []) : Calls Tryz.prog 118 #[ptr q] w fun e w' => e = .returned (.int .i64 0) ∧ w' = w := by
 have HPk := Packed_z w q h
 have HL := Go.Proofs.YtmjeljldmmkcpaaGreat.Len_any B p a n c [] w hP
 go_enter Tryz.func118, Tryz.ntmps118
 go_wp2_with fail
 refine HPk.mono ?_
 rintro e w ⟨rfl, rfl⟩
 clear HPk
 go_wp2_with fail
 refine HL.mono ?_
 rintro e w ⟨rfl, rfl⟩
 clear HL
 go_wp2
 go_ret
 exact ⟨rfl, rfl⟩
theorem eqlSt_nil (w : World) (l : Nat) : (binOp .eql 71 (ptr l) (.pointer none)).run Tryz.prog w = .ok (.bool false) w := by
 rw [run_eql_pointer_nil w 71 (some ⟨l, 0, none⟩) (by rw [Tryz.underlying71]; kernel_rfl)]; rfl
theorem kind_z (w : World) (v q : Nat) (h : VB w v 3 ⟨#[]⟩ (.pointer none) (ptr q) (.pointer none)) : Calls Tryz.prog 81 #[ptr v] w fun e w' => e = .returned (.int .i64 3) ∧ w' = w := by
 have c0 : w.cell? ⟨v, 0, none⟩ = some (.int .i64 3) := h.ck
 have c3 := h.cs
 have hvn := eqlV_nil w v
 have hsn := eqlSt_nil w q
 clear h
 go_enter Tryz.func81, Tryz.ntmps81
 go_wp2
 go_ret
 exact ⟨rfl, rfl⟩
theorem Len_z (w : World) (B v : Nat) (h : Vz w B v) : Calls Tryz.prog 82 #[ptr v] w fun e w' => e = .returned (.int .i64 0) ∧ w' = w := by
 obtain ⟨q, p, a, n, c, h1, h2, h3, h4⟩ := h.ex
 have HK := kind_z w v q h1
 have c3 := h1.cs
 have HL := LenS_z w B q p a n c h3 h2 h4
 clear h h1 h2 h3 h4
 go_enter Tryz.func82, Tryz.ntmps82
 go_wp2_with fail
 refine HK.mono ?_
 rintro e w ⟨rfl, rfl⟩
 clear HK
 go_wp2_with fail
 refine HL.mono ?_
 rintro e w ⟨rfl, rfl⟩
 clear HL
 go_wp2
 go_ret
 exact ⟨rfl, rfl⟩
theorem Empty_z (w : World) (B v : Nat) (h : Vz w B v) : Calls Tryz.prog 36 #[ptr v] w fun e w' => e = .returned (.bool true) ∧ Below w.heap.size w w' := by
 have HL := Len_z w B v h
 obtain ⟨q, p, a, n, c, h1, -⟩ := h.ex
 have HK := kind_z w v q h1
 clear h h1
 go_enter Tryz.func36, Tryz.ntmps36
 go_wp2_with fail
 refine HK.mono ?_
 rintro e w ⟨rfl, rfl⟩
 clear HK
 go_wp2_with fail
 refine HL.mono ?_
 rintro e w ⟨rfl, rfl⟩
 clear HL
 go_wp2
 go_ret
 exact ⟨rfl, Below.refl _ _⟩
def NewZ (w w' : World) (e : Ending) : Prop := Below w.heap.size w w' ∧ ∃ q p a n c, e = .returned (ptr q) ∧ w'.cell? ⟨q, 3, none⟩ = some (ptr p) ∧ w'.cell? ⟨q, 4, none⟩ = some (.pointer none) ∧ Pk w' w.heap.size p a n c []
theorem Lim0 (w : World) : (w.alloc (.cells #[.int .i64 0, .int .i64 0] 29)).heap[w.heap.size]? = some (.cells #[.int .i64 0, .int .i64 0] 29 (0, 0)) := heap_alloc_new w _
set_option maxRecDepth 100000 in
theorem New_z (w : World) : Calls Tryz.prog 40 #[.int .u64 1, .agg #[.int .i64 0, .int .i64 0]] w fun e w' => NewZ w w' e := by
 have hb0 : Below w.heap.size w (w.alloc (.cells #[.int .i64 0, .int .i64 0] 29)) := Ac w _
 have hl0 := Lim0 w
 obtain ⟨w0, HW0⟩ : ∃ w0, Hid (w.alloc (.cells #[.int .i64 0, .int .i64 0] 29) = w0) := ⟨_, rfl⟩
 rw [HW0.out] at hb0 hl0
 have HB0 : Hid (Below w.heap.size w w0.drew) := Ad hb0 (Aa w0 1)
 have HL0 : Hid (∀ wx, Below w0.drew.heap.size w0.drew wx → wx.cell? ⟨w.heap.size, 0, none⟩ = some (.int .i64 0) ∧ wx.cell? ⟨w.heap.size, 1, none⟩ = some (.int .i64 0)) := fun wx h => by
  have hl : wx.heap[w.heap.size]? = some (.cells #[.int .i64 0, .int .i64 0] 29 (0, 0)) := by rw [h.block _ (Array.getElem?_eq_some_iff.1 hl0).1]; exact hl0
  refine ⟨?_, ?_⟩ <;> simp [World.cell?, hl]
 obtain ⟨g0, g1⟩ := HL0.out _ (Below.refl _ _)
 have HN := Go.Proofs.YtmjeljldmmkcpaaGreat.New_any w0.drew
 clear hb0 hl0
 go_enter Tryz.func40, Tryz.ntmps40
 go_upto_region 3 with fail
 rw [HW0.out]
 go_region_with (go_at_call 86; refine HN.mono ?_; rintro e w1 ⟨hb1, p, a, n, c, rfl, hP⟩; have HB1 := Ad HB0 hb1; have HP1 : Hid (Pk w1 w0.drew.heap.size p a n c []) := hP; obtain ⟨g2, g3⟩ := HL0.out _ hb1; clear hb1 hP)
 all_goals
  have hba := Ac w1 (.cells #[.int .u64 1, .int .i64 0, .int .i64 0, ptr p, .pointer none] 148)
  have hn := heap_alloc_new w1 (.cells #[.int .u64 1, .int .i64 0, .int .i64 0, ptr p, .pointer none] 148)
  have HE : Hid (NewZ w (w1.alloc (.cells #[.int .u64 1, .int .i64 0, .int .i64 0, ptr p, .pointer none] 148)) (.returned (ptr w1.heap.size))) := ⟨(Ad HB1 hba).out, w1.heap.size, p, a, n, c, rfl, by simp only [World.cell?, hn]; rfl, by simp only [World.cell?, hn]; rfl, (Pk.low' HP1.out HB0.out.size).keep hba⟩
  clear hba hn
  go_wp2
  go_ret
  exact HE.out
set_option maxRecDepth 100000 in
theorem NewV_z (w : World) : Calls Tryz.prog 12 #[.int .i64 3, .int .u64 1, .agg #[.int .i64 0, .int .i64 0]] w fun e w' => Below w.heap.size w w' ∧ ∃ v, e = .returned (ptr v) ∧ Vz w' w.heap.size v := by
 have hb0 : Below w.heap.size w (w.alloc (.cells #[.int .i64 0, .int .i64 0] 29)) := Ac w _
 have hl0 := Lim0 w
 obtain ⟨w0, HW0⟩ : ∃ w0, Hid (w.alloc (.cells #[.int .i64 0, .int .i64 0] 29) = w0) := ⟨_, rfl⟩
 rw [HW0.out] at hb0 hl0
 have HB0 : Hid (Below w.heap.size w w0) := hb0
 have HN := New_z w0
 clear hb0 hl0
 go_enter Tryz.func12, Tryz.ntmps12
 go_wp2_with fail
 rw [HW0.out]
 refine HN.mono ?_
 rintro e w1 ⟨hb1, q, p, a, n, c, rfl, h3, h4, hP⟩
 have HB1 := Ad HB0 hb1
 have hba := Ac w1 (.cells #[.int .i64 3, .string ⟨#[]⟩, .pointer none, ptr q, .pointer none] 74)
 have HV : Hid (Vz (w1.alloc (.cells #[.int .i64 3, .string ⟨#[]⟩, .pointer none, ptr q, .pointer none] 74)) w.heap.size w1.heap.size) := ⟨q, p, a, n, c, VB.new w1 3 _ _ _ _, by rw [hba.cell (p := ⟨q, 3, none⟩) (World.block_lt_of_cell? _ _ h3)]; exact h3, by rw [hba.cell (p := ⟨q, 4, none⟩) (World.block_lt_of_cell? _ _ h4)]; exact h4, (Pk.low' hP HB0.out.size).keep hba⟩
 have HB2 := Ad HB1 hba
 clear hb1 h3 h4 hP hba HN
 go_wp2
 go_ret
 exact ⟨HB2.out, _, rfl, HV.out⟩
theorem Rename_long (w : World) (B s x : Nat) (NM : List BA) (A : Ab) (V : BA → Int) (hS : Spc w B s x NM A V) (hv : Low V) (t : Int) (a b : BA) (ha : a.size ≤ maxLen) (hbl : 4096 < b.size) :
  Calls Tryz.prog 16 #[ptr s, .string a, .string b, .int .i64 t] w fun e w' => e = .returned (.bool false) ∧ Bo w w' B s x NM A V t := by
 have HF := A2 w B s x NM A V hS hv t a ha
 have hbz : (4096 : Int) < b.size := by omega
 go_enter Tryz.func16, Tryz.ntmps16
 go_wp2_with fail
 refine HF.mono ?_
 rintro e w1 ⟨hm, L, I, Q, hi, hr, ⟨rfl, hn⟩ | ⟨p, hp, hpk, rfl, hy⟩⟩
 ·have HE : Hid (Bo w w1 B s x NM A V t) := ⟨hm, L, I, Q, hi, hr⟩
  clear hm hi hr hn HF
  go_wp2
  go_ret
  exact ⟨rfl, HE.out⟩
 ·have HE : Hid (Bo w w1 B s x NM A V t) := ⟨hm, L, I, Q, hi, hr⟩
  have hnn := eqlI_nil w1 p
  clear hm hi hr hy HF
  go_wp2
  go_ret
  exact ⟨rfl, HE.out⟩
end Go.Proofs.YtmjeljldmmkcpaaGreat.Sq
