/- Texts that the others stand on. -/
import Derived.Test.YtikimcbalkhooaaGreatJ26
import Derived.Test.YtikimcbalkhooaaGreatJ24
import Derived.Deep.RegionHeld3
namespace Go.Proofs.YtikimcbalkhooaaGreat
open Go.RowKit Go.PlainAid
open Dk (En keysOf hasK putE ecells)
def cntB (l : List ByteArray) (s : ByteArray) : Nat := l.countP fun x => decide (x = s)
theorem cntB_snoc (l : List ByteArray) (x s : ByteArray) : cntB (l ++ [x]) s = cntB l s + if x = s then 1 else 0 := by
 unfold cntB
 rw [List.countP_append]
 by_cases h : x = s <;> simp [h]
theorem cntB_pos {l : List ByteArray} {s : ByteArray} : 0 < cntB l s ↔ s ∈ l := by
 unfold cntB
 rw [List.countP_pos_iff]
 constructor
 ·rintro ⟨a, h1, h2⟩; simp at h2; rw [← h2]; exact h1
 ·intro h; exact ⟨s, h, by simp⟩
theorem rHas_any (B : Nat) (a : Option Addr) (n c : Nat) (l : List ByteArray) (s : ByteArray) (w : World) (h : OwnS w B a n c l) (hn : n ≤ 1000) :
  Calls Tryz.prog 47 #[.slice a n c, .string s] w fun e w' => e = .returned (.int .i64 (cntB l s : Nat)) ∧ w' = w := by
 have HM : Hid (OwnS w B a n c l) := h
 have HL : Hid (l.length = n) := h.len
 clear h
 go_enter Tryz.func47, Tryz.ntmps47
 go_wp2
 go_loopg [5, 6] n (fun g nv iv wr => w = wr ∧ ∃ i k : Nat, i + g = n ∧ iv = .int .i64 i ∧ nv = .int .i64 k ∧ k ≤ i ∧ Hid (cntB (l.take i) s = k))
 case atStart => exact ⟨rfl, 0, 0, by omega, rfl, rfl, Nat.le_refl _, rfl⟩
 case round =>
  obtain ⟨rfl, i, k, hi, rfl, rfl, hki, HK⟩ := hrel
  by_cases h8 : (i : Int) < n
  ·obtain ⟨b, off, hg, hc⟩ := HM.out.rd.cell i (by omega)
   have HT : Hid (cntB (l.take (i + 1)) s = k + if l.getD i ByteArray.empty = s then 1 else 0) := by
    show _ = _
    rw [take_snocB l i (by have := HL.out; omega), cntB_snoc, HK.out]
   have hq := str_beq (l.getD i ByteArray.empty) s
   generalize l.getD i ByteArray.empty = y at hc HT hq
   subst hg
   by_cases hy : y = s
   ·have hq2 : (y.toList == s.toList) = true := by rw [hq, decide_eq_true hy]
    have HT2 : Hid (cntB (l.take (i + 1)) s = k + 1) := by have h1 := HT.out; rw [if_pos hy] at h1; exact h1
    clear hq hy
    go_wp2
    go_roundg (gk - 1)
    case measure => omega
    case rel => exact ⟨rfl, i + 1, k + 1, by omega, by go_num, by go_num, by omega, HT2⟩
   ·have hq2 : (y.toList == s.toList) = false := by rw [hq, decide_eq_false hy]
    have HT2 : Hid (cntB (l.take (i + 1)) s = k) := by have h1 := HT.out; rw [if_neg hy] at h1; exact h1
    clear hq hy
    go_wp2
    go_roundg (gk - 1)
    case measure => omega
    case rel => exact ⟨rfl, i + 1, k, by omega, by go_num, rfl, by omega, HT2⟩
  ·have HE : Hid (cntB l s = k) := by
    have h1 := HK.out
    rw [List.take_of_length_le (by have := HL.out; omega)] at h1
    exact h1
   go_wp2
   go_ret
   exact ⟨by rw [HE.out]; rfl, rfl⟩
theorem perm_of_sub {α : Type} [DecidableEq α] : ∀ {a b : List α}, a.Nodup → (∀ x ∈ a, x ∈ b) → a.length = b.length → a.Perm b
 | [], b, _, _, h => by rw [List.length_eq_zero_iff.1 h.symm]
 | x :: a, b, hn, hs, hl => by
  have hx : x ∈ b := hs x (by simp)
  have h1 := List.perm_cons_erase hx
  refine List.Perm.trans (List.Perm.cons x ?_) h1.symm
  refine perm_of_sub (List.nodup_cons.1 hn).2 (fun y hy => ?_) ?_
  ·have hne : y ≠ x := fun e => (List.nodup_cons.1 hn).1 (e ▸ hy)
   exact (List.mem_erase_of_ne hne).2 (hs y (List.mem_cons_of_mem _ hy))
  ·have := h1.length_eq
   rw [List.length_cons] at this hl
   omega
theorem nod_of_keys : ∀ {l : List En}, (keysOf l).Nodup → l.Nodup
 | [], _ => List.nodup_nil
 | e :: l, h => by
  have h1 : (e.1 :: keysOf l).Nodup := h
  rw [List.nodup_cons] at h1
  exact List.nodup_cons.2 ⟨fun hm => h1.1 (List.mem_map.2 ⟨e, hm, rfl⟩), nod_of_keys h1.2⟩
set_option maxRecDepth 100000 in
set_option maxHeartbeats 4000000 in
theorem rSame_kind (w : World) (k1 k2 : Nat) (t1 t2 : ByteArray) (a1 a1' a2 a2' : Option Addr) (n1 c1 n1' c1' n2 c2 n2' c2' : Nat) (hk : k1 ≠ k2) :
  Calls Tryz.prog 12 #[.agg #[.int .i64 (k1 : Nat), .string t1, .slice a1 n1 c1, .slice a1' n1' c1'], .agg #[.int .i64 (k2 : Nat), .string t2, .slice a2 n2 c2, .slice a2' n2' c2']] w fun e w' => e = .returned (.bool false) ∧ Below w.heap.size w w' := by
 obtain ⟨w0, hw0⟩ : ∃ w0, w.alloc (.cells #[.int .i64 (k1 : Nat), .string t1, .slice a1 n1 c1, .slice a1' n1' c1'] 29) = w0 := ⟨_, rfl⟩
 obtain ⟨w1, hw1⟩ : ∃ w1, w0.alloc (.cells #[.int .i64 (k2 : Nat), .string t2, .slice a2 n2 c2, .slice a2' n2' c2'] 29) = w1 := ⟨_, rfl⟩
 have hb0 : Below w.heap.size w w0 := by rw [← hw0]; exact alloc_below w _
 have hb1 : Below w0.heap.size w0 w1 := by rw [← hw1]; exact alloc_below w0 _
 have hl0 : w.heap.size < w0.heap.size := by rw [← hw0]; exact alloc_lt w _ _
 have hl1 : w0.heap.size < w1.heap.size := by rw [← hw1]; exact alloc_lt w0 _ _
 have hb : Below w.heap.size w w1 := hb0.trans (hb1.mono hb0.size)
 have HB1 : Hid (Below w.heap.size w w1) := hb
 have HC : Hid (∀ wx, Below w1.heap.size w1 wx → wx.cell? ⟨w.heap.size, 0, none⟩ = some (.int .i64 (k1 : Nat)) ∧ wx.cell? ⟨w.heap.size, 1, none⟩ = some (.string t1) ∧ wx.cell? ⟨w.heap.size, 2, none⟩ = some (.slice a1 n1 c1) ∧ wx.cell? ⟨w.heap.size, 3, none⟩ = some (.slice a1' n1' c1') ∧ wx.cell? ⟨w0.heap.size, 0, none⟩ = some (.int .i64 (k2 : Nat)) ∧ wx.cell? ⟨w0.heap.size, 1, none⟩ = some (.string t2) ∧ wx.cell? ⟨w0.heap.size, 2, none⟩ = some (.slice a2 n2 c2) ∧ wx.cell? ⟨w0.heap.size, 3, none⟩ = some (.slice a2' n2' c2')) := fun wx hx => by
  have q1 : ∀ i u, (#[.int .i64 (k1 : Nat), .string t1, .slice a1 n1 c1, .slice a1' n1' c1'] : Array Value)[i]? = some u → wx.cell? ⟨w.heap.size, i, none⟩ = some u := fun i u hu => by
   rw [hx.cell (p := ⟨w.heap.size, i, none⟩) (Nat.lt_trans hl0 hl1), hb1.cell (p := ⟨w.heap.size, i, none⟩) hl0, ← hw0]; exact cell_new w _ _ i _ hu
  have q2 : ∀ i u, (#[.int .i64 (k2 : Nat), .string t2, .slice a2 n2 c2, .slice a2' n2' c2'] : Array Value)[i]? = some u → wx.cell? ⟨w0.heap.size, i, none⟩ = some u := fun i u hu => by
   rw [hx.cell (p := ⟨w0.heap.size, i, none⟩) hl1, ← hw1]; exact cell_new w0 _ _ i _ hu
  exact ⟨q1 0 _ rfl, q1 1 _ rfl, q1 2 _ rfl, q1 3 _ rfl, q2 0 _ rfl, q2 1 _ rfl, q2 2 _ rfl, q2 3 _ rfl⟩
 have hk2 : ((k1 : Int) != (k2 : Int)) = true := by simp; omega
 have hk3 : ¬ (k1 : Int) = (k2 : Int) := by omega
 have HBq : Hid (∀ q, Below w.heap.size w (w1.drewN q)) := fun q => hb.trans ((below_drewN w1 q).mono hb.size)
 obtain ⟨s0, s1, s2, s3, s4, s5, s6, s7⟩ := HC.out w1 (Below.refl _ _)
 clear hb0 hb1 hl0 hl1 hb
 go_enter Tryz.func12, Tryz.ntmps12
 go_upto_region 1 with fail
 go_quiet (fail)
 go_wp2
 go_ret
 exact ⟨rfl, HBq.out _⟩
set_option maxRecDepth 100000 in
set_option maxHeartbeats 4000000 in
theorem rSame_len (w : World) (k l1 l2 : Nat) (t1 t2 : ByteArray) (a1 a1' a2 a2' : Option Addr) (n1 c1 n1' c1' n2 c2 n2' c2' : Nat) (hl : l1 ≠ l2)
  (h1 : ∀ wx, Below w.heap.size w wx → Calls Tryz.prog 30 #[.agg #[.int .i64 (k : Nat), .string t1, .slice a1 n1 c1, .slice a1' n1' c1']] wx fun e w' => e = .returned (.int .i64 (l1 : Nat)) ∧ Below wx.heap.size wx w')
  (h2 : ∀ wx, Below w.heap.size w wx → Calls Tryz.prog 30 #[.agg #[.int .i64 (k : Nat), .string t2, .slice a2 n2 c2, .slice a2' n2' c2']] wx fun e w' => e = .returned (.int .i64 (l2 : Nat)) ∧ Below wx.heap.size wx w') :
  Calls Tryz.prog 12 #[.agg #[.int .i64 (k : Nat), .string t1, .slice a1 n1 c1, .slice a1' n1' c1'], .agg #[.int .i64 (k : Nat), .string t2, .slice a2 n2 c2, .slice a2' n2' c2']] w fun e w' => e = .returned (.bool false) ∧ Below w.heap.size w w' := by
 obtain ⟨w0, hw0⟩ : ∃ w0, w.alloc (.cells #[.int .i64 (k : Nat), .string t1, .slice a1 n1 c1, .slice a1' n1' c1'] 29) = w0 := ⟨_, rfl⟩
 obtain ⟨w1, hw1⟩ : ∃ w1, w0.alloc (.cells #[.int .i64 (k : Nat), .string t2, .slice a2 n2 c2, .slice a2' n2' c2'] 29) = w1 := ⟨_, rfl⟩
 have hb0 : Below w.heap.size w w0 := by rw [← hw0]; exact alloc_below w _
 have hb1 : Below w0.heap.size w0 w1 := by rw [← hw1]; exact alloc_below w0 _
 have hl0 : w.heap.size < w0.heap.size := by rw [← hw0]; exact alloc_lt w _ _
 have hl1 : w0.heap.size < w1.heap.size := by rw [← hw1]; exact alloc_lt w0 _ _
 have hb : Below w.heap.size w w1 := hb0.trans (hb1.mono hb0.size)
 have HB1 : Hid (Below w.heap.size w w1) := hb
 have HC : Hid (∀ wx, Below w1.heap.size w1 wx → wx.cell? ⟨w.heap.size, 0, none⟩ = some (.int .i64 (k : Nat)) ∧ wx.cell? ⟨w.heap.size, 1, none⟩ = some (.string t1) ∧ wx.cell? ⟨w.heap.size, 2, none⟩ = some (.slice a1 n1 c1) ∧ wx.cell? ⟨w.heap.size, 3, none⟩ = some (.slice a1' n1' c1') ∧ wx.cell? ⟨w0.heap.size, 0, none⟩ = some (.int .i64 (k : Nat)) ∧ wx.cell? ⟨w0.heap.size, 1, none⟩ = some (.string t2) ∧ wx.cell? ⟨w0.heap.size, 2, none⟩ = some (.slice a2 n2 c2) ∧ wx.cell? ⟨w0.heap.size, 3, none⟩ = some (.slice a2' n2' c2')) := fun wx hx => by
  have q1 : ∀ i u, (#[.int .i64 (k : Nat), .string t1, .slice a1 n1 c1, .slice a1' n1' c1'] : Array Value)[i]? = some u → wx.cell? ⟨w.heap.size, i, none⟩ = some u := fun i u hu => by
   rw [hx.cell (p := ⟨w.heap.size, i, none⟩) (Nat.lt_trans hl0 hl1), hb1.cell (p := ⟨w.heap.size, i, none⟩) hl0, ← hw0]; exact cell_new w _ _ i _ hu
  have q2 : ∀ i u, (#[.int .i64 (k : Nat), .string t2, .slice a2 n2 c2, .slice a2' n2' c2'] : Array Value)[i]? = some u → wx.cell? ⟨w0.heap.size, i, none⟩ = some u := fun i u hu => by
   rw [hx.cell (p := ⟨w0.heap.size, i, none⟩) hl1, ← hw1]; exact cell_new w0 _ _ i _ hu
  exact ⟨q1 0 _ rfl, q1 1 _ rfl, q1 2 _ rfl, q1 3 _ rfl, q2 0 _ rfl, q2 1 _ rfl, q2 2 _ rfl, q2 3 _ rfl⟩
 have hk2 : ((l1 : Int) != (l2 : Int)) = true := by simp; omega
 have hk3 : ¬ (l1 : Int) = (l2 : Int) := by omega
 have HL1 : Hid (∀ wx, Below w1.heap.size w1 wx → Calls Tryz.prog 30 #[.agg #[.int .i64 (k : Nat), .string t1, .slice a1 n1 c1, .slice a1' n1' c1']] wx fun e w' => e = .returned (.int .i64 (l1 : Nat)) ∧ Below wx.heap.size wx w') := fun wx hx => h1 wx (hb.trans (hx.mono hb.size))
 have HL2 : Hid (∀ wx, Below w1.heap.size w1 wx → Calls Tryz.prog 30 #[.agg #[.int .i64 (k : Nat), .string t2, .slice a2 n2 c2, .slice a2' n2' c2']] wx fun e w' => e = .returned (.int .i64 (l2 : Nat)) ∧ Below wx.heap.size wx w') := fun wx hx => h2 wx (hb.trans (hx.mono hb.size))
 have HD : Hid (Below w1.heap.size w1 w1.drew) := below_drewN w1 1
 clear hb0 hb1 hl0 hl1 hb h1 h2 hl
 go_enter Tryz.func12, Tryz.ntmps12
 go_upto_region 1 with fail
 refine wp_region_held_drew (S := fun w' => w'.cell? ⟨w.heap.size, 0, none⟩ = some (.int .i64 (k : Nat)) ∧ w'.cell? ⟨w.heap.size, 1, none⟩ = some (.string t1) ∧ w'.cell? ⟨w.heap.size, 2, none⟩ = some (.slice a1 n1 c1) ∧ w'.cell? ⟨w.heap.size, 3, none⟩ = some (.slice a1' n1' c1') ∧ w'.cell? ⟨w0.heap.size, 0, none⟩ = some (.int .i64 (k : Nat)) ∧ w'.cell? ⟨w0.heap.size, 1, none⟩ = some (.string t2) ∧ w'.cell? ⟨w0.heap.size, 2, none⟩ = some (.slice a2 n2 c2) ∧ w'.cell? ⟨w0.heap.size, 3, none⟩ = some (.slice a2' n2' c2')) (by kernel_rfl) (HC.out _ HD.out) (fun hHeld => ?_)
 refine wpAnyH_take (i := 0) (oi := ⟨some 8, .fieldAddr 29 (.tmp 2) 0, 0, "ref.go:56", #[], none⟩) (v := ?_) rfl (by kernel_rfl) (by kernel_rfl) (by kernel_rfl) (fun _ _ _ h => h) (Or.inl ⟨by rfl, ?_⟩) (by assumption) ?_
 rotate_left
 ·(intro w hSw; (try dsimp only at hSw); go_simp; (try with_reducible rfl))
 try simp only [Act.put, List.setIfInBounds_toArray, List.set_cons_zero, List.set_cons_succ]
 refine wpAnyH_take (i := 1) (oi := ⟨some 9, .load 3 (.tmp 8), 3, "ref.go:56", #[⟨0, .data⟩], none⟩) (v := ?_) rfl (by kernel_rfl) (by kernel_rfl) (by kernel_rfl) (fun _ _ _ h => h) (Or.inl ⟨by rfl, ?_⟩) (by assumption) ?_
 rotate_left
 ·(intro w hSw; (try dsimp only at hSw); go_simp; (try with_reducible rfl))
 try simp only [Act.put, List.setIfInBounds_toArray, List.set_cons_zero, List.set_cons_succ]
 refine wpAnyH_take (i := 2) (oi := ⟨some 10, .fieldAddr 29 (.tmp 3) 0, 0, "ref.go:56", #[], none⟩) (v := ?_) rfl (by kernel_rfl) (by kernel_rfl) (by kernel_rfl) (fun _ _ _ h => h) (Or.inl ⟨by rfl, ?_⟩) (by assumption) ?_
 rotate_left
 ·(intro w hSw; (try dsimp only at hSw); go_simp; (try with_reducible rfl))
 try simp only [Act.put, List.setIfInBounds_toArray, List.set_cons_zero, List.set_cons_succ]
 refine wpAnyH_take (i := 3) (oi := ⟨some 11, .load 3 (.tmp 10), 3, "ref.go:56", #[⟨2, .data⟩], none⟩) (v := ?_) rfl (by kernel_rfl) (by kernel_rfl) (by kernel_rfl) (fun _ _ _ h => h) (Or.inl ⟨by rfl, ?_⟩) (by assumption) ?_
 rotate_left
 ·(intro w hSw; (try dsimp only at hSw); go_simp; (try with_reducible rfl))
 try simp only [Act.put, List.setIfInBounds_toArray, List.set_cons_zero, List.set_cons_succ]
 refine wpAnyH_take (i := 4) (oi := ⟨some 12, .binOp .neq 3 (.tmp 9) (.tmp 11) 3, 4, "ref.go:56", #[⟨1, .data⟩, ⟨3, .data⟩], none⟩) (v := ?_) rfl (by kernel_rfl) (by kernel_rfl) (by kernel_rfl) (fun _ _ _ h => h) (Or.inl ⟨by rfl, ?_⟩) (by assumption) ?_
 rotate_left
 ·(intro w hSw; (try dsimp only at hSw); go_simp; (try with_reducible rfl))
 try simp only [Act.put, List.setIfInBounds_toArray, List.set_cons_zero, List.set_cons_succ]
 refine wpAnyH_take (i := 5) (oi := ⟨some 13, .move (.tmp 12), 4, "ref.go:56", #[⟨4, .data⟩], none⟩) (v := ?_) rfl (by kernel_rfl) (by kernel_rfl) (by kernel_rfl) (fun _ _ _ h => h) (Or.inl ⟨by rfl, ?_⟩) (by assumption) ?_
 rotate_left
 ·(intro w hSw; (try dsimp only at hSw); go_simp; (try with_reducible rfl))
 try simp only [Act.put, List.setIfInBounds_toArray, List.set_cons_zero, List.set_cons_succ]
 refine wpAnyH_take (i := 6) (oi := ⟨some 14, .load 29 (.tmp 2), 29, "ref.go:56", #[⟨5, .guard⟩], some (5, false)⟩) (v := ?_) rfl (by kernel_rfl) (by kernel_rfl) (by kernel_rfl) (fun _ _ _ h => h) (Or.inl ⟨by rfl, ?_⟩) (by assumption) ?_
 rotate_left
 ·(intro w hSw; (try dsimp only at hSw); go_simp; (try with_reducible rfl))
 try simp only [Act.put, List.setIfInBounds_toArray, List.set_cons_zero, List.set_cons_succ]
 refine wpAnyH_take (i := 8) (oi := ⟨some 16, .load 29 (.tmp 3), 29, "ref.go:56", #[⟨5, .guard⟩], some (5, false)⟩) (v := ?_) rfl (by kernel_rfl) (by kernel_rfl) (by kernel_rfl) (fun _ _ _ h => h) (Or.inl ⟨by rfl, ?_⟩) (by assumption) ?_
 rotate_left
 ·(intro w hSw; (try dsimp only at hSw); go_simp; (try with_reducible rfl))
 try simp only [Act.put, List.setIfInBounds_toArray, List.set_cons_zero, List.set_cons_succ]
 refine wpAnyH_ready (rs := [7]) (by kernel_rfl) (by simp) ?_
 refine AllReadyH.cons (o := ⟨some 15, .call { callee := .value (.func 30), args := #[.tmp 14], argTypes := #[29] }, 3, "ref.go:56", #[⟨6, .data⟩, ⟨5, .chain⟩, ⟨5, .guard⟩], some (5, false)⟩) rfl (fun K hK => ?_) AllReadyH.nil
 go_simp
 (go_at_call 30; refine (HL1.out _ HD.out).mono ?_; rintro e w3 ⟨rfl, hb⟩; have HD3 := step_below HD hb; clear hb)
 (try go_wp2_with fail)
 refine hK.out _ _ (HC.out _ HD3.out) ?_
 clear hK K hHeld
 intro hHeld
 try simp only [Act.put, List.setIfInBounds_toArray, List.set_cons_zero, List.set_cons_succ]
 refine wpAnyH_ready (rs := [9]) (by kernel_rfl) (by simp) ?_
 refine AllReadyH.cons (o := ⟨some 17, .call { callee := .value (.func 30), args := #[.tmp 16], argTypes := #[29] }, 3, "ref.go:56", #[⟨8, .data⟩, ⟨7, .chain⟩, ⟨5, .guard⟩], some (5, false)⟩) rfl (fun K hK => ?_) AllReadyH.nil
 go_simp
 (go_at_call 30; refine (HL2.out _ HD3.out).mono ?_; rintro e w4 ⟨rfl, hb⟩; have HD4 := step_below HD3 hb; clear hb)
 (try go_wp2_with fail)
 refine hK.out _ _ (HC.out _ HD4.out) ?_
 clear hK K hHeld
 intro hHeld
 try simp only [Act.put, List.setIfInBounds_toArray, List.set_cons_zero, List.set_cons_succ]
 refine wpAnyH_take (i := 10) (oi := ⟨some 18, .binOp .neq 3 (.tmp 15) (.tmp 17) 3, 4, "ref.go:56", #[⟨7, .data⟩, ⟨9, .data⟩, ⟨5, .guard⟩], some (5, false)⟩) (v := ?_) rfl (by kernel_rfl) (by kernel_rfl) (by kernel_rfl) (fun _ _ _ h => h) (Or.inl ⟨by rfl, ?_⟩) (by assumption) ?_
 rotate_left
 ·(intro w hSw; (try dsimp only at hSw); go_simp; (try with_reducible rfl))
 try simp only [Act.put, List.setIfInBounds_toArray, List.set_cons_zero, List.set_cons_succ]
 refine wpAnyH_take (i := 11) (oi := ⟨some 19, .pick (.tmp 13) (.const (.bool true)) (.tmp 18), 4, "ref.go:56", #[⟨5, .data⟩, ⟨10, .data⟩], none⟩) (v := ?_) rfl (by kernel_rfl) (by kernel_rfl) (by kernel_rfl) (fun _ _ _ h => h) (Or.inl ⟨by rfl, ?_⟩) (by assumption) ?_
 rotate_left
 ·(intro w hSw; (try dsimp only at hSw); go_simp; (try with_reducible rfl))
 try simp only [Act.put, List.setIfInBounds_toArray, List.set_cons_zero, List.set_cons_succ]
 refine wpAnyH_take (i := 12) (oi := ⟨some 20, .move (.tmp 19), 4, "ref.go:56", #[⟨11, .data⟩, ⟨9, .chain⟩], none⟩) (v := ?_) rfl (by kernel_rfl) (by kernel_rfl) (by kernel_rfl) (fun _ _ _ h => h) (Or.inl ⟨by rfl, ?_⟩) (by assumption) ?_
 rotate_left
 ·(intro w hSw; (try dsimp only at hSw); go_simp; (try with_reducible rfl))
 try simp only [Act.put, List.setIfInBounds_toArray, List.set_cons_zero, List.set_cons_succ]
 refine wpAnyH_take (i := 13) (oi := ⟨some 21, .fieldAddr 29 (.tmp 2) 1, 0, "ref.go:56", #[⟨12, .guard⟩], some (12, false)⟩) (v := undef) rfl (by kernel_rfl) (by kernel_rfl) (by kernel_rfl) (fun _ _ _ h => h) (Or.inr ⟨by rfl, rfl⟩) (by assumption) ?_
 try simp only [Act.put, List.setIfInBounds_toArray, List.set_cons_zero, List.set_cons_succ]
 refine wpAnyH_take (i := 14) (oi := ⟨some 22, .load 9 (.tmp 21), 9, "ref.go:56", #[⟨13, .data⟩, ⟨12, .guard⟩], some (12, false)⟩) (v := undef) rfl (by kernel_rfl) (by kernel_rfl) (by kernel_rfl) (fun _ _ _ h => h) (Or.inr ⟨by rfl, rfl⟩) (by assumption) ?_
 try simp only [Act.put, List.setIfInBounds_toArray, List.set_cons_zero, List.set_cons_succ]
 refine wpAnyH_take (i := 15) (oi := ⟨some 23, .fieldAddr 29 (.tmp 3) 1, 0, "ref.go:56", #[⟨12, .guard⟩], some (12, false)⟩) (v := undef) rfl (by kernel_rfl) (by kernel_rfl) (by kernel_rfl) (fun _ _ _ h => h) (Or.inr ⟨by rfl, rfl⟩) (by assumption) ?_
 try simp only [Act.put, List.setIfInBounds_toArray, List.set_cons_zero, List.set_cons_succ]
 refine wpAnyH_take (i := 16) (oi := ⟨some 24, .load 9 (.tmp 23), 9, "ref.go:56", #[⟨15, .data⟩, ⟨12, .guard⟩], some (12, false)⟩) (v := undef) rfl (by kernel_rfl) (by kernel_rfl) (by kernel_rfl) (fun _ _ _ h => h) (Or.inr ⟨by rfl, rfl⟩) (by assumption) ?_
 try simp only [Act.put, List.setIfInBounds_toArray, List.set_cons_zero, List.set_cons_succ]
 refine wpAnyH_take (i := 17) (oi := ⟨some 25, .binOp .neq 9 (.tmp 22) (.tmp 24) 9, 4, "ref.go:56", #[⟨14, .data⟩, ⟨16, .data⟩, ⟨12, .guard⟩], some (12, false)⟩) (v := undef) rfl (by kernel_rfl) (by kernel_rfl) (by kernel_rfl) (fun _ _ _ h => h) (Or.inr ⟨by rfl, rfl⟩) (by assumption) ?_
 try simp only [Act.put, List.setIfInBounds_toArray, List.set_cons_zero, List.set_cons_succ]
 refine wpAnyH_take (i := 18) (oi := ⟨some 26, .pick (.tmp 20) (.const (.bool true)) (.tmp 25), 4, "ref.go:56", #[⟨12, .data⟩, ⟨17, .data⟩], none⟩) (v := ?_) rfl (by kernel_rfl) (by kernel_rfl) (by kernel_rfl) (fun _ _ _ h => h) (Or.inl ⟨by rfl, ?_⟩) (by assumption) ?_
 rotate_left
 ·(intro w hSw; (try dsimp only at hSw); go_simp; (try with_reducible rfl))
 try simp only [Act.put, List.setIfInBounds_toArray, List.set_cons_zero, List.set_cons_succ]
 refine wpAnyH_done (by kernel_rfl) ?_ _
 have HBe := step_below HB1 HD4.out
 go_wp2
 go_ret
 exact ⟨rfl, HBe.out⟩
set_option maxRecDepth 100000 in
set_option maxHeartbeats 4000000 in
theorem rSame_t (w : World) (n : Nat) (t1 t2 : ByteArray)
  (h1 : ∀ wx, Below w.heap.size w wx → Calls Tryz.prog 30 #[.agg #[.int .i64 1, .string t1, .slice none 0 0, .slice none 0 0]] wx fun e w' => e = .returned (.int .i64 (n : Nat)) ∧ Below wx.heap.size wx w')
  (h2 : ∀ wx, Below w.heap.size w wx → Calls Tryz.prog 30 #[.agg #[.int .i64 1, .string t2, .slice none 0 0, .slice none 0 0]] wx fun e w' => e = .returned (.int .i64 (n : Nat)) ∧ Below wx.heap.size wx w') :
  Calls Tryz.prog 12 #[.agg #[.int .i64 1, .string t1, .slice none 0 0, .slice none 0 0], .agg #[.int .i64 1, .string t2, .slice none 0 0, .slice none 0 0]] w fun e w' => EqR w w' e (t1 = t2) := by
 obtain ⟨w0, hw0⟩ : ∃ w0, w.alloc (.cells #[.int .i64 1, .string t1, .slice none 0 0, .slice none 0 0] 29) = w0 := ⟨_, rfl⟩
 obtain ⟨w1, hw1⟩ : ∃ w1, w0.alloc (.cells #[.int .i64 1, .string t2, .slice none 0 0, .slice none 0 0] 29) = w1 := ⟨_, rfl⟩
 have hb0 : Below w.heap.size w w0 := by rw [← hw0]; exact alloc_below w _
 have hb1 : Below w0.heap.size w0 w1 := by rw [← hw1]; exact alloc_below w0 _
 have hl0 : w.heap.size < w0.heap.size := by rw [← hw0]; exact alloc_lt w _ _
 have hl1 : w0.heap.size < w1.heap.size := by rw [← hw1]; exact alloc_lt w0 _ _
 have hb : Below w.heap.size w w1 := hb0.trans (hb1.mono hb0.size)
 have HB1 : Hid (Below w.heap.size w w1) := hb
 have HC : Hid (∀ wx, Below w1.heap.size w1 wx → wx.cell? ⟨w.heap.size, 0, none⟩ = some (.int .i64 1) ∧ wx.cell? ⟨w.heap.size, 1, none⟩ = some (.string t1) ∧ wx.cell? ⟨w.heap.size, 2, none⟩ = some (.slice none 0 0) ∧ wx.cell? ⟨w.heap.size, 3, none⟩ = some (.slice none 0 0) ∧ wx.cell? ⟨w0.heap.size, 0, none⟩ = some (.int .i64 1) ∧ wx.cell? ⟨w0.heap.size, 1, none⟩ = some (.string t2) ∧ wx.cell? ⟨w0.heap.size, 2, none⟩ = some (.slice none 0 0) ∧ wx.cell? ⟨w0.heap.size, 3, none⟩ = some (.slice none 0 0)) := fun wx hx => by
  have q1 : ∀ i u, (#[.int .i64 1, .string t1, .slice none 0 0, .slice none 0 0] : Array Value)[i]? = some u → wx.cell? ⟨w.heap.size, i, none⟩ = some u := fun i u hu => by
   rw [hx.cell (p := ⟨w.heap.size, i, none⟩) (Nat.lt_trans hl0 hl1), hb1.cell (p := ⟨w.heap.size, i, none⟩) hl0, ← hw0]; exact cell_new w _ _ i _ hu
  have q2 : ∀ i u, (#[.int .i64 1, .string t2, .slice none 0 0, .slice none 0 0] : Array Value)[i]? = some u → wx.cell? ⟨w0.heap.size, i, none⟩ = some u := fun i u hu => by
   rw [hx.cell (p := ⟨w0.heap.size, i, none⟩) hl1, ← hw1]; exact cell_new w0 _ _ i _ hu
  exact ⟨q1 0 _ rfl, q1 1 _ rfl, q1 2 _ rfl, q1 3 _ rfl, q2 0 _ rfl, q2 1 _ rfl, q2 2 _ rfl, q2 3 _ rfl⟩
 have HL1 : Hid (∀ wx, Below w1.heap.size w1 wx → Calls Tryz.prog 30 #[.agg #[.int .i64 1, .string t1, .slice none 0 0, .slice none 0 0]] wx fun e w' => e = .returned (.int .i64 (n : Nat)) ∧ Below wx.heap.size wx w') := fun wx hx => h1 wx (hb.trans (hx.mono hb.size))
 have HL2 : Hid (∀ wx, Below w1.heap.size w1 wx → Calls Tryz.prog 30 #[.agg #[.int .i64 1, .string t2, .slice none 0 0, .slice none 0 0]] wx fun e w' => e = .returned (.int .i64 (n : Nat)) ∧ Below wx.heap.size wx w') := fun wx hx => h2 wx (hb.trans (hx.mono hb.size))
 have HD : Hid (Below w1.heap.size w1 w1.drew) := below_drewN w1 1
 have hq := str_beq t1 t2
 clear hb0 hb1 hl0 hl1 hb h1 h2
 by_cases ht : t1 = t2
 ·have hq2 : (t1.toList == t2.toList) = true := by rw [hq, decide_eq_true ht]
  have HT : Hid (t1 = t2) := ht
  clear hq ht
  go_enter Tryz.func12, Tryz.ntmps12
  go_upto_region 1 with fail
  go_cut [26] from 8 to 26 (fun u wx => ∃ wy, wy = wx ∧ u = .bool false ∧ Hid (Below w1.heap.size w1 wy))
  case first =>
   go_region_held3 (fun w' => w'.cell? ⟨w.heap.size, 0, none⟩ = some (.int .i64 1) ∧ w'.cell? ⟨w.heap.size, 1, none⟩ = some (.string t1) ∧ w'.cell? ⟨w.heap.size, 2, none⟩ = some (.slice none 0 0) ∧ w'.cell? ⟨w.heap.size, 3, none⟩ = some (.slice none 0 0) ∧ w'.cell? ⟨w0.heap.size, 0, none⟩ = some (.int .i64 1) ∧ w'.cell? ⟨w0.heap.size, 1, none⟩ = some (.string t2) ∧ w'.cell? ⟨w0.heap.size, 2, none⟩ = some (.slice none 0 0) ∧ w'.cell? ⟨w0.heap.size, 3, none⟩ = some (.slice none 0 0)) (exact HC.out _ HD.out) (first
    | (go_at_call_of 30 (Value.agg #[.int .i64 1, .string t1, .slice none 0 0, .slice none 0 0]); refine (HL1.out _ HD.out).mono ?_; rintro e wx ⟨rfl, hb⟩; replace HD := step_below HD hb; clear hb)
    | (go_at_call_of 30 (Value.agg #[.int .i64 1, .string t2, .slice none 0 0, .slice none 0 0]); refine (HL2.out _ HD.out).mono ?_; rintro e wx ⟨rfl, hb⟩; replace HD := step_below HD hb; clear hb))
   all_goals
    go_wp2
    go_meet
    exact ⟨_, rfl, rfl, HD⟩
  case rest =>
  obtain ⟨w2, rfl, rfl, HD2⟩ := hcut
  obtain ⟨s0, s1, s2, s3, s4, s5, s6, s7⟩ := HC.out w2 HD2.out
  have HBe := step_below HB1 HD2.out
  go_wp2
  go_loopg [5, 6] 0 (fun g iv kv wr => w2 = wr ∧ iv = .int .i64 0)
  case atStart => exact ⟨rfl, rfl⟩
  case round =>
   obtain ⟨rfl, rfl⟩ := hrel
   go_wp2
   go_loopg [7] 0 (fun g iv wr => w2 = wr ∧ iv = .int .i64 0)
   case atStart => exact ⟨rfl, rfl⟩
   case round =>
    obtain ⟨rfl, rfl⟩ := hrel
    go_wp2
    go_ret
    exact EqR.yes HBe.out HT.out
 ·have hq2 : (t1.toList == t2.toList) = false := by rw [hq, decide_eq_false ht]
  have HT : Hid (¬ t1 = t2) := ht
  clear hq ht
  go_enter Tryz.func12, Tryz.ntmps12
  go_upto_region 1 with fail
  go_cut [26] from 8 to 26 (fun u wx => ∃ wy, wy = wx ∧ u = .bool true ∧ Hid (Below w1.heap.size w1 wy))
  case first =>
   go_region_held3 (fun w' => w'.cell? ⟨w.heap.size, 0, none⟩ = some (.int .i64 1) ∧ w'.cell? ⟨w.heap.size, 1, none⟩ = some (.string t1) ∧ w'.cell? ⟨w.heap.size, 2, none⟩ = some (.slice none 0 0) ∧ w'.cell? ⟨w.heap.size, 3, none⟩ = some (.slice none 0 0) ∧ w'.cell? ⟨w0.heap.size, 0, none⟩ = some (.int .i64 1) ∧ w'.cell? ⟨w0.heap.size, 1, none⟩ = some (.string t2) ∧ w'.cell? ⟨w0.heap.size, 2, none⟩ = some (.slice none 0 0) ∧ w'.cell? ⟨w0.heap.size, 3, none⟩ = some (.slice none 0 0)) (exact HC.out _ HD.out) (first
    | (go_at_call_of 30 (Value.agg #[.int .i64 1, .string t1, .slice none 0 0, .slice none 0 0]); refine (HL1.out _ HD.out).mono ?_; rintro e wx ⟨rfl, hb⟩; replace HD := step_below HD hb; clear hb)
    | (go_at_call_of 30 (Value.agg #[.int .i64 1, .string t2, .slice none 0 0, .slice none 0 0]); refine (HL2.out _ HD.out).mono ?_; rintro e wx ⟨rfl, hb⟩; replace HD := step_below HD hb; clear hb))
   all_goals
    go_wp2
    go_meet
    exact ⟨_, rfl, rfl, HD⟩
  case rest =>
  obtain ⟨w2, rfl, rfl, HD2⟩ := hcut
  have HBe := step_below HB1 HD2.out
  go_wp2
  go_ret
  exact EqR.no HBe.out HT.out
set_option maxRecDepth 100000 in
set_option maxHeartbeats 8000000 in
theorem rSame_h (w : World) (B1 B2 n : Nat) (a1 a2 : Option Addr) (c1 c2 : Nat) (l1 l2 : List En) (hO1 : OwnQ w B1 a1 n c1 l1) (hO2 : OwnQ w B2 a2 n c2 l2) (hn : n ≤ 100) (hk1 : (keysOf l1).Nodup) (hk2 : (keysOf l2).Nodup)
  (h1 : ∀ wx, Below w.heap.size w wx → Calls Tryz.prog 30 #[.agg #[.int .i64 2, .string ⟨#[]⟩, .slice a1 n c1, .slice none 0 0]] wx fun e w' => e = .returned (.int .i64 (n : Nat)) ∧ Below wx.heap.size wx w')
  (h2 : ∀ wx, Below w.heap.size w wx → Calls Tryz.prog 30 #[.agg #[.int .i64 2, .string ⟨#[]⟩, .slice a2 n c2, .slice none 0 0]] wx fun e w' => e = .returned (.int .i64 (n : Nat)) ∧ Below wx.heap.size wx w') :
  Calls Tryz.prog 12 #[.agg #[.int .i64 2, .string ⟨#[]⟩, .slice a1 n c1, .slice none 0 0], .agg #[.int .i64 2, .string ⟨#[]⟩, .slice a2 n c2, .slice none 0 0]] w fun e w' => EqR w w' e (l1.Perm l2) := by
 obtain ⟨w0, hw0⟩ : ∃ w0, w.alloc (.cells #[.int .i64 2, .string ⟨#[]⟩, .slice a1 n c1, .slice none 0 0] 29) = w0 := ⟨_, rfl⟩
 obtain ⟨w1, hw1⟩ : ∃ w1, w0.alloc (.cells #[.int .i64 2, .string ⟨#[]⟩, .slice a2 n c2, .slice none 0 0] 29) = w1 := ⟨_, rfl⟩
 have hb0 : Below w.heap.size w w0 := by rw [← hw0]; exact alloc_below w _
 have hb1 : Below w0.heap.size w0 w1 := by rw [← hw1]; exact alloc_below w0 _
 have hl0 : w.heap.size < w0.heap.size := by rw [← hw0]; exact alloc_lt w _ _
 have hl1 : w0.heap.size < w1.heap.size := by rw [← hw1]; exact alloc_lt w0 _ _
 have hb : Below w.heap.size w w1 := hb0.trans (hb1.mono hb0.size)
 have HB1 : Hid (Below w.heap.size w w1) := hb
 have HC : Hid (∀ wx, Below w1.heap.size w1 wx → wx.cell? ⟨w.heap.size, 0, none⟩ = some (.int .i64 2) ∧ wx.cell? ⟨w.heap.size, 1, none⟩ = some (.string ⟨#[]⟩) ∧ wx.cell? ⟨w.heap.size, 2, none⟩ = some (.slice a1 n c1) ∧ wx.cell? ⟨w.heap.size, 3, none⟩ = some (.slice none 0 0) ∧ wx.cell? ⟨w0.heap.size, 0, none⟩ = some (.int .i64 2) ∧ wx.cell? ⟨w0.heap.size, 1, none⟩ = some (.string ⟨#[]⟩) ∧ wx.cell? ⟨w0.heap.size, 2, none⟩ = some (.slice a2 n c2) ∧ wx.cell? ⟨w0.heap.size, 3, none⟩ = some (.slice none 0 0)) := fun wx hx => by
  have q1 : ∀ i u, (#[.int .i64 2, .string ⟨#[]⟩, .slice a1 n c1, .slice none 0 0] : Array Value)[i]? = some u → wx.cell? ⟨w.heap.size, i, none⟩ = some u := fun i u hu => by
   rw [hx.cell (p := ⟨w.heap.size, i, none⟩) (Nat.lt_trans hl0 hl1), hb1.cell (p := ⟨w.heap.size, i, none⟩) hl0, ← hw0]; exact cell_new w _ _ i _ hu
  have q2 : ∀ i u, (#[.int .i64 2, .string ⟨#[]⟩, .slice a2 n c2, .slice none 0 0] : Array Value)[i]? = some u → wx.cell? ⟨w0.heap.size, i, none⟩ = some u := fun i u hu => by
   rw [hx.cell (p := ⟨w0.heap.size, i, none⟩) hl1, ← hw1]; exact cell_new w0 _ _ i _ hu
  exact ⟨q1 0 _ rfl, q1 1 _ rfl, q1 2 _ rfl, q1 3 _ rfl, q2 0 _ rfl, q2 1 _ rfl, q2 2 _ rfl, q2 3 _ rfl⟩
 have HL1 : Hid (∀ wx, Below w1.heap.size w1 wx → Calls Tryz.prog 30 #[.agg #[.int .i64 2, .string ⟨#[]⟩, .slice a1 n c1, .slice none 0 0]] wx fun e w' => e = .returned (.int .i64 (n : Nat)) ∧ Below wx.heap.size wx w') := fun wx hx => h1 wx (hb.trans (hx.mono hb.size))
 have HL2 : Hid (∀ wx, Below w1.heap.size w1 wx → Calls Tryz.prog 30 #[.agg #[.int .i64 2, .string ⟨#[]⟩, .slice a2 n c2, .slice none 0 0]] wx fun e w' => e = .returned (.int .i64 (n : Nat)) ∧ Below wx.heap.size wx w') := fun wx hx => h2 wx (hb.trans (hx.mono hb.size))
 have HD : Hid (Below w1.heap.size w1 w1.drew) := below_drewN w1 1
 have HO1 : Hid (OwnQ w1 B1 a1 n c1 l1) := Dk.OwnR.keep hO1 hb
 have HO2 : Hid (OwnQ w1 B2 a2 n c2 l2) := Dk.OwnR.keep hO2 hb
 have HN1 : Hid (l1.length = n) := OwnQ.len hO1
 have HN2 : Hid (l2.length = n) := OwnQ.len hO2
 have HK1 : Hid ((keysOf l1).Nodup) := hk1
 have HK2 : Hid ((keysOf l2).Nodup) := hk2
 clear hb0 hb1 hl0 hl1 hb h1 h2 hO1 hO2 hk1 hk2
 go_enter Tryz.func12, Tryz.ntmps12
 go_upto_region 1 with fail
 go_cut [26] from 8 to 26 (fun u wx => ∃ wy, wy = wx ∧ u = .bool false ∧ Hid (Below w1.heap.size w1 wy))
 case first =>
  go_region_held3 (fun w' => w'.cell? ⟨w.heap.size, 0, none⟩ = some (.int .i64 2) ∧ w'.cell? ⟨w.heap.size, 1, none⟩ = some (.string ⟨#[]⟩) ∧ w'.cell? ⟨w.heap.size, 2, none⟩ = some (.slice a1 n c1) ∧ w'.cell? ⟨w.heap.size, 3, none⟩ = some (.slice none 0 0) ∧ w'.cell? ⟨w0.heap.size, 0, none⟩ = some (.int .i64 2) ∧ w'.cell? ⟨w0.heap.size, 1, none⟩ = some (.string ⟨#[]⟩) ∧ w'.cell? ⟨w0.heap.size, 2, none⟩ = some (.slice a2 n c2) ∧ w'.cell? ⟨w0.heap.size, 3, none⟩ = some (.slice none 0 0)) (exact HC.out _ HD.out) (first
   | (go_at_call_of 30 (Value.agg #[.int .i64 2, .string ⟨#[]⟩, .slice a1 n c1, .slice none 0 0]); refine (HL1.out _ HD.out).mono ?_; rintro e wx ⟨rfl, hb⟩; replace HD := step_below HD hb; clear hb)
   | (go_at_call_of 30 (Value.agg #[.int .i64 2, .string ⟨#[]⟩, .slice a2 n c2, .slice none 0 0]); refine (HL2.out _ HD.out).mono ?_; rintro e wx ⟨rfl, hb⟩; replace HD := step_below HD hb; clear hb))
  all_goals
   go_wp2
   go_meet
   exact ⟨_, rfl, rfl, HD⟩
 case rest =>
 obtain ⟨w2, rfl, rfl, HD2⟩ := hcut
 obtain ⟨s0, s1, s2, s3, s4, s5, s6, s7⟩ := HC.out w2 HD2.out
 clear HD HL1 HL2
 go_wp2
 go_loopg [5, 6] n (fun g iv kv wr => ∃ i : Nat, i + g = n ∧ iv = .int .i64 i ∧ Hid (∀ e ∈ l1.take i, e ∈ l2) ∧ Hid (Below w1.heap.size w1 wr))
 case atStart => exact ⟨0, by omega, rfl, fun e he => absurd he (by simp), HD2⟩
 case round =>
  obtain ⟨i, hi, rfl, HIn, HB⟩ := hrel
  obtain ⟨s0, s1, s2, s3, s4, s5, s6, s7⟩ := HC.out wr HB.out
  by_cases h8 : (i : Int) < n
  ·have hbd : Below wr.heap.size wr wr.drew := below_drewN wr 1
   have HBd := step_below HB hbd
   obtain ⟨g1, hg1, hx1, hx2⟩ := OwnQ.cell (Dk.OwnR.keep HO1.out HBd.out) (j := i) (by omega)
   have HT : Hid (l1.take (i + 1) = l1.take i ++ [l1.getD i (⟨#[]⟩, ⟨#[]⟩)]) := Dk.take_snoc l1 (⟨#[]⟩, ⟨#[]⟩) i (by have := HN1.out; omega)
   have HM : Hid (l1.getD i (⟨#[]⟩, ⟨#[]⟩) ∈ l1) := getD_inE (by have := HN1.out; omega)
   have HCl : Hid (∀ wx, Below w1.heap.size w1 wx → ∃ g, a1 = some ⟨g, 0, none⟩ ∧ wx.cell? ⟨g, i * 2, none⟩ = some (.string (l1.getD i (⟨#[]⟩, ⟨#[]⟩)).1) ∧ wx.cell? ⟨g, i * 2 + 1, none⟩ = some (.string (l1.getD i (⟨#[]⟩, ⟨#[]⟩)).2)) := fun wx hx => OwnQ.cell (Dk.OwnR.keep HO1.out hx) (j := i) (by omega)
   generalize l1.getD i (⟨#[]⟩, ⟨#[]⟩) = p at hx1 hx2 HT HM HCl
   obtain ⟨K, U⟩ := p
   simp only at hx1 hx2 HCl
   have hn2 : i * 2 ≤ 200 := by omega
   have HCc : Hid (∀ wx, Below w1.heap.size w1 wx → wx.cell? ⟨g1, i * 2, none⟩ = some (.string K) ∧ wx.cell? ⟨g1, i * 2 + 1, none⟩ = some (.string U)) := fun wx hx => by
    obtain ⟨g, e1, e2, e3⟩ := HCl.out wx hx
    obtain rfl : g1 = g := by rw [hg1] at e1; injection e1 with e1; injection e1
    exact ⟨e2, e3⟩
   subst hg1
   have HS6 : Hid (∀ wx, Below w1.heap.size w1 wx → (fun w' : World => w'.cell? ⟨w0.heap.size, 0, none⟩ = some (.int .i64 2) ∧ w'.cell? ⟨w0.heap.size, 1, none⟩ = some (.string ⟨#[]⟩) ∧ w'.cell? ⟨w0.heap.size, 2, none⟩ = some (.slice a2 n c2) ∧ w'.cell? ⟨w0.heap.size, 3, none⟩ = some (.slice none 0 0) ∧ w'.cell? ⟨w.heap.size, 2, none⟩ = some (.slice (some ⟨g1, 0, none⟩) n c1) ∧ w'.cell? ⟨g1, i * 2, none⟩ = some (.string K)) wx) := fun wx hx => by
    obtain ⟨z0, z1, z2, z3, z4, z5, z6, z7⟩ := HC.out wx hx
    exact ⟨z4, z5, z6, z7, z2, (HCc.out wx hx).1⟩
   clear hx1 hx2 hbd HCl
   by_cases hmem : K ∈ keysOf l2
   ·obtain ⟨lf, u, rt, hsp⟩ := Dk.key_split hmem
    have hnl : K ∉ keysOf lf := by
     have h1 := HK2.out
     rw [hsp] at h1
     unfold keysOf at h1 ⊢
     rw [List.map_append, List.map_cons, List.nodup_append] at h1
     intro hq
     exact h1.2.2 K hq K (by simp) rfl
    have HF : Hid (∀ wx, Below w1.heap.size w1 wx → Calls Tryz.prog 27 #[.agg #[.int .i64 2, .string ⟨#[]⟩, .slice a2 n c2, .slice none 0 0], .string K] wx fun e w' => e = .returned (.int .i64 (lf.length : Nat)) ∧ Below wx.heap.size wx w') := fun wx hx => Field_yes B2 a2 n c2 2 ⟨#[]⟩ (.slice none 0 0) lf rt K u wx (by rw [← hsp]; exact Dk.OwnR.keep HO2.out hx) hn hnl
    have hLm : lf.length < n := by have := HN2.out; rw [hsp, List.length_append, List.length_cons] at this; omega
    have HC2 : Hid (∀ wx, Below w1.heap.size w1 wx → ∃ g, a2 = some ⟨g, 0, none⟩ ∧ wx.cell? ⟨g, lf.length * 2 + 1, none⟩ = some (.string u)) := fun wx hx => by
     obtain ⟨g, e1, -, e3⟩ := OwnQ.cell (Dk.OwnR.keep HO2.out hx) (j := lf.length) hLm
     refine ⟨g, e1, ?_⟩
     rw [e3, hsp, List.getD_eq_getElem?_getD, List.getElem?_append_right (Nat.le_refl _)]
     simp
    have HEq : Hid (u = U ↔ (K, U) ∈ l2) := by
     constructor
     ·intro e; rw [hsp, ← e]; simp
     ·intro hm
      have g1' := Dk.getE_mem HK2.out (k := K) (v := U) hm
      have g2' := Dk.getE_mem HK2.out (k := K) (v := u) (by rw [hsp]; simp)
      rw [g1'] at g2'; exact g2'.symm
    obtain ⟨Ln, hLn⟩ : ∃ Ln, lf.length = Ln := ⟨_, rfl⟩
    rw [hLn] at HF HC2 hLm
    have hL2 : Ln * 2 ≤ 200 := by omega
    clear hmem hnl hsp hLn
    go_upto_region 6 with fail
    go_region_held3 (fun w' => w'.cell? ⟨w0.heap.size, 0, none⟩ = some (.int .i64 2) ∧ w'.cell? ⟨w0.heap.size, 1, none⟩ = some (.string ⟨#[]⟩) ∧ w'.cell? ⟨w0.heap.size, 2, none⟩ = some (.slice a2 n c2) ∧ w'.cell? ⟨w0.heap.size, 3, none⟩ = some (.slice none 0 0) ∧ w'.cell? ⟨w.heap.size, 2, none⟩ = some (.slice (some ⟨g1, 0, none⟩) n c1) ∧ w'.cell? ⟨g1, i * 2, none⟩ = some (.string K)) (exact HS6.out _ HBd.out) (first
     | (go_at_call 27; refine (HF.out _ HBd.out).mono ?_; rintro e w5 ⟨rfl, hb⟩; replace HBd := step_below HBd hb; clear hb))
    obtain ⟨g2, hg2, hu⟩ := HC2.out _ HBd.out
    obtain ⟨z0, z1, z2, z3, z4, z5, z6, z7⟩ := HC.out _ HBd.out
    obtain ⟨y1, y2⟩ := HCc.out _ HBd.out
    have HBq : Hid (∀ q, Below w1.heap.size w1 (w5.drewN q)) := fun q => (step_below HBd (below_drewN w5 q)).out
    subst hg2
    have hq := str_beq u U
    have hLi : (Ln : Int) < n := by omega
    have hL0 : ¬ (Ln : Int) < 0 := by omega
    have hL3 : decide ((Ln : Int) < 0) = false := by simp
    by_cases hu2 : u = U
    ·have hq2 : (u.toList == U.toList) = true := by rw [hq, decide_eq_true hu2]
     have HIn2 : Hid (∀ e ∈ l1.take (i + 1), e ∈ l2) := fun e he => by
      rw [HT.out] at he
      rcases List.mem_append.1 he with h1 | h1
      ·exact HIn.out e h1
      ·rw [List.mem_singleton.1 h1]; exact HEq.out.1 hu2
     clear hq hu2
     go_upto_region 7 with fail
     go_quiet (fail)
     go_wp2
     go_roundg (gk - 1)
     case measure => omega
     case rel => exact ⟨i + 1, by omega, by go_num, HIn2, HBq.out _⟩
    ·have hq2 : (u.toList == U.toList) = false := by rw [hq, decide_eq_false hu2]
     have HNo : Hid (¬ l1.Perm l2) := fun hp => hu2 (HEq.out.2 (hp.mem_iff.1 HM.out))
     clear hq hu2
     have HBe : Hid (∀ q, Below w.heap.size w (w5.drewN q)) := fun q => (step_below HB1 (HBq.out q)).out
     go_upto_region 7 with fail
     go_quiet (fail)
     go_wp2
     go_ret
     exact EqR.no (HBe.out _) HNo.out
   ·have HF : Hid (∀ wx, Below w1.heap.size w1 wx → Calls Tryz.prog 27 #[.agg #[.int .i64 2, .string ⟨#[]⟩, .slice a2 n c2, .slice none 0 0], .string K] wx fun e w' => e = .returned (.int .i64 (-1)) ∧ Below wx.heap.size wx w') := fun wx hx => Field_no B2 a2 n c2 2 ⟨#[]⟩ (.slice none 0 0) l2 K wx (Dk.OwnR.keep HO2.out hx) hn hmem
    have HNo : Hid (¬ l1.Perm l2) := fun hp => hmem (List.mem_map.2 ⟨_, hp.mem_iff.1 HM.out, rfl⟩)
    clear hmem
    go_upto_region 6 with fail
    go_region_held3 (fun w' => w'.cell? ⟨w0.heap.size, 0, none⟩ = some (.int .i64 2) ∧ w'.cell? ⟨w0.heap.size, 1, none⟩ = some (.string ⟨#[]⟩) ∧ w'.cell? ⟨w0.heap.size, 2, none⟩ = some (.slice a2 n c2) ∧ w'.cell? ⟨w0.heap.size, 3, none⟩ = some (.slice none 0 0) ∧ w'.cell? ⟨w.heap.size, 2, none⟩ = some (.slice (some ⟨g1, 0, none⟩) n c1) ∧ w'.cell? ⟨g1, i * 2, none⟩ = some (.string K)) (exact HS6.out _ HBd.out) (first
     | (go_at_call 27; refine (HF.out _ HBd.out).mono ?_; rintro e w5 ⟨rfl, hb⟩; replace HBd := step_below HBd hb; clear hb))
    have HBe : Hid (∀ q, Below w.heap.size w (w5.drewN q)) := fun q => (step_below HB1 (step_below HBd (below_drewN w5 q)).out).out
    go_upto_region 7 with fail
    go_quiet (fail)
    go_wp2
    go_ret
    exact EqR.no (HBe.out _) HNo.out
  ·have HP : Hid (l1.Perm l2) := by
    have h1 := HIn.out
    rw [List.take_of_length_le (by have := HN1.out; omega)] at h1
    exact perm_of_sub (nod_of_keys HK1.out) h1 (HN1.out.trans HN2.out.symm)
   have HBe := step_below HB1 HB.out
   go_wp2
   go_loopg [7] 0 (fun g iv wx => wr = wx ∧ iv = .int .i64 0)
   case atStart => exact ⟨rfl, rfl⟩
   case round =>
    obtain ⟨rfl, rfl⟩ := hrel
    go_wp2
    go_ret
    exact EqR.yes HBe.out HP.out
end Go.Proofs.YtikimcbalkhooaaGreat
