/-
 ValueSames.
-/
import Derived.Test.YtikimcbalkhooaaGreatJ29
namespace Go.Proofs.YtikimcbalkhooaaGreat
open Go.RowKit Go.PlainAid
open Dk (En keysOf hasK putE ecells)

theorem sameD_refl (d : VD) : sameD d d := by
 cases d with
 | txt t => rfl
 | hsh es => exact List.Perm.refl _
 | set l => exact List.Perm.refl _
 | lst l => rfl
theorem EqR.is {w w' : World} {e : Ending} {P : Prop} (h : EqR w w' e P) (hp : P) : e = .returned (.bool true) ∧ Below w.heap.size w w' := by
 obtain ⟨h1, r, h2, h3⟩ := h
 exact ⟨by rw [h2, h3.2 hp], h1⟩
theorem EqR.isnt {w w' : World} {e : Ending} {P : Prop} (h : EqR w w' e P) (hp : ¬ P) : e = .returned (.bool false) ∧ Below w.heap.size w w' := by
 obtain ⟨h1, r, h2, h3⟩ := h
 cases r
 ·exact ⟨h2, h1⟩
 ·exact absurd (h3.1 rfl) hp
theorem sameD_symm {a b : VD} (h : sameD a b) : sameD b a := by
 cases a with
 | txt t => cases b with
  | txt u => exact Eq.symm h
  | _ => exact absurd h (by simp [sameD])
 | hsh t => cases b with
  | hsh u => exact List.Perm.symm h
  | _ => exact absurd h (by simp [sameD])
 | set t => cases b with
  | set u => exact List.Perm.symm h
  | _ => exact absurd h (by simp [sameD])
 | lst t => cases b with
  | lst u => exact Eq.symm h
  | _ => exact absurd h (by simp [sameD])
theorem val_cells {w : World} {b : Nat} {c0 c1 c2 c3 : Value} {t : TypeId} (h : w.heap[b]? = some (.cells #[c0, c1, c2, c3] t (0, 0))) : w.cell? ⟨b, 0, none⟩ = some c0 ∧ w.cell? ⟨b, 1, none⟩ = some c1 ∧ w.cell? ⟨b, 2, none⟩ = some c2 ∧ w.cell? ⟨b, 3, none⟩ = some c3 ∧ ∀ i, w.frozen? ⟨b, i, none⟩ = false := by
 simp [World.cell?, World.frozen?, h]
theorem Vl.lower {w : World} {B C : Nat} {d : VD} {va : Value} (h : Vl w B d va) (hC : C ≤ B) : Vl w C d va := by
 cases d with
 | txt t => exact h
 | hsh es => obtain ⟨a, n, c, h1, h2⟩ := h; exact ⟨a, n, c, h1, Dk.OwnR.low h2 hC⟩
 | set l => obtain ⟨a, n, c, h1, h2⟩ := h; exact ⟨a, n, c, h1, Dk.OwnR.low h2 hC⟩
 | lst l => obtain ⟨a, n, c, h1, h2⟩ := h; exact ⟨a, n, c, h1, Dk.OwnR.low h2 hC⟩
abbrev VA (w1 W : World) (b : Nat) (cs : Array Value) : Prop := W.heap[b]? = some (.cells cs 29 (0, 0)) ∧ w1.heap.size ≤ b
theorem va_keep {w1 W W' : World} {b : Nat} {cs : Array Value} (h : VA w1 W b cs) (hx : Below W.heap.size W W') : VA w1 W' b cs := ⟨by rw [hx.block b (Array.getElem?_eq_some_iff.1 h.1).1]; exact h.1, h.2⟩
theorem va_stay {w1 W W' : World} {b q : Nat} {cs : Array Value} (h : VA w1 W b cs) (hs : Stay W W' [q]) (hn : b ≠ q) : VA w1 W' b cs := ⟨by rw [hs.block b (Array.getElem?_eq_some_iff.1 h.1).1 (by simpa using hn)]; exact h.1, h.2⟩
theorem va_below {w1 W W' : World} {b : Nat} {cs : Array Value} (hb : Below w1.heap.size w1 W) (hs : Stay W W' [b]) (h : VA w1 W b cs) : Below w1.heap.size w1 W' :=
 hb.trans (hs.below (fun j hj => by rw [List.mem_singleton.1 hj]; exact h.2) hb.size)
theorem row_stay {w w' : World} {B b : Nat} {e : TypeId} {s : Nat} {a : Option Addr} {n cap : Nat} {cs : List Value} {zs : Array Value} (h : Dk.OwnR w B e s a n cap cs) (hs : Stay w w' [b]) (hb : w.heap[b]? = some (.cells zs 29 (0, 0))) (he : e ≠ 29) : Dk.OwnR w' B e s a n cap cs := by
 refine Dk.OwnR.stay h (⟨hs.os, hs.tape, hs.output, hs.size, hs.block⟩ : Dk.Stay w w' [b]) (fun k hk hm => ?_)
 obtain ⟨-, -, cur, h1⟩ := Dk.OwnR.lt h hk
 rw [List.mem_singleton.1 hm, hb] at h1
 injection h1 with h1
 injection h1 with _ h2
 exact he h2.symm
theorem Vl.stay {w w' : World} {B b : Nat} {d : VD} {va : Value} {zs : Array Value} (h : Vl w B d va) (hs : Stay w w' [b]) (hb : w.heap[b]? = some (.cells zs 29 (0, 0))) : Vl w' B d va := by
 cases d with
 | txt t => exact h
 | hsh es => obtain ⟨a, n, c, h1, h2⟩ := h; exact ⟨a, n, c, h1, row_stay h2 hs hb (by decide)⟩
 | set l => obtain ⟨a, n, c, h1, h2⟩ := h; exact ⟨a, n, c, h1, row_stay h2 hs hb (by decide)⟩
 | lst l => obtain ⟨a, n, c, h1, h2⟩ := h; exact ⟨a, n, c, h1, row_stay h2 hs hb (by decide)⟩
theorem cut_tail {goal : Prop} (A G : World → Nat → Nat → VD → VD → ByteArray → ByteArray → Option Addr → Option Addr → Option Addr → Option Addr → Nat → Nat → Nat → Nat → Nat → Nat → Nat → Nat → Prop) (tl : ∀ (v : World) (b9 b10 : Nat) (d1 d2 : VD) (t1 t2 : ByteArray) (a1 a1' a2 a2' : Option Addr) (n1 c1 n1' c1' n2 c2 n2' c2' : Nat), A v b9 b10 d1 d2 t1 t2 a1 a1' a2 a2' n1 c1 n1' c1' n2 c2 n2' c2' → G v b9 b10 d1 d2 t1 t2 a1 a1' a2 a2' n1 c1 n1' c1' n2 c2 n2' c2') (main : Hid (∀ (v : World) (b9 b10 : Nat) (d1 d2 : VD) (t1 t2 : ByteArray) (a1 a1' a2 a2' : Option Addr) (n1 c1 n1' c1' n2 c2 n2' c2' : Nat), A v b9 b10 d1 d2 t1 t2 a1 a1' a2 a2' n1 c1 n1' c1' n2 c2 n2' c2' → G v b9 b10 d1 d2 t1 t2 a1 a1' a2 a2' n1 c1 n1' c1' n2 c2 n2' c2') → goal) : goal := main tl
set_option maxRecDepth 100000 in
set_option maxHeartbeats 16000000 in
theorem sames_any (dv ev : Value) (xa xb : Nat) (w : World) (ha : xa < 18446744073709551616) (hb' : xb < 18446744073709551616) (hd : Drw w dv) (he : Drw w ev) :
  Calls Tryz.prog 4 #[dv, ev, .int .u64 xa, .int .u64 xb] w fun e w' => e = .returned (.bool true) ∧ Below w.heap.size w w' := by
 obtain ⟨k, t, pa, pn, pc, es, la, ln, lc, ls, rfl, h2, h3⟩ := hd
 obtain ⟨k', t', pa', pn', pc', es', la', ln', lc', ls', rfl, h2', h3'⟩ := he
 obtain ⟨w0, hw0⟩ : ∃ w0, w.alloc (.cells #[.int .i64 k, .string t, .slice pa pn pc, .slice la ln lc] 25) = w0 := ⟨_, rfl⟩
 obtain ⟨w1, hw1⟩ : ∃ w1, w0.alloc (.cells #[.int .i64 k', .string t', .slice pa' pn' pc', .slice la' ln' lc'] 25) = w1 := ⟨_, rfl⟩
 have hb0 : Below w.heap.size w w0 := by rw [← hw0]; exact alloc_below w _
 have hb1 : Below w0.heap.size w0 w1 := by rw [← hw1]; exact alloc_below w0 _
 have hl0 : w.heap.size < w0.heap.size := by rw [← hw0]; exact alloc_lt w _ _
 have hb : Below w.heap.size w w1 := hb0.trans (hb1.mono hb0.size)
 have HB1 : Hid (Below w.heap.size w w1) := hb
 have hl1 : w0.heap.size < w1.heap.size := by rw [← hw1]; exact alloc_lt w0 _ _
 have HCd : Hid (∀ wx, Below w1.heap.size w1 wx → wx.cell? ⟨w.heap.size, 0, none⟩ = some (.int .i64 k) ∧ wx.cell? ⟨w.heap.size, 1, none⟩ = some (.string t) ∧ wx.cell? ⟨w.heap.size, 2, none⟩ = some (.slice pa pn pc) ∧ wx.cell? ⟨w.heap.size, 3, none⟩ = some (.slice la ln lc) ∧ wx.cell? ⟨w0.heap.size, 0, none⟩ = some (.int .i64 k') ∧ wx.cell? ⟨w0.heap.size, 1, none⟩ = some (.string t') ∧ wx.cell? ⟨w0.heap.size, 2, none⟩ = some (.slice pa' pn' pc') ∧ wx.cell? ⟨w0.heap.size, 3, none⟩ = some (.slice la' ln' lc')) := fun wx hx => by
  have q1 : ∀ i u, (#[.int .i64 k, .string t, .slice pa pn pc, .slice la ln lc] : Array Value)[i]? = some u → wx.cell? ⟨w.heap.size, i, none⟩ = some u := fun i u hu => by
   rw [hx.cell (p := ⟨w.heap.size, i, none⟩) (Nat.lt_trans hl0 hl1), hb1.cell (p := ⟨w.heap.size, i, none⟩) hl0, ← hw0]; exact cell_new w _ _ i _ hu
  have q2 : ∀ i u, (#[.int .i64 k', .string t', .slice pa' pn' pc', .slice la' ln' lc'] : Array Value)[i]? = some u → wx.cell? ⟨w0.heap.size, i, none⟩ = some u := fun i u hu => by
   rw [hx.cell (p := ⟨w0.heap.size, i, none⟩) hl1, ← hw1]; exact cell_new w0 _ _ i _ hu
  exact ⟨q1 0 _ rfl, q1 1 _ rfl, q1 2 _ rfl, q1 3 _ rfl, q2 0 _ rfl, q2 1 _ rfl, q2 2 _ rfl, q2 3 _ rfl⟩
 have HPl1 : Hid (∀ wx, Below w1.heap.size w1 wx → Calls Tryz.prog 7 #[.agg #[.int .i64 k, .string t, .slice pa pn pc, .slice la ln lc]] wx fun e w' => PlainV wx w' e) := fun wx hx => plainV_any wx _ ⟨k, t, pa, pn, pc, es, la, ln, lc, ls, rfl, (h2.keep hb).keep hx, (h3.keep hb).keep hx⟩
 have HPl2 : Hid (∀ wx, Below w1.heap.size w1 wx → Calls Tryz.prog 7 #[.agg #[.int .i64 k', .string t', .slice pa' pn' pc', .slice la' ln' lc']] wx fun e w' => PlainV wx w' e) := fun wx hx => plainV_any wx _ ⟨k', t', pa', pn', pc', es', la', ln', lc', ls', rfl, (h2'.keep hb).keep hx, (h3'.keep hb).keep hx⟩
 have HB : Hid (Below w1.heap.size w1 w1.drew) := below_drewN w1 1
 clear hb0 hb1 hl0 hl1 hb h2 h3 h2' h3'
 go_enter Tryz.func4, Tryz.ntmps4
 go_upto_region 1 with fail
 go_cut [9, 10] from 14 to 17 (fun u9 u10 wx => ∃ (wy : World) (b9 b10 : Nat) (d1 d2 : VD) (t1 t2 : ByteArray) (a1 a1' a2 a2' : Option Addr) (n1 c1 n1' c1' n2 c2 n2' c2' : Nat), wy = wx ∧ u9 = ptr b9 ∧ u10 = ptr b10 ∧ Hid (wy.heap[b9]? = some (.cells #[.int .i64 (d1.kind : Nat), .string t1, .slice a1 n1 c1, .slice a1' n1' c1'] 29 (0, 0))) ∧ Hid (wy.heap[b10]? = some (.cells #[.int .i64 (d2.kind : Nat), .string t2, .slice a2 n2 c2, .slice a2' n2' c2'] 29 (0, 0))) ∧ Hid (Vl wy w1.heap.size d1 (.agg #[.int .i64 (d1.kind : Nat), .string t1, .slice a1 n1 c1, .slice a1' n1' c1'])) ∧ Hid (Vl wy w1.heap.size d2 (.agg #[.int .i64 (d2.kind : Nat), .string t2, .slice a2 n2 c2, .slice a2' n2' c2'])) ∧ Hid (d1.few ∧ d1.once) ∧ Hid (d2.few ∧ d2.once) ∧ Hid (Below w1.heap.size w1 wy))
 case first =>
  refine' cut_tail (fun v b9 b10 d1 d2 t1 t2 a1 a1' a2 a2' n1 c1 n1' c1' n2 c2 n2' c2' => Hid (VA w1 v b9 #[.int .i64 0, .string ⟨#[]⟩, .slice none 0 0, .slice none 0 0]) ∧ Hid (VA w1 v b10 #[.int .i64 0, .string ⟨#[]⟩, .slice none 0 0, .slice none 0 0]) ∧ Hid (Vl v w1.heap.size d1 (.agg #[.int .i64 (d1.kind : Nat), .string t1, .slice a1 n1 c1, .slice a1' n1' c1'])) ∧ Hid (Vl v w1.heap.size d2 (.agg #[.int .i64 (d2.kind : Nat), .string t2, .slice a2 n2 c2, .slice a2' n2' c2'])) ∧ Hid (d1.few ∧ d1.once) ∧ Hid (d2.few ∧ d2.once) ∧ Hid (b9 ≠ b10) ∧ Hid (Below w1.heap.size w1 v)) _ ?tl (fun tail => ?main)
  case main =>
   refine wp_region_held_drew (S := fun w' => w'.cell? ⟨w.heap.size, 0, none⟩ = some (.int .i64 k) ∧ w'.cell? ⟨w.heap.size, 1, none⟩ = some (.string t) ∧ w'.cell? ⟨w.heap.size, 2, none⟩ = some (.slice pa pn pc) ∧ w'.cell? ⟨w.heap.size, 3, none⟩ = some (.slice la ln lc) ∧ w'.cell? ⟨w0.heap.size, 0, none⟩ = some (.int .i64 k') ∧ w'.cell? ⟨w0.heap.size, 1, none⟩ = some (.string t') ∧ w'.cell? ⟨w0.heap.size, 2, none⟩ = some (.slice pa' pn' pc') ∧ w'.cell? ⟨w0.heap.size, 3, none⟩ = some (.slice la' ln' lc')) (by kernel_rfl) (HCd.out _ HB.out) (fun hHeld => ?_)
   refine wpAnyH_take (i := 0) (oi := ⟨some 14, .load 25 (.tmp 4), 25, "law.go:151", #[], none⟩) (v := ?_) rfl (by kernel_rfl) (by kernel_rfl) (by kernel_rfl) (fun _ _ _ h => h) (Or.inl ⟨by rfl, ?_⟩) (by assumption) ?_
   rotate_left
   ·(intro w hSw; (try dsimp only at hSw); go_simp; (try with_reducible rfl))
   try simp only [Act.put, List.setIfInBounds_toArray, List.set_cons_zero, List.set_cons_succ]
   refine wpAnyH_take (i := 2) (oi := ⟨some 16, .load 25 (.tmp 5), 25, "law.go:151", #[], none⟩) (v := ?_) rfl (by kernel_rfl) (by kernel_rfl) (by kernel_rfl) (fun _ _ _ h => h) (Or.inl ⟨by rfl, ?_⟩) (by assumption) ?_
   rotate_left
   ·(intro w hSw; (try dsimp only at hSw); go_simp; (try with_reducible rfl))
   try simp only [Act.put, List.setIfInBounds_toArray, List.set_cons_zero, List.set_cons_succ]
   obtain ⟨wz, hwz⟩ : ∃ wz, w1.drew = wz := ⟨_, rfl⟩
   rw [hwz] at HB
   (try rw [hwz])
   clear hwz
   refine wpAnyH_ready (rs := [1, 4, 5]) (by kernel_rfl) (by simp) ?_
   refine AllReadyH.cons (o := ⟨some 15, .call { callee := .value (.func 7), args := #[.tmp 14], argTypes := #[25] }, 29, "law.go:151", #[⟨0, .data⟩], none⟩) rfl (fun K hK => ?_) ?_
   ·go_simp
    refine (HPl1.out _ HB.out).mono ?_
    rintro en v1 ⟨hx, va, d1, rfl, hV, hf, hon⟩
    obtain ⟨t1, a1, n1, c1, a1', n1', c1', rfl⟩ := hV.shape
    have HV1 : Hid (Vl _ _ d1 _) := Vl.lower hV HB.out.size
    have HF1 : Hid (d1.few ∧ d1.once) := ⟨hf, hon⟩
    replace HB := step_below HB hx
    clear hx hV hf hon
    (try go_wp2_with fail)
    refine hK.out _ _ (HCd.out _ HB.out) ?_
    clear hK K hHeld
    intro hHeld
    try simp only [Act.put, List.setIfInBounds_toArray, List.set_cons_zero, List.set_cons_succ]
    refine wpAnyH_ready (rs := [3, 4, 5]) (by kernel_rfl) (by simp) ?_
    refine AllReadyH.cons (o := ⟨some 17, .call { callee := .value (.func 7), args := #[.tmp 16], argTypes := #[25] }, 29, "law.go:151", #[⟨2, .data⟩, ⟨1, .chain⟩], none⟩) rfl (fun K hK => ?_) ?_
    ·go_simp
     refine (HPl2.out _ HB.out).mono ?_
     rintro en v2 ⟨hx, va, d2, rfl, hV, hf, hon⟩
     obtain ⟨t2, a2, n2, c2, a2', n2', c2', rfl⟩ := hV.shape
     replace HV1 : Hid (Vl _ _ d1 _) := Vl.keep HV1.out hx
     have HV2 : Hid (Vl _ _ d2 _) := Vl.lower hV HB.out.size
     have HF2 : Hid (d2.few ∧ d2.once) := ⟨hf, hon⟩
     replace HB := step_below HB hx
     clear hx hV hf hon
     (try go_wp2_with fail)
     refine hK.out _ _ (HCd.out _ HB.out) ?_
     clear hK K hHeld
     intro hHeld
     try simp only [Act.put, List.setIfInBounds_toArray, List.set_cons_zero, List.set_cons_succ]
     refine wpAnyH_ready (rs := [4, 5]) (by kernel_rfl) (by simp) ?_
     refine AllReadyH.cons (o := ⟨some 9, .alloc 29, 0, "law.go:151", #[], none⟩) rfl (fun K hK => ?_) ?_
     ·obtain ⟨b9, hb9⟩ : ∃ b, v2.heap.size = b := ⟨_, rfl⟩
      obtain ⟨v3, hv3⟩ : ∃ v, v2.alloc (.cells #[.int .i64 0, .string ⟨#[]⟩, .slice none 0 0, .slice none 0 0] 29) = v := ⟨_, rfl⟩
      have hx : Below v2.heap.size v2 v3 := by rw [← hv3]; exact alloc_below v2 _
      have H9 : Hid (VA w1 v3 b9 _) := ⟨by rw [← hv3, ← hb9]; exact heap_alloc_new v2 _, by rw [← hb9]; exact HB.out.size⟩
      replace HV1 : Hid (Vl _ _ d1 _) := Vl.keep HV1.out hx
      replace HV2 : Hid (Vl _ _ d2 _) := Vl.keep HV2.out hx
      replace HB := step_below HB hx
      clear hx
      go_simp
      refine hK.out _ _ (HCd.out _ HB.out) ?_
      clear hK K hHeld
      intro hHeld
      try simp only [Act.put, List.setIfInBounds_toArray, List.set_cons_zero, List.set_cons_succ]
      (try rw [hb9])
      (try rw [hv3])
      refine wpAnyH_ready (rs := [5]) (by kernel_rfl) (by simp) ?_
      refine AllReadyH.cons (o := ⟨some 10, .alloc 29, 0, "law.go:151", #[], none⟩) rfl (fun K hK => ?_) ?_
      ·have HNBp := (Array.getElem?_eq_some_iff.1 H9.out.1).1
       obtain ⟨b10, hb10⟩ : ∃ b, v3.heap.size = b := ⟨_, rfl⟩
       obtain ⟨v4, hv4⟩ : ∃ v, v3.alloc (.cells #[.int .i64 0, .string ⟨#[]⟩, .slice none 0 0, .slice none 0 0] 29) = v := ⟨_, rfl⟩
       have hx : Below v3.heap.size v3 v4 := by rw [← hv4]; exact alloc_below v3 _
       have H10 : Hid (VA w1 v4 b10 _) := ⟨by rw [← hv4, ← hb10]; exact heap_alloc_new v3 _, by rw [← hb10]; exact HB.out.size⟩
       replace H9 : Hid (VA _ _ _ _) := va_keep H9.out hx
       replace HV1 : Hid (Vl _ _ d1 _) := Vl.keep HV1.out hx
       replace HV2 : Hid (Vl _ _ d2 _) := Vl.keep HV2.out hx
       have HNB : Hid (b9 ≠ b10) := by (show b9 ≠ b10; omega)
       clear HNBp
       replace HB := step_below HB hx
       clear hx
       go_simp
       refine hK.out _ _ (HCd.out _ HB.out) ?_
       clear hK K hHeld
       try simp only [Act.put, List.setIfInBounds_toArray, List.set_cons_zero, List.set_cons_succ]
       (try rw [hb10])
       (try rw [hv4])
       exact tail.out v4 b9 b10 d1 d2 t1 t2 a1 a1' a2 a2' n1 c1 n1' c1' n2 c2 n2' c2' ⟨H9, H10, HV1, HV2, HF1, HF2, HNB, HB⟩
      exact AllReadyH.nil
     refine AllReadyH.cons (o := ⟨some 10, .alloc 29, 0, "law.go:151", #[], none⟩) rfl (fun K hK => ?_) ?_
     ·obtain ⟨b10, hb10⟩ : ∃ b, v2.heap.size = b := ⟨_, rfl⟩
      obtain ⟨v7, hv7⟩ : ∃ v, v2.alloc (.cells #[.int .i64 0, .string ⟨#[]⟩, .slice none 0 0, .slice none 0 0] 29) = v := ⟨_, rfl⟩
      have hx : Below v2.heap.size v2 v7 := by rw [← hv7]; exact alloc_below v2 _
      have H10 : Hid (VA w1 v7 b10 _) := ⟨by rw [← hv7, ← hb10]; exact heap_alloc_new v2 _, by rw [← hb10]; exact HB.out.size⟩
      replace HV1 : Hid (Vl _ _ d1 _) := Vl.keep HV1.out hx
      replace HV2 : Hid (Vl _ _ d2 _) := Vl.keep HV2.out hx
      replace HB := step_below HB hx
      clear hx
      go_simp
      refine hK.out _ _ (HCd.out _ HB.out) ?_
      clear hK K hHeld
      intro hHeld
      try simp only [Act.put, List.setIfInBounds_toArray, List.set_cons_zero, List.set_cons_succ]
      (try rw [hb10])
      (try rw [hv7])
      refine wpAnyH_ready (rs := [4]) (by kernel_rfl) (by simp) ?_
      refine AllReadyH.cons (o := ⟨some 9, .alloc 29, 0, "law.go:151", #[], none⟩) rfl (fun K hK => ?_) ?_
      ·have HNBp := (Array.getElem?_eq_some_iff.1 H10.out.1).1
       obtain ⟨b9, hb9⟩ : ∃ b, v7.heap.size = b := ⟨_, rfl⟩
       obtain ⟨v8, hv8⟩ : ∃ v, v7.alloc (.cells #[.int .i64 0, .string ⟨#[]⟩, .slice none 0 0, .slice none 0 0] 29) = v := ⟨_, rfl⟩
       have hx : Below v7.heap.size v7 v8 := by rw [← hv8]; exact alloc_below v7 _
       have H9 : Hid (VA w1 v8 b9 _) := ⟨by rw [← hv8, ← hb9]; exact heap_alloc_new v7 _, by rw [← hb9]; exact HB.out.size⟩
       replace H10 : Hid (VA _ _ _ _) := va_keep H10.out hx
       replace HV1 : Hid (Vl _ _ d1 _) := Vl.keep HV1.out hx
       replace HV2 : Hid (Vl _ _ d2 _) := Vl.keep HV2.out hx
       have HNB : Hid (b9 ≠ b10) := by (show b9 ≠ b10; omega)
       clear HNBp
       replace HB := step_below HB hx
       clear hx
       go_simp
       refine hK.out _ _ (HCd.out _ HB.out) ?_
       clear hK K hHeld
       try simp only [Act.put, List.setIfInBounds_toArray, List.set_cons_zero, List.set_cons_succ]
       (try rw [hb9])
       (try rw [hv8])
       exact tail.out v8 b9 b10 d1 d2 t1 t2 a1 a1' a2 a2' n1 c1 n1' c1' n2 c2 n2' c2' ⟨H9, H10, HV1, HV2, HF1, HF2, HNB, HB⟩
      exact AllReadyH.nil
     exact AllReadyH.nil
    refine AllReadyH.cons (o := ⟨some 9, .alloc 29, 0, "law.go:151", #[], none⟩) rfl (fun K hK => ?_) ?_
    ·obtain ⟨b9, hb9⟩ : ∃ b, v1.heap.size = b := ⟨_, rfl⟩
     obtain ⟨v11, hv11⟩ : ∃ v, v1.alloc (.cells #[.int .i64 0, .string ⟨#[]⟩, .slice none 0 0, .slice none 0 0] 29) = v := ⟨_, rfl⟩
     have hx : Below v1.heap.size v1 v11 := by rw [← hv11]; exact alloc_below v1 _
     have H9 : Hid (VA w1 v11 b9 _) := ⟨by rw [← hv11, ← hb9]; exact heap_alloc_new v1 _, by rw [← hb9]; exact HB.out.size⟩
     replace HV1 : Hid (Vl _ _ d1 _) := Vl.keep HV1.out hx
     replace HB := step_below HB hx
     clear hx
     go_simp
     refine hK.out _ _ (HCd.out _ HB.out) ?_
     clear hK K hHeld
     intro hHeld
     try simp only [Act.put, List.setIfInBounds_toArray, List.set_cons_zero, List.set_cons_succ]
     (try rw [hb9])
     (try rw [hv11])
     refine wpAnyH_ready (rs := [3, 5]) (by kernel_rfl) (by simp) ?_
     refine AllReadyH.cons (o := ⟨some 17, .call { callee := .value (.func 7), args := #[.tmp 16], argTypes := #[25] }, 29, "law.go:151", #[⟨2, .data⟩, ⟨1, .chain⟩], none⟩) rfl (fun K hK => ?_) ?_
     ·go_simp
      refine (HPl2.out _ HB.out).mono ?_
      rintro en v12 ⟨hx, va, d2, rfl, hV, hf, hon⟩
      obtain ⟨t2, a2, n2, c2, a2', n2', c2', rfl⟩ := hV.shape
      replace H9 : Hid (VA _ _ _ _) := va_keep H9.out hx
      replace HV1 : Hid (Vl _ _ d1 _) := Vl.keep HV1.out hx
      have HV2 : Hid (Vl _ _ d2 _) := Vl.lower hV HB.out.size
      have HF2 : Hid (d2.few ∧ d2.once) := ⟨hf, hon⟩
      replace HB := step_below HB hx
      clear hx hV hf hon
      (try go_wp2_with fail)
      refine hK.out _ _ (HCd.out _ HB.out) ?_
      clear hK K hHeld
      intro hHeld
      try simp only [Act.put, List.setIfInBounds_toArray, List.set_cons_zero, List.set_cons_succ]
      refine wpAnyH_ready (rs := [5]) (by kernel_rfl) (by simp) ?_
      refine AllReadyH.cons (o := ⟨some 10, .alloc 29, 0, "law.go:151", #[], none⟩) rfl (fun K hK => ?_) ?_
      ·have HNBp := (Array.getElem?_eq_some_iff.1 H9.out.1).1
       obtain ⟨b10, hb10⟩ : ∃ b, v12.heap.size = b := ⟨_, rfl⟩
       obtain ⟨v13, hv13⟩ : ∃ v, v12.alloc (.cells #[.int .i64 0, .string ⟨#[]⟩, .slice none 0 0, .slice none 0 0] 29) = v := ⟨_, rfl⟩
       have hx : Below v12.heap.size v12 v13 := by rw [← hv13]; exact alloc_below v12 _
       have H10 : Hid (VA w1 v13 b10 _) := ⟨by rw [← hv13, ← hb10]; exact heap_alloc_new v12 _, by rw [← hb10]; exact HB.out.size⟩
       replace H9 : Hid (VA _ _ _ _) := va_keep H9.out hx
       replace HV1 : Hid (Vl _ _ d1 _) := Vl.keep HV1.out hx
       replace HV2 : Hid (Vl _ _ d2 _) := Vl.keep HV2.out hx
       have HNB : Hid (b9 ≠ b10) := by (show b9 ≠ b10; omega)
       clear HNBp
       replace HB := step_below HB hx
       clear hx
       go_simp
       refine hK.out _ _ (HCd.out _ HB.out) ?_
       clear hK K hHeld
       try simp only [Act.put, List.setIfInBounds_toArray, List.set_cons_zero, List.set_cons_succ]
       (try rw [hb10])
       (try rw [hv13])
       exact tail.out v13 b9 b10 d1 d2 t1 t2 a1 a1' a2 a2' n1 c1 n1' c1' n2 c2 n2' c2' ⟨H9, H10, HV1, HV2, HF1, HF2, HNB, HB⟩
      exact AllReadyH.nil
     refine AllReadyH.cons (o := ⟨some 10, .alloc 29, 0, "law.go:151", #[], none⟩) rfl (fun K hK => ?_) ?_
     ·have HNBp := (Array.getElem?_eq_some_iff.1 H9.out.1).1
      obtain ⟨b10, hb10⟩ : ∃ b, v11.heap.size = b := ⟨_, rfl⟩
      obtain ⟨v16, hv16⟩ : ∃ v, v11.alloc (.cells #[.int .i64 0, .string ⟨#[]⟩, .slice none 0 0, .slice none 0 0] 29) = v := ⟨_, rfl⟩
      have hx : Below v11.heap.size v11 v16 := by rw [← hv16]; exact alloc_below v11 _
      have H10 : Hid (VA w1 v16 b10 _) := ⟨by rw [← hv16, ← hb10]; exact heap_alloc_new v11 _, by rw [← hb10]; exact HB.out.size⟩
      replace H9 : Hid (VA _ _ _ _) := va_keep H9.out hx
      replace HV1 : Hid (Vl _ _ d1 _) := Vl.keep HV1.out hx
      have HNB : Hid (b9 ≠ b10) := by (show b9 ≠ b10; omega)
      clear HNBp
      replace HB := step_below HB hx
      clear hx
      go_simp
      refine hK.out _ _ (HCd.out _ HB.out) ?_
      clear hK K hHeld
      intro hHeld
      try simp only [Act.put, List.setIfInBounds_toArray, List.set_cons_zero, List.set_cons_succ]
      (try rw [hb10])
      (try rw [hv16])
      refine wpAnyH_ready (rs := [3]) (by kernel_rfl) (by simp) ?_
      refine AllReadyH.cons (o := ⟨some 17, .call { callee := .value (.func 7), args := #[.tmp 16], argTypes := #[25] }, 29, "law.go:151", #[⟨2, .data⟩, ⟨1, .chain⟩], none⟩) rfl (fun K hK => ?_) ?_
      ·go_simp
       refine (HPl2.out _ HB.out).mono ?_
       rintro en v17 ⟨hx, va, d2, rfl, hV, hf, hon⟩
       obtain ⟨t2, a2, n2, c2, a2', n2', c2', rfl⟩ := hV.shape
       replace H9 : Hid (VA _ _ _ _) := va_keep H9.out hx
       replace H10 : Hid (VA _ _ _ _) := va_keep H10.out hx
       replace HV1 : Hid (Vl _ _ d1 _) := Vl.keep HV1.out hx
       have HV2 : Hid (Vl _ _ d2 _) := Vl.lower hV HB.out.size
       have HF2 : Hid (d2.few ∧ d2.once) := ⟨hf, hon⟩
       replace HB := step_below HB hx
       clear hx hV hf hon
       (try go_wp2_with fail)
       refine hK.out _ _ (HCd.out _ HB.out) ?_
       clear hK K hHeld
       try simp only [Act.put, List.setIfInBounds_toArray, List.set_cons_zero, List.set_cons_succ]
       exact tail.out v17 b9 b10 d1 d2 t1 t2 a1 a1' a2 a2' n1 c1 n1' c1' n2 c2 n2' c2' ⟨H9, H10, HV1, HV2, HF1, HF2, HNB, HB⟩
      exact AllReadyH.nil
     exact AllReadyH.nil
    refine AllReadyH.cons (o := ⟨some 10, .alloc 29, 0, "law.go:151", #[], none⟩) rfl (fun K hK => ?_) ?_
    ·obtain ⟨b10, hb10⟩ : ∃ b, v1.heap.size = b := ⟨_, rfl⟩
     obtain ⟨v20, hv20⟩ : ∃ v, v1.alloc (.cells #[.int .i64 0, .string ⟨#[]⟩, .slice none 0 0, .slice none 0 0] 29) = v := ⟨_, rfl⟩
     have hx : Below v1.heap.size v1 v20 := by rw [← hv20]; exact alloc_below v1 _
     have H10 : Hid (VA w1 v20 b10 _) := ⟨by rw [← hv20, ← hb10]; exact heap_alloc_new v1 _, by rw [← hb10]; exact HB.out.size⟩
     replace HV1 : Hid (Vl _ _ d1 _) := Vl.keep HV1.out hx
     replace HB := step_below HB hx
     clear hx
     go_simp
     refine hK.out _ _ (HCd.out _ HB.out) ?_
     clear hK K hHeld
     intro hHeld
     try simp only [Act.put, List.setIfInBounds_toArray, List.set_cons_zero, List.set_cons_succ]
     (try rw [hb10])
     (try rw [hv20])
     refine wpAnyH_ready (rs := [3, 4]) (by kernel_rfl) (by simp) ?_
     refine AllReadyH.cons (o := ⟨some 17, .call { callee := .value (.func 7), args := #[.tmp 16], argTypes := #[25] }, 29, "law.go:151", #[⟨2, .data⟩, ⟨1, .chain⟩], none⟩) rfl (fun K hK => ?_) ?_
     ·go_simp
      refine (HPl2.out _ HB.out).mono ?_
      rintro en v21 ⟨hx, va, d2, rfl, hV, hf, hon⟩
      obtain ⟨t2, a2, n2, c2, a2', n2', c2', rfl⟩ := hV.shape
      replace H10 : Hid (VA _ _ _ _) := va_keep H10.out hx
      replace HV1 : Hid (Vl _ _ d1 _) := Vl.keep HV1.out hx
      have HV2 : Hid (Vl _ _ d2 _) := Vl.lower hV HB.out.size
      have HF2 : Hid (d2.few ∧ d2.once) := ⟨hf, hon⟩
      replace HB := step_below HB hx
      clear hx hV hf hon
      (try go_wp2_with fail)
      refine hK.out _ _ (HCd.out _ HB.out) ?_
      clear hK K hHeld
      intro hHeld
      try simp only [Act.put, List.setIfInBounds_toArray, List.set_cons_zero, List.set_cons_succ]
      refine wpAnyH_ready (rs := [4]) (by kernel_rfl) (by simp) ?_
      refine AllReadyH.cons (o := ⟨some 9, .alloc 29, 0, "law.go:151", #[], none⟩) rfl (fun K hK => ?_) ?_
      ·have HNBp := (Array.getElem?_eq_some_iff.1 H10.out.1).1
       obtain ⟨b9, hb9⟩ : ∃ b, v21.heap.size = b := ⟨_, rfl⟩
       obtain ⟨v22, hv22⟩ : ∃ v, v21.alloc (.cells #[.int .i64 0, .string ⟨#[]⟩, .slice none 0 0, .slice none 0 0] 29) = v := ⟨_, rfl⟩
       have hx : Below v21.heap.size v21 v22 := by rw [← hv22]; exact alloc_below v21 _
       have H9 : Hid (VA w1 v22 b9 _) := ⟨by rw [← hv22, ← hb9]; exact heap_alloc_new v21 _, by rw [← hb9]; exact HB.out.size⟩
       replace H10 : Hid (VA _ _ _ _) := va_keep H10.out hx
       replace HV1 : Hid (Vl _ _ d1 _) := Vl.keep HV1.out hx
       replace HV2 : Hid (Vl _ _ d2 _) := Vl.keep HV2.out hx
       have HNB : Hid (b9 ≠ b10) := by (show b9 ≠ b10; omega)
       clear HNBp
       replace HB := step_below HB hx
       clear hx
       go_simp
       refine hK.out _ _ (HCd.out _ HB.out) ?_
       clear hK K hHeld
       try simp only [Act.put, List.setIfInBounds_toArray, List.set_cons_zero, List.set_cons_succ]
       (try rw [hb9])
       (try rw [hv22])
       exact tail.out v22 b9 b10 d1 d2 t1 t2 a1 a1' a2 a2' n1 c1 n1' c1' n2 c2 n2' c2' ⟨H9, H10, HV1, HV2, HF1, HF2, HNB, HB⟩
      exact AllReadyH.nil
     refine AllReadyH.cons (o := ⟨some 9, .alloc 29, 0, "law.go:151", #[], none⟩) rfl (fun K hK => ?_) ?_
     ·have HNBp := (Array.getElem?_eq_some_iff.1 H10.out.1).1
      obtain ⟨b9, hb9⟩ : ∃ b, v20.heap.size = b := ⟨_, rfl⟩
      obtain ⟨v25, hv25⟩ : ∃ v, v20.alloc (.cells #[.int .i64 0, .string ⟨#[]⟩, .slice none 0 0, .slice none 0 0] 29) = v := ⟨_, rfl⟩
      have hx : Below v20.heap.size v20 v25 := by rw [← hv25]; exact alloc_below v20 _
      have H9 : Hid (VA w1 v25 b9 _) := ⟨by rw [← hv25, ← hb9]; exact heap_alloc_new v20 _, by rw [← hb9]; exact HB.out.size⟩
      replace H10 : Hid (VA _ _ _ _) := va_keep H10.out hx
      replace HV1 : Hid (Vl _ _ d1 _) := Vl.keep HV1.out hx
      have HNB : Hid (b9 ≠ b10) := by (show b9 ≠ b10; omega)
      clear HNBp
      replace HB := step_below HB hx
      clear hx
      go_simp
      refine hK.out _ _ (HCd.out _ HB.out) ?_
      clear hK K hHeld
      intro hHeld
      try simp only [Act.put, List.setIfInBounds_toArray, List.set_cons_zero, List.set_cons_succ]
      (try rw [hb9])
      (try rw [hv25])
      refine wpAnyH_ready (rs := [3]) (by kernel_rfl) (by simp) ?_
      refine AllReadyH.cons (o := ⟨some 17, .call { callee := .value (.func 7), args := #[.tmp 16], argTypes := #[25] }, 29, "law.go:151", #[⟨2, .data⟩, ⟨1, .chain⟩], none⟩) rfl (fun K hK => ?_) ?_
      ·go_simp
       refine (HPl2.out _ HB.out).mono ?_
       rintro en v26 ⟨hx, va, d2, rfl, hV, hf, hon⟩
       obtain ⟨t2, a2, n2, c2, a2', n2', c2', rfl⟩ := hV.shape
       replace H9 : Hid (VA _ _ _ _) := va_keep H9.out hx
       replace H10 : Hid (VA _ _ _ _) := va_keep H10.out hx
       replace HV1 : Hid (Vl _ _ d1 _) := Vl.keep HV1.out hx
       have HV2 : Hid (Vl _ _ d2 _) := Vl.lower hV HB.out.size
       have HF2 : Hid (d2.few ∧ d2.once) := ⟨hf, hon⟩
       replace HB := step_below HB hx
       clear hx hV hf hon
       (try go_wp2_with fail)
       refine hK.out _ _ (HCd.out _ HB.out) ?_
       clear hK K hHeld
       try simp only [Act.put, List.setIfInBounds_toArray, List.set_cons_zero, List.set_cons_succ]
       exact tail.out v26 b9 b10 d1 d2 t1 t2 a1 a1' a2 a2' n1 c1 n1' c1' n2 c2 n2' c2' ⟨H9, H10, HV1, HV2, HF1, HF2, HNB, HB⟩
      exact AllReadyH.nil
     exact AllReadyH.nil
    exact AllReadyH.nil
   refine AllReadyH.cons (o := ⟨some 9, .alloc 29, 0, "law.go:151", #[], none⟩) rfl (fun K hK => ?_) ?_
   ·obtain ⟨b9, hb9⟩ : ∃ b, wz.heap.size = b := ⟨_, rfl⟩
    obtain ⟨v29, hv29⟩ : ∃ v, wz.alloc (.cells #[.int .i64 0, .string ⟨#[]⟩, .slice none 0 0, .slice none 0 0] 29) = v := ⟨_, rfl⟩
    have hx : Below wz.heap.size wz v29 := by rw [← hv29]; exact alloc_below wz _
    have H9 : Hid (VA w1 v29 b9 _) := ⟨by rw [← hv29, ← hb9]; exact heap_alloc_new wz _, by rw [← hb9]; exact HB.out.size⟩
    replace HB := step_below HB hx
    clear hx
    go_simp
    refine hK.out _ _ (HCd.out _ HB.out) ?_
    clear hK K hHeld
    intro hHeld
    try simp only [Act.put, List.setIfInBounds_toArray, List.set_cons_zero, List.set_cons_succ]
    (try rw [hb9])
    (try rw [hv29])
    refine wpAnyH_ready (rs := [1, 5]) (by kernel_rfl) (by simp) ?_
    refine AllReadyH.cons (o := ⟨some 15, .call { callee := .value (.func 7), args := #[.tmp 14], argTypes := #[25] }, 29, "law.go:151", #[⟨0, .data⟩], none⟩) rfl (fun K hK => ?_) ?_
    ·go_simp
     refine (HPl1.out _ HB.out).mono ?_
     rintro en v30 ⟨hx, va, d1, rfl, hV, hf, hon⟩
     obtain ⟨t1, a1, n1, c1, a1', n1', c1', rfl⟩ := hV.shape
     replace H9 : Hid (VA _ _ _ _) := va_keep H9.out hx
     have HV1 : Hid (Vl _ _ d1 _) := Vl.lower hV HB.out.size
     have HF1 : Hid (d1.few ∧ d1.once) := ⟨hf, hon⟩
     replace HB := step_below HB hx
     clear hx hV hf hon
     (try go_wp2_with fail)
     refine hK.out _ _ (HCd.out _ HB.out) ?_
     clear hK K hHeld
     intro hHeld
     try simp only [Act.put, List.setIfInBounds_toArray, List.set_cons_zero, List.set_cons_succ]
     refine wpAnyH_ready (rs := [3, 5]) (by kernel_rfl) (by simp) ?_
     refine AllReadyH.cons (o := ⟨some 17, .call { callee := .value (.func 7), args := #[.tmp 16], argTypes := #[25] }, 29, "law.go:151", #[⟨2, .data⟩, ⟨1, .chain⟩], none⟩) rfl (fun K hK => ?_) ?_
     ·go_simp
      refine (HPl2.out _ HB.out).mono ?_
      rintro en v31 ⟨hx, va, d2, rfl, hV, hf, hon⟩
      obtain ⟨t2, a2, n2, c2, a2', n2', c2', rfl⟩ := hV.shape
      replace H9 : Hid (VA _ _ _ _) := va_keep H9.out hx
      replace HV1 : Hid (Vl _ _ d1 _) := Vl.keep HV1.out hx
      have HV2 : Hid (Vl _ _ d2 _) := Vl.lower hV HB.out.size
      have HF2 : Hid (d2.few ∧ d2.once) := ⟨hf, hon⟩
      replace HB := step_below HB hx
      clear hx hV hf hon
      (try go_wp2_with fail)
      refine hK.out _ _ (HCd.out _ HB.out) ?_
      clear hK K hHeld
      intro hHeld
      try simp only [Act.put, List.setIfInBounds_toArray, List.set_cons_zero, List.set_cons_succ]
      refine wpAnyH_ready (rs := [5]) (by kernel_rfl) (by simp) ?_
      refine AllReadyH.cons (o := ⟨some 10, .alloc 29, 0, "law.go:151", #[], none⟩) rfl (fun K hK => ?_) ?_
      ·have HNBp := (Array.getElem?_eq_some_iff.1 H9.out.1).1
       obtain ⟨b10, hb10⟩ : ∃ b, v31.heap.size = b := ⟨_, rfl⟩
       obtain ⟨v32, hv32⟩ : ∃ v, v31.alloc (.cells #[.int .i64 0, .string ⟨#[]⟩, .slice none 0 0, .slice none 0 0] 29) = v := ⟨_, rfl⟩
       have hx : Below v31.heap.size v31 v32 := by rw [← hv32]; exact alloc_below v31 _
       have H10 : Hid (VA w1 v32 b10 _) := ⟨by rw [← hv32, ← hb10]; exact heap_alloc_new v31 _, by rw [← hb10]; exact HB.out.size⟩
       replace H9 : Hid (VA _ _ _ _) := va_keep H9.out hx
       replace HV1 : Hid (Vl _ _ d1 _) := Vl.keep HV1.out hx
       replace HV2 : Hid (Vl _ _ d2 _) := Vl.keep HV2.out hx
       have HNB : Hid (b9 ≠ b10) := by (show b9 ≠ b10; omega)
       clear HNBp
       replace HB := step_below HB hx
       clear hx
       go_simp
       refine hK.out _ _ (HCd.out _ HB.out) ?_
       clear hK K hHeld
       try simp only [Act.put, List.setIfInBounds_toArray, List.set_cons_zero, List.set_cons_succ]
       (try rw [hb10])
       (try rw [hv32])
       exact tail.out v32 b9 b10 d1 d2 t1 t2 a1 a1' a2 a2' n1 c1 n1' c1' n2 c2 n2' c2' ⟨H9, H10, HV1, HV2, HF1, HF2, HNB, HB⟩
      exact AllReadyH.nil
     refine AllReadyH.cons (o := ⟨some 10, .alloc 29, 0, "law.go:151", #[], none⟩) rfl (fun K hK => ?_) ?_
     ·have HNBp := (Array.getElem?_eq_some_iff.1 H9.out.1).1
      obtain ⟨b10, hb10⟩ : ∃ b, v30.heap.size = b := ⟨_, rfl⟩
      obtain ⟨v35, hv35⟩ : ∃ v, v30.alloc (.cells #[.int .i64 0, .string ⟨#[]⟩, .slice none 0 0, .slice none 0 0] 29) = v := ⟨_, rfl⟩
      have hx : Below v30.heap.size v30 v35 := by rw [← hv35]; exact alloc_below v30 _
      have H10 : Hid (VA w1 v35 b10 _) := ⟨by rw [← hv35, ← hb10]; exact heap_alloc_new v30 _, by rw [← hb10]; exact HB.out.size⟩
      replace H9 : Hid (VA _ _ _ _) := va_keep H9.out hx
      replace HV1 : Hid (Vl _ _ d1 _) := Vl.keep HV1.out hx
      have HNB : Hid (b9 ≠ b10) := by (show b9 ≠ b10; omega)
      clear HNBp
      replace HB := step_below HB hx
      clear hx
      go_simp
      refine hK.out _ _ (HCd.out _ HB.out) ?_
      clear hK K hHeld
      intro hHeld
      try simp only [Act.put, List.setIfInBounds_toArray, List.set_cons_zero, List.set_cons_succ]
      (try rw [hb10])
      (try rw [hv35])
      refine wpAnyH_ready (rs := [3]) (by kernel_rfl) (by simp) ?_
      refine AllReadyH.cons (o := ⟨some 17, .call { callee := .value (.func 7), args := #[.tmp 16], argTypes := #[25] }, 29, "law.go:151", #[⟨2, .data⟩, ⟨1, .chain⟩], none⟩) rfl (fun K hK => ?_) ?_
      ·go_simp
       refine (HPl2.out _ HB.out).mono ?_
       rintro en v36 ⟨hx, va, d2, rfl, hV, hf, hon⟩
       obtain ⟨t2, a2, n2, c2, a2', n2', c2', rfl⟩ := hV.shape
       replace H9 : Hid (VA _ _ _ _) := va_keep H9.out hx
       replace H10 : Hid (VA _ _ _ _) := va_keep H10.out hx
       replace HV1 : Hid (Vl _ _ d1 _) := Vl.keep HV1.out hx
       have HV2 : Hid (Vl _ _ d2 _) := Vl.lower hV HB.out.size
       have HF2 : Hid (d2.few ∧ d2.once) := ⟨hf, hon⟩
       replace HB := step_below HB hx
       clear hx hV hf hon
       (try go_wp2_with fail)
       refine hK.out _ _ (HCd.out _ HB.out) ?_
       clear hK K hHeld
       try simp only [Act.put, List.setIfInBounds_toArray, List.set_cons_zero, List.set_cons_succ]
       exact tail.out v36 b9 b10 d1 d2 t1 t2 a1 a1' a2 a2' n1 c1 n1' c1' n2 c2 n2' c2' ⟨H9, H10, HV1, HV2, HF1, HF2, HNB, HB⟩
      exact AllReadyH.nil
     exact AllReadyH.nil
    refine AllReadyH.cons (o := ⟨some 10, .alloc 29, 0, "law.go:151", #[], none⟩) rfl (fun K hK => ?_) ?_
    ·have HNBp := (Array.getElem?_eq_some_iff.1 H9.out.1).1
     obtain ⟨b10, hb10⟩ : ∃ b, v29.heap.size = b := ⟨_, rfl⟩
     obtain ⟨v39, hv39⟩ : ∃ v, v29.alloc (.cells #[.int .i64 0, .string ⟨#[]⟩, .slice none 0 0, .slice none 0 0] 29) = v := ⟨_, rfl⟩
     have hx : Below v29.heap.size v29 v39 := by rw [← hv39]; exact alloc_below v29 _
     have H10 : Hid (VA w1 v39 b10 _) := ⟨by rw [← hv39, ← hb10]; exact heap_alloc_new v29 _, by rw [← hb10]; exact HB.out.size⟩
     replace H9 : Hid (VA _ _ _ _) := va_keep H9.out hx
     have HNB : Hid (b9 ≠ b10) := by (show b9 ≠ b10; omega)
     clear HNBp
     replace HB := step_below HB hx
     clear hx
     go_simp
     refine hK.out _ _ (HCd.out _ HB.out) ?_
     clear hK K hHeld
     intro hHeld
     try simp only [Act.put, List.setIfInBounds_toArray, List.set_cons_zero, List.set_cons_succ]
     (try rw [hb10])
     (try rw [hv39])
     refine wpAnyH_ready (rs := [1]) (by kernel_rfl) (by simp) ?_
     refine AllReadyH.cons (o := ⟨some 15, .call { callee := .value (.func 7), args := #[.tmp 14], argTypes := #[25] }, 29, "law.go:151", #[⟨0, .data⟩], none⟩) rfl (fun K hK => ?_) ?_
     ·go_simp
      refine (HPl1.out _ HB.out).mono ?_
      rintro en v40 ⟨hx, va, d1, rfl, hV, hf, hon⟩
      obtain ⟨t1, a1, n1, c1, a1', n1', c1', rfl⟩ := hV.shape
      replace H9 : Hid (VA _ _ _ _) := va_keep H9.out hx
      replace H10 : Hid (VA _ _ _ _) := va_keep H10.out hx
      have HV1 : Hid (Vl _ _ d1 _) := Vl.lower hV HB.out.size
      have HF1 : Hid (d1.few ∧ d1.once) := ⟨hf, hon⟩
      replace HB := step_below HB hx
      clear hx hV hf hon
      (try go_wp2_with fail)
      refine hK.out _ _ (HCd.out _ HB.out) ?_
      clear hK K hHeld
      intro hHeld
      try simp only [Act.put, List.setIfInBounds_toArray, List.set_cons_zero, List.set_cons_succ]
      refine wpAnyH_ready (rs := [3]) (by kernel_rfl) (by simp) ?_
      refine AllReadyH.cons (o := ⟨some 17, .call { callee := .value (.func 7), args := #[.tmp 16], argTypes := #[25] }, 29, "law.go:151", #[⟨2, .data⟩, ⟨1, .chain⟩], none⟩) rfl (fun K hK => ?_) ?_
      ·go_simp
       refine (HPl2.out _ HB.out).mono ?_
       rintro en v41 ⟨hx, va, d2, rfl, hV, hf, hon⟩
       obtain ⟨t2, a2, n2, c2, a2', n2', c2', rfl⟩ := hV.shape
       replace H9 : Hid (VA _ _ _ _) := va_keep H9.out hx
       replace H10 : Hid (VA _ _ _ _) := va_keep H10.out hx
       replace HV1 : Hid (Vl _ _ d1 _) := Vl.keep HV1.out hx
       have HV2 : Hid (Vl _ _ d2 _) := Vl.lower hV HB.out.size
       have HF2 : Hid (d2.few ∧ d2.once) := ⟨hf, hon⟩
       replace HB := step_below HB hx
       clear hx hV hf hon
       (try go_wp2_with fail)
       refine hK.out _ _ (HCd.out _ HB.out) ?_
       clear hK K hHeld
       try simp only [Act.put, List.setIfInBounds_toArray, List.set_cons_zero, List.set_cons_succ]
       exact tail.out v41 b9 b10 d1 d2 t1 t2 a1 a1' a2 a2' n1 c1 n1' c1' n2 c2 n2' c2' ⟨H9, H10, HV1, HV2, HF1, HF2, HNB, HB⟩
      exact AllReadyH.nil
     exact AllReadyH.nil
    exact AllReadyH.nil
   refine AllReadyH.cons (o := ⟨some 10, .alloc 29, 0, "law.go:151", #[], none⟩) rfl (fun K hK => ?_) ?_
   ·obtain ⟨b10, hb10⟩ : ∃ b, wz.heap.size = b := ⟨_, rfl⟩
    obtain ⟨v44, hv44⟩ : ∃ v, wz.alloc (.cells #[.int .i64 0, .string ⟨#[]⟩, .slice none 0 0, .slice none 0 0] 29) = v := ⟨_, rfl⟩
    have hx : Below wz.heap.size wz v44 := by rw [← hv44]; exact alloc_below wz _
    have H10 : Hid (VA w1 v44 b10 _) := ⟨by rw [← hv44, ← hb10]; exact heap_alloc_new wz _, by rw [← hb10]; exact HB.out.size⟩
    replace HB := step_below HB hx
    clear hx
    go_simp
    refine hK.out _ _ (HCd.out _ HB.out) ?_
    clear hK K hHeld
    intro hHeld
    try simp only [Act.put, List.setIfInBounds_toArray, List.set_cons_zero, List.set_cons_succ]
    (try rw [hb10])
    (try rw [hv44])
    refine wpAnyH_ready (rs := [1, 4]) (by kernel_rfl) (by simp) ?_
    refine AllReadyH.cons (o := ⟨some 15, .call { callee := .value (.func 7), args := #[.tmp 14], argTypes := #[25] }, 29, "law.go:151", #[⟨0, .data⟩], none⟩) rfl (fun K hK => ?_) ?_
    ·go_simp
     refine (HPl1.out _ HB.out).mono ?_
     rintro en v45 ⟨hx, va, d1, rfl, hV, hf, hon⟩
     obtain ⟨t1, a1, n1, c1, a1', n1', c1', rfl⟩ := hV.shape
     replace H10 : Hid (VA _ _ _ _) := va_keep H10.out hx
     have HV1 : Hid (Vl _ _ d1 _) := Vl.lower hV HB.out.size
     have HF1 : Hid (d1.few ∧ d1.once) := ⟨hf, hon⟩
     replace HB := step_below HB hx
     clear hx hV hf hon
     (try go_wp2_with fail)
     refine hK.out _ _ (HCd.out _ HB.out) ?_
     clear hK K hHeld
     intro hHeld
     try simp only [Act.put, List.setIfInBounds_toArray, List.set_cons_zero, List.set_cons_succ]
     refine wpAnyH_ready (rs := [3, 4]) (by kernel_rfl) (by simp) ?_
     refine AllReadyH.cons (o := ⟨some 17, .call { callee := .value (.func 7), args := #[.tmp 16], argTypes := #[25] }, 29, "law.go:151", #[⟨2, .data⟩, ⟨1, .chain⟩], none⟩) rfl (fun K hK => ?_) ?_
     ·go_simp
      refine (HPl2.out _ HB.out).mono ?_
      rintro en v46 ⟨hx, va, d2, rfl, hV, hf, hon⟩
      obtain ⟨t2, a2, n2, c2, a2', n2', c2', rfl⟩ := hV.shape
      replace H10 : Hid (VA _ _ _ _) := va_keep H10.out hx
      replace HV1 : Hid (Vl _ _ d1 _) := Vl.keep HV1.out hx
      have HV2 : Hid (Vl _ _ d2 _) := Vl.lower hV HB.out.size
      have HF2 : Hid (d2.few ∧ d2.once) := ⟨hf, hon⟩
      replace HB := step_below HB hx
      clear hx hV hf hon
      (try go_wp2_with fail)
      refine hK.out _ _ (HCd.out _ HB.out) ?_
      clear hK K hHeld
      intro hHeld
      try simp only [Act.put, List.setIfInBounds_toArray, List.set_cons_zero, List.set_cons_succ]
      refine wpAnyH_ready (rs := [4]) (by kernel_rfl) (by simp) ?_
      refine AllReadyH.cons (o := ⟨some 9, .alloc 29, 0, "law.go:151", #[], none⟩) rfl (fun K hK => ?_) ?_
      ·have HNBp := (Array.getElem?_eq_some_iff.1 H10.out.1).1
       obtain ⟨b9, hb9⟩ : ∃ b, v46.heap.size = b := ⟨_, rfl⟩
       obtain ⟨v47, hv47⟩ : ∃ v, v46.alloc (.cells #[.int .i64 0, .string ⟨#[]⟩, .slice none 0 0, .slice none 0 0] 29) = v := ⟨_, rfl⟩
       have hx : Below v46.heap.size v46 v47 := by rw [← hv47]; exact alloc_below v46 _
       have H9 : Hid (VA w1 v47 b9 _) := ⟨by rw [← hv47, ← hb9]; exact heap_alloc_new v46 _, by rw [← hb9]; exact HB.out.size⟩
       replace H10 : Hid (VA _ _ _ _) := va_keep H10.out hx
       replace HV1 : Hid (Vl _ _ d1 _) := Vl.keep HV1.out hx
       replace HV2 : Hid (Vl _ _ d2 _) := Vl.keep HV2.out hx
       have HNB : Hid (b9 ≠ b10) := by (show b9 ≠ b10; omega)
       clear HNBp
       replace HB := step_below HB hx
       clear hx
       go_simp
       refine hK.out _ _ (HCd.out _ HB.out) ?_
       clear hK K hHeld
       try simp only [Act.put, List.setIfInBounds_toArray, List.set_cons_zero, List.set_cons_succ]
       (try rw [hb9])
       (try rw [hv47])
       exact tail.out v47 b9 b10 d1 d2 t1 t2 a1 a1' a2 a2' n1 c1 n1' c1' n2 c2 n2' c2' ⟨H9, H10, HV1, HV2, HF1, HF2, HNB, HB⟩
      exact AllReadyH.nil
     refine AllReadyH.cons (o := ⟨some 9, .alloc 29, 0, "law.go:151", #[], none⟩) rfl (fun K hK => ?_) ?_
     ·have HNBp := (Array.getElem?_eq_some_iff.1 H10.out.1).1
      obtain ⟨b9, hb9⟩ : ∃ b, v45.heap.size = b := ⟨_, rfl⟩
      obtain ⟨v50, hv50⟩ : ∃ v, v45.alloc (.cells #[.int .i64 0, .string ⟨#[]⟩, .slice none 0 0, .slice none 0 0] 29) = v := ⟨_, rfl⟩
      have hx : Below v45.heap.size v45 v50 := by rw [← hv50]; exact alloc_below v45 _
      have H9 : Hid (VA w1 v50 b9 _) := ⟨by rw [← hv50, ← hb9]; exact heap_alloc_new v45 _, by rw [← hb9]; exact HB.out.size⟩
      replace H10 : Hid (VA _ _ _ _) := va_keep H10.out hx
      replace HV1 : Hid (Vl _ _ d1 _) := Vl.keep HV1.out hx
      have HNB : Hid (b9 ≠ b10) := by (show b9 ≠ b10; omega)
      clear HNBp
      replace HB := step_below HB hx
      clear hx
      go_simp
      refine hK.out _ _ (HCd.out _ HB.out) ?_
      clear hK K hHeld
      intro hHeld
      try simp only [Act.put, List.setIfInBounds_toArray, List.set_cons_zero, List.set_cons_succ]
      (try rw [hb9])
      (try rw [hv50])
      refine wpAnyH_ready (rs := [3]) (by kernel_rfl) (by simp) ?_
      refine AllReadyH.cons (o := ⟨some 17, .call { callee := .value (.func 7), args := #[.tmp 16], argTypes := #[25] }, 29, "law.go:151", #[⟨2, .data⟩, ⟨1, .chain⟩], none⟩) rfl (fun K hK => ?_) ?_
      ·go_simp
       refine (HPl2.out _ HB.out).mono ?_
       rintro en v51 ⟨hx, va, d2, rfl, hV, hf, hon⟩
       obtain ⟨t2, a2, n2, c2, a2', n2', c2', rfl⟩ := hV.shape
       replace H9 : Hid (VA _ _ _ _) := va_keep H9.out hx
       replace H10 : Hid (VA _ _ _ _) := va_keep H10.out hx
       replace HV1 : Hid (Vl _ _ d1 _) := Vl.keep HV1.out hx
       have HV2 : Hid (Vl _ _ d2 _) := Vl.lower hV HB.out.size
       have HF2 : Hid (d2.few ∧ d2.once) := ⟨hf, hon⟩
       replace HB := step_below HB hx
       clear hx hV hf hon
       (try go_wp2_with fail)
       refine hK.out _ _ (HCd.out _ HB.out) ?_
       clear hK K hHeld
       try simp only [Act.put, List.setIfInBounds_toArray, List.set_cons_zero, List.set_cons_succ]
       exact tail.out v51 b9 b10 d1 d2 t1 t2 a1 a1' a2 a2' n1 c1 n1' c1' n2 c2 n2' c2' ⟨H9, H10, HV1, HV2, HF1, HF2, HNB, HB⟩
      exact AllReadyH.nil
     exact AllReadyH.nil
    refine AllReadyH.cons (o := ⟨some 9, .alloc 29, 0, "law.go:151", #[], none⟩) rfl (fun K hK => ?_) ?_
    ·have HNBp := (Array.getElem?_eq_some_iff.1 H10.out.1).1
     obtain ⟨b9, hb9⟩ : ∃ b, v44.heap.size = b := ⟨_, rfl⟩
     obtain ⟨v54, hv54⟩ : ∃ v, v44.alloc (.cells #[.int .i64 0, .string ⟨#[]⟩, .slice none 0 0, .slice none 0 0] 29) = v := ⟨_, rfl⟩
     have hx : Below v44.heap.size v44 v54 := by rw [← hv54]; exact alloc_below v44 _
     have H9 : Hid (VA w1 v54 b9 _) := ⟨by rw [← hv54, ← hb9]; exact heap_alloc_new v44 _, by rw [← hb9]; exact HB.out.size⟩
     replace H10 : Hid (VA _ _ _ _) := va_keep H10.out hx
     have HNB : Hid (b9 ≠ b10) := by (show b9 ≠ b10; omega)
     clear HNBp
     replace HB := step_below HB hx
     clear hx
     go_simp
     refine hK.out _ _ (HCd.out _ HB.out) ?_
     clear hK K hHeld
     intro hHeld
     try simp only [Act.put, List.setIfInBounds_toArray, List.set_cons_zero, List.set_cons_succ]
     (try rw [hb9])
     (try rw [hv54])
     refine wpAnyH_ready (rs := [1]) (by kernel_rfl) (by simp) ?_
     refine AllReadyH.cons (o := ⟨some 15, .call { callee := .value (.func 7), args := #[.tmp 14], argTypes := #[25] }, 29, "law.go:151", #[⟨0, .data⟩], none⟩) rfl (fun K hK => ?_) ?_
     ·go_simp
      refine (HPl1.out _ HB.out).mono ?_
      rintro en v55 ⟨hx, va, d1, rfl, hV, hf, hon⟩
      obtain ⟨t1, a1, n1, c1, a1', n1', c1', rfl⟩ := hV.shape
      replace H9 : Hid (VA _ _ _ _) := va_keep H9.out hx
      replace H10 : Hid (VA _ _ _ _) := va_keep H10.out hx
      have HV1 : Hid (Vl _ _ d1 _) := Vl.lower hV HB.out.size
      have HF1 : Hid (d1.few ∧ d1.once) := ⟨hf, hon⟩
      replace HB := step_below HB hx
      clear hx hV hf hon
      (try go_wp2_with fail)
      refine hK.out _ _ (HCd.out _ HB.out) ?_
      clear hK K hHeld
      intro hHeld
      try simp only [Act.put, List.setIfInBounds_toArray, List.set_cons_zero, List.set_cons_succ]
      refine wpAnyH_ready (rs := [3]) (by kernel_rfl) (by simp) ?_
      refine AllReadyH.cons (o := ⟨some 17, .call { callee := .value (.func 7), args := #[.tmp 16], argTypes := #[25] }, 29, "law.go:151", #[⟨2, .data⟩, ⟨1, .chain⟩], none⟩) rfl (fun K hK => ?_) ?_
      ·go_simp
       refine (HPl2.out _ HB.out).mono ?_
       rintro en v56 ⟨hx, va, d2, rfl, hV, hf, hon⟩
       obtain ⟨t2, a2, n2, c2, a2', n2', c2', rfl⟩ := hV.shape
       replace H9 : Hid (VA _ _ _ _) := va_keep H9.out hx
       replace H10 : Hid (VA _ _ _ _) := va_keep H10.out hx
       replace HV1 : Hid (Vl _ _ d1 _) := Vl.keep HV1.out hx
       have HV2 : Hid (Vl _ _ d2 _) := Vl.lower hV HB.out.size
       have HF2 : Hid (d2.few ∧ d2.once) := ⟨hf, hon⟩
       replace HB := step_below HB hx
       clear hx hV hf hon
       (try go_wp2_with fail)
       refine hK.out _ _ (HCd.out _ HB.out) ?_
       clear hK K hHeld
       try simp only [Act.put, List.setIfInBounds_toArray, List.set_cons_zero, List.set_cons_succ]
       exact tail.out v56 b9 b10 d1 d2 t1 t2 a1 a1' a2 a2' n1 c1 n1' c1' n2 c2 n2' c2' ⟨H9, H10, HV1, HV2, HF1, HF2, HNB, HB⟩
      exact AllReadyH.nil
     exact AllReadyH.nil
    exact AllReadyH.nil
   exact AllReadyH.nil
  case tl =>
   rintro v4 b9 b10 d1 d2 t1 t2 a1 a1' a2 a2' n1 c1 n1' c1' n2 c2 n2' c2' ⟨H9, H10, HV1, HV2, HF1, HF2, HNB, HB⟩ hHeld
   refine wpAnyH_ready (rs := [6]) (by kernel_rfl) (by simp) ?_
   refine AllReadyH.cons (o := ⟨none, .store 29 (.tmp 9) (.tmp 15), 0, "law.go:151", #[⟨4, .data⟩, ⟨1, .data⟩, ⟨3, .chain⟩, ⟨0, .phase⟩, ⟨1, .phase⟩, { on := 2, ground := Go.Ground.textOnly Go.Departure.lateStores }, { on := 3, ground := Go.Ground.textOnly Go.Departure.lateStoresUnsure }, ⟨4, .phase⟩, ⟨5, .phase⟩], none⟩) rfl (fun K hK => ?_) ?_
   ·obtain ⟨e0, e1, e2, e3, ef⟩ := val_cells H9.out.1
    have ef0 := ef 0
    have ef1 := ef 1
    have ef2 := ef 2
    have ef3 := ef 3
    obtain ⟨v5, hv5⟩ : ∃ v, ((((v4.setCell ⟨b9, 0, none⟩ (.int .i64 (d1.kind : Nat))).setCell ⟨b9, 1, none⟩ (.string t1)).setCell ⟨b9, 2, none⟩ (.slice a1 n1 c1)).setCell ⟨b9, 3, none⟩ (.slice a1' n1' c1')) = v := ⟨_, rfl⟩
    have hs : Stay v4 v5 [b9] := by rw [← hv5]; exact stay_last v4 b9 _ _ _ _
    have hnb : b10 ≠ b9 := HNB.out.symm
    have hn : Hid (VA w1 v5 b9 _) := ⟨by rw [← hv5]; exact heap_last H9.out.1 _ _ _ _, H9.out.2⟩
    replace H10 : Hid (VA _ _ _ _) := va_stay H10.out hs hnb
    replace HV1 : Hid (Vl _ _ d1 _) := Vl.stay HV1.out hs H9.out.1
    replace HV2 : Hid (Vl _ _ d2 _) := Vl.stay HV2.out hs H9.out.1
    have HB0 := HB
    replace HB : Hid (Below _ _ _) := va_below HB0.out hs H9.out
    replace H9 := hn
    clear HB0 hn hs hnb ef
    go_simp
    refine hK.out _ _ (HCd.out _ HB.out) ?_
    clear hK K hHeld e0 e1 e2 e3 ef0 ef1 ef2 ef3
    intro hHeld
    try simp only [Act.put, List.setIfInBounds_toArray, List.set_cons_zero, List.set_cons_succ]
    (try rw [hv5])
    refine wpAnyH_ready (rs := [7]) (by kernel_rfl) (by simp) ?_
    refine AllReadyH.cons (o := ⟨none, .store 29 (.tmp 10) (.tmp 17), 0, "law.go:151", #[⟨5, .data⟩, ⟨3, .data⟩, ⟨6, .chain⟩, ⟨0, .phase⟩, ⟨1, .phase⟩, ⟨2, .phase⟩, ⟨3, .phase⟩, ⟨4, .phase⟩, ⟨5, .phase⟩, ⟨6, .phase⟩], none⟩) rfl (fun K hK => ?_) ?_
    ·obtain ⟨e0, e1, e2, e3, ef⟩ := val_cells H10.out.1
     have ef0 := ef 0
     have ef1 := ef 1
     have ef2 := ef 2
     have ef3 := ef 3
     obtain ⟨v6, hv6⟩ : ∃ v, ((((v5.setCell ⟨b10, 0, none⟩ (.int .i64 (d2.kind : Nat))).setCell ⟨b10, 1, none⟩ (.string t2)).setCell ⟨b10, 2, none⟩ (.slice a2 n2 c2)).setCell ⟨b10, 3, none⟩ (.slice a2' n2' c2')) = v := ⟨_, rfl⟩
     have hs : Stay v5 v6 [b10] := by rw [← hv6]; exact stay_last v5 b10 _ _ _ _
     have hnb : b9 ≠ b10 := HNB.out
     have hn : Hid (VA w1 v6 b10 _) := ⟨by rw [← hv6]; exact heap_last H10.out.1 _ _ _ _, H10.out.2⟩
     replace H9 : Hid (VA _ _ _ _) := va_stay H9.out hs hnb
     replace HV1 : Hid (Vl _ _ d1 _) := Vl.stay HV1.out hs H10.out.1
     replace HV2 : Hid (Vl _ _ d2 _) := Vl.stay HV2.out hs H10.out.1
     have HB0 := HB
     replace HB : Hid (Below _ _ _) := va_below HB0.out hs H10.out
     replace H10 := hn
     clear HB0 hn hs hnb ef
     go_simp
     refine hK.out _ _ (HCd.out _ HB.out) ?_
     clear hK K hHeld e0 e1 e2 e3 ef0 ef1 ef2 ef3
     intro hHeld
     try simp only [Act.put, List.setIfInBounds_toArray, List.set_cons_zero, List.set_cons_succ]
     (try rw [hv6])
     refine wpAnyH_done (by kernel_rfl) ?_ _
     go_wp2
     go_meet
     exact ⟨v6, b9, b10, d1, d2, t1, t2, a1, a1', a2, a2', n1, c1, n1', c1', n2, c2, n2', c2', rfl, rfl, rfl, H9.out.1, H10.out.1, HV1, HV2, HF1, HF2, HB⟩
    exact AllReadyH.nil
   exact AllReadyH.nil
 case rest =>
 obtain ⟨w3, b9, b10, d1, d2, t1, t2, a1, a1', a2, a2', n1, c1, n1', c1', n2, c2, n2', c2', rfl, rfl, rfl, H9, H10, HV1, HV2, HF1, HF2, HB3⟩ := hcut
 clear HB HPl1 HPl2 HCd
 have HC2 : Hid (∀ wx, Below w3.heap.size w3 wx → wx.cell? ⟨b9, 0, none⟩ = some (.int .i64 (d1.kind : Nat)) ∧ wx.cell? ⟨b9, 1, none⟩ = some (.string t1) ∧ wx.cell? ⟨b9, 2, none⟩ = some (.slice a1 n1 c1) ∧ wx.cell? ⟨b9, 3, none⟩ = some (.slice a1' n1' c1') ∧ wx.cell? ⟨b10, 0, none⟩ = some (.int .i64 (d2.kind : Nat)) ∧ wx.cell? ⟨b10, 1, none⟩ = some (.string t2) ∧ wx.cell? ⟨b10, 2, none⟩ = some (.slice a2 n2 c2) ∧ wx.cell? ⟨b10, 3, none⟩ = some (.slice a2' n2' c2')) := fun wx hx => by
  obtain ⟨q0, q1, q2, q3, -⟩ := val_cells (w := wx) (by rw [hx.block b9 (Array.getElem?_eq_some_iff.1 H9.out).1]; exact H9.out)
  obtain ⟨r0, r1, r2, r3, -⟩ := val_cells (w := wx) (by rw [hx.block b10 (Array.getElem?_eq_some_iff.1 H10.out).1]; exact H10.out)
  exact ⟨q0, q1, q2, q3, r0, r1, r2, r3⟩
 have HM1 : Hid (∀ wx, Below w3.heap.size w3 wx → Calls Tryz.prog 8 #[.agg #[.int .i64 (d1.kind : Nat), .string t1, .slice a1 n1 c1, .slice a1' n1' c1'], .int .u64 xa, .agg #[.int .i64 2, .int .i64 5]] wx fun e w' => MadeV wx w' d1 e) := fun wx hx => made_any xa 2 5 _ d1 _ wx ha (HV1.out.keep hx) HF1.out.1.ok HF1.out.2
 have HM2 : Hid (∀ wx, Below w3.heap.size w3 wx → Calls Tryz.prog 8 #[.agg #[.int .i64 (d2.kind : Nat), .string t2, .slice a2 n2 c2, .slice a2' n2' c2'], .int .u64 xb, .agg #[.int .i64 100, .int .i64 60]] wx fun e w' => MadeV wx w' d2 e) := fun wx hx => made_any xb 100 60 _ d2 _ wx hb' (HV2.out.keep hx) HF2.out.1.ok HF2.out.2
 have HM3 : Hid (∀ wx, Below w3.heap.size w3 wx → Calls Tryz.prog 8 #[.agg #[.int .i64 (d1.kind : Nat), .string t1, .slice a1 n1 c1, .slice a1' n1' c1'], .int .u64 xb, .agg #[.int .i64 100, .int .i64 60]] wx fun e w' => MadeV wx w' d1 e) := fun wx hx => made_any xb 100 60 _ d1 _ wx hb' (HV1.out.keep hx) HF1.out.1.ok HF1.out.2
 have HD : Hid (Below w3.heap.size w3 w3.drew) := below_drewN w3 1
 go_upto_region 2 with fail
 go_cut [11, 12, 13] from 18 to 29 (fun u11 u12 u13 wx => ∃ (wy : World) (v1 v2 v3 : Nat) (o1 o2 o3 : Bool) (F1 F2 F3 : List Nat) (B1 B2 B3 : Nat), wy = wx ∧ u11 = ptr v1 ∧ u12 = ptr v2 ∧ u13 = ptr v3 ∧ Hid (PV wy B1 v1 d1 o1 F1) ∧ Hid (PV wy B2 v2 d2 o2 F2) ∧ Hid (PV wy B3 v3 d1 o3 F3) ∧ Hid (v1 < v2 ∧ v2 < v3) ∧ Hid (Below w3.heap.size w3 wy))
 case first =>
  go_region_held3 (fun w' => w'.cell? ⟨b9, 0, none⟩ = some (.int .i64 (d1.kind : Nat)) ∧ w'.cell? ⟨b9, 1, none⟩ = some (.string t1) ∧ w'.cell? ⟨b9, 2, none⟩ = some (.slice a1 n1 c1) ∧ w'.cell? ⟨b9, 3, none⟩ = some (.slice a1' n1' c1') ∧ w'.cell? ⟨b10, 0, none⟩ = some (.int .i64 (d2.kind : Nat)) ∧ w'.cell? ⟨b10, 1, none⟩ = some (.string t2) ∧ w'.cell? ⟨b10, 2, none⟩ = some (.slice a2 n2 c2) ∧ w'.cell? ⟨b10, 3, none⟩ = some (.slice a2' n2' c2')) (exact HC2.out _ HD.out) (first
   | (go_at_call_of 8 (Value.int .u64 (xa : Nat)); refine (HM1.out _ HD.out).mono ?_; rintro en w4 ⟨hb, v1, F1, o1, rfl, hP1⟩; have HP1 : Hid (PV w4 _ v1 d1 o1 F1) := hP1; replace HD := step_below HD hb; clear hb hP1 HM1)
   | (go_at_call_of 8 (Value.agg #[.int .i64 (d2.kind : Nat), .string t2, .slice a2 n2 c2, .slice a2' n2' c2']); refine (HM2.out _ HD.out).mono ?_; rintro en w5 ⟨hb, v2, F2, o2, rfl, hP2⟩; have HP2 : Hid (PV w5 w4.heap.size v2 d2 o2 F2) := hP2; have HP15 := HP1.out.keep hb; have HP1' : Hid (PV w5 _ v1 d1 o1 F1) := HP15; have HL12 : Hid (v1 < v2) := Nat.lt_of_lt_of_le HP1.out.lt hP2.low; replace HD := step_below HD hb; clear hb hP2 HM2 HP15)
   | (go_at_call 8; refine (HM3.out _ HD.out).mono ?_; rintro en w6 ⟨hb, v3, F3, o3, rfl, hP3⟩; have HP3 : Hid (PV w6 w5.heap.size v3 d1 o3 F3) := hP3; have HP16 := HP1'.out.keep hb; have HPa : Hid (PV w6 _ v1 d1 o1 F1) := HP16; have HP26 := HP2.out.keep hb; have HPb : Hid (PV w6 _ v2 d2 o2 F2) := HP26; have HL23 : Hid (v2 < v3) := Nat.lt_of_lt_of_le HP2.out.lt hP3.low; replace HD := step_below HD hb; clear hb hP3 HM3 HP16 HP26))
  all_goals
   go_wp2
   go_meet
   exact ⟨_, v1, v2, v3, o1, o2, o3, F1, F2, F3, _, _, _, rfl, rfl, rfl, rfl, HPa, HPb, HP3, ⟨HL12.out, HL23.out⟩, HD⟩
 case rest =>
 obtain ⟨w6, v1, v2, v3, o1, o2, o3, F1, F2, F3, B1, B2, B3, rfl, rfl, rfl, rfl, HPa, HPb, HPc, HLt, HD6⟩ := hcut
 clear HD HM1 HM2 HM3
 have hn12 : v1 ≠ v2 := by have := HLt.out; omega
 have hn13 : v1 ≠ v3 := by have := HLt.out; omega
 have HXY0 : Hid (∀ wx, Below w6.heap.size w6 wx → Calls Tryz.prog 11 #[ptr v1, ptr v2] wx fun e w' => EqR wx w' e (sameD d1 d2)) := fun wx hx => SameV wx B1 v1 d1 o1 F1 B2 v2 d2 o2 F2 (HPa.out.keep hx) (HPb.out.keep hx) hn12 HF1.out.1.dozen
 have HYX0 : Hid (∀ wx, Below w6.heap.size w6 wx → Calls Tryz.prog 11 #[ptr v2, ptr v1] wx fun e w' => EqR wx w' e (sameD d2 d1)) := fun wx hx => SameV wx B2 v2 d2 o2 F2 B1 v1 d1 o1 F1 (HPb.out.keep hx) (HPa.out.keep hx) hn12.symm HF2.out.1.dozen
 have HXZ : Hid (∀ wx, Below w6.heap.size w6 wx → Calls Tryz.prog 11 #[ptr v1, ptr v3] wx fun e w' => e = .returned (.bool true) ∧ Below wx.heap.size wx w') := fun wx hx => (SameV wx B1 v1 d1 o1 F1 B3 v3 d1 o3 F3 (HPa.out.keep hx) (HPc.out.keep hx) hn13 HF1.out.1.dozen).mono fun e w' h => h.is (sameD_refl d1)
 have HXN : Hid (∀ wx, Below w6.heap.size w6 wx → Calls Tryz.prog 11 #[ptr v1, .pointer none] wx fun e w' => e = .returned (.bool false) ∧ w' = wx) := fun wx hx => Same_right wx B1 v1 d1 o1 F1 (HPa.out.keep hx)
 have HR0 : Hid (∀ wx, Below w6.heap.size w6 wx → Calls Tryz.prog 12 #[.agg #[.int .i64 (d1.kind : Nat), .string t1, .slice a1 n1 c1, .slice a1' n1' c1'], .agg #[.int .i64 (d2.kind : Nat), .string t2, .slice a2 n2 c2, .slice a2' n2' c2']] wx fun e w' => EqR wx w' e (sameD d1 d2)) := fun wx hx => rSameV wx _ d1 _ _ d2 _ ((HV1.out.keep HD6.out).keep hx) ((HV2.out.keep HD6.out).keep hx) HF1.out.1.ok HF1.out.2 HF2.out.2
 have HC6 : Hid (∀ wx, Below w6.heap.size w6 wx → wx.cell? ⟨b9, 0, none⟩ = some (.int .i64 (d1.kind : Nat)) ∧ wx.cell? ⟨b9, 1, none⟩ = some (.string t1) ∧ wx.cell? ⟨b9, 2, none⟩ = some (.slice a1 n1 c1) ∧ wx.cell? ⟨b9, 3, none⟩ = some (.slice a1' n1' c1') ∧ wx.cell? ⟨b10, 0, none⟩ = some (.int .i64 (d2.kind : Nat)) ∧ wx.cell? ⟨b10, 1, none⟩ = some (.string t2) ∧ wx.cell? ⟨b10, 2, none⟩ = some (.slice a2 n2 c2) ∧ wx.cell? ⟨b10, 3, none⟩ = some (.slice a2' n2' c2')) := fun wx hx => HC2.out wx (HD6.out.trans (hx.mono HD6.out.size))
 have HBw := step_below HB1 (step_below HB3 HD6.out).out
 have HE : Hid (Below w6.heap.size w6 w6.drew) := below_drewN w6 1
 clear hn12 hn13
 by_cases hs : sameD d1 d2
 ·have HXY : Hid (∀ wx, Below w6.heap.size w6 wx → Calls Tryz.prog 11 #[ptr v1, ptr v2] wx fun e w' => e = .returned (.bool true) ∧ Below wx.heap.size wx w') := fun wx hx => (HXY0.out wx hx).mono fun e w' h => h.is hs
  have HYX : Hid (∀ wx, Below w6.heap.size w6 wx → Calls Tryz.prog 11 #[ptr v2, ptr v1] wx fun e w' => e = .returned (.bool true) ∧ Below wx.heap.size wx w') := fun wx hx => (HYX0.out wx hx).mono fun e w' h => h.is (sameD_symm hs)
  have HR : Hid (∀ wx, Below w6.heap.size w6 wx → Calls Tryz.prog 12 #[.agg #[.int .i64 (d1.kind : Nat), .string t1, .slice a1 n1 c1, .slice a1' n1' c1'], .agg #[.int .i64 (d2.kind : Nat), .string t2, .slice a2 n2 c2, .slice a2' n2' c2']] wx fun e w' => e = .returned (.bool true) ∧ Below wx.heap.size wx w') := fun wx hx => (HR0.out wx hx).mono fun e w' h => h.is hs
  clear HXY0 HYX0 HR0
  go_wp2_with fail
  go_region_held3 (fun w' => w'.cell? ⟨b9, 0, none⟩ = some (.int .i64 (d1.kind : Nat)) ∧ w'.cell? ⟨b9, 1, none⟩ = some (.string t1) ∧ w'.cell? ⟨b9, 2, none⟩ = some (.slice a1 n1 c1) ∧ w'.cell? ⟨b9, 3, none⟩ = some (.slice a1' n1' c1') ∧ w'.cell? ⟨b10, 0, none⟩ = some (.int .i64 (d2.kind : Nat)) ∧ w'.cell? ⟨b10, 1, none⟩ = some (.string t2) ∧ w'.cell? ⟨b10, 2, none⟩ = some (.slice a2 n2 c2) ∧ w'.cell? ⟨b10, 3, none⟩ = some (.slice a2' n2' c2')) (exact HC6.out _ HE.out) (first
   | (go_at_call 10; refine (known_v _).mono ?_; rintro en wx ⟨rfl, hb⟩; replace HE := step_below HE hb; clear hb)
   | (go_at_call 12; refine (HR.out _ HE.out).mono ?_; rintro en wx ⟨rfl, hb⟩; replace HE := step_below HE hb; clear hb)
   | (go_at_call_of 11 (ptr v3); refine (HXZ.out _ HE.out).mono ?_; rintro en wx ⟨rfl, hb⟩; replace HE := step_below HE hb; clear hb)
   | (go_at_call_of 11 (Value.pointer none); refine (HXN.out _ HE.out).mono ?_; rintro en wx ⟨rfl, rfl⟩)
   | (go_at_call 11; refine (HXY.out _ HE.out).mono ?_; rintro en wx ⟨rfl, hb⟩; replace HE := step_below HE hb; clear hb HXY)
   | (go_at_call 11; refine (HYX.out _ HE.out).mono ?_; rintro en wx ⟨rfl, hb⟩; replace HE := step_below HE hb; clear hb HYX))
  all_goals
   have HBe := step_below HBw HE.out
   go_wp2
   go_ret
   exact ⟨rfl, HBe.out⟩
 ·have HXY : Hid (∀ wx, Below w6.heap.size w6 wx → Calls Tryz.prog 11 #[ptr v1, ptr v2] wx fun e w' => e = .returned (.bool false) ∧ Below wx.heap.size wx w') := fun wx hx => (HXY0.out wx hx).mono fun e w' h => h.isnt hs
  have HYX : Hid (∀ wx, Below w6.heap.size w6 wx → Calls Tryz.prog 11 #[ptr v2, ptr v1] wx fun e w' => e = .returned (.bool false) ∧ Below wx.heap.size wx w') := fun wx hx => (HYX0.out wx hx).mono fun e w' h => h.isnt (fun h2 => hs (sameD_symm h2))
  have HR : Hid (∀ wx, Below w6.heap.size w6 wx → Calls Tryz.prog 12 #[.agg #[.int .i64 (d1.kind : Nat), .string t1, .slice a1 n1 c1, .slice a1' n1' c1'], .agg #[.int .i64 (d2.kind : Nat), .string t2, .slice a2 n2 c2, .slice a2' n2' c2']] wx fun e w' => e = .returned (.bool false) ∧ Below wx.heap.size wx w') := fun wx hx => (HR0.out wx hx).mono fun e w' h => h.isnt hs
  clear HXY0 HYX0 HR0
  go_wp2_with fail
  go_region_held3 (fun w' => w'.cell? ⟨b9, 0, none⟩ = some (.int .i64 (d1.kind : Nat)) ∧ w'.cell? ⟨b9, 1, none⟩ = some (.string t1) ∧ w'.cell? ⟨b9, 2, none⟩ = some (.slice a1 n1 c1) ∧ w'.cell? ⟨b9, 3, none⟩ = some (.slice a1' n1' c1') ∧ w'.cell? ⟨b10, 0, none⟩ = some (.int .i64 (d2.kind : Nat)) ∧ w'.cell? ⟨b10, 1, none⟩ = some (.string t2) ∧ w'.cell? ⟨b10, 2, none⟩ = some (.slice a2 n2 c2) ∧ w'.cell? ⟨b10, 3, none⟩ = some (.slice a2' n2' c2')) (exact HC6.out _ HE.out) (first
   | (go_at_call 10; refine (known_v _).mono ?_; rintro en wx ⟨rfl, hb⟩; replace HE := step_below HE hb; clear hb)
   | (go_at_call 12; refine (HR.out _ HE.out).mono ?_; rintro en wx ⟨rfl, hb⟩; replace HE := step_below HE hb; clear hb)
   | (go_at_call_of 11 (ptr v3); refine (HXZ.out _ HE.out).mono ?_; rintro en wx ⟨rfl, hb⟩; replace HE := step_below HE hb; clear hb)
   | (go_at_call_of 11 (Value.pointer none); refine (HXN.out _ HE.out).mono ?_; rintro en wx ⟨rfl, rfl⟩)
   | (go_at_call 11; refine (HXY.out _ HE.out).mono ?_; rintro en wx ⟨rfl, hb⟩; replace HE := step_below HE hb; clear hb HXY)
   | (go_at_call 11; refine (HYX.out _ HE.out).mono ?_; rintro en wx ⟨rfl, hb⟩; replace HE := step_below HE hb; clear hb HYX))
  all_goals
   have HBe := step_below HBw HE.out
   go_wp2
   go_ret
   exact ⟨rfl, HBe.out⟩
end Go.Proofs.YtikimcbalkhooaaGreat
