/-
  The law's do, kind by kind.
-/
import Derived.Test.YtkohjejfkbaffaaGreatG16
namespace Go.Proofs.YtkohjejfkbaffaaGreat
open Go.RowKit Go.PlainAid
open Dk (En Stay hasK putE delE keysOf Dct Dg dtag Turn)

set_option maxRecDepth 100000 in
set_option maxHeartbeats 4000000 in
theorem do_add (B m x E T q : Nat) (l : List ByteArray) (F M : List Nat) (kind N : Int) (Fs : ByteArray) (w : World) (h : Pm w B m x E T q l F M) (hl : l.length ≤ 50000) (hkind : kind = 1) :
    Calls Tryz.prog 28 #[ptr m, ptr q, .agg #[.int .i64 kind, .int .i64 N, .string Fs]] w fun e w' => e = .returned (.bool true) ∧ PTo w w' B m x E T q (addM l (mbE N Fs)) F M := by
  have HK : Hid (kind = 1) := hkind
  clear hkind
  have HP : Hid (Pm w B m x E T q l F M) := h
  have HF := fun w => member_any kind N Fs w
  have HSz : Hid ((mbE N Fs).size ≤ 80) := mbE_size N Fs
  generalize mbE N Fs = f at *
  clear h
  go_enter Tryz.func28, Tryz.ntmps28
  go_wp2_with fail
  refine (HF _).mono ?_
  rintro e wx ⟨rfl, hb⟩
  have HBx : Hid (Below w.heap.size w wx) := (alloc_below w _).trans (hb.mono (alloc_below w _).size)
  have HBk : Hid (Bx wx w.heap.size kind N Fs) := Bx.keep (heap_alloc_new w _) hb
  clear hb HF
  have hk := HBk.out.kind
  rw [HK.out] at hk
  have HPx : Hid (Pm wx B m x E T q l F M) := HP.out.keep HBx.out
  have HPs : Hid (∀ {w2 : World} {gs : List ByteArray}, PTo wx w2 B m x E T q gs F M → PTo w w2 B m x E T q gs F M) := fun ht => PTo.trans (Stay.of_below HBx.out _) (fun _ h => .inl h) (fun _ h => .inl h) ht
  have HS := add_both B m x E T q l F M f wx HPx.out (by have := HSz.out; omega) (by omega)
  generalize (!hasM l f) = t at HS
  go_wp2_with fail
  refine HS.mono ?_
  rintro e w2 ⟨rfl, -, -, hm⟩
  have HM2 := hm w2 (Below.refl _ _)
  clear hm
  go_wp2_with fail
  refine HM2.mono ?_
  rintro e w3 ⟨rfl, hto, -⟩
  have HT : Hid (PTo w w3 B m x E T q (addM l f) F M) := HPs.out hto
  clear hto
  cases t
  all_goals
    go_wp2
    go_ret
    exact ⟨rfl, HT.out⟩
set_option maxRecDepth 100000 in
set_option maxHeartbeats 4000000 in
theorem do_rem (B m x E T q : Nat) (l : List ByteArray) (F M : List Nat) (kind N : Int) (Fs : ByteArray) (w : World) (h : Pm w B m x E T q l F M) (hl : l.length ≤ 50000) (hkind : kind = 2) :
    Calls Tryz.prog 28 #[ptr m, ptr q, .agg #[.int .i64 kind, .int .i64 N, .string Fs]] w fun e w' => e = .returned (.bool true) ∧ PTo w w' B m x E T q (remM l (mbE N Fs)) F M := by
  have HK : Hid (kind = 2) := hkind
  clear hkind
  have HP : Hid (Pm w B m x E T q l F M) := h
  have HF := fun w => member_any kind N Fs w
  have HSz : Hid ((mbE N Fs).size ≤ 80) := mbE_size N Fs
  generalize mbE N Fs = f at *
  clear h
  go_enter Tryz.func28, Tryz.ntmps28
  go_wp2_with fail
  refine (HF _).mono ?_
  rintro e wx ⟨rfl, hb⟩
  have HBx : Hid (Below w.heap.size w wx) := (alloc_below w _).trans (hb.mono (alloc_below w _).size)
  have HBk : Hid (Bx wx w.heap.size kind N Fs) := Bx.keep (heap_alloc_new w _) hb
  clear hb HF
  have hk := HBk.out.kind
  rw [HK.out] at hk
  have HPx : Hid (Pm wx B m x E T q l F M) := HP.out.keep HBx.out
  have HPs : Hid (∀ {w2 : World} {gs : List ByteArray}, PTo wx w2 B m x E T q gs F M → PTo w w2 B m x E T q gs F M) := fun ht => PTo.trans (Stay.of_below HBx.out _) (fun _ h => .inl h) (fun _ h => .inl h) ht
  have HS := rem_both B m x E T q l F M f wx HPx.out (by have := HSz.out; omega) (by omega)
  generalize hasM l f = t at HS
  go_wp2_with fail
  refine HS.mono ?_
  rintro e w2 ⟨rfl, -, hm⟩
  go_wp2_with fail
  refine hm.mono ?_
  rintro e w3 ⟨rfl, hto, -⟩
  have HT : Hid (PTo w w3 B m x E T q (remM l f) F M) := HPs.out hto
  clear hto
  cases t
  all_goals
    go_wp2
    go_ret
    exact ⟨rfl, HT.out⟩
set_option maxRecDepth 100000 in
set_option maxHeartbeats 4000000 in
theorem do_many (B m x E T q : Nat) (l : List ByteArray) (F M : List Nat) (kind N : Int) (Fs : ByteArray) (w : World) (h : Pm w B m x E T q l F M) (hl : l.length ≤ 50000) (hkind : kind = 4) :
    Calls Tryz.prog 28 #[ptr m, ptr q, .agg #[.int .i64 kind, .int .i64 N, .string Fs]] w fun e w' => e = .returned (.bool true) ∧ PTo w w' B m x E T q (mset N (wi N 40) l) F M := by
  have HK : Hid (kind = 4) := hkind
  clear hkind
  have HP : Hid (Pm w B m x E T q l F M) := h
  have HF := fun w => member_any kind N Fs w
  have HSz : Hid ((mbE N Fs).size ≤ 80) := mbE_size N Fs
  generalize mbE N Fs = f at *
  clear h
  go_enter Tryz.func28, Tryz.ntmps28
  go_wp2_with fail
  refine (HF _).mono ?_
  rintro e wx ⟨rfl, hb⟩
  have HBx : Hid (Below w.heap.size w wx) := (alloc_below w _).trans (hb.mono (alloc_below w _).size)
  have HBk : Hid (Bx wx w.heap.size kind N Fs) := Bx.keep (heap_alloc_new w _) hb
  clear hb HF
  have hk := HBk.out.kind
  rw [HK.out] at hk
  have HPx : Hid (Pm wx B m x E T q l F M) := HP.out.keep HBx.out
  have HPs : Hid (∀ {w2 : World} {gs : List ByteArray}, PTo wx w2 B m x E T q gs F M → PTo w w2 B m x E T q gs F M) := fun ht => PTo.trans (Stay.of_below HBx.out _) (fun _ h => .inl h) (fun _ h => .inl h) ht
  have hnum := HBk.out.num
  have HW := Within_wi N 40 wx (by decide)
  have hK := wi_le N 40
  obtain ⟨K, hKe⟩ : ∃ K, wi N 40 = K := ⟨_, rfl⟩
  have HKw : Hid (wi N 40 = K) := hKe
  rw [hKe] at HW hK
  clear hKe
  go_wp2_with fail
  refine HW.mono ?_
  rintro e w2 ⟨rfl, rfl⟩
  go_wp2
  go_loopg [10, 11, 12] K (fun g iv v11 v12 wr => ∃ (gs : List ByteArray) (F1 M1 : List Nat), iv = .int .i64 (g : Nat) ∧ gs.length + g ≤ 50040 ∧ Hid (mset N K l = mset N g gs) ∧ Hid (Pm wr B m x E T q gs F1 M1) ∧ Hid (Stay w wr (F ++ M)) ∧ Hid (∀ k ∈ F1, k ∈ F ∨ w.heap.size ≤ k) ∧ Hid (∀ k ∈ M1, k ∈ M ∨ w.heap.size ≤ k) ∧ Hid (Bx wr w.heap.size kind N Fs) ∧ g ≤ K)
  case atStart => exact ⟨l, F, M, rfl, by omega, (rfl : mset N K l = mset N K l), HPx, Stay.of_below HBx.out _, fun _ h => .inl h, fun _ h => .inl h, HBk, Nat.le_refl _⟩
  case round =>
    clear hnum
    obtain ⟨gs, F1, M1, rfl, hg1, HE, HPr, HSt, HF1, HM1, HBr, hgK⟩ := hrel
    have hnum := HBr.out.num
    by_cases h8 : (0 : Int) < gk
    · obtain ⟨i, rfl⟩ : ∃ i, gk = i + 1 := ⟨gk - 1, by omega⟩
      have HE2 : Hid (mset N K l = mset N i (addM gs (mkey N (i + 1)))) := HE.out
      have hks : (mkey N (i + 1)).size = 3 := mny_size _
      have HS := add_both B m x E T q gs F1 M1 (mkey N (i + 1)) wr HPr.out (by omega) (by omega)
      obtain ⟨z, hz⟩ : ∃ z, IntKind.i64.wrap (((i + 1 : Nat) : Int) * N) = z := ⟨_, rfl⟩
      have hz2 : IntKind.i64.wrap (((i : Int) + 1) * N) = z := by rw [← hz]; congr 2
      have hz3 : -600 < z.tmod 600 ∧ z.tmod 600 < 600 := ⟨Int.lt_tmod_of_pos z (by decide), Int.tmod_lt_of_pos z (by decide)⟩
      obtain ⟨y, hy⟩ : ∃ y, z.tmod 600 = y := ⟨_, rfl⟩
      have HMk := fun w => many_any y w (by omega) (by omega)
      have hmk : mny y = mkey N (i + 1) := by unfold mkey; rw [hz, hy]
      rw [hmk] at HMk
      generalize mkey N (i + 1) = kk at HMk HS HE2 hks
      generalize (!hasM gs kk) = t at HS
      clear hmk hz3 HE
      go_wp2_with fail
      refine (HMk _).mono ?_
      rintro e w3 ⟨rfl, rfl⟩
      go_wp2_with fail
      refine HS.mono ?_
      rintro e w4 ⟨rfl, hb4, hst4, hm⟩
      have hBx4 : Bx w4 w.heap.size kind N Fs := HBr.out.stay HPr.out hst4
      have HM4 := hm w4 (Below.refl _ _)
      have hnum4 := hBx4.num
      clear hm hb4 hBx4 hst4
      go_wp2_with fail
      refine (HMk _).mono ?_
      rintro e w5 ⟨rfl, rfl⟩
      go_wp2_with fail
      refine HM4.mono ?_
      rintro e w6 ⟨rfl, hto, -⟩
      obtain ⟨F2, M2, k1, k2, k3, k4⟩ := hto
      have HP6 : Hid (Pm w6 B m x E T q (addM gs kk) F2 M2) := k1
      have HS6 : Hid (Stay w w6 (F ++ M)) := HSt.out.trans k2 (fun i hi => (List.mem_append.1 hi).elim (fun h => (HF1.out i h).imp (fun h => List.mem_append.2 (.inl h)) id) (fun h => (HM1.out i h).imp (fun h => List.mem_append.2 (.inr h)) id))
      have HF6 : Hid (∀ k ∈ F2, k ∈ F ∨ w.heap.size ≤ k) := fun k hk => (k3 k hk).elim (HF1.out k) (fun h => .inr (Nat.le_trans HSt.out.size h))
      have HM6 : Hid (∀ k ∈ M2, k ∈ M ∨ w.heap.size ≤ k) := fun k hk => (k4 k hk).elim (HM1.out k) (fun h => .inr (Nat.le_trans HSt.out.size h))
      have HB6 : Hid (Bx w6 w.heap.size kind N Fs) := HBr.out.stay HPr.out k2
      have hlen : (addM gs kk).length ≤ gs.length + 1 := addM_len gs kk
      clear k1 k2 k3 k4
      cases t
      all_goals
        go_wp2
        go_roundg i
        case measure => omega
        case rel => exact ⟨addM gs kk, F2, M2, by go_num, by omega, HE2, HP6, HS6, HF6, HM6, HB6, by omega⟩
    · obtain rfl : gk = 0 := by omega
      have HE2 : Hid (mset N K l = gs) := HE.out
      go_wp2
      go_ret
      exact ⟨rfl, by rw [HKw.out, HE2.out]; exact ⟨F1, M1, HPr.out, HSt.out, HF1.out, HM1.out⟩⟩
set_option maxRecDepth 100000 in
set_option maxHeartbeats 4000000 in
theorem do_has (B m x E T q : Nat) (l : List ByteArray) (F M : List Nat) (kind N : Int) (Fs : ByteArray) (w : World) (h : Pm w B m x E T q l F M) (hl : l.length ≤ 50000) (hkind : kind ≠ 1 ∧ kind ≠ 2 ∧ kind ≠ 4) :
    Calls Tryz.prog 28 #[ptr m, ptr q, .agg #[.int .i64 kind, .int .i64 N, .string Fs]] w fun e w' => e = .returned (.bool true) ∧ PTo w w' B m x E T q (l) F M := by
  have HK : Hid (kind ≠ 1 ∧ kind ≠ 2 ∧ kind ≠ 4) := hkind
  clear hkind
  have HP : Hid (Pm w B m x E T q l F M) := h
  have HF := fun w => member_any kind N Fs w
  have HSz : Hid ((mbE N Fs).size ≤ 80) := mbE_size N Fs
  generalize mbE N Fs = f at *
  clear h
  go_enter Tryz.func28, Tryz.ntmps28
  go_wp2_with fail
  refine (HF _).mono ?_
  rintro e wx ⟨rfl, hb⟩
  have HBx : Hid (Below w.heap.size w wx) := (alloc_below w _).trans (hb.mono (alloc_below w _).size)
  have HBk : Hid (Bx wx w.heap.size kind N Fs) := Bx.keep (heap_alloc_new w _) hb
  clear hb HF
  have hk := HBk.out.kind
  have HPx : Hid (Pm wx B m x E T q l F M) := HP.out.keep HBx.out
  have HPs : Hid (∀ {w2 : World} {gs : List ByteArray}, PTo wx w2 B m x E T q gs F M → PTo w w2 B m x E T q gs F M) := fun ht => PTo.trans (Stay.of_below HBx.out _) (fun _ h => .inl h) (fun _ h => .inl h) ht
  have hz1 : (kind == 1) = false := by simpa using HK.out.1
  have hz2 : (kind == 2) = false := by simpa using HK.out.2.1
  have hz4 : (kind == 4) = false := by simpa using HK.out.2.2
  obtain ⟨pk, a, n, c, h1, h3, hMe⟩ := HPx.out
  have hl3 := h3.len
  have hbd : Below wx.heap.size wx wx.drew := below_drewN wx 1
  have HG := HasS B m x E T l pk F f wx.drew (h1.keep hbd) (by have := HSz.out; unfold maxLen; omega)
  obtain ⟨z, hz, HAt⟩ := At_is B a n c l f wx h3.row (by omega)
  have HMd : Hid (Md wx B q E T a n c l pk) := h3
  have HBd : Hid (Below wx.heap.size wx wx.drew) := hbd
  have hcd := (h3.keep hbd).c0
  have hn5 : n ≤ 50000 := by omega
  clear h1 h3 hMe
  rcases hz with ⟨zq, rfl, hzq, hh⟩ | ⟨rfl, hh⟩
  all_goals
    rw [hh] at HG
    clear hh
    go_wp2_with fail
    go_region_with (first
      | (go_at_call 27; refine HG.mono ?_; rintro e w2 ⟨rfl, hb⟩; have HB2 := step_below HBd hb; have hc2 := (HMd.out.keep HB2.out).c0; clear hb)
      | (go_at_call 42; refine (HAt _ HB2.out).mono ?_; rintro e w3 ⟨rfl, rfl⟩)
      | (go_at_call 42; refine (HAt _ HBd.out).mono ?_; rintro e w3 ⟨rfl, rfl⟩))
    all_goals
      have HT : Hid (PTo w _ B m x E T q l F M) := HPs.out (PTo.same HPx.out HB2.out)
      go_wp2
      go_ret
      exact ⟨rfl, HT.out⟩
theorem do_any (B m x E T q : Nat) (l : List ByteArray) (F M : List Nat) (kind N : Int) (Fs : ByteArray) (w : World) (h : Pm w B m x E T q l F M) (hl : l.length ≤ 50000) :
    Calls Tryz.prog 28 #[ptr m, ptr q, .agg #[.int .i64 kind, .int .i64 N, .string Fs]] w fun e w' => e = .returned (.bool true) ∧ PTo w w' B m x E T q (stq kind N Fs l) F M := by
  unfold stq
  split
  · exact do_add B m x E T q l F M kind N Fs w h hl (by assumption)
  · split
    · exact do_rem B m x E T q l F M kind N Fs w h hl (by assumption)
    · split
      · exact do_many B m x E T q l F M kind N Fs w h hl (by assumption)
      · exact do_has B m x E T q l F M kind N Fs w h hl ⟨by assumption, by assumption, by assumption⟩
end Go.Proofs.YtkohjejfkbaffaaGreat
