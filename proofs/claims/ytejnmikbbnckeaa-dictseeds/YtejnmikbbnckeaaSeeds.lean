/-
  DictSeeds: two dicts of unlike seeds, side by side.
-/
import Derived.Test.YtejnmikbbnckeaaTwo
import Derived.Test.YtejnmikbbnckeaaRdA
namespace Go.Proofs.Ytejnmikbbnckeaa
open Go.RowKit Go.PlainAid

theorem Leaf.lower {w : World} {B C x : Nat} {f : Lf} (h : Leaf w B x f) (hC : C ≤ B) : Leaf w C x f :=
  ⟨h.blk, OwnR.low h.row hC, fun t ht => (h.tab t ht).lower hC, Nat.le_trans hC h.low, h.nod, h.key, h.pos⟩

set_option maxRecDepth 100000 in
set_option maxHeartbeats 8000000 in
theorem seeds_any (x y : Nat) (a : Option Addr) (n cap : Nat) (w : World) (hx : x < 18446744073709551616) (hy : y < 18446744073709551616) (hR : RdA w a n) :
    Calls Try.prog 7 #[.int .u64 x, .int .u64 y, .slice a n cap] w fun e w' => e = .returned (.bool true) ∧ Below w.heap.size w w' := by
  have HN1 := fun w => New_dict x w hx
  have HN2 := fun w => New_dict y w hy
  have HR : Hid (RdA w a n) := hR
  have HKn := known_any
  have hn : n ≤ 9223372036854775807 := hR.max
  have HKY := key_law
  clear hR
  go_enter Try.func7, Try.ntmps7
  go_wp2_with fail
  refine (HN1 _).mono ?_
  rintro e w1 ⟨hb1, p, D1, rfl, hT1, -, -, hes1⟩
  have HB1 : Hid (Below w.heap.size w w1) := hb1
  have HT1 : Hid (Dct w1 w.heap.size p x D1 ∧ D1.es = []) := ⟨hT1, hes1⟩
  clear hb1 hT1 HN1 hes1
  go_wp2_with fail
  refine (HN2 _).mono ?_
  rintro e w2 ⟨hb2, q, D2, rfl, hT2, -, -, hes2⟩
  have HB2 := step_below HB1 hb2
  have HTW : Hid (Pr w2 w.heap.size p x [] q y []) := by
    refine ⟨D1, D2, HT1.out.1.keep hb2, ?_, by rw [HT1.out.2], by rw [hes2], fun j hj hj2 => ?_⟩
    · have h1 := HB1.out.size
      exact ⟨hT2.blk, OwnR.low hT2.row h1, fun f hf => (hT2.leaf f hf).lower h1, hT2.shp, hT2.dir, hT2.own, hT2.one, hT2.ful, hT2.nod, Nat.le_trans h1 hT2.low, hT2.seed, hT2.le⟩
    · have h1 := (HT1.out.1.fplt j hj).2
      have h2 := (hT2.fplt j hj2).1
      omega
  clear hb2 hT2 HN2 HB1 HT1 hes2
  go_wp2
  go_loopg [9, 10, 11, 12, 13, 14, 15, 46, 52, 66, 78] 150 (fun g iv kv okv v1 v2 v3 v4 v5 v6 v7 v8 wr => ∃ (i : Nat) (es : List En), i + g = 150 ∧ i ≤ n ∧ iv = .int .i64 i ∧ es.length ≤ i ∧ Hid (Pr wr w.heap.size p x es q y es) ∧ Hid (Below w.heap.size w wr))
  case atStart => exact ⟨0, [], by omega, Nat.zero_le _, rfl, Nat.le_refl _, HTW, HB2⟩
  case round =>
    clear HTW HB2
    obtain ⟨i, es, hi, hin, rfl, hle, HTW, HB⟩ := hrel
    by_cases hgo : (i : Int) < n ∧ (i : Int) < 150
    · obtain ⟨h1, h2⟩ := hgo
      have h1' : i < n := by omega
      obtain ⟨bb, off, ha, kind, N, V, S, c0, c1, c2, c3⟩ := (HR.out.keep HB.out).elem i h1'
      subst ha
      have hlt : bb < wr.heap.size := World.block_lt_of_cell? _ _ c0
      go_wp2_with fail
      refine (HKY kind N V S _).mono ?_
      rintro e w3 ⟨hb3, k, rfl, hk⟩
      have hk' : k.size ≤ maxLen := by unfold maxLen; omega
      have d0 : w3.cell? ⟨bb, off + i * 4, none⟩ = some (.int .i64 kind) := by rw [hb3.cell (p := ⟨bb, off + i * 4, none⟩) hlt]; exact c0
      have HTW3 : Hid (Pr w3 w.heap.size p x es q y es) := HTW.out.keep hb3
      have HB3 := step_below HB hb3
      have HP1 : ∀ w' e2, Pr w' w.heap.size p x es q y e2 → Calls Try.prog 13 #[ptr p, .string k, .int .i64 i] w' fun e w'' => e = .returned (.int .i64 0) ∧ Pr w'' w.heap.size p x (putE es k i) q y e2 ∧ Below w.heap.size w' w'' := fun w' e2 h => Pr.put _ p x q y es e2 k i w' h hk' (by omega)
      have HP2 : ∀ w' e1, Pr w' w.heap.size p x e1 q y es → Calls Try.prog 13 #[ptr q, .string k, .int .i64 i] w' fun e w'' => e = .returned (.int .i64 0) ∧ Pr w'' w.heap.size p x e1 q y (putE es k i) ∧ Below w.heap.size w' w'' := fun w' e1 h => (Pr.put _ q y p x es e1 k i w' h.symm hk' (by omega)).mono (by rintro e w'' ⟨h1, h2, h3⟩; exact ⟨h1, h2.symm, h3⟩)
      have HD1 : ∀ w' e2, Pr w' w.heap.size p x es q y e2 → Calls Try.prog 29 #[ptr p, .string k] w' fun e w'' => e = .returned (.bool (hasK es k)) ∧ Pr w'' w.heap.size p x (delE es k) q y e2 ∧ Below w.heap.size w' w'' := fun w' e2 h => Pr.del _ p x q y es e2 k w' h hk'
      have HD2 : ∀ w' e1, Pr w' w.heap.size p x e1 q y es → Calls Try.prog 29 #[ptr q, .string k] w' fun e w'' => e = .returned (.bool (hasK es k)) ∧ Pr w'' w.heap.size p x e1 q y (delE es k) ∧ Below w.heap.size w' w'' := fun w' e1 h => (Pr.del _ q y p x es e1 k w' h.symm hk').mono (by rintro e w'' ⟨h1, h2, h3⟩; exact ⟨h1, h2.symm, h3⟩)
      have HG1 : ∀ w', Pr w' w.heap.size p x es q y es → Calls Try.prog 30 #[ptr p, .string k] w' fun e w'' => e = .returned (.tuple #[.int .i64 (getE es k), .bool (hasK es k)]) ∧ Below w'.heap.size w' w'' := fun w' h => Pr.get _ p x q y es es k w' h hk'
      have HG2 : ∀ w', Pr w' w.heap.size p x es q y es → Calls Try.prog 30 #[ptr q, .string k] w' fun e w'' => e = .returned (.tuple #[.int .i64 (getE es k), .bool (hasK es k)]) ∧ Below w'.heap.size w' w'' := fun w' h => Pr.get _ q y p x es es k w' h.symm hk'
      have HL1 : ∀ w' es, Pr w' w.heap.size p x es q y es → Calls Try.prog 31 #[ptr p] w' fun e w'' => e = .returned (.int .i64 (es.length : Nat)) ∧ w'' = w' := fun w' es h => Pr.len _ p x q y es es w' h
      have HL2 : ∀ w' es, Pr w' w.heap.size p x es q y es → Calls Try.prog 31 #[ptr q] w' fun e w'' => e = .returned (.int .i64 (es.length : Nat)) ∧ w'' = w' := fun w' es h => Pr.len _ q y p x es es w' h.symm
      have hpl := putE_len es k i
      have hdl := delE_len es k
      generalize putE es k i = es1 at HP1 HP2 hpl
      generalize delE es k = es2 at HD1 HD2 hdl
      generalize getE es k = gv at HG1 HG2
      generalize hasK es k = hb at HD1 HD2 HG1 HG2
      clear hb3 c0 c1 c2 c3 HTW HB hk HKY HKn hlt
      by_cases hk1 : kind = 1 ∨ kind = 4
      · clear HD1 HD2 HG1 HG2
        have hone : (kind == 1) = true ∨ ((kind == 1) = false ∧ (kind == 4) = true) := by
          rcases hk1 with rfl | rfl
          · exact .inl rfl
          · exact .inr ⟨rfl, rfl⟩
        clear hk1
        rcases hone with e1 | ⟨e1, e2⟩
        all_goals
          go_wp2_with fail
          refine (HP1 _ _ HTW3.out).mono ?_
          rintro e w4 ⟨rfl, hT4, hb4⟩
          have HT4 : Hid (Pr w4 w.heap.size p x es1 q y es) := hT4
          have HB4 : Hid (Below w.heap.size w w4) := HB3.out.trans hb4
          clear hT4 hb4
          go_wp2_with fail
          refine (HP2 _ _ HT4.out).mono ?_
          rintro e w5 ⟨rfl, hT5, hb5⟩
          have HT5 : Hid (Pr w5 w.heap.size p x es1 q y es1) := hT5
          have HB5 : Hid (Below w.heap.size w w5) := HB4.out.trans hb5
          clear hT5 hb5 HT4 HB4 HP1 HP2
          go_wp2_with fail
          refine (HL1 _ _ HT5.out).mono ?_
          rintro e w5 ⟨rfl, rfl⟩
          go_wp2_with fail
          refine (HL2 _ _ HT5.out).mono ?_
          rintro e w5 ⟨rfl, rfl⟩
          go_wp2
          go_roundg (gk - 1)
          case measure => omega
          case rel => exact ⟨i + 1, es1, by omega, by omega, by go_num, by omega, HT5, HB5⟩
      · have hk1z : (kind == 1) = false := by simp; exact fun e => hk1 (.inl e)
        have hk4z : (kind == 4) = false := by simp; exact fun e => hk1 (.inr e)
        clear HP1 HP2 hk1
        by_cases hk2 : kind = 2
        · subst hk2
          clear HG1 HG2
          go_wp2_with fail
          refine (HD1 _ _ HTW3.out).mono ?_
          rintro e w4 ⟨rfl, hT4, hb4⟩
          have HT4 : Hid (Pr w4 w.heap.size p x es2 q y es) := hT4
          have HB4 : Hid (Below w.heap.size w w4) := HB3.out.trans hb4
          clear hT4 hb4
          go_wp2_with fail
          refine (HD2 _ _ HT4.out).mono ?_
          rintro e w5 ⟨rfl, hT5, hb5⟩
          have HT5 : Hid (Pr w5 w.heap.size p x es2 q y es2) := hT5
          have HB5 : Hid (Below w.heap.size w w5) := HB4.out.trans hb5
          clear hT5 hb5 HT4 HB4 HD1 HD2
          go_wp2_with fail
          refine (HL1 _ _ HT5.out).mono ?_
          rintro e w5 ⟨rfl, rfl⟩
          go_wp2_with fail
          refine (HL2 _ _ HT5.out).mono ?_
          rintro e w5 ⟨rfl, rfl⟩
          go_wp2
          go_roundg (gk - 1)
          case measure => omega
          case rel => exact ⟨i + 1, es2, by omega, by omega, by go_num, by omega, HT5, HB5⟩
        · have hk2z : (kind == 2) = false := by simpa using hk2
          clear HD1 HD2
          go_wp2_with fail
          refine (HG1 _ HTW3.out).mono ?_
          rintro e w4 ⟨rfl, hb4⟩
          have HT4 : Hid (Pr w4 w.heap.size p x es q y es) := HTW3.out.keep hb4
          have HB4 := step_below HB3 hb4
          clear hb4
          go_wp2_with fail
          refine (HG2 _ HT4.out).mono ?_
          rintro e w5 ⟨rfl, hb5⟩
          have HT5 : Hid (Pr w5 w.heap.size p x es q y es) := HT4.out.keep hb5
          have HB5 := step_below HB4 hb5
          clear hb5 HT4 HB4 HG1 HG2
          go_wp2_with fail
          refine (HL1 _ _ HT5.out).mono ?_
          rintro e w5 ⟨rfl, rfl⟩
          go_wp2_with fail
          refine (HL2 _ _ HT5.out).mono ?_
          rintro e w5 ⟨rfl, rfl⟩
          go_wp2
          go_roundg (gk - 1)
          case measure => omega
          case rel => exact ⟨i + 1, es, by omega, by omega, by go_num, by omega, HT5, HB5⟩
    · have HK1 := Pr.keys _ p x q y es es wr HTW.out
      have HLe : Hid (es.length ≤ 150) := by show _ ≤ _; omega
      have hstop : (¬ (i : Int) < n) ∨ ((i : Int) < n ∧ ¬ (i : Int) < 150) := by
        by_cases h1 : (i : Int) < n
        · exact .inr ⟨h1, fun h2 => hgo ⟨h1, h2⟩⟩
        · exact .inl h1
      clear hgo
      rcases hstop with s1 | ⟨s1, s2⟩
      all_goals
        go_wp2_with fail
        refine HK1.mono ?_
        rintro e w4 ⟨hb4, a4, n4, c4, ks4, rfl, hO4, hp4⟩
        have HT4 : Hid (Pr w4 w.heap.size p x es q y es) := HTW.out.keep hb4
        have HB4 := step_below HB hb4
        have HO4 : Hid (OwnS w4 0 a4 n4 c4 ks4) := OwnR.low hO4 (Nat.zero_le _)
        have HP4 : Hid (ks4.Perm (keysOf es)) := hp4
        have HK2 := Pr.keys _ q y p x es es w4 HT4.out.symm
        clear hb4 hO4 hp4 HK1
        go_wp2_with fail
        refine HK2.mono ?_
        rintro e w5 ⟨hb5, a5, n5, c5, ks5, rfl, hO5, hp5⟩
        have HB5 := step_below HB4 hb5
        have HO45 : Hid (OwnS w5 0 a4 n4 c4 ks4) := OwnR.keep HO4.out hb5
        have HO5 : Hid (OwnS w5 0 a5 n5 c5 ks5) := OwnR.low hO5 (Nat.zero_le _)
        have HP5 : Hid (ks4.Perm ks5) := HP4.out.trans hp5.symm
        have HL5 : Hid (ks4.length = es.length) := by show _ = _; rw [HP4.out.length_eq, List.length_map]
        clear hb5 hO5 hp5 HK2
        obtain rfl : n5 = n4 := by have h1 := OwnS.len HO45.out; have h2 := OwnS.len HO5.out; have h3 := HP5.out.length_eq; omega
        have hBag := Bag_any a4 a5 n5 c4 c5 ks4 ks5 w5 HO45.out HO5.out (by have h1 := OwnS.len HO45.out; have h2 := HL5.out; have h3 := HLe.out; omega) HP5.out
        go_wp2_with fail
        refine hBag.mono ?_
        rintro e w6 ⟨rfl, hb6⟩
        have HB6 := step_below HB5 hb6
        clear hb6 hBag
        go_wp2_with fail
        refine (HKn _).mono ?_
        rintro e w7 ⟨rfl, hb7⟩
        have HB7 := step_below HB6 hb7
        clear hb7
        go_wp2
        go_ret
        exact ⟨rfl, HB7.out⟩
end Go.Proofs.Ytejnmikbbnckeaa
