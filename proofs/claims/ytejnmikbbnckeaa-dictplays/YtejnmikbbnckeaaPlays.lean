/-
  DictPlays: whatever is called, the dict is what the document says.
-/
import Derived.Test.YtejnmikbbnckeaaPl
import Derived.Test.YtejnmikbbnckeaaRdA
namespace Go.Proofs.Ytejnmikbbnckeaa
open Go.RowKit Go.PlainAid

set_option maxRecDepth 100000 in
set_option maxHeartbeats 16000000 in
theorem play_any (x : Nat) (a : Option Addr) (n cap : Nat) (w : World) (hx : x < 18446744073709551616) (hR : RdA w a n) :
    Calls Try.prog 18 #[.int .u64 x, .slice a n cap, .int .i64 60] w fun e w' => e = .returned (.bool true) ∧ Below w.heap.size w w' := by
  have HN1 := DNew x w hx
  have HN2 := fun w => RNew x w hx
  have HR : Hid (RdA w a n) := hR
  have hn : n ≤ 9223372036854775807 := hR.max
  have HKY := key_law
  clear hR
  go_enter Try.func18, Try.ntmps18
  go_wp2_with fail
  refine HN1.mono ?_
  rintro e w1 ⟨hb1, d, rfl, hD1⟩
  have HB1 : Hid (Below w.heap.size w w1) := hb1
  have HD1 : Hid (Dic w1 w.heap.size d x 0 [(0, 0)] []) := hD1
  clear hb1 hD1 HN1
  go_wp2_with fail
  refine (HN2 _).mono ?_
  rintro e w2 ⟨hb2, r, pr, rfl, hR2⟩
  have HB2 := step_below HB1 hb2
  have HS2 : Hid (Sx w2 w.heap.size d w1.heap.size r x []) := Sx.start HD1.out hb2 hR2
  have HBB : Hid (w.heap.size ≤ w1.heap.size) := HB1.out.size
  generalize w1.heap.size = B' at HS2 HBB
  clear hb2 hR2 HN2 HB1 HD1
  go_wp2
  go_loopg [9, 10, 11, 12, 13, 14, 15, 16, 44, 55, 65, 78, 87] 60 (fun g mv iv kv v1 v2 v3 v4 v5 v6 v7 v8 v9 v10 wr => ∃ (i m : Nat) (es : List En), i + g = 60 ∧ i ≤ n ∧ iv = .int .i64 i ∧ mv = .int .i64 m ∧ m ≤ 20 * i ∧ es.length ≤ 21 * i ∧ Hid (Sx wr w.heap.size d B' r x es) ∧ Hid (Below w.heap.size w wr))
  case atStart => exact ⟨0, 0, [], by omega, Nat.zero_le _, rfl, rfl, Nat.le_refl _, Nat.le_refl _, HS2, HB2⟩
  case round =>
    clear HS2 HB2
    obtain ⟨i, m, es, hi, hin, rfl, rfl, hm, hle, HS, HB⟩ := hrel
    by_cases hgo : (i : Int) < n ∧ (i : Int) < 60
    · obtain ⟨h1, h2⟩ := hgo
      have h1' : i < n := by omega
      obtain ⟨bb, off, ha, kind, N, V, S, c0, c1, c2, c3⟩ := (HR.out.keep HB.out).elem i h1'
      subst ha
      have hlt : bb < wr.heap.size := World.block_lt_of_cell? _ _ c0
      go_wp2_with fail
      refine (HKY kind N V S _).mono ?_
      rintro e w3 ⟨hb3, k, rfl, hk⟩
      have hk' : k.size ≤ maxLen := by unfold maxLen; omega
      have d0 : w3.cell? ⟨bb, off + i * 4, none⟩ = some (.int .i64 kind) := by rw [hb3.cell (p := ⟨bb, off + i * 4, none⟩) hlt]; exact c0
      have d2 : w3.cell? ⟨bb, off + i * 4 + 2, none⟩ = some (.int .i64 V) := by rw [hb3.cell (p := ⟨bb, off + i * 4 + 2, none⟩) hlt]; exact c2
      have HS3 : Hid (Sx w3 w.heap.size d B' r x es) := HS.out.keep hb3
      have HB3 := step_below HB hb3
      have HG : ∀ w' es, Sx w' w.heap.size d B' r x es → Calls Try.prog 30 #[ptr d, .string k] w' fun e w'' => e = .returned (.tuple #[.int .i64 (getE es k), .bool (hasK es k)]) ∧ Below w'.heap.size w' w'' := fun w' es h => Sx.get _ d B' r x es k w' h hk'
      have HH : ∀ w' es, Sx w' w.heap.size d B' r x es → Calls Try.prog 48 #[ptr r, .string k] w' fun e w'' => e = .returned (.bool (hasK es k)) ∧ Below w'.heap.size w' w'' := fun w' es h => Sx.has _ d B' r x es k w' h hk'
      clear hb3 c0 c1 c2 c3 HS HB hk HKY hlt
      by_cases hk1 : kind = 1
      · subst hk1
        have hP1 := Sx.rput w.heap.size d B' r x es k i w3 HS3.out HBB.out hk' (by omega)
        have HP2 : ∀ w', Sm w' w.heap.size d B' r x es k i → Calls Try.prog 13 #[ptr d, .string k, .int .i64 i] w' fun e w'' => e = .returned (.int .i64 0) ∧ Sx w'' w.heap.size d B' r x (putE es k i) ∧ Below w.heap.size w' w'' := fun w' h => Sm.put _ d B' r x es k i w' h hk' (by omega)
        have HG1 : ∀ w', Sx w' w.heap.size d B' r x (putE es k i) → Calls Try.prog 30 #[ptr d, .string k] w' fun e w'' => e = .returned (.tuple #[.int .i64 i, .bool true]) ∧ Below w'.heap.size w' w'' := fun w' h => Sx.get_put _ d B' r x es k i w' h hk'
        have hpl := putE_len es k i
        generalize putE es k i = es1 at HP2 HG1 hpl
        clear d2
        go_wp2_with fail
        refine hP1.mono ?_
        rintro e w4 ⟨rfl, hM4, hb4⟩
        have hP2 := HP2 w4 hM4
        have HB4 : Hid (Below w.heap.size w w4) := HB3.out.trans hb4
        clear hP1 hM4 hb4 HP2
        go_wp2_with fail
        refine hP2.mono ?_
        rintro e w5 ⟨rfl, hS5, hb5⟩
        have HS5 : Hid (Sx w5 w.heap.size d B' r x es1) := hS5
        have HB5 : Hid (Below w.heap.size w w5) := HB4.out.trans hb5
        have hG1 := HG1 w5 hS5
        clear hP2 hS5 hb5 HG1 HB4
        go_wp2_with fail
        refine hG1.mono ?_
        rintro e w6 ⟨rfl, hb6⟩
        have HS6 : Hid (Sx w6 w.heap.size d B' r x es1) := HS5.out.keep hb6
        have HB6 := step_below HB5 hb6
        clear hb6 hG1 HS5 HB5
        go_wp2
        go_roundg (gk - 1)
        case measure => omega
        case rel => exact ⟨i + 1, m, es1, by omega, by omega, by go_num, rfl, by omega, by omega, HS6, HB6⟩
      · have hk1z : (kind == 1) = false := by simpa using hk1
        clear hk1
        by_cases hk2 : kind = 2
        · subst hk2
          have hP1 := Sx.del w.heap.size d B' r x es k w3 HS3.out hk'
          have HP2 : ∀ w', Sn w' w.heap.size d B' r x es k → Calls Try.prog 52 #[ptr r, .string k] w' fun e w'' => e = .returned (.bool (hasK es k)) ∧ Sx w'' w.heap.size d B' r x (delE es k) ∧ Below w.heap.size w' w'' := fun w' h => Sn.rdel _ d B' r x es k w' h HBB.out hk'
          have hpl := delE_len es k
          generalize delE es k = es1 at HP2 hpl
          generalize hasK es k = hb0 at hP1 HP2
          clear d2
          go_wp2_with fail
          refine hP1.mono ?_
          rintro e w4 ⟨rfl, hM4, hb4⟩
          have hP2 := HP2 w4 hM4
          have HB4 : Hid (Below w.heap.size w w4) := HB3.out.trans hb4
          clear hP1 hM4 hb4 HP2
          go_wp2_with fail
          refine hP2.mono ?_
          rintro e w6 ⟨rfl, hS6, hb6⟩
          have HS6 : Hid (Sx w6 w.heap.size d B' r x es1) := hS6
          have HB6 : Hid (Below w.heap.size w w6) := HB4.out.trans hb6
          clear hP2 hS6 hb6 HB4
          go_wp2
          go_roundg (gk - 1)
          case measure => omega
          case rel => exact ⟨i + 1, m, es1, by omega, by omega, by go_num, rfl, by omega, by omega, HS6, HB6⟩
        · have hk2z : (kind == 2) = false := by simpa using hk2
          clear hk2
          by_cases hk4 : kind = 4
          · subst hk4
            clear hk1z hk2z
            go_wp2_with fail
            refine (Within_any V 0 20 w3 (by decide) (by decide) (by decide)).mono ?_
            rintro e w4 ⟨rfl, z, hz0, hz1, rfl⟩
            obtain ⟨Z, rfl⟩ := Int.eq_ofNat_of_zero_le hz0
            have hZ : Z ≤ 20 := by omega
            obtain ⟨g0, rfl⟩ : ∃ g0, gk = g0 + 1 := ⟨gk - 1, by omega⟩
            clear d0 d2 hz0 hz1 HG HH
            go_wp2
            go_loopg [9, 14] Z (fun q mv jv wr => ∃ (m1 : Nat) (es1 : List En), jv = .int .i64 q ∧ mv = .int .i64 m1 ∧ m1 + q = m + Z ∧ es1.length + q ≤ es.length + Z ∧ Hid (Sx wr w.heap.size d B' r x es1) ∧ Hid (Below w.heap.size w wr))
            case atStart => exact ⟨m, es, rfl, rfl, rfl, Nat.le_refl _, HS3, HB3⟩
            case round =>
              clear HS3 HB3
              obtain ⟨m1, es1, rfl, rfl, hm1, hle1, HS3, HB3⟩ := hrel
              by_cases hz : (0 : Int) < gk
              · have hw1 : IntKind.i64.wrap ((m1 : Int) + 1) = (m1 : Int) + 1 := by rw [IntKind.wrap_i64]; omega
                have HNm : ∀ w, Calls Try.prog 12 #[.int .i64 ((m1 : Int) + 1)] w fun e w' => e = .returned (.string (nm (m1 + 1))) ∧ w' = w := fun w => name_any (m1 + 1) w (by omega)
                have hks : (nm (m1 + 1)).size ≤ maxLen := by have := nm_size (m1 + 1); unfold maxLen; omega
                have hP1 := Sx.rput w.heap.size d B' r x es1 (nm (m1 + 1)) ((m1 : Int) + 1) wr HS3.out HBB.out hks (by omega)
                have HP2 : ∀ w', Sm w' w.heap.size d B' r x es1 (nm (m1 + 1)) ((m1 : Int) + 1) → Calls Try.prog 13 #[ptr d, .string (nm (m1 + 1)), .int .i64 ((m1 : Int) + 1)] w' fun e w'' => e = .returned (.int .i64 0) ∧ Sx w'' w.heap.size d B' r x (putE es1 (nm (m1 + 1)) ((m1 : Int) + 1)) ∧ Below w.heap.size w' w'' := fun w' h => Sm.put _ d B' r x es1 _ _ w' h hks (by omega)
                have hpl := putE_len es1 (nm (m1 + 1)) ((m1 : Int) + 1)
                generalize putE es1 (nm (m1 + 1)) ((m1 : Int) + 1) = es2 at HP2 hpl
                generalize nm (m1 + 1) = kk at HNm hP1 HP2
                clear hks
                go_wp2_with fail
                refine (HNm _).mono ?_
                rintro e wr ⟨rfl, rfl⟩
                go_wp2_with fail
                refine hP1.mono ?_
                rintro e w5 ⟨rfl, hM5, hb5⟩
                have hP2 := HP2 w5 hM5
                have HB5 : Hid (Below w.heap.size w w5) := HB3.out.trans hb5
                clear hP1 hM5 hb5 HP2 HS3 HB3
                go_wp2_with fail
                refine (HNm _).mono ?_
                rintro e w5 ⟨rfl, rfl⟩
                go_wp2_with fail
                refine hP2.mono ?_
                rintro e w6 ⟨rfl, hS6, hb6⟩
                have HS6 : Hid (Sx w6 w.heap.size d B' r x es2) := hS6
                have HB6 : Hid (Below w.heap.size w w6) := HB5.out.trans hb6
                clear hP2 hS6 hb6 HB5
                go_wp2
                go_roundg (gk - 1)
                case measure => omega
                case rel => exact ⟨m1 + 1, es2, by go_num, by go_num, by omega, by omega, HS6, HB6⟩
              · go_wp2
                go_roundg g0
                case measure => omega
                case rel => exact ⟨i + 1, m1, es1, by omega, by omega, by go_num, rfl, by omega, by omega, HS3, HB3⟩
          · have hk4z : (kind == 4) = false := by simpa using hk4
            have hg := HG w3 es HS3.out
            generalize getE es k = gv at hg
            clear hk4 d2
            go_wp2_with fail
            refine hg.mono ?_
            rintro e w7 ⟨rfl, hb7⟩
            have HS7 : Hid (Sx w7 w.heap.size d B' r x es) := HS3.out.keep hb7
            have HB7 := step_below HB3 hb7
            have hh := HH w7 es HS7.out
            clear hb7 hg HS3 HB3
            generalize hasK es k = hb at hh
            go_wp2_with fail
            refine hh.mono ?_
            rintro e w8 ⟨rfl, hb8⟩
            have HS8 : Hid (Sx w8 w.heap.size d B' r x es) := HS7.out.keep hb8
            have HB8 := step_below HB7 hb8
            clear hb8 hh HS7 HB7
            go_wp2
            go_roundg (gk - 1)
            case measure => omega
            case rel => exact ⟨i + 1, m, es, by omega, by omega, by go_num, rfl, by omega, by omega, HS8, HB8⟩
    · have hstop : (¬ (i : Int) < n) ∨ ((i : Int) < n ∧ ¬ (i : Int) < 60) := by
        by_cases h1 : (i : Int) < n
        · exact .inr ⟨h1, fun h2 => hgo ⟨h1, h2⟩⟩
        · exact .inl h1
      have hwr : IntKind.u64.wrap (n : Int) = n := by rw [IntKind.wrap_u64]; omega
      have HLe : Hid (es.length ≤ 100000) := by show _ ≤ _; omega
      have hT := Sx.tells w.heap.size d B' r x es n wr HS.out (by omega) HLe.out
      have HSc : ∀ w' c count, Sx w' w.heap.size d B' r x es → c < 18446744073709551616 → Calls Try.prog 15 #[ptr d, ptr r, .int .u64 (c : Nat), .int .i64 count] w' fun e w'' => e = .returned (.bool true) ∧ Below w'.heap.size w' w'' := fun w' c count h hc => Sx.scans _ d B' r x es c count w' h hc HLe.out
      have HKe : ∀ w', Sx w' w.heap.size d B' r x es → Calls Try.prog 27 #[ptr d] w' fun e w'' => Below w'.heap.size w' w'' ∧ ∃ a n c ks, e = .returned (.slice a n c) ∧ OwnS w'' w'.heap.size a n c ks ∧ ks.Perm (keysOf es) := fun w' h => by
        obtain ⟨g, sh, h⟩ := h
        exact DKeys _ d x g sh es w' h.1
      have HAl : ∀ w', Sx w' w.heap.size d B' r x es → Calls Try.prog 45 #[ptr r] w' fun e w'' => Below w'.heap.size w' w'' ∧ ∃ a n c ks, e = .returned (.slice a n c) ∧ OwnS w'' w'.heap.size a n c ks ∧ ks.Perm (keysOf es) := fun w' h => by
        obtain ⟨g, sh, h⟩ := h
        exact FAll B' r x g sh (keysOf es) w' h.2
      have HKl : Hid ((keysOf es).length ≤ 1000000) := by
        have h1 : (keysOf es).length = es.length := List.length_map ..
        have h2 := HLe.out
        show _ ≤ _
        omega
      clear hgo HKY
      rcases hstop with s1 | ⟨s1, s2⟩
      all_goals
        go_wp2_with fail
        refine hT.mono ?_
        rintro e w3 ⟨rfl, hb3⟩
        have HS3 : Hid (Sx w3 w.heap.size d B' r x es) := HS.out.keep hb3
        have HB3 := step_below HB hb3
        have h3 := HSc w3 0 5 HS3.out (by decide)
        clear hb3 hT HS HB
        go_wp2_with fail
        refine h3.mono ?_
        rintro e w4 ⟨rfl, hb4⟩
        have HS4 : Hid (Sx w4 w.heap.size d B' r x es) := HS3.out.keep hb4
        have HB4 := step_below HB3 hb4
        have h4 := HSc w4 60 1 HS4.out (by decide)
        clear hb4 h3 HS3 HB3
        go_wp2_with fail
        refine h4.mono ?_
        rintro e w5 ⟨rfl, hb5⟩
        have HS5 : Hid (Sx w5 w.heap.size d B' r x es) := HS4.out.keep hb5
        have HB5 := step_below HB4 hb5
        have h5 := HKe w5 HS5.out
        clear hb5 h4 HS4 HB4
        go_wp2_with fail
        refine h5.mono ?_
        rintro e w6 ⟨hb6, a6, n6, c6, k6, rfl, hO6, hp6⟩
        have HS6 : Hid (Sx w6 w.heap.size d B' r x es) := HS5.out.keep hb6
        have HB6 := step_below HB5 hb6
        have HO6 : Hid (OwnS w6 0 a6 n6 c6 k6 ∧ k6.Perm (keysOf es)) := ⟨OwnR.low hO6 (Nat.zero_le _), hp6⟩
        have h6 := HAl w6 HS6.out
        clear hb6 hO6 hp6 h5 HS5 HB5
        go_wp2_with fail
        refine h6.mono ?_
        rintro e w7 ⟨hb7, a7, n7, c7, k7, rfl, hO7, hp7⟩
        have HB7 := step_below HB6 hb7
        have h7 := Bag_perm a6 a7 n6 n7 c6 c7 k6 k7 w7 (OwnR.keep HO6.out.1 hb7) (OwnR.low hO7 (Nat.zero_le _)) (HO6.out.2.trans hp7.symm) (by rw [HO6.out.2.length_eq]; exact HKl.out)
        clear hb7 hO7 hp7 h6 HS6 HB6
        go_wp2_with fail
        refine h7.mono ?_
        rintro e w8 ⟨rfl, hb8⟩
        have HB8 := step_below HB7 hb8
        clear hb8 h7 HB7
        go_wp2
        go_ret
        exact ⟨rfl, HB8.out⟩

theorem plays_any (x : Nat) (a : Option Addr) (n cap : Nat) (w : World) (hx : x < 18446744073709551616) (hR : RdA w a n) :
    Calls Try.prog 4 #[.int .u64 x, .slice a n cap] w fun e w' => e = .returned (.bool true) ∧ Below w.heap.size w w' := by
  have HP := play_any x a n cap w hx hR
  have HKn := known_any
  clear hR
  go_enter Try.func4, Try.ntmps4
  go_wp2_with fail
  refine HP.mono ?_
  rintro e w1 ⟨rfl, hb1⟩
  have HB1 : Hid (Below w.heap.size w w1) := hb1
  clear hb1 HP
  go_wp2_with fail
  refine (HKn _).mono ?_
  rintro e w2 ⟨rfl, hb2⟩
  have HB2 := step_below HB1 hb2
  clear hb2 HKn
  go_wp2
  go_ret
  exact ⟨rfl, HB2.out⟩
end Go.Proofs.Ytejnmikbbnckeaa
