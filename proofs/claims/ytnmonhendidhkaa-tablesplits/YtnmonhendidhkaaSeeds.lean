/-
  TableSeeds: two tables of unlike seeds, side by side.
-/
import Derived.Test.YtnmonhendidhkaaRdA
namespace Go.Proofs.Ytnmonhendidhkaa
open Go.RowKit Go.PlainAid

/-- Two tables that have the same. -/
structure Two (w : World) (B p b x q c y : Nat) (es : List En) : Prop where
  one : Tbl w B p b x es
  two : Tbl w B q c y es
  ne : p ≠ q
  neb : b ≠ c
theorem Two.keep {w wn : World} {B p b x q c y : Nat} {es : List En} (h : Two w B p b x q c y es) (hb : Below w.heap.size w wn) : Two wn B p b x q c y es := ⟨h.one.keep hb, h.two.keep hb, h.ne, h.neb⟩
theorem Two.first {w w1 : World} {B p b b1 x q c y : Nat} {es : List En} (h : Two w B p b x q c y es) (hm : Moves w w1 p b) (hb : b1 = b ∨ w.heap.size ≤ b1) : Tbl w1 B q c y es ∧ b1 ≠ c := by
  refine ⟨h.two.moves h.one hm h.ne.symm h.neb.symm, ?_⟩
  have := h.two.lt
  rcases hb with rfl | hb
  · exact h.neb
  · omega
theorem Two.second {w w1 : World} {B p b x q c c1 y : Nat} {es fs : List En} (h1 : Tbl w B p b x fs) (h2 : Tbl w B q c y es) (hne : p ≠ q) (hneb : b ≠ c) (hm : Moves w w1 q c) (hT : Tbl w1 B q c1 y fs) (hb : c1 = c ∨ w.heap.size ≤ c1) : Two w1 B p b x q c1 y fs := by
  refine ⟨h1.moves h2 hm hne hneb, hT, hne, ?_⟩
  have := h1.lt
  rcases hb with rfl | hb
  · exact hneb
  · omega
theorem key_parts {es : List En} {k : ByteArray} (h : k ∈ keysOf es) : ∃ a u c, es = a ++ (k, u) :: c := by
  obtain ⟨e, he, rfl⟩ := List.mem_map.1 h
  obtain ⟨a, c, h⟩ := List.append_of_mem he
  exact ⟨a, e.2, c, h⟩

set_option maxRecDepth 100000 in
set_option maxHeartbeats 8000000 in
theorem seeds_any (x y : Nat) (a : Option Addr) (n cap : Nat) (w : World) (hx : x < 18446744073709551616) (hy : y < 18446744073709551616) (hR : RdA w a n) :
    Calls Try.prog 7 #[.int .u64 x, .int .u64 y, .slice a n cap] w fun e w' => e = .returned (.bool true) ∧ Below w.heap.size w w' := by
  have HN1 := fun w => NewT x w hx
  have HN2 := fun w => NewT y w hy
  have HR : Hid (RdA w a n) := hR
  have HKn := known_any
  have hn : n ≤ 9223372036854775807 := hR.max
  have HKY := key_any
  clear hR
  go_enter Try.func7, Try.ntmps7
  go_wp2_with fail
  refine (HN1 _).mono ?_
  rintro e w1 ⟨hb1, p, b, rfl, hT1⟩
  have HB1 : Hid (Below w.heap.size w w1) := hb1
  have HT1 : Hid (Tbl w1 w.heap.size p b x []) := hT1
  clear hb1 hT1 HN1
  go_wp2_with fail
  refine (HN2 _).mono ?_
  rintro e w2 ⟨hb2, q, c, rfl, hT2⟩
  have HB2 := step_below HB1 hb2
  have HTW : Hid (Two w2 w.heap.size p b x q c y []) := by
    have h1 := HT1.out.lt
    have h2 := hT2.lt
    exact ⟨HT1.out.keep hb2, hT2.low HB1.out.size, by omega, by omega⟩
  clear hb2 hT2 HN2 HB1 HT1
  go_wp2
  go_loopg [9, 10, 11, 12, 13, 14, 15, 46, 52, 66, 77] 200 (fun g iv kv okv v1 v2 v3 v4 v5 v6 v7 v8 wr => ∃ (i b c : Nat) (es : List En), i + g = 200 ∧ i ≤ n ∧ iv = .int .i64 i ∧ Hid (Two wr w.heap.size p b x q c y es) ∧ Hid (Below w.heap.size w wr))
  case atStart => exact ⟨0, b, c, [], by omega, Nat.zero_le _, rfl, HTW, HB2⟩
  case round =>
    clear HTW HB2
    obtain ⟨i, b, c, es, hi, hin, rfl, HTW, HB⟩ := hrel
    by_cases hgo : (i : Int) < n ∧ (i : Int) < 200
    · obtain ⟨h1, h2⟩ := hgo
      have h1' : i < n := by omega
      obtain ⟨bb, off, ha, kind, N, V, S, c0, c1, c2, c3⟩ := (HR.out.keep HB.out).elem i h1'
      subst ha
      have hlt : bb < wr.heap.size := World.block_lt_of_cell? _ _ c0
      go_wp2_with fail
      refine (HKY kind N V S _).mono ?_
      rintro e w3 ⟨hb3, k, rfl, hk⟩
      have hk' : k.size ≤ maxLen := by unfold maxLen; omega
      have d0 : w3.cell? ⟨bb, off + i * 4, none⟩ = some (.int .i64 kind) := by rw [hb3.cell (p := ⟨bb, off + i * 4, none⟩) hlt]; exact c0
      have HTW3 : Hid (Two w3 w.heap.size p b x q c y es) := HTW.out.keep hb3
      have HB3 := step_below HB hb3
      have hlen := HTW3.out.one.le
      clear hb3 c0 c1 c2 c3 HTW HB hk HKY HKn hlt
      by_cases hk1 : kind = 1
      · subst hk1
        by_cases hin : k ∈ keysOf es
        · obtain ⟨ea, u, ec, rfl⟩ := key_parts hin
          have HP1 := PutT_old _ _ _ _ ea ec k u i _ HTW3.out.one hk'
          clear hin
          go_wp2_with fail
          refine HP1.mono ?_
          rintro e w4 ⟨rfl, hm4, hT4⟩
          obtain ⟨hY4, hn4⟩ := HTW3.out.first hm4 (.inl rfl)
          have HB4 : Hid (Below w.heap.size w w4) := HB3.out.trans (HTW3.out.one.below hm4)
          have HT4 : Hid (Tbl w4 w.heap.size p b x (ea ++ (k, (i : Int)) :: ec)) := hT4
          have HY4 : Hid (Tbl w4 w.heap.size q c y (ea ++ (k, u) :: ec)) := hY4
          have HP2 := PutT_old _ _ _ _ ea ec k u i _ hY4 hk'
          clear hm4 hT4 hY4 HP1
          go_wp2_with fail
          refine HP2.mono ?_
          rintro e w5 ⟨rfl, hm5, hT5⟩
          have HTW5 : Hid (Two w5 w.heap.size p b x q c y (ea ++ (k, (i : Int)) :: ec)) := Two.second HT4.out HY4.out HTW3.out.ne hn4 hm5 hT5 (.inl rfl)
          have HB5 : Hid (Below w.heap.size w w5) := HB4.out.trans (HY4.out.below hm5)
          clear hm5 hT5 HP2
          go_wp2_with fail
          refine (LenT _ _ _ _ _ _ HTW5.out.one).mono ?_
          rintro e w5 ⟨rfl, rfl⟩
          go_wp2_with fail
          refine (LenT _ _ _ _ _ _ HTW5.out.two).mono ?_
          rintro e w5 ⟨rfl, rfl⟩
          go_wp2
          go_roundg (gk - 1)
          case measure => omega
          case rel => exact ⟨i + 1, _, _, _, by omega, by omega, by go_num, HTW5, HB5⟩
        · by_cases hroom : es.length < 112
          · have HP1 := PutT_new _ _ _ _ es k i _ HTW3.out.one hk' hin hroom
            go_wp2_with fail
            refine HP1.mono ?_
            rintro e w4 ⟨rfl, hm4, b4, hT4, hb4⟩
            obtain ⟨hY4, hn4⟩ := HTW3.out.first hm4 hb4
            have HB4 : Hid (Below w.heap.size w w4) := HB3.out.trans (HTW3.out.one.below hm4)
            have HT4 : Hid (Tbl w4 w.heap.size p b4 x (es ++ [(k, (i : Int))])) := hT4
            have HY4 : Hid (Tbl w4 w.heap.size q c y es) := hY4
            have HP2 := PutT_new _ _ _ _ es k i _ hY4 hk' hin hroom
            clear hm4 hT4 hY4 HP1 hb4
            go_wp2_with fail
            refine HP2.mono ?_
            rintro e w5 ⟨rfl, hm5, c5, hT5, hc5⟩
            have HTW5 : Hid (Two w5 w.heap.size p b4 x q c5 y (es ++ [(k, (i : Int))])) := Two.second HT4.out HY4.out HTW3.out.ne hn4 hm5 hT5 hc5
            have HB5 : Hid (Below w.heap.size w w5) := HB4.out.trans (HY4.out.below hm5)
            clear hm5 hT5 HP2 hc5 hin
            go_wp2_with fail
            refine (LenT _ _ _ _ _ _ HTW5.out.one).mono ?_
            rintro e w5 ⟨rfl, rfl⟩
            go_wp2_with fail
            refine (LenT _ _ _ _ _ _ HTW5.out.two).mono ?_
            rintro e w5 ⟨rfl, rfl⟩
            go_wp2
            go_roundg (gk - 1)
            case measure => omega
            case rel => exact ⟨i + 1, _, _, _, by omega, by omega, by go_num, HTW5, HB5⟩
          · have HP1 := PutT_full _ _ _ _ es k i _ HTW3.out.one hk' hin (by omega)
            go_wp2_with fail
            refine HP1.mono ?_
            rintro e w4 ⟨rfl, hb4⟩
            have HTW4 : Hid (Two w4 w.heap.size p b x q c y es) := HTW3.out.keep hb4
            have HB4 := step_below HB3 hb4
            have HP2 := PutT_full _ _ _ _ es k i _ HTW4.out.two hk' hin (by omega)
            clear hb4 HP1
            go_wp2_with fail
            refine HP2.mono ?_
            rintro e w5 ⟨rfl, hb5⟩
            have HTW5 : Hid (Two w5 w.heap.size p b x q c y es) := HTW4.out.keep hb5
            have HB5 := step_below HB4 hb5
            clear hb5 HP2 hin
            go_wp2_with fail
            refine (LenT _ _ _ _ _ _ HTW5.out.one).mono ?_
            rintro e w5 ⟨rfl, rfl⟩
            go_wp2_with fail
            refine (LenT _ _ _ _ _ _ HTW5.out.two).mono ?_
            rintro e w5 ⟨rfl, rfl⟩
            go_wp2
            go_roundg (gk - 1)
            case measure => omega
            case rel => exact ⟨i + 1, _, _, _, by omega, by omega, by go_num, HTW5, HB5⟩
      · have hk1z : (kind == 1) = false := by simpa using hk1
        by_cases hk2 : kind = 2
        · subst hk2
          by_cases hin : k ∈ keysOf es
          · obtain ⟨ea, u, ec, rfl⟩ := key_parts hin
            have HP1 := DeleteT_yes _ _ _ _ ea ec k u _ HTW3.out.one hk'
            clear hin
            go_wp2_with fail
            refine HP1.mono ?_
            rintro e w4 ⟨rfl, hm4, hT4⟩
            obtain ⟨hY4, hn4⟩ := HTW3.out.first hm4 (.inl rfl)
            have HB4 : Hid (Below w.heap.size w w4) := HB3.out.trans (HTW3.out.one.below hm4)
            have HT4 : Hid (Tbl w4 w.heap.size p b x (ea ++ ec)) := hT4
            have HY4 : Hid (Tbl w4 w.heap.size q c y (ea ++ (k, u) :: ec)) := hY4
            have HP2 := DeleteT_yes _ _ _ _ ea ec k u _ hY4 hk'
            clear hm4 hT4 hY4 HP1
            go_wp2_with fail
            refine HP2.mono ?_
            rintro e w5 ⟨rfl, hm5, hT5⟩
            have HTW5 : Hid (Two w5 w.heap.size p b x q c y (ea ++ ec)) := Two.second HT4.out HY4.out HTW3.out.ne hn4 hm5 hT5 (.inl rfl)
            have HB5 : Hid (Below w.heap.size w w5) := HB4.out.trans (HY4.out.below hm5)
            clear hm5 hT5 HP2
            go_wp2_with fail
            refine (LenT _ _ _ _ _ _ HTW5.out.one).mono ?_
            rintro e w5 ⟨rfl, rfl⟩
            go_wp2_with fail
            refine (LenT _ _ _ _ _ _ HTW5.out.two).mono ?_
            rintro e w5 ⟨rfl, rfl⟩
            go_wp2
            go_roundg (gk - 1)
            case measure => omega
            case rel => exact ⟨i + 1, _, _, _, by omega, by omega, by go_num, HTW5, HB5⟩
          · have HP1 := DeleteT_no _ _ _ _ es k _ HTW3.out.one hk' hin
            go_wp2_with fail
            refine HP1.mono ?_
            rintro e w4 ⟨rfl, hb4⟩
            have HTW4 : Hid (Two w4 w.heap.size p b x q c y es) := HTW3.out.keep hb4
            have HB4 := step_below HB3 hb4
            have HP2 := DeleteT_no _ _ _ _ es k _ HTW4.out.two hk' hin
            clear hb4 HP1
            go_wp2_with fail
            refine HP2.mono ?_
            rintro e w5 ⟨rfl, hb5⟩
            have HTW5 : Hid (Two w5 w.heap.size p b x q c y es) := HTW4.out.keep hb5
            have HB5 := step_below HB4 hb5
            clear hb5 HP2 hin
            go_wp2_with fail
            refine (LenT _ _ _ _ _ _ HTW5.out.one).mono ?_
            rintro e w5 ⟨rfl, rfl⟩
            go_wp2_with fail
            refine (LenT _ _ _ _ _ _ HTW5.out.two).mono ?_
            rintro e w5 ⟨rfl, rfl⟩
            go_wp2
            go_roundg (gk - 1)
            case measure => omega
            case rel => exact ⟨i + 1, _, _, _, by omega, by omega, by go_num, HTW5, HB5⟩
        · have hk2z : (kind == 2) = false := by simpa using hk2
          by_cases hin : k ∈ keysOf es
          · obtain ⟨ea, u, ec, rfl⟩ := key_parts hin
            have HP1 := GetT_some _ _ _ _ _ k u _ HTW3.out.one hk' (by simp)
            clear hin
            go_wp2_with fail
            refine HP1.mono ?_
            rintro e w4 ⟨rfl, hb4⟩
            have HTW4 : Hid (Two w4 w.heap.size p b x q c y (ea ++ (k, u) :: ec)) := HTW3.out.keep hb4
            have HB4 := step_below HB3 hb4
            have HP2 := GetT_some _ _ _ _ _ k u _ HTW4.out.two hk' (by simp)
            clear hb4 HP1
            go_wp2_with fail
            refine HP2.mono ?_
            rintro e w5 ⟨rfl, hb5⟩
            have HTW5 : Hid (Two w5 w.heap.size p b x q c y (ea ++ (k, u) :: ec)) := HTW4.out.keep hb5
            have HB5 := step_below HB4 hb5
            clear hb5 HP2
            go_wp2_with fail
            refine (LenT _ _ _ _ _ _ HTW5.out.one).mono ?_
            rintro e w5 ⟨rfl, rfl⟩
            go_wp2_with fail
            refine (LenT _ _ _ _ _ _ HTW5.out.two).mono ?_
            rintro e w5 ⟨rfl, rfl⟩
            go_wp2
            go_roundg (gk - 1)
            case measure => omega
            case rel => exact ⟨i + 1, _, _, _, by omega, by omega, by go_num, HTW5, HB5⟩
          · have HP1 := GetT_none _ _ _ _ _ k _ HTW3.out.one hk' hin
            go_wp2_with fail
            refine HP1.mono ?_
            rintro e w4 ⟨rfl, hb4⟩
            have HTW4 : Hid (Two w4 w.heap.size p b x q c y es) := HTW3.out.keep hb4
            have HB4 := step_below HB3 hb4
            have HP2 := GetT_none _ _ _ _ _ k _ HTW4.out.two hk' hin
            clear hb4 HP1
            go_wp2_with fail
            refine HP2.mono ?_
            rintro e w5 ⟨rfl, hb5⟩
            have HTW5 : Hid (Two w5 w.heap.size p b x q c y es) := HTW4.out.keep hb5
            have HB5 := step_below HB4 hb5
            clear hb5 HP2 hin
            go_wp2_with fail
            refine (LenT _ _ _ _ _ _ HTW5.out.one).mono ?_
            rintro e w5 ⟨rfl, rfl⟩
            go_wp2_with fail
            refine (LenT _ _ _ _ _ _ HTW5.out.two).mono ?_
            rintro e w5 ⟨rfl, rfl⟩
            go_wp2
            go_roundg (gk - 1)
            case measure => omega
            case rel => exact ⟨i + 1, _, _, _, by omega, by omega, by go_num, HTW5, HB5⟩
    · have hlen := HTW.out.one.le
      by_cases h1 : (i : Int) < n
      · have h2 : ¬ (i : Int) < 200 := fun h => hgo ⟨h1, h⟩
        clear hgo
        go_wp2_with fail
        refine (KeysT _ _ _ _ _ _ HTW.out.one).mono ?_
        rintro e w3 ⟨hb3, a3, n3, c3, k3, rfl, hO3, hp3⟩
        have HTW3 : Hid (Two w3 w.heap.size p b x q c y es) := HTW.out.keep hb3
        have HB3 := step_below HB hb3
        have HO3 : Hid (OwnS w3 0 a3 n3 c3 k3) := OwnR.low hO3 (Nat.zero_le _)
        have HP3 : Hid (k3.Perm (keysOf es)) := hp3
        clear hb3 hO3 hp3
        go_wp2_with fail
        refine (KeysT _ _ _ _ _ _ HTW3.out.two).mono ?_
        rintro e w4 ⟨hb4, a4, n4, c4, k4, rfl, hO4, hp4⟩
        have HB4 := step_below HB3 hb4
        have hn3 : n4 = n3 := by
          have e1 := OwnS.len HO3.out
          have e2 := OwnS.len hO4
          have e3 := HP3.out.length_eq
          have e4 := hp4.length_eq
          omega
        subst hn3
        have hn4 : n4 ≤ 1000000 := by
          have e2 := OwnS.len hO4
          have e4 := hp4.length_eq
          rw [List.length_map] at e4
          omega
        have HBg := Bag_any a3 a4 n4 c3 c4 k3 k4 w4 (OwnR.keep HO3.out hb4) (OwnR.low hO4 (Nat.zero_le _)) hn4 (HP3.out.trans hp4.symm)
        clear hb4 hO4 hp4 hn4
        go_wp2_with fail
        refine HBg.mono ?_
        rintro e w5 ⟨rfl, hb5⟩
        have HB5 := step_below HB4 hb5
        clear hb5 HBg
        go_wp2_with fail
        refine (HKn _).mono ?_
        rintro e w6 ⟨rfl, hb6⟩
        have HB6 := step_below HB5 hb6
        clear hb6
        go_wp2
        go_ret
        exact ⟨rfl, HB6.out⟩
      · clear hgo
        go_wp2_with fail
        refine (KeysT _ _ _ _ _ _ HTW.out.one).mono ?_
        rintro e w3 ⟨hb3, a3, n3, c3, k3, rfl, hO3, hp3⟩
        have HTW3 : Hid (Two w3 w.heap.size p b x q c y es) := HTW.out.keep hb3
        have HB3 := step_below HB hb3
        have HO3 : Hid (OwnS w3 0 a3 n3 c3 k3) := OwnR.low hO3 (Nat.zero_le _)
        have HP3 : Hid (k3.Perm (keysOf es)) := hp3
        clear hb3 hO3 hp3
        go_wp2_with fail
        refine (KeysT _ _ _ _ _ _ HTW3.out.two).mono ?_
        rintro e w4 ⟨hb4, a4, n4, c4, k4, rfl, hO4, hp4⟩
        have HB4 := step_below HB3 hb4
        have hn3 : n4 = n3 := by
          have e1 := OwnS.len HO3.out
          have e2 := OwnS.len hO4
          have e3 := HP3.out.length_eq
          have e4 := hp4.length_eq
          omega
        subst hn3
        have hn4 : n4 ≤ 1000000 := by
          have e2 := OwnS.len hO4
          have e4 := hp4.length_eq
          rw [List.length_map] at e4
          omega
        have HBg := Bag_any a3 a4 n4 c3 c4 k3 k4 w4 (OwnR.keep HO3.out hb4) (OwnR.low hO4 (Nat.zero_le _)) hn4 (HP3.out.trans hp4.symm)
        clear hb4 hO4 hp4 hn4
        go_wp2_with fail
        refine HBg.mono ?_
        rintro e w5 ⟨rfl, hb5⟩
        have HB5 := step_below HB4 hb5
        clear hb5 HBg
        go_wp2_with fail
        refine (HKn _).mono ?_
        rintro e w6 ⟨rfl, hb6⟩
        have HB6 := step_below HB5 hb6
        clear hb6
        go_wp2
        go_ret
        exact ⟨rfl, HB6.out⟩
end Go.Proofs.Ytnmonhendidhkaa
