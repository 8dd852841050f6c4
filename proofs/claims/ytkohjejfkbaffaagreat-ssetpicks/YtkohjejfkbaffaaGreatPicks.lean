/-
  SsetPicks.
-/
import Derived.Test.YtkohjejfkbaffaaGreatG15
namespace Go.Proofs.YtkohjejfkbaffaaGreat
open Go.RowKit Go.PlainAid
open Dk (En Stay hasK putE delE keysOf Dct Dg dtag Turn)

/-- A slice that reads n words. -/
structure RdU (w : World) (a : Option Addr) (n : Nat) (z : Nat → Nat) : Prop where
  max : n ≤ maxLen
  elem : ∀ j, j < n → ∃ b off, a = some ⟨b, off, none⟩ ∧ w.cell? ⟨b, off + j, none⟩ = some (.int .u64 (z j : Nat)) ∧ z j < 18446744073709551616
theorem RdU.keep {w wn : World} {a : Option Addr} {n : Nat} {z : Nat → Nat} (h : RdU w a n z) (hb : Below w.heap.size w wn) : RdU wn a n z :=
  ⟨h.max, fun j hj => by
    obtain ⟨b, off, e, h1, h2⟩ := h.elem j hj
    exact ⟨b, off, e, by rw [hb.cell (p := ⟨b, _, none⟩) (World.block_lt_of_cell? _ _ h1)]; exact h1, h2⟩⟩
/-- The first of many members. -/
def firsts (i : Nat) : List ByteArray := (List.range i).map fun j => mny (j : Nat)
theorem firsts_len (i : Nat) : (firsts i).length = i := by simp [firsts]
theorem firsts_not {i : Nat} (h : i < 676) : mny (i : Nat) ∉ firsts i := by
  intro hm
  obtain ⟨j, hj, e⟩ := List.mem_map.1 hm
  have hj2 := List.mem_range.1 hj
  have := mny_inj (by omega) h e
  omega
theorem firsts_more {i : Nat} (h : i < 676) : addM (firsts i) (mny (i : Nat)) = firsts (i + 1) := by
  rw [addM_no (firsts_not h)]
  unfold firsts
  rw [List.range_succ, List.map_append]
  rfl
theorem remM_less {l : List ByteArray} {k : ByteArray} (hn : l.Nodup) (hk : k ∈ l) : (remM l k).length + 1 = l.length := by
  obtain ⟨b, r, rfl⟩ := List.append_of_mem hk
  rw [remM_mid hn]
  simp
  omega
set_option maxRecDepth 100000 in
set_option maxHeartbeats 4000000 in
theorem picks_any (x : Nat) (en nn : Int) (a : Option Addr) (n cap : Nat) (z : Nat → Nat) (w : World) (hx : x < 18446744073709551616) (ha : RdU w a n z) :
    Calls Tryz.prog 7 #[.int .u64 x, .int .i64 en, .int .i64 nn, .slice a n cap] w fun e w' => e = .returned (.bool true) ∧ Below w.heap.size w w' := by
  have HU : Hid (RdU w a n z) := ha
  have hmx := ha.max
  unfold maxLen at hmx
  have HW1 := fun w => Within_wi en 40 w (by decide)
  have HW2 := fun w => Within_wi nn 60 w (by decide)
  have hE := wi_le en 40
  have hk6 := wi_le nn 60
  generalize wi en 40 = E at HW1 hE
  generalize wi nn 60 = K at HW2 hk6
  have HN := fun w => NewS x E 10 w hx
  rw [lim_self E 512 (by omega)] at HN
  replace HN : ∀ w, Calls Tryz.prog 10 #[.int .u64 x, .agg #[.int .i64 (E : Nat), .int .i64 10]] w fun en w' => Below w.heap.size w w' ∧ ∃ m F, en = .returned (ptr m) ∧ Ss w' w.heap.size m x E 10 [] true F := HN
  clear ha
  go_enter Tryz.func7, Tryz.ntmps7
  go_wp2_with fail
  refine (HW1 _).mono ?_
  rintro e w1 ⟨rfl, rfl⟩
  go_wp2_with fail
  refine (HN _).mono ?_
  rintro e w2 ⟨hb, m, F, rfl, hH⟩
  have HB2 : Hid (Below w1.heap.size w1 w2) := hb
  have HS2 : Hid (Ss w2 w1.heap.size m x E 10 (firsts 0) true F) := hH
  clear hb hH HN HW1
  go_wp2_with fail
  refine (HW2 _).mono ?_
  rintro e w3 ⟨rfl, rfl⟩
  clear HW2
  go_wp2
  go_loopg [11, 12, 13] K (fun g iv v12 v13 wr => ∃ (i : Nat) (pk : Bool) (F1 : List Nat), i + g = K ∧ iv = .int .i64 i ∧ Hid (Ss wr w1.heap.size m x E 10 (firsts i) pk F1) ∧ Hid (Below w1.heap.size w1 wr))
  case atStart => exact ⟨0, true, F, by omega, rfl, HS2, HB2⟩
  case round =>
    obtain ⟨i, pk, F1, hi, rfl, HS, HB⟩ := hrel
    by_cases h8 : (i : Int) < K
    · have HMk := fun w => many_any i w (by omega) (by omega)
      have HA := AddS _ m x E 10 _ pk F1 (mny (i : Nat)) wr HS.out (by rw [mny_size]; decide) (by rw [firsts_len]; omega)
      rw [firsts_more (by omega), hasM_no (firsts_not (by omega))] at HA
      generalize mny (i : Nat) = kk at HMk HA
      go_wp2_with fail
      refine (HMk _).mono ?_
      rintro e w4 ⟨rfl, rfl⟩
      go_wp2_with fail
      refine HA.mono ?_
      rintro e w5 ⟨rfl, hto⟩
      have HB5 : Hid (Below w1.heap.size w1 w5) := HB.out.trans (hto.below HS.out)
      obtain ⟨F5, hS5, -, -⟩ := hto
      have HS5 : Hid (Ss w5 w1.heap.size m x E 10 (firsts (i + 1)) (pkA (firsts i) pk E 10 kk) F5) := hS5
      clear hS5
      go_wp2
      go_roundg (gk - 1)
      case measure => omega
      case rel => exact ⟨i + 1, _, F5, by omega, by go_num, HS5, HB5⟩
    · have hiK : i = K := by omega
      subst hiK
      clear HS2 HB2
      have HL : Hid ((firsts i).length = i) := firsts_len i
      obtain ⟨l0, hl0⟩ : ∃ l0, firsts i = l0 := ⟨_, rfl⟩
      rw [hl0] at HS HL
      obtain ⟨wb, hwb⟩ : ∃ wb, wb = wr := ⟨_, rfl⟩
      subst hwb
      clear hl0
      have hi60 : i ≤ 60 := hk6
      clear hk6 hi
      go_wp2
      go_loopg [14, 15, 16, 17] i (fun g iv v15 v16 v17 wr => ∃ (j : Nat) (l : List ByteArray) (pk : Bool) (F1 : List Nat), j + g = i ∧ iv = .int .i64 j ∧ Hid (l.length + j = i) ∧ Hid (Ss wr w1.heap.size m x E 10 l pk F1) ∧ Hid (Below w1.heap.size w1 wr))
      case atStart => exact ⟨0, l0, pk, F1, by omega, rfl, HL, HS, HB⟩
      case round =>
        clear HS HB HL
        obtain ⟨j, l, pk, F1, hj, rfl, HL, HS, HB⟩ := hrel
        by_cases h9 : (j : Int) < i
        · have hpos : 0 < l.length := by have := HL.out; omega
          obtain ⟨d0, hd0, hd1⟩ := u64_some ((j : Int) * 11400714819323198485)
          have HRm : Hid (∀ kk, kk ∈ l → ∀ w', Below wr.heap.size wr w' → Calls Tryz.prog 24 #[ptr m, .string kk] w' fun e w2 => e = .returned (.bool true) ∧ Below w1.heap.size w1 w2 ∧ ∃ l' F', Ss w2 w1.heap.size m x E 10 l' pk F' ∧ l'.length + (j + 1) = i) := by
            intro kk hkk w' hb
            have hS := HS.out.keep hb
            have h1 := RemoveS _ m x E 10 l pk F1 kk w' hS (by have := HS.out.sz kk hkk; unfold maxLen; omega)
            rw [hasM_yes hkk] at h1
            refine h1.mono ?_
            rintro e w2 ⟨rfl, hto⟩
            have hbl := hto.below hS
            obtain ⟨F', hF, -, -⟩ := hto
            exact ⟨rfl, (HB.out.trans (hb.mono HB.out.size)).trans hbl, remM l kk, F', hF, by have := remM_less HS.out.nod hkk; have := HL.out; omega⟩
          have HPk : Hid (∀ d, d < 18446744073709551616 → ∃ kk, kk ∈ l ∧ ∀ w', Below wr.heap.size wr w' → Calls Tryz.prog 23 #[ptr m, .int .u64 (d : Nat)] w' fun e w2 => e = .returned (.tuple #[.string kk, .bool true]) ∧ Below w'.heap.size w' w2) := fun d hd => PickS_some _ m x E 10 l pk F1 d wr HS.out hpos hd
          have hw3 : IntKind.i64.wrap ((i : Int) - 1 - j) = (i : Int) - 1 - j := by rw [IntKind.wrap_i64]; omega
          by_cases h10 : (j : Int) < n
          · obtain ⟨b, off, rfl, hc1, hz⟩ := (HU.out.keep HB.out).elem j (by omega)
            obtain ⟨kk, hkk, HP⟩ := HPk.out (z j) hz
            have HPw := HP wr (Below.refl _ _)
            have HR := HRm.out kk hkk
            generalize z j = dz at hc1 HPw
            clear HP HPk HRm hkk hz
            go_wp2_with fail
            refine HPw.mono ?_
            rintro e w5 ⟨rfl, hb⟩
            have HR5 := HR w5 hb
            clear hb HR
            go_wp2_with fail
            refine HR5.mono ?_
            rintro e w6 ⟨rfl, hb, l', F', hS', hl'⟩
            have HS6 : Hid (Ss w6 w1.heap.size m x E 10 l' pk F') := hS'
            have HB6 : Hid (Below w1.heap.size w1 w6) := hb
            have HL6 : Hid (l'.length + (j + 1) = i) := hl'
            have HLn := LenS _ m x E 10 l' pk F' w6 hS'
            have e9 : ((l'.length : Nat) : Int) = (i : Int) - 1 - j := by omega
            rw [e9] at HLn
            clear hb hS' hl' e9
            go_wp2_with fail
            refine HLn.mono ?_
            rintro e w7 ⟨rfl, rfl⟩
            go_wp2
            go_roundg (gk - 1)
            case measure => omega
            case rel => exact ⟨j + 1, l', pk, F', by omega, by go_num, HL6, HS6, HB6⟩
          · obtain ⟨kk, hkk, HP⟩ := HPk.out d0 hd1
            have HPw := HP wr (Below.refl _ _)
            have HR := HRm.out kk hkk
            clear HP HPk HRm hkk
            go_wp2_with fail
            refine HPw.mono ?_
            rintro e w5 ⟨rfl, hb⟩
            have HR5 := HR w5 hb
            clear hb HR
            go_wp2_with fail
            refine HR5.mono ?_
            rintro e w6 ⟨rfl, hb, l', F', hS', hl'⟩
            have HS6 : Hid (Ss w6 w1.heap.size m x E 10 l' pk F') := hS'
            have HB6 : Hid (Below w1.heap.size w1 w6) := hb
            have HL6 : Hid (l'.length + (j + 1) = i) := hl'
            have HLn := LenS _ m x E 10 l' pk F' w6 hS'
            have e9 : ((l'.length : Nat) : Int) = (i : Int) - 1 - j := by omega
            rw [e9] at HLn
            clear hb hS' hl' e9
            go_wp2_with fail
            refine HLn.mono ?_
            rintro e w7 ⟨rfl, rfl⟩
            go_wp2
            go_roundg (gk - 1)
            case measure => omega
            case rel => exact ⟨j + 1, l', pk, F', by omega, by go_num, HL6, HS6, HB6⟩
        · have h0 : l.length = 0 := by have := HL.out; omega
          have HP := PickS_none _ m x E 10 l pk F1 1 wr HS.out h0
          clear h0
          go_wp2_with fail
          refine HP.mono ?_
          rintro e w5 ⟨rfl, hb⟩
          have HB5 := step_below HB hb
          clear hb
          go_wp2_with fail
          refine (known_any _).mono ?_
          rintro e w6 ⟨rfl, hb⟩
          have HB6 := step_below HB5 hb
          clear hb
          go_wp2
          go_ret
          exact ⟨rfl, HB6.out⟩
end Go.Proofs.YtkohjejfkbaffaaGreat
