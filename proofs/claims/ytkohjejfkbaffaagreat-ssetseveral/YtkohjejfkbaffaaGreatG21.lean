/-
  What several sets have together: membersOf, together, those, smallest.
  smallest, Inter, Union, Diff.
-/
import Derived.Test.YtkohjejfkbaffaaGreatG14
import Derived.Deep.CutRange
namespace Go.Proofs.YtkohjejfkbaffaaGreat
open Go.RowKit Go.PlainAid
open Dk (En Stay hasK putE delE keysOf Dct Dg dtag Turn)

/-- A pointer to a set, or nil: it has l. -/
def SetV (w : World) (v : Value) (l : List ByteArray) : Prop := (v = .pointer none ∧ l = []) ∨ ∃ m B x E T pk F, v = ptr m ∧ Ss w B m x E T l pk F
theorem SetV.keep {w wn : World} {v : Value} {l : List ByteArray} (h : SetV w v l) (hb : Below w.heap.size w wn) : SetV wn v l := by
  rcases h with h | ⟨m, B, x, E, T, pk, F, h1, h2⟩
  · exact .inl h
  · exact .inr ⟨m, B, x, E, T, pk, F, h1, h2.keep hb⟩
theorem SetV.nod {w : World} {v : Value} {l : List ByteArray} (h : SetV w v l) : l.Nodup := by
  rcases h with ⟨-, rfl⟩ | ⟨m, B, x, E, T, pk, F, h1, h2⟩
  · exact List.nodup_nil
  · exact h2.nod
theorem SetV.sz {w : World} {v : Value} {l : List ByteArray} (h : SetV w v l) : Szs 4096 l := by
  rcases h with ⟨-, rfl⟩ | ⟨m, B, x, E, T, pk, F, h1, h2⟩
  · exact fun _ h => absurd h List.not_mem_nil
  · exact h2.sz
theorem SetV.ptr {w : World} {v : Value} {l : List ByteArray} (h : SetV w v l) : ∃ o, v = .pointer o := by
  rcases h with ⟨rfl, -⟩ | ⟨m, B, x, E, T, pk, F, rfl, -⟩
  · exact ⟨_, rfl⟩
  · exact ⟨_, rfl⟩
/-- A slice that reads sets. -/
structure RdT (w : World) (a : Option Addr) (n : Nat) (ls : List (List ByteArray)) : Prop where
  len : ls.length = n
  max : n ≤ 1000000
  elem : ∀ j, j < n → ∃ b off v, a = some ⟨b, off, none⟩ ∧ w.cell? ⟨b, off + j, none⟩ = some v ∧ SetV w v (ls.getD j [])
theorem RdT.keep {w wn : World} {a : Option Addr} {n : Nat} {ls : List (List ByteArray)} (h : RdT w a n ls) (hb : Below w.heap.size w wn) : RdT wn a n ls :=
  ⟨h.len, h.max, fun j hj => by
    obtain ⟨b, off, v, e, h1, h2⟩ := h.elem j hj
    exact ⟨b, off, v, e, by rw [hb.cell (p := ⟨b, _, none⟩) (World.block_lt_of_cell? _ _ h1)]; exact h1, h2.keep hb⟩⟩
/-- A row of texts is apart from a set. -/
theorem OwnS.sto {w w' : World} {B C m x E T : Nat} {l l' r : List ByteArray} {pk pk' : Bool} {F : List Nat} {a : Option Addr} {n c : Nat} (h : OwnS w C a n c r) (h0 : Ss w B m x E T l pk F) (hs : STo w w' B m x E T l' pk' F) : OwnS w' C a n c r := by
  obtain ⟨F', -, h2, -⟩ := hs
  refine Dk.OwnR.stay (h : Dk.OwnR w C 9 1 a n c _) h2 (fun k hk hm => ?_)
  obtain ⟨-, -, cur, h3⟩ := Dk.OwnR.lt (h : Dk.OwnR w C 9 1 a n c _) hk
  obtain ⟨-, -, cs, t, h4, h5⟩ := h0.tags k hm
  rw [h3] at h4
  simp at h4
  rw [← h4.2] at h5
  revert h5
  decide

theorem membersOf_any (v : Value) (l : List ByteArray) (w : World) (h : SetV w v l) :
    Calls Tryz.prog 37 #[v] w fun e w' => Below w.heap.size w w' ∧ ∃ a n c r, e = .returned (.slice a n c) ∧ OwnS w' w.heap.size a n c r ∧ r.Perm l := by
  rcases h with ⟨rfl, rfl⟩ | ⟨m, B, x, E, T, pk, F, rfl, h⟩
  · go_enter Tryz.func37, Tryz.ntmps37
    go_wp2
    go_ret
    exact ⟨Below.refl _ _, none, 0, 0, [], rfl, Dk.OwnR.nil _ _ _ _, List.Perm.refl _⟩
  · have HA := AllS B m x E T l pk F w h
    clear h
    go_enter Tryz.func37, Tryz.ntmps37
    go_wp2_with fail
    refine HA.mono ?_
    rintro e w1 ⟨hb, a, n, c, r, rfl, hO, hp⟩
    have HR : Hid (Below w.heap.size w w1 ∧ OwnS w1 w.heap.size a n c r ∧ r.Perm l) := ⟨hb, hO, hp⟩
    clear hb hO hp
    go_wp2
    go_ret
    exact ⟨HR.out.1, a, n, c, r, rfl, HR.out.2⟩

theorem take_snocL {α : Type} (ls : List (List α)) (j : Nat) (h : j < ls.length) : (ls.take (j + 1)).flatten = (ls.take j).flatten ++ ls.getD j [] := by
  rw [List.take_add_one, List.getElem?_eq_getElem h, List.flatten_append, List.getD_eq_getElem?_getD, List.getElem?_eq_getElem h]
  simp
/-- A set of all that these have. -/
def Tog (w : World) (B m : Nat) (ls : List (List ByteArray)) : Prop := ∃ pk l F, Ss w B m 0 0 0 l pk F ∧ (∀ s, s ∈ l ↔ s ∈ ls.flatten) ∧ l.length ≤ ls.flatten.length
set_option maxRecDepth 100000 in
set_option maxHeartbeats 4000000 in
theorem together_any (a : Option Addr) (n cap : Nat) (ls : List (List ByteArray)) (w : World) (h : RdT w a n ls) (hs : ls.flatten.length ≤ 900000) :
    Calls Tryz.prog 40 #[.slice a n cap] w fun e w' => Below w.heap.size w w' ∧ ∃ m, e = .returned (ptr m) ∧ Tog w' w.heap.size m ls := by
  have HR : Hid (RdT w a n ls) := h
  have hmx := h.max
  have HL : Hid (ls.length = n) := h.len
  have HS : Hid (∀ i, (ls.take i).flatten.length ≤ 900000) := fun i => by
    have h1 : ls.flatten = (ls.take i).flatten ++ (ls.drop i).flatten := by rw [← List.flatten_append, List.take_append_drop]
    rw [h1, List.length_append] at hs
    omega
  have HN := NewS 0 0 0 w (by decide)
  replace HN : Calls Tryz.prog 10 #[.int .u64 0, .agg #[.int .i64 0, .int .i64 0]] w fun en w' => Below w.heap.size w w' ∧ ∃ m F, en = .returned (ptr m) ∧ Ss w' w.heap.size m 0 0 0 [] true F := HN
  clear h hs
  go_enter Tryz.func40, Tryz.ntmps40
  go_wp2_with fail
  refine HN.mono ?_
  rintro e w1 ⟨hb, m, F, rfl, hH⟩
  have HB1 : Hid (Below w.heap.size w w1) := hb
  have HH1 : Hid (Ss w1 w.heap.size m 0 0 0 [] true F) := hH
  clear hb hH HN
  go_wp2
  go_loopg [5, 7, 12, 19] n (fun g sv mv iv jv wr => ∃ (i : Nat) (acc : List ByteArray) (pk : Bool) (F1 : List Nat), i + g = n ∧ iv = .int .i64 i ∧ Hid (Ss wr w.heap.size m 0 0 0 acc pk F1) ∧ Hid (∀ s, s ∈ acc ↔ s ∈ (ls.take i).flatten) ∧ Hid (acc.length ≤ (ls.take i).flatten.length) ∧ Hid (Below w.heap.size w wr))
  case atStart => exact ⟨0, [], true, F, by omega, rfl, HH1, (fun s => by simp : ∀ s, s ∈ ([] : List ByteArray) ↔ s ∈ (ls.take 0).flatten), (Nat.zero_le _ : ([] : List ByteArray).length ≤ _), HB1⟩
  case round =>
    clear HH1 HB1
    obtain ⟨i, acc, pk, F1, hi, rfl, HH, HE, HLe, HB⟩ := hrel
    obtain ⟨ga, hga⟩ : ∃ ga, ga = gk := ⟨_, rfl⟩
    subst hga
    by_cases h8 : (i : Int) < n
    · obtain ⟨b, off, v, rfl, hc, hV⟩ := (HR.out.keep HB.out).elem i (by omega)
      have HM := membersOf_any v _ wr hV
      have HT : Hid ((ls.take (i + 1)).flatten = (ls.take i).flatten ++ ls.getD i []) := take_snocL ls i (by have := HL.out; omega)
      have HSz : Hid (Szs 4096 (ls.getD i [])) := hV.sz
      obtain ⟨li, hli⟩ : ∃ li, ls.getD i [] = li := ⟨_, rfl⟩
      rw [hli] at HM HT HSz
      have HS2 := HS.out (i + 1)
      rw [HT.out, List.length_append] at HS2
      have HG : Hid (i + ga = n) := hi
      clear hV hli
      go_wp2_with fail
      refine HM.mono ?_
      rintro e w2 ⟨hb, a2, n2, c2, r, rfl, hO, hp⟩
      have HB2 := step_below HB hb
      have HO2 : Hid (OwnS w2 wr.heap.size a2 n2 c2 r) := hO
      have HP2 : Hid (r.Perm li) := hp
      have HN2 : Hid (r.length = n2) := hO.len
      have HH2 : Hid (Ss w2 w.heap.size m 0 0 0 acc pk F1) := HH.out.keep hb
      obtain ⟨wq, hwq⟩ : ∃ wq, wq = wr := ⟨_, rfl⟩
      subst hwq
      have hn2 : n2 ≤ 900000 := by have := hO.len; have := hp.length_eq; omega
      clear hb hO hp HM HH hi
      go_wp2
      go_loopg [7, 19] n2 (fun g mv jv wr => ∃ (j : Nat) (acc2 : List ByteArray) (pk2 : Bool) (F2 : List Nat), j + g = n2 ∧ jv = .int .i64 j ∧ Hid (Ss wr w.heap.size m 0 0 0 acc2 pk2 F2) ∧ Hid (∀ s, s ∈ acc2 ↔ s ∈ acc ∨ s ∈ r.take j) ∧ Hid (acc2.length ≤ acc.length + j) ∧ Hid (OwnS wr wq.heap.size a2 n2 c2 r) ∧ Hid (Below w.heap.size w wr))
      case atStart => exact ⟨0, acc, pk, F1, by omega, rfl, HH2, (fun s => by simp : ∀ s, s ∈ acc ↔ s ∈ acc ∨ s ∈ r.take 0), (Nat.le_refl _ : acc.length ≤ acc.length + 0), HO2, HB2⟩
      case round =>
        clear HH2 HO2 HB2 HB
        obtain ⟨j, acc2, pk2, F2, hj, rfl, HH, HE2, HLe2, HO, HB⟩ := hrel
        by_cases h9 : (j : Int) < n2
        · obtain ⟨b3, off3, rfl, hc3⟩ := HO.out.rd.cell j (by omega)
          have HT3 : Hid (r.take (j + 1) = r.take j ++ [r.getD j ByteArray.empty]) := take_snocB r j (by have := HN2.out; omega)
          have HK3 : Hid (r.getD j ByteArray.empty ∈ r) := getD_in (by have := HN2.out; omega)
          generalize r.getD j ByteArray.empty = k at hc3 HT3 HK3
          have HA := AddS w.heap.size m 0 0 0 acc2 pk2 F2 k wr HH.out (HSz.out k (HP2.out.mem_iff.1 HK3.out)) (by have := HLe2.out; have := HLe.out; have := HN2.out; have := HP2.out.length_eq; omega)
          go_wp2_with fail
          refine HA.mono ?_
          rintro e w4 ⟨rfl, hto⟩
          have HB4 : Hid (Below w.heap.size w w4) := HB.out.trans (hto.below HH.out)
          have HO4 : Hid (OwnS w4 wq.heap.size _ n2 c2 r) := OwnS.sto HO.out HH.out hto
          obtain ⟨F4, hS4, -, -⟩ := hto
          have HS4 : Hid (Ss w4 w.heap.size m 0 0 0 (addM acc2 k) _ F4) := hS4
          have HE4 : Hid (∀ s, s ∈ addM acc2 k ↔ s ∈ acc ∨ s ∈ r.take (j + 1)) := fun s => by
            rw [mem_addM, HT3.out, List.mem_append, List.mem_singleton, HE2.out s]
            exact or_assoc
          have HL4 : Hid ((addM acc2 k).length ≤ acc.length + (j + 1)) := by have := addM_len acc2 k; have := HLe2.out; show _ ≤ _; omega
          clear hS4 HA
          go_wp2
          go_roundg (gk - 1)
          case measure => omega
          case rel => exact ⟨j + 1, _, _, F4, by omega, by go_num, HS4, HE4, HL4, HO4, HB4⟩
        · have hjn : j = n2 := by omega
          subst hjn
          have HE5 : Hid (∀ s, s ∈ acc2 ↔ s ∈ (ls.take (i + 1)).flatten) := fun s => by
            rw [HE2.out s, HT.out, List.mem_append, HE.out s, show r.take j = r from List.take_of_length_le (by have := HN2.out; omega), HP2.out.mem_iff]
          have HL5 : Hid (acc2.length ≤ (ls.take (i + 1)).flatten.length) := by
            show _ ≤ _
            rw [HT.out, List.length_append]
            have h1 := HLe2.out
            have h2 := HLe.out
            have h3 := HP2.out.length_eq
            have h4 := HN2.out
            omega
          have hi := HG.out
          go_wp2
          go_roundg (ga - 1)
          case measure => omega
          case rel => exact ⟨i + 1, acc2, pk2, F2, by omega, by go_num, HH, HE5, HL5, HB⟩
    · have hin : i = n := by omega
      subst hin
      have HT : Hid (ls.take i = ls) := List.take_of_length_le (by have := HL.out; omega)
      go_wp2
      go_ret
      exact ⟨HB.out, m, rfl, pk, acc, F1, HH.out, by have := HE.out; rw [HT.out] at this; exact this, by have := HLe.out; rw [HT.out] at this; exact this⟩

/-- What those leaves over: the ones that are there, or those that are not. -/
def thoseM (l lv : List ByteArray) (has : Bool) : List ByteArray := l.filter fun s => hasM lv s == has
theorem thoseM_snoc (l lv : List ByteArray) (has : Bool) (k : ByteArray) : thoseM (l ++ [k]) lv has = thoseM l lv has ++ if (hasM lv k == has) = true then [k] else [] := by
  unfold thoseM
  rw [List.filter_append, List.filter_cons]
  rfl
theorem thoseM_ext {lv lw : List ByteArray} (h : ∀ s, s ∈ lv ↔ s ∈ lw) (l : List ByteArray) (has : Bool) : thoseM l lv has = thoseM l lw has := by
  unfold thoseM
  congr 1
  funext s
  by_cases hs : s ∈ lv
  · rw [hasM_yes hs, hasM_yes ((h s).1 hs)]
  · rw [hasM_no hs, hasM_no (fun h2 => hs ((h s).2 h2))]
theorem RdT.one (w : World) (v : Value) (l : List ByteArray) (h : SetV w v l) : RdT (w.alloc (.cells #[v] 27)) (some ⟨w.heap.size, 0, none⟩) 1 [l] :=
  ⟨rfl, by decide, fun j hj => by
    obtain rfl : j = 0 := by omega
    exact ⟨w.heap.size, 0, v, rfl, by simp only [World.cell?]; rw [heap_alloc_new]; rfl, h.keep (alloc_below w _)⟩⟩
set_option maxRecDepth 100000 in
set_option maxHeartbeats 4000000 in
theorem those_any (B : Nat) (a : Option Addr) (n c : Nat) (l lv : List ByteArray) (v : Value) (has : Bool) (w : World) (hO : OwnS w B a n c l) (hV : SetV w v lv) (hl : n ≤ 900000) (hlv : lv.length ≤ 900000) (hs : Szs 4096 l) :
    Calls Tryz.prog 39 #[.slice a n c, v, .bool has] w fun e w' => Below w.heap.size w w' ∧ ∃ a n c, e = .returned (.slice a n c) ∧ OwnS w' w.heap.size a n c (thoseM l lv has) := by
  have HO : Hid (OwnS w B a n c l) := hO
  have HN : Hid (l.length = n) := hO.len
  have HSz : Hid (Szs 4096 l) := hs
  obtain ⟨vo, rfl⟩ := hV.ptr
  have HTo := together_any (some ⟨w.heap.size, 0, none⟩) 1 1 [lv] (w.alloc (.cells #[.pointer vo] 27)) (RdT.one w (.pointer vo) lv hV) (by simpa using hlv)
  have HBa : Hid (Below w.heap.size w (w.alloc (.cells #[.pointer vo] 27))) := alloc_below w _
  have HLv : Hid (∀ s, s ∈ [lv].flatten ↔ s ∈ lv) := fun s => by simp
  clear hO hs
  go_enter Tryz.func39, Tryz.ntmps39
  go_upto_region 1 with fail
  go_cut [20] from 10 to 20 (fun u20 wx => w = wx ∧ ∃ t : Bool, u20 = .bool t ∧ Hid (t = false → ∃ m B1 x E T pk F, Value.pointer vo = ptr m ∧ Ss w B1 m x E T lv pk F))
  case first =>
    rcases hV with ⟨ev, rfl⟩ | ⟨m, B1, x, E, T, pk, F, ev, hS⟩ <;> cases ev
    · go_wp2
      go_meet
      exact ⟨rfl, true, rfl, (fun h => absurd h (by decide) : true = false → _)⟩
    · have HP := PackedS B1 m x E T lv pk F w hS
      have H0 : Hid (∃ m1 B1 x E T pk F, ptr m = ptr m1 ∧ Ss w B1 m1 x E T lv pk F) := ⟨_, _, _, _, _, pk, F, rfl, hS⟩
      clear hS
      cases pk
      · go_wp2_with fail
        refine HP.mono ?_
        rintro e w2 ⟨rfl, rfl⟩
        go_wp2
        go_meet
        exact ⟨rfl, false, rfl, (fun _ => H0.out : false = false → _)⟩
      · by_cases h64 : (64 : Int) < n
        · go_wp2_with fail
          refine HP.mono ?_
          rintro e w2 ⟨rfl, rfl⟩
          go_wp2
          go_meet
          exact ⟨rfl, true, rfl, (fun h => absurd h (by decide) : true = false → _)⟩
        · have z64 : decide ((64 : Int) < n) = false := decide_eq_false h64
          go_wp2_with fail
          refine HP.mono ?_
          rintro e w2 ⟨rfl, rfl⟩
          go_wp2
          go_meet
          exact ⟨rfl, false, rfl, (fun _ => H0.out : false = false → _)⟩
  case rest =>
  obtain ⟨rfl, t, rfl, HT0⟩ := hcut
  go_upto_if 20 with fail
  go_cut [1] from 21 to 23 (fun v1 wx => ∃ (mm : Nat) (wy : World), wy = wx ∧ v1 = ptr mm ∧ Hid (∃ B1 x1 E1 T1 pk1 F1 l1, Ss wy B1 mm x1 E1 T1 l1 pk1 F1 ∧ ∀ s, s ∈ l1 ↔ s ∈ lv) ∧ Hid (Below w.heap.size w wy))
  case first =>
    cases t
    · obtain ⟨m, B1, x, E, T, pk, F, ev, hS⟩ := HT0.out rfl
      cases ev
      have H0 : Hid (∃ B1 x1 E1 T1 pk1 F1 l1, Ss w B1 m x1 E1 T1 l1 pk1 F1 ∧ ∀ s, s ∈ l1 ↔ s ∈ lv) := ⟨_, _, _, _, pk, F, lv, hS, fun _ => Iff.rfl⟩
      clear hS HT0
      go_wp2
      go_meet
      exact ⟨m, _, rfl, rfl, H0, Below.refl _ _⟩
    · have HE : Hid (∀ {w2 : World} {mm : Nat}, Below (w.alloc (.cells #[.pointer vo] 27)).heap.size (w.alloc (.cells #[.pointer vo] 27)) w2 → Tog w2 (w.alloc (.cells #[.pointer vo] 27)).heap.size mm [lv] → (∃ B1 x1 E1 T1 pk1 F1 l1, Ss w2 B1 mm x1 E1 T1 l1 pk1 F1 ∧ ∀ s, s ∈ l1 ↔ s ∈ lv) ∧ Below w.heap.size w w2) := fun hb ht => by
        obtain ⟨pk, l1, F, h1, h2, -⟩ := ht
        exact ⟨⟨_, _, _, _, pk, F, l1, h1, fun s => (h2 s).trans (HLv.out s)⟩, HBa.out.trans (hb.mono HBa.out.size)⟩
      clear HT0
      go_wp2_with fail
      refine HTo.mono ?_
      rintro e w2 ⟨hb, mm, rfl, ht⟩
      obtain ⟨h1, h2⟩ := HE.out hb ht
      have H1 : Hid (∃ B1 x1 E1 T1 pk1 F1 l1, Ss w2 B1 mm x1 E1 T1 l1 pk1 F1 ∧ ∀ s, s ∈ l1 ↔ s ∈ lv) := h1
      have H2 : Hid (Below w.heap.size w w2) := h2
      clear hb ht h1 h2
      go_wp2
      go_meet
      exact ⟨mm, _, rfl, rfl, H1, H2⟩
  case rest =>
  obtain ⟨mm, w1, rfl, rfl, HS0, HB1⟩ := hcut
  obtain ⟨B1, x1, E1, T1, pk1, F1, l1, hS1, he1⟩ := HS0.out
  have HS1 : Hid (Ss w1 B1 mm x1 E1 T1 l1 pk1 F1) := hS1
  have HEq : Hid (thoseM l lv has = thoseM l l1 has) := (thoseM_ext he1 l has).symm
  clear hS1 he1 HTo HS0
  go_wp2
  go_loopg [7, 9, 26] n (fun g qv kv iv wr => ∃ (i : Nat) (a2 : Option Addr) (n2 c2 : Nat), i + g = n ∧ iv = .int .i64 i ∧ qv = .slice a2 n2 c2 ∧ n2 ≤ i ∧ Hid (OwnS wr w1.heap.size a2 n2 c2 (thoseM (l.take i) l1 has)) ∧ Hid (Below w1.heap.size w1 wr))
  case atStart => exact ⟨0, none, 0, 0, by omega, rfl, rfl, Nat.le_refl _, Dk.OwnR.nil _ _ _ _, Below.refl _ _⟩
  case round =>
    obtain ⟨i, a2, n2, c2, hi, rfl, rfl, hn2, HQ, HB⟩ := hrel
    by_cases h8 : (i : Int) < n
    · have HBw : Hid (Below w.heap.size w wr) := HB1.out.trans (HB.out.mono HB1.out.size)
      obtain ⟨b, off, rfl, hcell⟩ := (HO.out.keep HBw.out).rd.cell i (by omega)
      have HT : Hid (l.take (i + 1) = l.take i ++ [l.getD i ByteArray.empty]) := take_snocB l i (by have := HN.out; omega)
      have HK : Hid ((l.getD i ByteArray.empty).size ≤ 4096) := HSz.out _ (getD_in (by have := HN.out; omega))
      generalize l.getD i ByteArray.empty = k at hcell HT HK
      have HH := HasS B1 mm x1 E1 T1 l1 pk1 F1 k wr (HS1.out.keep HB.out) (by have := HK.out; unfold maxLen; omega)
      have HM := thoseM_snoc (l.take i) l1 has k
      rw [← HT.out] at HM
      generalize hasM l1 k = t at HH HM
      have hn3 : n2 + 1 ≤ 1000000 := by omega
      by_cases hte : t = has
      · subst hte
        rw [if_pos (by simp)] at HM
        have HMd : Hid (thoseM (l.take (i + 1)) l1 t = thoseM (l.take i) l1 t ++ [k]) := HM
        clear HM
        go_wp2_with fail
        refine HH.mono ?_
        rintro e w3 ⟨rfl, hb⟩
        have HB3 := step_below HB hb
        have HQ3 : Hid (OwnS w3 w1.heap.size a2 n2 c2 (thoseM (l.take i) l1 t)) := HQ.out.keep hb
        have hsz := HB3.out.size
        clear hb HH HQ
        go_wp2_with (at_builtin; refine append_str rfl (.tmp 35) (.tmp 37) rfl w1.heap.size rfl (HQ3.out.keep (alloc_below w3 _)) rfl (by simp; rfl) hn3 (Nat.le_trans hsz (alloc_below w3 _).size) ?_; intro a3 n3 c3 w4 hn4 hO4 hB4; have HO4 : Hid (OwnS w4 w1.heap.size a3 n3 c3 (thoseM (l.take i) l1 t ++ [k])) := hO4; have HB4 : Hid (Below w1.heap.size w1 w4) := (HB3.out.trans ((alloc_below w3 _).mono hsz)).trans hB4; clear hO4 hB4)
        go_roundg (gk - 1)
        case measure => omega
        case rel => subst hn4; exact ⟨i + 1, _, _, _, by omega, by go_num, rfl, by omega, by rw [HMd.out]; exact HO4, HB4⟩
      · rw [if_neg (by simpa using hte), List.append_nil] at HM
        have HMd : Hid (thoseM (l.take (i + 1)) l1 has = thoseM (l.take i) l1 has) := HM
        have hdt : has = !t := by cases t <;> cases has <;> simp at hte ⊢
        subst hdt
        clear HM hte
        go_wp2_with fail
        refine HH.mono ?_
        rintro e w3 ⟨rfl, hb⟩
        have HB3 := step_below HB hb
        have HQ3 : Hid (OwnS w3 w1.heap.size a2 n2 c2 (thoseM (l.take (i + 1)) l1 (!t))) := by rw [HMd.out]; exact HQ.out.keep hb
        clear hb HH HQ HMd
        cases t
        all_goals
          go_wp2
          go_roundg (gk - 1)
          case measure => omega
          case rel => exact ⟨i + 1, _, _, _, by omega, by go_num, rfl, by omega, HQ3, HB3⟩
    · have hin : i = n := by omega
      subst hin
      have HT : Hid (l.take i = l) := List.take_of_length_le (by have := HN.out; omega)
      go_wp2
      go_ret
      exact ⟨HB1.out.trans (HB.out.mono HB1.out.size), _, _, _, rfl, by have := HQ.out; rw [HT.out, ← HEq.out] at this; exact Dk.OwnR.low this HB1.out.size⟩
end Go.Proofs.YtkohjejfkbaffaaGreat

namespace Go.Proofs.YtkohjejfkbaffaaGreat
open Go.RowKit Go.PlainAid
open Dk (En Stay hasK putE delE keysOf Dct Dg dtag Turn)

theorem getD_memL {ls : List (List ByteArray)} {j : Nat} (h : j < ls.length) : ls.getD j [] ∈ ls := by
  rw [List.getD_eq_getElem?_getD, List.getElem?_eq_getElem h]
  exact List.getElem_mem h
theorem len_flat {ls : List (List ByteArray)} {l : List ByteArray} (h : l ∈ ls) : l.length ≤ ls.flatten.length := by
  obtain ⟨b, r, rfl⟩ := List.append_of_mem h
  simp
  omega
/-- What smallest tells. -/
def Least (w : World) (ls : List (List ByteArray)) (v : Value) : Prop := ∃ li, SetV w v li ∧ ((ls = [] ∧ li = []) ∨ li ∈ ls)
set_option maxRecDepth 100000 in
set_option maxHeartbeats 4000000 in
theorem smallest_any (a : Option Addr) (n cap : Nat) (ls : List (List ByteArray)) (w : World) (h : RdT w a n ls) :
    Calls Tryz.prog 38 #[.slice a n cap] w fun e w' => w' = w ∧ ∃ v, e = .returned v ∧ Least w ls v := by
  have HR : Hid (RdT w a n ls) := h
  have hmx := h.max
  have HL : Hid (ls.length = n) := h.len
  clear h
  go_enter Tryz.func38, Tryz.ntmps38
  go_wp2
  go_loopg [3, 4, 5, 8] n (fun g lv v4 v5 iv wr => w = wr ∧ ∃ (i : Nat), i + g = n ∧ iv = .int .i64 i ∧ ((i = 0 ∧ lv = .pointer none) ∨ (0 < i ∧ ∃ m, lv = ptr m ∧ Hid (∃ B x E T pk F li, Ss w B m x E T li pk F ∧ li ∈ ls))))
  case atStart => exact ⟨rfl, 0, by omega, rfl, .inl ⟨rfl, rfl⟩⟩
  case round =>
    obtain ⟨rfl, i, hi, rfl, hlv⟩ := hrel
    by_cases h8 : (i : Int) < n
    · obtain ⟨b, off, v, rfl, hc, hV⟩ := HR.out.elem i (by omega)
      have HIn : Hid (ls.getD i [] ∈ ls) := getD_memL (by have := HL.out; omega)
      generalize ls.getD i [] = li at hV HIn
      rcases hV with ⟨rfl, rfl⟩ | ⟨m, B, x, E, T, pk, F, rfl, hS⟩
      · have HE : Hid (Least w ls (.pointer none)) := ⟨[], .inl ⟨rfl, rfl⟩, .inr HIn.out⟩
        rcases hlv with ⟨hi0, rfl⟩ | ⟨hi0, m, rfl, HM⟩
        all_goals
          clear hi0
          go_wp2
          go_ret
          exact ⟨rfl, _, rfl, HE.out⟩
      · have HS : Hid (∃ B x E T pk F li, Ss w B m x E T li pk F ∧ li ∈ ls) := ⟨B, x, E, T, pk, F, li, hS, HIn.out⟩
        have HLn := LenS B m x E T li pk F w hS
        generalize li.length = q1 at HLn
        clear hS
        rcases hlv with ⟨hi0, rfl⟩ | ⟨hi0, m2, rfl, HM⟩
        · have hiz : ((i : Int) == 0) = true := by simp; omega
          have HI0 : Hid (i = 0) := hi0
          clear hi0
          go_wp2
          go_roundg (gk - 1)
          case measure => omega
          case rel => exact ⟨rfl, i + 1, by omega, by go_num, .inr ⟨by omega, m, rfl, HS⟩⟩
        · obtain ⟨B2, x2, E2, T2, pk2, F2, li2, hS2, -⟩ := HM.out
          have HL2 := LenS B2 m2 x2 E2 T2 li2 pk2 F2 w hS2
          generalize li2.length = q2 at HL2
          have hiz : ((i : Int) == 0) = false := by simp; omega
          clear hS2
          by_cases hq : (q1 : Int) < q2
          · go_wp2_with fail
            refine HLn.mono ?_
            rintro e w1 ⟨rfl, rfl⟩
            go_wp2_with fail
            refine HL2.mono ?_
            rintro e w1 ⟨rfl, rfl⟩
            go_wp2
            go_roundg (gk - 1)
            case measure => omega
            case rel => exact ⟨rfl, i + 1, by omega, by go_num, .inr ⟨by omega, m, rfl, HS⟩⟩
          · go_wp2_with fail
            refine HLn.mono ?_
            rintro e w1 ⟨rfl, rfl⟩
            go_wp2_with fail
            refine HL2.mono ?_
            rintro e w1 ⟨rfl, rfl⟩
            go_wp2
            go_roundg (gk - 1)
            case measure => omega
            case rel => exact ⟨rfl, i + 1, by omega, by go_num, .inr ⟨by omega, m2, rfl, HM⟩⟩
    · rcases hlv with ⟨hi0, rfl⟩ | ⟨hi0, m, rfl, HM⟩
      · have hn0 : ls = [] := List.eq_nil_of_length_eq_zero (by have := HL.out; omega)
        have HE : Hid (Least w ls (.pointer none)) := ⟨[], .inl ⟨rfl, rfl⟩, .inl ⟨hn0, rfl⟩⟩
        clear hn0 hi0
        go_wp2
        go_ret
        exact ⟨rfl, _, rfl, HE.out⟩
      · have HE : Hid (Least w ls (ptr m)) := by
          obtain ⟨B, x, E, T, pk, F, li, h1, h2⟩ := HM.out
          exact ⟨li, .inr ⟨m, B, x, E, T, pk, F, rfl, h1⟩, .inr h2⟩
        go_wp2
        go_ret
        exact ⟨rfl, _, rfl, HE.out⟩

theorem mem_those {l lv : List ByteArray} {has : Bool} {s : ByteArray} : s ∈ thoseM l lv has ↔ s ∈ l ∧ hasM lv s = has := by
  unfold thoseM
  rw [List.mem_filter, beq_iff_eq]
/-- What Inter, Union and Diff tell. -/
def isInter (r : List ByteArray) (ls : List (List ByteArray)) : Prop := r.Nodup ∧ ∀ s, s ∈ r ↔ (ls ≠ [] ∧ ∀ l ∈ ls, s ∈ l)
def isUnion (r : List ByteArray) (ls : List (List ByteArray)) : Prop := r.Nodup ∧ ∀ s, s ∈ r ↔ ∃ l ∈ ls, s ∈ l
def isDiff (r : List ByteArray) (ls : List (List ByteArray)) : Prop := r.Nodup ∧ ∀ s, s ∈ r ↔ ∃ l0 lt, ls = l0 :: lt ∧ s ∈ l0 ∧ ∀ l ∈ lt, s ∉ l

def IntP (ls : List (List ByteArray)) (r : List ByteArray) : Prop := isInter r ls ∧ r.length ≤ ls.flatten.length
def UniP (ls : List (List ByteArray)) (r : List ByteArray) : Prop := isUnion r ls ∧ r.length ≤ ls.flatten.length
def DifP (ls : List (List ByteArray)) (r : List ByteArray) : Prop := isDiff r ls ∧ r.length ≤ ls.flatten.length
/-- Such a row is told. -/
def Tells (w w' : World) (P : List ByteArray → Prop) (e : Ending) : Prop := Below w.heap.size w w' ∧ ∃ a n c r, e = .returned (.slice a n c) ∧ OwnS w' w.heap.size a n c r ∧ P r
set_option maxRecDepth 100000 in
set_option maxHeartbeats 4000000 in
theorem Inter_any (a : Option Addr) (n cap : Nat) (ls : List (List ByteArray)) (w : World) (h : RdT w a n ls) (hs : ls.flatten.length ≤ 900000) :
    Calls Tryz.prog 14 #[.slice a n cap] w fun e w' => Tells w w' (IntP ls) e := by
  have HR : Hid (RdT w a n ls) := h
  have hmx := h.max
  have HL : Hid (ls.length = n) := h.len
  have HF : Hid (ls.flatten.length ≤ 900000) := hs
  have HSm := smallest_any a n cap ls w h
  clear h hs
  go_enter Tryz.func14, Tryz.ntmps14
  go_wp2_with fail
  refine HSm.mono ?_
  rintro e w1 ⟨rfl, v, rfl, li, hV, hli⟩
  have HM := membersOf_any v li w1 hV
  have HSz : Hid (Szs 4096 li) := hV.sz
  have HNd : Hid (li.Nodup) := hV.nod
  have HLi : Hid ((ls = [] ∧ li = []) ∨ li ∈ ls) := hli
  have hll : li.length ≤ ls.flatten.length := by
    rcases hli with ⟨rfl, rfl⟩ | h
    · exact Nat.le_refl _
    · exact len_flat h
  have HLl : Hid (li.length ≤ ls.flatten.length) := hll
  obtain ⟨vo, rfl⟩ := hV.ptr
  clear hV hli HSm hll
  go_wp2_with fail
  refine HM.mono ?_
  rintro e w2 ⟨hb, a2, n2, c2, r, rfl, hO, hp⟩
  have HB2 : Hid (Below w1.heap.size w1 w2) := hb
  have HO2 : Hid (OwnS w2 w1.heap.size a2 n2 c2 r) := hO
  have HE2 : Hid (∀ s, s ∈ r ↔ s ∈ li ∧ ∀ l ∈ ls.take 0, s ∈ l) := fun s => by simp [hp.mem_iff]
  have HN2 : Hid (r.Nodup) := hp.nodup_iff.2 HNd.out
  have HQ2 : Hid (r.length ≤ li.length) := by show _ ≤ _; rw [hp.length_eq]; exact Nat.le_refl _
  clear hb hO hp HM
  go_wp2
  go_loopg [3, 5, 11] n (fun g qv sv iv wr => ∃ (i : Nat) (a2 : Option Addr) (n2 c2 : Nat) (acc : List ByteArray), i + g = n ∧ iv = .int .i64 i ∧ qv = .slice a2 n2 c2 ∧ Hid (OwnS wr w1.heap.size a2 n2 c2 acc) ∧ Hid (∀ s, s ∈ acc ↔ s ∈ li ∧ ∀ l ∈ ls.take i, s ∈ l) ∧ Hid (acc.Nodup) ∧ Hid (acc.length ≤ li.length) ∧ Hid (Below w1.heap.size w1 wr))
  case atStart => exact ⟨0, a2, n2, c2, r, by omega, rfl, rfl, HO2, HE2, HN2, HQ2, HB2⟩
  case round =>
    clear HO2 HE2 HN2 HQ2 HB2
    obtain ⟨i, a2, n2, c2, acc, hi, rfl, rfl, HO, HE, HN, HQ, HB⟩ := hrel
    by_cases h8 : (i : Int) < n
    · obtain ⟨b, off, v, rfl, hc, hV⟩ := (HR.out.keep HB.out).elem i (by omega)
      have hil : i < ls.length := by have := HL.out; omega
      have HIn : Hid (ls.getD i [] ∈ ls) := getD_memL hil
      have HT : Hid (ls.take (i + 1) = ls.take i ++ [ls.getD i []]) := by show _ = _; rw [List.take_add_one, List.getElem?_eq_getElem hil, List.getD_eq_getElem?_getD, List.getElem?_eq_getElem hil]; rfl
      generalize ls.getD i [] = lv at hV HIn HT
      have hn2 : n2 ≤ 900000 := by have := HO.out.len; have := HQ.out; have := HLl.out; have := HF.out; omega
      have HTh := those_any w1.heap.size a2 n2 c2 acc lv v true wr HO.out hV hn2 (Nat.le_trans (len_flat HIn.out) HF.out) (fun s hs => HSz.out s ((HE.out s).1 hs).1)
      obtain ⟨vo2, rfl⟩ := hV.ptr
      clear hV hil
      go_wp2_with fail
      refine HTh.mono ?_
      rintro e w3 ⟨hb, a3, n3, c3, rfl, hO3⟩
      have HB3 := step_below HB hb
      have HO3 : Hid (OwnS w3 w1.heap.size a3 n3 c3 (thoseM acc lv true)) := Dk.OwnR.low hO3 HB.out.size
      have HE3 : Hid (∀ s, s ∈ thoseM acc lv true ↔ s ∈ li ∧ ∀ l ∈ ls.take (i + 1), s ∈ l) := fun s => by
        rw [mem_those, HE.out s, hasM_iff, HT.out, and_assoc]
        simp only [List.mem_append, List.mem_singleton, or_imp, forall_and, forall_eq]
      have HN3 : Hid ((thoseM acc lv true).Nodup) := HN.out.filter _
      have HQ3 : Hid ((thoseM acc lv true).length ≤ li.length) := Nat.le_trans (List.length_filter_le _ _) HQ.out
      clear hb hO3 HTh
      go_wp2
      go_roundg (gk - 1)
      case measure => omega
      case rel => exact ⟨i + 1, _, _, _, _, by omega, by go_num, rfl, HO3, HE3, HN3, HQ3, HB3⟩
    · have hin : i = n := by omega
      subst hin
      have HT : Hid (ls.take i = ls) := List.take_of_length_le (by have := HL.out; omega)
      have HI : Hid (IntP ls acc) := by
        refine ⟨⟨HN.out, fun s => ?_⟩, Nat.le_trans HQ.out HLl.out⟩
        rw [HE.out s, HT.out]
        rcases HLi.out with ⟨rfl, rfl⟩ | h
        · simp
        · exact ⟨fun h1 => ⟨fun e => (by rw [e] at h; exact absurd h List.not_mem_nil), h1.2⟩, fun h1 => ⟨h1.2 li h, h1.2⟩⟩
      go_wp2
      go_ret
      exact ⟨HB.out, _, _, _, acc, rfl, HO.out, HI.out⟩

theorem Union_any (a : Option Addr) (n cap : Nat) (ls : List (List ByteArray)) (w : World) (h : RdT w a n ls) (hs : ls.flatten.length ≤ 900000) :
    Calls Tryz.prog 15 #[.slice a n cap] w fun e w' => Tells w w' (UniP ls) e := by
  have HT := together_any a n cap ls w h hs
  clear h hs
  go_enter Tryz.func15, Tryz.ntmps15
  go_wp2_with fail
  refine HT.mono ?_
  rintro e w1 ⟨hb, m, rfl, pk, l, F, hS, hm, hl⟩
  have HB : Hid (Below w.heap.size w w1) := hb
  have HA := AllS _ m 0 0 0 l pk F w1 hS
  have HI : Hid (∀ r : List ByteArray, r.Perm l → UniP ls r) := fun r hp => ⟨⟨hp.nodup_iff.2 hS.nod, fun s => by rw [hp.mem_iff, hm s, List.mem_flatten]⟩, by rw [hp.length_eq]; exact hl⟩
  clear hb hS hm hl HT
  go_wp2_with fail
  refine HA.mono ?_
  rintro e w2 ⟨hb, a2, n2, c2, r, rfl, hO, hp⟩
  have HB2 := step_below HB hb
  have HO2 : Hid (OwnS w2 w.heap.size a2 n2 c2 r) := Dk.OwnR.low hO HB.out.size
  have HI2 : Hid (UniP ls r) := HI.out r hp
  clear hb hO hp HA
  go_wp2
  go_ret
  exact ⟨HB2.out, _, _, _, r, rfl, HO2.out, HI2.out⟩

theorem Diff_none (a : Option Addr) (cap : Nat) (w : World) : Calls Tryz.prog 16 #[.slice a 0 cap] w fun e w' => e = .returned (.slice none 0 0) ∧ w' = w := by
  go_enter Tryz.func16, Tryz.ntmps16
  go_wp2
  go_ret
  exact ⟨rfl, rfl⟩
/-- A part of a slice of sets, from its second on. -/
theorem Tryz.sizeT (w : World) : (sizeOf 27).run Tryz.prog w = .ok 1 w := by go_simp
theorem Tryz.elemT : Tryz.prog.elem 46 = 27 := by simp [Program.elem, Tryz.underlying46]
set_option maxRecDepth 100000 in
set_option maxHeartbeats 4000000 in
theorem Diff_some (a : Option Addr) (n cap : Nat) (l0 : List ByteArray) (lt : List (List ByteArray)) (w : World) (h : RdT w a n (l0 :: lt)) (hcap : n ≤ cap) (hs : (l0 :: lt).flatten.length ≤ 900000) :
    Calls Tryz.prog 16 #[.slice a n cap] w fun e w' => Tells w w' (DifP (l0 :: lt)) e := by
  have HR : Hid (RdT w a n (l0 :: lt)) := h
  have hmx := h.max
  have HL : Hid (lt.length + 1 = n) := h.len
  have hn1 : 1 ≤ n := by have := h.len; rw [List.length_cons] at this; omega
  have HF : Hid ((l0 :: lt).flatten.length ≤ 900000) := hs
  obtain ⟨b, off, v, rfl, hc, hV⟩ := h.elem 0 (by omega)
  replace hV : SetV w v l0 := hV
  rw [Nat.add_zero] at hc
  have HM := membersOf_any v l0 w hV
  have HSz : Hid (Szs 4096 l0) := hV.sz
  have HNd : Hid (l0.Nodup) := hV.nod
  have HLl : Hid (l0.length ≤ (l0 :: lt).flatten.length) := len_flat (List.mem_cons_self ..)
  obtain ⟨vo, rfl⟩ := hV.ptr
  obtain ⟨a1, c1, hsl, HA1⟩ : ∃ a1 c1, (∀ wx, (Instr.sliceAt 46 (.slice (some ⟨b, off, none⟩) n cap) (some (.int .i64 1)) none none).run Tryz.prog wx = .ok (.slice a1 (n - 1) c1) wx) ∧ Hid (1 < n → a1 = some ⟨b, off + 1, none⟩) := by
    have ht : Tryz.prog.underlying 46 = some (.slice (Tryz.prog.elem 46)) := by rw [Tryz.elemT]; exact Tryz.underlying46
    refine ⟨if cap = 1 then some ⟨b, off, none⟩ else some ((⟨b, off, none⟩ : Addr).add (1 * 1)), cap - 1, fun wx => ?_, fun h1 => ?_⟩
    · have hr := run_slice_l (P := Tryz.prog) wx 46 (some ⟨b, off, none⟩) n cap ht .i64 1 (by omega) (by omega)
      rw [run_sliceAt_slice _ _ _ _ _ _ ht]
      rw [Tryz.elemT, Tryz.sizeT] at hr
      rw [hr]
      simp [Result.andThen, sliced]
    · rw [if_neg (by omega), add_flat]
  obtain ⟨k1, hk1⟩ : ∃ k1, n - 1 = k1 := ⟨_, rfl⟩
  have HK1 : Hid (n - 1 = k1) := hk1
  rw [hk1] at hsl
  have hnz : ((n : Int) == 0) = false := by simp; omega
  have hn1z : (1 : Int) ≤ n := by omega
  have hk1m : k1 ≤ 1000000 := by omega
  clear h hV hs hk1
  go_enter Tryz.func16, Tryz.ntmps16
  go_wp2_with fail
  refine HM.mono ?_
  rintro e w2 ⟨hb, a2, n2, c2, r, rfl, hO, hp⟩
  have HB2 : Hid (Below w.heap.size w w2) := hb
  have HO2 : Hid (OwnS w2 w.heap.size a2 n2 c2 r) := hO
  have HE2 : Hid (∀ s, s ∈ r ↔ s ∈ l0 ∧ ∀ l ∈ lt.take 0, s ∉ l) := fun s => by simp [hp.mem_iff]
  have HN2 : Hid (r.Nodup) := hp.nodup_iff.2 HNd.out
  have HQ2 : Hid (r.length ≤ l0.length) := by show _ ≤ _; rw [hp.length_eq]; exact Nat.le_refl _
  clear hb hO hp HM hc
  go_wp2
  go_loopg [3, 5, 16] k1 (fun g qv sv iv wr => ∃ (i : Nat) (a2 : Option Addr) (n2 c2 : Nat) (acc : List ByteArray), i + g = k1 ∧ iv = .int .i64 i ∧ qv = .slice a2 n2 c2 ∧ Hid (OwnS wr w.heap.size a2 n2 c2 acc) ∧ Hid (∀ s, s ∈ acc ↔ s ∈ l0 ∧ ∀ l ∈ lt.take i, s ∉ l) ∧ Hid (acc.Nodup) ∧ Hid (acc.length ≤ l0.length) ∧ Hid (Below w.heap.size w wr))
  case atStart => exact ⟨0, a2, n2, c2, r, by omega, rfl, rfl, HO2, HE2, HN2, HQ2, HB2⟩
  case round =>
    clear HO2 HE2 HN2 HQ2 HB2
    obtain ⟨i, a2, n2, c2, acc, hi, rfl, rfl, HO, HE, HN, HQ, HB⟩ := hrel
    by_cases h8 : (i : Int) < k1
    · have hi1 : 1 + i < n := by have := HK1.out; omega
      have ea1 := HA1.out (by omega)
      subst ea1
      obtain ⟨b', off', v, e9, hc, hV⟩ := (HR.out.keep HB.out).elem (1 + i) hi1
      cases e9
      rw [← Nat.add_assoc] at hc
      have hil : i < lt.length := by have := HL.out; omega
      have hgd : (l0 :: lt).getD (1 + i) [] = lt.getD i [] := by rw [Nat.add_comm]; rfl
      rw [hgd] at hV
      have HIn : Hid (lt.getD i [] ∈ l0 :: lt) := List.mem_cons_of_mem _ (getD_memL hil)
      have HT : Hid (lt.take (i + 1) = lt.take i ++ [lt.getD i []]) := by show _ = _; rw [List.take_add_one, List.getElem?_eq_getElem hil, List.getD_eq_getElem?_getD, List.getElem?_eq_getElem hil]; rfl
      generalize lt.getD i [] = lv at hV HIn HT
      have hn2 : n2 ≤ 900000 := by have := HO.out.len; have := HQ.out; have := HLl.out; have := HF.out; omega
      have HTh := those_any w.heap.size a2 n2 c2 acc lv v false wr HO.out hV hn2 (Nat.le_trans (len_flat HIn.out) HF.out) (fun s hs => HSz.out s ((HE.out s).1 hs).1)
      obtain ⟨vo2, rfl⟩ := hV.ptr
      clear hV hil hgd hi1
      go_wp2_with fail
      refine HTh.mono ?_
      rintro e w3 ⟨hb, a3, n3, c3, rfl, hO3⟩
      have HB3 := step_below HB hb
      have HO3 : Hid (OwnS w3 w.heap.size a3 n3 c3 (thoseM acc lv false)) := Dk.OwnR.low hO3 HB.out.size
      have HE3 : Hid (∀ s, s ∈ thoseM acc lv false ↔ s ∈ l0 ∧ ∀ l ∈ lt.take (i + 1), s ∉ l) := fun s => by
        have hno : hasM lv s = false ↔ s ∉ lv := ⟨fun h h2 => (by rw [hasM_yes h2] at h; exact absurd h (by decide)), hasM_no⟩
        rw [mem_those, HE.out s, hno, HT.out, and_assoc]
        simp only [List.mem_append, List.mem_singleton, or_imp, forall_and, forall_eq]
      have HN3 : Hid ((thoseM acc lv false).Nodup) := HN.out.filter _
      have HQ3 : Hid ((thoseM acc lv false).length ≤ l0.length) := Nat.le_trans (List.length_filter_le _ _) HQ.out
      clear hb hO3 HTh
      go_wp2
      go_roundg (gk - 1)
      case measure => omega
      case rel => exact ⟨i + 1, _, _, _, _, by omega, by go_num, rfl, HO3, HE3, HN3, HQ3, HB3⟩
    · have hin : i = k1 := by omega
      subst hin
      have HT : Hid (lt.take i = lt) := List.take_of_length_le (by have := HL.out; have := HK1.out; omega)
      have HI : Hid (DifP (l0 :: lt) acc) := by
        refine ⟨⟨HN.out, fun s => ?_⟩, Nat.le_trans HQ.out HLl.out⟩
        rw [HE.out s, HT.out]
        exact ⟨fun h => ⟨l0, lt, rfl, h⟩, fun ⟨x, y, e, h⟩ => by cases e; exact h⟩
      go_wp2
      go_ret
      exact ⟨HB.out, _, _, _, acc, rfl, HO.out, HI.out⟩
end Go.Proofs.YtkohjejfkbaffaaGreat
