/-
  TableChurns: keys that stay, and one that is put and deleted over and over.
-/
import Derived.Test.YtnmonhendidhkaaSeeds
namespace Go.Proofs.Ytnmonhendidhkaa
open Go.RowKit Go.PlainAid

/-- The i-th key that stays; one that goes. -/
def stay (i : Nat) : ByteArray := ⟨#[115, 116, 97, 121]⟩ ++ Utf8.encode (48 + (i : Int))
def goes (i : Int) : ByteArray := ⟨#[103, 111]⟩ ++ Utf8.encode (48 + i)
def stays (m : Nat) : List En := (List.range m).map fun i => (stay i, (i : Int))
theorem stays_len (m : Nat) : (stays m).length = m := by simp [stays]
theorem stays_step (m : Nat) : stays (m + 1) = stays m ++ [(stay m, (m : Int))] := by unfold stays; rw [List.range_succ, List.map_append]; rfl
theorem stay_size (i : Nat) : (stay i).size ≤ 1000 := by
  have := encode_size (48 + (i : Int))
  have h : (⟨#[115, 116, 97, 121]⟩ : ByteArray).size = 4 := rfl
  unfold stay
  rw [ByteArray.size_append]
  omega
theorem goes_size (i : Int) : (goes i).size ≤ 1000 := by
  have := encode_size (48 + i)
  have h : (⟨#[103, 111]⟩ : ByteArray).size = 2 := rfl
  unfold goes
  rw [ByteArray.size_append]
  omega
theorem encode_inj : ∀ i, i < 100 → ∀ j, j < 100 → (Utf8.encode (48 + (i : Nat))).data = (Utf8.encode (48 + (j : Nat))).data → i = j := by decide +kernel
theorem append_inj {a b c : ByteArray} (h : a ++ b = a ++ c) : b = c := by
  have h1 : (a ++ b).data = (a ++ c).data := by rw [h]
  rw [ByteArray.data_append, ByteArray.data_append] at h1
  have h2 := Array.append_right_inj a.data |>.1 h1
  cases b; cases c
  exact congrArg ByteArray.mk h2
theorem stay_inj {i j : Nat} (hi : i < 100) (hj : j < 100) (h : stay i = stay j) : i = j := by
  have := append_inj h
  exact encode_inj i hi j hj (by rw [this])
theorem stay_first (i : Nat) : (stay i).data[0]? = some 115 := by
  unfold stay; rw [ByteArray.data_append, Array.getElem?_append_left (by decide)]; rfl
theorem goes_first (i : Int) : (goes i).data[0]? = some 103 := by
  unfold goes; rw [ByteArray.data_append, Array.getElem?_append_left (by decide)]; rfl
theorem stay_ne (i : Nat) (j : Int) : stay i ≠ goes j := by
  intro h
  have h1 := stay_first i
  rw [h, goes_first] at h1
  cases h1
theorem stay_new {m : Nat} (hm : m < 100) : stay m ∉ keysOf (stays m) := by
  intro h
  obtain ⟨e, he, h1⟩ := List.mem_map.1 h
  obtain ⟨i, hi, rfl⟩ := List.mem_map.1 he
  rw [List.mem_range] at hi
  have := stay_inj (by omega) hm h1
  omega
theorem goes_new (m : Nat) (j : Int) : goes j ∉ keysOf (stays m) := by
  intro h
  obtain ⟨e, he, h1⟩ := List.mem_map.1 h
  obtain ⟨i, hi, rfl⟩ := List.mem_map.1 he
  exact stay_ne i j h1
theorem stay_mem {m i : Nat} (h : i < m) : (stay i, (i : Int)) ∈ stays m := List.mem_map.2 ⟨i, List.mem_range.2 h, rfl⟩

set_option maxRecDepth 100000 in
set_option maxHeartbeats 8000000 in
theorem churns_any (x : Nat) (n t : Int) (w : World) (hx : x < 18446744073709551616) :
    Calls Try.prog 6 #[.int .u64 x, .int .i64 n, .int .i64 t] w fun e w' => e = .returned (.bool true) ∧ Below w.heap.size w w' := by
  have HN := fun w => NewT x w hx
  have HKn := known_any
  have HW1 := fun w => Within_any n 0 100 w (by decide) (by decide) (by decide)
  have HW2 := fun w => Within_any t 0 400 w (by decide) (by decide) (by decide)
  go_enter Try.func6, Try.ntmps6
  go_wp2_with fail
  refine (HN _).mono ?_
  rintro e w1 ⟨hb1, p, b, rfl, hT1⟩
  have HB1 : Hid (Below w.heap.size w w1) := hb1
  have HT1 : Hid (Tbl w1 w.heap.size p b x (stays 0)) := hT1
  clear hb1 hT1 HN
  go_wp2_with fail
  refine (HW1 _).mono ?_
  rintro e w1 ⟨rfl, z, hz0, hz1, rfl⟩
  obtain ⟨m, rfl⟩ : ∃ m : Nat, z = (m : Int) := ⟨z.toNat, by omega⟩
  have hm : m ≤ 100 := by omega
  clear HW1 hz0 hz1
  go_wp2
  go_loopg [9] m (fun q iv wr => ∃ i b : Nat, i + q = m ∧ iv = .int .i64 i ∧ Hid (Tbl wr w.heap.size p b x (stays i)) ∧ Hid (Below w.heap.size w wr))
  case atStart => exact ⟨0, b, by omega, rfl, HT1, HB1⟩
  case round =>
    clear HT1 HB1
    obtain ⟨i, b, hi, rfl, HT, HB⟩ := hrel
    by_cases h8 : (i : Int) < m
    · have hP := PutT_new _ _ _ _ (stays i) (stay i) i _ HT.out (Nat.le_trans (stay_size i) (by decide)) (stay_new (by omega)) (by rw [stays_len]; omega)
      rw [← stays_step] at hP
      have hs := encode_size (48 + (i : Int))
      have he : (⟨#[115, 116, 97, 121]⟩ : ByteArray) ++ Utf8.encode (48 + (i : Int)) = stay i := rfl
      obtain ⟨ec, hec⟩ : ∃ ec, Utf8.encode (48 + (i : Int)) = ec := ⟨_, rfl⟩
      rw [hec] at hs he
      generalize stay i = k at hP he
      clear HW2 HKn
      go_wp2_with fail
      refine hP.mono ?_
      rintro e w2 ⟨rfl, hm2, b2, hT2, hb2⟩
      have HT2 : Hid (Tbl w2 w.heap.size p b2 x (stays (i + 1))) := hT2
      have HB2 : Hid (Below w.heap.size w w2) := HB.out.trans (HT.out.below hm2)
      clear hm2 hT2 hb2 hP
      go_wp2
      go_roundg (gk - 1)
      case measure => omega
      case rel => exact ⟨i + 1, b2, by omega, by go_num, HT2, HB2⟩
    · have : i = m := by omega
      subst this
      clear hi
      go_wp2_with fail
      refine (HW2 _).mono ?_
      rintro e wr ⟨rfl, z, hz0, hz1, rfl⟩
      obtain ⟨r, rfl⟩ : ∃ r : Nat, z = (r : Int) := ⟨z.toNat, by omega⟩
      have hr : r ≤ 400 := by omega
      clear HW2 hz0 hz1
      obtain ⟨wa, hwa⟩ : ∃ wa, wa = wr := ⟨_, rfl⟩
      subst hwa
      go_wp2
      go_loopg [10, 11] r (fun q iv sv wr => ∃ b : Nat, iv = .int .i64 q ∧ q ≤ 400 ∧ Hid (Tbl wr w.heap.size p b x (stays i)) ∧ Hid (Below w.heap.size w wr))
      case atStart => exact ⟨b, rfl, hr, HT, HB⟩
      case round =>
        clear HT HB
        obtain ⟨b, rfl, hq, HT, HB⟩ := hrel
        by_cases h9 : (0 : Int) < gk
        · have hmod : ((gk : Int)).tmod 200 = (gk : Int) % 200 := Int.tmod_eq_emod_of_nonneg (by omega)
          obtain ⟨j, hj⟩ : ∃ j : Int, (gk : Int).tmod 200 = j := ⟨_, rfl⟩
          have hj0 : 0 ≤ j ∧ j < 200 := by rw [← hj, hmod]; omega
          obtain ⟨hj1, hj2⟩ := hj0
          have hP := PutT_new _ _ _ _ (stays i) (goes j) gk _ HT.out (Nat.le_trans (goes_size j) (by decide)) (goes_new i j) (by rw [stays_len]; omega)
          have HKS : Hid ((goes j).size ≤ maxLen) := Nat.le_trans (goes_size j) (by decide)
          have hs := encode_size (48 + j)
          have he : (⟨#[103, 111]⟩ : ByteArray) ++ Utf8.encode (48 + j) = goes j := rfl
          obtain ⟨ec, hec⟩ : ∃ ec, Utf8.encode (48 + j) = ec := ⟨_, rfl⟩
          rw [hec] at hs he
          generalize goes j = k at hP he HKS
          clear hmod HKn
          go_wp2_with fail
          refine hP.mono ?_
          rintro e w2 ⟨rfl, hm2, b2, hT2, hb2⟩
          have HT2 : Hid (Tbl w2 w.heap.size p b2 x (stays i ++ (k, (gk : Int)) :: [])) := hT2
          have HB2 : Hid (Below w.heap.size w w2) := HB.out.trans (HT.out.below hm2)
          have hDl := DeleteT_yes _ _ _ _ (stays i) [] k gk _ hT2 HKS.out
          rw [List.append_nil] at hDl
          clear hm2 hT2 hb2 hP
          go_wp2_with fail
          refine hDl.mono ?_
          rintro e w3 ⟨rfl, hm3, hT3⟩
          have HT3 : Hid (Tbl w3 w.heap.size p b2 x (stays i)) := hT3
          have HB3 : Hid (Below w.heap.size w w3) := HB2.out.trans (HT2.out.below hm3)
          obtain ⟨G, zz, hTab, hpm⟩ := hT3
          have HTab : Hid (Tab w3 w.heap.size p b2 x G zz) := hTab
          have hL := Len_any _ _ _ _ _ _ _ hTab
          have hM := Marks_any _ _ _ _ _ _ _ hTab
          have hle : (ents zz).length = i := by rw [hpm.length_eq, stays_len]
          have hro := hTab.inv.room
          have hG16 := hTab.inv.grp.le
          rw [hle] at hL hro
          generalize dels zz = d at hM hro
          clear hm3 hDl hpm hTab hle
          go_wp2_with fail
          refine hL.mono ?_
          rintro e w3 ⟨rfl, rfl⟩
          go_wp2_with fail
          refine hL.mono ?_
          rintro e w3 ⟨rfl, rfl⟩
          go_wp2_with fail
          refine hM.mono ?_
          rintro e w4 ⟨rfl, hb4⟩
          have HT4 : Hid (Tbl w4 w.heap.size p b2 x (stays i)) := HT3.out.keep hb4
          have HB4 := step_below HB3 hb4
          have hGr := Groups_any _ _ _ _ _ (HTab.out.top.keep hb4)
          clear hb4 hL hM
          go_wp2_with fail
          refine hGr.mono ?_
          rintro e w4 ⟨rfl, rfl⟩
          have hrz : ¬ 7 * (G : Int) < (i : Int) + (d : Int) := by omega
          clear hGr
          go_wp2
          go_roundg (gk - 1)
          case measure => omega
          case rel => exact ⟨b2, by go_num, by omega, HT4, HB4⟩
        · obtain ⟨wb, hwb⟩ : ∃ wb, wb = wr := ⟨_, rfl⟩
          subst hwb
          go_wp2
          go_loopg [12, 13, 14] i (fun q iv sv kv wr => ∃ j : Nat, j + q = i ∧ iv = .int .i64 j ∧ Hid (Tbl wr w.heap.size p b x (stays i)) ∧ Hid (Below w.heap.size w wr))
          case atStart => exact ⟨0, by omega, rfl, HT, HB⟩
          case round =>
            clear HT HB
            obtain ⟨j, hj, rfl, HT, HB⟩ := hrel
            by_cases h10 : (j : Int) < i
            · have hP := GetT_some _ _ _ _ (stays i) (stay j) j _ HT.out (Nat.le_trans (stay_size j) (by decide)) (stay_mem (by omega))
              have hs := encode_size (48 + (j : Int))
              have he : (⟨#[115, 116, 97, 121]⟩ : ByteArray) ++ Utf8.encode (48 + (j : Int)) = stay j := rfl
              obtain ⟨ec, hec⟩ : ∃ ec, Utf8.encode (48 + (j : Int)) = ec := ⟨_, rfl⟩
              rw [hec] at hs he
              generalize stay j = k at hP he
              clear HKn
              go_wp2_with fail
              refine hP.mono ?_
              rintro e w2 ⟨rfl, hb2⟩
              have HT2 : Hid (Tbl w2 w.heap.size p b x (stays i)) := HT.out.keep hb2
              have HB2 := step_below HB hb2
              clear hb2 hP
              go_wp2
              go_roundg (gk - 1)
              case measure => omega
              case rel => exact ⟨j + 1, by omega, by go_num, HT2, HB2⟩
            · go_wp2_with fail
              refine (HKn _).mono ?_
              rintro e w6 ⟨rfl, hb6⟩
              have HB6 := step_below HB hb6
              clear hb6
              go_wp2
              go_ret
              exact ⟨rfl, HB6.out⟩
end Go.Proofs.Ytnmonhendidhkaa
