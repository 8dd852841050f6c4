/-
  Leaves: keys, splits, holder, newLeaf.
-/
import Derived.Test.YtejnmikbbnckeaaLf
namespace Go.Proofs.Ytejnmikbbnckeaa
open Go.RowKit Go.PlainAid

theorem keysOf_append (a b : List En) : keysOf (a ++ b) = keysOf a ++ keysOf b := List.map_append ..

set_option maxHeartbeats 4000000 in
theorem keys_any (B x : Nat) (f : Lf) (w : World) (hL : Leaf w B x f) (hn : f.es.length ≤ 1000000) :
    Calls Try.prog 54 #[ptr f.a] w fun e w' => Below w.heap.size w w' ∧ ∃ a n c, e = .returned (.slice a n c) ∧ OwnS w' w.heap.size a n c (keysOf f.es) := by
  have HL : Hid (Leaf w B x f) := hL
  have hc := hL.tabs
  have hmx := hL.max
  have HN : Hid (f.es.length ≤ 1000000) := hn
  have HE : Hid (f.es = tsEs f.ts) := rfl
  generalize hm : f.ts.length = m at hc hmx
  have HM : Hid (f.ts.length = m) := hm
  have HO : Hid (OwnS w w.heap.size none 0 0 (keysOf (tsEs (f.ts.take 0)))) := OwnR.nil _ _ _ _
  clear hL hn hm
  go_enter Try.func54, Try.ntmps54
  go_wp2
  go_loopg [3, 5, 11] m (fun q sv tv iv wr => ∃ (i : Nat) (a : Option Addr) (n c : Nat), i + q = m ∧ iv = .int .i64 i ∧ sv = .slice a n c ∧ Hid (OwnS wr w.heap.size a n c (keysOf (tsEs (f.ts.take i)))) ∧ Hid (Below w.heap.size w wr))
  case atStart => exact ⟨0, none, 0, 0, by omega, rfl, rfl, HO, Below.refl _ _⟩
  case round =>
    clear HO
    obtain ⟨i, a, n, c, hi, rfl, rfl, HO, HB⟩ := hrel
    by_cases h8 : (i : Int) < m
    · obtain ⟨t, ht, htm⟩ := get_of_lt (l := f.ts) (i := i) (by have := HM.out; omega)
      have hk := (HL.out.keep HB.out).at ht
      have hKey := Keys_any _ _ _ _ _ _ _ ((HL.out.keep HB.out).tab t htm)
      have HS : Hid (keysOf (tsEs (f.ts.take (i + 1))) = keysOf (tsEs (f.ts.take i)) ++ (ents t.z).map (·.1)) := by show _ = _; rw [take_more ht, tsEs_append, keysOf_append, tsEs_one]; rfl
      have HLe : Hid ((keysOf (tsEs (f.ts.take (i + 1)))).length ≤ 1000000) := by
        have h1 := HN.out
        rw [HE.out, ← List.take_append_drop (i + 1) f.ts, tsEs_append, List.length_append] at h1
        show _ ≤ _
        rw [List.length_map]
        omega
      rw [HS.out] at HLe
      generalize (ents t.z).map (·.1) = ks at HS HLe hKey
      clear ht htm
      go_wp2_with fail
      refine hKey.mono ?_
      rintro e w1 ⟨hb1, a1, n1, c1, rfl, hO1⟩
      have HO1 : Hid (OwnS w1 wr.heap.size a1 n1 c1 ks) := hO1
      have HB1 := step_below HB hb1
      have HO0 : Hid (OwnS w1 w.heap.size a n c (keysOf (tsEs (f.ts.take i)))) := OwnR.keep HO.out hb1
      have HN1 : Hid (n + n1 ≤ 1000000) := by
        have h1 := OwnS.len HO.out
        have h2 := OwnS.len hO1
        have h3 := HLe.out
        rw [List.length_append] at h3
        show _ ≤ _
        omega
      clear hb1 hO1 hKey
      go_wp2_with (at_builtin; refine append_p rfl (.tmp 15) (.tmp 17) rfl eltS w.heap.size rfl HO0.out rfl HO1.out.rd scells_one (by have := HN1.out; omega) (by have := HN1.out; unfold maxLen; omega) HB1.out.size ?_; intro a3 n3 c3 w3 hn3 HO3 HG3; have HB3 : Hid (Below w.heap.size w w3) := HB1.out.trans (HO0.out.below HG3.out HB1.out.size))
      go_roundg (gk - 1)
      case measure => omega
      case rel => exact ⟨i + 1, _, _, _, by omega, by go_num, rfl, by rw [HS.out, ← hn3]; rw [← scells_append] at HO3; exact HO3, HB3⟩
    · have HT : Hid (f.ts.take i = f.ts) := by show _ = _; rw [List.take_of_length_le (by have := HM.out; omega)]
      rw [HT.out] at HO
      go_wp2
      go_ret
      exact ⟨HB.out, _, _, _, rfl, HO.out⟩

theorem splits_any (B x : Nat) (f : Lf) (w : World) (hL : Leaf w B x f) (hl : f.l ≤ 16) (hn : f.es.length ≤ 1000000) :
    Calls Try.prog 42 #[ptr f.a] w fun e w' => e = .returned (.bool (decide (f.l < 16) && decide (112 ≤ f.es.length))) ∧ w' = w := by
  have hS := fun w hL => size_any B x f w hL hn
  have hc := hL.own
  have HL : Hid (Leaf w B x f) := hL
  generalize f.es.length = m at hS hn ⊢
  generalize f.l = l at hc hl ⊢
  by_cases h1 : l < 16
  · have HR : Hid (decide (l < 16) = true) := decide_eq_true h1
    have h1z : (l : Int) < 16 := by omega
    clear hL
    go_enter Try.func42, Try.ntmps42
    go_wp2_with fail
    refine (hS _ HL.out).mono ?_
    rintro e w ⟨rfl, rfl⟩
    by_cases h2 : 112 ≤ m
    · have h2z : (112 : Int) ≤ m := by omega
      have HR2 : Hid (decide (112 ≤ m) = true) := decide_eq_true h2
      clear h2
      go_wp2
      go_ret
      exact ⟨by rw [HR.out, HR2.out]; rfl, rfl⟩
    · have h2z : decide ((112 : Int) ≤ m) = false := decide_eq_false (by omega)
      have HR2 : Hid (decide (112 ≤ m) = false) := decide_eq_false h2
      clear h2
      go_wp2
      go_ret
      exact ⟨by rw [HR.out, HR2.out]; rfl, rfl⟩
  · have HR : Hid (decide (l < 16) = false) := decide_eq_false h1
    obtain rfl : l = 16 := by omega
    clear hL
    go_enter Try.func42, Try.ntmps42
    go_wp2
    go_ret
    exact ⟨by rw [HR.out]; rfl, rfl⟩

/-- The table that has a key, or none. -/
theorem holder_yes (B x : Nat) (f : Lf) (k : ByteArray) (w : World) (hL : Leaf w B x f) (hks : k.size ≤ maxLen) (hk : k ∈ keysOf f.es) :
    Calls Try.prog 40 #[ptr f.a, .string k] w fun e w' => Below w.heap.size w w' ∧ ∃ t, e = .returned (ptr t.p) ∧ t ∈ f.ts ∧ k ∈ keysOf t.es := by
  have HL : Hid (Leaf w B x f) := hL
  have hc := hL.tabs
  have hmx := hL.max
  have HK : Hid (k ∈ keysOf (tsEs f.ts)) := hk
  have HKS : Hid (k.size ≤ maxLen) := hks
  generalize hm : f.ts.length = m at hc hmx
  have HM : Hid (f.ts.length = m) := hm
  clear hL hm hk hks
  go_enter Try.func40, Try.ntmps40
  go_wp2
  go_loopg [6, 7, 8, 14] m (fun q tv vv bv iv wr => ∃ i : Nat, i + q = m ∧ iv = .int .i64 i ∧ Hid (k ∉ keysOf (tsEs (f.ts.take i))) ∧ Hid (Below w.heap.size w wr))
  case atStart => exact ⟨0, by omega, rfl, (by simp [tsEs] : k ∉ _), Below.refl _ _⟩
  case round =>
    obtain ⟨i, hi, rfl, HNo, HB⟩ := hrel
    by_cases h8 : (i : Int) < m
    · obtain ⟨t, ht, htm⟩ := get_of_lt (l := f.ts) (i := i) (by have := HM.out; omega)
      have hcc := (HL.out.keep HB.out).at ht
      have HTab : Hid (Tab wr B t.p t.b x t.G t.z) := (HL.out.keep HB.out).tab t htm
      have HMm : Hid (t ∈ f.ts) := htm
      by_cases hin : k ∈ (ents t.z).map (·.1)
      · obtain ⟨⟨k0, v⟩, hv, rfl⟩ := List.mem_map.1 hin
        have hG := Get_some _ _ _ _ _ _ k0 v _ HTab.out HKS.out hv
        have HIn : Hid ((k0, v) ∈ t.es) := hv
        clear ht htm hin hv
        go_wp2_with fail
        refine hG.mono ?_
        rintro e w1 ⟨rfl, hb1⟩
        have HB1 := step_below HB hb1
        clear hb1 hG
        go_wp2
        go_ret
        exact ⟨HB1.out, t, rfl, HMm.out, v, HIn.out⟩
      · have hG := Get_none _ _ _ _ _ _ k _ HTab.out HKS.out hin
        have HNo1 : Hid (k ∉ keysOf (tsEs (f.ts.take (i + 1)))) := by
          show k ∉ _
          rw [take_more ht, tsEs_append, keysOf_append, tsEs_one, List.mem_append]
          exact fun h => h.elim HNo.out hin
        clear ht htm hin
        go_wp2_with fail
        refine hG.mono ?_
        rintro e w1 ⟨rfl, hb1⟩
        have HB1 := step_below HB hb1
        clear hb1 hG
        go_wp2
        go_roundg (gk - 1)
        case measure => omega
        case rel => exact ⟨i + 1, by omega, by go_num, HNo1, HB1⟩
    · exact absurd HK.out (by have := HNo.out; rw [List.take_of_length_le (by have := HM.out; omega)] at this; exact this)
theorem holder_no (B x : Nat) (f : Lf) (k : ByteArray) (w : World) (hL : Leaf w B x f) (hks : k.size ≤ maxLen) (hk : k ∉ keysOf f.es) :
    Calls Try.prog 40 #[ptr f.a, .string k] w fun e w' => e = .returned (.pointer none) ∧ Below w.heap.size w w' := by
  have HL : Hid (Leaf w B x f) := hL
  have hc := hL.tabs
  have hmx := hL.max
  have HK : Hid (∀ t ∈ f.ts, k ∉ (ents t.z).map (·.1)) := fun t ht h => hk (by
    obtain ⟨e, he, h1⟩ := List.mem_map.1 h
    exact List.mem_map.2 ⟨e, List.mem_flatMap.2 ⟨t, ht, he⟩, h1⟩)
  have HKS : Hid (k.size ≤ maxLen) := hks
  generalize hm : f.ts.length = m at hc hmx
  have HM : Hid (f.ts.length = m) := hm
  clear hL hm hk hks
  go_enter Try.func40, Try.ntmps40
  go_wp2
  go_loopg [6, 7, 8, 14] m (fun q tv vv bv iv wr => ∃ i : Nat, i + q = m ∧ iv = .int .i64 i ∧ Hid (Below w.heap.size w wr))
  case atStart => exact ⟨0, by omega, rfl, Below.refl _ _⟩
  case round =>
    obtain ⟨i, hi, rfl, HB⟩ := hrel
    by_cases h8 : (i : Int) < m
    · obtain ⟨t, ht, htm⟩ := get_of_lt (l := f.ts) (i := i) (by have := HM.out; omega)
      have hcc := (HL.out.keep HB.out).at ht
      have hG := Get_none _ _ _ _ _ _ k _ ((HL.out.keep HB.out).tab t htm) HKS.out (HK.out t htm)
      clear ht htm
      go_wp2_with fail
      refine hG.mono ?_
      rintro e w1 ⟨rfl, hb1⟩
      have HB1 := step_below HB hb1
      clear hb1 hG
      go_wp2
      go_roundg (gk - 1)
      case measure => omega
      case rel => exact ⟨i + 1, by omega, by go_num, HB1⟩
    · go_wp2
      go_ret
      exact ⟨rfl, HB.out⟩

theorem size_alloc (w : World) (o : Obj) : (w.alloc o).heap.size = w.heap.size + 1 := by
  show (w.heap.push o).size = _
  exact Array.size_push ..
/-- A leaf of one table that was made just now. -/
theorem newLeaf_any (l p : Nat) (w : World) :
    Calls Try.prog 33 #[.int .i64 (l : Nat), ptr p] w fun e w' => Below w.heap.size w w' ∧ ∃ a, e = .returned (ptr a) ∧ w.heap.size < a ∧ a < w'.heap.size ∧
      w'.heap[a]? = some (.cells #[.int .i64 (l : Nat), .slice (some ⟨w.heap.size, 0, none⟩) 1 1] 84 (0, 0)) ∧ OwnP w' w.heap.size 59 (some ⟨w.heap.size, 0, none⟩) 1 1 [p] := by
  obtain ⟨w1, hw1⟩ : ∃ w1, w.alloc (.cells #[ptr p] 59) = w1 := ⟨_, rfl⟩
  have HB1 : Hid (Below w.heap.size w w1) := by show Below _ _ _; rw [← hw1]; exact alloc_below w _
  have HS1 : Hid (w1.heap.size = w.heap.size + 1) := by show _ = _; rw [← hw1]; exact size_alloc w _
  have HO1 : Hid (OwnP w1 w.heap.size 59 (some ⟨w.heap.size, 0, none⟩) 1 1 [p]) := by
    show OwnP _ _ _ _ _ _ _
    rw [← hw1]
    exact ⟨rfl, .inr ⟨w.heap.size, 1, #[ptr p], rfl, Nat.le_refl _, heap_alloc_new w _, Nat.le_refl _, by decide, rfl, rfl⟩⟩
  obtain ⟨w2, hw2⟩ : ∃ w2, w1.alloc (.cells #[.int .i64 (l : Nat), .slice (some ⟨w.heap.size, 0, none⟩) 1 1] 84) = w2 := ⟨_, rfl⟩
  have HB2 : Hid (Below w1.heap.size w1 w2) := by show Below _ _ _; rw [← hw2]; exact alloc_below w1 _
  have HS2 : Hid (w2.heap.size = w1.heap.size + 1) := by show _ = _; rw [← hw2]; exact size_alloc w1 _
  have HK2 : Hid (w2.heap[w1.heap.size]? = some (.cells #[.int .i64 (l : Nat), .slice (some ⟨w.heap.size, 0, none⟩) 1 1] 84 (0, 0))) := by show _ = _; rw [← hw2]; exact heap_alloc_new w1 _
  go_enter Try.func33, Try.ntmps33
  go_wp2
  go_ret
  refine ⟨(step_below HB1 HB2.out).out, w1.heap.size, rfl, by have := HS1.out; omega, by have := HS2.out; omega, HK2.out, OwnR.keep HO1.out HB2.out⟩
end Go.Proofs.Ytejnmikbbnckeaa
