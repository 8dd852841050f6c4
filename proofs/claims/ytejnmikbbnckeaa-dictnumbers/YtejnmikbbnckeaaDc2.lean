/-
  Get; leaves, Tables, Keys.
-/
import Derived.Test.YtejnmikbbnckeaaDc
namespace Go.Proofs.Ytejnmikbbnckeaa
open Go.RowKit Go.PlainAid

theorem val_one {es : List En} (hn : (keysOf es).Nodup) {k : ByteArray} {u v : Int} (h1 : (k, u) ∈ es) (h2 : (k, v) ∈ es) : u = v := by
  induction es with
  | nil => cases h1
  | cons e es ih =>
    replace hn : (e.1 :: keysOf es).Nodup := hn
    rw [List.nodup_cons] at hn
    rcases List.mem_cons.1 h1 with e1 | g1
    · subst e1
      rcases List.mem_cons.1 h2 with e2 | g2
      · exact (Prod.mk.inj e2).2.symm
      · exact absurd (List.mem_map.2 ⟨_, g2, rfl⟩) hn.1
    · rcases List.mem_cons.1 h2 with e2 | g2
      · subst e2
        exact absurd (List.mem_map.2 ⟨_, g1, rfl⟩) hn.1
      · exact ih hn.2 g1 g2
theorem Of_hsh (x : Nat) (k : ByteArray) (w : World) (hks : k.size ≤ maxLen) (hx : x < 18446744073709551616) : Calls Try.prog 38 #[.int .u64 x, .string k] w fun e w' => e = .returned (.int .u64 (hsh x k : Nat)) ∧ w' = w := Of_any x k w hks hx

set_option maxHeartbeats 4000000 in
theorem Get_dsome (B d x : Nat) (D : Dg) (k : ByteArray) (v : Int) (w : World) (hD : Dct w B d x D) (hks : k.size ≤ maxLen) (hk : (k, v) ∈ D.es) :
    Calls Try.prog 30 #[ptr d, .string k] w fun e w' => e = .returned (.tuple #[.int .i64 v, .bool true]) ∧ Below w.heap.size w w' := by
  obtain ⟨La, f, Lc, eL, hi, h2, h3⟩ := hD.parts (hsh x k)
  have hf : f ∈ D.L := by rw [eL]; simp
  have HK : Hid ((k, v) ∈ tsEs f.ts) := (hD.mem eL h2 h3).1 hk
  have HD : Hid (Dct w B d x D) := hD
  have hc := hD.cseed
  have HOf := fun w => Of_hsh x k w hks hD.seed
  have HLf := fun w hD => leafOf_any B d x D f (hsh x k) w hD hf hi (hsh_lt x k)
  have HL : Hid (Leaf w B x f) := hD.leaf f hf
  have hmx := HL.out.max
  have HKS : Hid (k.size ≤ maxLen) := hks
  generalize hm : f.ts.length = m at hmx
  have HM : Hid (f.ts.length = m) := hm
  generalize hsh x k = h at HOf HLf
  clear hD hk hks hm hi h2 h3 eL hf
  go_enter Try.func30, Try.ntmps30
  go_wp2_with fail
  refine (HOf _).mono ?_
  rintro e w ⟨rfl, rfl⟩
  go_wp2_with fail
  refine (HLf _ HD.out).mono ?_
  rintro e w1 ⟨rfl, hb1⟩
  have HB1 : Hid (Below w.heap.size w w1) := hb1
  have hc1 := (HL.out.keep hb1).tabs
  rw [HM.out] at hc1
  clear HOf HLf hb1 hc
  go_wp2
  go_loopg [7, 8, 9, 23] m (fun q tv vv bv iv wr => ∃ i : Nat, i + q = m ∧ iv = .int .i64 i ∧ Hid (k ∉ keysOf (tsEs (f.ts.take i))) ∧ Hid (Below w.heap.size w wr))
  case atStart => exact ⟨0, by omega, rfl, (by simp [tsEs] : k ∉ _), HB1⟩
  case round =>
    obtain ⟨i, hi, rfl, HNo, HB⟩ := hrel
    by_cases h8 : (i : Int) < m
    · obtain ⟨t, ht, htm⟩ := get_of_lt (l := f.ts) (i := i) (by have := HM.out; omega)
      have hcc := (HL.out.keep HB.out).at ht
      have HTab : Hid (Tab wr B t.p t.b x t.G t.z) := (HL.out.keep HB.out).tab t htm
      by_cases hin : k ∈ (ents t.z).map (·.1)
      · obtain ⟨⟨k0, v'⟩, hv, rfl⟩ := List.mem_map.1 hin
        have hvv : v' = v := val_one HL.out.key (List.mem_flatMap.2 ⟨t, htm, hv⟩) HK.out
        subst hvv
        have hG := Get_some _ _ _ _ _ _ k0 v' _ HTab.out HKS.out hv
        clear ht htm hin hv
        go_wp2_with fail
        refine hG.mono ?_
        rintro e w2 ⟨rfl, hb2⟩
        have HB2 := step_below HB hb2
        clear hb2 hG
        go_wp2
        go_ret2
        exact ⟨rfl, HB2.out⟩
      · have hG := Get_none _ _ _ _ _ _ k _ HTab.out HKS.out hin
        have HNo1 : Hid (k ∉ keysOf (tsEs (f.ts.take (i + 1)))) := by
          show k ∉ _
          rw [take_more ht, tsEs_append, keysOf_append, tsEs_one, List.mem_append]
          exact fun h => h.elim HNo.out hin
        clear ht htm hin
        go_wp2_with fail
        refine hG.mono ?_
        rintro e w2 ⟨rfl, hb2⟩
        have HB2 := step_below HB hb2
        clear hb2 hG
        go_wp2
        go_roundg (gk - 1)
        case measure => omega
        case rel => exact ⟨i + 1, by omega, by go_num, HNo1, HB2⟩
    · exact absurd (List.mem_map.2 ⟨_, HK.out, rfl⟩) (by have := HNo.out; rw [List.take_of_length_le (by have := HM.out; omega)] at this; exact this)
set_option maxHeartbeats 4000000 in
theorem Get_dnone (B d x : Nat) (D : Dg) (k : ByteArray) (w : World) (hD : Dct w B d x D) (hks : k.size ≤ maxLen) (hk : k ∉ keysOf D.es) :
    Calls Try.prog 30 #[ptr d, .string k] w fun e w' => e = .returned (.tuple #[.int .i64 0, .bool false]) ∧ Below w.heap.size w w' := by
  obtain ⟨La, f, Lc, eL, hi, h2, h3⟩ := hD.parts (hsh x k)
  have hf : f ∈ D.L := by rw [eL]; simp
  have HK : Hid (k ∉ keysOf f.es) := fun h => hk ((hD.memk eL h2 h3).2 h)
  have HD : Hid (Dct w B d x D) := hD
  have hc := hD.cseed
  have HOf := fun w => Of_hsh x k w hks hD.seed
  have HLf := fun w hD => leafOf_any B d x D f (hsh x k) w hD hf hi (hsh_lt x k)
  have HL : Hid (Leaf w B x f) := hD.leaf f hf
  have hmx := HL.out.max
  have HKS : Hid (k.size ≤ maxLen) := hks
  generalize hm : f.ts.length = m at hmx
  have HM : Hid (f.ts.length = m) := hm
  generalize hsh x k = h at HOf HLf
  clear hD hk hks hm hi h2 h3 eL hf
  go_enter Try.func30, Try.ntmps30
  go_wp2_with fail
  refine (HOf _).mono ?_
  rintro e w ⟨rfl, rfl⟩
  go_wp2_with fail
  refine (HLf _ HD.out).mono ?_
  rintro e w1 ⟨rfl, hb1⟩
  have HB1 : Hid (Below w.heap.size w w1) := hb1
  have hc1 := (HL.out.keep hb1).tabs
  rw [HM.out] at hc1
  clear HOf HLf hb1 hc
  go_wp2
  go_loopg [7, 8, 9, 23] m (fun q tv vv bv iv wr => ∃ i : Nat, i + q = m ∧ iv = .int .i64 i ∧ Hid (Below w.heap.size w wr))
  case atStart => exact ⟨0, by omega, rfl, HB1⟩
  case round =>
    obtain ⟨i, hi, rfl, HB⟩ := hrel
    by_cases h8 : (i : Int) < m
    · obtain ⟨t, ht, htm⟩ := get_of_lt (l := f.ts) (i := i) (by have := HM.out; omega)
      have hcc := (HL.out.keep HB.out).at ht
      have hG := Get_none _ _ _ _ _ _ k _ ((HL.out.keep HB.out).tab t htm) HKS.out (not_in_tab HK.out htm)
      clear ht htm
      go_wp2_with fail
      refine hG.mono ?_
      rintro e w2 ⟨rfl, hb2⟩
      have HB2 := step_below HB hb2
      clear hb2 hG
      go_wp2
      go_roundg (gk - 1)
      case measure => omega
      case rel => exact ⟨i + 1, by omega, by go_num, HB2⟩
    · go_wp2
      go_ret2
      exact ⟨rfl, HB.out⟩

/-- The leaves in the order of their places. -/
def ordU (L : List Lf) (n : Nat) : List Lf := (List.range n).filterMap fun i => L.find? fun f => decide (f.q = i)
theorem Dct.same {w : World} {B d x : Nat} {D : Dg} (h : Dct w B d x D) {f u : Lf} (hf : f ∈ D.L) (hu : u ∈ D.L) {i : Nat} (h1 : isIn f.pt i = true) (h2 : isIn u.pt i = true) : f = u := by
  obtain ⟨j, hj, rfl⟩ := List.getElem_of_mem hf
  obtain ⟨k, hk, rfl⟩ := List.getElem_of_mem hu
  have hl : D.sh.length = D.L.length := List.length_map ..
  have e1 : D.sh[j]'(by omega) = D.L[j].pt := by simp [Dg.sh, shL]
  have e2 : D.sh[k]'(by omega) = D.L[k].pt := by simp [Dg.sh, shL]
  have := h.shp.one (i := j) (j := k) (by omega) (by omega) (h := i) (by rw [e1]; exact h1) (by rw [e2]; exact h2)
  subst this
  rfl
theorem Dct.self {w : World} {B d x : Nat} {D : Dg} (h : Dct w B d x D) {f : Lf} (hf : f ∈ D.L) : isIn f.pt f.q = true := isIn_self (h.lef hf).2.2
theorem Dct.find {w : World} {B d x : Nat} {D : Dg} (h : Dct w B d x D) {f : Lf} (hf : f ∈ D.L) : D.L.find? (fun u => decide (u.q = f.q)) = some f := by
  have : (D.L.find? (fun u => decide (u.q = f.q))).isSome = true := by rw [List.find?_isSome]; exact ⟨f, hf, by simp⟩
  obtain ⟨u, hu⟩ := Option.isSome_iff_exists.1 this
  have h1 := List.mem_of_find?_eq_some hu
  have h2 : u.q = f.q := by simpa using List.find?_some hu
  rw [hu]
  have := h.self h1
  rw [h2] at this
  rw [h.same h1 hf this (h.self hf)]
/-- One place more. -/
theorem Dct.ord_step {w : World} {B d x : Nat} {D : Dg} (h : Dct w B d x D) {f : Lf} (hf : f ∈ D.L) {i : Nat} (hi : isIn f.pt i = true) : ordU D.L (i + 1) = ordU D.L i ++ (if i = f.q then [f] else []) := by
  unfold ordU
  rw [List.range_succ, List.filterMap_append]
  congr 1
  by_cases e : i = f.q
  · subst e
    rw [if_pos rfl]
    simp only [List.filterMap_cons, List.filterMap_nil]
    rw [h.find hf]
  · rw [if_neg e]
    have : D.L.find? (fun u => decide (u.q = i)) = none := by
      rw [List.find?_eq_none]
      intro u hu hq
      have hq' := of_decide_eq_true hq
      have h1 := h.self hu
      rw [hq'] at h1
      have := h.same hu hf h1 hi
      subst this
      exact e hq'.symm
    simp only [List.filterMap_cons, List.filterMap_nil, this]
theorem Dct.ord_perm {w : World} {B d x : Nat} {D : Dg} (h : Dct w B d x D) : (ordU D.L (2 ^ D.g)).Perm D.L := by
  have hn : D.L.Nodup := by
    have h1 := h.shp.dis
    unfold Dg.sh shL at h1
    rw [List.pairwise_map] at h1
    unfold List.Nodup
    refine List.Pairwise.imp_of_mem ?_ h1
    intro a b ha _ hab e
    subst e
    have := hab _ (h.self ha)
    rw [h.self ha] at this
    cases this
  refine (List.perm_ext_iff_of_nodup ?_ hn).2 fun f => ?_
  · unfold ordU List.Nodup
    rw [List.pairwise_filterMap]
    refine List.Pairwise.imp ?_ List.nodup_range
    intro i j hij u hu v hv e
    subst e
    have h1 : u.q = i := by simpa using List.find?_some hu
    have h2 : u.q = j := by simpa using List.find?_some hv
    exact hij (h1.symm.trans h2)
  · unfold ordU
    rw [List.mem_filterMap]
    constructor
    · rintro ⟨i, -, hi⟩
      exact List.mem_of_find?_eq_some hi
    · intro hf
      have hl := h.lef hf
      exact ⟨f.q, List.mem_range.2 (Nat.lt_of_lt_of_le hl.2.2 (Nat.pow_le_pow_right (by decide) hl.1)), h.find hf⟩
theorem ordU_le (L : List Lf) (n : Nat) : (ordU L n).length ≤ n := by
  unfold ordU
  have := List.length_filterMap_le (fun i => L.find? fun f => decide (f.q = i)) (List.range n)
  rwa [List.length_range] at this
theorem Dct.find_leaf {w : World} {B d x : Nat} {D : Dg} (h : Dct w B d x D) (hh : Nat) : ∃ f, f ∈ D.L ∧ isIn f.pt hh = true := by
  obtain ⟨a, f, c, e, h1, -⟩ := h.parts hh
  exact ⟨f, by rw [e]; simp, h1⟩

set_option maxHeartbeats 4000000 in
theorem leaves_any (B d x : Nat) (D : Dg) (w : World) (hD : Dct w B d x D) :
    Calls Try.prog 60 #[ptr d] w fun e w' => Below w.heap.size w w' ∧ ∃ a n c, e = .returned (.slice a n c) ∧ OwnP w' w.heap.size 57 a n c ((ordU D.L (2 ^ D.g)).map Lf.a) := by
  have HD : Hid (Dct w B d x D) := hD
  have hc := hD.cpl
  have hp := hD.pow
  have HP : Hid (∀ i, i < 2 ^ D.g → i < 65536) := fun i hi => by omega
  generalize hm : 2 ^ D.g = m at hc hp
  have HM : Hid (2 ^ D.g = m) := hm
  have HO : Hid (OwnP w w.heap.size 57 none 0 0 ((ordU D.L 0).map Lf.a)) := OwnR.nil _ _ _ _
  clear hD hm
  go_enter Try.func60, Try.ntmps60
  go_wp2
  go_loopg [3, 4, 5, 11] m (fun q sv pv lv iv wr => ∃ (i : Nat) (a : Option Addr) (n c : Nat), i + q = m ∧ iv = .int .i64 i ∧ sv = .slice a n c ∧ Hid (OwnP wr w.heap.size 57 a n c ((ordU D.L i).map Lf.a)) ∧ Hid (Below w.heap.size w wr))
  case atStart => exact ⟨0, none, 0, 0, by omega, rfl, rfl, HO, Below.refl _ _⟩
  case round =>
    clear HO
    obtain ⟨i, a, n, c, hi, rfl, rfl, HO, HB⟩ := hrel
    by_cases h8 : (i : Int) < m
    · obtain ⟨f, hf, hin⟩ := HD.out.find_leaf i
      have hDr := HD.out.keep HB.out
      have hpl := HD.out.dir f hf i (by rw [HM.out]; omega) hin
      have hcell := OwnP.cell hDr.row hpl
      have hown := (hDr.leaf f hf).own
      have hle := HD.out.lef hf
      have HS := HD.out.ord_step hf hin
      have HN1 : Hid (n + 1 ≤ 1000000) := by
        have h1 := OwnP.len HO.out
        have h2 := ordU_le D.L i
        rw [List.length_map] at h1
        show _ ≤ _
        omega
      have hq : i / 2 ^ f.l = 0 ↔ i = f.q := by
        rw [isIn_iff] at hin
        simp only [Lf.pt] at hin
        constructor
        · intro h
          rw [← hin, Nat.mod_eq_of_lt]
          rcases Nat.lt_or_ge i (2 ^ f.l) with h1 | h1
          · exact h1
          · have := Nat.div_pos h1 (pow_pos f.l); omega
        · intro h
          rw [Nat.div_eq_of_lt]
          have := hle.2.2
          omega
      have hle16 := hle.2.1
      generalize f.l = l at hown hq hle16
      obtain ⟨z, hz⟩ : ∃ z, i / 2 ^ l = z := ⟨_, rfl⟩
      have hzz : (i : Int) / 2 ^ l = (z : Nat) := by rw [← hz]; simp
      rw [hz] at hq
      clear hz hDr hpl hle hin hf
      have hsz := HB.out.size
      by_cases e : i = f.q
      · rw [if_pos e, ] at HS
        have HS1 : Hid ((ordU D.L (i + 1)).map Lf.a = (ordU D.L i).map Lf.a ++ [f.a]) := by show _ = _; rw [HS, List.map_append]; rfl
        obtain rfl : z = 0 := hq.2 e
        generalize f.a = fa at hcell hown HS1
        clear HS hq e
        replace hzz : (i : Int) / 2 ^ l = 0 := hzz
        go_wp2_with (at_builtin; refine append_r rfl (.tmp 23) (.tmp 25) rfl eltL w.heap.size rfl (OwnR.keep HO.out (alloc_below wr _)) [ptr fa] rfl rfl (by intro j u hu; cases j with | zero => (rw [add_flat]; simp only [World.cell?, heap_alloc_new]; exact hu) | succ j => simp at hu) (by simp [Value.oneCell']) (by decide) (by have := HN1.out; omega) (by have := HN1.out; unfold maxLen; omega) (Nat.le_trans hsz (alloc_below wr _).size) ?_; intro a3 n3 c3 w3 hn3 HO3 HG3 HW3; have HB3 : Hid (Below w.heap.size w w3) := (HB.out.trans ((alloc_below wr _).mono hsz)).trans ((OwnR.keep HO.out (alloc_below wr _)).below HG3.out (Nat.le_trans hsz (alloc_below wr _).size)))
        go_roundg (gk - 1)
        case measure => omega
        case rel => exact ⟨i + 1, _, _, _, by omega, by go_num, rfl, by rw [HS1.out, ← hn3]; show OwnP _ _ _ _ _ _ _; unfold OwnP; rw [pcells_append]; exact HO3.out, HB3⟩
      · rw [if_neg e, List.append_nil] at HS
        have HS1 : Hid (ordU D.L (i + 1) = ordU D.L i) := HS
        have hz0 : ((z : Int) == 0) = false := by simp; intro h; exact e (hq.1 h)
        generalize f.a = fa at hcell hown
        clear HS hq e
        go_wp2
        go_roundg (gk - 1)
        case measure => omega
        case rel => exact ⟨i + 1, _, _, _, by omega, by go_num, rfl, by rw [HS1.out]; exact HO, HB⟩
    · have : i = m := by omega
      subst this
      go_wp2
      go_ret
      exact ⟨HB.out, _, _, _, rfl, HO.out⟩
theorem Tables_any (B d x : Nat) (D : Dg) (w : World) (hD : Dct w B d x D) : Calls Try.prog 32 #[ptr d] w fun e w' => e = .returned (.int .i64 (D.L.length : Nat)) ∧ Below w.heap.size w w' := by
  have H := leaves_any B d x D w hD
  have HL : Hid ((ordU D.L (2 ^ D.g)).length = D.L.length) := hD.ord_perm.length_eq
  clear hD
  go_enter Try.func32, Try.ntmps32
  go_wp2_with fail
  refine H.mono ?_
  rintro e w1 ⟨hb1, a, n, c, rfl, hO⟩
  have HB1 : Hid (Below w.heap.size w w1) := hb1
  have HN : Hid (D.L.length = n) := by have := OwnP.len hO; rw [List.length_map, HL.out] at this; exact this
  clear hb1 hO H
  go_wp2
  go_ret
  exact ⟨by rw [HN.out]; rfl, HB1.out⟩
end Go.Proofs.Ytejnmikbbnckeaa
