/-
  The table of commands: its six parts, and the whole.
-/
import Derived.Test.YtlapiaoopmhogaaDoorCa
namespace Go.Proofs.YtlapiaoopmhogaaDoor
open Go.RowKit Go.PlainAid

theorem cells_new {w : World} {cs : Array Value} {t : TypeId} {news : List Value} (h : cs.toList = news) : ∀ ad, some (⟨w.heap.size, 0, none⟩ : Addr) = some ad → ∀ j u, news[j]? = some u → (w.alloc (.cells cs t)).cell? (ad.add j) = some u := by
  intro ad e j u hu
  cases e
  rw [add_flat, Nat.zero_add]
  exact cell_new w cs t j u (by rw [← h] at hu; simpa using hu)

set_option maxRecDepth 100000 in
set_option maxHeartbeats 4000000 in
theorem addStrings_any (B : Nat) (a : Option Addr) (n c : Nat) (cs : List Value) (w : World) (h : OwnT w B 5 a n c cs) (hn : n ≤ 1000) (hB : B ≤ w.heap.size) :
    Calls Tryd.prog 37 #[.slice a n c] w fun e w' => ∃ a2 n2 c2, n2 = n + 18 ∧ e = .returned (.slice a2 n2 c2) ∧ Hid (OwnT w' B 5 a2 n2 c2 (cs ++ ccells cmStrings)) ∧ Hid (Below B w w') := by
  have HO : Hid (OwnT w B 5 a n c cs) := h
  have HB : Hid (B ≤ w.heap.size) := hB
  have HN : Hid (n ≤ 1000) := hn
  clear h hB hn
  go_enter Tryd.func37, Tryd.ntmps37
  go_wp2_with (at_builtin; refine append_t rfl (.tmp 3) (.tmp 22) rfl eltC B rfl (HO.out.keep (alloc_below w _)) (ccells cmStrings) rfl rfl (by intro h; cases h) (cells_new rfl) (ccells_one _) (by have := HN.out; omega) (by have := HN.out; unfold maxLen; omega) (Nat.le_trans HB.out (alloc_below w _).size) ?_; intro a2 n2 c2 w2 hn2 HO2 HB2; replace HB2 : Hid (Below B w w2) := ((alloc_below w _).mono HB.out).trans HB2.out)
  go_ret
  exact ⟨a2, n2, c2, hn2, by rw [hn2]; rfl, HO2, HB2⟩

set_option maxRecDepth 100000 in
set_option maxHeartbeats 4000000 in
theorem addHashes_any (B : Nat) (a : Option Addr) (n c : Nat) (cs : List Value) (w : World) (h : OwnT w B 5 a n c cs) (hn : n ≤ 1000) (hB : B ≤ w.heap.size) :
    Calls Tryd.prog 38 #[.slice a n c] w fun e w' => ∃ a2 n2 c2, n2 = n + 13 ∧ e = .returned (.slice a2 n2 c2) ∧ Hid (OwnT w' B 5 a2 n2 c2 (cs ++ ccells cmHashes)) ∧ Hid (Below B w w') := by
  have HO : Hid (OwnT w B 5 a n c cs) := h
  have HB : Hid (B ≤ w.heap.size) := hB
  have HN : Hid (n ≤ 1000) := hn
  clear h hB hn
  go_enter Tryd.func38, Tryd.ntmps38
  go_wp2_with (at_builtin; refine append_t rfl (.tmp 3) (.tmp 17) rfl eltC B rfl (HO.out.keep (alloc_below w _)) (ccells cmHashes) rfl rfl (by intro h; cases h) (cells_new rfl) (ccells_one _) (by have := HN.out; omega) (by have := HN.out; unfold maxLen; omega) (Nat.le_trans HB.out (alloc_below w _).size) ?_; intro a2 n2 c2 w2 hn2 HO2 HB2; replace HB2 : Hid (Below B w w2) := ((alloc_below w _).mono HB.out).trans HB2.out)
  go_ret
  exact ⟨a2, n2, c2, hn2, by rw [hn2]; rfl, HO2, HB2⟩

set_option maxRecDepth 100000 in
set_option maxHeartbeats 4000000 in
theorem addSets_any (B : Nat) (a : Option Addr) (n c : Nat) (cs : List Value) (w : World) (h : OwnT w B 5 a n c cs) (hn : n ≤ 1000) (hB : B ≤ w.heap.size) :
    Calls Tryd.prog 39 #[.slice a n c] w fun e w' => ∃ a2 n2 c2, n2 = n + 12 ∧ e = .returned (.slice a2 n2 c2) ∧ Hid (OwnT w' B 5 a2 n2 c2 (cs ++ ccells cmSets)) ∧ Hid (Below B w w') := by
  have HO : Hid (OwnT w B 5 a n c cs) := h
  have HB : Hid (B ≤ w.heap.size) := hB
  have HN : Hid (n ≤ 1000) := hn
  clear h hB hn
  go_enter Tryd.func39, Tryd.ntmps39
  go_wp2_with (at_builtin; refine append_t rfl (.tmp 3) (.tmp 16) rfl eltC B rfl (HO.out.keep (alloc_below w _)) (ccells cmSets) rfl rfl (by intro h; cases h) (cells_new rfl) (ccells_one _) (by have := HN.out; omega) (by have := HN.out; unfold maxLen; omega) (Nat.le_trans HB.out (alloc_below w _).size) ?_; intro a2 n2 c2 w2 hn2 HO2 HB2; replace HB2 : Hid (Below B w w2) := ((alloc_below w _).mono HB.out).trans HB2.out)
  go_ret
  exact ⟨a2, n2, c2, hn2, by rw [hn2]; rfl, HO2, HB2⟩

set_option maxRecDepth 100000 in
set_option maxHeartbeats 4000000 in
theorem addLists_any (B : Nat) (a : Option Addr) (n c : Nat) (cs : List Value) (w : World) (h : OwnT w B 5 a n c cs) (hn : n ≤ 1000) (hB : B ≤ w.heap.size) :
    Calls Tryd.prog 40 #[.slice a n c] w fun e w' => ∃ a2 n2 c2, n2 = n + 12 ∧ e = .returned (.slice a2 n2 c2) ∧ Hid (OwnT w' B 5 a2 n2 c2 (cs ++ ccells cmLists)) ∧ Hid (Below B w w') := by
  have HO : Hid (OwnT w B 5 a n c cs) := h
  have HB : Hid (B ≤ w.heap.size) := hB
  have HN : Hid (n ≤ 1000) := hn
  clear h hB hn
  go_enter Tryd.func40, Tryd.ntmps40
  go_wp2_with (at_builtin; refine append_t rfl (.tmp 3) (.tmp 16) rfl eltC B rfl (HO.out.keep (alloc_below w _)) (ccells cmLists) rfl rfl (by intro h; cases h) (cells_new rfl) (ccells_one _) (by have := HN.out; omega) (by have := HN.out; unfold maxLen; omega) (Nat.le_trans HB.out (alloc_below w _).size) ?_; intro a2 n2 c2 w2 hn2 HO2 HB2; replace HB2 : Hid (Below B w w2) := ((alloc_below w _).mono HB.out).trans HB2.out)
  go_ret
  exact ⟨a2, n2, c2, hn2, by rw [hn2]; rfl, HO2, HB2⟩

set_option maxRecDepth 100000 in
set_option maxHeartbeats 4000000 in
theorem addKeys_any (B : Nat) (a : Option Addr) (n c : Nat) (cs : List Value) (w : World) (h : OwnT w B 5 a n c cs) (hn : n ≤ 1000) (hB : B ≤ w.heap.size) :
    Calls Tryd.prog 41 #[.slice a n c] w fun e w' => ∃ a2 n2 c2, n2 = n + 17 ∧ e = .returned (.slice a2 n2 c2) ∧ Hid (OwnT w' B 5 a2 n2 c2 (cs ++ ccells cmKeys)) ∧ Hid (Below B w w') := by
  have HO : Hid (OwnT w B 5 a n c cs) := h
  have HB : Hid (B ≤ w.heap.size) := hB
  have HN : Hid (n ≤ 1000) := hn
  clear h hB hn
  go_enter Tryd.func41, Tryd.ntmps41
  go_wp2_with (at_builtin; refine append_t rfl (.tmp 3) (.tmp 21) rfl eltC B rfl (HO.out.keep (alloc_below w _)) (ccells cmKeys) rfl rfl (by intro h; cases h) (cells_new rfl) (ccells_one _) (by have := HN.out; omega) (by have := HN.out; unfold maxLen; omega) (Nat.le_trans HB.out (alloc_below w _).size) ?_; intro a2 n2 c2 w2 hn2 HO2 HB2; replace HB2 : Hid (Below B w w2) := ((alloc_below w _).mono HB.out).trans HB2.out)
  go_ret
  exact ⟨a2, n2, c2, hn2, by rw [hn2]; rfl, HO2, HB2⟩

set_option maxRecDepth 100000 in
set_option maxHeartbeats 4000000 in
theorem addConns_any (B : Nat) (a : Option Addr) (n c : Nat) (cs : List Value) (w : World) (h : OwnT w B 5 a n c cs) (hn : n ≤ 1000) (hB : B ≤ w.heap.size) :
    Calls Tryd.prog 42 #[.slice a n c] w fun e w' => ∃ a2 n2 c2, n2 = n + 9 ∧ e = .returned (.slice a2 n2 c2) ∧ Hid (OwnT w' B 5 a2 n2 c2 (cs ++ ccells cmConns)) ∧ Hid (Below B w w') := by
  have HO : Hid (OwnT w B 5 a n c cs) := h
  have HB : Hid (B ≤ w.heap.size) := hB
  have HN : Hid (n ≤ 1000) := hn
  clear h hB hn
  go_enter Tryd.func42, Tryd.ntmps42
  go_wp2_with (at_builtin; refine append_t rfl (.tmp 3) (.tmp 13) rfl eltC B rfl (HO.out.keep (alloc_below w _)) (ccells cmConns) rfl rfl (by intro h; cases h) (cells_new rfl) (ccells_one _) (by have := HN.out; omega) (by have := HN.out; unfold maxLen; omega) (Nat.le_trans HB.out (alloc_below w _).size) ?_; intro a2 n2 c2 w2 hn2 HO2 HB2; replace HB2 : Hid (Below B w w2) := ((alloc_below w _).mono HB.out).trans HB2.out)
  go_ret
  exact ⟨a2, n2, c2, hn2, by rw [hn2]; rfl, HO2, HB2⟩

set_option maxRecDepth 100000 in
theorem table_any (B : Nat) (a : Option Addr) (c : Nat) (w : World) (h : OwnT w B 5 a 0 c []) (hB : B ≤ w.heap.size) :
    Calls Tryd.prog 24 #[.slice a 0 c] w fun e w' => ∃ a2 c2, e = .returned (.slice a2 81 c2) ∧ Hid (OwnC w' B a2 81 c2 progs) ∧ Hid (Below B w w') := by
  have HO0 : Hid (OwnT w B 5 a 0 c []) := h
  have HS0 : Hid (B ≤ w.heap.size) := hB
  have HB0 : Hid (Below B w w) := Below.refl _ _
  clear h hB
  go_enter Tryd.func24, Tryd.ntmps24
  go_wp2_with (first
    | (go_at_call 37; refine (addStrings_any B _ _ _ _ _ HO0.out (by decide) HS0.out).mono ?_; rintro e w1 ⟨a1, n1, c1, hn1, rfl, HO1, hb1⟩; subst hn1; have HS1 : Hid (B ≤ w1.heap.size) := Nat.le_trans HS0.out hb1.out.size; have HB1 : Hid (Below B w w1) := HB0.out.trans hb1.out; clear hb1)
    | (go_at_call 38; refine (addHashes_any B _ _ _ _ _ HO1.out (by decide) HS1.out).mono ?_; rintro e w2 ⟨a2, n2, c2, hn2, rfl, HO2, hb2⟩; subst hn2; have HS2 : Hid (B ≤ w2.heap.size) := Nat.le_trans HS1.out hb2.out.size; have HB2 : Hid (Below B w w2) := HB1.out.trans hb2.out; clear hb2)
    | (go_at_call 39; refine (addSets_any B _ _ _ _ _ HO2.out (by decide) HS2.out).mono ?_; rintro e w3 ⟨a3, n3, c3, hn3, rfl, HO3, hb3⟩; subst hn3; have HS3 : Hid (B ≤ w3.heap.size) := Nat.le_trans HS2.out hb3.out.size; have HB3 : Hid (Below B w w3) := HB2.out.trans hb3.out; clear hb3)
    | (go_at_call 40; refine (addLists_any B _ _ _ _ _ HO3.out (by decide) HS3.out).mono ?_; rintro e w4 ⟨a4, n4, c4, hn4, rfl, HO4, hb4⟩; subst hn4; have HS4 : Hid (B ≤ w4.heap.size) := Nat.le_trans HS3.out hb4.out.size; have HB4 : Hid (Below B w w4) := HB3.out.trans hb4.out; clear hb4)
    | (go_at_call 41; refine (addKeys_any B _ _ _ _ _ HO4.out (by decide) HS4.out).mono ?_; rintro e w5 ⟨a5, n5, c5, hn5, rfl, HO5, hb5⟩; subst hn5; have HS5 : Hid (B ≤ w5.heap.size) := Nat.le_trans HS4.out hb5.out.size; have HB5 : Hid (Below B w w5) := HB4.out.trans hb5.out; clear hb5)
    | (go_at_call 42; refine (addConns_any B _ _ _ _ _ HO5.out (by decide) HS5.out).mono ?_; rintro e w6 ⟨a6, n6, c6, hn6, rfl, HO6, hb6⟩; subst hn6; have HS6 : Hid (B ≤ w6.heap.size) := Nat.le_trans HS5.out hb6.out.size; have HB6 : Hid (Below B w w6) := HB5.out.trans hb6.out; clear hb6))
  go_ret
  refine ⟨_, _, rfl, ?_, HB6⟩
  have e : ccells progs = ([] ++ ccells cmStrings ++ ccells cmHashes ++ ccells cmSets ++ ccells cmLists ++ ccells cmKeys ++ ccells cmConns) := by
    rw [progs, ccells_append, ccells_append, ccells_append, ccells_append, ccells_append, List.nil_append]
  show OwnT _ _ _ _ _ _ (ccells progs)
  rw [e]
  exact HO6.out
end Go.Proofs.YtlapiaoopmhogaaDoor
