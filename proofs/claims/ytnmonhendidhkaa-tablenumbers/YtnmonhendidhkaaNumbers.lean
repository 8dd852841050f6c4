/-
  TableNumbers: the rows of calls that it makes, and its four plays.
-/
import Derived.Test.YtnmonhendidhkaaPlays
namespace Go.Proofs.Ytnmonhendidhkaa
open Go.RowKit Go.PlainAid

/-- A row of calls of the call's own: n of them, whatever they are. -/
def Asks (cs : List Value) (n : Nat) : Prop := cs.length = n * 4 ∧ ∀ j, j < n → ∃ (kind N V : Int) (S : ByteArray), cs[j * 4]? = some (.int .i64 kind) ∧ cs[j * 4 + 1]? = some (.int .i64 N) ∧ cs[j * 4 + 2]? = some (.int .i64 V) ∧ cs[j * 4 + 3]? = some (.string S)
theorem Asks.nil : Asks [] 0 := ⟨rfl, fun j hj => absurd hj (by omega)⟩
theorem Asks.snoc {cs : List Value} {n : Nat} (h : Asks cs n) (kind N V : Int) (S : ByteArray) : Asks (cs ++ [.int .i64 kind, .int .i64 N, .int .i64 V, .string S]) (n + 1) := by
  refine ⟨by rw [List.length_append, h.1]; simp; omega, fun j hj => ?_⟩
  by_cases e : j < n
  · obtain ⟨k1, n1, v1, s1, h1, h2, h3, h4⟩ := h.2 j e
    have hl := h.1
    exact ⟨k1, n1, v1, s1, by rw [List.getElem?_append_left (by omega)]; exact h1, by rw [List.getElem?_append_left (by omega)]; exact h2, by rw [List.getElem?_append_left (by omega)]; exact h3, by rw [List.getElem?_append_left (by omega)]; exact h4⟩
  · have : j = n := by omega
    subst this
    have hl := h.1
    exact ⟨kind, N, V, S, by rw [List.getElem?_append_right (by omega), hl, Nat.sub_self]; rfl, by rw [List.getElem?_append_right (by omega), hl, show j * 4 + 1 - j * 4 = 1 by omega]; rfl, by rw [List.getElem?_append_right (by omega), hl, show j * 4 + 2 - j * 4 = 2 by omega]; rfl, by rw [List.getElem?_append_right (by omega), hl, show j * 4 + 3 - j * 4 = 3 by omega]; rfl⟩
theorem Try.infoA : (Try.prog.info? 24).map (fun i => (i.zero, i.size, i.bytes)) = some (some (.agg #[.int .i64 0, .int .i64 0, .int .i64 0, .string ⟨#[]⟩]), 4, 40) := by kernel_rfl
theorem eltA : Elt 22 24 4 40 := elt_of Try.underlying22 Try.infoA rfl (by decide)
theorem OwnR.rdA {w : World} {B : Nat} {a : Option Addr} {n cap : Nat} {cs : List Value} (h : OwnR w B 24 4 a n cap cs) (hA : Asks cs n) : RdA w a n := by
  refine ⟨Nat.le_trans h.cap.1 h.cap.2, fun j hj => ?_⟩
  obtain ⟨g, ha, hc⟩ := h.at (by omega)
  obtain ⟨k1, n1, v1, s1, h1, h2, h3, h4⟩ := hA.2 j hj
  exact ⟨g, 0, ha, k1, n1, v1, s1, by rw [Nat.zero_add]; exact hc _ _ h1, by rw [Nat.zero_add]; exact hc _ _ h2, by rw [Nat.zero_add]; exact hc _ _ h3, by rw [Nat.zero_add]; exact hc _ _ h4⟩
/-- append of m calls. -/
theorem append_a {w : World} {ops : Array Oper} {rest : List Oper} {o : Oper} {ac : Act} {Q : Exit → Act → World → Prop} (hgd : o.guard = none) (s x : Operand) (ho : o.op = .call { callee := .builtin .append, args := #[s, x], argTypes := #[22, 22] })
    (B : Nat) {a : Option Addr} {n cap : Nat} {cs : List Value} (hs : ac.eval s = .slice a n cap) (hown : OwnR w B 24 4 a n cap cs) {g m : Nat} {news : List Value} (hx : ac.eval x = .slice (some ⟨g, 0, none⟩) m m) (hl : news.length = m * 4) (hr : w.heap[g]? = some (.cells news.toArray 24 (0, 0))) (h1 : ∀ u ∈ news, u.oneCell' = true) (hm : 0 < m) (hb : n + m ≤ 1000000) (hB : B ≤ w.heap.size)
    (h : ∀ a2 n2 c2 w2, n2 = n + m → Hid (OwnR w2 B 24 4 a2 n2 c2 (cs ++ news)) → Hid (Below B w w2) → wpList Try.prog ops Q rest (ac.put o.dst (.slice a2 n2 c2)) w2) : wpList Try.prog ops Q (o :: rest) ac w := by
  refine append_r hgd s x ho eltA B hs hown news hx hl ?_ h1 hm (by omega) (by unfold maxLen; omega) hB ?_
  · intro j u hu
    rw [add_flat, Nat.zero_add]
    simp only [World.cell?, hr]
    simpa using hu
  · intro a2 n2 c2 w2 e1 e2 e3 _
    exact h a2 n2 c2 w2 e1 e2 (hown.below e3.out hB)

set_option maxRecDepth 100000 in
set_option maxHeartbeats 8000000 in
theorem numbers_any (w : World) : Calls Try.prog 3 #[] w fun e w' => e = .returned (.bool true) ∧ Below w.heap.size w w' := by
  have HO : Hid (OwnR w w.heap.size 24 4 none 0 0 []) := OwnR.nil _ _ _ _
  have HA0 : Hid (Asks [] 0) := Asks.nil
  go_enter Try.func3, Try.ntmps3
  go_wp2
  go_loopg [1, 2] 150 (fun q lv iv wr => ∃ (i : Nat) (a : Option Addr) (n c : Nat) (cs : List Value), i + q = 150 ∧ iv = .int .i64 i ∧ lv = .slice a n c ∧ n ≤ i ∧ Hid (OwnR wr w.heap.size 24 4 a n c cs) ∧ Hid (Asks cs n) ∧ Hid (Below w.heap.size w wr))
  case atStart => exact ⟨0, none, 0, 0, [], by omega, rfl, rfl, Nat.le_refl _, HO, HA0, Below.refl _ _⟩
  case round =>
    clear HO HA0
    obtain ⟨i, a, n, c, cs, hi, rfl, rfl, hni, HO, HA, HB⟩ := hrel
    by_cases h8 : (i : Int) < 150
    · have hsz := HB.out.size
      go_wp2_with (at_builtin; refine append_a rfl (.tmp 9) (.tmp 15) rfl w.heap.size rfl (OwnR.keep HO.out (alloc_below wr _)) (news := [.int .i64 1, .int .i64 (3 * (i : Int) + 1), .int .i64 (i : Int), .string ⟨#[]⟩]) rfl rfl (heap_alloc_new wr _) (by simp [Value.oneCell']) (by decide) (by omega) (Nat.le_trans hsz (alloc_below wr _).size) ?_; intro a3 n3 c3 w3 hn3 HO3 HB3; have HBx : Hid (Below w.heap.size w w3) := (HB.out.trans ((alloc_below wr _).mono hsz)).trans HB3.out; have HAx : Hid (Asks (cs ++ [.int .i64 1, .int .i64 (3 * (i : Int) + 1), .int .i64 (i : Int), .string ⟨#[]⟩]) (n + 1)) := HA.out.snoc 1 (3 * (i : Int) + 1) i ⟨#[]⟩)
      go_roundg (gk - 1)
      case measure => omega
      case rel => exact ⟨i + 1, _, _, _, _, by omega, by go_num, rfl, by omega, by rw [← hn3]; exact HO3, HAx, HBx⟩
    · have hn150 : n ≤ 150 := by omega
      clear hi hni
      obtain ⟨wa, hwa⟩ : ∃ wa, wa = wr := ⟨_, rfl⟩
      subst hwa
      go_wp2
      go_loopg [1, 3] 150 (fun q lv iv wr => ∃ (i : Nat) (a : Option Addr) (n c : Nat) (cs : List Value), i + q = 150 ∧ iv = .int .i64 i ∧ lv = .slice a n c ∧ n ≤ 150 + 2 * i ∧ Hid (OwnR wr w.heap.size 24 4 a n c cs) ∧ Hid (Asks cs n) ∧ Hid (Below w.heap.size w wr))
      case atStart => exact ⟨0, a, n, c, cs, by omega, rfl, rfl, by omega, HO, HA, HB⟩
      case round =>
        clear HO HA HB
        obtain ⟨i, a, n, c, cs, hi, rfl, rfl, hni, HO, HA, HB⟩ := hrel
        by_cases h8 : (i : Int) < 150
        · have hsz := HB.out.size
          go_wp2_with (at_builtin; refine append_a rfl (.tmp 21) (.tmp 30) rfl w.heap.size rfl (OwnR.keep HO.out (alloc_below wr _)) (news := [.int .i64 2, .int .i64 (3 * (i : Int) + 1), .int .i64 0, .string ⟨#[]⟩, .int .i64 3, .int .i64 (3 * (i : Int) + 1), .int .i64 0, .string ⟨#[]⟩]) rfl rfl (heap_alloc_new wr _) (by simp [Value.oneCell']) (by decide) (by omega) (Nat.le_trans hsz (alloc_below wr _).size) ?_; intro a3 n3 c3 w3 hn3 HO3 HB3; have HBx : Hid (Below w.heap.size w w3) := (HB.out.trans ((alloc_below wr _).mono hsz)).trans HB3.out; have HAx : Hid (Asks (cs ++ [.int .i64 2, .int .i64 (3 * (i : Int) + 1), .int .i64 0, .string ⟨#[]⟩, .int .i64 3, .int .i64 (3 * (i : Int) + 1), .int .i64 0, .string ⟨#[]⟩]) (n + 2)) := (by have := (HA.out.snoc 2 (3 * (i : Int) + 1) 0 ⟨#[]⟩).snoc 3 (3 * (i : Int) + 1) 0 ⟨#[]⟩; rw [List.append_assoc] at this; exact this))
          go_roundg (gk - 1)
          case measure => omega
          case rel => exact ⟨i + 1, _, _, _, _, by omega, by go_num, rfl, by omega, by rw [← hn3]; exact HO3, HAx, HBx⟩
        · have hn450 : n ≤ 450 := by omega
          clear hi hni
          obtain ⟨wb, hwb⟩ : ∃ wb, wb = wr := ⟨_, rfl⟩
          subst hwb
          go_wp2
          go_loopg [1, 4] 200 (fun q lv iv wr => ∃ (i : Nat) (a : Option Addr) (n c : Nat) (cs : List Value), i + q = 200 ∧ iv = .int .i64 i ∧ lv = .slice a n c ∧ n ≤ 450 + i ∧ Hid (OwnR wr w.heap.size 24 4 a n c cs) ∧ Hid (Asks cs n) ∧ Hid (Below w.heap.size w wr))
          case atStart => exact ⟨0, a, n, c, cs, by omega, rfl, rfl, by omega, HO, HA, HB⟩
          case round =>
            clear HO HA HB
            obtain ⟨i, a, n, c, cs, hi, rfl, rfl, hni, HO, HA, HB⟩ := hrel
            by_cases h8 : (i : Int) < 200
            · have hsz := HB.out.size
              obtain ⟨r1, hr1⟩ : ∃ r1 : Int, (i : Int).tmod 3 = r1 := ⟨_, rfl⟩
              obtain ⟨r2, hr2⟩ : ∃ r2 : Int, r1.tmod 2 = r2 := ⟨_, rfl⟩
              have hr3 : 0 ≤ r1 ∧ r1 < 3 := by rw [← hr1, Int.tmod_eq_emod_of_nonneg (by omega)]; omega
              have hr4 : 0 ≤ r2 ∧ r2 < 2 := by rw [← hr2, Int.tmod_eq_emod_of_nonneg hr3.1]; omega
              obtain ⟨k1, k2⟩ := hr3
              obtain ⟨k3, k4⟩ := hr4
              go_wp2_with (at_builtin; refine append_a rfl (.tmp 36) (.tmp 46) rfl w.heap.size rfl (OwnR.keep HO.out (alloc_below wr _)) (news := [.int .i64 (1 + r2), .int .i64 (3 * (i : Int) + 2), .int .i64 (i : Int), .string ⟨#[]⟩]) rfl rfl (heap_alloc_new wr _) (by simp [Value.oneCell']) (by decide) (by omega) (Nat.le_trans hsz (alloc_below wr _).size) ?_; intro a3 n3 c3 w3 hn3 HO3 HB3; have HBx : Hid (Below w.heap.size w w3) := (HB.out.trans ((alloc_below wr _).mono hsz)).trans HB3.out; have HAx : Hid (Asks (cs ++ [.int .i64 (1 + r2), .int .i64 (3 * (i : Int) + 2), .int .i64 (i : Int), .string ⟨#[]⟩]) (n + 1)) := HA.out.snoc (1 + r2) (3 * (i : Int) + 2) i ⟨#[]⟩)
              go_roundg (gk - 1)
              case measure => omega
              case rel => exact ⟨i + 1, _, _, _, _, by omega, by go_num, rfl, by omega, by rw [← hn3]; exact HO3, HAx, HBx⟩
            · have HRd : Hid (RdA wr a n) := HO.out.rdA HA.out
              have HP : ∀ x : Nat, x < 18446744073709551616 → ∀ w', Below wr.heap.size wr w' → Calls Try.prog 8 #[.int .u64 x, .slice a n c, .int .i64 1000] w' fun e w'' => e = .returned (.bool true) ∧ Below w'.heap.size w' w'' := fun x hx w' hb => play_any x a n c 1000 w' hx (HRd.out.keep hb) (by decide)
              have HP1 := HP 0 (by decide)
              have HP2 := HP 9223372036854775808 (by decide)
              have HP3 := HP 12345 (by decide)
              replace HP1 : ∀ w', Below wr.heap.size wr w' → Calls Try.prog 8 #[.int .u64 0, .slice a n c, .int .i64 1000] w' fun e w'' => e = .returned (.bool true) ∧ Below w'.heap.size w' w'' := HP1
              replace HP2 : ∀ w', Below wr.heap.size wr w' → Calls Try.prog 8 #[.int .u64 9223372036854775808, .slice a n c, .int .i64 1000] w' fun e w'' => e = .returned (.bool true) ∧ Below w'.heap.size w' w'' := HP2
              replace HP3 : ∀ w', Below wr.heap.size wr w' → Calls Try.prog 8 #[.int .u64 12345, .slice a n c, .int .i64 1000] w' fun e w'' => e = .returned (.bool true) ∧ Below w'.heap.size w' w'' := HP3
              clear HP hi
              go_wp2_with fail
              refine (HP1 _ (Below.refl _ _)).mono ?_
              rintro e w1 ⟨rfl, hb1⟩
              have H1 : Hid (Below wr.heap.size wr w1) := hb1
              clear hb1 HP1
              go_wp2_with fail
              refine (HP2 _ H1.out).mono ?_
              rintro e w2 ⟨rfl, hb2⟩
              have H2 := step_below H1 hb2
              clear hb2 HP2
              go_wp2_with fail
              refine (HP3 _ H2.out).mono ?_
              rintro e w3 ⟨rfl, hb3⟩
              have H3 := step_below H2 hb3
              clear hb3 HP3
              go_wp2_with fail
              refine (known_any _).mono ?_
              rintro e w4 ⟨rfl, hb4⟩
              have H4 := step_below H3 hb4
              clear hb4
              go_wp2
              go_ret
              exact ⟨rfl, HB.out.trans (H4.out.mono HB.out.size)⟩
end Go.Proofs.Ytnmonhendidhkaa
