/-
  Rows of texts: Few, and the document's own Bytes.
-/
import Derived.Test.YtemiajjjhhofaabKeep
namespace Go.Proofs.Ytemiajjjhhofaab
open Go.RowKit Go.PlainAid

/-- A slice that reads the texts ls. -/
structure RdS (w : World) (a : Option Addr) (n : Nat) (ls : List ByteArray) : Prop where
  len : ls.length = n
  max : n ≤ maxLen
  cell : ∀ j, j < n → ∃ b off, a = some ⟨b, off, none⟩ ∧ w.cell? ⟨b, off + j, none⟩ = some (.string (ls.getD j ByteArray.empty))
theorem RdS.keep {w wn : World} {a : Option Addr} {n : Nat} {ls : List ByteArray} (h : RdS w a n ls) (hb : Below w.heap.size w wn) : RdS wn a n ls :=
  ⟨h.len, h.max, fun j hj => by
    obtain ⟨b, off, e, hc⟩ := h.cell j hj
    exact ⟨b, off, e, by rw [hb.cell (p := ⟨b, off + j, none⟩) (World.block_lt_of_cell? _ _ hc)]; exact hc⟩⟩

/-- A row of texts of the call's own. -/
def OwnS (w : World) (B : Nat) (a : Option Addr) (n cap : Nat) (ls : List ByteArray) : Prop := w.ownsRow B 9 1 (.slice a n cap) n (ls.map Value.string)
theorem OwnS.len {w : World} {B : Nat} {a : Option Addr} {n cap : Nat} {ls : List ByteArray} (h : OwnS w B a n cap ls) : ls.length = n := by
  have := h.1; simpa using this
theorem OwnS.keep {w wn : World} {B : Nat} {a : Option Addr} {n cap : Nat} {l : List ByteArray} (h : OwnS w B a n cap l) (hb : Below w.heap.size w wn) : OwnS wn B a n cap l := by
  refine ⟨h.1, ?_⟩
  rcases h.2 with h2 | ⟨g, c, cur, h1, h3, h4, h5⟩
  · exact .inl h2
  · refine .inr ⟨g, c, cur, h1, h3, ?_, h5⟩
    rw [hb.block g (Array.getElem?_eq_some_iff.1 h4).1]; exact h4
theorem OwnS.rd {w : World} {B : Nat} {a : Option Addr} {n cap : Nat} {ls : List ByteArray} (h : OwnS w B a n cap ls) : RdS w a n ls := by
  have hl := h.len
  rcases h.2 with ⟨h2, h3⟩ | ⟨g, c, cur, h1, h3, h4, h5, h6, h7, h8⟩
  · cases h2
    exact RdS.mk hl (by rw [h3]; decide) (fun j hj => absurd hj (by omega))
  · cases h1
    refine RdS.mk hl (Nat.le_trans h5 h6) (fun j hj => ⟨g, 0, rfl, ?_⟩)
    have := h.cells (g := g) rfl j (.string (ls.getD j ByteArray.empty)) (by
      simp only [List.getElem?_map, List.getD_eq_getElem?_getD]
      rw [List.getElem?_eq_getElem (by omega)]; rfl)
    rw [add_flat] at this
    rw [Nat.zero_add] at this ⊢
    exact this
theorem Try.info9 : (Try.prog.info? 9).map (fun i => (i.zero, i.size, i.bytes)) = some (some (.string ⟨#[]⟩), 1, 16) := by kernel_rfl

/-- out = append(out, s). -/
theorem append_str {w : World} {ops : Array Oper} {rest : List Oper} {o : Oper} {ac : Act} {Q : Exit → Act → World → Prop} (hgd : o.guard = none) (s x : Operand) (ho : o.op = .call { callee := .builtin .append, args := #[s, x], argTypes := #[22, 22] })
    (B : Nat) {a : Option Addr} {n cap : Nat} {ls : List ByteArray} (hs : ac.eval s = .slice a n cap) (hown : OwnS w B a n cap ls)
    {g : Nat} {t : ByteArray} (hx : ac.eval x = .slice (some ⟨g, 0, none⟩) 1 1) (hr : w.cell? ⟨g, 0, none⟩ = some (.string t)) (hb : n + 1 ≤ 1000000) (hB : B ≤ w.heap.size)
    (h : ∀ a2 n2 c2 w2, n2 = n + 1 → OwnS w2 B a2 n2 c2 (ls ++ [t]) → Below B w w2 → wpList Try.prog ops Q rest (ac.put o.dst (.slice a2 n2 c2)) w2) : wpList Try.prog ops Q (o :: rest) ac w := by
  obtain ⟨i0, hi, hz0, hz1, hz2⟩ := info_parts Try.info9
  refine wpList_append_own w hgd s x 22 ho B 9 i0 (.string ⟨#[]⟩) 1 16 Try.underlying22 hi hz0 hz1 hz2 rfl (by decide) (.slice a n cap) n (ls.map Value.string) hs hown ⟨g, 0, none⟩ 1 1 [.string t] hx rfl ?_ (by simp [Value.oneCell']) (by unfold maxLen; omega) (by omega) hB ?_
  · intro j u hu
    cases j with
    | zero => rw [add_flat, hr]; exact hu
    | succ j => simp at hu
  · intro v' w' h1 h2 _
    have hbel : Below B w w' := (Below.refl B w).grown h2 hB (fun k hk => (hown.lt k hk).1)
    have e1 : ls.map Value.string ++ [.string t] = (ls ++ [t]).map Value.string := by rw [List.map_append]; rfl
    rw [e1] at h1
    rcases h1.2 with ⟨rfl, h3⟩ | ⟨g, c, cur, rfl, h3⟩
    · omega
    · exact h _ _ _ w' rfl h1 hbel

/-- No more texts than these, none longer. -/
def Short (ls : List ByteArray) (n : Nat) (m : Int) : Prop := ls.length ≤ n ∧ ∀ s ∈ ls, (s.size : Int) ≤ m

set_option maxRecDepth 100000 in
set_option maxHeartbeats 4000000 in
theorem Few_any (a : Option Addr) (n cap : Nat) (ls : List ByteArray) (k : Nat) (m : Int) (w : World) (hR : RdS w a n ls) (hk : k ≤ 100) (hm : 0 ≤ m) :
    Calls Try.prog 9 #[.slice a n cap, .int .i64 k, .int .i64 m] w fun e w' => Below w.heap.size w w' ∧ ∃ a2 n2 c2, e = .returned (.slice a2 n2 c2) ∧ ∃ l2, OwnS w' w.heap.size a2 n2 c2 l2 ∧ Short l2 k m := by
  have hn : n ≤ 9223372036854775807 := hR.max
  have HR : Hid (RdS w a n ls) := hR
  have HO : Hid (OwnS w w.heap.size none 0 0 []) := World.ownsRow_nil w _ 9 1
  have HC := fun s w => Cut_any s m w hm
  have HMS : Hid (∀ s, ((cutB s m).size : Int) ≤ m) := fun s => size_cutB s m hm
  clear hR
  go_enter Try.func9, Try.ntmps9
  go_wp2
  go_loopg [7, 8] k (fun g bv iv wr => ∃ (i : Nat) (a2 : Option Addr) (n2 c2 : Nat) (l2 : List ByteArray), i + g = k ∧ bv = .slice a2 n2 c2 ∧ iv = .int .i64 i ∧ Hid (OwnS wr w.heap.size a2 n2 c2 l2) ∧ Hid (Short l2 i m) ∧ Hid (Below w.heap.size w wr))
  case atStart => exact ⟨0, none, 0, 0, [], by omega, rfl, rfl, HO, ⟨Nat.le_refl _, fun s hs => absurd hs (by simp)⟩, Below.refl _ _⟩
  case round =>
    obtain ⟨i, a2, n2, c2, l2, hi, rfl, rfl, HO, HS, HB⟩ := hrel
    by_cases h1 : (i : Int) < n
    · by_cases h2 : (i : Int) < k
      · obtain ⟨b, off, ha, hc⟩ := HR.out.cell i (by omega)
        subst ha
        have hc1 : wr.cell? ⟨b, off + i, none⟩ = some (.string (ls.getD i ByteArray.empty)) := by
          rw [HB.out.cell (p := ⟨b, off + i, none⟩) (World.block_lt_of_cell? _ _ hc)]; exact hc
        generalize ls.getD i ByteArray.empty = s at hc1
        have hl2 : n2 + 1 ≤ 1000000 := by
          have := HO.out.len
          have := HS.out.1
          omega
        have HL : Hid (n2 + 1 ≤ 1000000) := hl2
        have HS2 : Hid (Short (l2 ++ [cutB s m]) (i + 1) m) := by
          refine ⟨by have := HS.out.1; simp; omega, fun t ht => ?_⟩
          rcases List.mem_append.1 ht with ht | ht
          · exact HS.out.2 t ht
          · rw [List.mem_singleton.1 ht]; exact HMS.out s
        have HCs := fun w => HC s w
        generalize cutB s m = t at HS2 HCs
        have hsz := HB.out.size
        clear hl2 hc
        go_wp2_with (first | (go_at_call 10; refine (HCs _).mono ?_; rintro e wr ⟨rfl, rfl⟩) | (at_builtin; refine append_str rfl (.tmp 20) (.tmp 27) rfl w.heap.size rfl (HO.out.keep (alloc_below wr _)) rfl (by simp; rfl) HL.out (Nat.le_trans hsz (alloc_below wr _).size) ?_; intro a3 n3 c3 w3 hn3 hO3 hB3; have HO3 : Hid (OwnS w3 w.heap.size a3 n3 c3 (l2 ++ [t])) := hO3; have HB3 : Hid (Below w.heap.size w w3) := (HB.out.trans ((alloc_below wr _).mono hsz)).trans hB3; clear hn3 hO3 hB3))
        go_roundg (gk - 1)
        case measure => omega
        case rel => exact ⟨i + 1, _, _, _, _, by omega, rfl, by go_num, HO3, HS2, HB3⟩
      · have hik : i = k := by omega
        subst hik
        go_wp2
        go_ret
        exact ⟨HB.out, _, _, _, rfl, _, HO.out, HS.out⟩
    · have HSk : Hid (Short l2 k m) := ⟨Nat.le_trans HS.out.1 (by omega), HS.out.2⟩
      go_wp2
      go_ret
      exact ⟨HB.out, _, _, _, rfl, _, HO.out, HSk.out⟩

/-- A pack's bytes. -/
def pack : List ByteArray → List UInt8
  | [] => []
  | s :: r => enc (lst s) ++ pack r
theorem pack_append (l r : List ByteArray) : pack (l ++ r) = pack l ++ pack r := by
  induction l with
  | nil => rfl
  | cons s l ih => rw [List.cons_append, pack, pack, ih, List.append_assoc]
theorem take_snocB (l : List ByteArray) (k : Nat) (h : k < l.length) : l.take (k + 1) = l.take k ++ [l.getD k ByteArray.empty] := by
  rw [List.take_add_one, List.getD_eq_getElem?_getD, List.getElem?_eq_getElem h]; rfl
theorem pack_take (l : List ByteArray) (k : Nat) (h : k < l.length) : pack (l.take (k + 1)) = pack (l.take k) ++ enc (lst (l.getD k ByteArray.empty)) := by
  rw [take_snocB l k h, pack_append, pack, pack, List.append_nil]
theorem pack_split (l : List ByteArray) (k : Nat) (h : k < l.length) : pack l = pack (l.take k) ++ (enc (lst (l.getD k ByteArray.empty)) ++ pack (l.drop (k + 1))) := by
  rw [← List.append_assoc, ← pack_take l k h, ← pack_append, List.take_append_drop]
theorem pack_len (l : List ByteArray) (m : Nat) (h : ∀ s ∈ l, s.size ≤ m) : (pack l).length ≤ l.length * (m + 11) := by
  induction l with
  | nil => simp [pack]
  | cons s l ih =>
    have h1 := (enc_len (lst s)).2
    rw [len_lst] at h1
    have h2 := h s (by simp)
    have h3 := ih (fun t ht => h t (by simp [ht]))
    rw [pack, List.length_append, List.length_cons, Nat.add_mul]
    omega
theorem short_get {ls : List ByteArray} {m : Nat} (h : ∀ s ∈ ls, s.size ≤ m) (k : Nat) (hk : k < ls.length) : (ls.getD k ByteArray.empty).size ≤ m := by
  apply h
  rw [List.getD_eq_getElem?_getD, List.getElem?_eq_getElem hk]
  simp

set_option maxRecDepth 100000 in
set_option maxHeartbeats 4000000 in
theorem Bytes_any (a : Option Addr) (n cap : Nat) (ls : List ByteArray) (w : World) (hR : RdS w a n ls) (hn : n ≤ 100000) (hs : ∀ s ∈ ls, s.size ≤ 4096) :
    Calls Try.prog 33 #[.slice a n cap] w fun e w' => Makes w (pack ls) e w' := by
  have HR : Hid (RdS w a n ls) := hR
  have HL : Hid (ls.length = n) := hR.len
  have HS : Hid (∀ s ∈ ls, s.size ≤ 4096) := hs
  have HO : Hid (Own w w.heap.size none 0 0 []) := Own.nil w _
  clear hR hs
  go_enter Try.func33, Try.ntmps33
  go_wp2
  go_loopg [3, 4] n (fun g bv iv wr => ∃ (i : Nat) (a2 : Option Addr) (n2 c2 : Nat), i + g = n ∧ bv = .slice a2 n2 c2 ∧ iv = .int .i64 i ∧ Hid (Own wr w.heap.size a2 n2 c2 (pack (ls.take i))) ∧ Hid (Below w.heap.size w wr))
  case atStart => exact ⟨0, none, 0, 0, by omega, rfl, rfl, HO, Below.refl _ _⟩
  case round =>
    obtain ⟨i, a2, n2, c2, hi, rfl, rfl, HO, HB⟩ := hrel
    by_cases h1 : (i : Int) < n
    · obtain ⟨b, off, ha, hc⟩ := HR.out.cell i (by omega)
      subst ha
      have hc1 : wr.cell? ⟨b, off + i, none⟩ = some (.string (ls.getD i ByteArray.empty)) := by
        rw [HB.out.cell (p := ⟨b, off + i, none⟩) (World.block_lt_of_cell? _ _ hc)]; exact hc
      have hil : i < ls.length := by have := HL.out; omega
      have hss := short_get HS.out i hil
      have HP : Hid (pack (ls.take i) ++ enc (lst (ls.getD i ByteArray.empty)) = pack (ls.take (i + 1))) := (pack_take ls i hil).symm
      have hl2 : n2 ≤ 500000000 := by
        have h2 := pack_len (ls.take i) 4096 (fun s hs => HS.out s (List.mem_of_mem_take hs))
        rw [HO.out.len, List.length_take] at h2
        have : min i ls.length * (4096 + 11) ≤ 100000 * (4096 + 11) := Nat.mul_le_mul_right _ (by omega)
        omega
      generalize ls.getD i ByteArray.empty = s at hc1 hss HP
      have HE := fun w => refEncode_any s w (by omega)
      have hel := (enc_len (lst s)).2
      rw [len_lst] at hel
      have HEL : Hid ((enc (lst s)).length ≤ 5000) := by show _ ≤ _; omega
      have HL2 : Hid (n2 ≤ 500000000) := hl2
      clear hc hil hl2 hel
      go_wp2_with fail
      refine (HE _).mono ?_
      rintro e w1 ⟨hb, a3, n3, c3, rfl, hO3⟩
      have HO1 : Hid (Own w1 w.heap.size a2 n2 c2 (pack (ls.take i))) := HO.out.keep hb
      have HR3 : Hid (Rd w1 a3 n3 c3 (enc (lst s))) := hO3.rd
      have H1 := step_below HB hb
      have HM : Hid (n2 + n3 ≤ 140737488355328) := by
        have := hO3.len
        have := HEL.out
        have := HL2.out
        show _ ≤ _
        omega
      clear hb hO3
      go_wp2_with (at_builtin; refine append_row rfl (.tmp 11) (.tmp 16) rfl w.heap.size rfl HO1.out rfl HR3.out HM.out H1.out.size ?_; intro a4 n4 c4 w4 hn4 hO4 hB4; have HO4 : Hid (Own w4 w.heap.size a4 n4 c4 (pack (ls.take (i + 1)))) := (by rw [HP.out] at hO4; exact hO4); have HB4 : Hid (Below w.heap.size w w4) := H1.out.trans hB4; clear hn4 hO4 hB4)
      go_roundg (gk - 1)
      case measure => omega
      case rel => exact ⟨i + 1, _, _, _, by omega, rfl, by go_num, HO4, HB4⟩
    · have HE : Hid (pack (ls.take i) = pack ls) := by
        show _ = _
        rw [List.take_of_length_le (by have := HL.out; omega)]
      go_wp2
      go_ret
      exact ⟨HB.out, _, _, _, rfl, by rw [← HE.out]; exact HO.out⟩
end Go.Proofs.Ytemiajjjhhofaab
