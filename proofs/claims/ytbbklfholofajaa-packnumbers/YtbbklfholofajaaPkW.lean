/-
  What turns a pack: encodeAll, replace, Insert, Set, Delete.
-/
import Derived.Test.YtbbklfholofajaaPk
namespace Go.Proofs.Ytbbklfholofajaa
open Go.RowKit Go.PlainAid

/-- All is as it was, but for the pack and its row, and what is new. -/
structure Moves (w w' : World) (p : Nat) (a : Option Addr) : Prop where
  os : w'.os = w.os
  tape : w'.tape = w.tape
  output : w'.output = w.output
  size : w.heap.size ≤ w'.heap.size
  block : ∀ k, k < w.heap.size → k ≠ p → some k ≠ a.map (·.block) → w'.heap[k]? = w.heap[k]?
theorem Moves.refl (w : World) (p : Nat) (a : Option Addr) : Moves w w p a := ⟨rfl, rfl, rfl, Nat.le_refl _, fun _ _ _ _ => rfl⟩
theorem Moves.of_below {w w' : World} (h : Below w.heap.size w w') (p : Nat) (a : Option Addr) : Moves w w' p a := ⟨h.os, h.tape, h.output, h.size, fun k hk _ _ => h.block k hk⟩
theorem Moves.after {w w1 w2 : World} {p : Nat} {a : Option Addr} (h : Below w.heap.size w w1) (k : Moves w1 w2 p a) : Moves w w2 p a :=
  ⟨k.os.trans h.os, k.tape.trans h.tape, k.output.trans h.output, Nat.le_trans h.size k.size, fun i hi h1 h2 => (k.block i (Nat.lt_of_lt_of_le hi h.size) h1 h2).trans (h.block i hi)⟩
theorem Moves.below {w w' : World} {B p : Nat} {a : Option Addr} {n c : Nat} {l : List UInt8} (h : Moves w w' p a) (hP : Pk w B p a n c l) : Below B w w' := by
  refine ⟨h.os, h.tape, h.output, h.size, fun k hk => h.block k (Nat.lt_trans (Nat.lt_of_lt_of_le hk hP.low) hP.lt) (by have := hP.low; omega) ?_⟩
  intro e
  cases a with
  | none => cases e
  | some x =>
    have := hP.own.block x.block rfl
    have e2 : k = x.block := Option.some.inj e
    omega
/-- A row of texts is no pack and no pack's row. -/
theorem OwnS.moves {w w' : World} {B C p : Nat} {a a2 : Option Addr} {n c n2 c2 : Nat} {l : List UInt8} {ls : List ByteArray} (h : OwnS w C a2 n2 c2 ls) (hm : Moves w w' p a) (hP : Pk w B p a n c l) : OwnS w' C a2 n2 c2 ls := by
  refine ⟨h.1, ?_⟩
  rcases h.2 with h2 | ⟨g, c', cur, h1, h3, h4, h5⟩
  · exact .inl h2
  · refine .inr ⟨g, c', cur, h1, h3, ?_, h5⟩
    rw [hm.block g (Array.getElem?_eq_some_iff.1 h4).1 ?_ ?_]
    · exact h4
    · intro e
      subst e
      rw [hP.blk] at h4
      simp at h4
    · intro e
      cases a with
      | none => cases e
      | some x =>
        cases e
        rcases hP.own.2 with ⟨k2, -⟩ | ⟨g', c3, cur', k1, k3, k4, k5⟩
        · cases k2
        · cases k1
          rw [k4] at h4
          simp at h4

/-- What a call answers that turns a pack. -/
def Turns (w : World) (B p : Nat) (a : Option Addr) (l : List UInt8) (v : Value) (e : Ending) (w' : World) : Prop :=
  e = .returned v ∧ Moves w w' p a ∧ ∃ a' n' c', Pk w' B p a' n' c' l

set_option maxRecDepth 100000 in
set_option maxHeartbeats 4000000 in
theorem encodeAll_fit (a : Option Addr) (n c : Nat) (ls : List ByteArray) (w : World) (hR : RdS w a n ls) (hf : Fit ls) (hn : n ≤ 100000) :
    Calls Try.prog 39 #[.slice a n c] w fun e w' => Below w.heap.size w w' ∧ ∃ a2 n2 c2, e = .returned (.tuple #[.slice a2 n2 c2, .int .i64 0]) ∧ Own w' w.heap.size a2 n2 c2 (pack ls) := by
  have HR : Hid (RdS w a n ls) := hR
  have HL : Hid (ls.length = n) := hR.len
  have HS : Hid (∀ s ∈ ls, s.size ≤ 4096) := hf
  have HO : Hid (Own w w.heap.size none 0 0 []) := Own.nil w _
  clear hR hf
  go_enter Try.func39, Try.ntmps39
  go_wp2
  go_loopg [4, 11] n (fun g bv iv wr => ∃ (i : Nat) (a2 : Option Addr) (n2 c2 : Nat), i + g = n ∧ bv = .slice a2 n2 c2 ∧ iv = .int .i64 i ∧ Hid (Own wr w.heap.size a2 n2 c2 (pack (ls.take i))) ∧ Hid (Below w.heap.size w wr))
  case atStart => exact ⟨0, none, 0, 0, by omega, rfl, rfl, HO, Below.refl _ _⟩
  case round =>
    obtain ⟨i, a2, n2, c2, hi, rfl, rfl, HO, HB⟩ := hrel
    by_cases h1 : (i : Int) < n
    · obtain ⟨b, off, ha, hc⟩ := HR.out.cell i (by omega)
      subst ha
      have hc1 : wr.cell? ⟨b, off + i, none⟩ = some (.string (ls.getD i ByteArray.empty)) := by
        rw [HB.out.cell (p := ⟨b, off + i, none⟩) (World.block_lt_of_cell? _ _ hc)]; exact hc
      have hil : i < ls.length := by have := HL.out; omega
      have hss := short_get HS.out i hil
      have HP : Hid (pack (ls.take i) ++ enc (lst (ls.getD i ByteArray.empty)) = pack (ls.take (i + 1))) := (pack_take ls i hil).symm
      have hl2 : n2 ≤ 500000000 := by
        have h2 := pack_len (ls.take i) 4096 (fun s hs => HS.out s (List.mem_of_mem_take hs))
        rw [HO.out.len, List.length_take] at h2
        have : min i ls.length * (4096 + 11) ≤ 100000 * (4096 + 11) := Nat.mul_le_mul_right _ (by omega)
        omega
      generalize ls.getD i ByteArray.empty = s at hc1 hss HP
      have HE := fun w => Encode_any s w hss
      have hel := (enc_len (lst s)).2
      rw [len_lst] at hel
      have HEL : Hid ((enc (lst s)).length ≤ 5000) := by show _ ≤ _; omega
      have HL2 : Hid (n2 ≤ 500000000) := hl2
      clear hc hil hl2 hel
      go_wp2_with fail
      refine (HE _).mono ?_
      rintro e w1 ⟨hb, a3, n3, c3, rfl, hO3⟩
      have HO1 : Hid (Own w1 w.heap.size a2 n2 c2 (pack (ls.take i))) := HO.out.keep hb
      have HR3 : Hid (Rd w1 a3 n3 c3 (enc (lst s))) := hO3.rd
      have H1 := step_below HB hb
      have HM : Hid (n2 + n3 ≤ 140737488355328) := by
        have := hO3.len
        have := HEL.out
        have := HL2.out
        show _ ≤ _
        omega
      clear hb hO3
      go_wp2_with (at_builtin; refine append_row rfl (.tmp 23) (.tmp 24) rfl w.heap.size rfl HO1.out rfl HR3.out HM.out H1.out.size ?_; intro a4 n4 c4 w4 hn4 hO4 hB4; have HO4 : Hid (Own w4 w.heap.size a4 n4 c4 (pack (ls.take (i + 1)))) := (by rw [HP.out] at hO4; exact hO4); have HB4 : Hid (Below w.heap.size w w4) := H1.out.trans hB4; clear hn4 hO4 hB4)
      go_roundg (gk - 1)
      case measure => omega
      case rel => exact ⟨i + 1, _, _, _, by omega, rfl, by go_num, HO4, HB4⟩
    · have HE : Hid (pack (ls.take i) = pack ls) := by
        show _ = _
        rw [List.take_of_length_le (by have := HL.out; omega)]
      go_wp2
      go_ret2
      exact ⟨HB.out, _, _, _, rfl, by rw [← HE.out]; exact HO.out⟩

set_option maxRecDepth 100000 in
set_option maxHeartbeats 4000000 in
theorem replace_full (B p : Nat) (a : Option Addr) (n c : Nat) (l : List UInt8) (a2 : Option Addr) (m c2 i j : Nat) (w : World) (hP : Pk w B p a n c l) (hn : n ≤ 65536) (hi : i ≤ j) (hj : j ≤ n) (hm : m ≤ 1000000000) (hx : 65536 < n - (j - i) + m) :
    Calls Try.prog 38 #[ptr p, .int .i64 i, .int .i64 j, .slice a2 m c2] w fun e w' => e = .returned (.int .i64 23) ∧ w' = w := by
  have hc := hP.cell
  obtain ⟨d, hd⟩ : ∃ d, j - i = d := ⟨_, rfl⟩
  obtain ⟨q, hq⟩ : ∃ q, n - d = q := ⟨_, rfl⟩
  have hdi : (j : Int) - (i : Int) = d := by omega
  have hqi : (n : Int) - (d : Int) = q := by omega
  have hx2 : (65536 : Int) < (q : Int) + (m : Int) := by omega
  clear hP hd hq hx
  go_enter Try.func38, Try.ntmps38
  go_wp2
  go_ret
  exact ⟨rfl, rfl⟩

theorem Own.ne_pk {w : World} {B p : Nat} {a : Option Addr} {n c : Nat} {l : List UInt8} {v : Array Value} (h : Own w B a n c l) (hp : w.heap[p]? = some (.cells v 58 (0, 0))) : some p ≠ a.map (·.block) := by
  intro e
  cases a with
  | none => cases e
  | some x =>
    have e2 : p = x.block := Option.some.inj e
    rcases h.2 with ⟨k2, -⟩ | ⟨g', c3, cur', k1, k3, k4, k5⟩
    · cases k2
    · cases k1
      subst e2
      rw [k4] at hp
      simp at hp
/-- The pack has another row. -/
theorem Pk.store {w w1 : World} {B p : Nat} {a a' : Option Addr} {n c n' c' : Nat} {l l' : List UInt8} (hP : Pk w B p a n c l) (hO : Own w1 B a' n' c' l') (hg : w.grownBy w1 (a.map (·.block))) :
    Pk (w1.setCell ⟨p, 0, none⟩ (.slice a' n' c')) B p a' n' c' l' ∧ Moves w (w1.setCell ⟨p, 0, none⟩ (.slice a' n' c')) p a := by
  have h1 : w1.heap[p]? = some (.cells #[.slice a n c] 58 (0, 0)) := by rw [hg.block p hP.lt (hP.own.ne_pk hP.blk)]; exact hP.blk
  have h2 := grown_setCell w1 p 0 (.slice a' n' c')
  refine ⟨⟨?_, hP.low, hO.grow h2 ?_⟩, ⟨h2.os.trans hg.os, h2.tape.trans hg.tape, h2.output.trans hg.output, Nat.le_trans hg.size h2.size, fun k hk k1 k2 => ?_⟩⟩
  · simp [World.setCell, Array.getElem?_modify, h1]
  · intro g e
    subst e
    have := hO.ne_pk h1
    intro e2
    exact this e2.symm
  · rw [h2.block k (Nat.lt_of_lt_of_le hk hg.size) (fun e => k1 (Option.some.inj e)), hg.block k hk k2]
theorem Pk.cell1 {w w1 : World} {B p : Nat} {a : Option Addr} {n c : Nat} {l : List UInt8} (hP : Pk w B p a n c l) (hg : w.grownBy w1 (a.map (·.block))) : w1.cell? ⟨p, 0, none⟩ = some (.slice a n c) ∧ w1.frozen? ⟨p, 0, none⟩ = false := by
  have h1 : w1.heap[p]? = some (.cells #[.slice a n c] 58 (0, 0)) := by rw [hg.block p hP.lt (hP.own.ne_pk hP.blk)]; exact hP.blk
  exact ⟨by simp [World.cell?, h1], by simp [World.frozen?, h1]⟩

set_option maxRecDepth 100000 in
set_option maxHeartbeats 4000000 in
theorem replace_ok (B C p : Nat) (a : Option Addr) (n c : Nat) (l : List UInt8) (a2 : Option Addr) (m c2 i j : Nat) (r : List UInt8) (w : World) (hP : Pk w B p a n c l) (hV : Own w C a2 m c2 r) (hC : ∀ x, a = some x → x.block < C) (hn : n ≤ 65536) (hi : i ≤ j) (hj : j ≤ n) (hm : m ≤ 1000000000) (hm0 : i < j → 0 < m) (hx : n - (j - i) + m ≤ 65536) (hB : B ≤ w.heap.size) :
    Calls Try.prog 38 #[ptr p, .int .i64 i, .int .i64 j, .slice a2 m c2] w fun e w' => Turns w B p a (l.take i ++ (r ++ l.drop j)) (.int .i64 0) e w' := by
  have hc := hP.cell
  have HR := Replace_sl B C a n c l a2 m c2 r i j w hP.own hV hC hi hj hm0 (by omega) hB
  obtain ⟨d, hd⟩ : ∃ d, j - i = d := ⟨_, rfl⟩
  obtain ⟨q, hq⟩ : ∃ q, n - d = q := ⟨_, rfl⟩
  have hdi : (j : Int) - (i : Int) = d := by omega
  have hqi : (n : Int) - (d : Int) = q := by omega
  have hx2 : ¬ ((65536 : Int) < (q : Int) + (m : Int)) := by omega
  have HP : Hid (Pk w B p a n c l) := hP
  clear hP hd hq hx hV
  go_enter Try.func38, Try.ntmps38
  go_wp2_with fail
  refine HR.mono ?_
  rintro e w1 ⟨a', n', c', rfl, hO, hg⟩
  have HS : Hid (Pk (w1.setCell ⟨p, 0, none⟩ (.slice a' n' c')) B p a' n' c' (l.take i ++ (r ++ l.drop j)) ∧ Moves w (w1.setCell ⟨p, 0, none⟩ (.slice a' n' c')) p a) := HP.out.store hO hg
  obtain ⟨hc1, hf1⟩ := HP.out.cell1 hg
  clear hO hg
  go_wp2
  go_ret
  exact ⟨rfl, HS.out.2, _, _, _, HS.out.1⟩

set_option maxRecDepth 100000 in
set_option maxHeartbeats 4000000 in
theorem encodeAll_long (a : Option Addr) (n c : Nat) (ls : List ByteArray) (w : World) (hR : RdS w a n ls) (hf : ¬ Fit ls) (hs : ∀ s ∈ ls, s.size ≤ 5000) (hn : n ≤ 100000) :
    Calls Try.prog 39 #[.slice a n c] w fun e w' => Below w.heap.size w w' ∧ e = .returned (.tuple #[.slice none 0 0, .int .i64 11]) := by
  have HR : Hid (RdS w a n ls) := hR
  have HL : Hid (ls.length = n) := hR.len
  have HNF : Hid (¬ Fit ls) := hf
  have HS5 : Hid (∀ s ∈ ls, s.size ≤ 5000) := hs
  have HO : Hid (Own w w.heap.size none 0 0 []) := Own.nil w _
  clear hR hf hs
  go_enter Try.func39, Try.ntmps39
  go_wp2
  go_loopg [4, 11] n (fun g bv iv wr => ∃ (i : Nat) (a2 : Option Addr) (n2 c2 : Nat), i + g = n ∧ bv = .slice a2 n2 c2 ∧ iv = .int .i64 i ∧ Hid (Fit (ls.take i)) ∧ Hid (Own wr w.heap.size a2 n2 c2 (pack (ls.take i))) ∧ Hid (Below w.heap.size w wr))
  case atStart => exact ⟨0, none, 0, 0, by omega, rfl, rfl, (fun s hs => absurd hs (by simp)), HO, Below.refl _ _⟩
  case round =>
    obtain ⟨i, a2, n2, c2, hi, rfl, rfl, HS, HO, HB⟩ := hrel
    by_cases h1 : (i : Int) < n
    · obtain ⟨b, off, ha, hc⟩ := HR.out.cell i (by omega)
      subst ha
      have hc1 : wr.cell? ⟨b, off + i, none⟩ = some (.string (ls.getD i ByteArray.empty)) := by
        rw [HB.out.cell (p := ⟨b, off + i, none⟩) (World.block_lt_of_cell? _ _ hc)]; exact hc
      have hil : i < ls.length := by have := HL.out; omega
      have h5 : (ls.getD i ByteArray.empty).size ≤ 5000 := short_get HS5.out i hil
      have HP : Hid (pack (ls.take i) ++ enc (lst (ls.getD i ByteArray.empty)) = pack (ls.take (i + 1))) := (pack_take ls i hil).symm
      have hl2 : n2 ≤ 500000000 := by
        have h2 := pack_len (ls.take i) 4096 HS.out
        rw [HO.out.len, List.length_take] at h2
        have : min i ls.length * (4096 + 11) ≤ 100000 * (4096 + 11) := Nat.mul_le_mul_right _ (by omega)
        omega
      have HT : Hid (ls.take (i + 1) = ls.take i ++ [ls.getD i ByteArray.empty]) := take_snocB ls i hil
      generalize ls.getD i ByteArray.empty = s at hc1 HP h5 HT
      by_cases hss : s.size ≤ 4096
      · have HE := fun w => Encode_any s w hss
        have hel := (enc_len (lst s)).2
        rw [len_lst] at hel
        have HEL : Hid ((enc (lst s)).length ≤ 5000) := by show _ ≤ _; omega
        have HL2 : Hid (n2 ≤ 500000000) := hl2
        have HS2 : Hid (Fit (ls.take (i + 1))) := by
          show Fit _
          rw [HT.out]
          intro t ht
          rcases List.mem_append.1 ht with ht | ht
          · exact HS.out t ht
          · rw [List.mem_singleton.1 ht]; exact hss
        clear hc hil hl2 hel
        go_wp2_with fail
        refine (HE _).mono ?_
        rintro e w1 ⟨hb, a3, n3, c3, rfl, hO3⟩
        have HO1 : Hid (Own w1 w.heap.size a2 n2 c2 (pack (ls.take i))) := HO.out.keep hb
        have HR3 : Hid (Rd w1 a3 n3 c3 (enc (lst s))) := hO3.rd
        have H1 := step_below HB hb
        have HM : Hid (n2 + n3 ≤ 140737488355328) := by
          have := hO3.len
          have := HEL.out
          have := HL2.out
          show _ ≤ _
          omega
        clear hb hO3
        go_wp2_with (at_builtin; refine append_row rfl (.tmp 23) (.tmp 24) rfl w.heap.size rfl HO1.out rfl HR3.out HM.out H1.out.size ?_; intro a4 n4 c4 w4 hn4 hO4 hB4; have HO4 : Hid (Own w4 w.heap.size a4 n4 c4 (pack (ls.take (i + 1)))) := (by rw [HP.out] at hO4; exact hO4); have HB4 : Hid (Below w.heap.size w w4) := H1.out.trans hB4; clear hn4 hO4 hB4)
        go_roundg (gk - 1)
        case measure => omega
        case rel => exact ⟨i + 1, _, _, _, by omega, rfl, by go_num, HS2, HO4, HB4⟩
      · have HE := fun w => Encode_long s w (by omega) (by unfold maxLen; omega)
        go_wp2_with fail
        refine (HE _).mono ?_
        rintro e w1 ⟨rfl, rfl⟩
        go_wp2
        go_ret2
        exact ⟨HB.out, rfl⟩
    · exact absurd (by have := HS.out; rw [List.take_of_length_le (by have := HL.out; omega)] at this; exact this) HNF.out

set_option maxRecDepth 100000 in
set_option maxHeartbeats 4000000 in
theorem Insert_index (B p : Nat) (a : Option Addr) (n c : Nat) (ls : List ByteArray) (i : Int) (v : Value) (w : World) (hP : Pk w B p a n c (pack ls)) (hf : Fit ls) (hi : ¬ (0 ≤ i ∧ i ≤ ls.length)) :
    Calls Try.prog 13 #[ptr p, .int .i64 i, v] w fun e w' => Below w.heap.size w w' ∧ e = .returned (.int .i64 8) := by
  have HW := walk_any B p a n c ls 0 i w hP hf (Nat.zero_le _)
  rw [Nat.zero_add, off_zero] at HW
  have hg : ¬ ((gone ls 0 i : Nat) : Int) = i := by unfold gone; omega
  obtain ⟨g, hgg⟩ : ∃ g, gone ls 0 i = g := ⟨_, rfl⟩
  rw [hgg] at HW hg
  obtain ⟨x, hx⟩ : ∃ x, off ls g = x := ⟨_, rfl⟩
  rw [hx] at HW
  have hg2 : ((g : Int) != i) = true := by simpa using hg
  clear hP hf hx hgg hi hg
  go_enter Try.func13, Try.ntmps13
  go_wp2_with fail
  refine HW.mono ?_
  rintro e w1 ⟨hb, rfl⟩
  have HB : Hid (Below w.heap.size w w1) := hb
  clear hb
  go_wp2
  go_ret
  exact ⟨HB.out, rfl⟩

theorem Own.old {w : World} {B : Nat} {a : Option Addr} {n c : Nat} {l : List UInt8} (h : Own w B a n c l) : ∀ x, a = some x → x.block < w.heap.size := by
  intro x hx
  subst hx
  exact (h.lt x.block rfl).2

set_option maxRecDepth 100000 in
set_option maxHeartbeats 4000000 in
theorem Insert_long (B p : Nat) (a : Option Addr) (n c : Nat) (ls : List ByteArray) (i : Nat) (a2 : Option Addr) (m c2 : Nat) (ts : List ByteArray) (w : World) (hP : Pk w B p a n c (pack ls)) (hf : Fit ls) (hi : i ≤ ls.length) (hR : RdS w a2 m ts) (hl : ¬ Fit ts) (h5 : ∀ s ∈ ts, s.size ≤ 5000) (hm : m ≤ 100000) :
    Calls Try.prog 13 #[ptr p, .int .i64 i, .slice a2 m c2] w fun e w' => Below w.heap.size w w' ∧ e = .returned (.int .i64 11) := by
  have HW := walk_any B p a n c ls 0 i w hP hf (Nat.zero_le _)
  rw [Nat.zero_add, off_zero, show gone ls 0 i = i by unfold gone; omega] at HW
  obtain ⟨x, hx⟩ : ∃ x, off ls i = x := ⟨_, rfl⟩
  rw [hx] at HW
  have HR : Hid (RdS w a2 m ts) := hR
  have HL : Hid (¬ Fit ts) := hl
  have H5 : Hid (∀ s ∈ ts, s.size ≤ 5000) := h5
  clear hP hf hx hi hR hl h5
  go_enter Try.func13, Try.ntmps13
  go_wp2_with fail
  refine HW.mono ?_
  rintro e w1 ⟨hb, rfl⟩
  have HB : Hid (Below w.heap.size w w1) := hb
  have HE := encodeAll_long a2 m c2 ts w1 (HR.out.keep hb) HL.out H5.out hm
  clear hb
  go_wp2_with fail
  refine HE.mono ?_
  rintro e w2 ⟨hb, rfl⟩
  have HB2 := step_below HB hb
  clear hb
  go_wp2
  go_ret
  exact ⟨HB2.out, rfl⟩

set_option maxRecDepth 100000 in
set_option maxHeartbeats 4000000 in
theorem Insert_full (B p : Nat) (a : Option Addr) (n c : Nat) (ls : List ByteArray) (i : Nat) (a2 : Option Addr) (m c2 : Nat) (ts : List ByteArray) (w : World) (hP : Pk w B p a n c (pack ls)) (hf : Fit ls) (hn : n ≤ 65536) (hi : i ≤ ls.length) (hR : RdS w a2 m ts) (hl : Fit ts) (hm : m ≤ 100000) (hx : 65536 < n + (pack ts).length) :
    Calls Try.prog 13 #[ptr p, .int .i64 i, .slice a2 m c2] w fun e w' => Below w.heap.size w w' ∧ e = .returned (.int .i64 23) := by
  have HW := walk_any B p a n c ls 0 i w hP hf (Nat.zero_le _)
  rw [Nat.zero_add, off_zero, show gone ls 0 i = i by unfold gone; omega] at HW
  have hxn : off ls i ≤ n := by have := off_le ls i; have := hP.own.len; omega
  obtain ⟨x, hxx⟩ : ∃ x, off ls i = x := ⟨_, rfl⟩
  rw [hxx] at HW hxn
  have HP : Hid (Pk w B p a n c (pack ls)) := hP
  have HR : Hid (RdS w a2 m ts) := hR
  have HL : Hid (Fit ts) := hl
  have HX : Hid (65536 < n + (pack ts).length) := hx
  clear hP hf hi hR hl hx hxx
  go_enter Try.func13, Try.ntmps13
  go_wp2_with fail
  refine HW.mono ?_
  rintro e w1 ⟨hb, rfl⟩
  have HB : Hid (Below w.heap.size w w1) := hb
  have HE := encodeAll_fit a2 m c2 ts w1 (HR.out.keep hb) HL.out hm
  clear hb
  go_wp2_with fail
  refine HE.mono ?_
  rintro e w2 ⟨hb, a3, n3, c3, rfl, hO⟩
  have HB2 := step_below HB hb
  have hl3 : n3 ≤ 1000000000 := by
    have := pack_len ts 4096 HL.out
    have h2 := hO.len
    have := HR.out.len
    have : ts.length * (4096 + 11) ≤ 100000 * (4096 + 11) := Nat.mul_le_mul_right _ (by omega)
    omega
  have HF := replace_full B p a n c (pack ls) a3 n3 c3 x x w2 (HP.out.keep HB2.out) hn (Nat.le_refl _) hxn hl3 (by have := HX.out; have := hO.len; omega)
  clear hb hO
  go_wp2_with fail
  refine HF.mono ?_
  rintro e w2 ⟨rfl, rfl⟩
  go_wp2
  go_ret
  exact ⟨HB2.out, rfl⟩

set_option maxRecDepth 100000 in
set_option maxHeartbeats 4000000 in
theorem Insert_ok (B p : Nat) (a : Option Addr) (n c : Nat) (ls : List ByteArray) (i : Nat) (a2 : Option Addr) (m c2 : Nat) (ts : List ByteArray) (w : World) (hP : Pk w B p a n c (pack ls)) (hf : Fit ls) (hn : n ≤ 65536) (hi : i ≤ ls.length) (hR : RdS w a2 m ts) (hl : Fit ts) (hm : m ≤ 100000) (hx : n + (pack ts).length ≤ 65536) :
    Calls Try.prog 13 #[ptr p, .int .i64 i, .slice a2 m c2] w fun e w' => Turns w B p a (pack (ls.take i ++ (ts ++ ls.drop i))) (.int .i64 0) e w' := by
  have HW := walk_any B p a n c ls 0 i w hP hf (Nat.zero_le _)
  rw [Nat.zero_add, off_zero, show gone ls 0 i = i by unfold gone; omega] at HW
  have hxn : off ls i ≤ n := by have := off_le ls i; have := hP.own.len; omega
  have HQ : Hid ((pack ls).take (off ls i) ++ (pack ts ++ (pack ls).drop (off ls i)) = pack (ls.take i ++ (ts ++ ls.drop i))) := by
    show _ = _
    rw [take_off, drop_off, pack_append, pack_append]
  obtain ⟨x, hxx⟩ : ∃ x, off ls i = x := ⟨_, rfl⟩
  rw [hxx] at HW hxn HQ
  have HP : Hid (Pk w B p a n c (pack ls)) := hP
  have HR : Hid (RdS w a2 m ts) := hR
  have HL : Hid (Fit ts) := hl
  have HX : Hid (n + (pack ts).length ≤ 65536) := hx
  clear hP hf hi hR hl hx hxx
  go_enter Try.func13, Try.ntmps13
  go_wp2_with fail
  refine HW.mono ?_
  rintro e w1 ⟨hb, rfl⟩
  have HB : Hid (Below w.heap.size w w1) := hb
  have HE := encodeAll_fit a2 m c2 ts w1 (HR.out.keep hb) HL.out hm
  clear hb
  go_wp2_with fail
  refine HE.mono ?_
  rintro e w2 ⟨hb, a3, n3, c3, rfl, hO⟩
  have HB2 := step_below HB hb
  have HF := replace_ok B w1.heap.size p a n c (pack ls) a3 n3 c3 x x (pack ts) w2 (HP.out.keep HB2.out) hO (fun y hy => Nat.lt_of_lt_of_le (HP.out.own.old y hy) HB.out.size) hn (Nat.le_refl _) hxn (by have := HX.out; have := hO.len; omega) (fun h => absurd h (Nat.lt_irrefl _)) (by have := HX.out; have := hO.len; omega) (Nat.le_trans (Nat.le_trans HP.out.low (Nat.le_of_lt HP.out.lt)) HB2.out.size)
  rw [HQ.out] at HF
  clear hb hO
  go_wp2_with fail
  refine HF.mono ?_
  rintro e w3 ⟨rfl, hM, hE⟩
  have HM : Hid (Moves w2 w3 p a) := hM
  have HE2 : Hid (∃ a' n' c', Pk w3 B p a' n' c' (pack (ls.take i ++ (ts ++ ls.drop i)))) := hE
  clear hM hE
  go_wp2
  go_ret
  exact ⟨rfl, HM.out.after HB2.out, HE2.out⟩
end Go.Proofs.Ytbbklfholofajaa
