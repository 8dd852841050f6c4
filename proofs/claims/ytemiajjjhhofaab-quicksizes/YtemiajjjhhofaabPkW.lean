/-
  What turns a pack: encodeAll, replace, Insert, Set, Delete.
-/
import Derived.Test.YtemiajjjhhofaabPk
namespace Go.Proofs.Ytemiajjjhhofaab
open Go.RowKit Go.PlainAid

/-- All is as it was, but for the pack and its row, and what is new. -/
structure Moves (w w' : World) (p : Nat) (a : Option Addr) : Prop where
  os : w'.os = w.os
  tape : w'.tape = w.tape
  output : w'.output = w.output
  size : w.heap.size ≤ w'.heap.size
  block : ∀ k, k < w.heap.size → k ≠ p → some k ≠ a.map (·.block) → w'.heap[k]? = w.heap[k]?
theorem Moves.refl (w : World) (p : Nat) (a : Option Addr) : Moves w w p a := ⟨rfl, rfl, rfl, Nat.le_refl _, fun _ _ _ _ => rfl⟩
theorem Moves.of_below {w w' : World} (h : Below w.heap.size w w') (p : Nat) (a : Option Addr) : Moves w w' p a := ⟨h.os, h.tape, h.output, h.size, fun k hk _ _ => h.block k hk⟩
theorem Moves.after {w w1 w2 : World} {p : Nat} {a : Option Addr} (h : Below w.heap.size w w1) (k : Moves w1 w2 p a) : Moves w w2 p a :=
  ⟨k.os.trans h.os, k.tape.trans h.tape, k.output.trans h.output, Nat.le_trans h.size k.size, fun i hi h1 h2 => (k.block i (Nat.lt_of_lt_of_le hi h.size) h1 h2).trans (h.block i hi)⟩
theorem Moves.below {w w' : World} {B p : Nat} {a : Option Addr} {n c : Nat} {l : List ByteArray} (h : Moves w w' p a) (hP : Pk w B p a n c l) : Below B w w' := by
  refine ⟨h.os, h.tape, h.output, h.size, fun k hk => h.block k (Nat.lt_trans (Nat.lt_of_lt_of_le hk hP.low) hP.lt) (by have := hP.low; omega) ?_⟩
  intro e
  cases a with
  | none => cases e
  | some x =>
    have := hP.own.block x.block rfl
    have e2 : k = x.block := Option.some.inj e
    omega
/-- A row of texts is no pack and no pack's row. -/
theorem OwnS.moves {w w' : World} {B C p : Nat} {a a2 : Option Addr} {n c n2 c2 : Nat} {l ls : List ByteArray} (h : OwnS w C a2 n2 c2 ls) (hm : Moves w w' p a) (hP : Pk w B p a n c l) : OwnS w' C a2 n2 c2 ls := by
  refine ⟨h.1, ?_⟩
  rcases h.2 with h2 | ⟨g, c', cur, h1, h3, h4, h5⟩
  · exact .inl h2
  · refine .inr ⟨g, c', cur, h1, h3, ?_, h5⟩
    rw [hm.block g (Array.getElem?_eq_some_iff.1 h4).1 ?_ ?_]
    · exact h4
    · intro e
      subst e
      rw [hP.blk] at h4
      simp at h4
    · intro e
      cases a with
      | none => cases e
      | some x =>
        cases e
        rcases hP.own.2 with ⟨k2, -⟩ | ⟨g', c3, cur', k1, k3, k4, k5⟩
        · cases k2
        · cases k1
          rw [k4] at h4
          simp at h4

/-- What a call answers that turns a pack. -/
def Turns (w : World) (B p : Nat) (a : Option Addr) (l : List ByteArray) (v : Value) (e : Ending) (w' : World) : Prop :=
  e = .returned v ∧ Moves w w' p a ∧ ∃ a' n' c', Pk w' B p a' n' c' l ∧ Went w a a'

set_option maxRecDepth 100000 in
set_option maxHeartbeats 4000000 in
theorem encodeAll_fit (a : Option Addr) (n c : Nat) (ls : List ByteArray) (w : World) (hR : RdS w a n ls) (hf : Fit ls) (hn : n ≤ 100000) :
    Calls Try.prog 63 #[.slice a n c] w fun e w' => Below w.heap.size w w' ∧ ∃ a2 n2 c2, e = .returned (.tuple #[.slice a2 n2 c2, .int .i64 0]) ∧ Own w' w.heap.size a2 n2 c2 (pack ls) ∧ (n2 = 0 → a2 = none) := by
  have HR : Hid (RdS w a n ls) := hR
  have HL : Hid (ls.length = n) := hR.len
  have HS : Hid (∀ s ∈ ls, s.size ≤ 4096) := hf
  have HO : Hid (Own w w.heap.size none 0 0 []) := Own.nil w _
  clear hR hf
  go_enter Try.func63, Try.ntmps63
  go_wp2
  go_loopg [4, 11] n (fun g bv iv wr => ∃ (i : Nat) (a2 : Option Addr) (n2 c2 : Nat), i + g = n ∧ Hid (i = 0 → a2 = none) ∧ bv = .slice a2 n2 c2 ∧ iv = .int .i64 i ∧ Hid (Own wr w.heap.size a2 n2 c2 (pack (ls.take i))) ∧ Hid (Below w.heap.size w wr))
  case atStart => exact ⟨0, none, 0, 0, by omega, (fun _ => rfl), rfl, rfl, HO, Below.refl _ _⟩
  case round =>
    obtain ⟨i, a2, n2, c2, hi, HN0, rfl, rfl, HO, HB⟩ := hrel
    by_cases h1 : (i : Int) < n
    · obtain ⟨b, off, ha, hc⟩ := HR.out.cell i (by omega)
      subst ha
      have hc1 : wr.cell? ⟨b, off + i, none⟩ = some (.string (ls.getD i ByteArray.empty)) := by
        rw [HB.out.cell (p := ⟨b, off + i, none⟩) (World.block_lt_of_cell? _ _ hc)]; exact hc
      have hil : i < ls.length := by have := HL.out; omega
      have hss := short_get HS.out i hil
      have HP : Hid (pack (ls.take i) ++ enc (lst (ls.getD i ByteArray.empty)) = pack (ls.take (i + 1))) := (pack_take ls i hil).symm
      have hl2 : n2 ≤ 500000000 := by
        have h2 := pack_len (ls.take i) 4096 (fun s hs => HS.out s (List.mem_of_mem_take hs))
        rw [HO.out.len, List.length_take] at h2
        have : min i ls.length * (4096 + 11) ≤ 100000 * (4096 + 11) := Nat.mul_le_mul_right _ (by omega)
        omega
      generalize ls.getD i ByteArray.empty = s at hc1 hss HP
      have HE := fun w => Encode_any s w hss
      have hel := (enc_len (lst s)).2
      rw [len_lst] at hel
      have HEL : Hid ((enc (lst s)).length ≤ 5000) := by show _ ≤ _; omega
      have HL2 : Hid (n2 ≤ 500000000) := hl2
      clear hc hil hl2 hel
      go_wp2_with fail
      refine (HE _).mono ?_
      rintro e w1 ⟨hb, a3, n3, c3, rfl, hO3⟩
      have HO1 : Hid (Own w1 w.heap.size a2 n2 c2 (pack (ls.take i))) := HO.out.keep hb
      have HR3 : Hid (Rd w1 a3 n3 c3 (enc (lst s))) := hO3.rd
      have H1 := step_below HB hb
      have HM : Hid (n2 + n3 ≤ 140737488355328) := by
        have := hO3.len
        have := HEL.out
        have := HL2.out
        show _ ≤ _
        omega
      clear hb hO3
      go_wp2_with (at_builtin; refine append_row rfl (.tmp 23) (.tmp 24) rfl w.heap.size rfl HO1.out rfl HR3.out HM.out H1.out.size ?_; intro a4 n4 c4 w4 hn4 hO4 hB4; have HO4 : Hid (Own w4 w.heap.size a4 n4 c4 (pack (ls.take (i + 1)))) := (by rw [HP.out] at hO4; exact hO4); have HB4 : Hid (Below w.heap.size w w4) := H1.out.trans hB4; clear hn4 hO4 hB4)
      go_roundg (gk - 1)
      case measure => omega
      case rel => exact ⟨i + 1, _, _, _, by omega, (fun h => absurd h (Nat.succ_ne_zero i)), rfl, by go_num, HO4, HB4⟩
    · have HE : Hid (pack (ls.take i) = pack ls) := by
        show _ = _
        rw [List.take_of_length_le (by have := HL.out; omega)]
      go_wp2
      go_ret2
      refine ⟨HB.out, _, _, _, rfl, by rw [← HE.out]; exact HO.out, fun h0 => HN0.out ?_⟩
      have h2 := HO.out.len
      have h3 := len_pack (ls.take i)
      rw [List.length_take] at h3
      have := HL.out
      omega

theorem Own.old {w : World} {B : Nat} {a : Option Addr} {n c : Nat} {l : List UInt8} (h : Own w B a n c l) : ∀ x, a = some x → x.block < w.heap.size := by
  intro x hx
  subst hx
  exact (h.lt x.block rfl).2
theorem Own.ne_pk {w : World} {B p : Nat} {a : Option Addr} {n c : Nat} {l : List UInt8} {v : Array Value} (h : Own w B a n c l) (hp : w.heap[p]? = some (.cells v 59 (0, 0))) : some p ≠ a.map (·.block) := by
  intro e
  cases a with
  | none => cases e
  | some x =>
    have e2 : p = x.block := Option.some.inj e
    rcases h.2 with ⟨k2, -⟩ | ⟨g', c3, cur', k1, k3, k4, k5⟩
    · cases k2
    · cases k1
      subst e2
      rw [k4] at hp
      simp at hp
/-- The pack has another row and another count. -/
theorem Pk.store {w w1 : World} {B p : Nat} {a a' : Option Addr} {n c n' c' : Nat} {ls ls' : List ByteArray} (hP : Pk w B p a n c ls) (hO : Own w1 B a' n' c' (pack ls')) (hg : w.grownBy w1 (a.map (·.block))) :
    Pk ((w1.setCell ⟨p, 0, none⟩ (.slice a' n' c')).setCell ⟨p, 1, none⟩ (.int .i64 (ls'.length : Nat))) B p a' n' c' ls' ∧ Moves w ((w1.setCell ⟨p, 0, none⟩ (.slice a' n' c')).setCell ⟨p, 1, none⟩ (.int .i64 (ls'.length : Nat))) p a := by
  have h1 : w1.heap[p]? = some (.cells #[.slice a n c, .int .i64 (ls.length : Nat)] 59 (0, 0)) := by rw [hg.block p hP.lt (hP.own.ne_pk hP.blk)]; exact hP.blk
  have h2 := grown_trans (grown_setCell w1 p 0 (.slice a' n' c')) (grown_setCell (w1.setCell ⟨p, 0, none⟩ (.slice a' n' c')) p 1 (.int .i64 (ls'.length : Nat)))
  refine ⟨⟨?_, hP.low, hO.grow h2 ?_⟩, ⟨h2.os.trans hg.os, h2.tape.trans hg.tape, h2.output.trans hg.output, Nat.le_trans hg.size h2.size, fun k hk k1 k2 => ?_⟩⟩
  · simp [World.setCell, Array.getElem?_modify, h1]
  · intro g e
    subst e
    have := hO.ne_pk h1
    intro e2
    exact this e2.symm
  · rw [h2.block k (Nat.lt_of_lt_of_le hk hg.size) (fun e => k1 (Option.some.inj e)), hg.block k hk k2]
theorem Pk.cell1 {w w1 : World} {B p : Nat} {a : Option Addr} {n c : Nat} {ls : List ByteArray} (hP : Pk w B p a n c ls) (hg : w.grownBy w1 (a.map (·.block))) (v : Value) : w1.cell? ⟨p, 0, none⟩ = some (.slice a n c) ∧ w1.frozen? ⟨p, 0, none⟩ = false ∧ (w1.setCell ⟨p, 0, none⟩ v).cell? ⟨p, 1, none⟩ = some (.int .i64 (ls.length : Nat)) ∧ (w1.setCell ⟨p, 0, none⟩ v).frozen? ⟨p, 1, none⟩ = false := by
  have h1 : w1.heap[p]? = some (.cells #[.slice a n c, .int .i64 (ls.length : Nat)] 59 (0, 0)) := by rw [hg.block p hP.lt (hP.own.ne_pk hP.blk)]; exact hP.blk
  exact ⟨by simp [World.cell?, h1], by simp [World.frozen?, h1], by simp [World.cell?, World.setCell, Array.getElem?_modify, h1], by simp [World.frozen?, World.setCell, Array.getElem?_modify, h1]⟩

theorem off_mono (ls : List ByteArray) (i g : Nat) : off ls i ≤ off ls (i + g) := by
  unfold off
  have : ls.take (i + g) = ls.take i ++ (ls.drop i).take g := List.take_add
  rw [this, pack_append, List.length_append]; omega
theorem rep_pack (ls ts : List ByteArray) (i g : Nat) : (pack ls).take (off ls i) ++ (pack ts ++ (pack ls).drop (off ls (i + g))) = pack (ls.take i ++ (ts ++ ls.drop (i + g))) := by
  rw [take_off, drop_off, pack_append, pack_append]
theorem rep_len (ls ts : List ByteArray) (i g : Nat) : (pack (ls.take i ++ (ts ++ ls.drop (i + g)))).length = (pack ls).length - (off ls (i + g) - off ls i) + (pack ts).length := by
  have h1 := off_mono ls i g
  have h2 := off_le ls (i + g)
  rw [← rep_pack, List.length_append, List.length_append, List.length_take, List.length_drop]
  omega

set_option maxRecDepth 100000 in
set_option maxHeartbeats 4000000 in
theorem encodeAll_long (a : Option Addr) (n c : Nat) (ls : List ByteArray) (w : World) (hR : RdS w a n ls) (hf : ¬ Fit ls) (hs : ∀ s ∈ ls, s.size ≤ 5000) (hn : n ≤ 100000) :
    Calls Try.prog 63 #[.slice a n c] w fun e w' => Below w.heap.size w w' ∧ e = .returned (.tuple #[.slice none 0 0, .int .i64 11]) := by
  have HR : Hid (RdS w a n ls) := hR
  have HL : Hid (ls.length = n) := hR.len
  have HNF : Hid (¬ Fit ls) := hf
  have HS5 : Hid (∀ s ∈ ls, s.size ≤ 5000) := hs
  have HO : Hid (Own w w.heap.size none 0 0 []) := Own.nil w _
  clear hR hf hs
  go_enter Try.func63, Try.ntmps63
  go_wp2
  go_loopg [4, 11] n (fun g bv iv wr => ∃ (i : Nat) (a2 : Option Addr) (n2 c2 : Nat), i + g = n ∧ bv = .slice a2 n2 c2 ∧ iv = .int .i64 i ∧ Hid (Fit (ls.take i)) ∧ Hid (Own wr w.heap.size a2 n2 c2 (pack (ls.take i))) ∧ Hid (Below w.heap.size w wr))
  case atStart => exact ⟨0, none, 0, 0, by omega, rfl, rfl, (fun s hs => absurd hs (by simp)), HO, Below.refl _ _⟩
  case round =>
    obtain ⟨i, a2, n2, c2, hi, rfl, rfl, HS, HO, HB⟩ := hrel
    by_cases h1 : (i : Int) < n
    · obtain ⟨b, off, ha, hc⟩ := HR.out.cell i (by omega)
      subst ha
      have hc1 : wr.cell? ⟨b, off + i, none⟩ = some (.string (ls.getD i ByteArray.empty)) := by
        rw [HB.out.cell (p := ⟨b, off + i, none⟩) (World.block_lt_of_cell? _ _ hc)]; exact hc
      have hil : i < ls.length := by have := HL.out; omega
      have h5 : (ls.getD i ByteArray.empty).size ≤ 5000 := short_get HS5.out i hil
      have HP : Hid (pack (ls.take i) ++ enc (lst (ls.getD i ByteArray.empty)) = pack (ls.take (i + 1))) := (pack_take ls i hil).symm
      have hl2 : n2 ≤ 500000000 := by
        have h2 := pack_len (ls.take i) 4096 HS.out
        rw [HO.out.len, List.length_take] at h2
        have : min i ls.length * (4096 + 11) ≤ 100000 * (4096 + 11) := Nat.mul_le_mul_right _ (by omega)
        omega
      have HT : Hid (ls.take (i + 1) = ls.take i ++ [ls.getD i ByteArray.empty]) := take_snocB ls i hil
      generalize ls.getD i ByteArray.empty = s at hc1 HP h5 HT
      by_cases hss : s.size ≤ 4096
      · have HE := fun w => Encode_any s w hss
        have hel := (enc_len (lst s)).2
        rw [len_lst] at hel
        have HEL : Hid ((enc (lst s)).length ≤ 5000) := by show _ ≤ _; omega
        have HL2 : Hid (n2 ≤ 500000000) := hl2
        have HS2 : Hid (Fit (ls.take (i + 1))) := by
          show Fit _
          rw [HT.out]
          intro t ht
          rcases List.mem_append.1 ht with ht | ht
          · exact HS.out t ht
          · rw [List.mem_singleton.1 ht]; exact hss
        clear hc hil hl2 hel
        go_wp2_with fail
        refine (HE _).mono ?_
        rintro e w1 ⟨hb, a3, n3, c3, rfl, hO3⟩
        have HO1 : Hid (Own w1 w.heap.size a2 n2 c2 (pack (ls.take i))) := HO.out.keep hb
        have HR3 : Hid (Rd w1 a3 n3 c3 (enc (lst s))) := hO3.rd
        have H1 := step_below HB hb
        have HM : Hid (n2 + n3 ≤ 140737488355328) := by
          have := hO3.len
          have := HEL.out
          have := HL2.out
          show _ ≤ _
          omega
        clear hb hO3
        go_wp2_with (at_builtin; refine append_row rfl (.tmp 23) (.tmp 24) rfl w.heap.size rfl HO1.out rfl HR3.out HM.out H1.out.size ?_; intro a4 n4 c4 w4 hn4 hO4 hB4; have HO4 : Hid (Own w4 w.heap.size a4 n4 c4 (pack (ls.take (i + 1)))) := (by rw [HP.out] at hO4; exact hO4); have HB4 : Hid (Below w.heap.size w w4) := H1.out.trans hB4; clear hn4 hO4 hB4)
        go_roundg (gk - 1)
        case measure => omega
        case rel => exact ⟨i + 1, _, _, _, by omega, rfl, by go_num, HS2, HO4, HB4⟩
      · have HE := fun w => Encode_long s w (by omega) (by unfold maxLen; omega)
        go_wp2_with fail
        refine (HE _).mono ?_
        rintro e w1 ⟨rfl, rfl⟩
        go_wp2
        go_ret2
        exact ⟨HB.out, rfl⟩
    · exact absurd (by have := HS.out; rw [List.take_of_length_le (by have := HL.out; omega)] at this; exact this) HNF.out

theorem pack_nil {a : Option Addr} {n c B : Nat} {w : World} (h : Own w B a n c (pack [])) : n = 0 := by rw [← h.len]; rfl
theorem pack_zero {ts : List ByteArray} (h : (pack ts).length = 0) : ts = [] := by
  have := len_pack ts
  exact List.length_eq_zero_iff.1 (by omega)

set_option maxRecDepth 100000 in
set_option maxHeartbeats 4000000 in
theorem replace_full (B p : Nat) (a : Option Addr) (n c : Nat) (ls : List ByteArray) (a2 : Option Addr) (m c2 i g : Nat) (ts : List ByteArray) (w : World) (hP : Pk w B p a n c ls) (hf : Fit ls) (hn : n ≤ 65536) (hi : i + g ≤ ls.length) (hR : RdS w a2 m ts) (hl : Fit ts) (hm : m ≤ 100000) (hx : 65536 < (pack (ls.take i ++ (ts ++ ls.drop (i + g)))).length) :
    Calls Try.prog 31 #[ptr p, .int .i64 i, .int .i64 g, .slice a2 m c2] w fun e w' => Below w.heap.size w w' ∧ e = .returned (.int .i64 23) := by
  have HP : Hid (Pk w B p a n c ls) := hP
  have HE := encodeAll_fit a2 m c2 ts w hR hl hm
  have HG1 := fun (w1 : World) (h : Below w.heap.size w w1) => begin_any B p a n c ls i w1 (hP.keep h) hf (by omega)
  have HG2 := fun (w1 : World) (h : Below w.heap.size w w1) => begin_any B p a n c ls (i + g) w1 (hP.keep h) hf hi
  have hq := rep_len ls ts i g
  have h1 := off_mono ls i g
  have h2 := off_le ls (i + g)
  rw [hP.len] at hq h2
  have hig : i + g ≤ 65536 := by have := hP.many; omega
  have HT : Hid ((pack ts).length ≤ 1000000000) := by
    have := pack_len ts 4096 hl
    have := hR.len
    have : ts.length * (4096 + 11) ≤ 100000 * (4096 + 11) := Nat.mul_le_mul_right _ (by omega)
    show _ ≤ _
    omega
  have hc := hP.cell
  obtain ⟨x, hxx⟩ : ∃ x, off ls i = x := ⟨_, rfl⟩
  obtain ⟨y, hyy⟩ : ∃ y, off ls (i + g) = y := ⟨_, rfl⟩
  rw [hxx] at HG1 hq h1
  rw [hyy] at HG2 hq h1 h2
  have HX : Hid (65536 < n - (y - x) + (pack ts).length) := by show _ < _; omega
  clear hP hf hR hl hx hxx hyy hq hi
  go_enter Try.func31, Try.ntmps31
  go_wp2_with fail
  refine HE.mono ?_
  rintro e w1 ⟨hb, a3, n3, c3, rfl, hO, hN⟩
  have HN : Hid (n3 = 0 → a3 = none) := hN
  have HB : Hid (Below w.heap.size w w1) := hb
  have hn3 : n3 ≤ 1000000000 := by have := hO.len; have := HT.out; omega
  have hx3 : 65536 < n - (y - x) + n3 := by have := hO.len; have := HX.out; omega
  have HG := HG1 w1 hb
  clear hb hO hN HE HG1
  go_wp2_with fail
  refine HG.mono ?_
  rintro e w2 ⟨hb, rfl⟩
  have HB2 := step_below HB hb
  have HG := HG2 w2 HB2.out
  clear hb HG2
  go_wp2_with fail
  refine HG.mono ?_
  rintro e w3 ⟨hb, rfl⟩
  have HB3 := step_below HB2 hb
  have hc3 := (HP.out.keep HB3.out).cell
  clear hb
  obtain ⟨d, hd⟩ : ∃ d, y - x = d := ⟨_, rfl⟩
  obtain ⟨q, hq⟩ : ∃ q, n - d = q := ⟨_, rfl⟩
  have hdi : (y : Int) - (x : Int) = d := by omega
  have hqi : (n : Int) - (d : Int) = q := by omega
  have hx2 : (65536 : Int) < (q : Int) + (n3 : Int) := by omega
  go_wp2
  go_ret
  exact ⟨HB3.out, rfl⟩

set_option maxRecDepth 100000 in
set_option maxHeartbeats 4000000 in
theorem replace_long (p : Nat) (a2 : Option Addr) (m c2 : Nat) (i g : Int) (ts : List ByteArray) (w : World) (hR : RdS w a2 m ts) (hl : ¬ Fit ts) (hs : ∀ s ∈ ts, s.size ≤ 5000) (hm : m ≤ 100000) :
    Calls Try.prog 31 #[ptr p, .int .i64 i, .int .i64 g, .slice a2 m c2] w fun e w' => Below w.heap.size w w' ∧ e = .returned (.int .i64 11) := by
  have HE := encodeAll_long a2 m c2 ts w hR hl hs hm
  clear hR hl hs
  go_enter Try.func31, Try.ntmps31
  go_wp2_with fail
  refine HE.mono ?_
  rintro e w1 ⟨hb, rfl⟩
  have HB : Hid (Below w.heap.size w w1) := hb
  clear hb
  go_wp2
  go_ret
  exact ⟨HB.out, rfl⟩

set_option maxRecDepth 100000 in
set_option maxHeartbeats 4000000 in
theorem replace_ok (B p : Nat) (a : Option Addr) (n c : Nat) (ls : List ByteArray) (a2 : Option Addr) (m c2 i g : Nat) (ts : List ByteArray) (w : World) (hP : Pk w B p a n c ls) (hf : Fit ls) (hn : n ≤ 65536) (hi : i + g ≤ ls.length) (hR : RdS w a2 m ts) (hl : Fit ts) (hm : m ≤ 100000) (hx : (pack (ls.take i ++ (ts ++ ls.drop (i + g)))).length ≤ 65536) :
    Calls Try.prog 31 #[ptr p, .int .i64 i, .int .i64 g, .slice a2 m c2] w fun e w' => Turns w B p a (ls.take i ++ (ts ++ ls.drop (i + g))) (.int .i64 0) e w' := by
  have HP : Hid (Pk w B p a n c ls) := hP
  have HE := encodeAll_fit a2 m c2 ts w hR hl hm
  have HG1 := fun (w1 : World) (h : Below w.heap.size w w1) => begin_any B p a n c ls i w1 (hP.keep h) hf (by omega)
  have HG2 := fun (w1 : World) (h : Below w.heap.size w w1) => begin_any B p a n c ls (i + g) w1 (hP.keep h) hf hi
  have hq := rep_len ls ts i g
  have h1 := off_mono ls i g
  have h2 := off_le ls (i + g)
  have hll : ls.length ≤ 65536 := by have := hP.many; omega
  have HLN : Hid ((ls.length : Int) + ((m : Int) - (g : Int)) = ((ls.take i ++ (ts ++ ls.drop (i + g))).length : Nat)) := by
    have := hR.len
    show _ = _
    rw [List.length_append, List.length_append, List.length_take, List.length_drop]
    omega
  have HQ : Hid ((pack ls).take (off ls i) ++ (pack ts ++ (pack ls).drop (off ls (i + g))) = pack (ls.take i ++ (ts ++ ls.drop (i + g)))) := rep_pack ls ts i g
  rw [hP.len] at hq h2
  have hig : i + g ≤ 65536 := by have := hP.many; omega
  have HT : Hid ((pack ts).length ≤ 65536) := by show _ ≤ _; omega
  have hc := hP.cell
  obtain ⟨x, hxx⟩ : ∃ x, off ls i = x := ⟨_, rfl⟩
  obtain ⟨y, hyy⟩ : ∃ y, off ls (i + g) = y := ⟨_, rfl⟩
  rw [hxx] at HG1 hq h1 HQ
  rw [hyy] at HG2 hq h1 h2 HQ
  have HX : Hid (n - (y - x) + (pack ts).length ≤ 65536) := by show _ ≤ _; omega
  have HZ : Hid (ts = [] → m = 0) := by show _ → _; intro h; have := hR.len; rw [h] at this; exact this.symm
  have hl0 := hP.own.old
  have HOld : Hid (∀ x, a = some x → x.block < w.heap.size) := hl0
  have hLB : B ≤ w.heap.size := Nat.le_trans hP.low (Nat.le_of_lt hP.lt)
  obtain ⟨LL, hLL⟩ : ∃ LL, ls.take i ++ (ts ++ ls.drop (i + g)) = LL := ⟨_, rfl⟩
  rw [hLL] at HLN HQ ⊢
  clear hP hf hR hl hx hxx hyy hq hi hLL hl0
  go_enter Try.func31, Try.ntmps31
  go_wp2_with fail
  refine HE.mono ?_
  rintro e w1 ⟨hb, a3, n3, c3, rfl, hO, hN⟩
  have HN : Hid (n3 = 0 → a3 = none) := hN
  have HB : Hid (Below w.heap.size w w1) := hb
  have HO : Hid (Own w1 w.heap.size a3 n3 c3 (pack ts)) := hO
  have hn3 : n3 ≤ 65536 := by have := hO.len; have := HT.out; omega
  have hx3 : n - (y - x) + n3 ≤ 65536 := by have := hO.len; have := HX.out; omega
  have HG := HG1 w1 hb
  clear hb hO hN HE HG1
  go_wp2_with fail
  refine HG.mono ?_
  rintro e w2 ⟨hb, rfl⟩
  have HB2 := step_below HB hb
  have HO2 : Hid (Own w2 w.heap.size a3 n3 c3 (pack ts)) := HO.out.keep hb
  have HG := HG2 w2 HB2.out
  clear hb HG2
  go_wp2_with fail
  refine HG.mono ?_
  rintro e w3 ⟨hb, rfl⟩
  have HB3 := step_below HB2 hb
  have HO3 : Hid (Own w3 w.heap.size a3 n3 c3 (pack ts)) := HO2.out.keep hb
  have HP3 : Hid (Pk w3 B p a n c ls) := HP.out.keep HB3.out
  have hc3 := HP3.out.cell
  have hd3 := HP3.out.cnt
  clear hb
  have HZ3 : 0 < n3 ∨ a3 = none := by
    rcases Nat.eq_zero_or_pos n3 with h0 | h0
    · right
      exact HN.out h0
    · exact .inl h0
  have HR := Replace_sl B w.heap.size a n c (pack ls) a3 n3 c3 (pack ts) x y w3 HP3.out.own HO3.out HOld.out h1 h2 HZ3 (by omega) (Nat.le_trans hLB HB3.out.size)
  rw [HQ.out] at HR
  obtain ⟨d, hd⟩ : ∃ d, y - x = d := ⟨_, rfl⟩
  obtain ⟨q, hq⟩ : ∃ q, n - d = q := ⟨_, rfl⟩
  have hdi : (y : Int) - (x : Int) = d := by omega
  have hqi : (n : Int) - (d : Int) = q := by omega
  have hx2 : ¬ ((65536 : Int) < (q : Int) + (n3 : Int)) := by omega
  go_wp2_with fail
  refine HR.mono ?_
  rintro e w4 ⟨a', n', c', rfl, hO, hg, hW⟩
  have HW : Hid (Went w a a') := by
    rcases hW with h | ⟨b, e1, e2⟩
    · exact .inl h
    · exact .inr ⟨b, e1, Nat.le_trans HB3.out.size e2⟩
  have HS : Hid (Pk ((w4.setCell ⟨p, 0, none⟩ (.slice a' n' c')).setCell ⟨p, 1, none⟩ (.int .i64 (LL.length : Nat))) B p a' n' c' LL ∧ Moves w3 ((w4.setCell ⟨p, 0, none⟩ (.slice a' n' c')).setCell ⟨p, 1, none⟩ (.int .i64 (LL.length : Nat))) p a) := HP3.out.store hO hg
  obtain ⟨hc4, hf4, hc5, hf5⟩ := HP3.out.cell1 hg (.slice a' n' c')
  have hln := HLN.out
  generalize ls.length = lsn at hc5 hln hll
  generalize LL.length = lln at HS hln
  clear hO hg hW HLN
  go_wp2
  go_ret
  exact ⟨rfl, HS.out.2.after HB3.out, _, _, _, HS.out.1, HW.out⟩

end Go.Proofs.Ytemiajjjhhofaab
