/- Texts that the others stand on. -/
import Derived.Test.YtmjeljldmmkcpabGreatG7
import Derived.Deep.RegionLaw
import Derived.Test.YtmjeljldmmkcpabGreatProg
import Derived.WalkKit
import Derived.WalkSpells
import Derived.PlainAid
import Derived.Laws.BitsAllLaws
import Derived.Laws.IdiomStrings
import Derived.Deep.LoopGhost
import Derived.Deep.Cut
import Derived.Lib.IndexBytes
import Derived.Elder7
import Derived.Laws.CopyOwn
import Derived.Lib.Overlaps
import Derived.Lib.SliceRun
import Derived.Lib.AppendZerosOnto
namespace Go.Proofs.YtmjeljldmmkcpabGreat.Zs.Dk
open Go.RowKit Go.PlainAid
/-- A slice of elements of one cell that reads cs, with its room. -/
structure RdR (w : World) (a : Option Addr) (n cap : Nat) (cs : List Value) : Prop where
  len : cs.length = n
  fit : n ≤ cap
  max : cap ≤ maxLen
  nul : a = none → cap = 0
  cell : ∀ j u, cs[j]? = some u → ∃ b off, a = some ⟨b, off, none⟩ ∧ w.cell? ⟨b, off + j, none⟩ = some u
theorem RdR.keep {w wn : World} {a : Option Addr} {n cap : Nat} {cs : List Value} (h : RdR w a n cap cs) (hb : Below w.heap.size w wn) : RdR wn a n cap cs :=
  ⟨h.len, h.fit, h.max, h.nul, fun j u hu => by
    obtain ⟨b, off, e, hc⟩ := h.cell j u hu
    exact ⟨b, off, e, by rw [hb.cell (p := ⟨b, off + j, none⟩) (World.block_lt_of_cell? _ _ hc)]; exact hc⟩⟩
theorem OwnR.rd {w : World} {B : Nat} {e : TypeId} {a : Option Addr} {n cap : Nat} {cs : List Value} (h : OwnR w B e 1 a n cap cs) : RdR w a n cap cs := by
  have hl := h.len
  rw [Nat.mul_one] at hl
  refine ⟨hl, h.cap.1, h.cap.2, ?_, ?_⟩
  · intro ha
    rcases h.2 with ⟨h2, h3⟩ | ⟨g, c, cur, h1, h3⟩
    · cases h2; rfl
    · cases h1; cases ha
  · intro j u hu
    have hj : j < cs.length := by
      rcases Nat.lt_or_ge j cs.length with h | h
      · exact h
      · rw [List.getElem?_eq_none h] at hu; cases hu
    obtain ⟨g, ha, hc⟩ := h.at (by omega)
    exact ⟨g, 0, ha, by rw [Nat.zero_add]; exact hc j u hu⟩
theorem RdR.sub {w : World} {a : Option Addr} {n cap : Nat} {l : List Value} (h : RdR w a n cap l) (lo hi : Nat) (h1 : lo ≤ hi) (h2 : hi ≤ n) :
    RdR w (if cap = lo then a else a.map (·.add (lo * 1))) (hi - lo) (cap - lo) ((l.drop lo).take (hi - lo)) := by
  have hl := h.len
  have hf := h.fit
  have hx := h.max
  refine ⟨?_, by omega, by omega, fun hn => ?_, fun j u hu => ?_⟩
  · rw [List.length_take, List.length_drop, hl]; omega
  · cases a with
    | none => have := h.nul rfl; omega
    | some x => split at hn <;> simp at hn
  · rw [List.getElem?_take] at hu
    split at hu
    · rename_i hj
      rw [List.getElem?_drop] at hu
      obtain ⟨b, off, e, hc⟩ := h.cell (lo + j) u hu
      subst e
      have hne : ¬ cap = lo := by omega
      refine ⟨b, off + lo, ?_, ?_⟩
      · rw [if_neg hne, Option.map_some, Nat.mul_one, add_flat]
      · rw [Nat.add_assoc]; exact hc
    · cases hu
theorem Tryz.size9 (w : World) : (sizeOf 9).run Tryz.prog w = .ok 1 w := by go_simp
theorem Tryz.elem27 : Tryz.prog.elem 27 = 9 := by simp [Program.elem, Tryz.underlying27]
/-- What must be known of a row's type for its parts. -/
structure One (t e : TypeId) : Prop where
  und : Tryz.prog.underlying t = some (.slice (Tryz.prog.elem t))
  elm : Tryz.prog.elem t = e
  siz : ∀ w, (sizeOf e).run Tryz.prog w = .ok 1 w
theorem RdR.slice_l {w : World} {t e : TypeId} (F : One t e) {a : Option Addr} {n cap : Nat} {l : List Value} (h : RdR w a n cap l) (lo : Nat) (h1 : lo ≤ n) :
    ∃ a' cap', (∀ wx, (Instr.sliceAt t (.slice a n cap) (some (.int .i64 lo)) none none).run Tryz.prog wx = .ok (.slice a' (n - lo) cap') wx) ∧ RdR w a' (n - lo) cap' (l.drop lo) := by
  have hs := h.sub lo n h1 (Nat.le_refl _)
  rw [List.take_of_length_le (by rw [List.length_drop, h.len]; omega)] at hs
  refine ⟨_, _, fun wx => ?_, hs⟩
  rw [run_sliceAt_slice _ _ _ _ _ _ F.und, run_slice_l (P := Tryz.prog) wx t a n cap F.und .i64 lo (by omega) (by omega), F.elm, F.siz]
  simp [Result.andThen, sliced]
theorem RdR.slice_h {w : World} {t e : TypeId} (F : One t e) {a : Option Addr} {n cap : Nat} {l : List Value} (h : RdR w a n cap l) (hi : Nat) (h1 : hi ≤ n) :
    ∃ a' cap', (∀ wx, (Instr.sliceAt t (.slice a n cap) none (some (.int .i64 hi)) none).run Tryz.prog wx = .ok (.slice a' hi cap') wx) ∧ RdR w a' hi cap' (l.take hi) := by
  have hs := h.sub 0 hi (Nat.zero_le _) h1
  rw [List.drop_zero, Nat.sub_zero, Nat.sub_zero] at hs
  refine ⟨_, _, fun wx => ?_, hs⟩
  rw [run_sliceAt_slice _ _ _ _ _ _ F.und, run_slice_h (P := Tryz.prog) wx t a n cap F.und .i64 hi (by omega) (by have := h.fit; omega), F.elm, F.siz]
  simp [Result.andThen, sliced]
theorem RdR.grown {w w2 : World} {g n cap : Nat} {cs : List Value} {row : Option Nat} (h : RdR w (some ⟨g, 0, none⟩) n cap cs) (hg : w.grownBy w2 row) (hne : row ≠ some g) : RdR w2 (some ⟨g, 0, none⟩) n cap cs :=
  ⟨h.len, h.fit, h.max, h.nul, fun j u hu => by
    obtain ⟨b, off, e, hc⟩ := h.cell j u hu
    cases e
    refine ⟨g, 0, rfl, ?_⟩
    rw [World.cell?_of_block (w := w) (a := ⟨g, 0 + j, none⟩) (hg.block g (World.block_lt_of_cell? _ _ hc) (fun e => hne e.symm))]
    exact hc⟩
/-- vals[i] = v. -/
theorem OwnJ.set {w : World} {B : Nat} {a : Option Addr} {n c : Nat} {ls : List Int} (h : OwnJ w B a n c ls) {i : Nat} (hi : i < n) (v : Int) :
    ∃ g, a = some ⟨g, 0, none⟩ ∧ B ≤ g ∧ (∃ u, w.cell? ⟨g, i, none⟩ = some u) ∧ w.frozen? ⟨g, i, none⟩ = false ∧ (∃ cur, w.heap[g]? = some (.cells cur 3 (0, 0))) ∧ OwnJ (w.setCell ⟨g, i, none⟩ (.int .i64 v)) B a n c (ls.set i v) := by
  have hlen := OwnJ.len h
  obtain ⟨g0, ha0, hc0⟩ := OwnJ.cell h hi
  rcases h.2 with ⟨h2, h3⟩ | ⟨g, c', cur, h1, h3, h4, h5, h6, h7, h8⟩
  · omega
  · cases h1
    cases ha0
    refine ⟨g0, rfl, h3, ⟨_, hc0⟩, by simp [World.frozen?, h4], ⟨cur, h4⟩, by simp [jcells, hlen], .inr ⟨g0, c, cur.setIfInBounds i (.int .i64 v), rfl, h3, heap_set h4 _, h5, h6, by simpa using h7, ?_⟩⟩
    rw [Array.toList_setIfInBounds, Nat.mul_one, List.take_set]
    rw [Nat.mul_one] at h8
    rw [h8, jcells, jcells, List.map_set]
end Go.Proofs.YtmjeljldmmkcpabGreat.Zs.Dk
namespace Go.Proofs.YtmjeljldmmkcpabGreat.Zs.Dk
theorem mod_succ (d c : Nat) : c % 2 ^ (d + 1) = 2 ^ d * (c / 2 ^ d % 2) + c % 2 ^ d := by
  rw [Nat.pow_succ, Nat.mod_mul, Nat.add_comm]
theorem pow_pos (d : Nat) : 0 < 2 ^ d := Nat.pow_pos (by decide)
end Go.Proofs.YtmjeljldmmkcpabGreat.Zs.Dk
namespace Go.Proofs.YtmjeljldmmkcpabGreat.Zs.Dk
open Go.RowKit Go.PlainAid
/-- The lowest bits of a number, at most sixteen. -/
def lowM (h : Nat) (b : Int) : Nat := h % 2 ^ (min b.toNat 16)
theorem and_low (h k : Nat) (hh : h < 18446744073709551616) (hk : k ≤ 16) : bits .and .u64 (h : Int) ((2 ^ k - 1 : Nat) : Int) = ((h % 2 ^ k : Nat) : Int) := by
  rw [u64_and_nat h (2 ^ k - 1) hh, Nat.and_two_pow_sub_one_eq_mod]
  have : 2 ^ k ≤ 2 ^ 16 := Nat.pow_le_pow_right (by decide) hk
  omega
theorem pow_le_16 {k : Nat} (h : k ≤ 16) : 2 ^ k ≤ 65536 := Nat.pow_le_pow_right (n := 2) (j := 16) (by decide) h
theorem wrap_pow (k : Nat) (h : k ≤ 16) : IntKind.u64.wrap (2 ^ k) = ((2 ^ k : Nat) : Int) := by
  have h1 := pow_le_16 h
  have : ((2 : Int) ^ k) = ((2 ^ k : Nat) : Int) := by simp
  rw [this]
  generalize 2 ^ k = p at h1
  simp [IntKind.wrap, IntKind.signed, IntKind.bits]
  omega
theorem wrap_pred (k : Nat) (h : k ≤ 16) : IntKind.u64.wrap (((2 ^ k : Nat) : Int) - 1) = ((2 ^ k - 1 : Nat) : Int) := by
  have h1 := pow_le_16 h
  have h2 : 0 < 2 ^ k := Nat.pow_pos (by decide)
  generalize 2 ^ k = p at h1 h2
  simp [IntKind.wrap, IntKind.signed, IntKind.bits]
  omega
theorem Low_any (h : Nat) (b : Int) (w : World) (hh : h < 18446744073709551616) (hb : b < 9223372036854775808) (hb' : -9223372036854775808 ≤ b) :
    Calls Tryz.prog 126 #[.int .u64 h, .int .i64 b] w fun e w' => e = .returned (.int .u64 (lowM h b : Nat)) ∧ w' = w := by
  obtain ⟨k, hk⟩ : ∃ k, min b.toNat 16 = k := ⟨_, rfl⟩
  have h16 : k ≤ 16 := by omega
  have hL : lowM h b = h % 2 ^ k := by rw [lowM, hk]
  rw [hL]
  clear hL
  have ha := and_low h k hh h16
  have hw1 := wrap_pow k h16
  have hw2 := wrap_pred k h16
  generalize h % 2 ^ k = z at ha ⊢
  by_cases h0 : b < 0
  · obtain rfl : k = 0 := by omega
    replace ha : bits .and .u64 (h : Int) 0 = z := ha
    clear hw1 hw2
    go_enter Tryz.func126, Tryz.ntmps126
    go_wp2
    go_ret
    exact ⟨rfl, rfl⟩
  by_cases h1 : 16 < b
  · obtain rfl : k = 16 := by omega
    replace ha : bits .and .u64 (h : Int) 65535 = z := ha
    clear hw1 hw2
    go_enter Tryz.func126, Tryz.ntmps126
    go_wp2
    go_ret
    exact ⟨rfl, rfl⟩
  obtain rfl : b = k := by omega
  obtain ⟨p, hp⟩ : ∃ p : Int, ((2 ^ k : Nat) : Int) = p := ⟨_, rfl⟩
  obtain ⟨q, hq⟩ : ∃ q : Int, ((2 ^ k - 1 : Nat) : Int) = q := ⟨_, rfl⟩
  rw [hp] at hw1 hw2
  rw [hq] at hw2 ha
  clear hp hq
  go_enter Tryz.func126, Tryz.ntmps126
  go_wp2
  go_ret
  exact ⟨rfl, rfl⟩
/-- A depth that may be. -/
def dep (d : Int) : Nat := min d.toNat 16
theorem dep_nat {k : Nat} (h : k ≤ 16) : dep (k : Int) = k := by unfold dep; omega
theorem low_dep (c : Nat) (d : Int) : lowM c d = c % 2 ^ dep d := rfl
end Go.Proofs.YtmjeljldmmkcpabGreat.Zs.Dk
namespace Go.Proofs.YtmjeljldmmkcpabGreat.Zs.Dk
/-- A part: its own depth, its bits. -/
abbrev Pt := Nat × Nat
/-- Does a hash belong to a part (own depth, bits)? -/
def isIn (s : Pt) (h : Nat) : Bool := decide (h % 2 ^ s.1 = s.2)
theorem isIn_iff {s : Pt} {h : Nat} : isIn s h = true ↔ h % 2 ^ s.1 = s.2 := decide_eq_true_iff
theorem isIn_no {s : Pt} {h : Nat} : isIn s h = false ↔ h % 2 ^ s.1 ≠ s.2 := decide_eq_false_iff_not
def Apart (s t : Pt) : Prop := ∀ h, isIn s h = true → isIn t h = false
theorem Apart.symm {s t : Pt} (h : Apart s t) : Apart t s := fun k hk => by
  cases e : isIn s k with
  | false => rfl
  | true => have := h k e; rw [hk] at this; cases this
theorem isIn_zero {l q h : Nat} (hq : q < 2 ^ l) : isIn (l + 1, q) h = true ↔ isIn (l, q) h = true ∧ h / 2 ^ l % 2 = 0 := by
  rw [isIn_iff, isIn_iff]
  show h % 2 ^ (l + 1) = q ↔ h % 2 ^ l = q ∧ _
  rw [mod_succ]
  have h1 : h % 2 ^ l < 2 ^ l := Nat.mod_lt _ (Nat.pow_pos (by decide))
  rcases Nat.mod_two_eq_zero_or_one (h / 2 ^ l) with e | e <;> rw [e] <;> simp <;> omega
theorem isIn_one {l q h : Nat} : isIn (l + 1, q + 2 ^ l) h = true ↔ isIn (l, q) h = true ∧ h / 2 ^ l % 2 = 1 := by
  rw [isIn_iff, isIn_iff]
  show h % 2 ^ (l + 1) = q + 2 ^ l ↔ h % 2 ^ l = q ∧ _
  rw [mod_succ]
  have h1 : h % 2 ^ l < 2 ^ l := Nat.mod_lt _ (Nat.pow_pos (by decide))
  rcases Nat.mod_two_eq_zero_or_one (h / 2 ^ l) with e | e <;> rw [e] <;> simp <;> omega
/-- The parts of a directory of depth g: each hash belongs to one. -/
structure Shp (g : Nat) (sh : List Pt) : Prop where
  lt : ∀ s ∈ sh, s.2 < 2 ^ s.1 ∧ s.1 ≤ g
  le : g ≤ 16
  deep : ∃ s ∈ sh, s.1 = g
  cov : ∀ h, ∃ s ∈ sh, isIn s h = true
  dis : sh.Pairwise Apart
theorem Shp.new : Shp 0 [(0, 0)] := by
  refine ⟨?_, by decide, ⟨_, List.mem_singleton.2 rfl, rfl⟩, fun h => ⟨_, List.mem_singleton.2 rfl, ?_⟩, by simp⟩
  · intro s hs
    cases List.mem_singleton.1 hs
    simp
  · rw [isIn_iff]; simp [Nat.mod_one]
/-- The part of a hash, and that no other is. -/
theorem Shp.parts {g : Nat} {sh : List Pt} (hS : Shp g sh) (h : Nat) : ∃ a s c, sh = a ++ s :: c ∧ isIn s h = true ∧ (∀ t ∈ a, isIn t h = false) ∧ (∀ t ∈ c, isIn t h = false) := by
  obtain ⟨s, hs, hi⟩ := hS.cov h
  obtain ⟨a, c, rfl⟩ := List.append_of_mem hs
  have hd := hS.dis
  rw [List.pairwise_append, List.pairwise_cons] at hd
  refine ⟨a, s, c, rfl, hi, fun t ht => ?_, fun t ht => hd.2.1.1 t ht h hi⟩
  exact (hd.2.2 t ht s (by simp)).symm h hi
theorem Shp.split {g : Nat} {a c : List Pt} {l q : Nat} (hS : Shp g (a ++ (l, q) :: c)) (hl : l < 16) : Shp (max g (l + 1)) (a ++ (l + 1, q) :: (c ++ [(l + 1, q + 2 ^ l)])) := by
  have hq := hS.lt (l, q) (by simp)
  have hp : 2 ^ (l + 1) = 2 * 2 ^ l := by rw [Nat.pow_succ, Nat.mul_comm]
  refine ⟨?_, ?_, ?_, ?_, ?_⟩
  · intro s hs
    simp only [List.mem_append, List.mem_cons, List.not_mem_nil, or_false] at hs
    rcases hs with hs | rfl | hs | rfl
    · have := hS.lt s (by simp [hs]); omega
    · simp only [hp]; simp only at hq; omega
    · have := hS.lt s (by simp [hs]); omega
    · simp only [hp]; simp only at hq; omega
  · have := hS.le; omega
  · by_cases e : l + 1 ≤ g
    · obtain ⟨s, hs, he⟩ := hS.deep
      simp only [List.mem_append, List.mem_cons] at hs
      rcases hs with hs | rfl | hs
      · exact ⟨s, by simp [hs], by omega⟩
      · simp only at he; omega
      · exact ⟨s, by simp [hs], by omega⟩
    · exact ⟨(l + 1, q), by simp, by simp only; omega⟩
  · intro h
    obtain ⟨s, hs, hi⟩ := hS.cov h
    simp only [List.mem_append, List.mem_cons] at hs
    rcases hs with hs | rfl | hs
    · exact ⟨s, by simp [hs], hi⟩
    · rcases Nat.mod_two_eq_zero_or_one (h / 2 ^ l) with e | e
      · exact ⟨(l + 1, q), by simp, (isIn_zero hq.1).2 ⟨hi, e⟩⟩
      · exact ⟨(l + 1, q + 2 ^ l), by simp, isIn_one.2 ⟨hi, e⟩⟩
    · exact ⟨s, by simp [hs], hi⟩
  · have hd := hS.dis
    rw [List.pairwise_append, List.pairwise_cons] at hd
    obtain ⟨h1, ⟨h2, h3⟩, h4⟩ := hd
    have z0 : ∀ t, Apart (l, q) t → Apart (l + 1, q) t := fun t ht h hh => ht h ((isIn_zero hq.1).1 hh).1
    have z1 : ∀ t, Apart (l, q) t → Apart (l + 1, q + 2 ^ l) t := fun t ht h hh => ht h (isIn_one.1 hh).1
    have z2 : Apart (l + 1, q) (l + 1, q + 2 ^ l) := by
      intro h hh
      have h0 := ((isIn_zero hq.1).1 hh).2
      cases e : isIn (l + 1, q + 2 ^ l) h with
      | false => rfl
      | true => have h1 := (isIn_one.1 e).2; rw [h0] at h1; cases h1
    rw [List.pairwise_append, List.pairwise_cons, List.pairwise_append]
    refine ⟨h1, ⟨?_, h3, by simp, ?_⟩, ?_⟩
    · intro t ht
      simp only [List.mem_append, List.mem_cons, List.not_mem_nil, or_false] at ht
      rcases ht with ht | rfl
      · exact z0 t (h2 t ht)
      · exact z2
    · intro t ht s hs
      cases List.mem_singleton.1 hs
      exact (z1 t (h2 t ht)).symm
    · intro t ht s hs
      simp only [List.mem_append, List.mem_cons, List.not_mem_nil, or_false] at hs
      rcases hs with rfl | hs | rfl
      · exact (z0 t (h4 t ht (l, q) (by simp)).symm).symm
      · exact h4 t ht s (by simp [hs])
      · exact (z1 t (h4 t ht (l, q) (by simp)).symm).symm
/-- Two that a hash belongs to are one. -/
theorem Shp.one {g : Nat} {sh : List Pt} (hS : Shp g sh) {i j : Nat} (hi : i < sh.length) (hj : j < sh.length) {h : Nat} (h1 : isIn sh[i] h = true) (h2 : isIn sh[j] h = true) : i = j := by
  rcases Nat.lt_trichotomy i j with h3 | h3 | h3
  · have := List.pairwise_iff_getElem.1 hS.dis i j hi hj h3 h h1
    rw [h2] at this; cases this
  · exact h3
  · have := List.pairwise_iff_getElem.1 hS.dis j i hj hi h3 h h2
    rw [h1] at this; cases this
/-- A hash and its lowest bits belong to the same. -/
theorem isIn_low {s : Pt} {g : Nat} (hs : s.1 ≤ g) (h : Nat) : isIn s (h % 2 ^ g) = isIn s h := by
  unfold isIn
  have : h % 2 ^ g % 2 ^ s.1 = h % 2 ^ s.1 := Nat.mod_mod_of_dvd _ (Nat.pow_dvd_pow 2 hs)
  rw [this]
theorem isIn_self {s : Pt} (hs : s.2 < 2 ^ s.1) : isIn s s.2 = true := isIn_iff.2 (Nat.mod_eq_of_lt hs)
end Go.Proofs.YtmjeljldmmkcpabGreat.Zs.Dk
namespace Go.Proofs.YtmjeljldmmkcpabGreat.Zs.Dk
open Go.RowKit Go.PlainAid
/-- All is as it was, but for the blocks of M and what is new. -/
structure Stay (w w' : World) (M : List Nat) : Prop where
  os : w'.os = w.os
  tape : w'.tape = w.tape
  output : w'.output = w.output
  size : w.heap.size ≤ w'.heap.size
  block : ∀ k, k < w.heap.size → k ∉ M → w'.heap[k]? = w.heap[k]?
theorem Stay.of_below {w w' : World} (h : Below w.heap.size w w') (M : List Nat) : Stay w w' M := ⟨h.os, h.tape, h.output, h.size, fun k hk _ => h.block k hk⟩
theorem Stay.of_moves {w w' : World} {p b : Nat} (h : Moves w w' p b) : Stay w w' [p, b] :=
  ⟨h.os, h.tape, h.output, h.size, fun k hk hn => h.block k hk (fun e => hn (by simp [e])) (fun e => hn (by simp [e]))⟩
theorem Stay.trans {w w1 w2 : World} {M M' : List Nat} (h : Stay w w1 M) (k : Stay w1 w2 M') (hM : ∀ i ∈ M', i ∈ M ∨ w.heap.size ≤ i) : Stay w w2 M :=
  ⟨k.os.trans h.os, k.tape.trans h.tape, k.output.trans h.output, Nat.le_trans h.size k.size, fun i hi hn =>
    (k.block i (Nat.lt_of_lt_of_le hi h.size) (fun hm => (hM i hm).elim hn (fun h1 => by omega))).trans (h.block i hi hn)⟩
theorem Stay.mono {w w' : World} {M M' : List Nat} (h : Stay w w' M) (hM : ∀ i ∈ M, i ∈ M') : Stay w w' M' :=
  ⟨h.os, h.tape, h.output, h.size, fun k hk hn => h.block k hk (fun hm => hn (hM k hm))⟩
theorem Stay.below {w w' : World} {M : List Nat} {B : Nat} (h : Stay w w' M) (hM : ∀ i ∈ M, B ≤ i) (hB : B ≤ w.heap.size) : Below B w w' :=
  ⟨h.os, h.tape, h.output, h.size, fun k hk => h.block k (Nat.lt_of_lt_of_le hk hB) (fun hm => by have := hM k hm; omega)⟩
theorem Stay.set {w : World} {q o : Nat} {v : Value} : Stay w (w.setCell ⟨q, o, none⟩ v) [q] :=
  ⟨rfl, rfl, rfl, by simp [World.setCell], fun k _ h1 => Below.heap_setCell _ _ _ _ (by simpa using h1)⟩
theorem Stay.grown {w w2 : World} {row : Option Nat} {M : List Nat} (h : w.grownBy w2 row) (hr : ∀ g, row = some g → g ∈ M) : Stay w w2 M :=
  ⟨h.os, h.tape, h.output, h.size, fun k hk hn => h.block k hk (fun e => hn (hr k e.symm))⟩
theorem Top.stay {w w' : World} {p b x G : Nat} {M : List Nat} (h : Top w p b x G) (hs : Stay w w' M) (hp : p ∉ M) : Top w' p b x G := h.kept (hs.block p h.lt hp)
theorem Tab.stay {w w' : World} {B p b x G : Nat} {z : List Cl} {M : List Nat} (h : Tab w B p b x G z) (hs : Stay w w' M) (hp : p ∉ M) (hb : b ∉ M) : Tab w' B p b x G z :=
  ⟨h.top.stay hs hp, h.row.kept (hs.block b h.row.lt hb), h.low, h.lowb, h.inv, h.seed, h.siz⟩
theorem Tab.lower {w : World} {B C p b x G : Nat} {z : List Cl} (h : Tab w B p b x G z) (hC : C ≤ B) : Tab w C p b x G z :=
  ⟨h.top, h.row, Nat.le_trans hC h.low, Nat.le_trans hC h.lowb, h.inv, h.seed, h.siz⟩
theorem OwnR.stay {w w' : World} {B : Nat} {e : TypeId} {s : Nat} {a : Option Addr} {n cap : Nat} {cs : List Value} {M : List Nat} (h : OwnR w B e s a n cap cs) (hs : Stay w w' M) (hd : ∀ k, a.map (·.block) = some k → k ∉ M) : OwnR w' B e s a n cap cs :=
  h.kept fun k hk => hs.block k (h.lt hk).2.1 (hd k hk)
/-- Rows of pointers. -/
def pcells (ls : List Nat) : List Value := ls.map ptr
abbrev OwnP (w : World) (B : Nat) (e : TypeId) (a : Option Addr) (n cap : Nat) (ls : List Nat) : Prop := OwnR w B e 1 a n cap (pcells ls)
theorem Tryz.infoT : (Tryz.prog.info? 106).map (fun i => (i.zero, i.size, i.bytes)) = some (some (.pointer none), 1, 8) := by kernel_rfl
theorem Tryz.infoL : (Tryz.prog.info? 104).map (fun i => (i.zero, i.size, i.bytes)) = some (some (.pointer none), 1, 8) := by kernel_rfl
theorem eltT : Elt 150 106 1 8 := elt_of Tryz.underlying150 Tryz.infoT rfl (by decide)
theorem eltL : Elt 108 104 1 8 := elt_of Tryz.underlying108 Tryz.infoL rfl (by decide)
theorem pcells_append (l r : List Nat) : pcells (l ++ r) = pcells l ++ pcells r := List.map_append ..
theorem pcells_one {ls : List Nat} : ∀ u ∈ pcells ls, u.oneCell' = true := by
  intro u hu
  obtain ⟨i, -, rfl⟩ := List.mem_map.1 hu
  rfl
theorem OwnP.len {w : World} {B : Nat} {e : TypeId} {a : Option Addr} {n cap : Nat} {ls : List Nat} (h : OwnP w B e a n cap ls) : ls.length = n := by have := OwnR.len h; simpa [pcells] using this
theorem OwnP.cell {w : World} {B : Nat} {e : TypeId} {g n cap : Nat} {ls : List Nat} (h : OwnP w B e (some ⟨g, 0, none⟩) n cap ls) {j p : Nat} (hj : ls[j]? = some p) : w.cell? ⟨g, j, none⟩ = some (ptr p) := by
  have hl := OwnP.len h
  have hlt : j < ls.length := by
    rcases Nat.lt_or_ge j ls.length with h1 | h1
    · exact h1
    · rw [List.getElem?_eq_none h1] at hj; cases hj
  obtain ⟨g', h1, h2⟩ := OwnR.at h (by omega)
  cases h1
  exact h2 _ _ (by rw [pcells, List.getElem?_map, hj]; rfl)
/-- A table: where it lies, its slots. -/
structure Tb where
  p : Nat
  b : Nat
  G : Nat
  z : List Cl
def Tb.es (t : Tb) : List En := ents t.z
def Tb.fp (t : Tb) : List Nat := [t.p, t.b]
def tsEs (ts : List Tb) : List En := ts.flatMap Tb.es
def tsFp (ts : List Tb) : List Nat := ts.flatMap Tb.fp
/-- A leaf: its own depth, its bits; where it lies, where the row of its tables; its tables. -/
structure Lf where
  l : Nat
  q : Nat
  a : Nat
  tb : Nat
  cap : Nat
  ts : List Tb
def Lf.es (f : Lf) : List En := tsEs f.ts
def Lf.fp (f : Lf) : List Nat := f.a :: f.tb :: tsFp f.ts
def Lf.pt (f : Lf) : Pt := (f.l, f.q)
theorem tsEs_append (a b : List Tb) : tsEs (a ++ b) = tsEs a ++ tsEs b := List.flatMap_append ..
theorem tsEs_cons (t : Tb) (b : List Tb) : tsEs (t :: b) = t.es ++ tsEs b := List.flatMap_cons ..
theorem tsEs_one (t : Tb) : tsEs [t] = t.es := by rw [tsEs_cons]; exact List.append_nil _
theorem tsFp_append (a b : List Tb) : tsFp (a ++ b) = tsFp a ++ tsFp b := List.flatMap_append ..
theorem tsFp_cons (t : Tb) (b : List Tb) : tsFp (t :: b) = t.p :: t.b :: tsFp b := by rw [tsFp, List.flatMap_cons]; rfl
theorem mem_tsFp {ts : List Tb} {t : Tb} (h : t ∈ ts) : t.p ∈ tsFp ts ∧ t.b ∈ tsFp ts :=
  ⟨List.mem_flatMap.2 ⟨t, h, by simp [Tb.fp]⟩, List.mem_flatMap.2 ⟨t, h, by simp [Tb.fp]⟩⟩
/-- A leaf in memory. -/
structure Leaf (w : World) (B x : Nat) (f : Lf) : Prop where
  blk : w.heap[f.a]? = some (.cells #[.int .i64 (f.l : Nat), .slice (some ⟨f.tb, 0, none⟩) f.ts.length f.cap] 152 (0, 0))
  row : OwnP w B 106 (some ⟨f.tb, 0, none⟩) f.ts.length f.cap (f.ts.map (·.p))
  tab : ∀ t ∈ f.ts, Tab w B t.p t.b x t.G t.z
  low : B ≤ f.a
  nod : f.fp.Nodup
  key : (keysOf f.es).Nodup
  pos : 0 < f.ts.length
theorem Leaf.lt {w : World} {B x : Nat} {f : Lf} (h : Leaf w B x f) : f.a < w.heap.size := (Array.getElem?_eq_some_iff.1 h.blk).1
theorem Leaf.fplt {w : World} {B x : Nat} {f : Lf} (h : Leaf w B x f) : ∀ k ∈ f.fp, B ≤ k ∧ k < w.heap.size := by
  intro k hk
  rcases List.mem_cons.1 hk with rfl | hk
  · exact ⟨h.low, h.lt⟩
  rcases List.mem_cons.1 hk with rfl | hk
  · have := OwnR.lt h.row (k := f.tb) rfl
    exact ⟨this.1, this.2.1⟩
  · obtain ⟨t, ht, hk⟩ := List.mem_flatMap.1 hk
    have hT := h.tab t ht
    simp only [Tb.fp, List.mem_cons, List.not_mem_nil, or_false] at hk
    rcases hk with rfl | rfl
    · exact ⟨hT.low, hT.top.lt⟩
    · exact ⟨hT.lowb, hT.row.lt⟩
theorem Leaf.stay {w w' : World} {B x : Nat} {f : Lf} {M : List Nat} (h : Leaf w B x f) (hs : Stay w w' M) (hd : ∀ k ∈ f.fp, k ∉ M) : Leaf w' B x f := by
  refine ⟨by rw [hs.block f.a h.lt (hd _ (by simp [Lf.fp]))]; exact h.blk, OwnR.stay h.row hs (fun k hk => hd k (by cases hk; simp [Lf.fp])), fun t ht => (h.tab t ht).stay hs (hd _ ?_) (hd _ ?_), h.low, h.nod, h.key, h.pos⟩
  · exact List.mem_cons_of_mem _ (List.mem_cons_of_mem _ (mem_tsFp ht).1)
  · exact List.mem_cons_of_mem _ (List.mem_cons_of_mem _ (mem_tsFp ht).2)
theorem Leaf.keep {w w' : World} {B x : Nat} {f : Lf} (h : Leaf w B x f) (hb : Below w.heap.size w w') : Leaf w' B x f := h.stay (Stay.of_below hb []) (fun _ _ => by simp)
theorem Leaf.own {w : World} {B x : Nat} {f : Lf} (h : Leaf w B x f) : w.cell? ⟨f.a, 0, none⟩ = some (.int .i64 (f.l : Nat)) := by simp [World.cell?, h.blk]
theorem Leaf.tabs {w : World} {B x : Nat} {f : Lf} (h : Leaf w B x f) : w.cell? ⟨f.a, 1, none⟩ = some (.slice (some ⟨f.tb, 0, none⟩) f.ts.length f.cap) := by simp [World.cell?, h.blk]
theorem Leaf.frozen {w : World} {B x : Nat} {f : Lf} (h : Leaf w B x f) (o : Nat) : w.frozen? ⟨f.a, o, none⟩ = false := by simp [World.frozen?, h.blk]
theorem Leaf.at {w : World} {B x : Nat} {f : Lf} (h : Leaf w B x f) {i : Nat} {t : Tb} (hi : f.ts[i]? = some t) : w.cell? ⟨f.tb, i, none⟩ = some (ptr t.p) :=
  OwnP.cell h.row (by rw [List.getElem?_map, hi]; rfl)
theorem Leaf.max {w : World} {B x : Nat} {f : Lf} (h : Leaf w B x f) : f.ts.length ≤ 9223372036854775807 := by have := OwnR.cap h.row; unfold maxLen at this; omega
theorem take_more {α : Type} {l : List α} {i : Nat} {t : α} (hi : l[i]? = some t) : l.take (i + 1) = l.take i ++ [t] := by rw [List.take_add_one, hi]; rfl
theorem get_of_lt {α : Type} {l : List α} {i : Nat} (hi : i < l.length) : ∃ t, l[i]? = some t ∧ t ∈ l := ⟨l[i], List.getElem?_eq_getElem hi, List.getElem_mem hi⟩
theorem size_any (B x : Nat) (f : Lf) (w : World) (hL : Leaf w B x f) (hn : f.es.length ≤ 1000000) :
    Calls Tryz.prog 139 #[ptr f.a] w fun e w' => e = .returned (.int .i64 (f.es.length : Nat)) ∧ w' = w := by
  have HL : Hid (Leaf w B x f) := hL
  have hc := hL.tabs
  have hmx := hL.max
  have HN : Hid (f.es.length ≤ 1000000) := hn
  have HE : Hid (f.es = tsEs f.ts) := rfl
  generalize hm : f.ts.length = m at hc hmx
  have HM : Hid (f.ts.length = m) := hm
  clear hL hn hm
  go_enter Tryz.func139, Tryz.ntmps139
  go_wp2
  go_loopg [3, 5, 11] m (fun q nv tv iv wr => w = wr ∧ ∃ i : Nat, i + q = m ∧ iv = .int .i64 i ∧ nv = .int .i64 ((tsEs (f.ts.take i)).length : Nat))
  case atStart => exact ⟨rfl, 0, by omega, rfl, rfl⟩
  case round =>
    obtain ⟨rfl, i, hi, rfl, rfl⟩ := hrel
    by_cases h8 : (i : Int) < m
    · obtain ⟨t, ht, htm⟩ := get_of_lt (l := f.ts) (i := i) (by have := HM.out; omega)
      have hk := HL.out.at ht
      have hLen := Len_any _ _ _ _ _ _ _ (HL.out.tab t htm)
      have HS : Hid ((tsEs (f.ts.take (i + 1))).length = (tsEs (f.ts.take i)).length + (ents t.z).length) := by show _ = _; rw [take_more ht, tsEs_append, List.length_append, tsEs_one]; rfl
      have hle : (tsEs (f.ts.take (i + 1))).length ≤ 1000000 := by
        have h1 := HN.out
        rw [HE.out, ← List.take_append_drop (i + 1) f.ts, tsEs_append, List.length_append] at h1
        omega
      rw [HS.out] at hle
      generalize (tsEs (f.ts.take i)).length = c at HS hle ⊢
      generalize (ents t.z).length = d at HS hle hLen
      clear ht htm
      go_wp2_with fail
      refine hLen.mono ?_
      rintro e w ⟨rfl, rfl⟩
      go_wp2
      go_roundg (gk - 1)
      case measure => omega
      case rel => exact ⟨rfl, i + 1, by omega, by go_num, by rw [HS.out]; go_num⟩
    · have HT : Hid (f.ts.take i = f.ts) := by show _ = _; rw [List.take_of_length_le (by have := HM.out; omega)]
      rw [HT.out]
      go_wp2
      go_ret
      exact ⟨rfl, rfl⟩
theorem keysOf_append (a b : List En) : keysOf (a ++ b) = keysOf a ++ keysOf b := List.map_append ..
theorem splits_any (B x : Nat) (f : Lf) (w : World) (hL : Leaf w B x f) (hl : f.l ≤ 16) (hn : f.es.length ≤ 1000000) :
    Calls Tryz.prog 105 #[ptr f.a] w fun e w' => e = .returned (.bool (decide (f.l < 16) && decide (112 ≤ f.es.length))) ∧ w' = w := by
  have hS := fun w hL => size_any B x f w hL hn
  have hc := hL.own
  have HL : Hid (Leaf w B x f) := hL
  generalize f.es.length = m at hS hn ⊢
  generalize f.l = l at hc hl ⊢
  by_cases h1 : l < 16
  · have HR : Hid (decide (l < 16) = true) := decide_eq_true h1
    have h1z : (l : Int) < 16 := by omega
    clear hL
    go_enter Tryz.func105, Tryz.ntmps105
    go_wp2_with fail
    refine (hS _ HL.out).mono ?_
    rintro e w ⟨rfl, rfl⟩
    by_cases h2 : 112 ≤ m
    · have h2z : (112 : Int) ≤ m := by omega
      have HR2 : Hid (decide (112 ≤ m) = true) := decide_eq_true h2
      clear h2
      go_wp2
      go_ret
      exact ⟨by rw [HR.out, HR2.out]; rfl, rfl⟩
    · have h2z : decide ((112 : Int) ≤ m) = false := decide_eq_false (by omega)
      have HR2 : Hid (decide (112 ≤ m) = false) := decide_eq_false h2
      clear h2
      go_wp2
      go_ret
      exact ⟨by rw [HR.out, HR2.out]; rfl, rfl⟩
  · have HR : Hid (decide (l < 16) = false) := decide_eq_false h1
    obtain rfl : l = 16 := by omega
    clear hL
    go_enter Tryz.func105, Tryz.ntmps105
    go_wp2
    go_ret
    exact ⟨by rw [HR.out]; rfl, rfl⟩
/-- The table that has a key, or none. -/
theorem holder_yes (B x : Nat) (f : Lf) (k : ByteArray) (w : World) (hL : Leaf w B x f) (hks : k.size ≤ maxLen) (hk : k ∈ keysOf f.es) :
    Calls Tryz.prog 103 #[ptr f.a, .string k] w fun e w' => Below w.heap.size w w' ∧ ∃ t, e = .returned (ptr t.p) ∧ t ∈ f.ts ∧ k ∈ keysOf t.es := by
  have HL : Hid (Leaf w B x f) := hL
  have hc := hL.tabs
  have hmx := hL.max
  have HK : Hid (k ∈ keysOf (tsEs f.ts)) := hk
  have HKS : Hid (k.size ≤ maxLen) := hks
  generalize hm : f.ts.length = m at hc hmx
  have HM : Hid (f.ts.length = m) := hm
  clear hL hm hk hks
  go_enter Tryz.func103, Tryz.ntmps103
  go_wp2
  go_loopg [6, 7, 8, 14] m (fun q tv vv bv iv wr => ∃ i : Nat, i + q = m ∧ iv = .int .i64 i ∧ Hid (k ∉ keysOf (tsEs (f.ts.take i))) ∧ Hid (Below w.heap.size w wr))
  case atStart => exact ⟨0, by omega, rfl, (by simp [tsEs] : k ∉ _), Below.refl _ _⟩
  case round =>
    obtain ⟨i, hi, rfl, HNo, HB⟩ := hrel
    by_cases h8 : (i : Int) < m
    · obtain ⟨t, ht, htm⟩ := get_of_lt (l := f.ts) (i := i) (by have := HM.out; omega)
      have hcc := (HL.out.keep HB.out).at ht
      have HTab : Hid (Tab wr B t.p t.b x t.G t.z) := (HL.out.keep HB.out).tab t htm
      have HMm : Hid (t ∈ f.ts) := htm
      by_cases hin : k ∈ (ents t.z).map (·.1)
      · obtain ⟨⟨k0, v⟩, hv, rfl⟩ := List.mem_map.1 hin
        have hG := Get_some _ _ _ _ _ _ k0 v _ HTab.out HKS.out hv
        have HIn : Hid ((k0, v) ∈ t.es) := hv
        clear ht htm hin hv
        go_wp2_with fail
        refine hG.mono ?_
        rintro e w1 ⟨rfl, hb1⟩
        have HB1 := step_below HB hb1
        clear hb1 hG
        go_wp2
        go_ret
        exact ⟨HB1.out, t, rfl, HMm.out, v, HIn.out⟩
      · have hG := Get_none _ _ _ _ _ _ k _ HTab.out HKS.out hin
        have HNo1 : Hid (k ∉ keysOf (tsEs (f.ts.take (i + 1)))) := by
          show k ∉ _
          rw [take_more ht, tsEs_append, keysOf_append, tsEs_one, List.mem_append]
          exact fun h => h.elim HNo.out hin
        clear ht htm hin
        go_wp2_with fail
        refine hG.mono ?_
        rintro e w1 ⟨rfl, hb1⟩
        have HB1 := step_below HB hb1
        clear hb1 hG
        go_wp2
        go_roundg (gk - 1)
        case measure => omega
        case rel => exact ⟨i + 1, by omega, by go_num, HNo1, HB1⟩
    · exact absurd HK.out (by have := HNo.out; rw [List.take_of_length_le (by have := HM.out; omega)] at this; exact this)
theorem holder_no (B x : Nat) (f : Lf) (k : ByteArray) (w : World) (hL : Leaf w B x f) (hks : k.size ≤ maxLen) (hk : k ∉ keysOf f.es) :
    Calls Tryz.prog 103 #[ptr f.a, .string k] w fun e w' => e = .returned (.pointer none) ∧ Below w.heap.size w w' := by
  have HL : Hid (Leaf w B x f) := hL
  have hc := hL.tabs
  have hmx := hL.max
  have HK : Hid (∀ t ∈ f.ts, k ∉ (ents t.z).map (·.1)) := fun t ht h => hk (by
    obtain ⟨e, he, h1⟩ := List.mem_map.1 h
    exact List.mem_map.2 ⟨e, List.mem_flatMap.2 ⟨t, ht, he⟩, h1⟩)
  have HKS : Hid (k.size ≤ maxLen) := hks
  generalize hm : f.ts.length = m at hc hmx
  have HM : Hid (f.ts.length = m) := hm
  clear hL hm hk hks
  go_enter Tryz.func103, Tryz.ntmps103
  go_wp2
  go_loopg [6, 7, 8, 14] m (fun q tv vv bv iv wr => ∃ i : Nat, i + q = m ∧ iv = .int .i64 i ∧ Hid (Below w.heap.size w wr))
  case atStart => exact ⟨0, by omega, rfl, Below.refl _ _⟩
  case round =>
    obtain ⟨i, hi, rfl, HB⟩ := hrel
    by_cases h8 : (i : Int) < m
    · obtain ⟨t, ht, htm⟩ := get_of_lt (l := f.ts) (i := i) (by have := HM.out; omega)
      have hcc := (HL.out.keep HB.out).at ht
      have hG := Get_none _ _ _ _ _ _ k _ ((HL.out.keep HB.out).tab t htm) HKS.out (HK.out t htm)
      clear ht htm
      go_wp2_with fail
      refine hG.mono ?_
      rintro e w1 ⟨rfl, hb1⟩
      have HB1 := step_below HB hb1
      clear hb1 hG
      go_wp2
      go_roundg (gk - 1)
      case measure => omega
      case rel => exact ⟨i + 1, by omega, by go_num, HB1⟩
    · go_wp2
      go_ret
      exact ⟨rfl, HB.out⟩
theorem size_alloc (w : World) (o : Obj) : (w.alloc o).heap.size = w.heap.size + 1 := by
  show (w.heap.push o).size = _
  exact Array.size_push ..
/-- A leaf of one table that was made just now. -/
theorem newLeaf_any (l p : Nat) (w : World) :
    Calls Tryz.prog 54 #[.int .i64 (l : Nat), ptr p] w fun e w' => Below w.heap.size w w' ∧ ∃ a, e = .returned (ptr a) ∧ w.heap.size < a ∧ a < w'.heap.size ∧
      w'.heap[a]? = some (.cells #[.int .i64 (l : Nat), .slice (some ⟨w.heap.size, 0, none⟩) 1 1] 152 (0, 0)) ∧ OwnP w' w.heap.size 106 (some ⟨w.heap.size, 0, none⟩) 1 1 [p] := by
  obtain ⟨w1, hw1⟩ : ∃ w1, w.alloc (.cells #[ptr p] 106) = w1 := ⟨_, rfl⟩
  have HB1 : Hid (Below w.heap.size w w1) := by show Below _ _ _; rw [← hw1]; exact alloc_below w _
  have HS1 : Hid (w1.heap.size = w.heap.size + 1) := by show _ = _; rw [← hw1]; exact size_alloc w _
  have HO1 : Hid (OwnP w1 w.heap.size 106 (some ⟨w.heap.size, 0, none⟩) 1 1 [p]) := by
    show OwnP _ _ _ _ _ _ _
    rw [← hw1]
    exact ⟨rfl, .inr ⟨w.heap.size, 1, #[ptr p], rfl, Nat.le_refl _, heap_alloc_new w _, Nat.le_refl _, by decide, rfl, rfl⟩⟩
  obtain ⟨w2, hw2⟩ : ∃ w2, w1.alloc (.cells #[.int .i64 (l : Nat), .slice (some ⟨w.heap.size, 0, none⟩) 1 1] 152) = w2 := ⟨_, rfl⟩
  have HB2 : Hid (Below w1.heap.size w1 w2) := by show Below _ _ _; rw [← hw2]; exact alloc_below w1 _
  have HS2 : Hid (w2.heap.size = w1.heap.size + 1) := by show _ = _; rw [← hw2]; exact size_alloc w1 _
  have HK2 : Hid (w2.heap[w1.heap.size]? = some (.cells #[.int .i64 (l : Nat), .slice (some ⟨w.heap.size, 0, none⟩) 1 1] 152 (0, 0))) := by show _ = _; rw [← hw2]; exact heap_alloc_new w1 _
  go_enter Tryz.func54, Tryz.ntmps54
  go_wp2
  go_ret
  refine ⟨(step_below HB1 HB2.out).out, w1.heap.size, rfl, by have := HS1.out; omega, by have := HS2.out; omega, HK2.out, OwnR.keep HO1.out HB2.out⟩
theorem Tryz.size59 (w : World) : (sizeOf 106).run Tryz.prog w = .ok 1 w := by go_simp
theorem Tryz.elem150 : Tryz.prog.elem 150 = 106 := by simp [Program.elem, Tryz.underlying150]
/-- Block g has these cells. -/
def Bk (w : World) (g : Nat) (cur : List Value) : Prop := w.heap[g]? = some (.cells cur.toArray 106 (0, 0))
theorem Bk.lt {w : World} {g : Nat} {cur : List Value} (h : Bk w g cur) : g < w.heap.size := (Array.getElem?_eq_some_iff.1 h).1
theorem Bk.cell {w : World} {g : Nat} {cur : List Value} (h : Bk w g cur) (j : Nat) : w.cell? ⟨g, j, none⟩ = cur[j]? := by
  have h' : w.heap[g]? = some (.cells cur.toArray 106 (0, 0)) := h
  simp [World.cell?, h']
theorem Bk.frozen {w : World} {g : Nat} {cur : List Value} (h : Bk w g cur) (j : Nat) : w.frozen? ⟨g, j, none⟩ = false := by
  have h' : w.heap[g]? = some (.cells cur.toArray 106 (0, 0)) := h
  simp [World.frozen?, h']
theorem Bk.drew {w : World} {g : Nat} {cur : List Value} (h : Bk w g cur) : Bk w.drew g cur := h
theorem grown_refl (w : World) (row : Option Nat) : w.grownBy w row := ⟨rfl, rfl, rfl, Nat.le_refl _, fun _ _ _ => rfl⟩
theorem grown_trans {w w1 w2 : World} {row : Option Nat} (h1 : w.grownBy w1 row) (h2 : w1.grownBy w2 row) : w.grownBy w2 row :=
  ⟨h2.os.trans h1.os, h2.tape.trans h1.tape, h2.output.trans h1.output, Nat.le_trans h1.size h2.size, fun k hk hr => (h2.block k (Nat.lt_of_lt_of_le hk h1.size) hr).trans (h1.block k hk hr)⟩
theorem drew_grown {w w1 : World} {row : Option Nat} (h : w.drew.grownBy w1 row) : w.grownBy w1 row := ⟨h.os, h.tape, h.output, h.size, h.block⟩
theorem grown_setCell (w : World) (g o : Nat) (v : Value) : w.grownBy (w.setCell ⟨g, o, none⟩ v) (some g) :=
  ⟨rfl, rfl, rfl, by simp [World.setCell], fun k _ hr => Deep.blk_setCell_other w _ v k (fun e => hr (by rw [e]))⟩
theorem OwnP.parts {w : World} {B : Nat} {a : Option Addr} {n c : Nat} {l : List Nat} (h : OwnP w B 106 a n c l) (h0 : 0 < n) :
    ∃ g cur, a = some ⟨g, 0, none⟩ ∧ B ≤ g ∧ Bk w g cur ∧ n ≤ c ∧ c ≤ maxLen ∧ cur.length = c ∧ cur.take n = pcells l := by
  rcases h.2 with ⟨h2, h3⟩ | ⟨g, c', cur, h1, h3, h4, h5, h6, h7, h8⟩
  · omega
  · cases h1
    refine ⟨g, cur.toList, rfl, h3, by show _ = _; simpa using h4, h5, h6, by simpa using h7, ?_⟩
    simpa using h8
theorem OwnP.of {w : World} {B g n c : Nat} {cur : List Value} {l : List Nat} (hB : B ≤ g) (hk : Bk w g cur) (hn : n ≤ c) (hc : c ≤ maxLen) (hl : cur.length = c) (ht : cur.take n = pcells l) : OwnP w B 106 (some ⟨g, 0, none⟩) n c l := by
  have hlen : l.length = n := by
    have := congrArg List.length ht
    simp [pcells] at this
    omega
  refine ⟨by simp [pcells, hlen], .inr ⟨g, c, cur.toArray, rfl, hB, hk, hn, hc, by simp [hl], by simpa using ht⟩⟩
/-- s[lo:hi], s[lo:], s[:hi] of a row at its place. -/
theorem slice_at (g n c lo hi : Nat) (h1 : lo ≤ hi) (h2 : hi ≤ c) :
    ∃ o, (lo < c → o = lo) ∧ ∀ wx, (Instr.sliceAt 150 (.slice (some ⟨g, 0, none⟩) n c) (some (.int .i64 lo)) (some (.int .i64 hi)) none).run Tryz.prog wx = .ok (.slice (some ⟨g, o, none⟩) (hi - lo) (c - lo)) wx := by
  have ht : Tryz.prog.underlying 150 = some (.slice (Tryz.prog.elem 150)) := by rw [Tryz.elem150]; exact Tryz.underlying150
  refine ⟨if c = lo then 0 else lo, fun h => by rw [if_neg (by omega)], fun wx => ?_⟩
  rw [run_sliceAt_slice _ _ _ _ _ _ ht, run_slice_lh (P := Tryz.prog) wx 150 _ n c ht .i64 .i64 lo hi (by omega) (by omega) (by omega), Tryz.elem150, Tryz.size59]
  simp only [Result.andThen, sliced, Int.toNat_natCast]
  split <;> simp [*, add_flat]
theorem slice_lo (g n c lo : Nat) (h1 : lo ≤ n) :
    ∃ o, (lo < c → o = lo) ∧ ∀ wx, (Instr.sliceAt 150 (.slice (some ⟨g, 0, none⟩) n c) (some (.int .i64 lo)) none none).run Tryz.prog wx = .ok (.slice (some ⟨g, o, none⟩) (n - lo) (c - lo)) wx := by
  have ht : Tryz.prog.underlying 150 = some (.slice (Tryz.prog.elem 150)) := by rw [Tryz.elem150]; exact Tryz.underlying150
  refine ⟨if c = lo then 0 else lo, fun h => by rw [if_neg (by omega)], fun wx => ?_⟩
  rw [run_sliceAt_slice _ _ _ _ _ _ ht, run_slice_l (P := Tryz.prog) wx 150 _ n c ht .i64 lo (by omega) (by omega), Tryz.elem150, Tryz.size59]
  simp only [Result.andThen, sliced, Int.toNat_natCast]
  split <;> simp [*, add_flat]
theorem slice_hi (g n c hi : Nat) (h1 : hi ≤ c) :
    ∀ wx, (Instr.sliceAt 150 (.slice (some ⟨g, 0, none⟩) n c) none (some (.int .i64 hi)) none).run Tryz.prog wx = .ok (.slice (some ⟨g, 0, none⟩) hi c) wx := by
  have ht : Tryz.prog.underlying 150 = some (.slice (Tryz.prog.elem 150)) := by rw [Tryz.elem150]; exact Tryz.underlying150
  intro wx
  rw [run_sliceAt_slice _ _ _ _ _ _ ht, run_slice_h (P := Tryz.prog) wx 150 _ n c ht .i64 hi (by omega) (by omega), Tryz.elem150, Tryz.size59]
  simp [Result.andThen, sliced, add_flat]
theorem cur_set {w : World} {g : Nat} {cur : List Value} (h : Bk w g cur) (o : Nat) (v : Value) : Bk (w.setCell ⟨g, o, none⟩ v) g (cur.set o v) := by
  have h' : w.heap[g]? = some (.cells cur.toArray 106 (0, 0)) := h
  have hlt : g < w.heap.size := (Array.getElem?_eq_some_iff.1 h').1
  have hv : w.heap[g] = .cells cur.toArray 106 (0, 0) := (Array.getElem?_eq_some_iff.1 h').2
  show (w.setCell ⟨g, o, none⟩ v).heap[g]? = _
  simp [World.setCell, Array.getElem?_modify, h']
theorem splice_set (cur : List Value) (o : Nat) (v : Value) (vs : List Value) (h : o + (vs.length + 1) ≤ cur.length) : splice (cur.set o v) (o + 1) vs = splice cur o (v :: vs) := by
  unfold splice
  rw [List.length_cons, List.take_set, List.drop_set_of_lt (by omega), show o + 1 + vs.length = o + (vs.length + 1) by omega]
  have : (cur.take (o + 1)).set o v = cur.take o ++ [v] := by
    rw [List.take_add_one, List.getElem?_eq_getElem (by omega), Option.toList_some, List.set_append_right _ _ (by rw [List.length_take]; omega)]
    rw [List.length_take, Nat.min_eq_left (by omega), Nat.sub_self]; rfl
  rw [this, List.append_assoc]; rfl
theorem bk_cells {g : Nat} : ∀ (vs : List Value) (o : Nat) (w : World) (cur : List Value), Bk w g cur → o + vs.length ≤ cur.length → Bk (w.setCells g o vs) g (splice cur o vs) ∧ w.grownBy (w.setCells g o vs) (some g)
  | [], o, w, cur, h, hl => ⟨by simpa [splice, World.setCells] using h, grown_refl _ _⟩
  | v :: vs, o, w, cur, h, hl => by
    have h1 := bk_cells vs (o + 1) (w.setCell ⟨g, o, none⟩ v) (cur.set o v) (cur_set h o v) (by simp at hl ⊢; omega)
    rw [splice_set cur o v vs (by simpa using hl)] at h1
    exact ⟨h1.1, grown_trans (grown_setCell w g o v) h1.2⟩
/-- clear(d), d in block g. -/
theorem clear_in {w : World} {ops : Array Oper} {rest : List Oper} {o : Oper} {ac : Act} {Q : Exit → Act → World → Prop} (hgd : o.guard = none) (d : Operand) (ho : o.op = .call { callee := .builtin .clear, args := #[d], argTypes := #[150] })
    {g off dLen dCap : Nat} (hd : ac.eval d = .slice (some ⟨g, off, none⟩) dLen dCap) (cur : List Value) (hB : Bk w g cur) (hfit : off + dLen ≤ cur.length)
    (h : ∀ w', Hid (Bk w' g (splice cur off (List.replicate dLen (.pointer none)))) → Hid (w.grownBy w' (some g)) → wpList Tryz.prog ops Q rest (ac.put o.dst (.tuple #[])) w') : wpList Tryz.prog ops Q (o :: rest) ac w := by
  by_cases h0 : dLen = 0
  · subst h0
    have hr : ∀ ty, (Builtin.clear_ #[150] ty #[.slice (some ⟨g, off, none⟩) 0 dCap]).run Tryz.prog w = .ok (.tuple #[]) w := by
      intro ty
      simp [Builtin.clear_, run_underlying Tryz.underlying150]
    refine wpList_plain hgd fun K hK => ?_
    unfold Oper.wp
    simp [execOp, ho, resolve, invoke, builtin, hd, hr, Result.andThen]
    exact hK _ _ (h w (by show Bk _ _ _; simpa [splice] using hB) (grown_refl _ _))
  · have hz : ∀ w, (zeroValue 106).run Tryz.prog w = .ok (.pointer none) w := fun w => by go_simp
    have hr := fun ty => Lib.run_clear_slice (P := Tryz.prog) w 150 106 ty (.pointer none) Tryz.underlying150 hz rfl rfl g off dLen dCap (by omega)
      (fun j hj => by rw [hB.cell, List.getElem?_eq_getElem (by omega)]; rfl) (fun j hj => hB.frozen _)
    have hb := bk_cells (List.replicate dLen (.pointer none)) off w cur hB (by simpa using hfit)
    refine wpList_plain hgd fun K hK => ?_
    unfold Oper.wp
    simp [execOp, ho, resolve, invoke, builtin, hd, hr, Result.andThen]
    exact hK _ _ (h _ hb.1 hb.2)
theorem pcells_len (l : List Nat) : (pcells l).length = l.length := List.length_map ..
theorem pcells_take (l : List Nat) (n : Nat) : (pcells l).take n = pcells (l.take n) := (List.map_take ..).symm
theorem pcells_drop (l : List Nat) (n : Nat) : (pcells l).drop n = pcells (l.drop n) := (List.map_drop ..).symm
theorem of_take {cur L : List Value} {n : Nat} (h : cur.take n = L) (j : Nat) (hj : j < n) : cur[j]? = L[j]? := by rw [← h, List.getElem?_take, if_pos hj]
theorem cell_of {w : World} {g : Nat} {cur : List Value} {l : List Nat} {n : Nat} (hB : Bk w g cur) (ht : cur.take n = pcells l) (i : Nat) (hl : l.length ≤ n) : ∀ j v, (pcells (l.drop i))[j]? = some v → w.cell? ((⟨g, i, none⟩ : Addr).add j) = some v := by
  intro j v hv
  rw [add_flat, hB.cell]
  have hj : i + j < l.length := by
    rw [← pcells_drop, List.getElem?_drop] at hv
    have := (List.getElem?_eq_some_iff.1 hv).1
    rwa [pcells_len] at this
  rw [of_take ht _ (by omega)]
  rw [← pcells_drop, List.getElem?_drop] at hv
  exact hv
theorem run_append_in (w : World) (g n c : Nat) (cur : List Value) (hB : Bk w g cur) (hc : cur.length = c) (ad : Addr) (m xc : Nat) (cs : List Value) (hm : cs.length = m) (hsrc : ∀ j v, cs[j]? = some v → w.cell? (ad.add j) = some v) (h1 : ∀ v ∈ cs, v.oneCell' = true) (hroom : n + m ≤ c) :
    ∃ w', (∀ ty, (Builtin.append_ #[150, 150] ty #[.slice (some ⟨g, 0, none⟩) n c, .slice (some ad) m xc]).run Tryz.prog w = .ok (.slice (some ⟨g, 0, none⟩) (n + m) c) w') ∧ Bk w' g (splice cur n cs) ∧ w.grownBy w' (some g) := by
  obtain ⟨i0, hi, hz0, hz1, hz2⟩ := info_parts Tryz.infoT
  have hb := bk_cells cs n w cur hB (by omega)
  refine ⟨_, fun ty => ?_, hb.1, hb.2⟩
  have hrun := run_append_room_cells (P := Tryz.prog) w 150 ty 106 i0 Tryz.underlying150 hi g 0 n c ad m xc cs (by rw [hz1]; omega) hsrc h1 hroom
    (fun j hj => by rw [hB.cell, hz1, List.getElem?_eq_getElem (by omega)]; rfl) (fun j hj => hB.frozen _)
  rw [hrun, hz1, Nat.zero_add, Nat.mul_one]
theorem step_append_in {w : World} {ops : Array Oper} {o : Oper} {ac : Act} {K : Act → World → Prop} {Q : Exit → Act → World → Prop} {E : Prop} (hgd : o.guard = none) (s x : Operand) (ho : o.op = .call { callee := .builtin .append, args := #[s, x], argTypes := #[150, 150] })
    {g n c : Nat} {ad : Addr} {m xc : Nat} (hs : ac.eval s = .slice (some ⟨g, 0, none⟩) n c) (hx : ac.eval x = .slice (some ad) m xc) (cur : List Value) (hB : Bk w g cur) (hc : cur.length = c) (cs : List Value) (hm : cs.length = m)
    (hsrc : ∀ j v, cs[j]? = some v → w.cell? (ad.add j) = some v) (h1 : ∀ v ∈ cs, v.oneCell' = true) (hroom : n + m ≤ c)
    (h : ∀ w', Hid (Bk w' g (splice cur n cs)) → Hid (w.grownBy w' (some g)) → K (ac.put o.dst (.slice (some ⟨g, 0, none⟩) (n + m) c)) w') : if Region.wanted o (yielded ops ac.tmps) = true then Oper.wp Tryz.prog o ac w K Q else E := by
  have hw : Region.wanted o (yielded ops ac.tmps) = true := by simp [Region.wanted, hgd]
  rw [if_pos hw]
  obtain ⟨w', hr, h2, h3⟩ := run_append_in w g n c cur hB hc ad m xc cs hm hsrc h1 hroom
  unfold Oper.wp
  simp [execOp, ho, resolve, invoke, builtin, hs, hx, hr, Result.andThen]
  exact h w' h2 h3
theorem take_splice_at (cur cs : List Value) (i : Nat) (h : i + cs.length ≤ cur.length) : (splice cur i cs).take (i + cs.length) = cur.take i ++ cs := by
  unfold splice
  rw [← List.append_assoc, List.take_append_of_le_length (by rw [List.length_append, List.length_take]; omega), List.take_of_length_le (by rw [List.length_append, List.length_take]; omega)]
theorem take_splice_low (cur cs : List Value) (i k : Nat) (h : k ≤ i) (hi : i ≤ cur.length) : (splice cur i cs).take k = cur.take k := by
  unfold splice
  rw [List.take_append_of_le_length (by rw [List.length_take]; omega), List.take_take, Nat.min_eq_left h]
/-- s[lo:hi:max]. -/
theorem slice_lhm (a : Option Addr) (n c lo hi mx : Nat) (h1 : lo ≤ hi) (h2 : hi ≤ mx) (h3 : mx ≤ c) :
    ∃ a', ∀ wx, (Instr.sliceAt 150 (.slice a n c) (some (.int .i64 lo)) (some (.int .i64 hi)) (some (.int .i64 mx))).run Tryz.prog wx = .ok (.slice a' (hi - lo) (mx - lo)) wx := by
  have ht : Tryz.prog.underlying 150 = some (.slice (Tryz.prog.elem 150)) := by rw [Tryz.elem150]; exact Tryz.underlying150
  refine ⟨if mx = lo then a else a.map (·.add (lo * 1)), fun wx => ?_⟩
  rw [run_sliceAt_slice _ _ _ _ _ _ ht, run_slice_lhm (P := Tryz.prog) wx 150 _ n c ht .i64 .i64 .i64 lo hi mx (by omega) (by omega) (by omega) (by omega), Tryz.elem150, Tryz.size59]
  simp only [Result.andThen, sliced, Int.toNat_natCast]
theorem nodup_replace {xs ys : List Nat} {b b' : Nat} (h : (xs ++ b :: ys).Nodup) (h1 : b' ∉ xs) (h2 : b' ∉ ys) : (xs ++ b' :: ys).Nodup := by
  rw [List.nodup_append, List.nodup_cons] at h ⊢
  obtain ⟨k1, ⟨k2, k3⟩, k4⟩ := h
  refine ⟨k1, ⟨h2, k3⟩, fun a ha c hc => ?_⟩
  rcases List.mem_cons.1 hc with rfl | hc
  · rintro rfl; exact h1 ha
  · exact k4 a ha c (List.mem_cons_of_mem _ hc)
theorem fp_parts {f : Lf} {pre post : List Tb} {t : Tb} (e : f.ts = pre ++ t :: post) : f.fp = (f.a :: f.tb :: tsFp pre ++ [t.p]) ++ t.b :: tsFp post := by
  unfold Lf.fp
  rw [e, tsFp_append, tsFp_cons]
  simp
/-- What holds of another table's blocks. -/
theorem fp_apart {f : Lf} {pre post : List Tb} {t : Tb} (hn : f.fp.Nodup) (e : f.ts = pre ++ t :: post) : f.a ∉ [t.p, t.b] ∧ f.tb ∉ [t.p, t.b] ∧ (∀ u ∈ pre, u.p ∉ [t.p, t.b] ∧ u.b ∉ [t.p, t.b]) ∧ (∀ u ∈ post, u.p ∉ [t.p, t.b] ∧ u.b ∉ [t.p, t.b]) := by
  unfold Lf.fp at hn
  rw [e, tsFp_append, tsFp_cons, List.nodup_cons, List.nodup_cons, List.nodup_append, List.nodup_cons, List.nodup_cons] at hn
  obtain ⟨h1, h2, h3, ⟨h4, h5, h6⟩, h7⟩ := hn
  simp only [List.mem_cons, List.mem_append, not_or] at h1 h2 h4
  refine ⟨?_, ?_, ?_, ?_⟩
  · simp only [List.mem_cons, List.not_mem_nil, or_false, not_or]; exact ⟨h1.2.2.1, h1.2.2.2.1⟩
  · simp only [List.mem_cons, List.not_mem_nil, or_false, not_or]; exact ⟨h2.2.1, h2.2.2.1⟩
  · intro u hu
    have hm := mem_tsFp hu
    simp only [List.mem_cons, List.not_mem_nil, or_false, not_or]
    exact ⟨⟨h7 _ hm.1 _ (by simp), h7 _ hm.1 _ (by simp)⟩, h7 _ hm.2 _ (by simp), h7 _ hm.2 _ (by simp)⟩
  · intro u hu
    have hm := mem_tsFp hu
    simp only [List.mem_cons, List.not_mem_nil, or_false, not_or]
    exact ⟨⟨fun e => h4.2 (e ▸ hm.1), fun e => h5 (e ▸ hm.1)⟩, fun e => h4.2 (e ▸ hm.2), fun e => h5 (e ▸ hm.2)⟩
theorem Leaf.turn {w w' : World} {B x : Nat} {f : Lf} {pre post : List Tb} {t : Tb} {b' G' : Nat} {z' : List Cl} (h : Leaf w B x f) (e : f.ts = pre ++ t :: post) (hs : Stay w w' [t.p, t.b]) (hT : Tab w' B t.p b' x G' z') (hb : b' = t.b ∨ w.heap.size ≤ b')
    (hk : (keysOf (tsEs (pre ++ ⟨t.p, b', G', z'⟩ :: post))).Nodup) :
    Leaf w' B x { f with ts := pre ++ ⟨t.p, b', G', z'⟩ :: post } ∧ (∀ j ∈ ({ f with ts := pre ++ ⟨t.p, b', G', z'⟩ :: post } : Lf).fp, j ∈ f.fp ∨ w.heap.size ≤ j) ∧ Stay w w' f.fp := by
  obtain ⟨h1, h2, h3, h4⟩ := fp_apart h.nod e
  have hlen : (pre ++ (⟨t.p, b', G', z'⟩ : Tb) :: post).length = f.ts.length := by rw [e]; simp
  have hps : (pre ++ (⟨t.p, b', G', z'⟩ : Tb) :: post).map (·.p) = f.ts.map (·.p) := by rw [e]; simp
  have hfp : ({ f with ts := pre ++ ⟨t.p, b', G', z'⟩ :: post } : Lf).fp = (f.a :: f.tb :: tsFp pre ++ [t.p]) ++ b' :: tsFp post := fp_parts (f := { f with ts := pre ++ ⟨t.p, b', G', z'⟩ :: post }) rfl
  have hfp0 := fp_parts e
  have hlt := h.fplt
  refine ⟨⟨?_, ?_, ?_, h.low, ?_, hk, ?_⟩, ?_, hs.mono ?_⟩
  · show w'.heap[f.a]? = some (.cells #[.int .i64 (f.l : Nat), .slice (some ⟨f.tb, 0, none⟩) (pre ++ (⟨t.p, b', G', z'⟩ : Tb) :: post).length f.cap] 152 (0, 0))
    rw [hlen, hs.block f.a h.lt h1]
    exact h.blk
  · show OwnP w' B 106 (some ⟨f.tb, 0, none⟩) (pre ++ (⟨t.p, b', G', z'⟩ : Tb) :: post).length f.cap ((pre ++ (⟨t.p, b', G', z'⟩ : Tb) :: post).map (·.p))
    rw [hlen, hps]
    exact OwnR.stay h.row hs (fun k hk => by cases hk; exact h2)
  · intro u hu
    rcases List.mem_append.1 hu with hu | hu
    · exact (h.tab u (by rw [e]; simp [hu])).stay hs (h3 u hu).1 (h3 u hu).2
    · rcases List.mem_cons.1 hu with rfl | hu
      · exact hT
      · exact (h.tab u (by rw [e]; simp [hu])).stay hs (h4 u hu).1 (h4 u hu).2
  · rw [hfp]
    have hn := h.nod
    rw [hfp0] at hn hlt
    rcases hb with rfl | hb
    · exact hn
    · exact nodup_replace hn (fun hm => by have := hlt b' (List.mem_append.2 (.inl hm)); omega) (fun hm => by have := hlt b' (List.mem_append.2 (.inr (List.mem_cons_of_mem _ hm))); omega)
  · show 0 < (pre ++ (⟨t.p, b', G', z'⟩ : Tb) :: post).length
    rw [hlen]; exact h.pos
  · intro j hj
    rw [hfp] at hj
    rw [hfp0]
    rcases List.mem_append.1 hj with hj | hj
    · exact .inl (List.mem_append.2 (.inl hj))
    · rcases List.mem_cons.1 hj with rfl | hj
      · rcases hb with rfl | hb
        · exact .inl (by simp)
        · exact .inr hb
      · exact .inl (List.mem_append.2 (.inr (List.mem_cons_of_mem _ hj)))
  · intro j hj
    rw [hfp0]
    simp only [List.mem_cons, List.not_mem_nil, or_false] at hj
    rcases hj with rfl | rfl <;> simp
/-- No table of a leaf has nothing, but where it is the only one. -/
def Ful (f : Lf) : Prop := f.ts.length = 1 ∨ ∀ t ∈ f.ts, 0 < t.es.length
theorem Ful.le {f : Lf} (h : Ful f) : f.ts.length ≤ f.es.length + 1 := by
  rcases h with h | h
  · omega
  · unfold Lf.es
    generalize f.ts = ts at h
    have : ts.length ≤ (tsEs ts).length := by
      induction ts with
      | nil => exact Nat.zero_le _
      | cons t ts ih =>
        have h1 := h t (by simp)
        have h2 := ih (fun u hu => h u (List.mem_cons_of_mem _ hu))
        rw [tsEs_cons, List.length_append, List.length_cons]
        omega
    omega
/-- What becomes of a leaf: it lies in what was its own, and in new memory. -/
structure Grew (w w' : World) (B x : Nat) (f f' : Lf) : Prop where
  leaf : Leaf w' B x f'
  stay : Stay w w' f.fp
  fps : ∀ j ∈ f'.fp, j ∈ f.fp ∨ w.heap.size ≤ j
  l : f'.l = f.l
  q : f'.q = f.q
  a : f'.a = f.a
theorem Grew.first {w w0 w' : World} {B x : Nat} {f f' : Lf} (h : Grew w w' B x f f') (hb : Below w0.heap.size w0 w) : Grew w0 w' B x f f' :=
  ⟨h.leaf, (Stay.of_below hb f.fp).trans h.stay (fun _ hi => .inl hi), fun j hj => (h.fps j hj).imp id (fun k => Nat.le_trans hb.size k), h.l, h.q, h.a⟩
theorem keys_nodup_add {es es' : List En} {k : ByteArray} {v : Int} (hn : (keysOf es).Nodup) (hk : k ∉ keysOf es) (hp : es'.Perm (es ++ [(k, v)])) : (keysOf es').Nodup := by
  have h1 := (hp.map (·.1)).nodup_iff
  refine h1.2 ?_
  rw [List.map_append, List.nodup_append]
  refine ⟨hn, by simp, fun a ha b hb => ?_⟩
  simp at hb
  subst hb
  rintro rfl
  exact hk ha
theorem mid_perm {pre post : List Tb} {t t' : Tb} {e : List En} (hp : t'.es.Perm (t.es ++ e)) : (tsEs (pre ++ t' :: post)).Perm (tsEs (pre ++ t :: post) ++ e) := by
  rw [tsEs_append, tsEs_append, tsEs_cons, tsEs_cons, List.append_assoc]
  refine List.Perm.append_left _ ?_
  refine (hp.append_right _).trans ?_
  rw [List.append_assoc, List.append_assoc]
  exact List.Perm.append_left _ List.perm_append_comm
theorem not_in_tab {f : Lf} {t : Tb} {k : ByteArray} (hk : k ∉ keysOf f.es) (ht : t ∈ f.ts) : k ∉ (ents t.z).map (·.1) := fun h => hk (by
  obtain ⟨e, he, h1⟩ := List.mem_map.1 h
  exact List.mem_map.2 ⟨e, List.mem_flatMap.2 ⟨t, ht, he⟩, h1⟩)
theorem get_parts {α : Type} {l : List α} {i : Nat} {t : α} (h : l[i]? = some t) : l = l.take i ++ t :: l.drop (i + 1) := by
  obtain ⟨h1, h2⟩ := List.getElem?_eq_some_iff.1 h
  conv => lhs; rw [← List.take_append_drop i l, List.drop_eq_getElem_cons h1, h2]
/-- One table more, behind the others. -/
theorem Leaf.more {w w3 : World} {B x : Nat} {f : Lf} {g3 c3 p b G : Nat} {z : List Cl} (h : Leaf w B x f) (hg : w.grownBy w3 (some f.tb)) (hO : OwnP w3 B 106 (some ⟨g3, 0, none⟩) (f.ts.length + 1) c3 (f.ts.map (·.p) ++ [p])) (hgo : g3 = f.tb ∨ w.heap.size ≤ g3)
    (hT : Tab w B p b x G z) (hp : p ∉ f.fp) (hb : b ∉ f.fp) (hk : (keysOf (f.es ++ ents z)).Nodup) :
    Leaf (w3.setCell ⟨f.a, 1, none⟩ (.slice (some ⟨g3, 0, none⟩) (f.ts.length + 1) c3)) B x { f with tb := g3, cap := c3, ts := f.ts ++ [⟨p, b, G, z⟩] } ∧ (∀ j ∈ ({ f with tb := g3, cap := c3, ts := f.ts ++ [⟨p, b, G, z⟩] } : Lf).fp, j ∈ f.fp ∨ w.heap.size ≤ j ∨ j = p ∨ j = b) := by
  have hpb := hT.top.ne hT.row
  have hnod := h.nod
  have hlt := h.fplt
  have hpl := hT.top.lt
  have hbl := hT.row.lt
  have hfa : f.a ∈ f.fp := by simp [Lf.fp]
  have hft : f.tb ∈ f.fp := by simp [Lf.fp]
  have hfu : ∀ j ∈ tsFp f.ts, j ∈ f.fp := fun j hj => List.mem_cons_of_mem _ (List.mem_cons_of_mem _ hj)
  have hn := h.nod
  unfold Lf.fp at hn
  rw [List.nodup_cons, List.nodup_cons] at hn
  obtain ⟨n1, n2, n3⟩ := hn
  rw [List.mem_cons, not_or] at n1
  have hS : Stay w w3 [f.tb] := Stay.grown hg (fun g e => by cases e; simp)
  have hS2 : Stay w (w3.setCell ⟨f.a, 1, none⟩ (.slice (some ⟨g3, 0, none⟩) (f.ts.length + 1) c3)) [f.tb, f.a] :=
    (hS.mono (by simp)).trans Stay.set (fun i hi => .inl (by simp at hi; simp [hi]))
  have hblk3 : w3.heap[f.a]? = some (.cells #[.int .i64 (f.l : Nat), .slice (some ⟨f.tb, 0, none⟩) f.ts.length f.cap] 152 (0, 0)) := by
    rw [hS.block f.a h.lt (by simpa using n1.1)]; exact h.blk
  have ga : g3 ≠ f.a := by
    rcases hgo with rfl | hgo
    · exact fun e => n1.1 e.symm
    · have := (hlt f.a hfa).2; omega
  have gt : g3 ∉ tsFp f.ts := by
    rcases hgo with rfl | hgo
    · exact n2
    · intro hm; have := (hlt g3 (hfu _ hm)).2; omega
  have gp : g3 ≠ p ∧ g3 ≠ b := by
    rcases hgo with rfl | hgo
    · exact ⟨fun e => hp (e ▸ hft), fun e => hb (e ▸ hft)⟩
    · exact ⟨by omega, by omega⟩
  refine ⟨⟨?_, ?_, ?_, h.low, ?_, ?_, ?_⟩, ?_⟩
  · show (w3.setCell ⟨f.a, 1, none⟩ _).heap[f.a]? = some (.cells #[.int .i64 (f.l : Nat), .slice (some ⟨g3, 0, none⟩) (f.ts ++ [(⟨p, b, G, z⟩ : Tb)]).length c3] 152 (0, 0))
    rw [heap_set hblk3, List.length_append]
    rfl
  · show OwnP _ B 106 (some ⟨g3, 0, none⟩) (f.ts ++ [(⟨p, b, G, z⟩ : Tb)]).length c3 ((f.ts ++ [(⟨p, b, G, z⟩ : Tb)]).map (·.p))
    rw [List.length_append, List.map_append]
    exact OwnR.stay hO (Stay.set (q := f.a)) (fun k hk => by cases hk; simpa using ga)
  · intro u hu
    rcases List.mem_append.1 hu with hu | hu
    · have hm := mem_tsFp hu
      refine (h.tab u hu).stay hS2 ?_ ?_
      · simp only [List.mem_cons, List.not_mem_nil, or_false, not_or]
        exact ⟨fun e => n2 (e ▸ hm.1), fun e => n1.2 (e ▸ hm.1)⟩
      · simp only [List.mem_cons, List.not_mem_nil, or_false, not_or]
        exact ⟨fun e => n2 (e ▸ hm.2), fun e => n1.2 (e ▸ hm.2)⟩
    · cases List.mem_singleton.1 hu
      refine hT.stay hS2 ?_ ?_
      · simp only [List.mem_cons, List.not_mem_nil, or_false, not_or]
        exact ⟨fun e => hp (e ▸ hft), fun e => hp (e ▸ hfa)⟩
      · simp only [List.mem_cons, List.not_mem_nil, or_false, not_or]
        exact ⟨fun e => hb (e ▸ hft), fun e => hb (e ▸ hfa)⟩
  · show (f.a :: g3 :: tsFp (f.ts ++ [(⟨p, b, G, z⟩ : Tb)])).Nodup
    rw [tsFp_append, tsFp_cons]
    show (f.a :: g3 :: (tsFp f.ts ++ [p, b])).Nodup
    rw [List.nodup_cons, List.nodup_cons, List.nodup_append]
    refine ⟨?_, ?_, n3, ?_, ?_⟩
    · simp only [List.mem_cons, List.mem_append, List.not_mem_nil, or_false, not_or]
      exact ⟨fun e => ga e.symm, n1.2, fun e => hp (e ▸ hfa), fun e => hb (e ▸ hfa)⟩
    · simp only [List.mem_cons, List.mem_append, List.not_mem_nil, or_false, not_or]
      exact ⟨gt, gp.1, gp.2⟩
    · simp [hpb]
    · intro a ha c hc
      simp only [List.mem_cons, List.not_mem_nil, or_false] at hc
      rcases hc with rfl | rfl
      · rintro rfl; exact hp (hfu _ ha)
      · rintro rfl; exact hb (hfu _ ha)
  · show (keysOf (tsEs (f.ts ++ [(⟨p, b, G, z⟩ : Tb)]))).Nodup
    rw [tsEs_append, tsEs_one]
    exact hk
  · show 0 < (f.ts ++ [(⟨p, b, G, z⟩ : Tb)]).length
    rw [List.length_append]; exact Nat.lt_of_lt_of_le h.pos (Nat.le_add_right _ _)
  · intro j hj
    change j ∈ f.a :: g3 :: tsFp (f.ts ++ [(⟨p, b, G, z⟩ : Tb)]) at hj
    rw [tsFp_append, tsFp_cons] at hj
    simp only [List.mem_cons, List.mem_append] at hj
    rcases hj with rfl | rfl | hj | rfl | rfl | hj
    · exact .inl hfa
    · exact hgo.elim (fun e => .inl (e ▸ hft)) (fun e => .inr (.inl e))
    · exact .inl (hfu _ hj)
    · exact .inr (.inr (.inl rfl))
    · exact .inr (.inr (.inr rfl))
    · simp [tsFp] at hj
/-- A leaf with one key more. -/
def Added (w w' : World) (B x : Nat) (f : Lf) (k : ByteArray) (v : Int) : Prop :=
  ∃ f', Grew w w' B x f f' ∧ f'.es.Perm (f.es ++ [(k, v)]) ∧ (f.ts.length = 1 → f.es.length < 112 → f'.ts.length = 1) ∧ (Ful f → Ful f')
set_option maxRecDepth 100000 in
set_option maxHeartbeats 4000000 in
theorem add_leaf (B x : Nat) (f : Lf) (k : ByteArray) (v : Int) (w : World) (hL : Leaf w B x f) (hx : x < 18446744073709551616) (hks : k.size ≤ maxLen) (hk : k ∉ keysOf f.es) (hn : f.ts.length ≤ 10000000) (hB : B ≤ w.heap.size) :
    Calls Tryz.prog 107 #[ptr f.a, .int .u64 x, .string k, .int .u64 v] w fun e w' => e = .returned (.tuple #[]) ∧ Added w w' B x f k v := by
  have HL : Hid (Leaf w B x f) := hL
  have hc := hL.tabs
  have HK : Hid (k ∉ keysOf f.es) := hk
  have HKS : Hid (k.size ≤ maxLen) := hks
  have HX : Hid (x < 18446744073709551616) := hx
  have HBs : Hid (B ≤ w.heap.size) := hB
  generalize hm : f.ts.length = m at hc hn
  have HM : Hid (f.ts.length = m) := hm
  clear hL hm hk hks hx hB
  go_enter Tryz.func107, Tryz.ntmps107
  go_wp2
  go_loopg [9, 16] m (fun q tv iv wr => ∃ i : Nat, i + q = m ∧ iv = .int .i64 i ∧ Hid (∀ t ∈ f.ts.take i, 112 ≤ t.es.length) ∧ Hid (Below w.heap.size w wr))
  case atStart => exact ⟨0, by omega, rfl, (by simp : ∀ t ∈ f.ts.take 0, 112 ≤ t.es.length), Below.refl _ _⟩
  case round =>
    obtain ⟨i, hi, rfl, HFu, HB⟩ := hrel
    by_cases h8 : (i : Int) < m
    · obtain ⟨t, ht, htm⟩ := get_of_lt (l := f.ts) (i := i) (by have := HM.out; omega)
      have hcc := (HL.out.keep HB.out).at ht
      have HTab : Hid (Tab wr B t.p t.b x t.G t.z) := (HL.out.keep HB.out).tab t htm
      have HIn := not_in_tab HK.out htm
      by_cases hfull : 112 ≤ (ents t.z).length
      · have hP := Put_full _ _ _ _ _ _ k v _ HTab.out HKS.out HIn hfull
        have HFu1 : Hid (∀ t ∈ f.ts.take (i + 1), 112 ≤ t.es.length) := by
          show ∀ t ∈ f.ts.take (i + 1), 112 ≤ t.es.length
          rw [take_more ht]
          intro u hu
          rcases List.mem_append.1 hu with hu | hu
          · exact HFu.out u hu
          · rw [List.mem_singleton.1 hu]; exact hfull
        clear ht htm HIn hfull
        go_wp2_with fail
        refine hP.mono ?_
        rintro e w1 ⟨rfl, hb1⟩
        have HB1 := step_below HB hb1
        clear hb1 hP
        go_wp2
        go_roundg (gk - 1)
        case measure => omega
        case rel => exact ⟨i + 1, by omega, by go_num, HFu1, HB1⟩
      · have hP := Put_new _ _ _ _ _ _ k v _ HTab.out HKS.out HIn (by omega)
        have HG : Hid (f.ts = f.ts.take i ++ t :: f.ts.drop (i + 1)) := get_parts ht
        clear ht htm HIn hfull
        go_wp2_with fail
        refine hP.mono ?_
        rintro e w1 ⟨rfl, hm1, b1, G1, z1, hT1, hb1, hp1⟩
        have HR : Hid (Added w w1 B x f k v) := by
          have hpm : (tsEs (f.ts.take i ++ ⟨t.p, b1, G1, z1⟩ :: f.ts.drop (i + 1))).Perm (f.es ++ [(k, v)]) := by
            have := mid_perm (pre := f.ts.take i) (post := f.ts.drop (i + 1)) (t := t) (t' := ⟨t.p, b1, G1, z1⟩) hp1
            rw [← HG.out] at this
            exact this
          obtain ⟨k1, k2, k3⟩ := (HL.out.keep HB.out).turn HG.out (Stay.of_moves hm1) hT1 hb1 (keys_nodup_add HL.out.key HK.out hpm)
          exact ⟨_, (⟨k1, k3, k2, rfl, rfl, rfl⟩ : Grew wr w1 B x f _).first HB.out, hpm, fun h _ => by
            have := congrArg List.length HG.out
            rw [h] at this
            simp at this ⊢
            omega, fun h => .inr fun u hu => by
              rcases List.mem_append.1 hu with hu | hu
              · have := HFu.out u hu; omega
              · rcases List.mem_cons.1 hu with rfl | hu
                · have := hp1.length_eq
                  rw [List.length_append] at this
                  show 0 < (ents z1).length
                  simp at this
                  omega
                · rcases h with h | h
                  · have h9 := congrArg List.length HG.out
                    rw [h] at h9
                    have h10 : 0 < (f.ts.drop (i + 1)).length := List.length_pos_of_mem hu
                    simp at h9 h10
                    omega
                  · exact h u (by rw [HG.out]; simp [hu])⟩
        clear hm1 hT1 hb1 hp1 hP
        go_wp2
        refine bodyPost_ret (results_none rfl _ _ _) rfl ?_
        exact ⟨rfl, HR.out⟩
    · have HFu2 : Hid (∀ t ∈ f.ts, 112 ≤ t.es.length) := by
        have := HFu.out
        rw [List.take_of_length_le (by have := HM.out; omega)] at this
        exact this
      have hNew := New_tab x wr HX.out
      go_wp2_with fail
      refine hNew.mono ?_
      rintro e w1 ⟨hb1, p, b, rfl, hT1, -⟩
      have HB1 := step_below HB hb1
      have HTl : Hid (wr.heap.size ≤ p ∧ wr.heap.size ≤ b) := ⟨hT1.low, hT1.lowb⟩
      have hP := Put_new _ _ _ _ _ _ k v _ hT1 HKS.out (by rw [ents_news0]; simp) (by rw [ents_news0]; decide)
      have HT1 : Hid (Tab w1 wr.heap.size p b x 1 (news0 1)) := hT1
      have HS1 : Hid (wr.heap.size ≤ w1.heap.size) := hb1.size
      clear hb1 hT1 hNew
      go_wp2_with fail
      refine hP.mono ?_
      rintro e w2 ⟨rfl, hm2, b2, G2, z2, hT2, hb2, hp2⟩
      rw [ents_news0, List.nil_append] at hp2
      have HP2 : Hid ((ents z2).Perm [(k, v)]) := hp2
      have HBw : Hid (w.heap.size ≤ wr.heap.size) := HB.out.size
      have HT2 : Hid (Tab w2 B p b2 x G2 z2) := hT2.lower (Nat.le_trans HBs.out HBw.out)
      have HTl2 : Hid (wr.heap.size ≤ p ∧ wr.heap.size ≤ b2) := ⟨HTl.out.1, by have := HTl.out.2; have := HS1.out; rcases hb2 with rfl | h <;> omega⟩
      have HB2 : Hid (Below w.heap.size w w2) := HB1.out.trans ((Stay.of_moves hm2).below (by intro i hi; simp at hi; have := HTl.out; have := HBw.out; rcases hi with rfl | rfl <;> omega) HB1.out.size)
      clear hm2 hT2 hb2 hp2 hP HT1
      obtain ⟨w3, hw3⟩ : ∃ w3, w2.alloc (.cells #[ptr p] 106) = w3 := ⟨_, rfl⟩
      obtain ⟨g, hg⟩ : ∃ g, w2.heap.size = g := ⟨_, rfl⟩
      have HB3' : Hid (Below w2.heap.size w2 w3) := by show Below _ _ _; rw [← hw3]; exact alloc_below w2 _
      have hc3 : w3.cell? ⟨g, 0, none⟩ = some (ptr p) := by rw [← hw3, ← hg]; simp only [World.cell?, heap_alloc_new]; rfl
      have HB3 := step_below HB2 HB3'.out
      have HT3 : Hid (Tab w3 B p b2 x G2 z2) := HT2.out.keep HB3'.out
      have HL3 : Hid (Leaf w3 B x f) := HL.out.keep HB3.out
      have hL3 := HL3.out.tabs
      rw [HM.out] at hL3
      have hL2 := (HL.out.keep HB2.out).tabs
      rw [HM.out] at hL2
      have HO3 : Hid (OwnP w3 B 106 (some ⟨f.tb, 0, none⟩) m f.cap (f.ts.map (·.p))) := by have := HL3.out.row; rw [HM.out] at this; exact this
      have HNm : Hid (m ≤ 10000000) := hn
      clear HB3' HTl HFu HT2 hc
      go_wp2_with (at_builtin; refine append_r rfl (.tmp 36) (.tmp 38) rfl eltT B rfl HO3.out [ptr p] rfl rfl (by intro j u hu; cases j with | zero => (rw [add_flat, hc3]; exact hu) | succ j => simp at hu) (by simp [Value.oneCell']) (by decide) (by have := HNm.out; omega) (by have := HNm.out; unfold maxLen; omega) (Nat.le_trans HBs.out HB3.out.size) ?_; intro a4 n4 c4 w4 hn4 HO4 HG4 HW4; have hc4 : w4.cell? ⟨f.a, 1, none⟩ = some (.slice (some ⟨f.tb, 0, none⟩) m f.cap) := (by rw [World.cell?_of_block (HG4.out.block f.a HL3.out.lt (by intro e; have h := HL3.out.nod; unfold Lf.fp at h; simp at e; simp [e] at h))]; exact hL3); have hf4 : w4.frozen? ⟨f.a, 1, none⟩ = false := (by have := HG4.out.block f.a HL3.out.lt (by intro e; have h := HL3.out.nod; unfold Lf.fp at h; simp at e; simp [e] at h); rw [HL3.out.blk] at this; simp [World.frozen?, this]))
      go_end0
      refine ⟨rfl, ?_⟩
      have hO4 := HO4.out
      have hG4 := HG4.out
      have hW4 := HW4.out
      obtain ⟨g4, rfl, -⟩ := OwnR.at hO4 (by omega)
      have hlt := (HL.out.keep HB.out).fplt
      have hgo : g4 = f.tb ∨ w3.heap.size ≤ g4 := by
        rcases hW4 with h | h
        · simp at h; exact .inl h
        · simp at h; exact .inr (by omega)
      have hpm : (f.es ++ ents z2).Perm (f.es ++ [(k, v)]) := List.Perm.append_left _ HP2.out
      have hp : p ∉ f.fp := fun h => by have := (hlt p h).2; have := HTl2.out.1; omega
      have hb : b2 ∉ f.fp := fun h => by have := (hlt b2 h).2; have := HTl2.out.2; omega
      rw [hn4, ← HM.out] at hO4
      rw [← HM.out]
      obtain ⟨k1, k2⟩ := HL3.out.more hG4 (by unfold OwnP; rw [pcells_append]; exact hO4) hgo HT3.out hp hb (keys_nodup_add HL.out.key HK.out hpm)
      refine ⟨_, ⟨k1, ?_, ?_, rfl, rfl, rfl⟩, ?_, ?_, ?_⟩
      · refine (Stay.of_below HB3.out f.fp).trans (M' := [f.tb, f.a]) (((Stay.grown hG4 (M := [f.tb, f.a]) (fun g e => by simp at e; simp [e]))).trans Stay.set (fun i hi => .inl (by simp at hi; simp [hi]))) (fun i hi => .inl (by simp at hi; rcases hi with rfl | rfl <;> simp [Lf.fp]))
      · intro j hj
        have h1 := HTl2.out
        have h2 := HBw.out
        have h3 := HB3.out.size
        rcases k2 j hj with h | h | rfl | rfl
        · exact .inl h
        · exact .inr (by omega)
        · exact .inr (by omega)
        · exact .inr (by omega)
      · show (tsEs (f.ts ++ [(⟨p, b2, G2, z2⟩ : Tb)])).Perm _
        rw [tsEs_append, tsEs_one]
        exact hpm
      · intro h1 h2
        obtain ⟨t, ht⟩ := List.length_eq_one_iff.1 h1
        have h3 := HFu2.out t (by simp [ht])
        have h4 : f.es = t.es := by unfold Lf.es; rw [ht, tsEs_one]
        rw [h4] at h2
        omega
      · intro _
        refine .inr fun u hu => ?_
        rcases List.mem_append.1 hu with hu | hu
        · have := HFu2.out u hu; omega
        · cases List.mem_singleton.1 hu
          have := HP2.out.length_eq
          show 0 < (ents z2).length
          simp at this
          omega
/-- One table less. -/
theorem Leaf.drop {w w3 : World} {B x : Nat} {f : Lf} {pre post : List Tb} {t : Tb} {n' c' : Nat} (h : Leaf w B x f) (e : f.ts = pre ++ t :: post) (hg : w.grownBy w3 (some f.tb)) (hO : OwnP w3 B 106 (some ⟨f.tb, 0, none⟩) n' c' ((pre ++ post).map (·.p))) (hpos : 0 < (pre ++ post).length) :
    Leaf (w3.setCell ⟨f.a, 1, none⟩ (.slice (some ⟨f.tb, 0, none⟩) n' c')) B x { f with cap := c', ts := pre ++ post } ∧ (∀ j ∈ ({ f with cap := c', ts := pre ++ post } : Lf).fp, j ∈ f.fp) := by
  have hlen : (pre ++ post).length = n' := by have := OwnP.len hO; rw [List.length_map] at this; exact this
  have hsub : ((tsFp (pre ++ post)).Sublist (tsFp f.ts)) := by
    rw [e, tsFp_append, tsFp_append, tsFp_cons]
    exact List.Sublist.append_left ((List.sublist_cons_self _ _).trans (List.sublist_cons_self _ _)) _
  have hes : (tsEs (pre ++ post)).Sublist f.es := by
    unfold Lf.es
    rw [e, tsEs_append, tsEs_append, tsEs_cons]
    exact List.Sublist.append_left (List.sublist_append_right _ _) _
  have hn := h.nod
  unfold Lf.fp at hn
  rw [List.nodup_cons, List.nodup_cons] at hn
  obtain ⟨n1, n2, n3⟩ := hn
  rw [List.mem_cons, not_or] at n1
  have hS : Stay w w3 [f.tb] := Stay.grown hg (fun g e => by cases e; simp)
  have hS2 : Stay w (w3.setCell ⟨f.a, 1, none⟩ (.slice (some ⟨f.tb, 0, none⟩) n' c')) [f.tb, f.a] :=
    (hS.mono (by simp)).trans Stay.set (fun i hi => .inl (by simp at hi; simp [hi]))
  have hblk3 : w3.heap[f.a]? = some (.cells #[.int .i64 (f.l : Nat), .slice (some ⟨f.tb, 0, none⟩) f.ts.length f.cap] 152 (0, 0)) := by
    rw [hS.block f.a h.lt (by simpa using n1.1)]; exact h.blk
  refine ⟨⟨?_, ?_, ?_, h.low, ?_, ?_, hpos⟩, ?_⟩
  · show (w3.setCell ⟨f.a, 1, none⟩ _).heap[f.a]? = some (.cells #[.int .i64 (f.l : Nat), .slice (some ⟨f.tb, 0, none⟩) (pre ++ post).length c'] 152 (0, 0))
    rw [heap_set hblk3, hlen]
    rfl
  · show OwnP _ B 106 (some ⟨f.tb, 0, none⟩) (pre ++ post).length c' ((pre ++ post).map (·.p))
    rw [hlen]
    exact OwnR.stay hO (Stay.set (q := f.a)) (fun k hk => by cases hk; simpa using fun e => n1.1 e.symm)
  · intro u hu
    have hu' : u ∈ f.ts := by rw [e]; rcases List.mem_append.1 hu with h | h <;> simp [h]
    have hm := mem_tsFp hu'
    refine (h.tab u hu').stay hS2 ?_ ?_
    · simp only [List.mem_cons, List.not_mem_nil, or_false, not_or]
      exact ⟨fun e => n2 (e ▸ hm.1), fun e => n1.2 (e ▸ hm.1)⟩
    · simp only [List.mem_cons, List.not_mem_nil, or_false, not_or]
      exact ⟨fun e => n2 (e ▸ hm.2), fun e => n1.2 (e ▸ hm.2)⟩
  · exact ((hsub.cons_cons f.tb).cons_cons f.a).nodup h.nod
  · exact (hes.map (·.1)).nodup h.key
  · intro j hj
    exact ((hsub.cons_cons f.tb).cons_cons f.a).mem hj
/-- A leaf with one key less. -/
def Removed (w w' : World) (B x : Nat) (f : Lf) (k : ByteArray) : Prop :=
  ∃ f', Grew w w' B x f f' ∧ (∃ u, f.es.Perm ((k, u) :: f'.es)) ∧ (f.ts.length = 1 → f'.ts.length = 1) ∧ (Ful f → Ful f')
/-- What is in a dict: its depth; where its row of places lies, and whither they lead; its leaves. -/
structure Dg where
  g : Nat
  pb : Nat
  cap : Nat
  pl : List Nat
  L : List Lf
def shL (L : List Lf) : List Pt := L.map Lf.pt
def esL (L : List Lf) : List En := L.flatMap Lf.es
def fpL (L : List Lf) : List Nat := L.flatMap Lf.fp
def Dg.sh (D : Dg) : List Pt := shL D.L
def Dg.es (D : Dg) : List En := esL D.L
/-- A dict in memory. -/
structure Dct (w : World) (B d x : Nat) (D : Dg) : Prop where
  blk : w.heap[d]? = some (.cells #[.int .u64 (x : Nat), .int .i64 (D.es.length : Nat), .slice (some ⟨D.pb, 0, none⟩) (2 ^ D.g) D.cap] 110 (0, 0))
  row : OwnP w B 104 (some ⟨D.pb, 0, none⟩) (2 ^ D.g) D.cap D.pl
  leaf : ∀ f ∈ D.L, Leaf w B x f
  shp : Shp D.g D.sh
  dir : ∀ f ∈ D.L, ∀ i, i < 2 ^ D.g → isIn f.pt i = true → D.pl[i]? = some f.a
  own : ∀ f ∈ D.L, ∀ e ∈ f.es, isIn f.pt (hsh x e.1) = true
  one : ∀ f ∈ D.L, f.l < 16 → f.ts.length = 1
  ful : ∀ f ∈ D.L, Ful f
  nod : (d :: D.pb :: fpL D.L).Nodup
  low : B ≤ d
  seed : x < 18446744073709551616
  le : D.es.length ≤ 1000000
theorem esL_append (a b : List Lf) : esL (a ++ b) = esL a ++ esL b := List.flatMap_append ..
theorem esL_cons (f : Lf) (b : List Lf) : esL (f :: b) = f.es ++ esL b := List.flatMap_cons ..
theorem esL_one (f : Lf) : esL [f] = f.es := by rw [esL_cons]; exact List.append_nil _
theorem fpL_append (a b : List Lf) : fpL (a ++ b) = fpL a ++ fpL b := List.flatMap_append ..
theorem fpL_cons (f : Lf) (b : List Lf) : fpL (f :: b) = f.fp ++ fpL b := List.flatMap_cons ..
theorem mem_fpL {L : List Lf} {f : Lf} (h : f ∈ L) {j : Nat} (hj : j ∈ f.fp) : j ∈ fpL L := List.mem_flatMap.2 ⟨f, h, hj⟩
theorem mem_esL {L : List Lf} {f : Lf} (h : f ∈ L) {e : En} (he : e ∈ f.es) : e ∈ esL L := List.mem_flatMap.2 ⟨f, h, he⟩
theorem Dct.lt {w : World} {B d x : Nat} {D : Dg} (h : Dct w B d x D) : d < w.heap.size := (Array.getElem?_eq_some_iff.1 h.blk).1
theorem Dct.fplt {w : World} {B d x : Nat} {D : Dg} (h : Dct w B d x D) : ∀ k ∈ d :: D.pb :: fpL D.L, B ≤ k ∧ k < w.heap.size := by
  intro k hk
  rcases List.mem_cons.1 hk with rfl | hk
  · exact ⟨h.low, h.lt⟩
  rcases List.mem_cons.1 hk with rfl | hk
  · have := OwnR.lt h.row (k := D.pb) rfl
    exact ⟨this.1, this.2.1⟩
  · obtain ⟨f, hf, hk⟩ := List.mem_flatMap.1 hk
    exact (h.leaf f hf).fplt k hk
theorem Dct.stay {w w' : World} {B d x : Nat} {D : Dg} {M : List Nat} (h : Dct w B d x D) (hs : Stay w w' M) (hd : ∀ k ∈ d :: D.pb :: fpL D.L, k ∉ M) : Dct w' B d x D :=
  ⟨by rw [hs.block d h.lt (hd _ (by simp))]; exact h.blk, OwnR.stay h.row hs (fun k hk => hd k (by cases hk; simp)), fun f hf => (h.leaf f hf).stay hs (fun k hk => hd k (List.mem_cons_of_mem _ (List.mem_cons_of_mem _ (mem_fpL hf hk)))), h.shp, h.dir, h.own, h.one, h.ful, h.nod, h.low, h.seed, h.le⟩
theorem Dct.keep {w w' : World} {B d x : Nat} {D : Dg} (h : Dct w B d x D) (hb : Below w.heap.size w w') : Dct w' B d x D := h.stay (Stay.of_below hb []) (fun _ _ => by simp)
theorem Dct.cseed {w : World} {B d x : Nat} {D : Dg} (h : Dct w B d x D) : w.cell? ⟨d, 0, none⟩ = some (.int .u64 (x : Nat)) := by simp [World.cell?, h.blk]
theorem Dct.ccnt {w : World} {B d x : Nat} {D : Dg} (h : Dct w B d x D) : w.cell? ⟨d, 1, none⟩ = some (.int .i64 (D.es.length : Nat)) := by simp [World.cell?, h.blk]
theorem Dct.cpl {w : World} {B d x : Nat} {D : Dg} (h : Dct w B d x D) : w.cell? ⟨d, 2, none⟩ = some (.slice (some ⟨D.pb, 0, none⟩) (2 ^ D.g) D.cap) := by simp [World.cell?, h.blk]
theorem Dct.frozen {w : World} {B d x : Nat} {D : Dg} (h : Dct w B d x D) (o : Nat) : w.frozen? ⟨d, o, none⟩ = false := by simp [World.frozen?, h.blk]
theorem Dct.len {w : World} {B d x : Nat} {D : Dg} (h : Dct w B d x D) : D.pl.length = 2 ^ D.g := OwnP.len h.row
theorem Dct.pow {w : World} {B d x : Nat} {D : Dg} (h : Dct w B d x D) : 2 ^ D.g ≤ 65536 := pow_le_16 h.shp.le
theorem Dct.les {w : World} {B d x : Nat} {D : Dg} (h : Dct w B d x D) {f : Lf} (hf : f ∈ D.L) : f.es.length ≤ 1000000 := by
  obtain ⟨a, c, e⟩ := List.append_of_mem hf
  have h1 := h.le
  unfold Dg.es at h1
  rw [e, esL_append, esL_cons, List.length_append, List.length_append] at h1
  omega
theorem Dct.lef {w : World} {B d x : Nat} {D : Dg} (h : Dct w B d x D) {f : Lf} (hf : f ∈ D.L) : f.l ≤ D.g ∧ f.l ≤ 16 ∧ f.q < 2 ^ f.l := by
  have h1 := h.shp.lt f.pt (List.mem_map_of_mem hf)
  have h2 := h.shp.le
  simp only [Lf.pt] at h1
  omega
/-- The leaf of a hash, and that its keys belong nowhere else. -/
theorem Dct.parts {w : World} {B d x : Nat} {D : Dg} (h : Dct w B d x D) (hh : Nat) : ∃ a f c, D.L = a ++ f :: c ∧ isIn f.pt hh = true ∧ (∀ u ∈ a, isIn u.pt hh = false) ∧ (∀ u ∈ c, isIn u.pt hh = false) := by
  obtain ⟨sa, s, sc, e, h1, h2, h3⟩ := h.shp.parts hh
  unfold Dg.sh shL at e
  obtain ⟨a, l2, e1, rfl, e3⟩ := List.map_eq_append_iff.1 e
  obtain ⟨f, c, rfl, rfl, rfl⟩ := List.map_eq_cons_iff.1 e3
  exact ⟨a, f, c, e1, h1, fun u hu => h2 _ (List.mem_map_of_mem hu), fun u hu => h3 _ (List.mem_map_of_mem hu)⟩
theorem Dct.place {w : World} {B d x : Nat} {D : Dg} (h : Dct w B d x D) {f : Lf} (hf : f ∈ D.L) {hh : Nat} (hi : isIn f.pt hh = true) : D.pl[hh % 2 ^ D.g]? = some f.a ∧ hh % 2 ^ D.g < 2 ^ D.g := by
  have hlt : hh % 2 ^ D.g < 2 ^ D.g := Nat.mod_lt _ (pow_pos _)
  refine ⟨h.dir f hf _ hlt ?_, hlt⟩
  rw [isIn_low (h.lef hf).1]
  exact hi
/-- A key that is there is in the leaf of its hash. -/
theorem Dct.mem {w : World} {B d x : Nat} {D : Dg} (h : Dct w B d x D) {a c : List Lf} {f : Lf} {k : ByteArray} (e : D.L = a ++ f :: c) (h2 : ∀ u ∈ a, isIn u.pt (hsh x k) = false) (h3 : ∀ u ∈ c, isIn u.pt (hsh x k) = false) {v : Int} : (k, v) ∈ D.es ↔ (k, v) ∈ f.es := by
  constructor
  · intro hm
    obtain ⟨u, hu, hm⟩ := List.mem_flatMap.1 hm
    have ho := h.own u hu _ hm
    rw [e] at hu
    rcases List.mem_append.1 hu with hu | hu
    · rw [h2 u hu] at ho; cases ho
    · rcases List.mem_cons.1 hu with rfl | hu
      · exact hm
      · rw [h3 u hu] at ho; cases ho
  · intro hm
    exact mem_esL (by rw [e]; simp) hm
theorem Dct.memk {w : World} {B d x : Nat} {D : Dg} (h : Dct w B d x D) {a c : List Lf} {f : Lf} {k : ByteArray} (e : D.L = a ++ f :: c) (h2 : ∀ u ∈ a, isIn u.pt (hsh x k) = false) (h3 : ∀ u ∈ c, isIn u.pt (hsh x k) = false) : k ∈ keysOf D.es ↔ k ∈ keysOf f.es := by
  constructor
  · intro hm
    obtain ⟨⟨k', v⟩, hm2, rfl⟩ := List.mem_map.1 hm
    exact List.mem_map.2 ⟨_, (h.mem e h2 h3).1 hm2, rfl⟩
  · intro hm
    obtain ⟨⟨k', v⟩, hm2, rfl⟩ := List.mem_map.1 hm
    exact List.mem_map.2 ⟨_, (h.mem e h2 h3).2 hm2, rfl⟩
set_option maxRecDepth 100000 in
theorem Len64_pow (g : Nat) (hg : g ≤ 16) (w : World) : Calls Tryz.prog 159 #[.int .u64 ((2 ^ g : Nat) : Int)] w fun e w' => e = .returned (.int .i64 ((g : Int) + 1)) ∧ w' = w := by
  rcases (by omega : g = 0 ∨ g = 1 ∨ g = 2 ∨ g = 3 ∨ g = 4 ∨ g = 5 ∨ g = 6 ∨ g = 7 ∨ g = 8 ∨ g = 9 ∨ g = 10 ∨ g = 11 ∨ g = 12 ∨ g = 13 ∨ g = 14 ∨ g = 15 ∨ g = 16) with rfl | rfl | rfl | rfl | rfl | rfl | rfl | rfl | rfl | rfl | rfl | rfl | rfl | rfl | rfl | rfl | rfl
  all_goals
    go_enter Tryz.func159, Tryz.ntmps159
    go_wp2
    go_ret
    exact ⟨by kernel_rfl, rfl⟩
theorem Len_pow (g : Nat) (hg : g ≤ 16) (w : World) : Calls Tryz.prog 115 #[.int .u64 ((2 ^ g : Nat) : Int)] w fun e w' => e = .returned (.int .i64 ((g : Int) + 1)) ∧ w' = w := by
  have H := fun w => Len64_pow g hg w
  generalize ((2 ^ g : Nat) : Int) = p at H
  go_enter Tryz.func115, Tryz.ntmps115
  go_wp2_with fail
  refine (H _).mono ?_
  rintro e w ⟨rfl, rfl⟩
  go_wp2
  go_ret
  exact ⟨rfl, rfl⟩
theorem Depth_any (B d x : Nat) (D : Dg) (w : World) (hD : Dct w B d x D) : Calls Tryz.prog 135 #[ptr d] w fun e w' => e = .returned (.int .i64 (D.g : Nat)) ∧ w' = w := by
  have hc := hD.cpl
  have hg := hD.shp.le
  have H := fun w => Len_pow D.g hg w
  have hp := hD.pow
  generalize D.g = g at hc hg H hp ⊢
  generalize 2 ^ g = p at hc H hp
  clear hD
  go_enter Tryz.func135, Tryz.ntmps135
  go_wp2_with fail
  refine (H _).mono ?_
  rintro e w ⟨rfl, rfl⟩
  go_wp2
  go_ret
  exact ⟨by go_num, rfl⟩
theorem leafOf_any (B d x : Nat) (D : Dg) (f : Lf) (h : Nat) (w : World) (hD : Dct w B d x D) (hf : f ∈ D.L) (hi : isIn f.pt h = true) (hh : h < 18446744073709551616) :
    Calls Tryz.prog 101 #[ptr d, .int .u64 h] w fun e w' => e = .returned (ptr f.a) ∧ Below w.heap.size w w' := by
  have HD : Hid (Dct w B d x D) := hD
  have hc := hD.cpl
  have hp := hD.pow
  obtain ⟨hpl, hlt⟩ := hD.place hf hi
  have hrow := OwnP.cell hD.row hpl
  have hg := hD.shp.le
  have HDe := fun q => Depth_any B d x D (w.drewN q) (hD.keep (below_drewN w q))
  have HLo := fun w => Low_any h D.g w hh (by omega) (by omega)
  rw [low_dep, dep_nat hg] at HLo
  generalize D.g = g at hc hg hp hlt HDe HLo hrow
  generalize h % 2 ^ g = i at hlt HLo hrow
  generalize 2 ^ g = p at hc hp hlt
  have hiz : (i : Int) < p := by omega
  clear hD hpl
  go_enter Tryz.func101, Tryz.ntmps101
  go_wp2
  go_quiet ((first | (go_at_call 135; with_reducible exact Calls.quiet_of_same (HDe _)) | (go_at_call 126; with_reducible exact Calls.quiet_of_same (HLo _))))
  go_wp2
  go_ret
  exact ⟨rfl, below_drewN _ _⟩
theorem val_one {es : List En} (hn : (keysOf es).Nodup) {k : ByteArray} {u v : Int} (h1 : (k, u) ∈ es) (h2 : (k, v) ∈ es) : u = v := by
  induction es with
  | nil => cases h1
  | cons e es ih =>
    replace hn : (e.1 :: keysOf es).Nodup := hn
    rw [List.nodup_cons] at hn
    rcases List.mem_cons.1 h1 with e1 | g1
    · subst e1
      rcases List.mem_cons.1 h2 with e2 | g2
      · exact (Prod.mk.inj e2).2.symm
      · exact absurd (List.mem_map.2 ⟨_, g2, rfl⟩) hn.1
    · rcases List.mem_cons.1 h2 with e2 | g2
      · subst e2
        exact absurd (List.mem_map.2 ⟨_, g1, rfl⟩) hn.1
      · exact ih hn.2 g1 g2
theorem Of_hsh (x : Nat) (k : ByteArray) (w : World) (hks : k.size ≤ maxLen) (hx : x < 18446744073709551616) : Calls Tryz.prog 92 #[.int .u64 x, .string k] w fun e w' => e = .returned (.int .u64 (hsh x k : Nat)) ∧ w' = w := Of_any x k w hks hx
set_option maxHeartbeats 4000000 in
theorem Get_dsome (B d x : Nat) (D : Dg) (k : ByteArray) (v : Int) (w : World) (hD : Dct w B d x D) (hks : k.size ≤ maxLen) (hk : (k, v) ∈ D.es) :
    Calls Tryz.prog 70 #[ptr d, .string k] w fun e w' => e = .returned (.tuple #[.int .u64 v, .bool true]) ∧ Below w.heap.size w w' := by
  obtain ⟨La, f, Lc, eL, hi, h2, h3⟩ := hD.parts (hsh x k)
  have hf : f ∈ D.L := by rw [eL]; simp
  have HK : Hid ((k, v) ∈ tsEs f.ts) := (hD.mem eL h2 h3).1 hk
  have HD : Hid (Dct w B d x D) := hD
  have hc := hD.cseed
  have HOf := fun w => Of_hsh x k w hks hD.seed
  have HLf := fun w hD => leafOf_any B d x D f (hsh x k) w hD hf hi (hsh_lt x k)
  have HL : Hid (Leaf w B x f) := hD.leaf f hf
  have hmx := HL.out.max
  have HKS : Hid (k.size ≤ maxLen) := hks
  generalize hm : f.ts.length = m at hmx
  have HM : Hid (f.ts.length = m) := hm
  generalize hsh x k = h at HOf HLf
  clear hD hk hks hm hi h2 h3 eL hf
  go_enter Tryz.func70, Tryz.ntmps70
  go_wp2_with fail
  refine (HOf _).mono ?_
  rintro e w ⟨rfl, rfl⟩
  go_wp2_with fail
  refine (HLf _ HD.out).mono ?_
  rintro e w1 ⟨rfl, hb1⟩
  have HB1 : Hid (Below w.heap.size w w1) := hb1
  have hc1 := (HL.out.keep hb1).tabs
  rw [HM.out] at hc1
  clear HOf HLf hb1 hc
  go_wp2
  go_loopg [7, 8, 9, 23] m (fun q tv vv bv iv wr => ∃ i : Nat, i + q = m ∧ iv = .int .i64 i ∧ Hid (k ∉ keysOf (tsEs (f.ts.take i))) ∧ Hid (Below w.heap.size w wr))
  case atStart => exact ⟨0, by omega, rfl, (by simp [tsEs] : k ∉ _), HB1⟩
  case round =>
    obtain ⟨i, hi, rfl, HNo, HB⟩ := hrel
    by_cases h8 : (i : Int) < m
    · obtain ⟨t, ht, htm⟩ := get_of_lt (l := f.ts) (i := i) (by have := HM.out; omega)
      have hcc := (HL.out.keep HB.out).at ht
      have HTab : Hid (Tab wr B t.p t.b x t.G t.z) := (HL.out.keep HB.out).tab t htm
      by_cases hin : k ∈ (ents t.z).map (·.1)
      · obtain ⟨⟨k0, v'⟩, hv, rfl⟩ := List.mem_map.1 hin
        have hvv : v' = v := val_one HL.out.key (List.mem_flatMap.2 ⟨t, htm, hv⟩) HK.out
        subst hvv
        have hG := Get_some _ _ _ _ _ _ k0 v' _ HTab.out HKS.out hv
        clear ht htm hin hv
        go_wp2_with fail
        refine hG.mono ?_
        rintro e w2 ⟨rfl, hb2⟩
        have HB2 := step_below HB hb2
        clear hb2 hG
        go_wp2
        go_ret2
        exact ⟨rfl, HB2.out⟩
      · have hG := Get_none _ _ _ _ _ _ k _ HTab.out HKS.out hin
        have HNo1 : Hid (k ∉ keysOf (tsEs (f.ts.take (i + 1)))) := by
          show k ∉ _
          rw [take_more ht, tsEs_append, keysOf_append, tsEs_one, List.mem_append]
          exact fun h => h.elim HNo.out hin
        clear ht htm hin
        go_wp2_with fail
        refine hG.mono ?_
        rintro e w2 ⟨rfl, hb2⟩
        have HB2 := step_below HB hb2
        clear hb2 hG
        go_wp2
        go_roundg (gk - 1)
        case measure => omega
        case rel => exact ⟨i + 1, by omega, by go_num, HNo1, HB2⟩
    · exact absurd (List.mem_map.2 ⟨_, HK.out, rfl⟩) (by have := HNo.out; rw [List.take_of_length_le (by have := HM.out; omega)] at this; exact this)
set_option maxHeartbeats 4000000 in
theorem Get_dnone (B d x : Nat) (D : Dg) (k : ByteArray) (w : World) (hD : Dct w B d x D) (hks : k.size ≤ maxLen) (hk : k ∉ keysOf D.es) :
    Calls Tryz.prog 70 #[ptr d, .string k] w fun e w' => e = .returned (.tuple #[.int .u64 0, .bool false]) ∧ Below w.heap.size w w' := by
  obtain ⟨La, f, Lc, eL, hi, h2, h3⟩ := hD.parts (hsh x k)
  have hf : f ∈ D.L := by rw [eL]; simp
  have HK : Hid (k ∉ keysOf f.es) := fun h => hk ((hD.memk eL h2 h3).2 h)
  have HD : Hid (Dct w B d x D) := hD
  have hc := hD.cseed
  have HOf := fun w => Of_hsh x k w hks hD.seed
  have HLf := fun w hD => leafOf_any B d x D f (hsh x k) w hD hf hi (hsh_lt x k)
  have HL : Hid (Leaf w B x f) := hD.leaf f hf
  have hmx := HL.out.max
  have HKS : Hid (k.size ≤ maxLen) := hks
  generalize hm : f.ts.length = m at hmx
  have HM : Hid (f.ts.length = m) := hm
  generalize hsh x k = h at HOf HLf
  clear hD hk hks hm hi h2 h3 eL hf
  go_enter Tryz.func70, Tryz.ntmps70
  go_wp2_with fail
  refine (HOf _).mono ?_
  rintro e w ⟨rfl, rfl⟩
  go_wp2_with fail
  refine (HLf _ HD.out).mono ?_
  rintro e w1 ⟨rfl, hb1⟩
  have HB1 : Hid (Below w.heap.size w w1) := hb1
  have hc1 := (HL.out.keep hb1).tabs
  rw [HM.out] at hc1
  clear HOf HLf hb1 hc
  go_wp2
  go_loopg [7, 8, 9, 23] m (fun q tv vv bv iv wr => ∃ i : Nat, i + q = m ∧ iv = .int .i64 i ∧ Hid (Below w.heap.size w wr))
  case atStart => exact ⟨0, by omega, rfl, HB1⟩
  case round =>
    obtain ⟨i, hi, rfl, HB⟩ := hrel
    by_cases h8 : (i : Int) < m
    · obtain ⟨t, ht, htm⟩ := get_of_lt (l := f.ts) (i := i) (by have := HM.out; omega)
      have hcc := (HL.out.keep HB.out).at ht
      have hG := Get_none _ _ _ _ _ _ k _ ((HL.out.keep HB.out).tab t htm) HKS.out (not_in_tab HK.out htm)
      clear ht htm
      go_wp2_with fail
      refine hG.mono ?_
      rintro e w2 ⟨rfl, hb2⟩
      have HB2 := step_below HB hb2
      clear hb2 hG
      go_wp2
      go_roundg (gk - 1)
      case measure => omega
      case rel => exact ⟨i + 1, by omega, by go_num, HB2⟩
    · go_wp2
      go_ret2
      exact ⟨rfl, HB.out⟩
/-- The leaves in the order of their places. -/
def ordU (L : List Lf) (n : Nat) : List Lf := (List.range n).filterMap fun i => L.find? fun f => decide (f.q = i)
theorem Dct.same {w : World} {B d x : Nat} {D : Dg} (h : Dct w B d x D) {f u : Lf} (hf : f ∈ D.L) (hu : u ∈ D.L) {i : Nat} (h1 : isIn f.pt i = true) (h2 : isIn u.pt i = true) : f = u := by
  obtain ⟨j, hj, rfl⟩ := List.getElem_of_mem hf
  obtain ⟨k, hk, rfl⟩ := List.getElem_of_mem hu
  have hl : D.sh.length = D.L.length := List.length_map ..
  have e1 : D.sh[j]'(by omega) = D.L[j].pt := by simp [Dg.sh, shL]
  have e2 : D.sh[k]'(by omega) = D.L[k].pt := by simp [Dg.sh, shL]
  have := h.shp.one (i := j) (j := k) (by omega) (by omega) (h := i) (by rw [e1]; exact h1) (by rw [e2]; exact h2)
  subst this
  rfl
theorem Dct.self {w : World} {B d x : Nat} {D : Dg} (h : Dct w B d x D) {f : Lf} (hf : f ∈ D.L) : isIn f.pt f.q = true := isIn_self (h.lef hf).2.2
theorem Dct.find {w : World} {B d x : Nat} {D : Dg} (h : Dct w B d x D) {f : Lf} (hf : f ∈ D.L) : D.L.find? (fun u => decide (u.q = f.q)) = some f := by
  have : (D.L.find? (fun u => decide (u.q = f.q))).isSome = true := by rw [List.find?_isSome]; exact ⟨f, hf, by simp⟩
  obtain ⟨u, hu⟩ := Option.isSome_iff_exists.1 this
  have h1 := List.mem_of_find?_eq_some hu
  have h2 : u.q = f.q := by simpa using List.find?_some hu
  rw [hu]
  have := h.self h1
  rw [h2] at this
  rw [h.same h1 hf this (h.self hf)]
theorem Dct.ord_perm {w : World} {B d x : Nat} {D : Dg} (h : Dct w B d x D) : (ordU D.L (2 ^ D.g)).Perm D.L := by
  have hn : D.L.Nodup := by
    have h1 := h.shp.dis
    unfold Dg.sh shL at h1
    rw [List.pairwise_map] at h1
    unfold List.Nodup
    refine List.Pairwise.imp_of_mem ?_ h1
    intro a b ha _ hab e
    subst e
    have := hab _ (h.self ha)
    rw [h.self ha] at this
    cases this
  refine (List.perm_ext_iff_of_nodup ?_ hn).2 fun f => ?_
  · unfold ordU List.Nodup
    rw [List.pairwise_filterMap]
    refine List.Pairwise.imp ?_ List.nodup_range
    intro i j hij u hu v hv e
    subst e
    have h1 : u.q = i := by simpa using List.find?_some hu
    have h2 : u.q = j := by simpa using List.find?_some hv
    exact hij (h1.symm.trans h2)
  · unfold ordU
    rw [List.mem_filterMap]
    constructor
    · rintro ⟨i, -, hi⟩
      exact List.mem_of_find?_eq_some hi
    · intro hf
      have hl := h.lef hf
      exact ⟨f.q, List.mem_range.2 (Nat.lt_of_lt_of_le hl.2.2 (Nat.pow_le_pow_right (by decide) hl.1)), h.find hf⟩
end Go.Proofs.YtmjeljldmmkcpabGreat.Zs.Dk
