/- Texts that the others stand on. -/
import Derived.Test.YtmjeljldmmkcpaaGreatProg
import Derived.WalkKit
import Derived.WalkSpells
import Derived.PlainAid
import Derived.Laws.BitsAllLaws
import Derived.Laws.IdiomStrings
import Derived.Deep.LoopGhost
import Derived.Deep.Cut
import Derived.Lib.IndexBytes
import Derived.Elder7
import Derived.Test.YtmjeljldmmkcpaaGreatK5
namespace Go.Proofs.YtmjeljldmmkcpaaGreat.Dk
def rev : Nat → Nat → Nat
 | 0, _ => 0
 | d + 1, c => 2 ^ d * (c % 2) + rev d (c / 2)
theorem rev_lt : ∀ (d c : Nat), rev d c < 2 ^ d
 | 0, _ => by simp [rev]
 | d + 1, c => by
  have h := rev_lt d (c / 2)
  have hp : 2 ^ (d + 1) = 2 * 2 ^ d := by rw [Nat.pow_succ, Nat.mul_comm]
  rw [rev, hp]
  rcases Nat.mod_two_eq_zero_or_one c with e | e <;> rw [e] <;> omega
theorem rev_zero : ∀ d, rev d 0 = 0
 | 0 => rfl
 | d + 1 => by rw [rev]; simp [rev_zero d]
theorem rev_low : ∀ (d c : Nat), rev (d + 1) c = 2 * rev d c + c / 2 ^ d % 2
 | 0, c => by simp [rev]
 | d + 1, c => by
  rw [rev, rev_low d (c / 2), rev, Nat.div_div_eq_div_mul]
  have hp : 2 ^ (d + 1) = 2 * 2 ^ d := by rw [Nat.pow_succ, Nat.mul_comm]
  rw [hp, Nat.mul_assoc]
  omega
theorem mod_succ (d c : Nat) : c % 2 ^ (d + 1) = 2 ^ d * (c / 2 ^ d % 2) + c % 2 ^ d := by
 rw [Nat.pow_succ, Nat.mod_mul, Nat.add_comm]
theorem rev_rev : ∀ (d c : Nat), rev d (rev d c) = c % 2 ^ d
 | 0, c => by simp [rev, Nat.mod_one]
 | d + 1, c => by
  rw [rev_low d c, rev, mod_succ, ← rev_rev d c]
  have h1 : (2 * rev d c + c / 2 ^ d % 2) % 2 = c / 2 ^ d % 2 := by omega
  have h2 : (2 * rev d c + c / 2 ^ d % 2) / 2 = rev d c := by omega
  rw [h1, h2]
theorem rev_mod (d c : Nat) : rev d (c % 2 ^ d) = rev d c := by
 rw [← rev_rev d c, rev_rev d (rev d c), Nat.mod_eq_of_lt (rev_lt d c)]
def nxt (d c : Nat) : Nat := rev d (rev d c + 1)
theorem nxt_lt (d c : Nat) : nxt d c < 2 ^ d := rev_lt _ _
theorem rev_nxt (d c : Nat) : rev d (nxt d c) = (rev d c + 1) % 2 ^ d := rev_rev _ _
theorem pow_pos (d : Nat) : 0 < 2 ^ d := Nat.pow_pos (by decide)
theorem nxt_last {d c : Nat} (h : rev d c + 1 = 2 ^ d) : nxt d c = 0 := by
 rw [nxt, h, ← rev_mod, Nat.mod_self, rev_zero]
theorem nxt_more {d c : Nat} (h : rev d c + 1 < 2 ^ d) : nxt d c ≠ 0 ∧ rev d (nxt d c) = rev d c + 1 := by
 have h1 := rev_nxt d c
 rw [Nat.mod_eq_of_lt h] at h1
 refine ⟨fun h2 => ?_, h1⟩
 rw [h2, rev_zero] at h1
 omega
theorem nxt_step {d c : Nat} (h : nxt d c ≠ 0) : rev d (nxt d c) = rev d c + 1 ∧ rev d c + 1 < 2 ^ d := by
 have h1 := rev_lt d c
 rcases Nat.lt_or_ge (rev d c + 1) (2 ^ d) with h2 | h2
 ·exact ⟨(nxt_more h2).2, h2⟩
 ·exact absurd (nxt_last (by omega)) h
end Go.Proofs.YtmjeljldmmkcpaaGreat.Dk
namespace Go.Proofs.YtmjeljldmmkcpaaGreat.Dk
open Go.RowKit Go.PlainAid
def lowM (h : Nat) (b : Int) : Nat := h % 2 ^ (min b.toNat 16)
theorem and_low (h k : Nat) (hh : h < 18446744073709551616) (hk : k ≤ 16) : bits .and .u64 (h : Int) ((2 ^ k - 1 : Nat) : Int) = ((h % 2 ^ k : Nat) : Int) := by
 rw [u64_and_nat h (2 ^ k - 1) hh, Nat.and_two_pow_sub_one_eq_mod]
 have : 2 ^ k ≤ 2 ^ 16 := Nat.pow_le_pow_right (by decide) hk
 omega
theorem pow_le_16 {k : Nat} (h : k ≤ 16) : 2 ^ k ≤ 65536 := Nat.pow_le_pow_right (n := 2) (j := 16) (by decide) h
theorem wrap_pow (k : Nat) (h : k ≤ 16) : IntKind.u64.wrap (2 ^ k) = ((2 ^ k : Nat) : Int) := by
 have h1 := pow_le_16 h
 have : ((2 : Int) ^ k) = ((2 ^ k : Nat) : Int) := by simp
 rw [this]
 generalize 2 ^ k = p at h1
 simp [IntKind.wrap, IntKind.signed, IntKind.bits]
 omega
theorem wrap_pred (k : Nat) (h : k ≤ 16) : IntKind.u64.wrap (((2 ^ k : Nat) : Int) - 1) = ((2 ^ k - 1 : Nat) : Int) := by
 have h1 := pow_le_16 h
 have h2 : 0 < 2 ^ k := Nat.pow_pos (by decide)
 generalize 2 ^ k = p at h1 h2
 simp [IntKind.wrap, IntKind.signed, IntKind.bits]
 omega
theorem Low_any (h : Nat) (b : Int) (w : World) (hh : h < 18446744073709551616) (hb : b < 9223372036854775808) (hb' : -9223372036854775808 ≤ b) :
  Calls Tryz.prog 127 #[.int .u64 h, .int .i64 b] w fun e w' => e = .returned (.int .u64 (lowM h b : Nat)) ∧ w' = w := by
 obtain ⟨k, hk⟩ : ∃ k, min b.toNat 16 = k := ⟨_, rfl⟩
 have h16 : k ≤ 16 := by omega
 have hL : lowM h b = h % 2 ^ k := by rw [lowM, hk]
 rw [hL]
 clear hL
 have ha := and_low h k hh h16
 have hw1 := wrap_pow k h16
 have hw2 := wrap_pred k h16
 generalize h % 2 ^ k = z at ha ⊢
 by_cases h0 : b < 0
 ·obtain rfl : k = 0 := by omega
  replace ha : bits .and .u64 (h : Int) 0 = z := ha
  clear hw1 hw2
  go_enter Tryz.func127, Tryz.ntmps127
  go_wp2
  go_ret
  exact ⟨rfl, rfl⟩
 by_cases h1 : 16 < b
 ·obtain rfl : k = 16 := by omega
  replace ha : bits .and .u64 (h : Int) 65535 = z := ha
  clear hw1 hw2
  go_enter Tryz.func127, Tryz.ntmps127
  go_wp2
  go_ret
  exact ⟨rfl, rfl⟩
 obtain rfl : b = k := by omega
 obtain ⟨p, hp⟩ : ∃ p : Int, ((2 ^ k : Nat) : Int) = p := ⟨_, rfl⟩
 obtain ⟨q, hq⟩ : ∃ q : Int, ((2 ^ k - 1 : Nat) : Int) = q := ⟨_, rfl⟩
 rw [hp] at hw1 hw2
 rw [hq] at hw2 ha
 clear hp hq
 go_enter Tryz.func127, Tryz.ntmps127
 go_wp2
 go_ret
 exact ⟨rfl, rfl⟩
def dep (d : Int) : Nat := min d.toNat 16
theorem dep_le (d : Int) : dep d ≤ 16 := Nat.min_le_right _ _
theorem dep_nat {k : Nat} (h : k ≤ 16) : dep (k : Int) = k := by unfold dep; omega
theorem dep_cases (d : Int) : (d < 0 ∧ dep d = 0) ∨ (16 < d ∧ dep d = 16) ∨ (0 ≤ d ∧ d ≤ 16 ∧ d = (dep d : Nat)) := by unfold dep; omega
theorem clamp_any (d : Int) (w : World) (h0 : -9223372036854775808 ≤ d) (h1 : d ≤ 9223372036854775807) :
  Calls Tryz.prog 158 #[.int .i64 d] w fun e w' => e = .returned (.int .i64 (dep d : Nat)) ∧ w' = w := by
 obtain ⟨z, hz⟩ : ∃ z : Int, ((dep d : Nat) : Int) = z := ⟨_, rfl⟩
 rw [hz]
 rcases dep_cases d with ⟨h, e⟩ | ⟨h, e⟩ | ⟨h, h2, e⟩
 ·obtain rfl : z = 0 := by omega
  clear hz e
  go_enter Tryz.func158, Tryz.ntmps158
  go_wp2
  go_ret
  exact ⟨rfl, rfl⟩
 ·obtain rfl : z = 16 := by omega
  clear hz e
  go_enter Tryz.func158, Tryz.ntmps158
  go_wp2
  go_ret
  exact ⟨rfl, rfl⟩
 ·obtain rfl : z = d := by omega
  clear hz e
  go_enter Tryz.func158, Tryz.ntmps158
  go_wp2
  go_ret
  exact ⟨rfl, rfl⟩
theorem or_bit (t b : Nat) (hb : b < 2) : 2 * t ||| b = 2 * t + b := (Nat.two_pow_add_eq_or_of_lt (i := 1) (by omega) t).symm
theorem wrap_two (t : Nat) (ht : t < 65536) : IntKind.u64.wrap ((t : Int) * 2) = ((2 * t : Nat) : Int) := by
 simp [IntKind.wrap, IntKind.signed, IntKind.bits]
 omega
theorem step_bit (t n : Nat) (ht : t < 65536) (hn : n < 18446744073709551616) :
  bits .or .u64 (IntKind.u64.wrap ((t : Int) * 2)) (bits .and .u64 (n : Int) 1) = ((2 * t + n % 2 : Nat) : Int) := by
 have h1 : bits .and .u64 (n : Int) 1 = ((n % 2 : Nat) : Int) := by
  have := u64_and_nat n 1 hn (by decide)
  rw [Nat.and_one_is_mod] at this
  exact this
 rw [h1, wrap_two t ht, u64_or_nat _ _ (by omega) (by omega), or_bit t _ (by omega)]
theorem rev_step {g t n R : Nat} (h : 2 ^ (g + 1) * t + rev (g + 1) n = R) : 2 ^ g * (2 * t + n % 2) + rev g (n / 2) = R := by
 rw [← h, rev, Nat.pow_succ, Nat.mul_add, Nat.mul_assoc, Nat.add_assoc]
theorem acc_lt {g t n R d : Nat} (h : 2 ^ g * t + rev g n = R) (hR : R < 2 ^ d) (hd : 2 ^ d ≤ 65536) : t < 65536 := by
 have := Nat.mul_le_mul_right t (pow_pos g)
 omega
theorem turn_any (c d : Nat) (w : World) (hc : c < 18446744073709551616) (hd : d ≤ 16) :
  Calls Tryz.prog 159 #[.int .u64 c, .int .i64 d] w fun e w' => e = .returned (.int .u64 (rev d c : Nat)) ∧ w' = w := by
 have HD : Hid (2 ^ d ≤ 65536) := pow_le_16 hd
 have HR : Hid (rev d c < 2 ^ d) := rev_lt d c
 obtain ⟨R, hR⟩ : ∃ R, rev d c = R := ⟨_, rfl⟩
 rw [hR] at HR ⊢
 have H0 : Hid (2 ^ d * 0 + rev d c = R) := by show _ = _; omega
 clear hR
 go_enter Tryz.func159, Tryz.ntmps159
 go_wp2
 go_loopg [0, 5, 7] d (fun g nv tv iv wr => w = wr ∧ ∃ k n t : Nat, k + g = d ∧ nv = .int .u64 n ∧ tv = .int .u64 t ∧ iv = .int .i64 k ∧ n < 18446744073709551616 ∧ Hid (2 ^ g * t + rev g n = R))
 case atStart => exact ⟨rfl, 0, c, 0, by omega, rfl, rfl, rfl, hc, H0⟩
 case round =>
  obtain ⟨rfl, k, n, t, hk, rfl, rfl, rfl, hn, H⟩ := hrel
  clear H0
  by_cases hlt : k < d
  ·obtain ⟨g, rfl⟩ : ∃ g, gk = g + 1 := ⟨gk - 1, by omega⟩
   have hb := step_bit t n (acc_lt H.out HR.out HD.out) hn
   have HN : Hid (2 ^ g * (2 * t + n % 2) + rev g (n / 2) = R) := rev_step H.out
   generalize 2 * t + n % 2 = t2 at hb HN
   obtain ⟨n2, hn2⟩ : ∃ n2, n / 2 = n2 := ⟨_, rfl⟩
   rw [hn2] at HN
   have hn3 : (n : Int) / 2 = n2 := by omega
   have hn4 : n2 < 18446744073709551616 := by omega
   clear hn2 H
   go_wp2
   go_roundg g
   case measure => omega
   case rel => exact ⟨rfl, k + 1, n2, t2, by omega, rfl, rfl, by go_num, hn4, HN⟩
  ·obtain rfl : gk = 0 := by omega
   have HE : Hid (t = R) := by
    have := H.out
    show t = R
    simpa [rev] using this
   go_wp2
   go_ret
   exact ⟨by rw [HE.out]; rfl, rfl⟩
theorem rev_64 {d : Nat} (c : Nat) (hd : d ≤ 16) : rev d c < 65536 := Nat.lt_of_lt_of_le (rev_lt d c) (pow_le_16 hd)
theorem low_dep (c : Nat) (d : Int) : lowM c d = c % 2 ^ dep d := rfl
theorem wrap_one (n : Nat) (h : n < 65536) : IntKind.u64.wrap ((n : Int) + 1) = ((n + 1 : Nat) : Int) := by
 simp [IntKind.wrap, IntKind.signed, IntKind.bits]
 omega
theorem Bucket_any (c : Nat) (d : Int) (w : World) (hc : c < 18446744073709551616) (h0 : -9223372036854775808 ≤ d) (h1 : d ≤ 9223372036854775807) :
  Calls Tryz.prog 157 #[.int .u64 c, .int .i64 d] w fun e w' => e = .returned (.int .u64 (lowM c d : Nat)) ∧ w' = w := by
 have H := fun w => Low_any c d w hc (by omega) h0
 generalize lowM c d = z at H ⊢
 go_enter Tryz.func157, Tryz.ntmps157
 go_wp2_with fail
 refine (H _).mono ?_
 rintro e w ⟨rfl, rfl⟩
 go_wp2
 go_ret
 exact ⟨rfl, rfl⟩
theorem Next_any (c : Nat) (d : Int) (w : World) (hc : c < 18446744073709551616) (h0 : -9223372036854775808 ≤ d) (h1 : d ≤ 9223372036854775807) :
  Calls Tryz.prog 111 #[.int .u64 c, .int .i64 d] w fun e w' => e = .returned (.int .u64 (nxt (dep d) c : Nat)) ∧ w' = w := by
 have HC := fun w => clamp_any d w h0 h1
 have hd := dep_le d
 have hr := rev_64 c hd
 have H1 := fun w => turn_any c (dep d) w hc hd
 have H2 := fun w => turn_any (rev (dep d) c + 1) (dep d) w (by omega) hd
 have hw := wrap_one _ hr
 rw [nxt]
 generalize rev (dep d) (rev (dep d) c + 1) = z at H2 ⊢
 generalize rev (dep d) c = y at H1 H2 hw hr
 generalize dep d = k at HC H1 H2 hd
 generalize y + 1 = x at H2 hw
 go_enter Tryz.func111, Tryz.ntmps111
 go_wp2_with fail
 refine (HC _).mono ?_
 rintro e w ⟨rfl, rfl⟩
 go_wp2_with fail
 refine (H1 _).mono ?_
 rintro e w ⟨rfl, rfl⟩
 go_wp2_with fail
 refine (H2 _).mono ?_
 rintro e w ⟨rfl, rfl⟩
 go_wp2
 go_ret
 exact ⟨rfl, rfl⟩
end Go.Proofs.YtmjeljldmmkcpaaGreat.Dk
namespace Go.Proofs.YtmjeljldmmkcpaaGreat.Dk
abbrev Pt := Nat × Nat
def isIn (s : Pt) (h : Nat) : Bool := decide (h % 2 ^ s.1 = s.2)
theorem isIn_iff {s : Pt} {h : Nat} : isIn s h = true ↔ h % 2 ^ s.1 = s.2 := decide_eq_true_iff
def Apart (s t : Pt) : Prop := ∀ h, isIn s h = true → isIn t h = false
theorem Apart.symm {s t : Pt} (h : Apart s t) : Apart t s := fun k hk => by
 cases e : isIn s k with
 | false => rfl
 | true => have := h k e; rw [hk] at this; cases this
structure Shp (g : Nat) (sh : List Pt) : Prop where
 lt : ∀ s ∈ sh, s.2 < 2 ^ s.1 ∧ s.1 ≤ g
 le : g ≤ 16
 deep : ∃ s ∈ sh, s.1 = g
 cov : ∀ h, ∃ s ∈ sh, isIn s h = true
 dis : sh.Pairwise Apart
theorem Shp.new : Shp 0 [(0, 0)] := by
 refine ⟨?_, by decide, ⟨_, List.mem_singleton.2 rfl, rfl⟩, fun h => ⟨_, List.mem_singleton.2 rfl, ?_⟩, by simp⟩
 ·intro s hs
  cases List.mem_singleton.1 hs
  simp
 ·rw [isIn_iff]; simp [Nat.mod_one]
theorem Shp.parts {g : Nat} {sh : List Pt} (hS : Shp g sh) (h : Nat) : ∃ a s c, sh = a ++ s :: c ∧ isIn s h = true ∧ (∀ t ∈ a, isIn t h = false) ∧ (∀ t ∈ c, isIn t h = false) := by
 obtain ⟨s, hs, hi⟩ := hS.cov h
 obtain ⟨a, c, rfl⟩ := List.append_of_mem hs
 have hd := hS.dis
 rw [List.pairwise_append, List.pairwise_cons] at hd
 refine ⟨a, s, c, rfl, hi, fun t ht => ?_, fun t ht => hd.2.1.1 t ht h hi⟩
 exact (hd.2.2 t ht s (by simp)).symm h hi
theorem Shp.one {g : Nat} {sh : List Pt} (hS : Shp g sh) {i j : Nat} (hi : i < sh.length) (hj : j < sh.length) {h : Nat} (h1 : isIn sh[i] h = true) (h2 : isIn sh[j] h = true) : i = j := by
 rcases Nat.lt_trichotomy i j with h3 | h3 | h3
 ·have := List.pairwise_iff_getElem.1 hS.dis i j hi hj h3 h h1
  rw [h2] at this; cases this
 ·exact h3
 ·have := List.pairwise_iff_getElem.1 hS.dis j i hj hi h3 h h2
  rw [h1] at this; cases this
theorem isIn_low {s : Pt} {g : Nat} (hs : s.1 ≤ g) (h : Nat) : isIn s (h % 2 ^ g) = isIn s h := by
 unfold isIn
 have : h % 2 ^ g % 2 ^ s.1 = h % 2 ^ s.1 := Nat.mod_mod_of_dvd _ (Nat.pow_dvd_pow 2 hs)
 rw [this]
theorem isIn_self {s : Pt} (hs : s.2 < 2 ^ s.1) : isIn s s.2 = true := isIn_iff.2 (Nat.mod_eq_of_lt hs)
end Go.Proofs.YtmjeljldmmkcpaaGreat.Dk
namespace Go.Proofs.YtmjeljldmmkcpaaGreat.Dk
open Go.RowKit Go.PlainAid
structure Stay (w w' : World) (M : List Nat) : Prop where
 os : w'.os = w.os
 tape : w'.tape = w.tape
 output : w'.output = w.output
 size : w.heap.size ≤ w'.heap.size
 block : ∀ k, k < w.heap.size → k ∉ M → w'.heap[k]? = w.heap[k]?
theorem Stay.of_below {w w' : World} (h : Below w.heap.size w w') (M : List Nat) : Stay w w' M := ⟨h.os, h.tape, h.output, h.size, fun k hk _ => h.block k hk⟩
theorem Stay.of_moves {w w' : World} {p b : Nat} (h : Ai w w' p b) : Stay w w' [p, b] :=
 ⟨h.os, h.tape, h.output, h.size, fun k hk hn => h.block k hk (fun e => hn (by simp [e])) (fun e => hn (by simp [e]))⟩
theorem Stay.trans {w w1 w2 : World} {M M' : List Nat} (h : Stay w w1 M) (k : Stay w1 w2 M') (hM : ∀ i ∈ M', i ∈ M ∨ w.heap.size ≤ i) : Stay w w2 M :=
 ⟨k.os.trans h.os, k.tape.trans h.tape, k.output.trans h.output, Nat.le_trans h.size k.size, fun i hi hn =>
  (k.block i (Nat.lt_of_lt_of_le hi h.size) (fun hm => (hM i hm).elim hn (fun h1 => by omega))).trans (h.block i hi hn)⟩
theorem Stay.mono {w w' : World} {M M' : List Nat} (h : Stay w w' M) (hM : ∀ i ∈ M, i ∈ M') : Stay w w' M' :=
 ⟨h.os, h.tape, h.output, h.size, fun k hk hn => h.block k hk (fun hm => hn (hM k hm))⟩
theorem Stay.below {w w' : World} {M : List Nat} {B : Nat} (h : Stay w w' M) (hM : ∀ i ∈ M, B ≤ i) (hB : B ≤ w.heap.size) : Below B w w' :=
 ⟨h.os, h.tape, h.output, h.size, fun k hk => h.block k (Nat.lt_of_lt_of_le hk hB) (fun hm => by have := hM k hm; omega)⟩
theorem Stay.set {w : World} {q o : Nat} {v : Value} : Stay w (w.setCell ⟨q, o, none⟩ v) [q] :=
 ⟨rfl, rfl, rfl, by simp [World.setCell], fun k _ h1 => Below.heap_setCell _ _ _ _ (by simpa using h1)⟩
theorem Stay.grown {w w2 : World} {row : Option Nat} {M : List Nat} (h : w.grownBy w2 row) (hr : ∀ g, row = some g → g ∈ M) : Stay w w2 M :=
 ⟨h.os, h.tape, h.output, h.size, fun k hk hn => h.block k hk (fun e => hn (hr k e.symm))⟩
theorem Top.stay {w w' : World} {p b x G : Nat} {M : List Nat} (h : Top w p b x G) (hs : Stay w w' M) (hp : p ∉ M) : Top w' p b x G := h.kept (hs.block p h.lt hp)
theorem Tab.stay {w w' : World} {B p b x G : Nat} {z : List Cl} {M : List Nat} (h : Tab w B p b x G z) (hs : Stay w w' M) (hp : p ∉ M) (hb : b ∉ M) : Tab w' B p b x G z :=
 ⟨h.top.stay hs hp, h.row.kept (hs.block b h.row.lt hb), h.low, h.lowb, h.inv, h.seed, h.siz⟩
theorem Tab.lower {w : World} {B C p b x G : Nat} {z : List Cl} (h : Tab w B p b x G z) (hC : C ≤ B) : Tab w C p b x G z :=
 ⟨h.top, h.row, Nat.le_trans hC h.low, Nat.le_trans hC h.lowb, h.inv, h.seed, h.siz⟩
theorem OwnR.stay {w w' : World} {B : Nat} {e : TypeId} {s : Nat} {a : Option Addr} {n cap : Nat} {cs : List Value} {M : List Nat} (h : OwnR w B e s a n cap cs) (hs : Stay w w' M) (hd : ∀ k, a.map (·.block) = some k → k ∉ M) : OwnR w' B e s a n cap cs :=
 h.kept fun k hk => hs.block k (h.lt hk).2.1 (hd k hk)
theorem append_p {w : World} {ops : Array Oper} {rest : List Oper} {o : Oper} {ac : Act} {Q : Exit → Act → World → Prop} (hgd : o.guard = none) (s x : Operand) {t e : TypeId} {by8 : Nat} (ho : o.op = .call { callee := .builtin .append, args := #[s, x], argTypes := #[t, t] })
  (F : Elt t e 1 by8) (B : Nat) {a : Option Addr} {n cap : Nat} {cs : List Value} (hs : ac.eval s = .slice a n cap) (hown : OwnR w B e 1 a n cap cs) {a' : Option Addr} {n' cap' : Nat} {rs : List Value} (hx : ac.eval x = .slice a' n' cap') (hr : RdR w a' n' cap' rs)
  (h1 : ∀ u ∈ rs, u.oneCell' = true) (hb : (n + n') * by8 ≤ 140737488355328) (h63 : n + n' ≤ maxLen) (hB : B ≤ w.heap.size)
  (h : ∀ a2 n2 c2 w2, n2 = n + n' → Hid (OwnR w2 B e 1 a2 n2 c2 (cs ++ rs)) → Hid (w.grownBy w2 (a.map (·.block))) → wpList Tryz.prog ops Q rest (ac.put o.dst (.slice a2 n2 c2)) w2) : wpList Tryz.prog ops Q (o :: rest) ac w := by
 obtain ⟨a2, c2, w2, k1, k2, k3⟩ := run_append_p w B F hown hr h1 hb h63 hB o.type
 refine wpList_plain hgd fun K hK => ?_
 unfold Oper.wp
 simp [execOp, ho, resolve, invoke, builtin, hs, hx, k1, Result.andThen]
 exact hK _ _ (h a2 _ c2 w2 rfl k2 k3)
def Am (ls : List Nat) : List Value := ls.map ptr
abbrev OwnP (w : World) (B : Nat) (e : TypeId) (a : Option Addr) (n cap : Nat) (ls : List Nat) : Prop := OwnR w B e 1 a n cap (Am ls)
theorem Tryz.infoT : (Tryz.prog.info? 125).map (fun i => (i.zero, i.size, i.bytes)) = some (some (.pointer none), 1, 8) := by kernel_rfl
theorem Tryz.infoL : (Tryz.prog.info? 123).map (fun i => (i.zero, i.size, i.bytes)) = some (some (.pointer none), 1, 8) := by kernel_rfl
theorem eltL : Elt 127 123 1 8 := A4 Tryz.underlying127 Tryz.infoL rfl (by decide)
theorem pcells_append (l r : List Nat) : Am (l ++ r) = Am l ++ Am r := List.map_append ..
theorem pcells_one {ls : List Nat} : ∀ u ∈ Am ls, u.oneCell' = true := by
 intro u hu
 obtain ⟨i, -, rfl⟩ := List.mem_map.1 hu
 rfl
theorem scells_one {ls : List BA} : ∀ u ∈ By ls, u.oneCell' = true := by
 intro u hu
 obtain ⟨i, -, rfl⟩ := List.mem_map.1 hu
 rfl
theorem OwnP.len {w : World} {B : Nat} {e : TypeId} {a : Option Addr} {n cap : Nat} {ls : List Nat} (h : OwnP w B e a n cap ls) : ls.length = n := by have := OwnR.len h; simpa [Am] using this
theorem OwnP.cell {w : World} {B : Nat} {e : TypeId} {g n cap : Nat} {ls : List Nat} (h : OwnP w B e (some ⟨g, 0, none⟩) n cap ls) {j p : Nat} (hj : ls[j]? = some p) : w.cell? ⟨g, j, none⟩ = some (ptr p) := by
 have hl := OwnP.len h
 have hlt : j < ls.length := by
  rcases Nat.lt_or_ge j ls.length with h1 | h1
  ·exact h1
  ·rw [List.getElem?_eq_none h1] at hj; cases hj
 obtain ⟨g', h1, h2⟩ := OwnR.at h (by omega)
 cases h1
 exact h2 _ _ (by rw [Am, List.getElem?_map, hj]; rfl)
structure Tb where
 p : Nat
 b : Nat
 G : Nat
 z : List Cl
def Tb.es (t : Tb) : List En := ents t.z
def Tb.fp (t : Tb) : List Nat := [t.p, t.b]
def tsEs (ts : List Tb) : List En := ts.flatMap Tb.es
def tsFp (ts : List Tb) : List Nat := ts.flatMap Tb.fp
structure Lf where
 l : Nat
 q : Nat
 a : Nat
 tb : Nat
 cap : Nat
 ts : List Tb
def Lf.es (f : Lf) : List En := tsEs f.ts
def Lf.fp (f : Lf) : List Nat := f.a :: f.tb :: tsFp f.ts
def Lf.pt (f : Lf) : Pt := (f.l, f.q)
theorem An (a b : List Tb) : tsEs (a ++ b) = tsEs a ++ tsEs b := List.flatMap_append ..
theorem Bh (t : Tb) (b : List Tb) : tsEs (t :: b) = t.es ++ tsEs b := List.flatMap_cons ..
theorem Bv (t : Tb) : tsEs [t] = t.es := by rw [Bh]; exact List.append_nil _
theorem Ci (a b : List Tb) : tsFp (a ++ b) = tsFp a ++ tsFp b := List.flatMap_append ..
theorem tsFp_cons (t : Tb) (b : List Tb) : tsFp (t :: b) = t.p :: t.b :: tsFp b := by rw [tsFp, List.flatMap_cons]; rfl
theorem mem_tsFp {ts : List Tb} {t : Tb} (h : t ∈ ts) : t.p ∈ tsFp ts ∧ t.b ∈ tsFp ts :=
 ⟨List.mem_flatMap.2 ⟨t, h, by simp [Tb.fp]⟩, List.mem_flatMap.2 ⟨t, h, by simp [Tb.fp]⟩⟩
structure Leaf (w : World) (B x : Nat) (f : Lf) : Prop where
 blk : w.heap[f.a]? = some (.cells #[.int .i64 (f.l : Nat), .slice (some ⟨f.tb, 0, none⟩) f.ts.length f.cap] 178 (0, 0))
 row : OwnP w B 125 (some ⟨f.tb, 0, none⟩) f.ts.length f.cap (f.ts.map (·.p))
 tab : ∀ t ∈ f.ts, Tab w B t.p t.b x t.G t.z
 low : B ≤ f.a
 nod : f.fp.Nodup
 key : (Ae f.es).Nodup
 pos : 0 < f.ts.length
theorem Leaf.lt {w : World} {B x : Nat} {f : Lf} (h : Leaf w B x f) : f.a < w.heap.size := (Array.getElem?_eq_some_iff.1 h.blk).1
theorem Leaf.fplt {w : World} {B x : Nat} {f : Lf} (h : Leaf w B x f) : ∀ k ∈ f.fp, B ≤ k ∧ k < w.heap.size := by
 intro k hk
 rcases List.mem_cons.1 hk with rfl | hk
 ·exact ⟨h.low, h.lt⟩
 rcases List.mem_cons.1 hk with rfl | hk
 ·have := OwnR.lt h.row (k := f.tb) rfl
  exact ⟨this.1, this.2.1⟩
 ·obtain ⟨t, ht, hk⟩ := List.mem_flatMap.1 hk
  have hT := h.tab t ht
  simp only [Tb.fp, List.mem_cons, List.not_mem_nil, or_false] at hk
  rcases hk with rfl | rfl
  ·exact ⟨hT.low, hT.top.lt⟩
  ·exact ⟨hT.lowb, hT.row.lt⟩
theorem Leaf.stay {w w' : World} {B x : Nat} {f : Lf} {M : List Nat} (h : Leaf w B x f) (hs : Stay w w' M) (hd : ∀ k ∈ f.fp, k ∉ M) : Leaf w' B x f := by
 refine ⟨by rw [hs.block f.a h.lt (hd _ (by simp [Lf.fp]))]; exact h.blk, OwnR.stay h.row hs (fun k hk => hd k (by cases hk; simp [Lf.fp])), fun t ht => (h.tab t ht).stay hs (hd _ ?_) (hd _ ?_), h.low, h.nod, h.key, h.pos⟩
 ·exact List.mem_cons_of_mem _ (List.mem_cons_of_mem _ (mem_tsFp ht).1)
 ·exact List.mem_cons_of_mem _ (List.mem_cons_of_mem _ (mem_tsFp ht).2)
theorem Leaf.keep {w w' : World} {B x : Nat} {f : Lf} (h : Leaf w B x f) (hb : Below w.heap.size w w') : Leaf w' B x f := h.stay (Stay.of_below hb []) (fun _ _ => by simp)
theorem Leaf.own {w : World} {B x : Nat} {f : Lf} (h : Leaf w B x f) : w.cell? ⟨f.a, 0, none⟩ = some (.int .i64 (f.l : Nat)) := by simp [World.cell?, h.blk]
theorem Leaf.tabs {w : World} {B x : Nat} {f : Lf} (h : Leaf w B x f) : w.cell? ⟨f.a, 1, none⟩ = some (.slice (some ⟨f.tb, 0, none⟩) f.ts.length f.cap) := by simp [World.cell?, h.blk]
theorem Leaf.at {w : World} {B x : Nat} {f : Lf} (h : Leaf w B x f) {i : Nat} {t : Tb} (hi : f.ts[i]? = some t) : w.cell? ⟨f.tb, i, none⟩ = some (ptr t.p) :=
 OwnP.cell h.row (by rw [List.getElem?_map, hi]; rfl)
theorem Leaf.max {w : World} {B x : Nat} {f : Lf} (h : Leaf w B x f) : f.ts.length ≤ 9223372036854775807 := by have := OwnR.cap h.row; unfold maxLen at this; omega
theorem B3 {α : Type} {l : List α} {i : Nat} {t : α} (hi : l[i]? = some t) : l.take (i + 1) = l.take i ++ [t] := by rw [List.take_add_one, hi]; rfl
theorem A6 {α : Type} {l : List α} {i : Nat} (hi : i < l.length) : ∃ t, l[i]? = some t ∧ t ∈ l := ⟨l[i], List.getElem?_eq_getElem hi, List.getElem_mem hi⟩
theorem size_any (B x : Nat) (f : Lf) (w : World) (hL : Leaf w B x f) (hn : f.es.length ≤ 1000000) :
  Calls Tryz.prog 168 #[ptr f.a] w fun e w' => e = .returned (.int .i64 (f.es.length : Nat)) ∧ w' = w := by
 have HL : Hid (Leaf w B x f) := hL
 have hc := hL.tabs
 have hmx := hL.max
 have HN : Hid (f.es.length ≤ 1000000) := hn
 have HE : Hid (f.es = tsEs f.ts) := rfl
 generalize hm : f.ts.length = m at hc hmx
 have HM : Hid (f.ts.length = m) := hm
 clear hL hn hm
 go_enter Tryz.func168, Tryz.ntmps168
 go_wp2
 go_loopg [3, 5, 11] m (fun q nv tv iv wr => w = wr ∧ ∃ i : Nat, i + q = m ∧ iv = .int .i64 i ∧ nv = .int .i64 ((tsEs (f.ts.take i)).length : Nat))
 case atStart => exact ⟨rfl, 0, by omega, rfl, rfl⟩
 case round =>
  obtain ⟨rfl, i, hi, rfl, rfl⟩ := hrel
  by_cases h8 : (i : Int) < m
  ·obtain ⟨t, ht, htm⟩ := A6 (l := f.ts) (i := i) (by have := HM.out; omega)
   have hk := HL.out.at ht
   have hLen := Len_any _ _ _ _ _ _ _ (HL.out.tab t htm)
   have HS : Hid ((tsEs (f.ts.take (i + 1))).length = (tsEs (f.ts.take i)).length + (ents t.z).length) := by show _ = _; rw [B3 ht, An, List.length_append, Bv]; rfl
   have hle : (tsEs (f.ts.take (i + 1))).length ≤ 1000000 := by
    have h1 := HN.out
    rw [HE.out, ← List.take_append_drop (i + 1) f.ts, An, List.length_append] at h1
    omega
   rw [HS.out] at hle
   generalize (tsEs (f.ts.take i)).length = c at HS hle ⊢
   generalize (ents t.z).length = d at HS hle hLen
   clear ht htm
   go_wp2_with fail
   refine hLen.mono ?_
   rintro e w ⟨rfl, rfl⟩
   go_wp2
   go_roundg (gk - 1)
   case measure => omega
   case rel => exact ⟨rfl, i + 1, by omega, by go_num, by rw [HS.out]; go_num⟩
  ·have HT : Hid (f.ts.take i = f.ts) := by show _ = _; rw [List.take_of_length_le (by have := HM.out; omega)]
   rw [HT.out]
   go_wp2
   go_ret
   exact ⟨rfl, rfl⟩
theorem Aj (a b : List En) : Ae (a ++ b) = Ae a ++ Ae b := List.map_append ..
set_option maxHeartbeats 4000000 in
theorem keys_any (B x : Nat) (f : Lf) (w : World) (hL : Leaf w B x f) (hn : f.es.length ≤ 1000000) :
  Calls Tryz.prog 109 #[ptr f.a] w fun e w' => Below w.heap.size w w' ∧ ∃ a n c, e = .returned (.slice a n c) ∧ OwnS w' w.heap.size a n c (Ae f.es) := by
 have HL : Hid (Leaf w B x f) := hL
 have hc := hL.tabs
 have hmx := hL.max
 have HN : Hid (f.es.length ≤ 1000000) := hn
 have HE : Hid (f.es = tsEs f.ts) := rfl
 generalize hm : f.ts.length = m at hc hmx
 have HM : Hid (f.ts.length = m) := hm
 have HO : Hid (OwnS w w.heap.size none 0 0 (Ae (tsEs (f.ts.take 0)))) := OwnR.nil _ _ _ _
 clear hL hn hm
 go_enter Tryz.func109, Tryz.ntmps109
 go_wp2
 go_loopg [3, 5, 11] m (fun q sv tv iv wr => ∃ (i : Nat) (a : Option Addr) (n c : Nat), i + q = m ∧ iv = .int .i64 i ∧ sv = .slice a n c ∧ Hid (OwnS wr w.heap.size a n c (Ae (tsEs (f.ts.take i)))) ∧ Hid (Below w.heap.size w wr))
 case atStart => exact ⟨0, none, 0, 0, by omega, rfl, rfl, HO, Below.refl _ _⟩
 case round =>
  clear HO
  obtain ⟨i, a, n, c, hi, rfl, rfl, HO, HB⟩ := hrel
  by_cases h8 : (i : Int) < m
  ·obtain ⟨t, ht, htm⟩ := A6 (l := f.ts) (i := i) (by have := HM.out; omega)
   have hk := (HL.out.keep HB.out).at ht
   have hKey := Keys_any _ _ _ _ _ _ _ ((HL.out.keep HB.out).tab t htm)
   have HS : Hid (Ae (tsEs (f.ts.take (i + 1))) = Ae (tsEs (f.ts.take i)) ++ (ents t.z).map (·.1)) := by show _ = _; rw [B3 ht, An, Aj, Bv]; rfl
   have HLe : Hid ((Ae (tsEs (f.ts.take (i + 1)))).length ≤ 1000000) := by
    have h1 := HN.out
    rw [HE.out, ← List.take_append_drop (i + 1) f.ts, An, List.length_append] at h1
    show _ ≤ _
    rw [List.length_map]
    omega
   rw [HS.out] at HLe
   generalize (ents t.z).map (·.1) = ks at HS HLe hKey
   clear ht htm
   go_wp2_with fail
   refine hKey.mono ?_
   rintro e w1 ⟨hb1, a1, n1, c1, rfl, hO1⟩
   have HO1 : Hid (OwnS w1 wr.heap.size a1 n1 c1 ks) := hO1
   have HB1 := Ad HB hb1
   have HO0 : Hid (OwnS w1 w.heap.size a n c (Ae (tsEs (f.ts.take i)))) := OwnR.keep HO.out hb1
   have HN1 : Hid (n + n1 ≤ 1000000) := by
    have h1 := OwnS.len HO.out
    have h2 := OwnS.len hO1
    have h3 := HLe.out
    rw [List.length_append] at h3
    show _ ≤ _
    omega
   clear hb1 hO1 hKey
   go_wp2_with (at_builtin; refine append_p rfl (.tmp 15) (.tmp 17) rfl eltS w.heap.size rfl HO0.out rfl HO1.out.rd scells_one (by have := HN1.out; omega) (by have := HN1.out; unfold maxLen; omega) HB1.out.size ?_; intro a3 n3 c3 w3 hn3 HO3 HG3; have HB3 : Hid (Below w.heap.size w w3) := HB1.out.trans (HO0.out.below HG3.out HB1.out.size))
   go_roundg (gk - 1)
   case measure => omega
   case rel => exact ⟨i + 1, _, _, _, by omega, by go_num, rfl, by rw [HS.out, ← hn3]; rw [← Cv] at HO3; exact HO3, HB3⟩
  ·have HT : Hid (f.ts.take i = f.ts) := by show _ = _; rw [List.take_of_length_le (by have := HM.out; omega)]
   rw [HT.out] at HO
   go_wp2
   go_ret
   exact ⟨HB.out, _, _, _, rfl, HO.out⟩
theorem splits_any (B x : Nat) (f : Lf) (w : World) (hL : Leaf w B x f) (hl : f.l ≤ 16) (hn : f.es.length ≤ 1000000) :
  Calls Tryz.prog 124 #[ptr f.a] w fun e w' => e = .returned (.bool (decide (f.l < 16) && decide (112 ≤ f.es.length))) ∧ w' = w := by
 have hS := fun w hL => size_any B x f w hL hn
 have hc := hL.own
 have HL : Hid (Leaf w B x f) := hL
 generalize f.es.length = m at hS hn ⊢
 generalize f.l = l at hc hl ⊢
 by_cases h1 : l < 16
 ·have HR : Hid (decide (l < 16) = true) := decide_eq_true h1
  have h1z : (l : Int) < 16 := by omega
  clear hL
  go_enter Tryz.func124, Tryz.ntmps124
  go_wp2_with fail
  refine (hS _ HL.out).mono ?_
  rintro e w ⟨rfl, rfl⟩
  by_cases h2 : 112 ≤ m
  ·have h2z : (112 : Int) ≤ m := by omega
   have HR2 : Hid (decide (112 ≤ m) = true) := decide_eq_true h2
   clear h2
   go_wp2
   go_ret
   exact ⟨by rw [HR.out, HR2.out]; rfl, rfl⟩
  ·have h2z : decide ((112 : Int) ≤ m) = false := decide_eq_false (by omega)
   have HR2 : Hid (decide (112 ≤ m) = false) := decide_eq_false h2
   clear h2
   go_wp2
   go_ret
   exact ⟨by rw [HR.out, HR2.out]; rfl, rfl⟩
 ·have HR : Hid (decide (l < 16) = false) := decide_eq_false h1
  obtain rfl : l = 16 := by omega
  clear hL
  go_enter Tryz.func124, Tryz.ntmps124
  go_wp2
  go_ret
  exact ⟨by rw [HR.out]; rfl, rfl⟩
theorem holder_yes (B x : Nat) (f : Lf) (k : BA) (w : World) (hL : Leaf w B x f) (hks : k.size ≤ maxLen) (hk : k ∈ Ae f.es) :
  Calls Tryz.prog 122 #[ptr f.a, .string k] w fun e w' => Below w.heap.size w w' ∧ ∃ t, e = .returned (ptr t.p) ∧ t ∈ f.ts ∧ k ∈ Ae t.es := by
 have HL : Hid (Leaf w B x f) := hL
 have hc := hL.tabs
 have hmx := hL.max
 have HK : Hid (k ∈ Ae (tsEs f.ts)) := hk
 have HKS : Hid (k.size ≤ maxLen) := hks
 generalize hm : f.ts.length = m at hc hmx
 have HM : Hid (f.ts.length = m) := hm
 clear hL hm hk hks
 go_enter Tryz.func122, Tryz.ntmps122
 go_wp2
 go_loopg [6, 7, 8, 14] m (fun q tv vv bv iv wr => ∃ i : Nat, i + q = m ∧ iv = .int .i64 i ∧ Hid (k ∉ Ae (tsEs (f.ts.take i))) ∧ Hid (Below w.heap.size w wr))
 case atStart => exact ⟨0, by omega, rfl, (by simp [tsEs] : k ∉ _), Below.refl _ _⟩
 case round =>
  obtain ⟨i, hi, rfl, HNo, HB⟩ := hrel
  by_cases h8 : (i : Int) < m
  ·obtain ⟨t, ht, htm⟩ := A6 (l := f.ts) (i := i) (by have := HM.out; omega)
   have hcc := (HL.out.keep HB.out).at ht
   have HTab : Hid (Tab wr B t.p t.b x t.G t.z) := (HL.out.keep HB.out).tab t htm
   have HMm : Hid (t ∈ f.ts) := htm
   by_cases hin : k ∈ (ents t.z).map (·.1)
   ·obtain ⟨⟨k0, v⟩, hv, rfl⟩ := List.mem_map.1 hin
    have hG := Get_some _ _ _ _ _ _ k0 v _ HTab.out HKS.out hv
    have HIn : Hid ((k0, v) ∈ t.es) := hv
    clear ht htm hin hv
    go_wp2_with fail
    refine hG.mono ?_
    rintro e w1 ⟨rfl, hb1⟩
    have HB1 := Ad HB hb1
    clear hb1 hG
    go_wp2
    go_ret
    exact ⟨HB1.out, t, rfl, HMm.out, v, HIn.out⟩
   ·have hG := Get_none _ _ _ _ _ _ k _ HTab.out HKS.out hin
    have HNo1 : Hid (k ∉ Ae (tsEs (f.ts.take (i + 1)))) := by
     show k ∉ _
     rw [B3 ht, An, Aj, Bv, List.mem_append]
     exact fun h => h.elim HNo.out hin
    clear ht htm hin
    go_wp2_with fail
    refine hG.mono ?_
    rintro e w1 ⟨rfl, hb1⟩
    have HB1 := Ad HB hb1
    clear hb1 hG
    go_wp2
    go_roundg (gk - 1)
    case measure => omega
    case rel => exact ⟨i + 1, by omega, by go_num, HNo1, HB1⟩
  ·exact absurd HK.out (by have := HNo.out; rw [List.take_of_length_le (by have := HM.out; omega)] at this; exact this)
theorem holder_no (B x : Nat) (f : Lf) (k : BA) (w : World) (hL : Leaf w B x f) (hks : k.size ≤ maxLen) (hk : k ∉ Ae f.es) :
  Calls Tryz.prog 122 #[ptr f.a, .string k] w fun e w' => e = .returned (.pointer none) ∧ Below w.heap.size w w' := by
 have HL : Hid (Leaf w B x f) := hL
 have hc := hL.tabs
 have hmx := hL.max
 have HK : Hid (∀ t ∈ f.ts, k ∉ (ents t.z).map (·.1)) := fun t ht h => hk (by
  obtain ⟨e, he, h1⟩ := List.mem_map.1 h
  exact List.mem_map.2 ⟨e, List.mem_flatMap.2 ⟨t, ht, he⟩, h1⟩)
 have HKS : Hid (k.size ≤ maxLen) := hks
 generalize hm : f.ts.length = m at hc hmx
 have HM : Hid (f.ts.length = m) := hm
 clear hL hm hk hks
 go_enter Tryz.func122, Tryz.ntmps122
 go_wp2
 go_loopg [6, 7, 8, 14] m (fun q tv vv bv iv wr => ∃ i : Nat, i + q = m ∧ iv = .int .i64 i ∧ Hid (Below w.heap.size w wr))
 case atStart => exact ⟨0, by omega, rfl, Below.refl _ _⟩
 case round =>
  obtain ⟨i, hi, rfl, HB⟩ := hrel
  by_cases h8 : (i : Int) < m
  ·obtain ⟨t, ht, htm⟩ := A6 (l := f.ts) (i := i) (by have := HM.out; omega)
   have hcc := (HL.out.keep HB.out).at ht
   have hG := Get_none _ _ _ _ _ _ k _ ((HL.out.keep HB.out).tab t htm) HKS.out (HK.out t htm)
   clear ht htm
   go_wp2_with fail
   refine hG.mono ?_
   rintro e w1 ⟨rfl, hb1⟩
   have HB1 := Ad HB hb1
   clear hb1 hG
   go_wp2
   go_roundg (gk - 1)
   case measure => omega
   case rel => exact ⟨i + 1, by omega, by go_num, HB1⟩
  ·go_wp2
   go_ret
   exact ⟨rfl, HB.out⟩
theorem size_alloc (w : World) (o : Obj) : (w.alloc o).heap.size = w.heap.size + 1 := by
 show (w.heap.push o).size = _
 exact Array.size_push ..
theorem newLeaf_any (l p : Nat) (w : World) :
  Calls Tryz.prog 77 #[.int .i64 (l : Nat), ptr p] w fun e w' => Below w.heap.size w w' ∧ ∃ a, e = .returned (ptr a) ∧ w.heap.size < a ∧ a < w'.heap.size ∧
   w'.heap[a]? = some (.cells #[.int .i64 (l : Nat), .slice (some ⟨w.heap.size, 0, none⟩) 1 1] 178 (0, 0)) ∧ OwnP w' w.heap.size 125 (some ⟨w.heap.size, 0, none⟩) 1 1 [p] := by
 obtain ⟨w1, hw1⟩ : ∃ w1, w.alloc (.cells #[ptr p] 125) = w1 := ⟨_, rfl⟩
 have HB1 : Hid (Below w.heap.size w w1) := by show Below _ _ _; rw [← hw1]; exact Ac w _
 have HS1 : Hid (w1.heap.size = w.heap.size + 1) := by show _ = _; rw [← hw1]; exact size_alloc w _
 have HO1 : Hid (OwnP w1 w.heap.size 125 (some ⟨w.heap.size, 0, none⟩) 1 1 [p]) := by
  show OwnP _ _ _ _ _ _ _
  rw [← hw1]
  exact ⟨rfl, .inr ⟨w.heap.size, 1, #[ptr p], rfl, Nat.le_refl _, heap_alloc_new w _, Nat.le_refl _, by decide, rfl, rfl⟩⟩
 obtain ⟨w2, hw2⟩ : ∃ w2, w1.alloc (.cells #[.int .i64 (l : Nat), .slice (some ⟨w.heap.size, 0, none⟩) 1 1] 178) = w2 := ⟨_, rfl⟩
 have HB2 : Hid (Below w1.heap.size w1 w2) := by show Below _ _ _; rw [← hw2]; exact Ac w1 _
 have HS2 : Hid (w2.heap.size = w1.heap.size + 1) := by show _ = _; rw [← hw2]; exact size_alloc w1 _
 have HK2 : Hid (w2.heap[w1.heap.size]? = some (.cells #[.int .i64 (l : Nat), .slice (some ⟨w.heap.size, 0, none⟩) 1 1] 178 (0, 0))) := by show _ = _; rw [← hw2]; exact heap_alloc_new w1 _
 go_enter Tryz.func77, Tryz.ntmps77
 go_wp2
 go_ret
 refine ⟨(Ad HB1 HB2.out).out, w1.heap.size, rfl, by have := HS1.out; omega, by have := HS2.out; omega, HK2.out, OwnR.keep HO1.out HB2.out⟩
end Go.Proofs.YtmjeljldmmkcpaaGreat.Dk
