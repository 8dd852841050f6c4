/-
  A pack in memory, and what only reads it: skip, begin, place, Len, Size, At.
  What turns a pack: encodeAll, replace, Insert, Set, Delete.
  Rows of texts: parts of them, what append makes of two, a text set in its place.
  Insert, Set and Delete of a pack.
-/
import Derived.Test.YtkohjejfkbaffaaGreatG3
import Derived.Test.YtkohjejfkbaffaaGreatG4
namespace Go.Proofs.YtkohjejfkbaffaaGreat
open Go.RowKit Go.PlainAid

/-- Block p is a pack that has the texts ls. -/
structure Pk (w : World) (B p : Nat) (a : Option Addr) (n c : Nat) (ls : List ByteArray) : Prop where
  blk : w.heap[p]? = some (.cells #[.slice a n c, .int .i64 (ls.length : Nat)] 89 (0, 0))
  low : B ≤ p
  own : Own w B a n c (pack ls)
theorem Pk.cell {w : World} {B p : Nat} {a : Option Addr} {n c : Nat} {ls : List ByteArray} (h : Pk w B p a n c ls) : w.cell? ⟨p, 0, none⟩ = some (.slice a n c) := by simp [World.cell?, h.blk]
theorem Pk.cnt {w : World} {B p : Nat} {a : Option Addr} {n c : Nat} {ls : List ByteArray} (h : Pk w B p a n c ls) : w.cell? ⟨p, 1, none⟩ = some (.int .i64 (ls.length : Nat)) := by simp [World.cell?, h.blk]
theorem Pk.frozen {w : World} {B p : Nat} {a : Option Addr} {n c : Nat} {ls : List ByteArray} (h : Pk w B p a n c ls) : w.frozen? ⟨p, 0, none⟩ = false := by simp [World.frozen?, h.blk]
theorem Pk.lt {w : World} {B p : Nat} {a : Option Addr} {n c : Nat} {ls : List ByteArray} (h : Pk w B p a n c ls) : p < w.heap.size := (Array.getElem?_eq_some_iff.1 h.blk).1
theorem Pk.keep {w wn : World} {B p : Nat} {a : Option Addr} {n c : Nat} {ls : List ByteArray} (h : Pk w B p a n c ls) (hb : Below w.heap.size w wn) : Pk wn B p a n c ls :=
  ⟨by rw [hb.block p h.lt]; exact h.blk, h.low, h.own.keep hb⟩
theorem Pk.low' {w : World} {B C p : Nat} {a : Option Addr} {n c : Nat} {ls : List ByteArray} (h : Pk w B p a n c ls) (hC : C ≤ B) : Pk w C p a n c ls := ⟨h.blk, Nat.le_trans hC h.low, h.own.low hC⟩
theorem Pk.len {w : World} {B p : Nat} {a : Option Addr} {n c : Nat} {ls : List ByteArray} (h : Pk w B p a n c ls) : (pack ls).length = n := h.own.len
theorem Pk.max {w : World} {B p : Nat} {a : Option Addr} {n c : Nat} {ls : List ByteArray} (h : Pk w B p a n c ls) : n ≤ 9223372036854775807 := Nat.le_trans h.own.rd.fit h.own.rd.max
theorem Pk.many {w : World} {B p : Nat} {a : Option Addr} {n c : Nat} {ls : List ByteArray} (h : Pk w B p a n c ls) : 2 * ls.length ≤ n := by have := len_pack ls; have := h.len; omega
abbrev ptr (p : Nat) : Value := .pointer (some ⟨p, 0, none⟩)

/-- Over how many texts one comes from the i-th on. -/
def gone (ls : List ByteArray) (i : Nat) (n : Int) : Nat := min n.toNat (ls.length - i)
theorem gone_le (ls : List ByteArray) (i : Nat) (n : Int) : gone ls i n ≤ ls.length - i := Nat.min_le_right _ _

set_option maxRecDepth 100000 in
set_option maxHeartbeats 4000000 in
theorem skip_any (B p : Nat) (a : Option Addr) (n c : Nat) (ls : List ByteArray) (i : Nat) (N : Int) (w : World) (hP : Pk w B p a n c ls) (hf : Fit ls) (hi : i ≤ ls.length) (hN : -9223372036854775808 ≤ N) (hN2 : N ≤ 9223372036854775807) :
    Calls Tryz.prog 91 #[ptr p, .int .i64 (off ls i : Nat), .int .i64 N] w fun e w' => Below w.heap.size w w' ∧ e = .returned (.int .i64 (off ls (i + gone ls i N) : Nat)) := by
  obtain ⟨K, hK⟩ : ∃ K, gone ls i N = K := ⟨_, rfl⟩
  rw [hK]
  have hn := hP.max
  have HL : Hid ((pack ls).length = n) := hP.own.len
  have HK : Hid (min N.toNat (ls.length - i) = K) := hK
  have HP : Hid (Pk w B p a n c ls) := hP
  have HF : Hid (Fit ls) := hf
  have HI : Hid (i ≤ ls.length) := hi
  obtain ⟨x0, hx0⟩ : ∃ x0, off ls i = x0 := ⟨_, rfl⟩
  have HX0 : Hid (off ls (i + 0) = x0) := hx0
  rw [hx0]
  clear hP hf hK hx0
  go_enter Tryz.func91, Tryz.ntmps91
  go_wp2
  go_loopg [1, 2] K (fun g av nv wr => ∃ k x : Nat, ∃ z : Int, k + g = K ∧ av = .int .i64 x ∧ nv = .int .i64 z ∧ Hid (z = N - k) ∧ Hid (off ls (i + k) = x) ∧ Hid (Pk wr B p a n c ls) ∧ Hid (Below w.heap.size w wr))
  case atStart => exact ⟨0, x0, N, by omega, rfl, rfl, (by show _ = _; omega), HX0, HP, Below.refl _ _⟩
  case round =>
    obtain ⟨k, x, z, hk, rfl, rfl, HZ, HX, HPr, HB⟩ := hrel
    have hc1 := HPr.out.cell
    by_cases hkK : k < K
    · have h1 : (0 : Int) < z := by have := HK.out; have := HZ.out; omega
      have hz2 : z ≤ 9223372036854775807 := by have := HZ.out; omega
      have hil : i + k < ls.length := by have := HK.out; omega
      have h2 : (x : Int) < n := by have := off_lt ls hil; have := HL.out; have := HX.out; omega
      have HD : Hid (decAt (pack ls) (x : Nat) = some (lst (txt ls (i + k)), off ls (i + k + 1))) := by show _ = _; rw [← HX.out]; exact decAt_off HF.out hil
      have HC := Decode_any a n c (pack ls) x wr HPr.out.own.rd (by omega)
      rw [HD.out, cR_some] at HC
      obtain ⟨y, hy⟩ : ∃ y, off ls (i + k + 1) = y := ⟨_, rfl⟩
      rw [hy] at HC
      have HY : Hid (off ls (i + (k + 1)) = y) := hy
      clear hy HD
      go_wp2_with fail
      refine HC.mono ?_
      rintro e w1 ⟨hb, rfl⟩
      have HP1 : Hid (Pk w1 B p a n c ls) := HPr.out.keep hb
      have HB1 := step_below HB hb
      clear hb
      go_wp2
      go_roundg (gk - 1)
      case measure => omega
      case rel => exact ⟨k + 1, y, z - 1, by omega, rfl, by go_num, (by have := HZ.out; show _ = _; omega), HY, HP1, HB1⟩
    · have hkk : k = K := by omega
      subst hkk
      by_cases h1 : (0 : Int) < z
      · have h2 : ¬ ((x : Int) < n) := by
          have := HK.out
          have := HI.out
          have := HZ.out
          have := off_all ls (i := i + k) (by omega)
          have := HL.out
          have := HX.out
          omega
        go_wp2
        go_ret
        exact ⟨HB.out, by rw [HX.out]; rfl⟩
      · go_wp2
        go_ret
        exact ⟨HB.out, by rw [HX.out]; rfl⟩

set_option maxRecDepth 100000 in
set_option maxHeartbeats 4000000 in
theorem begin_any (B p : Nat) (a : Option Addr) (n c : Nat) (ls : List ByteArray) (i : Nat) (w : World) (hP : Pk w B p a n c ls) (hf : Fit ls) (hi : i ≤ ls.length) :
    Calls Tryz.prog 70 #[ptr p, .int .i64 (i : Nat)] w fun e w' => Below w.heap.size w w' ∧ e = .returned (.int .i64 (off ls i : Nat)) := by
  have hn := hP.max
  have hm := hP.many
  have hc := hP.cell
  have hd := hP.cnt
  obtain ⟨m, hM⟩ : ∃ m, ls.length = m := ⟨_, rfl⟩
  rw [hM] at hd hm hi
  have hq : (m : Int).tdiv 2 = ((m / 2 : Nat) : Int) := by rw [Int.tdiv_eq_ediv_of_nonneg (by omega)]; omega
  obtain ⟨q, hqq⟩ : ∃ q, m / 2 = q := ⟨_, rfl⟩
  rw [hqq] at hq
  by_cases hiq : i ≤ q
  · have HS := skip_any B p a n c ls 0 i w hP hf (Nat.zero_le _) (by omega) (by omega)
    rw [off_zero, Nat.zero_add, show gone ls 0 (i : Int) = i by unfold gone; omega] at HS
    obtain ⟨x, hx⟩ : ∃ x, off ls i = x := ⟨_, rfl⟩
    rw [hx] at HS ⊢
    clear hP hf hx
    go_enter Tryz.func70, Tryz.ntmps70
    go_wp2_with fail
    refine HS.mono ?_
    rintro e w1 ⟨hb, rfl⟩
    have HB : Hid (Below w.heap.size w w1) := hb
    clear hb
    go_wp2
    go_ret
    exact ⟨HB.out, rfl⟩
  · have HL : Hid ((pack ls).length = n) := hP.own.len
    have HP : Hid (Pk w B p a n c ls) := hP
    have HF : Hid (Fit ls) := hf
    have HM : Hid (ls.length = m) := hM
    have HX0 : Hid (off ls m = n) := by show _ = _; rw [off_all ls (by omega)]; exact hP.own.len
    obtain ⟨T, hT⟩ : ∃ T, m - i = T := ⟨_, rfl⟩
    clear hP hf hM
    go_enter Tryz.func70, Tryz.ntmps70
    go_wp2
    go_loopg [1, 5] T (fun g iv av wr => ∃ k x : Nat, k + g = T ∧ iv = .int .i64 (i + k : Nat) ∧ av = .int .i64 x ∧ Hid (off ls (m - k) = x) ∧ Hid (Pk wr B p a n c ls) ∧ Hid (Below w.heap.size w wr))
    case atStart => exact ⟨0, n, by omega, rfl, rfl, HX0, HP, Below.refl _ _⟩
    case round =>
      obtain ⟨k, x, hk, rfl, rfl, HX, HPr, HB⟩ := hrel
      have hc1 := HPr.out.cell
      have hd1 := HPr.out.cnt
      rw [HM.out] at hd1
      by_cases hkK : k < T
      · have h1 : ((i + k : Nat) : Int) < m := by omega
        have hxn : x ≤ n := by have := off_le ls (m - k); have := HL.out; have := HX.out; omega
        have hil : m - k - 1 < ls.length := by have := HM.out; omega
        have HD : Hid (bkAt (pack ls) (x : Nat) = some ((off ls (m - k - 1) : Nat) : Int)) := by
          show _ = _
          rw [← HX.out]
          have := bkAt_off HF.out hil
          rw [show m - k - 1 + 1 = m - k by omega] at this
          exact this
        have HC := Back_any a n c (pack ls) x wr HPr.out.own.rd
        rw [HD.out, kR_some] at HC
        obtain ⟨y, hy⟩ : ∃ y, off ls (m - k - 1) = y := ⟨_, rfl⟩
        rw [hy] at HC
        have HY : Hid (off ls (m - (k + 1)) = y) := hy
        clear hy HD
        go_wp2_with fail
        refine HC.mono ?_
        rintro e w1 ⟨hb, rfl⟩
        have HP1 : Hid (Pk w1 B p a n c ls) := HPr.out.keep hb
        have HB1 := step_below HB hb
        clear hb
        go_wp2
        go_roundg (gk - 1)
        case measure => omega
        case rel => exact ⟨k + 1, y, by omega, by go_num, rfl, HY, HP1, HB1⟩
      · have hkk : k = T := by omega
        subst hkk
        have h1 : ¬ (((i + k : Nat) : Int) < m) := by omega
        have HE : Hid (off ls i = x) := by have := HX.out; rw [show m - k = i by omega] at this; exact this
        go_wp2
        go_ret
        exact ⟨HB.out, by rw [HE.out]; rfl⟩

/-- The place that a number means. -/
def plc (m : Nat) (i : Int) : Option Nat := if 0 ≤ i then (if i < m then some i.toNat else none) else if -(m : Int) ≤ i then some (i + m).toNat else none
theorem plc_lt {m : Nat} {i : Int} {k : Nat} (h : plc m i = some k) : k < m := by
  unfold plc at h
  split at h
  · split at h
    · cases h; omega
    · cases h
  · split at h
    · cases h; omega
    · cases h

set_option maxRecDepth 100000 in
set_option maxHeartbeats 4000000 in
theorem place_some (B p : Nat) (a : Option Addr) (n c : Nat) (ls : List ByteArray) (i : Int) (k : Nat) (w : World) (hP : Pk w B p a n c ls) (hi2 : -9223372036854775808 ≤ i) (hk : plc ls.length i = some k) :
    Calls Tryz.prog 69 #[ptr p, .int .i64 i] w fun e w' => Below w.heap.size w w' ∧ e = .returned (.tuple #[.int .i64 (k : Nat), .bool true]) := by
  have hkl := plc_lt hk
  have hd := hP.cnt
  have hm := hP.many
  have hn := hP.max
  generalize ls.length = m at hkl hd hm hk
  clear hP
  unfold plc at hk
  by_cases hi : 0 ≤ i
  · rw [if_pos hi] at hk
    have hik : i = k := by
      split at hk
      · have := Option.some.inj hk; omega
      · cases hk
    subst hik
    clear hk
    have h1 : decide ((k : Int) < m) = true := decide_eq_true (by omega)
    go_enter Tryz.func69, Tryz.ntmps69
    go_wp2_with fail
    go_quiet (fail)
    go_wp2
    go_ret2
    exact ⟨below_drewN w _, rfl⟩
  · rw [if_neg hi] at hk
    have hik : i + m = k := by
      split at hk
      · have := Option.some.inj hk; omega
      · cases hk
    clear hk
    have hi0 : i < 0 := by omega
    have h0 : (0 : Int) ≤ k := by omega
    have h1 : decide ((k : Int) < m) = true := decide_eq_true (by omega)
    go_enter Tryz.func69, Tryz.ntmps69
    go_wp2_with fail
    go_quiet (fail)
    go_wp2
    go_ret2
    exact ⟨below_drewN w _, rfl⟩
set_option maxRecDepth 100000 in
set_option maxHeartbeats 4000000 in
theorem place_none (B p : Nat) (a : Option Addr) (n c : Nat) (ls : List ByteArray) (i : Int) (w : World) (hP : Pk w B p a n c ls) (hi2 : -9223372036854775808 ≤ i) (hk : plc ls.length i = none) :
    Calls Tryz.prog 69 #[ptr p, .int .i64 i] w fun e w' => Below w.heap.size w w' ∧ ∃ x : Int, e = .returned (.tuple #[.int .i64 x, .bool false]) := by
  have hd := hP.cnt
  have hm := hP.many
  have hn := hP.max
  generalize ls.length = m at hd hm hk
  clear hP
  unfold plc at hk
  by_cases hi : 0 ≤ i
  · rw [if_pos hi] at hk
    have hik : ¬ i < m := by
      split at hk
      · cases hk
      · assumption
    clear hk
    have h1 : decide (i < m) = false := decide_eq_false hik
    go_enter Tryz.func69, Tryz.ntmps69
    go_wp2_with fail
    go_quiet (fail)
    go_wp2
    go_ret2
    exact ⟨below_drewN w _, _, rfl⟩
  · rw [if_neg hi] at hk
    have hik : ¬ -(m : Int) ≤ i := by
      split at hk
      · cases hk
      · assumption
    clear hk
    have hi0 : i < 0 := by omega
    obtain ⟨z, hz⟩ : ∃ z, i + m = z := ⟨_, rfl⟩
    have hz0 : decide (0 ≤ z) = false := decide_eq_false (by omega)
    have hz1 : ¬ (0 ≤ z) := by omega
    have hz2 : -9223372036854775808 ≤ z := by omega
    go_enter Tryz.func69, Tryz.ntmps69
    go_wp2_with fail
    go_quiet (fail)
    go_wp2
    go_ret2
    exact ⟨below_drewN w _, _, rfl⟩

theorem Len_any (B p : Nat) (a : Option Addr) (n c : Nat) (ls : List ByteArray) (w : World) (hP : Pk w B p a n c ls) :
    Calls Tryz.prog 34 #[ptr p] w fun e w' => e = .returned (.int .i64 (ls.length : Nat)) ∧ w' = w := by
  have hd := hP.cnt
  clear hP
  go_enter Tryz.func34, Tryz.ntmps34
  go_wp2
  go_ret
  exact ⟨rfl, rfl⟩
set_option maxRecDepth 100000 in
set_option maxHeartbeats 4000000 in
theorem At_some (B p : Nat) (a : Option Addr) (n c : Nat) (ls : List ByteArray) (i : Int) (k : Nat) (w : World) (hP : Pk w B p a n c ls) (hf : Fit ls) (hi2 : -9223372036854775808 ≤ i) (hk : plc ls.length i = some k) :
    Calls Tryz.prog 46 #[ptr p, .int .i64 i] w fun e w' => Below w.heap.size w w' ∧ e = .returned (.tuple #[.string (txt ls k), .bool true]) := by
  have HW := place_some B p a n c ls i k w hP hi2 hk
  have hkl := plc_lt hk
  have HD : Hid (decAt (pack ls) (off ls k : Nat) = some (lst (txt ls k), off ls (k + 1))) := decAt_off hf hkl
  have hx63 : off ls k ≤ 9223372036854775807 := by have := off_le ls k; have := hP.own.len; have := hP.max; omega
  have HG := fun (w1 : World) (h : Below w.heap.size w w1) => begin_any B p a n c ls k w1 (hP.keep h) hf (Nat.le_of_lt hkl)
  have HC := fun (w1 : World) (h : Below w.heap.size w w1) => Decode_any a n c (pack ls) (off ls k) w1 (hP.own.rd.keep h) (by omega)
  rw [HD.out, cR_some, bs_lst] at HC
  obtain ⟨x, hx⟩ : ∃ x, off ls k = x := ⟨_, rfl⟩
  rw [hx] at HG HC
  have hcl := fun (w1 : World) (h : Below w.heap.size w w1) => (hP.keep h).cell
  clear hP hf hk hkl HD hx
  go_enter Tryz.func46, Tryz.ntmps46
  go_wp2_with fail
  refine HW.mono ?_
  rintro e w1 ⟨hb, rfl⟩
  have HB : Hid (Below w.heap.size w w1) := hb
  have hex : Nonempty (Ext w1) := ⟨⟨w1, Below.refl _ _⟩⟩
  have HG1 := fun x : Ext w1 => HG x.wx (hb.trans (x.ok.mono hb.size))
  have HC1 := fun x : Ext w1 => HC x.wx (hb.trans (x.ok.mono hb.size))
  have hcl1 := fun x : Ext w1 => hcl x.wx (hb.trans (x.ok.mono hb.size))
  clear hb HG HC hcl HW
  go_wp2_with fail
  refine wp_region_ext (by kernel_rfl) (by kernel_rfl) ?_
  repeat (go_big_quiet_step (first | (go_at_call 70; exact Calls.ext_of (HG1 _)) | (go_at_call 65; exact Calls.ext_of (HC1 _))))
  refine wpQuiet_nil ?_
  intro wz hz
  obtain ⟨x, rfl⟩ := hz
  have HB2 := step_below HB x.ok
  go_wp2
  go_ret2
  exact ⟨HB2.out, rfl⟩
theorem At_none (B p : Nat) (a : Option Addr) (n c : Nat) (ls : List ByteArray) (i : Int) (w : World) (hP : Pk w B p a n c ls) (hi2 : -9223372036854775808 ≤ i) (hk : plc ls.length i = none) :
    Calls Tryz.prog 46 #[ptr p, .int .i64 i] w fun e w' => Below w.heap.size w w' ∧ e = .returned (.tuple #[.string ⟨#[]⟩, .bool false]) := by
  have HW := place_none B p a n c ls i w hP hi2 hk
  clear hP hk
  go_enter Tryz.func46, Tryz.ntmps46
  go_wp2_with fail
  refine HW.mono ?_
  rintro e w1 ⟨hb, x, rfl⟩
  have HB : Hid (Below w.heap.size w w1) := hb
  clear hb
  go_wp2
  go_ret2
  exact ⟨HB.out, rfl⟩
end Go.Proofs.YtkohjejfkbaffaaGreat

namespace Go.Proofs.YtkohjejfkbaffaaGreat
open Go.RowKit Go.PlainAid

/-- All is as it was, but for the pack and its row, and what is new. -/
structure Moves (w w' : World) (p : Nat) (a : Option Addr) : Prop where
  os : w'.os = w.os
  tape : w'.tape = w.tape
  output : w'.output = w.output
  size : w.heap.size ≤ w'.heap.size
  block : ∀ k, k < w.heap.size → k ≠ p → some k ≠ a.map (·.block) → w'.heap[k]? = w.heap[k]?
theorem Moves.refl (w : World) (p : Nat) (a : Option Addr) : Moves w w p a := ⟨rfl, rfl, rfl, Nat.le_refl _, fun _ _ _ _ => rfl⟩
theorem Moves.of_below {w w' : World} (h : Below w.heap.size w w') (p : Nat) (a : Option Addr) : Moves w w' p a := ⟨h.os, h.tape, h.output, h.size, fun k hk _ _ => h.block k hk⟩
theorem Moves.after {w w1 w2 : World} {p : Nat} {a : Option Addr} (h : Below w.heap.size w w1) (k : Moves w1 w2 p a) : Moves w w2 p a :=
  ⟨k.os.trans h.os, k.tape.trans h.tape, k.output.trans h.output, Nat.le_trans h.size k.size, fun i hi h1 h2 => (k.block i (Nat.lt_of_lt_of_le hi h.size) h1 h2).trans (h.block i hi)⟩
theorem Moves.below {w w' : World} {B p : Nat} {a : Option Addr} {n c : Nat} {l : List ByteArray} (h : Moves w w' p a) (hP : Pk w B p a n c l) : Below B w w' := by
  refine ⟨h.os, h.tape, h.output, h.size, fun k hk => h.block k (Nat.lt_trans (Nat.lt_of_lt_of_le hk hP.low) hP.lt) (by have := hP.low; omega) ?_⟩
  intro e
  cases a with
  | none => cases e
  | some x =>
    have := hP.own.block x.block rfl
    have e2 : k = x.block := Option.some.inj e
    omega
/-- A row of texts is no pack and no pack's row. -/
theorem OwnS.moves {w w' : World} {B C p : Nat} {a a2 : Option Addr} {n c n2 c2 : Nat} {l ls : List ByteArray} (h : OwnS w C a2 n2 c2 ls) (hm : Moves w w' p a) (hP : Pk w B p a n c l) : OwnS w' C a2 n2 c2 ls := by
  refine ⟨h.1, ?_⟩
  rcases h.2 with h2 | ⟨g, c', cur, h1, h3, h4, h5⟩
  · exact .inl h2
  · refine .inr ⟨g, c', cur, h1, h3, ?_, h5⟩
    rw [hm.block g (Array.getElem?_eq_some_iff.1 h4).1 ?_ ?_]
    · exact h4
    · intro e
      subst e
      rw [hP.blk] at h4
      simp at h4
    · intro e
      cases a with
      | none => cases e
      | some x =>
        cases e
        rcases hP.own.2 with ⟨k2, -⟩ | ⟨g', c3, cur', k1, k3, k4, k5⟩
        · cases k2
        · cases k1
          rw [k4] at h4
          simp at h4

/-- What a call answers that turns a pack. -/
def Turns (w : World) (B p : Nat) (a : Option Addr) (l : List ByteArray) (v : Value) (e : Ending) (w' : World) : Prop :=
  e = .returned v ∧ Moves w w' p a ∧ ∃ a' n' c', Pk w' B p a' n' c' l ∧ Went w a a'

set_option maxRecDepth 100000 in
set_option maxHeartbeats 4000000 in
theorem encodeAll_fit (a : Option Addr) (n c : Nat) (ls : List ByteArray) (w : World) (hR : RdS w a n ls) (hf : Fit ls) (hn : n ≤ 100000) :
    Calls Tryz.prog 77 #[.slice a n c] w fun e w' => Below w.heap.size w w' ∧ ∃ a2 n2 c2, e = .returned (.tuple #[.slice a2 n2 c2, .int .i64 0]) ∧ Own w' w.heap.size a2 n2 c2 (pack ls) ∧ (n2 = 0 → a2 = none) := by
  have HR : Hid (RdS w a n ls) := hR
  have HL : Hid (ls.length = n) := hR.len
  have HS : Hid (∀ s ∈ ls, s.size ≤ 4096) := hf
  have HO : Hid (Own w w.heap.size none 0 0 []) := Own.nil w _
  clear hR hf
  go_enter Tryz.func77, Tryz.ntmps77
  go_wp2
  go_loopg [4, 11] n (fun g bv iv wr => ∃ (i : Nat) (a2 : Option Addr) (n2 c2 : Nat), i + g = n ∧ Hid (i = 0 → a2 = none) ∧ bv = .slice a2 n2 c2 ∧ iv = .int .i64 i ∧ Hid (Own wr w.heap.size a2 n2 c2 (pack (ls.take i))) ∧ Hid (Below w.heap.size w wr))
  case atStart => exact ⟨0, none, 0, 0, by omega, (fun _ => rfl), rfl, rfl, HO, Below.refl _ _⟩
  case round =>
    obtain ⟨i, a2, n2, c2, hi, HN0, rfl, rfl, HO, HB⟩ := hrel
    by_cases h1 : (i : Int) < n
    · obtain ⟨b, off, ha, hc⟩ := HR.out.cell i (by omega)
      subst ha
      have hc1 : wr.cell? ⟨b, off + i, none⟩ = some (.string (ls.getD i ByteArray.empty)) := by
        rw [HB.out.cell (p := ⟨b, off + i, none⟩) (World.block_lt_of_cell? _ _ hc)]; exact hc
      have hil : i < ls.length := by have := HL.out; omega
      have hss := short_get HS.out i hil
      have HP : Hid (pack (ls.take i) ++ enc (lst (ls.getD i ByteArray.empty)) = pack (ls.take (i + 1))) := (pack_take ls i hil).symm
      have hl2 : n2 ≤ 500000000 := by
        have h2 := pack_len (ls.take i) 4096 (fun s hs => HS.out s (List.mem_of_mem_take hs))
        rw [HO.out.len, List.length_take] at h2
        have : min i ls.length * (4096 + 11) ≤ 100000 * (4096 + 11) := Nat.mul_le_mul_right _ (by omega)
        omega
      generalize ls.getD i ByteArray.empty = s at hc1 hss HP
      have HE := fun w => Encode_any s w hss
      have hel := (enc_len (lst s)).2
      rw [len_lst] at hel
      have HEL : Hid ((enc (lst s)).length ≤ 5000) := by show _ ≤ _; omega
      have HL2 : Hid (n2 ≤ 500000000) := hl2
      clear hc hil hl2 hel
      go_wp2_with fail
      refine (HE _).mono ?_
      rintro e w1 ⟨hb, a3, n3, c3, rfl, hO3⟩
      have HO1 : Hid (Own w1 w.heap.size a2 n2 c2 (pack (ls.take i))) := HO.out.keep hb
      have HR3 : Hid (Rd w1 a3 n3 c3 (enc (lst s))) := hO3.rd
      have H1 := step_below HB hb
      have HM : Hid (n2 + n3 ≤ 140737488355328) := by
        have := hO3.len
        have := HEL.out
        have := HL2.out
        show _ ≤ _
        omega
      clear hb hO3
      go_wp2_with (at_builtin; refine append_row rfl (.tmp 23) (.tmp 24) rfl w.heap.size rfl HO1.out rfl HR3.out HM.out H1.out.size ?_; intro a4 n4 c4 w4 hn4 hO4 hB4; have HO4 : Hid (Own w4 w.heap.size a4 n4 c4 (pack (ls.take (i + 1)))) := (by rw [HP.out] at hO4; exact hO4); have HB4 : Hid (Below w.heap.size w w4) := H1.out.trans hB4; clear hn4 hO4 hB4)
      go_roundg (gk - 1)
      case measure => omega
      case rel => exact ⟨i + 1, _, _, _, by omega, (fun h => absurd h (Nat.succ_ne_zero i)), rfl, by go_num, HO4, HB4⟩
    · have HE : Hid (pack (ls.take i) = pack ls) := by
        show _ = _
        rw [List.take_of_length_le (by have := HL.out; omega)]
      go_wp2
      go_ret2
      refine ⟨HB.out, _, _, _, rfl, by rw [← HE.out]; exact HO.out, fun h0 => HN0.out ?_⟩
      have h2 := HO.out.len
      have h3 := len_pack (ls.take i)
      rw [List.length_take] at h3
      have := HL.out
      omega

theorem Own.old {w : World} {B : Nat} {a : Option Addr} {n c : Nat} {l : List UInt8} (h : Own w B a n c l) : ∀ x, a = some x → x.block < w.heap.size := by
  intro x hx
  subst hx
  exact (h.lt x.block rfl).2
theorem Own.ne_pk {w : World} {B p : Nat} {a : Option Addr} {n c : Nat} {l : List UInt8} {v : Array Value} (h : Own w B a n c l) (hp : w.heap[p]? = some (.cells v 89 (0, 0))) : some p ≠ a.map (·.block) := by
  intro e
  cases a with
  | none => cases e
  | some x =>
    have e2 : p = x.block := Option.some.inj e
    rcases h.2 with ⟨k2, -⟩ | ⟨g', c3, cur', k1, k3, k4, k5⟩
    · cases k2
    · cases k1
      subst e2
      rw [k4] at hp
      simp at hp
/-- The pack has another row and another count. -/
theorem Pk.store {w w1 : World} {B p : Nat} {a a' : Option Addr} {n c n' c' : Nat} {ls ls' : List ByteArray} (hP : Pk w B p a n c ls) (hO : Own w1 B a' n' c' (pack ls')) (hg : w.grownBy w1 (a.map (·.block))) :
    Pk ((w1.setCell ⟨p, 0, none⟩ (.slice a' n' c')).setCell ⟨p, 1, none⟩ (.int .i64 (ls'.length : Nat))) B p a' n' c' ls' ∧ Moves w ((w1.setCell ⟨p, 0, none⟩ (.slice a' n' c')).setCell ⟨p, 1, none⟩ (.int .i64 (ls'.length : Nat))) p a := by
  have h1 : w1.heap[p]? = some (.cells #[.slice a n c, .int .i64 (ls.length : Nat)] 89 (0, 0)) := by rw [hg.block p hP.lt (hP.own.ne_pk hP.blk)]; exact hP.blk
  have h2 := grown_trans (grown_setCell w1 p 0 (.slice a' n' c')) (grown_setCell (w1.setCell ⟨p, 0, none⟩ (.slice a' n' c')) p 1 (.int .i64 (ls'.length : Nat)))
  refine ⟨⟨?_, hP.low, hO.grow h2 ?_⟩, ⟨h2.os.trans hg.os, h2.tape.trans hg.tape, h2.output.trans hg.output, Nat.le_trans hg.size h2.size, fun k hk k1 k2 => ?_⟩⟩
  · simp [World.setCell, Array.getElem?_modify, h1]
  · intro g e
    subst e
    have := hO.ne_pk h1
    intro e2
    exact this e2.symm
  · rw [h2.block k (Nat.lt_of_lt_of_le hk hg.size) (fun e => k1 (Option.some.inj e)), hg.block k hk k2]
theorem Pk.cell1 {w w1 : World} {B p : Nat} {a : Option Addr} {n c : Nat} {ls : List ByteArray} (hP : Pk w B p a n c ls) (hg : w.grownBy w1 (a.map (·.block))) (v : Value) : w1.cell? ⟨p, 0, none⟩ = some (.slice a n c) ∧ w1.frozen? ⟨p, 0, none⟩ = false ∧ (w1.setCell ⟨p, 0, none⟩ v).cell? ⟨p, 1, none⟩ = some (.int .i64 (ls.length : Nat)) ∧ (w1.setCell ⟨p, 0, none⟩ v).frozen? ⟨p, 1, none⟩ = false := by
  have h1 : w1.heap[p]? = some (.cells #[.slice a n c, .int .i64 (ls.length : Nat)] 89 (0, 0)) := by rw [hg.block p hP.lt (hP.own.ne_pk hP.blk)]; exact hP.blk
  exact ⟨by simp [World.cell?, h1], by simp [World.frozen?, h1], by simp [World.cell?, World.setCell, Array.getElem?_modify, h1], by simp [World.frozen?, World.setCell, Array.getElem?_modify, h1]⟩

theorem off_mono (ls : List ByteArray) (i g : Nat) : off ls i ≤ off ls (i + g) := by
  unfold off
  have : ls.take (i + g) = ls.take i ++ (ls.drop i).take g := List.take_add
  rw [this, pack_append, List.length_append]; omega
theorem rep_pack (ls ts : List ByteArray) (i g : Nat) : (pack ls).take (off ls i) ++ (pack ts ++ (pack ls).drop (off ls (i + g))) = pack (ls.take i ++ (ts ++ ls.drop (i + g))) := by
  rw [take_off, drop_off, pack_append, pack_append]
theorem rep_len (ls ts : List ByteArray) (i g : Nat) : (pack (ls.take i ++ (ts ++ ls.drop (i + g)))).length = (pack ls).length - (off ls (i + g) - off ls i) + (pack ts).length := by
  have h1 := off_mono ls i g
  have h2 := off_le ls (i + g)
  rw [← rep_pack, List.length_append, List.length_append, List.length_take, List.length_drop]
  omega

set_option maxRecDepth 100000 in
set_option maxHeartbeats 4000000 in
theorem encodeAll_long (a : Option Addr) (n c : Nat) (ls : List ByteArray) (w : World) (hR : RdS w a n ls) (hf : ¬ Fit ls) (hs : ∀ s ∈ ls, s.size ≤ 5000) (hn : n ≤ 100000) :
    Calls Tryz.prog 77 #[.slice a n c] w fun e w' => Below w.heap.size w w' ∧ e = .returned (.tuple #[.slice none 0 0, .int .i64 11]) := by
  have HR : Hid (RdS w a n ls) := hR
  have HL : Hid (ls.length = n) := hR.len
  have HNF : Hid (¬ Fit ls) := hf
  have HS5 : Hid (∀ s ∈ ls, s.size ≤ 5000) := hs
  have HO : Hid (Own w w.heap.size none 0 0 []) := Own.nil w _
  clear hR hf hs
  go_enter Tryz.func77, Tryz.ntmps77
  go_wp2
  go_loopg [4, 11] n (fun g bv iv wr => ∃ (i : Nat) (a2 : Option Addr) (n2 c2 : Nat), i + g = n ∧ bv = .slice a2 n2 c2 ∧ iv = .int .i64 i ∧ Hid (Fit (ls.take i)) ∧ Hid (Own wr w.heap.size a2 n2 c2 (pack (ls.take i))) ∧ Hid (Below w.heap.size w wr))
  case atStart => exact ⟨0, none, 0, 0, by omega, rfl, rfl, (fun s hs => absurd hs (by simp)), HO, Below.refl _ _⟩
  case round =>
    obtain ⟨i, a2, n2, c2, hi, rfl, rfl, HS, HO, HB⟩ := hrel
    by_cases h1 : (i : Int) < n
    · obtain ⟨b, off, ha, hc⟩ := HR.out.cell i (by omega)
      subst ha
      have hc1 : wr.cell? ⟨b, off + i, none⟩ = some (.string (ls.getD i ByteArray.empty)) := by
        rw [HB.out.cell (p := ⟨b, off + i, none⟩) (World.block_lt_of_cell? _ _ hc)]; exact hc
      have hil : i < ls.length := by have := HL.out; omega
      have h5 : (ls.getD i ByteArray.empty).size ≤ 5000 := short_get HS5.out i hil
      have HP : Hid (pack (ls.take i) ++ enc (lst (ls.getD i ByteArray.empty)) = pack (ls.take (i + 1))) := (pack_take ls i hil).symm
      have hl2 : n2 ≤ 500000000 := by
        have h2 := pack_len (ls.take i) 4096 HS.out
        rw [HO.out.len, List.length_take] at h2
        have : min i ls.length * (4096 + 11) ≤ 100000 * (4096 + 11) := Nat.mul_le_mul_right _ (by omega)
        omega
      have HT : Hid (ls.take (i + 1) = ls.take i ++ [ls.getD i ByteArray.empty]) := take_snocB ls i hil
      generalize ls.getD i ByteArray.empty = s at hc1 HP h5 HT
      by_cases hss : s.size ≤ 4096
      · have HE := fun w => Encode_any s w hss
        have hel := (enc_len (lst s)).2
        rw [len_lst] at hel
        have HEL : Hid ((enc (lst s)).length ≤ 5000) := by show _ ≤ _; omega
        have HL2 : Hid (n2 ≤ 500000000) := hl2
        have HS2 : Hid (Fit (ls.take (i + 1))) := by
          show Fit _
          rw [HT.out]
          intro t ht
          rcases List.mem_append.1 ht with ht | ht
          · exact HS.out t ht
          · rw [List.mem_singleton.1 ht]; exact hss
        clear hc hil hl2 hel
        go_wp2_with fail
        refine (HE _).mono ?_
        rintro e w1 ⟨hb, a3, n3, c3, rfl, hO3⟩
        have HO1 : Hid (Own w1 w.heap.size a2 n2 c2 (pack (ls.take i))) := HO.out.keep hb
        have HR3 : Hid (Rd w1 a3 n3 c3 (enc (lst s))) := hO3.rd
        have H1 := step_below HB hb
        have HM : Hid (n2 + n3 ≤ 140737488355328) := by
          have := hO3.len
          have := HEL.out
          have := HL2.out
          show _ ≤ _
          omega
        clear hb hO3
        go_wp2_with (at_builtin; refine append_row rfl (.tmp 23) (.tmp 24) rfl w.heap.size rfl HO1.out rfl HR3.out HM.out H1.out.size ?_; intro a4 n4 c4 w4 hn4 hO4 hB4; have HO4 : Hid (Own w4 w.heap.size a4 n4 c4 (pack (ls.take (i + 1)))) := (by rw [HP.out] at hO4; exact hO4); have HB4 : Hid (Below w.heap.size w w4) := H1.out.trans hB4; clear hn4 hO4 hB4)
        go_roundg (gk - 1)
        case measure => omega
        case rel => exact ⟨i + 1, _, _, _, by omega, rfl, by go_num, HS2, HO4, HB4⟩
      · have HE := fun w => Encode_long s w (by omega) (by unfold maxLen; omega)
        go_wp2_with fail
        refine (HE _).mono ?_
        rintro e w1 ⟨rfl, rfl⟩
        go_wp2
        go_ret2
        exact ⟨HB.out, rfl⟩
    · exact absurd (by have := HS.out; rw [List.take_of_length_le (by have := HL.out; omega)] at this; exact this) HNF.out

theorem pack_nil {a : Option Addr} {n c B : Nat} {w : World} (h : Own w B a n c (pack [])) : n = 0 := by rw [← h.len]; rfl
theorem pack_zero {ts : List ByteArray} (h : (pack ts).length = 0) : ts = [] := by
  have := len_pack ts
  exact List.length_eq_zero_iff.1 (by omega)

set_option maxRecDepth 100000 in
set_option maxHeartbeats 4000000 in
theorem replace_full (B p : Nat) (a : Option Addr) (n c : Nat) (ls : List ByteArray) (a2 : Option Addr) (m c2 i g : Nat) (ts : List ByteArray) (w : World) (hP : Pk w B p a n c ls) (hf : Fit ls) (hn : n ≤ 65536) (hi : i + g ≤ ls.length) (hR : RdS w a2 m ts) (hl : Fit ts) (hm : m ≤ 100000) (hx : 65536 < (pack (ls.take i ++ (ts ++ ls.drop (i + g)))).length) :
    Calls Tryz.prog 57 #[ptr p, .int .i64 i, .int .i64 g, .slice a2 m c2] w fun e w' => Below w.heap.size w w' ∧ e = .returned (.int .i64 23) := by
  have HP : Hid (Pk w B p a n c ls) := hP
  have HE := encodeAll_fit a2 m c2 ts w hR hl hm
  have HG1 := fun (w1 : World) (h : Below w.heap.size w w1) => begin_any B p a n c ls i w1 (hP.keep h) hf (by omega)
  have HG2 := fun (w1 : World) (h : Below w.heap.size w w1) => begin_any B p a n c ls (i + g) w1 (hP.keep h) hf hi
  have hq := rep_len ls ts i g
  have h1 := off_mono ls i g
  have h2 := off_le ls (i + g)
  rw [hP.len] at hq h2
  have hig : i + g ≤ 65536 := by have := hP.many; omega
  have HT : Hid ((pack ts).length ≤ 1000000000) := by
    have := pack_len ts 4096 hl
    have := hR.len
    have : ts.length * (4096 + 11) ≤ 100000 * (4096 + 11) := Nat.mul_le_mul_right _ (by omega)
    show _ ≤ _
    omega
  have hc := hP.cell
  obtain ⟨x, hxx⟩ : ∃ x, off ls i = x := ⟨_, rfl⟩
  obtain ⟨y, hyy⟩ : ∃ y, off ls (i + g) = y := ⟨_, rfl⟩
  rw [hxx] at HG1 hq h1
  rw [hyy] at HG2 hq h1 h2
  have HX : Hid (65536 < n - (y - x) + (pack ts).length) := by show _ < _; omega
  clear hP hf hR hl hx hxx hyy hq hi
  go_enter Tryz.func57, Tryz.ntmps57
  go_wp2_with fail
  refine HE.mono ?_
  rintro e w1 ⟨hb, a3, n3, c3, rfl, hO, hN⟩
  have HN : Hid (n3 = 0 → a3 = none) := hN
  have HB : Hid (Below w.heap.size w w1) := hb
  have hn3 : n3 ≤ 1000000000 := by have := hO.len; have := HT.out; omega
  have hx3 : 65536 < n - (y - x) + n3 := by have := hO.len; have := HX.out; omega
  have HG := HG1 w1 hb
  clear hb hO hN HE HG1
  go_wp2_with fail
  refine HG.mono ?_
  rintro e w2 ⟨hb, rfl⟩
  have HB2 := step_below HB hb
  have HG := HG2 w2 HB2.out
  clear hb HG2
  go_wp2_with fail
  refine HG.mono ?_
  rintro e w3 ⟨hb, rfl⟩
  have HB3 := step_below HB2 hb
  have hc3 := (HP.out.keep HB3.out).cell
  clear hb
  obtain ⟨d, hd⟩ : ∃ d, y - x = d := ⟨_, rfl⟩
  obtain ⟨q, hq⟩ : ∃ q, n - d = q := ⟨_, rfl⟩
  have hdi : (y : Int) - (x : Int) = d := by omega
  have hqi : (n : Int) - (d : Int) = q := by omega
  have hx2 : (65536 : Int) < (q : Int) + (n3 : Int) := by omega
  go_wp2
  go_ret
  exact ⟨HB3.out, rfl⟩

set_option maxRecDepth 100000 in
set_option maxHeartbeats 4000000 in
theorem replace_long (p : Nat) (a2 : Option Addr) (m c2 : Nat) (i g : Int) (ts : List ByteArray) (w : World) (hR : RdS w a2 m ts) (hl : ¬ Fit ts) (hs : ∀ s ∈ ts, s.size ≤ 5000) (hm : m ≤ 100000) :
    Calls Tryz.prog 57 #[ptr p, .int .i64 i, .int .i64 g, .slice a2 m c2] w fun e w' => Below w.heap.size w w' ∧ e = .returned (.int .i64 11) := by
  have HE := encodeAll_long a2 m c2 ts w hR hl hs hm
  clear hR hl hs
  go_enter Tryz.func57, Tryz.ntmps57
  go_wp2_with fail
  refine HE.mono ?_
  rintro e w1 ⟨hb, rfl⟩
  have HB : Hid (Below w.heap.size w w1) := hb
  clear hb
  go_wp2
  go_ret
  exact ⟨HB.out, rfl⟩

set_option maxRecDepth 100000 in
set_option maxHeartbeats 4000000 in
theorem replace_ok (B p : Nat) (a : Option Addr) (n c : Nat) (ls : List ByteArray) (a2 : Option Addr) (m c2 i g : Nat) (ts : List ByteArray) (w : World) (hP : Pk w B p a n c ls) (hf : Fit ls) (hn : n ≤ 65536) (hi : i + g ≤ ls.length) (hR : RdS w a2 m ts) (hl : Fit ts) (hm : m ≤ 100000) (hx : (pack (ls.take i ++ (ts ++ ls.drop (i + g)))).length ≤ 65536) :
    Calls Tryz.prog 57 #[ptr p, .int .i64 i, .int .i64 g, .slice a2 m c2] w fun e w' => Turns w B p a (ls.take i ++ (ts ++ ls.drop (i + g))) (.int .i64 0) e w' := by
  have HP : Hid (Pk w B p a n c ls) := hP
  have HE := encodeAll_fit a2 m c2 ts w hR hl hm
  have HG1 := fun (w1 : World) (h : Below w.heap.size w w1) => begin_any B p a n c ls i w1 (hP.keep h) hf (by omega)
  have HG2 := fun (w1 : World) (h : Below w.heap.size w w1) => begin_any B p a n c ls (i + g) w1 (hP.keep h) hf hi
  have hq := rep_len ls ts i g
  have h1 := off_mono ls i g
  have h2 := off_le ls (i + g)
  have hll : ls.length ≤ 65536 := by have := hP.many; omega
  have HLN : Hid ((ls.length : Int) + ((m : Int) - (g : Int)) = ((ls.take i ++ (ts ++ ls.drop (i + g))).length : Nat)) := by
    have := hR.len
    show _ = _
    rw [List.length_append, List.length_append, List.length_take, List.length_drop]
    omega
  have HQ : Hid ((pack ls).take (off ls i) ++ (pack ts ++ (pack ls).drop (off ls (i + g))) = pack (ls.take i ++ (ts ++ ls.drop (i + g)))) := rep_pack ls ts i g
  rw [hP.len] at hq h2
  have hig : i + g ≤ 65536 := by have := hP.many; omega
  have HT : Hid ((pack ts).length ≤ 65536) := by show _ ≤ _; omega
  have hc := hP.cell
  obtain ⟨x, hxx⟩ : ∃ x, off ls i = x := ⟨_, rfl⟩
  obtain ⟨y, hyy⟩ : ∃ y, off ls (i + g) = y := ⟨_, rfl⟩
  rw [hxx] at HG1 hq h1 HQ
  rw [hyy] at HG2 hq h1 h2 HQ
  have HX : Hid (n - (y - x) + (pack ts).length ≤ 65536) := by show _ ≤ _; omega
  have HZ : Hid (ts = [] → m = 0) := by show _ → _; intro h; have := hR.len; rw [h] at this; exact this.symm
  have hl0 := hP.own.old
  have HOld : Hid (∀ x, a = some x → x.block < w.heap.size) := hl0
  have hLB : B ≤ w.heap.size := Nat.le_trans hP.low (Nat.le_of_lt hP.lt)
  obtain ⟨LL, hLL⟩ : ∃ LL, ls.take i ++ (ts ++ ls.drop (i + g)) = LL := ⟨_, rfl⟩
  rw [hLL] at HLN HQ ⊢
  clear hP hf hR hl hx hxx hyy hq hi hLL hl0
  go_enter Tryz.func57, Tryz.ntmps57
  go_wp2_with fail
  refine HE.mono ?_
  rintro e w1 ⟨hb, a3, n3, c3, rfl, hO, hN⟩
  have HN : Hid (n3 = 0 → a3 = none) := hN
  have HB : Hid (Below w.heap.size w w1) := hb
  have HO : Hid (Own w1 w.heap.size a3 n3 c3 (pack ts)) := hO
  have hn3 : n3 ≤ 65536 := by have := hO.len; have := HT.out; omega
  have hx3 : n - (y - x) + n3 ≤ 65536 := by have := hO.len; have := HX.out; omega
  have HG := HG1 w1 hb
  clear hb hO hN HE HG1
  go_wp2_with fail
  refine HG.mono ?_
  rintro e w2 ⟨hb, rfl⟩
  have HB2 := step_below HB hb
  have HO2 : Hid (Own w2 w.heap.size a3 n3 c3 (pack ts)) := HO.out.keep hb
  have HG := HG2 w2 HB2.out
  clear hb HG2
  go_wp2_with fail
  refine HG.mono ?_
  rintro e w3 ⟨hb, rfl⟩
  have HB3 := step_below HB2 hb
  have HO3 : Hid (Own w3 w.heap.size a3 n3 c3 (pack ts)) := HO2.out.keep hb
  have HP3 : Hid (Pk w3 B p a n c ls) := HP.out.keep HB3.out
  have hc3 := HP3.out.cell
  have hd3 := HP3.out.cnt
  clear hb
  have HZ3 : 0 < n3 ∨ a3 = none := by
    rcases Nat.eq_zero_or_pos n3 with h0 | h0
    · right
      exact HN.out h0
    · exact .inl h0
  have HR := Replace_sl B w.heap.size a n c (pack ls) a3 n3 c3 (pack ts) x y w3 HP3.out.own HO3.out HOld.out h1 h2 HZ3 (by omega) (Nat.le_trans hLB HB3.out.size)
  rw [HQ.out] at HR
  obtain ⟨d, hd⟩ : ∃ d, y - x = d := ⟨_, rfl⟩
  obtain ⟨q, hq⟩ : ∃ q, n - d = q := ⟨_, rfl⟩
  have hdi : (y : Int) - (x : Int) = d := by omega
  have hqi : (n : Int) - (d : Int) = q := by omega
  have hx2 : ¬ ((65536 : Int) < (q : Int) + (n3 : Int)) := by omega
  go_wp2_with fail
  refine HR.mono ?_
  rintro e w4 ⟨a', n', c', rfl, hO, hg, hW⟩
  have HW : Hid (Went w a a') := by
    rcases hW with h | ⟨b, e1, e2⟩
    · exact .inl h
    · exact .inr ⟨b, e1, Nat.le_trans HB3.out.size e2⟩
  have HS : Hid (Pk ((w4.setCell ⟨p, 0, none⟩ (.slice a' n' c')).setCell ⟨p, 1, none⟩ (.int .i64 (LL.length : Nat))) B p a' n' c' LL ∧ Moves w3 ((w4.setCell ⟨p, 0, none⟩ (.slice a' n' c')).setCell ⟨p, 1, none⟩ (.int .i64 (LL.length : Nat))) p a) := HP3.out.store hO hg
  obtain ⟨hc4, hf4, hc5, hf5⟩ := HP3.out.cell1 hg (.slice a' n' c')
  have hln := HLN.out
  generalize ls.length = lsn at hc5 hln hll
  generalize LL.length = lln at HS hln
  clear hO hg hW HLN
  go_wp2
  go_ret
  exact ⟨rfl, HS.out.2.after HB3.out, _, _, _, HS.out.1, HW.out⟩

end Go.Proofs.YtkohjejfkbaffaaGreat

namespace Go.Proofs.YtkohjejfkbaffaaGreat
open Go.RowKit Go.PlainAid

/-- A slice that reads the texts ls, with its room. -/
structure RdL (w : World) (a : Option Addr) (n cap : Nat) (ls : List ByteArray) : Prop where
  rd : RdS w a n ls
  fit : n ≤ cap
  max : cap ≤ maxLen
  nul : a = none → cap = 0
theorem RdL.keep {w wn : World} {a : Option Addr} {n cap : Nat} {ls : List ByteArray} (h : RdL w a n cap ls) (hb : Below w.heap.size w wn) : RdL wn a n cap ls := ⟨h.rd.keep hb, h.fit, h.max, h.nul⟩
theorem OwnS.rl {w : World} {B : Nat} {a : Option Addr} {n cap : Nat} {ls : List ByteArray} (h : OwnS w B a n cap ls) : RdL w a n cap ls := by
  refine ⟨h.rd, ?_, ?_, ?_⟩
  all_goals
    rcases h.2 with ⟨h2, h3⟩ | ⟨g, c, cur, h1, h3, h4, h5, h6, h7⟩
  · cases h2; omega
  · cases h1; exact h5
  · cases h2; decide
  · cases h1; exact h6
  · cases h2; intro; rfl
  · cases h1; intro e; cases e

theorem RdL.sub {w : World} {a : Option Addr} {n cap : Nat} {l : List ByteArray} (h : RdL w a n cap l) (lo hi : Nat) (h1 : lo ≤ hi) (h2 : hi ≤ n) :
    RdL w (if cap = lo then a else a.map (·.add (lo * 1))) (hi - lo) (cap - lo) ((l.drop lo).take (hi - lo)) := by
  have hl := h.rd.len
  have hf := h.fit
  have hx := h.max
  refine ⟨⟨?_, ?_, fun j hj => ?_⟩, by omega, by omega, fun hn => ?_⟩
  · rw [List.length_take, List.length_drop, hl]; omega
  · omega
  · obtain ⟨b, off, e, hc⟩ := h.rd.cell (lo + j) (by omega)
    subst e
    have hne : ¬ cap = lo := by omega
    refine ⟨b, off + lo, ?_, ?_⟩
    · rw [if_neg hne, Option.map_some, Nat.mul_one, add_flat]
    · rw [Nat.add_assoc, hc, List.getD_eq_getElem?_getD, List.getD_eq_getElem?_getD, List.getElem?_take, if_pos hj, List.getElem?_drop]
  · cases a with
    | none => have := h.nul rfl; omega
    | some x => split at hn <;> simp at hn

theorem Tryz.size9 (w : World) : (sizeOf 9).run Tryz.prog w = .ok 1 w := by go_simp
theorem Tryz.elem40 : Tryz.prog.elem 40 = 9 := by simp [Program.elem, Tryz.underlying40]
theorem RdL.slice_l {w : World} {a : Option Addr} {n cap : Nat} {l : List ByteArray} (h : RdL w a n cap l) (lo : Nat) (h1 : lo ≤ n) :
    ∃ a' cap', (∀ wx, (Instr.sliceAt 40 (.slice a n cap) (some (.int .i64 lo)) none none).run Tryz.prog wx = .ok (.slice a' (n - lo) cap') wx) ∧ RdL w a' (n - lo) cap' (l.drop lo) := by
  have hs := h.sub lo n h1 (Nat.le_refl _)
  rw [List.take_of_length_le (by rw [List.length_drop, h.rd.len]; omega)] at hs
  refine ⟨_, _, fun wx => ?_, hs⟩
  have ht : Tryz.prog.underlying 40 = some (.slice (Tryz.prog.elem 40)) := by rw [Tryz.elem40]; exact Tryz.underlying40
  rw [run_sliceAt_slice _ _ _ _ _ _ ht, run_slice_l (P := Tryz.prog) wx 40 a n cap ht .i64 lo (by omega) (by omega), Tryz.elem40, Tryz.size9]
  simp [Result.andThen, sliced]
theorem RdL.slice_h {w : World} {a : Option Addr} {n cap : Nat} {l : List ByteArray} (h : RdL w a n cap l) (hi : Nat) (h1 : hi ≤ n) :
    ∃ a' cap', (∀ wx, (Instr.sliceAt 40 (.slice a n cap) none (some (.int .i64 hi)) none).run Tryz.prog wx = .ok (.slice a' hi cap') wx) ∧ RdL w a' hi cap' (l.take hi) := by
  have hs := h.sub 0 hi (Nat.zero_le _) h1
  rw [List.drop_zero, Nat.sub_zero, Nat.sub_zero] at hs
  refine ⟨_, _, fun wx => ?_, hs⟩
  have ht : Tryz.prog.underlying 40 = some (.slice (Tryz.prog.elem 40)) := by rw [Tryz.elem40]; exact Tryz.underlying40
  rw [run_sliceAt_slice _ _ _ _ _ _ ht, run_slice_h (P := Tryz.prog) wx 40 a n cap ht .i64 hi (by omega) (by have := h.fit; omega), Tryz.elem40, Tryz.size9]
  simp [Result.andThen, sliced]

/-- append(l, x...) at rows of texts. -/
theorem run_append_strs (w : World) (B : Nat) (a : Option Addr) (n cap : Nat) (ls : List ByteArray) (hown : OwnS w B a n cap ls) (a' : Option Addr) (n' cap' : Nat) (rs : List ByteArray) (hr : RdL w a' n' cap' rs) (hb : n + n' ≤ 1000000) (hB : B ≤ w.heap.size) (ty : TypeId) :
    ∃ a2 c2 w2, (Builtin.append_ #[40, 40] ty #[.slice a n cap, .slice a' n' cap']).run Tryz.prog w = .ok (.slice a2 (n + n') c2) w2 ∧ OwnS w2 B a2 (n + n') c2 (ls ++ rs) ∧ Below B w w2 := by
  obtain ⟨i0, hi, hz0, hz1, hz2⟩ := info_parts Tryz.info9
  have hblk : ∀ k, (Value.slice a n cap).ownBlock = some k → B ≤ k := fun k hk => (hown.lt k hk).1
  cases a' with
  | none =>
    have hrl := hr.rd.len
    have hc0 := hr.nul rfl
    have hf := hr.fit
    have hn0 : n' = 0 := by omega
    subst hn0
    subst hc0
    have hr0 : rs = [] := List.length_eq_zero_iff.1 hrl
    subst hr0
    refine ⟨a, cap, w, ?_, by rw [List.append_nil]; exact hown, Below.refl _ _⟩
    have := run_append_owned_none (P := Tryz.prog) w B 40 ty 9 i0 1 Tryz.underlying40 hi (.slice a n cap) n (ls.map Value.string) hown
    exact this
  | some ad =>
    have hrun := run_append_own (P := Tryz.prog) w B 40 ty 9 i0 (.string ⟨#[]⟩) 1 16 Tryz.underlying40 hi hz0 hz1 hz2 rfl (by decide) (.slice a n cap) n (ls.map Value.string) hown ad n' cap' (rs.map Value.string) (by rw [List.length_map, hr.rd.len]; omega) (fun j u hu => by
      rw [List.getElem?_map] at hu
      have hj : j < rs.length := by
        rcases Nat.lt_or_ge j rs.length with h | h
        · exact h
        · rw [List.getElem?_eq_none h] at hu; cases hu
      obtain ⟨b, off, e, hc⟩ := hr.rd.cell j (by rw [← hr.rd.len]; exact hj)
      cases e
      rw [add_flat, hc, List.getD_eq_getElem?_getD]
      rw [List.getElem?_eq_getElem hj] at hu ⊢
      exact hu) (by simp [Value.oneCell']) (by unfold maxLen; omega) (by omega) hB
    obtain ⟨v', w', h1, h2, h3, -⟩ := hrun
    rw [← List.map_append] at h2
    have hbel : Below B w w' := (Below.refl B w).grown h3 hB hblk
    rcases h2.2 with ⟨rfl, h4⟩ | ⟨g, c, cur, rfl, h4⟩
    · refine ⟨none, 0, w', by rw [h1, h4], ?_, hbel⟩
      rw [h4] at h2 ⊢
      exact h2
    · exact ⟨_, _, w', h1, h2, hbel⟩

theorem append_strs {w : World} {ops : Array Oper} {rest : List Oper} {o : Oper} {ac : Act} {Q : Exit → Act → World → Prop} (hgd : o.guard = none) (s x : Operand) (ho : o.op = .call { callee := .builtin .append, args := #[s, x], argTypes := #[40, 40] })
    (B : Nat) {a : Option Addr} {n cap : Nat} {ls : List ByteArray} (hs : ac.eval s = .slice a n cap) (hown : OwnS w B a n cap ls)
    {a' : Option Addr} {n' cap' : Nat} {rs : List ByteArray} (hx : ac.eval x = .slice a' n' cap') (hr : RdL w a' n' cap' rs) (hb : n + n' ≤ 1000000) (hB : B ≤ w.heap.size)
    (h : ∀ a2 n2 c2 w2, n2 = n + n' → Hid (OwnS w2 B a2 n2 c2 (ls ++ rs)) → Hid (Below B w w2) → wpList Tryz.prog ops Q rest (ac.put o.dst (.slice a2 n2 c2)) w2) : wpList Tryz.prog ops Q (o :: rest) ac w := by
  obtain ⟨a2, c2, w2, h1, h2, h3⟩ := run_append_strs w B a n cap ls hown a' n' cap' rs hr hb hB o.type
  refine wpList_plain hgd fun K hK => ?_
  unfold Oper.wp
  simp [execOp, ho, resolve, invoke, builtin, hs, hx, h1, Result.andThen]
  exact hK _ _ (h a2 _ c2 w2 rfl h2 h3)
theorem append_strs_w {w : World} {ops : Array Oper} {rest : List Oper} {o : Oper} {ac : Act} {Q : Exit → Act → World → Prop} (hgd : Region.wanted o (yielded ops ac.tmps) = true) (s x : Operand) (ho : o.op = .call { callee := .builtin .append, args := #[s, x], argTypes := #[40, 40] })
    (B : Nat) {a : Option Addr} {n cap : Nat} {ls : List ByteArray} (hs : ac.eval s = .slice a n cap) (hown : OwnS w B a n cap ls)
    {a' : Option Addr} {n' cap' : Nat} {rs : List ByteArray} (hx : ac.eval x = .slice a' n' cap') (hr : RdL w a' n' cap' rs) (hb : n + n' ≤ 1000000) (hB : B ≤ w.heap.size)
    (h : ∀ a2 n2 c2 w2, n2 = n + n' → Hid (OwnS w2 B a2 n2 c2 (ls ++ rs)) → Hid (Below B w w2) → wpList Tryz.prog ops Q rest (ac.put o.dst (.slice a2 n2 c2)) w2) : wpList Tryz.prog ops Q (o :: rest) ac w := by
  obtain ⟨a2, c2, w2, h1, h2, h3⟩ := run_append_strs w B a n cap ls hown a' n' cap' rs hr hb hB o.type
  refine BigFrame.wpList_want hgd fun K hK => ?_
  unfold Oper.wp
  simp [execOp, ho, resolve, invoke, builtin, hs, hx, h1, Result.andThen]
  exact hK _ _ (h a2 _ c2 w2 rfl h2 h3)
theorem step_append_strs {w : World} {ops : Array Oper} {o : Oper} {ac : Act} {K : Act → World → Prop} {Q : Exit → Act → World → Prop} {E : Prop} (hgd : o.guard = none) (s x : Operand) (ho : o.op = .call { callee := .builtin .append, args := #[s, x], argTypes := #[40, 40] })
    (B : Nat) {a : Option Addr} {n cap : Nat} {ls : List ByteArray} (hs : ac.eval s = .slice a n cap) (hown : OwnS w B a n cap ls)
    {a' : Option Addr} {n' cap' : Nat} {rs : List ByteArray} (hx : ac.eval x = .slice a' n' cap') (hr : RdL w a' n' cap' rs) (hb : n + n' ≤ 1000000) (hB : B ≤ w.heap.size)
    (h : ∀ a2 n2 c2 w2, n2 = n + n' → Hid (OwnS w2 B a2 n2 c2 (ls ++ rs)) → Hid (Below B w w2) → K (ac.put o.dst (.slice a2 n2 c2)) w2) : if Region.wanted o (yielded ops ac.tmps) = true then Oper.wp Tryz.prog o ac w K Q else E := by
  have hw : Region.wanted o (yielded ops ac.tmps) = true := by simp [Region.wanted, hgd]
  rw [if_pos hw]
  obtain ⟨a2, c2, w2, h1, h2, h3⟩ := run_append_strs w B a n cap ls hown a' n' cap' rs hr hb hB o.type
  unfold Oper.wp
  simp [execOp, ho, resolve, invoke, builtin, hs, hx, h1, Result.andThen]
  exact h a2 _ c2 w2 rfl h2 h3

/-- A row of texts that was made in its place. -/
theorem OwnS.made (w : World) (ls : List ByteArray) (B n : Nat) (hn : ls.length = n) (hB : B ≤ w.heap.size) (hm : n ≤ maxLen) (vs : Array Value) (hv : vs = (ls.map Value.string).toArray) : OwnS (w.alloc (.cells vs 9)) B (some ⟨w.heap.size, 0, none⟩) n n ls := by
  subst hv
  refine ⟨by simp [hn], .inr ⟨w.heap.size, n, (ls.map Value.string).toArray, rfl, hB, heap_alloc_new w _, Nat.le_refl _, hm, by simp [hn], ?_⟩⟩
  rw [List.take_of_length_le (by simp [hn])]
/-- l[i] = s. -/
theorem OwnS.set {w : World} {B : Nat} {a : Option Addr} {n c : Nat} {ls : List ByteArray} (h : OwnS w B a n c ls) (i : Nat) (hi : i < n) (s : ByteArray) :
    ∃ g, a = some ⟨g, 0, none⟩ ∧ B ≤ g ∧ (∃ v, w.cell? ⟨g, i, none⟩ = some v) ∧ w.frozen? ⟨g, i, none⟩ = false ∧ OwnS (w.setCell ⟨g, i, none⟩ (.string s)) B a n c (ls.set i s) := by
  rcases h.2 with ⟨h2, h3⟩ | ⟨g, c', cur, h1, h3, h4, h5, h6, h7, h8⟩
  · omega
  · cases h1
    have hlt : g < w.heap.size := (Array.getElem?_eq_some_iff.1 h4).1
    refine ⟨g, rfl, h3, ⟨cur[i]'(by omega), ?_⟩, ?_, ⟨by rw [List.map_set, List.length_set]; exact h.1, .inr ⟨g, _, cur.setIfInBounds i (.string s), rfl, h3, ?_, h5, h6, by simpa using h7, ?_⟩⟩⟩
    · simp [World.cell?, h4]
    · simp [World.frozen?, h4]
    · simp [World.setCell, Array.getElem?_modify, h4]
    · rw [Array.toList_setIfInBounds, List.take_set, h8, List.map_set]
end Go.Proofs.YtkohjejfkbaffaaGreat

namespace Go.Proofs.YtkohjejfkbaffaaGreat
open Go.RowKit Go.PlainAid

theorem RdS.made (w : World) (ts : List ByteArray) (n : Nat) (hn : ts.length = n) (hm : n ≤ maxLen) (vs : Array Value) (hv : vs = (ts.map Value.string).toArray) : RdS (w.alloc (.cells vs 9)) (some ⟨w.heap.size, 0, none⟩) n ts := by
  subst hv
  refine ⟨hn, hm, fun j hj => ⟨w.heap.size, 0, rfl, ?_⟩⟩
  have h := heap_alloc_new w (.cells (ts.map Value.string).toArray 9)
  simp only [World.cell?, h, Nat.zero_add]
  rw [List.getElem?_toArray, List.getElem?_map, List.getElem?_eq_getElem (by omega), List.getD_eq_getElem?_getD, List.getElem?_eq_getElem (by omega)]
  rfl


theorem RdS.box (w : World) (s : ByteArray) : RdS (w.alloc (.cells #[.string s] 9)) (some ⟨w.heap.size, 0, none⟩) 1 [s] := RdS.made w [s] 1 rfl (by decide) _ rfl
theorem RdS.none0 (w : World) : RdS w none 0 [] := ⟨rfl, by decide, fun j hj => absurd hj (Nat.not_lt_zero _)⟩
theorem set_split (ls : List ByteArray) (k : Nat) (s : ByteArray) (h : k < ls.length) : ls.set k s = ls.take k ++ ([s] ++ ls.drop (k + 1)) := by
  rw [List.set_eq_take_append_cons_drop, if_pos h]; rfl

set_option maxRecDepth 100000 in
set_option maxHeartbeats 4000000 in
theorem Insert_index (B p : Nat) (a : Option Addr) (n c : Nat) (ls : List ByteArray) (i : Int) (v : Value) (w : World) (hP : Pk w B p a n c ls) (hi : ¬ (0 ≤ i ∧ i ≤ ls.length)) :
    Calls Tryz.prog 33 #[ptr p, .int .i64 i, v] w fun e w' => Below w.heap.size w w' ∧ e = .returned (.int .i64 8) := by
  have hd := hP.cnt
  generalize ls.length = m at hd hi
  clear hP
  by_cases h0 : i < 0
  · go_enter Tryz.func33, Tryz.ntmps33
    go_wp2
    go_ret
    exact ⟨Below.refl _ _, rfl⟩
  · have h1 : (m : Int) < i := by omega
    go_enter Tryz.func33, Tryz.ntmps33
    go_wp2
    go_ret
    exact ⟨Below.refl _ _, rfl⟩

set_option maxRecDepth 100000 in
set_option maxHeartbeats 4000000 in
theorem Insert_to {P : World → Prop} (B p : Nat) (a : Option Addr) (n c : Nat) (ls : List ByteArray) (i : Nat) (a2 : Option Addr) (m c2 : Nat) (w : World) (hP : Pk w B p a n c ls) (hi : i ≤ ls.length) (z : Int)
    (H : Calls Tryz.prog 57 #[ptr p, .int .i64 i, .int .i64 0, .slice a2 m c2] w fun e w' => e = .returned (.int .i64 z) ∧ P w') :
    Calls Tryz.prog 33 #[ptr p, .int .i64 i, .slice a2 m c2] w fun e w' => e = .returned (.int .i64 z) ∧ P w' := by
  have hd := hP.cnt
  have h1 : ¬ ((i : Int) < 0) := by omega
  have h2 : ¬ ((ls.length : Int) < i) := by omega
  generalize ls.length = k at hd h2
  clear hP hi
  go_enter Tryz.func33, Tryz.ntmps33
  go_wp2_with fail
  refine H.mono ?_
  rintro e w1 ⟨rfl, hq⟩
  have HQ : Hid (P w1) := hq
  clear hq
  go_wp2
  go_ret
  exact ⟨rfl, HQ.out⟩

theorem Insert_long (B p : Nat) (a : Option Addr) (n c : Nat) (ls : List ByteArray) (i : Nat) (a2 : Option Addr) (m c2 : Nat) (ts : List ByteArray) (w : World) (hP : Pk w B p a n c ls) (hi : i ≤ ls.length) (hR : RdS w a2 m ts) (hl : ¬ Fit ts) (hs : ∀ s ∈ ts, s.size ≤ 5000) (hm : m ≤ 100000) :
    Calls Tryz.prog 33 #[ptr p, .int .i64 i, .slice a2 m c2] w fun e w' => Below w.heap.size w w' ∧ e = .returned (.int .i64 11) :=
  (Insert_to (P := fun w' => Below w.heap.size w w') B p a n c ls i a2 m c2 w hP hi 11 ((replace_long p a2 m c2 i 0 ts w hR hl hs hm).mono fun _ _ h => ⟨h.2, h.1⟩)).mono fun _ _ h => ⟨h.2, h.1⟩
theorem Insert_full (B p : Nat) (a : Option Addr) (n c : Nat) (ls : List ByteArray) (i : Nat) (a2 : Option Addr) (m c2 : Nat) (ts : List ByteArray) (w : World) (hP : Pk w B p a n c ls) (hf : Fit ls) (hn : n ≤ 65536) (hi : i ≤ ls.length) (hR : RdS w a2 m ts) (hl : Fit ts) (hm : m ≤ 100000) (hx : 65536 < n + (pack ts).length) :
    Calls Tryz.prog 33 #[ptr p, .int .i64 i, .slice a2 m c2] w fun e w' => Below w.heap.size w w' ∧ e = .returned (.int .i64 23) := by
  refine (Insert_to (P := fun w' => Below w.heap.size w w') B p a n c ls i a2 m c2 w hP hi 23 ((replace_full B p a n c ls a2 m c2 i 0 ts w hP hf hn hi hR hl hm ?_).mono fun _ _ h => ⟨h.2, h.1⟩)).mono fun _ _ h => ⟨h.2, h.1⟩
  rw [rep_len, hP.len, Nat.add_zero]
  omega
theorem Insert_ok (B p : Nat) (a : Option Addr) (n c : Nat) (ls : List ByteArray) (i : Nat) (a2 : Option Addr) (m c2 : Nat) (ts : List ByteArray) (w : World) (hP : Pk w B p a n c ls) (hf : Fit ls) (hn : n ≤ 65536) (hi : i ≤ ls.length) (hR : RdS w a2 m ts) (hl : Fit ts) (hm : m ≤ 100000) (hx : n + (pack ts).length ≤ 65536) :
    Calls Tryz.prog 33 #[ptr p, .int .i64 i, .slice a2 m c2] w fun e w' => Turns w B p a (ls.take i ++ (ts ++ ls.drop i)) (.int .i64 0) e w' := by
  refine Insert_to B p a n c ls i a2 m c2 w hP hi 0 ((replace_ok B p a n c ls a2 m c2 i 0 ts w hP hf hn hi hR hl hm ?_).mono fun _ _ h => h)
  rw [rep_len, hP.len, Nat.add_zero]
  omega

theorem fit_one {s : ByteArray} (h : s.size ≤ 4096) : Fit [s] := by
  intro t ht
  rw [List.mem_singleton.1 ht]; exact h
theorem Delete_none (B p : Nat) (a : Option Addr) (n c : Nat) (ls : List ByteArray) (i N : Int) (w : World) (hP : Pk w B p a n c ls) (hi2 : -9223372036854775808 ≤ i) (hk : plc ls.length i = none) :
    Calls Tryz.prog 49 #[ptr p, .int .i64 i, .int .i64 N] w fun e w' => Below w.heap.size w w' ∧ e = .returned (.int .i64 0) := by
  have HW := place_none B p a n c ls i w hP hi2 hk
  clear hP hk
  go_enter Tryz.func49, Tryz.ntmps49
  go_wp2_with fail
  refine HW.mono ?_
  rintro e w1 ⟨hb, x, rfl⟩
  have HB : Hid (Below w.heap.size w w1) := hb
  clear hb
  go_wp2
  go_ret
  exact ⟨HB.out, rfl⟩

theorem Went.after {w w1 : World} {a a' : Option Addr} (hb : Below w.heap.size w w1) (h : Went w1 a a') : Went w a a' := by
  rcases h with h | ⟨q, e1, e2⟩
  · exact .inl h
  · exact .inr ⟨q, e1, Nat.le_trans hb.size e2⟩
theorem went_after {w w1 w2 : World} {B p : Nat} {a : Option Addr} {ls : List ByteArray} (hb : Below w.heap.size w w1) (h : ∃ a' n' c', Pk w2 B p a' n' c' ls ∧ Went w1 a a') : ∃ a' n' c', Pk w2 B p a' n' c' ls ∧ Went w a a' := by
  obtain ⟨a', n', c', h1, h2⟩ := h
  exact ⟨a', n', c', h1, h2.after hb⟩
set_option maxRecDepth 100000 in
set_option maxHeartbeats 4000000 in
theorem Delete_some (B p : Nat) (a : Option Addr) (n c : Nat) (ls : List ByteArray) (i : Int) (k : Nat) (N : Int) (w : World) (hP : Pk w B p a n c ls) (hf : Fit ls) (hn : n ≤ 65536) (hi2 : -9223372036854775808 ≤ i) (hk : plc ls.length i = some k) :
    Calls Tryz.prog 49 #[ptr p, .int .i64 i, .int .i64 N] w fun e w' => Turns w B p a (ls.take k ++ ls.drop (k + gone ls k N)) (.int .i64 (gone ls k N : Nat)) e w' := by
  have hkl := plc_lt hk
  have HW := place_some B p a n c ls i k w hP hi2 hk
  have HP : Hid (Pk w B p a n c ls) := hP
  by_cases hN : N < 1
  · have hg : gone ls k N = 0 := by unfold gone; omega
    rw [hg, Nat.add_zero, List.take_append_drop]
    clear hP hf hk hkl
    go_enter Tryz.func49, Tryz.ntmps49
    go_wp2_with fail
    refine HW.mono ?_
    rintro e w1 ⟨hb, rfl⟩
    have HB : Hid (Below w.heap.size w w1) := hb
    clear hb
    go_wp2
    go_ret
    exact ⟨rfl, Moves.of_below HB.out _ _, _, _, _, HP.out.keep HB.out, .inl rfl⟩
  · obtain ⟨g, hg⟩ : ∃ g, gone ls k N = g := ⟨_, rfl⟩
    have hgl : k + g ≤ ls.length := by have := gone_le ls k N; omega
    have hmany := hP.many
    have HR := fun (w1 : World) (h : Below w.heap.size w w1) => replace_ok B p a n c ls none 0 0 k g [] w1 (hP.keep h) hf hn hgl (RdS.none0 w1) (fun s hs => absurd hs (by simp)) (by decide) (by
      rw [rep_len, hP.len]
      have := off_le ls (k + g)
      have := hP.len
      show _ - _ + 0 ≤ _
      omega)
    simp only [List.nil_append] at HR
    have hmin : min N ((ls.length : Int) - k) = g := by unfold gone at hg; omega
    rw [hg]
    obtain ⟨m, hm⟩ : ∃ m, ls.length = m := ⟨_, rfl⟩
    have hd := fun (w1 : World) (h : Below w.heap.size w w1) => (hP.keep h).cnt
    rw [hm] at hmin hgl hmany hkl
    simp only [hm] at hd
    obtain ⟨r, hr⟩ : ∃ r, m - k = r := ⟨_, rfl⟩
    have hri : (m : Int) - k = r := by omega
    rw [hri] at hmin
    clear hP hf hk hg hm
    by_cases hle : N ≤ r
    · have hNg : N = g := by omega
      subst hNg
      clear hmin
      have hle2 : ¬ ((r : Int) < (g : Int)) := by omega
      go_enter Tryz.func49, Tryz.ntmps49
      go_wp2_with fail
      refine HW.mono ?_
      rintro e w1 ⟨hb, rfl⟩
      have HB : Hid (Below w.heap.size w w1) := hb
      have hd1 := hd w1 hb
      have HR1 := HR w1 hb
      clear hb hd HR HW
      go_wp2_with fail
      refine HR1.mono ?_
      rintro e w2 ⟨rfl, hM, hE⟩
      have HM : Hid (Moves w1 w2 p a) := hM
      have HE2 : Hid (∃ a' n' c', Pk w2 B p a' n' c' (ls.take k ++ ls.drop (k + g)) ∧ Went w1 a a') := hE
      clear hM hE
      go_wp2
      go_ret
      exact ⟨rfl, HM.out.after HB.out, went_after HB.out HE2.out⟩
    · have hrg : r = g := by omega
      subst hrg
      clear hmin
      have hle2 : (r : Int) < N := by omega
      go_enter Tryz.func49, Tryz.ntmps49
      go_wp2_with fail
      refine HW.mono ?_
      rintro e w1 ⟨hb, rfl⟩
      have HB : Hid (Below w.heap.size w w1) := hb
      have hd1 := hd w1 hb
      have HR1 := HR w1 hb
      clear hb hd HR HW
      go_wp2_with fail
      refine HR1.mono ?_
      rintro e w2 ⟨rfl, hM, hE⟩
      have HM : Hid (Moves w1 w2 p a) := hM
      have HE2 : Hid (∃ a' n' c', Pk w2 B p a' n' c' (ls.take k ++ ls.drop (k + r)) ∧ Went w1 a a') := hE
      clear hM hE
      go_wp2
      go_ret
      exact ⟨rfl, HM.out.after HB.out, went_after HB.out HE2.out⟩
end Go.Proofs.YtkohjejfkbaffaaGreat
