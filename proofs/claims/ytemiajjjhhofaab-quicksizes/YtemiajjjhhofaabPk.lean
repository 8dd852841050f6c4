/-
  A pack in memory, and what only reads it: skip, begin, place, Len, Size, At.
-/
import Derived.Test.YtemiajjjhhofaabPks
import Derived.Test.YtemiajjjhhofaabRepAll
import Derived.Test.YtemiajjjhhofaabExt
namespace Go.Proofs.Ytemiajjjhhofaab
open Go.RowKit Go.PlainAid

/-- Block p is a pack that has the texts ls. -/
structure Pk (w : World) (B p : Nat) (a : Option Addr) (n c : Nat) (ls : List ByteArray) : Prop where
  blk : w.heap[p]? = some (.cells #[.slice a n c, .int .i64 (ls.length : Nat)] 59 (0, 0))
  low : B ≤ p
  own : Own w B a n c (pack ls)
theorem Pk.cell {w : World} {B p : Nat} {a : Option Addr} {n c : Nat} {ls : List ByteArray} (h : Pk w B p a n c ls) : w.cell? ⟨p, 0, none⟩ = some (.slice a n c) := by simp [World.cell?, h.blk]
theorem Pk.cnt {w : World} {B p : Nat} {a : Option Addr} {n c : Nat} {ls : List ByteArray} (h : Pk w B p a n c ls) : w.cell? ⟨p, 1, none⟩ = some (.int .i64 (ls.length : Nat)) := by simp [World.cell?, h.blk]
theorem Pk.frozen {w : World} {B p : Nat} {a : Option Addr} {n c : Nat} {ls : List ByteArray} (h : Pk w B p a n c ls) : w.frozen? ⟨p, 0, none⟩ = false := by simp [World.frozen?, h.blk]
theorem Pk.lt {w : World} {B p : Nat} {a : Option Addr} {n c : Nat} {ls : List ByteArray} (h : Pk w B p a n c ls) : p < w.heap.size := (Array.getElem?_eq_some_iff.1 h.blk).1
theorem Pk.keep {w wn : World} {B p : Nat} {a : Option Addr} {n c : Nat} {ls : List ByteArray} (h : Pk w B p a n c ls) (hb : Below w.heap.size w wn) : Pk wn B p a n c ls :=
  ⟨by rw [hb.block p h.lt]; exact h.blk, h.low, h.own.keep hb⟩
theorem Pk.low' {w : World} {B C p : Nat} {a : Option Addr} {n c : Nat} {ls : List ByteArray} (h : Pk w B p a n c ls) (hC : C ≤ B) : Pk w C p a n c ls := ⟨h.blk, Nat.le_trans hC h.low, h.own.low hC⟩
theorem Pk.len {w : World} {B p : Nat} {a : Option Addr} {n c : Nat} {ls : List ByteArray} (h : Pk w B p a n c ls) : (pack ls).length = n := h.own.len
theorem Pk.max {w : World} {B p : Nat} {a : Option Addr} {n c : Nat} {ls : List ByteArray} (h : Pk w B p a n c ls) : n ≤ 9223372036854775807 := Nat.le_trans h.own.rd.fit h.own.rd.max
theorem Pk.many {w : World} {B p : Nat} {a : Option Addr} {n c : Nat} {ls : List ByteArray} (h : Pk w B p a n c ls) : 2 * ls.length ≤ n := by have := len_pack ls; have := h.len; omega
abbrev ptr (p : Nat) : Value := .pointer (some ⟨p, 0, none⟩)

/-- Over how many texts one comes from the i-th on. -/
def gone (ls : List ByteArray) (i : Nat) (n : Int) : Nat := min n.toNat (ls.length - i)
theorem gone_le (ls : List ByteArray) (i : Nat) (n : Int) : gone ls i n ≤ ls.length - i := Nat.min_le_right _ _

set_option maxRecDepth 100000 in
set_option maxHeartbeats 4000000 in
theorem skip_any (B p : Nat) (a : Option Addr) (n c : Nat) (ls : List ByteArray) (i : Nat) (N : Int) (w : World) (hP : Pk w B p a n c ls) (hf : Fit ls) (hi : i ≤ ls.length) (hN : -9223372036854775808 ≤ N) (hN2 : N ≤ 9223372036854775807) :
    Calls Try.prog 80 #[ptr p, .int .i64 (off ls i : Nat), .int .i64 N] w fun e w' => Below w.heap.size w w' ∧ e = .returned (.int .i64 (off ls (i + gone ls i N) : Nat)) := by
  obtain ⟨K, hK⟩ : ∃ K, gone ls i N = K := ⟨_, rfl⟩
  rw [hK]
  have hn := hP.max
  have HL : Hid ((pack ls).length = n) := hP.own.len
  have HK : Hid (min N.toNat (ls.length - i) = K) := hK
  have HP : Hid (Pk w B p a n c ls) := hP
  have HF : Hid (Fit ls) := hf
  have HI : Hid (i ≤ ls.length) := hi
  obtain ⟨x0, hx0⟩ : ∃ x0, off ls i = x0 := ⟨_, rfl⟩
  have HX0 : Hid (off ls (i + 0) = x0) := hx0
  rw [hx0]
  clear hP hf hK hx0
  go_enter Try.func80, Try.ntmps80
  go_wp2
  go_loopg [1, 2] K (fun g av nv wr => ∃ k x : Nat, ∃ z : Int, k + g = K ∧ av = .int .i64 x ∧ nv = .int .i64 z ∧ Hid (z = N - k) ∧ Hid (off ls (i + k) = x) ∧ Hid (Pk wr B p a n c ls) ∧ Hid (Below w.heap.size w wr))
  case atStart => exact ⟨0, x0, N, by omega, rfl, rfl, (by show _ = _; omega), HX0, HP, Below.refl _ _⟩
  case round =>
    obtain ⟨k, x, z, hk, rfl, rfl, HZ, HX, HPr, HB⟩ := hrel
    have hc1 := HPr.out.cell
    by_cases hkK : k < K
    · have h1 : (0 : Int) < z := by have := HK.out; have := HZ.out; omega
      have hz2 : z ≤ 9223372036854775807 := by have := HZ.out; omega
      have hil : i + k < ls.length := by have := HK.out; omega
      have h2 : (x : Int) < n := by have := off_lt ls hil; have := HL.out; have := HX.out; omega
      have HD : Hid (decAt (pack ls) (x : Nat) = some (lst (txt ls (i + k)), off ls (i + k + 1))) := by show _ = _; rw [← HX.out]; exact decAt_off HF.out hil
      have HC := Decode_any a n c (pack ls) x wr HPr.out.own.rd (by omega)
      rw [HD.out, cR_some] at HC
      obtain ⟨y, hy⟩ : ∃ y, off ls (i + k + 1) = y := ⟨_, rfl⟩
      rw [hy] at HC
      have HY : Hid (off ls (i + (k + 1)) = y) := hy
      clear hy HD
      go_wp2_with fail
      refine HC.mono ?_
      rintro e w1 ⟨hb, rfl⟩
      have HP1 : Hid (Pk w1 B p a n c ls) := HPr.out.keep hb
      have HB1 := step_below HB hb
      clear hb
      go_wp2
      go_roundg (gk - 1)
      case measure => omega
      case rel => exact ⟨k + 1, y, z - 1, by omega, rfl, by go_num, (by have := HZ.out; show _ = _; omega), HY, HP1, HB1⟩
    · have hkk : k = K := by omega
      subst hkk
      by_cases h1 : (0 : Int) < z
      · have h2 : ¬ ((x : Int) < n) := by
          have := HK.out
          have := HI.out
          have := HZ.out
          have := off_all ls (i := i + k) (by omega)
          have := HL.out
          have := HX.out
          omega
        go_wp2
        go_ret
        exact ⟨HB.out, by rw [HX.out]; rfl⟩
      · go_wp2
        go_ret
        exact ⟨HB.out, by rw [HX.out]; rfl⟩

set_option maxRecDepth 100000 in
set_option maxHeartbeats 4000000 in
theorem begin_any (B p : Nat) (a : Option Addr) (n c : Nat) (ls : List ByteArray) (i : Nat) (w : World) (hP : Pk w B p a n c ls) (hf : Fit ls) (hi : i ≤ ls.length) :
    Calls Try.prog 64 #[ptr p, .int .i64 (i : Nat)] w fun e w' => Below w.heap.size w w' ∧ e = .returned (.int .i64 (off ls i : Nat)) := by
  have hn := hP.max
  have hm := hP.many
  have hc := hP.cell
  have hd := hP.cnt
  obtain ⟨m, hM⟩ : ∃ m, ls.length = m := ⟨_, rfl⟩
  rw [hM] at hd hm hi
  have hq : (m : Int).tdiv 2 = ((m / 2 : Nat) : Int) := by rw [Int.tdiv_eq_ediv_of_nonneg (by omega)]; omega
  obtain ⟨q, hqq⟩ : ∃ q, m / 2 = q := ⟨_, rfl⟩
  rw [hqq] at hq
  by_cases hiq : i ≤ q
  · have HS := skip_any B p a n c ls 0 i w hP hf (Nat.zero_le _) (by omega) (by omega)
    rw [off_zero, Nat.zero_add, show gone ls 0 (i : Int) = i by unfold gone; omega] at HS
    obtain ⟨x, hx⟩ : ∃ x, off ls i = x := ⟨_, rfl⟩
    rw [hx] at HS ⊢
    clear hP hf hx
    go_enter Try.func64, Try.ntmps64
    go_wp2_with fail
    refine HS.mono ?_
    rintro e w1 ⟨hb, rfl⟩
    have HB : Hid (Below w.heap.size w w1) := hb
    clear hb
    go_wp2
    go_ret
    exact ⟨HB.out, rfl⟩
  · have HL : Hid ((pack ls).length = n) := hP.own.len
    have HP : Hid (Pk w B p a n c ls) := hP
    have HF : Hid (Fit ls) := hf
    have HM : Hid (ls.length = m) := hM
    have HX0 : Hid (off ls m = n) := by show _ = _; rw [off_all ls (by omega)]; exact hP.own.len
    obtain ⟨T, hT⟩ : ∃ T, m - i = T := ⟨_, rfl⟩
    clear hP hf hM
    go_enter Try.func64, Try.ntmps64
    go_wp2
    go_loopg [1, 5] T (fun g iv av wr => ∃ k x : Nat, k + g = T ∧ iv = .int .i64 (i + k : Nat) ∧ av = .int .i64 x ∧ Hid (off ls (m - k) = x) ∧ Hid (Pk wr B p a n c ls) ∧ Hid (Below w.heap.size w wr))
    case atStart => exact ⟨0, n, by omega, rfl, rfl, HX0, HP, Below.refl _ _⟩
    case round =>
      obtain ⟨k, x, hk, rfl, rfl, HX, HPr, HB⟩ := hrel
      have hc1 := HPr.out.cell
      have hd1 := HPr.out.cnt
      rw [HM.out] at hd1
      by_cases hkK : k < T
      · have h1 : ((i + k : Nat) : Int) < m := by omega
        have hxn : x ≤ n := by have := off_le ls (m - k); have := HL.out; have := HX.out; omega
        have hil : m - k - 1 < ls.length := by have := HM.out; omega
        have HD : Hid (bkAt (pack ls) (x : Nat) = some ((off ls (m - k - 1) : Nat) : Int)) := by
          show _ = _
          rw [← HX.out]
          have := bkAt_off HF.out hil
          rw [show m - k - 1 + 1 = m - k by omega] at this
          exact this
        have HC := Back_any a n c (pack ls) x wr HPr.out.own.rd
        rw [HD.out, kR_some] at HC
        obtain ⟨y, hy⟩ : ∃ y, off ls (m - k - 1) = y := ⟨_, rfl⟩
        rw [hy] at HC
        have HY : Hid (off ls (m - (k + 1)) = y) := hy
        clear hy HD
        go_wp2_with fail
        refine HC.mono ?_
        rintro e w1 ⟨hb, rfl⟩
        have HP1 : Hid (Pk w1 B p a n c ls) := HPr.out.keep hb
        have HB1 := step_below HB hb
        clear hb
        go_wp2
        go_roundg (gk - 1)
        case measure => omega
        case rel => exact ⟨k + 1, y, by omega, by go_num, rfl, HY, HP1, HB1⟩
      · have hkk : k = T := by omega
        subst hkk
        have h1 : ¬ (((i + k : Nat) : Int) < m) := by omega
        have HE : Hid (off ls i = x) := by have := HX.out; rw [show m - k = i by omega] at this; exact this
        go_wp2
        go_ret
        exact ⟨HB.out, by rw [HE.out]; rfl⟩

/-- The place that a number means. -/
def plc (m : Nat) (i : Int) : Option Nat := if 0 ≤ i then (if i < m then some i.toNat else none) else if -(m : Int) ≤ i then some (i + m).toNat else none
theorem plc_lt {m : Nat} {i : Int} {k : Nat} (h : plc m i = some k) : k < m := by
  unfold plc at h
  split at h
  · split at h
    · cases h; omega
    · cases h
  · split at h
    · cases h; omega
    · cases h

set_option maxRecDepth 100000 in
set_option maxHeartbeats 4000000 in
theorem place_some (B p : Nat) (a : Option Addr) (n c : Nat) (ls : List ByteArray) (i : Int) (k : Nat) (w : World) (hP : Pk w B p a n c ls) (hi2 : -9223372036854775808 ≤ i) (hk : plc ls.length i = some k) :
    Calls Try.prog 32 #[ptr p, .int .i64 i] w fun e w' => Below w.heap.size w w' ∧ e = .returned (.tuple #[.int .i64 (k : Nat), .bool true]) := by
  have hkl := plc_lt hk
  have hd := hP.cnt
  have hm := hP.many
  have hn := hP.max
  generalize ls.length = m at hkl hd hm hk
  clear hP
  unfold plc at hk
  by_cases hi : 0 ≤ i
  · rw [if_pos hi] at hk
    have hik : i = k := by
      split at hk
      · have := Option.some.inj hk; omega
      · cases hk
    subst hik
    clear hk
    have h1 : decide ((k : Int) < m) = true := decide_eq_true (by omega)
    go_enter Try.func32, Try.ntmps32
    go_wp2_with fail
    go_quiet (fail)
    go_wp2
    go_ret2
    exact ⟨below_drewN w _, rfl⟩
  · rw [if_neg hi] at hk
    have hik : i + m = k := by
      split at hk
      · have := Option.some.inj hk; omega
      · cases hk
    clear hk
    have hi0 : i < 0 := by omega
    have h0 : (0 : Int) ≤ k := by omega
    have h1 : decide ((k : Int) < m) = true := decide_eq_true (by omega)
    go_enter Try.func32, Try.ntmps32
    go_wp2_with fail
    go_quiet (fail)
    go_wp2
    go_ret2
    exact ⟨below_drewN w _, rfl⟩
set_option maxRecDepth 100000 in
set_option maxHeartbeats 4000000 in
theorem place_none (B p : Nat) (a : Option Addr) (n c : Nat) (ls : List ByteArray) (i : Int) (w : World) (hP : Pk w B p a n c ls) (hi2 : -9223372036854775808 ≤ i) (hk : plc ls.length i = none) :
    Calls Try.prog 32 #[ptr p, .int .i64 i] w fun e w' => Below w.heap.size w w' ∧ ∃ x : Int, e = .returned (.tuple #[.int .i64 x, .bool false]) := by
  have hd := hP.cnt
  have hm := hP.many
  have hn := hP.max
  generalize ls.length = m at hd hm hk
  clear hP
  unfold plc at hk
  by_cases hi : 0 ≤ i
  · rw [if_pos hi] at hk
    have hik : ¬ i < m := by
      split at hk
      · cases hk
      · assumption
    clear hk
    have h1 : decide (i < m) = false := decide_eq_false hik
    go_enter Try.func32, Try.ntmps32
    go_wp2_with fail
    go_quiet (fail)
    go_wp2
    go_ret2
    exact ⟨below_drewN w _, _, rfl⟩
  · rw [if_neg hi] at hk
    have hik : ¬ -(m : Int) ≤ i := by
      split at hk
      · cases hk
      · assumption
    clear hk
    have hi0 : i < 0 := by omega
    obtain ⟨z, hz⟩ : ∃ z, i + m = z := ⟨_, rfl⟩
    have hz0 : decide (0 ≤ z) = false := decide_eq_false (by omega)
    have hz1 : ¬ (0 ≤ z) := by omega
    have hz2 : -9223372036854775808 ≤ z := by omega
    go_enter Try.func32, Try.ntmps32
    go_wp2_with fail
    go_quiet (fail)
    go_wp2
    go_ret2
    exact ⟨below_drewN w _, _, rfl⟩

theorem Len_any (B p : Nat) (a : Option Addr) (n c : Nat) (ls : List ByteArray) (w : World) (hP : Pk w B p a n c ls) :
    Calls Try.prog 34 #[ptr p] w fun e w' => e = .returned (.int .i64 (ls.length : Nat)) ∧ w' = w := by
  have hd := hP.cnt
  clear hP
  go_enter Try.func34, Try.ntmps34
  go_wp2
  go_ret
  exact ⟨rfl, rfl⟩
theorem Size_pk (B p : Nat) (a : Option Addr) (n c : Nat) (ls : List ByteArray) (w : World) (hP : Pk w B p a n c ls) :
    Calls Try.prog 35 #[ptr p] w fun e w' => e = .returned (.int .i64 n) ∧ w' = w := by
  have hc := hP.cell
  clear hP
  go_enter Try.func35, Try.ntmps35
  go_wp2
  go_ret
  exact ⟨rfl, rfl⟩

set_option maxRecDepth 100000 in
set_option maxHeartbeats 4000000 in
theorem At_some (B p : Nat) (a : Option Addr) (n c : Nat) (ls : List ByteArray) (i : Int) (k : Nat) (w : World) (hP : Pk w B p a n c ls) (hf : Fit ls) (hi2 : -9223372036854775808 ≤ i) (hk : plc ls.length i = some k) :
    Calls Try.prog 39 #[ptr p, .int .i64 i] w fun e w' => Below w.heap.size w w' ∧ e = .returned (.tuple #[.string (txt ls k), .bool true]) := by
  have HW := place_some B p a n c ls i k w hP hi2 hk
  have hkl := plc_lt hk
  have HD : Hid (decAt (pack ls) (off ls k : Nat) = some (lst (txt ls k), off ls (k + 1))) := decAt_off hf hkl
  have hx63 : off ls k ≤ 9223372036854775807 := by have := off_le ls k; have := hP.own.len; have := hP.max; omega
  have HG := fun (w1 : World) (h : Below w.heap.size w w1) => begin_any B p a n c ls k w1 (hP.keep h) hf (Nat.le_of_lt hkl)
  have HC := fun (w1 : World) (h : Below w.heap.size w w1) => Decode_any a n c (pack ls) (off ls k) w1 (hP.own.rd.keep h) (by omega)
  rw [HD.out, cR_some, bs_lst] at HC
  obtain ⟨x, hx⟩ : ∃ x, off ls k = x := ⟨_, rfl⟩
  rw [hx] at HG HC
  have hcl := fun (w1 : World) (h : Below w.heap.size w w1) => (hP.keep h).cell
  clear hP hf hk hkl HD hx
  go_enter Try.func39, Try.ntmps39
  go_wp2_with fail
  refine HW.mono ?_
  rintro e w1 ⟨hb, rfl⟩
  have HB : Hid (Below w.heap.size w w1) := hb
  have hex : Nonempty (Ext w1) := ⟨⟨w1, Below.refl _ _⟩⟩
  have HG1 := fun x : Ext w1 => HG x.wx (hb.trans (x.ok.mono hb.size))
  have HC1 := fun x : Ext w1 => HC x.wx (hb.trans (x.ok.mono hb.size))
  have hcl1 := fun x : Ext w1 => hcl x.wx (hb.trans (x.ok.mono hb.size))
  clear hb HG HC hcl HW
  go_wp2_with fail
  refine wp_region_ext (by kernel_rfl) (by kernel_rfl) ?_
  repeat (go_big_quiet_step (first | (go_at_call 64; exact Calls.ext_of (HG1 _)) | (go_at_call 68; exact Calls.ext_of (HC1 _))))
  refine wpQuiet_nil ?_
  intro wz hz
  obtain ⟨x, rfl⟩ := hz
  have HB2 := step_below HB x.ok
  go_wp2
  go_ret2
  exact ⟨HB2.out, rfl⟩
theorem At_none (B p : Nat) (a : Option Addr) (n c : Nat) (ls : List ByteArray) (i : Int) (w : World) (hP : Pk w B p a n c ls) (hi2 : -9223372036854775808 ≤ i) (hk : plc ls.length i = none) :
    Calls Try.prog 39 #[ptr p, .int .i64 i] w fun e w' => Below w.heap.size w w' ∧ e = .returned (.tuple #[.string ⟨#[]⟩, .bool false]) := by
  have HW := place_none B p a n c ls i w hP hi2 hk
  clear hP hk
  go_enter Try.func39, Try.ntmps39
  go_wp2_with fail
  refine HW.mono ?_
  rintro e w1 ⟨hb, x, rfl⟩
  have HB : Hid (Below w.heap.size w w1) := hb
  clear hb
  go_wp2
  go_ret2
  exact ⟨HB.out, rfl⟩
end Go.Proofs.Ytemiajjjhhofaab
