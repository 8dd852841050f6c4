/-
  A pack in memory, and what only reads it: walk, place, Len, Size, At.
-/
import Derived.Test.YtbbklfholofajaaPks
import Derived.Test.YtbbklfholofajaaRepAll
namespace Go.Proofs.Ytbbklfholofajaa
open Go.RowKit Go.PlainAid

/-- Block p is a pack whose row has the bytes l. -/
structure Pk (w : World) (B p : Nat) (a : Option Addr) (n c : Nat) (l : List UInt8) : Prop where
  blk : w.heap[p]? = some (.cells #[.slice a n c] 58 (0, 0))
  low : B ≤ p
  own : Own w B a n c l
theorem Pk.cell {w : World} {B p : Nat} {a : Option Addr} {n c : Nat} {l : List UInt8} (h : Pk w B p a n c l) : w.cell? ⟨p, 0, none⟩ = some (.slice a n c) := by simp [World.cell?, h.blk]
theorem Pk.frozen {w : World} {B p : Nat} {a : Option Addr} {n c : Nat} {l : List UInt8} (h : Pk w B p a n c l) : w.frozen? ⟨p, 0, none⟩ = false := by simp [World.frozen?, h.blk]
theorem Pk.lt {w : World} {B p : Nat} {a : Option Addr} {n c : Nat} {l : List UInt8} (h : Pk w B p a n c l) : p < w.heap.size := (Array.getElem?_eq_some_iff.1 h.blk).1
theorem Pk.keep {w wn : World} {B p : Nat} {a : Option Addr} {n c : Nat} {l : List UInt8} (h : Pk w B p a n c l) (hb : Below w.heap.size w wn) : Pk wn B p a n c l :=
  ⟨by rw [hb.block p h.lt]; exact h.blk, h.low, h.own.keep hb⟩
theorem Pk.low' {w : World} {B C p : Nat} {a : Option Addr} {n c : Nat} {l : List UInt8} (h : Pk w B p a n c l) (hC : C ≤ B) : Pk w C p a n c l := ⟨h.blk, Nat.le_trans hC h.low, h.own.low hC⟩
abbrev ptr (p : Nat) : Value := .pointer (some ⟨p, 0, none⟩)

/-- Over how many texts one comes from the i-th on. -/
def gone (ls : List ByteArray) (i : Nat) (n : Int) : Nat := min n.toNat (ls.length - i)
theorem gone_le (ls : List ByteArray) (i : Nat) (n : Int) : gone ls i n ≤ ls.length - i := Nat.min_le_right _ _

set_option maxRecDepth 100000 in
set_option maxHeartbeats 4000000 in
theorem walk_any (B p : Nat) (a : Option Addr) (n c : Nat) (ls : List ByteArray) (i : Nat) (N : Int) (w : World) (hP : Pk w B p a n c (pack ls)) (hf : Fit ls) (hi : i ≤ ls.length) :
    Calls Try.prog 37 #[ptr p, .int .i64 (off ls i : Nat), .int .i64 N] w fun e w' => Below w.heap.size w w' ∧ e = .returned (.tuple #[.int .i64 (off ls (i + gone ls i N) : Nat), .int .i64 (gone ls i N : Nat)]) := by
  obtain ⟨K, hK⟩ : ∃ K, gone ls i N = K := ⟨_, rfl⟩
  rw [hK]
  have hn : n ≤ 9223372036854775807 := Nat.le_trans hP.own.rd.fit hP.own.rd.max
  have HL : Hid ((pack ls).length = n) := hP.own.len
  have HK : Hid (min N.toNat (ls.length - i) = K) := hK
  have HP : Hid (Pk w B p a n c (pack ls)) := hP
  have HF : Hid (Fit ls) := hf
  have HI : Hid (i ≤ ls.length) := hi
  obtain ⟨x0, hx0⟩ : ∃ x0, off ls i = x0 := ⟨_, rfl⟩
  have HX0 : Hid (off ls (i + 0) = x0) := hx0
  rw [hx0]
  clear hP hf hK hx0
  go_enter Try.func37, Try.ntmps37
  go_wp2
  go_loopg [1, 8] K (fun g av gv wr => ∃ k x : Nat, k + g = K ∧ av = .int .i64 x ∧ gv = .int .i64 k ∧ Hid (off ls (i + k) = x) ∧ Hid (Pk wr B p a n c (pack ls)) ∧ Hid (Below w.heap.size w wr))
  case atStart => exact ⟨0, x0, by omega, rfl, rfl, HX0, HP, Below.refl _ _⟩
  case round =>
    obtain ⟨k, x, hk, rfl, rfl, HX, HPr, HB⟩ := hrel
    have hc1 := HPr.out.cell
    by_cases hkK : k < K
    · have h1 : (k : Int) < N := by have := HK.out; omega
      have hil : i + k < ls.length := by have := HK.out; omega
      have h2 : (x : Int) < n := by have := off_lt ls hil; have := HL.out; have := HX.out; omega
      have HD : Hid (decAt (pack ls) (x : Nat) = some (lst (txt ls (i + k)), off ls (i + k + 1))) := by show _ = _; rw [← HX.out]; exact decAt_off HF.out hil
      have HC := Decode_any a n c (pack ls) x wr HPr.out.own.rd (by omega)
      rw [HD.out, cR_some] at HC
      obtain ⟨y, hy⟩ : ∃ y, off ls (i + k + 1) = y := ⟨_, rfl⟩
      rw [hy] at HC
      have HY : Hid (off ls (i + (k + 1)) = y) := hy
      have hkN : k < 9223372036854775806 := by have := HK.out; have := len_pack ls; have := HL.out; omega
      clear hy HD
      go_wp2_with fail
      refine HC.mono ?_
      rintro e w1 ⟨hb, rfl⟩
      have HP1 : Hid (Pk w1 B p a n c (pack ls)) := HPr.out.keep hb
      have HB1 := step_below HB hb
      clear hb
      go_wp2
      go_roundg (gk - 1)
      case measure => omega
      case rel => exact ⟨k + 1, y, by omega, rfl, by go_num, HY, HP1, HB1⟩
    · have hkk : k = K := by omega
      subst hkk
      by_cases h1 : (k : Int) < N
      · have h2 : ¬ ((x : Int) < n) := by
          have := HK.out
          have := HI.out
          have := off_all ls (i := i + k) (by omega)
          have := HL.out
          have := HX.out
          omega
        go_wp2
        go_ret2
        exact ⟨HB.out, by rw [HX.out]; rfl⟩
      · go_wp2
        go_ret2
        exact ⟨HB.out, by rw [HX.out]; rfl⟩

/-- The place that a number means. -/
def plc (m : Nat) (i : Int) : Option Nat := if 0 ≤ i then (if i < m then some i.toNat else none) else if -(m : Int) ≤ i then some (i + m).toNat else none
theorem plc_lt {m : Nat} {i : Int} {k : Nat} (h : plc m i = some k) : k < m := by
  unfold plc at h
  split at h
  · split at h
    · cases h; omega
    · cases h
  · split at h
    · cases h; omega
    · cases h

set_option maxRecDepth 100000 in
set_option maxHeartbeats 4000000 in
theorem place_fore (B p : Nat) (a : Option Addr) (n c : Nat) (ls : List ByteArray) (i : Int) (w : World) (hP : Pk w B p a n c (pack ls)) (hf : Fit ls) (hi : 0 ≤ i) (b : Bool) (hb : decide (i < ls.length) = b) :
    Calls Try.prog 35 #[ptr p, .int .i64 i] w fun e w' => Below w.heap.size w w' ∧ e = .returned (.tuple #[.int .i64 (off ls (gone ls 0 i) : Nat), .bool b]) := by
  have hn : n ≤ 9223372036854775807 := Nat.le_trans hP.own.rd.fit hP.own.rd.max
  have HW := walk_any B p a n c ls 0 i w hP hf (Nat.zero_le _)
  rw [Nat.zero_add, off_zero] at HW
  have HP : Hid (Pk w B p a n c (pack ls)) := hP
  have HD : Hid ((decide (off ls (gone ls 0 i) < n)) = b) := by
    have hl := hP.own.len
    show _ = _
    rw [← hb, Bool.eq_iff_iff, decide_eq_true_eq, decide_eq_true_eq]
    by_cases h : i < ls.length
    · have e : gone ls 0 i = i.toNat := by unfold gone; omega
      have := off_lt ls (i := i.toNat) (by omega)
      rw [e]; omega
    · have := off_all ls (i := gone ls 0 i) (by unfold gone; omega)
      rw [this]; omega
  obtain ⟨x, hx⟩ : ∃ x, off ls (gone ls 0 i) = x := ⟨_, rfl⟩
  rw [hx] at HW HD ⊢
  clear hP hf hb hx
  go_enter Try.func35, Try.ntmps35
  go_wp2_with fail
  refine HW.mono ?_
  rintro e w1 ⟨hb, rfl⟩
  have HB : Hid (Below w.heap.size w w1) := hb
  have hc := (HP.out.keep hb).cell
  clear hb
  go_wp2_with fail
  go_quiet (fail)
  go_wp2
  go_ret2
  exact ⟨HB.out.trans ((below_drewN w1 _).mono HB.out.size), by rw [← HD.out]; rfl⟩

set_option maxRecDepth 100000 in
set_option maxHeartbeats 4000000 in
theorem place_back (B p : Nat) (a : Option Addr) (n c : Nat) (ls : List ByteArray) (i : Int) (w : World) (hP : Pk w B p a n c (pack ls)) (hf : Fit ls) (hi : i < 0) (hi2 : -9223372036854775808 ≤ i) :
    Calls Try.prog 35 #[ptr p, .int .i64 i] w fun e w' => Below w.heap.size w w' ∧ e = .returned (.tuple #[.int .i64 (off ls ((ls.length : Int) + i).toNat : Nat), .bool (decide (-(ls.length : Int) ≤ i))]) := by
  obtain ⟨m, hm⟩ : ∃ m, ls.length = m := ⟨_, rfl⟩
  have hn : n ≤ 9223372036854775807 := Nat.le_trans hP.own.rd.fit hP.own.rd.max
  have HL : Hid ((pack ls).length = n) := hP.own.len
  have hmn : 2 * m ≤ n := by have := len_pack ls; have := hP.own.len; omega
  have HP : Hid (Pk w B p a n c (pack ls)) := hP
  have HF : Hid (Fit ls) := hf
  have HM : Hid (ls.length = m) := hm
  rw [hm]
  have hc := hP.cell
  have HX0 : Hid (off ls (m - 0) = n) := by show _ = _; rw [off_all ls (by omega)]; exact hP.own.len
  obtain ⟨T, hT⟩ : ∃ T, min (-i).toNat m = T := ⟨_, rfl⟩
  have HT : Hid (min (-i).toNat m = T) := hT
  have hTm : T ≤ m := by omega
  have hTi : (T : Int) ≤ -i := by omega
  clear hP hf hm hT
  go_enter Try.func35, Try.ntmps35
  go_wp2
  go_loopg [1, 8] T (fun g iv av wr => ∃ t x : Nat, ∃ z : Int, t + g = T ∧ iv = .int .i64 z ∧ Hid (z = i + t) ∧ av = .int .i64 x ∧ Hid (off ls (m - t) = x) ∧ Hid (Pk wr B p a n c (pack ls)) ∧ Hid (Below w.heap.size w wr))
  case atStart => exact ⟨0, n, i, by omega, rfl, (by show _ = _; omega), rfl, HX0, HP, Below.refl _ _⟩
  case round =>
    obtain ⟨t, x, z, ht, rfl, HZ, rfl, HX, HPr, HB⟩ := hrel
    have hc1 := HPr.out.cell
    by_cases htT : t < T
    · have h1 : z < 0 := by have := HZ.out; omega
      have hzl : -9223372036854775808 ≤ z := by have := HZ.out; omega
      have h2 : (0 : Int) < x := by have := off_pos ls (i := m - t) (by omega) (by have := HM.out; omega); have := HX.out; omega
      have hxn : x ≤ n := by have := off_le ls (m - t); have := HL.out; have := HX.out; omega
      have hil : m - t - 1 < ls.length := by have := HM.out; omega
      have HD : Hid (bkAt (pack ls) (x : Nat) = some ((off ls (m - t - 1) : Nat) : Int)) := by
        show _ = _
        rw [← HX.out]
        have := bkAt_off HF.out hil
        rw [show m - t - 1 + 1 = m - t by omega] at this
        exact this
      have HC := Back_any a n c (pack ls) x wr HPr.out.own.rd
      rw [HD.out, kR_some] at HC
      obtain ⟨y, hy⟩ : ∃ y, off ls (m - t - 1) = y := ⟨_, rfl⟩
      rw [hy] at HC
      have HY : Hid (off ls (m - (t + 1)) = y) := hy
      clear hy HD
      go_wp2_with fail
      refine HC.mono ?_
      rintro e w1 ⟨hb, rfl⟩
      have HP1 : Hid (Pk w1 B p a n c (pack ls)) := HPr.out.keep hb
      have HB1 := step_below HB hb
      clear hb
      go_wp2
      go_roundg (gk - 1)
      case measure => omega
      case rel => exact ⟨t + 1, y, z + 1, by omega, by go_num, (by have := HZ.out; show _ = _; omega), rfl, HY, HP1, HB1⟩
    · have htt : t = T := by omega
      subst htt
      by_cases h1 : z < 0
      · have hem : t = m := by have := HT.out; have := HZ.out; omega
        subst hem
        have hx0 : x = 0 := by have := HX.out; rw [Nat.sub_self, off_zero] at this; omega
        subst hx0
        have HR : Hid (decide (-(t : Int) ≤ i) = false) := by show _ = _; rw [decide_eq_false_iff_not]; have := HZ.out; omega
        have HR2 : Hid (off ls ((t : Int) + i).toNat = 0) := by show _ = _; rw [show ((t : Int) + i).toNat = 0 by have := HZ.out; omega]; rfl
        have hz0 : (z == 0) = false := by simp; omega
        go_wp2
        go_ret2
        exact ⟨HB.out, by rw [HR.out, HR2.out]; rfl⟩
      · have hz0 : z = 0 := by have := HZ.out; omega
        subst hz0
        have HR : Hid (decide (-(m : Int) ≤ i) = true) := by show _ = _; rw [decide_eq_true_eq]; have := HZ.out; omega
        have HR2 : Hid (off ls ((m : Int) + i).toNat = x) := by show _ = _; rw [show ((m : Int) + i).toNat = m - t by have := HZ.out; omega]; exact HX.out
        go_wp2
        go_ret2
        exact ⟨HB.out, by rw [HR.out, HR2.out]; rfl⟩

theorem place_some (B p : Nat) (a : Option Addr) (n c : Nat) (ls : List ByteArray) (i : Int) (k : Nat) (w : World) (hP : Pk w B p a n c (pack ls)) (hf : Fit ls) (hi2 : -9223372036854775808 ≤ i) (hk : plc ls.length i = some k) :
    Calls Try.prog 35 #[ptr p, .int .i64 i] w fun e w' => Below w.heap.size w w' ∧ e = .returned (.tuple #[.int .i64 (off ls k : Nat), .bool true]) := by
  unfold plc at hk
  split at hk
  · split at hk
    · have := place_fore B p a n c ls i w hP hf (by omega) true (decide_eq_true (by assumption))
      rw [show gone ls 0 i = k by unfold gone; have := Option.some.inj hk; omega] at this
      exact this
    · cases hk
  · split at hk
    · have := place_back B p a n c ls i w hP hf (by omega) hi2
      rw [show ((ls.length : Int) + i).toNat = k by have := Option.some.inj hk; omega, decide_eq_true (by assumption)] at this
      exact this
    · cases hk
theorem place_none (B p : Nat) (a : Option Addr) (n c : Nat) (ls : List ByteArray) (i : Int) (w : World) (hP : Pk w B p a n c (pack ls)) (hf : Fit ls) (hi2 : -9223372036854775808 ≤ i) (hk : plc ls.length i = none) :
    Calls Try.prog 35 #[ptr p, .int .i64 i] w fun e w' => Below w.heap.size w w' ∧ ∃ x : Nat, e = .returned (.tuple #[.int .i64 x, .bool false]) := by
  unfold plc at hk
  split at hk
  · split at hk
    · cases hk
    · exact (place_fore B p a n c ls i w hP hf (by omega) false (decide_eq_false (by assumption))).mono (fun e w' h => ⟨h.1, _, h.2⟩)
  · split at hk
    · cases hk
    · have := place_back B p a n c ls i w hP hf (by omega) hi2
      rw [decide_eq_false (by assumption)] at this
      exact this.mono (fun e w' h => ⟨h.1, _, h.2⟩)

theorem Len_any (B p : Nat) (a : Option Addr) (n c : Nat) (ls : List ByteArray) (w : World) (hP : Pk w B p a n c (pack ls)) (hf : Fit ls) :
    Calls Try.prog 26 #[ptr p] w fun e w' => Below w.heap.size w w' ∧ e = .returned (.int .i64 (ls.length : Nat)) := by
  have HW := walk_any B p a n c ls 0 n w hP hf (Nat.zero_le _)
  rw [Nat.zero_add, off_zero, show gone ls 0 n = ls.length by unfold gone; have := len_pack ls; have := hP.own.len; omega] at HW
  have hc := hP.cell
  clear hP hf
  go_enter Try.func26, Try.ntmps26
  go_wp2_with fail
  refine HW.mono ?_
  rintro e w1 ⟨hb, rfl⟩
  have HB : Hid (Below w.heap.size w w1) := hb
  clear hb
  go_wp2
  go_ret
  exact ⟨HB.out, rfl⟩
theorem Size_pk (B p : Nat) (a : Option Addr) (n c : Nat) (l : List UInt8) (w : World) (hP : Pk w B p a n c l) :
    Calls Try.prog 31 #[ptr p] w fun e w' => e = .returned (.int .i64 n) ∧ w' = w := by
  have hc := hP.cell
  clear hP
  go_enter Try.func31, Try.ntmps31
  go_wp2
  go_ret
  exact ⟨rfl, rfl⟩

theorem At_some (B p : Nat) (a : Option Addr) (n c : Nat) (ls : List ByteArray) (i : Int) (k : Nat) (w : World) (hP : Pk w B p a n c (pack ls)) (hf : Fit ls) (hi2 : -9223372036854775808 ≤ i) (hk : plc ls.length i = some k) :
    Calls Try.prog 25 #[ptr p, .int .i64 i] w fun e w' => Below w.heap.size w w' ∧ e = .returned (.tuple #[.string (txt ls k), .bool true]) := by
  have hn : n ≤ 9223372036854775807 := Nat.le_trans hP.own.rd.fit hP.own.rd.max
  have HW := place_some B p a n c ls i k w hP hf hi2 hk
  have hkl := plc_lt hk
  have HD : Hid (decAt (pack ls) (off ls k : Nat) = some (lst (txt ls k), off ls (k + 1))) := decAt_off hf hkl
  have hx63 : off ls k ≤ n := by have := off_le ls k; have := hP.own.len; omega
  obtain ⟨x, hx⟩ : ∃ x, off ls k = x := ⟨_, rfl⟩
  rw [hx] at HW HD hx63
  have HP : Hid (Pk w B p a n c (pack ls)) := hP
  clear hP hf hk hkl hx
  go_enter Try.func25, Try.ntmps25
  go_wp2_with fail
  refine HW.mono ?_
  rintro e w1 ⟨hb, rfl⟩
  have HB : Hid (Below w.heap.size w w1) := hb
  have HP1 : Hid (Pk w1 B p a n c (pack ls)) := HP.out.keep hb
  have hc := HP1.out.cell
  have HC := Decode_any a n c (pack ls) x w1 HP1.out.own.rd (by omega)
  rw [HD.out, cR_some, bs_lst] at HC
  clear hb
  go_wp2_with fail
  refine HC.mono ?_
  rintro e w2 ⟨hb, rfl⟩
  have HB2 := step_below HB hb
  clear hb
  go_wp2
  go_ret2
  exact ⟨HB2.out, rfl⟩
theorem At_none (B p : Nat) (a : Option Addr) (n c : Nat) (ls : List ByteArray) (i : Int) (w : World) (hP : Pk w B p a n c (pack ls)) (hf : Fit ls) (hi2 : -9223372036854775808 ≤ i) (hk : plc ls.length i = none) :
    Calls Try.prog 25 #[ptr p, .int .i64 i] w fun e w' => Below w.heap.size w w' ∧ e = .returned (.tuple #[.string ⟨#[]⟩, .bool false]) := by
  have HW := place_none B p a n c ls i w hP hf hi2 hk
  clear hP hf hk
  go_enter Try.func25, Try.ntmps25
  go_wp2_with fail
  refine HW.mono ?_
  rintro e w1 ⟨hb, x, rfl⟩
  have HB : Hid (Below w.heap.size w w1) := hb
  clear hb
  go_wp2
  go_ret2
  exact ⟨HB.out, rfl⟩
end Go.Proofs.Ytbbklfholofajaa
