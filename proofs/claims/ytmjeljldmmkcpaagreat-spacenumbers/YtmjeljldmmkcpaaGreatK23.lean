/- Texts that the others stand on. -/
import Derived.Test.YtmjeljldmmkcpaaGreatK22
set_option maxRecDepth 100000
set_option maxHeartbeats 4000000
namespace Go.Proofs.YtmjeljldmmkcpaaGreat
open Go.RowKit Go.PlainAid
structure Pk (w : World) (B p : Nat) (a : Option Addr) (n c : Nat) (ls : List BA) : Prop where
 blk : w.heap[p]? = some (.cells #[.slice a n c, .int .i64 (ls.length : Nat)] 192 (0, 0))
 low : B ≤ p
 own : Own w B a n c (pack ls)
theorem Pk.cell {w : World} {B p : Nat} {a : Option Addr} {n c : Nat} {ls : List BA} (h : Pk w B p a n c ls) : w.cell? ⟨p, 0, none⟩ = some (.slice a n c) := by simp [World.cell?, h.blk]
theorem Pk.cnt {w : World} {B p : Nat} {a : Option Addr} {n c : Nat} {ls : List BA} (h : Pk w B p a n c ls) : w.cell? ⟨p, 1, none⟩ = some (.int .i64 (ls.length : Nat)) := by simp [World.cell?, h.blk]
theorem Pk.lt {w : World} {B p : Nat} {a : Option Addr} {n c : Nat} {ls : List BA} (h : Pk w B p a n c ls) : p < w.heap.size := (Array.getElem?_eq_some_iff.1 h.blk).1
theorem Pk.keep {w wn : World} {B p : Nat} {a : Option Addr} {n c : Nat} {ls : List BA} (h : Pk w B p a n c ls) (hb : Below w.heap.size w wn) : Pk wn B p a n c ls :=
 ⟨by rw [hb.block p h.lt]; exact h.blk, h.low, h.own.keep hb⟩
theorem Pk.low' {w : World} {B C p : Nat} {a : Option Addr} {n c : Nat} {ls : List BA} (h : Pk w B p a n c ls) (hC : C ≤ B) : Pk w C p a n c ls := ⟨h.blk, Nat.le_trans hC h.low, h.own.low hC⟩
theorem Pk.len {w : World} {B p : Nat} {a : Option Addr} {n c : Nat} {ls : List BA} (h : Pk w B p a n c ls) : (pack ls).length = n := h.own.len
theorem Pk.max {w : World} {B p : Nat} {a : Option Addr} {n c : Nat} {ls : List BA} (h : Pk w B p a n c ls) : n ≤ 9223372036854775807 := Nat.le_trans h.own.rd.fit h.own.rd.max
theorem Pk.many {w : World} {B p : Nat} {a : Option Addr} {n c : Nat} {ls : List BA} (h : Pk w B p a n c ls) : 2 * ls.length ≤ n := by have := len_pack ls; have := h.len; omega
abbrev ptr (p : Nat) : Value := .pointer (some ⟨p, 0, none⟩)
def gone (ls : List BA) (i : Nat) (n : Int) : Nat := min n.toNat (ls.length - i)
theorem gone_le (ls : List BA) (i : Nat) (n : Int) : gone ls i n ≤ ls.length - i := Nat.min_le_right _ _
theorem skip_any (B p : Nat) (a : Option Addr) (n c : Nat) (ls : List BA) (i : Nat) (N : Int) (w : World) (hP : Pk w B p a n c ls) (hf : Fit ls) (hi : i ≤ ls.length) (hN : -9223372036854775808 ≤ N) (hN2 : N ≤ 9223372036854775807) :
  Calls Tryz.prog 243 #[ptr p, .int .i64 (off ls i : Nat), .int .i64 N] w fun e w' => Below w.heap.size w w' ∧ e = .returned (.int .i64 (off ls (i + gone ls i N) : Nat)) := by
 obtain ⟨K, hK⟩ : ∃ K, gone ls i N = K := ⟨_, rfl⟩
 rw [hK]
 have hn := hP.max
 have HL : Hid ((pack ls).length = n) := hP.own.len
 have HK : Hid (min N.toNat (ls.length - i) = K) := hK
 have HP : Hid (Pk w B p a n c ls) := hP
 have HF : Hid (Fit ls) := hf
 have HI : Hid (i ≤ ls.length) := hi
 obtain ⟨x0, hx0⟩ : ∃ x0, off ls i = x0 := ⟨_, rfl⟩
 have HX0 : Hid (off ls (i + 0) = x0) := hx0
 rw [hx0]
 clear hP hf hK hx0
 go_enter Tryz.func243, Tryz.ntmps243
 go_wp2
 go_loopg [1, 2] K (fun g av nv wr => ∃ k x : Nat, ∃ z : Int, k + g = K ∧ av = .int .i64 x ∧ nv = .int .i64 z ∧ Hid (z = N - k) ∧ Hid (off ls (i + k) = x) ∧ Hid (Pk wr B p a n c ls) ∧ Hid (Below w.heap.size w wr))
 case atStart => exact ⟨0, x0, N, by omega, rfl, rfl, (by show _ = _; omega), HX0, HP, Below.refl _ _⟩
 case round =>
  obtain ⟨k, x, z, hk, rfl, rfl, HZ, HX, HPr, HB⟩ := hrel
  have hc1 := HPr.out.cell
  by_cases hkK : k < K
  ·have h1 : (0 : Int) < z := by have := HK.out; have := HZ.out; omega
   have hz2 : z ≤ 9223372036854775807 := by have := HZ.out; omega
   have hil : i + k < ls.length := by have := HK.out; omega
   have h2 : (x : Int) < n := by have := off_lt ls hil; have := HL.out; have := HX.out; omega
   have HD : Hid (decAt (pack ls) (x : Nat) = some (lst (txt ls (i + k)), off ls (i + k + 1))) := by show _ = _; rw [← HX.out]; exact decAt_off HF.out hil
   have HC := Decode_any a n c (pack ls) x wr HPr.out.own.rd (by omega)
   rw [HD.out, cR_some] at HC
   obtain ⟨y, hy⟩ : ∃ y, off ls (i + k + 1) = y := ⟨_, rfl⟩
   rw [hy] at HC
   have HY : Hid (off ls (i + (k + 1)) = y) := hy
   clear hy HD
   go_wp2_with fail
   refine HC.mono ?_
   rintro e w1 ⟨hb, rfl⟩
   have HP1 : Hid (Pk w1 B p a n c ls) := HPr.out.keep hb
   have HB1 := Ad HB hb
   clear hb
   go_wp2
   go_roundg (gk - 1)
   case measure => omega
   case rel => exact ⟨k + 1, y, z - 1, by omega, rfl, by go_num, (by have := HZ.out; show _ = _; omega), HY, HP1, HB1⟩
  ·have hkk : k = K := by omega
   subst hkk
   by_cases h1 : (0 : Int) < z
   ·have h2 : ¬ ((x : Int) < n) := by
     have := HK.out
     have := HI.out
     have := HZ.out
     have := off_all ls (i := i + k) (by omega)
     have := HL.out
     have := HX.out
     omega
    go_wp2
    go_ret
    exact ⟨HB.out, by rw [HX.out]; rfl⟩
   ·go_wp2
    go_ret
    exact ⟨HB.out, by rw [HX.out]; rfl⟩
theorem begin_any (B p : Nat) (a : Option Addr) (n c : Nat) (ls : List BA) (i : Nat) (w : World) (hP : Pk w B p a n c ls) (hf : Fit ls) (hi : i ≤ ls.length) :
  Calls Tryz.prog 195 #[ptr p, .int .i64 (i : Nat)] w fun e w' => Below w.heap.size w w' ∧ e = .returned (.int .i64 (off ls i : Nat)) := by
 have hn := hP.max
 have hm := hP.many
 have hc := hP.cell
 have hd := hP.cnt
 obtain ⟨m, hM⟩ : ∃ m, ls.length = m := ⟨_, rfl⟩
 rw [hM] at hd hm hi
 have hq : (m : Int).tdiv 2 = ((m / 2 : Nat) : Int) := by rw [Int.tdiv_eq_ediv_of_nonneg (by omega)]; omega
 obtain ⟨q, hqq⟩ : ∃ q, m / 2 = q := ⟨_, rfl⟩
 rw [hqq] at hq
 by_cases hiq : i ≤ q
 ·have HS := skip_any B p a n c ls 0 i w hP hf (Nat.zero_le _) (by omega) (by omega)
  rw [off_zero, Nat.zero_add, show gone ls 0 (i : Int) = i by unfold gone; omega] at HS
  obtain ⟨x, hx⟩ : ∃ x, off ls i = x := ⟨_, rfl⟩
  rw [hx] at HS ⊢
  clear hP hf hx
  go_enter Tryz.func195, Tryz.ntmps195
  go_wp2_with fail
  refine HS.mono ?_
  rintro e w1 ⟨hb, rfl⟩
  have HB : Hid (Below w.heap.size w w1) := hb
  clear hb
  go_wp2
  go_ret
  exact ⟨HB.out, rfl⟩
 ·have HL : Hid ((pack ls).length = n) := hP.own.len
  have HP : Hid (Pk w B p a n c ls) := hP
  have HF : Hid (Fit ls) := hf
  have HM : Hid (ls.length = m) := hM
  have HX0 : Hid (off ls m = n) := by show _ = _; rw [off_all ls (by omega)]; exact hP.own.len
  obtain ⟨T, hT⟩ : ∃ T, m - i = T := ⟨_, rfl⟩
  clear hP hf hM
  go_enter Tryz.func195, Tryz.ntmps195
  go_wp2
  go_loopg [1, 5] T (fun g iv av wr => ∃ k x : Nat, k + g = T ∧ iv = .int .i64 (i + k : Nat) ∧ av = .int .i64 x ∧ Hid (off ls (m - k) = x) ∧ Hid (Pk wr B p a n c ls) ∧ Hid (Below w.heap.size w wr))
  case atStart => exact ⟨0, n, by omega, rfl, rfl, HX0, HP, Below.refl _ _⟩
  case round =>
   obtain ⟨k, x, hk, rfl, rfl, HX, HPr, HB⟩ := hrel
   have hc1 := HPr.out.cell
   have hd1 := HPr.out.cnt
   rw [HM.out] at hd1
   by_cases hkK : k < T
   ·have h1 : ((i + k : Nat) : Int) < m := by omega
    have hxn : x ≤ n := by have := off_le ls (m - k); have := HL.out; have := HX.out; omega
    have hil : m - k - 1 < ls.length := by have := HM.out; omega
    have HD : Hid (bkAt (pack ls) (x : Nat) = some ((off ls (m - k - 1) : Nat) : Int)) := by
     show _ = _
     rw [← HX.out]
     have := bkAt_off HF.out hil
     rw [show m - k - 1 + 1 = m - k by omega] at this
     exact this
    have HC := Back_any a n c (pack ls) x wr HPr.out.own.rd
    rw [HD.out, kR_some] at HC
    obtain ⟨y, hy⟩ : ∃ y, off ls (m - k - 1) = y := ⟨_, rfl⟩
    rw [hy] at HC
    have HY : Hid (off ls (m - (k + 1)) = y) := hy
    clear hy HD
    go_wp2_with fail
    refine HC.mono ?_
    rintro e w1 ⟨hb, rfl⟩
    have HP1 : Hid (Pk w1 B p a n c ls) := HPr.out.keep hb
    have HB1 := Ad HB hb
    clear hb
    go_wp2
    go_roundg (gk - 1)
    case measure => omega
    case rel => exact ⟨k + 1, y, by omega, by go_num, rfl, HY, HP1, HB1⟩
   ·have hkk : k = T := by omega
    subst hkk
    have h1 : ¬ (((i + k : Nat) : Int) < m) := by omega
    have HE : Hid (off ls i = x) := by have := HX.out; rw [show m - k = i by omega] at this; exact this
    go_wp2
    go_ret
    exact ⟨HB.out, by rw [HE.out]; rfl⟩
def plc (m : Nat) (i : Int) : Option Nat := if 0 ≤ i then (if i < m then some i.toNat else none) else if -(m : Int) ≤ i then some (i + m).toNat else none
theorem plc_lt {m : Nat} {i : Int} {k : Nat} (h : plc m i = some k) : k < m := by
 unfold plc at h
 split at h
 ·split at h
  ·cases h; omega
  ·cases h
 ·split at h
  ·cases h; omega
  ·cases h
theorem place_some (B p : Nat) (a : Option Addr) (n c : Nat) (ls : List BA) (i : Int) (k : Nat) (w : World) (hP : Pk w B p a n c ls) (hi2 : -9223372036854775808 ≤ i) (hk : plc ls.length i = some k) :
  Calls Tryz.prog 193 #[ptr p, .int .i64 i] w fun e w' => Below w.heap.size w w' ∧ e = .returned (.tuple #[.int .i64 (k : Nat), .bool true]) := by
 have hkl := plc_lt hk
 have hd := hP.cnt
 have hm := hP.many
 have hn := hP.max
 generalize ls.length = m at hkl hd hm hk
 clear hP
 unfold plc at hk
 by_cases hi : 0 ≤ i
 ·rw [if_pos hi] at hk
  have hik : i = k := by
   split at hk
   ·have := Option.some.inj hk; omega
   ·cases hk
  subst hik
  clear hk
  have h1 : decide ((k : Int) < m) = true := decide_eq_true (by omega)
  go_enter Tryz.func193, Tryz.ntmps193
  go_wp2_with fail
  go_quiet (fail)
  go_wp2
  go_ret2
  exact ⟨Aa w _, rfl⟩
 ·rw [if_neg hi] at hk
  have hik : i + m = k := by
   split at hk
   ·have := Option.some.inj hk; omega
   ·cases hk
  clear hk
  have hi0 : i < 0 := by omega
  have h0 : (0 : Int) ≤ k := by omega
  have h1 : decide ((k : Int) < m) = true := decide_eq_true (by omega)
  go_enter Tryz.func193, Tryz.ntmps193
  go_wp2_with fail
  go_quiet (fail)
  go_wp2
  go_ret2
  exact ⟨Aa w _, rfl⟩
theorem Len_any (B p : Nat) (a : Option Addr) (n c : Nat) (ls : List BA) (w : World) (hP : Pk w B p a n c ls) :
  Calls Tryz.prog 148 #[ptr p] w fun e w' => e = .returned (.int .i64 (ls.length : Nat)) ∧ w' = w := by
 have hd := hP.cnt
 clear hP
 go_enter Tryz.func148, Tryz.ntmps148
 go_wp2
 go_ret
 exact ⟨rfl, rfl⟩
theorem Size_pk (B p : Nat) (a : Option Addr) (n c : Nat) (ls : List BA) (w : World) (hP : Pk w B p a n c ls) :
  Calls Tryz.prog 190 #[ptr p] w fun e w' => e = .returned (.int .i64 n) ∧ w' = w := by
 have hc := hP.cell
 clear hP
 go_enter Tryz.func190, Tryz.ntmps190
 go_wp2
 go_ret
 exact ⟨rfl, rfl⟩
theorem At_some (B p : Nat) (a : Option Addr) (n c : Nat) (ls : List BA) (i : Int) (k : Nat) (w : World) (hP : Pk w B p a n c ls) (hf : Fit ls) (hi2 : -9223372036854775808 ≤ i) (hk : plc ls.length i = some k) :
  Calls Tryz.prog 151 #[ptr p, .int .i64 i] w fun e w' => Below w.heap.size w w' ∧ e = .returned (.tuple #[.string (txt ls k), .bool true]) := by
 have HW := place_some B p a n c ls i k w hP hi2 hk
 have hkl := plc_lt hk
 have HD : Hid (decAt (pack ls) (off ls k : Nat) = some (lst (txt ls k), off ls (k + 1))) := decAt_off hf hkl
 have hx63 : off ls k ≤ 9223372036854775807 := by have := off_le ls k; have := hP.own.len; have := hP.max; omega
 have HG := fun (w1 : World) (h : Below w.heap.size w w1) => begin_any B p a n c ls k w1 (hP.keep h) hf (Nat.le_of_lt hkl)
 have HC := fun (w1 : World) (h : Below w.heap.size w w1) => Decode_any a n c (pack ls) (off ls k) w1 (hP.own.rd.keep h) (by omega)
 rw [HD.out, cR_some, bs_lst] at HC
 obtain ⟨x, hx⟩ : ∃ x, off ls k = x := ⟨_, rfl⟩
 rw [hx] at HG HC
 have hcl := fun (w1 : World) (h : Below w.heap.size w w1) => (hP.keep h).cell
 clear hP hf hk hkl HD hx
 go_enter Tryz.func151, Tryz.ntmps151
 go_wp2_with fail
 refine HW.mono ?_
 rintro e w1 ⟨hb, rfl⟩
 have HB : Hid (Below w.heap.size w w1) := hb
 have hex : Nonempty (Ext w1) := ⟨⟨w1, Below.refl _ _⟩⟩
 have HG1 := fun x : Ext w1 => HG x.wx (hb.trans (x.ok.mono hb.size))
 have HC1 := fun x : Ext w1 => HC x.wx (hb.trans (x.ok.mono hb.size))
 have hcl1 := fun x : Ext w1 => hcl x.wx (hb.trans (x.ok.mono hb.size))
 clear hb HG HC hcl HW
 go_wp2_with fail
 refine wp_region_ext (by kernel_rfl) (by kernel_rfl) ?_
 repeat (go_big_quiet_step (first | (go_at_call 195; exact Calls.ext_of (HG1 _)) | (go_at_call 194; exact Calls.ext_of (HC1 _))))
 refine wpQuiet_nil ?_
 intro wz hz
 obtain ⟨x, rfl⟩ := hz
 have HB2 := Ad HB x.ok
 go_wp2
 go_ret2
 exact ⟨HB2.out, rfl⟩
structure Ai (w w' : World) (p : Nat) (a : Option Addr) : Prop where
 os : w'.os = w.os
 tape : w'.tape = w.tape
 output : w'.output = w.output
 size : w.heap.size ≤ w'.heap.size
 block : ∀ k, k < w.heap.size → k ≠ p → some k ≠ a.map (·.block) → w'.heap[k]? = w.heap[k]?
theorem Ai.of_below {w w' : World} (h : Below w.heap.size w w') (p : Nat) (a : Option Addr) : Ai w w' p a := ⟨h.os, h.tape, h.output, h.size, fun k hk _ _ => h.block k hk⟩
theorem Ai.after {w w1 w2 : World} {p : Nat} {a : Option Addr} (h : Below w.heap.size w w1) (k : Ai w1 w2 p a) : Ai w w2 p a :=
 ⟨k.os.trans h.os, k.tape.trans h.tape, k.output.trans h.output, Nat.le_trans h.size k.size, fun i hi h1 h2 => (k.block i (Nat.lt_of_lt_of_le hi h.size) h1 h2).trans (h.block i hi)⟩
def Turns (w : World) (B p : Nat) (a : Option Addr) (l : List BA) (v : Value) (e : Ending) (w' : World) : Prop :=
 e = .returned v ∧ Ai w w' p a ∧ ∃ a' n' c', Pk w' B p a' n' c' l ∧ Went w a a'
theorem encodeAll_fit (a : Option Addr) (n c : Nat) (ls : List BA) (w : World) (hR : RdS w a n ls) (hf : Fit ls) (hn : n ≤ 100000) :
  Calls Tryz.prog 238 #[.slice a n c] w fun e w' => Below w.heap.size w w' ∧ ∃ a2 n2 c2, e = .returned (.tuple #[.slice a2 n2 c2, .int .i64 0]) ∧ Own w' w.heap.size a2 n2 c2 (pack ls) ∧ (n2 = 0 → a2 = none) := by
 have HR : Hid (RdS w a n ls) := hR
 have HL : Hid (ls.length = n) := hR.len
 have HS : Hid (∀ s ∈ ls, s.size ≤ 4096) := hf
 have HO : Hid (Own w w.heap.size none 0 0 []) := Own.nil w _
 clear hR hf
 go_enter Tryz.func238, Tryz.ntmps238
 go_wp2
 go_loopg [4, 11] n (fun g bv iv wr => ∃ (i : Nat) (a2 : Option Addr) (n2 c2 : Nat), i + g = n ∧ Hid (i = 0 → a2 = none) ∧ bv = .slice a2 n2 c2 ∧ iv = .int .i64 i ∧ Hid (Own wr w.heap.size a2 n2 c2 (pack (ls.take i))) ∧ Hid (Below w.heap.size w wr))
 case atStart => exact ⟨0, none, 0, 0, by omega, (fun _ => rfl), rfl, rfl, HO, Below.refl _ _⟩
 case round =>
  obtain ⟨i, a2, n2, c2, hi, HN0, rfl, rfl, HO, HB⟩ := hrel
  by_cases h1 : (i : Int) < n
  ·obtain ⟨b, off, ha, hc⟩ := HR.out.cell i (by omega)
   subst ha
   have hc1 : wr.cell? ⟨b, off + i, none⟩ = some (.string (ls.getD i ByteArray.empty)) := by
    rw [HB.out.cell (p := ⟨b, off + i, none⟩) (World.block_lt_of_cell? _ _ hc)]; exact hc
   have hil : i < ls.length := by have := HL.out; omega
   have hss := short_get HS.out i hil
   have HP : Hid (pack (ls.take i) ++ enc (lst (ls.getD i ByteArray.empty)) = pack (ls.take (i + 1))) := (pack_take ls i hil).symm
   have hl2 : n2 ≤ 500000000 := by
    have h2 := pack_len (ls.take i) 4096 (fun s hs => HS.out s (List.mem_of_mem_take hs))
    rw [HO.out.len, List.length_take] at h2
    have : min i ls.length * (4096 + 11) ≤ 100000 * (4096 + 11) := Nat.mul_le_mul_right _ (by omega)
    omega
   generalize ls.getD i ByteArray.empty = s at hc1 hss HP
   have HE := fun w => Encode_any s w hss
   have hel := (enc_len (lst s)).2
   rw [len_lst] at hel
   have HEL : Hid ((enc (lst s)).length ≤ 5000) := by show _ ≤ _; omega
   have HL2 : Hid (n2 ≤ 500000000) := hl2
   clear hc hil hl2 hel
   go_wp2_with fail
   refine (HE _).mono ?_
   rintro e w1 ⟨hb, a3, n3, c3, rfl, hO3⟩
   have HO1 : Hid (Own w1 w.heap.size a2 n2 c2 (pack (ls.take i))) := HO.out.keep hb
   have HR3 : Hid (Rd w1 a3 n3 c3 (enc (lst s))) := hO3.rd
   have H1 := Ad HB hb
   have HM : Hid (n2 + n3 ≤ 140737488355328) := by
    have := hO3.len
    have := HEL.out
    have := HL2.out
    show _ ≤ _
    omega
   clear hb hO3
   go_wp2_with (at_builtin; refine append_row rfl (.tmp 23) (.tmp 24) rfl w.heap.size rfl HO1.out rfl HR3.out HM.out H1.out.size ?_; intro a4 n4 c4 w4 hn4 hO4 hB4; have HO4 : Hid (Own w4 w.heap.size a4 n4 c4 (pack (ls.take (i + 1)))) := (by rw [HP.out] at hO4; exact hO4); have HB4 : Hid (Below w.heap.size w w4) := H1.out.trans hB4; clear hn4 hO4 hB4)
   go_roundg (gk - 1)
   case measure => omega
   case rel => exact ⟨i + 1, _, _, _, by omega, (fun h => absurd h (Nat.succ_ne_zero i)), rfl, by go_num, HO4, HB4⟩
  ·have HE : Hid (pack (ls.take i) = pack ls) := by
    show _ = _
    rw [List.take_of_length_le (by have := HL.out; omega)]
   go_wp2
   go_ret2
   refine ⟨HB.out, _, _, _, rfl, by rw [← HE.out]; exact HO.out, fun h0 => HN0.out ?_⟩
   have h2 := HO.out.len
   have h3 := len_pack (ls.take i)
   rw [List.length_take] at h3
   have := HL.out
   omega
theorem Own.old {w : World} {B : Nat} {a : Option Addr} {n c : Nat} {l : List UInt8} (h : Own w B a n c l) : ∀ x, a = some x → x.block < w.heap.size := by
 intro x hx
 subst hx
 exact (h.lt x.block rfl).2
theorem Own.ne_pk {w : World} {B p : Nat} {a : Option Addr} {n c : Nat} {l : List UInt8} {v : Array Value} (h : Own w B a n c l) (hp : w.heap[p]? = some (.cells v 192 (0, 0))) : some p ≠ a.map (·.block) := by
 intro e
 cases a with
 | none => cases e
 | some x =>
  have e2 : p = x.block := Option.some.inj e
  rcases h.2 with ⟨k2, -⟩ | ⟨g', c3, cur', k1, k3, k4, k5⟩
  ·cases k2
  ·cases k1
   subst e2
   rw [k4] at hp
   simp at hp
theorem Pk.store {w w1 : World} {B p : Nat} {a a' : Option Addr} {n c n' c' : Nat} {ls ls' : List BA} (hP : Pk w B p a n c ls) (hO : Own w1 B a' n' c' (pack ls')) (hg : w.grownBy w1 (a.map (·.block))) :
  Pk ((w1.setCell ⟨p, 0, none⟩ (.slice a' n' c')).setCell ⟨p, 1, none⟩ (.int .i64 (ls'.length : Nat))) B p a' n' c' ls' ∧ Ai w ((w1.setCell ⟨p, 0, none⟩ (.slice a' n' c')).setCell ⟨p, 1, none⟩ (.int .i64 (ls'.length : Nat))) p a := by
 have h1 : w1.heap[p]? = some (.cells #[.slice a n c, .int .i64 (ls.length : Nat)] 192 (0, 0)) := by rw [hg.block p hP.lt (hP.own.ne_pk hP.blk)]; exact hP.blk
 have h2 := As (Cy w1 p 0 (.slice a' n' c')) (Cy (w1.setCell ⟨p, 0, none⟩ (.slice a' n' c')) p 1 (.int .i64 (ls'.length : Nat)))
 refine ⟨⟨?_, hP.low, hO.grow h2 ?_⟩, ⟨h2.os.trans hg.os, h2.tape.trans hg.tape, h2.output.trans hg.output, Nat.le_trans hg.size h2.size, fun k hk k1 k2 => ?_⟩⟩
 ·simp [World.setCell, Array.getElem?_modify, h1]
 ·intro g e
  subst e
  have := hO.ne_pk h1
  intro e2
  exact this e2.symm
 ·rw [h2.block k (Nat.lt_of_lt_of_le hk hg.size) (fun e => k1 (Option.some.inj e)), hg.block k hk k2]
theorem Pk.cell1 {w w1 : World} {B p : Nat} {a : Option Addr} {n c : Nat} {ls : List BA} (hP : Pk w B p a n c ls) (hg : w.grownBy w1 (a.map (·.block))) (v : Value) : w1.cell? ⟨p, 0, none⟩ = some (.slice a n c) ∧ w1.frozen? ⟨p, 0, none⟩ = false ∧ (w1.setCell ⟨p, 0, none⟩ v).cell? ⟨p, 1, none⟩ = some (.int .i64 (ls.length : Nat)) ∧ (w1.setCell ⟨p, 0, none⟩ v).frozen? ⟨p, 1, none⟩ = false := by
 have h1 : w1.heap[p]? = some (.cells #[.slice a n c, .int .i64 (ls.length : Nat)] 192 (0, 0)) := by rw [hg.block p hP.lt (hP.own.ne_pk hP.blk)]; exact hP.blk
 exact ⟨by simp [World.cell?, h1], by simp [World.frozen?, h1], by simp [World.cell?, World.setCell, Array.getElem?_modify, h1], by simp [World.frozen?, World.setCell, Array.getElem?_modify, h1]⟩
theorem off_mono (ls : List BA) (i g : Nat) : off ls i ≤ off ls (i + g) := by
 unfold off
 have : ls.take (i + g) = ls.take i ++ (ls.drop i).take g := List.take_add
 rw [this, B4, List.length_append]; omega
theorem rep_pack (ls ts : List BA) (i g : Nat) : (pack ls).take (off ls i) ++ (pack ts ++ (pack ls).drop (off ls (i + g))) = pack (ls.take i ++ (ts ++ ls.drop (i + g))) := by
 rw [take_off, drop_off, B4, B4]
theorem rep_len (ls ts : List BA) (i g : Nat) : (pack (ls.take i ++ (ts ++ ls.drop (i + g)))).length = (pack ls).length - (off ls (i + g) - off ls i) + (pack ts).length := by
 have h1 := off_mono ls i g
 have h2 := off_le ls (i + g)
 rw [← rep_pack, List.length_append, List.length_append, List.length_take, List.length_drop]
 omega
theorem replace_ok (B p : Nat) (a : Option Addr) (n c : Nat) (ls : List BA) (a2 : Option Addr) (m c2 i g : Nat) (ts : List BA) (w : World) (hP : Pk w B p a n c ls) (hf : Fit ls) (hn : n ≤ 65536) (hi : i + g ≤ ls.length) (hR : RdS w a2 m ts) (hl : Fit ts) (hm : m ≤ 100000) (hx : (pack (ls.take i ++ (ts ++ ls.drop (i + g)))).length ≤ 65536) :
  Calls Tryz.prog 192 #[ptr p, .int .i64 i, .int .i64 g, .slice a2 m c2] w fun e w' => Turns w B p a (ls.take i ++ (ts ++ ls.drop (i + g))) (.int .i64 0) e w' := by
 have HP : Hid (Pk w B p a n c ls) := hP
 have HE := encodeAll_fit a2 m c2 ts w hR hl hm
 have HG1 := fun (w1 : World) (h : Below w.heap.size w w1) => begin_any B p a n c ls i w1 (hP.keep h) hf (by omega)
 have HG2 := fun (w1 : World) (h : Below w.heap.size w w1) => begin_any B p a n c ls (i + g) w1 (hP.keep h) hf hi
 have hq := rep_len ls ts i g
 have h1 := off_mono ls i g
 have h2 := off_le ls (i + g)
 have hll : ls.length ≤ 65536 := by have := hP.many; omega
 have HLN : Hid ((ls.length : Int) + ((m : Int) - (g : Int)) = ((ls.take i ++ (ts ++ ls.drop (i + g))).length : Nat)) := by
  have := hR.len
  show _ = _
  rw [List.length_append, List.length_append, List.length_take, List.length_drop]
  omega
 have HQ : Hid ((pack ls).take (off ls i) ++ (pack ts ++ (pack ls).drop (off ls (i + g))) = pack (ls.take i ++ (ts ++ ls.drop (i + g)))) := rep_pack ls ts i g
 rw [hP.len] at hq h2
 have hig : i + g ≤ 65536 := by have := hP.many; omega
 have HT : Hid ((pack ts).length ≤ 65536) := by show _ ≤ _; omega
 have hc := hP.cell
 obtain ⟨x, hxx⟩ : ∃ x, off ls i = x := ⟨_, rfl⟩
 obtain ⟨y, hyy⟩ : ∃ y, off ls (i + g) = y := ⟨_, rfl⟩
 rw [hxx] at HG1 hq h1 HQ
 rw [hyy] at HG2 hq h1 h2 HQ
 have HX : Hid (n - (y - x) + (pack ts).length ≤ 65536) := by show _ ≤ _; omega
 have HZ : Hid (ts = [] → m = 0) := by show _ → _; intro h; have := hR.len; rw [h] at this; exact this.symm
 have hl0 := hP.own.old
 have HOld : Hid (∀ x, a = some x → x.block < w.heap.size) := hl0
 have hLB : B ≤ w.heap.size := Nat.le_trans hP.low (Nat.le_of_lt hP.lt)
 obtain ⟨LL, hLL⟩ : ∃ LL, ls.take i ++ (ts ++ ls.drop (i + g)) = LL := ⟨_, rfl⟩
 rw [hLL] at HLN HQ ⊢
 clear hP hf hR hl hx hxx hyy hq hi hLL hl0
 go_enter Tryz.func192, Tryz.ntmps192
 go_wp2_with fail
 refine HE.mono ?_
 rintro e w1 ⟨hb, a3, n3, c3, rfl, hO, hN⟩
 have HN : Hid (n3 = 0 → a3 = none) := hN
 have HB : Hid (Below w.heap.size w w1) := hb
 have HO : Hid (Own w1 w.heap.size a3 n3 c3 (pack ts)) := hO
 have hn3 : n3 ≤ 65536 := by have := hO.len; have := HT.out; omega
 have hx3 : n - (y - x) + n3 ≤ 65536 := by have := hO.len; have := HX.out; omega
 have HG := HG1 w1 hb
 clear hb hO hN HE HG1
 go_wp2_with fail
 refine HG.mono ?_
 rintro e w2 ⟨hb, rfl⟩
 have HB2 := Ad HB hb
 have HO2 : Hid (Own w2 w.heap.size a3 n3 c3 (pack ts)) := HO.out.keep hb
 have HG := HG2 w2 HB2.out
 clear hb HG2
 go_wp2_with fail
 refine HG.mono ?_
 rintro e w3 ⟨hb, rfl⟩
 have HB3 := Ad HB2 hb
 have HO3 : Hid (Own w3 w.heap.size a3 n3 c3 (pack ts)) := HO2.out.keep hb
 have HP3 : Hid (Pk w3 B p a n c ls) := HP.out.keep HB3.out
 have hc3 := HP3.out.cell
 have hd3 := HP3.out.cnt
 clear hb
 have HZ3 : 0 < n3 ∨ a3 = none := by
  rcases Nat.eq_zero_or_pos n3 with h0 | h0
  ·right
   exact HN.out h0
  ·exact .inl h0
 have HR := Replace_sl B w.heap.size a n c (pack ls) a3 n3 c3 (pack ts) x y w3 HP3.out.own HO3.out HOld.out h1 h2 HZ3 (by omega) (Nat.le_trans hLB HB3.out.size)
 rw [HQ.out] at HR
 obtain ⟨d, hd⟩ : ∃ d, y - x = d := ⟨_, rfl⟩
 obtain ⟨q, hq⟩ : ∃ q, n - d = q := ⟨_, rfl⟩
 have hdi : (y : Int) - (x : Int) = d := by omega
 have hqi : (n : Int) - (d : Int) = q := by omega
 have hx2 : ¬ ((65536 : Int) < (q : Int) + (n3 : Int)) := by omega
 go_wp2_with fail
 refine HR.mono ?_
 rintro e w4 ⟨a', n', c', rfl, hO, hg, hW⟩
 have HW : Hid (Went w a a') := by
  rcases hW with h | ⟨b, e1, e2⟩
  ·exact .inl h
  ·exact .inr ⟨b, e1, Nat.le_trans HB3.out.size e2⟩
 have HS : Hid (Pk ((w4.setCell ⟨p, 0, none⟩ (.slice a' n' c')).setCell ⟨p, 1, none⟩ (.int .i64 (LL.length : Nat))) B p a' n' c' LL ∧ Ai w3 ((w4.setCell ⟨p, 0, none⟩ (.slice a' n' c')).setCell ⟨p, 1, none⟩ (.int .i64 (LL.length : Nat))) p a) := HP3.out.store hO hg
 obtain ⟨hc4, hf4, hc5, hf5⟩ := HP3.out.cell1 hg (.slice a' n' c')
 have hln := HLN.out
 generalize ls.length = lsn at hc5 hln hll
 generalize LL.length = lln at HS hln
 clear hO hg hW HLN
 go_wp2
 go_ret
 exact ⟨rfl, HS.out.2.after HB3.out, _, _, _, HS.out.1, HW.out⟩
theorem RdS.made (w : World) (ts : List BA) (n : Nat) (hn : ts.length = n) (hm : n ≤ maxLen) (vs : Array Value) (hv : vs = (ts.map Value.string).toArray) : RdS (w.alloc (.cells vs 9)) (some ⟨w.heap.size, 0, none⟩) n ts := by
 subst hv
 refine ⟨hn, hm, fun j hj => ⟨w.heap.size, 0, rfl, ?_⟩⟩
 have h := heap_alloc_new w (.cells (ts.map Value.string).toArray 9)
 simp only [World.cell?, h, Nat.zero_add]
 rw [List.getElem?_toArray, List.getElem?_map, List.getElem?_eq_getElem (by omega), List.getD_eq_getElem?_getD, List.getElem?_eq_getElem (by omega)]
 rfl
theorem RdS.box (w : World) (s : BA) : RdS (w.alloc (.cells #[.string s] 9)) (some ⟨w.heap.size, 0, none⟩) 1 [s] := RdS.made w [s] 1 rfl (by decide) _ rfl
theorem RdS.none0 (w : World) : RdS w none 0 [] := ⟨rfl, by decide, fun j hj => absurd hj (Nat.not_lt_zero _)⟩
theorem Insert_to {P : World → Prop} (B p : Nat) (a : Option Addr) (n c : Nat) (ls : List BA) (i : Nat) (a2 : Option Addr) (m c2 : Nat) (w : World) (hP : Pk w B p a n c ls) (hi : i ≤ ls.length) (z : Int)
  (H : Calls Tryz.prog 192 #[ptr p, .int .i64 i, .int .i64 0, .slice a2 m c2] w fun e w' => e = .returned (.int .i64 z) ∧ P w') :
  Calls Tryz.prog 147 #[ptr p, .int .i64 i, .slice a2 m c2] w fun e w' => e = .returned (.int .i64 z) ∧ P w' := by
 have hd := hP.cnt
 have h1 : ¬ ((i : Int) < 0) := by omega
 have h2 : ¬ ((ls.length : Int) < i) := by omega
 generalize ls.length = k at hd h2
 clear hP hi
 go_enter Tryz.func147, Tryz.ntmps147
 go_wp2_with fail
 refine H.mono ?_
 rintro e w1 ⟨rfl, hq⟩
 have HQ : Hid (P w1) := hq
 clear hq
 go_wp2
 go_ret
 exact ⟨rfl, HQ.out⟩
theorem Insert_ok (B p : Nat) (a : Option Addr) (n c : Nat) (ls : List BA) (i : Nat) (a2 : Option Addr) (m c2 : Nat) (ts : List BA) (w : World) (hP : Pk w B p a n c ls) (hf : Fit ls) (hn : n ≤ 65536) (hi : i ≤ ls.length) (hR : RdS w a2 m ts) (hl : Fit ts) (hm : m ≤ 100000) (hx : n + (pack ts).length ≤ 65536) :
  Calls Tryz.prog 147 #[ptr p, .int .i64 i, .slice a2 m c2] w fun e w' => Turns w B p a (ls.take i ++ (ts ++ ls.drop i)) (.int .i64 0) e w' := by
 refine Insert_to B p a n c ls i a2 m c2 w hP hi 0 ((replace_ok B p a n c ls a2 m c2 i 0 ts w hP hf hn hi hR hl hm ?_).mono fun _ _ h => h)
 rw [rep_len, hP.len, Nat.add_zero]
 omega
theorem fit_one {s : BA} (h : s.size ≤ 4096) : Fit [s] := by
 intro t ht
 rw [List.mem_singleton.1 ht]; exact h
theorem Went.after {w w1 : World} {a a' : Option Addr} (hb : Below w.heap.size w w1) (h : Went w1 a a') : Went w a a' := by
 rcases h with h | ⟨q, e1, e2⟩
 ·exact .inl h
 ·exact .inr ⟨q, e1, Nat.le_trans hb.size e2⟩
theorem went_after {w w1 w2 : World} {B p : Nat} {a : Option Addr} {ls : List BA} (hb : Below w.heap.size w w1) (h : ∃ a' n' c', Pk w2 B p a' n' c' ls ∧ Went w1 a a') : ∃ a' n' c', Pk w2 B p a' n' c' ls ∧ Went w a a' := by
 obtain ⟨a', n', c', h1, h2⟩ := h
 exact ⟨a', n', c', h1, h2.after hb⟩
theorem Delete_some (B p : Nat) (a : Option Addr) (n c : Nat) (ls : List BA) (i : Int) (k : Nat) (N : Int) (w : World) (hP : Pk w B p a n c ls) (hf : Fit ls) (hn : n ≤ 65536) (hi2 : -9223372036854775808 ≤ i) (hk : plc ls.length i = some k) :
  Calls Tryz.prog 245 #[ptr p, .int .i64 i, .int .i64 N] w fun e w' => Turns w B p a (ls.take k ++ ls.drop (k + gone ls k N)) (.int .i64 (gone ls k N : Nat)) e w' := by
 have hkl := plc_lt hk
 have HW := place_some B p a n c ls i k w hP hi2 hk
 have HP : Hid (Pk w B p a n c ls) := hP
 by_cases hN : N < 1
 ·have hg : gone ls k N = 0 := by unfold gone; omega
  rw [hg, Nat.add_zero, List.take_append_drop]
  clear hP hf hk hkl
  go_enter Tryz.func245, Tryz.ntmps245
  go_wp2_with fail
  refine HW.mono ?_
  rintro e w1 ⟨hb, rfl⟩
  have HB : Hid (Below w.heap.size w w1) := hb
  clear hb
  go_wp2
  go_ret
  exact ⟨rfl, Ai.of_below HB.out _ _, _, _, _, HP.out.keep HB.out, .inl rfl⟩
 ·obtain ⟨g, hg⟩ : ∃ g, gone ls k N = g := ⟨_, rfl⟩
  have hgl : k + g ≤ ls.length := by have := gone_le ls k N; omega
  have hmany := hP.many
  have HR := fun (w1 : World) (h : Below w.heap.size w w1) => replace_ok B p a n c ls none 0 0 k g [] w1 (hP.keep h) hf hn hgl (RdS.none0 w1) (fun s hs => absurd hs (by simp)) (by decide) (by
   rw [rep_len, hP.len]
   have := off_le ls (k + g)
   have := hP.len
   show _ - _ + 0 ≤ _
   omega)
  simp only [List.nil_append] at HR
  have hmin : min N ((ls.length : Int) - k) = g := by unfold gone at hg; omega
  rw [hg]
  obtain ⟨m, hm⟩ : ∃ m, ls.length = m := ⟨_, rfl⟩
  have hd := fun (w1 : World) (h : Below w.heap.size w w1) => (hP.keep h).cnt
  rw [hm] at hmin hgl hmany hkl
  simp only [hm] at hd
  obtain ⟨r, hr⟩ : ∃ r, m - k = r := ⟨_, rfl⟩
  have hri : (m : Int) - k = r := by omega
  rw [hri] at hmin
  clear hP hf hk hg hm
  by_cases hle : N ≤ r
  ·have hNg : N = g := by omega
   subst hNg
   clear hmin
   have hle2 : ¬ ((r : Int) < (g : Int)) := by omega
   go_enter Tryz.func245, Tryz.ntmps245
   go_wp2_with fail
   refine HW.mono ?_
   rintro e w1 ⟨hb, rfl⟩
   have HB : Hid (Below w.heap.size w w1) := hb
   have hd1 := hd w1 hb
   have HR1 := HR w1 hb
   clear hb hd HR HW
   go_wp2_with fail
   refine HR1.mono ?_
   rintro e w2 ⟨rfl, hM, hE⟩
   have HM : Hid (Ai w1 w2 p a) := hM
   have HE2 : Hid (∃ a' n' c', Pk w2 B p a' n' c' (ls.take k ++ ls.drop (k + g)) ∧ Went w1 a a') := hE
   clear hM hE
   go_wp2
   go_ret
   exact ⟨rfl, HM.out.after HB.out, went_after HB.out HE2.out⟩
  ·have hrg : r = g := by omega
   subst hrg
   clear hmin
   have hle2 : (r : Int) < N := by omega
   go_enter Tryz.func245, Tryz.ntmps245
   go_wp2_with fail
   refine HW.mono ?_
   rintro e w1 ⟨hb, rfl⟩
   have HB : Hid (Below w.heap.size w w1) := hb
   have hd1 := hd w1 hb
   have HR1 := HR w1 hb
   clear hb hd HR HW
   go_wp2_with fail
   refine HR1.mono ?_
   rintro e w2 ⟨rfl, hM, hE⟩
   have HM : Hid (Ai w1 w2 p a) := hM
   have HE2 : Hid (∃ a' n' c', Pk w2 B p a' n' c' (ls.take k ++ ls.drop (k + r)) ∧ Went w1 a a') := hE
   clear hM hE
   go_wp2
   go_ret
   exact ⟨rfl, HM.out.after HB.out, went_after HB.out HE2.out⟩
def MakesPk (w : World) (l : List BA) (e : Ending) (w' : World) : Prop :=
 Below w.heap.size w w' ∧ ∃ p a n c, e = .returned (ptr p) ∧ Pk w' w.heap.size p a n c l
theorem New_any (w : World) : Calls Tryz.prog 86 #[] w fun e w' => MakesPk w [] e w' := by
 go_enter Tryz.func86, Tryz.ntmps86
 go_wp2
 go_ret
 exact ⟨Ac w _, w.heap.size, none, 0, 0, rfl, heap_alloc_new w _, Nat.le_refl _, Own.nil _ _⟩
theorem Clone_any (a : Option Addr) (n c : Nat) (l : List UInt8) (w : World) (hR : Rd w a n c l) (hn : n ≤ 140737488355328) :
  Calls Tryz.prog 210 #[.slice a n c] w fun e w' => Makes w l e w' := by
 cases a with
 | none =>
  have h0 : l = [] := by
   cases l with
   | nil => rfl
   | cons x r =>
    obtain ⟨b, off, e, -⟩ := hR.cell 0 (by rw [← hR.len]; simp)
    cases e
  subst h0
  have heq : ∀ w, (binOp .eql 32 (.slice none n c) (.slice none 0 0)).run Tryz.prog w = .ok (.bool true) w := fun w => Lib.run_eql_slice_nil w 32 5 none n c 0 0 Tryz.underlying32
  clear hR
  go_enter Tryz.func210, Tryz.ntmps210
  go_wp2
  go_ret
  exact ⟨Below.refl _ _, none, 0, 0, rfl, Own.nil _ _⟩
 | some ad =>
  have HM : Hid (Own (w.alloc (.cells #[] 5)) w.heap.size (some ⟨w.heap.size, 0, none⟩) 0 0 []) := by
   have := Own.made w [] w.heap.size 0 rfl (Nat.le_refl _) (by decide)
   show Own _ _ _ _ _ _
   simpa [cells] using this
  have HR : Hid (Rd (w.alloc (.cells #[] 5)) (some ad) n c l) := hR.keep (Ac w _)
  have HN : Hid (0 + n ≤ 140737488355328) := by show _ ≤ _; omega
  have HS : Hid (w.heap.size ≤ (w.alloc (.cells #[] 5)).heap.size) := (Ac w _).size
  have heq : ∀ w, (binOp .eql 32 (.slice (some ad) n c) (.slice none 0 0)).run Tryz.prog w = .ok (.bool false) w := fun w => Lib.run_eql_slice_nil w 32 5 (some ad) n c 0 0 Tryz.underlying32
  clear hR
  go_enter Tryz.func210, Tryz.ntmps210
  go_wp2_with (at_builtin; refine append_row rfl (.tmp 5) (.tmp 6) rfl w.heap.size rfl HM.out rfl HR.out HN.out HS.out ?_; intro a4 n4 c4 w4 hn4 hO4 hB4; have HO4 : Hid (Own w4 w.heap.size a4 n4 c4 ([] ++ l)) := hO4; have HB4 : Hid (Below w.heap.size w w4) := (Ac w _).trans hB4; clear hn4 hO4 hB4)
  go_ret
  exact ⟨HB4.out, _, _, _, rfl, HO4.out⟩
theorem Bytes_pk (B p : Nat) (a : Option Addr) (n c : Nat) (l : List BA) (w : World) (hP : Pk w B p a n c l) (hn : n ≤ 140737488355328) :
  Calls Tryz.prog 175 #[ptr p] w fun e w' => Makes w (pack l) e w' := by
 have hc := hP.cell
 have HC := Clone_any a n c (pack l) w hP.own.rd hn
 clear hP
 go_enter Tryz.func175, Tryz.ntmps175
 go_wp2_with fail
 refine HC.mono ?_
 rintro e w1 ⟨hb, a3, n3, c3, rfl, hO3⟩
 have HB : Hid (Below w.heap.size w w1) := hb
 have HO : Hid (Own w1 w.heap.size a3 n3 c3 (pack l)) := hO3
 clear hb hO3
 go_wp2
 go_ret
 exact ⟨HB.out, _, _, _, rfl, HO.out⟩
theorem Copy_any (B p : Nat) (a : Option Addr) (n c : Nat) (l : List BA) (w : World) (hP : Pk w B p a n c l) (hn : n ≤ 140737488355328) :
  Calls Tryz.prog 131 #[ptr p] w fun e w' => MakesPk w l e w' := by
 have HP : Hid (Pk w B p a n c l) := hP
 have hd : w.drew.cell? ⟨p, 1, none⟩ = some (.int .i64 (l.length : Nat)) := (hP.keep (Aa w 1)).cnt
 have HC := Bytes_pk B p a n c l w.drew (hP.keep (Aa w 1)) hn
 clear hP
 go_enter Tryz.func131, Tryz.ntmps131
 go_wp2_with fail
 go_region_with (go_at_call 175; refine HC.mono ?_; rintro e w1 ⟨hb, a3, n3, c3, rfl, hO3⟩; have HB : Hid (Below w.heap.size w w1) := (Aa w 1).trans hb; have HO : Hid (Own w1 w.heap.size a3 n3 c3 (pack l)) := hO3; have hd1 := (HP.out.keep HB.out).cnt; clear hb hO3)
 all_goals
  go_wp2
  go_ret
  exact ⟨HB.out.trans ((Ac w1 _).mono HB.out.size), w1.heap.size, a3, n3, c3, rfl, heap_alloc_new w1 _, HB.out.size, HO.out.keep (Ac w1 _)⟩
theorem All_any (B p : Nat) (a : Option Addr) (n c : Nat) (ls : List BA) (w : World) (hP : Pk w B p a n c ls) (hf : Fit ls) (hm : n ≤ 1000000) :
  Calls Tryz.prog 180 #[ptr p] w fun e w' => Below w.heap.size w w' ∧ ∃ a2 n2 c2, e = .returned (.slice a2 n2 c2) ∧ OwnS w' w.heap.size a2 n2 c2 ls := by
 obtain ⟨m, hM⟩ : ∃ m, ls.length = m := ⟨_, rfl⟩
 have HL : Hid ((pack ls).length = n) := hP.own.len
 have hmn : 2 * m ≤ n := by have := len_pack ls; have := hP.own.len; omega
 have HP : Hid (Pk w B p a n c ls) := hP
 have HF : Hid (Fit ls) := hf
 have HM : Hid (ls.length = m) := hM
 have HO : Hid (OwnS w w.heap.size none 0 0 (ls.take 0)) := World.ownsRow_nil w _ 9 1
 have HX0 : Hid (off ls 0 = 0) := rfl
 clear hP hf hM
 go_enter Tryz.func180, Tryz.ntmps180
 go_wp2
 go_loopg [3, 4] m (fun g lv av wr => ∃ k x : Nat, ∃ a2 n2 c2, k + g = m ∧ lv = .slice a2 n2 c2 ∧ av = .int .i64 x ∧ Hid (off ls k = x) ∧ Hid (OwnS wr w.heap.size a2 n2 c2 (ls.take k)) ∧ Hid (Pk wr B p a n c ls) ∧ Hid (Below w.heap.size w wr))
 case atStart => exact ⟨0, 0, none, 0, 0, by omega, rfl, rfl, HX0, HO, HP, Below.refl _ _⟩
 case round =>
  obtain ⟨k, x, a2, n2, c2, hk, rfl, rfl, HX, HO, HPr, HB⟩ := hrel
  have hc1 := HPr.out.cell
  by_cases hkm : k < m
  ·have hil : k < ls.length := by have := HM.out; omega
   have h2 : (x : Int) < n := by have := off_lt ls hil; have := HL.out; have := HX.out; omega
   have HD : Hid (decAt (pack ls) (x : Nat) = some (lst (txt ls k), off ls (k + 1))) := by show _ = _; rw [← HX.out]; exact decAt_off HF.out hil
   have HC := Decode_any a n c (pack ls) x wr HPr.out.own.rd (by omega)
   rw [HD.out, cR_some, bs_lst] at HC
   obtain ⟨y, hy⟩ : ∃ y, off ls (k + 1) = y := ⟨_, rfl⟩
   rw [hy] at HC
   have HY : Hid (off ls (k + 1) = y) := hy
   have HT : Hid (ls.take k ++ [txt ls k] = ls.take (k + 1)) := (take_snocB ls k hil).symm
   generalize txt ls k = s at HC HT
   have HN : Hid (n2 + 1 ≤ 1000000) := by
    have := HO.out.len
    rw [List.length_take] at this
    show _ ≤ _
    omega
   clear hy HD
   go_wp2_with fail
   refine HC.mono ?_
   rintro e w1 ⟨hb, rfl⟩
   have HP1 : Hid (Pk w1 B p a n c ls) := HPr.out.keep hb
   have HB1 := Ad HB hb
   have HO1 : Hid (OwnS w1 w.heap.size a2 n2 c2 (ls.take k)) := HO.out.keep hb
   have hsz := HB1.out.size
   clear hb
   go_wp2_with (at_builtin; refine append_str rfl (.tmp 25) (.tmp 27) rfl w.heap.size rfl (HO1.out.keep (Ac w1 _)) rfl (by simp; rfl) HN.out (Nat.le_trans hsz (Ac w1 _).size) ?_; intro a3 n3 c3 w3 hn3 hO3 hB3; have HO3 : Hid (OwnS w3 w.heap.size a3 n3 c3 (ls.take (k + 1))) := (by rw [HT.out] at hO3; exact hO3); have HB3 : Hid (Below w.heap.size w w3) := (HB1.out.trans ((Ac w1 _).mono hsz)).trans hB3; clear hn3 hO3 hB3)
   have HP3 : Hid (Pk w3 B p a n c ls) := HP.out.keep HB3.out
   go_roundg (gk - 1)
   case measure => omega
   case rel => exact ⟨k + 1, y, _, _, _, by omega, rfl, rfl, HY, HO3, HP3, HB3⟩
  ·have hkk : k = m := by omega
   subst hkk
   have h2 : ¬ ((x : Int) < n) := by
    have := off_all ls (i := k) (by have := HM.out; omega)
    have := HL.out
    have := HX.out
    omega
   have HE : Hid (ls.take k = ls) := List.take_of_length_le (by have := HM.out; omega)
   go_wp2
   go_ret
   exact ⟨HB.out, _, _, _, rfl, by rw [HE.out] at HO; exact HO.out⟩
end Go.Proofs.YtmjeljldmmkcpaaGreat
