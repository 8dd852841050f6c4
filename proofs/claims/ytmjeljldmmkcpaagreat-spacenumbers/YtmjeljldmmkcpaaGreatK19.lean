/- Texts that the others stand on. -/
import Derived.Test.YtmjeljldmmkcpaaGreatK18
import Derived.Laws.BitsAllLaws
set_option maxRecDepth 100000
set_option maxHeartbeats 4000000
namespace Go.Proofs.YtmjeljldmmkcpaaGreat
open Go.RowKit Go.PlainAid
theorem HasPrefix_any (a a' : Option Addr) (n n' cap cap' : Nat) (l l' : List UInt8) (w : World) (h : Rd w a n cap l) (h' : Rd w a' n' cap' l') :
  Calls Tryz.prog 242 #[.slice a n cap, .slice a' n' cap'] w fun e w' => e = .returned (.bool (pre l' l)) ∧ w' = w := by
 have hn : n ≤ 9223372036854775807 := Nat.le_trans h.fit h.max
 have hn' : n' ≤ 9223372036854775807 := Nat.le_trans h'.fit h'.max
 by_cases hlt : n' ≤ n
 ·obtain ⟨a2, c2, hsl, hR⟩ := h.slice_h n' hlt
  have HE := fun w1 (e : w1 = w) => Equal_any a2 a' n' n' c2 cap' (l.take n') l' w1 (e ▸ hR) (e ▸ h')
  have HP : Hid (decide (l.take n' = l') = pre l' l) := by show _ = _; unfold pre; rw [h'.len]
  rw [HP.out] at HE
  have hz : (n' : Int) ≤ n := by omega
  clear h h' hR HP hlt
  go_enter Tryz.func242, Tryz.ntmps242
  go_wp2_with fail
  refine (HE _ rfl).mono ?_
  rintro e w ⟨rfl, rfl⟩
  go_wp2
  go_ret
  exact ⟨rfl, rfl⟩
 ·have HP : Hid (pre l' l = false) := by
   show _ = _
   unfold pre
   apply decide_eq_false
   intro e
   have := congrArg List.length e
   rw [List.length_take, h'.len, h.len] at this
   omega
  rw [HP.out]
  have hz : ¬ (n' : Int) ≤ n := by omega
  clear h h' hlt
  go_enter Tryz.func242, Tryz.ntmps242
  go_wp2
  go_ret
  exact ⟨rfl, rfl⟩
def dS (o : Option (List UInt8 × Nat)) : BA :=
 match o with
 | none => ⟨#[]⟩
 | some p => bs p.1
def dN (o : Option (List UInt8 × Nat)) : Int :=
 match o with
 | none => 0
 | some p => (p.2 : Nat)
def dR (o : Option (List UInt8 × Nat)) : Value := .tuple #[.string (dS o), .int .i64 (dN o), .bool o.isSome]
theorem decodeText_any (a : Option Addr) (n cap : Nat) (l : List UInt8) (h k : Nat) (w : World) (hR : Rd w a n cap l) (hh : h ≤ 3) (hk : k ≤ 65535) :
  Calls Tryz.prog 275 #[.slice a n cap, .int .i64 h, .int .i64 k] w fun e w' => e = .returned (dR (dtext l h k)) ∧ w' = w := by
 have hn : n ≤ 9223372036854775807 := Nat.le_trans hR.fit hR.max
 obtain ⟨m, hm⟩ : ∃ m, h + k = m := ⟨_, rfl⟩
 have hmz : (h : Int) + (k : Int) = m := by omega
 by_cases hlt : n < m
 ·have HD : Hid (dtext l h k = none) := by show _ = _; unfold dtext; rw [if_pos (by rw [hR.len]; omega)]
  rw [HD.out]
  unfold dR
  dsimp only [dS, dN, Option.isSome_none]
  have hlz : (n : Int) < m := by omega
  clear hR hm hlt
  go_enter Tryz.func275, Tryz.ntmps275
  go_wp2
  go_ret3
  exact ⟨rfl, rfl⟩
 ·obtain ⟨a2, c2, hsl, hR2⟩ := hR.slice_lh h m (by omega) (by omega)
  have hk2 : m - h = k := by omega
  rw [hk2] at hsl hR2
  have hT := hR2.text
  have hlen : (bs ((l.drop h).take k)).size = k := hR2.len
  have HP := fun w => Parse_any (bs ((l.drop h).take k)) w (by rw [hlen]; unfold maxLen; omega) (B0 ((l.drop h).take k)) rfl
  cases hp : B0 ((l.drop h).take k) with
  | some z =>
   rw [hp] at HP
   have HD : Hid (dtext l h k = none) := by show _ = _; unfold dtext; rw [if_neg (by rw [hR.len]; omega), hp]; rfl
   rw [HD.out]
   unfold dR
   dsimp only [dS, dN, Option.isSome_none]
   have hlz : ¬ (n : Int) < m := by omega
   clear hR hm hlt hR2 hk2 hp hlen
   generalize bs ((l.drop h).take k) = s at HP hT
   go_enter Tryz.func275, Tryz.ntmps275
   go_wp2_with fail
   refine (HP _).mono ?_
   rintro e w ⟨rfl, rfl⟩
   unfold i64R
   dsimp only [Option.getD_some, Option.isSome_some]
   go_wp2
   go_ret3
   exact ⟨rfl, rfl⟩
  | none =>
   rw [hp] at HP
   have HD : Hid (dtext l h k = some ((l.drop h).take k, m)) := by show _ = _; unfold dtext; rw [if_neg (by rw [hR.len]; omega), hp, hm]; rfl
   rw [HD.out]
   unfold dR
   dsimp only [dS, dN, Option.isSome_some]
   have hlz : ¬ (n : Int) < m := by omega
   clear hR hm hlt hR2 hk2 hp hlen
   generalize bs ((l.drop h).take k) = s at HP hT
   go_enter Tryz.func275, Tryz.ntmps275
   go_wp2_with fail
   refine (HP _).mono ?_
   rintro e w ⟨rfl, rfl⟩
   unfold i64R
   dsimp only [Option.getD_none, Option.isSome_none]
   go_wp2
   go_ret3
   exact ⟨rfl, rfl⟩
theorem or_byte (a b : Nat) (hb : b < 256) : a * 256 ||| b = a * 256 + b := by
 have := Nat.shiftLeft_add_eq_or_of_lt (b := b) (i := 8) hb a
 rw [Nat.shiftLeft_eq] at this
 exact this.symm
theorem u64_or_byte (V X : Int) (h0 : 0 ≤ V) (h1 : V * 256 < 18446744073709551616) (h2 : 0 ≤ X) (h3 : X ≤ 255) : bits BinOp.or IntKind.u64 (IntKind.u64.wrap (V * 256)) X = V * 256 + X := by
 obtain ⟨v, rfl⟩ := Int.eq_ofNat_of_zero_le h0
 obtain ⟨x, rfl⟩ := Int.eq_ofNat_of_zero_le h2
 rw [u64_nonneg (by omega) (by omega), show (v : Int) * 256 = ((v * 256 : Nat) : Int) by omega, u64_or_nat _ _ (by omega) (by omega), or_byte _ _ (by omega)]; omega
theorem i64_or_byte (V X : Int) (h0 : 0 ≤ V) (h1 : V ≤ 255) (h2 : 0 ≤ X) (h3 : X ≤ 255) : bits BinOp.or IntKind.i64 (V * 256) X = V * 256 + X := by
 obtain ⟨v, rfl⟩ := Int.eq_ofNat_of_zero_le h0
 obtain ⟨x, rfl⟩ := Int.eq_ofNat_of_zero_le h2
 have e : bits BinOp.or IntKind.i64 ((v * 256 : Nat) : Int) ((x : Nat) : Int) = ((v * 256 ||| x : Nat) : Int) := by
  have hlt : v * 256 ||| x < 2 ^ 16 := Nat.or_lt_two_pow (by omega) (by omega)
  show IntKind.i64.wrap ((BitVec.ofInt 64 ((v * 256 : Nat) : Int) ||| BitVec.ofInt 64 ((x : Nat) : Int)).toNat : Int) = _
  rw [BitVec.toNat_or, BitVec.ofInt_natCast, BitVec.ofInt_natCast, BitVec.toNat_ofNat, BitVec.toNat_ofNat, Nat.mod_eq_of_lt (a := v * 256) (by omega), Nat.mod_eq_of_lt (a := x) (by omega), IntKind.wrap_i64]
  omega
 rw [show (v : Int) * 256 = ((v * 256 : Nat) : Int) by omega, e, or_byte _ _ (by omega)]; omega
def dnum (r : List UInt8) : Option (List UInt8 × Nat) :=
 if r.length < 8 then none
 else if 0 ≤ sgn (val 0 (r.take 8)) ∧ sgn (val 0 (r.take 8)) < 128 then none else some (fmtL (sgn (val 0 (r.take 8))), 9)
theorem val_snoc : ∀ (l : List UInt8) (v : Nat) (b : UInt8), val v (l ++ [b]) = val v l * 256 + b.toNat
 | [], v, b => rfl
 | x :: l, v, b => by rw [List.cons_append, val, val_snoc l, val]
theorem Bx (l : List UInt8) (k : Nat) (h : k < l.length) : l.take (k + 1) = l.take k ++ [l.getD k 0] := by
 rw [List.take_add_one, List.getD_eq_getElem?_getD, List.getElem?_eq_getElem h]; rfl
theorem val_take_lt (l : List UInt8) (k : Nat) (hk : k ≤ 8) : val 0 (l.take k) < 18446744073709551616 := by
 have h1 := val_lt (l.take k) 0
 have h2 : (l.take k).length ≤ 8 := by rw [List.length_take]; omega
 have h3 : 256 ^ (l.take k).length ≤ 256 ^ 8 := Nat.pow_le_pow_right (by decide) h2
 omega
theorem wrap_sgn (u : Nat) (h : u < 18446744073709551616) : wrap64 (u : Int) = sgn u := by unfold wrap64 sgn; split <;> omega
theorem decodeNumber_any (a : Option Addr) (n cap : Nat) (x : UInt8) (r : List UInt8) (w : World) (hR : Rd w a n cap (x :: r)) :
  Calls Tryz.prog 274 #[.slice a n cap] w fun e w' => Below w.heap.size w w' ∧ e = .returned (dR (dnum r)) := by
 have hn : n ≤ 9223372036854775807 := Nat.le_trans hR.fit hR.max
 have hl : r.length + 1 = n := hR.len
 by_cases hlt : n < 9
 ·have HD : Hid (dnum r = none) := by show _ = _; unfold dnum; rw [if_pos (by omega)]
  rw [HD.out]
  unfold dR
  dsimp only [dS, dN, Option.isSome_none]
  clear hR hl
  go_enter Tryz.func274, Tryz.ntmps274
  go_wp2
  go_ret3
  exact ⟨Below.refl _ _, rfl⟩
 ·obtain ⟨a2, c2, hsl, hR2⟩ := hR.slice_lh 1 9 (by omega) (by omega)
  rw [show ((x :: r).drop 1).take (9 - 1) = r.take 8 from rfl] at hR2
  have HR : Hid (Rd w a2 8 c2 (r.take 8)) := hR2
  have hlz : ¬ (n : Int) < 9 := by omega
  have HL : Hid (8 ≤ r.length) := by show _ ≤ _; omega
  replace hsl : ∀ wx, (Instr.sliceAt 32 (.slice a n cap) (some (.int .i64 1)) (some (.int .i64 9)) none).run Tryz.prog wx = .ok (.slice a2 8 c2) wx := hsl
  clear hR hl hlt hR2
  go_enter Tryz.func274, Tryz.ntmps274
  go_wp2
  go_loopg [5, 15] 8 (fun g bv iv wr => ∃ (k : Nat), k + g = 8 ∧ bv = .int .u64 (val 0 ((r.take 8).take k) : Nat) ∧ iv = .int .i64 k ∧ wr = w)
  case atStart => exact ⟨0, by omega, rfl, rfl, rfl⟩
  case round =>
   obtain ⟨k, hk, rfl, rfl, rfl⟩ := hrel
   by_cases h8 : k < 8
   ·obtain ⟨b, off, ha, hc⟩ := HR.out.cell k h8
    subst ha
    obtain ⟨V, hV⟩ : ∃ V : Int, ((val 0 ((r.take 8).take k) : Nat) : Int) = V := ⟨_, rfl⟩
    obtain ⟨X, hX⟩ : ∃ X : Int, (((r.take 8).getD k 0).toNat : Int) = X := ⟨_, rfl⟩
    have HN : Hid (((val 0 ((r.take 8).take (k + 1)) : Nat) : Int) = V * 256 + X) := by
     show _ = _
     rw [Bx _ _ (by rw [List.length_take]; have := HL.out; omega), val_snoc]; omega
    rw [hX] at hc
    have hXb := byte_le _ hX
    rw [hV]
    have hV0 := val_take_lt (r.take 8) k (by omega)
    have hV1 := val_take_lt (r.take 8) (k + 1) (by omega)
    have HO : Hid (bits BinOp.or IntKind.u64 (IntKind.u64.wrap (V * 256)) X = V * 256 + X) := by
     have := HN.out
     exact u64_or_byte V X (by omega) (by omega) hXb.1 hXb.2
    clear hV hX hV0 hV1
    go_wp2
    go_roundg (gk - 1)
    case measure => omega
    case rel => exact ⟨k + 1, by omega, by rw [HN.out, HO.out], by go_num, rfl⟩
   ·have hk8 : k = 8 := by omega
    subst hk8
    rw [List.take_take]
    have hv := val_take_lt r 8 (by omega)
    have hin := sgn_in hv
    have HS := fun w => isSmall_any (sgn (val 0 (r.take 8))) w
    have HF := fun w => Format_any (sgn (val 0 (r.take 8))) w hin.1 hin.2
    have hws : wrap64 ((val 0 (r.take (min 8 8)) : Nat) : Int) = sgn (val 0 (r.take 8)) := wrap_sgn _ hv
    by_cases hsm : 0 ≤ sgn (val 0 (r.take 8)) ∧ sgn (val 0 (r.take 8)) < 128
    ·have HD : Hid (dnum r = none) := by show _ = _; unfold dnum; rw [if_neg (by have := HL.out; omega), if_pos hsm]
     have hq : decide (0 ≤ sgn (val 0 (r.take 8)) ∧ sgn (val 0 (r.take 8)) < 128) = true := decide_eq_true hsm
     rw [hq] at HS
     clear hq hsm hin hv
     generalize sgn (val 0 (r.take 8)) = z at HS HF hws
     generalize (val 0 (r.take (min 8 8)) : Nat) = u at hws
     go_wp2_with fail
     refine (HS _).mono ?_
     rintro e wr ⟨rfl, rfl⟩
     go_wp2
     go_ret3
     exact ⟨Below.refl _ _, by rw [HD.out]; rfl⟩
    ·have HD : Hid (dnum r = some (fmtL (sgn (val 0 (r.take 8))), 9)) := by show _ = _; unfold dnum; rw [if_neg (by have := HL.out; omega), if_neg hsm]
     have hq : decide (0 ≤ sgn (val 0 (r.take 8)) ∧ sgn (val 0 (r.take 8)) < 128) = false := decide_eq_false hsm
     rw [hq] at HS
     clear hq hsm hin hv
     generalize sgn (val 0 (r.take 8)) = z at HS HF hws HD
     generalize (val 0 (r.take (min 8 8)) : Nat) = u at hws
     go_wp2_with fail
     refine (HS _).mono ?_
     rintro e wr ⟨rfl, rfl⟩
     go_wp2_with fail
     refine (HF _).mono ?_
     rintro e w1 ⟨rfl, hb⟩
     go_wp2
     go_ret3
     exact ⟨hb, by rw [HD.out]; rfl⟩
theorem dbody_low {x : UInt8} (r : List UInt8) (h : x.toNat < 128) : dbody (x :: r) = some (fmtL x.toNat, 1) := by rw [B8, if_pos h]
theorem dbody_num {x : UInt8} (r : List UInt8) (h : x.toNat = 241) : dbody (x :: r) = dnum r := by rw [B8, if_neg (by omega), if_pos h]; rfl
theorem dbody_short {x : UInt8} (r : List UInt8) (h : 128 ≤ x.toNat) (h2 : x.toNat ≤ 191) : dbody (x :: r) = dtext (x :: r) 1 (x.toNat - 128) := by
 rw [B8, if_neg (by omega), if_neg (by omega), if_neg (by omega), if_pos h2]
theorem dbody_odd {x : UInt8} (r : List UInt8) (h : 191 < x.toNat) (h2 : x.toNat ≠ 224) (h3 : x.toNat ≠ 241) : dbody (x :: r) = none := by
 rw [B8, if_neg (by omega), if_neg (by omega), if_neg (by omega), if_neg (by omega)]
theorem dbody_cut {x : UInt8} (r : List UInt8) (h : x.toNat = 224) (h2 : r.length < 2) : dbody (x :: r) = none := by
 rw [B8, if_neg (by omega), if_neg (by omega), if_pos h, if_pos h2]
theorem dbody_bad {x : UInt8} (r : List UInt8) (h : x.toNat = 224) (h2 : ¬ r.length < 2) (h3 : (r.getD 0 0).toNat * 256 + (r.getD 1 0).toNat ≤ 63 ∨ 4096 < (r.getD 0 0).toNat * 256 + (r.getD 1 0).toNat) : dbody (x :: r) = none := by
 rw [B8, if_neg (by omega), if_neg (by omega), if_pos h, if_neg h2, if_pos h3]
theorem dbody_long {x : UInt8} (r : List UInt8) (h : x.toNat = 224) (h2 : ¬ r.length < 2) (h3 : ¬ ((r.getD 0 0).toNat * 256 + (r.getD 1 0).toNat ≤ 63 ∨ 4096 < (r.getD 0 0).toNat * 256 + (r.getD 1 0).toNat)) :
  dbody (x :: r) = dtext (x :: r) 3 ((r.getD 0 0).toNat * 256 + (r.getD 1 0).toNat) := by
 rw [B8, if_neg (by omega), if_neg (by omega), if_pos h, if_neg h2, if_neg h3]
theorem decodeBody_any (a : Option Addr) (n cap : Nat) (x : UInt8) (r : List UInt8) (w : World) (hR : Rd w a n cap (x :: r)) :
  Calls Tryz.prog 240 #[.slice a n cap] w fun e w' => Below w.heap.size w w' ∧ e = .returned (dR (dbody (x :: r))) := by
 have hn : n ≤ 9223372036854775807 := Nat.le_trans hR.fit hR.max
 have hl : r.length + 1 = n := hR.len
 obtain ⟨b, off, ha, hc⟩ := hR.cell 0 (by omega)
 subst ha
 have hn0 : (0 : Int) < n := by omega
 obtain ⟨X, hX⟩ : ∃ X : Int, (x.toNat : Int) = X := ⟨_, rfl⟩
 rw [show ((x :: r).getD 0 0) = x from rfl, hX, Nat.add_zero] at hc
 have hXb := byte_le x hX
 have HR : Hid (Rd w (some ⟨b, off, none⟩) n cap (x :: r)) := hR
 by_cases h1 : X < 128
 ·rw [dbody_low r (by omega)]
  have HF := fun w => Format_any X w (by omega) (by omega)
  have HX : Hid (fmtL x.toNat = fmtL X) := by show _ = _; rw [hX]
  clear hR hl hX
  go_enter Tryz.func240, Tryz.ntmps240
  go_wp2
  go_quiet (fail)
  go_wp2_with fail
  refine (HF _).mono ?_
  rintro e w1 ⟨rfl, hb⟩
  go_wp2
  go_ret3
  exact ⟨(Aa w _).trans hb, by unfold dR; dsimp only [dS, dN]; rw [HX.out]; rfl⟩
 by_cases h2 : X = 241
 ·rw [dbody_num r (by omega)]
  have HN := fun w1 (e : Rd w1 (some ⟨b, off, none⟩) n cap (x :: r)) => decodeNumber_any _ n cap x r w1 e
  unfold dR at HN ⊢
  generalize dS (dnum r) = R1 at HN
  generalize dN (dnum r) = R2 at HN
  generalize (dnum r).isSome = R3 at HN
  subst h2
  clear hR hl hX h1
  go_enter Tryz.func240, Tryz.ntmps240
  go_wp2
  go_quiet (fail)
  go_wp2_with fail
  refine (HN _ (HR.out.keep (Aa w _))).mono ?_
  rintro e w1 ⟨hb, rfl⟩
  have HB : Hid (Below w.heap.size w w1) := (Aa w _).trans hb
  clear hb
  go_wp2
  go_ret3
  exact ⟨HB.out, rfl⟩
 by_cases h3 : X = 224
 ·by_cases hlt : r.length < 2
  ·rw [dbody_cut r (by omega) hlt]
   unfold dR
   dsimp only [dS, dN, Option.isSome_none]
   have hn3 : (n : Int) < 3 := by omega
   subst h3
   clear hR hl hX h1 h2 hlt
   go_enter Tryz.func240, Tryz.ntmps240
   go_wp2
   go_quiet (fail)
   go_wp2
   go_ret3
   exact ⟨Aa w _, rfl⟩
  ·have hn3 : ¬ (n : Int) < 3 := by omega
   obtain ⟨b', off', ha, hc1⟩ := hR.cell 1 (by omega)
   cases ha
   obtain ⟨b', off', ha, hc2⟩ := hR.cell 2 (by omega)
   cases ha
   obtain ⟨Y, hY⟩ : ∃ Y : Int, ((r.getD 0 0).toNat : Int) = Y := ⟨_, rfl⟩
   obtain ⟨Z, hZ⟩ : ∃ Z : Int, ((r.getD 1 0).toNat : Int) = Z := ⟨_, rfl⟩
   rw [show ((x :: r).getD 1 0) = r.getD 0 0 from rfl, hY] at hc1
   rw [show ((x :: r).getD 2 0) = r.getD 1 0 from rfl, hZ] at hc2
   have hYb := byte_le _ hY
   have hZb := byte_le _ hZ
   have hO := i64_or_byte Y Z hYb.1 hYb.2 hZb.1 hZb.2
   obtain ⟨k, hk⟩ : ∃ k, (r.getD 0 0).toNat * 256 + (r.getD 1 0).toNat = k := ⟨_, rfl⟩
   have hkz : Y * 256 + Z = (k : Int) := by omega
   rw [hkz] at hO
   by_cases hbad : k ≤ 63 ∨ 4096 < k
   ·rw [dbody_bad r (by omega) hlt (by rw [hk]; exact hbad)]
    unfold dR
    dsimp only [dS, dN, Option.isSome_none]
    subst h3
    rcases hbad with hbad | hbad
    ·have hbz : (k : Int) ≤ 63 := by omega
     clear hR hl hX h1 h2 hlt hY hZ hk hkz hbad
     go_enter Tryz.func240, Tryz.ntmps240
     go_wp2
     go_quiet (fail)
     go_wp2
     go_quiet (fail)
     go_wp2
     go_ret3
     exact ⟨Aa w _, rfl⟩
    ·have hbz : 4096 < (k : Int) := by omega
     have hbz2 : ¬ (k : Int) ≤ 63 := by omega
     clear hR hl hX h1 h2 hlt hY hZ hk hkz hbad
     go_enter Tryz.func240, Tryz.ntmps240
     go_wp2
     go_quiet (fail)
     go_wp2
     go_quiet (fail)
     go_wp2
     go_ret3
     exact ⟨Aa w _, rfl⟩
   ·rw [dbody_long r (by omega) hlt (by rw [hk]; exact hbad), hk]
    have HT := fun w1 (e : Rd w1 (some ⟨b, off, none⟩) n cap (x :: r)) => decodeText_any _ n cap (x :: r) 3 k w1 e (by omega) (by omega)
    unfold dR at HT ⊢
    generalize dS (dtext (x :: r) 3 k) = R1 at HT
    generalize dN (dtext (x :: r) 3 k) = R2 at HT
    generalize (dtext (x :: r) 3 k).isSome = R3 at HT
    subst h3
    have hbz : ¬ 4096 < (k : Int) := by omega
    have hbz2 : ¬ (k : Int) ≤ 63 := by omega
    clear hR hl hX h1 h2 hlt hY hZ hk hkz hbad
    go_enter Tryz.func240, Tryz.ntmps240
    go_wp2
    go_quiet (fail)
    go_wp2
    go_quiet (fail)
    go_wp2_with fail
    refine (HT _ (HR.out.keep (Aa w _))).mono ?_
    rintro e w1 ⟨rfl, rfl⟩
    go_wp2
    go_ret3
    exact ⟨Aa w _, rfl⟩
 by_cases h4 : X ≤ 191
 ·rw [dbody_short r (by omega) (by omega)]
  obtain ⟨k, hk⟩ : ∃ k, x.toNat - 128 = k := ⟨_, rfl⟩
  rw [hk]
  have HT := fun w1 (e : Rd w1 (some ⟨b, off, none⟩) n cap (x :: r)) => decodeText_any _ n cap (x :: r) 1 k w1 e (by omega) (by omega)
  rw [show (k : Int) = X - 128 by omega] at HT
  unfold dR at HT ⊢
  generalize dS (dtext (x :: r) 1 k) = R1 at HT
  generalize dN (dtext (x :: r) 1 k) = R2 at HT
  generalize (dtext (x :: r) 1 k).isSome = R3 at HT
  have hq1 : (X == 241) = false := by simpa using h2
  have hq2 : (X == 224) = false := by simpa using h3
  have h1' : 128 ≤ X := by omega
  clear hR hl hX h1 h2 h3 hk
  go_enter Tryz.func240, Tryz.ntmps240
  go_wp2
  go_quiet (fail)
  go_wp2_with fail
  refine (HT _ (HR.out.keep (Aa w _))).mono ?_
  rintro e w1 ⟨rfl, rfl⟩
  go_wp2
  go_ret3
  exact ⟨Aa w _, rfl⟩
 ·rw [dbody_odd r (by omega) (by omega) (by omega)]
  unfold dR
  dsimp only [dS, dN, Option.isSome_none]
  have hq1 : (X == 241) = false := by simpa using h2
  have hq2 : (X == 224) = false := by simpa using h3
  have h1' : 191 < X := by omega
  clear hR hl hX h1 h2 h3 h4
  go_enter Tryz.func240, Tryz.ntmps240
  go_wp2
  go_quiet (fail)
  go_wp2
  go_ret3
  exact ⟨Aa w _, rfl⟩
def cR (o : Option (List UInt8 × Nat)) : Value := .tuple #[.string (dS o), .int .i64 (dN o), .int .i64 (if o.isSome then 0 else 24)]
theorem cR_none : cR none = .tuple #[.string ⟨#[]⟩, .int .i64 0, .int .i64 24] := rfl
theorem cR_some (s : List UInt8) (k : Nat) : cR (some (s, k)) = .tuple #[.string (bs s), .int .i64 (k : Nat), .int .i64 0] := rfl
theorem Decode_any (a : Option Addr) (n cap : Nat) (l : List UInt8) (at' : Int) (w : World) (hR : Rd w a n cap l) (h63 : at' ≤ 9223372036854775807) :
  Calls Tryz.prog 194 #[.slice a n cap, .int .i64 at'] w fun e w' => Below w.heap.size w w' ∧ e = .returned (cR (decAt l at')) := by
 have hn : n ≤ 9223372036854775807 := Nat.le_trans hR.fit hR.max
 have hl := hR.len
 by_cases h0 : at' < 0
 ·have HD : Hid (decAt l at' = none) := by show _ = _; unfold decAt; rw [if_pos (.inl h0)]
  rw [HD.out, cR_none]
  clear hR hl
  go_enter Tryz.func194, Tryz.ntmps194
  go_wp2
  go_ret3
  exact ⟨Below.refl _ _, rfl⟩
 by_cases h1 : (n : Int) ≤ at'
 ·have HD : Hid (decAt l at' = none) := by show _ = _; unfold decAt; rw [if_pos (.inr (by rw [hl]; exact h1))]
  rw [HD.out, cR_none]
  have h0' : 0 ≤ at' := by omega
  clear hR hl h0
  go_enter Tryz.func194, Tryz.ntmps194
  go_wp2
  go_ret3
  exact ⟨Below.refl _ _, rfl⟩
 obtain ⟨p, rfl⟩ := Int.eq_ofNat_of_zero_le (show 0 ≤ at' by omega)
 have hp : p < n := by omega
 have HD : Hid (decAt l (p : Nat) = (dec1 (l.drop p)).map fun q => (q.1, p + q.2)) := by
  show _ = _; unfold decAt; rw [if_neg (by rw [hl]; omega)]; rfl
 obtain ⟨a1, c1, hsl, hR1⟩ := hR.slice_l p (by omega)
 obtain ⟨x, r, hxr⟩ : ∃ x r, l.drop p = x :: r := by
  cases h : l.drop p with
  | nil => have := congrArg List.length h; rw [List.length_drop, hl, List.length_nil] at this; omega
  | cons x r => exact ⟨x, r, rfl⟩
 rw [hxr] at hR1
 rw [HD.out, hxr]
 have HB := fun w1 (e : Rd w1 a1 (n - p) c1 (x :: r)) => decodeBody_any a1 (n - p) c1 x r w1 e
 have HR : Hid (Rd w a n cap l) := hR
 have HR1 : Hid (Rd w a1 (n - p) c1 (x :: r)) := hR1
 have hpz : (p : Int) < n := by omega
 have hp0 : (0 : Int) ≤ p := by omega
 have HX : Hid (l.drop p = x :: r) := hxr
 have HLn : Hid (l.length = n) := hl
 have HPn : Hid (p < n) := hp
 cases hd : dbody (x :: r) with
 | none =>
  have HE : Hid (dec1 (x :: r) = none) := by show _ = _; unfold dec1; rw [hd]
  rw [hd] at HB
  rw [HE.out]
  unfold dR dS dN at HB
  dsimp only [Option.isSome_none] at HB
  rw [show Option.map (fun q : List UInt8 × Nat => (q.1, p + q.2)) none = none from rfl, cR_none]
  clear hR hl hR1 hxr hp hd h0 h1 HD
  go_enter Tryz.func194, Tryz.ntmps194
  go_wp2_with fail
  refine (HB _ HR1.out).mono ?_
  rintro e w1 ⟨hb, rfl⟩
  go_wp2
  go_ret3
  exact ⟨hb, rfl⟩
 | some q =>
  obtain ⟨s, k⟩ := q
  obtain ⟨hs1, hs2, r2, hs3⟩ := dbody_some hd
  have hsl2 := congrArg List.length hs3
  rw [List.length_append, ← hs2, ← hxr, List.length_drop, hl] at hsl2
  have hbl := body_len s
  have hk : k ≤ 5000 := by omega
  have hpk : p + k ≤ n := by omega
  have HK := fun w => encodeBack_any k w (by omega)
  obtain ⟨a2, c2, hsl3, hR2⟩ := hR.slice_l (p + k) hpk
  have HR2 : Hid (Rd w a2 (n - (p + k)) c2 (l.drop (p + k))) := hR2
  rw [show (((p + k : Nat) : Int)) = (p : Int) + (k : Int) by omega] at hsl3
  have HP := fun w1 a3 n3 c3 (e : Rd w1 a2 (n - (p + k)) c2 (l.drop (p + k))) (e3 : Rd w1 a3 n3 c3 (back k)) => HasPrefix_any a2 a3 (n - (p + k)) n3 c2 c3 (l.drop (p + k)) (back k) w1 e e3
  rw [hd] at HB
  unfold dR dS dN at HB
  dsimp only [Option.isSome_some] at HB
  have hdd : (x :: r).drop k = l.drop (p + k) := by rw [← hxr, List.drop_drop]
  have hpkz : (p : Int) + k ≤ n := by omega
  have hkz : (k : Int) ≤ 5000 := by omega
  cases hpre : pre (back k) (l.drop (p + k)) with
  | false =>
   rw [hpre] at HP
   have HE : Hid (dec1 (x :: r) = none) := by show _ = _; unfold dec1; rw [hd]; dsimp only; rw [hdd, hpre]; rfl
   rw [HE.out, show Option.map (fun q : List UInt8 × Nat => (q.1, p + q.2)) none = none from rfl, cR_none]
   clear hR hl hR1 hxr hp hd h0 h1 HD hR2 hs1 hs2 hs3 hsl2 hbl hpk hdd hpre hk
   go_enter Tryz.func194, Tryz.ntmps194
   go_wp2_with fail
   refine (HB _ HR1.out).mono ?_
   rintro e w1 ⟨hb, rfl⟩
   have H1 : Hid (Below w.heap.size w w1) := hb
   clear hb
   go_wp2_with fail
   refine (HK _).mono ?_
   rintro e w2 ⟨hb, a3, n3, c3, rfl, hO⟩
   have H2 := Ad H1 hb
   have HO : Hid (Rd w2 a3 n3 c3 (back k)) := hO.rd
   clear hb hO
   go_wp2_with fail
   refine (HP _ _ _ _ (HR2.out.keep H2.out) HO.out).mono ?_
   rintro e w2 ⟨rfl, rfl⟩
   go_wp2
   go_ret3
   exact ⟨H2.out, rfl⟩
  | true =>
   rw [hpre] at HP
   have HF : Hid (p + k + (back k).length ≤ n) := by
    obtain ⟨z, hz⟩ := pre_ex hpre
    have := congrArg List.length hz
    rw [List.length_append, List.length_drop, hl] at this
    show _ ≤ _
    omega
   have HE : Hid (dec1 (x :: r) = some (s, k + (back k).length)) := by show _ = _; unfold dec1; rw [hd]; dsimp only; rw [hdd, hpre]; rfl
   rw [HE.out, show Option.map (fun q : List UInt8 × Nat => (q.1, p + q.2)) (some (s, k + (back k).length)) = some (s, p + (k + (back k).length)) from rfl, cR_some]
   clear hR hl hR1 hxr hp hd h0 h1 HD hR2 hs1 hs2 hs3 hsl2 hbl hpk hdd hpre hk
   go_enter Tryz.func194, Tryz.ntmps194
   go_wp2_with fail
   refine (HB _ HR1.out).mono ?_
   rintro e w1 ⟨hb, rfl⟩
   have H1 : Hid (Below w.heap.size w w1) := hb
   clear hb
   go_wp2_with fail
   refine (HK _).mono ?_
   rintro e w2 ⟨hb, a3, n3, c3, rfl, hO⟩
   have H2 := Ad H1 hb
   have HO : Hid (Rd w2 a3 n3 c3 (back k)) := hO.rd
   have HN3 : Hid ((back k).length = n3) := hO.len
   have hn3 : (p : Int) + k + n3 ≤ n := by
    have := hO.len
    have := HF.out
    omega
   clear hb hO
   go_wp2_with fail
   refine (HP _ _ _ _ (HR2.out.keep H2.out) HO.out).mono ?_
   rintro e w2 ⟨rfl, rfl⟩
   go_wp2
   go_ret3
   exact ⟨H2.out, by rw [HN3.out, show ((p + (k + n3) : Nat) : Int) = (p : Int) + k + n3 by omega]; rfl⟩
def bR (o : Option Int) : Value := .tuple #[.int .i64 (o.getD 0), .bool o.isSome]
theorem bR_none : bR none = .tuple #[.int .i64 0, .bool false] := rfl
theorem bR_some (k : Int) : bR (some k) = .tuple #[.int .i64 k, .bool true] := rfl
theorem beginning_any (a : Option Addr) (n cap : Nat) (l : List UInt8) (w : World) (hR : Rd w a n cap l) (h0 : 0 < n) :
  Calls Tryz.prog 277 #[.slice a n cap] w fun e w' => e = .returned (bR (begn l)) ∧ w' = w := by
 have hn : n ≤ 9223372036854775807 := Nat.le_trans hR.fit hR.max
 have hl := hR.len
 obtain ⟨m, rfl⟩ : ∃ m, n = m + 1 := ⟨n - 1, by omega⟩
 obtain ⟨b, off, ha, hc⟩ := hR.cell m (by omega)
 subst ha
 obtain ⟨X, hX⟩ : ∃ X : Int, ((l.getD m 0).toNat : Int) = X := ⟨_, rfl⟩
 rw [hX] at hc
 have hXb := byte_le _ hX
 have hm1 : ((m + 1 : Nat) : Int) - 1 = m := by omega
 by_cases h1 : X < 128
 ·have HB : Hid (begn l = some ((m : Int) - X)) := by
   show _ = _
   unfold begn
   rw [hl, Nat.add_sub_cancel, if_pos (by omega), hX]
   congr 1; omega
  rw [HB.out, bR_some]
  clear hR hl hX
  go_enter Tryz.func277, Tryz.ntmps277
  go_wp2
  go_ret2
  exact ⟨by go_num, rfl⟩
 ·by_cases h2 : m = 0
  ·subst h2
   have HB : Hid (begn l = none) := by
    show _ = _
    unfold begn
    rw [hl, show 0 + 1 - 1 = 0 from rfl, if_neg (by omega), if_pos (by omega)]
   rw [HB.out, bR_none]
   rw [Nat.add_zero] at hc
   rw [Nat.zero_add]
   clear hR hl hX hm1 h0 hn
   go_enter Tryz.func277, Tryz.ntmps277
   go_wp2
   go_ret2
   exact ⟨rfl, rfl⟩
  ·obtain ⟨q, rfl⟩ : ∃ q, m = q + 1 := ⟨m - 1, by omega⟩
   obtain ⟨b', off', ha, hc2⟩ := hR.cell q (by omega)
   cases ha
   obtain ⟨Y, hY⟩ : ∃ Y : Int, ((l.getD q 0).toNat : Int) = Y := ⟨_, rfl⟩
   rw [hY] at hc2
   have hYb := byte_le _ hY
   have HB : Hid (begn l = some ((q : Int) - (128 * Y + X - 128))) := by
    show _ = _
    unfold begn
    rw [hl, Nat.add_sub_cancel, if_neg (by omega), if_neg (by omega), show q + 1 + 1 - 2 = q by omega, hX, hY]
    congr 1; omega
   rw [HB.out, bR_some]
   clear hR hl hX hY h2
   go_enter Tryz.func277, Tryz.ntmps277
   go_wp2
   go_ret2
   exact ⟨by go_num, rfl⟩
def kR (o : Option Int) : Value := .tuple #[.int .i64 (o.getD 0), .int .i64 (if o.isSome then 0 else 24)]
theorem kR_none : kR none = .tuple #[.int .i64 0, .int .i64 24] := rfl
theorem kR_some (k : Int) : kR (some k) = .tuple #[.int .i64 k, .int .i64 0] := rfl
theorem begn_le {l : List UInt8} {k : Int} (h : begn l = some k) : k ≤ l.length := by
 unfold begn at h
 split at h
 ·have := Option.some.inj h; omega
 ·split at h
  ·cases h
  ·have := Option.some.inj h; omega
theorem Back_any (a : Option Addr) (n cap : Nat) (l : List UInt8) (e' : Int) (w : World) (hR : Rd w a n cap l) :
  Calls Tryz.prog 244 #[.slice a n cap, .int .i64 e'] w fun e w' => Below w.heap.size w w' ∧ e = .returned (kR (bkAt l e')) := by
 have hn : n ≤ 9223372036854775807 := Nat.le_trans hR.fit hR.max
 have hl := hR.len
 by_cases h0 : e' ≤ 0
 ·have HD : Hid (bkAt l e' = none) := by show _ = _; unfold bkAt; rw [if_pos (.inl h0)]
  rw [HD.out, kR_none]
  clear hR hl
  go_enter Tryz.func244, Tryz.ntmps244
  go_wp2
  go_ret2
  exact ⟨Below.refl _ _, rfl⟩
 by_cases h1 : (n : Int) < e'
 ·have HD : Hid (bkAt l e' = none) := by show _ = _; unfold bkAt; rw [if_pos (.inr (by rw [hl]; exact h1))]
  rw [HD.out, kR_none]
  have h0' : 0 < e' := by omega
  clear hR hl h0
  go_enter Tryz.func244, Tryz.ntmps244
  go_wp2
  go_ret2
  exact ⟨Below.refl _ _, rfl⟩
 obtain ⟨p, rfl⟩ := Int.eq_ofNat_of_zero_le (show 0 ≤ e' by omega)
 have hp : p ≤ n := by omega
 have hb0 : bkAt l (p : Nat) = match begn (l.take p) with
  | none => none
  | some k => match decAt l k with
   | none => none
   | some q => if (q.2 : Int) = (p : Int) then some k else none := by
  unfold bkAt; rw [if_neg (by rw [hl]; omega)]; rfl
 obtain ⟨a1, c1, hsl, hR1⟩ := hR.slice_h p hp
 have HR : Hid (Rd w a n cap l) := hR
 have HG := fun w1 (e : Rd w1 a1 p c1 (l.take p)) => beginning_any a1 p c1 (l.take p) w1 e (by omega)
 have HR1 : Hid (Rd w a1 p c1 (l.take p)) := hR1
 have hpz : (0 : Int) < p := by omega
 have hpn : (p : Int) ≤ n := by omega
 cases hg : begn (l.take p) with
 | none =>
  have HB : Hid (bkAt l (p : Nat) = none) := by show _ = _; rw [hb0, hg]
  rw [HB.out, kR_none]
  rw [hg, bR_none] at HG
  clear hR hl hR1 hp hb0 hg h0 h1
  go_enter Tryz.func244, Tryz.ntmps244
  go_wp2_with fail
  refine (HG _ HR1.out).mono ?_
  rintro e w ⟨rfl, rfl⟩
  go_wp2
  go_ret2
  exact ⟨Below.refl _ _, rfl⟩
 | some k =>
  have hk := begn_le hg
  rw [List.length_take, hl] at hk
  have HC := fun w1 (e : Rd w1 a n cap l) => Decode_any a n cap l k w1 e (by omega)
  rw [hg, bR_some] at HG
  cases hd : decAt l k with
  | none =>
   have HB : Hid (bkAt l (p : Nat) = none) := by show _ = _; rw [hb0, hg]; dsimp only; rw [hd]
   rw [HB.out, kR_none]
   rw [hd, cR_none] at HC
   clear hR hl hR1 hp hb0 hg h0 h1 hk hd
   go_enter Tryz.func244, Tryz.ntmps244
   go_wp2_with fail
   refine (HG _ HR1.out).mono ?_
   rintro e w ⟨rfl, rfl⟩
   go_wp2_with fail
   refine (HC _ HR.out).mono ?_
   rintro e w1 ⟨hb, rfl⟩
   go_wp2
   go_ret2
   exact ⟨hb, rfl⟩
  | some q =>
   obtain ⟨s, m⟩ := q
   rw [hd, cR_some] at HC
   by_cases hm : (m : Int) = p
   ·have HB : Hid (bkAt l (p : Nat) = some k) := by show _ = _; rw [hb0, hg]; dsimp only; rw [hd]; dsimp only; rw [if_pos hm]
    rw [HB.out, kR_some]
    have hq : ((m : Int) != (p : Int)) = false := by simpa using hm
    rw [hm] at HC
    clear hR hl hR1 hp hb0 hg h0 h1 hk hd hm hq
    go_enter Tryz.func244, Tryz.ntmps244
    go_wp2_with fail
    refine (HG _ HR1.out).mono ?_
    rintro e w ⟨rfl, rfl⟩
    go_wp2_with fail
    refine (HC _ HR.out).mono ?_
    rintro e w1 ⟨hb, rfl⟩
    go_wp2
    go_ret2
    exact ⟨hb, rfl⟩
   ·have HB : Hid (bkAt l (p : Nat) = none) := by show _ = _; rw [hb0, hg]; dsimp only; rw [hd]; dsimp only; rw [if_neg hm]
    rw [HB.out, kR_none]
    have hq : ((m : Int) != (p : Int)) = true := by simpa using hm
    have hq2 : ((m : Int) == (p : Int)) = false := by simpa using hm
    generalize (m : Int) = M at HC hq hq2
    clear hR hl hR1 hp hb0 hg h0 h1 hk hd hm
    go_enter Tryz.func244, Tryz.ntmps244
    go_wp2_with fail
    refine (HG _ HR1.out).mono ?_
    rintro e w ⟨rfl, rfl⟩
    go_wp2_with fail
    refine (HC _ HR.out).mono ?_
    rintro e w1 ⟨hb, rfl⟩
    go_wp2
    go_ret2
    exact ⟨hb, rfl⟩
structure RdS (w : World) (a : Option Addr) (n : Nat) (ls : List BA) : Prop where
 len : ls.length = n
 max : n ≤ maxLen
 cell : ∀ j, j < n → ∃ b off, a = some ⟨b, off, none⟩ ∧ w.cell? ⟨b, off + j, none⟩ = some (.string (ls.getD j ByteArray.empty))
theorem RdS.keep {w wn : World} {a : Option Addr} {n : Nat} {ls : List BA} (h : RdS w a n ls) (hb : Below w.heap.size w wn) : RdS wn a n ls :=
 ⟨h.len, h.max, fun j hj => by
  obtain ⟨b, off, e, hc⟩ := h.cell j hj
  exact ⟨b, off, e, by rw [hb.cell (p := ⟨b, off + j, none⟩) (World.block_lt_of_cell? _ _ hc)]; exact hc⟩⟩
def OwnS (w : World) (B : Nat) (a : Option Addr) (n cap : Nat) (ls : List BA) : Prop := w.ownsRow B 9 1 (.slice a n cap) n (ls.map Value.string)
theorem OwnS.len {w : World} {B : Nat} {a : Option Addr} {n cap : Nat} {ls : List BA} (h : OwnS w B a n cap ls) : ls.length = n := by
 have := h.1; simpa using this
theorem OwnS.keep {w wn : World} {B : Nat} {a : Option Addr} {n cap : Nat} {l : List BA} (h : OwnS w B a n cap l) (hb : Below w.heap.size w wn) : OwnS wn B a n cap l := by
 refine ⟨h.1, ?_⟩
 rcases h.2 with h2 | ⟨g, c, cur, h1, h3, h4, h5⟩
 ·exact .inl h2
 ·refine .inr ⟨g, c, cur, h1, h3, ?_, h5⟩
  rw [hb.block g (Array.getElem?_eq_some_iff.1 h4).1]; exact h4
theorem OwnS.rd {w : World} {B : Nat} {a : Option Addr} {n cap : Nat} {ls : List BA} (h : OwnS w B a n cap ls) : RdS w a n ls := by
 have hl := h.len
 rcases h.2 with ⟨h2, h3⟩ | ⟨g, c, cur, h1, h3, h4, h5, h6, h7, h8⟩
 ·cases h2
  exact RdS.mk hl (by rw [h3]; decide) (fun j hj => absurd hj (by omega))
 ·cases h1
  refine RdS.mk hl (Nat.le_trans h5 h6) (fun j hj => ⟨g, 0, rfl, ?_⟩)
  have := h.cells (g := g) rfl j (.string (ls.getD j ByteArray.empty)) (by
   simp only [List.getElem?_map, List.getD_eq_getElem?_getD]
   rw [List.getElem?_eq_getElem (by omega)]; rfl)
  rw [Af] at this
  rw [Nat.zero_add] at this ⊢
  exact this
theorem Tryz.info9 : (Tryz.prog.info? 9).map (fun i => (i.zero, i.size, i.bytes)) = some (some (.string ⟨#[]⟩), 1, 16) := by kernel_rfl
theorem append_str {w : World} {ops : Array Oper} {rest : List Oper} {o : Oper} {ac : Act} {Q : Exit → Act → World → Prop} (hgd : o.guard = none) (s x : Operand) (ho : o.op = .call { callee := .builtin .append, args := #[s, x], argTypes := #[56, 56] })
  (B : Nat) {a : Option Addr} {n cap : Nat} {ls : List BA} (hs : ac.eval s = .slice a n cap) (hown : OwnS w B a n cap ls)
  {g : Nat} {t : BA} (hx : ac.eval x = .slice (some ⟨g, 0, none⟩) 1 1) (hr : w.cell? ⟨g, 0, none⟩ = some (.string t)) (hb : n + 1 ≤ 1000000) (hB : B ≤ w.heap.size)
  (h : ∀ a2 n2 c2 w2, n2 = n + 1 → OwnS w2 B a2 n2 c2 (ls ++ [t]) → Below B w w2 → wpList Tryz.prog ops Q rest (ac.put o.dst (.slice a2 n2 c2)) w2) : wpList Tryz.prog ops Q (o :: rest) ac w := by
 obtain ⟨i0, hi, hz0, hz1, hz2⟩ := info_parts Tryz.info9
 refine wpList_append_own w hgd s x 56 ho B 9 i0 (.string ⟨#[]⟩) 1 16 Tryz.underlying56 hi hz0 hz1 hz2 rfl (by decide) (.slice a n cap) n (ls.map Value.string) hs hown ⟨g, 0, none⟩ 1 1 [.string t] hx rfl ?_ (by simp [Value.oneCell']) (by unfold maxLen; omega) (by omega) hB ?_
 ·intro j u hu
  cases j with
  | zero => rw [Af, hr]; exact hu
  | succ j => simp at hu
 ·intro v' w' h1 h2 _
  have hbel : Below B w w' := (Below.refl B w).grown h2 hB (fun k hk => (hown.lt k hk).1)
  have e1 : ls.map Value.string ++ [.string t] = (ls ++ [t]).map Value.string := by rw [List.map_append]; rfl
  rw [e1] at h1
  rcases h1.2 with ⟨rfl, h3⟩ | ⟨g, c, cur, rfl, h3⟩
  ·omega
  ·exact h _ _ _ w' rfl h1 hbel
def pack : List BA → List UInt8
 | [] => []
 | s :: r => enc (lst s) ++ pack r
theorem B4 (l r : List BA) : pack (l ++ r) = pack l ++ pack r := by
 induction l with
 | nil => rfl
 | cons s l ih => rw [List.cons_append, pack, pack, ih, List.append_assoc]
theorem take_snocB (l : List BA) (k : Nat) (h : k < l.length) : l.take (k + 1) = l.take k ++ [l.getD k ByteArray.empty] := by
 rw [List.take_add_one, List.getD_eq_getElem?_getD, List.getElem?_eq_getElem h]; rfl
theorem pack_take (l : List BA) (k : Nat) (h : k < l.length) : pack (l.take (k + 1)) = pack (l.take k) ++ enc (lst (l.getD k ByteArray.empty)) := by
 rw [take_snocB l k h, B4, pack, pack, List.append_nil]
theorem pack_split (l : List BA) (k : Nat) (h : k < l.length) : pack l = pack (l.take k) ++ (enc (lst (l.getD k ByteArray.empty)) ++ pack (l.drop (k + 1))) := by
 rw [← List.append_assoc, ← pack_take l k h, ← B4, List.take_append_drop]
theorem pack_len (l : List BA) (m : Nat) (h : ∀ s ∈ l, s.size ≤ m) : (pack l).length ≤ l.length * (m + 11) := by
 induction l with
 | nil => simp [pack]
 | cons s l ih =>
  have h1 := (enc_len (lst s)).2
  rw [len_lst] at h1
  have h2 := h s (by simp)
  have h3 := ih (fun t ht => h t (by simp [ht]))
  rw [pack, List.length_append, List.length_cons, Nat.add_mul]
  omega
theorem short_get {ls : List BA} {m : Nat} (h : ∀ s ∈ ls, s.size ≤ m) (k : Nat) (hk : k < ls.length) : (ls.getD k ByteArray.empty).size ≤ m := by
 apply h
 rw [List.getD_eq_getElem?_getD, List.getElem?_eq_getElem hk]
 simp
end Go.Proofs.YtmjeljldmmkcpaaGreat
