/-
  The program's Decode and Back: HasPrefix, decodeNumber, decodeText, decodeBody, Decode, beginning, Back.
  A text cut, a number brought into bounds.
  Rows of texts: Few, and the document's own Bytes.
  Where the texts of a pack lie.
  A row of bytes that is turned in its place: copy, clear, append as laws of the walk; parts of a row at their places.
-/
import Derived.Test.YtkohjejfkbaffaaGreatG2
import Derived.Laws.BitsAllLaws
import Derived.Test.YtkohjejfkbaffaaGreatG1
import Derived.Laws.CopyOwn
import Derived.Lib.Overlaps
import Derived.Lib.SliceRun
import Derived.Lib.AppendZerosOnto
import Derived.Deep.RegionLaw
namespace Go.Proofs.YtkohjejfkbaffaaGreat
open Go.RowKit Go.PlainAid

theorem HasPrefix_any (a a' : Option Addr) (n n' cap cap' : Nat) (l l' : List UInt8) (w : World) (h : Rd w a n cap l) (h' : Rd w a' n' cap' l') :
    Calls Tryz.prog 89 #[.slice a n cap, .slice a' n' cap'] w fun e w' => e = .returned (.bool (pre l' l)) ∧ w' = w := by
  have hn : n ≤ 9223372036854775807 := Nat.le_trans h.fit h.max
  have hn' : n' ≤ 9223372036854775807 := Nat.le_trans h'.fit h'.max
  by_cases hlt : n' ≤ n
  · obtain ⟨a2, c2, hsl, hR⟩ := h.slice_h n' hlt
    have HE := fun w1 (e : w1 = w) => Equal_any a2 a' n' n' c2 cap' (l.take n') l' w1 (e ▸ hR) (e ▸ h')
    have HP : Hid (decide (l.take n' = l') = pre l' l) := by show _ = _; unfold pre; rw [h'.len]
    rw [HP.out] at HE
    have hz : (n' : Int) ≤ n := by omega
    clear h h' hR HP hlt
    go_enter Tryz.func89, Tryz.ntmps89
    go_wp2_with fail
    refine (HE _ rfl).mono ?_
    rintro e w ⟨rfl, rfl⟩
    go_wp2
    go_ret
    exact ⟨rfl, rfl⟩
  · have HP : Hid (pre l' l = false) := by
      show _ = _
      unfold pre
      apply decide_eq_false
      intro e
      have := congrArg List.length e
      rw [List.length_take, h'.len, h.len] at this
      omega
    rw [HP.out]
    have hz : ¬ (n' : Int) ≤ n := by omega
    clear h h' hlt
    go_enter Tryz.func89, Tryz.ntmps89
    go_wp2
    go_ret
    exact ⟨rfl, rfl⟩

/-- What is told of a body. -/
def dS (o : Option (List UInt8 × Nat)) : ByteArray :=
  match o with
  | none => ⟨#[]⟩
  | some p => bs p.1
def dN (o : Option (List UInt8 × Nat)) : Int :=
  match o with
  | none => 0
  | some p => (p.2 : Nat)
def dR (o : Option (List UInt8 × Nat)) : Value := .tuple #[.string (dS o), .int .i64 (dN o), .bool o.isSome]

set_option maxHeartbeats 1000000 in
theorem decodeText_any (a : Option Addr) (n cap : Nat) (l : List UInt8) (h k : Nat) (w : World) (hR : Rd w a n cap l) (hh : h ≤ 3) (hk : k ≤ 65535) :
    Calls Tryz.prog 120 #[.slice a n cap, .int .i64 h, .int .i64 k] w fun e w' => e = .returned (dR (dtext l h k)) ∧ w' = w := by
  have hn : n ≤ 9223372036854775807 := Nat.le_trans hR.fit hR.max
  obtain ⟨m, hm⟩ : ∃ m, h + k = m := ⟨_, rfl⟩
  have hmz : (h : Int) + (k : Int) = m := by omega
  by_cases hlt : n < m
  · have HD : Hid (dtext l h k = none) := by show _ = _; unfold dtext; rw [if_pos (by rw [hR.len]; omega)]
    rw [HD.out]
    unfold dR
    dsimp only [dS, dN, Option.isSome_none]
    have hlz : (n : Int) < m := by omega
    clear hR hm hlt
    go_enter Tryz.func120, Tryz.ntmps120
    go_wp2
    go_ret3
    exact ⟨rfl, rfl⟩
  · obtain ⟨a2, c2, hsl, hR2⟩ := hR.slice_lh h m (by omega) (by omega)
    have hk2 : m - h = k := by omega
    rw [hk2] at hsl hR2
    have hT := hR2.text
    have hlen : (bs ((l.drop h).take k)).size = k := hR2.len
    have HP := fun w => Parse_any (bs ((l.drop h).take k)) w (by rw [hlen]; unfold maxLen; omega) (parseL ((l.drop h).take k)) rfl
    cases hp : parseL ((l.drop h).take k) with
    | some z =>
      rw [hp] at HP
      have HD : Hid (dtext l h k = none) := by show _ = _; unfold dtext; rw [if_neg (by rw [hR.len]; omega), hp]; rfl
      rw [HD.out]
      unfold dR
      dsimp only [dS, dN, Option.isSome_none]
      have hlz : ¬ (n : Int) < m := by omega
      clear hR hm hlt hR2 hk2 hp hlen
      generalize bs ((l.drop h).take k) = s at HP hT
      go_enter Tryz.func120, Tryz.ntmps120
      go_wp2_with fail
      refine (HP _).mono ?_
      rintro e w ⟨rfl, rfl⟩
      unfold i64R
      dsimp only [Option.getD_some, Option.isSome_some]
      go_wp2
      go_ret3
      exact ⟨rfl, rfl⟩
    | none =>
      rw [hp] at HP
      have HD : Hid (dtext l h k = some ((l.drop h).take k, m)) := by show _ = _; unfold dtext; rw [if_neg (by rw [hR.len]; omega), hp, hm]; rfl
      rw [HD.out]
      unfold dR
      dsimp only [dS, dN, Option.isSome_some]
      have hlz : ¬ (n : Int) < m := by omega
      clear hR hm hlt hR2 hk2 hp hlen
      generalize bs ((l.drop h).take k) = s at HP hT
      go_enter Tryz.func120, Tryz.ntmps120
      go_wp2_with fail
      refine (HP _).mono ?_
      rintro e w ⟨rfl, rfl⟩
      unfold i64R
      dsimp only [Option.getD_none, Option.isSome_none]
      go_wp2
      go_ret3
      exact ⟨rfl, rfl⟩

theorem or_byte (a b : Nat) (hb : b < 256) : a * 256 ||| b = a * 256 + b := by
  have := Nat.shiftLeft_add_eq_or_of_lt (b := b) (i := 8) hb a
  rw [Nat.shiftLeft_eq] at this
  exact this.symm
theorem u64_or_byte (V X : Int) (h0 : 0 ≤ V) (h1 : V * 256 < 18446744073709551616) (h2 : 0 ≤ X) (h3 : X ≤ 255) : bits BinOp.or IntKind.u64 (IntKind.u64.wrap (V * 256)) X = V * 256 + X := by
  obtain ⟨v, rfl⟩ := Int.eq_ofNat_of_zero_le h0
  obtain ⟨x, rfl⟩ := Int.eq_ofNat_of_zero_le h2
  rw [u64_nonneg (by omega) (by omega), show (v : Int) * 256 = ((v * 256 : Nat) : Int) by omega, u64_or_nat _ _ (by omega) (by omega), or_byte _ _ (by omega)]; omega
theorem i64_or_byte (V X : Int) (h0 : 0 ≤ V) (h1 : V ≤ 255) (h2 : 0 ≤ X) (h3 : X ≤ 255) : bits BinOp.or IntKind.i64 (V * 256) X = V * 256 + X := by
  obtain ⟨v, rfl⟩ := Int.eq_ofNat_of_zero_le h0
  obtain ⟨x, rfl⟩ := Int.eq_ofNat_of_zero_le h2
  have e : bits BinOp.or IntKind.i64 ((v * 256 : Nat) : Int) ((x : Nat) : Int) = ((v * 256 ||| x : Nat) : Int) := by
    have hlt : v * 256 ||| x < 2 ^ 16 := Nat.or_lt_two_pow (by omega) (by omega)
    show IntKind.i64.wrap ((BitVec.ofInt 64 ((v * 256 : Nat) : Int) ||| BitVec.ofInt 64 ((x : Nat) : Int)).toNat : Int) = _
    rw [BitVec.toNat_or, BitVec.ofInt_natCast, BitVec.ofInt_natCast, BitVec.toNat_ofNat, BitVec.toNat_ofNat, Nat.mod_eq_of_lt (a := v * 256) (by omega), Nat.mod_eq_of_lt (a := x) (by omega), IntKind.wrap_i64]
    omega
  rw [show (v : Int) * 256 = ((v * 256 : Nat) : Int) by omega, e, or_byte _ _ (by omega)]; omega

/-- A number's body behind its first byte. -/
def dnum (r : List UInt8) : Option (List UInt8 × Nat) :=
  if r.length < 8 then none
  else if 0 ≤ sgn (val 0 (r.take 8)) ∧ sgn (val 0 (r.take 8)) < 128 then none else some (fmtL (sgn (val 0 (r.take 8))), 9)

theorem val_snoc : ∀ (l : List UInt8) (v : Nat) (b : UInt8), val v (l ++ [b]) = val v l * 256 + b.toNat
  | [], v, b => rfl
  | x :: l, v, b => by rw [List.cons_append, val, val_snoc l, val]
theorem take_snoc (l : List UInt8) (k : Nat) (h : k < l.length) : l.take (k + 1) = l.take k ++ [l.getD k 0] := by
  rw [List.take_add_one, List.getD_eq_getElem?_getD, List.getElem?_eq_getElem h]; rfl
theorem val_take_lt (l : List UInt8) (k : Nat) (hk : k ≤ 8) : val 0 (l.take k) < 18446744073709551616 := by
  have h1 := val_lt (l.take k) 0
  have h2 : (l.take k).length ≤ 8 := by rw [List.length_take]; omega
  have h3 : 256 ^ (l.take k).length ≤ 256 ^ 8 := Nat.pow_le_pow_right (by decide) h2
  omega
theorem wrap_sgn (u : Nat) (h : u < 18446744073709551616) : wrap64 (u : Int) = sgn u := by unfold wrap64 sgn; split <;> omega

set_option maxHeartbeats 1000000 in
theorem decodeNumber_any (a : Option Addr) (n cap : Nat) (x : UInt8) (r : List UInt8) (w : World) (hR : Rd w a n cap (x :: r)) :
    Calls Tryz.prog 119 #[.slice a n cap] w fun e w' => Below w.heap.size w w' ∧ e = .returned (dR (dnum r)) := by
  have hn : n ≤ 9223372036854775807 := Nat.le_trans hR.fit hR.max
  have hl : r.length + 1 = n := hR.len
  by_cases hlt : n < 9
  · have HD : Hid (dnum r = none) := by show _ = _; unfold dnum; rw [if_pos (by omega)]
    rw [HD.out]
    unfold dR
    dsimp only [dS, dN, Option.isSome_none]
    clear hR hl
    go_enter Tryz.func119, Tryz.ntmps119
    go_wp2
    go_ret3
    exact ⟨Below.refl _ _, rfl⟩
  · obtain ⟨a2, c2, hsl, hR2⟩ := hR.slice_lh 1 9 (by omega) (by omega)
    rw [show ((x :: r).drop 1).take (9 - 1) = r.take 8 from rfl] at hR2
    have HR : Hid (Rd w a2 8 c2 (r.take 8)) := hR2
    have hlz : ¬ (n : Int) < 9 := by omega
    have HL : Hid (8 ≤ r.length) := by show _ ≤ _; omega
    replace hsl : ∀ wx, (Instr.sliceAt 23 (.slice a n cap) (some (.int .i64 1)) (some (.int .i64 9)) none).run Tryz.prog wx = .ok (.slice a2 8 c2) wx := hsl
    clear hR hl hlt hR2
    go_enter Tryz.func119, Tryz.ntmps119
    go_wp2
    go_loopg [5, 15] 8 (fun g bv iv wr => ∃ (k : Nat), k + g = 8 ∧ bv = .int .u64 (val 0 ((r.take 8).take k) : Nat) ∧ iv = .int .i64 k ∧ wr = w)
    case atStart => exact ⟨0, by omega, rfl, rfl, rfl⟩
    case round =>
      obtain ⟨k, hk, rfl, rfl, rfl⟩ := hrel
      by_cases h8 : k < 8
      · obtain ⟨b, off, ha, hc⟩ := HR.out.cell k h8
        subst ha
        obtain ⟨V, hV⟩ : ∃ V : Int, ((val 0 ((r.take 8).take k) : Nat) : Int) = V := ⟨_, rfl⟩
        obtain ⟨X, hX⟩ : ∃ X : Int, (((r.take 8).getD k 0).toNat : Int) = X := ⟨_, rfl⟩
        have HN : Hid (((val 0 ((r.take 8).take (k + 1)) : Nat) : Int) = V * 256 + X) := by
          show _ = _
          rw [take_snoc _ _ (by rw [List.length_take]; have := HL.out; omega), val_snoc]; omega
        rw [hX] at hc
        have hXb := byte_le _ hX
        rw [hV]
        have hV0 := val_take_lt (r.take 8) k (by omega)
        have hV1 := val_take_lt (r.take 8) (k + 1) (by omega)
        have HO : Hid (bits BinOp.or IntKind.u64 (IntKind.u64.wrap (V * 256)) X = V * 256 + X) := by
          have := HN.out
          exact u64_or_byte V X (by omega) (by omega) hXb.1 hXb.2
        clear hV hX hV0 hV1
        go_wp2
        go_roundg (gk - 1)
        case measure => omega
        case rel => exact ⟨k + 1, by omega, by rw [HN.out, HO.out], by go_num, rfl⟩
      · have hk8 : k = 8 := by omega
        subst hk8
        rw [List.take_take]
        have hv := val_take_lt r 8 (by omega)
        have hin := sgn_in hv
        have HS := fun w => isSmall_any (sgn (val 0 (r.take 8))) w
        have HF := fun w => Format_any (sgn (val 0 (r.take 8))) w hin.1 hin.2
        have hws : wrap64 ((val 0 (r.take (min 8 8)) : Nat) : Int) = sgn (val 0 (r.take 8)) := wrap_sgn _ hv
        by_cases hsm : 0 ≤ sgn (val 0 (r.take 8)) ∧ sgn (val 0 (r.take 8)) < 128
        · have HD : Hid (dnum r = none) := by show _ = _; unfold dnum; rw [if_neg (by have := HL.out; omega), if_pos hsm]
          have hq : decide (0 ≤ sgn (val 0 (r.take 8)) ∧ sgn (val 0 (r.take 8)) < 128) = true := decide_eq_true hsm
          rw [hq] at HS
          clear hq hsm hin hv
          generalize sgn (val 0 (r.take 8)) = z at HS HF hws
          generalize (val 0 (r.take (min 8 8)) : Nat) = u at hws
          go_wp2_with fail
          refine (HS _).mono ?_
          rintro e wr ⟨rfl, rfl⟩
          go_wp2
          go_ret3
          exact ⟨Below.refl _ _, by rw [HD.out]; rfl⟩
        · have HD : Hid (dnum r = some (fmtL (sgn (val 0 (r.take 8))), 9)) := by show _ = _; unfold dnum; rw [if_neg (by have := HL.out; omega), if_neg hsm]
          have hq : decide (0 ≤ sgn (val 0 (r.take 8)) ∧ sgn (val 0 (r.take 8)) < 128) = false := decide_eq_false hsm
          rw [hq] at HS
          clear hq hsm hin hv
          generalize sgn (val 0 (r.take 8)) = z at HS HF hws HD
          generalize (val 0 (r.take (min 8 8)) : Nat) = u at hws
          go_wp2_with fail
          refine (HS _).mono ?_
          rintro e wr ⟨rfl, rfl⟩
          go_wp2_with fail
          refine (HF _).mono ?_
          rintro e w1 ⟨rfl, hb⟩
          go_wp2
          go_ret3
          exact ⟨hb, by rw [HD.out]; rfl⟩

theorem dbody_low {x : UInt8} (r : List UInt8) (h : x.toNat < 128) : dbody (x :: r) = some (fmtL x.toNat, 1) := by rw [dbody_cons, if_pos h]
theorem dbody_num {x : UInt8} (r : List UInt8) (h : x.toNat = 241) : dbody (x :: r) = dnum r := by rw [dbody_cons, if_neg (by omega), if_pos h]; rfl
theorem dbody_short {x : UInt8} (r : List UInt8) (h : 128 ≤ x.toNat) (h2 : x.toNat ≤ 191) : dbody (x :: r) = dtext (x :: r) 1 (x.toNat - 128) := by
  rw [dbody_cons, if_neg (by omega), if_neg (by omega), if_neg (by omega), if_pos h2]
theorem dbody_odd {x : UInt8} (r : List UInt8) (h : 191 < x.toNat) (h2 : x.toNat ≠ 224) (h3 : x.toNat ≠ 241) : dbody (x :: r) = none := by
  rw [dbody_cons, if_neg (by omega), if_neg (by omega), if_neg (by omega), if_neg (by omega)]
theorem dbody_cut {x : UInt8} (r : List UInt8) (h : x.toNat = 224) (h2 : r.length < 2) : dbody (x :: r) = none := by
  rw [dbody_cons, if_neg (by omega), if_neg (by omega), if_pos h, if_pos h2]
theorem dbody_bad {x : UInt8} (r : List UInt8) (h : x.toNat = 224) (h2 : ¬ r.length < 2) (h3 : (r.getD 0 0).toNat * 256 + (r.getD 1 0).toNat ≤ 63 ∨ 4096 < (r.getD 0 0).toNat * 256 + (r.getD 1 0).toNat) : dbody (x :: r) = none := by
  rw [dbody_cons, if_neg (by omega), if_neg (by omega), if_pos h, if_neg h2, if_pos h3]
theorem dbody_long {x : UInt8} (r : List UInt8) (h : x.toNat = 224) (h2 : ¬ r.length < 2) (h3 : ¬ ((r.getD 0 0).toNat * 256 + (r.getD 1 0).toNat ≤ 63 ∨ 4096 < (r.getD 0 0).toNat * 256 + (r.getD 1 0).toNat)) :
    dbody (x :: r) = dtext (x :: r) 3 ((r.getD 0 0).toNat * 256 + (r.getD 1 0).toNat) := by
  rw [dbody_cons, if_neg (by omega), if_neg (by omega), if_pos h, if_neg h2, if_neg h3]

set_option maxRecDepth 100000 in
set_option maxHeartbeats 4000000 in
theorem decodeBody_any (a : Option Addr) (n cap : Nat) (x : UInt8) (r : List UInt8) (w : World) (hR : Rd w a n cap (x :: r)) :
    Calls Tryz.prog 87 #[.slice a n cap] w fun e w' => Below w.heap.size w w' ∧ e = .returned (dR (dbody (x :: r))) := by
  have hn : n ≤ 9223372036854775807 := Nat.le_trans hR.fit hR.max
  have hl : r.length + 1 = n := hR.len
  obtain ⟨b, off, ha, hc⟩ := hR.cell 0 (by omega)
  subst ha
  have hn0 : (0 : Int) < n := by omega
  obtain ⟨X, hX⟩ : ∃ X : Int, (x.toNat : Int) = X := ⟨_, rfl⟩
  rw [show ((x :: r).getD 0 0) = x from rfl, hX, Nat.add_zero] at hc
  have hXb := byte_le x hX
  have HR : Hid (Rd w (some ⟨b, off, none⟩) n cap (x :: r)) := hR
  by_cases h1 : X < 128
  · rw [dbody_low r (by omega)]
    have HF := fun w => Format_any X w (by omega) (by omega)
    have HX : Hid (fmtL x.toNat = fmtL X) := by show _ = _; rw [hX]
    clear hR hl hX
    go_enter Tryz.func87, Tryz.ntmps87
    go_wp2
    go_quiet (fail)
    go_wp2_with fail
    refine (HF _).mono ?_
    rintro e w1 ⟨rfl, hb⟩
    go_wp2
    go_ret3
    exact ⟨(below_drewN w _).trans hb, by unfold dR; dsimp only [dS, dN]; rw [HX.out]; rfl⟩
  by_cases h2 : X = 241
  · rw [dbody_num r (by omega)]
    have HN := fun w1 (e : Rd w1 (some ⟨b, off, none⟩) n cap (x :: r)) => decodeNumber_any _ n cap x r w1 e
    unfold dR at HN ⊢
    generalize dS (dnum r) = R1 at HN
    generalize dN (dnum r) = R2 at HN
    generalize (dnum r).isSome = R3 at HN
    subst h2
    clear hR hl hX h1
    go_enter Tryz.func87, Tryz.ntmps87
    go_wp2
    go_quiet (fail)
    go_wp2_with fail
    refine (HN _ (HR.out.keep (below_drewN w _))).mono ?_
    rintro e w1 ⟨hb, rfl⟩
    have HB : Hid (Below w.heap.size w w1) := (below_drewN w _).trans hb
    clear hb
    go_wp2
    go_ret3
    exact ⟨HB.out, rfl⟩
  by_cases h3 : X = 224
  · by_cases hlt : r.length < 2
    · rw [dbody_cut r (by omega) hlt]
      unfold dR
      dsimp only [dS, dN, Option.isSome_none]
      have hn3 : (n : Int) < 3 := by omega
      subst h3
      clear hR hl hX h1 h2 hlt
      go_enter Tryz.func87, Tryz.ntmps87
      go_wp2
      go_quiet (fail)
      go_wp2
      go_ret3
      exact ⟨below_drewN w _, rfl⟩
    · have hn3 : ¬ (n : Int) < 3 := by omega
      obtain ⟨b', off', ha, hc1⟩ := hR.cell 1 (by omega)
      cases ha
      obtain ⟨b', off', ha, hc2⟩ := hR.cell 2 (by omega)
      cases ha
      obtain ⟨Y, hY⟩ : ∃ Y : Int, ((r.getD 0 0).toNat : Int) = Y := ⟨_, rfl⟩
      obtain ⟨Z, hZ⟩ : ∃ Z : Int, ((r.getD 1 0).toNat : Int) = Z := ⟨_, rfl⟩
      rw [show ((x :: r).getD 1 0) = r.getD 0 0 from rfl, hY] at hc1
      rw [show ((x :: r).getD 2 0) = r.getD 1 0 from rfl, hZ] at hc2
      have hYb := byte_le _ hY
      have hZb := byte_le _ hZ
      have hO := i64_or_byte Y Z hYb.1 hYb.2 hZb.1 hZb.2
      obtain ⟨k, hk⟩ : ∃ k, (r.getD 0 0).toNat * 256 + (r.getD 1 0).toNat = k := ⟨_, rfl⟩
      have hkz : Y * 256 + Z = (k : Int) := by omega
      rw [hkz] at hO
      by_cases hbad : k ≤ 63 ∨ 4096 < k
      · rw [dbody_bad r (by omega) hlt (by rw [hk]; exact hbad)]
        unfold dR
        dsimp only [dS, dN, Option.isSome_none]
        subst h3
        rcases hbad with hbad | hbad
        · have hbz : (k : Int) ≤ 63 := by omega
          clear hR hl hX h1 h2 hlt hY hZ hk hkz hbad
          go_enter Tryz.func87, Tryz.ntmps87
          go_wp2
          go_quiet (fail)
          go_wp2
          go_quiet (fail)
          go_wp2
          go_ret3
          exact ⟨below_drewN w _, rfl⟩
        · have hbz : 4096 < (k : Int) := by omega
          have hbz2 : ¬ (k : Int) ≤ 63 := by omega
          clear hR hl hX h1 h2 hlt hY hZ hk hkz hbad
          go_enter Tryz.func87, Tryz.ntmps87
          go_wp2
          go_quiet (fail)
          go_wp2
          go_quiet (fail)
          go_wp2
          go_ret3
          exact ⟨below_drewN w _, rfl⟩
      · rw [dbody_long r (by omega) hlt (by rw [hk]; exact hbad), hk]
        have HT := fun w1 (e : Rd w1 (some ⟨b, off, none⟩) n cap (x :: r)) => decodeText_any _ n cap (x :: r) 3 k w1 e (by omega) (by omega)
        unfold dR at HT ⊢
        generalize dS (dtext (x :: r) 3 k) = R1 at HT
        generalize dN (dtext (x :: r) 3 k) = R2 at HT
        generalize (dtext (x :: r) 3 k).isSome = R3 at HT
        subst h3
        have hbz : ¬ 4096 < (k : Int) := by omega
        have hbz2 : ¬ (k : Int) ≤ 63 := by omega
        clear hR hl hX h1 h2 hlt hY hZ hk hkz hbad
        go_enter Tryz.func87, Tryz.ntmps87
        go_wp2
        go_quiet (fail)
        go_wp2
        go_quiet (fail)
        go_wp2_with fail
        refine (HT _ (HR.out.keep (below_drewN w _))).mono ?_
        rintro e w1 ⟨rfl, rfl⟩
        go_wp2
        go_ret3
        exact ⟨below_drewN w _, rfl⟩
  by_cases h4 : X ≤ 191
  · rw [dbody_short r (by omega) (by omega)]
    obtain ⟨k, hk⟩ : ∃ k, x.toNat - 128 = k := ⟨_, rfl⟩
    rw [hk]
    have HT := fun w1 (e : Rd w1 (some ⟨b, off, none⟩) n cap (x :: r)) => decodeText_any _ n cap (x :: r) 1 k w1 e (by omega) (by omega)
    rw [show (k : Int) = X - 128 by omega] at HT
    unfold dR at HT ⊢
    generalize dS (dtext (x :: r) 1 k) = R1 at HT
    generalize dN (dtext (x :: r) 1 k) = R2 at HT
    generalize (dtext (x :: r) 1 k).isSome = R3 at HT
    have hq1 : (X == 241) = false := by simpa using h2
    have hq2 : (X == 224) = false := by simpa using h3
    have h1' : 128 ≤ X := by omega
    clear hR hl hX h1 h2 h3 hk
    go_enter Tryz.func87, Tryz.ntmps87
    go_wp2
    go_quiet (fail)
    go_wp2_with fail
    refine (HT _ (HR.out.keep (below_drewN w _))).mono ?_
    rintro e w1 ⟨rfl, rfl⟩
    go_wp2
    go_ret3
    exact ⟨below_drewN w _, rfl⟩
  · rw [dbody_odd r (by omega) (by omega) (by omega)]
    unfold dR
    dsimp only [dS, dN, Option.isSome_none]
    have hq1 : (X == 241) = false := by simpa using h2
    have hq2 : (X == 224) = false := by simpa using h3
    have h1' : 191 < X := by omega
    clear hR hl hX h1 h2 h3 h4
    go_enter Tryz.func87, Tryz.ntmps87
    go_wp2
    go_quiet (fail)
    go_wp2
    go_ret3
    exact ⟨below_drewN w _, rfl⟩

/-- What Decode answers. -/
def cR (o : Option (List UInt8 × Nat)) : Value := .tuple #[.string (dS o), .int .i64 (dN o), .int .i64 (if o.isSome then 0 else 24)]
theorem cR_none : cR none = .tuple #[.string ⟨#[]⟩, .int .i64 0, .int .i64 24] := rfl
theorem cR_some (s : List UInt8) (k : Nat) : cR (some (s, k)) = .tuple #[.string (bs s), .int .i64 (k : Nat), .int .i64 0] := rfl

set_option maxRecDepth 100000 in
set_option maxHeartbeats 4000000 in
theorem Decode_any (a : Option Addr) (n cap : Nat) (l : List UInt8) (at' : Int) (w : World) (hR : Rd w a n cap l) (h63 : at' ≤ 9223372036854775807) :
    Calls Tryz.prog 65 #[.slice a n cap, .int .i64 at'] w fun e w' => Below w.heap.size w w' ∧ e = .returned (cR (decAt l at')) := by
  have hn : n ≤ 9223372036854775807 := Nat.le_trans hR.fit hR.max
  have hl := hR.len
  by_cases h0 : at' < 0
  · have HD : Hid (decAt l at' = none) := by show _ = _; unfold decAt; rw [if_pos (.inl h0)]
    rw [HD.out, cR_none]
    clear hR hl
    go_enter Tryz.func65, Tryz.ntmps65
    go_wp2
    go_ret3
    exact ⟨Below.refl _ _, rfl⟩
  by_cases h1 : (n : Int) ≤ at'
  · have HD : Hid (decAt l at' = none) := by show _ = _; unfold decAt; rw [if_pos (.inr (by rw [hl]; exact h1))]
    rw [HD.out, cR_none]
    have h0' : 0 ≤ at' := by omega
    clear hR hl h0
    go_enter Tryz.func65, Tryz.ntmps65
    go_wp2
    go_ret3
    exact ⟨Below.refl _ _, rfl⟩
  obtain ⟨p, rfl⟩ := Int.eq_ofNat_of_zero_le (show 0 ≤ at' by omega)
  have hp : p < n := by omega
  have HD : Hid (decAt l (p : Nat) = (dec1 (l.drop p)).map fun q => (q.1, p + q.2)) := by
    show _ = _; unfold decAt; rw [if_neg (by rw [hl]; omega)]; rfl
  obtain ⟨a1, c1, hsl, hR1⟩ := hR.slice_l p (by omega)
  obtain ⟨x, r, hxr⟩ : ∃ x r, l.drop p = x :: r := by
    cases h : l.drop p with
    | nil => have := congrArg List.length h; rw [List.length_drop, hl, List.length_nil] at this; omega
    | cons x r => exact ⟨x, r, rfl⟩
  rw [hxr] at hR1
  rw [HD.out, hxr]
  have HB := fun w1 (e : Rd w1 a1 (n - p) c1 (x :: r)) => decodeBody_any a1 (n - p) c1 x r w1 e
  have HR : Hid (Rd w a n cap l) := hR
  have HR1 : Hid (Rd w a1 (n - p) c1 (x :: r)) := hR1
  have hpz : (p : Int) < n := by omega
  have hp0 : (0 : Int) ≤ p := by omega
  have HX : Hid (l.drop p = x :: r) := hxr
  have HLn : Hid (l.length = n) := hl
  have HPn : Hid (p < n) := hp
  cases hd : dbody (x :: r) with
  | none =>
    have HE : Hid (dec1 (x :: r) = none) := by show _ = _; unfold dec1; rw [hd]
    rw [hd] at HB
    rw [HE.out]
    unfold dR dS dN at HB
    dsimp only [Option.isSome_none] at HB
    rw [show Option.map (fun q : List UInt8 × Nat => (q.1, p + q.2)) none = none from rfl, cR_none]
    clear hR hl hR1 hxr hp hd h0 h1 HD
    go_enter Tryz.func65, Tryz.ntmps65
    go_wp2_with fail
    refine (HB _ HR1.out).mono ?_
    rintro e w1 ⟨hb, rfl⟩
    go_wp2
    go_ret3
    exact ⟨hb, rfl⟩
  | some q =>
    obtain ⟨s, k⟩ := q
    obtain ⟨hs1, hs2, r2, hs3⟩ := dbody_some hd
    have hsl2 := congrArg List.length hs3
    rw [List.length_append, ← hs2, ← hxr, List.length_drop, hl] at hsl2
    have hbl := body_len s
    have hk : k ≤ 5000 := by omega
    have hpk : p + k ≤ n := by omega
    have HK := fun w => encodeBack_any k w (by omega)
    obtain ⟨a2, c2, hsl3, hR2⟩ := hR.slice_l (p + k) hpk
    have HR2 : Hid (Rd w a2 (n - (p + k)) c2 (l.drop (p + k))) := hR2
    rw [show (((p + k : Nat) : Int)) = (p : Int) + (k : Int) by omega] at hsl3
    have HP := fun w1 a3 n3 c3 (e : Rd w1 a2 (n - (p + k)) c2 (l.drop (p + k))) (e3 : Rd w1 a3 n3 c3 (back k)) => HasPrefix_any a2 a3 (n - (p + k)) n3 c2 c3 (l.drop (p + k)) (back k) w1 e e3
    rw [hd] at HB
    unfold dR dS dN at HB
    dsimp only [Option.isSome_some] at HB
    have hdd : (x :: r).drop k = l.drop (p + k) := by rw [← hxr, List.drop_drop]
    have hpkz : (p : Int) + k ≤ n := by omega
    have hkz : (k : Int) ≤ 5000 := by omega
    cases hpre : pre (back k) (l.drop (p + k)) with
    | false =>
      rw [hpre] at HP
      have HE : Hid (dec1 (x :: r) = none) := by show _ = _; unfold dec1; rw [hd]; dsimp only; rw [hdd, hpre]; rfl
      rw [HE.out, show Option.map (fun q : List UInt8 × Nat => (q.1, p + q.2)) none = none from rfl, cR_none]
      clear hR hl hR1 hxr hp hd h0 h1 HD hR2 hs1 hs2 hs3 hsl2 hbl hpk hdd hpre hk
      go_enter Tryz.func65, Tryz.ntmps65
      go_wp2_with fail
      refine (HB _ HR1.out).mono ?_
      rintro e w1 ⟨hb, rfl⟩
      have H1 : Hid (Below w.heap.size w w1) := hb
      clear hb
      go_wp2_with fail
      refine (HK _).mono ?_
      rintro e w2 ⟨hb, a3, n3, c3, rfl, hO⟩
      have H2 := step_below H1 hb
      have HO : Hid (Rd w2 a3 n3 c3 (back k)) := hO.rd
      clear hb hO
      go_wp2_with fail
      refine (HP _ _ _ _ (HR2.out.keep H2.out) HO.out).mono ?_
      rintro e w2 ⟨rfl, rfl⟩
      go_wp2
      go_ret3
      exact ⟨H2.out, rfl⟩
    | true =>
      rw [hpre] at HP
      have HF : Hid (p + k + (back k).length ≤ n) := by
        obtain ⟨z, hz⟩ := pre_ex hpre
        have := congrArg List.length hz
        rw [List.length_append, List.length_drop, hl] at this
        show _ ≤ _
        omega
      have HE : Hid (dec1 (x :: r) = some (s, k + (back k).length)) := by show _ = _; unfold dec1; rw [hd]; dsimp only; rw [hdd, hpre]; rfl
      rw [HE.out, show Option.map (fun q : List UInt8 × Nat => (q.1, p + q.2)) (some (s, k + (back k).length)) = some (s, p + (k + (back k).length)) from rfl, cR_some]
      clear hR hl hR1 hxr hp hd h0 h1 HD hR2 hs1 hs2 hs3 hsl2 hbl hpk hdd hpre hk
      go_enter Tryz.func65, Tryz.ntmps65
      go_wp2_with fail
      refine (HB _ HR1.out).mono ?_
      rintro e w1 ⟨hb, rfl⟩
      have H1 : Hid (Below w.heap.size w w1) := hb
      clear hb
      go_wp2_with fail
      refine (HK _).mono ?_
      rintro e w2 ⟨hb, a3, n3, c3, rfl, hO⟩
      have H2 := step_below H1 hb
      have HO : Hid (Rd w2 a3 n3 c3 (back k)) := hO.rd
      have HN3 : Hid ((back k).length = n3) := hO.len
      have hn3 : (p : Int) + k + n3 ≤ n := by
        have := hO.len
        have := HF.out
        omega
      clear hb hO
      go_wp2_with fail
      refine (HP _ _ _ _ (HR2.out.keep H2.out) HO.out).mono ?_
      rintro e w2 ⟨rfl, rfl⟩
      go_wp2
      go_ret3
      exact ⟨H2.out, by rw [HN3.out, show ((p + (k + n3) : Nat) : Int) = (p : Int) + k + n3 by omega]; rfl⟩

/-- What beginning answers. -/
def bR (o : Option Int) : Value := .tuple #[.int .i64 (o.getD 0), .bool o.isSome]
theorem bR_none : bR none = .tuple #[.int .i64 0, .bool false] := rfl
theorem bR_some (k : Int) : bR (some k) = .tuple #[.int .i64 k, .bool true] := rfl

set_option maxRecDepth 100000 in
theorem beginning_any (a : Option Addr) (n cap : Nat) (l : List UInt8) (w : World) (hR : Rd w a n cap l) (h0 : 0 < n) :
    Calls Tryz.prog 122 #[.slice a n cap] w fun e w' => e = .returned (bR (begn l)) ∧ w' = w := by
  have hn : n ≤ 9223372036854775807 := Nat.le_trans hR.fit hR.max
  have hl := hR.len
  obtain ⟨m, rfl⟩ : ∃ m, n = m + 1 := ⟨n - 1, by omega⟩
  obtain ⟨b, off, ha, hc⟩ := hR.cell m (by omega)
  subst ha
  obtain ⟨X, hX⟩ : ∃ X : Int, ((l.getD m 0).toNat : Int) = X := ⟨_, rfl⟩
  rw [hX] at hc
  have hXb := byte_le _ hX
  have hm1 : ((m + 1 : Nat) : Int) - 1 = m := by omega
  by_cases h1 : X < 128
  · have HB : Hid (begn l = some ((m : Int) - X)) := by
      show _ = _
      unfold begn
      rw [hl, Nat.add_sub_cancel, if_pos (by omega), hX]
      congr 1; omega
    rw [HB.out, bR_some]
    clear hR hl hX
    go_enter Tryz.func122, Tryz.ntmps122
    go_wp2
    go_ret2
    exact ⟨by go_num, rfl⟩
  · by_cases h2 : m = 0
    · subst h2
      have HB : Hid (begn l = none) := by
        show _ = _
        unfold begn
        rw [hl, show 0 + 1 - 1 = 0 from rfl, if_neg (by omega), if_pos (by omega)]
      rw [HB.out, bR_none]
      rw [Nat.add_zero] at hc
      rw [Nat.zero_add]
      clear hR hl hX hm1 h0 hn
      go_enter Tryz.func122, Tryz.ntmps122
      go_wp2
      go_ret2
      exact ⟨rfl, rfl⟩
    · obtain ⟨q, rfl⟩ : ∃ q, m = q + 1 := ⟨m - 1, by omega⟩
      obtain ⟨b', off', ha, hc2⟩ := hR.cell q (by omega)
      cases ha
      obtain ⟨Y, hY⟩ : ∃ Y : Int, ((l.getD q 0).toNat : Int) = Y := ⟨_, rfl⟩
      rw [hY] at hc2
      have hYb := byte_le _ hY
      have HB : Hid (begn l = some ((q : Int) - (128 * Y + X - 128))) := by
        show _ = _
        unfold begn
        rw [hl, Nat.add_sub_cancel, if_neg (by omega), if_neg (by omega), show q + 1 + 1 - 2 = q by omega, hX, hY]
        congr 1; omega
      rw [HB.out, bR_some]
      clear hR hl hX hY h2
      go_enter Tryz.func122, Tryz.ntmps122
      go_wp2
      go_ret2
      exact ⟨by go_num, rfl⟩

/-- What Back answers. -/
def kR (o : Option Int) : Value := .tuple #[.int .i64 (o.getD 0), .int .i64 (if o.isSome then 0 else 24)]
theorem kR_none : kR none = .tuple #[.int .i64 0, .int .i64 24] := rfl
theorem kR_some (k : Int) : kR (some k) = .tuple #[.int .i64 k, .int .i64 0] := rfl
theorem begn_le {l : List UInt8} {k : Int} (h : begn l = some k) : k ≤ l.length := by
  unfold begn at h
  split at h
  · have := Option.some.inj h; omega
  · split at h
    · cases h
    · have := Option.some.inj h; omega

set_option maxRecDepth 100000 in
set_option maxHeartbeats 4000000 in
theorem Back_any (a : Option Addr) (n cap : Nat) (l : List UInt8) (e' : Int) (w : World) (hR : Rd w a n cap l) :
    Calls Tryz.prog 92 #[.slice a n cap, .int .i64 e'] w fun e w' => Below w.heap.size w w' ∧ e = .returned (kR (bkAt l e')) := by
  have hn : n ≤ 9223372036854775807 := Nat.le_trans hR.fit hR.max
  have hl := hR.len
  by_cases h0 : e' ≤ 0
  · have HD : Hid (bkAt l e' = none) := by show _ = _; unfold bkAt; rw [if_pos (.inl h0)]
    rw [HD.out, kR_none]
    clear hR hl
    go_enter Tryz.func92, Tryz.ntmps92
    go_wp2
    go_ret2
    exact ⟨Below.refl _ _, rfl⟩
  by_cases h1 : (n : Int) < e'
  · have HD : Hid (bkAt l e' = none) := by show _ = _; unfold bkAt; rw [if_pos (.inr (by rw [hl]; exact h1))]
    rw [HD.out, kR_none]
    have h0' : 0 < e' := by omega
    clear hR hl h0
    go_enter Tryz.func92, Tryz.ntmps92
    go_wp2
    go_ret2
    exact ⟨Below.refl _ _, rfl⟩
  obtain ⟨p, rfl⟩ := Int.eq_ofNat_of_zero_le (show 0 ≤ e' by omega)
  have hp : p ≤ n := by omega
  have hb0 : bkAt l (p : Nat) = match begn (l.take p) with
    | none => none
    | some k => match decAt l k with
      | none => none
      | some q => if (q.2 : Int) = (p : Int) then some k else none := by
    unfold bkAt; rw [if_neg (by rw [hl]; omega)]; rfl
  obtain ⟨a1, c1, hsl, hR1⟩ := hR.slice_h p hp
  have HR : Hid (Rd w a n cap l) := hR
  have HG := fun w1 (e : Rd w1 a1 p c1 (l.take p)) => beginning_any a1 p c1 (l.take p) w1 e (by omega)
  have HR1 : Hid (Rd w a1 p c1 (l.take p)) := hR1
  have hpz : (0 : Int) < p := by omega
  have hpn : (p : Int) ≤ n := by omega
  cases hg : begn (l.take p) with
  | none =>
    have HB : Hid (bkAt l (p : Nat) = none) := by show _ = _; rw [hb0, hg]
    rw [HB.out, kR_none]
    rw [hg, bR_none] at HG
    clear hR hl hR1 hp hb0 hg h0 h1
    go_enter Tryz.func92, Tryz.ntmps92
    go_wp2_with fail
    refine (HG _ HR1.out).mono ?_
    rintro e w ⟨rfl, rfl⟩
    go_wp2
    go_ret2
    exact ⟨Below.refl _ _, rfl⟩
  | some k =>
    have hk := begn_le hg
    rw [List.length_take, hl] at hk
    have HC := fun w1 (e : Rd w1 a n cap l) => Decode_any a n cap l k w1 e (by omega)
    rw [hg, bR_some] at HG
    cases hd : decAt l k with
    | none =>
      have HB : Hid (bkAt l (p : Nat) = none) := by show _ = _; rw [hb0, hg]; dsimp only; rw [hd]
      rw [HB.out, kR_none]
      rw [hd, cR_none] at HC
      clear hR hl hR1 hp hb0 hg h0 h1 hk hd
      go_enter Tryz.func92, Tryz.ntmps92
      go_wp2_with fail
      refine (HG _ HR1.out).mono ?_
      rintro e w ⟨rfl, rfl⟩
      go_wp2_with fail
      refine (HC _ HR.out).mono ?_
      rintro e w1 ⟨hb, rfl⟩
      go_wp2
      go_ret2
      exact ⟨hb, rfl⟩
    | some q =>
      obtain ⟨s, m⟩ := q
      rw [hd, cR_some] at HC
      by_cases hm : (m : Int) = p
      · have HB : Hid (bkAt l (p : Nat) = some k) := by show _ = _; rw [hb0, hg]; dsimp only; rw [hd]; dsimp only; rw [if_pos hm]
        rw [HB.out, kR_some]
        have hq : ((m : Int) != (p : Int)) = false := by simpa using hm
        rw [hm] at HC
        clear hR hl hR1 hp hb0 hg h0 h1 hk hd hm hq
        go_enter Tryz.func92, Tryz.ntmps92
        go_wp2_with fail
        refine (HG _ HR1.out).mono ?_
        rintro e w ⟨rfl, rfl⟩
        go_wp2_with fail
        refine (HC _ HR.out).mono ?_
        rintro e w1 ⟨hb, rfl⟩
        go_wp2
        go_ret2
        exact ⟨hb, rfl⟩
      · have HB : Hid (bkAt l (p : Nat) = none) := by show _ = _; rw [hb0, hg]; dsimp only; rw [hd]; dsimp only; rw [if_neg hm]
        rw [HB.out, kR_none]
        have hq : ((m : Int) != (p : Int)) = true := by simpa using hm
        have hq2 : ((m : Int) == (p : Int)) = false := by simpa using hm
        generalize (m : Int) = M at HC hq hq2
        clear hR hl hR1 hp hb0 hg h0 h1 hk hd hm
        go_enter Tryz.func92, Tryz.ntmps92
        go_wp2_with fail
        refine (HG _ HR1.out).mono ?_
        rintro e w ⟨rfl, rfl⟩
        go_wp2_with fail
        refine (HC _ HR.out).mono ?_
        rintro e w1 ⟨hb, rfl⟩
        go_wp2
        go_ret2
        exact ⟨hb, rfl⟩
end Go.Proofs.YtkohjejfkbaffaaGreat

namespace Go.Proofs.YtkohjejfkbaffaaGreat
open Go.RowKit Go.PlainAid

def cutB (s : ByteArray) (n : Int) : ByteArray := if n < (s.size : Int) then s.extract 0 n.toNat else s
theorem size_cutB (s : ByteArray) (n : Int) (h : 0 ≤ n) : ((cutB s n).size : Int) ≤ n := by
  unfold cutB
  split
  · simp; omega
  · omega

theorem Cut_any (s : ByteArray) (n : Int) (w : World) (h0 : 0 ≤ n) :
    Calls Tryz.prog 26 #[.string s, .int .i64 n] w fun e w' => e = .returned (.string (cutB s n)) ∧ w' = w := by
  by_cases h : n < s.size
  · have HC : Hid (cutB s n = s.extract 0 n.toNat) := by show cutB s n = _; rw [cutB, if_pos h]
    go_enter Tryz.func26, Tryz.ntmps26
    go_wp2
    go_ret
    exact ⟨by rw [HC.out]; simp, rfl⟩
  · have HC : Hid (cutB s n = s) := by show cutB s n = _; rw [cutB, if_neg h]
    go_enter Tryz.func26, Tryz.ntmps26
    go_wp2
    go_ret
    exact ⟨by rw [HC.out]; rfl, rfl⟩

theorem Within_any (n lo hi : Int) (w : World) (h0 : lo ≤ hi) (h1 : hi ≤ 1000000) (h2 : -1000000 ≤ lo) :
    Calls Tryz.prog 18 #[.int .i64 n, .int .i64 lo, .int .i64 hi] w fun e w' => w' = w ∧ ∃ z : Int, lo ≤ z ∧ z ≤ hi ∧ e = .returned (.int .i64 z) := by
  obtain ⟨D, hD⟩ : ∃ D, hi - lo = D := ⟨_, rfl⟩
  have hz : (D + 1 == 0) = false := by simp; omega
  have hr0 : n.tmod (D + 1) < D + 1 := Int.tmod_lt_of_pos n (by omega)
  have hr1 : -(D + 1) < n.tmod (D + 1) := Int.lt_tmod_of_pos n (by omega)
  obtain ⟨r, hr⟩ : ∃ r, n.tmod (D + 1) = r := ⟨_, rfl⟩
  rw [hr] at hr0 hr1
  by_cases hn : r < 0
  · obtain ⟨r1, e1⟩ : ∃ r1, r + hi = r1 := ⟨_, rfl⟩
    obtain ⟨r2, e2⟩ : ∃ r2, r1 - lo = r2 := ⟨_, rfl⟩
    go_enter Tryz.func18, Tryz.ntmps18
    go_wp2
    go_ret
    exact ⟨rfl, lo + (r2 + 1), by omega, by omega, rfl⟩
  · go_enter Tryz.func18, Tryz.ntmps18
    go_wp2
    go_ret
    exact ⟨rfl, lo + r, by omega, by omega, rfl⟩
end Go.Proofs.YtkohjejfkbaffaaGreat

namespace Go.Proofs.YtkohjejfkbaffaaGreat
open Go.RowKit Go.PlainAid

/-- A slice that reads the texts ls. -/
structure RdS (w : World) (a : Option Addr) (n : Nat) (ls : List ByteArray) : Prop where
  len : ls.length = n
  max : n ≤ maxLen
  cell : ∀ j, j < n → ∃ b off, a = some ⟨b, off, none⟩ ∧ w.cell? ⟨b, off + j, none⟩ = some (.string (ls.getD j ByteArray.empty))
theorem RdS.keep {w wn : World} {a : Option Addr} {n : Nat} {ls : List ByteArray} (h : RdS w a n ls) (hb : Below w.heap.size w wn) : RdS wn a n ls :=
  ⟨h.len, h.max, fun j hj => by
    obtain ⟨b, off, e, hc⟩ := h.cell j hj
    exact ⟨b, off, e, by rw [hb.cell (p := ⟨b, off + j, none⟩) (World.block_lt_of_cell? _ _ hc)]; exact hc⟩⟩

/-- A row of texts of the call's own. -/
def OwnS (w : World) (B : Nat) (a : Option Addr) (n cap : Nat) (ls : List ByteArray) : Prop := w.ownsRow B 9 1 (.slice a n cap) n (ls.map Value.string)
theorem OwnS.len {w : World} {B : Nat} {a : Option Addr} {n cap : Nat} {ls : List ByteArray} (h : OwnS w B a n cap ls) : ls.length = n := by
  have := h.1; simpa using this
theorem OwnS.keep {w wn : World} {B : Nat} {a : Option Addr} {n cap : Nat} {l : List ByteArray} (h : OwnS w B a n cap l) (hb : Below w.heap.size w wn) : OwnS wn B a n cap l := by
  refine ⟨h.1, ?_⟩
  rcases h.2 with h2 | ⟨g, c, cur, h1, h3, h4, h5⟩
  · exact .inl h2
  · refine .inr ⟨g, c, cur, h1, h3, ?_, h5⟩
    rw [hb.block g (Array.getElem?_eq_some_iff.1 h4).1]; exact h4
theorem OwnS.rd {w : World} {B : Nat} {a : Option Addr} {n cap : Nat} {ls : List ByteArray} (h : OwnS w B a n cap ls) : RdS w a n ls := by
  have hl := h.len
  rcases h.2 with ⟨h2, h3⟩ | ⟨g, c, cur, h1, h3, h4, h5, h6, h7, h8⟩
  · cases h2
    exact RdS.mk hl (by rw [h3]; decide) (fun j hj => absurd hj (by omega))
  · cases h1
    refine RdS.mk hl (Nat.le_trans h5 h6) (fun j hj => ⟨g, 0, rfl, ?_⟩)
    have := h.cells (g := g) rfl j (.string (ls.getD j ByteArray.empty)) (by
      simp only [List.getElem?_map, List.getD_eq_getElem?_getD]
      rw [List.getElem?_eq_getElem (by omega)]; rfl)
    rw [add_flat] at this
    rw [Nat.zero_add] at this ⊢
    exact this
theorem Tryz.info9 : (Tryz.prog.info? 9).map (fun i => (i.zero, i.size, i.bytes)) = some (some (.string ⟨#[]⟩), 1, 16) := by kernel_rfl

/-- out = append(out, s). -/
theorem append_str {w : World} {ops : Array Oper} {rest : List Oper} {o : Oper} {ac : Act} {Q : Exit → Act → World → Prop} (hgd : o.guard = none) (s x : Operand) (ho : o.op = .call { callee := .builtin .append, args := #[s, x], argTypes := #[40, 40] })
    (B : Nat) {a : Option Addr} {n cap : Nat} {ls : List ByteArray} (hs : ac.eval s = .slice a n cap) (hown : OwnS w B a n cap ls)
    {g : Nat} {t : ByteArray} (hx : ac.eval x = .slice (some ⟨g, 0, none⟩) 1 1) (hr : w.cell? ⟨g, 0, none⟩ = some (.string t)) (hb : n + 1 ≤ 1000000) (hB : B ≤ w.heap.size)
    (h : ∀ a2 n2 c2 w2, n2 = n + 1 → OwnS w2 B a2 n2 c2 (ls ++ [t]) → Below B w w2 → wpList Tryz.prog ops Q rest (ac.put o.dst (.slice a2 n2 c2)) w2) : wpList Tryz.prog ops Q (o :: rest) ac w := by
  obtain ⟨i0, hi, hz0, hz1, hz2⟩ := info_parts Tryz.info9
  refine wpList_append_own w hgd s x 40 ho B 9 i0 (.string ⟨#[]⟩) 1 16 Tryz.underlying40 hi hz0 hz1 hz2 rfl (by decide) (.slice a n cap) n (ls.map Value.string) hs hown ⟨g, 0, none⟩ 1 1 [.string t] hx rfl ?_ (by simp [Value.oneCell']) (by unfold maxLen; omega) (by omega) hB ?_
  · intro j u hu
    cases j with
    | zero => rw [add_flat, hr]; exact hu
    | succ j => simp at hu
  · intro v' w' h1 h2 _
    have hbel : Below B w w' := (Below.refl B w).grown h2 hB (fun k hk => (hown.lt k hk).1)
    have e1 : ls.map Value.string ++ [.string t] = (ls ++ [t]).map Value.string := by rw [List.map_append]; rfl
    rw [e1] at h1
    rcases h1.2 with ⟨rfl, h3⟩ | ⟨g, c, cur, rfl, h3⟩
    · omega
    · exact h _ _ _ w' rfl h1 hbel

/-- No more texts than these, none longer. -/
def Short (ls : List ByteArray) (n : Nat) (m : Int) : Prop := ls.length ≤ n ∧ ∀ s ∈ ls, (s.size : Int) ≤ m

/-- A pack's bytes. -/
def pack : List ByteArray → List UInt8
  | [] => []
  | s :: r => enc (lst s) ++ pack r
theorem pack_append (l r : List ByteArray) : pack (l ++ r) = pack l ++ pack r := by
  induction l with
  | nil => rfl
  | cons s l ih => rw [List.cons_append, pack, pack, ih, List.append_assoc]
theorem take_snocB (l : List ByteArray) (k : Nat) (h : k < l.length) : l.take (k + 1) = l.take k ++ [l.getD k ByteArray.empty] := by
  rw [List.take_add_one, List.getD_eq_getElem?_getD, List.getElem?_eq_getElem h]; rfl
theorem pack_take (l : List ByteArray) (k : Nat) (h : k < l.length) : pack (l.take (k + 1)) = pack (l.take k) ++ enc (lst (l.getD k ByteArray.empty)) := by
  rw [take_snocB l k h, pack_append, pack, pack, List.append_nil]
theorem pack_split (l : List ByteArray) (k : Nat) (h : k < l.length) : pack l = pack (l.take k) ++ (enc (lst (l.getD k ByteArray.empty)) ++ pack (l.drop (k + 1))) := by
  rw [← List.append_assoc, ← pack_take l k h, ← pack_append, List.take_append_drop]
theorem pack_len (l : List ByteArray) (m : Nat) (h : ∀ s ∈ l, s.size ≤ m) : (pack l).length ≤ l.length * (m + 11) := by
  induction l with
  | nil => simp [pack]
  | cons s l ih =>
    have h1 := (enc_len (lst s)).2
    rw [len_lst] at h1
    have h2 := h s (by simp)
    have h3 := ih (fun t ht => h t (by simp [ht]))
    rw [pack, List.length_append, List.length_cons, Nat.add_mul]
    omega
theorem short_get {ls : List ByteArray} {m : Nat} (h : ∀ s ∈ ls, s.size ≤ m) (k : Nat) (hk : k < ls.length) : (ls.getD k ByteArray.empty).size ≤ m := by
  apply h
  rw [List.getD_eq_getElem?_getD, List.getElem?_eq_getElem hk]
  simp

end Go.Proofs.YtkohjejfkbaffaaGreat

namespace Go.Proofs.YtkohjejfkbaffaaGreat

/-- Where the i-th text begins. -/
def off (ls : List ByteArray) (i : Nat) : Nat := (pack (ls.take i)).length
/-- No text is too long. -/
def Fit (ls : List ByteArray) : Prop := ∀ s ∈ ls, s.size ≤ 4096
def txt (ls : List ByteArray) (i : Nat) : ByteArray := ls.getD i ByteArray.empty

theorem off_zero (ls : List ByteArray) : off ls 0 = 0 := rfl
theorem off_all (ls : List ByteArray) {i : Nat} (h : ls.length ≤ i) : off ls i = (pack ls).length := by rw [off, List.take_of_length_le h]
theorem off_succ (ls : List ByteArray) {i : Nat} (h : i < ls.length) : off ls (i + 1) = off ls i + (enc (lst (txt ls i))).length := by
  rw [off, pack_take ls i h, List.length_append]; rfl
theorem off_step (ls : List ByteArray) {i : Nat} (h : i < ls.length) : off ls i + 2 ≤ off ls (i + 1) := by
  have := (enc_len (lst (txt ls i))).1
  rw [off_succ ls h]; omega
theorem off_le (ls : List ByteArray) (i : Nat) : off ls i ≤ (pack ls).length := by
  rw [off]
  conv => rhs; rw [← List.take_append_drop i ls, pack_append, List.length_append]
  omega
theorem off_lt (ls : List ByteArray) {i : Nat} (h : i < ls.length) : off ls i < (pack ls).length := by
  have := off_step ls h
  have := off_le ls (i + 1)
  omega
theorem off_pos (ls : List ByteArray) {i : Nat} (h : 0 < i) (h2 : i ≤ ls.length) : 0 < off ls i := by
  obtain ⟨k, rfl⟩ : ∃ k, i = k + 1 := ⟨i - 1, by omega⟩
  have := off_step ls (i := k) (by omega)
  omega
theorem len_pack (ls : List ByteArray) : 2 * ls.length ≤ (pack ls).length := by
  induction ls with
  | nil => simp [pack]
  | cons s r ih =>
    have := (enc_len (lst s)).1
    rw [pack, List.length_append, List.length_cons]; omega
theorem Fit.at {ls : List ByteArray} (h : Fit ls) {i : Nat} (hi : i < ls.length) : (txt ls i).size ≤ 4096 := short_get h i hi

theorem decAt_off {ls : List ByteArray} (hf : Fit ls) {i : Nat} (h : i < ls.length) : decAt (pack ls) (off ls i : Nat) = some (lst (txt ls i), off ls (i + 1)) := by
  have h1 := pack_split ls i h
  rw [h1, off, decAt_enc _ _ _ (by rw [len_lst]; exact hf.at h), off_succ ls h]; rfl
theorem bkAt_off {ls : List ByteArray} (hf : Fit ls) {i : Nat} (h : i < ls.length) : bkAt (pack ls) (off ls (i + 1) : Nat) = some ((off ls i : Nat) : Int) := by
  have h1 := pack_split ls i h
  have h2 := bkAt_enc (pack (ls.take i)) (lst (txt ls i)) (pack (ls.drop (i + 1))) (by rw [len_lst]; exact hf.at h)
  rw [off_succ ls h, h1]
  exact h2

theorem take_off (ls : List ByteArray) (i : Nat) : (pack ls).take (off ls i) = pack (ls.take i) := by
  have h : pack ls = pack (ls.take i) ++ pack (ls.drop i) := by rw [← pack_append, List.take_append_drop]
  rw [h, off, List.take_left]
theorem drop_off (ls : List ByteArray) (i : Nat) : (pack ls).drop (off ls i) = pack (ls.drop i) := by
  have h : pack ls = pack (ls.take i) ++ pack (ls.drop i) := by rw [← pack_append, List.take_append_drop]
  rw [h, off, List.drop_left]

/-- The texts that a row of bytes has, if it is a pack's. -/
def split : Nat → List UInt8 → Option (List ByteArray)
  | _, [] => some []
  | 0, _ :: _ => none
  | f + 1, x :: r => match dec1 (x :: r) with
    | none => none
    | some (s, k) => (split f ((x :: r).drop k)).map (bs s :: ·)
theorem dec1_pos {b s : List UInt8} {k : Nat} (h : dec1 b = some (s, k)) : k = (enc s).length ∧ b = enc s ++ b.drop k ∧ s.length ≤ 4096 := by
  have hl := (dec1_len h).2
  rw [dec_same] at h
  unfold dec2 at h
  split at h
  · cases h
  · split at h
    · cases h
    · split at h
      · rename_i hp
        cases h
        obtain ⟨r, hr⟩ := pre_ex hp
        refine ⟨rfl, ?_, hl⟩
        rw [hr, List.drop_left]
      · cases h
theorem split_some : ∀ (f : Nat) (b : List UInt8) (ls : List ByteArray), split f b = some ls → pack ls = b ∧ Fit ls
  | f, [], ls, h => by
    cases f <;> cases h <;> exact ⟨rfl, fun s hs => absurd hs (by simp)⟩
  | 0, x :: r, ls, h => by cases h
  | f + 1, x :: r, ls, h => by
    unfold split at h
    cases hd : dec1 (x :: r) with
    | none => rw [hd] at h; cases h
    | some p =>
      obtain ⟨s, k⟩ := p
      rw [hd] at h
      obtain ⟨h1, h2, h3⟩ := dec1_pos hd
      cases hs : split f ((x :: r).drop k) with
      | none => simp only [hs] at h; cases h
      | some m =>
        simp only [hs] at h
        cases h
        obtain ⟨h4, h5⟩ := split_some f _ m hs
        refine ⟨?_, fun t ht => ?_⟩
        · rw [pack, lst_bs, h4, ← h2]
        · rcases List.mem_cons.1 ht with rfl | ht
          · exact h3
          · exact h5 t ht
end Go.Proofs.YtkohjejfkbaffaaGreat

namespace Go.Proofs.YtkohjejfkbaffaaGreat
open Go.RowKit Go.PlainAid

/-- Block g has these cells. -/
def Bk (w : World) (g : Nat) (cur : List Value) : Prop := w.heap[g]? = some (.cells cur.toArray 5 (0, 0))
theorem Bk.lt {w : World} {g : Nat} {cur : List Value} (h : Bk w g cur) : g < w.heap.size := (Array.getElem?_eq_some_iff.1 h).1
theorem Bk.cell {w : World} {g : Nat} {cur : List Value} (h : Bk w g cur) (j : Nat) : w.cell? ⟨g, j, none⟩ = cur[j]? := by
  have h' : w.heap[g]? = some (.cells cur.toArray 5 (0, 0)) := h
  simp [World.cell?, h']
theorem Bk.frozen {w : World} {g : Nat} {cur : List Value} (h : Bk w g cur) (j : Nat) : w.frozen? ⟨g, j, none⟩ = false := by
  have h' : w.heap[g]? = some (.cells cur.toArray 5 (0, 0)) := h
  simp [World.frozen?, h']
theorem Bk.shape {w : World} {g : Nat} {cur : List Value} (h : Bk w g cur) : w.shape? g = some (5, cur.length) := by
  have h' : w.heap[g]? = some (.cells cur.toArray 5 (0, 0)) := h
  simp [World.shape?, h']
theorem Bk.drew {w : World} {g : Nat} {cur : List Value} (h : Bk w g cur) : Bk w.drew g cur := h
theorem Bk.keep {w w' : World} {g : Nat} {cur : List Value} {row : Option Nat} (h : Bk w g cur) (hg : w.grownBy w' row) (hne : some g ≠ row) : Bk w' g cur := by
  show _ = _
  rw [hg.block g h.lt hne]; exact h

theorem grown_refl (w : World) (row : Option Nat) : w.grownBy w row := ⟨rfl, rfl, rfl, Nat.le_refl _, fun _ _ _ => rfl⟩
theorem grown_trans {w w1 w2 : World} {row : Option Nat} (h1 : w.grownBy w1 row) (h2 : w1.grownBy w2 row) : w.grownBy w2 row :=
  ⟨h2.os.trans h1.os, h2.tape.trans h1.tape, h2.output.trans h1.output, Nat.le_trans h1.size h2.size, fun k hk hr => (h2.block k (Nat.lt_of_lt_of_le hk h1.size) hr).trans (h1.block k hk hr)⟩
theorem grown_new {w w1 w2 : World} {row : Option Nat} {g : Nat} (h1 : w.grownBy w1 row) (hg : w.heap.size ≤ g) (h2 : w1.grownBy w2 (some g)) : w.grownBy w2 row :=
  ⟨h2.os.trans h1.os, h2.tape.trans h1.tape, h2.output.trans h1.output, Nat.le_trans h1.size h2.size, fun k hk hr => (h2.block k (Nat.lt_of_lt_of_le hk h1.size) (by intro e; cases e; omega)).trans (h1.block k hk hr)⟩
theorem grown_drew {w w1 : World} {row : Option Nat} (h : w.grownBy w1 row) : w.grownBy w1.drew row := ⟨h.os, h.tape, h.output, h.size, h.block⟩
theorem drew_grown {w w1 : World} {row : Option Nat} (h : w.drew.grownBy w1 row) : w.grownBy w1 row := ⟨h.os, h.tape, h.output, h.size, h.block⟩
theorem grown_setRow (w : World) (g : Nat) (cs : Array Value) : w.grownBy (w.setRow g cs) (some g) :=
  ⟨rfl, rfl, rfl, by simp [World.setRow], fun k _ hr => setRow_other w g k cs (fun e => hr (by rw [e]))⟩
theorem grown_setCell (w : World) (g o : Nat) (v : Value) : w.grownBy (w.setCell ⟨g, o, none⟩ v) (some g) :=
  ⟨rfl, rfl, rfl, by simp [World.setCell], fun k _ hr => Deep.blk_setCell_other w _ v k (fun e => hr (by rw [e]))⟩
theorem grown_below {w w' : World} {row : Option Nat} {B : Nat} (h : w.grownBy w' row) (hB : B ≤ w.heap.size) (hr : ∀ k, row = some k → B ≤ k) : Below B w w' := (Below.refl B w).grown h hB hr
theorem below_grown {w w' : World} (h : Below w.heap.size w w') (row : Option Nat) : w.grownBy w' row := ⟨h.os, h.tape, h.output, h.size, fun k hk _ => h.block k hk⟩

theorem Own.parts {w : World} {B : Nat} {a : Option Addr} {n c : Nat} {l : List UInt8} (h : Own w B a n c l) (h0 : 0 < n) :
    ∃ g cur, a = some ⟨g, 0, none⟩ ∧ B ≤ g ∧ Bk w g cur ∧ n ≤ c ∧ c ≤ maxLen ∧ cur.length = c ∧ cur.take n = cells l := by
  rcases h.2 with ⟨h2, h3⟩ | ⟨g, c', cur, h1, h3, h4, h5, h6, h7, h8⟩
  · omega
  · cases h1
    refine ⟨g, cur.toList, rfl, h3, by show _ = _; simpa using h4, h5, h6, by simpa using h7, ?_⟩
    simpa using h8
theorem Own.of {w : World} {B g n c : Nat} {cur : List Value} {l : List UInt8} (hB : B ≤ g) (hk : Bk w g cur) (hn : n ≤ c) (hc : c ≤ maxLen) (hl : cur.length = c) (ht : cur.take n = cells l) : Own w B (some ⟨g, 0, none⟩) n c l := by
  have hlen : l.length = n := by
    have := congrArg List.length ht
    simp [cells] at this
    omega
  refine ⟨by simp [cells, hlen], .inr ⟨g, c, cur.toArray, rfl, hB, hk, hn, hc, by simp [hl], by simpa using ht⟩⟩
theorem Own.grow {w w' : World} {B : Nat} {a : Option Addr} {n c : Nat} {l : List UInt8} {row : Option Nat} (h : Own w B a n c l) (hg : w.grownBy w' row) (hne : ∀ g, a = some ⟨g, 0, none⟩ → some g ≠ row) : Own w' B a n c l := by
  refine ⟨h.1, ?_⟩
  rcases h.2 with h2 | ⟨g, c', cur, h1, h3, h4, h5⟩
  · exact .inl h2
  · cases h1
    refine .inr ⟨g, _, cur, rfl, h3, ?_, h5⟩
    rw [hg.block g (Array.getElem?_eq_some_iff.1 h4).1 (hne g rfl)]; exact h4

/-- s[lo:hi], s[lo:], s[:hi] of a row at its place. -/
theorem slice_at (g n c lo hi : Nat) (h1 : lo ≤ hi) (h2 : hi ≤ c) :
    ∃ o, (lo < c → o = lo) ∧ ∀ wx, (Instr.sliceAt 23 (.slice (some ⟨g, 0, none⟩) n c) (some (.int .i64 lo)) (some (.int .i64 hi)) none).run Tryz.prog wx = .ok (.slice (some ⟨g, o, none⟩) (hi - lo) (c - lo)) wx := by
  have ht : Tryz.prog.underlying 23 = some (.slice (Tryz.prog.elem 23)) := by rw [Tryz.elem23]; exact Tryz.underlying23
  refine ⟨if c = lo then 0 else lo, fun h => by rw [if_neg (by omega)], fun wx => ?_⟩
  rw [run_sliceAt_slice _ _ _ _ _ _ ht, run_slice_lh (P := Tryz.prog) wx 23 _ n c ht .i64 .i64 lo hi (by omega) (by omega) (by omega), Tryz.elem23, Tryz.size5]
  simp only [Result.andThen, sliced, Int.toNat_natCast]
  split <;> simp [*, add_flat]
theorem slice_lo (g n c lo : Nat) (h1 : lo ≤ n) :
    ∃ o, (lo < c → o = lo) ∧ ∀ wx, (Instr.sliceAt 23 (.slice (some ⟨g, 0, none⟩) n c) (some (.int .i64 lo)) none none).run Tryz.prog wx = .ok (.slice (some ⟨g, o, none⟩) (n - lo) (c - lo)) wx := by
  have ht : Tryz.prog.underlying 23 = some (.slice (Tryz.prog.elem 23)) := by rw [Tryz.elem23]; exact Tryz.underlying23
  refine ⟨if c = lo then 0 else lo, fun h => by rw [if_neg (by omega)], fun wx => ?_⟩
  rw [run_sliceAt_slice _ _ _ _ _ _ ht, run_slice_l (P := Tryz.prog) wx 23 _ n c ht .i64 lo (by omega) (by omega), Tryz.elem23, Tryz.size5]
  simp only [Result.andThen, sliced, Int.toNat_natCast]
  split <;> simp [*, add_flat]
theorem slice_hi (g n c hi : Nat) (h1 : hi ≤ c) :
    ∀ wx, (Instr.sliceAt 23 (.slice (some ⟨g, 0, none⟩) n c) none (some (.int .i64 hi)) none).run Tryz.prog wx = .ok (.slice (some ⟨g, 0, none⟩) hi c) wx := by
  have ht : Tryz.prog.underlying 23 = some (.slice (Tryz.prog.elem 23)) := by rw [Tryz.elem23]; exact Tryz.underlying23
  intro wx
  rw [run_sliceAt_slice _ _ _ _ _ _ ht, run_slice_h (P := Tryz.prog) wx 23 _ n c ht .i64 hi (by omega) (by omega), Tryz.elem23, Tryz.size5]
  simp [Result.andThen, sliced, add_flat]

theorem cur_set {w : World} {g : Nat} {cur : List Value} (h : Bk w g cur) (o : Nat) (v : Value) : Bk (w.setCell ⟨g, o, none⟩ v) g (cur.set o v) := by
  have h' : w.heap[g]? = some (.cells cur.toArray 5 (0, 0)) := h
  have hlt : g < w.heap.size := (Array.getElem?_eq_some_iff.1 h').1
  have hv : w.heap[g] = .cells cur.toArray 5 (0, 0) := (Array.getElem?_eq_some_iff.1 h').2
  show (w.setCell ⟨g, o, none⟩ v).heap[g]? = _
  simp [World.setCell, Array.getElem?_modify, h']
theorem splice_set (cur : List Value) (o : Nat) (v : Value) (vs : List Value) (h : o + (vs.length + 1) ≤ cur.length) : splice (cur.set o v) (o + 1) vs = splice cur o (v :: vs) := by
  unfold splice
  rw [List.length_cons, List.take_set, List.drop_set_of_lt (by omega), show o + 1 + vs.length = o + (vs.length + 1) by omega]
  have : (cur.take (o + 1)).set o v = cur.take o ++ [v] := by
    rw [List.take_add_one, List.getElem?_eq_getElem (by omega), Option.toList_some, List.set_append_right _ _ (by rw [List.length_take]; omega)]
    rw [List.length_take, Nat.min_eq_left (by omega), Nat.sub_self]; rfl
  rw [this, List.append_assoc]; rfl
theorem bk_cells {g : Nat} : ∀ (vs : List Value) (o : Nat) (w : World) (cur : List Value), Bk w g cur → o + vs.length ≤ cur.length → Bk (w.setCells g o vs) g (splice cur o vs) ∧ w.grownBy (w.setCells g o vs) (some g)
  | [], o, w, cur, h, hl => ⟨by simpa [splice, World.setCells] using h, grown_refl _ _⟩
  | v :: vs, o, w, cur, h, hl => by
    have h1 := bk_cells vs (o + 1) (w.setCell ⟨g, o, none⟩ v) (cur.set o v) (cur_set h o v) (by simp at hl ⊢; omega)
    rw [splice_set cur o v vs (by simpa using hl)] at h1
    exact ⟨h1.1, grown_trans (grown_setCell w g o v) h1.2⟩

/-- Where a cell goes over, it goes from sp to place off of block g. -/
def CpOk (w : World) (dp sp : Option Addr) (g off : Nat) (cs : List Value) : Prop := 0 < cs.length → dp = some ⟨g, off, none⟩ ∧ ∃ ad, sp = some ad ∧ ∀ j v, cs[j]? = some v → w.cell? (ad.add j) = some v

/-- copy(d, s), d in block g. -/
theorem run_copy_in (w : World) (dp sp : Option Addr) (dLen dCap sLen sCap g off : Nat) (cur : List Value) (hB : Bk w g cur) (cs : List Value) (hn : cs.length = Nat.min sLen dLen)
    (hpos : CpOk w dp sp g off cs) (hfit : off + cs.length ≤ cur.length) (h1 : ∀ v ∈ cs, v.oneCell' = true) :
    ∃ w', (∀ ty, (Builtin.copy_ #[23, 23] ty #[.slice dp dLen dCap, .slice sp sLen sCap]).run Tryz.prog w = .ok (goInt cs.length) w') ∧ Bk w' g (splice cur off cs) ∧ w.grownBy w' (some g) := by
  by_cases h0 : cs.length = 0
  · obtain rfl : cs = [] := List.eq_nil_of_length_eq_zero h0
    refine ⟨w, fun ty => ?_, by simpa [splice] using hB, grown_refl _ _⟩
    exact run_copy_none (P := Tryz.prog) w 23 23 ty 5 dp sp dLen dCap sLen sCap Tryz.underlying23 (by kernel_rfl) (by simpa using hn.symm)
  · obtain ⟨rfl, ad, rfl, hsrc⟩ := hpos (by omega)
    refine ⟨_, fun ty => run_copy_row (P := Tryz.prog) w 23 23 ty 5 g off dLen dCap ad sLen sCap cur.toArray 5 cs Tryz.underlying23 (by kernel_rfl) hB hn hsrc (by simpa using hfit) h1, ?_, grown_setRow _ _ _⟩
    show _ = _
    rw [setRow_heap w g cur.toArray _ 5 (0, 0) hB]
    simp [splice]
theorem copy_in {w : World} {ops : Array Oper} {rest : List Oper} {o : Oper} {ac : Act} {Q : Exit → Act → World → Prop} (hgd : o.guard = none) (d s : Operand) (ho : o.op = .call { callee := .builtin .copy, args := #[d, s], argTypes := #[23, 23] })
    {dp sp : Option Addr} {dLen dCap sLen sCap : Nat} (hd : ac.eval d = .slice dp dLen dCap) (hs : ac.eval s = .slice sp sLen sCap)
    (g off : Nat) (cur : List Value) (hB : Bk w g cur) (cs : List Value) (hn : cs.length = Nat.min sLen dLen)
    (hpos : CpOk w dp sp g off cs) (hfit : off + cs.length ≤ cur.length) (h1 : ∀ v ∈ cs, v.oneCell' = true)
    (h : ∀ w', Hid (Bk w' g (splice cur off cs)) → Hid (w.grownBy w' (some g)) → wpList Tryz.prog ops Q rest (ac.put o.dst (goInt cs.length)) w') : wpList Tryz.prog ops Q (o :: rest) ac w := by
  obtain ⟨w', hr, h2, h3⟩ := run_copy_in w dp sp dLen dCap sLen sCap g off cur hB cs hn hpos hfit h1
  refine wpList_plain hgd fun K hK => ?_
  unfold Oper.wp
  simp [execOp, ho, resolve, invoke, builtin, hd, hs, hr, Result.andThen]
  exact hK _ _ (h w' h2 h3)
theorem step_copy_in {w : World} {ops : Array Oper} {o : Oper} {ac : Act} {K : Act → World → Prop} {Q : Exit → Act → World → Prop} {E : Prop} (hgd : o.guard = none) (d s : Operand) (ho : o.op = .call { callee := .builtin .copy, args := #[d, s], argTypes := #[23, 23] })
    {dp sp : Option Addr} {dLen dCap sLen sCap : Nat} (hd : ac.eval d = .slice dp dLen dCap) (hs : ac.eval s = .slice sp sLen sCap)
    (g off : Nat) (cur : List Value) (hB : Bk w g cur) (cs : List Value) (hn : cs.length = Nat.min sLen dLen)
    (hpos : CpOk w dp sp g off cs) (hfit : off + cs.length ≤ cur.length) (h1 : ∀ v ∈ cs, v.oneCell' = true)
    (h : ∀ w', Hid (Bk w' g (splice cur off cs)) → Hid (w.grownBy w' (some g)) → K (ac.put o.dst (goInt cs.length)) w') : if Region.wanted o (yielded ops ac.tmps) = true then Oper.wp Tryz.prog o ac w K Q else E := by
  have hw : Region.wanted o (yielded ops ac.tmps) = true := by simp [Region.wanted, hgd]
  rw [if_pos hw]
  obtain ⟨w', hr, h2, h3⟩ := run_copy_in w dp sp dLen dCap sLen sCap g off cur hB cs hn hpos hfit h1
  unfold Oper.wp
  simp [execOp, ho, resolve, invoke, builtin, hd, hs, hr, Result.andThen]
  exact h w' h2 h3

/-- clear(d), d in block g. -/
theorem clear_in {w : World} {ops : Array Oper} {rest : List Oper} {o : Oper} {ac : Act} {Q : Exit → Act → World → Prop} (hgd : o.guard = none) (d : Operand) (ho : o.op = .call { callee := .builtin .clear, args := #[d], argTypes := #[23] })
    {g off dLen dCap : Nat} (hd : ac.eval d = .slice (some ⟨g, off, none⟩) dLen dCap) (cur : List Value) (hB : Bk w g cur) (hfit : off + dLen ≤ cur.length)
    (h : ∀ w', Hid (Bk w' g (splice cur off (List.replicate dLen (.int .u8 0)))) → Hid (w.grownBy w' (some g)) → wpList Tryz.prog ops Q rest (ac.put o.dst (.tuple #[])) w') : wpList Tryz.prog ops Q (o :: rest) ac w := by
  by_cases h0 : dLen = 0
  · subst h0
    have hr : ∀ ty, (Builtin.clear_ #[23] ty #[.slice (some ⟨g, off, none⟩) 0 dCap]).run Tryz.prog w = .ok (.tuple #[]) w := by
      intro ty
      simp [Builtin.clear_, run_underlying Tryz.underlying23]
    refine wpList_plain hgd fun K hK => ?_
    unfold Oper.wp
    simp [execOp, ho, resolve, invoke, builtin, hd, hr, Result.andThen]
    exact hK _ _ (h w (by show Bk _ _ _; simpa [splice] using hB) (grown_refl _ _))
  · have hz : ∀ w, (zeroValue 5).run Tryz.prog w = .ok (.int .u8 0) w := fun w => by go_simp
    have hr := fun ty => Lib.run_clear_slice (P := Tryz.prog) w 23 5 ty (.int .u8 0) Tryz.underlying23 hz rfl rfl g off dLen dCap (by omega)
      (fun j hj => by rw [hB.cell, List.getElem?_eq_getElem (by omega)]; rfl) (fun j hj => hB.frozen _)
    have hb := bk_cells (List.replicate dLen (.int .u8 0)) off w cur hB (by simpa using hfit)
    refine wpList_plain hgd fun K hK => ?_
    unfold Oper.wp
    simp [execOp, ho, resolve, invoke, builtin, hd, hr, Result.andThen]
    exact hK _ _ (h _ hb.1 hb.2)

/-- A row lies where it was, or in new memory. -/
def Went (w : World) (a a2 : Option Addr) : Prop := a2 = a ∨ ∃ b, a2 = some ⟨b, 0, none⟩ ∧ w.heap.size ≤ b
theorem Went.blk {w : World} {a a2 : Option Addr} (h : Went w a a2) {k : Nat} (hk : a2.map (·.block) = some k) : a.map (·.block) = some k ∨ w.heap.size ≤ k := by
  rcases h with rfl | ⟨b, rfl, hb⟩
  · exact .inl hk
  · cases hk; exact .inr hb
theorem run_append_b (w : World) (B : Nat) {a : Option Addr} {n cap : Nat} {l : List UInt8} (hown : Own w B a n cap l) {a' : Option Addr} {n' cap' : Nat} {r : List UInt8} (hr : Rd w a' n' cap' r) (hb : n + n' ≤ 140737488355328) (hB : B ≤ w.heap.size) (ty : TypeId) :
    ∃ a2 c2 w2, (Builtin.append_ #[23, 23] ty #[.slice a n cap, .slice a' n' cap']).run Tryz.prog w = .ok (.slice a2 (n + n') c2) w2 ∧ Own w2 B a2 (n + n') c2 (l ++ r) ∧ w.grownBy w2 (a.map (·.block)) ∧ Went w a a2 := by
  obtain ⟨i0, hi, hz0, hz1, hz2⟩ := info_parts Tryz.info5
  have hblk : (Value.slice a n cap).ownBlock = a.map (·.block) := by cases a <;> rfl
  cases a' with
  | none =>
    have hr0 : r = [] := by
      cases r with
      | nil => rfl
      | cons y ys =>
        obtain ⟨b, off, e, -⟩ := hr.cell 0 (by rw [← hr.len]; simp)
        cases e
    subst hr0
    have hn0 : n' = 0 := by rw [← hr.len]; rfl
    subst hn0
    have hc0 := hr.nul rfl
    subst hc0
    refine ⟨a, cap, w, ?_, by rw [List.append_nil]; exact hown, grown_refl _ _, .inl rfl⟩
    exact run_append_owned_none (P := Tryz.prog) w B 23 ty 5 i0 1 Tryz.underlying23 hi (.slice a n cap) n (cells l) hown
  | some ad =>
    have hnl : (cells r).length = n' := by simp [cells, hr.len]
    have hnews : ∀ j u, (cells r)[j]? = some u → w.cell? (ad.add j) = some u := by
      intro j u hu
      simp only [cells, List.getElem?_map] at hu
      have hj : j < r.length := by
        rcases Nat.lt_or_ge j r.length with h | h
        · exact h
        · rw [List.getElem?_eq_none h] at hu; cases hu
      obtain ⟨b, off, e, hc⟩ := hr.cell j (by rw [← hr.len]; exact hj)
      cases e
      rw [add_flat, hc, List.getD_eq_getElem?_getD]
      rw [List.getElem?_eq_getElem hj] at hu ⊢
      exact hu
    have gen : ∀ C, Own w C a n cap l → C ≤ w.heap.size → ∃ a2 c2 w2, (Builtin.append_ #[23, 23] ty #[.slice a n cap, .slice (some ad) n' cap']).run Tryz.prog w = .ok (.slice a2 (n + n') c2) w2 ∧ Own w2 C a2 (n + n') c2 (l ++ r) ∧ w.grownBy w2 (a.map (·.block)) := by
      intro C hC hCs
      obtain ⟨v', w', h1, h2, h3, -⟩ := run_append_own (P := Tryz.prog) w C 23 ty 5 i0 (.int .u8 0) 1 1 Tryz.underlying23 hi hz0 hz1 hz2 rfl (by decide) (.slice a n cap) n (cells l) hC ad n' cap' (cells r) (by rw [hnl]; omega) hnews (cells_one r) (by unfold maxLen; omega) (by omega) hCs
      rw [← cells_append] at h2
      rw [hblk] at h3
      rcases h2.2 with ⟨rfl, h4⟩ | ⟨g2, c, cur, rfl, h4⟩
      · refine ⟨none, 0, w', by rw [h1, h4], ?_, h3⟩
        unfold Own; rw [h4] at h2 ⊢; exact h2
      · exact ⟨_, _, w', h1, h2, h3⟩
    obtain ⟨a2, c2, w2, h1, h2, h3⟩ := gen B hown hB
    refine ⟨a2, c2, w2, h1, h2, h3, ?_⟩
    rcases hown.2 with ⟨e, h0⟩ | ⟨g0, c, cur, e, h4, h5, h6, h7, h8, h9⟩
    · cases e
      have hnil : l = [] := List.length_eq_zero_iff.1 hown.len
      subst hnil
      obtain ⟨a3, c3, w3, k1, k2, -⟩ := gen w.heap.size (Own.nil w _) (Nat.le_refl _)
      rw [h1] at k1
      cases k1
      rcases k2.2 with ⟨e, _⟩ | ⟨b, c, cur, e, hb, _⟩
      · injection e with e1 e2 e3
        exact .inl e1
      · injection e with e1 e2 e3
        exact .inr ⟨b, e1, hb⟩
    · cases e
      by_cases hroom : n + n' ≤ cap
      · have hrun := run_append_room (P := Tryz.prog) w 23 ty 5 i0 Tryz.underlying23 hi g0 n cap cur h5 ad n' cap' (cells r) (by rw [hz1, hnl]; omega) hnews (cells_one r) hroom (by rw [hz1, hnl]; omega)
        rw [h1] at hrun
        cases hrun
        exact .inl rfl
      · have hcl : ∀ j v, (cells l)[j]? = some v → w.cell? ((⟨g0, 0, none⟩ : Addr).add j) = some v := by
          intro j v hv
          have hj : j < l.length := by
            have := (List.getElem?_eq_some_iff.1 hv).1
            simpa [cells] using this
          have hl := hown.len
          rw [add_flat, Nat.zero_add]
          rw [← h9, List.getElem?_take] at hv
          rw [if_pos (by omega)] at hv
          simpa [World.cell?, h5] using hv
        have hrun := run_append_grow (P := Tryz.prog) w 23 ty 5 i0 (.int .u8 0) Tryz.underlying23 hi hz0 ⟨g0, 0, none⟩ n cap (cells l) (by rw [hz1]; exact hown.1) hcl ad n' cap' (cells r) (by rw [hz1, hnl]; omega) hnews (by omega) (by omega) (growslice_fits (by omega) (by rw [hz2]; omega))
        rw [h1] at hrun
        cases hrun
        exact .inr ⟨_, rfl, Nat.le_refl _⟩

/-- b = append(b, x...), and what is left as it was. -/
theorem append_rowG {w : World} {ops : Array Oper} {rest : List Oper} {o : Oper} {ac : Act} {Q : Exit → Act → World → Prop} (hgd : o.guard = none) (s x : Operand) (ho : o.op = .call { callee := .builtin .append, args := #[s, x], argTypes := #[23, 23] })
    (B : Nat) {a : Option Addr} {n cap : Nat} {l : List UInt8} (hs : ac.eval s = .slice a n cap) (hown : Own w B a n cap l)
    {a' : Option Addr} {n' cap' : Nat} {r : List UInt8} (hx : ac.eval x = .slice a' n' cap') (hr : Rd w a' n' cap' r) (hb : n + n' ≤ 140737488355328) (hB : B ≤ w.heap.size)
    (h : ∀ a2 n2 c2 w2, n2 = n + n' → Hid (Own w2 B a2 n2 c2 (l ++ r)) → Hid (w.grownBy w2 (a.map (·.block))) → Hid (Went w a a2) → wpList Tryz.prog ops Q rest (ac.put o.dst (.slice a2 n2 c2)) w2) : wpList Tryz.prog ops Q (o :: rest) ac w := by
  obtain ⟨a2, c2, w2, h1, h2, h3, h4⟩ := run_append_b w B hown hr hb hB o.type
  exact Lib.wpList_append_run w hgd s x _ _ ho _ _ hs hx _ _ h1 (h _ _ _ _ rfl h2 h3 h4)

theorem zero_cells (k : Nat) : (Builtin.zeroCells (Value.int .u8 0).cells k).toList = List.replicate k (.int .u8 0) := by
  show (Builtin.zeroCells #[Value.int .u8 0] k).toList = _
  simp [Builtin.zeroCells]
  apply List.ext_getElem
  · simp
  · intro i h1 h2
    simp [Nat.mod_one]

/-- append(s[:i], make(S, k)...) where there is no room: a new row. -/
theorem append_zeros {w : World} {ops : Array Oper} {rest : List Oper} {o : Oper} {ac : Act} {Q : Exit → Act → World → Prop} (hgd : o.guard = none) (s x : Operand) (ho : o.op = .call { callee := .builtin .append, args := #[s, x], argTypes := #[23, 3] })
    {g n c : Nat} {z : Int} (hs : ac.eval s = .slice (some ⟨g, 0, none⟩) n c) (hx : ac.eval x = .int .i64 z) (k : Nat) (hz : z = k) (hk : 0 < k) (cur : List Value) (hB : Bk w g cur) (hn : n ≤ cur.length) (hroom : c < n + k) (hb : n + k ≤ 140737488355328)
    (h : ∀ c2 w2, n + k ≤ c2 → c2 ≤ maxLen → Hid (Bk w2 w.heap.size (cur.take n ++ List.replicate (c2 - n) (.int .u8 0))) → Hid (w.grownBy w2 none) → wpList Tryz.prog ops Q rest (ac.put o.dst (.slice (some ⟨w.heap.size, 0, none⟩) (n + k) c2)) w2) : wpList Tryz.prog ops Q (o :: rest) ac w := by
  subst hz
  obtain ⟨i0, hi, hz0, hz1, hz2⟩ := info_parts Tryz.info5
  have hold : (Builtin.firstCells i0.size n (.slice (some ⟨g, 0, none⟩) n c)).run Tryz.prog w.drew = .ok (cur.take n).toArray w.drew := by
    rw [hz1]
    exact run_firstCells_some w.drew 1 n ⟨g, 0, none⟩ n c (cur.take n) (by rw [List.length_take]; omega) (fun j v hj => by
      rw [add_flat, hB.drew.cell, Nat.zero_add]
      rw [List.getElem?_take] at hj
      split at hj
      · exact hj
      · cases hj)
  have hrun := fun ty => Lib.run_append_grow_zeros (P := Tryz.prog) w 23 3 ty 5 i0 (.int .u8 0) .i64 .i64 Tryz.underlying23 Tryz.underlying3 hi hz0 (some ⟨g, 0, none⟩) n c (cur.take n) hold k hk (by omega) hroom (by omega) (by rw [hz2]; omega) (by rw [hz2]; exact growslice_fits hroom (by omega))
  have hge := grownCap_ge w (n + k) c 5
  have hle := grownCap_le_maxLen w (n + k) c 5 (by unfold maxLen; omega)
  generalize grownCap w (n + k) c 5 = G at hrun hge hle
  refine Lib.wpList_append_run w hgd s x 23 3 ho _ _ hs hx _ _ (hrun _) ?_
  refine h G _ hge hle ?_ (show w.grownBy _ none from ⟨rfl, rfl, rfl, by simp, fun j hj _ => heap_alloc_old w.drew _ hj⟩)
  show _ = _
  have := heap_alloc_new w.drew (.cells ((cur.take n).toArray ++ Builtin.zeroCells (Value.int .u8 0).cells k ++ Builtin.zeroCells (Value.int .u8 0).cells (G - (n + k))) 5)
  rw [show w.drew.heap.size = w.heap.size from rfl] at this
  rw [this]
  have e : (cur.take n).toArray ++ Builtin.zeroCells (Value.int .u8 0).cells k ++ Builtin.zeroCells (Value.int .u8 0).cells (G - (n + k)) = (cur.take n ++ List.replicate (G - n) (Value.int .u8 0)).toArray := by
    apply Array.toList_inj.1
    rw [Array.toList_append, Array.toList_append, zero_cells, zero_cells, List.append_assoc, List.replicate_append_replicate, show k + (G - (n + k)) = G - n by omega]
  rw [e]
end Go.Proofs.YtkohjejfkbaffaaGreat
