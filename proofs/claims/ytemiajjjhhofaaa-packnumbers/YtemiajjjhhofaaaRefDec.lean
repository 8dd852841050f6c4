/-
  The document's own Decode and Back: text, Decode, Back.
-/
import Derived.Test.YtemiajjjhhofaaaRef4
import Derived.Test.YtemiajjjhhofaaaDcd
namespace Go.Proofs.Ytemiajjjhhofaaa
open Go.RowKit Go.PlainAid

def tS (o : Option (List UInt8)) : ByteArray :=
  match o with
  | none => ⟨#[]⟩
  | some s => bs s
/-- What text answers. -/
def tR (o : Option (List UInt8)) : Value := .tuple #[.string (tS o), .bool o.isSome]
theorem tR_none : tR none = .tuple #[.string ⟨#[]⟩, .bool false] := rfl
theorem tR_some (s : List UInt8) : tR (some s) = .tuple #[.string (bs s), .bool true] := rfl

theorem text_low {x : UInt8} (r : List UInt8) (h : x.toNat < 128) : text (x :: r) = some (fmtL x.toNat) := by rw [text_cons, if_pos h]
theorem text_short {x : UInt8} (r : List UInt8) (h : 128 ≤ x.toNat) (h2 : x.toNat ≤ 191) : text (x :: r) = tk (x.toNat - 128) r := by rw [text_cons, if_neg (by omega), if_pos h2]
theorem text_long {x : UInt8} (r : List UInt8) (h : x.toNat = 224) (h2 : 2 ≤ r.length) : text (x :: r) = tk ((r.getD 0 0).toNat * 256 + (r.getD 1 0).toNat) (r.drop 2) := by
  rw [text_cons, if_neg (by omega), if_neg (by omega), if_pos ⟨h, h2⟩]
theorem text_wide {x : UInt8} (r : List UInt8) (h : x.toNat = 241) (h2 : 8 ≤ r.length) : text (x :: r) = some (fmtL (sgn (val 0 (r.take 8)))) := by
  rw [text_cons, if_neg (by omega), if_neg (by omega), if_neg (by omega), if_pos ⟨h, h2⟩]
theorem text_odd {x : UInt8} (r : List UInt8) (h : 191 < x.toNat) (h2 : ¬ (x.toNat = 224 ∧ 2 ≤ r.length)) (h3 : ¬ (x.toNat = 241 ∧ 8 ≤ r.length)) : text (x :: r) = none := by
  rw [text_cons, if_neg (by omega), if_neg (by omega), if_neg h2, if_neg h3]

set_option maxRecDepth 100000 in
set_option maxHeartbeats 4000000 in
theorem text_any (a : Option Addr) (n cap : Nat) (l : List UInt8) (w : World) (hR : Rd w a n cap l) :
    Calls Try.prog 51 #[.slice a n cap] w fun e w' => Below w.heap.size w w' ∧ e = .returned (tR (text l)) := by
  have hn : n ≤ 9223372036854775807 := Nat.le_trans hR.fit hR.max
  have hl := hR.len
  cases l with
  | nil =>
    have h0 : n = 0 := hl.symm
    subst h0
    rw [show text [] = none from rfl, tR_none]
    clear hR
    go_enter Try.func51, Try.ntmps51
    go_wp2
    go_ret2
    exact ⟨Below.refl _ _, rfl⟩
  | cons x r =>
    rw [List.length_cons] at hl
    obtain ⟨b, off, ha, hc⟩ := hR.cell 0 (by omega)
    subst ha
    have hn0 : (0 : Int) < n := by omega
    have hnq : ((n : Int) == 0) = false := by simp; omega
    obtain ⟨X, hX⟩ : ∃ X : Int, (x.toNat : Int) = X := ⟨_, rfl⟩
    rw [show ((x :: r).getD 0 0) = x from rfl, hX, Nat.add_zero] at hc
    have hXb := byte_le x hX
    have HR : Hid (Rd w (some ⟨b, off, none⟩) n cap (x :: r)) := hR
    by_cases h1 : X < 128
    · rw [text_low r (by omega), tR_some, hX]
      have HF := fun w => refFormat_any X w (by omega) (by omega)
      clear hR hl hX
      go_enter Try.func51, Try.ntmps51
      go_wp2_with fail
      refine (HF _).mono ?_
      rintro e w ⟨rfl, rfl⟩
      go_wp2
      go_ret2
      exact ⟨Below.refl _ _, rfl⟩
    by_cases h2 : X ≤ 191
    · rw [text_short r (by omega) (by omega)]
      obtain ⟨k, hk⟩ : ∃ k, x.toNat - 128 = k := ⟨_, rfl⟩
      have hkX : X - 128 = (k : Int) := by omega
      have h1' : 128 ≤ X := by omega
      rw [hk]
      by_cases hlt : r.length < k
      · have HT : Hid (tk k r = none) := by show _ = _; unfold tk; rw [if_pos hlt]
        rw [HT.out, tR_none]
        have hltz : (n : Int) - 1 < k := by omega
        clear hR hl hX h1 hk hlt
        go_enter Try.func51, Try.ntmps51
        go_wp2
        go_ret2
        exact ⟨Below.refl _ _, rfl⟩
      · have HT : Hid (tk k r = some (r.take k)) := by show _ = _; unfold tk; rw [if_neg hlt]
        rw [HT.out, tR_some]
        have hltz : ¬ (n : Int) - 1 < k := by omega
        obtain ⟨a1, c1, hsl, hR1⟩ := hR.slice_lh 1 (1 + k) (by omega) (by omega)
        rw [Nat.add_sub_cancel_left] at hR1 hsl
        rw [show (((1 + k : Nat) : Int)) = 1 + (k : Int) by omega] at hsl
        replace hsl : ∀ wx, (Instr.sliceAt 30 (.slice (some ⟨b, off, none⟩) n cap) (some (.int .i64 1)) (some (.int .i64 (1 + (k : Int)))) none).run Try.prog wx = .ok (.slice a1 k c1) wx := hsl
        have hT := hR1.text
        rw [show ((x :: r).drop 1).take k = r.take k from rfl] at hT
        clear hR hl hX h1 hk hlt hR1
        go_enter Try.func51, Try.ntmps51
        go_wp2
        go_ret2
        exact ⟨Below.refl _ _, rfl⟩
    by_cases h3 : X = 224
    · by_cases hlt : r.length < 2
      · rw [text_odd r (by omega) (by omega) (by omega), tR_none]
        subst h3
        have hn3 : ¬ (3 : Int) ≤ n := by omega
        clear hR hl hX h1 h2 hlt
        go_enter Try.func51, Try.ntmps51
        go_wp2
        go_ret2
        exact ⟨Below.refl _ _, rfl⟩
      · rw [text_long r (by omega) (by omega)]
        have hn3 : (3 : Int) ≤ n := by omega
        obtain ⟨b', off', ha, hc1⟩ := hR.cell 1 (by omega)
        cases ha
        obtain ⟨b', off', ha, hc2⟩ := hR.cell 2 (by omega)
        cases ha
        obtain ⟨Y, hY⟩ : ∃ Y : Int, ((r.getD 0 0).toNat : Int) = Y := ⟨_, rfl⟩
        obtain ⟨Z, hZ⟩ : ∃ Z : Int, ((r.getD 1 0).toNat : Int) = Z := ⟨_, rfl⟩
        rw [show ((x :: r).getD 1 0) = r.getD 0 0 from rfl, hY] at hc1
        rw [show ((x :: r).getD 2 0) = r.getD 1 0 from rfl, hZ] at hc2
        have hYb := byte_le _ hY
        have hZb := byte_le _ hZ
        have hO := i64_or_byte Y Z hYb.1 hYb.2 hZb.1 hZb.2
        obtain ⟨k, hk⟩ : ∃ k, (r.getD 0 0).toNat * 256 + (r.getD 1 0).toNat = k := ⟨_, rfl⟩
        have hkz : Y * 256 + Z = (k : Int) := by omega
        rw [hkz] at hO
        rw [hk]
        have hk6 : (k : Int) ≤ 65535 := by omega
        by_cases hbad : (r.drop 2).length < k
        · have HT : Hid (tk k (r.drop 2) = none) := by show _ = _; unfold tk; rw [if_pos hbad]
          rw [HT.out, tR_none]
          rw [List.length_drop] at hbad
          have hltz : (n : Int) - 3 < k := by omega
          subst h3
          clear hR hl hX h1 h2 hlt hk hkz hbad hY hZ
          go_enter Try.func51, Try.ntmps51
          go_wp2
          go_quiet (fail)
          go_wp2
          go_ret2
          exact ⟨below_drewN w _, rfl⟩
        · have HT : Hid (tk k (r.drop 2) = some ((r.drop 2).take k)) := by show _ = _; unfold tk; rw [if_neg hbad]
          rw [HT.out, tR_some]
          rw [List.length_drop] at hbad
          have hltz : ¬ (n : Int) - 3 < k := by omega
          obtain ⟨a1, c1, hsl, hR1⟩ := hR.slice_lh 3 (3 + k) (by omega) (by omega)
          rw [Nat.add_sub_cancel_left] at hR1 hsl
          rw [show (((3 + k : Nat) : Int)) = 3 + (k : Int) by omega] at hsl
          replace hsl : ∀ wx, (Instr.sliceAt 30 (.slice (some ⟨b, off, none⟩) n cap) (some (.int .i64 3)) (some (.int .i64 (3 + (k : Int)))) none).run Try.prog wx = .ok (.slice a1 k c1) wx := hsl
          have hT := fun q => (hR1.keep (below_drewN w q)).text
          rw [show ((x :: r).drop 3).take k = (r.drop 2).take k from rfl] at hT
          subst h3
          clear hR hl hX h1 h2 hlt hk hkz hbad hY hZ hR1
          go_enter Try.func51, Try.ntmps51
          go_wp2
          go_quiet (fail)
          go_wp2
          go_ret2
          exact ⟨below_drewN w _, rfl⟩
    by_cases h4 : X = 241
    · by_cases hlt : r.length < 8
      · rw [text_odd r (by omega) (by omega) (by omega), tR_none]
        subst h4
        have hn3 : ¬ (9 : Int) ≤ n := by omega
        clear hR hl hX h1 h2 hlt h3
        go_enter Try.func51, Try.ntmps51
        go_wp2
        go_ret2
        exact ⟨Below.refl _ _, rfl⟩
      · rw [text_wide r (by omega) (by omega), tR_some]
        have hn3 : (9 : Int) ≤ n := by omega
        have HL : Hid (8 ≤ r.length) := by show _ ≤ _; omega
        have hv := val_take_lt r 8 (by omega)
        have hin := sgn_in hv
        have HF := fun w => refFormat_any (sgn (val 0 (r.take 8))) w hin.1 hin.2
        have hws : wrap64 ((val 0 (r.take 8) : Nat) : Int) = sgn (val 0 (r.take 8)) := wrap_sgn _ hv
        have HN9 : Hid (9 ≤ n) := by show _ ≤ _; omega
        subst h4
        clear hR hl hX h1 h2 hlt h3 hin hv
        generalize sgn (val 0 (r.take 8)) = z at HF hws
        have HW : Hid (wrap64 ((val 0 (r.take 8) : Nat) : Int) = z) := hws
        clear hws
        go_enter Try.func51, Try.ntmps51
        go_wp2
        go_loopg [6, 7] 8 (fun g bv iv wr => ∃ (k : Nat), k + g = 8 ∧ bv = .int .u64 (val 0 (r.take k) : Nat) ∧ iv = .int .i64 (1 + (k : Int)) ∧ wr = w)
        case atStart => exact ⟨0, by omega, rfl, rfl, rfl⟩
        case round =>
          obtain ⟨k, hk, rfl, rfl, rfl⟩ := hrel
          by_cases h8 : k < 8
          · obtain ⟨b', off', ha, hck⟩ := HR.out.cell (1 + k) (by have := HN9.out; omega)
            cases ha
            obtain ⟨V, hV⟩ : ∃ V : Int, ((val 0 (r.take k) : Nat) : Int) = V := ⟨_, rfl⟩
            obtain ⟨Y, hY⟩ : ∃ Y : Int, ((r.getD k 0).toNat : Int) = Y := ⟨_, rfl⟩
            have hgd : ((x :: r).getD (1 + k) 0) = r.getD k 0 := by rw [Nat.add_comm]; rfl
            rw [hgd, hY] at hck
            have HN : Hid (((val 0 (r.take (k + 1)) : Nat) : Int) = V * 256 + Y) := by
              show _ = _
              rw [take_snoc _ _ (by have := HL.out; omega), val_snoc]; omega
            have hYb := byte_le _ hY
            rw [hV]
            have hV0 := val_take_lt r k (by omega)
            have hV1 := val_take_lt r (k + 1) (by omega)
            have HO : Hid (bits BinOp.or IntKind.u64 (IntKind.u64.wrap (V * 256)) Y = V * 256 + Y) := by
              have := HN.out
              exact u64_or_byte V Y (by omega) (by omega) hYb.1 hYb.2
            have h8z : 1 + (k : Int) < 9 := by omega
            clear hV hY hV0 hV1 hgd
            go_wp2
            go_roundg (gk - 1)
            case measure => omega
            case rel => exact ⟨k + 1, by omega, by rw [HN.out, HO.out], by go_num, rfl⟩
          · have hk8 : k = 8 := by omega
            subst hk8
            have hws := HW.out
            generalize (val 0 (r.take 8) : Nat) = u at hws
            go_wp2_with fail
            refine (HF _).mono ?_
            rintro e wr ⟨rfl, rfl⟩
            go_wp2
            go_ret2
            exact ⟨Below.refl _ _, rfl⟩
    · rw [text_odd r (by omega) (by omega) (by omega), tR_none]
      have hq1 : (X == 241) = false := by simpa using h4
      have hq2 : (X == 224) = false := by simpa using h3
      have h1' : 191 < X := by omega
      clear hR hl hX h1 h2 h3 h4
      go_enter Try.func51, Try.ntmps51
      go_wp2
      go_ret2
      exact ⟨Below.refl _ _, rfl⟩

theorem tk_len {k : Nat} {r s : List UInt8} (h : tk k r = some s) : s.length = k := by
  unfold tk at h
  split at h
  · cases h
  · have := Option.some.inj h
    rw [← this, List.length_take]; omega
theorem text_len {b s : List UInt8} (h : text b = some s) : s.length ≤ 65535 := by
  cases b with
  | nil => cases h
  | cons x r =>
    have hx := x.toNat_lt
    rw [text_cons] at h
    split at h
    · rw [← Option.some.inj h]
      have := fmtL_len (n := (x.toNat : Int)) (by omega) (by omega)
      omega
    · split at h
      · have := tk_len h; omega
      · split at h
        · have := tk_len h
          have := (r.getD 0 0).toNat_lt
          have := (r.getD 1 0).toNat_lt
          omega
        · split at h
          · have hin := sgn_in (val_take_lt r 8 (by omega))
            have := fmtL_len hin.1 hin.2
            rw [← Option.some.inj h]
            omega
          · cases h

theorem decAt_drop (l : List UInt8) (p : Nat) (h : p ≤ l.length) : decAt l (p : Nat) = (dec2 (l.drop p)).map fun q => (q.1, p + q.2) := by
  by_cases hp : p = l.length
  · subst hp
    unfold decAt
    rw [if_pos (by omega), List.drop_length]; rfl
  · unfold decAt
    rw [if_neg (by omega), dec_same]; rfl

theorem dR_none : dR none = .tuple #[.string ⟨#[]⟩, .int .i64 0, .bool false] := rfl
theorem dR_some (s : List UInt8) (k : Nat) : dR (some (s, k)) = .tuple #[.string (bs s), .int .i64 (k : Nat), .bool true] := rfl
theorem eqB (A B : List UInt8) : ((bs A).toList == (bs B).toList) = decide (A = B) := by
  rw [toList_beq, Bool.eq_iff_iff]
  simp only [decide_eq_true_eq]
  exact ⟨fun e => bs_inj e, fun e => by rw [e]⟩

set_option maxRecDepth 100000 in
set_option maxHeartbeats 4000000 in
theorem refDecode_any (a : Option Addr) (n cap : Nat) (l : List UInt8) (at' : Int) (w : World) (hR : Rd w a n cap l) (h63 : at' ≤ 9223372036854775807) :
    Calls Try.prog 40 #[.slice a n cap, .int .i64 at'] w fun e w' => Below w.heap.size w w' ∧ e = .returned (dR (decAt l at')) := by
  have hn : n ≤ 9223372036854775807 := Nat.le_trans hR.fit hR.max
  have hl := hR.len
  by_cases h0 : at' < 0
  · have HD : Hid (decAt l at' = none) := by show _ = _; unfold decAt; rw [if_pos (.inl h0)]
    rw [HD.out, dR_none]
    clear hR hl
    go_enter Try.func40, Try.ntmps40
    go_wp2
    go_ret3
    exact ⟨Below.refl _ _, rfl⟩
  by_cases h1 : (n : Int) < at'
  · have HD : Hid (decAt l at' = none) := by show _ = _; unfold decAt; rw [if_pos (.inr (by rw [hl]; omega))]
    rw [HD.out, dR_none]
    have h0' : 0 ≤ at' := by omega
    clear hR hl h0
    go_enter Try.func40, Try.ntmps40
    go_wp2
    go_ret3
    exact ⟨Below.refl _ _, rfl⟩
  obtain ⟨p, rfl⟩ := Int.eq_ofNat_of_zero_le (show 0 ≤ at' by omega)
  have hp : p ≤ n := by omega
  have hD := decAt_drop l p (by omega)
  obtain ⟨a1, c1, hsl, hR1⟩ := hR.slice_l p hp
  have HX := fun w1 (e : Rd w1 a1 (n - p) c1 (l.drop p)) => text_any a1 (n - p) c1 (l.drop p) w1 e
  have HR : Hid (Rd w a n cap l) := hR
  have HR1 : Hid (Rd w a1 (n - p) c1 (l.drop p)) := hR1
  have hpz : (p : Int) ≤ n := by omega
  have hp0 : (0 : Int) ≤ p := by omega
  cases ht : text (l.drop p) with
  | none =>
    have HD : Hid (decAt l (p : Nat) = none) := by show _ = _; rw [hD]; unfold dec2; rw [ht]; rfl
    rw [HD.out, dR_none]
    rw [ht, tR_none] at HX
    clear hR hl hR1 hp hD ht h0 h1
    go_enter Try.func40, Try.ntmps40
    go_wp2_with fail
    refine (HX _ HR1.out).mono ?_
    rintro e w1 ⟨hb, rfl⟩
    go_wp2
    go_ret3
    exact ⟨hb, rfl⟩
  | some s =>
    have hsl2 := text_len ht
    rw [ht, tR_some] at HX
    by_cases hbig : 4096 < s.length
    · have HD : Hid (decAt l (p : Nat) = none) := by show _ = _; rw [hD]; unfold dec2; rw [ht]; dsimp only; rw [if_pos hbig]; rfl
      rw [HD.out, dR_none]
      have hsz : (bs s).size = s.length := rfl
      generalize bs s = S at HX hsz
      have hs1 : 4096 < (S.size : Int) := by omega
      have hs2 : (S.size : Int) ≤ 65535 := by omega
      clear hR hl hR1 hp hD ht h0 h1 hsz hsl2 hbig
      go_enter Try.func40, Try.ntmps40
      go_wp2_with fail
      refine (HX _ HR1.out).mono ?_
      rintro e w1 ⟨hb, rfl⟩
      go_wp2
      go_ret3
      exact ⟨hb, rfl⟩
    · have HE := fun w => refEncode_any (bs s) w (by rw [size_bs]; omega)
      rw [lst_bs] at HE
      have hsz : (bs s).size = s.length := rfl
      have hel := (enc_len s).2
      obtain ⟨S, hS⟩ : ∃ S, bs s = S := ⟨_, rfl⟩
      rw [hS] at HX HE hsz
      have hs1 : ¬ 4096 < (S.size : Int) := by omega
      have hdl : (l.drop p).length = n - p := hR1.len
      by_cases hlt : n - p < (enc s).length
      · have hpf : pre (enc s) (l.drop p) = false := by
          unfold pre
          apply decide_eq_false
          intro e
          have := congrArg List.length e
          rw [List.length_take, hdl] at this
          omega
        have HD : Hid (decAt l (p : Nat) = none) := by show _ = _; rw [hD]; unfold dec2; rw [ht]; dsimp only; rw [if_neg hbig, hpf]; rfl
        rw [HD.out, dR_none]
        have HLT : Hid (n - p < (enc s).length) := hlt
        have HPn : Hid (p ≤ n) := hp
        clear hR hl hR1 hp hD ht h0 h1 hsz hsl2 hbig hS hlt hpf hdl hel
        go_enter Try.func40, Try.ntmps40
        go_wp2_with fail
        refine (HX _ HR1.out).mono ?_
        rintro e w1 ⟨hb, rfl⟩
        have H1 : Hid (Below w.heap.size w w1) := hb
        clear hb
        go_wp2_with fail
        refine (HE _).mono ?_
        rintro e w2 ⟨hb, a3, n3, c3, rfl, hO⟩
        have H2 := step_below H1 hb
        have hg : (n : Int) - p < n3 := by
          have := hO.len
          have := HLT.out
          have := HPn.out
          omega
        clear hb hO
        go_wp2
        go_quiet (fail)
        go_wp2
        go_ret3
        exact ⟨H2.out.trans ((below_drewN w2 _).mono H2.out.size), rfl⟩
      · obtain ⟨m, hm⟩ : ∃ m, (enc s).length = m := ⟨_, rfl⟩
        rw [hm] at hlt hel
        obtain ⟨a4, c4, hsl4, hR4⟩ := hR.slice_lh p (p + m) (by omega) (by omega)
        rw [Nat.add_sub_cancel_left] at hR4 hsl4
        rw [show (((p + m : Nat) : Int)) = (p : Int) + (m : Int) by omega] at hsl4
        have HR4 : Hid (Rd w a4 m c4 ((l.drop p).take m)) := hR4
        have hq := eqB ((l.drop p).take m) (enc s)
        obtain ⟨A, hA⟩ : ∃ A, bs ((l.drop p).take m) = A := ⟨_, rfl⟩
        obtain ⟨B, hB⟩ : ∃ B, bs (enc s) = B := ⟨_, rfl⟩
        rw [hA, hB] at hq
        have HPn : Hid (p + m ≤ n) := by show _ ≤ _; omega
        have hmz : (p : Int) + m ≤ n := by omega
        cases hpf : pre (enc s) (l.drop p) with
        | false =>
          have HD : Hid (decAt l (p : Nat) = none) := by show _ = _; rw [hD]; unfold dec2; rw [ht]; dsimp only; rw [if_neg hbig, hpf]; rfl
          rw [HD.out, dR_none]
          unfold pre at hpf
          rw [hm] at hpf
          rw [hpf] at hq
          have hq2 : (A.toList != B.toList) = true := by rw [bne, hq]; rfl
          have HA : Hid (bs ((l.drop p).take m) = A) := hA
          have HBB : Hid (bs (enc s) = B) := hB
          have HM : Hid ((enc s).length = m) := hm
          clear hR hl hR1 hp hD ht h0 h1 hsz hsl2 hbig hS hlt hpf hdl hel hR4 hA hB hm
          go_enter Try.func40, Try.ntmps40
          go_wp2_with fail
          refine (HX _ HR1.out).mono ?_
          rintro e w1 ⟨hb, rfl⟩
          have H1 : Hid (Below w.heap.size w w1) := hb
          clear hb
          go_wp2_with fail
          refine (HE _).mono ?_
          rintro e w2 ⟨hb, a3, n3, c3, rfl, hO⟩
          have H2 := step_below H1 hb
          have hn3 : n3 = m := by rw [← hO.len, HM.out]
          subst hn3
          have hT1 := fun q => ((HR4.out.keep H2.out).keep (below_drewN w2 q)).text
          have hT2 := fun q => (hO.rd.keep (below_drewN w2 q)).text
          rw [HA.out] at hT1
          rw [HBB.out] at hT2
          have hg : decide ((n : Int) - p < n3) = false := by simp; omega
          clear hb hO
          go_wp2
          go_quiet (fail)
          go_wp2
          go_ret3
          exact ⟨H2.out.trans ((below_drewN w2 _).mono H2.out.size), rfl⟩
        | true =>
          have HD : Hid (decAt l (p : Nat) = some (s, p + m)) := by show _ = _; rw [hD]; unfold dec2; rw [ht]; dsimp only; rw [if_neg hbig, hpf, hm]; rfl
          rw [HD.out, dR_some, hS]
          unfold pre at hpf
          rw [hm] at hpf
          rw [hpf] at hq
          have hq2 : (A.toList != B.toList) = false := by rw [bne, hq]; rfl
          have HA : Hid (bs ((l.drop p).take m) = A) := hA
          have HBB : Hid (bs (enc s) = B) := hB
          have HM : Hid ((enc s).length = m) := hm
          clear hR hl hR1 hp hD ht h0 h1 hsz hsl2 hbig hS hlt hpf hdl hel hR4 hA hB hm
          go_enter Try.func40, Try.ntmps40
          go_wp2_with fail
          refine (HX _ HR1.out).mono ?_
          rintro e w1 ⟨hb, rfl⟩
          have H1 : Hid (Below w.heap.size w w1) := hb
          clear hb
          go_wp2_with fail
          refine (HE _).mono ?_
          rintro e w2 ⟨hb, a3, n3, c3, rfl, hO⟩
          have H2 := step_below H1 hb
          have hn3 : n3 = m := by rw [← hO.len, HM.out]
          subst hn3
          have hT1 := fun q => ((HR4.out.keep H2.out).keep (below_drewN w2 q)).text
          have hT2 := fun q => (hO.rd.keep (below_drewN w2 q)).text
          rw [HA.out] at hT1
          rw [HBB.out] at hT2
          have hg : decide ((n : Int) - p < n3) = false := by simp; omega
          clear hb hO
          go_wp2
          go_quiet (fail)
          go_wp2
          go_ret3
          exact ⟨H2.out.trans ((below_drewN w2 _).mono H2.out.size), rfl⟩
end Go.Proofs.Ytemiajjjhhofaaa
