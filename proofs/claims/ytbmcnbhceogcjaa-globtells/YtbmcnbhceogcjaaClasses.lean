/-
  The law GlobClasses, walked.
-/
import Derived.Test.YtbmcnbhceogcjaaKeep
import Derived.Lib.ConvBytes
namespace Go.Proofs.Ytbmcnbhceogcjaa
open Go.RowKit Go.PlainAid

/-- A row of bytes among the arguments. -/
def Bytes (w : World) (a : Option Addr) (len : Nat) (f : Nat → UInt8) : Prop :=
  len ≤ maxLen ∧ ∀ i, i < len → ∃ b off, a = some ⟨b, off, none⟩ ∧ w.cell? ⟨b, off + i, none⟩ = some (.int .u8 ((f i).toNat : Nat))
theorem Bytes.keep {w wn : World} {a : Option Addr} {len : Nat} {f : Nat → UInt8} (h : Bytes w a len f) (hb : Below w.heap.size w wn) : Bytes wn a len f :=
  ⟨h.1, fun i hi => by
    obtain ⟨b, off, e, hc⟩ := h.2 i hi
    exact ⟨b, off, e, by rw [hb.cell (p := ⟨b, off + i, none⟩) (World.block_lt_of_cell? _ _ hc)]; exact hc⟩⟩

theorem in_class (L : List UInt8) (c : UInt8) : mat (91 :: (esc L ++ [93])) [c] = L.any (fun x => decide (x.toNat = c.toNat)) := by
  unfold mat; rw [class_esc]; simp [mt]
theorem not_class (L : List UInt8) (c : UInt8) : mat (91 :: 94 :: (esc L ++ [93])) [c] = !L.any (fun x => decide (x.toNat = c.toNat)) := by
  unfold mat; rw [class_not]; simp [mt]
theorem none_class (L : List UInt8) : mat (91 :: (esc L ++ [93])) [] = false := by
  unfold mat; rw [class_esc]; rfl
theorem two_class (L : List UInt8) (c : UInt8) : mat (91 :: (esc L ++ [93])) [c, c] = false := by
  unfold mat; rw [class_esc]; simp [mt]
/-- What is written so far, and whether the byte is among it. -/
def Cls (c : UInt8) (p : ByteArray) (o : Bool) (k : Nat) : Prop :=
  ∃ L : List UInt8, L.length = k ∧ p = bs (esc L) ∧ o = L.any (fun x => decide (x.toNat = c.toNat))
theorem Cls.size {c : UInt8} {p : ByteArray} {o : Bool} {k : Nat} (h : Cls c p o k) : p.size = 2 * k := by
  obtain ⟨L, rfl, rfl, -⟩ := h
  rw [size_bs, esc_len]
theorem Cls.step {c : UInt8} {p : ByteArray} {o : Bool} {k : Nat} (h : Cls c p o k) (x : UInt8) : Cls c (p ++ ⟨#[92]⟩ ++ bs [x]) (o || decide (x.toNat = c.toNat)) (k + 1) := by
  obtain ⟨L, rfl, rfl, rfl⟩ := h
  refine ⟨L ++ [x], by simp, ?_, by simp⟩
  rw [esc_snoc, show (⟨#[92]⟩ : ByteArray) = bs [92] from rfl, append_bs, append_bs]
  simp
theorem Cls.facts {c : UInt8} {p : ByteArray} {o : Bool} {k : Nat} (h : Cls c p o k) :
    mat (lst ((⟨#[91]⟩ : ByteArray) ++ p ++ ⟨#[93]⟩)) (lst (bs [c])) = o ∧ mat (lst ((⟨#[91, 94]⟩ : ByteArray) ++ p ++ ⟨#[93]⟩)) (lst (bs [c])) = !o ∧
    mat (lst ((⟨#[91]⟩ : ByteArray) ++ p ++ ⟨#[93]⟩)) (lst ⟨#[]⟩) = false ∧ mat (lst ((⟨#[91]⟩ : ByteArray) ++ p ++ ⟨#[93]⟩)) (lst (bs [c] ++ bs [c])) = false := by
  obtain ⟨L, rfl, rfl, rfl⟩ := h
  have e1 : lst ((⟨#[91]⟩ : ByteArray) ++ bs (esc L) ++ ⟨#[93]⟩) = 91 :: (esc L ++ [93]) := by
    rw [show (⟨#[91]⟩ : ByteArray) = bs [91] from rfl, show (⟨#[93]⟩ : ByteArray) = bs [93] from rfl, append_bs, append_bs, lst_bs]; rfl
  have e2 : lst ((⟨#[91, 94]⟩ : ByteArray) ++ bs (esc L) ++ ⟨#[93]⟩) = 91 :: 94 :: (esc L ++ [93]) := by
    rw [show (⟨#[91, 94]⟩ : ByteArray) = bs [91, 94] from rfl, show (⟨#[93]⟩ : ByteArray) = bs [93] from rfl, append_bs, append_bs, lst_bs]; rfl
  rw [e1, e2, lst_bs, append_bs, lst_bs]
  exact ⟨in_class L c, not_class L c, none_class L, two_class L c⟩

set_option maxRecDepth 100000 in
set_option maxHeartbeats 4000000 in
theorem classes_any (a : Option Addr) (len cap : Nat) (c : UInt8) (f : Nat → UInt8) (w : World) (hB : Bytes w a len f) :
    Calls Try.prog 6 #[.slice a len cap, .int .u8 (c.toNat : Nat)] w fun e w' => e = .returned (.bool true) ∧ Below w.heap.size w w' := by
  have hlen : len ≤ 9223372036854775807 := hB.1
  have HA : Hid (Bytes w a len f) := hB
  have H0 : Hid (Below w.heap.size w w) := Below.refl _ _
  clear hB
  obtain ⟨C, hC⟩ : ∃ C : Int, (c.toNat : Int) = C := ⟨_, rfl⟩
  have HC : Hid ((c.toNat : Int) = C) := hC
  have hCb := byte_le c hC
  rw [hC]
  clear hC
  go_enter Try.func6, Try.ntmps6
  go_wp2
  go_loopg [5, 6, 7] 10 (fun g pv ov iv wr => ∃ (k : Nat) (p : ByteArray) (o : Bool), k + g = 10 ∧ pv = .string p ∧ ov = .bool o ∧ iv = .int .i64 k ∧ p.size ≤ 20 ∧ Hid (Cls c p o k) ∧ Hid (Below w.heap.size w wr))
  case atStart => exact ⟨0, ⟨#[]⟩, false, by omega, rfl, rfl, rfl, by decide, ⟨[], rfl, rfl, rfl⟩, H0⟩
  case round =>
    obtain ⟨k, p, o, hk, rfl, rfl, rfl, hp, HP, HB⟩ := hrel
    by_cases hlt : k < len
    · by_cases h10 : k < 10
      · obtain ⟨b, off, ha, hcell⟩ := (HA.out.keep HB.out).2 k hlt
        subst ha
        have hps := HP.out.size
        have hbl := World.block_lt_of_cell? _ _ hcell
        have HS := HP.out.step (f k)
        generalize f k = x at hcell HS
        have hxs : (bs [x]).size = 1 := rfl
        have HS' : Hid (Cls c (p ++ ⟨#[92]⟩ ++ bs [x]) (o || decide (x.toNat = c.toNat)) (k + 1)) := HS
        have hps2 := HS.size
        rw [ByteArray.size_append, ByteArray.size_append, hxs] at hps2
        clear HS
        have hcv := run_convert_bytes_back (P := Try.prog) (wr.alloc (.cells #[.int .u8 (x.toNat : Nat)] 5)) 30 9 5 ⟨wr.heap.size, 0, none⟩ 1 [x] Try.underlying30 Try.underlying5 Try.underlying9 (fun j hj => by
          have : j = 0 := by simpa using hj
          subst this
          simp [Addr.add])
        have hcell2 : (wr.alloc (.cells #[.int .u8 (x.toNat : Nat)] 5)).cell? ⟨b, off + k, none⟩ = some (.int .u8 (x.toNat : Nat)) := by
          rw [World.cell?_alloc_past _ _ _ hbl]; exact hcell
        have HB2 : Hid (Below w.heap.size w (wr.alloc (.cells #[.int .u8 (x.toNat : Nat)] 5))) := HB.out.alloc HB.out.size _
        obtain ⟨X, hX⟩ : ∃ X : Int, (x.toNat : Int) = X := ⟨_, rfl⟩
        rw [hX] at hcv hcell hcell2 HB2
        have HX : Hid (decide (x.toNat = c.toNat) = (X == C)) := by
          show _ = _
          have := HC.out
          rw [Bool.eq_iff_iff]; simp; omega
        rw [HX.out] at HS'
        have hXb := byte_le x hX
        have hbx : (⟨[x].toArray⟩ : ByteArray) = bs [x] := rfl
        rw [hbx, List.length_singleton] at hcv
        clear hX hbx HX hbl HB
        generalize bs [x] = xb at hcv hxs HS'
        obtain ⟨wn, hwn⟩ : ∃ wn, wr.alloc (.cells #[.int .u8 X] 5) = wn := ⟨_, rfl⟩
        rw [hwn] at hcv hcell2 HB2
        cases o with
        | true =>
          rw [Bool.true_or] at HS'
          go_wp2
          go_roundg (gk - 1)
          case measure => omega
          case rel => exact ⟨k + 1, _, true, by omega, rfl, rfl, by go_num, by rw [ByteArray.size_append, ByteArray.size_append, hxs]; omega, HS', HB2⟩
        | false =>
          rw [Bool.false_or] at HS'
          go_wp2
          go_roundg (gk - 1)
          case measure => omega
          case rel => exact ⟨k + 1, _, (X == C), by omega, rfl, rfl, by go_num, by rw [ByteArray.size_append, ByteArray.size_append, hxs]; omega, HS', HB2⟩
      · have hps := HP.out.size
        have HF := HP.out.facts
        have hcs : (bs [c]).size = 1 := rfl
        have HM1 := fun w => Match_is HF.1 (by rw [ByteArray.size_append, ByteArray.size_append]; unfold maxLen; show 1 + p.size + 1 ≤ _; omega) (by rw [hcs]; decide) w
        have HM2 := fun w => Match_is HF.2.1 (by rw [ByteArray.size_append, ByteArray.size_append]; unfold maxLen; show 2 + p.size + 1 ≤ _; omega) (by rw [hcs]; decide) w
        have HM3 := fun w => Match_is HF.2.2.1 (by rw [ByteArray.size_append, ByteArray.size_append]; unfold maxLen; show 1 + p.size + 1 ≤ _; omega) (by decide) w
        have HM4 := fun w => Match_is HF.2.2.2 (by rw [ByteArray.size_append, ByteArray.size_append]; unfold maxLen; show 1 + p.size + 1 ≤ _; omega) (by rw [ByteArray.size_append, hcs]; decide) w
        have hcv := run_convert_bytes_back (P := Try.prog) (wr.alloc (.cells #[.int .u8 (c.toNat : Nat)] 5)) 30 9 5 ⟨wr.heap.size, 0, none⟩ 1 [c] Try.underlying30 Try.underlying5 Try.underlying9 (fun j hj => by
          have : j = 0 := by simpa using hj
          subst this
          simp [Addr.add])
        have HB2 : Hid (Below w.heap.size w (wr.alloc (.cells #[.int .u8 (c.toNat : Nat)] 5))) := HB.out.alloc HB.out.size _
        rw [HC.out] at hcv HB2
        have hbx : (⟨[c].toArray⟩ : ByteArray) = bs [c] := rfl
        rw [hbx, List.length_singleton] at hcv
        clear HF hbx HB HP hps
        generalize bs [c] = cb at hcv hcs HM1 HM2 HM4
        obtain ⟨wn, hwn⟩ : ∃ wn, wr.alloc (.cells #[.int .u8 C] 5) = wn := ⟨_, rfl⟩
        rw [hwn] at hcv HB2
        cases o with
        | true =>
          go_wp2_with fail
          refine (HM1 _).mono ?_
          rintro e v0 ⟨hb, rfl⟩
          have G0 := step_below HB2 hb
          clear hb
          go_wp2_with fail
          refine (HM2 _).mono ?_
          rintro e v1 ⟨hb, rfl⟩
          have G1 := step_below G0 hb
          clear hb
          go_wp2_with fail
          refine (HM3 _).mono ?_
          rintro e v2 ⟨hb, rfl⟩
          have G2 := step_below G1 hb
          clear hb
          go_wp2_with fail
          refine (HM4 _).mono ?_
          rintro e v3 ⟨hb, rfl⟩
          have G3 := step_below G2 hb
          clear hb
          go_wp2_with fail
          refine (known_any _).mono ?_
          rintro e v4 ⟨hb, rfl⟩
          have G4 := step_below G3 hb
          clear hb
          go_wp2
          go_ret
          exact ⟨rfl, G4.out⟩
        | false =>
          go_wp2_with fail
          refine (HM1 _).mono ?_
          rintro e v0 ⟨hb, rfl⟩
          have G0 := step_below HB2 hb
          clear hb
          go_wp2_with fail
          refine (HM2 _).mono ?_
          rintro e v1 ⟨hb, rfl⟩
          have G1 := step_below G0 hb
          clear hb
          go_wp2_with fail
          refine (HM3 _).mono ?_
          rintro e v2 ⟨hb, rfl⟩
          have G2 := step_below G1 hb
          clear hb
          go_wp2_with fail
          refine (HM4 _).mono ?_
          rintro e v3 ⟨hb, rfl⟩
          have G3 := step_below G2 hb
          clear hb
          go_wp2_with fail
          refine (known_any _).mono ?_
          rintro e v4 ⟨hb, rfl⟩
          have G4 := step_below G3 hb
          clear hb
          go_wp2
          go_ret
          exact ⟨rfl, G4.out⟩
    · have hps := HP.out.size
      have HF := HP.out.facts
      have hcs : (bs [c]).size = 1 := rfl
      have HM1 := fun w => Match_is HF.1 (by rw [ByteArray.size_append, ByteArray.size_append]; unfold maxLen; show 1 + p.size + 1 ≤ _; omega) (by rw [hcs]; decide) w
      have HM2 := fun w => Match_is HF.2.1 (by rw [ByteArray.size_append, ByteArray.size_append]; unfold maxLen; show 2 + p.size + 1 ≤ _; omega) (by rw [hcs]; decide) w
      have HM3 := fun w => Match_is HF.2.2.1 (by rw [ByteArray.size_append, ByteArray.size_append]; unfold maxLen; show 1 + p.size + 1 ≤ _; omega) (by decide) w
      have HM4 := fun w => Match_is HF.2.2.2 (by rw [ByteArray.size_append, ByteArray.size_append]; unfold maxLen; show 1 + p.size + 1 ≤ _; omega) (by rw [ByteArray.size_append, hcs]; decide) w
      have hcv := run_convert_bytes_back (P := Try.prog) (wr.alloc (.cells #[.int .u8 (c.toNat : Nat)] 5)) 30 9 5 ⟨wr.heap.size, 0, none⟩ 1 [c] Try.underlying30 Try.underlying5 Try.underlying9 (fun j hj => by
        have : j = 0 := by simpa using hj
        subst this
        simp [Addr.add])
      have HB2 : Hid (Below w.heap.size w (wr.alloc (.cells #[.int .u8 (c.toNat : Nat)] 5))) := HB.out.alloc HB.out.size _
      rw [HC.out] at hcv HB2
      have hbx : (⟨[c].toArray⟩ : ByteArray) = bs [c] := rfl
      rw [hbx, List.length_singleton] at hcv
      clear HF hbx HB HP hps
      generalize bs [c] = cb at hcv hcs HM1 HM2 HM4
      obtain ⟨wn, hwn⟩ : ∃ wn, wr.alloc (.cells #[.int .u8 C] 5) = wn := ⟨_, rfl⟩
      rw [hwn] at hcv HB2
      cases o with
      | true =>
        go_wp2_with fail
        refine (HM1 _).mono ?_
        rintro e v0 ⟨hb, rfl⟩
        have G0 := step_below HB2 hb
        clear hb
        go_wp2_with fail
        refine (HM2 _).mono ?_
        rintro e v1 ⟨hb, rfl⟩
        have G1 := step_below G0 hb
        clear hb
        go_wp2_with fail
        refine (HM3 _).mono ?_
        rintro e v2 ⟨hb, rfl⟩
        have G2 := step_below G1 hb
        clear hb
        go_wp2_with fail
        refine (HM4 _).mono ?_
        rintro e v3 ⟨hb, rfl⟩
        have G3 := step_below G2 hb
        clear hb
        go_wp2_with fail
        refine (known_any _).mono ?_
        rintro e v4 ⟨hb, rfl⟩
        have G4 := step_below G3 hb
        clear hb
        go_wp2
        go_ret
        exact ⟨rfl, G4.out⟩
      | false =>
        go_wp2_with fail
        refine (HM1 _).mono ?_
        rintro e v0 ⟨hb, rfl⟩
        have G0 := step_below HB2 hb
        clear hb
        go_wp2_with fail
        refine (HM2 _).mono ?_
        rintro e v1 ⟨hb, rfl⟩
        have G1 := step_below G0 hb
        clear hb
        go_wp2_with fail
        refine (HM3 _).mono ?_
        rintro e v2 ⟨hb, rfl⟩
        have G2 := step_below G1 hb
        clear hb
        go_wp2_with fail
        refine (HM4 _).mono ?_
        rintro e v3 ⟨hb, rfl⟩
        have G3 := step_below G2 hb
        clear hb
        go_wp2_with fail
        refine (known_any _).mono ?_
        rintro e v4 ⟨hb, rfl⟩
        have G4 := step_below G3 hb
        clear hb
        go_wp2
        go_ret
        exact ⟨rfl, G4.out⟩
end Go.Proofs.Ytbmcnbhceogcjaa
