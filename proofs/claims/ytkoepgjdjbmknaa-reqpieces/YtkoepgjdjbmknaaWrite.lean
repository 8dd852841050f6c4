/-
  Numbers, written: the document's own Unsigned and Format, and the program's.
-/
import Derived.Test.YtkoepgjdjbmknaaRead
import Derived.Lib.ConvBytes
namespace Go.Proofs.Ytkoepgjdjbmknaa
open Go.RowKit Go.PlainAid

/-- A row of bytes as a text. -/
def bs (l : List UInt8) : ByteArray := ⟨l.toArray⟩
theorem lst_bs (l : List UInt8) : lst (bs l) = l := rfl
theorem bs_lst (s : ByteArray) : bs (lst s) = s := rfl
theorem size_bs (l : List UInt8) : (bs l).size = l.length := rfl
theorem bs_inj {l r : List UInt8} (h : bs l = bs r) : l = r := by
  have := congrArg lst h; exact this
theorem cons_bs (b : UInt8) (l : List UInt8) : (⟨#[b]⟩ : ByteArray) ++ bs l = bs (b :: l) := ByteArray.mk_append_mk [b] l

theorem encode_small (n : Int) (h0 : 0 ≤ n) (h : n < 128) : Utf8.encode n = ⟨#[UInt8.ofNat n.toNat]⟩ := by
  have hv : Utf8.valid n = true := by simp [Utf8.valid]; omega
  have hlt : n.toNat < 128 := by omega
  unfold Utf8.encode
  simp only [hv, if_true]
  rw [if_pos hlt]

/-- What stands while n is written: m is left, t is there. -/
def Un (n m : Nat) (t : List UInt8) : Prop := (t = [] ∧ m = n) ∨ (t ≠ [] ∧ (m = 0 ∧ t = dec n ∨ 0 < m ∧ dec m ++ t = dec n))

theorem Un.eq {n m : Nat} {t : List UInt8} (h : Un n m t) (hc : 0 < m ∨ t = []) : dec m ++ t = dec n := by
  rcases h with ⟨rfl, rfl⟩ | ⟨hne, ⟨h1, -⟩ | ⟨-, h2⟩⟩
  · simp
  · rcases hc with hc | hc
    · omega
    · exact absurd hc hne
  · exact h2
theorem Un.step {n m : Nat} {t : List UInt8} (h : Un n m t) (hc : 0 < m ∨ t = []) : Un n (m / 10) (UInt8.ofNat (48 + m % 10) :: t) := by
  have e := h.eq hc
  refine .inr ⟨by simp, ?_⟩
  by_cases hm : m < 10
  · refine .inl ⟨by omega, ?_⟩
    rw [dec_low hm] at e
    rw [← e, Nat.mod_eq_of_lt hm]; rfl
  · refine .inr ⟨by omega, ?_⟩
    rw [dec_high hm] at e
    rw [← e]; simp
theorem Un.len {n m : Nat} {t : List UInt8} (h : Un n m t) (hc : 0 < m ∨ t = []) (hn : n < 18446744073709551616) : t.length < 20 := by
  have e := congrArg List.length (h.eq hc)
  have := dec_len20 hn
  have hp : 0 < (dec m).length := List.length_pos_iff.2 (dec_ne m)
  simp at e; omega
theorem Un.done {n m : Nat} {t : List UInt8} (h : Un n m t) (hm : m = 0) (ht : t ≠ []) : dec n = t := by
  rcases h with ⟨h, -⟩ | ⟨-, ⟨-, h⟩ | ⟨h, -⟩⟩
  · exact absurd h ht
  · exact h.symm
  · omega
theorem Un.le {n m : Nat} {t : List UInt8} (h : Un n m t) (hn : n < 18446744073709551616) : t.length ≤ 20 := by
  by_cases hc : 0 < m ∨ t = []
  · have := h.len hc hn; omega
  · have := dec_len20 hn
    rw [h.done (by omega) (fun e => hc (.inr e))] at this; exact this

set_option maxHeartbeats 1000000 in
theorem refUnsigned_any (n : Nat) (w : World) (hn : n < 18446744073709551616) :
    Calls Try.prog 43 #[.int .u64 n] w fun e w' => e = .returned (.string (bs (dec n))) ∧ w' = w := by
  have HN : Hid (n < 18446744073709551616) := hn
  go_enter Try.func43, Try.ntmps43
  go_wp2
  go_loopg [0, 3] 20 (fun g mv tv wr => w = wr ∧ ∃ (m : Nat) (t : List UInt8), t.length + g = 20 ∧ m < 18446744073709551616 ∧ mv = .int .u64 m ∧ tv = .string (bs t) ∧ Hid (Un n m t))
  case atStart => exact ⟨rfl, n, [], rfl, hn, rfl, rfl, .inl ⟨rfl, rfl⟩⟩
  case round =>
    obtain ⟨rfl, m, t, hg, hm, rfl, rfl, H⟩ := hrel
    have HG : Hid (t.length + gk = 20) := hg
    have hsz : (bs t).size ≤ 20 := by rw [size_bs]; omega
    clear hg
    obtain ⟨tb, htb⟩ : ∃ tb, bs t = tb := ⟨_, rfl⟩
    rw [htb] at hsz ⊢
    have HTB : Hid (bs t = tb) := htb
    obtain ⟨M, hM⟩ : ∃ M : Int, (m : Int) = M := ⟨_, rfl⟩
    rw [hM]
    have HM : Hid ((m : Int) = M) := hM
    have hM0 : 0 ≤ M ∧ M < 18446744073709551616 := by omega
    clear hM hm
    have he := encode_small (48 + M % 10) (by omega) (by omega)
    have hes : (Utf8.encode (48 + M % 10)).size ≤ 1 := by rw [he]; exact Nat.le_refl 1
    have HE : Hid (Utf8.encode (48 + M % 10) = ⟨#[UInt8.ofNat (48 + m % 10)]⟩) := by
      show _ = _
      rw [he, show (48 + M % 10).toNat = 48 + m % 10 by have := HM.out; omega]
    have HQ : Hid (M / 10 = (m / 10 : Nat)) := by show _ = _; have := HM.out; omega
    clear he
    by_cases hp : 0 < M
    · have HC : Hid (0 < m ∨ t = []) := .inl (by have := HM.out; omega)
      clear htb
      go_wp2
      go_roundg (gk - 1)
      case measure => have := H.out.len HC.out HN.out; have := HG.out; omega
      case rel => exact ⟨rfl, m / 10, _, by have := H.out.len HC.out HN.out; have := HG.out; simp; omega, by have := HM.out; omega, by rw [HQ.out], by rw [HE.out, ← HTB.out, cons_bs], H.out.step HC.out⟩
    · by_cases ht : t = []
      · have HC : Hid (0 < m ∨ t = []) := .inr ht
        have hemp : tb.toList.isEmpty = true := by rw [ByteArray.toList_eq, ← htb, ht]; rfl
        clear htb ht
        go_wp2
        go_roundg (gk - 1)
        case measure => have := H.out.len HC.out HN.out; have := HG.out; omega
        case rel => exact ⟨rfl, m / 10, _, by have := H.out.len HC.out HN.out; have := HG.out; simp; omega, by have := HM.out; omega, by rw [HQ.out], by rw [HE.out, ← HTB.out, cons_bs], H.out.step HC.out⟩
      · have hemp : tb.toList.isEmpty = false := by rw [ByteArray.toList_eq, ← htb]; simpa [lst_bs] using ht
        have HT : Hid (t ≠ []) := ht
        clear htb ht
        go_wp2
        go_ret
        exact ⟨by rw [H.out.done (by have := HM.out; omega) HT.out, HTB.out]; rfl, rfl⟩

/-- The row of twenty bytes, t at its end. -/
structure Room (w wr : World) (t : List UInt8) : Prop where
  below : Below w.heap.size w wr
  size : w.heap.size < wr.heap.size
  cell : ∀ j (h : j < t.length), wr.cell? ⟨w.heap.size, 20 - t.length + j, none⟩ = some (.int .u8 (t[j].toNat : Nat))
  any : ∀ j, j < 20 → ∃ v, wr.cell? ⟨w.heap.size, j, none⟩ = some v
  free : ∀ j, j < 20 → wr.frozen? ⟨w.heap.size, j, none⟩ = false

theorem Room.set {w wr : World} {t : List UInt8} (R : Room w wr t) (f : Nat) (hf : f + 1 + t.length = 20) (b : UInt8) (x : Int) (hx : x = (b.toNat : Nat)) : Room w (wr.setCell ⟨w.heap.size, f, none⟩ (.int .u8 x)) (b :: t) where
  below := R.below.setCell (Nat.le_refl _) _
  size := by simpa using R.size
  cell j hj := by
    rw [List.length_cons] at hj
    rw [show 20 - (b :: t).length + j = f + j by simp; omega]
    cases j with
    | zero =>
      obtain ⟨v, hv⟩ := R.any f (by omega)
      rw [Nat.add_zero, World.cell?_setCell_same _ _ _ hv, hx]; rfl
    | succ j =>
      rw [World.cell?_setCell_other (a := ⟨w.heap.size, f, none⟩) (b := ⟨w.heap.size, f + (j + 1), none⟩) _ _ (by intro h; injection h; omega)]
      have := R.cell j (by omega)
      rw [show 20 - t.length + j = f + (j + 1) by omega] at this
      rw [this]; rfl
  any j hj := by
    by_cases e : j = f
    · subst e
      obtain ⟨v, hv⟩ := R.any j hj
      exact ⟨_, World.cell?_setCell_same _ _ _ hv⟩
    · rw [World.cell?_setCell_other (a := ⟨w.heap.size, f, none⟩) (b := ⟨w.heap.size, j, none⟩) _ _ (by intro h; cases h; exact e rfl)]
      exact R.any j hj
  free j hj := by simpa using R.free j hj

theorem digit_int {m : Nat} {M : Int} (h : (m : Int) = M) : 48 + M % 10 = ((UInt8.ofNat (48 + m % 10)).toNat : Nat) := by
  rw [digit_toNat _ (by omega)]; omega

set_option maxHeartbeats 1000000 in
theorem Unsigned_any (n : Nat) (w : World) (hn : n < 18446744073709551616) :
    Calls Try.prog 42 #[.int .u64 n] w fun e w' => e = .returned (.string (bs (dec n))) ∧ Below w.heap.size w w' := by
  have HN : Hid (n < 18446744073709551616) := hn
  go_enter Try.func42, Try.ntmps42
  go_wp2
  go_loopg [0, 4] 20 (fun g mv fv wr => ∃ (m : Nat) (t : List UInt8), t.length + g = 20 ∧ m < 18446744073709551616 ∧ mv = .int .u64 m ∧ fv = .int .i64 (20 - t.length : Int) ∧ Hid (Room w wr t) ∧ Hid (Un n m t))
  case atStart =>
    refine ⟨n, [], rfl, hn, rfl, rfl, ?_, .inl ⟨rfl, rfl⟩⟩
    refine ⟨(Below.refl _ _).alloc (Nat.le_refl _) _, by simp, fun j hj => absurd hj (by simp), fun j hj => ?_, fun j hj => ?_⟩
    · rcases j with _|_|_|_|_|_|_|_|_|_|_|_|_|_|_|_|_|_|_|_|j
      all_goals first | omega | exact ⟨.int .u8 0, by simp⟩
    · rcases j with _|_|_|_|_|_|_|_|_|_|_|_|_|_|_|_|_|_|_|_|j
      all_goals first | omega | simp
  case round =>
    obtain ⟨m, t, hg, hm, rfl, rfl, R, H⟩ := hrel
    have HG : Hid (t.length + gk = 20) := hg
    obtain ⟨M, hM⟩ : ∃ M : Int, (m : Int) = M := ⟨_, rfl⟩
    rw [hM]
    have HM : Hid ((m : Int) = M) := hM
    have hM0 : 0 ≤ M ∧ M < 18446744073709551616 := by omega
    clear hM hm
    by_cases ht : t = []
    · subst ht
      clear hg
      obtain ⟨v, hv⟩ := R.out.any 19 (by omega)
      have hf := R.out.free 19 (by omega)
      rw [show (20 - (([] : List UInt8).length : Int)) = 20 from rfl]
      go_wp2
      go_roundg (gk - 1)
      case measure => have := HG.out; simp at this; omega
      case rel => exact ⟨m / 10, [UInt8.ofNat (48 + m % 10)], by have := HG.out; simp at this ⊢; omega, by have := HM.out; omega, by have := HM.out; go_num, rfl, R.out.set 19 rfl _ _ (digit_int HM.out), H.out.step (.inr rfl)⟩
    by_cases hp : 0 < M
    · have HC : Hid (0 < m ∨ t = []) := .inl (by have := HM.out; omega)
      have hlen := H.out.len HC.out HN.out
      have hlp : 0 < t.length := List.length_pos_iff.2 ht
      obtain ⟨f, hF⟩ : ∃ f : Nat, f + 1 + t.length = 20 := ⟨19 - t.length, by omega⟩
      rw [show (20 - (t.length : Int)) = (f : Int) + 1 by omega]
      have HF : Hid (f + 1 + t.length = 20) := hF
      have hf19 : (f : Int) < 19 := by omega
      have hq : ((f : Int) + 1 == 20) = false := by simp; omega
      obtain ⟨v, hv⟩ := R.out.any f (by omega)
      have hf := R.out.free f (by omega)
      clear hg hlen hlp hF ht
      go_wp2
      go_roundg (gk - 1)
      case measure => have := HG.out; have := HF.out; omega
      case rel => exact ⟨m / 10, UInt8.ofNat (48 + m % 10) :: t, by have := HG.out; have := HF.out; simp; omega, by have := HM.out; omega, by have := HM.out; go_num, by have := HF.out; simp; omega, R.out.set f HF.out _ _ (digit_int HM.out), H.out.step HC.out⟩
    · have HT : Hid (t ≠ []) := ht
      have hle : t.length ≤ 20 := by omega
      have hlp : 0 < t.length := List.length_pos_iff.2 ht
      obtain ⟨f, hF⟩ : ∃ f : Nat, f + t.length = 20 := ⟨20 - t.length, by omega⟩
      rw [show (20 - (t.length : Int)) = (f : Int) by omega]
      have HF : Hid (f + t.length = 20) := hF
      have hf19 : (f : Int) < 20 := by omega
      have hq : ((f : Int) == 20) = false := by simp; omega
      have hsl : (Instr.sliceAt 86 (.pointer (some ⟨w.heap.size, 0, none⟩)) (some (.int .i64 (f : Int))) none none).run Try.prog wr = .ok (.slice (some ⟨w.heap.size, f, none⟩) t.length t.length) wr := by
        rw [run_sliceAt_array_l wr 86 ⟨w.heap.size, 0, none⟩ (by simp [Program.arrayLen, Program.elem, Try.underlying86]) .i64 (f : Int) (by omega) (by simp [Program.arrayLen, Try.underlying86]; omega)]
        rw [show Try.prog.arrayLen 86 = f + t.length by simp [Program.arrayLen, Try.underlying86]; omega]
        go_simp
        exact ⟨by omega, by omega⟩
      have hcv := run_convert_bytes_back (P := Try.prog) wr 24 9 5 ⟨w.heap.size, f, none⟩ t.length t Try.underlying24 Try.underlying5 Try.underlying9 (fun j hj => by
        have := R.out.cell j hj
        have e0 : (⟨w.heap.size, f, none⟩ : Addr).add j = ⟨w.heap.size, 20 - t.length + j, none⟩ := by
          have := HF.out
          rw [show 20 - t.length + j = f + j by omega]
          simp only [Addr.add]; split <;> simp_all
        rw [e0]; exact this)
      clear hg hle hlp hF ht
      go_wp2
      go_ret
      exact ⟨by rw [H.out.done (by have := HM.out; omega) HT.out]; rfl, R.out.below⟩

theorem fmtL_neg {n : Int} (h : n < 0) : fmtL n = 45 :: dec (-n).toNat := by unfold fmtL; rw [if_pos h]
theorem fmtL_pos {n : Int} (h : ¬ n < 0) : fmtL n = dec n.toNat := by unfold fmtL; rw [if_neg h]

theorem minus_bs (l : List UInt8) : (⟨#[45]⟩ : ByteArray) ++ bs l = bs (45 :: l) := cons_bs 45 l

theorem Format_any (n : Int) (w : World) (h1 : -9223372036854775808 ≤ n) (h2 : n < 9223372036854775808) :
    Calls Try.prog 34 #[.int .i64 n] w fun e w' => e = .returned (.string (bs (fmtL n))) ∧ Below w.heap.size w w' := by
  by_cases h : n < 0
  · have HF : Hid (bs (fmtL n) = (⟨#[45]⟩ : ByteArray) ++ bs (dec (-n).toNat)) := by
      show _ = _; rw [fmtL_neg h, minus_bs]
    have hw : IntKind.u64.wrap n = n + 18446744073709551616 := u64_neg h (by omega)
    have hw2 : IntKind.u64.wrap (-(n + 18446744073709551616)) = ((-n).toNat : Nat) := by rw [IntKind.wrap_u64]; omega
    have HU := fun w => Unsigned_any (-n).toNat w (by omega)
    have HL : Hid ((bs (dec (-n).toNat)).size ≤ 20) := dec_len20 (n := (-n).toNat) (by omega)
    generalize (-n).toNat = k at HF hw2 HU HL
    generalize bs (dec k) = b at HF HU HL
    have hl : b.size ≤ 20 := HL.out
    go_enter Try.func34, Try.ntmps34
    go_wp2_with (go_at_call 42; refine (HU _).mono ?_; rintro e w' ⟨rfl, hb⟩)
    go_ret
    exact ⟨by rw [HF.out]; rfl, hb⟩
  · have HF : Hid (bs (fmtL n) = bs (dec n.toNat)) := by
      show _ = _; rw [fmtL_pos h]
    have hw : IntKind.u64.wrap n = (n.toNat : Nat) := by rw [IntKind.wrap_u64]; omega
    have HU := fun w => Unsigned_any n.toNat w (by omega)
    generalize n.toNat = k at HF hw HU
    go_enter Try.func34, Try.ntmps34
    go_wp2_with (go_at_call 42; refine (HU _).mono ?_; rintro e w' ⟨rfl, hb⟩)
    go_ret
    exact ⟨by rw [HF.out]; rfl, hb⟩

theorem refFormat_any (n : Int) (w : World) (h1 : -9223372036854775808 ≤ n) (h2 : n < 9223372036854775808) :
    Calls Try.prog 35 #[.int .i64 n] w fun e w' => e = .returned (.string (bs (fmtL n))) ∧ w' = w := by
  by_cases h : n < 0
  · have HF : Hid (bs (fmtL n) = (⟨#[45]⟩ : ByteArray) ++ bs (dec (-n).toNat)) := by
      show _ = _; rw [fmtL_neg h, minus_bs]
    have hw : IntKind.u64.wrap n = n + 18446744073709551616 := u64_neg h (by omega)
    have hw2 : IntKind.u64.wrap (-(n + 18446744073709551616)) = ((-n).toNat : Nat) := by rw [IntKind.wrap_u64]; omega
    have HU := fun w => refUnsigned_any (-n).toNat w (by omega)
    have HL : Hid ((bs (dec (-n).toNat)).size ≤ 20) := dec_len20 (n := (-n).toNat) (by omega)
    generalize (-n).toNat = k at HF hw2 HU HL
    generalize bs (dec k) = b at HF HU HL
    have hl : b.size ≤ 20 := HL.out
    go_enter Try.func35, Try.ntmps35
    go_wp2_with (go_at_call 43; refine (HU _).mono ?_; rintro e w ⟨rfl, rfl⟩)
    go_ret
    exact ⟨by rw [HF.out]; rfl, rfl⟩
  · have HF : Hid (bs (fmtL n) = bs (dec n.toNat)) := by
      show _ = _; rw [fmtL_pos h]
    have hw : IntKind.u64.wrap n = (n.toNat : Nat) := by rw [IntKind.wrap_u64]; omega
    have HU := fun w => refUnsigned_any n.toNat w (by omega)
    generalize n.toNat = k at HF hw HU
    go_enter Try.func35, Try.ntmps35
    go_wp2_with (go_at_call 43; refine (HU _).mono ?_; rintro e w ⟨rfl, rfl⟩)
    go_ret
    exact ⟨by rw [HF.out]; rfl, rfl⟩
end Go.Proofs.Ytkoepgjdjbmknaa
