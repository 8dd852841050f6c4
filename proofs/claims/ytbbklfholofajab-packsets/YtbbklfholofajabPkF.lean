/-
  From, the document's All, Find; lists that are the same; some of the chapter's runs.
-/
import Derived.Test.YtbbklfholofajabPkS
import Derived.Test.YtbbklfholofajabPk2
namespace Go.Proofs.Ytbbklfholofajab
open Go.RowKit Go.PlainAid

theorem split_cons (f : Nat) (l : List UInt8) (h : l ≠ []) : split (f + 1) l = match dec1 l with
    | none => none
    | some (s, k) => (split f (l.drop k)).map (bs s :: ·) := by
  cases l with
  | nil => exact absurd rfl h
  | cons x r => rfl
theorem split_nil (f : Nat) : split f [] = some [] := by cases f <;> rfl
theorem decAt_in (l : List UInt8) (x : Nat) (h : x < l.length) : decAt l (x : Nat) = (dec1 (l.drop x)).map fun p => (p.1, x + p.2) := by
  unfold decAt
  rw [if_neg (by omega)]; rfl
theorem drop_ne (l : List UInt8) (x : Nat) (h : x < l.length) : l.drop x ≠ [] := by
  intro e
  have := congrArg List.length e
  rw [List.length_drop] at this
  simp at this
  omega

theorem From_full (a : Option Addr) (n c : Nat) (w : World) (hn : 65536 < n) (hm : n ≤ maxLen) :
    Calls Try.prog 27 #[.slice a n c] w fun e w' => e = .returned (.tuple #[.pointer none, .int .i64 23]) ∧ w' = w := by
  unfold maxLen at hm
  have h1 : (65536 : Int) < n := by omega
  go_enter Try.func27, Try.ntmps27
  go_wp2
  go_ret2
  exact ⟨rfl, rfl⟩

set_option maxRecDepth 100000 in
set_option maxHeartbeats 4000000 in
theorem From_any (a : Option Addr) (n c : Nat) (l : List UInt8) (w : World) (hR : Rd w a n c l) (hn : n ≤ 65536) (b : Bool) (hb : (split n l).isSome = b) :
    Calls Try.prog 27 #[.slice a n c] w fun e w' => Below w.heap.size w w' ∧ (b = true → ∃ p a2 n2 c2, e = .returned (.tuple #[ptr p, .int .i64 0]) ∧ Pk w' w.heap.size p a2 n2 c2 l) ∧ (b = false → e = .returned (.tuple #[.pointer none, .int .i64 24])) := by
  have HL : Hid (l.length = n) := hR.len
  have HR : Hid (Rd w a n c l) := hR
  have HS : Hid ((split n (l.drop 0)).isSome = b) := hb
  clear hR hb
  go_enter Try.func27, Try.ntmps27
  go_wp2
  go_loopg [4] n (fun g av wr => ∃ x : Nat, av = .int .i64 x ∧ n ≤ x + g ∧ x ≤ n ∧ Hid ((split g (l.drop x)).isSome = b) ∧ Hid (Below w.heap.size w wr))
  case atStart => exact ⟨0, rfl, by omega, by omega, HS, Below.refl _ _⟩
  case round =>
    obtain ⟨x, rfl, hx1, hx2, HS, HB⟩ := hrel
    by_cases hx : (x : Int) < n
    · have hxl : x < l.length := by have := HL.out; omega
      obtain ⟨gp, hgp⟩ : ∃ gp, gk = gp + 1 := ⟨gk - 1, by omega⟩
      have HC := Decode_any a n c l x wr (HR.out.keep HB.out) (by omega)
      rw [decAt_in l x hxl] at HC
      have hsp := HS.out
      rw [hgp, split_cons _ _ (drop_ne l x hxl)] at hsp
      cases hd : dec1 (l.drop x) with
      | none =>
        rw [hd, Option.map_none, cR_none] at HC
        rw [hd] at hsp
        have HBf : Hid (b = false) := hsp.symm
        clear hsp hd hxl
        go_wp2_with fail
        refine HC.mono ?_
        rintro e w1 ⟨hb, rfl⟩
        have HB1 := step_below HB hb
        clear hb
        go_wp2
        go_ret2
        exact ⟨HB1.out, fun h => absurd (h.symm.trans HBf.out) (by decide), fun _ => rfl⟩
      | some q =>
        obtain ⟨s, k⟩ := q
        rw [hd, Option.map_some, cR_some] at HC
        rw [hd] at hsp
        dsimp only at hsp
        have hkl := (dec1_len hd).1
        have hk2 := (dec1_pos hd).1
        have hk3 := (enc_len s).1
        rw [List.length_drop] at hkl
        obtain ⟨y, hy⟩ : ∃ y, x + k = y := ⟨_, rfl⟩
        rw [hy] at HC
        have HS2 : Hid ((split gp (l.drop y)).isSome = b) := by
          show _ = _
          rw [← hsp, ← hy, List.drop_drop]
          simp only [Option.isSome_map]
        have hyn : y ≤ n := by have := HL.out; omega
        have hyg : n ≤ y + gp := by omega
        have hgpk : gk - 1 = gp := by omega
        clear hsp hd hxl hy hkl hk2 hk3
        go_wp2_with fail
        refine HC.mono ?_
        rintro e w1 ⟨hb, rfl⟩
        have HB1 := step_below HB hb
        clear hb
        go_wp2
        go_roundg gp
        case measure => omega
        case rel => exact ⟨y, rfl, hyg, hyn, HS2, HB1⟩
    · have hxe : l.drop x = [] := List.drop_eq_nil_of_le (by have := HL.out; omega)
      have HBt : Hid (b = true) := by
        have := HS.out
        rw [hxe, split_nil] at this
        exact this.symm
      have HC := Clone_any a n c l wr (HR.out.keep HB.out) (by omega)
      clear hxe
      go_wp2_with fail
      refine HC.mono ?_
      rintro e w1 ⟨hb, a3, n3, c3, rfl, hO3⟩
      have HB1 := step_below HB hb
      have HO : Hid (Own w1 w.heap.size a3 n3 c3 l) := hO3.low HB.out.size
      clear hb hO3
      go_wp2
      go_ret2
      exact ⟨HB1.out.trans ((alloc_below w1 _).mono HB1.out.size), fun _ => ⟨w1.heap.size, a3, n3, c3, rfl, heap_alloc_new w1 _, HB1.out.size, HO.out.keep (alloc_below w1 _)⟩, fun h => absurd (h.symm.trans HBt.out) (by decide)⟩

theorem str_beq (s t : ByteArray) : (s.toList == t.toList) = decide (s = t) := by
  rw [toList_beq]
theorem str_bne (s t : ByteArray) : (s.toList != t.toList) = decide (¬ s = t) := by
  simp [bne, str_beq]

set_option maxRecDepth 100000 in
set_option maxHeartbeats 4000000 in
theorem Lists_any (a a' : Option Addr) (n c c' : Nat) (ls : List ByteArray) (w : World) (h : RdS w a n ls) (h' : RdS w a' n ls) :
    Calls Try.prog 21 #[.slice a n c, .slice a' n c'] w fun e w' => Below w.heap.size w w' ∧ e = .returned (.bool true) := by
  have hn : n ≤ 9223372036854775807 := h.max
  have H1 : Hid (RdS w a n ls) := h
  have H2 : Hid (RdS w a' n ls) := h'
  clear h h'
  go_enter Try.func21, Try.ntmps21
  go_wp2
  go_loopg [5] n (fun g iv wr => ∃ i : Nat, i + g = n ∧ iv = .int .i64 i ∧ Hid (Below w.heap.size w wr))
  case atStart => exact ⟨0, by omega, rfl, Below.refl _ _⟩
  case round =>
    obtain ⟨i, hi, rfl, HB⟩ := hrel
    by_cases hin : (i : Int) < n
    · obtain ⟨b, off, ha, hc⟩ := (H1.out.keep HB.out).cell i (by omega)
      obtain ⟨b', off', ha', hc'⟩ := (H2.out.keep HB.out).cell i (by omega)
      subst ha ha'
      have hb2 := str_bne (ls.getD i ByteArray.empty) (ls.getD i ByteArray.empty)
      rw [show decide (¬ ls.getD i ByteArray.empty = ls.getD i ByteArray.empty) = false by simp] at hb2
      generalize ls.getD i ByteArray.empty = s at hc hc' hb2
      go_wp2_with fail
      go_quiet (fail)
      have HB2 : Hid (Below w.heap.size w (wr.drewN nq)) := HB.out.trans ((below_drewN wr nq).mono HB.out.size)
      generalize wr.drewN nq = W at *
      go_wp2
      go_roundg (gk - 1)
      case measure => omega
      case rel => exact ⟨i + 1, by omega, by go_num, HB2⟩
    · go_wp2
      go_ret
      exact ⟨HB.out, rfl⟩
end Go.Proofs.Ytbbklfholofajab
