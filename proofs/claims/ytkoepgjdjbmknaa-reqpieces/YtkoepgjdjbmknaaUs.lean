/-
  A bulk, read.
-/
import Derived.Test.YtkoepgjdjbmknaaUr
namespace Go.Proofs.Ytkoepgjdjbmknaa
open Go.RowKit Go.PlainAid

/-- What bulk leaves. -/
def BulkR (w' : World) (p : Nat) (o : Rs (List UInt8)) (e : Ending) : Prop :=
  match o with
  | some (some (x, r)) => ∃ a n c, e = .returned (.tuple #[.string (bs x), .bool true]) ∧ Rdr w' p a n c r false
  | none => ∃ a n c r, e = .returned (.tuple #[.string ⟨#[]⟩, .bool false]) ∧ Rdr w' p a n c r false
  | some none => ∃ a n c r, e = .returned (.tuple #[.string ⟨#[]⟩, .bool false]) ∧ Rdr w' p a n c r true

theorem numR_range {sign : UInt8} {lo hi k : Int} {l r : List UInt8} (h : numR sign lo hi l = .yes k r) : lo ≤ k ∧ k ≤ hi := by
  cases l with
  | nil => cases h
  | cons b t =>
    rw [numR] at h
    split at h
    · split at h
      · split at h
        · split at h
          · cases h
          · cases h; omega
        · cases h
      · cases h
      · cases h
    · cases h

theorem bulk_part (p : Nat) (a : Option Addr) (n c : Nat) (l : List UInt8) (w : World) (hg : GL w) (h : Rdr w p a n c l false) (hn : numR 36 0 65536 l = .part) :
    Calls Try.prog 50 #[.pointer (some ⟨p, 0, none⟩)] w fun e w' => Hid (Stay w w' [p]) ∧ BulkR w' p .part e := by
  have HN := number_any 36 36 0 65536 rfl p a n c l w hg h
  rw [hn] at HN
  clear h hg hn
  go_enter Try.func50, Try.ntmps50
  go_wp2_with (go_at_call 49; refine HN.mono ?_; rintro e w2 ⟨HS2, a2, n2, c2, r2, rfl, hR2⟩; have HR2 : Hid (Rdr w2 p a2 n2 c2 r2 false) := hR2; clear hR2)
  go_ret2
  exact ⟨HS2, _, _, _, _, rfl, HR2.out⟩
theorem bulk_wrong (p : Nat) (a : Option Addr) (n c : Nat) (l : List UInt8) (w : World) (hg : GL w) (h : Rdr w p a n c l false) (hn : numR 36 0 65536 l = .wrong) :
    Calls Try.prog 50 #[.pointer (some ⟨p, 0, none⟩)] w fun e w' => Hid (Stay w w' [p]) ∧ BulkR w' p .wrong e := by
  have HN := number_any 36 36 0 65536 rfl p a n c l w hg h
  rw [hn] at HN
  clear h hg hn
  go_enter Try.func50, Try.ntmps50
  go_wp2_with (go_at_call 49; refine HN.mono ?_; rintro e w2 ⟨HS2, a2, n2, c2, r2, rfl, hR2⟩; have HR2 : Hid (Rdr w2 p a2 n2 c2 r2 true) := hR2; clear hR2)
  go_ret2
  exact ⟨HS2, _, _, _, _, rfl, HR2.out⟩
theorem bulk_short (p : Nat) (a : Option Addr) (n c : Nat) (l : List UInt8) (w : World) (hg : GL w) (h : Rdr w p a n c l false) (K : Nat) (r : List UInt8) (hK : K ≤ 65536) (hn : numR 36 0 65536 l = .yes (K : Int) r) (hr : r.length < K + 2) :
    Calls Try.prog 50 #[.pointer (some ⟨p, 0, none⟩)] w fun e w' => Hid (Stay w w' [p]) ∧ BulkR w' p .part e := by
  have HN := number_any 36 36 0 65536 rfl p a n c l w hg h
  rw [hn] at HN
  have HL : Hid (r.length < K + 2) := hr
  clear h hg hn hr
  go_enter Try.func50, Try.ntmps50
  go_wp2_with (go_at_call 49; refine HN.mono ?_; rintro e w2 ⟨HS2, a2, n2, c2, rfl, hR2⟩; have hlt : (n2 : Int) < (K : Int) + 2 := (by have h1 := hR2.rd.len; have h2 := HL.out; omega); have c20 := hR2.cell0; have HR2 : Hid (Rdr w2 p a2 n2 c2 r false) := hR2; clear hR2)
  go_ret2
  exact ⟨HS2, _, _, _, _, rfl, HR2.out⟩
set_option maxRecDepth 100000 in
theorem bulk_bad (p : Nat) (a : Option Addr) (n c : Nat) (l : List UInt8) (w : World) (hg : GL w) (h : Rdr w p a n c l false) (K : Nat) (r : List UInt8) (hK : K ≤ 65536) (hn : numR 36 0 65536 l = .yes (K : Int) r) (hr : ¬ r.length < K + 2) (he : ¬ (r.drop K).take 2 = [13, 10]) :
    Calls Try.prog 50 #[.pointer (some ⟨p, 0, none⟩)] w fun e w' => Hid (Stay w w' [p]) ∧ BulkR w' p .wrong e := by
  have HN := number_any 36 36 0 65536 rfl p a n c l w hg h
  rw [hn] at HN
  have HL : Hid (¬ r.length < K + 2) := hr
  obtain ⟨T, hT⟩ : ∃ T, bs ((r.drop K).take 2) = T := ⟨_, rfl⟩
  have hne : (T.toList == [13, 10]) = false := by
    rw [← hT, ByteArray.toList_eq]
    exact beq_eq_false_iff_ne.2 he
  clear h hg hn hr he
  go_enter Try.func50, Try.ntmps50
  go_wp2_with (first
    | (go_at_call 49; refine HN.mono ?_; rintro e w2 ⟨HS2, a2, n2, c2, rfl, hR2⟩; have hlt : ¬ (n2 : Int) < (K : Int) + 2 := (by have h1 := hR2.rd.len; have h2 := HL.out; omega); have c20 := hR2.cell0; obtain ⟨a3, c3, hs3, hR3⟩ := hR2.rd.slice_lh K (K + 2) (by omega) (by omega); rw [show ((K + 2 : Nat) : Int) = (K : Int) + 2 by omega] at hs3; rw [Nat.add_sub_cancel_left] at hs3 hR3; have hT3 := hR3.text; rw [hT] at hT3; have HRF := refuse_any p a2 n2 c2 r false w2 hR2; clear hR2 hR3)
    | (go_at_call 48; refine HRF.mono ?_; rintro e w4 ⟨rfl, HS4, HR4⟩))
  go_ret2
  exact ⟨stay_step HS2 HS4, _, _, _, _, rfl, HR4.out⟩
set_option maxRecDepth 100000 in
theorem bulk_yes (p : Nat) (a : Option Addr) (n c : Nat) (l : List UInt8) (w : World) (hg : GL w) (h : Rdr w p a n c l false) (K : Nat) (r : List UInt8) (hK : K ≤ 65536) (hn : numR 36 0 65536 l = .yes (K : Int) r) (hr : ¬ r.length < K + 2) (he : (r.drop K).take 2 = [13, 10]) :
    Calls Try.prog 50 #[.pointer (some ⟨p, 0, none⟩)] w fun e w' => Hid (Stay w w' [p]) ∧ BulkR w' p (.yes (r.take K) (r.drop (K + 2))) e := by
  have HN := number_any 36 36 0 65536 rfl p a n c l w hg h
  rw [hn] at HN
  have HL : Hid (¬ r.length < K + 2) := hr
  obtain ⟨T, hT⟩ : ∃ T, bs ((r.drop K).take 2) = T := ⟨_, rfl⟩
  have hne : (T.toList == [13, 10]) = true := by
    rw [← hT, he, ByteArray.toList_eq]; rfl
  clear h hg hn hr he
  go_enter Try.func50, Try.ntmps50
  go_wp2_with (go_at_call 49; refine HN.mono ?_; rintro e w2 ⟨HS2, a2, n2, c2, rfl, hR2⟩; have hlt : ¬ (n2 : Int) < (K : Int) + 2 := (by have h1 := hR2.rd.len; have h2 := HL.out; omega); have c20 := hR2.cell0; have f20 := hR2.free 0; obtain ⟨a3, c3, hs3, hR3⟩ := hR2.rd.slice_lh K (K + 2) (by omega) (by omega); rw [show ((K + 2 : Nat) : Int) = (K : Int) + 2 by omega] at hs3; rw [Nat.add_sub_cancel_left] at hs3 hR3; have hT3 := hR3.text; rw [hT] at hT3; obtain ⟨a4, c4, hs4, hR4⟩ := hR2.rd.slice_h K (by omega); have hT4 := hR4.text; obtain ⟨a5, c5, hs5, hR5, hL5⟩ := hR2.slice_l (K + 2) (by omega); rw [show ((K + 2 : Nat) : Int) = (K : Int) + 2 by omega] at hs5; have HR5 : Hid (Rdr (w2.setCell ⟨p, 0, none⟩ (.slice a5 (n2 - (K + 2)) c5)) p a5 (n2 - (K + 2)) c5 (r.drop (K + 2)) false) := hR2.set0 hR5 hL5; clear hR2 hR3 hR4 hR5 hL5)
  go_ret2
  exact ⟨stay_step HS2 Stay.set, _, _, _, rfl, HR5.out⟩

theorem bulk_any (p : Nat) (a : Option Addr) (n c : Nat) (l : List UInt8) (w : World) (hg : GL w) (h : Rdr w p a n c l false) :
    Calls Try.prog 50 #[.pointer (some ⟨p, 0, none⟩)] w fun e w' => Hid (Stay w w' [p]) ∧ BulkR w' p (bulkR l) e := by
  unfold bulkR
  cases hn : numR 36 0 65536 l using Rs.elim with
  | part => exact bulk_part p a n c l w hg h hn
  | wrong => exact bulk_wrong p a n c l w hg h hn
  | yes k r =>
    have hk := numR_range hn
    obtain ⟨K, rfl⟩ : ∃ K : Nat, k = (K : Int) := ⟨k.toNat, by omega⟩
    show Calls _ _ _ _ fun e w' => _ ∧ BulkR w' p (if r.length < K + 2 then .part else if (r.drop K).take 2 = [13, 10] then .yes (r.take K) (r.drop (K + 2)) else .wrong) e
    by_cases h1 : r.length < K + 2
    · rw [if_pos h1]; exact bulk_short p a n c l w hg h K r (by omega) hn h1
    · rw [if_neg h1]
      by_cases h2 : (r.drop K).take 2 = [13, 10]
      · rw [if_pos h2]; exact bulk_yes p a n c l w hg h K r (by omega) hn h1 h2
      · rw [if_neg h2]; exact bulk_bad p a n c l w hg h K r (by omega) hn h1 h2
end Go.Proofs.Ytkoepgjdjbmknaa
