/-
  The first request of a row of bytes.
-/
import Derived.Test.YtkoepgjdjbmknaaUv
namespace Go.Proofs.Ytkoepgjdjbmknaa
open Go.RowKit Go.PlainAid

theorem ReqR.shape {w w' : World} {p : Nat} {o : Rs (List (List UInt8))} {e : Ending} (h : ReqR w w' p o e) : ∃ u v, e = .returned (.tuple #[u, v]) := by
  cases o using Rs.elim with
  | yes ws r => obtain ⟨_, _, _, _, _, _, rfl, _⟩ := h; exact ⟨_, _, rfl⟩
  | part => obtain ⟨_, _, _, _, rfl, _⟩ := h; exact ⟨_, _, rfl⟩
  | wrong => obtain ⟨_, _, _, _, rfl, _⟩ := h; exact ⟨_, _, rfl⟩

theorem request_nil (p : Nat) (a : Option Addr) (n c : Nat) (w : World) (hg : GL w) (h : Rdr w p a n c [] false) :
    Calls Try.prog 29 #[.pointer (some ⟨p, 0, none⟩)] w fun e w' => Hid (Stay w w' [p]) ∧ ReqR w w' p .part e := by
  have hn : n = 0 := h.rd.len.symm
  subst hn
  have HB := bulks_any p a 0 c [] w hg h
  have c0 := h.cell0
  clear h hg
  go_enter Try.func29, Try.ntmps29
  go_wp2_with (go_at_call 39; refine HB.mono ?_; rintro e w2 ⟨HS2, HQ2⟩; have HQ : Hid (ReqR w w2 p .part e) := HQ2; obtain ⟨u, v, rfl⟩ := HQ2.shape; clear HQ2)
  go_ret2
  exact ⟨HS2, HQ.out⟩
theorem request_star (p : Nat) (a : Option Addr) (n c : Nat) (r : List UInt8) (w : World) (hg : GL w) (h : Rdr w p a n c (42 :: r) false) :
    Calls Try.prog 29 #[.pointer (some ⟨p, 0, none⟩)] w fun e w' => Hid (Stay w w' [p]) ∧ ReqR w w' p (bulksR (42 :: r)) e := by
  have hn : n = r.length + 1 := h.rd.len.symm
  have HB := bulks_any p a n c (42 :: r) w hg h
  obtain ⟨q, off, rfl, hc⟩ := h.rd.cell 0 (by omega)
  have hc1 : w.cell? ⟨q, off, none⟩ = some (.int .u8 42) := hc
  have hpos : (0 : Int) < n := by omega
  have c0 := h.cell0
  clear h hg hc hn
  go_enter Try.func29, Try.ntmps29
  go_wp2_with (go_at_call 39; refine HB.mono ?_; rintro e w2 ⟨HS2, HQ2⟩; have HQ : Hid (ReqR w w2 p (bulksR (42 :: r)) e) := HQ2; obtain ⟨u, v, rfl⟩ := HQ2.shape; clear HQ2)
  go_ret2
  exact ⟨HS2, HQ.out⟩
theorem request_line (p : Nat) (a : Option Addr) (n c : Nat) (b : UInt8) (r : List UInt8) (w : World) (hg : GL w) (h : Rdr w p a n c (b :: r) false) (hb : ¬ b = 42) :
    Calls Try.prog 29 #[.pointer (some ⟨p, 0, none⟩)] w fun e w' => Hid (Stay w w' [p]) ∧ ReqR w w' p (inlR (b :: r)) e := by
  have hn : n = r.length + 1 := h.rd.len.symm
  have HB := inline_any p a n c (b :: r) w hg h
  obtain ⟨q, off, rfl, hc⟩ := h.rd.cell 0 (by omega)
  obtain ⟨x, hx⟩ : ∃ x : Int, (b.toNat : Int) = x := ⟨_, rfl⟩
  have hc1 : w.cell? ⟨q, off, none⟩ = some (.int .u8 x) := by rw [← hx]; exact hc
  have hpos : (0 : Int) < n := by omega
  have hxn : (x != 42) = true := by
    rw [byte_is hx 42] at hb
    simpa using hb
  have c0 := h.cell0
  clear h hg hc hn hx hb
  go_enter Try.func29, Try.ntmps29
  go_wp2_with (go_at_call 38; refine HB.mono ?_; rintro e w2 ⟨HS2, HQ2⟩; have HQ : Hid (ReqR w w2 p (inlR (b :: r)) e) := HQ2; obtain ⟨u, v, rfl⟩ := HQ2.shape; clear HQ2)
  go_ret2
  exact ⟨HS2, HQ.out⟩
theorem request_any (p : Nat) (a : Option Addr) (n c : Nat) (l : List UInt8) (w : World) (hg : GL w) (h : Rdr w p a n c l false) :
    Calls Try.prog 29 #[.pointer (some ⟨p, 0, none⟩)] w fun e w' => Hid (Stay w w' [p]) ∧ ReqR w w' p (reqR l) e := by
  cases l with
  | nil => exact request_nil p a n c w hg h
  | cons b r =>
    unfold reqR
    by_cases hb : b = 42
    · simp only [hb, if_true]
      subst hb
      exact request_star p a n c r w hg h
    · simp only [hb, if_false]
      exact request_line p a n c b r w hg h hb

/-- What Next leaves. -/
def NextR (w w' : World) (m : Nat) (o : Rs (List (List UInt8))) (e : Ending) : Prop :=
  match o with
  | some (some (ws, r)) => ∃ a n c, e = .returned (.tuple #[.slice a n c, .int .i64 ((m : Int) - r.length), .int .i64 0]) ∧ OwnS w' w.heap.size a n c (ws.map bs)
  | none => e = .returned (.tuple #[.slice none 0 0, .int .i64 0, .int .i64 0])
  | some none => e = .returned (.tuple #[.slice none 0 0, .int .i64 0, .int .i64 16])

set_option maxRecDepth 100000 in
theorem Next_any (a : Option Addr) (n c : Nat) (l : List UInt8) (w : World) (hg : GL w) (h : Rd w a n c l) (hn : n ≤ 100000000) :
    Calls Try.prog 21 #[.slice a n c] w fun e w' => Below w.heap.size w w' ∧ NextR w w' n (reqR l) e := by
  obtain ⟨w1, hw1⟩ : ∃ w1, w.alloc (.cells #[.slice a n c, .bool false] 59) = w1 := ⟨_, rfl⟩
  have hB1 : Below w.heap.size w w1 := by rw [← hw1]; exact alloc_below _ _
  have HR1 : Rdr w1 w.heap.size a n c l false := by
    refine ⟨by rw [← hw1]; exact heap_alloc_new _ _, h.keep hB1, fun h0 x hx => ?_⟩
    obtain ⟨q, off, e, hc⟩ := h.cell 0 h0
    rw [hx] at e
    cases e
    exact World.block_lt_of_cell? _ _ hc
  have HQ := request_any w.heap.size a n c l w1 (hg.keep hB1) HR1
  have HB1 : Hid (Below w.heap.size w w1) := hB1
  rw [← hw1] at HQ HB1
  clear HR1 hB1 hw1
  have hl := h.len
  cases ho : reqR l using Rs.elim with
  | part =>
    rw [ho] at HQ
    clear ho h hg hl
    go_enter Try.func21, Try.ntmps21
    go_wp2_with (go_at_call 29; refine HQ.mono ?_; rintro e w2 ⟨HS2, a2, n2, c2, r2, rfl, hR2⟩; have c20 := hR2.cell0; have c21 := hR2.cell1; have HB2 : Hid (Below w.heap.size w w2) := HB1.out.trans (HS2.out.below (by simp) HB1.out.size); clear hR2)
    go_ret3
    exact ⟨HB2.out, rfl⟩
  | wrong =>
    rw [ho] at HQ
    clear ho h hg hl
    go_enter Try.func21, Try.ntmps21
    go_wp2_with (go_at_call 29; refine HQ.mono ?_; rintro e w2 ⟨HS2, a2, n2, c2, r2, rfl, hR2⟩; have c20 := hR2.cell0; have c21 := hR2.cell1; have HB2 : Hid (Below w.heap.size w w2) := HB1.out.trans (HS2.out.below (by simp) HB1.out.size); clear hR2)
    go_ret3
    exact ⟨HB2.out, rfl⟩
  | yes ws r =>
    rw [ho] at HQ
    have hnI : (n : Int) ≤ 100000000 := by omega
    clear ho h hg hl
    go_enter Try.func21, Try.ntmps21
    go_wp2_with (go_at_call 29; refine HQ.mono ?_; rintro e w2 ⟨HS2, a2, n2, c2, a3, n3, c3, rfl, hO2, hR2⟩; have c20 := hR2.cell0; have c21 := hR2.cell1; have HB2 : Hid (Below w.heap.size w w2) := HB1.out.trans (HS2.out.below (by simp) HB1.out.size); have HL2 : Hid (r.length = n3) := hR2.rd.len; have hn3 : n3 ≤ 9223372036854775807 := (by have h1 := hR2.rd.fit; have h2 := hR2.rd.max; unfold maxLen at h2; omega); have HO2 : Hid (OwnS w2 w.heap.size a2 n2 c2 (ws.map bs)) := hO2.low (by simp); clear hR2 hO2)
    go_quiet (fail)
    go_wp2
    go_ret3
    refine ⟨HB2.out.trans ((below_drewN _ _).mono HB2.out.size), _, _, _, by rw [HL2.out]; rfl, HO2.out.keep (below_drewN _ _)⟩
end Go.Proofs.Ytkoepgjdjbmknaa
