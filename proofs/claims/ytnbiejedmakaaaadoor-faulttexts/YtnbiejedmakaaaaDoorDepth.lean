/-
  Depth counts the faults of a chain; Cut; known.
-/
import Derived.Test.YtnbiejedmakaaaaDoorFault
namespace Go.Proofs.YtnbiejedmakaaaaDoor
open Go.RowKit Go.Extern.Stop Go.Stop Go.Extern

/-- The root is no fault, and no fault is found in it. -/
def NoFault (R : Value) : Prop := ∀ w, Laid w → Calls Tryd.prog 30 #[R] w fun e w' => e = .returned (.tuple #[.pointer none, .bool false]) ∧ Below w.heap.size w w'
theorem noFault_code (c : Int) : NoFault (codeV c) := fun w hg => findFault_code c w hg
theorem noFault_other (x : Value) : NoFault (.iface 58 x) := fun w hg => findFault_other x w hg
theorem noFault_nil : NoFault .nilIface := fun w _ => findFault_nil w

set_option maxHeartbeats 1000000 in
theorem Depth_chain (R E : Value) (d : Nat) (w : World) (hR : NoFault R) (hg : Laid w) (hd : d ≤ 1000) (hch : Chain w R E d) :
    Calls Tryd.prog 14 #[E] w fun e w' => e = .returned (.int .i64 d) ∧ Below w.heap.size w w' := by
  have HC : Hid (Chain w R E d) := hch
  have HG : Hid (Laid w) := hg
  have hpos := lt_of_cell? hg
  clear hch hg
  go_enter Tryd.func14, Tryd.ntmps14
  go_wp2
  go_loopg [0, 3] d (fun k E' m wr => ∃ i : Nat, i + k = d ∧ m = .int .i64 i ∧ Below w.heap.size w wr ∧ Chain wr R E' k)
  case atStart => exact ⟨0, by omega, rfl, Below.refl _ _, HC.out⟩
  case round =>
    obtain ⟨i, hi, rfl, hb, hc'⟩ := hrel
    have HG' : Hid (Laid wr) := HG.out.keep hb hpos
    have HB : Hid (Below w.heap.size w wr) := hb
    clear hb
    rcases hc'.parts with ⟨rfl, rfl⟩ | ⟨b, s, E1, k, rfl, rfl, h1, h2, h3⟩
    · clear hc'
      have hid : i = d := by omega
      subst hid
      have HR := hR wr HG'.out
      have H := asFault_none R wr HR
      clear HR
      have H' : Hid (Calls Tryd.prog 31 #[R] wr fun e w' => e = .returned (.tuple #[.pointer none, .bool false]) ∧ Below wr.heap.size wr w') := H
      clear H
      go_wp2_with (go_at_call 31; refine H'.out.mono ?_; rintro e w' ⟨rfl, hb⟩)
      go_ret
      exact ⟨rfl, HB.out.trans (hb.mono HB.out.size)⟩
    · clear hc'
      have HC' : Hid (Chain wr R E1 k) := h3
      have H1 : Hid (wr.cell? ⟨b, 1, none⟩ = some E1) := h2
      have hl : b < wr.heap.size := lt_of_cell? h2
      clear h1 h2 h3
      go_wp2_with (first
        | (go_at_call 31; refine (asFault_fault ⟨b, 0, none⟩ wr HG'.out).mono ?_; rintro e w' ⟨rfl, hb⟩)
        | (go_at_call 25; refine (Unwrap_fault b E1 _ (by rw [hb.cell (p := ⟨b, 1, none⟩) hl]; exact H1.out)).mono ?_; rintro e w'' ⟨rfl, rfl⟩))
      go_roundg k
      case measure => omega
      case rel => exact ⟨i + 1, by omega, by go_num, HB.out.trans (hb.mono HB.out.size), HC'.out.keep hb (Nat.le_refl _)⟩
end Go.Proofs.YtnbiejedmakaaaaDoor
