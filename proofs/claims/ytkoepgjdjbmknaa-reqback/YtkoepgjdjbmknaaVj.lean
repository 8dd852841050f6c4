/-
  The law's own helper: known.
-/
import Derived.Test.YtkoepgjdjbmknaaVi
import Derived.KernelRfl
namespace Go.Proofs.Ytkoepgjdjbmknaa
open Go.RowKit Go.PlainAid

/-- Bytes that a constant was converted to. -/
theorem Rd.marks (w : World) (l : List UInt8) (vs : Array Value) (n i j : Nat) (hv : vs = (cells l).toArray) (hn : l.length = n) (hm : n ≤ maxLen) : Rd (w.alloc (.cells vs 5 (i, j))) (some ⟨w.heap.size, 0, none⟩) n n l := by
  subst hv
  refine ⟨hn, Nat.le_refl _, hm, (fun e => (by cases e)), fun k hk => ⟨w.heap.size, 0, rfl, ?_⟩⟩
  rw [Nat.zero_add, World.cell?_alloc_mark]
  simp only [cells, List.getElem?_toArray, List.getElem?_map, List.getD_eq_getElem?_getD]
  rw [List.getElem?_eq_getElem (by omega)]; rfl
theorem OwnS.one (w : World) (s : ByteArray) (B : Nat) (hB : B ≤ w.heap.size) : OwnS (w.alloc (.cells #[.string s] 9)) B (some ⟨w.heap.size, 0, none⟩) 1 1 [s] := by
  refine ⟨rfl, .inr ⟨w.heap.size, 1, #[.string s], rfl, hB, heap_alloc_new w _, Nat.le_refl _, by decide, rfl, rfl⟩⟩

theorem allL_ping : allL [80, 73, 78, 71, 13, 10] = ([[[80, 73, 78, 71]]], [], false) := by decide +kernel
theorem reqR_x : reqR [42, 120, 13, 10] = .wrong := by kernel_rfl

set_option maxRecDepth 100000 in
theorem known_any (w : World) (hg : GL w) : Calls Try.prog 13 #[] w fun e w' => e = .returned (.bool true) ∧ Below w.heap.size w w' := by
  have kc := fun (w : World) (C : Array Value) (n c : Nat) => Lib.run_convert_bytes_const (P := Try.prog) w 24 5 C n c Try.underlying24 Try.underlying5
  have hR1 := Rd.marks w [80, 73, 78, 71, 13, 10] #[.int .u8 80, .int .u8 73, .int .u8 78, .int .u8 71, .int .u8 13, .int .u8 10] 6 6 7 rfl rfl (by decide)
  have hb1 := alloc_below w (.cells #[.int .u8 80, .int .u8 73, .int .u8 78, .int .u8 71, .int .u8 13, .int .u8 10] 5 (6, 7))
  have HA := All_any _ 6 6 _ _ (hg.keep hb1) hR1 (by omega)
  rw [allL_ping] at HA
  have HB1 : Hid (Below w.heap.size w (w.alloc (.cells #[.int .u8 80, .int .u8 73, .int .u8 78, .int .u8 71, .int .u8 13, .int .u8 10] 5 (6, 7)))) := hb1
  have HG : Hid (GL w) := hg
  have HA2 : Calls Try.prog 17 #[.slice (some ⟨w.heap.size, 0, none⟩) 6 6] (w.alloc (.cells #[.int .u8 80, .int .u8 73, .int .u8 78, .int .u8 71, .int .u8 13, .int .u8 10] 5 (6, 7))) fun e w' => Below (w.heap.size + 1) (w.alloc (.cells #[.int .u8 80, .int .u8 73, .int .u8 78, .int .u8 71, .int .u8 13, .int .u8 10] 5 (6, 7))) w' ∧ ∃ a n c T, e = .returned (.tuple #[.slice a n c, .int .i64 6, .int .i64 0]) ∧ OwnSS w' (w.heap.size + 1) a n c [[bs [80, 73, 78, 71]]] T := by
    have hs : (w.alloc (.cells #[.int .u8 80, .int .u8 73, .int .u8 78, .int .u8 71, .int .u8 13, .int .u8 10] 5 (6, 7))).heap.size = w.heap.size + 1 := by simp
    rw [hs] at HA
    refine HA.mono fun e w' ⟨h1, a, n, c, T, h2, h3⟩ => ⟨h1, a, n, c, T, h2, ?_⟩
    rw [hs] at h3
    exact h3
  clear hR1 hb1 HA hg
  go_enter Try.func13, Try.ntmps13
  go_wp2_with (first
    | (go_at_call 17; refine HA2.mono ?_; rintro e w2 ⟨hB2, a2, n2, c2, T2, rfl, hO2⟩; have HB2 : Hid (Below w.heap.size w w2) := HB1.out.trans (hB2.mono (by omega)); have hn2 : n2 = 1 := (by rw [← hO2.count]; rfl); subst hn2; have HO2 : Hid (OwnSS w2 (w.heap.size + 1) a2 1 c2 [[bs [80, 73, 78, 71]]] T2) := hO2; have HN2 := Next_any _ 4 4 _ _ ((HG.out.keep HB2.out).keep (alloc_below w2 (.cells #[.int .u8 42, .int .u8 120, .int .u8 13, .int .u8 10] 5 (4, 5)))) (Rd.marks w2 [42, 120, 13, 10] #[.int .u8 42, .int .u8 120, .int .u8 13, .int .u8 10] 4 4 5 rfl rfl (by decide)) (by omega); rw [reqR_x] at HN2; clear hB2 hO2)
    | (go_at_call 21; refine HN2.mono ?_; rintro e w3 ⟨hB3, hQ⟩; have hQ2 : e = _ := hQ; subst hQ2; clear hQ; have hB3' : Below w2.heap.size w2 w3 := (alloc_below w2 _).trans (hB3.mono (alloc_below w2 _).size); have HB3 : Hid (Below w.heap.size w w3) := HB2.out.trans (hB3'.mono HB2.out.size); have hO3 := HO2.out.keep hB3'; obtain ⟨g, b1, m1, d1, rfl, hc1, hr1⟩ := hO3.cell 0 (by omega); have hc2 : ∀ o, (w3.alloc o).cell? ⟨g, 0, none⟩ = some (.slice b1 m1 d1) := (fun o => by rw [(alloc_below w3 o).cell (p := ⟨g, 0, none⟩) (World.block_lt_of_cell? _ _ hc1)]; exact hc1); have HL3 := Lists_same (B' := 0) (hr1.keep (alloc_below w3 (.cells #[.string ⟨#[80, 73, 78, 71]⟩] 9))) (OwnS.one w3 (bs [80, 73, 78, 71]) 0 (Nat.zero_le _)); clear hB3 hB3' hO3)
    | (go_at_call 18; refine HL3.mono ?_; rintro e w4 ⟨rfl, q, hw4⟩; have HB4 : Hid (Below w.heap.size w w4) := (by rw [hw4]; exact (HB3.out.trans ((alloc_below w3 _).mono HB3.out.size)).trans ((below_drewN _ _).mono (Nat.le_trans HB3.out.size (alloc_below w3 _).size))); clear hw4))
  go_ret
  exact ⟨rfl, HB4.out⟩
end Go.Proofs.Ytkoepgjdjbmknaa
