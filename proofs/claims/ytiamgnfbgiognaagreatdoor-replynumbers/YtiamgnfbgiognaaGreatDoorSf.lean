/-
  slices.SortFunc, both; rows that were made; sortPairs.
-/
import Derived.Test.YtiamgnfbgiognaaGreatDoorSe
import Derived.Lib.BitFns
namespace Go.Proofs.YtiamgnfbgiognaaGreatDoor
open Go.RowKit Go.PlainAid

set_option maxRecDepth 100000 in
theorem bLen64_any (X : Int) (w : World) (h0 : 0 ≤ X) (hn : X ≤ 12) : Calls Tryz.prog 55 #[.int .u64 X] w fun e w' => w' = w ∧ ∃ z, e = .returned (.int .i64 z) := by
  go_enter Tryz.func55, Tryz.ntmps55
  go_wp2
  go_ret
  exact ⟨rfl, _, rfl⟩
theorem bLen_any (n : Nat) (w : World) (hn : n ≤ 12) : Calls Tryz.prog 36 #[.int .u64 n] w fun e w' => w' = w ∧ ∃ z, e = .returned (.int .i64 z) := by
  go_enter Tryz.func36, Tryz.ntmps36
  go_wp2_with fail
  refine (bLen64_any n w (by omega) (by omega)).mono ?_
  rintro e w ⟨rfl, z, rfl⟩
  go_wp2
  go_ret
  exact ⟨rfl, z, rfl⟩
/-- What a sort leaves. -/
def SrtR (d : Nat) (F : Nat → Prop) (B g n c : Nat) (ts : List RT) (w : World) (e : Ending) (w' : World) : Prop := e = .returned (.tuple #[]) ∧ Stay w w' [g] ∧ ∃ es', OwnE w' B (some ⟨g, 0, none⟩) n c es' ∧ Vls w F d es' (sortT ts)
set_option maxRecDepth 100000 in
set_option maxHeartbeats 4000000 in
theorem pdqR_any (d : Nat) (F : Nat → Prop) (B g n c : Nat) (es : List El) (ts : List RT) (z : Int) (w : World) (h : OwnE w B (some ⟨g, 0, none⟩) n c es) (hv : Vls w F d es ts) (hF : ¬ F g) (hn : n ≤ 12) :
    Calls Tryz.prog 35 #[.slice (some ⟨g, 0, none⟩) n c, .int .i64 0, .int .i64 n, .int .i64 z, .func (.func 28) #[] #[]] w (SrtR d F B g n c ts w) := by
  have HI := insR_any d F B g n c es ts w h hv hF hn
  clear h hv hF
  have h12 : (n : Int) ≤ 12 := by omega
  go_enter Tryz.func35, Tryz.ntmps35
  go_wp2
  go_loopg [1, 2] 0 (fun g av bv wr => w = wr ∧ av = .int .i64 0 ∧ bv = .int .i64 n)
  case atStart => exact ⟨rfl, rfl, rfl⟩
  case round =>
    obtain ⟨rfl, rfl, rfl⟩ := hrel
    go_wp2_with fail
    refine HI.mono ?_
    rintro e w1 ⟨rfl, hb, es', h1, h2⟩
    have HR : Hid (SrtR d F B g n c ts w (.returned (.tuple #[])) w1) := ⟨rfl, hb, es', h1, h2⟩
    clear hb h1 h2
    go_wp2
    (try simp only [Exit.inBlock, Exit.then])
    refine bodyPost_ret (results_none rfl _ _ _) rfl ?_
    exact HR.out
theorem SortR_any (d : Nat) (F : Nat → Prop) (B g n c : Nat) (es : List El) (ts : List RT) (w : World) (h : OwnE w B (some ⟨g, 0, none⟩) n c es) (hv : Vls w F d es ts) (hF : ¬ F g) (hn : n ≤ 12) :
    Calls Tryz.prog 27 #[.slice (some ⟨g, 0, none⟩) n c, .func (.func 28) #[] #[]] w (SrtR d F B g n c ts w) := by
  have HP := fun z => pdqR_any d F B g n c es ts z w h hv hF hn
  have HL := bLen_any n w hn
  clear h hv hF
  go_enter Tryz.func27, Tryz.ntmps27
  go_wp2_with fail
  refine HL.mono ?_
  rintro e w ⟨rfl, z, rfl⟩
  have HPz := HP z
  go_wp2_with fail
  refine HPz.mono ?_
  rintro e w1 ⟨rfl, hb, es', h1, h2⟩
  have HR : Hid (SrtR d F B g n c ts w (.returned (.tuple #[])) w1) := ⟨rfl, hb, es', h1, h2⟩
  clear hb h1 h2
  go_wp2
  go_end0
  exact HR.out
/-- What a sort leaves. -/
def SrtP (d : Nat) (F : Nat → Prop) (B g n c : Nat) (ts : List (RT × RT)) (w : World) (e : Ending) (w' : World) : Prop := e = .returned (.tuple #[]) ∧ Stay w w' [g] ∧ ∃ es', OwnP w' B (some ⟨g, 0, none⟩) n c es' ∧ Vps w F d es' (sortP ts)
set_option maxRecDepth 100000 in
set_option maxHeartbeats 4000000 in
theorem pdqP_any (d : Nat) (F : Nat → Prop) (B g n c : Nat) (es : List PE) (ts : List (RT × RT)) (z : Int) (w : World) (h : OwnP w B (some ⟨g, 0, none⟩) n c es) (hv : Vps w F d es ts) (hF : ¬ F g) (hn : n ≤ 12) :
    Calls Tryz.prog 59 #[.slice (some ⟨g, 0, none⟩) n c, .int .i64 0, .int .i64 n, .int .i64 z, .func (.func 43) #[] #[]] w (SrtP d F B g n c ts w) := by
  have HI := insP_any d F B g n c es ts w h hv hF hn
  clear h hv hF
  have h12 : (n : Int) ≤ 12 := by omega
  go_enter Tryz.func59, Tryz.ntmps59
  go_wp2
  go_loopg [1, 2] 0 (fun g av bv wr => w = wr ∧ av = .int .i64 0 ∧ bv = .int .i64 n)
  case atStart => exact ⟨rfl, rfl, rfl⟩
  case round =>
    obtain ⟨rfl, rfl, rfl⟩ := hrel
    go_wp2_with fail
    refine HI.mono ?_
    rintro e w1 ⟨rfl, hb, es', h1, h2⟩
    have HR : Hid (SrtP d F B g n c ts w (.returned (.tuple #[])) w1) := ⟨rfl, hb, es', h1, h2⟩
    clear hb h1 h2
    go_wp2
    (try simp only [Exit.inBlock, Exit.then])
    refine bodyPost_ret (results_none rfl _ _ _) rfl ?_
    exact HR.out
theorem SortP_any (d : Nat) (F : Nat → Prop) (B g n c : Nat) (es : List PE) (ts : List (RT × RT)) (w : World) (h : OwnP w B (some ⟨g, 0, none⟩) n c es) (hv : Vps w F d es ts) (hF : ¬ F g) (hn : n ≤ 12) :
    Calls Tryz.prog 42 #[.slice (some ⟨g, 0, none⟩) n c, .func (.func 43) #[] #[]] w (SrtP d F B g n c ts w) := by
  have HP := fun z => pdqP_any d F B g n c es ts z w h hv hF hn
  have HL := bLen_any n w hn
  clear h hv hF
  go_enter Tryz.func42, Tryz.ntmps42
  go_wp2_with fail
  refine HL.mono ?_
  rintro e w ⟨rfl, z, rfl⟩
  have HPz := HP z
  go_wp2_with fail
  refine HPz.mono ?_
  rintro e w1 ⟨rfl, hb, es', h1, h2⟩
  have HR : Hid (SrtP d F B g n c ts w (.returned (.tuple #[])) w1) := ⟨rfl, hb, es', h1, h2⟩
  clear hb h1 h2
  go_wp2
  go_end0
  exact HR.out
/-- Rows that were made. -/
theorem made_r (n : Nat) (hn : n ≤ 12) : madeCells #[.int .i64 0, .string ⟨#[]⟩, .int .i64 0, .slice none 0 0] (n * 4) = (rcells (List.replicate n El.z)).toArray := by
  obtain rfl | rfl | rfl | rfl | rfl | rfl | rfl | rfl | rfl | rfl | rfl | rfl | rfl : n = 0 ∨ n = 1 ∨ n = 2 ∨ n = 3 ∨ n = 4 ∨ n = 5 ∨ n = 6 ∨ n = 7 ∨ n = 8 ∨ n = 9 ∨ n = 10 ∨ n = 11 ∨ n = 12 := by omega
  all_goals kernel_rfl
theorem make_R (w : World) (n : Nat) (hn : n ≤ 12) :
    (Instr.makeSlice 22 (.int .i64 (n : Int)) (.int .i64 (n : Int))).run Tryz.prog w = .ok (.slice (some ⟨w.heap.size, 0, none⟩) n n) (w.alloc (.cells (rcells (List.replicate n El.z)).toArray 24)) := by
  obtain ⟨i, h1, h2, h3, h4⟩ := info_parts Tryz.infoRR
  have := run_make (P := Tryz.prog) w 22 24 i _ Tryz.underlying22 h1 h2 .i64 .i64 n n (by omega) (Int.le_refl _) (by rw [h4]; omega) (by omega)
  rw [h3, Int.toNat_natCast] at this
  rw [this, ← made_r n hn]
  rfl
theorem OwnE.made (w : World) (es : List El) (B n : Nat) (hn : es.length = n) (hB : B ≤ w.heap.size) (hm : n ≤ 12) : OwnE (w.alloc (.cells (rcells es).toArray 24)) B (some ⟨w.heap.size, 0, none⟩) n n es := by
  refine ⟨by rw [rcells_len, hn], .inr ⟨w.heap.size, n, (rcells es).toArray, rfl, hB, heap_alloc_new w _, Nat.le_refl _, by unfold maxLen; omega, by simp [rcells_len, hn], ?_⟩⟩
  rw [List.take_of_length_le (by simp [rcells_len, hn])]
def PE.z : PE := (El.z, El.z)
theorem made_p (n : Nat) (hn : n ≤ 12) : madeCells #[.int .i64 0, .string ⟨#[]⟩, .int .i64 0, .slice none 0 0, .int .i64 0, .string ⟨#[]⟩, .int .i64 0, .slice none 0 0] (n * 8) = (qcells (List.replicate n PE.z)).toArray := by
  obtain rfl | rfl | rfl | rfl | rfl | rfl | rfl | rfl | rfl | rfl | rfl | rfl | rfl : n = 0 ∨ n = 1 ∨ n = 2 ∨ n = 3 ∨ n = 4 ∨ n = 5 ∨ n = 6 ∨ n = 7 ∨ n = 8 ∨ n = 9 ∨ n = 10 ∨ n = 11 ∨ n = 12 := by omega
  all_goals kernel_rfl
theorem Tryz.infoPP : (Tryz.prog.info? 66).map (fun i => (i.zero, i.size, i.bytes)) = some (some (.agg #[.int .i64 0, .string ⟨#[]⟩, .int .i64 0, .slice none 0 0, .int .i64 0, .string ⟨#[]⟩, .int .i64 0, .slice none 0 0]), 8, 112) := by kernel_rfl
theorem make_P (w : World) (n : Nat) (hn : n ≤ 12) :
    (Instr.makeSlice 64 (.int .i64 (n : Int)) (.int .i64 (n : Int))).run Tryz.prog w = .ok (.slice (some ⟨w.heap.size, 0, none⟩) n n) (w.alloc (.cells (qcells (List.replicate n PE.z)).toArray 66)) := by
  obtain ⟨i, h1, h2, h3, h4⟩ := info_parts Tryz.infoPP
  have := run_make (P := Tryz.prog) w 64 66 i _ Tryz.underlying64 h1 h2 .i64 .i64 n n (by omega) (Int.le_refl _) (by rw [h4]; omega) (by omega)
  rw [h3, Int.toNat_natCast] at this
  rw [this, ← made_p n hn]
  rfl
theorem OwnP.made (w : World) (es : List PE) (B n : Nat) (hn : es.length = n) (hB : B ≤ w.heap.size) (hm : n ≤ 12) : OwnP (w.alloc (.cells (qcells es).toArray 66)) B (some ⟨w.heap.size, 0, none⟩) n n es := by
  refine ⟨by rw [qcells_len, hn], .inr ⟨w.heap.size, n, (qcells es).toArray, rfl, hB, heap_alloc_new w _, Nat.le_refl _, by unfold maxLen; omega, by simp [qcells_len, hn], ?_⟩⟩
  rw [List.take_of_length_le (by simp [qcells_len, hn])]
end Go.Proofs.YtiamgnfbgiognaaGreatDoor
