/-
  What a nil value tells; Is of another Kind; texts of zero bytes.
-/
import Derived.Test.YtikimcbalkhooaaGreatDoorG7
import Derived.Test.YtikimcbalkhooaaGreatDoorG8
namespace Go.Proofs.YtikimcbalkhooaaGreatDoor
open Go.RowKit Go.PlainAid

theorem Empty_nil (w : World) : Calls Tryz.prog 5 #[.pointer none] w fun e w' => e = .returned (.bool true) ∧ w' = w := by
  go_enter Tryz.func5, Tryz.ntmps5
  go_wp2_with fail
  refine (kind_nil w).mono ?_
  rintro e w ⟨rfl, rfl⟩
  go_wp2_with fail
  refine (LenV_nil _).mono ?_
  rintro e w ⟨rfl, rfl⟩
  go_wp2
  go_ret
  exact ⟨rfl, rfl⟩
theorem Copy_nil (w : World) : Calls Tryz.prog 6 #[.pointer none] w fun e w' => e = .returned (.pointer none) ∧ w' = w := by
  go_enter Tryz.func6, Tryz.ntmps6
  go_wp2_with fail
  refine (kind_nil w).mono ?_
  rintro e w ⟨rfl, rfl⟩
  go_wp2
  go_ret
  exact ⟨rfl, rfl⟩
theorem Encoding_nil (w : World) : Calls Tryz.prog 8 #[.pointer none] w fun e w' => e = .returned (.string ⟨#[]⟩) ∧ w' = w := by
  go_enter Tryz.func8, Tryz.ntmps8
  go_wp2_with fail
  refine (kind_nil w).mono ?_
  rintro e w ⟨rfl, rfl⟩
  go_wp2
  go_ret
  exact ⟨rfl, rfl⟩
theorem Type_nil (w : World) : Calls Tryz.prog 9 #[.pointer none] w fun e w' => e = .returned (.string ⟨#[110, 111, 110, 101]⟩) ∧ w' = w := by
  go_enter Tryz.func9, Tryz.ntmps9
  go_wp2_with fail
  refine (kind_nil w).mono ?_
  rintro e w ⟨rfl, rfl⟩
  go_wp2
  go_ret
  exact ⟨rfl, rfl⟩
theorem Is_nil (w : World) (k : Int) : Calls Tryz.prog 7 #[.pointer none, .int .i64 k] w fun e w' => e = .returned .nilIface ∧ w' = w := by
  go_enter Tryz.func7, Tryz.ntmps7
  go_wp2
  go_ret
  exact ⟨rfl, rfl⟩
theorem Is_other (w : World) (B v : Nat) (d : VD) (one : Bool) (F : List Nat) (h : PV w B v d one F) (j : Int) (hj : j ≠ (d.kind : Nat)) :
    Calls Tryz.prog 7 #[ptr v, .int .i64 j] w fun e w' => e = .returned (newE w) ∧ w' = newW w ⟨#[]⟩ (codeV 4) := by
  have HK := kind_any w B v d one F h
  clear h
  generalize d.kind = k at HK hj ⊢
  have hn : ((k : Int) == j) = false := by simp; omega
  clear hj
  go_enter Tryz.func7, Tryz.ntmps7
  go_wp2_with fail
  refine HK.mono ?_
  rintro e w ⟨rfl, rfl⟩
  go_wp2_with fail
  refine (New_err _ 4 (by decide) _).mono ?_
  rintro e w1 ⟨rfl, rfl⟩
  go_wp2
  go_ret
  exact ⟨rfl, rfl⟩
theorem Code_other (w : World) (hg : Laid w) : Calls Tryz.prog 13 #[newE w] (newW w ⟨#[]⟩ (codeV 4)) fun e w' => e = .returned (.int .i64 4) ∧ Below w.heap.size w w' :=
  (Code_code (newE w) 4 1 (newW w ⟨#[]⟩ (codeV 4)) (hg.keep (newW_below _ _ _) (lt_of_cell? hg)) (Chain.leaf.new _)).mono fun _ _ ⟨h1, h2⟩ => ⟨h1, (newW_below _ _ _).trans (h2.mono (newW_below _ _ _).size)⟩
theorem Cmd_other (w : World) (hg : Laid w) : Calls Tryz.prog 14 #[newE w] (newW w ⟨#[]⟩ (codeV 4)) fun e w' => e = .returned (.string ⟨#[]⟩) ∧ Below w.heap.size w w' :=
  (Cmd_fault w.heap.size ⟨#[]⟩ (newW w ⟨#[]⟩ (codeV 4)) (hg.keep (newW_below _ _ _) (lt_of_cell? hg)) (by simp)).mono fun _ _ ⟨h1, h2⟩ => ⟨h1, (newW_below _ _ _).trans (h2.mono (newW_below _ _ _).size)⟩

theorem made_list (n : Nat) : madeCells #[.int .u8 0] n = (List.replicate n (Value.int .u8 0)).toArray := by
  apply Array.ext
  · simp [madeCells]
  · intro i h1 h2
    simp [madeCells, Nat.mod_one]
def zs (n : Nat) : ByteArray := bs (List.replicate n 0)
theorem zs_size (n : Nat) : (zs n).size = n := by
  rw [← len_lst, zs, lst_bs, List.length_replicate]
theorem Own.zeros (w : World) (B n : Nat) (hB : B ≤ w.heap.size) (hm : n ≤ maxLen) : Own (w.alloc (.cells (madeCells #[.int .u8 0] n) 5)) B (some ⟨w.heap.size, 0, none⟩) n n (List.replicate n 0) := by
  have := Own.made w (List.replicate n 0) B n (List.length_replicate ..) hB hm
  rw [show cells (List.replicate n 0) = List.replicate n (.int .u8 0) by rw [cells, List.map_replicate]; rfl, ← made_list] at this
  exact this
theorem make_zs (wx : World) (n : Nat) (hn : n ≤ 5000) : (Instr.makeSlice 31 (.int .i64 n) (.int .i64 n)).run Tryz.prog wx = .ok (.slice (some ⟨wx.heap.size, 0, none⟩) n n) (wx.alloc (.cells (madeCells #[.int .u8 0] n) 5)) ∧ (convert 31 9 (.slice (some ⟨wx.heap.size, 0, none⟩) n n)).run Tryz.prog (wx.alloc (.cells (madeCells #[.int .u8 0] n) 5)) = .ok (.string (zs n)) (wx.alloc (.cells (madeCells #[.int .u8 0] n) 5)) :=
  ⟨by simpa using run_make_row' (P := Tryz.prog) (w := wx) 31 5 (.int .u8 0) 1 Tryz.underlying31 Tryz.info5 rfl .i64 .i64 n (by omega) (by omega), (Own.zeros wx 0 n (Nat.zero_le _) (by unfold maxLen; omega)).rd.text⟩
end Go.Proofs.YtikimcbalkhooaaGreatDoor
