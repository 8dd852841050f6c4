/-
  tallboylaw7.CtrlSets: a byte that is set is there, and no other one is turned; set back, the word is as it was.
-/
import Derived.Test.YtmhpaoclbkjohaaKeep
namespace Go.Proofs.Ytmhpaoclbkjohaa
open Go.RowKit Go.PlainAid

theorem get_set_eq {l : List Nat} (h : Ok l) {k : Nat} (hk : k < 8) (b : Nat) : (l.set k b).getD k 0 = b := by
  rw [List.getD_eq_getElem?_getD, List.getElem?_set_self (by rw [h.len]; exact hk)]; rfl
theorem get_set_ne (l : List Nat) {k j : Nat} (hj : j ≠ k) (b : Nat) : (l.set k b).getD j 0 = l.getD j 0 := by
  rw [List.getD_eq_getElem?_getD, List.getElem?_set_ne (Ne.symm hj), List.getD_eq_getElem?_getD]
theorem set_get {l : List Nat} (h : Ok l) {k : Nat} (hk : k < 8) (b : Nat) : (l.set k b).set k (l.getD k 0) = l := by
  rw [List.set_set, List.getD_eq_getElem?_getD, List.getElem?_eq_getElem (by rw [h.len]; exact hk)]; simp

set_option maxRecDepth 100000 in
set_option maxHeartbeats 4000000 in
theorem sets_any (n : Nat) (i : Int) (c : Nat) (w : World) (hn : n < 18446744073709551616) (hc : c < 256) :
    Calls Try.prog 5 #[.int .u64 n, .int .i64 i, .int .u8 c] w fun e w' => e = .returned (.bool true) ∧ Below w.heap.size w w' := by
  obtain ⟨l, hl, rfl⟩ := word_ex n hn
  have H0 : Hid (Below w.heap.size w w) := Below.refl _ _
  have HKn := known_any
  have HWi := fun w => Within_any i w
  have HL : Hid (Ok l) := hl
  clear hn
  go_enter Try.func5, Try.ntmps5
  go_wp2_with fail
  refine (HWi _).mono ?_
  rintro e w ⟨rfl, k, hk, rfl⟩
  have HS := fun w => Set_in hl k c hk hc w
  have HA := fun (j : Nat) (hj : j < 8) w => At_in hl j hj w
  have hO := hl.set k hc
  have HX := fun (j : Nat) (hj : j < 8) w => At_in hO j hj w
  have hb := hl.get k
  have HB := fun w => Set_in hO k (l.getD k 0) hk hb w
  rw [set_get hl hk] at HB
  have HN8 := fun w => Set_no (val l) c 8 w (by omega)
  have HN1 := fun w => Set_no (val l) c (-1) w (by omega)
  have HG1 : Hid ((l.set k c).getD k 0 = c) := get_set_eq hl hk c
  have HG2 : Hid (∀ j, j ≠ k → (l.set k c).getD j 0 = l.getD j 0) := fun j hj => get_set_ne l hj c
  have HXk := HX k hk
  rw [HG1.out] at HXk
  have HAk := HA k hk
  generalize l.getD k 0 = b at HB HAk hb
  generalize val (l.set k c) = x at HS HX HB HXk
  generalize val l = n at HS HA HB HN8 HN1 HAk ⊢
  clear HWi hl hO
  go_wp2_with fail
  refine (HS _).mono ?_
  rintro e w1 ⟨rfl, hb1⟩
  have H1 := step_below H0 hb1
  clear hb1 HS
  go_wp2
  go_loopg [10] 8 (fun q jv wr => ∃ j : Nat, j + q = 8 ∧ jv = .int .i64 j ∧ wr = w1)
  case atStart => exact ⟨0, by omega, rfl, rfl⟩
  case round =>
    obtain ⟨j, hj, rfl, rfl⟩ := hrel
    by_cases h8 : j < 8
    · have hjz : (j : Int) < 8 := by omega
      by_cases hjk : j = k
      · subst hjk
        clear HA HX HXk HAk HB HN8 HN1 HKn
        go_wp2
        go_roundg (gk - 1)
        case measure => omega
        case rel => exact ⟨j + 1, by omega, by go_num, rfl⟩
      · have HAj := HA j h8
        have HXj := HX j h8
        rw [HG2.out j hjk] at HXj
        generalize l.getD j 0 = z at HAj HXj
        have hne1 : ((j : Int) == (k : Int)) = false := by simp; omega
        have hne2 : ((j : Int) != (k : Int)) = true := by simp; omega
        clear HA HX HXk HAk HB HN8 HN1 HKn
        go_wp2_with fail
        refine (HXj _).mono ?_
        rintro e wr ⟨rfl, rfl⟩
        go_wp2_with fail
        refine (HAj _).mono ?_
        rintro e wr ⟨rfl, rfl⟩
        go_wp2
        go_roundg (gk - 1)
        case measure => omega
        case rel => exact ⟨j + 1, by omega, by go_num, rfl⟩
    · obtain rfl : j = 8 := by omega
      clear HA HX
      go_wp2_with fail
      refine (HXk _).mono ?_
      rintro e wr ⟨rfl, rfl⟩
      go_wp2_with fail
      refine (HAk _).mono ?_
      rintro e wr ⟨rfl, rfl⟩
      go_wp2_with fail
      refine (HB _).mono ?_
      rintro e w2 ⟨rfl, hb2⟩
      have H2 := step_below H1 hb2
      clear hb2
      go_wp2_with fail
      refine (HN8 _).mono ?_
      rintro e w2 ⟨rfl, rfl⟩
      go_wp2_with fail
      refine (HN1 _).mono ?_
      rintro e w2 ⟨rfl, rfl⟩
      go_wp2_with fail
      refine (HKn _).mono ?_
      rintro e w3 ⟨rfl, hb3⟩
      have H3 := step_below H2 hb3
      clear hb3
      go_wp2
      go_ret
      exact ⟨rfl, H3.out⟩
end Go.Proofs.Ytmhpaoclbkjohaa
