/-
  without, slices.Reverse at rows of texts; keep; removeFirst, removeLast, Remove.
-/
import Derived.Test.YtemiajjjhhofaacQdel2
namespace Go.Proofs.Ytemiajjjhhofaac
open Go.RowKit Go.PlainAid

set_option maxRecDepth 100000 in
set_option maxHeartbeats 400000 in
theorem without_any (C : Nat) (a : Option Addr) (n c : Nat) (ls : List ByteArray) (m : Nat) (s : ByteArray) (w : World) (hO : OwnS w C a n c ls) (hm : m ≤ 1000000) (hn : n ≤ 1000000) :
    Calls Try.prog 29 #[.slice a n c, .string s, .int .i64 (m : Nat)] w fun e w' => Cut9 w C (kp s m ls) e w' ((a.map (·.block)).toList) := by
  have hmf : ∀ (fn : Fn) (first cap : Array Value) (w : World), (Instr.makeFunc fn first cap).run Try.prog w = .ok (.func fn first cap) w := fun _ _ _ _ => rfl
  have hA1 := alloc_below w (.cells #[.string s] 9)
  have hN1 := heap_alloc_new w (.cells #[.string s] 9)
  obtain ⟨w1, hw1⟩ : ∃ w1, w.alloc (.cells #[.string s] 9) = w1 := ⟨_, rfl⟩
  rw [hw1] at hA1 hN1
  have hA2 := alloc_below w1 (.cells #[.int .i64 (m : Nat)] 3)
  have hN2 := heap_alloc_new w1 (.cells #[.int .i64 (m : Nat)] 3)
  obtain ⟨w2, hw2⟩ : ∃ w2, w1.alloc (.cells #[.int .i64 (m : Nat)] 3) = w2 := ⟨_, rfl⟩
  rw [hw2] at hA2 hN2
  have hlt1 : w.heap.size < w1.heap.size := (Array.getElem?_eq_some_iff.1 hN1).1
  have hN1' : w2.heap[w.heap.size]? = some (.cells #[.string s] 9 (0, 0)) := by rw [hA2.block _ hlt1]; exact hN1
  have hCl : Cl w2 w.heap.size w1.heap.size s m := ⟨by simp [World.cell?, hN1'], by simp [World.cell?, hN2], by simp [World.frozen?, hN2], by omega⟩
  have hB2 : Below w.heap.size w w2 := hA1.trans (hA2.mono hA1.size)
  have HD := DeleteFunc_cl C a n c ls w.heap.size w1.heap.size m s w2 (hO.keep hB2) hCl hm hn (fun x hx => by
    have h1 : x.block < w.heap.size := by
      rcases hO.2 with ⟨e, -⟩ | ⟨g, c', cur, e, h4, h5, -⟩
      · injection e with e1; rw [e1] at hx; cases hx
      · injection e with e1; rw [e1] at hx; cases hx; exact (Array.getElem?_eq_some_iff.1 h5).1
    exact ⟨by omega, by omega⟩)
  have HB2 : Hid (Below w.heap.size w w2 ∧ w.heap.size ≤ w1.heap.size) := ⟨hB2, hA1.size⟩
  clear hA1 hN1 hA2 hN2 hN1' hCl hB2 hO hlt1
  go_enter Try.func29, Try.ntmps29
  go_wp2_with fail
  refine HD.mono ?_
  rintro e w3 ⟨a', n', c', rfl, hO3, hS3⟩
  have HO3 : Hid (OwnS w3 C a' n' c' (kp s m ls)) := hO3
  have HS3 : Hid (Stay w w3 ((a.map (·.block)).toList)) := by
    refine (Stay.of_below HB2.out.1 _).trans hS3 ?_
    intro i hi
    rcases List.mem_cons.1 hi with rfl | hi
    · exact .inr HB2.out.2
    · exact .inl hi
  clear hO3 hS3 HD
  go_wp2
  go_ret
  exact ⟨_, _, _, rfl, HO3.out, HS3.out⟩

/-- Behind so many swaps. -/
def rvAt (L : List ByteArray) (n k q : Nat) : ByteArray := if q < k ∨ n - k ≤ q then txt L (n - 1 - q) else txt L q

set_option maxRecDepth 100000 in
set_option maxHeartbeats 400000 in
theorem Reverse_any (C : Nat) (a : Option Addr) (n c : Nat) (ls : List ByteArray) (w : World) (hO : OwnS w C a n c ls) (hn : n ≤ 1000000) :
    Calls Try.prog 31 #[.slice a n c] w fun e w' => e = .returned (.tuple #[]) ∧ OwnS w' C a n c ls.reverse ∧ Stay w w' ((a.map (·.block)).toList) := by
  have hL := hO.len
  by_cases h0 : n ≤ 1
  · have HR : Hid (OwnS w C a n c ls.reverse) := by
      have : ls.reverse = ls := by
        match ls, hL with
        | [], _ => rfl
        | [x], _ => rfl
        | x :: y :: r, h => simp at h; omega
      show OwnS _ _ _ _ _ _
      rw [this]; exact hO
    have hn1 : ¬ ((0 : Int) < (n : Int) - 1) := by omega
    have hw : IntKind.i64.wrap ((n : Int) - 1) = (n : Int) - 1 := by rw [IntKind.wrap_i64]; omega
    clear hO hL
    go_enter Try.func31, Try.ntmps31
    go_wp2
    go_loopg [2, 3] 0 (fun g iv jv wr => w = wr ∧ iv = .int .i64 0 ∧ jv = .int .i64 ((n : Int) - 1))
    case atStart => exact ⟨rfl, rfl, rfl⟩
    case round =>
      obtain ⟨rfl, rfl, rfl⟩ := hrel
      go_wp2
      go_end0
      exact ⟨rfl, HR.out, Stay.of_below (Below.refl _ _) _⟩
  · obtain ⟨g, rfl⟩ : ∃ g, a = some ⟨g, 0, none⟩ := by
      rcases hO.2 with ⟨h2, h3⟩ | ⟨g', c', cur, h1, -⟩
      · omega
      · injection h1 with e1; exact ⟨g', e1⟩
    obtain ⟨cur, hcur, hcl, hct, hnc, hcm, hCg⟩ := hO.bk
    have HL : Hid (ls.length = n) := hL
    have HCg : Hid (C ≤ g ∧ n ≤ c ∧ c ≤ maxLen) := ⟨hCg, hnc, hcm⟩
    have HR0 : Hid (∃ cu : List Value, BkS w g cu ∧ cu.length = c ∧ ∀ q, q < n → cu[q]? = some (.string (rvAt ls n 0 q))) := by
      refine ⟨cur, hcur, hcl, fun q hq => ?_⟩
      have hqq : cur[q]? = (ls.map Value.string)[q]? := by rw [← hct, List.getElem?_take, if_pos hq]
      rw [hqq, List.getElem?_map, rvAt, if_neg (by omega), txt, List.getD_eq_getElem?_getD, List.getElem?_eq_getElem (by omega)]; rfl
    obtain ⟨n1, hn1⟩ : ∃ n1 : Nat, (n : Int) - 1 = n1 := ⟨n - 1, by omega⟩
    clear hO hL hcur hcl hct hCg hcm
    go_enter Try.func31, Try.ntmps31
    go_wp2
    go_loopg [2, 3] n (fun gg iv jv wr => ∃ k j : Nat, k + gg = n ∧ iv = .int .i64 k ∧ jv = .int .i64 ((j : Int) - 1) ∧ j + k = n ∧ k ≤ j + 1 ∧ Hid (∃ cu : List Value, BkS wr g cu ∧ cu.length = c ∧ ∀ q, q < n → cu[q]? = some (.string (rvAt ls n k q))) ∧ Hid (Stay w wr [g]))
    case atStart => exact ⟨0, n, by omega, rfl, by rw [hn1], by omega, by omega, HR0, Stay.of_below (Below.refl _ _) _⟩
    case round =>
      obtain ⟨k, j, hkg, rfl, rfl, hjk, hkj, HR, HS⟩ := hrel
      obtain ⟨cu, hb, hcl, hcq⟩ := HR.out
      by_cases hlt : (k : Int) < (j : Int) - 1
      · obtain ⟨j1, hj1⟩ : ∃ j1 : Nat, (j : Int) - 1 = j1 := ⟨j - 1, by omega⟩
        rw [hj1] at hlt ⊢
        have hx := hcq k (by omega)
        have hy := hcq j1 (by omega)
        have hrx : rvAt ls n k k = txt ls k := by unfold rvAt; rw [if_neg (by omega)]
        have hry : rvAt ls n k j1 = txt ls j1 := by unfold rvAt; rw [if_neg (by omega)]
        rw [hrx] at hx
        rw [hry] at hy
        have hcx : wr.cell? ⟨g, k, none⟩ = some (.string (txt ls k)) := by rw [hb.cell]; exact hx
        have hcy : wr.cell? ⟨g, j1, none⟩ = some (.string (txt ls j1)) := by rw [hb.cell]; exact hy
        have hfx := hb.frozen k
        have hfy := hb.frozen j1
        have hkn : k < n := by omega
        have hjn : j1 < n := by omega
        have hkj2 : ¬ k = j1 := by omega
        have HR2 : Hid (∀ w', BkS w' g ((cu.set k (.string (txt ls j1))).set j1 (.string (txt ls k))) → ∃ cu : List Value, BkS w' g cu ∧ cu.length = c ∧ ∀ q, q < n → cu[q]? = some (.string (rvAt ls n (k + 1) q))) := fun w' hw' => by
          refine ⟨_, hw', by rw [List.length_set, List.length_set]; exact hcl, fun q hq => ?_⟩
          have hnc2 := HCg.out.2.1
          by_cases h1 : q = j1
          · subst h1
            rw [List.getElem?_set_self (by rw [List.length_set]; omega), rvAt, if_pos (by omega), show n - 1 - q = k by omega]
          · rw [List.getElem?_set_ne (by omega)]
            by_cases h2 : q = k
            · subst h2
              rw [List.getElem?_set_self (by omega), rvAt, if_pos (by omega), show n - 1 - q = j1 by omega]
            · rw [List.getElem?_set_ne (by omega), hcq q hq]
              congr 2
              unfold rvAt
              by_cases h3 : q < k ∨ n - k ≤ q
              · rw [if_pos h3, if_pos (by omega)]
              · rw [if_neg h3, if_neg (by omega)]
        have HBk : Hid (BkS wr.drew g cu) := hb
        generalize txt ls k = tx at *
        generalize txt ls j1 = ty at *
        have HW1 : Hid (BkS ((wr.drew.setCell ⟨g, k, none⟩ (.string ty)).setCell ⟨g, j1, none⟩ (.string tx)) g ((cu.set k (.string ty)).set j1 (.string tx))) := (HBk.out.set k _).set j1 _
        have HS1 : Hid (Stay w ((wr.drew.setCell ⟨g, k, none⟩ (.string ty)).setCell ⟨g, j1, none⟩ (.string tx)) [g]) := ((HS.out.trans (Stay.of_below (below_drewN wr 1) [g]) (by simp)).trans Stay.set (by simp)).trans Stay.set (by simp)
        clear hb hcl hcq hx hy hrx hry
        go_wp2_with fail
        go_region
        all_goals
          go_wp2
          go_roundg (gk - 1)
          case measure => omega
          case rel => exact ⟨k + 1, j1, by omega, by go_num, by go_num, by omega, by omega, HR2.out _ HW1.out, HS1⟩
      · have hle : ¬ ((k : Int) < (j : Int) - 1) := hlt
        have HE : Hid (OwnS wr C (some ⟨g, 0, none⟩) n c ls.reverse) := by
          refine OwnS.of_bk HCg.out.1 hb HCg.out.2.1 HCg.out.2.2 hcl ?_
          apply List.ext_getElem?
          intro q
          have hll := HL.out
          by_cases hq : q < n
          · rw [List.getElem?_take, if_pos hq, hcq q hq, List.getElem?_map, List.getElem?_reverse (by omega), hll]
            have : rvAt ls n k q = txt ls (n - 1 - q) := by
              unfold rvAt
              split
              · rfl
              · congr 1; omega
            rw [this, txt, List.getD_eq_getElem?_getD, List.getElem?_eq_getElem (by omega)]; rfl
          · rw [List.getElem?_take, if_neg hq, List.getElem?_eq_none (by rw [List.length_map, List.length_reverse]; omega)]
        have hw : -9223372036854775808 ≤ (j : Int) - 1 := by omega
        clear hb hcl hcq
        go_wp2
        go_end0
        exact ⟨rfl, HE.out, HS.out⟩
end Go.Proofs.Ytemiajjjhhofaac
