/-
  Requests, made.
-/
import Derived.Test.YtkoepgjdjbmknaaRa
import Derived.Test.YtkoepgjdjbmknaaRb
namespace Go.Proofs.Ytkoepgjdjbmknaa
open Go.RowKit Go.PlainAid

/-- A line with a number. -/
def lineN (sign : UInt8) (n : Nat) : List UInt8 := sign :: (fmtL (n : Int) ++ [13, 10])
/-- Bulks. -/
def blks : List (List UInt8) → List UInt8
  | [] => []
  | x :: r => lineN 36 x.length ++ x ++ [13, 10] ++ blks r
/-- A request of words. -/
def makeL (ws : List (List UInt8)) : List UInt8 := lineN 42 ws.length ++ blks ws
theorem blks_append (l r : List (List UInt8)) : blks (l ++ r) = blks l ++ blks r := by
  induction l with
  | nil => rfl
  | cons x l ih => simp [blks, ih]
theorem lineN_len (sign : UInt8) (n : Nat) (h : n < 9223372036854775808) : (lineN sign n).length ≤ 24 := by
  unfold lineN
  have := fmtL_len (n := (n : Int)) (by omega) (by omega)
  simp; omega
theorem blks_len (ws : List (List UInt8)) (m : Nat) (hm : m ≤ 1000000) (h : ∀ x ∈ ws, x.length ≤ m) : (blks ws).length ≤ ws.length * (m + 26) := by
  induction ws with
  | nil => simp [blks]
  | cons x r ih =>
    have h1 := h x (by simp)
    have h2 := lineN_len 36 x.length (by omega)
    have h3 := ih fun y hy => h y (by simp [hy])
    simp only [blks, List.length_append, List.length_cons, List.length_nil]
    rw [Nat.add_mul]
    omega

theorem writeNumber_any (a : Option Addr) (n c : Nat) (l : List UInt8) (sign : UInt8) (x : Int) (k B : Nat) (w : World) (hO : Own w B a n c l) (hB : B ≤ w.heap.size) (hx : (sign.toNat : Int) = x) (hl : l.length ≤ 100000000) (hk : k ≤ 100000000) :
    Calls Try.prog 25 #[.slice a n c, .int .u8 x, .int .i64 k] w fun e w' => Below B w w' ∧ ∃ a2 n2 c2, e = .returned (.slice a2 n2 c2) ∧ Own w' B a2 n2 c2 (l ++ lineN sign k) := by
  have hn := hO.len
  have HO : Hid (Own w B a n c l) := hO
  have HB : Hid (B ≤ w.heap.size) := hB
  have HX : Hid ((sign.toNat : Int) = x) := hx
  have HF := fun w => Format_any (k : Int) w (by omega) (by omega)
  have HFL : Hid ((fmtL (k : Int)).length ≤ 21) := fmtL_len (by omega) (by omega)
  have HM : Hid (n + 1 ≤ 140737488355328) := by show _ ≤ _; omega
  have HM1 : Hid (n ≤ 100000000) := by show _ ≤ _; omega
  obtain ⟨F, hF⟩ : ∃ F, bs (fmtL (k : Int)) = F := ⟨_, rfl⟩
  have HLF : Hid (lst F = fmtL (k : Int)) := by show _ = _; rw [← hF]; rfl
  have HSF : Hid (F.size ≤ 21) := by show _ ≤ _; rw [← hF, size_bs]; exact HFL.out
  rw [hF] at HF
  clear hO hB hx hl hn hF
  go_enter Try.func25, Try.ntmps25
  go_wp2_with (first
    | (go_at_call 34; refine (HF _).mono ?_; rintro e w3 ⟨rfl, hB3⟩; have HO3 : Hid (Own w3 B a2 n2 c2 (l ++ [sign])) := HO2.out.keep hB3; have HB3 : Hid (Below B w w3) := HB2.out.trans (hB3.mono HS2.out); have HS3 : Hid (B ≤ w3.heap.size) := Nat.le_trans HS2.out hB3.size; clear hB3)
    | (at_builtin; refine append_row rfl (.tmp 7) (.tmp 9) rfl B rfl (HO.out.keep (alloc_below w _)) rfl (Rd.one w _ _ HX.out) HM.out (Nat.le_trans HB.out (alloc_below w _).size) ?_; intro a2 n2 c2 w2 hn2 hO2 hB2; have HN2 : Hid (n2 = n + 1) := hn2; have HO2 : Hid (Own w2 B a2 n2 c2 (l ++ [sign])) := hO2; have HB2 : Hid (Below B w w2) := ((alloc_below w _).mono HB.out).trans hB2; have HS2 : Hid (B ≤ w2.heap.size) := Nat.le_trans HB.out HB2.out.size; clear hn2 hO2 hB2)
    | (at_builtin; refine append_text rfl (.tmp 11) (.tmp 13) rfl B rfl HO3.out rfl (by have h1 := HN2.out; have h2 := HSF.out; have h3 := HM1.out; omega) HS3.out ?_; intro a4 n4 c4 w4 hn4 hO4 hB4; have HN4 : Hid (n4 ≤ n + 22) := (by have h1 := HN2.out; have h2 := HSF.out; show _ ≤ _; omega); have HO4 : Hid (Own w4 B a4 n4 c4 ((l ++ [sign]) ++ fmtL (k : Int))) := (by rw [HLF.out] at hO4; exact hO4); have HB4 : Hid (Below B w w4) := HB3.out.trans hB4; have HS4 : Hid (B ≤ w4.heap.size) := Nat.le_trans HB.out HB4.out.size; clear hn4 hO4 hB4)
    | (at_builtin; refine append_text (t := ⟨#[13, 10]⟩) rfl (.tmp 15) _ rfl B rfl HO4.out rfl (by have h1 := HN4.out; have h2 := HM1.out; show _ + 2 ≤ _; omega) HS4.out ?_; intro a5 n5 c5 w5 hn5 hO5 hB5; have HO5 : Hid (Own w5 B a5 n5 c5 (l ++ lineN sign k)) := (by have e : ((l ++ [sign]) ++ fmtL (k : Int)) ++ lst ⟨#[13, 10]⟩ = l ++ lineN sign k := (by simp [lineN, lst]); rw [e] at hO5; exact hO5); have HB5 : Hid (Below B w w5) := HB4.out.trans hB5; clear hn5 hO5 hB5))
  go_ret
  exact ⟨HB5.out, _, _, _, rfl, HO5.out⟩
theorem take_snoc {α : Type} (l : List α) (k : Nat) (d : α) (h : k < l.length) : l.take (k + 1) = l.take k ++ [l.getD k d] := by
  rw [List.take_add_one, List.getD_eq_getElem?_getD, List.getElem?_eq_getElem h]; rfl
theorem made_take (ls : List ByteArray) (i : Nat) (h : i < ls.length) (H : List UInt8) :
    ((H ++ blks ((ls.take i).map lst)) ++ lineN 36 (ls.getD i ByteArray.empty).size ++ lst (ls.getD i ByteArray.empty)) ++ [13, 10] = H ++ blks ((ls.take (i + 1)).map lst) := by
  rw [take_snoc ls i ByteArray.empty h, List.map_append, blks_append]
  simp [blks]

set_option maxHeartbeats 2000000 in
theorem Make_any (a : Option Addr) (n c : Nat) (ls : List ByteArray) (w : World) (hR : RdS w a n ls) (hn : n ≤ 300) (hz : ∀ s ∈ ls, s.size ≤ 100000) :
    Calls Try.prog 12 #[.slice a n c] w fun e w' => Below w.heap.size w w' ∧ ∃ a2 n2 c2, e = .returned (.slice a2 n2 c2) ∧ Own w' w.heap.size a2 n2 c2 (makeL (ls.map lst)) := by
  have HR : Hid (RdS w a n ls) := hR
  have HL : Hid (ls.length = n) := hR.len
  have HZ : Hid (∀ s ∈ ls, s.size ≤ 100000) := hz
  have HW := fun w' (hB : w.heap.size ≤ w'.heap.size) => writeNumber_any none 0 0 [] 42 42 n w.heap.size w' (Own.nil _ _) hB rfl (by simp) (by omega)
  clear hR hz
  go_enter Try.func12, Try.ntmps12
  go_wp2_with (go_at_call 25; refine (HW _ (Nat.le_refl _)).mono ?_; rintro e w1 ⟨hB1, a1, n1, c1, rfl, hO1⟩; have HB1 : Hid (Below w.heap.size w w1) := hB1; have HO1 : Hid (Own w1 w.heap.size a1 n1 c1 (lineN 42 n)) := hO1; clear hB1 hO1)
  clear HW
  go_loopg [3, 11] n (fun g bv iv wr => ∃ (i : Nat) (a2 : Option Addr) (n2 c2 : Nat), i + g = n ∧ bv = .slice a2 n2 c2 ∧ iv = .int .i64 i ∧ Hid (Own wr w.heap.size a2 n2 c2 (lineN 42 n ++ blks ((ls.take i).map lst))) ∧ Hid (Below w.heap.size w wr))
  case atStart => exact ⟨0, _, _, _, by omega, rfl, rfl, by show Own _ _ _ _ _ _; simpa [blks] using HO1.out, HB1⟩
  case round =>
    obtain ⟨i, a2, n2, c2, hi, rfl, rfl, HO, HB⟩ := hrel
    have HI : Hid (i + gk = n) := hi
    clear HB1 HO1
    by_cases h1 : i < n
    · obtain ⟨b, off, ha, hc⟩ := HR.out.cell i h1
      subst ha
      have hc1 : wr.cell? ⟨b, off + i, none⟩ = some (.string (ls.getD i ByteArray.empty)) := by
        rw [HB.out.cell (p := ⟨b, off + i, none⟩) (World.block_lt_of_cell? _ _ hc)]; exact hc
      have HMT := made_take ls i (by rw [HL.out]; exact h1) (lineN 42 n)
      have hsz : (ls.getD i ByteArray.empty).size ≤ 100000 := by
        rw [List.getD_eq_getElem?_getD, List.getElem?_eq_getElem (by rw [HL.out]; exact h1)]
        exact HZ.out _ (List.getElem_mem _)
      have hlen : (lineN 42 n ++ blks ((ls.take i).map lst)).length ≤ 40000000 := by
        have k1 := lineN_len 42 n (by omega)
        have k2 := blks_len ((ls.take i).map lst) 100000 (by omega) (by
          intro x hx
          rw [List.mem_map] at hx
          obtain ⟨y, hy, rfl⟩ := hx
          rw [len_lst]
          exact HZ.out y (List.mem_of_mem_take hy))
        rw [List.length_append]
        rw [List.length_map, List.length_take] at k2
        have k3 : min i ls.length ≤ 300 := by omega
        have k4 := Nat.mul_le_mul_right 100026 k3
        omega
      generalize ls.getD i ByteArray.empty = s at hc1 HMT hsz
      have HSZ : Hid (s.size ≤ 100000) := hsz
      have HNN : Hid (n2 ≤ 40000000) := by have := HO.out.len; show _ ≤ _; omega
      have HMT2 : Hid ((((lineN 42 n ++ blks ((ls.take i).map lst)) ++ lineN 36 s.size) ++ lst s) ++ [13, 10] = lineN 42 n ++ blks ((ls.take (i + 1)).map lst)) := HMT
      have HLL : Hid ((lineN 36 s.size).length ≤ 24) := lineN_len 36 s.size (by omega)
      have hw := HB.out.size
      have HWN := writeNumber_any a2 n2 c2 _ 36 36 s.size w.heap.size wr HO.out hw rfl (by omega) (by omega)
      clear hc HMT hlen
      go_wp2_with (first
        | (go_at_call 25; refine HWN.mono ?_; rintro e w2 ⟨hB2, a3, n3, c3, rfl, hO2⟩; have HN3 : Hid (n3 ≤ n2 + 24) := (by have h1 := hO2.len; have h2 := HO.out.len; have h3 := HLL.out; rw [List.length_append] at h1; show _ ≤ _; omega); have HO2 : Hid (Own w2 w.heap.size a3 n3 c3 ((lineN 42 n ++ blks ((ls.take i).map lst)) ++ lineN 36 s.size)) := hO2; have HB2 : Hid (Below w.heap.size w w2) := HB.out.trans hB2; have HS2 : Hid (w.heap.size ≤ w2.heap.size) := HB2.out.size; clear hB2 hO2)
        | (at_builtin; refine append_text (t := s) rfl (.tmp 19) (.tmp 20) rfl w.heap.size rfl HO2.out rfl (by have h1 := HN3.out; have h2 := HSZ.out; have h3 := HNN.out; omega) HS2.out ?_; intro a4 n4 c4 w4 hn4 hO4 hB4; have HN4 : Hid (n4 ≤ n2 + 200000) := (by have h1 := HN3.out; have h2 := HSZ.out; show _ ≤ _; omega); have HO4 : Hid (Own w4 w.heap.size a4 n4 c4 (((lineN 42 n ++ blks ((ls.take i).map lst)) ++ lineN 36 s.size) ++ lst s)) := hO4; have HB4 : Hid (Below w.heap.size w w4) := HB2.out.trans hB4; have HS4 : Hid (w.heap.size ≤ w4.heap.size) := HB4.out.size; clear hn4 hO4 hB4)
        | (at_builtin; refine append_text (t := ⟨#[13, 10]⟩) rfl (.tmp 22) _ rfl w.heap.size rfl HO4.out rfl (by have h1 := HN4.out; have h3 := HNN.out; show _ + 2 ≤ _; omega) HS4.out ?_; intro a5 n5 c5 w5 hn5 hO5 hB5; have HO5 : Hid (Own w5 w.heap.size a5 n5 c5 (lineN 42 n ++ blks ((ls.take (i + 1)).map lst))) := (by rw [← HMT2.out]; exact hO5); have HB5 : Hid (Below w.heap.size w w5) := HB4.out.trans hB5; clear hn5 hO5 hB5))
      go_roundg (gk - 1)
      case measure => have := HI.out; omega
      case rel => exact ⟨i + 1, _, _, _, by have := HI.out; omega, rfl, by go_num, HO5, HB5⟩
    · have HE : Hid (lineN 42 n ++ blks ((ls.take i).map lst) = makeL (ls.map lst)) := by
        show _ = _
        rw [List.take_of_length_le (by rw [HL.out]; omega), makeL, List.length_map, HL.out]
      go_wp2
      go_ret
      exact ⟨HB.out, _, _, _, rfl, by have h := HO.out; rw [HE.out] at h; exact h⟩
end Go.Proofs.Ytkoepgjdjbmknaa
