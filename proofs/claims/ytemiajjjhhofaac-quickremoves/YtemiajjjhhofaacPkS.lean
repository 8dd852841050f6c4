/-
  Insert, Set and Delete of a pack.
-/
import Derived.Test.YtemiajjjhhofaacPkW
namespace Go.Proofs.Ytemiajjjhhofaac
open Go.RowKit Go.PlainAid

theorem RdS.made (w : World) (ts : List ByteArray) (n : Nat) (hn : ts.length = n) (hm : n ≤ maxLen) (vs : Array Value) (hv : vs = (ts.map Value.string).toArray) : RdS (w.alloc (.cells vs 9)) (some ⟨w.heap.size, 0, none⟩) n ts := by
  subst hv
  refine ⟨hn, hm, fun j hj => ⟨w.heap.size, 0, rfl, ?_⟩⟩
  have h := heap_alloc_new w (.cells (ts.map Value.string).toArray 9)
  simp only [World.cell?, h, Nat.zero_add]
  rw [List.getElem?_toArray, List.getElem?_map, List.getElem?_eq_getElem (by omega), List.getD_eq_getElem?_getD, List.getElem?_eq_getElem (by omega)]
  rfl


theorem RdS.box (w : World) (s : ByteArray) : RdS (w.alloc (.cells #[.string s] 9)) (some ⟨w.heap.size, 0, none⟩) 1 [s] := RdS.made w [s] 1 rfl (by decide) _ rfl
theorem RdS.none0 (w : World) : RdS w none 0 [] := ⟨rfl, by decide, fun j hj => absurd hj (Nat.not_lt_zero _)⟩
theorem set_split (ls : List ByteArray) (k : Nat) (s : ByteArray) (h : k < ls.length) : ls.set k s = ls.take k ++ ([s] ++ ls.drop (k + 1)) := by
  rw [List.set_eq_take_append_cons_drop, if_pos h]; rfl

set_option maxRecDepth 100000 in
set_option maxHeartbeats 4000000 in
theorem Insert_index (B p : Nat) (a : Option Addr) (n c : Nat) (ls : List ByteArray) (i : Int) (v : Value) (w : World) (hP : Pk w B p a n c ls) (hi : ¬ (0 ≤ i ∧ i ≤ ls.length)) :
    Calls Try.prog 25 #[ptr p, .int .i64 i, v] w fun e w' => Below w.heap.size w w' ∧ e = .returned (.int .i64 8) := by
  have hd := hP.cnt
  generalize ls.length = m at hd hi
  clear hP
  by_cases h0 : i < 0
  · go_enter Try.func25, Try.ntmps25
    go_wp2
    go_ret
    exact ⟨Below.refl _ _, rfl⟩
  · have h1 : (m : Int) < i := by omega
    go_enter Try.func25, Try.ntmps25
    go_wp2
    go_ret
    exact ⟨Below.refl _ _, rfl⟩

set_option maxRecDepth 100000 in
set_option maxHeartbeats 4000000 in
theorem Insert_to {P : World → Prop} (B p : Nat) (a : Option Addr) (n c : Nat) (ls : List ByteArray) (i : Nat) (a2 : Option Addr) (m c2 : Nat) (w : World) (hP : Pk w B p a n c ls) (hi : i ≤ ls.length) (z : Int)
    (H : Calls Try.prog 39 #[ptr p, .int .i64 i, .int .i64 0, .slice a2 m c2] w fun e w' => e = .returned (.int .i64 z) ∧ P w') :
    Calls Try.prog 25 #[ptr p, .int .i64 i, .slice a2 m c2] w fun e w' => e = .returned (.int .i64 z) ∧ P w' := by
  have hd := hP.cnt
  have h1 : ¬ ((i : Int) < 0) := by omega
  have h2 : ¬ ((ls.length : Int) < i) := by omega
  generalize ls.length = k at hd h2
  clear hP hi
  go_enter Try.func25, Try.ntmps25
  go_wp2_with fail
  refine H.mono ?_
  rintro e w1 ⟨rfl, hq⟩
  have HQ : Hid (P w1) := hq
  clear hq
  go_wp2
  go_ret
  exact ⟨rfl, HQ.out⟩

theorem Insert_long (B p : Nat) (a : Option Addr) (n c : Nat) (ls : List ByteArray) (i : Nat) (a2 : Option Addr) (m c2 : Nat) (ts : List ByteArray) (w : World) (hP : Pk w B p a n c ls) (hi : i ≤ ls.length) (hR : RdS w a2 m ts) (hl : ¬ Fit ts) (hs : ∀ s ∈ ts, s.size ≤ 5000) (hm : m ≤ 100000) :
    Calls Try.prog 25 #[ptr p, .int .i64 i, .slice a2 m c2] w fun e w' => Below w.heap.size w w' ∧ e = .returned (.int .i64 11) :=
  (Insert_to (P := fun w' => Below w.heap.size w w') B p a n c ls i a2 m c2 w hP hi 11 ((replace_long p a2 m c2 i 0 ts w hR hl hs hm).mono fun _ _ h => ⟨h.2, h.1⟩)).mono fun _ _ h => ⟨h.2, h.1⟩
theorem Insert_full (B p : Nat) (a : Option Addr) (n c : Nat) (ls : List ByteArray) (i : Nat) (a2 : Option Addr) (m c2 : Nat) (ts : List ByteArray) (w : World) (hP : Pk w B p a n c ls) (hf : Fit ls) (hn : n ≤ 65536) (hi : i ≤ ls.length) (hR : RdS w a2 m ts) (hl : Fit ts) (hm : m ≤ 100000) (hx : 65536 < n + (pack ts).length) :
    Calls Try.prog 25 #[ptr p, .int .i64 i, .slice a2 m c2] w fun e w' => Below w.heap.size w w' ∧ e = .returned (.int .i64 23) := by
  refine (Insert_to (P := fun w' => Below w.heap.size w w') B p a n c ls i a2 m c2 w hP hi 23 ((replace_full B p a n c ls a2 m c2 i 0 ts w hP hf hn hi hR hl hm ?_).mono fun _ _ h => ⟨h.2, h.1⟩)).mono fun _ _ h => ⟨h.2, h.1⟩
  rw [rep_len, hP.len, Nat.add_zero]
  omega
theorem Insert_ok (B p : Nat) (a : Option Addr) (n c : Nat) (ls : List ByteArray) (i : Nat) (a2 : Option Addr) (m c2 : Nat) (ts : List ByteArray) (w : World) (hP : Pk w B p a n c ls) (hf : Fit ls) (hn : n ≤ 65536) (hi : i ≤ ls.length) (hR : RdS w a2 m ts) (hl : Fit ts) (hm : m ≤ 100000) (hx : n + (pack ts).length ≤ 65536) :
    Calls Try.prog 25 #[ptr p, .int .i64 i, .slice a2 m c2] w fun e w' => Turns w B p a (ls.take i ++ (ts ++ ls.drop i)) (.int .i64 0) e w' := by
  refine Insert_to B p a n c ls i a2 m c2 w hP hi 0 ((replace_ok B p a n c ls a2 m c2 i 0 ts w hP hf hn hi hR hl hm ?_).mono fun _ _ h => h)
  rw [rep_len, hP.len, Nat.add_zero]
  omega

theorem fit_one {s : ByteArray} (h : s.size ≤ 4096) : Fit [s] := by
  intro t ht
  rw [List.mem_singleton.1 ht]; exact h
theorem Went.after {w w1 : World} {a a' : Option Addr} (hb : Below w.heap.size w w1) (h : Went w1 a a') : Went w a a' := by
  rcases h with h | ⟨q, e1, e2⟩
  · exact .inl h
  · exact .inr ⟨q, e1, Nat.le_trans hb.size e2⟩
theorem went_after {w w1 w2 : World} {B p : Nat} {a : Option Addr} {ls : List ByteArray} (hb : Below w.heap.size w w1) (h : ∃ a' n' c', Pk w2 B p a' n' c' ls ∧ Went w1 a a') : ∃ a' n' c', Pk w2 B p a' n' c' ls ∧ Went w a a' := by
  obtain ⟨a', n', c', h1, h2⟩ := h
  exact ⟨a', n', c', h1, h2.after hb⟩
end Go.Proofs.Ytemiajjjhhofaac
