/-
  Insert, Set and Delete of a pack.
-/
import Derived.Test.YtemiajjjhhofaabPkW
namespace Go.Proofs.Ytemiajjjhhofaab
open Go.RowKit Go.PlainAid

theorem RdS.made (w : World) (ts : List ByteArray) (n : Nat) (hn : ts.length = n) (hm : n ≤ maxLen) (vs : Array Value) (hv : vs = (ts.map Value.string).toArray) : RdS (w.alloc (.cells vs 9)) (some ⟨w.heap.size, 0, none⟩) n ts := by
  subst hv
  refine ⟨hn, hm, fun j hj => ⟨w.heap.size, 0, rfl, ?_⟩⟩
  have h := heap_alloc_new w (.cells (ts.map Value.string).toArray 9)
  simp only [World.cell?, h, Nat.zero_add]
  rw [List.getElem?_toArray, List.getElem?_map, List.getElem?_eq_getElem (by omega), List.getD_eq_getElem?_getD, List.getElem?_eq_getElem (by omega)]
  rfl


theorem RdS.box (w : World) (s : ByteArray) : RdS (w.alloc (.cells #[.string s] 9)) (some ⟨w.heap.size, 0, none⟩) 1 [s] := RdS.made w [s] 1 rfl (by decide) _ rfl
theorem RdS.none0 (w : World) : RdS w none 0 [] := ⟨rfl, by decide, fun j hj => absurd hj (Nat.not_lt_zero _)⟩
theorem set_split (ls : List ByteArray) (k : Nat) (s : ByteArray) (h : k < ls.length) : ls.set k s = ls.take k ++ ([s] ++ ls.drop (k + 1)) := by
  rw [List.set_eq_take_append_cons_drop, if_pos h]; rfl

set_option maxRecDepth 100000 in
set_option maxHeartbeats 4000000 in
theorem Insert_index (B p : Nat) (a : Option Addr) (n c : Nat) (ls : List ByteArray) (i : Int) (v : Value) (w : World) (hP : Pk w B p a n c ls) (hi : ¬ (0 ≤ i ∧ i ≤ ls.length)) :
    Calls Try.prog 12 #[ptr p, .int .i64 i, v] w fun e w' => Below w.heap.size w w' ∧ e = .returned (.int .i64 8) := by
  have hd := hP.cnt
  generalize ls.length = m at hd hi
  clear hP
  by_cases h0 : i < 0
  · go_enter Try.func12, Try.ntmps12
    go_wp2
    go_ret
    exact ⟨Below.refl _ _, rfl⟩
  · have h1 : (m : Int) < i := by omega
    go_enter Try.func12, Try.ntmps12
    go_wp2
    go_ret
    exact ⟨Below.refl _ _, rfl⟩

set_option maxRecDepth 100000 in
set_option maxHeartbeats 4000000 in
theorem Insert_to {P : World → Prop} (B p : Nat) (a : Option Addr) (n c : Nat) (ls : List ByteArray) (i : Nat) (a2 : Option Addr) (m c2 : Nat) (w : World) (hP : Pk w B p a n c ls) (hi : i ≤ ls.length) (z : Int)
    (H : Calls Try.prog 31 #[ptr p, .int .i64 i, .int .i64 0, .slice a2 m c2] w fun e w' => e = .returned (.int .i64 z) ∧ P w') :
    Calls Try.prog 12 #[ptr p, .int .i64 i, .slice a2 m c2] w fun e w' => e = .returned (.int .i64 z) ∧ P w' := by
  have hd := hP.cnt
  have h1 : ¬ ((i : Int) < 0) := by omega
  have h2 : ¬ ((ls.length : Int) < i) := by omega
  generalize ls.length = k at hd h2
  clear hP hi
  go_enter Try.func12, Try.ntmps12
  go_wp2_with fail
  refine H.mono ?_
  rintro e w1 ⟨rfl, hq⟩
  have HQ : Hid (P w1) := hq
  clear hq
  go_wp2
  go_ret
  exact ⟨rfl, HQ.out⟩

theorem Insert_long (B p : Nat) (a : Option Addr) (n c : Nat) (ls : List ByteArray) (i : Nat) (a2 : Option Addr) (m c2 : Nat) (ts : List ByteArray) (w : World) (hP : Pk w B p a n c ls) (hi : i ≤ ls.length) (hR : RdS w a2 m ts) (hl : ¬ Fit ts) (hs : ∀ s ∈ ts, s.size ≤ 5000) (hm : m ≤ 100000) :
    Calls Try.prog 12 #[ptr p, .int .i64 i, .slice a2 m c2] w fun e w' => Below w.heap.size w w' ∧ e = .returned (.int .i64 11) :=
  (Insert_to (P := fun w' => Below w.heap.size w w') B p a n c ls i a2 m c2 w hP hi 11 ((replace_long p a2 m c2 i 0 ts w hR hl hs hm).mono fun _ _ h => ⟨h.2, h.1⟩)).mono fun _ _ h => ⟨h.2, h.1⟩
theorem Insert_full (B p : Nat) (a : Option Addr) (n c : Nat) (ls : List ByteArray) (i : Nat) (a2 : Option Addr) (m c2 : Nat) (ts : List ByteArray) (w : World) (hP : Pk w B p a n c ls) (hf : Fit ls) (hn : n ≤ 65536) (hi : i ≤ ls.length) (hR : RdS w a2 m ts) (hl : Fit ts) (hm : m ≤ 100000) (hx : 65536 < n + (pack ts).length) :
    Calls Try.prog 12 #[ptr p, .int .i64 i, .slice a2 m c2] w fun e w' => Below w.heap.size w w' ∧ e = .returned (.int .i64 23) := by
  refine (Insert_to (P := fun w' => Below w.heap.size w w') B p a n c ls i a2 m c2 w hP hi 23 ((replace_full B p a n c ls a2 m c2 i 0 ts w hP hf hn hi hR hl hm ?_).mono fun _ _ h => ⟨h.2, h.1⟩)).mono fun _ _ h => ⟨h.2, h.1⟩
  rw [rep_len, hP.len, Nat.add_zero]
  omega
theorem Insert_ok (B p : Nat) (a : Option Addr) (n c : Nat) (ls : List ByteArray) (i : Nat) (a2 : Option Addr) (m c2 : Nat) (ts : List ByteArray) (w : World) (hP : Pk w B p a n c ls) (hf : Fit ls) (hn : n ≤ 65536) (hi : i ≤ ls.length) (hR : RdS w a2 m ts) (hl : Fit ts) (hm : m ≤ 100000) (hx : n + (pack ts).length ≤ 65536) :
    Calls Try.prog 12 #[ptr p, .int .i64 i, .slice a2 m c2] w fun e w' => Turns w B p a (ls.take i ++ (ts ++ ls.drop i)) (.int .i64 0) e w' := by
  refine Insert_to B p a n c ls i a2 m c2 w hP hi 0 ((replace_ok B p a n c ls a2 m c2 i 0 ts w hP hf hn hi hR hl hm ?_).mono fun _ _ h => h)
  rw [rep_len, hP.len, Nat.add_zero]
  omega

theorem Set_index (B p : Nat) (a : Option Addr) (n c : Nat) (ls : List ByteArray) (i : Int) (s : ByteArray) (w : World) (hP : Pk w B p a n c ls) (hi2 : -9223372036854775808 ≤ i) (hk : plc ls.length i = none) :
    Calls Try.prog 14 #[ptr p, .int .i64 i, .string s] w fun e w' => Below w.heap.size w w' ∧ e = .returned (.int .i64 8) := by
  have HW := place_none B p a n c ls i w hP hi2 hk
  clear hP hk
  go_enter Try.func14, Try.ntmps14
  go_wp2_with fail
  refine HW.mono ?_
  rintro e w1 ⟨hb, x, rfl⟩
  have HB : Hid (Below w.heap.size w w1) := hb
  clear hb
  go_wp2
  go_ret
  exact ⟨HB.out, rfl⟩

set_option maxRecDepth 100000 in
set_option maxHeartbeats 4000000 in
theorem Set_to {P : World → Prop} (B p : Nat) (a : Option Addr) (n c : Nat) (ls : List ByteArray) (i : Int) (k : Nat) (s : ByteArray) (w : World) (hP : Pk w B p a n c ls) (hi2 : -9223372036854775808 ≤ i) (hk : plc ls.length i = some k) (z : Int)
    (H : ∀ w1 b, Below w.heap.size w w1 → RdS w1 (some ⟨b, 0, none⟩) 1 [s] → Calls Try.prog 31 #[ptr p, .int .i64 k, .int .i64 1, .slice (some ⟨b, 0, none⟩) 1 1] w1 fun e w' => e = .returned (.int .i64 z) ∧ P w') :
    Calls Try.prog 14 #[ptr p, .int .i64 i, .string s] w fun e w' => e = .returned (.int .i64 z) ∧ P w' := by
  have HW := place_some B p a n c ls i k w hP hi2 hk
  clear hP hk
  go_enter Try.func14, Try.ntmps14
  go_wp2_with fail
  refine HW.mono ?_
  rintro e w1 ⟨hb, rfl⟩
  have HB : Hid (Below w.heap.size w w1) := hb
  have HR : Hid (RdS (w1.alloc (.cells #[.string s] 9)) (some ⟨w1.heap.size, 0, none⟩) 1 [s]) := RdS.box w1 s
  clear hb
  go_wp2_with fail
  refine (H _ _ (HB.out.trans ((alloc_below w1 _).mono HB.out.size)) HR.out).mono ?_
  rintro e w2 ⟨rfl, hq⟩
  have HQ : Hid (P w2) := hq
  clear hq
  go_wp2
  go_ret
  exact ⟨rfl, HQ.out⟩

theorem fit_one {s : ByteArray} (h : s.size ≤ 4096) : Fit [s] := by
  intro t ht
  rw [List.mem_singleton.1 ht]; exact h
theorem Set_long (B p : Nat) (a : Option Addr) (n c : Nat) (ls : List ByteArray) (i : Int) (k : Nat) (s : ByteArray) (w : World) (hP : Pk w B p a n c ls) (hi2 : -9223372036854775808 ≤ i) (hk : plc ls.length i = some k) (hs : 4096 < s.size) (hs2 : s.size ≤ 5000) :
    Calls Try.prog 14 #[ptr p, .int .i64 i, .string s] w fun e w' => Below w.heap.size w w' ∧ e = .returned (.int .i64 11) :=
  (Set_to (P := fun w' => Below w.heap.size w w') B p a n c ls i k s w hP hi2 hk 11 fun w1 b hb hR => (replace_long p _ 1 1 k 1 [s] w1 hR (fun h => by have := h s (by simp); omega) (fun t ht => by rw [List.mem_singleton.1 ht]; exact hs2) (by decide)).mono fun _ _ h => ⟨h.2, hb.trans (h.1.mono hb.size)⟩).mono fun _ _ h => ⟨h.2, h.1⟩
theorem Set_full (B p : Nat) (a : Option Addr) (n c : Nat) (ls : List ByteArray) (i : Int) (k : Nat) (s : ByteArray) (w : World) (hP : Pk w B p a n c ls) (hf : Fit ls) (hn : n ≤ 65536) (hi2 : -9223372036854775808 ≤ i) (hk : plc ls.length i = some k) (hs : s.size ≤ 4096) (hx : 65536 < (pack (ls.set k s)).length) :
    Calls Try.prog 14 #[ptr p, .int .i64 i, .string s] w fun e w' => Below w.heap.size w w' ∧ e = .returned (.int .i64 23) :=
  (Set_to (P := fun w' => Below w.heap.size w w') B p a n c ls i k s w hP hi2 hk 23 fun w1 b hb hR => (replace_full B p a n c ls _ 1 1 k 1 [s] w1 (hP.keep hb) hf hn (plc_lt hk) hR (fit_one hs) (by decide) (by rw [← set_split ls k s (plc_lt hk)]; exact hx)).mono fun _ _ h => ⟨h.2, hb.trans (h.1.mono hb.size)⟩).mono fun _ _ h => ⟨h.2, h.1⟩
theorem Set_ok (B p : Nat) (a : Option Addr) (n c : Nat) (ls : List ByteArray) (i : Int) (k : Nat) (s : ByteArray) (w : World) (hP : Pk w B p a n c ls) (hf : Fit ls) (hn : n ≤ 65536) (hi2 : -9223372036854775808 ≤ i) (hk : plc ls.length i = some k) (hs : s.size ≤ 4096) (hx : (pack (ls.set k s)).length ≤ 65536) :
    Calls Try.prog 14 #[ptr p, .int .i64 i, .string s] w fun e w' => Turns w B p a (ls.set k s) (.int .i64 0) e w' := by
  have hl := plc_lt hk
  refine Set_to B p a n c ls i k s w hP hi2 hk 0 fun w1 b hb hR => (replace_ok B p a n c ls _ 1 1 k 1 [s] w1 (hP.keep hb) hf hn hl hR (fit_one hs) (by decide) (by rw [← set_split ls k s hl]; exact hx)).mono fun _ _ h => ?_
  obtain ⟨h1, h2, a', n', c', h3, h4⟩ := h
  rw [← set_split ls k s hl] at h3
  refine ⟨h1, h2.after hb, a', n', c', h3, ?_⟩
  rcases h4 with h | ⟨q, e1, e2⟩
  · exact .inl h
  · exact .inr ⟨q, e1, Nat.le_trans hb.size e2⟩

theorem Delete_none (B p : Nat) (a : Option Addr) (n c : Nat) (ls : List ByteArray) (i N : Int) (w : World) (hP : Pk w B p a n c ls) (hi2 : -9223372036854775808 ≤ i) (hk : plc ls.length i = none) :
    Calls Try.prog 41 #[ptr p, .int .i64 i, .int .i64 N] w fun e w' => Below w.heap.size w w' ∧ e = .returned (.int .i64 0) := by
  have HW := place_none B p a n c ls i w hP hi2 hk
  clear hP hk
  go_enter Try.func41, Try.ntmps41
  go_wp2_with fail
  refine HW.mono ?_
  rintro e w1 ⟨hb, x, rfl⟩
  have HB : Hid (Below w.heap.size w w1) := hb
  clear hb
  go_wp2
  go_ret
  exact ⟨HB.out, rfl⟩

theorem Went.after {w w1 : World} {a a' : Option Addr} (hb : Below w.heap.size w w1) (h : Went w1 a a') : Went w a a' := by
  rcases h with h | ⟨q, e1, e2⟩
  · exact .inl h
  · exact .inr ⟨q, e1, Nat.le_trans hb.size e2⟩
theorem went_after {w w1 w2 : World} {B p : Nat} {a : Option Addr} {ls : List ByteArray} (hb : Below w.heap.size w w1) (h : ∃ a' n' c', Pk w2 B p a' n' c' ls ∧ Went w1 a a') : ∃ a' n' c', Pk w2 B p a' n' c' ls ∧ Went w a a' := by
  obtain ⟨a', n', c', h1, h2⟩ := h
  exact ⟨a', n', c', h1, h2.after hb⟩
set_option maxRecDepth 100000 in
set_option maxHeartbeats 4000000 in
theorem Delete_some (B p : Nat) (a : Option Addr) (n c : Nat) (ls : List ByteArray) (i : Int) (k : Nat) (N : Int) (w : World) (hP : Pk w B p a n c ls) (hf : Fit ls) (hn : n ≤ 65536) (hi2 : -9223372036854775808 ≤ i) (hk : plc ls.length i = some k) :
    Calls Try.prog 41 #[ptr p, .int .i64 i, .int .i64 N] w fun e w' => Turns w B p a (ls.take k ++ ls.drop (k + gone ls k N)) (.int .i64 (gone ls k N : Nat)) e w' := by
  have hkl := plc_lt hk
  have HW := place_some B p a n c ls i k w hP hi2 hk
  have HP : Hid (Pk w B p a n c ls) := hP
  by_cases hN : N < 1
  · have hg : gone ls k N = 0 := by unfold gone; omega
    rw [hg, Nat.add_zero, List.take_append_drop]
    clear hP hf hk hkl
    go_enter Try.func41, Try.ntmps41
    go_wp2_with fail
    refine HW.mono ?_
    rintro e w1 ⟨hb, rfl⟩
    have HB : Hid (Below w.heap.size w w1) := hb
    clear hb
    go_wp2
    go_ret
    exact ⟨rfl, Moves.of_below HB.out _ _, _, _, _, HP.out.keep HB.out, .inl rfl⟩
  · obtain ⟨g, hg⟩ : ∃ g, gone ls k N = g := ⟨_, rfl⟩
    have hgl : k + g ≤ ls.length := by have := gone_le ls k N; omega
    have hmany := hP.many
    have HR := fun (w1 : World) (h : Below w.heap.size w w1) => replace_ok B p a n c ls none 0 0 k g [] w1 (hP.keep h) hf hn hgl (RdS.none0 w1) (fun s hs => absurd hs (by simp)) (by decide) (by
      rw [rep_len, hP.len]
      have := off_le ls (k + g)
      have := hP.len
      show _ - _ + 0 ≤ _
      omega)
    simp only [List.nil_append] at HR
    have hmin : min N ((ls.length : Int) - k) = g := by unfold gone at hg; omega
    rw [hg]
    obtain ⟨m, hm⟩ : ∃ m, ls.length = m := ⟨_, rfl⟩
    have hd := fun (w1 : World) (h : Below w.heap.size w w1) => (hP.keep h).cnt
    rw [hm] at hmin hgl hmany hkl
    simp only [hm] at hd
    obtain ⟨r, hr⟩ : ∃ r, m - k = r := ⟨_, rfl⟩
    have hri : (m : Int) - k = r := by omega
    rw [hri] at hmin
    clear hP hf hk hg hm
    by_cases hle : N ≤ r
    · have hNg : N = g := by omega
      subst hNg
      clear hmin
      have hle2 : ¬ ((r : Int) < (g : Int)) := by omega
      go_enter Try.func41, Try.ntmps41
      go_wp2_with fail
      refine HW.mono ?_
      rintro e w1 ⟨hb, rfl⟩
      have HB : Hid (Below w.heap.size w w1) := hb
      have hd1 := hd w1 hb
      have HR1 := HR w1 hb
      clear hb hd HR HW
      go_wp2_with fail
      refine HR1.mono ?_
      rintro e w2 ⟨rfl, hM, hE⟩
      have HM : Hid (Moves w1 w2 p a) := hM
      have HE2 : Hid (∃ a' n' c', Pk w2 B p a' n' c' (ls.take k ++ ls.drop (k + g)) ∧ Went w1 a a') := hE
      clear hM hE
      go_wp2
      go_ret
      exact ⟨rfl, HM.out.after HB.out, went_after HB.out HE2.out⟩
    · have hrg : r = g := by omega
      subst hrg
      clear hmin
      have hle2 : (r : Int) < N := by omega
      go_enter Try.func41, Try.ntmps41
      go_wp2_with fail
      refine HW.mono ?_
      rintro e w1 ⟨hb, rfl⟩
      have HB : Hid (Below w.heap.size w w1) := hb
      have hd1 := hd w1 hb
      have HR1 := HR w1 hb
      clear hb hd HR HW
      go_wp2_with fail
      refine HR1.mono ?_
      rintro e w2 ⟨rfl, hM, hE⟩
      have HM : Hid (Moves w1 w2 p a) := hM
      have HE2 : Hid (∃ a' n' c', Pk w2 B p a' n' c' (ls.take k ++ ls.drop (k + r)) ∧ Went w1 a a') := hE
      clear hM hE
      go_wp2
      go_ret
      exact ⟨rfl, HM.out.after HB.out, went_after HB.out HE2.out⟩
end Go.Proofs.Ytemiajjjhhofaab
