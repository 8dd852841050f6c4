/-
  New, Len; tooLong, slices.IndexFunc and ContainsFunc at it; Left, Right.
-/
import Derived.Test.YtemiajjjhhofaabQfind
namespace Go.Proofs.Ytemiajjjhhofaab
open Go.RowKit Go.PlainAid

theorem LenQ_any (B l R most cnt : Nat) (ns : List Nd) (w : World) (h : Lst w B l R most cnt ns) :
    Calls Try.prog 21 #[ptr l] w fun e w' => e = .returned (.int .i64 (cnt : Nat)) ∧ w' = w := by
  have hd := h.ccnt
  clear h
  go_enter Try.func21, Try.ntmps21
  go_wp2
  go_ret
  exact ⟨rfl, rfl⟩

/-- An empty list at l, its ring at R. -/
theorem Lst.made {w : World} {B l R most : Nat} (h1 : w.heap[l]? = some (.cells #[.int .i64 (most : Nat), .int .i64 ((0 : Nat) : Nat), ptr R] 73 (0, 0))) (h2 : w.heap[R]? = some (.cells #[.pointer none, ptr R, ptr R] 71 (0, 0))) (hl : B ≤ l) (hR : B ≤ R) (hne : l ≠ R) : Lst w B l R most 0 [] := by
  refine ⟨h1, ⟨_, _, h2⟩, ?_, fun d hd => absurd hd (by simp), ?_, hl, hR⟩
  · exact ⟨⟨by simp [World.cell?, h2], by simp [World.cell?, h2]⟩, trivial⟩
  · simp [fpN, hne]

set_option maxRecDepth 100000 in
theorem NewQ_any (m : Int) (w : World) (most : Nat) (hm : max m 1 = most) :
    Calls Try.prog 17 #[.int .i64 m] w fun e w' => Below w.heap.size w w' ∧ ∃ l R, e = .returned (ptr l) ∧ Lst w' w.heap.size l R most 0 [] := by
  have hW0 : (w.alloc (.cells #[.pointer none, .pointer none, .pointer none] 71)).heap[w.heap.size]? = some (.cells #[.pointer none, .pointer none, .pointer none] 71 (0, 0)) := heap_alloc_new w _
  obtain ⟨w0, hw0⟩ : ∃ w0, w.alloc (.cells #[.pointer none, .pointer none, .pointer none] 71) = w0 := ⟨_, rfl⟩
  have HB0 : Hid (Below w.heap.size w w0) := by rw [← hw0]; exact alloc_below w _
  rw [hw0] at hW0
  obtain ⟨G, hG⟩ : ∃ G, w.heap.size = G := ⟨_, rfl⟩
  have HG : Hid (w.heap.size = G) := hG
  rw [hG] at hW0
  have hc1 : w0.cell? ⟨G, 1, none⟩ = some (.pointer none) := by simp [World.cell?, hW0]
  have hf1 : w0.frozen? ⟨G, 1, none⟩ = false := by simp [World.frozen?, hW0]
  have hc2 : (w0.setCell ⟨G, 1, none⟩ (ptr G)).cell? ⟨G, 2, none⟩ = some (.pointer none) := by rw [cell_ne (fun e => absurd e.2 (by decide))]; simp [World.cell?, hW0]
  have hf2 : (w0.setCell ⟨G, 1, none⟩ (ptr G)).frozen? ⟨G, 2, none⟩ = false := by rw [World.frozen?_setCell]; simp [World.frozen?, hW0]
  have hW2 : ((w0.setCell ⟨G, 1, none⟩ (ptr G)).setCell ⟨G, 2, none⟩ (ptr G)).heap[G]? = some (.cells #[.pointer none, ptr G, ptr G] 71 (0, 0)) := by rw [heap_set (heap_set hW0 _)]; rfl
  obtain ⟨w2, hw2⟩ : ∃ w2, (w0.setCell ⟨G, 1, none⟩ (ptr G)).setCell ⟨G, 2, none⟩ (ptr G) = w2 := ⟨_, rfl⟩
  have hGG : w.heap.size ≤ G := Nat.le_of_eq hG
  have HB2 : Hid (Below w.heap.size w w2) := by
    rw [← hw2]
    have s1 : Stay w0 ((w0.setCell ⟨G, 1, none⟩ (ptr G)).setCell ⟨G, 2, none⟩ (ptr G)) [G] := Stay.set.trans Stay.set (fun _ hi => .inl hi)
    exact HB0.out.trans (s1.below (by simpa using hGG) HB0.out.size)
  have HW2 : Hid (w2.heap[G]? = some (.cells #[.pointer none, ptr G, ptr G] 71 (0, 0))) := by rw [← hw2]; exact hW2
  have HE : Hid (Lst (w2.alloc (.cells #[.int .i64 (most : Nat), .int .i64 0, ptr G] 73)) w.heap.size w2.heap.size G most 0 []) := by
    have hlt : G < w2.heap.size := (Array.getElem?_eq_some_iff.1 HW2.out).1
    refine Lst.made (heap_alloc_new w2 _) ?_ HB2.out.size hGG (by omega)
    rw [(alloc_below w2 _).block G hlt]
    exact HW2.out
  clear hW0 hW2 hGG HG
  subst hG
  by_cases h1 : m < 1
  · have h2 : most = 1 := by omega
    subst h2
    clear hm
    go_enter Try.func17, Try.ntmps17
    go_wp2
    go_ret
    refine ⟨HB2.out.trans ((alloc_below w2 _).mono HB2.out.size), w2.heap.size, ?_⟩
    first | exact ⟨_, rfl, HE.out⟩ | exact ⟨rfl, _, HE.out⟩
  · have h2 : m = most := by omega
    subst h2
    clear hm
    go_enter Try.func17, Try.ntmps17
    go_wp2
    go_ret
    refine ⟨HB2.out.trans ((alloc_below w2 _).mono HB2.out.size), w2.heap.size, ?_⟩
    first | exact ⟨_, rfl, HE.out⟩ | exact ⟨rfl, _, HE.out⟩

theorem tooLong_any (s : ByteArray) (w : World) (hs : s.size ≤ 1000000) : Calls Try.prog 54 #[.string s] w fun e w' => e = .returned (.bool (decide (4096 < s.size))) ∧ w' = w := by
  have hd : decide ((4096 : Int) < (s.size : Int)) = decide (4096 < s.size) := by
    rw [Bool.eq_iff_iff, decide_eq_true_eq, decide_eq_true_eq]; omega
  generalize decide (4096 < s.size) = b at hd
  go_enter Try.func54, Try.ntmps54
  go_wp2
  go_ret
  exact ⟨by rw [← hd]; rfl, rfl⟩

set_option maxRecDepth 100000 in
set_option maxHeartbeats 4000000 in
theorem IndexFunc_long (a : Option Addr) (n c : Nat) (ls : List ByteArray) (w : World) (hR : RdS w a n ls) (hs : ∀ s ∈ ls, s.size ≤ 1000000) :
    Calls Try.prog 76 #[.slice a n c, .func (.func 54) #[] #[]] w fun e w' => (∃ z : Int, e = .returned (.int .i64 z) ∧ (0 ≤ z ↔ ¬ Fit ls)) ∧ w' = w := by
  have HR : Hid (RdS w a n ls) := hR
  have HL : Hid (ls.length = n) := hR.len
  have HS : Hid (∀ s ∈ ls, s.size ≤ 1000000) := hs
  have hn : n ≤ 9223372036854775807 := by have := hR.max; unfold maxLen at this; omega
  clear hR hs
  go_enter Try.func76, Try.ntmps76
  go_wp2
  go_loopg [8] n (fun g iv wr => w = wr ∧ ∃ i : Nat, i + g = n ∧ iv = .int .i64 i ∧ Hid (Fit (ls.take i)))
  case atStart => exact ⟨rfl, 0, by omega, rfl, fun s hs => absurd hs (by simp)⟩
  case round =>
    obtain ⟨rfl, i, hi, rfl, HF⟩ := hrel
    by_cases h1 : (i : Int) < n
    · obtain ⟨b, off, ha, hc⟩ := HR.out.cell i (by omega)
      subst ha
      have hil : i < ls.length := by have := HL.out; omega
      have hsz := short_get HS.out i hil
      have HT : Hid (ls.take (i + 1) = ls.take i ++ [ls.getD i ByteArray.empty]) := take_snocB ls i hil
      have HMm : Hid (ls.getD i ByteArray.empty ∈ ls) := by
        show _ ∈ _
        rw [List.getD_eq_getElem?_getD, List.getElem?_eq_getElem hil]
        exact List.getElem_mem hil
      generalize ls.getD i ByteArray.empty = s at hc hsz HT HMm
      have HTo := tooLong_any s w hsz
      by_cases hlong : 4096 < s.size
      · rw [decide_eq_true hlong] at HTo
        have HNF : Hid (¬ Fit ls) := fun h => by have := h s HMm.out; omega
        go_wp2_with fail
        refine HTo.mono ?_
        rintro e w ⟨rfl, rfl⟩
        go_wp2
        go_ret
        exact ⟨⟨i, rfl, fun _ => HNF.out, fun _ => by omega⟩, rfl⟩
      · rw [decide_eq_false hlong] at HTo
        have HF2 : Hid (Fit (ls.take (i + 1))) := by
          show Fit _
          rw [HT.out]
          exact fit_append HF.out (fit_one (by omega))
        go_wp2_with fail
        refine HTo.mono ?_
        rintro e w ⟨rfl, rfl⟩
        go_wp2
        go_roundg (gk - 1)
        case measure => omega
        case rel => exact ⟨rfl, i + 1, by omega, by go_num, HF2⟩
    · have HFF : Hid (Fit ls) := by
        have := HF.out
        rw [List.take_of_length_le (by have := HL.out; omega)] at this
        exact this
      go_wp2
      go_ret
      exact ⟨⟨-1, rfl, fun h => absurd h (by decide), fun h => absurd HFF.out h⟩, rfl⟩

theorem ContainsFunc_long (a : Option Addr) (n c : Nat) (ls : List ByteArray) (w : World) (hR : RdS w a n ls) (hs : ∀ s ∈ ls, s.size ≤ 1000000) (b : Bool) (hb : b = true ↔ ¬ Fit ls) :
    Calls Try.prog 53 #[.slice a n c, .func (.func 54) #[] #[]] w fun e w' => e = .returned (.bool b) ∧ w' = w := by
  have HI := IndexFunc_long a n c ls w hR hs
  clear hR hs
  go_enter Try.func53, Try.ntmps53
  go_wp2_with fail
  refine HI.mono ?_
  rintro e w ⟨⟨z, rfl, hz⟩, rfl⟩
  have HZ : Hid (decide (0 ≤ z) = b) := by
    show _ = _
    rw [Bool.eq_iff_iff, decide_eq_true_eq, hz, hb]
  clear hz hb HI
  go_wp2
  go_ret
  exact ⟨by rw [← HZ.out]; rfl, rfl⟩

/-- A row of texts that lies outside a list. -/
structure RdF (w : World) (a : Option Addr) (n : Nat) (ls : List ByteArray) (F : List Nat) : Prop where
  rd : RdS w a n ls
  far : ∀ x, a = some x → x.block ∉ F ∧ x.block < w.heap.size
theorem RdF.goes {w w' : World} {l R : Nat} {ns ns' : List Nd} {a : Option Addr} {n : Nat} {ls : List ByteArray} (h : RdF w a n ls (l :: R :: fpN ns)) (hg : Goes w w' l R ns ns') : RdF w' a n ls (l :: R :: fpN ns') := by
  refine ⟨⟨h.rd.len, h.rd.max, fun j hj => ?_⟩, fun x hx => ?_⟩
  · obtain ⟨b, off, e, hc⟩ := h.rd.cell j hj
    refine ⟨b, off, e, ?_⟩
    obtain ⟨h1, h2⟩ := h.far _ e
    rw [World.cell?_of_block (hg.stay.block b h2 h1)]
    exact hc
  · obtain ⟨h1, h2⟩ := h.far x hx
    refine ⟨fun hm => h1 ?_, Nat.lt_of_lt_of_le h2 hg.stay.size⟩
    simp only [List.mem_cons] at hm ⊢
    rcases hm with hm | hm | hm
    · exact .inl hm
    · exact .inr (.inl hm)
    · rcases hg.new _ hm with h3 | h3
      · exact .inr (.inr h3)
      · omega

set_option maxRecDepth 100000 in
set_option maxHeartbeats 4000000 in
theorem Right_long (l : Nat) (a : Option Addr) (n c : Nat) (ts : List ByteArray) (w : World) (hR : RdS w a n ts) (hs : ∀ s ∈ ts, s.size ≤ 1000000) (hl : ¬ Fit ts) :
    Calls Try.prog 20 #[ptr l, .slice a n c] w fun e w' => e = .returned (.int .i64 11) ∧ w' = w := by
  have HC := ContainsFunc_long a n c ts w hR hs true ⟨fun _ => hl, fun _ => rfl⟩
  clear hR hs hl
  go_enter Try.func20, Try.ntmps20
  go_wp2_with fail
  refine HC.mono ?_
  rintro e w ⟨rfl, rfl⟩
  go_wp2
  go_ret
  exact ⟨rfl, rfl⟩
set_option maxRecDepth 100000 in
set_option maxHeartbeats 4000000 in
theorem Left_long (l : Nat) (a : Option Addr) (n c : Nat) (ts : List ByteArray) (w : World) (hR : RdS w a n ts) (hs : ∀ s ∈ ts, s.size ≤ 1000000) (hl : ¬ Fit ts) :
    Calls Try.prog 56 #[ptr l, .slice a n c] w fun e w' => e = .returned (.int .i64 11) ∧ w' = w := by
  have HC := ContainsFunc_long a n c ts w hR hs true ⟨fun _ => hl, fun _ => rfl⟩
  clear hR hs hl
  go_enter Try.func56, Try.ntmps56
  go_wp2_with fail
  refine HC.mono ?_
  rintro e w ⟨rfl, rfl⟩
  go_wp2
  go_ret
  exact ⟨rfl, rfl⟩

/-- What putBehind makes, as what the list has. -/
theorem PutAt.does {w w' : World} {B l R most cnt : Nat} {l1 l2 : List Nd} {s : ByteArray} (h : PutAt w B l R most cnt l1 l2 s w') : Does w B l R most (cnt + 1) (l1 ++ l2) (txN l1 ++ (s :: txN l2)) w' := by
  obtain ⟨M1, mid, M2, h1, h2, h3, -, -, h4⟩ := h
  exact ⟨_, h1, h2, h3, by rw [txN_append, txN_append]; exact h4⟩

set_option maxRecDepth 100000 in
set_option maxHeartbeats 4000000 in
theorem Right_ok (B l R most cnt : Nat) (ns : List Nd) (a : Option Addr) (n c : Nat) (ts : List ByteArray) (w : World) (h : Lst w B l R most cnt ns) (hok : Ok most ns) (hR : RdF w a n ts (l :: R :: fpN ns)) (hl : Fit ts) (hcnt : cnt + n ≤ 1000000) (hmost : 0 < most) :
    Calls Try.prog 20 #[ptr l, .slice a n c] w fun e w' => e = .returned (.int .i64 0) ∧ Does w B l R most (cnt + n) ns (txN ns ++ ts) w' := by
  have HC := ContainsFunc_long a n c ts w hR.rd (fun s hs => Nat.le_trans (hl s hs) (by decide)) false ⟨fun h => (by cases h), fun h => absurd hl h⟩
  have HL : Hid (ts.length = n) := hR.rd.len
  have HF : Hid (Fit ts) := hl
  have HD0 : Hid (Does w B l R most (cnt + 0) ns (txN ns ++ ts.take 0) w) := ⟨ns, h, Goes.refl _ _ _ _, hok, by simp⟩
  have HR : Hid (RdF w a n ts (l :: R :: fpN ns)) := hR
  clear h hok hR hl
  go_enter Try.func20, Try.ntmps20
  go_wp2_with fail
  refine HC.mono ?_
  rintro e w ⟨rfl, rfl⟩
  clear HC
  go_wp2
  go_loopg [6, 11] n (fun g tv iv wr => ∃ i : Nat, i + g = n ∧ iv = .int .i64 i ∧ Hid (Does w B l R most (cnt + i) ns (txN ns ++ ts.take i) wr))
  case atStart => exact ⟨0, by omega, rfl, HD0⟩
  case round =>
    obtain ⟨i, hi, rfl, HD⟩ := hrel
    by_cases h1 : (i : Int) < n
    · obtain ⟨ns1, hL1, hG1, hO1, hT1⟩ := HD.out
      have hR1 := HR.out.goes hG1
      obtain ⟨b, off, ha, hc⟩ := hR1.rd.cell i (by omega)
      subst ha
      have hil : i < ts.length := by have := HL.out; omega
      have hsz : (ts.getD i ByteArray.empty).size ≤ 4096 := short_get HF.out i hil
      have HT : Hid (ts.take (i + 1) = ts.take i ++ [ts.getD i ByteArray.empty]) := take_snocB ts i hil
      generalize ts.getD i ByteArray.empty = s at hc hsz HT
      have hcr := hL1.cring
      have hg := (Lst.gap (l1 := ns1) (l2 := []) (by rw [List.append_nil]; exact hL1)).2
      have hg2 : wr.cell? ⟨R, 1, none⟩ = some (ptr (laA R ns1)) := hg
      have HP := putBehind_any B l R most (cnt + i) ns1 [] s wr (by rw [List.append_nil]; exact hL1) (by rw [List.append_nil]; exact hO1) hsz (by omega) hmost
      have HG1 : Hid (Goes w wr l R ns ns1) := hG1
      have HT1 : Hid (txN ns1 = txN ns ++ ts.take i) := hT1
      generalize laA R ns1 = u at hg2 HP
      clear hL1 hG1 hO1 hT1 hR1 hg
      go_wp2_with fail
      refine HP.mono ?_
      rintro e w1 ⟨rfl, hp⟩
      have HD1 : Hid (Does w B l R most (cnt + (i + 1)) ns (txN ns ++ ts.take (i + 1)) w1) := by
        obtain ⟨ns2, h1, h2, h3, h4⟩ := hp.does
        rw [List.append_nil] at h2
        exact ⟨ns2, h1, HG1.out.trans h2, h3, by rw [h4, HT1.out, HT.out, txN_nil, List.append_assoc]⟩
      clear hp HP
      go_wp2
      go_roundg (gk - 1)
      case measure => omega
      case rel => exact ⟨i + 1, by omega, by go_num, HD1⟩
    · have hin : i = n := by omega
      subst hin
      have HE : Hid (ts.take i = ts) := List.take_of_length_le (by have := HL.out; omega)
      rw [HE.out] at HD
      go_wp2
      go_ret
      exact ⟨rfl, HD.out⟩

set_option maxRecDepth 100000 in
set_option maxHeartbeats 4000000 in
theorem Left_ok (B l R most cnt : Nat) (ns : List Nd) (a : Option Addr) (n c : Nat) (ts : List ByteArray) (w : World) (h : Lst w B l R most cnt ns) (hok : Ok most ns) (hR : RdF w a n ts (l :: R :: fpN ns)) (hl : Fit ts) (hcnt : cnt + n ≤ 1000000) (hmost : 0 < most) :
    Calls Try.prog 56 #[ptr l, .slice a n c] w fun e w' => e = .returned (.int .i64 0) ∧ Does w B l R most (cnt + n) ns (ts.reverse ++ txN ns) w' := by
  have HC := ContainsFunc_long a n c ts w hR.rd (fun s hs => Nat.le_trans (hl s hs) (by decide)) false ⟨fun h => (by cases h), fun h => absurd hl h⟩
  have HL : Hid (ts.length = n) := hR.rd.len
  have HF : Hid (Fit ts) := hl
  have HD0 : Hid (Does w B l R most (cnt + 0) ns ((ts.take 0).reverse ++ txN ns) w) := ⟨ns, h, Goes.refl _ _ _ _, hok, by simp⟩
  have HR : Hid (RdF w a n ts (l :: R :: fpN ns)) := hR
  clear h hok hR hl
  go_enter Try.func56, Try.ntmps56
  go_wp2_with fail
  refine HC.mono ?_
  rintro e w ⟨rfl, rfl⟩
  clear HC
  go_wp2
  go_loopg [6, 11] n (fun g tv iv wr => ∃ i : Nat, i + g = n ∧ iv = .int .i64 i ∧ Hid (Does w B l R most (cnt + i) ns ((ts.take i).reverse ++ txN ns) wr))
  case atStart => exact ⟨0, by omega, rfl, HD0⟩
  case round =>
    obtain ⟨i, hi, rfl, HD⟩ := hrel
    by_cases h1 : (i : Int) < n
    · obtain ⟨ns1, hL1, hG1, hO1, hT1⟩ := HD.out
      have hR1 := HR.out.goes hG1
      obtain ⟨b, off, ha, hc⟩ := hR1.rd.cell i (by omega)
      subst ha
      have hil : i < ts.length := by have := HL.out; omega
      have hsz : (ts.getD i ByteArray.empty).size ≤ 4096 := short_get HF.out i hil
      have HT : Hid (ts.take (i + 1) = ts.take i ++ [ts.getD i ByteArray.empty]) := take_snocB ts i hil
      generalize ts.getD i ByteArray.empty = s at hc hsz HT
      have hcr := hL1.cring
      have HP := putBehind_any B l R most (cnt + i) [] ns1 s wr hL1 hO1 hsz (by omega) hmost
      rw [laA_nil] at HP
      have HG1 : Hid (Goes w wr l R ns ns1) := hG1
      have HT1 : Hid (txN ns1 = (ts.take i).reverse ++ txN ns) := hT1
      clear hL1 hG1 hO1 hT1 hR1
      go_wp2_with fail
      refine HP.mono ?_
      rintro e w1 ⟨rfl, hp⟩
      have HD1 : Hid (Does w B l R most (cnt + (i + 1)) ns ((ts.take (i + 1)).reverse ++ txN ns) w1) := by
        obtain ⟨ns2, h1, h2, h3, h4⟩ := hp.does
        exact ⟨ns2, h1, HG1.out.trans h2, h3, by rw [h4, HT1.out, HT.out, txN_nil, List.nil_append, List.reverse_append]; rfl⟩
      clear hp HP
      go_wp2
      go_roundg (gk - 1)
      case measure => omega
      case rel => exact ⟨i + 1, by omega, by go_num, HD1⟩
    · have hin : i = n := by omega
      subst hin
      have HE : Hid (ts.take i = ts) := List.take_of_length_le (by have := HL.out; omega)
      rw [HE.out] at HD
      go_wp2
      go_ret
      exact ⟨rfl, HD.out⟩
end Go.Proofs.Ytemiajjjhhofaab
