/- Texts that the others stand on. -/
import Derived.Test.YtmjeljldmmkcpabGreatG15
import Derived.Test.YtmjeljldmmkcpabGreatG14
import Derived.Test.YtmjeljldmmkcpabGreatG13
import Derived.Deep.OwnRows
import Derived.Laws.AppendOwnNone
import Derived.Laws.Rows
import Derived.Laws.Tables
namespace Go.Proofs.YtmjeljldmmkcpabGreat
open Go.RowKit Go.PlainAid
/-- Where the k-th text lies. -/
def FoundAt (ns : List Nd) (k : Nat) (e : Ending) : Prop := ∃ l1 d l2 j, ns = l1 ++ d :: l2 ∧ (txN l1).length + j = k ∧ j < d.ls.length ∧ e = .returned (.tuple #[ptr d.a, .int .i64 (j : Nat), .bool true])
set_option maxRecDepth 100000 in
set_option maxHeartbeats 4000000 in
theorem find_none (B l R most cnt : Nat) (ns : List Nd) (i : Int) (w : World) (h : Lst w B l R most cnt ns) (hcnt : cnt ≤ 1000000) (hk : plc cnt i = none) :
    Calls Tryz.prog 120 #[ptr l, .int .i64 i] w fun e w' => e = .returned (.tuple #[.pointer none, .int .i64 0, .bool false]) ∧ w' = w := by
  have hc := h.ccnt
  clear h
  have hw : IntKind.i64.wrap (-(cnt : Int)) = -(cnt : Int) := by rw [IntKind.wrap_i64]; omega
  by_cases h1 : i < -(cnt : Int)
  · go_enter Tryz.func120, Tryz.ntmps120
    go_wp2
    go_ret3
    exact ⟨rfl, rfl⟩
  · have h2 : (cnt : Int) ≤ i := by
      unfold plc at hk
      split at hk
      · split at hk
        · cases hk
        · omega
      · split at hk
        · cases hk
        · omega
    go_enter Tryz.func120, Tryz.ntmps120
    go_wp2
    go_ret3
    exact ⟨rfl, rfl⟩
set_option maxRecDepth 100000 in
set_option maxHeartbeats 4000000 in
theorem findQ_some (B l R most cnt : Nat) (ns : List Nd) (i : Int) (k : Nat) (w : World) (h : Lst w B l R most cnt ns) (hT : (txN ns).length = cnt) (hcnt : cnt ≤ 1000000) (hk : plc cnt i = some k) :
    Calls Tryz.prog 120 #[ptr l, .int .i64 i] w fun e w' => FoundAt ns k e ∧ w' = w := by
  have hc := h.ccnt
  have hcr := h.cring
  have HL : Hid (Lst w B l R most cnt ns) := h
  have HT : Hid ((txN ns).length = cnt) := hT
  have hw : IntKind.i64.wrap (-(cnt : Int)) = -(cnt : Int) := by rw [IntKind.wrap_i64]; omega
  by_cases hi : i < 0
  · have hik : i + cnt = k := by
      unfold plc at hk
      rw [if_neg (by omega)] at hk
      split at hk
      · have := Option.some.inj hk; omega
      · cases hk
    have h1 : ¬ (i < -(cnt : Int)) := by omega
    have h2 : ¬ ((cnt : Int) ≤ i) := by omega
    obtain ⟨m, hm⟩ : ∃ m, ns.length = m := ⟨_, rfl⟩
    have HM : Hid (ns.length = m) := hm
    clear h hk hT hm
    go_enter Tryz.func120, Tryz.ntmps120
    go_wp2
    go_loopg [1, 8] m (fun g iv nv wr => w = wr ∧ ∃ l1 l2 : List Nd, ∃ v : Nat, ∃ z : Int, iv = .int .i64 z ∧ nv = ptr v ∧ Hid (hdA R l2 = v) ∧ Hid (l1.length = g) ∧ Hid (ns = l1 ++ l2) ∧ Hid (z = i + (txN l2).length) ∧ Hid (l2 ≠ [] ∨ z < 0) ∧ Hid (∀ d r, l2 = d :: r → z < d.ls.length))
    case atStart => exact ⟨rfl, ns, [], R, i, rfl, rfl, rfl, HM, (by show _ = _; simp), (by show _ = _; rw [txN_nil]; simp), .inr hi, (fun d r e => by cases e)⟩
    case round =>
      obtain ⟨rfl, l1, l2, v, z, rfl, rfl, HV, HG, HE, HZ, HN, HH⟩ := hrel
      have HTl : Hid ((txN l1).length + (txN l2).length = cnt) := by
        have := HT.out
        rw [HE.out, txN_append, List.length_append] at this
        exact this
      by_cases hz : z < 0
      · rcases snoc_ex l1 with e1 | ⟨k1, d, e1⟩
        · exfalso
          have h1 := HTl.out
          have h2 := HZ.out
          rw [e1, txN_nil] at h1
          simp at h1
          omega
        · have hL : Lst w B l R most cnt (k1 ++ d :: l2) := by
            have := HL.out
            rw [HE.out, e1] at this
            simpa using this
          have hg := (Lst.gap (l1 := k1 ++ [d]) (l2 := l2) (by simpa using hL)).2
          rw [laA_snoc, HV.out] at hg
          have hcp := hL.cpk (d := d) (by simp)
          have HLen := Len_any B d.p d.r d.n d.c d.ls w (hL.nod d (by simp)).pk
          have hd6 := (hL.nod d (by simp)).siz
          have hdm := (hL.nod d (by simp)).pk.many
          have hz0 : -1000000 ≤ z := by have := HZ.out; omega
          have HE1 : Hid (ns = k1 ++ (d :: l2)) := by show _ = _; rw [HE.out, e1]; simp
          have HG1 : Hid (k1.length = gk - 1) := by have := HG.out; rw [e1] at this; simp at this; show _ = _; omega
          have hgk : gk ≠ 0 := by have := HG.out; rw [e1] at this; simp at this; omega
          have HZ1 : Hid (z + (d.ls.length : Nat) = i + (txN (d :: l2)).length) := by
            have := HZ.out
            show _ = _
            rw [txN_cons, List.length_append]; omega
          have HH1 : Hid (∀ e r, d :: l2 = e :: r → z + (d.ls.length : Nat) < e.ls.length) := by
            intro e r h
            injection h with h1 h2
            rw [← h1]
            omega
          obtain ⟨q, hq⟩ : ∃ q, d.ls.length = q := ⟨_, rfl⟩
          rw [hq] at HLen HZ1 HH1 hdm
          clear hL hq
          go_wp2_with fail
          refine HLen.mono ?_
          rintro e w ⟨rfl, rfl⟩
          go_wp2
          go_roundg (gk - 1)
          case measure => omega
          case rel => exact ⟨rfl, k1, d :: l2, d.a, z + q, by go_num, rfl, rfl, HG1, HE1, HZ1, .inl (by simp), HH1⟩
      · cases l2 with
        | nil => exact absurd (HN.out.resolve_left (by simp)) hz
        | cons d r =>
          have hvd : d.a = v := HV.out
          subst hvd
          have HR : Hid (FoundAt ns k (.returned (.tuple #[ptr d.a, .int .i64 z, .bool true]))) := by
            have h1 := HH.out d r rfl
            have h2 := HZ.out
            have h3 := HTl.out
            obtain ⟨j, hj⟩ : ∃ j : Nat, z = j := ⟨z.toNat, by omega⟩
            subst hj
            exact ⟨l1, d, r, j, HE.out, by omega, by omega, rfl⟩
          go_wp2
          go_ret3
          exact ⟨HR.out, rfl⟩
  · have hik : i = k ∧ k < cnt := by
      unfold plc at hk
      rw [if_pos (by omega)] at hk
      split at hk
      · have := Option.some.inj hk; omega
      · cases hk
    obtain ⟨rfl, hkc⟩ := hik
    have h1 : ¬ ((k : Int) < -(cnt : Int)) := by omega
    have h2 : ¬ ((cnt : Int) ≤ (k : Int)) := by omega
    have hg : w.cell? ⟨R, 2, none⟩ = some (ptr (hdA R ns)) := (Lst.gap (l1 := []) (l2 := ns) h).1
    obtain ⟨m, hm⟩ : ∃ m, ns.length = m := ⟨_, rfl⟩
    have HM : Hid (ns.length = m) := hm
    obtain ⟨v, hv⟩ : ∃ v, hdA R ns = v := ⟨_, rfl⟩
    have HV : Hid (hdA R ns = v) := hv
    rw [hv] at hg
    clear h hk hT hm hv
    go_enter Tryz.func120, Tryz.ntmps120
    go_wp2
    go_loopg [1, 8] m (fun g iv nv wr => w = wr ∧ ∃ l1 l2 : List Nd, ∃ v z : Nat, iv = .int .i64 (z : Nat) ∧ nv = ptr v ∧ Hid (hdA R l2 = v) ∧ Hid (l2.length = g) ∧ Hid (ns = l1 ++ l2) ∧ Hid ((txN l1).length + z = k) ∧ Hid (z < (txN l2).length))
    case atStart => exact ⟨rfl, [], ns, v, k, rfl, rfl, HV, HM, rfl, (by show _ = _; rw [txN_nil]; simp), (by have := HT.out; show _ < _; omega)⟩
    case round =>
      obtain ⟨rfl, l1, l2, v, z, rfl, rfl, HV, HG, HE, HZ, HN⟩ := hrel
      cases l2 with
      | nil => exact absurd HN.out (by rw [txN_nil]; simp)
      | cons d r =>
        have hvd : d.a = v := HV.out
        subst hvd
        have hL : Lst w B l R most cnt (l1 ++ d :: r) := by
          have := HL.out
          rw [HE.out] at this
          exact this
        have hg := (Lst.gap (l1 := l1 ++ [d]) (l2 := r) (by simpa using hL)).1
        rw [laA_snoc] at hg
        have hcp := hL.cpk (d := d) (by simp)
        have HLen := Len_any B d.p d.r d.n d.c d.ls w (hL.nod d (by simp)).pk
        have hzc : z ≤ 1000000 := by have := HZ.out; omega
        have hd6 := (hL.nod d (by simp)).siz
        have hdm := (hL.nod d (by simp)).pk.many
        obtain ⟨q, hq⟩ : ∃ q, d.ls.length = q := ⟨_, rfl⟩
        have HQ : Hid (d.ls.length = q) := hq
        rw [hq] at HLen hdm
        obtain ⟨v2, hv2⟩ : ∃ v2, hdA R r = v2 := ⟨_, rfl⟩
        have HV2 : Hid (hdA R r = v2) := hv2
        rw [hv2] at hg
        clear hL hq hv2
        by_cases hzq : q ≤ z
        · have hzq1 : (q : Int) ≤ (z : Int) := by omega
          have hgk : gk ≠ 0 := by have := HG.out; simp at this; omega
          have HG1 : Hid (r.length = gk - 1) := by have := HG.out; simp at this; show _ = _; omega
          have HE1 : Hid (ns = (l1 ++ [d]) ++ r) := by show _ = _; rw [HE.out]; simp
          have HZ1 : Hid ((txN (l1 ++ [d])).length + (z - q) = k) := by
            have := HZ.out
            have h3 := HQ.out
            show _ = _
            rw [txN_append, txN_cons, txN_nil]; simp only [List.length_append, List.length_nil]; omega
          have HN1 : Hid (z - q < (txN r).length) := by
            have := HN.out
            have h3 := HQ.out
            rw [txN_cons, List.length_append] at this
            show _ < _
            omega
          obtain ⟨y, hy⟩ : ∃ y, z - q = y := ⟨_, rfl⟩
          have hyi : (z : Int) - (q : Int) = y := by omega
          rw [hy] at HZ1 HN1
          go_wp2_with fail
          refine HLen.mono ?_
          rintro e w ⟨rfl, rfl⟩
          go_wp2_with fail
          refine HLen.mono ?_
          rintro e w ⟨rfl, rfl⟩
          go_wp2
          go_roundg (gk - 1)
          case measure => omega
          case rel => exact ⟨rfl, _, r, v2, y, by go_num, rfl, HV2, HG1, HE1, HZ1, HN1⟩
        · have hzq1 : ¬ ((q : Int) ≤ (z : Int)) := by omega
          have HR : Hid (FoundAt ns k (.returned (.tuple #[ptr d.a, .int .i64 (z : Nat), .bool true]))) := ⟨l1, d, r, z, HE.out, HZ.out, by have := HQ.out; omega, rfl⟩
          go_wp2_with fail
          refine HLen.mono ?_
          rintro e w ⟨rfl, rfl⟩
          go_wp2
          go_ret3
          exact ⟨HR.out, rfl⟩
theorem LenQ_any (B l R most cnt : Nat) (ns : List Nd) (w : World) (h : Lst w B l R most cnt ns) :
    Calls Tryz.prog 49 #[ptr l] w fun e w' => e = .returned (.int .i64 (cnt : Nat)) ∧ w' = w := by
  have hd := h.ccnt
  clear h
  go_enter Tryz.func49, Tryz.ntmps49
  go_wp2
  go_ret
  exact ⟨rfl, rfl⟩
/-- An empty list at l, its ring at R. -/
theorem Lst.made {w : World} {B l R most : Nat} (h1 : w.heap[l]? = some (.cells #[.int .i64 (most : Nat), .int .i64 ((0 : Nat) : Nat), ptr R] 76 (0, 0))) (h2 : w.heap[R]? = some (.cells #[.pointer none, ptr R, ptr R] 74 (0, 0))) (hl : B ≤ l) (hR : B ≤ R) (hne : l ≠ R) : Lst w B l R most 0 [] := by
  refine ⟨h1, ⟨_, _, h2⟩, ?_, fun d hd => absurd hd (by simp), ?_, hl, hR⟩
  · exact ⟨⟨by simp [World.cell?, h2], by simp [World.cell?, h2]⟩, trivial⟩
  · simp [fpN, hne]
set_option maxRecDepth 100000 in
theorem NewQ_any (m : Int) (w : World) (most : Nat) (hm : max m 1 = most) :
    Calls Tryz.prog 25 #[.int .i64 m] w fun e w' => Below w.heap.size w w' ∧ ∃ l R, e = .returned (ptr l) ∧ Lst w' w.heap.size l R most 0 [] := by
  have hW0 : (w.alloc (.cells #[.pointer none, .pointer none, .pointer none] 74)).heap[w.heap.size]? = some (.cells #[.pointer none, .pointer none, .pointer none] 74 (0, 0)) := heap_alloc_new w _
  obtain ⟨w0, hw0⟩ : ∃ w0, w.alloc (.cells #[.pointer none, .pointer none, .pointer none] 74) = w0 := ⟨_, rfl⟩
  have HB0 : Hid (Below w.heap.size w w0) := by rw [← hw0]; exact alloc_below w _
  rw [hw0] at hW0
  obtain ⟨G, hG⟩ : ∃ G, w.heap.size = G := ⟨_, rfl⟩
  have HG : Hid (w.heap.size = G) := hG
  rw [hG] at hW0
  have hc1 : w0.cell? ⟨G, 1, none⟩ = some (.pointer none) := by simp [World.cell?, hW0]
  have hf1 : w0.frozen? ⟨G, 1, none⟩ = false := by simp [World.frozen?, hW0]
  have hc2 : (w0.setCell ⟨G, 1, none⟩ (ptr G)).cell? ⟨G, 2, none⟩ = some (.pointer none) := by rw [cell_ne (fun e => absurd e.2 (by decide))]; simp [World.cell?, hW0]
  have hf2 : (w0.setCell ⟨G, 1, none⟩ (ptr G)).frozen? ⟨G, 2, none⟩ = false := by rw [World.frozen?_setCell]; simp [World.frozen?, hW0]
  have hW2 : ((w0.setCell ⟨G, 1, none⟩ (ptr G)).setCell ⟨G, 2, none⟩ (ptr G)).heap[G]? = some (.cells #[.pointer none, ptr G, ptr G] 74 (0, 0)) := by rw [heap_set (heap_set hW0 _)]; rfl
  obtain ⟨w2, hw2⟩ : ∃ w2, (w0.setCell ⟨G, 1, none⟩ (ptr G)).setCell ⟨G, 2, none⟩ (ptr G) = w2 := ⟨_, rfl⟩
  have hGG : w.heap.size ≤ G := Nat.le_of_eq hG
  have HB2 : Hid (Below w.heap.size w w2) := by
    rw [← hw2]
    have s1 : Stay w0 ((w0.setCell ⟨G, 1, none⟩ (ptr G)).setCell ⟨G, 2, none⟩ (ptr G)) [G] := Stay.set.trans Stay.set (fun _ hi => .inl hi)
    exact HB0.out.trans (s1.below (by simpa using hGG) HB0.out.size)
  have HW2 : Hid (w2.heap[G]? = some (.cells #[.pointer none, ptr G, ptr G] 74 (0, 0))) := by rw [← hw2]; exact hW2
  have HE : Hid (Lst (w2.alloc (.cells #[.int .i64 (most : Nat), .int .i64 0, ptr G] 76)) w.heap.size w2.heap.size G most 0 []) := by
    have hlt : G < w2.heap.size := (Array.getElem?_eq_some_iff.1 HW2.out).1
    refine Lst.made (heap_alloc_new w2 _) ?_ HB2.out.size hGG (by omega)
    rw [(alloc_below w2 _).block G hlt]
    exact HW2.out
  clear hW0 hW2 hGG HG
  subst hG
  by_cases h1 : m < 1
  · have h2 : most = 1 := by omega
    subst h2
    clear hm
    go_enter Tryz.func25, Tryz.ntmps25
    go_wp2
    go_ret
    refine ⟨HB2.out.trans ((alloc_below w2 _).mono HB2.out.size), w2.heap.size, ?_⟩
    first | exact ⟨_, rfl, HE.out⟩ | exact ⟨rfl, _, HE.out⟩
  · have h2 : m = most := by omega
    subst h2
    clear hm
    go_enter Tryz.func25, Tryz.ntmps25
    go_wp2
    go_ret
    refine ⟨HB2.out.trans ((alloc_below w2 _).mono HB2.out.size), w2.heap.size, ?_⟩
    first | exact ⟨_, rfl, HE.out⟩ | exact ⟨rfl, _, HE.out⟩
theorem tooLong_any (s : ByteArray) (w : World) (hs : s.size ≤ 1000000) : Calls Tryz.prog 27 #[.string s] w fun e w' => e = .returned (.bool (decide (4096 < s.size))) ∧ w' = w := by
  have hd : decide ((4096 : Int) < (s.size : Int)) = decide (4096 < s.size) := by
    rw [Bool.eq_iff_iff, decide_eq_true_eq, decide_eq_true_eq]; omega
  generalize decide (4096 < s.size) = b at hd
  go_enter Tryz.func27, Tryz.ntmps27
  go_wp2
  go_ret
  exact ⟨by rw [← hd]; rfl, rfl⟩
set_option maxRecDepth 100000 in
set_option maxHeartbeats 4000000 in
theorem IndexFunc_long (a : Option Addr) (n c : Nat) (ls : List ByteArray) (w : World) (hR : RdS w a n ls) (hs : ∀ s ∈ ls, s.size ≤ 1000000) :
    Calls Tryz.prog 57 #[.slice a n c, .func (.func 27) #[] #[]] w fun e w' => (∃ z : Int, e = .returned (.int .i64 z) ∧ (0 ≤ z ↔ ¬ Fit ls)) ∧ w' = w := by
  have HR : Hid (RdS w a n ls) := hR
  have HL : Hid (ls.length = n) := hR.len
  have HS : Hid (∀ s ∈ ls, s.size ≤ 1000000) := hs
  have hn : n ≤ 9223372036854775807 := by have := hR.max; unfold maxLen at this; omega
  clear hR hs
  go_enter Tryz.func57, Tryz.ntmps57
  go_wp2
  go_loopg [8] n (fun g iv wr => w = wr ∧ ∃ i : Nat, i + g = n ∧ iv = .int .i64 i ∧ Hid (Fit (ls.take i)))
  case atStart => exact ⟨rfl, 0, by omega, rfl, fun s hs => absurd hs (by simp)⟩
  case round =>
    obtain ⟨rfl, i, hi, rfl, HF⟩ := hrel
    by_cases h1 : (i : Int) < n
    · obtain ⟨b, off, ha, hc⟩ := HR.out.cell i (by omega)
      subst ha
      have hil : i < ls.length := by have := HL.out; omega
      have hsz := short_get HS.out i hil
      have HT : Hid (ls.take (i + 1) = ls.take i ++ [ls.getD i ByteArray.empty]) := take_snocB ls i hil
      have HMm : Hid (ls.getD i ByteArray.empty ∈ ls) := by
        show _ ∈ _
        rw [List.getD_eq_getElem?_getD, List.getElem?_eq_getElem hil]
        exact List.getElem_mem hil
      generalize ls.getD i ByteArray.empty = s at hc hsz HT HMm
      have HTo := tooLong_any s w hsz
      by_cases hlong : 4096 < s.size
      · rw [decide_eq_true hlong] at HTo
        have HNF : Hid (¬ Fit ls) := fun h => by have := h s HMm.out; omega
        go_wp2_with fail
        refine HTo.mono ?_
        rintro e w ⟨rfl, rfl⟩
        go_wp2
        go_ret
        exact ⟨⟨i, rfl, fun _ => HNF.out, fun _ => by omega⟩, rfl⟩
      · rw [decide_eq_false hlong] at HTo
        have HF2 : Hid (Fit (ls.take (i + 1))) := by
          show Fit _
          rw [HT.out]
          exact fit_append HF.out (fit_one (by omega))
        go_wp2_with fail
        refine HTo.mono ?_
        rintro e w ⟨rfl, rfl⟩
        go_wp2
        go_roundg (gk - 1)
        case measure => omega
        case rel => exact ⟨rfl, i + 1, by omega, by go_num, HF2⟩
    · have HFF : Hid (Fit ls) := by
        have := HF.out
        rw [List.take_of_length_le (by have := HL.out; omega)] at this
        exact this
      go_wp2
      go_ret
      exact ⟨⟨-1, rfl, fun h => absurd h (by decide), fun h => absurd HFF.out h⟩, rfl⟩
theorem ContainsFunc_long (a : Option Addr) (n c : Nat) (ls : List ByteArray) (w : World) (hR : RdS w a n ls) (hs : ∀ s ∈ ls, s.size ≤ 1000000) (b : Bool) (hb : b = true ↔ ¬ Fit ls) :
    Calls Tryz.prog 26 #[.slice a n c, .func (.func 27) #[] #[]] w fun e w' => e = .returned (.bool b) ∧ w' = w := by
  have HI := IndexFunc_long a n c ls w hR hs
  clear hR hs
  go_enter Tryz.func26, Tryz.ntmps26
  go_wp2_with fail
  refine HI.mono ?_
  rintro e w ⟨⟨z, rfl, hz⟩, rfl⟩
  have HZ : Hid (decide (0 ≤ z) = b) := by
    show _ = _
    rw [Bool.eq_iff_iff, decide_eq_true_eq, hz, hb]
  clear hz hb HI
  go_wp2
  go_ret
  exact ⟨by rw [← HZ.out]; rfl, rfl⟩
/-- A row of texts that lies outside a list. -/
structure RdF (w : World) (a : Option Addr) (n : Nat) (ls : List ByteArray) (F : List Nat) : Prop where
  rd : RdS w a n ls
  far : ∀ x, a = some x → x.block ∉ F ∧ x.block < w.heap.size
theorem RdF.goes {w w' : World} {l R : Nat} {ns ns' : List Nd} {a : Option Addr} {n : Nat} {ls : List ByteArray} (h : RdF w a n ls (l :: R :: fpN ns)) (hg : Goes w w' l R ns ns') : RdF w' a n ls (l :: R :: fpN ns') := by
  refine ⟨⟨h.rd.len, h.rd.max, fun j hj => ?_⟩, fun x hx => ?_⟩
  · obtain ⟨b, off, e, hc⟩ := h.rd.cell j hj
    refine ⟨b, off, e, ?_⟩
    obtain ⟨h1, h2⟩ := h.far _ e
    rw [World.cell?_of_block (hg.stay.block b h2 h1)]
    exact hc
  · obtain ⟨h1, h2⟩ := h.far x hx
    refine ⟨fun hm => h1 ?_, Nat.lt_of_lt_of_le h2 hg.stay.size⟩
    simp only [List.mem_cons] at hm ⊢
    rcases hm with hm | hm | hm
    · exact .inl hm
    · exact .inr (.inl hm)
    · rcases hg.new _ hm with h3 | h3
      · exact .inr (.inr h3)
      · omega
/-- What putBehind makes, as what the list has. -/
theorem PutAt.does {w w' : World} {B l R most cnt : Nat} {l1 l2 : List Nd} {s : ByteArray} (h : PutAt w B l R most cnt l1 l2 s w') : Does w B l R most (cnt + 1) (l1 ++ l2) (txN l1 ++ (s :: txN l2)) w' := by
  obtain ⟨M1, mid, M2, h1, h2, h3, -, -, h4⟩ := h
  exact ⟨_, h1, h2, h3, by rw [txN_append, txN_append]; exact h4⟩
set_option maxRecDepth 100000 in
set_option maxHeartbeats 4000000 in
theorem Right_ok (B l R most cnt : Nat) (ns : List Nd) (a : Option Addr) (n c : Nat) (ts : List ByteArray) (w : World) (h : Lst w B l R most cnt ns) (hok : Ok most ns) (hR : RdF w a n ts (l :: R :: fpN ns)) (hl : Fit ts) (hcnt : cnt + n ≤ 1000000) (hmost : 0 < most) :
    Calls Tryz.prog 6 #[ptr l, .slice a n c] w fun e w' => e = .returned (.int .i64 0) ∧ Does w B l R most (cnt + n) ns (txN ns ++ ts) w' := by
  have HC := ContainsFunc_long a n c ts w hR.rd (fun s hs => Nat.le_trans (hl s hs) (by decide)) false ⟨fun h => (by cases h), fun h => absurd hl h⟩
  have HL : Hid (ts.length = n) := hR.rd.len
  have HF : Hid (Fit ts) := hl
  have HD0 : Hid (Does w B l R most (cnt + 0) ns (txN ns ++ ts.take 0) w) := ⟨ns, h, Goes.refl _ _ _ _, hok, by simp⟩
  have HR : Hid (RdF w a n ts (l :: R :: fpN ns)) := hR
  clear h hok hR hl
  go_enter Tryz.func6, Tryz.ntmps6
  go_wp2_with fail
  refine HC.mono ?_
  rintro e w ⟨rfl, rfl⟩
  clear HC
  go_wp2
  go_loopg [6, 11] n (fun g tv iv wr => ∃ i : Nat, i + g = n ∧ iv = .int .i64 i ∧ Hid (Does w B l R most (cnt + i) ns (txN ns ++ ts.take i) wr))
  case atStart => exact ⟨0, by omega, rfl, HD0⟩
  case round =>
    obtain ⟨i, hi, rfl, HD⟩ := hrel
    by_cases h1 : (i : Int) < n
    · obtain ⟨ns1, hL1, hG1, hO1, hT1⟩ := HD.out
      have hR1 := HR.out.goes hG1
      obtain ⟨b, off, ha, hc⟩ := hR1.rd.cell i (by omega)
      subst ha
      have hil : i < ts.length := by have := HL.out; omega
      have hsz : (ts.getD i ByteArray.empty).size ≤ 4096 := short_get HF.out i hil
      have HT : Hid (ts.take (i + 1) = ts.take i ++ [ts.getD i ByteArray.empty]) := take_snocB ts i hil
      generalize ts.getD i ByteArray.empty = s at hc hsz HT
      have hcr := hL1.cring
      have hg := (Lst.gap (l1 := ns1) (l2 := []) (by rw [List.append_nil]; exact hL1)).2
      have hg2 : wr.cell? ⟨R, 1, none⟩ = some (ptr (laA R ns1)) := hg
      have HP := putBehind_any B l R most (cnt + i) ns1 [] s wr (by rw [List.append_nil]; exact hL1) (by rw [List.append_nil]; exact hO1) hsz (by omega) hmost
      have HG1 : Hid (Goes w wr l R ns ns1) := hG1
      have HT1 : Hid (txN ns1 = txN ns ++ ts.take i) := hT1
      generalize laA R ns1 = u at hg2 HP
      clear hL1 hG1 hO1 hT1 hR1 hg
      go_wp2_with fail
      refine HP.mono ?_
      rintro e w1 ⟨rfl, hp⟩
      have HD1 : Hid (Does w B l R most (cnt + (i + 1)) ns (txN ns ++ ts.take (i + 1)) w1) := by
        obtain ⟨ns2, h1, h2, h3, h4⟩ := hp.does
        rw [List.append_nil] at h2
        exact ⟨ns2, h1, HG1.out.trans h2, h3, by rw [h4, HT1.out, HT.out, txN_nil, List.append_assoc]⟩
      clear hp HP
      go_wp2
      go_roundg (gk - 1)
      case measure => omega
      case rel => exact ⟨i + 1, by omega, by go_num, HD1⟩
    · have hin : i = n := by omega
      subst hin
      have HE : Hid (ts.take i = ts) := List.take_of_length_le (by have := HL.out; omega)
      rw [HE.out] at HD
      go_wp2
      go_ret
      exact ⟨rfl, HD.out⟩
set_option maxRecDepth 100000 in
set_option maxHeartbeats 4000000 in
theorem Left_ok (B l R most cnt : Nat) (ns : List Nd) (a : Option Addr) (n c : Nat) (ts : List ByteArray) (w : World) (h : Lst w B l R most cnt ns) (hok : Ok most ns) (hR : RdF w a n ts (l :: R :: fpN ns)) (hl : Fit ts) (hcnt : cnt + n ≤ 1000000) (hmost : 0 < most) :
    Calls Tryz.prog 13 #[ptr l, .slice a n c] w fun e w' => e = .returned (.int .i64 0) ∧ Does w B l R most (cnt + n) ns (ts.reverse ++ txN ns) w' := by
  have HC := ContainsFunc_long a n c ts w hR.rd (fun s hs => Nat.le_trans (hl s hs) (by decide)) false ⟨fun h => (by cases h), fun h => absurd hl h⟩
  have HL : Hid (ts.length = n) := hR.rd.len
  have HF : Hid (Fit ts) := hl
  have HD0 : Hid (Does w B l R most (cnt + 0) ns ((ts.take 0).reverse ++ txN ns) w) := ⟨ns, h, Goes.refl _ _ _ _, hok, by simp⟩
  have HR : Hid (RdF w a n ts (l :: R :: fpN ns)) := hR
  clear h hok hR hl
  go_enter Tryz.func13, Tryz.ntmps13
  go_wp2_with fail
  refine HC.mono ?_
  rintro e w ⟨rfl, rfl⟩
  clear HC
  go_wp2
  go_loopg [6, 11] n (fun g tv iv wr => ∃ i : Nat, i + g = n ∧ iv = .int .i64 i ∧ Hid (Does w B l R most (cnt + i) ns ((ts.take i).reverse ++ txN ns) wr))
  case atStart => exact ⟨0, by omega, rfl, HD0⟩
  case round =>
    obtain ⟨i, hi, rfl, HD⟩ := hrel
    by_cases h1 : (i : Int) < n
    · obtain ⟨ns1, hL1, hG1, hO1, hT1⟩ := HD.out
      have hR1 := HR.out.goes hG1
      obtain ⟨b, off, ha, hc⟩ := hR1.rd.cell i (by omega)
      subst ha
      have hil : i < ts.length := by have := HL.out; omega
      have hsz : (ts.getD i ByteArray.empty).size ≤ 4096 := short_get HF.out i hil
      have HT : Hid (ts.take (i + 1) = ts.take i ++ [ts.getD i ByteArray.empty]) := take_snocB ts i hil
      generalize ts.getD i ByteArray.empty = s at hc hsz HT
      have hcr := hL1.cring
      have HP := putBehind_any B l R most (cnt + i) [] ns1 s wr hL1 hO1 hsz (by omega) hmost
      rw [laA_nil] at HP
      have HG1 : Hid (Goes w wr l R ns ns1) := hG1
      have HT1 : Hid (txN ns1 = (ts.take i).reverse ++ txN ns) := hT1
      clear hL1 hG1 hO1 hT1 hR1
      go_wp2_with fail
      refine HP.mono ?_
      rintro e w1 ⟨rfl, hp⟩
      have HD1 : Hid (Does w B l R most (cnt + (i + 1)) ns ((ts.take (i + 1)).reverse ++ txN ns) w1) := by
        obtain ⟨ns2, h1, h2, h3, h4⟩ := hp.does
        exact ⟨ns2, h1, HG1.out.trans h2, h3, by rw [h4, HT1.out, HT.out, txN_nil, List.nil_append, List.reverse_append]; rfl⟩
      clear hp HP
      go_wp2
      go_roundg (gk - 1)
      case measure => omega
      case rel => exact ⟨i + 1, by omega, by go_num, HD1⟩
    · have hin : i = n := by omega
      subst hin
      have HE : Hid (ts.take i = ts) := List.take_of_length_le (by have := HL.out; omega)
      rw [HE.out] at HD
      go_wp2
      go_ret
      exact ⟨rfl, HD.out⟩
def fs (n : Nat) (i : Int) : Int := if i < 0 then i + n else i
def spA (n : Nat) (a : Int) : Int := max (fs n a) 0
def spB (n : Nat) (b : Int) : Int := min (fs n b) ((n : Int) - 1)
/-- Where the span from a to b begins and ends. -/
def spF (n : Nat) (a b : Int) : Nat := if spB n b < spA n a then 0 else (spA n a).toNat
def spT (n : Nat) (a b : Int) : Nat := if spB n b < spA n a then 0 else (spB n b + 1).toNat
abbrev I64 (i : Int) : Prop := -9223372036854775808 ≤ i ∧ i ≤ 9223372036854775807
theorem sp_le (n : Nat) (a b : Int) : spF n a b ≤ spT n a b ∧ spT n a b ≤ n := by
  unfold spF spT
  split
  · omega
  · have : 0 ≤ spA n a := by unfold spA; omega
    have : spB n b ≤ (n : Int) - 1 := by unfold spB; omega
    omega
set_option maxRecDepth 100000 in
theorem span_any (n : Nat) (a b : Int) (w : World) (ha : I64 a) (hb : I64 b) (hn : n ≤ 1000000) :
    Calls Tryz.prog 119 #[.int .i64 n, .int .i64 a, .int .i64 b] w fun e w' => e = .returned (.tuple #[.int .i64 (spF n a b : Nat), .int .i64 (spT n a b : Nat)]) ∧ w' = w := by
  have HF : Hid (spF n a b = if spB n b < spA n a then 0 else (spA n a).toNat) := rfl
  have HT : Hid (spT n a b = if spB n b < spA n a then 0 else (spB n b + 1).toNat) := rfl
  have hA : max (fs n a) 0 = spA n a := rfl
  have hB : min (fs n b) ((n : Int) - 1) = spB n b := rfl
  have hX : (a < 0 ∧ fs n a = a + n) ∨ (0 ≤ a ∧ fs n a = a) := by unfold fs; split <;> omega
  have hY : (b < 0 ∧ fs n b = b + n) ∨ (0 ≤ b ∧ fs n b = b) := by unfold fs; split <;> omega
  generalize fs n a = X at *
  generalize fs n b = Y at *
  generalize spA n a = A at *
  generalize spB n b = B at *
  have hA' : (X < 0 ∧ A = 0) ∨ (0 ≤ X ∧ A = X) := by omega
  have hB' : ((n : Int) - 1 < Y ∧ B = n - 1) ∨ (Y ≤ (n : Int) - 1 ∧ B = Y) := by omega
  have hn0 : IntKind.i64.wrap ((n : Int) - 1) = (n : Int) - 1 := by rw [IntKind.wrap_i64]; omega
  clear hA hB
  by_cases h : B < A
  · rw [if_pos h] at HF HT
    rcases hX with ⟨h1, rfl⟩ | ⟨h1, rfl⟩ <;> rcases hY with ⟨h2, rfl⟩ | ⟨h2, rfl⟩ <;> rcases hA' with ⟨h3, rfl⟩ | ⟨h3, rfl⟩ <;> rcases hB' with ⟨h4, rfl⟩ | ⟨h4, rfl⟩ <;> first
    | (exfalso; omega)
    | (go_enter Tryz.func119, Tryz.ntmps119
       go_wp2
       go_ret2
       exact ⟨by rw [HF.out, HT.out]; rfl, rfl⟩)
  · rw [if_neg h] at HF HT
    obtain ⟨x, hx⟩ : ∃ x : Nat, A = x := ⟨A.toNat, by omega⟩
    obtain ⟨y, hy⟩ : ∃ y : Nat, B + 1 = y := ⟨(B + 1).toNat, by omega⟩
    have hFx : spF n a b = x := by rw [HF.out, hx]; rfl
    have hTy : spT n a b = y := by rw [HT.out, hy]; rfl
    rw [hFx, hTy]
    clear HF HT hFx hTy
    rcases hX with ⟨h1, rfl⟩ | ⟨h1, rfl⟩ <;> rcases hY with ⟨h2, rfl⟩ | ⟨h2, rfl⟩ <;> rcases hA' with ⟨h3, rfl⟩ | ⟨h3, rfl⟩ <;> rcases hB' with ⟨h4, rfl⟩ | ⟨h4, rfl⟩ <;> first
    | (exfalso; omega)
    | (go_enter Tryz.func119, Tryz.ntmps119
       go_wp2
       go_ret2
       first | exact ⟨rfl, rfl⟩ | (refine ⟨?_, rfl⟩; rw [← hx, ← hy]; rfl))
theorem sp_lt (n : Nat) (a b : Int) (h : 0 < n) : spF n a b < n := by
  unfold spF
  split
  · exact h
  · have : 0 ≤ spA n a := by unfold spA; omega
    have : spB n b ≤ (n : Int) - 1 := by unfold spB; omega
    omega
theorem plc_nat {m k : Nat} (h : k < m) : plc m (k : Int) = some k := by unfold plc; rw [if_pos (by omega), if_pos (by omega)]; simp
/-- Where Range stands. -/
def At2 (R : Nat) (ns : List Nd) (T : List ByteArray) (p : Nat) (nv av : Value) : Prop :=
  ∃ l1 l2 j, ns = l1 ++ l2 ∧ nv = ptr (hdA R l2) ∧ av = .int .i64 (j : Nat) ∧ (txN l2).drop j = T.drop p ∧ ∀ d r, l2 = d :: r → j < d.ls.length
set_option maxRecDepth 100000 in
set_option maxHeartbeats 400000 in
theorem Range_any (B l R most cnt : Nat) (ns : List Nd) (a b : Int) (w : World) (h : Lst w B l R most cnt ns) (hok : Ok most ns) (hT : (txN ns).length = cnt) (hcnt : cnt ≤ 1000000) (ha : I64 a) (hb : I64 b) :
    Calls Tryz.prog 81 #[ptr l, .int .i64 a, .int .i64 b] w fun e w' => Below w.heap.size w w' ∧ ∃ a2 n2 c2, e = .returned (.slice a2 n2 c2) ∧ OwnS w' w.heap.size a2 n2 c2 (((txN ns).take (spT cnt a b)).drop (spF cnt a b)) := by
  have hc := h.ccnt
  have HS := span_any cnt a b w ha hb hcnt
  obtain ⟨h1, h2⟩ := sp_le cnt a b
  have hlt := sp_lt cnt a b
  generalize spF cnt a b = x at *
  generalize spT cnt a b = y at *
  have HL : Hid (Lst w B l R most cnt ns) := h
  have HOk : Hid (Ok most ns) := hok
  have HT : Hid ((txN ns).length = cnt) := hT
  obtain ⟨tot, htot⟩ : ∃ tot, y - x = tot := ⟨_, rfl⟩
  have hti : (y : Int) - (x : Int) = tot := by omega
  obtain ⟨T, hTT⟩ : ∃ T, txN ns = T := ⟨_, rfl⟩
  have HTT : Hid (txN ns = T) := hTT
  have HTl : Hid (T.length = cnt) := by rw [← hTT]; exact hT
  have HF : Calls Tryz.prog 120 #[ptr l, .int .i64 (x : Nat)] w fun e w' => (∃ nv av bv, e = .returned (.tuple #[nv, av, bv]) ∧ (0 = tot ∨ At2 R ns T (x + 0) nv av)) ∧ w' = w := by
    rcases Nat.eq_zero_or_pos cnt with h0 | h0
    · refine (find_none B l R most cnt ns x w h hcnt (by unfold plc; rw [if_pos (by omega), if_neg (by omega)])).mono ?_
      rintro e w' ⟨rfl, rfl⟩
      exact ⟨⟨_, _, _, rfl, .inl (by omega)⟩, rfl⟩
    · refine (findQ_some B l R most cnt ns x x w h hT hcnt (plc_nat (hlt h0))).mono ?_
      rintro e w' ⟨⟨l1, d, l2, j, e1, e2, e3, rfl⟩, rfl⟩
      refine ⟨⟨_, _, _, rfl, .inr ⟨l1, d :: l2, j, e1, rfl, rfl, ?_, ?_⟩⟩, rfl⟩
      · rw [← hTT, e1, txN_append, Nat.add_zero, ← e2, ← List.drop_drop, List.drop_left]
      · intro d' r' h'
        injection h' with h1 h2
        rw [← h1]; exact e3
  have HRes : Hid ((T.drop x).take tot = (T.take y).drop x) := by
    show _ = _
    rw [List.drop_take, ← htot]
  have HO0 : Hid (OwnS w w.heap.size none 0 0 ((T.drop x).take 0)) := World.ownsRow_nil w _ 9 1
  rw [hTT]
  clear h hok hT hTT htot hlt
  go_enter Tryz.func81, Tryz.ntmps81
  go_wp2_with fail
  refine HS.mono ?_
  rintro e w ⟨rfl, rfl⟩
  go_wp2_with fail
  refine HF.mono ?_
  rintro e w ⟨⟨nv0, av0, bv0, rfl, hAt⟩, rfl⟩
  have HAt : Hid (0 = tot ∨ At2 R ns T (x + 0) nv0 av0) := hAt
  clear hAt HF HS
  go_wp2
  go_loopg [9, 10, 11, 13] tot (fun g tv nv av mv wr => ∃ k a2 c2, k + g = tot ∧ tv = .slice a2 k c2 ∧ Hid (OwnS wr w.heap.size a2 k c2 ((T.drop x).take k)) ∧ Hid (Below w.heap.size w wr) ∧ Hid (k = tot ∨ At2 R ns T (x + k) nv av))
  case atStart => exact ⟨0, none, 0, by omega, rfl, HO0, Below.refl _ _, HAt⟩
  case round =>
    obtain ⟨k, a2, c2, hk, rfl, HO, HB, HAt⟩ := hrel
    by_cases hkt : k < tot
    · rcases HAt.out with h0 | ⟨l1, l2, j, e1, rfl, rfl, e4, e5⟩
      · omega
      · cases l2 with
        | nil =>
          exfalso
          have := congrArg List.length e4
          rw [txN_nil, List.length_drop, List.length_drop, HTl.out] at this
          simp at this
          omega
        | cons d r =>
          have hjd := e5 d r rfl
          have hL : Lst wr B l R most cnt (l1 ++ d :: r) := by have := HL.out.keep HB.out; rw [e1] at this; exact this
          have hcp := hL.cpk (d := d) (by simp)
          have hg : wr.cell? ⟨d.a, 2, none⟩ = some (ptr (hdA R r)) := by
            have := (Lst.gap (l1 := l1 ++ [d]) (l2 := r) (by simpa using hL)).1
            rw [laA_snoc] at this
            exact this
          have hdN := hL.nod d (by simp)
          have hdm := hdN.pk.many
          have hd6 := hdN.siz
          have HAl := All_any B d.p d.r d.n d.c d.ls wr hdN.pk hdN.fit (by omega)
          obtain ⟨q, hq⟩ : ∃ q, min (d.ls.length - j) (tot - k) = q := ⟨_, rfl⟩
          have HQ : Hid ((T.drop x).take k ++ (d.ls.drop j).take q = (T.drop x).take (k + q)) := by
            show _ = _
            rw [List.take_add, List.drop_drop, ← e4, txN_cons, List.drop_append_of_le_length (by omega), List.take_append_of_le_length (by rw [List.length_drop]; omega)]
          have HN : Hid (k + q = tot ∨ At2 R ns T (x + (k + q)) (ptr (hdA R r)) (.int .i64 ((0 : Nat) : Nat))) := by
            by_cases hlast : d.ls.length - j ≤ tot - k
            · right
              have hqq : q = d.ls.length - j := by omega
              refine ⟨l1 ++ [d], r, 0, by rw [e1]; simp, rfl, rfl, ?_, ?_⟩
              · rw [List.drop_zero, ← Nat.add_assoc, ← List.drop_drop, ← e4, List.drop_drop, txN_cons, show j + q = d.ls.length by omega, List.drop_left]
              · intro d' r' h'
                exact (HOk.out d' (by rw [e1, h']; simp)).1
            · left
              omega
          have hq0 : 0 < q ∧ q ≤ d.ls.length - j ∧ q ≤ tot - k := by omega
          have HDk : Hid (k + 65536 ≤ 1000000 + 65536 ∧ d.ls.length ≤ 65536) := by constructor <;> omega
          obtain ⟨v2, hv2⟩ : ∃ v2, hdA R r = v2 := ⟨_, rfl⟩
          rw [hv2] at hg HN
          have HOk2 : Hid (k + q ≤ 1000000) := by show _ ≤ _; omega
          obtain ⟨dk, hdk⟩ : ∃ dk, d.ls.length = dk := ⟨_, rfl⟩
          have HDl : Hid (d.ls.length = dk) := hdk
          rw [hdk] at hjd hq hq0
          have HG2 : Hid (∀ w', Below w.heap.size w w' → w'.cell? ⟨d.a, 2, none⟩ = some (ptr v2)) := fun w' hb => by
            have h3 : Lst w' B l R most cnt (l1 ++ d :: r) := by have := HL.out.keep hb; rw [e1] at this; exact this
            have := (Lst.gap (l1 := l1 ++ [d]) (l2 := r) (by simpa using h3)).1
            rw [laA_snoc, hv2] at this
            exact this
          clear hL hdN e1 e4 e5 hv2 HAt hdk hdm
          rw [show hdA R (d :: r) = d.a from rfl]
          go_wp2_with fail
          refine HAl.mono ?_
          rintro e w1 ⟨hb, a3, n3, c3, rfl, hO3⟩
          have hn3 : n3 = dk := by have := hO3.len; have := HDl.out; omega
          subst hn3
          have HB1 := step_below HB hb
          have HO1 : Hid (OwnS w1 w.heap.size a2 k c2 ((T.drop x).take k)) := HO.out.keep hb
          obtain ⟨a4, c4, s4, hR4⟩ := hO3.rl.slice_l j (by omega)
          obtain ⟨a5, c5, s5, hR5⟩ := hR4.slice_h q (by omega)
          have HR5 : Hid (RdL w1 a5 q c5 ((d.ls.drop j).take q)) := hR5
          clear hb hO3 hR4 hR5 HAl hg
          obtain ⟨tk, htk⟩ : ∃ tk, tot - k = tk := ⟨_, rfl⟩
          obtain ⟨nj, hnj⟩ : ∃ nj, n3 - j = nj := ⟨_, rfl⟩
          have hmj : (tot : Int) - (k : Int) = tk := by omega
          rw [hnj] at s4 s5
          by_cases hlast : nj ≤ tk
          · have hqq : q = nj := by omega
            subst hqq
            have hle : ¬ ((tk : Int) < (q : Int)) := by omega
            go_wp2_with (at_builtin; refine append_strs rfl (.tmp 44) (.tmp 55) rfl w.heap.size rfl HO1.out rfl HR5.out HOk2.out HB1.out.size ?_; intro a6 n6 c6 w6 hn6 HO6 HB6; replace HB6 : Hid (Below w.heap.size w w6) := HB1.out.trans HB6.out; have hg6 := HG2.out w6 HB6.out)
            subst hn6
            go_roundg (gk - q)
            case measure => omega
            case rel => exact ⟨k + q, _, _, by omega, rfl, by rw [HQ.out] at HO6; exact HO6, HB6, HN⟩
          · have hqq : q = tk := by omega
            subst hqq
            have hle : (q : Int) < (nj : Int) := by omega
            go_wp2_with (at_builtin; refine append_strs rfl (.tmp 44) (.tmp 55) rfl w.heap.size rfl HO1.out rfl HR5.out HOk2.out HB1.out.size ?_; intro a6 n6 c6 w6 hn6 HO6 HB6; replace HB6 : Hid (Below w.heap.size w w6) := HB1.out.trans HB6.out; have hg6 := HG2.out w6 HB6.out)
            subst hn6
            go_roundg (gk - q)
            case measure => omega
            case rel => exact ⟨k + q, _, _, by omega, rfl, by rw [HQ.out] at HO6; exact HO6, HB6, HN⟩
    · have hkk : k = tot := by omega
      subst hkk
      have hkt1 : ¬ ((k : Int) < (k : Int)) := by omega
      rw [HRes.out] at HO
      go_wp2
      go_ret
      exact ⟨HB.out, _, _, _, rfl, HO.out⟩
/-- What spans all. -/
theorem sp_all (n : Nat) : spF n 0 (-1) = 0 ∧ spT n 0 (-1) = n := by
  have hA : spA n 0 = 0 := by unfold spA fs; rw [if_neg (by decide)]; decide
  have hB : spB n (-1) = (n : Int) - 1 := by unfold spB fs; rw [if_pos (by decide)]; omega
  unfold spF spT
  rw [hA, hB]
  by_cases h : n = 0
  · rw [if_pos (by omega), if_pos (by omega)]; exact ⟨rfl, h.symm⟩
  · rw [if_neg (by omega), if_neg (by omega)]; exact ⟨rfl, by omega⟩
set_option maxRecDepth 100000 in
theorem AllQ_any (B l R most cnt : Nat) (ns : List Nd) (w : World) (h : Lst w B l R most cnt ns) (hok : Ok most ns) (hT : (txN ns).length = cnt) (hcnt : cnt ≤ 1000000) :
    Calls Tryz.prog 46 #[ptr l] w fun e w' => Below w.heap.size w w' ∧ ∃ a2 n2 c2, e = .returned (.slice a2 n2 c2) ∧ OwnS w' w.heap.size a2 n2 c2 (txN ns) := by
  have HR := Range_any B l R most cnt ns 0 (-1) w h hok hT hcnt (by decide) (by decide)
  rw [(sp_all cnt).1, (sp_all cnt).2, List.drop_zero, List.take_of_length_le (by omega)] at HR
  clear h hok hT
  go_enter Tryz.func46, Tryz.ntmps46
  go_wp2_with fail
  refine HR.mono ?_
  rintro e w1 ⟨hb, a2, n2, c2, rfl, hO⟩
  have HB : Hid (Below w.heap.size w w1) := hb
  have HO : Hid (OwnS w1 w.heap.size a2 n2 c2 (txN ns)) := hO
  clear hb hO HR
  go_wp2
  go_ret
  exact ⟨HB.out, _, _, _, rfl, HO.out⟩
/-- A slice that reads the numbers ls. -/
structure RdI (w : World) (a : Option Addr) (n : Nat) (ls : List Nat) : Prop where
  len : ls.length = n
  max : n ≤ maxLen
  cell : ∀ j, j < n → ∃ b off, a = some ⟨b, off, none⟩ ∧ w.cell? ⟨b, off + j, none⟩ = some (.int .i64 (ls.getD j 0 : Nat))
theorem RdI.keep {w wn : World} {a : Option Addr} {n : Nat} {ls : List Nat} (h : RdI w a n ls) (hb : Below w.heap.size w wn) : RdI wn a n ls :=
  ⟨h.len, h.max, fun j hj => by
    obtain ⟨b, off, e, hc⟩ := h.cell j hj
    exact ⟨b, off, e, by rw [hb.cell (p := ⟨b, off + j, none⟩) (World.block_lt_of_cell? _ _ hc)]; exact hc⟩⟩
/-- The numbers as cells. -/
def icells (ls : List Nat) : List Value := ls.map fun (b : Nat) => Value.int .i64 (b : Int)
theorem icells_append (l r : List Nat) : icells (l ++ r) = icells l ++ icells r := List.map_append ..
/-- A row of numbers of the call's own. -/
def OwnI (w : World) (B : Nat) (a : Option Addr) (n cap : Nat) (ls : List Nat) : Prop := w.ownsRow B 3 1 (.slice a n cap) n (icells ls)
theorem OwnI.nil (w : World) (B : Nat) : OwnI w B none 0 0 [] := World.ownsRow_nil w B 3 1
theorem OwnI.len {w : World} {B : Nat} {a : Option Addr} {n cap : Nat} {ls : List Nat} (h : OwnI w B a n cap ls) : ls.length = n := by
  have := h.1; simpa [icells] using this
theorem OwnI.keep {w wn : World} {B : Nat} {a : Option Addr} {n cap : Nat} {l : List Nat} (h : OwnI w B a n cap l) (hb : Below w.heap.size w wn) : OwnI wn B a n cap l := by
  refine ⟨h.1, ?_⟩
  rcases h.2 with h2 | ⟨g, c, cur, h1, h3, h4, h5⟩
  · exact .inl h2
  · refine .inr ⟨g, c, cur, h1, h3, ?_, h5⟩
    rw [hb.block g (Array.getElem?_eq_some_iff.1 h4).1]; exact h4
theorem OwnI.kept {w wn : World} {B : Nat} {a : Option Addr} {n cap : Nat} {l : List Nat} {row : Option Nat} (h : OwnI w B a n cap l) (hg : w.grownBy wn row) (hne : ∀ g, a = some ⟨g, 0, none⟩ → row ≠ some g) : OwnI wn B a n cap l := by
  refine ⟨h.1, ?_⟩
  rcases h.2 with h2 | ⟨g, c, cur, h1, h3, h4, h5⟩
  · exact .inl h2
  · refine .inr ⟨g, c, cur, h1, h3, ?_, h5⟩
    cases h1
    rw [hg.block g (Array.getElem?_eq_some_iff.1 h4).1 (fun e => hne g rfl e.symm)]; exact h4
theorem OwnI.rd {w : World} {B : Nat} {a : Option Addr} {n cap : Nat} {ls : List Nat} (h : OwnI w B a n cap ls) : RdI w a n ls := by
  have hl := h.len
  rcases h.2 with ⟨h2, h3⟩ | ⟨g, c, cur, h1, h3, h4, h5, h6, h7, h8⟩
  · cases h2
    exact RdI.mk hl (by rw [h3]; decide) (fun j hj => absurd hj (by omega))
  · cases h1
    refine RdI.mk hl (Nat.le_trans h5 h6) (fun j hj => ⟨g, 0, rfl, ?_⟩)
    have := h.cells (g := g) rfl j (.int .i64 (ls.getD j 0 : Nat)) (by
      simp only [icells, List.getElem?_map, List.getD_eq_getElem?_getD]
      rw [List.getElem?_eq_getElem (by omega)]; rfl)
    rw [add_flat] at this
    rw [Nat.zero_add] at this ⊢
    exact this
theorem Tryz.info3 : (Tryz.prog.info? 3).map (fun i => (i.zero, i.size, i.bytes)) = some (some (.int .i64 0), 1, 8) := by kernel_rfl
/-- append(l, x) at rows of numbers. -/
theorem run_append_int (w : World) (B : Nat) (a : Option Addr) (n cap : Nat) (ls : List Nat) (hown : OwnI w B a n cap ls) (g t : Nat) (hr : w.cell? ⟨g, 0, none⟩ = some (.int .i64 (t : Nat))) (hb : n + 1 ≤ 1000000) (hB : B ≤ w.heap.size) (ty : TypeId) :
    ∃ a2 c2 w2, (Builtin.append_ #[256, 256] ty #[.slice a n cap, .slice (some ⟨g, 0, none⟩) 1 1]).run Tryz.prog w = .ok (.slice a2 (n + 1) c2) w2 ∧ OwnI w2 B a2 (n + 1) c2 (ls ++ [t]) ∧ w.grownBy w2 (a.map (·.block)) ∧ Went w a a2 := by
  obtain ⟨i0, hi, hz0, hz1, hz2⟩ := info_parts Tryz.info3
  have hblk : (Value.slice a n cap).ownBlock = a.map (·.block) := by cases a <;> rfl
  have hnews : ∀ j u, (icells [t])[j]? = some u → w.cell? ((⟨g, 0, none⟩ : Addr).add j) = some u := by
    intro j u hu
    cases j with
    | zero => rw [add_flat, hr]; exact hu
    | succ j => simp [icells] at hu
  have gen : ∀ C, OwnI w C a n cap ls → C ≤ w.heap.size → ∃ a2 c2 w2, (Builtin.append_ #[256, 256] ty #[.slice a n cap, .slice (some ⟨g, 0, none⟩) 1 1]).run Tryz.prog w = .ok (.slice a2 (n + 1) c2) w2 ∧ OwnI w2 C a2 (n + 1) c2 (ls ++ [t]) ∧ w.grownBy w2 (a.map (·.block)) := by
    intro C hC hCs
    obtain ⟨v', w', h1, h2, h3, -⟩ := run_append_own (P := Tryz.prog) w C 256 ty 3 i0 (.int .i64 0) 1 8 Tryz.underlying256 hi hz0 hz1 hz2 rfl (by decide) (.slice a n cap) n (icells ls) hC ⟨g, 0, none⟩ 1 1 (icells [t]) rfl hnews (by simp [icells, Value.oneCell']) (by unfold maxLen; omega) (by omega) hCs
    rw [← icells_append] at h2
    rw [hblk] at h3
    rcases h2.2 with ⟨rfl, h4⟩ | ⟨g2, c, cur, rfl, h4⟩
    · omega
    · exact ⟨_, _, w', h1, h2, h3⟩
  obtain ⟨a2, c2, w2, h1, h2, h3⟩ := gen B hown hB
  refine ⟨a2, c2, w2, h1, h2, h3, ?_⟩
  rcases hown.2 with ⟨e, h0⟩ | ⟨g0, c, cur, e, h4, h5, h6, h7, h8, h9⟩
  · cases e
    have hnil : ls = [] := List.length_eq_zero_iff.1 hown.len
    subst hnil
    obtain ⟨a3, c3, w3, k1, k2, -⟩ := gen w.heap.size (OwnI.nil w _) (Nat.le_refl _)
    rw [h1] at k1
    cases k1
    rcases k2.2 with ⟨e, _⟩ | ⟨b, c, cur, e, hb, _⟩
    · cases e
    · cases e
      exact .inr ⟨b, rfl, hb⟩
  · cases e
    by_cases hroom : n + 1 ≤ cap
    · have hrun := run_append_room (P := Tryz.prog) w 256 ty 3 i0 Tryz.underlying256 hi g0 n cap cur h5 ⟨g, 0, none⟩ 1 1 (icells [t]) (by rw [hz1]; rfl) hnews (by simp [icells, Value.oneCell']) hroom (by rw [hz1]; simp [icells]; omega)
      rw [h1] at hrun
      cases hrun
      exact .inl rfl
    · have hrun := run_append_grow (P := Tryz.prog) w 256 ty 3 i0 (.int .i64 0) Tryz.underlying256 hi hz0 ⟨g0, 0, none⟩ n cap (icells ls) (by rw [hz1]; exact hown.1) (hown.cells (g := g0) rfl) ⟨g, 0, none⟩ 1 1 (icells [t]) (by rw [hz1]; rfl) hnews (by omega) (by omega) (growslice_fits (by omega) (by rw [hz2]; omega))
      rw [h1] at hrun
      cases hrun
      exact .inr ⟨_, rfl, Nat.le_refl _⟩
theorem append_int {w : World} {ops : Array Oper} {rest : List Oper} {o : Oper} {ac : Act} {Q : Exit → Act → World → Prop} (hgd : o.guard = none) (s x : Operand) (ho : o.op = .call { callee := .builtin .append, args := #[s, x], argTypes := #[256, 256] })
    (B : Nat) {a : Option Addr} {n cap : Nat} {ls : List Nat} (hs : ac.eval s = .slice a n cap) (hown : OwnI w B a n cap ls)
    {g t : Nat} (hx : ac.eval x = .slice (some ⟨g, 0, none⟩) 1 1) (hr : w.cell? ⟨g, 0, none⟩ = some (.int .i64 (t : Nat))) (hb : n + 1 ≤ 1000000) (hB : B ≤ w.heap.size)
    (h : ∀ a2 n2 c2 w2, n2 = n + 1 → Hid (OwnI w2 B a2 n2 c2 (ls ++ [t])) → Hid (w.grownBy w2 (a.map (·.block))) → Hid (Went w a a2) → wpList Tryz.prog ops Q rest (ac.put o.dst (.slice a2 n2 c2)) w2) : wpList Tryz.prog ops Q (o :: rest) ac w := by
  obtain ⟨a2, c2, w2, h1, h2, h3, h4⟩ := run_append_int w B a n cap ls hown g t hr hb hB o.type
  refine wpList_plain hgd fun K hK => ?_
  unfold Oper.wp
  simp [execOp, ho, resolve, invoke, builtin, hs, hx, h1, Result.andThen]
  exact hK _ _ (h a2 _ c2 w2 rfl h2 h3 h4)
theorem OwnI.below {w w2 : World} {B : Nat} {a : Option Addr} {n cap : Nat} {ls : List Nat} (h : OwnI w B a n cap ls) (hg : w.grownBy w2 (a.map (·.block))) (hB : B ≤ w.heap.size) : Below B w w2 := by
  have hblk : (Value.slice a n cap).ownBlock = a.map (·.block) := by cases a <;> rfl
  rw [← hblk] at hg
  exact (Below.refl B w).grown hg hB (fun k hk => (h.lt k hk).1)
/-- A list at l, in packs of at most so many, that has the texts ts; F: its blocks. -/
structure QL (w : World) (B l most : Nat) (ts : List ByteArray) (F : List Nat) : Prop where
  ex : ∃ R ns, Lst w B l R most ts.length ns ∧ Ok most ns ∧ txN ns = ts ∧ F = l :: R :: fpN ns
  pos : 0 < most
  few : most ≤ 1000000
/-- What a call on a list leaves as it was. -/
structure Left (w w' : World) (F F' : List Nat) : Prop where
  stay : Stay w w' F
  new : ∀ k ∈ F', k ∈ F ∨ w.heap.size ≤ k
theorem Left.of_below {w w' : World} (h : Below w.heap.size w w') (F : List Nat) : Left w w' F F := ⟨Stay.of_below h _, fun _ hk => .inl hk⟩
theorem Left.trans {w w1 w2 : World} {F F1 F2 : List Nat} (h : Left w w1 F F1) (k : Left w1 w2 F1 F2) : Left w w2 F F2 :=
  ⟨h.stay.trans k.stay (fun i hi => h.new i hi), fun i hi => by
    rcases k.new i hi with h1 | h1
    · exact h.new i h1
    · exact .inr (Nat.le_trans h.stay.size h1)⟩
theorem Goes.left {w w' : World} {l R : Nat} {ns ns' : List Nd} (h : Goes w w' l R ns ns') : Left w w' (l :: R :: fpN ns) (l :: R :: fpN ns') :=
  ⟨h.stay, fun k hk => by
    simp only [List.mem_cons] at hk ⊢
    rcases hk with hk | hk | hk
    · exact .inl (.inl hk)
    · exact .inl (.inr (.inl hk))
    · exact (h.new k hk).imp (fun h => .inr (.inr h)) id⟩
/-- What a call does to a list. -/
def QDoes (w : World) (B l most : Nat) (ts : List ByteArray) (F : List Nat) (w' : World) : Prop := ∃ F', QL w' B l most ts F' ∧ Left w w' F F'
theorem QL.keep {w w' : World} {B l most : Nat} {ts : List ByteArray} {F : List Nat} (h : QL w B l most ts F) (hb : Below w.heap.size w w') : QL w' B l most ts F := by
  obtain ⟨R, ns, h1, h2, h3, h4⟩ := h.ex
  exact ⟨⟨R, ns, h1.keep hb, h2, h3, h4⟩, h.pos, h.few⟩
theorem QL.blocks {w : World} {B l most : Nat} {ts : List ByteArray} {F : List Nat} (h : QL w B l most ts F) : ∀ k ∈ F, B ≤ k ∧ k < w.heap.size := by
  obtain ⟨R, ns, h1, h2, h3, rfl⟩ := h.ex
  exact h1.fplt
theorem QL.stay {w w' : World} {B l most : Nat} {ts : List ByteArray} {F M : List Nat} (h : QL w B l most ts F) (hs : Stay w w' M) (hd : ∀ k ∈ F, k ∉ M) : QL w' B l most ts F := by
  obtain ⟨R, ns, h1, h2, h3, rfl⟩ := h.ex
  exact ⟨⟨R, ns, h1.stay hs hd, h2, h3, rfl⟩, h.pos, h.few⟩
theorem QL.low {w : World} {B l most : Nat} {ts : List ByteArray} {F : List Nat} (h : QL w B l most ts F) : B ≤ w.heap.size := by
  obtain ⟨R, ns, h1, h2, h3, rfl⟩ := h.ex
  exact Nat.le_trans h1.lowl (Nat.le_of_lt h1.lt)
theorem QL.down {w : World} {B C l most : Nat} {ts : List ByteArray} {F : List Nat} (h : QL w B l most ts F) (hC : C ≤ B) : QL w C l most ts F := by
  obtain ⟨R, ns, h1, h2, h3, rfl⟩ := h.ex
  refine ⟨⟨R, ns, ⟨h1.blk, h1.ring, h1.adj, fun d hd => ?_, h1.num, Nat.le_trans hC h1.lowl, Nat.le_trans hC h1.lowR⟩, h2, h3, rfl⟩, h.pos, h.few⟩
  have hd := h1.nod d hd
  exact ⟨hd.blk, hd.pk.low' hC, hd.fit, hd.siz, Nat.le_trans hC hd.low⟩
theorem QDoes.below {w w' : World} {B l most : Nat} {ts : List ByteArray} {F F' : List Nat} (h : QL w B l most ts F) (hd : Left w w' F F') : Below B w w' := hd.stay.below (fun k hk => (h.blocks k hk).1) h.low
/-- A list's blocks are no rows of texts. -/
theorem Lst.tags {w : World} {B l R most cnt : Nat} {ns : List Nd} (h : Lst w B l R most cnt ns) : ∀ k ∈ l :: R :: fpN ns, ∃ cs t, w.heap[k]? = some (.cells cs t (0, 0)) ∧ t ≠ 9 ∧ t ≠ 3 := by
  intro k hk
  rcases List.mem_cons.1 hk with rfl | hk
  · exact ⟨_, _, h.blk, by decide, by decide⟩
  rcases List.mem_cons.1 hk with rfl | hk
  · obtain ⟨x, y, e⟩ := h.ring
    exact ⟨_, _, e, by decide, by decide⟩
  · obtain ⟨d, hd, hk⟩ := List.mem_flatMap.1 hk
    have hN := h.nod d hd
    rcases List.mem_cons.1 hk with rfl | hk
    · obtain ⟨x, y, e⟩ := hN.blk
      exact ⟨_, _, e, by decide, by decide⟩
    rcases List.mem_cons.1 hk with rfl | hk
    · exact ⟨_, _, hN.pk.blk, by decide, by decide⟩
    · rw [Option.mem_toList] at hk
      rcases hN.pk.own.2 with ⟨h2, -⟩ | ⟨g, c, cur, h1, h3, h4, -⟩
      · injection h2 with e1
        rw [e1] at hk; cases hk
      · injection h1 with e1
        rw [e1] at hk
        cases hk
        exact ⟨_, _, h4, by decide, by decide⟩
theorem QL.far {w : World} {B C l most : Nat} {ts : List ByteArray} {F : List Nat} (h : QL w B l most ts F) {a : Option Addr} {n c : Nat} {ls : List ByteArray} (hO : OwnS w C a n c ls) : ∀ x, a = some x → x.block ∉ F ∧ x.block < w.heap.size := by
  obtain ⟨R, ns, h1, h2, h3, rfl⟩ := h.ex
  intro x hx
  rcases hO.2 with ⟨e, -⟩ | ⟨g, c', cur, e, h4, h5, -⟩
  · injection e with e1
    rw [e1] at hx; cases hx
  · injection e with e1
    rw [e1] at hx
    cases hx
    refine ⟨fun hm => ?_, (Array.getElem?_eq_some_iff.1 h5).1⟩
    obtain ⟨cs, t, h6, h7, -⟩ := h1.tags _ hm
    rw [h5] at h6
    injection h6 with h6
    injection h6 with _ h8
    exact h7 h8.symm
theorem QL.row {w w' : World} {B C l most : Nat} {ts : List ByteArray} {F F' : List Nat} (h : QL w B l most ts F) {a : Option Addr} {n c : Nat} {ls : List ByteArray} (hO : OwnS w C a n c ls) (hd : Left w w' F F') : OwnS w' C a n c ls := by
  have hf := h.far hO
  refine ⟨hO.1, ?_⟩
  rcases hO.2 with h2 | ⟨g, c', cur, e, h4, h5, h6⟩
  · exact .inl h2
  · refine .inr ⟨g, c', cur, e, h4, ?_, h6⟩
    injection e with e1
    obtain ⟨k1, k2⟩ := hf _ e1
    rw [hd.stay.block g k2 k1]
    exact h5
set_option maxRecDepth 100000 in
set_option maxHeartbeats 1000000 in
theorem CopyQ_any (B l R most cnt : Nat) (ns : List Nd) (w : World) (h : Lst w B l R most cnt ns) (h0 : 0 < most) :
    Calls Tryz.prog 74 #[ptr l] w fun e w' => Below w.heap.size w w' ∧ ∃ c R2 ns2, e = .returned (ptr c) ∧ Lst w' w.heap.size c R2 most cnt ns2 ∧ ns2.map (fun d => d.ls) = ns.map (fun d => d.ls) := by
  have hc := h.cring
  have hmo := h.cmost
  have HL : Hid (Lst w B l R most cnt ns) := h
  have HN := NewQ_any (most : Int) w most (by omega)
  clear h
  go_enter Tryz.func74, Tryz.ntmps74
  go_wp2_with fail
  refine HN.mono ?_
  rintro e w1 ⟨hb, c, R2, rfl, hC⟩
  have HB1 : Hid (Below w.heap.size w w1) := hb
  have HL1 : Hid (Lst w1 B l R most cnt ns) := HL.out.keep hb
  have hcc := HL1.out.ccnt
  have hcr := HL1.out.cring
  have hcm := hC.ccnt
  have hfz : w1.frozen? ⟨c, 1, none⟩ = false := by simp [World.frozen?, hC.blk]
  obtain ⟨k1, k2⟩ := hC.count cnt
  have hBc : Below w.heap.size w1 (w1.setCell ⟨c, 1, none⟩ (.int .i64 (cnt : Nat))) := k2.stay.below (fun k hk => (hC.fplt k hk).1) hb.size
  obtain ⟨w2, hw2⟩ : ∃ w2, w1.setCell ⟨c, 1, none⟩ (.int .i64 (cnt : Nat)) = w2 := ⟨_, rfl⟩
  rw [hw2] at k1 hBc
  have HC2 : Hid (Lst w2 w.heap.size c R2 most cnt []) := k1
  have HB2 : Hid (Below w.heap.size w w2) := HB1.out.trans hBc
  clear k1 k2 hBc hb hC HN
  have HL2 : Hid (Lst w2 B l R most cnt ns) := HL.out.keep HB2.out
  have hcr2 := HL2.out.cring
  have hg : w2.cell? ⟨R, 2, none⟩ = some (ptr (hdA R ns)) := (Lst.gap (l1 := []) (l2 := ns) HL2.out).1
  obtain ⟨m, hm⟩ : ∃ m, ns.length = m := ⟨_, rfl⟩
  have HM : Hid (ns.length = m) := hm
  obtain ⟨v, hv⟩ : ∃ v, hdA R ns = v := ⟨_, rfl⟩
  have HV : Hid (hdA R ns = v) := hv
  rw [hv] at hg
  clear hm hv
  go_wp2
  go_loopg [4] m (fun g nv wr => ∃ l1 l2 ns2 : List Nd, ∃ v : Nat, nv = ptr v ∧ Hid (hdA R l2 = v) ∧ Hid (l2.length = g) ∧ Hid (ns = l1 ++ l2) ∧ Hid (Lst wr w.heap.size c R2 most cnt ns2) ∧ Hid (ns2.map (fun d => d.ls) = l1.map (fun d => d.ls)) ∧ Hid (Below w.heap.size w wr))
  case atStart => exact ⟨[], ns, [], v, rfl, HV, HM, rfl, HC2, rfl, HB2⟩
  case round =>
    obtain ⟨l1, l2, ns2, v, rfl, HV, HG, HE, HC, HT, HB⟩ := hrel
    have hLk := HL.out.keep HB.out
    have hcr := hLk.cring
    cases l2 with
    | nil =>
      have hvR : R = v := HV.out
      subst hvR
      have hq := neq_same wr R
      have HEE : Hid (ns = l1) := by show _ = _; have := HE.out; simpa using this
      clear hLk
      go_wp2
      go_ret
      exact ⟨HB.out, c, R2, ns2, rfl, HC.out, by rw [HEE.out]; exact HT.out⟩
    | cons d r =>
      have hvd : d.a = v := HV.out
      subst hvd
      rw [HE.out] at hLk
      have hq := (hLk.neqR (d := d) (by simp)).2
      have HLk : Hid (Lst wr B l R most cnt (l1 ++ d :: r)) := hLk
      have hdN := hLk.nod d (by simp)
      have HPd : Hid (∀ w', Below wr.heap.size wr w' → Calls Tryz.prog 108 #[ptr d.p] w' fun e w'' => MakesPk w' d.ls e w'') := fun w' hb => Copy_any B d.p d.r d.n d.c d.ls w' (hdN.pk.keep hb) (by have := hdN.siz; omega)
      have HFd : Hid (Fit d.ls ∧ (pack d.ls).length ≤ 65536) := ⟨hdN.fit, by rw [hdN.pk.len]; exact hdN.siz⟩
      obtain ⟨v2, hv2⟩ : ∃ v2, hdA R r = v2 := ⟨_, rfl⟩
      have HV2 : Hid (hdA R r = v2) := hv2
      have hg2 : Hid (∀ w', Below w.heap.size w w' → w'.cell? ⟨d.a, 2, none⟩ = some (ptr v2)) := fun w' hb => by
        have h3 := HL.out.keep hb
        rw [HE.out] at h3
        have := (Lst.gap (l1 := l1 ++ [d]) (l2 := r) (by simpa using h3)).1
        rw [laA_snoc, hv2] at this
        exact this
      have HE1 : Hid (ns = (l1 ++ [d]) ++ r) := by show _ = _; rw [HE.out]; simp
      have HK : Hid (r.length = gk - 1) := by have := HG.out; rw [List.length_cons] at this; show _ = _; omega
      have hg0 : gk ≠ 0 := by have := HG.out; rw [List.length_cons] at this; omega
      have HCells : Hid (∀ w', Below wr.heap.size wr w' → w'.cell? ⟨c, 2, none⟩ = some (ptr R2) ∧ w'.cell? ⟨R2, 1, none⟩ = some (ptr (laA R2 ns2)) ∧ w'.cell? ⟨d.a, 0, none⟩ = some (ptr d.p)) := fun w' hb => by
        have h1 := HC.out.keep hb
        refine ⟨h1.cring, ?_, (HLk.out.keep hb).cpk (by simp)⟩
        exact (Lst.gap (l1 := ns2) (l2 := []) (by simpa using h1)).2
      have HD : Hid (Below wr.heap.size wr wr.drew) := below_drewN wr 1
      obtain ⟨c1, c2, c3⟩ := HCells.out _ HD.out
      clear hLk hdN hv2
      go_upto_region 6 with fail
      go_region_with (first
          | (go_at_call 108; refine (HPd.out _ HD.out).mono ?_; rintro e w3 ⟨hb, p, ra, rn, rc, rfl, hP⟩; have HB3 : Hid (Below wr.heap.size wr w3) := HD.out.trans hb; obtain ⟨e1, e2, e3⟩ := HCells.out _ HB3.out; have HP3 : Hid (Pk w3 wr.heap.size p ra rn rc d.ls) := hP; clear hb hP)
          | (go_at_call 61; refine (link_any w.heap.size c R2 most cnt ns2 [] p ra rn rc d.ls w3 (by rw [List.append_nil]; exact HC.out.keep HB3.out) (HP3.out.low' HB.out.size) HFd.out.1 (by have h := HP3.out.len; have h2 := HFd.out.2; omega) HP3.out.blocks.2 (by rw [List.append_nil]; exact HC.out.fresh HP3.out (Nat.le_refl _))).mono ?_; rintro e w4 ⟨rfl, f, hf, h4, h5⟩; have HL4 : Hid (Lst w4 w.heap.size c R2 most cnt (ns2 ++ [⟨f, p, ra, rn, rc, d.ls⟩])) := h4; have HB4 : Hid (Below w.heap.size w w4) := (HB.out.trans (HB3.out.mono HB.out.size)).trans (h5.below (fun k hk => ((HC.out.keep HB3.out).fplt k (by simpa using hk)).1) (Nat.le_trans HB.out.size HB3.out.size)); clear h4 h5 hf))
      all_goals
        have hg3 := hg2.out _ HB4.out
        have HT5 : Hid ((ns2 ++ [(⟨f, p, ra, rn, rc, d.ls⟩ : Nd)]).map (fun d : Nd => d.ls) = (l1 ++ [d]).map (fun d : Nd => d.ls)) := by
          show _ = _
          rw [List.map_append, List.map_append, HT.out]; rfl
        go_wp2
        go_roundg (gk - 1)
        case measure => omega
        case rel => exact ⟨l1 ++ [d], r, _, v2, rfl, HV2, HK, HE1, HL4, HT5, HB4⟩
end Go.Proofs.YtmjeljldmmkcpabGreat
