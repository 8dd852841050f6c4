/-
  without, slices.Reverse at rows of texts; keep; removeFirst, removeLast, Remove.
  keep; removeFirst, removeLast, Remove.
  removeFirst, removeLast, Remove.
  Remove, and Copy, of a list.
  Two lists side by side; Remove as what it leaves; how often a text is among others.
-/
import Derived.Test.YtemiajjjhhofaacQdel2
import Derived.Test.YtemiajjjhhofaacQabs
import Derived.Test.YtemiajjjhhofaacQkn
namespace Go.Proofs.Ytemiajjjhhofaac
open Go.RowKit Go.PlainAid

set_option maxRecDepth 100000 in
set_option maxHeartbeats 400000 in
theorem without_any (C : Nat) (a : Option Addr) (n c : Nat) (ls : List ByteArray) (m : Nat) (s : ByteArray) (w : World) (hO : OwnS w C a n c ls) (hm : m ≤ 1000000) (hn : n ≤ 1000000) :
    Calls Try.prog 29 #[.slice a n c, .string s, .int .i64 (m : Nat)] w fun e w' => Cut9 w C (kp s m ls) e w' ((a.map (·.block)).toList) := by
  have hmf : ∀ (fn : Fn) (first cap : Array Value) (w : World), (Instr.makeFunc fn first cap).run Try.prog w = .ok (.func fn first cap) w := fun _ _ _ _ => rfl
  have hA1 := alloc_below w (.cells #[.string s] 9)
  have hN1 := heap_alloc_new w (.cells #[.string s] 9)
  obtain ⟨w1, hw1⟩ : ∃ w1, w.alloc (.cells #[.string s] 9) = w1 := ⟨_, rfl⟩
  rw [hw1] at hA1 hN1
  have hA2 := alloc_below w1 (.cells #[.int .i64 (m : Nat)] 3)
  have hN2 := heap_alloc_new w1 (.cells #[.int .i64 (m : Nat)] 3)
  obtain ⟨w2, hw2⟩ : ∃ w2, w1.alloc (.cells #[.int .i64 (m : Nat)] 3) = w2 := ⟨_, rfl⟩
  rw [hw2] at hA2 hN2
  have hlt1 : w.heap.size < w1.heap.size := (Array.getElem?_eq_some_iff.1 hN1).1
  have hN1' : w2.heap[w.heap.size]? = some (.cells #[.string s] 9 (0, 0)) := by rw [hA2.block _ hlt1]; exact hN1
  have hCl : Cl w2 w.heap.size w1.heap.size s m := ⟨by simp [World.cell?, hN1'], by simp [World.cell?, hN2], by simp [World.frozen?, hN2], by omega⟩
  have hB2 : Below w.heap.size w w2 := hA1.trans (hA2.mono hA1.size)
  have HD := DeleteFunc_cl C a n c ls w.heap.size w1.heap.size m s w2 (hO.keep hB2) hCl hm hn (fun x hx => by
    have h1 : x.block < w.heap.size := by
      rcases hO.2 with ⟨e, -⟩ | ⟨g, c', cur, e, h4, h5, -⟩
      · injection e with e1; rw [e1] at hx; cases hx
      · injection e with e1; rw [e1] at hx; cases hx; exact (Array.getElem?_eq_some_iff.1 h5).1
    exact ⟨by omega, by omega⟩)
  have HB2 : Hid (Below w.heap.size w w2 ∧ w.heap.size ≤ w1.heap.size) := ⟨hB2, hA1.size⟩
  clear hA1 hN1 hA2 hN2 hN1' hCl hB2 hO hlt1
  go_enter Try.func29, Try.ntmps29
  go_wp2_with fail
  refine HD.mono ?_
  rintro e w3 ⟨a', n', c', rfl, hO3, hS3⟩
  have HO3 : Hid (OwnS w3 C a' n' c' (kp s m ls)) := hO3
  have HS3 : Hid (Stay w w3 ((a.map (·.block)).toList)) := by
    refine (Stay.of_below HB2.out.1 _).trans hS3 ?_
    intro i hi
    rcases List.mem_cons.1 hi with rfl | hi
    · exact .inr HB2.out.2
    · exact .inl hi
  clear hO3 hS3 HD
  go_wp2
  go_ret
  exact ⟨_, _, _, rfl, HO3.out, HS3.out⟩

/-- Behind so many swaps. -/
def rvAt (L : List ByteArray) (n k q : Nat) : ByteArray := if q < k ∨ n - k ≤ q then txt L (n - 1 - q) else txt L q

set_option maxRecDepth 100000 in
set_option maxHeartbeats 400000 in
theorem Reverse_any (C : Nat) (a : Option Addr) (n c : Nat) (ls : List ByteArray) (w : World) (hO : OwnS w C a n c ls) (hn : n ≤ 1000000) :
    Calls Try.prog 31 #[.slice a n c] w fun e w' => e = .returned (.tuple #[]) ∧ OwnS w' C a n c ls.reverse ∧ Stay w w' ((a.map (·.block)).toList) := by
  have hL := hO.len
  by_cases h0 : n ≤ 1
  · have HR : Hid (OwnS w C a n c ls.reverse) := by
      have : ls.reverse = ls := by
        match ls, hL with
        | [], _ => rfl
        | [x], _ => rfl
        | x :: y :: r, h => simp at h; omega
      show OwnS _ _ _ _ _ _
      rw [this]; exact hO
    have hn1 : ¬ ((0 : Int) < (n : Int) - 1) := by omega
    have hw : IntKind.i64.wrap ((n : Int) - 1) = (n : Int) - 1 := by rw [IntKind.wrap_i64]; omega
    clear hO hL
    go_enter Try.func31, Try.ntmps31
    go_wp2
    go_loopg [2, 3] 0 (fun g iv jv wr => w = wr ∧ iv = .int .i64 0 ∧ jv = .int .i64 ((n : Int) - 1))
    case atStart => exact ⟨rfl, rfl, rfl⟩
    case round =>
      obtain ⟨rfl, rfl, rfl⟩ := hrel
      go_wp2
      go_end0
      exact ⟨rfl, HR.out, Stay.of_below (Below.refl _ _) _⟩
  · obtain ⟨g, rfl⟩ : ∃ g, a = some ⟨g, 0, none⟩ := by
      rcases hO.2 with ⟨h2, h3⟩ | ⟨g', c', cur, h1, -⟩
      · omega
      · injection h1 with e1; exact ⟨g', e1⟩
    obtain ⟨cur, hcur, hcl, hct, hnc, hcm, hCg⟩ := hO.bk
    have HL : Hid (ls.length = n) := hL
    have HCg : Hid (C ≤ g ∧ n ≤ c ∧ c ≤ maxLen) := ⟨hCg, hnc, hcm⟩
    have HR0 : Hid (∃ cu : List Value, BkS w g cu ∧ cu.length = c ∧ ∀ q, q < n → cu[q]? = some (.string (rvAt ls n 0 q))) := by
      refine ⟨cur, hcur, hcl, fun q hq => ?_⟩
      have hqq : cur[q]? = (ls.map Value.string)[q]? := by rw [← hct, List.getElem?_take, if_pos hq]
      rw [hqq, List.getElem?_map, rvAt, if_neg (by omega), txt, List.getD_eq_getElem?_getD, List.getElem?_eq_getElem (by omega)]; rfl
    obtain ⟨n1, hn1⟩ : ∃ n1 : Nat, (n : Int) - 1 = n1 := ⟨n - 1, by omega⟩
    clear hO hL hcur hcl hct hCg hcm
    go_enter Try.func31, Try.ntmps31
    go_wp2
    go_loopg [2, 3] n (fun gg iv jv wr => ∃ k j : Nat, k + gg = n ∧ iv = .int .i64 k ∧ jv = .int .i64 ((j : Int) - 1) ∧ j + k = n ∧ k ≤ j + 1 ∧ Hid (∃ cu : List Value, BkS wr g cu ∧ cu.length = c ∧ ∀ q, q < n → cu[q]? = some (.string (rvAt ls n k q))) ∧ Hid (Stay w wr [g]))
    case atStart => exact ⟨0, n, by omega, rfl, by rw [hn1], by omega, by omega, HR0, Stay.of_below (Below.refl _ _) _⟩
    case round =>
      obtain ⟨k, j, hkg, rfl, rfl, hjk, hkj, HR, HS⟩ := hrel
      obtain ⟨cu, hb, hcl, hcq⟩ := HR.out
      by_cases hlt : (k : Int) < (j : Int) - 1
      · obtain ⟨j1, hj1⟩ : ∃ j1 : Nat, (j : Int) - 1 = j1 := ⟨j - 1, by omega⟩
        rw [hj1] at hlt ⊢
        have hx := hcq k (by omega)
        have hy := hcq j1 (by omega)
        have hrx : rvAt ls n k k = txt ls k := by unfold rvAt; rw [if_neg (by omega)]
        have hry : rvAt ls n k j1 = txt ls j1 := by unfold rvAt; rw [if_neg (by omega)]
        rw [hrx] at hx
        rw [hry] at hy
        have hcx : wr.cell? ⟨g, k, none⟩ = some (.string (txt ls k)) := by rw [hb.cell]; exact hx
        have hcy : wr.cell? ⟨g, j1, none⟩ = some (.string (txt ls j1)) := by rw [hb.cell]; exact hy
        have hfx := hb.frozen k
        have hfy := hb.frozen j1
        have hkn : k < n := by omega
        have hjn : j1 < n := by omega
        have hkj2 : ¬ k = j1 := by omega
        have HR2 : Hid (∀ w', BkS w' g ((cu.set k (.string (txt ls j1))).set j1 (.string (txt ls k))) → ∃ cu : List Value, BkS w' g cu ∧ cu.length = c ∧ ∀ q, q < n → cu[q]? = some (.string (rvAt ls n (k + 1) q))) := fun w' hw' => by
          refine ⟨_, hw', by rw [List.length_set, List.length_set]; exact hcl, fun q hq => ?_⟩
          have hnc2 := HCg.out.2.1
          by_cases h1 : q = j1
          · subst h1
            rw [List.getElem?_set_self (by rw [List.length_set]; omega), rvAt, if_pos (by omega), show n - 1 - q = k by omega]
          · rw [List.getElem?_set_ne (by omega)]
            by_cases h2 : q = k
            · subst h2
              rw [List.getElem?_set_self (by omega), rvAt, if_pos (by omega), show n - 1 - q = j1 by omega]
            · rw [List.getElem?_set_ne (by omega), hcq q hq]
              congr 2
              unfold rvAt
              by_cases h3 : q < k ∨ n - k ≤ q
              · rw [if_pos h3, if_pos (by omega)]
              · rw [if_neg h3, if_neg (by omega)]
        have HBk : Hid (BkS wr.drew g cu) := hb
        generalize txt ls k = tx at *
        generalize txt ls j1 = ty at *
        have HW1 : Hid (BkS ((wr.drew.setCell ⟨g, k, none⟩ (.string ty)).setCell ⟨g, j1, none⟩ (.string tx)) g ((cu.set k (.string ty)).set j1 (.string tx))) := (HBk.out.set k _).set j1 _
        have HS1 : Hid (Stay w ((wr.drew.setCell ⟨g, k, none⟩ (.string ty)).setCell ⟨g, j1, none⟩ (.string tx)) [g]) := ((HS.out.trans (Stay.of_below (below_drewN wr 1) [g]) (by simp)).trans Stay.set (by simp)).trans Stay.set (by simp)
        clear hb hcl hcq hx hy hrx hry
        go_wp2_with fail
        go_region
        all_goals
          go_wp2
          go_roundg (gk - 1)
          case measure => omega
          case rel => exact ⟨k + 1, j1, by omega, by go_num, by go_num, by omega, by omega, HR2.out _ HW1.out, HS1⟩
      · have hle : ¬ ((k : Int) < (j : Int) - 1) := hlt
        have HE : Hid (OwnS wr C (some ⟨g, 0, none⟩) n c ls.reverse) := by
          refine OwnS.of_bk HCg.out.1 hb HCg.out.2.1 HCg.out.2.2 hcl ?_
          apply List.ext_getElem?
          intro q
          have hll := HL.out
          by_cases hq : q < n
          · rw [List.getElem?_take, if_pos hq, hcq q hq, List.getElem?_map, List.getElem?_reverse (by omega), hll]
            have : rvAt ls n k q = txt ls (n - 1 - q) := by
              unfold rvAt
              split
              · rfl
              · congr 1; omega
            rw [this, txt, List.getD_eq_getElem?_getD, List.getElem?_eq_getElem (by omega)]; rfl
          · rw [List.getElem?_take, if_neg hq, List.getElem?_eq_none (by rw [List.length_map, List.length_reverse]; omega)]
        have hw : -9223372036854775808 ≤ (j : Int) - 1 := by omega
        clear hb hcl hcq
        go_wp2
        go_end0
        exact ⟨rfl, HE.out, HS.out⟩
end Go.Proofs.Ytemiajjjhhofaac

namespace Go.Proofs.Ytemiajjjhhofaac
open Go.RowKit Go.PlainAid

theorem pack_sum : ∀ l : List ByteArray, (pack l).length = (l.map fun s => (enc (lst s)).length).sum
  | [] => rfl
  | s :: r => by rw [pack, List.length_append, pack_sum r, List.map_cons, List.sum_cons]
theorem pack_rev (l : List ByteArray) : (pack l.reverse).length = (pack l).length := by rw [pack_sum, pack_sum, List.map_reverse, List.sum_reverse]
theorem pack_kp (s : ByteArray) : ∀ (l : List ByteArray) (m : Nat), (pack (kp s m l)).length ≤ (pack l).length
  | [], _ => Nat.le_refl _
  | x :: r, m => by
    unfold kp
    rw [rem, pack, List.length_append]
    split
    · have := pack_kp s r (m - 1)
      unfold kp at this
      omega
    · have := pack_kp s r m
      unfold kp at this
      rw [pack, List.length_append]
      omega

/-- What keep leaves of a node. -/
def KeepAt (w : World) (B l R most cnt : Nat) (l1 l2 : List Nd) (d : Nd) (K : List ByteArray) (w' : World) : Prop :=
  ∃ X, Lst w' B l R most (cnt - (d.ls.length - K.length)) (l1 ++ (X ++ l2)) ∧ Goes w w' l R (l1 ++ d :: l2) (l1 ++ (X ++ l2)) ∧ Ok most (l1 ++ (X ++ l2)) ∧ txN X = K ∧ w'.cell? ⟨d.a, 1, none⟩ = some (ptr (laA R l1)) ∧ w'.cell? ⟨d.a, 2, none⟩ = some (ptr (hdA R l2))

theorem Lst.cells {w : World} {B l R most cnt : Nat} {l1 l2 : List Nd} {d : Nd} (h : Lst w B l R most cnt (l1 ++ d :: l2)) : w.cell? ⟨d.a, 1, none⟩ = some (ptr (laA R l1)) ∧ w.cell? ⟨d.a, 2, none⟩ = some (ptr (hdA R l2)) := by
  have h1 := (h.gap (l1 := l1) (l2 := d :: l2)).2
  have h2 := (Lst.gap (l1 := l1 ++ [d]) (l2 := l2) (by simpa using h)).1
  rw [laA_snoc] at h2
  exact ⟨h1, h2⟩

/-- A node has another, new pack. -/
theorem Lst.swap {w w1 : World} {B l R most cnt : Nat} {l1 l2 : List Nd} {d : Nd} (h : Lst w B l R most cnt (l1 ++ d :: l2)) (hb : Below w.heap.size w w1) {p : Nat} {a : Option Addr} {n c : Nat} (hP : Pk w1 w.heap.size p a n c []) :
    Lst (w1.setCell ⟨d.a, 0, none⟩ (ptr p)) B l R most cnt (l1 ++ ⟨d.a, p, a, n, c, []⟩ :: l2) ∧ Goes w (w1.setCell ⟨d.a, 0, none⟩ (ptr p)) l R (l1 ++ d :: l2) (l1 ++ ⟨d.a, p, a, n, c, []⟩ :: l2) := by
  have hd := h.nod d (by simp)
  have hs : Stay w (w1.setCell ⟨d.a, 0, none⟩ (ptr p)) [d.a] := (Stay.of_below hb [d.a]).trans Stay.set (by simp)
  have hbl := hP.blocks
  have hne : d.a ∉ p :: (a.map (·.block)).toList := fun hm => by have h1 := (hbl.1 _ hm).1; have h2 := hd.lt; omega
  have hl0 : n = 0 := hP.len.symm
  refine h.put (d' := ⟨d.a, p, a, n, c, []⟩) rfl hs (fun k hk => by simp at hk; rw [hk]; simp [Nd.fp]) (fun o ho => ?_) ⟨?_, ?_, fun s hs => absurd hs (by simp), by show n ≤ 65536; omega, hd.low⟩ (List.nodup_cons.2 ⟨hne, hbl.2⟩) ?_
  · rw [cell_ne (fun e => by rcases ho with rfl | rfl <;> exact absurd e.2 (by decide))]
    exact hb.cell (p := ⟨d.a, o, none⟩) hd.lt
  · obtain ⟨x, y, e⟩ := hd.blk
    have e1 : w1.heap[d.a]? = some (.cells #[ptr d.p, x, y] 40 (0, 0)) := by rw [hb.block _ hd.lt]; exact e
    exact ⟨x, y, by show (w1.setCell ⟨d.a, 0, none⟩ (ptr p)).heap[d.a]? = _; rw [heap_set e1]; rfl⟩
  · have hBw : B ≤ w.heap.size := Nat.le_trans h.lowl (Nat.le_of_lt h.lt)
    exact (hP.low' hBw).stay (Stay.set (q := d.a) (o := 0) (v := ptr p)) (fun hm => hne (by simp at hm; rw [← hm]; simp)) (fun k hk hm => hne (by simp at hm; rw [← hm]; exact List.mem_cons_of_mem _ hk))
  · intro k hk
    rcases List.mem_cons.1 hk with rfl | hk
    · exact .inl (by simp [Nd.fp])
    · exact .inr (hbl.1 k hk).1

set_option maxRecDepth 100000 in
set_option maxHeartbeats 400000 in
theorem keep_any (B l R most cnt : Nat) (l1 l2 : List Nd) (d : Nd) (a : Option Addr) (n c : Nat) (K : List ByteArray) (w : World) (h : Lst w B l R most cnt (l1 ++ d :: l2)) (hok : Ok most (l1 ++ d :: l2)) (hR : RdF w a n K (l :: R :: fpN (l1 ++ d :: l2))) (hle : K.length ≤ d.ls.length) (hsame : K.length = d.ls.length → K = d.ls) (hf : Fit K) (hpk : (pack K).length ≤ 65536) (hc1 : d.ls.length ≤ cnt) (hcnt : cnt ≤ 1000000) :
    Calls Try.prog 32 #[ptr l, ptr d.a, .slice a n c] w fun e w' => e = .returned (.int .i64 ((d.ls.length - K.length : Nat) : Nat)) ∧ KeepAt w B l R most cnt l1 l2 d K w' := by
  have hdN := h.nod d (by simp)
  have hcp := h.cpk (d := d) (by simp)
  have HLen := Len_any B d.p d.r d.n d.c d.ls w hdN.pk
  have hKn := hR.rd.len
  have hd6 := hdN.siz
  have hdm := hdN.pk.many
  have HL : Hid (Lst w B l R most cnt (l1 ++ d :: l2)) := h
  have HOk : Hid (Ok most (l1 ++ d :: l2)) := hok
  obtain ⟨dk, hdk⟩ : ∃ dk, d.ls.length = dk := ⟨_, rfl⟩
  have HDk : Hid (d.ls.length = dk) := hdk
  rw [hdk] at HLen hle hc1 hdm hsame ⊢
  rw [hKn] at hle hsame ⊢
  obtain ⟨g, hg⟩ : ∃ g, dk - n = g := ⟨_, rfl⟩
  have hgi : (dk : Int) - (n : Int) = g := by omega
  have HG : Hid (dk - n = g) := hg
  have HKn : Hid (K.length = n) := hKn
  rw [hg]
  by_cases h0 : g = 0
  · subst h0
    have HE : Hid (KeepAt w B l R most cnt l1 l2 d K w) := by
      have hKd : K = d.ls := hsame (by omega)
      refine ⟨[d], ?_, Goes.refl _ _ _ _, hok, by rw [txN_cons, txN_nil, hKd]; simp, h.cells.1, h.cells.2⟩
      rw [hKd, Nat.sub_self]; exact h
    clear h hok hR hdN hsame hf hpk
    go_enter Try.func32, Try.ntmps32
    go_wp2_with fail
    refine HLen.mono ?_
    rintro e w ⟨rfl, rfl⟩
    go_wp2
    go_ret
    exact ⟨rfl, HE.out⟩
  · have hg0 : ¬ ((g : Int) = 0) := by omega
    have hcc := h.ccnt
    have hcf := h.frozen 1
    obtain ⟨q, hq⟩ : ∃ q, cnt - g = q := ⟨_, rfl⟩
    have hqi : (cnt : Int) - (g : Int) = q := by omega
    obtain ⟨h6, h7⟩ := h.count q
    have HL6 : Hid (Lst (w.setCell ⟨l, 1, none⟩ (.int .i64 (q : Nat))) B l R most q (l1 ++ d :: l2)) := h6
    have HG6 : Hid (Goes w (w.setCell ⟨l, 1, none⟩ (.int .i64 (q : Nat))) l R (l1 ++ d :: l2) (l1 ++ d :: l2)) := h7
    have HR6 : Hid (RdF (w.setCell ⟨l, 1, none⟩ (.int .i64 (q : Nat))) a n K (l :: R :: fpN (l1 ++ d :: l2))) := hR.goes h7
    have HQ : Hid (cnt - (d.ls.length - K.length) = q) := by show _ = _; rw [hdk, hKn, hg]; exact hq
    by_cases hn0 : n = 0
    · subst hn0
      have HU := unlink_any B l R most q l1 l2 d _ h6
      have HK0 : Hid (K = []) := List.length_eq_zero_iff.1 hKn
      have hgd : g = dk := by omega
      subst hgd
      clear h hok hR hdN hsame hf hpk h6 h7 hq
      go_enter Try.func32, Try.ntmps32
      go_wp2_with fail
      refine HLen.mono ?_
      rintro e w ⟨rfl, rfl⟩
      go_wp2_with fail
      refine HU.mono ?_
      rintro e w2 ⟨rfl, h8, h9, hc1, hc2⟩
      have HE : Hid (KeepAt w B l R most cnt l1 l2 d K w2) := by
        refine ⟨[], ?_, HG6.out.trans h9, HOk.out.less, by rw [HK0.out]; rfl, hc1, hc2⟩
        rw [HQ.out]; exact h8
      clear h8 h9 hc1 hc2 HU
      go_wp2
      go_ret
      exact ⟨rfl, HE.out⟩
    · have hn01 : ¬ ((n : Int) = 0) := by omega
      have HF : Hid (Fit K) := hf
      have HPk : Hid ((pack K).length ≤ 65536) := hpk
      have HNw := New_any (w.setCell ⟨l, 1, none⟩ (.int .i64 (q : Nat)))
      clear h hok hR hdN hsame hf hpk h6 h7 hq
      go_enter Try.func32, Try.ntmps32
      go_wp2_with fail
      refine HLen.mono ?_
      rintro e w ⟨rfl, rfl⟩
      go_wp2_with fail
      generalize w.setCell ⟨l, 1, none⟩ (.int .i64 (q : Nat)) = w6 at *
      refine HNw.mono ?_
      rintro e w7 ⟨hb, p, pa, pn, pc, rfl, hP⟩
      obtain ⟨h8, h9⟩ := HL6.out.swap hb hP
      have hcd : w7.cell? ⟨d.a, 0, none⟩ = some (ptr d.p) := (HL6.out.keep hb).cpk (by simp)
      have hfd : w7.frozen? ⟨d.a, 0, none⟩ = false := (HL6.out.keep hb).nfrozen (k := d.a) (by rw [adr_append, adr_cons]; simp) 0
      have hcn : (w7.setCell ⟨d.a, 0, none⟩ (ptr p)).cell? ⟨d.a, 0, none⟩ = some (ptr p) := cell_eq hcd
      have hR8 := HR6.out.goes h9
      have hpn : pn = 0 := hP.len.symm
      have HIn := Insert_nd B l R most q l1 l2 ⟨d.a, p, pa, pn, pc, []⟩ 0 a n c K _ h8 (Nat.zero_le _) hR8.rd HF.out (by have := HKn.out; have := HDk.out; omega) (by show pn + _ ≤ _; have := HPk.out; omega)
      have HG8 : Hid (Goes w (w7.setCell ⟨d.a, 0, none⟩ (ptr p)) l R (l1 ++ d :: l2) (l1 ++ ⟨d.a, p, pa, pn, pc, []⟩ :: l2)) := HG6.out.trans h9
      clear hb hP h8 h9 hR8 HNw hpn
      go_wp2_with fail
      generalize w7.setCell ⟨d.a, 0, none⟩ (ptr p) = w8 at *
      refine HIn.mono ?_
      rintro e w9 ⟨rfl, d', e1, e2, e3, e4, h4, h5⟩
      have HE : Hid (KeepAt w B l R most cnt l1 l2 d K w9) := by
        have e3' : d'.ls = K := by rw [e3]; simp
        have hce := h4.cells
        rw [e1] at hce
        refine ⟨[d'], ?_, ?_, ?_, by rw [txN_cons, txN_nil, e3']; simp, hce.1, hce.2⟩
        · rw [HQ.out]; exact h4
        · exact HG8.out.trans h5
        · refine HOk.out.mid ?_
          have h1 := HOk.out d (by simp)
          have h2 := HKn.out
          have h3 := HDk.out
          rw [e3']
          omega
      clear h4 h5 HIn e1 e2 e3 e4
      go_wp2
      go_ret
      exact ⟨rfl, HE.out⟩
end Go.Proofs.Ytemiajjjhhofaac

namespace Go.Proofs.Ytemiajjjhhofaac
open Go.RowKit Go.PlainAid

/-- A row that was made behind a world lies outside each list of it. -/
theorem OwnS.rdf {w w' : World} {B l R most cnt : Nat} {ns : List Nd} (h : Lst w B l R most cnt ns) {a : Option Addr} {n c : Nat} {ls : List ByteArray} (hO : OwnS w' w.heap.size a n c ls) : RdF w' a n ls (l :: R :: fpN ns) := by
  refine ⟨hO.rd, fun x hx => ?_⟩
  rcases hO.2 with ⟨e, -⟩ | ⟨g, c', cur, e, h4, h5, -⟩
  · injection e with e1; rw [e1] at hx; cases hx
  · injection e with e1
    rw [e1] at hx
    cases hx
    exact ⟨fun hm => absurd (h.fplt g hm).2 (by omega), (Array.getElem?_eq_some_iff.1 h5).1⟩
theorem Cut9.below {w0 w w' : World} {a : Option Addr} {n c : Nat} {ls : List ByteArray} (hO : OwnS w w0.heap.size a n c ls) (h0 : w0.heap.size ≤ w.heap.size) (hs : Stay w w' ((a.map (·.block)).toList)) : Below w0.heap.size w w' := by
  refine hs.below (fun k hk => ?_) h0
  rw [Option.mem_toList] at hk
  exact (hO.lt k (by rw [← hk]; cases a <;> rfl)).1

theorem kp_same (s : ByteArray) : ∀ (l : List ByteArray) (m : Nat), (kp s m l).length = l.length → kp s m l = l
  | [], _, _ => rfl
  | x :: r, m, h => by
    unfold kp at h ⊢
    rw [rem] at h ⊢
    split at h
    · have := (kp_len s r (m - 1)).1
      unfold kp at this
      rw [List.length_cons] at h
      omega
    · rename_i hh
      rw [if_neg hh]
      simp only [List.length_cons] at h
      have := kp_same s r m (by unfold kp; omega)
      unfold kp at this
      simp only [this]

set_option maxRecDepth 100000 in
set_option maxHeartbeats 400000 in
theorem removeFirst_any (B l R most : Nat) (ns : List Nd) (s : ByteArray) (m : Nat) (w : World) (h : Lst w B l R most (txN ns).length ns) (hok : Ok most ns) (hc : (txN ns).length ≤ 1000000) (hm : m ≤ 1000000) :
    Calls Try.prog 19 #[ptr l, .string s, .int .i64 (m : Nat)] w fun e w' => e = .returned (.tuple #[]) ∧ Does w B l R most (kp s m (txN ns)).length ns (kp s m (txN ns)) w' := by
  have hcr := h.cring
  have hg : w.cell? ⟨R, 2, none⟩ = some (ptr (hdA R ns)) := (Lst.gap (l1 := []) (l2 := ns) h).1
  have HC : Hid ((txN ns).length ≤ 1000000) := hc
  obtain ⟨N, hN⟩ : ∃ N, ns.length = N := ⟨_, rfl⟩
  have HN : Hid (ns.length = N) := hN
  obtain ⟨v, hv⟩ : ∃ v, hdA R ns = v := ⟨_, rfl⟩
  have HR0 : Hid (∃ l1 l2 P, Lst w B l R most (txN (l1 ++ l2)).length (l1 ++ l2) ∧ Goes w w l R ns (l1 ++ l2) ∧ Ok most (l1 ++ l2) ∧ txN ns = P ++ txN l2 ∧ txN l1 = kp s m P ∧ lf s m P = m ∧ hdA R l2 = v ∧ l2.length = N) := ⟨[], ns, [], h, Goes.refl _ _ _ _, hok, rfl, rfl, rfl, hv, hN⟩
  rw [hv] at hg
  clear h hok hc hN hv
  go_enter Try.func19, Try.ntmps19
  go_wp2
  go_loopg [2, 6, 7] N (fun g mv nv kv wr => ∃ k v : Nat, mv = .int .i64 (k : Nat) ∧ nv = ptr v ∧ k ≤ 1000000 ∧ Hid (∃ l1 l2 P, Lst wr B l R most (txN (l1 ++ l2)).length (l1 ++ l2) ∧ Goes w wr l R ns (l1 ++ l2) ∧ Ok most (l1 ++ l2) ∧ txN ns = P ++ txN l2 ∧ txN l1 = kp s m P ∧ lf s m P = k ∧ hdA R l2 = v ∧ l2.length = g))
  case atStart => exact ⟨m, v, rfl, rfl, hm, HR0⟩
  case round =>
    obtain ⟨k, v, rfl, rfl, hk6, HR⟩ := hrel
    obtain ⟨l1, l2, P, hL, hGo, hO, hT, hK, hlf, hv, hlen⟩ := HR.out
    have hcr := hL.cring
    cases l2 with
    | nil =>
      have hvR : R = v := hv
      subst hvR
      have hq := neq_same wr R
      have HE : Hid (Does w B l R most (kp s m (txN ns)).length ns (kp s m (txN ns)) wr) := by
        have e1 : txN ns = P := by rw [hT, txN_nil, List.append_nil]
        have e2 : txN (l1 ++ []) = kp s m (txN ns) := by rw [List.append_nil, hK, e1]
        rw [← e2]
        exact ⟨_, hL, hGo, hO, rfl⟩
      clear hL hGo hO hT hK hlf
      go_wp2
      go_end0
      exact ⟨rfl, HE.out⟩
    | cons d r =>
      have hvd : d.a = v := hv
      subst hvd
      have hq := (hL.neqR (d := d) (by simp)).2
      by_cases hk0 : k = 0
      · subst hk0
        have HE : Hid (Does w B l R most (kp s m (txN ns)).length ns (kp s m (txN ns)) wr) := by
          have e2 : txN (l1 ++ d :: r) = kp s m (txN ns) := by rw [hT, kp_append, hlf, (kp_zero s _).1, txN_append, hK]
          rw [← e2]
          exact ⟨_, hL, hGo, hO, rfl⟩
        clear hL hGo hO hT hK hlf
        go_wp2
        go_end0
        exact ⟨rfl, HE.out⟩
      · have hk01 : (0 : Int) < (k : Int) := by omega
        have hdN := hL.nod d (by simp)
        have hcp := hL.cpk (d := d) (by simp)
        have hd6 := hdN.siz
        have hdm := hdN.pk.many
        have HAl := All_any B d.p d.r d.n d.c d.ls wr hdN.pk hdN.fit (by omega)
        have HL : Hid (Lst wr B l R most (txN (l1 ++ d :: r)).length (l1 ++ d :: r)) := hL
        have HGo : Hid (Goes w wr l R ns (l1 ++ d :: r)) := hGo
        have HO : Hid (Ok most (l1 ++ d :: r)) := hO
        have HT : Hid (txN ns = P ++ txN (d :: r) ∧ txN l1 = kp s m P ∧ lf s m P = k) := ⟨hT, hK, hlf⟩
        have HLn : Hid (r.length + 1 = gk) := by rw [← hlen]; rfl
        have hg0 : gk ≠ 0 := by have := HLn.out; omega
        have HCt : Hid ((txN (l1 ++ d :: r)).length ≤ 1000000) := by
          have h1 := (kp_len s P m).1
          have h2 := HC.out
          show _ ≤ _
          rw [hT, List.length_append] at h2
          rw [txN_append, List.length_append, hK]
          omega
        have HKl := kp_len s d.ls k
        have HKf : Hid ((kp s k d.ls).length = d.ls.length → kp s k d.ls = d.ls) := fun he => kp_same s d.ls k he
        clear hL hGo hO hT hK hlf hv hlen HR
        go_wp2_with fail
        refine HAl.mono ?_
        rintro e w1 ⟨hb, a1, n1, c1, rfl, hO1⟩
        have hn1 := hO1.len
        have HWi := without_any wr.heap.size a1 n1 c1 d.ls k s w1 hO1 hk6 (by omega)
        have HO1 : Hid (OwnS w1 wr.heap.size a1 n1 c1 d.ls) := hO1
        have HB1 : Hid (Below wr.heap.size wr w1) := hb
        clear hb hO1 HAl
        go_wp2_with fail
        refine HWi.mono ?_
        rintro e w2 ⟨a2, n2, c2, rfl, hO2, hS2⟩
        have HB2 : Hid (Below wr.heap.size wr w2) := HB1.out.trans (Cut9.below HO1.out HB1.out.size hS2)
        have hL2 := HL.out.keep HB2.out
        have hn2 := hO2.len
        have HKe := keep_any B l R most _ l1 r d a2 n2 c2 (kp s k d.ls) w2 hL2 HO.out (OwnS.rdf HL.out hO2) HKl.1 HKf.out (fun t ht => hdN.fit t (kp_mem s d.ls k t ht)) (Nat.le_trans (pack_kp s d.ls k) (by rw [hdN.pk.len]; exact hdN.siz)) (by rw [txN_append, txN_cons, List.length_append, List.length_append]; omega) HCt.out
        obtain ⟨g9, hg9⟩ : ∃ g9, d.ls.length - (kp s k d.ls).length = g9 := ⟨_, rfl⟩
        rw [hg9] at HKe
        obtain ⟨k2, hk2⟩ : ∃ k2, lf s k d.ls = k2 := ⟨_, rfl⟩
        have hki : (k : Int) - (g9 : Int) = k2 := by omega
        have hk26 : k2 ≤ 1000000 := by omega
        have HK2 : Hid (lf s k d.ls = k2) := hk2
        have HG9 : Hid (d.ls.length - (kp s k d.ls).length = g9 ∧ (kp s k d.ls).length ≤ d.ls.length) := ⟨hg9, HKl.1⟩
        clear hO2 hS2 hL2 HWi HKl hn1 hn2 hg9 hk2 hdN
        go_wp2_with fail
        refine HKe.mono ?_
        rintro e w3 ⟨rfl, X, h1, h2, h3, h4, h5, h6⟩
        obtain ⟨v2, hv2⟩ : ∃ v2, hdA R r = v2 := ⟨_, rfl⟩
        rw [hv2] at h6
        have HR3 : Hid (∃ l1 l2 P, Lst w3 B l R most (txN (l1 ++ l2)).length (l1 ++ l2) ∧ Goes w w3 l R ns (l1 ++ l2) ∧ Ok most (l1 ++ l2) ∧ txN ns = P ++ txN l2 ∧ txN l1 = kp s m P ∧ lf s m P = k2 ∧ hdA R l2 = v2 ∧ l2.length = gk - 1) := by
          obtain ⟨t1, t2, t3⟩ := HT.out
          refine ⟨l1 ++ X, r, P ++ d.ls, ?_, ?_, ?_, ?_, ?_, ?_, hv2, ?_⟩
          · have : (txN (l1 ++ d :: r)).length - (d.ls.length - (kp s k d.ls).length) = (txN (l1 ++ X ++ r)).length := by
              have := HG9.out.2
              rw [txN_append, txN_cons, txN_append, txN_append, h4]
              simp only [List.length_append]
              omega
            rw [this, ← List.append_assoc] at h1
            exact h1
          · rw [List.append_assoc]; exact (HGo.out.trans (Goes.of_below HB2.out _ _ _)).trans h2
          · rw [List.append_assoc]; exact h3
          · rw [t1, txN_cons, List.append_assoc]
          · rw [txN_append, h4, t2, kp_append, t3]
          · rw [lf_append, t3]; exact HK2.out
          · have := HLn.out; omega
        have hce := h6
        clear h1 h2 h3 h4 h5 h6 HKe hv2
        go_wp2
        go_roundg (gk - 1)
        case measure => omega
        case rel => exact ⟨k2, v2, by go_num, rfl, hk26, HR3⟩
/-- The same from the last on. -/
def rp (s : ByteArray) (m : Nat) (l : List ByteArray) : List ByteArray := (kp s m l.reverse).reverse
theorem rp_append (s : ByteArray) (m : Nat) (a b : List ByteArray) : rp s m (a ++ b) = rp s (lf s m b.reverse) a ++ rp s m b := by
  unfold rp
  rw [List.reverse_append, kp_append, List.reverse_append]
theorem rp_zero (s : ByteArray) (l : List ByteArray) : rp s 0 l = l := by unfold rp; rw [(kp_zero s _).1, List.reverse_reverse]
theorem rp_len (s : ByteArray) (l : List ByteArray) (m : Nat) : (rp s m l).length ≤ l.length := by
  unfold rp
  have := (kp_len s l.reverse m).1
  rw [List.length_reverse] at this ⊢
  exact this

set_option maxRecDepth 100000 in
set_option maxHeartbeats 400000 in
theorem removeLast_any (B l R most : Nat) (ns : List Nd) (s : ByteArray) (m : Nat) (w : World) (h : Lst w B l R most (txN ns).length ns) (hok : Ok most ns) (hc : (txN ns).length ≤ 1000000) (hm : m ≤ 1000000) :
    Calls Try.prog 18 #[ptr l, .string s, .int .i64 (m : Nat)] w fun e w' => e = .returned (.tuple #[]) ∧ Does w B l R most (rp s m (txN ns)).length ns (rp s m (txN ns)) w' := by
  have hcr := h.cring
  have hg : w.cell? ⟨R, 1, none⟩ = some (ptr (laA R ns)) := (Lst.gap (l1 := ns) (l2 := []) (by rw [List.append_nil]; exact h)).2
  have HC : Hid ((txN ns).length ≤ 1000000) := hc
  obtain ⟨N, hN⟩ : ∃ N, ns.length = N := ⟨_, rfl⟩
  have HN : Hid (ns.length = N) := hN
  obtain ⟨v, hv⟩ : ∃ v, laA R ns = v := ⟨_, rfl⟩
  have HR0 : Hid (∃ l1 l2 P, Lst w B l R most (txN (l1 ++ l2)).length (l1 ++ l2) ∧ Goes w w l R ns (l1 ++ l2) ∧ Ok most (l1 ++ l2) ∧ txN ns = txN l1 ++ P ∧ txN l2 = rp s m P ∧ lf s m P.reverse = m ∧ laA R l1 = v ∧ l1.length = N) := ⟨ns, [], [], by rw [List.append_nil]; exact h, by rw [List.append_nil]; exact Goes.refl _ _ _ _, by rw [List.append_nil]; exact hok, by simp, rfl, rfl, hv, hN⟩
  rw [hv] at hg
  clear h hok hc hN hv
  go_enter Try.func18, Try.ntmps18
  go_wp2
  go_loopg [2, 6, 7] N (fun g mv nv kv wr => ∃ k v : Nat, mv = .int .i64 (k : Nat) ∧ nv = ptr v ∧ k ≤ 1000000 ∧ Hid (∃ l1 l2 P, Lst wr B l R most (txN (l1 ++ l2)).length (l1 ++ l2) ∧ Goes w wr l R ns (l1 ++ l2) ∧ Ok most (l1 ++ l2) ∧ txN ns = txN l1 ++ P ∧ txN l2 = rp s m P ∧ lf s m P.reverse = k ∧ laA R l1 = v ∧ l1.length = g))
  case atStart => exact ⟨m, v, rfl, rfl, hm, HR0⟩
  case round =>
    obtain ⟨k, v, rfl, rfl, hk6, HR⟩ := hrel
    obtain ⟨l1, l2, P, hL, hGo, hO, hT, hK, hlf, hv, hlen⟩ := HR.out
    have hcr := hL.cring
    rcases snoc_ex l1 with e1 | ⟨r, d, e1⟩
    · subst e1
      have hvR : R = v := hv
      subst hvR
      have hq := neq_same wr R
      have HE : Hid (Does w B l R most (rp s m (txN ns)).length ns (rp s m (txN ns)) wr) := by
        have e1 : txN ns = P := by rw [hT, txN_nil, List.nil_append]
        have e2 : txN ([] ++ l2) = rp s m (txN ns) := by rw [List.nil_append, hK, e1]
        rw [← e2]
        exact ⟨_, hL, hGo, hO, rfl⟩
      clear hL hGo hO hT hK hlf
      go_wp2
      go_end0
      exact ⟨rfl, HE.out⟩
    · subst e1
      rw [laA_snoc] at hv
      subst hv
      have es : ∀ Y : List Nd, r ++ [d] ++ Y = r ++ d :: Y := fun Y => by simp
      rw [es] at hL hGo hO
      have hq := (hL.neqR (d := d) (by simp)).2
      by_cases hk0 : k = 0
      · subst hk0
        have HE : Hid (Does w B l R most (rp s m (txN ns)).length ns (rp s m (txN ns)) wr) := by
          have e2 : txN (r ++ d :: l2) = rp s m (txN ns) := by
            rw [hT, rp_append, hlf, rp_zero, ← hK, ← txN_append, es]
          rw [← e2]
          exact ⟨_, hL, hGo, hO, rfl⟩
        clear hL hGo hO hT hK hlf
        go_wp2
        go_end0
        exact ⟨rfl, HE.out⟩
      · have hk01 : (0 : Int) < (k : Int) := by omega
        have hdN := hL.nod d (by simp)
        have hcp := hL.cpk (d := d) (by simp)
        have hd6 := hdN.siz
        have hdm := hdN.pk.many
        have HAl := Back_pk B d.p d.r d.n d.c d.ls wr hdN.pk hdN.fit (by omega)
        have HL : Hid (Lst wr B l R most (txN (r ++ d :: l2)).length (r ++ d :: l2)) := hL
        have HGo : Hid (Goes w wr l R ns (r ++ d :: l2)) := hGo
        have HO : Hid (Ok most (r ++ d :: l2)) := hO
        have HT : Hid (txN ns = txN (r ++ [d]) ++ P ∧ txN l2 = rp s m P ∧ lf s m P.reverse = k) := ⟨hT, hK, hlf⟩
        have HLn : Hid (r.length + 1 = gk) := by show _ = _; rw [← hlen]; simp
        have hg0 : gk ≠ 0 := by have := HLn.out; omega
        have HCt : Hid ((txN (r ++ d :: l2)).length ≤ 1000000) := by
          have h1 := rp_len s P m
          have h2 := HC.out
          show _ ≤ _
          rw [hT, List.length_append] at h2
          rw [← es, txN_append, List.length_append, hK]
          omega
        have HKl := kp_len s d.ls.reverse k
        have HKf : Hid ((rp s k d.ls).length = d.ls.length → rp s k d.ls = d.ls) := fun he => by
          unfold rp at he ⊢
          rw [List.length_reverse] at he
          rw [kp_same s d.ls.reverse k (by rw [List.length_reverse]; exact he), List.reverse_reverse]
        rw [List.length_reverse] at HKl
        clear hL hGo hO hT hK hlf hlen HR
        go_wp2_with fail
        refine HAl.mono ?_
        rintro e w1 ⟨hb, a1, n1, c1, rfl, hO1⟩
        have hn1 := hO1.len
        rw [List.length_reverse] at hn1
        have HWi := without_any wr.heap.size a1 n1 c1 d.ls.reverse k s w1 hO1 hk6 (by omega)
        have HO1 : Hid (OwnS w1 wr.heap.size a1 n1 c1 d.ls.reverse) := hO1
        have HB1 : Hid (Below wr.heap.size wr w1) := hb
        clear hb hO1 HAl
        go_wp2_with fail
        refine HWi.mono ?_
        rintro e w2 ⟨a2, n2, c2, rfl, hO2, hS2⟩
        have HB2 : Hid (Below wr.heap.size wr w2) := HB1.out.trans (Cut9.below HO1.out HB1.out.size hS2)
        have hn2 := hO2.len
        have HRv := Reverse_any wr.heap.size a2 n2 c2 (kp s k d.ls.reverse) w2 hO2 (by omega)
        have HO2 : Hid (OwnS w2 wr.heap.size a2 n2 c2 (kp s k d.ls.reverse)) := hO2
        clear hO2 hS2 HWi
        go_wp2_with fail
        refine HRv.mono ?_
        rintro e w5 ⟨rfl, hO5, hS5⟩
        have HB5 : Hid (Below wr.heap.size wr w5) := HB2.out.trans (Cut9.below HO2.out HB2.out.size hS5)
        have hL5 := HL.out.keep HB5.out
        have hRl : (rp s k d.ls).length = (kp s k d.ls.reverse).length := by unfold rp; rw [List.length_reverse]
        have HKe := keep_any B l R most _ r l2 d a2 n2 c2 (rp s k d.ls) w5 hL5 HO.out (OwnS.rdf HL.out hO5) (by rw [hRl]; exact HKl.1) HKf.out (fun t ht => hdN.fit t (by
          unfold rp at ht
          have := kp_mem s d.ls.reverse k t (List.mem_reverse.1 ht)
          exact List.mem_reverse.1 this)) (by
          unfold rp
          rw [pack_rev]
          refine Nat.le_trans (pack_kp s d.ls.reverse k) ?_
          rw [pack_rev, hdN.pk.len]; exact hdN.siz) (by rw [txN_append, txN_cons, List.length_append, List.length_append]; omega) HCt.out
        rw [hRl] at HKe
        obtain ⟨g9, hg9⟩ : ∃ g9, d.ls.length - (kp s k d.ls.reverse).length = g9 := ⟨_, rfl⟩
        rw [hg9] at HKe
        obtain ⟨k2, hk2⟩ : ∃ k2, lf s k d.ls.reverse = k2 := ⟨_, rfl⟩
        have hki : (k : Int) - (g9 : Int) = k2 := by omega
        have hk26 : k2 ≤ 1000000 := by omega
        have HK2 : Hid (lf s k d.ls.reverse = k2) := hk2
        have HG9 : Hid ((rp s k d.ls).length = (kp s k d.ls.reverse).length ∧ (kp s k d.ls.reverse).length ≤ d.ls.length) := ⟨hRl, HKl.1⟩
        clear hO5 hS5 hL5 HRv HKl hn1 hn2 hg9 hk2 hdN hRl
        go_wp2_with fail
        refine HKe.mono ?_
        rintro e w3 ⟨rfl, X, h1, h2, h3, h4, h5, h6⟩
        obtain ⟨v2, hv2⟩ : ∃ v2, laA R r = v2 := ⟨_, rfl⟩
        rw [hv2] at h5
        have HR3 : Hid (∃ l1 l2 P, Lst w3 B l R most (txN (l1 ++ l2)).length (l1 ++ l2) ∧ Goes w w3 l R ns (l1 ++ l2) ∧ Ok most (l1 ++ l2) ∧ txN ns = txN l1 ++ P ∧ txN l2 = rp s m P ∧ lf s m P.reverse = k2 ∧ laA R l1 = v2 ∧ l1.length = gk - 1) := by
          obtain ⟨t1, t2, t3⟩ := HT.out
          refine ⟨r, X ++ l2, d.ls ++ P, ?_, ?_, ?_, ?_, ?_, ?_, hv2, ?_⟩
          · have : (txN (r ++ d :: l2)).length - (d.ls.length - (rp s k d.ls).length) = (txN (r ++ (X ++ l2))).length := by
              have h8 := HG9.out
              rw [txN_append, txN_cons, txN_append, txN_append, h4]
              simp only [List.length_append]
              omega
            rw [this] at h1
            exact h1
          · exact (HGo.out.trans (Goes.of_below HB5.out _ _ _)).trans h2
          · exact h3
          · rw [t1, txN_append, txN_cons, txN_nil]; simp
          · rw [txN_append, h4, t2, rp_append, t3]
          · rw [List.reverse_append, lf_append, t3]; exact HK2.out
          · have := HLn.out; omega
        have hce := h5
        clear h1 h2 h3 h4 h5 h6 HKe hv2
        go_wp2
        go_roundg (gk - 1)
        case measure => omega
        case rel => exact ⟨k2, v2, by go_num, rfl, hk26, HR3⟩
end Go.Proofs.Ytemiajjjhhofaac

namespace Go.Proofs.Ytemiajjjhhofaac
open Go.RowKit Go.PlainAid

/-- What is left when texts that are s are removed: the first n, the last -n, all. -/
def rmv (T : List ByteArray) (s : ByteArray) (n : Int) : List ByteArray :=
  if n < 0 then rp s (min (-n).toNat T.length) T else if 0 < n then kp s (min n.toNat T.length) T else kp s T.length T
theorem rmv_len (T : List ByteArray) (s : ByteArray) (n : Int) : (rmv T s n).length ≤ T.length := by
  unfold rmv
  split
  · exact rp_len s T _
  · split
    · exact (kp_len s T _).1
    · exact (kp_len s T _).1

/-- Behind the removing: the nodes are joined if something is gone. -/
theorem rem_end (B l R most : Nat) (ns : List Nd) (T : List ByteArray) (w : World) (hmost : most ≤ 1000000) {w1 : World} (hD : Does w B l R most T.length ns T w1) :
    w1.cell? ⟨l, 1, none⟩ = some (.int .i64 (T.length : Nat)) ∧ Calls Try.prog 20 #[ptr l] w1 fun e w' => e = .returned (.tuple #[]) ∧ Does w B l R most T.length ns T w' := by
  obtain ⟨ns1, h1, h2, h3, h4⟩ := hD
  refine ⟨h1.ccnt, (joinAll_any B l R most T.length ns1 w1 h1 h3 hmost).mono ?_⟩
  rintro e w' ⟨rfl, ns2, k1, k2, k3, k4⟩
  exact ⟨rfl, ns2, k1, h2.trans k2, k3, by rw [k4]; exact h4⟩

set_option maxRecDepth 100000 in
set_option maxHeartbeats 400000 in
theorem Remove_any (B l R most : Nat) (ns : List Nd) (s : ByteArray) (n : Int) (w : World) (h : Lst w B l R most (txN ns).length ns) (hok : Ok most ns) (hc : (txN ns).length ≤ 1000000) (hmost : most ≤ 1000000) (hn1 : -9223372036854775808 ≤ n) (hn2 : n ≤ 9223372036854775807) :
    Calls Try.prog 10 #[ptr l, .string s, .int .i64 n] w fun e w' => e = .returned (.int .i64 (((txN ns).length - (rmv (txN ns) s n).length : Nat) : Nat)) ∧ Does w B l R most (rmv (txN ns) s n).length ns (rmv (txN ns) s n) w' := by
  have hcc := h.ccnt
  have hrl := rmv_len (txN ns) s n
  obtain ⟨had, hh⟩ : ∃ had, (txN ns).length = had := ⟨_, rfl⟩
  have hnw : IntKind.i64.wrap (-(had : Int)) = -(had : Int) := by rw [IntKind.wrap_i64]; omega
  have HEnd := fun w1 (hD : Does w B l R most (rmv (txN ns) s n).length ns (rmv (txN ns) s n) w1) => rem_end B l R most ns (rmv (txN ns) s n) w hmost hD
  have HRF := fun q (hq : q ≤ 1000000) => removeFirst_any B l R most ns s q w h hok hc hq
  have HRL := fun q (hq : q ≤ 1000000) => removeLast_any B l R most ns s q w h hok hc hq
  have hdef : (n < 0 → rmv (txN ns) s n = rp s (min (-n).toNat had) (txN ns)) ∧ (0 < n → rmv (txN ns) s n = kp s (min n.toNat had) (txN ns)) ∧ (n = 0 → rmv (txN ns) s n = kp s had (txN ns)) := by
    unfold rmv
    rw [hh]
    refine ⟨fun h => by rw [if_pos h], fun h => by rw [if_neg (by omega), if_pos h], fun h => by rw [if_neg (by omega), if_neg (by omega)]⟩
  have hnil : had = 0 → rmv (txN ns) s n = kp s had (txN ns) := fun h0 => by
    have : txN ns = [] := List.length_eq_zero_iff.1 (by omega)
    rw [this]
    unfold rmv
    split
    · rfl
    · split <;> rfl
  rw [hh] at hcc hrl hc ⊢
  generalize rmv (txN ns) s n = T at *
  obtain ⟨tl, htl⟩ : ∃ tl, T.length = tl := ⟨_, rfl⟩
  have HTl : Hid (T.length = tl) := htl
  rw [htl] at hrl HEnd ⊢
  obtain ⟨gn, hgn⟩ : ∃ gn, had - tl = gn := ⟨_, rfl⟩
  rw [hgn]
  have hgi : (had : Int) - (tl : Int) = gn := by omega
  have HGo : ∀ w1, Does w B l R most tl ns T w1 → w1.cell? ⟨l, 1, none⟩ = some (.int .i64 (tl : Nat)) ∧ Calls Try.prog 20 #[ptr l] w1 fun e w' => e = .returned (.tuple #[]) ∧ Does w B l R most tl ns T w' := HEnd
  clear h hok hh htl HEnd hgn
  by_cases hA : n < 0 ∧ 0 < had
  · obtain ⟨q, hq⟩ : ∃ q, min (-n).toNat had = q := ⟨_, rfl⟩
    have HR := HRL q (by omega)
    rw [← hq, ← hdef.1 hA.1, hq, HTl.out] at HR
    have hq0 : 0 < q := by omega
    have hwq : IntKind.i64.wrap (-(-(q : Int))) = q := by rw [IntKind.wrap_i64]; omega
    have hwq2 : -(-(q : Int)) = q := by omega
    have hqn : -(q : Int) < 0 := by omega
    have hch : ¬ ((had : Int) < -(q : Int)) := by omega
    clear HRF HRL hdef hnil
    by_cases hle : n < -(had : Int)
    · have hqh : q = had := by omega
      subst hqh
      go_enter Try.func10, Try.ntmps10
      go_wp2_with fail
      refine HR.mono ?_
      rintro e w1 ⟨rfl, hD⟩
      obtain ⟨hc1, HJ⟩ := HGo w1 hD
      have HD : Hid (Does w B l R most tl ns T w1) := hD
      clear hD HR HGo
      by_cases hg0 : gn = 0
      · subst hg0
        go_wp2
        go_ret
        exact ⟨rfl, HD.out⟩
      · have hg1 : (0 : Int) < (gn : Int) := by omega
        go_wp2_with fail
        refine HJ.mono ?_
        rintro e w2 ⟨rfl, hD2⟩
        have HD2 : Hid (Does w B l R most tl ns T w2) := hD2
        clear hD2 HJ
        go_wp2
        go_ret
        exact ⟨rfl, HD2.out⟩
    · have hqh : n = -(q : Int) := by omega
      subst hqh
      go_enter Try.func10, Try.ntmps10
      go_wp2_with fail
      refine HR.mono ?_
      rintro e w1 ⟨rfl, hD⟩
      obtain ⟨hc1, HJ⟩ := HGo w1 hD
      have HD : Hid (Does w B l R most tl ns T w1) := hD
      clear hD HR HGo
      by_cases hg0 : gn = 0
      · subst hg0
        go_wp2
        go_ret
        exact ⟨rfl, HD.out⟩
      · have hg1 : (0 : Int) < (gn : Int) := by omega
        go_wp2_with fail
        refine HJ.mono ?_
        rintro e w2 ⟨rfl, hD2⟩
        have HD2 : Hid (Does w B l R most tl ns T w2) := hD2
        clear hD2 HJ
        go_wp2
        go_ret
        exact ⟨rfl, HD2.out⟩
  · by_cases hBb : 0 < n ∧ 0 < had
    · obtain ⟨q, hq⟩ : ∃ q, min n.toNat had = q := ⟨_, rfl⟩
      have HR := HRF q (by omega)
      rw [← hq, ← hdef.2.1 hBb.1, hq, HTl.out] at HR
      have hq0 : 0 < q := by omega
      have hqn : ¬ ((q : Int) < 0) := by omega
      have hqp : (0 : Int) < (q : Int) := by omega
      have hlo : ¬ (n < -(had : Int)) := by omega
      clear HRF HRL hdef hnil hA
      by_cases hle : (had : Int) < n
      · have hqh : q = had := by omega
        subst hqh
        go_enter Try.func10, Try.ntmps10
        go_wp2_with fail
        refine HR.mono ?_
        rintro e w1 ⟨rfl, hD⟩
        obtain ⟨hc1, HJ⟩ := HGo w1 hD
        have HD : Hid (Does w B l R most tl ns T w1) := hD
        clear hD HR HGo
        by_cases hg0 : gn = 0
        · subst hg0
          go_wp2
          go_ret
          exact ⟨rfl, HD.out⟩
        · have hg1 : (0 : Int) < (gn : Int) := by omega
          go_wp2_with fail
          refine HJ.mono ?_
          rintro e w2 ⟨rfl, hD2⟩
          have HD2 : Hid (Does w B l R most tl ns T w2) := hD2
          clear hD2 HJ
          go_wp2
          go_ret
          exact ⟨rfl, HD2.out⟩
      · have hqh : n = (q : Int) := by omega
        subst hqh
        go_enter Try.func10, Try.ntmps10
        go_wp2_with fail
        refine HR.mono ?_
        rintro e w1 ⟨rfl, hD⟩
        obtain ⟨hc1, HJ⟩ := HGo w1 hD
        have HD : Hid (Does w B l R most tl ns T w1) := hD
        clear hD HR HGo
        by_cases hg0 : gn = 0
        · subst hg0
          go_wp2
          go_ret
          exact ⟨rfl, HD.out⟩
        · have hg1 : (0 : Int) < (gn : Int) := by omega
          go_wp2_with fail
          refine HJ.mono ?_
          rintro e w2 ⟨rfl, hD2⟩
          have HD2 : Hid (Does w B l R most tl ns T w2) := hD2
          clear hD2 HJ
          go_wp2
          go_ret
          exact ⟨rfl, HD2.out⟩
    · have HR := HRF had (by omega)
      have hT0 : T = kp s had (txN ns) := by
        by_cases h0 : had = 0
        · exact hnil h0
        · exact hdef.2.2 (by omega)
      rw [← hT0, HTl.out] at HR
      have hcc2 := hcc
      clear HRF HRL hdef hnil hT0
      by_cases h0 : had = 0
      · subst h0
        have ht0 : tl = 0 := by omega
        subst ht0
        have hg0 : gn = 0 := by omega
        subst hg0
        by_cases hneg : n < 0
        · go_enter Try.func10, Try.ntmps10
          go_wp2_with fail
          refine HR.mono ?_
          rintro e w1 ⟨rfl, hD⟩
          obtain ⟨hc1, -⟩ := HGo w1 hD
          have HD : Hid (Does w B l R most 0 ns T w1) := hD
          clear hD HR HGo
          go_wp2
          go_ret
          exact ⟨rfl, HD.out⟩
        · by_cases hpos : 0 < n
          · go_enter Try.func10, Try.ntmps10
            go_wp2_with fail
            refine HR.mono ?_
            rintro e w1 ⟨rfl, hD⟩
            obtain ⟨hc1, -⟩ := HGo w1 hD
            have HD : Hid (Does w B l R most 0 ns T w1) := hD
            clear hD HR HGo
            go_wp2
            go_ret
            exact ⟨rfl, HD.out⟩
          · have hn0 : n = 0 := by omega
            subst hn0
            go_enter Try.func10, Try.ntmps10
            go_wp2_with fail
            refine HR.mono ?_
            rintro e w1 ⟨rfl, hD⟩
            obtain ⟨hc1, -⟩ := HGo w1 hD
            have HD : Hid (Does w B l R most 0 ns T w1) := hD
            clear hD HR HGo
            go_wp2
            go_ret
            exact ⟨rfl, HD.out⟩
      · have hn0 : n = 0 := by omega
        subst hn0
        have hl1 : ¬ ((0 : Int) < -(had : Int)) := by omega
        have hl2 : ¬ ((had : Int) < 0) := by omega
        go_enter Try.func10, Try.ntmps10
        go_wp2_with fail
        refine HR.mono ?_
        rintro e w1 ⟨rfl, hD⟩
        obtain ⟨hc1, HJ⟩ := HGo w1 hD
        have HD : Hid (Does w B l R most tl ns T w1) := hD
        clear hD HR HGo
        by_cases hg0 : gn = 0
        · subst hg0
          go_wp2
          go_ret
          exact ⟨rfl, HD.out⟩
        · have hg1 : (0 : Int) < (gn : Int) := by omega
          go_wp2_with fail
          refine HJ.mono ?_
          rintro e w2 ⟨rfl, hD2⟩
          have HD2 : Hid (Does w B l R most tl ns T w2) := hD2
          clear hD2 HJ
          go_wp2
          go_ret
          exact ⟨rfl, HD2.out⟩
theorem QRemove (w : World) (B l most : Nat) (ts : List ByteArray) (F : List Nat) (h : QL w B l most ts F) (hc : ts.length ≤ 1000000) (s : ByteArray) (n : Int) (hn : I64 n) :
    Calls Try.prog 10 #[ptr l, .string s, .int .i64 n] w fun e w' => e = .returned (.int .i64 ((ts.length - (rmv ts s n).length : Nat) : Nat)) ∧ QDoes w B l most (rmv ts s n) F w' := by
  obtain ⟨R, ns, h1, h2, rfl, rfl⟩ := h.ex
  refine (Remove_any B l R most ns s n w h1 h2 hc h.few hn.1 hn.2).mono ?_
  rintro e w' ⟨rfl, hd⟩
  exact ⟨rfl, hd.ql rfl h.pos h.few⟩
end Go.Proofs.Ytemiajjjhhofaac

namespace Go.Proofs.Ytemiajjjhhofaac
open Go.RowKit Go.PlainAid

/-- Two lists that share no block. -/
structure Pr (w : World) (B p mp : Nat) (tp : List ByteArray) (F1 : List Nat) (q mq : Nat) (tq : List ByteArray) (F2 : List Nat) : Prop where
  a : QL w B p mp tp F1
  b : QL w B q mq tq F2
  d : ∀ k ∈ F1, k ∉ F2
theorem Pr.keep {w w' : World} {B p mp q mq : Nat} {tp tq : List ByteArray} {F1 F2 : List Nat} (h : Pr w B p mp tp F1 q mq tq F2) (hb : Below w.heap.size w w') : Pr w' B p mp tp F1 q mq tq F2 := ⟨h.a.keep hb, h.b.keep hb, h.d⟩
theorem Pr.one {w w' : World} {B p mp q mq : Nat} {tp tp' tq : List ByteArray} {F1 F1' F2 : List Nat} (h : Pr w B p mp tp F1 q mq tq F2) (hQ : QL w' B p mp tp' F1') (hL : Left w w' F1 F1') : Pr w' B p mp tp' F1' q mq tq F2 :=
  ⟨hQ, h.b.stay hL.stay (fun k hk hm => h.d k hm hk), fun k hk hm => by
    rcases hL.new k hk with h1 | h1
    · exact h.d k h1 hm
    · have := (h.b.blocks k hm).2; omega⟩
theorem Pr.two {w w' : World} {B p mp q mq : Nat} {tp tq tq' : List ByteArray} {F1 F2 F2' : List Nat} (h : Pr w B p mp tp F1 q mq tq F2) (hQ : QL w' B q mq tq' F2') (hL : Left w w' F2 F2') : Pr w' B p mp tp F1 q mq tq' F2' :=
  ⟨h.a.stay hL.stay (fun k hk hm => h.d k hk hm), hQ, fun k hk hm => by
    rcases hL.new k hm with h1 | h1
    · exact h.d k hk h1
    · have := (h.a.blocks k hk).2; omega⟩

def oth (l : List ByteArray) (s : ByteArray) : List ByteArray := l.filter fun t => !decide (t = s)
def tms (l : List ByteArray) (s : ByteArray) : Nat := (l.filter fun t => decide (t = s)).length
theorem tms_oth (s : ByteArray) : ∀ l : List ByteArray, tms l s + (oth l s).length = l.length
  | [] => rfl
  | x :: r => by
    have := tms_oth s r
    unfold tms oth at this ⊢
    by_cases h : x = s
    · simp only [List.filter_cons, h, decide_true, Bool.not_true, if_true, List.length_cons]
      simp; omega
    · simp only [List.filter_cons, h, decide_false, Bool.not_false, if_true, List.length_cons]
      simp; omega
theorem kp_all (s : ByteArray) : ∀ (l : List ByteArray) (m : Nat), l.length ≤ m → kp s m l = oth l s
  | [], _, _ => rfl
  | x :: r, m, h => by
    rw [List.length_cons] at h
    unfold kp oth
    rw [rem]
    by_cases e : x = s
    · rw [if_pos ⟨e, by omega⟩]
      have := kp_all s r (m - 1) (by omega)
      unfold kp oth at this
      rw [this, List.filter_cons, if_neg (by simp [e])]
    · rw [if_neg (fun hh => e hh.1)]
      have := kp_all s r m (by omega)
      unfold kp oth at this
      rw [List.filter_cons, if_pos (by simp [e]), ← this]
theorem rp_all (s : ByteArray) (l : List ByteArray) (m : Nat) (h : l.length ≤ m) : rp s m l = oth l s := by
  unfold rp
  rw [kp_all s l.reverse m (by rw [List.length_reverse]; exact h)]
  unfold oth
  rw [List.filter_reverse, List.reverse_reverse]
theorem kp_none (s : ByteArray) : ∀ (l : List ByteArray) (m : Nat), (∀ t ∈ l, t ≠ s) → kp s m l = l
  | [], _, _ => rfl
  | x :: r, m, h => by
    have h1 := h x (by simp)
    have h2 := kp_none s r m (fun t ht => h t (List.mem_cons_of_mem _ ht))
    unfold kp at h2 ⊢
    rw [rem, if_neg (fun hh => h1 hh.1), h2]
theorem oth_ne (l : List ByteArray) (s : ByteArray) : ∀ t ∈ oth l s, t ≠ s := by
  intro t ht
  have := (List.mem_filter.1 ht).2
  simpa using this
theorem rmv_zero (l : List ByteArray) (s : ByteArray) : rmv l s 0 = oth l s := by
  unfold rmv
  rw [if_neg (by decide), if_neg (by decide)]
  exact kp_all s l _ (Nat.le_refl _)
theorem rmv_back (l : List ByteArray) (s : ByteArray) (h : l.length ≤ 100) : rmv l s (-100) = oth l s := by
  unfold rmv
  rw [if_pos (by decide)]
  exact rp_all s l _ (by show l.length ≤ min 100 l.length; omega)
theorem rmv_gone (l : List ByteArray) (s : ByteArray) : rmv (oth l s) s 1 = oth l s := by
  unfold rmv
  rw [if_neg (by decide), if_pos (by decide)]
  exact kp_none s _ _ (oth_ne l s)
theorem tms_oth0 (l : List ByteArray) (s : ByteArray) : tms (oth l s) s = 0 := by
  unfold tms
  rw [List.length_eq_zero_iff, List.filter_eq_nil_iff]
  intro t ht
  simpa using oth_ne l s t ht
theorem tms_snoc (l : List ByteArray) (x s : ByteArray) : tms (l ++ [x]) s = tms l s + (if x = s then 1 else 0) := by
  unfold tms
  rw [List.filter_append, List.length_append]
  by_cases h : x = s <;> simp [h]
theorem tms_le (l : List ByteArray) (s : ByteArray) : tms l s ≤ l.length := by unfold tms; exact List.length_filter_le _ _

set_option maxRecDepth 100000 in
theorem Times_any (a : Option Addr) (n c : Nat) (ls : List ByteArray) (s : ByteArray) (w : World) (hR : RdS w a n ls) (hn : n ≤ 1000000) :
    Calls Try.prog 9 #[.slice a n c, .string s] w fun e w' => e = .returned (.int .i64 (tms ls s : Nat)) ∧ w' = w := by
  have HR : Hid (RdS w a n ls) := hR
  have HL : Hid (ls.length = n) := hR.len
  clear hR
  go_enter Try.func9, Try.ntmps9
  go_wp2
  go_loopg [5, 6] n (fun g nv iv wr => w = wr ∧ ∃ i k : Nat, i + g = n ∧ iv = .int .i64 i ∧ nv = .int .i64 k ∧ k ≤ i ∧ Hid (tms (ls.take i) s = k))
  case atStart => exact ⟨rfl, 0, 0, by omega, rfl, rfl, by omega, rfl⟩
  case round =>
    obtain ⟨rfl, i, k, hi, rfl, rfl, hki, HK⟩ := hrel
    by_cases h8 : (i : Int) < n
    · obtain ⟨b, off, ha, hc⟩ := HR.out.cell i (by omega)
      subst ha
      have hil : i < ls.length := by have := HL.out; omega
      have HS : Hid (ls.take (i + 1) = ls.take i ++ [ls.getD i ByteArray.empty]) := take_snocB ls i hil
      generalize ls.getD i ByteArray.empty = t at hc HS
      have hbq := str_beq t s
      by_cases hk : t = s
      · have HE : Hid (tms (ls.take (i + 1)) s = k + 1) := by show _ = _; rw [HS.out, tms_snoc, HK.out, if_pos hk]
        have hkb : (t.toList == s.toList) = true := by rw [hbq]; exact decide_eq_true hk
        have hkt : t.toList = s.toList := by rw [hk]
        clear hbq hk
        go_wp2
        go_roundg (gk - 1)
        case measure => omega
        case rel => exact ⟨rfl, i + 1, k + 1, by omega, by go_num, by go_num, by omega, HE⟩
      · have HE : Hid (tms (ls.take (i + 1)) s = k) := by show _ = _; rw [HS.out, tms_snoc, HK.out, if_neg hk]; rfl
        have hkb : (t.toList == s.toList) = false := by rw [hbq]; exact decide_eq_false hk
        have hkt : ¬ (t.toList = s.toList) := by simpa using hkb
        clear hbq hk
        go_wp2
        go_roundg (gk - 1)
        case measure => omega
        case rel => exact ⟨rfl, i + 1, k, by omega, by go_num, rfl, by omega, HE⟩
    · have HE : Hid (tms ls s = k) := by
        have := HK.out
        rw [List.take_of_length_le (by have := HL.out; omega)] at this
        exact this
      go_wp2
      go_ret
      exact ⟨by rw [HE.out]; rfl, rfl⟩

set_option maxRecDepth 100000 in
set_option maxHeartbeats 400000 in
theorem removes_any (a : Option Addr) (n c : Nat) (ls : List ByteArray) (most : Int) (s0 : ByteArray) (w : World) (hR : RdS w a n ls) :
    Calls Try.prog 3 #[.int .i64 most, .slice a n c, .string s0] w fun e w' => e = .returned (.bool true) ∧ Below w.heap.size w w' := by
  have HF := Few_any a n c ls 40 1 w hR (by decide) (by decide)
  have HCu := fun w => Cut_any s0 1 w (by decide)
  have HWi := fun w => Within_any most 1 9 w (by decide) (by decide) (by decide)
  generalize cutB s0 1 = s at HCu
  clear hR
  go_enter Try.func3, Try.ntmps3
  go_wp2_with fail
  refine HF.mono ?_
  rintro e w1 ⟨hb, a1, n1, c1, rfl, L, hO1, hSh⟩
  have HB1 : Hid (Below w.heap.size w w1) := hb
  have HO1 : Hid (OwnS w1 w.heap.size a1 n1 c1 L) := hO1
  have HSh : Hid (Short L 40 1) := hSh
  have hn1 : n1 ≤ 40 := by have h1 := hSh.1; have h2 := hO1.len; omega
  have HLl : Hid (L.length = n1) := hO1.len
  clear hb hO1 hSh HF
  go_wp2_with fail
  refine (HCu w1).mono ?_
  rintro e w1 ⟨rfl, rfl⟩
  clear HCu
  go_wp2_with fail
  refine (HWi w1).mono ?_
  rintro e w1 ⟨rfl, z, hz1, hz2, rfl⟩
  obtain ⟨mo, hmo⟩ : ∃ mo : Nat, max z 1 = mo := ⟨z.toNat, by omega⟩
  have HN := QNew z w1 mo hmo (by omega)
  clear HWi hmo hz1 hz2
  go_wp2_with fail
  refine HN.mono ?_
  rintro e w2 ⟨hb, p, F1, rfl, hQ⟩
  have HB2 := step_below HB1 hb
  have HO2 : Hid (OwnS w2 w.heap.size a1 n1 c1 L) := HO1.out.keep hb
  have HQ2 : Hid (QL w2 w.heap.size p mo [] F1) := hQ.down HB1.out.size
  have HN2 := QNew 5 w2 5 (by decide) (by decide)
  clear hb hQ HN
  go_wp2_with fail
  refine HN2.mono ?_
  rintro e w3 ⟨hb, q, F2, rfl, hQ⟩
  have HB3 := step_below HB2 hb
  have HO3 : Hid (OwnS w3 w.heap.size a1 n1 c1 L) := HO2.out.keep hb
  have HPr : Hid (Pr w3 w.heap.size p mo [] F1 q 5 [] F2) := ⟨HQ2.out.keep hb, hQ.down HB2.out.size, fun k hk hm => by
    have h1 := (HQ2.out.blocks k hk).2
    have h2 := (hQ.blocks k hm).1
    omega⟩
  have HRi := QRight w3 w.heap.size p mo [] F1 HPr.out.a a1 n1 c1 L (HPr.out.a.rdf HO3.out) (short_fit HSh.out (by decide)) (by simp; omega)
  rw [List.nil_append] at HRi
  have hnn := notnil w3 p
  have hnq := notnil w3 q
  clear hb hQ HN2
  go_wp2_with fail
  refine HRi.mono ?_
  rintro e w4 ⟨rfl, F3, hQ4, hL4⟩
  have HB4 : Hid (Below w.heap.size w w4) := HB3.out.trans (QDoes.below HPr.out.a hL4)
  have HO4 : Hid (OwnS w4 w.heap.size a1 n1 c1 L) := HPr.out.a.row HO3.out hL4
  have HP4 : Hid (Pr w4 w.heap.size p mo L F3 q 5 [] F2) := HPr.out.one hQ4 hL4
  have HRi2 := QRight w4 w.heap.size q 5 [] F2 HP4.out.b a1 n1 c1 L (HP4.out.b.rdf HO4.out) (short_fit HSh.out (by decide)) (by simp; omega)
  rw [List.nil_append] at HRi2
  clear hQ4 hL4 HRi hnn hnq
  go_wp2_with fail
  refine HRi2.mono ?_
  rintro e w5 ⟨rfl, F4, hQ5, hL5⟩
  have HB5 : Hid (Below w.heap.size w w5) := HB4.out.trans (QDoes.below HP4.out.b hL5)
  have HO5 : Hid (OwnS w5 w.heap.size a1 n1 c1 L) := HP4.out.b.row HO4.out hL5
  have HP5 : Hid (Pr w5 w.heap.size p mo L F3 q 5 L F4) := HP4.out.two hQ5 hL5
  have HTi := Times_any a1 n1 c1 L s w5 HO5.out.rd (by omega)
  have hto := tms_oth s L
  have HOl : Hid (L.length - (oth L s).length = tms L s) := by show _ = _; omega
  obtain ⟨N, hN⟩ : ∃ N, tms L s = N := ⟨_, rfl⟩
  rw [hN] at HTi HOl
  have HNl : Hid ((oth L s).length = n1 - N ∧ N ≤ n1) := by have := HLl.out; rw [hN] at hto; exact ⟨by omega, by omega⟩
  have hNn : N ≤ n1 := HNl.out.2
  clear hQ5 hL5 HRi2 hto hN
  go_wp2_with fail
  refine HTi.mono ?_
  rintro e w5 ⟨rfl, rfl⟩
  have HR1 := QRemove w5 w.heap.size p mo L F3 HP5.out.a (by have := HLl.out; omega) s 0 (by decide)
  rw [rmv_zero, HOl.out] at HR1
  clear HTi
  go_wp2_with fail
  refine HR1.mono ?_
  rintro e w6 ⟨rfl, F5, hQ6, hL6⟩
  have HB6 : Hid (Below w.heap.size w w6) := HB5.out.trans (QDoes.below HP5.out.a hL6)
  have HP6 : Hid (Pr w6 w.heap.size p mo (oth L s) F5 q 5 L F4) := HP5.out.one hQ6 hL6
  have HR2 := QRemove w6 w.heap.size q 5 L F4 HP6.out.b (by have := HLl.out; omega) s (-100) (by decide)
  rw [rmv_back L s (by have := HLl.out; omega), HOl.out] at HR2
  clear hQ6 hL6 HR1
  go_wp2_with fail
  refine HR2.mono ?_
  rintro e w7 ⟨rfl, F6, hQ7, hL7⟩
  have HB7 : Hid (Below w.heap.size w w7) := HB6.out.trans (QDoes.below HP6.out.b hL7)
  have HP7 : Hid (Pr w7 w.heap.size p mo (oth L s) F5 q 5 (oth L s) F6) := HP6.out.two hQ7 hL7
  have hol : (oth L s).length ≤ 40 := by have := HNl.out.1; omega
  have HA1 := QAll w7 w.heap.size p mo (oth L s) F5 HP7.out.a (by omega)
  have hT0 := tms_oth0 L s
  have hG1 := rmv_gone L s
  obtain ⟨M, hM⟩ : ∃ M, oth L s = M := ⟨_, rfl⟩
  rw [hM] at HA1 HP7 hol HNl hT0 hG1
  clear hQ7 hL7 HR2 HOl
  go_wp2_with fail
  refine HA1.mono ?_
  rintro e w8 ⟨hb, a8, n8, c8, rfl, hO8⟩
  have HB8 := step_below HB7 hb
  have HP8 : Hid (Pr w8 w.heap.size p mo M F5 q 5 M F6) := HP7.out.keep hb
  have HO8 : Hid (OwnS w8 w7.heap.size a8 n8 c8 M) := hO8
  have HA2 := QAll w8 w.heap.size q 5 M F6 HP8.out.b (by omega)
  clear hb hO8 HA1
  go_wp2_with fail
  refine HA2.mono ?_
  rintro e w9 ⟨hb, a9, n9, c9, rfl, hO9⟩
  have HB9 := step_below HB8 hb
  have HP9 : Hid (Pr w9 w.heap.size p mo M F5 q 5 M F6) := HP8.out.keep hb
  have HLs := Lists_of w9 a8 a9 n8 c8 n9 c9 M (HO8.out.keep hb).rd hO9.rd
  clear hb hO9 HA2
  go_wp2_with fail
  refine HLs.mono ?_
  rintro e w10 ⟨hb, rfl⟩
  have HB10 := step_below HB9 hb
  have HP10 : Hid (Pr w10 w.heap.size p mo M F5 q 5 M F6) := HP9.out.keep hb
  have HA3 := QAll w10 w.heap.size p mo M F5 HP10.out.a (by omega)
  clear hb HLs
  go_wp2_with fail
  refine HA3.mono ?_
  rintro e w11 ⟨hb, a11, n11, c11, rfl, hO11⟩
  have HB11 := step_below HB10 hb
  have HP11 : Hid (Pr w11 w.heap.size p mo M F5 q 5 M F6) := HP10.out.keep hb
  have HTi := Times_any a11 n11 c11 M s w11 hO11.rd (by have := hO11.len; omega)
  rw [hT0] at HTi
  clear hb hO11 HA3
  go_wp2_with fail
  refine HTi.mono ?_
  rintro e w11 ⟨rfl, rfl⟩
  have HLe := QLen w11 w.heap.size p mo M F5 HP11.out.a
  rw [HNl.out.1] at HLe
  obtain ⟨d, hd⟩ : ∃ d, n1 - N = d := ⟨_, rfl⟩
  rw [hd] at HLe
  have hdi : (n1 : Int) - (N : Int) = d := by omega
  clear HTi
  go_wp2_with fail
  refine HLe.mono ?_
  rintro e w11 ⟨rfl, rfl⟩
  have HR3 := QRemove w11 w.heap.size p mo M F5 HP11.out.a (by omega) s 1 (by decide)
  rw [hG1, Nat.sub_self] at HR3
  clear HLe hG1 hT0
  go_wp2_with fail
  refine HR3.mono ?_
  rintro e w12 ⟨rfl, F7, hQ12, hL12⟩
  have HB12 : Hid (Below w.heap.size w w12) := HB11.out.trans (QDoes.below HP11.out.a hL12)
  have HK := knownQ_any w12
  clear hQ12 hL12 HR3
  go_wp2_with fail
  refine HK.mono ?_
  rintro e w13 ⟨hb, rfl⟩
  have HB13 := step_below HB12 hb
  clear hb
  go_wp2
  go_ret
  exact ⟨rfl, HB13.out⟩
end Go.Proofs.Ytemiajjjhhofaac
