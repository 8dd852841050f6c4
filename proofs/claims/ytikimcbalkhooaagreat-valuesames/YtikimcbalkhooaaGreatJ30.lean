/- Texts that the others stand on. -/
import Derived.Test.YtikimcbalkhooaaGreatRows
import Derived.ProofKit
import Derived.Test.YtikimcbalkhooaaGreatJ2
import Derived.ChangeSlices
import Derived.SliceStrings
import Derived.Test.YtikimcbalkhooaaGreatJ22
import Derived.Deep.SlicePairs
namespace Go.Proofs.YtikimcbalkhooaaGreat
open Go.ChangeShapes Go.WideShapes Go.ChangeAt Go.RowKit
theorem Tryz.own : ownKnob Tryz.prog.godebug = none := by kernel_rfl
theorem Tryz.laidOut : laidOutB Tryz.prog = true := by kernel_rfl
theorem trodAll_below {H : Type} {enc : TypeId × Value → H} {P : Program} (hl : laidOutB P = true) {W W' : World} (hb : Below W.heap.size W W') :
  ∀ {ts : List TypeId} {vs : List Value} {ds : List (DataW H)} {ps : List MemPlace}, (∀ t ∈ ts, P.readableRec t = true ∧ t < P.types.size) → DataW.TrodAll enc P W 0 (fun _ => true) true ts vs ds ps →
   (∀ x ∈ ps, x.block < W.heap.size) → DataW.TrodAll enc P W' 0 (fun b => decide (b < W.heap.size)) true ts vs ds ps
 | [], [], [], _, _, h, _ => h
 | t :: ts, v :: vs, d :: ds, ps, hr, ⟨p, q, h1, h2, e⟩, hx => by
  subst e
  exact ⟨p, q, Below.trod hl (hr t (by simp)).1 (hr t (by simp)).2 h1 hb (fun x hx' => hx x (by simp [hx'])), trodAll_below hl hb (fun t' ht' => hr t' (by simp [ht'])) h2 (fun x hx' => hx x (by simp [hx'])), rfl⟩
 | [], _ :: _, _, _, _, h, _ => by cases h
 | [], [], _ :: _, _, _, h, _ => by cases h
 | _ :: _, [], _, _, _, h, _ => by cases h
 | _ :: _, _ :: _, [], _, _, h, _ => by cases h
theorem law_post {H : Type} {enc : TypeId × Value → H} {P : Program} {f : Func} {s : ChangeSpec} {W W' : World} {args : Array Value} {ds : List (DataW H)} {before : List MemPlace} {tb : TypeId}
  (hl : laidOutB P = true) (hr : ∀ t ∈ f.params.toList, P.readableRec t = true ∧ t < P.types.size) (hres : f.resultTypes = #[tb]) (htb : P.underlying tb = some .bool) (hv : s.vars = [])
  (hfn : s.fn H (ds ++ []) = { results := [.lit (.bool true)], args := ds }) (hW : DataW.Whole enc P f.params.toList s.vars false W args.toList ds [] before) (hb : Below W.heap.size W W') :
  s.post enc P f false true false false W args (.bool true) W' := by
 have hW' := hW
 obtain ⟨p, q, hA, hV, rfl, hfz, hnd⟩ := hW
 refine ⟨ds, [], p ++ q, [], p, [], hW', ?_, ?_, ?_, hb.frame _, fun h => by cases h⟩
 ·rw [hfn, hres]
  exact trodAll_mk1 (shut_bool htb true)
 ·rw [hfn]
  exact trodAll_below hl hb hr hA (fun x hx => by simpa using hW'.lt x (by simp [hx]))
 ·rw [hfn, hv]; rfl
theorem Tryz.cells9 : Tryz.prog.cellsOf 9 = 1 := by kernel_rfl
theorem strs_of_trod {H : Type} {enc : TypeId × Value → H} {W : World} {a : Option Addr} {len cap : Nat} {d : DataW H} {p : List MemPlace}
  (h : DataW.Trod enc Tryz.prog W 0 (fun _ => true) true 23 (.slice a len cap) d p) : ∃ ls, RdS W a len ls := by
 obtain ⟨fuel, hf⟩ := h
 rcases open_strings Tryz.underlying23 Tryz.underlying9 Tryz.cells9 hf with ⟨hcs, hx⟩ | ⟨a', len', cap', ss, hcs, _, hl, hm, hz, hx, hcell, hws⟩
 ·simp [Value.cells] at hcs
  obtain ⟨rfl, rfl, rfl⟩ := hcs
  exact ⟨[], rfl, Nat.zero_le _, fun i hi => absurd hi (Nat.not_lt_zero _)⟩
 ·simp [Value.cells] at hcs
  obtain ⟨rfl, rfl, rfl⟩ := hcs
  have hz' : ss.length = cap := by simpa using hz
  refine ⟨ss.take len, by rw [List.length_take]; omega, Nat.le_trans hl hm, fun i hi => ?_⟩
  have hc := hcell i (by omega)
  obtain ⟨b, off, spot⟩ := a'
  have hspot : spot = none := by
   have h0 := hcell 0 (by omega)
   simpa [Addr.add] using World.cell?_spot h0
  subst hspot
  have hg : (ss.take len).getD i ByteArray.empty = ss.getD i ByteArray.empty := by
   rw [List.getD_eq_getElem?_getD, List.getD_eq_getElem?_getD, List.getElem?_take, if_pos hi]
  exact ⟨b, off, rfl, by rw [← Go.WideShapes.add_plain, hg]; exact hc⟩
end Go.Proofs.YtikimcbalkhooaaGreat
namespace Go.Proofs.YtikimcbalkhooaaGreat
open Go.ChangeShapes Go.WideShapes Go.ChangeAt Go.RowKit
open Dk (En keysOf)
theorem Tryz.cellsDr : Tryz.prog.cellsOf 25 = 4 := by kernel_rfl
theorem Tryz.cellsPr : Tryz.prog.cellsOf 62 = 2 := by kernel_rfl
theorem Tryz.cellsI : Tryz.prog.cellsOf 3 = 1 := by kernel_rfl
theorem Tryz.cellsSS : Tryz.prog.cellsOf 23 = 1 := by kernel_rfl
theorem Tryz.cellsSP : Tryz.prog.cellsOf 22 = 1 := by kernel_rfl
set_option maxRecDepth 100000 in
theorem pairs_of_trod {H : Type} {enc : TypeId × Value → H} {W : World} {a : Option Addr} {len cap : Nat} {d : DataW H} {p : List MemPlace}
  (h : DataW.Trod enc Tryz.prog W 0 (fun _ => true) true 22 (.slice a len cap) d p) : ∃ es, RdE W a len es := by
 obtain ⟨fuel, hf⟩ := h
 rcases Deep.open_slice Tryz.underlying22 hf with ⟨hcs, -⟩ | ⟨a', len', cap', m, n, D, Pl, hcs, hb, hl, hm, hmm, hx, hel⟩
 ·simp [Value.cells] at hcs
  obtain ⟨rfl, rfl, rfl⟩ := hcs
  exact ⟨[], rfl, Nat.zero_le _, fun j hj => absurd hj (Nat.not_lt_zero _)⟩
 ·simp [Value.cells] at hcs
  obtain ⟨rfl, rfl, rfl⟩ := hcs
  rw [if_pos rfl] at hmm
  have hall : ∀ j, j < len → ∃ b off, a' = ⟨b, off, none⟩ ∧ ∃ e : En, W.cell? ⟨b, off + j * 2, none⟩ = some (.string e.1) ∧ W.cell? ⟨b, off + j * 2 + 1, none⟩ = some (.string e.2) := by
   intro j hj
   obtain ⟨cs', h1, h2⟩ := hel j (by omega)
   rw [Tryz.cellsPr] at h1
   obtain ⟨_, hlen, hcell⟩ := World.cells?_some h1
   obtain ⟨xs, k, hk, hxy, _, hxl, hff⟩ := DataW.trod_struct Tryz.underlying62 h2
   match xs, hxl, cs', hlen with
   | [y0, y1], _, [v0, v1], _ =>
    have g0 := hff 0 _ rfl
    have g1 := hff 1 _ rfl
    simp [Tryz.cells9] at g0 g1
    have e0 := hcell 0 (by omega)
    have e1 := hcell 1 (by omega)
    rw [Deep.add_add] at e0 e1
    obtain ⟨z0, hz0, -, -⟩ := DataW.trod_string Tryz.underlying9 g0
    obtain ⟨z1, hz1, -, -⟩ := DataW.trod_string Tryz.underlying9 g1
    simp at hz0 hz1
    subst hz0 hz1
    obtain ⟨b, off, spot⟩ := a'
    have hspot : spot = none := by
     obtain ⟨cs0, k1, -⟩ := hel 0 (by omega)
     rw [Tryz.cellsPr] at k1
     obtain ⟨_, hlen0, hcell0⟩ := World.cells?_some k1
     have h0 := hcell0 0 (by omega)
     rw [List.getElem?_eq_getElem (by omega)] at h0
     simpa [Addr.add] using World.cell?_spot h0
    subst hspot
    refine ⟨b, off, rfl, (z0, z1), ?_, ?_⟩
    ·rw [add_plain] at e0; simpa using e0
    ·rw [add_plain] at e1; simpa [Nat.add_assoc] using e1
  have hex : ∀ k, k ≤ len → ∃ es : List En, es.length = k ∧ ∀ j, j < k → ∃ b off, a' = ⟨b, off, none⟩ ∧ W.cell? ⟨b, off + j * 2, none⟩ = some (.string (es.getD j (⟨#[]⟩, ⟨#[]⟩)).1) ∧ W.cell? ⟨b, off + j * 2 + 1, none⟩ = some (.string (es.getD j (⟨#[]⟩, ⟨#[]⟩)).2) := by
   intro k
   induction k with
   | zero => exact fun _ => ⟨[], rfl, fun j hj => absurd hj (Nat.not_lt_zero _)⟩
   | succ k ih =>
    intro hk
    obtain ⟨es, h1, h2⟩ := ih (by omega)
    obtain ⟨b, off, h3, e, h4, h5⟩ := hall k (by omega)
    refine ⟨es ++ [e], by simp [h1], fun j hj => ?_⟩
    by_cases hjk : j < k
    ·obtain ⟨b', off', h6, h7, h8⟩ := h2 j hjk
     refine ⟨b', off', h6, ?_, ?_⟩
     ·rw [List.getD_eq_getElem?_getD, List.getElem?_append_left (by omega), ← List.getD_eq_getElem?_getD]; exact h7
     ·rw [List.getD_eq_getElem?_getD, List.getElem?_append_left (by omega), ← List.getD_eq_getElem?_getD]; exact h8
    ·obtain rfl : j = k := by omega
     refine ⟨b, off, h3, ?_, ?_⟩
     ·rw [List.getD_eq_getElem?_getD, List.getElem?_append_right (by omega), show j - es.length = 0 by omega]; exact h4
     ·rw [List.getD_eq_getElem?_getD, List.getElem?_append_right (by omega), show j - es.length = 0 by omega]; exact h5
  obtain ⟨es, h1, h2⟩ := hex len (Nat.le_refl _)
  refine ⟨es, h1, Nat.le_trans hl hm, fun j hj => ?_⟩
  obtain ⟨b, off, h3, h4, h5⟩ := h2 j hj
  exact ⟨b, off, by rw [h3], h4, h5⟩
set_option maxRecDepth 100000 in
theorem drw_of_trod {H : Type} {enc : TypeId × Value → H} {W : World} {v : Value} {r : Reach} {base : Nat} {d : DataW H} {p : List MemPlace}
  (hv : Value.okWide Tryz.prog W r base 25 v) (h : DataW.Trod enc Tryz.prog W 0 (fun _ => true) true 25 v d p) : Drw W v := by
 obtain ⟨cs, rfl, hs⟩ := okWide_struct Tryz.underlying25 hv
 rw [Tryz.cellsDr] at hs
 obtain ⟨fuel, hf⟩ := h
 obtain ⟨xs, k, hk, hxy, _, hxl, hff⟩ := DataW.trod_struct Tryz.underlying25 hf
 obtain ⟨l⟩ := cs
 match l, hs with
 | [v0, v1, v2, v3], _ =>
  match xs, hxl with
  | [y0, y1, y2, y3], _ =>
   have g0 := hff 0 _ rfl
   have g1 := hff 1 _ rfl
   have g2 := hff 2 _ rfl
   have g3 := hff 3 _ rfl
   simp [Tryz.cellsI, Tryz.cells9, Tryz.cellsSS, Tryz.cellsSP, Value.cells] at g0 g1 g2 g3
   obtain ⟨z0, hz0, -, -⟩ := DataW.trod_int Tryz.underlying3 g0
   obtain ⟨z1, hz1, -, -⟩ := DataW.trod_string Tryz.underlying9 g1
   simp at hz0 hz1
   subst hz0 hz1
   have s2 : ∃ a n c, v2 = .slice a n c := by
    rcases Deep.open_slice Tryz.underlying22 g2 with ⟨hcs, -⟩ | ⟨a', len', cap', m, n, D, Pl, hcs, -⟩
    ·simp at hcs; exact ⟨_, _, _, hcs⟩
    ·simp at hcs; exact ⟨_, _, _, hcs⟩
   have s3 : ∃ a n c, v3 = .slice a n c := by
    rcases Deep.open_slice Tryz.underlying23 g3 with ⟨hcs, -⟩ | ⟨a', len', cap', m, n, D, Pl, hcs, -⟩
    ·simp at hcs; exact ⟨_, _, _, hcs⟩
    ·simp at hcs; exact ⟨_, _, _, hcs⟩
   obtain ⟨pa, pn, pc, rfl⟩ := s2
   obtain ⟨la, ln, lc, rfl⟩ := s3
   obtain ⟨es, he⟩ := pairs_of_trod (a := pa) (len := pn) (cap := pc) ⟨_, g2⟩
   obtain ⟨ls, hl⟩ := strs_of_trod (a := la) (len := ln) (cap := lc) ⟨_, g3⟩
   exact ⟨z0, z1, pa, pn, pc, es, la, ln, lc, ls, rfl, he, hl⟩
end Go.Proofs.YtikimcbalkhooaaGreat
