/- Texts that the others stand on. -/
import Derived.Test.YtmjeljldmmkcpaaGreatRows
import Derived.ProofKit
import Derived.Test.YtmjeljldmmkcpaaGreatK33
import Derived.ChangeSlices
import Derived.SliceStrings
import Derived.Deep.SlicePairs
namespace Go.Proofs.YtmjeljldmmkcpaaGreat
open Go.ChangeShapes Go.WideShapes Go.ChangeAt Go.RowKit
theorem Tryz.own : ownKnob Tryz.prog.godebug = none := by kernel_rfl
theorem Tryz.laidOut : laidOutB Tryz.prog = true := by kernel_rfl
theorem trodAll_below {H : Type} {enc : TypeId × Value → H} {P : Program} (hl : laidOutB P = true) {W W' : World} (hb : Below W.heap.size W W') :
  ∀ {ts : List TypeId} {vs : List Value} {ds : List (DataW H)} {ps : List MemPlace}, (∀ t ∈ ts, P.readableRec t = true ∧ t < P.types.size) → DataW.TrodAll enc P W 0 (fun _ => true) true ts vs ds ps →
   (∀ x ∈ ps, x.block < W.heap.size) → DataW.TrodAll enc P W' 0 (fun b => decide (b < W.heap.size)) true ts vs ds ps
 | [], [], [], _, _, h, _ => h
 | t :: ts, v :: vs, d :: ds, ps, hr, ⟨p, q, h1, h2, e⟩, hx => by
  subst e
  exact ⟨p, q, Below.trod hl (hr t (by simp)).1 (hr t (by simp)).2 h1 hb (fun x hx' => hx x (by simp [hx'])), trodAll_below hl hb (fun t' ht' => hr t' (by simp [ht'])) h2 (fun x hx' => hx x (by simp [hx'])), rfl⟩
 | [], _ :: _, _, _, _, h, _ => by cases h
 | [], [], _ :: _, _, _, h, _ => by cases h
 | _ :: _, [], _, _, _, h, _ => by cases h
 | _ :: _, _ :: _, [], _, _, h, _ => by cases h
theorem law_post {H : Type} {enc : TypeId × Value → H} {P : Program} {f : Func} {s : ChangeSpec} {W W' : World} {args : Array Value} {ds : List (DataW H)} {before : List MemPlace} {tb : TypeId}
  (hl : laidOutB P = true) (hr : ∀ t ∈ f.params.toList, P.readableRec t = true ∧ t < P.types.size) (hres : f.resultTypes = #[tb]) (htb : P.underlying tb = some .bool) (hv : s.vars = [])
  (hfn : s.fn H (ds ++ []) = { results := [.lit (.bool true)], args := ds }) (hW : DataW.Whole enc P f.params.toList s.vars false W args.toList ds [] before) (hb : Below W.heap.size W W') :
  s.post enc P f false true false false W args (.bool true) W' := by
 have hW' := hW
 obtain ⟨p, q, hA, hV, rfl, hfz, hnd⟩ := hW
 refine ⟨ds, [], p ++ q, [], p, [], hW', ?_, ?_, ?_, hb.frame _, fun h => by cases h⟩
 ·rw [hfn, hres]
  exact trodAll_mk1 (shut_bool htb true)
 ·rw [hfn]
  exact trodAll_below hl hb hr hA (fun x hx => by simpa using hW'.lt x (by simp [hx]))
 ·rw [hfn, hv]; rfl
theorem Tryz.cellsC : Tryz.prog.cellsOf 31 = 3 := by kernel_rfl
theorem Tryz.cellsL : Tryz.prog.cellsOf 29 = 2 := by kernel_rfl
theorem Tryz.cellsU : Tryz.prog.cellsOf 27 = 1 := by kernel_rfl
theorem Tryz.cellsI3 : Tryz.prog.cellsOf 3 = 1 := by kernel_rfl
set_option maxRecDepth 100000 in
theorem cfg_of_trod {H : Type} {enc : TypeId × Value → H} {W : World} {v : Value} {r : Reach} {base : Nat} {d : DataW H} {p : List MemPlace}
  (hv : Value.okWide Tryz.prog W r base 31 v) (h : DataW.Trod enc Tryz.prog W 0 (fun _ => true) true 31 v d p) : ∃ (x : Nat) (E T : Int), x < 18446744073709551616 ∧ v = .agg #[.int .u64 (x : Nat), .int .i64 E, .int .i64 T] := by
 obtain ⟨cs, rfl, hs⟩ := okWide_struct Tryz.underlying31 hv
 rw [Tryz.cellsC] at hs
 obtain ⟨fuel, hf⟩ := h
 obtain ⟨xs, k, hk, hxy, _, hxl, hff⟩ := DataW.trod_struct Tryz.underlying31 hf
 obtain ⟨l⟩ := cs
 match l, hs with
 | [v0, v1, v2], _ =>
  match xs, hxl with
  | [y0, y1], _ =>
   have g0 := hff 0 _ rfl
   have g1 := hff 1 _ rfl
   simp [Tryz.cellsU, Tryz.cellsL, Value.cells] at g0 g1
   obtain ⟨z0, hz0, -, hw0⟩ := DataW.trod_int Tryz.underlying27 g0
   obtain ⟨xs', k', hk', hxy', _, hxl', hff'⟩ := DataW.trod_struct Tryz.underlying29 g1
   match xs', hxl' with
   | [y2, y3], _ =>
    have g2 := hff' 0 _ rfl
    have g3 := hff' 1 _ rfl
    simp [Tryz.cellsI3] at g2 g3
    obtain ⟨z1, hz1, -, -⟩ := DataW.trod_int Tryz.underlying3 g2
    obtain ⟨z2, hz2, -, -⟩ := DataW.trod_int Tryz.underlying3 g3
    simp at hz0 hz1 hz2
    subst hz0 hz1 hz2
    replace hw0 : 0 ≤ z0 ∧ z0 ≤ 18446744073709551615 := by simpa [Lit.wf, IntKind.min, IntKind.max, IntKind.bits, IntKind.signed] using hw0
    obtain ⟨x, rfl⟩ : ∃ m : Nat, z0 = (m : Int) := ⟨z0.toNat, by omega⟩
    exact ⟨x, z1, z2, by omega, rfl⟩
theorem Tryz.cellsK : Tryz.prog.cellsOf 24 = 6 := by kernel_rfl
theorem Tryz.cellsI2 : Tryz.prog.cellsOf 2 = 1 := by kernel_rfl
theorem Tryz.cellsS9 : Tryz.prog.cellsOf 9 = 1 := by kernel_rfl
set_option maxRecDepth 100000 in
theorem l_of_trod {H : Type} {enc : TypeId × Value → H} {W : World} {a : Option Addr} {len cap : Nat} {d : DataW H} {p : List MemPlace}
  (h : DataW.Trod enc Tryz.prog W 0 (fun _ => true) true 22 (.slice a len cap) d p) : Sq.RdK W a len := by
 obtain ⟨fuel, hf⟩ := h
 rcases Deep.open_slice Tryz.underlying22 hf with ⟨hcs, -⟩ | ⟨a', len', cap', m, n, D, Pl, hcs, hb, hl, hm, hmm, hx, hel⟩
 ·simp [Value.cells] at hcs
  obtain ⟨rfl, rfl, rfl⟩ := hcs
  exact ⟨Nat.zero_le _, fun j hj => absurd hj (Nat.not_lt_zero _)⟩
 ·simp [Value.cells] at hcs
  obtain ⟨rfl, rfl, rfl⟩ := hcs
  rw [if_pos rfl] at hmm
  refine ⟨Nat.le_trans hl hm, fun j hj => ?_⟩
  obtain ⟨cs', h1, h2⟩ := hel j (by omega)
  rw [Tryz.cellsK] at h1
  obtain ⟨_, hlen, hcell⟩ := World.cells?_some h1
  obtain ⟨xs, k, hk, hxy, _, hxl, hff⟩ := DataW.trod_struct Tryz.underlying24 h2
  match xs, hxl, cs', hlen with
  | [y0, y1, y2, y3, y4, y5], _, [v0, v1, v2, v3, v4, v5], _ =>
   have g0 := hff 0 _ rfl
   have g1 := hff 1 _ rfl
   have g2 := hff 2 _ rfl
   have g3 := hff 3 _ rfl
   have g4 := hff 4 _ rfl
   have g5 := hff 5 _ rfl
   simp [Tryz.cellsI3, Tryz.cellsI2, Tryz.cellsS9] at g0 g1 g2 g3 g4 g5
   have e0 := hcell 0 (by omega)
   have e1 := hcell 1 (by omega)
   have e2 := hcell 2 (by omega)
   have e3 := hcell 3 (by omega)
   have e4 := hcell 4 (by omega)
   have e5 := hcell 5 (by omega)
   rw [Deep.add_add] at e0 e1 e2 e3 e4 e5
   obtain ⟨z0, hz0, -, -⟩ := DataW.trod_int Tryz.underlying3 g0
   obtain ⟨z1, hz1, -, -⟩ := DataW.trod_int Tryz.underlying3 g1
   obtain ⟨z2, hz2, -, -⟩ := DataW.trod_int Tryz.underlying3 g2
   obtain ⟨z3, hz3, -, -⟩ := DataW.trod_int Tryz.underlying2 g3
   obtain ⟨z4, hz4, -, -⟩ := DataW.trod_int Tryz.underlying2 g4
   obtain ⟨z5, hz5, -, -⟩ := DataW.trod_string Tryz.underlying9 g5
   simp at hz0 hz1 hz2 hz3 hz4 hz5
   subst hz0 hz1 hz2 hz3 hz4 hz5
   obtain ⟨b, off, spot⟩ := a'
   have hspot : spot = none := by
    obtain ⟨cs0, k1, -⟩ := hel 0 (by omega)
    rw [Tryz.cellsK] at k1
    obtain ⟨_, hlen0, hcell0⟩ := World.cells?_some k1
    have h0 := hcell0 0 (by omega)
    rw [List.getElem?_eq_getElem (by omega)] at h0
    simpa [Addr.add] using World.cell?_spot h0
   subst hspot
   refine ⟨b, off, z0, z1, z2, z3, z4, z5, rfl, ?_, ?_, ?_, ?_, ?_, ?_⟩
   ·rw [add_plain] at e0; simpa using e0
   ·rw [add_plain] at e1; simpa [Nat.add_assoc] using e1
   ·rw [add_plain] at e2; simpa [Nat.add_assoc] using e2
   ·rw [add_plain] at e3; simpa [Nat.add_assoc] using e3
   ·rw [add_plain] at e4; simpa [Nat.add_assoc] using e4
   ·rw [add_plain] at e5; simpa [Nat.add_assoc] using e5
end Go.Proofs.YtmjeljldmmkcpaaGreat
