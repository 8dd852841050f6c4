/- Texts that the others stand on. -/
import Derived.Test.YtmjeljldmmkcpaaGreatK35
import Derived.Deep.RegionLaw
import Derived.Laws.Rows
import Derived.Test.YtmjeljldmmkcpaaGreatK33
set_option maxRecDepth 100000
set_option maxHeartbeats 1600000
namespace Go.Proofs.YtmjeljldmmkcpaaGreat.Sq
open Go.RowKit Go.PlainAid
open Dk (ptr Aa Ac Ad Af OwnR OwnP OwnS Mv Am Elt A4)
theorem run_append_pair0 (w : World) {t e : TypeId} {i : TypeInfo} (ht : Tryz.prog.underlying t = some (.slice e)) (hi : Tryz.prog.info? e = some i) (a : Addr) (pa : Option Addr) (pc : Nat) (ty : TypeId) :
  (Builtin.append_ #[t, t] ty #[.slice (some a) 0 0, .slice pa 0 pc]).run Tryz.prog w = .ok (.slice (some a) 0 0) w := by
 cases pa with
 | none => simp [Builtin.append_, run_underlying ht, sizeOf, typeInfo, hi, Builtin.lenOf, Builtin.firstCells, storeCells]
 | some b => simp [Builtin.append_, run_underlying ht, sizeOf, typeInfo, hi, Builtin.lenOf, Builtin.firstCells, storeCells, loadCells, loadCellsFrom, Result.andThen]
theorem Tryz.infoP0 : (Tryz.prog.info? 238).isSome = true := by kernel_rfl
theorem step_append_0 {w : World} {ops : Array Oper} {o : Oper} {ac : Act} {K : Act → World → Prop} {Q : Exit → Act → World → Prop} {E : Prop} (hgd : o.guard = none) (s x : Operand) {t e : TypeId} (ho : o.op = .call { callee := .builtin .append, args := #[s, x], argTypes := #[t, t] })
  (ht : Tryz.prog.underlying t = some (.slice e)) (hi : (Tryz.prog.info? e).isSome = true) {a : Addr} (hs : ac.eval s = .slice (some a) 0 0) {a' : Option Addr} {cap' : Nat} (hx : ac.eval x = .slice a' 0 cap')
  (h : K (ac.put o.dst (.slice (some a) 0 0)) w) : if Region.wanted o (yielded ops ac.tmps) = true then Oper.wp Tryz.prog o ac w K Q else E := by
 have hw : Region.wanted o (yielded ops ac.tmps) = true := by simp [Region.wanted, hgd]
 rw [if_pos hw]
 obtain ⟨i, hi⟩ := Option.isSome_iff_exists.1 hi
 unfold Oper.wp
 simp [execOp, ho, resolve, invoke, builtin, hs, hx, run_append_pair0 w ht hi a a' cap' o.type, Result.andThen]
 exact h
theorem RdL.rd {w : World} {a : Option Addr} {n c : Nat} {ls : List BA} (h : RdL w a n c ls) : Dk.RdR w a n c (Dk.By ls) := by
 refine ⟨by unfold Dk.By; rw [List.length_map]; exact h.len, h.fit, h.max, h.nul, fun j u hu => ?_⟩
 unfold Dk.By at hu
 rw [List.getElem?_map] at hu
 cases hj : ls[j]? with
 | none => rw [hj] at hu; cases hu
 | some t =>
  rw [hj] at hu
  cases hu
  have hl : j < n := by rw [← h.len]; exact (List.getElem?_eq_some_iff.1 hj).1
  obtain ⟨b, off, cs, e, h1, h2⟩ := h.cell j hl
  refine ⟨b, off, e, ?_⟩
  rw [List.getD_eq_getElem?_getD, hj] at h2
  simp only [World.cell?, h1]
  exact h2
theorem RdL.keep {w w' : World} {a : Option Addr} {n c : Nat} {ls : List BA} (h : RdL w a n c ls) (hb : Below w.heap.size w w') : RdL w' a n c ls := h.mv (t := fun _ => false) (Mv.of_below hb) rfl
theorem rdl_of_own {w : World} {B : Nat} {a : Option Addr} {n c : Nat} {ls : List BA} (h : OwnS w B a n c ls) : RdL w a n c ls := by
 have hl := Dk.OwnS.len h
 rcases h.2 with ⟨h2, h3⟩ | ⟨g, c', cur, h2, h3, h4, h5, h6, h7, h8⟩
 ·cases h2
  have : ls = [] := List.eq_nil_of_length_eq_zero hl
  subst this
  exact RdL.nil _
 ·cases h2
  refine ⟨hl, h5, h6, (fun h => by cases h), fun i hi => ⟨g, 0, cur, rfl, h4, ?_⟩⟩
  rw [Nat.zero_add]
  rw [Nat.mul_one] at h8
  have h9 := congrArg (fun l : List Value => l[i]?) h8
  replace h9 : (cur.toList.take n)[i]? = (Dk.By ls)[i]? := h9
  rw [List.getElem?_take, if_pos hi, Array.getElem?_toList] at h9
  rw [h9]
  unfold Dk.By
  rw [List.getElem?_map, List.getD_eq_getElem?_getD, List.getElem?_eq_getElem (by omega)]
  rfl
theorem Tryz.infoVal : (Tryz.prog.info? 107).map (·.size) = some 4 := by kernel_rfl
theorem heap_last {wr : World} {b2 : Nat} {c0 c1 c2 c3 : Value} {ty : TypeId} (h : wr.heap[b2]? = some (.cells #[c0, c1, c2, c3] ty (0, 0))) (v0 v1 v2 v3 : Value) :
  ((((wr.setCell ⟨b2, 0, none⟩ v0).setCell ⟨b2, 1, none⟩ v1).setCell ⟨b2, 2, none⟩ v2).setCell ⟨b2, 3, none⟩ v3).heap[b2]? = some (.cells #[v0, v1, v2, v3] ty (0, 0)) := by
 rw [Ak (Ak (Ak (Ak h)))]
 rfl
structure Bx2 (w : World) (b r : Nat) (kd : Int) (tx : BA) (P L : Value) : Prop where
 b : w.heap[b]? = some (.cells #[.int .i64 kd, .string tx, P, L] 107 (0, 0))
 r : w.heap[r]? = some (.cells #[.int .i64 0, .string ⟨#[]⟩, .slice none 0 0, .slice none 0 0] 107 (0, 0))
theorem Bx2.keep {w w' : World} {b r : Nat} {kd : Int} {tx : BA} {P L : Value} (h : Bx2 w b r kd tx P L) (hb : Below w.heap.size w w') : Bx2 w' b r kd tx P L := ⟨by rw [hb.block b (Array.getElem?_eq_some_iff.1 h.b).1]; exact h.b, by rw [hb.block r (Array.getElem?_eq_some_iff.1 h.r).1]; exact h.r⟩
theorem Bx2.in4 {w : World} {b r : Nat} {kd : Int} {tx : BA} {P L : Value} (h : Bx2 w b r kd tx P L) : w.cell? ⟨b, 0, none⟩ = some (.int .i64 kd) ∧ w.cell? ⟨b, 1, none⟩ = some (.string tx) ∧ w.cell? ⟨b, 2, none⟩ = some P ∧ w.cell? ⟨b, 3, none⟩ = some L := by
 have := h.b
 exact ⟨by simp [World.cell?, this], by simp [World.cell?, this], by simp [World.cell?, this], by simp [World.cell?, this]⟩
theorem Bx2.out4 {w : World} {b r : Nat} {kd : Int} {tx : BA} {P L : Value} (h : Bx2 w b r kd tx P L) : (w.cell? ⟨r, 0, none⟩ = some (.int .i64 0) ∧ w.cell? ⟨r, 1, none⟩ = some (.string ⟨#[]⟩) ∧ w.cell? ⟨r, 2, none⟩ = some (.slice none 0 0) ∧ w.cell? ⟨r, 3, none⟩ = some (.slice none 0 0)) ∧ ∀ o, w.frozen? ⟨r, o, none⟩ = false := by
 have := h.r
 exact ⟨⟨by simp [World.cell?, this], by simp [World.cell?, this], by simp [World.cell?, this], by simp [World.cell?, this]⟩, fun o => by simp [World.frozen?, this]⟩
theorem Bx2.inS {w : World} {b r : Nat} {kd : Int} {tx : BA} {P L : Value} (h : Bx2 w b r kd tx P L) (hne : b ≠ r) (v0 v1 v2 v3 : Value) : let w' := ((((w.setCell ⟨r, 0, none⟩ v0).setCell ⟨r, 1, none⟩ v1).setCell ⟨r, 2, none⟩ v2).setCell ⟨r, 3, none⟩ v3); w'.cell? ⟨b, 0, none⟩ = some (.int .i64 kd) ∧ w'.cell? ⟨b, 1, none⟩ = some (.string tx) ∧ w'.cell? ⟨b, 2, none⟩ = some P ∧ w'.cell? ⟨b, 3, none⟩ = some L := by
 intro w'
 have e : w'.heap[b]? = w.heap[b]? := (Ar hne).trans ((Ar hne).trans ((Ar hne).trans (Ar hne)))
 have := h.b
 exact ⟨by simp [World.cell?, e, this], by simp [World.cell?, e, this], by simp [World.cell?, e, this], by simp [World.cell?, e, this]⟩
def CpvR (w w' : World) (kd : Int) (tx : BA) (ln : Nat) (ls : List BA) (e : Ending) : Prop := Below w.heap.size w w' ∧ ∃ pa pc la lc, e = .returned (vagg kd tx pa pc la ln lc) ∧ RdL w' la ln lc ls
theorem cpv_end {w wb w2 : World} {B2 r : Nat} {c0 c1 c2 c3 : Value} {la : Option Addr} {n c : Nat} {ls : List BA} (h1 : Below w.heap.size w wb) (h2 : Below wb.heap.size wb w2) (h3 : w2.heap[r]? = some (.cells #[c0, c1, c2, c3] 107 (0, 0))) (hr : w.heap.size ≤ r) (h4 : OwnS w2 B2 la n c ls) (v0 v1 v2 v3 : Value) :
  Below w.heap.size w ((((w2.setCell ⟨r, 0, none⟩ v0).setCell ⟨r, 1, none⟩ v1).setCell ⟨r, 2, none⟩ v2).setCell ⟨r, 3, none⟩ v3) ∧ RdL ((((w2.setCell ⟨r, 0, none⟩ v0).setCell ⟨r, 1, none⟩ v1).setCell ⟨r, 2, none⟩ v2).setCell ⟨r, 3, none⟩ v3) la n c ls := by
 have hM : Mb (fun t => t == 107) w.heap.size w2 (w2.setCells r 0 [v0, v1, v2, v3]) := Mb.cells h3 rfl hr
 exact ⟨(h1.trans (h2.mono h1.size)).trans hM.2, (rdl_of_own h4).mv hM.1 rfl⟩
theorem CopyVM_any (w : World) (kd : Int) (tx : BA) (pa : Option Addr) (pc : Nat) (la : Option Addr) (ln lc : Nat) (ls : List BA) (hL : RdL w la ln lc ls) (hn : ln ≤ 1000) :
  Calls Tryz.prog 103 #[vagg kd tx pa pc la ln lc] w fun e w' => CpvR w w' kd tx ln ls e := by
 obtain ⟨wa, hwa⟩ : ∃ wa, (w.alloc (.cells #[.int .i64 kd, .string tx, .slice pa 0 pc, .slice la ln lc] 107)) = wa := ⟨_, rfl⟩
 obtain ⟨wb, hwb⟩ : ∃ wb, (wa.alloc (.cells #[.int .i64 0, .string ⟨#[]⟩, .slice none 0 0, .slice none 0 0] 107)) = wb := ⟨_, rfl⟩
 have hba : Below w.heap.size w wa := by rw [← hwa]; exact Ac w _
 have hbb : Below wa.heap.size wa wb := by rw [← hwb]; exact Ac wa _
 have HBb : Hid (Below w.heap.size w wb) := hba.trans (hbb.mono hba.size)
 have HX0 : Hid (Bx2 wb w.heap.size wa.heap.size kd tx (.slice pa 0 pc) (.slice la ln lc)) := by
  have h1 : wa.heap[w.heap.size]? = some (.cells #[.int .i64 kd, .string tx, .slice pa 0 pc, .slice la ln lc] 107 (0, 0)) := by rw [← hwa]; exact heap_alloc_new w _
  refine ⟨by rw [hbb.block _ (Array.getElem?_eq_some_iff.1 h1).1]; exact h1, ?_⟩
  rw [← hwb]; exact heap_alloc_new wa _
 have HBd : Hid (Below wb.heap.size wb wb.drew) := Aa wb 1
 have HB1 : Hid (Below wb.heap.size wb (wb.alloc (.cells #[] 238)).drew) := Ad (Ac wb _) (Aa _ 1)
 have HB2 : Hid (Below wb.heap.size wb (wb.alloc (.cells #[] 9)).drew) := Ad (Ac wb _) (Aa _ 1)
 have HB12 : Hid (Below wb.heap.size wb ((wb.alloc (.cells #[] 238)).alloc (.cells #[] 9)).drew) := Ad (Ad (Ac wb _) (Ac _ _)) (Aa _ 1)
 have HB21 : Hid (Below wb.heap.size wb ((wb.alloc (.cells #[] 9)).alloc (.cells #[] 238)).drew) := Ad (Ad (Ac wb _) (Ac _ _)) (Aa _ 1)
 have HRL : Hid (∀ wx, Below wb.heap.size wb wx → RdL wx la ln lc ls) := fun wx h => (hL.keep HBb.out).keep h
 have HO2 : Hid (OwnS (wb.alloc (.cells #[] 9)).drew wb.heap.size (some ⟨wb.heap.size, 0, none⟩) 0 0 []) := OwnR.keep (Dk.OwnR.made0 wb 9 wb.heap.size (Nat.le_refl _)) (Aa _ 1)
 have HO21 : Hid (OwnS ((wb.alloc (.cells #[] 9)).alloc (.cells #[] 238)).drew wb.heap.size (some ⟨wb.heap.size, 0, none⟩) 0 0 []) := OwnR.keep (OwnR.keep (Dk.OwnR.made0 wb 9 wb.heap.size (Nat.le_refl _)) (Ac _ _)) (Aa _ 1)
 have HO12 : Hid (OwnS ((wb.alloc (.cells #[] 238)).alloc (.cells #[] 9)).drew wb.heap.size (some ⟨(wb.alloc (.cells #[] 238)).heap.size, 0, none⟩) 0 0 []) := OwnR.keep (Dk.OwnR.made0 (wb.alloc (.cells #[] 238)) 9 wb.heap.size (Ac wb _).size) (Aa _ 1)
 obtain ⟨c0, c1, c2, c3⟩ := (HX0.out.keep HBd.out).in4
 have HLn : Hid (ln ≤ 1000) := hn
 have HNe : Hid (w.heap.size ≠ wa.heap.size) := by
  have h9 : w.heap.size + 1 = wa.heap.size := by rw [← hwa]; exact (World.size_alloc _ _).symm
  exact (by omega : w.heap.size ≠ wa.heap.size)
 have HBs : Hid (w.heap.size ≤ wa.heap.size) := hba.size
 have HBa : Hid (wa.heap.size ≤ wa.heap.size) := Nat.le_refl _
 go_enter Tryz.func103, Tryz.ntmps103
 go_upto_region 1 with fail
 go_region_held3 (fun w' => w'.cell? ⟨w.heap.size, 0, none⟩ = some (.int .i64 kd) ∧ w'.cell? ⟨w.heap.size, 1, none⟩ = some (.string tx) ∧ w'.cell? ⟨w.heap.size, 2, none⟩ = some (.slice pa 0 pc) ∧ w'.cell? ⟨w.heap.size, 3, none⟩ = some (.slice la ln lc)) (first | with_reducible exact (HX0.out.keep HBd.out).in4 | with_reducible exact (HX0.out.keep HB1.out).in4 | with_reducible exact (HX0.out.keep HB2.out).in4 | with_reducible exact (HX0.out.keep HB12.out).in4 | with_reducible exact (HX0.out.keep HB21.out).in4 | with_reducible exact (HX0.out.keep HB5.out).in4 | with_reducible exact (HX0.out.keep HB6.out).in4 | with_reducible exact (HX0.out.keep HB5.out).inS HNe.out _ _ _ _ | with_reducible exact (HX0.out.keep HB6.out).inS HNe.out _ _ _ _) (first
  | (refine step_append_0 rfl _ _ rfl Tryz.underlying105 Tryz.infoP0 rfl rfl ?_)
  | (refine Dk.step_append_p rfl (.tmp 11) (.tmp 13) rfl Dk.eltS wb.heap.size (by simp [Act.eval] <;> rfl) HO2.out (by simp [Act.eval] <;> rfl) (HRL.out _ HB2.out).rd Dk.scells_one (by have := HLn.out; omega) (by have := HLn.out; unfold maxLen; omega) HB2.out.size ?_; intro la2 n2 lc2 w2 hn2 HOw HGw; rw [Nat.zero_add] at hn2; replace hn2 := hn2.symm; subst hn2; have HB5 : Hid (Below wb.heap.size wb w2) := HB2.out.trans (OwnR.below HO2.out HGw.out HB2.out.size); have HB6 : Hid (Below wb.heap.size wb (w2.alloc (.cells #[] 238))) := Ad HB5 (Ac _ _); obtain ⟨⟨r0, r1, r2, r3⟩, rf⟩ := (HX0.out.keep HB5.out).out4; obtain ⟨⟨s0, s1, s2, s3⟩, sf⟩ := (HX0.out.keep HB6.out).out4; have HOw2 : Hid (OwnS w2 wb.heap.size la2 ln lc2 ls) := HOw)
  | (refine Dk.step_append_p rfl (.tmp 11) (.tmp 13) rfl Dk.eltS wb.heap.size (by simp [Act.eval] <;> rfl) HO21.out (by simp [Act.eval] <;> rfl) (HRL.out _ HB21.out).rd Dk.scells_one (by have := HLn.out; omega) (by have := HLn.out; unfold maxLen; omega) HB21.out.size ?_; intro la2 n2 lc2 w2 hn2 HOw HGw; rw [Nat.zero_add] at hn2; replace hn2 := hn2.symm; subst hn2; have HB5 : Hid (Below wb.heap.size wb w2) := HB21.out.trans (OwnR.below HO21.out HGw.out HB21.out.size); have HB6 : Hid (Below wb.heap.size wb (w2.alloc (.cells #[] 238))) := Ad HB5 (Ac _ _); obtain ⟨⟨r0, r1, r2, r3⟩, rf⟩ := (HX0.out.keep HB5.out).out4; obtain ⟨⟨s0, s1, s2, s3⟩, sf⟩ := (HX0.out.keep HB6.out).out4; have HOw2 : Hid (OwnS w2 wb.heap.size la2 ln lc2 ls) := HOw)
  | (refine Dk.step_append_p rfl (.tmp 11) (.tmp 13) rfl Dk.eltS wb.heap.size (by simp [Act.eval] <;> rfl) HO12.out (by simp [Act.eval] <;> rfl) (HRL.out _ HB12.out).rd Dk.scells_one (by have := HLn.out; omega) (by have := HLn.out; unfold maxLen; omega) HB12.out.size ?_; intro la2 n2 lc2 w2 hn2 HOw HGw; rw [Nat.zero_add] at hn2; replace hn2 := hn2.symm; subst hn2; have HB5 : Hid (Below wb.heap.size wb w2) := HB12.out.trans (OwnR.below HO12.out HGw.out HB12.out.size); have HB6 : Hid (Below wb.heap.size wb (w2.alloc (.cells #[] 238))) := Ad HB5 (Ac _ _); obtain ⟨⟨r0, r1, r2, r3⟩, rf⟩ := (HX0.out.keep HB5.out).out4; obtain ⟨⟨s0, s1, s2, s3⟩, sf⟩ := (HX0.out.keep HB6.out).out4; have HOw2 : Hid (OwnS w2 wb.heap.size la2 ln lc2 ls) := HOw))
 all_goals
  have HEnd := cpv_end HBb.out HB5.out (HX0.out.keep HB5.out).r (Nat.le_trans HBs.out HBa.out) HOw2.out
  have HLs := heap_last (HX0.out.keep HB5.out).r
  go_wp2
  exact bodyPost_ret (v := vagg kd tx _ 0 la2 ln lc2) (results_cell_row rfl _ _ wa.heap.size 107 _ (0, 0) _ rfl (HLs _ _ _ _) Tryz.underlying107 rfl Tryz.infoVal) rfl ⟨(HEnd _ _ _ _).1, _, _, _, _, rfl, (HEnd _ _ _ _).2⟩
theorem takeDue_still (w : World) (B s x : Nat) (NM : List BA) (L : List Nat) (I : Nat → Itm) (Q : List Nat) (A : Ab) (V : BA → Int) (hI : In w B s x NM L I Q V) (hR : Rep L I Q A) (t : Int) (hst : Still A t) :
  Calls Tryz.prog 37 #[ptr s, .int .i64 t] w fun e w' => e = .returned (.tuple #[]) ∧ w' = w := by
 obtain ⟨S, P, D, D2, hX⟩ := hI
 have HD := isDue_any w B s S L I P Q hX.qs t
 have hno : ¬ (0 < Q.length ∧ (I (at' Q 0)).u ≤ t) := fun h => by
  have hq : at' Q 0 ∈ Q := at_mem h.1
  have h1 := hR.yes _ (hX.qs.sub _ hq)
  rw [if_pos hq] at h1
  have := hst _ _ _ h1
  omega
 have HNo : Hid (¬ (0 < Q.length ∧ (I (at' Q 0)).u ≤ t)) := hno
 clear hX hR hst hno
 go_enter Tryz.func37, Tryz.ntmps37
 go_wp2
 go_loopg [] 1 (fun gk wr => w = wr ∧ gk = 1)
 case atStart => exact ⟨rfl, rfl⟩
 case round =>
  obtain ⟨rfl, rfl⟩ := hrel
  go_wp2_with fail
  refine HD.mono ?_
  rintro e w ⟨rfl, r, rfl, hr⟩
  cases r with
  | true => exact absurd (hr.1 rfl) HNo.out
  | false =>
   clear hr
   go_wp2
   go_end0
   exact ⟨rfl, rfl⟩
def FoundAt (L : List Nat) (I : Nat → Itm) (A : Ab) (k : BA) (e : Ending) : Prop := e = .returned (.pointer none) ∧ A k = none ∨ ∃ p ∈ L, (I p).k = k ∧ e = .returned (ptr p) ∧ (A k).isSome = true
theorem find_still (w : World) (B s x : Nat) (NM : List BA) (L : List Nat) (I : Nat → Itm) (Q : List Nat) (A : Ab) (V : BA → Int) (hI : In w B s x NM L I Q V) (hR : Rep L I Q A) (t : Int) (hst : Still A t) (k : BA) (hk : k.size ≤ maxLen) :
  Calls Tryz.prog 43 #[ptr s, .string k, .int .i64 t] w fun e w' => Below w.heap.size w w' ∧ FoundAt L I A k e := by
 have HD := takeDue_still w B s x NM L I Q A V hI hR t hst
 obtain ⟨S, P, D, D2, hX⟩ := hI
 have HX : Hid (Sx w B s x NM L I Q V S P D D2) := hX
 have HR : Hid (Rep L I Q A) := hR
 have c3 := hX.cd
 have HG := Dk.GetD B S.d x D k w hX.kd hk
 clear hX hR hst
 obtain ⟨r, HRr⟩ : ∃ r : Option Addr, Hid (Dk.getE D.es k = r) := ⟨_, rfl⟩
 rw [HRr.out] at HG
 obtain ⟨q, HQq⟩ : ∃ q : Bool, Hid (Dk.hasK D.es k = q) := ⟨_, rfl⟩
 rw [HQq.out] at HG
 go_enter Tryz.func43, Tryz.ntmps43
 go_wp2_with fail
 refine HD.mono ?_
 rintro e w ⟨rfl, rfl⟩
 go_wp2_with fail
 refine HG.mono ?_
 rintro e w2 ⟨rfl, hb⟩
 have HE : Hid (Below w.heap.size w w2 ∧ FoundAt L I A k (.returned (.pointer r))) := by
  refine ⟨hb, ?_⟩
  by_cases h : ∃ p ∈ L, (I p).k = k
  ·obtain ⟨p, hp, rfl⟩ := h
   have h1 := (HX.out.found hp).1
   rw [HRr.out] at h1
   exact .inr ⟨p, hp, rfl, by rw [h1], by rw [HR.out.yes p hp]; rfl⟩
  ·have h1 := (HX.out.lacks (k := k) (fun p hp e => h ⟨p, hp, e⟩)).1
   rw [HRr.out] at h1
   refine .inl ⟨by rw [h1], ?_⟩
   cases hA : A k with
   | none => rfl
   | some y => exact absurd (HR.out.no k y hA) h
 clear hb HG HD c3
 go_wp2
 go_ret
 exact HE.out
def CopTo (w w' : World) (B s x : Nat) (NM : List BA) (A : Ab) (V : BA → Int) (b : BA) (u : Option Int) (R : World → Nat → Prop) : Prop :=
 ∃ p w2, R w2 p ∧ Mb stag B w2 w' ∧ To w w' B s x NM (setA A b (some (some ⟨p, 0, none⟩, u))) (incV V b)
theorem Copy_none (w : World) (B s x : Nat) (NM : List BA) (A : Ab) (V : BA → Int) (hS : Spc w B s x NM A V) (hv : Low V) (t : Int) (a b : BA) (ha : a.size ≤ maxLen) (hA : dueA A t a = none) :
  Calls Tryz.prog 14 #[ptr s, .string a, .string b, .int .i64 t] w fun e w' => e = .returned (.tuple #[.bool false, .int .i64 0]) ∧ Bo w w' B s x NM A V t := by
 have HF := A2 w B s x NM A V hS hv t a ha
 go_enter Tryz.func14, Tryz.ntmps14
 go_wp2_with fail
 refine HF.mono ?_
 rintro e w1 ⟨hm, L, I, Q, hi, hr, ⟨rfl, hn⟩ | ⟨p, hp, hpk, rfl, hy⟩⟩
 ·have HE : Hid (Bo w w1 B s x NM A V t) := ⟨hm, L, I, Q, hi, hr⟩
  clear hm hi hr HF hn
  go_wp2
  go_ret2
  exact ⟨rfl, HE.out⟩
 ·rw [hA] at hy; cases hy
theorem Copy_there (w : World) (B s x : Nat) (NM : List BA) (A : Ab) (V : BA → Int) (hS : Spc w B s x NM A V) (hv : Low V) (t : Int) (a b : BA) (ha : a.size ≤ maxLen) (hb : b.size ≤ maxLen) (hA : (dueA A t a).isSome = true) (hB : (dueA A t b).isSome = true) :
  Calls Tryz.prog 14 #[ptr s, .string a, .string b, .int .i64 t] w fun e w' => e = .returned (.tuple #[.bool false, .int .i64 0]) ∧ Bo w w' B s x NM A V t := by
 have HF := A2 w B s x NM A V hS hv t a ha
 go_enter Tryz.func14, Tryz.ntmps14
 go_wp2_with fail
 refine HF.mono ?_
 rintro e w1 ⟨hm, L, I, Q, hi, hr, ⟨rfl, hn⟩ | ⟨p, hp, hpk, rfl, hy⟩⟩
 ·rw [hn] at hA; cases hA
 ·have HF2 := find_still w1 B s x NM L I Q _ _ hi hr t (dueA_still A t) b hb
  have HI : Hid (In w1 B s x NM L I Q (dueV A V t)) := hi
  have HR : Hid (Rep L I Q (dueA A t)) := hr
  have HM : Hid (Mb stag B w w1) := hm
  have hnn := eqlI_nil w1 p
  have HB : Hid ((dueA A t b).isSome = true) := hB
  clear hm hi hr HF hA hB hy
  go_wp2_with fail
  refine HF2.mono ?_
  rintro e w2 ⟨hb2, ⟨rfl, hn⟩ | ⟨q, hq, hqk, rfl, -⟩⟩
  ·have := HB.out
   rw [hn] at this; cases this
  ·have HE : Hid (Bo w w2 B s x NM A V t) := ⟨HM.out.trans (Mb.of_below hb2 (by obtain ⟨S, P, D, D2, hX⟩ := HI.out; have := hX.lt; omega)), L, I, Q, HI.out.keep hb2, HR.out⟩
   have hnq := neqI_nil w2 q
   clear hb2 HF2
   go_wp2
   go_ret2
   exact ⟨rfl, HE.out⟩
theorem Copy_long (w : World) (B s x : Nat) (NM : List BA) (A : Ab) (V : BA → Int) (hS : Spc w B s x NM A V) (hv : Low V) (t : Int) (a b : BA) (ha : a.size ≤ maxLen) (hb : b.size ≤ maxLen) (hbl : 4096 < b.size) (hA : (dueA A t a).isSome = true) (hB : dueA A t b = none) :
  Calls Tryz.prog 14 #[ptr s, .string a, .string b, .int .i64 t] w fun e w' => e = .returned (.tuple #[.bool false, .int .i64 11]) ∧ Bo w w' B s x NM A V t := by
 have HF := A2 w B s x NM A V hS hv t a ha
 have hbz : (4096 : Int) < b.size := by omega
 go_enter Tryz.func14, Tryz.ntmps14
 go_wp2_with fail
 refine HF.mono ?_
 rintro e w1 ⟨hm, L, I, Q, hi, hr, ⟨rfl, hn⟩ | ⟨p, hp, hpk, rfl, hy⟩⟩
 ·rw [hn] at hA; cases hA
 ·have HF2 := find_still w1 B s x NM L I Q _ _ hi hr t (dueA_still A t) b hb
  have HI : Hid (In w1 B s x NM L I Q (dueV A V t)) := hi
  have HR : Hid (Rep L I Q (dueA A t)) := hr
  have HM : Hid (Mb stag B w w1) := hm
  have hnn := eqlI_nil w1 p
  have HB : Hid (dueA A t b = none) := hB
  clear hm hi hr HF hA hB hy
  go_wp2_with fail
  refine HF2.mono ?_
  rintro e w2 ⟨hb2, ⟨rfl, hn⟩ | ⟨q, hq, hqk, rfl, hs⟩⟩
  ·have HE : Hid (Bo w w2 B s x NM A V t) := ⟨HM.out.trans (Mb.of_below hb2 (by obtain ⟨S, P, D, D2, hX⟩ := HI.out; have := hX.lt; omega)), L, I, Q, HI.out.keep hb2, HR.out⟩
   clear hb2 HF2 hn
   go_wp2
   go_ret2
   exact ⟨rfl, HE.out⟩
  ·rw [HB.out] at hs; cases hs
theorem Copy_some (w : World) (B s x : Nat) (NM : List BA) (A : Ab) (V : BA → Int) (hS : Spc w B s x NM A V) (hv : Low V) (t : Int) (a b : BA) (ha : a.size ≤ maxLen) (hb : b ∈ NM) (hbs : b.size ≤ 4096) (v : Option Addr) (u : Option Int) (hA : dueA A t a = some (v, u)) (hB : dueA A t b = none) (R : World → Nat → Prop)
  (hC : ∀ w1, Mb stag B w w1 → Calls Tryz.prog 45 #[.pointer v] w1 fun e w2 => Below w1.heap.size w1 w2 ∧ ∃ p, e = .returned (ptr p) ∧ R w2 p) :
  Calls Tryz.prog 14 #[ptr s, .string a, .string b, .int .i64 t] w fun e w' => e = .returned (.tuple #[.bool true, .int .i64 0]) ∧ CopTo w w' B s x NM (dueA A t) (dueV A V t) b u R := by
 have HF := A2 w B s x NM A V hS hv t a ha
 have hbz : (b.size : Int) ≤ 4096 := by omega
 go_enter Tryz.func14, Tryz.ntmps14
 go_wp2_with fail
 refine HF.mono ?_
 rintro e w1 ⟨hm, L, I, Q, hi, hr, ⟨rfl, hn⟩ | ⟨p, hp, hpk, rfl, hy⟩⟩
 ·rw [hn] at hA; cases hA
 ·have HF2 := find_still w1 B s x NM L I Q _ _ hi hr t (dueA_still A t) b (by unfold maxLen; omega)
  have HI : Hid (In w1 B s x NM L I Q (dueV A V t)) := hi
  have HR : Hid (Rep L I Q (dueA A t)) := hr
  have HM : Hid (Mb stag B w w1) := hm
  have hnn := eqlI_nil w1 p
  have HB : Hid (dueA A t b = none) := hB
  rw [hA] at hy
  injection hy with hy
  injection hy with hv1 hu1
  have HPK : Hid ((I p).k ≠ b) := fun h => by rw [← h, hpk, hA] at hB; cases hB
  have HVU : Hid ((I p).v = v ∧ (if p ∈ Q then some (I p).u else none) = u) := ⟨hv1.symm, hu1.symm⟩
  clear hm hi hr HF hA hB hv1 hu1
  go_wp2_with fail
  refine HF2.mono ?_
  rintro e w2 ⟨hb2, ⟨rfl, hn⟩ | ⟨q, hq, hqk, rfl, hs⟩⟩
  ·have hlt : B ≤ w1.heap.size := by obtain ⟨S, P, D, D2, hX⟩ := HI.out; have := hX.lt; omega
   have HI2 : Hid (In w2.drew B s x NM L I Q (dueV A V t)) := (HI.out.keep hb2).keep (Aa w2 1)
   have HM2 : Hid (Mb stag B w w2.drew) := (HM.out.trans (Mb.of_below hb2 hlt)).trans (Mb.of_below (Aa w2 1) (Nat.le_trans hlt hb2.size))
   have HCells : Hid (∀ wx, In wx B s x NM L I Q (dueV A V t) → wx.cell? ⟨p, 1, none⟩ = some (.pointer v) ∧ wx.cell? ⟨p, 2, none⟩ = some (.int .i64 (I p).u)) := fun wx ⟨S, P, D, D2, hX⟩ => ⟨by rw [hX.qs.its.cv hp, HVU.out.1], hX.qs.its.cu hp⟩
   have HTm := fun wx (h : In wx B s x NM L I Q (dueV A V t)) => timed_any wx B s x NM L I Q _ h p hp
   have HCp := fun wx (h : Mb stag B w wx) => hC wx h
   obtain ⟨e1, e2⟩ := HCells.out _ HI2.out
   clear hb2 HF2 hn hC
   go_upto_region 6 with fail
   have HLt : Hid (∀ wx, In wx B s x NM L I Q (dueV A V t) → B ≤ wx.heap.size) := fun wx ⟨S, P, D, D2, hX⟩ => (by have := hX.lt; omega)
   have HU := fun wx pc (h : In wx B s x NM L I Q (dueV A V t)) => holdUntil_in wx B s x NM L I Q (dueA A t) (dueV A V t) h HR.out b hb (hv.due A t b) (some ⟨pc, 0, none⟩) (I p).u (decide (p ∈ Q))
   go_region_held3 (fun w' => w'.cell? ⟨p, 1, none⟩ = some (.pointer v) ∧ w'.cell? ⟨p, 2, none⟩ = some (.int .i64 (I p).u)) (first | exact HCells.out _ HI2.out | exact HAfter.out) (first
    | (go_at_call 45; refine (HCp _ HM2.out).mono ?_; rintro e w3 ⟨hb3, pc, rfl, hr3⟩; have HM3 : Hid (Mb stag B w w3) := HM2.out.trans (Mb.of_below hb3 (HLt.out _ HI2.out)); clear HM2; have HM2 := HM3; clear HM3; have HI3 : Hid (In w3 B s x NM L I Q (dueV A V t)) := HI2.out.keep hb3; clear HI2; have HI2 := HI3; clear HI3; have HRr : Hid (R w3 pc) := hr3; clear hb3 hr3)
    | (go_at_call 46; refine (HTm _ HI2.out).mono ?_; rintro e wt ⟨rfl, rfl⟩)
    | (go_at_call 44; refine (HU _ pc HI2.out).mono ?_; rintro e w5 ⟨rfl, hm5, L5, I5, Q5, hi5, hr5, hol⟩; have HE : Hid (CopTo w w5 B s x NM (dueA A t) (dueV A V t) b u R) := (by
      refine ⟨pc, _, HRr.out, hm5, HM2.out.trans hm5, ?_⟩
      have e : (if decide (p ∈ Q) = true then some (I p).u else none) = u := (by
       rw [← HVU.out.2]
       by_cases h : p ∈ Q
       ·rw [if_pos h, if_pos (decide_eq_true h)]
       ·rw [if_neg h, if_neg (by rw [decide_eq_false h]; decide)])
      rw [← e]
      exact ⟨L5, I5, Q5, hi5, hr5⟩); have HAfter : Hid (w5.cell? ⟨p, 1, none⟩ = some (.pointer v) ∧ w5.cell? ⟨p, 2, none⟩ = some (.int .i64 (I p).u)) := (by
      obtain ⟨S, P, D, D2, hX⟩ := hi5
      obtain ⟨h1, h2⟩ := hol p hp HPK.out
      have h3 := hX.qs.its.cv h1
      have h4 := hX.qs.its.cu h1
      rw [h2] at h3 h4
      rw [HVU.out.1] at h3
      exact ⟨h3, h4⟩); clear hm5 hi5 hr5 hol))
   clear e1 e2 HI2 HM2 HRr HAfter
   go_wp2
   go_ret2
   exact ⟨rfl, HE.out⟩
  ·rw [HB.out] at hs; cases hs
structure Vt (w : World) (v : Nat) (t : BA) : Prop where
 blk : w.heap[v]? = some (.cells #[.int .i64 1, .string t, .pointer none, .pointer none, .pointer none] 74 (0, 0))
theorem Vt.lt {w : World} {v : Nat} {t : BA} (h : Vt w v t) : v < w.heap.size := (Array.getElem?_eq_some_iff.1 h.blk).1
theorem Vt.keep {w w' : World} {v : Nat} {t : BA} (h : Vt w v t) (hb : Below w.heap.size w w') : Vt w' v t := ⟨by rw [hb.block v h.lt]; exact h.blk⟩
theorem Vt.mb {w w' : World} {B v : Nat} {t : BA} (h : Vt w v t) (hb : Mb stag B w w') : Vt w' v t := ⟨by rw [hb.mv.block v _ _ h.blk (by decide)]; exact h.blk⟩
theorem Vt.ck {w : World} {v : Nat} {t : BA} (h : Vt w v t) : w.cell? ⟨v, 0, none⟩ = some (.int .i64 1) := by simp [World.cell?, h.blk]
theorem Vt.ct {w : World} {v : Nat} {t : BA} (h : Vt w v t) : w.cell? ⟨v, 1, none⟩ = some (.string t) := by simp [World.cell?, h.blk]
theorem OfText_t (s : BA) (w : World) : Calls Tryz.prog 11 #[.string s] w fun e w' => Below w.heap.size w w' ∧ ∃ v, e = .returned (ptr v) ∧ Vt w' v s := by
 obtain ⟨wn, hwn⟩ : ∃ wn, w.alloc (.cells #[.int .i64 1, .string s, .pointer none, .pointer none, .pointer none] 74) = wn := ⟨_, rfl⟩
 have HB : Hid (Below w.heap.size w wn ∧ Vt wn w.heap.size s) := by rw [← hwn]; exact ⟨Ac w _, ⟨heap_alloc_new w _⟩⟩
 go_enter Tryz.func11, Tryz.ntmps11
 go_wp2
 go_ret
 exact ⟨HB.out.1, _, rfl, HB.out.2⟩
theorem kind_t (w : World) (v : Nat) (t : BA) (h : Vt w v t) : Calls Tryz.prog 81 #[ptr v] w fun e w' => e = .returned (.int .i64 1) ∧ w' = w := by
 have h1 := h.ck
 clear h
 go_enter Tryz.func81, Tryz.ntmps81
 go_wp2
 go_ret
 exact ⟨rfl, rfl⟩
theorem Empty_t (w : World) (v : Nat) (t : BA) (h : Vt w v t) : Calls Tryz.prog 36 #[ptr v] w fun e w' => e = .returned (.bool false) ∧ Below w.heap.size w w' := by
 have HK := kind_t w v t h
 clear h
 go_enter Tryz.func36, Tryz.ntmps36
 go_wp2_with fail
 refine HK.mono ?_
 rintro e w ⟨rfl, rfl⟩
 go_wp2
 go_ret
 exact ⟨rfl, Below.refl _ _⟩
def Vle (V : BA → Int) (b : Int) : Prop := ∀ k, 0 ≤ V k ∧ V k ≤ b
theorem Vle.low {V : BA → Int} {b : Int} (h : Vle V b) (hb : b ≤ 1000000) : Low V := fun k => by have := h k; omega
theorem Vle.zero : Vle (fun _ => 0) 0 := fun _ => ⟨Int.le_refl _, Int.le_refl _⟩
theorem Vle.inc {V : BA → Int} {b : Int} (h : Vle V b) (k : BA) : Vle (incV V k) (b + 1) := fun j => by have := h j; have := incV_le V k j; omega
theorem Vle.chg {α : Type} {V : BA → Int} {b : Int} (h : Vle V b) (A : AbV α) (k : BA) : Vle (chgV A V k) (b + 1) := by
 unfold chgV
 split
 ·exact h.inc k
 ·exact fun j => by have := h j; omega
theorem Vle.due {α : Type} {V : BA → Int} {b : Int} (h : Vle V b) (A : AbV α) (t : Int) : Vle (dueV A V t) (b + 1) := fun j => by have := h j; have := dueV_le A V t j; omega
theorem Vle.ren {α : Type} {V : BA → Int} {b : Int} (h : Vle V b) (A : AbV α) (k j : BA) : Vle (renV A V k j) (b + 2) := by
 unfold renV
 split
 ·split
  ·exact fun i => by have := h.inc k i; omega
  ·exact fun i => by have := (h.inc k).inc j i; omega
 ·exact fun i => by have := h i; omega
theorem Vle.mono {V : BA → Int} {b c : Int} (h : Vle V b) (hb : b ≤ c) : Vle V c := fun j => by have := h j; omega
abbrev Cw : Ab := fun _ => none
def one (k : BA) (y : Option Addr × Option Int) : Ab := setA Cw k (some y)
theorem none_still (t : Int) : Still Cw t := fun k v e h => by cases h
theorem none_due (t : Int) : dueA Cw t = Cw := (none_still t).due
theorem one_at (k : BA) (y : Option Addr × Option Int) : one k y k = some y := Bz _ _ _
theorem one_set (k : BA) (y : Option Addr × Option Int) (z : Option (Option Addr × Option Int)) : setA (one k y) k z = setA Cw k z := setA_twice _ _ _ _
theorem none_set (k : BA) : setA Cw k none = Cw := setA_self rfl
theorem one_none (k : BA) (v : Option Addr) (t : Int) : Still (one k (v, none)) t := fun j u e h => by
 unfold one setA at h
 split at h
 ·cases h
 ·cases h
theorem one_still {k : BA} {v : Option Addr} {u t : Int} (h : t < u) : Still (one k (v, some u)) t := fun j v' e h' => by
 unfold one setA at h'
 split at h'
 ·injection h' with h'
  injection h' with _ h'
  injection h' with h'
  omega
 ·cases h'
theorem one_gone {k : BA} {v : Option Addr} {u t : Int} (h : u ≤ t) : dueA (one k (v, some u)) t = Cw := by
 funext j
 unfold dueA one setA
 by_cases e : j = k
 ·simp [e, h]
 ·simp [e]
theorem one_exp {k : BA} {v : Option Addr} {q : Option Int} {u t : Int} (h : t < u) : expA (one k (v, q)) k u t = one k (v, some u) := by
 unfold expA
 rw [one_at]
 simp only [if_neg (Int.not_le.2 h)]
 exact one_set _ _ _
theorem one_dom (k : BA) (y : Option Addr × Option Int) : Dom (one k y) [k] := ⟨by simp, fun j => by
 unfold one setA
 by_cases h : j = k
 ·simp [h]
 ·simp [h]⟩
theorem none_dom : Dom Cw [] := ⟨List.nodup_nil, fun j => by simp⟩
theorem LenR.of {e : Ending} {A : Ab} {ks : List BA} (h : LenR e A) (hd : Dom A ks) : e = .returned (.int .i64 (ks.length : Nat)) := by
 obtain ⟨js, h1, rfl⟩ := h
 rw [(h1.same hd).length_eq]
theorem To.keepV {w w' : World} {B s x : Nat} {NM : List BA} {A : Ab} {V : BA → Int} {t : Int} (hs : Still A t) (h : Bo w w' B s x NM A V t) : To w w' B s x NM A V := by
 have h1 : To w w' B s x NM (dueA A t) (dueV A V t) := h
 rw [hs.due, hs.dueV] at h1
 exact h1
theorem Spc.lt {w : World} {B s x : Nat} {NM : List BA} {A : Ab} {V : BA → Int} (h : Spc w B s x NM A V) : B ≤ w.heap.size := by
 obtain ⟨L, I, Q, ⟨S, P, D, D2, hX⟩, -⟩ := h
 have := hX.lt
 omega
theorem eqlS_nil (w : World) (l : Nat) : (binOp .eql 25 (ptr l) (.pointer none)).run Tryz.prog w = .ok (.bool false) w := by
 rw [run_eql_pointer_nil w 25 (some ⟨l, 0, none⟩) (by rw [Tryz.underlying25]; kernel_rfl)]; rfl
theorem eqlV_nil (w : World) (l : Nat) : (binOp .eql 35 (ptr l) (.pointer none)).run Tryz.prog w = .ok (.bool false) w := by
 rw [run_eql_pointer_nil w 35 (some ⟨l, 0, none⟩) (by rw [Tryz.underlying35]; kernel_rfl)]; rfl
theorem neqV_nil (w : World) (l : Nat) : (binOp .neq 35 (ptr l) (.pointer none)).run Tryz.prog w = .ok (.bool true) w := by
 rw [run_neq_pointer_nil w 35 (some ⟨l, 0, none⟩) (by rw [Tryz.underlying35]; kernel_rfl)]; rfl
theorem Mb.step {w w1 w2 : World} {p : TypeId → Bool} {B : Nat} (h : Hid (Below w.heap.size w w1)) (hm : Mb p B w1 w2) (hB : w.heap.size ≤ B) : Hid (Below w.heap.size w w2) := h.out.trans (hm.be.mono hB)
def kNM : List BA := [⟨#[97]⟩, ⟨#[120]⟩, ⟨#[121]⟩]
theorem kNM_names : Names kNM := ⟨by decide, by decide⟩
theorem known_any (w : World) : Calls Tryz.prog 19 #[] w fun e w' => e = .returned (.bool true) ∧ Below w.heap.size w w' := by
 have HN := New_any w 1 0 0 (by decide)
 replace HN : Calls Tryz.prog 9 #[.agg #[.int .u64 1, .int .i64 0, .int .i64 0]] w fun e w' => NewTo w w' 1 e := HN
 go_enter Tryz.func19, Tryz.ntmps19
 go_wp2_with fail
 refine HN.mono ?_
 rintro e w1 ⟨hb1, s, rfl, -, hs⟩
 have HB1 : Hid (Below w.heap.size w w1) := hb1
 have HS1 : Hid (Spc w1 w.heap.size s 1 kNM Cw (fun _ => 0)) := hs kNM kNM_names
 have hq := eqlS_nil w1 s
 have HO := OfText_t ⟨#[49]⟩ w1
 clear hb1 hs HN
 go_wp2_with fail
 refine HO.mono ?_
 rintro e w2 ⟨hb2, v, rfl, hv⟩
 have HB2 := Ad HB1 hb2
 have HV2 : Hid (Vt w2 v ⟨#[49]⟩) := hv
 have HP := Put_any w2 w.heap.size s 1 kNM Cw _ (HS1.out.keep hb2) (Vle.zero.low (by decide)) 0 ⟨#[97]⟩ (by simp [kNM]) (by decide) (some ⟨v, 0, none⟩) (Empty_t w2 v _ hv)
 clear hb2 hv hq HO
 go_wp2_with fail
 refine HP.mono ?_
 rintro e w3 ⟨rfl, hm3, hs3⟩
 have HB3 := HB2.out.trans hm3.be
 have HB3' : Hid (Below w.heap.size w w3) := HB3
 have HV3 : Hid (Vt w3 v ⟨#[49]⟩) := HV2.out.mb hm3
 rw [none_due] at hs3
 obtain ⟨V3, HV3'⟩ : ∃ V3, Hid (Spc w3 w.heap.size s 1 kNM (one ⟨#[97]⟩ (some ⟨v, 0, none⟩, none)) V3 ∧ Vle V3 5) := ⟨_, hs3, ((Vle.zero.due _ _).inc _).mono (by decide)⟩
 have HE := Expire_any w3 w.heap.size s 1 kNM _ V3 HV3'.out.1 (HV3'.out.2.low (by decide)) 5 0 ⟨#[97]⟩ (by simp [kNM]) (by decide)
 rw [(one_none _ _ _).due, one_at] at HE
 clear hm3 hs3 HP HB3
 go_wp2_with fail
 refine HE.mono ?_
 rintro e w4 ⟨rfl, hm4, hs4⟩
 rw [one_exp (by decide)] at hs4
 have HB4 := Mb.step HB3' hm4 (Nat.le_refl _)
 obtain ⟨V4, HS4⟩ : ∃ V4, Hid (Spc w4 w.heap.size s 1 kNM (one ⟨#[97]⟩ (some ⟨v, 0, none⟩, some 5)) V4 ∧ Vle V4 10) := ⟨_, hs4, ((HV3'.out.2.due _ _).chg _ _).mono (by decide)⟩
 have HG := Get_any w4 w.heap.size s 1 kNM _ V4 HS4.out.1 (HS4.out.2.low (by decide)) 4 ⟨#[97]⟩ (by decide)
 rw [(one_still (by decide)).due, one_at] at HG
 replace HG : Calls Tryz.prog 17 #[ptr s, .string ⟨#[97]⟩, .int .i64 4] w4 fun e w' => e = .returned (ptr v) ∧ Bo w4 w' w.heap.size s 1 kNM (one ⟨#[97]⟩ (some ⟨v, 0, none⟩, some 5)) V4 4 := HG
 clear hm4 hs4 HE
 go_wp2_with fail
 refine HG.mono ?_
 rintro e w5 ⟨rfl, hd5⟩
 have ht5 := To.keepV (one_still (by decide)) hd5
 have HB5 := Mb.step HB4 ht5.mb (Nat.le_refl _)
 have HS5 : Hid (Spc w5 w.heap.size s 1 kNM (one ⟨#[97]⟩ (some ⟨v, 0, none⟩, some 5)) V4) := ht5.spc
 have hn5 := neqV_nil w5 v
 have HG5 := Get_any w5 w.heap.size s 1 kNM _ V4 HS5.out (HS4.out.2.low (by decide)) 5 ⟨#[97]⟩ (by decide)
 rw [one_gone (by decide)] at HG5
 replace HG5 : Calls Tryz.prog 17 #[ptr s, .string ⟨#[97]⟩, .int .i64 5] w5 fun e w' => e = .returned (.pointer none) ∧ Bo w5 w' w.heap.size s 1 kNM (one ⟨#[97]⟩ (some ⟨v, 0, none⟩, some 5)) V4 5 := HG5
 clear hd5 ht5 HG
 go_wp2_with fail
 refine HG5.mono ?_
 rintro e w6 ⟨rfl, hm6, hs6⟩
 rw [one_gone (by decide)] at hs6
 have HB6 := Mb.step HB5 hm6 (Nat.le_refl _)
 obtain ⟨V6, HS6⟩ : ∃ V6, Hid (Spc w6 w.heap.size s 1 kNM Cw V6 ∧ Vle V6 20) := ⟨_, hs6, (HS4.out.2.due _ _).mono (by decide)⟩
 have HL := Len_any w6 w.heap.size s 1 kNM Cw V6 HS6.out.1 (HS6.out.2.low (by decide)) 5
 clear hm6 hs6 HG5 hn5
 go_wp2_with fail
 refine HL.mono ?_
 rintro e w7 ⟨hd7, hl7⟩
 rw [none_due] at hl7
 have he := hl7.of none_dom
 replace he : e = .returned (.int .i64 0) := he
 subst he
 have ht7 := To.keepV (none_still 5) hd7
 have HB7 := Mb.step HB6 ht7.mb (Nat.le_refl _)
 have HS7 : Hid (Spc w7 w.heap.size s 1 kNM Cw V6) := ht7.spc
 have HR := Rename_any w7 w.heap.size s 1 kNM Cw V6 HS7.out (HS6.out.2.low (by decide)) 6 ⟨#[120]⟩ ⟨#[121]⟩ (by simp [kNM]) (by decide) (by simp [kNM]) (by decide)
 rw [none_due] at HR
 replace HR : Calls Tryz.prog 16 #[ptr s, .string ⟨#[120]⟩, .string ⟨#[121]⟩, .int .i64 6] w7 fun e w' => e = .returned (.bool false) ∧ RenTo w7 w' w.heap.size s 1 kNM Cw (dueV Cw V6 6) ⟨#[120]⟩ ⟨#[121]⟩ := HR
 clear hd7 ht7 hl7 HL
 go_wp2_with fail
 refine HR.mono ?_
 rintro e w8 ⟨rfl, hm8, -⟩
 have HB8 := Mb.step HB7 hm8 (Nat.le_refl _)
 clear hm8 HR
 go_wp2
 go_ret
 exact ⟨rfl, HB8.out⟩
def nmA (d : Nat) : BA := (⟨#[107]⟩ : BA) ++ Utf8.encode (97 + (d : Int))
theorem nmA_size (d : Nat) : (nmA d).size ≤ 5 := by
 have := Dk.encode_size (97 + (d : Int))
 unfold nmA
 rw [ByteArray.size_append]
 have h : (⟨#[107]⟩ : BA).size = 1 := rfl
 omega
theorem name_any (z : Int) (w : World) : Calls Tryz.prog 31 #[.int .i64 z] w fun e w' => w' = w ∧ ∃ d, d < 7 ∧ e = .returned (.string (nmA d)) := by
 have HW := Dk.Within_any z 0 1048576 w (by decide) (by decide) (by decide)
 go_enter Tryz.func31, Tryz.ntmps31
 go_wp2_with fail
 refine HW.mono ?_
 rintro e w ⟨rfl, q, hq1, hq2, rfl⟩
 obtain ⟨m, rfl⟩ : ∃ m : Nat, q = (m : Nat) := ⟨q.toNat, by omega⟩
 have hmod : ((m : Int)).tmod 7 = ((m % 7 : Nat) : Int) := by rw [Int.tmod_eq_emod_of_nonneg (by omega)]; omega
 have hr : m % 7 < 7 := Nat.mod_lt _ (by decide)
 generalize m % 7 = d at hmod hr
 obtain ⟨en, hen⟩ : ∃ en, Utf8.encode (97 + (d : Int)) = en := ⟨_, rfl⟩
 have hes : en.size ≤ 4 := by rw [← hen]; exact Dk.encode_size _
 have HN : Hid (nmA d = (⟨#[107]⟩ : BA) ++ en) := by show _ = _; rw [← hen]; rfl
 have HR : Hid (d < 7) := hr
 clear HW
 go_wp2
 go_ret
 exact ⟨rfl, d, HR.out, by rw [HN.out]; rfl⟩
structure RdK (w : World) (a : Option Addr) (n : Nat) : Prop where
 le : n ≤ maxLen
 elem : ∀ i, i < n → ∃ b off kind A B N T S, a = some ⟨b, off, none⟩ ∧ w.cell? ⟨b, off + i * 6, none⟩ = some (.int .i64 kind) ∧ w.cell? ⟨b, off + i * 6 + 1, none⟩ = some (.int .i64 A) ∧ w.cell? ⟨b, off + i * 6 + 2, none⟩ = some (.int .i64 B) ∧ w.cell? ⟨b, off + i * 6 + 3, none⟩ = some (.int .i64 N) ∧ w.cell? ⟨b, off + i * 6 + 4, none⟩ = some (.int .i64 T) ∧ w.cell? ⟨b, off + i * 6 + 5, none⟩ = some (.string S)
theorem RdK.keep {w wn : World} {a : Option Addr} {n : Nat} (h : RdK w a n) (hb : Below w.heap.size w wn) : RdK wn a n := by
 refine ⟨h.le, fun i hi => ?_⟩
 obtain ⟨b, off, kind, A, B, N, T, S, e, h0, h1, h2, h3, h4, h5⟩ := h.elem i hi
 have hk : ∀ j v, w.cell? ⟨b, j, none⟩ = some v → wn.cell? ⟨b, j, none⟩ = some v := fun j v hv => by rw [hb.cell (p := ⟨b, j, none⟩) (World.block_lt_of_cell? _ _ hv)]; exact hv
 exact ⟨b, off, kind, A, B, N, T, S, e, hk _ _ h0, hk _ _ h1, hk _ _ h2, hk _ _ h3, hk _ _ h4, hk _ _ h5⟩
end Go.Proofs.YtmjeljldmmkcpaaGreat.Sq
