/- Texts that the others stand on. -/
import Derived.Test.YtmjeljldmmkcpaaGreatK38
namespace Go.Proofs.YtmjeljldmmkcpaaGreat.Sq
open Go.RowKit Go.PlainAid
def ltag (t : TypeId) : Bool := t == 153 || t == 151 || t == 192 || t == 5
theorem Lst.tagsL {w : World} {B l R most cnt : Nat} {ns : List Nd} (h : Lst w B l R most cnt ns) : ∀ k ∈ l :: R :: fpN ns, ∃ cs t, w.heap[k]? = some (.cells cs t (0, 0)) ∧ ltag t = true := by
 intro k hk
 rcases List.mem_cons.1 hk with rfl | hk
 ·exact ⟨_, _, h.blk, by decide⟩
 rcases List.mem_cons.1 hk with rfl | hk
 ·obtain ⟨x, y, e⟩ := h.ring
  exact ⟨_, _, e, by decide⟩
 ·obtain ⟨d, hd, hk⟩ := List.mem_flatMap.1 hk
  have hN := h.nod d hd
  rcases List.mem_cons.1 hk with rfl | hk
  ·obtain ⟨x, y, e⟩ := hN.blk
   exact ⟨_, _, e, by decide⟩
  rcases List.mem_cons.1 hk with rfl | hk
  ·exact ⟨_, _, hN.pk.blk, by decide⟩
  ·rw [Option.mem_toList] at hk
   rcases hN.pk.own.2 with ⟨h2, -⟩ | ⟨g, c, cur, h1, h3, h4, -⟩
   ·injection h2 with e1
    rw [e1] at hk; cases hk
   ·injection h1 with e1
    rw [e1] at hk
    cases hk
    exact ⟨_, _, h4, by decide⟩
structure Off (p q : TypeId → Bool) : Prop where
 off : ∀ t, q t = true → p t = false
theorem Vl.mv {w w' : World} {B v : Nat} {ls : List BA} {F : List Nat} (h : Vl w B v ls F) {p : TypeId → Bool} (hm : Dk.Mv p w w') (hl : Off p ltag) (hv : p 74 = false) : Vl w' B v ls F := by
 obtain ⟨m, mo, q, h1, h2⟩ := h.ex
 have hst : Stay w w' (Dk.chg p w) := ⟨hm.stay.os, hm.stay.tape, hm.stay.output, hm.stay.size, hm.stay.block⟩
 refine ⟨⟨m, mo, q, h1.kept (hm.block v _ _ h1.blk hv), h2.stay hst fun k hk => ?_⟩, h.low⟩
 obtain ⟨R, ns, h3, h4, h5, h6, rfl⟩ := h2.ex
 obtain ⟨cs, t, h7, h8⟩ := Lst.tagsL h3 k hk
 exact Dk.chg_no h7 (hl.off t h8)
theorem Vl.fp {w : World} {B v : Nat} {ls : List BA} {F : List Nat} (h : Vl w B v ls F) : ∀ k ∈ F, B ≤ k ∧ k < w.heap.size := by
 obtain ⟨m, mo, q, h1, h2⟩ := h.ex
 exact h2.blocks
theorem stay_mv {w w' : World} {B l most q : Nat} {ls : List BA} {F : List Nat} (h : QV w B l most ls q F) (hs : Stay w w' F) : Dk.Mv ltag w w' := by
 refine ⟨hs.os, hs.tape, hs.output, hs.size, fun k cs t hk ht => hs.block k (Array.getElem?_eq_some_iff.1 hk).1 fun hm => ?_⟩
 obtain ⟨R, ns, h3, h4, h5, h6, rfl⟩ := h.ex
 obtain ⟨cs', t', h7, h8⟩ := Lst.tagsL h3 k hm
 rw [hk] at h7
 injection h7 with h7
 injection h7 with _ e
 rw [← e] at h8
 rw [h8] at ht
 cases ht
theorem Vl.far {w w' : World} {B v : Nat} {ls : List BA} {F : List Nat} (h : Vl w B v ls F) {C l most q : Nat} {rs : List BA} {G : List Nat} (hq : QV w C l most rs q G) (hs : Stay w w' G) (hd : ∀ k ∈ F, k ∉ G) : Vl w' B v ls F := by
 obtain ⟨m, mo, q', k1, k2⟩ := h.ex
 exact ⟨⟨m, mo, q', k1.kept ((stay_mv hq hs).block v _ _ k1.blk (by decide)), k2.stay hs hd⟩, h.low⟩
def IsV (w : World) (B v : Nat) (d : Dv) (F : List Nat) : Prop := match d with
 | .txt t => Vt w v t ∧ F = []
 | .lst ls => Vl w B v ls F
theorem IsV.mv {w w' : World} {B v : Nat} {d : Dv} {F : List Nat} (h : IsV w B v d F) {p : TypeId → Bool} (hm : Dk.Mv p w w') (hl : Off p ltag) (hv : p 74 = false) : IsV w' B v d F := by
 cases d with
 | txt t => exact ⟨⟨by rw [hm.block v _ _ h.1.blk hv]; exact h.1.blk⟩, h.2⟩
 | lst ls => exact Vl.mv h hm hl hv
theorem IsV.fp {w : World} {B v : Nat} {d : Dv} {F : List Nat} (h : IsV w B v d F) : ∀ k ∈ F, k < w.heap.size := by
 cases d with
 | txt t => rw [h.2]; intro k hk; cases hk
 | lst ls => exact fun k hk => (Vl.fp h k hk).2
theorem IsV.down {w : World} {B C v : Nat} {d : Dv} {F : List Nat} (h : IsV w B v d F) (hC : C ≤ B) : IsV w C v d F := by
 cases d with
 | txt t => exact h
 | lst ls => exact Vl.down h hC
structure Vals (w : World) (B : Nat) (A : Ab) (M : AbV Dv) (FP : BA → List Nat) : Prop where
 no : ∀ k, M k = none → A k = none
 yes : ∀ k d u, M k = some (d, u) → ∃ v, A k = some (some ⟨v, 0, none⟩, u) ∧ IsV w B v d (FP k)
 dis : ∀ k j, k ≠ j → ∀ x ∈ FP k, x ∉ FP j
 lt : ∀ k, ∀ x ∈ FP k, x < w.heap.size
section
variable {w w' : World} {B : Nat} {A : Ab} {M : AbV Dv} {FP : BA → List Nat}
theorem Vals.mv (H : Vals w B A M FP) {p : TypeId → Bool} (hm : Dk.Mv p w w') (hl : Off p ltag) (hv : p 74 = false) : Vals w' B A M FP :=
 ⟨H.no, fun k d u h => by
  obtain ⟨v, h1, h2⟩ := H.yes k d u h
  exact ⟨v, h1, h2.mv hm hl hv⟩, H.dis, fun k x hx => Nat.lt_of_lt_of_le (H.lt k x hx) hm.size⟩
theorem Vals.keep (H : Vals w B A M FP) (hb : Below w.heap.size w w') : Vals w' B A M FP := H.mv (p := fun _ => false) (Dk.Mv.of_below hb) ⟨fun _ _ => rfl⟩ rfl
theorem Vals.some_iff (H : Vals w B A M FP) (k : BA) : (A k).isSome = (M k).isSome := by
 cases h : M k with
 | none => rw [H.no k h]; rfl
 | some y =>
  obtain ⟨v, h1, -⟩ := H.yes k y.1 y.2 h
  rw [h1]; rfl
theorem Vals.endq (H : Vals w B A M FP) (k : BA) : endOf (A k) = endOf (M k) := by
 cases h : M k with
 | none => rw [H.no k h]; rfl
 | some y =>
  obtain ⟨v, h1, -⟩ := H.yes k y.1 y.2 h
  rw [h1]; rfl
theorem Vals.sub (H : Vals w B A M FP) {A' : Ab} {M' : AbV Dv} (h : ∀ k, (A' k = none ∧ M' k = none) ∨ ∃ a d u u', A k = some (a, u) ∧ M k = some (d, u) ∧ A' k = some (a, u') ∧ M' k = some (d, u')) : Vals w B A' M' FP := by
 refine ⟨fun k hk => ?_, fun k d u hk => ?_, H.dis, H.lt⟩
 ·rcases h k with h1 | ⟨a, d, u, u', h1, h2, h3, h4⟩
  ·exact h1.1
  ·rw [hk] at h4; cases h4
 ·rcases h k with h1 | ⟨a, d', u1, u', h1, h2, h3, h4⟩
  ·rw [hk] at h1; cases h1.2
  ·rw [hk] at h4
   injection h4 with h4
   injection h4 with e1 e2
   subst e1
   subst e2
   obtain ⟨v, h5, h6⟩ := H.yes k d u1 h2
   rw [h1] at h5
   injection h5 with h5
   injection h5 with e3 _
   exact ⟨v, by rw [h3, e3], h6⟩
theorem Vals.same (H : Vals w B A M FP) (k : BA) : (A k = none ∧ M k = none) ∨ ∃ a d u u', A k = some (a, u) ∧ M k = some (d, u) ∧ A k = some (a, u') ∧ M k = some (d, u') := by
 cases h : M k with
 | none => exact .inl ⟨H.no k h, rfl⟩
 | some y =>
  obtain ⟨v, h1, -⟩ := H.yes k y.1 y.2 h
  exact .inr ⟨_, y.1, y.2, y.2, h1, rfl, h1, rfl⟩
theorem Vals.due (H : Vals w B A M FP) (t : Int) : Vals w B (dueA A t) (dueA M t) FP := by
 refine H.sub fun k => ?_
 unfold dueA
 cases h : M k with
 | none => rw [H.no k h]; exact .inl ⟨rfl, rfl⟩
 | some y =>
  obtain ⟨d, u⟩ := y
  obtain ⟨v, h1, -⟩ := H.yes k d u h
  rw [h1]
  cases u with
  | none => exact .inr ⟨_, _, _, _, rfl, rfl, rfl, rfl⟩
  | some e =>
   by_cases he : e ≤ t
   ·exact .inl ⟨if_pos he, if_pos he⟩
   ·exact .inr ⟨_, _, some e, some e, rfl, rfl, if_neg he, if_neg he⟩
theorem Vals.set (H : Vals w B A M FP) (k : BA) {v : Nat} {d : Dv} {u : Option Int} {F : List Nat} (hv : IsV w B v d F) (hd : ∀ j, j ≠ k → ∀ x ∈ F, x ∉ FP j) : Vals w B (setA A k (some (some ⟨v, 0, none⟩, u))) (setA M k (some (d, u))) (fun j => if j = k then F else FP j) := by
 refine ⟨fun j hj => ?_, fun j d' u' hj => ?_, fun i j hij x hx => ?_, fun j x hx => ?_⟩
 ·by_cases h : j = k
  ·subst h; rw [Bz] at hj; cases hj
  ·rw [Cd _ _ h] at hj ⊢; exact H.no j hj
 ·by_cases h : j = k
  ·subst h
   rw [Bz] at hj
   cases hj
   exact ⟨v, Bz _ _ _, by rw [if_pos rfl]; exact hv⟩
  ·rw [Cd _ _ h] at hj
   obtain ⟨v', h1, h2⟩ := H.yes j d' u' hj
   exact ⟨v', by rw [Cd _ _ h]; exact h1, by rw [if_neg h]; exact h2⟩
 ·by_cases h1 : i = k
  ·have h2 : j ≠ k := fun e => hij (h1.trans e.symm)
   rw [if_pos h1] at hx
   rw [if_neg h2]
   exact hd j h2 x hx
  ·rw [if_neg h1] at hx
   by_cases h2 : j = k
   ·rw [if_pos h2]
    exact fun hm => hd i h1 x hm hx
   ·rw [if_neg h2]
    exact H.dis i j hij x hx
 ·by_cases h1 : j = k
  ·rw [if_pos h1] at hx; exact hv.fp x hx
  ·rw [if_neg h1] at hx; exact H.lt j x hx
theorem Vals.del (H : Vals w B A M FP) (k : BA) : Vals w B (setA A k none) (setA M k none) FP := H.sub fun j => by
 by_cases h : j = k
 ·subst h; exact .inl ⟨Bz _ _ _, Bz _ _ _⟩
 ·rw [Cd _ _ h, Cd _ _ h]; exact H.same j
theorem Vals.exp (H : Vals w B A M FP) (k : BA) (u t : Int) : Vals w B (expA A k u t) (expA M k u t) FP := by
 unfold expA
 cases h : M k with
 | none => rw [H.no k h]; exact H
 | some y =>
  obtain ⟨d, u0⟩ := y
  obtain ⟨v, h1, -⟩ := H.yes k d u0 h
  rw [h1]
  refine H.sub fun j => ?_
  by_cases hj : j = k
  ·subst hj
   simp only [Bz]
   by_cases hu : u ≤ t
   ·rw [if_pos hu, if_pos hu]; exact .inl ⟨rfl, rfl⟩
   ·rw [if_neg hu, if_neg hu]; exact .inr ⟨_, d, u0, some u, h1, h, rfl, rfl⟩
  ·simp only [Cd _ _ hj]; exact H.same j
theorem Vals.per (H : Vals w B A M FP) (k : BA) : Vals w B (perA A k) (perA M k) FP := by
 unfold perA
 cases h : M k with
 | none => rw [H.no k h]; exact H
 | some y =>
  obtain ⟨d, u0⟩ := y
  obtain ⟨v, h1, -⟩ := H.yes k d u0 h
  rw [h1]
  cases u0 with
  | none => exact H
  | some e =>
   refine H.sub fun j => ?_
   by_cases hj : j = k
   ·subst hj
    simp only [Bz]
    exact .inr ⟨_, d, some e, none, h1, h, rfl, rfl⟩
   ·simp only [Cd _ _ hj]; exact H.same j
theorem Vals.ren (H : Vals w B A M FP) (a b : BA) : ∃ FP', Vals w B (renA A a b) (renA M a b) FP' := by
 unfold renA
 rw [H.some_iff a]
 cases h : M a with
 | none => exact ⟨FP, H⟩
 | some y =>
  obtain ⟨d, u⟩ := y
  obtain ⟨v, h1, h2⟩ := H.yes a d u h
  by_cases hab : a = b
  ·rw [if_pos hab, if_pos hab]; exact ⟨FP, by simpa using H⟩
  ·rw [if_neg hab, if_neg hab, h1]
   have hD := H.del a
   have hE : Vals w B (setA A a none) (setA M a none) (fun j => if j = a then [] else FP j) := by
    refine ⟨hD.no, fun k d' u' hk => ?_, fun i j hij x hx => ?_, fun j x hx => ?_⟩
    ·obtain ⟨v', k1, k2⟩ := hD.yes k d' u' hk
     have hka : k ≠ a := fun e => by subst e; rw [Bz] at hk; cases hk
     exact ⟨v', k1, by rw [if_neg hka]; exact k2⟩
    ·by_cases hi : i = a
     ·rw [if_pos hi] at hx; cases hx
     ·rw [if_neg hi] at hx
      by_cases hj : j = a
      ·rw [if_pos hj]; exact fun hm => by cases hm
      ·rw [if_neg hj]; exact H.dis i j hij x hx
    ·by_cases hj : j = a
     ·rw [if_pos hj] at hx; cases hx
     ·rw [if_neg hj] at hx; exact H.lt j x hx
   refine ⟨_, hE.set b (u := u) h2 fun j hj x hx => ?_⟩
   by_cases hja : j = a
   ·rw [if_pos hja]; exact fun hm => by cases hm
   ·rw [if_neg hja]; exact H.dis a j (fun e => hja e.symm) x hx
end
end Go.Proofs.YtmjeljldmmkcpaaGreat.Sq
namespace Go.Proofs.YtmjeljldmmkcpaaGreat.Sq
open Go.RowKit Go.PlainAid
open Dk (ptr Aa Ac Ad Af OwnR OwnP OwnS Mv)
theorem dueA_dueA {α : Type} (A : AbV α) {t t' : Int} (h : t ≤ t') : dueA (dueA A t) t' = dueA A t' := by
 funext k
 unfold dueA
 cases hk : A k with
 | none => rfl
 | some y =>
  obtain ⟨d, u⟩ := y
  cases u with
  | none => rfl
  | some e =>
   by_cases h1 : e ≤ t
   ·have h2 : e ≤ t' := by omega
    simp [h1, h2]
   ·simp [h1]
theorem dueV_dueV {α : Type} (A : AbV α) (V : BA → Int) {t t' : Int} (h : t ≤ t') : dueV (dueA A t) (dueV A V t) t' = dueV A V t' := by
 funext k
 unfold dueV dueA
 cases hk : A k with
 | none => rfl
 | some y =>
  obtain ⟨d, u⟩ := y
  cases u with
  | none => rfl
  | some e =>
   by_cases h1 : e ≤ t
   ·have h2 : e ≤ t' := by omega
    simp [h1, h2]
   ·simp [h1]
structure Grow (V V' U U' : BA → Int) : Prop where
 le : ∀ k, V k ≤ V' k
 leu : ∀ k, U k ≤ U' k
 iff : ∀ k, V' k = V k ↔ U' k = U k
theorem Grow.refl (V U : BA → Int) : Grow V V U U := ⟨fun _ => Int.le_refl _, fun _ => Int.le_refl _, fun _ => ⟨fun _ => rfl, fun _ => rfl⟩⟩
theorem Grow.trans {V V1 V2 U U1 U2 : BA → Int} (h : Grow V V1 U U1) (k : Grow V1 V2 U1 U2) : Grow V V2 U U2 := by
 refine ⟨fun j => Int.le_trans (h.le j) (k.le j), fun j => Int.le_trans (h.leu j) (k.leu j), fun j => ?_⟩
 have h1 := h.le j
 have h2 := k.le j
 have h3 := h.leu j
 have h4 := k.leu j
 have h5 := h.iff j
 have h6 := k.iff j
 constructor
 ·intro e
  have e1 := h5.1 (by omega)
  have e2 := h6.1 (by omega)
  omega
 ·intro e
  have e1 := h5.2 (by omega)
  have e2 := h6.2 (by omega)
  omega
theorem Grow.due {α β : Type} {A : AbV α} {M : AbV β} (he : ∀ k, endOf (A k) = endOf (M k)) (V U : BA → Int) (t : Int) : Grow V (dueV A V t) U (dueV M U t) := by
 refine ⟨fun k => (dueV_le A V t k).1, fun k => (dueV_le M U t k).1, fun k => ?_⟩
 have h := he k
 unfold dueV
 cases hA : A k with
 | none =>
  rw [hA] at h
  cases hM : M k with
  | none => simp
  | some y =>
   obtain ⟨d, u⟩ := y
   rw [hM] at h
   cases u with
   | none => simp
   | some e => cases h
 | some z =>
  obtain ⟨c, v⟩ := z
  rw [hA] at h
  cases hM : M k with
  | none =>
   rw [hM] at h
   cases v with
   | none => simp
   | some e => cases h
  | some y =>
   obtain ⟨d, u⟩ := y
   rw [hM] at h
   replace h : v = u := h
   subst h
   cases v with
   | none => simp
   | some e =>
    by_cases h1 : e ≤ t
    ·simp only [if_pos h1]; omega
    ·simp only [if_neg h1]
theorem Grow.inc (V U : BA → Int) (k : BA) : Grow V (incV V k) U (incV U k) := by
 refine ⟨fun j => (incV_le V k j).1, fun j => (incV_le U k j).1, fun j => ?_⟩
 unfold incV
 by_cases h : j = k
 ·simp only [if_pos h]; omega
 ·simp only [if_neg h]
theorem Grow.chg {α β : Type} {A : AbV α} {M : AbV β} {k : BA} (h : (A k).isSome = (M k).isSome) (V U : BA → Int) : Grow V (chgV A V k) U (chgV M U k) := by
 unfold chgV
 rw [h]
 split
 ·exact Grow.inc V U k
 ·exact Grow.refl V U
theorem Grow.per {α β : Type} {A : AbV α} {M : AbV β} {k : BA} (h : endOf (A k) = endOf (M k)) (V U : BA → Int) : Grow V (perV A V k) U (perV M U k) := by
 unfold perV
 rw [h]
 split
 ·exact Grow.inc V U k
 ·exact Grow.refl V U
theorem Grow.ren {α β : Type} {A : AbV α} {M : AbV β} {a : BA} (h : (A a).isSome = (M a).isSome) (V U : BA → Int) (b : BA) : Grow V (renV A V a b) U (renV M U a b) := by
 unfold renV
 rw [h]
 split
 ·split
  ·exact Grow.inc V U a
  ·exact (Grow.inc V U a).trans (Grow.inc _ _ b)
 ·exact Grow.refl V U
theorem Grow.flu {α β : Type} {A : AbV α} {M : AbV β} (h : ∀ k, (A k).isSome = (M k).isSome) (V U : BA → Int) : Grow V (fluV A V) U (fluV M U) := by
 refine ⟨fun k => ?_, fun k => ?_, fun k => ?_⟩
 ·unfold fluV; split <;> omega
 ·unfold fluV; split <;> omega
 ·unfold fluV
  rw [h k]
  split <;> omega
theorem Grow.only {α : Type} {A : AbV α} {V U U' : BA → Int} {k : BA} (h : OnlyK U U' k (A k).isSome) : Grow V (chgV A V k) U U' := by
 refine ⟨fun j => ?_, fun j => ?_, fun j => ?_⟩
 ·unfold chgV; split
  ·exact (incV_le V k j).1
  ·exact Int.le_refl _
 ·have := h j
  split at this <;> omega
 ·have hj := h j
  unfold chgV
  by_cases hs : (A k).isSome = true
  ·rw [if_pos hs]
   unfold incV
   by_cases hjk : j = k
   ·rw [if_pos ⟨hjk, hs⟩] at hj
    rw [if_pos hjk]
    omega
   ·rw [if_neg (fun e => hjk e.1)] at hj
    rw [if_neg hjk, hj]
    simp
  ·rw [if_neg (fun e => hs e.2)] at hj
   rw [if_neg hs, hj]
   simp
structure Lw (w : World) (W s m : Nat) (now : Int) (va wa : Nat) (nv nw : List Int) : Prop where
 blk : w.heap[W]? = some (.cells #[ptr s, ptr m, .int .i64 now, .slice (some ⟨va, 0, none⟩) 7 7, .slice (some ⟨wa, 0, none⟩) 7 7] 53 (0, 0))
 bv : w.heap[va]? = some (.cells (nv.map (Value.int .u64)).toArray 27 (0, 0))
 bw : w.heap[wa]? = some (.cells (nw.map (Value.int .u64)).toArray 27 (0, 0))
 lv : nv.length = 7
 lw : nw.length = 7
 ne : va ≠ wa
section
variable {w w' : World} {W s m : Nat} {now : Int} {va wa : Nat} {nv nw : List Int}
theorem Lw.mv (H : Lw w W s m now va wa nv nw) {p : TypeId → Bool} (hm : Mv p w w') (h1 : p 53 = false) (h2 : p 27 = false) : Lw w' W s m now va wa nv nw :=
 ⟨by rw [hm.block _ _ _ H.blk h1]; exact H.blk, by rw [hm.block _ _ _ H.bv h2]; exact H.bv, by rw [hm.block _ _ _ H.bw h2]; exact H.bw, H.lv, H.lw, H.ne⟩
theorem Lw.keep (H : Lw w W s m now va wa nv nw) (hb : Below w.heap.size w w') : Lw w' W s m now va wa nv nw := H.mv (p := fun _ => false) (Mv.of_below hb) rfl rfl
theorem Lw.c3 (H : Lw w W s m now va wa nv nw) : w.cell? ⟨W, 0, none⟩ = some (ptr s) ∧ w.cell? ⟨W, 1, none⟩ = some (ptr m) ∧ w.cell? ⟨W, 2, none⟩ = some (.int .i64 now) := by
 have := H.blk
 exact ⟨by simp [World.cell?, this], by simp [World.cell?, this], by simp [World.cell?, this]⟩
end
theorem off_ml : Off mtag ltag := ⟨fun t h => by
 unfold ltag at h
 simp only [Bool.or_eq_true, beq_iff_eq] at h
 rcases h with ((rfl | rfl) | rfl) | rfl <;> rfl⟩
theorem off_sl : Off stag ltag := ⟨fun t h => by
 unfold ltag at h
 simp only [Bool.or_eq_true, beq_iff_eq] at h
 rcases h with ((rfl | rfl) | rfl) | rfl <;> rfl⟩
theorem off_ms : Off mtag stag := ⟨fun t h => by
 cases hm : mtag t with
 | false => rfl
 | true =>
  unfold mtag at hm
  simp only [Bool.or_eq_true, beq_iff_eq] at hm
  rcases hm with rfl | rfl <;> exact absurd h (by decide)⟩
theorem off_ls : Off ltag stag := ⟨fun t h => by
 cases hm : ltag t with
 | false => rfl
 | true => rw [off_sl.off t hm] at h; cases h⟩
theorem off_eq {T : TypeId} {q : TypeId → Bool} (h : q T = false) : Off (fun t => t == T) q := ⟨fun t ht => by
 cases he : (t == T) with
 | false => rfl
 | true => rw [beq_iff_eq.1 he, h] at ht; cases ht⟩
def NM7 : List BA := (List.range 7).map nmA
theorem nm7 {d : Nat} (h : d < 7) : nmA d ∈ NM7 := List.mem_map.2 ⟨d, List.mem_range.2 h, rfl⟩
theorem nm7_sz {k : BA} (h : k ∈ NM7) : k.size ≤ 5 := by
 obtain ⟨d, -, rfl⟩ := List.mem_map.1 h
 exact nmA_size d
theorem nm7_names : Names NM7 := ⟨by unfold NM7; rw [List.length_map, List.length_range]; decide, fun k hk => by have := nm7_sz hk; omega⟩
structure Kok (bd : Int) (r : Kr) : Prop where
 v0 : 0 ≤ r.ver
 v1 : r.ver ≤ bd
 nm : r.nm ∈ NM7
 ok : r.th = true → r.kd = 1 ∨ r.kd = 4 ∧ 0 < r.ln
 ln : r.ln ≤ 100
theorem Kok.mono {bd c : Int} {r : Kr} (h : Kok bd r) (hb : bd ≤ c) : Kok c r := ⟨h.v0, Int.le_trans h.v1 hb, h.nm, h.ok, h.ln⟩
theorem Kok.off {bd v : Int} {k : BA} (hk : k ∈ NM7) (h0 : 0 ≤ v) (h1 : v ≤ bd) : Kok bd (Kr.off k v) := ⟨h0, h1, hk, (fun h => by cases h), Nat.zero_le _⟩
def Koks (bd : Int) (rows : List Kr) : Prop := ∀ r ∈ rows, Kok bd r
theorem Koks.mono {bd c : Int} {rows : List Kr} (h : Koks bd rows) (hb : bd ≤ c) : Koks c rows := fun r hr => (h r hr).mono hb
theorem Koks.due {bd : Int} {rows : List Kr} (h : Koks bd rows) (t : Int) : Koks (bd + 1) (dueR t rows) := fun r hr => by
 obtain ⟨q, hq, rfl⟩ := List.mem_map.1 hr
 have hk := h q hq
 unfold dueK
 split
 ·exact Kok.off hk.nm (by have := hk.v0; omega) (by have := hk.v1; omega)
 ·exact hk.mono (by omega)
theorem Koks.upd {bd c : Int} {rows : List Kr} (h : Koks bd rows) {k : BA} {f : Kr → Kr} (hf : ∀ r, Kok bd r → r.nm = k → Kok c (f r)) (hb : bd ≤ c) : Koks c (updR rows k f) := fun r hr => by
 obtain ⟨q, hq, rfl⟩ := List.mem_map.1 hr
 split
 ·rename_i e; exact hf q (h q hq) e
 ·exact (h q hq).mono hb
theorem Koks.slt {bd : Int} {rows : List Kr} (h : Koks bd rows) (h0 : 0 ≤ bd) {k : BA} (hk : k ∈ NM7) : Koks bd (sltR rows k) := by
 unfold sltR
 split
 ·exact h
 ·intro r hr
  rcases List.mem_append.1 hr with h1 | h1
  ·exact h r h1
  ·rw [List.mem_singleton] at h1
   subst h1
   exact Kok.off hk (Int.le_refl _) h0
theorem Koks.del {bd : Int} {rows : List Kr} (h : Koks bd rows) {k : BA} (hk : k ∈ NM7) : Koks (bd + 1) (delR rows k) := by
 unfold delR
 split
 ·exact h.upd (fun r hr _ => Kok.off hk (by have := hr.v0; omega) (by have := hr.v1; omega)) (by omega)
 ·exact h.mono (by omega)
theorem Koks.put {bd : Int} {rows : List Kr} (h : Koks bd rows) (h0 : 0 ≤ bd) {k : BA} (hk : k ∈ NM7) {kd : Int} {tx : BA} {pa : Option Addr} {pc : Nat} {la : Option Addr} {ln lc : Nat} {ls : List BA} {u : Int} {en : Bool} (hkd : kd = 1 ∨ kd = 4 ∧ 0 < ln) (hln : ln ≤ 100) : Koks (bd + 1) (updR (sltR rows k) k (putK k kd tx pa pc la ln lc ls u en)) :=
 (h.slt h0 hk).upd (fun r hr _ => ⟨by show 0 ≤ r.ver + 1; have := hr.v0; omega, by show r.ver + 1 ≤ _; have := hr.v1; omega, hk, fun _ => hkd, hln⟩) (by omega)
theorem Koks.exp {bd : Int} {rows : List Kr} (h : Koks bd rows) (k : BA) (u t : Int) : Koks (bd + 2) (expR rows k u t) := by
 unfold expR
 split
 ·have h1 : Koks (bd + 1) (updR rows k (expK u)) := h.upd (fun r hr _ => ⟨by show 0 ≤ r.ver + 1; have := hr.v0; omega, by show r.ver + 1 ≤ _; have := hr.v1; omega, hr.nm, hr.ok, hr.ln⟩) (by omega)
  exact (h1.due t).mono (by omega)
 ·exact h.mono (by omega)
theorem Koks.per {bd : Int} {rows : List Kr} (h : Koks bd rows) (k : BA) : Koks (bd + 1) (perR rows k) := by
 unfold perR
 split
 ·exact h.upd (fun r hr _ => ⟨by show 0 ≤ r.ver + 1; have := hr.v0; omega, by show r.ver + 1 ≤ _; have := hr.v1; omega, hr.nm, hr.ok, hr.ln⟩) (by omega)
 ·exact h.mono (by omega)
theorem Koks.tou {bd : Int} {rows : List Kr} (h : ∀ r ∈ rows, 0 ≤ r.ver ∧ r.ver ≤ bd ∧ r.nm ∈ NM7 ∧ r.ln ≤ 100) {k : BA} (ho : ∀ r ∈ rows, r.nm ≠ k → Kok bd r) (hk : ∀ r ∈ rows, r.nm = k → r.th = true → r.kd = 1 ∨ r.kd = 4) : Koks (bd + 1) (touR rows k) := by
 unfold touR
 split
 ·intro r hr
  obtain ⟨q, hq, rfl⟩ := List.mem_map.1 hr
  obtain ⟨h1, h2, h3, h4⟩ := h q hq
  split
  ·rename_i e
   unfold touK
   split
   ·exact Kok.off h3 (by omega) (by omega)
   ·rename_i he
    refine ⟨by show 0 ≤ q.ver + 1; omega, by show q.ver + 1 ≤ _; omega, h3, fun ht => ?_, h4⟩
    rcases hk q hq e ht with hd | hd
    ·exact .inl hd
    ·refine .inr ⟨hd, ?_⟩
     show 0 < q.ln
     unfold emR at he
     rw [if_neg (by rw [hd]; decide)] at he
     have : q.ln ≠ 0 := fun e => he (decide_eq_true e)
     omega
  ·rename_i e; exact (ho q hq e).mono (by omega)
 ·rename_i hno
  intro r hr
  by_cases e : r.nm = k
  ·obtain ⟨h1, h2, h3, h4⟩ := h r hr
   refine ⟨h1, by omega, h3, fun ht => ?_, h4⟩
   exact absurd (show Bc rows k = true by
    unfold Bc
    rw [List.any_eq_true]
    exact ⟨r, hr, by simp [e, ht]⟩) hno
  ·exact (ho r hr e).mono (by omega)
theorem Koks.flu {bd : Int} {rows : List Kr} (h : Koks bd rows) : Koks (bd + 1) (rows.map fluK) := fun r hr => by
 obtain ⟨q, hq, rfl⟩ := List.mem_map.1 hr
 have hk := h q hq
 unfold fluK
 split
 ·exact Kok.off hk.nm (by have := hk.v0; omega) (by have := hk.v1; omega)
 ·exact hk.mono (by omega)
theorem Koks.src {bd : Int} {rows : List Kr} (h : Koks bd rows) {a : BA} (ht : (mA rows a).isSome = true) : Kok bd (srcR rows a) ∧ (srcR rows a).th = true ∧ srcR rows a ∈ rows := by
 obtain ⟨r, hr, ht⟩ := fnd_some ht
 have e : srcR rows a = r := by show (fndR rows a).getD _ = r; rw [hr]; rfl
 rw [e]
 exact ⟨h r (fnd_mem hr), ht, fnd_mem hr⟩
theorem Koks.ren {bd : Int} {rows : List Kr} (h : Koks bd rows) (h0 : 0 ≤ bd) (hn : (rows.map (·.nm)).Nodup) {a b : BA} (ha : a ∈ NM7) (hb : b ∈ NM7) : Koks (bd + 2) (renR rows a b) := by
 unfold renR
 split
 ·rename_i ht
  split
  ·exact h.upd (fun r hr _ => ⟨by show 0 ≤ r.ver + 1; have := hr.v0; omega, by show r.ver + 1 ≤ _; have := hr.v1; omega, hr.nm, hr.ok, hr.ln⟩) (by omega)
  ·rw [there_eq hn] at ht
   obtain ⟨k1, k2, -⟩ := h.src ht
   have h1 : Koks (bd + 1) (updR (sltR rows b) b (movK b (srcR rows a))) := h.put h0 hb (k1.ok k2) k1.ln
   exact h1.upd (fun r hr _ => Kok.off ha (by have := hr.v0; omega) (by have := hr.v1; omega)) (by omega)
 ·exact h.mono (by omega)
theorem Koks.low {bd : Int} {rows : List Kr} (h : Koks bd rows) (hb : bd ≤ 1000000) : LowM rows ∧ ∀ r ∈ rows, 0 ≤ r.ver ∧ r.ver < 4611686018427387800 :=
 ⟨fun r hr => ⟨(h r hr).v0, by have := (h r hr).v1; omega⟩, fun r hr => ⟨(h r hr).v0, by have := (h r hr).v1; omega⟩⟩
theorem Koks.len {bd : Int} {rows : List Kr} (h : Koks bd rows) (hn : (rows.map (·.nm)).Nodup) : rows.length ≤ 7 := by
 have h1 := len_subB hn (L := NM7) (fun k hk => by obtain ⟨r, hr, rfl⟩ := List.mem_map.1 hk; exact (h r hr).nm)
 rw [List.length_map] at h1
 have h2 : NM7.length = 7 := by unfold NM7; rw [List.length_map, List.length_range]
 omega
structure Mr (w : World) (B m : Nat) (rows : List Kr) (bd : Int) : Prop where
 md : Md w B m rows
 ok : Koks bd rows
structure Pr (w : World) (W B s m x : Nat) (now : Int) (va wa : Nat) (nv nw : List Int) (A : Ab) (V : BA → Int) (bd : Int) : Prop where
 lw : Lw w W s m now va wa nv nw
 spc : Spc w B s x NM7 A V
 vle : Vle V bd
section
variable {w w' : World} {W B s m x : Nat} {now : Int} {va wa : Nat} {nv nw : List Int} {A : Ab} {V : BA → Int} {rows : List Kr} {bd c : Int} {FP : BA → List Nat} {M : AbV Dv}
theorem Mr.st (H : Mr w B m rows bd) {C : Nat} (h : Mb stag C w w') : Mr w' B m rows bd := ⟨H.md.mv h.mv (by decide) (by decide) (by decide), H.ok⟩
theorem Mr.keep (H : Mr w B m rows bd) (h : Below w.heap.size w w') : Mr w' B m rows bd := ⟨H.md.keep h, H.ok⟩
theorem Pr.mt (H : Pr w W B s m x now va wa nv nw A V bd) {C : Nat} (h : Mb mtag C w w') : Pr w' W B s m x now va wa nv nw A V bd := ⟨H.lw.mv h.mv (by decide) (by decide), H.spc.mv h.mv off_ms.off, H.vle⟩
theorem Pr.keep (H : Pr w W B s m x now va wa nv nw A V bd) (h : Below w.heap.size w w') : Pr w' W B s m x now va wa nv nw A V bd := ⟨H.lw.keep h, H.spc.keep h, H.vle⟩
theorem Pr.to (H : Pr w W B s m x now va wa nv nw A V bd) {A' : Ab} {V' : BA → Int} (h : To w w' B s x NM7 A' V') (hv : Vle V' c) : Pr w' W B s m x now va wa nv nw A' V' c := ⟨H.lw.mv h.mb.mv (by decide) (by decide), h.spc, hv⟩
theorem Vals.mt (H : Vals w B A M FP) {C : Nat} (h : Mb mtag C w w') : Vals w' B A M FP := H.mv h.mv off_ml (by decide)
theorem Vals.st (H : Vals w B A M FP) {C : Nat} (h : Mb stag C w w') : Vals w' B A M FP := H.mv h.mv off_sl (by decide)
end
structure St (w : World) (W B s m x : Nat) (now : Int) (va wa : Nat) (nv nw : List Int) (A : Ab) (V : BA → Int) (rows : List Kr) (FP : BA → List Nat) (bd : Int) : Prop where
 pr : Pr w W B s m x now va wa nv nw A V bd
 mr : Mr w B m rows bd
 vals : Vals w B (dueA A now) (dueA (mA rows) now) FP
 t0 : 0 ≤ now
 t1 : now ≤ bd
abbrev vN (A : Ab) (V : BA → Int) (now : Int) : BA → Int := dueV A V now
abbrev uN (rows : List Kr) (now : Int) : BA → Int := dueV (mA rows) (verR rows) now
def DoR (w' : World) (W B s m x : Nat) (now : Int) (va wa : Nat) (nv nw : List Int) (Vd Ud : BA → Int) (bd : Int) : Prop :=
 ∃ A V rows FP, St w' W B s m x now va wa nv nw A V rows FP bd ∧ Grow Vd (vN A V now) Ud (uN rows now)
section
variable {w w' : World} {W B s m x : Nat} {now : Int} {va wa : Nat} {nv nw : List Int} {A : Ab} {V : BA → Int} {rows : List Kr} {bd c : Int} {FP : BA → List Nat}
theorem St.time (H : St w W B s m x now va wa nv nw A V rows FP bd) {now' : Int} (h : now ≤ now') (hb : bd ≤ c) (hc : now' ≤ c) (hm : Mb (fun t => t == 53) B w w') (hl : Lw w' W s m now' va wa nv nw) : St w' W B s m x now' va wa nv nw A V rows FP c ∧ Grow (vN A V now) (vN A V now') (uN rows now) (uN rows now') := by
 have hv := (H.vals.mv (w' := w') hm.mv (off_eq (by decide)) (by decide)).due now'
 rw [dueA_dueA _ h, dueA_dueA _ h] at hv
 refine ⟨⟨⟨hl, H.pr.spc.mv hm.mv (off_eq (by decide)).off, H.pr.vle.mono hb⟩, ⟨H.mr.md.mv hm.mv (by decide) (by decide) (by decide), H.mr.ok.mono hb⟩, hv, by have := H.t0; omega, hc⟩, ?_⟩
 have h1 := Grow.due (fun k => H.vals.endq k) (vN A V now) (uN rows now) now'
 unfold vN uN at h1
 rw [dueV_dueV _ _ h, dueV_dueV _ _ h] at h1
 exact h1
theorem DoR.of {Vd Ud V' : BA → Int} {A' : Ab} {rows' : List Kr} {FP' : BA → List Nat} (hp : Pr w' W B s m x now va wa nv nw A' V' bd) (hm : Mr w' B m rows' bd) (hv : Vals w' B A' (mA rows') FP') (h0 : 0 ≤ now) (h1 : now ≤ bd) (hg : Grow Vd V' Ud (verR rows')) : DoR w' W B s m x now va wa nv nw Vd Ud bd :=
 ⟨A', V', rows', FP', ⟨hp, hm, hv.due now, h0, h1⟩, hg.trans (Grow.due (fun k => hv.endq k) V' (verR rows') now)⟩
end
theorem within_i (i : Nat) (hi : i < 7) (w : World) : Calls Tryz.prog 26 #[.int .i64 (i : Nat), .int .i64 0, .int .i64 1048576] w fun e w' => e = .returned (.int .i64 (i : Nat)) ∧ w' = w := by
 have hr : ((i : Int)).tmod 1048577 = (i : Int) := by rw [Int.tmod_eq_emod_of_nonneg (by omega)]; omega
 have hn : ¬ (i : Int) < 0 := by omega
 go_enter Tryz.func26, Tryz.ntmps26
 go_wp2
 go_ret
 exact ⟨rfl, rfl⟩
theorem name_i (i : Nat) (hi : i < 7) (w : World) : Calls Tryz.prog 31 #[.int .i64 (i : Nat)] w fun e w' => e = .returned (.string (nmA i)) ∧ w' = w := by
 have HW := within_i i hi w
 have hmod : ((i : Int)).tmod 7 = (i : Int) := by rw [Int.tmod_eq_emod_of_nonneg (by omega)]; omega
 obtain ⟨en, hen⟩ : ∃ en, Utf8.encode (97 + (i : Int)) = en := ⟨_, rfl⟩
 have hes : en.size ≤ 4 := by rw [← hen]; exact Dk.encode_size _
 have HN : Hid (nmA i = (⟨#[107]⟩ : BA) ++ en) := by show _ = _; rw [← hen]; rfl
 go_enter Tryz.func31, Tryz.ntmps31
 go_wp2_with fail
 refine HW.mono ?_
 rintro e w ⟨rfl, rfl⟩
 clear HW
 go_wp2
 go_ret
 exact ⟨by rw [HN.out]; rfl, rfl⟩
def AtS (ls : List BA) (k : BA) (e : Ending) : Prop := (∃ i : Nat, e = .returned (.int .i64 i)) ∧ k ∈ ls ∨ e = .returned (.int .i64 (-1)) ∧ k ∉ ls
set_option maxRecDepth 100000 in
theorem At25_any (a : Option Addr) (n c : Nat) (ls : List BA) (k : BA) (w : World) (B : Nat) (hO : OwnS w B a n c ls) (hn : n ≤ 1000) :
  Calls Tryz.prog 95 #[.slice a n c, .string k] w fun e w' => w' = w ∧ AtS ls k e := by
 have HO : Hid (OwnS w 0 a n c ls) := OwnR.low hO (Nat.zero_le _)
 have HL : Hid (ls.length = n) := Dk.OwnS.len hO
 clear hO
 go_enter Tryz.func95, Tryz.ntmps95
 go_wp2
 go_loopg [5] n (fun q iv wr => w = wr ∧ ∃ i : Nat, i + q = n ∧ iv = .int .i64 i ∧ Hid (k ∉ ls.take i))
 case atStart => exact ⟨rfl, 0, by omega, rfl, fun h => by simp at h⟩
 case round =>
  obtain ⟨rfl, i, hi, rfl, HNo⟩ := hrel
  by_cases h8 : (i : Int) < n
  ·obtain ⟨g, ha, hc⟩ := Dk.OwnS.cell HO.out (j := i) (by omega)
   subst ha
   have HS : Hid (ls.take (i + 1) = ls.take i ++ [ls.getD i ⟨#[]⟩]) := Dk.Bx ls _ i (by have := HL.out; omega)
   have HM : Hid (ls.getD i ⟨#[]⟩ ∈ ls) := by
    show _ ∈ ls
    rw [List.getD_eq_getElem?_getD, List.getElem?_eq_getElem (by have := HL.out; omega)]
    exact List.getElem_mem _
   generalize ls.getD i ⟨#[]⟩ = q at hc HS HM
   by_cases hk : q = k
   ·have hkb := str_yes hk
    have HF : Hid (k ∈ ls) := by rw [← hk]; exact HM.out
    go_wp2
    go_ret
    exact ⟨rfl, .inl ⟨⟨i, rfl⟩, HF.out⟩⟩
   ·have hkb := str_no hk
    have HN2 : Hid (k ∉ ls.take (i + 1)) := by
     show k ∉ _
     rw [HS.out]
     intro hm
     rcases List.mem_append.1 hm with h | h
     ·exact HNo.out h
     ·rw [List.mem_singleton] at h; exact hk h.symm
    go_wp2
    go_roundg (gk - 1)
    case measure => omega
    case rel => exact ⟨rfl, i + 1, by omega, by go_num, HN2⟩
  ·have HF : Hid (k ∉ ls) := by
    have := HNo.out
    rw [List.take_of_length_le (by have := HL.out; omega)] at this
    exact this
   go_wp2
   go_ret
   exact ⟨rfl, .inr ⟨rfl, HF.out⟩⟩
end Go.Proofs.YtmjeljldmmkcpaaGreat.Sq
