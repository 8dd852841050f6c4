/-
  The document's own dict: split.
-/
import Derived.Test.YtejnmikbbnckeaaRf3
namespace Go.Proofs.Ytejnmikbbnckeaa
open Go.RowKit Go.PlainAid

/-- A part in a variable of its own. -/
def isPart (w : World) (A l q : Nat) (a : Option Addr) (n c : Nat) : Prop := w.heap[A]? = some (.cells #[.int .i64 (l : Nat), .int .u64 (q : Nat), .slice a n c] 65 (0, 0))
theorem isPart.lt {w : World} {A l q n c : Nat} {a : Option Addr} (h : isPart w A l q a n c) : A < w.heap.size := (Array.getElem?_eq_some_iff.1 h).1
theorem isPart.cell {w : World} {A l q n c : Nat} {a : Option Addr} (h : isPart w A l q a n c) : w.cell? ⟨A, 0, none⟩ = some (.int .i64 (l : Nat)) ∧ w.cell? ⟨A, 1, none⟩ = some (.int .u64 (q : Nat)) ∧ w.cell? ⟨A, 2, none⟩ = some (.slice a n c) ∧ w.frozen? ⟨A, 2, none⟩ = false := by
  unfold isPart at h
  exact ⟨by simp [World.cell?, h], by simp [World.cell?, h], by simp [World.cell?, h], by simp [World.frozen?, h]⟩
theorem isPart.keep {w w' : World} {A l q n c : Nat} {a : Option Addr} (h : isPart w A l q a n c) (hb : Below w.heap.size w w') : isPart w' A l q a n c := by
  have hl := h.lt
  unfold isPart at h ⊢
  rw [hb.block A hl]
  exact h
theorem isPart.grown {w w2 : World} {A l q n c B m cap : Nat} {a aa : Option Addr} {ls : List ByteArray} (h : isPart w A l q a n c) (hO : OwnS w B aa m cap ls) (hg : w.grownBy w2 (aa.map (·.block))) : isPart w2 A l q a n c := by
  have hl := h.lt
  unfold isPart at h ⊢
  rw [hg.block A hl (fun e => by
    obtain ⟨-, -, cur, h1⟩ := OwnR.lt hO e.symm
    rw [h] at h1
    simp at h1)]
  exact h
theorem isPart.set {w : World} {A l q n c : Nat} {a : Option Addr} (h : isPart w A l q a n c) (a2 : Option Addr) (n2 c2 : Nat) : isPart (w.setCell ⟨A, 2, none⟩ (.slice a2 n2 c2)) A l q a2 n2 c2 := by
  unfold isPart at h ⊢
  rw [heap_set h]
  rfl
theorem isPart.other {w : World} {A C l q n c o : Nat} {a : Option Addr} {v : Value} (h : isPart w A l q a n c) (hne : A ≠ C) : isPart (w.setCell ⟨C, o, none⟩ v) A l q a n c := by
  unfold isPart at h ⊢
  rw [Below.heap_setCell _ _ _ _ (by simpa using hne)]
  exact h

/-- Halfway through a split: the part, and the two that are made of it. -/
structure Hv (w : World) (W0 P A C l q : Nat) (p : Rp) (aa : Option Addr) (an ac : Nat) (za : List ByteArray) (ba : Option Addr) (bn bc : Nat) (zb : List ByteArray) : Prop where
  pp : isPart w P l q p.a p.n p.cap
  pa : isPart w A (l + 1) q aa an ac
  pb : isPart w C (l + 1) (q + 2 ^ l) ba bn bc
  oa : OwnS w W0 aa an ac za
  ob : OwnS w W0 ba bn bc zb
  ap : ∀ k, aa.map (·.block) = some k → ba.map (·.block) ≠ some k
  ne : A ≠ C ∧ P ≠ A ∧ P ≠ C ∧ W0 ≤ P ∧ W0 ≤ A ∧ W0 ≤ C
theorem Hv.keep {w w' : World} {W0 P A C l q an ac bn bc : Nat} {p : Rp} {aa ba : Option Addr} {za zb : List ByteArray} (h : Hv w W0 P A C l q p aa an ac za ba bn bc zb) (hb : Below w.heap.size w w') : Hv w' W0 P A C l q p aa an ac za ba bn bc zb :=
  ⟨h.pp.keep hb, h.pa.keep hb, h.pb.keep hb, OwnR.keep h.oa hb, OwnR.keep h.ob hb, h.ap, h.ne⟩
theorem set_row {w : World} {W0 A n c : Nat} {a : Option Addr} {ls : List ByteArray} {v : Value} {l q n' c' : Nat} {a' : Option Addr} (hO : OwnS w W0 a n c ls) (hp : isPart w A l q a' n' c') : OwnS (w.setCell ⟨A, 2, none⟩ v) W0 a n c ls :=
  OwnR.stay hO (Stay.set (q := A)) (fun k hk => by
    simp only [List.mem_singleton]
    rintro rfl
    obtain ⟨-, -, cur, h1⟩ := OwnR.lt hO hk
    unfold isPart at hp
    rw [hp] at h1
    simp at h1)
theorem Hv.first {w w2 : World} {W0 P A C l q an ac bn bc : Nat} {p : Rp} {aa ba : Option Addr} {za zb : List ByteArray} (h : Hv w W0 P A C l q p aa an ac za ba bn bc zb) {a2 : Option Addr} {n2 c2 : Nat} {k : ByteArray} (hO : OwnR w2 W0 9 1 a2 n2 c2 (scells za ++ [.string k])) (hg : w.grownBy w2 (aa.map (·.block))) (hgo : Goes w aa a2) :
    Hv (w2.setCell ⟨A, 2, none⟩ (.slice a2 n2 c2)) W0 P A C l q p a2 n2 c2 (za ++ [k]) ba bn bc zb := by
  have hpp := h.pp.grown h.oa hg
  have hpa := h.pa.grown h.oa hg
  have hpb := h.pb.grown h.oa hg
  have hob : OwnS w2 W0 ba bn bc zb := OwnR.grown h.ob hg (fun j hj e => h.ap j e hj)
  have hO' : OwnS w2 W0 a2 n2 c2 (za ++ [k]) := by
    show OwnR _ _ _ _ _ _ _ _
    rw [scells_append]
    exact hO
  refine ⟨hpp.other h.ne.2.1, hpa.set _ _ _, hpb.other (fun e => h.ne.1 e.symm), set_row hO' hpa, set_row hob hpa, ?_, h.ne⟩
  intro j hj hj2
  rcases hgo with e | e
  · exact h.ap j (e ▸ hj) hj2
  · rw [e] at hj
    injection hj with hj
    have := (OwnR.lt h.ob hj2).2.1
    omega
theorem Hv.second {w w2 : World} {W0 P A C l q an ac bn bc : Nat} {p : Rp} {aa ba : Option Addr} {za zb : List ByteArray} (h : Hv w W0 P A C l q p aa an ac za ba bn bc zb) {a2 : Option Addr} {n2 c2 : Nat} {k : ByteArray} (hO : OwnR w2 W0 9 1 a2 n2 c2 (scells zb ++ [.string k])) (hg : w.grownBy w2 (ba.map (·.block))) (hgo : Goes w ba a2) :
    Hv (w2.setCell ⟨C, 2, none⟩ (.slice a2 n2 c2)) W0 P A C l q p aa an ac za a2 n2 c2 (zb ++ [k]) := by
  have hpp := h.pp.grown h.ob hg
  have hpa := h.pa.grown h.ob hg
  have hpb := h.pb.grown h.ob hg
  have hoa : OwnS w2 W0 aa an ac za := OwnR.grown h.oa hg (fun j hj e => h.ap j hj e)
  have hO' : OwnS w2 W0 a2 n2 c2 (zb ++ [k]) := by
    show OwnR _ _ _ _ _ _ _ _
    rw [scells_append]
    exact hO
  refine ⟨hpp.other h.ne.2.2.1, hpa.other h.ne.1, hpb.set _ _ _, set_row hoa hpb, set_row hO' hpb, ?_, h.ne⟩
  intro j hj hj2
  rcases hgo with e | e
  · exact h.ap j hj (e ▸ hj2)
  · rw [e] at hj2
    injection hj2 with hj2
    have := (OwnR.lt h.oa hj).2.1
    omega

def zks (x l : Nat) (ks : List ByteArray) : List ByteArray := ks.filter fun k => decide (hsh x k / 2 ^ l % 2 = 0)
def oks (x l : Nat) (ks : List ByteArray) : List ByteArray := ks.filter fun k => decide (hsh x k / 2 ^ l % 2 = 1)
theorem or_pow (q l : Nat) (hq : q < 2 ^ l) (hl : l ≤ 16) : bits .or .u64 (q : Int) ((2 ^ l : Nat) : Int) = ((q + 2 ^ l : Nat) : Int) := by
  have h1 := pow_le_16 hl
  rw [u64_or_nat q (2 ^ l) (by omega) (by omega), Nat.or_comm]
  have := Nat.two_pow_add_eq_or_of_lt (i := l) hq 1
  rw [Nat.mul_one] at this
  rw [← this, Nat.add_comm]
/-- One of the parts is another one. -/
theorem set3 {w : World} {B g n c : Nat} {ps : List Rp} (h : OwnR w B 65 3 (some ⟨g, 0, none⟩) n c (rcells ps)) {i : Nat} (hi : i < n) (p : Rp) :
    OwnR (((w.setCell ⟨g, i * 3, none⟩ (.int .i64 (p.l : Nat))).setCell ⟨g, i * 3 + 1, none⟩ (.int .u64 (p.q : Nat))).setCell ⟨g, i * 3 + 2, none⟩ (.slice p.a p.n p.cap)) B 65 3 (some ⟨g, 0, none⟩) n c (rcells (ps.set i p)) := by
  have hlen := OwnR.len h
  rw [rcells_len] at hlen
  have hpl : ps.length = n := by omega
  refine ⟨by rw [rcells_len, List.length_set, hpl], ?_⟩
  rcases h.2 with ⟨h2, h3⟩ | ⟨g', c', cur, h1, h3, h4, h5, h6, h7, h8⟩
  · cases h2
  · cases h1
    refine .inr ⟨g, c, ((cur.setIfInBounds (i * 3) (.int .i64 (p.l : Nat))).setIfInBounds (i * 3 + 1) (.int .u64 (p.q : Nat))).setIfInBounds (i * 3 + 2) (.slice p.a p.n p.cap), rfl, h3, ?_, h5, h6, by simpa using h7, ?_⟩
    · exact heap_set (heap_set (heap_set h4 _) _) _
    · rw [Array.toList_setIfInBounds, Array.toList_setIfInBounds, Array.toList_setIfInBounds, List.take_set, List.take_set, List.take_set, h8]
      apply List.ext_getElem?
      intro j
      obtain ⟨u, hu, -⟩ := get_of_lt (l := ps) (i := i) (by omega)
      have hset : (ps.set i p)[i]? = some p := List.getElem?_set_self (by omega)
      obtain ⟨k1, k2, k3⟩ := rcells_get hset
      have hl3 := rcells_len ps
      by_cases e2 : j = i * 3 + 2
      · subst e2; rw [List.getElem?_set_self (by simp [hl3]; omega), k3]
      · rw [List.getElem?_set_ne (fun e => e2 e.symm)]
        by_cases e1 : j = i * 3 + 1
        · subst e1; rw [List.getElem?_set_self (by simp [hl3]; omega), k2]
        · rw [List.getElem?_set_ne (fun e => e1 e.symm)]
          by_cases e0 : j = i * 3
          · subst e0; rw [List.getElem?_set_self (by rw [hl3]; omega), k1]
          · rw [List.getElem?_set_ne (fun e => e0 e.symm)]
            by_cases hj : j / 3 < ps.length
            · obtain ⟨v, hv, -⟩ := get_of_lt (l := ps) (i := j / 3) hj
              have hv' : (ps.set i p)[j / 3]? = some v := by rw [List.getElem?_set_ne (by omega)]; exact hv
              have m1 := rcells_get hv
              have m2 := rcells_get hv'
              rcases (by omega : j = j / 3 * 3 ∨ j = j / 3 * 3 + 1 ∨ j = j / 3 * 3 + 2) with e | e | e
              · rw [e, m1.1, m2.1]
              · rw [e, m1.2.1, m2.2.1]
              · rw [e, m1.2.2, m2.2.2]
            · rw [List.getElem?_eq_none (by rw [hl3]; omega), List.getElem?_eq_none (by rw [rcells_len, List.length_set]; omega)]
theorem nodup_le {n : Nat} : ∀ {l : List Nat}, l.Nodup → (∀ a ∈ l, a < n) → l.length ≤ n := by
  induction n with
  | zero =>
    intro l _ h
    cases l with
    | nil => exact Nat.le_refl _
    | cons a l => exact absurd (h a (by simp)) (Nat.not_lt_zero _)
  | succ n ih =>
    intro l hn h
    have h1 : (l.filter fun a => decide (a ≠ n)).length ≤ n := ih (hn.filter _) (fun a ha => by
      have h2 := List.mem_filter.1 ha
      have h3 := h a h2.1
      have h4 := of_decide_eq_true h2.2
      omega)
    have h2 : (l.filter fun a => decide (a = n)).length ≤ 1 := by
      have h3 : (l.filter fun a => decide (a = n)).Nodup := hn.filter _
      cases e : l.filter fun a => decide (a = n) with
      | nil => simp
      | cons a t =>
        cases t with
        | nil => simp
        | cons b t =>
          exfalso
          rw [e] at h3
          have ha : a = n := of_decide_eq_true (List.mem_filter.1 (by rw [e]; simp : a ∈ l.filter fun a => decide (a = n))).2
          have hb : b = n := of_decide_eq_true (List.mem_filter.1 (by rw [e]; simp : b ∈ l.filter fun a => decide (a = n))).2
          rw [ha, hb] at h3
          simp at h3
    have h3 := (List.filter_append_perm (fun a => decide (a = n)) l).length_eq
    rw [List.length_append] at h3
    have h4 : (l.filter fun a => !decide (a = n)).length = (l.filter fun a => decide (a ≠ n)).length := by congr 2; funext a; simp
    omega
theorem Shp.few {g : Nat} {sh : List Pt} (h : Shp g sh) : sh.length ≤ 65536 := by
  have h1 : (sh.map (·.2)).Nodup := by
    unfold List.Nodup
    rw [List.pairwise_map]
    refine List.Pairwise.imp_of_mem ?_ h.dis
    intro a b ha hb hab e
    have h2 := hab a.2 (isIn_self (h.lt a ha).1)
    rw [e, isIn_self (h.lt b hb).1] at h2
    cases h2
  have h2 := nodup_le (n := 65536) h1 (fun a ha => by
    obtain ⟨s, hs, rfl⟩ := List.mem_map.1 ha
    have h3 := h.lt s hs
    have h4 : 2 ^ s.1 ≤ 65536 := pow_le_16 (by have := h.le; omega)
    omega)
  rw [List.length_map] at h2
  exact h2
end Go.Proofs.Ytejnmikbbnckeaa
