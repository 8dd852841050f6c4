/-
  The document's own dict: Put and Delete.
-/
import Derived.Test.YtejnmikbbnckeaaRf5
namespace Go.Proofs.Ytejnmikbbnckeaa
open Go.RowKit Go.PlainAid

/-- The document's dict: its depth, its parts, its keys. -/
def Rf (w : World) (B r x g : Nat) (sh : List Pt) (ks : List ByteArray) : Prop := ∃ pr cap ps, RefD w B r x g pr cap ps ∧ rsh ps = sh ∧ (rks ps).Perm ks
theorem Rf.mv {w w' : World} {B r x g : Nat} {sh : List Pt} {ks : List ByteArray} (h : Rf w B r x g sh ks) {p : TypeId → Bool} (hm : Mv p w w') (h1 : p 68 = false) (h2 : p 65 = false) (h3 : p 9 = false) : Rf w' B r x g sh ks := by
  obtain ⟨pr, cap, ps, a, b, c⟩ := h
  exact ⟨pr, cap, ps, a.mv hm h1 h2 h3, b, c⟩
theorem Rf.keep {w w' : World} {B r x g : Nat} {sh : List Pt} {ks : List ByteArray} (h : Rf w B r x g sh ks) (hb : Below w.heap.size w w') : Rf w' B r x g sh ks := h.mv (p := fun _ => false) (Mv.of_below hb) rfl rfl rfl

/-- One cell of a part's place: its keys are others. -/
theorem RefD.turn {w w' : World} {B r x g pr cap : Nat} {ra rc : List Rp} {p : Rp} (h : RefD w B r x g pr cap (ra ++ p :: rc)) {a2 : Option Addr} {n2 c2 : Nat} {ks2 : List ByteArray} (hb : Below w.heap.size w w') (hO : OwnS w' B a2 n2 c2 ks2)
    (hown : ∀ k ∈ ks2, isIn p.pt (hsh x k) = true) (hnod : (rks (ra ++ ⟨p.l, p.q, a2, n2, c2, ks2⟩ :: rc)).Nodup) (hsiz : ∀ k ∈ ks2, k.size ≤ maxLen) (hle : (rks (ra ++ ⟨p.l, p.q, a2, n2, c2, ks2⟩ :: rc)).length ≤ 1000000) :
    RefD (w'.setCell ⟨pr, ra.length * 3 + 2, none⟩ (.slice a2 n2 c2)) B r x g pr cap (ra ++ ⟨p.l, p.q, a2, n2, c2, ks2⟩ :: rc) ∧ Mv rtag w (w'.setCell ⟨pr, ra.length * 3 + 2, none⟩ (.slice a2 n2 c2)) ∧ Below B w (w'.setCell ⟨pr, ra.length * 3 + 2, none⟩ (.slice a2 n2 c2)) := by
  have h' := h.keep hb
  have hlenr : ra.length < (ra ++ p :: rc).length := by simp
  have hset : (ra ++ p :: rc).set ra.length ⟨p.l, p.q, a2, n2, c2, ks2⟩ = ra ++ ⟨p.l, p.q, a2, n2, c2, ks2⟩ :: rc := by rw [List.set_append_right _ _ (Nat.le_refl _), Nat.sub_self]; rfl
  have hll : (ra ++ (⟨p.l, p.q, a2, n2, c2, ks2⟩ : Rp) :: rc).length = (ra ++ p :: rc).length := by simp
  obtain ⟨hlo, hlt, cur, hcur⟩ := OwnR.lt h'.row (k := pr) rfl
  have hS : Stay w' (w'.setCell ⟨pr, ra.length * 3 + 2, none⟩ (.slice a2 n2 c2)) [pr] := Stay.set
  have hrp : r ≠ pr := by
    rintro rfl
    rw [h'.blk] at hcur
    simp at hcur
  have hrow : OwnR (w'.setCell ⟨pr, ra.length * 3 + 2, none⟩ (.slice a2 n2 c2)) B 65 3 (some ⟨pr, 0, none⟩) (ra ++ p :: rc).length cap (rcells (ra ++ ⟨p.l, p.q, a2, n2, c2, ks2⟩ :: rc)) := by
    have hro := h'.row
    have hl := OwnR.len hro
    refine ⟨by rw [rcells_len, hll], ?_⟩
    rcases hro.2 with ⟨e2, e3⟩ | ⟨g', c', cur', e1, e3, e4, e5, e6, e7, e8⟩
    · cases e2
    · cases e1
      refine .inr ⟨pr, cap, cur'.setIfInBounds (ra.length * 3 + 2) (.slice a2 n2 c2), rfl, e3, heap_set e4 _, e5, e6, by simpa using e7, ?_⟩
      rw [Array.toList_setIfInBounds, List.take_set, e8, ← hset]
      apply List.ext_getElem?
      intro j
      have hpg : (ra ++ p :: rc)[ra.length]? = some p := get_mid
      have hsg : ((ra ++ p :: rc).set ra.length (⟨p.l, p.q, a2, n2, c2, ks2⟩ : Rp))[ra.length]? = some ⟨p.l, p.q, a2, n2, c2, ks2⟩ := List.getElem?_set_self hlenr
      have q1 := rcells_get hpg
      have q2 := rcells_get hsg
      have hl3 := rcells_len (ra ++ p :: rc)
      by_cases z : j = ra.length * 3 + 2
      · subst z; rw [List.getElem?_set_self (by rw [hl3]; omega), q2.2.2]
      · rw [List.getElem?_set_ne (fun e => z e.symm)]
        by_cases hj : j / 3 < (ra ++ p :: rc).length
        · by_cases hjr : j / 3 = ra.length
          · rcases (by omega : j = ra.length * 3 ∨ j = ra.length * 3 + 1) with e | e
            · rw [e, q1.1, q2.1]
            · rw [e, q1.2.1, q2.2.1]
          · obtain ⟨v, hv, -⟩ := get_of_lt (l := ra ++ p :: rc) (i := j / 3) hj
            have hv' : ((ra ++ p :: rc).set ra.length (⟨p.l, p.q, a2, n2, c2, ks2⟩ : Rp))[j / 3]? = some v := by rw [List.getElem?_set_ne (fun e => hjr e.symm)]; exact hv
            have m1 := rcells_get hv
            have m2 := rcells_get hv'
            rcases (by omega : j = j / 3 * 3 ∨ j = j / 3 * 3 + 1 ∨ j = j / 3 * 3 + 2) with e | e | e
            · rw [e, m1.1, m2.1]
            · rw [e, m1.2.1, m2.2.1]
            · rw [e, m1.2.2, m2.2.2]
        · rw [List.getElem?_eq_none (by rw [hl3]; omega), List.getElem?_eq_none (by rw [rcells_len, List.length_set]; omega)]
  have hkp : ∀ {a n c ls}, OwnS w' B a n c ls → OwnS (w'.setCell ⟨pr, ra.length * 3 + 2, none⟩ (.slice a2 n2 c2)) B a n c ls := fun hO => OwnR.stay hO hS (fun k hk => by
    simp only [List.mem_singleton]
    rintro rfl
    obtain ⟨-, -, cur2, h1⟩ := OwnR.lt hO hk
    rw [hcur] at h1
    simp at h1)
  refine ⟨⟨?_, by rw [hll]; exact hrow, ?_, h.low, h.seed, ?_, ?_, hnod, ?_, hle, by rw [hll]; exact h.few⟩, mv_set (Mv.of_below hb) hcur rfl, ?_⟩
  · rw [hS.block r h'.lt (by simpa using hrp), hll]; exact h'.blk
  · intro u hu
    rcases List.mem_append.1 hu with hu | hu
    · exact hkp (h'.key u (by simp [hu]))
    · rcases List.mem_cons.1 hu with rfl | hu
      · exact hkp hO
      · exact hkp (h'.key u (by simp [hu]))
  · have := h.shp
    unfold rsh at this ⊢
    rw [List.map_append, List.map_cons] at this ⊢
    exact this
  · intro u hu
    rcases List.mem_append.1 hu with hu | hu
    · exact h.own u (by simp [hu])
    · rcases List.mem_cons.1 hu with rfl | hu
      · exact hown
      · exact h.own u (by simp [hu])
  · intro k hk
    rw [rks_append, rks_cons, List.mem_append, List.mem_append] at hk
    rcases hk with hk | hk | hk
    · exact h.siz k (by rw [rks_append]; simp [hk])
    · exact hsiz k hk
    · exact h.siz k (by rw [rks_append, rks_cons]; simp [hk])
  · have hB : B ≤ w.heap.size := by have h1 := h.low; have h2 := h.lt; omega
    exact (hb.mono hB).trans (hS.below (by intro i hi; simp at hi; omega) (Nat.le_trans hB hb.size))
end Go.Proofs.Ytejnmikbbnckeaa
