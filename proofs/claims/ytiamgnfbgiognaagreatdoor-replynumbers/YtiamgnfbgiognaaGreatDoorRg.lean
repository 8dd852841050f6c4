/-
  A region whose last operation spoils what the others read.
-/
import Derived.Test.YtiamgnfbgiognaaGreatDoorMb
import Derived.OrdersHeld
namespace Go.Proofs.YtiamgnfbgiognaaGreatDoor
open Go

section
variable {P : Program} {ops : Array Oper} {Q : Exit → Act → World → Prop} {md : Region.Mode} {S : World → Prop} {z : Nat}
/-- Whatever order is picked: S holds behind each operation but z. -/
def wpAnyG (P : Program) (md : Region.Mode) (ops : Array Oper) (Q : Exit → Act → World → Prop) (S : World → Prop) (z : Nat) : Nat → Array Bool → Act → World → Prop
  | 0, listed, a, w => Region.ready md ops listed = [] ∧ Q .normal a w
  | fuel + 1, listed, a, w =>
    (Region.ready md ops listed = [] → Q .normal a w) ∧
    ∀ i ∈ Region.ready md ops listed, wpOp P ops Q i (fun a' w' => (i ≠ z → S w') ∧ wpAnyG P md ops Q S z fuel (listed.setIfInBounds i true) a' w') a w
theorem wpAny_of_G : ∀ (fuel : Nat) (listed : Array Bool) (a : Act) (w : World), wpAnyG P md ops Q S z fuel listed a w → wpAny P md ops Q fuel listed a w
  | 0, _, _, _, h => h
  | fuel + 1, _, _, _, h => ⟨h.1, fun i hi => wpOp_mono (fun a' w' h' => wpAny_of_G fuel _ a' w' h'.2) (h.2 i hi)⟩
/-- Those that wait for i, each by one of them. -/
def waitSet (md : Region.Mode) (ops : Array Oper) (listed : Array Bool) (i : Nat) : List Nat :=
  (List.range ops.size).foldl (fun acc k => if (!listed.getD k true && ((ops[k]?).map fun o => o.after.any fun e => Region.binds md e && (e.on == i || acc.contains e.on)).getD false) = true then k :: acc else acc) []
def waitsOk (md : Region.Mode) (ops : Array Oper) (listed : Array Bool) (i z : Nat) (cs : List Nat) : Bool :=
  cs.contains z && cs.all fun k => !listed.getD k true && k != i && ((ops[k]?).map fun o => o.after.any fun e => Region.binds md e && (e.on == i || cs.contains e.on)).getD false
/-- They stand still while i does. -/
structure Waits (md : Region.Mode) (ops : Array Oper) (listed : Array Bool) (i z : Nat) (cs : List Nat) : Prop where
  has : z ∈ cs
  all : ∀ k ∈ cs, listed.getD k true = false ∧ k ≠ i ∧ ∃ o, ops[k]? = some o ∧ ∃ e ∈ o.after, Region.binds md e = true ∧ (e.on = i ∨ e.on ∈ cs)
theorem Waits.of {listed : Array Bool} {i : Nat} {cs : List Nat} (h : waitsOk md ops listed i z cs = true) : Waits md ops listed i z cs := by
  unfold waitsOk at h
  rw [Bool.and_eq_true] at h
  refine ⟨by simpa using h.1, fun k hk => ?_⟩
  have h1 := List.all_eq_true.1 h.2 k hk
  rw [Bool.and_eq_true, Bool.and_eq_true] at h1
  refine ⟨by simpa using h1.1.1, by simpa using h1.1.2, ?_⟩
  cases ho : ops[k]? with
  | none => rw [ho] at h1; exact absurd h1.2 (fun h => Bool.noConfusion h)
  | some o =>
    rw [ho] at h1
    have h2 : (o.after.any fun e => Region.binds md e && (e.on == i || cs.contains e.on)) = true := h1.2
    obtain ⟨e, he, hb⟩ := Array.any_eq_true'.1 h2
    rw [Bool.and_eq_true, Bool.or_eq_true] at hb
    exact ⟨o, rfl, e, he, hb.1, hb.2.imp (fun h => by simpa using h) (fun h => by simpa using h)⟩
theorem getD_false_true {listed : Array Bool} {k : Nat} (h : listed.getD k true = false) : listed.getD k false = false := by
  rcases Nat.lt_or_ge k listed.size with h' | h'
  · simp [h'] at h ⊢; exact h
  · simp [Array.getElem?_eq_none h'] at h
theorem Waits.not {listed : Array Bool} {i : Nat} {cs : List Nat} (H : Waits md ops listed i z cs) (hi : listed.getD i true = false) {j : Nat} (hj : j ∈ Region.ready md ops listed) : j ∉ cs := fun hc => by
  obtain ⟨-, -, o, ho, e, he, hb, hor⟩ := H.all j hc
  obtain ⟨-, o', ho', hall⟩ := mem_ready.1 hj
  rw [ho] at ho'
  cases ho'
  have h1 := hall e he hb
  have h2 : listed.getD e.on true = false := by
    rcases hor with h | h
    · rw [h]; exact hi
    · exact (H.all _ h).1
  rw [getD_false_true h2] at h1
  cases h1
theorem Waits.step {listed : Array Bool} {i : Nat} {cs : List Nat} (H : Waits md ops listed i z cs) {j : Nat} (hj : j ∉ cs) : Waits md ops (listed.setIfInBounds j true) i z cs :=
  ⟨H.has, fun k hk => by
    obtain ⟨h1, h2, h3⟩ := H.all k hk
    exact ⟨by rw [getD_set_ne true (fun e => hj (by rw [e]; exact hk))]; exact h1, h2, h3⟩⟩
theorem wpAnyG_first {i : Nat} {oi : Oper} {v : Value} (hi : ops[i]? = some oi) (hsel : ∀ (j : Nat) (o : Oper) cs b, ops[j]? = some o → o.op ≠ .select cs b)
    (hQ : ∀ c a w, Q (.panic c) (a.put oi.dst v) w → Q (.panic c) a w) (cs : List Nat) :
    ∀ (fuel : Nat) (listed : Array Bool) (a : Act) (w : World),
      (∀ j oj, ops[j]? = some oj → j ≠ i → listed.getD j true = false → (∀ e ∈ oj.after, Region.binds md e = true → e.on ≠ i) → oi.apart ops oj = true) →
      i ∈ Region.ready md ops listed → Waits md ops listed i z cs → YieldsIf P ops S oi v a → S w →
      wpAnyG P md ops Q S z fuel (listed.setIfInBounds i true) (a.put oi.dst v) w → wpAnyG P md ops Q S z (fuel + 1) listed a w := by
  intro fuel
  induction fuel with
  | zero =>
    intro listed a w _ hr _ hy hS H
    refine ⟨fun h => (by rw [h] at hr; cases hr), fun j hj => ?_⟩
    by_cases hji : j = i
    · subst hji; exact hy.wpOp hi hS ⟨fun _ => hS, H⟩
    · have := ready_mono hj hji
      rw [H.1] at this
      cases this
  | succ fuel ih =>
    intro listed a w hfree hr hW hy hS H
    refine ⟨fun h => (by rw [h] at hr; cases hr), fun j hj => ?_⟩
    by_cases hji : j = i
    · subst hji; exact hy.wpOp hi hS ⟨fun _ => hS, H⟩
    · have h1 := H.2 j (ready_mono hj hji)
      obtain ⟨hjun, oj, hoj, hall⟩ := mem_ready.1 hj
      have hnc := hW.not (mem_ready.1 hr).1 hj
      have hjz : j ≠ z := fun e => hnc (by rw [e]; exact hW.has)
      have hnot : ∀ e ∈ oj.after, Region.binds md e = true → e.on ≠ i := fun e he hb heq => by
        have h1 := hall e he hb
        have h0 := (mem_ready.1 hr).1
        rw [heq, getD_false_true h0] at h1
        cases h1
      have h2 := wpOp_putIf hoj (hfree j oj hoj hji hjun hnot) (fun cs b => hsel i oi cs b hi) (fun cs b => hsel j oj cs b hoj) hQ hy h1
      have hfree' : ∀ k ok, ops[k]? = some ok → k ≠ i → (listed.setIfInBounds j true).getD k true = false →
          (∀ e ∈ ok.after, Region.binds md e = true → e.on ≠ i) → oi.apart ops ok = true := fun k ok hk hki hun hno => by
        refine hfree k ok hk hki ?_ hno
        by_cases hjk : j = k
        · subst hjk; exact hjun
        · rw [getD_set_ne true hjk] at hun; exact hun
      refine wpOp_mono (fun a' w' h3 => ⟨h3.2.1, ih (listed.setIfInBounds j true) a' w' hfree' (ready_mono hr (Ne.symm hji)) (hW.step hnc) h3.1 (h3.2.1 hjz) ?_⟩) h2
      rw [Array.setIfInBounds_comm _ _ hji]
      exact h3.2.2
theorem wpAnyG_take {i : Nat} {oi : Oper} {v : Value} {fuel : Nat} {listed : Array Bool} {a : Act} {w : World} (hi' : ops.toList[i]? = some oi)
    (hs : Region.noSelect ops = true) (hf : (Region.free md ops listed i && (Region.ready md ops listed).contains i && waitsOk md ops listed i z (waitSet md ops listed i)) = true)
    (hQ : ∀ c a w, Q (.panic c) (a.put oi.dst v) w → Q (.panic c) a w) (hy : YieldsIf P ops S oi v a) (hS : S w)
    (h : wpAnyG P md ops Q S z fuel (listed.setIfInBounds i true) (a.put oi.dst v) w) : wpAnyG P md ops Q S z (fuel + 1) listed a w := by
  have hi : ops[i]? = some oi := by rw [← Array.getElem?_toList]; exact hi'
  rw [Bool.and_eq_true, Bool.and_eq_true] at hf
  exact wpAnyG_first hi (Region.noSelect_spec hs) hQ _ fuel listed a w (Region.free_spec hi hf.1.1) (by simpa using hf.1.2) (Waits.of hf.2) hy hS h
/-- The first, from a place on, that is not listed. -/
class Nxt (lo : Nat) (l : List Bool) (i : outParam Nat) : Prop where
  ok : True
instance Nxt.here (l : List Bool) : Nxt 0 (false :: l) 0 := ⟨trivial⟩
instance Nxt.on (l : List Bool) (i : Nat) [Nxt 0 l i] : Nxt 0 (true :: l) (i + 1) := ⟨trivial⟩
instance Nxt.past (lo : Nat) (b : Bool) (l : List Bool) (i : Nat) [Nxt lo l i] : Nxt (lo + 1) (b :: l) (i + 1) := ⟨trivial⟩
theorem tk (lo : Nat) {l : List Bool} {i : Nat} [Nxt lo l i] {oi : Oper} {v : Value} {fuel : Nat} {a : Act} {w : World} (hS : S w) (hy : ∀ w, S w → (execOp a.eval oi).run P w = .ok (.value v) w)
    (h : wpAnyG P md ops Q S z fuel (l.toArray.setIfInBounds i true) (a.put oi.dst v) w) (hi' : ops.toList[i]? = some oi := by rfl) (hs : Region.noSelect ops = true := by kernel_rfl)
    (hf : (Region.free md ops l.toArray i && (Region.ready md ops l.toArray).contains i && waitsOk md ops l.toArray i z (waitSet md ops l.toArray i)) = true := by kernel_rfl)
    (hQ : ∀ c a w, Q (.panic c) (a.put oi.dst v) w → Q (.panic c) a w := by exact fun _ _ _ h => h) (hw : Region.wanted oi (yielded ops a.tmps) = true := by rfl) : wpAnyG P md ops Q S z (fuel + 1) l.toArray a w :=
  wpAnyG_take hi' hs hf hQ (.inl ⟨hw, hy⟩) hS h
/-- The one that comes up. -/
theorem wpAnyG_one {i : Nat} {o : Oper} {fuel : Nat} {listed : Array Bool} {a : Act} {w : World} (ho' : ops.toList[i]? = some o) (hg : o.guard = none) (hr : Region.ready md ops listed = [i])
    (h : ∀ K : Act → World → Prop, Shut (∀ a w, (i ≠ z → S w) → wpAnyG P md ops Q S z fuel (listed.setIfInBounds i true) a w → K a w) → Oper.wp P o a w K Q) : wpAnyG P md ops Q S z (fuel + 1) listed a w := by
  have ho : ops[i]? = some o := by rw [← Array.getElem?_toList]; exact ho'
  refine ⟨fun h0 => (by rw [hr] at h0; cases h0), fun j hj => ?_⟩
  rw [hr, List.mem_singleton] at hj
  subst hj
  unfold wpOp
  rw [ho]
  show if Region.wanted o _ = true then _ else _
  rw [if_pos (by simp [Region.wanted, hg])]
  exact .inl (h _ (fun a w h1 h2 => ⟨h1, h2⟩))
theorem wpAnyG_done {listed : Array Bool} {a : Act} {w : World} (hr : Region.ready md ops listed = []) (h : Q .normal a w) : ∀ fuel, wpAnyG P md ops Q S z fuel listed a w
  | 0 => ⟨hr, h⟩
  | _ + 1 => ⟨fun _ => h, by rw [hr]; simp⟩
theorem wp_region_G {id : Nat} {a : Act} {w : World} (z : Nat) (S : World → Prop) (hm : P.follows .mixedOrders = true)
    (h : wpAnyG P .any ops Q S z ops.size (Array.replicate ops.size false) a w.drew) : (Code.region id ops true).wp P Q a w := wp_region_any hm (wpAny_of_G _ _ _ _ h)
theorem uA {α : Type} (l : List α) (i : Nat) (a : α) : l.toArray.setIfInBounds i a = (l.set i a).toArray := List.setIfInBounds_toArray ..
theorem uB {α : Type} (x a : α) (l : List α) : (x :: l).set 0 a = a :: l := rfl
theorem uC {α : Type} (x a : α) (l : List α) (n : Nat) : (x :: l).set (n + 1) a = x :: l.set n a := rfl
theorem on1 (i : Nat) {o : Oper} {fuel : Nat} {l : List Bool} {a : Act} {w : World} (h : ∀ K : Act → World → Prop, Shut (∀ a w, (i ≠ z → S w) → wpAnyG P md ops Q S z fuel (l.toArray.setIfInBounds i true) a w → K a w) → Oper.wp P o a w K Q) (ho' : ops.toList[i]? = some o := by rfl) (hg : o.guard = none := by rfl) (hr : Region.ready md ops l.toArray = [i] := by kernel_rfl) : wpAnyG P md ops Q S z (fuel + 1) l.toArray a w := wpAnyG_one ho' hg hr h
/-- The one that comes up, its guard true. -/
theorem on1w (i : Nat) {o : Oper} {fuel : Nat} {l : List Bool} {a : Act} {w : World} (h : ∀ K : Act → World → Prop, Shut (∀ a w, (i ≠ z → S w) → wpAnyG P md ops Q S z fuel (l.toArray.setIfInBounds i true) a w → K a w) → Oper.wp P o a w K Q) (ho' : ops.toList[i]? = some o := by rfl) (hw : Region.wanted o (yielded ops a.tmps) = true := by rfl) (hr : Region.ready md ops l.toArray = [i] := by kernel_rfl) : wpAnyG P md ops Q S z (fuel + 1) l.toArray a w := by
  have ho : ops[i]? = some o := by rw [← Array.getElem?_toList]; exact ho'
  refine ⟨fun h0 => (by rw [hr] at h0; cases h0), fun j hj => ?_⟩
  rw [hr, List.mem_singleton] at hj
  subst hj
  unfold wpOp
  rw [ho]
  show if Region.wanted o _ = true then _ else _
  rw [if_pos hw]
  exact .inl (h _ (fun a w h1 h2 => ⟨h1, h2⟩))
theorem lst {K : Act → World → Prop} {fuel : Nat} {l : List Bool} {a : Act} {w : World} (hK : Shut (∀ a w, (z ≠ z → S w) → wpAnyG P md ops (NoPanic Q) S z fuel (l.toArray.setIfInBounds z true) a w → K a w)) (h : Q .normal a w) (hr : Region.ready md ops (l.toArray.setIfInBounds z true) = [] := by kernel_rfl) : K a w := hK.out _ _ (fun h => absurd rfl h) (wpAnyG_done hr (NoPanic.normal h) _)
theorem wp_region_L {id : Nat} {a : Act} {w : World} (z : Nat) (S : World → Prop) (l : List Bool) (h : wpAnyG P .any ops (NoPanic Q) S z l.length l.toArray a w.drew) (hm : P.follows .mixedOrders = true := by kernel_rfl) (hl : List.replicate ops.size false = l := by rfl) : (Code.region id ops true).wp P Q a w := by
  subst hl
  rw [List.length_replicate, List.toArray_replicate] at h
  exact wp_region_noPanic (wp_region_G z S hm h)
end
end Go.Proofs.YtiamgnfbgiognaaGreatDoor
