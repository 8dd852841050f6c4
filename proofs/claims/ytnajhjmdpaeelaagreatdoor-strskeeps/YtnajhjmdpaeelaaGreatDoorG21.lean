/- Texts that the others stand on. -/
import Derived.Test.YtnajhjmdpaeelaaGreatDoorG12
import Derived.Test.YtnajhjmdpaeelaaGreatDoorG20
import Derived.Deep.RegionHeld3
namespace Go.Proofs.YtnajhjmdpaeelaaGreatDoor.Sq
open Go.RowKit Go.PlainAid
open Dk (ptr below_drewN alloc_below step_below add_flat OwnR OwnP OwnS Mv pcells Elt elt_of)
abbrev adr (p : Nat) : Option Addr := some ⟨p, 0, none⟩
/-- The keys, each with its item. -/
def kents (L : List Nat) (I : Nat → Itm) : List Dk.En := L.map fun p => ((I p).k, adr p)
/-- The types of a space's blocks. -/
def stag (t : TypeId) : Bool := qtag t || Dk.dtag t || Zs.Dk.dtag t
theorem stag_q : ∀ t, qtag t = true → stag t = true := fun t h => by unfold stag; rw [h]; rfl
theorem stag_d : ∀ t, Dk.dtag t = true → stag t = true := fun t h => by unfold stag; rw [h, Bool.or_true]; rfl
theorem stag_e : ∀ t, Zs.Dk.dtag t = true → stag t = true := fun t h => by unfold stag; rw [h, Bool.or_true]
theorem q_d : ∀ t, qtag t = true → Dk.dtag t = false := by
  intro t h
  unfold qtag at h
  simp only [Bool.or_eq_true, beq_iff_eq] at h
  rcases h with (rfl | rfl) | rfl <;> rfl
theorem q_e : ∀ t, qtag t = true → Zs.Dk.dtag t = false := by
  intro t h
  unfold qtag at h
  simp only [Bool.or_eq_true, beq_iff_eq] at h
  rcases h with (rfl | rfl) | rfl <;> rfl
theorem d_q : ∀ t, Dk.dtag t = true → qtag t = false := by
  intro t h
  unfold Dk.dtag at h
  simp only [Bool.or_eq_true, beq_iff_eq] at h
  rcases h with ((((rfl | rfl) | rfl) | rfl) | rfl) | rfl <;> rfl
theorem e_q : ∀ t, Zs.Dk.dtag t = true → qtag t = false := by
  intro t h
  unfold Zs.Dk.dtag at h
  simp only [Bool.or_eq_true, beq_iff_eq] at h
  rcases h with ((((rfl | rfl) | rfl) | rfl) | rfl) | rfl <;> rfl
theorem d_e : ∀ t, Dk.dtag t = true → Zs.Dk.dtag t = false := by
  intro t h
  unfold Dk.dtag at h
  simp only [Bool.or_eq_true, beq_iff_eq] at h
  rcases h with ((((rfl | rfl) | rfl) | rfl) | rfl) | rfl <;> rfl
theorem e_d : ∀ t, Zs.Dk.dtag t = true → Dk.dtag t = false := by
  intro t h
  unfold Zs.Dk.dtag at h
  simp only [Bool.or_eq_true, beq_iff_eq] at h
  rcases h with ((((rfl | rfl) | rfl) | rfl) | rfl) | rfl <;> rfl
theorem toE {p : TypeId → Bool} {w w' : World} (h : Dk.Mv p w w') : Zs.Dk.Mv p w w' := ⟨h.os, h.tape, h.output, h.size, h.block⟩
theorem ofE {p : TypeId → Bool} {w w' : World} (h : Zs.Dk.Mv p w w') : Dk.Mv p w w' := ⟨h.os, h.tape, h.output, h.size, h.block⟩
/-- A space, with all its parts. -/
structure Sx (w : World) (B : Own) (s x : Nat) (NM : List ByteArray) (L : List Nat) (I : Nat → Itm) (Q : List Nat) (V : ByteArray → Int) (S : Sd) (P : Nat → Int) (D : Dk.Dg) (D2 : Zs.Dk.Dg) : Prop where
  sx : S.x = x
  qs : Qs w B s S L I P Q
  kd : Dk.Dct w 0 S.d x D
  vd : Zs.Dk.Dct w 0 S.v x D2
  kf : ∀ k ∈ D.fp S.d, B k
  vf : ∀ k ∈ D2.fp S.v, B k
  up : Up B w
  kp : D.es.Perm (kents L I)
  vp : ∀ k, Zs.Dk.getE D2.es k = V k
  vn : ∀ e ∈ D2.es, e.1 ∈ NM
  key : ∀ p ∈ L, (I p).k ∈ NM
  nm : NM.length ≤ 1000
  sz : ∀ k ∈ NM, k.size ≤ 4096
/-- A space: its items, who of them stands in the queue, how often each key was changed. -/
def In (w : World) (B : Own) (s x : Nat) (NM : List ByteArray) (L : List Nat) (I : Nat → Itm) (Q : List Nat) (V : ByteArray → Int) : Prop := ∃ S P D D2, Sx w B s x NM L I Q V S P D D2
theorem keys_kents (L : List Nat) (I : Nat → Itm) : Dk.keysOf (kents L I) = L.map fun p => (I p).k := by unfold Dk.keysOf kents; rw [List.map_map]; rfl
theorem len_subB {Q L : List ByteArray} (hn : Q.Nodup) (hs : ∀ p ∈ Q, p ∈ L) : Q.length ≤ L.length := by
  induction Q generalizing L with
  | nil => exact Nat.zero_le _
  | cons q Q ih =>
    rw [List.nodup_cons] at hn
    have h1 : ∀ p ∈ Q, p ∈ L.filter (fun r => decide (r ≠ q)) := fun p hp => List.mem_filter.2 ⟨hs p (List.mem_cons_of_mem _ hp), decide_eq_true (fun e => hn.1 (by rw [← e]; exact hp))⟩
    have h2 := ih hn.2 h1
    have h3 : (L.filter (fun r => decide (r ≠ q))).length < L.length := by
      have hq := hs q (by simp)
      obtain ⟨a, c, e⟩ := List.append_of_mem hq
      rw [e, List.filter_append, List.filter_cons_of_neg (by simp), List.length_append, List.length_append, List.length_cons]
      have := List.length_filter_le (fun r => decide (r ≠ q)) a
      have := List.length_filter_le (fun r => decide (r ≠ q)) c
      omega
    rw [List.length_cons]
    omega
section
variable {w : World} {B : Own} {s x : Nat} {NM : List ByteArray} {L : List Nat} {I : Nat → Itm} {Q : List Nat} {V : ByteArray → Int} {S : Sd} {P : Nat → Int} {D : Dk.Dg} {D2 : Zs.Dk.Dg}
theorem Sx.nodk (H : Sx w B s x NM L I Q V S P D D2) : (L.map fun p => (I p).k).Nodup := by
  have := (H.kp.map (·.1)).nodup_iff.1 H.kd.nodk
  rw [← keys_kents]
  exact this
theorem Sx.inj (H : Sx w B s x NM L I Q V S P D D2) {p q : Nat} (hp : p ∈ L) (hq : q ∈ L) (e : (I p).k = (I q).k) : p = q := by
  have hn := H.nodk
  clear H
  induction L with
  | nil => cases hp
  | cons a L ih =>
    rw [List.map_cons, List.nodup_cons] at hn
    rcases List.mem_cons.1 hp with e1 | h1
    · rcases List.mem_cons.1 hq with e2 | h2
      · rw [e1, e2]
      · rw [e1] at e
        exact absurd (List.mem_map.2 ⟨q, h2, e.symm⟩) hn.1
    · rcases List.mem_cons.1 hq with e2 | h2
      · rw [e2] at e
        exact absurd (List.mem_map.2 ⟨p, h1, e⟩) hn.1
      · exact ih h1 h2 hn.2
theorem Sx.few (H : Sx w B s x NM L I Q V S P D D2) : L.length ≤ 1000 := by
  have h1 := len_subB H.nodk (fun k hk => by obtain ⟨p, hp, rfl⟩ := List.mem_map.1 hk; exact H.key p hp)
  rw [List.length_map] at h1
  exact Nat.le_trans h1 H.nm
theorem Sx.few2 (H : Sx w B s x NM L I Q V S P D D2) : D2.es.length ≤ 1000 := by
  have h1 := len_subB H.vd.nodk (fun k hk => by obtain ⟨p, hp, rfl⟩ := List.mem_map.1 hk; exact H.vn p hp)
  rw [List.length_map] at h1
  exact Nat.le_trans h1 H.nm
theorem Sx.len (H : Sx w B s x NM L I Q V S P D D2) : D.es.length = L.length := by rw [H.kp.length_eq]; exact List.length_map ..
theorem Sx.lt (H : Sx w B s x NM L I Q V S P D D2) : s < w.heap.size := by
  obtain ⟨a, c, h1, -⟩ := H.qs.ex
  exact (Array.getElem?_eq_some_iff.1 h1).1
theorem Sx.cd (H : Sx w B s x NM L I Q V S P D D2) : w.cell? ⟨s, 3, none⟩ = some (ptr S.d) := by
  obtain ⟨a, c, h1, -⟩ := H.qs.ex
  simp [World.cell?, h1]
theorem Sx.cv (H : Sx w B s x NM L I Q V S P D D2) : w.cell? ⟨s, 5, none⟩ = some (ptr S.v) := by
  obtain ⟨a, c, h1, -⟩ := H.qs.ex
  simp [World.cell?, h1]
theorem Sx.mx (H : Sx w B s x NM L I Q V S P D D2) {k : ByteArray} (hk : k ∈ NM) : k.size ≤ maxLen := by
  have := H.sz k hk
  unfold maxLen
  omega
/-- Blocks that are not the space's may be turned. -/
theorem Sx.mv (H : Sx w B s x NM L I Q V S P D D2) {w' : World} {t : TypeId → Bool} (hm : Mv t w w') (ht : ∀ k, stag k = true → t k = false) : Sx w' B s x NM L I Q V S P D D2 :=
  ⟨H.sx, H.qs.mv hm (fun k hk => ht k (stag_q k hk)), H.kd.mv hm (fun k hk => ht k (stag_d k hk)), H.vd.mv (toE hm) (fun k hk => ht k (stag_e k hk)), H.kf, H.vf, H.up.mono hm.size, H.kp, H.vp, H.vn, H.key, H.nm, H.sz⟩
theorem Sx.keep (H : Sx w B s x NM L I Q V S P D D2) {w' : World} (hb : Below w.heap.size w w') : Sx w' B s x NM L I Q V S P D D2 := H.mv (t := fun _ => false) (Mv.of_below hb) (fun _ _ => rfl)
/-- A key that is there, by the dict. -/
theorem Sx.found (H : Sx w B s x NM L I Q V S P D D2) {p : Nat} (hp : p ∈ L) : Dk.getE D.es (I p).k = adr p ∧ Dk.hasK D.es (I p).k = true := by
  have hm : ((I p).k, adr p) ∈ D.es := H.kp.mem_iff.2 (List.mem_map.2 ⟨p, hp, rfl⟩)
  exact ⟨Dk.getE_mem H.kd.nodk hm, Dk.hasK_iff.2 (List.mem_map.2 ⟨_, hm, rfl⟩)⟩
theorem Sx.lacks (H : Sx w B s x NM L I Q V S P D D2) {k : ByteArray} (h : ∀ p ∈ L, (I p).k ≠ k) : Dk.getE D.es k = none ∧ Dk.hasK D.es k = false := by
  have hn : k ∉ Dk.keysOf D.es := fun hm => by
    have := (H.kp.map (·.1)).mem_iff.1 hm
    have e : (kents L I).map (·.1) = L.map fun p => (I p).k := keys_kents L I
    rw [e] at this
    obtain ⟨p, hp, e⟩ := List.mem_map.1 this
    exact h p hp e
  exact ⟨Dk.getE_none hn, Dk.hasK_no hn⟩
theorem In.mv (H : In w B s x NM L I Q V) {w' : World} {t : TypeId → Bool} (hm : Mv t w w') (ht : ∀ k, stag k = true → t k = false) : In w' B s x NM L I Q V := by
  obtain ⟨S, P, D, D2, H⟩ := H
  exact ⟨S, P, D, D2, H.mv hm ht⟩
theorem In.keep (H : In w B s x NM L I Q V) {w' : World} (hb : Below w.heap.size w w') : In w' B s x NM L I Q V := H.mv (t := fun _ => false) (Mv.of_below hb) (fun _ _ => rfl)
/-- Blocks that are none of the space's may be turned; what is its own may be less. -/
theorem Sx.off (H : Sx w B s x NM L I Q V S P D D2) {w' : World} {C B' : Own} (hm : Bel C w w') (hd : ∀ k, k < w.heap.size → B k → ¬ C k) (hB : ∀ k, k < w.heap.size → B k → B' k) (hup : Up B' w') : Sx w' B' s x NM L I Q V S P D D2 := by
  have hk : ∀ k, k < w.heap.size → B k → w'.heap[k]? = w.heap[k]? := fun k hk hb => hm.block k hk (hd k hk hb)
  have hlt := H.lt
  obtain ⟨a, c, h1, h2, h3⟩ := H.qs.ex
  have hst : ∀ M : List Nat, (∀ k ∈ M, B k ∧ k < w.heap.size) → ∃ M' : List Nat, (∀ k, k < w.heap.size → k ∉ M' → w'.heap[k]? = w.heap[k]?) ∧ ∀ k ∈ M, k ∉ M' := fun M hM =>
    ⟨(List.range w.heap.size).filter (fun k => decide (k ∉ M)), fun k hk hn => by
      by_cases hkM : k ∈ M
      · exact hm.block k hk (hd k hk (hM k hkM).1)
      · exact absurd (List.mem_filter.2 ⟨List.mem_range.2 hk, decide_eq_true hkM⟩) hn, fun k hk hn => (of_decide_eq_true (List.mem_filter.1 hn).2) hk⟩
  obtain ⟨M1, k1, k2⟩ := hst (D.fp S.d) (fun k hk => ⟨H.kf k hk, (H.kd.fplt k hk).2⟩)
  obtain ⟨M2, k3, k4⟩ := hst (D2.fp S.v) (fun k hk => ⟨H.vf k hk, (H.vd.fplt k hk).2⟩)
  refine ⟨H.sx, ⟨⟨a, c, by rw [hk s hlt H.qs.low]; exact h1, OwnR.kept h2 (fun k hk' => hk k (OwnR.lt h2 hk').2.1 (h3 k hk')), fun k hk' => hB k (OwnR.lt h2 hk').2.1 (h3 k hk')⟩, fun p hp => ⟨hB p (H.qs.its.lt hp) (H.qs.its p hp).1, by rw [hk p (H.qs.its.lt hp) (H.qs.its p hp).1]; exact (H.qs.its p hp).2⟩, H.qs.sub, H.qs.plc, H.qs.ord, H.qs.out, H.qs.nod, hB s hlt H.qs.low, H.qs.few⟩, H.kd.stay (M := M1) ⟨hm.os, hm.tape, hm.output, hm.size, k1⟩ k2, H.vd.stay (M := M2) ⟨hm.os, hm.tape, hm.output, hm.size, k3⟩ k4, fun k hk' => hB k (H.kd.fplt k hk').2 (H.kf k hk'), fun k hk' => hB k (H.vd.fplt k hk').2 (H.vf k hk'), hup, H.kp, H.vp, H.vn, H.key, H.nm, H.sz⟩
end
/-- What is told of keys: of one that is there its value and its expiry. -/
abbrev AbV (α : Type) := ByteArray → Option (α × Option Int)
abbrev Ab := AbV (Option Addr)
structure Rep (L : List Nat) (I : Nat → Itm) (Q : List Nat) (A : Ab) : Prop where
  yes : ∀ p ∈ L, A (I p).k = some ((I p).v, if p ∈ Q then some (I p).u else none)
  no : ∀ k y, A k = some y → ∃ p ∈ L, (I p).k = k
def setA {α : Type} (A : AbV α) (k : ByteArray) (y : Option (α × Option Int)) : AbV α := fun j => if j = k then y else A j
def incV (V : ByteArray → Int) (k : ByteArray) : ByteArray → Int := fun j => if j = k then V j + 1 else V j
def dueA {α : Type} (A : AbV α) (t : Int) : AbV α := fun k => match A k with
  | some (v, some e) => if e ≤ t then none else some (v, some e)
  | r => r
def dueV {α : Type} (A : AbV α) (V : ByteArray → Int) (t : Int) : ByteArray → Int := fun k => match A k with
  | some (_, some e) => if e ≤ t then V k + 1 else V k
  | _ => V k
/-- No time has come. -/
def Still {α : Type} (A : AbV α) (t : Int) : Prop := ∀ k v e, A k = some (v, some e) → t < e
theorem Still.due {α : Type} {A : AbV α} {t : Int} (h : Still A t) : dueA A t = A := by
  funext k
  unfold dueA
  split
  · rename_i v e he
    rw [if_neg (by have := h k v e he; omega), he]
  · rfl
theorem Still.dueV {α : Type} {A : AbV α} {t : Int} (h : Still A t) (V : ByteArray → Int) : dueV A V t = V := by
  funext k
  unfold Sq.dueV
  split
  · rename_i v e he
    rw [if_neg (by have := h k v e he; omega)]
  · rfl
theorem dueA_still {α : Type} (A : AbV α) (t : Int) : Still (dueA A t) t := by
  intro k v e h
  unfold dueA at h
  split at h
  · rename_i v' e' he
    split at h
    · cases h
    · injection h with h
      injection h with h1 h2
      injection h2 with h2
      omega
  · rename_i h1
    exact absurd h (h1 v e)
theorem dueV_le {α : Type} (A : AbV α) (V : ByteArray → Int) (t : Int) (k : ByteArray) : V k ≤ dueV A V t k ∧ dueV A V t k ≤ V k + 1 := by
  unfold dueV
  split
  · split <;> omega
  · omega
/-- A space by what is told of it. -/
def Spc (w : World) (B : Own) (s x : Nat) (NM : List ByteArray) (A : Ab) (V : ByteArray → Int) : Prop := ∃ L I Q, In w B s x NM L I Q V ∧ Rep L I Q A
theorem Spc.mv {w w' : World} {B : Own} {s x : Nat} {NM : List ByteArray} {A : Ab} {V : ByteArray → Int} (h : Spc w B s x NM A V) {t : TypeId → Bool} (hm : Mv t w w') (ht : ∀ k, stag k = true → t k = false) : Spc w' B s x NM A V := by
  obtain ⟨L, I, Q, h1, h2⟩ := h
  exact ⟨L, I, Q, h1.mv hm ht, h2⟩
theorem Spc.keep {w w' : World} {B : Own} {s x : Nat} {NM : List ByteArray} {A : Ab} {V : ByteArray → Int} (h : Spc w B s x NM A V) (hb : Below w.heap.size w w') : Spc w' B s x NM A V := by
  obtain ⟨L, I, Q, h1, h2⟩ := h
  exact ⟨L, I, Q, h1.keep hb, h2⟩
theorem Spc.off {w w' : World} {B C B' : Own} {s x : Nat} {NM : List ByteArray} {A : Ab} {V : ByteArray → Int} (h : Spc w B s x NM A V) (hm : Bel C w w') (hd : ∀ k, k < w.heap.size → B k → ¬ C k) (hB : ∀ k, k < w.heap.size → B k → B' k) (hup : Up B' w') : Spc w' B' s x NM A V := by
  obtain ⟨L, I, Q, ⟨S, P, D, D2, h1⟩, h2⟩ := h
  exact ⟨L, I, Q, ⟨S, P, D, D2, h1.off hm hd hB hup⟩, h2⟩
theorem Spc.up {w : World} {B : Own} {s x : Nat} {NM : List ByteArray} {A : Ab} {V : ByteArray → Int} (h : Spc w B s x NM A V) : Up B w := by
  obtain ⟨L, I, Q, ⟨S, P, D, D2, h1⟩, h2⟩ := h
  exact h1.up
/-- What a call leaves. -/
structure To (w w' : World) (B : Own) (s x : Nat) (NM : List ByteArray) (A : Ab) (V : ByteArray → Int) : Prop where
  mb : Mb stag B w w'
  spc : Spc w' B s x NM A V
theorem getE_put {es : List Zs.Dk.En} (hn : (Zs.Dk.keysOf es).Nodup) (k j : ByteArray) (v : Int) : Zs.Dk.getE (Zs.Dk.putE es k v) j = if j = k then v else Zs.Dk.getE es j := by
  by_cases hk : k ∈ Zs.Dk.keysOf es
  · obtain ⟨a, u, c, rfl⟩ := Zs.Dk.key_split hk
    rw [Zs.Dk.putE_old hn]
    obtain ⟨h1, h2⟩ := Zs.Dk.not_of_nodup hn
    have ha : a.find? (fun e => decide (e.1 = k)) = none := List.find?_eq_none.2 (fun e he hd => h1 (List.mem_map.2 ⟨e, he, of_decide_eq_true hd⟩))
    unfold Zs.Dk.getE
    rw [List.find?_append, List.find?_append]
    by_cases hj : j = k
    · subst hj
      rw [ha, if_pos rfl]
      simp
    · rw [if_neg hj]
      simp [Ne.symm hj]
  · unfold Zs.Dk.putE
    rw [if_neg (by rw [Zs.Dk.hasK_no hk]; decide)]
    by_cases hj : j = k
    · subst hj
      rw [if_pos rfl]
      have ha : es.find? (fun e => decide (e.1 = j)) = none := List.find?_eq_none.2 (fun e he hd => hk (List.mem_map.2 ⟨e, he, of_decide_eq_true hd⟩))
      unfold Zs.Dk.getE
      rw [List.find?_append, ha]
      simp
    · rw [if_neg hj]
      unfold Zs.Dk.getE
      rw [List.find?_append]
      simp [Ne.symm hj]
theorem mem_put {es : List Zs.Dk.En} {k : ByteArray} {v : Int} {e : Zs.Dk.En} (h : e ∈ Zs.Dk.putE es k v) : e.1 = k ∨ e ∈ es := by
  unfold Zs.Dk.putE at h
  split at h
  · obtain ⟨e', he, rfl⟩ := List.mem_map.1 h
    by_cases hk : e'.1 = k
    · rw [if_pos hk]; exact .inl rfl
    · rw [if_neg hk]; exact .inr he
  · rcases List.mem_append.1 h with h | h
    · exact .inr h
    · rw [List.mem_singleton] at h
      rw [h]; exact .inl rfl
section
variable {w : World} {B : Own} {s x : Nat} {NM : List ByteArray} {L : List Nat} {I : Nat → Itm} {Q : List Nat} {V : ByteArray → Int} {S : Sd} {P : Nat → Int} {D : Dk.Dg} {D2 : Zs.Dk.Dg}
theorem Sx.turnV (H : Sx w B s x NM L I Q V S P D D2) {w' : World} {D3 : Zs.Dk.Dg} (hT : Zs.Dk.Turn w w' 0 S.v x D2 D3) {k : ByteArray} (hk : k ∈ NM) (hp : D3.es.Perm (Zs.Dk.putE D2.es k (V k + 1))) : Sx w' B s x NM L I Q (incV V k) S P D D3 ∧ Mb stag B w w' := by
  have hm := hT.mv H.vd
  have hm' := ofE hm
  refine ⟨⟨H.sx, H.qs.mv hm' q_e, H.kd.mv hm' d_e, hT.dct, H.kf, fun k hk => (hT.fps k hk).elim (H.vf k) (H.up k), H.up.mono hm.size, H.kp, fun j => ?_, fun e he => ?_, H.key, H.nm, H.sz⟩, Mb.mono ⟨hm', hT.stay.os, hT.stay.tape, hT.stay.output, hT.stay.size, fun k hk hn => hT.stay.block k hk (fun h => hn (H.vf k h))⟩ stag_e⟩
  · rw [Zs.Dk.getE_perm hp hT.dct.nodk, getE_put H.vd.nodk, H.vp]
    unfold incV
    by_cases hj : j = k
    · rw [if_pos hj, if_pos hj, hj]
    · rw [if_neg hj, if_neg hj]
  · rcases mem_put (hp.mem_iff.1 he) with h | h
    · rw [h]; exact hk
    · exact H.vn e h
end
theorem change_any (w : World) (B : Own) (s x : Nat) (NM : List ByteArray) (L : List Nat) (I : Nat → Itm) (Q : List Nat) (V : ByteArray → Int) (hI : In w B s x NM L I Q V) (k : ByteArray) (hk : k ∈ NM) (hv : 0 ≤ V k ∧ V k < 4611686018427387904) :
    Calls Tryz.prog 39 #[ptr s, .string k] w fun e w' => e = .returned (.tuple #[]) ∧ Mb stag B w w' ∧ In w' B s x NM L I Q (incV V k) := by
  obtain ⟨S, P, D, D2, hX⟩ := hI
  have HX : Hid (Sx w B s x NM L I Q V S P D D2) := hX
  have c5 := hX.cv
  have HG := Zs.Dk.GetD 0 S.v x D2 k w hX.vd (hX.mx hk)
  rw [hX.vp k] at HG
  clear hX
  obtain ⟨n, hn⟩ : ∃ n, V k = n := ⟨_, rfl⟩
  rw [hn] at HG hv
  have HN : Hid (V k = n) := hn
  clear hn
  have h1 := hv.1
  have h2 := hv.2
  clear hv
  go_enter Tryz.func39, Tryz.ntmps39
  go_wp2_with fail
  refine HG.mono ?_
  rintro e w1 ⟨rfl, hb⟩
  have hX1 := HX.out.keep hb
  have HM1 : Hid (Mb stag B w w1) := Mb.of_below hb
  have c5' := hX1.cv
  have HP := Zs.Dk.PutD 0 S.v x D2 k (n + 1) w1 hX1.vd (hX1.mx hk) (by have := hX1.few2; omega)
  have HX1 : Hid (Sx w1 B s x NM L I Q V S P D D2) := hX1
  clear hX1 hb c5 HG
  go_wp2_with fail
  refine HP.mono ?_
  rintro e w2 ⟨rfl, D3, hT, hp⟩
  have HE : Hid (Mb stag B w w2 ∧ In w2 B s x NM L I Q (incV V k)) := by
    obtain ⟨k1, k2⟩ := HX1.out.turnV hT hk (by rw [HN.out]; exact hp)
    exact ⟨HM1.out.trans k2, S, P, D, D3, k1⟩
  clear hT hp HP c5'
  go_wp2
  go_end0
  exact ⟨rfl, HE.out⟩
theorem kents_same {L : List Nat} {I J : Nat → Itm} (h : ∀ p ∈ L, (J p).k = (I p).k) : kents L J = kents L I := List.map_congr_left fun p hp => by rw [h p hp]
section
variable {w w' : World} {B : Own} {s x : Nat} {NM : List ByteArray} {L : List Nat} {I : Nat → Itm} {Q : List Nat} {V : ByteArray → Int} {S : Sd} {P : Nat → Int} {D : Dk.Dg} {D2 : Zs.Dk.Dg}
/-- The queue was turned. -/
theorem Sx.queue (H : Sx w B s x NM L I Q V S P D D2) (hm : Mb qtag B w w') {J : Nat → Itm} {P' : Nat → Int} {Q' : List Nat} (hq : Qs w' B s S L J P' Q') (hk : ∀ p ∈ L, (J p).k = (I p).k) : Sx w' B s x NM L J Q' V S P' D D2 :=
  ⟨H.sx, hq, H.kd.mv hm.mv d_q, H.vd.mv (toE hm.mv) e_q, H.kf, H.vf, H.up.mono hm.mv.size, by rw [kents_same hk]; exact H.kp, H.vp, H.vn, fun p hp => by rw [hk p hp]; exact H.key p hp, H.nm, H.sz⟩
theorem kents_erase {p : Nat} (hp : p ∈ L) : (kents L I).Perm (((I p).k, adr p) :: kents (L.erase p) I) := (List.perm_cons_erase hp).map _
/-- A key was deleted. -/
theorem Sx.del (H : Sx w B s x NM L I Q V S P D D2) {D' : Dk.Dg} (hT : Dk.Turn w w' 0 S.d x D D') {p : Nat} (hp : p ∈ L) (hq : p ∉ Q) (hd : D'.es.Perm (Dk.delE D.es (I p).k)) : Sx w' B s x NM (L.erase p) I Q V S P D' D2 ∧ Mb stag B w w' := by
  have hm := hT.mv H.kd
  have h1 : D.es.Perm (((I p).k, adr p) :: kents (L.erase p) I) := H.kp.trans (kents_erase hp)
  have hn : (Dk.keysOf ([] ++ ((I p).k, adr p) :: kents (L.erase p) I)).Nodup := (h1.map (·.1)).nodup_iff.1 H.kd.nodk
  have h2 := Dk.delE_perm h1 (I p).k
  have h3 := Dk.delE_old hn
  rw [List.nil_append] at h3
  rw [h3] at h2
  exact ⟨⟨H.sx, (H.qs.mv hm q_d).less hq, hT.dct, H.vd.mv (toE hm) e_d, fun k hk => (hT.fps k hk).elim (H.kf k) (H.up k), H.vf, H.up.mono hm.size, hd.trans h2, H.vp, H.vn, fun q h => H.key q (List.mem_of_mem_erase h), H.nm, H.sz⟩, Mb.mono ⟨hm, hT.stay.os, hT.stay.tape, hT.stay.output, hT.stay.size, fun k hk hn => hT.stay.block k hk (fun h => hn (H.kf k h))⟩ stag_d⟩
/-- A new item's key was put. -/
theorem Sx.put (H : Sx w B s x NM L I Q V S P D D2) {w0 : World} {p : Nat} (hm0 : Below w.heap.size w w0) {i : Itm} (hq : Qs w0 B s S (p :: L) (upd I p i) (upd P p (-1)) Q) (hpL : p ∉ L) {D' : Dk.Dg} (hT : Dk.Turn w0 w' 0 S.d x D D') (hk : i.k ∈ NM) (hn : ∀ q ∈ L, (I q).k ≠ i.k) (hd : D'.es.Perm (Dk.putE D.es i.k (adr p))) : Sx w' B s x NM (p :: L) (upd I p i) Q V S (upd P p (-1)) D' D2 ∧ Mb stag B w w' := by
  have hD0 := H.kd.keep hm0
  have hm := hT.mv hD0
  have hk1 : kents L (upd I p i) = kents L I := kents_same fun q hq => by rw [upd_ne _ _ (fun e => hpL (by rw [← e]; exact hq))]
  have hnk : Dk.hasK D.es i.k = false := (H.lacks hn).2
  refine ⟨⟨H.sx, hq.mv hm q_d, hT.dct, (H.vd.keep hm0).mv (toE hm) e_d, fun k hk => (hT.fps k hk).elim (H.kf k) (H.up.mono hm0.size k), H.vf, H.up.mono (Nat.le_trans hm0.size hm.size), ?_, H.vp, H.vn, fun q hq => ?_, H.nm, H.sz⟩, (Mb.of_below hm0).trans (Mb.mono ⟨hm, hT.stay.os, hT.stay.tape, hT.stay.output, hT.stay.size, fun k hk hn => hT.stay.block k hk (fun h => hn (H.kf k h))⟩ stag_d)⟩
  · unfold Dk.putE at hd
    rw [if_neg (by rw [hnk]; decide)] at hd
    refine hd.trans ?_
    have e : kents (p :: L) (upd I p i) = (i.k, adr p) :: kents L I := by rw [← hk1]; unfold kents; rw [List.map_cons, upd_eq]
    rw [e]
    exact (List.perm_append_singleton _ _).trans (List.Perm.cons _ H.kp)
  · rcases List.mem_cons.1 hq with rfl | h
    · rw [upd_eq]; exact hk
    · rw [upd_ne _ _ (fun e => hpL (by rw [← e]; exact h))]; exact H.key q h
end
/-- What take leaves. -/
def TakeTo (w w' : World) (B : Own) (s x : Nat) (NM : List ByteArray) (L : List Nat) (I : Nat → Itm) (Q : List Nat) (V : ByteArray → Int) (p : Nat) : Prop :=
  Mb stag B w w' ∧ ∃ Q', In w' B s x NM (L.erase p) I Q' (incV V (I p).k) ∧ ∀ q, q ∈ Q' ↔ q ≠ p ∧ q ∈ Q
set_option maxRecDepth 100000 in
theorem take_any (w : World) (B : Own) (s x : Nat) (NM : List ByteArray) (L : List Nat) (I : Nat → Itm) (Q : List Nat) (V : ByteArray → Int) (hI : In w B s x NM L I Q V) (p : Nat) (hp : p ∈ L) (hv : ∀ k, 0 ≤ V k ∧ V k < 4611686018427387904) :
    Calls Tryz.prog 36 #[ptr s, ptr p] w fun e w' => e = .returned (.tuple #[]) ∧ TakeTo w w' B s x NM L I Q V p := by
  obtain ⟨S, P, D, D2, hX⟩ := hI
  have HX : Hid (Sx w B s x NM L I Q V S P D D2) := hX
  have HD := drop_any w B s S L I P Q hX.qs p hp
  clear hX
  go_enter Tryz.func36, Tryz.ntmps36
  go_wp2_with fail
  refine HD.mono ?_
  rintro e w1 ⟨rfl, hm1, P', Q', hq1, hmem⟩
  have HX1 : Hid (Sx w1.drew B s x NM L I Q' V S P' D D2) := (HX.out.queue hm1 hq1 (fun _ _ => rfl)).keep (below_drewN w1 1)
  have HM1 : Hid (Mb stag B w w1.drew) := (Mb.mono hm1 stag_q).trans (Mb.of_below (below_drewN w1 1))
  have HMem : Hid (∀ q, q ∈ Q' ↔ q ≠ p ∧ q ∈ Q) := hmem
  have c3 := HX1.out.cd
  have c0 := HX1.out.qs.its.ck hp
  have HDel := Dk.DelD 0 S.d x D (I p).k w1.drew HX1.out.kd (HX1.out.mx (HX1.out.key p hp))
  clear hm1 hq1 hmem HD
  go_upto_region 1 with fail
  go_region_with (first
    | (go_at_call 81; refine HDel.mono ?_; rintro e w2 ⟨rfl, D', hT, hd⟩))
  all_goals
    obtain ⟨hX2, hM2⟩ := HX1.out.del hT hp (fun h => ((HMem.out p).1 h).1 rfl) hd
    have HIn : Hid (In w2 B s x NM (L.erase p) I Q' V) := ⟨S, P', D', D2, hX2⟩
    have HM2 : Hid (Mb stag B w w2) := HM1.out.trans hM2
    have c0' : w2.cell? ⟨p, 0, none⟩ = some (.string (I p).k) := by
      have h1 := (HX1.out.qs.its p hp).2
      have h2 := (hT.mv HX1.out.kd).block p _ _ h1 (by decide)
      rw [h1] at h2
      simp [World.cell?, h2]
    have HC := change_any w2 B s x NM (L.erase p) I Q' V HIn.out (I p).k (HX1.out.key p hp) (hv _)
    clear hX2 hM2 hT hd HDel c3 c0
    go_wp2_with fail
    refine HC.mono ?_
    rintro e w3 ⟨rfl, hm3, hin3⟩
    have HE : Hid (TakeTo w w3 B s x NM L I Q V p) := ⟨HM2.out.trans hm3, Q', hin3, HMem.out⟩
    clear hm3 hin3 HC
    go_wp2
    go_end0
    exact ⟨rfl, HE.out⟩
/-- Some whose time has come were taken. -/
def Due (A A' : Ab) (V V' : ByteArray → Int) (t : Int) : Prop := ∀ k, A' k = A k ∧ V' k = V k ∨ ∃ v e, A k = some (v, some e) ∧ e ≤ t ∧ A' k = none ∧ V' k = V k + 1
theorem Due.le {A A' : Ab} {V V' : ByteArray → Int} {t : Int} (h : Due A A' V V' t) (k : ByteArray) : V k ≤ V' k ∧ V' k ≤ V k + 1 := by
  rcases h k with ⟨-, h2⟩ | ⟨v, e, -, -, -, h2⟩ <;> omega
theorem Due.done {A A' : Ab} {V V' : ByteArray → Int} {t : Int} (h : Due A A' V V' t) (hs : Still A' t) : A' = dueA A t ∧ V' = dueV A V t := by
  constructor
  · funext k
    unfold dueA
    rcases h k with ⟨h1, -⟩ | ⟨v, e, h1, h2, h3, -⟩
    · rw [h1]
      split
      · rename_i v e he
        rw [if_neg (by have := hs k v e (by rw [h1]; exact he); omega), he]
      · rfl
    · rw [h1, h3]
      simp [h2]
  · funext k
    unfold dueV
    rcases h k with ⟨h1, h4⟩ | ⟨v, e, h1, h2, h3, h4⟩
    · rw [h4]
      split
      · rename_i v e he
        rw [if_neg (by have := hs k v e (by rw [h1]; exact he); omega)]
      · rfl
    · rw [h1, h4]
      simp [h2]
theorem Due.step {A A' : Ab} {V V' : ByteArray → Int} {t : Int} (h : Due A A' V V' t) {k : ByteArray} {v : Option Addr} {e : Int} (hk : A' k = some (v, some e)) (he : e ≤ t) : Due A (setA A' k none) V (incV V' k) t := by
  intro j
  unfold setA incV
  by_cases hj : j = k
  · rw [if_pos hj, if_pos hj, hj]
    rcases h k with ⟨h1, h2⟩ | ⟨v', e', -, -, h3, -⟩
    · exact .inr ⟨v, e, by rw [← h1]; exact hk, he, rfl, by rw [h2]⟩
    · rw [h3] at hk; cases hk
  · rw [if_neg hj, if_neg hj]
    exact h j
/-- One that is there no more. -/
theorem Rep.del {L : List Nat} {I : Nat → Itm} {Q Q' : List Nat} {A : Ab} (h : Rep L I Q A) (hinj : ∀ q ∈ L, ∀ r ∈ L, (I q).k = (I r).k → q = r) (hnd : L.Nodup) {p : Nat} (hp : p ∈ L) (hm : ∀ q, q ∈ Q' ↔ q ≠ p ∧ q ∈ Q) : Rep (L.erase p) I Q' (setA A (I p).k none) := by
  constructor
  · intro q hq
    have hqL := List.mem_of_mem_erase hq
    have hne : q ≠ p := fun e => by rw [e] at hq; exact (hnd.mem_erase_iff.1 hq).1 rfl
    unfold setA
    rw [if_neg (fun e => hne (hinj q hqL p hp e)), h.yes q hqL]
    by_cases hQ : q ∈ Q
    · rw [if_pos hQ, if_pos ((hm q).2 ⟨hne, hQ⟩)]
    · rw [if_neg hQ, if_neg (fun e => hQ ((hm q).1 e).2)]
  · intro k y hk
    unfold setA at hk
    by_cases e : k = (I p).k
    · rw [if_pos e] at hk; cases hk
    · rw [if_neg e] at hk
      obtain ⟨q, hq, rfl⟩ := h.no k y hk
      exact ⟨q, hnd.mem_erase_iff.2 ⟨fun e2 => e (by rw [e2]), hq⟩, rfl⟩
theorem In.inj {w : World} {B : Own} {s x : Nat} {NM : List ByteArray} {L : List Nat} {I : Nat → Itm} {Q : List Nat} {V : ByteArray → Int} (H : In w B s x NM L I Q V) : ∀ q ∈ L, ∀ r ∈ L, (I q).k = (I r).k → q = r := by
  obtain ⟨S, P, D, D2, hX⟩ := H
  exact fun q hq r hr e => hX.inj hq hr e
theorem In.nod {w : World} {B : Own} {s x : Nat} {NM : List ByteArray} {L : List Nat} {I : Nat → Itm} {Q : List Nat} {V : ByteArray → Int} (H : In w B s x NM L I Q V) : L.Nodup := by
  obtain ⟨S, P, D, D2, hX⟩ := H
  exact hX.qs.nod
theorem In.key {w : World} {B : Own} {s x : Nat} {NM : List ByteArray} {L : List Nat} {I : Nat → Itm} {Q : List Nat} {V : ByteArray → Int} (H : In w B s x NM L I Q V) : ∀ p ∈ L, (I p).k ∈ NM := by
  obtain ⟨S, P, D, D2, hX⟩ := H
  exact hX.key
theorem In.sub {w : World} {B : Own} {s x : Nat} {NM : List ByteArray} {L : List Nat} {I : Nat → Itm} {Q : List Nat} {V : ByteArray → Int} (H : In w B s x NM L I Q V) : ∀ p ∈ Q, p ∈ L := by
  obtain ⟨S, P, D, D2, hX⟩ := H
  exact hX.qs.sub
/-- None is due: none's time has come. -/
theorem still_of {U : Nat → Int} {L : List Nat} {I : Nat → Itm} {Q : List Nat} {A : Ab} {t : Int} (hR : Rep L I Q A) (hU : U = un I) (ho : Ord U Q) (hd : ¬ (0 < Q.length ∧ (I (at' Q 0)).u ≤ t)) : Still A t := by
  intro k v e he
  obtain ⟨p, hp, rfl⟩ := hR.no k _ he
  rw [hR.yes p hp] at he
  injection he with he
  injection he with h1 h2
  by_cases hq : p ∈ Q
  · rw [if_pos hq] at h2
    injection h2 with h2
    obtain ⟨i, hi, e⟩ := at_ex hq
    have h3 := ho.least i hi
    rw [hU, e] at h3
    have h4 : ¬ (I (at' Q 0)).u ≤ t := fun h => hd ⟨by omega, h⟩
    have h5 : (I (at' Q 0)).u ≤ (I p).u := h3
    omega
  · rw [if_neg hq] at h2; cases h2
/-- No number is too great. -/
def Low (V : ByteArray → Int) : Prop := ∀ k, 0 ≤ V k ∧ V k < 4611686018427387900
/-- What takeDue leaves. -/
def DueTo (w w' : World) (B : Own) (s x : Nat) (NM : List ByteArray) (A : Ab) (V : ByteArray → Int) (t : Int) : Prop := To w w' B s x NM (dueA A t) (dueV A V t)
set_option maxRecDepth 100000 in
theorem takeDue_any (w : World) (B : Own) (s x : Nat) (NM : List ByteArray) (A : Ab) (V : ByteArray → Int) (hS : Spc w B s x NM A V) (hv : Low V) (t : Int) :
    Calls Tryz.prog 34 #[ptr s, .int .i64 t] w fun e w' => e = .returned (.tuple #[]) ∧ DueTo w w' B s x NM A V t := by
  obtain ⟨L, I, Q, hI, hR⟩ := hS
  have HI0 : Hid (In w B s x NM L I Q V) := hI
  have HR0 : Hid (Rep L I Q A) := hR
  clear hI hR
  go_enter Tryz.func34, Tryz.ntmps34
  go_wp2
  go_loopg [] (L.length + 1) (fun gk wr => ∃ L' Q' V' A', L'.length + 1 ≤ gk ∧ Hid (In wr B s x NM L' I Q' V') ∧ Hid (Rep L' I Q' A') ∧ Hid (Due A A' V V' t) ∧ Hid (Mb stag B w wr))
  case atStart => exact ⟨L, Q, V, A, Nat.le_refl _, HI0, HR0, fun k => .inl ⟨rfl, rfl⟩, Mb.refl _ _ _⟩
  case round =>
    obtain ⟨L', Q', V', A', hg, HI, HR, HU, HM⟩ := hrel
    obtain ⟨S, P, D, D2, hX⟩ := HI.out
    have HX : Hid (Sx wr B s x NM L' I Q' V' S P D D2) := hX
    have HDu := isDue_any wr B s S L' I P Q' hX.qs t
    clear hX
    go_wp2_with fail
    refine HDu.mono ?_
    rintro e wr ⟨rfl, r, rfl, hr⟩
    cases r with
    | true =>
      obtain ⟨h0, hu⟩ := hr.1 rfl
      obtain ⟨g, c, hH⟩ := HX.out.qs.hs h0 Q'.length
      have HF := first_any wr B s S g c L' I P Q' Q'.length hH h0 (by omega)
      have hpQ : at' Q' 0 ∈ Q' := at_mem h0
      obtain ⟨p, hpe⟩ : ∃ p, at' Q' 0 = p := ⟨_, rfl⟩
      rw [hpe] at HF hu hpQ
      have hpL := HX.out.qs.sub p hpQ
      have HT := take_any wr B s x NM L' I Q' V' HI.out p hpL (fun k => by have := HU.out.le k; have := hv k; omega)
      have HUU : Hid ((I p).u ≤ t) := hu
      clear hH hr hu HDu
      go_wp2_with fail
      refine HF.mono ?_
      rintro e wr ⟨rfl, rfl⟩
      go_wp2_with fail
      refine HT.mono ?_
      rintro e w2 ⟨rfl, hm2, Q2, hin2, hmem⟩
      have HIn : Hid (In w2 B s x NM (L'.erase p) I Q2 (incV V' (I p).k)) := hin2
      have HR2 : Hid (Rep (L'.erase p) I Q2 (setA A' (I p).k none)) := HR.out.del HI.out.inj HI.out.nod hpL hmem
      have HU2 : Hid (Due A (setA A' (I p).k none) V (incV V' (I p).k) t) := HU.out.step (by rw [HR.out.yes p hpL, if_pos hpQ]) HUU.out
      have HM2 : Hid (Mb stag B w w2) := HM.out.trans hm2
      have hln : (L'.erase p).length + 1 = L'.length := by
        have := List.length_erase_of_mem hpL
        have := List.length_pos_of_mem hpL
        omega
      clear hm2 hin2 hmem HT HF
      go_wp2
      go_roundg (gk - 1)
      case measure => omega
      case rel => exact ⟨_, Q2, _, _, by omega, HIn, HR2, HU2, HM2⟩
    | false =>
      have hd : ¬ (0 < Q'.length ∧ (I (at' Q' 0)).u ≤ t) := fun h => by have := hr.2 h; cases this
      have HE : Hid (DueTo w wr B s x NM A V t) := by
        have hst := still_of HR.out rfl HX.out.qs.ord hd
        obtain ⟨e1, e2⟩ := HU.out.done hst
        refine ⟨HM.out, L', I, Q', ?_, ?_⟩
        · rw [← e2]; exact HI.out
        · rw [← e1]; exact HR.out
      clear hd hr HDu
      go_wp2
      go_end0
      exact ⟨rfl, HE.out⟩
/-- What find leaves. -/
def FindTo (w w' : World) (B : Own) (s x : Nat) (NM : List ByteArray) (A : Ab) (V : ByteArray → Int) (k : ByteArray) (t : Int) (e : Ending) : Prop :=
  Mb stag B w w' ∧ ∃ L I Q, In w' B s x NM L I Q (dueV A V t) ∧ Rep L I Q (dueA A t) ∧ (e = .returned (.pointer none) ∧ dueA A t k = none ∨ ∃ p ∈ L, (I p).k = k ∧ e = .returned (ptr p) ∧ dueA A t k = some ((I p).v, if p ∈ Q then some (I p).u else none))
theorem find_any (w : World) (B : Own) (s x : Nat) (NM : List ByteArray) (A : Ab) (V : ByteArray → Int) (hS : Spc w B s x NM A V) (hv : Low V) (t : Int) (k : ByteArray) (hk : k.size ≤ maxLen) :
    Calls Tryz.prog 31 #[ptr s, .string k, .int .i64 t] w fun e w' => FindTo w w' B s x NM A V k t e := by
  have HD := takeDue_any w B s x NM A V hS hv t
  go_enter Tryz.func31, Tryz.ntmps31
  go_wp2_with fail
  refine HD.mono ?_
  rintro e w1 ⟨rfl, hm1, L, I, Q, ⟨S, P, D, D2, hX⟩, hR⟩
  have HX : Hid (Sx w1 B s x NM L I Q (dueV A V t) S P D D2) := hX
  have HR : Hid (Rep L I Q (dueA A t)) := hR
  have HM : Hid (Mb stag B w w1) := hm1
  have c3 := hX.cd
  have HG := Dk.GetD 0 S.d x D k w1 hX.kd hk
  clear hX hR hm1 HD
  obtain ⟨r, HRr⟩ : ∃ r : Option Addr, Hid (Dk.getE D.es k = r) := ⟨_, rfl⟩
  rw [HRr.out] at HG
  obtain ⟨q, HQq⟩ : ∃ q : Bool, Hid (Dk.hasK D.es k = q) := ⟨_, rfl⟩
  rw [HQq.out] at HG
  go_wp2_with fail
  refine HG.mono ?_
  rintro e w2 ⟨rfl, hb⟩
  have HE : Hid (FindTo w w2 B s x NM A V k t (.returned (.pointer r))) := by
    refine ⟨HM.out.trans (Mb.of_below hb), L, I, Q, ⟨S, P, D, D2, HX.out.keep hb⟩, HR.out, ?_⟩
    by_cases h : ∃ p ∈ L, (I p).k = k
    · obtain ⟨p, hp, rfl⟩ := h
      have h1 := (HX.out.found hp).1
      rw [HRr.out] at h1
      exact .inr ⟨p, hp, rfl, by rw [h1], HR.out.yes p hp⟩
    · have h1 := (HX.out.lacks (k := k) (fun p hp e => h ⟨p, hp, e⟩)).1
      rw [HRr.out] at h1
      refine .inl ⟨by rw [h1], ?_⟩
      cases hA : dueA A t k with
      | none => rfl
      | some y => exact absurd (HR.out.no k y hA) h
  clear hb HG c3
  go_wp2
  go_ret
  exact HE.out
theorem setA_twice {α : Type} (A : AbV α) (k : ByteArray) (y z : Option (α × Option Int)) : setA (setA A k y) k z = setA A k z := by
  funext j
  unfold setA
  by_cases h : j = k
  · rw [if_pos h, if_pos h]
  · rw [if_neg h, if_neg h, if_neg h]
theorem setA_self {α : Type} {A : AbV α} {k : ByteArray} {y : Option (α × Option Int)} (h : A k = y) : setA A k y = A := by
  funext j
  unfold setA
  by_cases e : j = k
  · rw [if_pos e, e, h]
  · rw [if_neg e]
theorem setA_at {α : Type} (A : AbV α) (k : ByteArray) (y : Option (α × Option Int)) : setA A k y k = y := if_pos rfl
theorem setA_ne {α : Type} (A : AbV α) {k j : ByteArray} (y : Option (α × Option Int)) (h : j ≠ k) : setA A k y j = A j := if_neg h
/-- What is told when one item is turned. -/
theorem Rep.turn {L : List Nat} {I J : Nat → Itm} {Q Q' : List Nat} {A : Ab} (h : Rep L I Q A) (hinj : ∀ q ∈ L, ∀ r ∈ L, (I q).k = (I r).k → q = r) {p : Nat} (hp : p ∈ L) (hk : (J p).k = (I p).k) (hJ : ∀ q, q ≠ p → J q = I q) (hm : ∀ q, q ≠ p → (q ∈ Q' ↔ q ∈ Q)) : Rep L J Q' (setA A (I p).k (some ((J p).v, if p ∈ Q' then some (J p).u else none))) := by
  constructor
  · intro q hq
    by_cases e : q = p
    · rw [e, hk, setA_at]
    · rw [hJ q e, setA_ne _ _ (fun e2 => e (hinj q hq p hp e2)), h.yes q hq]
      by_cases hQ : q ∈ Q
      · rw [if_pos hQ, if_pos ((hm q e).2 hQ)]
      · rw [if_neg hQ, if_neg (fun e2 => hQ ((hm q e).1 e2))]
  · intro k y hy
    by_cases e : k = (I p).k
    · exact ⟨p, hp, by rw [hk, e]⟩
    · rw [setA_ne _ _ e] at hy
      obtain ⟨q, hq, rfl⟩ := h.no k y hy
      exact ⟨q, hq, by rw [hJ q (fun e2 => e (by rw [e2]))]⟩
theorem Rep.new {L : List Nat} {I : Nat → Itm} {Q : List Nat} {A : Ab} (h : Rep L I Q A) {p : Nat} {i : Itm} (hp : p ∉ L) (hq : p ∉ Q) (hn : ∀ q ∈ L, (I q).k ≠ i.k) : Rep (p :: L) (upd I p i) Q (setA A i.k (some (i.v, none))) := by
  constructor
  · intro q hq'
    rcases List.mem_cons.1 hq' with rfl | h1
    · rw [upd_eq, setA_at, if_neg hq]
    · have e : q ≠ p := fun e => hp (by rw [← e]; exact h1)
      rw [upd_ne _ _ e, setA_ne _ _ (hn q h1)]
      exact h.yes q h1
  · intro k y hy
    by_cases e : k = i.k
    · exact ⟨p, List.mem_cons_self .., by rw [upd_eq, e]⟩
    · rw [setA_ne _ _ e] at hy
      obtain ⟨q, hq', rfl⟩ := h.no k y hy
      exact ⟨q, List.mem_cons_of_mem _ hq', by rw [upd_ne _ _ (fun e => hp (by rw [← e]; exact hq'))]⟩
/-- What hold leaves. -/
def HoldTo (w w' : World) (B : Own) (s x : Nat) (NM : List ByteArray) (A : Ab) (V : ByteArray → Int) (k : ByteArray) (v : Option Addr) (e : Ending) : Prop :=
  Mb stag B w w' ∧ ∃ L I Q, In w' B s x NM L I Q (incV V k) ∧ Rep L I Q (setA A k (some (v, none))) ∧ ∃ p, e = .returned (ptr p) ∧ p ∈ L ∧ p ∉ Q ∧ (I p).k = k ∧ (I p).v = v
/-- The same, and that no other item has turned. -/
def HoldIn (w w' : World) (B : Own) (s x : Nat) (NM : List ByteArray) (A : Ab) (V : ByteArray → Int) (k : ByteArray) (v : Option Addr) (L0 : List Nat) (I0 : Nat → Itm) (e : Ending) : Prop :=
  Mb stag B w w' ∧ ∃ L I Q, In w' B s x NM L I Q (incV V k) ∧ Rep L I Q (setA A k (some (v, none))) ∧ (∀ q ∈ L0, (I0 q).k ≠ k → q ∈ L ∧ I q = I0 q) ∧ ∃ p, e = .returned (ptr p) ∧ p ∈ L ∧ p ∉ Q ∧ (I p).k = k ∧ (I p).v = v
/-- Ahead of the item's turn. -/
structure Ere (w w' : World) (B : Own) (s x : Nat) (NM : List ByteArray) (A : Ab) (V : ByteArray → Int) (k : ByteArray) (L0 : List Nat) (I0 : Nat → Itm) (p : Nat) (L : List Nat) (I : Nat → Itm) (Q : List Nat) (A1 : Ab) : Prop where
  mb : Mb stag B w w'
  inn : In w' B s x NM L I Q V
  rep : Rep L I Q A1
  mem : p ∈ L
  key : (I p).k = k
  set : ∀ y, setA A1 k y = setA A k y
  old : ∀ q ∈ L0, q ∈ L ∧ I q = I0 q
set_option maxRecDepth 100000 in
theorem hold_in (w : World) (B : Own) (s x : Nat) (NM : List ByteArray) (L : List Nat) (I : Nat → Itm) (Q : List Nat) (A : Ab) (V : ByteArray → Int) (hI : In w B s x NM L I Q V) (hR : Rep L I Q A) (k : ByteArray) (hk : k ∈ NM) (hv : 0 ≤ V k ∧ V k < 4611686018427387904) (v : Option Addr) :
    Calls Tryz.prog 35 #[ptr s, .string k, .pointer v] w fun e w' => HoldIn w w' B s x NM A V k v L I e := by
  obtain ⟨S, P, D, D2, hX⟩ := hI
  have HX : Hid (Sx w B s x NM L I Q V S P D D2) := hX
  have HR : Hid (Rep L I Q A) := hR
  have c3 := hX.cd
  have HG := Dk.GetD 0 S.d x D k w hX.kd (hX.mx hk)
  clear hX hR
  obtain ⟨r, HRr⟩ : ∃ r : Option Addr, Hid (Dk.getE D.es k = r) := ⟨_, rfl⟩
  rw [HRr.out] at HG
  obtain ⟨q, HQq⟩ : ∃ q : Bool, Hid (Dk.hasK D.es k = q) := ⟨_, rfl⟩
  rw [HQq.out] at HG
  go_enter Tryz.func35, Tryz.ntmps35
  go_wp2_with fail
  refine HG.mono ?_
  rintro e w1 ⟨rfl, hb⟩
  have HX1 : Hid (Sx w1 B s x NM L I Q V S P D D2) := HX.out.keep hb
  have HM1 : Hid (Mb stag B w w1) := Mb.of_below hb
  clear hb HG c3
  go_upto_if 19 with fail
  go_cut [7] from 20 to 28 (fun y wx => ∃ p, y = ptr p ∧ ∃ L1 I1 A1, Hid (Ere w wx B s x NM A V k L I p L1 I1 Q A1))
  case first =>
    cases q with
    | true =>
      have hex : ∃ p ∈ L, (I p).k = k := by
        refine Classical.byContradiction fun h => ?_
        have h1 := (HX.out.lacks (k := k) (fun p hp e => h ⟨p, hp, e⟩)).2
        rw [HQq.out] at h1
        cases h1
      obtain ⟨p, hp, hpk⟩ := hex
      have hr : r = adr p := by
        have h1 := (HX.out.found hp).1
        rw [hpk, HRr.out] at h1
        exact h1
      subst hr
      have HE : Hid (Ere w w1 B s x NM A V k L I p L I Q A) := ⟨HM1.out, ⟨S, P, D, D2, HX1.out⟩, HR.out, hp, hpk, fun _ => rfl, fun q hq => ⟨hq, rfl⟩⟩
      go_wp2
      go_meet
      exact ⟨p, rfl, L, I, A, HE⟩
    | false =>
      have hno : ∀ p ∈ L, (I p).k ≠ k := fun p hp e => by
        have h1 := (HX.out.found hp).2
        rw [e, HQq.out] at h1
        cases h1
      have HN := newItem_any w1 k
      go_wp2_with fail
      refine HN.mono ?_
      rintro e w2 ⟨rfl, hw2⟩
      have hb2 : Below w1.heap.size w1 w2 := by rw [hw2]; exact alloc_below w1 _
      obtain ⟨hq2, hpL⟩ := HX1.out.qs.more ⟨k, none, 0⟩ (by have := HX1.out.few; omega) HX1.out.up hw2
      obtain ⟨p, hpe⟩ : ∃ p, w1.heap.size = p := ⟨_, rfl⟩
      rw [hpe] at hq2 hpL
      have HQ2 : Hid (Qs w2 B s S (p :: L) (upd I p ⟨k, none, 0⟩) (upd P p (-1)) Q) := hq2
      have HB2 : Hid (Below w1.heap.size w1 w2) := hb2
      have HPL : Hid (p ∉ L) := hpL
      have HP := Dk.PutD 0 S.d x D k (adr p) w2 (HX1.out.kd.keep hb2) (HX1.out.mx hk) (by have := HX1.out.len; have := HX1.out.few; omega)
      have c3 := (HX1.out.keep hb2).cd
      have HNo : Hid (∀ p ∈ L, (I p).k ≠ k) := hno
      rw [hpe]
      clear hw2 hb2 hq2 hpL HN hno hpe
      go_wp2_with fail
      refine HP.mono ?_
      rintro e w3 ⟨rfl, D', hT, hd⟩
      have HE : Hid (Ere w w3 B s x NM A V k L I p (p :: L) (upd I p ⟨k, none, 0⟩) Q (setA A k (some (none, none)))) := by
        obtain ⟨k1, k2⟩ := HX1.out.put HB2.out HQ2.out HPL.out hT (i := ⟨k, none, 0⟩) hk HNo.out hd
        exact ⟨HM1.out.trans k2, ⟨S, _, D', D2, k1⟩, HR.out.new (i := ⟨k, none, 0⟩) HPL.out (fun h => HPL.out (HX.out.qs.sub _ h)) HNo.out, List.mem_cons_self .., by rw [upd_eq], fun y => setA_twice _ _ _ _, fun q hq => ⟨List.mem_cons_of_mem _ hq, upd_ne _ _ (fun e => HPL.out (by rw [← e]; exact hq))⟩⟩
      clear hT hd HP c3
      go_wp2
      go_meet
      exact ⟨p, rfl, _, _, _, HE⟩
  case rest =>
    obtain ⟨p, rfl, L1, I1, A1, HE⟩ := hcut
    clear HX HX1 HR HM1
    obtain ⟨S1, P1, D1, D3, hX⟩ := HE.out.inn
    have HX : Hid (Sx wc B s x NM L1 I1 Q V S1 P1 D1 D3) := hX
    have HD := drop_any wc B s S1 L1 I1 P1 Q hX.qs p HE.out.mem
    clear hX
    go_wp2_with fail
    refine HD.mono ?_
    rintro e w2 ⟨rfl, hm2, P2, Q2, hq2, hmem⟩
    have HX2 : Hid (Sx w2 B s x NM L1 I1 Q2 V S1 P2 D1 D3) := HX.out.queue hm2 hq2 (fun _ _ => rfl)
    have HM2 : Hid (Mb stag B w w2) := HE.out.mb.trans (Mb.mono hm2 stag_q)
    have HMem : Hid (∀ q, q ∈ Q2 ↔ q ≠ p ∧ q ∈ Q) := hmem
    have e1 := hq2.its.cv HE.out.mem
    have e2 := hq2.its.fz HE.out.mem 1
    obtain ⟨w3, hw3⟩ : ∃ w3, w2.setCell ⟨p, 1, none⟩ (.pointer v) = w3 := ⟨_, rfl⟩
    obtain ⟨hq3, hm3⟩ := hq2.value HE.out.mem v hw3.symm
    have HI3 : Hid (In w3 B s x NM L1 (upd I1 p { I1 p with v := v }) Q2 V) := ⟨S1, P2, D1, D3, HX2.out.queue hm3 hq3 (fun q _ => by
      by_cases h : q = p
      · rw [h, upd_eq]
      · rw [upd_ne _ _ h])⟩
    have HM3 : Hid (Mb stag B w w3) := HM2.out.trans (Mb.mono hm3 stag_q)
    have HC := change_any w3 B s x NM L1 _ Q2 V HI3.out k hk hv
    clear hm2 hq2 hmem hq3 hm3 HD
    go_wp2_with fail
    refine HC.mono ?_
    rintro e w4 ⟨rfl, hm4, hi4⟩
    have HF : Hid (HoldIn w w4 B s x NM A V k v L I (.returned (ptr p))) := by
      have hpq : p ∉ Q2 := fun h => ((HMem.out p).1 h).1 rfl
      have hr := HE.out.rep.turn (J := upd I1 p { I1 p with v := v }) (Q' := Q2) HE.out.inn.inj HE.out.mem (by rw [upd_eq]) (fun q h => upd_ne _ _ h) (fun q h => ⟨fun h1 => ((HMem.out q).1 h1).2, fun h1 => (HMem.out q).2 ⟨h, h1⟩⟩)
      rw [if_neg hpq, upd_eq, HE.out.key, HE.out.set] at hr
      exact ⟨HM3.out.trans hm4, L1, _, Q2, hi4, hr, fun q hq hqk => ⟨(HE.out.old q hq).1, by rw [upd_ne _ _ (fun e => hqk (by rw [← (HE.out.old q hq).2, e]; exact HE.out.key))]; exact (HE.out.old q hq).2⟩, p, rfl, HE.out.mem, hpq, by rw [upd_eq]; exact HE.out.key, by rw [upd_eq]⟩
    clear hm4 hi4 HC
    go_wp2
    go_ret
    exact HF.out
theorem hold_any (w : World) (B : Own) (s x : Nat) (NM : List ByteArray) (A : Ab) (V : ByteArray → Int) (hS : Spc w B s x NM A V) (k : ByteArray) (hk : k ∈ NM) (hv : 0 ≤ V k ∧ V k < 4611686018427387904) (v : Option Addr) :
    Calls Tryz.prog 35 #[ptr s, .string k, .pointer v] w fun e w' => HoldTo w w' B s x NM A V k v e := by
  obtain ⟨L, I, Q, hI, hR⟩ := hS
  refine (hold_in w B s x NM L I Q A V hI hR k hk hv v).mono ?_
  rintro e w' ⟨h1, L', I', Q', h2, h3, -, h4⟩
  exact ⟨h1, L', I', Q', h2, h3, h4⟩
theorem lowK {w : World} {B C d x : Nat} {D : Dk.Dg} (h : Dk.Dct w B d x D) (hC : C ≤ B) : Dk.Dct w C d x D :=
  ⟨h.blk, Dk.OwnR.low h.row hC, fun f hf => ⟨(h.leaf f hf).blk, Dk.OwnR.low (h.leaf f hf).row hC, fun t ht => Dk.Tab.lower ((h.leaf f hf).tab t ht) hC, Nat.le_trans hC (h.leaf f hf).low, (h.leaf f hf).nod, (h.leaf f hf).key, (h.leaf f hf).pos⟩, h.shp, h.dir, h.own, h.one, h.ful, h.nod, Nat.le_trans hC h.low, h.seed, h.le⟩
theorem lowN {w : World} {B C d x : Nat} {D : Zs.Dk.Dg} (h : Zs.Dk.Dct w B d x D) (hC : C ≤ B) : Zs.Dk.Dct w C d x D :=
  ⟨h.blk, Zs.Dk.OwnR.low h.row hC, fun f hf => ⟨(h.leaf f hf).blk, Zs.Dk.OwnR.low (h.leaf f hf).row hC, fun t ht => Zs.Dk.Tab.lower ((h.leaf f hf).tab t ht) hC, Nat.le_trans hC (h.leaf f hf).low, (h.leaf f hf).nod, (h.leaf f hf).key, (h.leaf f hf).pos⟩, h.shp, h.dir, h.own, h.one, h.ful, h.nod, Nat.le_trans hC h.low, h.seed, h.le⟩
/-- Names that may be keys. -/
structure Names (NM : List ByteArray) : Prop where
  few : NM.length ≤ 1000
  sz : ∀ k ∈ NM, k.size ≤ 4096
/-- A new space. -/
theorem Spc.new {w : World} {B x d v : Nat} {E T : Int} {D : Dk.Dg} {D2 : Zs.Dk.Dg} (hB : B ≤ w.heap.size) (hD : Dk.Dct w B d x D) (hD2 : Zs.Dk.Dct w B v x D2) (h1 : D.es = []) (h2 : D2.es = []) {NM : List ByteArray} (hN : Names NM) {w' : World} (hw : w' = w.alloc (.cells #[.int .u64 (x : Nat), .int .i64 E, .int .i64 T, ptr d, .slice none 0 0, ptr v] 77)) : Spc w' (fun k => B ≤ k) w.heap.size x NM (fun _ => none) (fun _ => 0) := by
  have hb : Below w.heap.size w w' := by rw [hw]; exact alloc_below w _
  have hq : Qs w' (fun k => B ≤ k) w.heap.size ⟨x, E, T, d, v⟩ [] (fun _ => ⟨⟨#[]⟩, none, 0⟩) (fun _ => -1) [] :=
    ⟨⟨none, 0, by rw [hw]; exact heap_alloc_new w _, OwnR.nil _ _ _ _, fun k hk => by cases hk⟩, fun p hp => absurd hp (by simp), fun p hp => absurd hp (by simp), fun i hi => absurd hi (by simp), fun i _ hi => absurd hi (by simp), fun p hp => absurd hp (by simp), List.nodup_nil, hB, by simp⟩
  refine ⟨[], fun _ => ⟨⟨#[]⟩, none, 0⟩, [], ⟨⟨x, E, T, d, v⟩, fun _ => -1, D, D2, rfl, hq, lowK (hD.keep hb) (Nat.zero_le _), lowN (hD2.keep hb) (Nat.zero_le _), fun k hk => (hD.fplt k hk).1, fun k hk => (hD2.fplt k hk).1, fun k hk => Nat.le_trans hB (Nat.le_trans hb.size hk), ?_, fun k => ?_, fun e he => ?_, fun p hp => absurd hp (by simp), hN.few, hN.sz⟩, ⟨fun p hp => absurd hp (by simp), fun k y h => absurd h (by simp)⟩⟩
  · rw [h1]; exact List.Perm.refl _
  · rw [h2]; rfl
  · rw [h2] at he; exact absurd he (by simp)
def NewTo (w w' : World) (x : Nat) (e : Ending) : Prop := Below w.heap.size w w' ∧ ∃ s, e = .returned (ptr s) ∧ w.heap.size ≤ s ∧ ∀ NM, Names NM → Spc w' (fun k => w.heap.size ≤ k) s x NM (fun _ => none) (fun _ => 0)
set_option maxRecDepth 100000 in
set_option maxHeartbeats 1600000 in
theorem New_any (w : World) (x : Nat) (E T : Int) (hx : x < 18446744073709551616) :
    Calls Tryz.prog 7 #[.agg #[.int .u64 (x : Nat), .int .i64 E, .int .i64 T]] w fun e w' => NewTo w w' x e := by
  obtain ⟨w0, hw0⟩ : ∃ w0, w.alloc (.cells #[.int .u64 (x : Nat), .int .i64 E, .int .i64 T] 29) = w0 := ⟨_, rfl⟩
  have hB0 : Below w.heap.size w w0 := by rw [← hw0]; exact alloc_below w _
  have HB0 : Hid (Below w.heap.size w w0) := hB0
  have hblk : w0.heap[w.heap.size]? = some (.cells #[.int .u64 (x : Nat), .int .i64 E, .int .i64 T] 29 (0, 0)) := by rw [← hw0]; exact heap_alloc_new w _
  have hlt : w.heap.size < w0.heap.size := (Array.getElem?_eq_some_iff.1 hblk).1
  have HC : Hid (∀ wx, Below w0.heap.size w0 wx → wx.cell? ⟨w.heap.size, 0, none⟩ = some (.int .u64 (x : Nat)) ∧ wx.cell? ⟨w.heap.size, 1, none⟩ = some (.int .i64 E) ∧ wx.cell? ⟨w.heap.size, 2, none⟩ = some (.int .i64 T)) := fun wx hb => by
    have h1 := hb.block _ hlt
    rw [hblk] at h1
    exact ⟨by simp [World.cell?, h1], by simp [World.cell?, h1], by simp [World.cell?, h1]⟩
  have HB : Hid (Below w0.heap.size w0 w0.drew) := below_drewN w0 1
  obtain ⟨c0, c1, c2⟩ := HC.out _ HB.out
  have HK := fun w => Dk.New_dict x w hx
  have HN := fun w => Zs.Dk.New_dict x w hx
  have HLow : Hid (∀ wx, Below w0.heap.size w0 wx → w.heap.size ≤ wx.heap.size) := fun wx hb => Nat.le_trans hB0.size hb.size
  clear hblk hB0 hlt
  go_enter Tryz.func7, Tryz.ntmps7
  go_upto_region 1 with fail
  go_region_held3 (fun w' => w'.cell? ⟨w.heap.size, 0, none⟩ = some (.int .u64 (x : Nat)) ∧ w'.cell? ⟨w.heap.size, 1, none⟩ = some (.int .i64 E) ∧ w'.cell? ⟨w.heap.size, 2, none⟩ = some (.int .i64 T)) (first | exact HC.out _ HB.out | exact HC.out _ (step_below HB (alloc_below _ _)).out) (first
    | (go_at_call 21; refine (HK _).mono ?_; rintro e wk ⟨hb, d, D, rfl, hD, -, -, hes⟩; have HDk : Hid (Dk.Dct wk w.heap.size d x D ∧ D.es = []) := ⟨lowK hD (HLow.out _ HB.out), hes⟩; (try (have HDn' : Hid (Zs.Dk.Dct wk w.heap.size v x D2 ∧ D2.es = []) := ⟨HDn.out.1.keep hb, HDn.out.2⟩; clear HDn; have HDn := HDn'; clear HDn')); replace HB := step_below HB hb; clear hb hD hes)
    | (go_at_call 22; refine (HN _).mono ?_; rintro e wk ⟨hb, v, D2, rfl, hD, -, -, hes⟩; have HDn : Hid (Zs.Dk.Dct wk w.heap.size v x D2 ∧ D2.es = []) := ⟨lowN hD (HLow.out _ HB.out), hes⟩; (try (have HDk' : Hid (Dk.Dct wk w.heap.size d x D ∧ D.es = []) := ⟨HDk.out.1.keep hb, HDk.out.2⟩; clear HDk; have HDk := HDk'; clear HDk')); replace HB := step_below HB hb; clear hb hD hes))
  have HE : Hid (NewTo w (wk.alloc (.cells #[.int .u64 (x : Nat), .int .i64 E, .int .i64 T, ptr d, .slice none 0 0, Zs.Dk.ptr v] 77)) x (.returned (ptr wk.heap.size))) :=
    ⟨(step_below (HB0.out.trans (HB.out.mono HB0.out.size)) (alloc_below wk _)).out, wk.heap.size, rfl, HLow.out _ HB.out, fun NM hN => Spc.new (HLow.out _ HB.out) HDk.out.1 HDn.out.1 HDk.out.2 HDn.out.2 hN rfl⟩
  clear HDk HDn HB
  go_wp2
  go_ret
  exact HE.out
/-- What a key has; its value alone. -/
def valOf (y : Option (Option Addr × Option Int)) : Option Addr := match y with
  | some (v, _) => v
  | none => none
theorem eqlI_nil (w : World) (l : Nat) : (binOp .eql 70 (ptr l) (.pointer none)).run Tryz.prog w = .ok (.bool false) w := by
  rw [run_eql_pointer_nil w 70 (some ⟨l, 0, none⟩) (by rw [Tryz.underlying70]; kernel_rfl)]; rfl
theorem neqI_nil (w : World) (l : Nat) : (binOp .neq 70 (ptr l) (.pointer none)).run Tryz.prog w = .ok (.bool true) w := by
  rw [run_neq_pointer_nil w 70 (some ⟨l, 0, none⟩) (by rw [Tryz.underlying70]; kernel_rfl)]; rfl
theorem Get_any (w : World) (B : Own) (s x : Nat) (NM : List ByteArray) (A : Ab) (V : ByteArray → Int) (hS : Spc w B s x NM A V) (hv : Low V) (t : Int) (k : ByteArray) (hk : k.size ≤ maxLen) :
    Calls Tryz.prog 14 #[ptr s, .string k, .int .i64 t] w fun e w' => e = .returned (.pointer (valOf (dueA A t k))) ∧ DueTo w w' B s x NM A V t := by
  have HF := find_any w B s x NM A V hS hv t k hk
  go_enter Tryz.func14, Tryz.ntmps14
  go_wp2_with fail
  refine HF.mono ?_
  rintro e w1 ⟨hm, L, I, Q, hi, hr, ⟨rfl, hn⟩ | ⟨p, hp, hpk, rfl, hy⟩⟩
  · have HE : Hid (DueTo w w1 B s x NM A V t) := ⟨hm, L, I, Q, hi, hr⟩
    have HY : Hid (dueA A t k = none) := hn
    clear hm hi hr HF hn
    go_wp2
    go_ret
    exact ⟨by rw [HY.out]; rfl, HE.out⟩
  · have HE : Hid (DueTo w w1 B s x NM A V t) := ⟨hm, L, I, Q, hi, hr⟩
    have HY : Hid (dueA A t k = some ((I p).v, if p ∈ Q then some (I p).u else none)) := hy
    obtain ⟨S, P, D, D2, hX⟩ := hi
    have e1 := hX.qs.its.cv hp
    have hnn := neqI_nil w1 p
    clear hm hX hr HF hy
    go_wp2
    go_ret
    exact ⟨by rw [HY.out]; rfl, HE.out⟩
/-- How often keys were changed, where one that is there was changed once more. -/
def chgV {α : Type} (A : AbV α) (V : ByteArray → Int) (k : ByteArray) : ByteArray → Int := if (A k).isSome then incV V k else V
theorem Low.due {V : ByteArray → Int} (h : Low V) (A : Ab) (t : Int) : ∀ k, 0 ≤ dueV A V t k ∧ dueV A V t k < 4611686018427387904 := fun k => by
  have := h k
  have := dueV_le A V t k
  omega
/-- What Put leaves. -/
def PutTo (w w' : World) (B : Own) (s x : Nat) (NM : List ByteArray) (A : Ab) (V : ByteArray → Int) (k : ByteArray) (v : Option Addr) : Prop := To w w' B s x NM (setA A k (some (v, none))) (incV V k)
theorem Put_any (w : World) (B : Own) (s x : Nat) (NM : List ByteArray) (A : Ab) (V : ByteArray → Int) (hS : Spc w B s x NM A V) (hv : Low V) (t : Int) (k : ByteArray) (hk : k ∈ NM) (hks : k.size ≤ 4096) (v : Option Addr)
    (hE : Calls Tryz.prog 32 #[.pointer v] w fun e w' => e = .returned (.bool false) ∧ Below w.heap.size w w') :
    Calls Tryz.prog 16 #[ptr s, .string k, .pointer v, .int .i64 t] w fun e w' => e = .returned (.int .i64 0) ∧ PutTo w w' B s x NM (dueA A t) (dueV A V t) k v := by
  have HS : Hid (Spc w B s x NM A V) := hS
  clear hS
  obtain ⟨n, hn⟩ : ∃ n, k.size = n := ⟨_, rfl⟩
  have hz : (n : Int) ≤ 4096 := by omega
  go_enter Tryz.func16, Tryz.ntmps16
  go_wp2_with fail
  refine hE.mono ?_
  rintro e w1 ⟨rfl, hb⟩
  have HM1 : Hid (Mb stag B w w1) := Mb.of_below hb
  have HD := takeDue_any w1 B s x NM A V (HS.out.keep hb) hv t
  clear hb hE
  go_wp2_with fail
  refine HD.mono ?_
  rintro e w2 ⟨rfl, hm2, hs2⟩
  have HM2 : Hid (Mb stag B w w2) := HM1.out.trans hm2
  have HH := hold_any w2 B s x NM _ _ hs2 k hk (hv.due A t k) v
  clear hm2 hs2 HD
  go_wp2_with fail
  refine HH.mono ?_
  rintro e w3 ⟨hm, L, I, Q, hi, hr, p, rfl, -⟩
  have HE : Hid (PutTo w w3 B s x NM (dueA A t) (dueV A V t) k v) := ⟨HM2.out.trans hm, L, I, Q, hi, hr⟩
  clear hm hi hr HH
  go_wp2
  go_ret
  exact ⟨rfl, HE.out⟩
/-- What Touch leaves: r: has its value nothing? -/
def TouchTo (w w' : World) (B : Own) (s x : Nat) (NM : List ByteArray) (A : Ab) (V : ByteArray → Int) (k : ByteArray) (r : Bool) : Prop := To w w' B s x NM (if r then setA A k none else A) (chgV A V k)
theorem Touch_any (w : World) (B : Own) (s x : Nat) (NM : List ByteArray) (A : Ab) (V : ByteArray → Int) (hS : Spc w B s x NM A V) (hv : Low V) (t : Int) (k : ByteArray) (hk : k ∈ NM) (hks : k.size ≤ 4096) (r : Bool)
    (hE : ∀ w1 v u, Mb stag B w w1 → dueA A t k = some (v, u) → Calls Tryz.prog 32 #[.pointer v] w1 fun e w' => e = .returned (.bool r) ∧ Below w1.heap.size w1 w') :
    Calls Tryz.prog 159 #[ptr s, .string k, .int .i64 t] w fun e w' => e = .returned (.tuple #[]) ∧ TouchTo w w' B s x NM (dueA A t) (dueV A V t) k r := by
  have HF := find_any w B s x NM A V hS hv t k (by unfold maxLen; omega)
  go_enter Tryz.func159, Tryz.ntmps159
  go_wp2_with fail
  refine HF.mono ?_
  rintro e w1 ⟨hm, L, I, Q, hi, hr, ⟨rfl, hn⟩ | ⟨p, hp, hpk, rfl, hy⟩⟩
  · have HE : Hid (TouchTo w w1 B s x NM (dueA A t) (dueV A V t) k r) := by
      unfold TouchTo chgV
      rw [setA_self hn, hn, ite_self]
      exact ⟨hm, L, I, Q, hi, hr⟩
    clear hm hi hr HF hn hE
    go_wp2
    go_end0
    exact ⟨rfl, HE.out⟩
  · have HY : Hid (dueA A t k = some ((I p).v, if p ∈ Q then some (I p).u else none)) := hy
    have HI : Hid (In w1 B s x NM L I Q (dueV A V t)) := hi
    have HR : Hid (Rep L I Q (dueA A t)) := hr
    have HM : Hid (Mb stag B w w1) := hm
    have HEm := hE w1 _ _ hm hy
    have hnn := eqlI_nil w1 p
    obtain ⟨S, P, D, D2, hX⟩ := hi
    have e1 := hX.qs.its.cv hp
    clear hm hX hr HF hy hE
    go_wp2_with fail
    refine HEm.mono ?_
    rintro e w2 ⟨rfl, hb2⟩
    have HI2 : Hid (In w2 B s x NM L I Q (dueV A V t)) := HI.out.keep hb2
    have HM2 : Hid (Mb stag B w w2) := HM.out.trans (Mb.of_below hb2)
    clear hb2 HEm
    cases r with
    | true =>
      have HT := take_any w2 B s x NM L I Q _ HI2.out p hp (hv.due A t)
      go_wp2_with fail
      refine HT.mono ?_
      rintro e w3 ⟨rfl, hm3, Q', hi3, hmem⟩
      have HE : Hid (TouchTo w w3 B s x NM (dueA A t) (dueV A V t) k true) := by
        unfold TouchTo chgV
        rw [HY.out]
        have h1 := HR.out.del HI.out.inj HI.out.nod hp hmem
        rw [hpk] at h1 hi3
        exact ⟨HM2.out.trans hm3, _, I, Q', hi3, h1⟩
      clear hm3 hi3 hmem HT
      go_wp2
      go_end0
      exact ⟨rfl, HE.out⟩
    | false =>
      have HC := change_any w2 B s x NM L I Q _ HI2.out k hk (hv.due A t k)
      go_wp2_with fail
      refine HC.mono ?_
      rintro e w3 ⟨rfl, hm3, hi3⟩
      have HE : Hid (TouchTo w w3 B s x NM (dueA A t) (dueV A V t) k false) := by
        unfold TouchTo chgV
        rw [HY.out]
        exact ⟨HM2.out.trans hm3, L, I, Q, hi3, HR.out⟩
      clear hm3 hi3 HC
      go_wp2
      go_end0
      exact ⟨rfl, HE.out⟩
end Go.Proofs.YtnajhjmdpaeelaaGreatDoor.Sq
