/- Texts that the others stand on. -/
import Derived.Test.YtnajhjmdpaeelaaGreatDoorG23
import Derived.Test.YtnajhjmdpaeelaaGreatDoorG26
import Derived.Deep.RegionHeld3
namespace Go.Proofs.YtnajhjmdpaeelaaGreatDoor.Sq
open Go.RowKit Go.PlainAid
open Dk (ptr below_drewN alloc_below step_below add_flat OwnR OwnP OwnS Mv pcells Elt elt_of)
/-- A value: its Kind and its text. -/
abbrev Kt := Int × ByteArray
abbrev AbT := AbV Kt
structure Vw (w : World) (v : Nat) (d : Kt) : Prop where
  ex : ∃ a b c, w.heap[v]? = some (.cells #[.int .i64 d.1, .string d.2, .pointer a, .pointer b, .pointer c] 56 (0, 0)) ∧ (d.1 = 1 ∨ d.1 = 4 ∧ ∃ p, c = some p)
theorem Vw.lt {w : World} {v : Nat} {d : Kt} (h : Vw w v d) : v < w.heap.size := by
  obtain ⟨a, b, c, h, -⟩ := h.ex
  exact (Array.getElem?_eq_some_iff.1 h).1
theorem Vw.kept {w w' : World} {v : Nat} {d : Kt} (h : Vw w v d) (hb : w'.heap[v]? = w.heap[v]?) : Vw w' v d := by
  obtain ⟨a, b, c, h, h2⟩ := h.ex
  exact ⟨a, b, c, by rw [hb]; exact h, h2⟩
theorem Vw.mv {w w' : World} {v : Nat} {d : Kt} (h : Vw w v d) {t : TypeId → Bool} (hm : Mv t w w') (ht : t 56 = false) : Vw w' v d := by
  obtain ⟨a, b, c, h1, h2⟩ := h.ex
  exact h.kept (hm.block v _ _ h1 ht)
theorem Vw.ct {w : World} {v : Nat} {d : Kt} (h : Vw w v d) : w.cell? ⟨v, 1, none⟩ = some (.string d.2) := by
  obtain ⟨a, b, c, h, -⟩ := h.ex
  simp [World.cell?, h]
theorem Vw.fz {w : World} {v : Nat} {d : Kt} (h : Vw w v d) (o : Nat) : w.frozen? ⟨v, o, none⟩ = false := by
  obtain ⟨a, b, c, h, -⟩ := h.ex
  simp [World.frozen?, h]
theorem Vw.set {w : World} {v : Nat} {d : Kt} (h : Vw w v d) (s : ByteArray) : Vw (w.setCell ⟨v, 1, none⟩ (.string s)) v (d.1, s) := by
  obtain ⟨a, b, c, h, h2⟩ := h.ex
  exact ⟨a, b, c, by rw [heap_set h]; rfl, h2⟩
theorem Vt.vw {w : World} {v : Nat} {t : ByteArray} (h : Vt w v t) : Vw w v (1, t) := ⟨none, none, none, h.blk, .inl rfl⟩
theorem neqV_w (w : World) (l : Nat) : (binOp .neq 50 (ptr l) (.pointer none)).run Tryz.prog w = .ok (.bool true) w := by
  rw [run_neq_pointer_nil w 50 (some ⟨l, 0, none⟩) (by rw [Tryz.underlying50]; kernel_rfl)]; rfl
theorem eqlV_w (w : World) (l : Nat) : (binOp .eql 50 (ptr l) (.pointer none)).run Tryz.prog w = .ok (.bool false) w := by
  rw [run_eql_pointer_nil w 50 (some ⟨l, 0, none⟩) (by rw [Tryz.underlying50]; kernel_rfl)]; rfl
theorem kind_w (w : World) (v : Nat) (d : Kt) (h : Vw w v d) : Calls Tryz.prog 75 #[ptr v] w fun e w' => e = .returned (.int .i64 d.1) ∧ w' = w := by
  obtain ⟨kd, tx⟩ := d
  obtain ⟨a, b, c, h1, h2⟩ := h.ex
  have hq := eqlV_w w v
  clear h
  rcases h2 with h2 | ⟨h2, p, h3⟩
  · simp only at h2 h1 ⊢
    subst h2
    have k0 : w.cell? ⟨v, 0, none⟩ = some (.int .i64 1) := by simp [World.cell?, h1]
    clear h1
    go_enter Tryz.func75, Tryz.ntmps75
    go_wp2
    go_ret
    exact ⟨rfl, rfl⟩
  · simp only at h2 h1 ⊢
    subst h2
    subst h3
    have k0 : w.cell? ⟨v, 0, none⟩ = some (.int .i64 4) := by simp [World.cell?, h1]
    have k4 : w.cell? ⟨v, 4, none⟩ = some (.pointer (some p)) := by simp [World.cell?, h1]
    have hl : (binOp .eql 54 (.pointer (some p)) (.pointer none)).run Tryz.prog w = .ok (.bool false) w := by
      rw [run_eql_pointer_nil w 54 (some p) (by rw [Tryz.underlying54]; kernel_rfl)]; rfl
    clear h1
    go_enter Tryz.func75, Tryz.ntmps75
    go_wp2
    go_ret
    exact ⟨rfl, rfl⟩
theorem Empty_w (w : World) (v : Nat) (tx : ByteArray) (h : Vw w v (1, tx)) : Calls Tryz.prog 32 #[ptr v] w fun e w' => e = .returned (.bool false) ∧ Below w.heap.size w w' := by
  have HK := kind_w w v _ h
  clear h
  go_enter Tryz.func32, Tryz.ntmps32
  go_wp2_with fail
  refine HK.mono ?_
  rintro e w ⟨rfl, rfl⟩
  go_wp2
  go_ret
  exact ⟨rfl, Below.refl _ _⟩
theorem OfText_n (s : ByteArray) (w : World) : Calls Tryz.prog 17 #[.string s] w fun e w' => Below w.heap.size w w' ∧ ∃ v, e = .returned (ptr v) ∧ Vt w' v s ∧ w.heap.size ≤ v := by
  obtain ⟨wn, hwn⟩ : ∃ wn, w.alloc (.cells #[.int .i64 1, .string s, .pointer none, .pointer none, .pointer none] 56) = wn := ⟨_, rfl⟩
  have HB : Hid (Below w.heap.size w wn ∧ Vt wn w.heap.size s) := by rw [← hwn]; exact ⟨alloc_below w _, ⟨heap_alloc_new w _⟩⟩
  go_enter Tryz.func17, Tryz.ntmps17
  go_wp2
  go_ret
  exact ⟨HB.out.1, _, rfl, HB.out.2, Nat.le_refl _⟩
/-- What the keys of A have is what M says. -/
structure Vals (w : World) (U : Own) (A : Ab) (M : AbT) : Prop where
  no : ∀ k, M k = none → A k = none
  yes : ∀ k d u, M k = some (d, u) → ∃ v, A k = some (some ⟨v, 0, none⟩, u) ∧ Vw w v d ∧ U v
  inj : ∀ k j v u u', A k = some (some ⟨v, 0, none⟩, u) → A j = some (some ⟨v, 0, none⟩, u') → k = j
section
variable {w w' : World} {U : Own} {A A' : Ab} {M M' : AbT}
theorem Vals.mv (H : Vals w U A M) {t : TypeId → Bool} (hm : Mv t w w') (ht : t 56 = false) : Vals w' U A M :=
  ⟨H.no, fun k d u h => by
    obtain ⟨v, h1, h2, h3⟩ := H.yes k d u h
    exact ⟨v, h1, h2.mv hm ht, h3⟩, H.inj⟩
theorem Vals.keep (H : Vals w U A M) (hb : Below w.heap.size w w') : Vals w' U A M := H.mv (t := fun _ => false) (Mv.of_below hb) rfl
theorem Vals.off (H : Vals w U A M) {C U' : Own} (hm : Bel C w w') (hd : ∀ k, k < w.heap.size → U k → ¬ C k) (hU : ∀ k, k < w.heap.size → U k → U' k) : Vals w' U' A M :=
  ⟨H.no, fun k d u h => by
    obtain ⟨v, h1, h2, h3⟩ := H.yes k d u h
    exact ⟨v, h1, h2.kept (hm.block v h2.lt (hd v h2.lt h3)), hU v h2.lt h3⟩, H.inj⟩
/-- Fewer keys, other ends. -/
theorem Vals.sub (H : Vals w U A M) (h : ∀ k, (A' k = none ∧ M' k = none) ∨ ∃ a d u u', A k = some (a, u) ∧ M k = some (d, u) ∧ A' k = some (a, u') ∧ M' k = some (d, u')) : Vals w U A' M' := by
  have hA : ∀ k a u, A' k = some (a, u) → ∃ u0, A k = some (a, u0) := fun k a u hk => by
    rcases h k with ⟨h1, -⟩ | ⟨a', d, u1, u2, h1, -, h3, -⟩
    · rw [hk] at h1; cases h1
    · rw [hk] at h3; cases h3; exact ⟨u1, h1⟩
  refine ⟨fun k hk => ?_, fun k d u hk => ?_, fun k j v u u' hk hj => ?_⟩
  · rcases h k with h1 | ⟨a, d, u, u', h1, h2, h3, h4⟩
    · exact h1.1
    · rw [hk] at h4; cases h4
  · rcases h k with h1 | ⟨a, d', u1, u', h1, h2, h3, h4⟩
    · rw [hk] at h1; cases h1.2
    · rw [hk] at h4
      cases h4
      obtain ⟨v, h5, h6⟩ := H.yes k d u1 h2
      rw [h1] at h5
      cases h5
      exact ⟨v, h3, h6⟩
  · obtain ⟨u1, h1⟩ := hA k _ _ hk
    obtain ⟨u2, h2⟩ := hA j _ _ hj
    exact H.inj k j v u1 u2 h1 h2
theorem Vals.same (H : Vals w U A M) (k : ByteArray) : (A k = none ∧ M k = none) ∨ ∃ a d u u', A k = some (a, u) ∧ M k = some (d, u) ∧ A k = some (a, u') ∧ M k = some (d, u') := by
  cases h : M k with
  | none => exact .inl ⟨H.no k h, rfl⟩
  | some y =>
    obtain ⟨v, h1, -⟩ := H.yes k y.1 y.2 h
    exact .inr ⟨_, y.1, y.2, y.2, h1, rfl, h1, rfl⟩
theorem Vals.due (H : Vals w U A M) (t : Int) : Vals w U (dueA A t) (dueA M t) := by
  refine H.sub fun k => ?_
  unfold dueA
  cases h : M k with
  | none => rw [H.no k h]; exact .inl ⟨rfl, rfl⟩
  | some y =>
    obtain ⟨d, u⟩ := y
    obtain ⟨v, h1, -⟩ := H.yes k d u h
    rw [h1]
    cases u with
    | none => exact .inr ⟨_, _, _, _, rfl, rfl, rfl, rfl⟩
    | some e =>
      by_cases he : e ≤ t
      · exact .inl ⟨if_pos he, if_pos he⟩
      · exact .inr ⟨_, _, some e, some e, rfl, rfl, if_neg he, if_neg he⟩
theorem Vals.dueV (H : Vals w U A M) (V : ByteArray → Int) (t : Int) : dueV A V t = dueV M V t := by
  funext k
  unfold Sq.dueV
  cases h : M k with
  | none => rw [H.no k h]
  | some y =>
    obtain ⟨d, u⟩ := y
    obtain ⟨v, h1, -⟩ := H.yes k d u h
    rw [h1]
    cases u <;> rfl
theorem Vals.some_iff (H : Vals w U A M) (k : ByteArray) : (A k).isSome = (M k).isSome := by
  cases h : M k with
  | none => rw [H.no k h]; rfl
  | some y =>
    obtain ⟨v, h1, -⟩ := H.yes k y.1 y.2 h
    rw [h1]; rfl
theorem Vals.endq (H : Vals w U A M) (k : ByteArray) : endOf (A k) = endOf (M k) := by
  cases h : M k with
  | none => rw [H.no k h]; rfl
  | some y =>
    obtain ⟨v, h1, -⟩ := H.yes k y.1 y.2 h
    rw [h1]; rfl
/-- A value that no key has. -/
theorem Vals.put (H : Vals w U A M) (k : ByteArray) {v : Nat} {d : Kt} {u : Option Int} (hv : Vw w v d) (hU : U v) (hn : ∀ j u, A j ≠ some (some ⟨v, 0, none⟩, u)) : Vals w U (setA A k (some (some ⟨v, 0, none⟩, u))) (setA M k (some (d, u))) := by
  refine ⟨fun j hj => ?_, fun j d' u' hj => ?_, fun i j v' u1 u2 hi hj => ?_⟩
  · by_cases h : j = k
    · subst h; rw [setA_at] at hj; cases hj
    · rw [setA_ne _ _ h] at hj ⊢; exact H.no j hj
  · by_cases h : j = k
    · subst h
      rw [setA_at] at hj
      cases hj
      exact ⟨v, setA_at _ _ _, hv, hU⟩
    · rw [setA_ne _ _ h] at hj
      rw [setA_ne _ _ h]
      exact H.yes j d' u' hj
  · by_cases h1 : i = k
    · by_cases h2 : j = k
      · rw [h1, h2]
      · subst h1
        rw [setA_at] at hi
        cases hi
        rw [setA_ne _ _ h2] at hj
        exact absurd hj (hn j _)
    · rw [setA_ne _ _ h1] at hi
      by_cases h2 : j = k
      · subst h2
        rw [setA_at] at hj
        cases hj
        exact absurd hi (hn i _)
      · rw [setA_ne _ _ h2] at hj
        exact H.inj i j v' u1 u2 hi hj
/-- A value that is new. -/
theorem Vals.apart (H : Vals w U A M) {v : Nat} (hv : w.heap.size ≤ v) : ∀ j u, A j ≠ some (some ⟨v, 0, none⟩, u) := fun j u h => by
  cases hm : M j with
  | none => rw [H.no j hm] at h; cases h
  | some y =>
    obtain ⟨v', h1, h2, -⟩ := H.yes j y.1 y.2 hm
    rw [h1] at h
    cases h
    have := h2.lt
    omega
theorem Vals.del (H : Vals w U A M) (k : ByteArray) : Vals w U (setA A k none) (setA M k none) := H.sub fun j => by
  by_cases h : j = k
  · subst h; exact .inl ⟨setA_at _ _ _, setA_at _ _ _⟩
  · rw [setA_ne _ _ h, setA_ne _ _ h]; exact H.same j
theorem Vals.exp (H : Vals w U A M) (k : ByteArray) (u t : Int) : Vals w U (expA A k u t) (expA M k u t) := by
  unfold expA
  cases h : M k with
  | none => rw [H.no k h]; exact H
  | some y =>
    obtain ⟨d, u0⟩ := y
    obtain ⟨v, h1, -⟩ := H.yes k d u0 h
    rw [h1]
    refine H.sub fun j => ?_
    by_cases hj : j = k
    · subst hj
      simp only [setA_at]
      by_cases hu : u ≤ t
      · rw [if_pos hu, if_pos hu]; exact .inl ⟨rfl, rfl⟩
      · rw [if_neg hu, if_neg hu]; exact .inr ⟨_, d, u0, some u, h1, h, rfl, rfl⟩
    · simp only [setA_ne _ _ hj]; exact H.same j
/-- A value's text is turned. -/
theorem Vals.text (H : Vals w U A M) {k : ByteArray} {v : Nat} {d : Kt} {u : Option Int} (hk : A k = some (some ⟨v, 0, none⟩, u)) (hd : M k = some (d, u)) (s : ByteArray) : Vals (w.setCell ⟨v, 1, none⟩ (.string s)) U A (setA M k (some ((d.1, s), u))) := by
  obtain ⟨v0, h1, h2, h3⟩ := H.yes k d u hd
  rw [hk] at h1
  cases h1
  refine ⟨fun j hj => ?_, fun j d' u' hj => ?_, H.inj⟩
  · by_cases h : j = k
    · subst h; rw [setA_at] at hj; cases hj
    · rw [setA_ne _ _ h] at hj; exact H.no j hj
  · by_cases h : j = k
    · subst h
      rw [setA_at] at hj
      cases hj
      exact ⟨v, hk, h2.set s, h3⟩
    · rw [setA_ne _ _ h] at hj
      obtain ⟨v', k1, k2, k3⟩ := H.yes j d' u' hj
      have hne : v' ≠ v := fun e => by
        subst e
        exact h (H.inj j k v' _ _ k1 hk)
      exact ⟨v', k1, k2.kept (heap_ne hne), k3⟩
end
/-- The types of the blocks that a command turns. -/
def vtag (t : TypeId) : Bool := stag t || t == 56
theorem vtag_s : ∀ t, stag t = true → vtag t = true := fun t h => by unfold vtag; rw [h]; rfl
/-- A space with what its keys have. -/
structure Held (w : World) (U : Own) (s x : Nat) (NM : List ByteArray) (A : Ab) (M : AbT) (V : ByteArray → Int) : Prop where
  spc : Spc w U s x NM A V
  val : Vals w U A M
  pos : ∀ k, 0 ≤ V k
/-- A space as it is seen at t. -/
def Seen (w : World) (U : Own) (s x : Nat) (NM : List ByteArray) (t : Int) (M : AbT) (V : ByteArray → Int) : Prop :=
  ∃ A M0 V0, Held w U s x NM A M0 V0 ∧ dueA M0 t = M ∧ dueV M0 V0 t = V
/-- The same, when somebody has looked. -/
def Sure (w : World) (U : Own) (s x : Nat) (NM : List ByteArray) (t : Int) (A : Ab) (M : AbT) (V : ByteArray → Int) : Prop := Held w U s x NM A M V ∧ Still M t
section
variable {w w' : World} {U : Own} {s x : Nat} {NM : List ByteArray} {t : Int} {A : Ab} {M : AbT} {V : ByteArray → Int}
theorem Sure.seen (h : Sure w U s x NM t A M V) : Seen w U s x NM t M V := ⟨A, M, V, h.1, h.2.due, h.2.dueV V⟩
theorem Seen.still (h : Seen w U s x NM t M V) : Still M t := by
  obtain ⟨A, M0, V0, -, h2, -⟩ := h
  rw [← h2]
  exact dueA_still M0 t
theorem Held.keep (h : Held w U s x NM A M V) (hb : Below w.heap.size w w') : Held w' U s x NM A M V := ⟨h.spc.keep hb, h.val.keep hb, h.pos⟩
theorem Seen.keep (h : Seen w U s x NM t M V) (hb : Below w.heap.size w w') : Seen w' U s x NM t M V := by
  obtain ⟨A, M0, V0, h1, h2, h3⟩ := h
  exact ⟨A, M0, V0, h1.keep hb, h2, h3⟩
theorem Seen.up (h : Seen w U s x NM t M V) : Up U w := by
  obtain ⟨A, M0, V0, h1, -, -⟩ := h
  exact h1.spc.up
theorem Seen.off (h : Seen w U s x NM t M V) {C U' : Own} (hm : Bel C w w') (hd : ∀ k, k < w.heap.size → U k → ¬ C k) (hU : ∀ k, k < w.heap.size → U k → U' k) (hup : Up U' w') : Seen w' U' s x NM t M V := by
  obtain ⟨A, M0, V0, h1, h2, h3⟩ := h
  exact ⟨A, M0, V0, ⟨h1.spc.off hm hd hU hup, h1.val.off hm hd hU, h1.pos⟩, h2, h3⟩
theorem due_due {α : Type} (B : AbV α) {t u : Int} (h : t ≤ u) : dueA (dueA B t) u = dueA B u := by
  funext k
  unfold dueA
  cases hk : B k with
  | none => rfl
  | some y =>
    obtain ⟨v, e⟩ := y
    cases e with
    | none => rfl
    | some e =>
      by_cases h1 : e ≤ t
      · simp only [if_pos h1, if_pos (Int.le_trans h1 h)]
      · simp only [if_neg h1]
theorem dueV_due {α : Type} (B : AbV α) (V : ByteArray → Int) {t u : Int} (h : t ≤ u) : dueV (dueA B t) (dueV B V t) u = dueV B V u := by
  funext k
  unfold dueV dueA
  cases hk : B k with
  | none => rfl
  | some y =>
    obtain ⟨v, e⟩ := y
    cases e with
    | none => rfl
    | some e =>
      by_cases h1 : e ≤ t
      · simp only [if_pos h1, if_pos (Int.le_trans h1 h)]
      · simp only [if_neg h1]
theorem Seen.later (h : Seen w U s x NM t M V) {u : Int} (hu : t ≤ u) : Seen w U s x NM u (dueA M u) (dueV M V u) := by
  obtain ⟨A, M0, V0, h1, rfl, rfl⟩ := h
  exact ⟨A, M0, V0, h1, (due_due M0 hu).symm, (dueV_due M0 V0 hu).symm⟩
end
theorem Low.before {M0 : AbT} {V0 : ByteArray → Int} {t : Int} (h : Low (dueV M0 V0 t)) (h0 : ∀ k, 0 ≤ V0 k) : Low V0 := fun k => by
  have h1 := h k
  have h2 := dueV_le M0 V0 t k
  have h3 := h0 k
  omega
section
variable {w w' : World} {U : Own} {s x : Nat} {NM : List ByteArray} {t : Int} {A : Ab} {M : AbT} {V : ByteArray → Int}
theorem due_pos {α : Type} (B : AbV α) {V : ByteArray → Int} (t : Int) (h : ∀ k, 0 ≤ V k) : ∀ k, 0 ≤ dueV B V t k := fun k => by
  have h1 := h k
  have h2 := dueV_le B V t k
  omega
/-- Somebody has looked. -/
theorem Held.look (H : Held w U s x NM A M V) (t : Int) (h : DueTo w w' U s x NM A V t) : Mb stag U w w' ∧ Sure w' U s x NM t (dueA A t) (dueA M t) (dueV M V t) := by
  have h1 : To w w' U s x NM (dueA A t) (dueV A V t) := h
  rw [H.val.dueV] at h1
  exact ⟨h1.mb, ⟨h1.spc, (H.val.mv h1.mb.mv (by decide)).due t, due_pos M t H.pos⟩, dueA_still M t⟩
/-- What Get tells of a key. -/
def GotR (w' : World) (U : Own) (A : Ab) (M : AbT) (k : ByteArray) (e : Ending) : Prop := match M k with
  | none => e = .returned (.pointer none)
  | some (d, u) => ∃ v, e = .returned (ptr v) ∧ A k = some (some ⟨v, 0, none⟩, u) ∧ Vw w' v d ∧ U v
theorem Get_s (hS : Seen w U s x NM t M V) (hv : Low V) (k : ByteArray) (hk : k.size ≤ maxLen) :
    Calls Tryz.prog 14 #[ptr s, .string k, .int .i64 t] w fun e w' => Mb stag U w w' ∧ ∃ A, Sure w' U s x NM t A M V ∧ GotR w' U A M k e := by
  obtain ⟨A0, M0, V0, H, rfl, rfl⟩ := hS
  refine (Get_any w U s x NM A0 V0 H.spc (hv.before H.pos) t k hk).mono ?_
  rintro e w' ⟨rfl, hd⟩
  obtain ⟨h1, h2⟩ := H.look t hd
  refine ⟨h1, _, h2, ?_⟩
  unfold GotR
  cases hm : dueA M0 t k with
  | none => rw [h2.1.val.no k hm]; rfl
  | some y =>
    obtain ⟨v, h3, h4⟩ := h2.1.val.yes k y.1 y.2 hm
    exact ⟨v, by rw [h3]; rfl, h3, h4⟩
theorem Expiry_s (hS : Seen w U s x NM t M V) (hv : Low V) (k : ByteArray) (hk : k.size ≤ maxLen) :
    Calls Tryz.prog 19 #[ptr s, .string k, .int .i64 t] w fun e w' => e = .returned (.tuple #[.int .i64 ((endOf (M k)).getD 0), .bool (endOf (M k)).isSome]) ∧ Mb stag U w w' ∧ Seen w' U s x NM t M V := by
  obtain ⟨A0, M0, V0, H, rfl, rfl⟩ := hS
  refine (Expiry_any w U s x NM A0 V0 H.spc (hv.before H.pos) t k hk).mono ?_
  rintro e w' ⟨rfl, hd⟩
  obtain ⟨h1, h2⟩ := H.look t hd
  exact ⟨by rw [h2.1.val.endq], h1, h2.seen⟩
theorem setA_still {α : Type} {B : AbV α} (h : Still B t) (k : ByteArray) {d : α} {u : Option Int} (hu : ∀ e, u = some e → t < e) : Still (setA B k (some (d, u))) t := fun j v e hj => by
  by_cases hjk : j = k
  · subst hjk
    rw [setA_at] at hj
    cases hj
    exact hu e rfl
  · rw [setA_ne _ _ hjk] at hj
    exact h j v e hj
theorem inc_pos {V : ByteArray → Int} (h : ∀ k, 0 ≤ V k) (k : ByteArray) : ∀ j, 0 ≤ incV V k j := fun j => by
  have h1 := h j
  have h2 := incV_le V k j
  omega
theorem chg_pos {α : Type} (B : AbV α) {V : ByteArray → Int} (h : ∀ k, 0 ≤ V k) (k : ByteArray) : ∀ j, 0 ≤ chgV B V k j := fun j => by
  unfold chgV
  split
  · exact inc_pos h k j
  · exact h j
theorem chg_same {α β : Type} {B : AbV α} {C : AbV β} {k : ByteArray} (h : (B k).isSome = (C k).isSome) (V : ByteArray → Int) : chgV B V k = chgV C V k := by
  unfold chgV
  rw [h]
/-- A text of the call's own is put. -/
theorem Put_s {w0 : World} (hS : Seen w0 U s x NM t M V) (hb : Below w0.heap.size w0 w) (hv : Low V) (k : ByteArray) (hk : k ∈ NM) (hks : k.size ≤ 4096) (v : Nat) (tx : ByteArray) (hV : Vt w v tx) (hn : w0.heap.size ≤ v) :
    Calls Tryz.prog 16 #[ptr s, .string k, ptr v, .int .i64 t] w fun e w' => e = .returned (.int .i64 0) ∧ Mb stag U w w' ∧ Seen w' U s x NM t (setA M k (some ((1, tx), none))) (incV V k) := by
  have hU : U v := hS.up v hn
  obtain ⟨A0, M0, V0, H0, rfl, rfl⟩ := hS
  have H := H0.keep hb
  refine (Put_any w U s x NM A0 V0 H.spc (hv.before H.pos) t k hk hks (some ⟨v, 0, none⟩) (Empty_t w v tx hV)).mono ?_
  rintro e w' ⟨rfl, h1⟩
  have h1 : To w w' U s x NM (setA (dueA A0 t) k (some (some ⟨v, 0, none⟩, none))) (incV (dueV A0 V0 t) k) := h1
  rw [H.val.dueV] at h1
  refine ⟨rfl, h1.mb, Sure.seen (A := setA (dueA A0 t) k (some (some ⟨v, 0, none⟩, none))) ⟨⟨h1.spc, ?_, inc_pos (due_pos M0 t H.pos) k⟩, setA_still (dueA_still M0 t) k (fun e h => by cases h)⟩⟩
  refine ((H.val.mv h1.mb.mv (by decide)).due t).put k ((Vt.mb hV h1.mb).vw) hU ?_
  intro j u hj
  unfold dueA at hj
  have h2 := H0.val.apart hn j
  split at hj
  · rename_i v' e' he
    split at hj
    · cases hj
    · exact h2 _ (by rw [he]; cases hj; rfl)
  · exact h2 _ hj
theorem Expire_s (hS : Seen w U s x NM t M V) (hv : Low V) (u : Int) (hu : t < u) (k : ByteArray) (hk : k ∈ NM) (hks : k.size ≤ 4096) :
    Calls Tryz.prog 18 #[ptr s, .string k, .int .i64 u, .int .i64 t] w fun e w' => e = .returned (.bool (M k).isSome) ∧ Mb stag U w w' ∧ Seen w' U s x NM t (expA M k u t) (chgV M V k) := by
  obtain ⟨A0, M0, V0, H, rfl, rfl⟩ := hS
  refine (Expire_any w U s x NM A0 V0 H.spc (hv.before H.pos) u t k hk hks).mono ?_
  rintro e w' ⟨rfl, h1⟩
  have h1 : To w w' U s x NM (expA (dueA A0 t) k u t) (chgV (dueA A0 t) (dueV A0 V0 t) k) := h1
  have hV := (H.val.mv h1.mb.mv (t := stag) (by decide)).due t
  rw [H.val.dueV, chg_same (hV.some_iff k)] at h1
  refine ⟨by rw [hV.some_iff], h1.mb, Sure.seen ⟨⟨h1.spc, hV.exp k u t, chg_pos _ (due_pos M0 t H.pos) k⟩, ?_⟩⟩
  unfold expA
  split
  · rw [if_neg (Int.not_le.2 hu)]
    exact setA_still (dueA_still M0 t) k (fun e h => by cases h; exact hu)
  · exact dueA_still M0 t
/-- A value's text is turned, and the key is touched. -/
theorem Touch_s (hS : Sure w U s x NM t A M V) (hv : Low V) (k : ByteArray) (hk : k ∈ NM) (hks : k.size ≤ 4096) (tx : ByteArray) (u : Option Int) (hm : M k = some ((1, tx), u)) :
    Calls Tryz.prog 159 #[ptr s, .string k, .int .i64 t] w fun e w' => e = .returned (.tuple #[]) ∧ Mb stag U w w' ∧ Seen w' U s x NM t M (incV V k) := by
  obtain ⟨H, hst⟩ := hS
  obtain ⟨v, h3, h4, h5⟩ := H.val.yes k _ _ hm
  have hsA : Still A t := fun j a e hj => by
    cases hmj : M j with
    | none => rw [H.val.no j hmj] at hj; cases hj
    | some y =>
      obtain ⟨d', u'⟩ := y
      obtain ⟨v', k1, -⟩ := H.val.yes j d' u' hmj
      rw [k1] at hj
      cases hj
      exact hst j d' e hmj
  refine (Touch_any w U s x NM A V H.spc hv t k hk hks false (fun w1 a u' hmb ha => ?_)).mono ?_
  · rw [hsA.due, h3] at ha
    cases ha
    exact Empty_w w1 v _ (h4.mv hmb.mv (by decide))
  rintro e w' ⟨rfl, h1⟩
  have h1 : To w w' U s x NM (dueA A t) (chgV (dueA A t) (dueV A V t) k) := h1
  rw [hsA.due, hsA.dueV] at h1
  have hc : chgV A V k = incV V k := by unfold chgV; rw [h3]; rfl
  rw [hc] at h1
  exact ⟨rfl, h1.mb, Sure.seen ⟨⟨h1.spc, H.val.mv h1.mb.mv (by decide), inc_pos H.pos k⟩, hst⟩⟩
end
end Go.Proofs.YtnajhjmdpaeelaaGreatDoor.Sq
namespace Go.Proofs.YtnajhjmdpaeelaaGreatDoor.Sq
open Go.RowKit Go.PlainAid
open Dk (ptr below_drewN alloc_below step_below add_flat OwnR OwnP OwnS Mv pcells Elt elt_of)
open Cy (RdS)
/-- A fault in memory: what is told, and the code under it. -/
structure Flt (w : World) (E : Value) (s : ByteArray) (c : Int) : Prop where
  ex : ∃ g, E = .iface 170 (.pointer (some ⟨g, 0, none⟩)) ∧ w.heap[g]? = some (.cells #[.string s, codeV c] 172 (0, 0))
theorem Flt.new (w : World) (s : ByteArray) (c : Int) : Flt (newW w s (codeV c)) (newE w) s c := ⟨⟨w.heap.size, rfl, heap_alloc_new w _⟩⟩
theorem Flt.kept {w wn : World} {E : Value} {s : ByteArray} {c : Int} (h : Flt w E s c) (hb : ∀ g, E = .iface 170 (.pointer (some ⟨g, 0, none⟩)) → g < w.heap.size → wn.heap[g]? = w.heap[g]?) : Flt wn E s c := by
  obtain ⟨g, h1, h2⟩ := h.ex
  exact ⟨⟨g, h1, by rw [hb g h1 (Array.getElem?_eq_some_iff.1 h2).1]; exact h2⟩⟩
theorem Flt.keep {w wn : World} {E : Value} {s : ByteArray} {c : Int} (h : Flt w E s c) (hb : Below w.heap.size w wn) : Flt wn E s c := h.kept fun g _ hg => hb.block g hg
theorem Flt.mv {w wn : World} {E : Value} {s : ByteArray} {c : Int} (h : Flt w E s c) (hm : Mv vtag w wn) : Flt wn E s c := by
  obtain ⟨g, h1, h2⟩ := h.ex
  exact ⟨⟨g, h1, by rw [hm.block g _ _ h2 (by decide)]; exact h2⟩⟩
theorem Flt.code {w : World} {E : Value} {s : ByteArray} {c : Int} (h : Flt w E s c) (hg : Laid w) : Calls Tryz.prog 10 #[E] w fun e w' => e = .returned (.int .i64 c) ∧ Below w.heap.size w w' := by
  obtain ⟨g, h1, h2⟩ := h.ex
  have h3 : Cy.Flt w E s c := ⟨⟨g, h1, by simp [World.cell?, h2], by simp [World.cell?, h2]⟩⟩
  exact h3.code hg
/-- A command that is done. -/
structure Cll (w : World) (c s : Nat) (t : Int) (nm : ByteArray) (a : Option Addr) (n m : Nat) : Prop where
  blk : w.heap[c]? = some (.cells #[ptr s, .int .i64 t, .string nm, .slice a n m] 92 (0, 0))
/-- Its words. -/
structure Ars (w : World) (a : Option Addr) (n : Nat) (ls : List ByteArray) : Prop where
  rd : RdS w a n ls
  tg : ∀ ad, a = some ad → ∃ cs t, w.heap[ad.block]? = some (.cells cs t (0, 0)) ∧ vtag t = false
theorem Ars.mv {w w' : World} {a : Option Addr} {n : Nat} {ls : List ByteArray} (h : Ars w a n ls) (hm : Mv vtag w w') : Ars w' a n ls := by
  have hk : ∀ ad, a = some ad → w'.heap[ad.block]? = w.heap[ad.block]? := fun ad e => by
    obtain ⟨cs, t, h1, h2⟩ := h.tg ad e
    exact hm.block _ _ _ h1 h2
  refine ⟨⟨h.rd.len, h.rd.max, fun j hj => ?_⟩, fun ad e => ?_⟩
  · obtain ⟨b, off, e, h1⟩ := h.rd.cell j hj
    refine ⟨b, off, e, ?_⟩
    have h2 := hk _ e
    unfold World.cell? at h1 ⊢
    rw [h2]; exact h1
  · obtain ⟨cs, t, h1, h2⟩ := h.tg ad e
    exact ⟨cs, t, by rw [hk ad e]; exact h1, h2⟩
/-- All that a command stands on. -/
structure Ctx (w : World) (U : Own) (s x : Nat) (NM : List ByteArray) (t : Int) (M : AbT) (V : ByteArray → Int) (c : Nat) (nm : ByteArray) (a : Option Addr) (n m : Nat) (ls : List ByteArray) : Prop where
  seen : Seen w U s x NM t M V
  cll : Cll w c s t nm a n m
  ars : Ars w a n ls
  laid : Laid w
  u0 : ¬ U 0
theorem Laid.bel {w w' : World} {U : Own} (h : Laid w) (hm : Bel U w w') (h0 : ¬ U 0) : Laid w' := by
  have h1 : w'.heap[0]? = w.heap[0]? := hm.block 0 (lt_of_cell? h) h0
  unfold Laid World.cell? at h ⊢
  rw [h1]; exact h
section
variable {w w' : World} {U : Own} {s x : Nat} {NM : List ByteArray} {t : Int} {M M' : AbT} {V V' : ByteArray → Int} {c : Nat} {nm : ByteArray} {a : Option Addr} {n m : Nat} {ls : List ByteArray}
theorem Cll.mv (h : Cll w c s t nm a n m) (hm : Mv vtag w w') : Cll w' c s t nm a n m := ⟨by rw [hm.block c _ _ h.blk (by decide)]; exact h.blk⟩
theorem Cll.c0 (h : Cll w c s t nm a n m) : w.cell? ⟨c, 0, none⟩ = some (ptr s) := by simp [World.cell?, h.blk]
theorem Cll.c1 (h : Cll w c s t nm a n m) : w.cell? ⟨c, 1, none⟩ = some (.int .i64 t) := by simp [World.cell?, h.blk]
theorem Cll.c2 (h : Cll w c s t nm a n m) : w.cell? ⟨c, 2, none⟩ = some (.string nm) := by simp [World.cell?, h.blk]
theorem Cll.c3 (h : Cll w c s t nm a n m) : w.cell? ⟨c, 3, none⟩ = some (.slice a n m) := by simp [World.cell?, h.blk]
theorem Ctx.step (h : Ctx w U s x NM t M V c nm a n m ls) (hm : Mb vtag U w w') (hS : Seen w' U s x NM t M' V') : Ctx w' U s x NM t M' V' c nm a n m ls :=
  ⟨hS, h.cll.mv hm.mv, h.ars.mv hm.mv, Laid.bel h.laid hm.be h.u0, h.u0⟩
theorem Ctx.keep (h : Ctx w U s x NM t M V c nm a n m ls) (hb : Below w.heap.size w w') : Ctx w' U s x NM t M V c nm a n m ls :=
  h.step (Mb.of_below hb) (h.seen.keep hb)
/-- The word at a place. -/
theorem Ctx.word (h : Ctx w U s x NM t M V c nm a n m ls) {j : Nat} (hj : j < n) : ∃ b off, a = some ⟨b, off, none⟩ ∧ w.cell? ⟨b, off + j, none⟩ = some (.string (ls.getD j ByteArray.empty)) := h.ars.rd.cell j hj
end
/-- A reply's four cells. -/
structure Rp where
  kd : Int
  s : ByteArray
  n : Int
  a : Option Addr
  m : Nat
  c : Nat
def Rp.v (r : Rp) : Value := .agg #[.int .i64 r.kd, .string r.s, .int .i64 r.n, .slice r.a r.m r.c]
abbrev Rp.cs (r : Rp) : Array Value := #[.int .i64 r.kd, .string r.s, .int .i64 r.n, .slice r.a r.m r.c]
def Rp.z : Rp := ⟨0, ⟨#[]⟩, 0, none, 0, 0⟩
/-- A reply's variable. -/
def VarR (w : World) (g : Nat) (r : Rp) : Prop := w.heap[g]? = some (.cells r.cs 39 (0, 0))
abbrev set4 (w : World) (g : Nat) (r : Rp) : World := (((w.setCell ⟨g, 0, none⟩ (.int .i64 r.kd)).setCell ⟨g, 1, none⟩ (.string r.s)).setCell ⟨g, 2, none⟩ (.int .i64 r.n)).setCell ⟨g, 3, none⟩ (.slice r.a r.m r.c)
theorem VarR.cells {w : World} {g : Nat} {r : Rp} (h : VarR w g r) : w.cell? ⟨g, 0, none⟩ = some (.int .i64 r.kd) ∧ w.cell? ⟨g, 1, none⟩ = some (.string r.s) ∧ w.cell? ⟨g, 2, none⟩ = some (.int .i64 r.n) ∧ w.cell? ⟨g, 3, none⟩ = some (.slice r.a r.m r.c) := by
  unfold VarR at h
  simp only [World.cell?, h]
  exact ⟨rfl, rfl, rfl, rfl⟩
theorem VarR.free {w : World} {g : Nat} {r : Rp} (h : VarR w g r) (o : Nat) : w.frozen? ⟨g, o, none⟩ = false := by
  unfold VarR at h
  simp [World.frozen?, h]
theorem VarR.lt {w : World} {g : Nat} {r : Rp} (h : VarR w g r) : g < w.heap.size := (Array.getElem?_eq_some_iff.1 h).1
theorem VarR.mv {w w' : World} {g : Nat} {r : Rp} (h : VarR w g r) (hm : Mv vtag w w') : VarR w' g r := by
  unfold VarR
  rw [hm.block g _ _ h (by decide)]
  exact h
theorem VarR.set {w : World} {g : Nat} {r : Rp} (h : VarR w g r) (d : Rp) : VarR (set4 w g d) g d := by
  unfold VarR
  rw [heap_set (heap_set (heap_set (heap_set h)))]
  rfl
theorem VarR.new (w : World) : VarR (w.alloc (.cells Rp.z.cs 39)) w.heap.size Rp.z := heap_alloc_new w _
/-- The reply's variable is new: what was there is as it was. -/
theorem set4_below {w0 w : World} {g : Nat} (hg : w0.heap.size ≤ g) (hb : Below w0.heap.size w0 w) (r : Rp) : Below w0.heap.size w0 (set4 w g r) := (((hb.setCell hg _).setCell hg _).setCell hg _).setCell hg _
theorem Bel.set {U : Own} {w0 w : World} {g o : Nat} {v : Value} (h : Bel U w0 w) (hg : w0.heap.size ≤ g) : Bel U w0 (w.setCell ⟨g, o, none⟩ v) :=
  ⟨h.os, h.tape, h.output, by simpa [World.setCell] using h.size, fun k hk hn => by rw [heap_ne (by omega)]; exact h.block k hk hn⟩
theorem Mv.setn {p : TypeId → Bool} {w0 w : World} {g o : Nat} {v : Value} (h : Mv p w0 w) (hg : w0.heap.size ≤ g) : Mv p w0 (w.setCell ⟨g, o, none⟩ v) :=
  ⟨h.os, h.tape, h.output, by simpa [World.setCell] using h.size, fun k cs t hk ht => by
    have hlt := (Array.getElem?_eq_some_iff.1 hk).1
    rw [heap_ne (by omega)]; exact h.block k cs t hk ht⟩
theorem Mb.setn {p : TypeId → Bool} {U : Own} {w0 w : World} {g o : Nat} {v : Value} (h : Mb p U w0 w) (hg : w0.heap.size ≤ g) : Mb p U w0 (w.setCell ⟨g, o, none⟩ v) := ⟨Mv.setn h.mv hg, h.be.set hg⟩
theorem Mb.set4 {p : TypeId → Bool} {U : Own} {w0 w : World} {g : Nat} (h : Mb p U w0 w) (hg : w0.heap.size ≤ g) (r : Rp) : Mb p U w0 (set4 w g r) := (((h.setn hg).setn hg).setn hg).setn hg
/-- A block that is no part of a space is turned. -/
theorem Seen.set {w : World} {U : Own} {s x : Nat} {NM : List ByteArray} {t : Int} {M : AbT} {V : ByteArray → Int} (h : Seen w U s x NM t M V) {g o : Nat} {v : Value} {cs : Array Value} {ty : TypeId} (hg : w.heap[g]? = some (.cells cs ty (0, 0))) (ht : vtag ty = false) : Seen (w.setCell ⟨g, o, none⟩ v) U s x NM t M V := by
  obtain ⟨A, M0, V0, h1, h2, h3⟩ := h
  have hm : Mv (fun t => t == ty) w (w.setCell ⟨g, o, none⟩ v) := Mv.set hg (by simp)
  have hn : ∀ k, vtag k = true → (k == ty) = false := fun k hk => by
    cases e : k == ty with
    | false => rfl
    | true => rw [eq_of_beq e] at hk; rw [hk] at ht; cases ht
  exact ⟨A, M0, V0, ⟨h1.spc.mv hm (fun k hk => hn k (vtag_s k hk)), h1.val.mv hm (hn _ (by decide)), h1.pos⟩, h2, h3⟩
theorem Seen.set4 {w : World} {U : Own} {s x : Nat} {NM : List ByteArray} {t : Int} {M : AbT} {V : ByteArray → Int} (h : Seen w U s x NM t M V) {g : Nat} {r0 : Rp} (hg : VarR w g r0) (r : Rp) : Seen (set4 w g r) U s x NM t M V :=
  (((h.set hg (by decide)).set (heap_set hg) (by decide)).set (heap_set (heap_set hg)) (by decide)).set (heap_set (heap_set (heap_set hg))) (by decide)
theorem Tryz.infoR : (Tryz.prog.info? 39).map (·.size) = some 4 := by kernel_rfl
/-- A reply comes back out of its cell; with one thing more. -/
theorem ret_R {fn : Func} {p : Tmp} (h : fn.results = #[.cell p 39]) {tmps : Array Value} {w : World} {g : Nat} {r : Rp} {Q : Ending → World → Prop}
    (hp : tmps.getD p undef = .pointer (some ⟨g, 0, none⟩)) (hg : VarR w g r) (hQ : Q (.returned r.v) w) : bodyPost Tryz.prog fn Q .ret { tmps := tmps, defers := [] } w :=
  bodyPost_ret (results_cell_row h _ _ g 39 _ (0, 0) _ hp hg Tryz.underlying39 rfl Tryz.infoR) rfl hQ
theorem ret_E {fn : Func} {p t : Tmp} (h : fn.results = #[.cell p 39, .tmp t]) {tmps : Array Value} {w : World} {g : Nat} {r : Rp} {x : Value} {Q : Ending → World → Prop}
    (hp : tmps.getD p undef = .pointer (some ⟨g, 0, none⟩)) (hx : tmps.getD t undef = x) (hg : VarR w g r) (hQ : Q (.returned (.tuple #[r.v, x])) w) : bodyPost Tryz.prog fn Q .ret { tmps := tmps, defers := [] } w := by
  subst hx
  exact bodyPost_ret (Cy.results_cell_tmp h _ _ g 39 _ (0, 0) _ hp hg Tryz.underlying39 rfl Tryz.infoR) rfl hQ
theorem Bulk_r (s : ByteArray) (w : World) : Calls Tryz.prog 93 #[.string s] w fun r w' => r = .returned (Rp.mk 4 s 0 none 0 0).v ∧ Below w.heap.size w w' := by
  have HE : Hid _ := alloc_below w (.cells #[.int .i64 4, .string s, .int .i64 0, .slice none 0 0] 39)
  go_enter Tryz.func93, Tryz.ntmps93
  go_wp2
  exact ret_R (r := ⟨4, s, 0, none, 0, 0⟩) rfl rfl (heap_alloc_new w _) ⟨rfl, HE.out⟩
theorem Int_r (n : Int) (w : World) : Calls Tryz.prog 99 #[.int .i64 n] w fun r w' => r = .returned (Rp.mk 3 ⟨#[]⟩ n none 0 0).v ∧ Below w.heap.size w w' := by
  have HE : Hid _ := alloc_below w (.cells #[.int .i64 3, .string ⟨#[]⟩, .int .i64 n, .slice none 0 0] 39)
  go_enter Tryz.func99, Tryz.ntmps99
  go_wp2
  exact ret_R (r := ⟨3, ⟨#[]⟩, n, none, 0, 0⟩) rfl rfl (heap_alloc_new w _) ⟨rfl, HE.out⟩
theorem OK_r (w : World) : Calls Tryz.prog 96 #[] w fun r w' => r = .returned (Rp.mk 1 ⟨#[79, 75]⟩ 0 none 0 0).v ∧ Below w.heap.size w w' := by
  have HE : Hid _ := alloc_below w (.cells #[.int .i64 1, .string ⟨#[79, 75]⟩, .int .i64 0, .slice none 0 0] 39)
  go_enter Tryz.func96, Tryz.ntmps96
  go_wp2
  exact ret_R (r := ⟨1, ⟨#[79, 75]⟩, 0, none, 0, 0⟩) rfl rfl (heap_alloc_new w _) ⟨rfl, HE.out⟩
theorem null_r (w : World) : Calls Tryz.prog 92 #[] w fun r w' => r = .returned (Rp.mk 5 ⟨#[]⟩ 0 none 0 0).v ∧ Below w.heap.size w w' := by
  have HE : Hid _ := alloc_below w (.cells #[.int .i64 5, .string ⟨#[]⟩, .int .i64 0, .slice none 0 0] 39)
  go_enter Tryz.func92, Tryz.ntmps92
  go_wp2
  exact ret_R (r := ⟨5, ⟨#[]⟩, 0, none, 0, 0⟩) rfl rfl (heap_alloc_new w _) ⟨rfl, HE.out⟩
section
variable {w w' : World} {U : Own} {s x : Nat} {NM : List ByteArray} {t : Int} {M M' : AbT} {V V' : ByteArray → Int} {c : Nat} {nm : ByteArray} {a : Option Addr} {n m : Nat} {ls : List ByteArray}
theorem because_any (why : Int) (hw : ¬ why = 0) (w : World) (h : Cll w c s t nm a n m) :
    Calls Tryz.prog 54 #[ptr c, .int .i64 why] w fun e w' => e = .returned (newE w) ∧ w' = newW w nm (codeV why) := by
  have c2 := h.c2
  have HN := New_err nm why hw w
  clear h
  go_enter Tryz.func54, Tryz.ntmps54
  go_wp2_with fail
  refine HN.mono ?_
  rintro e w' ⟨rfl, rfl⟩
  go_wp2
  go_ret
  exact ⟨rfl, rfl⟩
/-- A refusal. -/
def Rfs (w' : World) (nm : ByteArray) (why : Int) (e : Ending) : Prop := ∃ E, e = .returned (.tuple #[Rp.z.v, E]) ∧ Flt w' E nm why
theorem newW_set4 (w : World) (nm : ByteArray) (why : Int) (g : Nat) (hg : g < w.heap.size) (r : Rp) : Flt (set4 (newW w nm (codeV why)) g r) (newE w) nm why := by
  refine (Flt.new w nm why).kept fun b h1 _ => ?_
  have hb : b = w.heap.size := by cases h1; rfl
  have hne : b ≠ g := by omega
  rw [set4, heap_ne hne, heap_ne hne, heap_ne hne, heap_ne hne]
theorem refuse_any (why : Int) (hw : ¬ why = 0) (w : World) (h : Cll w c s t nm a n m) :
    Calls Tryz.prog 27 #[ptr c, .int .i64 why] w fun e w' => Below w.heap.size w w' ∧ Rfs w' nm why e := by
  obtain ⟨w1, hw1⟩ : ∃ w1, w.alloc (.cells Rp.z.cs 39) = w1 := ⟨_, rfl⟩
  have hb1 : Below w.heap.size w w1 := by rw [← hw1]; exact alloc_below w _
  have hv1 : VarR w1 w.heap.size Rp.z := by rw [← hw1]; exact VarR.new w
  have HB := because_any why hw w1 (h.mv (Mv.of_below hb1))
  have hv2 : VarR (newW w1 nm (codeV why)) w.heap.size Rp.z := hv1.mv (Mv.of_below (newW_below w1 nm (codeV why)))
  obtain ⟨w2, hw2⟩ : ∃ w2, newW w1 nm (codeV why) = w2 := ⟨_, rfl⟩
  obtain ⟨E, hE⟩ : ∃ E, newE w1 = E := ⟨_, rfl⟩
  rw [hw2] at HB hv2
  rw [hE] at HB
  have HE : Hid (Below w.heap.size w (set4 w2 w.heap.size Rp.z) ∧ Rfs (set4 w2 w.heap.size Rp.z) nm why (.returned (.tuple #[Rp.z.v, E]))) := by
    refine ⟨set4_below (Nat.le_refl _) ?_ _, E, rfl, ?_⟩
    · rw [← hw2]; exact hb1.trans ((newW_below w1 nm (codeV why)).mono hb1.size)
    · rw [← hE, ← hw2]; exact newW_set4 w1 nm why _ hv1.lt _
  have HV : Hid (VarR (set4 w2 w.heap.size Rp.z) w.heap.size Rp.z) := hv2.set _
  obtain ⟨z0, z1, z2, z3⟩ := hv2.cells
  have fz := hv2.free
  have hal : w.alloc (.cells #[.int .i64 0, .string ⟨#[]⟩, .int .i64 0, .slice none 0 0] 39) = w1 := hw1
  clear hb1 hv1 hv2 hw2 hE h hw1
  simp only [Rp.z] at z0 z1 z2 z3
  go_enter Tryz.func27, Tryz.ntmps27
  go_wp2_with (go_at_call 54; first | rw [hal] | skip; refine HB.mono ?_; rintro e wx ⟨rfl, rfl⟩)
  exact ret_E (r := Rp.z) (x := E) rfl rfl rfl HV.out HE.out
theorem number_no (k : ByteArray) (hk : k.size ≤ maxLen) (w : World) (h : Cll w c s t nm a n m) (ho : parseL (lst k) = none) :
    Calls Tryz.prog 108 #[ptr c, .string k] w fun e w' => e = .returned (.tuple #[.int .i64 0, newE w]) ∧ w' = newW w nm (codeV 5) := by
  have HP := Parse_any k w hk _ ho
  have HB := because_any 5 (by decide) w h
  obtain ⟨E, hE⟩ : ∃ E, newE w = E := ⟨_, rfl⟩
  obtain ⟨w2, hw2⟩ : ∃ w2, newW w nm (codeV 5) = w2 := ⟨_, rfl⟩
  rw [hE, hw2] at HB
  rw [hE, hw2]
  clear h ho hE hw2
  replace HP : Calls Tryz.prog 157 #[.string k] w fun e w' => e = .returned (.tuple #[.int .i64 0, .bool false]) ∧ w' = w := HP
  go_enter Tryz.func108, Tryz.ntmps108
  go_wp2_with (first
    | (go_at_call 157; refine HP.mono ?_; rintro e wx ⟨rfl, rfl⟩)
    | (go_at_call 54; refine HB.mono ?_; rintro e wx ⟨rfl, rfl⟩))
  go_ret2
  exact ⟨rfl, rfl⟩
theorem number_yes (k : ByteArray) (hk : k.size ≤ maxLen) (z : Int) (w : World) (ho : parseL (lst k) = some z) :
    Calls Tryz.prog 108 #[ptr c, .string k] w fun e w' => e = .returned (.tuple #[.int .i64 z, .nilIface]) ∧ w' = w := by
  have HP := Parse_any k w hk _ ho
  clear ho
  replace HP : Calls Tryz.prog 157 #[.string k] w fun e w' => e = .returned (.tuple #[.int .i64 z, .bool true]) ∧ w' = w := HP
  go_enter Tryz.func108, Tryz.ntmps108
  go_wp2_with (go_at_call 157; refine HP.mono ?_; rintro e wx ⟨rfl, rfl⟩)
  go_ret2
  exact ⟨rfl, rfl⟩
theorem Is_yes (w : World) (v : Nat) (d : Kt) (h : Vw w v d) (hd : d.1 = 1) :
    Calls Tryz.prog 148 #[ptr v, .int .i64 1] w fun e w' => e = .returned .nilIface ∧ Below w.heap.size w w' := by
  have HK := kind_w w v d h
  rw [hd] at HK
  have hq := eqlV_w w v
  clear h
  go_enter Tryz.func148, Tryz.ntmps148
  go_wp2_with (go_at_call 75; refine HK.mono ?_; rintro e wx ⟨rfl, rfl⟩)
  go_ret
  exact ⟨rfl, Below.refl _ _⟩
theorem Is_no (w : World) (v : Nat) (d : Kt) (h : Vw w v d) (hd : ¬ d.1 = 1) :
    Calls Tryz.prog 148 #[ptr v, .int .i64 1] w fun e w' => e = .returned (newE w) ∧ w' = newW w ⟨#[]⟩ (codeV 4) := by
  have HK := kind_w w v d h
  have HN := New_err ⟨#[]⟩ 4 (by decide) w
  obtain ⟨E, hE⟩ : ∃ E, newE w = E := ⟨_, rfl⟩
  obtain ⟨w2, hw2⟩ : ∃ w2, newW w ⟨#[]⟩ (codeV 4) = w2 := ⟨_, rfl⟩
  rw [hE, hw2] at HN
  rw [hE, hw2]
  have hq := eqlV_w w v
  have h4 : d.1 = 4 := by
    obtain ⟨a, b, c, -, h2 | h2⟩ := h.ex
    · exact absurd h2 hd
    · exact h2.1
  rw [h4] at HK
  clear h hE hw2 hd h4
  go_enter Tryz.func148, Tryz.ntmps148
  go_wp2_with (first
    | (go_at_call 75; refine HK.mono ?_; rintro e wx ⟨rfl, rfl⟩)
    | (go_at_call 53; refine HN.mono ?_; rintro e wx ⟨rfl, rfl⟩))
  go_ret
  exact ⟨rfl, rfl⟩
end
section
variable {w w' : World} {U : Own} {s x : Nat} {NM : List ByteArray} {t : Int} {M M' : AbT} {V V' : ByteArray → Int} {c : Nat} {nm : ByteArray} {a : Option Addr} {n m : Nat} {ls : List ByteArray}
/-- What text tells. -/
def TextR (w' : World) (nm : ByteArray) (y : Option (Kt × Option Int)) (e : Ending) : Prop := match y with
  | none => e = .returned (.tuple #[.string ⟨#[]⟩, .bool false, .nilIface])
  | some (d, _) => (d.1 = 1 ∧ e = .returned (.tuple #[.string d.2, .bool true, .nilIface])) ∨ (¬ d.1 = 1 ∧ ∃ E, e = .returned (.tuple #[.string ⟨#[]⟩, .bool false, E]) ∧ Flt w' E nm 4)
theorem text_any (hC : Ctx w U s x NM t M V c nm a n m ls) (hv : Low V) (k : ByteArray) (hk : k.size ≤ maxLen) :
    Calls Tryz.prog 91 #[ptr c, .string k] w fun e w' => Mb vtag U w w' ∧ Seen w' U s x NM t M V ∧ TextR w' nm (M k) e := by
  have hC1 : Ctx w.drew U s x NM t M V c nm a n m ls := hC.keep (below_drewN w 1)
  have HC1 : Hid (Ctx w.drew U s x NM t M V c nm a n m ls) := hC1
  have HM1 : Hid (Mb vtag U w w.drew) := Mb.of_below (below_drewN w 1)
  have HG := Get_s hC1.seen hv k hk
  have c0 := hC1.cll.c0
  have c1 := hC1.cll.c1
  clear hC hC1
  cases hy : M k with
  | none =>
    replace HG : Calls Tryz.prog 14 #[ptr s, .string k, .int .i64 t] w.drew fun e w' => e = .returned (.pointer none) ∧ Mb stag U w.drew w' ∧ Seen w' U s x NM t M V := HG.mono (by
      rintro e w' ⟨h1, A, h2, h3⟩
      unfold GotR at h3
      rw [hy] at h3
      exact ⟨h3, h1, h2.seen⟩)
    go_enter Tryz.func91, Tryz.ntmps91
    go_upto_region 1 with fail
    go_region_with (go_at_call 14; refine HG.mono ?_; rintro e w1 ⟨rfl, hm1, hS1⟩)
    all_goals
      have HE : Hid (Mb vtag U w w1 ∧ Seen w1 U s x NM t M V) := ⟨HM1.out.trans (Mb.mono hm1 vtag_s), hS1⟩
      clear hm1 hS1
      go_wp2
      go_ret3
      exact ⟨HE.out.1, HE.out.2, rfl⟩
  | some y =>
    obtain ⟨d, u⟩ := y
    replace HG : Calls Tryz.prog 14 #[ptr s, .string k, .int .i64 t] w.drew fun e w' => ∃ v, e = .returned (ptr v) ∧ Mb stag U w.drew w' ∧ Seen w' U s x NM t M V ∧ Vw w' v d := HG.mono (by
      rintro e w' ⟨h1, A, h2, h3⟩
      unfold GotR at h3
      rw [hy] at h3
      obtain ⟨v, h4, -, h5, -⟩ := h3
      exact ⟨v, h4, h1, h2.seen, h5⟩)
    go_enter Tryz.func91, Tryz.ntmps91
    go_upto_region 1 with fail
    go_region_with (go_at_call 14; refine HG.mono ?_; rintro e w1 ⟨v, rfl, hm1, hS1, hw1⟩)
    all_goals
      have HC2 : Hid (Ctx w1 U s x NM t M V c nm a n m ls) := HC1.out.step (Mb.mono hm1 vtag_s) hS1
      have HE : Hid (Mb vtag U w w1) := HM1.out.trans (Mb.mono hm1 vtag_s)
      have hnn := eqlV_w w1 v
      by_cases hd : d.1 = 1
      · have HIs := Is_yes w1 v d hw1 hd
        have HW : Hid (Vw w1 v d) := hw1
        have HD : Hid (d.1 = 1) := hd
        clear hm1 hS1 hw1 c0 c1
        go_wp2_with fail
        refine HIs.mono ?_
        rintro e w2 ⟨rfl, hb2⟩
        have ht2 := (HW.out.mv (Mv.of_below hb2) (t := fun _ => false) rfl).ct
        have HE2 : Hid (Mb vtag U w w2 ∧ Seen w2 U s x NM t M V) := ⟨HE.out.trans (Mb.of_below hb2), HC2.out.seen.keep hb2⟩
        clear hb2 HIs hnn
        go_wp2
        go_ret3
        exact ⟨HE2.out.1, HE2.out.2, .inl ⟨HD.out, rfl⟩⟩
      · have HIs := Is_no w1 v d hw1 hd
        have HD : Hid (¬ d.1 = 1) := hd
        clear hm1 hS1 hw1 c0 c1
        go_wp2_with fail
        refine HIs.mono ?_
        rintro e w2 ⟨rfl, hw2⟩
        have hb2 : Below w1.heap.size w1 w2 := by rw [hw2]; exact newW_below _ _ _
        have hF2 : Flt w2 (newE w1) ⟨#[]⟩ 4 := by rw [hw2]; exact Flt.new w1 ⟨#[]⟩ 4
        have hC3 := HC2.out.keep hb2
        have HCd := hF2.code hC3.laid
        have HC3 : Hid (Ctx w2 U s x NM t M V c nm a n m ls) := hC3
        have HE2 : Hid (Mb vtag U w w2) := HE.out.trans (Mb.of_below hb2)
        obtain ⟨E, hE⟩ : ∃ E, newE w1 = .iface 170 E := ⟨_, rfl⟩
        rw [hE] at HCd ⊢
        clear hw2 hb2 hF2 hC3 HIs hnn hE
        go_wp2_with (go_at_call 10; refine HCd.mono ?_; rintro e w3 ⟨rfl, hb3⟩; have HC4 : Hid (Ctx w3 U s x NM t M V c nm a n m ls) := HC3.out.keep hb3; have HB := because_any 4 (by decide) w3 HC4.out.cll; have HE3 : Hid (Mb vtag U w w3) := HE2.out.trans (Mb.of_below hb3); clear hb3)
        refine HB.mono ?_
        rintro e w4 ⟨rfl, rfl⟩
        have HE4 : Hid (Mb vtag U w (newW w3 nm (codeV 4)) ∧ Seen (newW w3 nm (codeV 4)) U s x NM t M V) := ⟨HE3.out.trans (Mb.of_below (newW_below _ _ _)), HC4.out.seen.keep (newW_below _ _ _)⟩
        clear HB
        go_wp2
        go_ret3
        exact ⟨HE4.out.1, HE4.out.2, .inr ⟨HD.out, _, rfl, Flt.new w3 nm 4⟩⟩
theorem isThere_any (hC : Ctx w U s x NM t M V c nm a n m ls) (hv : Low V) (k : ByteArray) (hk : k.size ≤ maxLen) :
    Calls Tryz.prog 97 #[ptr c, .string k] w fun e w' => e = .returned (.bool (M k).isSome) ∧ Mb vtag U w w' ∧ Seen w' U s x NM t M V := by
  have hC1 : Ctx w.drew U s x NM t M V c nm a n m ls := hC.keep (below_drewN w 1)
  have HM1 : Hid (Mb vtag U w w.drew) := Mb.of_below (below_drewN w 1)
  have HG := Get_s hC1.seen hv k hk
  have c0 := hC1.cll.c0
  have c1 := hC1.cll.c1
  clear hC hC1
  cases hy : M k with
  | none =>
    replace HG : Calls Tryz.prog 14 #[ptr s, .string k, .int .i64 t] w.drew fun e w' => e = .returned (.pointer none) ∧ Mb stag U w.drew w' ∧ Seen w' U s x NM t M V := HG.mono (by
      rintro e w' ⟨h1, A, h2, h3⟩
      unfold GotR at h3
      rw [hy] at h3
      exact ⟨h3, h1, h2.seen⟩)
    go_enter Tryz.func97, Tryz.ntmps97
    go_upto_region 1 with fail
    go_region_with (go_at_call 14; refine HG.mono ?_; rintro e w1 ⟨rfl, hm1, hS1⟩; have HE : Hid (Mb vtag U w w1 ∧ Seen w1 U s x NM t M V) := ⟨HM1.out.trans (Mb.mono hm1 vtag_s), hS1⟩; clear hm1 hS1)
    all_goals
      go_wp2
      go_ret
      exact ⟨rfl, HE.out.1, HE.out.2⟩
  | some y =>
    obtain ⟨d, u⟩ := y
    replace HG : Calls Tryz.prog 14 #[ptr s, .string k, .int .i64 t] w.drew fun e w' => ∃ v, e = .returned (ptr v) ∧ Mb stag U w.drew w' ∧ Seen w' U s x NM t M V := HG.mono (by
      rintro e w' ⟨h1, A, h2, h3⟩
      unfold GotR at h3
      rw [hy] at h3
      obtain ⟨v, h4, -, h5, -⟩ := h3
      exact ⟨v, h4, h1, h2.seen⟩)
    go_enter Tryz.func97, Tryz.ntmps97
    go_upto_region 1 with fail
    go_region_with (go_at_call 14; refine HG.mono ?_; rintro e w1 ⟨v, rfl, hm1, hS1⟩; have HE : Hid (Mb vtag U w w1 ∧ Seen w1 U s x NM t M V) := ⟨HM1.out.trans (Mb.mono hm1 vtag_s), hS1⟩; have hnn := neqV_w w1 v; clear hm1 hS1)
    all_goals
      go_wp2
      go_ret
      exact ⟨rfl, HE.out.1, HE.out.2⟩
end
section
variable {w w' : World} {U : Own} {s x : Nat} {NM : List ByteArray} {t : Int} {M M' : AbT} {V V' : ByteArray → Int} {c : Nat} {nm : ByteArray} {a : Option Addr} {n m : Nat} {ls : List ByteArray}
set_option maxRecDepth 100000 in
theorem put_any (hC : Ctx w U s x NM t M V c nm a n m ls) (hv : Low V) (k : ByteArray) (hk : k ∈ NM) (hks : k.size ≤ 4096) (tx : ByteArray) :
    Calls Tryz.prog 98 #[ptr c, .string k, .string tx] w fun e w' => e = .returned (.tuple #[]) ∧ Mb vtag U w w' ∧ Seen w' U s x NM t (setA M k (some ((1, tx), none))) (incV V k) := by
  have HC1 : Hid (Ctx w.drew U s x NM t M V c nm a n m ls) := hC.keep (below_drewN w 1)
  have HM1 : Hid (Mb vtag U w w.drew) := Mb.of_below (below_drewN w 1)
  have HO := OfText_n tx w.drew
  have HF : Hid (∀ wx, Mb vtag U w.drew wx → wx.cell? ⟨c, 0, none⟩ = some (ptr s) ∧ wx.cell? ⟨c, 1, none⟩ = some (.int .i64 t)) := fun wx hb => ⟨(HC1.out.cll.mv hb.mv).c0, (HC1.out.cll.mv hb.mv).c1⟩
  have HB : Hid (Below w.drew.heap.size w.drew w.drew) := Below.refl _ _
  obtain ⟨c0, c1⟩ := HF.out _ (Mb.of_below HB.out)
  clear hC
  go_enter Tryz.func98, Tryz.ntmps98
  go_upto_region 0 with fail
  go_region_held3 (fun w' => w'.cell? ⟨c, 0, none⟩ = some (ptr s) ∧ w'.cell? ⟨c, 1, none⟩ = some (.int .i64 t)) (first | exact HF.out _ (Mb.of_below HB.out) | exact HF.out _ HP.out) (first
    | (go_at_call 17; refine HO.mono ?_; rintro e w1 ⟨hb, v, rfl, hvt, hvn⟩; have HV : Hid (Vt w1 v tx ∧ w.drew.heap.size ≤ v) := ⟨hvt, hvn⟩; replace HB : Hid (Below w.drew.heap.size w.drew w1) := hb; clear hb hvt hvn)
    | (go_at_call 16; refine (Put_s HC1.out.seen HB.out hv k hk hks _ tx HV.out.1 HV.out.2).mono ?_; rintro e w2 ⟨rfl, hm2, hS2⟩; have HE : Hid (Mb vtag U w w2 ∧ Seen w2 U s x NM t (setA M k (some ((1, tx), none))) (incV V k)) := ⟨(HM1.out.trans (Mb.of_below HB.out)).trans (Mb.mono hm2 vtag_s), hS2⟩; have HP : Hid (Mb vtag U w.drew w2) := (Mb.of_below HB.out).trans (Mb.mono hm2 vtag_s); clear HB hm2 hS2))
  all_goals
    go_wp2
    go_end0
    exact ⟨rfl, HE.out.1, HE.out.2⟩
end
/-- What keep leaves. -/
def keepM (M : AbT) (k tx : ByteArray) : AbT := match M k with
  | none => setA M k (some ((1, tx), none))
  | some (d, u) => setA M k (some ((d.1, tx), u))
def keepV (M : AbT) (V : ByteArray → Int) (k tx : ByteArray) : ByteArray → Int := match M k with
  | none => incV V k
  | some (d, _) => if d.2 = tx then V else incV V k
section
variable {w w' : World} {U : Own} {s x : Nat} {NM : List ByteArray} {t : Int} {A : Ab} {M M' : AbT} {V V' : ByteArray → Int} {c : Nat} {nm : ByteArray} {a : Option Addr} {n m : Nat} {ls : List ByteArray}
theorem Sure.ctx (h : Sure w' U s x NM t A M V) (hC : Ctx w U s x NM t M V c nm a n m ls) (hm : Mb vtag U w w') : Ctx w' U s x NM t M V c nm a n m ls := hC.step hm h.seen
/-- A value's text is turned. -/
theorem Sure.text (h : Sure w U s x NM t A M V) {k : ByteArray} {v : Nat} {d : Kt} {u : Option Int} (hk : A k = some (some ⟨v, 0, none⟩, u)) (hd : M k = some (d, u)) (tx : ByteArray) :
    Sure (w.setCell ⟨v, 1, none⟩ (.string tx)) U s x NM t A (setA M k (some ((d.1, tx), u))) V ∧ Mb vtag U w (w.setCell ⟨v, 1, none⟩ (.string tx)) := by
  obtain ⟨H, hst⟩ := h
  obtain ⟨v', h1, h2, h3⟩ := H.val.yes k d u hd
  rw [hk] at h1
  cases h1
  obtain ⟨p, q, r, hb, -⟩ := h2.ex
  have hm : Mv (fun y => y == 56) w (w.setCell ⟨v, 1, none⟩ (.string tx)) := Mv.set hb (by simp)
  refine ⟨⟨⟨H.spc.mv hm (fun y hy => ?_), H.val.text hk hd tx, H.pos⟩, setA_still hst k (fun e he => hst k d e (by rw [hd, he]))⟩, Mb.set hb (by decide) h3⟩
  cases e : y == 56 with
  | false => rfl
  | true =>
    rw [eq_of_beq e] at hy
    exact absurd hy (by decide)
set_option maxRecDepth 100000 in
set_option maxHeartbeats 1600000 in
theorem keep_any (hC : Ctx w U s x NM t M V c nm a n m ls) (hv : Low V) (k : ByteArray) (hk : k ∈ NM) (hks : k.size ≤ 4096) (tx : ByteArray) (h1 : ∀ d u, M k = some (d, u) → d.1 = 1) :
    Calls Tryz.prog 110 #[ptr c, .string k, .string tx] w fun e w' => e = .returned (.tuple #[]) ∧ Mb vtag U w w' ∧ Seen w' U s x NM t (keepM M k tx) (keepV M V k tx) := by
  have hC1 : Ctx w.drew U s x NM t M V c nm a n m ls := hC.keep (below_drewN w 1)
  have HC1 : Hid (Ctx w.drew U s x NM t M V c nm a n m ls) := hC1
  have HM1 : Hid (Mb vtag U w w.drew) := Mb.of_below (below_drewN w 1)
  have HG := Get_s hC1.seen hv k (by unfold maxLen; omega)
  have c0 := hC1.cll.c0
  have c1 := hC1.cll.c1
  clear hC hC1
  cases hy : M k with
  | none =>
    have HF : Hid (keepM M k tx = setA M k (some ((1, tx), none)) ∧ keepV M V k tx = incV V k) := by
      refine ⟨?_, ?_⟩
      · unfold keepM; rw [hy]
      · unfold keepV; rw [hy]
    replace HG : Calls Tryz.prog 14 #[ptr s, .string k, .int .i64 t] w.drew fun e w' => e = .returned (.pointer none) ∧ Mb stag U w.drew w' ∧ Seen w' U s x NM t M V := HG.mono (by
      rintro e w' ⟨h1, A, h2, h3⟩
      unfold GotR at h3
      rw [hy] at h3
      exact ⟨h3, h1, h2.seen⟩)
    clear hy h1
    go_enter Tryz.func110, Tryz.ntmps110
    go_upto_region 0 with fail
    go_region_with (go_at_call 14; refine HG.mono ?_; rintro e w1 ⟨rfl, hm1, hS1⟩; have HC2 : Hid (Ctx w1 U s x NM t M V c nm a n m ls) := HC1.out.step (Mb.mono hm1 vtag_s) hS1; have HM2 : Hid (Mb vtag U w w1) := HM1.out.trans (Mb.mono hm1 vtag_s); clear hm1 hS1)
    all_goals
      have HP := put_any HC2.out hv k hk hks tx
      clear HC1 HM1 HG
      go_wp2_with fail
      refine HP.mono ?_
      rintro e w2 ⟨rfl, hm2, hS2⟩
      have HE : Hid (Mb vtag U w w2 ∧ Seen w2 U s x NM t (keepM M k tx) (keepV M V k tx)) := ⟨HM2.out.trans hm2, by rw [HF.out.1, HF.out.2]; exact hS2⟩
      clear hm2 hS2 HP
      go_wp2
      go_end0
      exact ⟨rfl, HE.out⟩
  | some y =>
    obtain ⟨⟨kd, tx0⟩, u⟩ := y
    have hkd : kd = 1 := h1 _ _ hy
    subst hkd
    replace HG : Calls Tryz.prog 14 #[ptr s, .string k, .int .i64 t] w.drew fun e w' => ∃ v, e = .returned (ptr v) ∧ Mb stag U w.drew w' ∧ ∃ A, Sure w' U s x NM t A M V ∧ A k = some (some ⟨v, 0, none⟩, u) ∧ Vw w' v (1, tx0) := HG.mono (by
      rintro e w' ⟨h1, A, h2, h3⟩
      unfold GotR at h3
      rw [hy] at h3
      obtain ⟨v, h4, h6, h5, -⟩ := h3
      exact ⟨v, h4, h1, A, h2, h6, h5⟩)
    have HY : Hid (M k = some ((1, tx0), u)) := hy
    clear hy h1
    by_cases hq : tx0 = tx
    · subst hq
      have HF : Hid (keepM M k tx0 = M ∧ keepV M V k tx0 = V) := by
        refine ⟨?_, ?_⟩
        · unfold keepM; rw [HY.out]; exact setA_self HY.out
        · unfold keepV; rw [HY.out]; exact if_pos rfl
      go_enter Tryz.func110, Tryz.ntmps110
      go_upto_region 0 with fail
      go_region_with (go_at_call 14; refine HG.mono ?_; rintro e w1 ⟨v, rfl, hm1, A, hS1, hA, hw1⟩; have HE : Hid (Mb vtag U w w1 ∧ Seen w1 U s x NM t (keepM M k tx0) (keepV M V k tx0)) := ⟨HM1.out.trans (Mb.mono hm1 vtag_s), by rw [HF.out.1, HF.out.2]; exact hS1.seen⟩; have ht := hw1.ct; have hnn := eqlV_w w1 v; clear hm1 hS1 hA hw1)
      all_goals
        go_wp2
        go_end0
        exact ⟨rfl, HE.out⟩
    · have HF : Hid (keepM M k tx = setA M k (some ((1, tx), u)) ∧ keepV M V k tx = incV V k) := by
        refine ⟨?_, ?_⟩
        · unfold keepM; rw [HY.out]
        · unfold keepV; rw [HY.out]; exact if_neg hq
      have hneq : (tx0.toList == tx.toList) = false := by rw [toList_beq, decide_eq_false hq]
      go_enter Tryz.func110, Tryz.ntmps110
      go_upto_region 0 with fail
      go_region_with (go_at_call 14; refine HG.mono ?_; rintro e w1 ⟨v, rfl, hm1, A, hS1, hA, hw1⟩; have HC2 : Hid (Ctx w1 U s x NM t M V c nm a n m ls) := HC1.out.step (Mb.mono hm1 vtag_s) hS1.seen; have HM2 : Hid (Mb vtag U w w1) := HM1.out.trans (Mb.mono hm1 vtag_s); have HS1 : Hid (Sure w1 U s x NM t A M V ∧ A k = some (some ⟨v, 0, none⟩, u)) := ⟨hS1, hA⟩; have ht := hw1.ct; have hz := hw1.fz 1; have hnn := eqlV_w w1 v; clear hm1 hS1 hA hw1)
      all_goals
        obtain ⟨w2, hw2⟩ : ∃ w2, w1.setCell ⟨v, 1, none⟩ (.string tx) = w2 := ⟨_, rfl⟩
        obtain ⟨hS2, hM2⟩ := HS1.out.1.text HS1.out.2 HY.out tx
        rw [hw2] at hS2 hM2
        have HS2 : Hid (Sure w2.drew U s x NM t A (setA M k (some ((1, tx), u))) V) := ⟨hS2.1.keep (below_drewN w2 1), hS2.2⟩
        have hC2 := (hS2.seen)
        have hC3 : Cll w2.drew c s t nm a n m := (HC2.out.cll.mv hM2.mv).mv (Mv.of_below (below_drewN w2 1))
        have d0 := hC3.c0
        have d1 := hC3.c1
        have HM3 : Hid (Mb vtag U w w2.drew) := (HM2.out.trans hM2).trans (Mb.of_below (below_drewN w2 1))
        have HT := Touch_s HS2.out hv k hk hks tx u (setA_at _ _ _)
        clear hS2 hM2 hC2 hC3 HG c0 c1 hq
        go_upto_region 5 with fail
        go_region_with (go_at_call 159; refine HT.mono ?_; rintro e w4 ⟨rfl, hm4, hS4⟩; have HE : Hid (Mb vtag U w w4 ∧ Seen w4 U s x NM t (keepM M k tx) (keepV M V k tx)) := ⟨HM3.out.trans (Mb.mono hm4 vtag_s), by rw [HF.out.1, HF.out.2]; exact hS4⟩; clear hm4 hS4)
        all_goals
          go_wp2
          go_end0
          exact ⟨rfl, HE.out⟩
end
end Go.Proofs.YtnajhjmdpaeelaaGreatDoor.Sq
