/-
  Parts of rows that append is handed; append as one step of a region that draws.
-/
import Derived.Test.YtlapiaoopmhogaaDoorCa
namespace Go.Proofs.YtlapiaoopmhogaaDoor
open Go.RowKit Go.PlainAid

/-- What append is handed: m elements of s cells each. -/
structure SrcT (w : World) (s : Nat) (xa : Option Addr) (m c : Nat) (news : List Value) : Prop where
  len : news.length = m * s
  nul : xa = none → m = 0 ∧ c = 0
  cell : ∀ ad, xa = some ad → ∀ j u, news[j]? = some u → w.cell? (ad.add j) = some u
theorem SrcT.keep {w wn : World} {s : Nat} {xa : Option Addr} {m c : Nat} {news : List Value} (h : SrcT w s xa m c news) (hb : Below w.heap.size w wn) : SrcT wn s xa m c news :=
  ⟨h.len, h.nul, fun ad e j u hu => by
    have h1 := h.cell ad e j u hu
    rw [hb.cell (p := ad.add j) (World.block_lt_of_cell? _ _ h1)]
    exact h1⟩
theorem SrcT.kept {w wn : World} {s : Nat} {g o : Nat} {m c : Nat} {news : List Value} (h : SrcT w s (some ⟨g, o, none⟩) m c news) (hb : wn.heap[g]? = w.heap[g]?) : SrcT wn s (some ⟨g, o, none⟩) m c news :=
  ⟨h.len, h.nul, fun ad e j u hu => by
    have h1 := h.cell ad e j u hu
    cases e
    rw [add_flat] at h1 ⊢
    rw [World.cell?_of_block hb]; exact h1⟩
theorem OwnT.head {w : World} {B s : Nat} {a : Option Addr} {n cap : Nat} {cs : List Value} (h : OwnT w B s a n cap cs) (k : Nat) (hk : k ≤ n) : SrcT w s (if cap = 0 then a else a.map (·.add (0 * s))) (k - 0) (cap - 0) (cs.take (k * s)) := by
  have hks : k * s ≤ n * s := Nat.mul_le_mul_right _ hk
  refine ⟨by rw [List.length_take, h.1, Nat.sub_zero]; omega, fun e => ?_, fun ad e j u hu => ?_⟩
  · rcases h.2 with ⟨rfl, h2, h3⟩ | ⟨g, cur, tg, rfl, h4⟩
    · omega
    · split at e <;> simp at e
  · rcases h.2 with ⟨rfl, h2, h3⟩ | ⟨g, cur, tg, rfl, h3, h4, h5, h6, h7, h8⟩
    · split at e <;> simp at e
    · have e1 : ad = ⟨g, 0, none⟩ := by
        split at e
        · exact (Option.some.inj e).symm
        · rw [Option.map_some, Nat.zero_mul, add_flat] at e
          exact (Option.some.inj e).symm
      subst e1
      rw [List.getElem?_take] at hu
      split at hu
      · rw [← h8, List.getElem?_take] at hu
        split at hu
        · rw [add_flat, Nat.zero_add, cell_of_row w g j cur tg (0, 0) h4]; simpa using hu
        · cases hu
      · cases hu
theorem OwnT.tail {w : World} {B s : Nat} {a : Option Addr} {n cap : Nat} {cs : List Value} (h : OwnT w B s a n cap cs) (k : Nat) (hk : k ≤ n) : SrcT w s (if cap = k then a else a.map (·.add (k * s))) (n - k) (cap - k) (cs.drop (k * s)) := by
  have hks : k * s ≤ n * s := Nat.mul_le_mul_right _ hk
  have hcap := h.cap.1
  refine ⟨by rw [List.length_drop, h.1, Nat.sub_mul], fun e => ?_, fun ad e j u hu => ?_⟩
  · rcases h.2 with ⟨rfl, h2, h3⟩ | ⟨g, cur, tg, rfl, h4⟩
    · omega
    · split at e <;> simp at e
  · rcases h.2 with ⟨rfl, h2, h3⟩ | ⟨g, cur, tg, rfl, h3, h4, h5, h6, h7, h8⟩
    · split at e <;> simp at e
    · rw [List.getElem?_drop] at hu
      have hlt := (List.getElem?_eq_some_iff.1 hu).1
      rw [h.1] at hlt
      have hne : ¬ cap = k := by
        intro e
        have : n = k := by omega
        subst this
        omega
      rw [if_neg hne, Option.map_some, add_flat] at e
      have e1 := (Option.some.inj e).symm
      subst e1
      rw [← h8, List.getElem?_take, if_pos hlt] at hu
      rw [add_flat, Nat.zero_add, cell_of_row w g _ cur tg (0, 0) h4]; simpa using hu
theorem Tryd.sizeR (w : World) : (sizeOf 30).run Tryd.prog w = .ok 5 w := by go_simp
theorem Tryd.elemR : Tryd.prog.elem 22 = 30 := by simp [Program.elem, Tryd.underlying22]
/-- l[:k], l[k:], rows of the document's commands. -/
theorem OwnT.slice_h {w : World} {B : Nat} {a : Option Addr} {n cap : Nat} {cs : List Value} (h : OwnT w B 5 a n cap cs) (k : Nat) (hk : k ≤ n) :
    ∃ a' c', (∀ wx, (Instr.sliceAt 22 (.slice a n cap) none (some (.int .i64 k)) none).run Tryd.prog wx = .ok (.slice a' k c') wx) ∧ SrcT w 5 a' k c' (cs.take (k * 5)) := by
  refine ⟨_, _, fun wx => ?_, h.head k hk⟩
  have hc := h.cap
  have ht : Tryd.prog.underlying 22 = some (.slice (Tryd.prog.elem 22)) := by rw [Tryd.elemR]; exact Tryd.underlying22
  rw [run_sliceAt_slice _ _ _ _ _ _ ht, run_slice_h (P := Tryd.prog) wx 22 a n cap ht .i64 k (by omega) (by omega), Tryd.elemR, Tryd.sizeR]
  simp [Result.andThen, sliced]
theorem OwnT.slice_l {w : World} {B : Nat} {a : Option Addr} {n cap : Nat} {cs : List Value} (h : OwnT w B 5 a n cap cs) (k : Nat) (hk : k ≤ n) :
    ∃ a' c', (∀ wx, (Instr.sliceAt 22 (.slice a n cap) (some (.int .i64 k)) none none).run Tryd.prog wx = .ok (.slice a' (n - k) c') wx) ∧ SrcT w 5 a' (n - k) c' (cs.drop (k * 5)) := by
  refine ⟨_, _, fun wx => ?_, h.tail k hk⟩
  have hc := h.cap
  have ht : Tryd.prog.underlying 22 = some (.slice (Tryd.prog.elem 22)) := by rw [Tryd.elemR]; exact Tryd.underlying22
  rw [run_sliceAt_slice _ _ _ _ _ _ ht, run_slice_l (P := Tryd.prog) wx 22 a n cap ht .i64 k (by omega) (by omega), Tryd.elemR, Tryd.sizeR]
  simp [Result.andThen, sliced]
theorem OwnT.empty {w : World} {X B s : Nat} {t : TypeId} (h : w.heap[X]? = some (.cells #[] t (0, 0))) (hX : B ≤ X) : OwnT w B s (some ⟨X, 0, none⟩) 0 0 [] :=
  ⟨by simp, .inr ⟨X, #[], t, rfl, hX, h, Nat.le_refl _, by decide, by simp, by simp⟩⟩
theorem SrcT.one {w : World} {X s c : Nat} {cs : Array Value} {t : TypeId} (h : w.heap[X]? = some (.cells cs t (0, 0))) (hs : cs.size = s) : SrcT w s (some ⟨X, 0, none⟩) 1 c cs.toList :=
  ⟨by simp [hs], (fun e => by cases e), fun ad e j u hu => by
    cases e
    rw [add_flat, Nat.zero_add, cell_of_row w X j cs t (0, 0) h]; simpa using hu⟩

theorem step_append_t {w : World} {ops : Array Oper} {o : Oper} {ac : Act} {K : Act → World → Prop} {Q : Exit → Act → World → Prop} {E : Prop} (hgd : o.guard = none) (s x : Operand) {t e : TypeId} {sz by8 : Nat} (ho : o.op = .call { callee := .builtin .append, args := #[s, x], argTypes := #[t, t] })
    (F : Elt t e sz by8) (B : Nat) {a : Option Addr} {n cap : Nat} {cs : List Value} (hs : ac.eval s = .slice a n cap) (hown : OwnT w B sz a n cap cs) {xa : Option Addr} {m c : Nat} (news : List Value) (hx : ac.eval x = .slice xa m c) (hsrc : SrcT w sz xa m c news)
    (h1 : ∀ u ∈ news, u.oneCell' = true) (hb : (n + m) * by8 ≤ 140737488355328) (h63 : n + m ≤ maxLen) (hB : B ≤ w.heap.size)
    (h : ∀ a2 n2 c2 w2, n2 = n + m → Hid (OwnT w2 B sz a2 n2 c2 (cs ++ news)) → Hid (w.grownBy w2 (a.map (·.block))) → K (ac.put o.dst (.slice a2 n2 c2)) w2) : if Region.wanted o (yielded ops ac.tmps) = true then Oper.wp Tryd.prog o ac w K Q else E := by
  have hw : Region.wanted o (yielded ops ac.tmps) = true := by simp [Region.wanted, hgd]
  rw [if_pos hw]
  obtain ⟨a2, c2, w2, k1, k2, k3⟩ := run_append_t w B F hown (c := c) news hsrc.len hsrc.nul hsrc.cell h1 hb h63 hB o.type
  unfold Oper.wp
  simp [execOp, ho, resolve, invoke, builtin, hs, hx, k1, Result.andThen]
  exact h a2 _ c2 w2 rfl k2 k3
end Go.Proofs.YtlapiaoopmhogaaDoor
