/-
  putAhead: a text comes ahead of another of a node.
-/
import Derived.Test.YtemiajjjhhofaacCut
namespace Go.Proofs.Ytemiajjjhhofaac
open Go.RowKit Go.PlainAid

theorem hdA_adr {R : Nat} {a b : List Nd} (h : adr a = adr b) : hdA R a = hdA R b := by
  cases a with
  | nil => cases b with
    | nil => rfl
    | cons d r => cases h
  | cons x r => cases b with
    | nil => cases h
    | cons d r2 => rw [adr_cons, adr_cons] at h; injection h
theorem laA_adr {R : Nat} {a b : List Nd} (h : adr a = adr b) : laA R a = laA R b := by
  rcases snoc_ex a with rfl | ⟨k, d, rfl⟩
  · cases b with
    | nil => rfl
    | cons d r => cases h
  · rcases snoc_ex b with rfl | ⟨k2, d2, rfl⟩
    · rw [adr_append] at h; simp [adr] at h
    · rw [laA_snoc, laA_snoc]
      rw [adr_append, adr_append] at h
      have := (List.append_inj' h rfl).2
      simpa [adr] using this

/-- A join behind which the nodes ahead of the gap's left one are as they were. -/
theorem JoinAt.fore {w w' : World} {B l R most cnt : Nat} {P Q l2 : List Nd} {b : Bool} (h : Lst w B l R most cnt (P ++ Q ++ l2)) (hok : Ok most (P ++ Q ++ l2)) (hQ : Q ≠ []) (hj : JoinAt w B l R most cnt (P ++ Q) l2 b w') : ∃ X, Lst w' B l R most cnt (P ++ X) ∧ Goes w w' l R (P ++ Q ++ l2) (P ++ X) ∧ Ok most (P ++ X) ∧ txN (P ++ X) = txN (P ++ Q ++ l2) := by
  rcases hj with ⟨-, hb⟩ | ⟨hb, k1, d, e, k2, d', e1, rfl, h4, h5, h6, h7, h8⟩
  · refine ⟨Q ++ l2, ?_, ?_, ?_, by rw [List.append_assoc]⟩
    · rw [← List.append_assoc]; exact h.keep hb
    · rw [← List.append_assoc]; exact Goes.of_below hb _ _ _
    · rw [← List.append_assoc]; exact hok
  · rcases snoc_ex Q with rfl | ⟨q, x, rfl⟩
    · exact absurd rfl hQ
    · rw [← List.append_assoc] at e1
      obtain ⟨rfl, rfl⟩ := snoc_inj e1
      have hd : Does w B l R most cnt (P ++ (q ++ [x]) ++ e :: k2) (txN (P ++ (q ++ [x]) ++ e :: k2)) w' := JoinAt.does h hok (.inr ⟨hb, P ++ q, x, e, k2, d', by rw [List.append_assoc], rfl, h4, h5, h6, h7, h8⟩)
      refine ⟨q ++ d' :: k2, by rw [← List.append_assoc]; exact h4, by rw [List.append_assoc P q] at h5; exact h5, ?_, ?_⟩
      · rw [← List.append_assoc]
        intro y hy
        rcases mem_or hy with rfl | hy
        · have := (hok x (by simp)).1
          rw [h7, List.length_append] at h8 ⊢
          omega
        · refine hok y ?_
          simp only [List.mem_append, List.mem_cons, List.not_mem_nil, or_false] at hy ⊢
          rcases hy with (hy | hy) | hy
          · exact .inl (.inl hy)
          · exact .inl (.inr (.inl hy))
          · exact .inr (.inr hy)
      · simp only [txN_append, txN_cons, h7, txN_nil, List.append_assoc, List.append_nil]

end Go.Proofs.Ytemiajjjhhofaac
