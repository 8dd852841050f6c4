/-
  slices.Replace at []byte, all of it.
-/
import Derived.Test.YtemiajjjhhofaabRepFit
import Derived.Test.YtemiajjjhhofaabRepNew
import Derived.Test.YtemiajjjhhofaabRep0
namespace Go.Proofs.Ytemiajjjhhofaab
open Go.RowKit Go.PlainAid

/-- slices.Replace. -/
theorem Replace_sl (B C : Nat) (a : Option Addr) (n c : Nat) (l : List UInt8) (a2 : Option Addr) (m c2 : Nat) (r : List UInt8) (i j : Nat) (w : World) (hO : Own w B a n c l) (hV : Own w C a2 m c2 r) (hC : ∀ x, a = some x → x.block < C) (hi : i ≤ j) (hj : j ≤ n) (hm : 0 < m ∨ a2 = none) (hb : n + m ≤ 140737488355328) (hB : B ≤ w.heap.size) :
    Calls Try.prog 65 #[.slice a n c, .int .i64 i, .int .i64 j, .slice a2 m c2] w fun e w' => Turned w B a (l.take i ++ (r ++ l.drop j)) e w' := by
  have hl := hO.len
  have hr := hV.len
  by_cases hij : i = j
  · subst hij
    exact replace_none B C a n c l a2 m c2 r i w hO hV hC hj hb hB
  · obtain ⟨g, cur, rfl, h1, h2, h3, h4, h5, h6⟩ := hO.parts (by omega)
    rcases Nat.eq_zero_or_pos m with hm0 | hm1
    · have ha : a2 = none := hm.resolve_left (by omega)
      subst ha
      subst hm0
      have hr0 : r = [] := List.length_eq_zero_iff.1 hr
      subst hr0
      have hc2 : c2 = 0 := hV.rd.nul rfl
      subst hc2
      by_cases hjn : j = n
      · subst hjn
        exact replace_end0 B g j c l i w cur h1 h2 h3 h4 h5 h6 hl (by omega)
      · exact replace_fit0 B g n c l 0 0 [] i j w cur h1 h2 h3 h4 h5 h6 hl rfl rfl (by omega) (by omega) (by omega) (by omega)
    have hrd := hV.rd
    obtain ⟨h, cv, rfl, k1, k2, k3, k4, k5, k6⟩ := hV.parts (by omega)
    have hne : h ≠ g := by have := hC _ rfl; simp at this; omega
    by_cases hjn : j = n
    · subst hjn
      by_cases hx : i + m < j
      · exact replace_less B g j c l h m c2 r i w cur h1 h2 hrd h3 h4 h5 h6 hl (by omega) hx
      · exact replace_end B g j c l h m c2 r i w cur h1 hB h2 hrd h3 h4 h5 h6 hl (by omega) (by omega) hb
    · by_cases hroom : i + m + (n - j) ≤ c
      · by_cases hx : i + m ≤ j
        · exact replace_fit B g n c l h m c2 r i j w cur cv h1 h2 k2 hne h3 h4 h5 h6 k6 hl hr (by omega) (by omega) hb hx
        · exact replace_wide B g n c l h m c2 r i j w cur cv h1 h2 k2 hne h3 h4 h5 h6 k6 (by omega) hl hr (by omega) (by omega) hb (by omega) hroom
      · exact replace_new B g n c l h m c2 r i j w cur cv hB h2 k2 h3 h4 h5 h6 k6 hl hr (by omega) (by omega) hb (by omega)
end Go.Proofs.Ytemiajjjhhofaab
