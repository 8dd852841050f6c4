/-
  The document's Sorted, of trees.
-/
import Derived.Test.YtiamgnfbgiognaaGreatDoorUa
namespace Go.Proofs.YtiamgnfbgiognaaGreatDoor

theorem std_can {l : List RT} (h : Std ltO l) : Std ltT (l.map can) := List.pairwise_map.2 h
/-- A set's parts in rising order. -/
theorem can_set {s : ByteArray} {n : Int} {l xs ts : List RT} (hx : xs.map can = l.map srt) (hp : ts.Perm xs) (hs : Std ltO ts) : can (.mk 9 s n ts) = srt (.mk 9 s n l) := by
  have e : ts.map can = sortT (l.map srt) := sortT_of ((hp.map can).trans (by rw [hx])) (std_can hs)
  rw [can_mk, srt_mk, e]
  rfl
theorem can_pr (p : RT × RT) : can (pr p) = pr (can p.1, can p.2) := by
  unfold pr
  rw [can_mk]
  rfl
def unpr (t : RT) : RT × RT := match t.l with
  | [a, b] => (a, b)
  | _ => (t, t)
theorem pr_back {ps : List (RT × RT)} {ts : List RT} (h : ts.Perm (ps.map pr)) : ∃ qs : List (RT × RT), ts = qs.map pr ∧ qs.Perm ps := by
  refine ⟨ts.map unpr, ?_, ?_⟩
  · rw [List.map_map]
    conv => lhs; rw [← List.map_id ts]
    refine List.map_congr_left fun t ht => ?_
    obtain ⟨p, -, rfl⟩ := List.mem_map.1 (h.mem_iff.1 ht)
    rfl
  · have h1 := h.map unpr
    rw [List.map_map] at h1
    have e : (unpr ∘ pr) = (id : RT × RT → RT × RT) := rfl
    rw [e, List.map_id] at h1
    exact h1
/-- A map's pairs in rising order. -/
theorem can_map {s : ByteArray} {n : Int} {l xs : List RT} {qs : List (RT × RT)} (hx : xs.map can = l.map srt) (hp : qs.Perm (prs xs)) (hs : Std ltO (qs.map pr)) : can (.mk 8 s n (unp qs ++ odd xs)) = srt (.mk 8 s n l) := by
  have h1 : Std ltP (qs.map fun p => (can p.1, can p.2)) := by
    have h2 := std_can hs
    rw [List.map_map] at h2
    have e : (can ∘ pr) = (pr ∘ fun p : RT × RT => (can p.1, can p.2)) := funext fun p => can_pr p
    rw [e, ← List.map_map] at h2
    exact List.pairwise_map.1 h2
  have h3 : (qs.map fun p => (can p.1, can p.2)).Perm (prs (l.map srt)) := by
    rw [← hx, (prs_map can xs).1]
    exact hp.map _
  have e : (unp qs ++ odd xs).map can = unp (sortP (prs (l.map srt))) ++ odd (l.map srt) := by
    rw [List.map_append, unp_map, sortP_of h3 h1, ← hx, (prs_map can xs).2]
  rw [can_mk, srt_mk, e]
  rfl
theorem can_row {k : Int} (h9 : k ≠ 9) (h8 : k ≠ 8) {s : ByteArray} {n : Int} {l xs : List RT} (hx : xs.map can = l.map srt) : can (.mk k s n xs) = srt (.mk k s n l) := by
  rw [can_mk, srt_mk, hx]
  unfold ordd
  rw [if_neg h9, if_neg h8]
theorem can_none {k : Int} (h : hasL k = false) (s : ByteArray) (n : Int) (l : List RT) : can (.mk k s n l) = srt (.mk k s n l) := by
  rw [can_mk, srt_mk]
  unfold mean
  simp only [h, Bool.false_eq_true, if_false]
end Go.Proofs.YtiamgnfbgiognaaGreatDoor
