/-
  Commands in memory: rows of them; what append makes of them.
-/
import Derived.Test.YtlapiaoopmhogaaDoorRr
import Derived.Laws.OwnMore
import Derived.Laws.CopyRow
namespace Go.Proofs.YtlapiaoopmhogaaDoor
open Go.RowKit Go.PlainAid

/-- A command. -/
structure Cm where
  nm : ByteArray
  lo : Int
  hi : Int
  wr : Bool
  gr : Int
def Cm.cs (c : Cm) : List Value := [.string c.nm, .int .i64 c.lo, .int .i64 c.hi, .bool c.wr, .int .i64 c.gr]
def Cm.v (c : Cm) : Value := .agg #[.string c.nm, .int .i64 c.lo, .int .i64 c.hi, .bool c.wr, .int .i64 c.gr]
def Cm.z : Cm := ⟨⟨#[]⟩, 0, 0, false, 0⟩
def ccells (l : List Cm) : List Value := l.flatMap Cm.cs
theorem ccells_len (l : List Cm) : (ccells l).length = l.length * 5 := by
  unfold ccells
  induction l with
  | nil => rfl
  | cons e l ih => rw [List.flatMap_cons, List.length_append, ih]; simp [Cm.cs]; omega
theorem ccells_append (l r : List Cm) : ccells (l ++ r) = ccells l ++ ccells r := List.flatMap_append
theorem ccells_get : ∀ (l : List Cm) (j : Nat) (e : Cm), l[j]? = some e → (ccells l)[j * 5]? = some (.string e.nm) ∧ (ccells l)[j * 5 + 1]? = some (.int .i64 e.lo) ∧ (ccells l)[j * 5 + 2]? = some (.int .i64 e.hi) ∧ (ccells l)[j * 5 + 3]? = some (.bool e.wr) ∧ (ccells l)[j * 5 + 4]? = some (.int .i64 e.gr)
  | [], _, _, h => by simp at h
  | x :: l, 0, e, h => by
    simp at h; subst h
    exact ⟨rfl, rfl, rfl, rfl, rfl⟩
  | x :: l, j + 1, e, h => by
    have ih := ccells_get l j e (by simpa using h)
    have e1 : ccells (x :: l) = .string x.nm :: .int .i64 x.lo :: .int .i64 x.hi :: .bool x.wr :: .int .i64 x.gr :: ccells l := rfl
    rw [e1, show (j + 1) * 5 = j * 5 + 1 + 1 + 1 + 1 + 1 by omega]
    exact ih
theorem ccells_one (l : List Cm) : ∀ u ∈ ccells l, u.oneCell' = true := by
  intro u hu
  obtain ⟨e, -, h⟩ := List.mem_flatMap.1 hu
  simp only [Cm.cs, List.mem_cons, List.not_mem_nil, or_false] at h
  rcases h with rfl | rfl | rfl | rfl | rfl <;> rfl

/-- A row of the call's own, in a block of any kind. -/
def OwnT (w : World) (B s : Nat) (a : Option Addr) (n cap : Nat) (cs : List Value) : Prop :=
  cs.length = n * s ∧ ((a = none ∧ n = 0 ∧ cap = 0) ∨ ∃ g cur tg, a = some ⟨g, 0, none⟩ ∧ B ≤ g ∧ w.heap[g]? = some (.cells cur tg (0, 0)) ∧ n ≤ cap ∧ cap ≤ maxLen ∧ cur.size = cap * s ∧ cur.toList.take (n * s) = cs)
theorem OwnT.nil (w : World) (B s : Nat) : OwnT w B s none 0 0 [] := ⟨by simp, .inl ⟨rfl, rfl, rfl⟩⟩
theorem OwnT.lt {w : World} {B s : Nat} {a : Option Addr} {n cap : Nat} {cs : List Value} (h : OwnT w B s a n cap cs) {k : Nat} (hk : a.map (·.block) = some k) : B ≤ k ∧ k < w.heap.size := by
  rcases h.2 with ⟨rfl, -⟩ | ⟨g, cur, tg, rfl, h3, h4, -⟩
  · cases hk
  · cases hk
    exact ⟨h3, (Array.getElem?_eq_some_iff.1 h4).1⟩
theorem OwnT.kept {w wn : World} {B s : Nat} {a : Option Addr} {n cap : Nat} {cs : List Value} (h : OwnT w B s a n cap cs) (hb : ∀ k, a.map (·.block) = some k → wn.heap[k]? = w.heap[k]?) : OwnT wn B s a n cap cs := by
  refine ⟨h.1, ?_⟩
  rcases h.2 with h2 | ⟨g, cur, tg, rfl, h3, h4, h5⟩
  · exact .inl h2
  · exact .inr ⟨g, cur, tg, rfl, h3, by rw [hb g rfl]; exact h4, h5⟩
theorem OwnT.keep {w wn : World} {B s : Nat} {a : Option Addr} {n cap : Nat} {cs : List Value} (h : OwnT w B s a n cap cs) (hb : Below w.heap.size w wn) : OwnT wn B s a n cap cs :=
  h.kept fun _ hk => hb.block _ (h.lt hk).2
theorem OwnT.low {w : World} {B C s : Nat} {a : Option Addr} {n cap : Nat} {cs : List Value} (h : OwnT w B s a n cap cs) (hC : C ≤ B) : OwnT w C s a n cap cs := by
  refine ⟨h.1, ?_⟩
  rcases h.2 with h2 | ⟨g, cur, tg, h1, h3, h4⟩
  · exact .inl h2
  · exact .inr ⟨g, cur, tg, h1, Nat.le_trans hC h3, h4⟩
theorem OwnT.cap {w : World} {B s : Nat} {a : Option Addr} {n cap : Nat} {cs : List Value} (h : OwnT w B s a n cap cs) : n ≤ cap ∧ cap ≤ maxLen := by
  rcases h.2 with ⟨-, h2, h3⟩ | ⟨g, cur, tg, h1, h3, h4, h5, h6, h7⟩
  · exact ⟨by omega, by rw [h3]; decide⟩
  · exact ⟨h5, h6⟩
theorem OwnT.at {w : World} {B s : Nat} {a : Option Addr} {n cap : Nat} {cs : List Value} (h : OwnT w B s a n cap cs) (hn : 0 < n) : ∃ g, a = some ⟨g, 0, none⟩ ∧ ∀ j u, cs[j]? = some u → w.cell? ⟨g, j, none⟩ = some u := by
  rcases h.2 with ⟨-, h2, -⟩ | ⟨g, cur, tg, rfl, h3, h4, h5, h6, h7, h8⟩
  · omega
  · refine ⟨g, rfl, fun j u hu => ?_⟩
    rw [← h8, List.getElem?_take] at hu
    split at hu
    · rw [cell_of_row w g j cur tg (0, 0) h4]; simpa using hu
    · cases hu
/-- What is cut off at its end stays owned. -/
theorem OwnT.cut {w : World} {B s : Nat} {a : Option Addr} {n cap : Nat} {cs : List Value} (h : OwnT w B s a n cap cs) {k : Nat} (hk : k ≤ n) : OwnT w B s a k cap (cs.take (k * s)) := by
  have hks : k * s ≤ n * s := Nat.mul_le_mul_right _ hk
  refine ⟨by rw [List.length_take, h.1]; omega, ?_⟩
  rcases h.2 with ⟨h1, h2, h3⟩ | ⟨g, cur, tg, h1, h3, h4, h5, h6, h7, h8⟩
  · exact .inl ⟨h1, by omega, h3⟩
  · exact .inr ⟨g, cur, tg, h1, h3, h4, by omega, h6, h7, by rw [← h8, List.take_take, Nat.min_eq_left hks]⟩
theorem OwnT.below {w w2 : World} {B s : Nat} {a : Option Addr} {n cap : Nat} {cs : List Value} (h : OwnT w B s a n cap cs) (hg : w.grownBy w2 (a.map (·.block))) (hB : B ≤ w.heap.size) : Below B w w2 :=
  (Below.refl B w).grown hg hB (fun _ hk => (h.lt hk).1)

set_option maxRecDepth 20000 in
theorem run_append_t (w : World) (B : Nat) {t e : TypeId} {s by8 : Nat} (F : Elt t e s by8) {a : Option Addr} {n cap : Nat} {cs : List Value} (hown : OwnT w B s a n cap cs) {xa : Option Addr} {m c : Nat} (news : List Value) (hl : news.length = m * s)
    (hx : xa = none → m = 0 ∧ c = 0) (hnews : ∀ ad, xa = some ad → ∀ j u, news[j]? = some u → w.cell? (ad.add j) = some u) (h1 : ∀ u ∈ news, u.oneCell' = true) (hb : (n + m) * by8 ≤ 140737488355328) (h63 : n + m ≤ maxLen) (hB : B ≤ w.heap.size) (ty : TypeId) :
    ∃ a2 c2 w2, (Builtin.append_ #[t, t] ty #[.slice a n cap, .slice xa m c]).run Tryd.prog w = .ok (.slice a2 (n + m) c2) w2 ∧ OwnT w2 B s a2 (n + m) c2 (cs ++ news) ∧ w.grownBy w2 (a.map (·.block)) := by
  obtain ⟨i, z, hi, hz, hsz, hby, hzs⟩ := F.inf
  have ht := F.und
  subst hsz
  subst hby
  have hsmall : n + m ≤ 9223372036854775807 := by simp only [maxLen] at h63; omega
  have hlen : (cs ++ news).length = (n + m) * i.size := by rw [List.length_append, hown.1, hl, Nat.add_mul]
  have grown : ∀ (old : Nat), old < n + m → ∀ (row : Option Nat),
      OwnT (w.drew.alloc (.cells (cs.toArray ++ news.toArray ++ Builtin.zeroCells z.cells (grownCap w (n + m) old e - (n + m))) e)) B i.size
        (some ⟨w.heap.size, 0, none⟩) (n + m) (grownCap w (n + m) old e) (cs ++ news) ∧
      w.grownBy (w.drew.alloc (.cells (cs.toArray ++ news.toArray ++ Builtin.zeroCells z.cells (grownCap w (n + m) old e - (n + m))) e)) row := by
    intro old ho row
    have hge := grownCap_ge w (n + m) old e
    have hcm : grownCap w (n + m) old e ≤ maxLen := grownCap_le_maxLen w (n + m) old e h63
    refine ⟨⟨hlen, .inr ⟨w.heap.size, _, e, rfl, hB, heap_alloc_new w.drew _, hge, hcm, ?_, ?_⟩⟩, ⟨rfl, rfl, rfl, by simp, fun k hk h => (World.grownBy_alloc w.drew _ row).block k hk h⟩⟩
    · simp only [Array.size_append, List.size_toArray, size_zeroCells, hzs, hown.1, hl, ← Nat.add_mul]
      congr 1
      omega
    · simp only [Array.toList_append, List.append_assoc]
      rw [← List.append_assoc, ← hlen]
      exact List.take_left
  by_cases hm : m = 0
  · subst hm
    have hn : news = [] := List.eq_nil_of_length_eq_zero (by simpa using hl)
    subst hn
    have hcap := hown.cap
    rcases hown.2 with ⟨rfl, rfl, rfl⟩ | ⟨g, cur, tg, rfl, hr⟩
    · refine ⟨none, 0, w, ?_, ?_, ⟨rfl, rfl, rfl, Nat.le_refl _, fun _ _ _ => rfl⟩⟩
      · cases xa with
        | none => obtain ⟨-, rfl⟩ := hx rfl; simp [Builtin.append_, run_underlying ht, sizeOf, typeInfo, hi, Builtin.lenOf, Builtin.firstCells]
        | some ad => simp [Builtin.append_, run_underlying ht, sizeOf, typeInfo, hi, Builtin.lenOf, Builtin.firstCells, loadCells, loadCellsFrom]
      · rw [List.append_nil]; exact hown
    · refine ⟨_, _, w, ?_, by rw [List.append_nil]; exact hown, ⟨rfl, rfl, rfl, Nat.le_refl _, fun _ _ _ => rfl⟩⟩
      cases xa with
      | none => obtain ⟨-, rfl⟩ := hx rfl; simp [Builtin.append_, run_underlying ht, sizeOf, typeInfo, hi, Builtin.lenOf, Builtin.firstCells, hcap.1, storeCells]
      | some ad => simp [Builtin.append_, run_underlying ht, sizeOf, typeInfo, hi, Builtin.lenOf, Builtin.firstCells, hcap.1, storeCells, loadCells, loadCellsFrom]
  · cases xa with
    | none => exact absurd (hx rfl).1 hm
    | some ad =>
      have hnews := hnews ad rfl
      rcases hown.2 with ⟨rfl, rfl, rfl⟩ | ⟨g, cur, tg, rfl, hbg, hg, hnc, hcm, hcs, htake⟩
      · have hx : cs = [] := List.eq_nil_of_length_eq_zero (by simpa using hown.1)
        subst hx
        have hr := run_append_nil (P := Tryd.prog) w t ty e i z ht hi hz ad m c news hl hnews (by omega) (by omega) (by have hb := hb; simp only [Nat.zero_add] at hb; omega)
        have hgr := grown 0 (by omega) none
        simp only [Nat.zero_add, List.nil_append, Array.empty_append] at hgr ⊢
        exact ⟨_, _, _, hr, hgr.1, hgr.2⟩
      · by_cases hroom : n + m ≤ cap
        · have hfit : n * i.size + news.length ≤ cur.size := by rw [hl, hcs, ← Nat.add_mul]; exact Nat.mul_le_mul_right _ hroom
          have hfc := run_firstCells_some (P := Tryd.prog) w i.size m ad m c news hl hnews
          have hst := run_storeCells_at Tryd.prog g (n * i.size) tg news 0 cur w hg (by simpa using hfit) h1
          simp only [Nat.add_zero] at hst
          have hr : (Builtin.append_ #[t, t] ty #[.slice (some ⟨g, 0, none⟩) n cap, .slice (some ad) m c]).run Tryd.prog w = .ok (.slice (some ⟨g, 0, none⟩) (n + m) cap) (w.setRow g (cur.toList.take (n * i.size) ++ news ++ cur.toList.drop (n * i.size + news.length)).toArray) := by
            simp [Builtin.append_, run_underlying ht, sizeOf, typeInfo, hi, Builtin.lenOf, hroom, hfc, Addr.add_lit, hst]
          refine ⟨_, _, _, hr, ⟨hlen, .inr ⟨g, _, tg, rfl, hbg, setRow_heap w g cur _ tg _ hg, hroom, hcm, ?_, ?_⟩⟩, ⟨rfl, rfl, rfl, by simp, fun k _ hk => setRow_other w g k _ (fun e => hk (by simp [e]))⟩⟩
          · simp only [List.size_toArray, List.length_append, List.length_take, List.length_drop, Array.length_toList]
            omega
          · rw [htake, ← hlen]
            exact List.take_left
        · obtain ⟨g', e1, holds⟩ : ∃ g', some (⟨g, 0, none⟩ : Addr) = some ⟨g', 0, none⟩ ∧ ∀ j u, cs[j]? = some u → w.cell? ((⟨g', 0, none⟩ : Addr).add j) = some u := by
            refine ⟨g, rfl, fun j u hu => ?_⟩
            rw [← htake, List.getElem?_take] at hu
            split at hu
            · rw [add_flat, Nat.zero_add, cell_of_row w g j cur tg (0, 0) hg]; simpa using hu
            · cases hu
          cases e1
          have hr := run_append_grow (P := Tryd.prog) w t ty e i z ht hi hz ⟨g, 0, none⟩ n cap cs hown.1 holds ad m c news hl hnews (by omega) (by omega) (growslice_fits (by omega) hb)
          have hgr := grown cap (by omega) (some g)
          exact ⟨_, _, _, hr, hgr.1, hgr.2⟩

/-- l = append(l, ..). -/
theorem append_t {w : World} {ops : Array Oper} {rest : List Oper} {o : Oper} {ac : Act} {Q : Exit → Act → World → Prop} (hgd : o.guard = none) (s x : Operand) {t e : TypeId} {sz by8 : Nat} (ho : o.op = .call { callee := .builtin .append, args := #[s, x], argTypes := #[t, t] })
    (F : Elt t e sz by8) (B : Nat) {a : Option Addr} {n cap : Nat} {cs : List Value} (hs : ac.eval s = .slice a n cap) (hown : OwnT w B sz a n cap cs) {xa : Option Addr} {m c : Nat} (news : List Value) (hx : ac.eval x = .slice xa m c) (hl : news.length = m * sz)
    (hxn : xa = none → m = 0 ∧ c = 0) (hnews : ∀ ad, xa = some ad → ∀ j u, news[j]? = some u → w.cell? (ad.add j) = some u) (h1 : ∀ u ∈ news, u.oneCell' = true) (hb : (n + m) * by8 ≤ 140737488355328) (h63 : n + m ≤ maxLen) (hB : B ≤ w.heap.size)
    (h : ∀ a2 n2 c2 w2, n2 = n + m → Hid (OwnT w2 B sz a2 n2 c2 (cs ++ news)) → Hid (Below B w w2) → wpList Tryd.prog ops Q rest (ac.put o.dst (.slice a2 n2 c2)) w2) : wpList Tryd.prog ops Q (o :: rest) ac w := by
  obtain ⟨a2, c2, w2, k1, k2, k3⟩ := run_append_t w B F hown (c := c) news hl hxn hnews h1 hb h63 hB o.type
  refine wpList_plain hgd fun K hK => ?_
  unfold Oper.wp
  simp [execOp, ho, resolve, invoke, builtin, hs, hx, k1, Result.andThen]
  exact hK _ _ (h a2 _ c2 w2 rfl k2 (hown.below k3 hB))

/-- A row of commands. -/
abbrev OwnC (w : World) (B : Nat) (a : Option Addr) (n c : Nat) (l : List Cm) : Prop := OwnT w B 5 a n c (ccells l)
theorem OwnC.len {w : World} {B : Nat} {a : Option Addr} {n c : Nat} {l : List Cm} (h : OwnC w B a n c l) : l.length = n := by have := h.1; rw [ccells_len] at this; omega
theorem OwnC.cells {w : World} {B : Nat} {a : Option Addr} {n c : Nat} {l : List Cm} (h : OwnC w B a n c l) {j : Nat} {e : Cm} (hj : l[j]? = some e) : ∃ g, a = some ⟨g, 0, none⟩ ∧ w.cell? ⟨g, j * 5, none⟩ = some (.string e.nm) ∧ w.cell? ⟨g, j * 5 + 1, none⟩ = some (.int .i64 e.lo) ∧ w.cell? ⟨g, j * 5 + 2, none⟩ = some (.int .i64 e.hi) ∧ w.cell? ⟨g, j * 5 + 3, none⟩ = some (.bool e.wr) ∧ w.cell? ⟨g, j * 5 + 4, none⟩ = some (.int .i64 e.gr) := by
  have hl := OwnC.len h
  have hj' : j < l.length := (List.getElem?_eq_some_iff.1 hj).1
  obtain ⟨g, e1, h2⟩ := OwnT.at h (by omega)
  obtain ⟨k1, k2, k3, k4, k5⟩ := ccells_get l j e hj
  exact ⟨g, e1, h2 _ _ k1, h2 _ _ k2, h2 _ _ k3, h2 _ _ k4, h2 _ _ k5⟩
theorem Tryd.infoCmd : (Tryd.prog.info? 27).map (fun i => (i.zero, i.size, i.bytes)) = some (some (.agg #[.string ⟨#[]⟩, .int .i64 0, .int .i64 0, .bool false, .int .i64 0]), 5, 48) := by kernel_rfl
theorem eltC : Elt 57 27 5 48 := elt_of Tryd.underlying57 Tryd.infoCmd rfl (by decide)
theorem Tryd.infoRCmd : (Tryd.prog.info? 30).map (fun i => (i.zero, i.size, i.bytes)) = some (some (.agg #[.string ⟨#[]⟩, .int .i64 0, .int .i64 0, .bool false, .int .i64 0]), 5, 48) := by kernel_rfl
theorem eltRC : Elt 22 30 5 48 := elt_of Tryd.underlying22 Tryd.infoRCmd rfl (by decide)

def cmStrings : List Cm := [⟨⟨#[103, 101, 116]⟩, 2, 2, false, 1⟩, ⟨⟨#[115, 101, 116]⟩, 3, 8, true, 1⟩, ⟨⟨#[115, 101, 116, 110, 120]⟩, 3, 3, true, 1⟩, ⟨⟨#[103, 101, 116, 115, 101, 116]⟩, 3, 3, true, 1⟩, ⟨⟨#[103, 101, 116, 100, 101, 108]⟩, 2, 2, true, 1⟩, ⟨⟨#[97, 112, 112, 101, 110, 100]⟩, 3, 3, true, 1⟩, ⟨⟨#[115, 116, 114, 108, 101, 110]⟩, 2, 2, false, 1⟩, ⟨⟨#[105, 110, 99, 114]⟩, 2, 2, true, 1⟩, ⟨⟨#[100, 101, 99, 114]⟩, 2, 2, true, 1⟩, ⟨⟨#[105, 110, 99, 114, 98, 121]⟩, 3, 3, true, 1⟩, ⟨⟨#[100, 101, 99, 114, 98, 121]⟩, 3, 3, true, 1⟩, ⟨⟨#[103, 101, 116, 114, 97, 110, 103, 101]⟩, 4, 4, false, 1⟩, ⟨⟨#[115, 101, 116, 114, 97, 110, 103, 101]⟩, 4, 4, true, 1⟩, ⟨⟨#[103, 101, 116, 98, 105, 116]⟩, 3, 3, false, 1⟩, ⟨⟨#[115, 101, 116, 98, 105, 116]⟩, 4, 4, true, 1⟩, ⟨⟨#[98, 105, 116, 99, 111, 117, 110, 116]⟩, 2, 4, false, 1⟩, ⟨⟨#[109, 103, 101, 116]⟩, 2, 256, false, 1⟩, ⟨⟨#[109, 115, 101, 116]⟩, 3, 256, true, 1⟩]
def cmHashes : List Cm := [⟨⟨#[104, 115, 101, 116]⟩, 4, 256, true, 2⟩, ⟨⟨#[104, 115, 101, 116, 110, 120]⟩, 4, 4, true, 2⟩, ⟨⟨#[104, 103, 101, 116]⟩, 3, 3, false, 2⟩, ⟨⟨#[104, 109, 103, 101, 116]⟩, 3, 256, false, 2⟩, ⟨⟨#[104, 100, 101, 108]⟩, 3, 256, true, 2⟩, ⟨⟨#[104, 101, 120, 105, 115, 116, 115]⟩, 3, 3, false, 2⟩, ⟨⟨#[104, 108, 101, 110]⟩, 2, 2, false, 2⟩, ⟨⟨#[104, 107, 101, 121, 115]⟩, 2, 2, false, 2⟩, ⟨⟨#[104, 118, 97, 108, 115]⟩, 2, 2, false, 2⟩, ⟨⟨#[104, 103, 101, 116, 97, 108, 108]⟩, 2, 2, false, 2⟩, ⟨⟨#[104, 105, 110, 99, 114, 98, 121]⟩, 4, 4, true, 2⟩, ⟨⟨#[104, 115, 116, 114, 108, 101, 110]⟩, 3, 3, false, 2⟩, ⟨⟨#[104, 115, 99, 97, 110]⟩, 3, 7, false, 2⟩]
def cmSets : List Cm := [⟨⟨#[115, 97, 100, 100]⟩, 3, 256, true, 3⟩, ⟨⟨#[115, 114, 101, 109]⟩, 3, 256, true, 3⟩, ⟨⟨#[115, 105, 115, 109, 101, 109, 98, 101, 114]⟩, 3, 3, false, 3⟩, ⟨⟨#[115, 99, 97, 114, 100]⟩, 2, 2, false, 3⟩, ⟨⟨#[115, 109, 101, 109, 98, 101, 114, 115]⟩, 2, 2, false, 3⟩, ⟨⟨#[115, 109, 111, 118, 101]⟩, 4, 4, true, 3⟩, ⟨⟨#[115, 105, 110, 116, 101, 114]⟩, 2, 256, false, 3⟩, ⟨⟨#[115, 117, 110, 105, 111, 110]⟩, 2, 256, false, 3⟩, ⟨⟨#[115, 100, 105, 102, 102]⟩, 2, 256, false, 3⟩, ⟨⟨#[115, 112, 111, 112]⟩, 2, 2, true, 3⟩, ⟨⟨#[115, 114, 97, 110, 100, 109, 101, 109, 98, 101, 114]⟩, 2, 2, false, 3⟩, ⟨⟨#[115, 115, 99, 97, 110]⟩, 3, 7, false, 3⟩]
def cmLists : List Cm := [⟨⟨#[108, 112, 117, 115, 104]⟩, 3, 256, true, 4⟩, ⟨⟨#[114, 112, 117, 115, 104]⟩, 3, 256, true, 4⟩, ⟨⟨#[108, 112, 111, 112]⟩, 2, 2, true, 4⟩, ⟨⟨#[114, 112, 111, 112]⟩, 2, 2, true, 4⟩, ⟨⟨#[108, 108, 101, 110]⟩, 2, 2, false, 4⟩, ⟨⟨#[108, 114, 97, 110, 103, 101]⟩, 4, 4, false, 4⟩, ⟨⟨#[108, 105, 110, 100, 101, 120]⟩, 3, 3, false, 4⟩, ⟨⟨#[108, 115, 101, 116]⟩, 4, 4, true, 4⟩, ⟨⟨#[108, 105, 110, 115, 101, 114, 116]⟩, 5, 5, true, 4⟩, ⟨⟨#[108, 114, 101, 109]⟩, 4, 4, true, 4⟩, ⟨⟨#[108, 116, 114, 105, 109]⟩, 4, 4, true, 4⟩, ⟨⟨#[114, 112, 111, 112, 108, 112, 117, 115, 104]⟩, 3, 3, true, 4⟩]
def cmKeys : List Cm := [⟨⟨#[100, 101, 108]⟩, 2, 256, true, 5⟩, ⟨⟨#[101, 120, 105, 115, 116, 115]⟩, 2, 256, false, 5⟩, ⟨⟨#[116, 121, 112, 101]⟩, 2, 2, false, 5⟩, ⟨⟨#[101, 120, 112, 105, 114, 101]⟩, 3, 3, true, 5⟩, ⟨⟨#[112, 101, 120, 112, 105, 114, 101]⟩, 3, 3, true, 5⟩, ⟨⟨#[116, 116, 108]⟩, 2, 2, false, 5⟩, ⟨⟨#[112, 116, 116, 108]⟩, 2, 2, false, 5⟩, ⟨⟨#[112, 101, 114, 115, 105, 115, 116]⟩, 2, 2, true, 5⟩, ⟨⟨#[114, 101, 110, 97, 109, 101]⟩, 3, 3, true, 5⟩, ⟨⟨#[114, 101, 110, 97, 109, 101, 110, 120]⟩, 3, 3, true, 5⟩, ⟨⟨#[99, 111, 112, 121]⟩, 3, 3, true, 5⟩, ⟨⟨#[107, 101, 121, 115]⟩, 2, 2, false, 5⟩, ⟨⟨#[115, 99, 97, 110]⟩, 2, 8, false, 5⟩, ⟨⟨#[100, 98, 115, 105, 122, 101]⟩, 1, 1, false, 5⟩, ⟨⟨#[102, 108, 117, 115, 104, 97, 108, 108]⟩, 1, 1, true, 5⟩, ⟨⟨#[114, 97, 110, 100, 111, 109, 107, 101, 121]⟩, 1, 1, false, 5⟩, ⟨⟨#[111, 98, 106, 101, 99, 116]⟩, 3, 3, false, 5⟩]
def cmConns : List Cm := [⟨⟨#[112, 105, 110, 103]⟩, 1, 2, false, 6⟩, ⟨⟨#[101, 99, 104, 111]⟩, 2, 2, false, 6⟩, ⟨⟨#[104, 101, 108, 108, 111]⟩, 1, 2, false, 6⟩, ⟨⟨#[109, 117, 108, 116, 105]⟩, 1, 1, false, 6⟩, ⟨⟨#[101, 120, 101, 99]⟩, 1, 1, false, 6⟩, ⟨⟨#[100, 105, 115, 99, 97, 114, 100]⟩, 1, 1, false, 6⟩, ⟨⟨#[119, 97, 116, 99, 104]⟩, 2, 256, false, 6⟩, ⟨⟨#[117, 110, 119, 97, 116, 99, 104]⟩, 1, 1, false, 6⟩, ⟨⟨#[113, 117, 105, 116]⟩, 1, 1, false, 6⟩]
def progs : List Cm := cmStrings ++ cmHashes ++ cmSets ++ cmLists ++ cmKeys ++ cmConns
/-- All, in rising order. -/
def refs : List Cm := [⟨⟨#[97, 112, 112, 101, 110, 100]⟩, 3, 3, true, 1⟩, ⟨⟨#[98, 105, 116, 99, 111, 117, 110, 116]⟩, 2, 4, false, 1⟩, ⟨⟨#[99, 111, 112, 121]⟩, 3, 3, true, 5⟩, ⟨⟨#[100, 98, 115, 105, 122, 101]⟩, 1, 1, false, 5⟩, ⟨⟨#[100, 101, 99, 114]⟩, 2, 2, true, 1⟩, ⟨⟨#[100, 101, 99, 114, 98, 121]⟩, 3, 3, true, 1⟩, ⟨⟨#[100, 101, 108]⟩, 2, 256, true, 5⟩, ⟨⟨#[100, 105, 115, 99, 97, 114, 100]⟩, 1, 1, false, 6⟩, ⟨⟨#[101, 99, 104, 111]⟩, 2, 2, false, 6⟩, ⟨⟨#[101, 120, 101, 99]⟩, 1, 1, false, 6⟩, ⟨⟨#[101, 120, 105, 115, 116, 115]⟩, 2, 256, false, 5⟩, ⟨⟨#[101, 120, 112, 105, 114, 101]⟩, 3, 3, true, 5⟩, ⟨⟨#[102, 108, 117, 115, 104, 97, 108, 108]⟩, 1, 1, true, 5⟩, ⟨⟨#[103, 101, 116]⟩, 2, 2, false, 1⟩, ⟨⟨#[103, 101, 116, 98, 105, 116]⟩, 3, 3, false, 1⟩, ⟨⟨#[103, 101, 116, 100, 101, 108]⟩, 2, 2, true, 1⟩, ⟨⟨#[103, 101, 116, 114, 97, 110, 103, 101]⟩, 4, 4, false, 1⟩, ⟨⟨#[103, 101, 116, 115, 101, 116]⟩, 3, 3, true, 1⟩, ⟨⟨#[104, 100, 101, 108]⟩, 3, 256, true, 2⟩, ⟨⟨#[104, 101, 108, 108, 111]⟩, 1, 2, false, 6⟩, ⟨⟨#[104, 101, 120, 105, 115, 116, 115]⟩, 3, 3, false, 2⟩, ⟨⟨#[104, 103, 101, 116]⟩, 3, 3, false, 2⟩, ⟨⟨#[104, 103, 101, 116, 97, 108, 108]⟩, 2, 2, false, 2⟩, ⟨⟨#[104, 105, 110, 99, 114, 98, 121]⟩, 4, 4, true, 2⟩, ⟨⟨#[104, 107, 101, 121, 115]⟩, 2, 2, false, 2⟩, ⟨⟨#[104, 108, 101, 110]⟩, 2, 2, false, 2⟩, ⟨⟨#[104, 109, 103, 101, 116]⟩, 3, 256, false, 2⟩, ⟨⟨#[104, 115, 99, 97, 110]⟩, 3, 7, false, 2⟩, ⟨⟨#[104, 115, 101, 116]⟩, 4, 256, true, 2⟩, ⟨⟨#[104, 115, 101, 116, 110, 120]⟩, 4, 4, true, 2⟩, ⟨⟨#[104, 115, 116, 114, 108, 101, 110]⟩, 3, 3, false, 2⟩, ⟨⟨#[104, 118, 97, 108, 115]⟩, 2, 2, false, 2⟩, ⟨⟨#[105, 110, 99, 114]⟩, 2, 2, true, 1⟩, ⟨⟨#[105, 110, 99, 114, 98, 121]⟩, 3, 3, true, 1⟩, ⟨⟨#[107, 101, 121, 115]⟩, 2, 2, false, 5⟩, ⟨⟨#[108, 105, 110, 100, 101, 120]⟩, 3, 3, false, 4⟩, ⟨⟨#[108, 105, 110, 115, 101, 114, 116]⟩, 5, 5, true, 4⟩, ⟨⟨#[108, 108, 101, 110]⟩, 2, 2, false, 4⟩, ⟨⟨#[108, 112, 111, 112]⟩, 2, 2, true, 4⟩, ⟨⟨#[108, 112, 117, 115, 104]⟩, 3, 256, true, 4⟩, ⟨⟨#[108, 114, 97, 110, 103, 101]⟩, 4, 4, false, 4⟩, ⟨⟨#[108, 114, 101, 109]⟩, 4, 4, true, 4⟩, ⟨⟨#[108, 115, 101, 116]⟩, 4, 4, true, 4⟩, ⟨⟨#[108, 116, 114, 105, 109]⟩, 4, 4, true, 4⟩, ⟨⟨#[109, 103, 101, 116]⟩, 2, 256, false, 1⟩, ⟨⟨#[109, 115, 101, 116]⟩, 3, 256, true, 1⟩, ⟨⟨#[109, 117, 108, 116, 105]⟩, 1, 1, false, 6⟩, ⟨⟨#[111, 98, 106, 101, 99, 116]⟩, 3, 3, false, 5⟩, ⟨⟨#[112, 101, 114, 115, 105, 115, 116]⟩, 2, 2, true, 5⟩, ⟨⟨#[112, 101, 120, 112, 105, 114, 101]⟩, 3, 3, true, 5⟩, ⟨⟨#[112, 105, 110, 103]⟩, 1, 2, false, 6⟩, ⟨⟨#[112, 116, 116, 108]⟩, 2, 2, false, 5⟩, ⟨⟨#[113, 117, 105, 116]⟩, 1, 1, false, 6⟩, ⟨⟨#[114, 97, 110, 100, 111, 109, 107, 101, 121]⟩, 1, 1, false, 5⟩, ⟨⟨#[114, 101, 110, 97, 109, 101]⟩, 3, 3, true, 5⟩, ⟨⟨#[114, 101, 110, 97, 109, 101, 110, 120]⟩, 3, 3, true, 5⟩, ⟨⟨#[114, 112, 111, 112]⟩, 2, 2, true, 4⟩, ⟨⟨#[114, 112, 111, 112, 108, 112, 117, 115, 104]⟩, 3, 3, true, 4⟩, ⟨⟨#[114, 112, 117, 115, 104]⟩, 3, 256, true, 4⟩, ⟨⟨#[115, 97, 100, 100]⟩, 3, 256, true, 3⟩, ⟨⟨#[115, 99, 97, 110]⟩, 2, 8, false, 5⟩, ⟨⟨#[115, 99, 97, 114, 100]⟩, 2, 2, false, 3⟩, ⟨⟨#[115, 100, 105, 102, 102]⟩, 2, 256, false, 3⟩, ⟨⟨#[115, 101, 116]⟩, 3, 8, true, 1⟩, ⟨⟨#[115, 101, 116, 98, 105, 116]⟩, 4, 4, true, 1⟩, ⟨⟨#[115, 101, 116, 110, 120]⟩, 3, 3, true, 1⟩, ⟨⟨#[115, 101, 116, 114, 97, 110, 103, 101]⟩, 4, 4, true, 1⟩, ⟨⟨#[115, 105, 110, 116, 101, 114]⟩, 2, 256, false, 3⟩, ⟨⟨#[115, 105, 115, 109, 101, 109, 98, 101, 114]⟩, 3, 3, false, 3⟩, ⟨⟨#[115, 109, 101, 109, 98, 101, 114, 115]⟩, 2, 2, false, 3⟩, ⟨⟨#[115, 109, 111, 118, 101]⟩, 4, 4, true, 3⟩, ⟨⟨#[115, 112, 111, 112]⟩, 2, 2, true, 3⟩, ⟨⟨#[115, 114, 97, 110, 100, 109, 101, 109, 98, 101, 114]⟩, 2, 2, false, 3⟩, ⟨⟨#[115, 114, 101, 109]⟩, 3, 256, true, 3⟩, ⟨⟨#[115, 115, 99, 97, 110]⟩, 3, 7, false, 3⟩, ⟨⟨#[115, 116, 114, 108, 101, 110]⟩, 2, 2, false, 1⟩, ⟨⟨#[115, 117, 110, 105, 111, 110]⟩, 2, 256, false, 3⟩, ⟨⟨#[116, 116, 108]⟩, 2, 2, false, 5⟩, ⟨⟨#[116, 121, 112, 101]⟩, 2, 2, false, 5⟩, ⟨⟨#[117, 110, 119, 97, 116, 99, 104]⟩, 1, 1, false, 6⟩, ⟨⟨#[119, 97, 116, 99, 104]⟩, 2, 256, false, 6⟩]
theorem progs_len : progs.length = 81 := by kernel_rfl
theorem refs_len : refs.length = 81 := by kernel_rfl
end Go.Proofs.YtlapiaoopmhogaaDoor
