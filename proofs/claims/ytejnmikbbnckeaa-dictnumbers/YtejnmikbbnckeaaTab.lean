/-
  A table in memory: its own block (seed and groups), the row of its groups; what a store makes of it.
-/
import Derived.Test.YtejnmikbbnckeaaTbl
import Derived.Deep.RegionHeld3
namespace Go.Proofs.Ytejnmikbbnckeaa
open Go.RowKit Go.PlainAid

/-- The cells of G groups. -/
structure Grid (cs : Array Value) (G : Nat) (z : List Cl) : Prop where
  size : cs.size = 17 * G
  word : ∀ g, g < G → cs[g * 17]? = some (.int .u64 (val (wrd z g) : Nat))
  key : ∀ g i, g < G → i < 8 → cs[g * 17 + 1 + i * 2]? = some (.string (cel z (8 * g + i)).2.1)
  vl : ∀ g i, g < G → i < 8 → cs[g * 17 + 1 + i * 2 + 1]? = some (.int .i64 (cel z (8 * g + i)).2.2)
/-- A row of G groups in block b. -/
structure Row (w : World) (b G : Nat) (z : List Cl) : Prop where
  ex : ∃ cs, w.heap[b]? = some (.cells cs 96 (0, 0)) ∧ Grid cs G z
theorem Row.lt {w : World} {b G : Nat} {z : List Cl} (h : Row w b G z) : b < w.heap.size := by
  obtain ⟨cs, h1, -⟩ := h.ex
  exact (Array.getElem?_eq_some_iff.1 h1).1
theorem Row.kept {w wn : World} {b G : Nat} {z : List Cl} (h : Row w b G z) (hb : wn.heap[b]? = w.heap[b]?) : Row wn b G z := by
  obtain ⟨cs, h1, h2⟩ := h.ex
  exact ⟨cs, by rw [hb]; exact h1, h2⟩
theorem Row.keep {w wn : World} {b G : Nat} {z : List Cl} (h : Row w b G z) (hb : Below w.heap.size w wn) : Row wn b G z := h.kept (hb.block b h.lt)
theorem Row.word {w : World} {b G : Nat} {z : List Cl} (h : Row w b G z) {g : Nat} (hg : g < G) : w.cell? ⟨b, g * 17, none⟩ = some (.int .u64 (val (wrd z g) : Nat)) := by
  obtain ⟨cs, h1, h2⟩ := h.ex
  simp only [World.cell?, h1]
  exact h2.word g hg
theorem Row.key {w : World} {b G : Nat} {z : List Cl} (h : Row w b G z) {g i : Nat} (hg : g < G) (hi : i < 8) : w.cell? ⟨b, g * 17 + 1 + i * 2, none⟩ = some (.string (cel z (8 * g + i)).2.1) := by
  obtain ⟨cs, h1, h2⟩ := h.ex
  simp only [World.cell?, h1]
  exact h2.key g i hg hi
theorem Row.vl {w : World} {b G : Nat} {z : List Cl} (h : Row w b G z) {g i : Nat} (hg : g < G) (hi : i < 8) : w.cell? ⟨b, g * 17 + 1 + i * 2 + 1, none⟩ = some (.int .i64 (cel z (8 * g + i)).2.2) := by
  obtain ⟨cs, h1, h2⟩ := h.ex
  simp only [World.cell?, h1]
  exact h2.vl g i hg hi
theorem Row.frozen {w : World} {b G : Nat} {z : List Cl} (h : Row w b G z) (o : Nat) : w.frozen? ⟨b, o, none⟩ = false := by
  obtain ⟨cs, h1, h2⟩ := h.ex
  simp [World.frozen?, h1]

theorem heap_set {w : World} {b o : Nat} {cs : Array Value} {t : TypeId} (h : w.heap[b]? = some (.cells cs t (0, 0))) (v : Value) : (w.setCell ⟨b, o, none⟩ v).heap[b]? = some (.cells (cs.setIfInBounds o v) t (0, 0)) := by
  simp only [World.setCell, Array.getElem?_modify, if_true, h]
  rfl
theorem Grid.put {cs : Array Value} {G : Nat} {z z' : List Cl} (h : Grid cs G z) (o : Nat) (v : Value)
    (h1 : ∀ g, g < G → if o = g * 17 then some v = some (.int .u64 (val (wrd z' g) : Nat)) else wrd z' g = wrd z g)
    (h2 : ∀ g i, g < G → i < 8 → if o = g * 17 + 1 + i * 2 then some v = some (.string (cel z' (8 * g + i)).2.1) else (cel z' (8 * g + i)).2.1 = (cel z (8 * g + i)).2.1)
    (h3 : ∀ g i, g < G → i < 8 → if o = g * 17 + 1 + i * 2 + 1 then some v = some (.int .i64 (cel z' (8 * g + i)).2.2) else (cel z' (8 * g + i)).2.2 = (cel z (8 * g + i)).2.2) : Grid (cs.setIfInBounds o v) G z' := by
  have hs := h.size
  refine ⟨by simpa using hs, ?_, ?_, ?_⟩
  · intro g hg
    have := h1 g hg
    split at this
    · rename_i e
      subst e
      rw [Array.getElem?_setIfInBounds_self_of_lt (by omega)]
      exact this
    · rw [Array.getElem?_setIfInBounds_ne (by assumption), this]
      exact h.word g hg
  · intro g i hg hi
    have := h2 g i hg hi
    split at this
    · rename_i e
      subst e
      rw [Array.getElem?_setIfInBounds_self_of_lt (by omega)]
      exact this
    · rw [Array.getElem?_setIfInBounds_ne (by assumption), this]
      exact h.key g i hg hi
  · intro g i hg hi
    have := h3 g i hg hi
    split at this
    · rename_i e
      subst e
      rw [Array.getElem?_setIfInBounds_self_of_lt (by omega)]
      exact this
    · rw [Array.getElem?_setIfInBounds_ne (by assumption), this]
      exact h.vl g i hg hi

/-- A slot's byte is set. -/
theorem Row.byte {w : World} {b G : Nat} {z : List Cl} (h : Row w b G z) (hz : z.length = 8 * G) {g i : Nat} (hg : g < G) (hi : i < 8) (c : Nat) :
    Row (w.setCell ⟨b, g * 17, none⟩ (.int .u64 (val ((wrd z g).set i c) : Nat))) b G (z.set (8 * g + i) (c, (cel z (8 * g + i)).2)) := by
  obtain ⟨cs, h1, h2⟩ := h.ex
  have hq : 8 * g + i < z.length := by omega
  have hc : ∀ q, (cel (z.set (8 * g + i) (c, (cel z (8 * g + i)).2)) q).2 = (cel z q).2 := by
    intro q
    by_cases e : 8 * g + i = q
    · subst e; rw [cel_set z hq]
    · rw [cel_set_ne z e]
  refine ⟨_, heap_set h1 _, h2.put _ _ ?_ ?_ ?_⟩
  · intro g' hg'
    split
    · have : g' = g := by omega
      subst this
      rw [wrd_set z hi _ hq]
    · rw [wrd_set_ne z hi _ (by rintro rfl; contradiction)]
  · intro g' i' hg' hi'
    rw [if_neg (by omega), hc]
  · intro g' i' hg' hi'
    rw [if_neg (by omega), hc]
/-- A slot's key is set. -/
theorem Row.setKey {w : World} {b G : Nat} {z : List Cl} (h : Row w b G z) (hz : z.length = 8 * G) {g i : Nat} (hg : g < G) (hi : i < 8) (k : ByteArray) :
    Row (w.setCell ⟨b, g * 17 + 1 + i * 2, none⟩ (.string k)) b G (z.set (8 * g + i) ((cel z (8 * g + i)).1, k, (cel z (8 * g + i)).2.2)) := by
  obtain ⟨cs, h1, h2⟩ := h.ex
  have hq : 8 * g + i < z.length := by omega
  have hw : ∀ g', g' < G → wrd (z.set (8 * g + i) ((cel z (8 * g + i)).1, k, (cel z (8 * g + i)).2.2)) g' = wrd z g' := by
    intro g' hg'
    refine wrd_ext (G := G) (by rw [List.length_set]; exact hz) hg' _ (wrd_len hz hg') (fun s hs => ?_)
    rw [wrd_get hz hg' hs]
    by_cases e : 8 * g + i = 8 * g' + s
    · rw [← e, cel_set z hq]
    · rw [cel_set_ne z e]
  refine ⟨_, heap_set h1 _, h2.put _ _ ?_ ?_ ?_⟩
  · intro g' hg'
    rw [if_neg (by omega), hw g' hg']
  · intro g' i' hg' hi'
    split
    · have : 8 * g' + i' = 8 * g + i := by omega
      rw [this, cel_set z hq]
    · rw [cel_set_ne z (by omega)]
  · intro g' i' hg' hi'
    rw [if_neg (by omega)]
    by_cases e : 8 * g + i = 8 * g' + i'
    · rw [← e, cel_set z hq]
    · rw [cel_set_ne z e]
/-- What a slot has is set. -/
theorem Row.setVal {w : World} {b G : Nat} {z : List Cl} (h : Row w b G z) (hz : z.length = 8 * G) {g i : Nat} (hg : g < G) (hi : i < 8) (v : Int) :
    Row (w.setCell ⟨b, g * 17 + 1 + i * 2 + 1, none⟩ (.int .i64 v)) b G (z.set (8 * g + i) ((cel z (8 * g + i)).1, (cel z (8 * g + i)).2.1, v)) := by
  obtain ⟨cs, h1, h2⟩ := h.ex
  have hq : 8 * g + i < z.length := by omega
  have hw : ∀ g', g' < G → wrd (z.set (8 * g + i) ((cel z (8 * g + i)).1, (cel z (8 * g + i)).2.1, v)) g' = wrd z g' := by
    intro g' hg'
    refine wrd_ext (G := G) (by rw [List.length_set]; exact hz) hg' _ (wrd_len hz hg') (fun s hs => ?_)
    rw [wrd_get hz hg' hs]
    by_cases e : 8 * g + i = 8 * g' + s
    · rw [← e, cel_set z hq]
    · rw [cel_set_ne z e]
  refine ⟨_, heap_set h1 _, h2.put _ _ ?_ ?_ ?_⟩
  · intro g' hg'
    rw [if_neg (by omega), hw g' hg']
  · intro g' i' hg' hi'
    rw [if_neg (by omega)]
    by_cases e : 8 * g + i = 8 * g' + i'
    · rw [← e, cel_set z hq]
    · rw [cel_set_ne z e]
  · intro g' i' hg' hi'
    split
    · have : 8 * g' + i' = 8 * g + i := by omega
      rw [this, cel_set z hq]
    · rw [cel_set_ne z (by omega)]
/-- A whole slot: its byte is there already. -/
theorem Row.slot {w : World} {b G : Nat} {z : List Cl} (h : Row w b G z) (hz : z.length = 8 * G) {g i : Nat} (hg : g < G) (hi : i < 8) (k : ByteArray) (v : Int) :
    Row ((w.setCell ⟨b, g * 17 + 1 + i * 2, none⟩ (.string k)).setCell ⟨b, g * 17 + 1 + i * 2 + 1, none⟩ (.int .i64 v)) b G (z.set (8 * g + i) ((cel z (8 * g + i)).1, k, v)) := by
  have hq : 8 * g + i < z.length := by omega
  have := (h.setKey hz hg hi k).setVal (by rw [List.length_set]; exact hz) hg hi v
  rw [cel_set z hq, List.set_set] at this
  exact this

/-- A table's own block. -/
structure Top (w : World) (p b x G : Nat) : Prop where
  blk : w.heap[p]? = some (.cells #[.int .u64 (x : Nat), .slice (some ⟨b, 0, none⟩) G G] 88 (0, 0))
theorem Top.lt {w : World} {p b x G : Nat} (h : Top w p b x G) : p < w.heap.size := (Array.getElem?_eq_some_iff.1 h.blk).1
theorem Top.kept {w wn : World} {p b x G : Nat} (h : Top w p b x G) (hb : wn.heap[p]? = w.heap[p]?) : Top wn p b x G := ⟨by rw [hb]; exact h.blk⟩
theorem Top.keep {w wn : World} {p b x G : Nat} (h : Top w p b x G) (hb : Below w.heap.size w wn) : Top wn p b x G := h.kept (hb.block p h.lt)
theorem Top.seed {w : World} {p b x G : Nat} (h : Top w p b x G) : w.cell? ⟨p, 0, none⟩ = some (.int .u64 (x : Nat)) := by simp [World.cell?, h.blk]
theorem Top.groups {w : World} {p b x G : Nat} (h : Top w p b x G) : w.cell? ⟨p, 1, none⟩ = some (.slice (some ⟨b, 0, none⟩) G G) := by simp [World.cell?, h.blk]
theorem Top.frozen {w : World} {p b x G : Nat} (h : Top w p b x G) (o : Nat) : w.frozen? ⟨p, o, none⟩ = false := by simp [World.frozen?, h.blk]
theorem Top.set {w : World} {p b x G : Nat} (h : Top w p b x G) (b' G' : Nat) : Top (w.setCell ⟨p, 1, none⟩ (.slice (some ⟨b', 0, none⟩) G' G')) p b' x G' := ⟨by rw [heap_set h.blk]; rfl⟩
theorem Top.ne {w : World} {p b x G b' G' : Nat} {z : List Cl} (h : Top w p b x G) (h' : Row w b' G' z) : p ≠ b' := by
  rintro rfl
  obtain ⟨cs, h1, -⟩ := h'.ex
  have := h.blk
  rw [h1] at this
  simp at this

/-- A table in memory. -/
structure Tab (w : World) (B p b x G : Nat) (z : List Cl) : Prop where
  top : Top w p b x G
  row : Row w b G z
  low : B ≤ p
  lowb : B ≤ b
  inv : Inv x G z
  seed : x < 18446744073709551616
  siz : ∀ e ∈ ents z, e.1.size ≤ maxLen
theorem Tab.keep {w wn : World} {B p b x G : Nat} {z : List Cl} (h : Tab w B p b x G z) (hb : Below w.heap.size w wn) : Tab wn B p b x G z := ⟨h.top.keep hb, h.row.keep hb, h.low, h.lowb, h.inv, h.seed, h.siz⟩
abbrev ptr (p : Nat) : Value := .pointer (some ⟨p, 0, none⟩)

theorem home_any (p b x G h : Nat) (w : World) (hT : Top w p b x G) (hG : isG G) (hh : h < 18446744073709551616) :
    Calls Try.prog 78 #[ptr p, .int .u64 h] w fun e w' => e = .returned (.int .i64 (gAt G h 0 : Nat)) ∧ w' = w := by
  have hc := hT.groups
  have hG16 := hG.le
  have hG0 := hG.pos
  have hlt := gAt_lt hG0 h 0
  have e : (h : Int) / 65536 % (G : Int) = (gAt G h 0 : Nat) := by unfold gAt; simp
  generalize gAt G h 0 = g at e hlt ⊢
  clear hT hG
  go_enter Try.func78, Try.ntmps78
  go_wp2
  go_ret
  exact ⟨rfl, rfl⟩
theorem next_any (p b x G g : Nat) (w : World) (hT : Top w p b x G) (hG : isG G) (hg : g < G) :
    Calls Try.prog 82 #[ptr p, .int .i64 g] w fun e w' => e = .returned (.int .i64 ((g + 1) % G : Nat)) ∧ w' = w := by
  have hc := hT.groups
  have hG16 := hG.le
  have hG0 := hG.pos
  have e : ((g : Int) + 1).tmod (G : Int) = ((g + 1) % G : Nat) := by
    rw [show ((g : Int) + 1) = ((g + 1 : Nat) : Int) by omega]
    exact (Int.ofNat_tmod (g + 1) G).symm
  have hlt : (g + 1) % G < G := Nat.mod_lt _ hG0
  generalize (g + 1) % G = q at e hlt ⊢
  clear hT hG
  go_enter Try.func82, Try.ntmps82
  go_wp2
  go_ret
  exact ⟨rfl, rfl⟩
end Go.Proofs.Ytejnmikbbnckeaa
