/-
  A table as what it has: keys and values, in whatever order.
-/
import Derived.Test.YtejnmikbbnckeaaKeep
namespace Go.Proofs.Ytejnmikbbnckeaa
open Go.RowKit Go.PlainAid

/-- A table at p, its groups at b, by the seed x, that has es. -/
def Tbl (w : World) (B p b x : Nat) (es : List En) : Prop := ∃ G z, Tab w B p b x G z ∧ (ents z).Perm es
abbrev keysOf (es : List En) : List ByteArray := es.map (·.1)
theorem Tbl.keep {w wn : World} {B p b x : Nat} {es : List En} (h : Tbl w B p b x es) (hb : Below w.heap.size w wn) : Tbl wn B p b x es := by
  obtain ⟨G, z, h1, h2⟩ := h
  exact ⟨G, z, h1.keep hb, h2⟩
theorem Tbl.nod {w : World} {B p b x : Nat} {es : List En} (h : Tbl w B p b x es) : (keysOf es).Nodup := by
  obtain ⟨G, z, h1, h2⟩ := h
  exact (h2.map (·.1)).nodup_iff.1 h1.inv.nod
theorem Tbl.le {w : World} {B p b x : Nat} {es : List En} (h : Tbl w B p b x es) : es.length ≤ 112 := by
  obtain ⟨G, z, h1, h2⟩ := h
  have := h1.inv.room
  have := h1.inv.grp.le
  have := h2.length_eq
  omega
theorem Tbl.lt {w : World} {B p b x : Nat} {es : List En} (h : Tbl w B p b x es) : p < w.heap.size ∧ b < w.heap.size ∧ B ≤ p ∧ B ≤ b := by
  obtain ⟨G, z, h1, h2⟩ := h
  exact ⟨h1.top.lt, h1.row.lt, h1.low, h1.lowb⟩
theorem Tbl.low {w : World} {B C p b x : Nat} {es : List En} (h : Tbl w B p b x es) (hC : C ≤ B) : Tbl w C p b x es := by
  obtain ⟨G, z, h1, h2⟩ := h
  exact ⟨G, z, ⟨h1.top, h1.row, Nat.le_trans hC h1.low, Nat.le_trans hC h1.lowb, h1.inv, h1.seed, h1.siz⟩, h2⟩
theorem Tbl.perm {w : World} {B p b x : Nat} {es fs : List En} (h : Tbl w B p b x es) (hp : es.Perm fs) : Tbl w B p b x fs := by
  obtain ⟨G, z, h1, h2⟩ := h
  exact ⟨G, z, h1, h2.trans hp⟩
/-- Two tables, side by side. -/
theorem Tbl.ne {w : World} {B C p b x q c y : Nat} {es fs : List En} (h : Tbl w B p b x es) (h' : Tbl w C q c y fs) : p ≠ c := by
  obtain ⟨G, z, h1, -⟩ := h
  obtain ⟨G', z', h2, -⟩ := h'
  exact h1.top.ne h2.row
theorem Tbl.moves {w w' : World} {B C p b x q c y : Nat} {es fs : List En} (h : Tbl w B p b x es) (h' : Tbl w C q c y fs) (hm : Moves w w' q c) (h1 : p ≠ q) (h2 : b ≠ c) : Tbl w' B p b x es := by
  have h3 := h.ne h'
  have h4 := (h'.ne h).symm
  obtain ⟨G, z, k1, k2⟩ := h
  exact ⟨G, z, k1.moves hm h1 h2 h3 h4, k2⟩
theorem Tbl.grown {w w2 : World} {B C p b x : Nat} {es : List En} {e : TypeId} {s : Nat} {a : Option Addr} {n cap : Nat} {cs : List Value} (h : Tbl w B p b x es) (h' : OwnR w C e s a n cap cs) (hg : w.grownBy w2 (a.map (·.block))) (h1 : e ≠ 88) (h2 : e ≠ 96) : Tbl w2 B p b x es := by
  obtain ⟨G, z, k1, k2⟩ := h
  exact ⟨G, z, k1.grown h' hg h1 h2, k2⟩
theorem OwnR.movesT {w w' : World} {B C p b x : Nat} {es : List En} {e : TypeId} {s : Nat} {a : Option Addr} {n cap : Nat} {cs : List Value} (h : OwnR w C e s a n cap cs) (hm : Moves w w' p b) (hT : Tbl w B p b x es) (h1 : e ≠ 88) (h2 : e ≠ 96) : OwnR w' C e s a n cap cs := by
  obtain ⟨G, z, k1, k2⟩ := hT
  exact h.moves hm k1 h1 h2
theorem Tbl.below {w w' : World} {B p b x : Nat} {es : List En} (h : Tbl w B p b x es) (hm : Moves w w' p b) : Below B w w' := by
  have := h.lt
  exact hm.below this.2.2.1 this.2.2.2 (by omega)

theorem NewT (x : Nat) (w : World) (hx : x < 18446744073709551616) :
    Calls Try.prog 34 #[.int .u64 x] w fun e w' => Below w.heap.size w w' ∧ ∃ p b, e = .returned (ptr p) ∧ Tbl w' w.heap.size p b x [] := by
  refine (New_tab x w hx).mono ?_
  rintro e w' ⟨hb, p, b, rfl, hT, -⟩
  exact ⟨hb, p, b, rfl, 1, _, hT, by rw [ents_news0]⟩
theorem GetT_some (B p b x : Nat) (es : List En) (k : ByteArray) (v : Int) (w : World) (hT : Tbl w B p b x es) (hk : k.size ≤ maxLen) (hm : (k, v) ∈ es) :
    Calls Try.prog 63 #[ptr p, .string k] w fun e w' => e = .returned (.tuple #[.int .i64 v, .bool true]) ∧ Below w.heap.size w w' := by
  obtain ⟨G, z, h1, h2⟩ := hT
  exact Get_some B p b x G z k v w h1 hk (h2.mem_iff.2 hm)
theorem GetT_none (B p b x : Nat) (es : List En) (k : ByteArray) (w : World) (hT : Tbl w B p b x es) (hk : k.size ≤ maxLen) (hm : k ∉ keysOf es) :
    Calls Try.prog 63 #[ptr p, .string k] w fun e w' => e = .returned (.tuple #[.int .i64 0, .bool false]) ∧ Below w.heap.size w w' := by
  obtain ⟨G, z, h1, h2⟩ := hT
  exact Get_none B p b x G z k w h1 hk (fun h => hm ((h2.map (·.1)).mem_iff.1 h))
theorem LenT (B p b x : Nat) (es : List En) (w : World) (hT : Tbl w B p b x es) : Calls Try.prog 66 #[ptr p] w fun e w' => e = .returned (.int .i64 (es.length : Nat)) ∧ w' = w := by
  obtain ⟨G, z, h1, h2⟩ := hT
  rw [← h2.length_eq]
  exact Len_any B p b x G z w h1
theorem KeysT (B p b x : Nat) (es : List En) (w : World) (hT : Tbl w B p b x es) : Calls Try.prog 72 #[ptr p] w fun e w' => Below w.heap.size w w' ∧ ∃ a n c ks, e = .returned (.slice a n c) ∧ OwnS w' w.heap.size a n c ks ∧ ks.Perm (keysOf es) := by
  obtain ⟨G, z, h1, h2⟩ := hT
  refine (Keys_any B p b x G z w h1).mono ?_
  rintro e w' ⟨hb, a, n, c, rfl, hO⟩
  exact ⟨hb, a, n, c, _, rfl, hO, h2.map _⟩
theorem PutT_new (B p b x : Nat) (es : List En) (k : ByteArray) (v : Int) (w : World) (hT : Tbl w B p b x es) (hks : k.size ≤ maxLen) (hk : k ∉ keysOf es) (hlen : es.length < 112) :
    Calls Try.prog 41 #[ptr p, .string k, .int .i64 v] w fun e w' => e = .returned (.int .i64 0) ∧ Moves w w' p b ∧ ∃ b', Tbl w' B p b' x (es ++ [(k, v)]) ∧ (b' = b ∨ w.heap.size ≤ b') := by
  obtain ⟨G, z, h1, h2⟩ := hT
  refine (Put_new B p b x G z k v w h1 hks (fun h => hk ((h2.map (·.1)).mem_iff.1 h)) (by rw [h2.length_eq]; exact hlen)).mono ?_
  rintro e w' ⟨rfl, hm, b', G', z', hT', hb', hp'⟩
  exact ⟨rfl, hm, b', ⟨G', z', hT', hp'.trans (List.Perm.append_right _ h2)⟩, hb'⟩
theorem PutT_full (B p b x : Nat) (es : List En) (k : ByteArray) (v : Int) (w : World) (hT : Tbl w B p b x es) (hks : k.size ≤ maxLen) (hk : k ∉ keysOf es) (hlen : 112 ≤ es.length) :
    Calls Try.prog 41 #[ptr p, .string k, .int .i64 v] w fun e w' => e = .returned (.int .i64 23) ∧ Below w.heap.size w w' := by
  obtain ⟨G, z, h1, h2⟩ := hT
  exact Put_full B p b x G z k v w h1 hks (fun h => hk ((h2.map (·.1)).mem_iff.1 h)) (by rw [h2.length_eq]; exact hlen)
theorem PutT_old (B p b x : Nat) (a c : List En) (k : ByteArray) (u v : Int) (w : World) (hT : Tbl w B p b x (a ++ (k, u) :: c)) (hks : k.size ≤ maxLen) :
    Calls Try.prog 41 #[ptr p, .string k, .int .i64 v] w fun e w' => e = .returned (.int .i64 0) ∧ Moves w w' p b ∧ Tbl w' B p b x (a ++ (k, v) :: c) := by
  obtain ⟨G, z, h1, h2⟩ := hT
  refine (Put_old B p b x G z k v w h1 hks ((h2.map (·.1)).mem_iff.2 (by simp))).mono ?_
  rintro e w' ⟨rfl, hm, z', hT', a', c', u', ha, hc⟩
  refine ⟨rfl, hm, G, z', hT', ?_⟩
  have hu : u' = u := h1.inv.val (k := k) (by rw [ha]; simp) (h2.mem_iff.2 (by simp))
  subst hu
  rw [ha] at h2
  rw [hc]
  have h3 : (a' ++ c').Perm (a ++ c) := List.Perm.cons_inv (List.perm_middle.symm.trans (h2.trans List.perm_middle))
  exact List.perm_middle.trans ((h3.cons _).trans List.perm_middle.symm)
theorem DeleteT_no (B p b x : Nat) (es : List En) (k : ByteArray) (w : World) (hT : Tbl w B p b x es) (hks : k.size ≤ maxLen) (hk : k ∉ keysOf es) :
    Calls Try.prog 75 #[ptr p, .string k] w fun e w' => e = .returned (.bool false) ∧ Below w.heap.size w w' := by
  obtain ⟨G, z, h1, h2⟩ := hT
  exact Delete_no B p b x G z k w h1 hks (fun h => hk ((h2.map (·.1)).mem_iff.1 h))
theorem DeleteT_yes (B p b x : Nat) (a c : List En) (k : ByteArray) (u : Int) (w : World) (hT : Tbl w B p b x (a ++ (k, u) :: c)) (hks : k.size ≤ maxLen) :
    Calls Try.prog 75 #[ptr p, .string k] w fun e w' => e = .returned (.bool true) ∧ Moves w w' p b ∧ Tbl w' B p b x (a ++ c) := by
  obtain ⟨G, z, h1, h2⟩ := hT
  refine (Delete_yes B p b x G z k w h1 hks ((h2.map (·.1)).mem_iff.2 (by simp))).mono ?_
  rintro e w' ⟨rfl, hm, z', hT', u', hp⟩
  refine ⟨rfl, hm, G, z', hT', ?_⟩
  have hu : u' = u := h1.inv.val (k := k) (hp.mem_iff.2 (by simp)) (h2.mem_iff.2 (by simp))
  subst hu
  exact List.Perm.cons_inv (hp.symm.trans (h2.trans List.perm_middle))
end Go.Proofs.Ytejnmikbbnckeaa
