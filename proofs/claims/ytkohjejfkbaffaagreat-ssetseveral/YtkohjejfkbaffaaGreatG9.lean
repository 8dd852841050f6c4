/-
  Within, Cut, the law's key; Times and Bag.
  A table as what it has: keys and values, in whatever order.
  Parts of rows, and what append makes of a row and a part; a number set in its place. For the law's play.
  isSet and Split.
  The bits of a number, read the other way round, and the order of buckets that is made of them; pure.
  The lowest bits of a number: the program's Low and the document's own, over every number.
  The program's clamp and turn, the document's deep and Turned, over every number.
  The program's Next, Bucket and Seen, the document's own Next and Seen; Within: over every number.
  The parts of a directory: each has its own depth and its bits; each hash belongs to just one; what a split makes of them. Pure.
-/
import Derived.Test.YtkohjejfkbaffaaGreatG8
import Derived.Laws.Runes
import Derived.Deep.RegionLaw
import Derived.Test.YtkohjejfkbaffaaGreatProg
import Derived.WalkKit
import Derived.WalkSpells
import Derived.PlainAid
import Derived.Laws.BitsAllLaws
import Derived.Laws.IdiomStrings
import Derived.Deep.LoopGhost
import Derived.Deep.Cut
import Derived.Lib.IndexBytes
import Derived.Elder7
namespace Go.Proofs.YtkohjejfkbaffaaGreat.Dk
open Go.RowKit Go.PlainAid

def cutB (s : ByteArray) (n : Int) : ByteArray := if n < (s.size : Int) then s.extract 0 n.toNat else s
theorem size_cutB (s : ByteArray) (n : Int) (h : 0 ≤ n) : ((cutB s n).size : Int) ≤ n := by
  unfold cutB
  split
  · simp; omega
  · omega

theorem Cut_any (s : ByteArray) (n : Int) (w : World) (h0 : 0 ≤ n) :
    Calls Tryz.prog 26 #[.string s, .int .i64 n] w fun e w' => e = .returned (.string (cutB s n)) ∧ w' = w := by
  by_cases h : n < s.size
  · have HC : Hid (cutB s n = s.extract 0 n.toNat) := by show cutB s n = _; rw [cutB, if_pos h]
    go_enter Tryz.func26, Tryz.ntmps26
    go_wp2
    go_ret
    exact ⟨by rw [HC.out]; simp, rfl⟩
  · have HC : Hid (cutB s n = s) := by show cutB s n = _; rw [cutB, if_neg h]
    go_enter Tryz.func26, Tryz.ntmps26
    go_wp2
    go_ret
    exact ⟨by rw [HC.out]; rfl, rfl⟩

theorem Within_any (n lo hi : Int) (w : World) (h0 : lo ≤ hi) (h1 : hi ≤ 2000000) (h2 : -2000000 ≤ lo) :
    Calls Tryz.prog 18 #[.int .i64 n, .int .i64 lo, .int .i64 hi] w fun e w' => w' = w ∧ ∃ z : Int, lo ≤ z ∧ z ≤ hi ∧ e = .returned (.int .i64 z) := by
  obtain ⟨D, hD⟩ : ∃ D, hi - lo = D := ⟨_, rfl⟩
  have hz : (D + 1 == 0) = false := by simp; omega
  have hr0 : n.tmod (D + 1) < D + 1 := Int.tmod_lt_of_pos n (by omega)
  have hr1 : -(D + 1) < n.tmod (D + 1) := Int.lt_tmod_of_pos n (by omega)
  obtain ⟨r, hr⟩ : ∃ r, n.tmod (D + 1) = r := ⟨_, rfl⟩
  rw [hr] at hr0 hr1
  by_cases hn : r < 0
  · obtain ⟨r1, e1⟩ : ∃ r1, r + hi = r1 := ⟨_, rfl⟩
    obtain ⟨r2, e2⟩ : ∃ r2, r1 - lo = r2 := ⟨_, rfl⟩
    go_enter Tryz.func18, Tryz.ntmps18
    go_wp2
    go_ret
    exact ⟨rfl, lo + (r2 + 1), by omega, by omega, rfl⟩
  · go_enter Tryz.func18, Tryz.ntmps18
    go_wp2
    go_ret
    exact ⟨rfl, lo + r, by omega, by omega, rfl⟩

/-- A key that is asked for, whichever. -/
theorem encode_size (r : Int) : (Utf8.encode r).size ≤ 4 := by
  unfold Utf8.encode
  generalize (if Utf8.valid r then r.toNat else Utf8.runeError) = c
  simp only []
  split
  · show 1 ≤ 4; omega
  · split
    · show 2 ≤ 4; omega
    · split
      · show 3 ≤ 4; omega
      · show 4 ≤ 4; omega

/-- How often a text is among others. -/
def cnt (ls : List ByteArray) (s : ByteArray) : Nat := (ls.filter (fun t => decide (t = s))).length
theorem cnt_snoc (ls : List ByteArray) (k s : ByteArray) : cnt (ls ++ [k]) s = cnt ls s + (if k = s then 1 else 0) := by
  unfold cnt
  rw [List.filter_append, List.length_append]
  by_cases h : k = s
  · rw [List.filter_cons_of_pos (by simpa using h), if_pos h]; rfl
  · rw [List.filter_cons_of_neg (by simpa using h), if_neg h]; rfl
theorem cnt_le (ls : List ByteArray) (s : ByteArray) : cnt ls s ≤ ls.length := List.length_filter_le _ _
theorem cnt_perm {l l' : List ByteArray} (h : l.Perm l') (s : ByteArray) : cnt l s = cnt l' s := (h.filter _).length_eq
theorem cnt_zero {ls : List ByteArray} {s : ByteArray} : cnt ls s = 0 ↔ s ∉ ls := by
  unfold cnt
  rw [List.length_eq_zero_iff, List.filter_eq_nil_iff]
  constructor
  · intro h hm; exact h s hm (by simp)
  · intro h t ht he; rw [of_decide_eq_true he] at ht; exact h ht
theorem Times_any (a : Option Addr) (n cap : Nat) (ls : List ByteArray) (s : ByteArray) (w : World) (hO : OwnS w 0 a n cap ls) (hn : n ≤ 1000000) :
    Calls Tryz.prog 41 #[.slice a n cap, .string s] w fun e w' => e = .returned (.int .i64 (cnt ls s : Nat)) ∧ w' = w := by
  have HO : Hid (OwnS w 0 a n cap ls) := hO
  have HL : Hid (ls.length = n) := OwnS.len hO
  clear hO
  go_enter Tryz.func41, Tryz.ntmps41
  go_wp2
  go_loopg [5, 6] n (fun q nv iv wr => w = wr ∧ ∃ i : Nat, i + q = n ∧ iv = .int .i64 i ∧ nv = .int .i64 (cnt (ls.take i) s : Nat))
  case atStart => exact ⟨rfl, 0, by omega, rfl, rfl⟩
  case round =>
    obtain ⟨rfl, i, hi, rfl, rfl⟩ := hrel
    by_cases h8 : (i : Int) < n
    · obtain ⟨g, ha, hc⟩ := OwnS.cell HO.out (j := i) (by omega)
      subst ha
      have HS : Hid (ls.take (i + 1) = ls.take i ++ [ls.getD i ⟨#[]⟩]) := take_snoc ls _ i (by have := HL.out; omega)
      have hcl : cnt (ls.take i) s ≤ 1000000 := by
        have h1 := cnt_le (ls.take i) s
        rw [List.length_take] at h1
        omega
      generalize ls.getD i ⟨#[]⟩ = k at hc HS
      by_cases hk : k = s
      · subst hk
        have HE : Hid (cnt (ls.take (i + 1)) k = cnt (ls.take i) k + 1) := by show _ = _; rw [HS.out, cnt_snoc, if_pos rfl]
        generalize cnt (ls.take i) k = m at HE hcl ⊢
        go_wp2
        go_roundg (gk - 1)
        case measure => omega
        case rel => exact ⟨rfl, i + 1, by omega, by go_num, by rw [HE.out]; go_num⟩
      · have HE : Hid (cnt (ls.take (i + 1)) s = cnt (ls.take i) s) := by show _ = _; rw [HS.out, cnt_snoc, if_neg hk]; rfl
        generalize cnt (ls.take i) s = m at HE hcl ⊢
        have hkb : (k.toList == s.toList) = false := by rw [str_beq]; exact decide_eq_false hk
        go_wp2
        go_roundg (gk - 1)
        case measure => omega
        case rel => exact ⟨rfl, i + 1, by omega, by go_num, by rw [HE.out]⟩
    · have HE : Hid (ls.take i = ls) := by show _ = _; rw [List.take_of_length_le (by have := HL.out; omega)]
      rw [HE.out]
      go_wp2
      go_ret
      exact ⟨rfl, rfl⟩

/-- The same texts, each as often. -/
theorem Bag_any (a a' : Option Addr) (n cap cap' : Nat) (ls ls' : List ByteArray) (w : World) (hO : OwnS w 0 a n cap ls) (hO' : OwnS w 0 a' n cap' ls') (hn : n ≤ 1000000) (hp : ls.Perm ls') :
    Calls Tryz.prog 19 #[.slice a n cap, .slice a' n cap'] w fun e w' => e = .returned (.bool true) ∧ Below w.heap.size w w' := by
  have HO : Hid (OwnS w 0 a n cap ls) := hO
  have HO' : Hid (OwnS w 0 a' n cap' ls') := hO'
  have HP : Hid (∀ s, cnt ls s = cnt ls' s) := fun s => cnt_perm hp s
  have HT := fun s w hO => Times_any a n cap ls s w hO hn
  have HT' := fun s w hO => Times_any a' n cap' ls' s w hO hn
  clear hO hO'
  go_enter Tryz.func19, Tryz.ntmps19
  go_wp2
  go_loopg [5] n (fun q iv wr => ∃ i : Nat, i + q = n ∧ iv = .int .i64 i ∧ Hid (Below w.heap.size w wr))
  case atStart => exact ⟨0, by omega, rfl, Below.refl _ _⟩
  case round =>
    obtain ⟨i, hi, rfl, HB⟩ := hrel
    by_cases h8 : (i : Int) < n
    · obtain ⟨g, ha, hc⟩ := OwnS.cell (OwnR.keep HO.out HB.out) (j := i) (by omega)
      subst ha
      generalize ls.getD i ⟨#[]⟩ = k at hc
      have HTk := fun q => HT k (wr.drewN q) (OwnR.keep (OwnR.keep HO.out HB.out) (below_drewN wr q))
      have HTk' := fun q => HT' k (wr.drewN q) (OwnR.keep (OwnR.keep HO'.out HB.out) (below_drewN wr q))
      rw [HP.out k] at HTk
      generalize cnt ls' k = m at HTk HTk'
      clear HT HT'
      go_wp2
      go_quiet ((go_at_call 41; first | with_reducible exact Calls.quiet_of_same (HTk _) | with_reducible exact Calls.quiet_of_same (HTk' _)))
      go_wp2
      go_roundg (gk - 1)
      case measure => omega
      case rel => exact ⟨i + 1, by omega, by go_num, step_below HB (below_drewN _ _)⟩
    · go_wp2
      go_ret
      exact ⟨rfl, HB.out⟩
end Go.Proofs.YtkohjejfkbaffaaGreat.Dk

namespace Go.Proofs.YtkohjejfkbaffaaGreat.Dk
open Go.RowKit Go.PlainAid

/-- A table at p, its groups at b, by the seed x, that has es. -/
def Tbl (w : World) (B p b x : Nat) (es : List En) : Prop := ∃ G z, Tab w B p b x G z ∧ (ents z).Perm es
abbrev keysOf (es : List En) : List ByteArray := es.map (·.1)
theorem Tbl.keep {w wn : World} {B p b x : Nat} {es : List En} (h : Tbl w B p b x es) (hb : Below w.heap.size w wn) : Tbl wn B p b x es := by
  obtain ⟨G, z, h1, h2⟩ := h
  exact ⟨G, z, h1.keep hb, h2⟩
theorem Tbl.nod {w : World} {B p b x : Nat} {es : List En} (h : Tbl w B p b x es) : (keysOf es).Nodup := by
  obtain ⟨G, z, h1, h2⟩ := h
  exact (h2.map (·.1)).nodup_iff.1 h1.inv.nod
theorem Tbl.le {w : World} {B p b x : Nat} {es : List En} (h : Tbl w B p b x es) : es.length ≤ 112 := by
  obtain ⟨G, z, h1, h2⟩ := h
  have := h1.inv.room
  have := h1.inv.grp.le
  have := h2.length_eq
  omega
theorem Tbl.lt {w : World} {B p b x : Nat} {es : List En} (h : Tbl w B p b x es) : p < w.heap.size ∧ b < w.heap.size ∧ B ≤ p ∧ B ≤ b := by
  obtain ⟨G, z, h1, h2⟩ := h
  exact ⟨h1.top.lt, h1.row.lt, h1.low, h1.lowb⟩
theorem Tbl.low {w : World} {B C p b x : Nat} {es : List En} (h : Tbl w B p b x es) (hC : C ≤ B) : Tbl w C p b x es := by
  obtain ⟨G, z, h1, h2⟩ := h
  exact ⟨G, z, ⟨h1.top, h1.row, Nat.le_trans hC h1.low, Nat.le_trans hC h1.lowb, h1.inv, h1.seed, h1.siz⟩, h2⟩
theorem Tbl.perm {w : World} {B p b x : Nat} {es fs : List En} (h : Tbl w B p b x es) (hp : es.Perm fs) : Tbl w B p b x fs := by
  obtain ⟨G, z, h1, h2⟩ := h
  exact ⟨G, z, h1, h2.trans hp⟩
/-- Two tables, side by side. -/
theorem Tbl.ne {w : World} {B C p b x q c y : Nat} {es fs : List En} (h : Tbl w B p b x es) (h' : Tbl w C q c y fs) : p ≠ c := by
  obtain ⟨G, z, h1, -⟩ := h
  obtain ⟨G', z', h2, -⟩ := h'
  exact h1.top.ne h2.row
theorem Tbl.moves {w w' : World} {B C p b x q c y : Nat} {es fs : List En} (h : Tbl w B p b x es) (h' : Tbl w C q c y fs) (hm : Moves w w' q c) (h1 : p ≠ q) (h2 : b ≠ c) : Tbl w' B p b x es := by
  have h3 := h.ne h'
  have h4 := (h'.ne h).symm
  obtain ⟨G, z, k1, k2⟩ := h
  exact ⟨G, z, k1.moves hm h1 h2 h3 h4, k2⟩
theorem Tbl.grown {w w2 : World} {B C p b x : Nat} {es : List En} {e : TypeId} {s : Nat} {a : Option Addr} {n cap : Nat} {cs : List Value} (h : Tbl w B p b x es) (h' : OwnR w C e s a n cap cs) (hg : w.grownBy w2 (a.map (·.block))) (h1 : e ≠ 120) (h2 : e ≠ 128) : Tbl w2 B p b x es := by
  obtain ⟨G, z, k1, k2⟩ := h
  exact ⟨G, z, k1.grown h' hg h1 h2, k2⟩
theorem OwnR.movesT {w w' : World} {B C p b x : Nat} {es : List En} {e : TypeId} {s : Nat} {a : Option Addr} {n cap : Nat} {cs : List Value} (h : OwnR w C e s a n cap cs) (hm : Moves w w' p b) (hT : Tbl w B p b x es) (h1 : e ≠ 120) (h2 : e ≠ 128) : OwnR w' C e s a n cap cs := by
  obtain ⟨G, z, k1, k2⟩ := hT
  exact h.moves hm k1 h1 h2
theorem Tbl.below {w w' : World} {B p b x : Nat} {es : List En} (h : Tbl w B p b x es) (hm : Moves w w' p b) : Below B w w' := by
  have := h.lt
  exact hm.below this.2.2.1 this.2.2.2 (by omega)

theorem NewT (x : Nat) (w : World) (hx : x < 18446744073709551616) :
    Calls Tryz.prog 86 #[.int .u64 x] w fun e w' => Below w.heap.size w w' ∧ ∃ p b, e = .returned (ptr p) ∧ Tbl w' w.heap.size p b x [] := by
  refine (New_tab x w hx).mono ?_
  rintro e w' ⟨hb, p, b, rfl, hT, -⟩
  exact ⟨hb, p, b, rfl, 1, _, hT, by rw [ents_news0]⟩
theorem GetT_some (B p b x : Nat) (es : List En) (k : ByteArray) (v : Unit) (w : World) (hT : Tbl w B p b x es) (hk : k.size ≤ maxLen) (hm : (k, v) ∈ es) :
    Calls Tryz.prog 75 #[ptr p, .string k] w fun e w' => e = .returned (.tuple #[.agg #[], .bool true]) ∧ Below w.heap.size w w' := by
  obtain ⟨G, z, h1, h2⟩ := hT
  exact Get_some B p b x G z k v w h1 hk (h2.mem_iff.2 hm)
theorem GetT_none (B p b x : Nat) (es : List En) (k : ByteArray) (w : World) (hT : Tbl w B p b x es) (hk : k.size ≤ maxLen) (hm : k ∉ keysOf es) :
    Calls Tryz.prog 75 #[ptr p, .string k] w fun e w' => e = .returned (.tuple #[.agg #[], .bool false]) ∧ Below w.heap.size w w' := by
  obtain ⟨G, z, h1, h2⟩ := hT
  exact Get_none B p b x G z k w h1 hk (fun h => hm ((h2.map (·.1)).mem_iff.1 h))
theorem LenT (B p b x : Nat) (es : List En) (w : World) (hT : Tbl w B p b x es) : Calls Tryz.prog 82 #[ptr p] w fun e w' => e = .returned (.int .i64 (es.length : Nat)) ∧ w' = w := by
  obtain ⟨G, z, h1, h2⟩ := hT
  rw [← h2.length_eq]
  exact Len_any B p b x G z w h1
theorem KeysT (B p b x : Nat) (es : List En) (w : World) (hT : Tbl w B p b x es) : Calls Tryz.prog 90 #[ptr p] w fun e w' => Below w.heap.size w w' ∧ ∃ a n c ks, e = .returned (.slice a n c) ∧ OwnS w' w.heap.size a n c ks ∧ ks.Perm (keysOf es) := by
  obtain ⟨G, z, h1, h2⟩ := hT
  refine (Keys_any B p b x G z w h1).mono ?_
  rintro e w' ⟨hb, a, n, c, rfl, hO⟩
  exact ⟨hb, a, n, c, _, rfl, hO, h2.map _⟩
theorem PutT_new (B p b x : Nat) (es : List En) (k : ByteArray) (v : Unit) (w : World) (hT : Tbl w B p b x es) (hks : k.size ≤ maxLen) (hk : k ∉ keysOf es) (hlen : es.length < 112) :
    Calls Tryz.prog 61 #[ptr p, .string k, .agg #[]] w fun e w' => e = .returned (.int .i64 0) ∧ Moves w w' p b ∧ ∃ b', Tbl w' B p b' x (es ++ [(k, v)]) ∧ (b' = b ∨ w.heap.size ≤ b') := by
  obtain ⟨G, z, h1, h2⟩ := hT
  refine (Put_new B p b x G z k v w h1 hks (fun h => hk ((h2.map (·.1)).mem_iff.1 h)) (by rw [h2.length_eq]; exact hlen)).mono ?_
  rintro e w' ⟨rfl, hm, b', G', z', hT', hb', hp'⟩
  exact ⟨rfl, hm, b', ⟨G', z', hT', hp'.trans (List.Perm.append_right _ h2)⟩, hb'⟩
theorem PutT_full (B p b x : Nat) (es : List En) (k : ByteArray) (v : Unit) (w : World) (hT : Tbl w B p b x es) (hks : k.size ≤ maxLen) (hk : k ∉ keysOf es) (hlen : 112 ≤ es.length) :
    Calls Tryz.prog 61 #[ptr p, .string k, .agg #[]] w fun e w' => e = .returned (.int .i64 23) ∧ Below w.heap.size w w' := by
  obtain ⟨G, z, h1, h2⟩ := hT
  exact Put_full B p b x G z k v w h1 hks (fun h => hk ((h2.map (·.1)).mem_iff.1 h)) (by rw [h2.length_eq]; exact hlen)
theorem PutT_old (B p b x : Nat) (a c : List En) (k : ByteArray) (u v : Unit) (w : World) (hT : Tbl w B p b x (a ++ (k, u) :: c)) (hks : k.size ≤ maxLen) :
    Calls Tryz.prog 61 #[ptr p, .string k, .agg #[]] w fun e w' => e = .returned (.int .i64 0) ∧ Moves w w' p b ∧ Tbl w' B p b x (a ++ (k, v) :: c) := by
  obtain ⟨G, z, h1, h2⟩ := hT
  refine (Put_old B p b x G z k v w h1 hks ((h2.map (·.1)).mem_iff.2 (by simp))).mono ?_
  rintro e w' ⟨rfl, hm, z', hT', a', c', u', ha, hc⟩
  refine ⟨rfl, hm, G, z', hT', ?_⟩
  have hu : u' = u := h1.inv.val (k := k) (by rw [ha]; simp) (h2.mem_iff.2 (by simp))
  subst hu
  rw [ha] at h2
  rw [hc]
  have h3 : (a' ++ c').Perm (a ++ c) := List.Perm.cons_inv (List.perm_middle.symm.trans (h2.trans List.perm_middle))
  exact List.perm_middle.trans ((h3.cons _).trans List.perm_middle.symm)
theorem DeleteT_no (B p b x : Nat) (es : List En) (k : ByteArray) (w : World) (hT : Tbl w B p b x es) (hks : k.size ≤ maxLen) (hk : k ∉ keysOf es) :
    Calls Tryz.prog 93 #[ptr p, .string k] w fun e w' => e = .returned (.bool false) ∧ Below w.heap.size w w' := by
  obtain ⟨G, z, h1, h2⟩ := hT
  exact Delete_no B p b x G z k w h1 hks (fun h => hk ((h2.map (·.1)).mem_iff.1 h))
theorem DeleteT_yes (B p b x : Nat) (a c : List En) (k : ByteArray) (u : Unit) (w : World) (hT : Tbl w B p b x (a ++ (k, u) :: c)) (hks : k.size ≤ maxLen) :
    Calls Tryz.prog 93 #[ptr p, .string k] w fun e w' => e = .returned (.bool true) ∧ Moves w w' p b ∧ Tbl w' B p b x (a ++ c) := by
  obtain ⟨G, z, h1, h2⟩ := hT
  refine (Delete_yes B p b x G z k w h1 hks ((h2.map (·.1)).mem_iff.2 (by simp))).mono ?_
  rintro e w' ⟨rfl, hm, z', hT', u', hp⟩
  refine ⟨rfl, hm, G, z', hT', ?_⟩
  have hu : u' = u := h1.inv.val (k := k) (hp.mem_iff.2 (by simp)) (h2.mem_iff.2 (by simp))
  subst hu
  exact List.Perm.cons_inv (hp.symm.trans (h2.trans List.perm_middle))
end Go.Proofs.YtkohjejfkbaffaaGreat.Dk

namespace Go.Proofs.YtkohjejfkbaffaaGreat.Dk
open Go.RowKit Go.PlainAid

/-- A slice of elements of one cell that reads cs, with its room. -/
structure RdR (w : World) (a : Option Addr) (n cap : Nat) (cs : List Value) : Prop where
  len : cs.length = n
  fit : n ≤ cap
  max : cap ≤ maxLen
  nul : a = none → cap = 0
  cell : ∀ j u, cs[j]? = some u → ∃ b off, a = some ⟨b, off, none⟩ ∧ w.cell? ⟨b, off + j, none⟩ = some u
theorem RdR.keep {w wn : World} {a : Option Addr} {n cap : Nat} {cs : List Value} (h : RdR w a n cap cs) (hb : Below w.heap.size w wn) : RdR wn a n cap cs :=
  ⟨h.len, h.fit, h.max, h.nul, fun j u hu => by
    obtain ⟨b, off, e, hc⟩ := h.cell j u hu
    exact ⟨b, off, e, by rw [hb.cell (p := ⟨b, off + j, none⟩) (World.block_lt_of_cell? _ _ hc)]; exact hc⟩⟩
theorem OwnR.rd {w : World} {B : Nat} {e : TypeId} {a : Option Addr} {n cap : Nat} {cs : List Value} (h : OwnR w B e 1 a n cap cs) : RdR w a n cap cs := by
  have hl := h.len
  rw [Nat.mul_one] at hl
  refine ⟨hl, h.cap.1, h.cap.2, ?_, ?_⟩
  · intro ha
    rcases h.2 with ⟨h2, h3⟩ | ⟨g, c, cur, h1, h3⟩
    · cases h2; rfl
    · cases h1; cases ha
  · intro j u hu
    have hj : j < cs.length := by
      rcases Nat.lt_or_ge j cs.length with h | h
      · exact h
      · rw [List.getElem?_eq_none h] at hu; cases hu
    obtain ⟨g, ha, hc⟩ := h.at (by omega)
    exact ⟨g, 0, ha, by rw [Nat.zero_add]; exact hc j u hu⟩
theorem RdR.sub {w : World} {a : Option Addr} {n cap : Nat} {l : List Value} (h : RdR w a n cap l) (lo hi : Nat) (h1 : lo ≤ hi) (h2 : hi ≤ n) :
    RdR w (if cap = lo then a else a.map (·.add (lo * 1))) (hi - lo) (cap - lo) ((l.drop lo).take (hi - lo)) := by
  have hl := h.len
  have hf := h.fit
  have hx := h.max
  refine ⟨?_, by omega, by omega, fun hn => ?_, fun j u hu => ?_⟩
  · rw [List.length_take, List.length_drop, hl]; omega
  · cases a with
    | none => have := h.nul rfl; omega
    | some x => split at hn <;> simp at hn
  · rw [List.getElem?_take] at hu
    split at hu
    · rename_i hj
      rw [List.getElem?_drop] at hu
      obtain ⟨b, off, e, hc⟩ := h.cell (lo + j) u hu
      subst e
      have hne : ¬ cap = lo := by omega
      refine ⟨b, off + lo, ?_, ?_⟩
      · rw [if_neg hne, Option.map_some, Nat.mul_one, add_flat]
      · rw [Nat.add_assoc]; exact hc
    · cases hu

theorem Tryz.size9 (w : World) : (sizeOf 9).run Tryz.prog w = .ok 1 w := by go_simp
theorem Tryz.size3 (w : World) : (sizeOf 3).run Tryz.prog w = .ok 1 w := by go_simp
theorem Tryz.elem40 : Tryz.prog.elem 40 = 9 := by simp [Program.elem, Tryz.underlying40]
theorem Tryz.elem26 : Tryz.prog.elem 26 = 3 := by simp [Program.elem, Tryz.underlying26]
/-- What must be known of a row's type for its parts. -/
structure One (t e : TypeId) : Prop where
  und : Tryz.prog.underlying t = some (.slice (Tryz.prog.elem t))
  elm : Tryz.prog.elem t = e
  siz : ∀ w, (sizeOf e).run Tryz.prog w = .ok 1 w
theorem oneS : One 40 9 := ⟨by rw [Tryz.elem40]; exact Tryz.underlying40, Tryz.elem40, Tryz.size9⟩
theorem oneJ : One 26 3 := ⟨by rw [Tryz.elem26]; exact Tryz.underlying26, Tryz.elem26, Tryz.size3⟩
theorem RdR.slice_l {w : World} {t e : TypeId} (F : One t e) {a : Option Addr} {n cap : Nat} {l : List Value} (h : RdR w a n cap l) (lo : Nat) (h1 : lo ≤ n) :
    ∃ a' cap', (∀ wx, (Instr.sliceAt t (.slice a n cap) (some (.int .i64 lo)) none none).run Tryz.prog wx = .ok (.slice a' (n - lo) cap') wx) ∧ RdR w a' (n - lo) cap' (l.drop lo) := by
  have hs := h.sub lo n h1 (Nat.le_refl _)
  rw [List.take_of_length_le (by rw [List.length_drop, h.len]; omega)] at hs
  refine ⟨_, _, fun wx => ?_, hs⟩
  rw [run_sliceAt_slice _ _ _ _ _ _ F.und, run_slice_l (P := Tryz.prog) wx t a n cap F.und .i64 lo (by omega) (by omega), F.elm, F.siz]
  simp [Result.andThen, sliced]
theorem RdR.slice_h {w : World} {t e : TypeId} (F : One t e) {a : Option Addr} {n cap : Nat} {l : List Value} (h : RdR w a n cap l) (hi : Nat) (h1 : hi ≤ n) :
    ∃ a' cap', (∀ wx, (Instr.sliceAt t (.slice a n cap) none (some (.int .i64 hi)) none).run Tryz.prog wx = .ok (.slice a' hi cap') wx) ∧ RdR w a' hi cap' (l.take hi) := by
  have hs := h.sub 0 hi (Nat.zero_le _) h1
  rw [List.drop_zero, Nat.sub_zero, Nat.sub_zero] at hs
  refine ⟨_, _, fun wx => ?_, hs⟩
  rw [run_sliceAt_slice _ _ _ _ _ _ F.und, run_slice_h (P := Tryz.prog) wx t a n cap F.und .i64 hi (by omega) (by have := h.fit; omega), F.elm, F.siz]
  simp [Result.andThen, sliced]

/-- append(l, x...). -/
theorem run_append_p (w : World) (B : Nat) {t e : TypeId} {by8 : Nat} (F : Elt t e 1 by8) {a : Option Addr} {n cap : Nat} {cs : List Value} (hown : OwnR w B e 1 a n cap cs) {a' : Option Addr} {n' cap' : Nat} {rs : List Value} (hr : RdR w a' n' cap' rs)
    (h1 : ∀ u ∈ rs, u.oneCell' = true) (hb : (n + n') * by8 ≤ 140737488355328) (h63 : n + n' ≤ maxLen) (hB : B ≤ w.heap.size) (ty : TypeId) :
    ∃ a2 c2 w2, (Builtin.append_ #[t, t] ty #[.slice a n cap, .slice a' n' cap']).run Tryz.prog w = .ok (.slice a2 (n + n') c2) w2 ∧ OwnR w2 B e 1 a2 (n + n') c2 (cs ++ rs) ∧ w.grownBy w2 (a.map (·.block)) := by
  obtain ⟨i, z, hi, hz0, hz1, hz2, hz3⟩ := F.inf
  have hblk : (Value.slice a n cap).ownBlock = a.map (·.block) := by cases a <;> rfl
  cases a' with
  | none =>
    have hc0 := hr.nul rfl
    have hf := hr.fit
    have hn0 : n' = 0 := by omega
    subst hn0
    subst hc0
    have hr0 : rs = [] := List.length_eq_zero_iff.1 hr.len
    subst hr0
    refine ⟨a, cap, w, ?_, by rw [List.append_nil]; exact hown, ⟨rfl, rfl, rfl, Nat.le_refl _, fun _ _ _ => rfl⟩⟩
    exact run_append_owned_none (P := Tryz.prog) w B t ty e i 1 F.und hi (.slice a n cap) n cs hown
  | some ad =>
    have hnews : ∀ j u, rs[j]? = some u → w.cell? (ad.add j) = some u := fun j u hu => by
      obtain ⟨b, off, ea, hc⟩ := hr.cell j u hu
      cases ea
      rw [add_flat]; exact hc
    obtain ⟨v', w', k1, k2, k3, -⟩ := run_append_own_at (P := Tryz.prog) w B t ty e i z 1 by8 F.und hi hz0 hz1 hz2 hz3 F.pos (.slice a n cap) n cs hown ad n' cap' rs (by rw [hr.len]; omega) hnews h1 h63 hb hB
    rw [hblk] at k3
    rcases k2.2 with ⟨rfl, h4⟩ | ⟨g2, c2, cur, rfl, h4⟩
    · refine ⟨none, 0, w', by rw [k1, h4], ?_, k3⟩
      rw [h4] at k2 ⊢
      exact k2
    · exact ⟨_, _, w', k1, k2, k3⟩
theorem step_append_p {w : World} {ops : Array Oper} {o : Oper} {ac : Act} {K : Act → World → Prop} {Q : Exit → Act → World → Prop} {E : Prop} (hgd : o.guard = none) (s x : Operand) {t e : TypeId} {by8 : Nat} (ho : o.op = .call { callee := .builtin .append, args := #[s, x], argTypes := #[t, t] })
    (F : Elt t e 1 by8) (B : Nat) {a : Option Addr} {n cap : Nat} {cs : List Value} (hs : ac.eval s = .slice a n cap) (hown : OwnR w B e 1 a n cap cs) {a' : Option Addr} {n' cap' : Nat} {rs : List Value} (hx : ac.eval x = .slice a' n' cap') (hr : RdR w a' n' cap' rs)
    (h1 : ∀ u ∈ rs, u.oneCell' = true) (hb : (n + n') * by8 ≤ 140737488355328) (h63 : n + n' ≤ maxLen) (hB : B ≤ w.heap.size)
    (h : ∀ a2 n2 c2 w2, n2 = n + n' → Hid (OwnR w2 B e 1 a2 n2 c2 (cs ++ rs)) → Hid (w.grownBy w2 (a.map (·.block))) → K (ac.put o.dst (.slice a2 n2 c2)) w2) : if Region.wanted o (yielded ops ac.tmps) = true then Oper.wp Tryz.prog o ac w K Q else E := by
  have hw : Region.wanted o (yielded ops ac.tmps) = true := by simp [Region.wanted, hgd]
  rw [if_pos hw]
  obtain ⟨a2, c2, w2, k1, k2, k3⟩ := run_append_p w B F hown hr h1 hb h63 hB o.type
  unfold Oper.wp
  simp [execOp, ho, resolve, invoke, builtin, hs, hx, k1, Result.andThen]
  exact h a2 _ c2 w2 rfl k2 k3
/-- A row without elements that was made in its place. -/
theorem OwnR.made0 (w : World) (e : TypeId) (B : Nat) (hB : B ≤ w.heap.size) : OwnR (w.alloc (.cells #[] e)) B e 1 (some ⟨w.heap.size, 0, none⟩) 0 0 [] :=
  ⟨rfl, .inr ⟨w.heap.size, 0, #[], rfl, hB, heap_alloc_new w _, Nat.le_refl _, by decide, rfl, rfl⟩⟩
/-- A row of one element that was made in its place. -/
theorem RdR.made1 (w : World) (e : TypeId) (u : Value) : RdR (w.alloc (.cells #[u] e)) (some ⟨w.heap.size, 0, none⟩) 1 1 [u] := by
  refine ⟨rfl, Nat.le_refl _, by decide, (fun h => by cases h), fun j v hv => ⟨w.heap.size, 0, rfl, ?_⟩⟩
  cases j with
  | zero => rw [← hv]; simp only [World.cell?, heap_alloc_new]; rfl
  | succ j => simp at hv

theorem RdR.grown {w w2 : World} {g n cap : Nat} {cs : List Value} {row : Option Nat} (h : RdR w (some ⟨g, 0, none⟩) n cap cs) (hg : w.grownBy w2 row) (hne : row ≠ some g) : RdR w2 (some ⟨g, 0, none⟩) n cap cs :=
  ⟨h.len, h.fit, h.max, h.nul, fun j u hu => by
    obtain ⟨b, off, e, hc⟩ := h.cell j u hu
    cases e
    refine ⟨g, 0, rfl, ?_⟩
    rw [World.cell?_of_block (w := w) (a := ⟨g, 0 + j, none⟩) (hg.block g (World.block_lt_of_cell? _ _ hc) (fun e => hne e.symm))]
    exact hc⟩
/-- vals[i] = v. -/
theorem OwnJ.set {w : World} {B : Nat} {a : Option Addr} {n c : Nat} {ls : List Int} (h : OwnJ w B a n c ls) {i : Nat} (hi : i < n) (v : Int) :
    ∃ g, a = some ⟨g, 0, none⟩ ∧ B ≤ g ∧ (∃ u, w.cell? ⟨g, i, none⟩ = some u) ∧ w.frozen? ⟨g, i, none⟩ = false ∧ (∃ cur, w.heap[g]? = some (.cells cur 3 (0, 0))) ∧ OwnJ (w.setCell ⟨g, i, none⟩ (.int .i64 v)) B a n c (ls.set i v) := by
  have hlen := OwnJ.len h
  obtain ⟨g0, ha0, hc0⟩ := OwnJ.cell h hi
  rcases h.2 with ⟨h2, h3⟩ | ⟨g, c', cur, h1, h3, h4, h5, h6, h7, h8⟩
  · omega
  · cases h1
    cases ha0
    refine ⟨g0, rfl, h3, ⟨_, hc0⟩, by simp [World.frozen?, h4], ⟨cur, h4⟩, by simp [jcells, hlen], .inr ⟨g0, c, cur.setIfInBounds i (.int .i64 v), rfl, h3, heap_set h4 _, h5, h6, by simpa using h7, ?_⟩⟩
    rw [Array.toList_setIfInBounds, Nat.mul_one, List.take_set]
    rw [Nat.mul_one] at h8
    rw [h8, jcells, jcells, List.map_set]
end Go.Proofs.YtkohjejfkbaffaaGreat.Dk

namespace Go.Proofs.YtkohjejfkbaffaaGreat.Dk
open Go.RowKit Go.PlainAid

/-- Has a number that bit, and is it 1? -/
def bset (h : Nat) (bit : Int) : Bool := decide (0 ≤ bit ∧ bit < 64) && decide (h / 2 ^ bit.toNat % 2 = 1)
theorem and_one (h t : Nat) (hh : h < 18446744073709551616) : bits .and .u64 ((h : Int) / 2 ^ t) 1 = ((h / 2 ^ t % 2 : Nat) : Int) := by
  have e2 : (2 : Int) ^ t = ((2 ^ t : Nat) : Int) := by simp
  rw [e2, ← Int.natCast_ediv]
  have hq : h / 2 ^ t < 18446744073709551616 := Nat.lt_of_le_of_lt (Nat.div_le_self _ _) hh
  generalize h / 2 ^ t = q at hq
  have := u64_and_nat q 1 hq (by decide)
  rw [Nat.and_one_is_mod] at this
  exact this
theorem isSet_any (h : Nat) (bit : Int) (w : World) (hh : h < 18446744073709551616) :
    Calls Tryz.prog 116 #[.int .u64 h, .int .i64 bit] w fun e w' => e = .returned (.bool (bset h bit)) ∧ w' = w := by
  by_cases h0 : 0 ≤ bit
  · by_cases h1 : bit < 64
    · obtain ⟨t, rfl⟩ : ∃ t : Nat, bit = (t : Int) := ⟨bit.toNat, by omega⟩
      have HR : Hid (bset h t = decide (h / 2 ^ t % 2 = 1)) := by show _ = _; unfold bset; rw [decide_eq_true ⟨h0, h1⟩, Int.toNat_natCast]; rfl
      have ha := and_one h t hh
      have hlt : h / 2 ^ t % 2 < 2 := Nat.mod_lt _ (by decide)
      generalize h / 2 ^ t % 2 = m at ha HR hlt
      rcases (by omega : m = 0 ∨ m = 1) with rfl | rfl
      · replace ha : bits .and .u64 ((h : Int) / 2 ^ t) 1 = 0 := ha
        go_enter Tryz.func116, Tryz.ntmps116
        go_wp2
        go_ret
        exact ⟨by rw [HR.out]; rfl, rfl⟩
      · replace ha : bits .and .u64 ((h : Int) / 2 ^ t) 1 = 1 := ha
        go_enter Tryz.func116, Tryz.ntmps116
        go_wp2
        go_ret
        exact ⟨by rw [HR.out]; rfl, rfl⟩
    · have HR : Hid (bset h bit = false) := by show _ = _; unfold bset; rw [decide_eq_false (by omega)]; rfl
      go_enter Tryz.func116, Tryz.ntmps116
      go_wp2
      go_ret
      exact ⟨by rw [HR.out]; rfl, rfl⟩
  · have HR : Hid (bset h bit = false) := by show _ = _; unfold bset; rw [decide_eq_false (by omega)]; rfl
    go_enter Tryz.func116, Tryz.ntmps116
    go_wp2
    go_ret
    exact ⟨by rw [HR.out]; rfl, rfl⟩

/-- Two tables, side by side, that need not have the same. -/
structure Pair (w : World) (B p b x : Nat) (es : List En) (q c : Nat) (fs : List En) : Prop where
  one : Tbl w B p b x es
  two : Tbl w B q c x fs
  ne : p ≠ q
  neb : b ≠ c
theorem Pair.keep {w wn : World} {B p b x q c : Nat} {es fs : List En} (h : Pair w B p b x es q c fs) (hb : Below w.heap.size w wn) : Pair wn B p b x es q c fs := ⟨h.one.keep hb, h.two.keep hb, h.ne, h.neb⟩
theorem Pair.first {w w1 : World} {B p b b1 x q c : Nat} {es es1 fs : List En} (h : Pair w B p b x es q c fs) (hm : Moves w w1 p b) (hT : Tbl w1 B p b1 x es1) (hb : b1 = b ∨ w.heap.size ≤ b1) : Pair w1 B p b1 x es1 q c fs := by
  refine ⟨hT, h.two.moves h.one hm h.ne.symm h.neb.symm, h.ne, ?_⟩
  have := h.two.lt
  rcases hb with rfl | hb
  · exact h.neb
  · omega
theorem Pair.second {w w1 : World} {B p b x q c c1 : Nat} {es fs fs1 : List En} (h : Pair w B p b x es q c fs) (hm : Moves w w1 q c) (hT : Tbl w1 B q c1 x fs1) (hb : c1 = c ∨ w.heap.size ≤ c1) : Pair w1 B p b x es q c1 fs1 := by
  refine ⟨h.one.moves h.two hm h.ne h.neb, hT, h.ne, ?_⟩
  have := h.one.lt
  rcases hb with rfl | hb
  · exact h.neb
  · omega
/-- The keys whose hash has that bit; those whose hash has not. -/
def onesOf (x : Nat) (bit : Int) (es : List En) : List En := es.filter fun e => bset (hsh x e.1) bit
def zerosOf (x : Nat) (bit : Int) (es : List En) : List En := es.filter fun e => !bset (hsh x e.1) bit
theorem not_filter {es : List En} {k : ByteArray} (h : k ∉ keysOf es) (f : En → Bool) : k ∉ keysOf (es.filter f) := by
  intro hm
  obtain ⟨e, he, h1⟩ := List.mem_map.1 hm
  exact h (List.mem_map.2 ⟨e, (List.mem_filter.1 he).1, h1⟩)

set_option maxRecDepth 100000 in
set_option maxHeartbeats 8000000 in
theorem Split_any (B p b x G : Nat) (z : List Cl) (bit : Int) (w : World) (hT : Tab w B p b x G z) :
    Calls Tryz.prog 84 #[ptr p, .int .i64 bit] w fun e w' => Below w.heap.size w w' ∧ ∃ p0 b0 p1 b1, e = .returned (.tuple #[ptr p0, ptr p1]) ∧ Pair w' w.heap.size p0 b0 x (zerosOf x bit (ents z)) p1 b1 (onesOf x bit (ents z)) := by
  have HT : Hid (Tab w B p b x G z) := hT
  have hx := hT.seed
  have HN := fun w => NewT x w hx
  have HN2 := fun w => NewT x w hx
  have hc := hT.top.seed
  have HCM : Hid (∀ w', Below w.heap.size w w' → w'.cell? ⟨p, 0, none⟩ = some (.int .u64 (x : Nat))) := fun w' hb => (HT.out.keep hb).top.seed
  have HD : Hid (Below w.heap.size w w.drew) := below_drewN w 1
  have HFa := fun w hT => full_any B p b x G z w hT
  have HND : Hid ((keysOf (ents z)).Nodup) := hT.inv.nod
  have HSZ : Hid (∀ e ∈ ents z, e.1.size ≤ maxLen) := hT.siz
  have HLE : Hid ((ents z).length ≤ 112) := by have := hT.inv.room; have := hT.inv.grp.le; show _ ≤ _; omega
  obtain ⟨es, hes⟩ : ∃ es, ents z = es := ⟨_, rfl⟩
  rw [hes] at HFa HND HSZ HLE ⊢
  clear hT hes
  go_enter Tryz.func84, Tryz.ntmps84
  go_upto_region 1 with fail
  go_cut [6, 7] from 10 to 19 (fun v6 v7 wx => ∃ p0 b0 p1 b1, v6 = ptr p0 ∧ v7 = ptr p1 ∧ Hid (Pair wx w.heap.size p0 b0 x [] p1 b1 []) ∧ Hid (Below w.heap.size w wx))
  case first =>
    go_region_held3 (fun w' => w'.cell? ⟨p, 0, none⟩ = some (.int .u64 (x : Nat))) (exact HCM.out _ HD.out) (first
      | (go_at_call 86; refine (HN _).mono ?_; rintro e wx ⟨hb, p2, b2, rfl, hT2⟩; have HF : Hid (Tbl wx w.heap.size p2 b2 x []) := hT2.low HD.out.size; replace HD := step_below HD hb; clear hb hT2 HN)
      | (go_at_call 86; refine (HN2 _).mono ?_; rintro e wy ⟨hb, p3, b3, rfl, hT3⟩; have HPr : Hid (Tbl wy w.heap.size p2 b2 x [] ∧ Tbl wy w.heap.size p3 b3 x [] ∧ p2 ≠ p3 ∧ b2 ≠ b3) := (by have h1 := HF.out.lt; have h2 := hT3.lt; exact ⟨HF.out.keep hb, hT3.low HD.out.size, by omega, by omega⟩); replace HD := step_below HD hb; clear hb hT3))
    go_wp2
    go_meet
    exact ⟨p2, b2, p3, b3, rfl, rfl, ⟨HPr.out.1, HPr.out.2.1, HPr.out.2.2.1, HPr.out.2.2.2⟩, HD⟩
  case rest =>
  clear HN HN2 hc HD
  obtain ⟨p0, b0, p1, b1, rfl, rfl, HP, HB⟩ := hcut
  have HFu := HFa _ (HT.out.keep HB.out)
  clear HFa
  go_wp2_with fail
  refine HFu.mono ?_
  rintro e w2 ⟨hb2, ae, ne, ce, rfl, hO⟩
  have HNE : Hid (es.length = ne) := OwnE.len hO
  have hne : ne ≤ 112 := by have := HLE.out; have := HNE.out; omega
  have HO2 : Hid (OwnE w2 w.heap.size ae ne ce es) := OwnR.low hO HB.out.size
  have HB2 := step_below HB hb2
  have HP2 : Hid (Pair w2 w.heap.size p0 b0 x (zerosOf x bit (es.take 0)) p1 b1 (onesOf x bit (es.take 0))) := HP.out.keep hb2
  clear hb2 hO HFu HP HB
  go_wp2
  go_loopg [9, 23] ne (fun q sv jv wr => ∃ i b0 b1 : Nat, i + q = ne ∧ jv = .int .i64 i ∧ Hid (Pair wr w.heap.size p0 b0 x (zerosOf x bit (es.take i)) p1 b1 (onesOf x bit (es.take i))) ∧ Hid (OwnE wr w.heap.size ae ne ce es) ∧ Hid (Below w.heap.size w wr))
  case atStart => exact ⟨0, b0, b1, by omega, rfl, HP2, HO2, HB2⟩
  case round =>
    clear HP2 HO2 HB2
    obtain ⟨i, b0, b1, hi, rfl, HP, HO, HB⟩ := hrel
    by_cases h8 : (i : Int) < ne
    · obtain ⟨gE, ha, hk⟩ := OwnE.cell HO.out (j := i) (by omega)
      subst ha
      have hil : i < es.length := by have := HNE.out; omega
      have HFR : Hid ((es.getD i (⟨#[]⟩, ())).1 ∉ keysOf (es.take i)) := fresh_key HND.out hil
      have HKS : Hid ((es.getD i (⟨#[]⟩, ())).1.size ≤ maxLen) := HSZ.out _ (by rw [List.getD_eq_getElem?_getD, List.getElem?_eq_getElem hil]; exact List.getElem_mem hil)
      have HTS : Hid (es.take (i + 1) = es.take i ++ [es.getD i (⟨#[]⟩, ())]) := take_snoc es _ i hil
      have HTL : Hid ((es.take i).length < 112) := by show _ < _; rw [List.length_take]; omega
      generalize es.getD i (⟨#[]⟩, ()) = ev at hk HFR HKS HTS
      obtain ⟨k, v⟩ := ev
      simp only [] at hk
      obtain ⟨w4, hw4⟩ : ∃ w4, wr.alloc (.cells #[.string k] 124) = w4 := ⟨_, rfl⟩
      obtain ⟨q, hq⟩ : ∃ q, wr.heap.size = q := ⟨_, rfl⟩
      have HB4 : Hid (Below wr.heap.size wr w4) := by show Below _ _ _; rw [← hw4]; exact alloc_below wr _
      have HX4 : Hid (Box w4 q k v) := by show Box _ _ _ _; rw [← hw4, ← hq]; exact Box.made wr k v
      have HBw := step_below HB HB4.out
      have HP4 : Hid (Pair w4 w.heap.size p0 b0 x (zerosOf x bit (es.take i)) p1 b1 (onesOf x bit (es.take i))) := HP.out.keep HB4.out
      have HO4 : Hid (OwnE w4 w.heap.size (some ⟨gE, 0, none⟩) ne ce es) := OwnR.keep HO.out HB4.out
      have hc4 := HCM.out _ HBw.out
      have hk4 := HX4.out.key
      have HOf : ∀ w, Calls Tryz.prog 58 #[.int .u64 x, .string k] w fun e w' => e = .returned (.int .u64 (hsh x k : Nat)) ∧ w' = w := fun w => Of_any x k w HKS.out hx
      have HIs := fun w => isSet_any (hsh x k) bit w (hsh_lt x k)
      have HBS : Hid (∀ b, bset (hsh x k) bit = b → onesOf x bit (es.take (i + 1)) = onesOf x bit (es.take i) ++ (if b = true then [(k, v)] else []) ∧ zerosOf x bit (es.take (i + 1)) = zerosOf x bit (es.take i) ++ (if b = true then [] else [(k, v)])) := by
        intro b hb
        rw [HTS.out]
        unfold onesOf zerosOf
        rw [List.filter_append, List.filter_append]
        subst hb
        cases hbb : bset (hsh x k) bit <;> simp [hbb]
      generalize hsh x k = hv' at HOf HIs HBS
      clear HB HB4 HP HO hil
      generalize hbs : bset hv' bit = bs at HIs HBS
      go_upto_region 5 with fail
      go_quiet ((first | (go_at_call 58; with_reducible exact Calls.quiet_of_same (HOf _)) | (go_at_call 116; with_reducible exact Calls.quiet_of_same (HIs _))))
      obtain ⟨w5, hw5⟩ : ∃ w5, w4.drewN nq = w5 := ⟨_, rfl⟩
      have HD5 : Hid (Below w4.heap.size w4 w5) := by show Below _ _ _; rw [← hw5]; exact below_drewN w4 nq
      rw [hw5]
      have HP5 : Hid (Pair w5 w.heap.size p0 b0 x (zerosOf x bit (es.take i)) p1 b1 (onesOf x bit (es.take i))) := HP4.out.keep HD5.out
      have HO5 : Hid (OwnE w5 w.heap.size (some ⟨gE, 0, none⟩) ne ce es) := OwnR.keep HO4.out HD5.out
      have HB5 := step_below HBw HD5.out
      obtain ⟨sp, hsp⟩ := run_partAt 124 rfl q 0 1 16
      have hsp5 := hsp w5 _ _ (HX4.out.keep HD5.out)
      have hk5 : w5.cell? ⟨q, 0, none⟩ = some (.string k) := by rw [HD5.out.cell (p := ⟨q, 0, none⟩) (World.block_lt_of_cell? _ _ hk4)]; exact hk4
      have HLn : Hid ((onesOf x bit (es.take i)).length < 112 ∧ (zerosOf x bit (es.take i)).length < 112) := by
        have h1 := HTL.out
        have h2 : (onesOf x bit (es.take i)).length ≤ (es.take i).length := List.length_filter_le _ _
        have h3 : (zerosOf x bit (es.take i)).length ≤ (es.take i).length := List.length_filter_le _ _
        exact ⟨by omega, by omega⟩
      have HST := HBS.out bs rfl
      clear hw5 HD5 HX4 hsp HP4 HO4 HBw hc4 hk4 HOf HIs hbs HBS HTL hw4 hq hk
      cases bs
      · obtain ⟨e1, e2⟩ := HST
        rw [if_neg (by decide)] at e1 e2
        rw [List.append_nil] at e1
        have HE1 : Hid (onesOf x bit (es.take (i + 1)) = onesOf x bit (es.take i)) := e1
        have HE2 : Hid (zerosOf x bit (es.take (i + 1)) = zerosOf x bit (es.take i) ++ [(k, v)]) := e2
        have hPu := PutT_new _ _ _ _ (zerosOf x bit (es.take i)) k v _ HP5.out.one HKS.out (not_filter HFR.out _) HLn.out.2
        clear e1 e2
        go_wp2_with fail
        refine hPu.mono ?_
        rintro e w6 ⟨rfl, hm6, b6, hT6, hb6⟩
        have HP6 : Hid (Pair w6 w.heap.size p0 b6 x (zerosOf x bit (es.take (i + 1))) p1 b1 (onesOf x bit (es.take (i + 1)))) := by rw [HE1.out, HE2.out]; exact HP5.out.first hm6 hT6 hb6
        have HO6 : Hid (OwnE w6 w.heap.size (some ⟨gE, 0, none⟩) ne ce es) := OwnR.movesT HO5.out hm6 HP5.out.one (by decide) (by decide)
        have HB6 : Hid (Below w.heap.size w w6) := HB5.out.trans (HP5.out.one.below hm6)
        clear hm6 hT6 hb6 hPu
        go_wp2
        go_roundg (gk - 1)
        case measure => omega
        case rel => exact ⟨i + 1, b6, b1, by omega, by go_num, HP6, HO6, HB6⟩
      · obtain ⟨e1, e2⟩ := HST
        rw [if_pos rfl] at e1 e2
        rw [List.append_nil] at e2
        have HE1 : Hid (onesOf x bit (es.take (i + 1)) = onesOf x bit (es.take i) ++ [(k, v)]) := e1
        have HE2 : Hid (zerosOf x bit (es.take (i + 1)) = zerosOf x bit (es.take i)) := e2
        have hPu := PutT_new _ _ _ _ (onesOf x bit (es.take i)) k v _ HP5.out.two HKS.out (not_filter HFR.out _) HLn.out.1
        clear e1 e2
        go_wp2_with fail
        refine hPu.mono ?_
        rintro e w6 ⟨rfl, hm6, b6, hT6, hb6⟩
        have HP6 : Hid (Pair w6 w.heap.size p0 b0 x (zerosOf x bit (es.take (i + 1))) p1 b6 (onesOf x bit (es.take (i + 1)))) := by rw [HE1.out, HE2.out]; exact HP5.out.second hm6 hT6 hb6
        have HO6 : Hid (OwnE w6 w.heap.size (some ⟨gE, 0, none⟩) ne ce es) := OwnR.movesT HO5.out hm6 HP5.out.two (by decide) (by decide)
        have HB6 : Hid (Below w.heap.size w w6) := HB5.out.trans (HP5.out.two.below hm6)
        clear hm6 hT6 hb6 hPu
        go_wp2
        go_roundg (gk - 1)
        case measure => omega
        case rel => exact ⟨i + 1, b0, b6, by omega, by go_num, HP6, HO6, HB6⟩
    · have HE : Hid (es.take i = es) := by show _ = _; rw [List.take_of_length_le (by have := HNE.out; omega)]
      rw [HE.out] at HP
      go_wp2
      go_ret2
      exact ⟨HB.out, p0, _, p1, rfl, _, HP.out⟩

theorem SplitT (B p b x : Nat) (es : List En) (bit : Int) (w : World) (hT : Tbl w B p b x es) :
    Calls Tryz.prog 84 #[ptr p, .int .i64 bit] w fun e w' => Below w.heap.size w w' ∧ ∃ p0 p1, e = .returned (.tuple #[ptr p0, ptr p1]) ∧ ∃ b0 b1, Tbl w' w.heap.size p0 b0 x (zerosOf x bit es) ∧ Tbl w' w.heap.size p1 b1 x (onesOf x bit es) := by
  obtain ⟨G, z, h1, h2⟩ := hT
  refine (Split_any B p b x G z bit w h1).mono ?_
  rintro e w' ⟨hb, p0, b0, p1, b1, rfl, hP⟩
  exact ⟨hb, p0, p1, rfl, b0, b1, hP.one.perm (h2.filter _), hP.two.perm (h2.filter _)⟩
end Go.Proofs.YtkohjejfkbaffaaGreat.Dk

namespace Go.Proofs.YtkohjejfkbaffaaGreat.Dk

/-- The d lowest bits of c, read the other way round. -/
def rev : Nat → Nat → Nat
  | 0, _ => 0
  | d + 1, c => 2 ^ d * (c % 2) + rev d (c / 2)

theorem rev_lt : ∀ (d c : Nat), rev d c < 2 ^ d
  | 0, _ => by simp [rev]
  | d + 1, c => by
    have h := rev_lt d (c / 2)
    have hp : 2 ^ (d + 1) = 2 * 2 ^ d := by rw [Nat.pow_succ, Nat.mul_comm]
    rw [rev, hp]
    rcases Nat.mod_two_eq_zero_or_one c with e | e <;> rw [e] <;> omega
theorem rev_zero : ∀ d, rev d 0 = 0
  | 0 => rfl
  | d + 1 => by rw [rev]; simp [rev_zero d]

/-- Bit by bit from the other end. -/
theorem rev_low : ∀ (d c : Nat), rev (d + 1) c = 2 * rev d c + c / 2 ^ d % 2
  | 0, c => by simp [rev]
  | d + 1, c => by
    rw [rev, rev_low d (c / 2), rev, Nat.div_div_eq_div_mul]
    have hp : 2 ^ (d + 1) = 2 * 2 ^ d := by rw [Nat.pow_succ, Nat.mul_comm]
    rw [hp, Nat.mul_assoc]
    omega

theorem mod_succ (d c : Nat) : c % 2 ^ (d + 1) = 2 ^ d * (c / 2 ^ d % 2) + c % 2 ^ d := by
  rw [Nat.pow_succ, Nat.mod_mul, Nat.add_comm]

theorem rev_rev : ∀ (d c : Nat), rev d (rev d c) = c % 2 ^ d
  | 0, c => by simp [rev, Nat.mod_one]
  | d + 1, c => by
    rw [rev_low d c, rev, mod_succ, ← rev_rev d c]
    have h1 : (2 * rev d c + c / 2 ^ d % 2) % 2 = c / 2 ^ d % 2 := by omega
    have h2 : (2 * rev d c + c / 2 ^ d % 2) / 2 = rev d c := by omega
    rw [h1, h2]

theorem rev_mod (d c : Nat) : rev d (c % 2 ^ d) = rev d c := by
  rw [← rev_rev d c, rev_rev d (rev d c), Nat.mod_eq_of_lt (rev_lt d c)]

/-- More bits: the lower ones stand ahead. -/
theorem rev_add : ∀ (k j c : Nat), rev (k + j) c = 2 ^ j * rev k c + rev j (c / 2 ^ k)
  | 0, j, c => by simp [rev]
  | k + 1, j, c => by
    rw [Nat.succ_add_eq_add_succ, Nat.add_succ, rev, rev_add k j (c / 2), rev, Nat.mul_add, Nat.div_div_eq_div_mul, Nat.pow_add, ← Nat.add_assoc]
    congr 1
    · rw [Nat.mul_comm (2 ^ k) (2 ^ j), Nat.mul_assoc]
    · rw [Nat.pow_succ, Nat.mul_comm]

theorem rev_inj {d a b : Nat} (ha : a < 2 ^ d) (hb : b < 2 ^ d) (h : rev d a = rev d b) : a = b := by
  have h1 := rev_rev d a
  rw [h, rev_rev, Nat.mod_eq_of_lt ha, Nat.mod_eq_of_lt hb] at h1
  exact h1.symm

/-- The next cursor. -/
def nxt (d c : Nat) : Nat := rev d (rev d c + 1)
theorem nxt_lt (d c : Nat) : nxt d c < 2 ^ d := rev_lt _ _
theorem rev_nxt (d c : Nat) : rev d (nxt d c) = (rev d c + 1) % 2 ^ d := rev_rev _ _
theorem pow_pos (d : Nat) : 0 < 2 ^ d := Nat.pow_pos (by decide)
theorem nxt_last {d c : Nat} (h : rev d c + 1 = 2 ^ d) : nxt d c = 0 := by
  rw [nxt, h, ← rev_mod, Nat.mod_self, rev_zero]
theorem nxt_more {d c : Nat} (h : rev d c + 1 < 2 ^ d) : nxt d c ≠ 0 ∧ rev d (nxt d c) = rev d c + 1 := by
  have h1 := rev_nxt d c
  rw [Nat.mod_eq_of_lt h] at h1
  refine ⟨fun h2 => ?_, h1⟩
  rw [h2, rev_zero] at h1
  omega
theorem nxt_zero {d c : Nat} (h : nxt d c = 0) : rev d c + 1 = 2 ^ d := by
  have h1 := rev_lt d c
  rcases Nat.lt_or_ge (rev d c + 1) (2 ^ d) with h2 | h2
  · exact absurd h (nxt_more h2).1
  · omega
theorem nxt_step {d c : Nat} (h : nxt d c ≠ 0) : rev d (nxt d c) = rev d c + 1 ∧ rev d c + 1 < 2 ^ d := by
  have h1 := rev_lt d c
  rcases Nat.lt_or_ge (rev d c + 1) (2 ^ d) with h2 | h2
  · exact ⟨(nxt_more h2).2, h2⟩
  · exact absurd (nxt_last (by omega)) h
/-- The cursors in their order. -/
theorem nxt_rev {d i : Nat} (h : i < 2 ^ d) : nxt d (rev d i) = rev d (i + 1) := by
  rw [nxt, rev_rev, Nat.mod_eq_of_lt h]
theorem rev_full (d : Nat) : rev d (2 ^ d) = 0 := by rw [← rev_mod, Nat.mod_self, rev_zero]

/-- Is the bucket of h ahead of c? -/
def seen (d c h : Nat) : Bool := decide (rev d h < rev d c)
theorem seen_self (d c : Nat) : seen d c c = false := by simp [seen]
/-- The same bucket. -/
theorem same_rev {d a b : Nat} (hb : b < 2 ^ d) : a % 2 ^ d = b ↔ rev d a = rev d b := by
  constructor
  · rintro rfl
    rw [rev_mod]
  · intro h
    exact rev_inj (Nat.mod_lt _ (pow_pos d)) hb (by rw [rev_mod, h])
theorem seen_in {d c h : Nat} (hc : c < 2 ^ d) (h1 : h % 2 ^ d = c) : seen d c h = false := by
  simp [seen, (same_rev hc).1 h1]
theorem seen_nxt {d c h : Nat} (hc : c < 2 ^ d) (hn : nxt d c ≠ 0) : seen d (nxt d c) h = (seen d c h || decide (h % 2 ^ d = c)) := by
  have h1 := same_rev (a := h) hc
  simp only [seen, (nxt_step hn).1]
  by_cases h2 : h % 2 ^ d = c
  · have := h1.1 h2
    simp [h2, this]
  · have h3 : rev d h ≠ rev d c := fun e => h2 (h1.2 e)
    simp [h2]
    omega
/-- What was seen at a depth is what is seen at each greater one. -/
theorem seen_deep {k m c h : Nat} (hc : c < 2 ^ k) (hm : k ≤ m) : seen k c h = seen m c h := by
  obtain ⟨j, rfl⟩ : ∃ j, m = k + j := ⟨m - k, by omega⟩
  have h1 : rev (k + j) c = 2 ^ j * rev k c := by rw [rev_add, Nat.div_eq_of_lt hc, rev_zero, Nat.add_zero]
  have h2 := rev_add k j h
  have h3 := rev_lt j (h / 2 ^ k)
  simp only [seen, h1, h2]
  generalize rev j (h / 2 ^ k) = t at h3
  generalize rev k h = x
  generalize rev k c = y
  congr 1
  apply propext
  generalize 2 ^ j = p at h3
  constructor
  · intro h4
    have h6 : p * (x + 1) ≤ p * y := Nat.mul_le_mul_left _ h4
    rw [Nat.mul_add, Nat.mul_one] at h6
    omega
  · intro h4
    refine Nat.lt_of_not_le fun h5 => ?_
    have := Nat.mul_le_mul_left p h5
    omega
/-- What is seen ahead of a cursor is seen ahead of the next. -/
theorem seen_on {d c h : Nat} (hn : nxt d c ≠ 0) (hs : seen d c h = true) : seen d (nxt d c) h = true := by
  simp only [seen, (nxt_step hn).1, decide_eq_true_eq] at hs ⊢
  omega
end Go.Proofs.YtkohjejfkbaffaaGreat.Dk

namespace Go.Proofs.YtkohjejfkbaffaaGreat.Dk
open Go.RowKit Go.PlainAid

/-- The lowest bits of a number, at most sixteen. -/
def lowM (h : Nat) (b : Int) : Nat := h % 2 ^ (min b.toNat 16)

theorem and_low (h k : Nat) (hh : h < 18446744073709551616) (hk : k ≤ 16) : bits .and .u64 (h : Int) ((2 ^ k - 1 : Nat) : Int) = ((h % 2 ^ k : Nat) : Int) := by
  rw [u64_and_nat h (2 ^ k - 1) hh, Nat.and_two_pow_sub_one_eq_mod]
  have : 2 ^ k ≤ 2 ^ 16 := Nat.pow_le_pow_right (by decide) hk
  omega

theorem pow_le_16 {k : Nat} (h : k ≤ 16) : 2 ^ k ≤ 65536 := Nat.pow_le_pow_right (n := 2) (j := 16) (by decide) h
theorem wrap_pow (k : Nat) (h : k ≤ 16) : IntKind.u64.wrap (2 ^ k) = ((2 ^ k : Nat) : Int) := by
  have h1 := pow_le_16 h
  have : ((2 : Int) ^ k) = ((2 ^ k : Nat) : Int) := by simp
  rw [this]
  generalize 2 ^ k = p at h1
  simp [IntKind.wrap, IntKind.signed, IntKind.bits]
  omega
theorem wrap_pred (k : Nat) (h : k ≤ 16) : IntKind.u64.wrap (((2 ^ k : Nat) : Int) - 1) = ((2 ^ k - 1 : Nat) : Int) := by
  have h1 := pow_le_16 h
  have h2 : 0 < 2 ^ k := Nat.pow_pos (by decide)
  generalize 2 ^ k = p at h1 h2
  simp [IntKind.wrap, IntKind.signed, IntKind.bits]
  omega

theorem Low_any (h : Nat) (b : Int) (w : World) (hh : h < 18446744073709551616) (hb : b < 9223372036854775808) (hb' : -9223372036854775808 ≤ b) :
    Calls Tryz.prog 79 #[.int .u64 h, .int .i64 b] w fun e w' => e = .returned (.int .u64 (lowM h b : Nat)) ∧ w' = w := by
  obtain ⟨k, hk⟩ : ∃ k, min b.toNat 16 = k := ⟨_, rfl⟩
  have h16 : k ≤ 16 := by omega
  have hL : lowM h b = h % 2 ^ k := by rw [lowM, hk]
  rw [hL]
  clear hL
  have ha := and_low h k hh h16
  have hw1 := wrap_pow k h16
  have hw2 := wrap_pred k h16
  generalize h % 2 ^ k = z at ha ⊢
  by_cases h0 : b < 0
  · obtain rfl : k = 0 := by omega
    replace ha : bits .and .u64 (h : Int) 0 = z := ha
    clear hw1 hw2
    go_enter Tryz.func79, Tryz.ntmps79
    go_wp2
    go_ret
    exact ⟨rfl, rfl⟩
  by_cases h1 : 16 < b
  · obtain rfl : k = 16 := by omega
    replace ha : bits .and .u64 (h : Int) 65535 = z := ha
    clear hw1 hw2
    go_enter Tryz.func79, Tryz.ntmps79
    go_wp2
    go_ret
    exact ⟨rfl, rfl⟩
  obtain rfl : b = k := by omega
  obtain ⟨p, hp⟩ : ∃ p : Int, ((2 ^ k : Nat) : Int) = p := ⟨_, rfl⟩
  obtain ⟨q, hq⟩ : ∃ q : Int, ((2 ^ k - 1 : Nat) : Int) = q := ⟨_, rfl⟩
  rw [hp] at hw1 hw2
  rw [hq] at hw2 ha
  clear hp hq
  go_enter Tryz.func79, Tryz.ntmps79
  go_wp2
  go_ret
  exact ⟨rfl, rfl⟩

end Go.Proofs.YtkohjejfkbaffaaGreat.Dk

namespace Go.Proofs.YtkohjejfkbaffaaGreat.Dk
open Go.RowKit Go.PlainAid

/-- A depth that may be. -/
def dep (d : Int) : Nat := min d.toNat 16
theorem dep_le (d : Int) : dep d ≤ 16 := Nat.min_le_right _ _
theorem dep_nat {k : Nat} (h : k ≤ 16) : dep (k : Int) = k := by unfold dep; omega
theorem dep_cases (d : Int) : (d < 0 ∧ dep d = 0) ∨ (16 < d ∧ dep d = 16) ∨ (0 ≤ d ∧ d ≤ 16 ∧ d = (dep d : Nat)) := by unfold dep; omega

theorem clamp_any (d : Int) (w : World) (h0 : -9223372036854775808 ≤ d) (h1 : d ≤ 9223372036854775807) :
    Calls Tryz.prog 125 #[.int .i64 d] w fun e w' => e = .returned (.int .i64 (dep d : Nat)) ∧ w' = w := by
  obtain ⟨z, hz⟩ : ∃ z : Int, ((dep d : Nat) : Int) = z := ⟨_, rfl⟩
  rw [hz]
  rcases dep_cases d with ⟨h, e⟩ | ⟨h, e⟩ | ⟨h, h2, e⟩
  · obtain rfl : z = 0 := by omega
    clear hz e
    go_enter Tryz.func125, Tryz.ntmps125
    go_wp2
    go_ret
    exact ⟨rfl, rfl⟩
  · obtain rfl : z = 16 := by omega
    clear hz e
    go_enter Tryz.func125, Tryz.ntmps125
    go_wp2
    go_ret
    exact ⟨rfl, rfl⟩
  · obtain rfl : z = d := by omega
    clear hz e
    go_enter Tryz.func125, Tryz.ntmps125
    go_wp2
    go_ret
    exact ⟨rfl, rfl⟩

theorem or_bit (t b : Nat) (hb : b < 2) : 2 * t ||| b = 2 * t + b := (Nat.two_pow_add_eq_or_of_lt (i := 1) (by omega) t).symm
theorem wrap_two (t : Nat) (ht : t < 65536) : IntKind.u64.wrap ((t : Int) * 2) = ((2 * t : Nat) : Int) := by
  simp [IntKind.wrap, IntKind.signed, IntKind.bits]
  omega
theorem step_bit (t n : Nat) (ht : t < 65536) (hn : n < 18446744073709551616) :
    bits .or .u64 (IntKind.u64.wrap ((t : Int) * 2)) (bits .and .u64 (n : Int) 1) = ((2 * t + n % 2 : Nat) : Int) := by
  have h1 : bits .and .u64 (n : Int) 1 = ((n % 2 : Nat) : Int) := by
    have := u64_and_nat n 1 hn (by decide)
    rw [Nat.and_one_is_mod] at this
    exact this
  rw [h1, wrap_two t ht, u64_or_nat _ _ (by omega) (by omega), or_bit t _ (by omega)]
/-- One bit more. -/
theorem rev_step {g t n R : Nat} (h : 2 ^ (g + 1) * t + rev (g + 1) n = R) : 2 ^ g * (2 * t + n % 2) + rev g (n / 2) = R := by
  rw [← h, rev, Nat.pow_succ, Nat.mul_add, Nat.mul_assoc, Nat.add_assoc]
theorem acc_lt {g t n R d : Nat} (h : 2 ^ g * t + rev g n = R) (hR : R < 2 ^ d) (hd : 2 ^ d ≤ 65536) : t < 65536 := by
  have := Nat.mul_le_mul_right t (pow_pos g)
  omega

theorem turn_any (c d : Nat) (w : World) (hc : c < 18446744073709551616) (hd : d ≤ 16) :
    Calls Tryz.prog 126 #[.int .u64 c, .int .i64 d] w fun e w' => e = .returned (.int .u64 (rev d c : Nat)) ∧ w' = w := by
  have HD : Hid (2 ^ d ≤ 65536) := pow_le_16 hd
  have HR : Hid (rev d c < 2 ^ d) := rev_lt d c
  obtain ⟨R, hR⟩ : ∃ R, rev d c = R := ⟨_, rfl⟩
  rw [hR] at HR ⊢
  have H0 : Hid (2 ^ d * 0 + rev d c = R) := by show _ = _; omega
  clear hR
  go_enter Tryz.func126, Tryz.ntmps126
  go_wp2
  go_loopg [0, 5, 7] d (fun g nv tv iv wr => w = wr ∧ ∃ k n t : Nat, k + g = d ∧ nv = .int .u64 n ∧ tv = .int .u64 t ∧ iv = .int .i64 k ∧ n < 18446744073709551616 ∧ Hid (2 ^ g * t + rev g n = R))
  case atStart => exact ⟨rfl, 0, c, 0, by omega, rfl, rfl, rfl, hc, H0⟩
  case round =>
    obtain ⟨rfl, k, n, t, hk, rfl, rfl, rfl, hn, H⟩ := hrel
    clear H0
    by_cases hlt : k < d
    · obtain ⟨g, rfl⟩ : ∃ g, gk = g + 1 := ⟨gk - 1, by omega⟩
      have hb := step_bit t n (acc_lt H.out HR.out HD.out) hn
      have HN : Hid (2 ^ g * (2 * t + n % 2) + rev g (n / 2) = R) := rev_step H.out
      generalize 2 * t + n % 2 = t2 at hb HN
      obtain ⟨n2, hn2⟩ : ∃ n2, n / 2 = n2 := ⟨_, rfl⟩
      rw [hn2] at HN
      have hn3 : (n : Int) / 2 = n2 := by omega
      have hn4 : n2 < 18446744073709551616 := by omega
      clear hn2 H
      go_wp2
      go_roundg g
      case measure => omega
      case rel => exact ⟨rfl, k + 1, n2, t2, by omega, rfl, rfl, by go_num, hn4, HN⟩
    · obtain rfl : gk = 0 := by omega
      have HE : Hid (t = R) := by
        have := H.out
        show t = R
        simpa [rev] using this
      go_wp2
      go_ret
      exact ⟨by rw [HE.out]; rfl, rfl⟩

end Go.Proofs.YtkohjejfkbaffaaGreat.Dk

namespace Go.Proofs.YtkohjejfkbaffaaGreat.Dk
open Go.RowKit Go.PlainAid

theorem rev_64 {d : Nat} (c : Nat) (hd : d ≤ 16) : rev d c < 65536 := Nat.lt_of_lt_of_le (rev_lt d c) (pow_le_16 hd)
theorem low_dep (c : Nat) (d : Int) : lowM c d = c % 2 ^ dep d := rfl
theorem low_lt (c : Nat) (d : Int) : lowM c d < 65536 := Nat.lt_of_lt_of_le (Nat.mod_lt _ (pow_pos _)) (pow_le_16 (dep_le d))
theorem wrap_one (n : Nat) (h : n < 65536) : IntKind.u64.wrap ((n : Int) + 1) = ((n + 1 : Nat) : Int) := by
  simp [IntKind.wrap, IntKind.signed, IntKind.bits]
  omega

theorem Bucket_any (c : Nat) (d : Int) (w : World) (hc : c < 18446744073709551616) (h0 : -9223372036854775808 ≤ d) (h1 : d ≤ 9223372036854775807) :
    Calls Tryz.prog 124 #[.int .u64 c, .int .i64 d] w fun e w' => e = .returned (.int .u64 (lowM c d : Nat)) ∧ w' = w := by
  have H := fun w => Low_any c d w hc (by omega) h0
  generalize lowM c d = z at H ⊢
  go_enter Tryz.func124, Tryz.ntmps124
  go_wp2_with fail
  refine (H _).mono ?_
  rintro e w ⟨rfl, rfl⟩
  go_wp2
  go_ret
  exact ⟨rfl, rfl⟩

theorem Next_any (c : Nat) (d : Int) (w : World) (hc : c < 18446744073709551616) (h0 : -9223372036854775808 ≤ d) (h1 : d ≤ 9223372036854775807) :
    Calls Tryz.prog 97 #[.int .u64 c, .int .i64 d] w fun e w' => e = .returned (.int .u64 (nxt (dep d) c : Nat)) ∧ w' = w := by
  have HC := fun w => clamp_any d w h0 h1
  have hd := dep_le d
  have hr := rev_64 c hd
  have H1 := fun w => turn_any c (dep d) w hc hd
  have H2 := fun w => turn_any (rev (dep d) c + 1) (dep d) w (by omega) hd
  have hw := wrap_one _ hr
  rw [nxt]
  generalize rev (dep d) (rev (dep d) c + 1) = z at H2 ⊢
  generalize rev (dep d) c = y at H1 H2 hw hr
  generalize dep d = k at HC H1 H2 hd
  generalize y + 1 = x at H2 hw
  go_enter Tryz.func97, Tryz.ntmps97
  go_wp2_with fail
  refine (HC _).mono ?_
  rintro e w ⟨rfl, rfl⟩
  go_wp2_with fail
  refine (H1 _).mono ?_
  rintro e w ⟨rfl, rfl⟩
  go_wp2_with fail
  refine (H2 _).mono ?_
  rintro e w ⟨rfl, rfl⟩
  go_wp2
  go_ret
  exact ⟨rfl, rfl⟩

end Go.Proofs.YtkohjejfkbaffaaGreat.Dk

namespace Go.Proofs.YtkohjejfkbaffaaGreat.Dk

/-- A part: its own depth, its bits. -/
abbrev Pt := Nat × Nat
/-- Does a hash belong to a part (own depth, bits)? -/
def isIn (s : Pt) (h : Nat) : Bool := decide (h % 2 ^ s.1 = s.2)
theorem isIn_iff {s : Pt} {h : Nat} : isIn s h = true ↔ h % 2 ^ s.1 = s.2 := decide_eq_true_iff
theorem isIn_no {s : Pt} {h : Nat} : isIn s h = false ↔ h % 2 ^ s.1 ≠ s.2 := decide_eq_false_iff_not
def Apart (s t : Pt) : Prop := ∀ h, isIn s h = true → isIn t h = false
theorem Apart.symm {s t : Pt} (h : Apart s t) : Apart t s := fun k hk => by
  cases e : isIn s k with
  | false => rfl
  | true => have := h k e; rw [hk] at this; cases this
theorem isIn_zero {l q h : Nat} (hq : q < 2 ^ l) : isIn (l + 1, q) h = true ↔ isIn (l, q) h = true ∧ h / 2 ^ l % 2 = 0 := by
  rw [isIn_iff, isIn_iff]
  show h % 2 ^ (l + 1) = q ↔ h % 2 ^ l = q ∧ _
  rw [mod_succ]
  have h1 : h % 2 ^ l < 2 ^ l := Nat.mod_lt _ (Nat.pow_pos (by decide))
  rcases Nat.mod_two_eq_zero_or_one (h / 2 ^ l) with e | e <;> rw [e] <;> simp <;> omega
theorem isIn_one {l q h : Nat} : isIn (l + 1, q + 2 ^ l) h = true ↔ isIn (l, q) h = true ∧ h / 2 ^ l % 2 = 1 := by
  rw [isIn_iff, isIn_iff]
  show h % 2 ^ (l + 1) = q + 2 ^ l ↔ h % 2 ^ l = q ∧ _
  rw [mod_succ]
  have h1 : h % 2 ^ l < 2 ^ l := Nat.mod_lt _ (Nat.pow_pos (by decide))
  rcases Nat.mod_two_eq_zero_or_one (h / 2 ^ l) with e | e <;> rw [e] <;> simp <;> omega
/-- The parts of a directory of depth g: each hash belongs to one. -/
structure Shp (g : Nat) (sh : List Pt) : Prop where
  lt : ∀ s ∈ sh, s.2 < 2 ^ s.1 ∧ s.1 ≤ g
  le : g ≤ 16
  deep : ∃ s ∈ sh, s.1 = g
  cov : ∀ h, ∃ s ∈ sh, isIn s h = true
  dis : sh.Pairwise Apart
theorem Shp.new : Shp 0 [(0, 0)] := by
  refine ⟨?_, by decide, ⟨_, List.mem_singleton.2 rfl, rfl⟩, fun h => ⟨_, List.mem_singleton.2 rfl, ?_⟩, by simp⟩
  · intro s hs
    cases List.mem_singleton.1 hs
    simp
  · rw [isIn_iff]; simp [Nat.mod_one]
/-- The part of a hash, and that no other is. -/
theorem Shp.parts {g : Nat} {sh : List Pt} (hS : Shp g sh) (h : Nat) : ∃ a s c, sh = a ++ s :: c ∧ isIn s h = true ∧ (∀ t ∈ a, isIn t h = false) ∧ (∀ t ∈ c, isIn t h = false) := by
  obtain ⟨s, hs, hi⟩ := hS.cov h
  obtain ⟨a, c, rfl⟩ := List.append_of_mem hs
  have hd := hS.dis
  rw [List.pairwise_append, List.pairwise_cons] at hd
  refine ⟨a, s, c, rfl, hi, fun t ht => ?_, fun t ht => hd.2.1.1 t ht h hi⟩
  exact (hd.2.2 t ht s (by simp)).symm h hi
theorem Shp.split {g : Nat} {a c : List Pt} {l q : Nat} (hS : Shp g (a ++ (l, q) :: c)) (hl : l < 16) : Shp (max g (l + 1)) (a ++ (l + 1, q) :: (c ++ [(l + 1, q + 2 ^ l)])) := by
  have hq := hS.lt (l, q) (by simp)
  have hp : 2 ^ (l + 1) = 2 * 2 ^ l := by rw [Nat.pow_succ, Nat.mul_comm]
  refine ⟨?_, ?_, ?_, ?_, ?_⟩
  · intro s hs
    simp only [List.mem_append, List.mem_cons, List.not_mem_nil, or_false] at hs
    rcases hs with hs | rfl | hs | rfl
    · have := hS.lt s (by simp [hs]); omega
    · simp only [hp]; simp only at hq; omega
    · have := hS.lt s (by simp [hs]); omega
    · simp only [hp]; simp only at hq; omega
  · have := hS.le; omega
  · by_cases e : l + 1 ≤ g
    · obtain ⟨s, hs, he⟩ := hS.deep
      simp only [List.mem_append, List.mem_cons] at hs
      rcases hs with hs | rfl | hs
      · exact ⟨s, by simp [hs], by omega⟩
      · simp only at he; omega
      · exact ⟨s, by simp [hs], by omega⟩
    · exact ⟨(l + 1, q), by simp, by simp only; omega⟩
  · intro h
    obtain ⟨s, hs, hi⟩ := hS.cov h
    simp only [List.mem_append, List.mem_cons] at hs
    rcases hs with hs | rfl | hs
    · exact ⟨s, by simp [hs], hi⟩
    · rcases Nat.mod_two_eq_zero_or_one (h / 2 ^ l) with e | e
      · exact ⟨(l + 1, q), by simp, (isIn_zero hq.1).2 ⟨hi, e⟩⟩
      · exact ⟨(l + 1, q + 2 ^ l), by simp, isIn_one.2 ⟨hi, e⟩⟩
    · exact ⟨s, by simp [hs], hi⟩
  · have hd := hS.dis
    rw [List.pairwise_append, List.pairwise_cons] at hd
    obtain ⟨h1, ⟨h2, h3⟩, h4⟩ := hd
    have z0 : ∀ t, Apart (l, q) t → Apart (l + 1, q) t := fun t ht h hh => ht h ((isIn_zero hq.1).1 hh).1
    have z1 : ∀ t, Apart (l, q) t → Apart (l + 1, q + 2 ^ l) t := fun t ht h hh => ht h (isIn_one.1 hh).1
    have z2 : Apart (l + 1, q) (l + 1, q + 2 ^ l) := by
      intro h hh
      have h0 := ((isIn_zero hq.1).1 hh).2
      cases e : isIn (l + 1, q + 2 ^ l) h with
      | false => rfl
      | true => have h1 := (isIn_one.1 e).2; rw [h0] at h1; cases h1
    rw [List.pairwise_append, List.pairwise_cons, List.pairwise_append]
    refine ⟨h1, ⟨?_, h3, by simp, ?_⟩, ?_⟩
    · intro t ht
      simp only [List.mem_append, List.mem_cons, List.not_mem_nil, or_false] at ht
      rcases ht with ht | rfl
      · exact z0 t (h2 t ht)
      · exact z2
    · intro t ht s hs
      cases List.mem_singleton.1 hs
      exact (z1 t (h2 t ht)).symm
    · intro t ht s hs
      simp only [List.mem_append, List.mem_cons, List.not_mem_nil, or_false] at hs
      rcases hs with rfl | hs | rfl
      · exact (z0 t (h4 t ht (l, q) (by simp)).symm).symm
      · exact h4 t ht s (by simp [hs])
      · exact (z1 t (h4 t ht (l, q) (by simp)).symm).symm
/-- Two that a hash belongs to are one. -/
theorem Shp.one {g : Nat} {sh : List Pt} (hS : Shp g sh) {i j : Nat} (hi : i < sh.length) (hj : j < sh.length) {h : Nat} (h1 : isIn sh[i] h = true) (h2 : isIn sh[j] h = true) : i = j := by
  rcases Nat.lt_trichotomy i j with h3 | h3 | h3
  · have := List.pairwise_iff_getElem.1 hS.dis i j hi hj h3 h h1
    rw [h2] at this; cases this
  · exact h3
  · have := List.pairwise_iff_getElem.1 hS.dis j i hj hi h3 h h2
    rw [h1] at this; cases this
/-- A hash and its lowest bits belong to the same. -/
theorem isIn_low {s : Pt} {g : Nat} (hs : s.1 ≤ g) (h : Nat) : isIn s (h % 2 ^ g) = isIn s h := by
  unfold isIn
  have : h % 2 ^ g % 2 ^ s.1 = h % 2 ^ s.1 := Nat.mod_mod_of_dvd _ (Nat.pow_dvd_pow 2 hs)
  rw [this]
theorem isIn_self {s : Pt} (hs : s.2 < 2 ^ s.1) : isIn s s.2 = true := isIn_iff.2 (Nat.mod_eq_of_lt hs)
end Go.Proofs.YtkohjejfkbaffaaGreat.Dk
