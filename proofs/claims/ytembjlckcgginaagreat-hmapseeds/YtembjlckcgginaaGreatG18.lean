/-
  A hash and the law's model side by side: what each call leaves of both; field.
  The law's do: a call on a hash and on the model.
  The law's do, kind by kind.
  The law's do, Get, and every kind.
-/
import Derived.Test.YtembjlckcgginaaGreatG17
namespace Go.Proofs.YtembjlckcgginaaGreat
open Go.RowKit Go.PlainAid
open Dk (En Stay hasK putE delE getE keysOf Dct Dg dtag ecells Turn)

theorem Md.stay {w w' : World} {B q E T : Nat} {a : Option Addr} {n c : Nat} {es : List En} {pk : Bool} {M : List Nat} (h : Md w B q E T a n c es pk) (hs : Stay w w' M) (hd : ∀ k ∈ mfp q a, k ∉ M) : Md w' B q E T a n c es pk :=
  ⟨by rw [hs.block q h.lt (hd q (List.mem_cons_self ..))]; exact h.blk, Dk.OwnR.stay h.row hs (fun k hk => hd k (List.mem_cons_of_mem _ (Option.mem_toList.2 hk))), h.low⟩
/-- The types of a model's blocks. -/
def mtag (t : TypeId) : Bool := t == 43 || t == 56
theorem tags_apart : ∀ t, mtag t = true → htag t = false := by
  intro t h
  unfold mtag at h
  simp only [Bool.or_eq_true, beq_iff_eq] at h
  rcases h with rfl | rfl <;> rfl
theorem Md.tags {w : World} {B q E T : Nat} {a : Option Addr} {n c : Nat} {es : List En} {pk : Bool} (h : Md w B q E T a n c es pk) : ∀ k ∈ mfp q a, B ≤ k ∧ k < w.heap.size ∧ ∃ cs t, w.heap[k]? = some (.cells cs t (0, 0)) ∧ mtag t = true := by
  intro k hk
  rcases List.mem_cons.1 hk with rfl | hk
  · exact ⟨h.low, h.lt, _, _, h.blk, rfl⟩
  · obtain ⟨h1, h2, cur, h3⟩ := Dk.OwnR.lt h.row (Option.mem_toList.1 hk)
    exact ⟨h1, h2, _, _, h3, rfl⟩
/-- A hash and a model share nothing. -/
theorem hm_md {w : World} {B C m x E T E' T' q : Nat} {hs es : List En} {pk pk' : Bool} {F : List Nat} {a : Option Addr} {n c : Nat} (h : Hm w B m x E T hs pk F) (h' : Md w C q E' T' a n c es pk') : ∀ k ∈ F, k ∉ mfp q a := by
  intro k hk hk2
  obtain ⟨-, -, cs, t, h1, h2⟩ := h.tags k hk
  obtain ⟨-, -, cs', t', h3, h4⟩ := h'.tags k hk2
  rw [h1] at h3
  simp at h3
  have := tags_apart t' h4
  rw [← h3.2, h2] at this
  cases this

theorem MSet (B q E T : Nat) (a : Option Addr) (n c : Nat) (es : List En) (pk : Bool) (f v : ByteArray) (w : World) (h : Md w B q E T a n c es pk) (hB : B ≤ w.heap.size) (hn : es.length ≤ 100000) (hd : (keysOf es).Nodup) :
    Calls Tryz.prog 36 #[ptr q, .string f, .string v] w fun e w' => e = .returned (.bool (!hasK es f)) ∧ MTo w w' B q E T (putE es f v) (pkE es pk E T f v) (mfp q a) := by
  have hl := h.len
  by_cases hf : f ∈ keysOf es
  · obtain ⟨l, u, r, rfl⟩ := Dk.key_split hf
    have e1 : pkE (l ++ (f, u) :: r) pk E T f v = pk5 pk n E T f v := by unfold pkE pk5; rw [hasK_len, Dk.hasK_iff.2 hf, hl]; rfl
    rw [Dk.hasK_iff.2 hf, e1, Dk.putE_old hd]
    exact set_old B q E T a n c l r u pk f v w h (by omega) (Dk.not_of_nodup hd).1
  · have e1 : pkE es pk E T f v = pk5 pk (n + 1) E T f v := by unfold pkE pk5; rw [hasK_len, Dk.hasK_no hf, hl]; rfl
    have e2 : putE es f v = es ++ [(f, v)] := by unfold putE; rw [if_neg (by rw [Dk.hasK_no hf]; decide)]
    rw [Dk.hasK_no hf, e1, e2]
    exact set_new B q E T a n c es pk f v w h hB (by omega) hf
theorem MDel (B q E T : Nat) (a : Option Addr) (n c : Nat) (es : List En) (pk : Bool) (f : ByteArray) (w : World) (h : Md w B q E T a n c es pk) (hB : B ≤ w.heap.size) (hn : es.length ≤ 100000) (hd : (keysOf es).Nodup) :
    Calls Tryz.prog 37 #[ptr q, .string f] w fun e w' => e = .returned (.bool (hasK es f)) ∧ MTo w w' B q E T (delE es f) pk (mfp q a) := by
  have hl := h.len
  by_cases hf : f ∈ keysOf es
  · obtain ⟨l, u, r, rfl⟩ := Dk.key_split hf
    rw [Dk.hasK_iff.2 hf, Dk.delE_old hd]
    exact del_yes B q E T a n c l r u pk f w h hB (by omega) (Dk.not_of_nodup hd).1
  · rw [Dk.hasK_no hf, Dk.filter_same hf]
    refine (del_no B q E T a n c es pk f w h (by omega) hf).mono ?_
    rintro e w' ⟨rfl, rfl⟩
    exact ⟨rfl, a, n, c, h, Stay.of_below (Below.refl _ _) _, fun k hk => .inl hk⟩

/-- A hash at m and the model at q: both have es. -/
def Pm (w : World) (B m x E T q : Nat) (es : List En) (F M : List Nat) : Prop := ∃ pk hs a n c, Hm w B m x E T hs pk F ∧ hs.Perm es ∧ Md w B q E T a n c es pk ∧ M = mfp q a
theorem Pm.keep {w wn : World} {B m x E T q : Nat} {es : List En} {F M : List Nat} (h : Pm w B m x E T q es F M) (hb : Below w.heap.size w wn) : Pm wn B m x E T q es F M := by
  obtain ⟨pk, hs, a, n, c, h1, h2, h3, h4⟩ := h
  exact ⟨pk, hs, a, n, c, h1.keep hb, h2, h3.keep hb, h4⟩
theorem Pm.nod {w : World} {B m x E T q : Nat} {es : List En} {F M : List Nat} (h : Pm w B m x E T q es F M) : (keysOf es).Nodup := by
  obtain ⟨pk, hs, a, n, c, h1, h2, h3, h4⟩ := h
  exact (h2.map Prod.fst).nodup_iff.1 h1.nod
theorem Pm.dj {w : World} {B m x E T q : Nat} {es : List En} {F M : List Nat} (h : Pm w B m x E T q es F M) : (∀ k ∈ F, k ∉ M) ∧ (∀ k ∈ F, B ≤ k ∧ k < w.heap.size) ∧ (∀ k ∈ M, B ≤ k ∧ k < w.heap.size) ∧ B ≤ w.heap.size := by
  obtain ⟨pk, hs, a, n, c, h1, h2, h3, rfl⟩ := h
  exact ⟨hm_md h1 h3, fun k hk => ⟨(h1.tags k hk).1, (h1.tags k hk).2.1⟩, fun k hk => ⟨(h3.tags k hk).1, (h3.tags k hk).2.1⟩, h1.2.1⟩
theorem Pm.stay {w w' : World} {B m x E T q : Nat} {es : List En} {F M N : List Nat} (h : Pm w B m x E T q es F M) (hs : Stay w w' N) (hF : ∀ k ∈ F, k ∉ N) (hM : ∀ k ∈ M, k ∉ N) : Pm w' B m x E T q es F M := by
  obtain ⟨pk, hs', a, n, c, h1, h2, h3, rfl⟩ := h
  exact ⟨pk, hs', a, n, c, h1.stay hs hF, h2, h3.stay hs hM, rfl⟩
/-- What a call leaves that turns both. -/
def PTo (w w' : World) (B m x E T q : Nat) (es : List En) (F M : List Nat) : Prop := ∃ F' M', Pm w' B m x E T q es F' M' ∧ Stay w w' (F ++ M) ∧ (∀ k ∈ F', k ∈ F ∨ w.heap.size ≤ k) ∧ (∀ k ∈ M', k ∈ M ∨ w.heap.size ≤ k)
theorem PTo.same {w w' : World} {B m x E T q : Nat} {es : List En} {F M : List Nat} (h : Pm w B m x E T q es F M) (hb : Below w.heap.size w w') : PTo w w' B m x E T q es F M := ⟨F, M, h.keep hb, Stay.of_below hb _, fun _ h => .inl h, fun _ h => .inl h⟩
theorem PTo.below {w w' : World} {B m x E T q : Nat} {es gs : List En} {F M : List Nat} (h : PTo w w' B m x E T q es F M) (h0 : Pm w B m x E T q gs F M) : Below B w w' := by
  obtain ⟨F', M', -, h2, -⟩ := h
  obtain ⟨-, k1, k2, k3⟩ := h0.dj
  exact h2.below (fun k hk => by rcases List.mem_append.1 hk with h | h; exact (k1 k h).1; exact (k2 k h).1) k3
theorem PTo.trans {w w1 w2 : World} {B m x E T q : Nat} {es : List En} {F M F1 M1 : List Nat} (h1 : Stay w w1 (F ++ M)) (hF : ∀ k ∈ F1, k ∈ F ∨ w.heap.size ≤ k) (hM : ∀ k ∈ M1, k ∈ M ∨ w.heap.size ≤ k) (h : PTo w1 w2 B m x E T q es F1 M1) : PTo w w2 B m x E T q es F M := by
  obtain ⟨F2, M2, k1, k2, k3, k4⟩ := h
  refine ⟨F2, M2, k1, h1.trans k2 (fun i hi => ?_), fun k hk => (k3 k hk).elim (hF k) (fun h => .inr (Nat.le_trans h1.size h)), fun k hk => (k4 k hk).elim (hM k) (fun h => .inr (Nat.le_trans h1.size h))⟩
  rcases List.mem_append.1 hi with h | h
  · exact (hF i h).imp (fun h => List.mem_append.2 (.inl h)) id
  · exact (hM i h).imp (fun h => List.mem_append.2 (.inr h)) id
/-- The hash is turned, then the model. -/
theorem Pm.both {w w1 w2 : World} {B m x E T q : Nat} {hs' es' : List En} {pk' : Bool} {F M : List Nat} (h1 : HTo w w1 B m x E T hs' pk' F) (h2 : MTo w1 w2 B q E T es' pk' M) (hp : hs'.Perm es') (hx : ∀ {F'}, Hm w1 B m x E T hs' pk' F' → ∀ k ∈ F', k ∉ M) : PTo w w2 B m x E T q es' F M := by
  obtain ⟨F', k1, k2, k3⟩ := h1
  obtain ⟨a, n, c, j1, j2, j3⟩ := h2
  refine ⟨F', mfp q a, ⟨pk', hs', a, n, c, k1.stay j2 (hx k1), hp, j1, rfl⟩, ?_, k3, fun k hk => (j3 k hk).imp id (fun h => Nat.le_trans k2.size h)⟩
  exact (k2.mono (fun i hi => List.mem_append.2 (.inl hi))).trans (M' := M) j2 (fun i hi => .inl (List.mem_append.2 (.inr hi)))

/-- The field of a call. -/
def flE (N : Int) (F : ByteArray) : ByteArray := if N.tmod 4 = 0 then cutB F 80 else ⟨#[102]⟩ ++ ltr ((wi N 1048576 : Int).tmod 26)
theorem cutB_size (F : ByteArray) : (cutB F 80).size ≤ 80 := by have := size_cutB F 80 (by decide); omega
theorem flE_size (N : Int) (F : ByteArray) : (flE N F).size ≤ 80 := by
  unfold flE
  split
  · exact cutB_size F
  · rw [ByteArray.size_append, ← ByteArray.size_data (a := ltr _), ltr_data (tm26 _).1 (tm26 _).2]
    exact (by decide : 1 + 1 ≤ 80)
set_option maxRecDepth 100000 in
theorem field_any (kind N : Int) (F V : ByteArray) (w : World) :
    Calls Tryz.prog 35 #[.agg #[.int .i64 kind, .int .i64 N, .string F, .string V]] w fun e w' => e = .returned (.string (flE N F)) ∧ Below w.heap.size w w' := by
  have HB : Hid (Below w.heap.size w (w.alloc (.cells #[.int .i64 kind, .int .i64 N, .string F, .string V] 25))) := alloc_below w _
  by_cases h3 : N.tmod 4 = 0
  · have HC := fun w => Cut_any F 80 w (by decide)
    have HE : Hid (flE N F = cutB F 80) := by show _ = _; unfold flE; rw [if_pos h3]
    generalize cutB F 80 = k at HC HE
    go_enter Tryz.func35, Tryz.ntmps35
    go_wp2_with fail
    refine (HC _).mono ?_
    rintro e w2 ⟨rfl, rfl⟩
    go_wp2
    go_ret
    exact ⟨by rw [HE.out]; rfl, HB.out⟩
  · have hz : (N.tmod 4 == 0) = false := by simpa using h3
    have HE : Hid (flE N F = ⟨#[102]⟩ ++ ltr ((wi N 1048576 : Int).tmod 26)) := by show _ = _; unfold flE; rw [if_neg h3]
    have HW := fun w => Within_wi N 1048576 w (by decide)
    have hle := wi_le N 1048576
    generalize wi N 1048576 = m at HW HE hle
    have ha := tm26 (m : Int)
    have hs1 : (ltr ((m : Int).tmod 26)).size ≤ 4 := by rw [← ByteArray.size_data, ltr_data ha.1 ha.2]; exact (by decide : 1 ≤ 4)
    have e1 : Utf8.encode (97 + (m : Int).tmod 26) = ltr ((m : Int).tmod 26) := rfl
    generalize ltr ((m : Int).tmod 26) = L1 at e1 HE hs1
    obtain ⟨r, hr⟩ : ∃ r, (m : Int).tmod 26 = r := ⟨_, rfl⟩
    rw [hr] at ha e1
    go_enter Tryz.func35, Tryz.ntmps35
    go_wp2_with fail
    refine (HW _).mono ?_
    rintro e w2 ⟨rfl, rfl⟩
    go_wp2
    go_ret
    exact ⟨by rw [HE.out]; rfl, HB.out⟩
end Go.Proofs.YtembjlckcgginaaGreat

namespace Go.Proofs.YtembjlckcgginaaGreat
open Go.RowKit Go.PlainAid
open Dk (En Stay hasK putE delE getE keysOf Dct Dg dtag ecells Turn)

/-- A call in memory. -/
def Bx (w : World) (g : Nat) (kind N : Int) (F V : ByteArray) : Prop := w.heap[g]? = some (.cells #[.int .i64 kind, .int .i64 N, .string F, .string V] 25 (0, 0))
theorem Bx.keep {w wn : World} {g : Nat} {kind N : Int} {F V : ByteArray} (h : Bx w g kind N F V) (hb : Below w.heap.size w wn) : Bx wn g kind N F V := by
  unfold Bx
  rw [hb.block g (Array.getElem?_eq_some_iff.1 h).1]; exact h
theorem Bx.kind {w : World} {g : Nat} {kind N : Int} {F V : ByteArray} (h : Bx w g kind N F V) : w.cell? ⟨g, 0, none⟩ = some (.int .i64 kind) := by unfold Bx at h; simp [World.cell?, h]
theorem Bx.num {w : World} {g : Nat} {kind N : Int} {F V : ByteArray} (h : Bx w g kind N F V) : w.cell? ⟨g, 1, none⟩ = some (.int .i64 N) := by unfold Bx at h; simp [World.cell?, h]
theorem Pm.tg {w : World} {B m x E T q : Nat} {es : List En} {F M : List Nat} (h : Pm w B m x E T q es F M) : ∀ k ∈ F ++ M, ∃ cs t, w.heap[k]? = some (.cells cs t (0, 0)) ∧ (htag t || mtag t) = true := by
  obtain ⟨pk, hs, a, n, c, h1, h2, h3, rfl⟩ := h
  intro k hk
  rcases List.mem_append.1 hk with hk | hk
  · obtain ⟨-, -, cs, t, k1, k2⟩ := h1.tags k hk
    exact ⟨cs, t, k1, by rw [k2]; rfl⟩
  · obtain ⟨-, -, cs, t, k1, k2⟩ := h3.tags k hk
    exact ⟨cs, t, k1, by rw [k2]; simp⟩
theorem Bx.stay {w w' : World} {g : Nat} {kind N : Int} {F V : ByteArray} {B m x E T q : Nat} {es : List En} {G M : List Nat} (h : Bx w g kind N F V) (hp : Pm w B m x E T q es G M) (hs : Stay w w' (G ++ M)) : Bx w' g kind N F V := by
  unfold Bx
  rw [hs.block g (Array.getElem?_eq_some_iff.1 h).1 (fun hm => ?_)]
  · exact h
  · obtain ⟨cs, t, h1, h2⟩ := hp.tg g hm
    unfold Bx at h
    rw [h] at h1
    simp at h1
    rw [← h1.2] at h2
    revert h2
    decide

/-- Many sets. -/
def mkey (N : Int) (i : Nat) : ByteArray := mny ((IntKind.i64.wrap ((i : Int) * N)).tmod 600)
def mset (N : Int) (v : ByteArray) : Nat → List En → List En
  | 0, es => es
  | i + 1, es => mset N v i (putE es (mkey N (i + 1)) v)
/-- What is there behind a call. -/
def stq (kind N : Int) (F V : ByteArray) (es : List En) : List En :=
  if kind = 1 then putE es (flE N F) (cutB V 80) else if kind = 2 then delE es (flE N F) else if kind = 4 then mset N (cutB V 80) (wi N 40) es else es
theorem mset_len (N : Int) (v : ByteArray) : ∀ (i : Nat) (es : List En), (mset N v i es).length ≤ es.length + i
  | 0, es => Nat.le_refl _
  | i + 1, es => by
    have h1 := mset_len N v i (putE es (mkey N (i + 1)) v)
    have h2 := Dk.putE_len es (mkey N (i + 1)) v
    show (mset N v i (putE es (mkey N (i + 1)) v)).length ≤ _
    omega
theorem stq_len (kind N : Int) (F V : ByteArray) (es : List En) : (stq kind N F V es).length ≤ es.length + 40 := by
  unfold stq
  split
  · have := Dk.putE_len es (flE N F) (cutB V 80); omega
  · split
    · have := Dk.delE_len es (flE N F); omega
    · split
      · have := mset_len N (cutB V 80) (wi N 40) es; have := wi_le N 40; omega
      · omega

/-- Set on the hash, then set on the model. -/
theorem set_both (B m x E T q : Nat) (es : List En) (F M : List Nat) (k v : ByteArray) (w : World) (h : Pm w B m x E T q es F M) (hk : k.size ≤ 4096) (hv : v.size ≤ 4096) (hl : es.length ≤ 100000) :
    Calls Tryz.prog 11 #[ptr m, .string k, .string v] w fun e w1 => e = .returned (.tuple #[.bool (!hasK es k), .int .i64 0]) ∧ Below B w w1 ∧ Stay w w1 (F ++ M) ∧ (∀ wz, Below w1.heap.size w1 wz → Calls Tryz.prog 36 #[ptr q, .string k, .string v] wz fun e w2 => e = .returned (.bool (!hasK es k)) ∧ PTo w w2 B m x E T q (putE es k v) F M ∧ Below B w w2) := by
  have hnd := h.nod
  have h0 := h
  obtain ⟨pk, hs, a, n, c, h1, h2, h3, rfl⟩ := h
  refine (SetH B m x E T hs pk F k v w h1 hk hv (by rw [h2.length_eq]; omega)).mono ?_
  rintro e w1 ⟨rfl, ht⟩
  have hb := ht.below h1
  have hdj := hm_md h1 h3
  obtain ⟨F', k1, k2, k3⟩ := ht
  refine ⟨by rw [Dk.hasK_perm h2], hb, k2.mono (fun i hi => List.mem_append.2 (.inl hi)), fun wz hbz => ?_⟩
  have hMd : Md w1 B q E T a n c es pk := h3.stay k2 (fun k hk hk2 => hdj k hk2 hk)
  refine (MSet B q E T a n c es pk k v wz (hMd.keep hbz) (Nat.le_trans k1.2.1 hbz.size) hl hnd).mono ?_
  rintro e w2 ⟨rfl, hm⟩
  have e1 : pkE hs pk E T k v = pkE es pk E T k v := by unfold pkE; rw [(Dk.putE_perm h2 k v).length_eq]
  rw [e1] at k1
  have hto : HTo w wz B m x E T (putE hs k v) (pkE es pk E T k v) F := ⟨F', k1.keep hbz, k2.trans (M' := []) (Stay.of_below hbz []) (fun _ hi => absurd hi List.not_mem_nil), k3⟩
  have hP := Pm.both hto hm (Dk.putE_perm h2 k v) (fun hF => hm_md hF (hMd.keep hbz))
  exact ⟨rfl, hP, hP.below h0⟩
theorem del_both (B m x E T q : Nat) (es : List En) (F M : List Nat) (k : ByteArray) (w : World) (h : Pm w B m x E T q es F M) (hk : k.size ≤ 4096) (hl : es.length ≤ 100000) :
    Calls Tryz.prog 25 #[ptr m, .string k] w fun e w1 => e = .returned (.bool (hasK es k)) ∧ Below B w w1 ∧ (Calls Tryz.prog 37 #[ptr q, .string k] w1 fun e w2 => e = .returned (.bool (hasK es k)) ∧ PTo w w2 B m x E T q (delE es k) F M ∧ Below B w w2) := by
  have hnd := h.nod
  have h0 := h
  obtain ⟨pk, hs, a, n, c, h1, h2, h3, rfl⟩ := h
  refine (DelH B m x E T hs pk F k w h1 (by unfold maxLen; omega)).mono ?_
  rintro e w1 ⟨rfl, ht⟩
  have hb := ht.below h1
  have hdj := hm_md h1 h3
  refine ⟨by rw [Dk.hasK_perm h2], hb, ?_⟩
  have hto := ht
  obtain ⟨F', k1, k2, k3⟩ := ht
  have hMd : Md w1 B q E T a n c es pk := h3.stay k2 (fun k hk hk2 => hdj k hk2 hk)
  refine (MDel B q E T a n c es pk k w1 hMd k1.2.1 hl hnd).mono ?_
  rintro e w2 ⟨rfl, hm⟩
  have hP := Pm.both hto hm (Dk.delE_perm h2 k) (fun hF => hm_md hF hMd)
  exact ⟨rfl, hP, hP.below h0⟩
end Go.Proofs.YtembjlckcgginaaGreat

namespace Go.Proofs.YtembjlckcgginaaGreat
open Go.RowKit Go.PlainAid
open Dk (En Stay hasK putE delE getE keysOf Dct Dg dtag ecells Turn)

theorem Bx.c2 {w : World} {g : Nat} {kind N : Int} {F V : ByteArray} (h : Bx w g kind N F V) : w.cell? ⟨g, 2, none⟩ = some (.string F) := by unfold Bx at h; simp [World.cell?, h]
theorem Bx.c3 {w : World} {g : Nat} {kind N : Int} {F V : ByteArray} (h : Bx w g kind N F V) : w.cell? ⟨g, 3, none⟩ = some (.string V) := by unfold Bx at h; simp [World.cell?, h]
set_option maxRecDepth 100000 in
set_option maxHeartbeats 4000000 in
theorem do_set (B m x E T q : Nat) (es : List En) (F M : List Nat) (kind N : Int) (Fs V : ByteArray) (w : World) (h : Pm w B m x E T q es F M) (hl : es.length ≤ 50000) (hkind : kind = 1) :
    Calls Tryz.prog 17 #[ptr m, ptr q, .agg #[.int .i64 kind, .int .i64 N, .string Fs, .string V]] w fun e w' => e = .returned (.bool true) ∧ PTo w w' B m x E T q (putE es (flE N Fs) (cutB V 80)) F M := by
  have HK : Hid (kind = 1) := hkind
  clear hkind
  have HP : Hid (Pm w B m x E T q es F M) := h
  have HF := fun w => field_any kind N Fs V w
  have HC := fun w => Cut_any V 80 w (by decide)
  have HSz : Hid ((flE N Fs).size ≤ 80 ∧ (cutB V 80).size ≤ 80) := ⟨flE_size N Fs, cutB_size V⟩
  generalize flE N Fs = f at *
  generalize cutB V 80 = v at *
  clear h
  go_enter Tryz.func17, Tryz.ntmps17
  go_upto_region 1 with fail
  have hB0 : Bx (w.alloc (.cells #[.int .i64 kind, .int .i64 N, .string Fs, .string V] 25)) w.heap.size kind N Fs V := heap_alloc_new w _
  have HBa : Hid (Below w.heap.size w (w.alloc (.cells #[.int .i64 kind, .int .i64 N, .string Fs, .string V] 25))) := alloc_below w _
  go_cut [7, 8] from 17 to 21 (fun u7 u8 wx => u7 = .string f ∧ u8 = .string v ∧ ∃ wy, wy = wx ∧ Hid (Below w.heap.size w wy) ∧ Hid (Bx wy w.heap.size kind N Fs V))
  case first =>
    generalize w.alloc (.cells #[.int .i64 kind, .int .i64 N, .string Fs, .string V] 25) = wa at hB0 HBa ⊢
    have HB0 : Hid (Bx wa w.heap.size kind N Fs V) := hB0
    have hd0 : wa.drew.cell? ⟨w.heap.size, 0, none⟩ = some (.int .i64 kind) := hB0.kind
    have hd1 : wa.drew.cell? ⟨w.heap.size, 1, none⟩ = some (.int .i64 N) := hB0.num
    have hd2 : wa.drew.cell? ⟨w.heap.size, 2, none⟩ = some (.string Fs) := hB0.c2
    have hd3 : wa.drew.cell? ⟨w.heap.size, 3, none⟩ = some (.string V) := hB0.c3
    have HFd := HF wa.drew
    have HBd : Hid (Below wa.heap.size wa wa.drew) := below_drewN wa 1
    clear hB0
    go_region_with (first
      | (go_at_call 35; refine HFd.mono ?_; rintro e w2 ⟨rfl, hb⟩; have HB2 : Hid (Below wa.heap.size wa w2) := step_below HBd hb; have hB2 := HB0.out.keep HB2.out; have hf3 : w2.cell? ⟨w.heap.size, 3, none⟩ = some (.string V) := hB2.c3; clear hB2)
      | (go_at_call 24; refine (HC _).mono ?_; rintro e w3 ⟨rfl, rfl⟩))
    all_goals
      go_wp2
      go_meet
      exact ⟨rfl, rfl, _, rfl, HBa.out.trans (HB2.out.mono HBa.out.size), HB0.out.keep HB2.out⟩
  case rest =>
  obtain ⟨rfl, rfl, wx, rfl, HBx, HBk⟩ := hcut
  have hk := HBk.out.kind
  rw [HK.out] at hk
  have hnum := HBk.out.num
  have HPx : Hid (Pm wx B m x E T q es F M) := HP.out.keep HBx.out
  have HPs : Hid (∀ {w2 : World} {gs : List En}, PTo wx w2 B m x E T q gs F M → PTo w w2 B m x E T q gs F M) := fun ht => PTo.trans (Stay.of_below HBx.out _) (fun _ h => .inl h) (fun _ h => .inl h) ht
  clear hB0 HBa HF HC
  have HS := set_both B m x E T q es F M f v wx HPx.out (by have := HSz.out; omega) (by have := HSz.out; omega) (by omega)
  generalize (!hasK es f) = t at HS
  go_wp2_with fail
  refine HS.mono ?_
  rintro e w2 ⟨rfl, -, -, hm⟩
  have HM2 := hm w2 (Below.refl _ _)
  clear hm
  go_wp2_with fail
  refine HM2.mono ?_
  rintro e w3 ⟨rfl, hto, -⟩
  have HT : Hid (PTo w w3 B m x E T q (putE es f v) F M) := HPs.out hto
  clear hto
  cases t
  all_goals
    go_wp2
    go_ret
    exact ⟨rfl, HT.out⟩
set_option maxRecDepth 100000 in
set_option maxHeartbeats 4000000 in
theorem do_del (B m x E T q : Nat) (es : List En) (F M : List Nat) (kind N : Int) (Fs V : ByteArray) (w : World) (h : Pm w B m x E T q es F M) (hl : es.length ≤ 50000) (hkind : kind = 2) :
    Calls Tryz.prog 17 #[ptr m, ptr q, .agg #[.int .i64 kind, .int .i64 N, .string Fs, .string V]] w fun e w' => e = .returned (.bool true) ∧ PTo w w' B m x E T q (delE es (flE N Fs)) F M := by
  have HK : Hid (kind = 2) := hkind
  clear hkind
  have HP : Hid (Pm w B m x E T q es F M) := h
  have HF := fun w => field_any kind N Fs V w
  have HC := fun w => Cut_any V 80 w (by decide)
  have HSz : Hid ((flE N Fs).size ≤ 80 ∧ (cutB V 80).size ≤ 80) := ⟨flE_size N Fs, cutB_size V⟩
  generalize flE N Fs = f at *
  generalize cutB V 80 = v at *
  clear h
  go_enter Tryz.func17, Tryz.ntmps17
  go_upto_region 1 with fail
  have hB0 : Bx (w.alloc (.cells #[.int .i64 kind, .int .i64 N, .string Fs, .string V] 25)) w.heap.size kind N Fs V := heap_alloc_new w _
  have HBa : Hid (Below w.heap.size w (w.alloc (.cells #[.int .i64 kind, .int .i64 N, .string Fs, .string V] 25))) := alloc_below w _
  go_cut [7, 8] from 17 to 21 (fun u7 u8 wx => u7 = .string f ∧ u8 = .string v ∧ ∃ wy, wy = wx ∧ Hid (Below w.heap.size w wy) ∧ Hid (Bx wy w.heap.size kind N Fs V))
  case first =>
    generalize w.alloc (.cells #[.int .i64 kind, .int .i64 N, .string Fs, .string V] 25) = wa at hB0 HBa ⊢
    have HB0 : Hid (Bx wa w.heap.size kind N Fs V) := hB0
    have hd0 : wa.drew.cell? ⟨w.heap.size, 0, none⟩ = some (.int .i64 kind) := hB0.kind
    have hd1 : wa.drew.cell? ⟨w.heap.size, 1, none⟩ = some (.int .i64 N) := hB0.num
    have hd2 : wa.drew.cell? ⟨w.heap.size, 2, none⟩ = some (.string Fs) := hB0.c2
    have hd3 : wa.drew.cell? ⟨w.heap.size, 3, none⟩ = some (.string V) := hB0.c3
    have HFd := HF wa.drew
    have HBd : Hid (Below wa.heap.size wa wa.drew) := below_drewN wa 1
    clear hB0
    go_region_with (first
      | (go_at_call 35; refine HFd.mono ?_; rintro e w2 ⟨rfl, hb⟩; have HB2 : Hid (Below wa.heap.size wa w2) := step_below HBd hb; have hB2 := HB0.out.keep HB2.out; have hf3 : w2.cell? ⟨w.heap.size, 3, none⟩ = some (.string V) := hB2.c3; clear hB2)
      | (go_at_call 24; refine (HC _).mono ?_; rintro e w3 ⟨rfl, rfl⟩))
    all_goals
      go_wp2
      go_meet
      exact ⟨rfl, rfl, _, rfl, HBa.out.trans (HB2.out.mono HBa.out.size), HB0.out.keep HB2.out⟩
  case rest =>
  obtain ⟨rfl, rfl, wx, rfl, HBx, HBk⟩ := hcut
  have hk := HBk.out.kind
  rw [HK.out] at hk
  have hnum := HBk.out.num
  have HPx : Hid (Pm wx B m x E T q es F M) := HP.out.keep HBx.out
  have HPs : Hid (∀ {w2 : World} {gs : List En}, PTo wx w2 B m x E T q gs F M → PTo w w2 B m x E T q gs F M) := fun ht => PTo.trans (Stay.of_below HBx.out _) (fun _ h => .inl h) (fun _ h => .inl h) ht
  clear hB0 HBa HF HC
  have HS := del_both B m x E T q es F M f wx HPx.out (by have := HSz.out; omega) (by omega)
  generalize hasK es f = t at HS
  go_wp2_with fail
  refine HS.mono ?_
  rintro e w2 ⟨rfl, -, hm⟩
  go_wp2_with fail
  refine hm.mono ?_
  rintro e w3 ⟨rfl, hto, -⟩
  have HT : Hid (PTo w w3 B m x E T q (delE es f) F M) := HPs.out hto
  clear hto
  cases t
  all_goals
    go_wp2
    go_ret
    exact ⟨rfl, HT.out⟩
set_option maxRecDepth 100000 in
set_option maxHeartbeats 4000000 in
theorem do_many (B m x E T q : Nat) (es : List En) (F M : List Nat) (kind N : Int) (Fs V : ByteArray) (w : World) (h : Pm w B m x E T q es F M) (hl : es.length ≤ 50000) (hkind : kind = 4) :
    Calls Tryz.prog 17 #[ptr m, ptr q, .agg #[.int .i64 kind, .int .i64 N, .string Fs, .string V]] w fun e w' => e = .returned (.bool true) ∧ PTo w w' B m x E T q (mset N (cutB V 80) (wi N 40) es) F M := by
  have HK : Hid (kind = 4) := hkind
  clear hkind
  have HP : Hid (Pm w B m x E T q es F M) := h
  have HF := fun w => field_any kind N Fs V w
  have HC := fun w => Cut_any V 80 w (by decide)
  have HSz : Hid ((flE N Fs).size ≤ 80 ∧ (cutB V 80).size ≤ 80) := ⟨flE_size N Fs, cutB_size V⟩
  generalize flE N Fs = f at *
  generalize cutB V 80 = v at *
  clear h
  go_enter Tryz.func17, Tryz.ntmps17
  go_upto_region 1 with fail
  have hB0 : Bx (w.alloc (.cells #[.int .i64 kind, .int .i64 N, .string Fs, .string V] 25)) w.heap.size kind N Fs V := heap_alloc_new w _
  have HBa : Hid (Below w.heap.size w (w.alloc (.cells #[.int .i64 kind, .int .i64 N, .string Fs, .string V] 25))) := alloc_below w _
  go_cut [7, 8] from 17 to 21 (fun u7 u8 wx => u7 = .string f ∧ u8 = .string v ∧ ∃ wy, wy = wx ∧ Hid (Below w.heap.size w wy) ∧ Hid (Bx wy w.heap.size kind N Fs V))
  case first =>
    generalize w.alloc (.cells #[.int .i64 kind, .int .i64 N, .string Fs, .string V] 25) = wa at hB0 HBa ⊢
    have HB0 : Hid (Bx wa w.heap.size kind N Fs V) := hB0
    have hd0 : wa.drew.cell? ⟨w.heap.size, 0, none⟩ = some (.int .i64 kind) := hB0.kind
    have hd1 : wa.drew.cell? ⟨w.heap.size, 1, none⟩ = some (.int .i64 N) := hB0.num
    have hd2 : wa.drew.cell? ⟨w.heap.size, 2, none⟩ = some (.string Fs) := hB0.c2
    have hd3 : wa.drew.cell? ⟨w.heap.size, 3, none⟩ = some (.string V) := hB0.c3
    have HFd := HF wa.drew
    have HBd : Hid (Below wa.heap.size wa wa.drew) := below_drewN wa 1
    clear hB0
    go_region_with (first
      | (go_at_call 35; refine HFd.mono ?_; rintro e w2 ⟨rfl, hb⟩; have HB2 : Hid (Below wa.heap.size wa w2) := step_below HBd hb; have hB2 := HB0.out.keep HB2.out; have hf3 : w2.cell? ⟨w.heap.size, 3, none⟩ = some (.string V) := hB2.c3; clear hB2)
      | (go_at_call 24; refine (HC _).mono ?_; rintro e w3 ⟨rfl, rfl⟩))
    all_goals
      go_wp2
      go_meet
      exact ⟨rfl, rfl, _, rfl, HBa.out.trans (HB2.out.mono HBa.out.size), HB0.out.keep HB2.out⟩
  case rest =>
  obtain ⟨rfl, rfl, wx, rfl, HBx, HBk⟩ := hcut
  have hk := HBk.out.kind
  rw [HK.out] at hk
  have hnum := HBk.out.num
  have HPx : Hid (Pm wx B m x E T q es F M) := HP.out.keep HBx.out
  have HPs : Hid (∀ {w2 : World} {gs : List En}, PTo wx w2 B m x E T q gs F M → PTo w w2 B m x E T q gs F M) := fun ht => PTo.trans (Stay.of_below HBx.out _) (fun _ h => .inl h) (fun _ h => .inl h) ht
  clear hB0 HBa HF HC
  have HW := Within_wi N 40 wx (by decide)
  have hK := wi_le N 40
  obtain ⟨K, hKe⟩ : ∃ K, wi N 40 = K := ⟨_, rfl⟩
  have HKw : Hid (wi N 40 = K) := hKe
  rw [hKe] at HW hK
  clear hKe
  go_wp2_with fail
  refine HW.mono ?_
  rintro e w2 ⟨rfl, rfl⟩
  go_wp2
  go_loopg [11, 12, 13] K (fun g iv v12 v13 wr => ∃ (gs : List En) (F1 M1 : List Nat), iv = .int .i64 (g : Nat) ∧ gs.length + g ≤ 50040 ∧ Hid (mset N v K es = mset N v g gs) ∧ Hid (Pm wr B m x E T q gs F1 M1) ∧ Hid (Stay w wr (F ++ M)) ∧ Hid (∀ k ∈ F1, k ∈ F ∨ w.heap.size ≤ k) ∧ Hid (∀ k ∈ M1, k ∈ M ∨ w.heap.size ≤ k) ∧ Hid (Bx wr w.heap.size kind N Fs V) ∧ g ≤ K)
  case atStart => exact ⟨es, F, M, rfl, by omega, (rfl : mset N v K es = mset N v K es), HPx, Stay.of_below HBx.out _, fun _ h => .inl h, fun _ h => .inl h, HBk, Nat.le_refl _⟩
  case round =>
    clear hnum
    obtain ⟨gs, F1, M1, rfl, hg1, HE, HPr, HSt, HF1, HM1, HBr, hgK⟩ := hrel
    have hnum := HBr.out.num
    by_cases h8 : (0 : Int) < gk
    · obtain ⟨i, rfl⟩ : ∃ i, gk = i + 1 := ⟨gk - 1, by omega⟩
      have HE2 : Hid (mset N v K es = mset N v i (putE gs (mkey N (i + 1)) v)) := HE.out
      have hks : (mkey N (i + 1)).size = 3 := mny_size _
      have HS := set_both B m x E T q gs F1 M1 (mkey N (i + 1)) v wr HPr.out (by omega) (by have := HSz.out; omega) (by omega)
      obtain ⟨z, hz⟩ : ∃ z, IntKind.i64.wrap (((i + 1 : Nat) : Int) * N) = z := ⟨_, rfl⟩
      have hz2 : IntKind.i64.wrap (((i : Int) + 1) * N) = z := by rw [← hz]; congr 2
      have hz3 : -600 < z.tmod 600 ∧ z.tmod 600 < 600 := ⟨Int.lt_tmod_of_pos z (by decide), Int.tmod_lt_of_pos z (by decide)⟩
      obtain ⟨y, hy⟩ : ∃ y, z.tmod 600 = y := ⟨_, rfl⟩
      have HMk := fun w => many_any y w (by omega) (by omega)
      have hmk : mny y = mkey N (i + 1) := by unfold mkey; rw [hz, hy]
      rw [hmk] at HMk
      generalize mkey N (i + 1) = kk at HMk HS HE2 hks
      generalize (!hasK gs kk) = t at HS
      clear hmk hz3 HE
      go_wp2_with fail
      refine (HMk _).mono ?_
      rintro e w3 ⟨rfl, rfl⟩
      go_wp2_with fail
      refine HS.mono ?_
      rintro e w4 ⟨rfl, hb4, hst4, hm⟩
      have hBx4 : Bx w4 w.heap.size kind N Fs V := HBr.out.stay HPr.out hst4
      have HM4 := hm w4 (Below.refl _ _)
      have HBx4 : Hid (Bx w4 w.heap.size kind N Fs V) := hBx4
      have hnum4 := hBx4.num
      clear hm hb4 hBx4 hst4
      go_wp2_with fail
      refine (HMk _).mono ?_
      rintro e w5 ⟨rfl, rfl⟩
      go_wp2_with fail
      refine HM4.mono ?_
      rintro e w6 ⟨rfl, hto, -⟩
      obtain ⟨F2, M2, k1, k2, k3, k4⟩ := hto
      have HP6 : Hid (Pm w6 B m x E T q (putE gs kk v) F2 M2) := k1
      have HS6 : Hid (Stay w w6 (F ++ M)) := HSt.out.trans k2 (fun i hi => (List.mem_append.1 hi).elim (fun h => (HF1.out i h).imp (fun h => List.mem_append.2 (.inl h)) id) (fun h => (HM1.out i h).imp (fun h => List.mem_append.2 (.inr h)) id))
      have HF6 : Hid (∀ k ∈ F2, k ∈ F ∨ w.heap.size ≤ k) := fun k hk => (k3 k hk).elim (HF1.out k) (fun h => .inr (Nat.le_trans HSt.out.size h))
      have HM6 : Hid (∀ k ∈ M2, k ∈ M ∨ w.heap.size ≤ k) := fun k hk => (k4 k hk).elim (HM1.out k) (fun h => .inr (Nat.le_trans HSt.out.size h))
      have HB6 : Hid (Bx w6 w.heap.size kind N Fs V) := HBr.out.stay HPr.out k2
      have hlen : (putE gs kk v).length ≤ gs.length + 1 := Dk.putE_len gs kk v
      clear k1 k2 k3 k4
      cases t
      all_goals
        go_wp2
        go_roundg i
        case measure => omega
        case rel => exact ⟨putE gs kk v, F2, M2, by go_num, by omega, HE2, HP6, HS6, HF6, HM6, HB6, by omega⟩
    · obtain rfl : gk = 0 := by omega
      have HE2 : Hid (mset N v K es = gs) := HE.out
      go_wp2
      go_ret
      exact ⟨rfl, by rw [HKw.out, HE2.out]; exact ⟨F1, M1, HPr.out, HSt.out, HF1.out, HM1.out⟩⟩
end Go.Proofs.YtembjlckcgginaaGreat

namespace Go.Proofs.YtembjlckcgginaaGreat
open Go.RowKit Go.PlainAid
open Dk (En Stay hasK putE delE getE keysOf Dct Dg dtag ecells Turn)

set_option maxRecDepth 100000 in
set_option maxHeartbeats 4000000 in
theorem do_get (B m x E T q : Nat) (es : List En) (F M : List Nat) (kind N : Int) (Fs V : ByteArray) (w : World) (h : Pm w B m x E T q es F M) (hl : es.length ≤ 50000) (hkind : kind ≠ 1 ∧ kind ≠ 2 ∧ kind ≠ 4) :
    Calls Tryz.prog 17 #[ptr m, ptr q, .agg #[.int .i64 kind, .int .i64 N, .string Fs, .string V]] w fun e w' => e = .returned (.bool true) ∧ PTo w w' B m x E T q es F M := by
  have HK : Hid (kind ≠ 1 ∧ kind ≠ 2 ∧ kind ≠ 4) := hkind
  clear hkind
  have HP : Hid (Pm w B m x E T q es F M) := h
  have HF := fun w => field_any kind N Fs V w
  have HC := fun w => Cut_any V 80 w (by decide)
  have HSz : Hid ((flE N Fs).size ≤ 80 ∧ (cutB V 80).size ≤ 80) := ⟨flE_size N Fs, cutB_size V⟩
  generalize flE N Fs = f at *
  generalize cutB V 80 = v at *
  clear h
  go_enter Tryz.func17, Tryz.ntmps17
  go_upto_region 1 with fail
  have hB0 : Bx (w.alloc (.cells #[.int .i64 kind, .int .i64 N, .string Fs, .string V] 25)) w.heap.size kind N Fs V := heap_alloc_new w _
  have HBa : Hid (Below w.heap.size w (w.alloc (.cells #[.int .i64 kind, .int .i64 N, .string Fs, .string V] 25))) := alloc_below w _
  go_cut [7, 8] from 17 to 21 (fun u7 u8 wx => u7 = .string f ∧ u8 = .string v ∧ ∃ wy, wy = wx ∧ Hid (Below w.heap.size w wy) ∧ Hid (Bx wy w.heap.size kind N Fs V))
  case first =>
    generalize w.alloc (.cells #[.int .i64 kind, .int .i64 N, .string Fs, .string V] 25) = wa at hB0 HBa ⊢
    have HB0 : Hid (Bx wa w.heap.size kind N Fs V) := hB0
    have hd0 : wa.drew.cell? ⟨w.heap.size, 0, none⟩ = some (.int .i64 kind) := hB0.kind
    have hd1 : wa.drew.cell? ⟨w.heap.size, 1, none⟩ = some (.int .i64 N) := hB0.num
    have hd2 : wa.drew.cell? ⟨w.heap.size, 2, none⟩ = some (.string Fs) := hB0.c2
    have hd3 : wa.drew.cell? ⟨w.heap.size, 3, none⟩ = some (.string V) := hB0.c3
    have HFd := HF wa.drew
    have HBd : Hid (Below wa.heap.size wa wa.drew) := below_drewN wa 1
    clear hB0
    go_region_with (first
      | (go_at_call 35; refine HFd.mono ?_; rintro e w2 ⟨rfl, hb⟩; have HB2 : Hid (Below wa.heap.size wa w2) := step_below HBd hb; have hB2 := HB0.out.keep HB2.out; have hf3 : w2.cell? ⟨w.heap.size, 3, none⟩ = some (.string V) := hB2.c3; clear hB2)
      | (go_at_call 24; refine (HC _).mono ?_; rintro e w3 ⟨rfl, rfl⟩))
    all_goals
      go_wp2
      go_meet
      exact ⟨rfl, rfl, _, rfl, HBa.out.trans (HB2.out.mono HBa.out.size), HB0.out.keep HB2.out⟩
  case rest =>
  obtain ⟨rfl, rfl, wx, rfl, HBx, HBk⟩ := hcut
  have hk := HBk.out.kind
  have hnum := HBk.out.num
  have HPx : Hid (Pm wx B m x E T q es F M) := HP.out.keep HBx.out
  have HPs : Hid (∀ {w2 : World} {gs : List En}, PTo wx w2 B m x E T q gs F M → PTo w w2 B m x E T q gs F M) := fun ht => PTo.trans (Stay.of_below HBx.out _) (fun _ h => .inl h) (fun _ h => .inl h) ht
  clear hB0 HBa HF HC
  have hz1 : (kind == 1) = false := by simpa using HK.out.1
  have hz2 : (kind == 2) = false := by simpa using HK.out.2.1
  have hz4 : (kind == 4) = false := by simpa using HK.out.2.2
  obtain ⟨pk, hs, a, n, c, h1, h2, h3, hMe⟩ := HPx.out
  have hl3 := h3.len
  have HG := GetH B m x E T hs pk F f wx h1 (by have := HSz.out; unfold maxLen; omega)
  rw [Dk.hasK_perm h2, Dk.getE_perm h2 h1.nod] at HG
  have hnd := HPx.out.nod
  have HMd : Hid (Md wx B q E T a n c es pk) := h3
  clear h1 h2 h3 hMe
  by_cases hf : f ∈ keysOf es
  · obtain ⟨l, u, r, e⟩ := Dk.key_split hf
    rw [Dk.hasK_iff.2 hf, Dk.getE_mem hnd (k := f) (v := u) (by rw [e]; simp)] at HG
    have HL : Hid (l.length < n ∧ f ∉ keysOf l) := ⟨by rw [e, List.length_append, List.length_cons] at hl3; omega, by rw [e] at hnd; exact (Dk.not_of_nodup hnd).1⟩
    have HE : Hid (es = l ++ (f, u) :: r) := e
    clear e hf hnd
    go_wp2_with fail
    refine HG.mono ?_
    rintro e w2 ⟨rfl, hb⟩
    have HB2 : Hid (Below wx.heap.size wx w2) := hb
    have hM2 := HMd.out.keep hb
    have hc0 := hM2.c0
    have hrow := OwnQ.cell hM2.row (j := l.length) HL.out.1
    obtain ⟨g, hg, -, hv⟩ := hrow
    have hgd : (es.getD l.length (⟨#[]⟩, ⟨#[]⟩)).2 = u := by rw [HE.out, List.getD_eq_getElem?_getD, List.getElem?_append_right (Nat.le_refl _), Nat.sub_self]; rfl
    rw [hgd] at hv
    rw [hg] at hc0
    have hAt := at_yes B q E T a n c l r u pk f w2 (by rw [← HE.out]; exact hM2) (by omega) HL.out.2
    obtain ⟨i, hi⟩ : ∃ i, l.length = i := ⟨_, rfl⟩
    rw [hi] at hAt hv
    have hin : (i : Int) < n := by have := HL.out.1; omega
    clear hb hM2 hg hgd hi
    go_wp2_with fail
    refine hAt.mono ?_
    rintro e w3 ⟨rfl, rfl⟩
    have HT : Hid (PTo w w3 B m x E T q es F M) := HPs.out (PTo.same HPx.out HB2.out)
    go_wp2
    go_ret
    exact ⟨rfl, HT.out⟩
  · rw [Dk.hasK_no hf, Dk.getE_none hf] at HG
    have HF0 : Hid (f ∉ keysOf es) := hf
    clear hf hnd
    go_wp2_with fail
    refine HG.mono ?_
    rintro e w2 ⟨rfl, hb⟩
    have HB2 : Hid (Below wx.heap.size wx w2) := hb
    have hAt := at_no B q E T a n c es pk f w2 (HMd.out.keep hb) (by omega) HF0.out
    clear hb
    go_wp2_with fail
    refine hAt.mono ?_
    rintro e w3 ⟨rfl, rfl⟩
    have HT : Hid (PTo w w3 B m x E T q es F M) := HPs.out (PTo.same HPx.out HB2.out)
    go_wp2
    go_ret
    exact ⟨rfl, HT.out⟩

theorem do_any (B m x E T q : Nat) (es : List En) (F M : List Nat) (kind N : Int) (Fs V : ByteArray) (w : World) (h : Pm w B m x E T q es F M) (hl : es.length ≤ 50000) :
    Calls Tryz.prog 17 #[ptr m, ptr q, .agg #[.int .i64 kind, .int .i64 N, .string Fs, .string V]] w fun e w' => e = .returned (.bool true) ∧ PTo w w' B m x E T q (stq kind N Fs V es) F M := by
  unfold stq
  split
  · exact do_set B m x E T q es F M kind N Fs V w h hl (by assumption)
  · split
    · exact do_del B m x E T q es F M kind N Fs V w h hl (by assumption)
    · split
      · exact do_many B m x E T q es F M kind N Fs V w h hl (by assumption)
      · exact do_get B m x E T q es F M kind N Fs V w h hl ⟨by assumption, by assumption, by assumption⟩
end Go.Proofs.YtembjlckcgginaaGreat
