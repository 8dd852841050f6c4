/-
  HmapSeeds: two hashes, two models, a copy.
-/
import Derived.Test.YtembjlckcgginaaGreatCp
namespace Go.Proofs.YtembjlckcgginaaGreat
open Go.RowKit Go.PlainAid
open Dk (En Stay hasK putE delE getE keysOf Dct Dg dtag ecells Turn)

theorem Pm.apart {w : World} {B C m x E T q m' x' E' T' q' : Nat} {es gs : List En} {F M G N : List Nat} (h : Pm w B m x E T q es F M) (h' : Pm w C m' x' E' T' q' gs G N) : ∀ k ∈ F, k ∉ N := by
  obtain ⟨pk, hs, a, n, c, h1, h2, h3, rfl⟩ := h
  obtain ⟨pk', hs', a', n', c', k1, k2, k3, rfl⟩ := h'
  exact hm_md h1 k3
/-- A hash with its model, and another with its own: they share nothing. -/
def Q2 (w : World) (B m x E T q : Nat) (es : List En) (m' x' E' T' q' : Nat) (gs : List En) : Prop := ∃ F M G N, Pm w B m x E T q es F M ∧ Pm w B m' x' E' T' q' gs G N ∧ (∀ k ∈ F, k ∉ G) ∧ (∀ k ∈ M, k ∉ N)
theorem Q2.symm {w : World} {B m x E T q m' x' E' T' q' : Nat} {es gs : List En} (h : Q2 w B m x E T q es m' x' E' T' q' gs) : Q2 w B m' x' E' T' q' gs m x E T q es := by
  obtain ⟨F, M, G, N, h1, h2, h3, h4⟩ := h
  exact ⟨G, N, F, M, h2, h1, fun k hk hk2 => h3 k hk2 hk, fun k hk hk2 => h4 k hk2 hk⟩
theorem Q2.keep {w wn : World} {B m x E T q m' x' E' T' q' : Nat} {es gs : List En} (h : Q2 w B m x E T q es m' x' E' T' q' gs) (hb : Below w.heap.size w wn) : Q2 wn B m x E T q es m' x' E' T' q' gs := by
  obtain ⟨F, M, G, N, h1, h2, h3, h4⟩ := h
  exact ⟨F, M, G, N, h1.keep hb, h2.keep hb, h3, h4⟩
/-- What is new may be turned. -/
theorem Q2.stay {w wn : World} {B m x E T q m' x' E' T' q' : Nat} {es gs : List En} {S : List Nat} {K : Nat} (h : Q2 w B m x E T q es m' x' E' T' q' gs) (w1 : World) (hb : Below w.heap.size w w1) (hs : Stay w1 wn S) (hS : ∀ k ∈ S, K ≤ k) (hK : w.heap.size ≤ K) : Q2 wn B m x E T q es m' x' E' T' q' gs := by
  obtain ⟨F, M, G, N, h1, h2, h3, h4⟩ := h
  have d1 := h1.dj
  have d2 := h2.dj
  refine ⟨F, M, G, N, (h1.keep hb).stay hs (fun k hk hm => ?_) (fun k hk hm => ?_), (h2.keep hb).stay hs (fun k hk hm => ?_) (fun k hk hm => ?_), h3, h4⟩
  · have := hS k hm; have := (d1.2.1 k hk).2; omega
  · have := hS k hm; have := (d1.2.2.1 k hk).2; omega
  · have := hS k hm; have := (d2.2.1 k hk).2; omega
  · have := hS k hm; have := (d2.2.2.1 k hk).2; omega
theorem Do2 (B m x E T q : Nat) (es : List En) (m' x' E' T' q' : Nat) (gs : List En) (kind N : Int) (Fs V : ByteArray) (w : World) (h : Q2 w B m x E T q es m' x' E' T' q' gs) (hl : es.length ≤ 50000) :
    Calls Tryz.prog 17 #[ptr m, ptr q, .agg #[.int .i64 kind, .int .i64 N, .string Fs, .string V]] w fun e w' => e = .returned (.bool true) ∧ Q2 w' B m x E T q (stq kind N Fs V es) m' x' E' T' q' gs ∧ Below B w w' := by
  obtain ⟨F, M, G, K, h1, h2, h3, h4⟩ := h
  refine (do_any B m x E T q es F M kind N Fs V w h1 hl).mono ?_
  rintro e w' ⟨rfl, hto⟩
  have hb := hto.below h1
  have d2 := h2.dj
  have a1 := h1.apart h2
  have a2 := h2.apart h1
  obtain ⟨F', M', k1, k2, k3, k4⟩ := hto
  refine ⟨rfl, ⟨F', M', G, K, k1, h2.stay k2 (fun k hk hm => ?_) (fun k hk hm => ?_), fun k hk hk2 => ?_, fun k hk hk2 => ?_⟩, hb⟩
  · rcases List.mem_append.1 hm with h | h
    · exact h3 k h hk
    · exact a2 k hk h
  · rcases List.mem_append.1 hm with h | h
    · exact a1 k h hk
    · exact h4 k h hk
  · rcases k3 k hk with h | h
    · exact h3 k h hk2
    · have := (d2.2.1 k hk2).2; omega
  · rcases k4 k hk with h | h
    · exact h4 k h hk2
    · have := (d2.2.2.1 k hk2).2; omega
theorem AllQ (B m x E T q : Nat) (es : List En) (m' x' E' T' q' : Nat) (gs : List En) (w : World) (h : Q2 w B m x E T q es m' x' E' T' q' gs) :
    Calls Tryz.prog 19 #[ptr m] w fun e w' => Below w.heap.size w w' ∧ ∃ d n c fs, e = .returned (.slice d n c) ∧ OwnQ w' w.heap.size d n c fs ∧ fs.Perm es := by
  obtain ⟨F, M, G, K, ⟨pk, hs, a, n, c, h1, h2, h3, -⟩, -⟩ := h
  refine (AllH B m x E T hs pk F w h1).mono ?_
  rintro e w' ⟨hb, d, n, c, fs, rfl, hO, hp⟩
  exact ⟨hb, d, n, c, fs, rfl, hO, hp.trans h2⟩
theorem GetQ (B m x E T q : Nat) (es : List En) (m' x' E' T' q' : Nat) (gs : List En) (k : ByteArray) (w : World) (h : Q2 w B m x E T q es m' x' E' T' q' gs) (hk : k.size ≤ maxLen) :
    Calls Tryz.prog 21 #[ptr m, .string k] w fun e w' => (∃ s, e = .returned (.tuple #[.string s, .bool (hasK es k)])) ∧ Below w.heap.size w w' := by
  obtain ⟨F, M, G, K, ⟨pk, hs, a, n, c, h1, h2, h3, -⟩, -⟩ := h
  refine (GetH B m x E T hs pk F k w h1 hk).mono ?_
  rintro e w' ⟨rfl, hb⟩
  rw [Dk.hasK_perm h2]
  exact ⟨⟨_, rfl⟩, hb⟩
theorem AtQ (B m x E T q : Nat) (es : List En) (m' x' E' T' q' : Nat) (gs : List En) (k : ByteArray) (w : World) (h : Q2 w B m x E T q es m' x' E' T' q' gs) (hl : es.length ≤ 100000) :
    ∃ z : Int, decide (0 ≤ z) = hasK es k ∧ Calls Tryz.prog 22 #[ptr q, .string k] w fun e w' => e = .returned (.int .i64 z) ∧ w' = w := by
  obtain ⟨F, M, G, K, hP, -⟩ := h
  have hnd := hP.nod
  obtain ⟨pk, hs, a, n, c, h1, h2, h3, -⟩ := hP
  have hn := h3.len
  by_cases hf : k ∈ keysOf es
  · obtain ⟨l, u, r, rfl⟩ := Dk.key_split hf
    exact ⟨_, by rw [Dk.hasK_iff.2 hf]; simp, at_yes B q E T a n c l r u pk k w h3 (by omega) (Dk.not_of_nodup hnd).1⟩
  · exact ⟨-1, by rw [Dk.hasK_no hf]; rfl, at_no B q E T a n c es pk k w h3 (by omega) hf⟩
/-- A copy, made beside: as packed as the hash; what is set in it is set in it alone. -/
theorem CopyQ (B m x E T q : Nat) (es : List En) (m' x' E' T' q' : Nat) (gs : List En) (w : World) (h : Q2 w B m x E T q es m' x' E' T' q' gs) (hl : es.length ≤ 100000) :
    Calls Tryz.prog 20 #[ptr m] w fun e w1 => Below w.heap.size w w1 ∧ ∃ mc, e = .returned (ptr mc) ∧ ∃ pk, (Calls Tryz.prog 13 #[ptr mc] w1 fun e w' => e = .returned (.bool pk) ∧ w' = w1) ∧ (Calls Tryz.prog 13 #[ptr m] w1 fun e w' => e = .returned (.bool pk) ∧ w' = w1) ∧
      ∀ k v : ByteArray, k.size ≤ 4096 → v.size ≤ 4096 → Calls Tryz.prog 11 #[ptr mc, .string k, .string v] w1 fun e w2 => (∃ t, e = .returned (.tuple #[.bool t, .int .i64 0])) ∧ Q2 w2 B m x E T q es m' x' E' T' q' gs ∧ Below w.heap.size w w2 := by
  have hQ := h
  obtain ⟨F, M, G, K, ⟨pk, hs, a, n, c, h1, h2, h3, -⟩, -⟩ := h
  refine (CopyH B m x E T hs pk F w h1 (by rw [h2.length_eq]; omega)).mono ?_
  rintro e w1 ⟨hb, mc, F', rfl, hC⟩
  refine ⟨hb, mc, rfl, pk, PackedH _ mc x E T hs pk F' w1 hC, PackedH B m x E T hs pk F w1 (h1.keep hb), fun k v hk hv => ?_⟩
  refine (SetH _ mc x E T hs pk F' k v w1 hC hk hv (by rw [h2.length_eq]; omega)).mono ?_
  rintro e w2 ⟨rfl, hto⟩
  have hb2 := hto.below hC
  obtain ⟨F2, -, k2, -⟩ := hto
  exact ⟨⟨_, rfl⟩, hQ.stay (K := w.heap.size) w1 hb k2 (fun k hk => (hC.tags k hk).1) (Nat.le_refl _), hb.trans hb2⟩

set_option maxRecDepth 100000 in
set_option maxHeartbeats 4000000 in
theorem seeds_any (x y : Nat) (a : Option Addr) (n cap : Nat) (w : World) (hx : x < 18446744073709551616) (hy : y < 18446744073709551616) (ha : RdK w a n) :
    Calls Tryz.prog 5 #[.int .u64 x, .int .u64 y, .slice a n cap] w fun e w' => e = .returned (.bool true) ∧ Below w.heap.size w w' := by
  have HK : Hid (RdK w a n) := ha
  have hmx := ha.max
  unfold maxLen at hmx
  have HN1 := NewH x 2 3 w hx
  have HN2 := fun w => NewH y 500 60 w hy
  rw [show lim 2 512 = 2 from rfl, show lim 3 60 = 3 from rfl] at HN1
  rw [show lim 500 512 = 500 from rfl, show lim 60 60 = 60 from rfl] at HN2
  clear ha
  go_enter Tryz.func5, Tryz.ntmps5
  go_wp2_with fail
  refine HN1.mono ?_
  rintro e w1 ⟨hb, m1, F1, rfl, hH1⟩
  have HB1 : Hid (Below w.heap.size w w1) := hb
  have HH1 : Hid (Hm w1 w.heap.size m1 x 2 3 [] true F1) := hH1
  clear hb hH1 HN1
  go_wp2_with fail
  refine (HN2 _).mono ?_
  rintro e w2 ⟨hb, m2, F2, rfl, hH2⟩
  have HB2 := step_below HB1 hb
  have HP2 : Hid (P2 w2 w.heap.size ⟨m1, x, 2, 3, [], true⟩ ⟨m2, y, 500, 60, [], true⟩) := P2.made (a := ⟨m1, x, 2, 3, [], true⟩) (b := ⟨m2, y, 500, 60, [], true⟩) HH1.out hb hH2
  have hba : Below w2.heap.size w2 (w2.alloc (.cells #[.slice none 0 0, .bool true, .int .i64 2, .int .i64 3] 43)) := alloc_below w2 _
  have hbb : Below (w2.alloc (.cells #[.slice none 0 0, .bool true, .int .i64 2, .int .i64 3] 43)).heap.size (w2.alloc (.cells #[.slice none 0 0, .bool true, .int .i64 2, .int .i64 3] 43)) ((w2.alloc (.cells #[.slice none 0 0, .bool true, .int .i64 2, .int .i64 3] 43)).alloc (.cells #[.slice none 0 0, .bool true, .int .i64 500, .int .i64 60] 43)) := alloc_below _ _
  have hq1 := heap_alloc_new w2 (.cells #[.slice none 0 0, .bool true, .int .i64 2, .int .i64 3] 43)
  have hq2 := heap_alloc_new (w2.alloc (.cells #[.slice none 0 0, .bool true, .int .i64 2, .int .i64 3] 43)) (.cells #[.slice none 0 0, .bool true, .int .i64 500, .int .i64 60] 43)
  have hlt := (Array.getElem?_eq_some_iff.1 hq1).1
  have HQ : Hid (Q2 ((w2.alloc (.cells #[.slice none 0 0, .bool true, .int .i64 2, .int .i64 3] 43)).alloc (.cells #[.slice none 0 0, .bool true, .int .i64 500, .int .i64 60] 43)) w.heap.size m1 x 2 3 w2.heap.size [] m2 y 500 60 (w2.alloc (.cells #[.slice none 0 0, .bool true, .int .i64 2, .int .i64 3] 43)).heap.size []) := by
    obtain ⟨F, G, k1, k2, k3⟩ := HP2.out
    have hbc := hba.trans (hbb.mono hba.size)
    refine ⟨F, mfp w2.heap.size none, G, mfp (w2.alloc (.cells #[.slice none 0 0, .bool true, .int .i64 2, .int .i64 3] 43)).heap.size none, ⟨true, [], none, 0, 0, k1.keep hbc, List.Perm.refl _, ⟨?_, Dk.OwnR.nil _ _ _ _, HB2.out.size⟩, rfl⟩, ⟨true, [], none, 0, 0, k2.keep hbc, List.Perm.refl _, ⟨hq2, Dk.OwnR.nil _ _ _ _, Nat.le_trans HB2.out.size hba.size⟩, rfl⟩, k3, ?_⟩
    · rw [hbb.block _ hlt]; exact hq1
    · intro k hk hk2
      have e1 : k = w2.heap.size := by simpa [mfp] using hk
      have e2 : k = (w2.alloc (.cells #[.slice none 0 0, .bool true, .int .i64 2, .int .i64 3] 43)).heap.size := by simpa [mfp] using hk2
      omega
  have HB3 : Hid (Below w.heap.size w ((w2.alloc (.cells #[.slice none 0 0, .bool true, .int .i64 2, .int .i64 3] 43)).alloc (.cells #[.slice none 0 0, .bool true, .int .i64 500, .int .i64 60] 43))) := step_below (step_below HB2 hba) hbb
  obtain ⟨q2, hq2e⟩ : ∃ q2, (w2.alloc (.cells #[.slice none 0 0, .bool true, .int .i64 2, .int .i64 3] 43)).heap.size = q2 := ⟨_, rfl⟩
  have hq2f : w2.heap.size + 1 = q2 := by rw [← hq2e]; simp
  rw [hq2e] at HQ
  obtain ⟨q1, hq1e⟩ : ∃ q1, w2.heap.size = q1 := ⟨_, rfl⟩
  rw [hq1e] at HQ
  clear hb hH2 HN2 hba hbb hq1 hq2 hlt
  go_wp2
  go_loopg [11] 30 (fun g iv wr => ∃ (i : Nat) (es : List En), i + g = 30 ∧ iv = .int .i64 i ∧ es.length ≤ 40 * i ∧ Hid (Q2 wr w.heap.size m1 x 2 3 q1 es m2 y 500 60 q2 es) ∧ Hid (Below w.heap.size w wr))
  case atStart => exact ⟨0, [], by omega, rfl, Nat.le_refl _, HQ, HB3⟩
  case round =>
    clear HQ HB3 HP2 HB2 HB1 HH1
    obtain ⟨i, es, hi, rfl, hes, HQ, HB⟩ := hrel
    have hend : (i : Int) < n ∧ (i : Int) < 30 ∨ (¬ (i : Int) < n) ∨ (¬ (i : Int) < 30 ∧ (i : Int) < n) := by omega
    rcases hend with ⟨h8, h9⟩ | h8 | ⟨h9, h8⟩
    · obtain ⟨b, off, hab, kind, N, Fs, V, c1, c2, c3, c4⟩ := HK.out.elem i (by omega)
      have HCl : Hid (∀ wq, Below w.heap.size w wq → wq.cell? ⟨b, off + i * 4, none⟩ = some (.int .i64 kind) ∧ wq.cell? ⟨b, off + i * 4 + 1, none⟩ = some (.int .i64 N) ∧ wq.cell? ⟨b, off + i * 4 + 2, none⟩ = some (.string Fs) ∧ wq.cell? ⟨b, off + i * 4 + 3, none⟩ = some (.string V)) := fun wq hq =>
        ⟨by rw [hq.cell (p := ⟨b, _, none⟩) (World.block_lt_of_cell? _ _ c1)]; exact c1, by rw [hq.cell (p := ⟨b, _, none⟩) (World.block_lt_of_cell? _ _ c2)]; exact c2, by rw [hq.cell (p := ⟨b, _, none⟩) (World.block_lt_of_cell? _ _ c3)]; exact c3, by rw [hq.cell (p := ⟨b, _, none⟩) (World.block_lt_of_cell? _ _ c4)]; exact c4⟩
      clear c1 c2 c3 c4
      obtain ⟨c1, c2, c3, c4⟩ := HCl.out wr HB.out
      have HD := Do2 w.heap.size m1 x 2 3 q1 es m2 y 500 60 q2 es kind N Fs V wr HQ.out (by omega)
      have hln := stq_len kind N Fs V es
      have HD2 := fun w' (h : Q2 w' w.heap.size m1 x 2 3 q1 (stq kind N Fs V es) m2 y 500 60 q2 es) => Do2 w.heap.size m2 y 500 60 q2 es m1 x 2 3 q1 (stq kind N Fs V es) kind N Fs V w' h.symm (by omega)
      have HLn : Hid ((stq kind N Fs V es).length ≤ 1240) := by show _ ≤ _; omega
      have hln2 : (stq kind N Fs V es).length ≤ 40 * (i + 1) := by omega
      generalize stq kind N Fs V es = es' at HD HD2 HLn hln2
      clear hln
      subst hab
      go_wp2_with fail
      refine HD.mono ?_
      rintro e w3 ⟨rfl, hq, hb⟩
      have HB4 : Hid (Below w.heap.size w w3) := HB.out.trans hb
      have hD2 := HD2 w3 hq
      obtain ⟨d1, d2, d3, d4⟩ := HCl.out w3 HB4.out
      clear hq hb HD HD2
      go_wp2_with fail
      refine hD2.mono ?_
      rintro e w4 ⟨rfl, hq, hb⟩
      have HB5 : Hid (Below w.heap.size w w4) := HB4.out.trans hb
      have HQ5 : Hid (Q2 w4 w.heap.size m1 x 2 3 q1 es' m2 y 500 60 q2 es') := hq.symm
      clear hq hb hD2
      have hA := AllQ _ _ _ _ _ _ _ _ _ _ _ _ _ w4 HQ5.out
      go_wp2_with fail
      refine hA.mono ?_
      rintro e war ⟨hb, da, na, ca, fs, rfl, hOa, hpa⟩
      have HBAr := step_below HB5 hb
      have HOa : Hid (OwnQ war w.heap.size da na ca fs ∧ fs.Perm es') := ⟨Dk.OwnR.low hOa HB5.out.size, hpa⟩
      have HQAr : Hid (Q2 war w.heap.size m1 x 2 3 q1 es' m2 y 500 60 q2 es') := HQ5.out.keep hb
      have hC := AllQ _ _ _ _ _ _ _ _ _ _ _ _ _ war HQAr.out.symm
      clear hb hOa hpa hA
      go_wp2_with fail
      refine hC.mono ?_
      rintro e wbr ⟨hb, db, nb, cb, gs, rfl, hOb, hpb⟩
      have HBBr := step_below HBAr hb
      have HQBr : Hid (Q2 wbr w.heap.size m1 x 2 3 q1 es' m2 y 500 60 q2 es') := HQAr.out.keep hb
      have hna : fs.length = na := OwnQ.len HOa.out.1
      have hnb : gs.length = nb := OwnQ.len hOb
      have hpp : fs.Perm gs := HOa.out.2.trans hpb.symm
      have hnab : na = nb := by have := hpp.length_eq; omega
      subst hnab
      have hPr := Pairs_same w.heap.size w.heap.size da db na ca cb fs gs wbr (HOa.out.1.keep hb) (Dk.OwnR.low hOb HBAr.out.size) hpp (by have := HOa.out.2.length_eq; have := HLn.out; omega)
      clear hb hOb hpb hpp hna hnb hC
      go_wp2_with fail
      refine hPr.mono ?_
      rintro e wcr ⟨rfl, hb⟩
      have HBCr := step_below HBBr hb
      have HQCr : Hid (Q2 wcr w.heap.size m1 x 2 3 q1 es' m2 y 500 60 q2 es') := HQBr.out.keep hb
      clear hb hPr
      go_wp2
      go_roundg (gk - 1)
      case measure => omega
      case rel => exact ⟨i + 1, es', by omega, by go_num, hln2, HQCr, HBCr⟩
    · have HLn : Hid (es.length ≤ 1240) := by show _ ≤ _; omega
      have HCp := CopyQ w.heap.size m1 x 2 3 q1 es m2 y 500 60 q2 es wr HQ.out (by omega)
      go_wp2_with fail
      refine HCp.mono ?_
      rintro e w3 ⟨hb, mc, rfl, pk, hP1, hP2, hSet⟩
      have HB3 := step_below HB hb
      have hS := hSet ⟨#[111, 110, 108, 121, 32, 104, 101, 114, 101]⟩ ⟨#[49]⟩ (by decide) (by decide)
      have HLt : Hid (w.heap.size ≤ wr.heap.size) := HB.out.size
      clear hb hSet HCp
      go_wp2_with fail
      refine hP1.mono ?_
      rintro e w4 ⟨rfl, rfl⟩
      go_wp2_with fail
      refine hP2.mono ?_
      rintro e w4 ⟨rfl, rfl⟩
      cases pk
      all_goals
        go_wp2_with fail
        refine hS.mono ?_
        rintro e w5 ⟨⟨t, rfl⟩, hq5, hb5⟩
        have HB5 : Hid (Below w.heap.size w w5) := step_below HB hb5
        have HQ5 : Hid (Q2 w5 w.heap.size m1 x 2 3 q1 es m2 y 500 60 q2 es) := hq5
        have hG := GetQ _ _ _ _ _ _ _ _ _ _ _ _ _ ⟨#[111, 110, 108, 121, 32, 104, 101, 114, 101]⟩ w5 hq5 (by decide)
        clear hq5 hb5 hS hP1 hP2
        go_wp2_with fail
        refine hG.mono ?_
        rintro e w6 ⟨⟨sv, rfl⟩, hb⟩
        have HB6 := step_below HB5 hb
        have HQ6 : Hid (Q2 w6 w.heap.size m1 x 2 3 q1 es m2 y 500 60 q2 es) := HQ5.out.keep hb
        obtain ⟨z, hz, hAt⟩ := AtQ _ _ _ _ _ _ _ _ _ _ _ _ _ ⟨#[111, 110, 108, 121, 32, 104, 101, 114, 101]⟩ w6 HQ6.out (by have := HLn.out; omega)
        generalize hasK es ⟨#[111, 110, 108, 121, 32, 104, 101, 114, 101]⟩ = tt at hz
        clear hb hG
        go_wp2_with fail
        refine hAt.mono ?_
        rintro e w7 ⟨rfl, rfl⟩
        have hz2 : (tt == decide (0 ≤ z)) = true := by rw [hz]; simp
        have hA := AllQ _ _ _ _ _ _ _ _ _ _ _ _ _ w7 HQ6.out
        go_wp2_with fail
        refine hA.mono ?_
        rintro e wat ⟨hb, da, na, ca, fs, rfl, hOa, hpa⟩
        have HBAt := step_below HB6 hb
        have HOa : Hid (OwnQ wat w.heap.size da na ca fs ∧ fs.Perm es) := ⟨Dk.OwnR.low hOa HB6.out.size, hpa⟩
        have HQAt : Hid (Q2 wat w.heap.size m1 x 2 3 q1 es m2 y 500 60 q2 es) := HQ6.out.keep hb
        have hC := AllQ _ _ _ _ _ _ _ _ _ _ _ _ _ wat HQAt.out.symm
        clear hb hOa hpa hA
        go_wp2_with fail
        refine hC.mono ?_
        rintro e wbt ⟨hb, db, nb, cb, gs, rfl, hOb, hpb⟩
        have HBBt := step_below HBAt hb
        have HQBt : Hid (Q2 wbt w.heap.size m1 x 2 3 q1 es m2 y 500 60 q2 es) := HQAt.out.keep hb
        have hna : fs.length = na := OwnQ.len HOa.out.1
        have hnb : gs.length = nb := OwnQ.len hOb
        have hpp : fs.Perm gs := HOa.out.2.trans hpb.symm
        have hnab : na = nb := by have := hpp.length_eq; omega
        subst hnab
        have hPr := Pairs_same w.heap.size w.heap.size da db na ca cb fs gs wbt (HOa.out.1.keep hb) (Dk.OwnR.low hOb HBAt.out.size) hpp (by have := HOa.out.2.length_eq; have := HLn.out; omega)
        clear hb hOb hpb hpp hna hnb hC
        go_wp2_with fail
        refine hPr.mono ?_
        rintro e wct ⟨rfl, hb⟩
        have HBCt := step_below HBBt hb
        have HQCt : Hid (Q2 wct w.heap.size m1 x 2 3 q1 es m2 y 500 60 q2 es) := HQBt.out.keep hb
        clear hb hPr
        go_wp2_with fail
        refine (known_any _).mono ?_
        rintro e w9 ⟨rfl, hb⟩
        have HB9 := step_below HBCt hb
        clear hb
        go_wp2
        go_ret
        exact ⟨rfl, HB9.out⟩
    · have HLn : Hid (es.length ≤ 1240) := by show _ ≤ _; omega
      have HCp := CopyQ w.heap.size m1 x 2 3 q1 es m2 y 500 60 q2 es wr HQ.out (by omega)
      go_wp2_with fail
      refine HCp.mono ?_
      rintro e w3 ⟨hb, mc, rfl, pk, hP1, hP2, hSet⟩
      have HB3 := step_below HB hb
      have hS := hSet ⟨#[111, 110, 108, 121, 32, 104, 101, 114, 101]⟩ ⟨#[49]⟩ (by decide) (by decide)
      have HLt : Hid (w.heap.size ≤ wr.heap.size) := HB.out.size
      clear hb hSet HCp
      go_wp2_with fail
      refine hP1.mono ?_
      rintro e w4 ⟨rfl, rfl⟩
      go_wp2_with fail
      refine hP2.mono ?_
      rintro e w4 ⟨rfl, rfl⟩
      cases pk
      all_goals
        go_wp2_with fail
        refine hS.mono ?_
        rintro e w5 ⟨⟨t, rfl⟩, hq5, hb5⟩
        have HB5 : Hid (Below w.heap.size w w5) := step_below HB hb5
        have HQ5 : Hid (Q2 w5 w.heap.size m1 x 2 3 q1 es m2 y 500 60 q2 es) := hq5
        have hG := GetQ _ _ _ _ _ _ _ _ _ _ _ _ _ ⟨#[111, 110, 108, 121, 32, 104, 101, 114, 101]⟩ w5 hq5 (by decide)
        clear hq5 hb5 hS hP1 hP2
        go_wp2_with fail
        refine hG.mono ?_
        rintro e w6 ⟨⟨sv, rfl⟩, hb⟩
        have HB6 := step_below HB5 hb
        have HQ6 : Hid (Q2 w6 w.heap.size m1 x 2 3 q1 es m2 y 500 60 q2 es) := HQ5.out.keep hb
        obtain ⟨z, hz, hAt⟩ := AtQ _ _ _ _ _ _ _ _ _ _ _ _ _ ⟨#[111, 110, 108, 121, 32, 104, 101, 114, 101]⟩ w6 HQ6.out (by have := HLn.out; omega)
        generalize hasK es ⟨#[111, 110, 108, 121, 32, 104, 101, 114, 101]⟩ = tt at hz
        clear hb hG
        go_wp2_with fail
        refine hAt.mono ?_
        rintro e w7 ⟨rfl, rfl⟩
        have hz2 : (tt == decide (0 ≤ z)) = true := by rw [hz]; simp
        have hA := AllQ _ _ _ _ _ _ _ _ _ _ _ _ _ w7 HQ6.out
        go_wp2_with fail
        refine hA.mono ?_
        rintro e wat ⟨hb, da, na, ca, fs, rfl, hOa, hpa⟩
        have HBAt := step_below HB6 hb
        have HOa : Hid (OwnQ wat w.heap.size da na ca fs ∧ fs.Perm es) := ⟨Dk.OwnR.low hOa HB6.out.size, hpa⟩
        have HQAt : Hid (Q2 wat w.heap.size m1 x 2 3 q1 es m2 y 500 60 q2 es) := HQ6.out.keep hb
        have hC := AllQ _ _ _ _ _ _ _ _ _ _ _ _ _ wat HQAt.out.symm
        clear hb hOa hpa hA
        go_wp2_with fail
        refine hC.mono ?_
        rintro e wbt ⟨hb, db, nb, cb, gs, rfl, hOb, hpb⟩
        have HBBt := step_below HBAt hb
        have HQBt : Hid (Q2 wbt w.heap.size m1 x 2 3 q1 es m2 y 500 60 q2 es) := HQAt.out.keep hb
        have hna : fs.length = na := OwnQ.len HOa.out.1
        have hnb : gs.length = nb := OwnQ.len hOb
        have hpp : fs.Perm gs := HOa.out.2.trans hpb.symm
        have hnab : na = nb := by have := hpp.length_eq; omega
        subst hnab
        have hPr := Pairs_same w.heap.size w.heap.size da db na ca cb fs gs wbt (HOa.out.1.keep hb) (Dk.OwnR.low hOb HBAt.out.size) hpp (by have := HOa.out.2.length_eq; have := HLn.out; omega)
        clear hb hOb hpb hpp hna hnb hC
        go_wp2_with fail
        refine hPr.mono ?_
        rintro e wct ⟨rfl, hb⟩
        have HBCt := step_below HBBt hb
        have HQCt : Hid (Q2 wct w.heap.size m1 x 2 3 q1 es m2 y 500 60 q2 es) := HQBt.out.keep hb
        clear hb hPr
        go_wp2_with fail
        refine (known_any _).mono ?_
        rintro e w9 ⟨rfl, hb⟩
        have HB9 := step_below HBCt hb
        clear hb
        go_wp2
        go_ret
        exact ⟨rfl, HB9.out⟩
end Go.Proofs.YtembjlckcgginaaGreat
