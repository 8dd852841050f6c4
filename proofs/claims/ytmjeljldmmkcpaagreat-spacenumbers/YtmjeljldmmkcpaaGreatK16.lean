/- Texts that the others stand on. -/
import Derived.Test.YtmjeljldmmkcpaaGreatK10
import Derived.Test.YtmjeljldmmkcpaaGreatK15
namespace Go.Proofs.YtmjeljldmmkcpaaGreat.Zs.Dk
open Go.Proofs.YtmjeljldmmkcpaaGreat.Dk
open Go.RowKit Go.PlainAid
def dtag (t : TypeId) : Bool := t == 136 || t == 130 || t == 156 || t == 132 || t == 186 || t == 201
theorem Leaf.tags {w : World} {B x : Nat} {f : Lf} (h : Leaf w B x f) : ∀ k ∈ f.fp, ∃ cs t, w.heap[k]? = some (.cells cs t (0, 0)) ∧ dtag t = true := by
 intro k hk
 rcases List.mem_cons.1 hk with rfl | hk
 ·exact ⟨_, _, h.blk, rfl⟩
 rcases List.mem_cons.1 hk with rfl | hk
 ·obtain ⟨-, -, cur, h1⟩ := OwnR.lt h.row (k := f.tb) rfl
  exact ⟨_, _, h1, rfl⟩
 ·obtain ⟨t, ht, hk⟩ := List.mem_flatMap.1 hk
  have hT := h.tab t ht
  simp only [Tb.fp, List.mem_cons, List.not_mem_nil, or_false] at hk
  rcases hk with rfl | rfl
  ·exact ⟨_, _, hT.top.blk, rfl⟩
  ·obtain ⟨cs, h1, -⟩ := hT.row.ex
   exact ⟨_, _, h1, rfl⟩
theorem Dct.tags {w : World} {B d x : Nat} {D : Dg} (h : Dct w B d x D) : ∀ k ∈ D.fp d, ∃ cs t, w.heap[k]? = some (.cells cs t (0, 0)) ∧ dtag t = true := by
 intro k hk
 rcases List.mem_cons.1 hk with rfl | hk
 ·exact ⟨_, _, h.blk, rfl⟩
 rcases List.mem_cons.1 hk with rfl | hk
 ·obtain ⟨-, -, cur, h1⟩ := OwnR.lt h.row (k := D.pb) rfl
  exact ⟨_, _, h1, rfl⟩
 ·obtain ⟨f, hf, hk⟩ := List.mem_flatMap.1 hk
  exact (h.leaf f hf).tags k hk
theorem Dct.mv {w w' : World} {B d x : Nat} {D : Dg} (h : Dct w B d x D) {p : TypeId → Bool} (hm : Mv p w w') (hp : ∀ t, dtag t = true → p t = false) : Dct w' B d x D :=
 h.stay hm.stay (fun k hk => by
  obtain ⟨cs, t, h1, h2⟩ := h.tags k hk
  exact chg_no h1 (hp t h2))
theorem Turn.mv {w w' : World} {B d x : Nat} {D D' : Dg} (h : Turn w w' B d x D D') (hD : Dct w B d x D) : Mv dtag w w' :=
 ⟨h.stay.os, h.stay.tape, h.stay.output, h.stay.size, fun k cs t hk ht => h.stay.block k (Array.getElem?_eq_some_iff.1 hk).1 (fun hm => by
  obtain ⟨cs', t', h1, h2⟩ := hD.tags k hm
  rw [h1] at hk
  simp at hk
  rw [hk.2] at h2
  rw [h2] at ht
  cases ht)⟩
theorem Dct.nodk {w : World} {B d x : Nat} {D : Dg} (h : Dct w B d x D) : (Ae D.es).Nodup := by
 have key : ∀ (M : List Lf), (∀ u ∈ M, u ∈ D.L) → M.Nodup → (Ae (esL M)).Nodup := by
  intro M
  induction M with
  | nil => intro _ _; exact List.nodup_nil
  | cons f M ih =>
   intro hM hn
   rw [List.nodup_cons] at hn
   rw [Ax, Aj, List.nodup_append]
   refine ⟨(h.leaf f (hM f (by simp))).key, ih (fun u hu => hM u (List.mem_cons_of_mem _ hu)) hn.2, ?_⟩
   intro a ha b hb e
   subst e
   obtain ⟨e1, h1, rfl⟩ := List.mem_map.1 ha
   obtain ⟨e2, h2, h3⟩ := List.mem_map.1 hb
   obtain ⟨u, hu, h4⟩ := List.mem_flatMap.1 h2
   have h5 := h.own f (hM f (by simp)) e1 h1
   have h6 := h.own u (hM u (List.mem_cons_of_mem _ hu)) e2 h4
   rw [h3] at h6
   exact hn.1 ((h.same (hM f (by simp)) (hM u (List.mem_cons_of_mem _ hu)) h5 h6) ▸ hu)
 refine key D.L (fun u hu => hu) ?_
 exact h.ord_perm.nodup_iff.1 (by
  have h1 := h.ord_perm
  unfold ordU List.Nodup
  rw [List.pairwise_filterMap]
  refine List.Pairwise.imp ?_ List.nodup_range
  intro i j hij u hu v hv e
  subst e
  have k1 : u.q = i := by simpa using List.find?_some hu
  have k2 : u.q = j := by simpa using List.find?_some hv
  exact hij (k1.symm.trans k2))
def hasK (es : List En) (k : BA) : Bool := es.any fun e => decide (e.1 = k)
theorem hasK_iff {es : List En} {k : BA} : hasK es k = true ↔ k ∈ Ae es := by
 unfold hasK
 rw [List.any_eq_true]
 constructor
 ·rintro ⟨e, he, h⟩
  exact List.mem_map.2 ⟨e, he, of_decide_eq_true h⟩
 ·intro h
  obtain ⟨e, he, h1⟩ := List.mem_map.1 h
  exact ⟨e, he, decide_eq_true h1⟩
theorem hasK_no {es : List En} {k : BA} (h : k ∉ Ae es) : hasK es k = false := by
 cases e : hasK es k with
 | false => rfl
 | true => exact absurd (hasK_iff.1 e) h
def putE (es : List En) (k : BA) (v : Int) : List En := if hasK es k = true then es.map (fun e => if e.1 = k then (k, v) else e) else es ++ [(k, v)]
def getE (es : List En) (k : BA) : Int := ((es.find? fun e => decide (e.1 = k)).map (·.2)).getD 0
theorem not_of_nodup {a c : List En} {k : BA} {u : Int} (hn : (Ae (a ++ (k, u) :: c)).Nodup) : k ∉ Ae a ∧ k ∉ Ae c := by
 rw [Aj] at hn
 replace hn : (Ae a ++ k :: Ae c).Nodup := hn
 rw [List.nodup_append, List.nodup_cons] at hn
 exact ⟨fun h => hn.2.2 k h k (by simp) rfl, hn.2.1.1⟩
theorem map_same {a : List En} {k : BA} {v : Int} (h : k ∉ Ae a) : a.map (fun e => if e.1 = k then (k, v) else e) = a := by
 conv => rhs; rw [← List.map_id a]
 refine List.map_congr_left fun e he => ?_
 rw [if_neg (fun e2 => h (List.mem_map.2 ⟨e, he, e2⟩))]
 rfl
theorem putE_old {a c : List En} {k : BA} {u v : Int} (hn : (Ae (a ++ (k, u) :: c)).Nodup) : putE (a ++ (k, u) :: c) k v = a ++ (k, v) :: c := by
 obtain ⟨h1, h2⟩ := not_of_nodup hn
 unfold putE
 rw [if_pos (hasK_iff.2 (by simp [Ae])), List.map_append, List.map_cons, map_same h1, map_same h2, if_pos rfl]
theorem key_split {es : List En} {k : BA} (h : k ∈ Ae es) : ∃ a u c, es = a ++ (k, u) :: c := by
 obtain ⟨⟨k', u⟩, he, rfl⟩ := List.mem_map.1 h
 obtain ⟨a, c, e⟩ := List.append_of_mem he
 exact ⟨a, u, c, e⟩
theorem getE_mem {es : List En} (hn : (Ae es).Nodup) {k : BA} {v : Int} (h : (k, v) ∈ es) : getE es k = v := by
 unfold getE
 have hs : (es.find? fun e => decide (e.1 = k)).isSome = true := by rw [List.find?_isSome]; exact ⟨_, h, by simp⟩
 obtain ⟨e, he⟩ := Option.isSome_iff_exists.1 hs
 have h1 := List.mem_of_find?_eq_some he
 have h2 : e.1 = k := by simpa using List.find?_some he
 rw [he]
 obtain ⟨k', u⟩ := e
 simp only at h2
 subst h2
 exact val_one hn h1 h
theorem getE_none {es : List En} {k : BA} (h : k ∉ Ae es) : getE es k = 0 := by
 unfold getE
 rw [List.find?_eq_none.2]
 ·rfl
 ·intro e he hd
  exact h (List.mem_map.2 ⟨e, he, by simpa using hd⟩)
theorem PutD (B d x : Nat) (D : Dg) (k : BA) (v : Int) (w : World) (hD : Dct w B d x D) (hks : k.size ≤ maxLen) (hle : D.es.length < 112) :
  Calls Tryz.prog 93 #[ptr d, .string k, .int .u64 v] w fun e w' => e = .returned (.int .i64 0) ∧ ∃ D', Turn w w' B d x D D' ∧ D'.es.Perm (putE D.es k v) := by
 by_cases h : k ∈ Ae D.es
 ·obtain ⟨a, u, c, e⟩ := key_split h
  refine (PutD_old B d x D k u v w hD (by rw [e]; simp)).mono ?_
  rintro en w' ⟨rfl, D', hT, -, -, A, C, e1, e2⟩
  refine ⟨rfl, D', hT, ?_⟩
  have hn := hD.nodk
  rw [e1] at hn ⊢
  rw [putE_old hn, e2]
 ·refine (PutD_new B d x D k v w hD hks h hle).mono ?_
  rintro en w' ⟨rfl, D', hT, -, hp⟩
  refine ⟨rfl, D', hT, ?_⟩
  unfold putE
  rw [if_neg (by rw [hasK_no h]; decide)]
  exact hp
theorem GetD (B d x : Nat) (D : Dg) (k : BA) (w : World) (hD : Dct w B d x D) (hks : k.size ≤ maxLen) :
  Calls Tryz.prog 42 #[ptr d, .string k] w fun e w' => e = .returned (.tuple #[.int .u64 (getE D.es k), .bool (hasK D.es k)]) ∧ Below w.heap.size w w' := by
 by_cases h : k ∈ Ae D.es
 ·obtain ⟨a, u, c, e⟩ := key_split h
  have hm : (k, u) ∈ D.es := by rw [e]; simp
  rw [hasK_iff.2 h, getE_mem hD.nodk hm]
  exact Get_dsome B d x D k u w hD hks hm
 ·rw [hasK_no h, getE_none h]
  exact Get_dnone B d x D k w hD hks h
theorem getE_perm {es fs : List En} (h : es.Perm fs) (hn : (Ae es).Nodup) (k : BA) : getE es k = getE fs k := by
 by_cases hk : k ∈ Ae es
 ·obtain ⟨a, u, c, e⟩ := key_split hk
  have hm : (k, u) ∈ es := by rw [e]; simp
  rw [getE_mem hn hm, getE_mem ((h.map (·.1)).nodup_iff.1 hn) (h.mem_iff.1 hm)]
 ·rw [getE_none hk, getE_none (fun h2 => hk ((h.map (·.1)).mem_iff.2 h2))]
end Go.Proofs.YtmjeljldmmkcpaaGreat.Zs.Dk
namespace Go.Proofs.YtmjeljldmmkcpaaGreat
def rd : Nat → List UInt8 → Option Nat
 | n, [] => some n
 | n, b :: r => if 48 ≤ b.toNat ∧ b.toNat ≤ 57 ∧ n * 10 + (b.toNat - 48) < 18446744073709551616 then rd (n * 10 + (b.toNat - 48)) r else none
def dec (n : Nat) : List UInt8 := if h : n < 10 then [UInt8.ofNat (48 + n)] else dec (n / 10) ++ [UInt8.ofNat (48 + n % 10)]
 termination_by n
 decreasing_by omega
theorem dec_low {n : Nat} (h : n < 10) : dec n = [UInt8.ofNat (48 + n)] := by rw [dec, dif_pos h]
theorem dec_high {n : Nat} (h : ¬ n < 10) : dec n = dec (n / 10) ++ [UInt8.ofNat (48 + n % 10)] := by rw [dec, dif_neg h]
theorem head_append {l r : List UInt8} (h : l ≠ []) : (l ++ r).head? = l.head? := by
 cases l with
 | nil => exact absurd rfl h
 | cons b l => rfl
theorem dec_ne (n : Nat) : dec n ≠ [] := by
 by_cases h : n < 10
 ·rw [dec_low h]; simp
 ·rw [dec_high h]; simp
theorem dec_len (k : Nat) : ∀ n, n < 10 ^ (k + 1) → (dec n).length ≤ k + 1 := by
 induction k with
 | zero => intro n h; rw [dec_low (by simpa using h)]; simp
 | succ k ih =>
  intro n h
  by_cases h1 : n < 10
  ·rw [dec_low h1]; simp
  ·rw [dec_high h1]
   have : n / 10 < 10 ^ (k + 1) := by rw [Nat.div_lt_iff_lt_mul (by omega)]; rw [Nat.pow_succ] at h; exact h
   have := ih _ this
   simp; omega
theorem dec_len20 {n : Nat} (h : n < 18446744073709551616) : (dec n).length ≤ 20 := dec_len 19 n (by omega)
theorem digit_toNat (d : Nat) (h : d < 10) : (UInt8.ofNat (48 + d)).toNat = 48 + d := by
 rw [UInt8.toNat_ofNat']; omega
theorem rd_append (l r : List UInt8) : ∀ n, rd n (l ++ r) = (rd n l).bind fun m => rd m r := by
 induction l with
 | nil => intro n; rfl
 | cons b l ih =>
  intro n
  simp only [List.cons_append, rd]
  split
  ·exact ih _
  ·rfl
theorem rd_digit (n d : Nat) (h : d < 10) (hn : n * 10 + d < 18446744073709551616) : rd n [UInt8.ofNat (48 + d)] = some (n * 10 + d) := by
 simp only [rd, digit_toNat d h]
 rw [if_pos (by omega)]
 congr 1; omega
theorem rd_dec (n : Nat) : n < 18446744073709551616 → rd 0 (dec n) = some n := by
 induction n using Nat.strongRecOn with
 | _ n ih =>
  intro h
  by_cases h1 : n < 10
  ·rw [dec_low h1, rd_digit 0 n h1 (by omega)]; simp
  ·rw [dec_high h1, rd_append, ih (n / 10) (by omega) (by omega)]
   show rd (n / 10) _ = _
   rw [rd_digit _ _ (by omega) (by omega)]
   congr 1; omega
theorem rd_lt (l : List UInt8) : ∀ n m, n < 18446744073709551616 → rd n l = some m → m < 18446744073709551616 := by
 induction l with
 | nil => intro n m h e; cases e; exact h
 | cons b l ih =>
  intro n m h e
  simp only [rd] at e
  split at e
  ·exact ih _ _ (by omega) e
  ·cases e
theorem dec_head (n : Nat) : 0 < n → (dec n).head? ≠ some 48 ∧ (dec n).head? ≠ some 45 := by
 induction n using Nat.strongRecOn with
 | _ n ih =>
  intro h
  by_cases h1 : n < 10
  ·rw [dec_low h1]
   have := digit_toNat n h1
   constructor
   ·intro e; have e' : UInt8.ofNat (48 + n) = 48 := by simpa using e
    rw [e'] at this; have h48 : (48 : UInt8).toNat = 48 := rfl; omega
   ·intro e; have e' : UInt8.ofNat (48 + n) = 45 := by simpa using e
    rw [e'] at this; have h45 : (45 : UInt8).toNat = 45 := rfl; omega
  ·rw [dec_high h1, head_append (dec_ne _)]
   exact ih (n / 10) (by omega) (by omega)
theorem dec_zero : dec 0 = [48] := dec_low (by omega)
theorem dec_of_rd (l : List UInt8) (n : Nat) (hne : l ≠ []) (hz : 1 < l.length → l.head? ≠ some 48) (h : rd 0 l = some n) : l = dec n := by
 induction hk : l.length generalizing l n with
 | zero => exact absurd (List.length_eq_zero_iff.1 hk) hne
 | succ k ih =>
  obtain ⟨l', b, rfl⟩ : ∃ l' b, l = l' ++ [b] := ⟨l.dropLast, l.getLast hne, (List.dropLast_concat_getLast hne).symm⟩
  rw [rd_append] at h
  cases hl : rd 0 l' with
  | none => rw [hl] at h; cases h
  | some m =>
   rw [hl] at h
   have h2 : rd m [b] = some n := h
   simp only [rd] at h2
   split at h2
   ·rename_i hc
    have hn : m * 10 + (b.toNat - 48) = n := Option.some.inj h2
    have hb : UInt8.ofNat (48 + (b.toNat - 48)) = b := by
     rw [show 48 + (b.toNat - 48) = b.toNat by omega]; simp
    by_cases he : l' = []
    ·subst he
     have hm : 0 = m := Option.some.inj hl
     subst hm
     rw [dec_low (by omega), ← hn]
     simp only [Nat.zero_mul, Nat.zero_add]
     rw [hb]; rfl
    ·have hlen : 0 < l'.length := List.length_pos_iff.2 he
     have hh : l'.head? ≠ some 48 := by
      have := hz (by simp; omega)
      rwa [head_append he] at this
     have e := ih l' m he (fun _ => hh) hl (by simp at hk; omega)
     have hm : 0 < m := by
      rcases Nat.eq_zero_or_pos m with h0 | h0
      ·subst h0; rw [e, dec_zero] at hh; exact absurd rfl hh
      ·exact h0
     rw [dec_high (show ¬ n < 10 by omega), show n / 10 = m by omega, ← e, show n % 10 = b.toNat - 48 by omega, hb]
   ·cases h2
def digitsL (l : List UInt8) : Option Nat := if l = [] then none else rd 0 l
def plainL (l : List UInt8) : Option Nat := if 1 < l.length ∧ l.head? = some 48 then none else digitsL l
def fmtL (n : Int) : List UInt8 := if n < 0 then 45 :: dec (-n).toNat else dec n.toNat
def belowL (l : List UInt8) : Option Int := (plainL l).bind fun n => if n = 0 ∨ 9223372036854775808 < n then none else some (-(n : Int))
def B0 (l : List UInt8) : Option Int :=
 if l.head? = some 45 then belowL l.tail else (plainL l).bind fun n => if 9223372036854775807 < n then none else some (n : Int)
theorem plainL_dec {n : Nat} (h : n < 18446744073709551616) : plainL (dec n) = some n := by
 unfold plainL digitsL
 rw [if_neg, if_neg (dec_ne n), rd_dec n h]
 rintro ⟨h1, h2⟩
 rcases Nat.eq_zero_or_pos n with h0 | h0
 ·subst h0; rw [dec_zero] at h1; simp at h1
 ·exact (dec_head n h0).1 h2
theorem plainL_some {l : List UInt8} {n : Nat} (h : plainL l = some n) : l = dec n ∧ n < 18446744073709551616 := by
 unfold plainL digitsL at h
 split at h
 ·cases h
 ·rename_i hz
  split at h
  ·cases h
  ·rename_i hne
   exact ⟨dec_of_rd l n hne (fun h1 h2 => hz ⟨h1, h2⟩) h, rd_lt l 0 n (by omega) h⟩
theorem dec_head45 (n : Nat) : (dec n).head? ≠ some 45 := by
 rcases Nat.eq_zero_or_pos n with h0 | h0
 ·subst h0; rw [dec_zero]; decide
 ·exact (dec_head n h0).2
theorem parseL_fmtL {n : Int} (h1 : -9223372036854775808 ≤ n) (h2 : n < 9223372036854775808) : B0 (fmtL n) = some n := by
 unfold B0 fmtL
 by_cases h : n < 0
 ·rw [if_pos h, if_pos (show (45 :: dec (-n).toNat).head? = some 45 from rfl), List.tail_cons]
  unfold belowL
  rw [plainL_dec (by omega)]
  show (if _ then _ else _) = _
  rw [if_neg (by omega)]
  congr 1; omega
 ·rw [if_neg h, if_neg (dec_head45 _), plainL_dec (by omega)]
  show (if _ then _ else _) = _
  rw [if_neg (by omega)]
  congr 1; omega
theorem parseL_some {l : List UInt8} {n : Int} (h : B0 l = some n) : l = fmtL n ∧ -9223372036854775808 ≤ n ∧ n < 9223372036854775808 := by
  unfold B0 at h
  split at h
  · rename_i h45
    unfold belowL at h
    cases hp : plainL l.tail with
    | none => rw [hp] at h; cases h
    | some m =>
      rw [hp] at h
      have h' : (if m = 0 ∨ 9223372036854775808 < m then none else some (-(m : Int))) = some n := h
      split at h'
      · cases h'
      · have hn : -(m : Int) = n := Option.some.inj h'
        obtain ⟨e, hm⟩ := plainL_some hp
        have hl : l = 45 :: l.tail := by
          cases l with
          | nil => cases h45
          | cons b r => have : b = 45 := by simpa using h45
                        rw [this]; rfl
        refine ⟨?_, by omega, by omega⟩
        unfold fmtL
        rw [if_pos (by omega), hl, e]
        congr 2; omega
  · cases hp : plainL l with
    | none => rw [hp] at h; cases h
    | some m =>
      rw [hp] at h
      have h' : (if 9223372036854775807 < m then none else some (m : Int)) = some n := h
      split at h'
      · cases h'
      · have hn : (m : Int) = n := Option.some.inj h'
        obtain ⟨e, hm⟩ := plainL_some hp
        refine ⟨?_, by omega, by omega⟩
        unfold fmtL
        rw [if_neg (by omega), e]
        congr 1; omega
theorem fmtL_len {n : Int} (h1 : -9223372036854775808 ≤ n) (h2 : n < 9223372036854775808) : (fmtL n).length ≤ 21 := by
 unfold fmtL
 split
 ·have := dec_len20 (n := (-n).toNat) (by omega); simp; omega
 ·have := dec_len20 (n := n.toNat) (by omega); omega
theorem plainL_lt {l : List UInt8} {n : Nat} (h : plainL l = some n) : n < 18446744073709551616 := (plainL_some h).2
def be : Nat → Nat → List UInt8
 | 0, _ => []
 | k + 1, u => UInt8.ofNat (u / 2 ^ (8 * k)) :: be k u
def val (v : Nat) : List UInt8 → Nat
 | [] => v
 | b :: r => val (v * 256 + b.toNat) r
def sgn (u : Nat) : Int := if u < 9223372036854775808 then (u : Int) else (u : Int) - 18446744073709551616
def uns (n : Int) : Nat := (n % 18446744073709551616).toNat
theorem be_len (u : Nat) : ∀ k, (be k u).length = k
 | 0 => rfl
 | k + 1 => by rw [be, List.length_cons, be_len u k]
theorem val_be (u : Nat) : ∀ (k v : Nat), val v (be k u) = v * 2 ^ (8 * k) + u % 2 ^ (8 * k)
 | 0, v => by simp [be, val, Nat.mod_one]
 | k + 1, v => by
  rw [be, val, val_be u k, UInt8.toNat_ofNat']
  have h1 : (2 : Nat) ^ (8 * (k + 1)) = 2 ^ (8 * k) * 256 := by rw [show 8 * (k + 1) = 8 * k + 8 by omega, Nat.pow_add]
  rw [h1, Nat.mod_mul, Nat.add_mul]
  have : v * 256 * 2 ^ (8 * k) = v * (2 ^ (8 * k) * 256) := by rw [Nat.mul_assoc, Nat.mul_comm 256]
  rw [this, Nat.mul_comm (2 ^ (8 * k)) (u / 2 ^ (8 * k) % 256)]
  show v * (2 ^ (8 * k) * 256) + u / 2 ^ (8 * k) % 256 * 2 ^ (8 * k) + u % 2 ^ (8 * k) = _
  omega
theorem val_lt : ∀ (l : List UInt8) (v : Nat), val v l < (v + 1) * 256 ^ l.length
 | [], v => by simp [val]
 | b :: r, v => by
  have h := val_lt r (v * 256 + b.toNat)
  have hb := b.toNat_lt
  rw [val, List.length_cons, Nat.pow_succ]
  have : (v * 256 + b.toNat + 1) * 256 ^ r.length ≤ ((v + 1) * 256) * 256 ^ r.length := Nat.mul_le_mul_right _ (by omega)
  have e : (v + 1) * 256 * 256 ^ r.length = (v + 1) * (256 ^ r.length * 256) := by rw [Nat.mul_assoc, Nat.mul_comm 256]
  omega
theorem val_inj : ∀ (l r : List UInt8) (v w : Nat), l.length = r.length → val v l = val w r → v = w ∧ l = r
 | [], [], v, w, _, h => ⟨h, rfl⟩
 | x :: l, y :: r, v, w, hl, h => by
  obtain ⟨h1, h2⟩ := val_inj l r _ _ (by simpa using hl) h
  have := x.toNat_lt
  have := y.toNat_lt
  have h3 : x.toNat = y.toNat := by omega
  refine ⟨by omega, ?_⟩
  rw [h2, UInt8.toNat_inj.1 h3]
theorem be_val (l : List UInt8) (h : l.length = 8) : be 8 (val 0 l) = l := by
 have h1 := val_be (val 0 l) 8 0
 have h2 := val_lt l 0
 rw [h] at h2
 rw [Nat.mod_eq_of_lt (by simpa using h2)] at h1
 exact (val_inj _ l 0 0 (by rw [be_len, h]) (by omega)).2
theorem sgn_uns {n : Int} (h1 : -9223372036854775808 ≤ n) (h2 : n < 9223372036854775808) : sgn (uns n) = n := by unfold sgn uns; split <;> omega
theorem uns_sgn {u : Nat} (h : u < 18446744073709551616) : uns (sgn u) = u := by unfold sgn uns; split <;> omega
theorem uns_lt (n : Int) : uns n < 18446744073709551616 := by unfold uns; omega
theorem sgn_in {u : Nat} (h : u < 18446744073709551616) : -9223372036854775808 ≤ sgn u ∧ sgn u < 9223372036854775808 := by unfold sgn; split <;> omega
theorem val8_be (n : Int) : val 0 (be 8 (uns n)) = uns n := by
 rw [val_be]; have := uns_lt n; omega
def body (l : List UInt8) : List UInt8 :=
 match B0 l with
 | some n => if 0 ≤ n ∧ n ≤ 127 then [UInt8.ofNat n.toNat] else 241 :: be 8 (uns n)
 | none => if l.length ≤ 63 then UInt8.ofNat (128 + l.length) :: l else 224 :: UInt8.ofNat (l.length / 256) :: UInt8.ofNat l.length :: l
def back (n : Nat) : List UInt8 := if n < 128 then [UInt8.ofNat n] else [UInt8.ofNat (n / 128), UInt8.ofNat (128 + n % 128)]
def enc (l : List UInt8) : List UInt8 := body l ++ back (body l).length
theorem body_small {l : List UInt8} {n : Int} (h : B0 l = some n) (h1 : 0 ≤ n ∧ n ≤ 127) : body l = [UInt8.ofNat n.toNat] := by unfold body; rw [h]; simp only [h1, and_self, if_true]
theorem body_wide {l : List UInt8} {n : Int} (h : B0 l = some n) (h1 : ¬ (0 ≤ n ∧ n ≤ 127)) : body l = 241 :: be 8 (uns n) := by unfold body; rw [h]; simp only [h1, if_false]
theorem body_short {l : List UInt8} (h : B0 l = none) (h1 : l.length ≤ 63) : body l = UInt8.ofNat (128 + l.length) :: l := by unfold body; rw [h]; simp only [h1, if_true]
theorem body_long {l : List UInt8} (h : B0 l = none) (h1 : ¬ l.length ≤ 63) : body l = 224 :: UInt8.ofNat (l.length / 256) :: UInt8.ofNat l.length :: l := by unfold body; rw [h]; simp only [h1, if_false]
theorem body_ways (l : List UInt8) :
  (∃ n, B0 l = some n ∧ (0 ≤ n ∧ n ≤ 127) ∧ body l = [UInt8.ofNat n.toNat]) ∨ (∃ n, B0 l = some n ∧ ¬ (0 ≤ n ∧ n ≤ 127) ∧ body l = 241 :: be 8 (uns n)) ∨
  (B0 l = none ∧ l.length ≤ 63 ∧ body l = UInt8.ofNat (128 + l.length) :: l) ∨ (B0 l = none ∧ ¬ l.length ≤ 63 ∧ body l = 224 :: UInt8.ofNat (l.length / 256) :: UInt8.ofNat l.length :: l) := by
 cases h : B0 l with
 | some n =>
  by_cases h1 : 0 ≤ n ∧ n ≤ 127
  ·exact .inl ⟨n, rfl, h1, body_small h h1⟩
  ·exact .inr (.inl ⟨n, rfl, h1, body_wide h h1⟩)
 | none =>
  by_cases h1 : l.length ≤ 63
  ·exact .inr (.inr (.inl ⟨rfl, h1, body_short h h1⟩))
  ·exact .inr (.inr (.inr ⟨rfl, h1, body_long h h1⟩))
theorem body_len (l : List UInt8) : 1 ≤ (body l).length ∧ (body l).length ≤ l.length + 9 := by
 rcases body_ways l with ⟨n, h, h1, e⟩ | ⟨n, h, h1, e⟩ | ⟨h, h1, e⟩ | ⟨h, h1, e⟩ <;> rw [e]
 ·simp
 ·rw [List.length_cons, be_len]; omega
 ·simp
 ·simp
theorem back_len (n : Nat) : (back n).length = if n < 128 then 1 else 2 := by unfold back; split <;> rfl
theorem enc_len (l : List UInt8) : 2 ≤ (enc l).length ∧ (enc l).length ≤ l.length + 11 := by
 have := body_len l
 have h := back_len (body l).length
 unfold enc
 rw [List.length_append]
 split at h <;> omega
def dtext (b : List UInt8) (h n : Nat) : Option (List UInt8 × Nat) :=
 if b.length < h + n then none else if (B0 ((b.drop h).take n)).isSome then none else some ((b.drop h).take n, h + n)
def dbody (b : List UInt8) : Option (List UInt8 × Nat) :=
 match b with
 | [] => none
 | x :: r =>
  if x.toNat < 128 then some (fmtL x.toNat, 1)
  else if x.toNat = 241 then
   if r.length < 8 then none
   else if 0 ≤ sgn (val 0 (r.take 8)) ∧ sgn (val 0 (r.take 8)) < 128 then none else some (fmtL (sgn (val 0 (r.take 8))), 9)
  else if x.toNat = 224 then
   if r.length < 2 then none
   else if (r.getD 0 0).toNat * 256 + (r.getD 1 0).toNat ≤ 63 ∨ 4096 < (r.getD 0 0).toNat * 256 + (r.getD 1 0).toNat then none
   else dtext b 3 ((r.getD 0 0).toNat * 256 + (r.getD 1 0).toNat)
  else if x.toNat ≤ 191 then dtext b 1 (x.toNat - 128)
  else none
def pre (p l : List UInt8) : Bool := decide (l.take p.length = p)
theorem pre_append (p r : List UInt8) : pre p (p ++ r) = true := by unfold pre; simp
theorem pre_ex {p l : List UInt8} (h : pre p l = true) : ∃ r, l = p ++ r := by
 unfold pre at h
 have h := of_decide_eq_true h
 exact ⟨l.drop p.length, by conv => lhs; rw [← List.take_append_drop p.length l, h]⟩
def dec1 (b : List UInt8) : Option (List UInt8 × Nat) :=
 match dbody b with
 | none => none
 | some (s, k) => if pre (back k) (b.drop k) then some (s, k + (back k).length) else none
theorem B8 (x : UInt8) (r : List UInt8) : dbody (x :: r) =
  if x.toNat < 128 then some (fmtL x.toNat, 1)
  else if x.toNat = 241 then
   if r.length < 8 then none
   else if 0 ≤ sgn (val 0 (r.take 8)) ∧ sgn (val 0 (r.take 8)) < 128 then none else some (fmtL (sgn (val 0 (r.take 8))), 9)
  else if x.toNat = 224 then
   if r.length < 2 then none
   else if (r.getD 0 0).toNat * 256 + (r.getD 1 0).toNat ≤ 63 ∨ 4096 < (r.getD 0 0).toNat * 256 + (r.getD 1 0).toNat then none
   else dtext (x :: r) 3 ((r.getD 0 0).toNat * 256 + (r.getD 1 0).toNat)
  else if x.toNat ≤ 191 then dtext (x :: r) 1 (x.toNat - 128)
  else none := rfl
theorem nat_ofNat {n : Nat} (h : n < 256) : (UInt8.ofNat n).toNat = n := by rw [UInt8.toNat_ofNat']; omega
theorem parse_in {l : List UInt8} {n : Int} (h : B0 l = some n) : l = fmtL n ∧ -9223372036854775808 ≤ n ∧ n < 9223372036854775808 := parseL_some h
theorem dbody_body (l r : List UInt8) (hl : l.length ≤ 4096) : dbody (body l ++ r) = some (l, (body l).length) := by
 rcases body_ways l with ⟨n, h, h1, e⟩ | ⟨n, h, h1, e⟩ | ⟨h, h1, e⟩ | ⟨h, h1, e⟩ <;> rw [e]
 ·obtain ⟨he, -, -⟩ := parse_in h
  have hx : (UInt8.ofNat n.toNat).toNat = n.toNat := nat_ofNat (by omega)
  show (if _ then _ else _) = _
  rw [hx, if_pos (by omega), show ((n.toNat : Nat) : Int) = n by omega, ← he]; rfl
 ·obtain ⟨he, h2, h3⟩ := parse_in h
  have hlen : (be 8 (uns n) ++ r).length = 8 + r.length := by rw [List.length_append, be_len]
  have htk : (be 8 (uns n) ++ r).take 8 = be 8 (uns n) := by
   rw [List.take_append_of_le_length (by rw [be_len]; omega), List.take_of_length_le (by rw [be_len]; omega)]
  rw [List.cons_append, B8]
  rw [if_neg (by decide), if_pos (by decide), if_neg (by rw [hlen]; omega), htk, val8_be, sgn_uns h2 h3, if_neg (by omega), ← he, List.length_cons, be_len]
 ·have hx : (UInt8.ofNat (128 + l.length)).toNat = 128 + l.length := nat_ofNat (by omega)
  show (if _ then _ else if _ then _ else if _ then _ else if _ then dtext (UInt8.ofNat (128 + l.length) :: (l ++ r)) 1 _ else _) = _
  rw [hx, if_neg (by omega), if_neg (by omega), if_neg (by omega), if_pos (by omega), dtext, if_neg (by simp; omega), Nat.add_sub_cancel_left]
  have e2 : ((UInt8.ofNat (128 + l.length) :: (l ++ r)).drop 1).take l.length = l := by simp
  rw [e2, h, List.length_cons, Nat.add_comm]; rfl
 ·have hx : (UInt8.ofNat (l.length / 256)).toNat = l.length / 256 := nat_ofNat (by omega)
  have hy : (UInt8.ofNat l.length).toNat = l.length % 256 := UInt8.toNat_ofNat' ..
  rw [List.cons_append, List.cons_append, List.cons_append, B8, show (UInt8.ofNat (l.length / 256) :: UInt8.ofNat l.length :: (l ++ r)).getD 0 0 = UInt8.ofNat (l.length / 256) from rfl, show (UInt8.ofNat (l.length / 256) :: UInt8.ofNat l.length :: (l ++ r)).getD 1 0 = UInt8.ofNat l.length from rfl]
  rw [if_neg (by decide), if_neg (by decide), if_pos (by decide), if_neg (by simp), hx, hy, show l.length / 256 * 256 + l.length % 256 = l.length by omega, if_neg (by omega), dtext, if_neg (by simp; omega)]
  have e2 : ((224 :: UInt8.ofNat (l.length / 256) :: UInt8.ofNat l.length :: (l ++ r)).drop 3).take l.length = l := by simp
  rw [e2, h]
  simp only [List.length_cons, Option.isSome_none, Bool.false_eq_true, if_false, Nat.add_comm 3]
theorem byte_of {x : UInt8} {n : Nat} (h : x.toNat = n % 256) : x = UInt8.ofNat n := UInt8.toNat_inj.1 (by rw [h, UInt8.toNat_ofNat'])
theorem dtext_some {b s : List UInt8} {h n k : Nat} (hd : dtext b h n = some (s, k)) : B0 s = none ∧ s.length = n ∧ k = h + n ∧ ∃ r, b = b.take h ++ (s ++ r) := by
 unfold dtext at hd
 split at hd
 ·cases hd
 ·rename_i hlen
  split at hd
  ·cases hd
  ·rename_i hp
   have := Option.some.inj hd
   obtain ⟨e1, e2⟩ := Prod.mk.inj this
   subst e1 e2
   refine ⟨by simpa using hp, by rw [List.length_take, List.length_drop]; omega, rfl, (b.drop h).drop n, ?_⟩
   rw [List.take_append_drop, List.take_append_drop]
theorem dbody_some {b s : List UInt8} {k : Nat} (hd : dbody b = some (s, k)) : s.length ≤ 4096 ∧ k = (body s).length ∧ ∃ r, b = body s ++ r := by
 cases b with
 | nil => cases hd
 | cons x r =>
  have hxl := x.toNat_lt
  unfold dbody at hd
  dsimp only at hd
  split at hd
  ·rename_i h1
   obtain ⟨e1, e2⟩ := Prod.mk.inj (Option.some.inj hd)
   subst e1 e2
   have hp : B0 (fmtL x.toNat) = some (x.toNat : Int) := parseL_fmtL (by omega) (by omega)
   have hb := body_small hp (by omega)
   have hx : UInt8.ofNat ((x.toNat : Int)).toNat = x := UInt8.toNat_inj.1 (by rw [UInt8.toNat_ofNat']; omega)
   rw [hx] at hb
   have := fmtL_len (n := (x.toNat : Int)) (by omega) (by omega)
   exact ⟨by omega, by rw [hb]; rfl, r, by rw [hb]; rfl⟩
  ·split at hd
   ·rename_i h1 h2
    split at hd
    ·cases hd
    ·rename_i hlen
     split at hd
     ·cases hd
     ·rename_i hs
      obtain ⟨e1, e2⟩ := Prod.mk.inj (Option.some.inj hd)
      have hl8 : (r.take 8).length = 8 := by rw [List.length_take]; omega
      have hv : val 0 (r.take 8) < 18446744073709551616 := by have := val_lt (r.take 8) 0; rw [hl8] at this; omega
      have hin := sgn_in hv
      have hp := parseL_fmtL hin.1 hin.2
      have hb := body_wide hp (by omega)
      rw [uns_sgn hv, be_val _ hl8] at hb
      subst e1 e2
      have := fmtL_len hin.1 hin.2
      have hx : x = 241 := UInt8.toNat_inj.1 h2
      refine ⟨by omega, by rw [hb, List.length_cons, hl8], r.drop 8, ?_⟩
      rw [hb, List.cons_append, List.take_append_drop, hx]
   ·split at hd
    ·rename_i h1 h2 h3
     split at hd
     ·cases hd
     ·rename_i hlen
      split at hd
      ·cases hd
      ·rename_i hn
       obtain ⟨y, z, r', rfl⟩ : ∃ y z r', r = y :: z :: r' := by
        cases r with
        | nil => exact absurd (show ([] : List UInt8).length < 2 by decide) hlen
        | cons y r1 =>
         cases r1 with
         | nil => exact absurd (show [y].length < 2 from Nat.lt_succ_self 1) hlen
         | cons z r' => exact ⟨y, z, r', rfl⟩
       obtain ⟨h4, h5, h6, q, h7⟩ := dtext_some hd
       have hy := y.toNat_lt
       have hz := z.toNat_lt
       change s.length = y.toNat * 256 + z.toNat at h5
       change ¬ (y.toNat * 256 + z.toNat ≤ 63 ∨ 4096 < y.toNat * 256 + z.toNat) at hn
       change k = 3 + (y.toNat * 256 + z.toNat) at h6
       have hb := body_long h4 (by omega)
       have hx : x = 224 := UInt8.toNat_inj.1 h3
       rw [h5, ← byte_of (x := y) (by omega), ← byte_of (x := z) (by omega), ← hx] at hb
       refine ⟨by omega, by rw [hb]; simp only [List.length_cons]; omega, q, ?_⟩
       rw [hb, h7]; rfl
    ·split at hd
     ·rename_i h1 h2 h3 h4
      obtain ⟨h5, h6, h7, q, h8⟩ := dtext_some hd
      have hb := body_short h5 (by omega)
      rw [h6, show 128 + (x.toNat - 128) = x.toNat by omega, ← byte_of (x := x) (by omega)] at hb
      refine ⟨by omega, by rw [hb, List.length_cons]; omega, q, ?_⟩
      rw [hb, h8]; rfl
     ·cases hd
theorem dec_enc (l r : List UInt8) (hl : l.length ≤ 4096) : dec1 (enc l ++ r) = some (l, (enc l).length) := by
 unfold dec1 enc
 rw [List.append_assoc, dbody_body l _ hl]
 dsimp only
 rw [List.drop_left, pre_append, List.length_append]; rfl
def decAt (b : List UInt8) (at' : Int) : Option (List UInt8 × Nat) :=
 if at' < 0 ∨ (b.length : Int) ≤ at' then none else (dec1 (b.drop at'.toNat)).map fun p => (p.1, at'.toNat + p.2)
def begn (b : List UInt8) : Option Int :=
 if (b.getD (b.length - 1) 0).toNat < 128 then some ((b.length : Int) - 1 - (b.getD (b.length - 1) 0).toNat)
 else if b.length < 2 then none
 else some ((b.length : Int) - 2 - (128 * (b.getD (b.length - 2) 0).toNat + (b.getD (b.length - 1) 0).toNat - 128))
def bkAt (b : List UInt8) (e : Int) : Option Int :=
 if e ≤ 0 ∨ (b.length : Int) < e then none
 else match begn (b.take e.toNat) with
  | none => none
  | some k => match decAt b k with
   | none => none
   | some p => if (p.2 : Int) = e then some k else none
theorem decAt_enc (p l r : List UInt8) (hl : l.length ≤ 4096) : decAt (p ++ (enc l ++ r)) p.length = some (l, p.length + (enc l).length) := by
 have := (enc_len l).1
 unfold decAt
 rw [if_neg (by simp only [List.length_append]; omega), show ((p.length : Int)).toNat = p.length by omega, List.drop_left, dec_enc l r hl]; rfl
theorem begn_enc (p l : List UInt8) (hl : l.length ≤ 4096) : begn (p ++ enc l) = some (p.length : Int) := by
 have hb := body_len l
 obtain ⟨m, hm⟩ : ∃ m, (body l).length = m := ⟨_, rfl⟩
 have he : p ++ enc l = p ++ body l ++ back m := by unfold enc; rw [hm, List.append_assoc]
 have hq : (p ++ body l).length = p.length + m := by rw [List.length_append, hm]
 rw [he]
 generalize p ++ body l = q at hq
 rw [hm] at hb
 unfold back
 split
 ·rename_i h
  have h1 : (q ++ [UInt8.ofNat m]).length = p.length + m + 1 := by simp [hq]
  have h2 : (q ++ [UInt8.ofNat m]).getD (p.length + m) 0 = UInt8.ofNat m := by
   rw [List.getD_eq_getElem?_getD, ← hq, List.getElem?_append_right (Nat.le_refl _), Nat.sub_self]; rfl
  unfold begn
  rw [h1, Nat.add_sub_cancel, h2, nat_ofNat (by omega), if_pos h]
  congr 1; omega
 ·rename_i h
  have h1 : (q ++ [UInt8.ofNat (m / 128), UInt8.ofNat (128 + m % 128)]).length = p.length + m + 2 := by simp [hq]
  have h2 : (q ++ [UInt8.ofNat (m / 128), UInt8.ofNat (128 + m % 128)]).getD (p.length + m + 1) 0 = UInt8.ofNat (128 + m % 128) := by
   rw [List.getD_eq_getElem?_getD, ← hq, List.getElem?_append_right (by omega), Nat.add_sub_cancel_left]; rfl
  have h3 : (q ++ [UInt8.ofNat (m / 128), UInt8.ofNat (128 + m % 128)]).getD (p.length + m) 0 = UInt8.ofNat (m / 128) := by
   rw [List.getD_eq_getElem?_getD, ← hq, List.getElem?_append_right (Nat.le_refl _), Nat.sub_self]; rfl
  unfold begn
  rw [h1, show p.length + m + 2 - 1 = p.length + m + 1 by omega, show p.length + m + 2 - 2 = p.length + m by omega, h2, h3, nat_ofNat (by omega), nat_ofNat (by omega), if_neg (by omega), if_neg (by omega)]
  congr 1; omega
theorem bkAt_enc (p l r : List UInt8) (hl : l.length ≤ 4096) : bkAt (p ++ (enc l ++ r)) ((p.length + (enc l).length : Nat) : Int) = some (p.length : Int) := by
 have := (enc_len l).1
 have h1 : (p ++ (enc l ++ r)).take (p.length + (enc l).length) = p ++ enc l := by
  rw [← List.append_assoc, List.take_append_of_le_length (by rw [List.length_append]; omega), List.take_of_length_le (by rw [List.length_append]; omega)]
 unfold bkAt
 rw [if_neg (by simp only [List.length_append]; omega), show (((p.length + (enc l).length : Nat) : Int)).toNat = p.length + (enc l).length by omega, h1, begn_enc p l hl]
 show (match decAt (p ++ (enc l ++ r)) p.length with | none => none | some q => if (q.2 : Int) = _ then some _ else none) = _
 rw [decAt_enc p l r hl]
 show (if _ then _ else _) = _
 rw [if_pos rfl]
end Go.Proofs.YtmjeljldmmkcpaaGreat
