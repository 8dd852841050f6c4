/-
  span, drop, dropLeft, dropRight, Trim, PopLeft, PopRight.
-/
import Derived.Test.YtemiajjjhhofaabQpush
namespace Go.Proofs.Ytemiajjjhhofaab
open Go.RowKit Go.PlainAid

def fs (n : Nat) (i : Int) : Int := if i < 0 then i + n else i
def spA (n : Nat) (a : Int) : Int := max (fs n a) 0
def spB (n : Nat) (b : Int) : Int := min (fs n b) ((n : Int) - 1)
/-- Where the span from a to b begins and ends. -/
def spF (n : Nat) (a b : Int) : Nat := if spB n b < spA n a then 0 else (spA n a).toNat
def spT (n : Nat) (a b : Int) : Nat := if spB n b < spA n a then 0 else (spB n b + 1).toNat
abbrev I64 (i : Int) : Prop := -9223372036854775808 ≤ i ∧ i ≤ 9223372036854775807
theorem sp_le (n : Nat) (a b : Int) : spF n a b ≤ spT n a b ∧ spT n a b ≤ n := by
  unfold spF spT
  split
  · omega
  · have : 0 ≤ spA n a := by unfold spA; omega
    have : spB n b ≤ (n : Int) - 1 := by unfold spB; omega
    omega

set_option maxRecDepth 100000 in
theorem span_any (n : Nat) (a b : Int) (w : World) (ha : I64 a) (hb : I64 b) (hn : n ≤ 1000000) :
    Calls Try.prog 59 #[.int .i64 n, .int .i64 a, .int .i64 b] w fun e w' => e = .returned (.tuple #[.int .i64 (spF n a b : Nat), .int .i64 (spT n a b : Nat)]) ∧ w' = w := by
  have HF : Hid (spF n a b = if spB n b < spA n a then 0 else (spA n a).toNat) := rfl
  have HT : Hid (spT n a b = if spB n b < spA n a then 0 else (spB n b + 1).toNat) := rfl
  have hA : max (fs n a) 0 = spA n a := rfl
  have hB : min (fs n b) ((n : Int) - 1) = spB n b := rfl
  have hX : (a < 0 ∧ fs n a = a + n) ∨ (0 ≤ a ∧ fs n a = a) := by unfold fs; split <;> omega
  have hY : (b < 0 ∧ fs n b = b + n) ∨ (0 ≤ b ∧ fs n b = b) := by unfold fs; split <;> omega
  generalize fs n a = X at *
  generalize fs n b = Y at *
  generalize spA n a = A at *
  generalize spB n b = B at *
  have hA' : (X < 0 ∧ A = 0) ∨ (0 ≤ X ∧ A = X) := by omega
  have hB' : ((n : Int) - 1 < Y ∧ B = n - 1) ∨ (Y ≤ (n : Int) - 1 ∧ B = Y) := by omega
  have hn0 : IntKind.i64.wrap ((n : Int) - 1) = (n : Int) - 1 := by rw [IntKind.wrap_i64]; omega
  clear hA hB
  by_cases h : B < A
  · rw [if_pos h] at HF HT
    rcases hX with ⟨h1, rfl⟩ | ⟨h1, rfl⟩ <;> rcases hY with ⟨h2, rfl⟩ | ⟨h2, rfl⟩ <;> rcases hA' with ⟨h3, rfl⟩ | ⟨h3, rfl⟩ <;> rcases hB' with ⟨h4, rfl⟩ | ⟨h4, rfl⟩ <;> first
    | (exfalso; omega)
    | (go_enter Try.func59, Try.ntmps59
       go_wp2
       go_ret2
       exact ⟨by rw [HF.out, HT.out]; rfl, rfl⟩)
  · rw [if_neg h] at HF HT
    obtain ⟨x, hx⟩ : ∃ x : Nat, A = x := ⟨A.toNat, by omega⟩
    obtain ⟨y, hy⟩ : ∃ y : Nat, B + 1 = y := ⟨(B + 1).toNat, by omega⟩
    have hFx : spF n a b = x := by rw [HF.out, hx]; rfl
    have hTy : spT n a b = y := by rw [HT.out, hy]; rfl
    rw [hFx, hTy]
    clear HF HT hFx hTy
    rcases hX with ⟨h1, rfl⟩ | ⟨h1, rfl⟩ <;> rcases hY with ⟨h2, rfl⟩ | ⟨h2, rfl⟩ <;> rcases hA' with ⟨h3, rfl⟩ | ⟨h3, rfl⟩ <;> rcases hB' with ⟨h4, rfl⟩ | ⟨h4, rfl⟩ <;> first
    | (exfalso; omega)
    | (go_enter Try.func59, Try.ntmps59
       go_wp2
       go_ret2
       first | exact ⟨rfl, rfl⟩ | (refine ⟨?_, rfl⟩; rw [← hx, ← hy]; rfl))

theorem fit_mid (l1 l2 : List Nd) (ns : List Nd) (h : ns = l1 ++ l2) : txN ns = txN l1 ++ txN l2 := by rw [h, txN_append]

set_option maxRecDepth 100000 in
set_option maxHeartbeats 400000 in
theorem drop_any (B l R most cnt : Nat) (l1 l2 : List Nd) (d : Nd) (i : Nat) (N : Int) (g : Nat) (w : World) (h : Lst w B l R most cnt (l1 ++ d :: l2)) (hok : Ok most (l1 ++ d :: l2)) (hi : i < d.ls.length) (hg : gone d.ls i N = g) :
    Calls Try.prog 78 #[ptr d.a, .int .i64 i, .int .i64 N] w fun e w' => e = .returned (.int .i64 (g : Nat)) ∧ Does w B l R most cnt (l1 ++ d :: l2) (txN l1 ++ ((d.ls.take i ++ d.ls.drop (i + g)) ++ txN l2)) w' := by
  have HD := Delete_nd B l R most cnt l1 l2 d i N w h hi
  rw [hg] at HD
  have hcp := h.cpk (d := d) (by simp)
  have HOk : Hid (Ok most (l1 ++ d :: l2)) := hok
  clear h hok hi hg
  go_enter Try.func78, Try.ntmps78
  go_wp2_with fail
  refine HD.mono ?_
  rintro e w1 ⟨rfl, d', e1, e2, e3, e4, h4, h5⟩
  have hcp1 : w1.cell? ⟨d.a, 0, none⟩ = some (ptr d.p) := by rw [← e1, ← e2]; exact h4.cpk (by simp)
  have HLen := Len_any B d'.p d'.r d'.n d'.c d'.ls w1 (h4.nod d' (by simp)).pk
  rw [e2] at HLen
  have HL1 : Hid (Lst w1 B l R most cnt (l1 ++ d' :: l2)) := h4
  have HG1 : Hid (Goes w w1 l R (l1 ++ d :: l2) (l1 ++ d' :: l2)) := h5
  have HE : Hid (d'.a = d.a ∧ d'.ls = d.ls.take i ++ d.ls.drop (i + g)) := ⟨e1, e3⟩
  by_cases h0 : d'.ls.length = 0
  · rw [h0] at HLen
    have HU := unlink_any B l R most cnt l1 l2 d' w1 h4
    rw [e1] at HU
    have HN : Hid (d.ls.take i ++ d.ls.drop (i + g) = []) := by rw [← e3]; exact List.length_eq_zero_iff.1 h0
    clear h4 h5 HD e1 e2 e3 e4 h0
    go_wp2_with fail
    refine HLen.mono ?_
    rintro e w1 ⟨rfl, rfl⟩
    go_wp2_with fail
    refine HU.mono ?_
    rintro e w2 ⟨rfl, h6, h7, -, -⟩
    have HF : Hid (Does w B l R most cnt (l1 ++ d :: l2) (txN l1 ++ ((d.ls.take i ++ d.ls.drop (i + g)) ++ txN l2)) w2) := by
      refine ⟨_, h6, HG1.out.trans h7, HOk.out.less, ?_⟩
      rw [HN.out, txN_append]; rfl
    clear h6 h7 HU HLen
    go_wp2
    go_ret
    exact ⟨rfl, HF.out⟩
  · have HF : Hid (Does w B l R most cnt (l1 ++ d :: l2) (txN l1 ++ ((d.ls.take i ++ d.ls.drop (i + g)) ++ txN l2)) w1) := by
      refine ⟨_, h4, h5, HOk.out.mid ⟨by omega, ?_⟩, ?_⟩
      · have := (HOk.out d (by simp)).2
        rw [e3]
        simp only [List.length_append, List.length_take, List.length_drop]
        omega
      · rw [txN_append, txN_cons, e3]
    have h01 : ¬ ((d'.ls.length : Int) = 0) := by omega
    obtain ⟨q, hq⟩ : ∃ q, d'.ls.length = q := ⟨_, rfl⟩
    rw [hq] at HLen h01
    clear h4 h5 HD e1 e2 e3 e4 h0 hq
    go_wp2_with fail
    refine HLen.mono ?_
    rintro e w1 ⟨rfl, rfl⟩
    go_wp2
    go_ret
    exact ⟨rfl, HF.out⟩

set_option maxRecDepth 100000 in
set_option maxHeartbeats 400000 in
theorem dropLeft_any (B l R most cnt : Nat) (ns : List Nd) (many : Nat) (w : World) (h : Lst w B l R most cnt ns) (hok : Ok most ns) (hT : (txN ns).length = cnt) (hcnt : cnt ≤ 1000000) (hm : many ≤ cnt) :
    Calls Try.prog 62 #[ptr l, .int .i64 many] w fun e w' => e = .returned (.tuple #[]) ∧ Does w B l R most (cnt - many) ns ((txN ns).drop many) w' := by
  have hc := h.ccnt
  have hf := h.frozen 1
  obtain ⟨h6, h7⟩ := h.count (cnt - many)
  obtain ⟨q, hq⟩ : ∃ q, cnt - many = q := ⟨_, rfl⟩
  rw [hq] at h6 h7 ⊢
  have hqi : (cnt : Int) - (many : Int) = q := by omega
  have HD0 : Hid (Does w B l R most q ns ((txN ns).drop 0) (w.setCell ⟨l, 1, none⟩ (.int .i64 (q : Nat)))) := ⟨ns, h6, h7, hok, by simp⟩
  have HT : Hid ((txN ns).length = cnt) := hT
  clear h hok h6 h7 hT hq
  go_enter Try.func62, Try.ntmps62
  go_wp2
  go_loopg [1, 4] many (fun g mv nv wr => ∃ k m : Nat, Hid (m = g) ∧ k + m = many ∧ mv = .int .i64 m ∧ Hid (Does w B l R most q ns ((txN ns).drop k) wr))
  case atStart => exact ⟨0, many, rfl, by omega, rfl, HD0⟩
  case round =>
    obtain ⟨k, m, HMG, hkm, rfl, HD⟩ := hrel
    by_cases h0 : 0 < m
    · obtain ⟨ns1, hL1, hG1, hO1, hT1⟩ := HD.out
      have hlen : (txN ns1).length = cnt - k := by rw [hT1, List.length_drop, HT.out]
      cases ns1 with
      | nil => rw [txN_nil] at hlen; simp at hlen; omega
      | cons d r =>
        have hcr := hL1.cring
        have hg : wr.cell? ⟨R, 2, none⟩ = some (ptr d.a) := (Lst.gap (l1 := []) (l2 := d :: r) hL1).1
        have hd0 := (hO1 d (by simp)).1
        obtain ⟨g, hgg⟩ : ∃ g, gone d.ls 0 (m : Int) = g := ⟨_, rfl⟩
        have hgle : g ≤ m ∧ 0 < g ∧ g ≤ d.ls.length := by unfold gone at hgg; omega
        have HDr := drop_any B l R most q [] r d 0 m g wr hL1 hO1 hd0 hgg
        have HG1 : Hid (Goes w wr l R ns (d :: r)) := hG1
        have HE : Hid (txN [] ++ ((d.ls.take 0 ++ d.ls.drop (0 + g)) ++ txN r) = (txN ns).drop (k + g)) := by
          show _ = _
          rw [txN_nil, List.nil_append, List.take_zero, List.nil_append, Nat.zero_add, ← List.drop_drop, ← hT1, txN_cons, List.drop_append_of_le_length hgle.2.2]
        obtain ⟨y, hy⟩ : ∃ y, m - g = y := ⟨_, rfl⟩
        have hyi : (m : Int) - (g : Int) = y := by omega
        have h01 : (0 : Int) < (m : Int) := by omega
        clear hL1 hG1 hO1 hT1 hlen hgg
        go_wp2_with fail
        refine HDr.mono ?_
        rintro e w1 ⟨rfl, hd⟩
        have HD1 : Hid (Does w B l R most q ns ((txN ns).drop (k + g)) w1) := by
          obtain ⟨ns2, h1, h2, h3, h4⟩ := hd
          exact ⟨ns2, h1, HG1.out.trans h2, h3, by rw [h4]; exact HE.out⟩
        clear hd HDr
        go_wp2
        go_roundg y
        case measure => have := HMG.out; omega
        case rel => exact ⟨k + g, y, rfl, by omega, by go_num, HD1⟩
    · have hk : k = many := by omega
      subst hk
      have h01 : ¬ ((0 : Int) < (m : Int)) := by omega
      go_wp2
      go_end0
      exact ⟨rfl, HD.out⟩

set_option maxRecDepth 100000 in
set_option maxHeartbeats 400000 in
theorem dropRight_any (B l R most cnt : Nat) (ns : List Nd) (many : Nat) (w : World) (h : Lst w B l R most cnt ns) (hok : Ok most ns) (hT : (txN ns).length = cnt) (hcnt : cnt ≤ 1000000) (hm : many ≤ cnt) :
    Calls Try.prog 61 #[ptr l, .int .i64 many] w fun e w' => e = .returned (.tuple #[]) ∧ Does w B l R most (cnt - many) ns ((txN ns).take (cnt - many)) w' := by
  have hc := h.ccnt
  have hf := h.frozen 1
  obtain ⟨h6, h7⟩ := h.count (cnt - many)
  obtain ⟨q, hq⟩ : ∃ q, cnt - many = q := ⟨_, rfl⟩
  rw [hq] at h6 h7 ⊢
  have hqi : (cnt : Int) - (many : Int) = q := by omega
  have HD0 : Hid (Does w B l R most q ns ((txN ns).take (cnt - 0)) (w.setCell ⟨l, 1, none⟩ (.int .i64 (q : Nat)))) := ⟨ns, h6, h7, hok, by rw [List.take_of_length_le (by omega)]⟩
  have HT : Hid ((txN ns).length = cnt) := hT
  have HQ : Hid (cnt - many = q) := hq
  clear h hok h6 h7 hT hq
  go_enter Try.func61, Try.ntmps61
  go_wp2
  go_loopg [1, 4] many (fun g mv nv wr => ∃ k m : Nat, Hid (m = g) ∧ k + m = many ∧ mv = .int .i64 m ∧ Hid (Does w B l R most q ns ((txN ns).take (cnt - k)) wr))
  case atStart => exact ⟨0, many, rfl, by omega, rfl, HD0⟩
  case round =>
    obtain ⟨k, m, HMG, hkm, rfl, HD⟩ := hrel
    by_cases h0 : 0 < m
    · obtain ⟨ns1, hL1, hG1, hO1, hT1⟩ := HD.out
      have hlen : (txN ns1).length = cnt - k := by rw [hT1, List.length_take, HT.out]; omega
      rcases snoc_ex ns1 with e1 | ⟨r, d, e1⟩
      · rw [e1, txN_nil] at hlen; simp at hlen; omega
      · subst e1
        have hcr := hL1.cring
        have hg : wr.cell? ⟨R, 1, none⟩ = some (ptr d.a) := by
          have := (Lst.gap (l1 := r ++ [d]) (l2 := []) (by rw [List.append_nil]; exact hL1)).2
          rw [laA_snoc] at this
          exact this
        have hd0 := (hO1 d (by simp)).1
        have hcp := hL1.cpk (d := d) (by simp)
        have HLen := Len_any B d.p d.r d.n d.c d.ls wr (hL1.nod d (by simp)).pk
        have hdm := (hL1.nod d (by simp)).pk.many
        have hd6 := (hL1.nod d (by simp)).siz
        have hdc : d.ls.length ≤ cnt - k := by rw [txN_append, txN_cons, List.length_append, List.length_append] at hlen; omega
        have HG1 : Hid (Goes w wr l R ns (r ++ [d])) := hG1
        obtain ⟨i, hi⟩ : ∃ i, d.ls.length - m = i := ⟨_, rfl⟩
        obtain ⟨g, hgg⟩ : ∃ g, gone d.ls i (m : Int) = g := ⟨_, rfl⟩
        have hgle : g ≤ m ∧ 0 < g ∧ i + g = d.ls.length := by unfold gone at hgg; omega
        have HDr := drop_any B l R most q r [] d i m g wr hL1 hO1 (by omega) hgg
        have HE : Hid (txN r ++ ((d.ls.take i ++ d.ls.drop (i + g)) ++ txN []) = (txN ns).take (cnt - (k + g))) := by
          show _ = _
          have e3 : (txN ns).take (cnt - (k + g)) = ((txN ns).take (cnt - k)).take (cnt - (k + g)) := by rw [List.take_take, Nat.min_eq_left (by omega)]
          rw [e3, ← hT1, hgle.2.2, List.drop_length, List.append_nil, txN_nil, List.append_nil, txN_append, txN_cons, txN_nil, List.append_nil, List.take_append]
          rw [txN_append, txN_cons, txN_nil, List.append_nil, List.length_append] at hlen
          rw [List.take_of_length_le (l := txN r) (i := cnt - (k + g)) (by omega)]
          congr 2
          omega
        obtain ⟨y, hy⟩ : ∃ y, m - g = y := ⟨_, rfl⟩
        have hyi : (m : Int) - (g : Int) = y := by omega
        have h01 : (0 : Int) < (m : Int) := by omega
        obtain ⟨dk, hdk⟩ : ∃ dk, d.ls.length = dk := ⟨_, rfl⟩
        rw [hdk] at HLen hdm hi hgle hdc
        clear hL1 hG1 hO1 hT1 hlen hgg hd0
        by_cases hle : m ≤ dk
        · have hmx : (dk : Int) - (m : Int) = i := by omega
          have hi0 : ¬ ((i : Int) < 0) := by omega
          go_wp2_with fail
          refine HLen.mono ?_
          rintro e wr ⟨rfl, rfl⟩
          go_wp2_with fail
          refine HDr.mono ?_
          rintro e w1 ⟨rfl, hd⟩
          have HD1 : Hid (Does w B l R most q ns ((txN ns).take (cnt - (k + g))) w1) := by
            obtain ⟨ns2, h1, h2, h3, h4⟩ := hd
            exact ⟨ns2, h1, HG1.out.trans h2, h3, by rw [h4]; exact HE.out⟩
          clear hd HDr
          go_wp2
          go_roundg y
          case measure => have := HMG.out; omega
          case rel => exact ⟨k + g, y, rfl, by omega, by go_num, HD1⟩
        · have hi00 : i = 0 := by omega
          subst hi00
          have hmx : (dk : Int) - (m : Int) < 0 := by omega
          have hmx2 : -9223372036854775808 ≤ (dk : Int) - (m : Int) := by omega
          go_wp2_with fail
          refine HLen.mono ?_
          rintro e wr ⟨rfl, rfl⟩
          go_wp2_with fail
          refine HDr.mono ?_
          rintro e w1 ⟨rfl, hd⟩
          have HD1 : Hid (Does w B l R most q ns ((txN ns).take (cnt - (k + g))) w1) := by
            obtain ⟨ns2, h1, h2, h3, h4⟩ := hd
            exact ⟨ns2, h1, HG1.out.trans h2, h3, by rw [h4]; exact HE.out⟩
          clear hd HDr
          go_wp2
          go_roundg y
          case measure => have := HMG.out; omega
          case rel => exact ⟨k + g, y, rfl, by omega, by go_num, HD1⟩
    · have hk : k = many := by omega
      subst hk
      have h01 : ¬ ((0 : Int) < (m : Int)) := by omega
      rw [HQ.out] at HD
      go_wp2
      go_end0
      exact ⟨rfl, HD.out⟩

set_option maxRecDepth 100000 in
theorem Trim_any (B l R most cnt : Nat) (ns : List Nd) (a b : Int) (w : World) (h : Lst w B l R most cnt ns) (hok : Ok most ns) (hT : (txN ns).length = cnt) (hcnt : cnt ≤ 1000000) (ha : I64 a) (hb : I64 b) :
    Calls Try.prog 30 #[ptr l, .int .i64 a, .int .i64 b] w fun e w' => e = .returned (.tuple #[]) ∧ Does w B l R most (spT cnt a b - spF cnt a b) ns (((txN ns).take (spT cnt a b)).drop (spF cnt a b)) w' := by
  have hc := h.ccnt
  have HS := span_any cnt a b w ha hb hcnt
  obtain ⟨h1, h2⟩ := sp_le cnt a b
  generalize spF cnt a b = x at *
  generalize spT cnt a b = y at *
  obtain ⟨m, hm⟩ : ∃ m, cnt - y = m := ⟨_, rfl⟩
  have hmi : (cnt : Int) - (y : Int) = m := by omega
  have HDR := dropRight_any B l R most cnt ns m w h hok hT hcnt (by omega)
  have hmy : cnt - m = y := by omega
  rw [hmy] at HDR
  have HT : Hid ((txN ns).length = cnt) := hT
  clear h hok hT
  go_enter Try.func30, Try.ntmps30
  go_wp2_with fail
  refine HS.mono ?_
  rintro e w ⟨rfl, rfl⟩
  go_wp2_with fail
  refine HDR.mono ?_
  rintro e w1 ⟨rfl, ns1, h3, h4, h5, h6⟩
  have HDL := dropLeft_any B l R most y ns1 x w1 h3 h5 (by rw [h6, List.length_take, HT.out]; omega) (by omega) h1
  have HG : Hid (Goes w w1 l R ns ns1) := h4
  have HE : Hid (txN ns1 = (txN ns).take y) := h6
  clear h3 h4 h5 h6 HDR HS
  go_wp2_with fail
  refine HDL.mono ?_
  rintro e w2 ⟨rfl, ns2, h3, h4, h5, h6⟩
  have HF : Hid (Does w B l R most (y - x) ns (((txN ns).take y).drop x) w2) := ⟨ns2, h3, HG.out.trans h4, h5, by rw [h6, HE.out]⟩
  clear h3 h4 h5 h6 HDL
  go_wp2
  go_end0
  exact ⟨rfl, HF.out⟩
end Go.Proofs.Ytemiajjjhhofaab
