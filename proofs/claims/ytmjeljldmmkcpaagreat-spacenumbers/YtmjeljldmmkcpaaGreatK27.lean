/- Texts that the others stand on. -/
import Derived.Test.YtmjeljldmmkcpaaGreatK26
import Derived.Test.YtmjeljldmmkcpaaGreatK23
import Derived.Test.YtmjeljldmmkcpaaGreatK22
set_option maxRecDepth 100000
set_option maxHeartbeats 400000
namespace Go.Proofs.YtmjeljldmmkcpaaGreat
open Go.RowKit Go.PlainAid
def fs (n : Nat) (i : Int) : Int := if i < 0 then i + n else i
def spA (n : Nat) (a : Int) : Int := max (fs n a) 0
def spB (n : Nat) (b : Int) : Int := min (fs n b) ((n : Int) - 1)
def spF (n : Nat) (a b : Int) : Nat := if spB n b < spA n a then 0 else (spA n a).toNat
def spT (n : Nat) (a b : Int) : Nat := if spB n b < spA n a then 0 else (spB n b + 1).toNat
abbrev I64 (i : Int) : Prop := -9223372036854775808 ≤ i ∧ i ≤ 9223372036854775807
theorem sp_le (n : Nat) (a b : Int) : spF n a b ≤ spT n a b ∧ spT n a b ≤ n := by
 unfold spF spT
 split
 ·omega
 ·have : 0 ≤ spA n a := by unfold spA; omega
  have : spB n b ≤ (n : Int) - 1 := by unfold spB; omega
  omega
theorem span_any (n : Nat) (a b : Int) (w : World) (ha : I64 a) (hb : I64 b) (hn : n ≤ 1000000) :
    Calls Tryz.prog 152 #[.int .i64 n, .int .i64 a, .int .i64 b] w fun e w' => e = .returned (.tuple #[.int .i64 (spF n a b : Nat), .int .i64 (spT n a b : Nat)]) ∧ w' = w := by
  have HF : Hid (spF n a b = if spB n b < spA n a then 0 else (spA n a).toNat) := rfl
  have HT : Hid (spT n a b = if spB n b < spA n a then 0 else (spB n b + 1).toNat) := rfl
  have hA : max (fs n a) 0 = spA n a := rfl
  have hB : min (fs n b) ((n : Int) - 1) = spB n b := rfl
  have hX : (a < 0 ∧ fs n a = a + n) ∨ (0 ≤ a ∧ fs n a = a) := by unfold fs; split <;> omega
  have hY : (b < 0 ∧ fs n b = b + n) ∨ (0 ≤ b ∧ fs n b = b) := by unfold fs; split <;> omega
  generalize fs n a = X at *
  generalize fs n b = Y at *
  generalize spA n a = A at *
  generalize spB n b = B at *
  have hA' : (X < 0 ∧ A = 0) ∨ (0 ≤ X ∧ A = X) := by omega
  have hB' : ((n : Int) - 1 < Y ∧ B = n - 1) ∨ (Y ≤ (n : Int) - 1 ∧ B = Y) := by omega
  have hn0 : IntKind.i64.wrap ((n : Int) - 1) = (n : Int) - 1 := by rw [IntKind.wrap_i64]; omega
  clear hA hB
  by_cases h : B < A
  · rw [if_pos h] at HF HT
    rcases hX with ⟨h1, rfl⟩ | ⟨h1, rfl⟩ <;> rcases hY with ⟨h2, rfl⟩ | ⟨h2, rfl⟩ <;> rcases hA' with ⟨h3, rfl⟩ | ⟨h3, rfl⟩ <;> rcases hB' with ⟨h4, rfl⟩ | ⟨h4, rfl⟩ <;> first
    | (exfalso; omega)
    | (go_enter Tryz.func152, Tryz.ntmps152
       go_wp2
       go_ret2
       exact ⟨by rw [HF.out, HT.out]; rfl, rfl⟩)
  · rw [if_neg h] at HF HT
    obtain ⟨x, hx⟩ : ∃ x : Nat, A = x := ⟨A.toNat, by omega⟩
    obtain ⟨y, hy⟩ : ∃ y : Nat, B + 1 = y := ⟨(B + 1).toNat, by omega⟩
    have hFx : spF n a b = x := by rw [HF.out, hx]; rfl
    have hTy : spT n a b = y := by rw [HT.out, hy]; rfl
    rw [hFx, hTy]
    clear HF HT hFx hTy
    rcases hX with ⟨h1, rfl⟩ | ⟨h1, rfl⟩ <;> rcases hY with ⟨h2, rfl⟩ | ⟨h2, rfl⟩ <;> rcases hA' with ⟨h3, rfl⟩ | ⟨h3, rfl⟩ <;> rcases hB' with ⟨h4, rfl⟩ | ⟨h4, rfl⟩ <;> first
    | (exfalso; omega)
    | (go_enter Tryz.func152, Tryz.ntmps152
       go_wp2
       go_ret2
       first | exact ⟨rfl, rfl⟩ | (refine ⟨?_, rfl⟩; rw [← hx, ← hy]; rfl))
theorem drop_any (B l R most cnt : Nat) (l1 l2 : List Nd) (d : Nd) (i : Nat) (N : Int) (g : Nat) (w : World) (h : Lst w B l R most cnt (l1 ++ d :: l2)) (hok : Ok most (l1 ++ d :: l2)) (hi : i < d.ls.length) (hg : gone d.ls i N = g) :
  Calls Tryz.prog 196 #[ptr d.a, .int .i64 i, .int .i64 N] w fun e w' => e = .returned (.int .i64 (g : Nat)) ∧ Does w B l R most cnt (l1 ++ d :: l2) (txN l1 ++ ((d.ls.take i ++ d.ls.drop (i + g)) ++ txN l2)) w' := by
 have HD := Delete_nd B l R most cnt l1 l2 d i N w h hi
 rw [hg] at HD
 have hcp := h.cpk (d := d) (by simp)
 have HOk : Hid (Ok most (l1 ++ d :: l2)) := hok
 clear h hok hi hg
 go_enter Tryz.func196, Tryz.ntmps196
 go_wp2_with fail
 refine HD.mono ?_
 rintro e w1 ⟨rfl, d', e1, e2, e3, e4, h4, h5⟩
 have hcp1 : w1.cell? ⟨d.a, 0, none⟩ = some (ptr d.p) := by rw [← e1, ← e2]; exact h4.cpk (by simp)
 have HLen := Len_any B d'.p d'.r d'.n d'.c d'.ls w1 (h4.nod d' (by simp)).pk
 rw [e2] at HLen
 have HL1 : Hid (Lst w1 B l R most cnt (l1 ++ d' :: l2)) := h4
 have HG1 : Hid (Goes w w1 l R (l1 ++ d :: l2) (l1 ++ d' :: l2)) := h5
 have HE : Hid (d'.a = d.a ∧ d'.ls = d.ls.take i ++ d.ls.drop (i + g)) := ⟨e1, e3⟩
 by_cases h0 : d'.ls.length = 0
 ·rw [h0] at HLen
  have HU := unlink_any B l R most cnt l1 l2 d' w1 h4
  rw [e1] at HU
  have HN : Hid (d.ls.take i ++ d.ls.drop (i + g) = []) := by rw [← e3]; exact List.length_eq_zero_iff.1 h0
  clear h4 h5 HD e1 e2 e3 e4 h0
  go_wp2_with fail
  refine HLen.mono ?_
  rintro e w1 ⟨rfl, rfl⟩
  go_wp2_with fail
  refine HU.mono ?_
  rintro e w2 ⟨rfl, h6, h7, -, -⟩
  have HF : Hid (Does w B l R most cnt (l1 ++ d :: l2) (txN l1 ++ ((d.ls.take i ++ d.ls.drop (i + g)) ++ txN l2)) w2) := by
   refine ⟨_, h6, HG1.out.trans h7, HOk.out.less, ?_⟩
   rw [HN.out, Bf]; rfl
  clear h6 h7 HU HLen
  go_wp2
  go_ret
  exact ⟨rfl, HF.out⟩
 ·have HF : Hid (Does w B l R most cnt (l1 ++ d :: l2) (txN l1 ++ ((d.ls.take i ++ d.ls.drop (i + g)) ++ txN l2)) w1) := by
   refine ⟨_, h4, h5, HOk.out.mid ⟨by omega, ?_⟩, ?_⟩
   ·have := (HOk.out d (by simp)).2
    rw [e3]
    simp only [List.length_append, List.length_take, List.length_drop]
    omega
   ·rw [Bf, Bp, e3]
  have h01 : ¬ ((d'.ls.length : Int) = 0) := by omega
  obtain ⟨q, hq⟩ : ∃ q, d'.ls.length = q := ⟨_, rfl⟩
  rw [hq] at HLen h01
  clear h4 h5 HD e1 e2 e3 e4 h0 hq
  go_wp2_with fail
  refine HLen.mono ?_
  rintro e w1 ⟨rfl, rfl⟩
  go_wp2
  go_ret
  exact ⟨rfl, HF.out⟩
theorem dropLeft_any (B l R most cnt : Nat) (ns : List Nd) (many : Nat) (w : World) (h : Lst w B l R most cnt ns) (hok : Ok most ns) (hT : (txN ns).length = cnt) (hcnt : cnt ≤ 1000000) (hm : many ≤ cnt) :
  Calls Tryz.prog 154 #[ptr l, .int .i64 many] w fun e w' => e = .returned (.tuple #[]) ∧ Does w B l R most (cnt - many) ns ((txN ns).drop many) w' := by
 have hc := h.ccnt
 have hf := h.frozen 1
 obtain ⟨h6, h7⟩ := h.count (cnt - many)
 obtain ⟨q, hq⟩ : ∃ q, cnt - many = q := ⟨_, rfl⟩
 rw [hq] at h6 h7 ⊢
 have hqi : (cnt : Int) - (many : Int) = q := by omega
 have HD0 : Hid (Does w B l R most q ns ((txN ns).drop 0) (w.setCell ⟨l, 1, none⟩ (.int .i64 (q : Nat)))) := ⟨ns, h6, h7, hok, by simp⟩
 have HT : Hid ((txN ns).length = cnt) := hT
 clear h hok h6 h7 hT hq
 go_enter Tryz.func154, Tryz.ntmps154
 go_wp2
 go_loopg [1, 4] many (fun g mv nv wr => ∃ k m : Nat, Hid (m = g) ∧ k + m = many ∧ mv = .int .i64 m ∧ Hid (Does w B l R most q ns ((txN ns).drop k) wr))
 case atStart => exact ⟨0, many, rfl, by omega, rfl, HD0⟩
 case round =>
  obtain ⟨k, m, HMG, hkm, rfl, HD⟩ := hrel
  by_cases h0 : 0 < m
  ·obtain ⟨ns1, hL1, hG1, hO1, hT1⟩ := HD.out
   have hlen : (txN ns1).length = cnt - k := by rw [hT1, List.length_drop, HT.out]
   cases ns1 with
   | nil => rw [Cc] at hlen; simp at hlen; omega
   | cons d r =>
    have hcr := hL1.cring
    have hg : wr.cell? ⟨R, 2, none⟩ = some (ptr d.a) := (Lst.gap (l1 := []) (l2 := d :: r) hL1).1
    have hd0 := (hO1 d (by simp)).1
    obtain ⟨g, hgg⟩ : ∃ g, gone d.ls 0 (m : Int) = g := ⟨_, rfl⟩
    have hgle : g ≤ m ∧ 0 < g ∧ g ≤ d.ls.length := by unfold gone at hgg; omega
    have HDr := drop_any B l R most q [] r d 0 m g wr hL1 hO1 hd0 hgg
    have HG1 : Hid (Goes w wr l R ns (d :: r)) := hG1
    have HE : Hid (txN [] ++ ((d.ls.take 0 ++ d.ls.drop (0 + g)) ++ txN r) = (txN ns).drop (k + g)) := by
     show _ = _
     rw [Cc, List.nil_append, List.take_zero, List.nil_append, Nat.zero_add, ← List.drop_drop, ← hT1, Bp, List.drop_append_of_le_length hgle.2.2]
    obtain ⟨y, hy⟩ : ∃ y, m - g = y := ⟨_, rfl⟩
    have hyi : (m : Int) - (g : Int) = y := by omega
    have h01 : (0 : Int) < (m : Int) := by omega
    clear hL1 hG1 hO1 hT1 hlen hgg
    go_wp2_with fail
    refine HDr.mono ?_
    rintro e w1 ⟨rfl, hd⟩
    have HD1 : Hid (Does w B l R most q ns ((txN ns).drop (k + g)) w1) := by
     obtain ⟨ns2, h1, h2, h3, h4⟩ := hd
     exact ⟨ns2, h1, HG1.out.trans h2, h3, by rw [h4]; exact HE.out⟩
    clear hd HDr
    go_wp2
    go_roundg y
    case measure => have := HMG.out; omega
    case rel => exact ⟨k + g, y, rfl, by omega, by go_num, HD1⟩
  ·have hk : k = many := by omega
   subst hk
   have h01 : ¬ ((0 : Int) < (m : Int)) := by omega
   go_wp2
   go_end0
   exact ⟨rfl, HD.out⟩
theorem dropRight_any (B l R most cnt : Nat) (ns : List Nd) (many : Nat) (w : World) (h : Lst w B l R most cnt ns) (hok : Ok most ns) (hT : (txN ns).length = cnt) (hcnt : cnt ≤ 1000000) (hm : many ≤ cnt) :
  Calls Tryz.prog 153 #[ptr l, .int .i64 many] w fun e w' => e = .returned (.tuple #[]) ∧ Does w B l R most (cnt - many) ns ((txN ns).take (cnt - many)) w' := by
 have hc := h.ccnt
 have hf := h.frozen 1
 obtain ⟨h6, h7⟩ := h.count (cnt - many)
 obtain ⟨q, hq⟩ : ∃ q, cnt - many = q := ⟨_, rfl⟩
 rw [hq] at h6 h7 ⊢
 have hqi : (cnt : Int) - (many : Int) = q := by omega
 have HD0 : Hid (Does w B l R most q ns ((txN ns).take (cnt - 0)) (w.setCell ⟨l, 1, none⟩ (.int .i64 (q : Nat)))) := ⟨ns, h6, h7, hok, by rw [List.take_of_length_le (by omega)]⟩
 have HT : Hid ((txN ns).length = cnt) := hT
 have HQ : Hid (cnt - many = q) := hq
 clear h hok h6 h7 hT hq
 go_enter Tryz.func153, Tryz.ntmps153
 go_wp2
 go_loopg [1, 4] many (fun g mv nv wr => ∃ k m : Nat, Hid (m = g) ∧ k + m = many ∧ mv = .int .i64 m ∧ Hid (Does w B l R most q ns ((txN ns).take (cnt - k)) wr))
 case atStart => exact ⟨0, many, rfl, by omega, rfl, HD0⟩
 case round =>
  obtain ⟨k, m, HMG, hkm, rfl, HD⟩ := hrel
  by_cases h0 : 0 < m
  ·obtain ⟨ns1, hL1, hG1, hO1, hT1⟩ := HD.out
   have hlen : (txN ns1).length = cnt - k := by rw [hT1, List.length_take, HT.out]; omega
   rcases snoc_ex ns1 with e1 | ⟨r, d, e1⟩
   ·rw [e1, Cc] at hlen; simp at hlen; omega
   ·subst e1
    have hcr := hL1.cring
    have hg : wr.cell? ⟨R, 1, none⟩ = some (ptr d.a) := by
     have := (Lst.gap (l1 := r ++ [d]) (l2 := []) (by rw [List.append_nil]; exact hL1)).2
     rw [Cx] at this
     exact this
    have hd0 := (hO1 d (by simp)).1
    have hcp := hL1.cpk (d := d) (by simp)
    have HLen := Len_any B d.p d.r d.n d.c d.ls wr (hL1.nod d (by simp)).pk
    have hdm := (hL1.nod d (by simp)).pk.many
    have hd6 := (hL1.nod d (by simp)).siz
    have hdc : d.ls.length ≤ cnt - k := by rw [Bf, Bp, List.length_append, List.length_append] at hlen; omega
    have HG1 : Hid (Goes w wr l R ns (r ++ [d])) := hG1
    obtain ⟨i, hi⟩ : ∃ i, d.ls.length - m = i := ⟨_, rfl⟩
    obtain ⟨g, hgg⟩ : ∃ g, gone d.ls i (m : Int) = g := ⟨_, rfl⟩
    have hgle : g ≤ m ∧ 0 < g ∧ i + g = d.ls.length := by unfold gone at hgg; omega
    have HDr := drop_any B l R most q r [] d i m g wr hL1 hO1 (by omega) hgg
    have HE : Hid (txN r ++ ((d.ls.take i ++ d.ls.drop (i + g)) ++ txN []) = (txN ns).take (cnt - (k + g))) := by
     show _ = _
     have e3 : (txN ns).take (cnt - (k + g)) = ((txN ns).take (cnt - k)).take (cnt - (k + g)) := by rw [List.take_take, Nat.min_eq_left (by omega)]
     rw [e3, ← hT1, hgle.2.2, List.drop_length, List.append_nil, Cc, List.append_nil, Bf, Bp, Cc, List.append_nil, List.take_append]
     rw [Bf, Bp, Cc, List.append_nil, List.length_append] at hlen
     rw [List.take_of_length_le (l := txN r) (i := cnt - (k + g)) (by omega)]
     congr 2
     omega
    obtain ⟨y, hy⟩ : ∃ y, m - g = y := ⟨_, rfl⟩
    have hyi : (m : Int) - (g : Int) = y := by omega
    have h01 : (0 : Int) < (m : Int) := by omega
    obtain ⟨dk, hdk⟩ : ∃ dk, d.ls.length = dk := ⟨_, rfl⟩
    rw [hdk] at HLen hdm hi hgle hdc
    clear hL1 hG1 hO1 hT1 hlen hgg hd0
    by_cases hle : m ≤ dk
    ·have hmx : (dk : Int) - (m : Int) = i := by omega
     have hi0 : ¬ ((i : Int) < 0) := by omega
     go_wp2_with fail
     refine HLen.mono ?_
     rintro e wr ⟨rfl, rfl⟩
     go_wp2_with fail
     refine HDr.mono ?_
     rintro e w1 ⟨rfl, hd⟩
     have HD1 : Hid (Does w B l R most q ns ((txN ns).take (cnt - (k + g))) w1) := by
      obtain ⟨ns2, h1, h2, h3, h4⟩ := hd
      exact ⟨ns2, h1, HG1.out.trans h2, h3, by rw [h4]; exact HE.out⟩
     clear hd HDr
     go_wp2
     go_roundg y
     case measure => have := HMG.out; omega
     case rel => exact ⟨k + g, y, rfl, by omega, by go_num, HD1⟩
    ·have hi00 : i = 0 := by omega
     subst hi00
     have hmx : (dk : Int) - (m : Int) < 0 := by omega
     have hmx2 : -9223372036854775808 ≤ (dk : Int) - (m : Int) := by omega
     go_wp2_with fail
     refine HLen.mono ?_
     rintro e wr ⟨rfl, rfl⟩
     go_wp2_with fail
     refine HDr.mono ?_
     rintro e w1 ⟨rfl, hd⟩
     have HD1 : Hid (Does w B l R most q ns ((txN ns).take (cnt - (k + g))) w1) := by
      obtain ⟨ns2, h1, h2, h3, h4⟩ := hd
      exact ⟨ns2, h1, HG1.out.trans h2, h3, by rw [h4]; exact HE.out⟩
     clear hd HDr
     go_wp2
     go_roundg y
     case measure => have := HMG.out; omega
     case rel => exact ⟨k + g, y, rfl, by omega, by go_num, HD1⟩
  ·have hk : k = many := by omega
   subst hk
   have h01 : ¬ ((0 : Int) < (m : Int)) := by omega
   rw [HQ.out] at HD
   go_wp2
   go_end0
   exact ⟨rfl, HD.out⟩
theorem Trim_any (B l R most cnt : Nat) (ns : List Nd) (a b : Int) (w : World) (h : Lst w B l R most cnt ns) (hok : Ok most ns) (hT : (txN ns).length = cnt) (hcnt : cnt ≤ 1000000) (ha : I64 a) (hb : I64 b) :
  Calls Tryz.prog 105 #[ptr l, .int .i64 a, .int .i64 b] w fun e w' => e = .returned (.tuple #[]) ∧ Does w B l R most (spT cnt a b - spF cnt a b) ns (((txN ns).take (spT cnt a b)).drop (spF cnt a b)) w' := by
 have hc := h.ccnt
 have HS := span_any cnt a b w ha hb hcnt
 obtain ⟨h1, h2⟩ := sp_le cnt a b
 generalize spF cnt a b = x at *
 generalize spT cnt a b = y at *
 obtain ⟨m, hm⟩ : ∃ m, cnt - y = m := ⟨_, rfl⟩
 have hmi : (cnt : Int) - (y : Int) = m := by omega
 have HDR := dropRight_any B l R most cnt ns m w h hok hT hcnt (by omega)
 have hmy : cnt - m = y := by omega
 rw [hmy] at HDR
 have HT : Hid ((txN ns).length = cnt) := hT
 clear h hok hT
 go_enter Tryz.func105, Tryz.ntmps105
 go_wp2_with fail
 refine HS.mono ?_
 rintro e w ⟨rfl, rfl⟩
 go_wp2_with fail
 refine HDR.mono ?_
 rintro e w1 ⟨rfl, ns1, h3, h4, h5, h6⟩
 have HDL := dropLeft_any B l R most y ns1 x w1 h3 h5 (by rw [h6, List.length_take, HT.out]; omega) (by omega) h1
 have HG : Hid (Goes w w1 l R ns ns1) := h4
 have HE : Hid (txN ns1 = (txN ns).take y) := h6
 clear h3 h4 h5 h6 HDR HS
 go_wp2_with fail
 refine HDL.mono ?_
 rintro e w2 ⟨rfl, ns2, h3, h4, h5, h6⟩
 have HF : Hid (Does w B l R most (y - x) ns (((txN ns).take y).drop x) w2) := ⟨ns2, h3, HG.out.trans h4, h5, by rw [h6, HE.out]⟩
 clear h3 h4 h5 h6 HDL
 go_wp2
 go_end0
 exact ⟨rfl, HF.out⟩
structure RdL (w : World) (a : Option Addr) (n cap : Nat) (ls : List BA) : Prop where
 rd : RdS w a n ls
 fit : n ≤ cap
 max : cap ≤ maxLen
 nul : a = none → cap = 0
theorem OwnS.rl {w : World} {B : Nat} {a : Option Addr} {n cap : Nat} {ls : List BA} (h : OwnS w B a n cap ls) : RdL w a n cap ls := by
 refine ⟨h.rd, ?_, ?_, ?_⟩
 all_goals
  rcases h.2 with ⟨h2, h3⟩ | ⟨g, c, cur, h1, h3, h4, h5, h6, h7⟩
 ·cases h2; omega
 ·cases h1; exact h5
 ·cases h2; decide
 ·cases h1; exact h6
 ·cases h2; intro; rfl
 ·cases h1; intro e; cases e
theorem RdL.sub {w : World} {a : Option Addr} {n cap : Nat} {l : List BA} (h : RdL w a n cap l) (lo hi : Nat) (h1 : lo ≤ hi) (h2 : hi ≤ n) :
  RdL w (if cap = lo then a else a.map (·.add (lo * 1))) (hi - lo) (cap - lo) ((l.drop lo).take (hi - lo)) := by
 have hl := h.rd.len
 have hf := h.fit
 have hx := h.max
 refine ⟨⟨?_, ?_, fun j hj => ?_⟩, by omega, by omega, fun hn => ?_⟩
 ·rw [List.length_take, List.length_drop, hl]; omega
 ·omega
 ·obtain ⟨b, off, e, hc⟩ := h.rd.cell (lo + j) (by omega)
  subst e
  have hne : ¬ cap = lo := by omega
  refine ⟨b, off + lo, ?_, ?_⟩
  ·rw [if_neg hne, Option.map_some, Nat.mul_one, Af]
  ·rw [Nat.add_assoc, hc, List.getD_eq_getElem?_getD, List.getD_eq_getElem?_getD, List.getElem?_take, if_pos hj, List.getElem?_drop]
 ·cases a with
  | none => have := h.nul rfl; omega
  | some x => split at hn <;> simp at hn
theorem Tryz.size9 (w : World) : (sizeOf 9).run Tryz.prog w = .ok 1 w := by go_simp
theorem Tryz.elem56 : Tryz.prog.elem 56 = 9 := by simp [Program.elem, Tryz.underlying56]
theorem RdL.slice_l {w : World} {a : Option Addr} {n cap : Nat} {l : List BA} (h : RdL w a n cap l) (lo : Nat) (h1 : lo ≤ n) :
  ∃ a' cap', (∀ wx, (Instr.sliceAt 56 (.slice a n cap) (some (.int .i64 lo)) none none).run Tryz.prog wx = .ok (.slice a' (n - lo) cap') wx) ∧ RdL w a' (n - lo) cap' (l.drop lo) := by
 have hs := h.sub lo n h1 (Nat.le_refl _)
 rw [List.take_of_length_le (by rw [List.length_drop, h.rd.len]; omega)] at hs
 refine ⟨_, _, fun wx => ?_, hs⟩
 have ht : Tryz.prog.underlying 56 = some (.slice (Tryz.prog.elem 56)) := by rw [Tryz.elem56]; exact Tryz.underlying56
 rw [run_sliceAt_slice _ _ _ _ _ _ ht, run_slice_l (P := Tryz.prog) wx 56 a n cap ht .i64 lo (by omega) (by omega), Tryz.elem56, Tryz.size9]
 simp [Result.andThen, sliced]
theorem RdL.slice_h {w : World} {a : Option Addr} {n cap : Nat} {l : List BA} (h : RdL w a n cap l) (hi : Nat) (h1 : hi ≤ n) :
  ∃ a' cap', (∀ wx, (Instr.sliceAt 56 (.slice a n cap) none (some (.int .i64 hi)) none).run Tryz.prog wx = .ok (.slice a' hi cap') wx) ∧ RdL w a' hi cap' (l.take hi) := by
 have hs := h.sub 0 hi (Nat.zero_le _) h1
 rw [List.drop_zero, Nat.sub_zero, Nat.sub_zero] at hs
 refine ⟨_, _, fun wx => ?_, hs⟩
 have ht : Tryz.prog.underlying 56 = some (.slice (Tryz.prog.elem 56)) := by rw [Tryz.elem56]; exact Tryz.underlying56
 rw [run_sliceAt_slice _ _ _ _ _ _ ht, run_slice_h (P := Tryz.prog) wx 56 a n cap ht .i64 hi (by omega) (by have := h.fit; omega), Tryz.elem56, Tryz.size9]
 simp [Result.andThen, sliced]
theorem run_append_strs (w : World) (B : Nat) (a : Option Addr) (n cap : Nat) (ls : List BA) (hown : OwnS w B a n cap ls) (a' : Option Addr) (n' cap' : Nat) (rs : List BA) (hr : RdL w a' n' cap' rs) (hb : n + n' ≤ 1000000) (hB : B ≤ w.heap.size) (ty : TypeId) :
  ∃ a2 c2 w2, (Builtin.append_ #[56, 56] ty #[.slice a n cap, .slice a' n' cap']).run Tryz.prog w = .ok (.slice a2 (n + n') c2) w2 ∧ OwnS w2 B a2 (n + n') c2 (ls ++ rs) ∧ Below B w w2 := by
 obtain ⟨i0, hi, hz0, hz1, hz2⟩ := info_parts Tryz.info9
 have hblk : ∀ k, (Value.slice a n cap).ownBlock = some k → B ≤ k := fun k hk => (hown.lt k hk).1
 cases a' with
 | none =>
  have hrl := hr.rd.len
  have hc0 := hr.nul rfl
  have hf := hr.fit
  have hn0 : n' = 0 := by omega
  subst hn0
  subst hc0
  have hr0 : rs = [] := List.length_eq_zero_iff.1 hrl
  subst hr0
  refine ⟨a, cap, w, ?_, by rw [List.append_nil]; exact hown, Below.refl _ _⟩
  have := run_append_owned_none (P := Tryz.prog) w B 56 ty 9 i0 1 Tryz.underlying56 hi (.slice a n cap) n (ls.map Value.string) hown
  exact this
 | some ad =>
  have hrun := run_append_own (P := Tryz.prog) w B 56 ty 9 i0 (.string ⟨#[]⟩) 1 16 Tryz.underlying56 hi hz0 hz1 hz2 rfl (by decide) (.slice a n cap) n (ls.map Value.string) hown ad n' cap' (rs.map Value.string) (by rw [List.length_map, hr.rd.len]; omega) (fun j u hu => by
   rw [List.getElem?_map] at hu
   have hj : j < rs.length := by
    rcases Nat.lt_or_ge j rs.length with h | h
    ·exact h
    ·rw [List.getElem?_eq_none h] at hu; cases hu
   obtain ⟨b, off, e, hc⟩ := hr.rd.cell j (by rw [← hr.rd.len]; exact hj)
   cases e
   rw [Af, hc, List.getD_eq_getElem?_getD]
   rw [List.getElem?_eq_getElem hj] at hu ⊢
   exact hu) (by simp [Value.oneCell']) (by unfold maxLen; omega) (by omega) hB
  obtain ⟨v', w', h1, h2, h3, -⟩ := hrun
  rw [← List.map_append] at h2
  have hbel : Below B w w' := (Below.refl B w).grown h3 hB hblk
  rcases h2.2 with ⟨rfl, h4⟩ | ⟨g, c, cur, rfl, h4⟩
  ·refine ⟨none, 0, w', by rw [h1, h4], ?_, hbel⟩
   rw [h4] at h2 ⊢
   exact h2
  ·exact ⟨_, _, w', h1, h2, hbel⟩
theorem append_strs {w : World} {ops : Array Oper} {rest : List Oper} {o : Oper} {ac : Act} {Q : Exit → Act → World → Prop} (hgd : o.guard = none) (s x : Operand) (ho : o.op = .call { callee := .builtin .append, args := #[s, x], argTypes := #[56, 56] })
  (B : Nat) {a : Option Addr} {n cap : Nat} {ls : List BA} (hs : ac.eval s = .slice a n cap) (hown : OwnS w B a n cap ls)
  {a' : Option Addr} {n' cap' : Nat} {rs : List BA} (hx : ac.eval x = .slice a' n' cap') (hr : RdL w a' n' cap' rs) (hb : n + n' ≤ 1000000) (hB : B ≤ w.heap.size)
  (h : ∀ a2 n2 c2 w2, n2 = n + n' → Hid (OwnS w2 B a2 n2 c2 (ls ++ rs)) → Hid (Below B w w2) → wpList Tryz.prog ops Q rest (ac.put o.dst (.slice a2 n2 c2)) w2) : wpList Tryz.prog ops Q (o :: rest) ac w := by
 obtain ⟨a2, c2, w2, h1, h2, h3⟩ := run_append_strs w B a n cap ls hown a' n' cap' rs hr hb hB o.type
 refine wpList_plain hgd fun K hK => ?_
 unfold Oper.wp
 simp [execOp, ho, resolve, invoke, builtin, hs, hx, h1, Result.andThen]
 exact hK _ _ (h a2 _ c2 w2 rfl h2 h3)
theorem sp_lt (n : Nat) (a b : Int) (h : 0 < n) : spF n a b < n := by
 unfold spF
 split
 ·exact h
 ·have : 0 ≤ spA n a := by unfold spA; omega
  have : spB n b ≤ (n : Int) - 1 := by unfold spB; omega
  omega
theorem plc_nat {m k : Nat} (h : k < m) : plc m (k : Int) = some k := by unfold plc; rw [if_pos (by omega), if_pos (by omega)]; simp
theorem sp_left (n : Nat) : spF n 1 (-1) = (if n ≤ 1 then 0 else 1) ∧ spT n 1 (-1) = (if n ≤ 1 then 0 else n) := by
 have hA : spA n 1 = 1 := by unfold spA fs; rw [if_neg (by decide)]; decide
 have hB : spB n (-1) = (n : Int) - 1 := by unfold spB fs; rw [if_pos (by decide)]; omega
 unfold spF spT
 rw [hA, hB]
 by_cases h : n ≤ 1
 ·rw [if_pos (by omega), if_pos h, if_pos (by omega), if_pos h]; exact ⟨rfl, rfl⟩
 ·rw [if_neg (by omega), if_neg h, if_neg (by omega), if_neg h]
  exact ⟨rfl, by omega⟩
theorem cut_left (T : List BA) : (T.take (spT T.length 1 (-1))).drop (spF T.length 1 (-1)) = T.tail := by
 rw [(sp_left T.length).1, (sp_left T.length).2]
 by_cases h : T.length ≤ 1
 ·rw [if_pos h, if_pos h]
  match T, h with
  | [], _ => rfl
  | [x], _ => rfl
 ·rw [if_neg h, if_neg h, List.take_length, List.drop_one]
theorem sp_len (T : List BA) (a b : Int) : ((T.take (spT T.length a b)).drop (spF T.length a b)).length = spT T.length a b - spF T.length a b := by
 have := sp_le T.length a b
 rw [List.length_drop, List.length_take]; omega
theorem PopLeft_any (B l R most cnt : Nat) (ns : List Nd) (w : World) (h : Lst w B l R most cnt ns) (hok : Ok most ns) (hT : (txN ns).length = cnt) (hcnt : cnt ≤ 1000000) :
  Calls Tryz.prog 66 #[ptr l] w fun e w' => e = .returned (.tuple #[.string (txt (txN ns) 0), .bool (decide (0 < cnt))]) ∧ Does w B l R most (cnt - 1) ns (txN ns).tail w' := by
 have HTr := fun w1 (hb : Below w.heap.size w w1) => Trim_any B l R most cnt ns 1 (-1) w1 (h.keep hb) hok hT hcnt (by decide) (by decide)
 have hl := sp_len (txN ns) 1 (-1)
 rw [cut_left, List.length_tail, hT] at hl
 have hc := cut_left (txN ns)
 rw [hT] at hc
 simp only [hc, ← hl] at HTr
 have HA : Calls Tryz.prog 104 #[ptr l, .int .i64 0] w fun e w' => Below w.heap.size w w' ∧ e = .returned (.tuple #[.string (txt (txN ns) 0), .bool (decide (0 < cnt))]) := by
  rcases Nat.eq_zero_or_pos cnt with h0 | h0
  ·have := AtQ_none B l R most cnt ns 0 w h hcnt (by unfold plc; rw [if_pos (by decide), if_neg (by omega)])
   have hn : txN ns = [] := List.length_eq_zero_iff.1 (by omega)
   rw [hn, h0]
   exact this
  ·have := AtQ_some B l R most cnt ns 0 0 w h hT hcnt (plc_nat h0)
   rw [decide_eq_true h0]
   exact this
 generalize txt (txN ns) 0 = s at HA ⊢
 generalize decide (0 < cnt) = b at HA ⊢
 clear h hok hT hl hc
 go_enter Tryz.func66, Tryz.ntmps66
 go_wp2_with fail
 refine HA.mono ?_
 rintro e w1 ⟨hb, rfl⟩
 have HB : Hid (Below w.heap.size w w1) := hb
 have HT1 := HTr w1 hb
 clear hb HTr HA
 go_wp2_with fail
 refine HT1.mono ?_
 rintro e w2 ⟨rfl, ns2, h1, h2, h3, h4⟩
 have HD : Hid (Does w B l R most (cnt - 1) ns (txN ns).tail w2) := ⟨ns2, h1, h2.first HB.out, h3, h4⟩
 clear h1 h2 h3 h4 HT1
 go_wp2
 go_ret2
 exact ⟨rfl, HD.out⟩
def At2 (R : Nat) (ns : List Nd) (T : List BA) (p : Nat) (nv av : Value) : Prop :=
 ∃ l1 l2 j, ns = l1 ++ l2 ∧ nv = ptr (hdA R l2) ∧ av = .int .i64 (j : Nat) ∧ (txN l2).drop j = T.drop p ∧ ∀ d r, l2 = d :: r → j < d.ls.length
theorem Range_any (B l R most cnt : Nat) (ns : List Nd) (a b : Int) (w : World) (h : Lst w B l R most cnt ns) (hok : Ok most ns) (hT : (txN ns).length = cnt) (hcnt : cnt ≤ 1000000) (ha : I64 a) (hb : I64 b) :
  Calls Tryz.prog 155 #[ptr l, .int .i64 a, .int .i64 b] w fun e w' => Below w.heap.size w w' ∧ ∃ a2 n2 c2, e = .returned (.slice a2 n2 c2) ∧ OwnS w' w.heap.size a2 n2 c2 (((txN ns).take (spT cnt a b)).drop (spF cnt a b)) := by
 have hc := h.ccnt
 have HS := span_any cnt a b w ha hb hcnt
 obtain ⟨h1, h2⟩ := sp_le cnt a b
 have hlt := sp_lt cnt a b
 generalize spF cnt a b = x at *
 generalize spT cnt a b = y at *
 have HL : Hid (Lst w B l R most cnt ns) := h
 have HOk : Hid (Ok most ns) := hok
 have HT : Hid ((txN ns).length = cnt) := hT
 obtain ⟨tot, htot⟩ : ∃ tot, y - x = tot := ⟨_, rfl⟩
 have hti : (y : Int) - (x : Int) = tot := by omega
 obtain ⟨T, hTT⟩ : ∃ T, txN ns = T := ⟨_, rfl⟩
 have HTT : Hid (txN ns = T) := hTT
 have HTl : Hid (T.length = cnt) := by rw [← hTT]; exact hT
 have HF : Calls Tryz.prog 150 #[ptr l, .int .i64 (x : Nat)] w fun e w' => (∃ nv av bv, e = .returned (.tuple #[nv, av, bv]) ∧ (0 = tot ∨ At2 R ns T (x + 0) nv av)) ∧ w' = w := by
  rcases Nat.eq_zero_or_pos cnt with h0 | h0
  ·refine (find_none B l R most cnt ns x w h hcnt (by unfold plc; rw [if_pos (by omega), if_neg (by omega)])).mono ?_
   rintro e w' ⟨rfl, rfl⟩
   exact ⟨⟨_, _, _, rfl, .inl (by omega)⟩, rfl⟩
  ·refine (findQ_some B l R most cnt ns x x w h hT hcnt (plc_nat (hlt h0))).mono ?_
   rintro e w' ⟨⟨l1, d, l2, j, e1, e2, e3, rfl⟩, rfl⟩
   refine ⟨⟨_, _, _, rfl, .inr ⟨l1, d :: l2, j, e1, rfl, rfl, ?_, ?_⟩⟩, rfl⟩
   ·rw [← hTT, e1, Bf, Nat.add_zero, ← e2, ← List.drop_drop, List.drop_left]
   ·intro d' r' h'
    injection h' with h1 h2
    rw [← h1]; exact e3
 have HRes : Hid ((T.drop x).take tot = (T.take y).drop x) := by
  show _ = _
  rw [List.drop_take, ← htot]
 have HO0 : Hid (OwnS w w.heap.size none 0 0 ((T.drop x).take 0)) := World.ownsRow_nil w _ 9 1
 rw [hTT]
 clear h hok hT hTT htot hlt
 go_enter Tryz.func155, Tryz.ntmps155
 go_wp2_with fail
 refine HS.mono ?_
 rintro e w ⟨rfl, rfl⟩
 go_wp2_with fail
 refine HF.mono ?_
 rintro e w ⟨⟨nv0, av0, bv0, rfl, hAt⟩, rfl⟩
 have HAt : Hid (0 = tot ∨ At2 R ns T (x + 0) nv0 av0) := hAt
 clear hAt HF HS
 go_wp2
 go_loopg [9, 10, 11, 13] tot (fun g tv nv av mv wr => ∃ k a2 c2, k + g = tot ∧ tv = .slice a2 k c2 ∧ Hid (OwnS wr w.heap.size a2 k c2 ((T.drop x).take k)) ∧ Hid (Below w.heap.size w wr) ∧ Hid (k = tot ∨ At2 R ns T (x + k) nv av))
 case atStart => exact ⟨0, none, 0, by omega, rfl, HO0, Below.refl _ _, HAt⟩
 case round =>
  obtain ⟨k, a2, c2, hk, rfl, HO, HB, HAt⟩ := hrel
  by_cases hkt : k < tot
  ·rcases HAt.out with h0 | ⟨l1, l2, j, e1, rfl, rfl, e4, e5⟩
   ·omega
   ·cases l2 with
    | nil =>
     exfalso
     have := congrArg List.length e4
     rw [Cc, List.length_drop, List.length_drop, HTl.out] at this
     simp at this
     omega
    | cons d r =>
     have hjd := e5 d r rfl
     have hL : Lst wr B l R most cnt (l1 ++ d :: r) := by have := HL.out.keep HB.out; rw [e1] at this; exact this
     have hcp := hL.cpk (d := d) (by simp)
     have hg : wr.cell? ⟨d.a, 2, none⟩ = some (ptr (hdA R r)) := by
      have := (Lst.gap (l1 := l1 ++ [d]) (l2 := r) (by simpa using hL)).1
      rw [Cx] at this
      exact this
     have hdN := hL.nod d (by simp)
     have hdm := hdN.pk.many
     have hd6 := hdN.siz
     have HAl := All_any B d.p d.r d.n d.c d.ls wr hdN.pk hdN.fit (by omega)
     obtain ⟨q, hq⟩ : ∃ q, min (d.ls.length - j) (tot - k) = q := ⟨_, rfl⟩
     have HQ : Hid ((T.drop x).take k ++ (d.ls.drop j).take q = (T.drop x).take (k + q)) := by
      show _ = _
      rw [List.take_add, List.drop_drop, ← e4, Bp, List.drop_append_of_le_length (by omega), List.take_append_of_le_length (by rw [List.length_drop]; omega)]
     have HN : Hid (k + q = tot ∨ At2 R ns T (x + (k + q)) (ptr (hdA R r)) (.int .i64 ((0 : Nat) : Nat))) := by
      by_cases hlast : d.ls.length - j ≤ tot - k
      ·right
       have hqq : q = d.ls.length - j := by omega
       refine ⟨l1 ++ [d], r, 0, by rw [e1]; simp, rfl, rfl, ?_, ?_⟩
       ·rw [List.drop_zero, ← Nat.add_assoc, ← List.drop_drop, ← e4, List.drop_drop, Bp, show j + q = d.ls.length by omega, List.drop_left]
       ·intro d' r' h'
        exact (HOk.out d' (by rw [e1, h']; simp)).1
      ·left
       omega
     have hq0 : 0 < q ∧ q ≤ d.ls.length - j ∧ q ≤ tot - k := by omega
     have HDk : Hid (k + 65536 ≤ 1000000 + 65536 ∧ d.ls.length ≤ 65536) := by constructor <;> omega
     obtain ⟨v2, hv2⟩ : ∃ v2, hdA R r = v2 := ⟨_, rfl⟩
     rw [hv2] at hg HN
     have HOk2 : Hid (k + q ≤ 1000000) := by show _ ≤ _; omega
     obtain ⟨dk, hdk⟩ : ∃ dk, d.ls.length = dk := ⟨_, rfl⟩
     have HDl : Hid (d.ls.length = dk) := hdk
     rw [hdk] at hjd hq hq0
     have HG2 : Hid (∀ w', Below w.heap.size w w' → w'.cell? ⟨d.a, 2, none⟩ = some (ptr v2)) := fun w' hb => by
      have h3 : Lst w' B l R most cnt (l1 ++ d :: r) := by have := HL.out.keep hb; rw [e1] at this; exact this
      have := (Lst.gap (l1 := l1 ++ [d]) (l2 := r) (by simpa using h3)).1
      rw [Cx, hv2] at this
      exact this
     clear hL hdN e1 e4 e5 hv2 HAt hdk hdm
     rw [show hdA R (d :: r) = d.a from rfl]
     go_wp2_with fail
     refine HAl.mono ?_
     rintro e w1 ⟨hb, a3, n3, c3, rfl, hO3⟩
     have hn3 : n3 = dk := by have := hO3.len; have := HDl.out; omega
     subst hn3
     have HB1 := Ad HB hb
     have HO1 : Hid (OwnS w1 w.heap.size a2 k c2 ((T.drop x).take k)) := HO.out.keep hb
     obtain ⟨a4, c4, s4, hR4⟩ := hO3.rl.slice_l j (by omega)
     obtain ⟨a5, c5, s5, hR5⟩ := hR4.slice_h q (by omega)
     have HR5 : Hid (RdL w1 a5 q c5 ((d.ls.drop j).take q)) := hR5
     clear hb hO3 hR4 hR5 HAl hg
     obtain ⟨tk, htk⟩ : ∃ tk, tot - k = tk := ⟨_, rfl⟩
     obtain ⟨nj, hnj⟩ : ∃ nj, n3 - j = nj := ⟨_, rfl⟩
     have hmj : (tot : Int) - (k : Int) = tk := by omega
     rw [hnj] at s4 s5
     by_cases hlast : nj ≤ tk
     ·have hqq : q = nj := by omega
      subst hqq
      have hle : ¬ ((tk : Int) < (q : Int)) := by omega
      go_wp2_with (at_builtin; refine append_strs rfl (.tmp 44) (.tmp 55) rfl w.heap.size rfl HO1.out rfl HR5.out HOk2.out HB1.out.size ?_; intro a6 n6 c6 w6 hn6 HO6 HB6; replace HB6 : Hid (Below w.heap.size w w6) := HB1.out.trans HB6.out; have hg6 := HG2.out w6 HB6.out)
      subst hn6
      go_roundg (gk - q)
      case measure => omega
      case rel => exact ⟨k + q, _, _, by omega, rfl, by rw [HQ.out] at HO6; exact HO6, HB6, HN⟩
     ·have hqq : q = tk := by omega
      subst hqq
      have hle : (q : Int) < (nj : Int) := by omega
      go_wp2_with (at_builtin; refine append_strs rfl (.tmp 44) (.tmp 55) rfl w.heap.size rfl HO1.out rfl HR5.out HOk2.out HB1.out.size ?_; intro a6 n6 c6 w6 hn6 HO6 HB6; replace HB6 : Hid (Below w.heap.size w w6) := HB1.out.trans HB6.out; have hg6 := HG2.out w6 HB6.out)
      subst hn6
      go_roundg (gk - q)
      case measure => omega
      case rel => exact ⟨k + q, _, _, by omega, rfl, by rw [HQ.out] at HO6; exact HO6, HB6, HN⟩
  ·have hkk : k = tot := by omega
   subst hkk
   have hkt1 : ¬ ((k : Int) < (k : Int)) := by omega
   rw [HRes.out] at HO
   go_wp2
   go_ret
   exact ⟨HB.out, _, _, _, rfl, HO.out⟩
theorem sp_all (n : Nat) : spF n 0 (-1) = 0 ∧ spT n 0 (-1) = n := by
 have hA : spA n 0 = 0 := by unfold spA fs; rw [if_neg (by decide)]; decide
 have hB : spB n (-1) = (n : Int) - 1 := by unfold spB fs; rw [if_pos (by decide)]; omega
 unfold spF spT
 rw [hA, hB]
 by_cases h : n = 0
 ·rw [if_pos (by omega), if_pos (by omega)]; exact ⟨rfl, h.symm⟩
 ·rw [if_neg (by omega), if_neg (by omega)]; exact ⟨rfl, by omega⟩
theorem AllQ_any (B l R most cnt : Nat) (ns : List Nd) (w : World) (h : Lst w B l R most cnt ns) (hok : Ok most ns) (hT : (txN ns).length = cnt) (hcnt : cnt ≤ 1000000) :
  Calls Tryz.prog 107 #[ptr l] w fun e w' => Below w.heap.size w w' ∧ ∃ a2 n2 c2, e = .returned (.slice a2 n2 c2) ∧ OwnS w' w.heap.size a2 n2 c2 (txN ns) := by
 have HR := Range_any B l R most cnt ns 0 (-1) w h hok hT hcnt (by decide) (by decide)
 rw [(sp_all cnt).1, (sp_all cnt).2, List.drop_zero, List.take_of_length_le (by omega)] at HR
 clear h hok hT
 go_enter Tryz.func107, Tryz.ntmps107
 go_wp2_with fail
 refine HR.mono ?_
 rintro e w1 ⟨hb, a2, n2, c2, rfl, hO⟩
 have HB : Hid (Below w.heap.size w w1) := hb
 have HO : Hid (OwnS w1 w.heap.size a2 n2 c2 (txN ns)) := hO
 clear hb hO HR
 go_wp2
 go_ret
 exact ⟨HB.out, _, _, _, rfl, HO.out⟩
theorem str_beq (s t : BA) : (s.toList == t.toList) = decide (s = t) := by
 rw [toList_beq]
theorem str_bne (s t : BA) : (s.toList != t.toList) = decide (¬ s = t) := by
 simp [bne, str_beq]
theorem Lists_any (a a' : Option Addr) (n c c' : Nat) (ls : List BA) (w : World) (h : RdS w a n ls) (h' : RdS w a' n ls) :
  Calls Tryz.prog 106 #[.slice a n c, .slice a' n c'] w fun e w' => Below w.heap.size w w' ∧ e = .returned (.bool true) := by
 have hn : n ≤ 9223372036854775807 := h.max
 have H1 : Hid (RdS w a n ls) := h
 have H2 : Hid (RdS w a' n ls) := h'
 clear h h'
 go_enter Tryz.func106, Tryz.ntmps106
 go_wp2
 go_loopg [5] n (fun g iv wr => ∃ i : Nat, i + g = n ∧ iv = .int .i64 i ∧ Hid (Below w.heap.size w wr))
 case atStart => exact ⟨0, by omega, rfl, Below.refl _ _⟩
 case round =>
  obtain ⟨i, hi, rfl, HB⟩ := hrel
  by_cases hin : (i : Int) < n
  ·obtain ⟨b, off, ha, hc⟩ := (H1.out.keep HB.out).cell i (by omega)
   obtain ⟨b', off', ha', hc'⟩ := (H2.out.keep HB.out).cell i (by omega)
   subst ha ha'
   have hb2 := str_bne (ls.getD i ByteArray.empty) (ls.getD i ByteArray.empty)
   rw [show decide (¬ ls.getD i ByteArray.empty = ls.getD i ByteArray.empty) = false by simp] at hb2
   generalize ls.getD i ByteArray.empty = s at hc hc' hb2
   go_wp2_with fail
   go_quiet (fail)
   have HB2 : Hid (Below w.heap.size w (wr.drewN nq)) := HB.out.trans ((Aa wr nq).mono HB.out.size)
   generalize wr.drewN nq = W at *
   go_wp2
   go_roundg (gk - 1)
   case measure => omega
   case rel => exact ⟨i + 1, by omega, by go_num, HB2⟩
  ·go_wp2
   go_ret
   exact ⟨HB.out, rfl⟩
structure Left (w w' : World) (F F' : List Nat) : Prop where
 stay : Stay w w' F
 new : ∀ k ∈ F', k ∈ F ∨ w.heap.size ≤ k
theorem Goes.left {w w' : World} {l R : Nat} {ns ns' : List Nd} (h : Goes w w' l R ns ns') : Left w w' (l :: R :: fpN ns) (l :: R :: fpN ns') :=
 ⟨h.stay, fun k hk => by
  simp only [List.mem_cons] at hk ⊢
  rcases hk with hk | hk | hk
  ·exact .inl (.inl hk)
  ·exact .inl (.inr (.inl hk))
  ·exact (h.new k hk).imp (fun h => .inr (.inr h)) id⟩
theorem Lists_of (w : World) (a a' : Option Addr) (n c n' c' : Nat) (ls : List BA) (h : RdS w a n ls) (h' : RdS w a' n' ls) :
  Calls Tryz.prog 106 #[.slice a n c, .slice a' n' c'] w fun e w' => Below w.heap.size w w' ∧ e = .returned (.bool true) := by
 have e : n' = n := by rw [← h.len, ← h'.len]
 subst e
 exact Lists_any a a' n' c c' ls w h h'
end Go.Proofs.YtmjeljldmmkcpaaGreat
