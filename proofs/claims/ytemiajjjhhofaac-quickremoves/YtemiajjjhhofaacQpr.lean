/-
  Two lists side by side; Remove as what it leaves; how often a text is among others.
-/
import Derived.Test.YtemiajjjhhofaacQrem4
import Derived.Test.YtemiajjjhhofaacQkn
namespace Go.Proofs.Ytemiajjjhhofaac
open Go.RowKit Go.PlainAid

/-- Two lists that share no block. -/
structure Pr (w : World) (B p mp : Nat) (tp : List ByteArray) (F1 : List Nat) (q mq : Nat) (tq : List ByteArray) (F2 : List Nat) : Prop where
  a : QL w B p mp tp F1
  b : QL w B q mq tq F2
  d : ∀ k ∈ F1, k ∉ F2
theorem Pr.keep {w w' : World} {B p mp q mq : Nat} {tp tq : List ByteArray} {F1 F2 : List Nat} (h : Pr w B p mp tp F1 q mq tq F2) (hb : Below w.heap.size w w') : Pr w' B p mp tp F1 q mq tq F2 := ⟨h.a.keep hb, h.b.keep hb, h.d⟩
theorem Pr.one {w w' : World} {B p mp q mq : Nat} {tp tp' tq : List ByteArray} {F1 F1' F2 : List Nat} (h : Pr w B p mp tp F1 q mq tq F2) (hQ : QL w' B p mp tp' F1') (hL : Left w w' F1 F1') : Pr w' B p mp tp' F1' q mq tq F2 :=
  ⟨hQ, h.b.stay hL.stay (fun k hk hm => h.d k hm hk), fun k hk hm => by
    rcases hL.new k hk with h1 | h1
    · exact h.d k h1 hm
    · have := (h.b.blocks k hm).2; omega⟩
theorem Pr.two {w w' : World} {B p mp q mq : Nat} {tp tq tq' : List ByteArray} {F1 F2 F2' : List Nat} (h : Pr w B p mp tp F1 q mq tq F2) (hQ : QL w' B q mq tq' F2') (hL : Left w w' F2 F2') : Pr w' B p mp tp F1 q mq tq' F2' :=
  ⟨h.a.stay hL.stay (fun k hk hm => h.d k hk hm), hQ, fun k hk hm => by
    rcases hL.new k hm with h1 | h1
    · exact h.d k hk h1
    · have := (h.a.blocks k hk).2; omega⟩

def oth (l : List ByteArray) (s : ByteArray) : List ByteArray := l.filter fun t => !decide (t = s)
def tms (l : List ByteArray) (s : ByteArray) : Nat := (l.filter fun t => decide (t = s)).length
theorem tms_oth (s : ByteArray) : ∀ l : List ByteArray, tms l s + (oth l s).length = l.length
  | [] => rfl
  | x :: r => by
    have := tms_oth s r
    unfold tms oth at this ⊢
    by_cases h : x = s
    · simp only [List.filter_cons, h, decide_true, Bool.not_true, if_true, List.length_cons]
      simp; omega
    · simp only [List.filter_cons, h, decide_false, Bool.not_false, if_true, List.length_cons]
      simp; omega
theorem kp_all (s : ByteArray) : ∀ (l : List ByteArray) (m : Nat), l.length ≤ m → kp s m l = oth l s
  | [], _, _ => rfl
  | x :: r, m, h => by
    rw [List.length_cons] at h
    unfold kp oth
    rw [rem]
    by_cases e : x = s
    · rw [if_pos ⟨e, by omega⟩]
      have := kp_all s r (m - 1) (by omega)
      unfold kp oth at this
      rw [this, List.filter_cons, if_neg (by simp [e])]
    · rw [if_neg (fun hh => e hh.1)]
      have := kp_all s r m (by omega)
      unfold kp oth at this
      rw [List.filter_cons, if_pos (by simp [e]), ← this]
theorem rp_all (s : ByteArray) (l : List ByteArray) (m : Nat) (h : l.length ≤ m) : rp s m l = oth l s := by
  unfold rp
  rw [kp_all s l.reverse m (by rw [List.length_reverse]; exact h)]
  unfold oth
  rw [List.filter_reverse, List.reverse_reverse]
theorem kp_none (s : ByteArray) : ∀ (l : List ByteArray) (m : Nat), (∀ t ∈ l, t ≠ s) → kp s m l = l
  | [], _, _ => rfl
  | x :: r, m, h => by
    have h1 := h x (by simp)
    have h2 := kp_none s r m (fun t ht => h t (List.mem_cons_of_mem _ ht))
    unfold kp at h2 ⊢
    rw [rem, if_neg (fun hh => h1 hh.1), h2]
theorem oth_ne (l : List ByteArray) (s : ByteArray) : ∀ t ∈ oth l s, t ≠ s := by
  intro t ht
  have := (List.mem_filter.1 ht).2
  simpa using this
theorem rmv_zero (l : List ByteArray) (s : ByteArray) : rmv l s 0 = oth l s := by
  unfold rmv
  rw [if_neg (by decide), if_neg (by decide)]
  exact kp_all s l _ (Nat.le_refl _)
theorem rmv_back (l : List ByteArray) (s : ByteArray) (h : l.length ≤ 100) : rmv l s (-100) = oth l s := by
  unfold rmv
  rw [if_pos (by decide)]
  exact rp_all s l _ (by show l.length ≤ min 100 l.length; omega)
theorem rmv_gone (l : List ByteArray) (s : ByteArray) : rmv (oth l s) s 1 = oth l s := by
  unfold rmv
  rw [if_neg (by decide), if_pos (by decide)]
  exact kp_none s _ _ (oth_ne l s)
theorem tms_oth0 (l : List ByteArray) (s : ByteArray) : tms (oth l s) s = 0 := by
  unfold tms
  rw [List.length_eq_zero_iff, List.filter_eq_nil_iff]
  intro t ht
  simpa using oth_ne l s t ht
theorem tms_snoc (l : List ByteArray) (x s : ByteArray) : tms (l ++ [x]) s = tms l s + (if x = s then 1 else 0) := by
  unfold tms
  rw [List.filter_append, List.length_append]
  by_cases h : x = s <;> simp [h]
theorem tms_le (l : List ByteArray) (s : ByteArray) : tms l s ≤ l.length := by unfold tms; exact List.length_filter_le _ _

set_option maxRecDepth 100000 in
theorem Times_any (a : Option Addr) (n c : Nat) (ls : List ByteArray) (s : ByteArray) (w : World) (hR : RdS w a n ls) (hn : n ≤ 1000000) :
    Calls Try.prog 9 #[.slice a n c, .string s] w fun e w' => e = .returned (.int .i64 (tms ls s : Nat)) ∧ w' = w := by
  have HR : Hid (RdS w a n ls) := hR
  have HL : Hid (ls.length = n) := hR.len
  clear hR
  go_enter Try.func9, Try.ntmps9
  go_wp2
  go_loopg [5, 6] n (fun g nv iv wr => w = wr ∧ ∃ i k : Nat, i + g = n ∧ iv = .int .i64 i ∧ nv = .int .i64 k ∧ k ≤ i ∧ Hid (tms (ls.take i) s = k))
  case atStart => exact ⟨rfl, 0, 0, by omega, rfl, rfl, by omega, rfl⟩
  case round =>
    obtain ⟨rfl, i, k, hi, rfl, rfl, hki, HK⟩ := hrel
    by_cases h8 : (i : Int) < n
    · obtain ⟨b, off, ha, hc⟩ := HR.out.cell i (by omega)
      subst ha
      have hil : i < ls.length := by have := HL.out; omega
      have HS : Hid (ls.take (i + 1) = ls.take i ++ [ls.getD i ByteArray.empty]) := take_snocB ls i hil
      generalize ls.getD i ByteArray.empty = t at hc HS
      have hbq := str_beq t s
      by_cases hk : t = s
      · have HE : Hid (tms (ls.take (i + 1)) s = k + 1) := by show _ = _; rw [HS.out, tms_snoc, HK.out, if_pos hk]
        have hkb : (t.toList == s.toList) = true := by rw [hbq]; exact decide_eq_true hk
        have hkt : t.toList = s.toList := by rw [hk]
        clear hbq hk
        go_wp2
        go_roundg (gk - 1)
        case measure => omega
        case rel => exact ⟨rfl, i + 1, k + 1, by omega, by go_num, by go_num, by omega, HE⟩
      · have HE : Hid (tms (ls.take (i + 1)) s = k) := by show _ = _; rw [HS.out, tms_snoc, HK.out, if_neg hk]; rfl
        have hkb : (t.toList == s.toList) = false := by rw [hbq]; exact decide_eq_false hk
        have hkt : ¬ (t.toList = s.toList) := by simpa using hkb
        clear hbq hk
        go_wp2
        go_roundg (gk - 1)
        case measure => omega
        case rel => exact ⟨rfl, i + 1, k, by omega, by go_num, rfl, by omega, HE⟩
    · have HE : Hid (tms ls s = k) := by
        have := HK.out
        rw [List.take_of_length_le (by have := HL.out; omega)] at this
        exact this
      go_wp2
      go_ret
      exact ⟨by rw [HE.out]; rfl, rfl⟩

set_option maxRecDepth 100000 in
set_option maxHeartbeats 400000 in
theorem removes_any (a : Option Addr) (n c : Nat) (ls : List ByteArray) (most : Int) (s0 : ByteArray) (w : World) (hR : RdS w a n ls) :
    Calls Try.prog 3 #[.int .i64 most, .slice a n c, .string s0] w fun e w' => e = .returned (.bool true) ∧ Below w.heap.size w w' := by
  have HF := Few_any a n c ls 40 1 w hR (by decide) (by decide)
  have HCu := fun w => Cut_any s0 1 w (by decide)
  have HWi := fun w => Within_any most 1 9 w (by decide) (by decide) (by decide)
  generalize cutB s0 1 = s at HCu
  clear hR
  go_enter Try.func3, Try.ntmps3
  go_wp2_with fail
  refine HF.mono ?_
  rintro e w1 ⟨hb, a1, n1, c1, rfl, L, hO1, hSh⟩
  have HB1 : Hid (Below w.heap.size w w1) := hb
  have HO1 : Hid (OwnS w1 w.heap.size a1 n1 c1 L) := hO1
  have HSh : Hid (Short L 40 1) := hSh
  have hn1 : n1 ≤ 40 := by have h1 := hSh.1; have h2 := hO1.len; omega
  have HLl : Hid (L.length = n1) := hO1.len
  clear hb hO1 hSh HF
  go_wp2_with fail
  refine (HCu w1).mono ?_
  rintro e w1 ⟨rfl, rfl⟩
  clear HCu
  go_wp2_with fail
  refine (HWi w1).mono ?_
  rintro e w1 ⟨rfl, z, hz1, hz2, rfl⟩
  obtain ⟨mo, hmo⟩ : ∃ mo : Nat, max z 1 = mo := ⟨z.toNat, by omega⟩
  have HN := QNew z w1 mo hmo (by omega)
  clear HWi hmo hz1 hz2
  go_wp2_with fail
  refine HN.mono ?_
  rintro e w2 ⟨hb, p, F1, rfl, hQ⟩
  have HB2 := step_below HB1 hb
  have HO2 : Hid (OwnS w2 w.heap.size a1 n1 c1 L) := HO1.out.keep hb
  have HQ2 : Hid (QL w2 w.heap.size p mo [] F1) := hQ.down HB1.out.size
  have HN2 := QNew 5 w2 5 (by decide) (by decide)
  clear hb hQ HN
  go_wp2_with fail
  refine HN2.mono ?_
  rintro e w3 ⟨hb, q, F2, rfl, hQ⟩
  have HB3 := step_below HB2 hb
  have HO3 : Hid (OwnS w3 w.heap.size a1 n1 c1 L) := HO2.out.keep hb
  have HPr : Hid (Pr w3 w.heap.size p mo [] F1 q 5 [] F2) := ⟨HQ2.out.keep hb, hQ.down HB2.out.size, fun k hk hm => by
    have h1 := (HQ2.out.blocks k hk).2
    have h2 := (hQ.blocks k hm).1
    omega⟩
  have HRi := QRight w3 w.heap.size p mo [] F1 HPr.out.a a1 n1 c1 L (HPr.out.a.rdf HO3.out) (short_fit HSh.out (by decide)) (by simp; omega)
  rw [List.nil_append] at HRi
  have hnn := notnil w3 p
  have hnq := notnil w3 q
  clear hb hQ HN2
  go_wp2_with fail
  refine HRi.mono ?_
  rintro e w4 ⟨rfl, F3, hQ4, hL4⟩
  have HB4 : Hid (Below w.heap.size w w4) := HB3.out.trans (QDoes.below HPr.out.a hL4)
  have HO4 : Hid (OwnS w4 w.heap.size a1 n1 c1 L) := HPr.out.a.row HO3.out hL4
  have HP4 : Hid (Pr w4 w.heap.size p mo L F3 q 5 [] F2) := HPr.out.one hQ4 hL4
  have HRi2 := QRight w4 w.heap.size q 5 [] F2 HP4.out.b a1 n1 c1 L (HP4.out.b.rdf HO4.out) (short_fit HSh.out (by decide)) (by simp; omega)
  rw [List.nil_append] at HRi2
  clear hQ4 hL4 HRi hnn hnq
  go_wp2_with fail
  refine HRi2.mono ?_
  rintro e w5 ⟨rfl, F4, hQ5, hL5⟩
  have HB5 : Hid (Below w.heap.size w w5) := HB4.out.trans (QDoes.below HP4.out.b hL5)
  have HO5 : Hid (OwnS w5 w.heap.size a1 n1 c1 L) := HP4.out.b.row HO4.out hL5
  have HP5 : Hid (Pr w5 w.heap.size p mo L F3 q 5 L F4) := HP4.out.two hQ5 hL5
  have HTi := Times_any a1 n1 c1 L s w5 HO5.out.rd (by omega)
  have hto := tms_oth s L
  have HOl : Hid (L.length - (oth L s).length = tms L s) := by show _ = _; omega
  obtain ⟨N, hN⟩ : ∃ N, tms L s = N := ⟨_, rfl⟩
  rw [hN] at HTi HOl
  have HNl : Hid ((oth L s).length = n1 - N ∧ N ≤ n1) := by have := HLl.out; rw [hN] at hto; exact ⟨by omega, by omega⟩
  have hNn : N ≤ n1 := HNl.out.2
  clear hQ5 hL5 HRi2 hto hN
  go_wp2_with fail
  refine HTi.mono ?_
  rintro e w5 ⟨rfl, rfl⟩
  have HR1 := QRemove w5 w.heap.size p mo L F3 HP5.out.a (by have := HLl.out; omega) s 0 (by decide)
  rw [rmv_zero, HOl.out] at HR1
  clear HTi
  go_wp2_with fail
  refine HR1.mono ?_
  rintro e w6 ⟨rfl, F5, hQ6, hL6⟩
  have HB6 : Hid (Below w.heap.size w w6) := HB5.out.trans (QDoes.below HP5.out.a hL6)
  have HP6 : Hid (Pr w6 w.heap.size p mo (oth L s) F5 q 5 L F4) := HP5.out.one hQ6 hL6
  have HR2 := QRemove w6 w.heap.size q 5 L F4 HP6.out.b (by have := HLl.out; omega) s (-100) (by decide)
  rw [rmv_back L s (by have := HLl.out; omega), HOl.out] at HR2
  clear hQ6 hL6 HR1
  go_wp2_with fail
  refine HR2.mono ?_
  rintro e w7 ⟨rfl, F6, hQ7, hL7⟩
  have HB7 : Hid (Below w.heap.size w w7) := HB6.out.trans (QDoes.below HP6.out.b hL7)
  have HP7 : Hid (Pr w7 w.heap.size p mo (oth L s) F5 q 5 (oth L s) F6) := HP6.out.two hQ7 hL7
  have hol : (oth L s).length ≤ 40 := by have := HNl.out.1; omega
  have HA1 := QAll w7 w.heap.size p mo (oth L s) F5 HP7.out.a (by omega)
  have hT0 := tms_oth0 L s
  have hG1 := rmv_gone L s
  obtain ⟨M, hM⟩ : ∃ M, oth L s = M := ⟨_, rfl⟩
  rw [hM] at HA1 HP7 hol HNl hT0 hG1
  clear hQ7 hL7 HR2 HOl
  go_wp2_with fail
  refine HA1.mono ?_
  rintro e w8 ⟨hb, a8, n8, c8, rfl, hO8⟩
  have HB8 := step_below HB7 hb
  have HP8 : Hid (Pr w8 w.heap.size p mo M F5 q 5 M F6) := HP7.out.keep hb
  have HO8 : Hid (OwnS w8 w7.heap.size a8 n8 c8 M) := hO8
  have HA2 := QAll w8 w.heap.size q 5 M F6 HP8.out.b (by omega)
  clear hb hO8 HA1
  go_wp2_with fail
  refine HA2.mono ?_
  rintro e w9 ⟨hb, a9, n9, c9, rfl, hO9⟩
  have HB9 := step_below HB8 hb
  have HP9 : Hid (Pr w9 w.heap.size p mo M F5 q 5 M F6) := HP8.out.keep hb
  have HLs := Lists_of w9 a8 a9 n8 c8 n9 c9 M (HO8.out.keep hb).rd hO9.rd
  clear hb hO9 HA2
  go_wp2_with fail
  refine HLs.mono ?_
  rintro e w10 ⟨hb, rfl⟩
  have HB10 := step_below HB9 hb
  have HP10 : Hid (Pr w10 w.heap.size p mo M F5 q 5 M F6) := HP9.out.keep hb
  have HA3 := QAll w10 w.heap.size p mo M F5 HP10.out.a (by omega)
  clear hb HLs
  go_wp2_with fail
  refine HA3.mono ?_
  rintro e w11 ⟨hb, a11, n11, c11, rfl, hO11⟩
  have HB11 := step_below HB10 hb
  have HP11 : Hid (Pr w11 w.heap.size p mo M F5 q 5 M F6) := HP10.out.keep hb
  have HTi := Times_any a11 n11 c11 M s w11 hO11.rd (by have := hO11.len; omega)
  rw [hT0] at HTi
  clear hb hO11 HA3
  go_wp2_with fail
  refine HTi.mono ?_
  rintro e w11 ⟨rfl, rfl⟩
  have HLe := QLen w11 w.heap.size p mo M F5 HP11.out.a
  rw [HNl.out.1] at HLe
  obtain ⟨d, hd⟩ : ∃ d, n1 - N = d := ⟨_, rfl⟩
  rw [hd] at HLe
  have hdi : (n1 : Int) - (N : Int) = d := by omega
  clear HTi
  go_wp2_with fail
  refine HLe.mono ?_
  rintro e w11 ⟨rfl, rfl⟩
  have HR3 := QRemove w11 w.heap.size p mo M F5 HP11.out.a (by omega) s 1 (by decide)
  rw [hG1, Nat.sub_self] at HR3
  clear HLe hG1 hT0
  go_wp2_with fail
  refine HR3.mono ?_
  rintro e w12 ⟨rfl, F7, hQ12, hL12⟩
  have HB12 : Hid (Below w.heap.size w w12) := HB11.out.trans (QDoes.below HP11.out.a hL12)
  have HK := knownQ_any w12
  clear hQ12 hL12 HR3
  go_wp2_with fail
  refine HK.mono ?_
  rintro e w13 ⟨hb, rfl⟩
  have HB13 := step_below HB12 hb
  clear hb
  go_wp2
  go_ret
  exact ⟨rfl, HB13.out⟩
end Go.Proofs.Ytemiajjjhhofaac
