/-
  PopLeft, PopRight, Range, All, Nodes.
-/
import Derived.Test.YtemiajjjhhofaabQdrop
import Derived.Test.YtemiajjjhhofaabStr2
namespace Go.Proofs.Ytemiajjjhhofaab
open Go.RowKit Go.PlainAid

theorem sp_lt (n : Nat) (a b : Int) (h : 0 < n) : spF n a b < n := by
  unfold spF
  split
  · exact h
  · have : 0 ≤ spA n a := by unfold spA; omega
    have : spB n b ≤ (n : Int) - 1 := by unfold spB; omega
    omega
theorem plc_nat {m k : Nat} (h : k < m) : plc m (k : Int) = some k := by unfold plc; rw [if_pos (by omega), if_pos (by omega)]; simp
theorem sp_left (n : Nat) : spF n 1 (-1) = (if n ≤ 1 then 0 else 1) ∧ spT n 1 (-1) = (if n ≤ 1 then 0 else n) := by
  have hA : spA n 1 = 1 := by unfold spA fs; rw [if_neg (by decide)]; decide
  have hB : spB n (-1) = (n : Int) - 1 := by unfold spB fs; rw [if_pos (by decide)]; omega
  unfold spF spT
  rw [hA, hB]
  by_cases h : n ≤ 1
  · rw [if_pos (by omega), if_pos h, if_pos (by omega), if_pos h]; exact ⟨rfl, rfl⟩
  · rw [if_neg (by omega), if_neg h, if_neg (by omega), if_neg h]
    exact ⟨rfl, by omega⟩
theorem sp_right (n : Nat) : spF n 0 (-2) = 0 ∧ spT n 0 (-2) = n - 1 := by
  have hA : spA n 0 = 0 := by unfold spA fs; rw [if_neg (by decide)]; decide
  have hB : spB n (-2) = (n : Int) - 2 := by unfold spB fs; rw [if_pos (by decide)]; omega
  unfold spF spT
  rw [hA, hB]
  by_cases h : n ≤ 1
  · rw [if_pos (by omega), if_pos (by omega)]; exact ⟨rfl, by omega⟩
  · rw [if_neg (by omega), if_neg (by omega)]; exact ⟨rfl, by omega⟩
theorem cut_left (T : List ByteArray) : (T.take (spT T.length 1 (-1))).drop (spF T.length 1 (-1)) = T.tail := by
  rw [(sp_left T.length).1, (sp_left T.length).2]
  by_cases h : T.length ≤ 1
  · rw [if_pos h, if_pos h]
    match T, h with
    | [], _ => rfl
    | [x], _ => rfl
  · rw [if_neg h, if_neg h, List.take_length, List.drop_one]
theorem cut_right (T : List ByteArray) : (T.take (spT T.length 0 (-2))).drop (spF T.length 0 (-2)) = T.dropLast := by
  rw [(sp_right T.length).1, (sp_right T.length).2, List.drop_zero, List.dropLast_eq_take]

theorem sp_len (T : List ByteArray) (a b : Int) : ((T.take (spT T.length a b)).drop (spF T.length a b)).length = spT T.length a b - spF T.length a b := by
  have := sp_le T.length a b
  rw [List.length_drop, List.length_take]; omega

set_option maxRecDepth 100000 in
set_option maxHeartbeats 400000 in
theorem PopLeft_any (B l R most cnt : Nat) (ns : List Nd) (w : World) (h : Lst w B l R most cnt ns) (hok : Ok most ns) (hT : (txN ns).length = cnt) (hcnt : cnt ≤ 1000000) :
    Calls Try.prog 27 #[ptr l] w fun e w' => e = .returned (.tuple #[.string (txt (txN ns) 0), .bool (decide (0 < cnt))]) ∧ Does w B l R most (cnt - 1) ns (txN ns).tail w' := by
  have HTr := fun w1 (hb : Below w.heap.size w w1) => Trim_any B l R most cnt ns 1 (-1) w1 (h.keep hb) hok hT hcnt (by decide) (by decide)
  have hl := sp_len (txN ns) 1 (-1)
  rw [cut_left, List.length_tail, hT] at hl
  have hc := cut_left (txN ns)
  rw [hT] at hc
  simp only [hc, ← hl] at HTr
  have HA : Calls Try.prog 44 #[ptr l, .int .i64 0] w fun e w' => Below w.heap.size w w' ∧ e = .returned (.tuple #[.string (txt (txN ns) 0), .bool (decide (0 < cnt))]) := by
    rcases Nat.eq_zero_or_pos cnt with h0 | h0
    · have := AtQ_none B l R most cnt ns 0 w h hcnt (by unfold plc; rw [if_pos (by decide), if_neg (by omega)])
      have hn : txN ns = [] := List.length_eq_zero_iff.1 (by omega)
      rw [hn, h0]
      exact this
    · have := AtQ_some B l R most cnt ns 0 0 w h hT hcnt (plc_nat h0)
      rw [decide_eq_true h0]
      exact this
  generalize txt (txN ns) 0 = s at HA ⊢
  generalize decide (0 < cnt) = b at HA ⊢
  clear h hok hT hl hc
  go_enter Try.func27, Try.ntmps27
  go_wp2_with fail
  refine HA.mono ?_
  rintro e w1 ⟨hb, rfl⟩
  have HB : Hid (Below w.heap.size w w1) := hb
  have HT1 := HTr w1 hb
  clear hb HTr HA
  go_wp2_with fail
  refine HT1.mono ?_
  rintro e w2 ⟨rfl, ns2, h1, h2, h3, h4⟩
  have HD : Hid (Does w B l R most (cnt - 1) ns (txN ns).tail w2) := ⟨ns2, h1, h2.first HB.out, h3, h4⟩
  clear h1 h2 h3 h4 HT1
  go_wp2
  go_ret2
  exact ⟨rfl, HD.out⟩
set_option maxRecDepth 100000 in
set_option maxHeartbeats 400000 in
theorem PopRight_any (B l R most cnt : Nat) (ns : List Nd) (w : World) (h : Lst w B l R most cnt ns) (hok : Ok most ns) (hT : (txN ns).length = cnt) (hcnt : cnt ≤ 1000000) :
    Calls Try.prog 26 #[ptr l] w fun e w' => e = .returned (.tuple #[.string (txt (txN ns) (cnt - 1)), .bool (decide (0 < cnt))]) ∧ Does w B l R most (cnt - 1) ns (txN ns).dropLast w' := by
  have HTr := fun w1 (hb : Below w.heap.size w w1) => Trim_any B l R most cnt ns 0 (-2) w1 (h.keep hb) hok hT hcnt (by decide) (by decide)
  have hl := sp_len (txN ns) 0 (-2)
  rw [cut_right, List.length_dropLast, hT] at hl
  have hc := cut_right (txN ns)
  rw [hT] at hc
  simp only [hc, ← hl] at HTr
  have HA : Calls Try.prog 44 #[ptr l, .int .i64 (-1)] w fun e w' => Below w.heap.size w w' ∧ e = .returned (.tuple #[.string (txt (txN ns) (cnt - 1)), .bool (decide (0 < cnt))]) := by
    rcases Nat.eq_zero_or_pos cnt with h0 | h0
    · have := AtQ_none B l R most cnt ns (-1) w h hcnt (by unfold plc; rw [if_neg (by decide), if_neg (by omega)])
      have hn : txN ns = [] := List.length_eq_zero_iff.1 (by omega)
      rw [hn, h0]
      exact this
    · have := AtQ_some B l R most cnt ns (-1) (cnt - 1) w h hT hcnt (by unfold plc; rw [if_neg (by decide), if_pos (by omega)]; congr 1; omega)
      rw [decide_eq_true h0]
      exact this
  generalize txt (txN ns) (cnt - 1) = s at HA ⊢
  generalize decide (0 < cnt) = b at HA ⊢
  clear h hok hT hl hc
  go_enter Try.func26, Try.ntmps26
  go_wp2_with fail
  refine HA.mono ?_
  rintro e w1 ⟨hb, rfl⟩
  have HB : Hid (Below w.heap.size w w1) := hb
  have HT1 := HTr w1 hb
  clear hb HTr HA
  go_wp2_with fail
  refine HT1.mono ?_
  rintro e w2 ⟨rfl, ns2, h1, h2, h3, h4⟩
  have HD : Hid (Does w B l R most (cnt - 1) ns (txN ns).dropLast w2) := ⟨ns2, h1, h2.first HB.out, h3, h4⟩
  clear h1 h2 h3 h4 HT1
  go_wp2
  go_ret2
  exact ⟨rfl, HD.out⟩

/-- Where Range stands. -/
def At2 (R : Nat) (ns : List Nd) (T : List ByteArray) (p : Nat) (nv av : Value) : Prop :=
  ∃ l1 l2 j, ns = l1 ++ l2 ∧ nv = ptr (hdA R l2) ∧ av = .int .i64 (j : Nat) ∧ (txN l2).drop j = T.drop p ∧ ∀ d r, l2 = d :: r → j < d.ls.length

set_option maxRecDepth 100000 in
set_option maxHeartbeats 400000 in
theorem Range_any (B l R most cnt : Nat) (ns : List Nd) (a b : Int) (w : World) (h : Lst w B l R most cnt ns) (hok : Ok most ns) (hT : (txN ns).length = cnt) (hcnt : cnt ≤ 1000000) (ha : I64 a) (hb : I64 b) :
    Calls Try.prog 29 #[ptr l, .int .i64 a, .int .i64 b] w fun e w' => Below w.heap.size w w' ∧ ∃ a2 n2 c2, e = .returned (.slice a2 n2 c2) ∧ OwnS w' w.heap.size a2 n2 c2 (((txN ns).take (spT cnt a b)).drop (spF cnt a b)) := by
  have hc := h.ccnt
  have HS := span_any cnt a b w ha hb hcnt
  obtain ⟨h1, h2⟩ := sp_le cnt a b
  have hlt := sp_lt cnt a b
  generalize spF cnt a b = x at *
  generalize spT cnt a b = y at *
  have HL : Hid (Lst w B l R most cnt ns) := h
  have HOk : Hid (Ok most ns) := hok
  have HT : Hid ((txN ns).length = cnt) := hT
  obtain ⟨tot, htot⟩ : ∃ tot, y - x = tot := ⟨_, rfl⟩
  have hti : (y : Int) - (x : Int) = tot := by omega
  obtain ⟨T, hTT⟩ : ∃ T, txN ns = T := ⟨_, rfl⟩
  have HTT : Hid (txN ns = T) := hTT
  have HTl : Hid (T.length = cnt) := by rw [← hTT]; exact hT
  have HF : Calls Try.prog 60 #[ptr l, .int .i64 (x : Nat)] w fun e w' => (∃ nv av bv, e = .returned (.tuple #[nv, av, bv]) ∧ (0 = tot ∨ At2 R ns T (x + 0) nv av)) ∧ w' = w := by
    rcases Nat.eq_zero_or_pos cnt with h0 | h0
    · refine (find_none B l R most cnt ns x w h hcnt (by unfold plc; rw [if_pos (by omega), if_neg (by omega)])).mono ?_
      rintro e w' ⟨rfl, rfl⟩
      exact ⟨⟨_, _, _, rfl, .inl (by omega)⟩, rfl⟩
    · refine (find_some B l R most cnt ns x x w h hT hcnt (plc_nat (hlt h0))).mono ?_
      rintro e w' ⟨⟨l1, d, l2, j, e1, e2, e3, rfl⟩, rfl⟩
      refine ⟨⟨_, _, _, rfl, .inr ⟨l1, d :: l2, j, e1, rfl, rfl, ?_, ?_⟩⟩, rfl⟩
      · rw [← hTT, e1, txN_append, Nat.add_zero, ← e2, ← List.drop_drop, List.drop_left]
      · intro d' r' h'
        injection h' with h1 h2
        rw [← h1]; exact e3
  have HRes : Hid ((T.drop x).take tot = (T.take y).drop x) := by
    show _ = _
    rw [List.drop_take, ← htot]
  have HO0 : Hid (OwnS w w.heap.size none 0 0 ((T.drop x).take 0)) := World.ownsRow_nil w _ 9 1
  rw [hTT]
  clear h hok hT hTT htot hlt
  go_enter Try.func29, Try.ntmps29
  go_wp2_with fail
  refine HS.mono ?_
  rintro e w ⟨rfl, rfl⟩
  go_wp2_with fail
  refine HF.mono ?_
  rintro e w ⟨⟨nv0, av0, bv0, rfl, hAt⟩, rfl⟩
  have HAt : Hid (0 = tot ∨ At2 R ns T (x + 0) nv0 av0) := hAt
  clear hAt HF HS
  go_wp2
  go_loopg [9, 10, 11, 13] tot (fun g tv nv av mv wr => ∃ k a2 c2, k + g = tot ∧ tv = .slice a2 k c2 ∧ Hid (OwnS wr w.heap.size a2 k c2 ((T.drop x).take k)) ∧ Hid (Below w.heap.size w wr) ∧ Hid (k = tot ∨ At2 R ns T (x + k) nv av))
  case atStart => exact ⟨0, none, 0, by omega, rfl, HO0, Below.refl _ _, HAt⟩
  case round =>
    obtain ⟨k, a2, c2, hk, rfl, HO, HB, HAt⟩ := hrel
    by_cases hkt : k < tot
    · rcases HAt.out with h0 | ⟨l1, l2, j, e1, rfl, rfl, e4, e5⟩
      · omega
      · cases l2 with
        | nil =>
          exfalso
          have := congrArg List.length e4
          rw [txN_nil, List.length_drop, List.length_drop, HTl.out] at this
          simp at this
          omega
        | cons d r =>
          have hjd := e5 d r rfl
          have hL : Lst wr B l R most cnt (l1 ++ d :: r) := by have := HL.out.keep HB.out; rw [e1] at this; exact this
          have hcp := hL.cpk (d := d) (by simp)
          have hg : wr.cell? ⟨d.a, 2, none⟩ = some (ptr (hdA R r)) := by
            have := (Lst.gap (l1 := l1 ++ [d]) (l2 := r) (by simpa using hL)).1
            rw [laA_snoc] at this
            exact this
          have hdN := hL.nod d (by simp)
          have hdm := hdN.pk.many
          have hd6 := hdN.siz
          have HAl := All_any B d.p d.r d.n d.c d.ls wr hdN.pk hdN.fit (by omega)
          obtain ⟨q, hq⟩ : ∃ q, min (d.ls.length - j) (tot - k) = q := ⟨_, rfl⟩
          have HQ : Hid ((T.drop x).take k ++ (d.ls.drop j).take q = (T.drop x).take (k + q)) := by
            show _ = _
            rw [List.take_add, List.drop_drop, ← e4, txN_cons, List.drop_append_of_le_length (by omega), List.take_append_of_le_length (by rw [List.length_drop]; omega)]
          have HN : Hid (k + q = tot ∨ At2 R ns T (x + (k + q)) (ptr (hdA R r)) (.int .i64 ((0 : Nat) : Nat))) := by
            by_cases hlast : d.ls.length - j ≤ tot - k
            · right
              have hqq : q = d.ls.length - j := by omega
              refine ⟨l1 ++ [d], r, 0, by rw [e1]; simp, rfl, rfl, ?_, ?_⟩
              · rw [List.drop_zero, ← Nat.add_assoc, ← List.drop_drop, ← e4, List.drop_drop, txN_cons, show j + q = d.ls.length by omega, List.drop_left]
              · intro d' r' h'
                exact (HOk.out d' (by rw [e1, h']; simp)).1
            · left
              omega
          have hq0 : 0 < q ∧ q ≤ d.ls.length - j ∧ q ≤ tot - k := by omega
          have HDk : Hid (k + 65536 ≤ 1000000 + 65536 ∧ d.ls.length ≤ 65536) := by constructor <;> omega
          obtain ⟨v2, hv2⟩ : ∃ v2, hdA R r = v2 := ⟨_, rfl⟩
          rw [hv2] at hg HN
          have HOk2 : Hid (k + q ≤ 1000000) := by show _ ≤ _; omega
          obtain ⟨dk, hdk⟩ : ∃ dk, d.ls.length = dk := ⟨_, rfl⟩
          have HDl : Hid (d.ls.length = dk) := hdk
          rw [hdk] at hjd hq hq0
          have HG2 : Hid (∀ w', Below w.heap.size w w' → w'.cell? ⟨d.a, 2, none⟩ = some (ptr v2)) := fun w' hb => by
            have h3 : Lst w' B l R most cnt (l1 ++ d :: r) := by have := HL.out.keep hb; rw [e1] at this; exact this
            have := (Lst.gap (l1 := l1 ++ [d]) (l2 := r) (by simpa using h3)).1
            rw [laA_snoc, hv2] at this
            exact this
          clear hL hdN e1 e4 e5 hv2 HAt hdk hdm
          rw [show hdA R (d :: r) = d.a from rfl]
          go_wp2_with fail
          refine HAl.mono ?_
          rintro e w1 ⟨hb, a3, n3, c3, rfl, hO3⟩
          have hn3 : n3 = dk := by have := hO3.len; have := HDl.out; omega
          subst hn3
          have HB1 := step_below HB hb
          have HO1 : Hid (OwnS w1 w.heap.size a2 k c2 ((T.drop x).take k)) := HO.out.keep hb
          obtain ⟨a4, c4, s4, hR4⟩ := hO3.rl.slice_l j (by omega)
          obtain ⟨a5, c5, s5, hR5⟩ := hR4.slice_h q (by omega)
          have HR5 : Hid (RdL w1 a5 q c5 ((d.ls.drop j).take q)) := hR5
          clear hb hO3 hR4 hR5 HAl hg
          obtain ⟨tk, htk⟩ : ∃ tk, tot - k = tk := ⟨_, rfl⟩
          obtain ⟨nj, hnj⟩ : ∃ nj, n3 - j = nj := ⟨_, rfl⟩
          have hmj : (tot : Int) - (k : Int) = tk := by omega
          rw [hnj] at s4 s5
          by_cases hlast : nj ≤ tk
          · have hqq : q = nj := by omega
            subst hqq
            have hle : ¬ ((tk : Int) < (q : Int)) := by omega
            go_wp2_with (at_builtin; refine append_strs rfl (.tmp 44) (.tmp 55) rfl w.heap.size rfl HO1.out rfl HR5.out HOk2.out HB1.out.size ?_; intro a6 n6 c6 w6 hn6 HO6 HB6; replace HB6 : Hid (Below w.heap.size w w6) := HB1.out.trans HB6.out; have hg6 := HG2.out w6 HB6.out)
            subst hn6
            go_roundg (gk - q)
            case measure => omega
            case rel => exact ⟨k + q, _, _, by omega, rfl, by rw [HQ.out] at HO6; exact HO6, HB6, HN⟩
          · have hqq : q = tk := by omega
            subst hqq
            have hle : (q : Int) < (nj : Int) := by omega
            go_wp2_with (at_builtin; refine append_strs rfl (.tmp 44) (.tmp 55) rfl w.heap.size rfl HO1.out rfl HR5.out HOk2.out HB1.out.size ?_; intro a6 n6 c6 w6 hn6 HO6 HB6; replace HB6 : Hid (Below w.heap.size w w6) := HB1.out.trans HB6.out; have hg6 := HG2.out w6 HB6.out)
            subst hn6
            go_roundg (gk - q)
            case measure => omega
            case rel => exact ⟨k + q, _, _, by omega, rfl, by rw [HQ.out] at HO6; exact HO6, HB6, HN⟩
    · have hkk : k = tot := by omega
      subst hkk
      have hkt1 : ¬ ((k : Int) < (k : Int)) := by omega
      rw [HRes.out] at HO
      go_wp2
      go_ret
      exact ⟨HB.out, _, _, _, rfl, HO.out⟩

/-- What spans all. -/
theorem sp_all (n : Nat) : spF n 0 (-1) = 0 ∧ spT n 0 (-1) = n := by
  have hA : spA n 0 = 0 := by unfold spA fs; rw [if_neg (by decide)]; decide
  have hB : spB n (-1) = (n : Int) - 1 := by unfold spB fs; rw [if_pos (by decide)]; omega
  unfold spF spT
  rw [hA, hB]
  by_cases h : n = 0
  · rw [if_pos (by omega), if_pos (by omega)]; exact ⟨rfl, h.symm⟩
  · rw [if_neg (by omega), if_neg (by omega)]; exact ⟨rfl, by omega⟩
set_option maxRecDepth 100000 in
theorem AllQ_any (B l R most cnt : Nat) (ns : List Nd) (w : World) (h : Lst w B l R most cnt ns) (hok : Ok most ns) (hT : (txN ns).length = cnt) (hcnt : cnt ≤ 1000000) :
    Calls Try.prog 24 #[ptr l] w fun e w' => Below w.heap.size w w' ∧ ∃ a2 n2 c2, e = .returned (.slice a2 n2 c2) ∧ OwnS w' w.heap.size a2 n2 c2 (txN ns) := by
  have HR := Range_any B l R most cnt ns 0 (-1) w h hok hT hcnt (by decide) (by decide)
  rw [(sp_all cnt).1, (sp_all cnt).2, List.drop_zero, List.take_of_length_le (by omega)] at HR
  clear h hok hT
  go_enter Try.func24, Try.ntmps24
  go_wp2_with fail
  refine HR.mono ?_
  rintro e w1 ⟨hb, a2, n2, c2, rfl, hO⟩
  have HB : Hid (Below w.heap.size w w1) := hb
  have HO : Hid (OwnS w1 w.heap.size a2 n2 c2 (txN ns)) := hO
  clear hb hO HR
  go_wp2
  go_ret
  exact ⟨HB.out, _, _, _, rfl, HO.out⟩
end Go.Proofs.Ytemiajjjhhofaab
