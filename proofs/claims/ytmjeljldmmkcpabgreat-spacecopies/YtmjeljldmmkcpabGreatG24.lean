/- Texts that the others stand on. -/
import Derived.Test.YtmjeljldmmkcpabGreatG23
import Derived.Deep.RegionHeld3
namespace Go.Proofs.YtmjeljldmmkcpabGreat.Sq
open Go.RowKit Go.PlainAid
/-- A bool came back that tells whether this holds. -/
def EqR (w w' : World) (e : Ending) (P : Prop) : Prop := Below w.heap.size w w' ∧ ∃ r : Bool, e = .returned (.bool r) ∧ (r = true ↔ P)
theorem EqR.yes {w w' : World} {P : Prop} (hb : Below w.heap.size w w') (h : P) : EqR w w' (.returned (.bool true)) P := ⟨hb, true, rfl, fun _ => h, fun _ => rfl⟩
theorem EqR.no {w w' : World} {P : Prop} (hb : Below w.heap.size w w') (h : ¬ P) : EqR w w' (.returned (.bool false)) P := ⟨hb, false, rfl, fun h1 => (by cases h1), fun h1 => absurd h1 h⟩
set_option maxRecDepth 100000 in
theorem EqualS_any (B C : Nat) (a1 a2 : Option Addr) (n c1 c2 : Nat) (l1 l2 : List ByteArray) (w : World) (h1 : OwnS w B a1 n c1 l1) (h2 : OwnS w C a2 n c2 l2) (hn : n ≤ 1000) :
    Calls Tryz.prog 44 #[.slice a1 n c1, .slice a2 n c2] w fun e w' => EqR w w' e (l1 = l2) := by
  have H1 : Hid (OwnS w B a1 n c1 l1) := h1
  have H2 : Hid (OwnS w C a2 n c2 l2) := h2
  have HL1 : Hid (l1.length = n) := h1.len
  have HL2 : Hid (l2.length = n) := h2.len
  clear h1 h2
  go_enter Tryz.func44, Tryz.ntmps44
  go_wp2
  go_loopg [13] n (fun g iv wr => ∃ i : Nat, i + g = n ∧ iv = .int .i64 i ∧ Hid (l1.take i = l2.take i) ∧ Hid (Below w.heap.size w wr))
  case atStart => exact ⟨0, by omega, rfl, rfl, Below.refl _ _⟩
  case round =>
    obtain ⟨i, hi, rfl, HE, HB⟩ := hrel
    by_cases h8 : (i : Int) < n
    · have hbd : Below wr.heap.size wr wr.drew := below_drewN wr 1
      have HBd := step_below HB hbd
      obtain ⟨b1, o1, e1, k1⟩ := (H1.out.keep HB.out).rd.cell i (by omega)
      obtain ⟨b2, o2, e2, k2⟩ := (H2.out.keep HB.out).rd.cell i (by omega)
      have HT1 : Hid (l1.take (i + 1) = l1.take i ++ [l1.getD i ByteArray.empty]) := take_snocB l1 i (by have := HL1.out; omega)
      have HT2 : Hid (l2.take (i + 1) = l2.take i ++ [l2.getD i ByteArray.empty]) := take_snocB l2 i (by have := HL2.out; omega)
      have HNo : Hid (l1.getD i ByteArray.empty ≠ l2.getD i ByteArray.empty → ¬ l1 = l2) := fun h1 h2 => h1 (by rw [h2])
      generalize l1.getD i ByteArray.empty = x at k1 HT1 HNo
      generalize l2.getD i ByteArray.empty = y at k2 HT2 HNo
      have hq := str_beq x y
      subst e1
      subst e2
      clear hbd
      by_cases hxy : x = y
      · have hq2 : (x.toList == y.toList) = true := by rw [hq, decide_eq_true hxy]
        have HE2 : Hid (l1.take (i + 1) = l2.take (i + 1)) := by show _ = _; rw [HT1.out, HT2.out, HE.out, hxy]
        have hk1 : wr.drew.cell? ⟨b1, o1 + i, none⟩ = some (.string x) := k1
        have hk2 : wr.drew.cell? ⟨b2, o2 + i, none⟩ = some (.string y) := k2
        clear hq hxy k1 k2
        go_upto_region 6 with fail
        go_region
        go_wp2
        go_roundg (gk - 1)
        case measure => omega
        case rel => exact ⟨i + 1, by omega, by go_num, HE2, HBd⟩
      · have hq2 : (x.toList == y.toList) = false := by rw [hq, decide_eq_false hxy]
        have HF := HNo.out hxy
        have HFF : Hid (¬ l1 = l2) := HF
        have hk1 : wr.drew.cell? ⟨b1, o1 + i, none⟩ = some (.string x) := k1
        have hk2 : wr.drew.cell? ⟨b2, o2 + i, none⟩ = some (.string y) := k2
        clear hq hxy k1 k2 HF
        go_upto_region 6 with fail
        go_region
        go_wp2
        go_ret
        exact EqR.no HBd.out HFF.out
    · have hin : i = n := by omega
      have HEq : Hid (l1 = l2) := by
        have h1 := HE.out
        rw [List.take_of_length_le (by have := HL1.out; omega), List.take_of_length_le (by have := HL2.out; omega)] at h1
        exact h1
      go_wp2
      go_ret
      exact EqR.yes HB.out HEq.out
theorem Tryz.infoV : (Tryz.prog.info? 36).map (fun i => i.size) = some 5 := by kernel_rfl
theorem infoV_ex : ∃ j, Tryz.prog.info? 36 = some j ∧ j.size ≠ 0 := by
  have h := Tryz.infoV
  cases hj : Tryz.prog.info? 36 with
  | none => rw [hj] at h; cases h
  | some j =>
    rw [hj] at h
    refine ⟨j, rfl, ?_⟩
    have : j.size = 5 := Option.some.inj h
    omega
theorem eqlV_other {w : World} {k q : Nat} {ca cb : Array Value} {ta tb : TypeId} (h : k ≠ q) (ha : w.heap[k]? = some (.cells ca ta (0, 0))) (hb : w.heap[q]? = some (.cells cb tb (0, 0))) : (binOp .eql 30 (ptr k) (ptr q)).run Tryz.prog w = .ok (.bool false) w := by
  obtain ⟨j, hj, hs⟩ := infoV_ex
  exact run_eql_ptr_other w Tryz.underlying30 hj hs (by intro e; injection e with e1; exact h e1) ha hb
set_option maxRecDepth 100000 in
set_option maxHeartbeats 4000000 in
theorem Same_ll (w : World) (B1 v1 : Nat) (F1 : List Nat) (B2 v2 : Nat) (ls : List ByteArray) (F2 : List Nat) (h1 : Vl w B1 v1 ls F1) (h2 : Vl w B2 v2 ls F2) (hne : v1 ≠ v2) (hn : ls.length ≤ 12) :
    Calls Tryz.prog 12 #[ptr v1, ptr v2] w fun e w' => e = .returned (.bool true) ∧ Below w.heap.size w w' := by
  have HK1 := kind_l w B1 v1 _ F1 h1
  have HK2 := kind_l w B2 v2 _ F2 h2
  have HL1 := Len_l w B1 v1 _ F1 h1
  have HL2 := Len_l w B2 v2 _ F2 h2
  obtain ⟨m1, mo1, q1, k1, hH1⟩ := h1.ex
  obtain ⟨m2, mo2, q2, k2, hH2⟩ := h2.ex
  have hq := eqlV_other hne k1.blk k2.blk
  obtain ⟨n, hn'⟩ : ∃ n, ls.length = n := ⟨_, rfl⟩
  rw [hn'] at HL1 HL2
  have HN : Hid (ls.length = n) := hn'
  have hn100 : n ≤ 1000 := by omega
  have HBd : Hid (Below w.heap.size w w.drew) := below_drewN w 1
  have HS1 : Hid (∀ wx, Below w.heap.size w wx → Calls Tryz.prog 46 #[ptr m1] wx fun e w' => Below wx.heap.size wx w' ∧ ∃ a c, e = .returned (.slice a n c) ∧ OwnS w' wx.heap.size a n c ls) := fun wx hb => by
    refine (VAll wx B1 m1 mo1 q1 ls F1 (hH1.keep hb) (by omega)).mono ?_
    rintro e w' ⟨h1, a, n5, c, rfl, hO⟩
    have e1 : n5 = n := by rw [← hO.len]; exact HN.out
    subst e1
    exact ⟨h1, a, c, rfl, hO⟩
  have HS2 : Hid (∀ wx, Below w.heap.size w wx → Calls Tryz.prog 46 #[ptr m2] wx fun e w' => Below wx.heap.size wx w' ∧ ∃ a c, e = .returned (.slice a n c) ∧ OwnS w' wx.heap.size a n c ls) := fun wx hb => by
    refine (VAll wx B2 m2 mo2 q2 ls F2 (hH2.keep hb) (by omega)).mono ?_
    rintro e w' ⟨h1, a, n5, c, rfl, hO⟩
    have e1 : n5 = n := by rw [← hO.len]; exact HN.out
    subst e1
    exact ⟨h1, a, c, rfl, hO⟩
  have HC : Hid (∀ wx, Below w.heap.size w wx → (fun w' : World => w'.cell? ⟨v1, 4, none⟩ = some (ptr m1) ∧ w'.cell? ⟨v2, 4, none⟩ = some (ptr m2)) wx) := fun wx hb => ⟨(k1.keep hb).cl, (k2.keep hb).cl⟩
  clear h1 h2 hne hn hn' k1 k2 hH1 hH2
  go_enter Tryz.func12, Tryz.ntmps12
  go_wp2_with fail
  refine HK1.mono ?_
  rintro e w ⟨rfl, rfl⟩
  go_wp2_with fail
  refine HK2.mono ?_
  rintro e w ⟨rfl, rfl⟩
  go_wp2_with fail
  refine HL1.mono ?_
  rintro e w ⟨rfl, rfl⟩
  go_wp2_with fail
  refine HL2.mono ?_
  rintro e w ⟨rfl, rfl⟩
  go_wp2_with fail
  refine HK1.mono ?_
  rintro e w ⟨rfl, rfl⟩
  go_upto_region 13 with fail
  go_region_held3 (fun w' => w'.cell? ⟨v1, 4, none⟩ = some (ptr m1) ∧ w'.cell? ⟨v2, 4, none⟩ = some (ptr m2)) (first | exact HC.out _ HB6.out | exact HC.out _ HB5.out | exact HC.out _ HB4.out | exact HC.out _ HBd.out) (first
    | (go_at_call 44; refine HEq.mono ?_; rintro e w6 ⟨hb, b6, rfl, hb6⟩; have HB6 := step_below HB5 hb; have H6 : Hid (b6 = true) := (by first | exact hb6.2 trivial | exact hb6.2 rfl | exact hb6); clear hb hb6)
    | (go_at_call_of 46 (ptr m2); refine (HS2.out _ HB4.out).mono ?_; rintro e w5 ⟨hb, a5, c5, rfl, hO5⟩; have HB5 := step_below HB4 hb; have HEq := EqualS_any _ _ a4 a5 n c4 c5 ls ls w5 (H4.out.keep hb) hO5 hn100; clear hb hO5)
    | (go_at_call_of 46 (ptr m1); refine (HS1.out _ HBd.out).mono ?_; rintro e w4 ⟨hb, a4, c4, rfl, hO4⟩; have HB4 := step_below HBd hb; have H4 : Hid (OwnS w4 w.drew.heap.size a4 n c4 ls) := hO4; clear hb hO4))
  all_goals
    go_wp2
    go_ret
    exact ⟨by rw [H6.out]; rfl, HB6.out⟩
/-- Blocks of a list were turned: a space is as it was. -/
theorem far_mv {w w' : World} {B l most q : Nat} {ls : List ByteArray} {F : List Nat} (h : QV w B l most ls q F) (hs : Stay w w' F) : Dk.Mv (fun t => !stag t) w w' := by
  refine ⟨hs.os, hs.tape, hs.output, hs.size, fun k cs t hk ht => hs.block k (Array.getElem?_eq_some_iff.1 hk).1 fun hm => ?_⟩
  obtain ⟨R, ns, h3, h4, h5, h6, rfl⟩ := h.ex
  obtain ⟨cs', t', h7, h8⟩ := Lst.tagsS h3 k hm
  rw [hk] at h7
  injection h7 with h7
  injection h7 with _ e
  rw [← e] at h8
  rw [h8] at ht
  cases ht
theorem Spc.far {w w' : World} {B s x : Nat} {NM : List ByteArray} {A : Ab} {V : ByteArray → Int} (h : Spc w B s x NM A V) {C l most q : Nat} {ls : List ByteArray} {F : List Nat} (hq : QV w C l most ls q F) (hs : Stay w w' F) : Spc w' B s x NM A V :=
  h.mv (far_mv hq hs) (fun k hk => by rw [hk]; rfl)
/-- Another list, too. -/
theorem Vl.far {w w' : World} {B v : Nat} {ls : List ByteArray} {F : List Nat} (h : Vl w B v ls F) {C l most q : Nat} {rs : List ByteArray} {G : List Nat} (hq : QV w C l most rs q G) (hs : Stay w w' G) (hd : ∀ k ∈ F, k ∉ G) : Vl w' B v ls F := by
  obtain ⟨m, mo, q', k1, k2⟩ := h.ex
  refine ⟨⟨m, mo, q', k1.kept (hs.block v k1.lt fun hm => ?_), k2.stay hs hd⟩, h.low⟩
  obtain ⟨cs, t, h1, -, h2, -⟩ := hq.tags v hm
  rw [k1.blk] at h1
  injection h1 with h1
  injection h1 with _ e
  exact h2 e.symm
end Go.Proofs.YtmjeljldmmkcpabGreat.Sq
