/- Texts that the others stand on. -/
import Derived.Test.YtmjeljldmmkcpaaGreatK29
namespace Go.Proofs.YtmjeljldmmkcpaaGreat.Sq
open Go.RowKit Go.PlainAid
open Dk (ptr Aa Ac Ad Af OwnR OwnP OwnS Mv An Elt A4)
theorem timed_any (w : World) (B s x : Nat) (NM : List ByteArray) (L : List Nat) (I : Nat → Itm) (Q : List Nat) (V : ByteArray → Int) (H : In w B s x NM L I Q V) (p : Nat) (hp : p ∈ L) :
  Calls Tryz.prog 46 #[ptr p] w fun e w' => e = .returned (.bool (decide (p ∈ Q))) ∧ w' = w := by
 obtain ⟨S, P, D, D2, hX⟩ := H
 have e1 := hX.qs.its.cp hp
 have HT := isTimed_any w p _ e1
 have hd : decide (P p ≠ -1) = decide (p ∈ Q) := by
  by_cases h : p ∈ Q
  ·rw [decide_eq_true h]
   obtain ⟨i, hi, rfl⟩ := at_ex h
   rw [hX.qs.plc i hi]
   exact decide_eq_true (by omega)
  ·rw [decide_eq_false h, hX.qs.out p hp h]
   rfl
 rw [hd] at HT
 exact HT
def expA {α : Type} (A : AbV α) (k : ByteArray) (u t : Int) : AbV α := match A k with
 | some (v, _) => setA A k (if u ≤ t then none else some (v, some u))
 | none => A
def ExpTo (w w' : World) (B s x : Nat) (NM : List ByteArray) (A : Ab) (V : ByteArray → Int) (k : ByteArray) (u t : Int) : Prop := To w w' B s x NM (expA A k u t) (chgV A V k)
set_option maxRecDepth 100000 in
theorem Expire_any (w : World) (B s x : Nat) (NM : List ByteArray) (A : Ab) (V : ByteArray → Int) (hS : Spc w B s x NM A V) (hv : Low V) (u t : Int) (k : ByteArray) (hk : k ∈ NM) (hks : k.size ≤ 4096) :
  Calls Tryz.prog 30 #[ptr s, .string k, .int .i64 u, .int .i64 t] w fun e w' => e = .returned (.bool (dueA A t k).isSome) ∧ ExpTo w w' B s x NM (dueA A t) (dueV A V t) k u t := by
 have HF := A5 w B s x NM A V hS hv t k (by unfold maxLen; omega)
 go_enter Tryz.func30, Tryz.ntmps30
 go_wp2_with fail
 refine HF.mono ?_
 rintro e w1 ⟨hm, L, I, Q, hi, hr, ⟨rfl, hn⟩ | ⟨p, hp, hpk, rfl, hy⟩⟩
 ·have HE : Hid (ExpTo w w1 B s x NM (dueA A t) (dueV A V t) k u t) := by
   unfold ExpTo chgV expA
   rw [hn]
   exact ⟨hm, L, I, Q, hi, hr⟩
  have HY : Hid (dueA A t k = none) := hn
  clear hm hi hr HF hn
  go_wp2
  go_ret
  exact ⟨by rw [HY.out]; rfl, HE.out⟩
 ·have HY : Hid (dueA A t k = some ((I p).v, if p ∈ Q then some (I p).u else none)) := hy
  have HI : Hid (In w1 B s x NM L I Q (dueV A V t)) := hi
  have HR : Hid (Rep L I Q (dueA A t)) := hr
  have HM : Hid (Mb stag B w w1) := hm
  have hnn := eqlI_nil w1 p
  clear hm hi hr HF hy
  by_cases hut : u ≤ t
  ·have HT := take_any w1 B s x NM L I Q _ HI.out p hp (hv.due A t)
   have hd : decide (u ≤ t) = true := decide_eq_true hut
   go_wp2_with fail
   refine HT.mono ?_
   rintro e w2 ⟨rfl, hm2, Q', hi2, hmem⟩
   have HE : Hid (ExpTo w w2 B s x NM (dueA A t) (dueV A V t) k u t) := by
    unfold ExpTo chgV expA
    rw [HY.out]
    simp only [if_pos hut]
    have h1 := HR.out.del HI.out.inj HI.out.nod hp hmem
    rw [hpk] at h1 hi2
    exact ⟨HM.out.trans hm2, _, I, Q', hi2, h1⟩
   clear hm2 hi2 hmem HT
   go_wp2
   go_ret
   exact ⟨by rw [HY.out]; rfl, HE.out⟩
  ·have hd : decide (u ≤ t) = false := decide_eq_false hut
   have HUT : Hid (t < u) := Int.not_le.1 hut
   obtain ⟨S, P, D, D2, hX⟩ := HI.out
   have HX : Hid (Sx w1 B s x NM L I Q (dueV A V t) S P D D2) := hX
   have HD := drop_any w1 B s S L I P Q hX.qs p hp
   clear hX hut
   go_wp2_with fail
   refine HD.mono ?_
   rintro e w2 ⟨rfl, hm2, P2, Q2, hq2, hmem⟩
   have HX2 : Hid (Sx w2 B s x NM L I Q2 (dueV A V t) S P2 D D2) := HX.out.queue hm2 hq2 (fun _ _ => rfl)
   have HM2 : Hid (Mb stag B w w2) := HM.out.trans (Mb.mono hm2 stag_q)
   have HMem : Hid (∀ q, q ∈ Q2 ↔ q ≠ p ∧ q ∈ Q) := hmem
   have HA := add_any w2 B s S L I P2 Q2 hq2 p hp (fun h => ((hmem p).1 h).1 rfl) u
   clear hm2 hq2 hmem HD
   go_wp2_with fail
   refine HA.mono ?_
   rintro e w3 ⟨rfl, hm3, P3, Q3, hq3, hmem3⟩
   have HX3 : Hid (In w3 B s x NM L (upd I p { I p with u := u }) Q3 (dueV A V t)) := ⟨S, P3, D, D2, HX2.out.queue hm3 hq3 (fun q _ => by
    by_cases h : q = p
    ·rw [h, Bq]
    ·rw [Bl _ _ h])⟩
   have HM3 : Hid (Mb stag B w w3) := HM2.out.trans (Mb.mono hm3 stag_q)
   have HR3 : Hid (Rep L (upd I p { I p with u := u }) Q3 (setA (dueA A t) k (some ((I p).v, some u)))) := by
    have h1 := HR.out.turn (J := upd I p { I p with u := u }) (Q' := Q3) HI.out.inj hp (by rw [Bq]) (fun q h => Bl _ _ h) (fun q h => ⟨fun h1 => ((HMem.out q).1 (((hmem3 q).1 h1).resolve_left h)).2, fun h1 => (hmem3 q).2 (.inr ((HMem.out q).2 ⟨h, h1⟩))⟩)
    rw [if_pos ((hmem3 p).2 (.inl rfl)), Bq, hpk] at h1
    exact h1
   have HC := change_any w3 B s x NM L _ Q3 _ HX3.out k hk (hv.due A t k)
   clear hm3 hq3 hmem3 HA
   go_wp2_with fail
   refine HC.mono ?_
   rintro e w4 ⟨rfl, hm4, hi4⟩
   have HE : Hid (ExpTo w w4 B s x NM (dueA A t) (dueV A V t) k u t) := by
    unfold ExpTo chgV expA
    rw [HY.out]
    simp only [if_neg (Int.not_le.2 HUT.out)]
    exact ⟨HM3.out.trans hm4, L, _, Q3, hi4, HR3.out⟩
   clear hm4 hi4 HC
   go_wp2
   go_ret
   exact ⟨by rw [HY.out]; rfl, HE.out⟩
def endOf {α : Type} (y : Option (α × Option Int)) : Option Int := match y with
 | some (_, e) => e
 | none => none
theorem Expiry_any (w : World) (B s x : Nat) (NM : List ByteArray) (A : Ab) (V : ByteArray → Int) (hS : Spc w B s x NM A V) (hv : Low V) (t : Int) (k : ByteArray) (hk : k.size ≤ maxLen) :
  Calls Tryz.prog 33 #[ptr s, .string k, .int .i64 t] w fun e w' => e = .returned (.tuple #[.int .i64 ((endOf (dueA A t k)).getD 0), .bool (endOf (dueA A t k)).isSome]) ∧ Bz w w' B s x NM A V t := by
 have HF := A5 w B s x NM A V hS hv t k hk
 go_enter Tryz.func33, Tryz.ntmps33
 go_wp2_with fail
 refine HF.mono ?_
 rintro e w1 ⟨hm, L, I, Q, hi, hr, ⟨rfl, hn⟩ | ⟨p, hp, hpk, rfl, hy⟩⟩
 ·have HE : Hid (Bz w w1 B s x NM A V t) := ⟨hm, L, I, Q, hi, hr⟩
  have HY : Hid (dueA A t k = none) := hn
  clear hm hi hr HF hn
  go_wp2
  go_ret2
  exact ⟨by rw [HY.out]; rfl, HE.out⟩
 ·have HE : Hid (Bz w w1 B s x NM A V t) := ⟨hm, L, I, Q, hi, hr⟩
  have HT := timed_any w1 B s x NM L I Q _ hi p hp
  obtain ⟨S, P, D, D2, hX⟩ := hi
  have e1 := hX.qs.its.cu hp
  have hnn := neqI_nil w1 p
  clear hm hX hr HF
  by_cases hq : p ∈ Q
  ·rw [if_pos hq] at hy
   have HY : Hid (dueA A t k = some ((I p).v, some (I p).u)) := hy
   rw [decide_eq_true hq] at HT
   clear hy hq
   go_wp2_with fail
   refine HT.mono ?_
   rintro e w1 ⟨rfl, rfl⟩
   go_wp2
   go_ret2
   exact ⟨by rw [HY.out]; rfl, HE.out⟩
  ·rw [if_neg hq] at hy
   have HY : Hid (dueA A t k = some ((I p).v, none)) := hy
   rw [decide_eq_false hq] at HT
   clear hy hq
   go_wp2_with fail
   refine HT.mono ?_
   rintro e w1 ⟨rfl, rfl⟩
   go_wp2
   go_ret2
   exact ⟨by rw [HY.out]; rfl, HE.out⟩
def perA {α : Type} (A : AbV α) (k : ByteArray) : AbV α := match A k with
 | some (v, some _) => setA A k (some (v, none))
 | _ => A
def perV {α : Type} (A : AbV α) (V : ByteArray → Int) (k : ByteArray) : ByteArray → Int := if (endOf (A k)).isSome then incV V k else V
def PerTo (w w' : World) (B s x : Nat) (NM : List ByteArray) (A : Ab) (V : ByteArray → Int) (k : ByteArray) : Prop := To w w' B s x NM (perA A k) (perV A V k)
theorem Persist_any (w : World) (B s x : Nat) (NM : List ByteArray) (A : Ab) (V : ByteArray → Int) (hS : Spc w B s x NM A V) (hv : Low V) (t : Int) (k : ByteArray) (hk : k ∈ NM) (hks : k.size ≤ 4096) :
  Calls Tryz.prog 56 #[ptr s, .string k, .int .i64 t] w fun e w' => e = .returned (.bool (endOf (dueA A t k)).isSome) ∧ PerTo w w' B s x NM (dueA A t) (dueV A V t) k := by
 have HF := A5 w B s x NM A V hS hv t k (by unfold maxLen; omega)
 go_enter Tryz.func56, Tryz.ntmps56
 go_wp2_with fail
 refine HF.mono ?_
 rintro e w1 ⟨hm, L, I, Q, hi, hr, ⟨rfl, hn⟩ | ⟨p, hp, hpk, rfl, hy⟩⟩
 ·have HE : Hid (PerTo w w1 B s x NM (dueA A t) (dueV A V t) k) := by
   unfold PerTo perA perV
   rw [hn]
   exact ⟨hm, L, I, Q, hi, hr⟩
  have HY : Hid (dueA A t k = none) := hn
  clear hm hi hr HF hn
  go_wp2
  go_ret
  exact ⟨by rw [HY.out]; rfl, HE.out⟩
 ·have HT := timed_any w1 B s x NM L I Q _ hi p hp
  have HI : Hid (In w1 B s x NM L I Q (dueV A V t)) := hi
  have HR : Hid (Rep L I Q (dueA A t)) := hr
  have HM : Hid (Mb stag B w w1) := hm
  have hnn := eqlI_nil w1 p
  by_cases hq : p ∈ Q
  ·rw [if_pos hq] at hy
   have HY : Hid (dueA A t k = some ((I p).v, some (I p).u)) := hy
   rw [decide_eq_true hq] at HT
   obtain ⟨S, P, D, D2, hX⟩ := hi
   have HX : Hid (Sx w1 B s x NM L I Q (dueV A V t) S P D D2) := hX
   have HD := drop_any w1 B s S L I P Q hX.qs p hp
   clear hy hq hX hm hr HF
   go_wp2_with fail
   refine HT.mono ?_
   rintro e w1 ⟨rfl, rfl⟩
   go_wp2_with fail
   refine HD.mono ?_
   rintro e w2 ⟨rfl, hm2, P2, Q2, hq2, hmem⟩
   have HX2 : Hid (In w2 B s x NM L I Q2 (dueV A V t)) := ⟨S, P2, D, D2, HX.out.queue hm2 hq2 (fun _ _ => rfl)⟩
   have HM2 : Hid (Mb stag B w w2) := HM.out.trans (Mb.mono hm2 stag_q)
   have HR2 : Hid (Rep L I Q2 (setA (dueA A t) k (some ((I p).v, none)))) := by
    have h1 := HR.out.turn (J := I) (Q' := Q2) HI.out.inj hp rfl (fun _ _ => rfl) (fun q h => ⟨fun h1 => ((hmem q).1 h1).2, fun h1 => (hmem q).2 ⟨h, h1⟩⟩)
    rw [if_neg (fun h => ((hmem p).1 h).1 rfl), hpk] at h1
    exact h1
   have HC := change_any w2 B s x NM L I Q2 _ HX2.out k hk (hv.due A t k)
   clear hm2 hq2 hmem HD
   go_wp2_with fail
   refine HC.mono ?_
   rintro e w3 ⟨rfl, hm3, hi3⟩
   have HE : Hid (PerTo w w3 B s x NM (dueA A t) (dueV A V t) k) := by
    unfold PerTo perA perV
    rw [HY.out]
    exact ⟨HM2.out.trans hm3, L, _, Q2, hi3, HR2.out⟩
   clear hm3 hi3 HC
   go_wp2
   go_ret
   exact ⟨by rw [HY.out]; rfl, HE.out⟩
  ·rw [if_neg hq] at hy
   have HY : Hid (dueA A t k = some ((I p).v, none)) := hy
   rw [decide_eq_false hq] at HT
   have HE : Hid (PerTo w w1 B s x NM (dueA A t) (dueV A V t) k) := by
    unfold PerTo perA perV
    rw [hy]
    exact ⟨hm, L, I, Q, hi, hr⟩
   clear hy hq hm hr hi HF
   go_wp2_with fail
   refine HT.mono ?_
   rintro e w1 ⟨rfl, rfl⟩
   go_wp2
   go_ret
   exact ⟨by rw [HY.out]; rfl, HE.out⟩
def renA {α : Type} (A : AbV α) (a b : ByteArray) : AbV α := if (A a).isSome then (if a = b then A else setA (setA A a none) b (A a)) else A
def renV {α : Type} (A : AbV α) (V : ByteArray → Int) (a b : ByteArray) : ByteArray → Int := if (A a).isSome then (if a = b then incV V a else incV (incV V a) b) else V
def RenTo (w w' : World) (B s x : Nat) (NM : List ByteArray) (A : Ab) (V : ByteArray → Int) (a b : ByteArray) : Prop := To w w' B s x NM (renA A a b) (renV A V a b)
theorem incV_le (V : ByteArray → Int) (k j : ByteArray) : V j ≤ incV V k j ∧ incV V k j ≤ V j + 1 := by
 unfold incV
 split <;> omega
set_option maxRecDepth 100000 in
theorem Rename_any (w : World) (B s x : Nat) (NM : List ByteArray) (A : Ab) (V : ByteArray → Int) (hS : Spc w B s x NM A V) (hv : Low V) (t : Int) (a b : ByteArray) (ha : a ∈ NM) (has : a.size ≤ 4096) (hb : b ∈ NM) (hbs : b.size ≤ 4096) :
  Calls Tryz.prog 16 #[ptr s, .string a, .string b, .int .i64 t] w fun e w' => e = .returned (.bool (dueA A t a).isSome) ∧ RenTo w w' B s x NM (dueA A t) (dueV A V t) a b := by
 have HF := A5 w B s x NM A V hS hv t a (by unfold maxLen; omega)
 go_enter Tryz.func16, Tryz.ntmps16
 go_wp2_with fail
 refine HF.mono ?_
 rintro e w1 ⟨hm, L, I, Q, hi, hr, ⟨rfl, hn⟩ | ⟨p, hp, hpk, rfl, hy⟩⟩
 ·have HE : Hid (RenTo w w1 B s x NM (dueA A t) (dueV A V t) a b) := by
   unfold RenTo renA renV
   rw [hn]
   exact ⟨hm, L, I, Q, hi, hr⟩
  have HY : Hid (dueA A t a = none) := hn
  clear hm hi hr HF hn
  go_wp2
  go_ret
  exact ⟨by rw [HY.out]; rfl, HE.out⟩
 ·have HY : Hid (dueA A t a = some ((I p).v, if p ∈ Q then some (I p).u else none)) := hy
  have HI : Hid (In w1 B s x NM L I Q (dueV A V t)) := hi
  have HR : Hid (Rep L I Q (dueA A t)) := hr
  have HM : Hid (Mb stag B w w1) := hm
  have hnn := eqlI_nil w1 p
  have hbz : (b.size : Int) ≤ 4096 := by omega
  have hbg : decide ((4096 : Int) < b.size) = false := decide_eq_false (by omega)
  clear hm hi hr HF hy
  by_cases hab : a = b
  ·subst hab
   have HC := change_any w1 B s x NM L I Q _ HI.out a ha (hv.due A t a)
   go_wp2_with fail
   refine HC.mono ?_
   rintro e w2 ⟨rfl, hm2, hi2⟩
   have HE : Hid (RenTo w w2 B s x NM (dueA A t) (dueV A V t) a a) := by
    unfold RenTo renA renV
    rw [HY.out]
    simp only [Option.isSome_some, if_true]
    exact ⟨HM.out.trans hm2, L, I, Q, hi2, HR.out⟩
   clear hm2 hi2 HC
   go_wp2
   go_ret
   exact ⟨by rw [HY.out]; rfl, HE.out⟩
  ·have HAB : Hid (¬ a = b) := hab
   have hq : (a.toList == b.toList) = false := by rw [Dk.str_beq]; exact decide_eq_false hab
   have HT : ∀ q, Calls Tryz.prog 46 #[ptr p] (w1.drewN q) fun e w' => e = .returned (.bool (decide (p ∈ Q))) ∧ w' = w1.drewN q := fun q => timed_any (w1.drewN q) B s x NM L I Q _ (HI.out.keep (Aa w1 q)) p hp
   obtain ⟨e1, e2⟩ : w1.cell? ⟨p, 1, none⟩ = some (.pointer (I p).v) ∧ w1.cell? ⟨p, 2, none⟩ = some (.int .i64 (I p).u) := by
    obtain ⟨S, P, D, D2, hX⟩ := HI.out
    exact ⟨hX.qs.its.cv hp, hX.qs.its.cu hp⟩
   clear hab
   go_upto_region 7 with fail
   go_quiet ((go_at_call 46; with_reducible exact Calls.quiet_of_same (HT _)))
   have HI1 : Hid (In (w1.drewN nq) B s x NM L I Q (dueV A V t)) := HI.out.keep (Aa w1 nq)
   have HM1 : Hid (Mb stag B w (w1.drewN nq)) := HM.out.trans (Mb.of_below (Aa w1 nq) (by obtain ⟨S, P, D, D2, hX⟩ := HI.out; have := hX.lt; omega))
   generalize w1.drewN nq = w2 at HI1 HM1 ⊢
   have HK := take_any w2 B s x NM L I Q _ HI1.out p hp (hv.due A t)
   clear e1 e2 HT hnn
   go_wp2_with fail
   refine HK.mono ?_
   rintro e w3 ⟨rfl, hm3, Q3, hi3, hmem⟩
   have HM3 : Hid (Mb stag B w w3) := HM1.out.trans hm3
   have HS3 : Hid (Spc w3 B s x NM (setA (dueA A t) a none) (incV (dueV A V t) a)) := by
    have h1 := HR.out.del HI.out.inj HI.out.nod hp hmem
    rw [hpk] at h1 hi3
    exact ⟨_, I, Q3, hi3, h1⟩
   have HU := holdUntil_any w3 B s x NM _ _ HS3.out b hb (by have := incV_le (dueV A V t) a b; have := hv b; have := dueV_le A V t b; omega) (I p).v (I p).u (decide (p ∈ Q))
   clear hm3 hi3 hmem HK
   go_wp2_with fail
   refine HU.mono ?_
   rintro e w4 ⟨rfl, hm4, hs4⟩
   have HE : Hid (RenTo w w4 B s x NM (dueA A t) (dueV A V t) a b) := by
    unfold RenTo renA renV
    rw [HY.out]
    simp only [Option.isSome_some, if_true, if_neg HAB.out]
    have e : (if p ∈ Q then some (I p).u else none) = (if decide (p ∈ Q) = true then some (I p).u else none) := by
     by_cases h : p ∈ Q
     ·rw [if_pos h, if_pos (decide_eq_true h)]
     ·rw [if_neg h, if_neg (by rw [decide_eq_false h]; decide)]
    rw [e]
    exact ⟨HM3.out.trans hm4, hs4⟩
   clear hm4 hs4 HU
   go_wp2
   go_ret
   exact ⟨by rw [HY.out]; rfl, HE.out⟩
structure Dom (A : Ab) (ks : List ByteArray) : Prop where
 nod : ks.Nodup
 iff : ∀ k, k ∈ ks ↔ (A k).isSome = true
theorem Dom.perm {A : Ab} {ks js : List ByteArray} (h : Dom A ks) (hp : ks.Perm js) : Dom A js := ⟨hp.nodup_iff.1 h.nod, fun k => by rw [← hp.mem_iff]; exact h.iff k⟩
theorem nodup_perm {ks js : List ByteArray} (h : ks.Nodup) (h' : js.Nodup) (hm : ∀ k, k ∈ ks ↔ k ∈ js) : ks.Perm js := (List.perm_ext_iff_of_nodup h h').2 hm
theorem Dom.same {A : Ab} {ks js : List ByteArray} (h : Dom A ks) (h' : Dom A js) : ks.Perm js := nodup_perm h.nod h'.nod fun k => by rw [h.iff, h'.iff]
theorem Sx.dom {w : World} {B s x : Nat} {NM : List ByteArray} {L : List Nat} {I : Nat → Itm} {Q : List Nat} {V : ByteArray → Int} {S : Sd} {P : Nat → Int} {D : Dk.Dg} {D2 : Zs.Dk.Dg} (H : Sx w B s x NM L I Q V S P D D2) {A : Ab} (hR : Rep L I Q A) : Dom A (L.map fun p => (I p).k) := by
 refine ⟨H.nodk, fun k => ⟨fun h => ?_, fun h => ?_⟩⟩
 ·obtain ⟨p, hp, rfl⟩ := List.mem_map.1 h
  rw [hR.yes p hp]; rfl
 ·obtain ⟨y, hy⟩ := Option.isSome_iff_exists.1 h
  obtain ⟨p, hp, e⟩ := hR.no k y hy
  exact List.mem_map.2 ⟨p, hp, e⟩
theorem Sx.domK {w : World} {B s x : Nat} {NM : List ByteArray} {L : List Nat} {I : Nat → Itm} {Q : List Nat} {V : ByteArray → Int} {S : Sd} {P : Nat → Int} {D : Dk.Dg} {D2 : Zs.Dk.Dg} (H : Sx w B s x NM L I Q V S P D D2) {A : Ab} (hR : Rep L I Q A) : Dom A (Dk.Ae D.es) := by
 have h1 := H.kp.map (·.1)
 have h2 := H.dom hR
 have e : (kents L I).map (·.1) = L.map fun p => (I p).k := keys_kents L I
 rw [e] at h1
 exact h2.perm h1.symm
def LenR (e : Ending) (A : Ab) : Prop := ∃ ks, Dom A ks ∧ e = .returned (.int .i64 (ks.length : Nat))
theorem Held_any (w : World) (B s x : Nat) (NM : List ByteArray) (A : Ab) (V : ByteArray → Int) (hS : Spc w B s x NM A V) :
  Calls Tryz.prog 64 #[ptr s] w fun e w' => w' = w ∧ LenR e A := by
 obtain ⟨L, I, Q, ⟨S, P, D, D2, hX⟩, hR⟩ := hS
 have HD : Hid (Dom A (Dk.Ae D.es)) := hX.domK hR
 have HL := Dk.Len_dict B S.d x D w hX.kd
 have c3 := hX.cd
 have hl : D.es.length = (Dk.Ae D.es).length := (List.length_map ..).symm
 rw [hl] at HL
 generalize Dk.Ae D.es = ks at HL HD
 clear hX hR hl
 go_enter Tryz.func64, Tryz.ntmps64
 go_wp2_with fail
 refine HL.mono ?_
 rintro e w ⟨rfl, rfl⟩
 have HE : Hid (LenR (.returned (.int .i64 (ks.length : Nat))) A) := ⟨ks, HD.out, rfl⟩
 generalize ks.length = n at HE ⊢
 go_wp2
 go_ret
 exact ⟨rfl, HE.out⟩
theorem Bs (w : World) (B s x : Nat) (NM : List ByteArray) (A : Ab) (V : ByteArray → Int) (hS : Spc w B s x NM A V) (hv : Low V) (t : Int) :
  Calls Tryz.prog 15 #[ptr s, .int .i64 t] w fun e w' => Bz w w' B s x NM A V t ∧ LenR e (dueA A t) := by
 have HT := Cj w B s x NM A V hS hv t
 go_enter Tryz.func15, Tryz.ntmps15
 go_wp2_with fail
 refine HT.mono ?_
 rintro e w1 ⟨rfl, hm, L, I, Q, ⟨S, P, D, D2, hX⟩, hR⟩
 have HE : Hid (Bz w w1 B s x NM A V t) := ⟨hm, L, I, Q, ⟨S, P, D, D2, hX⟩, hR⟩
 have HD : Hid (Dom (dueA A t) (Dk.Ae D.es)) := hX.domK hR
 have HL := Dk.Len_dict B S.d x D w1 hX.kd
 have c3 := hX.cd
 have hl : D.es.length = (Dk.Ae D.es).length := (List.length_map ..).symm
 rw [hl] at HL
 generalize Dk.Ae D.es = ks at HL HD
 clear hX hR hl hm HT
 go_wp2_with fail
 refine HL.mono ?_
 rintro e w1 ⟨rfl, rfl⟩
 have HF : Hid (LenR (.returned (.int .i64 (ks.length : Nat))) (dueA A t)) := ⟨ks, HD.out, rfl⟩
 generalize ks.length = n at HF ⊢
 go_wp2
 go_ret
 exact ⟨HE.out, HF.out⟩
def KeysR (w w' : World) (e : Ending) (A : Ab) : Prop := ∃ a n c ks, e = .returned (.slice a n c) ∧ OwnS w' w.heap.size a n c ks ∧ Dom A ks
theorem Keys_any (w : World) (B s x : Nat) (NM : List ByteArray) (A : Ab) (V : ByteArray → Int) (hS : Spc w B s x NM A V) (hv : Low V) (t : Int) :
  Calls Tryz.prog 25 #[ptr s, .int .i64 t] w fun e w' => Bz w w' B s x NM A V t ∧ KeysR w w' e (dueA A t) := by
 have HT := Cj w B s x NM A V hS hv t
 go_enter Tryz.func25, Tryz.ntmps25
 go_wp2_with fail
 refine HT.mono ?_
 rintro e w1 ⟨rfl, hm, L, I, Q, ⟨S, P, D, D2, hX⟩, hR⟩
 have HM : Hid (Mb stag B w w1) := hm
 have HX : Hid (Sx w1 B s x NM L I Q (dueV A V t) S P D D2) := hX
 have HR : Hid (Rep L I Q (dueA A t)) := hR
 have HK := Dk.Keys_dict B S.d x D w1 hX.kd
 have c3 := hX.cd
 clear hX hR hm HT
 go_wp2_with fail
 refine HK.mono ?_
 rintro e w2 ⟨hb, a, n, c, rfl, hO⟩
 have HE : Hid (Bz w w2 B s x NM A V t ∧ KeysR w w2 (.returned (.slice a n c)) (dueA A t)) := by
  refine ⟨⟨HM.out.trans (Mb.of_below hb (by have := HX.out.lt; omega)), L, I, Q, ⟨S, P, D, D2, HX.out.keep hb⟩, HR.out⟩, a, n, c, _, rfl, Dk.OwnR.low hO HM.out.mv.size, ?_⟩
  refine (HX.out.domK HR.out).perm ?_
  exact ((HX.out.kd.ord_perm.flatMap_right Dk.Lf.es).map (·.1)).symm
 clear hb hO HK
 go_wp2
 go_ret
 exact HE.out
theorem Version_any (w : World) (B s x : Nat) (NM : List ByteArray) (A : Ab) (V : ByteArray → Int) (hS : Spc w B s x NM A V) (hv : Low V) (t : Int) (k : ByteArray) (hk : k.size ≤ maxLen) :
  Calls Tryz.prog 13 #[ptr s, .string k, .int .i64 t] w fun e w' => e = .returned (.int .u64 (dueV A V t k)) ∧ Bz w w' B s x NM A V t := by
 have HT := Cj w B s x NM A V hS hv t
 go_enter Tryz.func13, Tryz.ntmps13
 go_wp2_with fail
 refine HT.mono ?_
 rintro e w1 ⟨rfl, hm, L, I, Q, ⟨S, P, D, D2, hX⟩, hR⟩
 have HM : Hid (Mb stag B w w1) := hm
 have HX : Hid (Sx w1 B s x NM L I Q (dueV A V t) S P D D2) := hX
 have HR : Hid (Rep L I Q (dueA A t)) := hR
 have HG := Zs.Dk.GetD B S.v x D2 k w1 hX.vd hk
 rw [hX.vp k] at HG
 obtain ⟨n, HN⟩ : ∃ n, Hid (dueV A V t k = n) := ⟨_, rfl⟩
 rw [HN.out] at HG
 have c5 := hX.cv
 clear hX hR hm HT
 go_wp2_with fail
 refine HG.mono ?_
 rintro e w2 ⟨rfl, hb⟩
 have HE : Hid (Bz w w2 B s x NM A V t) := ⟨HM.out.trans (Mb.of_below hb (by have := HX.out.lt; omega)), L, I, Q, ⟨S, P, D, D2, HX.out.keep hb⟩, HR.out⟩
 clear hb HG
 go_wp2
 go_ret
 exact ⟨by rw [HN.out]; rfl, HE.out⟩
def CycTo (w w' : World) (B s x : Nat) (NM : List ByteArray) (A : Ab) (V : ByteArray → Int) (n t : Int) (e : Ending) : Prop :=
 ∃ A' V' ks ks', ∃ c : Nat, e = .returned (.int .i64 c) ∧ To w w' B s x NM A' V' ∧ Due A A' V V' t ∧ Dom A ks ∧ Dom A' ks' ∧ ks'.length + c = ks.length ∧ ((c : Int) < n → Still A' t) ∧ (c = 0 ∨ (c : Int) ≤ n)
set_option maxRecDepth 100000 in
theorem Cycle_any (w : World) (B s x : Nat) (NM : List ByteArray) (A : Ab) (V : ByteArray → Int) (hS : Spc w B s x NM A V) (hv : Low V) (n t : Int) :
  Calls Tryz.prog 22 #[ptr s, .int .i64 n, .int .i64 t] w fun e w' => CycTo w w' B s x NM A V n t e := by
 obtain ⟨L, I, Q, hI, hR⟩ := hS
 have HI0 : Hid (In w B s x NM L I Q V) := hI
 have HR0 : Hid (Rep L I Q A) := hR
 have hfew : L.length ≤ 1000 := by obtain ⟨S, P, D, D2, hX⟩ := hI; exact Nat.le_trans hX.few (by decide)
 clear hI hR
 go_enter Tryz.func22, Tryz.ntmps22
 go_wp2
 go_loopg [7] (L.length + 1) (fun gk cv wr => ∃ (c : Nat) (L' Q' : List Nat) (V' : ByteArray → Int) (A' : Ab), cv = .int .i64 c ∧ L'.length + 1 ≤ gk ∧ L'.length + c = L.length ∧ (c = 0 ∨ (c : Int) ≤ n) ∧ Hid (In wr B s x NM L' I Q' V') ∧ Hid (Rep L' I Q' A') ∧ Hid (Due A A' V V' t) ∧ Hid (Mb stag B w wr))
 case atStart => exact ⟨0, L, Q, V, A, rfl, Nat.le_refl _, rfl, .inl rfl, HI0, HR0, fun k => .inl ⟨rfl, rfl⟩, Mb.refl _ _ _⟩
 case round =>
  obtain ⟨c, L', Q', V', A', rfl, hg, hlc, hcn, HI, HR, HU, HM⟩ := hrel
  have HEnd : Hid (((c : Int) < n → Still A' t) → CycTo w wr B s x NM A V n t (.returned (.int .i64 c))) := fun hst => by
   obtain ⟨S, P, D, D2, hX⟩ := HI.out
   obtain ⟨S0, P0, D0, D20, hX0⟩ := HI0.out
   exact ⟨A', V', _, _, c, rfl, ⟨HM.out, L', I, Q', HI.out, HR.out⟩, HU.out, hX0.dom HR0.out, hX.dom HR.out, by rw [List.length_map, List.length_map]; exact hlc, hst, hcn⟩
  by_cases hc : (c : Int) < n
  ·obtain ⟨S, P, D, D2, hX⟩ := HI.out
   have HX : Hid (Sx wr B s x NM L' I Q' V' S P D D2) := hX
   have HDu := isDue_any wr B s S L' I P Q' hX.qs t
   have hcd : decide ((c : Int) < n) = true := decide_eq_true hc
   clear hX
   go_wp2_with fail
   refine HDu.mono ?_
   rintro e wr ⟨rfl, r, rfl, hr⟩
   cases r with
   | true =>
    obtain ⟨h0, hu⟩ := hr.1 rfl
    obtain ⟨g, cp, hH⟩ := HX.out.qs.hs h0 Q'.length
    have HF := first_any wr B s S g cp L' I P Q' Q'.length hH h0 (by omega)
    have hpQ : at' Q' 0 ∈ Q' := at_mem h0
    obtain ⟨p, hpe⟩ : ∃ p, at' Q' 0 = p := ⟨_, rfl⟩
    rw [hpe] at HF hu hpQ
    have hpL := HX.out.qs.sub p hpQ
    have HT := take_any wr B s x NM L' I Q' V' HI.out p hpL (fun k => by have := HU.out.le k; have := hv k; omega)
    have HUU : Hid ((I p).u ≤ t) := hu
    have hln : (L'.erase p).length + 1 = L'.length := by
     have := List.length_erase_of_mem hpL
     have := List.length_pos_of_mem hpL
     omega
    clear hH hr hu HDu
    go_wp2_with fail
    refine HF.mono ?_
    rintro e wr ⟨rfl, rfl⟩
    go_wp2_with fail
    refine HT.mono ?_
    rintro e w2 ⟨rfl, hm2, Q2, hin2, hmem⟩
    have HIn : Hid (In w2 B s x NM (L'.erase p) I Q2 (incV V' (I p).k)) := hin2
    have HR2 : Hid (Rep (L'.erase p) I Q2 (setA A' (I p).k none)) := HR.out.del HI.out.inj HI.out.nod hpL hmem
    have HU2 : Hid (Due A (setA A' (I p).k none) V (incV V' (I p).k) t) := HU.out.step (by rw [HR.out.yes p hpL, if_pos hpQ]) HUU.out
    have HM2 : Hid (Mb stag B w w2) := HM.out.trans hm2
    clear hm2 hin2 hmem HT HF
    go_wp2
    go_roundg (gk - 1)
    case measure => omega
    case rel => exact ⟨c + 1, _, Q2, _, _, by go_num, by omega, by omega, .inr (by omega), HIn, HR2, HU2, HM2⟩
   | false =>
    have hd : ¬ (0 < Q'.length ∧ (I (at' Q' 0)).u ≤ t) := fun h => by have := hr.2 h; cases this
    have HE : Hid (CycTo w wr B s x NM A V n t (.returned (.int .i64 c))) := HEnd.out fun _ => still_of HR.out rfl HX.out.qs.ord hd
    clear hd hr HDu
    go_wp2
    go_ret
    exact HE.out
  ·have hcd : decide ((c : Int) < n) = false := decide_eq_false hc
   have HE : Hid (CycTo w wr B s x NM A V n t (.returned (.int .i64 c))) := HEnd.out fun h => absurd h hc
   go_wp2
   go_ret
   exact HE.out
def ScanR (w w' : World) (x : Nat) (A : Ab) (c : Nat) (count : Int) (e : Ending) : Prop :=
 ∃ a n cp g ks, e = .returned (.tuple #[.slice a n cp, .int .u64 ((Dk.scanP x g ks (Dk.cntC count) (10 * Dk.cntC count) [] c).2 : Nat)]) ∧ OwnS w' w.heap.size a n cp (Dk.scanP x g ks (Dk.cntC count) (10 * Dk.cntC count) [] c).1 ∧ Dom A ks ∧ ks.length ≤ 1000
theorem Scan_any (w : World) (B s x : Nat) (NM : List ByteArray) (A : Ab) (V : ByteArray → Int) (hS : Spc w B s x NM A V) (hv : Low V) (c : Nat) (count t : Int) (hc : c < 18446744073709551616) :
  Calls Tryz.prog 28 #[ptr s, .int .u64 c, .int .i64 count, .int .i64 t] w fun e w' => Bz w w' B s x NM A V t ∧ ScanR w w' x (dueA A t) c count e := by
 have HT := Cj w B s x NM A V hS hv t
 go_enter Tryz.func28, Tryz.ntmps28
 go_wp2_with fail
 refine HT.mono ?_
 rintro e w1 ⟨rfl, hm, L, I, Q, ⟨S, P, D, D2, hX⟩, hR⟩
 have HM : Hid (Mb stag B w w1) := hm
 have HX : Hid (Sx w1 B s x NM L I Q (dueV A V t) S P D D2) := hX
 have HR : Hid (Rep L I Q (dueA A t)) := hR
 have HK := Dk.Scan_dict B S.d x D c count w1 hX.kd hc
 have c3 := hX.cd
 clear hX hR hm HT
 obtain ⟨sp, HSP⟩ : ∃ sp, Hid (Dk.scanP x D.g (Dk.Ae D.es) (Dk.cntC count) (10 * Dk.cntC count) [] c = sp) := ⟨_, rfl⟩
 rw [HSP.out] at HK
 go_wp2_with fail
 refine HK.mono ?_
 rintro e w2 ⟨hb, a, n, cp, rfl, hO⟩
 have HE : Hid (Bz w w2 B s x NM A V t ∧ ScanR w w2 x (dueA A t) c count (.returned (.tuple #[.slice a n cp, .int .u64 (sp.2 : Nat)]))) := by
  refine ⟨⟨HM.out.trans (Mb.of_below hb (by have := HX.out.lt; omega)), L, I, Q, ⟨S, P, D, D2, HX.out.keep hb⟩, HR.out⟩, a, n, cp, D.g, Dk.Ae D.es, ?_, ?_, HX.out.domK HR.out, ?_⟩
  ·rw [HSP.out]
  ·rw [HSP.out]; exact Dk.OwnR.low hO HM.out.mv.size
  ·have h1 := HX.out.len
   have h2 := HX.out.few
   rw [List.length_map]
   omega
 clear hb hO HK
 go_wp2
 go_ret2
 exact HE.out
def among (l : List ByteArray) (k : ByteArray) : Bool := l.any fun r => decide (r = k)
theorem Cz {l : List ByteArray} {k : ByteArray} : among l k = true ↔ k ∈ l := by
 unfold among
 rw [List.any_eq_true]
 constructor
 ·rintro ⟨r, hr, h⟩
  rw [← of_decide_eq_true h]; exact hr
 ·intro h
  exact ⟨k, h, decide_eq_true rfl⟩
def flV (V : ByteArray → Int) (l : List ByteArray) : ByteArray → Int := fun k => if among l k = true then V k + 1 else V k
theorem flV_nil (V : ByteArray → Int) : flV V [] = V := by
 funext k
 unfold flV
 rw [if_neg (fun h => by have := Cz.1 h; simp at this)]
theorem flV_snoc (V : ByteArray → Int) (l : List ByteArray) (k : ByteArray) (h : k ∉ l) : incV (flV V l) k = flV V (l ++ [k]) := by
 funext j
 unfold incV flV
 by_cases e : j = k
 ·subst e
  rw [if_pos rfl, if_neg (fun h1 => h (Cz.1 h1)), if_pos (Cz.2 (by simp))]
 ·rw [if_neg e]
  by_cases hj : j ∈ l
  ·rw [if_pos (Cz.2 hj), if_pos (Cz.2 (by simp [hj]))]
  ·rw [if_neg (fun h1 => hj (Cz.1 h1)), if_neg (fun h1 => by have := Cz.1 h1; simp [hj, e] at this)]
theorem flV_le (V : ByteArray → Int) (l : List ByteArray) (k : ByteArray) : V k ≤ flV V l k ∧ flV V l k ≤ V k + 1 := by
 unfold flV
 split <;> omega
def fluV {α : Type} (A : AbV α) (V : ByteArray → Int) : ByteArray → Int := fun k => if (A k).isSome then V k + 1 else V k
theorem flV_dom {A : Ab} {ks : List ByteArray} (h : Dom A ks) (V : ByteArray → Int) : flV V ks = fluV A V := by
 funext k
 unfold flV fluV
 by_cases hk : k ∈ ks
 ·rw [if_pos (Cz.2 hk), if_pos ((h.iff k).1 hk)]
 ·rw [if_neg (fun h1 => hk (Cz.1 h1)), if_neg (fun e => hk ((h.iff k).2 e))]
theorem Sx.flush {w w1 : World} {B s x : Nat} {NM : List ByteArray} {L : List Nat} {I : Nat → Itm} {Q : List Nat} {V : ByteArray → Int} {S : Sd} {P : Nat → Int} {D D' : Dk.Dg} {D2 : Zs.Dk.Dg} (H : Sx w B s x NM L I Q V S P D D2) (hb : Below w.heap.size w w1) {d : Nat} (hD : Dk.Dct w1 w.heap.size d x D') (he : D'.es = []) {w2 : World} (hw : w2 = (w1.setCell ⟨s, 3, none⟩ (ptr d)).setCell ⟨s, 4, none⟩ (.slice none 0 0)) :
  Spc w2 B s x NM (fun _ => none) V ∧ Mb stag B w w2 := by
 obtain ⟨a, c, h1, -⟩ := (H.qs.keep hb).ex
 have hlt := H.lt
 have n1 := Ak (o := 3) (v := ptr d) h1
 have n2 := Ak (o := 4) (v := .slice none 0 0) n1
 rw [← hw] at n2
 have hm : Mb qtag B w1 w2 := by rw [hw]; exact (Mb.set (p := qtag) h1 (by decide) H.qs.low).trans (Mb.set (p := qtag) n1 (by decide) H.qs.low)
 have hD' := lowK hD (show B ≤ w.heap.size by omega)
 refine ⟨⟨[], fun _ => ⟨⟨#[]⟩, none, 0⟩, [], ⟨⟨S.x, S.E, S.T, d, S.v⟩, fun _ => -1, D', D2, H.sx, ⟨⟨none, 0, n2, OwnR.nil _ _ _ _⟩, fun p hp => absurd hp (by simp), fun p hp => absurd hp (by simp), fun i hi => absurd hi (by simp), fun i _ hi => absurd hi (by simp), fun p hp => absurd hp (by simp), List.nodup_nil, H.qs.low, by simp⟩, hD'.mv hm.mv d_q, (H.vd.keep hb).mv (toE hm.mv) e_q, ?_, H.vp, H.vn, fun p hp => absurd hp (by simp), H.nm, H.sz⟩, ⟨fun p hp => absurd hp (by simp), fun k y h => absurd h (by simp)⟩⟩, (Mb.of_below hb (by omega)).trans (Mb.mono hm stag_q)⟩
 rw [he]; exact List.Perm.refl _
def FluTo (w w' : World) (B s x : Nat) (NM : List ByteArray) (A : Ab) (V : ByteArray → Int) : Prop := To w w' B s x NM (fun _ => none) (fluV A V)
set_option maxRecDepth 100000 in
theorem Flush_any (w : World) (B s x : Nat) (NM : List ByteArray) (A : Ab) (V : ByteArray → Int) (hS : Spc w B s x NM A V) (hv : Low V) :
  Calls Tryz.prog 61 #[ptr s] w fun e w' => e = .returned (.tuple #[]) ∧ FluTo w w' B s x NM A V := by
 obtain ⟨L, I, Q, ⟨S, P, D, D2, hX⟩, hR⟩ := hS
 have HX : Hid (Sx w B s x NM L I Q V S P D D2) := hX
 have HR : Hid (Rep L I Q A) := hR
 have HK := Dk.Keys_dict B S.d x D w hX.kd
 have c3 := hX.cd
 clear hX hR
 go_enter Tryz.func61, Tryz.ntmps61
 go_wp2_with fail
 refine HK.mono ?_
 rintro e w1 ⟨hb1, a, n, c, rfl, hO⟩
 obtain ⟨ks, hks⟩ : ∃ ks, Dk.Ae (Dk.esL (Dk.ordU D.L (2 ^ D.g))) = ks := ⟨_, rfl⟩
 rw [hks] at hO
 have HD : Hid (Dom A ks) := by
  show Dom A ks
  rw [← hks]
  exact (HX.out.domK HR.out).perm ((HX.out.kd.ord_perm.flatMap_right Dk.Lf.es).map (·.1)).symm
 have HO : Hid (OwnS w1 w.heap.size a n c ks) := hO
 have HL : Hid (ks.length = n) := Dk.OwnS.len hO
 have hn1 : n ≤ 1000 := by
  have h1 := HX.out.len
  have h2 := HX.out.few
  have h3 := ((HX.out.kd.ord_perm.flatMap_right Dk.Lf.es).map (·.1)).length_eq
  have h4 : ks.length = (Dk.Ae D.es).length := by rw [← hks]; exact h3
  have h5 : (Dk.Ae D.es).length = D.es.length := List.length_map ..
  have h6 := HL.out
  omega
 have HI1 : Hid (In w1 B s x NM L I Q V) := ⟨S, P, D, D2, HX.out.keep hb1⟩
 have HM1 : Hid (Mb stag B w w1) := Mb.of_below hb1 (by have := HX.out.lt; omega)
 have HNM : Hid (∀ k ∈ ks, k ∈ NM) := fun k hk => by
  obtain ⟨y, hy⟩ := Option.isSome_iff_exists.1 ((HD.out.iff k).1 hk)
  obtain ⟨p, hp, rfl⟩ := HR.out.no k y hy
  exact HX.out.key p hp
 clear hb1 hO hks HK c3
 go_wp2
 go_loopg [10] (n + 1) (fun gk iv wr => ∃ i : Nat, iv = .int .i64 i ∧ i + gk = n + 1 ∧ i ≤ n ∧ Hid (In wr B s x NM L I Q (flV V (ks.take i))) ∧ Hid (Mb stag B w wr) ∧ Hid (OwnS wr w.heap.size a n c ks))
 case atStart => exact ⟨0, rfl, by omega, by omega, by rw [List.take_zero, flV_nil]; exact HI1, HM1, HO⟩
 case round =>
  obtain ⟨i, rfl, hi, hin, HI, HM, HOr⟩ := hrel
  by_cases h1 : (i : Int) < n
  ·obtain ⟨g, rfl, hcell⟩ := Dk.OwnS.cell HOr.out (j := i) (by omega)
   have hil : i < ks.length := by have := HL.out; omega
   have hmem : ks.getD i ⟨#[]⟩ ∈ ks := by
    rw [List.getD_eq_getElem?_getD, List.getElem?_eq_getElem hil]
    exact List.getElem_mem hil
   have hsn : ks.take (i + 1) = ks.take i ++ [ks.getD i ⟨#[]⟩] := Dk.Bx ks ⟨#[]⟩ i hil
   have hni : ks.getD i ⟨#[]⟩ ∉ ks.take i := fun h => by
    have h2 := HD.out.nod
    rw [← List.take_append_drop (i + 1) ks, List.nodup_append, hsn, List.nodup_append] at h2
    exact h2.1.2.2 _ h _ (by simp) rfl
   generalize ks.getD i ⟨#[]⟩ = k at hcell hmem hsn hni
   have HC := change_any wr B s x NM L I Q _ HI.out k (HNM.out k hmem) (by have := hv k; have := flV_le V (ks.take i) k; omega)
   rw [flV_snoc V _ k hni, ← hsn] at HC
   clear hsn hni hmem
   go_wp2_with fail
   refine HC.mono ?_
   rintro e w2 ⟨rfl, hm2, hi2⟩
   have HI2 : Hid (In w2 B s x NM L I Q (flV V (ks.take (i + 1)))) := hi2
   have HM2 : Hid (Mb stag B w w2) := HM.out.trans hm2
   have HO2 : Hid (OwnS w2 w.heap.size (some ⟨g, 0, none⟩) n c ks) := Dk.OwnR.mv HOr.out hm2.mv (by decide)
   clear hm2 hi2 HC hcell
   go_wp2
   go_roundg (gk - 1)
   case measure => omega
   case rel => exact ⟨i + 1, by go_num, by omega, by omega, HI2, HM2, HO2⟩
  ·obtain rfl : i = n := by omega
   obtain ⟨S1, P1, D1, D3, hX1⟩ := HI.out
   rw [List.take_of_length_le (by have := HL.out; omega), flV_dom HD.out] at hX1
   have HX1 : Hid (Sx wr B s x NM L I Q (fluV A V) S1 P1 D1 D3) := hX1
   have hc0 : wr.cell? ⟨s, 0, none⟩ = some (.int .u64 (x : Nat)) := by
    obtain ⟨a, c, h1, -⟩ := hX1.qs.ex
    rw [← hX1.sx]
    simp [World.cell?, h1]
   have HNw := Dk.New_dict x wr hX1.kd.seed
   clear hX1
   go_wp2_with fail
   refine HNw.mono ?_
   rintro e w2 ⟨hb2, d, D', rfl, hD, -, -, hes⟩
   obtain ⟨w3, hw3⟩ : ∃ w3, w2.setCell ⟨s, 3, none⟩ (ptr d) = w3 := ⟨_, rfl⟩
   obtain ⟨w4, hw4⟩ : ∃ w4, w3.setCell ⟨s, 4, none⟩ (.slice none 0 0) = w4 := ⟨_, rfl⟩
   have HE : Hid (FluTo w w4 B s x NM A V) := by
    obtain ⟨k1, k2⟩ := HX1.out.flush hb2 hD hes (w2 := w4) (by rw [← hw4, ← hw3])
    exact ⟨HM.out.trans k2, k1⟩
   obtain ⟨qv, hblk⟩ : ∃ qv, w2.heap[s]? = some (.cells (By S1 qv) 85 (0, 0)) := by
    obtain ⟨a, c, h1, -⟩ := (HX1.out.qs.keep hb2).ex
    exact ⟨_, h1⟩
   have e1 : w2.cell? ⟨s, 3, none⟩ = some (ptr S1.d) := by simp [World.cell?, hblk]
   have e2 : w2.frozen? ⟨s, 3, none⟩ = false := by simp [World.frozen?, hblk]
   have hblk3 := Ak (o := 3) (v := ptr d) hblk
   rw [hw3] at hblk3
   have e3 : w3.cell? ⟨s, 4, none⟩ = some qv := by simp [World.cell?, hblk3]
   have e4 : w3.frozen? ⟨s, 4, none⟩ = false := by simp [World.frozen?, hblk3]
   clear hb2 hD hes HNw hc0 hblk hblk3
   go_wp2
   go_end0
   exact ⟨rfl, HE.out⟩
def PickR (A : Ab) (e : Ending) : Prop := Dom A [] ∧ e = .returned (.tuple #[.string ⟨#[]⟩, .bool false]) ∨ ∃ k, (A k).isSome = true ∧ e = .returned (.tuple #[.string k, .bool true])
theorem Pick_any (w : World) (B s x : Nat) (NM : List ByteArray) (A : Ab) (V : ByteArray → Int) (hS : Spc w B s x NM A V) (hv : Low V) (c : Nat) (t : Int) (hc : c < 18446744073709551616) :
  Calls Tryz.prog 96 #[ptr s, .int .u64 c, .int .i64 t] w fun e w' => Bz w w' B s x NM A V t ∧ PickR (dueA A t) e := by
 have HT := Cj w B s x NM A V hS hv t
 go_enter Tryz.func96, Tryz.ntmps96
 go_wp2_with fail
 refine HT.mono ?_
 rintro e w1 ⟨rfl, hm, L, I, Q, ⟨S, P, D, D2, hX⟩, hR⟩
 have HM : Hid (Mb stag B w w1) := hm
 have HX : Hid (Sx w1 B s x NM L I Q (dueV A V t) S P D D2) := hX
 have HR : Hid (Rep L I Q (dueA A t)) := hR
 have c3 := hX.cd
 have HDm : Hid (Dom (dueA A t) (Dk.Ae D.es)) := hX.domK hR
 by_cases h0 : D.es.length = 0
 ·have HK := Dk.Pick_none B S.d x D c w1 hX.kd h0
  have HE : Hid (Bz w w1 B s x NM A V t ∧ PickR (dueA A t) (.returned (.tuple #[.string ⟨#[]⟩, .bool false]))) := by
   refine ⟨⟨hm, L, I, Q, ⟨S, P, D, D2, hX⟩, hR⟩, .inl ⟨?_, rfl⟩⟩
   have h1 := HDm.out
   rw [List.eq_nil_of_length_eq_zero h0] at h1
   exact h1
  clear hX hR hm HT
  go_wp2_with fail
  refine HK.mono ?_
  rintro e w1 ⟨rfl, rfl⟩
  go_wp2
  go_ret2
  exact HE.out
 ·have HK := Dk.Pick_some B S.d x D c w1 hX.kd (by omega) hc
  have HP : Hid ((dueA A t (Dk.pickK D c)).isSome = true) := by
   refine (HDm.out.iff _).1 ?_
   have hp := (hX.kd.ord_perm.flatMap_right Dk.Lf.es).map (·.1)
   refine hp.mem_iff.1 ?_
   unfold Dk.pickK
   have hl : c % D.es.length < (Dk.Ae (Dk.esL (Dk.ordU D.L (2 ^ D.g)))).length := by
    have h1 : (Dk.Ae (Dk.esL (Dk.ordU D.L (2 ^ D.g)))).length = (Dk.Ae D.es).length := hp.length_eq
    have h2 : (Dk.Ae D.es).length = D.es.length := List.length_map ..
    rw [h1, h2]
    exact Nat.mod_lt _ (by omega)
   rw [List.getD_eq_getElem?_getD, List.getElem?_eq_getElem hl]
   exact List.getElem_mem hl
  generalize Dk.pickK D c = k at HK HP
  clear hX hR hm HT
  go_wp2_with fail
  refine HK.mono ?_
  rintro e w2 ⟨rfl, hb⟩
  have HE : Hid (Bz w w2 B s x NM A V t ∧ PickR (dueA A t) (.returned (.tuple #[.string k, .bool true]))) :=
   ⟨⟨HM.out.trans (Mb.of_below hb (by have := HX.out.lt; omega)), L, I, Q, ⟨S, P, D, D2, HX.out.keep hb⟩, HR.out⟩, .inr ⟨k, HP.out, rfl⟩⟩
  clear hb HK
  go_wp2
  go_ret2
  exact HE.out
end Go.Proofs.YtmjeljldmmkcpaaGreat.Sq
