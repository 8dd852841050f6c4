/- Texts that the others stand on. -/
import Derived.Test.YtnajhjmdpaeelaaGreatDoorG21
namespace Go.Proofs.YtnajhjmdpaeelaaGreatDoor.Sq
open Go.RowKit Go.PlainAid
open Dk (ptr below_drewN alloc_below step_below add_flat OwnR OwnP OwnS Mv pcells Elt elt_of)
/-- Is an item timed? -/
theorem timed_any (w : World) (B : Own) (s x : Nat) (NM : List ByteArray) (L : List Nat) (I : Nat → Itm) (Q : List Nat) (V : ByteArray → Int) (H : In w B s x NM L I Q V) (p : Nat) (hp : p ∈ L) :
    Calls Tryz.prog 40 #[ptr p] w fun e w' => e = .returned (.bool (decide (p ∈ Q))) ∧ w' = w := by
  obtain ⟨S, P, D, D2, hX⟩ := H
  have e1 := hX.qs.its.cp hp
  have HT := isTimed_any w p _ e1
  have hd : decide (P p ≠ -1) = decide (p ∈ Q) := by
    by_cases h : p ∈ Q
    · rw [decide_eq_true h]
      obtain ⟨i, hi, rfl⟩ := at_ex h
      rw [hX.qs.plc i hi]
      exact decide_eq_true (by omega)
    · rw [decide_eq_false h, hX.qs.out p hp h]
      rfl
  rw [hd] at HT
  exact HT
/-- What Expire leaves. -/
def expA {α : Type} (A : AbV α) (k : ByteArray) (u t : Int) : AbV α := match A k with
  | some (v, _) => setA A k (if u ≤ t then none else some (v, some u))
  | none => A
def ExpTo (w w' : World) (B : Own) (s x : Nat) (NM : List ByteArray) (A : Ab) (V : ByteArray → Int) (k : ByteArray) (u t : Int) : Prop := To w w' B s x NM (expA A k u t) (chgV A V k)
set_option maxRecDepth 100000 in
theorem Expire_any (w : World) (B : Own) (s x : Nat) (NM : List ByteArray) (A : Ab) (V : ByteArray → Int) (hS : Spc w B s x NM A V) (hv : Low V) (u t : Int) (k : ByteArray) (hk : k ∈ NM) (hks : k.size ≤ 4096) :
    Calls Tryz.prog 18 #[ptr s, .string k, .int .i64 u, .int .i64 t] w fun e w' => e = .returned (.bool (dueA A t k).isSome) ∧ ExpTo w w' B s x NM (dueA A t) (dueV A V t) k u t := by
  have HF := find_any w B s x NM A V hS hv t k (by unfold maxLen; omega)
  go_enter Tryz.func18, Tryz.ntmps18
  go_wp2_with fail
  refine HF.mono ?_
  rintro e w1 ⟨hm, L, I, Q, hi, hr, ⟨rfl, hn⟩ | ⟨p, hp, hpk, rfl, hy⟩⟩
  · have HE : Hid (ExpTo w w1 B s x NM (dueA A t) (dueV A V t) k u t) := by
      unfold ExpTo chgV expA
      rw [hn]
      exact ⟨hm, L, I, Q, hi, hr⟩
    have HY : Hid (dueA A t k = none) := hn
    clear hm hi hr HF hn
    go_wp2
    go_ret
    exact ⟨by rw [HY.out]; rfl, HE.out⟩
  · have HY : Hid (dueA A t k = some ((I p).v, if p ∈ Q then some (I p).u else none)) := hy
    have HI : Hid (In w1 B s x NM L I Q (dueV A V t)) := hi
    have HR : Hid (Rep L I Q (dueA A t)) := hr
    have HM : Hid (Mb stag B w w1) := hm
    have hnn := eqlI_nil w1 p
    clear hm hi hr HF hy
    by_cases hut : u ≤ t
    · have HT := take_any w1 B s x NM L I Q _ HI.out p hp (hv.due A t)
      have hd : decide (u ≤ t) = true := decide_eq_true hut
      go_wp2_with fail
      refine HT.mono ?_
      rintro e w2 ⟨rfl, hm2, Q', hi2, hmem⟩
      have HE : Hid (ExpTo w w2 B s x NM (dueA A t) (dueV A V t) k u t) := by
        unfold ExpTo chgV expA
        rw [HY.out]
        simp only [if_pos hut]
        have h1 := HR.out.del HI.out.inj HI.out.nod hp hmem
        rw [hpk] at h1 hi2
        exact ⟨HM.out.trans hm2, _, I, Q', hi2, h1⟩
      clear hm2 hi2 hmem HT
      go_wp2
      go_ret
      exact ⟨by rw [HY.out]; rfl, HE.out⟩
    · have hd : decide (u ≤ t) = false := decide_eq_false hut
      have HUT : Hid (t < u) := Int.not_le.1 hut
      obtain ⟨S, P, D, D2, hX⟩ := HI.out
      have HX : Hid (Sx w1 B s x NM L I Q (dueV A V t) S P D D2) := hX
      have HD := drop_any w1 B s S L I P Q hX.qs p hp
      clear hX hut
      go_wp2_with fail
      refine HD.mono ?_
      rintro e w2 ⟨rfl, hm2, P2, Q2, hq2, hmem⟩
      have HX2 : Hid (Sx w2 B s x NM L I Q2 (dueV A V t) S P2 D D2) := HX.out.queue hm2 hq2 (fun _ _ => rfl)
      have HM2 : Hid (Mb stag B w w2) := HM.out.trans (Mb.mono hm2 stag_q)
      have HMem : Hid (∀ q, q ∈ Q2 ↔ q ≠ p ∧ q ∈ Q) := hmem
      have HA := add_any w2 B s S L I P2 Q2 hq2 p hp (fun h => ((hmem p).1 h).1 rfl) u HX2.out.up
      clear hm2 hq2 hmem HD
      go_wp2_with fail
      refine HA.mono ?_
      rintro e w3 ⟨rfl, hm3, P3, Q3, hq3, hmem3⟩
      have HX3 : Hid (In w3 B s x NM L (upd I p { I p with u := u }) Q3 (dueV A V t)) := ⟨S, P3, D, D2, HX2.out.queue hm3 hq3 (fun q _ => by
        by_cases h : q = p
        · rw [h, upd_eq]
        · rw [upd_ne _ _ h])⟩
      have HM3 : Hid (Mb stag B w w3) := HM2.out.trans (Mb.mono hm3 stag_q)
      have HR3 : Hid (Rep L (upd I p { I p with u := u }) Q3 (setA (dueA A t) k (some ((I p).v, some u)))) := by
        have h1 := HR.out.turn (J := upd I p { I p with u := u }) (Q' := Q3) HI.out.inj hp (by rw [upd_eq]) (fun q h => upd_ne _ _ h) (fun q h => ⟨fun h1 => ((HMem.out q).1 (((hmem3 q).1 h1).resolve_left h)).2, fun h1 => (hmem3 q).2 (.inr ((HMem.out q).2 ⟨h, h1⟩))⟩)
        rw [if_pos ((hmem3 p).2 (.inl rfl)), upd_eq, hpk] at h1
        exact h1
      have HC := change_any w3 B s x NM L _ Q3 _ HX3.out k hk (hv.due A t k)
      clear hm3 hq3 hmem3 HA
      go_wp2_with fail
      refine HC.mono ?_
      rintro e w4 ⟨rfl, hm4, hi4⟩
      have HE : Hid (ExpTo w w4 B s x NM (dueA A t) (dueV A V t) k u t) := by
        unfold ExpTo chgV expA
        rw [HY.out]
        simp only [if_neg (Int.not_le.2 HUT.out)]
        exact ⟨HM3.out.trans hm4, L, _, Q3, hi4, HR3.out⟩
      clear hm4 hi4 HC
      go_wp2
      go_ret
      exact ⟨by rw [HY.out]; rfl, HE.out⟩
/-- What Expiry tells. -/
def endOf {α : Type} (y : Option (α × Option Int)) : Option Int := match y with
  | some (_, e) => e
  | none => none
theorem Expiry_any (w : World) (B : Own) (s x : Nat) (NM : List ByteArray) (A : Ab) (V : ByteArray → Int) (hS : Spc w B s x NM A V) (hv : Low V) (t : Int) (k : ByteArray) (hk : k.size ≤ maxLen) :
    Calls Tryz.prog 19 #[ptr s, .string k, .int .i64 t] w fun e w' => e = .returned (.tuple #[.int .i64 ((endOf (dueA A t k)).getD 0), .bool (endOf (dueA A t k)).isSome]) ∧ DueTo w w' B s x NM A V t := by
  have HF := find_any w B s x NM A V hS hv t k hk
  go_enter Tryz.func19, Tryz.ntmps19
  go_wp2_with fail
  refine HF.mono ?_
  rintro e w1 ⟨hm, L, I, Q, hi, hr, ⟨rfl, hn⟩ | ⟨p, hp, hpk, rfl, hy⟩⟩
  · have HE : Hid (DueTo w w1 B s x NM A V t) := ⟨hm, L, I, Q, hi, hr⟩
    have HY : Hid (dueA A t k = none) := hn
    clear hm hi hr HF hn
    go_wp2
    go_ret2
    exact ⟨by rw [HY.out]; rfl, HE.out⟩
  · have HE : Hid (DueTo w w1 B s x NM A V t) := ⟨hm, L, I, Q, hi, hr⟩
    have HT := timed_any w1 B s x NM L I Q _ hi p hp
    obtain ⟨S, P, D, D2, hX⟩ := hi
    have e1 := hX.qs.its.cu hp
    have hnn := neqI_nil w1 p
    clear hm hX hr HF
    by_cases hq : p ∈ Q
    · rw [if_pos hq] at hy
      have HY : Hid (dueA A t k = some ((I p).v, some (I p).u)) := hy
      rw [decide_eq_true hq] at HT
      clear hy hq
      go_wp2_with fail
      refine HT.mono ?_
      rintro e w1 ⟨rfl, rfl⟩
      go_wp2
      go_ret2
      exact ⟨by rw [HY.out]; rfl, HE.out⟩
    · rw [if_neg hq] at hy
      have HY : Hid (dueA A t k = some ((I p).v, none)) := hy
      rw [decide_eq_false hq] at HT
      clear hy hq
      go_wp2_with fail
      refine HT.mono ?_
      rintro e w1 ⟨rfl, rfl⟩
      go_wp2
      go_ret2
      exact ⟨by rw [HY.out]; rfl, HE.out⟩
theorem incV_le (V : ByteArray → Int) (k j : ByteArray) : V j ≤ incV V k j ∧ incV V k j ≤ V j + 1 := by
  unfold incV
  split <;> omega
/-- These keys are there, each once. -/
structure Dom (A : Ab) (ks : List ByteArray) : Prop where
  nod : ks.Nodup
  iff : ∀ k, k ∈ ks ↔ (A k).isSome = true
theorem Dom.perm {A : Ab} {ks js : List ByteArray} (h : Dom A ks) (hp : ks.Perm js) : Dom A js := ⟨hp.nodup_iff.1 h.nod, fun k => by rw [← hp.mem_iff]; exact h.iff k⟩
theorem nodup_perm {ks js : List ByteArray} (h : ks.Nodup) (h' : js.Nodup) (hm : ∀ k, k ∈ ks ↔ k ∈ js) : ks.Perm js := (List.perm_ext_iff_of_nodup h h').2 hm
theorem Dom.same {A : Ab} {ks js : List ByteArray} (h : Dom A ks) (h' : Dom A js) : ks.Perm js := nodup_perm h.nod h'.nod fun k => by rw [h.iff, h'.iff]
theorem Sx.dom {w : World} {B : Own} {s x : Nat} {NM : List ByteArray} {L : List Nat} {I : Nat → Itm} {Q : List Nat} {V : ByteArray → Int} {S : Sd} {P : Nat → Int} {D : Dk.Dg} {D2 : Zs.Dk.Dg} (H : Sx w B s x NM L I Q V S P D D2) {A : Ab} (hR : Rep L I Q A) : Dom A (L.map fun p => (I p).k) := by
  refine ⟨H.nodk, fun k => ⟨fun h => ?_, fun h => ?_⟩⟩
  · obtain ⟨p, hp, rfl⟩ := List.mem_map.1 h
    rw [hR.yes p hp]; rfl
  · obtain ⟨y, hy⟩ := Option.isSome_iff_exists.1 h
    obtain ⟨p, hp, e⟩ := hR.no k y hy
    exact List.mem_map.2 ⟨p, hp, e⟩
theorem Sx.domK {w : World} {B : Own} {s x : Nat} {NM : List ByteArray} {L : List Nat} {I : Nat → Itm} {Q : List Nat} {V : ByteArray → Int} {S : Sd} {P : Nat → Int} {D : Dk.Dg} {D2 : Zs.Dk.Dg} (H : Sx w B s x NM L I Q V S P D D2) {A : Ab} (hR : Rep L I Q A) : Dom A (Dk.keysOf D.es) := by
  have h1 := H.kp.map (·.1)
  have h2 := H.dom hR
  have e : (kents L I).map (·.1) = L.map fun p => (I p).k := keys_kents L I
  rw [e] at h1
  exact h2.perm h1.symm
/-- A number came back: how many keys are there. -/
def LenR (e : Ending) (A : Ab) : Prop := ∃ ks, Dom A ks ∧ e = .returned (.int .i64 (ks.length : Nat))
theorem Len_any (w : World) (B : Own) (s x : Nat) (NM : List ByteArray) (A : Ab) (V : ByteArray → Int) (hS : Spc w B s x NM A V) (hv : Low V) (t : Int) :
    Calls Tryz.prog 20 #[ptr s, .int .i64 t] w fun e w' => DueTo w w' B s x NM A V t ∧ LenR e (dueA A t) := by
  have HT := takeDue_any w B s x NM A V hS hv t
  go_enter Tryz.func20, Tryz.ntmps20
  go_wp2_with fail
  refine HT.mono ?_
  rintro e w1 ⟨rfl, hm, L, I, Q, ⟨S, P, D, D2, hX⟩, hR⟩
  have HE : Hid (DueTo w w1 B s x NM A V t) := ⟨hm, L, I, Q, ⟨S, P, D, D2, hX⟩, hR⟩
  have HD : Hid (Dom (dueA A t) (Dk.keysOf D.es)) := hX.domK hR
  have HL := Dk.Len_dict 0 S.d x D w1 hX.kd
  have c3 := hX.cd
  have hl : D.es.length = (Dk.keysOf D.es).length := (List.length_map ..).symm
  rw [hl] at HL
  generalize Dk.keysOf D.es = ks at HL HD
  clear hX hR hl hm HT
  go_wp2_with fail
  refine HL.mono ?_
  rintro e w1 ⟨rfl, rfl⟩
  have HF : Hid (LenR (.returned (.int .i64 (ks.length : Nat))) (dueA A t)) := ⟨ks, HD.out, rfl⟩
  generalize ks.length = n at HF ⊢
  go_wp2
  go_ret
  exact ⟨HE.out, HF.out⟩
end Go.Proofs.YtnajhjmdpaeelaaGreatDoor.Sq
