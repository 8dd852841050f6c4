/-
  SpaceVersions: a key's version rises with each change of it, and with no change of another one.
-/
import Derived.Test.YtmjeljldmmkcpaaGreatG16
namespace Go.Proofs.YtmjeljldmmkcpaaGreat.Sq
open Go.RowKit Go.PlainAid
open Dk (ptr below_drewN alloc_below step_below add_flat OwnR OwnP OwnS Mv pcells Elt elt_of)

def mine : ByteArray := ⟨#[109, 105, 110, 101]⟩
def vNM : List ByteArray := mine :: (List.range 7).map nmA
theorem vNM_names : Names vNM := ⟨by decide, fun k hk => by
  rcases List.mem_cons.1 hk with rfl | h
  · decide
  · obtain ⟨d, -, rfl⟩ := List.mem_map.1 h
    have := nmA_size d
    omega⟩
theorem nmA_in {d : Nat} (h : d < 7) : nmA d ∈ vNM := List.mem_cons_of_mem _ (List.mem_map.2 ⟨d, List.mem_range.2 h, rfl⟩)
theorem mine_in : mine ∈ vNM := List.mem_cons_self ..
theorem nmA_ne : ∀ d, d < 7 → nmA d ≠ mine := by decide +kernel
theorem Due.still {A A' : Ab} {V V' : ByteArray → Int} {t : Int} (h : Due A A' V V' t) (hs : Still A t) : A' = A ∧ V' = V := by
  have h1 : ∀ k, A' k = A k ∧ V' k = V k := fun k => by
    rcases h k with h1 | ⟨v, e, h1, h2, -⟩
    · exact h1
    · have := hs k v e h1; omega
  exact ⟨funext fun k => (h1 k).1, funext fun k => (h1 k).2⟩
theorem expA_none {A : Ab} {k : ByteArray} {u t : Int} (h : A k = none) : expA A k u t = A := by unfold expA; rw [h]
theorem expA_some {A : Ab} {k : ByteArray} {u t : Int} {v : Option Addr} {q : Option Int} (h : A k = some (v, q)) : expA A k u t = setA A k (if u ≤ t then none else some (v, some u)) := by unfold expA; rw [h]
/-- Where the law stands: mine is there, and was changed n times. -/
structure Vi (w0 w : World) (B s x : Nat) (A : Ab) (V : ByteArray → Int) (b n : Int) : Prop where
  be : Below w0.heap.size w0 w
  spc : Spc w B s x vNM A V
  own : ∃ p, A mine = some (some ⟨p, 0, none⟩, none)
  still : Still A 0
  txt : ∀ k v u, A k = some (v, u) → ∃ p t, v = some ⟨p, 0, none⟩ ∧ Vt w p t
  vle : Vle V b
  ver : V mine = n
  low : w0.heap.size ≤ B
section
variable {w0 w w' : World} {B s x : Nat} {A : Ab} {V : ByteArray → Int} {b n : Int}
theorem Vi.due (H : Vi w0 w B s x A V b n) : dueA A 0 = A ∧ dueV A V 0 = V := ⟨H.still.due, H.still.dueV V⟩
theorem Vi.lw (H : Vi w0 w B s x A V b n) (hb : b ≤ 1000000) : Low V := H.vle.low hb
theorem Vi.keep (H : Vi w0 w B s x A V b n) (hb : Below w.heap.size w w') : Vi w0 w' B s x A V b n :=
  ⟨H.be.trans (hb.mono H.be.size), H.spc.keep hb, H.own, H.still, fun k v u h => by obtain ⟨p, t, e, h1⟩ := H.txt k v u h; exact ⟨p, t, e, h1.keep hb⟩, H.vle, H.ver, H.low⟩
/-- A call that leaves this. -/
theorem Vi.to (H : Vi w0 w B s x A V b n) {A' : Ab} {V' : ByteArray → Int} {c m : Int} (hT : To w w' B s x vNM A' V') (hm : ∃ p, A' Sq.mine = some (some ⟨p, 0, none⟩, none)) (hs : Still A' 0) (ht : ∀ k v u, A' k = some (v, u) → ∃ p t, v = some ⟨p, 0, none⟩ ∧ Vt w p t) (hv : Vle V' c) (hn : V' Sq.mine = m) : Vi w0 w' B s x A' V' c m :=
  ⟨H.be.trans (hT.mb.be.mono H.low), hT.spc, hm, hs, fun k v u h => by obtain ⟨p, t, e, h1⟩ := ht k v u h; exact ⟨p, t, e, h1.mb hT.mb⟩, hv, hn, H.low⟩
theorem Vi.same (H : Vi w0 w B s x A V b n) (hT : To w w' B s x vNM A V) : Vi w0 w' B s x A V b n := H.to hT H.own H.still H.txt H.vle H.ver
theorem incV_ne (V : ByteArray → Int) {k j : ByteArray} (h : j ≠ k) : incV V k j = V j := if_neg h
theorem incV_at (V : ByteArray → Int) (k : ByteArray) : incV V k k = V k + 1 := if_pos rfl
theorem chgV_ne (A : Ab) (V : ByteArray → Int) {k j : ByteArray} (h : j ≠ k) : chgV A V k j = V j := by
  unfold chgV
  split
  · exact incV_ne V h
  · rfl
theorem Still.set {A : Ab} {t : Int} (h : Still A t) {k : ByteArray} {y : Option (Option Addr × Option Int)} (hy : ∀ v e, y = some (v, some e) → t < e) : Still (setA A k y) t := fun j v e hj => by
  unfold setA at hj
  split at hj
  · exact hy v e hj
  · exact h j v e hj
end
/-- Put of a text, Delete, Expire, Touch of another key than mine. -/
def Other (w0 w' : World) (B s x : Nat) (b n : Int) : Prop := ∃ A V, Vi w0 w' B s x A V b n
theorem Touch_vi (w0 w : World) (B s x : Nat) (A : Ab) (V : ByteArray → Int) (b n : Int) (H : Vi w0 w B s x A V b n) (hb : b ≤ 1000000) (k : ByteArray) (hk : k ∈ vNM) :
    Calls Tryz.prog 32 #[ptr s, .string k, .int .i64 0] w fun e w' => e = .returned (.tuple #[]) ∧ Vi w0 w' B s x A (chgV A V k) (b + 1) (chgV A V k mine) := by
  have HT := Touch_any w B s x vNM A V H.spc (H.lw hb) 0 k hk (vNM_names.sz k hk) false (fun w1 v u hm hy => by
    rw [H.due.1] at hy
    obtain ⟨p, t, rfl, h1⟩ := H.txt k v u hy
    exact Empty_t w1 p t (h1.mb hm))
  refine HT.mono ?_
  rintro e w' ⟨rfl, hT⟩
  have hT' : To w w' B s x vNM (dueA A 0) (chgV (dueA A 0) (dueV A V 0) k) := hT
  rw [H.due.1, H.due.2] at hT'
  exact ⟨rfl, H.to hT' H.own H.still H.txt (H.vle.chg A k) rfl⟩
theorem Delete_vi (w0 w : World) (B s x : Nat) (A : Ab) (V : ByteArray → Int) (b n : Int) (H : Vi w0 w B s x A V b n) (hb : b ≤ 1000000) (k : ByteArray) (hk : k ∈ vNM) (hm : k ≠ mine) :
    Calls Tryz.prog 29 #[ptr s, .string k, .int .i64 0] w fun e w' => (∃ r : Bool, e = .returned (.bool r)) ∧ Other w0 w' B s x (b + 1) n := by
  have HT := Delete_any w B s x vNM A V H.spc (H.lw hb) 0 k (by have := vNM_names.sz k hk; unfold maxLen; omega)
  refine HT.mono ?_
  rintro e w' ⟨rfl, hT⟩
  have hT' : To w w' B s x vNM (setA (dueA A 0) k none) (chgV (dueA A 0) (dueV A V 0) k) := hT
  rw [H.due.1, H.due.2] at hT'
  refine ⟨⟨_, rfl⟩, _, _, H.to hT' (by rw [setA_ne _ _ (Ne.symm hm)]; exact H.own) (H.still.set (fun v e h => by cases h)) (fun j v u hj => ?_) (H.vle.chg A k) (by rw [chgV_ne _ _ (Ne.symm hm)]; exact H.ver)⟩
  unfold setA at hj
  split at hj
  · cases hj
  · exact H.txt j v u hj
theorem Expire_vi (w0 w : World) (B s x : Nat) (A : Ab) (V : ByteArray → Int) (b n : Int) (H : Vi w0 w B s x A V b n) (hb : b ≤ 1000000) (k : ByteArray) (hk : k ∈ vNM) (hm : k ≠ mine) :
    Calls Tryz.prog 30 #[ptr s, .string k, .int .i64 50, .int .i64 0] w fun e w' => (∃ r : Bool, e = .returned (.bool r)) ∧ Other w0 w' B s x (b + 1) n := by
  have HT := Expire_any w B s x vNM A V H.spc (H.lw hb) 50 0 k hk (vNM_names.sz k hk)
  refine HT.mono ?_
  rintro e w' ⟨rfl, hT⟩
  have hT' : To w w' B s x vNM (expA (dueA A 0) k 50 0) (chgV (dueA A 0) (dueV A V 0) k) := hT
  rw [H.due.1, H.due.2] at hT'
  cases hA : A k with
  | none =>
    rw [expA_none hA] at hT'
    exact ⟨⟨_, rfl⟩, _, _, H.to hT' H.own H.still H.txt (H.vle.chg A k) (by rw [chgV_ne _ _ (Ne.symm hm)]; exact H.ver)⟩
  | some y =>
    obtain ⟨v', q⟩ := y
    rw [expA_some hA, if_neg (by decide)] at hT'
    refine ⟨⟨_, rfl⟩, _, _, H.to hT' (by rw [setA_ne _ _ (Ne.symm hm)]; exact H.own) (H.still.set (fun v e h => ?_)) (fun j v u hj => ?_) (H.vle.chg A k) (by rw [chgV_ne _ _ (Ne.symm hm)]; exact H.ver)⟩
    · injection h with h
      injection h with _ h
      injection h with h
      omega
    · unfold setA at hj
      split at hj
      · injection hj with hj
        injection hj with h1 h2
        rw [← h1]
        exact H.txt k v' q hA
      · exact H.txt j v u hj
theorem Put_vi (w0 w : World) (B s x : Nat) (A : Ab) (V : ByteArray → Int) (b n : Int) (H : Vi w0 w B s x A V b n) (hb : b ≤ 1000000) (k : ByteArray) (hk : k ∈ vNM) (hm : k ≠ mine) (v : Nat) (t : ByteArray) (hv : Vt w v t) :
    Calls Tryz.prog 10 #[ptr s, .string k, ptr v, .int .i64 0] w fun e w' => e = .returned (.int .i64 0) ∧ Other w0 w' B s x (b + 1) n := by
  have HT := Put_any w B s x vNM A V H.spc (H.lw hb) 0 k hk (vNM_names.sz k hk) (some ⟨v, 0, none⟩) (Empty_t w v t hv)
  refine HT.mono ?_
  rintro e w' ⟨rfl, hT⟩
  have hT' : To w w' B s x vNM (setA (dueA A 0) k (some (some ⟨v, 0, none⟩, none))) (incV (dueV A V 0) k) := hT
  rw [H.due.1, H.due.2] at hT'
  refine ⟨rfl, _, _, H.to hT' (by rw [setA_ne _ _ (Ne.symm hm)]; exact H.own) (H.still.set (fun v e h => by cases h)) (fun j q u hj => ?_) (H.vle.inc k) (by rw [incV_ne _ (Ne.symm hm)]; exact H.ver)⟩
  unfold setA at hj
  split at hj
  · injection hj with hj
    injection hj with h1 h2
    rw [← h1]
    exact ⟨v, t, rfl, hv⟩
  · exact H.txt j q u hj
/-- The calls that only look. -/
theorem Get_vi (w0 w : World) (B s x : Nat) (A : Ab) (V : ByteArray → Int) (b n : Int) (H : Vi w0 w B s x A V b n) (hb : b ≤ 1000000) :
    Calls Tryz.prog 17 #[ptr s, .string mine, .int .i64 0] w fun e w' => (∃ p, e = .returned (ptr p)) ∧ Vi w0 w' B s x A V b n := by
  have HT := Get_any w B s x vNM A V H.spc (H.lw hb) 0 mine (by decide)
  refine HT.mono ?_
  rintro e w' ⟨rfl, hT⟩
  obtain ⟨p, hp⟩ := H.own
  rw [H.due.1, hp]
  exact ⟨⟨p, rfl⟩, H.same (To.keepV H.still hT)⟩
theorem Expiry_vi (w0 w : World) (B s x : Nat) (A : Ab) (V : ByteArray → Int) (b n : Int) (H : Vi w0 w B s x A V b n) (hb : b ≤ 1000000) :
    Calls Tryz.prog 33 #[ptr s, .string mine, .int .i64 0] w fun e w' => (∃ v, e = .returned v) ∧ Vi w0 w' B s x A V b n := by
  have HT := Expiry_any w B s x vNM A V H.spc (H.lw hb) 0 mine (by decide)
  refine HT.mono ?_
  rintro e w' ⟨rfl, hT⟩
  exact ⟨⟨_, rfl⟩, H.same (To.keepV H.still hT)⟩
theorem Scan_vi (w0 w : World) (B s x : Nat) (A : Ab) (V : ByteArray → Int) (b n : Int) (H : Vi w0 w B s x A V b n) (hb : b ≤ 1000000) (c : Nat) (hc : c < 18446744073709551616) :
    Calls Tryz.prog 28 #[ptr s, .int .u64 c, .int .i64 3, .int .i64 0] w fun e w' => (∃ v, e = .returned v) ∧ Vi w0 w' B s x A V b n := by
  have HT := Scan_any w B s x vNM A V H.spc (H.lw hb) c 3 0 hc
  refine HT.mono ?_
  rintro e w' ⟨hT, a, m, cp, g, ks, rfl, -⟩
  exact ⟨⟨_, rfl⟩, H.same (To.keepV H.still hT)⟩
theorem Cycle_vi (w0 w : World) (B s x : Nat) (A : Ab) (V : ByteArray → Int) (b n : Int) (H : Vi w0 w B s x A V b n) (hb : b ≤ 1000000) :
    Calls Tryz.prog 22 #[ptr s, .int .i64 5, .int .i64 0] w fun e w' => (∃ v, e = .returned v) ∧ Vi w0 w' B s x A V b n := by
  have HT := Cycle_any w B s x vNM A V H.spc (H.lw hb) 5 0
  refine HT.mono ?_
  rintro e w' ⟨A', V', ks, ks', c, rfl, hT, hd, -⟩
  obtain ⟨rfl, rfl⟩ := hd.still H.still
  exact ⟨⟨_, rfl⟩, H.same hT⟩
theorem Version_vi (w0 w : World) (B s x : Nat) (A : Ab) (V : ByteArray → Int) (b n : Int) (H : Vi w0 w B s x A V b n) (hb : b ≤ 1000000) :
    Calls Tryz.prog 13 #[ptr s, .string mine, .int .i64 0] w fun e w' => e = .returned (.int .u64 n) ∧ Vi w0 w' B s x A V b n := by
  have HT := Version_any w B s x vNM A V H.spc (H.lw hb) 0 mine (by decide)
  refine HT.mono ?_
  rintro e w' ⟨rfl, hT⟩
  rw [H.due.2, H.ver]
  exact ⟨rfl, H.same (To.keepV H.still hT)⟩
end Go.Proofs.YtmjeljldmmkcpaaGreat.Sq
