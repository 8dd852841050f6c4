/- Texts that the others stand on. -/
import Derived.Test.YtmjeljldmmkcpaaGreatK36
import Derived.OrdersHeld
import Derived.Deep.RegionHeld3
set_option maxRecDepth 100000
set_option maxHeartbeats 3200000
namespace Go.Proofs.YtmjeljldmmkcpaaGreat.Sq
open Go
section
variable {P : Program} {ops : Array Oper} {Q : Exit → Act → World → Prop} {md : Region.Mode} {S : World → Prop} {z : Nat}
def wpAnyG (P : Program) (md : Region.Mode) (ops : Array Oper) (Q : Exit → Act → World → Prop) (S : World → Prop) (z : Nat) : Nat → Array Bool → Act → World → Prop
 | 0, listed, a, w => Region.ready md ops listed = [] ∧ Q .normal a w
 | fuel + 1, listed, a, w =>
  (Region.ready md ops listed = [] → Q .normal a w) ∧
  ∀ i ∈ Region.ready md ops listed, wpOp P ops Q i (fun a' w' => (i ≠ z → S w') ∧ wpAnyG P md ops Q S z fuel (listed.setIfInBounds i true) a' w') a w
theorem wpAny_of_G : ∀ (fuel : Nat) (listed : Array Bool) (a : Act) (w : World), wpAnyG P md ops Q S z fuel listed a w → wpAny P md ops Q fuel listed a w
 | 0, _, _, _, h => h
 | fuel + 1, _, _, _, h => ⟨h.1, fun i hi => wpOp_mono (fun a' w' h' => wpAny_of_G fuel _ a' w' h'.2) (h.2 i hi)⟩
def waitSet (md : Region.Mode) (ops : Array Oper) (listed : Array Bool) (i : Nat) : List Nat :=
 (List.range ops.size).foldl (fun acc k => if (!listed.getD k true && ((ops[k]?).map fun o => o.after.any fun e => Region.binds md e && (e.on == i || acc.contains e.on)).getD false) = true then k :: acc else acc) []
def waitsOk (md : Region.Mode) (ops : Array Oper) (listed : Array Bool) (i z : Nat) (cs : List Nat) : Bool :=
 cs.contains z && cs.all fun k => !listed.getD k true && k != i && ((ops[k]?).map fun o => o.after.any fun e => Region.binds md e && (e.on == i || cs.contains e.on)).getD false
structure Waits (md : Region.Mode) (ops : Array Oper) (listed : Array Bool) (i z : Nat) (cs : List Nat) : Prop where
 has : z ∈ cs
 all : ∀ k ∈ cs, listed.getD k true = false ∧ k ≠ i ∧ ∃ o, ops[k]? = some o ∧ ∃ e ∈ o.after, Region.binds md e = true ∧ (e.on = i ∨ e.on ∈ cs)
theorem Waits.of {listed : Array Bool} {i : Nat} {cs : List Nat} (h : waitsOk md ops listed i z cs = true) : Waits md ops listed i z cs := by
 unfold waitsOk at h
 rw [Bool.and_eq_true] at h
 refine ⟨by simpa using h.1, fun k hk => ?_⟩
 have h1 := List.all_eq_true.1 h.2 k hk
 rw [Bool.and_eq_true, Bool.and_eq_true] at h1
 refine ⟨by simpa using h1.1.1, by simpa using h1.1.2, ?_⟩
 cases ho : ops[k]? with
 | none => rw [ho] at h1; exact absurd h1.2 (fun h => Bool.noConfusion h)
 | some o =>
  rw [ho] at h1
  have h2 : (o.after.any fun e => Region.binds md e && (e.on == i || cs.contains e.on)) = true := h1.2
  obtain ⟨e, he, hb⟩ := Array.any_eq_true'.1 h2
  rw [Bool.and_eq_true, Bool.or_eq_true] at hb
  exact ⟨o, rfl, e, he, hb.1, hb.2.imp (fun h => by simpa using h) (fun h => by simpa using h)⟩
theorem getD_false_true {listed : Array Bool} {k : Nat} (h : listed.getD k true = false) : listed.getD k false = false := by
 rcases Nat.lt_or_ge k listed.size with h' | h'
 ·simp [h'] at h ⊢; exact h
 ·simp [Array.getElem?_eq_none h'] at h
theorem Waits.not {listed : Array Bool} {i : Nat} {cs : List Nat} (H : Waits md ops listed i z cs) (hi : listed.getD i true = false) {j : Nat} (hj : j ∈ Region.ready md ops listed) : j ∉ cs := fun hc => by
 obtain ⟨-, -, o, ho, e, he, hb, hor⟩ := H.all j hc
 obtain ⟨-, o', ho', hall⟩ := mem_ready.1 hj
 rw [ho] at ho'
 cases ho'
 have h1 := hall e he hb
 have h2 : listed.getD e.on true = false := by
  rcases hor with h | h
  ·rw [h]; exact hi
  ·exact (H.all _ h).1
 rw [getD_false_true h2] at h1
 cases h1
theorem Waits.step {listed : Array Bool} {i : Nat} {cs : List Nat} (H : Waits md ops listed i z cs) {j : Nat} (hj : j ∉ cs) : Waits md ops (listed.setIfInBounds j true) i z cs :=
 ⟨H.has, fun k hk => by
  obtain ⟨h1, h2, h3⟩ := H.all k hk
  exact ⟨by rw [getD_set_ne true (fun e => hj (by rw [e]; exact hk))]; exact h1, h2, h3⟩⟩
theorem wpAnyG_first {i : Nat} {oi : Oper} {v : Value} (hi : ops[i]? = some oi) (hsel : ∀ (j : Nat) (o : Oper) cs b, ops[j]? = some o → o.op ≠ .select cs b)
  (hQ : ∀ c a w, Q (.panic c) (a.put oi.dst v) w → Q (.panic c) a w) (cs : List Nat) :
  ∀ (fuel : Nat) (listed : Array Bool) (a : Act) (w : World),
   (∀ j oj, ops[j]? = some oj → j ≠ i → listed.getD j true = false → (∀ e ∈ oj.after, Region.binds md e = true → e.on ≠ i) → oi.apart ops oj = true) →
   i ∈ Region.ready md ops listed → Waits md ops listed i z cs → YieldsIf P ops S oi v a → S w →
   wpAnyG P md ops Q S z fuel (listed.setIfInBounds i true) (a.put oi.dst v) w → wpAnyG P md ops Q S z (fuel + 1) listed a w := by
 intro fuel
 induction fuel with
 | zero =>
  intro listed a w _ hr _ hy hS H
  refine ⟨fun h => (by rw [h] at hr; cases hr), fun j hj => ?_⟩
  by_cases hji : j = i
  ·subst hji; exact hy.wpOp hi hS ⟨fun _ => hS, H⟩
  ·have := ready_mono hj hji
   rw [H.1] at this
   cases this
 | succ fuel ih =>
  intro listed a w hfree hr hW hy hS H
  refine ⟨fun h => (by rw [h] at hr; cases hr), fun j hj => ?_⟩
  by_cases hji : j = i
  ·subst hji; exact hy.wpOp hi hS ⟨fun _ => hS, H⟩
  ·have h1 := H.2 j (ready_mono hj hji)
   obtain ⟨hjun, oj, hoj, hall⟩ := mem_ready.1 hj
   have hnc := hW.not (mem_ready.1 hr).1 hj
   have hjz : j ≠ z := fun e => hnc (by rw [e]; exact hW.has)
   have hnot : ∀ e ∈ oj.after, Region.binds md e = true → e.on ≠ i := fun e he hb heq => by
    have h1 := hall e he hb
    have h0 := (mem_ready.1 hr).1
    rw [heq, getD_false_true h0] at h1
    cases h1
   have h2 := wpOp_putIf hoj (hfree j oj hoj hji hjun hnot) (fun cs b => hsel i oi cs b hi) (fun cs b => hsel j oj cs b hoj) hQ hy h1
   have hfree' : ∀ k ok, ops[k]? = some ok → k ≠ i → (listed.setIfInBounds j true).getD k true = false →
     (∀ e ∈ ok.after, Region.binds md e = true → e.on ≠ i) → oi.apart ops ok = true := fun k ok hk hki hun hno => by
    refine hfree k ok hk hki ?_ hno
    by_cases hjk : j = k
    ·subst hjk; exact hjun
    ·rw [getD_set_ne true hjk] at hun; exact hun
   refine wpOp_mono (fun a' w' h3 => ⟨h3.2.1, ih (listed.setIfInBounds j true) a' w' hfree' (ready_mono hr (Ne.symm hji)) (hW.step hnc) h3.1 (h3.2.1 hjz) ?_⟩) h2
   rw [Array.setIfInBounds_comm _ _ hji]
   exact h3.2.2
theorem wpAnyG_take {i : Nat} {oi : Oper} {v : Value} {fuel : Nat} {listed : Array Bool} {a : Act} {w : World} (hi' : ops.toList[i]? = some oi)
  (hs : Region.noSelect ops = true) (hf : (Region.free md ops listed i && (Region.ready md ops listed).contains i && waitsOk md ops listed i z (waitSet md ops listed i)) = true)
  (hQ : ∀ c a w, Q (.panic c) (a.put oi.dst v) w → Q (.panic c) a w) (hy : YieldsIf P ops S oi v a) (hS : S w)
  (h : wpAnyG P md ops Q S z fuel (listed.setIfInBounds i true) (a.put oi.dst v) w) : wpAnyG P md ops Q S z (fuel + 1) listed a w := by
 have hi : ops[i]? = some oi := by rw [← Array.getElem?_toList]; exact hi'
 rw [Bool.and_eq_true, Bool.and_eq_true] at hf
 exact wpAnyG_first hi (Region.noSelect_spec hs) hQ _ fuel listed a w (Region.free_spec hi hf.1.1) (by simpa using hf.1.2) (Waits.of hf.2) hy hS h
class Nxt (lo : Nat) (l : List Bool) (i : outParam Nat) : Prop where
 ok : True
instance Nxt.here (l : List Bool) : Nxt 0 (false :: l) 0 := ⟨trivial⟩
instance Nxt.on (l : List Bool) (i : Nat) [Nxt 0 l i] : Nxt 0 (true :: l) (i + 1) := ⟨trivial⟩
instance Nxt.past (lo : Nat) (b : Bool) (l : List Bool) (i : Nat) [Nxt lo l i] : Nxt (lo + 1) (b :: l) (i + 1) := ⟨trivial⟩
theorem tk (lo : Nat) {l : List Bool} {i : Nat} [Nxt lo l i] {oi : Oper} {v : Value} {fuel : Nat} {a : Act} {w : World} (hS : S w) (hy : ∀ w, S w → (execOp a.eval oi).run P w = .ok (.value v) w)
  (h : wpAnyG P md ops Q S z fuel (l.toArray.setIfInBounds i true) (a.put oi.dst v) w) (hi' : ops.toList[i]? = some oi := by rfl) (hs : Region.noSelect ops = true := by kernel_rfl)
  (hf : (Region.free md ops l.toArray i && (Region.ready md ops l.toArray).contains i && waitsOk md ops l.toArray i z (waitSet md ops l.toArray i)) = true := by kernel_rfl)
  (hQ : ∀ c a w, Q (.panic c) (a.put oi.dst v) w → Q (.panic c) a w := by exact fun _ _ _ h => h) (hw : Region.wanted oi (yielded ops a.tmps) = true := by rfl) : wpAnyG P md ops Q S z (fuel + 1) l.toArray a w :=
 wpAnyG_take hi' hs hf hQ (.inl ⟨hw, hy⟩) hS h
theorem wpAnyG_one {i : Nat} {o : Oper} {fuel : Nat} {listed : Array Bool} {a : Act} {w : World} (ho' : ops.toList[i]? = some o) (hg : o.guard = none) (hr : Region.ready md ops listed = [i])
  (h : ∀ K : Act → World → Prop, Shut (∀ a w, (i ≠ z → S w) → wpAnyG P md ops Q S z fuel (listed.setIfInBounds i true) a w → K a w) → Oper.wp P o a w K Q) : wpAnyG P md ops Q S z (fuel + 1) listed a w := by
 have ho : ops[i]? = some o := by rw [← Array.getElem?_toList]; exact ho'
 refine ⟨fun h0 => (by rw [hr] at h0; cases h0), fun j hj => ?_⟩
 rw [hr, List.mem_singleton] at hj
 subst hj
 unfold wpOp
 rw [ho]
 show if Region.wanted o _ = true then _ else _
 rw [if_pos (by simp [Region.wanted, hg])]
 exact .inl (h _ (fun a w h1 h2 => ⟨h1, h2⟩))
theorem wpAnyG_done {listed : Array Bool} {a : Act} {w : World} (hr : Region.ready md ops listed = []) (h : Q .normal a w) : ∀ fuel, wpAnyG P md ops Q S z fuel listed a w
 | 0 => ⟨hr, h⟩
 | _ + 1 => ⟨fun _ => h, by rw [hr]; simp⟩
theorem wp_region_G {id : Nat} {a : Act} {w : World} (z : Nat) (S : World → Prop) (hm : P.follows .mixedOrders = true)
  (h : wpAnyG P .any ops Q S z ops.size (Array.replicate ops.size false) a w.drew) : (Code.region id ops true).wp P Q a w := wp_region_any hm (wpAny_of_G _ _ _ _ h)
theorem uA {α : Type} (l : List α) (i : Nat) (a : α) : l.toArray.setIfInBounds i a = (l.set i a).toArray := List.setIfInBounds_toArray ..
theorem uB {α : Type} (x a : α) (l : List α) : (x :: l).set 0 a = a :: l := rfl
theorem uC {α : Type} (x a : α) (l : List α) (n : Nat) : (x :: l).set (n + 1) a = x :: l.set n a := rfl
theorem on1 (i : Nat) {o : Oper} {fuel : Nat} {l : List Bool} {a : Act} {w : World} (h : ∀ K : Act → World → Prop, Shut (∀ a w, (i ≠ z → S w) → wpAnyG P md ops Q S z fuel (l.toArray.setIfInBounds i true) a w → K a w) → Oper.wp P o a w K Q) (ho' : ops.toList[i]? = some o := by rfl) (hg : o.guard = none := by rfl) (hr : Region.ready md ops l.toArray = [i] := by kernel_rfl) : wpAnyG P md ops Q S z (fuel + 1) l.toArray a w := wpAnyG_one ho' hg hr h
theorem lst {K : Act → World → Prop} {fuel : Nat} {l : List Bool} {a : Act} {w : World} (hK : Shut (∀ a w, (z ≠ z → S w) → wpAnyG P md ops (NoPanic Q) S z fuel (l.toArray.setIfInBounds z true) a w → K a w)) (h : Q .normal a w) (hr : Region.ready md ops (l.toArray.setIfInBounds z true) = [] := by kernel_rfl) : K a w := hK.out _ _ (fun h => absurd rfl h) (wpAnyG_done hr (NoPanic.normal h) _)
theorem Ag {id : Nat} {a : Act} {w : World} (z : Nat) (S : World → Prop) (l : List Bool) (h : wpAnyG P .any ops (NoPanic Q) S z l.length l.toArray a w.drew) (hm : P.follows .mixedOrders = true := by kernel_rfl) (hl : List.replicate ops.size false = l := by rfl) : (Code.region id ops true).wp P Q a w := by
 subst hl
 rw [List.length_replicate, List.toArray_replicate] at h
 exact wp_region_noPanic (wp_region_G z S hm h)
end
end Go.Proofs.YtmjeljldmmkcpaaGreat.Sq
namespace Go.Proofs.YtmjeljldmmkcpaaGreat.Sq
open Go.RowKit Go.PlainAid
open Dk (ptr Aa Ac Ad Af OwnR OwnP OwnS Mv Am Elt A4)
def sltR (rows : List Kr) (k : BA) : List Kr := if (rows.any fun r => decide (r.nm = k)) = true then rows else rows ++ [Kr.off k 0]
theorem sltR_of {rows rs : List Kr} {k : BA} {i : Nat} {r : Kr} (h1 : rs[i]? = some r) (h2 : r.nm = k) (h : rs = rows ∨ rs = rows ++ [Kr.off k 0] ∧ k ∉ rows.map (·.nm)) : rs = sltR rows k := by
 unfold sltR
 rcases h with rfl | ⟨rfl, h⟩
 ·rw [if_pos (List.any_eq_true.2 ⟨r, List.mem_of_getElem? h1, decide_eq_true h2⟩)]
 ·rw [if_neg (fun hc => by
   obtain ⟨q, hq, he⟩ := List.any_eq_true.1 hc
   exact h (List.mem_map.2 ⟨q, hq, of_decide_eq_true he⟩))]
theorem sltR_low {rows : List Kr} {k : BA} {x : Int} (hx : 0 < x) (h : ∀ r ∈ rows, 0 ≤ r.ver ∧ r.ver < x) : ∀ r ∈ sltR rows k, 0 ≤ r.ver ∧ r.ver < x := by
 unfold sltR
 split
 ·exact h
 ·intro r hr
  rcases List.mem_append.1 hr with h1 | h1
  ·exact h r h1
  ·rw [List.mem_singleton] at h1
   subst h1
   exact ⟨Int.le_refl _, hx⟩
def putK (k : BA) (kd : Int) (tx : BA) (pa : Option Addr) (pc : Nat) (la : Option Addr) (ln lc : Nat) (ls : List BA) (u : Int) (en : Bool) (r : Kr) : Kr := ⟨k, true, kd, tx, pa, pc, la, ln, lc, ls, u, en, r.ver + 1⟩
theorem cells_other {w : World} {m g : Nat} (hne : m ≠ g) (o : Nat) (vs : List Value) : (w.setCells g o vs).cell? ⟨m, 0, none⟩ = w.cell? ⟨m, 0, none⟩ := by
 simp only [World.cell?, blk_other hne]
theorem box_keep {w w' : World} {b : Nat} {c0 c1 c2 c3 : Value} (h : w.heap[b]? = some (.cells #[c0, c1, c2, c3] 107 (0, 0))) (he : w'.heap[b]? = w.heap[b]?) : w'.cell? ⟨b, 0, none⟩ = some c0 ∧ w'.cell? ⟨b, 1, none⟩ = some c1 ∧ w'.cell? ⟨b, 2, none⟩ = some c2 ∧ w'.cell? ⟨b, 3, none⟩ = some c3 := by
 have := he.trans h
 exact ⟨by simp [World.cell?, this], by simp [World.cell?, this], by simp [World.cell?, this], by simp [World.cell?, this]⟩
theorem Md.gm {w : World} {B m : Nat} {rows : List Kr} (H : Md w B m rows) {g n c : Nat} (hg : w.cell? ⟨m, 0, none⟩ = some (.slice (some ⟨g, 0, none⟩) n c)) : m ≠ g := by
 obtain ⟨a, c', h1, h2⟩ := H.ex
 have e : w.cell? ⟨m, 0, none⟩ = some (.slice a rows.length c') := by simp [World.cell?, h1]
 rw [hg] at e
 injection e with e
 injection e with e1 e2 e3
 subst e1
 obtain ⟨-, -, cur, h4⟩ := OwnR.lt h2 (k := g) rfl
 exact Bj h1 h4 (by decide)
theorem wrap_ver {v : Int} (h1 : 0 ≤ v) (h2 : v < 4611686018427387901) : IntKind.u64.wrap (v + 1) = v + 1 := u64_nonneg (by omega) (by omega)
theorem PutM_full (w : World) (B m : Nat) (rows : List Kr) (k : BA) (kd : Int) (tx : BA) (pa : Option Addr) (pc : Nat) (la : Option Addr) (ln lc : Nat) (ls : List BA) (t : Int) (H : Md w B m rows) (hv : LowM rows) (hlen : rows.length < 1000) (hL : RdL w la ln lc ls) (hn : ln ≤ 1000)
  (HEm : ∀ wx, Calls Tryz.prog 100 #[vagg kd tx pa pc la ln lc] wx fun e w' => e = .returned (.bool false) ∧ Below wx.heap.size wx w') :
  Calls Tryz.prog 52 #[ptr m, .string k, vagg kd tx pa pc la ln lc, .int .i64 t] w fun e w' => e = .returned (.tuple #[]) ∧ ∃ pa' pc' la' lc', MTo w w' B m (updR (sltR (dueR t rows) k) k (putK k kd tx pa' pc' la' ln lc' ls 0 false)) := by
 obtain ⟨w0, hw0⟩ : ∃ w0, (w.alloc (.cells #[.int .i64 kd, .string tx, .slice pa 0 pc, .slice la ln lc] 107)) = w0 := ⟨_, rfl⟩
 have hb0 : Below w.heap.size w w0 := by rw [← hw0]; exact Ac w _
 have hx0 : w0.heap[w.heap.size]? = some (.cells #[.int .i64 kd, .string tx, .slice pa 0 pc, .slice la ln lc] 107 (0, 0)) := by rw [← hw0]; exact heap_alloc_new w _
 have HX0 : Hid (w0.heap[w.heap.size]? = some (.cells #[.int .i64 kd, .string tx, .slice pa 0 pc, .slice la ln lc] 107 (0, 0))) := hx0
 have HB0 : Hid (Below w.heap.size w w0) := hb0
 have HL0 : Hid (RdL w la ln lc ls) := hL
 obtain ⟨c0, c1, c2, c3⟩ := box_keep hx0 rfl
 have HH : Hid (Md w B m rows) := H
 have HV := hv.due t
 have HLe : Hid ((dueR t rows).length < 1000) := by show List.length _ < _; unfold dueR; rw [List.length_map]; exact hlen
 clear H hL hx0 hb0
 go_enter Tryz.func52, Tryz.ntmps52
 go_wp2_with fail
 refine (HEm _).mono ?_
 rintro e w1 ⟨rfl, hb1⟩
 have HB1 : Hid (Below w.heap.size w w1) := HB0.out.trans (hb1.mono HB0.out.size)
 have HX1 : Hid (w1.heap[w.heap.size]? = w0.heap[w.heap.size]?) := hb1.block _ (Array.getElem?_eq_some_iff.1 HX0.out).1
 have HDu := due_any w1 B m rows t (HH.out.keep HB1.out) hv
 go_wp2_with fail
 refine HDu.mono ?_
 rintro e w2 ⟨rfl, hM2⟩
 have HS := slot_any w2 B m _ k hM2.md HLe.out
 have HM2 : Hid (Mb mtag B w1 w2) := hM2.mb
 clear HDu hM2
 go_wp2_with fail
 refine HS.mono ?_
 rintro e w3 ⟨i, rs, r, rfl, hM3, hr, hk, hor⟩
 have hrs := sltR_of hr hk hor
 have HVr : Hid (∀ q ∈ rs, 0 ≤ q.ver ∧ q.ver < 4611686018427387901) := by rw [hrs]; exact sltR_low (by decide) HV
 have HM3 : Hid (Mb mtag B w1 w3) := HM2.out.trans hM3.mb
 have HMw : Hid (Mb mtag B w w3) := (Mb.of_below HB1.out HH.out.lt).trans HM3.out
 have HD : Hid (Md w3 B m rs) := hM3.md
 have HRS : Hid (rs = sltR (dueR t rows) k) := hrs
 have hfew := hM3.md.few
 have hlt := B1 hr
 obtain ⟨g, c, hF⟩ := hM3.md.fx hr
 obtain ⟨n, hn'⟩ : ∃ n, rs.length = n := ⟨_, rfl⟩
 rw [hn'] at hF hlt hfew
 have HF : Hid (Fx w3 m g n c i r) := hF
 have hha := hF.hd
 have m8 := hF.r9.c8
 have hvr := HVr.out r (List.mem_of_getElem? hr)
 have hv1 := hvr.1
 have hv2 := hvr.2
 have HWr : Hid (IntKind.u64.wrap (r.ver + 1) = r.ver + 1) := wrap_ver hv1 hv2
 have hiz : (i : Int) < n := by omega
 have hi9 : i * 9 ≤ 9000 := by omega
 have HX3 : Hid (w3.heap[w.heap.size]? = w0.heap[w.heap.size]?) := by
  have h1 : w1.heap[w.heap.size]? = some (.cells #[.int .i64 kd, .string tx, .slice pa 0 pc, .slice la ln lc] 107 (0, 0)) := HX1.out.trans HX0.out
  exact (HM3.out.mv.block _ _ _ h1 (by decide)).trans HX1.out
 obtain ⟨b0, b1, b2, b3⟩ := box_keep HX0.out HX3.out
 obtain ⟨d0, d1, d2, d3⟩ := box_keep (w' := w3.drew) HX0.out HX3.out
 have hhd : w3.drew.cell? ⟨m, 0, none⟩ = some (.slice (some ⟨g, 0, none⟩) n c) := hha
 have n8 : w3.drew.cell? ⟨g, i * 9 + 8, none⟩ = some (.int .u64 r.ver) := m8
 have HGm : Hid (m ≠ g) := hM3.md.gm hha
 have HSd : Hid (w3.drew.cell? ⟨m, 0, none⟩ = some (.slice (some ⟨g, 0, none⟩) n c) ∧ w3.drew.cell? ⟨w.heap.size, 0, none⟩ = some (.int .i64 kd) ∧ w3.drew.cell? ⟨w.heap.size, 1, none⟩ = some (.string tx) ∧ w3.drew.cell? ⟨w.heap.size, 2, none⟩ = some (.slice pa 0 pc) ∧ w3.drew.cell? ⟨w.heap.size, 3, none⟩ = some (.slice la ln lc) ∧ w3.drew.cell? ⟨g, i * 9 + 8, none⟩ = some (.int .u64 r.ver)) := ⟨hhd, d0, d1, d2, d3, n8⟩
 have HX5 : Hid (w.heap.size < w3.drew.heap.size) := (Array.getElem?_eq_some_iff.1 (HX3.out.trans HX0.out)).1
 have HGb : Hid (w.heap.size ≠ g) := by
  obtain ⟨a5, c5, h51, h52⟩ := HD.out.ex
  have e5 : w3.cell? ⟨m, 0, none⟩ = some (.slice a5 rs.length c5) := by simp [World.cell?, h51]
  rw [hha] at e5
  injection e5 with e5
  injection e5 with e1 e2 e3
  subst e1
  obtain ⟨-, -, cur, h4⟩ := OwnR.lt h52 (k := g) rfl
  exact (Bj (HX3.out.trans HX0.out) h4 (by decide) : w.heap.size ≠ g)
 have HL3 : Hid (RdL w3.drew la ln lc ls) := (((HL0.out.keep HB1.out).mv HM3.out.mv (by decide)).keep (Aa w3 1))
 have HS9 : Hid (∀ (w4 : World) (p2 : Option Addr) (c2 : Nat) (l2 : Option Addr) (lc2 : Nat), Below w3.drew.heap.size w3.drew w4 → RdL w4 l2 ln lc2 ls → MTo w (w4.setCells g (i * 9) (putK k kd tx p2 c2 l2 ln lc2 ls 0 false r).cells) B m (updR (sltR (dueR t rows) k) k (putK k kd tx p2 c2 l2 ln lc2 ls 0 false))) := fun w4 p2 c2 l2 lc2 hb hl => by
  have hb4 : Below w3.heap.size w3 w4 := (Aa w3 1).trans hb
  have hD4 := HD.out.keep hb4
  have hF4 := HF.out.keep hb4
  have h := hD4.set (i := i) (by rw [hn']; omega) (by rw [hn']; exact hF4.hd) (r := putK k kd tx p2 c2 l2 ln lc2 ls 0 false r) (by rw [nm_get hr]; exact hk.symm) hl ⟨by show 0 ≤ r.ver + 1; omega, by show r.ver + 1 < _; omega⟩ rfl
  rw [Cs HD.out.nod hr hk (putK k kd tx p2 c2 l2 ln lc2 ls 0 false), HRS.out] at h
  exact ⟨(HMw.out.trans (Mb.of_below hb4 HD.out.lt)).trans h.2, h.1⟩
 clear hM3 hr hk hor hrs HS hvr hF
 have HLn : Hid (ln ≤ 1000) := hn
 go_upto_region 5 with fail
 refine Ag 19 (fun w' => w'.cell? ⟨m, 0, none⟩ = some (.slice (some ⟨g, 0, none⟩) n c) ∧ w'.cell? ⟨w.heap.size, 0, none⟩ = some (.int .i64 kd) ∧ w'.cell? ⟨w.heap.size, 1, none⟩ = some (.string tx) ∧ w'.cell? ⟨w.heap.size, 2, none⟩ = some (.slice pa 0 pc) ∧ w'.cell? ⟨w.heap.size, 3, none⟩ = some (.slice la ln lc) ∧ w'.cell? ⟨g, i * 9 + 8, none⟩ = some (.int .u64 r.ver)) [false, false, false, false, false, false, false, false, false, false, false, false, false, false, false, false, false, false, false, false] ?_
 iterate 7
  refine tk (v := ?_) 0 HSd.out ?_ ?_
  rotate_left
  ·(intro w hSw; (try dsimp only at hSw); go_simp; try with_reducible rfl)
  simp only [Act.put, uA, uB, uC]
 iterate 9
  refine tk (v := ?_) 8 HSd.out ?_ ?_
  rotate_left
  ·(intro w hSw; (try dsimp only at hSw); go_simp; try with_reducible rfl)
  simp only [Act.put, uA, uB, uC]
 refine on1 7 fun K hK => ?_
 go_simp
 refine (CopyVM_any _ kd tx pa pc la ln lc ls HL3.out HLn.out).mono ?_
 rintro e w4 ⟨hb4, p2, pc2, l2, lc2, rfl, hl4⟩
 have HB4 : Hid (Below w3.drew.heap.size w3.drew w4) := hb4
 have HL4 : Hid (RdL w4 l2 ln lc2 ls) := hl4
 obtain ⟨f0, ⟨p0, p1, pp2, p3, p4, p5, p6, p7, p8⟩, fz⟩ := HF.out.keep ((Aa w3 1).trans hb4)
 have HH4 : Hid (w4.cell? ⟨m, 0, none⟩ = some (.slice (some ⟨g, 0, none⟩) n c) ∧ w4.cell? ⟨w.heap.size, 0, none⟩ = some (.int .i64 kd) ∧ w4.cell? ⟨w.heap.size, 1, none⟩ = some (.string tx) ∧ w4.cell? ⟨w.heap.size, 2, none⟩ = some (.slice pa 0 pc) ∧ w4.cell? ⟨w.heap.size, 3, none⟩ = some (.slice la ln lc) ∧ w4.cell? ⟨g, i * 9 + 8, none⟩ = some (.int .u64 r.ver)) := ⟨f0, (box_keep (w' := w4) HX0.out ((hb4.block _ HX5.out).trans HX3.out)).1, (box_keep (w' := w4) HX0.out ((hb4.block _ HX5.out).trans HX3.out)).2.1, (box_keep (w' := w4) HX0.out ((hb4.block _ HX5.out).trans HX3.out)).2.2.1, (box_keep (w' := w4) HX0.out ((hb4.block _ HX5.out).trans HX3.out)).2.2.2, p8⟩
 clear hb4 hl4
 refine hK.out _ _ (fun _ => HH4.out) ?_
 clear hK
 simp only [uA, uB, uC]
 iterate 2
  refine tk (v := ?_) 17 HH4.out ?_ ?_
  rotate_left
  ·(intro w hSw; (try dsimp only at hSw); go_simp; try with_reducible rfl)
  simp only [Act.put, uA, uB, uC]
 refine on1 19 fun K hK => ?_
 go_simp
 refine lst hK ?_
 clear hK
 have HE : Hid (MTo w (w4.setCells g (i * 9) (putK k kd tx p2 pc2 l2 ln lc2 ls 0 false r).cells) B m (updR (sltR (dueR t rows) k) k (putK k kd tx p2 pc2 l2 ln lc2 ls 0 false))) := HS9.out w4 p2 pc2 l2 lc2 HB4.out HL4.out
 go_wp2
 (try simp only [Exit.inBlock, Exit.then])
 first
  | (refine bodyPost_ret (results_none rfl _ _ _) rfl ?_)
  | (refine bodyPost_end (results_none rfl _ _ _) rfl ?_)
 rw [HWr.out]
 exact ⟨rfl, p2, pc2, l2, lc2, HE.out⟩
theorem PutM_empty (w : World) (B m : Nat) (rows : List Kr) (k : BA) (tx : BA) (pa : Option Addr) (pc : Nat) (la : Option Addr) (lc : Nat) (t : Int) (H : Md w B m rows) (hv : LowM rows) :
  Calls Tryz.prog 52 #[ptr m, .string k, vagg 4 tx pa pc la 0 lc, .int .i64 t] w fun e w' => e = .returned (.tuple #[]) ∧ MTo w w' B m (delR (dueR t rows) k) := by
 obtain ⟨w0, hw0⟩ : ∃ w0, (w.alloc (.cells #[.int .i64 4, .string tx, .slice pa 0 pc, .slice la 0 lc] 107)) = w0 := ⟨_, rfl⟩
 have hb0 : Below w.heap.size w w0 := by rw [← hw0]; exact Ac w _
 have hx0 : w0.heap[w.heap.size]? = some (.cells #[.int .i64 4, .string tx, .slice pa 0 pc, .slice la 0 lc] 107 (0, 0)) := by rw [← hw0]; exact heap_alloc_new w _
 have HB0 : Hid (Below w.heap.size w w0) := hb0
 obtain ⟨c0, c1, c2, c3⟩ := box_keep hx0 rfl
 have HH : Hid (Md w B m rows) := H
 have HEm := EmptyM_lst w0 tx pa pc la 0 lc (by decide)
 rw [decide_eq_true (rfl : (0 : Nat) = 0)] at HEm
 clear H hx0 hb0
 go_enter Tryz.func52, Tryz.ntmps52
 go_wp2_with fail
 refine HEm.mono ?_
 rintro e w1 ⟨rfl, hb1⟩
 have HB1 : Hid (Below w.heap.size w w1) := HB0.out.trans (hb1.mono HB0.out.size)
 have HDl := DeleteM_any w1 B m rows k t (HH.out.keep HB1.out) hv
 go_wp2_with fail
 refine HDl.mono ?_
 rintro e w2 ⟨rfl, hM2⟩
 have HE : Hid (MTo w w2 B m (delR (dueR t rows) k)) := ⟨(Mb.of_below HB1.out HH.out.lt).trans hM2.mb, hM2.md⟩
 clear hM2 HDl HEm
 go_wp2
 (try simp only [Exit.inBlock, Exit.then])
 first
  | (refine bodyPost_ret (results_none rfl _ _ _) rfl ?_)
  | (refine bodyPost_end (results_none rfl _ _ _) rfl ?_)
 exact ⟨rfl, HE.out⟩
def incK (r : Kr) : Kr := { r with ver := r.ver + 1 }
def srcR (rows : List Kr) (a : BA) : Kr := (rows.find? fun r => decide (r.nm = a)).getD (Kr.off a 0)
def movK (b : BA) (s : Kr) (r : Kr) : Kr := putK b s.kd s.tx s.pa s.pc s.la s.ln s.lc s.ls s.at' s.en r
def renR (rows : List Kr) (a b : BA) : List Kr :=
 if Bc rows a = true then (if a = b then updR rows a incK else updR (updR (sltR rows b) b (movK b (srcR rows a))) a (fun r => Kr.off a (r.ver + 1))) else rows
theorem srcR_get {rows : List Kr} (hn : (rows.map (·.nm)).Nodup) {i : Nat} {r : Kr} {k : BA} (hr : rows[i]? = some r) (hk : r.nm = k) : srcR rows k = r := by
 unfold srcR
 rw [find_row hn hr hk]
 rfl
theorem slt_get {rows rs : List Kr} {k : BA} {i : Nat} {r : Kr} (hr : rows[i]? = some r) (h : rs = rows ∨ rs = rows ++ [Kr.off k 0] ∧ k ∉ rows.map (·.nm)) : rs[i]? = some r := by
 rcases h with rfl | ⟨rfl, h⟩
 ·exact hr
 ·rw [List.getElem?_append_left (B1 hr)]; exact hr
theorem RenameM_any (w : World) (B m : Nat) (rows : List Kr) (a b : BA) (t : Int) (H : Md w B m rows) (hv : LowM rows) (hlen : rows.length < 1000) :
  Calls Tryz.prog 58 #[ptr m, .string a, .string b, .int .i64 t] w fun e w' => e = .returned (.bool (Bc (dueR t rows) a)) ∧ MTo w w' B m (renR (dueR t rows) a b) := by
 have HA := At_any w B m rows a t H hv
 have HV := hv.due t
 have HLe : Hid ((dueR t rows).length < 1000) := by show List.length _ < _; unfold dueR; rw [List.length_map]; exact hlen
 clear H
 go_enter Tryz.func58, Tryz.ntmps58
 go_wp2_with fail
 refine HA.mono ?_
 rintro e w1 ⟨⟨hm1, hd1⟩, ⟨i, r, rfl, hr, hk, hth⟩ | ⟨rfl, hno⟩⟩
 ·obtain ⟨rs, hrs⟩ : ∃ rs, dueR t rows = rs := ⟨_, rfl⟩
  rw [hrs] at hd1 hr HV HLe
  have HD : Hid (Md w1 B m rs) := hd1
  have HM : Hid (Mb mtag B w w1) := hm1
  have HRS : Hid (dueR t rows = rs) := hrs
  have hneg : decide ((i : Int) < 0) = false := decide_eq_false (by omega)
  have HT : Hid (Bc (dueR t rows) a = true) := by show _ = _; rw [hrs]; exact thereR_yes hr hk hth
  have hvr := HV r (List.mem_of_getElem? hr)
  by_cases hab : a = b
  ·have hfew := hd1.few
   have hlt := B1 hr
   obtain ⟨g, c, hF⟩ := hd1.fx hr
   obtain ⟨n, hn⟩ : ∃ n, rs.length = n := ⟨_, rfl⟩
   rw [hn] at hF hlt hfew
   have hha := hF.hd
   have m8 := hF.r9.c8
   have hfa := hF.fz
   have hv1 := hvr.1
   have hv2 := hvr.2
   have hiz : (i : Int) < n := by omega
   have hi9 : i * 9 ≤ 9000 := by omega
   obtain ⟨wx, hwx⟩ : ∃ wx, w1.setCell ⟨g, i * 9 + 8, none⟩ (.int .u64 (r.ver + 1)) = wx := ⟨_, rfl⟩
   obtain ⟨k1, k2, k3⟩ := hd1.cell1 (r' := incK r) hr (by rw [hn]; exact hha) rfl (hd1.lst r (List.mem_of_getElem? hr)) ⟨by show 0 ≤ r.ver + 1; omega, by show r.ver + 1 < _; omega⟩ (by decide) rfl hwx.symm
   have hab' := str_yes hab
   have HE : Hid (MTo w wx B m (renR (dueR t rows) a b)) := by
    show MTo w wx B m _
    unfold renR
    rw [HT.out, if_pos rfl, if_pos hab, hrs, ← Cs hd1.nod hr hk incK]
    exact ⟨hm1.trans k2, k1⟩
   clear k1 k2 k3 hd1 hm1 hrs hr hk hth HA hvr hF HD HM
   subst hwx
   go_wp2
   go_ret
   exact ⟨by rw [HT.out]; rfl, HE.out⟩
  ·have hab' := str_no hab
   have HS := slot_any w1 B m _ b hd1 HLe.out
   go_wp2_with fail
   refine HS.mono ?_
   rintro e w3 ⟨k, rs3, q, rfl, hM3, hq, hqb, hor⟩
   have hrs3 := sltR_of hq hqb hor
   have HVr : Hid (∀ q ∈ rs3, 0 ≤ q.ver ∧ q.ver < 4611686018427387901) := by rw [hrs3]; exact sltR_low (by decide) HV
   have hr3 := slt_get hr hor
   have HM3 : Hid (Mb mtag B w w3) := hm1.trans hM3.mb
   have HD3 : Hid (Md w3 B m rs3) := hM3.md
   have HRS3 : Hid (rs3 = sltR (dueR t rows) b) := by rw [HRS.out]; exact hrs3
   have HSr : Hid (srcR (dueR t rows) a = r) := by rw [HRS.out]; exact srcR_get hd1.nod hr hk
   have hfew := hM3.md.few
   have hlt := B1 hr3
   have hltk := B1 hq
   obtain ⟨g, c, hF⟩ := hM3.md.fx hr3
   have hFk := hM3.md.fx2 hq hF.hd
   obtain ⟨n, hn'⟩ : ∃ n, rs3.length = n := ⟨_, rfl⟩
   rw [hn'] at hF hlt hfew hFk hltk
   have hvq := HVr.out q (List.mem_of_getElem? hq)
   have hv1 := hvq.1
   have hv2 := hvq.2
   have hvr1 := hvr.1
   have hvr2 := hvr.2
   have hiz : (i : Int) < n := by omega
   have hkz : (k : Int) < n := by omega
   have hi9 : i * 9 ≤ 9000 := by omega
   have hk9 : k * 9 ≤ 9000 := by omega
   have HF : Hid (Fx w3 m g n c i r) := hF
   have hik : i ≠ k := fun e => hab (by subst e; rw [hr3] at hq; injection hq with hq; rw [← hk, hq]; exact hqb)
   obtain ⟨wy, hwy⟩ : ∃ wy, w3.setCells g (k * 9) (movK b r q).cells = wy := ⟨_, rfl⟩
   have hset := HD3.out.set (i := k) (by rw [hn']; omega) (by rw [hn']; exact hF.hd) (r := movK b r q) (by rw [nm_get hq]; exact hqb.symm) (HD3.out.lst r (List.mem_of_getElem? hr3)) ⟨by show 0 ≤ q.ver + 1; omega, by show q.ver + 1 < _; omega⟩ hwy.symm
   have hr4 : (rs3.set k (movK b r q))[i]? = some r := by rw [List.getElem?_set_ne (fun e => hik e.symm)]; exact hr3
   have hgy : wy.cell? ⟨m, 0, none⟩ = some (.slice (some ⟨g, 0, none⟩) n c) := by rw [← hwy, cells_other (HD3.out.gm hF.hd)]; exact hF.hd
   have hF4 := hset.1.fx2 hr4 (g := g) (c := c) (by rw [List.length_set, hn']; exact hgy)
   rw [List.length_set, hn'] at hF4
   have HDy : Hid (Md wy B m (rs3.set k (movK b r q))) := hset.1
   have HMy : Hid (Mb mtag B w wy) := HM3.out.trans hset.2
   obtain ⟨wz, hwz⟩ : ∃ wz, wy.setCells g (i * 9) (Kr.off a (r.ver + 1)).cells = wz := ⟨_, rfl⟩
   have HE : Hid (MTo w wz.drew.drew B m (renR (dueR t rows) a b)) := by
    have h2 := HDy.out.set (i := i) (by rw [List.length_set, hn']; omega) (by rw [List.length_set, hn']; exact hgy) (r := Kr.off a (r.ver + 1)) (by rw [nm_get hr4]; exact hk.symm) (RdL.nil _) ⟨by show 0 ≤ r.ver + 1; omega, by show r.ver + 1 < _; omega⟩ hwz.symm
    rw [Cs HDy.out.nod hr4 hk (fun r => Kr.off a (r.ver + 1)), Cs HD3.out.nod hq hqb (movK b r)] at h2
    have hb2 : Below wz.heap.size wz wz.drew.drew := Aa wz 2
    show MTo w wz.drew.drew B m _
    unfold renR
    rw [HT.out, if_pos rfl, if_neg hab, HSr.out, ← HRS3.out]
    exact ⟨(HMy.out.trans h2.2).trans (Mb.of_below hb2 h2.1.lt), h2.1.keep hb2⟩
   clear hset hM3 hq hqb hor hrs3 HS hvr hd1 hm1 hrs hr hk hth HA hr3 hr4 hvq
   obtain ⟨f0, ⟨p0, p1, p2, p3, p4, p5, p6, p7, p8⟩, fz⟩ := hF
   obtain ⟨-, ⟨q0, q1, q2, q3, q4, q5, q6, q7, q8⟩, -⟩ := hFk
   obtain ⟨F0, ⟨P0, P1, P2, P3, P4, P5, P6, P7, P8⟩, Fz⟩ := hF4
   have hhd : w3.drew.cell? ⟨m, 0, none⟩ = some (.slice (some ⟨g, 0, none⟩) n c) := f0
   have x2 : w3.drew.cell? ⟨g, i * 9 + 2, none⟩ = some (.int .i64 r.kd) := p2
   have x3 : w3.drew.cell? ⟨g, i * 9 + 3, none⟩ = some (.string r.tx) := p3
   have x4 : w3.drew.cell? ⟨g, i * 9 + 4, none⟩ = some (.slice r.pa 0 r.pc) := p4
   have x5 : w3.drew.cell? ⟨g, i * 9 + 5, none⟩ = some (.slice r.la r.ln r.lc) := p5
   have x6 : w3.drew.cell? ⟨g, i * 9 + 6, none⟩ = some (.int .i64 r.at') := p6
   have x7 : w3.drew.cell? ⟨g, i * 9 + 7, none⟩ = some (.bool r.en) := p7
   have y8 : w3.drew.cell? ⟨g, k * 9 + 8, none⟩ = some (.int .u64 q.ver) := q8
   have hfd : ∀ o, w3.drew.frozen? ⟨g, o, none⟩ = false := fz
   clear p0 p1 p2 p3 p4 p5 p6 p7 p8
   have HS1 : Hid (w3.drew.cell? ⟨m, 0, none⟩ = some (.slice (some ⟨g, 0, none⟩) n c) ∧ w3.drew.cell? ⟨g, i * 9 + 2, none⟩ = some (.int .i64 r.kd) ∧ w3.drew.cell? ⟨g, i * 9 + 3, none⟩ = some (.string r.tx) ∧ w3.drew.cell? ⟨g, i * 9 + 4, none⟩ = some (.slice r.pa 0 r.pc) ∧ w3.drew.cell? ⟨g, i * 9 + 5, none⟩ = some (.slice r.la r.ln r.lc) ∧ w3.drew.cell? ⟨g, i * 9 + 6, none⟩ = some (.int .i64 r.at') ∧ w3.drew.cell? ⟨g, i * 9 + 7, none⟩ = some (.bool r.en) ∧ w3.drew.cell? ⟨g, k * 9 + 8, none⟩ = some (.int .u64 q.ver)) := ⟨hhd, x2, x3, x4, x5, x6, x7, y8⟩
   have HWq : Hid (IntKind.u64.wrap (q.ver + 1) = q.ver + 1) := wrap_ver hv1 hv2
   have HWr : Hid (IntKind.u64.wrap (r.ver + 1) = r.ver + 1) := wrap_ver hvr1 hvr2
   have HWY : Hid ((((((((((w3.setCell ⟨g, k * 9, none⟩ (.string b)).setCell ⟨g, k * 9 + 1, none⟩ (.bool true)).setCell ⟨g, k * 9 + 2, none⟩ (.int .i64 r.kd)).setCell ⟨g, k * 9 + 3, none⟩ (.string r.tx)).setCell ⟨g, k * 9 + 4, none⟩ (.slice r.pa 0 r.pc)).setCell ⟨g, k * 9 + 5, none⟩ (.slice r.la r.ln r.lc)).setCell ⟨g, k * 9 + 6, none⟩ (.int .i64 r.at')).setCell ⟨g, k * 9 + 7, none⟩ (.bool r.en)).setCell ⟨g, k * 9 + 8, none⟩ (.int .u64 (q.ver + 1))) = wy) := hwy
   have HWZ : Hid ((((((((((wy.setCell ⟨g, i * 9, none⟩ (.string a)).setCell ⟨g, i * 9 + 1, none⟩ (.bool false)).setCell ⟨g, i * 9 + 2, none⟩ (.int .i64 0)).setCell ⟨g, i * 9 + 3, none⟩ (.string ⟨#[]⟩)).setCell ⟨g, i * 9 + 4, none⟩ (.slice none 0 0)).setCell ⟨g, i * 9 + 5, none⟩ (.slice none 0 0)).setCell ⟨g, i * 9 + 6, none⟩ (.int .i64 0)).setCell ⟨g, i * 9 + 7, none⟩ (.bool false)).setCell ⟨g, i * 9 + 8, none⟩ (.int .u64 (r.ver + 1))) = wz) := hwz
   have HS2 : Hid (wy.drew.drew.cell? ⟨m, 0, none⟩ = some (.slice (some ⟨g, 0, none⟩) n c) ∧ wy.drew.drew.cell? ⟨g, i * 9 + 8, none⟩ = some (.int .u64 r.ver)) := ⟨F0, P8⟩
   go_upto_region 8 with fail
   refine Ag 41 (fun w' => w'.cell? ⟨m, 0, none⟩ = some (.slice (some ⟨g, 0, none⟩) n c) ∧ w'.cell? ⟨g, i * 9 + 2, none⟩ = some (.int .i64 r.kd) ∧ w'.cell? ⟨g, i * 9 + 3, none⟩ = some (.string r.tx) ∧ w'.cell? ⟨g, i * 9 + 4, none⟩ = some (.slice r.pa 0 r.pc) ∧ w'.cell? ⟨g, i * 9 + 5, none⟩ = some (.slice r.la r.ln r.lc) ∧ w'.cell? ⟨g, i * 9 + 6, none⟩ = some (.int .i64 r.at') ∧ w'.cell? ⟨g, i * 9 + 7, none⟩ = some (.bool r.en) ∧ w'.cell? ⟨g, k * 9 + 8, none⟩ = some (.int .u64 q.ver)) [false, false, false, false, false, false, false, false, false, false, false, false, false, false, false, false, false, false, false, false, false, false, false, false, false, false, false, false, false, false, false, false, false, false, false, false, false, false, false, false, false, false] ?_
   iterate 41
    refine tk (v := ?_) 0 HS1.out ?_ ?_
    rotate_left
    ·(intro w hSw; (try dsimp only at hSw); go_simp; try with_reducible rfl)
    simp only [Act.put, uA, uB, uC]
   refine on1 41 fun K hK => ?_
   go_simp
   refine lst hK ?_
   clear hK
   rw [HWq.out]
   rw [HWY.out]
   clear hwy hwz
   go_upto_region 9 with fail
   refine Ag 17 (fun w' => w'.cell? ⟨m, 0, none⟩ = some (.slice (some ⟨g, 0, none⟩) n c) ∧ w'.cell? ⟨g, i * 9 + 8, none⟩ = some (.int .u64 r.ver)) [false, false, false, false, false, false, false, false, false, false, false, false, false, false, false, false, false, false] ?_
   iterate 17
    refine tk (v := ?_) 0 HS2.out ?_ ?_
    rotate_left
    ·(intro w hSw; (try dsimp only at hSw); go_simp; try with_reducible rfl)
    simp only [Act.put, uA, uB, uC]
   refine on1 17 fun K hK => ?_
   go_simp
   refine lst hK ?_
   clear hK
   rw [HWr.out, HWZ.out]
   go_wp2
   go_ret
   exact ⟨by rw [HT.out]; rfl, HE.out⟩
 ·have HT : Hid (Bc (dueR t rows) a = false) := Ct hno
  have HE : Hid (MTo w w1 B m (renR (dueR t rows) a b)) := by
   show MTo w w1 B m _
   unfold renR
   rw [HT.out, if_neg (by decide)]
   exact ⟨hm1, hd1⟩
  clear hm1 hd1 hno HA
  go_wp2
  go_ret
  exact ⟨by rw [HT.out]; rfl, HE.out⟩
end Go.Proofs.YtmjeljldmmkcpaaGreat.Sq
