/- Texts that the others stand on. -/
import Derived.Test.YtmjeljldmmkcpaaGreatK31
import Derived.Deep.RegionHeld3
set_option maxRecDepth 100000
set_option maxHeartbeats 1600000
namespace Go.Proofs.YtmjeljldmmkcpaaGreat.Sq
open Go.RowKit Go.PlainAid
open Dk (ptr Aa Ac Ad Af OwnR OwnP OwnS Mv Am Elt A4)
theorem lowK {w : World} {B C d x : Nat} {D : Dk.Dg} (h : Dk.Dct w B d x D) (hC : C ≤ B) : Dk.Dct w C d x D :=
 ⟨h.blk, Dk.OwnR.low h.row hC, fun f hf => ⟨(h.leaf f hf).blk, Dk.OwnR.low (h.leaf f hf).row hC, fun t ht => Dk.Tab.lower ((h.leaf f hf).tab t ht) hC, Nat.le_trans hC (h.leaf f hf).low, (h.leaf f hf).nod, (h.leaf f hf).key, (h.leaf f hf).pos⟩, h.shp, h.dir, h.own, h.one, h.ful, h.nod, Nat.le_trans hC h.low, h.seed, h.le⟩
theorem lowN {w : World} {B C d x : Nat} {D : Zs.Dk.Dg} (h : Zs.Dk.Dct w B d x D) (hC : C ≤ B) : Zs.Dk.Dct w C d x D :=
 ⟨h.blk, Zs.Dk.OwnR.low h.row hC, fun f hf => ⟨(h.leaf f hf).blk, Zs.Dk.OwnR.low (h.leaf f hf).row hC, fun t ht => Zs.Dk.Tab.lower ((h.leaf f hf).tab t ht) hC, Nat.le_trans hC (h.leaf f hf).low, (h.leaf f hf).nod, (h.leaf f hf).key, (h.leaf f hf).pos⟩, h.shp, h.dir, h.own, h.one, h.ful, h.nod, Nat.le_trans hC h.low, h.seed, h.le⟩
structure Names (NM : List BA) : Prop where
 few : NM.length ≤ 100
 sz : ∀ k ∈ NM, k.size ≤ 4096
theorem Spc.new {w : World} {B x d v : Nat} {E T : Int} {D : Dk.Dg} {D2 : Zs.Dk.Dg} (hB : B ≤ w.heap.size) (hD : Dk.Dct w B d x D) (hD2 : Zs.Dk.Dct w B v x D2) (h1 : D.es = []) (h2 : D2.es = []) {NM : List BA} (hN : Names NM) {w' : World} (hw : w' = w.alloc (.cells #[.int .u64 (x : Nat), .int .i64 E, .int .i64 T, ptr d, .slice none 0 0, ptr v] 85)) : Spc w' B w.heap.size x NM (fun _ => none) (fun _ => 0) := by
 have hb : Below w.heap.size w w' := by rw [hw]; exact Ac w _
 have hq : Qs w' B w.heap.size ⟨x, E, T, d, v⟩ [] (fun _ => ⟨⟨#[]⟩, none, 0⟩) (fun _ => -1) [] :=
  ⟨⟨none, 0, by rw [hw]; exact heap_alloc_new w _, OwnR.nil _ _ _ _⟩, fun p hp => absurd hp (by simp), fun p hp => absurd hp (by simp), fun i hi => absurd hi (by simp), fun i _ hi => absurd hi (by simp), fun p hp => absurd hp (by simp), List.nodup_nil, hB, by simp⟩
 refine ⟨[], fun _ => ⟨⟨#[]⟩, none, 0⟩, [], ⟨⟨x, E, T, d, v⟩, fun _ => -1, D, D2, rfl, hq, hD.keep hb, hD2.keep hb, ?_, fun k => ?_, fun e he => ?_, fun p hp => absurd hp (by simp), hN.few, hN.sz⟩, ⟨fun p hp => absurd hp (by simp), fun k y h => absurd h (by simp)⟩⟩
 ·rw [h1]; exact List.Perm.refl _
 ·rw [h2]; rfl
 ·rw [h2] at he; exact absurd he (by simp)
def NewTo (w w' : World) (x : Nat) (e : Ending) : Prop := Below w.heap.size w w' ∧ ∃ s, e = .returned (ptr s) ∧ w.heap.size ≤ s ∧ ∀ NM, Names NM → Spc w' w.heap.size s x NM (fun _ => none) (fun _ => 0)
theorem New_any (w : World) (x : Nat) (E T : Int) (hx : x < 18446744073709551616) :
  Calls Tryz.prog 9 #[.agg #[.int .u64 (x : Nat), .int .i64 E, .int .i64 T]] w fun e w' => NewTo w w' x e := by
 obtain ⟨w0, hw0⟩ : ∃ w0, w.alloc (.cells #[.int .u64 (x : Nat), .int .i64 E, .int .i64 T] 31) = w0 := ⟨_, rfl⟩
 have hB0 : Below w.heap.size w w0 := by rw [← hw0]; exact Ac w _
 have HB0 : Hid (Below w.heap.size w w0) := hB0
 have hblk : w0.heap[w.heap.size]? = some (.cells #[.int .u64 (x : Nat), .int .i64 E, .int .i64 T] 31 (0, 0)) := by rw [← hw0]; exact heap_alloc_new w _
 have hlt : w.heap.size < w0.heap.size := (Array.getElem?_eq_some_iff.1 hblk).1
 have HC : Hid (∀ wx, Below w0.heap.size w0 wx → wx.cell? ⟨w.heap.size, 0, none⟩ = some (.int .u64 (x : Nat)) ∧ wx.cell? ⟨w.heap.size, 1, none⟩ = some (.int .i64 E) ∧ wx.cell? ⟨w.heap.size, 2, none⟩ = some (.int .i64 T)) := fun wx hb => by
  have h1 := hb.block _ hlt
  rw [hblk] at h1
  exact ⟨by simp [World.cell?, h1], by simp [World.cell?, h1], by simp [World.cell?, h1]⟩
 have HB : Hid (Below w0.heap.size w0 w0.drew) := Aa w0 1
 obtain ⟨c0, c1, c2⟩ := HC.out _ HB.out
 have HK := fun w => Dk.New_dict x w hx
 have HN := fun w => Zs.Dk.New_dict x w hx
 have HLow : Hid (∀ wx, Below w0.heap.size w0 wx → w.heap.size ≤ wx.heap.size) := fun wx hb => Nat.le_trans hB0.size hb.size
 clear hblk hB0 hlt
 go_enter Tryz.func9, Tryz.ntmps9
 go_upto_region 1 with fail
 go_region_held3 (fun w' => w'.cell? ⟨w.heap.size, 0, none⟩ = some (.int .u64 (x : Nat)) ∧ w'.cell? ⟨w.heap.size, 1, none⟩ = some (.int .i64 E) ∧ w'.cell? ⟨w.heap.size, 2, none⟩ = some (.int .i64 T)) (first | exact HC.out _ HB.out | exact HC.out _ (Ad HB (Ac _ _)).out) (first
  | (go_at_call 34; refine (HK _).mono ?_; rintro e wk ⟨hb, d, D, rfl, hD, -, -, hes⟩; have HDk : Hid (Dk.Dct wk w.heap.size d x D ∧ D.es = []) := ⟨lowK hD (HLow.out _ HB.out), hes⟩; (try (have HDn' : Hid (Zs.Dk.Dct wk w.heap.size v x D2 ∧ D2.es = []) := ⟨HDn.out.1.keep hb, HDn.out.2⟩; clear HDn; have HDn := HDn'; clear HDn')); replace HB := Ad HB hb; clear hb hD hes)
  | (go_at_call 35; refine (HN _).mono ?_; rintro e wk ⟨hb, v, D2, rfl, hD, -, -, hes⟩; have HDn : Hid (Zs.Dk.Dct wk w.heap.size v x D2 ∧ D2.es = []) := ⟨lowN hD (HLow.out _ HB.out), hes⟩; (try (have HDk' : Hid (Dk.Dct wk w.heap.size d x D ∧ D.es = []) := ⟨HDk.out.1.keep hb, HDk.out.2⟩; clear HDk; have HDk := HDk'; clear HDk')); replace HB := Ad HB hb; clear hb hD hes))
 have HE : Hid (NewTo w (wk.alloc (.cells #[.int .u64 (x : Nat), .int .i64 E, .int .i64 T, ptr d, .slice none 0 0, Dk.ptr v] 85)) x (.returned (ptr wk.heap.size))) :=
  ⟨(Ad (HB0.out.trans (HB.out.mono HB0.out.size)) (Ac wk _)).out, wk.heap.size, rfl, HLow.out _ HB.out, fun NM hN => Spc.new (HLow.out _ HB.out) HDk.out.1 HDn.out.1 HDk.out.2 HDn.out.2 hN rfl⟩
 clear HDk HDn HB
 go_wp2
 go_ret
 exact HE.out
def valOf (y : Option (Option Addr × Option Int)) : Option Addr := match y with
 | some (v, _) => v
 | none => none
theorem eqlI_nil (w : World) (l : Nat) : (binOp .eql 78 (ptr l) (.pointer none)).run Tryz.prog w = .ok (.bool false) w := by
 rw [run_eql_pointer_nil w 78 (some ⟨l, 0, none⟩) (by rw [Tryz.underlying78]; kernel_rfl)]; rfl
theorem neqI_nil (w : World) (l : Nat) : (binOp .neq 78 (ptr l) (.pointer none)).run Tryz.prog w = .ok (.bool true) w := by
 rw [run_neq_pointer_nil w 78 (some ⟨l, 0, none⟩) (by rw [Tryz.underlying78]; kernel_rfl)]; rfl
theorem Get_any (w : World) (B s x : Nat) (NM : List BA) (A : Ab) (V : BA → Int) (hS : Spc w B s x NM A V) (hv : Low V) (t : Int) (k : BA) (hk : k.size ≤ maxLen) :
  Calls Tryz.prog 17 #[ptr s, .string k, .int .i64 t] w fun e w' => e = .returned (.pointer (valOf (dueA A t k))) ∧ Bo w w' B s x NM A V t := by
 have HF := A2 w B s x NM A V hS hv t k hk
 go_enter Tryz.func17, Tryz.ntmps17
 go_wp2_with fail
 refine HF.mono ?_
 rintro e w1 ⟨hm, L, I, Q, hi, hr, ⟨rfl, hn⟩ | ⟨p, hp, hpk, rfl, hy⟩⟩
 ·have HE : Hid (Bo w w1 B s x NM A V t) := ⟨hm, L, I, Q, hi, hr⟩
  have HY : Hid (dueA A t k = none) := hn
  clear hm hi hr HF hn
  go_wp2
  go_ret
  exact ⟨by rw [HY.out]; rfl, HE.out⟩
 ·have HE : Hid (Bo w w1 B s x NM A V t) := ⟨hm, L, I, Q, hi, hr⟩
  have HY : Hid (dueA A t k = some ((I p).v, if p ∈ Q then some (I p).u else none)) := hy
  obtain ⟨S, P, D, D2, hX⟩ := hi
  have e1 := hX.qs.its.cv hp
  have hnn := neqI_nil w1 p
  clear hm hX hr HF hy
  go_wp2
  go_ret
  exact ⟨by rw [HY.out]; rfl, HE.out⟩
def chgV {α : Type} (A : AbV α) (V : BA → Int) (k : BA) : BA → Int := if (A k).isSome then incV V k else V
theorem Low.due {V : BA → Int} (h : Low V) (A : Ab) (t : Int) : ∀ k, 0 ≤ dueV A V t k ∧ dueV A V t k < 4611686018427387904 := fun k => by
 have := h k
 have := dueV_le A V t k
 omega
def DelTo (w w' : World) (B s x : Nat) (NM : List BA) (A : Ab) (V : BA → Int) (k : BA) : Prop := To w w' B s x NM (setA A k none) (chgV A V k)
theorem Delete_any (w : World) (B s x : Nat) (NM : List BA) (A : Ab) (V : BA → Int) (hS : Spc w B s x NM A V) (hv : Low V) (t : Int) (k : BA) (hk : k.size ≤ maxLen) :
  Calls Tryz.prog 29 #[ptr s, .string k, .int .i64 t] w fun e w' => e = .returned (.bool (dueA A t k).isSome) ∧ DelTo w w' B s x NM (dueA A t) (dueV A V t) k := by
 have HF := A2 w B s x NM A V hS hv t k hk
 go_enter Tryz.func29, Tryz.ntmps29
 go_wp2_with fail
 refine HF.mono ?_
 rintro e w1 ⟨hm, L, I, Q, hi, hr, ⟨rfl, hn⟩ | ⟨p, hp, hpk, rfl, hy⟩⟩
 ·have HE : Hid (DelTo w w1 B s x NM (dueA A t) (dueV A V t) k) := by
   unfold DelTo chgV
   rw [setA_self hn, hn]
   exact ⟨hm, L, I, Q, hi, hr⟩
  have HY : Hid (dueA A t k = none) := hn
  clear hm hi hr HF hn
  go_wp2
  go_ret
  exact ⟨by rw [HY.out]; rfl, HE.out⟩
 ·have HY : Hid (dueA A t k = some ((I p).v, if p ∈ Q then some (I p).u else none)) := hy
  have HI : Hid (In w1 B s x NM L I Q (dueV A V t)) := hi
  have HR : Hid (Rep L I Q (dueA A t)) := hr
  have HM : Hid (Mb stag B w w1) := hm
  have HT := take_any w1 B s x NM L I Q _ hi p hp (hv.due A t)
  have hnn := eqlI_nil w1 p
  clear hm hi hr HF hy
  go_wp2_with fail
  refine HT.mono ?_
  rintro e w2 ⟨rfl, hm2, Q', hi2, hmem⟩
  have HE : Hid (DelTo w w2 B s x NM (dueA A t) (dueV A V t) k) := by
   unfold DelTo chgV
   rw [HY.out]
   have h1 := HR.out.del HI.out.inj HI.out.nod hp hmem
   rw [hpk] at h1 hi2
   exact ⟨HM.out.trans hm2, _, I, Q', hi2, h1⟩
  clear hm2 hi2 hmem HT
  go_wp2
  go_ret
  exact ⟨by rw [HY.out]; rfl, HE.out⟩
def PutTo (w w' : World) (B s x : Nat) (NM : List BA) (A : Ab) (V : BA → Int) (k : BA) (v : Option Addr) : Prop := To w w' B s x NM (setA A k (some (v, none))) (incV V k)
theorem Put_any (w : World) (B s x : Nat) (NM : List BA) (A : Ab) (V : BA → Int) (hS : Spc w B s x NM A V) (hv : Low V) (t : Int) (k : BA) (hk : k ∈ NM) (hks : k.size ≤ 4096) (v : Option Addr)
  (hE : Calls Tryz.prog 36 #[.pointer v] w fun e w' => e = .returned (.bool false) ∧ Below w.heap.size w w') :
  Calls Tryz.prog 10 #[ptr s, .string k, .pointer v, .int .i64 t] w fun e w' => e = .returned (.int .i64 0) ∧ PutTo w w' B s x NM (dueA A t) (dueV A V t) k v := by
 have HS : Hid (Spc w B s x NM A V) := hS
 have hlt : B ≤ w.heap.size := by
  obtain ⟨L, I, Q, ⟨S, P, D, D2, hX⟩, -⟩ := hS
  have := hX.lt
  omega
 clear hS
 obtain ⟨n, hn⟩ : ∃ n, k.size = n := ⟨_, rfl⟩
 have hz : (n : Int) ≤ 4096 := by omega
 go_enter Tryz.func10, Tryz.ntmps10
 go_wp2_with fail
 refine hE.mono ?_
 rintro e w1 ⟨rfl, hb⟩
 have HM1 : Hid (Mb stag B w w1) := Mb.of_below hb hlt
 have HD := Cj w1 B s x NM A V (HS.out.keep hb) hv t
 clear hb hE
 go_wp2_with fail
 refine HD.mono ?_
 rintro e w2 ⟨rfl, hm2, hs2⟩
 have HM2 : Hid (Mb stag B w w2) := HM1.out.trans hm2
 have HH := hold_any w2 B s x NM _ _ hs2 k hk (hv.due A t k) v
 clear hm2 hs2 HD
 go_wp2_with fail
 refine HH.mono ?_
 rintro e w3 ⟨hm, L, I, Q, hi, hr, p, rfl, -⟩
 have HE : Hid (PutTo w w3 B s x NM (dueA A t) (dueV A V t) k v) := ⟨HM2.out.trans hm, L, I, Q, hi, hr⟩
 clear hm hi hr HH
 go_wp2
 go_ret
 exact ⟨rfl, HE.out⟩
theorem Put_empty (w : World) (B s x : Nat) (NM : List BA) (A : Ab) (V : BA → Int) (hS : Spc w B s x NM A V) (hv : Low V) (t : Int) (k : BA) (hks : k.size ≤ 4096) (v : Option Addr)
  (hE : Calls Tryz.prog 36 #[.pointer v] w fun e w' => e = .returned (.bool true) ∧ Below w.heap.size w w') :
  Calls Tryz.prog 10 #[ptr s, .string k, .pointer v, .int .i64 t] w fun e w' => e = .returned (.int .i64 0) ∧ DelTo w w' B s x NM (dueA A t) (dueV A V t) k := by
 have HS : Hid (Spc w B s x NM A V) := hS
 have hlt : B ≤ w.heap.size := by
  obtain ⟨L, I, Q, ⟨S, P, D, D2, hX⟩, -⟩ := hS
  have := hX.lt
  omega
 clear hS
 have HK : Hid (k.size ≤ maxLen) := by show _ ≤ _; unfold maxLen; omega
 obtain ⟨n, hn⟩ : ∃ n, k.size = n := ⟨_, rfl⟩
 have hz : (n : Int) ≤ 4096 := by omega
 go_enter Tryz.func10, Tryz.ntmps10
 go_wp2_with fail
 refine hE.mono ?_
 rintro e w1 ⟨rfl, hb⟩
 have HM1 : Hid (Mb stag B w w1) := Mb.of_below hb hlt
 have HD := Delete_any w1 B s x NM A V (HS.out.keep hb) hv t k HK.out
 clear hb hE
 go_wp2_with fail
 refine HD.mono ?_
 rintro e w2 ⟨rfl, hm2, hs2⟩
 have HE : Hid (DelTo w w2 B s x NM (dueA A t) (dueV A V t) k) := ⟨HM1.out.trans hm2, hs2⟩
 clear hm2 hs2 HD
 go_wp2
 go_ret
 exact ⟨rfl, HE.out⟩
theorem Put_long (w : World) (s : Nat) (t : Int) (k : BA) (v : Option Addr) (hk : 4096 < k.size) :
  Calls Tryz.prog 10 #[ptr s, .string k, .pointer v, .int .i64 t] w fun e w' => e = .returned (.int .i64 11) ∧ w' = w := by
 have hz : (4096 : Int) < k.size := by omega
 go_enter Tryz.func10, Tryz.ntmps10
 go_wp2
 go_ret
 exact ⟨rfl, rfl⟩
def TouchTo (w w' : World) (B s x : Nat) (NM : List BA) (A : Ab) (V : BA → Int) (k : BA) (r : Bool) : Prop := To w w' B s x NM (if r then setA A k none else A) (chgV A V k)
theorem Touch_any (w : World) (B s x : Nat) (NM : List BA) (A : Ab) (V : BA → Int) (hS : Spc w B s x NM A V) (hv : Low V) (t : Int) (k : BA) (hk : k ∈ NM) (hks : k.size ≤ 4096) (r : Bool)
  (hE : ∀ w1 v u, Mb stag B w w1 → dueA A t k = some (v, u) → Calls Tryz.prog 36 #[.pointer v] w1 fun e w' => e = .returned (.bool r) ∧ Below w1.heap.size w1 w') :
  Calls Tryz.prog 32 #[ptr s, .string k, .int .i64 t] w fun e w' => e = .returned (.tuple #[]) ∧ TouchTo w w' B s x NM (dueA A t) (dueV A V t) k r := by
 have HF := A2 w B s x NM A V hS hv t k (by unfold maxLen; omega)
 go_enter Tryz.func32, Tryz.ntmps32
 go_wp2_with fail
 refine HF.mono ?_
 rintro e w1 ⟨hm, L, I, Q, hi, hr, ⟨rfl, hn⟩ | ⟨p, hp, hpk, rfl, hy⟩⟩
 ·have HE : Hid (TouchTo w w1 B s x NM (dueA A t) (dueV A V t) k r) := by
   unfold TouchTo chgV
   rw [setA_self hn, hn, ite_self]
   exact ⟨hm, L, I, Q, hi, hr⟩
  clear hm hi hr HF hn hE
  go_wp2
  go_end0
  exact ⟨rfl, HE.out⟩
 ·have HY : Hid (dueA A t k = some ((I p).v, if p ∈ Q then some (I p).u else none)) := hy
  have HI : Hid (In w1 B s x NM L I Q (dueV A V t)) := hi
  have HR : Hid (Rep L I Q (dueA A t)) := hr
  have HM : Hid (Mb stag B w w1) := hm
  have HEm := hE w1 _ _ hm hy
  have hnn := eqlI_nil w1 p
  obtain ⟨S, P, D, D2, hX⟩ := hi
  have e1 := hX.qs.its.cv hp
  have hlt : B ≤ w1.heap.size := by have := hX.lt; omega
  clear hm hX hr HF hy hE
  go_wp2_with fail
  refine HEm.mono ?_
  rintro e w2 ⟨rfl, hb2⟩
  have HI2 : Hid (In w2 B s x NM L I Q (dueV A V t)) := HI.out.keep hb2
  have HM2 : Hid (Mb stag B w w2) := HM.out.trans (Mb.of_below hb2 hlt)
  clear hb2 HEm
  cases r with
  | true =>
   have HT := take_any w2 B s x NM L I Q _ HI2.out p hp (hv.due A t)
   go_wp2_with fail
   refine HT.mono ?_
   rintro e w3 ⟨rfl, hm3, Q', hi3, hmem⟩
   have HE : Hid (TouchTo w w3 B s x NM (dueA A t) (dueV A V t) k true) := by
    unfold TouchTo chgV
    rw [HY.out]
    have h1 := HR.out.del HI.out.inj HI.out.nod hp hmem
    rw [hpk] at h1 hi3
    exact ⟨HM2.out.trans hm3, _, I, Q', hi3, h1⟩
   clear hm3 hi3 hmem HT
   go_wp2
   go_end0
   exact ⟨rfl, HE.out⟩
  | false =>
   have HC := change_any w2 B s x NM L I Q _ HI2.out k hk (hv.due A t k)
   go_wp2_with fail
   refine HC.mono ?_
   rintro e w3 ⟨rfl, hm3, hi3⟩
   have HE : Hid (TouchTo w w3 B s x NM (dueA A t) (dueV A V t) k false) := by
    unfold TouchTo chgV
    rw [HY.out]
    exact ⟨HM2.out.trans hm3, L, I, Q, hi3, HR.out⟩
   clear hm3 hi3 HC
   go_wp2
   go_end0
   exact ⟨rfl, HE.out⟩
theorem timed_any (w : World) (B s x : Nat) (NM : List BA) (L : List Nat) (I : Nat → Itm) (Q : List Nat) (V : BA → Int) (H : In w B s x NM L I Q V) (p : Nat) (hp : p ∈ L) :
  Calls Tryz.prog 46 #[ptr p] w fun e w' => e = .returned (.bool (decide (p ∈ Q))) ∧ w' = w := by
 obtain ⟨S, P, D, D2, hX⟩ := H
 have e1 := hX.qs.its.cp hp
 have HT := isTimed_any w p _ e1
 have hd : decide (P p ≠ -1) = decide (p ∈ Q) := by
  by_cases h : p ∈ Q
  ·rw [decide_eq_true h]
   obtain ⟨i, hi, rfl⟩ := at_ex h
   rw [hX.qs.plc i hi]
   exact decide_eq_true (by omega)
  ·rw [decide_eq_false h, hX.qs.out p hp h]
   rfl
 rw [hd] at HT
 exact HT
def expA {α : Type} (A : AbV α) (k : BA) (u t : Int) : AbV α := match A k with
 | some (v, _) => setA A k (if u ≤ t then none else some (v, some u))
 | none => A
def ExpTo (w w' : World) (B s x : Nat) (NM : List BA) (A : Ab) (V : BA → Int) (k : BA) (u t : Int) : Prop := To w w' B s x NM (expA A k u t) (chgV A V k)
theorem Expire_any (w : World) (B s x : Nat) (NM : List BA) (A : Ab) (V : BA → Int) (hS : Spc w B s x NM A V) (hv : Low V) (u t : Int) (k : BA) (hk : k ∈ NM) (hks : k.size ≤ 4096) :
  Calls Tryz.prog 30 #[ptr s, .string k, .int .i64 u, .int .i64 t] w fun e w' => e = .returned (.bool (dueA A t k).isSome) ∧ ExpTo w w' B s x NM (dueA A t) (dueV A V t) k u t := by
 have HF := A2 w B s x NM A V hS hv t k (by unfold maxLen; omega)
 go_enter Tryz.func30, Tryz.ntmps30
 go_wp2_with fail
 refine HF.mono ?_
 rintro e w1 ⟨hm, L, I, Q, hi, hr, ⟨rfl, hn⟩ | ⟨p, hp, hpk, rfl, hy⟩⟩
 ·have HE : Hid (ExpTo w w1 B s x NM (dueA A t) (dueV A V t) k u t) := by
   unfold ExpTo chgV expA
   rw [hn]
   exact ⟨hm, L, I, Q, hi, hr⟩
  have HY : Hid (dueA A t k = none) := hn
  clear hm hi hr HF hn
  go_wp2
  go_ret
  exact ⟨by rw [HY.out]; rfl, HE.out⟩
 ·have HY : Hid (dueA A t k = some ((I p).v, if p ∈ Q then some (I p).u else none)) := hy
  have HI : Hid (In w1 B s x NM L I Q (dueV A V t)) := hi
  have HR : Hid (Rep L I Q (dueA A t)) := hr
  have HM : Hid (Mb stag B w w1) := hm
  have hnn := eqlI_nil w1 p
  clear hm hi hr HF hy
  by_cases hut : u ≤ t
  ·have HT := take_any w1 B s x NM L I Q _ HI.out p hp (hv.due A t)
   have hd : decide (u ≤ t) = true := decide_eq_true hut
   go_wp2_with fail
   refine HT.mono ?_
   rintro e w2 ⟨rfl, hm2, Q', hi2, hmem⟩
   have HE : Hid (ExpTo w w2 B s x NM (dueA A t) (dueV A V t) k u t) := by
    unfold ExpTo chgV expA
    rw [HY.out]
    simp only [if_pos hut]
    have h1 := HR.out.del HI.out.inj HI.out.nod hp hmem
    rw [hpk] at h1 hi2
    exact ⟨HM.out.trans hm2, _, I, Q', hi2, h1⟩
   clear hm2 hi2 hmem HT
   go_wp2
   go_ret
   exact ⟨by rw [HY.out]; rfl, HE.out⟩
  ·have hd : decide (u ≤ t) = false := decide_eq_false hut
   have HUT : Hid (t < u) := Int.not_le.1 hut
   obtain ⟨S, P, D, D2, hX⟩ := HI.out
   have HX : Hid (Sx w1 B s x NM L I Q (dueV A V t) S P D D2) := hX
   have HD := drop_any w1 B s S L I P Q hX.qs p hp
   clear hX hut
   go_wp2_with fail
   refine HD.mono ?_
   rintro e w2 ⟨rfl, hm2, P2, Q2, hq2, hmem⟩
   have HX2 : Hid (Sx w2 B s x NM L I Q2 (dueV A V t) S P2 D D2) := HX.out.queue hm2 hq2 (fun _ _ => rfl)
   have HM2 : Hid (Mb stag B w w2) := HM.out.trans (Mb.mono hm2 stag_q)
   have HMem : Hid (∀ q, q ∈ Q2 ↔ q ≠ p ∧ q ∈ Q) := hmem
   have HA := add_any w2 B s S L I P2 Q2 hq2 p hp (fun h => ((hmem p).1 h).1 rfl) u
   clear hm2 hq2 hmem HD
   go_wp2_with fail
   refine HA.mono ?_
   rintro e w3 ⟨rfl, hm3, P3, Q3, hq3, hmem3⟩
   have HX3 : Hid (In w3 B s x NM L (upd I p { I p with u := u }) Q3 (dueV A V t)) := ⟨S, P3, D, D2, HX2.out.queue hm3 hq3 (fun q _ => by
    by_cases h : q = p
    ·rw [h, Br]
    ·rw [Bl _ _ h])⟩
   have HM3 : Hid (Mb stag B w w3) := HM2.out.trans (Mb.mono hm3 stag_q)
   have HR3 : Hid (Rep L (upd I p { I p with u := u }) Q3 (setA (dueA A t) k (some ((I p).v, some u)))) := by
    have h1 := HR.out.turn (J := upd I p { I p with u := u }) (Q' := Q3) HI.out.inj hp (by rw [Br]) (fun q h => Bl _ _ h) (fun q h => ⟨fun h1 => ((HMem.out q).1 (((hmem3 q).1 h1).resolve_left h)).2, fun h1 => (hmem3 q).2 (.inr ((HMem.out q).2 ⟨h, h1⟩))⟩)
    rw [if_pos ((hmem3 p).2 (.inl rfl)), Br, hpk] at h1
    exact h1
   have HC := change_any w3 B s x NM L _ Q3 _ HX3.out k hk (hv.due A t k)
   clear hm3 hq3 hmem3 HA
   go_wp2_with fail
   refine HC.mono ?_
   rintro e w4 ⟨rfl, hm4, hi4⟩
   have HE : Hid (ExpTo w w4 B s x NM (dueA A t) (dueV A V t) k u t) := by
    unfold ExpTo chgV expA
    rw [HY.out]
    simp only [if_neg (Int.not_le.2 HUT.out)]
    exact ⟨HM3.out.trans hm4, L, _, Q3, hi4, HR3.out⟩
   clear hm4 hi4 HC
   go_wp2
   go_ret
   exact ⟨by rw [HY.out]; rfl, HE.out⟩
def endOf {α : Type} (y : Option (α × Option Int)) : Option Int := match y with
 | some (_, e) => e
 | none => none
theorem Expiry_any (w : World) (B s x : Nat) (NM : List BA) (A : Ab) (V : BA → Int) (hS : Spc w B s x NM A V) (hv : Low V) (t : Int) (k : BA) (hk : k.size ≤ maxLen) :
  Calls Tryz.prog 33 #[ptr s, .string k, .int .i64 t] w fun e w' => e = .returned (.tuple #[.int .i64 ((endOf (dueA A t k)).getD 0), .bool (endOf (dueA A t k)).isSome]) ∧ Bo w w' B s x NM A V t := by
 have HF := A2 w B s x NM A V hS hv t k hk
 go_enter Tryz.func33, Tryz.ntmps33
 go_wp2_with fail
 refine HF.mono ?_
 rintro e w1 ⟨hm, L, I, Q, hi, hr, ⟨rfl, hn⟩ | ⟨p, hp, hpk, rfl, hy⟩⟩
 ·have HE : Hid (Bo w w1 B s x NM A V t) := ⟨hm, L, I, Q, hi, hr⟩
  have HY : Hid (dueA A t k = none) := hn
  clear hm hi hr HF hn
  go_wp2
  go_ret2
  exact ⟨by rw [HY.out]; rfl, HE.out⟩
 ·have HE : Hid (Bo w w1 B s x NM A V t) := ⟨hm, L, I, Q, hi, hr⟩
  have HT := timed_any w1 B s x NM L I Q _ hi p hp
  obtain ⟨S, P, D, D2, hX⟩ := hi
  have e1 := hX.qs.its.cu hp
  have hnn := neqI_nil w1 p
  clear hm hX hr HF
  by_cases hq : p ∈ Q
  ·rw [if_pos hq] at hy
   have HY : Hid (dueA A t k = some ((I p).v, some (I p).u)) := hy
   rw [decide_eq_true hq] at HT
   clear hy hq
   go_wp2_with fail
   refine HT.mono ?_
   rintro e w1 ⟨rfl, rfl⟩
   go_wp2
   go_ret2
   exact ⟨by rw [HY.out]; rfl, HE.out⟩
  ·rw [if_neg hq] at hy
   have HY : Hid (dueA A t k = some ((I p).v, none)) := hy
   rw [decide_eq_false hq] at HT
   clear hy hq
   go_wp2_with fail
   refine HT.mono ?_
   rintro e w1 ⟨rfl, rfl⟩
   go_wp2
   go_ret2
   exact ⟨by rw [HY.out]; rfl, HE.out⟩
def perA {α : Type} (A : AbV α) (k : BA) : AbV α := match A k with
 | some (v, some _) => setA A k (some (v, none))
 | _ => A
def perV {α : Type} (A : AbV α) (V : BA → Int) (k : BA) : BA → Int := if (endOf (A k)).isSome then incV V k else V
def PerTo (w w' : World) (B s x : Nat) (NM : List BA) (A : Ab) (V : BA → Int) (k : BA) : Prop := To w w' B s x NM (perA A k) (perV A V k)
theorem Persist_any (w : World) (B s x : Nat) (NM : List BA) (A : Ab) (V : BA → Int) (hS : Spc w B s x NM A V) (hv : Low V) (t : Int) (k : BA) (hk : k ∈ NM) (hks : k.size ≤ 4096) :
  Calls Tryz.prog 56 #[ptr s, .string k, .int .i64 t] w fun e w' => e = .returned (.bool (endOf (dueA A t k)).isSome) ∧ PerTo w w' B s x NM (dueA A t) (dueV A V t) k := by
 have HF := A2 w B s x NM A V hS hv t k (by unfold maxLen; omega)
 go_enter Tryz.func56, Tryz.ntmps56
 go_wp2_with fail
 refine HF.mono ?_
 rintro e w1 ⟨hm, L, I, Q, hi, hr, ⟨rfl, hn⟩ | ⟨p, hp, hpk, rfl, hy⟩⟩
 ·have HE : Hid (PerTo w w1 B s x NM (dueA A t) (dueV A V t) k) := by
   unfold PerTo perA perV
   rw [hn]
   exact ⟨hm, L, I, Q, hi, hr⟩
  have HY : Hid (dueA A t k = none) := hn
  clear hm hi hr HF hn
  go_wp2
  go_ret
  exact ⟨by rw [HY.out]; rfl, HE.out⟩
 ·have HT := timed_any w1 B s x NM L I Q _ hi p hp
  have HI : Hid (In w1 B s x NM L I Q (dueV A V t)) := hi
  have HR : Hid (Rep L I Q (dueA A t)) := hr
  have HM : Hid (Mb stag B w w1) := hm
  have hnn := eqlI_nil w1 p
  by_cases hq : p ∈ Q
  ·rw [if_pos hq] at hy
   have HY : Hid (dueA A t k = some ((I p).v, some (I p).u)) := hy
   rw [decide_eq_true hq] at HT
   obtain ⟨S, P, D, D2, hX⟩ := hi
   have HX : Hid (Sx w1 B s x NM L I Q (dueV A V t) S P D D2) := hX
   have HD := drop_any w1 B s S L I P Q hX.qs p hp
   clear hy hq hX hm hr HF
   go_wp2_with fail
   refine HT.mono ?_
   rintro e w1 ⟨rfl, rfl⟩
   go_wp2_with fail
   refine HD.mono ?_
   rintro e w2 ⟨rfl, hm2, P2, Q2, hq2, hmem⟩
   have HX2 : Hid (In w2 B s x NM L I Q2 (dueV A V t)) := ⟨S, P2, D, D2, HX.out.queue hm2 hq2 (fun _ _ => rfl)⟩
   have HM2 : Hid (Mb stag B w w2) := HM.out.trans (Mb.mono hm2 stag_q)
   have HR2 : Hid (Rep L I Q2 (setA (dueA A t) k (some ((I p).v, none)))) := by
    have h1 := HR.out.turn (J := I) (Q' := Q2) HI.out.inj hp rfl (fun _ _ => rfl) (fun q h => ⟨fun h1 => ((hmem q).1 h1).2, fun h1 => (hmem q).2 ⟨h, h1⟩⟩)
    rw [if_neg (fun h => ((hmem p).1 h).1 rfl), hpk] at h1
    exact h1
   have HC := change_any w2 B s x NM L I Q2 _ HX2.out k hk (hv.due A t k)
   clear hm2 hq2 hmem HD
   go_wp2_with fail
   refine HC.mono ?_
   rintro e w3 ⟨rfl, hm3, hi3⟩
   have HE : Hid (PerTo w w3 B s x NM (dueA A t) (dueV A V t) k) := by
    unfold PerTo perA perV
    rw [HY.out]
    exact ⟨HM2.out.trans hm3, L, _, Q2, hi3, HR2.out⟩
   clear hm3 hi3 HC
   go_wp2
   go_ret
   exact ⟨by rw [HY.out]; rfl, HE.out⟩
  ·rw [if_neg hq] at hy
   have HY : Hid (dueA A t k = some ((I p).v, none)) := hy
   rw [decide_eq_false hq] at HT
   have HE : Hid (PerTo w w1 B s x NM (dueA A t) (dueV A V t) k) := by
    unfold PerTo perA perV
    rw [hy]
    exact ⟨hm, L, I, Q, hi, hr⟩
   clear hy hq hm hr hi HF
   go_wp2_with fail
   refine HT.mono ?_
   rintro e w1 ⟨rfl, rfl⟩
   go_wp2
   go_ret
   exact ⟨by rw [HY.out]; rfl, HE.out⟩
def renA {α : Type} (A : AbV α) (a b : BA) : AbV α := if (A a).isSome then (if a = b then A else setA (setA A a none) b (A a)) else A
def renV {α : Type} (A : AbV α) (V : BA → Int) (a b : BA) : BA → Int := if (A a).isSome then (if a = b then incV V a else incV (incV V a) b) else V
def RenTo (w w' : World) (B s x : Nat) (NM : List BA) (A : Ab) (V : BA → Int) (a b : BA) : Prop := To w w' B s x NM (renA A a b) (renV A V a b)
theorem incV_le (V : BA → Int) (k j : BA) : V j ≤ incV V k j ∧ incV V k j ≤ V j + 1 := by
 unfold incV
 split <;> omega
theorem Rename_any (w : World) (B s x : Nat) (NM : List BA) (A : Ab) (V : BA → Int) (hS : Spc w B s x NM A V) (hv : Low V) (t : Int) (a b : BA) (ha : a ∈ NM) (has : a.size ≤ 4096) (hb : b ∈ NM) (hbs : b.size ≤ 4096) :
  Calls Tryz.prog 16 #[ptr s, .string a, .string b, .int .i64 t] w fun e w' => e = .returned (.bool (dueA A t a).isSome) ∧ RenTo w w' B s x NM (dueA A t) (dueV A V t) a b := by
 have HF := A2 w B s x NM A V hS hv t a (by unfold maxLen; omega)
 go_enter Tryz.func16, Tryz.ntmps16
 go_wp2_with fail
 refine HF.mono ?_
 rintro e w1 ⟨hm, L, I, Q, hi, hr, ⟨rfl, hn⟩ | ⟨p, hp, hpk, rfl, hy⟩⟩
 ·have HE : Hid (RenTo w w1 B s x NM (dueA A t) (dueV A V t) a b) := by
   unfold RenTo renA renV
   rw [hn]
   exact ⟨hm, L, I, Q, hi, hr⟩
  have HY : Hid (dueA A t a = none) := hn
  clear hm hi hr HF hn
  go_wp2
  go_ret
  exact ⟨by rw [HY.out]; rfl, HE.out⟩
 ·have HY : Hid (dueA A t a = some ((I p).v, if p ∈ Q then some (I p).u else none)) := hy
  have HI : Hid (In w1 B s x NM L I Q (dueV A V t)) := hi
  have HR : Hid (Rep L I Q (dueA A t)) := hr
  have HM : Hid (Mb stag B w w1) := hm
  have hnn := eqlI_nil w1 p
  have hbz : (b.size : Int) ≤ 4096 := by omega
  have hbg : decide ((4096 : Int) < b.size) = false := decide_eq_false (by omega)
  clear hm hi hr HF hy
  by_cases hab : a = b
  ·subst hab
   have HC := change_any w1 B s x NM L I Q _ HI.out a ha (hv.due A t a)
   go_wp2_with fail
   refine HC.mono ?_
   rintro e w2 ⟨rfl, hm2, hi2⟩
   have HE : Hid (RenTo w w2 B s x NM (dueA A t) (dueV A V t) a a) := by
    unfold RenTo renA renV
    rw [HY.out]
    simp only [Option.isSome_some, if_true]
    exact ⟨HM.out.trans hm2, L, I, Q, hi2, HR.out⟩
   clear hm2 hi2 HC
   go_wp2
   go_ret
   exact ⟨by rw [HY.out]; rfl, HE.out⟩
  ·have HAB : Hid (¬ a = b) := hab
   have hq : (a.toList == b.toList) = false := by rw [Dk.str_beq]; exact decide_eq_false hab
   have HT : ∀ q, Calls Tryz.prog 46 #[ptr p] (w1.drewN q) fun e w' => e = .returned (.bool (decide (p ∈ Q))) ∧ w' = w1.drewN q := fun q => timed_any (w1.drewN q) B s x NM L I Q _ (HI.out.keep (Aa w1 q)) p hp
   obtain ⟨e1, e2⟩ : w1.cell? ⟨p, 1, none⟩ = some (.pointer (I p).v) ∧ w1.cell? ⟨p, 2, none⟩ = some (.int .i64 (I p).u) := by
    obtain ⟨S, P, D, D2, hX⟩ := HI.out
    exact ⟨hX.qs.its.cv hp, hX.qs.its.cu hp⟩
   clear hab
   go_upto_region 7 with fail
   go_quiet ((go_at_call 46; with_reducible exact Calls.quiet_of_same (HT _)))
   have HI1 : Hid (In (w1.drewN nq) B s x NM L I Q (dueV A V t)) := HI.out.keep (Aa w1 nq)
   have HM1 : Hid (Mb stag B w (w1.drewN nq)) := HM.out.trans (Mb.of_below (Aa w1 nq) (by obtain ⟨S, P, D, D2, hX⟩ := HI.out; have := hX.lt; omega))
   generalize w1.drewN nq = w2 at HI1 HM1 ⊢
   have HK := take_any w2 B s x NM L I Q _ HI1.out p hp (hv.due A t)
   clear e1 e2 HT hnn
   go_wp2_with fail
   refine HK.mono ?_
   rintro e w3 ⟨rfl, hm3, Q3, hi3, hmem⟩
   have HM3 : Hid (Mb stag B w w3) := HM1.out.trans hm3
   have HS3 : Hid (Spc w3 B s x NM (setA (dueA A t) a none) (incV (dueV A V t) a)) := by
    have h1 := HR.out.del HI.out.inj HI.out.nod hp hmem
    rw [hpk] at h1 hi3
    exact ⟨_, I, Q3, hi3, h1⟩
   have HU := holdUntil_any w3 B s x NM _ _ HS3.out b hb (by have := incV_le (dueV A V t) a b; have := hv b; have := dueV_le A V t b; omega) (I p).v (I p).u (decide (p ∈ Q))
   clear hm3 hi3 hmem HK
   go_wp2_with fail
   refine HU.mono ?_
   rintro e w4 ⟨rfl, hm4, hs4⟩
   have HE : Hid (RenTo w w4 B s x NM (dueA A t) (dueV A V t) a b) := by
    unfold RenTo renA renV
    rw [HY.out]
    simp only [Option.isSome_some, if_true, if_neg HAB.out]
    have e : (if p ∈ Q then some (I p).u else none) = (if decide (p ∈ Q) = true then some (I p).u else none) := by
     by_cases h : p ∈ Q
     ·rw [if_pos h, if_pos (decide_eq_true h)]
     ·rw [if_neg h, if_neg (by rw [decide_eq_false h]; decide)]
    rw [e]
    exact ⟨HM3.out.trans hm4, hs4⟩
   clear hm4 hs4 HU
   go_wp2
   go_ret
   exact ⟨by rw [HY.out]; rfl, HE.out⟩
end Go.Proofs.YtmjeljldmmkcpaaGreat.Sq
