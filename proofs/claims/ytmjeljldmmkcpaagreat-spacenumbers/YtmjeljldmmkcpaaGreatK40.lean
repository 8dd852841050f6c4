/- Texts that the others stand on. -/
import Derived.Test.YtmjeljldmmkcpaaGreatK39
namespace Go.Proofs.YtmjeljldmmkcpaaGreat.Sq
open Go.RowKit Go.PlainAid
open Dk (ptr Aa Ac Ad Af OwnR OwnP OwnS Mv)
theorem VPopLeft (w : World) (B l most q : Nat) (ts : List BA) (F : List Nat) (h : QV w B l most ts q F) (hc : ts.length ≤ 1000000) :
  Calls Tryz.prog 66 #[ptr l] w fun e w' => e = .returned (.tuple #[.string (txt ts 0), .bool (decide (0 < ts.length))]) ∧ VDoes w B l most ts.tail F w' := by
 obtain ⟨R, ns, h1, h2, rfl, h4, rfl⟩ := h.ex
 refine (PopLeft_any B l R most _ ns w h1 h2 rfl hc).mono ?_
 rintro e w' ⟨rfl, hd⟩
 exact ⟨rfl, hd.qv (by rw [List.length_tail]) h.pos⟩
theorem Vals.pop {w w' : World} {B : Nat} {A : Ab} {M : AbV Dv} {FP : BA → List Nat} (H : Vals w B A M FP) {k : BA} {v l most q : Nat} {ls : List BA} {u : Option Int} (hM : M k = some (.lst ls, u)) (hA : A k = some (some ⟨v, 0, none⟩, u)) (hB : B ≤ v) (hb : VB w v 4 ⟨#[]⟩ (.pointer none) (.pointer none) (ptr l)) (hq : QV w B l most ls q (FP k)) (hd : VDoes w B l most ls.tail (FP k) w') :
  Dk.Mv ltag w w' ∧ ∃ FP', Vals w' B A (setA M k (some (.lst ls.tail, u))) FP' := by
 obtain ⟨q', F', h1, h2⟩ := hd
 have hmv := stay_mv hq h2.stay
 refine ⟨hmv, fun j => if j = k then F' else FP j, ⟨fun j hj => ?_, fun j d u' hj => ?_, fun i j hij y hy => ?_, fun j y hy => ?_⟩⟩
 ·by_cases e : j = k
  ·subst e; rw [Bz] at hj; cases hj
  ·rw [Cd _ _ e] at hj; exact H.no j hj
 ·by_cases e : j = k
  ·subst e
   rw [Bz] at hj
   cases hj
   refine ⟨v, hA, ?_⟩
   rw [if_pos rfl]
   exact ⟨⟨l, most, q', hb.kept (hmv.block v _ _ hb.blk (by decide)), h1⟩, hB⟩
  ·rw [Cd _ _ e] at hj
   obtain ⟨v', k1, k2⟩ := H.yes j d u' hj
   refine ⟨v', k1, ?_⟩
   rw [if_neg e]
   cases d with
   | txt t => exact ⟨⟨by rw [hmv.block v' _ _ k2.1.blk (by decide)]; exact k2.1.blk⟩, k2.2⟩
   | lst rs => exact Vl.far k2 hq h2.stay (H.dis j k e)
 ·have hold : ∀ n, (if n = k then F' else FP n) = FP n ∨ n = k ∧ (if n = k then F' else FP n) = F' := fun n => by
   by_cases e : n = k
   ·exact .inr ⟨e, if_pos e⟩
   ·exact .inl (if_neg e)
  by_cases ei : i = k
  ·subst ei
   rw [if_pos rfl] at hy
   rw [if_neg (fun e => hij e.symm)]
   rcases h2.new y hy with h | h
   ·exact H.dis i j hij y h
   ·exact fun hm => by have := H.lt j y hm; omega
  ·rw [if_neg ei] at hy
   by_cases ej : j = k
   ·subst ej
    rw [if_pos rfl]
    intro hm
    rcases h2.new y hm with h | h
    ·exact H.dis i j hij y hy h
    ·have := H.lt i y hy; omega
   ·rw [if_neg ej]; exact H.dis i j hij y hy
 ·by_cases e : j = k
  ·rw [if_pos e] at hy; exact (h1.blocks y hy).2
  ·rw [if_neg e] at hy; exact Nat.lt_of_lt_of_le (H.lt j y hy) h2.stay.size
def popK (r : Kr) (la : Option Addr) : Kr := { r with la := la, ln := r.ln - 1, lc := r.lc - 1, ls := r.ls.tail }
theorem RdL.tail {w : World} {b off n c : Nat} {ls : List BA} (h : RdL w (some ⟨b, off, none⟩) n c ls) (hn : 0 < n) : RdL w (some ⟨b, off + 1, none⟩) (n - 1) (c - 1) ls.tail := by
 refine ⟨by rw [List.length_tail, h.len], by have := h.fit; omega, by have := h.max; omega, (fun e => by cases e), fun i hi => ?_⟩
 obtain ⟨b', off', cs, e1, e2, e3⟩ := h.cell (i + 1) (by omega)
 cases e1
 refine ⟨b, off + 1, cs, rfl, e2, ?_⟩
 rw [show off + 1 + i = off + (i + 1) by omega, e3]
 cases ls with
 | nil => have := h.len; simp at this; omega
 | cons x xs => rfl
theorem mA_pop {rows : List Kr} (hn : (rows.map (·.nm)).Nodup) {i : Nat} {r : Kr} {k : BA} (hr : rows[i]? = some r) (hk : r.nm = k) (hth : r.th = true) (hkd : r.kd = 4) (la : Option Addr) :
  mA rows k = some (.lst r.ls, if r.en then some r.at' else none) ∧ mA (rows.set i (popK r la)) = setA (mA rows) k (some (.lst r.ls.tail, if r.en then some r.at' else none)) ∧ verR (rows.set i (popK r la)) = verR rows := by
 have hf : fndR rows k = some r := by rw [← hk]; exact fnd_of hn (List.mem_of_getElem? hr)
 have hd : dvK r = .lst r.ls := if_neg (by rw [hkd]; decide)
 have e : rows.set i (popK r la) = updR rows k (fun q => popK q la) := Cs hn hr hk (fun q => popK q la)
 refine ⟨?_, ?_, ?_⟩
 ·rw [mA_at, hf]
  show abK r = _
  unfold abK
  rw [hth, if_pos rfl, hd]
 ·rw [e, mA_upd rows k (fun q => popK q la) (fun r h => h), hf]
  have : abK (popK r la) = some (.lst r.ls.tail, if r.en then some r.at' else none) := by
   unfold abK
   have h1 : (popK r la).th = true := hth
   rw [h1, if_pos rfl]
   have h2 : dvK (popK r la) = .lst r.ls.tail := if_neg (by show ¬ r.kd = 1; rw [hkd]; decide)
   rw [h2]
   rfl
  exact setA_congr this
 ·funext j
  rw [e, ver_upd rows k (fun q => popK q la) (fun r h => h)]
  by_cases hj : j = k
  ·rw [if_pos hj, hf, hj, Cg, hf]; rfl
  ·rw [if_neg hj]
structure DoT (w w' : World) (W B s m x : Nat) (now : Int) (va wa : Nat) (nv nw : List Int) (Vd Ud : BA → Int) (bd : Int) : Prop where
 be : Below B w w'
 dr : DoR w' W B s m x now va wa nv nw Vd Ud bd
section
variable {w w1 w2 : World} {W B s m x : Nat} {now : Int} {va wa : Nat} {nv nw : List Int} {A A1 : Ab} {V V1 : BA → Int} {rows rows1 : List Kr} {bd c : Int} {FP FP1 : BA → List Nat}
theorem St.two (H : St w W B s m x now va wa nv nw A V rows FP bd) (h1 : To w w1 B s x NM7 A1 V1) (h2 : MTo w1 w2 B m rows1) (hv : Vals w B A1 (mA rows1) FP1) (hvl : Vle V1 c) (hk : Koks c rows1) (hb : bd ≤ c) (hg : Grow (vN A V now) V1 (uN rows now) (verR rows1)) : DoT w w2 W B s m x now va wa nv nw (vN A V now) (uN rows now) c :=
 ⟨h1.mb.be.trans h2.mb.be, DoR.of ((H.pr.to h1 hvl).mt h2.mb) ⟨h2.md, hk⟩ ((hv.st h1.mb).mt h2.mb) H.t0 (Int.le_trans H.t1 hb) hg⟩
theorem St.low (H : St w W B s m x now va wa nv nw A V rows FP bd) (hb : bd ≤ 1000000) : Low V ∧ LowM rows ∧ (∀ r ∈ rows, 0 ≤ r.ver ∧ r.ver < 4611686018427387800) ∧ rows.length ≤ 7 :=
 ⟨H.pr.vle.low hb, (H.mr.ok.low hb).1, (H.mr.ok.low hb).2, H.mr.ok.len H.mr.md.nod⟩
theorem St.there (H : St w W B s m x now va wa nv nw A V rows FP bd) (k : BA) : Bc (dueR now rows) k = (dueA A now k).isSome := by
 rw [there_eq (nod_due H.mr.md.nod now), Co]; exact (H.vals.some_iff k).symm
theorem St.del (H : St w W B s m x now va wa nv nw A V rows FP bd) {k : BA} (hk : k ∈ NM7) (h1 : DelTo w w1 B s x NM7 (dueA A now) (dueV A V now) k) (h2 : MTo w1 w2 B m (delR (dueR now rows) k)) : DoT w w2 W B s m x now va wa nv nw (vN A V now) (uN rows now) (bd + 2) := by
 obtain ⟨e1, e2⟩ := mA_del (nod_due H.mr.md.nod now) k
 rw [Co] at e1 e2
 rw [Cr] at e2
 exact H.two h1 h2 (by rw [e1]; exact H.vals.del k) (((H.pr.vle.due A now).chg _ k).mono (by omega)) (((H.mr.ok.due now).del hk).mono (by omega)) (by omega) (by rw [e2]; exact Grow.chg (H.vals.some_iff k) _ _)
theorem St.exp (H : St w W B s m x now va wa nv nw A V rows FP bd) {k : BA} {u : Int} (h1 : ExpTo w w1 B s x NM7 (dueA A now) (dueV A V now) k u now) (h2 : MTo w1 w2 B m (expR (dueR now rows) k u now)) : DoT w w2 W B s m x now va wa nv nw (vN A V now) (uN rows now) (bd + 3) := by
 obtain ⟨e1, e2⟩ := mA_exp (nod_due H.mr.md.nod now) k u now (by rw [Co]; exact dueA_still _ _)
 rw [Co] at e1 e2
 rw [Cr, ← H.vals.some_iff k] at e2
 exact H.two h1 h2 (by rw [e1]; exact H.vals.exp k u now) (((H.pr.vle.due A now).chg _ k).mono (by omega)) (((H.mr.ok.due now).exp k u now).mono (by omega)) (by omega) (Grow.only e2)
theorem Vle.per {α : Type} {V : BA → Int} {b : Int} (h : Vle V b) (A : AbV α) (k : BA) : Vle (perV A V k) (b + 1) := by
 unfold perV
 split
 ·exact h.inc k
 ·exact h.mono (by omega)
theorem St.per (H : St w W B s m x now va wa nv nw A V rows FP bd) {k : BA} (h1 : PerTo w w1 B s x NM7 (dueA A now) (dueV A V now) k) (h2 : MTo w1 w2 B m (perR (dueR now rows) k)) : DoT w w2 W B s m x now va wa nv nw (vN A V now) (uN rows now) (bd + 2) := by
 obtain ⟨e1, e2⟩ := mA_per (dueR now rows) k
 rw [Co] at e1 e2
 rw [Cr] at e2
 exact H.two h1 h2 (by rw [e1]; exact H.vals.per k) (((H.pr.vle.due A now).per _ k).mono (by omega)) (((H.mr.ok.due now).per k).mono (by omega)) (by omega) (by rw [e2]; exact Grow.per (H.vals.endq k) _ _)
theorem St.ren (H : St w W B s m x now va wa nv nw A V rows FP bd) (h0 : 0 ≤ bd) {a b : BA} (ha : a ∈ NM7) (hb : b ∈ NM7) (h1 : RenTo w w1 B s x NM7 (dueA A now) (dueV A V now) a b) (h2 : MTo w1 w2 B m (renR (dueR now rows) a b)) : DoT w w2 W B s m x now va wa nv nw (vN A V now) (uN rows now) (bd + 3) := by
 obtain ⟨e1, e2⟩ := mA_ren (nod_due H.mr.md.nod now) a b
 rw [Co] at e1 e2
 rw [Cr] at e2
 obtain ⟨FP', hv⟩ := H.vals.ren a b
 exact H.two h1 h2 (by rw [e1]; exact hv) (((H.pr.vle.due A now).ren _ a b).mono (by omega)) (((H.mr.ok.due now).ren (by omega) (nod_due H.mr.md.nod now) ha hb).mono (by omega)) (by omega) (by rw [e2]; exact Grow.ren (H.vals.some_iff a) _ _ b)
theorem St.still (H : St w W B s m x now va wa nv nw A V rows FP bd) (h1 : Bo w w1 B s x NM7 A V now) (h2 : MTo w1 w2 B m (dueR now rows)) : DoT w w2 W B s m x now va wa nv nw (vN A V now) (uN rows now) (bd + 1) :=
 H.two h1 h2 (by rw [Co]; exact H.vals) (H.pr.vle.due A now) (H.mr.ok.due now) (by omega) (by rw [Cr]; exact Grow.refl _ _)
theorem St.alone (H : St w W B s m x now va wa nv nw A V rows FP bd) (h1 : Bo w w1 B s x NM7 A V now) : DoT w w1 W B s m x now va wa nv nw (vN A V now) (uN rows now) (bd + 1) := by
 have hp := (H.pr.to h1 (H.pr.vle.due A now))
 refine ⟨h1.mb.be, dueA A now, dueV A V now, rows, FP, ⟨hp, ⟨(H.mr.st h1.mb).md, H.mr.ok.mono (by omega)⟩, ?_, H.t0, by have := H.t1; omega⟩, ?_⟩
 ·rw [dueA_dueA _ (Int.le_refl _)]; exact H.vals.st h1.mb
 ·unfold vN
  rw [dueV_dueV _ _ (Int.le_refl _)]
  exact Grow.refl _ _
theorem St.rest (H : St w W B s m x now va wa nv nw A V rows FP bd) (hb : bd ≤ c) : DoT w w W B s m x now va wa nv nw (vN A V now) (uN rows now) c :=
 ⟨Below.refl _ _, A, V, rows, FP, ⟨⟨H.pr.lw, H.pr.spc, H.pr.vle.mono hb⟩, ⟨H.mr.md, H.mr.ok.mono hb⟩, H.vals, H.t0, Int.le_trans H.t1 hb⟩, Grow.refl _ _⟩
theorem DoT.mono {w' : World} {Vd Ud : BA → Int} (h : DoT w w' W B s m x now va wa nv nw Vd Ud bd) (hb : bd ≤ c) : DoT w w' W B s m x now va wa nv nw Vd Ud c := by
 obtain ⟨he, A, V, rows, FP, H, hg⟩ := h
 exact ⟨he, A, V, rows, FP, ⟨⟨H.pr.lw, H.pr.spc, H.pr.vle.mono hb⟩, ⟨H.mr.md, H.mr.ok.mono hb⟩, H.vals, H.t0, Int.le_trans H.t1 hb⟩, hg⟩
theorem DoT.behind {w0 w' : World} {Vd Ud V0 U0 : BA → Int} (h0 : Below B w0 w) (hg : Grow V0 Vd U0 Ud) (h : DoT w w' W B s m x now va wa nv nw Vd Ud bd) (hb : bd ≤ c) : DoT w0 w' W B s m x now va wa nv nw V0 U0 c := by
 obtain ⟨he, A, V, rows, FP, H, hg'⟩ := h.mono hb
 exact ⟨h0.trans he, A, V, rows, FP, H, hg.trans hg'⟩
theorem St.put (H : St w W B s m x now va wa nv nw A V rows FP bd) (h0 : 0 ≤ bd) {k : BA} (hk : k ∈ NM7) {kd : Int} {tx : BA} {pa : Option Addr} {pc : Nat} {la : Option Addr} {ln lc : Nat} {ls : List BA} {v C : Nat} {F : List Nat} (hkd : kd = 1 ∨ kd = 4 ∧ 0 < ln) (hln : ln ≤ 100) {w3 w4 : World} (hb : Below w.heap.size w w1) (h2 : MTo w1 w2 B m (updR (sltR (dueR now rows) k) k (putK k kd tx pa pc la ln lc ls 0 false))) (hb3 : Below w2.heap.size w2 w3) (hw : w.heap.size ≤ C) (hv : IsV w3 C v (if kd = 1 then .txt tx else .lst ls) F) (hF : ∀ y ∈ F, w.heap.size ≤ y)
  (h4 : PutTo w3 w4 B s x NM7 (dueA A now) (dueV A V now) k (some ⟨v, 0, none⟩)) : DoT w w4 W B s m x now va wa nv nw (vN A V now) (uN rows now) (bd + 2) := by
 obtain ⟨e1, e2⟩ := mA_put (dueR now rows) k kd tx pa pc la ln lc ls 0 false
 rw [Co] at e1
 rw [Cr] at e2
 have hB : B ≤ w.heap.size := H.mr.md.lt
 have v1 := H.vals.keep hb
 have v2 := v1.mt h2.mb
 have v3 := v2.keep hb3
 have v4 := v3.set k (u := none) (hv.down (Nat.le_trans hB hw)) (fun j hj y hy hm => by have := H.vals.lt j y hm; have := hF y hy; omega)
 refine ⟨(((hb.mono hB).trans h2.mb.be).trans (hb3.mono h2.md.lt)).trans h4.mb.be, ?_⟩
 refine DoR.of ((((H.pr.keep hb).mt h2.mb).keep hb3).to h4 (((H.pr.vle.due A now).inc k).mono (by omega))) ((Mr.keep (Mr.mk h2.md (((H.mr.ok.due now).put (by omega) hk hkd hln).mono (by omega))) hb3).st h4.mb) (by rw [e1]; exact v4.st h4.mb) H.t0 (by have := H.t1; omega) ?_
 rw [e2]
 exact Grow.inc _ _ _
theorem St.put0 (H : St w W B s m x now va wa nv nw A V rows FP bd) {k : BA} (hk : k ∈ NM7) {w3 : World} (hb : Below w.heap.size w w1) (h2 : MTo w1 w2 B m (delR (dueR now rows) k)) (h3 : DelTo w2 w3 B s x NM7 (dueA A now) (dueV A V now) k) : DoT w w3 W B s m x now va wa nv nw (vN A V now) (uN rows now) (bd + 2) := by
 obtain ⟨e1, e2⟩ := mA_del (nod_due H.mr.md.nod now) k
 rw [Co] at e1 e2
 rw [Cr] at e2
 refine ⟨((hb.mono H.mr.md.lt).trans h2.mb.be).trans h3.mb.be, ?_⟩
 refine DoR.of (((H.pr.keep hb).mt h2.mb).to h3 (((H.pr.vle.due A now).chg _ k).mono (by omega))) ((Mr.mk h2.md (((H.mr.ok.due now).del hk).mono (by omega))).st h3.mb) (by rw [e1]; exact (((H.vals.keep hb).mt h2.mb).del k).st h3.mb) H.t0 (by have := H.t1; omega) ?_
 rw [e2]
 exact Grow.chg (H.vals.some_iff k) _ _
theorem flu_due {α : Type} (A : AbV α) (V : BA → Int) (t : Int) : fluV (dueA A t) (dueV A V t) = fluV A V := by
 funext k
 unfold fluV dueA dueV
 rcases h : A k with _ | ⟨v, _ | e⟩
 ·simp
 ·simp
 ·by_cases he : e ≤ t <;> simp [he]
theorem Vle.flu {α : Type} {V : BA → Int} {b : Int} (h : Vle V b) (A : AbV α) : Vle (fluV A V) (b + 1) := fun k => by
 have := h k
 unfold fluV
 split <;> omega
theorem Vals.none (w : World) (B : Nat) : Vals w B (fun _ => Option.none) (fun _ => Option.none) (fun _ => []) := ⟨fun _ _ => rfl, (fun _ _ _ h => by cases h), (fun _ _ _ _ h => by cases h), (fun _ _ h => by cases h)⟩
theorem St.flu (H : St w W B s m x now va wa nv nw A V rows FP bd) {w3 : World} (h1 : FluTo w w1 B s x NM7 A V) (h2 : MTo w1 w2 B m (dueR now rows)) (h3 : MTo w2 w3 B m ((dueR now rows).map fluK)) : DoT w w3 W B s m x now va wa nv nw (vN A V now) (uN rows now) (bd + 2) := by
 obtain ⟨e1, e2⟩ := mA_flu (dueR now rows)
 rw [Co, Cr] at e2
 refine ⟨(h1.mb.be.trans h2.mb.be).trans h3.mb.be, ?_⟩
 refine DoR.of (((H.pr.to h1 ((H.pr.vle.flu A).mono (by omega))).mt h2.mb).mt h3.mb) ⟨h3.md, ((H.mr.ok.due now).flu).mono (by omega)⟩ (FP' := fun _ => []) (by rw [e1]; exact Vals.none _ _) H.t0 (by have := H.t1; omega) ?_
 rw [e2, ← flu_due A V now]
 exact Grow.flu (fun k => H.vals.some_iff k) _ _
end
structure Al (w : World) (W B s m x : Nat) (now : Int) (va wa : Nat) (nv nw : List Int) (A : Ab) (V : BA → Int) (rows : List Kr) (FP : BA → List Nat) : Prop where
 lw : Lw w W s m now va wa nv nw
 spc : Spc w B s x NM7 A V
 md : Md w B m rows
 vals : Vals w B A (mA rows) FP
structure Stl (now : Int) (A : Ab) (V : BA → Int) (rows : List Kr) (bd : Int) : Prop where
 st : Still A now
 du : dueR now rows = rows
 vle : Vle V bd
 ok : Koks bd rows
 bd : bd ≤ 1000000
section
variable {w w' w1 w2 : World} {W B s m x : Nat} {now : Int} {va wa : Nat} {nv nw : List Int} {A : Ab} {V : BA → Int} {rows : List Kr} {bd c : Int} {FP : BA → List Nat}
theorem Al.pt (H : Al w W B s m x now va wa nv nw A V rows FP) (h : To w w' B s x NM7 A V) : Al w' W B s m x now va wa nv nw A V rows FP :=
 ⟨H.lw.mv h.mb.mv (by decide) (by decide), h.spc, H.md.mv h.mb.mv (by decide) (by decide) (by decide), H.vals.st h.mb⟩
theorem Al.mt (H : Al w W B s m x now va wa nv nw A V rows FP) (h : MTo w w' B m rows) : Al w' W B s m x now va wa nv nw A V rows FP :=
 ⟨H.lw.mv h.mb.mv (by decide) (by decide), H.spc.mv h.mb.mv off_ms.off, h.md, H.vals.mt h.mb⟩
theorem Al.keep (H : Al w W B s m x now va wa nv nw A V rows FP) (h : Below w.heap.size w w') : Al w' W B s m x now va wa nv nw A V rows FP :=
 ⟨H.lw.keep h, H.spc.keep h, H.md.keep h, H.vals.keep h⟩
theorem Stl.low (S : Stl now A V rows bd) : Low V := S.vle.low S.bd
theorem Stl.lowM (S : Stl now A V rows bd) : LowM rows := (S.ok.low S.bd).1
theorem Stl.to (S : Stl now A V rows bd) (h : Bo w w' B s x NM7 A V now) : To w w' B s x NM7 A V := To.keepV S.st h
theorem Stl.mst (S : Stl now A V rows bd) : Still (mA rows) now := by
 have h := Co rows now
 rw [S.du] at h
 rw [h]
 exact dueA_still _ _
theorem Al.st (H : Al w W B s m x now va wa nv nw A V rows FP) (S : Stl now A V rows bd) (h0 : 0 ≤ now) (h1 : now ≤ bd) : St w W B s m x now va wa nv nw A V rows FP bd ∧ vN A V now = V ∧ uN rows now = verR rows :=
 ⟨⟨⟨H.lw, H.spc, S.vle⟩, ⟨H.md, S.ok⟩, by rw [S.st.due, S.mst.due]; exact H.vals, h0, h1⟩, S.st.dueV V, S.mst.dueV _⟩
theorem St.stl (H : St w W B s m x now va wa nv nw A V rows FP bd) (hb : bd + 1 ≤ 1000000) : Stl now (dueA A now) (dueV A V now) (dueR now rows) (bd + 1) :=
 ⟨dueA_still _ _, dueR_idem _ _, H.pr.vle.due A now, H.mr.ok.due now, hb⟩
theorem St.al2 (H : St w W B s m x now va wa nv nw A V rows FP bd) (h1 : MTo w w1 B m (dueR now rows)) (h2 : Bo w1 w2 B s x NM7 A V now) : Al w2 W B s m x now va wa nv nw (dueA A now) (dueV A V now) (dueR now rows) FP :=
 ⟨(H.pr.lw.mv h1.mb.mv (by decide) (by decide)).mv h2.mb.mv (by decide) (by decide), h2.spc, h1.md.mv h2.mb.mv (by decide) (by decide) (by decide), by rw [Co]; exact (H.vals.mt h1.mb).st h2.mb⟩
theorem St.al1 (H : St w W B s m x now va wa nv nw A V rows FP bd) (h1 : Bo w w1 B s x NM7 A V now) (h2 : MTo w1 w2 B m (dueR now rows)) : Al w2 W B s m x now va wa nv nw (dueA A now) (dueV A V now) (dueR now rows) FP :=
 ⟨(H.pr.lw.mv h1.mb.mv (by decide) (by decide)).mv h2.mb.mv (by decide) (by decide), h1.spc.mv h2.mb.mv off_ms.off, h2.md, by rw [Co]; exact (H.vals.st h1.mb).mt h2.mb⟩
theorem get_s (H : Al w W B s m x now va wa nv nw A V rows FP) (S : Stl now A V rows bd) (k : BA) (hk : k ∈ NM7) :
  Calls Tryz.prog 17 #[ptr s, .string k, .int .i64 now] w fun e w' => e = .returned (.pointer (valOf (A k))) ∧ Al w' W B s m x now va wa nv nw A V rows FP ∧ Below B w w' := by
 have h := Get_any w B s x NM7 A V H.spc S.low now k (by have := nm7_sz hk; unfold maxLen; omega)
 rw [S.st.due] at h
 refine h.mono ?_
 rintro e w' ⟨rfl, h2⟩
 exact ⟨rfl, H.pt (S.to h2), h2.mb.be⟩
theorem at_s (H : Al w W B s m x now va wa nv nw A V rows FP) (S : Stl now A V rows bd) (k : BA) :
  Calls Tryz.prog 65 #[ptr m, .string k, .int .i64 now] w fun e w' => AtR rows k e ∧ Al w' W B s m x now va wa nv nw A V rows FP ∧ Below B w w' := by
 have h := At_any w B m rows k now H.md S.lowM
 rw [S.du] at h
 exact h.mono fun e w' h => ⟨h.2, H.mt h.1, h.1.mb.be⟩
theorem expiry_s (H : Al w W B s m x now va wa nv nw A V rows FP) (S : Stl now A V rows bd) (k : BA) (hk : k ∈ NM7) :
  Calls Tryz.prog 33 #[ptr s, .string k, .int .i64 now] w fun e w' => e = .returned (.tuple #[.int .i64 ((endOf (A k)).getD 0), .bool (endOf (A k)).isSome]) ∧ Al w' W B s m x now va wa nv nw A V rows FP ∧ Below B w w' := by
 have h := Expiry_any w B s x NM7 A V H.spc S.low now k (by have := nm7_sz hk; unfold maxLen; omega)
 rw [S.st.due] at h
 refine h.mono ?_
 rintro e w' ⟨rfl, h2⟩
 exact ⟨rfl, H.pt (S.to h2), h2.mb.be⟩
theorem expiry_m (H : Al w W B s m x now va wa nv nw A V rows FP) (S : Stl now A V rows bd) (k : BA) :
  Calls Tryz.prog 70 #[ptr m, .string k, .int .i64 now] w fun e w' => e = .returned (.tuple #[.int .i64 ((endOf (A k)).getD 0), .bool (endOf (A k)).isSome]) ∧ Al w' W B s m x now va wa nv nw A V rows FP ∧ Below B w w' := by
 have h := ExpiryM_any w B m rows k now H.md S.lowM
 rw [S.du, end_eq, ← H.vals.endq k] at h
 refine h.mono ?_
 rintro e w' ⟨rfl, h2⟩
 exact ⟨rfl, H.mt h2, h2.mb.be⟩
theorem ver_s (H : Al w W B s m x now va wa nv nw A V rows FP) (S : Stl now A V rows bd) (k : BA) (hk : k ∈ NM7) :
  Calls Tryz.prog 13 #[ptr s, .string k, .int .i64 now] w fun e w' => e = .returned (.int .u64 (V k)) ∧ Al w' W B s m x now va wa nv nw A V rows FP ∧ Below B w w' := by
 have h := Version_any w B s x NM7 A V H.spc S.low now k (by have := nm7_sz hk; unfold maxLen; omega)
 rw [S.st.dueV] at h
 refine h.mono ?_
 rintro e w' ⟨rfl, h2⟩
 exact ⟨rfl, H.pt (S.to h2), h2.mb.be⟩
theorem ver_m (H : Al w W B s m x now va wa nv nw A V rows FP) (S : Stl now A V rows bd) (k : BA) :
  Calls Tryz.prog 71 #[ptr m, .string k, .int .i64 now] w fun e w' => e = .returned (.int .u64 (verR rows k)) ∧ Al w' W B s m x now va wa nv nw A V rows FP ∧ Below B w w' := by
 have h := Ver_any w B m rows k now H.md S.lowM
 rw [S.du] at h
 exact h.mono fun e w' h => ⟨h.2, H.mt h.1, h.1.mb.be⟩
theorem Vals.dom {w : World} {B : Nat} {A : Ab} {M : AbV Dv} {FP : BA → List Nat} (H : Vals w B A M FP) {ks js : List BA} (h : Dom A ks) (h' : DomV M js) : ks.Perm js :=
 nodup_perm h.nod h'.nod fun k => by rw [h.iff, h'.iff, H.some_iff]
theorem Al.names (H : Al w W B s m x now va wa nv nw A V rows FP) {ks : List BA} (h : Dom A ks) : ks.Perm (A3 rows) := H.vals.dom h (dom_names H.md.nod)
theorem held_s (H : Al w W B s m x now va wa nv nw A V rows FP) :
  Calls Tryz.prog 64 #[ptr s] w fun e w' => e = .returned (.int .i64 ((A3 rows).length : Nat)) ∧ w' = w := by
 refine (Held_any w B s x NM7 A V H.spc).mono ?_
 rintro e w' ⟨rfl, ks, h2, rfl⟩
 exact ⟨by rw [(H.names h2).length_eq], rfl⟩
theorem keys_s (H : Al w W B s m x now va wa nv nw A V rows FP) (S : Stl now A V rows bd) :
  Calls Tryz.prog 25 #[ptr s, .int .i64 now] w fun e w' => Al w' W B s m x now va wa nv nw A V rows FP ∧ Mb stag B w w' ∧ ∃ a n cp ks, e = .returned (.slice a n cp) ∧ OwnS w' w.heap.size a n cp ks ∧ ks.Perm (A3 rows) := by
 have h := Keys_any w B s x NM7 A V H.spc S.low now
 rw [S.st.due] at h
 refine h.mono ?_
 rintro e w' ⟨h1, a, n, cp, ks, rfl, h2, h3⟩
 exact ⟨H.pt (S.to h1), h1.mb, a, n, cp, ks, rfl, h2, H.names h3⟩
theorem scan_s (H : Al w W B s m x now va wa nv nw A V rows FP) (S : Stl now A V rows bd) (c : Nat) (count : Int) (hc : c < 18446744073709551616) :
  Calls Tryz.prog 28 #[ptr s, .int .u64 c, .int .i64 count, .int .i64 now] w fun e w' => Al w' W B s m x now va wa nv nw A V rows FP ∧ Mb stag B w w' ∧ ScanR w w' x A c count e := by
 have h := Scan_any w B s x NM7 A V H.spc S.low c count now hc
 rw [S.st.due] at h
 exact h.mono fun e w' h => ⟨H.pt (S.to h.1), h.1.mb, h.2⟩
theorem pick_s (H : Al w W B s m x now va wa nv nw A V rows FP) (S : Stl now A V rows bd) (c : Nat) (hc : c < 18446744073709551616) :
  Calls Tryz.prog 96 #[ptr s, .int .u64 c, .int .i64 now] w fun e w' => Al w' W B s m x now va wa nv nw A V rows FP ∧ Mb stag B w w' ∧ PickR A e := by
 have h := Pick_any w B s x NM7 A V H.spc S.low c now hc
 rw [S.st.due] at h
 exact h.mono fun e w' h => ⟨H.pt (S.to h.1), h.1.mb, h.2⟩
theorem St.copy (H : St w W B s m x now va wa nv nw A V rows FP bd) (h0 : 0 ≤ bd) {a b : BA} (hb : b ∈ NM7) {d : Dv} {u : Option Int} (hM : dueA (mA rows) now a = some (d, u)) {p : Nat} {F : List Nat} (hT : To w w1 B s x NM7 (setA (dueA A now) b (some (some ⟨p, 0, none⟩, u))) (incV (dueV A V now) b)) (hI : IsV w1 w.heap.size p d F) (hF : ∀ y ∈ F, w.heap.size ≤ y) {pa : Option Addr} {pc : Nat} {la : Option Addr} {lc : Nat}
  (h2 : MTo w1 w2 B m (updR (sltR (dueR now rows) b) b (putK b (srcR (dueR now rows) a).kd (srcR (dueR now rows) a).tx pa pc la (srcR (dueR now rows) a).ln lc (srcR (dueR now rows) a).ls (srcR (dueR now rows) a).at' (srcR (dueR now rows) a).en))) : DoT w w2 W B s m x now va wa nv nw (vN A V now) (uN rows now) (bd + 2) := by
 obtain ⟨rs, hrs⟩ : ∃ rs, dueR now rows = rs := ⟨_, rfl⟩
 have hMr : mA rs a = some (d, u) := by rw [← hrs, Co]; exact hM
 have hok : Koks (bd + 1) rs := by rw [← hrs]; exact H.mr.ok.due now
 obtain ⟨k1, k2, -⟩ := hok.src (a := a) (by rw [hMr]; rfl)
 have hab := src_eq rs a
 rw [hMr] at hab
 unfold abK at hab
 rw [k2, if_pos rfl] at hab
 injection hab with hab
 injection hab with hd hu
 obtain ⟨e1, e2⟩ := mA_put rs b (srcR rs a).kd (srcR rs a).tx pa pc la (srcR rs a).ln lc (srcR rs a).ls (srcR rs a).at' (srcR rs a).en
 have hd' : (if (srcR rs a).kd = 1 then Dv.txt (srcR rs a).tx else Dv.lst (srcR rs a).ls) = d := hd
 rw [hd', hu] at e1
 have hvv : mA rs = dueA (mA rows) now := by rw [← hrs, Co]
 have hvr : verR rs = uN rows now := by rw [← hrs, Cr]
 rw [hvv] at e1
 rw [hvr] at e2
 rw [hrs] at h2
 have hB : B ≤ w.heap.size := H.mr.md.lt
 have v4 := (H.vals.st hT.mb).set b (u := u) (hI.down hB) (fun j hj y hy hm => by have := H.vals.lt j y hm; have := hF y hy; omega)
 refine ⟨hT.mb.be.trans h2.mb.be, ?_⟩
 refine DoR.of ((H.pr.to hT (((H.pr.vle.due A now).inc b).mono (by omega))).mt h2.mb) ⟨h2.md, (hok.put (by omega) hb (k1.ok k2) k1.ln).mono (by omega)⟩ (by rw [e1]; exact v4.mt h2.mb) H.t0 (by have := H.t1; omega) ?_
 rw [e2]
 exact Grow.inc _ _ _
theorem due_self {t : Int} {rows : List Kr} (h : ∀ r ∈ rows, dueK t r = r) : dueR t rows = rows := by
 unfold dueR
 conv => rhs; rw [← List.map_id rows]
 exact List.map_congr_left h
theorem due_all {t : Int} {rows : List Kr} (h : dueR t rows = rows) : ∀ r ∈ rows, dueK t r = r := fun r hr => by
 rw [← h] at hr
 obtain ⟨q, -, rfl⟩ := List.mem_map.1 hr
 exact dueK_idem t q
theorem due_pop {t : Int} {rows : List Kr} (h : dueR t rows = rows) {i : Nat} {r : Kr} (hr : rows[i]? = some r) (la : Option Addr) : dueR t (rows.set i (popK r la)) = rows.set i (popK r la) := by
 refine due_self fun q hq => ?_
 rcases List.mem_or_eq_of_mem_set hq with h1 | rfl
 ·exact due_all h q h1
 ·have h1 := due_all h r (List.mem_of_getElem? hr)
  unfold dueK at h1 ⊢
  by_cases hc : r.th = true ∧ r.en = true ∧ r.at' ≤ t
  ·rw [if_pos hc] at h1
   have : (Kr.off r.nm (r.ver + 1)).th = r.th := by rw [h1]
   rw [hc.1] at this
   cases this
  ·exact if_neg hc
theorem Al.pop {w3 w4 w5 w6 : World} (H : Al w W B s m x now va wa nv nw A V rows FP) (S : Stl now A V rows bd) (h0 : 0 ≤ now) (h1 : now ≤ bd) {k : BA} {i : Nat} {r : Kr} (hr : rows[i]? = some r) (hk : r.nm = k) (hth : r.th = true) (hkd : r.kd = 4) {la : Option Addr}
  (hb3 : Below B w w3) (hm3 : Mv ltag w w3) {FP' : BA → List Nat} (hv3 : Vals w3 B A (setA (mA rows) k (some (.lst r.ls.tail, if r.en then some r.at' else none))) FP')
  (hm4 : Mb mtag B w3 w4) (hd4 : Md w4 B m (rows.set i (popK r la)))
  (h5 : TouchTo w4 w5 B s x NM7 (dueA A now) (dueV A V now) k (decide (r.ls.tail.length = 0)))
  (h6 : MTo w5 w6 B m (touR (dueR now (rows.set i (popK r la))) k)) : DoT w w6 W B s m x now va wa nv nw V (verR rows) (bd + 1) := by
 obtain ⟨e0, e1, e2⟩ := mA_pop H.md.nod hr hk hth hkd la
 rw [due_pop S.du hr la] at h6
 rw [S.st.due, S.st.dueV] at h5
 have hrok := S.ok r (List.mem_of_getElem? hr)
 have hq : ∀ q ∈ rows.set i (popK r la), q ∈ rows ∨ q = popK r la := fun q hq => List.mem_or_eq_of_mem_set hq
 have hlen : ∀ q ∈ rows.set i (popK r la), q.ls.length = q.ln := fun q hm => (hd4.lst q hm).len
 obtain ⟨t1, t2⟩ := mA_tou hd4.nod hlen k
 rw [e1] at t1 t2
 rw [e2] at t2
 have hgc : Grow V (chgV A V k) (verR rows) (verR (touR (rows.set i (popK r la)) k)) := by
  rw [t2]
  exact Grow.chg (by rw [Bz, H.vals.some_iff k, e0]; rfl) _ _
 have hpr : Pr w6 W B s m x now va wa nv nw (if decide (r.ls.tail.length = 0) = true then setA A k none else A) (chgV A V k) (bd + 1) := by
  have p1 : Pr w4 W B s m x now va wa nv nw A V bd := ⟨(H.lw.mv hm3 (by decide) (by decide)).mv hm4.mv (by decide) (by decide), (H.spc.mv hm3 off_ls.off).mv hm4.mv off_ms.off, S.vle⟩
  exact (p1.to h5 (S.vle.chg A k)).mt h6.mb
 have hmr : Mr w6 B m (touR (rows.set i (popK r la)) k) (bd + 1) := by
  refine ⟨h6.md, Koks.tou (fun q hm => ?_) (fun q hm hne => ?_) (fun q hm he ht => ?_)⟩
  ·rcases hq q hm with h | rfl
   ·have := S.ok q h; exact ⟨this.v0, this.v1, this.nm, this.ln⟩
   ·exact ⟨hrok.v0, hrok.v1, hrok.nm, by show r.ln - 1 ≤ 100; have := hrok.ln; omega⟩
  ·rcases hq q hm with h | rfl
   ·exact S.ok q h
   ·exact absurd hk hne
  ·rcases hq q hm with h | rfl
   ·exact ((S.ok q h).ok ht).imp_right (·.1)
   ·exact .inr hkd
 have hvv := ((hv3.mt hm4).st h5.mb).mt h6.mb
 refine ⟨((hb3.trans hm4.be).trans h5.mb.be).trans h6.mb.be, ?_⟩
 refine DoR.of hpr hmr ?_ h0 (by omega) hgc (FP' := FP')
 rw [t1]
 unfold touA
 rw [Bz]
 show Vals w6 B _ (if emV (.lst r.ls.tail) = true then _ else _) FP'
 show Vals w6 B _ (if decide (r.ls.tail.length = 0) = true then _ else _) FP'
 split
 ·exact hvv.del k
 ·exact hvv
end
section
variable {w w' : World} {W B s m x : Nat} {now : Int} {va wa : Nat} {nv nw : List Int} {A : Ab} {V : BA → Int} {rows : List Kr} {bd c : Int} {FP : BA → List Nat}
theorem St.keep (H : St w W B s m x now va wa nv nw A V rows FP bd) (h : Below w.heap.size w w') : St w' W B s m x now va wa nv nw A V rows FP bd :=
 ⟨H.pr.keep h, H.mr.keep h, H.vals.keep h, H.t0, H.t1⟩
theorem Lw.tick (H : Lw w W s m now va wa nv nw) (now' : Int) : Lw (w.setCell ⟨W, 2, none⟩ (.int .i64 now')) W s m now' va wa nv nw :=
 ⟨by rw [Ak H.blk]; rfl, by rw [Ar (Bj H.bv H.blk (by decide))]; exact H.bv, by rw [Ar (Bj H.bw H.blk (by decide))]; exact H.bw, H.lv, H.lw, H.ne⟩
structure Xb (w : World) (X : Nat) (kd xa xb xn xt : Int) (xs : BA) : Prop where
 blk : w.heap[X]? = some (.cells #[.int .i64 kd, .int .i64 xa, .int .i64 xb, .int .i64 xn, .int .i64 xt, .string xs] 24 (0, 0))
variable {X : Nat} {kd xa xb xn xt : Int} {xs : BA}
theorem Xb.keep (h : Xb w X kd xa xb xn xt xs) (hb : Below w.heap.size w w') : Xb w' X kd xa xb xn xt xs := ⟨by rw [hb.block X (Array.getElem?_eq_some_iff.1 h.blk).1]; exact h.blk⟩
theorem Xb.mv (h : Xb w X kd xa xb xn xt xs) {p : TypeId → Bool} (hm : Mv p w w') (hp : p 24 = false) : Xb w' X kd xa xb xn xt xs := ⟨by rw [hm.block X _ _ h.blk hp]; exact h.blk⟩
theorem Xb.c0 (h : Xb w X kd xa xb xn xt xs) : w.cell? ⟨X, 0, none⟩ = some (.int .i64 kd) := by simp [World.cell?, h.blk]
theorem Xb.c1 (h : Xb w X kd xa xb xn xt xs) : w.cell? ⟨X, 1, none⟩ = some (.int .i64 xa) := by simp [World.cell?, h.blk]
theorem Xb.c2 (h : Xb w X kd xa xb xn xt xs) : w.cell? ⟨X, 2, none⟩ = some (.int .i64 xb) := by simp [World.cell?, h.blk]
theorem Xb.c3 (h : Xb w X kd xa xb xn xt xs) : w.cell? ⟨X, 3, none⟩ = some (.int .i64 xn) := by simp [World.cell?, h.blk]
theorem Xb.c4 (h : Xb w X kd xa xb xn xt xs) : w.cell? ⟨X, 4, none⟩ = some (.int .i64 xt) := by simp [World.cell?, h.blk]
theorem Xb.c5 (h : Xb w X kd xa xb xn xt xs) : w.cell? ⟨X, 5, none⟩ = some (.string xs) := by simp [World.cell?, h.blk]
theorem St.tick (H : St w W B s m x now va wa nv nw A V rows FP bd) (hW : B ≤ W) {now' : Int} (h : now ≤ now') (hb : bd ≤ c) (hc : now' ≤ c) (hX : Xb w X kd xa xb xn xt xs) (hw : w' = w.setCell ⟨W, 2, none⟩ (.int .i64 now')) :
  St w' W B s m x now' va wa nv nw A V rows FP c ∧ Grow (vN A V now) (vN A V now') (uN rows now) (uN rows now') ∧ Below B w w' ∧ Xb w' X kd xa xb xn xt xs := by
 subst hw
 have hm : Mb (fun t => t == 53) B w (w.setCell ⟨W, 2, none⟩ (.int .i64 now')) := Mb.set H.pr.lw.blk (by decide) hW
 obtain ⟨h1, h2⟩ := H.time h hb hc hm (H.pr.lw.tick now')
 exact ⟨h1, h2, hm.be, hX.mv hm.mv (by decide)⟩
theorem Lw.fz (H : Lw w W s m now va wa nv nw) : w.frozen? ⟨W, 2, none⟩ = false := by simp [World.frozen?, H.blk]
theorem i64_low {z : Int} (h1 : 0 ≤ z) (h2 : z ≤ 2000000) : IntKind.i64.wrap z = z := by rw [IntKind.wrap_i64]; omega
def DoE (w w' : World) (W B s m x : Nat) (va wa : Nat) (nv nw : List Int) (Vd Ud : BA → Int) (bd : Int) (e : Ending) : Prop := e = .returned (.bool true) ∧ ∃ now, DoT w w' W B s m x now va wa nv nw Vd Ud bd
end
theorem due_mem {t : Int} {rows : List Kr} {r : Kr} (hr : r ∈ dueR t rows) (ht : r.th = true) : r ∈ rows := by
 obtain ⟨q, hq, rfl⟩ := List.mem_map.1 hr
 unfold dueK at ht ⊢
 split at ht
 ·cases ht
 ·rename_i h; rw [if_neg h]; exact hq
section
variable {w w1 w2 : World} {W B s m x : Nat} {now : Int} {va wa : Nat} {nv nw : List Int} {A A1 : Ab} {V V1 : BA → Int} {rows rows1 : List Kr} {bd c : Int} {FP FP1 : BA → List Nat}
theorem St.ends (H : St w W B s m x now va wa nv nw A V rows FP bd) (k : BA) : endR (dueR now rows) k = endOf (dueA A now k) := by
 rw [end_eq, Co]; exact (H.vals.endq k).symm
theorem St.row (H : St w W B s m x now va wa nv nw A V rows FP bd) {k : BA} {d : Dv} {u : Option Int} (h : dueA (mA rows) now k = some (d, u)) : ∃ r ∈ rows, r.nm = k ∧ r.th = true ∧ dvK r = d ∧ (r.kd = 1 ∨ r.kd = 4 ∧ 0 < r.ln) ∧ r.ls.length = r.ln := by
 rw [← Co] at h
 obtain ⟨r, hr, ht⟩ := fnd_some (rows := dueR now rows) (k := k) (by rw [h]; rfl)
 have hm := due_mem (fnd_mem hr) ht
 refine ⟨r, hm, fnd_nm hr, ht, ?_, (H.mr.ok r hm).ok ht, (H.mr.md.lst r hm).len⟩
 rw [mA_at, hr] at h
 have h' : abK r = some (d, u) := h
 unfold abK at h'
 rw [ht, if_pos rfl] at h'
 injection h' with h'
 injection h' with h' _
theorem St.emv (H : St w W B s m x now va wa nv nw A V rows FP bd) {k : BA} {d : Dv} {u : Option Int} (h : dueA (mA rows) now k = some (d, u)) : emV d = false := by
 obtain ⟨r, -, -, ht, rfl, hk, hl⟩ := H.row h
 unfold dvK
 rcases hk with hk | ⟨hk, h0⟩
 ·rw [if_pos hk]; rfl
 ·rw [if_neg (by rw [hk]; decide)]
  exact decide_eq_false (by omega)
theorem St.full (H : St w W B s m x now va wa nv nw A V rows FP bd) {k : BA} {v : Option Addr} {u : Option Int} (h : dueA A now k = some (v, u)) (hm : Mb stag B w w1) :
  Calls Tryz.prog 36 #[.pointer v] w1 fun e w' => e = .returned (.bool false) ∧ Below w1.heap.size w1 w' := by
 cases hM : dueA (mA rows) now k with
 | none => rw [H.vals.no k hM] at h; cases h
 | some y =>
  obtain ⟨d, u'⟩ := y
  obtain ⟨p, h1, h2⟩ := (H.vals.st hm).yes k d u' hM
  rw [h] at h1
  injection h1 with h1
  injection h1 with h1 _
  subst h1
  have hE := H.emv hM
  cases d with
  | txt t => exact Empty_t w1 p t h2.1
  | lst ls =>
   have := Empty_l w1 B p ls _ h2
   rw [show decide (ls.length = 0) = false from hE] at this
   exact this
theorem St.oks (H : St w W B s m x now va wa nv nw A V rows FP bd) : ∀ r ∈ dueR now rows, r.ok := fun r hr ht => by
 have := H.mr.ok r (due_mem hr ht)
 exact (this.ok ht).imp_right fun h => ⟨h.1, by have := this.ln; omega⟩
theorem St.touch (H : St w W B s m x now va wa nv nw A V rows FP bd) (hb : bd ≤ 1000000) {k : BA} (hk : k ∈ NM7) : Calls Tryz.prog 32 #[ptr s, .string k, .int .i64 now] w fun e w' => e = .returned (.tuple #[]) ∧ To w w' B s x NM7 (dueA A now) (chgV (dueA A now) (dueV A V now) k) := by
 refine (Touch_any w B s x NM7 A V H.pr.spc (H.low hb).1 now k hk (by have := nm7_sz hk; omega) false (fun w1 v u hm h => H.full h hm)).mono ?_
 rintro e w' ⟨rfl, h⟩
 exact ⟨rfl, h⟩
theorem St.tou (H : St w W B s m x now va wa nv nw A V rows FP bd) {k : BA} (h1 : To w w1 B s x NM7 (dueA A now) (chgV (dueA A now) (dueV A V now) k)) (h2 : MTo w1 w2 B m (touR (dueR now rows) k)) : DoT w w2 W B s m x now va wa nv nw (vN A V now) (uN rows now) (bd + 2) := by
 have hlen : ∀ r ∈ dueR now rows, r.ls.length = r.ln := fun r hr => by
  obtain ⟨q, hq, rfl⟩ := List.mem_map.1 hr
  unfold dueK
  split
  ·rfl
  ·exact (H.mr.md.lst q hq).len
 obtain ⟨e1, e2⟩ := mA_tou (nod_due H.mr.md.nod now) hlen k
 rw [Co] at e1 e2
 rw [Cr] at e2
 have e3 : touA (dueA (mA rows) now) k = dueA (mA rows) now := by
  unfold touA
  cases hM : dueA (mA rows) now k with
  | none => rfl
  | some y =>
   obtain ⟨d, u⟩ := y
   show (if emV d = true then _ else _) = _
   rw [H.emv hM, if_neg (by decide)]
 have hok := H.mr.ok.due now
 have hk2 : Koks (bd + 2) (touR (dueR now rows) k) := (Koks.tou (bd := bd + 1) (fun r hr => by have := hok r hr; exact ⟨this.v0, this.v1, this.nm, this.ln⟩) (fun r hr _ => hok r hr) (fun r hr _ ht => ((hok r hr).ok ht).imp_right (·.1))).mono (by omega)
 exact H.two h1 h2 (by rw [e1, e3]; exact H.vals) (((H.pr.vle.due A now).chg _ k).mono (by omega)) hk2 (by omega) (by rw [e2]; exact Grow.chg (H.vals.some_iff k) _ _)
theorem cyc_due {n : Int} {e : Ending} (hn : ∃ ks, Dom A ks ∧ n = (ks.length : Nat)) (h : CycTo w w1 B s x NM7 A V n now e) : ∃ q : Nat, e = .returned (.int .i64 q) ∧ (q : Int) ≤ n ∧ Bo w w1 B s x NM7 A V now := by
 obtain ⟨ks, hd, rfl⟩ := hn
 obtain ⟨A', V', ks0, ks', q, rfl, hT, hD, h1, h2, h3, h4, -⟩ := h
 have hl := (hd.same h1).length_eq
 have hs : Still A' now := by
  by_cases hq : (q : Int) < (ks.length : Nat)
  ·exact h4 hq
  ·have h0 : ks' = [] := List.length_eq_zero_iff.1 (by omega)
   intro k v e hk
   have := (h2.iff k).2 (by rw [hk]; rfl)
   rw [h0] at this
   cases this
 obtain ⟨e1, e2⟩ := hD.done hs
 subst e1 e2
 exact ⟨q, rfl, by omega, hT⟩
theorem St.held (H : St w W B s m x now va wa nv nw A V rows FP bd) {e : Ending} (h : LenR e (dueA A now)) : e = .returned (.int .i64 ((A3 (dueR now rows)).length : Nat)) := by
 obtain ⟨ks, h1, rfl⟩ := h
 have h2 := dom_names (nod_due H.mr.md.nod now)
 rw [Co] at h2
 rw [(H.vals.dom h1 h2).length_eq]
end
end Go.Proofs.YtmjeljldmmkcpaaGreat.Sq
