/- Texts that the others stand on. -/
import Derived.Test.YtmjeljldmmkcpaaGreatK40
import Derived.BigQuiet
import Derived.BigRegion
namespace Go.Proofs.YtmjeljldmmkcpaaGreat.Sq
open Go.RowKit Go.PlainAid
open Dk (ptr Aa Ac Ad Af OwnR OwnP OwnS Mv)
theorem To.keep {w w1 w2 : World} {B s x : Nat} {NM : List BA} {A : Ab} {V : BA → Int} (h : To w w1 B s x NM A V) (hb : Below w1.heap.size w1 w2) : To w w2 B s x NM A V :=
 ⟨h.mb.trans (Mb.of_below hb h.spc.lt), h.spc.keep hb⟩
theorem Copy_t (w : World) (v : Nat) (t : BA) (h : Vt w v t) : Calls Tryz.prog 45 #[ptr v] w fun e w' => Below w.heap.size w w' ∧ ∃ v', e = .returned (ptr v') ∧ Vt w' v' t := by
 have HK := kind_t w v t h
 have HO := OfText_t t w
 have c1 := h.ct
 clear h
 go_enter Tryz.func45, Tryz.ntmps45
 go_wp2_with fail
 refine HK.mono ?_
 rintro e w ⟨rfl, rfl⟩
 clear HK
 go_wp2_with fail
 refine HO.mono ?_
 rintro e w1 ⟨hb, v', rfl, hv⟩
 have HE : Hid (Below w.heap.size w w1 ∧ Vt w1 v' t) := ⟨hb, hv⟩
 clear hb hv HO c1
 go_wp2
 go_ret
 exact ⟨HE.out.1, v', rfl, HE.out.2⟩
theorem IsV.copy {w : World} {B p : Nat} {d : Dv} {F : List Nat} (h : IsV w B p d F) : Calls Tryz.prog 45 #[ptr p] w fun e w' => Below w.heap.size w w' ∧ ∃ v', e = .returned (ptr v') ∧ ∃ F', IsV w' w.heap.size v' d F' ∧ ∀ y ∈ F', w.heap.size ≤ y := by
 cases d with
 | txt t =>
  refine (Copy_t w p t h.1).mono ?_
  rintro e w' ⟨hb, v', rfl, hv⟩
  exact ⟨hb, v', rfl, [], ⟨hv, rfl⟩, (fun y hy => by cases hy)⟩
 | lst ls =>
  refine (Copy_l w B p ls F h).mono ?_
  rintro e w' ⟨hb, v', F', rfl, hv⟩
  exact ⟨hb, v', rfl, F', hv, fun y hy => (hv.fp y hy).1⟩
section
variable {w w1 w2 w3 : World} {W B s m x : Nat} {now : Int} {va wa : Nat} {nv nw : List Int} {A : Ab} {V : BA → Int} {rows : List Kr} {bd c : Int} {FP : BA → List Nat}
def cpq (A : Ab) (now : Int) (a b : BA) : Bool := (dueA A now a).isSome && !(dueA A now b).isSome
def PC (w w' : World) (B s x : Nat) (now : Int) (A : Ab) (V : BA → Int) (rows : List Kr) (a b : BA) : Prop :=
 (cpq A now a b = false ∧ Bo w w' B s x NM7 A V now) ∨ (cpq A now a b = true ∧ ∃ p F d u, dueA (mA rows) now a = some (d, u) ∧ To w w' B s x NM7 (setA (dueA A now) b (some (some ⟨p, 0, none⟩, u))) (incV (dueV A V now) b) ∧ IsV w' w.heap.size p d F ∧ ∀ y ∈ F, w.heap.size ≤ y)
theorem PC.mb {a b : BA} (h : PC w w1 B s x now A V rows a b) : Mb stag B w w1 := by
 rcases h with ⟨-, h⟩ | ⟨-, p, F, d, u, -, h, -⟩
 ·exact h.mb
 ·exact h.mb
theorem PC.keep {a b : BA} (h : PC w w1 B s x now A V rows a b) (hb : Below w1.heap.size w1 w2) : PC w w2 B s x now A V rows a b := by
 rcases h with ⟨h1, h⟩ | ⟨h1, p, F, d, u, h2, h3, h4, h5⟩
 ·exact .inl ⟨h1, To.keep h hb⟩
 ·exact .inr ⟨h1, p, F, d, u, h2, h3.keep hb, h4.mv (p := fun _ => false) (Mv.of_below hb) ⟨fun _ _ => rfl⟩ rfl, h5⟩
theorem St.copyP (H : St w W B s m x now va wa nv nw A V rows FP bd) (hb : bd ≤ 1000000) {a b : BA} (ha : a ∈ NM7) (hb7 : b ∈ NM7) :
  Calls Tryz.prog 14 #[ptr s, .string a, .string b, .int .i64 now] w fun e w' => e = .returned (.tuple #[.bool (cpq A now a b), .int .i64 0]) ∧ PC w w' B s x now A V rows a b := by
 have hsa := nm7_sz ha
 have hsb := nm7_sz hb7
 have hma : a.size ≤ maxLen := by unfold maxLen; omega
 have hmb : b.size ≤ maxLen := by unfold maxLen; omega
 have hlo := (H.low hb).1
 by_cases h1 : (dueA A now a).isSome = true
 ·by_cases h2 : (dueA A now b).isSome = true
  ·have hq : cpq A now a b = false := by unfold cpq; rw [h1, h2]; rfl
   refine (Copy_there w B s x NM7 A V H.pr.spc hlo now a b hma hmb h1 h2).mono ?_
   rintro e w' ⟨rfl, h⟩
   exact ⟨by rw [hq], .inl ⟨hq, h⟩⟩
  ·have hq : cpq A now a b = true := by unfold cpq; rw [h1, Bool.eq_false_iff.2 h2]; rfl
   have hn := not_some h2
   cases hM : dueA (mA rows) now a with
   | none => rw [H.vals.no a hM] at h1; cases h1
   | some y =>
    obtain ⟨d, u⟩ := y
    obtain ⟨p, k1, k2⟩ := H.vals.yes a d u hM
    refine (Copy_some w B s x NM7 A V H.pr.spc hlo now a b hma hb7 (by omega) (some ⟨p, 0, none⟩) u k1 hn (fun w2 p' => ∃ F', IsV w2 w.heap.size p' d F' ∧ ∀ y ∈ F', w.heap.size ≤ y) (fun w1 hm => ?_)).mono ?_
    ·refine (IsV.copy (k2.mv hm.mv off_sl (by decide))).mono ?_
     rintro e w2 ⟨g1, v', rfl, F', g2, g3⟩
     exact ⟨g1, v', rfl, F', g2.down hm.mv.size, fun y hy => Nat.le_trans hm.mv.size (g3 y hy)⟩
    ·rintro e w' ⟨rfl, p', w2, ⟨F', g2, g3⟩, g4, g5⟩
     exact ⟨by rw [hq], .inr ⟨hq, p', F', d, u, hM, g5, g2.mv g4.mv off_sl (by decide), g3⟩⟩
 ·have hq : cpq A now a b = false := by unfold cpq; rw [Bool.eq_false_iff.2 h1]; rfl
  refine (Copy_none w B s x NM7 A V H.pr.spc hlo now a b hma (not_some h1)).mono ?_
  rintro e w' ⟨rfl, h⟩
  exact ⟨by rw [hq], .inl ⟨hq, h⟩⟩
theorem St.copyS (H : St w W B s m x now va wa nv nw A V rows FP bd) (hb : bd ≤ 1000000) {a : BA} (ha : a ∈ NM7) :
  Calls Tryz.prog 14 #[ptr s, .string a, .string a, .int .i64 now] w fun e w' => e = .returned (.tuple #[.bool false, .int .i64 0]) ∧ Bo w w' B s x NM7 A V now := by
 have hq : cpq A now a a = false := by unfold cpq; cases (dueA A now a).isSome <;> rfl
 have h := H.copyP hb ha ha
 rw [hq] at h
 refine h.mono ?_
 rintro e w' ⟨rfl, h⟩
 rcases h with ⟨-, h⟩ | ⟨h, -⟩
 ·exact ⟨rfl, h⟩
 ·rw [hq] at h; cases h
theorem St.copyM (H : St w W B s m x now va wa nv nw A V rows FP bd) (hb : bd ≤ 1000000) (a b : BA) (hm : Mb stag B w w1) :
  Calls Tryz.prog 59 #[ptr m, .string a, .string b, .int .i64 now] w1 fun e w' => e = .returned (.bool (cpq A now a b)) ∧ Mb mtag B w1 w' ∧ CopM w1 w' B m (dueR now rows) a b e := by
 obtain ⟨h1, h2, h3, h4⟩ := H.low hb
 refine (CopyM_any w1 B m rows a b now (H.mr.st hm).md h3 (by omega) (fun r hr => ?_)).mono ?_
 ·have := (H.mr.ok.due now r hr).ln; omega
 ·intro e w' h
  have hc := h
  obtain ⟨rfl, pa, pc, la, lc, hT⟩ := h
  rw [H.there, H.there] at *
  exact ⟨rfl, hT.mb, hc⟩
theorem St.copyE (H : St w W B s m x now va wa nv nw A V rows FP bd) (h0 : 0 ≤ bd) {a b : BA} (hb : b ∈ NM7) {e : Ending} (h1 : PC w w1 B s x now A V rows a b) (h2 : CopM w1 w2 B m (dueR now rows) a b e) : DoT w w2 W B s m x now va wa nv nw (vN A V now) (uN rows now) (bd + 2) := by
 obtain ⟨-, pa, pc, la, lc, hT⟩ := h2
 have hq : (Bc (dueR now rows) a && !Bc (dueR now rows) b) = cpq A now a b := by rw [H.there, H.there]; rfl
 rw [hq] at hT
 rcases h1 with ⟨e1, h1⟩ | ⟨e1, p, F, d, u, g1, g2, g3, g4⟩
 ·rw [e1, if_neg (by decide)] at hT
  exact (H.still h1 hT).mono (by omega)
 ·rw [e1, if_pos rfl] at hT
  exact H.copy h0 hb g1 g2 g3 g4 hT
end
section
variable {w w1 w2 w3 : World} {W B s m x : Nat} {now : Int} {va wa : Nat} {nv nw : List Int} {A : Ab} {V : BA → Int} {rows : List Kr} {bd c : Int} {FP : BA → List Nat}
theorem Al.lst (H : Al w W B s m x now va wa nv nw A V rows FP) (S : Stl now A V rows bd) {k : BA} {i : Nat} {r : Kr} (hr : rows[i]? = some r) (hk : r.nm = k) (hth : r.th = true) (hkd : r.kd = 4) :
  ∃ p l most q, A k = some (some ⟨p, 0, none⟩, if r.en then some r.at' else none) ∧ B ≤ p ∧ VB w p 4 ⟨#[]⟩ (.pointer none) (.pointer none) (ptr l) ∧ QV w B l most r.ls q (FP k) ∧ r.ls.length ≤ 100 ∧ 0 < r.ln ∧ r.ln ≤ 100 := by
 have h0 := (mA_pop H.md.nod hr hk hth hkd none).1
 have hrm := List.mem_of_getElem? hr
 obtain ⟨p, h1, h2⟩ := H.vals.yes k _ _ h0
 obtain ⟨l, mo, q, k1, k2⟩ := h2.ex
 have hl := (H.md.lst r hrm).len
 have ho := S.ok r hrm
 refine ⟨p, l, mo, q, h1, h2.low, k1, k2, by rw [hl]; exact ho.ln, ?_, ho.ln⟩
 rcases ho.ok hth with h | h
 ·rw [hkd] at h; cases h
 ·exact h.2
theorem Al.txt (H : Al w W B s m x now va wa nv nw A V rows FP) {k : BA} {i : Nat} {r : Kr} (hr : rows[i]? = some r) (hk : r.nm = k) (hth : r.th = true) (hkd : r.kd = 1) : ∃ p u, A k = some (some ⟨p, 0, none⟩, u) ∧ Vt w p r.tx := by
 have hf : fndR rows k = some r := by rw [← hk]; exact fnd_of H.md.nod (List.mem_of_getElem? hr)
 have h0 : mA rows k = some (.txt r.tx, if r.en then some r.at' else none) := by
  rw [mA_at, hf]
  show abK r = _
  unfold abK
  rw [hth, if_pos rfl, show dvK r = .txt r.tx from if_pos hkd]
 obtain ⟨p, h1, h2⟩ := H.vals.yes k _ _ h0
 exact ⟨p, _, h1, h2.1⟩
theorem Al.off (H : Al w W B s m x now va wa nv nw A V rows FP) {k : BA} (h : ∀ r ∈ rows, r.nm = k → r.th = false) : A k = none := by
 have h1 := there_eq H.md.nod k
 rw [Ct h, ← H.vals.some_iff k] at h1
 exact not_some (by rw [← h1]; decide)
theorem touch_pop {M : AbV Dv} (hS : Spc w B s x NM7 A V) (S : Stl now A V rows bd) (hv : Vals w B A M FP) {k : BA} (hk : k ∈ NM7) {ls : List BA} {u : Option Int} (hM : M k = some (.lst ls, u)) :
  Calls Tryz.prog 32 #[ptr s, .string k, .int .i64 now] w fun e w' => e = .returned (.tuple #[]) ∧ TouchTo w w' B s x NM7 (dueA A now) (dueV A V now) k (decide (ls.length = 0)) := by
 refine Touch_any w B s x NM7 A V hS S.low now k hk (by have := nm7_sz hk; omega) _ (fun w1 v u' hm h => ?_)
 rw [S.st.due] at h
 obtain ⟨p, k1, k2⟩ := (hv.st hm).yes k _ _ hM
 rw [h] at k1
 injection k1 with k1
 injection k1 with k1 _
 subst k1
 exact Empty_l w1 B p ls _ k2
structure Pth (w : World) (W m g n c i : Nat) (b off ln lc : Nat) : Prop where
 w1 : w.cell? ⟨W, 1, none⟩ = some (ptr m)
 m0 : w.cell? ⟨m, 0, none⟩ = some (.slice (some ⟨g, 0, none⟩) n c)
 g5 : w.cell? ⟨g, i * 9 + 5, none⟩ = some (.slice (some ⟨b, off, none⟩) ln lc)
 fz : w.frozen? ⟨g, i * 9 + 5, none⟩ = false
theorem Pth.mk' (hl : Lw w W s m now va wa nv nw) (hd : Md w B m rows) {i : Nat} {r : Kr} (hr : rows[i]? = some r) (hn : 0 < r.ln) : ∃ g c b off, r.la = some ⟨b, off, none⟩ ∧ Pth w W m g rows.length c i b off r.ln r.lc ∧ RdL w (some ⟨b, off, none⟩) r.ln r.lc r.ls := by
 obtain ⟨g, c, h1, h2, h3⟩ := hd.fx hr
 have h4 := hd.lst r (List.mem_of_getElem? hr)
 obtain ⟨b, off, cs, h5, -⟩ := h4.cell 0 hn
 have h6 := h2.c5
 rw [h5] at h6 h4
 exact ⟨g, c, b, off, h5, ⟨hl.c3.2.1, h1, h6, h3 _⟩, h4⟩
def adv (b off lc : Nat) : Option Addr := if lc = 1 then some ⟨b, off, none⟩ else some ⟨b, off + 1, none⟩
theorem RdL.adv {w : World} {b off n c : Nat} {ls : List BA} (h : RdL w (some ⟨b, off, none⟩) n c ls) (hn : 0 < n) : RdL w (adv b off c) (n - 1) (c - 1) ls.tail := by
 have ht := h.tail hn
 unfold Sq.adv
 split
 ·refine ⟨ht.len, ht.fit, ht.max, (fun e => by cases e), fun i hi => ?_⟩
  have := h.fit
  omega
 ·exact ht
theorem Pth.out (hd : Md w B m rows) {i : Nat} {r : Kr} (hr : rows[i]? = some r) {g n c b off : Nat} (hla : r.la = some ⟨b, off, none⟩) (hn : 0 < r.ln) (hp : Pth w W m g n c i b off r.ln r.lc) (hnl : rows.length = n) (hv : 0 ≤ r.ver ∧ r.ver < 4611686018427387904) {w' : World} (hw : w' = w.setCell ⟨g, i * 9 + 5, none⟩ (.slice (adv b off r.lc) (r.ln - 1) (r.lc - 1))) :
  Md w' B m (rows.set i (popK r (adv b off r.lc))) ∧ Mb mtag B w w' := by
 subst hnl
 have hl := hd.lst r (List.mem_of_getElem? hr)
 rw [hla] at hl
 obtain ⟨h1, h2, -⟩ := hd.cell1 (j := 5) (r' := popK r (adv b off r.lc)) hr hp.m0 rfl (RdL.adv hl hn) hv (by decide) rfl hw
 exact ⟨h1, h2⟩
end
theorem bkt_rev {x g c : Nat} {ks : List BA} {k : BA} (h : k ∈ Dk.bkt x g ks c) : k ∈ ks ∧ Dk.rev g (Dk.hsh x k) = Dk.rev g c := by
 obtain ⟨h1, h2⟩ := List.mem_filter.1 h
 refine ⟨h1, ?_⟩
 rw [← Dk.rev_mod g (Dk.hsh x k), of_decide_eq_true h2, Dk.rev_mod]
theorem scan_facts {x g cnt : Nat} {ks : List BA} (hn : ks.Nodup) : ∀ (n : Nat) (acc : List BA) (c : Nat), acc.Nodup → (∀ k ∈ acc, k ∈ ks) → (∀ k ∈ acc, Dk.rev g (Dk.hsh x k) < Dk.rev g c) →
  (Dk.scanP x g ks cnt n acc c).1.Nodup ∧ ∀ k ∈ (Dk.scanP x g ks cnt n acc c).1, k ∈ ks
 | 0, acc, c, h1, h2, _ => ⟨h1, h2⟩
 | n + 1, acc, c, h1, h2, h3 => by
  have hb : (acc ++ Dk.bkt x g ks c).Nodup := by
   rw [List.nodup_append]
   refine ⟨h1, hn.filter _, fun a ha b hb e => ?_⟩
   have := h3 a ha
   have := (bkt_rev hb).2
   rw [← e] at this
   omega
  have hm : ∀ k ∈ acc ++ Dk.bkt x g ks c, k ∈ ks := fun k hk => by
   rcases List.mem_append.1 hk with h | h
   ·exact h2 k h
   ·exact (bkt_rev h).1
  unfold Dk.scanP
  split
  ·exact ⟨hb, hm⟩
  ·rename_i hc
   obtain ⟨e1, -⟩ := Dk.nxt_step (d := g) (c := c) (fun h => hc (.inl h))
   refine scan_facts hn n _ _ hb hm (fun k hk => ?_)
   rw [e1]
   rcases List.mem_append.1 hk with h | h
   ·have := h3 k h; omega
   ·have := (bkt_rev h).2; omega
theorem cnt_one : ∀ {ls : List BA} {s : BA}, ls.Nodup → s ∈ ls → Dk.cnt ls s = 1
 | [], _, _, h => by cases h
 | t :: ls, s, hn, h => by
  rw [List.nodup_cons] at hn
  by_cases e : t = s
  ·subst e
   have h0 := Dk.cnt_zero.2 hn.1
   unfold Dk.cnt at h0 ⊢
   rw [List.filter_cons_of_pos (by simp), List.length_cons, h0]
  ·have h1 := cnt_one hn.2 (by rcases List.mem_cons.1 h with h | h; exact absurd h.symm e; exact h)
   unfold Dk.cnt at h1 ⊢
   rw [List.filter_cons_of_neg (by simpa using e), h1]
def ScanL (w w' : World) (names : List BA) (e : Ending) : Prop := ∃ a n cp ls, ∃ z : Int, e = .returned (.tuple #[.slice a n cp, .int .u64 z]) ∧ OwnS w' w.heap.size a n cp ls ∧ n ≤ 1000 ∧ ∀ k ∈ ls, k ∈ names ∧ Dk.cnt ls k = 1
theorem ScanR.facts {w w' : World} {x c : Nat} {A : Ab} {count : Int} {e : Ending} {names : List BA} (h : ScanR w w' x A c count e) (hp : ∀ ks, Dom A ks → ks.Perm names) : ScanL w w' names e := by
 obtain ⟨a, n, cp, g, ks, h1, h2, h3, h4⟩ := h
 obtain ⟨f1, f2⟩ := scan_facts (x := x) (g := g) (cnt := Dk.cntC count) h3.nod (10 * Dk.cntC count) [] c List.nodup_nil (fun _ h => by cases h) (fun _ h => by cases h)
 refine ⟨a, n, cp, _, _, h1, h2, ?_, fun k hk => ⟨(hp ks h3).mem_iff.1 (f2 k hk), cnt_one f1 hk⟩⟩
 have hl := Dk.OwnS.len h2
 have := len_subB f1 f2
 omega
theorem RdL.rds {w : World} {a : Option Addr} {n c : Nat} {ls : List BA} (h : RdL w a n c ls) : RdS w a n ls :=
 ⟨h.len, Nat.le_trans h.fit h.max, fun j hj => by
  obtain ⟨b, off, cs, e, h1, h2⟩ := h.cell j hj
  refine ⟨b, off, e, ?_⟩
  simp only [World.cell?, h1]
  exact h2⟩
theorem neqQ_nil (w : World) (l : Nat) : (binOp .neq 72 (ptr l) (.pointer none)).run Tryz.prog w = .ok (.bool true) w := by
 rw [run_neq_pointer_nil w 72 (some ⟨l, 0, none⟩) (by rw [Tryz.underlying72]; kernel_rfl)]; rfl
theorem has_txt (w : World) (v : Nat) (t : BA) (pa : Option Addr) (pc : Nat) (la : Option Addr) (ln lc : Nat) (h : Vt w v t) : Calls Tryz.prog 69 #[ptr v, vagg 1 t pa pc la ln lc] w fun e w' => e = .returned (.bool true) ∧ Below w.heap.size w w' := by
 have hb : Below w.heap.size w (w.alloc (.cells #[.int .i64 1, .string t, .slice pa 0 pc, .slice la ln lc] 107)) := Ac w _
 obtain ⟨wa, HWA⟩ : ∃ wa, Hid (w.alloc (.cells #[.int .i64 1, .string t, .slice pa 0 pc, .slice la ln lc] 107) = wa) := ⟨_, rfl⟩
 have hn := heap_alloc_new w (.cells #[.int .i64 1, .string t, .slice pa 0 pc, .slice la ln lc] 107)
 rw [HWA.out] at hb hn
 have HB : Hid (Below w.heap.size w wa) := hb
 have h2 := h.keep hb
 have c0 := h2.ck
 have c1 := h2.ct
 have d0 : wa.cell? ⟨w.heap.size, 0, none⟩ = some (.int .i64 1) := by simp [World.cell?, hn]
 have d1 : wa.cell? ⟨w.heap.size, 1, none⟩ = some (.string t) := by simp [World.cell?, hn]
 have hvn := eqlV_nil wa v
 have htt := str_yes (rfl : t = t)
 obtain ⟨sz, hsz⟩ : ∃ sz, w.heap.size = sz := ⟨_, rfl⟩
 have HSz : Hid (w.heap.size = sz) := hsz
 rw [hsz] at d0 d1
 clear hb hn h h2
 go_enter Tryz.func69, Tryz.ntmps69
 go_upto_region 1 with fail
 rw [HWA.out]
 go_quiet (fail)
 have HB1 : Hid (Below w.heap.size w (wa.drewN nq)) := Ad HB (Aa wa nq)
 have f0 : (wa.drewN nq).cell? ⟨v, 0, none⟩ = some (.int .i64 1) := c0
 have f1 : (wa.drewN nq).cell? ⟨v, 1, none⟩ = some (.string t) := c1
 have g1 : (wa.drewN nq).cell? ⟨sz, 1, none⟩ = some (.string t) := d1
 generalize wa.drewN nq = wb at *
 clear c0 c1 d0 d1 hvn
 go_upto_region 4 with fail
 go_quiet (fail)
 have HB2 := Ad HB1 (Aa wb nq)
 go_wp2
 go_ret
 exact ⟨rfl, HB2.out⟩
theorem has_lst (w : World) (B v : Nat) (ls : List BA) (F : List Nat) (tx : BA) (pa : Option Addr) (pc : Nat) (la : Option Addr) (ln lc : Nat) (h : Vl w B v ls F) (hl : RdL w la ln lc ls) (hn : ls.length ≤ 1000000) : Calls Tryz.prog 69 #[ptr v, vagg 4 tx pa pc la ln lc] w fun e w' => e = .returned (.bool true) ∧ Below w.heap.size w w' := by
 have hb : Below w.heap.size w (w.alloc (.cells #[.int .i64 4, .string tx, .slice pa 0 pc, .slice la ln lc] 107)) := Ac w _
 obtain ⟨wa, HWA⟩ : ∃ wa, Hid (w.alloc (.cells #[.int .i64 4, .string tx, .slice pa 0 pc, .slice la ln lc] 107) = wa) := ⟨_, rfl⟩
 have hnw := heap_alloc_new w (.cells #[.int .i64 4, .string tx, .slice pa 0 pc, .slice la ln lc] 107)
 rw [HWA.out] at hb hnw
 have HB : Hid (Below w.heap.size w wa) := hb
 obtain ⟨m, most, q, k1, k2⟩ := (h.keep hb).ex
 have c0 : wa.cell? ⟨v, 0, none⟩ = some (.int .i64 4) := k1.ck
 have c4 := k1.cl
 have HL : Hid (RdL wa la ln lc ls) := hl.keep hb
 have HVb : Hid (VB wa v 4 ⟨#[]⟩ (.pointer none) (.pointer none) (ptr m)) := k1
 have HQv : Hid (QV wa B m most ls q F) := k2
 have d0 : wa.cell? ⟨w.heap.size, 0, none⟩ = some (.int .i64 4) := by simp [World.cell?, hnw]
 have HN : Hid (wa.heap[w.heap.size]? = some (.cells #[.int .i64 4, .string tx, .slice pa 0 pc, .slice la ln lc] 107 (0, 0))) := hnw
 have hvn := eqlV_nil wa v
 obtain ⟨sz, hsz⟩ : ∃ sz, w.heap.size = sz := ⟨_, rfl⟩
 have HSz : Hid (w.heap.size = sz) := hsz
 rw [hsz] at d0 HN
 clear hb hnw h k1 k2 hl
 go_enter Tryz.func69, Tryz.ntmps69
 go_upto_region 1 with fail
 rw [HWA.out]
 go_quiet (fail)
 have HB1 : Hid (Below w.heap.size w (wa.drewN nq)) := Ad HB (Aa wa nq)
 have f0 : (wa.drewN nq).cell? ⟨v, 0, none⟩ = some (.int .i64 4) := c0
 have HL1 : Hid (RdL (wa.drewN nq) la ln lc ls) := HL.out.keep (Aa wa nq)
 have HV1 : Hid (VB (wa.drewN nq) v 4 ⟨#[]⟩ (.pointer none) (.pointer none) (ptr m)) := HVb.out.keep (Aa wa nq)
 have HQ1 : Hid (QV (wa.drewN nq) B m most ls q F) := HQv.out.keep (Aa wa nq)
 have HN1 : Hid ((wa.drewN nq).heap[sz]? = some (.cells #[.int .i64 4, .string tx, .slice pa 0 pc, .slice la ln lc] 107 (0, 0))) := HN.out
 generalize wa.drewN nq = wb at *
 clear c0 c4 d0 hvn HWA HSz HVb HQv HN HL HB
 have HC : Hid (∀ wx, Below wb.heap.size wb wx → wx.cell? ⟨v, 4, none⟩ = some (ptr m) ∧ wx.cell? ⟨sz, 3, none⟩ = some (.slice la ln lc)) := fun wx hb => ⟨(HV1.out.keep hb).cl, by
  have h : wx.heap[sz]? = some (.cells #[.int .i64 4, .string tx, .slice pa 0 pc, .slice la ln lc] 107 (0, 0)) := by rw [hb.block sz (Array.getElem?_eq_some_iff.1 HN1.out).1]; exact HN1.out
  simp [World.cell?, h]⟩
 have HBd : Hid (Below wb.heap.size wb wb.drew) := Aa wb 1
 obtain ⟨c4, d3⟩ := HC.out _ HBd.out
 have HA := VAll wb.drew B m most q ls F (HQ1.out.keep HBd.out) hn
 have hqn := fun wx => neqQ_nil wx m
 go_upto_region 5 with fail
 go_region_held3 (fun w' => w'.cell? ⟨v, 4, none⟩ = some (ptr m) ∧ w'.cell? ⟨sz, 3, none⟩ = some (.slice la ln lc)) (first | with_reducible exact HC.out _ HB4.out | with_reducible exact HC.out _ HB3.out | with_reducible exact HC.out _ HBd.out) (first
  | (go_at_call 107; refine HA.mono ?_; rintro e w3 ⟨hb3, a2, n2, c2, rfl, hO⟩; have HB3 := Ad HBd hb3; have HLi := Lists_of w3 a2 la n2 c2 ln lc ls (rdl_of_own hO).rds (HL1.out.keep HB3.out).rds; clear hb3 hO)
  | (go_at_call 106; refine HLi.mono ?_; rintro e w4 ⟨hb4, rfl⟩; have HB4 := Ad HB3 hb4; clear hb4))
 have HE : Hid (Below w.heap.size w w4) := Ad HB1 HB4.out
 go_wp2
 go_ret
 exact ⟨rfl, HE.out⟩
abbrev z7 : List Int := List.replicate 7 0
theorem Tryz.infoU7 : (Tryz.prog.info? 27).map (fun i => (i.zero, i.size, i.bytes)) = some (some (.int .u64 0), 1, 8) := by kernel_rfl
theorem make7 (w : World) : (Instr.makeSlice 51 (.int .i64 7) (.int .i64 7)).run Tryz.prog w = .ok (.slice (some ⟨w.heap.size, 0, none⟩) 7 7) (w.alloc (.cells (z7.map (Value.int .u64)).toArray 27)) := by
 obtain ⟨i, h1, h2, h3, h4⟩ := info_parts Tryz.infoU7
 have := run_make (P := Tryz.prog) w 51 27 i (.int .u64 0) Tryz.underlying51 h1 h2 .i64 .i64 7 7 (by omega) (Int.le_refl _) (by rw [h4]; decide) (by decide)
 rw [h3, show madeCells (Value.int .u64 0).cells (Int.toNat 7 * 1) = (z7.map (Value.int .u64)).toArray by kernel_rfl] at this
 exact this
def FrS (w w' : World) (x : Nat) (e : Ending) : Prop := Below w.heap.size w w' ∧ ∃ B W s m va wa, w.heap.size ≤ B ∧ e = .returned (ptr W) ∧ (B ≤ W ∧ B ≤ va ∧ B ≤ wa) ∧ St w' W B s m x 0 va wa z7 z7 (fun _ => none) (fun _ => 0) [] (fun _ => []) 0
theorem size_alloc (w : World) (o : Obj) : (w.alloc o).heap.size = w.heap.size + 1 := Array.size_push ..
theorem four {w w' : World} {c0 c1 c2 c3 : Array Value} {t0 t1 t2 t3 : TypeId} (h : w' = (((w.alloc (.cells c0 t0)).alloc (.cells c1 t1)).alloc (.cells c2 t2)).alloc (.cells c3 t3)) : Below w.heap.size w w' ∧ w'.heap[w.heap.size]? = some (.cells c0 t0 (0, 0)) ∧ w'.heap[w.heap.size + 1]? = some (.cells c1 t1 (0, 0)) ∧ w'.heap[w.heap.size + 1 + 1]? = some (.cells c2 t2 (0, 0)) ∧ w'.heap[w.heap.size + 1 + 1 + 1]? = some (.cells c3 t3 (0, 0)) := by
 subst h
 have b1 := Ac w (.cells c0 t0)
 have b2 := Ac (w.alloc (.cells c0 t0)) (.cells c1 t1)
 have b3 := Ac ((w.alloc (.cells c0 t0)).alloc (.cells c1 t1)) (.cells c2 t2)
 have b4 := Ac (((w.alloc (.cells c0 t0)).alloc (.cells c1 t1)).alloc (.cells c2 t2)) (.cells c3 t3)
 have n0 := heap_alloc_new w (.cells c0 t0)
 have n1 := heap_alloc_new (w.alloc (.cells c0 t0)) (.cells c1 t1)
 have n2 := heap_alloc_new ((w.alloc (.cells c0 t0)).alloc (.cells c1 t1)) (.cells c2 t2)
 have n3 := heap_alloc_new (((w.alloc (.cells c0 t0)).alloc (.cells c1 t1)).alloc (.cells c2 t2)) (.cells c3 t3)
 simp only [size_alloc] at b2 b3 b4 n1 n2 n3
 refine ⟨((b1.trans (b2.mono (by omega))).trans (b3.mono (by omega))).trans (b4.mono (by omega)), ?_, ?_, ?_, n3⟩
 ·rw [b4.block _ (by omega), b3.block _ (by omega), b2.block _ (by omega)]; exact n0
 ·rw [b4.block _ (by omega), b3.block _ (by omega)]; exact n1
 ·rw [b4.block _ (by omega)]; exact n2
theorem fresh_end {w w0 w1 w' : World} {x s W m va wa : Nat} (hb0 : Below w.heap.size w w0) (hb1 : Below w0.heap.size w0 w1) (hS : ∀ NM, Names NM → Spc w1 w0.heap.size s x NM (fun _ => none) (fun _ => 0)) (hb : Below w1.heap.size w1 w') (hm : w1.heap.size ≤ m) (h3 : w1.heap.size ≤ W) (h4 : w1.heap.size ≤ va) (h5 : w1.heap.size ≤ wa)
  (hW : w'.heap[W]? = some (.cells #[ptr s, ptr m, .int .i64 0, .slice (some ⟨va, 0, none⟩) 7 7, .slice (some ⟨wa, 0, none⟩) 7 7] 53 (0, 0)))
  (hM : w'.heap[m]? = some (.cells #[.slice none 0 0] 104 (0, 0))) (hv : w'.heap[va]? = some (.cells (z7.map (Value.int .u64)).toArray 27 (0, 0))) (hw : w'.heap[wa]? = some (.cells (z7.map (Value.int .u64)).toArray 27 (0, 0))) (hne : va ≠ wa) : FrS w w' x (.returned (ptr W)) := by
 have h01 := hb1.size
 refine ⟨(hb0.trans (hb1.mono hb0.size)).trans (hb.mono (Nat.le_trans hb0.size hb1.size)), w0.heap.size, W, s, m, va, wa, hb0.size, rfl, ⟨by omega, by omega, by omega⟩, ⟨⟨⟨hW, hv, hw, rfl, rfl, hne⟩, (hS NM7 nm7_names).keep hb, Vle.zero⟩, ⟨⟨⟨none, 0, hM, OwnR.nil _ _ _ _⟩, (fun r h => by cases h), List.nodup_nil, Nat.zero_le _, (fun r h => by cases h), by omega⟩, fun r h => by cases h⟩, ?_, Int.le_refl _, Int.le_refl _⟩⟩
 exact Vals.none _ _
set_option maxRecDepth 100000 in
theorem fresh_any (w : World) (x : Nat) (E T : Int) (hx : x < 18446744073709551616) :
  Calls Tryz.prog 20 #[.agg #[.int .u64 (x : Nat), .int .i64 E, .int .i64 T]] w fun e w' => FrS w w' x e := by
 have hb0 : Below w.heap.size w (w.alloc (.cells #[.int .u64 (x : Nat), .int .i64 E, .int .i64 T] 31)) := Ac w _
 obtain ⟨w0, hw0⟩ : ∃ w0, w.alloc (.cells #[.int .u64 (x : Nat), .int .i64 E, .int .i64 T] 31) = w0 := ⟨_, rfl⟩
 rw [hw0] at hb0
 have HW0 : Hid (w.alloc (.cells #[.int .u64 (x : Nat), .int .i64 E, .int .i64 T] 31) = w0) := hw0
 have HB0 : Hid (Below w.heap.size w w0) := hb0
 have HN := New_any w0 x E T hx
 clear hb0 hw0
 go_enter Tryz.func20, Tryz.ntmps20
 go_wp2_with fail
 rw [HW0.out]
 refine HN.mono ?_
 rintro e w1 ⟨hb, s, rfl, -, hS⟩
 have HB : Hid (Below w0.heap.size w0 w1) := hb
 have HS : Hid (∀ NM, Names NM → Spc w1 w0.heap.size s x NM (fun _ => none) (fun _ => 0)) := hS
 have hsn := eqlS_nil w1 s
 have HMk := make7
 clear HN hb hS
 go_upto_region 4 with fail
 go_region
 all_goals
  go_wp2
  go_ret
  obtain ⟨hb, a0, a1, a2, a3⟩ := four (w := w1.drew) rfl
  replace hb := (Aa w1 1).trans hb
  first
   | exact fresh_end HB0.out HB.out HS.out hb (Nat.le_refl _) (by omega) (by omega) (by omega) a3 a0 a1 a2 (by omega)
   | exact fresh_end HB0.out HB.out HS.out hb (Nat.le_refl _) (by omega) (by omega) (by omega) a3 a0 a2 a1 (by omega)
   | exact fresh_end HB0.out HB.out HS.out hb (by omega) (by omega) (by omega) (by omega) a3 a1 a0 a2 (by omega)
   | exact fresh_end HB0.out HB.out HS.out hb (by omega) (by omega) (by omega) (by omega) a3 a1 a2 a0 (by omega)
   | exact fresh_end HB0.out HB.out HS.out hb (by omega) (by omega) (by omega) (by omega) a3 a2 a0 a1 (by omega)
   | exact fresh_end HB0.out HB.out HS.out hb (by omega) (by omega) (by omega) (by omega) a3 a2 a1 a0 (by omega)
   | trace_state
end Go.Proofs.YtmjeljldmmkcpaaGreat.Sq
namespace Go.Proofs.YtmjeljldmmkcpaaGreat.Sq
open Go.RowKit Go.PlainAid
theorem beq_no {a b : Int} (h : a ≠ b) : (a == b) = false := by simpa using h
def AtZ (rows : List Kr) (k : BA) (z : Int) : Prop := (∃ (i : Nat) (r : Kr), z = (i : Nat) ∧ rows[i]? = some r ∧ r.nm = k ∧ r.th = true) ∨ z = -1 ∧ ∀ r ∈ rows, r.nm = k → r.th = false
theorem AtR.int {rows : List Kr} {k : BA} {e : Ending} (h : AtR rows k e) : ∃ z : Int, e = .returned (.int .i64 z) ∧ AtZ rows k z := by
 rcases h with ⟨i, r, rfl, h⟩ | ⟨rfl, h⟩
 ·exact ⟨_, rfl, .inl ⟨i, r, rfl, h⟩⟩
 ·exact ⟨_, rfl, .inr ⟨rfl, h⟩⟩
theorem Stl.popM {now : Int} {A : Ab} {V : BA → Int} {rows : List Kr} {bd : Int} (S : Stl now A V rows bd) {i : Nat} {r : Kr} (hr : rows[i]? = some r) (hkd : r.kd = 4) (la : Option Addr) : LowM (rows.set i (popK r la)) ∧ ∀ q ∈ dueR now (rows.set i (popK r la)), q.ok := by
 have hm := List.mem_of_getElem? hr
 refine ⟨fun q hq => ?_, fun q hq ht => ?_⟩
 ·rcases List.mem_or_eq_of_mem_set hq with h | rfl
  ·exact S.lowM q h
  ·exact S.lowM r hm
 ·rw [due_pop S.du hr la] at hq
  rcases List.mem_or_eq_of_mem_set hq with h | rfl
  ·have := S.ok q h
   exact (this.ok ht).imp_right fun h => ⟨h.1, by have := this.ln; omega⟩
  ·exact .inr ⟨hkd, by show r.ln - 1 ≤ 1000; have := (S.ok r hm).ln; omega⟩
end Go.Proofs.YtmjeljldmmkcpaaGreat.Sq
namespace Go.Proofs.YtmjeljldmmkcpaaGreat.Sq
open Go.RowKit Go.PlainAid
open Dk (ptr Aa Ac Ad Af OwnR OwnP OwnS Mv)
theorem eqlQ_nil (w : World) (l : Nat) : (binOp .eql 72 (ptr l) (.pointer none)).run Tryz.prog w = .ok (.bool false) w := by
 rw [run_eql_pointer_nil w 72 (some ⟨l, 0, none⟩) (by rw [Tryz.underlying72]; kernel_rfl)]; rfl
theorem MTo.keep {w w1 w2 : World} {B m : Nat} {rows : List Kr} (h : MTo w w1 B m rows) (hb : Below w1.heap.size w1 w2) : MTo w w2 B m rows := ⟨h.mb.trans (Mb.of_below hb h.md.lt), h.md.keep hb⟩
theorem grown_mv {w w2 : World} {B : Nat} {a : Option Addr} {n c : Nat} {ls : List BA} (h : OwnS w B a n c ls) (hg : w.grownBy w2 (a.map (·.block))) : Mv (fun t => t == 9) w w2 :=
 ⟨hg.os, hg.tape, hg.output, hg.size, fun k cs t hk ht => hg.block k (Array.getElem?_eq_some_iff.1 hk).1 (fun e => by
  obtain ⟨-, -, cur, h4⟩ := OwnR.lt h e.symm
  rw [hk] at h4
  injection h4 with h4
  injection h4 with _ h4 _
  subst h4
  cases ht)⟩
structure Bld (w2 w : World) (v M : Nat) (ts : List BA) (F : List Nat) (la : Option Addr) (n c : Nat) (rs : List BA) : Prop where
 be : Below w2.heap.size w2 w
 vl : Vl w w2.heap.size v ts F
 mb : w.heap[M]? = some (.cells #[.int .i64 4, .string ⟨#[]⟩, .slice none 0 0, .slice la n c] 107 (0, 0))
 ow : OwnS w w2.heap.size la n c rs
 lm : w2.heap.size ≤ M
section
variable {w2 w w' : World} {v M : Nat} {ts rs : List BA} {F : List Nat} {la : Option Addr} {n c : Nat}
theorem Bld.keep (H : Bld w2 w v M ts F la n c rs) (hb : Below w.heap.size w w') : Bld w2 w' v M ts F la n c rs :=
 ⟨H.be.trans (hb.mono H.be.size), H.vl.keep hb, by rw [hb.block M (Array.getElem?_eq_some_iff.1 H.mb).1]; exact H.mb, OwnR.keep H.ow hb, H.lm⟩
theorem Bld.right (H : Bld w2 w v M ts F la n c rs) {l most q : Nat} (k1 : VB w v 4 ⟨#[]⟩ (.pointer none) (.pointer none) (ptr l)) (k2 : QV w w2.heap.size l most ts q F) {ts' : List BA} (hd : VDoes w w2.heap.size l most ts' F w') : ∃ F', Bld w2 w' v M ts' F' la n c rs := by
 have hbe := VDoes.below k2 hd
 obtain ⟨q', F', h1, h2⟩ := hd
 have hmv := stay_mv k2 h2.stay
 exact ⟨F', H.be.trans hbe, ⟨⟨l, most, q', k1.kept (hmv.block v _ _ k1.blk (by decide)), h1⟩, H.vl.low⟩, by rw [hmv.block M _ _ H.mb (by decide)]; exact H.mb, OwnR.kept H.ow (fun k hk => by
  obtain ⟨-, -, cur, h4⟩ := OwnR.lt H.ow hk
  exact hmv.block k _ _ h4 (by decide)), H.lm⟩
theorem Bld.app (H : Bld w2 w v M ts F la n c rs) (hg : w.grownBy w' (la.map (·.block))) {la2 : Option Addr} {n2 c2 : Nat} {rs2 : List BA} (ho : OwnS w' w2.heap.size la2 n2 c2 rs2) {w3 : World} (hw : w3 = w'.setCell ⟨M, 3, none⟩ (.slice la2 n2 c2)) : Bld w2 w3 v M ts F la2 n2 c2 rs2 := by
 have hmv := grown_mv H.ow hg
 have hbe := OwnR.below H.ow hg H.be.size
 have hM : w'.heap[M]? = some (.cells #[.int .i64 4, .string ⟨#[]⟩, .slice none 0 0, .slice la n c] 107 (0, 0)) := by rw [hmv.block M _ _ H.mb (by decide)]; exact H.mb
 have hvl : Vl w' w2.heap.size v ts F := H.vl.mv hmv (off_eq (by decide)) (by decide)
 have hm3 : Mb (fun t => t == 107) w2.heap.size w' w3 := by rw [hw]; exact Mb.set hM (by decide) H.lm
 refine ⟨(H.be.trans hbe).trans hm3.be, hvl.mv hm3.mv (off_eq (by decide)) (by decide), by rw [hw, Ak hM]; rfl, OwnR.kept ho (fun k hk => ?_), H.lm⟩
 obtain ⟨-, -, cur, h4⟩ := OwnR.lt ho hk
 exact hm3.mv.block k _ _ h4 (by decide)
theorem Bld.far (H : Bld w2 w v M ts F la n c rs) (a : BA) : RdF (w.alloc (.cells #[.string a] 9)) (some ⟨w.heap.size, 0, none⟩) 1 [a] F :=
 ⟨RdS.box w a, fun y hy => by
  cases hy
  refine ⟨fun hm => ?_, by show w.heap.size < _; have := (Array.getElem?_eq_some_iff.1 (heap_alloc_new w (.cells #[.string a] 9))).1; exact this⟩
  have := (H.vl.fp _ hm).2
  exact Nat.lt_irrefl _ this⟩
theorem Bld.cells (H : Bld w2 w v M ts F la n c rs) : w.cell? ⟨M, 0, none⟩ = some (.int .i64 4) ∧ w.cell? ⟨M, 1, none⟩ = some (.string ⟨#[]⟩) ∧ w.cell? ⟨M, 2, none⟩ = some (.slice none 0 0) ∧ w.cell? ⟨M, 3, none⟩ = some (.slice la n c) := by
 refine ⟨?_, ?_, ?_, ?_⟩ <;> simp [World.cell?, H.mb]
end
theorem St.putL {w2 wr : World} {W B s m x : Nat} {now : Int} {va wa : Nat} {nv nw : List Int} {A : Ab} {V : BA → Int} {rows : List Kr} {bd : Int} {FP : BA → List Nat} (H : St w2 W B s m x now va wa nv nw A V rows FP bd) (hb : bd ≤ 1000000) {a : BA} (ha : a ∈ NM7) {v M z c : Nat} {F : List Nat} {la : Option Addr} (HB : Bld w2 wr v M (List.replicate z a) F la z c (List.replicate z a)) (hz : z ≤ 3) :
  Calls Tryz.prog 52 #[ptr m, .string a, vagg 4 ⟨#[]⟩ none 0 la z c, .int .i64 now] wr fun e w6 => e = .returned (.tuple #[]) ∧ Mb mtag B wr w6 ∧ ∀ w6', Below w6.heap.size w6 w6' → Calls Tryz.prog 10 #[ptr s, .string a, ptr v, .int .i64 now] w6' fun e w7 => e = .returned (.int .i64 0) ∧ Mb stag B w6' w7 ∧ DoT w2 w7 W B s m x now va wa nv nw (vN A V now) (uN rows now) (bd + 2) := by
 obtain ⟨h1, h2, h3, h4⟩ := H.low hb
 have hp := H.pr.keep HB.be
 have hm := H.mr.keep HB.be
 have hs := nm7_sz ha
 have h0 : 0 ≤ bd := Int.le_trans H.t0 H.t1
 rcases Nat.eq_zero_or_pos z with rfl | hpos
 ·refine (PutM_empty wr B m rows a ⟨#[]⟩ none 0 la c now hm.md h2).mono ?_
  rintro e w6 ⟨rfl, h6⟩
  refine ⟨rfl, h6.mb, fun w6' hb6 => ?_⟩
  have hv6 : Vl w6' w2.heap.size v [] F := (HB.vl.mv h6.mb.mv off_ml (by decide)).keep hb6
  refine (Put_empty w6' B s x NM7 A V ((hp.mt h6.mb).keep hb6).spc h1 now a (by omega) (some ⟨v, 0, none⟩) (Empty_l w6' _ v [] F hv6)).mono ?_
  rintro e w7 ⟨rfl, h7⟩
  exact ⟨rfl, h7.mb, H.put0 ha HB.be (h6.keep hb6) h7⟩
 ·refine (PutM_full wr B m rows a 4 ⟨#[]⟩ none 0 la z c (List.replicate z a) now hm.md h2 (by omega) (rdl_of_own HB.ow) (by omega) (fun wx => by have := EmptyM_lst wx ⟨#[]⟩ none 0 la z c (by omega); rw [decide_eq_false (by omega)] at this; exact this)).mono ?_
  rintro e w6 ⟨rfl, pa, pc, la', lc', h6⟩
  refine ⟨rfl, h6.mb, fun w6' hb6 => ?_⟩
  have hv6 : Vl w6' w2.heap.size v (List.replicate z a) F := (HB.vl.mv h6.mb.mv off_ml (by decide)).keep hb6
  refine (Put_any w6' B s x NM7 A V ((hp.mt h6.mb).keep hb6).spc h1 now a ha (by omega) (some ⟨v, 0, none⟩) (by have := Empty_l w6' _ v _ F hv6; rw [List.length_replicate, decide_eq_false (by omega)] at this; exact this)).mono ?_
  rintro e w7 ⟨rfl, h7⟩
  exact ⟨rfl, h7.mb, H.put h0 ha (.inr ⟨rfl, hpos⟩) (by omega) HB.be (h6.keep hb6) (Below.refl _ _) (Nat.le_refl _) hv6 (fun y hy => (hv6.fp y hy).1) h7⟩
end Go.Proofs.YtmjeljldmmkcpaaGreat.Sq
