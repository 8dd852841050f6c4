/- Texts that the others stand on. -/
import Derived.Test.YtmjeljldmmkcpaaGreatK41
import Derived.Test.YtmjeljldmmkcpaaGreatRows
import Derived.ProofKit
namespace Go.Proofs.YtmjeljldmmkcpaaGreat.Sq
open Go.RowKit Go.PlainAid
open Dk (ptr Aa Ac Ad Af OwnR OwnP OwnS Mv)
theorem owns_mv {w w' : World} {B : Nat} {a : Option Addr} {n c : Nat} {ls : List BA} (h : OwnS w B a n c ls) {p : TypeId → Bool} (hm : Mv p w w') (hp : p 9 = false) : OwnS w' B a n c ls := OwnR.kept h (fun k hk => by
 obtain ⟨-, -, cur, h4⟩ := OwnR.lt h hk
 exact hm.block k _ _ h4 hp)
def mixV (V : BA → Int) (nv : List Int) (i : Nat) : List Int := (NM7.take i).map V ++ nv.drop i
theorem NM7_len : NM7.length = 7 := by unfold NM7; rw [List.length_map, List.length_range]
theorem NM7_get {i : Nat} (h : i < 7) : NM7[i]? = some (nmA i) := by
 unfold NM7
 rw [List.getElem?_map, List.getElem?_range h]
 rfl
theorem mixV_zero (V : BA → Int) (nv : List Int) : mixV V nv 0 = nv := by unfold mixV; simp
theorem mixV_end (V : BA → Int) {nv : List Int} (h : nv.length = 7) : mixV V nv 7 = NM7.map V := by
 unfold mixV
 rw [List.take_of_length_le (by rw [NM7_len]; omega), List.drop_of_length_le (by omega), List.append_nil]
theorem mixV_at (V : BA → Int) {nv : List Int} (h : nv.length = 7) {i : Nat} (hi : i < 7) : (mixV V nv i)[i]? = some (nv.getD i 0) := by
 unfold mixV
 rw [List.getElem?_append_right (by rw [List.length_map, List.length_take]; omega), List.length_map, List.length_take, NM7_len, Nat.min_eq_left (by omega), Nat.sub_self, List.getElem?_drop, Nat.add_zero, List.getD_eq_getElem?_getD, List.getElem?_eq_getElem (by omega)]
 rfl
theorem mixV_set (V : BA → Int) {nv : List Int} (h : nv.length = 7) {i : Nat} (hi : i < 7) : (mixV V nv i).set i (V (nmA i)) = mixV V nv (i + 1) := by
 unfold mixV
 have hl : ((NM7.take i).map V).length = i := by rw [List.length_map, List.length_take, NM7_len]; omega
 rw [List.set_append_right _ _ (by omega), hl, Nat.sub_self, List.take_add_one, NM7_get hi, Option.toList_some, List.map_append, List.append_assoc]
 congr 1
 rw [List.drop_eq_getElem_cons (by omega : i < nv.length), List.set_cons_zero]
 rfl
section
variable {w w' : World} {W B s m x : Nat} {now : Int} {va wa : Nat} {nv nw : List Int} {A : Ab} {V : BA → Int} {rows : List Kr} {bd c : Int} {FP : BA → List Nat}
structure C5 (w : World) (W s m : Nat) (now : Int) (va wa : Nat) : Prop where
 c0 : w.cell? ⟨W, 0, none⟩ = some (ptr s)
 c1 : w.cell? ⟨W, 1, none⟩ = some (ptr m)
 c2 : w.cell? ⟨W, 2, none⟩ = some (.int .i64 now)
 c3 : w.cell? ⟨W, 3, none⟩ = some (.slice (some ⟨va, 0, none⟩) 7 7)
 c4 : w.cell? ⟨W, 4, none⟩ = some (.slice (some ⟨wa, 0, none⟩) 7 7)
theorem Lw.c5 (H : Lw w W s m now va wa nv nw) : C5 w W s m now va wa := by
 refine ⟨?_, ?_, ?_, ?_, ?_⟩ <;> simp [World.cell?, H.blk]
theorem Lw.atv (H : Lw w W s m now va wa nv nw) {i : Nat} {y : Int} (h : nv[i]? = some y) : w.cell? ⟨va, i, none⟩ = some (.int .u64 y) := by
 simp only [World.cell?, H.bv]
 simp [h]
theorem Lw.atw (H : Lw w W s m now va wa nv nw) {i : Nat} {y : Int} (h : nw[i]? = some y) : w.cell? ⟨wa, i, none⟩ = some (.int .u64 y) := by
 simp only [World.cell?, H.bw]
 simp [h]
theorem Lw.set2 (H : Lw w W s m now va wa nv nw) (i : Nat) (y z : Int) : Lw ((w.setCell ⟨va, i, none⟩ (.int .u64 y)).setCell ⟨wa, i, none⟩ (.int .u64 z)) W s m now va wa (nv.set i y) (nw.set i z) := by
 have h1 : (w.setCell ⟨va, i, none⟩ (.int .u64 y)).heap[wa]? = w.heap[wa]? := Ar (Ne.symm H.ne)
 have h2 : (w.setCell ⟨va, i, none⟩ (.int .u64 y)).heap[va]? = some (.cells ((nv.set i y).map (Value.int .u64)).toArray 27 (0, 0)) := by rw [Ak H.bv]; simp [List.map_set]
 have h3 : W ≠ va := Bj H.blk H.bv (by decide)
 have h4 : W ≠ wa := Bj H.blk H.bw (by decide)
 refine ⟨by rw [Ar h4, Ar h3]; exact H.blk, by rw [Ar H.ne]; exact h2, ?_, by rw [List.length_set]; exact H.lv, by rw [List.length_set]; exact H.lw, H.ne⟩
 rw [Ak (by rw [h1]; exact H.bw)]
 simp [List.map_set]
theorem Al.tell (H : Al w W B s m x now va wa nv nw A V rows FP) (hv : B ≤ va) (hw : B ≤ wa) (i : Nat) (y z : Int) : Al ((w.setCell ⟨va, i, none⟩ (.int .u64 y)).setCell ⟨wa, i, none⟩ (.int .u64 z)) W B s m x now va wa (nv.set i y) (nw.set i z) A V rows FP ∧ Below B w ((w.setCell ⟨va, i, none⟩ (.int .u64 y)).setCell ⟨wa, i, none⟩ (.int .u64 z)) := by
 have h1 : (w.setCell ⟨va, i, none⟩ (.int .u64 y)).heap[wa]? = w.heap[wa]? := Ar (Ne.symm H.lw.ne)
 have m1 : Mb (fun t => t == 27) B w (w.setCell ⟨va, i, none⟩ (.int .u64 y)) := Mb.set H.lw.bv (by decide) hv
 have m2 : Mb (fun t => t == 27) B (w.setCell ⟨va, i, none⟩ (.int .u64 y)) ((w.setCell ⟨va, i, none⟩ (.int .u64 y)).setCell ⟨wa, i, none⟩ (.int .u64 z)) := Mb.set (by rw [h1]; exact H.lw.bw) (by decide) hw
 have mm := m1.trans m2
 exact ⟨⟨H.lw.set2 i y z, H.spc.mv mm.mv (off_eq (by decide)).off, H.md.mv mm.mv (by decide) (by decide) (by decide), H.vals.mv mm.mv (off_eq (by decide)) (by decide)⟩, mm.be⟩
theorem has_al (H : Al w W B s m x now va wa nv nw A V rows FP) (S : Stl now A V rows bd) {k : BA} {i : Nat} {r : Kr} (hr : rows[i]? = some r) (hk : r.nm = k) (hth : r.th = true) : (∃ p, valOf (A k) = some ⟨p, 0, none⟩) ∧ Calls Tryz.prog 69 #[.pointer (valOf (A k)), vagg r.kd r.tx r.pa r.pc r.la r.ln r.lc] w fun e w' => e = .returned (.bool true) ∧ Below w.heap.size w w' := by
 have hm := List.mem_of_getElem? hr
 rcases (S.ok r hm).ok hth with hkd | ⟨hkd, -⟩
 ·obtain ⟨p, u, k1, k2⟩ := H.txt hr hk hth hkd
  rw [k1, hkd]
  exact ⟨⟨p, rfl⟩, has_txt w p r.tx r.pa r.pc r.la r.ln r.lc k2⟩
 ·obtain ⟨p, l, mo, q, k1, k2, k3, k4, k5, -, -⟩ := H.lst S hr hk hth hkd
  rw [k1, hkd]
  exact ⟨⟨p, rfl⟩, has_lst w B p r.ls (FP k) r.tx r.pa r.pc r.la r.ln r.lc ⟨⟨l, mo, q, k3, k4⟩, k2⟩ (H.md.lst r hm) (by omega)⟩
theorem Lw.fzv (H : Lw w W s m now va wa nv nw) (o : Nat) : w.frozen? ⟨va, o, none⟩ = false ∧ w.frozen? ⟨wa, o, none⟩ = false := by
 refine ⟨?_, ?_⟩ <;> simp [World.frozen?, H.bv, H.bw]
end
end Go.Proofs.YtmjeljldmmkcpaaGreat.Sq
namespace Go.Proofs.YtmjeljldmmkcpaaGreat
open Go.ChangeShapes Go.WideShapes Go.ChangeAt Go.RowKit
theorem Tryz.own : ownKnob Tryz.prog.godebug = none := by kernel_rfl
theorem Tryz.laidOut : laidOutB Tryz.prog = true := by kernel_rfl
theorem trodAll_below {H : Type} {enc : TypeId × Value → H} {P : Program} (hl : laidOutB P = true) {W W' : World} (hb : Below W.heap.size W W') :
  ∀ {ts : List TypeId} {vs : List Value} {ds : List (DataW H)} {ps : List MemPlace}, (∀ t ∈ ts, P.readableRec t = true ∧ t < P.types.size) → DataW.TrodAll enc P W 0 (fun _ => true) true ts vs ds ps →
   (∀ x ∈ ps, x.block < W.heap.size) → DataW.TrodAll enc P W' 0 (fun b => decide (b < W.heap.size)) true ts vs ds ps
 | [], [], [], _, _, h, _ => h
 | t :: ts, v :: vs, d :: ds, ps, hr, ⟨p, q, h1, h2, e⟩, hx => by
  subst e
  exact ⟨p, q, Below.trod hl (hr t (by simp)).1 (hr t (by simp)).2 h1 hb (fun x hx' => hx x (by simp [hx'])), trodAll_below hl hb (fun t' ht' => hr t' (by simp [ht'])) h2 (fun x hx' => hx x (by simp [hx'])), rfl⟩
 | [], _ :: _, _, _, _, h, _ => by cases h
 | [], [], _ :: _, _, _, h, _ => by cases h
 | _ :: _, [], _, _, _, h, _ => by cases h
 | _ :: _, _ :: _, [], _, _, h, _ => by cases h
theorem law_post {H : Type} {enc : TypeId × Value → H} {P : Program} {f : Func} {s : ChangeSpec} {W W' : World} {args : Array Value} {ds : List (DataW H)} {before : List MemPlace} {tb : TypeId}
  (hl : laidOutB P = true) (hr : ∀ t ∈ f.params.toList, P.readableRec t = true ∧ t < P.types.size) (hres : f.resultTypes = #[tb]) (htb : P.underlying tb = some .bool) (hv : s.vars = [])
  (hfn : s.fn H (ds ++ []) = { results := [.lit (.bool true)], args := ds }) (hW : DataW.Whole enc P f.params.toList s.vars false W args.toList ds [] before) (hb : Below W.heap.size W W') :
  s.post enc P f false true false false W args (.bool true) W' := by
 have hW' := hW
 obtain ⟨p, q, hA, hV, rfl, hfz, hnd⟩ := hW
 refine ⟨ds, [], p ++ q, [], p, [], hW', ?_, ?_, ?_, hb.frame _, fun h => by cases h⟩
 ·rw [hfn, hres]
  exact trodAll_mk1 (shut_bool htb true)
 ·rw [hfn]
  exact trodAll_below hl hb hr hA (fun x hx => by simpa using hW'.lt x (by simp [hx]))
 ·rw [hfn, hv]; rfl
end Go.Proofs.YtmjeljldmmkcpaaGreat
