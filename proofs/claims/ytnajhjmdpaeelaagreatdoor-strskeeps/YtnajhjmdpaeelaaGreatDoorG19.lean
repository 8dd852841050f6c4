/- Texts that the others stand on. -/
import Derived.Test.YtnajhjmdpaeelaaGreatDoorG18
namespace Go.Proofs.YtnajhjmdpaeelaaGreatDoor.Zs.Dk
open Go.RowKit Go.PlainAid
/-- The directory ahead of the loop: deeper, where the leaf is as deep as it was. -/
structure Wide (w w3 : World) (B d x : Nat) (D : Dg) (l pb1 cap1 : Nat) (pl1 : List Nat) : Prop where
  blk : w3.heap[d]? = some (.cells #[.int .u64 (x : Nat), .int .i64 (D.es.length : Nat), .slice (some ⟨pb1, 0, none⟩) (2 ^ max D.g (l + 1)) cap1] 121 (0, 0))
  row : OwnP w3 B 115 (some ⟨pb1, 0, none⟩) (2 ^ max D.g (l + 1)) cap1 pl1
  pls : ∀ i, i < 2 ^ max D.g (l + 1) → pl1[i]? = D.pl[i % 2 ^ D.g]?
  pb : pb1 = D.pb ∨ w.heap.size ≤ pb1
  stay : Stay w w3 [d, D.pb]
theorem Wide.pbd {w w3 : World} {B d x : Nat} {D : Dg} {l pb1 cap1 : Nat} {pl1 : List Nat} (h : Wide w w3 B d x D l pb1 cap1 pl1) (hD : Dct w B d x D) : pb1 ≠ d := by
  rcases h.pb with e | e
  · rw [e]; intro e2; have := (List.nodup_cons.1 hD.nod).1; simp [e2] at this
  · have := hD.lt; omega
theorem Wide.keep {w w3 w4 : World} {B d x : Nat} {D : Dg} {l pb1 cap1 : Nat} {pl1 : List Nat} (h : Wide w w3 B d x D l pb1 cap1 pl1) (hb : Below w3.heap.size w3 w4) : Wide w w4 B d x D l pb1 cap1 pl1 :=
  ⟨by rw [hb.block d (Array.getElem?_eq_some_iff.1 h.blk).1]; exact h.blk, OwnR.keep h.row hb, h.pls, h.pb, h.stay.trans (Stay.of_below hb []) (fun i hi => by cases hi)⟩
theorem Dct.wide {w : World} {B d x : Nat} {D : Dg} (h : Dct w B d x D) {w3 : World} (hb : Below w.heap.size w w3) {l : Nat} (hl : l + 1 ≤ D.g) : Wide w w3 B d x D l D.pb D.cap D.pl := by
  have hm : max D.g (l + 1) = D.g := by omega
  refine ⟨by rw [hm]; exact (h.keep hb).blk, by rw [hm]; exact (h.keep hb).row, ?_, .inl rfl, Stay.of_below hb _⟩
  intro i hi
  rw [hm] at hi
  rw [Nat.mod_eq_of_lt hi]
/-- append within a region that draws its order, and where the row is then. -/
theorem step_append_r {w : World} {ops : Array Oper} {o : Oper} {ac : Act} {K : Act → World → Prop} {Q : Exit → Act → World → Prop} {E : Prop} (hgd : o.guard = none) (s x : Operand) {t e : TypeId} {sz by8 : Nat} (ho : o.op = .call { callee := .builtin .append, args := #[s, x], argTypes := #[t, t] })
    (F : Elt t e sz by8) (B : Nat) {a : Option Addr} {n cap : Nat} {cs : List Value} (hs : ac.eval s = .slice a n cap) (hown : OwnR w B e sz a n cap cs) {ad : Addr} {m c : Nat} (news : List Value) (hx : ac.eval x = .slice (some ad) m c) (hl : news.length = m * sz)
    (hnews : ∀ j u, news[j]? = some u → w.cell? (ad.add j) = some u) (h1 : ∀ u ∈ news, u.oneCell' = true) (hm : 0 < m) (hb : (n + m) * by8 ≤ 140737488355328) (h63 : n + m ≤ maxLen) (hB : B ≤ w.heap.size)
    (h : ∀ a2 n2 c2 w2, n2 = n + m → Hid (OwnR w2 B e sz a2 n2 c2 (cs ++ news)) → Hid (w.grownBy w2 (a.map (·.block))) → Hid (Goes w a a2) → K (ac.put o.dst (.slice a2 n2 c2)) w2) : if Region.wanted o (yielded ops ac.tmps) = true then Oper.wp Tryz.prog o ac w K Q else E := by
  have hw : Region.wanted o (yielded ops ac.tmps) = true := by simp [Region.wanted, hgd]
  rw [if_pos hw]
  obtain ⟨a2, c2, w2, k1, k2, k3, k4⟩ := run_append_r w B F hown (c := c) news hl hnews h1 hm hb h63 hB o.type
  unfold Oper.wp
  simp [execOp, ho, resolve, invoke, builtin, hs, hx, k1, Result.andThen]
  exact h a2 _ c2 w2 rfl k2 k3 k4
/-- A row that was doubled. -/
theorem Dct.doubled {w w2 w3 : World} {B d x : Nat} {D : Dg} (h : Dct w B d x D) (hb : Below w.heap.size w w2) {a3 : Option Addr} {c3 : Nat} (hO : OwnP w3 B 115 a3 (2 ^ D.g + 2 ^ D.g) c3 (D.pl ++ D.pl)) (hg : w2.grownBy w3 (some D.pb)) (hgo : Goes w2 (some ⟨D.pb, 0, none⟩) a3) {l : Nat} (hl : l = D.g) :
    ∃ g3, a3 = some ⟨g3, 0, none⟩ ∧ Wide w (w3.setCell ⟨d, 2, none⟩ (.slice (some ⟨g3, 0, none⟩) (2 ^ D.g + 2 ^ D.g) c3)) B d x D l g3 c3 (D.pl ++ D.pl) := by
  have hp : 0 < 2 ^ D.g := pow_pos _
  obtain ⟨g3, rfl, -⟩ := OwnR.at hO (by omega)
  have hm : 2 ^ max D.g (l + 1) = 2 ^ D.g + 2 ^ D.g := by rw [show max D.g (l + 1) = D.g + 1 by omega, Nat.pow_succ]; omega
  have hn := List.nodup_cons.1 h.nod
  have hnpb : D.pb ≠ d := fun e => hn.1 (by simp [e])
  have h2 := h.keep hb
  have hS : Stay w2 w3 [D.pb] := Stay.grown hg (fun g e => by cases e; simp)
  have hblk : w3.heap[d]? = w2.heap[d]? := hS.block d h2.lt (by simpa using fun e => hnpb e.symm)
  have hgo' : g3 = D.pb ∨ w.heap.size ≤ g3 := by
    rcases hgo with e | e
    · simp at e; exact .inl e
    · simp at e; exact .inr (by have := hb.size; omega)
  have hgd : g3 ≠ d := by
    rcases hgo' with e | e
    · rw [e]; exact hnpb
    · have := h.lt; omega
  refine ⟨g3, rfl, ⟨?_, ?_, ?_, hgo', ?_⟩⟩
  · have := h2.blk
    rw [← hblk] at this
    rw [heap_set this, hm]
    rfl
  · rw [hm]
    exact OwnR.stay hO (Stay.set (q := d)) (fun k hk => by cases hk; simpa using hgd)
  · intro i hi
    rw [hm] at hi
    have hlen := h.len
    by_cases e : i < 2 ^ D.g
    · rw [List.getElem?_append_left (by omega), Nat.mod_eq_of_lt e]
    · rw [List.getElem?_append_right (by omega), hlen]
      congr 1
      rw [Nat.mod_eq_sub_mod (by omega), Nat.mod_eq_of_lt (by omega)]
  · exact ((Stay.of_below hb [d, D.pb]).trans hS (fun i hi => .inl (by simp at hi; simp [hi]))).trans Stay.set (fun i hi => .inl (by simp at hi; simp [hi]))
theorem i64_and1 (n : Int) : bits .and .i64 n 1 = n % 2 := by
  have h1 : (BitVec.ofInt 64 1).toNat = 2 ^ 1 - 1 := by decide
  have key : (BitVec.ofInt 64 n &&& BitVec.ofInt 64 1).toNat = (n % ((2 ^ 64 : Nat) : Int)).toNat % 2 ^ 1 := by
    rw [BitVec.toNat_and, BitVec.toNat_ofInt, h1, Nat.and_two_pow_sub_one_eq_mod]
  show IntKind.i64.wrap ((BitVec.ofInt 64 n &&& BitVec.ofInt 64 1).toNat : Nat) = n % 2
  rw [key, IntKind.wrap_i64]
  omega
theorem ipow16 (k : Nat) (h : k ≤ 16) : IntKind.i64.wrap (2 ^ k) = ((2 ^ k : Nat) : Int) := by
  have h1 := pow_le_16 h
  have : ((2 : Int) ^ k) = ((2 ^ k : Nat) : Int) := by simp
  rw [this]
  generalize 2 ^ k = p at h1
  simp [IntKind.wrap, IntKind.signed, IntKind.bits]
  omega
/-- Whither a place leads that was turned. -/
def half (l a0 a1 i : Nat) : Nat := if i / 2 ^ l % 2 = 0 then a0 else a1
structure Halfway (w wr : World) (B d x : Nat) (D : Dg) (l q pb1 cap1 ar fa : Nat) (f0 f1 : Lf) (place : Nat) (P : List Nat) : Prop where
  blk : wr.heap[d]? = some (.cells #[.int .u64 (x : Nat), .int .i64 (D.es.length : Nat), .slice (some ⟨pb1, 0, none⟩) (2 ^ max D.g (l + 1)) cap1] 121 (0, 0))
  row : OwnP wr B 115 (some ⟨pb1, 0, none⟩) (2 ^ max D.g (l + 1)) cap1 P
  pls : ∀ i, i < 2 ^ max D.g (l + 1) → P[i]? = if i % 2 ^ l = q ∧ i < place then some (half l f0.a f1.a i) else D.pl[i % 2 ^ D.g]?
  stay : Stay w wr [d, D.pb]
  leaf0 : Leaf wr B x f0
  leaf1 : Leaf wr B x f1
  arr0 : wr.cell? ⟨ar, 0, none⟩ = some (ptr f0.a)
  arr1 : wr.cell? ⟨ar, 1, none⟩ = some (ptr f1.a)
  own : wr.cell? ⟨fa, 0, none⟩ = some (.int .i64 (l : Nat))
  ap : pb1 ≠ d ∧ pb1 ∉ f0.fp ∧ pb1 ∉ f1.fp ∧ pb1 ≠ ar ∧ pb1 ≠ fa ∧ (pb1 = D.pb ∨ w.heap.size ≤ pb1)
theorem cell_set_ne {w : World} {b c o o' : Nat} {v : Value} (h : c ≠ b) : (w.setCell ⟨b, o, none⟩ v).cell? ⟨c, o', none⟩ = w.cell? ⟨c, o', none⟩ := World.cell?_of_block (Below.heap_setCell _ _ _ _ (by simpa using h))
theorem Halfway.keep {w wr wn : World} {B d x : Nat} {D : Dg} {l q pb1 cap1 ar fa : Nat} {f0 f1 : Lf} {place : Nat} {P : List Nat} (h : Halfway w wr B d x D l q pb1 cap1 ar fa f0 f1 place P) (hb : Below wr.heap.size wr wn) : Halfway w wn B d x D l q pb1 cap1 ar fa f0 f1 place P :=
  ⟨by rw [hb.block d (Array.getElem?_eq_some_iff.1 h.blk).1]; exact h.blk, OwnR.keep h.row hb, h.pls, h.stay.trans (Stay.of_below hb []) (fun i hi => by cases hi), h.leaf0.keep hb, h.leaf1.keep hb,
    by rw [hb.cell (p := ⟨ar, 0, none⟩) (World.block_lt_of_cell? _ _ h.arr0)]; exact h.arr0, by rw [hb.cell (p := ⟨ar, 1, none⟩) (World.block_lt_of_cell? _ _ h.arr1)]; exact h.arr1, by rw [hb.cell (p := ⟨fa, 0, none⟩) (World.block_lt_of_cell? _ _ h.own)]; exact h.own, h.ap⟩
theorem OwnP.set {w : World} {B : Nat} {e : TypeId} {g n c : Nat} {ls : List Nat} (h : OwnP w B e (some ⟨g, 0, none⟩) n c ls) {i : Nat} (hi : i < n) (v : Nat) :
    (∃ u, w.cell? ⟨g, i, none⟩ = some (ptr u)) ∧ w.frozen? ⟨g, i, none⟩ = false ∧ OwnP (w.setCell ⟨g, i, none⟩ (ptr v)) B e (some ⟨g, 0, none⟩) n c (ls.set i v) := by
  have hlen := OwnP.len h
  obtain ⟨u, hu, -⟩ := get_of_lt (l := ls) (i := i) (by omega)
  refine ⟨⟨u, OwnP.cell h hu⟩, ?_⟩
  rcases h.2 with ⟨h2, h3⟩ | ⟨g', c', cur, h1, h3, h4, h5, h6, h7, h8⟩
  · cases h2
  · cases h1
    refine ⟨by simp [World.frozen?, h4], by simp [pcells, hlen], .inr ⟨g, c, cur.setIfInBounds i (ptr v), rfl, h3, heap_set h4 _, h5, h6, by simpa using h7, ?_⟩⟩
    rw [Array.toList_setIfInBounds, Nat.mul_one, List.take_set]
    rw [Nat.mul_one] at h8
    rw [h8, pcells, pcells, List.map_set]
theorem Halfway.step {w wr : World} {B d x : Nat} {D : Dg} {l q pb1 cap1 ar fa : Nat} {f0 f1 : Lf} {place : Nat} {P : List Nat} (h : Halfway w wr B d x D l q pb1 cap1 ar fa f0 f1 place P) (hp : place < 2 ^ max D.g (l + 1)) (hq : place % 2 ^ l = q) :
    Halfway w (wr.setCell ⟨pb1, place, none⟩ (ptr (half l f0.a f1.a place))) B d x D l q pb1 cap1 ar fa f0 f1 (place + 2 ^ l) (P.set place (half l f0.a f1.a place)) := by
  obtain ⟨k1, k2, k3, k4, k5, k6⟩ := h.ap
  have hS : Stay wr (wr.setCell ⟨pb1, place, none⟩ (ptr (half l f0.a f1.a place))) [pb1] := Stay.set
  have hpp : 0 < 2 ^ l := pow_pos l
  refine ⟨?_, (OwnP.set h.row hp _).2.2, ?_, ?_, h.leaf0.stay hS (fun k hk => by simp only [List.mem_singleton]; exact fun e => k2 (e ▸ hk)), h.leaf1.stay hS (fun k hk => by simp only [List.mem_singleton]; exact fun e => k3 (e ▸ hk)), ?_, ?_, ?_, h.ap⟩
  · rw [hS.block d (Array.getElem?_eq_some_iff.1 h.blk).1 (by simpa using fun e => k1 e.symm)]; exact h.blk
  · intro i hi
    have hlen := OwnP.len h.row
    by_cases e : i = place
    · subst e
      rw [List.getElem?_set_self (by omega), if_pos ⟨hq, by omega⟩]
    · rw [List.getElem?_set_ne (fun e2 => e e2.symm), h.pls i hi]
      by_cases h1 : i % 2 ^ l = q
      · have h2 : i < place ↔ i < place + 2 ^ l := by
          constructor
          · intro h3; omega
          · intro h3
            rcases Nat.lt_or_ge i place with h4 | h4
            · exact h4
            · exfalso
              have e1 := Nat.div_add_mod i (2 ^ l)
              have e2 := Nat.div_add_mod place (2 ^ l)
              rw [h1] at e1
              rw [hq] at e2
              have e3 : place / 2 ^ l < i / 2 ^ l := by
                rcases Nat.lt_or_ge (place / 2 ^ l) (i / 2 ^ l) with h5 | h5
                · exact h5
                · have := Nat.mul_le_mul_left (2 ^ l) h5
                  omega
              have e4 := Nat.mul_le_mul_left (2 ^ l) (Nat.succ_le_of_lt e3)
              rw [Nat.succ_eq_add_one, Nat.mul_add, Nat.mul_one] at e4
              omega
        by_cases h3 : i < place
        · rw [if_pos ⟨h1, h3⟩, if_pos ⟨h1, h2.1 h3⟩]
        · rw [if_neg (fun h4 => h3 h4.2), if_neg (fun h4 => h3 (h2.2 h4.2))]
      · rw [if_neg (fun h4 => h1 h4.1), if_neg (fun h4 => h1 h4.1)]
  · refine h.stay.trans hS (fun i hi => ?_)
    simp only [List.mem_singleton] at hi
    subst hi
    exact k6.imp (fun e => by simp [e]) id
  · rw [cell_set_ne (fun e => k4 e.symm)]; exact h.arr0
  · rw [cell_set_ne (fun e => k4 e.symm)]; exact h.arr1
  · rw [cell_set_ne (fun e => k5 e.symm)]; exact h.own
theorem fp_new {l q a tb cap p b G : Nat} {z : List Cl} {j : Nat} (h : j ∈ (⟨l, q, a, tb, cap, [⟨p, b, G, z⟩]⟩ : Lf).fp) : j = a ∨ j = tb ∨ j = p ∨ j = b := by
  simpa [Lf.fp, tsFp, Tb.fp] using h
theorem nod4 {s t0 a0 W t1 a1 : Nat} (h1 : t0 < a0) (h2 : a0 < W) (h3 : W ≤ t1) (h4 : t1 < a1) (h5 : s ≤ t0) : [a0, t0, a1, t1].Nodup ∧ s ≤ a0 ∧ s ≤ t0 ∧ s ≤ a1 ∧ s ≤ t1 := by
  refine ⟨?_, by omega, by omega, by omega, by omega⟩
  simp only [List.nodup_cons, List.mem_cons, List.not_mem_nil, or_false, not_or, not_false_eq_true, List.nodup_nil, and_true]
  omega
/-- The array of the two halves. -/
def isArr (w : World) (ar : Nat) : Prop := w.heap[ar]? = some (.cells #[.pointer none, .pointer none] 286 (0, 0))
theorem isArr.facts {w : World} {ar : Nat} (h : isArr w ar) : w.cell? ⟨ar, 0, none⟩ = some (.pointer none) ∧ w.cell? ⟨ar, 1, none⟩ = some (.pointer none) ∧ w.frozen? ⟨ar, 0, none⟩ = false ∧ w.frozen? ⟨ar, 1, none⟩ = false := by
  unfold isArr at h
  refine ⟨by simp [World.cell?, h], by simp [World.cell?, h], by simp [World.frozen?, h], by simp [World.frozen?, h]⟩
theorem isArr.keep {w w' : World} {ar : Nat} (h : isArr w ar) (hb : Below w.heap.size w w') : isArr w' ar := by
  unfold isArr at h ⊢
  rw [hb.block ar (Array.getElem?_eq_some_iff.1 h).1]
  exact h
theorem isArr.made (w : World) : isArr (w.alloc (.cells #[.pointer none, .pointer none] 286)) w.heap.size := heap_alloc_new w _
theorem set2_below {wd W : World} {ar : Nat} {u v : Value} (hb : Below wd.heap.size wd W) (har : wd.heap.size ≤ ar) : Below wd.heap.size wd ((W.setCell ⟨ar, 0, none⟩ u).setCell ⟨ar, 1, none⟩ v) := by
  have h1 : Stay W ((W.setCell ⟨ar, 0, none⟩ u).setCell ⟨ar, 1, none⟩ v) [ar] := Stay.set.trans Stay.set (fun i hi => .inl hi)
  exact hb.trans (h1.below (by intro i hi; simp at hi; omega) hb.size)
theorem two_set {wd W : World} {B x ar a0 a1 : Nat} {f0 f1 : Lf} (hb : Below wd.heap.size wd W) (hA : isArr W ar) (har : wd.heap.size ≤ ar) (h0 : Leaf W B x f0) (h1 : Leaf W B x f1) (n0 : ar ∉ f0.fp) (n1 : ar ∉ f1.fp) :
    Below wd.heap.size wd ((W.setCell ⟨ar, 0, none⟩ (ptr a0)).setCell ⟨ar, 1, none⟩ (ptr a1)) ∧ (Leaf ((W.setCell ⟨ar, 0, none⟩ (ptr a0)).setCell ⟨ar, 1, none⟩ (ptr a1)) B x f0 ∧ Leaf ((W.setCell ⟨ar, 0, none⟩ (ptr a0)).setCell ⟨ar, 1, none⟩ (ptr a1)) B x f1) ∧
      ((W.setCell ⟨ar, 0, none⟩ (ptr a0)).setCell ⟨ar, 1, none⟩ (ptr a1)).cell? ⟨ar, 0, none⟩ = some (ptr a0) ∧ ((W.setCell ⟨ar, 0, none⟩ (ptr a0)).setCell ⟨ar, 1, none⟩ (ptr a1)).cell? ⟨ar, 1, none⟩ = some (ptr a1) ∧ wd.heap.size ≤ ar := by
  have hS : Stay W ((W.setCell ⟨ar, 0, none⟩ (ptr a0)).setCell ⟨ar, 1, none⟩ (ptr a1)) [ar] := Stay.set.trans Stay.set (fun i hi => .inl hi)
  have e1 := heap_set (o := 0) hA (ptr a0)
  have e2 := heap_set (o := 1) e1 (ptr a1)
  refine ⟨set2_below hb har, ⟨h0.stay hS (fun k hk => by simp only [List.mem_singleton]; exact fun e => n0 (e ▸ hk)), h1.stay hS (fun k hk => by simp only [List.mem_singleton]; exact fun e => n1 (e ▸ hk))⟩, ?_, ?_, har⟩
  · simp only [World.cell?, e2]; rfl
  · simp only [World.cell?, e2]; rfl
set_option maxRecDepth 100000 in
set_option maxHeartbeats 8000000 in
theorem split_any (B d x : Nat) (D : Dg) (La Lc : List Lf) (f : Lf) (h : Nat) (w : World) (hD : Dct w B d x D) (eL : D.L = La ++ f :: Lc) (hi : isIn f.pt h = true) (hl : f.l < 16) (hh : h < 18446744073709551616) :
    Calls Tryz.prog 139 #[ptr d, .int .u64 h] w fun e w' => e = .returned (.tuple #[]) ∧ ∃ f0 f1 pb1 cap1 pl1, Splitted w w' B d x D f f0 f1 pb1 cap1 pl1 := by
  have hf : f ∈ D.L := by rw [eL]; simp
  have HD : Hid (Dct w B d x D) := hD
  have HLf := leafOf_any B d x D f h w hD hf hi hh
  have hlf := hD.lef hf
  obtain ⟨t, ht⟩ := List.length_eq_one_iff.1 (hD.one f hf hl)
  have HKp : Hid (∀ w', Stay w w' [d, D.pb] → w'.cell? ⟨f.a, 0, none⟩ = some (.int .i64 (f.l : Nat)) ∧ w'.cell? ⟨f.a, 1, none⟩ = some (.slice (some ⟨f.tb, 0, none⟩) 1 f.cap) ∧ w'.cell? ⟨f.tb, 0, none⟩ = some (ptr t.p) ∧ Tab w' B t.p t.b x t.G t.z) := by
    intro w' hs
    have hL := (hD.leaf f hf).stay hs (fun k hk => by
      have h1 := List.nodup_cons.1 hD.nod
      have h2 := List.nodup_cons.1 h1.2
      simp only [List.mem_cons, List.not_mem_nil, or_false, not_or]
      exact ⟨fun e => h1.1 (List.mem_cons_of_mem _ (e ▸ mem_fpL hf hk)), fun e => h2.1 (e ▸ mem_fpL hf hk)⟩)
    refine ⟨hL.own, ?_, hL.at (i := 0) (by rw [ht]; rfl), hL.tab t (by rw [ht]; simp)⟩
    have := hL.tabs
    rw [ht] at this
    exact this
  have HES : Hid (f.es = ents t.z) := by show _ = _; unfold Lf.es; rw [ht, tsEs_one]; rfl
  have hgz := hD.shp.le
  have HLo := fun w => Low_any h f.l w hh (by omega) (by omega)
  rw [low_dep, dep_nat hlf.2.1] at HLo
  rw [show h % 2 ^ f.l = f.q from isIn_iff.1 hi] at HLo
  have hB0 : B ≤ w.heap.size := by have := hD.low; have := hD.lt; omega
  have HB0 : Hid (B ≤ w.heap.size) := hB0
  have hrow := hD.row
  have hpw := hD.pow
  go_enter Tryz.func139, Tryz.ntmps139
  go_wp2_with fail
  refine HLf.mono ?_
  rintro e w1 ⟨rfl, hb1⟩
  have HB1 : Hid (Below w.heap.size w w1) := hb1
  obtain ⟨c0, c1, c2, -⟩ := HKp.out w1 (Stay.of_below hb1 _)
  have HDe := fun q => Depth_any B d x D (w1.drewN q) ((hD.keep hb1).keep (below_drewN w1 q))
  clear HLf hb1
  generalize hfl : f.l = l at HKp c0 HLo hl hlf
  generalize hfq : f.q = q at HLo hlf
  go_wp2
  go_quiet ((go_at_call 180; with_reducible exact Calls.quiet_of_same (HDe _)))
  obtain ⟨w2, hw2⟩ : ∃ w2, w1.drewN nq = w2 := ⟨_, rfl⟩
  have HB2 : Hid (Below w.heap.size w w2) := by show Below _ _ _; rw [← hw2]; exact (step_below HB1 (below_drewN w1 nq)).out
  rw [hw2]
  clear hw2 HDe HB1 c0 c1 c2
  go_upto_if 19 with fail
  go_cut [19] from 20 to 31 (fun v19 wx => ∃ pb1 cap1 pl1, Hid (Wide w wx B d x D l pb1 cap1 pl1))
  case first =>
    by_cases hlg : l = D.g
    · have hlz : ((l : Int) == (D.g : Int)) = true := by simp; omega
      have hD2 := hD.keep HB2.out
      have hc2 := hD2.cpl
      have HO2 : Hid (OwnP w2.drew B 115 (some ⟨D.pb, 0, none⟩) (2 ^ D.g) D.cap D.pl) := OwnR.keep hD2.row (below_drewN w2 1)
      have HBd : Hid (Below w.heap.size w w2.drew) := step_below HB2 (below_drewN w2 1)
      have HDb : Hid (∀ a3 c3 w3, OwnP w3 B 115 a3 (2 ^ D.g + 2 ^ D.g) c3 (D.pl ++ D.pl) → w2.drew.grownBy w3 (some D.pb) → Goes w2.drew (some ⟨D.pb, 0, none⟩) a3 → ∃ g3, a3 = some ⟨g3, 0, none⟩ ∧ Wide w (w3.setCell ⟨d, 2, none⟩ (.slice (some ⟨g3, 0, none⟩) (2 ^ D.g + 2 ^ D.g) c3)) B d x D l g3 c3 (D.pl ++ D.pl)) := fun a3 c3 w3 h1 h2 h3 => hD.doubled HBd.out h1 h2 h3 hlg
      have HSc : Hid (∀ w3, w2.drew.grownBy w3 (some D.pb) → w3.cell? ⟨d, 2, none⟩ = some (.slice (some ⟨D.pb, 0, none⟩) (2 ^ D.g) D.cap) ∧ w3.frozen? ⟨d, 2, none⟩ = false) := by
        intro w3 hg
        have hdd := hD.keep HBd.out
        have hnpb : D.pb ≠ d := fun e => (List.nodup_cons.1 hD.nod).1 (by simp [e])
        have hbl : w3.heap[d]? = w2.drew.heap[d]? := hg.block d hdd.lt (by intro e; injection e with e; exact hnpb e.symm)
        refine ⟨by rw [World.cell?_of_block hbl]; exact hdd.cpl, ?_⟩
        have := hdd.blk
        rw [← hbl] at this
        simp [World.frozen?, this]
      have HNw : Hid (∀ j u, (pcells D.pl)[j]? = some u → w2.drew.cell? ((⟨D.pb, 0, none⟩ : Addr).add j) = some u) := by
        intro j u hu
        obtain ⟨b, off, e1, e2⟩ := HO2.out.rd.cell j u hu
        cases e1
        rw [add_flat]
        exact e2
      have HLn : Hid ((pcells D.pl).length = 2 ^ D.g * 1) := OwnR.len HO2.out
      have HPp : Hid (0 < 2 ^ D.g) := pow_pos _
      have HBs : Hid (B ≤ w2.drew.heap.size) := Nat.le_trans HB0.out HBd.out.size
      generalize 2 ^ D.g = P at hc2 HO2 HDb HSc HLn HPp hpw hrow
      clear hrow hlg
      go_wp2_with fail
      go_region_law (refine step_append_r rfl (.tmp 24) (.tmp 28) rfl eltL B rfl HO2.out (pcells D.pl) rfl HLn.out HNw.out pcells_one HPp.out (by omega) (by unfold maxLen; omega) HBs.out ?_; intro a3 n3 c3 w3 hn3 HO3 HG3 HW3; obtain ⟨hc3, hf3⟩ := HSc.out w3 HG3.out)
      all_goals
        go_wp2
        go_meet
        have hO3 := HO3.out
        rw [hn3, ← pcells_append] at hO3
        obtain ⟨g3, rfl, hW⟩ := HDb.out _ _ _ hO3 HG3.out HW3.out
        exact ⟨g3, c3, _, hW⟩
    · have hlz : ((l : Int) == (D.g : Int)) = false := by simp; omega
      have HW : Hid (Wide w w2 B d x D l D.pb D.cap D.pl) := hD.wide HB2.out (by omega)
      go_wp2
      go_meet
      exact ⟨_, _, _, HW⟩
  case rest =>
  obtain ⟨pb1, cap1, pl1, HW⟩ := hcut
  clear HB2
  have HSp := fun wx hT => Split_any B t.p t.b x t.G t.z l wx hT
  have HCM : Hid (∀ w', Below wc.heap.size wc w' → (w'.cell? ⟨f.a, 0, none⟩ = some (.int .i64 (l : Nat)) ∧ w'.cell? ⟨f.a, 1, none⟩ = some (.slice (some ⟨f.tb, 0, none⟩) 1 f.cap) ∧ w'.cell? ⟨f.tb, 0, none⟩ = some (ptr t.p)) ∧ Tab w' B t.p t.b x t.G t.z) := by
    intro w' hb
    obtain ⟨h1, h2, h3, h4⟩ := HKp.out w' (HW.out.stay.trans (Stay.of_below hb []) (fun i hi => by cases hi))
    exact ⟨⟨h1, h2, h3⟩, h4⟩
  have HDw : Hid (Below wc.heap.size wc wc.drew) := below_drewN wc 1
  obtain ⟨wb, hwb⟩ : ∃ wb, wb = wc := ⟨_, rfl⟩
  subst hwb
  go_upto_region 3 with fail
  go_cut [5, 6] from 32 to 45 (fun v5 v6 wx => ∃ p0 b0 p1 b1, v5 = ptr p0 ∧ v6 = ptr p1 ∧ Hid (Below wb.heap.size wb wx) ∧ Hid (Pair wx wb.heap.size p0 b0 x (zerosOf x l (ents t.z)) p1 b1 (onesOf x l (ents t.z))))
  case first =>
    go_region_held3 (fun w' => w'.cell? ⟨f.a, 0, none⟩ = some (.int .i64 (l : Nat)) ∧ w'.cell? ⟨f.a, 1, none⟩ = some (.slice (some ⟨f.tb, 0, none⟩) 1 f.cap) ∧ w'.cell? ⟨f.tb, 0, none⟩ = some (ptr t.p)) (exact (HCM.out _ HDw.out).1)
      ((go_at_call 185; refine (HSp _ (HCM.out _ HDw.out).2).mono ?_; rintro e wx ⟨hb, p0, b0, p1, b1, rfl, hP⟩; have HP : Hid (Pair wx wb.heap.size p0 b0 x (zerosOf x l (ents t.z)) p1 b1 (onesOf x l (ents t.z))) := (⟨hP.one.low HDw.out.size, hP.two.low HDw.out.size, hP.ne, hP.neb⟩); replace HDw := step_below HDw hb; clear hb hP))
    go_wp2
    go_meet
    exact ⟨p0, b0, p1, b1, rfl, rfl, HDw, HP⟩
  case rest =>
  clear HDw HSp
  obtain ⟨p0, b0, p1, b1, rfl, rfl, HBb, HP⟩ := hcut
  obtain ⟨G0, z0, hT0, hz0⟩ := HP.out.one
  obtain ⟨G1, z1, hT1, hz1⟩ := HP.out.two
  have HT : Hid (Tab wc wb.heap.size p0 b0 x G0 z0 ∧ Tab wc wb.heap.size p1 b1 x G1 z1) := ⟨hT0, hT1⟩
  have HZ : Hid ((ents z0).Perm (zerosOf x l (ents t.z)) ∧ (ents z1).Perm (onesOf x l (ents t.z))) := ⟨hz0, hz1⟩
  clear hT0 hT1 hz0 hz1
  have HN0 : ∀ w, Calls Tryz.prog 44 #[.int .i64 ((l : Int) + 1), ptr p0] w fun e w' => Below w.heap.size w w' ∧ ∃ a, e = .returned (ptr a) ∧ w.heap.size < a ∧ a < w'.heap.size ∧ w'.heap[a]? = some (.cells #[.int .i64 ((l + 1 : Nat) : Int), .slice (some ⟨w.heap.size, 0, none⟩) 1 1] 160 (0, 0)) ∧ OwnP w' w.heap.size 117 (some ⟨w.heap.size, 0, none⟩) 1 1 [p0] := fun w => newLeaf_any (l + 1) p0 w
  have HN1 : ∀ w, Calls Tryz.prog 44 #[.int .i64 ((l : Int) + 1), ptr p1] w fun e w' => Below w.heap.size w w' ∧ ∃ a, e = .returned (ptr a) ∧ w.heap.size < a ∧ a < w'.heap.size ∧ w'.heap[a]? = some (.cells #[.int .i64 ((l + 1 : Nat) : Int), .slice (some ⟨w.heap.size, 0, none⟩) 1 1] 160 (0, 0)) ∧ OwnP w' w.heap.size 117 (some ⟨w.heap.size, 0, none⟩) 1 1 [p1] := fun w => newLeaf_any (l + 1) p1 w
  have HLb : Hid (B ≤ wb.heap.size) := Nat.le_trans HB0.out HW.out.stay.size
  have HM0 : Hid (∀ w1 w2 a, Below wc.heap.size wc w1 → Below w1.heap.size w1 w2 → w1.heap.size < a → w2.heap[a]? = some (.cells #[.int .i64 ((l + 1 : Nat) : Int), .slice (some ⟨w1.heap.size, 0, none⟩) 1 1] 160 (0, 0)) → OwnP w2 w1.heap.size 117 (some ⟨w1.heap.size, 0, none⟩) 1 1 [p0] → Leaf w2 B x ⟨l + 1, q, a, w1.heap.size, 1, [⟨p0, b0, G0, z0⟩]⟩) :=
    fun w1 w2 a h1 h2 h3 h4 h5 => Leaf.made q ((HT.out.1.lower HLb.out).keep h1) h2 h3 h4 h5 (Nat.le_trans HLb.out (Nat.le_trans HBb.out.size h1.size))
  have HM1 : Hid (∀ w1 w2 a, Below wc.heap.size wc w1 → Below w1.heap.size w1 w2 → w1.heap.size < a → w2.heap[a]? = some (.cells #[.int .i64 ((l + 1 : Nat) : Int), .slice (some ⟨w1.heap.size, 0, none⟩) 1 1] 160 (0, 0)) → OwnP w2 w1.heap.size 117 (some ⟨w1.heap.size, 0, none⟩) 1 1 [p1] → Leaf w2 B x ⟨l + 1, q + 2 ^ l, a, w1.heap.size, 1, [⟨p1, b1, G1, z1⟩]⟩) :=
    fun w1 w2 a h1 h2 h3 h4 h5 => Leaf.made (q + 2 ^ l) ((HT.out.2.lower HLb.out).keep h1) h2 h3 h4 h5 (Nat.le_trans HLb.out (Nat.le_trans HBb.out.size h1.size))
  have HCc : Hid (∀ w', Below wc.heap.size wc w' → w'.cell? ⟨f.a, 0, none⟩ = some (.int .i64 (l : Nat))) := fun w' hb => (HCM.out w' (HBb.out.trans (hb.mono HBb.out.size))).1.1
  have HDw : Hid (Below wc.heap.size wc wc.drew) := below_drewN wc 1
  have cc0 := HCc.out wc (Below.refl _ _)
  have hwl : IntKind.i64.wrap ((l : Int) + 1) = (l : Int) + 1 := by rw [IntKind.wrap_i64]; omega
  obtain ⟨wd, hwd⟩ : ∃ wd, wd = wc := ⟨_, rfl⟩
  subst hwd
  go_upto_region 4 with fail
  go_cut [7] from 46 to 60 (fun v7 wx => ∃ a0 t0 a1 t1 ar : Nat, v7 = ptr ar ∧ Hid (Below wd.heap.size wd wx) ∧ Hid (Leaf wx B x ⟨l + 1, q, a0, t0, 1, [⟨p0, b0, G0, z0⟩]⟩ ∧ Leaf wx B x ⟨l + 1, q + 2 ^ l, a1, t1, 1, [⟨p1, b1, G1, z1⟩]⟩) ∧ Hid (wx.cell? ⟨ar, 0, none⟩ = some (ptr a0) ∧ wx.cell? ⟨ar, 1, none⟩ = some (ptr a1) ∧ wd.heap.size ≤ ar) ∧ Hid ([a0, t0, a1, t1].Nodup ∧ wd.heap.size ≤ a0 ∧ wd.heap.size ≤ t0 ∧ wd.heap.size ≤ a1 ∧ wd.heap.size ≤ t1))
  case first =>
    go_region_held3 (fun w' => w'.cell? ⟨f.a, 0, none⟩ = some (.int .i64 (l : Nat))) (first | exact HCc.out _ HDw.out | exact HCc.out _ (step_below HDw (alloc_below _ _)).out | exact HCc.out _ (set2_below HDw.out (Nat.le_refl _)) | exact HCc.out _ (set2_below HDw.out HSx.out)) (first
      | (go_at_call 44; refine (HN0 _).mono ?_; rintro e wx ⟨hb, a0, rfl, h1, h2, h3, h4⟩; have HL0 := HM0.out _ wx a0 (by first | exact HDw.out | exact (step_below HDw (alloc_below _ _)).out) hb h1 h3 h4; have HQ0 : Hid (Below wd.heap.size wd wx) := (by first | exact step_below HDw hb | exact step_below (step_below HDw (alloc_below _ _)) hb); have HX0 : Hid (_ ∧ _) := ⟨HDw.out.size, h1⟩; have HSx : Hid (wd.heap.size ≤ wx.heap.size) := HQ0.out.size; (try (have HA0 : Hid (isArr wx wd.heap.size) := ((isArr.made wd.drew).keep hb))); replace HDw := HQ0; clear h3 h4 hb HN0)
      | (go_at_call 44; refine (HN1 _).mono ?_; rintro e wy ⟨hb', a1, rfl, h1', h2', h3', h4'⟩; have HL1 := HM1.out _ wy a1 (by first | exact HDw.out | exact (step_below HDw (alloc_below _ _)).out) hb' h1' h3' h4'; have HQ0' : Hid (Below wd.heap.size wd wy) := (by first | exact step_below HDw hb' | exact step_below (step_below HDw (alloc_below _ _)) hb'); have HX1 : Hid (_ ∧ _) := ⟨HDw.out.size, h1'⟩; have HSy : Hid (wd.heap.size ≤ wy.heap.size) := HQ0'.out.size; have HL0' : Leaf wy B x _ := (by first | exact HL0.keep hb' | exact (HL0.keep (alloc_below _ _)).keep hb'); replace HDw := HQ0'; (first | (obtain ⟨fa1, fa2, fa3, fa4⟩ := (HA0.out.keep hb').facts; have HA1 : Hid (isArr wy wd.heap.size) := HA0.out.keep hb') | (obtain ⟨fa1, fa2, fa3, fa4⟩ := ((isArr.made wx).keep hb').facts; have HA1 : Hid (isArr wy wx.heap.size) := (isArr.made wx).keep hb') | (obtain ⟨fa1, fa2, fa3, fa4⟩ := (isArr.made wy).facts; have HA1 : Hid (isArr (wy.alloc (.cells #[.pointer none, .pointer none] 286)) wy.heap.size) := isArr.made wy)); clear h3' h4' hb' HN1))
    · go_wp2
      go_meet
      have s0 : wd.drew.heap.size = wd.heap.size := rfl
      refine ⟨a0, _, a1, _, wy.heap.size, rfl, step_below HDw (alloc_below _ _), ⟨HL0'.keep (alloc_below _ _), HL1.keep (alloc_below _ _)⟩, ⟨by simp only [World.cell?, heap_alloc_new]; rfl, by simp only [World.cell?, heap_alloc_new]; rfl, HSy.out⟩, ?_⟩
      have x0 := HX0.out
      have x1 := HX1.out
      exact nod4 x0.2 h2 (Nat.le_refl _) x1.2 x0.1
    · go_wp2
      go_meet
      have s0 : wd.drew.heap.size = wd.heap.size := rfl
      have s1 := size_alloc wx (.cells #[.pointer none, .pointer none] 286)
      have x0 := HX0.out
      have x1 := HX1.out
      have l0 := HL0.fplt
      have l1 := HT.out.2.top.lt
      have l2 := HT.out.2.row.lt
      obtain ⟨k1, k2, k3⟩ := two_set (a0 := a0) (a1 := a1) HDw.out HA1.out HSx.out HL0' HL1 (fun hm => by have := (l0 _ hm).2; omega) (fun hm => by
        rcases fp_new hm with e | e | e | e <;> omega)
      exact ⟨a0, _, a1, _, wx.heap.size, rfl, k1, k2, k3, nod4 x0.2 h2 (by omega) x1.2 x0.1⟩
    · go_wp2
      go_meet
      have s1 : (wd.alloc (.cells #[.pointer none, .pointer none] 286)).drew.heap.size = wd.heap.size + 1 := size_alloc wd _
      have x0 := HX0.out
      have x1 := HX1.out
      have l1 := HT.out.1.top.lt
      have l2 := HT.out.1.row.lt
      have l3 := HT.out.2.top.lt
      have l4 := HT.out.2.row.lt
      obtain ⟨k1, k2, k3⟩ := two_set (a0 := a0) (a1 := a1) HDw.out HA1.out (Nat.le_refl _) HL0' HL1 (fun hm => by
        rcases fp_new hm with e | e | e | e <;> omega) (fun hm => by
        rcases fp_new hm with e | e | e | e <;> omega)
      exact ⟨a0, _, a1, _, wd.heap.size, rfl, k1, k2, k3, nod4 x0.2 h2 (Nat.le_refl _) x1.2 (by omega)⟩
  case rest =>
  obtain ⟨a0, t0, a1, t1, ar, rfl, HB5, HL5, HA5, HN5⟩ := hcut
  have HWc : Hid (Wide w wc B d x D l pb1 cap1 pl1) := (HW.out.keep HBb.out).keep HB5.out
  have hpbl : pb1 < wb.heap.size := (OwnR.lt HW.out.row (k := pb1) rfl).2.1
  have HH : Hid (Halfway w wc B d x D l q pb1 cap1 ar f.a ⟨l + 1, q, a0, t0, 1, [⟨p0, b0, G0, z0⟩]⟩ ⟨l + 1, q + 2 ^ l, a1, t1, 1, [⟨p1, b1, G1, z1⟩]⟩ q pl1) := by
    have n5 := HN5.out
    have s1 := HBb.out.size
    have v1 := HT.out.1.low
    have v2 := HT.out.1.lowb
    have v3 := HT.out.2.low
    have v4 := HT.out.2.lowb
    refine ⟨HWc.out.blk, HWc.out.row, ?_, HWc.out.stay, HL5.out.1, HL5.out.2, HA5.out.1, HA5.out.2.1, (HKp.out wc HWc.out.stay).1, HW.out.pbd hD, ?_, ?_, ?_, ?_, HW.out.pb⟩
    · intro i hi
      rw [HWc.out.pls i hi, if_neg ?_]
      rintro ⟨h1, h2⟩
      have := Nat.mod_le i (2 ^ l)
      omega
    · intro hm; rcases fp_new hm with e | e | e | e <;> omega
    · intro hm; rcases fp_new hm with e | e | e | e <;> omega
    · have := HA5.out.2.2; omega
    · rcases HW.out.pb with e | e
      · intro e2
        have h1 := (List.nodup_cons.1 (List.nodup_cons.1 hD.nod).2).1
        exact h1 (mem_fpL hf (by rw [← e, e2]; simp [Lf.fp]))
      · have := (hD.leaf f hf).lt; omega
  have HFin : Hid (∀ wr P place, 2 ^ max D.g (l + 1) ≤ place → Halfway w wr B d x D l q pb1 cap1 ar f.a ⟨l + 1, q, a0, t0, 1, [⟨p0, b0, G0, z0⟩]⟩ ⟨l + 1, q + 2 ^ l, a1, t1, 1, [⟨p1, b1, G1, z1⟩]⟩ place P → ∃ f0 f1 pb1 cap1 pl1, Splitted w wr B d x D f f0 f1 pb1 cap1 pl1) := by
    intro wr P place hp hH
    have n5 := HN5.out
    have s1 := HBb.out.size
    have s0 := HW.out.stay.size
    have v1 := HT.out.1.low
    have v2 := HT.out.1.lowb
    have v3 := HT.out.2.low
    have v4 := HT.out.2.lowb
    have v5 := HT.out.1.top.lt
    have v6 := HT.out.1.row.lt
    have v7 := HT.out.2.top.lt
    have v8 := HT.out.2.row.lt
    have u1 := HT.out.1.top.ne HT.out.1.row
    have u2 := HT.out.1.top.ne HT.out.2.row
    have u3 := HT.out.2.top.ne HT.out.1.row
    have u4 := HT.out.2.top.ne HT.out.2.row
    have u5 := HP.out.ne
    have u6 := HP.out.neb
    refine ⟨_, _, pb1, cap1, P, ⟨by rw [hfl]; exact hH.blk, by rw [hfl]; exact hH.row, ?_, hH.leaf0, hH.leaf1, by rw [hfl, hfq]; rfl, by rw [hfl, hfq]; rfl, ?_, ?_, rfl, rfl, ?_, ?_, hH.ap.2.2.2.2.2, ?_, hH.stay⟩⟩
    · intro i hi
      rw [hfl] at hi
      rw [hH.pls i hi, hfl, hfq]
      unfold plS half
      by_cases h1 : i % 2 ^ l = q
      · rw [if_pos ⟨h1, by omega⟩, if_pos h1]
      · rw [if_neg (fun h2 => h1 h2.1), if_neg h1]
    · show (tsEs _).Perm _
      rw [tsEs_one, HES.out, hfl]
      exact HZ.out.1
    · show (tsEs _).Perm _
      rw [tsEs_one, HES.out, hfl]
      exact HZ.out.2
    · intro j hj
      rcases List.mem_append.1 hj with hj | hj <;> rcases fp_new hj with e | e | e | e <;> omega
    · show ([a0, t0, p0, b0] ++ [a1, t1, p1, b1]).Nodup
      have n6 := n5.1
      simp only [List.nodup_cons, List.mem_cons, List.not_mem_nil, or_false, not_or, not_false_eq_true, List.nodup_nil, and_true, List.cons_append, List.nil_append] at n6 ⊢
      omega
    · intro hm
      rcases List.mem_append.1 hm with hm | hm
      · exact hH.ap.2.1 hm
      · exact hH.ap.2.2.1 hm
  generalize (⟨l + 1, q, a0, t0, 1, [⟨p0, b0, G0, z0⟩]⟩ : Lf) = f0 at HH HFin
  generalize (⟨l + 1, q + 2 ^ l, a1, t1, 1, [⟨p1, b1, G1, z1⟩]⟩ : Lf) = f1 at HH HFin
  have hown := HH.out.own
  have hmg : max D.g (l + 1) ≤ 16 := by omega
  have hPle := pow_le_16 hmg
  have hQle := pow_le_16 (k := l) (by omega)
  have hql := hlf.2.2
  have hip := ipow16 l (by omega)
  have HHw : Hid (∀ wr place P, Halfway w wr B d x D l q pb1 cap1 ar f.a f0 f1 place P → place < 2 ^ max D.g (l + 1) → place % 2 ^ l = q → ∀ n, Halfway w ((wr.setCell ⟨pb1, place, none⟩ (ptr (half l f0.a f1.a place))).drewN n) B d x D l q pb1 cap1 ar f.a f0 f1 (place + 2 ^ l) (P.set place (half l f0.a f1.a place))) := fun wr place P h1 h2 h3 n => (h1.step h2 h3).keep (below_drewN _ n)
  have HCe : Hid (∀ wr place P, Halfway w wr B d x D l q pb1 cap1 ar f.a f0 f1 place P → wr.cell? ⟨d, 2, none⟩ = some (.slice (some ⟨pb1, 0, none⟩) (2 ^ max D.g (l + 1)) cap1) ∧ wr.cell? ⟨f.a, 0, none⟩ = some (.int .i64 (l : Nat)) ∧ wr.cell? ⟨ar, 0, none⟩ = some (ptr f0.a) ∧ wr.cell? ⟨ar, 1, none⟩ = some (ptr f1.a)) := fun wr place P h1 => ⟨by simp [World.cell?, h1.blk], h1.own, h1.arr0, h1.arr1⟩
  have HSt : Hid (∀ wr place P, Halfway w wr B d x D l q pb1 cap1 ar f.a f0 f1 place P → place < 2 ^ max D.g (l + 1) → (∃ u, wr.cell? ⟨pb1, place, none⟩ = some (ptr u)) ∧ wr.frozen? ⟨pb1, place, none⟩ = false) := fun wr place P h1 h2 => ⟨(OwnP.set h1.row h2 0).1, (OwnP.set h1.row h2 0).2.1⟩
  generalize 2 ^ max D.g (l + 1) = T at hPle HFin HHw HCe HSt
  have HPm : Hid (∀ p, (p + 2 ^ l) % 2 ^ l = p % 2 ^ l) := fun p => Nat.add_mod_right p _
  have HQ0 : Hid (q % 2 ^ l = q) := Nat.mod_eq_of_lt hql
  have HDv : Hid (∀ p : Nat, (p : Int) / 2 ^ l = ((p / 2 ^ l : Nat) : Int)) := fun p => by simp
  have HHf : Hid (∀ p, (p / 2 ^ l % 2 = 0 ∧ half l f0.a f1.a p = f0.a) ∨ (p / 2 ^ l % 2 = 1 ∧ half l f0.a f1.a p = f1.a)) := by
    intro p
    unfold half
    rcases Nat.mod_two_eq_zero_or_one (p / 2 ^ l) with e | e
    · exact .inl ⟨e, if_pos e⟩
    · exact .inr ⟨e, if_neg (by rw [e]; decide)⟩
  clear HWc HL5 HA5 HN5 HB5 HCc HM0 HM1 HN0 HN1 HT HZ HP HBb HW HCM HKp hD hf eL hi HD HES ht hrow hpw hB0 HB0 HLb hwl cc0 HDw hpbl hlf hmg hgz
  generalize f0.a = fa0 at HHw HCe HHf
  generalize f1.a = fa1 at HHw HCe HHf
  go_wp2_with fail
  refine (HLo _).mono ?_
  rintro e wc ⟨rfl, rfl⟩
  clear HLo hown
  go_wp2
  go_loopg [9] (T + 2 ^ l - q) (fun n pv wr => ∃ (place : Nat) (P : List Nat), place + n = T + 2 ^ l ∧ pv = .int .i64 place ∧ Hid (place % 2 ^ l = q) ∧ Hid (Halfway w wr B d x D l q pb1 cap1 ar f.a f0 f1 place P))
  case atStart => exact ⟨q, pl1, by omega, rfl, HQ0, HH⟩
  case round =>
    clear HH
    obtain ⟨place, P, hpn, rfl, HPq, HH⟩ := hrel
    obtain ⟨k1, k2, k3, k4⟩ := HCe.out wr place P HH.out
    by_cases h8 : (place : Int) < T
    · obtain ⟨⟨u, hu⟩, hfz⟩ := HSt.out wr place P HH.out (by omega)
      have HN := HHw.out wr place P HH.out (by omega) HPq.out
      have HNq : Hid ((place + 2 ^ l) % 2 ^ l = q) := by show _ = _; rw [HPm.out, HPq.out]
      have hdv := HDv.out place
      have hHf := HHf.out place
      generalize half l fa0 fa1 place = hv at HN hHf
      generalize place / 2 ^ l = dv at hdv hHf
      have hpl : place ≤ 65536 := by omega
      have HQl : Hid (2 ^ l ≤ 65536) := hQle
      have hpos : 0 < 2 ^ l := pow_pos l
      obtain ⟨Q, hQ⟩ : ∃ Q, 2 ^ l = Q := ⟨_, rfl⟩
      have HQe : Hid (2 ^ l = Q) := hQ
      have HNq : Hid ((place + Q) % 2 ^ l = q) := by have := HNq.out; rw [hQ] at this; show _ = _; rw [hQ]; exact this
      rw [hQ] at HN hip hpn hQle hpos
      clear hQ HHf HDv HHw HSt HFin HCe HPm
      rcases hHf with ⟨e1, e2⟩ | ⟨e1, e2⟩
      · subst e2
        have hand : bits .and .i64 (dv : Int) 1 = 0 := by rw [i64_and1]; omega
        clear e1
        go_wp2_with fail
        go_region
        obtain ⟨wn, hwn⟩ : ∃ wn, (wr.setCell ⟨pb1, place, none⟩ (ptr hv)).drew = wn := ⟨_, rfl⟩
        have HNw : Hid (Halfway w wn B d x D l q pb1 cap1 ar f.a f0 f1 (place + Q) (P.set place hv)) := by show Halfway _ _ _ _ _ _ _ _ _ _ _ _ _ _ _ _; rw [← hwn]; exact HN 1
        rw [hwn]
        have hownn := HNw.out.own
        clear hwn HN hu hfz k1 k2 k3 k4 hand HH
        go_wp2
        go_roundg (gk - Q)
        case measure => omega
        case rel => exact ⟨place + Q, P.set place hv, by rw [HQe.out]; omega, by go_num, HNq, HNw⟩
      · subst e2
        have hand : bits .and .i64 (dv : Int) 1 = 1 := by rw [i64_and1]; omega
        clear e1
        go_wp2_with fail
        go_region
        obtain ⟨wn, hwn⟩ : ∃ wn, (wr.setCell ⟨pb1, place, none⟩ (ptr hv)).drew = wn := ⟨_, rfl⟩
        have HNw : Hid (Halfway w wn B d x D l q pb1 cap1 ar f.a f0 f1 (place + Q) (P.set place hv)) := by show Halfway _ _ _ _ _ _ _ _ _ _ _ _ _ _ _ _; rw [← hwn]; exact HN 1
        rw [hwn]
        have hownn := HNw.out.own
        clear hwn HN hu hfz k1 k2 k3 k4 hand HH
        go_wp2
        go_roundg (gk - Q)
        case measure => omega
        case rel => exact ⟨place + Q, P.set place hv, by rw [HQe.out]; omega, by go_num, HNq, HNw⟩
    · have HE := HFin.out wr P place (by omega) HH.out
      have HE1 : Hid (∃ f0 f1 pb1 cap1 pl1, Splitted w wr B d x D f f0 f1 pb1 cap1 pl1) := HE
      clear HE
      go_wp2
      go_end0
      exact ⟨rfl, HE1.out⟩
/-- How many keys belong to a part. -/
def cntIn (x : Nat) (ks : List ByteArray) (s : Pt) : Nat := (ks.filter fun k => isIn s (hsh x k)).length
theorem cntIn_perm {x : Nat} {ks ks' : List ByteArray} (h : ks.Perm ks') (s : Pt) : cntIn x ks s = cntIn x ks' s := (h.filter _).length_eq
/-- Which part a hash belongs to. -/
def pidx (sh : List Pt) (h : Nat) : Nat := sh.findIdx fun s => isIn s h
def grow (x : Nat) (ks : List ByteArray) (h : Nat) : Nat → Nat → List Pt → Nat × List Pt
  | 0, g, sh => (g, sh)
  | n + 1, g, sh =>
    match sh[pidx sh h]? with
    | some (l, q) => if l < 16 ∧ 112 ≤ cntIn x ks (l, q) then grow x ks h n (max g (l + 1)) (sh.set (pidx sh h) (l + 1, q) ++ [(l + 1, q + 2 ^ l)]) else (g, sh)
    | none => (g, sh)
theorem pidx_at {a c : List Pt} {s : Pt} {h : Nat} (hi : isIn s h = true) (ha : ∀ t ∈ a, isIn t h = false) : pidx (a ++ s :: c) h = a.length := by
  unfold pidx
  rw [List.findIdx_append, List.findIdx_eq_length.2 (by intro t ht; exact ha t ht)]
  simp [List.findIdx_cons, hi]
theorem grow_yes {x : Nat} {ks : List ByteArray} {h n g : Nat} {a c : List Pt} {l q : Nat} (hi : isIn (l, q) h = true) (ha : ∀ t ∈ a, isIn t h = false) (h1 : l < 16) (h2 : 112 ≤ cntIn x ks (l, q)) :
    grow x ks h (n + 1) g (a ++ (l, q) :: c) = grow x ks h n (max g (l + 1)) (a ++ (l + 1, q) :: (c ++ [(l + 1, q + 2 ^ l)])) := by
  rw [grow, pidx_at hi ha, List.getElem?_append_right (Nat.le_refl _), Nat.sub_self]
  simp only [List.getElem?_cons_zero]
  rw [if_pos ⟨h1, h2⟩, List.set_append_right _ _ (Nat.le_refl _), Nat.sub_self]
  simp
theorem grow_no {x : Nat} {ks : List ByteArray} {h n g : Nat} {a c : List Pt} {l q : Nat} (hi : isIn (l, q) h = true) (ha : ∀ t ∈ a, isIn t h = false) (h1 : ¬ (l < 16 ∧ 112 ≤ cntIn x ks (l, q))) :
    grow x ks h n g (a ++ (l, q) :: c) = (g, a ++ (l, q) :: c) := by
  cases n with
  | zero => rfl
  | succ n =>
    rw [grow, pidx_at hi ha, List.getElem?_append_right (Nat.le_refl _), Nat.sub_self]
    simp only [List.getElem?_cons_zero]
    rw [if_neg h1]
/-- The keys of a leaf are those of its part. -/
theorem Dct.keys_of {w : World} {B d x : Nat} {D : Dg} (h : Dct w B d x D) {La Lc : List Lf} {f : Lf} (e : D.L = La ++ f :: Lc) : (keysOf D.es).filter (fun k => isIn f.pt (hsh x k)) = keysOf f.es := by
  have hnod := h.nod
  rw [e, fpL_append, fpL_cons] at hnod
  obtain ⟨-, n2⟩ := List.nodup_cons.1 hnod
  obtain ⟨-, n4⟩ := List.nodup_cons.1 n2
  rw [List.nodup_append, List.nodup_append] at n4
  obtain ⟨-, ⟨-, -, n8⟩, n9⟩ := n4
  have hf : f ∈ D.L := by rw [e]; simp
  have hno : ∀ (M : List Lf), (∀ u ∈ M, u ∈ D.L ∧ u ≠ f) → (keysOf (esL M)).filter (fun k => isIn f.pt (hsh x k)) = [] := by
    intro M hM
    rw [List.filter_eq_nil_iff]
    intro k hk hd
    obtain ⟨en, he, rfl⟩ := List.mem_map.1 hk
    obtain ⟨u, hu, he⟩ := List.mem_flatMap.1 he
    exact (hM u hu).2 (h.same (hM u hu).1 hf (h.own u (hM u hu).1 en he) hd)
  have ha : ∀ u ∈ La, u ∈ D.L ∧ u ≠ f := fun u hu => ⟨by rw [e]; simp [hu], fun e2 => by subst e2; exact n9 u.a (mem_fpL hu (by simp [Lf.fp])) u.a (by simp [Lf.fp]) rfl⟩
  have hc : ∀ u ∈ Lc, u ∈ D.L ∧ u ≠ f := fun u hu => ⟨by rw [e]; simp [hu], fun e2 => by subst e2; exact n8 u.a (by simp [Lf.fp]) u.a (mem_fpL hu (by simp [Lf.fp])) rfl⟩
  unfold Dg.es
  rw [e, esL_append, esL_cons, keysOf_append, keysOf_append, List.filter_append, List.filter_append, hno La ha, hno Lc hc, List.nil_append, List.append_nil, List.filter_eq_self]
  intro k hk
  obtain ⟨en, he, rfl⟩ := List.mem_map.1 hk
  exact h.own f hf en he
theorem Dct.cnt_of {w : World} {B d x : Nat} {D : Dg} (h : Dct w B d x D) {La Lc : List Lf} {f : Lf} (e : D.L = La ++ f :: Lc) : cntIn x (keysOf D.es) f.pt = f.es.length := by
  unfold cntIn
  rw [h.keys_of e, List.length_map]
set_option maxRecDepth 100000 in
set_option maxHeartbeats 8000000 in
theorem PutD_new (B d x : Nat) (D : Dg) (k : ByteArray) (v : Int) (w : World) (hD : Dct w B d x D) (hks : k.size ≤ maxLen) (hk : k ∉ keysOf D.es) (hle : D.es.length < 1000000) :
    Calls Tryz.prog 85 #[ptr d, .string k, .int .u64 v] w fun e w' => e = .returned (.int .i64 0) ∧ ∃ D', Turn w w' B d x D D' ∧ (D'.g, D'.sh) = grow x (keysOf D.es) (hsh x k) 17 D.g D.sh ∧ D'.es.Perm (D.es ++ [(k, v)]) := by
  obtain ⟨La, f, Lc, eL, hi, h2, h3⟩ := hD.parts (hsh x k)
  have hf : f ∈ D.L := by rw [eL]; simp
  have HD : Hid (Dct w B d x D) := hD
  have Hf : Hid (f ∈ D.L) := hf
  have hc := hD.cseed
  have hx := hD.seed
  have HOf := fun w => Of_hsh x k w hks hx
  have HLf := fun w hD => leafOf_any B d x D f (hsh x k) w hD hf hi (hsh_lt x k)
  have HHo := fun w hL => holder_no B x f k w hL hks (fun hm => hk ((hD.memk eL h2 h3).2 hm))
  have HKS : Hid (k.size ≤ maxLen) := hks
  have HK : Hid (k ∉ keysOf D.es) := hk
  have HLe : Hid (D.es.length < 1000000) := hle
  have HHs : Hid (hsh x k = hsh x k) := rfl
  obtain ⟨h, eh⟩ : ∃ h, hsh x k = h := ⟨_, rfl⟩
  have HEh : Hid (hsh x k = h) := eh
  have hh : h < 18446744073709551616 := by rw [← eh]; exact hsh_lt x k
  rw [eh] at HOf HLf ⊢
  obtain ⟨R, hR⟩ : ∃ R, grow x (keysOf D.es) h 17 D.g D.sh = R := ⟨_, rfl⟩
  have HR : Hid (grow x (keysOf D.es) h 17 D.g D.sh = R) := hR
  rw [hR]
  clear hD hk hks hle hi h2 h3 eL hf eh hR HHs
  go_enter Tryz.func85, Tryz.ntmps85
  go_wp2_with fail
  refine (HOf _).mono ?_
  rintro e w ⟨rfl, rfl⟩
  go_wp2_with fail
  refine (HLf _ HD.out).mono ?_
  rintro e w1 ⟨rfl, hb1⟩
  have HB1 : Hid (Below w.heap.size w w1) := hb1
  have hHo := HHo _ ((HD.out.keep hb1).leaf f Hf.out)
  clear HOf HLf HHo hb1
  go_wp2_with fail
  refine hHo.mono ?_
  rintro e w2 ⟨rfl, hb2⟩
  have HB2 := step_below HB1 hb2
  have HT2 : Hid (Turn w w2 B d x D D) := Turn.refl HD.out HB2.out
  clear hb2 hHo HB1 hc Hf HB2
  go_wp2
  go_loopg [] 17 (fun n wr => ∃ D1, Hid (Turn w wr B d x D D1) ∧ Hid (D1.es.Perm D.es) ∧ Hid (grow x (keysOf D.es) h n D1.g D1.sh = R) ∧ Hid (∀ f ∈ D1.L, isIn f.pt h = true → 16 < f.l + n))
  case atStart => exact ⟨D, HT2, List.Perm.refl _, HR, (fun f _ _ => by omega : ∀ f ∈ D.L, isIn f.pt h = true → 16 < f.l + 17)⟩
  case round =>
    clear HT2 HR
    obtain ⟨D1, HT, HPm, HR, HMe⟩ := hrel
    have hD1 := HT.out.dct
    obtain ⟨La, f, Lc, eL, hi, h2, h3⟩ := hD1.parts h
    have hf : f ∈ D1.L := by rw [eL]; simp
    have HLf := fun w hD => leafOf_any B d x D1 f h w hD hf hi hh
    have hlf := hD1.lef hf
    have HSp := fun w hL => splits_any B x f w hL hlf.2.1 (hD1.les hf)
    have HeL : Hid (D1.L = La ++ f :: Lc) := eL
    have Hf : Hid (f ∈ D1.L) := hf
    have Hi : Hid (isIn f.pt h = true) := hi
    have Ha : Hid (∀ u ∈ La, isIn u.pt h = false) := h2
    have Hcc : Hid (∀ u ∈ Lc, isIn u.pt h = false) := h3
    have HD1 : Hid (Dct wr B d x D1) := hD1
    have HCn : Hid (cntIn x (keysOf D.es) f.pt = f.es.length) := by show _ = _; rw [cntIn_perm (HPm.out.map (·.1)).symm]; exact hD1.cnt_of eL
    have HshE : Hid (D1.sh = shL La ++ (f.l, f.q) :: shL Lc) := by show _ = _; unfold Dg.sh shL; rw [eL, List.map_append]; rfl
    have Ha2 : Hid (∀ s ∈ shL La, isIn s h = false) := fun s hs => by obtain ⟨u, hu, rfl⟩ := List.mem_map.1 hs; exact h2 u hu
    have hme := HMe.out f hf hi
    clear hD1 hf hi h2 h3 eL
    go_wp2_with fail
    refine (HLf _ HD1.out).mono ?_
    rintro e w3 ⟨rfl, hb3⟩
    have HB3 : Hid (Below wr.heap.size wr w3) := hb3
    have hSp := HSp _ ((HD1.out.keep hb3).leaf f Hf.out)
    clear hb3
    go_wp2_with fail
    refine hSp.mono ?_
    rintro e w3 ⟨rfl, rfl⟩
    clear hSp HSp
    by_cases hb : f.l < 16 ∧ 112 ≤ f.es.length
    · have hbb : (decide (f.l < 16) && decide (112 ≤ f.es.length)) = true := by rw [decide_eq_true hb.1, decide_eq_true hb.2]; rfl
      have hS := split_any B d x D1 La Lc f h w3 (HD1.out.keep HB3.out) HeL.out Hi.out hb.1 hh
      have HBo : Hid (f.l < 16 ∧ 112 ≤ f.es.length) := hb
      clear hb HLf
      rw [hbb]
      go_wp2_with fail
      refine hS.mono ?_
      rintro e w4 ⟨rfl, f0, f1, pb1, cap1, pl1, hSS⟩
      obtain ⟨hT4, hp4⟩ := (HD1.out.keep HB3.out).split HeL.out HBo.out.1 hSS
      have HT4 : Hid (Turn w w4 B d x D ⟨max D1.g (f.l + 1), pb1, cap1, pl1, La ++ f0 :: (Lc ++ [f1])⟩) := HT.out.trans (hT4.first HB3.out)
      have HP4 : Hid ((⟨max D1.g (f.l + 1), pb1, cap1, pl1, La ++ f0 :: (Lc ++ [f1])⟩ : Dg).es.Perm D.es) := hp4.trans HPm.out
      obtain ⟨n, rfl⟩ : ∃ n, gk = n + 1 := ⟨gk - 1, by have := HBo.out.1; omega⟩
      have HR4 : Hid (grow x (keysOf D.es) h n (max D1.g (f.l + 1)) (⟨max D1.g (f.l + 1), pb1, cap1, pl1, La ++ f0 :: (Lc ++ [f1])⟩ : Dg).sh = R) := by
        have := HR.out
        rw [HshE.out, grow_yes (a := shL La) (c := shL Lc) (l := f.l) (q := f.q) Hi.out Ha2.out HBo.out.1 (by have := HCn.out; unfold Lf.pt at this; rw [this]; exact HBo.out.2)] at this
        have e1 : (⟨max D1.g (f.l + 1), pb1, cap1, pl1, La ++ f0 :: (Lc ++ [f1])⟩ : Dg).sh = shL La ++ (f.l + 1, f.q) :: (shL Lc ++ [(f.l + 1, f.q + 2 ^ f.l)]) := by
          show shL _ = _
          unfold shL
          rw [List.map_append, List.map_cons, List.map_append, hSS.pt0]
          show _ ++ _ :: (_ ++ [f1.pt]) = _
          rw [hSS.pt1]
        show grow _ _ _ _ _ _ = _
        rw [e1]
        exact this
      have HM4 : Hid (∀ u ∈ La ++ f0 :: (Lc ++ [f1]), isIn u.pt h = true → 16 < u.l + n) := by
        intro u hu hiu
        simp only [List.mem_append, List.mem_cons, List.not_mem_nil, or_false] at hu
        rcases hu with hu | rfl | hu | rfl
        · rw [Ha.out u hu] at hiu; cases hiu
        · have := congrArg Prod.fst hSS.pt0
          simp only [Lf.pt] at this
          omega
        · rw [Hcc.out u hu] at hiu; cases hiu
        · have := congrArg Prod.fst hSS.pt1
          simp only [Lf.pt] at this
          omega
      clear hS hSS hT4 hp4 hbb
      go_wp2
      go_roundg n
      case measure => omega
      case rel => exact ⟨_, HT4, HP4, HR4, HM4⟩
    · have hbb : (decide (f.l < 16) && decide (112 ≤ f.es.length)) = false := by
        rw [Bool.and_eq_false_iff, decide_eq_false_iff_not, decide_eq_false_iff_not]
        by_cases h1 : f.l < 16
        · exact .inr (fun h2 => hb ⟨h1, h2⟩)
        · exact .inl h1
      have HBn : Hid (¬ (f.l < 16 ∧ 112 ≤ f.es.length)) := hb
      have HR5 : Hid ((D1.g, D1.sh) = R) := by
        have := HR.out
        rw [HshE.out, grow_no (a := shL La) (c := shL Lc) (l := f.l) (q := f.q) Hi.out Ha2.out (by have h9 := HCn.out; unfold Lf.pt at h9; rw [h9]; exact hb), ← HshE.out] at this
        exact this
      rw [hbb]
      clear hb hbb
      have HD3 : Hid (Dct w3 B d x D1) := HD1.out.keep HB3.out
      have HT3 : Hid (Turn w w3 B d x D D1) := HT.out.trans (Turn.refl HD1.out HB3.out)
      have HKf : Hid (k ∉ keysOf f.es) := fun hm => by
        obtain ⟨en, he, h1⟩ := List.mem_map.1 hm
        exact HK.out (List.mem_map.2 ⟨en, HPm.out.mem_iff.1 (mem_esL Hf.out he), h1⟩)
      have HLf3 : ∀ w', Below w3.heap.size w3 w' → Calls Tryz.prog 134 #[ptr d, .int .u64 h] w' fun e w'' => e = .returned (ptr f.a) ∧ Below w'.heap.size w' w'' := fun w' hb => leafOf_any B d x D1 f h w' (HD3.out.keep hb) Hf.out Hi.out hh
      have HAd : ∀ w', Below w3.heap.size w3 w' → Calls Tryz.prog 140 #[ptr f.a, .int .u64 x, .string k, .int .u64 v] w' fun e w'' => e = .returned (.tuple #[]) ∧ Added w3 w'' B x f k v := fun w' hb => by
        refine (add_leaf B x f k v w' ((HD3.out.keep hb).leaf f Hf.out) hx HKS.out HKf.out (by have h1 := (HD3.out.ful f Hf.out).le; have h2 := HD3.out.les Hf.out; omega) (by have h1 := (HD3.out.keep hb).low; have h2 := (HD3.out.keep hb).lt; omega)).mono ?_
        rintro e w'' ⟨rfl, f', hG, hp, ho, hfu⟩
        exact ⟨rfl, f', hG.first hb, hp, ho, hfu⟩
      have HSd : Hid (∀ w', Below w3.heap.size w3 w' → w'.cell? ⟨d, 0, none⟩ = some (.int .u64 (x : Nat))) := fun w' hb => (HD3.out.keep hb).cseed
      have HSd2 : Hid (∀ w', Added w3 w' B x f k v → w'.cell? ⟨d, 0, none⟩ = some (.int .u64 (x : Nat))) := fun w' hA => by
        obtain ⟨f', hG, -⟩ := hA
        rw [World.cell?_of_block (hG.stay.block d HD3.out.lt (HD3.out.apart Hf.out))]
        exact HD3.out.cseed
      have HDw : Hid (Below w3.heap.size w3 w3.drew) := below_drewN w3 1
      clear HLf HB3 HT HD1
      go_upto_region 7 with fail
      go_cut [] from 33 to 42 (fun wx => Hid (Added w3 wx B x f k v))
      case first =>
        go_region_held3 (fun w' => w'.cell? ⟨d, 0, none⟩ = some (.int .u64 (x : Nat))) (first | exact HSd.out _ HDw.out | exact HSd2.out _ HAz.out) (first
          | (go_at_call 134; refine (HLf3 _ HDw.out).mono ?_; rintro e wx ⟨rfl, hb⟩; replace HDw := step_below HDw hb; clear hb)
          | (go_at_call 140; refine (HAd _ HDw.out).mono ?_; rintro e wz ⟨rfl, hA⟩; have HAz : Hid (Added w3 wz B x f k v) := hA; clear hA))
        go_wp2
        go_meet
        exact HAz
      case rest =>
      clear HDw HSd HSd2 HAd HLf3
      obtain ⟨f', hG, hp, hone, hful⟩ := hcut.out
      have hD3 := HD3.out
      have hblk : wc.heap[d]? = w3.heap[d]? := hG.stay.block d hD3.lt (hD3.apart Hf.out)
      have hc2 : wc.cell? ⟨d, 1, none⟩ = some (.int .i64 (D1.es.length : Nat)) := by rw [World.cell?_of_block hblk]; exact hD3.ccnt
      have hf2 : wc.frozen? ⟨d, 1, none⟩ = false := by have := hD3.blk; rw [← hblk] at this; simp [World.frozen?, this]
      have hPm2 : (esL (La ++ f' :: Lc)).Perm (D1.es ++ [(k, v)]) := by
        unfold Dg.es
        rw [HeL.out, esL_append, esL_append, esL_cons, esL_cons, List.append_assoc]
        refine List.Perm.append_left _ ?_
        refine (hp.append_right _).trans ?_
        rw [List.append_assoc, List.append_assoc]
        exact List.Perm.append_left _ List.perm_append_comm
      have hlen : (esL (La ++ f' :: Lc)).length = D1.es.length + 1 := by rw [hPm2.length_eq, List.length_append]; rfl
      have hle1 : D1.es.length < 1000000 := by rw [HPm.out.length_eq]; exact HLe.out
      have HRR : Hid (∃ D', Turn w (wc.setCell ⟨d, 1, none⟩ (.int .i64 ((esL (La ++ f' :: Lc)).length : Nat))) B d x D D' ∧ (D'.g, D'.sh) = R ∧ D'.es.Perm (D.es ++ [(k, v)])) := by
        have hT := hD3.turn HeL.out hG (w'' := wc.setCell ⟨d, 1, none⟩ (.int .i64 ((esL (La ++ f' :: Lc)).length : Nat))) (by have := hD3.blk; rw [← hblk] at this; rw [heap_set this]; rfl) Stay.set ?_ ?_ ?_ (by omega)
        · refine ⟨_, HT3.out.trans hT, ?_, hPm2.trans (HPm.out.append_right _)⟩
          have e1 : f'.pt = f.pt := by unfold Lf.pt; rw [hG.l, hG.q]
          rw [← HR5.out]
          refine Prod.ext rfl ?_
          show shL _ = shL _
          unfold shL
          rw [HeL.out, List.map_append, List.map_append, List.map_cons, List.map_cons, e1]
        · intro en he
          rcases List.mem_append.1 (hp.mem_iff.1 he) with he | he
          · exact hD3.own f Hf.out en he
          · rw [List.mem_singleton.1 he]
            show isIn f.pt (hsh x k) = true
            rw [HEh.out]
            exact Hi.out
        · intro hl
          have h1 := hD3.one f Hf.out hl
          refine hone h1 ?_
          rcases Nat.lt_or_ge f.es.length 112 with h5 | h5
          · exact h5
          · exact absurd ⟨hl, h5⟩ HBn.out
        · exact hful (hD3.ful f Hf.out)
      generalize hn : (esL (La ++ f' :: Lc)).length = n at hlen HRR
      generalize D1.es.length = m at hlen hc2 hle1
      have hnz : (m : Int) + 1 = (n : Nat) := by omega
      clear hG hp hone hful hD3 hblk hPm2 hn hcut hlen
      go_wp2
      go_ret
      exact ⟨rfl, HRR.out⟩
/-- The letters of the n-th name, from the i-th on. -/
def letter (n : Nat) : ByteArray := Utf8.encode (97 + ((n % 26 : Nat) : Int))
def nmF : Nat → ByteArray → Nat → ByteArray
  | 0, s, _ => s
  | i + 1, s, n => nmF i (s ++ letter n) (n / 26)
/-- The n-th name. -/
def nm (n : Nat) : ByteArray := nmF 4 ⟨#[107]⟩ n
end Go.Proofs.YtnajhjmdpaeelaaGreatDoor.Zs.Dk
