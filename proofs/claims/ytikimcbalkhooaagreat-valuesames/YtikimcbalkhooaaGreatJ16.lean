/- Texts that the others stand on. -/
import Derived.Test.YtikimcbalkhooaaGreatJ7
import Derived.Test.YtikimcbalkhooaaGreatJ15
import Derived.Deep.RegionLaw
import Derived.Test.YtikimcbalkhooaaGreatProg
import Derived.WalkKit
import Derived.WalkSpells
import Derived.PlainAid
import Derived.Laws.BitsAllLaws
import Derived.Laws.IdiomStrings
import Derived.Deep.LoopGhost
import Derived.Deep.Cut
import Derived.Lib.IndexBytes
import Derived.Elder7
import Derived.Test.YtikimcbalkhooaaGreatJ8
import Derived.Laws.CopyOwn
import Derived.Lib.Overlaps
import Derived.Lib.SliceRun
import Derived.Lib.AppendZerosOnto
namespace Go.Proofs.YtikimcbalkhooaaGreat.Zs.Dk
open Go.Proofs.YtikimcbalkhooaaGreat.Dk
open Go.RowKit Go.PlainAid
theorem OwnR.rd {w : World} {B : Nat} {e : TypeId} {a : Option Addr} {n cap : Nat} {cs : List Value} (h : OwnR w B e 1 a n cap cs) : RdR w a n cap cs := by
 have hl := h.len
 rw [Nat.mul_one] at hl
 refine ⟨hl, h.cap.1, h.cap.2, ?_, ?_⟩
 ·intro ha
  rcases h.2 with ⟨h2, h3⟩ | ⟨g, c, cur, h1, h3⟩
  ·cases h2; rfl
  ·cases h1; cases ha
 ·intro j u hu
  have hj : j < cs.length := by
   rcases Nat.lt_or_ge j cs.length with h | h
   ·exact h
   ·rw [List.getElem?_eq_none h] at hu; cases hu
  obtain ⟨g, ha, hc⟩ := h.at (by omega)
  exact ⟨g, 0, ha, by rw [Nat.zero_add]; exact hc j u hu⟩
theorem run_append_p (w : World) (B : Nat) {t e : TypeId} {by8 : Nat} (F : Elt t e 1 by8) {a : Option Addr} {n cap : Nat} {cs : List Value} (hown : OwnR w B e 1 a n cap cs) {a' : Option Addr} {n' cap' : Nat} {rs : List Value} (hr : RdR w a' n' cap' rs)
  (h1 : ∀ u ∈ rs, u.oneCell' = true) (hb : (n + n') * by8 ≤ 140737488355328) (h63 : n + n' ≤ maxLen) (hB : B ≤ w.heap.size) (ty : TypeId) :
  ∃ a2 c2 w2, (Builtin.append_ #[t, t] ty #[.slice a n cap, .slice a' n' cap']).run Tryz.prog w = .ok (.slice a2 (n + n') c2) w2 ∧ OwnR w2 B e 1 a2 (n + n') c2 (cs ++ rs) ∧ w.grownBy w2 (a.map (·.block)) := by
 obtain ⟨i, z, hi, hz0, hz1, hz2, hz3⟩ := F.inf
 have hblk : (Value.slice a n cap).ownBlock = a.map (·.block) := by cases a <;> rfl
 cases a' with
 | none =>
  have hc0 := hr.nul rfl
  have hf := hr.fit
  have hn0 : n' = 0 := by omega
  subst hn0
  subst hc0
  have hr0 : rs = [] := List.length_eq_zero_iff.1 hr.len
  subst hr0
  refine ⟨a, cap, w, ?_, by rw [List.append_nil]; exact hown, ⟨rfl, rfl, rfl, Nat.le_refl _, fun _ _ _ => rfl⟩⟩
  exact run_append_owned_none (P := Tryz.prog) w B t ty e i 1 F.und hi (.slice a n cap) n cs hown
 | some ad =>
  have hnews : ∀ j u, rs[j]? = some u → w.cell? (ad.add j) = some u := fun j u hu => by
   obtain ⟨b, off, ea, hc⟩ := hr.cell j u hu
   cases ea
   rw [add_flat]; exact hc
  obtain ⟨v', w', k1, k2, k3, -⟩ := run_append_own_at (P := Tryz.prog) w B t ty e i z 1 by8 F.und hi hz0 hz1 hz2 hz3 F.pos (.slice a n cap) n cs hown ad n' cap' rs (by rw [hr.len]; omega) hnews h1 h63 hb hB
  rw [hblk] at k3
  rcases k2.2 with ⟨rfl, h4⟩ | ⟨g2, c2, cur, rfl, h4⟩
  ·refine ⟨none, 0, w', by rw [k1, h4], ?_, k3⟩
   rw [h4] at k2 ⊢
   exact k2
  ·exact ⟨_, _, w', k1, k2, k3⟩
end Go.Proofs.YtikimcbalkhooaaGreat.Zs.Dk
namespace Go.Proofs.YtikimcbalkhooaaGreat.Zs.Dk
open Go.Proofs.YtikimcbalkhooaaGreat.Dk
end Go.Proofs.YtikimcbalkhooaaGreat.Zs.Dk
namespace Go.Proofs.YtikimcbalkhooaaGreat.Zs.Dk
open Go.Proofs.YtikimcbalkhooaaGreat.Dk
open Go.RowKit Go.PlainAid
end Go.Proofs.YtikimcbalkhooaaGreat.Zs.Dk
namespace Go.Proofs.YtikimcbalkhooaaGreat.Zs.Dk
open Go.Proofs.YtikimcbalkhooaaGreat.Dk
end Go.Proofs.YtikimcbalkhooaaGreat.Zs.Dk
namespace Go.Proofs.YtikimcbalkhooaaGreat.Zs.Dk
open Go.Proofs.YtikimcbalkhooaaGreat.Dk
open Go.RowKit Go.PlainAid
theorem Top.stay {w w' : World} {p b x G : Nat} {M : List Nat} (h : Top w p b x G) (hs : Stay w w' M) (hp : p ∉ M) : Top w' p b x G := h.kept (hs.block p h.lt hp)
theorem Tab.stay {w w' : World} {B p b x G : Nat} {z : List Cl} {M : List Nat} (h : Tab w B p b x G z) (hs : Stay w w' M) (hp : p ∉ M) (hb : b ∉ M) : Tab w' B p b x G z :=
 ⟨h.top.stay hs hp, h.row.kept (hs.block b h.row.lt hb), h.low, h.lowb, h.inv, h.seed, h.siz⟩
theorem Tab.lower {w : World} {B C p b x G : Nat} {z : List Cl} (h : Tab w B p b x G z) (hC : C ≤ B) : Tab w C p b x G z :=
 ⟨h.top, h.row, Nat.le_trans hC h.low, Nat.le_trans hC h.lowb, h.inv, h.seed, h.siz⟩
theorem OwnR.stay {w w' : World} {B : Nat} {e : TypeId} {s : Nat} {a : Option Addr} {n cap : Nat} {cs : List Value} {M : List Nat} (h : OwnR w B e s a n cap cs) (hs : Stay w w' M) (hd : ∀ k, a.map (·.block) = some k → k ∉ M) : OwnR w' B e s a n cap cs :=
 h.kept fun k hk => hs.block k (h.lt hk).2.1 (hd k hk)
theorem append_p {w : World} {ops : Array Oper} {rest : List Oper} {o : Oper} {ac : Act} {Q : Exit → Act → World → Prop} (hgd : o.guard = none) (s x : Operand) {t e : TypeId} {by8 : Nat} (ho : o.op = .call { callee := .builtin .append, args := #[s, x], argTypes := #[t, t] })
  (F : Elt t e 1 by8) (B : Nat) {a : Option Addr} {n cap : Nat} {cs : List Value} (hs : ac.eval s = .slice a n cap) (hown : OwnR w B e 1 a n cap cs) {a' : Option Addr} {n' cap' : Nat} {rs : List Value} (hx : ac.eval x = .slice a' n' cap') (hr : RdR w a' n' cap' rs)
  (h1 : ∀ u ∈ rs, u.oneCell' = true) (hb : (n + n') * by8 ≤ 140737488355328) (h63 : n + n' ≤ maxLen) (hB : B ≤ w.heap.size)
  (h : ∀ a2 n2 c2 w2, n2 = n + n' → Hid (OwnR w2 B e 1 a2 n2 c2 (cs ++ rs)) → Hid (w.grownBy w2 (a.map (·.block))) → wpList Tryz.prog ops Q rest (ac.put o.dst (.slice a2 n2 c2)) w2) : wpList Tryz.prog ops Q (o :: rest) ac w := by
 obtain ⟨a2, c2, w2, k1, k2, k3⟩ := run_append_p w B F hown hr h1 hb h63 hB o.type
 refine wpList_plain hgd fun K hK => ?_
 unfold Oper.wp
 simp [execOp, ho, resolve, invoke, builtin, hs, hx, k1, Result.andThen]
 exact hK _ _ (h a2 _ c2 w2 rfl k2 k3)
abbrev OwnP (w : World) (B : Nat) (e : TypeId) (a : Option Addr) (n cap : Nat) (ls : List Nat) : Prop := OwnR w B e 1 a n cap (pcells ls)
theorem Tryz.infoT : (Tryz.prog.info? 137).map (fun i => (i.zero, i.size, i.bytes)) = some (some (.pointer none), 1, 8) := by kernel_rfl
theorem Tryz.infoL : (Tryz.prog.info? 138).map (fun i => (i.zero, i.size, i.bytes)) = some (some (.pointer none), 1, 8) := by kernel_rfl
theorem eltT : Elt 191 137 1 8 := elt_of Tryz.underlying191 Tryz.infoT rfl (by decide)
theorem eltL : Elt 134 138 1 8 := elt_of Tryz.underlying134 Tryz.infoL rfl (by decide)
theorem OwnP.len {w : World} {B : Nat} {e : TypeId} {a : Option Addr} {n cap : Nat} {ls : List Nat} (h : OwnP w B e a n cap ls) : ls.length = n := by have := OwnR.len h; simpa [pcells] using this
theorem OwnP.cell {w : World} {B : Nat} {e : TypeId} {g n cap : Nat} {ls : List Nat} (h : OwnP w B e (some ⟨g, 0, none⟩) n cap ls) {j p : Nat} (hj : ls[j]? = some p) : w.cell? ⟨g, j, none⟩ = some (ptr p) := by
 have hl := OwnP.len h
 have hlt : j < ls.length := by
  rcases Nat.lt_or_ge j ls.length with h1 | h1
  ·exact h1
  ·rw [List.getElem?_eq_none h1] at hj; cases hj
 obtain ⟨g', h1, h2⟩ := OwnR.at h (by omega)
 cases h1
 exact h2 _ _ (by rw [pcells, List.getElem?_map, hj]; rfl)
structure Tb where
 p : Nat
 b : Nat
 G : Nat
 z : List Cl
def Tb.es (t : Tb) : List En := ents t.z
def Tb.fp (t : Tb) : List Nat := [t.p, t.b]
def tsEs (ts : List Tb) : List En := ts.flatMap Tb.es
def tsFp (ts : List Tb) : List Nat := ts.flatMap Tb.fp
structure Lf where
 l : Nat
 q : Nat
 a : Nat
 tb : Nat
 cap : Nat
 ts : List Tb
def Lf.es (f : Lf) : List En := tsEs f.ts
def Lf.fp (f : Lf) : List Nat := f.a :: f.tb :: tsFp f.ts
def Lf.pt (f : Lf) : Pt := (f.l, f.q)
theorem tsEs_append (a b : List Tb) : tsEs (a ++ b) = tsEs a ++ tsEs b := List.flatMap_append ..
theorem tsEs_cons (t : Tb) (b : List Tb) : tsEs (t :: b) = t.es ++ tsEs b := List.flatMap_cons ..
theorem tsEs_one (t : Tb) : tsEs [t] = t.es := by rw [tsEs_cons]; exact List.append_nil _
theorem tsFp_append (a b : List Tb) : tsFp (a ++ b) = tsFp a ++ tsFp b := List.flatMap_append ..
theorem tsFp_cons (t : Tb) (b : List Tb) : tsFp (t :: b) = t.p :: t.b :: tsFp b := by rw [tsFp, List.flatMap_cons]; rfl
theorem mem_tsFp {ts : List Tb} {t : Tb} (h : t ∈ ts) : t.p ∈ tsFp ts ∧ t.b ∈ tsFp ts :=
 ⟨List.mem_flatMap.2 ⟨t, h, by simp [Tb.fp]⟩, List.mem_flatMap.2 ⟨t, h, by simp [Tb.fp]⟩⟩
structure Leaf (w : World) (B x : Nat) (f : Lf) : Prop where
 blk : w.heap[f.a]? = some (.cells #[.int .i64 (f.l : Nat), .slice (some ⟨f.tb, 0, none⟩) f.ts.length f.cap] 193 (0, 0))
 row : OwnP w B 137 (some ⟨f.tb, 0, none⟩) f.ts.length f.cap (f.ts.map (·.p))
 tab : ∀ t ∈ f.ts, Tab w B t.p t.b x t.G t.z
 low : B ≤ f.a
 nod : f.fp.Nodup
 key : (keysOf f.es).Nodup
 pos : 0 < f.ts.length
theorem Leaf.lt {w : World} {B x : Nat} {f : Lf} (h : Leaf w B x f) : f.a < w.heap.size := (Array.getElem?_eq_some_iff.1 h.blk).1
theorem Leaf.fplt {w : World} {B x : Nat} {f : Lf} (h : Leaf w B x f) : ∀ k ∈ f.fp, B ≤ k ∧ k < w.heap.size := by
 intro k hk
 rcases List.mem_cons.1 hk with rfl | hk
 ·exact ⟨h.low, h.lt⟩
 rcases List.mem_cons.1 hk with rfl | hk
 ·have := OwnR.lt h.row (k := f.tb) rfl
  exact ⟨this.1, this.2.1⟩
 ·obtain ⟨t, ht, hk⟩ := List.mem_flatMap.1 hk
  have hT := h.tab t ht
  simp only [Tb.fp, List.mem_cons, List.not_mem_nil, or_false] at hk
  rcases hk with rfl | rfl
  ·exact ⟨hT.low, hT.top.lt⟩
  ·exact ⟨hT.lowb, hT.row.lt⟩
theorem Leaf.stay {w w' : World} {B x : Nat} {f : Lf} {M : List Nat} (h : Leaf w B x f) (hs : Stay w w' M) (hd : ∀ k ∈ f.fp, k ∉ M) : Leaf w' B x f := by
 refine ⟨by rw [hs.block f.a h.lt (hd _ (by simp [Lf.fp]))]; exact h.blk, OwnR.stay h.row hs (fun k hk => hd k (by cases hk; simp [Lf.fp])), fun t ht => (h.tab t ht).stay hs (hd _ ?_) (hd _ ?_), h.low, h.nod, h.key, h.pos⟩
 ·exact List.mem_cons_of_mem _ (List.mem_cons_of_mem _ (mem_tsFp ht).1)
 ·exact List.mem_cons_of_mem _ (List.mem_cons_of_mem _ (mem_tsFp ht).2)
theorem Leaf.keep {w w' : World} {B x : Nat} {f : Lf} (h : Leaf w B x f) (hb : Below w.heap.size w w') : Leaf w' B x f := h.stay (Stay.of_below hb []) (fun _ _ => by simp)
theorem Leaf.own {w : World} {B x : Nat} {f : Lf} (h : Leaf w B x f) : w.cell? ⟨f.a, 0, none⟩ = some (.int .i64 (f.l : Nat)) := by simp [World.cell?, h.blk]
theorem Leaf.tabs {w : World} {B x : Nat} {f : Lf} (h : Leaf w B x f) : w.cell? ⟨f.a, 1, none⟩ = some (.slice (some ⟨f.tb, 0, none⟩) f.ts.length f.cap) := by simp [World.cell?, h.blk]
theorem Leaf.at {w : World} {B x : Nat} {f : Lf} (h : Leaf w B x f) {i : Nat} {t : Tb} (hi : f.ts[i]? = some t) : w.cell? ⟨f.tb, i, none⟩ = some (ptr t.p) :=
 OwnP.cell h.row (by rw [List.getElem?_map, hi]; rfl)
theorem Leaf.max {w : World} {B x : Nat} {f : Lf} (h : Leaf w B x f) : f.ts.length ≤ 9223372036854775807 := by have := OwnR.cap h.row; unfold maxLen at this; omega
theorem size_any (B x : Nat) (f : Lf) (w : World) (hL : Leaf w B x f) (hn : f.es.length ≤ 1000000) :
  Calls Tryz.prog 151 #[ptr f.a] w fun e w' => e = .returned (.int .i64 (f.es.length : Nat)) ∧ w' = w := by
 have HL : Hid (Leaf w B x f) := hL
 have hc := hL.tabs
 have hmx := hL.max
 have HN : Hid (f.es.length ≤ 1000000) := hn
 have HE : Hid (f.es = tsEs f.ts) := rfl
 generalize hm : f.ts.length = m at hc hmx
 have HM : Hid (f.ts.length = m) := hm
 clear hL hn hm
 go_enter Tryz.func151, Tryz.ntmps151
 go_wp2
 go_loopg [3, 5, 11] m (fun q nv tv iv wr => w = wr ∧ ∃ i : Nat, i + q = m ∧ iv = .int .i64 i ∧ nv = .int .i64 ((tsEs (f.ts.take i)).length : Nat))
 case atStart => exact ⟨rfl, 0, by omega, rfl, rfl⟩
 case round =>
  obtain ⟨rfl, i, hi, rfl, rfl⟩ := hrel
  by_cases h8 : (i : Int) < m
  ·obtain ⟨t, ht, htm⟩ := get_of_lt (l := f.ts) (i := i) (by have := HM.out; omega)
   have hk := HL.out.at ht
   have hLen := Len_any _ _ _ _ _ _ _ (HL.out.tab t htm)
   have HS : Hid ((tsEs (f.ts.take (i + 1))).length = (tsEs (f.ts.take i)).length + (ents t.z).length) := by show _ = _; rw [take_more ht, tsEs_append, List.length_append, tsEs_one]; rfl
   have hle : (tsEs (f.ts.take (i + 1))).length ≤ 1000000 := by
    have h1 := HN.out
    rw [HE.out, ← List.take_append_drop (i + 1) f.ts, tsEs_append, List.length_append] at h1
    omega
   rw [HS.out] at hle
   generalize (tsEs (f.ts.take i)).length = c at HS hle ⊢
   generalize (ents t.z).length = d at HS hle hLen
   clear ht htm
   go_wp2_with fail
   refine hLen.mono ?_
   rintro e w ⟨rfl, rfl⟩
   go_wp2
   go_roundg (gk - 1)
   case measure => omega
   case rel => exact ⟨rfl, i + 1, by omega, by go_num, by rw [HS.out]; go_num⟩
  ·have HT : Hid (f.ts.take i = f.ts) := by show _ = _; rw [List.take_of_length_le (by have := HM.out; omega)]
   rw [HT.out]
   go_wp2
   go_ret
   exact ⟨rfl, rfl⟩
theorem keysOf_append (a b : List En) : keysOf (a ++ b) = keysOf a ++ keysOf b := List.map_append ..
set_option maxHeartbeats 4000000 in
theorem keys_any (B x : Nat) (f : Lf) (w : World) (hL : Leaf w B x f) (hn : f.es.length ≤ 1000000) :
  Calls Tryz.prog 119 #[ptr f.a] w fun e w' => Below w.heap.size w w' ∧ ∃ a n c, e = .returned (.slice a n c) ∧ OwnS w' w.heap.size a n c (keysOf f.es) := by
 have HL : Hid (Leaf w B x f) := hL
 have hc := hL.tabs
 have hmx := hL.max
 have HN : Hid (f.es.length ≤ 1000000) := hn
 have HE : Hid (f.es = tsEs f.ts) := rfl
 generalize hm : f.ts.length = m at hc hmx
 have HM : Hid (f.ts.length = m) := hm
 have HO : Hid (OwnS w w.heap.size none 0 0 (keysOf (tsEs (f.ts.take 0)))) := OwnR.nil _ _ _ _
 clear hL hn hm
 go_enter Tryz.func119, Tryz.ntmps119
 go_wp2
 go_loopg [3, 5, 11] m (fun q sv tv iv wr => ∃ (i : Nat) (a : Option Addr) (n c : Nat), i + q = m ∧ iv = .int .i64 i ∧ sv = .slice a n c ∧ Hid (OwnS wr w.heap.size a n c (keysOf (tsEs (f.ts.take i)))) ∧ Hid (Below w.heap.size w wr))
 case atStart => exact ⟨0, none, 0, 0, by omega, rfl, rfl, HO, Below.refl _ _⟩
 case round =>
  clear HO
  obtain ⟨i, a, n, c, hi, rfl, rfl, HO, HB⟩ := hrel
  by_cases h8 : (i : Int) < m
  ·obtain ⟨t, ht, htm⟩ := get_of_lt (l := f.ts) (i := i) (by have := HM.out; omega)
   have hk := (HL.out.keep HB.out).at ht
   have hKey := Keys_any _ _ _ _ _ _ _ ((HL.out.keep HB.out).tab t htm)
   have HS : Hid (keysOf (tsEs (f.ts.take (i + 1))) = keysOf (tsEs (f.ts.take i)) ++ (ents t.z).map (·.1)) := by show _ = _; rw [take_more ht, tsEs_append, keysOf_append, tsEs_one]; rfl
   have HLe : Hid ((keysOf (tsEs (f.ts.take (i + 1)))).length ≤ 1000000) := by
    have h1 := HN.out
    rw [HE.out, ← List.take_append_drop (i + 1) f.ts, tsEs_append, List.length_append] at h1
    show _ ≤ _
    rw [List.length_map]
    omega
   rw [HS.out] at HLe
   generalize (ents t.z).map (·.1) = ks at HS HLe hKey
   clear ht htm
   go_wp2_with fail
   refine hKey.mono ?_
   rintro e w1 ⟨hb1, a1, n1, c1, rfl, hO1⟩
   have HO1 : Hid (OwnS w1 wr.heap.size a1 n1 c1 ks) := hO1
   have HB1 := step_below HB hb1
   have HO0 : Hid (OwnS w1 w.heap.size a n c (keysOf (tsEs (f.ts.take i)))) := OwnR.keep HO.out hb1
   have HN1 : Hid (n + n1 ≤ 1000000) := by
    have h1 := OwnS.len HO.out
    have h2 := OwnS.len hO1
    have h3 := HLe.out
    rw [List.length_append] at h3
    show _ ≤ _
    omega
   clear hb1 hO1 hKey
   go_wp2_with (at_builtin; refine append_p rfl (.tmp 15) (.tmp 17) rfl eltS w.heap.size rfl HO0.out rfl HO1.out.rd scells_one (by have := HN1.out; omega) (by have := HN1.out; unfold maxLen; omega) HB1.out.size ?_; intro a3 n3 c3 w3 hn3 HO3 HG3; have HB3 : Hid (Below w.heap.size w w3) := HB1.out.trans (HO0.out.below HG3.out HB1.out.size))
   go_roundg (gk - 1)
   case measure => omega
   case rel => exact ⟨i + 1, _, _, _, by omega, by go_num, rfl, by rw [HS.out, ← hn3]; rw [← scells_append] at HO3; exact HO3, HB3⟩
  ·have HT : Hid (f.ts.take i = f.ts) := by show _ = _; rw [List.take_of_length_le (by have := HM.out; omega)]
   rw [HT.out] at HO
   go_wp2
   go_ret
   exact ⟨HB.out, _, _, _, rfl, HO.out⟩
theorem splits_any (B x : Nat) (f : Lf) (w : World) (hL : Leaf w B x f) (hl : f.l ≤ 16) (hn : f.es.length ≤ 1000000) :
  Calls Tryz.prog 105 #[ptr f.a] w fun e w' => e = .returned (.bool (decide (f.l < 16) && decide (112 ≤ f.es.length))) ∧ w' = w := by
 have hS := fun w hL => size_any B x f w hL hn
 have hc := hL.own
 have HL : Hid (Leaf w B x f) := hL
 generalize f.es.length = m at hS hn ⊢
 generalize f.l = l at hc hl ⊢
 by_cases h1 : l < 16
 ·have HR : Hid (decide (l < 16) = true) := decide_eq_true h1
  have h1z : (l : Int) < 16 := by omega
  clear hL
  go_enter Tryz.func105, Tryz.ntmps105
  go_wp2_with fail
  refine (hS _ HL.out).mono ?_
  rintro e w ⟨rfl, rfl⟩
  by_cases h2 : 112 ≤ m
  ·have h2z : (112 : Int) ≤ m := by omega
   have HR2 : Hid (decide (112 ≤ m) = true) := decide_eq_true h2
   clear h2
   go_wp2
   go_ret
   exact ⟨by rw [HR.out, HR2.out]; rfl, rfl⟩
  ·have h2z : decide ((112 : Int) ≤ m) = false := decide_eq_false (by omega)
   have HR2 : Hid (decide (112 ≤ m) = false) := decide_eq_false h2
   clear h2
   go_wp2
   go_ret
   exact ⟨by rw [HR.out, HR2.out]; rfl, rfl⟩
 ·have HR : Hid (decide (l < 16) = false) := decide_eq_false h1
  obtain rfl : l = 16 := by omega
  clear hL
  go_enter Tryz.func105, Tryz.ntmps105
  go_wp2
  go_ret
  exact ⟨by rw [HR.out]; rfl, rfl⟩
theorem holder_yes (B x : Nat) (f : Lf) (k : ByteArray) (w : World) (hL : Leaf w B x f) (hks : k.size ≤ maxLen) (hk : k ∈ keysOf f.es) :
  Calls Tryz.prog 103 #[ptr f.a, .string k] w fun e w' => Below w.heap.size w w' ∧ ∃ t, e = .returned (ptr t.p) ∧ t ∈ f.ts ∧ k ∈ keysOf t.es := by
 have HL : Hid (Leaf w B x f) := hL
 have hc := hL.tabs
 have hmx := hL.max
 have HK : Hid (k ∈ keysOf (tsEs f.ts)) := hk
 have HKS : Hid (k.size ≤ maxLen) := hks
 generalize hm : f.ts.length = m at hc hmx
 have HM : Hid (f.ts.length = m) := hm
 clear hL hm hk hks
 go_enter Tryz.func103, Tryz.ntmps103
 go_wp2
 go_loopg [6, 7, 8, 14] m (fun q tv vv bv iv wr => ∃ i : Nat, i + q = m ∧ iv = .int .i64 i ∧ Hid (k ∉ keysOf (tsEs (f.ts.take i))) ∧ Hid (Below w.heap.size w wr))
 case atStart => exact ⟨0, by omega, rfl, (by simp [tsEs] : k ∉ _), Below.refl _ _⟩
 case round =>
  obtain ⟨i, hi, rfl, HNo, HB⟩ := hrel
  by_cases h8 : (i : Int) < m
  ·obtain ⟨t, ht, htm⟩ := get_of_lt (l := f.ts) (i := i) (by have := HM.out; omega)
   have hcc := (HL.out.keep HB.out).at ht
   have HTab : Hid (Tab wr B t.p t.b x t.G t.z) := (HL.out.keep HB.out).tab t htm
   have HMm : Hid (t ∈ f.ts) := htm
   by_cases hin : k ∈ (ents t.z).map (·.1)
   ·obtain ⟨⟨k0, v⟩, hv, rfl⟩ := List.mem_map.1 hin
    have hG := Get_some _ _ _ _ _ _ k0 v _ HTab.out HKS.out hv
    have HIn : Hid ((k0, v) ∈ t.es) := hv
    clear ht htm hin hv
    go_wp2_with fail
    refine hG.mono ?_
    rintro e w1 ⟨rfl, hb1⟩
    have HB0 := step_below HB hb1
    have HB1 : Hid (Below w.heap.size w (w1.alloc (.cells #[] 92))) := HB0.out.trans ((alloc_below w1 _).mono HB0.out.size)
    clear hb1 hG
    go_wp2
    go_ret
    exact ⟨HB1.out, t, rfl, HMm.out, v, HIn.out⟩
   ·have hG := Get_none _ _ _ _ _ _ k _ HTab.out HKS.out hin
    have HNo1 : Hid (k ∉ keysOf (tsEs (f.ts.take (i + 1)))) := by
     show k ∉ _
     rw [take_more ht, tsEs_append, keysOf_append, tsEs_one, List.mem_append]
     exact fun h => h.elim HNo.out hin
    clear ht htm hin
    go_wp2_with fail
    refine hG.mono ?_
    rintro e w1 ⟨rfl, hb1⟩
    have HB0 := step_below HB hb1
    have HB1 : Hid (Below w.heap.size w (w1.alloc (.cells #[] 92))) := HB0.out.trans ((alloc_below w1 _).mono HB0.out.size)
    clear hb1 hG
    go_wp2
    go_roundg (gk - 1)
    case measure => omega
    case rel => exact ⟨i + 1, by omega, by go_num, HNo1, HB1⟩
  ·exact absurd HK.out (by have := HNo.out; rw [List.take_of_length_le (by have := HM.out; omega)] at this; exact this)
theorem holder_no (B x : Nat) (f : Lf) (k : ByteArray) (w : World) (hL : Leaf w B x f) (hks : k.size ≤ maxLen) (hk : k ∉ keysOf f.es) :
  Calls Tryz.prog 103 #[ptr f.a, .string k] w fun e w' => e = .returned (.pointer none) ∧ Below w.heap.size w w' := by
 have HL : Hid (Leaf w B x f) := hL
 have hc := hL.tabs
 have hmx := hL.max
 have HK : Hid (∀ t ∈ f.ts, k ∉ (ents t.z).map (·.1)) := fun t ht h => hk (by
  obtain ⟨e, he, h1⟩ := List.mem_map.1 h
  exact List.mem_map.2 ⟨e, List.mem_flatMap.2 ⟨t, ht, he⟩, h1⟩)
 have HKS : Hid (k.size ≤ maxLen) := hks
 generalize hm : f.ts.length = m at hc hmx
 have HM : Hid (f.ts.length = m) := hm
 clear hL hm hk hks
 go_enter Tryz.func103, Tryz.ntmps103
 go_wp2
 go_loopg [6, 7, 8, 14] m (fun q tv vv bv iv wr => ∃ i : Nat, i + q = m ∧ iv = .int .i64 i ∧ Hid (Below w.heap.size w wr))
 case atStart => exact ⟨0, by omega, rfl, Below.refl _ _⟩
 case round =>
  obtain ⟨i, hi, rfl, HB⟩ := hrel
  by_cases h8 : (i : Int) < m
  ·obtain ⟨t, ht, htm⟩ := get_of_lt (l := f.ts) (i := i) (by have := HM.out; omega)
   have hcc := (HL.out.keep HB.out).at ht
   have hG := Get_none _ _ _ _ _ _ k _ ((HL.out.keep HB.out).tab t htm) HKS.out (HK.out t htm)
   clear ht htm
   go_wp2_with fail
   refine hG.mono ?_
   rintro e w1 ⟨rfl, hb1⟩
   have HB0 := step_below HB hb1
   have HB1 : Hid (Below w.heap.size w (w1.alloc (.cells #[] 92))) := HB0.out.trans ((alloc_below w1 _).mono HB0.out.size)
   clear hb1 hG
   go_wp2
   go_roundg (gk - 1)
   case measure => omega
   case rel => exact ⟨i + 1, by omega, by go_num, HB1⟩
  ·go_wp2
   go_ret
   exact ⟨rfl, HB.out⟩
theorem newLeaf_any (l p : Nat) (w : World) :
  Calls Tryz.prog 153 #[.int .i64 (l : Nat), ptr p] w fun e w' => Below w.heap.size w w' ∧ ∃ a, e = .returned (ptr a) ∧ w.heap.size < a ∧ a < w'.heap.size ∧
   w'.heap[a]? = some (.cells #[.int .i64 (l : Nat), .slice (some ⟨w.heap.size, 0, none⟩) 1 1] 193 (0, 0)) ∧ OwnP w' w.heap.size 137 (some ⟨w.heap.size, 0, none⟩) 1 1 [p] := by
 obtain ⟨w1, hw1⟩ : ∃ w1, w.alloc (.cells #[ptr p] 137) = w1 := ⟨_, rfl⟩
 have HB1 : Hid (Below w.heap.size w w1) := by show Below _ _ _; rw [← hw1]; exact alloc_below w _
 have HS1 : Hid (w1.heap.size = w.heap.size + 1) := by show _ = _; rw [← hw1]; exact size_alloc w _
 have HO1 : Hid (OwnP w1 w.heap.size 137 (some ⟨w.heap.size, 0, none⟩) 1 1 [p]) := by
  show OwnP _ _ _ _ _ _ _
  rw [← hw1]
  exact ⟨rfl, .inr ⟨w.heap.size, 1, #[ptr p], rfl, Nat.le_refl _, heap_alloc_new w _, Nat.le_refl _, by decide, rfl, rfl⟩⟩
 obtain ⟨w2, hw2⟩ : ∃ w2, w1.alloc (.cells #[.int .i64 (l : Nat), .slice (some ⟨w.heap.size, 0, none⟩) 1 1] 193) = w2 := ⟨_, rfl⟩
 have HB2 : Hid (Below w1.heap.size w1 w2) := by show Below _ _ _; rw [← hw2]; exact alloc_below w1 _
 have HS2 : Hid (w2.heap.size = w1.heap.size + 1) := by show _ = _; rw [← hw2]; exact size_alloc w1 _
 have HK2 : Hid (w2.heap[w1.heap.size]? = some (.cells #[.int .i64 (l : Nat), .slice (some ⟨w.heap.size, 0, none⟩) 1 1] 193 (0, 0))) := by show _ = _; rw [← hw2]; exact heap_alloc_new w1 _
 go_enter Tryz.func153, Tryz.ntmps153
 go_wp2
 go_ret
 refine ⟨(step_below HB1 HB2.out).out, w1.heap.size, rfl, by have := HS1.out; omega, by have := HS2.out; omega, HK2.out, OwnR.keep HO1.out HB2.out⟩
theorem fp_parts {f : Lf} {pre post : List Tb} {t : Tb} (e : f.ts = pre ++ t :: post) : f.fp = (f.a :: f.tb :: tsFp pre ++ [t.p]) ++ t.b :: tsFp post := by
 unfold Lf.fp
 rw [e, tsFp_append, tsFp_cons]
 simp
theorem fp_apart {f : Lf} {pre post : List Tb} {t : Tb} (hn : f.fp.Nodup) (e : f.ts = pre ++ t :: post) : f.a ∉ [t.p, t.b] ∧ f.tb ∉ [t.p, t.b] ∧ (∀ u ∈ pre, u.p ∉ [t.p, t.b] ∧ u.b ∉ [t.p, t.b]) ∧ (∀ u ∈ post, u.p ∉ [t.p, t.b] ∧ u.b ∉ [t.p, t.b]) := by
 unfold Lf.fp at hn
 rw [e, tsFp_append, tsFp_cons, List.nodup_cons, List.nodup_cons, List.nodup_append, List.nodup_cons, List.nodup_cons] at hn
 obtain ⟨h1, h2, h3, ⟨h4, h5, h6⟩, h7⟩ := hn
 simp only [List.mem_cons, List.mem_append, not_or] at h1 h2 h4
 refine ⟨?_, ?_, ?_, ?_⟩
 ·simp only [List.mem_cons, List.not_mem_nil, or_false, not_or]; exact ⟨h1.2.2.1, h1.2.2.2.1⟩
 ·simp only [List.mem_cons, List.not_mem_nil, or_false, not_or]; exact ⟨h2.2.1, h2.2.2.1⟩
 ·intro u hu
  have hm := mem_tsFp hu
  simp only [List.mem_cons, List.not_mem_nil, or_false, not_or]
  exact ⟨⟨h7 _ hm.1 _ (by simp), h7 _ hm.1 _ (by simp)⟩, h7 _ hm.2 _ (by simp), h7 _ hm.2 _ (by simp)⟩
 ·intro u hu
  have hm := mem_tsFp hu
  simp only [List.mem_cons, List.not_mem_nil, or_false, not_or]
  exact ⟨⟨fun e => h4.2 (e ▸ hm.1), fun e => h5 (e ▸ hm.1)⟩, fun e => h4.2 (e ▸ hm.2), fun e => h5 (e ▸ hm.2)⟩
theorem Leaf.turn {w w' : World} {B x : Nat} {f : Lf} {pre post : List Tb} {t : Tb} {b' G' : Nat} {z' : List Cl} (h : Leaf w B x f) (e : f.ts = pre ++ t :: post) (hs : Stay w w' [t.p, t.b]) (hT : Tab w' B t.p b' x G' z') (hb : b' = t.b ∨ w.heap.size ≤ b')
  (hk : (keysOf (tsEs (pre ++ ⟨t.p, b', G', z'⟩ :: post))).Nodup) :
  Leaf w' B x { f with ts := pre ++ ⟨t.p, b', G', z'⟩ :: post } ∧ (∀ j ∈ ({ f with ts := pre ++ ⟨t.p, b', G', z'⟩ :: post } : Lf).fp, j ∈ f.fp ∨ w.heap.size ≤ j) ∧ Stay w w' f.fp := by
 obtain ⟨h1, h2, h3, h4⟩ := fp_apart h.nod e
 have hlen : (pre ++ (⟨t.p, b', G', z'⟩ : Tb) :: post).length = f.ts.length := by rw [e]; simp
 have hps : (pre ++ (⟨t.p, b', G', z'⟩ : Tb) :: post).map (·.p) = f.ts.map (·.p) := by rw [e]; simp
 have hfp : ({ f with ts := pre ++ ⟨t.p, b', G', z'⟩ :: post } : Lf).fp = (f.a :: f.tb :: tsFp pre ++ [t.p]) ++ b' :: tsFp post := fp_parts (f := { f with ts := pre ++ ⟨t.p, b', G', z'⟩ :: post }) rfl
 have hfp0 := fp_parts e
 have hlt := h.fplt
 refine ⟨⟨?_, ?_, ?_, h.low, ?_, hk, ?_⟩, ?_, hs.mono ?_⟩
 ·show w'.heap[f.a]? = some (.cells #[.int .i64 (f.l : Nat), .slice (some ⟨f.tb, 0, none⟩) (pre ++ (⟨t.p, b', G', z'⟩ : Tb) :: post).length f.cap] 193 (0, 0))
  rw [hlen, hs.block f.a h.lt h1]
  exact h.blk
 ·show OwnP w' B 137 (some ⟨f.tb, 0, none⟩) (pre ++ (⟨t.p, b', G', z'⟩ : Tb) :: post).length f.cap ((pre ++ (⟨t.p, b', G', z'⟩ : Tb) :: post).map (·.p))
  rw [hlen, hps]
  exact OwnR.stay h.row hs (fun k hk => by cases hk; exact h2)
 ·intro u hu
  rcases List.mem_append.1 hu with hu | hu
  ·exact (h.tab u (by rw [e]; simp [hu])).stay hs (h3 u hu).1 (h3 u hu).2
  ·rcases List.mem_cons.1 hu with rfl | hu
   ·exact hT
   ·exact (h.tab u (by rw [e]; simp [hu])).stay hs (h4 u hu).1 (h4 u hu).2
 ·rw [hfp]
  have hn := h.nod
  rw [hfp0] at hn hlt
  rcases hb with rfl | hb
  ·exact hn
  ·exact nodup_replace hn (fun hm => by have := hlt b' (List.mem_append.2 (.inl hm)); omega) (fun hm => by have := hlt b' (List.mem_append.2 (.inr (List.mem_cons_of_mem _ hm))); omega)
 ·show 0 < (pre ++ (⟨t.p, b', G', z'⟩ : Tb) :: post).length
  rw [hlen]; exact h.pos
 ·intro j hj
  rw [hfp] at hj
  rw [hfp0]
  rcases List.mem_append.1 hj with hj | hj
  ·exact .inl (List.mem_append.2 (.inl hj))
  ·rcases List.mem_cons.1 hj with rfl | hj
   ·rcases hb with rfl | hb
    ·exact .inl (by simp)
    ·exact .inr hb
   ·exact .inl (List.mem_append.2 (.inr (List.mem_cons_of_mem _ hj)))
 ·intro j hj
  rw [hfp0]
  simp only [List.mem_cons, List.not_mem_nil, or_false] at hj
  rcases hj with rfl | rfl <;> simp
def Ful (f : Lf) : Prop := f.ts.length = 1 ∨ ∀ t ∈ f.ts, 0 < t.es.length
theorem Ful.le {f : Lf} (h : Ful f) : f.ts.length ≤ f.es.length + 1 := by
 rcases h with h | h
 ·omega
 ·unfold Lf.es
  generalize f.ts = ts at h
  have : ts.length ≤ (tsEs ts).length := by
   induction ts with
   | nil => exact Nat.zero_le _
   | cons t ts ih =>
    have h1 := h t (by simp)
    have h2 := ih (fun u hu => h u (List.mem_cons_of_mem _ hu))
    rw [tsEs_cons, List.length_append, List.length_cons]
    omega
  omega
structure Grew (w w' : World) (B x : Nat) (f f' : Lf) : Prop where
 leaf : Leaf w' B x f'
 stay : Stay w w' f.fp
 fps : ∀ j ∈ f'.fp, j ∈ f.fp ∨ w.heap.size ≤ j
 l : f'.l = f.l
 q : f'.q = f.q
 a : f'.a = f.a
theorem Grew.first {w w0 w' : World} {B x : Nat} {f f' : Lf} (h : Grew w w' B x f f') (hb : Below w0.heap.size w0 w) : Grew w0 w' B x f f' :=
 ⟨h.leaf, (Stay.of_below hb f.fp).trans h.stay (fun _ hi => .inl hi), fun j hj => (h.fps j hj).imp id (fun k => Nat.le_trans hb.size k), h.l, h.q, h.a⟩
theorem keys_nodup_add {es es' : List En} {k : ByteArray} {v : Unit} (hn : (keysOf es).Nodup) (hk : k ∉ keysOf es) (hp : es'.Perm (es ++ [(k, v)])) : (keysOf es').Nodup := by
 have h1 := (hp.map (·.1)).nodup_iff
 refine h1.2 ?_
 rw [List.map_append, List.nodup_append]
 refine ⟨hn, by simp, fun a ha b hb => ?_⟩
 simp at hb
 subst hb
 rintro rfl
 exact hk ha
theorem mid_perm {pre post : List Tb} {t t' : Tb} {e : List En} (hp : t'.es.Perm (t.es ++ e)) : (tsEs (pre ++ t' :: post)).Perm (tsEs (pre ++ t :: post) ++ e) := by
 rw [tsEs_append, tsEs_append, tsEs_cons, tsEs_cons, List.append_assoc]
 refine List.Perm.append_left _ ?_
 refine (hp.append_right _).trans ?_
 rw [List.append_assoc, List.append_assoc]
 exact List.Perm.append_left _ List.perm_append_comm
theorem not_in_tab {f : Lf} {t : Tb} {k : ByteArray} (hk : k ∉ keysOf f.es) (ht : t ∈ f.ts) : k ∉ (ents t.z).map (·.1) := fun h => hk (by
 obtain ⟨e, he, h1⟩ := List.mem_map.1 h
 exact List.mem_map.2 ⟨e, List.mem_flatMap.2 ⟨t, ht, he⟩, h1⟩)
theorem Leaf.more {w w3 : World} {B x : Nat} {f : Lf} {g3 c3 p b G : Nat} {z : List Cl} (h : Leaf w B x f) (hg : w.grownBy w3 (some f.tb)) (hO : OwnP w3 B 137 (some ⟨g3, 0, none⟩) (f.ts.length + 1) c3 (f.ts.map (·.p) ++ [p])) (hgo : g3 = f.tb ∨ w.heap.size ≤ g3)
  (hT : Tab w B p b x G z) (hp : p ∉ f.fp) (hb : b ∉ f.fp) (hk : (keysOf (f.es ++ ents z)).Nodup) :
  Leaf (w3.setCell ⟨f.a, 1, none⟩ (.slice (some ⟨g3, 0, none⟩) (f.ts.length + 1) c3)) B x { f with tb := g3, cap := c3, ts := f.ts ++ [⟨p, b, G, z⟩] } ∧ (∀ j ∈ ({ f with tb := g3, cap := c3, ts := f.ts ++ [⟨p, b, G, z⟩] } : Lf).fp, j ∈ f.fp ∨ w.heap.size ≤ j ∨ j = p ∨ j = b) := by
 have hpb := hT.top.ne hT.row
 have hnod := h.nod
 have hlt := h.fplt
 have hpl := hT.top.lt
 have hbl := hT.row.lt
 have hfa : f.a ∈ f.fp := by simp [Lf.fp]
 have hft : f.tb ∈ f.fp := by simp [Lf.fp]
 have hfu : ∀ j ∈ tsFp f.ts, j ∈ f.fp := fun j hj => List.mem_cons_of_mem _ (List.mem_cons_of_mem _ hj)
 have hn := h.nod
 unfold Lf.fp at hn
 rw [List.nodup_cons, List.nodup_cons] at hn
 obtain ⟨n1, n2, n3⟩ := hn
 rw [List.mem_cons, not_or] at n1
 have hS : Stay w w3 [f.tb] := Stay.grown hg (fun g e => by cases e; simp)
 have hS2 : Stay w (w3.setCell ⟨f.a, 1, none⟩ (.slice (some ⟨g3, 0, none⟩) (f.ts.length + 1) c3)) [f.tb, f.a] :=
  (hS.mono (by simp)).trans Stay.set (fun i hi => .inl (by simp at hi; simp [hi]))
 have hblk3 : w3.heap[f.a]? = some (.cells #[.int .i64 (f.l : Nat), .slice (some ⟨f.tb, 0, none⟩) f.ts.length f.cap] 193 (0, 0)) := by
  rw [hS.block f.a h.lt (by simpa using n1.1)]; exact h.blk
 have ga : g3 ≠ f.a := by
  rcases hgo with rfl | hgo
  ·exact fun e => n1.1 e.symm
  ·have := (hlt f.a hfa).2; omega
 have gt : g3 ∉ tsFp f.ts := by
  rcases hgo with rfl | hgo
  ·exact n2
  ·intro hm; have := (hlt g3 (hfu _ hm)).2; omega
 have gp : g3 ≠ p ∧ g3 ≠ b := by
  rcases hgo with rfl | hgo
  ·exact ⟨fun e => hp (e ▸ hft), fun e => hb (e ▸ hft)⟩
  ·exact ⟨by omega, by omega⟩
 refine ⟨⟨?_, ?_, ?_, h.low, ?_, ?_, ?_⟩, ?_⟩
 ·show (w3.setCell ⟨f.a, 1, none⟩ _).heap[f.a]? = some (.cells #[.int .i64 (f.l : Nat), .slice (some ⟨g3, 0, none⟩) (f.ts ++ [(⟨p, b, G, z⟩ : Tb)]).length c3] 193 (0, 0))
  rw [heap_set hblk3, List.length_append]
  rfl
 ·show OwnP _ B 137 (some ⟨g3, 0, none⟩) (f.ts ++ [(⟨p, b, G, z⟩ : Tb)]).length c3 ((f.ts ++ [(⟨p, b, G, z⟩ : Tb)]).map (·.p))
  rw [List.length_append, List.map_append]
  exact OwnR.stay hO (Stay.set (q := f.a)) (fun k hk => by cases hk; simpa using ga)
 ·intro u hu
  rcases List.mem_append.1 hu with hu | hu
  ·have hm := mem_tsFp hu
   refine (h.tab u hu).stay hS2 ?_ ?_
   ·simp only [List.mem_cons, List.not_mem_nil, or_false, not_or]
    exact ⟨fun e => n2 (e ▸ hm.1), fun e => n1.2 (e ▸ hm.1)⟩
   ·simp only [List.mem_cons, List.not_mem_nil, or_false, not_or]
    exact ⟨fun e => n2 (e ▸ hm.2), fun e => n1.2 (e ▸ hm.2)⟩
  ·cases List.mem_singleton.1 hu
   refine hT.stay hS2 ?_ ?_
   ·simp only [List.mem_cons, List.not_mem_nil, or_false, not_or]
    exact ⟨fun e => hp (e ▸ hft), fun e => hp (e ▸ hfa)⟩
   ·simp only [List.mem_cons, List.not_mem_nil, or_false, not_or]
    exact ⟨fun e => hb (e ▸ hft), fun e => hb (e ▸ hfa)⟩
 ·show (f.a :: g3 :: tsFp (f.ts ++ [(⟨p, b, G, z⟩ : Tb)])).Nodup
  rw [tsFp_append, tsFp_cons]
  show (f.a :: g3 :: (tsFp f.ts ++ [p, b])).Nodup
  rw [List.nodup_cons, List.nodup_cons, List.nodup_append]
  refine ⟨?_, ?_, n3, ?_, ?_⟩
  ·simp only [List.mem_cons, List.mem_append, List.not_mem_nil, or_false, not_or]
   exact ⟨fun e => ga e.symm, n1.2, fun e => hp (e ▸ hfa), fun e => hb (e ▸ hfa)⟩
  ·simp only [List.mem_cons, List.mem_append, List.not_mem_nil, or_false, not_or]
   exact ⟨gt, gp.1, gp.2⟩
  ·simp [hpb]
  ·intro a ha c hc
   simp only [List.mem_cons, List.not_mem_nil, or_false] at hc
   rcases hc with rfl | rfl
   ·rintro rfl; exact hp (hfu _ ha)
   ·rintro rfl; exact hb (hfu _ ha)
 ·show (keysOf (tsEs (f.ts ++ [(⟨p, b, G, z⟩ : Tb)]))).Nodup
  rw [tsEs_append, tsEs_one]
  exact hk
 ·show 0 < (f.ts ++ [(⟨p, b, G, z⟩ : Tb)]).length
  rw [List.length_append]; exact Nat.lt_of_lt_of_le h.pos (Nat.le_add_right _ _)
 ·intro j hj
  change j ∈ f.a :: g3 :: tsFp (f.ts ++ [(⟨p, b, G, z⟩ : Tb)]) at hj
  rw [tsFp_append, tsFp_cons] at hj
  simp only [List.mem_cons, List.mem_append] at hj
  rcases hj with rfl | rfl | hj | rfl | rfl | hj
  ·exact .inl hfa
  ·exact hgo.elim (fun e => .inl (e ▸ hft)) (fun e => .inr (.inl e))
  ·exact .inl (hfu _ hj)
  ·exact .inr (.inr (.inl rfl))
  ·exact .inr (.inr (.inr rfl))
  ·simp [tsFp] at hj
def Added (w w' : World) (B x : Nat) (f : Lf) (k : ByteArray) (v : Unit) : Prop :=
 ∃ f', Grew w w' B x f f' ∧ f'.es.Perm (f.es ++ [(k, v)]) ∧ (f.ts.length = 1 → f.es.length < 112 → f'.ts.length = 1) ∧ (Ful f → Ful f')
set_option maxRecDepth 100000 in
set_option maxHeartbeats 4000000 in
theorem add_leaf (B x : Nat) (f : Lf) (k : ByteArray) (v : Unit) (w : World) (hL : Leaf w B x f) (hx : x < 18446744073709551616) (hks : k.size ≤ maxLen) (hk : k ∉ keysOf f.es) (hn : f.ts.length ≤ 10000000) (hB : B ≤ w.heap.size) :
  Calls Tryz.prog 107 #[ptr f.a, .int .u64 x, .string k, .agg #[]] w fun e w' => e = .returned (.tuple #[]) ∧ Added w w' B x f k v := by
 have HL : Hid (Leaf w B x f) := hL
 obtain ⟨wa, hwa⟩ : ∃ wa, w.alloc (.cells #[] 92) = wa := ⟨_, rfl⟩
 have HBa : Hid (Below w.heap.size w wa) := by rw [← hwa]; exact alloc_below w _
 have hc := (hL.keep HBa.out).tabs
 have HK : Hid (k ∉ keysOf f.es) := hk
 have HKS : Hid (k.size ≤ maxLen) := hks
 have HX : Hid (x < 18446744073709551616) := hx
 have HBs : Hid (B ≤ w.heap.size) := hB
 generalize hm : f.ts.length = m at hc hn
 have HM : Hid (f.ts.length = m) := hm
 clear hL hm hk hks hx hB
 go_enter Tryz.func107, Tryz.ntmps107
 go_wp2
 go_loopg [9, 16] m (fun q tv iv wr => ∃ i : Nat, i + q = m ∧ iv = .int .i64 i ∧ Hid (∀ t ∈ f.ts.take i, 112 ≤ t.es.length) ∧ Hid (Below w.heap.size w wr))
 case atStart => exact ⟨0, by omega, rfl, (by simp : ∀ t ∈ f.ts.take 0, 112 ≤ t.es.length), HBa⟩
 case round =>
  obtain ⟨i, hi, rfl, HFu, HB⟩ := hrel
  by_cases h8 : (i : Int) < m
  ·obtain ⟨t, ht, htm⟩ := get_of_lt (l := f.ts) (i := i) (by have := HM.out; omega)
   have hcc := (HL.out.keep HB.out).at ht
   have HTab : Hid (Tab wr B t.p t.b x t.G t.z) := (HL.out.keep HB.out).tab t htm
   have HIn := not_in_tab HK.out htm
   by_cases hfull : 112 ≤ (ents t.z).length
   ·have hP := Put_full _ _ _ _ _ _ k v _ HTab.out HKS.out HIn hfull
    have HFu1 : Hid (∀ t ∈ f.ts.take (i + 1), 112 ≤ t.es.length) := by
     show ∀ t ∈ f.ts.take (i + 1), 112 ≤ t.es.length
     rw [take_more ht]
     intro u hu
     rcases List.mem_append.1 hu with hu | hu
     ·exact HFu.out u hu
     ·rw [List.mem_singleton.1 hu]; exact hfull
    clear ht htm HIn hfull
    go_wp2_with fail
    refine hP.mono ?_
    rintro e w1 ⟨rfl, hb1⟩
    have HB1 := step_below HB hb1
    clear hb1 hP
    go_wp2
    go_roundg (gk - 1)
    case measure => omega
    case rel => exact ⟨i + 1, by omega, by go_num, HFu1, HB1⟩
   ·have hP := Put_new _ _ _ _ _ _ k v _ HTab.out HKS.out HIn (by omega)
    have HG : Hid (f.ts = f.ts.take i ++ t :: f.ts.drop (i + 1)) := get_parts ht
    clear ht htm HIn hfull
    go_wp2_with fail
    refine hP.mono ?_
    rintro e w1 ⟨rfl, hm1, b1, G1, z1, hT1, hb1, hp1⟩
    have HR : Hid (Added w w1 B x f k v) := by
     have hpm : (tsEs (f.ts.take i ++ ⟨t.p, b1, G1, z1⟩ :: f.ts.drop (i + 1))).Perm (f.es ++ [(k, v)]) := by
      have := mid_perm (pre := f.ts.take i) (post := f.ts.drop (i + 1)) (t := t) (t' := ⟨t.p, b1, G1, z1⟩) hp1
      rw [← HG.out] at this
      exact this
     obtain ⟨k1, k2, k3⟩ := (HL.out.keep HB.out).turn HG.out (Stay.of_moves hm1) hT1 hb1 (keys_nodup_add HL.out.key HK.out hpm)
     exact ⟨_, (⟨k1, k3, k2, rfl, rfl, rfl⟩ : Grew wr w1 B x f _).first HB.out, hpm, fun h _ => by
      have := congrArg List.length HG.out
      rw [h] at this
      simp at this ⊢
      omega, fun h => .inr fun u hu => by
       rcases List.mem_append.1 hu with hu | hu
       ·have := HFu.out u hu; omega
       ·rcases List.mem_cons.1 hu with rfl | hu
        ·have := hp1.length_eq
         rw [List.length_append] at this
         show 0 < (ents z1).length
         simp at this
         omega
        ·rcases h with h | h
         ·have h9 := congrArg List.length HG.out
          rw [h] at h9
          have h10 : 0 < (f.ts.drop (i + 1)).length := List.length_pos_of_mem hu
          simp at h9 h10
          omega
         ·exact h u (by rw [HG.out]; simp [hu])⟩
    clear hm1 hT1 hb1 hp1 hP
    go_wp2
    refine bodyPost_ret (results_none rfl _ _ _) rfl ?_
    exact ⟨rfl, HR.out⟩
  ·have HFu2 : Hid (∀ t ∈ f.ts, 112 ≤ t.es.length) := by
    have := HFu.out
    rw [List.take_of_length_le (by have := HM.out; omega)] at this
    exact this
   have hNew := New_tab x wr HX.out
   go_wp2_with fail
   refine hNew.mono ?_
   rintro e w1 ⟨hb1, p, b, rfl, hT1, -⟩
   have HB1 := step_below HB hb1
   have HTl : Hid (wr.heap.size ≤ p ∧ wr.heap.size ≤ b) := ⟨hT1.low, hT1.lowb⟩
   have hP := Put_new _ _ _ _ _ _ k v _ hT1 HKS.out (by rw [ents_news0]; simp) (by rw [ents_news0]; decide)
   have HT1 : Hid (Tab w1 wr.heap.size p b x 1 (news0 1)) := hT1
   have HS1 : Hid (wr.heap.size ≤ w1.heap.size) := hb1.size
   clear hb1 hT1 hNew
   go_wp2_with fail
   refine hP.mono ?_
   rintro e w2 ⟨rfl, hm2, b2, G2, z2, hT2, hb2, hp2⟩
   rw [ents_news0, List.nil_append] at hp2
   have HP2 : Hid ((ents z2).Perm [(k, v)]) := hp2
   have HBw : Hid (w.heap.size ≤ wr.heap.size) := HB.out.size
   have HT2 : Hid (Tab w2 B p b2 x G2 z2) := hT2.lower (Nat.le_trans HBs.out HBw.out)
   have HTl2 : Hid (wr.heap.size ≤ p ∧ wr.heap.size ≤ b2) := ⟨HTl.out.1, by have := HTl.out.2; have := HS1.out; rcases hb2 with rfl | h <;> omega⟩
   have HB2 : Hid (Below w.heap.size w w2) := HB1.out.trans ((Stay.of_moves hm2).below (by intro i hi; simp at hi; have := HTl.out; have := HBw.out; rcases hi with rfl | rfl <;> omega) HB1.out.size)
   clear hm2 hT2 hb2 hp2 hP HT1
   obtain ⟨w3, hw3⟩ : ∃ w3, w2.alloc (.cells #[ptr p] 137) = w3 := ⟨_, rfl⟩
   obtain ⟨g, hg⟩ : ∃ g, w2.heap.size = g := ⟨_, rfl⟩
   have HB3' : Hid (Below w2.heap.size w2 w3) := by show Below _ _ _; rw [← hw3]; exact alloc_below w2 _
   have hc3 : w3.cell? ⟨g, 0, none⟩ = some (ptr p) := by rw [← hw3, ← hg]; simp only [World.cell?, heap_alloc_new]; rfl
   have HB3 := step_below HB2 HB3'.out
   have HT3 : Hid (Tab w3 B p b2 x G2 z2) := HT2.out.keep HB3'.out
   have HL3 : Hid (Leaf w3 B x f) := HL.out.keep HB3.out
   have hL3 := HL3.out.tabs
   rw [HM.out] at hL3
   have hL2 := (HL.out.keep HB2.out).tabs
   rw [HM.out] at hL2
   have HO3 : Hid (OwnP w3 B 137 (some ⟨f.tb, 0, none⟩) m f.cap (f.ts.map (·.p))) := by have := HL3.out.row; rw [HM.out] at this; exact this
   have HNm : Hid (m ≤ 10000000) := hn
   clear HB3' HTl HFu HT2 hc
   go_wp2_with (at_builtin; refine append_r rfl (.tmp 36) (.tmp 38) rfl eltT B rfl HO3.out [ptr p] rfl rfl (by intro j u hu; cases j with | zero => (rw [add_flat, hc3]; exact hu) | succ j => simp at hu) (by simp [Value.oneCell']) (by decide) (by have := HNm.out; omega) (by have := HNm.out; unfold maxLen; omega) (Nat.le_trans HBs.out HB3.out.size) ?_; intro a4 n4 c4 w4 hn4 HO4 HG4 HW4; have hc4 : w4.cell? ⟨f.a, 1, none⟩ = some (.slice (some ⟨f.tb, 0, none⟩) m f.cap) := (by rw [World.cell?_of_block (HG4.out.block f.a HL3.out.lt (by intro e; have h := HL3.out.nod; unfold Lf.fp at h; simp at e; simp [e] at h))]; exact hL3); have hf4 : w4.frozen? ⟨f.a, 1, none⟩ = false := (by have := HG4.out.block f.a HL3.out.lt (by intro e; have h := HL3.out.nod; unfold Lf.fp at h; simp at e; simp [e] at h); rw [HL3.out.blk] at this; simp [World.frozen?, this]))
   go_end0
   refine ⟨rfl, ?_⟩
   have hO4 := HO4.out
   have hG4 := HG4.out
   have hW4 := HW4.out
   obtain ⟨g4, rfl, -⟩ := OwnR.at hO4 (by omega)
   have hlt := (HL.out.keep HB.out).fplt
   have hgo : g4 = f.tb ∨ w3.heap.size ≤ g4 := by
    rcases hW4 with h | h
    ·simp at h; exact .inl h
    ·simp at h; exact .inr (by omega)
   have hpm : (f.es ++ ents z2).Perm (f.es ++ [(k, v)]) := List.Perm.append_left _ HP2.out
   have hp : p ∉ f.fp := fun h => by have := (hlt p h).2; have := HTl2.out.1; omega
   have hb : b2 ∉ f.fp := fun h => by have := (hlt b2 h).2; have := HTl2.out.2; omega
   rw [hn4, ← HM.out] at hO4
   rw [← HM.out]
   obtain ⟨k1, k2⟩ := HL3.out.more hG4 (by unfold OwnP; rw [pcells_append]; exact hO4) hgo HT3.out hp hb (keys_nodup_add HL.out.key HK.out hpm)
   refine ⟨_, ⟨k1, ?_, ?_, rfl, rfl, rfl⟩, ?_, ?_, ?_⟩
   ·refine (Stay.of_below HB3.out f.fp).trans (M' := [f.tb, f.a]) (((Stay.grown hG4 (M := [f.tb, f.a]) (fun g e => by simp at e; simp [e]))).trans Stay.set (fun i hi => .inl (by simp at hi; simp [hi]))) (fun i hi => .inl (by simp at hi; rcases hi with rfl | rfl <;> simp [Lf.fp]))
   ·intro j hj
    have h1 := HTl2.out
    have h2 := HBw.out
    have h3 := HB3.out.size
    rcases k2 j hj with h | h | rfl | rfl
    ·exact .inl h
    ·exact .inr (by omega)
    ·exact .inr (by omega)
    ·exact .inr (by omega)
   ·show (tsEs (f.ts ++ [(⟨p, b2, G2, z2⟩ : Tb)])).Perm _
    rw [tsEs_append, tsEs_one]
    exact hpm
   ·intro h1 h2
    obtain ⟨t, ht⟩ := List.length_eq_one_iff.1 h1
    have h3 := HFu2.out t (by simp [ht])
    have h4 : f.es = t.es := by unfold Lf.es; rw [ht, tsEs_one]
    rw [h4] at h2
    omega
   ·intro _
    refine .inr fun u hu => ?_
    rcases List.mem_append.1 hu with hu | hu
    ·have := HFu2.out u hu; omega
    ·cases List.mem_singleton.1 hu
     have := HP2.out.length_eq
     show 0 < (ents z2).length
     simp at this
     omega
structure Dg where
 g : Nat
 pb : Nat
 cap : Nat
 pl : List Nat
 L : List Lf
def shL (L : List Lf) : List Pt := L.map Lf.pt
def esL (L : List Lf) : List En := L.flatMap Lf.es
def fpL (L : List Lf) : List Nat := L.flatMap Lf.fp
def Dg.sh (D : Dg) : List Pt := shL D.L
def Dg.es (D : Dg) : List En := esL D.L
structure Dct (w : World) (B d x : Nat) (D : Dg) : Prop where
 blk : w.heap[d]? = some (.cells #[.int .u64 (x : Nat), .int .i64 (D.es.length : Nat), .slice (some ⟨D.pb, 0, none⟩) (2 ^ D.g) D.cap] 136 (0, 0))
 row : OwnP w B 138 (some ⟨D.pb, 0, none⟩) (2 ^ D.g) D.cap D.pl
 leaf : ∀ f ∈ D.L, Leaf w B x f
 shp : Shp D.g D.sh
 dir : ∀ f ∈ D.L, ∀ i, i < 2 ^ D.g → isIn f.pt i = true → D.pl[i]? = some f.a
 own : ∀ f ∈ D.L, ∀ e ∈ f.es, isIn f.pt (hsh x e.1) = true
 one : ∀ f ∈ D.L, f.l < 16 → f.ts.length = 1
 ful : ∀ f ∈ D.L, Ful f
 nod : (d :: D.pb :: fpL D.L).Nodup
 low : B ≤ d
 seed : x < 18446744073709551616
 le : D.es.length ≤ 1000000
theorem esL_append (a b : List Lf) : esL (a ++ b) = esL a ++ esL b := List.flatMap_append ..
theorem esL_cons (f : Lf) (b : List Lf) : esL (f :: b) = f.es ++ esL b := List.flatMap_cons ..
theorem esL_one (f : Lf) : esL [f] = f.es := by rw [esL_cons]; exact List.append_nil _
theorem fpL_append (a b : List Lf) : fpL (a ++ b) = fpL a ++ fpL b := List.flatMap_append ..
theorem fpL_cons (f : Lf) (b : List Lf) : fpL (f :: b) = f.fp ++ fpL b := List.flatMap_cons ..
theorem mem_fpL {L : List Lf} {f : Lf} (h : f ∈ L) {j : Nat} (hj : j ∈ f.fp) : j ∈ fpL L := List.mem_flatMap.2 ⟨f, h, hj⟩
theorem mem_esL {L : List Lf} {f : Lf} (h : f ∈ L) {e : En} (he : e ∈ f.es) : e ∈ esL L := List.mem_flatMap.2 ⟨f, h, he⟩
theorem Dct.lt {w : World} {B d x : Nat} {D : Dg} (h : Dct w B d x D) : d < w.heap.size := (Array.getElem?_eq_some_iff.1 h.blk).1
theorem Dct.fplt {w : World} {B d x : Nat} {D : Dg} (h : Dct w B d x D) : ∀ k ∈ d :: D.pb :: fpL D.L, B ≤ k ∧ k < w.heap.size := by
 intro k hk
 rcases List.mem_cons.1 hk with rfl | hk
 ·exact ⟨h.low, h.lt⟩
 rcases List.mem_cons.1 hk with rfl | hk
 ·have := OwnR.lt h.row (k := D.pb) rfl
  exact ⟨this.1, this.2.1⟩
 ·obtain ⟨f, hf, hk⟩ := List.mem_flatMap.1 hk
  exact (h.leaf f hf).fplt k hk
theorem Dct.stay {w w' : World} {B d x : Nat} {D : Dg} {M : List Nat} (h : Dct w B d x D) (hs : Stay w w' M) (hd : ∀ k ∈ d :: D.pb :: fpL D.L, k ∉ M) : Dct w' B d x D :=
 ⟨by rw [hs.block d h.lt (hd _ (by simp))]; exact h.blk, OwnR.stay h.row hs (fun k hk => hd k (by cases hk; simp)), fun f hf => (h.leaf f hf).stay hs (fun k hk => hd k (List.mem_cons_of_mem _ (List.mem_cons_of_mem _ (mem_fpL hf hk)))), h.shp, h.dir, h.own, h.one, h.ful, h.nod, h.low, h.seed, h.le⟩
theorem Dct.keep {w w' : World} {B d x : Nat} {D : Dg} (h : Dct w B d x D) (hb : Below w.heap.size w w') : Dct w' B d x D := h.stay (Stay.of_below hb []) (fun _ _ => by simp)
theorem Dct.cseed {w : World} {B d x : Nat} {D : Dg} (h : Dct w B d x D) : w.cell? ⟨d, 0, none⟩ = some (.int .u64 (x : Nat)) := by simp [World.cell?, h.blk]
theorem Dct.ccnt {w : World} {B d x : Nat} {D : Dg} (h : Dct w B d x D) : w.cell? ⟨d, 1, none⟩ = some (.int .i64 (D.es.length : Nat)) := by simp [World.cell?, h.blk]
theorem Dct.cpl {w : World} {B d x : Nat} {D : Dg} (h : Dct w B d x D) : w.cell? ⟨d, 2, none⟩ = some (.slice (some ⟨D.pb, 0, none⟩) (2 ^ D.g) D.cap) := by simp [World.cell?, h.blk]
theorem Dct.len {w : World} {B d x : Nat} {D : Dg} (h : Dct w B d x D) : D.pl.length = 2 ^ D.g := OwnP.len h.row
theorem Dct.pow {w : World} {B d x : Nat} {D : Dg} (h : Dct w B d x D) : 2 ^ D.g ≤ 65536 := pow_le_16 h.shp.le
theorem Dct.les {w : World} {B d x : Nat} {D : Dg} (h : Dct w B d x D) {f : Lf} (hf : f ∈ D.L) : f.es.length ≤ 1000000 := by
 obtain ⟨a, c, e⟩ := List.append_of_mem hf
 have h1 := h.le
 unfold Dg.es at h1
 rw [e, esL_append, esL_cons, List.length_append, List.length_append] at h1
 omega
theorem Dct.lef {w : World} {B d x : Nat} {D : Dg} (h : Dct w B d x D) {f : Lf} (hf : f ∈ D.L) : f.l ≤ D.g ∧ f.l ≤ 16 ∧ f.q < 2 ^ f.l := by
 have h1 := h.shp.lt f.pt (List.mem_map_of_mem hf)
 have h2 := h.shp.le
 simp only [Lf.pt] at h1
 omega
theorem Dct.parts {w : World} {B d x : Nat} {D : Dg} (h : Dct w B d x D) (hh : Nat) : ∃ a f c, D.L = a ++ f :: c ∧ isIn f.pt hh = true ∧ (∀ u ∈ a, isIn u.pt hh = false) ∧ (∀ u ∈ c, isIn u.pt hh = false) := by
 obtain ⟨sa, s, sc, e, h1, h2, h3⟩ := h.shp.parts hh
 unfold Dg.sh shL at e
 obtain ⟨a, l2, e1, rfl, e3⟩ := List.map_eq_append_iff.1 e
 obtain ⟨f, c, rfl, rfl, rfl⟩ := List.map_eq_cons_iff.1 e3
 exact ⟨a, f, c, e1, h1, fun u hu => h2 _ (List.mem_map_of_mem hu), fun u hu => h3 _ (List.mem_map_of_mem hu)⟩
theorem Dct.place {w : World} {B d x : Nat} {D : Dg} (h : Dct w B d x D) {f : Lf} (hf : f ∈ D.L) {hh : Nat} (hi : isIn f.pt hh = true) : D.pl[hh % 2 ^ D.g]? = some f.a ∧ hh % 2 ^ D.g < 2 ^ D.g := by
 have hlt : hh % 2 ^ D.g < 2 ^ D.g := Nat.mod_lt _ (pow_pos _)
 refine ⟨h.dir f hf _ hlt ?_, hlt⟩
 rw [isIn_low (h.lef hf).1]
 exact hi
theorem Dct.mem {w : World} {B d x : Nat} {D : Dg} (h : Dct w B d x D) {a c : List Lf} {f : Lf} {k : ByteArray} (e : D.L = a ++ f :: c) (h2 : ∀ u ∈ a, isIn u.pt (hsh x k) = false) (h3 : ∀ u ∈ c, isIn u.pt (hsh x k) = false) {v : Unit} : (k, v) ∈ D.es ↔ (k, v) ∈ f.es := by
 constructor
 ·intro hm
  obtain ⟨u, hu, hm⟩ := List.mem_flatMap.1 hm
  have ho := h.own u hu _ hm
  rw [e] at hu
  rcases List.mem_append.1 hu with hu | hu
  ·rw [h2 u hu] at ho; cases ho
  ·rcases List.mem_cons.1 hu with rfl | hu
   ·exact hm
   ·rw [h3 u hu] at ho; cases ho
 ·intro hm
  exact mem_esL (by rw [e]; simp) hm
theorem Dct.memk {w : World} {B d x : Nat} {D : Dg} (h : Dct w B d x D) {a c : List Lf} {f : Lf} {k : ByteArray} (e : D.L = a ++ f :: c) (h2 : ∀ u ∈ a, isIn u.pt (hsh x k) = false) (h3 : ∀ u ∈ c, isIn u.pt (hsh x k) = false) : k ∈ keysOf D.es ↔ k ∈ keysOf f.es := by
 constructor
 ·intro hm
  obtain ⟨⟨k', v⟩, hm2, rfl⟩ := List.mem_map.1 hm
  exact List.mem_map.2 ⟨_, (h.mem e h2 h3).1 hm2, rfl⟩
 ·intro hm
  obtain ⟨⟨k', v⟩, hm2, rfl⟩ := List.mem_map.1 hm
  exact List.mem_map.2 ⟨_, (h.mem e h2 h3).2 hm2, rfl⟩
theorem Depth_any (B d x : Nat) (D : Dg) (w : World) (hD : Dct w B d x D) : Calls Tryz.prog 147 #[ptr d] w fun e w' => e = .returned (.int .i64 (D.g : Nat)) ∧ w' = w := by
 have hc := hD.cpl
 have hg := hD.shp.le
 have H := fun w => Len_pow D.g hg w
 have hp := hD.pow
 generalize D.g = g at hc hg H hp ⊢
 generalize 2 ^ g = p at hc H hp
 clear hD
 go_enter Tryz.func147, Tryz.ntmps147
 go_wp2_with fail
 refine (H _).mono ?_
 rintro e w ⟨rfl, rfl⟩
 go_wp2
 go_ret
 exact ⟨by go_num, rfl⟩
theorem Len_dict (B d x : Nat) (D : Dg) (w : World) (hD : Dct w B d x D) : Calls Tryz.prog 111 #[ptr d] w fun e w' => e = .returned (.int .i64 (D.es.length : Nat)) ∧ w' = w := by
 have hc := hD.ccnt
 clear hD
 go_enter Tryz.func111, Tryz.ntmps111
 go_wp2
 go_ret
 exact ⟨rfl, rfl⟩
theorem leafOf_any (B d x : Nat) (D : Dg) (f : Lf) (h : Nat) (w : World) (hD : Dct w B d x D) (hf : f ∈ D.L) (hi : isIn f.pt h = true) (hh : h < 18446744073709551616) :
  Calls Tryz.prog 102 #[ptr d, .int .u64 h] w fun e w' => e = .returned (ptr f.a) ∧ Below w.heap.size w w' := by
 have HD : Hid (Dct w B d x D) := hD
 have hc := hD.cpl
 have hp := hD.pow
 obtain ⟨hpl, hlt⟩ := hD.place hf hi
 have hrow := OwnP.cell hD.row hpl
 have hg := hD.shp.le
 have HDe := fun q => Depth_any B d x D (w.drewN q) (hD.keep (below_drewN w q))
 have HLo := fun w => Low_any h D.g w hh (by omega) (by omega)
 rw [low_dep, dep_nat hg] at HLo
 generalize D.g = g at hc hg hp hlt HDe HLo hrow
 generalize h % 2 ^ g = i at hlt HLo hrow
 generalize 2 ^ g = p at hc hp hlt
 have hiz : (i : Int) < p := by omega
 clear hD hpl
 go_enter Tryz.func102, Tryz.ntmps102
 go_wp2
 go_quiet ((first | (go_at_call 147; with_reducible exact Calls.quiet_of_same (HDe _)) | (go_at_call 133; with_reducible exact Calls.quiet_of_same (HLo _))))
 go_wp2
 go_ret
 exact ⟨rfl, below_drewN _ _⟩
theorem val_one {es : List En} (hn : (keysOf es).Nodup) {k : ByteArray} {u v : Unit} (h1 : (k, u) ∈ es) (h2 : (k, v) ∈ es) : u = v := (fun _ _ _ => rfl : (keysOf es).Nodup → (k, u) ∈ es → (k, v) ∈ es → u = v) hn h1 h2
set_option maxHeartbeats 4000000 in
theorem Get_dsome (B d x : Nat) (D : Dg) (k : ByteArray) (v : Unit) (w : World) (hD : Dct w B d x D) (hks : k.size ≤ maxLen) (hk : (k, v) ∈ D.es) :
  Calls Tryz.prog 100 #[ptr d, .string k] w fun e w' => e = .returned (.tuple #[.agg #[], .bool true]) ∧ Below w.heap.size w w' := by
 obtain ⟨La, f, Lc, eL, hi, h2, h3⟩ := hD.parts (hsh x k)
 have hf : f ∈ D.L := by rw [eL]; simp
 have HK : Hid ((k, v) ∈ tsEs f.ts) := (hD.mem eL h2 h3).1 hk
 obtain ⟨wa, hwa⟩ : ∃ wa, w.alloc (.cells #[] 92) = wa := ⟨_, rfl⟩
 have HBa : Hid (Below w.heap.size w wa) := by rw [← hwa]; exact alloc_below w _
 have HD : Hid (Dct wa B d x D) := hD.keep HBa.out
 have hc := HD.out.cseed
 have HOf := fun w => Of_hsh x k w hks hD.seed
 have HLf := fun w hD => leafOf_any B d x D f (hsh x k) w hD hf hi (hsh_lt x k)
 have HL : Hid (Leaf w B x f) := hD.leaf f hf
 have hmx := HL.out.max
 have HKS : Hid (k.size ≤ maxLen) := hks
 generalize hm : f.ts.length = m at hmx
 have HM : Hid (f.ts.length = m) := hm
 generalize hsh x k = h at HOf HLf
 clear hD hk hks hm hi h2 h3 eL hf
 go_enter Tryz.func100, Tryz.ntmps100
 go_wp2_with fail
 refine (HOf _).mono ?_
 rintro e w9 ⟨rfl, rfl⟩
 go_wp2_with fail
 refine (HLf _ HD.out).mono ?_
 rintro e w1 ⟨rfl, hb1⟩
 have HB1 := step_below HBa hb1
 have hc1 := (HL.out.keep HB1.out).tabs
 rw [HM.out] at hc1
 clear HOf HLf hb1 hc
 go_wp2
 go_loopg [7, 8, 9, 23] m (fun q tv vv bv iv wr => ∃ i : Nat, i + q = m ∧ iv = .int .i64 i ∧ Hid (k ∉ keysOf (tsEs (f.ts.take i))) ∧ Hid (Below w.heap.size w wr))
 case atStart => exact ⟨0, by omega, rfl, (by simp [tsEs] : k ∉ _), HB1⟩
 case round =>
  obtain ⟨i, hi, rfl, HNo, HB⟩ := hrel
  by_cases h8 : (i : Int) < m
  ·obtain ⟨t, ht, htm⟩ := get_of_lt (l := f.ts) (i := i) (by have := HM.out; omega)
   have hcc := (HL.out.keep HB.out).at ht
   have HTab : Hid (Tab wr B t.p t.b x t.G t.z) := (HL.out.keep HB.out).tab t htm
   by_cases hin : k ∈ (ents t.z).map (·.1)
   ·obtain ⟨⟨k0, v'⟩, hv, rfl⟩ := List.mem_map.1 hin
    have hvv : v' = v := val_one HL.out.key (List.mem_flatMap.2 ⟨t, htm, hv⟩) HK.out
    subst hvv
    have hG := Get_some _ _ _ _ _ _ k0 v' _ HTab.out HKS.out hv
    clear ht htm hin hv
    go_wp2_with fail
    refine hG.mono ?_
    rintro e w2 ⟨rfl, hb2⟩
    have HB0 := step_below HB hb2
    have HB2 : Hid (Below w.heap.size w (w2.alloc (.cells #[] 92))) := HB0.out.trans ((alloc_below w2 _).mono HB0.out.size)
    clear hb2 hG
    go_wp2
    exact bodyPost_ret (v := .tuple #[.agg #[], .bool true]) (by simp [results, Tryz.results100, go_sem]) rfl ⟨rfl, HB2.out⟩
   ·have hG := Get_none _ _ _ _ _ _ k _ HTab.out HKS.out hin
    have HNo1 : Hid (k ∉ keysOf (tsEs (f.ts.take (i + 1)))) := by
     show k ∉ _
     rw [take_more ht, tsEs_append, keysOf_append, tsEs_one, List.mem_append]
     exact fun h => h.elim HNo.out hin
    clear ht htm hin
    go_wp2_with fail
    refine hG.mono ?_
    rintro e w2 ⟨rfl, hb2⟩
    have HB0 := step_below HB hb2
    have HB2 : Hid (Below w.heap.size w (w2.alloc (.cells #[] 92))) := HB0.out.trans ((alloc_below w2 _).mono HB0.out.size)
    clear hb2 hG
    go_wp2
    go_roundg (gk - 1)
    case measure => omega
    case rel => exact ⟨i + 1, by omega, by go_num, HNo1, HB2⟩
  ·exact absurd (List.mem_map.2 ⟨_, HK.out, rfl⟩) (by have := HNo.out; rw [List.take_of_length_le (by have := HM.out; omega)] at this; exact this)
set_option maxHeartbeats 4000000 in
theorem Get_dnone (B d x : Nat) (D : Dg) (k : ByteArray) (w : World) (hD : Dct w B d x D) (hks : k.size ≤ maxLen) (hk : k ∉ keysOf D.es) :
  Calls Tryz.prog 100 #[ptr d, .string k] w fun e w' => e = .returned (.tuple #[.agg #[], .bool false]) ∧ Below w.heap.size w w' := by
 obtain ⟨La, f, Lc, eL, hi, h2, h3⟩ := hD.parts (hsh x k)
 have hf : f ∈ D.L := by rw [eL]; simp
 have HK : Hid (k ∉ keysOf f.es) := fun h => hk ((hD.memk eL h2 h3).2 h)
 obtain ⟨wa, hwa⟩ : ∃ wa, w.alloc (.cells #[] 92) = wa := ⟨_, rfl⟩
 have HBa : Hid (Below w.heap.size w wa) := by rw [← hwa]; exact alloc_below w _
 have HD : Hid (Dct wa B d x D) := hD.keep HBa.out
 have hc := HD.out.cseed
 have HOf := fun w => Of_hsh x k w hks hD.seed
 have HLf := fun w hD => leafOf_any B d x D f (hsh x k) w hD hf hi (hsh_lt x k)
 have HL : Hid (Leaf w B x f) := hD.leaf f hf
 have hmx := HL.out.max
 have HKS : Hid (k.size ≤ maxLen) := hks
 generalize hm : f.ts.length = m at hmx
 have HM : Hid (f.ts.length = m) := hm
 generalize hsh x k = h at HOf HLf
 clear hD hk hks hm hi h2 h3 eL hf
 go_enter Tryz.func100, Tryz.ntmps100
 go_wp2_with fail
 refine (HOf _).mono ?_
 rintro e w9 ⟨rfl, rfl⟩
 go_wp2_with fail
 refine (HLf _ HD.out).mono ?_
 rintro e w1 ⟨rfl, hb1⟩
 have HB1 := step_below HBa hb1
 have hc1 := (HL.out.keep HB1.out).tabs
 rw [HM.out] at hc1
 clear HOf HLf hb1 hc
 go_wp2
 go_loopg [7, 8, 9, 23] m (fun q tv vv bv iv wr => ∃ i : Nat, i + q = m ∧ iv = .int .i64 i ∧ Hid (Below w.heap.size w wr))
 case atStart => exact ⟨0, by omega, rfl, HB1⟩
 case round =>
  obtain ⟨i, hi, rfl, HB⟩ := hrel
  by_cases h8 : (i : Int) < m
  ·obtain ⟨t, ht, htm⟩ := get_of_lt (l := f.ts) (i := i) (by have := HM.out; omega)
   have hcc := (HL.out.keep HB.out).at ht
   have hG := Get_none _ _ _ _ _ _ k _ ((HL.out.keep HB.out).tab t htm) HKS.out (not_in_tab HK.out htm)
   clear ht htm
   go_wp2_with fail
   refine hG.mono ?_
   rintro e w2 ⟨rfl, hb2⟩
   have HB0 := step_below HB hb2
   have HB2 : Hid (Below w.heap.size w (w2.alloc (.cells #[] 92))) := HB0.out.trans ((alloc_below w2 _).mono HB0.out.size)
   clear hb2 hG
   go_wp2
   go_roundg (gk - 1)
   case measure => omega
   case rel => exact ⟨i + 1, by omega, by go_num, HB2⟩
  ·have HB9 : Hid (Below w.heap.size w (wr.alloc (.cells #[] 92))) := HB.out.trans ((alloc_below wr _).mono HB.out.size)
   go_wp2
   exact bodyPost_ret (v := .tuple #[.agg #[], .bool false]) (by simp [results, Tryz.results100, go_sem]) rfl ⟨rfl, HB9.out⟩
def ordU (L : List Lf) (n : Nat) : List Lf := (List.range n).filterMap fun i => L.find? fun f => decide (f.q = i)
theorem Dct.same {w : World} {B d x : Nat} {D : Dg} (h : Dct w B d x D) {f u : Lf} (hf : f ∈ D.L) (hu : u ∈ D.L) {i : Nat} (h1 : isIn f.pt i = true) (h2 : isIn u.pt i = true) : f = u := by
 obtain ⟨j, hj, rfl⟩ := List.getElem_of_mem hf
 obtain ⟨k, hk, rfl⟩ := List.getElem_of_mem hu
 have hl : D.sh.length = D.L.length := List.length_map ..
 have e1 : D.sh[j]'(by omega) = D.L[j].pt := by simp [Dg.sh, shL]
 have e2 : D.sh[k]'(by omega) = D.L[k].pt := by simp [Dg.sh, shL]
 have := h.shp.one (i := j) (j := k) (by omega) (by omega) (h := i) (by rw [e1]; exact h1) (by rw [e2]; exact h2)
 subst this
 rfl
theorem Dct.self {w : World} {B d x : Nat} {D : Dg} (h : Dct w B d x D) {f : Lf} (hf : f ∈ D.L) : isIn f.pt f.q = true := isIn_self (h.lef hf).2.2
theorem Dct.find {w : World} {B d x : Nat} {D : Dg} (h : Dct w B d x D) {f : Lf} (hf : f ∈ D.L) : D.L.find? (fun u => decide (u.q = f.q)) = some f := by
 have : (D.L.find? (fun u => decide (u.q = f.q))).isSome = true := by rw [List.find?_isSome]; exact ⟨f, hf, by simp⟩
 obtain ⟨u, hu⟩ := Option.isSome_iff_exists.1 this
 have h1 := List.mem_of_find?_eq_some hu
 have h2 : u.q = f.q := by simpa using List.find?_some hu
 rw [hu]
 have := h.self h1
 rw [h2] at this
 rw [h.same h1 hf this (h.self hf)]
theorem Dct.ord_step {w : World} {B d x : Nat} {D : Dg} (h : Dct w B d x D) {f : Lf} (hf : f ∈ D.L) {i : Nat} (hi : isIn f.pt i = true) : ordU D.L (i + 1) = ordU D.L i ++ (if i = f.q then [f] else []) := by
 unfold ordU
 rw [List.range_succ, List.filterMap_append]
 congr 1
 by_cases e : i = f.q
 ·subst e
  rw [if_pos rfl]
  simp only [List.filterMap_cons, List.filterMap_nil]
  rw [h.find hf]
 ·rw [if_neg e]
  have : D.L.find? (fun u => decide (u.q = i)) = none := by
   rw [List.find?_eq_none]
   intro u hu hq
   have hq' := of_decide_eq_true hq
   have h1 := h.self hu
   rw [hq'] at h1
   have := h.same hu hf h1 hi
   subst this
   exact e hq'.symm
  simp only [List.filterMap_cons, List.filterMap_nil, this]
theorem Dct.ord_perm {w : World} {B d x : Nat} {D : Dg} (h : Dct w B d x D) : (ordU D.L (2 ^ D.g)).Perm D.L := by
 have hn : D.L.Nodup := by
  have h1 := h.shp.dis
  unfold Dg.sh shL at h1
  rw [List.pairwise_map] at h1
  unfold List.Nodup
  refine List.Pairwise.imp_of_mem ?_ h1
  intro a b ha _ hab e
  subst e
  have := hab _ (h.self ha)
  rw [h.self ha] at this
  cases this
 refine (List.perm_ext_iff_of_nodup ?_ hn).2 fun f => ?_
 ·unfold ordU List.Nodup
  rw [List.pairwise_filterMap]
  refine List.Pairwise.imp ?_ List.nodup_range
  intro i j hij u hu v hv e
  subst e
  have h1 : u.q = i := by simpa using List.find?_some hu
  have h2 : u.q = j := by simpa using List.find?_some hv
  exact hij (h1.symm.trans h2)
 ·unfold ordU
  rw [List.mem_filterMap]
  constructor
  ·rintro ⟨i, -, hi⟩
   exact List.mem_of_find?_eq_some hi
  ·intro hf
   have hl := h.lef hf
   exact ⟨f.q, List.mem_range.2 (Nat.lt_of_lt_of_le hl.2.2 (Nat.pow_le_pow_right (by decide) hl.1)), h.find hf⟩
theorem ordU_le (L : List Lf) (n : Nat) : (ordU L n).length ≤ n := by
 unfold ordU
 have := List.length_filterMap_le (fun i => L.find? fun f => decide (f.q = i)) (List.range n)
 rwa [List.length_range] at this
theorem Dct.find_leaf {w : World} {B d x : Nat} {D : Dg} (h : Dct w B d x D) (hh : Nat) : ∃ f, f ∈ D.L ∧ isIn f.pt hh = true := by
 obtain ⟨a, f, c, e, h1, -⟩ := h.parts hh
 exact ⟨f, by rw [e]; simp, h1⟩
set_option maxHeartbeats 4000000 in
theorem leaves_any (B d x : Nat) (D : Dg) (w : World) (hD : Dct w B d x D) :
  Calls Tryz.prog 118 #[ptr d] w fun e w' => Below w.heap.size w w' ∧ ∃ a n c, e = .returned (.slice a n c) ∧ OwnP w' w.heap.size 138 a n c ((ordU D.L (2 ^ D.g)).map Lf.a) := by
 have HD : Hid (Dct w B d x D) := hD
 have hc := hD.cpl
 have hp := hD.pow
 have HP : Hid (∀ i, i < 2 ^ D.g → i < 65536) := fun i hi => by omega
 generalize hm : 2 ^ D.g = m at hc hp
 have HM : Hid (2 ^ D.g = m) := hm
 have HO : Hid (OwnP w w.heap.size 138 none 0 0 ((ordU D.L 0).map Lf.a)) := OwnR.nil _ _ _ _
 clear hD hm
 go_enter Tryz.func118, Tryz.ntmps118
 go_wp2
 go_loopg [3, 4, 5, 11] m (fun q sv pv lv iv wr => ∃ (i : Nat) (a : Option Addr) (n c : Nat), i + q = m ∧ iv = .int .i64 i ∧ sv = .slice a n c ∧ Hid (OwnP wr w.heap.size 138 a n c ((ordU D.L i).map Lf.a)) ∧ Hid (Below w.heap.size w wr))
 case atStart => exact ⟨0, none, 0, 0, by omega, rfl, rfl, HO, Below.refl _ _⟩
 case round =>
  clear HO
  obtain ⟨i, a, n, c, hi, rfl, rfl, HO, HB⟩ := hrel
  by_cases h8 : (i : Int) < m
  ·obtain ⟨f, hf, hin⟩ := HD.out.find_leaf i
   have hDr := HD.out.keep HB.out
   have hpl := HD.out.dir f hf i (by rw [HM.out]; omega) hin
   have hcell := OwnP.cell hDr.row hpl
   have hown := (hDr.leaf f hf).own
   have hle := HD.out.lef hf
   have HS := HD.out.ord_step hf hin
   have HN1 : Hid (n + 1 ≤ 1000000) := by
    have h1 := OwnP.len HO.out
    have h2 := ordU_le D.L i
    rw [List.length_map] at h1
    show _ ≤ _
    omega
   have hq : i / 2 ^ f.l = 0 ↔ i = f.q := by
    rw [isIn_iff] at hin
    simp only [Lf.pt] at hin
    constructor
    ·intro h
     rw [← hin, Nat.mod_eq_of_lt]
     rcases Nat.lt_or_ge i (2 ^ f.l) with h1 | h1
     ·exact h1
     ·have := Nat.div_pos h1 (pow_pos f.l); omega
    ·intro h
     rw [Nat.div_eq_of_lt]
     have := hle.2.2
     omega
   have hle16 := hle.2.1
   generalize f.l = l at hown hq hle16
   obtain ⟨z, hz⟩ : ∃ z, i / 2 ^ l = z := ⟨_, rfl⟩
   have hzz : (i : Int) / 2 ^ l = (z : Nat) := by rw [← hz]; simp
   rw [hz] at hq
   clear hz hDr hpl hle hin hf
   have hsz := HB.out.size
   by_cases e : i = f.q
   ·rw [if_pos e, ] at HS
    have HS1 : Hid ((ordU D.L (i + 1)).map Lf.a = (ordU D.L i).map Lf.a ++ [f.a]) := by show _ = _; rw [HS, List.map_append]; rfl
    obtain rfl : z = 0 := hq.2 e
    generalize f.a = fa at hcell hown HS1
    clear HS hq e
    replace hzz : (i : Int) / 2 ^ l = 0 := hzz
    go_wp2_with (at_builtin; refine append_r rfl (.tmp 23) (.tmp 25) rfl eltL w.heap.size rfl (OwnR.keep HO.out (alloc_below wr _)) [ptr fa] rfl rfl (by intro j u hu; cases j with | zero => (rw [add_flat]; simp only [World.cell?, heap_alloc_new]; exact hu) | succ j => simp at hu) (by simp [Value.oneCell']) (by decide) (by have := HN1.out; omega) (by have := HN1.out; unfold maxLen; omega) (Nat.le_trans hsz (alloc_below wr _).size) ?_; intro a3 n3 c3 w3 hn3 HO3 HG3 HW3; have HB3 : Hid (Below w.heap.size w w3) := (HB.out.trans ((alloc_below wr _).mono hsz)).trans ((OwnR.keep HO.out (alloc_below wr _)).below HG3.out (Nat.le_trans hsz (alloc_below wr _).size)))
    go_roundg (gk - 1)
    case measure => omega
    case rel => exact ⟨i + 1, _, _, _, by omega, by go_num, rfl, by rw [HS1.out, ← hn3]; show OwnP _ _ _ _ _ _ _; unfold OwnP; rw [pcells_append]; exact HO3.out, HB3⟩
   ·rw [if_neg e, List.append_nil] at HS
    have HS1 : Hid (ordU D.L (i + 1) = ordU D.L i) := HS
    have hz0 : ((z : Int) == 0) = false := by simp; intro h; exact e (hq.1 h)
    generalize f.a = fa at hcell hown
    clear HS hq e
    go_wp2
    go_roundg (gk - 1)
    case measure => omega
    case rel => exact ⟨i + 1, _, _, _, by omega, by go_num, rfl, by rw [HS1.out]; exact HO, HB⟩
  ·have : i = m := by omega
   subst this
   go_wp2
   go_ret
   exact ⟨HB.out, _, _, _, rfl, HO.out⟩
set_option maxHeartbeats 4000000 in
theorem Keys_dict (B d x : Nat) (D : Dg) (w : World) (hD : Dct w B d x D) :
  Calls Tryz.prog 78 #[ptr d] w fun e w' => Below w.heap.size w w' ∧ ∃ a n c, e = .returned (.slice a n c) ∧ OwnS w' w.heap.size a n c (keysOf (esL (ordU D.L (2 ^ D.g)))) := by
 have HD : Hid (Dct w B d x D) := hD
 have hLs := leaves_any B d x D w hD
 have HPm : Hid ((ordU D.L (2 ^ D.g)).Perm D.L) := hD.ord_perm
 have HOL := ordU_le D.L (2 ^ D.g)
 have hpw := hD.pow
 have HTot : Hid ((esL (ordU D.L (2 ^ D.g))).length ≤ 1000000) := by
  have h1 := (HPm.out.flatMap_right Lf.es).length_eq
  have h2 := hD.le
  unfold Dg.es esL at h2
  unfold esL
  show _ ≤ _
  omega
 generalize ordU D.L (2 ^ D.g) = Lo at hLs HPm HTot HOL ⊢
 clear hD
 go_enter Tryz.func78, Tryz.ntmps78
 go_wp2_with fail
 refine hLs.mono ?_
 rintro e w1 ⟨hb1, al, nl, cl, rfl, hO1⟩
 have HB1 : Hid (Below w.heap.size w w1) := hb1
 have HOl : Hid (OwnP w1 w.heap.size 138 al nl cl (Lo.map Lf.a)) := hO1
 have HNl : Hid (Lo.length = nl) := by have := OwnP.len hO1; rw [List.length_map] at this; exact this
 have hnl : nl ≤ 65536 := by have := HNl.out; omega
 have HO : Hid (OwnS w1 w1.heap.size none 0 0 (keysOf (esL (Lo.take 0)))) := OwnR.nil _ _ _ _
 clear hb1 hO1 hLs HOL hpw
 go_wp2
 go_loopg [3, 5, 9] nl (fun q sv lv iv wr => ∃ (i : Nat) (a : Option Addr) (n c : Nat), i + q = nl ∧ iv = .int .i64 i ∧ sv = .slice a n c ∧ Hid (OwnS wr w1.heap.size a n c (keysOf (esL (Lo.take i)))) ∧ Hid (Below w1.heap.size w1 wr))
 case atStart => exact ⟨0, none, 0, 0, by omega, rfl, rfl, HO, Below.refl _ _⟩
 case round =>
  clear HO
  obtain ⟨i, a, n, c, hi, rfl, rfl, HO, HB⟩ := hrel
  by_cases h8 : (i : Int) < nl
  ·obtain ⟨f, hf, hfm⟩ := get_of_lt (l := Lo) (i := i) (by have := HNl.out; omega)
   have hfD : f ∈ D.L := HPm.out.mem_iff.1 hfm
   have hBw : Below w.heap.size w wr := HB1.out.trans (HB.out.mono HB1.out.size)
   have hDr := HD.out.keep hBw
   obtain ⟨gl, rfl, -⟩ := OwnR.at HOl.out (by omega)
   have hcell := OwnP.cell (OwnR.keep HOl.out HB.out) (j := i) (p := f.a) (by rw [List.getElem?_map, hf]; rfl)
   have hK := keys_any B x f wr (hDr.leaf f hfD) (hDr.les hfD)
   have HS : Hid (keysOf (esL (Lo.take (i + 1))) = keysOf (esL (Lo.take i)) ++ keysOf f.es) := by show _ = _; rw [take_more hf, esL_append, keysOf_append, esL_one]
   have HLe : Hid ((keysOf (esL (Lo.take (i + 1)))).length ≤ 1000000) := by
    have h1 := HTot.out
    rw [← List.take_append_drop (i + 1) Lo, esL_append, List.length_append] at h1
    show _ ≤ _
    rw [List.length_map]
    omega
   rw [HS.out] at HLe
   generalize keysOf f.es = ks at hK HS HLe
   generalize f.a = fa at hcell hK
   clear hf hfm hfD hBw hDr
   go_wp2_with fail
   refine hK.mono ?_
   rintro e w2 ⟨hb2, a1, n1, c1, rfl, hO1⟩
   have HO1 : Hid (OwnS w2 wr.heap.size a1 n1 c1 ks) := hO1
   have HB2 := step_below HB hb2
   have HO0 : Hid (OwnS w2 w1.heap.size a n c (keysOf (esL (Lo.take i)))) := OwnR.keep HO.out hb2
   have HN1 : Hid (n + n1 ≤ 1000000) := by
    have h1 := OwnS.len HO.out
    have h2 := OwnS.len hO1
    have h3 := HLe.out
    rw [List.length_append] at h3
    show _ ≤ _
    omega
   clear hb2 hO1 hK
   go_wp2_with (at_builtin; refine append_p rfl (.tmp 13) (.tmp 15) rfl eltS w1.heap.size rfl HO0.out rfl HO1.out.rd scells_one (by have := HN1.out; omega) (by have := HN1.out; unfold maxLen; omega) HB2.out.size ?_; intro a3 n3 c3 w3 hn3 HO3 HG3; have HB3 : Hid (Below w1.heap.size w1 w3) := HB2.out.trans (HO0.out.below HG3.out HB2.out.size))
   go_roundg (gk - 1)
   case measure => omega
   case rel => exact ⟨i + 1, _, _, _, by omega, by go_num, rfl, by rw [HS.out, ← hn3]; rw [← scells_append] at HO3; exact HO3, HB3⟩
  ·have HT : Hid (Lo.take i = Lo) := by show _ = _; rw [List.take_of_length_le (by have := HNl.out; omega)]
   rw [HT.out] at HO
   go_wp2
   go_ret
   exact ⟨HB1.out.trans (HB.out.mono HB1.out.size), _, _, _, rfl, HO.out.low HB1.out.size⟩
end Go.Proofs.YtikimcbalkhooaaGreat.Zs.Dk
