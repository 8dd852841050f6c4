/- Texts that the others stand on. -/
import Derived.Test.YtmjeljldmmkcpaaGreatK4
import Derived.Test.YtmjeljldmmkcpaaGreatK12
import Derived.Test.YtmjeljldmmkcpaaGreatK5
import Derived.Laws.Runes
import Derived.Deep.RegionLaw
import Derived.Test.YtmjeljldmmkcpaaGreatK6
import Derived.Test.YtmjeljldmmkcpaaGreatProg
import Derived.WalkKit
import Derived.WalkSpells
import Derived.PlainAid
import Derived.Laws.BitsAllLaws
import Derived.Laws.IdiomStrings
import Derived.Deep.LoopGhost
import Derived.Deep.Cut
import Derived.Lib.IndexBytes
import Derived.Elder7
set_option maxRecDepth 100000
set_option maxHeartbeats 4000000
namespace Go.Proofs.YtmjeljldmmkcpaaGreat.Zs.Dk
open Go.Proofs.YtmjeljldmmkcpaaGreat.Dk
open Go.RowKit Go.PlainAid
def Box (w : World) (q : Nat) (k : BA) (v : Int) : Prop := w.heap[q]? = some (.cells #[.string k, .int .u64 v] 197 (0, 0))
theorem Box.lt {w : World} {q : Nat} {k : BA} {v : Int} (h : Box w q k v) : q < w.heap.size := (Array.getElem?_eq_some_iff.1 h).1
theorem Box.kept {w wn : World} {q : Nat} {k : BA} {v : Int} (h : Box w q k v) (hb : wn.heap[q]? = w.heap[q]?) : Box wn q k v := by unfold Box; rw [hb]; exact h
theorem Box.keep {w wn : World} {q : Nat} {k : BA} {v : Int} (h : Box w q k v) (hb : Below w.heap.size w wn) : Box wn q k v := h.kept (hb.block q h.lt)
theorem Box.key {w : World} {q : Nat} {k : BA} {v : Int} (h : Box w q k v) : w.cell? ⟨q, 0, none⟩ = some (.string k) := by unfold Box at h; simp [World.cell?, h]
theorem Box.vl {w : World} {q : Nat} {k : BA} {v : Int} (h : Box w q k v) : w.cell? ⟨q, 1, none⟩ = some (.int .u64 v) := by unfold Box at h; simp [World.cell?, h]
theorem Box.made (w : World) (k : BA) (v : Int) : Box (w.alloc (.cells #[.string k, .int .u64 v] 197)) w.heap.size k v := heap_alloc_new w _
theorem Box.ne {w : World} {q b G : Nat} {z : List Cl} {k : BA} {v : Int} (h : Box w q k v) (h' : Row w b G z) : q ≠ b := by
 rintro rfl
 obtain ⟨cs, h1, -⟩ := h'.ex
 unfold Box at h
 rw [h1] at h
 simp at h
theorem Box.ne' {w : World} {q p b x G : Nat} {k : BA} {v : Int} (h : Box w q k v) (h' : Top w p b x G) : q ≠ p := by
 rintro rfl
 have := h'.blk
 unfold Box at h
 rw [h] at this
 simp at this
theorem Box.moves {w w' : World} {B q p b x G : Nat} {z : List Cl} {k : BA} {v : Int} (h : Box w q k v) (hm : Ai w w' p b) (hT : Tab w B p b x G z) : Box w' q k v := h.kept (hm.block q h.lt (h.ne' hT.top) (h.ne hT.row))
structure After (w wx : World) (p b x G : Nat) (z : List Cl) (q : Nat) (k : BA) (v : Int) : Prop where
 top : Top wx p b x G
 row : Row wx b G z
 mov : Ai w wx p b
 box : Box wx q k v
theorem lay_any (B p b x G : Nat) (z : List Cl) (k : BA) (v : Int) (w : World) (hT : Tab w B p b x G z) (hks : k.size ≤ maxLen) (hk : k ∉ (ents z).map (·.1))
  (hr : (ents z).length + dels z < 7 * G ∨ ∃ g i, Spr z G (hsh x k) g i ∧ (cel z (8 * g + i)).1 = 254) :
  Calls Tryz.prog 235 #[ptr p, .int .u64 (hsh x k : Nat), .agg #[.string k, .int .u64 v]] w fun e w' => e = .returned (.tuple #[]) ∧ Ai w w' p b ∧ ∃ z', Tab w' B p b x G z' ∧ (ents z').Perm (ents z ++ [(k, v)]) ∧ dels z' ≤ dels z := by
 have hh := Cp x k
 have HT : Hid (Tab w B p b x G z) := hT
 have HKS : Hid (k.size ≤ maxLen) := hks
 have HKN : Hid (k ∉ (ents z).map (·.1)) := hk
 have HR : Hid ((ents z).length + dels z < 7 * G ∨ ∃ g i, Spr z G (hsh x k) g i ∧ (cel z (8 * g + i)).1 = 254) := hr
 have hG := hT.inv.grp.le
 have HS := fun w hT => spare_any B p b x G (hsh x k) z w hT hh
 have H7 := fun w => Seven_nat (hsh x k) w hh
 have HSV : Hid (sev (hsh x k) < 128) := sev_lt x k
 obtain ⟨h, eh⟩ : ∃ h, hsh x k = h := ⟨_, rfl⟩
 have HEh : Hid (hsh x k = h) := eh
 rw [eh] at HS H7 hh HR HSV ⊢
 clear hT hk hr eh hks
 obtain ⟨w1, hw1⟩ : ∃ w1, w.alloc (.cells #[.string k, .int .u64 v] 197) = w1 := ⟨_, rfl⟩
 have HB1 : Hid (Below w.heap.size w w1) := by show Below _ _ _; rw [← hw1]; exact Ac w _
 obtain ⟨q, hq⟩ : ∃ q, w.heap.size = q := ⟨_, rfl⟩
 have HQ : Hid (w.heap.size = q) := hq
 have HX1 : Hid (Box w1 q k v) := by show Box _ _ _ _; rw [← hw1, ← hq]; exact Box.made w k v
 have HT1 : Hid (Tab w1 B p b x G z) := HT.out.keep HB1.out
 go_enter Tryz.func235, Tryz.ntmps235
 go_wp2_with fail
 refine (HS _ HT1.out).mono ?_
 rintro e w2 ⟨hb2, g, i, rfl, hsp⟩
 have HB2 := Ad HB1 hb2
 have HT2 : Hid (Tab w2 B p b x G z) := HT1.out.keep hb2
 have HX2 : Hid (Box w2 q k v) := HX1.out.keep hb2
 have HSP : Hid (Spr z G h g i) := hsp
 obtain ⟨j, hj, hjg, hi8, hfr, hfi, hno⟩ := hsp
 have HF : Hid (128 ≤ (cel z (8 * g + i)).1) := hfr
 have hgG : g < G := by rw [← hjg]; exact B6 HT.out.inv.grp.pos h j
 have hgz : (g : Int) < G := by omega
 have hiz : (i : Int) < 8 := by omega
 have HSet := fun w => Set_in (HT.out.inv.ok hgG) i (sev h) hi8 (by have := HSV.out; omega) w
 have HWD : Hid (∀ w', Below w2.heap.size w2 w' → w'.cell? ⟨p, 1, none⟩ = some (.slice (some ⟨b, 0, none⟩) G G) ∧ w'.cell? ⟨b, g * 17, none⟩ = some (.int .u64 (val (wrd z g) : Nat)) ∧ w'.frozen? ⟨b, g * 17, none⟩ = false) :=
  fun w' hb => ⟨(HT2.out.keep hb).top.groups, (HT2.out.keep hb).row.word hgG, (HT2.out.keep hb).row.frozen _⟩
 obtain ⟨wv, ewv⟩ : ∃ wv, val (wrd z g) = wv := ⟨_, rfl⟩
 rw [ewv] at HSet HWD
 obtain ⟨wn, ewn⟩ : ∃ wn, val ((wrd z g).set i (sev h)) = wn := ⟨_, rfl⟩
 have HWN : Hid (val ((wrd z g).set i (sev h)) = wn) := ewn
 rw [ewn] at HSet
 obtain ⟨sv, esv⟩ : ∃ sv, sev h = sv := ⟨_, rfl⟩
 have HSE : Hid (sev h = sv) := esv
 rw [esv] at H7 HSet
 have HD : Hid (Below w2.heap.size w2 w2.drew) := Aa w2 1
 clear hb2 hj hjg hfr hfi hno ewv ewn esv hw1 hq
 obtain ⟨hc2, hw2, hf2⟩ := HWD.out w2 (Below.refl _ _)
 have HAft : Hid (∀ w', Below w2.heap.size w2 w' → After w2 (w'.setCell ⟨b, g * 17, none⟩ (.int .u64 (wn : Nat))) p b x G (z.set (8 * g + i) (sv, (cel z (8 * g + i)).2)) q k v) := by
  intro w' hb
  have hT' := HT2.out.keep hb
  have hne := hT'.top.ne hT'.row
  have hR' := hT'.row.byte HT.out.inv.len hgG hi8 sv
  rw [← HSE.out, HWN.out, HSE.out] at hR'
  have hB' := HX2.out.keep hb
  exact ⟨hT'.top.kept (Below.heap_setCell _ _ _ _ (by simpa using hne)), hR', Ai.trans (Ai.of_below hb p b) (Ai.set (.inr rfl)) (.inl rfl), hB'.kept (Below.heap_setCell _ _ _ _ (by simpa using hB'.ne hT'.row))⟩
 have HIN : Hid (Inv x G (z.set (8 * g + i) (sv, k, v)) ∧ (ents (z.set (8 * g + i) (sv, k, v))).Perm (ents z ++ [(k, v)]) ∧ dels (z.set (8 * g + i) (sv, k, v)) ≤ dels z) := by
  obtain ⟨j, hj, hjg, hi8, hfr, hfi, hno⟩ := HSP.out
  have := HT.out.inv.lay v HKN.out (j := j) (i := i) hj hi8 (by rw [HEh.out, hjg]; exact hfr) (by rw [HEh.out]; exact hno) (by
   rw [HEh.out, hjg]
   rcases HR.out with h1 | ⟨g', i', h1, h2⟩
   ·exact .inr h1
   ·obtain ⟨rfl, rfl⟩ := HSP.out.one h1
    exact .inl h2)
  rw [HEh.out, hjg, HSE.out] at this
  exact this
 have HLEN : Hid (z.length = 8 * G) := HT.out.inv.len
 have HLO : Hid (B ≤ p ∧ B ≤ b ∧ x < 18446744073709551616 ∧ ∀ e ∈ ents (z.set (8 * g + i) (sv, k, v)), e.1.size ≤ maxLen) := by
  refine ⟨HT.out.low, HT.out.lowb, HT.out.seed, fun e he => ?_⟩
  rcases List.mem_append.1 (HIN.out.2.1.mem_iff.1 he) with he | he
  ·exact HT.out.siz e he
  ·rw [List.mem_singleton.1 he]; exact HKS.out
 clear HKS HS HX1 HB1 HT1 HSP HF HKN HR HEh HT HSV
 go_upto_region 2 with fail
 go_cut [] from 14 to 32 (fun wx => Hid (After w2 wx p b x G (z.set (8 * g + i) (sv, (cel z (8 * g + i)).2)) q k v))
 case first =>
  go_region_with (first
   | (go_at_call 172; refine (H7 _).mono ?_; rintro e wx ⟨rfl, rfl⟩)
   | (go_at_call 200; refine (HSet _).mono ?_; rintro e wx ⟨rfl, hb⟩; replace HD := Ad HD hb; obtain ⟨hc3, hw3, hf3⟩ := HWD.out wx HD.out; clear hb))
  all_goals (go_wp2; go_meet; exact HAft.out _ HD.out)
 case rest =>
 clear H7 HSet HWD hc2 hw2 hf2 HAft HD HX2 HT2
 obtain ⟨zz, hzz⟩ : ∃ zz, z.set (8 * g + i) (sv, (cel z (8 * g + i)).2) = zz := ⟨_, rfl⟩
 rw [hzz] at hcut
 have HC : Hid (After w2 wc p b x G zz q k v) := hcut
 have HRow : Hid (∀ n, Row (((wc.setCell ⟨b, g * 17 + 1 + i * 2, none⟩ (.string k)).setCell ⟨b, g * 17 + 1 + i * 2 + 1, none⟩ (.int .u64 v)).drewN n) b G (z.set (8 * g + i) (sv, k, v))) := by
  intro n
  have hl : zz.length = 8 * G := by rw [← hzz, List.length_set]; exact HLEN.out
  have := HC.out.row.slot hl hgG hi8 k v
  rw [← hzz, Au z (by rw [HLEN.out]; omega), List.set_set] at this
  exact this.kept (by rw [heap_drewN])
 have HTop : Hid (∀ n, Top (((wc.setCell ⟨b, g * 17 + 1 + i * 2, none⟩ (.string k)).setCell ⟨b, g * 17 + 1 + i * 2 + 1, none⟩ (.int .u64 v)).drewN n) p b x G) := by
  intro n
  have hne := HC.out.top.ne HC.out.row
  refine HC.out.top.kept ?_
  rw [heap_drewN, Below.heap_setCell _ _ _ _ (by simpa using hne), Below.heap_setCell _ _ _ _ (by simpa using hne)]
 have HMov : Hid (∀ n, Ai w (((wc.setCell ⟨b, g * 17 + 1 + i * 2, none⟩ (.string k)).setCell ⟨b, g * 17 + 1 + i * 2 + 1, none⟩ (.int .u64 v)).drewN n) p b) := by
  intro n
  have h1 : Ai w wc p b := (Ai.of_below HB2.out p b).trans HC.out.mov (.inl rfl)
  have h2 : Ai w _ p b := (h1.trans (Ai.set (o := g * 17 + 1 + i * 2) (v := .string k) (.inr rfl)) (.inl rfl)).trans (Ai.set (o := g * 17 + 1 + i * 2 + 1) (v := .int .u64 v) (.inr rfl)) (.inl rfl)
  exact h2.trans (Ai.of_below (Aa _ n) p b) (.inl rfl)
 have hc := HC.out.top.groups
 have hk := HC.out.box.key
 have hv := HC.out.box.vl
 have hck := HC.out.row.key hgG hi8
 have hcv := HC.out.row.vl hgG hi8
 have hfk := HC.out.row.frozen (g * 17 + 1 + i * 2)
 have hfv := HC.out.row.frozen (g * 17 + 1 + i * 2 + 1)
 generalize (cel zz (8 * g + i)).2.1 = k0 at hck
 generalize (cel zz (8 * g + i)).2.2 = v0 at hcv
 clear hcut hzz
 go_wp2
 go_region
 all_goals (go_end0; exact ⟨rfl, HMov.out 1, _, ⟨HTop.out 1, HRow.out 1, HLO.out.1, HLO.out.2.1, HIN.out.1, HLO.out.2.2.1, HLO.out.2.2.2⟩, HIN.out.2⟩)
theorem fresh_key {es : List En} {i : Nat} (hn : (es.map (·.1)).Nodup) (hi : i < es.length) : (es.getD i (⟨#[]⟩, 0)).1 ∉ (es.take i).map (·.1) := by
 have h1 : (es.take (i + 1)).map (·.1) = (es.take i).map (·.1) ++ [(es.getD i (⟨#[]⟩, 0)).1] := by rw [Bx es (⟨#[]⟩, 0) i hi, List.map_append]; rfl
 have h2 : ((es.take (i + 1)).map (·.1)).Nodup := List.Sublist.nodup (List.Sublist.map _ (List.take_sublist _ _)) hn
 rw [h1, List.nodup_append] at h2
 intro hm
 exact h2.2.2 _ hm _ (by simp) rfl
theorem makeRoom_any (B p b x G : Nat) (z : List Cl) (w : World) (hT : Tab w B p b x G z) (hlen : (ents z).length < 112) :
  Calls Tryz.prog 234 #[ptr p] w fun e w' => e = .returned (.tuple #[]) ∧ Ai w w' p b ∧ ∃ b' G' z', Tab w' B p b' x G' z' ∧ w.heap.size ≤ b' ∧ (ents z').Perm (ents z) ∧ (ents z').length + dels z' < 7 * G' := by
 have HF := full_any B p b x G z w hT
 have HT : Hid (Tab w B p b x G z) := hT
 have hG := hT.inv.grp.le
 have HND : Hid (((ents z).map (·.1)).Nodup) := hT.inv.nod
 have HSZ : Hid (∀ e ∈ ents z, e.1.size ≤ maxLen) := hT.siz
 have HRO : Hid ((ents z).length ≤ 7 * G) := by have := hT.inv.room; show _ ≤ _; omega
 have HGP : Hid (isG G) := hT.inv.grp
 have HLO : Hid (B ≤ p ∧ p < w.heap.size ∧ x < 18446744073709551616) := ⟨hT.low, hT.top.lt, hT.seed⟩
 clear hT
 obtain ⟨es, hes⟩ : ∃ es, ents z = es := ⟨_, rfl⟩
 rw [hes] at HF HND HSZ HRO hlen ⊢
 clear hes
 obtain ⟨G', hG'⟩ : ∃ G', (if 7 * G ≤ es.length then 2 * G else G) = G' := ⟨_, rfl⟩
 have HG' : Hid (isG G' ∧ es.length < 7 * G') := by
  have h0 := HGP.out.pos
  have h1 := HRO.out
  split at hG'
  ·subst hG'; exact ⟨HGP.out.two (by omega), by omega⟩
  ·subst hG'; exact ⟨HGP.out, by omega⟩
 have hG16 : G' ≤ 16 := HG'.out.1.le
 go_enter Tryz.func234, Tryz.ntmps234
 go_wp2_with fail
 refine HF.mono ?_
 rintro e w1 ⟨hb1, ae, ne, ce, rfl, hO⟩
 have HB1 : Hid (Below w.heap.size w w1) := hb1
 have HT1 : Hid (Tab w1 B p b x G z) := HT.out.keep hb1
 have HO1 : Hid (OwnE w1 w.heap.size ae ne ce es) := hO
 have HNE : Hid (es.length = ne) := OwnE.len hO
 rw [HNE.out] at hG' hlen
 have hc1 := HT1.out.top.groups
 have hs1 := HB1.out.size
 clear hb1 hO HF
 go_upto_if 17 with fail
 go_cut [3] from 18 to 19 (fun v wx => v = .int .i64 G' ∧ wx = w1)
 case first =>
  by_cases hf : 7 * G ≤ ne
  ·rw [if_pos hf] at hG'
   subst hG'
   go_wp2
   go_meet
   exact ⟨by go_num, rfl⟩
  ·rw [if_neg hf] at hG'
   subst hG'
   go_wp2
   go_meet
   exact ⟨rfl, rfl⟩
 case rest =>
 obtain ⟨rfl, rfl⟩ := hcut
 clear hG'
 have HE := B7 G' wc hG16
 obtain ⟨b', hb'⟩ : ∃ b', wc.heap.size = b' := ⟨_, rfl⟩
 have HBb : Hid (wc.heap.size = b') := hb'
 rw [hb'] at HE
 clear hb' hc1
 go_wp2_with fail
 refine HE.mono ?_
 rintro e w2 ⟨rfl, hb2, hR2⟩
 have HB2 : Hid (Below wc.heap.size wc w2) := by rw [HBb.out]; exact hb2
 have HTp2 : Hid (Top w2 p b x G) := HT1.out.top.keep HB2.out
 have HR2 : Hid (Row w2 b' G' (Be G')) := hR2
 have hc2 := HTp2.out.groups
 have hf2 := HTp2.out.frozen 1
 obtain ⟨w3, hw3⟩ : ∃ w3, w2.setCell ⟨p, 1, none⟩ (.slice (some ⟨b', 0, none⟩) G' G') = w3 := ⟨_, rfl⟩
 have HM3 : Hid (Ai w w3 p b) := by
  show Ai _ _ _ _
  rw [← hw3]
  exact ((Ai.of_below HB1.out p b).trans (Ai.of_below HB2.out p b) (.inl rfl)).trans (Ai.set (.inl rfl)) (.inl rfl)
 have hwb : w.heap.size ≤ b' := by rw [← HBb.out]; exact hs1
 have HT3 : Hid (Tab w3 B p b' x G' (Be G')) := by
  have hne := HTp2.out.ne HR2.out
  show Tab _ _ _ _ _ _ _
  rw [← hw3]
  exact ⟨HTp2.out.set b' G', HR2.out.kept (Below.heap_setCell _ _ _ _ (by simpa using hne.symm)), HLO.out.1, Nat.le_trans (Nat.le_trans HLO.out.1 (Nat.le_of_lt HLO.out.2.1)) hwb, Inv.news x HG'.out.1, HLO.out.2.2, fun e he => by rw [A9] at he; cases he⟩
 have HO3 : Hid (OwnE w3 w.heap.size ae ne ce es) := (OwnR.keep HO1.out HB2.out).kept fun k hk => by
  rw [← hw3]
  refine Below.heap_setCell _ _ _ _ ?_
  rintro rfl
  obtain ⟨-, -, cur, h3⟩ := (OwnR.keep HO1.out HB2.out).lt hk
  rw [HTp2.out.blk] at h3
  simp at h3
 have hne : ne ≤ 200 := by omega
 clear hb2 hR2 HE
 go_wp2
 clear hw3 hc2 hf2
 go_loopg [5, 27] ne (fun q sv jv wr => ∃ (i : Nat) (zi : List Cl), i + q = ne ∧ jv = .int .i64 i ∧ Hid (Tab wr B p b' x G' zi ∧ (ents zi).Perm (es.take i) ∧ dels zi = 0) ∧ Hid (OwnE wr w.heap.size ae ne ce es) ∧ Hid (Ai w wr p b))
 case atStart => exact ⟨0, _, by omega, rfl, ⟨HT3.out, by rw [A9]; exact List.Perm.refl _, dels_news0 _⟩, HO3, HM3⟩
 case round =>
  clear HO3 HT3 HM3 HR2 HTp2 HB2
  obtain ⟨i, zi, hi, rfl, HZ, HO, HM⟩ := hrel
  by_cases h8 : (i : Int) < ne
  ·obtain ⟨gE, ha, hk, hv⟩ := OwnE.cell HO.out (j := i) (by omega)
   subst ha
   have hil : i < es.length := by have := HNE.out; omega
   have HFR : Hid ((es.getD i (⟨#[]⟩, 0)).1 ∉ (ents zi).map (·.1)) := by
    intro hm
    exact fresh_key HND.out hil ((HZ.out.2.1.map (·.1)).mem_iff.1 hm)
   have HKS : Hid ((es.getD i (⟨#[]⟩, 0)).1.size ≤ maxLen) := HSZ.out _ (by rw [List.getD_eq_getElem?_getD, List.getElem?_eq_getElem hil]; exact List.getElem_mem hil)
   have HTS : Hid (es.take (i + 1) = es.take i ++ [es.getD i (⟨#[]⟩, 0)]) := Bx es _ i hil
   generalize es.getD i (⟨#[]⟩, 0) = ev at hk hv HFR HKS HTS
   obtain ⟨k, v⟩ := ev
   simp only [] at hk hv
   obtain ⟨w4, hw4⟩ : ∃ w4, wr.alloc (.cells #[.string k, .int .u64 v] 197) = w4 := ⟨_, rfl⟩
   obtain ⟨q, hq⟩ : ∃ q, wr.heap.size = q := ⟨_, rfl⟩
   have HB4 : Hid (Below wr.heap.size wr w4) := by show Below _ _ _; rw [← hw4]; exact Ac wr _
   have HX4 : Hid (Box w4 q k v) := by show Box _ _ _ _; rw [← hw4, ← hq]; exact Box.made wr k v
   have HT4 : Hid (Tab w4 B p b' x G' zi) := HZ.out.1.keep HB4.out
   have HO4 : Hid (OwnE w4 w.heap.size (some ⟨gE, 0, none⟩) ne ce es) := OwnR.keep HO.out HB4.out
   have HM4 : Hid (Ai w w4 p b) := HM.out.trans (Ai.of_below HB4.out p b) (.inl rfl)
   have HOf : ∀ w, Calls Tryz.prog 88 #[.int .u64 x, .string k] w fun e w' => e = .returned (.int .u64 (hsh x k : Nat)) ∧ w' = w := fun w => Of_any x k w HKS.out HLO.out.2.2
   have HLy := fun w hT => lay_any B p b' x G' zi k v w hT HKS.out HFR.out (.inl (by
    have h1 := HZ.out.2.1.length_eq
    have h2 := HZ.out.2.2
    have h3 := HG'.out.2
    rw [List.length_take] at h1
    omega))
   generalize hsh x k = hv at HOf HLy
   have HTd : Hid (Tab w4.drew B p b' x G' zi) := HT4.out.keep (Aa w4 1)
   have HXd : Hid (Box w4.drew q k v) := HX4.out.keep (Aa w4 1)
   have HOd : Hid (OwnE w4.drew w.heap.size (some ⟨gE, 0, none⟩) ne ce es) := OwnR.keep HO4.out (Aa w4 1)
   have HMd : Hid (Ai w w4.drew p b) := HM4.out.trans (Ai.of_below (Aa w4 1) p b) (.inl rfl)
   clear hil HKS HFR HB4 HX4 HT4 HO4 HM4 HO HM
   go_upto_region 8 with fail
   go_region_held3 (fun w' => w'.cell? ⟨p, 0, none⟩ = some (.int .u64 (x : Nat)) ∧ w'.cell? ⟨q, 0, none⟩ = some (.string k) ∧ w'.cell? ⟨q, 1, none⟩ = some (.int .u64 v)) (exact ⟨HTd.out.top.seed, HXd.out.key, HXd.out.vl⟩) (first
    | (go_at_call 88; refine (HOf _).mono ?_; rintro e wx ⟨rfl, rfl⟩)
    | (go_at_call 235; refine (HLy _ HTd.out).mono ?_; rintro e wx ⟨rfl, hm, z2, hT2, hp2, hd2⟩; replace HXd : Hid (Box wx q k v) := HXd.out.moves hm HTd.out; replace HOd : Hid (OwnE wx w.heap.size (some ⟨gE, 0, none⟩) ne ce es) := OwnR.moves HOd.out hm HTd.out (by decide) (by decide); replace HMd : Hid (Ai w wx p b) := HMd.out.trans hm (.inr hwb); have HZ2 : Hid (Tab wx B p b' x G' z2 ∧ (ents z2).Perm (es.take (i + 1)) ∧ dels z2 = 0) := ⟨hT2, by rw [HTS.out]; exact hp2.trans (List.Perm.append_right _ HZ.out.2.1), by have := HZ.out.2.2; omega⟩; replace HTd : Hid (Tab wx B p b' x G' z2) := hT2; clear hm hT2 hp2 hd2))
   clear HTd HXd HOf HLy
   go_wp2
   go_roundg (gk - 1)
   case measure => omega
   case rel => exact ⟨i + 1, z2, by omega, by go_num, HZ2, HOd, HMd⟩
  ·have HE : Hid (es.take i = es) := by show _ = _; rw [List.take_of_length_le (by have := HNE.out; omega)]
   go_wp2
   go_end0
   refine ⟨rfl, HM.out, b', G', zi, HZ.out.1, hwb, by have := HZ.out.2.1; rw [HE.out] at this; exact this, ?_⟩
   have h1 := HZ.out.2.1.length_eq
   have h2 := HZ.out.2.2
   have h3 := HG'.out.2
   rw [HE.out] at h1
   omega
def More (w w' : World) (B p b x : Nat) (z : List Cl) (k : BA) (v : Int) : Prop :=
 Ai w w' p b ∧ ∃ b' G' z', Tab w' B p b' x G' z' ∧ (b' = b ∨ w.heap.size ≤ b') ∧ (ents z').Perm (ents z ++ [(k, v)])
theorem add_any (B p b x G : Nat) (z : List Cl) (k : BA) (v : Int) (w : World) (hT : Tab w B p b x G z) (hks : k.size ≤ maxLen) (hk : k ∉ (ents z).map (·.1)) (hlen : (ents z).length < 112) :
  Calls Tryz.prog 185 #[ptr p, .int .u64 (hsh x k : Nat), .agg #[.string k, .int .u64 v]] w fun e w' => e = .returned (.tuple #[]) ∧ More w w' B p b x z k v := by
 have hh := Cp x k
 have HT : Hid (Tab w B p b x G z) := hT
 have HKS : Hid (k.size ≤ maxLen) := hks
 have HKN : Hid (k ∉ (ents z).map (·.1)) := hk
 have hG := hT.inv.grp.le
 have HS := fun w hT => spare_any B p b x G (hsh x k) z w hT hh
 have HLe := fun w hT => Len_any B p b x G z w hT
 have HMa := fun w hT => Marks_any B p b x G z w hT
 have HMR := fun w hT => makeRoom_any B p b x G z w hT hlen
 have HL1 := fun b G z w hT (hk : k ∉ (ents z).map (·.1)) hr => lay_any B p b x G z k v w hT hks hk hr
 have HRO : Hid ((ents z).length + dels z ≤ 7 * G) := hT.inv.room
 obtain ⟨h, eh⟩ : ∃ h, hsh x k = h := ⟨_, rfl⟩
 rw [eh] at HS hh HL1 ⊢
 clear hT hk eh hks
 obtain ⟨w1, hw1⟩ : ∃ w1, w.alloc (.cells #[.string k, .int .u64 v] 197) = w1 := ⟨_, rfl⟩
 have HB1 : Hid (Below w.heap.size w w1) := by show Below _ _ _; rw [← hw1]; exact Ac w _
 obtain ⟨q, hq⟩ : ∃ q, w.heap.size = q := ⟨_, rfl⟩
 have HX1 : Hid (Box w1 q k v) := by show Box _ _ _ _; rw [← hw1, ← hq]; exact Box.made w k v
 have HT1 : Hid (Tab w1 B p b x G z) := HT.out.keep HB1.out
 go_enter Tryz.func185, Tryz.ntmps185
 go_wp2_with fail
 refine (HS _ HT1.out).mono ?_
 rintro e w2 ⟨hb2, g, i, rfl, hsp⟩
 have HB2 := Ad HB1 hb2
 have HT2 : Hid (Tab w2 B p b x G z) := HT1.out.keep hb2
 have HX2 : Hid (Box w2 q k v) := HX1.out.keep hb2
 have HSP : Hid (Spr z G h g i) := hsp
 obtain ⟨j, hj, hjg, hi8, hfr, -, -⟩ := hsp
 have hgG : g < G := by rw [← hjg]; exact B6 HT.out.inv.grp.pos h j
 have hgz : (g : Int) < G := by omega
 have HA := fun w => At_in (HT.out.inv.ok hgG) i hi8 w
 rw [Bb HT.out.inv.len hgG hi8] at HA
 have HByt : Hid ((cel z (8 * g + i)).1 = 128 ∨ (cel z (8 * g + i)).1 = 254) := by
  rcases HT.out.inv.byt (8 * g + i) (by omega) with h1 | h1 | h1
  ·omega
  ·exact .inl h1
  ·exact .inr h1
 have HWD : Hid (∀ w', Below w2.heap.size w2 w' → w'.cell? ⟨p, 1, none⟩ = some (.slice (some ⟨b, 0, none⟩) G G) ∧ w'.cell? ⟨b, g * 17, none⟩ = some (.int .u64 (val (wrd z g) : Nat))) :=
  fun w' hb => ⟨(HT2.out.keep hb).top.groups, (HT2.out.keep hb).row.word hgG⟩
 obtain ⟨wv, ewv⟩ : ∃ wv, val (wrd z g) = wv := ⟨_, rfl⟩
 rw [ewv] at HA HWD
 obtain ⟨bt, ebt⟩ : ∃ bt, (cel z (8 * g + i)).1 = bt := ⟨_, rfl⟩
 have HEB : Hid ((cel z (8 * g + i)).1 = bt) := ebt
 rw [ebt] at HA HByt
 have HD : Hid (Below w2.heap.size w2 w2.drew) := Aa w2 1
 have HTd : Hid (Tab w2.drew B p b x G z) := HT2.out.keep HD.out
 obtain ⟨m, em⟩ : ∃ m, (ents z).length = m := ⟨_, rfl⟩
 obtain ⟨d, ed⟩ : ∃ d, dels z = d := ⟨_, rfl⟩
 rw [em] at HLe hlen
 rw [ed] at HMa
 rw [em, ed] at HRO
 have hd : d ≤ 112 := by have := HRO.out; omega
 have HEM : Hid ((ents z).length = m) := em
 have HED : Hid (dels z = d) := ed
 have HNX : Hid (∀ w', Below w2.heap.size w2 w' → Tab w' B p b x G z ∧ Box w' q k v ∧ Ai w w' p b) := fun w' hb => ⟨HT2.out.keep hb, HX2.out.keep hb, (Ai.of_below HB2.out p b).trans (Ai.of_below hb p b) (.inl rfl)⟩
 clear hb2 hj hjg hfr ewv ebt hw1 hq HS HX1 HT1 HB1 HB2 em ed
 have hw7 : IntKind.i64.wrap (7 * (G : Int)) = 7 * (G : Int) := by rw [IntKind.wrap_i64]; omega
 have hwm : IntKind.i64.wrap ((m : Int) + (d : Int)) = (m : Int) + (d : Int) := by rw [IntKind.wrap_i64]; omega
 go_upto_region 2 with fail
 rcases HByt.out with e1 | e1
 ·subst e1
  go_region_held3 (fun w' => w'.cell? ⟨p, 1, none⟩ = some (.slice (some ⟨b, 0, none⟩) G G) ∧ w'.cell? ⟨b, g * 17, none⟩ = some (.int .u64 (wv : Nat))) (exact HWD.out _ HD.out) (first
   | (go_at_call 205; refine (HA _).mono ?_; rintro e wx ⟨rfl, rfl⟩)
   | (go_at_call 184; refine (HLe _ HTd.out).mono ?_; rintro e wx ⟨rfl, rfl⟩)
   | (go_at_call 233; refine (HMa _ HTd.out).mono ?_; rintro e wx ⟨rfl, hb⟩; replace HD := Ad HD hb; replace HTd : Hid (Tab wx B p b x G z) := HTd.out.keep hb; clear hb))
  clear HWD HA HLe HMa HByt
  have hk1 := (HNX.out _ HD.out).2.1.key
  have hv1 := (HNX.out _ HD.out).2.1.vl
  have HMv : Hid (Ai w wx p b) := (HNX.out _ HD.out).2.2
  by_cases hf : 7 * (G : Int) ≤ (m : Int) + (d : Int)
  ·go_wp2_with fail
   refine (HMR _ HTd.out).mono ?_
   rintro e w3 ⟨rfl, hm3, b3, G3, z3, hT3, hb3, hp3, hr3⟩
   have HX3 : Hid (Box w3 q k v) := (HNX.out _ HD.out).2.1.moves hm3 HTd.out
   have HT3 : Hid (Tab w3 B p b3 x G3 z3) := hT3
   have HM3 : Hid (Ai w w3 p b) := HMv.out.trans hm3 (.inl rfl)
   have HP3 : Hid ((ents z3).Perm (ents z)) := hp3
   have HB3 : Hid (w.heap.size ≤ b3) := Nat.le_trans HMv.out.size hb3
   have HKN3 : k ∉ (ents z3).map (·.1) := fun hm => HKN.out ((hp3.map (·.1)).mem_iff.1 hm)
   have HLy := HL1 b3 G3 z3 w3 hT3 HKN3 (.inl hr3)
   have hk3 := HX3.out.key
   have hv3 := HX3.out.vl
   clear hm3 hT3 hb3 hp3 hr3 HKN3 HL1 HMR hk1 hv1
   go_wp2_with fail
   refine HLy.mono ?_
   rintro e w4 ⟨rfl, hm4, z4, hT4, hp4, -⟩
   have HR : Hid (More w w4 B p b x z k v) := ⟨HM3.out.trans hm4 (.inr HB3.out), b3, G3, z4, hT4, .inr HB3.out, hp4.trans (List.Perm.append_right _ HP3.out)⟩
   clear hm4 hT4 hp4
   go_wp2
   go_end0
   exact ⟨rfl, HR.out⟩
  ·have HLy := HL1 b G z wx HTd.out HKN.out (.inl (by have := HEM.out; have := HED.out; omega))
   clear HL1 HMR
   go_wp2_with fail
   refine HLy.mono ?_
   rintro e w4 ⟨rfl, hm4, z4, hT4, hp4, -⟩
   have HR : Hid (More w w4 B p b x z k v) := ⟨HMv.out.trans hm4 (.inl rfl), b, G, z4, hT4, .inl rfl, hp4⟩
   clear hm4 hT4 hp4
   go_wp2
   go_end0
   exact ⟨rfl, HR.out⟩
 ·subst e1
  have hc2 := HT2.out.top.groups
  have hw2 := (HWD.out _ (Below.refl _ _)).2
  go_quiet ((go_at_call 205; refine Calls.quiet_of_same (HA _)))
  clear HWD HA HLe HMa HByt hc2 hw2
  obtain ⟨wx, hwx⟩ : ∃ wx, w2.drewN nq = wx := ⟨_, rfl⟩
  have HDx : Hid (Below w2.heap.size w2 wx) := by show Below _ _ _; rw [← hwx]; exact Aa w2 nq
  rw [hwx]
  clear hwx
  have hk1 := (HNX.out _ HDx.out).2.1.key
  have hv1 := (HNX.out _ HDx.out).2.1.vl
  have HMv : Hid (Ai w wx p b) := (HNX.out _ HDx.out).2.2
  have HLy := HL1 b G z wx (HNX.out _ HDx.out).1 HKN.out (.inr ⟨g, i, HSP.out, HEB.out⟩)
  clear HL1 HMR
  go_wp2_with fail
  refine HLy.mono ?_
  rintro e w4 ⟨rfl, hm4, z4, hT4, hp4, -⟩
  have HR : Hid (More w w4 B p b x z k v) := ⟨HMv.out.trans hm4 (.inl rfl), b, G, z4, hT4, .inl rfl, hp4⟩
  clear hm4 hT4 hp4
  go_wp2
  go_end0
  exact ⟨rfl, HR.out⟩
theorem Put_new (B p b x G : Nat) (z : List Cl) (k : BA) (v : Int) (w : World) (hT : Tab w B p b x G z) (hks : k.size ≤ maxLen) (hk : k ∉ (ents z).map (·.1)) (hlen : (ents z).length < 112) :
  Calls Tryz.prog 139 #[ptr p, .string k, .int .u64 v] w fun e w' => e = .returned (.int .i64 0) ∧ More w w' B p b x z k v := by
 have hc := hT.top.seed
 have HO : ∀ w, Calls Tryz.prog 88 #[.int .u64 x, .string k] w fun e w' => e = .returned (.int .u64 (hsh x k : Nat)) ∧ w' = w := fun w => Of_any x k w hks hT.seed
 have HF := fun w hT => A2 B p b x G z k w hT
 have HAd := fun w hT => add_any B p b x G z k v w hT hks hk hlen
 have HLe := fun w hT => Len_any B p b x G z w hT
 have HT : Hid (Tab w B p b x G z) := hT
 have HM : Hid (k ∉ (ents z).map (·.1)) := hk
 generalize hsh x k = h at HO HF HAd
 generalize (ents z).length = m at HLe hlen
 clear hT hk hks
 go_enter Tryz.func139, Tryz.ntmps139
 go_wp2_with fail
 refine (HO _).mono ?_
 rintro e w ⟨rfl, rfl⟩
 go_wp2_with fail
 refine (HF _ HT.out).mono ?_
 rintro e w1 ⟨hb, hF⟩
 have HT1 : Hid (Tab w1 B p b x G z) := HT.out.keep hb
 have HB1 : Hid (Below w.heap.size w w1) := hb
 rcases hF with ⟨g, i, hg, hi, h1, h2, rfl⟩ | ⟨h1, rfl⟩
 ·exact absurd (List.mem_map.2 ⟨_, mem_ents.2 ⟨8 * g + i, by rw [HT.out.inv.len]; omega, h1, rfl⟩, h2⟩) HM.out
 ·clear h1 hb hc HO HF
  go_wp2_with fail
  refine (HLe _ HT1.out).mono ?_
  rintro e w1 ⟨rfl, rfl⟩
  go_wp2_with fail
  refine (HAd _ HT1.out).mono ?_
  rintro e w2 ⟨rfl, hm, b2, G2, z2, hT2, hb2, hp2⟩
  have HR : Hid (More w w2 B p b x z k v) := ⟨(Ai.of_below HB1.out p b).trans hm (.inl rfl), b2, G2, z2, hT2, hb2.imp id (fun h => Nat.le_trans HB1.out.size h), hp2⟩
  clear hm hT2 hb2 hp2
  go_wp2
  go_ret
  exact ⟨rfl, HR.out⟩
def Cb (w w' : World) (B p b x G : Nat) (z : List Cl) (k : BA) (v : Int) : Prop :=
 Ai w w' p b ∧ ∃ z', Tab w' B p b x G z' ∧ ∃ a c u, ents z = a ++ (k, u) :: c ∧ ents z' = a ++ (k, v) :: c
theorem Put_old (B p b x G : Nat) (z : List Cl) (k : BA) (v : Int) (w : World) (hT : Tab w B p b x G z) (hks : k.size ≤ maxLen) (hk : k ∈ (ents z).map (·.1)) :
  Calls Tryz.prog 139 #[ptr p, .string k, .int .u64 v] w fun e w' => e = .returned (.int .i64 0) ∧ Cb w w' B p b x G z k v := by
 have hc := hT.top.seed
 have HO : ∀ w, Calls Tryz.prog 88 #[.int .u64 x, .string k] w fun e w' => e = .returned (.int .u64 (hsh x k : Nat)) ∧ w' = w := fun w => Of_any x k w hks hT.seed
 have HF := fun w hT => A2 B p b x G z k w hT
 have HT : Hid (Tab w B p b x G z) := hT
 have HM : Hid (k ∈ (ents z).map (·.1)) := hk
 have hG := hT.inv.grp.le
 generalize hsh x k = h at HO HF
 clear hT hk hks
 go_enter Tryz.func139, Tryz.ntmps139
 go_wp2_with fail
 refine (HO _).mono ?_
 rintro e w ⟨rfl, rfl⟩
 go_wp2_with fail
 refine (HF _ HT.out).mono ?_
 rintro e w1 ⟨hb, hF⟩
 have HT1 : Hid (Tab w1 B p b x G z) := HT.out.keep hb
 have HB1 : Hid (Below w.heap.size w w1) := hb
 rcases hF with ⟨g, i, hg, hi, h1, h2, rfl⟩ | ⟨h1, rfl⟩
 ·have hgz : (g : Int) < G := by omega
  have hiz : (i : Int) < 8 := by omega
  have hc1 := HT1.out.top.groups
  have hv1 := HT1.out.row.vl hg hi
  have hf1 := HT1.out.row.frozen (g * 17 + 1 + i * 2 + 1)
  have HR : Hid (Cb w (w1.setCell ⟨b, g * 17 + 1 + i * 2 + 1, none⟩ (.int .u64 v)) B p b x G z k v) := by
   refine ⟨(Ai.of_below HB1.out p b).trans (Ai.set (.inr rfl)) (.inl rfl), ?_⟩
   obtain ⟨hI, a, c, ha, hc⟩ := HT1.out.inv.turn hg hi h1 v
   have hne := HT1.out.top.ne HT1.out.row
   refine ⟨_, ⟨HT1.out.top.kept (Below.heap_setCell _ _ _ _ (by simpa using hne)), HT1.out.row.setVal HT1.out.inv.len hg hi v, HT1.out.low, HT1.out.lowb, hI, HT1.out.seed, ?_⟩, a, c, (cel z (8 * g + i)).2.2, ?_, ?_⟩
   ·intro e he
    rw [hc] at he
    have hs := HT1.out.siz
    rw [ha] at hs
    rcases List.mem_append.1 he with he | he
    ·exact hs e (List.mem_append.2 (.inl he))
    ·rcases List.mem_cons.1 he with rfl | he
     ·exact hs (cel z (8 * g + i)).2 (by simp)
     ·exact hs e (List.mem_append.2 (.inr (List.mem_cons_of_mem _ he)))
   ·rw [ha, ← h2]
   ·rw [hc, h2]
  generalize (cel z (8 * g + i)).2.2 = v0 at hv1
  clear h1 h2 hb hc HO HF
  go_wp2
  go_ret
  exact ⟨rfl, HR.out⟩
 ·exact absurd HM.out h1
abbrev Ae (es : List En) : List BA := es.map (·.1)
end Go.Proofs.YtmjeljldmmkcpaaGreat.Zs.Dk
namespace Go.Proofs.YtmjeljldmmkcpaaGreat.Zs.Dk
open Go.Proofs.YtmjeljldmmkcpaaGreat.Dk
end Go.Proofs.YtmjeljldmmkcpaaGreat.Zs.Dk
namespace Go.Proofs.YtmjeljldmmkcpaaGreat.Zs.Dk
open Go.Proofs.YtmjeljldmmkcpaaGreat.Dk
open Go.RowKit Go.PlainAid
end Go.Proofs.YtmjeljldmmkcpaaGreat.Zs.Dk
namespace Go.Proofs.YtmjeljldmmkcpaaGreat.Zs.Dk
open Go.Proofs.YtmjeljldmmkcpaaGreat.Dk
end Go.Proofs.YtmjeljldmmkcpaaGreat.Zs.Dk
