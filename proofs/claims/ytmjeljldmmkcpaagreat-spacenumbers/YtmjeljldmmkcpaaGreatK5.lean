/- Texts that the others stand on. -/
import Derived.Test.YtmjeljldmmkcpaaGreatK4
import Derived.Laws.Runes
import Derived.Deep.RegionLaw
set_option maxRecDepth 100000
set_option maxHeartbeats 4000000
namespace Go.Proofs.YtmjeljldmmkcpaaGreat.Dk
open Go.RowKit Go.PlainAid
theorem fresh_key {es : List En} {i : Nat} (hn : (es.map (·.1)).Nodup) (hi : i < es.length) : (es.getD i (⟨#[]⟩, none)).1 ∉ (es.take i).map (·.1) := by
 have h1 : (es.take (i + 1)).map (·.1) = (es.take i).map (·.1) ++ [(es.getD i (⟨#[]⟩, none)).1] := by rw [Bx es (⟨#[]⟩, none) i hi, List.map_append]; rfl
 have h2 : ((es.take (i + 1)).map (·.1)).Nodup := List.Sublist.nodup (List.Sublist.map _ (List.take_sublist _ _)) hn
 rw [h1, List.nodup_append] at h2
 intro hm
 exact h2.2.2 _ hm _ (by simp) rfl
theorem makeRoom_any (B p b x G : Nat) (z : List Cl) (w : World) (hT : Tab w B p b x G z) (hlen : (ents z).length < 112) :
  Calls Tryz.prog 207 #[ptr p] w fun e w' => e = .returned (.tuple #[]) ∧ Ai w w' p b ∧ ∃ b' G' z', Tab w' B p b' x G' z' ∧ w.heap.size ≤ b' ∧ (ents z').Perm (ents z) ∧ (ents z').length + dels z' < 7 * G' := by
 have HF := full_any B p b x G z w hT
 have HT : Hid (Tab w B p b x G z) := hT
 have hG := hT.inv.grp.le
 have HND : Hid (((ents z).map (·.1)).Nodup) := hT.inv.nod
 have HSZ : Hid (∀ e ∈ ents z, e.1.size ≤ maxLen) := hT.siz
 have HRO : Hid ((ents z).length ≤ 7 * G) := by have := hT.inv.room; show _ ≤ _; omega
 have HGP : Hid (isG G) := hT.inv.grp
 have HLO : Hid (B ≤ p ∧ p < w.heap.size ∧ x < 18446744073709551616) := ⟨hT.low, hT.top.lt, hT.seed⟩
 clear hT
 obtain ⟨es, hes⟩ : ∃ es, ents z = es := ⟨_, rfl⟩
 rw [hes] at HF HND HSZ HRO hlen ⊢
 clear hes
 obtain ⟨G', hG'⟩ : ∃ G', (if 7 * G ≤ es.length then 2 * G else G) = G' := ⟨_, rfl⟩
 have HG' : Hid (isG G' ∧ es.length < 7 * G') := by
  have h0 := HGP.out.pos
  have h1 := HRO.out
  split at hG'
  ·subst hG'; exact ⟨HGP.out.two (by omega), by omega⟩
  ·subst hG'; exact ⟨HGP.out, by omega⟩
 have hG16 : G' ≤ 16 := HG'.out.1.le
 go_enter Tryz.func207, Tryz.ntmps207
 go_wp2_with fail
 refine HF.mono ?_
 rintro e w1 ⟨hb1, ae, ne, ce, rfl, hO⟩
 have HB1 : Hid (Below w.heap.size w w1) := hb1
 have HT1 : Hid (Tab w1 B p b x G z) := HT.out.keep hb1
 have HO1 : Hid (OwnE w1 w.heap.size ae ne ce es) := hO
 have HNE : Hid (es.length = ne) := OwnE.len hO
 rw [HNE.out] at hG' hlen
 have hc1 := HT1.out.top.groups
 have hs1 := HB1.out.size
 clear hb1 hO HF
 go_upto_if 17 with fail
 go_cut [3] from 18 to 19 (fun v wx => v = .int .i64 G' ∧ wx = w1)
 case first =>
  by_cases hf : 7 * G ≤ ne
  ·rw [if_pos hf] at hG'
   subst hG'
   go_wp2
   go_meet
   exact ⟨by go_num, rfl⟩
  ·rw [if_neg hf] at hG'
   subst hG'
   go_wp2
   go_meet
   exact ⟨rfl, rfl⟩
 case rest =>
 obtain ⟨rfl, rfl⟩ := hcut
 clear hG'
 have HE := B7 G' wc hG16
 obtain ⟨b', hb'⟩ : ∃ b', wc.heap.size = b' := ⟨_, rfl⟩
 have HBb : Hid (wc.heap.size = b') := hb'
 rw [hb'] at HE
 clear hb' hc1
 go_wp2_with fail
 refine HE.mono ?_
 rintro e w2 ⟨rfl, hb2, hR2⟩
 have HB2 : Hid (Below wc.heap.size wc w2) := by rw [HBb.out]; exact hb2
 have HTp2 : Hid (Top w2 p b x G) := HT1.out.top.keep HB2.out
 have HR2 : Hid (Row w2 b' G' (Be G')) := hR2
 have hc2 := HTp2.out.groups
 have hf2 := HTp2.out.frozen 1
 obtain ⟨w3, hw3⟩ : ∃ w3, w2.setCell ⟨p, 1, none⟩ (.slice (some ⟨b', 0, none⟩) G' G') = w3 := ⟨_, rfl⟩
 have HM3 : Hid (Ai w w3 p b) := by
  show Ai _ _ _ _
  rw [← hw3]
  exact ((Ai.of_below HB1.out p b).trans (Ai.of_below HB2.out p b) (.inl rfl)).trans (Ai.set (.inl rfl)) (.inl rfl)
 have hwb : w.heap.size ≤ b' := by rw [← HBb.out]; exact hs1
 have HT3 : Hid (Tab w3 B p b' x G' (Be G')) := by
  have hne := HTp2.out.ne HR2.out
  show Tab _ _ _ _ _ _ _
  rw [← hw3]
  exact ⟨HTp2.out.set b' G', HR2.out.kept (Below.heap_setCell _ _ _ _ (by simpa using hne.symm)), HLO.out.1, Nat.le_trans (Nat.le_trans HLO.out.1 (Nat.le_of_lt HLO.out.2.1)) hwb, Inv.news x HG'.out.1, HLO.out.2.2, fun e he => by rw [A9] at he; cases he⟩
 have HO3 : Hid (OwnE w3 w.heap.size ae ne ce es) := (OwnR.keep HO1.out HB2.out).kept fun k hk => by
  rw [← hw3]
  refine Below.heap_setCell _ _ _ _ ?_
  rintro rfl
  obtain ⟨-, -, cur, h3⟩ := (OwnR.keep HO1.out HB2.out).lt hk
  rw [HTp2.out.blk] at h3
  simp at h3
 have hne : ne ≤ 200 := by omega
 clear hb2 hR2 HE
 go_wp2
 clear hw3 hc2 hf2
 go_loopg [5, 27] ne (fun q sv jv wr => ∃ (i : Nat) (zi : List Cl), i + q = ne ∧ jv = .int .i64 i ∧ Hid (Tab wr B p b' x G' zi ∧ (ents zi).Perm (es.take i) ∧ dels zi = 0) ∧ Hid (OwnE wr w.heap.size ae ne ce es) ∧ Hid (Ai w wr p b))
 case atStart => exact ⟨0, _, by omega, rfl, ⟨HT3.out, by rw [A9]; exact List.Perm.refl _, dels_news0 _⟩, HO3, HM3⟩
 case round =>
  clear HO3 HT3 HM3 HR2 HTp2 HB2
  obtain ⟨i, zi, hi, rfl, HZ, HO, HM⟩ := hrel
  by_cases h8 : (i : Int) < ne
  ·obtain ⟨gE, ha, hk, hv⟩ := OwnE.cell HO.out (j := i) (by omega)
   subst ha
   have hil : i < es.length := by have := HNE.out; omega
   have HFR : Hid ((es.getD i (⟨#[]⟩, none)).1 ∉ (ents zi).map (·.1)) := by
    intro hm
    exact fresh_key HND.out hil ((HZ.out.2.1.map (·.1)).mem_iff.1 hm)
   have HKS : Hid ((es.getD i (⟨#[]⟩, none)).1.size ≤ maxLen) := HSZ.out _ (by rw [List.getD_eq_getElem?_getD, List.getElem?_eq_getElem hil]; exact List.getElem_mem hil)
   have HTS : Hid (es.take (i + 1) = es.take i ++ [es.getD i (⟨#[]⟩, none)]) := Bx es _ i hil
   generalize es.getD i (⟨#[]⟩, none) = ev at hk hv HFR HKS HTS
   obtain ⟨k, v⟩ := ev
   simp only [] at hk hv
   obtain ⟨w4, hw4⟩ : ∃ w4, wr.alloc (.cells #[.string k, .pointer v] 223) = w4 := ⟨_, rfl⟩
   obtain ⟨q, hq⟩ : ∃ q, wr.heap.size = q := ⟨_, rfl⟩
   have HB4 : Hid (Below wr.heap.size wr w4) := by show Below _ _ _; rw [← hw4]; exact Ac wr _
   have HX4 : Hid (Box w4 q k v) := by show Box _ _ _ _; rw [← hw4, ← hq]; exact Box.made wr k v
   have HT4 : Hid (Tab w4 B p b' x G' zi) := HZ.out.1.keep HB4.out
   have HO4 : Hid (OwnE w4 w.heap.size (some ⟨gE, 0, none⟩) ne ce es) := OwnR.keep HO.out HB4.out
   have HM4 : Hid (Ai w w4 p b) := HM.out.trans (Ai.of_below HB4.out p b) (.inl rfl)
   have HOf : ∀ w, Calls Tryz.prog 88 #[.int .u64 x, .string k] w fun e w' => e = .returned (.int .u64 (hsh x k : Nat)) ∧ w' = w := fun w => Of_any x k w HKS.out HLO.out.2.2
   have HLy := fun w hT => lay_any B p b' x G' zi k v w hT HKS.out HFR.out (.inl (by
    have h1 := HZ.out.2.1.length_eq
    have h2 := HZ.out.2.2
    have h3 := HG'.out.2
    rw [List.length_take] at h1
    omega))
   generalize hsh x k = hv at HOf HLy
   have HTd : Hid (Tab w4.drew B p b' x G' zi) := HT4.out.keep (Aa w4 1)
   have HXd : Hid (Box w4.drew q k v) := HX4.out.keep (Aa w4 1)
   have HOd : Hid (OwnE w4.drew w.heap.size (some ⟨gE, 0, none⟩) ne ce es) := OwnR.keep HO4.out (Aa w4 1)
   have HMd : Hid (Ai w w4.drew p b) := HM4.out.trans (Ai.of_below (Aa w4 1) p b) (.inl rfl)
   clear hil HKS HFR HB4 HX4 HT4 HO4 HM4 HO HM
   go_upto_region 8 with fail
   go_region_held3 (fun w' => w'.cell? ⟨p, 0, none⟩ = some (.int .u64 (x : Nat)) ∧ w'.cell? ⟨q, 0, none⟩ = some (.string k) ∧ w'.cell? ⟨q, 1, none⟩ = some (.pointer v)) (exact ⟨HTd.out.top.seed, HXd.out.key, HXd.out.vl⟩) (first
    | (go_at_call 88; refine (HOf _).mono ?_; rintro e wx ⟨rfl, rfl⟩)
    | (go_at_call 208; refine (HLy _ HTd.out).mono ?_; rintro e wx ⟨rfl, hm, z2, hT2, hp2, hd2⟩; replace HXd : Hid (Box wx q k v) := HXd.out.moves hm HTd.out; replace HOd : Hid (OwnE wx w.heap.size (some ⟨gE, 0, none⟩) ne ce es) := OwnR.moves HOd.out hm HTd.out (by decide) (by decide); replace HMd : Hid (Ai w wx p b) := HMd.out.trans hm (.inr hwb); have HZ2 : Hid (Tab wx B p b' x G' z2 ∧ (ents z2).Perm (es.take (i + 1)) ∧ dels z2 = 0) := ⟨hT2, by rw [HTS.out]; exact hp2.trans (List.Perm.append_right _ HZ.out.2.1), by have := HZ.out.2.2; omega⟩; replace HTd : Hid (Tab wx B p b' x G' z2) := hT2; clear hm hT2 hp2 hd2))
   clear HTd HXd HOf HLy
   go_wp2
   go_roundg (gk - 1)
   case measure => omega
   case rel => exact ⟨i + 1, z2, by omega, by go_num, HZ2, HOd, HMd⟩
  ·have HE : Hid (es.take i = es) := by show _ = _; rw [List.take_of_length_le (by have := HNE.out; omega)]
   go_wp2
   go_end0
   refine ⟨rfl, HM.out, b', G', zi, HZ.out.1, hwb, by have := HZ.out.2.1; rw [HE.out] at this; exact this, ?_⟩
   have h1 := HZ.out.2.1.length_eq
   have h2 := HZ.out.2.2
   have h3 := HG'.out.2
   rw [HE.out] at h1
   omega
def More (w w' : World) (B p b x : Nat) (z : List Cl) (k : BA) (v : (Option Addr)) : Prop :=
 Ai w w' p b ∧ ∃ b' G' z', Tab w' B p b' x G' z' ∧ (b' = b ∨ w.heap.size ≤ b') ∧ (ents z').Perm (ents z ++ [(k, v)])
theorem add_any (B p b x G : Nat) (z : List Cl) (k : BA) (v : (Option Addr)) (w : World) (hT : Tab w B p b x G z) (hks : k.size ≤ maxLen) (hk : k ∉ (ents z).map (·.1)) (hlen : (ents z).length < 112) :
  Calls Tryz.prog 167 #[ptr p, .int .u64 (hsh x k : Nat), .agg #[.string k, .pointer v]] w fun e w' => e = .returned (.tuple #[]) ∧ More w w' B p b x z k v := by
 have hh := Cp x k
 have HT : Hid (Tab w B p b x G z) := hT
 have HKS : Hid (k.size ≤ maxLen) := hks
 have HKN : Hid (k ∉ (ents z).map (·.1)) := hk
 have hG := hT.inv.grp.le
 have HS := fun w hT => spare_any B p b x G (hsh x k) z w hT hh
 have HLe := fun w hT => Len_any B p b x G z w hT
 have HMa := fun w hT => Marks_any B p b x G z w hT
 have HMR := fun w hT => makeRoom_any B p b x G z w hT hlen
 have HL1 := fun b G z w hT (hk : k ∉ (ents z).map (·.1)) hr => lay_any B p b x G z k v w hT hks hk hr
 have HRO : Hid ((ents z).length + dels z ≤ 7 * G) := hT.inv.room
 obtain ⟨h, eh⟩ : ∃ h, hsh x k = h := ⟨_, rfl⟩
 rw [eh] at HS hh HL1 ⊢
 clear hT hk eh hks
 obtain ⟨w1, hw1⟩ : ∃ w1, w.alloc (.cells #[.string k, .pointer v] 223) = w1 := ⟨_, rfl⟩
 have HB1 : Hid (Below w.heap.size w w1) := by show Below _ _ _; rw [← hw1]; exact Ac w _
 obtain ⟨q, hq⟩ : ∃ q, w.heap.size = q := ⟨_, rfl⟩
 have HX1 : Hid (Box w1 q k v) := by show Box _ _ _ _; rw [← hw1, ← hq]; exact Box.made w k v
 have HT1 : Hid (Tab w1 B p b x G z) := HT.out.keep HB1.out
 go_enter Tryz.func167, Tryz.ntmps167
 go_wp2_with fail
 refine (HS _ HT1.out).mono ?_
 rintro e w2 ⟨hb2, g, i, rfl, hsp⟩
 have HB2 := Ad HB1 hb2
 have HT2 : Hid (Tab w2 B p b x G z) := HT1.out.keep hb2
 have HX2 : Hid (Box w2 q k v) := HX1.out.keep hb2
 have HSP : Hid (Spr z G h g i) := hsp
 obtain ⟨j, hj, hjg, hi8, hfr, -, -⟩ := hsp
 have hgG : g < G := by rw [← hjg]; exact B6 HT.out.inv.grp.pos h j
 have hgz : (g : Int) < G := by omega
 have HA := fun w => At_in (HT.out.inv.ok hgG) i hi8 w
 rw [Bb HT.out.inv.len hgG hi8] at HA
 have HByt : Hid ((cel z (8 * g + i)).1 = 128 ∨ (cel z (8 * g + i)).1 = 254) := by
  rcases HT.out.inv.byt (8 * g + i) (by omega) with h1 | h1 | h1
  ·omega
  ·exact .inl h1
  ·exact .inr h1
 have HWD : Hid (∀ w', Below w2.heap.size w2 w' → w'.cell? ⟨p, 1, none⟩ = some (.slice (some ⟨b, 0, none⟩) G G) ∧ w'.cell? ⟨b, g * 17, none⟩ = some (.int .u64 (val (wrd z g) : Nat))) :=
  fun w' hb => ⟨(HT2.out.keep hb).top.groups, (HT2.out.keep hb).row.word hgG⟩
 obtain ⟨wv, ewv⟩ : ∃ wv, val (wrd z g) = wv := ⟨_, rfl⟩
 rw [ewv] at HA HWD
 obtain ⟨bt, ebt⟩ : ∃ bt, (cel z (8 * g + i)).1 = bt := ⟨_, rfl⟩
 have HEB : Hid ((cel z (8 * g + i)).1 = bt) := ebt
 rw [ebt] at HA HByt
 have HD : Hid (Below w2.heap.size w2 w2.drew) := Aa w2 1
 have HTd : Hid (Tab w2.drew B p b x G z) := HT2.out.keep HD.out
 obtain ⟨m, em⟩ : ∃ m, (ents z).length = m := ⟨_, rfl⟩
 obtain ⟨d, ed⟩ : ∃ d, dels z = d := ⟨_, rfl⟩
 rw [em] at HLe hlen
 rw [ed] at HMa
 rw [em, ed] at HRO
 have hd : d ≤ 112 := by have := HRO.out; omega
 have HEM : Hid ((ents z).length = m) := em
 have HED : Hid (dels z = d) := ed
 have HNX : Hid (∀ w', Below w2.heap.size w2 w' → Tab w' B p b x G z ∧ Box w' q k v ∧ Ai w w' p b) := fun w' hb => ⟨HT2.out.keep hb, HX2.out.keep hb, (Ai.of_below HB2.out p b).trans (Ai.of_below hb p b) (.inl rfl)⟩
 clear hb2 hj hjg hfr ewv ebt hw1 hq HS HX1 HT1 HB1 HB2 em ed
 have hw7 : IntKind.i64.wrap (7 * (G : Int)) = 7 * (G : Int) := by rw [IntKind.wrap_i64]; omega
 have hwm : IntKind.i64.wrap ((m : Int) + (d : Int)) = (m : Int) + (d : Int) := by rw [IntKind.wrap_i64]; omega
 go_upto_region 2 with fail
 rcases HByt.out with e1 | e1
 ·subst e1
  go_region_held3 (fun w' => w'.cell? ⟨p, 1, none⟩ = some (.slice (some ⟨b, 0, none⟩) G G) ∧ w'.cell? ⟨b, g * 17, none⟩ = some (.int .u64 (wv : Nat))) (exact HWD.out _ HD.out) (first
   | (go_at_call 205; refine (HA _).mono ?_; rintro e wx ⟨rfl, rfl⟩)
   | (go_at_call 166; refine (HLe _ HTd.out).mono ?_; rintro e wx ⟨rfl, rfl⟩)
   | (go_at_call 206; refine (HMa _ HTd.out).mono ?_; rintro e wx ⟨rfl, hb⟩; replace HD := Ad HD hb; replace HTd : Hid (Tab wx B p b x G z) := HTd.out.keep hb; clear hb))
  clear HWD HA HLe HMa HByt
  have hk1 := (HNX.out _ HD.out).2.1.key
  have hv1 := (HNX.out _ HD.out).2.1.vl
  have HMv : Hid (Ai w wx p b) := (HNX.out _ HD.out).2.2
  by_cases hf : 7 * (G : Int) ≤ (m : Int) + (d : Int)
  ·go_wp2_with fail
   refine (HMR _ HTd.out).mono ?_
   rintro e w3 ⟨rfl, hm3, b3, G3, z3, hT3, hb3, hp3, hr3⟩
   have HX3 : Hid (Box w3 q k v) := (HNX.out _ HD.out).2.1.moves hm3 HTd.out
   have HT3 : Hid (Tab w3 B p b3 x G3 z3) := hT3
   have HM3 : Hid (Ai w w3 p b) := HMv.out.trans hm3 (.inl rfl)
   have HP3 : Hid ((ents z3).Perm (ents z)) := hp3
   have HB3 : Hid (w.heap.size ≤ b3) := Nat.le_trans HMv.out.size hb3
   have HKN3 : k ∉ (ents z3).map (·.1) := fun hm => HKN.out ((hp3.map (·.1)).mem_iff.1 hm)
   have HLy := HL1 b3 G3 z3 w3 hT3 HKN3 (.inl hr3)
   have hk3 := HX3.out.key
   have hv3 := HX3.out.vl
   clear hm3 hT3 hb3 hp3 hr3 HKN3 HL1 HMR hk1 hv1
   go_wp2_with fail
   refine HLy.mono ?_
   rintro e w4 ⟨rfl, hm4, z4, hT4, hp4, -⟩
   have HR : Hid (More w w4 B p b x z k v) := ⟨HM3.out.trans hm4 (.inr HB3.out), b3, G3, z4, hT4, .inr HB3.out, hp4.trans (List.Perm.append_right _ HP3.out)⟩
   clear hm4 hT4 hp4
   go_wp2
   go_end0
   exact ⟨rfl, HR.out⟩
  ·have HLy := HL1 b G z wx HTd.out HKN.out (.inl (by have := HEM.out; have := HED.out; omega))
   clear HL1 HMR
   go_wp2_with fail
   refine HLy.mono ?_
   rintro e w4 ⟨rfl, hm4, z4, hT4, hp4, -⟩
   have HR : Hid (More w w4 B p b x z k v) := ⟨HMv.out.trans hm4 (.inl rfl), b, G, z4, hT4, .inl rfl, hp4⟩
   clear hm4 hT4 hp4
   go_wp2
   go_end0
   exact ⟨rfl, HR.out⟩
 ·subst e1
  have hc2 := HT2.out.top.groups
  have hw2 := (HWD.out _ (Below.refl _ _)).2
  go_quiet ((go_at_call 205; refine Calls.quiet_of_same (HA _)))
  clear HWD HA HLe HMa HByt hc2 hw2
  obtain ⟨wx, hwx⟩ : ∃ wx, w2.drewN nq = wx := ⟨_, rfl⟩
  have HDx : Hid (Below w2.heap.size w2 wx) := by show Below _ _ _; rw [← hwx]; exact Aa w2 nq
  rw [hwx]
  clear hwx
  have hk1 := (HNX.out _ HDx.out).2.1.key
  have hv1 := (HNX.out _ HDx.out).2.1.vl
  have HMv : Hid (Ai w wx p b) := (HNX.out _ HDx.out).2.2
  have HLy := HL1 b G z wx (HNX.out _ HDx.out).1 HKN.out (.inr ⟨g, i, HSP.out, HEB.out⟩)
  clear HL1 HMR
  go_wp2_with fail
  refine HLy.mono ?_
  rintro e w4 ⟨rfl, hm4, z4, hT4, hp4, -⟩
  have HR : Hid (More w w4 B p b x z k v) := ⟨HMv.out.trans hm4 (.inl rfl), b, G, z4, hT4, .inl rfl, hp4⟩
  clear hm4 hT4 hp4
  go_wp2
  go_end0
  exact ⟨rfl, HR.out⟩
theorem Put_new (B p b x G : Nat) (z : List Cl) (k : BA) (v : (Option Addr)) (w : World) (hT : Tab w B p b x G z) (hks : k.size ≤ maxLen) (hk : k ∉ (ents z).map (·.1)) (hlen : (ents z).length < 112) :
  Calls Tryz.prog 123 #[ptr p, .string k, .pointer v] w fun e w' => e = .returned (.int .i64 0) ∧ More w w' B p b x z k v := by
 have hc := hT.top.seed
 have HO : ∀ w, Calls Tryz.prog 88 #[.int .u64 x, .string k] w fun e w' => e = .returned (.int .u64 (hsh x k : Nat)) ∧ w' = w := fun w => Of_any x k w hks hT.seed
 have HF := fun w hT => A2 B p b x G z k w hT
 have HAd := fun w hT => add_any B p b x G z k v w hT hks hk hlen
 have HLe := fun w hT => Len_any B p b x G z w hT
 have HT : Hid (Tab w B p b x G z) := hT
 have HM : Hid (k ∉ (ents z).map (·.1)) := hk
 generalize hsh x k = h at HO HF HAd
 generalize (ents z).length = m at HLe hlen
 clear hT hk hks
 go_enter Tryz.func123, Tryz.ntmps123
 go_wp2_with fail
 refine (HO _).mono ?_
 rintro e w ⟨rfl, rfl⟩
 go_wp2_with fail
 refine (HF _ HT.out).mono ?_
 rintro e w1 ⟨hb, hF⟩
 have HT1 : Hid (Tab w1 B p b x G z) := HT.out.keep hb
 have HB1 : Hid (Below w.heap.size w w1) := hb
 rcases hF with ⟨g, i, hg, hi, h1, h2, rfl⟩ | ⟨h1, rfl⟩
 ·exact absurd (List.mem_map.2 ⟨_, mem_ents.2 ⟨8 * g + i, by rw [HT.out.inv.len]; omega, h1, rfl⟩, h2⟩) HM.out
 ·clear h1 hb hc HO HF
  go_wp2_with fail
  refine (HLe _ HT1.out).mono ?_
  rintro e w1 ⟨rfl, rfl⟩
  go_wp2_with fail
  refine (HAd _ HT1.out).mono ?_
  rintro e w2 ⟨rfl, hm, b2, G2, z2, hT2, hb2, hp2⟩
  have HR : Hid (More w w2 B p b x z k v) := ⟨(Ai.of_below HB1.out p b).trans hm (.inl rfl), b2, G2, z2, hT2, hb2.imp id (fun h => Nat.le_trans HB1.out.size h), hp2⟩
  clear hm hT2 hb2 hp2
  go_wp2
  go_ret
  exact ⟨rfl, HR.out⟩
def Cb (w w' : World) (B p b x G : Nat) (z : List Cl) (k : BA) (v : (Option Addr)) : Prop :=
 Ai w w' p b ∧ ∃ z', Tab w' B p b x G z' ∧ ∃ a c u, ents z = a ++ (k, u) :: c ∧ ents z' = a ++ (k, v) :: c
theorem Put_old (B p b x G : Nat) (z : List Cl) (k : BA) (v : (Option Addr)) (w : World) (hT : Tab w B p b x G z) (hks : k.size ≤ maxLen) (hk : k ∈ (ents z).map (·.1)) :
  Calls Tryz.prog 123 #[ptr p, .string k, .pointer v] w fun e w' => e = .returned (.int .i64 0) ∧ Cb w w' B p b x G z k v := by
 have hc := hT.top.seed
 have HO : ∀ w, Calls Tryz.prog 88 #[.int .u64 x, .string k] w fun e w' => e = .returned (.int .u64 (hsh x k : Nat)) ∧ w' = w := fun w => Of_any x k w hks hT.seed
 have HF := fun w hT => A2 B p b x G z k w hT
 have HT : Hid (Tab w B p b x G z) := hT
 have HM : Hid (k ∈ (ents z).map (·.1)) := hk
 have hG := hT.inv.grp.le
 generalize hsh x k = h at HO HF
 clear hT hk hks
 go_enter Tryz.func123, Tryz.ntmps123
 go_wp2_with fail
 refine (HO _).mono ?_
 rintro e w ⟨rfl, rfl⟩
 go_wp2_with fail
 refine (HF _ HT.out).mono ?_
 rintro e w1 ⟨hb, hF⟩
 have HT1 : Hid (Tab w1 B p b x G z) := HT.out.keep hb
 have HB1 : Hid (Below w.heap.size w w1) := hb
 rcases hF with ⟨g, i, hg, hi, h1, h2, rfl⟩ | ⟨h1, rfl⟩
 ·have hgz : (g : Int) < G := by omega
  have hiz : (i : Int) < 8 := by omega
  have hc1 := HT1.out.top.groups
  have hv1 := HT1.out.row.vl hg hi
  have hf1 := HT1.out.row.frozen (g * 17 + 1 + i * 2 + 1)
  have HR : Hid (Cb w (w1.setCell ⟨b, g * 17 + 1 + i * 2 + 1, none⟩ (.pointer v)) B p b x G z k v) := by
   refine ⟨(Ai.of_below HB1.out p b).trans (Ai.set (.inr rfl)) (.inl rfl), ?_⟩
   obtain ⟨hI, a, c, ha, hc⟩ := HT1.out.inv.turn hg hi h1 v
   have hne := HT1.out.top.ne HT1.out.row
   refine ⟨_, ⟨HT1.out.top.kept (Below.heap_setCell _ _ _ _ (by simpa using hne)), HT1.out.row.setVal HT1.out.inv.len hg hi v, HT1.out.low, HT1.out.lowb, hI, HT1.out.seed, ?_⟩, a, c, (cel z (8 * g + i)).2.2, ?_, ?_⟩
   ·intro e he
    rw [hc] at he
    have hs := HT1.out.siz
    rw [ha] at hs
    rcases List.mem_append.1 he with he | he
    ·exact hs e (List.mem_append.2 (.inl he))
    ·rcases List.mem_cons.1 he with rfl | he
     ·exact hs (cel z (8 * g + i)).2 (by simp)
     ·exact hs e (List.mem_append.2 (.inr (List.mem_cons_of_mem _ he)))
   ·rw [ha, ← h2]
   ·rw [hc, h2]
  generalize (cel z (8 * g + i)).2.2 = v0 at hv1
  clear h1 h2 hb hc HO HF
  go_wp2
  go_ret
  exact ⟨rfl, HR.out⟩
 ·exact absurd HM.out h1
theorem Delete_no (B p b x G : Nat) (z : List Cl) (k : BA) (w : World) (hT : Tab w B p b x G z) (hks : k.size ≤ maxLen) (hk : k ∉ (ents z).map (·.1)) :
  Calls Tryz.prog 188 #[ptr p, .string k] w fun e w' => e = .returned (.bool false) ∧ Below w.heap.size w w' := by
 have hc := hT.top.seed
 have HO : ∀ w, Calls Tryz.prog 88 #[.int .u64 x, .string k] w fun e w' => e = .returned (.int .u64 (hsh x k : Nat)) ∧ w' = w := fun w => Of_any x k w hks hT.seed
 have HF := fun w hT => A2 B p b x G z k w hT
 have HT : Hid (Tab w B p b x G z) := hT
 have HM : Hid (k ∉ (ents z).map (·.1)) := hk
 generalize hsh x k = h at HO HF
 clear hT hk hks
 go_enter Tryz.func188, Tryz.ntmps188
 go_wp2_with fail
 refine (HO _).mono ?_
 rintro e w ⟨rfl, rfl⟩
 go_wp2_with fail
 refine (HF _ HT.out).mono ?_
 rintro e w1 ⟨hb, hF⟩
 have HB1 : Hid (Below w.heap.size w w1) := hb
 rcases hF with ⟨g, i, hg, hi, h1, h2, rfl⟩ | ⟨h1, rfl⟩
 ·exact absurd (List.mem_map.2 ⟨_, mem_ents.2 ⟨8 * g + i, by rw [HT.out.inv.len]; omega, h1, rfl⟩, h2⟩) HM.out
 ·clear h1 hb hc HO HF
  go_wp2
  go_ret
  exact ⟨rfl, HB1.out⟩
def Less (w w' : World) (B p b x G : Nat) (z : List Cl) (k : BA) : Prop :=
 Ai w w' p b ∧ ∃ z', Tab w' B p b x G z' ∧ ∃ u, (ents z).Perm ((k, u) :: ents z')
theorem Delete_yes (B p b x G : Nat) (z : List Cl) (k : BA) (w : World) (hT : Tab w B p b x G z) (hks : k.size ≤ maxLen) (hk : k ∈ (ents z).map (·.1)) :
  Calls Tryz.prog 188 #[ptr p, .string k] w fun e w' => e = .returned (.bool true) ∧ Less w w' B p b x G z k := by
 have hc := hT.top.seed
 have HO : ∀ w, Calls Tryz.prog 88 #[.int .u64 x, .string k] w fun e w' => e = .returned (.int .u64 (hsh x k : Nat)) ∧ w' = w := fun w => Of_any x k w hks hT.seed
 have HF := fun w hT => A2 B p b x G z k w hT
 have HT : Hid (Tab w B p b x G z) := hT
 have HM : Hid (k ∈ (ents z).map (·.1)) := hk
 have hG := hT.inv.grp.le
 generalize hsh x k = h at HO HF
 clear hT hk hks
 go_enter Tryz.func188, Tryz.ntmps188
 go_wp2_with fail
 refine (HO _).mono ?_
 rintro e w ⟨rfl, rfl⟩
 go_wp2_with fail
 refine (HF _ HT.out).mono ?_
 rintro e w1 ⟨hb, hF⟩
 have HT1 : Hid (Tab w1 B p b x G z) := HT.out.keep hb
 have HB1 : Hid (Below w.heap.size w w1) := hb
 rcases hF with ⟨g, i, hg, hi, h1, h2, rfl⟩ | ⟨h1, rfl⟩
 ·have hgz : (g : Int) < G := by omega
  have hiz : (i : Int) < 8 := by omega
  have hc1 := HT1.out.top.groups
  have hw1 := HT1.out.row.word hg
  have HE := fun w => HasEmpty_any (HT1.out.inv.ok hg) w
  have HSet := fun w => Set_in (HT1.out.inv.ok hg) i (mrk z g) hi (mrk_lt z g) w
  have HMK : Hid (mrk z g = if some? (has (wrd z g) 128) 8 = true then 128 else 254) := rfl
  have HFul : Hid ((cel z (8 * g + i)).1 < 128) := h1
  have HKK : Hid ((cel z (8 * g + i)).2.1 = k) := h2
  have HWD : Hid (∀ w', Below w1.heap.size w1 w' → w'.cell? ⟨p, 1, none⟩ = some (.slice (some ⟨b, 0, none⟩) G G) ∧ w'.cell? ⟨b, g * 17, none⟩ = some (.int .u64 (val (wrd z g) : Nat)) ∧ w'.frozen? ⟨b, g * 17, none⟩ = false) :=
   fun w' hb => ⟨(HT1.out.keep hb).top.groups, (HT1.out.keep hb).row.word hg, (HT1.out.keep hb).row.frozen _⟩
  generalize some? (has (wrd z g) 128) 8 = hem at HE HMK
  obtain ⟨wv, ewv⟩ : ∃ wv, val (wrd z g) = wv := ⟨_, rfl⟩
  rw [ewv] at HE HSet HWD hw1
  obtain ⟨wn, ewn⟩ : ∃ wn, val ((wrd z g).set i (mrk z g)) = wn := ⟨_, rfl⟩
  have HWN : Hid (val ((wrd z g).set i (mrk z g)) = wn) := ewn
  rw [ewn] at HSet
  obtain ⟨mk, emk⟩ : ∃ mk, mrk z g = mk := ⟨_, rfl⟩
  have HEM : Hid (mrk z g = mk) := emk
  rw [emk] at HSet HMK
  clear h1 h2 hb hc HO HF ewv ewn emk
  go_upto_if 34 with (refine (HE _).mono ?_; rintro e w1 ⟨rfl, rfl⟩)
  go_cut [9] from 35 to 35 (fun v wx => v = .int .u8 (mk : Nat) ∧ wx = w1)
  case first =>
   have := HMK.out
   cases hem
   ·go_wp2
    go_meet
    exact ⟨by rw [this]; rfl, rfl⟩
   ·go_wp2
    go_meet
    exact ⟨by rw [this]; rfl, rfl⟩
  case rest =>
  obtain ⟨rfl, rfl⟩ := hcut
  have HAft : Hid (∀ w', Below wc.heap.size wc w' → Top (w'.setCell ⟨b, g * 17, none⟩ (.int .u64 (wn : Nat))) p b x G ∧ Row (w'.setCell ⟨b, g * 17, none⟩ (.int .u64 (wn : Nat))) b G (z.set (8 * g + i) (mk, (cel z (8 * g + i)).2)) ∧ Ai w (w'.setCell ⟨b, g * 17, none⟩ (.int .u64 (wn : Nat))) p b) := by
   intro w' hb
   have hT' := HT1.out.keep hb
   have hne := hT'.top.ne hT'.row
   have hR' := hT'.row.byte HT.out.inv.len hg hi mk
   rw [← HEM.out, HWN.out, HEM.out] at hR'
   exact ⟨hT'.top.kept (Below.heap_setCell _ _ _ _ (by simpa using hne)), hR', ((Ai.of_below HB1.out p b).trans (Ai.of_below hb p b) (.inl rfl)).trans (Ai.set (.inr rfl)) (.inl rfl)⟩
  have HCm : Hid (∀ w', Below wc.heap.size wc w' → w'.cell? ⟨p, 1, none⟩ = some (.slice (some ⟨b, 0, none⟩) G G)) := fun w' hb => (HWD.out w' hb).1
  have HD : Hid (Below wc.heap.size wc wc.drew) := Aa wc 1
  clear HE HMK
  go_upto_region 8 with fail
  go_region_held3 (fun w' => w'.cell? ⟨p, 1, none⟩ = some (.slice (some ⟨b, 0, none⟩) G G)) (first | exact HCm.out _ HD.out | exact (HAft.out _ HD.out).1.groups) (first
   | (go_at_call 200; refine (HSet _).mono ?_; rintro e wx ⟨rfl, hb⟩; replace HD := Ad HD hb; obtain ⟨hc3, hw3, hf3⟩ := HWD.out wx HD.out; clear hb))
  obtain ⟨w3, hw3'⟩ : ∃ w3, wx.setCell ⟨b, g * 17, none⟩ (.int .u64 (wn : Nat)) = w3 := ⟨_, rfl⟩
  have HA3 := HAft.out _ HD.out
  rw [hw3'] at HA3 ⊢
  obtain ⟨hT3, hR3, hM3⟩ := HA3
  have HT3 : Hid (Top w3 p b x G) := hT3
  have HM3 : Hid (Ai w w3 p b) := hM3
  obtain ⟨zz, hzz⟩ : ∃ zz, z.set (8 * g + i) (mk, (cel z (8 * g + i)).2) = zz := ⟨_, rfl⟩
  rw [hzz] at hR3
  have HR3 : Hid (Row w3 b G zz) := hR3
  have hc3 := HT3.out.groups
  have hk3 := HR3.out.key hg hi
  have hv3 := HR3.out.vl hg hi
  have hfk := HR3.out.frozen (g * 17 + 1 + i * 2)
  have hfv := HR3.out.frozen (g * 17 + 1 + i * 2 + 1)
  generalize (cel zz (8 * g + i)).2.1 = k0 at hk3
  generalize (cel zz (8 * g + i)).2.2 = v0 at hv3
  have HEnd : Hid (Less w ((w3.setCell ⟨b, g * 17 + 1 + i * 2, none⟩ (.string ⟨#[]⟩)).setCell ⟨b, g * 17 + 1 + i * 2 + 1, none⟩ (.pointer none)) B p b x G z k) := by
   refine ⟨(HM3.out.trans (Ai.set (o := g * 17 + 1 + i * 2) (v := .string ⟨#[]⟩) (.inr rfl)) (.inl rfl)).trans (Ai.set (o := g * 17 + 1 + i * 2 + 1) (v := .pointer none) (.inr rfl)) (.inl rfl), z.set (8 * g + i) (mk, ⟨#[]⟩, none), ?_, (cel z (8 * g + i)).2.2, ?_⟩
   ·have hl : zz.length = 8 * G := by rw [← hzz, List.length_set]; exact HT.out.inv.len
    have hne := HT3.out.ne HR3.out
    have hR4 := HR3.out.slot hl hg hi ⟨#[]⟩ none
    rw [← hzz, Au z (by rw [HT.out.inv.len]; omega), List.set_set] at hR4
    have hI := HT.out.inv.take hg hi HFul.out (⟨#[]⟩, none)
    rw [HEM.out] at hI
    refine ⟨HT3.out.kept ?_, hR4, HT.out.low, HT.out.lowb, hI.1, HT.out.seed, fun e he => HT.out.siz e (hI.2.mem_iff.2 (List.mem_cons_of_mem _ he))⟩
    rw [Below.heap_setCell _ _ _ _ (by simpa using hne), Below.heap_setCell _ _ _ _ (by simpa using hne)]
   ·have hI := HT.out.inv.take hg hi HFul.out (⟨#[]⟩, none)
    rw [HEM.out] at hI
    rw [← HKK.out]
    exact hI.2
  clear hT3 hR3 hM3 hw3' hzz HAft HCm HWD HSet HD
  go_wp2
  go_ret
  exact ⟨rfl, HEnd.out⟩
 ·exact absurd HM.out h1
def cutB (s : BA) (n : Int) : BA := if n < (s.size : Int) then s.extract 0 n.toNat else s
theorem Cut_any (s : BA) (n : Int) (w : World) (h0 : 0 ≤ n) :
  Calls Tryz.prog 53 #[.string s, .int .i64 n] w fun e w' => e = .returned (.string (cutB s n)) ∧ w' = w := by
 by_cases h : n < s.size
 ·have HC : Hid (cutB s n = s.extract 0 n.toNat) := by show cutB s n = _; rw [cutB, if_pos h]
  go_enter Tryz.func53, Tryz.ntmps53
  go_wp2
  go_ret
  exact ⟨by rw [HC.out]; simp, rfl⟩
 ·have HC : Hid (cutB s n = s) := by show cutB s n = _; rw [cutB, if_neg h]
  go_enter Tryz.func53, Tryz.ntmps53
  go_wp2
  go_ret
  exact ⟨by rw [HC.out]; rfl, rfl⟩
theorem Within_any (n lo hi : Int) (w : World) (h0 : lo ≤ hi) (h1 : hi ≤ 2000000) (h2 : -2000000 ≤ lo) :
  Calls Tryz.prog 26 #[.int .i64 n, .int .i64 lo, .int .i64 hi] w fun e w' => w' = w ∧ ∃ z : Int, lo ≤ z ∧ z ≤ hi ∧ e = .returned (.int .i64 z) := by
 obtain ⟨D, hD⟩ : ∃ D, hi - lo = D := ⟨_, rfl⟩
 have hz : (D + 1 == 0) = false := by simp; omega
 have hr0 : n.tmod (D + 1) < D + 1 := Int.tmod_lt_of_pos n (by omega)
 have hr1 : -(D + 1) < n.tmod (D + 1) := Int.lt_tmod_of_pos n (by omega)
 obtain ⟨r, hr⟩ : ∃ r, n.tmod (D + 1) = r := ⟨_, rfl⟩
 rw [hr] at hr0 hr1
 by_cases hn : r < 0
 ·obtain ⟨r1, e1⟩ : ∃ r1, r + hi = r1 := ⟨_, rfl⟩
  obtain ⟨r2, e2⟩ : ∃ r2, r1 - lo = r2 := ⟨_, rfl⟩
  go_enter Tryz.func26, Tryz.ntmps26
  go_wp2
  go_ret
  exact ⟨rfl, lo + (r2 + 1), by omega, by omega, rfl⟩
 ·go_enter Tryz.func26, Tryz.ntmps26
  go_wp2
  go_ret
  exact ⟨rfl, lo + r, by omega, by omega, rfl⟩
theorem encode_size (r : Int) : (Utf8.encode r).size ≤ 4 := by
 unfold Utf8.encode
 generalize (if Utf8.valid r then r.toNat else Utf8.runeError) = c
 simp only []
 split
 ·show 1 ≤ 4; omega
 ·split
  ·show 2 ≤ 4; omega
  ·split
   ·show 3 ≤ 4; omega
   ·show 4 ≤ 4; omega
def cnt (ls : List BA) (s : BA) : Nat := (ls.filter (fun t => decide (t = s))).length
theorem cnt_snoc (ls : List BA) (k s : BA) : cnt (ls ++ [k]) s = cnt ls s + (if k = s then 1 else 0) := by
 unfold cnt
 rw [List.filter_append, List.length_append]
 by_cases h : k = s
 ·rw [List.filter_cons_of_pos (by simpa using h), if_pos h]; rfl
 ·rw [List.filter_cons_of_neg (by simpa using h), if_neg h]; rfl
theorem cnt_le (ls : List BA) (s : BA) : cnt ls s ≤ ls.length := List.length_filter_le _ _
theorem cnt_perm {l l' : List BA} (h : l.Perm l') (s : BA) : cnt l s = cnt l' s := (h.filter _).length_eq
theorem cnt_zero {ls : List BA} {s : BA} : cnt ls s = 0 ↔ s ∉ ls := by
 unfold cnt
 rw [List.length_eq_zero_iff, List.filter_eq_nil_iff]
 constructor
 ·intro h hm; exact h s hm (by simp)
 ·intro h t ht he; rw [of_decide_eq_true he] at ht; exact h ht
theorem Times_any (a : Option Addr) (n cap : Nat) (ls : List BA) (s : BA) (w : World) (hO : OwnS w 0 a n cap ls) (hn : n ≤ 1000000) :
  Calls Tryz.prog 72 #[.slice a n cap, .string s] w fun e w' => e = .returned (.int .i64 (cnt ls s : Nat)) ∧ w' = w := by
 have HO : Hid (OwnS w 0 a n cap ls) := hO
 have HL : Hid (ls.length = n) := OwnS.len hO
 clear hO
 go_enter Tryz.func72, Tryz.ntmps72
 go_wp2
 go_loopg [5, 6] n (fun q nv iv wr => w = wr ∧ ∃ i : Nat, i + q = n ∧ iv = .int .i64 i ∧ nv = .int .i64 (cnt (ls.take i) s : Nat))
 case atStart => exact ⟨rfl, 0, by omega, rfl, rfl⟩
 case round =>
  obtain ⟨rfl, i, hi, rfl, rfl⟩ := hrel
  by_cases h8 : (i : Int) < n
  ·obtain ⟨g, ha, hc⟩ := OwnS.cell HO.out (j := i) (by omega)
   subst ha
   have HS : Hid (ls.take (i + 1) = ls.take i ++ [ls.getD i ⟨#[]⟩]) := Bx ls _ i (by have := HL.out; omega)
   have hcl : cnt (ls.take i) s ≤ 1000000 := by
    have h1 := cnt_le (ls.take i) s
    rw [List.length_take] at h1
    omega
   generalize ls.getD i ⟨#[]⟩ = k at hc HS
   by_cases hk : k = s
   ·subst hk
    have HE : Hid (cnt (ls.take (i + 1)) k = cnt (ls.take i) k + 1) := by show _ = _; rw [HS.out, cnt_snoc, if_pos rfl]
    generalize cnt (ls.take i) k = m at HE hcl ⊢
    go_wp2
    go_roundg (gk - 1)
    case measure => omega
    case rel => exact ⟨rfl, i + 1, by omega, by go_num, by rw [HE.out]; go_num⟩
   ·have HE : Hid (cnt (ls.take (i + 1)) s = cnt (ls.take i) s) := by show _ = _; rw [HS.out, cnt_snoc, if_neg hk]; rfl
    generalize cnt (ls.take i) s = m at HE hcl ⊢
    have hkb : (k.toList == s.toList) = false := by rw [str_beq]; exact decide_eq_false hk
    go_wp2
    go_roundg (gk - 1)
    case measure => omega
    case rel => exact ⟨rfl, i + 1, by omega, by go_num, by rw [HE.out]⟩
  ·have HE : Hid (ls.take i = ls) := by show _ = _; rw [List.take_of_length_le (by have := HL.out; omega)]
   rw [HE.out]
   go_wp2
   go_ret
   exact ⟨rfl, rfl⟩
theorem Bag_any (a a' : Option Addr) (n cap cap' : Nat) (ls ls' : List BA) (w : World) (hO : OwnS w 0 a n cap ls) (hO' : OwnS w 0 a' n cap' ls') (hn : n ≤ 1000000) (hp : ls.Perm ls') :
  Calls Tryz.prog 24 #[.slice a n cap, .slice a' n cap'] w fun e w' => e = .returned (.bool true) ∧ Below w.heap.size w w' := by
 have HO : Hid (OwnS w 0 a n cap ls) := hO
 have HO' : Hid (OwnS w 0 a' n cap' ls') := hO'
 have HP : Hid (∀ s, cnt ls s = cnt ls' s) := fun s => cnt_perm hp s
 have HT := fun s w hO => Times_any a n cap ls s w hO hn
 have HT' := fun s w hO => Times_any a' n cap' ls' s w hO hn
 clear hO hO'
 go_enter Tryz.func24, Tryz.ntmps24
 go_wp2
 go_loopg [5] n (fun q iv wr => ∃ i : Nat, i + q = n ∧ iv = .int .i64 i ∧ Hid (Below w.heap.size w wr))
 case atStart => exact ⟨0, by omega, rfl, Below.refl _ _⟩
 case round =>
  obtain ⟨i, hi, rfl, HB⟩ := hrel
  by_cases h8 : (i : Int) < n
  ·obtain ⟨g, ha, hc⟩ := OwnS.cell (OwnR.keep HO.out HB.out) (j := i) (by omega)
   subst ha
   generalize ls.getD i ⟨#[]⟩ = k at hc
   have HTk := fun q => HT k (wr.drewN q) (OwnR.keep (OwnR.keep HO.out HB.out) (Aa wr q))
   have HTk' := fun q => HT' k (wr.drewN q) (OwnR.keep (OwnR.keep HO'.out HB.out) (Aa wr q))
   rw [HP.out k] at HTk
   generalize cnt ls' k = m at HTk HTk'
   clear HT HT'
   go_wp2
   go_quiet ((go_at_call 72; first | with_reducible exact Calls.quiet_of_same (HTk _) | with_reducible exact Calls.quiet_of_same (HTk' _)))
   go_wp2
   go_roundg (gk - 1)
   case measure => omega
   case rel => exact ⟨i + 1, by omega, by go_num, Ad HB (Aa _ _)⟩
  ·go_wp2
   go_ret
   exact ⟨rfl, HB.out⟩
abbrev Ae (es : List En) : List BA := es.map (·.1)
structure RdR (w : World) (a : Option Addr) (n cap : Nat) (cs : List Value) : Prop where
 len : cs.length = n
 fit : n ≤ cap
 max : cap ≤ maxLen
 nul : a = none → cap = 0
 cell : ∀ j u, cs[j]? = some u → ∃ b off, a = some ⟨b, off, none⟩ ∧ w.cell? ⟨b, off + j, none⟩ = some u
theorem OwnR.rd {w : World} {B : Nat} {e : TypeId} {a : Option Addr} {n cap : Nat} {cs : List Value} (h : OwnR w B e 1 a n cap cs) : RdR w a n cap cs := by
 have hl := h.len
 rw [Nat.mul_one] at hl
 refine ⟨hl, h.cap.1, h.cap.2, ?_, ?_⟩
 ·intro ha
  rcases h.2 with ⟨h2, h3⟩ | ⟨g, c, cur, h1, h3⟩
  ·cases h2; rfl
  ·cases h1; cases ha
 ·intro j u hu
  have hj : j < cs.length := by
   rcases Nat.lt_or_ge j cs.length with h | h
   ·exact h
   ·rw [List.getElem?_eq_none h] at hu; cases hu
  obtain ⟨g, ha, hc⟩ := h.at (by omega)
  exact ⟨g, 0, ha, by rw [Nat.zero_add]; exact hc j u hu⟩
theorem run_append_p (w : World) (B : Nat) {t e : TypeId} {by8 : Nat} (F : Elt t e 1 by8) {a : Option Addr} {n cap : Nat} {cs : List Value} (hown : OwnR w B e 1 a n cap cs) {a' : Option Addr} {n' cap' : Nat} {rs : List Value} (hr : RdR w a' n' cap' rs)
  (h1 : ∀ u ∈ rs, u.oneCell' = true) (hb : (n + n') * by8 ≤ 140737488355328) (h63 : n + n' ≤ maxLen) (hB : B ≤ w.heap.size) (ty : TypeId) :
  ∃ a2 c2 w2, (Builtin.append_ #[t, t] ty #[.slice a n cap, .slice a' n' cap']).run Tryz.prog w = .ok (.slice a2 (n + n') c2) w2 ∧ OwnR w2 B e 1 a2 (n + n') c2 (cs ++ rs) ∧ w.grownBy w2 (a.map (·.block)) := by
 obtain ⟨i, z, hi, hz0, hz1, hz2, hz3⟩ := F.inf
 have hblk : (Value.slice a n cap).ownBlock = a.map (·.block) := by cases a <;> rfl
 cases a' with
 | none =>
  have hc0 := hr.nul rfl
  have hf := hr.fit
  have hn0 : n' = 0 := by omega
  subst hn0
  subst hc0
  have hr0 : rs = [] := List.length_eq_zero_iff.1 hr.len
  subst hr0
  refine ⟨a, cap, w, ?_, by rw [List.append_nil]; exact hown, ⟨rfl, rfl, rfl, Nat.le_refl _, fun _ _ _ => rfl⟩⟩
  exact run_append_owned_none (P := Tryz.prog) w B t ty e i 1 F.und hi (.slice a n cap) n cs hown
 | some ad =>
  have hnews : ∀ j u, rs[j]? = some u → w.cell? (ad.add j) = some u := fun j u hu => by
   obtain ⟨b, off, ea, hc⟩ := hr.cell j u hu
   cases ea
   rw [Af]; exact hc
  obtain ⟨v', w', k1, k2, k3, -⟩ := run_append_own_at (P := Tryz.prog) w B t ty e i z 1 by8 F.und hi hz0 hz1 hz2 hz3 F.pos (.slice a n cap) n cs hown ad n' cap' rs (by rw [hr.len]; omega) hnews h1 h63 hb hB
  rw [hblk] at k3
  rcases k2.2 with ⟨rfl, h4⟩ | ⟨g2, c2, cur, rfl, h4⟩
  ·refine ⟨none, 0, w', by rw [k1, h4], ?_, k3⟩
   rw [h4] at k2 ⊢
   exact k2
  ·exact ⟨_, _, w', k1, k2, k3⟩
theorem step_append_p {w : World} {ops : Array Oper} {o : Oper} {ac : Act} {K : Act → World → Prop} {Q : Exit → Act → World → Prop} {E : Prop} (hgd : o.guard = none) (s x : Operand) {t e : TypeId} {by8 : Nat} (ho : o.op = .call { callee := .builtin .append, args := #[s, x], argTypes := #[t, t] })
  (F : Elt t e 1 by8) (B : Nat) {a : Option Addr} {n cap : Nat} {cs : List Value} (hs : ac.eval s = .slice a n cap) (hown : OwnR w B e 1 a n cap cs) {a' : Option Addr} {n' cap' : Nat} {rs : List Value} (hx : ac.eval x = .slice a' n' cap') (hr : RdR w a' n' cap' rs)
  (h1 : ∀ u ∈ rs, u.oneCell' = true) (hb : (n + n') * by8 ≤ 140737488355328) (h63 : n + n' ≤ maxLen) (hB : B ≤ w.heap.size)
  (h : ∀ a2 n2 c2 w2, n2 = n + n' → Hid (OwnR w2 B e 1 a2 n2 c2 (cs ++ rs)) → Hid (w.grownBy w2 (a.map (·.block))) → K (ac.put o.dst (.slice a2 n2 c2)) w2) : if Region.wanted o (yielded ops ac.tmps) = true then Oper.wp Tryz.prog o ac w K Q else E := by
 have hw : Region.wanted o (yielded ops ac.tmps) = true := by simp [Region.wanted, hgd]
 rw [if_pos hw]
 obtain ⟨a2, c2, w2, k1, k2, k3⟩ := run_append_p w B F hown hr h1 hb h63 hB o.type
 unfold Oper.wp
 simp [execOp, ho, resolve, invoke, builtin, hs, hx, k1, Result.andThen]
 exact h a2 _ c2 w2 rfl k2 k3
theorem OwnR.made0 (w : World) (e : TypeId) (B : Nat) (hB : B ≤ w.heap.size) : OwnR (w.alloc (.cells #[] e)) B e 1 (some ⟨w.heap.size, 0, none⟩) 0 0 [] :=
 ⟨rfl, .inr ⟨w.heap.size, 0, #[], rfl, hB, heap_alloc_new w _, Nat.le_refl _, by decide, rfl, rfl⟩⟩
end Go.Proofs.YtmjeljldmmkcpaaGreat.Dk
