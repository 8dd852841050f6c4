/- Texts that the others stand on. -/
import Derived.Test.YtnajhjmdpaeelaaGreatDoorG15
import Derived.Laws.Runes
import Derived.Deep.RegionLaw
import Derived.Test.YtnajhjmdpaeelaaGreatDoorProg
import Derived.WalkKit
import Derived.WalkSpells
import Derived.PlainAid
import Derived.Laws.BitsAllLaws
import Derived.Laws.IdiomStrings
import Derived.Deep.LoopGhost
import Derived.Deep.Cut
import Derived.Lib.IndexBytes
import Derived.Elder7
namespace Go.Proofs.YtnajhjmdpaeelaaGreatDoor.Zs.Dk
open Go.RowKit Go.PlainAid
theorem fresh_key {es : List En} {i : Nat} (hn : (es.map (·.1)).Nodup) (hi : i < es.length) : (es.getD i (⟨#[]⟩, 0)).1 ∉ (es.take i).map (·.1) := by
  have h1 : (es.take (i + 1)).map (·.1) = (es.take i).map (·.1) ++ [(es.getD i (⟨#[]⟩, 0)).1] := by rw [take_snoc es (⟨#[]⟩, 0) i hi, List.map_append]; rfl
  have h2 : ((es.take (i + 1)).map (·.1)).Nodup := List.Sublist.nodup (List.Sublist.map _ (List.take_sublist _ _)) hn
  rw [h1, List.nodup_append] at h2
  intro hm
  exact h2.2.2 _ hm _ (by simp) rfl
set_option maxRecDepth 100000 in
set_option maxHeartbeats 4000000 in
theorem makeRoom_any (B p b x G : Nat) (z : List Cl) (w : World) (hT : Tab w B p b x G z) (hlen : (ents z).length < 112) :
    Calls Tryz.prog 210 #[ptr p] w fun e w' => e = .returned (.tuple #[]) ∧ Moves w w' p b ∧ ∃ b' G' z', Tab w' B p b' x G' z' ∧ w.heap.size ≤ b' ∧ (ents z').Perm (ents z) ∧ (ents z').length + dels z' < 7 * G' := by
  have HF := full_any B p b x G z w hT
  have HT : Hid (Tab w B p b x G z) := hT
  have hG := hT.inv.grp.le
  have HND : Hid (((ents z).map (·.1)).Nodup) := hT.inv.nod
  have HSZ : Hid (∀ e ∈ ents z, e.1.size ≤ maxLen) := hT.siz
  have HRO : Hid ((ents z).length ≤ 7 * G) := by have := hT.inv.room; show _ ≤ _; omega
  have HGP : Hid (isG G) := hT.inv.grp
  have HLO : Hid (B ≤ p ∧ p < w.heap.size ∧ x < 18446744073709551616) := ⟨hT.low, hT.top.lt, hT.seed⟩
  clear hT
  obtain ⟨es, hes⟩ : ∃ es, ents z = es := ⟨_, rfl⟩
  rw [hes] at HF HND HSZ HRO hlen ⊢
  clear hes
  obtain ⟨G', hG'⟩ : ∃ G', (if 7 * G ≤ es.length then 2 * G else G) = G' := ⟨_, rfl⟩
  have HG' : Hid (isG G' ∧ es.length < 7 * G') := by
    have h0 := HGP.out.pos
    have h1 := HRO.out
    split at hG'
    · subst hG'; exact ⟨HGP.out.two (by omega), by omega⟩
    · subst hG'; exact ⟨HGP.out, by omega⟩
  have hG16 : G' ≤ 16 := HG'.out.1.le
  go_enter Tryz.func210, Tryz.ntmps210
  go_wp2_with fail
  refine HF.mono ?_
  rintro e w1 ⟨hb1, ae, ne, ce, rfl, hO⟩
  have HB1 : Hid (Below w.heap.size w w1) := hb1
  have HT1 : Hid (Tab w1 B p b x G z) := HT.out.keep hb1
  have HO1 : Hid (OwnE w1 w.heap.size ae ne ce es) := hO
  have HNE : Hid (es.length = ne) := OwnE.len hO
  rw [HNE.out] at hG' hlen
  have hc1 := HT1.out.top.groups
  have hs1 := HB1.out.size
  clear hb1 hO HF
  go_upto_if 17 with fail
  go_cut [3] from 18 to 19 (fun v wx => v = .int .i64 G' ∧ wx = w1)
  case first =>
    by_cases hf : 7 * G ≤ ne
    · rw [if_pos hf] at hG'
      subst hG'
      go_wp2
      go_meet
      exact ⟨by go_num, rfl⟩
    · rw [if_neg hf] at hG'
      subst hG'
      go_wp2
      go_meet
      exact ⟨rfl, rfl⟩
  case rest =>
  obtain ⟨rfl, rfl⟩ := hcut
  clear hG'
  have HE := emptyGroups_any G' wc hG16
  obtain ⟨b', hb'⟩ : ∃ b', wc.heap.size = b' := ⟨_, rfl⟩
  have HBb : Hid (wc.heap.size = b') := hb'
  rw [hb'] at HE
  clear hb' hc1
  go_wp2_with fail
  refine HE.mono ?_
  rintro e w2 ⟨rfl, hb2, hR2⟩
  have HB2 : Hid (Below wc.heap.size wc w2) := by rw [HBb.out]; exact hb2
  have HTp2 : Hid (Top w2 p b x G) := HT1.out.top.keep HB2.out
  have HR2 : Hid (Row w2 b' G' (news0 G')) := hR2
  have hc2 := HTp2.out.groups
  have hf2 := HTp2.out.frozen 1
  obtain ⟨w3, hw3⟩ : ∃ w3, w2.setCell ⟨p, 1, none⟩ (.slice (some ⟨b', 0, none⟩) G' G') = w3 := ⟨_, rfl⟩
  have HM3 : Hid (Moves w w3 p b) := by
    show Moves _ _ _ _
    rw [← hw3]
    exact ((Moves.of_below HB1.out p b).trans (Moves.of_below HB2.out p b) (.inl rfl)).trans (Moves.set (.inl rfl)) (.inl rfl)
  have hwb : w.heap.size ≤ b' := by rw [← HBb.out]; exact hs1
  have HT3 : Hid (Tab w3 B p b' x G' (news0 G')) := by
    have hne := HTp2.out.ne HR2.out
    show Tab _ _ _ _ _ _ _
    rw [← hw3]
    exact ⟨HTp2.out.set b' G', HR2.out.kept (Below.heap_setCell _ _ _ _ (by simpa using hne.symm)), HLO.out.1, Nat.le_trans (Nat.le_trans HLO.out.1 (Nat.le_of_lt HLO.out.2.1)) hwb, Inv.news x HG'.out.1, HLO.out.2.2, fun e he => by rw [ents_news0] at he; cases he⟩
  have HO3 : Hid (OwnE w3 w.heap.size ae ne ce es) := (OwnR.keep HO1.out HB2.out).kept fun k hk => by
    rw [← hw3]
    refine Below.heap_setCell _ _ _ _ ?_
    rintro rfl
    obtain ⟨-, -, cur, h3⟩ := (OwnR.keep HO1.out HB2.out).lt hk
    rw [HTp2.out.blk] at h3
    simp at h3
  have hne : ne ≤ 200 := by omega
  clear hb2 hR2 HE
  go_wp2
  clear hw3 hc2 hf2
  go_loopg [5, 27] ne (fun q sv jv wr => ∃ (i : Nat) (zi : List Cl), i + q = ne ∧ jv = .int .i64 i ∧ Hid (Tab wr B p b' x G' zi ∧ (ents zi).Perm (es.take i) ∧ dels zi = 0) ∧ Hid (OwnE wr w.heap.size ae ne ce es) ∧ Hid (Moves w wr p b))
  case atStart => exact ⟨0, _, by omega, rfl, ⟨HT3.out, by rw [ents_news0]; exact List.Perm.refl _, dels_news0 _⟩, HO3, HM3⟩
  case round =>
    clear HO3 HT3 HM3 HR2 HTp2 HB2
    obtain ⟨i, zi, hi, rfl, HZ, HO, HM⟩ := hrel
    by_cases h8 : (i : Int) < ne
    · obtain ⟨gE, ha, hk, hv⟩ := OwnE.cell HO.out (j := i) (by omega)
      subst ha
      have hil : i < es.length := by have := HNE.out; omega
      have HFR : Hid ((es.getD i (⟨#[]⟩, 0)).1 ∉ (ents zi).map (·.1)) := by
        intro hm
        exact fresh_key HND.out hil ((HZ.out.2.1.map (·.1)).mem_iff.1 hm)
      have HKS : Hid ((es.getD i (⟨#[]⟩, 0)).1.size ≤ maxLen) := HSZ.out _ (by rw [List.getD_eq_getElem?_getD, List.getElem?_eq_getElem hil]; exact List.getElem_mem hil)
      have HTS : Hid (es.take (i + 1) = es.take i ++ [es.getD i (⟨#[]⟩, 0)]) := take_snoc es _ i hil
      generalize es.getD i (⟨#[]⟩, 0) = ev at hk hv HFR HKS HTS
      obtain ⟨k, v⟩ := ev
      simp only [] at hk hv
      obtain ⟨w4, hw4⟩ : ∃ w4, wr.alloc (.cells #[.string k, .int .u64 v] 232) = w4 := ⟨_, rfl⟩
      obtain ⟨q, hq⟩ : ∃ q, wr.heap.size = q := ⟨_, rfl⟩
      have HB4 : Hid (Below wr.heap.size wr w4) := by show Below _ _ _; rw [← hw4]; exact alloc_below wr _
      have HX4 : Hid (Box w4 q k v) := by show Box _ _ _ _; rw [← hw4, ← hq]; exact Box.made wr k v
      have HT4 : Hid (Tab w4 B p b' x G' zi) := HZ.out.1.keep HB4.out
      have HO4 : Hid (OwnE w4 w.heap.size (some ⟨gE, 0, none⟩) ne ce es) := OwnR.keep HO.out HB4.out
      have HM4 : Hid (Moves w w4 p b) := HM.out.trans (Moves.of_below HB4.out p b) (.inl rfl)
      have HOf : ∀ w, Calls Tryz.prog 122 #[.int .u64 x, .string k] w fun e w' => e = .returned (.int .u64 (hsh x k : Nat)) ∧ w' = w := fun w => Of_any x k w HKS.out HLO.out.2.2
      have HLy := fun w hT => lay_any B p b' x G' zi k v w hT HKS.out HFR.out (.inl (by
        have h1 := HZ.out.2.1.length_eq
        have h2 := HZ.out.2.2
        have h3 := HG'.out.2
        rw [List.length_take] at h1
        omega))
      generalize hsh x k = hv at HOf HLy
      have HTd : Hid (Tab w4.drew B p b' x G' zi) := HT4.out.keep (below_drewN w4 1)
      have HXd : Hid (Box w4.drew q k v) := HX4.out.keep (below_drewN w4 1)
      have HOd : Hid (OwnE w4.drew w.heap.size (some ⟨gE, 0, none⟩) ne ce es) := OwnR.keep HO4.out (below_drewN w4 1)
      have HMd : Hid (Moves w w4.drew p b) := HM4.out.trans (Moves.of_below (below_drewN w4 1) p b) (.inl rfl)
      clear hil HKS HFR HB4 HX4 HT4 HO4 HM4 HO HM
      go_upto_region 8 with fail
      go_region_held3 (fun w' => w'.cell? ⟨p, 0, none⟩ = some (.int .u64 (x : Nat)) ∧ w'.cell? ⟨q, 0, none⟩ = some (.string k) ∧ w'.cell? ⟨q, 1, none⟩ = some (.int .u64 v)) (exact ⟨HTd.out.top.seed, HXd.out.key, HXd.out.vl⟩) (first
        | (go_at_call 122; refine (HOf _).mono ?_; rintro e wx ⟨rfl, rfl⟩)
        | (go_at_call 211; refine (HLy _ HTd.out).mono ?_; rintro e wx ⟨rfl, hm, z2, hT2, hp2, hd2⟩; replace HXd : Hid (Box wx q k v) := HXd.out.moves hm HTd.out; replace HOd : Hid (OwnE wx w.heap.size (some ⟨gE, 0, none⟩) ne ce es) := OwnR.moves HOd.out hm HTd.out (by decide) (by decide); replace HMd : Hid (Moves w wx p b) := HMd.out.trans hm (.inr hwb); have HZ2 : Hid (Tab wx B p b' x G' z2 ∧ (ents z2).Perm (es.take (i + 1)) ∧ dels z2 = 0) := ⟨hT2, by rw [HTS.out]; exact hp2.trans (List.Perm.append_right _ HZ.out.2.1), by have := HZ.out.2.2; omega⟩; replace HTd : Hid (Tab wx B p b' x G' z2) := hT2; clear hm hT2 hp2 hd2))
      clear HTd HXd HOf HLy
      go_wp2
      go_roundg (gk - 1)
      case measure => omega
      case rel => exact ⟨i + 1, z2, by omega, by go_num, HZ2, HOd, HMd⟩
    · have HE : Hid (es.take i = es) := by show _ = _; rw [List.take_of_length_le (by have := HNE.out; omega)]
      go_wp2
      go_end0
      refine ⟨rfl, HM.out, b', G', zi, HZ.out.1, hwb, by have := HZ.out.2.1; rw [HE.out] at this; exact this, ?_⟩
      have h1 := HZ.out.2.1.length_eq
      have h2 := HZ.out.2.2
      have h3 := HG'.out.2
      rw [HE.out] at h1
      omega
/-- A table with one key more. -/
def More (w w' : World) (B p b x : Nat) (z : List Cl) (k : ByteArray) (v : Int) : Prop :=
  Moves w w' p b ∧ ∃ b' G' z', Tab w' B p b' x G' z' ∧ (b' = b ∨ w.heap.size ≤ b') ∧ (ents z').Perm (ents z ++ [(k, v)])
set_option maxRecDepth 100000 in
set_option maxHeartbeats 4000000 in
theorem add_any (B p b x G : Nat) (z : List Cl) (k : ByteArray) (v : Int) (w : World) (hT : Tab w B p b x G z) (hks : k.size ≤ maxLen) (hk : k ∉ (ents z).map (·.1)) (hlen : (ents z).length < 112) :
    Calls Tryz.prog 183 #[ptr p, .int .u64 (hsh x k : Nat), .agg #[.string k, .int .u64 v]] w fun e w' => e = .returned (.tuple #[]) ∧ More w w' B p b x z k v := by
  have hh := hsh_lt x k
  have HT : Hid (Tab w B p b x G z) := hT
  have HKS : Hid (k.size ≤ maxLen) := hks
  have HKN : Hid (k ∉ (ents z).map (·.1)) := hk
  have hG := hT.inv.grp.le
  have HS := fun w hT => spare_any B p b x G (hsh x k) z w hT hh
  have HLe := fun w hT => Len_any B p b x G z w hT
  have HMa := fun w hT => Marks_any B p b x G z w hT
  have HMR := fun w hT => makeRoom_any B p b x G z w hT hlen
  have HL1 := fun b G z w hT (hk : k ∉ (ents z).map (·.1)) hr => lay_any B p b x G z k v w hT hks hk hr
  have HRO : Hid ((ents z).length + dels z ≤ 7 * G) := hT.inv.room
  obtain ⟨h, eh⟩ : ∃ h, hsh x k = h := ⟨_, rfl⟩
  rw [eh] at HS hh HL1 ⊢
  clear hT hk eh hks
  obtain ⟨w1, hw1⟩ : ∃ w1, w.alloc (.cells #[.string k, .int .u64 v] 232) = w1 := ⟨_, rfl⟩
  have HB1 : Hid (Below w.heap.size w w1) := by show Below _ _ _; rw [← hw1]; exact alloc_below w _
  obtain ⟨q, hq⟩ : ∃ q, w.heap.size = q := ⟨_, rfl⟩
  have HX1 : Hid (Box w1 q k v) := by show Box _ _ _ _; rw [← hw1, ← hq]; exact Box.made w k v
  have HT1 : Hid (Tab w1 B p b x G z) := HT.out.keep HB1.out
  go_enter Tryz.func183, Tryz.ntmps183
  go_wp2_with fail
  refine (HS _ HT1.out).mono ?_
  rintro e w2 ⟨hb2, g, i, rfl, hsp⟩
  have HB2 := step_below HB1 hb2
  have HT2 : Hid (Tab w2 B p b x G z) := HT1.out.keep hb2
  have HX2 : Hid (Box w2 q k v) := HX1.out.keep hb2
  have HSP : Hid (Spr z G h g i) := hsp
  obtain ⟨j, hj, hjg, hi8, hfr, -, -⟩ := hsp
  have hgG : g < G := by rw [← hjg]; exact gAt_lt HT.out.inv.grp.pos h j
  have hgz : (g : Int) < G := by omega
  have HA := fun w => At_in (HT.out.inv.ok hgG) i hi8 w
  rw [wrd_get HT.out.inv.len hgG hi8] at HA
  have HByt : Hid ((cel z (8 * g + i)).1 = 128 ∨ (cel z (8 * g + i)).1 = 254) := by
    rcases HT.out.inv.byt (8 * g + i) (by omega) with h1 | h1 | h1
    · omega
    · exact .inl h1
    · exact .inr h1
  have HWD : Hid (∀ w', Below w2.heap.size w2 w' → w'.cell? ⟨p, 1, none⟩ = some (.slice (some ⟨b, 0, none⟩) G G) ∧ w'.cell? ⟨b, g * 17, none⟩ = some (.int .u64 (val (wrd z g) : Nat))) :=
    fun w' hb => ⟨(HT2.out.keep hb).top.groups, (HT2.out.keep hb).row.word hgG⟩
  obtain ⟨wv, ewv⟩ : ∃ wv, val (wrd z g) = wv := ⟨_, rfl⟩
  rw [ewv] at HA HWD
  obtain ⟨bt, ebt⟩ : ∃ bt, (cel z (8 * g + i)).1 = bt := ⟨_, rfl⟩
  have HEB : Hid ((cel z (8 * g + i)).1 = bt) := ebt
  rw [ebt] at HA HByt
  have HD : Hid (Below w2.heap.size w2 w2.drew) := below_drewN w2 1
  have HTd : Hid (Tab w2.drew B p b x G z) := HT2.out.keep HD.out
  obtain ⟨m, em⟩ : ∃ m, (ents z).length = m := ⟨_, rfl⟩
  obtain ⟨d, ed⟩ : ∃ d, dels z = d := ⟨_, rfl⟩
  rw [em] at HLe hlen
  rw [ed] at HMa
  rw [em, ed] at HRO
  have hd : d ≤ 112 := by have := HRO.out; omega
  have HEM : Hid ((ents z).length = m) := em
  have HED : Hid (dels z = d) := ed
  have HNX : Hid (∀ w', Below w2.heap.size w2 w' → Tab w' B p b x G z ∧ Box w' q k v ∧ Moves w w' p b) := fun w' hb => ⟨HT2.out.keep hb, HX2.out.keep hb, (Moves.of_below HB2.out p b).trans (Moves.of_below hb p b) (.inl rfl)⟩
  clear hb2 hj hjg hfr ewv ebt hw1 hq HS HX1 HT1 HB1 HB2 em ed
  have hw7 : IntKind.i64.wrap (7 * (G : Int)) = 7 * (G : Int) := by rw [IntKind.wrap_i64]; omega
  have hwm : IntKind.i64.wrap ((m : Int) + (d : Int)) = (m : Int) + (d : Int) := by rw [IntKind.wrap_i64]; omega
  go_upto_region 2 with fail
  rcases HByt.out with e1 | e1
  · subst e1
    go_region_held3 (fun w' => w'.cell? ⟨p, 1, none⟩ = some (.slice (some ⟨b, 0, none⟩) G G) ∧ w'.cell? ⟨b, g * 17, none⟩ = some (.int .u64 (wv : Nat))) (exact HWD.out _ HD.out) (first
      | (go_at_call 200; refine (HA _).mono ?_; rintro e wx ⟨rfl, rfl⟩)
      | (go_at_call 182; refine (HLe _ HTd.out).mono ?_; rintro e wx ⟨rfl, rfl⟩)
      | (go_at_call 209; refine (HMa _ HTd.out).mono ?_; rintro e wx ⟨rfl, hb⟩; replace HD := step_below HD hb; replace HTd : Hid (Tab wx B p b x G z) := HTd.out.keep hb; clear hb))
    clear HWD HA HLe HMa HByt
    have hk1 := (HNX.out _ HD.out).2.1.key
    have hv1 := (HNX.out _ HD.out).2.1.vl
    have HMv : Hid (Moves w wx p b) := (HNX.out _ HD.out).2.2
    by_cases hf : 7 * (G : Int) ≤ (m : Int) + (d : Int)
    · go_wp2_with fail
      refine (HMR _ HTd.out).mono ?_
      rintro e w3 ⟨rfl, hm3, b3, G3, z3, hT3, hb3, hp3, hr3⟩
      have HX3 : Hid (Box w3 q k v) := (HNX.out _ HD.out).2.1.moves hm3 HTd.out
      have HT3 : Hid (Tab w3 B p b3 x G3 z3) := hT3
      have HM3 : Hid (Moves w w3 p b) := HMv.out.trans hm3 (.inl rfl)
      have HP3 : Hid ((ents z3).Perm (ents z)) := hp3
      have HB3 : Hid (w.heap.size ≤ b3) := Nat.le_trans HMv.out.size hb3
      have HKN3 : k ∉ (ents z3).map (·.1) := fun hm => HKN.out ((hp3.map (·.1)).mem_iff.1 hm)
      have HLy := HL1 b3 G3 z3 w3 hT3 HKN3 (.inl hr3)
      have hk3 := HX3.out.key
      have hv3 := HX3.out.vl
      clear hm3 hT3 hb3 hp3 hr3 HKN3 HL1 HMR hk1 hv1
      go_wp2_with fail
      refine HLy.mono ?_
      rintro e w4 ⟨rfl, hm4, z4, hT4, hp4, -⟩
      have HR : Hid (More w w4 B p b x z k v) := ⟨HM3.out.trans hm4 (.inr HB3.out), b3, G3, z4, hT4, .inr HB3.out, hp4.trans (List.Perm.append_right _ HP3.out)⟩
      clear hm4 hT4 hp4
      go_wp2
      go_end0
      exact ⟨rfl, HR.out⟩
    · have HLy := HL1 b G z wx HTd.out HKN.out (.inl (by have := HEM.out; have := HED.out; omega))
      clear HL1 HMR
      go_wp2_with fail
      refine HLy.mono ?_
      rintro e w4 ⟨rfl, hm4, z4, hT4, hp4, -⟩
      have HR : Hid (More w w4 B p b x z k v) := ⟨HMv.out.trans hm4 (.inl rfl), b, G, z4, hT4, .inl rfl, hp4⟩
      clear hm4 hT4 hp4
      go_wp2
      go_end0
      exact ⟨rfl, HR.out⟩
  · subst e1
    have hc2 := HT2.out.top.groups
    have hw2 := (HWD.out _ (Below.refl _ _)).2
    go_quiet ((go_at_call 200; refine Calls.quiet_of_same (HA _)))
    clear HWD HA HLe HMa HByt hc2 hw2
    obtain ⟨wx, hwx⟩ : ∃ wx, w2.drewN nq = wx := ⟨_, rfl⟩
    have HDx : Hid (Below w2.heap.size w2 wx) := by show Below _ _ _; rw [← hwx]; exact below_drewN w2 nq
    rw [hwx]
    clear hwx
    have hk1 := (HNX.out _ HDx.out).2.1.key
    have hv1 := (HNX.out _ HDx.out).2.1.vl
    have HMv : Hid (Moves w wx p b) := (HNX.out _ HDx.out).2.2
    have HLy := HL1 b G z wx (HNX.out _ HDx.out).1 HKN.out (.inr ⟨g, i, HSP.out, HEB.out⟩)
    clear HL1 HMR
    go_wp2_with fail
    refine HLy.mono ?_
    rintro e w4 ⟨rfl, hm4, z4, hT4, hp4, -⟩
    have HR : Hid (More w w4 B p b x z k v) := ⟨HMv.out.trans hm4 (.inl rfl), b, G, z4, hT4, .inl rfl, hp4⟩
    clear hm4 hT4 hp4
    go_wp2
    go_end0
    exact ⟨rfl, HR.out⟩
theorem Put_new (B p b x G : Nat) (z : List Cl) (k : ByteArray) (v : Int) (w : World) (hT : Tab w B p b x G z) (hks : k.size ≤ maxLen) (hk : k ∉ (ents z).map (·.1)) (hlen : (ents z).length < 112) :
    Calls Tryz.prog 137 #[ptr p, .string k, .int .u64 v] w fun e w' => e = .returned (.int .i64 0) ∧ More w w' B p b x z k v := by
  have hc := hT.top.seed
  have HO : ∀ w, Calls Tryz.prog 122 #[.int .u64 x, .string k] w fun e w' => e = .returned (.int .u64 (hsh x k : Nat)) ∧ w' = w := fun w => Of_any x k w hks hT.seed
  have HF := fun w hT => find_any B p b x G z k w hT
  have HAd := fun w hT => add_any B p b x G z k v w hT hks hk hlen
  have HLe := fun w hT => Len_any B p b x G z w hT
  have HT : Hid (Tab w B p b x G z) := hT
  have HM : Hid (k ∉ (ents z).map (·.1)) := hk
  generalize hsh x k = h at HO HF HAd
  generalize (ents z).length = m at HLe hlen
  clear hT hk hks
  go_enter Tryz.func137, Tryz.ntmps137
  go_wp2_with fail
  refine (HO _).mono ?_
  rintro e w ⟨rfl, rfl⟩
  go_wp2_with fail
  refine (HF _ HT.out).mono ?_
  rintro e w1 ⟨hb, hF⟩
  have HT1 : Hid (Tab w1 B p b x G z) := HT.out.keep hb
  have HB1 : Hid (Below w.heap.size w w1) := hb
  rcases hF with ⟨g, i, hg, hi, h1, h2, rfl⟩ | ⟨h1, rfl⟩
  · exact absurd (List.mem_map.2 ⟨_, mem_ents.2 ⟨8 * g + i, by rw [HT.out.inv.len]; omega, h1, rfl⟩, h2⟩) HM.out
  · clear h1 hb hc HO HF
    go_wp2_with fail
    refine (HLe _ HT1.out).mono ?_
    rintro e w1 ⟨rfl, rfl⟩
    go_wp2_with fail
    refine (HAd _ HT1.out).mono ?_
    rintro e w2 ⟨rfl, hm, b2, G2, z2, hT2, hb2, hp2⟩
    have HR : Hid (More w w2 B p b x z k v) := ⟨(Moves.of_below HB1.out p b).trans hm (.inl rfl), b2, G2, z2, hT2, hb2.imp id (fun h => Nat.le_trans HB1.out.size h), hp2⟩
    clear hm hT2 hb2 hp2
    go_wp2
    go_ret
    exact ⟨rfl, HR.out⟩
theorem Put_full (B p b x G : Nat) (z : List Cl) (k : ByteArray) (v : Int) (w : World) (hT : Tab w B p b x G z) (hks : k.size ≤ maxLen) (hk : k ∉ (ents z).map (·.1)) (hlen : 112 ≤ (ents z).length) :
    Calls Tryz.prog 137 #[ptr p, .string k, .int .u64 v] w fun e w' => e = .returned (.int .i64 23) ∧ Below w.heap.size w w' := by
  have hc := hT.top.seed
  have HO : ∀ w, Calls Tryz.prog 122 #[.int .u64 x, .string k] w fun e w' => e = .returned (.int .u64 (hsh x k : Nat)) ∧ w' = w := fun w => Of_any x k w hks hT.seed
  have HF := fun w hT => find_any B p b x G z k w hT
  have HLe := fun w hT => Len_any B p b x G z w hT
  have HT : Hid (Tab w B p b x G z) := hT
  have HM : Hid (k ∉ (ents z).map (·.1)) := hk
  generalize hsh x k = h at HO HF
  generalize (ents z).length = m at HLe hlen
  clear hT hk hks
  go_enter Tryz.func137, Tryz.ntmps137
  go_wp2_with fail
  refine (HO _).mono ?_
  rintro e w ⟨rfl, rfl⟩
  go_wp2_with fail
  refine (HF _ HT.out).mono ?_
  rintro e w1 ⟨hb, hF⟩
  have HT1 : Hid (Tab w1 B p b x G z) := HT.out.keep hb
  have HB1 : Hid (Below w.heap.size w w1) := hb
  rcases hF with ⟨g, i, hg, hi, h1, h2, rfl⟩ | ⟨h1, rfl⟩
  · exact absurd (List.mem_map.2 ⟨_, mem_ents.2 ⟨8 * g + i, by rw [HT.out.inv.len]; omega, h1, rfl⟩, h2⟩) HM.out
  · clear h1 hb hc HO HF
    go_wp2_with fail
    refine (HLe _ HT1.out).mono ?_
    rintro e w1 ⟨rfl, rfl⟩
    have hl : (112 : Int) ≤ m := by omega
    go_wp2
    go_ret
    exact ⟨rfl, HB1.out⟩
/-- A table in which a key has something else. -/
def Turned (w w' : World) (B p b x G : Nat) (z : List Cl) (k : ByteArray) (v : Int) : Prop :=
  Moves w w' p b ∧ ∃ z', Tab w' B p b x G z' ∧ ∃ a c u, ents z = a ++ (k, u) :: c ∧ ents z' = a ++ (k, v) :: c
theorem Put_old (B p b x G : Nat) (z : List Cl) (k : ByteArray) (v : Int) (w : World) (hT : Tab w B p b x G z) (hks : k.size ≤ maxLen) (hk : k ∈ (ents z).map (·.1)) :
    Calls Tryz.prog 137 #[ptr p, .string k, .int .u64 v] w fun e w' => e = .returned (.int .i64 0) ∧ Turned w w' B p b x G z k v := by
  have hc := hT.top.seed
  have HO : ∀ w, Calls Tryz.prog 122 #[.int .u64 x, .string k] w fun e w' => e = .returned (.int .u64 (hsh x k : Nat)) ∧ w' = w := fun w => Of_any x k w hks hT.seed
  have HF := fun w hT => find_any B p b x G z k w hT
  have HT : Hid (Tab w B p b x G z) := hT
  have HM : Hid (k ∈ (ents z).map (·.1)) := hk
  have hG := hT.inv.grp.le
  generalize hsh x k = h at HO HF
  clear hT hk hks
  go_enter Tryz.func137, Tryz.ntmps137
  go_wp2_with fail
  refine (HO _).mono ?_
  rintro e w ⟨rfl, rfl⟩
  go_wp2_with fail
  refine (HF _ HT.out).mono ?_
  rintro e w1 ⟨hb, hF⟩
  have HT1 : Hid (Tab w1 B p b x G z) := HT.out.keep hb
  have HB1 : Hid (Below w.heap.size w w1) := hb
  rcases hF with ⟨g, i, hg, hi, h1, h2, rfl⟩ | ⟨h1, rfl⟩
  · have hgz : (g : Int) < G := by omega
    have hiz : (i : Int) < 8 := by omega
    have hc1 := HT1.out.top.groups
    have hv1 := HT1.out.row.vl hg hi
    have hf1 := HT1.out.row.frozen (g * 17 + 1 + i * 2 + 1)
    have HR : Hid (Turned w (w1.setCell ⟨b, g * 17 + 1 + i * 2 + 1, none⟩ (.int .u64 v)) B p b x G z k v) := by
      refine ⟨(Moves.of_below HB1.out p b).trans (Moves.set (.inr rfl)) (.inl rfl), ?_⟩
      obtain ⟨hI, a, c, ha, hc⟩ := HT1.out.inv.turn hg hi h1 v
      have hne := HT1.out.top.ne HT1.out.row
      refine ⟨_, ⟨HT1.out.top.kept (Below.heap_setCell _ _ _ _ (by simpa using hne)), HT1.out.row.setVal HT1.out.inv.len hg hi v, HT1.out.low, HT1.out.lowb, hI, HT1.out.seed, ?_⟩, a, c, (cel z (8 * g + i)).2.2, ?_, ?_⟩
      · intro e he
        rw [hc] at he
        have hs := HT1.out.siz
        rw [ha] at hs
        rcases List.mem_append.1 he with he | he
        · exact hs e (List.mem_append.2 (.inl he))
        · rcases List.mem_cons.1 he with rfl | he
          · exact hs (cel z (8 * g + i)).2 (by simp)
          · exact hs e (List.mem_append.2 (.inr (List.mem_cons_of_mem _ he)))
      · rw [ha, ← h2]
      · rw [hc, h2]
    generalize (cel z (8 * g + i)).2.2 = v0 at hv1
    clear h1 h2 hb hc HO HF
    go_wp2
    go_ret
    exact ⟨rfl, HR.out⟩
  · exact absurd HM.out h1
/-- A table with one key less. -/
def Less (w w' : World) (B p b x G : Nat) (z : List Cl) (k : ByteArray) : Prop :=
  Moves w w' p b ∧ ∃ z', Tab w' B p b x G z' ∧ ∃ u, (ents z).Perm ((k, u) :: ents z')
def cutB (s : ByteArray) (n : Int) : ByteArray := if n < (s.size : Int) then s.extract 0 n.toNat else s
theorem size_cutB (s : ByteArray) (n : Int) (h : 0 ≤ n) : ((cutB s n).size : Int) ≤ n := by
  unfold cutB
  split
  · simp; omega
  · omega
theorem Cut_any (s : ByteArray) (n : Int) (w : World) (h0 : 0 ≤ n) :
    Calls Tryz.prog 13 #[.string s, .int .i64 n] w fun e w' => e = .returned (.string (cutB s n)) ∧ w' = w := by
  by_cases h : n < s.size
  · have HC : Hid (cutB s n = s.extract 0 n.toNat) := by show cutB s n = _; rw [cutB, if_pos h]
    go_enter Tryz.func13, Tryz.ntmps13
    go_wp2
    go_ret
    exact ⟨by rw [HC.out]; simp, rfl⟩
  · have HC : Hid (cutB s n = s) := by show cutB s n = _; rw [cutB, if_neg h]
    go_enter Tryz.func13, Tryz.ntmps13
    go_wp2
    go_ret
    exact ⟨by rw [HC.out]; rfl, rfl⟩
/-- A table at p, its groups at b, by the seed x, that has es. -/
def Tbl (w : World) (B p b x : Nat) (es : List En) : Prop := ∃ G z, Tab w B p b x G z ∧ (ents z).Perm es
abbrev keysOf (es : List En) : List ByteArray := es.map (·.1)
theorem Tbl.keep {w wn : World} {B p b x : Nat} {es : List En} (h : Tbl w B p b x es) (hb : Below w.heap.size w wn) : Tbl wn B p b x es := by
  obtain ⟨G, z, h1, h2⟩ := h
  exact ⟨G, z, h1.keep hb, h2⟩
theorem Tbl.nod {w : World} {B p b x : Nat} {es : List En} (h : Tbl w B p b x es) : (keysOf es).Nodup := by
  obtain ⟨G, z, h1, h2⟩ := h
  exact (h2.map (·.1)).nodup_iff.1 h1.inv.nod
theorem Tbl.le {w : World} {B p b x : Nat} {es : List En} (h : Tbl w B p b x es) : es.length ≤ 112 := by
  obtain ⟨G, z, h1, h2⟩ := h
  have := h1.inv.room
  have := h1.inv.grp.le
  have := h2.length_eq
  omega
theorem Tbl.lt {w : World} {B p b x : Nat} {es : List En} (h : Tbl w B p b x es) : p < w.heap.size ∧ b < w.heap.size ∧ B ≤ p ∧ B ≤ b := by
  obtain ⟨G, z, h1, h2⟩ := h
  exact ⟨h1.top.lt, h1.row.lt, h1.low, h1.lowb⟩
theorem Tbl.low {w : World} {B C p b x : Nat} {es : List En} (h : Tbl w B p b x es) (hC : C ≤ B) : Tbl w C p b x es := by
  obtain ⟨G, z, h1, h2⟩ := h
  exact ⟨G, z, ⟨h1.top, h1.row, Nat.le_trans hC h1.low, Nat.le_trans hC h1.lowb, h1.inv, h1.seed, h1.siz⟩, h2⟩
theorem Tbl.perm {w : World} {B p b x : Nat} {es fs : List En} (h : Tbl w B p b x es) (hp : es.Perm fs) : Tbl w B p b x fs := by
  obtain ⟨G, z, h1, h2⟩ := h
  exact ⟨G, z, h1, h2.trans hp⟩
/-- Two tables, side by side. -/
theorem Tbl.ne {w : World} {B C p b x q c y : Nat} {es fs : List En} (h : Tbl w B p b x es) (h' : Tbl w C q c y fs) : p ≠ c := by
  obtain ⟨G, z, h1, -⟩ := h
  obtain ⟨G', z', h2, -⟩ := h'
  exact h1.top.ne h2.row
theorem Tbl.moves {w w' : World} {B C p b x q c y : Nat} {es fs : List En} (h : Tbl w B p b x es) (h' : Tbl w C q c y fs) (hm : Moves w w' q c) (h1 : p ≠ q) (h2 : b ≠ c) : Tbl w' B p b x es := by
  have h3 := h.ne h'
  have h4 := (h'.ne h).symm
  obtain ⟨G, z, k1, k2⟩ := h
  exact ⟨G, z, k1.moves hm h1 h2 h3 h4, k2⟩
theorem Tbl.grown {w w2 : World} {B C p b x : Nat} {es : List En} {e : TypeId} {s : Nat} {a : Option Addr} {n cap : Nat} {cs : List Value} (h : Tbl w B p b x es) (h' : OwnR w C e s a n cap cs) (hg : w.grownBy w2 (a.map (·.block))) (h1 : e ≠ 164) (h2 : e ≠ 235) : Tbl w2 B p b x es := by
  obtain ⟨G, z, k1, k2⟩ := h
  exact ⟨G, z, k1.grown h' hg h1 h2, k2⟩
theorem OwnR.movesT {w w' : World} {B C p b x : Nat} {es : List En} {e : TypeId} {s : Nat} {a : Option Addr} {n cap : Nat} {cs : List Value} (h : OwnR w C e s a n cap cs) (hm : Moves w w' p b) (hT : Tbl w B p b x es) (h1 : e ≠ 164) (h2 : e ≠ 235) : OwnR w' C e s a n cap cs := by
  obtain ⟨G, z, k1, k2⟩ := hT
  exact h.moves hm k1 h1 h2
theorem Tbl.below {w w' : World} {B p b x : Nat} {es : List En} (h : Tbl w B p b x es) (hm : Moves w w' p b) : Below B w w' := by
  have := h.lt
  exact hm.below this.2.2.1 this.2.2.2 (by omega)
theorem NewT (x : Nat) (w : World) (hx : x < 18446744073709551616) :
    Calls Tryz.prog 45 #[.int .u64 x] w fun e w' => Below w.heap.size w w' ∧ ∃ p b, e = .returned (ptr p) ∧ Tbl w' w.heap.size p b x [] := by
  refine (New_tab x w hx).mono ?_
  rintro e w' ⟨hb, p, b, rfl, hT, -⟩
  exact ⟨hb, p, b, rfl, 1, _, hT, by rw [ents_news0]⟩
theorem PutT_new (B p b x : Nat) (es : List En) (k : ByteArray) (v : Int) (w : World) (hT : Tbl w B p b x es) (hks : k.size ≤ maxLen) (hk : k ∉ keysOf es) (hlen : es.length < 112) :
    Calls Tryz.prog 137 #[ptr p, .string k, .int .u64 v] w fun e w' => e = .returned (.int .i64 0) ∧ Moves w w' p b ∧ ∃ b', Tbl w' B p b' x (es ++ [(k, v)]) ∧ (b' = b ∨ w.heap.size ≤ b') := by
  obtain ⟨G, z, h1, h2⟩ := hT
  refine (Put_new B p b x G z k v w h1 hks (fun h => hk ((h2.map (·.1)).mem_iff.1 h)) (by rw [h2.length_eq]; exact hlen)).mono ?_
  rintro e w' ⟨rfl, hm, b', G', z', hT', hb', hp'⟩
  exact ⟨rfl, hm, b', ⟨G', z', hT', hp'.trans (List.Perm.append_right _ h2)⟩, hb'⟩
/-- A slice of elements of one cell that reads cs, with its room. -/
structure RdR (w : World) (a : Option Addr) (n cap : Nat) (cs : List Value) : Prop where
  len : cs.length = n
  fit : n ≤ cap
  max : cap ≤ maxLen
  nul : a = none → cap = 0
  cell : ∀ j u, cs[j]? = some u → ∃ b off, a = some ⟨b, off, none⟩ ∧ w.cell? ⟨b, off + j, none⟩ = some u
theorem RdR.keep {w wn : World} {a : Option Addr} {n cap : Nat} {cs : List Value} (h : RdR w a n cap cs) (hb : Below w.heap.size w wn) : RdR wn a n cap cs :=
  ⟨h.len, h.fit, h.max, h.nul, fun j u hu => by
    obtain ⟨b, off, e, hc⟩ := h.cell j u hu
    exact ⟨b, off, e, by rw [hb.cell (p := ⟨b, off + j, none⟩) (World.block_lt_of_cell? _ _ hc)]; exact hc⟩⟩
theorem OwnR.rd {w : World} {B : Nat} {e : TypeId} {a : Option Addr} {n cap : Nat} {cs : List Value} (h : OwnR w B e 1 a n cap cs) : RdR w a n cap cs := by
  have hl := h.len
  rw [Nat.mul_one] at hl
  refine ⟨hl, h.cap.1, h.cap.2, ?_, ?_⟩
  · intro ha
    rcases h.2 with ⟨h2, h3⟩ | ⟨g, c, cur, h1, h3⟩
    · cases h2; rfl
    · cases h1; cases ha
  · intro j u hu
    have hj : j < cs.length := by
      rcases Nat.lt_or_ge j cs.length with h | h
      · exact h
      · rw [List.getElem?_eq_none h] at hu; cases hu
    obtain ⟨g, ha, hc⟩ := h.at (by omega)
    exact ⟨g, 0, ha, by rw [Nat.zero_add]; exact hc j u hu⟩
theorem RdR.sub {w : World} {a : Option Addr} {n cap : Nat} {l : List Value} (h : RdR w a n cap l) (lo hi : Nat) (h1 : lo ≤ hi) (h2 : hi ≤ n) :
    RdR w (if cap = lo then a else a.map (·.add (lo * 1))) (hi - lo) (cap - lo) ((l.drop lo).take (hi - lo)) := by
  have hl := h.len
  have hf := h.fit
  have hx := h.max
  refine ⟨?_, by omega, by omega, fun hn => ?_, fun j u hu => ?_⟩
  · rw [List.length_take, List.length_drop, hl]; omega
  · cases a with
    | none => have := h.nul rfl; omega
    | some x => split at hn <;> simp at hn
  · rw [List.getElem?_take] at hu
    split at hu
    · rename_i hj
      rw [List.getElem?_drop] at hu
      obtain ⟨b, off, e, hc⟩ := h.cell (lo + j) u hu
      subst e
      have hne : ¬ cap = lo := by omega
      refine ⟨b, off + lo, ?_, ?_⟩
      · rw [if_neg hne, Option.map_some, Nat.mul_one, add_flat]
      · rw [Nat.add_assoc]; exact hc
    · cases hu
theorem Tryz.size9 (w : World) : (sizeOf 9).run Tryz.prog w = .ok 1 w := by go_simp
theorem RdR.grown {w w2 : World} {g n cap : Nat} {cs : List Value} {row : Option Nat} (h : RdR w (some ⟨g, 0, none⟩) n cap cs) (hg : w.grownBy w2 row) (hne : row ≠ some g) : RdR w2 (some ⟨g, 0, none⟩) n cap cs :=
  ⟨h.len, h.fit, h.max, h.nul, fun j u hu => by
    obtain ⟨b, off, e, hc⟩ := h.cell j u hu
    cases e
    refine ⟨g, 0, rfl, ?_⟩
    rw [World.cell?_of_block (w := w) (a := ⟨g, 0 + j, none⟩) (hg.block g (World.block_lt_of_cell? _ _ hc) (fun e => hne e.symm))]
    exact hc⟩
/-- vals[i] = v. -/
theorem OwnJ.set {w : World} {B : Nat} {a : Option Addr} {n c : Nat} {ls : List Int} (h : OwnJ w B a n c ls) {i : Nat} (hi : i < n) (v : Int) :
    ∃ g, a = some ⟨g, 0, none⟩ ∧ B ≤ g ∧ (∃ u, w.cell? ⟨g, i, none⟩ = some u) ∧ w.frozen? ⟨g, i, none⟩ = false ∧ (∃ cur, w.heap[g]? = some (.cells cur 3 (0, 0))) ∧ OwnJ (w.setCell ⟨g, i, none⟩ (.int .i64 v)) B a n c (ls.set i v) := by
  have hlen := OwnJ.len h
  obtain ⟨g0, ha0, hc0⟩ := OwnJ.cell h hi
  rcases h.2 with ⟨h2, h3⟩ | ⟨g, c', cur, h1, h3, h4, h5, h6, h7, h8⟩
  · omega
  · cases h1
    cases ha0
    refine ⟨g0, rfl, h3, ⟨_, hc0⟩, by simp [World.frozen?, h4], ⟨cur, h4⟩, by simp [jcells, hlen], .inr ⟨g0, c, cur.setIfInBounds i (.int .i64 v), rfl, h3, heap_set h4 _, h5, h6, by simpa using h7, ?_⟩⟩
    rw [Array.toList_setIfInBounds, Nat.mul_one, List.take_set]
    rw [Nat.mul_one] at h8
    rw [h8, jcells, jcells, List.map_set]
/-- Has a number that bit, and is it 1? -/
def bset (h : Nat) (bit : Int) : Bool := decide (0 ≤ bit ∧ bit < 64) && decide (h / 2 ^ bit.toNat % 2 = 1)
theorem and_one (h t : Nat) (hh : h < 18446744073709551616) : bits .and .u64 ((h : Int) / 2 ^ t) 1 = ((h / 2 ^ t % 2 : Nat) : Int) := by
  have e2 : (2 : Int) ^ t = ((2 ^ t : Nat) : Int) := by simp
  rw [e2, ← Int.natCast_ediv]
  have hq : h / 2 ^ t < 18446744073709551616 := Nat.lt_of_le_of_lt (Nat.div_le_self _ _) hh
  generalize h / 2 ^ t = q at hq
  have := u64_and_nat q 1 hq (by decide)
  rw [Nat.and_one_is_mod] at this
  exact this
theorem isSet_any (h : Nat) (bit : Int) (w : World) (hh : h < 18446744073709551616) :
    Calls Tryz.prog 205 #[.int .u64 h, .int .i64 bit] w fun e w' => e = .returned (.bool (bset h bit)) ∧ w' = w := by
  by_cases h0 : 0 ≤ bit
  · by_cases h1 : bit < 64
    · obtain ⟨t, rfl⟩ : ∃ t : Nat, bit = (t : Int) := ⟨bit.toNat, by omega⟩
      have HR : Hid (bset h t = decide (h / 2 ^ t % 2 = 1)) := by show _ = _; unfold bset; rw [decide_eq_true ⟨h0, h1⟩, Int.toNat_natCast]; rfl
      have ha := and_one h t hh
      have hlt : h / 2 ^ t % 2 < 2 := Nat.mod_lt _ (by decide)
      generalize h / 2 ^ t % 2 = m at ha HR hlt
      rcases (by omega : m = 0 ∨ m = 1) with rfl | rfl
      · replace ha : bits .and .u64 ((h : Int) / 2 ^ t) 1 = 0 := ha
        go_enter Tryz.func205, Tryz.ntmps205
        go_wp2
        go_ret
        exact ⟨by rw [HR.out]; rfl, rfl⟩
      · replace ha : bits .and .u64 ((h : Int) / 2 ^ t) 1 = 1 := ha
        go_enter Tryz.func205, Tryz.ntmps205
        go_wp2
        go_ret
        exact ⟨by rw [HR.out]; rfl, rfl⟩
    · have HR : Hid (bset h bit = false) := by show _ = _; unfold bset; rw [decide_eq_false (by omega)]; rfl
      go_enter Tryz.func205, Tryz.ntmps205
      go_wp2
      go_ret
      exact ⟨by rw [HR.out]; rfl, rfl⟩
  · have HR : Hid (bset h bit = false) := by show _ = _; unfold bset; rw [decide_eq_false (by omega)]; rfl
    go_enter Tryz.func205, Tryz.ntmps205
    go_wp2
    go_ret
    exact ⟨by rw [HR.out]; rfl, rfl⟩
/-- Two tables, side by side, that need not have the same. -/
structure Pair (w : World) (B p b x : Nat) (es : List En) (q c : Nat) (fs : List En) : Prop where
  one : Tbl w B p b x es
  two : Tbl w B q c x fs
  ne : p ≠ q
  neb : b ≠ c
theorem Pair.keep {w wn : World} {B p b x q c : Nat} {es fs : List En} (h : Pair w B p b x es q c fs) (hb : Below w.heap.size w wn) : Pair wn B p b x es q c fs := ⟨h.one.keep hb, h.two.keep hb, h.ne, h.neb⟩
theorem Pair.first {w w1 : World} {B p b b1 x q c : Nat} {es es1 fs : List En} (h : Pair w B p b x es q c fs) (hm : Moves w w1 p b) (hT : Tbl w1 B p b1 x es1) (hb : b1 = b ∨ w.heap.size ≤ b1) : Pair w1 B p b1 x es1 q c fs := by
  refine ⟨hT, h.two.moves h.one hm h.ne.symm h.neb.symm, h.ne, ?_⟩
  have := h.two.lt
  rcases hb with rfl | hb
  · exact h.neb
  · omega
theorem Pair.second {w w1 : World} {B p b x q c c1 : Nat} {es fs fs1 : List En} (h : Pair w B p b x es q c fs) (hm : Moves w w1 q c) (hT : Tbl w1 B q c1 x fs1) (hb : c1 = c ∨ w.heap.size ≤ c1) : Pair w1 B p b x es q c1 fs1 := by
  refine ⟨h.one.moves h.two hm h.ne h.neb, hT, h.ne, ?_⟩
  have := h.one.lt
  rcases hb with rfl | hb
  · exact h.neb
  · omega
/-- The keys whose hash has that bit; those whose hash has not. -/
def onesOf (x : Nat) (bit : Int) (es : List En) : List En := es.filter fun e => bset (hsh x e.1) bit
def zerosOf (x : Nat) (bit : Int) (es : List En) : List En := es.filter fun e => !bset (hsh x e.1) bit
theorem not_filter {es : List En} {k : ByteArray} (h : k ∉ keysOf es) (f : En → Bool) : k ∉ keysOf (es.filter f) := by
  intro hm
  obtain ⟨e, he, h1⟩ := List.mem_map.1 hm
  exact h (List.mem_map.2 ⟨e, (List.mem_filter.1 he).1, h1⟩)
set_option maxRecDepth 100000 in
set_option maxHeartbeats 8000000 in
theorem Split_any (B p b x G : Nat) (z : List Cl) (bit : Int) (w : World) (hT : Tab w B p b x G z) :
    Calls Tryz.prog 185 #[ptr p, .int .i64 bit] w fun e w' => Below w.heap.size w w' ∧ ∃ p0 b0 p1 b1, e = .returned (.tuple #[ptr p0, ptr p1]) ∧ Pair w' w.heap.size p0 b0 x (zerosOf x bit (ents z)) p1 b1 (onesOf x bit (ents z)) := by
  have HT : Hid (Tab w B p b x G z) := hT
  have hx := hT.seed
  have HN := fun w => NewT x w hx
  have HN2 := fun w => NewT x w hx
  have hc := hT.top.seed
  have HCM : Hid (∀ w', Below w.heap.size w w' → w'.cell? ⟨p, 0, none⟩ = some (.int .u64 (x : Nat))) := fun w' hb => (HT.out.keep hb).top.seed
  have HD : Hid (Below w.heap.size w w.drew) := below_drewN w 1
  have HFa := fun w hT => full_any B p b x G z w hT
  have HND : Hid ((keysOf (ents z)).Nodup) := hT.inv.nod
  have HSZ : Hid (∀ e ∈ ents z, e.1.size ≤ maxLen) := hT.siz
  have HLE : Hid ((ents z).length ≤ 112) := by have := hT.inv.room; have := hT.inv.grp.le; show _ ≤ _; omega
  obtain ⟨es, hes⟩ : ∃ es, ents z = es := ⟨_, rfl⟩
  rw [hes] at HFa HND HSZ HLE ⊢
  clear hT hes
  go_enter Tryz.func185, Tryz.ntmps185
  go_upto_region 1 with fail
  go_cut [6, 7] from 10 to 19 (fun v6 v7 wx => ∃ p0 b0 p1 b1, v6 = ptr p0 ∧ v7 = ptr p1 ∧ Hid (Pair wx w.heap.size p0 b0 x [] p1 b1 []) ∧ Hid (Below w.heap.size w wx))
  case first =>
    go_region_held3 (fun w' => w'.cell? ⟨p, 0, none⟩ = some (.int .u64 (x : Nat))) (exact HCM.out _ HD.out) (first
      | (go_at_call 45; refine (HN _).mono ?_; rintro e wx ⟨hb, p2, b2, rfl, hT2⟩; have HF : Hid (Tbl wx w.heap.size p2 b2 x []) := hT2.low HD.out.size; replace HD := step_below HD hb; clear hb hT2 HN)
      | (go_at_call 45; refine (HN2 _).mono ?_; rintro e wy ⟨hb, p3, b3, rfl, hT3⟩; have HPr : Hid (Tbl wy w.heap.size p2 b2 x [] ∧ Tbl wy w.heap.size p3 b3 x [] ∧ p2 ≠ p3 ∧ b2 ≠ b3) := (by have h1 := HF.out.lt; have h2 := hT3.lt; exact ⟨HF.out.keep hb, hT3.low HD.out.size, by omega, by omega⟩); replace HD := step_below HD hb; clear hb hT3))
    go_wp2
    go_meet
    exact ⟨p2, b2, p3, b3, rfl, rfl, ⟨HPr.out.1, HPr.out.2.1, HPr.out.2.2.1, HPr.out.2.2.2⟩, HD⟩
  case rest =>
  clear HN HN2 hc HD
  obtain ⟨p0, b0, p1, b1, rfl, rfl, HP, HB⟩ := hcut
  have HFu := HFa _ (HT.out.keep HB.out)
  clear HFa
  go_wp2_with fail
  refine HFu.mono ?_
  rintro e w2 ⟨hb2, ae, ne, ce, rfl, hO⟩
  have HNE : Hid (es.length = ne) := OwnE.len hO
  have hne : ne ≤ 112 := by have := HLE.out; have := HNE.out; omega
  have HO2 : Hid (OwnE w2 w.heap.size ae ne ce es) := OwnR.low hO HB.out.size
  have HB2 := step_below HB hb2
  have HP2 : Hid (Pair w2 w.heap.size p0 b0 x (zerosOf x bit (es.take 0)) p1 b1 (onesOf x bit (es.take 0))) := HP.out.keep hb2
  clear hb2 hO HFu HP HB
  go_wp2
  go_loopg [9, 23] ne (fun q sv jv wr => ∃ i b0 b1 : Nat, i + q = ne ∧ jv = .int .i64 i ∧ Hid (Pair wr w.heap.size p0 b0 x (zerosOf x bit (es.take i)) p1 b1 (onesOf x bit (es.take i))) ∧ Hid (OwnE wr w.heap.size ae ne ce es) ∧ Hid (Below w.heap.size w wr))
  case atStart => exact ⟨0, b0, b1, by omega, rfl, HP2, HO2, HB2⟩
  case round =>
    clear HP2 HO2 HB2
    obtain ⟨i, b0, b1, hi, rfl, HP, HO, HB⟩ := hrel
    by_cases h8 : (i : Int) < ne
    · obtain ⟨gE, ha, hk, hv⟩ := OwnE.cell HO.out (j := i) (by omega)
      subst ha
      have hil : i < es.length := by have := HNE.out; omega
      have HFR : Hid ((es.getD i (⟨#[]⟩, 0)).1 ∉ keysOf (es.take i)) := fresh_key HND.out hil
      have HKS : Hid ((es.getD i (⟨#[]⟩, 0)).1.size ≤ maxLen) := HSZ.out _ (by rw [List.getD_eq_getElem?_getD, List.getElem?_eq_getElem hil]; exact List.getElem_mem hil)
      have HTS : Hid (es.take (i + 1) = es.take i ++ [es.getD i (⟨#[]⟩, 0)]) := take_snoc es _ i hil
      have HTL : Hid ((es.take i).length < 112) := by show _ < _; rw [List.length_take]; omega
      generalize es.getD i (⟨#[]⟩, 0) = ev at hk hv HFR HKS HTS
      obtain ⟨k, v⟩ := ev
      simp only [] at hk hv
      obtain ⟨w4, hw4⟩ : ∃ w4, wr.alloc (.cells #[.string k, .int .u64 v] 232) = w4 := ⟨_, rfl⟩
      obtain ⟨q, hq⟩ : ∃ q, wr.heap.size = q := ⟨_, rfl⟩
      have HB4 : Hid (Below wr.heap.size wr w4) := by show Below _ _ _; rw [← hw4]; exact alloc_below wr _
      have HX4 : Hid (Box w4 q k v) := by show Box _ _ _ _; rw [← hw4, ← hq]; exact Box.made wr k v
      have HBw := step_below HB HB4.out
      have HP4 : Hid (Pair w4 w.heap.size p0 b0 x (zerosOf x bit (es.take i)) p1 b1 (onesOf x bit (es.take i))) := HP.out.keep HB4.out
      have HO4 : Hid (OwnE w4 w.heap.size (some ⟨gE, 0, none⟩) ne ce es) := OwnR.keep HO.out HB4.out
      have hc4 := HCM.out _ HBw.out
      have hk4 := HX4.out.key
      have hv4 := HX4.out.vl
      have HOf : ∀ w, Calls Tryz.prog 122 #[.int .u64 x, .string k] w fun e w' => e = .returned (.int .u64 (hsh x k : Nat)) ∧ w' = w := fun w => Of_any x k w HKS.out hx
      have HIs := fun w => isSet_any (hsh x k) bit w (hsh_lt x k)
      have HBS : Hid (∀ b, bset (hsh x k) bit = b → onesOf x bit (es.take (i + 1)) = onesOf x bit (es.take i) ++ (if b = true then [(k, v)] else []) ∧ zerosOf x bit (es.take (i + 1)) = zerosOf x bit (es.take i) ++ (if b = true then [] else [(k, v)])) := by
        intro b hb
        rw [HTS.out]
        unfold onesOf zerosOf
        rw [List.filter_append, List.filter_append]
        subst hb
        cases hbb : bset (hsh x k) bit <;> simp [hbb]
      generalize hsh x k = hv' at HOf HIs HBS
      clear HB HB4 HP HO hil HX4
      generalize hbs : bset hv' bit = bs at HIs HBS
      go_upto_region 5 with fail
      go_quiet ((first | (go_at_call 122; with_reducible exact Calls.quiet_of_same (HOf _)) | (go_at_call 205; with_reducible exact Calls.quiet_of_same (HIs _))))
      obtain ⟨w5, hw5⟩ : ∃ w5, w4.drewN nq = w5 := ⟨_, rfl⟩
      have HD5 : Hid (Below w4.heap.size w4 w5) := by show Below _ _ _; rw [← hw5]; exact below_drewN w4 nq
      rw [hw5]
      have HP5 : Hid (Pair w5 w.heap.size p0 b0 x (zerosOf x bit (es.take i)) p1 b1 (onesOf x bit (es.take i))) := HP4.out.keep HD5.out
      have HO5 : Hid (OwnE w5 w.heap.size (some ⟨gE, 0, none⟩) ne ce es) := OwnR.keep HO4.out HD5.out
      have HB5 := step_below HBw HD5.out
      have hk5 : w5.cell? ⟨q, 0, none⟩ = some (.string k) := by rw [HD5.out.cell (p := ⟨q, 0, none⟩) (World.block_lt_of_cell? _ _ hk4)]; exact hk4
      have hv5 : w5.cell? ⟨q, 1, none⟩ = some (.int .u64 v) := by rw [HD5.out.cell (p := ⟨q, 1, none⟩) (World.block_lt_of_cell? _ _ hv4)]; exact hv4
      have HLn : Hid ((onesOf x bit (es.take i)).length < 112 ∧ (zerosOf x bit (es.take i)).length < 112) := by
        have h1 := HTL.out
        have h2 : (onesOf x bit (es.take i)).length ≤ (es.take i).length := List.length_filter_le _ _
        have h3 : (zerosOf x bit (es.take i)).length ≤ (es.take i).length := List.length_filter_le _ _
        exact ⟨by omega, by omega⟩
      have HST := HBS.out bs rfl
      clear hw5 HD5 HP4 HO4 HBw hc4 hk4 hv4 HOf HIs hbs HBS HTL hw4 hq hk hv
      cases bs
      · obtain ⟨e1, e2⟩ := HST
        rw [if_neg (by decide)] at e1 e2
        rw [List.append_nil] at e1
        have HE1 : Hid (onesOf x bit (es.take (i + 1)) = onesOf x bit (es.take i)) := e1
        have HE2 : Hid (zerosOf x bit (es.take (i + 1)) = zerosOf x bit (es.take i) ++ [(k, v)]) := e2
        have hPu := PutT_new _ _ _ _ (zerosOf x bit (es.take i)) k v _ HP5.out.one HKS.out (not_filter HFR.out _) HLn.out.2
        clear e1 e2
        go_wp2_with fail
        refine hPu.mono ?_
        rintro e w6 ⟨rfl, hm6, b6, hT6, hb6⟩
        have HP6 : Hid (Pair w6 w.heap.size p0 b6 x (zerosOf x bit (es.take (i + 1))) p1 b1 (onesOf x bit (es.take (i + 1)))) := by rw [HE1.out, HE2.out]; exact HP5.out.first hm6 hT6 hb6
        have HO6 : Hid (OwnE w6 w.heap.size (some ⟨gE, 0, none⟩) ne ce es) := OwnR.movesT HO5.out hm6 HP5.out.one (by decide) (by decide)
        have HB6 : Hid (Below w.heap.size w w6) := HB5.out.trans (HP5.out.one.below hm6)
        clear hm6 hT6 hb6 hPu
        go_wp2
        go_roundg (gk - 1)
        case measure => omega
        case rel => exact ⟨i + 1, b6, b1, by omega, by go_num, HP6, HO6, HB6⟩
      · obtain ⟨e1, e2⟩ := HST
        rw [if_pos rfl] at e1 e2
        rw [List.append_nil] at e2
        have HE1 : Hid (onesOf x bit (es.take (i + 1)) = onesOf x bit (es.take i) ++ [(k, v)]) := e1
        have HE2 : Hid (zerosOf x bit (es.take (i + 1)) = zerosOf x bit (es.take i)) := e2
        have hPu := PutT_new _ _ _ _ (onesOf x bit (es.take i)) k v _ HP5.out.two HKS.out (not_filter HFR.out _) HLn.out.1
        clear e1 e2
        go_wp2_with fail
        refine hPu.mono ?_
        rintro e w6 ⟨rfl, hm6, b6, hT6, hb6⟩
        have HP6 : Hid (Pair w6 w.heap.size p0 b0 x (zerosOf x bit (es.take (i + 1))) p1 b6 (onesOf x bit (es.take (i + 1)))) := by rw [HE1.out, HE2.out]; exact HP5.out.second hm6 hT6 hb6
        have HO6 : Hid (OwnE w6 w.heap.size (some ⟨gE, 0, none⟩) ne ce es) := OwnR.movesT HO5.out hm6 HP5.out.two (by decide) (by decide)
        have HB6 : Hid (Below w.heap.size w w6) := HB5.out.trans (HP5.out.two.below hm6)
        clear hm6 hT6 hb6 hPu
        go_wp2
        go_roundg (gk - 1)
        case measure => omega
        case rel => exact ⟨i + 1, b0, b6, by omega, by go_num, HP6, HO6, HB6⟩
    · have HE : Hid (es.take i = es) := by show _ = _; rw [List.take_of_length_le (by have := HNE.out; omega)]
      rw [HE.out] at HP
      go_wp2
      go_ret2
      exact ⟨HB.out, p0, _, p1, rfl, _, HP.out⟩
end Go.Proofs.YtnajhjmdpaeelaaGreatDoor.Zs.Dk
namespace Go.Proofs.YtnajhjmdpaeelaaGreatDoor.Zs.Dk
/-- The d lowest bits of c, read the other way round. -/
def rev : Nat → Nat → Nat
  | 0, _ => 0
  | d + 1, c => 2 ^ d * (c % 2) + rev d (c / 2)
theorem mod_succ (d c : Nat) : c % 2 ^ (d + 1) = 2 ^ d * (c / 2 ^ d % 2) + c % 2 ^ d := by
  rw [Nat.pow_succ, Nat.mod_mul, Nat.add_comm]
theorem pow_pos (d : Nat) : 0 < 2 ^ d := Nat.pow_pos (by decide)
/-- Is the bucket of h ahead of c? -/
def seen (d c h : Nat) : Bool := decide (rev d h < rev d c)
end Go.Proofs.YtnajhjmdpaeelaaGreatDoor.Zs.Dk
namespace Go.Proofs.YtnajhjmdpaeelaaGreatDoor.Zs.Dk
open Go.RowKit Go.PlainAid
/-- The lowest bits of a number, at most sixteen. -/
def lowM (h : Nat) (b : Int) : Nat := h % 2 ^ (min b.toNat 16)
theorem and_low (h k : Nat) (hh : h < 18446744073709551616) (hk : k ≤ 16) : bits .and .u64 (h : Int) ((2 ^ k - 1 : Nat) : Int) = ((h % 2 ^ k : Nat) : Int) := by
  rw [u64_and_nat h (2 ^ k - 1) hh, Nat.and_two_pow_sub_one_eq_mod]
  have : 2 ^ k ≤ 2 ^ 16 := Nat.pow_le_pow_right (by decide) hk
  omega
theorem pow_le_16 {k : Nat} (h : k ≤ 16) : 2 ^ k ≤ 65536 := Nat.pow_le_pow_right (n := 2) (j := 16) (by decide) h
theorem wrap_pow (k : Nat) (h : k ≤ 16) : IntKind.u64.wrap (2 ^ k) = ((2 ^ k : Nat) : Int) := by
  have h1 := pow_le_16 h
  have : ((2 : Int) ^ k) = ((2 ^ k : Nat) : Int) := by simp
  rw [this]
  generalize 2 ^ k = p at h1
  simp [IntKind.wrap, IntKind.signed, IntKind.bits]
  omega
theorem wrap_pred (k : Nat) (h : k ≤ 16) : IntKind.u64.wrap (((2 ^ k : Nat) : Int) - 1) = ((2 ^ k - 1 : Nat) : Int) := by
  have h1 := pow_le_16 h
  have h2 : 0 < 2 ^ k := Nat.pow_pos (by decide)
  generalize 2 ^ k = p at h1 h2
  simp [IntKind.wrap, IntKind.signed, IntKind.bits]
  omega
theorem Low_any (h : Nat) (b : Int) (w : World) (hh : h < 18446744073709551616) (hb : b < 9223372036854775808) (hb' : -9223372036854775808 ≤ b) :
    Calls Tryz.prog 166 #[.int .u64 h, .int .i64 b] w fun e w' => e = .returned (.int .u64 (lowM h b : Nat)) ∧ w' = w := by
  obtain ⟨k, hk⟩ : ∃ k, min b.toNat 16 = k := ⟨_, rfl⟩
  have h16 : k ≤ 16 := by omega
  have hL : lowM h b = h % 2 ^ k := by rw [lowM, hk]
  rw [hL]
  clear hL
  have ha := and_low h k hh h16
  have hw1 := wrap_pow k h16
  have hw2 := wrap_pred k h16
  generalize h % 2 ^ k = z at ha ⊢
  by_cases h0 : b < 0
  · obtain rfl : k = 0 := by omega
    replace ha : bits .and .u64 (h : Int) 0 = z := ha
    clear hw1 hw2
    go_enter Tryz.func166, Tryz.ntmps166
    go_wp2
    go_ret
    exact ⟨rfl, rfl⟩
  by_cases h1 : 16 < b
  · obtain rfl : k = 16 := by omega
    replace ha : bits .and .u64 (h : Int) 65535 = z := ha
    clear hw1 hw2
    go_enter Tryz.func166, Tryz.ntmps166
    go_wp2
    go_ret
    exact ⟨rfl, rfl⟩
  obtain rfl : b = k := by omega
  obtain ⟨p, hp⟩ : ∃ p : Int, ((2 ^ k : Nat) : Int) = p := ⟨_, rfl⟩
  obtain ⟨q, hq⟩ : ∃ q : Int, ((2 ^ k - 1 : Nat) : Int) = q := ⟨_, rfl⟩
  rw [hp] at hw1 hw2
  rw [hq] at hw2 ha
  clear hp hq
  go_enter Tryz.func166, Tryz.ntmps166
  go_wp2
  go_ret
  exact ⟨rfl, rfl⟩
/-- A depth that may be. -/
def dep (d : Int) : Nat := min d.toNat 16
theorem dep_nat {k : Nat} (h : k ≤ 16) : dep (k : Int) = k := by unfold dep; omega
theorem low_dep (c : Nat) (d : Int) : lowM c d = c % 2 ^ dep d := rfl
end Go.Proofs.YtnajhjmdpaeelaaGreatDoor.Zs.Dk
namespace Go.Proofs.YtnajhjmdpaeelaaGreatDoor.Zs.Dk
/-- A part: its own depth, its bits. -/
abbrev Pt := Nat × Nat
/-- Does a hash belong to a part (own depth, bits)? -/
def isIn (s : Pt) (h : Nat) : Bool := decide (h % 2 ^ s.1 = s.2)
theorem isIn_iff {s : Pt} {h : Nat} : isIn s h = true ↔ h % 2 ^ s.1 = s.2 := decide_eq_true_iff
theorem isIn_no {s : Pt} {h : Nat} : isIn s h = false ↔ h % 2 ^ s.1 ≠ s.2 := decide_eq_false_iff_not
def Apart (s t : Pt) : Prop := ∀ h, isIn s h = true → isIn t h = false
theorem Apart.symm {s t : Pt} (h : Apart s t) : Apart t s := fun k hk => by
  cases e : isIn s k with
  | false => rfl
  | true => have := h k e; rw [hk] at this; cases this
theorem isIn_zero {l q h : Nat} (hq : q < 2 ^ l) : isIn (l + 1, q) h = true ↔ isIn (l, q) h = true ∧ h / 2 ^ l % 2 = 0 := by
  rw [isIn_iff, isIn_iff]
  show h % 2 ^ (l + 1) = q ↔ h % 2 ^ l = q ∧ _
  rw [mod_succ]
  have h1 : h % 2 ^ l < 2 ^ l := Nat.mod_lt _ (Nat.pow_pos (by decide))
  rcases Nat.mod_two_eq_zero_or_one (h / 2 ^ l) with e | e <;> rw [e] <;> simp <;> omega
theorem isIn_one {l q h : Nat} : isIn (l + 1, q + 2 ^ l) h = true ↔ isIn (l, q) h = true ∧ h / 2 ^ l % 2 = 1 := by
  rw [isIn_iff, isIn_iff]
  show h % 2 ^ (l + 1) = q + 2 ^ l ↔ h % 2 ^ l = q ∧ _
  rw [mod_succ]
  have h1 : h % 2 ^ l < 2 ^ l := Nat.mod_lt _ (Nat.pow_pos (by decide))
  rcases Nat.mod_two_eq_zero_or_one (h / 2 ^ l) with e | e <;> rw [e] <;> simp <;> omega
/-- The parts of a directory of depth g: each hash belongs to one. -/
structure Shp (g : Nat) (sh : List Pt) : Prop where
  lt : ∀ s ∈ sh, s.2 < 2 ^ s.1 ∧ s.1 ≤ g
  le : g ≤ 16
  deep : ∃ s ∈ sh, s.1 = g
  cov : ∀ h, ∃ s ∈ sh, isIn s h = true
  dis : sh.Pairwise Apart
theorem Shp.new : Shp 0 [(0, 0)] := by
  refine ⟨?_, by decide, ⟨_, List.mem_singleton.2 rfl, rfl⟩, fun h => ⟨_, List.mem_singleton.2 rfl, ?_⟩, by simp⟩
  · intro s hs
    cases List.mem_singleton.1 hs
    simp
  · rw [isIn_iff]; simp [Nat.mod_one]
/-- The part of a hash, and that no other is. -/
theorem Shp.parts {g : Nat} {sh : List Pt} (hS : Shp g sh) (h : Nat) : ∃ a s c, sh = a ++ s :: c ∧ isIn s h = true ∧ (∀ t ∈ a, isIn t h = false) ∧ (∀ t ∈ c, isIn t h = false) := by
  obtain ⟨s, hs, hi⟩ := hS.cov h
  obtain ⟨a, c, rfl⟩ := List.append_of_mem hs
  have hd := hS.dis
  rw [List.pairwise_append, List.pairwise_cons] at hd
  refine ⟨a, s, c, rfl, hi, fun t ht => ?_, fun t ht => hd.2.1.1 t ht h hi⟩
  exact (hd.2.2 t ht s (by simp)).symm h hi
theorem Shp.split {g : Nat} {a c : List Pt} {l q : Nat} (hS : Shp g (a ++ (l, q) :: c)) (hl : l < 16) : Shp (max g (l + 1)) (a ++ (l + 1, q) :: (c ++ [(l + 1, q + 2 ^ l)])) := by
  have hq := hS.lt (l, q) (by simp)
  have hp : 2 ^ (l + 1) = 2 * 2 ^ l := by rw [Nat.pow_succ, Nat.mul_comm]
  refine ⟨?_, ?_, ?_, ?_, ?_⟩
  · intro s hs
    simp only [List.mem_append, List.mem_cons, List.not_mem_nil, or_false] at hs
    rcases hs with hs | rfl | hs | rfl
    · have := hS.lt s (by simp [hs]); omega
    · simp only [hp]; simp only at hq; omega
    · have := hS.lt s (by simp [hs]); omega
    · simp only [hp]; simp only at hq; omega
  · have := hS.le; omega
  · by_cases e : l + 1 ≤ g
    · obtain ⟨s, hs, he⟩ := hS.deep
      simp only [List.mem_append, List.mem_cons] at hs
      rcases hs with hs | rfl | hs
      · exact ⟨s, by simp [hs], by omega⟩
      · simp only at he; omega
      · exact ⟨s, by simp [hs], by omega⟩
    · exact ⟨(l + 1, q), by simp, by simp only; omega⟩
  · intro h
    obtain ⟨s, hs, hi⟩ := hS.cov h
    simp only [List.mem_append, List.mem_cons] at hs
    rcases hs with hs | rfl | hs
    · exact ⟨s, by simp [hs], hi⟩
    · rcases Nat.mod_two_eq_zero_or_one (h / 2 ^ l) with e | e
      · exact ⟨(l + 1, q), by simp, (isIn_zero hq.1).2 ⟨hi, e⟩⟩
      · exact ⟨(l + 1, q + 2 ^ l), by simp, isIn_one.2 ⟨hi, e⟩⟩
    · exact ⟨s, by simp [hs], hi⟩
  · have hd := hS.dis
    rw [List.pairwise_append, List.pairwise_cons] at hd
    obtain ⟨h1, ⟨h2, h3⟩, h4⟩ := hd
    have z0 : ∀ t, Apart (l, q) t → Apart (l + 1, q) t := fun t ht h hh => ht h ((isIn_zero hq.1).1 hh).1
    have z1 : ∀ t, Apart (l, q) t → Apart (l + 1, q + 2 ^ l) t := fun t ht h hh => ht h (isIn_one.1 hh).1
    have z2 : Apart (l + 1, q) (l + 1, q + 2 ^ l) := by
      intro h hh
      have h0 := ((isIn_zero hq.1).1 hh).2
      cases e : isIn (l + 1, q + 2 ^ l) h with
      | false => rfl
      | true => have h1 := (isIn_one.1 e).2; rw [h0] at h1; cases h1
    rw [List.pairwise_append, List.pairwise_cons, List.pairwise_append]
    refine ⟨h1, ⟨?_, h3, by simp, ?_⟩, ?_⟩
    · intro t ht
      simp only [List.mem_append, List.mem_cons, List.not_mem_nil, or_false] at ht
      rcases ht with ht | rfl
      · exact z0 t (h2 t ht)
      · exact z2
    · intro t ht s hs
      cases List.mem_singleton.1 hs
      exact (z1 t (h2 t ht)).symm
    · intro t ht s hs
      simp only [List.mem_append, List.mem_cons, List.not_mem_nil, or_false] at hs
      rcases hs with rfl | hs | rfl
      · exact (z0 t (h4 t ht (l, q) (by simp)).symm).symm
      · exact h4 t ht s (by simp [hs])
      · exact (z1 t (h4 t ht (l, q) (by simp)).symm).symm
/-- Two that a hash belongs to are one. -/
theorem Shp.one {g : Nat} {sh : List Pt} (hS : Shp g sh) {i j : Nat} (hi : i < sh.length) (hj : j < sh.length) {h : Nat} (h1 : isIn sh[i] h = true) (h2 : isIn sh[j] h = true) : i = j := by
  rcases Nat.lt_trichotomy i j with h3 | h3 | h3
  · have := List.pairwise_iff_getElem.1 hS.dis i j hi hj h3 h h1
    rw [h2] at this; cases this
  · exact h3
  · have := List.pairwise_iff_getElem.1 hS.dis j i hj hi h3 h h2
    rw [h1] at this; cases this
/-- A hash and its lowest bits belong to the same. -/
theorem isIn_low {s : Pt} {g : Nat} (hs : s.1 ≤ g) (h : Nat) : isIn s (h % 2 ^ g) = isIn s h := by
  unfold isIn
  have : h % 2 ^ g % 2 ^ s.1 = h % 2 ^ s.1 := Nat.mod_mod_of_dvd _ (Nat.pow_dvd_pow 2 hs)
  rw [this]
theorem isIn_self {s : Pt} (hs : s.2 < 2 ^ s.1) : isIn s s.2 = true := isIn_iff.2 (Nat.mod_eq_of_lt hs)
end Go.Proofs.YtnajhjmdpaeelaaGreatDoor.Zs.Dk
