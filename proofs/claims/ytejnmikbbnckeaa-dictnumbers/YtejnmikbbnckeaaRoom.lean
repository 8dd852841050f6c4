/-
  makeRoom: all keys laid anew.
-/
import Derived.Test.YtejnmikbbnckeaaLay2
namespace Go.Proofs.Ytejnmikbbnckeaa
open Go.RowKit Go.PlainAid

theorem fresh_key {es : List En} {i : Nat} (hn : (es.map (·.1)).Nodup) (hi : i < es.length) : (es.getD i (⟨#[]⟩, 0)).1 ∉ (es.take i).map (·.1) := by
  have h1 : (es.take (i + 1)).map (·.1) = (es.take i).map (·.1) ++ [(es.getD i (⟨#[]⟩, 0)).1] := by rw [take_snoc es (⟨#[]⟩, 0) i hi, List.map_append]; rfl
  have h2 : ((es.take (i + 1)).map (·.1)).Nodup := List.Sublist.nodup (List.Sublist.map _ (List.take_sublist _ _)) hn
  rw [h1, List.nodup_append] at h2
  intro hm
  exact h2.2.2 _ hm _ (by simp) rfl

set_option maxRecDepth 100000 in
set_option maxHeartbeats 4000000 in
theorem makeRoom_any (B p b x G : Nat) (z : List Cl) (w : World) (hT : Tab w B p b x G z) (hlen : (ents z).length < 112) :
    Calls Try.prog 87 #[ptr p] w fun e w' => e = .returned (.tuple #[]) ∧ Moves w w' p b ∧ ∃ b' G' z', Tab w' B p b' x G' z' ∧ w.heap.size ≤ b' ∧ (ents z').Perm (ents z) ∧ (ents z').length + dels z' < 7 * G' := by
  have HF := full_any B p b x G z w hT
  have HT : Hid (Tab w B p b x G z) := hT
  have hG := hT.inv.grp.le
  have HND : Hid (((ents z).map (·.1)).Nodup) := hT.inv.nod
  have HSZ : Hid (∀ e ∈ ents z, e.1.size ≤ maxLen) := hT.siz
  have HRO : Hid ((ents z).length ≤ 7 * G) := by have := hT.inv.room; show _ ≤ _; omega
  have HGP : Hid (isG G) := hT.inv.grp
  have HLO : Hid (B ≤ p ∧ p < w.heap.size ∧ x < 18446744073709551616) := ⟨hT.low, hT.top.lt, hT.seed⟩
  clear hT
  obtain ⟨es, hes⟩ : ∃ es, ents z = es := ⟨_, rfl⟩
  rw [hes] at HF HND HSZ HRO hlen ⊢
  clear hes
  obtain ⟨G', hG'⟩ : ∃ G', (if 7 * G ≤ es.length then 2 * G else G) = G' := ⟨_, rfl⟩
  have HG' : Hid (isG G' ∧ es.length < 7 * G') := by
    have h0 := HGP.out.pos
    have h1 := HRO.out
    split at hG'
    · subst hG'; exact ⟨HGP.out.two (by omega), by omega⟩
    · subst hG'; exact ⟨HGP.out, by omega⟩
  have hG16 : G' ≤ 16 := HG'.out.1.le
  go_enter Try.func87, Try.ntmps87
  go_wp2_with fail
  refine HF.mono ?_
  rintro e w1 ⟨hb1, ae, ne, ce, rfl, hO⟩
  have HB1 : Hid (Below w.heap.size w w1) := hb1
  have HT1 : Hid (Tab w1 B p b x G z) := HT.out.keep hb1
  have HO1 : Hid (OwnE w1 w.heap.size ae ne ce es) := hO
  have HNE : Hid (es.length = ne) := OwnE.len hO
  rw [HNE.out] at hG' hlen
  have hc1 := HT1.out.top.groups
  have hs1 := HB1.out.size
  clear hb1 hO HF
  go_upto_if 17 with fail
  go_cut [3] from 18 to 19 (fun v wx => v = .int .i64 G' ∧ wx = w1)
  case first =>
    by_cases hf : 7 * G ≤ ne
    · rw [if_pos hf] at hG'
      subst hG'
      go_wp2
      go_meet
      exact ⟨by go_num, rfl⟩
    · rw [if_neg hf] at hG'
      subst hG'
      go_wp2
      go_meet
      exact ⟨rfl, rfl⟩
  case rest =>
  obtain ⟨rfl, rfl⟩ := hcut
  clear hG'
  have HE := emptyGroups_any G' wc hG16
  obtain ⟨b', hb'⟩ : ∃ b', wc.heap.size = b' := ⟨_, rfl⟩
  have HBb : Hid (wc.heap.size = b') := hb'
  rw [hb'] at HE
  clear hb' hc1
  go_wp2_with fail
  refine HE.mono ?_
  rintro e w2 ⟨rfl, hb2, hR2⟩
  have HB2 : Hid (Below wc.heap.size wc w2) := by rw [HBb.out]; exact hb2
  have HTp2 : Hid (Top w2 p b x G) := HT1.out.top.keep HB2.out
  have HR2 : Hid (Row w2 b' G' (news0 G')) := hR2
  have hc2 := HTp2.out.groups
  have hf2 := HTp2.out.frozen 1
  obtain ⟨w3, hw3⟩ : ∃ w3, w2.setCell ⟨p, 1, none⟩ (.slice (some ⟨b', 0, none⟩) G' G') = w3 := ⟨_, rfl⟩
  have HM3 : Hid (Moves w w3 p b) := by
    show Moves _ _ _ _
    rw [← hw3]
    exact ((Moves.of_below HB1.out p b).trans (Moves.of_below HB2.out p b) (.inl rfl)).trans (Moves.set (.inl rfl)) (.inl rfl)
  have hwb : w.heap.size ≤ b' := by rw [← HBb.out]; exact hs1
  have HT3 : Hid (Tab w3 B p b' x G' (news0 G')) := by
    have hne := HTp2.out.ne HR2.out
    show Tab _ _ _ _ _ _ _
    rw [← hw3]
    exact ⟨HTp2.out.set b' G', HR2.out.kept (Below.heap_setCell _ _ _ _ (by simpa using hne.symm)), HLO.out.1, Nat.le_trans (Nat.le_trans HLO.out.1 (Nat.le_of_lt HLO.out.2.1)) hwb, Inv.news x HG'.out.1, HLO.out.2.2, fun e he => by rw [ents_news0] at he; cases he⟩
  have HO3 : Hid (OwnE w3 w.heap.size ae ne ce es) := (OwnR.keep HO1.out HB2.out).kept fun k hk => by
    rw [← hw3]
    refine Below.heap_setCell _ _ _ _ ?_
    rintro rfl
    obtain ⟨-, -, cur, h3⟩ := (OwnR.keep HO1.out HB2.out).lt hk
    rw [HTp2.out.blk] at h3
    simp at h3
  have hne : ne ≤ 200 := by omega
  clear hb2 hR2 HE
  go_wp2
  clear hw3 hc2 hf2
  go_loopg [5, 27] ne (fun q sv jv wr => ∃ (i : Nat) (zi : List Cl), i + q = ne ∧ jv = .int .i64 i ∧ Hid (Tab wr B p b' x G' zi ∧ (ents zi).Perm (es.take i) ∧ dels zi = 0) ∧ Hid (OwnE wr w.heap.size ae ne ce es) ∧ Hid (Moves w wr p b))
  case atStart => exact ⟨0, _, by omega, rfl, ⟨HT3.out, by rw [ents_news0]; exact List.Perm.refl _, dels_news0 _⟩, HO3, HM3⟩
  case round =>
    clear HO3 HT3 HM3 HR2 HTp2 HB2
    obtain ⟨i, zi, hi, rfl, HZ, HO, HM⟩ := hrel
    by_cases h8 : (i : Int) < ne
    · obtain ⟨gE, ha, hk, hv⟩ := OwnE.cell HO.out (j := i) (by omega)
      subst ha
      have hil : i < es.length := by have := HNE.out; omega
      have HFR : Hid ((es.getD i (⟨#[]⟩, 0)).1 ∉ (ents zi).map (·.1)) := by
        intro hm
        exact fresh_key HND.out hil ((HZ.out.2.1.map (·.1)).mem_iff.1 hm)
      have HKS : Hid ((es.getD i (⟨#[]⟩, 0)).1.size ≤ maxLen) := HSZ.out _ (by rw [List.getD_eq_getElem?_getD, List.getElem?_eq_getElem hil]; exact List.getElem_mem hil)
      have HTS : Hid (es.take (i + 1) = es.take i ++ [es.getD i (⟨#[]⟩, 0)]) := take_snoc es _ i hil
      generalize es.getD i (⟨#[]⟩, 0) = ev at hk hv HFR HKS HTS
      obtain ⟨k, v⟩ := ev
      simp only [] at hk hv
      obtain ⟨w4, hw4⟩ : ∃ w4, wr.alloc (.cells #[.string k, .int .i64 v] 92) = w4 := ⟨_, rfl⟩
      obtain ⟨q, hq⟩ : ∃ q, wr.heap.size = q := ⟨_, rfl⟩
      have HB4 : Hid (Below wr.heap.size wr w4) := by show Below _ _ _; rw [← hw4]; exact alloc_below wr _
      have HX4 : Hid (Box w4 q k v) := by show Box _ _ _ _; rw [← hw4, ← hq]; exact Box.made wr k v
      have HT4 : Hid (Tab w4 B p b' x G' zi) := HZ.out.1.keep HB4.out
      have HO4 : Hid (OwnE w4 w.heap.size (some ⟨gE, 0, none⟩) ne ce es) := OwnR.keep HO.out HB4.out
      have HM4 : Hid (Moves w w4 p b) := HM.out.trans (Moves.of_below HB4.out p b) (.inl rfl)
      have HOf : ∀ w, Calls Try.prog 38 #[.int .u64 x, .string k] w fun e w' => e = .returned (.int .u64 (hsh x k : Nat)) ∧ w' = w := fun w => Of_any x k w HKS.out HLO.out.2.2
      have HLy := fun w hT => lay_any B p b' x G' zi k v w hT HKS.out HFR.out (.inl (by
        have h1 := HZ.out.2.1.length_eq
        have h2 := HZ.out.2.2
        have h3 := HG'.out.2
        rw [List.length_take] at h1
        omega))
      generalize hsh x k = hv at HOf HLy
      have HTd : Hid (Tab w4.drew B p b' x G' zi) := HT4.out.keep (below_drewN w4 1)
      have HXd : Hid (Box w4.drew q k v) := HX4.out.keep (below_drewN w4 1)
      have HOd : Hid (OwnE w4.drew w.heap.size (some ⟨gE, 0, none⟩) ne ce es) := OwnR.keep HO4.out (below_drewN w4 1)
      have HMd : Hid (Moves w w4.drew p b) := HM4.out.trans (Moves.of_below (below_drewN w4 1) p b) (.inl rfl)
      clear hil HKS HFR HB4 HX4 HT4 HO4 HM4 HO HM
      go_upto_region 8 with fail
      go_region_held3 (fun w' => w'.cell? ⟨p, 0, none⟩ = some (.int .u64 (x : Nat)) ∧ w'.cell? ⟨q, 0, none⟩ = some (.string k) ∧ w'.cell? ⟨q, 1, none⟩ = some (.int .i64 v)) (exact ⟨HTd.out.top.seed, HXd.out.key, HXd.out.vl⟩) (first
        | (go_at_call 38; refine (HOf _).mono ?_; rintro e wx ⟨rfl, rfl⟩)
        | (go_at_call 88; refine (HLy _ HTd.out).mono ?_; rintro e wx ⟨rfl, hm, z2, hT2, hp2, hd2⟩; replace HXd : Hid (Box wx q k v) := HXd.out.moves hm HTd.out; replace HOd : Hid (OwnE wx w.heap.size (some ⟨gE, 0, none⟩) ne ce es) := OwnR.moves HOd.out hm HTd.out (by decide) (by decide); replace HMd : Hid (Moves w wx p b) := HMd.out.trans hm (.inr hwb); have HZ2 : Hid (Tab wx B p b' x G' z2 ∧ (ents z2).Perm (es.take (i + 1)) ∧ dels z2 = 0) := ⟨hT2, by rw [HTS.out]; exact hp2.trans (List.Perm.append_right _ HZ.out.2.1), by have := HZ.out.2.2; omega⟩; replace HTd : Hid (Tab wx B p b' x G' z2) := hT2; clear hm hT2 hp2 hd2))
      clear HTd HXd HOf HLy
      go_wp2
      go_roundg (gk - 1)
      case measure => omega
      case rel => exact ⟨i + 1, z2, by omega, by go_num, HZ2, HOd, HMd⟩
    · have HE : Hid (es.take i = es) := by show _ = _; rw [List.take_of_length_le (by have := HNE.out; omega)]
      go_wp2
      go_end0
      refine ⟨rfl, HM.out, b', G', zi, HZ.out.1, hwb, by have := HZ.out.2.1; rw [HE.out] at this; exact this, ?_⟩
      have h1 := HZ.out.2.1.length_eq
      have h2 := HZ.out.2.2
      have h3 := HG'.out.2
      rw [HE.out] at h1
      omega
end Go.Proofs.Ytejnmikbbnckeaa
