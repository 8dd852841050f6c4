/-
  The law's sound and known.
-/
import Derived.Test.YtnmonhendidhkaaAbs
namespace Go.Proofs.Ytnmonhendidhkaa
open Go.RowKit Go.PlainAid

set_option maxRecDepth 100000 in
set_option maxHeartbeats 8000000 in
theorem sound_tab (B p b x G : Nat) (z : List Cl) (a : Option Addr) (n cap : Nat) (ls : List ByteArray) (w : World) (hT : Tab w B p b x G z) (hO : OwnS w 0 a n cap ls) (hp : ls.Perm (keysOf (ents z))) :
    Calls Try.prog 17 #[ptr p, .slice a n cap] w fun e w' => e = .returned (.bool true) ∧ Below w.heap.size w w' := by
  have HT : Hid (Tab w B p b x G z) := hT
  have HO : Hid (OwnS w 0 a n cap ls) := hO
  have HL : Hid (z.length = 8 * G) := hT.inv.len
  have hG := hT.inv.grp.le
  have HGr := fun w hT => Groups_any p b x G w hT
  have HWo := fun w hT => Words_any B p b x G z w hT
  have HLe := fun w hT => Len_any B p b x G z w hT
  have HMa := fun w hT => Marks_any B p b x G z w hT
  have HKe := fun w hT => Keys_any B p b x G z w hT
  have hlen : (ents z).length + dels z ≤ 7 * G := hT.inv.room
  have HKL : Hid ((ents z).length = n) := by
    have h1 := hp.length_eq
    rw [List.length_map] at h1
    rw [← h1]
    exact OwnS.len hO
  have HP : Hid ((keysOf (ents z)).Perm ls) := hp.symm
  have HGI : Hid (isG G) := hT.inv.grp
  have HBy : Hid (∀ q, q < 8 * G → (cel z q).1 < 128 ∨ (cel z q).1 = 128 ∨ (cel z q).1 = 254) := hT.inv.byt
  rw [HKL.out] at HLe hlen
  clear hT hO hp
  obtain ⟨d, hd⟩ : ∃ d, dels z = d := ⟨_, rfl⟩
  have HDE : Hid (dels z = d) := hd
  rw [hd] at hlen HMa
  clear hd
  go_enter Try.func17, Try.ntmps17
  go_wp2_with fail
  refine (HGr _ HT.out.top).mono ?_
  rintro e w ⟨rfl, rfl⟩
  go_wp2_with fail
  refine (HWo _ HT.out).mono ?_
  rintro e w1 ⟨hb1, aw, nw, cw, rfl, hW⟩
  have HB1 : Hid (Below w.heap.size w w1) := hb1
  have HT1 : Hid (Tab w1 B p b x G z) := HT.out.keep hb1
  have HO1 : Hid (OwnS w1 0 a n cap ls) := OwnR.keep HO.out hb1
  have HW1 : Hid (OwnW w1 0 aw nw cw (wds z G)) := OwnR.low hW (Nat.zero_le _)
  obtain rfl : G = nw := by have := OwnW.len hW; rw [wds_len] at this; omega
  clear hb1 hW HGr HWo
  go_upto_region 3 with fail
  go_cut [60] from 16 to 60 (fun v wx => v = .bool false ∧ Hid (Below w1.heap.size w1 wx))
  case first =>
    have HD : Hid (Below w1.heap.size w1 w1) := Below.refl _ _
    rcases HGI.out with e1 | e1 | e1 | e1 | e1
    all_goals
      subst e1
      go_wp2_with fail
      refine (HLe _ HT1.out).mono ?_
      rintro e w1 ⟨rfl, rfl⟩
      go_wp2_with fail
      refine (HKe _ HT1.out).mono ?_
      rintro e w2 ⟨hb2, ak, nk, ck, rfl, hK⟩
      have hnk : nk = n := by have := OwnS.len hK; rw [List.length_map, HKL.out] at this; omega
      subst hnk
      have HBg := Bag_any ak a nk ck cap (keysOf (ents z)) ls w2 (OwnR.low hK (Nat.zero_le _)) (OwnR.keep HO1.out hb2) (by omega) HP.out
      have H2 := step_below HD hb2
      clear hb2 hK
      go_wp2_with fail
      refine HBg.mono ?_
      rintro e w3 ⟨rfl, hb3⟩
      have H3 := step_below H2 hb3
      clear hb3
      go_wp2_with fail
      refine (HLe _ (HT1.out.keep H3.out)).mono ?_
      rintro e w3 ⟨rfl, rfl⟩
      go_wp2
      go_meet
      exact ⟨by rw [decide_eq_false (by omega)], H3⟩
  case rest =>
  obtain ⟨rfl, H3⟩ := hcut
  have HBc : Hid (Below w.heap.size w wc) := HB1.out.trans (H3.out.mono HB1.out.size)
  have HTc : Hid (Tab wc B p b x G z) := HT1.out.keep H3.out
  have HWc : Hid (OwnW wc 0 aw G cw (wds z G)) := OwnR.keep HW1.out H3.out
  clear H3 HB1 HO1 HW1 HT1 HKe HO HP
  go_wp2
  go_loopg [7, 8, 9, 10, 11] G (fun q fv dv gv kv bv wr => wc = wr ∧ ∃ g : Nat, g + q = G ∧ gv = .int .i64 g ∧ fv = .int .i64 ((ents (z.take (8 * g))).length : Nat) ∧ dv = .int .i64 (dels (z.take (8 * g)) : Nat))
  case atStart => exact ⟨rfl, 0, by omega, rfl, rfl, rfl⟩
  case round =>
    obtain ⟨rfl, g, hg, rfl, rfl, rfl⟩ := hrel
    obtain ⟨ga, hga⟩ : ∃ ga, ga = gk := ⟨_, rfl⟩
    subst hga
    have HK : Hid (g + ga = G) := hg
    by_cases h8 : (g : Int) < G
    · have hgG : g < G := by omega
      clear hg
      obtain ⟨bw, hbw, hcw⟩ := OwnW.cell HWc.out (j := g) hgG
      subst hbw
      have hwd : (wds z G).getD g 0 = val (wrd z g) := by
        unfold wds
        rw [List.getD_eq_getElem?_getD, List.getElem?_map, List.getElem?_range hgG]
        rfl
      rw [hwd] at hcw
      have HVG : Hid (∀ i, i < 8 → val (wrd z g) / 256 ^ i % 256 = (cel z (8 * g + i)).1) := fun i hi => by rw [val_get (HT.out.inv.ok hgG).byt i, wrd_get HL.out hgG hi]
      have hvl := (HT.out.inv.ok hgG).lt
      generalize val (wrd z g) = wv at hcw HVG hvl
      clear hwd
      go_wp2
      go_loopg [7, 8, 10, 11] 8 (fun q fv dv kv bv wr => wc = wr ∧ ∃ i : Nat, i + q = 8 ∧ kv = .int .i64 i ∧ fv = .int .i64 ((ents (z.take (8 * g + i))).length : Nat) ∧ dv = .int .i64 (dels (z.take (8 * g + i)) : Nat))
      case atStart => exact ⟨rfl, 0, by omega, rfl, rfl, rfl⟩
      case round =>
        obtain ⟨rfl, i, hi, rfl, rfl, rfl⟩ := hrel
        by_cases hi8 : (i : Int) < 8
        · have hi8' : i < 8 := by omega
          have hq : 8 * g + i < z.length := by have := HL.out; omega
          have HS : Hid (z.take (8 * g + (i + 1)) = z.take (8 * g + i) ++ [cel z (8 * g + i)]) := by show _ = _; rw [cel_at z hq, ← Nat.add_assoc, List.take_add_one, List.getElem?_eq_getElem hq]; rfl
          have hbv := HVG.out i hi8'
          have HByi := HBy.out (8 * g + i) (by omega)
          have hf1 : (ents (z.take (8 * g + i))).length ≤ 128 := by
            have := ents_len_le (z.take (8 * g + i))
            rw [List.length_take] at this
            omega
          have hd1 : dels (z.take (8 * g + i)) ≤ 128 := by
            have := dels_le (z.take (8 * g + i))
            rw [List.length_take] at this
            omega
          have HE1 : Hid ((cel z (8 * g + i)).1 < 128 → (ents (z.take (8 * g + (i + 1)))).length = (ents (z.take (8 * g + i))).length + 1 ∧ dels (z.take (8 * g + (i + 1))) = dels (z.take (8 * g + i))) := fun h => by
            rw [HS.out, ents_append, ents_cons_yes h, dels_append, dels_cons_no (by omega)]
            exact ⟨by rw [List.length_append]; rfl, rfl⟩
          have HE2 : Hid ((cel z (8 * g + i)).1 = 254 → (ents (z.take (8 * g + (i + 1)))).length = (ents (z.take (8 * g + i))).length ∧ dels (z.take (8 * g + (i + 1))) = dels (z.take (8 * g + i)) + 1) := fun h => by
            rw [HS.out, ents_append, ents_cons_no (by omega), dels_append, dels_cons_yes h]
            exact ⟨by rw [List.length_append]; rfl, rfl⟩
          have HE3 : Hid ((cel z (8 * g + i)).1 = 128 → (ents (z.take (8 * g + (i + 1)))).length = (ents (z.take (8 * g + i))).length ∧ dels (z.take (8 * g + (i + 1))) = dels (z.take (8 * g + i))) := fun h => by
            rw [HS.out, ents_append, ents_cons_no (by omega), dels_append, dels_cons_no (by omega)]
            exact ⟨by rw [List.length_append]; rfl, rfl⟩
          generalize (cel z (8 * g + i)).1 = bt at hbv HByi HE1 HE2 HE3
          generalize (ents (z.take (8 * g + i))).length = f at hf1 HE1 HE2 HE3 ⊢
          generalize dels (z.take (8 * g + i)) = d' at hd1 HE1 HE2 HE3 ⊢
          have hbt : bt < 256 := by omega
          have hbz : (wv : Int) / 2 ^ (8 * i) % 256 = (bt : Int) := by
            have e1 : (256 : Nat) ^ i = 2 ^ (8 * i) := by rw [show (256 : Nat) = 2 ^ 8 from rfl, ← Nat.pow_mul]
            rw [e1] at hbv
            have e2 : (2 : Int) ^ (8 * i) = ((2 ^ (8 * i) : Nat) : Int) := by simp
            rw [e2, ← Int.natCast_ediv]
            generalize wv / 2 ^ (8 * i) = qq at hbv
            omega
          clear hbv HVG HBy
          rcases HByi with hb1 | hb1 | hb1
          · have hz1 : (bt : Int) < 128 := by omega
            have HE := HE1.out hb1
            clear HE1 HE2 HE3
            obtain ⟨k1, k2⟩ := HE
            have HK1 : Hid ((ents (z.take (8 * g + (i + 1)))).length = f + 1) := k1
            have HK2 : Hid (dels (z.take (8 * g + (i + 1))) = d') := k2
            clear k1 k2
            go_wp2
            go_roundg (gk - 1)
            case measure => omega
            case rel => exact ⟨rfl, i + 1, by omega, by go_num, by rw [HK1.out]; go_num, by rw [HK2.out]⟩
          · subst hb1
            have HE := HE3.out rfl
            clear HE1 HE2 HE3
            obtain ⟨k1, k2⟩ := HE
            have HK1 : Hid ((ents (z.take (8 * g + (i + 1)))).length = f) := k1
            have HK2 : Hid (dels (z.take (8 * g + (i + 1))) = d') := k2
            clear k1 k2
            replace hbz : (wv : Int) / 2 ^ (8 * i) % 256 = 128 := hbz
            go_wp2
            go_roundg (gk - 1)
            case measure => omega
            case rel => exact ⟨rfl, i + 1, by omega, by go_num, by rw [HK1.out], by rw [HK2.out]⟩
          · subst hb1
            have HE := HE2.out rfl
            clear HE1 HE2 HE3
            obtain ⟨k1, k2⟩ := HE
            have HK1 : Hid ((ents (z.take (8 * g + (i + 1)))).length = f) := k1
            have HK2 : Hid (dels (z.take (8 * g + (i + 1))) = d' + 1) := k2
            clear k1 k2
            replace hbz : (wv : Int) / 2 ^ (8 * i) % 256 = 254 := hbz
            go_wp2
            go_roundg (gk - 1)
            case measure => omega
            case rel => exact ⟨rfl, i + 1, by omega, by go_num, by rw [HK1.out], by rw [HK2.out]; go_num⟩
        · have HE : Hid (8 * (g + 1) = 8 * g + i) := by show _ = _; omega
          go_wp2
          go_roundg (ga - 1)
          case measure => have := HK.out; omega
          case rel => exact ⟨rfl, g + 1, by have := HK.out; omega, by go_num, by rw [HE.out], by rw [HE.out]⟩
    · have HE : Hid (z.take (8 * g) = z) := by show _ = _; rw [List.take_of_length_le (by have := HL.out; omega)]
      rw [HE.out, HKL.out, HDE.out]
      have hlz : (n : Int) + d ≤ 7 * G := by omega
      go_wp2_with fail
      refine (HLe _ HTc.out).mono ?_
      rintro e wc ⟨rfl, rfl⟩
      go_wp2_with fail
      refine (HMa _ HTc.out).mono ?_
      rintro e w5 ⟨rfl, hb5⟩
      have HB5 := step_below HBc hb5
      clear hb5
      go_wp2
      go_ret
      exact ⟨rfl, HB5.out⟩
theorem soundT (B p b x : Nat) (es : List En) (a : Option Addr) (n cap : Nat) (ls : List ByteArray) (w : World) (hT : Tbl w B p b x es) (hO : OwnS w 0 a n cap ls) (hp : ls.Perm (keysOf es)) :
    Calls Try.prog 17 #[ptr p, .slice a n cap] w fun e w' => e = .returned (.bool true) ∧ Below w.heap.size w w' := by
  obtain ⟨G, z, h1, h2⟩ := hT
  exact sound_tab B p b x G z a n cap ls w h1 hO (hp.trans (h2.map _).symm)

theorem GroupsT (B p b x : Nat) (es : List En) (w : World) (hT : Tbl w B p b x es) : Calls Try.prog 22 #[ptr p] w fun e w' => (∃ G : Nat, 1 ≤ G ∧ G ≤ 16 ∧ e = .returned (.int .i64 G)) ∧ w' = w := by
  obtain ⟨G, z, h1, h2⟩ := hT
  refine (Groups_any p b x G w h1.top).mono ?_
  rintro e w' ⟨rfl, rfl⟩
  exact ⟨⟨G, h1.inv.grp.pos, h1.inv.grp.le, rfl⟩, rfl⟩

set_option maxHeartbeats 4000000 in
theorem known_any (w : World) : Calls Try.prog 9 #[] w fun e w' => e = .returned (.bool true) ∧ Below w.heap.size w w' := by
  have HN := NewT 1 w (by decide)
  have HP1 := fun B p b w hT => PutT_new B p b 1 [] ⟨#[97]⟩ 1 w hT (by decide) (by simp) (by decide)
  have HP2 := fun B p b w hT => PutT_old B p b 1 [] [] ⟨#[97]⟩ 1 2 w hT (by decide)
  have HG := fun B p b w hT => GetT_some B p b 1 [(⟨#[97]⟩, 2)] ⟨#[97]⟩ 2 w hT (by decide) (by simp)
  have HL := fun B p b w hT => LenT B p b 1 [(⟨#[97]⟩, 2)] w hT
  have HGr := fun B p b w hT => GroupsT B p b 1 [(⟨#[97]⟩, 2)] w hT
  go_enter Try.func9, Try.ntmps9
  go_wp2_with fail
  refine HN.mono ?_
  rintro e w1 ⟨hb1, p, b, rfl, hT1⟩
  have HB1 : Hid (Below w.heap.size w w1) := hb1
  have HT1 : Hid (Tbl w1 w.heap.size p b 1 []) := hT1
  clear hb1 hT1 HN
  go_wp2_with fail
  refine (HP1 _ _ _ _ HT1.out).mono ?_
  rintro e w2 ⟨rfl, hm2, b2, hT2, hb2⟩
  have HB2 : Hid (Below w.heap.size w w2) := HB1.out.trans (HT1.out.below hm2)
  have HT2 : Hid (Tbl w2 w.heap.size p b2 1 [(⟨#[97]⟩, 1)]) := hT2
  clear hm2 hT2 hb2 HP1
  go_wp2_with fail
  refine (HP2 _ _ _ _ HT2.out).mono ?_
  rintro e w3 ⟨rfl, hm3, hT3⟩
  have HB3 : Hid (Below w.heap.size w w3) := HB2.out.trans (HT2.out.below hm3)
  have HT3 : Hid (Tbl w3 w.heap.size p b2 1 [(⟨#[97]⟩, 2)]) := hT3
  clear hm3 hT3 HP2
  go_wp2_with fail
  refine (HG _ _ _ _ HT3.out).mono ?_
  rintro e w4 ⟨rfl, hb4⟩
  have HB4 := HB3.out.trans (hb4.mono HB3.out.size)
  have HT4 : Hid (Tbl w4 w.heap.size p b2 1 [(⟨#[97]⟩, 2)]) := HT3.out.keep hb4
  replace HB4 : Hid (Below w.heap.size w w4) := HB4
  clear hb4 HG
  go_wp2_with fail
  refine (HL _ _ _ _ HT4.out).mono ?_
  rintro e w4 ⟨rfl, rfl⟩
  go_wp2_with fail
  refine (HGr _ _ _ _ HT4.out).mono ?_
  rintro e w4 ⟨⟨G, hG1, hG2, rfl⟩, rfl⟩
  have hGz : (1 : Int) ≤ G := by omega
  go_wp2
  go_ret
  exact ⟨by simp, HB4.out⟩
end Go.Proofs.Ytnmonhendidhkaa
