/-
  The law EntryBack, walked.
-/
import Derived.Test.YtdlnodedikiamaaStrs
namespace Go.Proofs.Ytdlnodedikiamaa
open Go.RowKit Go.PlainAid

set_option maxRecDepth 100000 in
set_option maxHeartbeats 8000000 in
theorem back_any (a : Option Addr) (n cap : Nat) (ls : List ByteArray) (w : World) (hR : RdS w a n ls) :
    Calls Try.prog 5 #[.slice a n cap] w fun e w' => e = .returned (.bool true) ∧ Below w.heap.size w w' := by
  have HF := fun w1 (e : RdS w1 a n ls) => Few_any a n cap ls 20 200 w1 e (by decide) (by decide)
  have HR : Hid (RdS w a n ls) := hR
  have HK := fun w => known_any w
  clear hR
  go_enter Try.func5, Try.ntmps5
  go_wp2_with fail
  refine (HF _ HR.out).mono ?_
  rintro e wf ⟨hb, ao, no, co, rfl, lo, hO, hS⟩
  have HB0 : Hid (Below w.heap.size w wf) := hb
  have HO : Hid (RdS wf ao no lo) := hO.rd
  have hno : no ≤ 20 := by have := hO.len; have := hS.1; omega
  have HL : Hid (lo.length = no) := hO.len
  have HS : Hid (∀ s ∈ lo, s.size ≤ 200) := fun s hs => by have := hS.2 s hs; omega
  have HW : Hid (Own wf wf.heap.size none 0 0 []) := Own.nil wf _
  clear hb hO hS HF HR
  go_wp2
  go_loopg [3, 4] no (fun g bv iv wr => ∃ (i : Nat) (a2 : Option Addr) (n2 c2 : Nat), i + g = no ∧ bv = .slice a2 n2 c2 ∧ iv = .int .i64 i ∧ Hid (Own wr wf.heap.size a2 n2 c2 (pack (lo.take i))) ∧ Hid (Below wf.heap.size wf wr))
  case atStart => exact ⟨0, none, 0, 0, by omega, rfl, rfl, HW, Below.refl _ _⟩
  case round =>
    obtain ⟨i, a2, n2, c2, hi, rfl, rfl, HW, HB⟩ := hrel
    have hl2 : n2 ≤ 5000 := by
      have h2 := pack_len (lo.take i) 200 (fun s hs => HS.out s (List.mem_of_mem_take hs))
      rw [HW.out.len, List.length_take] at h2
      have := HL.out
      have : min i lo.length * (200 + 11) ≤ 20 * (200 + 11) := Nat.mul_le_mul_right _ (by omega)
      omega
    by_cases h1 : (i : Int) < no
    · obtain ⟨b, off, ha, hc⟩ := HO.out.cell i (by omega)
      subst ha
      have hc1 : wr.cell? ⟨b, off + i, none⟩ = some (.string (lo.getD i ByteArray.empty)) := by
        rw [HB.out.cell (p := ⟨b, off + i, none⟩) (World.block_lt_of_cell? _ _ hc)]; exact hc
      have hil : i < lo.length := by have := HL.out; omega
      have hss := short_get HS.out i hil
      have HP : Hid (pack (lo.take i) ++ enc (lst (lo.getD i ByteArray.empty)) = pack (lo.take (i + 1))) := (pack_take lo i hil).symm
      generalize lo.getD i ByteArray.empty = s at hc1 hss HP
      have HE := fun w => Encode_any s w (by omega)
      have hel := (enc_len (lst s)).2
      rw [len_lst] at hel
      have HEL : Hid ((enc (lst s)).length ≤ 5000) := by show _ ≤ _; omega
      have HL2 : Hid (n2 ≤ 5000) := hl2
      clear hc hil hl2 hel
      go_wp2_with fail
      refine (HE _).mono ?_
      rintro e w1 ⟨hb, a3, n3, c3, rfl, hO3⟩
      have HO1 : Hid (Own w1 wf.heap.size a2 n2 c2 (pack (lo.take i))) := HW.out.keep hb
      have HR3 : Hid (Rd w1 a3 n3 c3 (enc (lst s))) := hO3.rd
      have H1 := step_below HB hb
      have HM : Hid (n2 + n3 ≤ 140737488355328) := by
        have := hO3.len
        have := HEL.out
        have := HL2.out
        show _ ≤ _
        omega
      clear hb hO3
      go_wp2_with (at_builtin; refine append_row rfl (.tmp 38) (.tmp 39) rfl wf.heap.size rfl HO1.out rfl HR3.out HM.out H1.out.size ?_; intro a4 n4 c4 w4 hn4 hO4 hB4; have HO4 : Hid (Own w4 wf.heap.size a4 n4 c4 (pack (lo.take (i + 1)))) := (by rw [HP.out] at hO4; exact hO4); have HB4 : Hid (Below wf.heap.size wf w4) := H1.out.trans hB4; clear hn4 hO4 hB4)
      go_roundg (gk - 1)
      case measure => omega
      case rel => exact ⟨i + 1, _, _, _, by omega, rfl, by go_num, HO4, HB4⟩
    · have HRb : Hid (Rd wr a2 n2 c2 (pack lo)) := by
        show Rd _ _ _ _ _
        have := HW.out.rd
        rwa [List.take_of_length_le (by have := HL.out; omega)] at this
      have HN2 : Hid (n2 ≤ 5000) := hl2
      clear hl2 hi HW
      obtain ⟨wb, hwb⟩ : ∃ wb, wb = wr := ⟨_, rfl⟩
      subst hwb
      go_wp2
      go_loopg [7, 8] no (fun g av iv wr => ∃ (i : Nat), i + g = no ∧ av = .int .i64 ((pack (lo.take i)).length : Nat) ∧ iv = .int .i64 i ∧ Hid (Below wb.heap.size wb wr))
      case atStart => exact ⟨0, by omega, rfl, rfl, Below.refl _ _⟩
      case round =>
        obtain ⟨i, hi, rfl, rfl, HC⟩ := hrel
        have HG : Hid (Below wf.heap.size wf wr) := HB.out.trans (HC.out.mono HB.out.size)
        by_cases h1 : (i : Int) < no
        · obtain ⟨b, off, ha, hc⟩ := HO.out.cell i (by omega)
          subst ha
          have hbl := World.block_lt_of_cell? _ _ hc
          have HCe : Hid (∀ wx, Below wf.heap.size wf wx → wx.cell? ⟨b, off + i, none⟩ = some (.string (lo.getD i ByteArray.empty))) := fun wx hx => by
            rw [hx.cell (p := ⟨b, off + i, none⟩) hbl]; exact hc
          have hil : i < lo.length := by have := HL.out; omega
          have hss := short_get HS.out i hil
          have hsp := pack_split lo i hil
          have htk := pack_take lo i hil
          have hplen := HRb.out.len
          generalize lo.getD i ByteArray.empty = s at HCe hss hsp htk
          have hd := decAt_enc (pack (lo.take i)) (lst s) (pack (lo.drop (i + 1))) (by rw [len_lst]; omega)
          have hk := bkAt_enc (pack (lo.take i)) (lst s) (pack (lo.drop (i + 1))) (by rw [len_lst]; omega)
          rw [← hsp] at hd hk
          have hnl := congrArg List.length hsp
          rw [List.length_append, List.length_append, hplen] at hnl
          have htl := congrArg List.length htk
          rw [List.length_append] at htl
          have HZ := fun w => Size_any s w (by omega)
          have hb2 := HN2.out
          generalize (enc (lst s)).length = q at hd hk hnl htl HZ
          generalize (pack (lo.take i)).length = p at hd hk hnl htl
          have HD := fun w1 (e : Rd w1 a2 n2 c2 (pack lo)) => Decode_any a2 n2 c2 (pack lo) p w1 e (by omega)
          have HE := fun w1 (e : Rd w1 a2 n2 c2 (pack lo)) => Back_any a2 n2 c2 (pack lo) ((p + q : Nat) : Int) w1 e
          rw [hd, cR_some, bs_lst] at HD
          rw [hk, kR_some] at HE
          have hpb : (p : Int) ≤ 5000 := by omega
          have hqb : (q : Int) ≤ 5000 := by omega
          rw [show ((p + q : Nat) : Int) = (p : Int) + (q : Int) by omega] at HD HE
          have HT : Hid (((pack (lo.take (i + 1))).length : Int) = (p : Int) + (q : Int)) := by show _ = _; omega
          have hq1 : (s.toList == s.toList) = true := by simp
          have hq2 : (s.toList != s.toList) = false := by simp
          clear hd hk hnl htl hsp htk hplen hss hc hbl hil hb2
          go_wp2_with fail
          refine (HD _ (HRb.out.keep HC.out)).mono ?_
          rintro e w1 ⟨hb, rfl⟩
          have C1 := step_below HC hb
          clear hb
          go_wp2_with fail
          refine (HE _ (HRb.out.keep C1.out)).mono ?_
          rintro e w2 ⟨hb, rfl⟩
          have C2 := step_below C1 hb
          clear hb
          have hc2 := HCe.out w2 (HB.out.trans (C2.out.mono HB.out.size))
          go_wp2_with fail
          refine (HZ _).mono ?_
          rintro e w3 ⟨hb, rfl⟩
          have C3 := step_below C2 hb
          clear hb
          go_wp2
          go_roundg (gk - 1)
          case measure => omega
          case rel => exact ⟨i + 1, by omega, by rw [HT.out], by go_num, C3⟩
        · have HP : Hid ((pack (lo.take i)).length = (pack (lo.take no)).length) := by
            show _ = _
            rw [show i = no by omega]
          obtain ⟨wc, hwc⟩ : ∃ wc, wc = wr := ⟨_, rfl⟩
          subst hwc
          rw [HP.out]
          clear hi HP
          have HRc : Hid (Rd wc a2 n2 c2 (pack lo)) := HRb.out.keep HC.out
          go_wp2
          go_loopg [7, 14] no (fun g av iv wr => ∃ (i : Nat), i = g ∧ i ≤ no ∧ av = .int .i64 ((pack (lo.take i)).length : Nat) ∧ iv = .int .i64 ((i : Int) - 1) ∧ Hid (Below wc.heap.size wc wr))
          case atStart => exact ⟨no, rfl, by omega, rfl, rfl, Below.refl _ _⟩
          case round =>
            obtain ⟨i, hi, hino, rfl, rfl, HC3⟩ := hrel
            have HG3 : Hid (Below wf.heap.size wf wr) := HG.out.trans (HC3.out.mono HG.out.size)
            cases i with
            | zero =>
              have G9 : Hid (Below w.heap.size w wr) := HB0.out.trans (HG3.out.mono HB0.out.size)
              rw [show pack (lo.take 0) = [] from rfl]
              clear hi
              go_wp2_with fail
              refine (HK _).mono ?_
              rintro e w1 ⟨hb, rfl⟩
              have G10 := step_below G9 hb
              clear hb
              go_wp2
              go_ret
              exact ⟨rfl, G10.out⟩
            | succ j =>
              rw [show ((j + 1 : Nat) : Int) - 1 = (j : Int) by omega]
              obtain ⟨b, off, ha, hc⟩ := HO.out.cell j (by omega)
              subst ha
              have hbl := World.block_lt_of_cell? _ _ hc
              have HCe : Hid (∀ wx, Below wf.heap.size wf wx → wx.cell? ⟨b, off + j, none⟩ = some (.string (lo.getD j ByteArray.empty))) := fun wx hx => by
                rw [hx.cell (p := ⟨b, off + j, none⟩) hbl]; exact hc
              have hil : j < lo.length := by have := HL.out; omega
              have hss := short_get HS.out j hil
              have hsp := pack_split lo j hil
              have htk := pack_take lo j hil
              have hplen := HRb.out.len
              generalize lo.getD j ByteArray.empty = s at HCe hss hsp htk
              have hd := decAt_enc (pack (lo.take j)) (lst s) (pack (lo.drop (j + 1))) (by rw [len_lst]; omega)
              have hk := bkAt_enc (pack (lo.take j)) (lst s) (pack (lo.drop (j + 1))) (by rw [len_lst]; omega)
              rw [← hsp] at hd hk
              have hnl := congrArg List.length hsp
              rw [List.length_append, List.length_append, hplen] at hnl
              have htl := congrArg List.length htk
              rw [List.length_append] at htl
              have hb2 := HN2.out
              rw [← htl] at hd hk
              generalize (enc (lst s)).length = q at hd hk hnl htl
              have HPP : Hid ((pack (lo.take j)).length = (pack (lo.take j)).length) := rfl
              obtain ⟨p, hp⟩ : ∃ p, (pack (lo.take j)).length = p := ⟨_, rfl⟩
              rw [hp] at hd hk hnl htl
              generalize (pack (lo.take (j + 1))).length = r at htl hd hk
              have HD := fun w1 (e : Rd w1 a2 n2 c2 (pack lo)) => Decode_any a2 n2 c2 (pack lo) p w1 e (by omega)
              have HE := fun w1 (e : Rd w1 a2 n2 c2 (pack lo)) => Back_any a2 n2 c2 (pack lo) (r : Int) w1 e
              rw [hd, cR_some, bs_lst] at HD
              rw [hk, kR_some] at HE
              have hpb : (p : Int) ≤ 5000 := by omega
              have hrb : (r : Int) ≤ 5000 := by omega
              have hq1 : (s.toList == s.toList) = true := by simp
              have hq2 : (s.toList != s.toList) = false := by simp
              have HP2 : Hid ((pack (lo.take j)).length = p) := hp
              have hjn : (j : Int) < no := by omega
              clear hd hk hnl htl hsp htk hplen hss hc hbl hil hb2 hp HPP
              go_wp2_with fail
              refine (HE _ (HRc.out.keep HC3.out)).mono ?_
              rintro e w1 ⟨hb, rfl⟩
              have C1 := step_below HC3 hb
              clear hb
              go_wp2_with fail
              refine (HD _ (HRc.out.keep C1.out)).mono ?_
              rintro e w2 ⟨hb, rfl⟩
              have C2 := step_below C1 hb
              clear hb
              have hc2 := HCe.out w2 (HG.out.trans (C2.out.mono HG.out.size))
              go_wp2
              go_roundg j
              case measure => omega
              case rel => exact ⟨j, rfl, by omega, by rw [HP2.out], by go_num, C2⟩
end Go.Proofs.Ytdlnodedikiamaa
