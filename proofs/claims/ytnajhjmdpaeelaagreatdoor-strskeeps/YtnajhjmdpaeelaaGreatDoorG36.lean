/- Texts that the others stand on. -/
import Derived.Test.YtnajhjmdpaeelaaGreatDoorG30
import Derived.Test.YtnajhjmdpaeelaaGreatDoorG31
import Derived.Test.YtnajhjmdpaeelaaGreatDoorG33
import Derived.Test.YtnajhjmdpaeelaaGreatDoorG34
import Derived.Test.YtnajhjmdpaeelaaGreatDoorG35
import Derived.Test.YtnajhjmdpaeelaaGreatDoorG32
namespace Go.Proofs.YtnajhjmdpaeelaaGreatDoor.Sq
open Go.RowKit Go.PlainAid
open Dk (ptr below_drewN alloc_below step_below add_flat OwnR OwnP OwnS Mv pcells Elt elt_of)
open Cy (RdS)
/-- What a text comes to that another is laid over. -/
def srP (tx : ByteArray) (i : Int) (v : ByteArray) : Int × ByteArray := if i < 0 then (25, ⟨#[]⟩) else if v.size = 0 then (0, tx) else if i + v.size ≤ 65536 then (0, Tx.setRangeB tx i.toNat v) else (11, ⟨#[]⟩)
theorem srP_R (tx : ByteArray) (i : Int) (v : ByteArray) : Tx.setRangeR tx i v = .tuple #[.string (srP tx i v).2, .int .i64 (srP tx i v).1] := by
  unfold Tx.setRangeR srP
  split
  · rfl
  · split
    · rfl
    · split <;> rfl
/-- What setrange answers, and leaves. -/
def setRP (M : AbT) (V : ByteArray → Int) (ls : List ByteArray) : An × AbT × (ByteArray → Int) := match parseL (lst (ls.getD 2 ByteArray.empty)) with
  | none => (An.no 5, M, V)
  | some i => match txtO (M (ls.getD 1 ByteArray.empty)) with
    | none => (An.no 4, M, V)
    | some tx => if (srP tx i (ls.getD 3 ByteArray.empty)).1 = 0 then (if ls.getD 3 ByteArray.empty = ⟨#[]⟩ then (An.int (srP tx i (ls.getD 3 ByteArray.empty)).2.size, M, V) else (An.int (srP tx i (ls.getD 3 ByteArray.empty)).2.size, keepM M (ls.getD 1 ByteArray.empty) (srP tx i (ls.getD 3 ByteArray.empty)).2, keepV M V (ls.getD 1 ByteArray.empty) (srP tx i (ls.getD 3 ByteArray.empty)).2)) else (An.no (srP tx i (ls.getD 3 ByteArray.empty)).1, M, V)
section
variable {w w' : World} {U : Own} {s x : Nat} {NM : List ByteArray} {t : Int} {A : Ab} {M M' : AbT} {V V' : ByteArray → Int} {c : Nat} {nm : ByteArray} {a : Option Addr} {n m : Nat} {ls : List ByteArray}
/-- A word that is no number. -/
theorem number_bad (k : ByteArray) (hk : k.size ≤ maxLen) (w : World) (h : Cll w c s t nm a n m) (ho : parseL (lst k) = none) :
    Calls Tryz.prog 108 #[ptr c, .string k] w fun e w' => ∃ b, e = .returned (.tuple #[.int .i64 0, .iface 170 (.pointer (some ⟨b, 0, none⟩))]) ∧ Flt w' (.iface 170 (.pointer (some ⟨b, 0, none⟩))) nm 5 ∧ Below w.heap.size w w' := by
  refine (number_no k hk w h ho).mono ?_
  rintro e w' ⟨rfl, rfl⟩
  exact ⟨_, rfl, Flt.new w nm 5, newW_below w nm (codeV 5)⟩
set_option maxHeartbeats 1600000 in
theorem setRange_any (hC : Ctx w U s x NM t M V c nm a n m ls) (hv : Low V) (hS : Small M) (hN : ∀ k ∈ ls, k.size ≤ 4096) (h3 : 3 < n) (hk : ls.getD 1 ByteArray.empty ∈ NM) :
    Calls Tryz.prog 64 #[ptr c] w fun e w' => Says w' nm (setRP M V ls).1 e ∧ Behind w w' U s x NM t (setRP M V ls).2.1 (setRP M V ls).2.2 := by
  obtain ⟨w1, hal, HV1, HM1, HC1⟩ := hC.newR
  have hn : n ≤ 9223372036854775807 := hC.ars.rd.max
  have hlen := hC.ars.rd.len
  have hn3 : (3 : Int) < n := by omega
  have hsz : ∀ j, j < n → (ls.getD j ByteArray.empty).size ≤ 4096 := fun j hj => by
    rw [List.getD_eq_getElem?_getD, List.getElem?_eq_getElem (by omega)]
    exact hN _ (List.getElem_mem _)
  have hl1 := hsz 1 (by omega)
  have hl2 := hsz 2 (by omega)
  have hl3 := hsz 3 (by omega)
  obtain ⟨b0, off, rfl, d1⟩ := HC1.out.word (j := 1) (by omega)
  obtain ⟨b2, o2, e2, d2⟩ := HC1.out.word (j := 2) (by omega)
  cases e2
  obtain ⟨b2, o2, e2, d3⟩ := HC1.out.word (j := 3) (by omega)
  cases e2
  have c3 := HC1.out.cll.c3
  unfold setRP
  have HW : Hid (ls.getD 1 ByteArray.empty = ls.getD 1 ByteArray.empty) := rfl
  obtain ⟨k, hkk⟩ : ∃ k, ls.getD 1 ByteArray.empty = k := ⟨_, rfl⟩
  obtain ⟨k2, hk2⟩ : ∃ k, ls.getD 2 ByteArray.empty = k := ⟨_, rfl⟩
  obtain ⟨v, hk3⟩ : ∃ k, ls.getD 3 ByteArray.empty = k := ⟨_, rfl⟩
  rw [hkk] at d1 hk hl1
  rw [hk2] at d2 hl2
  rw [hk3] at d3 hl3
  rw [hkk, hk2, hk3]
  have HD : Hid (ls.getD 1 ByteArray.empty = k ∧ ls.getD 2 ByteArray.empty = k2 ∧ ls.getD 3 ByteArray.empty = v ∧ 3 < n) := ⟨hkk, hk2, hk3, h3⟩
  clear hkk hk2 hk3 HW hsz hN hlen h3
  cases ho : parseL (lst k2) with
  | none =>
    have HN := number_bad k2 (by unfold maxLen; omega) w1 HC1.out.cll ho
    clear ho hC
    go_enter Tryz.func64, Tryz.ntmps64
    go_wp2_with (go_at_call 108; first | rw [hal] | skip; refine HN.mono ?_; rintro e w2 ⟨b, rfl, hF2, hb2⟩; have hv2 := HV1.out.mv (Mv.of_below hb2); have HV2 : Hid _ := hv2.set Rp.z; have HE : Hid _ := Behind.bad (nm := nm) ⟨HM1.out.trans (Mb.of_below hb2), HC1.out.seen.keep hb2⟩ hv2 (show ¬ (5 : Int) = 0 by decide) hF2; obtain ⟨z0, z1, z2, z3⟩ := hv2.cells; have fz := hv2.free; simp only [Rp.z] at z0 z1 z2 z3; clear hb2 hF2 hv2)
    exact ret_E (x := .iface 170 (.pointer (some ⟨b, 0, none⟩))) rfl rfl rfl HV2.out HE.out
  | some i =>
    have HN := fun wx => number_yes (c := c) k2 (by unfold maxLen; omega) i wx ho
    have hI : Tx.Int64 i := parse_int ho
    have hI64 : Tx.I64 i := by unfold Tx.Int64 at hI; unfold Tx.I64; omega
    clear ho
    cases hx : txtO (M k) with
    | none =>
      have HT := text_no HC1.out hv k (by unfold maxLen; omega) hx
      clear hx hC
      simp only
      go_enter Tryz.func64, Tryz.ntmps64
      go_wp2_with (first
        | (go_at_call 108; first | rw [hal] | skip; refine (HN _).mono ?_; rintro e w2 ⟨rfl, rfl⟩)
        | (go_at_call 91; refine HT.mono ?_; rintro e w2 ⟨⟨b, rfl, hF2⟩, hm2, hS2⟩; have hv2 := HV1.out.mv hm2.mv; have HV2 : Hid _ := hv2.set Rp.z; have HE : Hid _ := Behind.bad (nm := nm) ⟨HM1.out.trans hm2, hS2⟩ hv2 (show ¬ (4 : Int) = 0 by decide) hF2; obtain ⟨z0, z1, z2, z3⟩ := hv2.cells; have fz := hv2.free; simp only [Rp.z] at z0 z1 z2 z3; clear hm2 hS2 hF2 hv2))
      exact ret_E (x := .iface 170 (.pointer (some ⟨b, 0, none⟩))) rfl rfl rfl HV2.out HE.out
    | some tx =>
      have HT := text_ok HC1.out hv k (by unfold maxLen; omega) tx hx
      have hts : tx.size ≤ 65536 := hS.txt hx
      have HTx : Hid (∀ d u, M k = some (d, u) → d.1 = 1) := txtO_text hx
      have HG := fun wx => Tx.SetRange_any tx i v wx hI64 (by omega) (by omega)
      rw [srP_R] at HG
      have hstz : (srP tx i v).2.size ≤ 1000000 := by
        unfold srP
        split
        · decide
        · split
          · show tx.size ≤ _
            omega
          · split
            · rename_i h4 h5 h6
              show (Tx.setRangeB tx i.toNat v).size ≤ _
              unfold Tx.setRangeB
              have h7 : (lst v).length = v.size := len_lst v
              have h8 : (lst tx).length = tx.size := len_lst tx
              have h9 := Tx.ext_len (lst tx) (i.toNat + v.size)
              rw [size_bs, Tx.over_len _ _ _ (by omega)]
              omega
            · decide
      obtain ⟨q, hq⟩ : ∃ q, (srP tx i v).1 = q := ⟨_, rfl⟩
      obtain ⟨st, hst⟩ : ∃ st, (srP tx i v).2 = st := ⟨_, rfl⟩
      rw [hst] at hstz
      rw [hq, hst] at HG
      simp only [hq, hst]
      clear hx hq hst hI hI64 hts
      by_cases hq0 : q = 0
      · subst hq0
        by_cases hv0 : v = ⟨#[]⟩
        · have q0 := lit_yes (x := []) hv0 rfl
          rw [if_pos rfl, if_pos hv0]
          clear hv0
          go_enter Tryz.func64, Tryz.ntmps64
          go_wp2_with (first
            | (go_at_call 108; first | rw [hal] | skip; refine (HN _).mono ?_; rintro e w2 ⟨rfl, rfl⟩)
            | (go_at_call 91; refine HT.mono ?_; rintro e w2 ⟨⟨r, rfl⟩, hm2, hS2⟩; have HC2 : Hid (Ctx w2 U s x NM t M V c nm (some ⟨b0, off, none⟩) n m ls) := HC1.out.step hm2 hS2; have HV2 : Hid (VarR w2 w.heap.size Rp.z) := HV1.out.mv hm2.mv; have HM2 : Hid (Mb vtag U w w2) := HM1.out.trans hm2; have c3 := HC2.out.cll.c3; obtain ⟨b3, o3, e3, d3⟩ := HC2.out.word (j := 3) (by have := HD.out.2.2.2; omega); cases e3; rw [HD.out.2.2.1] at d3; clear hm2 hS2)
            | (go_at_call 109; refine (HG _).mono ?_; rintro e w3 ⟨rfl, hb3⟩; have HC3 : Hid (Ctx w3 U s x NM t M V c nm (some ⟨b0, off, none⟩) n m ls) := HC2.out.keep hb3; have HV3 : Hid (VarR w3 w.heap.size Rp.z) := HV2.out.mv (Mv.of_below hb3); have HM3 : Hid (Mb vtag U w w3) := HM2.out.trans (Mb.of_below hb3); have c3 := HC3.out.cll.c3; obtain ⟨b3, o3, e3, d3⟩ := HC3.out.word (j := 3) (by have := HD.out.2.2.2; omega); cases e3; rw [HD.out.2.2.1] at d3; clear hb3))
          refine (Int_r st.size w3).mono ?_
          rintro e w5 ⟨rfl, hb5⟩
          have hv5 := HV3.out.mv (Mv.of_below hb5)
          have HV5 : Hid _ := hv5.set (An.int st.size).r
          have HE : Hid _ := Behind.fin (nm := nm) ⟨HM3.out.trans (Mb.of_below hb5), HC3.out.seen.keep hb5⟩ hv5 (An.int st.size) rfl
          obtain ⟨z0, z1, z2, z3⟩ := hv5.cells
          have fz := hv5.free
          simp only [Rp.z] at z0 z1 z2 z3
          simp only [Rp.v]
          clear hb5 hv5
          go_wp2
          exact ret_E (r := (An.int st.size).r) (x := .nilIface) rfl rfl rfl HV5.out HE.out
        · have q0 := lit_no (x := []) hv0 rfl
          rw [if_pos rfl, if_neg hv0]
          clear hv0
          go_enter Tryz.func64, Tryz.ntmps64
          go_wp2_with (first
            | (go_at_call 108; first | rw [hal] | skip; refine (HN _).mono ?_; rintro e w2 ⟨rfl, rfl⟩)
            | (go_at_call 91; refine HT.mono ?_; rintro e w2 ⟨⟨r, rfl⟩, hm2, hS2⟩; have HC2 : Hid (Ctx w2 U s x NM t M V c nm (some ⟨b0, off, none⟩) n m ls) := HC1.out.step hm2 hS2; have HV2 : Hid (VarR w2 w.heap.size Rp.z) := HV1.out.mv hm2.mv; have HM2 : Hid (Mb vtag U w w2) := HM1.out.trans hm2; have c3 := HC2.out.cll.c3; obtain ⟨b3, o3, e3, d3⟩ := HC2.out.word (j := 3) (by have := HD.out.2.2.2; omega); cases e3; rw [HD.out.2.2.1] at d3; clear hm2 hS2)
            | (go_at_call 109; refine (HG _).mono ?_; rintro e w3 ⟨rfl, hb3⟩; have HC3 : Hid (Ctx w3 U s x NM t M V c nm (some ⟨b0, off, none⟩) n m ls) := HC2.out.keep hb3; have HV3 : Hid (VarR w3 w.heap.size Rp.z) := HV2.out.mv (Mv.of_below hb3); have HM3 : Hid (Mb vtag U w w3) := HM2.out.trans (Mb.of_below hb3); have c3 := HC3.out.cll.c3; obtain ⟨b3, o3, e3, d3⟩ := HC3.out.word (j := 3) (by have := HD.out.2.2.2; omega); cases e3; rw [HD.out.2.2.1] at d3; obtain ⟨b4, o4, e4, d1⟩ := HC3.out.word (j := 1) (by have := HD.out.2.2.2; omega); cases e4; rw [HD.out.1] at d1; clear hb3)
            | (go_at_call 110; refine (keep_any HC3.out hv k hk (by omega) st HTx.out).mono ?_; rintro e w4 ⟨rfl, hm4, hS4⟩; have HV4 : Hid (VarR w4 w.heap.size Rp.z) := HV3.out.mv hm4.mv; have HB4 : Hid (Behind w w4 U s x NM t (keepM M k st) (keepV M V k st)) := ⟨HM3.out.trans hm4, hS4⟩; clear hm4 hS4))
          refine (Int_r st.size w4).mono ?_
          rintro e w5 ⟨rfl, hb5⟩
          have hv5 := HV4.out.mv (Mv.of_below hb5)
          have HV5 : Hid _ := hv5.set (An.int st.size).r
          have HE : Hid _ := Behind.fin (nm := nm) ⟨HB4.out.mb.trans (Mb.of_below hb5), HB4.out.seen.keep hb5⟩ hv5 (An.int st.size) rfl
          obtain ⟨z0, z1, z2, z3⟩ := hv5.cells
          have fz := hv5.free
          simp only [Rp.z] at z0 z1 z2 z3
          simp only [Rp.v]
          clear hb5 hv5
          go_wp2
          exact ret_E (r := (An.int st.size).r) (x := .nilIface) rfl rfl rfl HV5.out HE.out
      · rw [if_neg hq0]
        have hdw : (q != 0) = true := by simpa using hq0
        have HW : Hid (¬ q = 0) := hq0
        clear hq0
        go_enter Tryz.func64, Tryz.ntmps64
        go_wp2_with (first
          | (go_at_call 108; first | rw [hal] | skip; refine (HN _).mono ?_; rintro e w2 ⟨rfl, rfl⟩)
          | (go_at_call 91; refine HT.mono ?_; rintro e w2 ⟨⟨r, rfl⟩, hm2, hS2⟩; have HC2 : Hid (Ctx w2 U s x NM t M V c nm (some ⟨b0, off, none⟩) n m ls) := HC1.out.step hm2 hS2; have HV2 : Hid (VarR w2 w.heap.size Rp.z) := HV1.out.mv hm2.mv; have HM2 : Hid (Mb vtag U w w2) := HM1.out.trans hm2; have c3 := HC2.out.cll.c3; obtain ⟨b3, o3, e3, d3⟩ := HC2.out.word (j := 3) (by have := HD.out.2.2.2; omega); cases e3; rw [HD.out.2.2.1] at d3; clear hm2 hS2)
          | (go_at_call 109; refine (HG _).mono ?_; rintro e w3 ⟨rfl, hb3⟩; have HC3 : Hid (Ctx w3 U s x NM t M V c nm (some ⟨b0, off, none⟩) n m ls) := HC2.out.keep hb3; have HV3 : Hid (VarR w3 w.heap.size Rp.z) := HV2.out.mv (Mv.of_below hb3); have HM3 : Hid (Mb vtag U w w3) := HM2.out.trans (Mb.of_below hb3); have HR := refuse_any q HW.out w3 HC3.out.cll; clear hb3))
        refine HR.mono ?_
        rintro e w4 ⟨hb4, E, rfl, hF4⟩
        obtain ⟨b, rfl, -⟩ := hF4.ex
        have hv4 := HV3.out.mv (Mv.of_below hb4)
        have HV4 : Hid _ := hv4.set Rp.z
        have HE : Hid _ := Behind.bad (nm := nm) ⟨HM3.out.trans (Mb.of_below hb4), HC3.out.seen.keep hb4⟩ hv4 HW.out hF4
        obtain ⟨z0, z1, z2, z3⟩ := hv4.cells
        have fz := hv4.free
        simp only [Rp.z] at z0 z1 z2 z3
        simp only [Rp.v, Rp.z]
        clear hb4 hF4 hv4 HR
        go_wp2
        exact ret_E (r := Rp.z) (x := .iface 170 (.pointer (some ⟨b, 0, none⟩))) rfl rfl rfl HV4.out HE.out
end
/-- A bit's place, or a bit, that is told. -/
def bitO (k : ByteArray) (e : Int) : Option Int := match parseL (lst k) with
  | none => none
  | some z => if 0 ≤ z ∧ z < e then some z else none
theorem bitO_in {k : ByteArray} {e z : Int} (h : bitO k e = some z) : 0 ≤ z ∧ z < e := by
  unfold bitO at h
  split at h
  · cases h
  · split at h
    · cases h; assumption
    · cases h
/-- What a text comes to of which a bit is set. -/
def sbP (tx : ByteArray) (i b : Int) : Int × ByteArray × Int := if 0 ≤ i ∧ i < 524288 ∧ 0 ≤ b ∧ b ≤ 1 then (0, Tx.setBitB tx i.toNat b.toNat, ((Tx.bitB tx i : Nat) : Int)) else (10, ⟨#[]⟩, 0)
theorem sbP_R (tx : ByteArray) (i b : Int) : Tx.setBitR tx i b = .tuple #[.string (sbP tx i b).2.1, .int .i64 (sbP tx i b).2.2, .int .i64 (sbP tx i b).1] := by
  unfold Tx.setBitR sbP
  split <;> rfl
theorem sbP_le (tx : ByteArray) (i b : Int) : 0 ≤ (sbP tx i b).2.2 ∧ (sbP tx i b).2.2 ≤ 1 := by
  unfold sbP
  have h := Tx.bitB_le tx i
  split
  · show 0 ≤ ((Tx.bitB tx i : Nat) : Int) ∧ ((Tx.bitB tx i : Nat) : Int) ≤ 1
    omega
  · exact ⟨by decide, by decide⟩
/-- What setbit answers, and leaves. -/
def setBitP (M : AbT) (V : ByteArray → Int) (ls : List ByteArray) : An × AbT × (ByteArray → Int) := match bitO (ls.getD 2 ByteArray.empty) 524288 with
  | none => (An.no 10, M, V)
  | some i => match bitO (ls.getD 3 ByteArray.empty) 2 with
    | none => (An.no 10, M, V)
    | some b => madeP M V (ls.getD 1 ByteArray.empty) (fun tx => sbP tx i b)
section
variable {w w' : World} {U : Own} {s x : Nat} {NM : List ByteArray} {t : Int} {A : Ab} {M M' : AbT} {V V' : ByteArray → Int} {c : Nat} {nm : ByteArray} {a : Option Addr} {n m : Nat} {ls : List ByteArray}
theorem bit_bad (k : ByteArray) (hk : k.size ≤ maxLen) (e : Int) (w : World) (h : Cll w c s t nm a n m) (ho : bitO k e = none) :
    Calls Tryz.prog 111 #[ptr c, .string k, .int .i64 e] w fun e w' => ∃ b z, e = .returned (.tuple #[.int .i64 z, .iface 170 (.pointer (some ⟨b, 0, none⟩))]) ∧ Flt w' (.iface 170 (.pointer (some ⟨b, 0, none⟩))) nm 10 ∧ Below w.heap.size w w' := by
  have HB := because_any 10 (by decide) w h
  have HE : Hid _ := Flt.new w nm 10
  have HBe : Hid _ := newW_below w nm (codeV 10)
  obtain ⟨b, hb⟩ : ∃ b, newE w = .iface 170 (.pointer (some ⟨b, 0, none⟩)) := ⟨_, rfl⟩
  obtain ⟨w2, hw2⟩ : ∃ w2, newW w nm (codeV 10) = w2 := ⟨_, rfl⟩
  rw [hb, hw2] at HB
  rw [hw2] at HBe
  rw [hw2] at HE
  have HE2 : Hid (Flt w2 (.iface 170 (.pointer (some ⟨b, 0, none⟩))) nm 10) := by rw [← hb]; exact HE.out
  cases hz : parseL (lst k) with
  | none =>
    have HP : Calls Tryz.prog 157 #[.string k] w fun e w' => e = .returned (.tuple #[.int .i64 0, .bool false]) ∧ w' = w := Parse_any k w hk _ hz
    clear h ho hb hw2 hz HE
    go_enter Tryz.func111, Tryz.ntmps111
    go_wp2_with (first
      | (go_at_call 157; refine HP.mono ?_; rintro e wx ⟨rfl, rfl⟩)
      | (go_at_call 54; refine HB.mono ?_; rintro e wx ⟨rfl, rfl⟩))
    go_ret2
    exact ⟨_, _, rfl, HE2.out, HBe.out⟩
  | some z =>
    have HP : Calls Tryz.prog 157 #[.string k] w fun e w' => e = .returned (.tuple #[.int .i64 z, .bool true]) ∧ w' = w := Parse_any k w hk _ hz
    have hn : ¬ (0 ≤ z ∧ z < e) := by
      intro h9
      unfold bitO at ho
      rw [hz] at ho
      simp only at ho
      rw [if_pos h9] at ho
      cases ho
    clear h ho hb hw2 hz HE
    by_cases h0 : z < 0
    · clear hn
      go_enter Tryz.func111, Tryz.ntmps111
      go_wp2_with (first
        | (go_at_call 157; refine HP.mono ?_; rintro e wx ⟨rfl, rfl⟩)
        | (go_at_call 54; refine HB.mono ?_; rintro e wx ⟨rfl, rfl⟩))
      go_ret2
      exact ⟨_, _, rfl, HE2.out, HBe.out⟩
    · have h1 : e ≤ z := by omega
      clear hn
      go_enter Tryz.func111, Tryz.ntmps111
      go_wp2_with (first
        | (go_at_call 157; refine HP.mono ?_; rintro e wx ⟨rfl, rfl⟩)
        | (go_at_call 54; refine HB.mono ?_; rintro e wx ⟨rfl, rfl⟩))
      go_ret2
      exact ⟨_, _, rfl, HE2.out, HBe.out⟩
theorem bit_yes (k : ByteArray) (hk : k.size ≤ maxLen) (e z : Int) (w : World) (ho : bitO k e = some z) :
    Calls Tryz.prog 111 #[ptr c, .string k, .int .i64 e] w fun e w' => e = .returned (.tuple #[.int .i64 z, .nilIface]) ∧ w' = w := by
  have hb := bitO_in ho
  have hz : parseL (lst k) = some z := by
    unfold bitO at ho
    split at ho
    · cases ho
    · rename_i y hy
      split at ho
      · cases ho; exact hy
      · cases ho
  have HP : Calls Tryz.prog 157 #[.string k] w fun e w' => e = .returned (.tuple #[.int .i64 z, .bool true]) ∧ w' = w := Parse_any k w hk _ hz
  have h0 : ¬ z < 0 := by omega
  have h1 : ¬ e ≤ z := by omega
  clear ho hz hb
  go_enter Tryz.func111, Tryz.ntmps111
  go_wp2_with (go_at_call 157; refine HP.mono ?_; rintro e wx ⟨rfl, rfl⟩)
  go_ret2
  exact ⟨rfl, rfl⟩
theorem setBit1_any (tx : ByteArray) (hs : tx.size ≤ 65536) (i b : Int) (g1 g2 : Nat) (w : World) (h1 : w.cell? ⟨g1, 0, none⟩ = some (.int .i64 i)) (h2 : w.cell? ⟨g2, 0, none⟩ = some (.int .i64 b)) :
    Calls Tryz.prog 113 #[.string tx, ptr g1, ptr g2] w fun e w' => e = .returned (.tuple #[.string (sbP tx i b).2.1, .int .i64 (sbP tx i b).2.2, .int .i64 (sbP tx i b).1]) ∧ Below w.heap.size w w' := by
  have HG := Tx.SetBit_any tx i b w (by omega)
  have hle := sbP_le tx i b
  rw [sbP_R] at HG
  obtain ⟨q1, hq1⟩ : ∃ q, (sbP tx i b).2.2 = q := ⟨_, rfl⟩
  rw [hq1] at HG hle ⊢
  clear hq1
  go_enter Tryz.func113, Tryz.ntmps113
  go_wp2_with (go_at_call 114; refine HG.mono ?_; rintro e wx ⟨rfl, hb2⟩)
  go_ret3
  exact ⟨rfl, hb2⟩
set_option maxHeartbeats 600000 in
theorem setBit_any (hC : Ctx w U s x NM t M V c nm a n m ls) (hv : Low V) (hS : Small M) (hN : ∀ k ∈ ls, k.size ≤ 4096) (h3 : 3 < n) (hk : ls.getD 1 ByteArray.empty ∈ NM) :
    Calls Tryz.prog 66 #[ptr c] w fun e w' => Says w' nm (setBitP M V ls).1 e ∧ Behind w w' U s x NM t (setBitP M V ls).2.1 (setBitP M V ls).2.2 := by
  obtain ⟨w1, hal, HV1, HM1, HC1⟩ := hC.newR
  have hn : n ≤ 9223372036854775807 := hC.ars.rd.max
  have hlen := hC.ars.rd.len
  have hn3 : (3 : Int) < n := by omega
  have hsz : ∀ j, j < n → (ls.getD j ByteArray.empty).size ≤ 4096 := fun j hj => by
    rw [List.getD_eq_getElem?_getD, List.getElem?_eq_getElem (by omega)]
    exact hN _ (List.getElem_mem _)
  have hl1 := hsz 1 (by omega)
  have hl2 := hsz 2 (by omega)
  have hl3 := hsz 3 (by omega)
  obtain ⟨b0, off, rfl, d1⟩ := HC1.out.word (j := 1) (by omega)
  obtain ⟨b2, o2, e2, d2⟩ := HC1.out.word (j := 2) (by omega)
  cases e2
  have c3 := HC1.out.cll.c3
  have hmf : ∀ (fn : Fn) (first cap : Array Value) (w : World), (Instr.makeFunc fn first cap).run Tryz.prog w = .ok (.func fn first cap) w := fun _ _ _ _ => rfl
  unfold setBitP
  obtain ⟨k, hkk⟩ : ∃ k, ls.getD 1 ByteArray.empty = k := ⟨_, rfl⟩
  obtain ⟨k2, hk2⟩ : ∃ k, ls.getD 2 ByteArray.empty = k := ⟨_, rfl⟩
  obtain ⟨k3, hk3⟩ : ∃ k, ls.getD 3 ByteArray.empty = k := ⟨_, rfl⟩
  rw [hkk] at d1 hk hl1
  rw [hk2] at d2 hl2
  rw [hk3] at hl3
  rw [hkk, hk2, hk3]
  have HD : Hid (ls.getD 1 ByteArray.empty = k ∧ ls.getD 2 ByteArray.empty = k2 ∧ ls.getD 3 ByteArray.empty = k3 ∧ 3 < n) := ⟨hkk, hk2, hk3, h3⟩
  clear hkk hk2 hk3 hsz hN hlen h3
  cases ho : bitO k2 524288 with
  | none =>
    have HN : ∀ e : Int, e = 524288 → _ := fun e he => bit_bad k2 (by unfold maxLen; omega) e w1 HC1.out.cll (by rw [he]; exact ho)
    clear ho hC
    go_enter Tryz.func66, Tryz.ntmps66
    go_wp2_with (go_at_call 111; first | rw [hal] | skip; refine (HN _ (by decide)).mono ?_; rintro e w2 ⟨b, z, rfl, hF2, hb2⟩; obtain ⟨w3, hw3⟩ : ∃ w3, w2.alloc (.cells #[.int .i64 z] 2) = w3 := ⟨_, rfl⟩; have hb3 : Below w2.heap.size w2 w3 := (by rw [← hw3]; exact alloc_below w2 _); have hv3 : VarR w3 w.heap.size Rp.z := (HV1.out.mv (Mv.of_below hb2)).mv (Mv.of_below hb3); have HV3 : Hid _ := hv3.set Rp.z; have HE : Hid _ := Behind.bad (nm := nm) ⟨(HM1.out.trans (Mb.of_below hb2)).trans (Mb.of_below hb3), (HC1.out.seen.keep hb2).keep hb3⟩ hv3 (show ¬ (10 : Int) = 0 by decide) (hF2.keep hb3); obtain ⟨z0, z1, z2, z3⟩ := hv3.cells; have fz := hv3.free; simp only [Rp.z] at z0 z1 z2 z3; clear hb2 hb3 hF2 hv3)
    exact ret_E (x := .iface 170 (.pointer (some ⟨b, 0, none⟩))) rfl rfl rfl HV3.out HE.out
  | some i =>
    have HN : ∀ e : Int, e = 524288 → _ := fun e he => bit_yes (c := c) k2 (by unfold maxLen; omega) e i w1 (by rw [he]; exact ho)
    obtain ⟨w2, hw2⟩ : ∃ w2, w1.alloc (.cells #[.int .i64 i] 2) = w2 := ⟨_, rfl⟩
    have hb2 : Below w1.heap.size w1 w2 := by rw [← hw2]; exact alloc_below w1 _
    have hg2 : w2.heap[w1.heap.size]? = some (.cells #[.int .i64 i] 2 (0, 0)) := by rw [← hw2]; exact heap_alloc_new w1 _
    have HC2 : Hid (Ctx w2 U s x NM t M V c nm (some ⟨b0, off, none⟩) n m ls) := HC1.out.keep hb2
    have HV2 : Hid (VarR w2 w.heap.size Rp.z) := HV1.out.mv (Mv.of_below hb2)
    have HM2 : Hid (Mb vtag U w w2) := HM1.out.trans (Mb.of_below hb2)
    obtain ⟨b3, o3, e3, e2⟩ := HC2.out.word (j := 3) (by have := HD.out.2.2.2; omega)
    cases e3
    rw [HD.out.2.2.1] at e2
    have c32 := HC2.out.cll.c3
    clear ho
    cases ho : bitO k3 2 with
    | none =>
      have HN2 : ∀ e : Int, e = 2 → _ := fun e he => bit_bad k3 (by unfold maxLen; omega) e w2 HC2.out.cll (by rw [he]; exact ho)
      clear ho hC hb2 hg2
      simp only
      go_enter Tryz.func66, Tryz.ntmps66
      go_wp2_with fail
      first | rw [hal] | skip
      refine (HN _ (by decide)).mono ?_
      rintro e wx ⟨rfl, rfl⟩
      go_wp2_with fail
      refine (HN2 _ (by decide)).mono ?_
      rintro e w3 ⟨b, z, rfl, hF3, hb3⟩
      obtain ⟨w4, hw4⟩ : ∃ w4, w3.alloc (.cells #[.int .i64 z] 2) = w4 := ⟨_, rfl⟩
      have hb4 : Below w3.heap.size w3 w4 := (by rw [← hw4]; exact alloc_below w3 _)
      have hv4 : VarR w4 w.heap.size Rp.z := (HV2.out.mv (Mv.of_below hb3)).mv (Mv.of_below hb4)
      have HV4 : Hid _ := hv4.set Rp.z
      have HE : Hid _ := Behind.bad (nm := nm) ⟨(HM2.out.trans (Mb.of_below hb3)).trans (Mb.of_below hb4), (HC2.out.seen.keep hb3).keep hb4⟩ hv4 (show ¬ (10 : Int) = 0 by decide) (hF3.keep hb4)
      obtain ⟨z0, z1, z2, z3⟩ := hv4.cells
      have fz := hv4.free
      simp only [Rp.z] at z0 z1 z2 z3
      clear hb3 hb4 hF3 hv4
      clear HN HN2
      go_wp2
      exact ret_E (x := .iface 170 (.pointer (some ⟨b, 0, none⟩))) rfl rfl rfl HV4.out HE.out
    | some b =>
      have HN2 : ∀ e : Int, e = 2 → _ := fun e he => bit_yes (c := c) k3 (by unfold maxLen; omega) e b w2 (by rw [he]; exact ho)
      obtain ⟨w3, hw3⟩ : ∃ w3, w2.alloc (.cells #[.int .i64 b] 2) = w3 := ⟨_, rfl⟩
      have hb3 : Below w2.heap.size w2 w3 := by rw [← hw3]; exact alloc_below w2 _
      have hg3 : w3.heap[w2.heap.size]? = some (.cells #[.int .i64 b] 2 (0, 0)) := by rw [← hw3]; exact heap_alloc_new w2 _
      have hg23 : w3.heap[w1.heap.size]? = some (.cells #[.int .i64 i] 2 (0, 0)) := by rw [hb3.block _ (Array.getElem?_eq_some_iff.1 hg2).1]; exact hg2
      have HC3 : Hid (Ctx w3 U s x NM t M V c nm (some ⟨b0, off, none⟩) n m ls) := HC2.out.keep hb3
      have HV3 : Hid (VarR w3 w.heap.size Rp.z) := HV2.out.mv (Mv.of_below hb3)
      have HM3 : Hid (Mb vtag U w w3) := HM2.out.trans (Mb.of_below hb3)
      obtain ⟨b4, o4, e4, f1⟩ := HC3.out.word (j := 1) (by have := HD.out.2.2.2; omega)
      cases e4
      rw [HD.out.1] at f1
      have c33 := HC3.out.cll.c3
      have HCh := change_f HC3.out hv k hk hl1 113 (.inr (.inr rfl)) #[ptr w1.heap.size, ptr w2.heap.size] (fun tx => sbP tx i b) (fun tx ho wx hm => setBit1_any tx (hS.txt ho) i b w1.heap.size w2.heap.size wx (by simp [World.cell?, hm.mv.block _ _ _ hg23 (by decide), hg23]) (by simp [World.cell?, hm.mv.block _ _ _ hg3 (by decide), hg3]))
      clear ho hC hb2 hg2 hb3 hg3 hg23
      simp only
      go_enter Tryz.func66, Tryz.ntmps66
      go_wp2_with fail
      first | rw [hal] | skip
      refine (HN _ (by decide)).mono ?_
      rintro e wx ⟨rfl, rfl⟩
      go_wp2_with fail
      refine (HN2 _ (by decide)).mono ?_
      rintro e wx ⟨rfl, rfl⟩
      go_wp2_with fail
      refine HCh.mono ?_
      rintro e w4 ⟨hA4, hB4⟩
      have hv4 := HV3.out.mv hB4.mb.mv
      obtain ⟨x', r, rfl, hA5⟩ := hA4.again hv4
      have HE : Hid _ := And.intro hA5 (Behind.set4 ⟨HM3.out.trans hB4.mb, hB4.seen⟩ hv4 r)
      have HV4 : Hid _ := hv4.set r
      obtain ⟨z0, z1, z2, z3⟩ := hv4.cells
      have fz := hv4.free
      simp only [Rp.z] at z0 z1 z2 z3
      simp only [Rp.v]
      clear hA4 hA5 hB4 hv4 HCh
      go_wp2
      exact ret_E (r := r) (x := x') rfl rfl rfl HV4.out HE.out
end
end Go.Proofs.YtnajhjmdpaeelaaGreatDoor.Sq
namespace Go.Proofs.YtnajhjmdpaeelaaGreatDoor.Sq
open Go.RowKit Go.PlainAid
open Dk (ptr below_drewN alloc_below step_below add_flat OwnR OwnP OwnS Mv pcells Elt elt_of)
open Cy (RdS whyP cP nameP cmdP takesB longB)
abbrev appN : ByteArray := ⟨#[97, 112, 112, 101, 110, 100]⟩
abbrev srgN : ByteArray := ⟨#[115, 101, 116, 114, 97, 110, 103, 101]⟩
abbrev sbtN : ByteArray := ⟨#[115, 101, 116, 98, 105, 116]⟩
abbrev dbyN : ByteArray := ⟨#[100, 101, 99, 114, 98, 121]⟩
section
variable {w w' : World} {U : Own} {s x : Nat} {NM : List ByteArray} {t : Int} {A : Ab} {M M' : AbT} {V V' : ByteArray → Int} {c : Nat} {nm : ByteArray} {a : Option Addr} {n m : Nat} {ls : List ByteArray}
theorem Do_append (hS : Seen w U s x NM t M V) (hA : Wds w a n m ls NM) (hL : Laid w) (h0 : ¬ U 0) (hv : Vle V 900000) (hSm : Small M) (d : Nat) (hc : cmdP ls = some ⟨appN, 3, 3, true, 1⟩) (hn : n = 3) (hl : longB ls = false) (hk : ls.getD 1 noB ∈ NM) :
    Calls Tryz.prog 9 #[ptr s, .int .i64 t, .int .u64 d, .slice a n m] w fun e w' => Says w' appN (lenP M V ls).1 e ∧ Behind w w' U s x NM t (lenP M V ls).2.1 (lenP M V ls).2.2 := by
  have hlen := hA.ars.rd.len
  obtain ⟨h1, h2⟩ := why_of hc (by rw [hlen, hn]; decide) hl
  exact Do_ok hS hA.ars hL h0 d 3 3 true h1 h2 (lenP M V ls).1 (fun wx c hC hb => do_append hC rfl _ (fun wy hCy hbl => lengthen_any hCy (hv.low (by decide)) hSm hA.sz (by omega) hk))
theorem Do_setrange (hS : Seen w U s x NM t M V) (hA : Wds w a n m ls NM) (hL : Laid w) (h0 : ¬ U 0) (hv : Vle V 900000) (hSm : Small M) (d : Nat) (hc : cmdP ls = some ⟨srgN, 4, 4, true, 1⟩) (hn : n = 4) (hl : longB ls = false) (hk : ls.getD 1 noB ∈ NM) :
    Calls Tryz.prog 9 #[ptr s, .int .i64 t, .int .u64 d, .slice a n m] w fun e w' => Says w' srgN (setRP M V ls).1 e ∧ Behind w w' U s x NM t (setRP M V ls).2.1 (setRP M V ls).2.2 := by
  have hlen := hA.ars.rd.len
  obtain ⟨h1, h2⟩ := why_of hc (by rw [hlen, hn]; decide) hl
  exact Do_ok hS hA.ars hL h0 d 4 4 true h1 h2 (setRP M V ls).1 (fun wx c hC hb => do_setrange hC rfl _ (fun wy hCy hbl => setRange_any hCy (hv.low (by decide)) hSm hA.sz (by omega) hk))
theorem Do_setbit (hS : Seen w U s x NM t M V) (hA : Wds w a n m ls NM) (hL : Laid w) (h0 : ¬ U 0) (hv : Vle V 900000) (hSm : Small M) (d : Nat) (hc : cmdP ls = some ⟨sbtN, 4, 4, true, 1⟩) (hn : n = 4) (hl : longB ls = false) (hk : ls.getD 1 noB ∈ NM) :
    Calls Tryz.prog 9 #[ptr s, .int .i64 t, .int .u64 d, .slice a n m] w fun e w' => Says w' sbtN (setBitP M V ls).1 e ∧ Behind w w' U s x NM t (setBitP M V ls).2.1 (setBitP M V ls).2.2 := by
  have hlen := hA.ars.rd.len
  obtain ⟨h1, h2⟩ := why_of hc (by rw [hlen, hn]; decide) hl
  exact Do_ok hS hA.ars hL h0 d 4 4 true h1 h2 (setBitP M V ls).1 (fun wx c hC hb => do_setbit hC rfl _ (fun wy hCy hbl => setBit_any hCy (hv.low (by decide)) hSm hA.sz (by omega) hk))
theorem Do_decrby (hS : Seen w U s x NM t M V) (hA : Wds w a n m ls NM) (hL : Laid w) (h0 : ¬ U 0) (hv : Vle V 900000) (hSm : Small M) (d : Nat) (hc : cmdP ls = some ⟨dbyN, 3, 3, true, 1⟩) (hn : n = 3) (hl : longB ls = false) (hk : ls.getD 1 noB ∈ NM) :
    Calls Tryz.prog 9 #[ptr s, .int .i64 t, .int .u64 d, .slice a n m] w fun e w' => Says w' dbyN (countP M V ls true).1 e ∧ Behind w w' U s x NM t (countP M V ls true).2.1 (countP M V ls true).2.2 := by
  have hlen := hA.ars.rd.len
  obtain ⟨h1, h2⟩ := why_of hc (by rw [hlen, hn]; decide) hl
  exact Do_ok hS hA.ars hL h0 d 3 3 true h1 h2 (countP M V ls true).1 (fun wx c hC hb => do_decrby hC rfl _ (fun wy hCy hbl => count_any hCy (hv.low (by decide)) hSm hA.sz (by omega) hk true))
end
/-- The six commands of StrsKeeps, and what they make of "5". -/
def kpL : Nat → List ByteArray
  | 0 => [⟨#[105, 110, 99, 114]⟩, ⟨#[107]⟩]
  | 1 => [⟨#[97, 112, 112, 101, 110, 100]⟩, ⟨#[107]⟩, ⟨#[49]⟩]
  | 2 => [⟨#[115, 101, 116, 114, 97, 110, 103, 101]⟩, ⟨#[107]⟩, ⟨#[48]⟩, ⟨#[55]⟩]
  | 3 => [⟨#[115, 101, 116, 98, 105, 116]⟩, ⟨#[107]⟩, ⟨#[51]⟩, ⟨#[49]⟩]
  | 4 => [⟨#[100, 101, 99, 114, 98, 121]⟩, ⟨#[107]⟩, ⟨#[50]⟩]
  | _ => [⟨#[115, 101, 116]⟩, ⟨#[107]⟩, ⟨#[120]⟩, ⟨#[75, 69, 69, 80, 84, 84, 76]⟩]
theorem kp0 : cmdP (kpL 0) = some ⟨incrN, 2, 2, true, 1⟩ := by kernel_rfl
theorem kp1 : cmdP (kpL 1) = some ⟨appN, 3, 3, true, 1⟩ := by kernel_rfl
theorem kp2 : cmdP (kpL 2) = some ⟨srgN, 4, 4, true, 1⟩ := by kernel_rfl
theorem kp3 : cmdP (kpL 3) = some ⟨sbtN, 4, 4, true, 1⟩ := by kernel_rfl
theorem kp4 : cmdP (kpL 4) = some ⟨dbyN, 3, 3, true, 1⟩ := by kernel_rfl
theorem kp5 : cmdP (kpL 5) = some ⟨setN, 3, 8, true, 1⟩ := by kernel_rfl
end Go.Proofs.YtnajhjmdpaeelaaGreatDoor.Sq
namespace Go.Proofs.YtnajhjmdpaeelaaGreatDoor.Sq
open Go.RowKit Go.PlainAid
open Dk (ptr below_drewN alloc_below step_below add_flat OwnR OwnP Mv pcells Elt elt_of)
open Cy (RdS OwnS whyP cP nameP cmdP takesB longB)
/-- What each comes to. -/
def kpP (M : AbT) (V : ByteArray → Int) : Nat → An × AbT × (ByteArray → Int)
  | 0 => countP M V (kpL 0) false
  | 1 => lenP M V (kpL 1)
  | 2 => setRP M V (kpL 2)
  | 3 => setBitP M V (kpL 3)
  | 4 => countP M V (kpL 4) true
  | _ => setP M V 0 (kpL 5)
/-- It went well, the end is as it was. -/
structure Kp (q : An × AbT × (ByteArray → Int)) (n b : Int) : Prop where
  ok : q.1.code = 0
  fin : endOf (q.2.1 kB) = some n
  vle : Vle q.2.2 b
section
variable {M : AbT} {V : ByteArray → Int} {n b : Int}
theorem keepM_end (k tx : ByteArray) {d : Kt} {u : Option Int} (h : M k = some (d, u)) : endOf (keepM M k tx k) = u := by
  unfold keepM
  rw [h]
  simp only
  rw [setA_at]
  rfl
theorem made_kp (hM : M kB = some ((1, ⟨#[53]⟩), some n)) (hV : Vle V b) (f : ByteArray → Int × ByteArray × Int) (hf : (f ⟨#[53]⟩).1 = 0) : Kp (madeP M V kB f) n (b + 1) := by
  have h : txtO (M kB) = some ⟨#[53]⟩ := by rw [hM]; rfl
  refine ⟨?_, ?_, hV.made _ _⟩
  · unfold madeP
    rw [h]
    simp only [hf, if_true]
    first | rfl | skip
  · unfold madeP
    rw [h]
    simp only [hf, if_true]
    exact keepM_end kB _ hM
theorem Kp.mono {q : An × AbT × (ByteArray → Int)} (h : Kp q n b) : Kp q n (b + 1) := ⟨h.ok, h.fin, h.vle.mono (by omega)⟩
theorem kp_P (hM : M kB = some ((1, ⟨#[53]⟩), some n)) (hV : Vle V b) (j : Nat) (hj : j < 6) : Kp (kpP M V j) n (b + 1 + 1) := by
  have h : txtO (M kB) = some ⟨#[53]⟩ := by rw [hM]; rfl
  rcases (by omega : j = 0 ∨ j = 1 ∨ j = 2 ∨ j = 3 ∨ j = 4 ∨ j = 5) with rfl | rfl | rfl | rfl | rfl | rfl
  · have h1 : stepP (kpL 0) false = (0, 1) := by kernel_rfl
    show Kp (countP M V (kpL 0) false) n (b + 1 + 1)
    unfold countP
    rw [h1, if_pos rfl]
    exact (made_kp hM hV _ (by kernel_rfl)).mono
  · exact (made_kp hM hV _ (by kernel_rfl)).mono
  · have h1 : parseL (lst (kpL 2 |>.getD 2 ByteArray.empty)) = some 0 := by kernel_rfl
    have h2 : srP ⟨#[53]⟩ 0 ⟨#[55]⟩ = (0, ⟨#[55]⟩) := by kernel_rfl
    have h3 : setRP M V (kpL 2) = (An.int 1, keepM M kB ⟨#[55]⟩, keepV M V kB ⟨#[55]⟩) := by
      unfold setRP
      rw [h1]
      show (match txtO (M kB) with
        | none => (An.no 4, M, V)
        | some tx => _) = _
      rw [h]
      show (if (srP ⟨#[53]⟩ 0 ⟨#[55]⟩).1 = 0 then _ else _) = _
      rw [h2]
      rfl
    show Kp (setRP M V (kpL 2)) n (b + 1 + 1)
    rw [h3]
    exact ⟨rfl, keepM_end kB _ hM, (hV.keep _ _).mono (by omega)⟩
  · have h1 : bitO (kpL 3 |>.getD 2 ByteArray.empty) 524288 = some 3 := by kernel_rfl
    have h2 : bitO (kpL 3 |>.getD 3 ByteArray.empty) 2 = some 1 := by kernel_rfl
    show Kp (setBitP M V (kpL 3)) n (b + 1 + 1)
    unfold setBitP
    rw [h1]
    simp only
    rw [h2]
    exact (made_kp hM hV _ (by kernel_rfl)).mono
  · have h1 : stepP (kpL 4) true = (0, -2) := by kernel_rfl
    show Kp (countP M V (kpL 4) true) n (b + 1 + 1)
    unfold countP
    rw [h1, if_pos rfl]
    exact (made_kp hM hV _ (by kernel_rfl)).mono
  · have h1 : rdO ((kpL 5).drop 3) Opt.z = some ⟨noB, noB, keepB, noB⟩ := by kernel_rfl
    have ht : timeP ⟨noB, noB, keepB, noB⟩ (endOf (M kB)) 0 = (0, some n) := by
      rw [hM]
      unfold timeP
      rw [if_neg (by decide), if_pos rfl]
      rfl
    have h2 := setP_rest (M := M) (V := V) (t := 0) (k := kB) h1 rfl (by rw [ht]) (.inl rfl)
    rw [ht, if_neg (fun h => absurd rfl h.1)] at h2
    show Kp (setP M V 0 (kpL 5)) n (b + 1 + 1)
    rw [h2]
    refine ⟨rfl, ?_, (hV.inc _).inc _⟩
    show endOf (setA M kB _ kB) = _
    rw [setA_at]
    rfl
/-- Do of each of the six. -/
theorem Do_kp {w : World} {U : Own} {s x : Nat} {a : Option Addr} {k m : Nat} (j : Nat) (hj : j < 6) (hS : Seen w U s x kNM 0 M V) (hA : Wds w a k m (kpL j) kNM) (hL : Laid w) (h0 : ¬ U 0) (hv : Vle V b) (hb : b ≤ 900000) (hSm : Small M) (hM : M kB = some ((1, ⟨#[53]⟩), some n)) :
    Calls Tryz.prog 9 #[ptr s, .int .i64 0, .int .u64 0, .slice a k m] w fun e w' => ∃ (q : An) (M2 : AbT) (V2 : ByteArray → Int), e = .returned (.tuple #[q.r.v, .nilIface]) ∧ Behind w w' U s x kNM 0 M2 V2 ∧ endOf (M2 kB) = some n ∧ Vle V2 (b + 1 + 1) := by
  have hK := kp_P hM hv j hj
  have hv9 : Vle V 900000 := hv.mono hb
  have hlen := hA.ars.rd.len
  have key : ∀ (nm : ByteArray), (Calls Tryz.prog 9 #[ptr s, .int .i64 0, .int .u64 0, .slice a k m] w fun e w' => Says w' nm (kpP M V j).1 e ∧ Behind w w' U s x kNM 0 (kpP M V j).2.1 (kpP M V j).2.2) → Calls Tryz.prog 9 #[ptr s, .int .i64 0, .int .u64 0, .slice a k m] w fun e w' => ∃ (q : An) (M2 : AbT) (V2 : ByteArray → Int), e = .returned (.tuple #[q.r.v, .nilIface]) ∧ Behind w w' U s x kNM 0 M2 V2 ∧ endOf (M2 kB) = some n ∧ Vle V2 (b + 1 + 1) := fun nm h => h.mono (by
    rintro e w' ⟨h1, h2⟩
    exact ⟨_, _, _, h1.ok hK.ok, h2, hK.fin, hK.vle⟩)
  have hm : kB ∈ kNM := List.mem_cons_self ..
  rcases (by omega : j = 0 ∨ j = 1 ∨ j = 2 ∨ j = 3 ∨ j = 4 ∨ j = 5) with rfl | rfl | rfl | rfl | rfl | rfl
  · exact key _ (Do_incr hS hA hL h0 hv9 hSm 0 kp0 (by rw [← hlen]; rfl) (by kernel_rfl) hm)
  · exact key _ (Do_append hS hA hL h0 hv9 hSm 0 kp1 (by rw [← hlen]; rfl) (by kernel_rfl) hm)
  · exact key _ (Do_setrange hS hA hL h0 hv9 hSm 0 kp2 (by rw [← hlen]; rfl) (by kernel_rfl) hm)
  · exact key _ (Do_setbit hS hA hL h0 hv9 hSm 0 kp3 (by rw [← hlen]; rfl) (by kernel_rfl) hm)
  · exact key _ (Do_decrby hS hA hL h0 hv9 hSm 0 kp4 (by rw [← hlen]; rfl) (by kernel_rfl) hm)
  · exact key _ (Do_set hS hA hL h0 hv9 0 ⟨by decide, by decide⟩ kp5 (by rw [← hlen]; decide) (by kernel_rfl) hm)
theorem kp_sz (j : Nat) (hj : j < 6) : (∀ k ∈ kpL j, k.size ≤ 4096) ∧ (kpL j).length ≤ 4 := by
  rcases (by omega : j = 0 ∨ j = 1 ∨ j = 2 ∨ j = 3 ∨ j = 4 ∨ j = 5) with rfl | rfl | rfl | rfl | rfl | rfl <;> decide
end
theorem WithinK (n lo hi : Int) (w : World) (h0 : lo ≤ hi) (h1 : hi ≤ 2000000) (h2 : -2000000 ≤ lo) :
    Calls Tryz.prog 15 #[.int .i64 n, .int .i64 lo, .int .i64 hi] w fun e w' => w' = w ∧ ∃ z : Int, lo ≤ z ∧ z ≤ hi ∧ e = .returned (.int .i64 z) := by
  obtain ⟨D, hD⟩ : ∃ D, hi - lo = D := ⟨_, rfl⟩
  have hz : (D + 1 == 0) = false := by simp; omega
  have hr0 : n.tmod (D + 1) < D + 1 := Int.tmod_lt_of_pos n (by omega)
  have hr1 : -(D + 1) < n.tmod (D + 1) := Int.lt_tmod_of_pos n (by omega)
  obtain ⟨r, hr⟩ : ∃ r, n.tmod (D + 1) = r := ⟨_, rfl⟩
  rw [hr] at hr0 hr1
  by_cases hn : r < 0
  · obtain ⟨r1, e1⟩ : ∃ r1, r + hi = r1 := ⟨_, rfl⟩
    obtain ⟨r2, e2⟩ : ∃ r2, r1 - lo = r2 := ⟨_, rfl⟩
    go_enter Tryz.func15, Tryz.ntmps15
    go_wp2
    go_ret
    exact ⟨rfl, lo + (r2 + 1), by omega, by omega, rfl⟩
  · go_enter Tryz.func15, Tryz.ntmps15
    go_wp2
    go_ret
    exact ⟨rfl, lo + r, by omega, by omega, rfl⟩
theorem Wds.keep {w w' : World} {a : Option Addr} {n m : Nat} {ls NM : List ByteArray} (h : Wds w a n m ls NM) (hb : Below w.heap.size w w') : Wds w' a n m ls NM := ⟨h.ars.mv (Mv.of_below hb), h.cap, h.few, h.sz⟩
theorem row_kp {w w' : World} (j : Nat) (hj : j < 6) (h : w.alloc (.cells ((kpL j).map Value.string).toArray 9) = w') : Below w.heap.size w w' ∧ Wds w' (some ⟨w.heap.size, 0, none⟩) (kpL j).length (kpL j).length (kpL j) kNM := by
  have h1 := kp_sz j hj
  rw [← h]
  exact ⟨alloc_below w _, Ars.lit w (kpL j) (by omega), Nat.le_refl _, by omega, h1.1⟩
theorem rows_kp {y0 y1 y2 y3 y4 y5 y6 y7 : World}
    (h0 : y0.alloc (.cells #[.string ⟨#[105, 110, 99, 114]⟩, .string ⟨#[107]⟩] 9) = y1)
    (h1 : y1.alloc (.cells #[.string ⟨#[97, 112, 112, 101, 110, 100]⟩, .string ⟨#[107]⟩, .string ⟨#[49]⟩] 9) = y2)
    (h2 : y2.alloc (.cells #[.string ⟨#[115, 101, 116, 114, 97, 110, 103, 101]⟩, .string ⟨#[107]⟩, .string ⟨#[48]⟩, .string ⟨#[55]⟩] 9) = y3)
    (h3 : y3.alloc (.cells #[.string ⟨#[115, 101, 116, 98, 105, 116]⟩, .string ⟨#[107]⟩, .string ⟨#[51]⟩, .string ⟨#[49]⟩] 9) = y4)
    (h4 : y4.alloc (.cells #[.string ⟨#[100, 101, 99, 114, 98, 121]⟩, .string ⟨#[107]⟩, .string ⟨#[50]⟩] 9) = y5)
    (h5 : y5.alloc (.cells #[.string ⟨#[115, 101, 116]⟩, .string ⟨#[107]⟩, .string ⟨#[120]⟩, .string ⟨#[75, 69, 69, 80, 84, 84, 76]⟩] 9) = y6)
    (h6 : y6.alloc (.cells #[.slice (some ⟨y0.heap.size, 0, none⟩) 2 2, .slice (some ⟨y1.heap.size, 0, none⟩) 3 3, .slice (some ⟨y2.heap.size, 0, none⟩) 4 4, .slice (some ⟨y3.heap.size, 0, none⟩) 4 4, .slice (some ⟨y4.heap.size, 0, none⟩) 3 3, .slice (some ⟨y5.heap.size, 0, none⟩) 4 4] 30) = y7) :
    Below y0.heap.size y0 y7 ∧ ∀ j, j < 6 → ∃ a k m, y7.cell? ⟨y6.heap.size, j, none⟩ = some (.slice a k m) ∧ Wds y7 a k m (kpL j) kNM := by
  obtain ⟨b0, A0⟩ := row_kp 0 (by decide) h0
  obtain ⟨b1, A1⟩ := row_kp 1 (by decide) h1
  obtain ⟨b2, A2⟩ := row_kp 2 (by decide) h2
  obtain ⟨b3, A3⟩ := row_kp 3 (by decide) h3
  obtain ⟨b4, A4⟩ := row_kp 4 (by decide) h4
  obtain ⟨b5, A5⟩ := row_kp 5 (by decide) h5
  have b6 : Below y6.heap.size y6 y7 := by rw [← h6]; exact alloc_below y6 _
  have c6 : y7.heap[y6.heap.size]? = some (.cells #[.slice (some ⟨y0.heap.size, 0, none⟩) 2 2, .slice (some ⟨y1.heap.size, 0, none⟩) 3 3, .slice (some ⟨y2.heap.size, 0, none⟩) 4 4, .slice (some ⟨y3.heap.size, 0, none⟩) 4 4, .slice (some ⟨y4.heap.size, 0, none⟩) 3 3, .slice (some ⟨y5.heap.size, 0, none⟩) 4 4] 30 (0, 0)) := by rw [← h6]; exact heap_alloc_new y6 _
  have d6 := b6
  have d5 : Below y5.heap.size y5 y7 := b5.trans (d6.mono b5.size)
  have d4 : Below y4.heap.size y4 y7 := b4.trans (d5.mono b4.size)
  have d3 : Below y3.heap.size y3 y7 := b3.trans (d4.mono b3.size)
  have d2 : Below y2.heap.size y2 y7 := b2.trans (d3.mono b2.size)
  have d1 : Below y1.heap.size y1 y7 := b1.trans (d2.mono b1.size)
  have d0 : Below y0.heap.size y0 y7 := b0.trans (d1.mono b0.size)
  refine ⟨d0, fun j hj => ?_⟩
  have hc : ∀ i v, (#[.slice (some ⟨y0.heap.size, 0, none⟩) 2 2, .slice (some ⟨y1.heap.size, 0, none⟩) 3 3, .slice (some ⟨y2.heap.size, 0, none⟩) 4 4, .slice (some ⟨y3.heap.size, 0, none⟩) 4 4, .slice (some ⟨y4.heap.size, 0, none⟩) 3 3, .slice (some ⟨y5.heap.size, 0, none⟩) 4 4] : Array Value)[i]? = some v → y7.cell? ⟨y6.heap.size, i, none⟩ = some v := fun i v h => by
    unfold World.cell?
    rw [c6]
    exact h
  rcases (by omega : j = 0 ∨ j = 1 ∨ j = 2 ∨ j = 3 ∨ j = 4 ∨ j = 5) with rfl | rfl | rfl | rfl | rfl | rfl
  · exact ⟨_, _, _, hc 0 _ rfl, A0.keep d1⟩
  · exact ⟨_, _, _, hc 1 _ rfl, A1.keep d2⟩
  · exact ⟨_, _, _, hc 2 _ rfl, A2.keep d3⟩
  · exact ⟨_, _, _, hc 3 _ rfl, A3.keep d4⟩
  · exact ⟨_, _, _, hc 4 _ rfl, A4.keep d5⟩
  · exact ⟨_, _, _, hc 5 _ rfl, A5.keep d6⟩
end Go.Proofs.YtnajhjmdpaeelaaGreatDoor.Sq
