/-
  The law EntryNumbers, walked.
-/
import Derived.Test.YtdlnodedikiamaaRoom
import Derived.Test.YtdlnodedikiamaaTells
namespace Go.Proofs.Ytdlnodedikiamaa
open Go.RowKit Go.PlainAid

/-- The texts of the closed sentence, by their places. -/
def textAt (j : Nat) : ByteArray := [⟨#[]⟩, ⟨#[48]⟩, ⟨#[49, 50, 55]⟩, ⟨#[49, 50, 56]⟩, ⟨#[45, 49]⟩, ⟨#[45, 48]⟩, ⟨#[48, 48]⟩, ⟨#[57, 50, 50, 51, 51, 55, 50, 48, 51, 54, 56, 53, 52, 55, 55, 53, 56, 48, 55]⟩, ⟨#[45, 57, 50, 50, 51, 51, 55, 50, 48, 51, 54, 56, 53, 52, 55, 55, 53, 56, 48, 56]⟩, ⟨#[97]⟩].getD j ⟨#[]⟩
theorem size_textAt (j : Nat) (h : j < 10) : (textAt j).size ≤ 30 := by
  have : ∀ j : Fin 10, (textAt j.1).size ≤ 30 := by decide
  exact this ⟨j, h⟩
/-- The lengths, by their places. -/
def lenAt (j : Nat) : Nat := [62, 63, 64, 124, 125, 126, 127, 128, 129, 4095, 4096, 4097].getD j 0
theorem lenAt_in (j : Nat) (h : j < 12) : 62 ≤ lenAt j ∧ lenAt j ≤ 4097 := by
  have : ∀ j : Fin 12, 62 ≤ lenAt j.1 ∧ lenAt j.1 ≤ 4097 := by decide
  exact this ⟨j, h⟩
/-- The five texts of the pack. -/
def fiveL : List ByteArray := [⟨#[53]⟩, ⟨#[97, 98]⟩, ⟨#[45, 55, 55]⟩, ⟨#[]⟩, ⟨#[104, 101, 108, 108, 111, 32, 116, 104, 101, 114, 101]⟩]

structure Tx (w wr : World) : Prop where
  below : Below w.heap.size w wr
  cell : ∀ j, j < 10 → wr.cell? ⟨w.heap.size, j, none⟩ = some (.string (textAt j))
theorem Tx.keep {w wr wn : World} (h : Tx w wr) (hb : Below wr.heap.size wr wn) : Tx w wn where
  below := h.below.trans (hb.mono h.below.size)
  cell j hj := by rw [hb.cell (p := ⟨w.heap.size, j, none⟩) (World.block_lt_of_cell? _ _ (h.cell j hj))]; exact h.cell j hj
structure Nx (w wr : World) (B : Nat) : Prop where
  below : Below w.heap.size w wr
  cell : ∀ j, j < 12 → wr.cell? ⟨B, j, none⟩ = some (.int .i64 (lenAt j : Nat))
theorem Nx.keep {w wr wn : World} {B : Nat} (h : Nx w wr B) (hb : Below wr.heap.size wr wn) : Nx w wn B where
  below := h.below.trans (hb.mono h.below.size)
  cell j hj := by rw [hb.cell (p := ⟨B, j, none⟩) (World.block_lt_of_cell? _ _ (h.cell j hj))]; exact h.cell j hj

/-- Letters, one after the other. -/
def abc (n : Nat) : List UInt8 := (List.range n).map fun i => UInt8.ofNat (97 + i % 26)
theorem abc_len (n : Nat) : (abc n).length = n := by simp [abc]
def abcV (k : Nat) : Nat → Value := fun j => if j < k then .int .u8 (97 + (j : Int) % 26) else .int .u8 0
theorem abc_get (n j : Nat) (hj : j < n) : abcV n j = .int .u8 (((abc n).getD j 0).toNat : Nat) := by
  unfold abcV abc
  rw [if_pos hj, List.getD_eq_getElem?_getD, List.getElem?_map, List.getElem?_range hj]
  show _ = Value.int .u8 ((UInt8.ofNat (97 + j % 26)).toNat : Nat)
  rw [nat_ofNat (by omega)]
  congr 1
theorem abc_step (k j : Nat) : (if j = k then Value.int .u8 (97 + (k : Int) % 26) else abcV k j) = abcV (k + 1) j := by
  unfold abcV
  by_cases h : j = k
  · subst h; rw [if_pos rfl, if_pos (by omega)]
  · rw [if_neg h]
    by_cases h2 : j < k
    · rw [if_pos h2, if_pos (by omega)]
    · rw [if_neg h2, if_neg (by omega)]

set_option maxRecDepth 100000 in
set_option maxHeartbeats 16000000 in
theorem numbers_any (w : World) : Calls Try.prog 3 #[] w fun e w' => e = .returned (.bool true) ∧ Below w.heap.size w w' := by
  go_enter Try.func3, Try.ntmps3
  go_wp2
  go_loopg [12] 10 (fun g i wr => ∃ k : Nat, k + g = 10 ∧ i = .int .i64 k ∧ Hid (Tx w wr))
  case atStart =>
    refine ⟨0, rfl, rfl, (Below.refl _ _).alloc (Nat.le_refl _) _, fun j hj => ?_⟩
    rcases j with _|_|_|_|_|_|_|_|_|_|j
    all_goals first | omega | (simp; rfl)
  case round =>
    obtain ⟨k, hk, rfl, H⟩ := hrel
    by_cases hlt : k < 10
    · have hc := H.out.cell k hlt
      have HZ : Hid ((textAt k).size ≤ maxLen) := by
        show _ ≤ _
        have := size_textAt k hlt; unfold maxLen; omega
      generalize textAt k = t at hc HZ
      go_wp2_with fail
      refine (writes_all t _ HZ.out).mono ?_
      rintro e w1 ⟨hb, rfl⟩
      have H1 : Hid (Tx w w1) := H.out.keep hb
      clear hb
      go_wp2
      go_roundg (gk - 1)
      case measure => omega
      case rel => exact ⟨k + 1, by omega, by go_num, H1⟩
    · have HB : Hid (Below w.heap.size w wr) := H.out.below
      obtain ⟨wa, hwa⟩ : ∃ wa, wa = wr := ⟨_, rfl⟩
      subst hwa
      clear H hk
      go_wp2
      go_loopg [22] 12 (fun g i wr => ∃ k : Nat, k + g = 12 ∧ i = .int .i64 k ∧ Hid (Nx w wr wa.heap.size))
      case atStart =>
        refine ⟨0, rfl, rfl, HB.out.alloc HB.out.size _, fun j hj => ?_⟩
        rcases j with _|_|_|_|_|_|_|_|_|_|_|_|j
        all_goals first | omega | (simp; rfl)
      case round =>
        obtain ⟨i, hi, rfl, H⟩ := hrel
        obtain ⟨wb, hwb⟩ : ∃ wb, wb = wr := ⟨_, rfl⟩
        subst hwb
        obtain ⟨gb, hgb⟩ : ∃ gb, gb = gk := ⟨_, rfl⟩
        subst hgb
        by_cases hi8 : i < 12
        · have hc0 := H.out.cell i hi8
          have hin := lenAt_in i hi8
          generalize lenAt i = n at hc0 hin
          have hmk := run_make_row' (P := Try.prog) 25 5 (.int .u8 0) 1 Try.underlying25 Try.info5 rfl .i64 .i64 n (by omega) (by omega)
          obtain ⟨wf, hwf⟩ : ∃ wf, wb.alloc (.cells (madeCells #[.int .u8 0] n) 5) = wf := ⟨_, rfl⟩
          obtain ⟨g, hg⟩ : ∃ g, wb.heap.size = g := ⟨_, rfl⟩
          have HGw : Hid (wb.heap.size = g) := hg
          have HR0 : Hid (wf.rowIs g 5 n (abcV 0)) := by
            show World.rowIs _ _ _ _ _
            rw [← hwf, ← hg]
            exact (World.rowIs_made wb (.int .u8 0) n 5).congr (fun j _ => by unfold abcV; rw [if_neg (by omega)])
          have HB0 : Hid (Below g wb wf) := by show Below _ _ _; rw [← hwf, ← hg]; exact alloc_below wb _
          generalize wa.heap.size = B at *
          go_wp2
          go_loopg [6] n (fun q iv wr => ∃ k : Nat, k + q = n ∧ iv = .int .i64 k ∧ Hid (wr.rowIs g 5 n (abcV k)) ∧ Hid (Below g wb wr))
          case atStart => exact ⟨0, by omega, rfl, HR0, HB0⟩
          case round =>
            obtain ⟨k, hk, rfl, HW, HBk⟩ := hrel
            by_cases h8 : (k : Int) < n
            · have hc := HW.out.cell (i := k) (by omega)
              have hf := HW.out.frozen k
              generalize abcV k k = v at hc
              obtain ⟨K, hK⟩ : ∃ K : Int, (k : Int) = K := ⟨_, rfl⟩
              have HN : Hid ((wr.setCell ⟨g, k, none⟩ (.int .u8 (97 + K % 26))).rowIs g 5 n (abcV (k + 1))) := by
                show World.rowIs _ _ _ _ _
                rw [← hK]
                exact (HW.out.set k (.int .u8 (97 + (k : Int) % 26))).congr fun j hj => abc_step k j
              have HBn : Hid (Below g wb (wr.setCell ⟨g, k, none⟩ (.int .u8 (97 + K % 26)))) := HBk.out.setCell (Nat.le_refl _) _
              have hK0 : 0 ≤ K := by omega
              have hK1 : K < n := by omega
              have hKt : K.toNat = k := by omega
              have HKK : Hid ((k : Int) = K) := hK
              go_wp2
              go_roundg (gk - 1)
              case measure => omega
              case rel => exact ⟨k + 1, by omega, by rw [← HKK.out]; go_num, HN, HBn⟩
            · have hkn : k = n := by omega
              have HRx : Hid (Rd wr (some ⟨g, 0, none⟩) n n (abc n)) := by
                have h := Own.of_row (B := g) (abc n) _ HW.out (fun j hj => by rw [hkn]; exact abc_get n j hj) (abc_len n) (Nat.le_refl _) (by unfold maxLen; omega)
                exact h.rd
              have H1 : Hid (Below wb.heap.size wb wr) := by show Below _ _ _; rw [HGw.out]; exact HBk.out
              have hsz : (bs (abc n)).size = n := abc_len n
              have CE := fun w => refEncode_any (bs (abc n)) w (by omega)
              have CW := fun w => writes_all (bs (abc n)) w (by unfold maxLen; omega)
              have hel := (enc_len (lst (bs (abc n)))).2
              rw [len_lst, hsz] at hel
              have HEL : Hid ((enc (lst (bs (abc n)))).length ≤ 5000) := by show _ ≤ _; omega
              have hT1 := HRx.out.text
              obtain ⟨S, hS⟩ : ∃ S, bs (abc n) = S := ⟨_, rfl⟩
              have HSS : Hid (bs (abc n) = S) := hS
              rw [hS] at CE CW hT1 HEL
              clear hkn hsz hel hS HW HBk hk hmk hwf hg
              go_wp2_with fail
              refine (CE _).mono ?_
              rintro e v1 ⟨hb, ae, ne, ce, rfl, hO⟩
              have G1 := step_below H1 hb
              have HRe : Hid (Rd v1 ae ne ce (enc (lst S))) := hO.rd
              have hne : (ne : Int) ≤ 5000 := by have := hO.len; have := HEL.out; omega
              have hT2 := (HRx.out.keep hb).text
              rw [HSS.out] at hT2
              have CR0 := fun v (e : Rd v ae ne ce (enc (lst S))) => reads_any ae ne ce (enc (lst S)) 0 v e (by decide)
              have CR1 := fun v (e : Rd v ae ne ce (enc (lst S))) => reads_any ae ne ce (enc (lst S)) ne v e (by omega)
              clear hb hO hT1
              go_wp2_with fail
              refine (CW _).mono ?_
              rintro e v2 ⟨hb, rfl⟩
              have G2 := step_below G1 hb
              have HRe2 : Hid (Rd v2 ae ne ce (enc (lst S))) := HRe.out.keep hb
              clear hb
              go_wp2_with fail
              refine (CR0 _ HRe2.out).mono ?_
              rintro e v3 ⟨hb, rfl⟩
              have G3 := step_below G2 hb
              have HRe3 : Hid (Rd v3 ae ne ce (enc (lst S))) := HRe2.out.keep hb
              clear hb
              go_wp2_with fail
              refine (CR1 _ HRe3.out).mono ?_
              rintro e v4 ⟨hb, rfl⟩
              have G4 := step_below G3 hb
              clear hb
              have HN4 : Hid (Nx w v4 B) := H.out.keep G4.out
              clear hT2
              go_wp2
              go_roundg (gb - 1)
              case measure => omega
              case rel => exact ⟨i + 1, by omega, by go_num, HN4⟩
        · have HBw : Hid (Below w.heap.size w wb) := H.out.below
          obtain ⟨g5, hg5⟩ : ∃ g5, wb.heap.size = g5 := ⟨_, rfl⟩
          have HG5 : Hid (wb.heap.size = g5) := hg5
          obtain ⟨w5, hw5⟩ : ∃ w5, wb.alloc (.cells #[.string ⟨#[53]⟩, .string ⟨#[97, 98]⟩, .string ⟨#[45, 55, 55]⟩, .string ⟨#[]⟩, .string ⟨#[104, 101, 108, 108, 111, 32, 116, 104, 101, 114, 101]⟩] 9) = w5 := ⟨_, rfl⟩
          have HR5 : Hid (RdS w5 (some ⟨g5, 0, none⟩) 5 fiveL) := by
            refine RdS.mk rfl (by decide) (fun j hj => ⟨g5, 0, rfl, ?_⟩)
            rw [← hw5, ← hg5]
            rcases j with _|_|_|_|_|j
            all_goals first | omega | (simp; rfl)
          have HB5 : Hid (Below w.heap.size w w5) := by
            show Below _ _ _
            rw [← hw5]; exact HBw.out.alloc HBw.out.size _
          have CB := fun v (e : RdS v (some ⟨g5, 0, none⟩) 5 fiveL) => Bytes_any (some ⟨g5, 0, none⟩) 5 5 fiveL v e (by decide) (by decide)
          have HP : Hid ((pack fiveL).length ≤ 1000) := by
            have := pack_len fiveL 90 (by decide)
            show _ ≤ _
            exact Nat.le_trans this (by decide)
          clear hi H
          go_wp2_with fail
          refine (CB _ HR5.out).mono ?_
          rintro e w6 ⟨hb, ap, np, cp, rfl, hO⟩
          have H6 := step_below HB5 hb
          have HRp : Hid (Rd w6 ap np cp (pack fiveL)) := hO.rd
          have hnp : (np : Int) ≤ 1000 := by have := hO.len; have := HP.out; omega
          clear hb hO CB
          go_wp2
          go_loopg [9] (np + 3) (fun q iv wr => ∃ k : Nat, k + q = np + 3 ∧ iv = .int .i64 ((k : Int) - 1) ∧ Hid (Below w6.heap.size w6 wr))
          case atStart => exact ⟨0, by omega, rfl, Below.refl _ _⟩
          case round =>
            obtain ⟨k, hk, rfl, HC⟩ := hrel
            by_cases h8 : (k : Int) - 1 ≤ np + 1
            · have CR := fun v (e : Rd v ap np cp (pack fiveL)) => reads_any ap np cp (pack fiveL) ((k : Int) - 1) v e (by omega)
              go_wp2_with fail
              refine (CR _ (HRp.out.keep HC.out)).mono ?_
              rintro e v1 ⟨hb, rfl⟩
              have G1 := step_below HC hb
              clear hb CR
              go_wp2
              go_roundg (gk - 1)
              case measure => omega
              case rel => exact ⟨k + 1, by omega, by go_num, G1⟩
            · have G0 : Hid (Below w.heap.size w wr) := H6.out.trans (HC.out.mono H6.out.size)
              clear hk HC HRp HP H6 HB5 HR5 HG5 hw5
              have R0 := fun v : World => (Own.made v [131, 97, 98] v.heap.size 3 rfl (Nat.le_refl _) (by decide)).rd
              replace R0 : ∀ v : World, Rd (v.alloc (.cells #[.int .u8 131, .int .u8 97, .int .u8 98] 5)) (some ⟨v.heap.size, 0, none⟩) 3 3 [131, 97, 98] := R0
              go_wp2_with fail
              refine (reads_any _ 3 3 [131, 97, 98] 0 _ (R0 _) (by decide)).mono ?_
              rintro e x0 ⟨hb, rfl⟩
              have G1 := step_below G0 ((alloc_below _ _).trans (hb.mono (alloc_below _ _).size))
              clear hb R0
              have R1 := fun v : World => (Own.made v [129, 53, 2] v.heap.size 3 rfl (Nat.le_refl _) (by decide)).rd
              replace R1 : ∀ v : World, Rd (v.alloc (.cells #[.int .u8 129, .int .u8 53, .int .u8 2] 5)) (some ⟨v.heap.size, 0, none⟩) 3 3 [129, 53, 2] := R1
              go_wp2_with fail
              refine (reads_any _ 3 3 [129, 53, 2] 0 _ (R1 _) (by decide)).mono ?_
              rintro e x1 ⟨hb, rfl⟩
              have G2 := step_below G1 ((alloc_below _ _).trans (hb.mono (alloc_below _ _).size))
              clear hb R1
              have R2 := fun v : World => (Own.made v [224, 0, 1, 97, 4] v.heap.size 5 rfl (Nat.le_refl _) (by decide)).rd
              replace R2 : ∀ v : World, Rd (v.alloc (.cells #[.int .u8 224, .int .u8 0, .int .u8 1, .int .u8 97, .int .u8 4] 5)) (some ⟨v.heap.size, 0, none⟩) 5 5 [224, 0, 1, 97, 4] := R2
              go_wp2_with fail
              refine (reads_any _ 5 5 [224, 0, 1, 97, 4] 0 _ (R2 _) (by decide)).mono ?_
              rintro e x2 ⟨hb, rfl⟩
              have G3 := step_below G2 ((alloc_below _ _).trans (hb.mono (alloc_below _ _).size))
              clear hb R2
              have R3 := fun v : World => (Own.made v [241, 0, 0, 0, 0, 0, 0, 0, 5, 9] v.heap.size 10 rfl (Nat.le_refl _) (by decide)).rd
              replace R3 : ∀ v : World, Rd (v.alloc (.cells #[.int .u8 241, .int .u8 0, .int .u8 0, .int .u8 0, .int .u8 0, .int .u8 0, .int .u8 0, .int .u8 0, .int .u8 5, .int .u8 9] 5)) (some ⟨v.heap.size, 0, none⟩) 10 10 [241, 0, 0, 0, 0, 0, 0, 0, 5, 9] := R3
              go_wp2_with fail
              refine (reads_any _ 10 10 [241, 0, 0, 0, 0, 0, 0, 0, 5, 9] 0 _ (R3 _) (by decide)).mono ?_
              rintro e x3 ⟨hb, rfl⟩
              have G4 := step_below G3 ((alloc_below _ _).trans (hb.mono (alloc_below _ _).size))
              clear hb R3
              have R4 := fun v : World => (Own.made v [197, 1] v.heap.size 2 rfl (Nat.le_refl _) (by decide)).rd
              replace R4 : ∀ v : World, Rd (v.alloc (.cells #[.int .u8 197, .int .u8 1] 5)) (some ⟨v.heap.size, 0, none⟩) 2 2 [197, 1] := R4
              go_wp2_with fail
              refine (reads_any _ 2 2 [197, 1] 0 _ (R4 _) (by decide)).mono ?_
              rintro e x4 ⟨hb, rfl⟩
              have G5 := step_below G4 ((alloc_below _ _).trans (hb.mono (alloc_below _ _).size))
              clear hb R4
              go_wp2_with fail
              refine (known_any _).mono ?_
              rintro e x9 ⟨hb, rfl⟩
              have G9 := step_below G5 hb
              clear hb
              go_wp2
              go_ret
              exact ⟨rfl, G9.out⟩
end Go.Proofs.Ytdlnodedikiamaa
