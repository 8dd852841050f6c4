/-
 SpaceNumbers.
-/
import Derived.Test.YtmjeljldmmkcpaaGreatOv
namespace Go.Proofs.YtmjeljldmmkcpaaGreat.Sq
open Go.RowKit Go.PlainAid
open Dk (ptr Aa Ac Ad Af OwnR OwnP OwnS Mv Am Elt A4)

theorem made_list (n : Nat) : madeCells #[.int .u8 0] n = (List.replicate n (Value.int .u8 0)).toArray := by
 apply Array.ext
 ·simp [madeCells]
 ·intro i h1 h2
  simp [madeCells, Nat.mod_one]
def zs (n : Nat) : BA := bs (List.replicate n 0)
theorem zs_size (n : Nat) : (zs n).size = n := by
 rw [← len_lst, zs, lst_bs, List.length_replicate]
theorem Own.zeros (w : World) (B n : Nat) (hB : B ≤ w.heap.size) (hm : n ≤ maxLen) : Own (w.alloc (.cells (madeCells #[.int .u8 0] n) 5)) B (some ⟨w.heap.size, 0, none⟩) n n (List.replicate n 0) := by
 have := Own.made w (List.replicate n 0) B n (List.length_replicate ..) hB hm
 rw [show cells (List.replicate n 0) = List.replicate n (.int .u8 0) by rw [cells, List.map_replicate]; rfl, ← made_list] at this
 exact this
theorem make_zs (wx : World) (n : Nat) (hn : n ≤ 5000) : (Instr.makeSlice 32 (.int .i64 n) (.int .i64 n)).run Tryz.prog wx = .ok (.slice (some ⟨wx.heap.size, 0, none⟩) n n) (wx.alloc (.cells (madeCells #[.int .u8 0] n) 5)) ∧ (convert 32 9 (.slice (some ⟨wx.heap.size, 0, none⟩) n n)).run Tryz.prog (wx.alloc (.cells (madeCells #[.int .u8 0] n) 5)) = .ok (.string (zs n)) (wx.alloc (.cells (madeCells #[.int .u8 0] n) 5)) := by
 refine ⟨?_, (Own.zeros wx 0 n (Nat.zero_le _) (by unfold maxLen; omega)).rd.text⟩
 obtain ⟨i, h1, h2, h3, h4⟩ := info_parts Tryz.info5
 have := run_make (P := Tryz.prog) wx 32 5 i (.int .u8 0) Tryz.underlying32 h1 h2 .i64 .i64 n n (by omega) (Int.le_refl _) (by rw [h4]; omega) (by omega)
 rw [h3, Int.toNat_natCast, Nat.mul_one] at this
 exact this
def AskC (cs : List Value) (n : Nat) : Prop := ∀ j, j < n → ∃ (kd xa xb xn xt : Int) (xs : BA), cs[j * 6]? = some (.int .i64 kd) ∧ cs[j * 6 + 1]? = some (.int .i64 xa) ∧ cs[j * 6 + 2]? = some (.int .i64 xb) ∧ cs[j * 6 + 3]? = some (.int .i64 xn) ∧ cs[j * 6 + 4]? = some (.int .i64 xt) ∧ cs[j * 6 + 5]? = some (.string xs)
theorem AskC.snoc {cs : List Value} {n : Nat} (h : AskC cs n) (hl : cs.length = n * 6) (kd xa xb xn xt : Int) (xs : BA) : AskC (cs ++ [.int .i64 kd, .int .i64 xa, .int .i64 xb, .int .i64 xn, .int .i64 xt, .string xs]) (n + 1) := by
 intro j hj
 rcases Nat.lt_or_ge j n with h1 | h1
 ·obtain ⟨a, b, c, d, e, f, h2, h3, h4, h5, h6, h7⟩ := h j h1
  refine ⟨a, b, c, d, e, f, ?_, ?_, ?_, ?_, ?_, ?_⟩ <;> rw [List.getElem?_append_left (by omega)] <;> assumption
 ·have : j = n := by omega
  subst this
  refine ⟨kd, xa, xb, xn, xt, xs, ?_, ?_, ?_, ?_, ?_, ?_⟩ <;> rw [List.getElem?_append_right (by omega), hl]
  ·rw [Nat.sub_self]; rfl
  ·rw [show j * 6 + 1 - j * 6 = 1 by omega]; rfl
  ·rw [show j * 6 + 2 - j * 6 = 2 by omega]; rfl
  ·rw [show j * 6 + 3 - j * 6 = 3 by omega]; rfl
  ·rw [show j * 6 + 4 - j * 6 = 4 by omega]; rfl
  ·rw [show j * 6 + 5 - j * 6 = 5 by omega]; rfl
abbrev OwnK (w : World) (B : Nat) (a : Option Addr) (n cap : Nat) (cs : List Value) : Prop := OwnR w B 24 6 a n cap cs
theorem Tryz.infoAk : (Tryz.prog.info? 24).map (fun i => (i.zero, i.size, i.bytes)) = some (some (.agg #[.int .i64 0, .int .i64 0, .int .i64 0, .int .i64 0, .int .i64 0, .string ⟨#[]⟩]), 6, 56) := by kernel_rfl
theorem eltAk : Elt 22 24 6 56 := A4 Tryz.underlying22 Tryz.infoAk rfl (by decide)
theorem OwnK.rk {w : World} {B : Nat} {a : Option Addr} {n cap : Nat} {cs : List Value} (h : OwnK w B a n cap cs) (hc : AskC cs n) : RdK w a n := by
 have hm := OwnR.cap h
 refine ⟨Nat.le_trans hm.1 hm.2, fun j hj => ?_⟩
 obtain ⟨g, h1, h2⟩ := OwnR.at h (by omega)
 obtain ⟨kd, xa, xb, xn, xt, xs, k1, k2, k3, k4, k5, k6⟩ := hc j hj
 refine ⟨g, 0, kd, xa, xb, xn, xt, xs, h1, ?_, ?_, ?_, ?_, ?_, ?_⟩ <;> rw [Nat.zero_add]
 ·exact h2 _ _ k1
 ·exact h2 _ _ k2
 ·exact h2 _ _ k3
 ·exact h2 _ _ k4
 ·exact h2 _ _ k5
 ·exact h2 _ _ k6
theorem none_del {w w' : World} {B s x : Nat} {NM : List BA} {V : BA → Int} {t : Int} {k : BA} (h : DelTo w w' B s x NM (dueA Cw t) (dueV Cw V t) k) : To w w' B s x NM Cw V := by
 unfold DelTo at h
 rw [none_due, (none_still t).dueV, none_set] at h
 have e : chgV Cw V k = V := if_neg (by simp)
 rw [e] at h
 exact h
set_option maxRecDepth 100000 in
set_option maxHeartbeats 4000000 in
theorem numbers_any (w : World) : Calls Tryz.prog 3 #[] w fun e w' => e = .returned (.bool true) ∧ Below w.heap.size w w' := by
 go_enter Tryz.func3, Tryz.ntmps3
 go_wp2
 go_loopg [1, 2] 50 (fun g lv iv wr => ∃ (i : Nat) (a : Option Addr) (c : Nat) (cs : List Value), i + g = 50 ∧ iv = .int .i64 i ∧ lv = .slice a i c ∧ Hid (OwnK wr w.heap.size a i c cs) ∧ Hid (AskC cs i) ∧ Hid (Below w.heap.size w wr))
 case atStart => exact ⟨0, none, 0, [], by omega, rfl, rfl, OwnR.nil _ _ _ _, (fun j hj => absurd hj (Nat.not_lt_zero _)), Below.refl _ _⟩
 case round =>
  obtain ⟨i, a, c, cs, hi, rfl, rfl, HO, HA, HB⟩ := hrel
  by_cases h8 : (i : Int) < 50
  ·obtain ⟨q, hq⟩ : ∃ q, i * 7 = q := ⟨_, rfl⟩
   have hq2 : (i : Int) * 7 = (q : Int) := by omega
   obtain ⟨k1, hk1⟩ : ∃ k1 : Int, (q : Int).tmod 10 = k1 := ⟨_, rfl⟩
   have hk1b : 0 ≤ k1 ∧ k1 < 10 := by rw [← hk1]; exact ⟨Int.tmod_nonneg _ (by omega), Int.tmod_lt_of_pos _ (by decide)⟩
   obtain ⟨k2, hk2⟩ : ∃ k2 : Int, (i : Int).tmod 4 = k2 := ⟨_, rfl⟩
   obtain ⟨k3, hk3⟩ : ∃ k3 : Int, (i : Int).tmod 3 = k3 := ⟨_, rfl⟩
   obtain ⟨k4, hk4⟩ : ∃ k4 : Int, (i : Int).tmod 7 = k4 := ⟨_, rfl⟩
   have HIG : Hid (i + gk = 50) := hi
   obtain ⟨wb, HWb⟩ : ∃ wb, Hid (wr.alloc (.cells #[.int .i64 (1 + k1), .int .i64 k2, .int .i64 k3, .int .i64 k4, .int .i64 k3, .string ⟨#[116, 101, 120, 116]⟩] 24) = wb) := ⟨_, rfl⟩
   have hbb : Below wr.heap.size wr wb := by rw [← HWb.out]; exact Ac wr _
   have HN1 : Hid (∀ j u, ([.int .i64 (1 + k1), .int .i64 k2, .int .i64 k3, .int .i64 k4, .int .i64 k3, .string ⟨#[116, 101, 120, 116]⟩] : List Value)[j]? = some u → (wr.alloc (.cells #[.int .i64 (1 + k1), .int .i64 k2, .int .i64 k3, .int .i64 k4, .int .i64 k3, .string ⟨#[116, 101, 120, 116]⟩] 24)).cell? ((⟨wr.heap.size, 0, none⟩ : Addr).add j) = some u) := by
    intro j u hu
    have hb := heap_alloc_new wr (.cells #[.int .i64 (1 + k1), .int .i64 k2, .int .i64 k3, .int .i64 k4, .int .i64 k3, .string ⟨#[116, 101, 120, 116]⟩] 24)
    rw [Af, Nat.zero_add]
    simp only [World.cell?, hb]
    rw [← hu]
    simp
   have HOe : Hid (OwnK (wr.alloc (.cells #[.int .i64 (1 + k1), .int .i64 k2, .int .i64 k3, .int .i64 k4, .int .i64 k3, .string ⟨#[116, 101, 120, 116]⟩] 24)) w.heap.size a i c cs) := OwnR.keep HO.out (Ac wr _)
   have HBv : Hid (Below w.heap.size w (wr.alloc (.cells #[.int .i64 (1 + k1), .int .i64 k2, .int .i64 k3, .int .i64 k4, .int .i64 k3, .string ⟨#[116, 101, 120, 116]⟩] 24))) := Ad HB (Ac wr _)
   have HSn : Hid (AskC (cs ++ [.int .i64 (1 + k1), .int .i64 k2, .int .i64 k3, .int .i64 k4, .int .i64 k3, .string ⟨#[116, 101, 120, 116]⟩]) (i + 1)) := HA.out.snoc (OwnR.len HO.out) _ _ _ _ _ _
   have hb1 : (i + 1) * 56 ≤ 140737488355328 := by omega
   have hb2 : i + 1 ≤ maxLen := by unfold maxLen; omega
   clear hbb HWb hi
   go_wp2_with (at_builtin; refine Dk.append_r rfl (.tmp 16) (.tmp 30) rfl eltAk w.heap.size rfl HOe.out [.int .i64 (1 + k1), .int .i64 k2, .int .i64 k3, .int .i64 k4, .int .i64 k3, .string ⟨#[116, 101, 120, 116]⟩] rfl rfl HN1.out (by simp [Value.oneCell']) (by decide) hb1 hb2 HBv.out.size ?_; intro a2 n2 c2 w2 hn2 HO2 HG2 _)
   have HB2 : Hid (Below w.heap.size w w2) := HBv.out.trans (OwnR.below HOe.out HG2.out HBv.out.size)
   go_roundg (gk - 1)
   case measure => have := HIG.out; omega
   case rel => subst hn2; exact ⟨i + 1, _, _, _, by have := HIG.out; omega, by go_num, rfl, HO2, HSn, HB2⟩
  ·have HRk : Hid (RdK wr a i) := OwnK.rk HO.out HA.out
   have HN := New_any wr 0 0 0 (by decide)
   replace HN : Calls Tryz.prog 9 #[.agg #[.int .u64 0, .int .i64 0, .int .i64 0]] wr fun e w' => NewTo wr w' 0 e := HN
   have HBq : Hid (w.heap.size ≤ wr.heap.size) := HB.out.size
   clear HO HA hi
   go_wp2_with fail
   refine HN.mono ?_
   rintro e w1 ⟨hb1, s, rfl, -, hs⟩
   have hq := eqlS_nil w1 s
   obtain ⟨hmk, htx⟩ := make_zs w1 4097 (by decide)
   have hbz : Below w1.heap.size w1 (w1.alloc (.cells (madeCells #[.int .u8 0] 4097) 5)) := Ac w1 _
   obtain ⟨w2, hw2⟩ : ∃ w2, w1.alloc (.cells (madeCells #[.int .u8 0] 4097) 5) = w2 := ⟨_, rfl⟩
   rw [hw2] at hmk htx hbz
   obtain ⟨z, hz⟩ : ∃ z, zs 4097 = z := ⟨_, rfl⟩
   rw [hz] at htx
   have HSz : Hid (z.size = 4097) := by show _ = _; rw [← hz, zs_size]
   replace hmk : (Instr.makeSlice 32 (.int .i64 4097) (.int .i64 4097)).run Tryz.prog w1 = .ok (.slice (some ⟨w1.heap.size, 0, none⟩) 4097 4097) w2 := hmk
   have HB2 : Hid (Below wr.heap.size wr w2) := hb1.trans (hbz.mono hb1.size)
   have HS2 : Hid (Spc w2 wr.heap.size s 0 kNM Cw (fun _ => 0)) := (hs kNM kNM_names).keep hbz
   have HO := OfText_t ⟨#[97]⟩ w2
   obtain ⟨B, HBe⟩ : ∃ B, Hid (wr.heap.size = B) := ⟨_, rfl⟩
   rw [HBe.out] at HBq HB2 HS2
   clear hb1 hs hw2 hz hbz HN
   go_wp2_with fail
   refine HO.mono ?_
   rintro e w3 ⟨hb3, v3, rfl, -⟩
   have HB3 : Hid (Below B wr w3) := HB2.out.trans (hb3.mono HS2.out.lt)
   have HS3 : Hid (Spc w3 B s 0 kNM Cw (fun _ => 0)) := HS2.out.keep hb3
   have HPl := Put_long w3 s 0 z (some ⟨v3, 0, none⟩) (by have := HSz.out; omega)
   clear hb3 HO hmk htx hq
   go_wp2_with fail
   refine HPl.mono ?_
   rintro e w3 ⟨rfl, rfl⟩
   have HP := Put_empty w3 B s 0 kNM Cw _ HS3.out (Vle.zero.low (by decide)) 0 ⟨#[97]⟩ (by decide) none (Empty_nil w3)
   clear HPl
   go_wp2_with fail
   refine HP.mono ?_
   rintro e w4 ⟨rfl, h4⟩
   have h4' := none_del h4
   have HB4 : Hid (Below B wr w4) := HB3.out.trans h4'.mb.be
   have HS4 : Hid (Spc w4 B s 0 kNM Cw (fun _ => 0)) := h4'.spc
   have HNz := NewV_z w4
   clear h4 h4' HP HS3 HB3
   go_wp2_with fail
   refine HNz.mono ?_
   rintro e w5 ⟨hb5, v5, rfl, hv5⟩
   have HB5 : Hid (Below B wr w5) := HB4.out.trans (hb5.mono HS4.out.lt)
   have HP := Put_empty w5 B s 0 kNM Cw _ (HS4.out.keep hb5) (Vle.zero.low (by decide)) 0 ⟨#[98]⟩ (by decide) (some ⟨v5, 0, none⟩) (Empty_z w5 _ v5 hv5)
   clear hb5 hv5 HNz
   go_wp2_with fail
   refine HP.mono ?_
   rintro e w6 ⟨rfl, h6⟩
   have h6' := none_del h6
   have HB6 : Hid (Below B wr w6) := HB5.out.trans h6'.mb.be
   have HV := Version_any w6 B s 0 kNM Cw _ h6'.spc (Vle.zero.low (by decide)) 0 ⟨#[97]⟩ (by decide)
   rw [(none_still 0).dueV] at HV
   clear h6 h6' HP HS4 HB4 HB5
   go_wp2_with fail
   refine HV.mono ?_
   rintro e w7 ⟨rfl, h7⟩
   have h7' := To.keepV (none_still 0) h7
   have HB7 : Hid (Below B wr w7) := HB6.out.trans h7'.mb.be
   have HS7 : Hid (Spc w7 B s 0 kNM Cw (fun _ => 0)) := h7'.spc
   have HO := OfText_t ⟨#[120]⟩ w7
   clear h7 h7' HV HB6
   go_wp2_with fail
   refine HO.mono ?_
   rintro e w8 ⟨hb8, v8, rfl, hv8⟩
   have HB8 : Hid (Below B wr w8) := HB7.out.trans (hb8.mono HS7.out.lt)
   have HP := Put_any w8 B s 0 kNM Cw _ (HS7.out.keep hb8) (Vle.zero.low (by decide)) 0 ⟨#[97]⟩ (by simp [kNM]) (by decide) (some ⟨v8, 0, none⟩) (Empty_t w8 v8 _ hv8)
   clear hb8 hv8 HO
   go_wp2_with fail
   refine HP.mono ?_
   rintro e w9 ⟨rfl, hm9, hs9⟩
   have HB9 : Hid (Below B wr w9) := HB8.out.trans hm9.be
   rw [none_due] at hs9
   obtain ⟨V9, HS9⟩ : ∃ V9, Hid (Spc w9 B s 0 kNM (one ⟨#[97]⟩ (some ⟨v8, 0, none⟩, none)) V9 ∧ Vle V9 5) := ⟨_, hs9, ((Vle.zero.due _ _).inc _).mono (by decide)⟩
   have hzm : z.size ≤ maxLen := by have := HSz.out; unfold maxLen; omega
   have hza : z ≠ ⟨#[97]⟩ := fun e => by
    have h1 := HSz.out
    rw [e] at h1
    exact absurd h1 (by decide)
   have HC := Copy_long w9 B s 0 kNM _ V9 HS9.out.1 (HS9.out.2.low (by decide)) 0 ⟨#[97]⟩ z (by decide) hzm (by have := HSz.out; omega) (by rw [(one_none _ _ _).due, one_at]; rfl) (by rw [(one_none _ _ _).due]; exact Cd _ _ hza)
   clear hm9 hs9 HP HS7 HB7 HB8
   go_wp2_with fail
   refine HC.mono ?_
   rintro e w10 ⟨rfl, h10⟩
   have h10' := To.keepV (one_none _ _ _) h10
   have HB10 : Hid (Below B wr w10) := HB9.out.trans h10'.mb.be
   have HS10 : Hid (Spc w10 B s 0 kNM (one ⟨#[97]⟩ (some ⟨v8, 0, none⟩, none)) V9) := h10'.spc
   have HL := Len_any w10 B s 0 kNM _ V9 HS10.out (HS9.out.2.low (by decide)) 0
   rw [(one_none _ _ _).due] at HL
   clear h10 h10' HC HB9
   go_wp2_with fail
   refine HL.mono ?_
   rintro e w11 ⟨h11, hle⟩
   have hle2 := hle.of (one_dom _ _)
   subst hle2
   have h11' := To.keepV (one_none _ _ _) h11
   have HB11 : Hid (Below B wr w11) := HB10.out.trans h11'.mb.be
   have HRn := Rename_long w11 B s 0 kNM _ V9 h11'.spc (HS9.out.2.low (by decide)) 0 ⟨#[97]⟩ z (by decide) (by have := HSz.out; omega)
   clear h11 h11' hle HL HS10 HB10
   go_wp2_with fail
   refine HRn.mono ?_
   rintro e w12 ⟨rfl, h12⟩
   have h12' := To.keepV (one_none _ _ _) h12
   have HB12 : Hid (Below B wr w12) := HB11.out.trans h12'.mb.be
   have HG := Get_any w12 B s 0 kNM _ V9 h12'.spc (HS9.out.2.low (by decide)) 0 ⟨#[97]⟩ (by decide)
   rw [(one_none _ _ _).due, one_at] at HG
   replace HG : Calls Tryz.prog 17 #[ptr s, .string ⟨#[97]⟩, .int .i64 0] w12 fun e w' => e = .returned (ptr v8) ∧ Bo w12 w' B s 0 kNM (one ⟨#[97]⟩ (some ⟨v8, 0, none⟩, none)) V9 0 := HG
   clear h12 h12' HRn HB11
   go_wp2_with fail
   refine HG.mono ?_
   rintro e w13 ⟨rfl, h13⟩
   have HB13 : Hid (Below wr.heap.size wr w13) := by rw [HBe.out]; exact HB12.out.trans h13.mb.be
   have hvn := neqV_nil w13 v8
   have HPy := play_any 3 0 0 a i c w13 (by decide) (HRk.out.keep HB13.out)
   replace HPy : Calls Tryz.prog 18 #[.agg #[.int .u64 3, .int .i64 0, .int .i64 0], .slice a i c] w13 fun e w' => e = .returned (.bool true) ∧ Below w13.heap.size w13 w' := HPy
   have HBw : Hid (Below w.heap.size w w13) := Ad HB HB13.out
   clear h13 HG HB12
   go_wp2_with fail
   refine HPy.mono ?_
   rintro e w14 ⟨rfl, hb14⟩
   have HB14 := Ad HBw hb14
   have HKn := known_any w14
   clear hb14 HPy hvn
   go_wp2_with fail
   refine HKn.mono ?_
   rintro e w15 ⟨rfl, hb15⟩
   have HB15 := Ad HB14 hb15
   clear hb15 HKn
   go_wp2
   go_ret
   exact ⟨rfl, HB15.out⟩
end Go.Proofs.YtmjeljldmmkcpaaGreat.Sq
