/-
  tallboylaw7.CtrlTells: what is told of a word is what its bytes say, for any word, slot and byte.
-/
import Derived.Test.YtmhpaoclbkjohaaSameLaw
import Derived.Test.YtmhpaoclbkjohaaOpen
namespace Go.Proofs.Ytmhpaoclbkjohaa
open Go.RowKit Go.PlainAid

/-- An array, and where the call began. -/
structure Tl (w wr : World) (g : Nat) (bl : List Nat) : Prop where
  below : Below w.heap.size w wr
  old : w.heap.size ≤ g
  ok : Ok bl
  a : Arr wr g bl
theorem Tl.keep {w wr wn : World} {g : Nat} {bl : List Nat} (h : Tl w wr g bl) (hb : Below wr.heap.size wr wn) : Tl w wn g bl := ⟨h.below.trans (hb.mono h.below.size), h.old, h.ok, h.a.keep hb⟩
theorem Tl.set {w wr : World} {g : Nat} {bl : List Nat} (h : Tl w wr g bl) (k b : Nat) (hb : b < 256) : Tl w (wr.setCell ⟨g, k, none⟩ (.int .u8 (b : Nat))) g (bl.set k b) := ⟨h.below.setCell h.old _, h.old, h.ok.set k hb, h.a.set k b⟩

theorem Tl.cells {w wr : World} {g s0 s1 s2 s3 s4 s5 s6 s7 : Nat} (h : Tl w wr g [s0, s1, s2, s3, s4, s5, s6, s7]) (t : Nat) (ht : t < 8) (bt : Nat) (hbt : [s0, s1, s2, s3, s4, s5, s6, s7].getD t 0 = bt) :
    wr.cell? ⟨g, 0, none⟩ = some (.int .u8 (s0 : Nat)) ∧ wr.cell? ⟨g, 1, none⟩ = some (.int .u8 (s1 : Nat)) ∧ wr.cell? ⟨g, 2, none⟩ = some (.int .u8 (s2 : Nat)) ∧ wr.cell? ⟨g, 3, none⟩ = some (.int .u8 (s3 : Nat)) ∧ wr.cell? ⟨g, 4, none⟩ = some (.int .u8 (s4 : Nat)) ∧ wr.cell? ⟨g, 5, none⟩ = some (.int .u8 (s5 : Nat)) ∧ wr.cell? ⟨g, 6, none⟩ = some (.int .u8 (s6 : Nat)) ∧ wr.cell? ⟨g, 7, none⟩ = some (.int .u8 (s7 : Nat)) ∧ wr.cell? ⟨g, t, none⟩ = some (.int .u8 (bt : Nat)) := by
  obtain ⟨h0, h1, h2, h3, h4, h5, h6, h7⟩ := h.a.cells8
  exact ⟨h0, h1, h2, h3, h4, h5, h6, h7, by rw [← hbt]; exact h.a.cell t ht⟩

set_option maxRecDepth 100000 in
set_option maxHeartbeats 16000000 in
theorem tells_any (n : Nat) (i : Int) (c : Nat) (a : Option Addr) (m cap : Nat) (sv : List Nat) (w : World) (hn : n < 18446744073709551616) (hc : c < 256) (hR : RdB w a m sv) :
    Calls Try.prog 4 #[.int .u64 n, .int .i64 i, .int .u8 c, .slice a m cap] w fun e w' => e = .returned (.bool true) ∧ Below w.heap.size w w' := by
  obtain ⟨l, hl, rfl⟩ := word_ex n hn
  have HL : Hid (Ok l) := hl
  have HR : Hid (RdB w a m sv) := hR
  have hm : m ≤ 9223372036854775807 := hR.max
  have HBy := bytes_any hl w
  have HS1 := fun w => same_any hl i c hc w
  have HKn := known_any
  have HWi := fun w => Within_any i w
  have HVA : Hid (arr zeros = #[.int .u8 0, .int .u8 0, .int .u8 0, .int .u8 0, .int .u8 0, .int .u8 0, .int .u8 0, .int .u8 0]) := rfl
  generalize val l = n at HBy HS1 ⊢
  clear hl hn hR
  go_enter Try.func4, Try.ntmps4
  go_wp2_with fail
  refine HBy.mono ?_
  rintro e w1 ⟨rfl, hb⟩
  have HB1 : Hid (Below w.heap.size w w1) := hb
  obtain ⟨g, hg⟩ : ∃ g, w1.heap.size = g := ⟨_, rfl⟩
  obtain ⟨w2, hw2⟩ : ∃ w2, w1.alloc (.cells #[.int .u8 0, .int .u8 0, .int .u8 0, .int .u8 0, .int .u8 0, .int .u8 0, .int .u8 0, .int .u8 0] 28) = w2 := ⟨_, rfl⟩
  have HA2 : Hid (Arr w2 g zeros) := by show Arr _ _ _; rw [← hw2, ← hg, ← HVA.out]; exact Arr.made w1 zeros
  have HB2 : Hid (Below w.heap.size w w2) := by show Below _ _ _; rw [← hw2]; exact HB1.out.trans ((alloc_below _ _).mono HB1.out.size)
  have HG : Hid (w.heap.size ≤ g) := by show _ ≤ _; rw [← hg]; exact HB1.out.size
  clear hb HBy
  go_wp2_with (
    refine store_arr rfl (.tmp 9) (.tmp 13) rfl rfl rfl HA2.out rfl HL.out.len ?_
    intro w3 HA3 HG3
    have HT : Hid (Tl w w3 g l) := ⟨HB2.out.grown HG3.out (by have h1 := HA2.out.lt; have h2 := HG.out; omega) (fun q hq => by cases hq; exact HG.out), HG.out, HL.out, HA3.out⟩
    clear hw2 hg HG3 HA3 HB2 HA2 HB1)
  go_loopg [10] 8 (fun q kv wr => ∃ (k : Nat) (bl : List Nat), k + q = 8 ∧ kv = .int .i64 k ∧ Hid (Tl w wr g bl))
  case atStart => exact ⟨0, l, by omega, rfl, HT⟩
  case round =>
    clear HT
    obtain ⟨k, bl, hk, rfl, HT⟩ := hrel
    by_cases hgo : (k : Int) < m ∧ (k : Int) < 8
    · obtain ⟨hlt, h8⟩ := hgo
      · obtain ⟨bb, off, ha, hcb⟩ := (HR.out.keep HT.out.below).cell k (by omega)
        subst ha
        have hX := HR.out.byt.get k
        have HLk : Hid (k < bl.length) := by show _ < _; rw [HT.out.ok.len]; omega
        obtain ⟨X, hXX⟩ : ∃ X : Int, ((sv.getD k 0 : Nat) : Int) = X := ⟨_, rfl⟩
        rw [hXX] at hcb
        have hX0 : 0 ≤ X ∧ X < 256 := by omega
        have HXX : Hid (((sv.getD k 0 : Nat) : Int) = X) := hXX
        clear hXX hX
        obtain ⟨s, hs⟩ : ∃ s : Nat, X.tmod 128 = (s : Int) := ⟨(X.tmod 128).toNat, by have := Int.tmod_nonneg 128 hX0.1; omega⟩
        have hs128 : s < 128 := by have := Int.tmod_lt_of_pos X (b := 128) (by decide); omega
        have hr4 : X.tmod 4 = 0 ∨ X.tmod 4 = 1 ∨ X.tmod 4 = 2 ∨ X.tmod 4 = 3 := by
          have h1 := Int.tmod_lt_of_pos X (b := 4) (by decide)
          have h2 := Int.tmod_nonneg 4 hX0.1
          omega
        have HKP : Hid (∀ wy, Below w.heap.size w wy → wy.cell? ⟨bb, off + k, none⟩ = some (.int .u8 X)) := fun wy hy => by
          obtain ⟨b2, o2, he, hc2⟩ := (HR.out.keep hy).cell k (by omega)
          cases he
          rw [← HXX.out]; exact hc2
        obtain ⟨O, hO⟩ : ∃ O, Obj.cells #[.int .u8 (s : Nat), .int .u8 128, .int .u8 254, .int .u8 (c : Nat)] 5 = O := ⟨_, rfl⟩
        have HTO : Hid (Tl w (wr.alloc O) g bl) := HT.out.keep (alloc_below _ _)
        have hbk := HTO.out.a.cell k HLk.out
        have hfz := HTO.out.a.frozen k
        generalize bl.getD k 0 = z0 at hbk
        have hcb2 := HKP.out _ HTO.out.below
        have HK1 : Hid (Below w.heap.size w wr.drew) := HT.out.below.drew
        have HK2 : Hid (Below w.heap.size w (wr.alloc O).drew) := HTO.out.below.drew
        clear HS1 HKn HWi
        go_upto_region 5 with fail
        rcases hr4 with hr | hr | hr | hr
        · have hnc : (wr.alloc O).cell? ⟨wr.heap.size, 0, none⟩ = some (.int .u8 (s : Nat)) := by rw [← hO]; simp
          go_region
          all_goals (
            go_wp2
            go_roundg (gk - 1)
            case measure => omega
            case rel => exact ⟨k + 1, _, by omega, by go_num, (HTO.out.keep (below_drewN _ 1)).set k s (by omega)⟩)
        · have hnc : (wr.alloc O).cell? ⟨wr.heap.size, 1, none⟩ = some (.int .u8 128) := by rw [← hO]; simp
          go_region
          all_goals (
            go_wp2
            go_roundg (gk - 1)
            case measure => omega
            case rel => exact ⟨k + 1, _, by omega, by go_num, (HTO.out.keep (below_drewN _ 1)).set k 128 (by omega)⟩)
        · have hnc : (wr.alloc O).cell? ⟨wr.heap.size, 2, none⟩ = some (.int .u8 254) := by rw [← hO]; simp
          go_region
          all_goals (
            go_wp2
            go_roundg (gk - 1)
            case measure => omega
            case rel => exact ⟨k + 1, _, by omega, by go_num, (HTO.out.keep (below_drewN _ 1)).set k 254 (by omega)⟩)
        · have hnc : (wr.alloc O).cell? ⟨wr.heap.size, 3, none⟩ = some (.int .u8 (c : Nat)) := by rw [← hO]; simp
          go_region
          all_goals (
            go_wp2
            go_roundg (gk - 1)
            case measure => omega
            case rel => exact ⟨k + 1, _, by omega, by go_num, (HTO.out.keep (below_drewN _ 1)).set k c (by omega)⟩)
    · go_upto_region 3 with fail
      go_cut [21] from 14 to 21 (fun v wx => v = .bool false ∧ wx = wr)
      case first =>
        by_cases hlt : (k : Int) < m
        · have h8 : ¬ (k : Int) < 8 := fun h => hgo ⟨hlt, h⟩
          go_wp2
          go_meet
          exact ⟨rfl, rfl⟩
        · go_wp2
          go_meet
          exact ⟨rfl, rfl⟩
      case rest =>
      obtain ⟨rfl, rfl⟩ := hcut
      go_wp2_with fail
      refine (HWi _).mono ?_
      rintro e wc ⟨rfl, t, ht, rfl⟩
      have hO := HT.out.ok
      obtain ⟨bt, hbt⟩ : ∃ bt, bl.getD t 0 = bt := ⟨_, rfl⟩
      have hbt2 : bt < 256 := by rw [← hbt]; exact hO.get t
      have HS2 := fun w => same_any hO t c hc w
      have HS3 := fun w => same_any hO t bt hbt2 w
      have HWb := fun w => word_any hO w
      have htz : (t : Int) < 8 := by omega
      obtain ⟨s0, s1, s2, s3, s4, s5, s6, s7, hs8⟩ := hO.eight
      subst hs8
      have HBT : Hid ([s0, s1, s2, s3, s4, s5, s6, s7].getD t 0 = bt) := hbt
      obtain ⟨nb, hnb⟩ : ∃ nb, val [s0, s1, s2, s3, s4, s5, s6, s7] = nb := ⟨_, rfl⟩
      rw [hnb] at HS2 HS3 HWb
      replace HWb : ∀ w, Calls Try.prog 11 #[.agg #[.int .u8 (s0 : Nat), .int .u8 (s1 : Nat), .int .u8 (s2 : Nat), .int .u8 (s3 : Nat), .int .u8 (s4 : Nat), .int .u8 (s5 : Nat), .int .u8 (s6 : Nat), .int .u8 (s7 : Nat)]] w fun e w' => e = .returned (.int .u64 (nb : Nat)) ∧ Below w.heap.size w w' := HWb
      have HD : Hid (Below wc.heap.size wc wc.drew) := below_drewN wc 1
      clear hbt hnb hO HWi hgo hk
      go_upto_region 7 with fail
      go_region_held3 (fun w' => w'.cell? ⟨g, 0, none⟩ = some (.int .u8 (s0 : Nat)) ∧ w'.cell? ⟨g, 1, none⟩ = some (.int .u8 (s1 : Nat)) ∧ w'.cell? ⟨g, 2, none⟩ = some (.int .u8 (s2 : Nat)) ∧ w'.cell? ⟨g, 3, none⟩ = some (.int .u8 (s3 : Nat)) ∧ w'.cell? ⟨g, 4, none⟩ = some (.int .u8 (s4 : Nat)) ∧ w'.cell? ⟨g, 5, none⟩ = some (.int .u8 (s5 : Nat)) ∧ w'.cell? ⟨g, 6, none⟩ = some (.int .u8 (s6 : Nat)) ∧ w'.cell? ⟨g, 7, none⟩ = some (.int .u8 (s7 : Nat)) ∧ w'.cell? ⟨g, t, none⟩ = some (.int .u8 (bt : Nat))) (exact ((HT.out.keep HD.out).cells t ht bt HBT.out)) (first
        | (go_at_call 10; refine (HS1 _).mono ?_; rintro e wx ⟨rfl, hb⟩; replace HD := step_below HD hb; clear hb; clear HS1)
        | (go_at_call 10; refine (HS2 _).mono ?_; rintro e wx ⟨rfl, hb⟩; replace HD := step_below HD hb; clear hb; clear HS2)
        | (go_at_call 10; refine (HS3 _).mono ?_; rintro e wx ⟨rfl, hb⟩; replace HD := step_below HD hb; clear hb; clear HS3)
        | (go_at_call 11; refine (HWb _).mono ?_; rintro e wx ⟨rfl, hb⟩; replace HD := step_below HD hb; clear hb)
        | (go_at_call 12; refine (HKn _).mono ?_; rintro e wx ⟨rfl, hb⟩; replace HD := step_below HD hb; clear hb))
      all_goals (go_wp2; go_ret; exact ⟨rfl, HT.out.below.trans (HD.out.mono HT.out.below.size)⟩)
end Go.Proofs.Ytmhpaoclbkjohaa
