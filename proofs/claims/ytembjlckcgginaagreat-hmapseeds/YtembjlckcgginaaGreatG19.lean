/-
  The law's tells; Scan of a packed hash; limits.
  The law's play.
-/
import Derived.Test.YtembjlckcgginaaGreatG18
namespace Go.Proofs.YtembjlckcgginaaGreat
open Go.RowKit Go.PlainAid
open Dk (En Stay hasK putE delE getE keysOf Dct Dg dtag ecells Turn)

theorem Scan_packed (B m x E T : Nat) (es : List En) (F : List Nat) (cur : Nat) (count : Int) (w : World) (h : Hm w B m x E T es true F) :
    Calls Tryz.prog 23 #[ptr m, .int .u64 cur, .int .i64 count] w fun e w' => Below w.heap.size w w' ∧ ∃ a n c fs, e = .returned (.tuple #[.slice a n c, .int .u64 0]) ∧ OwnQ w' w.heap.size a n c fs ∧ fs.Perm es := by
  have HP := PackedH B m x E T es true F w h
  have HA := AllH B m x E T es true F w h
  clear h
  go_enter Tryz.func23, Tryz.ntmps23
  go_wp2_with fail
  refine HP.mono ?_
  rintro e w1 ⟨rfl, rfl⟩
  go_wp2_with fail
  refine HA.mono ?_
  rintro e w2 ⟨hb, a, n, c, fs, rfl, hO, hp⟩
  have HR : Hid (Below w1.heap.size w1 w2 ∧ OwnQ w2 w1.heap.size a n c fs ∧ fs.Perm es) := ⟨hb, hO, hp⟩
  clear hb hO hp
  go_wp2
  go_ret2
  exact ⟨HR.out.1, a, n, c, fs, rfl, HR.out.2⟩

set_option maxRecDepth 100000 in
set_option maxHeartbeats 4000000 in
theorem limits_any (e t : Int) (w : World) : Calls Tryz.prog 26 #[.agg #[.int .i64 e, .int .i64 t]] w fun en w' => en = .returned (.tuple #[.int .i64 (lim e 512 : Nat), .int .i64 (lim t 60 : Nat)]) ∧ Below w.heap.size w w' := by
  obtain ⟨E, hE⟩ : ∃ E, lim e 512 = E := ⟨_, rfl⟩
  obtain ⟨T, hT⟩ : ∃ T, lim t 60 = T := ⟨_, rfl⟩
  have HE : Hid (lim e 512 = E) := hE
  have HT : Hid (lim t 60 = T) := hT
  rw [hE, hT]
  clear hE hT
  have HB : Hid (Below w.heap.size w (w.alloc (.cells #[.int .i64 e, .int .i64 t] 30)).drew) := (alloc_below w _).trans ((below_drewN _ 1).mono (alloc_below w _).size)
  go_enter Tryz.func26, Tryz.ntmps26
  go_wp2_with fail
  go_region
  go_wp2
  all_goals
    go_ret2
    have h1 := HE.out
    have h2 := HT.out
    unfold lim at h1 h2
    refine ⟨?_, HB.out⟩
    first
      | (rw [show ((E : Nat) : Int) = 0 by omega, show ((T : Nat) : Int) = 0 by omega]; rfl)
      | (rw [show ((E : Nat) : Int) = 0 by omega, show ((T : Nat) : Int) = 60 by omega]; rfl)
      | (rw [show ((E : Nat) : Int) = 0 by omega, show ((T : Nat) : Int) = t by omega]; rfl)
      | (rw [show ((E : Nat) : Int) = 512 by omega, show ((T : Nat) : Int) = 0 by omega]; rfl)
      | (rw [show ((E : Nat) : Int) = 512 by omega, show ((T : Nat) : Int) = 60 by omega]; rfl)
      | (rw [show ((E : Nat) : Int) = 512 by omega, show ((T : Nat) : Int) = t by omega]; rfl)
      | (rw [show ((E : Nat) : Int) = e by omega, show ((T : Nat) : Int) = 0 by omega]; rfl)
      | (rw [show ((E : Nat) : Int) = e by omega, show ((T : Nat) : Int) = 60 by omega]; rfl)
      | (rw [show ((E : Nat) : Int) = e by omega, show ((T : Nat) : Int) = t by omega]; rfl)

set_option maxRecDepth 100000 in
set_option maxHeartbeats 4000000 in
theorem tells_any (B m x E T q : Nat) (es : List En) (F M : List Nat) (w : World) (h : Pm w B m x E T q es F M) (hl : es.length ≤ 100000) :
    Calls Tryz.prog 27 #[ptr m, ptr q] w fun e w' => e = .returned (.bool true) ∧ Below w.heap.size w w' := by
  obtain ⟨pk, hs, a, n, c, h1, h2, h3, -⟩ := h
  have HH : Hid (Hm w B m x E T hs pk F) := h1
  have HMd : Hid (Md w B q E T a n c es pk) := h3
  have HPm : Hid (hs.Perm es) := h2
  have hn := h3.len
  have hn1 : n ≤ 100000 := by omega
  have HN : Hid (hs.length = n) := by show _ = _; rw [h2.length_eq]; exact hn
  have HLe := LenH B m x E T hs pk F w.drew (h1.keep (below_drewN w 1))
  rw [HN.out] at HLe
  have HBd : Hid (Below w.heap.size w w.drew) := below_drewN w 1
  have HSd : Hid (w.drew.cell? ⟨q, 0, none⟩ = some (.slice a n c) ∧ w.drew.cell? ⟨q, 1, none⟩ = some (.bool pk)) := ⟨h3.c0, h3.c1⟩
  clear h1 h2 h3 hn
  cases pk
  all_goals
    go_enter Tryz.func27, Tryz.ntmps27
    go_upto_region 1 with fail
  · go_cut [33] from 7 to 33 (fun u33 wx => ∃ wy, wy = wx ∧ u33 = .bool false ∧ Hid (Below w.heap.size w wy))
    case first =>
      go_region_held3 (fun w' => w'.cell? ⟨q, 0, none⟩ = some (.slice a n c) ∧ w'.cell? ⟨q, 1, none⟩ = some (.bool false)) (first | exact HS5.out | exact HS4.out | exact HS2.out | exact HSd.out) (first
        | (go_at_call 14; refine HLe.mono ?_; rintro e w2 ⟨rfl, hb⟩; have HB2 := step_below HBd hb; have HS2 : Hid (w2.cell? ⟨q, 0, none⟩ = some (.slice a n c) ∧ w2.cell? ⟨q, 1, none⟩ = some (.bool false)) := ⟨(HMd.out.keep HB2.out).c0, (HMd.out.keep HB2.out).c1⟩; clear hb)
        | (go_at_call 13; refine (PackedH B m x E T hs false F _ (HH.out.keep HB2.out)).mono ?_; rintro e w3 ⟨rfl, rfl⟩)
        | (go_at_call 19; refine (AllH B m x E T hs false F _ (HH.out.keep HB2.out)).mono ?_; rintro e w4 ⟨hb, a4, n4, c4, fs, rfl, hO4, hp4⟩; have HB4 := step_below HB2 hb; have HS4 : Hid (w4.cell? ⟨q, 0, none⟩ = some (.slice a n c) ∧ w4.cell? ⟨q, 1, none⟩ = some (.bool false)) := ⟨(HMd.out.keep HB4.out).c0, (HMd.out.keep HB4.out).c1⟩; have hn4 : n4 = n := (OwnQ.len hO4).symm.trans (hp4.length_eq.trans HN.out); subst hn4; have HO4 : Hid (OwnQ w4 w.heap.size a4 n4 c4 fs ∧ fs.Perm es) := ⟨Dk.OwnR.low hO4 HB2.out.size, hp4.trans HPm.out⟩; clear hb hO4 hp4)
        | (go_at_call 18; refine (Pairs_same w.heap.size B a4 a _ c4 c fs es _ HO4.out.1 (HMd.out.keep HB4.out).row HO4.out.2 (by omega)).mono ?_; rintro e w5 ⟨rfl, hb⟩; have HB5 := step_below HB4 hb; have HS5 : Hid (w5.cell? ⟨q, 0, none⟩ = some (.slice a n4 c) ∧ w5.cell? ⟨q, 1, none⟩ = some (.bool false)) := ⟨(HMd.out.keep HB5.out).c0, (HMd.out.keep HB5.out).c1⟩; clear hb))
      all_goals
        go_wp2
        go_meet
        exact ⟨_, rfl, rfl, HB5⟩
    case rest =>
    obtain ⟨wx, rfl, rfl, HBx⟩ := hcut
    have hc1 := (HMd.out.keep HBx.out).c1
    go_wp2
    go_ret
    exact ⟨rfl, HBx.out⟩
  · go_cut [33] from 7 to 33 (fun u33 wx => ∃ wy, wy = wx ∧ u33 = .bool false ∧ Hid (Below w.heap.size w wy))
    case first =>
      go_region_held3 (fun w' => w'.cell? ⟨q, 0, none⟩ = some (.slice a n c) ∧ w'.cell? ⟨q, 1, none⟩ = some (.bool true)) (first | exact HS5.out | exact HS4.out | exact HS2.out | exact HSd.out) (first
        | (go_at_call 14; refine HLe.mono ?_; rintro e w2 ⟨rfl, hb⟩; have HB2 := step_below HBd hb; have HS2 : Hid (w2.cell? ⟨q, 0, none⟩ = some (.slice a n c) ∧ w2.cell? ⟨q, 1, none⟩ = some (.bool true)) := ⟨(HMd.out.keep HB2.out).c0, (HMd.out.keep HB2.out).c1⟩; clear hb)
        | (go_at_call 13; refine (PackedH B m x E T hs true F _ (HH.out.keep HB2.out)).mono ?_; rintro e w3 ⟨rfl, rfl⟩)
        | (go_at_call 19; refine (AllH B m x E T hs true F _ (HH.out.keep HB2.out)).mono ?_; rintro e w4 ⟨hb, a4, n4, c4, fs, rfl, hO4, hp4⟩; have HB4 := step_below HB2 hb; have HS4 : Hid (w4.cell? ⟨q, 0, none⟩ = some (.slice a n c) ∧ w4.cell? ⟨q, 1, none⟩ = some (.bool true)) := ⟨(HMd.out.keep HB4.out).c0, (HMd.out.keep HB4.out).c1⟩; have hn4 : n4 = n := (OwnQ.len hO4).symm.trans (hp4.length_eq.trans HN.out); subst hn4; have HO4 : Hid (OwnQ w4 w.heap.size a4 n4 c4 fs ∧ fs.Perm es) := ⟨Dk.OwnR.low hO4 HB2.out.size, hp4.trans HPm.out⟩; clear hb hO4 hp4)
        | (go_at_call 18; refine (Pairs_same w.heap.size B a4 a _ c4 c fs es _ HO4.out.1 (HMd.out.keep HB4.out).row HO4.out.2 (by omega)).mono ?_; rintro e w5 ⟨rfl, hb⟩; have HB5 := step_below HB4 hb; have HS5 : Hid (w5.cell? ⟨q, 0, none⟩ = some (.slice a n4 c) ∧ w5.cell? ⟨q, 1, none⟩ = some (.bool true)) := ⟨(HMd.out.keep HB5.out).c0, (HMd.out.keep HB5.out).c1⟩; clear hb))
      all_goals
        go_wp2
        go_meet
        exact ⟨_, rfl, rfl, HB5⟩
    case rest =>
    obtain ⟨wx, rfl, rfl, HBx⟩ := hcut
    have hc0 := (HMd.out.keep HBx.out).c0
    have hc1 := (HMd.out.keep HBx.out).c1
    have HSc := fun cur => Scan_packed B m x E T hs F cur 1 wx (HH.out.keep HBx.out)
    go_wp2_with fail
    refine (HSc n).mono ?_
    rintro e w6 ⟨hb, a6, n6, c6, gs, rfl, hO6, hp6⟩
    have HB6 := step_below HBx hb
    have hn6 : n6 = n := (OwnQ.len hO6).symm.trans (hp6.length_eq.trans HN.out)
    subst hn6
    have HO6 : Hid (OwnQ w6 w.heap.size a6 n6 c6 gs ∧ gs.Perm es) := ⟨Dk.OwnR.low hO6 HBx.out.size, hp6.trans HPm.out⟩
    have hd0 := (HMd.out.keep HB6.out).c0
    clear hb hO6 hp6
    go_wp2_with fail
    refine (Pairs_same w.heap.size B a6 a _ c6 c gs es _ HO6.out.1 (HMd.out.keep HB6.out).row HO6.out.2 (by omega)).mono ?_
    rintro e w7 ⟨rfl, hb⟩
    have HB7 := step_below HB6 hb
    clear hb
    go_wp2
    go_ret
    exact ⟨rfl, HB7.out⟩
end Go.Proofs.YtembjlckcgginaaGreat

namespace Go.Proofs.YtembjlckcgginaaGreat
open Go.RowKit Go.PlainAid
open Dk (En Stay hasK putE delE getE keysOf Dct Dg dtag ecells Turn)

/-- A slice that reads n calls. -/
structure RdK (w : World) (a : Option Addr) (n : Nat) : Prop where
  max : n ≤ maxLen
  elem : ∀ j, j < n → ∃ b off, a = some ⟨b, off, none⟩ ∧ ∃ (kind N : Int) (F V : ByteArray),
    w.cell? ⟨b, off + j * 4, none⟩ = some (.int .i64 kind) ∧ w.cell? ⟨b, off + j * 4 + 1, none⟩ = some (.int .i64 N) ∧ w.cell? ⟨b, off + j * 4 + 2, none⟩ = some (.string F) ∧ w.cell? ⟨b, off + j * 4 + 3, none⟩ = some (.string V)
theorem RdK.keep {w wn : World} {a : Option Addr} {n : Nat} (h : RdK w a n) (hb : Below w.heap.size w wn) : RdK wn a n :=
  ⟨h.max, fun j hj => by
    obtain ⟨b, off, e, kind, N, F, V, h1, h2, h3, h4⟩ := h.elem j hj
    have hk : ∀ {o : Nat} {v : Value}, w.cell? ⟨b, o, none⟩ = some v → wn.cell? ⟨b, o, none⟩ = some v := fun hc => by rw [hb.cell (p := ⟨b, _, none⟩) (World.block_lt_of_cell? _ _ hc)]; exact hc
    exact ⟨b, off, e, kind, N, F, V, hk h1, hk h2, hk h3, hk h4⟩⟩
/-- A hash, and a model that is made beside it. -/
theorem Pm.made {w w1 : World} {B m x E T : Nat} {F : List Nat} (h : Hm w B m x E T [] true F) (hb : Below w.heap.size w w1) : Pm (w1.alloc (.cells #[.slice none 0 0, .bool true, .int .i64 (E : Nat), .int .i64 (T : Nat)] 43)) B m x E T w1.heap.size [] F (mfp w1.heap.size none) := by
  have hb2 := hb.trans ((alloc_below w1 (.cells #[.slice none 0 0, .bool true, .int .i64 (E : Nat), .int .i64 (T : Nat)] 43)).mono hb.size)
  exact ⟨true, [], none, 0, 0, h.keep hb2, List.Perm.refl _, ⟨heap_alloc_new w1 _, Dk.OwnR.nil _ _ _ _, Nat.le_trans h.2.1 hb.size⟩, rfl⟩

set_option maxRecDepth 100000 in
set_option maxHeartbeats 4000000 in
theorem play_any (x : Nat) (le lt : Int) (a : Option Addr) (n cap : Nat) (w : World) (hx : x < 18446744073709551616) (ha : RdK w a n) :
    Calls Tryz.prog 9 #[.int .u64 x, .agg #[.int .i64 le, .int .i64 lt], .slice a n cap] w fun e w' => e = .returned (.bool true) ∧ Below w.heap.size w w' := by
  have HK : Hid (RdK w a n) := ha
  have hmx := ha.max
  unfold maxLen at hmx
  have hba : Below w.heap.size w (w.alloc (.cells #[.int .i64 le, .int .i64 lt] 30)) := alloc_below w _
  have hlt : w.heap.size < (w.alloc (.cells #[.int .i64 le, .int .i64 lt] 30)).heap.size := (Array.getElem?_eq_some_iff.1 (heap_alloc_new w (.cells #[.int .i64 le, .int .i64 lt] 30))).1
  have HLm : Hid (∀ w2, Below (w.alloc (.cells #[.int .i64 le, .int .i64 lt] 30)).heap.size (w.alloc (.cells #[.int .i64 le, .int .i64 lt] 30)) w2 → w2.cell? ⟨w.heap.size, 0, none⟩ = some (.int .i64 le) ∧ w2.cell? ⟨w.heap.size, 1, none⟩ = some (.int .i64 lt)) := fun w2 hb => ⟨by rw [hb.cell (p := ⟨w.heap.size, 0, none⟩) hlt]; simp, by rw [hb.cell (p := ⟨w.heap.size, 1, none⟩) hlt]; simp⟩
  have HN := NewH x le lt (w.alloc (.cells #[.int .i64 le, .int .i64 lt] 30)) hx
  have HLi := fun w => limits_any le lt w
  have HBa : Hid (Below w.heap.size w (w.alloc (.cells #[.int .i64 le, .int .i64 lt] 30))) := hba
  generalize lim le 512 = E at HN HLi
  generalize lim lt 60 = T at HN HLi
  clear ha hba hlt
  go_enter Tryz.func9, Tryz.ntmps9
  go_wp2_with fail
  refine HN.mono ?_
  rintro e w1 ⟨hb, m, F, rfl, hH⟩
  have HB1 : Hid (Below w.heap.size w w1) := HBa.out.trans (hb.mono HBa.out.size)
  have HH1 : Hid (Hm w1 (w.alloc (.cells #[.int .i64 le, .int .i64 lt] 30)).heap.size m x E T [] true F) := hH
  obtain ⟨hl0, hl1⟩ := HLm.out w1 hb
  clear hb hH HN
  go_wp2_with fail
  refine (HLi _).mono ?_
  rintro e w2 ⟨rfl, hb⟩
  have HB2 := step_below HB1 hb
  have HPm : Hid (Pm (w2.alloc (.cells #[.slice none 0 0, .bool true, .int .i64 (E : Nat), .int .i64 (T : Nat)] 43)) (w.alloc (.cells #[.int .i64 le, .int .i64 lt] 30)).heap.size m x E T w2.heap.size [] F (mfp w2.heap.size none)) := Pm.made HH1.out hb
  have HB3 : Hid (Below w.heap.size w (w2.alloc (.cells #[.slice none 0 0, .bool true, .int .i64 (E : Nat), .int .i64 (T : Nat)] 43))) := HB2.out.trans ((alloc_below w2 _).mono HB2.out.size)
  have HBB : Hid (w.heap.size ≤ (w.alloc (.cells #[.int .i64 le, .int .i64 lt] 30)).heap.size) := HBa.out.size
  generalize (w.alloc (.cells #[.int .i64 le, .int .i64 lt] 30)).heap.size = B at HPm HBB
  obtain ⟨q, hq⟩ : ∃ q, w2.heap.size = q := ⟨_, rfl⟩
  rw [hq] at HPm
  generalize mfp q none = M0 at HPm
  clear hb HLi HLm hl0 hl1
  go_wp2
  go_loopg [11] 40 (fun g iv wr => ∃ (i : Nat) (es : List En) (F1 M1 : List Nat), i + g = 40 ∧ iv = .int .i64 i ∧ es.length ≤ 40 * i ∧ Hid (Pm wr B m x E T q es F1 M1) ∧ Hid (Below w.heap.size w wr))
  case atStart => exact ⟨0, [], F, M0, by omega, rfl, Nat.le_refl _, HPm, HB3⟩
  case round =>
    obtain ⟨i, es, F1, M1, hi, rfl, hes, HP, HB⟩ := hrel
    by_cases h8 : (i : Int) < n
    · by_cases h9 : (i : Int) < 40
      · obtain ⟨b, off, rfl, kind, N, Fs, V, c1, c2, c3, c4⟩ := (HK.out.keep HB.out).elem i (by omega)
        have HD := do_any B m x E T q es F1 M1 kind N Fs V wr HP.out (by omega)
        have hln := stq_len kind N Fs V es
        generalize stq kind N Fs V es = es' at HD hln
        go_wp2_with fail
        refine HD.mono ?_
        rintro e w3 ⟨rfl, hto⟩
        have HB4 : Hid (Below w.heap.size w w3) := HB.out.trans ((hto.below HP.out).mono HBB.out)
        obtain ⟨F2, M2, hP2, -, -, -⟩ := hto
        have HP2 : Hid (Pm w3 B m x E T q es' F2 M2) := hP2
        have HTl := tells_any B m x E T q es' F2 M2 w3 hP2 (by omega)
        clear hP2 HD
        go_wp2_with fail
        refine HTl.mono ?_
        rintro e w4 ⟨rfl, hb⟩
        have HB5 := step_below HB4 hb
        have HP5 : Hid (Pm w4 B m x E T q es' F2 M2) := HP2.out.keep hb
        clear hb
        go_wp2
        go_roundg (gk - 1)
        case measure => omega
        case rel => exact ⟨i + 1, es', F2, M2, by omega, by go_num, by omega, HP5, HB5⟩
      · go_wp2
        go_ret
        exact ⟨rfl, HB.out⟩
    · go_wp2
      go_ret
      exact ⟨rfl, HB.out⟩
end Go.Proofs.YtembjlckcgginaaGreat
