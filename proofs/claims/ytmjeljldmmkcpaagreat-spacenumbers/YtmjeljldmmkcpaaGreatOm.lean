/-
 scans.
-/
import Derived.Test.YtmjeljldmmkcpaaGreatK42
namespace Go.Proofs.YtmjeljldmmkcpaaGreat.Sq
open Go.RowKit Go.PlainAid
open Dk (ptr Aa Ac Ad Af OwnR OwnP OwnS Mv)

section
variable {w : World} {W B s m x : Nat} {now : Int} {va wa : Nat} {nv nw : List Int} {A : Ab} {V : BA → Int} {rows : List Kr} {bd : Int} {FP : BA → List Nat}
theorem names_s (H : Al w W B s m x now va wa nv nw A V rows FP) (S : Stl now A V rows bd) :
  Calls Tryz.prog 62 #[ptr m, .int .i64 now] w fun e w' => Al w' W B s m x now va wa nv nw A V rows FP ∧ Below B w w' ∧ ∃ a n c, e = .returned (.slice a n c) ∧ OwnS w' w.heap.size a n c (A3 rows) ∧ n ≤ 7 := by
 have h := Names_any w B m rows now H.md S.lowM
 rw [S.du] at h
 refine h.mono ?_
 rintro e w' ⟨h1, a, n, c, rfl, h2⟩
 refine ⟨H.mt h1, h1.mb.be, a, n, c, rfl, h2, ?_⟩
 rw [← Dk.OwnS.len h2]
 exact Nat.le_trans (namesR_le rows) (S.ok.len H.md.nod)
theorem AtS.some {ls : List BA} {k : BA} {e : Ending} (h : AtS ls k e) (hk : k ∈ ls) : ∃ i : Nat, e = .returned (.int .i64 i) := by
 rcases h with ⟨h, -⟩ | ⟨-, h⟩
 ·exact h
 ·exact absurd hk h
theorem PickR.tup {A : Ab} {e : Ending} (h : PickR A e) : ∃ (k : BA) (b : Bool), e = .returned (.tuple #[.string k, .bool b]) ∧ (k = ⟨#[]⟩ ∧ b = false ∧ Dom A [] ∨ b = true ∧ (A k).isSome = true) := by
 rcases h with ⟨h1, rfl⟩ | ⟨k, h1, rfl⟩
 ·exact ⟨_, _, rfl, .inl ⟨rfl, rfl, h1⟩⟩
 ·exact ⟨_, _, rfl, .inr ⟨rfl, h1⟩⟩
end
set_option maxRecDepth 100000 in
set_option maxHeartbeats 4000000 in
theorem scans_any (w : World) (W B s m x : Nat) (now : Int) (va wa : Nat) (nv nw : List Int) (A : Ab) (V : BA → Int) (rows : List Kr) (FP : BA → List Nat) (bd : Int) (H : Al w W B s m x now va wa nv nw A V rows FP) (S : Stl now A V rows bd) (c : Nat) (hc : c < 18446744073709551616) :
  Calls Tryz.prog 50 #[ptr W, .int .u64 (c : Nat)] w fun e w' => e = .returned (.bool true) ∧ Below B w w' ∧ Al w' W B s m x now va wa nv nw A V rows FP := by
 have HAd : Hid (Al w.drew W B s m x now va wa nv nw A V rows FP) := H.keep (Aa w 1)
 have HBd : Hid (Below B w w.drew) := (Aa w 1).mono H.md.lt
 have HSt : Hid (Stl now A V rows bd) := S
 have HNm := names_s HAd.out S
 have HC : Hid (c < 18446744073709551616) := hc
 clear H S hc
 go_enter Tryz.func50, Tryz.ntmps50
 go_upto_region 1 with fail
 refine Ag 9 (fun w' => w'.cell? ⟨W, 0, none⟩ = some (ptr s) ∧ w'.cell? ⟨W, 1, none⟩ = some (ptr m) ∧ w'.cell? ⟨W, 2, none⟩ = some (.int .i64 now)) [false, false, false, false, false, false, false, false, false, false] ?_
 iterate 8
  refine tk (v := ?_) 0 HAd.out.lw.c3 ?_ ?_
  rotate_left
  ·(intro w hSw; (try dsimp only at hSw); go_simp; try with_reducible rfl)
  simp only [Act.put, uA, uB, uC]
 refine on1 8 fun K hK => ?_
 go_simp
 refine (HNm).mono ?_
 rintro e w1 ⟨hA1, hb1, an, nn, cn, rfl, hO1, hn7⟩
 refine hK.out _ _ (fun _ => hA1.lw.c3) ?_
 clear hK
 simp only [uA, uB, uC]
 refine on1 9 fun K hK => ?_
 go_simp
 refine lst hK ?_
 clear hK
 have HA1 : Hid (Al w1.drew W B s m x now va wa nv nw A V rows FP) := hA1.keep (Aa w1 1)
 have HO1 : Hid (OwnS w1.drew w.drew.heap.size an nn cn (A3 rows)) := OwnR.keep hO1 (Aa w1 1)
 have HB1 : Hid (Below B w w1.drew) := (HBd.out.trans hb1).trans ((Aa w1 1).mono hA1.md.lt)
 have HSc := scan_s HA1.out HSt.out c 3 HC.out
 have HNn : Hid ((A3 rows).length = nn) := Dk.OwnS.len hO1
 clear hA1 hb1 hO1 HNm HAd HBd
 go_upto_region 2 with fail
 refine Ag 14 (fun w' => w'.cell? ⟨W, 0, none⟩ = some (ptr s) ∧ w'.cell? ⟨W, 1, none⟩ = some (ptr m) ∧ w'.cell? ⟨W, 2, none⟩ = some (.int .i64 now)) [false, false, false, false, false, false, false, false, false, false, false, false, false, false, false] ?_
 iterate 9
  refine tk (v := ?_) 0 HA1.out.lw.c3 ?_ ?_
  rotate_left
  ·(intro w hSw; (try dsimp only at hSw); go_simp; try with_reducible rfl)
  simp only [Act.put, uA, uB, uC]
 refine on1 9 fun K hK => ?_
 go_simp
 refine (HSc).mono ?_
 rintro e w2 ⟨hA2, hm2, hsc⟩
 obtain ⟨a2, n2, c2, ls, zc, rfl, hO2, hn2, hls⟩ := hsc.facts (fun ks hd => HA1.out.names hd)
 clear hsc
 refine hK.out _ _ (fun _ => hA2.lw.c3) ?_
 clear hK
 simp only [uA, uB, uC]
 iterate 4
  refine tk (v := ?_) 10 hA2.lw.c3 ?_ ?_
  rotate_left
  ·(intro w hSw; (try dsimp only at hSw); go_simp; try with_reducible rfl)
  simp only [Act.put, uA, uB, uC]
 refine on1 14 fun K hK => ?_
 go_simp
 refine lst hK ?_
 clear hK
 have HA2 : Hid (Al w2 W B s m x now va wa nv nw A V rows FP) := hA2
 have HO2 : Hid (OwnS w2 0 a2 n2 c2 ls) := OwnR.low hO2 (Nat.zero_le _)
 have HN2 : Hid (OwnS w2 0 an nn cn (A3 rows)) := OwnR.low (owns_mv HO1.out hm2.mv (by decide)) (Nat.zero_le _)
 have HB2 : Hid (Below B w w2) := HB1.out.trans hm2.be
 have HLs : Hid (∀ k ∈ ls, k ∈ A3 rows ∧ Dk.cnt ls k = 1) := hls
 have HLl : Hid (ls.length = n2) := Dk.OwnS.len hO2
 clear hA2 hm2 hO2 hls HSc HA1 HO1 HB1
 go_wp2
 go_loopg [8] n2 (fun g iv wr => w2 = wr ∧ ∃ i : Nat, i + g = n2 ∧ iv = .int .i64 (i : Nat))
 case atStart => exact ⟨rfl, 0, by omega, rfl⟩
 case round =>
  obtain ⟨rfl, i, hi, rfl⟩ := hrel
  by_cases h8 : (i : Int) < n2
  ·obtain ⟨g, ha, hcl⟩ := Dk.OwnS.cell HO2.out (j := i) (by omega)
   subst ha
   have hmem : ls.getD i ⟨#[]⟩ ∈ ls := by
    rw [List.getD_eq_getElem?_getD, List.getElem?_eq_getElem (by have := HLl.out; omega)]
    exact List.getElem_mem _
   obtain ⟨h1, h2⟩ := HLs.out _ hmem
   have HAt := At25_any an nn cn (A3 rows) (ls.getD i ⟨#[]⟩) w2 0 HN2.out (by omega)
   have HTm := Dk.Times_any (some ⟨g, 0, none⟩) n2 c2 ls (ls.getD i ⟨#[]⟩) w2 HO2.out (by omega)
   rw [h2] at HTm
   have HM1 : Hid (ls.getD i ⟨#[]⟩ ∈ A3 rows) := h1
   generalize ls.getD i ⟨#[]⟩ = q at *
   clear hmem h1 h2
   go_wp2_with fail
   refine HAt.mono ?_
   rintro e w2 ⟨rfl, hat⟩
   obtain ⟨i2, rfl⟩ := hat.some HM1.out
   clear hat HAt
   go_wp2_with fail
   refine HTm.mono ?_
   rintro e w2 ⟨rfl, rfl⟩
   clear HTm
   go_wp2
   go_roundg (gk - 1)
   case measure => omega
   case rel => exact ⟨rfl, i + 1, by omega, by go_num⟩
  ·have HAd : Hid (Al w2.drew W B s m x now va wa nv nw A V rows FP) := HA2.out.keep (Aa w2 1)
   have HBd : Hid (Below B w w2.drew) := HB2.out.trans ((Aa w2 1).mono HA2.out.md.lt)
   have HPk := pick_s HAd.out HSt.out c HC.out
   have HNd : Hid (OwnS w2.drew 0 an nn cn (A3 rows)) := OwnR.keep HN2.out (Aa w2 1)
   have HDm : Hid (∀ ks, Dom A ks → ks.Perm (A3 rows)) := fun ks h => HA2.out.names h
   clear HA2 HB2 HN2 HO2 HLs HLl hi
   go_upto_region 8 with fail
   refine Ag 14 (fun w' => w'.cell? ⟨W, 0, none⟩ = some (ptr s) ∧ w'.cell? ⟨W, 1, none⟩ = some (ptr m) ∧ w'.cell? ⟨W, 2, none⟩ = some (.int .i64 now)) [false, false, false, false, false, false, false, false, false, false, false, false, false, false, false] ?_
   iterate 9
    refine tk (v := ?_) 0 HAd.out.lw.c3 ?_ ?_
    rotate_left
    ·(intro w hSw; (try dsimp only at hSw); go_simp; try with_reducible rfl)
    simp only [Act.put, uA, uB, uC]
   refine on1 9 fun K hK => ?_
   go_simp
   refine (HPk).mono ?_
   rintro e w3 ⟨hA3, hm3, hpk⟩
   obtain ⟨kp, bp, rfl, hpq⟩ := hpk.tup
   clear hpk
   refine hK.out _ _ (fun _ => hA3.lw.c3) ?_
   clear hK
   simp only [uA, uB, uC]
   iterate 4
    refine tk (v := ?_) 10 hA3.lw.c3 ?_ ?_
    rotate_left
    ·(intro w hSw; (try dsimp only at hSw); go_simp; try with_reducible rfl)
    simp only [Act.put, uA, uB, uC]
   refine on1 14 fun K hK => ?_
   go_simp
   refine lst hK ?_
   clear hK
   have HE : Hid (Below B w w3 ∧ Al w3 W B s m x now va wa nv nw A V rows FP) := ⟨HBd.out.trans hm3.be, hA3⟩
   have HN3 : Hid (OwnS w3 0 an nn cn (A3 rows)) := owns_mv HNd.out hm3.mv (by decide)
   clear hA3 hm3 HPk HAd HNd HBd
   rcases hpq with ⟨rfl, rfl, hd⟩ | ⟨rfl, hs⟩
   ·have hz : nn = 0 := by
     have h1 := (HDm.out _ hd).length_eq
     have h2 := HNn.out
     simp at h1
     omega
    subst hz
    clear hd
    go_wp2
    go_ret
    exact ⟨rfl, HE.out⟩
   ·have hkm : kp ∈ A3 rows := by
     have h := dom_names HE.out.2.md.nod
     rw [h.iff, ← HE.out.2.vals.some_iff]
     exact hs
    have hnp : (0 : Int) < (nn : Nat) := by
     have h1 := List.length_pos_of_mem hkm
     have h2 := HNn.out
     omega
    have HAt := At25_any an nn cn (A3 rows) kp w3 0 HN3.out (by omega)
    have HM1 : Hid (kp ∈ A3 rows) := hkm
    clear hkm hs
    go_wp2_with fail
    refine HAt.mono ?_
    rintro e w3 ⟨rfl, hat⟩
    obtain ⟨i2, rfl⟩ := hat.some HM1.out
    have hi2 : (0 : Int) ≤ (i2 : Nat) := by omega
    clear hat HAt
    go_wp2
    go_ret
    exact ⟨rfl, HE.out⟩
end Go.Proofs.YtmjeljldmmkcpaaGreat.Sq
