/-
 play: calls on a space, and what is told behind each.
-/
import Derived.Test.YtmjeljldmmkcpaaGreatPa
import Derived.Test.YtmjeljldmmkcpaaGreatPb
import Derived.Test.YtmjeljldmmkcpaaGreatPc
import Derived.Test.YtmjeljldmmkcpaaGreatOl
import Derived.Test.YtmjeljldmmkcpaaGreatOm
import Derived.Test.YtmjeljldmmkcpaaGreatK41
namespace Go.Proofs.YtmjeljldmmkcpaaGreat.Sq
open Go.RowKit Go.PlainAid
open Dk (ptr Aa Ac Ad Af OwnR OwnP OwnS Mv)

theorem do_any (w : World) (W B s m x : Nat) (now : Int) (va wa : Nat) (nv nw : List Int) (A : Ab) (V : BA → Int) (rows : List Kr) (FP : BA → List Nat) (bd : Int) (H : St w W B s m x now va wa nv nw A V rows FP bd) (hW : B ≤ W) (hbd : bd ≤ 900000) (kd xa xb xn xt : Int) (xs : BA) :
  Calls Tryz.prog 21 #[ptr W, .agg #[.int .i64 kd, .int .i64 xa, .int .i64 xb, .int .i64 xn, .int .i64 xt, .string xs]] w fun e w' => DoE w w' W B s m x va wa nv nw (vN A V now) (uN rows now) (bd + 20) e := by
 by_cases h2 : kd = 2 ∨ kd = 3 ∨ kd = 4 ∨ kd = 5
 ·exact do_a w W B s m x now va wa nv nw A V rows FP bd H hW hbd kd xa xb xn xt xs h2
 by_cases h6 : kd = 6 ∨ kd = 7 ∨ kd = 8 ∨ kd = 9
 ·exact do_b w W B s m x now va wa nv nw A V rows FP bd H hW hbd kd xa xb xn xt xs h6
 refine do_c w W B s m x now va wa nv nw A V rows FP bd H hW hbd kd xa xb xn xt xs ?_
 by_cases h1 : kd = 1
 ·exact .inl h1
 ·exact .inr ⟨h1, by omega, by omega, by omega, by omega, by omega, by omega, by omega, by omega⟩
structure Tld (V U : BA → Int) (nv nw : List Int) : Prop where
 v : nv = NM7.map V
 u : nw = NM7.map U
 u0 : ∀ k, 0 ≤ U k
 z : ∀ k, U k = 0 → V k = 0
theorem map_at (V : BA → Int) {i : Nat} (h : i < 7) : (NM7.map V).getD i 0 = V (nmA i) := by
 rw [List.getD_eq_getElem?_getD, List.getElem?_map, NM7_get h]; rfl
theorem Tld.grow {V U V' U' : BA → Int} {nv nw : List Int} (H : Tld V U nv nw) (g : Grow V V' U U') : (∀ i, i < 7 → nv.getD i 0 ≤ V' (nmA i)) ∧ (∀ i, i < 7 → (V' (nmA i) = nv.getD i 0 ↔ U' (nmA i) = nw.getD i 0)) ∧ (∀ k, 0 ≤ U' k) ∧ (∀ k, U' k = 0 → V' k = 0) := by
 refine ⟨fun i hi => by rw [H.v, map_at V hi]; exact g.le _, fun i hi => by rw [H.v, H.u, map_at V hi, map_at U hi]; exact g.iff _, fun k => Int.le_trans (H.u0 k) (g.leu k), fun k hk => ?_⟩
 have h1 := g.leu k
 have h2 := H.u0 k
 have h3 : U k = 0 := by omega
 rw [(g.iff k).2 (by omega)]
 exact H.z k h3
def Pl (w : World) (W B s m x va wa : Nat) (bd : Int) : Prop := ∃ now nv nw A V rows FP, St w W B s m x now va wa nv nw A V rows FP bd ∧ Tld (vN A V now) (uN rows now) nv nw
theorem alike_pl {w w1 : World} {W B s m x va wa : Nat} {nv nw : List Int} {V U : BA → Int} {bd now : Int} (hT : Tld V U nv nw) (hd : DoT w w1 W B s m x now va wa nv nw V U bd) (hva : B ≤ va) (hwa : B ≤ wa) (hbd : bd ≤ 800000) :
  Calls Tryz.prog 23 #[ptr W] w1 fun e w' => e = .returned (.bool true) ∧ Below B w1 w' ∧ ∃ nv' nw' A V rows FP, Al w' W B s m x now va wa nv' nw' A V rows FP ∧ Stl now A V rows (bd + 1) ∧ 0 ≤ now ∧ now ≤ bd + 1 ∧ Tld V (verR rows) nv' nw' := by
 obtain ⟨A, V', rows, FP, H, hg⟩ := hd.dr
 obtain ⟨g1, g2, g3, g4⟩ := hT.grow hg
 refine (alike_any w1 W B s m x now va wa nv nw A V' rows FP bd H hva hwa (by omega) g1 g2 g4).mono ?_
 rintro e w' ⟨rfl, hb, hA⟩
 refine ⟨rfl, hb, _, _, _, _, _, FP, hA, H.stl (by omega), H.t0, by have := H.t1; omega, ?_⟩
 rw [Cr]
 exact ⟨rfl, rfl, g3, g4⟩
theorem Al.pl {w : World} {W B s m x : Nat} {now : Int} {va wa : Nat} {nv nw : List Int} {A : Ab} {V : BA → Int} {rows : List Kr} {bd : Int} {FP : BA → List Nat} (H : Al w W B s m x now va wa nv nw A V rows FP) (S : Stl now A V rows bd) (h0 : 0 ≤ now) (h1 : now ≤ bd) (hT : Tld V (verR rows) nv nw) : Pl w W B s m x va wa bd := by
 obtain ⟨h2, h3, h4⟩ := H.st S h0 h1
 exact ⟨now, nv, nw, A, V, rows, FP, h2, by rw [h3, h4]; exact hT⟩
theorem u64_nat (z : Int) : ∃ cz : Nat, IntKind.u64.wrap z = (cz : Int) ∧ cz < 18446744073709551616 := ⟨(IntKind.u64.wrap z).toNat, by rw [IntKind.wrap_u64]; omega, by rw [IntKind.wrap_u64]; omega⟩
theorem eqlW_nil (w : World) (l : Nat) : (binOp .eql 47 (ptr l) (.pointer none)).run Tryz.prog w = .ok (.bool false) w := by
 rw [run_eql_pointer_nil w 47 (some ⟨l, 0, none⟩) (by rw [Tryz.underlying47]; kernel_rfl)]; rfl
theorem fresh_pl {w1 : World} {W B s m x va wa : Nat} (H : St w1 W B s m x 0 va wa z7 z7 (fun _ => none) (fun _ => 0) [] (fun _ => []) 0) : Pl w1 W B s m x va wa 0 :=
 ⟨0, z7, z7, _, _, _, _, H, ⟨rfl, rfl, fun _ => Int.le_refl _, fun _ _ => rfl⟩⟩
set_option maxRecDepth 100000 in
set_option maxHeartbeats 4000000 in
theorem play_any (x : Nat) (E T : Int) (a : Option Addr) (n c : Nat) (w : World) (hx : x < 18446744073709551616) (hR : RdK w a n) :
  Calls Tryz.prog 18 #[.agg #[.int .u64 (x : Nat), .int .i64 E, .int .i64 T], .slice a n c] w fun e w' => e = .returned (.bool true) ∧ Below w.heap.size w w' := by
 have hb0 : Below w.heap.size w (w.alloc (.cells #[.int .u64 (x : Nat), .int .i64 E, .int .i64 T] 31)) := Ac w _
 obtain ⟨w0, HW0⟩ : ∃ w0, Hid (w.alloc (.cells #[.int .u64 (x : Nat), .int .i64 E, .int .i64 T] 31) = w0) := ⟨_, rfl⟩
 rw [HW0.out] at hb0
 have HB0 : Hid (Below w.heap.size w w0) := hb0
 have HFr := fresh_any w0 x E T hx
 have HRd : Hid (∀ wx, Below w.heap.size w wx → RdK wx a n) := fun wx h => hR.keep h
 have hnm := hR.le
 clear hb0 hR
 go_enter Tryz.func18, Tryz.ntmps18
 go_wp2_with fail
 rw [HW0.out]
 refine HFr.mono ?_
 rintro e w1 ⟨hb1, B, W, s, m, va, wa, hB, rfl, ⟨hB1, hB2, hB3⟩, hS1⟩
 have HBw : Hid (w.heap.size ≤ B) := Nat.le_trans HB0.out.size hB
 have HB1 : Hid (Below w.heap.size w w1) := Ad HB0 hb1
 have HP1 : Hid (Pl w1 W B s m x va wa 0) := fresh_pl hS1
 have HBs : Hid (B ≤ W ∧ B ≤ va ∧ B ≤ wa) := ⟨hB1, hB2, hB3⟩
 have hwn := eqlW_nil w1 W
 clear hb1 hB hB1 hB2 hB3 hS1 HFr
 go_wp2
 go_loopg [6] 51 (fun g iv wr => ∃ i : Nat, i + g = 51 ∧ iv = .int .i64 (i : Nat) ∧ i ≤ 50 ∧ i ≤ n ∧ Hid (Pl wr W B s m x va wa (30 * i)) ∧ Hid (Below w.heap.size w wr))
 case atStart => exact ⟨0, by omega, rfl, by omega, by omega, HP1, HB1⟩
 case round =>
  obtain ⟨i, hig, rfl, hi50, hin, HP, HB⟩ := hrel
  by_cases h8 : (i : Int) < n
  ·by_cases h9 : (i : Int) < 50
   ·obtain ⟨b, off, kd, xa, xb, xn, xt, xs, e0, k0, k1, k2, k3, k4, k5⟩ := (HRd.out _ HB.out).elem i (by omega)
    subst e0
    obtain ⟨now, nv, nw, A, V, rows, FP, hS, hT⟩ := HP.out
    have HDo := do_any wr W B s m x now va wa nv nw A V rows FP _ hS HBs.out.1 (by omega) kd xa xb xn xt xs
    have HT : Hid (Tld (vN A V now) (uN rows now) nv nw) := hT
    obtain ⟨cz, hcz, hcl⟩ := u64_nat ((i : Int) * 11400714819323198485)
    have HCl : Hid (cz < 18446744073709551616) := hcl
    have HIg : Hid (i + gk = 51) := hig
    have hi6 : i * 6 ≤ 300 := by omega
    clear hS hT hcl hig
    go_wp2_with fail
    refine HDo.mono ?_
    rintro e w2 ⟨rfl, nw', hdt⟩
    have HAk := alike_pl HT.out hdt HBs.out.2.1 HBs.out.2.2 (by omega)
    have HB2 : Hid (Below w.heap.size w w2) := HB.out.trans (hdt.be.mono HBw.out)
    clear HDo hdt k0 k1 k2 k3 k4 k5
    go_wp2_with fail
    refine HAk.mono ?_
    rintro e w3 ⟨rfl, hb3, nv', nw'', A', V', rows', FP', hA3, hS3, ht0, ht1, hT3⟩
    have HSc := scans_any w3 W B s m x nw' va wa nv' nw'' A' V' rows' FP' _ hA3 hS3 cz HCl.out
    have HB3 : Hid (Below w.heap.size w w3) := HB2.out.trans (hb3.mono HBw.out)
    have HPl : Hid (∀ w4, Al w4 W B s m x nw' va wa nv' nw'' A' V' rows' FP' → Pl w4 W B s m x va wa (30 * i + 20 + 1)) := fun w4 h => h.pl hS3 ht0 ht1 hT3
    clear HAk hA3 hS3 hT3 hb3 ht0 ht1
    go_wp2_with fail
    refine HSc.mono ?_
    rintro e w4 ⟨rfl, hb4, hA4⟩
    have HB4 : Hid (Below w.heap.size w w4) := HB3.out.trans (hb4.mono HBw.out)
    have HP4 : Hid (Pl w4 W B s m x va wa (30 * ((i + 1 : Nat) : Int))) := by
     obtain ⟨now, nv, nw, A, V, rows, FP, hS, hT⟩ := HPl.out w4 hA4
     have hle : 30 * (i : Int) + 20 + 1 ≤ 30 * ((i + 1 : Nat) : Int) := by omega
     exact ⟨now, nv, nw, A, V, rows, FP, ⟨⟨hS.pr.lw, hS.pr.spc, hS.pr.vle.mono hle⟩, ⟨hS.mr.md, hS.mr.ok.mono hle⟩, hS.vals, hS.t0, Int.le_trans hS.t1 hle⟩, hT⟩
    clear hb4 hA4 HSc
    go_wp2
    go_roundg (gk - 1)
    case measure => have := HIg.out; omega
    case rel => exact ⟨i + 1, by have := HIg.out; omega, by go_num, by omega, by omega, HP4, HB4⟩
   ·go_wp2
    go_ret
    exact ⟨rfl, HB.out⟩
  ·go_wp2
   go_ret
   exact ⟨rfl, HB.out⟩
end Go.Proofs.YtmjeljldmmkcpaaGreat.Sq
