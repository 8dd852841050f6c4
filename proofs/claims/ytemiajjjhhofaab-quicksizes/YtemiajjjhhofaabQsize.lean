/-
  The law QuickSizes.
-/
import Derived.Test.YtemiajjjhhofaabQplay
import Derived.Test.YtemiajjjhhofaabQcpy
namespace Go.Proofs.Ytemiajjjhhofaab
open Go.RowKit Go.PlainAid

theorem Row.other {w w' : World} {F F1 F1' : List Nat} {a : Option Addr} {n c : Nat} {ls : List ByteArray} (h : Row w F a n c ls) (ho : ∀ x, a = some x → x.block ∉ F1) (hd : Left w w' F1 F1') : Row w' F a n c ls ∧ ∀ x, a = some x → x.block ∉ F1' := by
  refine ⟨⟨⟨⟨h.rl.rd.len, h.rl.rd.max, fun j hj => ?_⟩, h.rl.fit, h.rl.max, h.rl.nul⟩, fun x hx => ⟨(h.far x hx).1, Nat.lt_of_lt_of_le (h.far x hx).2 hd.stay.size⟩⟩, fun x hx hm => ?_⟩
  · obtain ⟨b, off, e, hc⟩ := h.rl.rd.cell j hj
    refine ⟨b, off, e, ?_⟩
    rw [World.cell?_of_block (hd.stay.block b (h.far _ e).2 (ho _ e))]
    exact hc
  · rcases hd.new _ hm with h3 | h3
    · exact ho x hx h3
    · have := (h.far x hx).2; omega
/-- Two lists and two rows of the document's, none in another's way. -/
structure Sz (w : World) (B p mp : Nat) (tp : List ByteArray) (F1 : List Nat) (q mq : Nat) (tq : List ByteArray) (F2 : List Nat) (a : Option Addr) (n c : Nat) (a2 : Option Addr) (n2 c2 : Nat) : Prop where
  pr : Pr w B p mp tp F1 q mq tq F2
  r1 : Row w F1 a n c tp
  o1 : ∀ x, a = some x → x.block ∉ F2
  r2 : Row w F2 a2 n2 c2 tq
  o2 : ∀ x, a2 = some x → x.block ∉ F1
theorem Sz.keep {w w' : World} {B p mp q mq n c n2 c2 : Nat} {tp tq : List ByteArray} {F1 F2 : List Nat} {a a2 : Option Addr} (h : Sz w B p mp tp F1 q mq tq F2 a n c a2 n2 c2) (hb : Below w.heap.size w w') : Sz w' B p mp tp F1 q mq tq F2 a n c a2 n2 c2 := ⟨h.pr.keep hb, h.r1.keep hb, h.o1, h.r2.keep hb, h.o2⟩
theorem Sz.one {w w' : World} {B p mp q mq n c n2 c2 n' c' : Nat} {tp tp' tq : List ByteArray} {F1 F1' F2 : List Nat} {a a' a2 : Option Addr} (h : Sz w B p mp tp F1 q mq tq F2 a n c a2 n2 c2) (hQ : QL w' B p mp tp' F1') (hL : Left w w' F1 F1') (hR : Row w' F1' a' n' c' tp') (hF : Fresh w a a') : Sz w' B p mp tp' F1' q mq tq F2 a' n' c' a2 n2 c2 := by
  obtain ⟨k1, k2⟩ := h.r2.other h.o2 hL
  refine ⟨h.pr.one hQ hL, hR, fun x hx hm => ?_, k1, k2⟩
  rcases hF x hx with ⟨y, e, hy⟩ | h1
  · rw [hy] at hm; exact h.o1 y e hm
  · have := (h.pr.b.blocks _ hm).2; omega
theorem Sz.two {w w' : World} {B p mp q mq n c n2 c2 n' c' : Nat} {tp tq tq' : List ByteArray} {F1 F2 F2' : List Nat} {a a2 a' : Option Addr} (h : Sz w B p mp tp F1 q mq tq F2 a n c a2 n2 c2) (hQ : QL w' B q mq tq' F2') (hL : Left w w' F2 F2') (hR : Row w' F2' a' n' c' tq') (hF : Fresh w a2 a') : Sz w' B p mp tp F1 q mq tq' F2' a n c a' n' c' := by
  obtain ⟨k1, k2⟩ := h.r1.other h.o1 hL
  refine ⟨h.pr.two hQ hL, k1, k2, hR, fun x hx hm => ?_⟩
  rcases hF x hx with ⟨y, e, hy⟩ | h1
  · rw [hy] at hm; exact h.o2 y e hm
  · have := (h.pr.a.blocks _ hm).2; omega
theorem QCopy (w : World) (B l most : Nat) (ts : List ByteArray) (F : List Nat) (h : QL w B l most ts F) :
    Calls Try.prog 25 #[ptr l] w fun e w' => Below w.heap.size w w' ∧ ∃ c F', e = .returned (ptr c) ∧ QL w' w.heap.size c most ts F' := by
  obtain ⟨R, ns, h1, h2, h3, rfl⟩ := h.ex
  refine (CopyQ_any B l R most _ ns w h1 h.pos).mono ?_
  rintro e w' ⟨hb, c, R2, ns2, rfl, h4, h5⟩
  have hf : ∀ l1 : List Nd, txN l1 = (l1.map fun d => d.ls).flatten := fun l1 => by unfold txN; rw [List.flatMap_def]
  refine ⟨hb, c, _, rfl, ⟨R2, ns2, h4, fun d hd => ?_, by rw [hf, h5, ← hf]; exact h3, rfl⟩, h.pos, h.few⟩
  have hm : d.ls ∈ ns2.map (fun d => d.ls) := List.mem_map.2 ⟨d, hd, rfl⟩
  rw [h5] at hm
  obtain ⟨d', hd', e⟩ := List.mem_map.1 hm
  rw [← e]; exact h2 d' hd'

def tMore : ByteArray := ⟨#[109, 111, 114, 101]⟩
theorem fit_more : Fit [tMore] := by
  intro s hs
  rw [List.mem_singleton.1 hs]; decide
set_option maxRecDepth 100000 in
set_option maxHeartbeats 3000000 in
theorem sizesQ_any (x y : Int) (a : Option Addr) (n c : Nat) (w : World) (hR : RdQ w a n) :
    Calls Try.prog 6 #[.int .i64 x, .int .i64 y, .slice a n c] w fun e w' => e = .returned (.bool true) ∧ Below w.heap.size w w' := by
  have HR : Hid (RdQ w a n) := hR
  have hnm : n ≤ 9223372036854775807 := hR.max
  have HW1 := fun w => Within_any x 1 3 w (by decide) (by decide) (by decide)
  have HW2 := fun w => Within_any y 4 100 w (by decide) (by decide) (by decide)
  clear hR
  go_enter Try.func6, Try.ntmps6
  go_wp2_with fail
  refine (HW1 w).mono ?_
  rintro e w ⟨rfl, z, hz1, hz2, rfl⟩
  obtain ⟨mp, hmp⟩ : ∃ mo : Nat, max z 1 = mo := ⟨(max z 1).toNat, by omega⟩
  have HN := QNew z w mp hmp (by omega)
  clear HW1 hmp
  go_wp2_with fail
  refine HN.mono ?_
  rintro e w1 ⟨hb, p, F1, rfl, hQ⟩
  have HB1 : Hid (Below w.heap.size w w1) := hb
  have HQ1 : Hid (QL w1 w.heap.size p mp [] F1) := hQ
  clear hb hQ HN
  go_wp2_with fail
  refine (HW2 w1).mono ?_
  rintro e w1 ⟨rfl, z2, hz3, hz4, rfl⟩
  obtain ⟨mq, hmq⟩ : ∃ mo : Nat, max z2 1 = mo := ⟨(max z2 1).toNat, by omega⟩
  have HN := QNew z2 w1 mq hmq (by omega)
  clear HW2 hmq
  go_wp2_with fail
  refine HN.mono ?_
  rintro e w2 ⟨hb, q, F2, rfl, hQ⟩
  have HB2 := step_below HB1 hb
  have HPr : Hid (Pr w2 w.heap.size p mp [] F1 q mq [] F2) := ⟨HQ1.out.keep hb, hQ.down HB1.out.size, fun k hk hm => by
    have h1 := (HQ1.out.blocks k hk).2
    have h2 := (hQ.blocks k hm).1
    omega⟩
  have hnn := notnil w2 p
  have hnq := notnil w2 q
  have hA1 := alloc_below w2 (.cells #[] 9)
  have hA2 := alloc_below (w2.alloc (.cells #[] 9)) (.cells #[] 9)
  have HSz : Hid (Sz ((w2.alloc (.cells #[] 9)).alloc (.cells #[] 9)) w.heap.size p mp [] F1 q mq [] F2 (some ⟨w2.heap.size, 0, none⟩) 0 0 (some ⟨w2.heap.size + 1, 0, none⟩) 0 0) := by
    have h1 := (row_none HPr.out.a).keep hA2
    have h2 := row_none (HPr.out.b.keep hA1)
    rw [show (w2.alloc (.cells #[] 9)).heap.size = w2.heap.size + 1 by simp] at h2
    refine ⟨(HPr.out.keep hA1).keep hA2, h1, fun x hx hm => ?_, h2, fun x hx hm => ?_⟩
    · cases hx
      exact absurd (HPr.out.b.blocks _ hm).2 (Nat.lt_irrefl _)
    · cases hx
      have h3 := (HPr.out.a.blocks _ hm).2
      change w2.heap.size + 1 < w2.heap.size at h3
      omega
  have HB3 := step_below (step_below HB2 hA1) hA2
  clear hb hQ HN hA1 hA2
  go_wp2
  go_loopg [9, 10, 11, 12, 13] 40 (fun g mv nv ov sv iv wr => ∃ (i : Nat) (a1 : Option Addr) (n1 c1 : Nat) (a2 : Option Addr) (n2 c2 : Nat) (ts : List ByteArray), i + g = 40 ∧ i ≤ n ∧ mv = .slice a1 n1 c1 ∧ nv = .slice a2 n2 c2 ∧ ov = .bool true ∧ sv = .bool true ∧ iv = .int .i64 i ∧ Hid (ts.length ≤ 6 * i) ∧ Hid (∃ F1 F2, Sz wr w.heap.size p mp ts F1 q mq ts F2 a1 n1 c1 a2 n2 c2) ∧ Hid (Below w.heap.size w wr))
  case atStart => exact ⟨0, _, _, _, _, _, _, [], by omega, by omega, rfl, rfl, rfl, rfl, rfl, Nat.le_refl _, ⟨F1, F2, HSz.out⟩, HB3⟩
  case round =>
    obtain ⟨i, a1, n1, c1, a2, n2, c2, ts, hi, hin, rfl, rfl, rfl, rfl, rfl, HTl, HQR, HB⟩ := hrel
    go_upto_region 7 with fail
    go_cut [36] from 29 to 72 (fun v wx => wr = wx ∧ ((v = .bool true ∧ (i : Int) < n ∧ (i : Int) < 40) ∨ v = .bool false))
    case first =>
      by_cases h1 : (i : Int) < n
      · by_cases h2 : (i : Int) < 40
        · go_wp2
          go_meet
          exact ⟨rfl, .inl ⟨rfl, h1, h2⟩⟩
        · go_wp2
          go_meet
          exact ⟨rfl, .inr rfl⟩
      · go_wp2
        go_meet
        exact ⟨rfl, .inr rfl⟩
    case rest =>
    obtain ⟨rfl, ⟨rfl, h1, h2⟩ | rfl⟩ := hcut
    · obtain ⟨b, off, ha, kind, A, B, S, P, xa, xn, xc, af, xl, hc0, hc1, hc2, hc3, hc4, hc5, hc6, hI, hJ, hX⟩ := HR.out.elem i (by omega)
      subst ha
      have k0 : wr.cell? ⟨b, off + i * 7, none⟩ = some (.int .i64 kind) := by rw [HB.out.cell (p := ⟨b, off + i * 7, none⟩) (World.block_lt_of_cell? _ _ hc0)]; exact hc0
      have k1 : wr.cell? ⟨b, off + i * 7 + 1, none⟩ = some (.int .i64 A) := by rw [HB.out.cell (p := ⟨b, off + i * 7 + 1, none⟩) (World.block_lt_of_cell? _ _ hc1)]; exact hc1
      have k2 : wr.cell? ⟨b, off + i * 7 + 2, none⟩ = some (.int .i64 B) := by rw [HB.out.cell (p := ⟨b, off + i * 7 + 2, none⟩) (World.block_lt_of_cell? _ _ hc2)]; exact hc2
      have k3 : wr.cell? ⟨b, off + i * 7 + 3, none⟩ = some (.string S) := by rw [HB.out.cell (p := ⟨b, off + i * 7 + 3, none⟩) (World.block_lt_of_cell? _ _ hc3)]; exact hc3
      have k4 : wr.cell? ⟨b, off + i * 7 + 4, none⟩ = some (.string P) := by rw [HB.out.cell (p := ⟨b, off + i * 7 + 4, none⟩) (World.block_lt_of_cell? _ _ hc4)]; exact hc4
      have k5 : wr.cell? ⟨b, off + i * 7 + 5, none⟩ = some (.slice xa xn xc) := by rw [HB.out.cell (p := ⟨b, off + i * 7 + 5, none⟩) (World.block_lt_of_cell? _ _ hc5)]; exact hc5
      have k6 : wr.cell? ⟨b, off + i * 7 + 6, none⟩ = some (.bool af) := by rw [HB.out.cell (p := ⟨b, off + i * 7 + 6, none⟩) (World.block_lt_of_cell? _ _ hc6)]; exact hc6
      have HC : Hid (w.cell? ⟨b, off + i * 7, none⟩ = some (.int .i64 kind) ∧ w.cell? ⟨b, off + i * 7 + 1, none⟩ = some (.int .i64 A) ∧ w.cell? ⟨b, off + i * 7 + 2, none⟩ = some (.int .i64 B) ∧ w.cell? ⟨b, off + i * 7 + 3, none⟩ = some (.string S) ∧ w.cell? ⟨b, off + i * 7 + 4, none⟩ = some (.string P) ∧ w.cell? ⟨b, off + i * 7 + 5, none⟩ = some (.slice xa xn xc) ∧ w.cell? ⟨b, off + i * 7 + 6, none⟩ = some (.bool af)) := ⟨hc0, hc1, hc2, hc3, hc4, hc5, hc6⟩
      have HX : Hid (RdS w xa xn xl) := hX
      have HI : Hid (I64 A) := hI
      have HJ : Hid (I64 B) := hJ
      clear hc0 hc1 hc2 hc3 hc4 hc5 hc6 hX hI hJ
      obtain ⟨G1, G2, hS⟩ := HQR.out
      have HD := do_any wr w.heap.size p mp ts G1 hS.pr.a a1 n1 c1 hS.r1 A B S P xa xn xc af kind xl (HX.out.keep HB.out) HI.out HJ.out (by have := HTl.out; omega)
      have HDq := fun w2 G2 (hq : QL w2 w.heap.size q mq ts G2) (hr : Row w2 G2 a2 n2 c2 ts) (hx : RdS w2 xa xn xl) => do_any w2 w.heap.size q mq ts G2 hq a2 n2 c2 hr A B S P xa xn xc af kind xl hx HI.out HJ.out (by have := HTl.out; omega)
      have HDl : Hid ((doN ts kind A B S P af xl).length ≤ 6 * (i + 1)) := by have h4 := doN_len ts A B S P af kind xl; have h5 := HTl.out; show _ ≤ _; omega
      generalize doN ts kind A B S P af xl = ts2 at HD HDl HDq
      have HS : Hid (Sz wr w.heap.size p mp ts G1 q mq ts G2 a1 n1 c1 a2 n2 c2) := hS
      clear hS
      go_wp2_with fail
      refine HD.mono ?_
      rintro e w2 ⟨G3, a3, n3, c3, rfl, hQ3, hL3, hR3, hF3⟩
      have HB2 : Hid (Below w.heap.size w w2) := HB.out.trans (QDoes.below HS.out.pr.a hL3)
      have HS2 : Hid (Sz w2 w.heap.size p mp ts2 G3 q mq ts G2 a3 n3 c3 a2 n2 c2) := HS.out.one hQ3 hL3 hR3 hF3
      have m0 : w2.cell? ⟨b, off + i * 7, none⟩ = some (.int .i64 kind) := by rw [HB2.out.cell (p := ⟨b, off + i * 7, none⟩) (World.block_lt_of_cell? _ _ HC.out.1)]; exact HC.out.1
      have m1 : w2.cell? ⟨b, off + i * 7 + 1, none⟩ = some (.int .i64 A) := by rw [HB2.out.cell (p := ⟨b, off + i * 7 + 1, none⟩) (World.block_lt_of_cell? _ _ HC.out.2.1)]; exact HC.out.2.1
      have m2 : w2.cell? ⟨b, off + i * 7 + 2, none⟩ = some (.int .i64 B) := by rw [HB2.out.cell (p := ⟨b, off + i * 7 + 2, none⟩) (World.block_lt_of_cell? _ _ HC.out.2.2.1)]; exact HC.out.2.2.1
      have m3 : w2.cell? ⟨b, off + i * 7 + 3, none⟩ = some (.string S) := by rw [HB2.out.cell (p := ⟨b, off + i * 7 + 3, none⟩) (World.block_lt_of_cell? _ _ HC.out.2.2.2.1)]; exact HC.out.2.2.2.1
      have m4 : w2.cell? ⟨b, off + i * 7 + 4, none⟩ = some (.string P) := by rw [HB2.out.cell (p := ⟨b, off + i * 7 + 4, none⟩) (World.block_lt_of_cell? _ _ HC.out.2.2.2.2.1)]; exact HC.out.2.2.2.2.1
      have m5 : w2.cell? ⟨b, off + i * 7 + 5, none⟩ = some (.slice xa xn xc) := by rw [HB2.out.cell (p := ⟨b, off + i * 7 + 5, none⟩) (World.block_lt_of_cell? _ _ HC.out.2.2.2.2.2.1)]; exact HC.out.2.2.2.2.2.1
      have m6 : w2.cell? ⟨b, off + i * 7 + 6, none⟩ = some (.bool af) := by rw [HB2.out.cell (p := ⟨b, off + i * 7 + 6, none⟩) (World.block_lt_of_cell? _ _ HC.out.2.2.2.2.2.2)]; exact HC.out.2.2.2.2.2.2
      have HDq := HDq w2 G2 HS2.out.pr.b HS2.out.r2 (HX.out.keep HB2.out)
      clear hQ3 hL3 hR3 hF3 HD
      go_wp2_with fail
      refine HDq.mono ?_
      rintro e w3 ⟨G4, a4, n4, c4, rfl, hQ4, hL4, hR4, hF4⟩
      have HB3 : Hid (Below w.heap.size w w3) := HB2.out.trans (QDoes.below HS2.out.pr.b hL4)
      have HS3 : Hid (Sz w3 w.heap.size p mp ts2 G3 q mq ts2 G4 a3 n3 c3 a4 n4 c4) := HS2.out.two hQ4 hL4 hR4 hF4
      have HA1 := QAll w3 w.heap.size p mp ts2 G3 HS3.out.pr.a (by have := HDl.out; omega)
      clear hQ4 hL4 hR4 hF4 HDq
      go_wp2_with fail
      refine HA1.mono ?_
      rintro e w4 ⟨hb, a5, n5, c5, rfl, hO5⟩
      have HB4 := step_below HB3 hb
      have HS4 : Hid (Sz w4 w.heap.size p mp ts2 G3 q mq ts2 G4 a3 n3 c3 a4 n4 c4) := HS3.out.keep hb
      have HO5 : Hid (OwnS w4 w3.heap.size a5 n5 c5 ts2) := hO5
      have HA2 := QAll w4 w.heap.size q mq ts2 G4 HS4.out.pr.b (by have := HDl.out; omega)
      clear hb hO5 HA1
      go_wp2_with fail
      refine HA2.mono ?_
      rintro e w5 ⟨hb, a6, n6, c6, rfl, hO6⟩
      have HB5 := step_below HB4 hb
      have HS5 : Hid (Sz w5 w.heap.size p mp ts2 G3 q mq ts2 G4 a3 n3 c3 a4 n4 c4) := HS4.out.keep hb
      have HLs := Lists_of w5 a5 a6 n5 c5 n6 c6 ts2 (HO5.out.keep hb).rd hO6.rd
      clear hb hO6 HA2
      go_wp2_with fail
      refine HLs.mono ?_
      rintro e w6 ⟨hb, rfl⟩
      have HB6 := step_below HB5 hb
      have HS6 : Hid (∃ F1 F2, Sz w6 w.heap.size p mp ts2 F1 q mq ts2 F2 a3 n3 c3 a4 n4 c4) := ⟨G3, G4, HS5.out.keep hb⟩
      clear hb HLs
      go_wp2
      go_roundg (gk - 1)
      case measure => omega
      case rel => exact ⟨i + 1, a3, n3, c3, a4, n4, c4, ts2, by omega, by omega, rfl, rfl, rfl, rfl, by go_num, HDl, HS6, HB6⟩
    · obtain ⟨G1, G2, hS⟩ := HQR.out
      have HS : Hid (Sz wr w.heap.size p mp ts G1 q mq ts G2 a1 n1 c1 a2 n2 c2) := hS
      have HCp := QCopy wr w.heap.size p mp ts G1 hS.pr.a
      obtain ⟨tl, htl⟩ : ∃ tl, ts.length = tl := ⟨_, rfl⟩
      have HTL : Hid (ts.length = tl) := htl
      have htm : tl ≤ 240 := by have := HTl.out; omega
      have hwt : IntKind.i64.wrap ((tl : Int) + 1) = (tl : Int) + 1 := by rw [IntKind.wrap_i64]; omega
      clear hS htl
      go_wp2_with fail
      refine HCp.mono ?_
      rintro e w2 ⟨hb, cc, F3, rfl, hQc⟩
      have HBc : Hid (Below wr.heap.size wr w2) := hb
      have hA := alloc_below w2 (.cells #[.string ⟨#[109, 111, 114, 101]⟩] 9)
      have hO := OwnS.made w2 [tMore] w2.heap.size 1 rfl (Nat.le_refl _) (by decide) #[.string ⟨#[109, 111, 114, 101]⟩] rfl
      have hQ1 := hQc.keep hA
      have HRi := QRight _ wr.heap.size cc mp ts F3 hQ1 (some ⟨w2.heap.size, 0, none⟩) 1 1 [tMore] (hQ1.rdf hO) fit_more (by have := HTL.out; omega)
      have HQ1 : Hid (QL (w2.alloc (.cells #[.string ⟨#[109, 111, 114, 101]⟩] 9)) wr.heap.size cc mp ts F3) := hQ1
      have HBd : Hid (Below wr.heap.size wr (w2.alloc (.cells #[.string ⟨#[109, 111, 114, 101]⟩] 9))) := step_below HBc hA
      have hnc := notnil w2 cc
      clear hb hQc hA hO hQ1 HCp
      go_wp2_with fail
      refine HRi.mono ?_
      rintro e w4 ⟨rfl, F4, hQ4, hL4⟩
      have HBe : Hid (Below wr.heap.size wr w4) := HBd.out.trans (QDoes.below HQ1.out hL4)
      have HB4 : Hid (Below w.heap.size w w4) := step_below HB HBe.out
      have HS4 : Hid (Sz w4 w.heap.size p mp ts G1 q mq ts G2 a1 n1 c1 a2 n2 c2) := HS.out.keep HBe.out
      have HQ4 : Hid (QL w4 wr.heap.size cc mp (ts ++ [tMore]) F4) := hQ4
      have HLn : Hid (∀ wx, Below w4.heap.size w4 wx → Calls Try.prog 21 #[ptr p] wx fun e w' => e = .returned (.int .i64 (tl : Nat)) ∧ w' = wx) := fun wx hb => by have h := QLen wx w.heap.size p mp ts G1 (HS4.out.keep hb).pr.a; rw [HTL.out] at h; exact h
      have HLc : Hid (∀ wx, Below w4.heap.size w4 wx → Calls Try.prog 21 #[ptr cc] wx fun e w' => e = .returned (.int .i64 ((tl : Int) + 1)) ∧ w' = wx) := fun wx hb => by have h := QLen wx wr.heap.size cc mp (ts ++ [tMore]) F4 (HQ4.out.keep hb); rw [List.length_append, HTL.out] at h; exact h
      have HAp : Hid (∀ wx, Below w4.heap.size w4 wx → Calls Try.prog 24 #[ptr p] wx fun e w' => Below wx.heap.size wx w' ∧ ∃ a2 n2 c2, e = .returned (.slice a2 n2 c2) ∧ OwnS w' wx.heap.size a2 n2 c2 ts) := fun wx hb => QAll wx w.heap.size p mp ts G1 (HS4.out.keep hb).pr.a (by have := HTL.out; omega)
      have HAq : Hid (∀ wx, Below w4.heap.size w4 wx → Calls Try.prog 24 #[ptr q] wx fun e w' => Below wx.heap.size wx w' ∧ ∃ a2 n2 c2, e = .returned (.slice a2 n2 c2) ∧ OwnS w' wx.heap.size a2 n2 c2 ts) := fun wx hb => QAll wx w.heap.size q mq ts G2 (HS4.out.keep hb).pr.b (by have := HTL.out; omega)
      have HAc : Hid (∀ wx, Below w4.heap.size w4 wx → Calls Try.prog 24 #[ptr cc] wx fun e w' => Below wx.heap.size wx w' ∧ ∃ a2 n2 c2, e = .returned (.slice a2 n2 c2) ∧ OwnS w' wx.heap.size a2 n2 c2 (ts ++ [tMore])) := fun wx hb => QAll wx wr.heap.size cc mp (ts ++ [tMore]) F4 (HQ4.out.keep hb) (by rw [List.length_append, HTL.out]; simp; omega)
      have HTk : Hid ((ts ++ [tMore]).take tl = ts) := by show _ = _; rw [← HTL.out]; exact List.take_left
      have HD4 : Hid (Below w4.heap.size w4 w4.drew) := below_drewN w4 1
      clear hQ4 hL4 HRi
      go_wp2_with fail
      go_region_with (first
        | (go_at_call 24; refine (HAp.out _ HD4.out).mono ?_; rintro e w5 ⟨hb, a5, n5, c5, rfl, hO⟩; have HD5 : Hid (Below w4.heap.size w4 w5) := step_below HD4 hb; have HO5 : Hid (RdS w5 a5 n5 ts) := hO.rd; clear hb hO)
        | (go_at_call 24; refine (HAq.out _ HD5.out).mono ?_; rintro e w6 ⟨hb, a6, n6, c6, rfl, hO⟩; have HD6 := step_below HD5 hb; have HLs := Lists_of w6 a5 a6 n5 c5 n6 c6 ts (HO5.out.keep hb) hO.rd; clear hb hO)
        | (go_at_call 23; refine HLs.mono ?_; rintro e w7 ⟨hb, rfl⟩; have HD7 := step_below HD6 hb; clear hb HLs)
        | (go_at_call 21; refine (HLc.out _ HD7.out).mono ?_; rintro e w8 ⟨rfl, rfl⟩)
        | (go_at_call 21; refine (HLn.out _ HD7.out).mono ?_; rintro e w8 ⟨rfl, rfl⟩)
        | (go_at_call 24; refine (HAc.out _ HD7.out).mono ?_; rintro e w8 ⟨hb, a8, n8, c8, rfl, hO⟩; have HD8 := step_below HD7 hb; obtain ⟨a9, c9, s9, hR9⟩ := hO.rl.slice_h tl (by have h := hO.len; rw [List.length_append, HTL.out] at h; simp at h; omega); rw [HTk.out] at hR9; have HO9 : Hid (RdS w8 a9 tl ts) := hR9.rd; clear hb hO hR9)
        | (go_at_call 21; refine (HLn.out _ HD8.out).mono ?_; rintro e w9 ⟨rfl, rfl⟩)
        | (go_at_call 24; refine (HAp.out _ HD8.out).mono ?_; rintro e w10 ⟨hb, a10, n10, c10, rfl, hO⟩; have HD10 := step_below HD8 hb; have HLs2 := Lists_of w10 a9 a10 tl c9 n10 c10 ts (HO9.out.keep hb) hO.rd; clear hb hO)
        | (go_at_call 23; refine HLs2.mono ?_; rintro e w11 ⟨hb, rfl⟩; have HD11 := step_below HD10 hb; have HKn := knownQ_any w11; clear hb HLs2)
        | (go_at_call 22; refine HKn.mono ?_; rintro e w12 ⟨hb, rfl⟩; have HB12 := step_below HB4 (step_below HD11 hb).out; clear hb HKn))
      all_goals (go_wp2; go_ret; exact ⟨rfl, HB12.out⟩)
end Go.Proofs.Ytemiajjjhhofaab
