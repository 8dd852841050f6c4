/-
  TableSplits.
-/
import Derived.Test.YtnmonhendidhkaaSplit
namespace Go.Proofs.Ytnmonhendidhkaa
open Go.RowKit Go.PlainAid

/-- Keys, each with its length. -/
def sized (ks : List ByteArray) : List En := ks.map fun k => (k, (k.size : Int))
theorem keys_sized (ks : List ByteArray) : keysOf (sized ks) = ks := by unfold keysOf sized; rw [List.map_map]; exact List.map_id _
theorem sized_append (l r : List ByteArray) : sized (l ++ r) = sized l ++ sized r := List.map_append ..
theorem sized_filter (f : ByteArray → Bool) (ks : List ByteArray) : (sized ks).filter (fun e => f e.1) = sized (ks.filter f) := by unfold sized; rw [List.filter_map]; rfl
/-- The texts whose hash has that bit. -/
def onesK (x : Nat) (bit : Int) (ks : List ByteArray) : List ByteArray := ks.filter fun k => bset (hsh x k) bit
def zerosK (x : Nat) (bit : Int) (ks : List ByteArray) : List ByteArray := ks.filter fun k => !bset (hsh x k) bit
theorem ones_sized (x : Nat) (bit : Int) (ks : List ByteArray) : onesOf x bit (sized ks) = sized (onesK x bit ks) := sized_filter (fun k => bset (hsh x k) bit) ks
theorem zeros_sized (x : Nat) (bit : Int) (ks : List ByteArray) : zerosOf x bit (sized ks) = sized (zerosK x bit ks) := sized_filter (fun k => !bset (hsh x k) bit) ks
theorem snoc_bits {x : Nat} {bit : Int} {ks : List ByteArray} {k : ByteArray} {b : Bool} (h : bset (hsh x k) bit = b) :
    onesK x bit (ks ++ [k]) = onesK x bit ks ++ (if b = true then [k] else []) ∧ zerosK x bit (ks ++ [k]) = zerosK x bit ks ++ (if b = true then [] else [k]) := by
  unfold onesK zerosK
  rw [List.filter_append, List.filter_append]
  subst h
  cases hb : bset (hsh x k) bit <;> simp [hb]
/-- Two rows are in unlike blocks. -/
def Apart (a a' : Option Addr) : Prop := ∀ k, a.map (·.block) = some k → a'.map (·.block) ≠ some k
theorem Apart.symm {a a' : Option Addr} (h : Apart a a') : Apart a' a := fun k hk hk' => h k hk' hk
/-- Behind an append of the first row. -/
theorem Apart.goes {w : World} {a a' a2 : Option Addr} {B : Nat} {e : TypeId} {s n cap : Nat} {cs : List Value} (h : Apart a a') (hg : Goes w a a2) (h' : OwnR w B e s a' n cap cs) : Apart a2 a' := by
  intro k hk hk'
  rcases hg with hg | hg
  · rw [hg] at hk; exact h k hk hk'
  · rw [hg] at hk
    have := (h'.lt hk').2.1
    cases hk
    omega

/-- Rows x and y of the law. -/
structure XY (w : World) (B : Nat) (xa : Option Addr) (xn xc : Nat) (xs : List ByteArray) (ya : Option Addr) (yn yc : Nat) (ys : List ByteArray) : Prop where
  xo : OwnS w B xa xn xc xs
  yo : OwnS w B ya yn yc ys
  ap : Apart xa ya
theorem XY.keep {w wn : World} {B : Nat} {xa ya : Option Addr} {xn xc yn yc : Nat} {xs ys : List ByteArray} (h : XY w B xa xn xc xs ya yn yc ys) (hb : Below w.heap.size w wn) : XY wn B xa xn xc xs ya yn yc ys := ⟨OwnR.keep h.xo hb, OwnR.keep h.yo hb, h.ap⟩
theorem XY.addX {w w2 : World} {B : Nat} {xa xa2 ya : Option Addr} {xn xc yn yc xn2 xc2 : Nat} {xs xs2 ys : List ByteArray} (h : XY w B xa xn xc xs ya yn yc ys) (ho : OwnS w2 B xa2 xn2 xc2 xs2) (hg : w.grownBy w2 (xa.map (·.block))) (hw : Goes w xa xa2) : XY w2 B xa2 xn2 xc2 xs2 ya yn yc ys :=
  ⟨ho, OwnR.grown h.yo hg (fun k hk e => h.ap k e hk), h.ap.goes hw h.yo⟩
theorem XY.addY {w w2 : World} {B : Nat} {xa ya ya2 : Option Addr} {xn xc yn yc yn2 yc2 : Nat} {xs ys ys2 : List ByteArray} (h : XY w B xa xn xc xs ya yn yc ys) (ho : OwnS w2 B ya2 yn2 yc2 ys2) (hg : w.grownBy w2 (ya.map (·.block))) (hw : Goes w ya ya2) : XY w2 B xa xn xc xs ya2 yn2 yc2 ys2 :=
  ⟨OwnR.grown h.xo hg (fun k hk e => h.ap k hk e), ho, (h.ap.symm.goes hw h.xo).symm⟩

set_option maxRecDepth 100000 in
set_option maxHeartbeats 8000000 in
theorem splits_any (x : Nat) (a : Option Addr) (n cap : Nat) (bit : Int) (w : World) (hx : x < 18446744073709551616) (hR : RdA w a n) (hbit : -9223372036854775808 ≤ bit ∧ bit ≤ 9223372036854775807) :
    Calls Try.prog 5 #[.int .u64 x, .slice a n cap, .int .i64 bit] w fun e w' => e = .returned (.bool true) ∧ Below w.heap.size w w' := by
  have HN1 := fun w => NewT x w hx
  have HR : Hid (RdA w a n) := hR
  have HKn := known_any
  have hn : n ≤ 9223372036854775807 := hR.max
  have HKY := key_any
  have HWi := fun w => Within_any bit 0 63 w (by decide) (by decide) (by decide)
  obtain ⟨hbit1, hbit2⟩ := hbit
  clear hR
  go_enter Try.func5, Try.ntmps5
  go_wp2_with fail
  refine (HN1 _).mono ?_
  rintro e w1 ⟨hb1, p, b, rfl, hT1⟩
  have HB1 : Hid (Below w.heap.size w w1) := hb1
  have HT1 : Hid (Tbl w1 w.heap.size p b x (sized [])) := hT1
  have HO1 : Hid (OwnS w1 w.heap.size none 0 0 []) := OwnR.nil _ _ _ _
  clear hb1 hT1 HN1
  go_wp2
  go_loopg [8, 9, 10] 112 (fun g kv iv sv wr => ∃ (i b : Nat) (ka : Option Addr) (m kc : Nat) (ks : List ByteArray), i + g = 112 ∧ i ≤ n ∧ m ≤ i ∧ iv = .int .i64 i ∧ kv = .slice ka m kc ∧ Hid (OwnS wr w.heap.size ka m kc ks) ∧ Hid (Tbl wr w.heap.size p b x (sized ks)) ∧ Hid (∀ k ∈ ks, k.size ≤ 1000) ∧ Hid (Below w.heap.size w wr))
  case atStart => exact ⟨0, b, none, 0, 0, [], by omega, Nat.zero_le _, Nat.zero_le _, rfl, rfl, HO1, HT1, fun k hk => absurd hk (by simp), HB1⟩
  case round =>
    clear HT1 HB1 HO1
    obtain ⟨i, b, ka, m, kc, ks, hi, hin, hmi, rfl, rfl, HO, HT, HSz, HB⟩ := hrel
    by_cases hgo : (i : Int) < n ∧ (i : Int) < 112
    · obtain ⟨h1, h2⟩ := hgo
      have h1' : i < n := by omega
      obtain ⟨bb, off, ha, kind, N, V, S, c0, c1, c2, c3⟩ := (HR.out.keep HB.out).elem i h1'
      subst ha
      go_wp2_with fail
      refine (HKY kind N V S _).mono ?_
      rintro e w3 ⟨hb3, k, rfl, hk⟩
      have hk' : k.size ≤ maxLen := by unfold maxLen; omega
      have HKS : Hid (k.size ≤ 1000) := hk
      have hkz : (k.size : Int) ≤ 1000 := by omega
      have HT3 : Hid (Tbl w3 w.heap.size p b x (sized ks)) := HT.out.keep hb3
      have HO3 : Hid (OwnS w3 w.heap.size ka m kc ks) := OwnR.keep HO.out hb3
      have HB3 := step_below HB hb3
      have HLn : Hid (ks.length = m) := OwnS.len HO.out
      have HTi := fun w hO => Times_any ka m kc ks k w hO (by omega)
      clear hb3 c0 c1 c2 c3 HT HB HKY HKn HWi HO
      by_cases hin : k ∈ ks
      · have hcz : cnt ks k ≠ 0 := fun h => cnt_zero.1 h hin
        obtain ⟨la, lc, rfl⟩ := List.append_of_mem hin
        have hP := PutT_old _ _ _ _ (sized la) (sized lc) k k.size k.size w3 (by have := HT3.out; rw [sized_append] at this; exact this) hk'
        have hcb : ((cnt (la ++ k :: lc) k : Int) == 0) = false := by simp; omega
        have HEs : Hid (sized la ++ (k, (k.size : Int)) :: sized lc = sized (la ++ k :: lc)) := by show _ = _; rw [sized_append]; rfl
        rw [HEs.out] at hP
        generalize cnt (la ++ k :: lc) k = cn at HTi hcz hcb
        generalize la ++ k :: lc = ks at *
        clear hin hcz
        go_wp2_with fail
        refine (HTi _ (OwnR.low HO3.out (Nat.zero_le _))).mono ?_
        rintro e w3 ⟨rfl, rfl⟩
        go_wp2_with fail
        refine hP.mono ?_
        rintro e w4 ⟨rfl, hm4, hT4⟩
        have HT4 : Hid (Tbl w4 w.heap.size p b x (sized ks)) := hT4
        have HO4 : Hid (OwnS w4 w.heap.size ka m kc ks) := OwnR.movesT HO3.out hm4 HT3.out (by decide) (by decide)
        have HB4 : Hid (Below w.heap.size w w4) := HB3.out.trans (HT3.out.below hm4)
        clear hm4 hT4 hP HTi
        go_wp2
        go_roundg (gk - 1)
        case measure => omega
        case rel => exact ⟨i + 1, b, ka, m, kc, ks, by omega, by omega, by omega, by go_num, rfl, HO4, HT4, HSz, HB4⟩
      · have hc0 : cnt ks k = 0 := cnt_zero.2 hin
        rw [hc0] at HTi
        have hsz3 := HB3.out.size
        have HNI : Hid (k ∉ ks) := hin
        have HNn : Hid (m + 1 ≤ 1000000) := by show _ ≤ _; omega
        clear hc0 hin
        go_wp2_with fail
        refine (HTi _ (OwnR.low HO3.out (Nat.zero_le _))).mono ?_
        rintro e w3 ⟨rfl, rfl⟩
        clear HTi
        go_wp2_with (at_builtin; refine append_s rfl (.tmp 44) (.tmp 46) rfl w.heap.size rfl (OwnR.keep HO3.out (alloc_below w3 _)) rfl (by simp; rfl) HNn.out (Nat.le_trans hsz3 (alloc_below w3 _).size) ?_; intro a4 n4 c4 w4 hn4 HO4 HG4 HW4; have HT4 : Hid (Tbl w4 w.heap.size p b x (sized ks)) := (HT3.out.keep (alloc_below w3 _)).grown (OwnR.keep HO3.out (alloc_below w3 _)) HG4.out (by decide) (by decide); have HB4 : Hid (Below w.heap.size w w4) := (HB3.out.trans ((alloc_below w3 _).mono hsz3)).trans ((OwnR.keep HO3.out (alloc_below w3 _)).below HG4.out (Nat.le_trans hsz3 (alloc_below w3 _).size)); have hP := PutT_new _ _ _ _ (sized ks) k k.size w4 HT4.out hk' (by rw [keys_sized]; exact HNI.out) (by have := HLn.out; unfold sized; rw [List.length_map]; omega); clear HW4 HG4)
        refine hP.mono ?_
        rintro e w5 ⟨rfl, hm5, b5, hT5, hb5⟩
        have HT5 : Hid (Tbl w5 w.heap.size p b5 x (sized (ks ++ [k]))) := by rw [sized_append]; exact hT5
        have HO5 : Hid (OwnS w5 w.heap.size a4 n4 c4 (ks ++ [k])) := OwnR.movesT HO4.out hm5 HT4.out (by decide) (by decide)
        have HB5 : Hid (Below w.heap.size w w5) := HB4.out.trans (HT4.out.below hm5)
        have HSz5 : Hid (∀ s ∈ ks ++ [k], s.size ≤ 1000) := by
          intro s hs
          rcases List.mem_append.1 hs with hs | hs
          · exact HSz.out s hs
          · rw [List.mem_singleton.1 hs]; exact HKS.out
        clear hm5 hT5 hb5 hP HO4
        go_wp2
        go_roundg (gk - 1)
        case measure => omega
        case rel => exact ⟨i + 1, b5, a4, _, c4, _, by omega, by omega, by omega, by go_num, rfl, by rw [← hn4]; exact HO5, HT5, HSz5, HB5⟩
    · clear HKY hi HR
      go_upto_region 6 with fail
      go_cut [32] from 25 to 32 (fun v wx => v = .bool false ∧ wx = wr)
      case first =>
        by_cases h1 : (i : Int) < n
        · have h2 : ¬ (i : Int) < 112 := fun h => hgo ⟨h1, h⟩
          clear hgo
          go_wp2
          go_meet
          exact ⟨rfl, rfl⟩
        · clear hgo
          go_wp2
          go_meet
          exact ⟨rfl, rfl⟩
      case rest =>
      obtain ⟨rfl, rfl⟩ := hcut
      have hm : m ≤ 112 := by
        have h1 := HT.out.le
        have h2 := OwnS.len HO.out
        unfold sized at h1
        rw [List.length_map] at h1
        omega
      clear hgo hin hmi
      go_wp2_with fail
      refine (HWi _).mono ?_
      rintro e wc ⟨rfl, z, hz0, hz1, rfl⟩
      obtain ⟨w3, hw3⟩ : ∃ w3, wc.alloc (.cells #[.int .i64 bit, .int .i64 z] 3) = w3 := ⟨_, rfl⟩
      obtain ⟨g3, hg3⟩ : ∃ g3, wc.heap.size = g3 := ⟨_, rfl⟩
      have HA3 : Hid (Below wc.heap.size wc w3) := by show Below _ _ _; rw [← hw3]; exact alloc_below wc _
      have HC3 : Hid (∀ w', Below w3.heap.size w3 w' → w'.cell? ⟨g3, 0, none⟩ = some (.int .i64 bit) ∧ w'.cell? ⟨g3, 1, none⟩ = some (.int .i64 z)) := by
        intro w' hb
        have hh : w3.heap[g3]? = some (.cells #[.int .i64 bit, .int .i64 z] 3 (0, 0)) := by rw [← hw3, ← hg3]; exact heap_alloc_new wc _
        have hh' : w'.heap[g3]? = some (.cells #[.int .i64 bit, .int .i64 z] 3 (0, 0)) := by rw [hb.block g3 (Array.getElem?_eq_some_iff.1 hh).1]; exact hh
        exact ⟨by simp only [World.cell?, hh']; rfl, by simp only [World.cell?, hh']; rfl⟩
      have HT3 : Hid (Tbl w3 w.heap.size p b x (sized ks)) := HT.out.keep HA3.out
      have HO3 : Hid (OwnS w3 w.heap.size ka m kc ks) := OwnR.keep HO.out HA3.out
      have HB3 := step_below HB HA3.out
      have HLn : Hid (ks.length = m) := OwnS.len HO.out
      clear HT HO HB HA3 HWi
      go_wp2
      go_loopg [12, 13, 14, 15, 16, 17, 18, 19, 20, 59, 63, 136] 2 (fun g nv av bv xv yv iv jv vv okv uv t1 t2 wr => ∃ u : Nat, u + g = 2 ∧ uv = .int .i64 u ∧ Hid (Below w3.heap.size w3 wr))
      case atStart => exact ⟨0, by omega, rfl, Below.refl _ _⟩
      case round =>
        obtain ⟨u, hu, rfl, HB⟩ := hrel
        obtain ⟨gu, hgu⟩ : ∃ gu, gu = gk := ⟨_, rfl⟩
        subst hgu
        obtain ⟨wa, hwa⟩ : ∃ wa, wa = wr := ⟨_, rfl⟩
        subst hwa
        have HU : Hid (u + gu = 2) := hu
        by_cases h2 : (u : Int) < 2
        · obtain ⟨N, hN, hN1, hN2⟩ : ∃ N : Int, wa.cell? ⟨g3, u, none⟩ = some (.int .i64 N) ∧ -9223372036854775808 ≤ N ∧ N ≤ 9223372036854775807 := by
            obtain ⟨k0, k1⟩ := HC3.out wa HB.out
            rcases (by omega : u = 0 ∨ u = 1) with rfl | rfl
            · exact ⟨bit, k0, hbit1, hbit2⟩
            · exact ⟨z, k1, by omega, by omega⟩
          have HTa : Hid (Tbl wa w.heap.size p b x (sized ks)) := HT3.out.keep HB.out
          have hSp := SplitT _ _ _ _ _ N _ HTa.out
          rw [ones_sized, zeros_sized] at hSp
          clear hu HKn HTa
          go_wp2_with fail
          refine hSp.mono ?_
          rintro e w5 ⟨hb5, p0, p1, rfl, b0, b1, hT0, hT1⟩
          have HBs : Hid (Below w3.heap.size w3 w5) := HB.out.trans (hb5.mono HB.out.size)
          have HT0 : Hid (Tbl w5 wa.heap.size p0 b0 x (sized (zerosK x N ks))) := hT0
          have HT1 : Hid (Tbl w5 wa.heap.size p1 b1 x (sized (onesK x N ks))) := hT1
          clear hb5 hT0 hT1 hSp HB hN
          go_wp2
          go_loopg [15, 16, 17] m (fun q xv yv iv wr => ∃ (i : Nat) (xa : Option Addr) (xn xc : Nat) (ya : Option Addr) (yn yc : Nat), i + q = m ∧ iv = .int .i64 i ∧ xv = .slice xa xn xc ∧ yv = .slice ya yn yc ∧ Hid (XY wr w5.heap.size xa xn xc (zerosK x N (ks.take i)) ya yn yc (onesK x N (ks.take i))) ∧ Hid (Below w5.heap.size w5 wr))
          case atStart => exact ⟨0, none, 0, 0, none, 0, 0, by omega, rfl, rfl, rfl, ⟨OwnR.nil _ _ _ _, OwnR.nil _ _ _ _, fun k hk => by cases hk⟩, Below.refl _ _⟩
          case round =>
            obtain ⟨i, xa, xn, xc, ya, yn, yc, hi, rfl, rfl, rfl, HXY, HB⟩ := hrel
            have HOr : Hid (OwnS wr w.heap.size ka m kc ks) := OwnR.keep (OwnR.keep HO3.out HBs.out) HB.out
            by_cases hlt : (i : Int) < m
            · obtain ⟨gk3, ha, hck⟩ := OwnS.cell HOr.out (j := i) (by omega)
              subst ha
              have hil : i < ks.length := by have := HLn.out; omega
              have HTS : Hid (ks.take (i + 1) = ks.take i ++ [ks.getD i ⟨#[]⟩]) := take_snoc ks _ i hil
              have HKs : Hid ((ks.getD i ⟨#[]⟩).size ≤ 1000) := HSz.out _ (by rw [List.getD_eq_getElem?_getD, List.getElem?_eq_getElem hil]; exact List.getElem_mem hil)
              generalize ks.getD i ⟨#[]⟩ = k at hck HTS HKs
              have HRf : ∀ w, Calls Try.prog 16 #[.int .u64 x, .string k] w fun e w' => e = .returned (.int .u64 (hsh x k : Nat)) ∧ w' = w := fun w => refOf_any x k w (Nat.le_trans HKs.out (by decide)) hx
              have hh := hsh_lt x k
              obtain ⟨bs, hbs⟩ : ∃ bs, bset (hsh x k) N = bs := ⟨_, rfl⟩
              have HBS : Hid (bset (hsh x k) N = bs) := hbs
              have HSN : Hid (onesK x N (ks.take (i + 1)) = onesK x N (ks.take i) ++ (if bs = true then [k] else []) ∧ zerosK x N (ks.take (i + 1)) = zerosK x N (ks.take i) ++ (if bs = true then [] else [k])) := by show _ ∧ _; rw [HTS.out]; exact snoc_bits hbs
              have HLx : Hid (xn ≤ 112 ∧ yn ≤ 112) := by
                have h1 := OwnS.len HXY.out.xo
                have h2 := OwnS.len HXY.out.yo
                have h3 : (zerosK x N (ks.take i)).length ≤ (ks.take i).length := List.length_filter_le _ _
                have h4 : (onesK x N (ks.take i)).length ≤ (ks.take i).length := List.length_filter_le _ _
                rw [List.length_take] at h3 h4
                exact ⟨by omega, by omega⟩
              clear hbs hil HTS
              go_upto_region 23 with fail
              go_cut [99] from 81 to 98 (fun v wx => v = .bool bs ∧ wx = wr)
              case first =>
                by_cases h0 : 0 ≤ N
                · by_cases h64 : N < 64
                  · obtain ⟨tt, rfl⟩ : ∃ tt : Nat, N = (tt : Int) := ⟨N.toNat, by omega⟩
                    have hE : bset (hsh x k) tt = decide (hsh x k / 2 ^ tt % 2 = 1) := by unfold bset; rw [decide_eq_true ⟨h0, h64⟩, Int.toNat_natCast, Bool.true_and]
                    have ha := and_one (hsh x k) tt hh
                    have hlt2 : hsh x k / 2 ^ tt % 2 < 2 := Nat.mod_lt _ (by decide)
                    have HEE : Hid (bs = decide (hsh x k / 2 ^ tt % 2 = 1)) := by show _ = _; rw [← hE]; exact HBS.out.symm
                    generalize hsh x k / 2 ^ tt % 2 = mm at ha HEE hlt2
                    generalize hsh x k = hv at HRf hh ha
                    clear hE
                    rcases (by omega : mm = 0 ∨ mm = 1) with rfl | rfl
                    · replace ha : bits .and .u64 ((hv : Int) / 2 ^ tt) 1 = 0 := ha
                      go_wp2_with fail
                      refine (HRf _).mono ?_
                      rintro e wr ⟨rfl, rfl⟩
                      go_wp2
                      go_meet
                      exact ⟨by rw [HEE.out]; rfl, rfl⟩
                    · replace ha : bits .and .u64 ((hv : Int) / 2 ^ tt) 1 = 1 := ha
                      go_wp2_with fail
                      refine (HRf _).mono ?_
                      rintro e wr ⟨rfl, rfl⟩
                      go_wp2
                      go_meet
                      exact ⟨by rw [HEE.out]; rfl, rfl⟩
                  · have HEE : Hid (bs = false) := by show _ = _; rw [← HBS.out]; unfold bset; rw [decide_eq_false (by omega), Bool.false_and]
                    go_wp2
                    go_meet
                    exact ⟨by rw [HEE.out], rfl⟩
                · have HEE : Hid (bs = false) := by show _ = _; rw [← HBS.out]; unfold bset; rw [decide_eq_false (by omega), Bool.false_and]
                  go_wp2
                  go_meet
                  exact ⟨by rw [HEE.out], rfl⟩
              case rest =>
              obtain ⟨rfl, rfl⟩ := hcut
              clear HRf hh HBS
              have hszc := HB.out.size
              have HNx : Hid (xn + 1 ≤ 1000000) := by have := HLx.out.1; show _ ≤ _; omega
              have HNy : Hid (yn + 1 ≤ 1000000) := by have := HLx.out.2; show _ ≤ _; omega
              cases bs
              · obtain ⟨e1, e2⟩ := HSN.out
                rw [if_neg (by decide)] at e1 e2
                rw [List.append_nil] at e1
                have HE1 : Hid (onesK x N (ks.take (i + 1)) = onesK x N (ks.take i)) := e1
                have HE2 : Hid (zerosK x N (ks.take i) ++ [k] = zerosK x N (ks.take (i + 1))) := e2.symm
                clear e1 e2 HSN
                go_wp2_with (at_builtin; refine append_s rfl (.tmp 107) (.tmp 112) rfl w5.heap.size rfl (OwnR.keep HXY.out.xo (alloc_below wc _)) rfl (by simp; rfl) HNx.out (Nat.le_trans hszc (alloc_below wc _).size) ?_; intro a7 n7 c7 w7 hn7 HO7 HG7 HW7; have HB7 : Hid (Below w5.heap.size w5 w7) := (HB.out.trans ((alloc_below wc _).mono hszc)).trans ((OwnR.keep HXY.out.xo (alloc_below wc _)).below HG7.out (Nat.le_trans hszc (alloc_below wc _).size)); have HX7 : Hid (XY w7 w5.heap.size a7 n7 c7 (zerosK x N (ks.take (i + 1))) ya yn yc (onesK x N (ks.take (i + 1)))) := (by rw [HE1.out, ← HE2.out]; exact (HXY.out.keep (alloc_below wc _)).addX HO7.out HG7.out HW7.out); clear HO7 HG7 HW7)
                go_roundg (gk - 1)
                case measure => omega
                case rel => exact ⟨i + 1, a7, _, c7, ya, yn, yc, by omega, by go_num, rfl, rfl, by rw [← hn7]; exact HX7, HB7⟩
              · obtain ⟨e1, e2⟩ := HSN.out
                rw [if_pos rfl] at e1 e2
                rw [List.append_nil] at e2
                have HE1 : Hid (onesK x N (ks.take i) ++ [k] = onesK x N (ks.take (i + 1))) := e1.symm
                have HE2 : Hid (zerosK x N (ks.take (i + 1)) = zerosK x N (ks.take i)) := e2
                clear e1 e2 HSN
                go_wp2_with (at_builtin; refine append_s rfl (.tmp 100) (.tmp 105) rfl w5.heap.size rfl (OwnR.keep HXY.out.yo (alloc_below wc _)) rfl (by simp; rfl) HNy.out (Nat.le_trans hszc (alloc_below wc _).size) ?_; intro a7 n7 c7 w7 hn7 HO7 HG7 HW7; have HB7 : Hid (Below w5.heap.size w5 w7) := (HB.out.trans ((alloc_below wc _).mono hszc)).trans ((OwnR.keep HXY.out.yo (alloc_below wc _)).below HG7.out (Nat.le_trans hszc (alloc_below wc _).size)); have HX7 : Hid (XY w7 w5.heap.size xa xn xc (zerosK x N (ks.take (i + 1))) a7 n7 c7 (onesK x N (ks.take (i + 1)))) := (by rw [HE2.out, ← HE1.out]; exact (HXY.out.keep (alloc_below wc _)).addY HO7.out HG7.out HW7.out); clear HO7 HG7 HW7)
                go_roundg (gk - 1)
                case measure => omega
                case rel => exact ⟨i + 1, xa, xn, xc, a7, _, c7, by omega, by go_num, rfl, rfl, by rw [← hn7]; exact HX7, HB7⟩
            · have HE : Hid (ks.take i = ks) := by show _ = _; rw [List.take_of_length_le (by have := HLn.out; omega)]
              rw [HE.out] at HXY
              have HT0r : Hid (Tbl wr wa.heap.size p0 b0 x (sized (zerosK x N ks))) := HT0.out.keep HB.out
              have HT1r : Hid (Tbl wr wa.heap.size p1 b1 x (sized (onesK x N ks))) := HT1.out.keep HB.out
              have HTr : Hid (Tbl wr w.heap.size p b x (sized ks)) := (HT3.out.keep HBs.out).keep HB.out
              have hs1 := soundT _ _ _ _ _ xa xn xc (zerosK x N ks) wr HT0r.out (OwnR.low HXY.out.xo (Nat.zero_le _)) (by rw [keys_sized])
              clear hi
              go_wp2_with fail
              refine hs1.mono ?_
              rintro e w7 ⟨rfl, hb7⟩
              have HB7 := step_below HB hb7
              have hs2 := soundT _ _ _ _ _ ya yn yc (onesK x N ks) w7 (HT1r.out.keep hb7) (OwnR.low (OwnR.keep HXY.out.yo hb7) (Nat.zero_le _)) (by rw [keys_sized])
              have HT1s : Hid (Tbl w7 wa.heap.size p1 b1 x (sized (onesK x N ks))) := HT1r.out.keep hb7
              have HTs : Hid (Tbl w7 w.heap.size p b x (sized ks)) := HTr.out.keep hb7
              have HOs : Hid (OwnS w7 w.heap.size ka m kc ks) := OwnR.keep HOr.out hb7
              have HYs : Hid (OwnS w7 w5.heap.size ya yn yc (onesK x N ks)) := OwnR.keep HXY.out.yo hb7
              clear hb7 hs1 HT0r HT1r HTr HOr HXY HB
              go_wp2_with fail
              refine hs2.mono ?_
              rintro e w8 ⟨rfl, hb8⟩
              have HB8 := step_below HB7 hb8
              have hs3 := soundT _ _ _ _ _ ka m kc ks w8 (HTs.out.keep hb8) (OwnR.low (OwnR.keep HOs.out hb8) (Nat.zero_le _)) (by rw [keys_sized])
              have HT1t : Hid (Tbl w8 wa.heap.size p1 b1 x (sized (onesK x N ks))) := HT1s.out.keep hb8
              have HYt : Hid (OwnS w8 w5.heap.size ya yn yc (onesK x N ks)) := OwnR.keep HYs.out hb8
              clear hb8 hs2 HT1s HTs HOs HYs HB7
              go_wp2_with fail
              refine hs3.mono ?_
              rintro e w9 ⟨rfl, hb9⟩
              have HB9 := step_below HB8 hb9
              have HT1u : Hid (Tbl w9 wa.heap.size p1 b1 x (sized (onesK x N ks))) := HT1t.out.keep hb9
              have HYu : Hid (OwnS w9 w5.heap.size ya yn yc (onesK x N ks)) := OwnR.keep HYt.out hb9
              have HLy : Hid ((onesK x N ks).length = yn) := OwnS.len HYt.out
              have hyn : yn ≤ 1000 := by
                have h1 : (onesK x N ks).length ≤ ks.length := List.length_filter_le _ _
                have h2 := HLy.out
                have h3 := HLn.out
                omega
              clear hb9 hs3 HT1t HYt HB8
              go_wp2
              go_loopg [18, 19, 20, 136] yn (fun q iv vv okv tv wr => ∃ j : Nat, j + q = yn ∧ iv = .int .i64 j ∧ Hid (Tbl wr wa.heap.size p1 b1 x (sized (onesK x N ks))) ∧ Hid (OwnS wr w5.heap.size ya yn yc (onesK x N ks)) ∧ Hid (Below w5.heap.size w5 wr))
              case atStart => exact ⟨0, by omega, rfl, HT1u, HYu, HB9⟩
              case round =>
                clear HT1u HYu HB9
                obtain ⟨j, hj, rfl, HTj, HYj, HBj⟩ := hrel
                by_cases hjl : (j : Int) < yn
                · obtain ⟨gy, hay, hcy⟩ := OwnS.cell HYj.out (j := j) (by omega)
                  subst hay
                  have hjl' : j < (onesK x N ks).length := by have := HLy.out; omega
                  have hmem : (onesK x N ks).getD j ⟨#[]⟩ ∈ onesK x N ks := by rw [List.getD_eq_getElem?_getD, List.getElem?_eq_getElem hjl']; exact List.getElem_mem hjl'
                  have hsy : ((onesK x N ks).getD j ⟨#[]⟩).size ≤ 1000 := HSz.out _ (List.mem_filter.1 hmem).1
                  have hGt := GetT_some _ _ _ _ (sized (onesK x N ks)) _ ((onesK x N ks).getD j ⟨#[]⟩).size _ HTj.out (Nat.le_trans hsy (by decide)) (List.mem_map.2 ⟨_, hmem, rfl⟩)
                  generalize (onesK x N ks).getD j ⟨#[]⟩ = k at hcy hsy hGt
                  clear hmem hjl'
                  go_wp2_with fail
                  refine hGt.mono ?_
                  rintro e w10 ⟨rfl, hb10⟩
                  have HTk : Hid (Tbl w10 wa.heap.size p1 b1 x (sized (onesK x N ks))) := HTj.out.keep hb10
                  have HYk : Hid (OwnS w10 w5.heap.size (some ⟨gy, 0, none⟩) yn yc (onesK x N ks)) := OwnR.keep HYj.out hb10
                  have HBk := step_below HBj hb10
                  have hcy2 : w10.cell? ⟨gy, j, none⟩ = some (.string k) := by rw [hb10.cell (p := ⟨gy, j, none⟩) (World.block_lt_of_cell? _ _ hcy)]; exact hcy
                  clear hb10 hGt hcy HTj HYj HBj
                  go_wp2
                  go_roundg (gk - 1)
                  case measure => omega
                  case rel => exact ⟨j + 1, by omega, by go_num, HTk, HYk, HBk⟩
                · have HBe : Hid (Below w3.heap.size w3 wr) := HBs.out.trans (HBj.out.mono HBs.out.size)
                  clear hj
                  go_wp2
                  go_roundg (gu - 1)
                  case measure => have := HU.out; omega
                  case rel => exact ⟨u + 1, by have := HU.out; omega, by go_num, HBe⟩
        · go_wp2_with fail
          refine (HKn _).mono ?_
          rintro e w6 ⟨rfl, hb6⟩
          have HB6 := step_below HB hb6
          clear hb6
          go_wp2
          go_ret
          exact ⟨rfl, HB3.out.trans (HB6.out.mono HB3.out.size)⟩
end Go.Proofs.Ytnmonhendidhkaa
