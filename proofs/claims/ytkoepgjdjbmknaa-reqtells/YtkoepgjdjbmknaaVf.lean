/-
  The document's own Next.
-/
import Derived.Test.YtkoepgjdjbmknaaVe
namespace Go.Proofs.Ytkoepgjdjbmknaa
open Go.RowKit Go.PlainAid

theorem RefNextR.shape {w w' : World} {m : Nat} {o : Rs (List (List UInt8))} {e : Ending} (h : RefNextR w w' m o e) : ∃ u v x, e = .returned (.tuple #[u, v, x]) := by
  cases o using Rs.elim with
  | yes ws r => obtain ⟨_, _, _, rfl, _⟩ := h; exact ⟨_, _, _, rfl⟩
  | part => have he : e = _ := h; exact ⟨_, _, _, he⟩
  | wrong => have he : e = _ := h; exact ⟨_, _, _, he⟩
theorem drop_end {l y r : List UInt8} (h : l = y ++ r) : l.drop (l.length - r.length) = r := by
  subst h
  rw [List.length_append, Nat.add_sub_cancel, List.drop_left]
theorem Suf.drop2 {l r : List UInt8} {A : Nat} (h : Suf (l.drop A) r) : l.drop (l.length - r.length) = r := by
  obtain ⟨x, hx, e⟩ := h
  exact drop_end (y := l.take A ++ x) (by rw [List.append_assoc, ← e, List.take_append_drop])
theorem two_ends (r : List UInt8) (M : Nat) (h : M + 2 ≤ r.length) : (r.drop M).take 2 = [13, 10] ↔ (r[M]'(by omega) = 13 ∧ r[M + 1]'(by omega) = 10) := by
  have e1 : r.drop M = r[M]'(by omega) :: r.drop (M + 1) := List.drop_eq_getElem_cons (by omega)
  have e2 : r.drop (M + 1) = r[M + 1]'(by omega) :: r.drop (M + 2) := List.drop_eq_getElem_cons (by omega)
  rw [e1, e2]
  simp only [List.take_succ_cons, List.take_zero, List.cons.injEq, and_true]

theorem refNext_nil (w : World) : Calls Try.prog 22 #[.string ⟨#[]⟩] w fun e w' => Below w.heap.size w w' ∧ RefNextR w w' 0 .part e := by
  go_enter Try.func22, Try.ntmps22
  go_wp2
  go_ret3
  exact ⟨Below.refl _ _, rfl⟩
theorem refNext_line (s : ByteArray) (w : World) (hs : s.size ≤ 100000) (h0 : 0 < s.size) (x : Int) (hx : ((s[0]'h0).toNat : Int) = x) (h42 : (x != 42) = true) :
    Calls Try.prog 22 #[.string s] w fun e w' => Below w.heap.size w w' ∧ RefNextR w w' s.size (inlR (lst s)) e := by
  have HI := fun w => refInline_any s w hs
  have hz : ((s.size : Int) == 0) = false := beq_eq_false_iff_ne.2 (by omega)
  have hxb := byte_in _ hx
  go_enter Try.func22, Try.ntmps22
  go_wp2_with (go_at_call 30; refine (HI _).mono ?_; rintro e w5 ⟨hB5, hQ5⟩; have HB5 : Hid (Below w.heap.size w w5) := hB5; have HQ5 : Hid (RefNextR w w5 s.size (inlR (lst s)) e) := hQ5; obtain ⟨u, v, y, rfl⟩ := hQ5.shape; clear hB5 hQ5)
  go_ret3
  exact ⟨HB5.out, HQ5.out⟩

theorem refNext_stop (s : ByteArray) (w : World) (hs : s.size ≤ 100000) (t : List UInt8) (hst : lst s = 42 :: t) (how : Int) (hh : how = 2 ∨ how = 3)
    (HC : ∀ w, Calls Try.prog 31 #[.string s, .int .i64 1, .int .i64 (-1), .int .i64 256] w fun e w' => e = .returned (.tuple #[.int .i64 0, .int .i64 0, .int .i64 how]) ∧ w' = w) :
    Calls Try.prog 22 #[.string s] w fun e w' => e = .returned (.tuple #[.slice none 0 0, .int .i64 0, .int .i64 how]) ∧ w' = w := by
  have hl : s.size = t.length + 1 := by rw [← len_lst, hst]; rfl
  have h0 : 0 < s.size := by omega
  have hx : ((s[0]'h0).toNat : Int) = 42 := by
    have := lst_cons s h0
    rw [hst] at this
    rw [← (List.cons.inj this).1]; rfl
  have hz : ((s.size : Int) == 0) = false := beq_eq_false_iff_ne.2 (by omega)
  have h1 : (how != 1) = true := by rcases hh with h | h <;> subst h <;> rfl
  clear hst hl hh
  go_enter Try.func22, Try.ntmps22
  go_wp2_with (go_at_call 31; refine (HC _).mono ?_; rintro e w5 ⟨rfl, rfl⟩)
  go_ret3
  exact ⟨rfl, rfl⟩

set_option maxHeartbeats 4000000 in
set_option maxRecDepth 100000 in
theorem refNext_many (s : ByteArray) (w : World) (hs : s.size ≤ 100000) (t : List UInt8) (hst : lst s = 42 :: t) (N : Int) (r0 : List UInt8) (hc : cntR (-1) 256 t = .yes N r0) :
    Calls Try.prog 22 #[.string s] w fun e w' => Below w.heap.size w w' ∧ RefNextR w w' s.size (manyR N.toNat [] r0) e := by
  have hl : s.size = t.length + 1 := by rw [← len_lst, hst]; rfl
  have h0 : 0 < s.size := by omega
  have hx : ((s[0]'h0).toNat : Int) = 42 := by
    have := lst_cons s h0
    rw [hst] at this
    rw [← (List.cons.inj this).1]; rfl
  have hz : ((s.size : Int) == 0) = false := beq_eq_false_iff_ne.2 (by omega)
  have hn2 : numR 42 (-1) 256 (lst s) = .yes N r0 := by rw [hst, numR_cnt, hc]
  have hNb := numR_range hn2
  have hsuf := numR_suf hn2
  have hsl := hsuf.len
  have hsd := hsuf.drop
  rw [len_lst] at hsl hsd
  have HCT := fun w => refCount_any s 1 (-1) 256 w (by omega) (by omega)
  rw [hst, List.drop_one, List.tail_cons, hc] at HCT
  obtain ⟨P0, hP0⟩ : ∃ P : Nat, P = s.size - r0.length := ⟨_, rfl⟩
  have hPI : (s.size : Int) - r0.length = (P0 : Int) := by omega
  have HC : ∀ w, Calls Try.prog 31 #[.string s, .int .i64 1, .int .i64 (-1), .int .i64 256] w fun e w' => e = .returned (.tuple #[.int .i64 N, .int .i64 P0, .int .i64 1]) ∧ w' = w := fun w => by
    have := HCT w
    rw [← hPI]
    exact this
  obtain ⟨R, hR⟩ : ∃ R, manyR N.toNat [] r0 = R := ⟨_, rfl⟩
  rw [hR]
  rw [← hP0] at hsd
  have HR : Hid (manyR N.toNat [] ((lst s).drop P0) = R) := by show _ = _; rw [hsd]; exact hR
  have HP0 : Hid (P0 ≤ s.size) := by show _ ≤ _; omega
  have HO : Hid (OwnS w w.heap.size none 0 0 []) := World.ownsRow_nil w _ 9 1
  have hNlo := hNb.1
  have hNhi := hNb.2
  clear hst hl hn2 hNb hsuf hsl hsd HCT hP0 hPI hR hc
  go_enter Try.func22, Try.ntmps22
  go_wp2_with (go_at_call 31; refine (HC _).mono ?_; rintro e w ⟨rfl, rfl⟩)
  go_loopg [5, 6, 8] N.toNat (fun g nv av ov wr => ∃ (K : Int) (A : Nat) (a : Option Addr) (n c : Nat) (acc : List (List UInt8)), nv = .int .i64 K ∧ av = .int .i64 A ∧ ov = .slice a n c ∧ K.toNat = g ∧ -1 ≤ K ∧ K ≤ 256 ∧ Hid (A ≤ s.size) ∧ Hid (acc.length + K.toNat ≤ 256) ∧ Hid (OwnS wr w.heap.size a n c (acc.map bs)) ∧ Hid (Below w.heap.size w wr) ∧ Hid (manyR g acc ((lst s).drop A) = R))
  case atStart => exact ⟨N, P0, none, 0, 0, [], rfl, rfl, rfl, rfl, hNlo, hNhi, HP0, by show _ ≤ _; simp; omega, HO, Below.refl _ _, HR⟩
  case round =>
    obtain ⟨K, A, a, n, c, acc, rfl, rfl, rfl, hKg, hK1, hK2, HA, HAC, HO1, HB, H⟩ := hrel
    have HKG : Hid (K.toNat = gk) := hKg
    have hA63 : A ≤ 100000 := by have := HA.out; omega
    clear HO hNlo hNhi hKg
    by_cases hK0 : (0 : Int) < K
    · obtain ⟨f, rfl⟩ : ∃ f, gk = f + 1 := ⟨gk - 1, by have := HKG.out; omega⟩
      by_cases hAs : (A : Int) < s.size
      · have hA0 : A < s.size := by omega
        obtain ⟨x, hx⟩ : ∃ c : Int, ((s[A]'hA0).toNat : Int) = c := ⟨_, rfl⟩
        have hxb := byte_in _ hx
        have HD : Hid ((lst s).drop A = (s[A]'hA0) :: (lst s).drop (A + 1)) := drop_at s A hA0
        have HX2 : Hid (s[A]'hA0 = 36 ↔ x = 36) := byte_is hx 36
        by_cases h36 : x = 36
        · have HCT := fun w => refCount_any s (A + 1) 0 65536 w (by omega) (by omega)
          have hA1 : ((A + 1 : Nat) : Int) = (A : Int) + 1 := by omega
          rw [hA1] at HCT
          have HNU : Hid (numR 36 0 65536 ((lst s).drop A) = cntR 0 65536 ((lst s).drop (A + 1))) := by
            show _ = _
            rw [HD.out, HX2.out.2 h36, numR_cnt]
          subst h36
          clear HX2
          cases hc : cntR 0 65536 ((lst s).drop (A + 1)) using Rs.elim with
          | part =>
            have HE : Hid (R = .part) := by show _ = _; rw [← H.out, manyR, bulkR, HNU.out, hc]
            rw [hc] at HCT
            clear hc
            go_wp2_with (go_at_call 31; refine (HCT _).mono ?_; rintro e w5 ⟨hQ, hw⟩; have hQ2 : e = _ := hQ; subst hQ2; have hw2 := hw.symm; subst hw2; clear hQ)
            go_ret3
            refine ⟨HB.out, ?_⟩
            rw [HE.out]
            rfl
          | wrong =>
            have HE : Hid (R = .wrong) := by show _ = _; rw [← H.out, manyR, bulkR, HNU.out, hc]
            rw [hc] at HCT
            clear hc
            go_wp2_with (go_at_call 31; refine (HCT _).mono ?_; rintro e w5 ⟨hQ, hw⟩; have hQ2 : e = _ := hQ; subst hQ2; have hw2 := hw.symm; subst hw2; clear hQ)
            go_ret3
            refine ⟨HB.out, ?_⟩
            rw [HE.out]
            rfl
          | yes mI r =>
            have hnum : numR 36 0 65536 ((lst s).drop A) = .yes mI r := by rw [HNU.out, hc]
            have hm := numR_range hnum
            have hsuf := numR_suf hnum
            have hsd := hsuf.drop2
            have hsl := hsuf.len
            rw [List.length_drop, len_lst] at hsl
            rw [len_lst] at hsd
            obtain ⟨M, rfl⟩ : ∃ M : Nat, mI = (M : Int) := ⟨mI.toNat, by omega⟩
            obtain ⟨P, hP⟩ : ∃ P : Nat, P = s.size - r.length := ⟨_, rfl⟩
            have hPI : (s.size : Int) - r.length = (P : Int) := by omega
            rw [← hP] at hsd
            have HCV : ∀ w, Calls Try.prog 31 #[.string s, .int .i64 ((A : Int) + 1), .int .i64 0, .int .i64 65536] w fun e w' => e = .returned (.tuple #[.int .i64 M, .int .i64 P, .int .i64 1]) ∧ w' = w := fun w => by
              have := HCT w
              rw [hc] at this
              rw [← hPI]
              exact this
            have HBK : Hid (bulkR ((lst s).drop A) = if r.length < M + 2 then .part else if (r.drop M).take 2 = [13, 10] then .yes (r.take M) (r.drop (M + 2)) else .wrong) := by
              show _ = _
              rw [bulkR, hnum]; rfl
            have HRL : Hid (r.length + P = s.size) := by show _ = _; omega
            have HSD : Hid ((lst s).drop P = r) := hsd
            have hP63 : P ≤ 100000 := by omega
            have hM63 : M ≤ 65536 := by omega
            obtain ⟨Q, hQ⟩ : ∃ Q : Nat, Q = P + M := ⟨_, rfl⟩
            have hQI : (P : Int) + M = (Q : Int) := by omega
            have HQ : Hid (Q = P + M) := hQ
            clear hc hnum hm hsuf hsd hsl hP hPI HCT hQ
            by_cases hsh : r.length < M + 2
            · have HE : Hid (R = .part) := by show _ = _; rw [← H.out, manyR, HBK.out, if_pos hsh]
              have hshI : (s.size : Int) - (P : Int) < (M : Int) + 2 := by have := HRL.out; omega
              clear hsh
              go_wp2_with (go_at_call 31; refine (HCV _).mono ?_; rintro e wr ⟨rfl, rfl⟩)
              go_ret3
              refine ⟨HB.out, ?_⟩
              rw [HE.out]
              rfl
            · have hshI : ¬ (s.size : Int) - (P : Int) < (M : Int) + 2 := by have := HRL.out; omega
              have hQs : Q < s.size := by have h1 := HRL.out; have h2 := HQ.out; omega
              have hQs1 : Q + 1 < s.size := by have h1 := HRL.out; have h2 := HQ.out; omega
              obtain ⟨y, hy⟩ : ∃ c : Int, ((s[Q]'hQs).toNat : Int) = c := ⟨_, rfl⟩
              obtain ⟨z, hz⟩ : ∃ c : Int, ((s[Q + 1]'hQs1).toNat : Int) = c := ⟨_, rfl⟩
              have hyb := byte_in _ hy
              have hzb := byte_in _ hz
              have hgy : r[M]? = some (s[Q]'hQs) := by
                rw [← HSD.out, List.getElem?_drop, ← HQ.out, get_lst s Q hQs]
              have hgz : r[M + 1]? = some (s[Q + 1]'hQs1) := by
                rw [← HSD.out, List.getElem?_drop, ← Nat.add_assoc, ← HQ.out, get_lst s (Q + 1) hQs1]
              have HTW : Hid ((r.drop M).take 2 = [13, 10] ↔ (y = 13 ∧ z = 10)) := by
                show _ ↔ _
                rw [two_ends r M (by omega)]
                rw [List.getElem?_eq_getElem (by omega)] at hgy hgz
                rw [Option.some.inj hgy, Option.some.inj hgz, byte_is hy 13, byte_is hz 10]
                rfl
              clear hgy hgz
              by_cases hyz : y = 13 ∧ z = 10
              · have HBY : Hid (bulkR ((lst s).drop A) = .yes (r.take M) (r.drop (M + 2))) := by show _ = _; rw [HBK.out, if_neg hsh, if_pos (HTW.out.2 hyz)]
                have HE : Hid (manyR f (acc ++ [r.take M]) ((lst s).drop (Q + 2)) = R) := by
                  show _ = _
                  rw [← H.out, manyR, HBY.out]
                  simp only
                  rw [← HSD.out, List.drop_drop, HQ.out, Nat.add_assoc]
                have hE : s.extract P Q = bs (r.take M) := by
                  rw [extract_lst, HSD.out, HQ.out, Nat.add_sub_cancel_left]
                have HM : Hid (n + 1 ≤ 1000000) := by have h1 := HO1.out.len; rw [List.length_map] at h1; have h2 := HAC.out; show _ ≤ _; omega
                have hPQ : P ≤ Q := by have := HQ.out; omega
                obtain ⟨rfl, rfl⟩ := hyz
                clear hsh HTW
                go_wp2_with (first
                  | (go_at_call 31; refine (HCV _).mono ?_; rintro e wr ⟨rfl, rfl⟩)
                  | (at_builtin; refine append_str rfl (.tmp 77) (.tmp 84) rfl w.heap.size rfl (HO1.out.keep (alloc_below wr _)) rfl (by simp; rfl) HM.out (Nat.le_trans HB.out.size (alloc_below wr _).size) ?_; intro a8 n8 c8 w8 hn8 hO8 hB8; have HO8 : Hid (OwnS w8 w.heap.size a8 n8 c8 ((acc ++ [r.take M]).map bs)) := (by rw [List.map_append]; exact hO8); have HB8 : Hid (Below w.heap.size w w8) := (HB.out.trans ((alloc_below wr _).mono HB.out.size)).trans hB8; clear hn8 hO8 hB8))
                go_roundg f
                case measure => omega
                case rel => exact ⟨K - 1, Q + 2, _, _, _, acc ++ [r.take M], rfl, by go_num, rfl, by have := HKG.out; omega, by omega, by omega, by have h1 := HRL.out; have h2 := HQ.out; show _ ≤ _; omega, by have := HAC.out; have := HKG.out; show _ ≤ _; rw [List.length_append]; simp; omega, HO8, HB8, HE⟩
              · have HE : Hid (R = .wrong) := by show _ = _; rw [← H.out, manyR, HBK.out, if_neg hsh, if_neg (fun h => hyz (HTW.out.1 h))]
                by_cases hy13 : y = 13
                · have hz10 : (z != 10) = true := by
                    simp only [bne_iff_ne, ne_eq]
                    exact fun h => hyz ⟨hy13, h⟩
                  subst hy13
                  clear hsh HTW hyz
                  go_wp2_with (go_at_call 31; refine (HCV _).mono ?_; rintro e wr ⟨rfl, rfl⟩)
                  go_ret3
                  refine ⟨HB.out, ?_⟩
                  rw [HE.out]
                  rfl
                · have hy13f : (y != 13) = true := by simpa using hy13
                  clear hsh HTW hyz hy13
                  go_wp2_with (go_at_call 31; refine (HCV _).mono ?_; rintro e wr ⟨rfl, rfl⟩)
                  go_ret3
                  refine ⟨HB.out, ?_⟩
                  rw [HE.out]
                  rfl
        · have HE : Hid (R = .wrong) := by
            show _ = _
            rw [← H.out, manyR, bulkR, HD.out, numR_sign (fun h => h36 (HX2.out.1 h))]
          have hx36 : (x != 36) = true := by simpa using h36
          clear h36 HX2
          go_wp2
          go_ret3
          refine ⟨HB.out, ?_⟩
          rw [HE.out]
          rfl
      · have HE : Hid (R = .part) := by
          show _ = _
          rw [← H.out, manyR, List.drop_eq_nil_of_le (by rw [len_lst]; omega)]
          rfl
        go_wp2
        go_ret3
        refine ⟨HB.out, ?_⟩
        rw [HE.out]
        rfl
    · have hg0 : gk = 0 := by have := HKG.out; omega
      subst hg0
      have HE : Hid (R = .yes acc ((lst s).drop A)) := by show _ = _; rw [← H.out, manyR]
      have HAL : Hid ((s.size : Int) - (((lst s).drop A).length : Nat) = (A : Int)) := by
        have := HA.out
        show _ = _
        rw [List.length_drop, len_lst]; omega
      go_wp2
      go_ret3
      refine ⟨HB.out, ?_⟩
      rw [HE.out]
      exact ⟨_, _, _, by rw [HAL.out]; rfl, HO1.out⟩

theorem refNext_any (s : ByteArray) (w : World) (hs : s.size ≤ 100000) :
    Calls Try.prog 22 #[.string s] w fun e w' => Below w.heap.size w w' ∧ RefNextR w w' s.size (reqR (lst s)) e := by
  cases hl : lst s with
  | nil =>
    have hz : s = ⟨#[]⟩ := by rw [← bs_lst s, hl]; rfl
    subst hz
    exact refNext_nil w
  | cons b t =>
    have hsz : s.size = t.length + 1 := by rw [← len_lst, hl]; rfl
    have h0 : 0 < s.size := by omega
    by_cases hb : b = 42
    · subst hb
      show Calls _ _ _ _ fun e w' => _ ∧ RefNextR w w' s.size (bulksR (42 :: t)) e
      unfold bulksR
      rw [numR_cnt]
      have HCT := fun w => refCount_any s 1 (-1) 256 w (by omega) (by omega)
      rw [hl, List.drop_one, List.tail_cons] at HCT
      cases hc : cntR (-1) 256 t using Rs.elim with
      | part =>
        rw [hc] at HCT
        exact (refNext_stop s w hs t hl 2 (.inl rfl) HCT).mono fun e w' ⟨h1, h2⟩ => ⟨by rw [h2]; exact Below.refl _ _, h1⟩
      | wrong =>
        rw [hc] at HCT
        exact (refNext_stop s w hs t hl 3 (.inr rfl) HCT).mono fun e w' ⟨h1, h2⟩ => ⟨by rw [h2]; exact Below.refl _ _, h1⟩
      | yes N r0 => exact refNext_many s w hs t hl N r0 hc
    · have h2 := lst_cons s h0
      rw [hl] at h2
      have hb0 := (List.cons.inj h2).1
      have := refNext_line s w hs h0 _ rfl (by
        simp only [bne_iff_ne, ne_eq]
        intro e
        exact hb (by rw [hb0]; exact (byte_is rfl 42).2 e))
      rw [hl] at this
      unfold reqR
      simp only [hb, if_false]
      exact this
end Go.Proofs.Ytkoepgjdjbmknaa
