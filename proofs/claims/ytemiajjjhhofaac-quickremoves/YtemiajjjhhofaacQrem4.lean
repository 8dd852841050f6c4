/-
  Remove, and Copy, of a list.
-/
import Derived.Test.YtemiajjjhhofaacQrem3
namespace Go.Proofs.Ytemiajjjhhofaac
open Go.RowKit Go.PlainAid

/-- What is left when texts that are s are removed: the first n, the last -n, all. -/
def rmv (T : List ByteArray) (s : ByteArray) (n : Int) : List ByteArray :=
  if n < 0 then rp s (min (-n).toNat T.length) T else if 0 < n then kp s (min n.toNat T.length) T else kp s T.length T
theorem rmv_len (T : List ByteArray) (s : ByteArray) (n : Int) : (rmv T s n).length ≤ T.length := by
  unfold rmv
  split
  · exact rp_len s T _
  · split
    · exact (kp_len s T _).1
    · exact (kp_len s T _).1

/-- Behind the removing: the nodes are joined if something is gone. -/
theorem rem_end (B l R most : Nat) (ns : List Nd) (T : List ByteArray) (w : World) (hmost : most ≤ 1000000) {w1 : World} (hD : Does w B l R most T.length ns T w1) :
    w1.cell? ⟨l, 1, none⟩ = some (.int .i64 (T.length : Nat)) ∧ Calls Try.prog 20 #[ptr l] w1 fun e w' => e = .returned (.tuple #[]) ∧ Does w B l R most T.length ns T w' := by
  obtain ⟨ns1, h1, h2, h3, h4⟩ := hD
  refine ⟨h1.ccnt, (joinAll_any B l R most T.length ns1 w1 h1 h3 hmost).mono ?_⟩
  rintro e w' ⟨rfl, ns2, k1, k2, k3, k4⟩
  exact ⟨rfl, ns2, k1, h2.trans k2, k3, by rw [k4]; exact h4⟩

set_option maxRecDepth 100000 in
set_option maxHeartbeats 400000 in
theorem Remove_any (B l R most : Nat) (ns : List Nd) (s : ByteArray) (n : Int) (w : World) (h : Lst w B l R most (txN ns).length ns) (hok : Ok most ns) (hc : (txN ns).length ≤ 1000000) (hmost : most ≤ 1000000) (hn1 : -9223372036854775808 ≤ n) (hn2 : n ≤ 9223372036854775807) :
    Calls Try.prog 10 #[ptr l, .string s, .int .i64 n] w fun e w' => e = .returned (.int .i64 (((txN ns).length - (rmv (txN ns) s n).length : Nat) : Nat)) ∧ Does w B l R most (rmv (txN ns) s n).length ns (rmv (txN ns) s n) w' := by
  have hcc := h.ccnt
  have hrl := rmv_len (txN ns) s n
  obtain ⟨had, hh⟩ : ∃ had, (txN ns).length = had := ⟨_, rfl⟩
  have hnw : IntKind.i64.wrap (-(had : Int)) = -(had : Int) := by rw [IntKind.wrap_i64]; omega
  have HEnd := fun w1 (hD : Does w B l R most (rmv (txN ns) s n).length ns (rmv (txN ns) s n) w1) => rem_end B l R most ns (rmv (txN ns) s n) w hmost hD
  have HRF := fun q (hq : q ≤ 1000000) => removeFirst_any B l R most ns s q w h hok hc hq
  have HRL := fun q (hq : q ≤ 1000000) => removeLast_any B l R most ns s q w h hok hc hq
  have hdef : (n < 0 → rmv (txN ns) s n = rp s (min (-n).toNat had) (txN ns)) ∧ (0 < n → rmv (txN ns) s n = kp s (min n.toNat had) (txN ns)) ∧ (n = 0 → rmv (txN ns) s n = kp s had (txN ns)) := by
    unfold rmv
    rw [hh]
    refine ⟨fun h => by rw [if_pos h], fun h => by rw [if_neg (by omega), if_pos h], fun h => by rw [if_neg (by omega), if_neg (by omega)]⟩
  have hnil : had = 0 → rmv (txN ns) s n = kp s had (txN ns) := fun h0 => by
    have : txN ns = [] := List.length_eq_zero_iff.1 (by omega)
    rw [this]
    unfold rmv
    split
    · rfl
    · split <;> rfl
  rw [hh] at hcc hrl hc ⊢
  generalize rmv (txN ns) s n = T at *
  obtain ⟨tl, htl⟩ : ∃ tl, T.length = tl := ⟨_, rfl⟩
  have HTl : Hid (T.length = tl) := htl
  rw [htl] at hrl HEnd ⊢
  obtain ⟨gn, hgn⟩ : ∃ gn, had - tl = gn := ⟨_, rfl⟩
  rw [hgn]
  have hgi : (had : Int) - (tl : Int) = gn := by omega
  have HGo : ∀ w1, Does w B l R most tl ns T w1 → w1.cell? ⟨l, 1, none⟩ = some (.int .i64 (tl : Nat)) ∧ Calls Try.prog 20 #[ptr l] w1 fun e w' => e = .returned (.tuple #[]) ∧ Does w B l R most tl ns T w' := HEnd
  clear h hok hh htl HEnd hgn
  by_cases hA : n < 0 ∧ 0 < had
  · obtain ⟨q, hq⟩ : ∃ q, min (-n).toNat had = q := ⟨_, rfl⟩
    have HR := HRL q (by omega)
    rw [← hq, ← hdef.1 hA.1, hq, HTl.out] at HR
    have hq0 : 0 < q := by omega
    have hwq : IntKind.i64.wrap (-(-(q : Int))) = q := by rw [IntKind.wrap_i64]; omega
    have hwq2 : -(-(q : Int)) = q := by omega
    have hqn : -(q : Int) < 0 := by omega
    have hch : ¬ ((had : Int) < -(q : Int)) := by omega
    clear HRF HRL hdef hnil
    by_cases hle : n < -(had : Int)
    · have hqh : q = had := by omega
      subst hqh
      go_enter Try.func10, Try.ntmps10
      go_wp2_with fail
      refine HR.mono ?_
      rintro e w1 ⟨rfl, hD⟩
      obtain ⟨hc1, HJ⟩ := HGo w1 hD
      have HD : Hid (Does w B l R most tl ns T w1) := hD
      clear hD HR HGo
      by_cases hg0 : gn = 0
      · subst hg0
        go_wp2
        go_ret
        exact ⟨rfl, HD.out⟩
      · have hg1 : (0 : Int) < (gn : Int) := by omega
        go_wp2_with fail
        refine HJ.mono ?_
        rintro e w2 ⟨rfl, hD2⟩
        have HD2 : Hid (Does w B l R most tl ns T w2) := hD2
        clear hD2 HJ
        go_wp2
        go_ret
        exact ⟨rfl, HD2.out⟩
    · have hqh : n = -(q : Int) := by omega
      subst hqh
      go_enter Try.func10, Try.ntmps10
      go_wp2_with fail
      refine HR.mono ?_
      rintro e w1 ⟨rfl, hD⟩
      obtain ⟨hc1, HJ⟩ := HGo w1 hD
      have HD : Hid (Does w B l R most tl ns T w1) := hD
      clear hD HR HGo
      by_cases hg0 : gn = 0
      · subst hg0
        go_wp2
        go_ret
        exact ⟨rfl, HD.out⟩
      · have hg1 : (0 : Int) < (gn : Int) := by omega
        go_wp2_with fail
        refine HJ.mono ?_
        rintro e w2 ⟨rfl, hD2⟩
        have HD2 : Hid (Does w B l R most tl ns T w2) := hD2
        clear hD2 HJ
        go_wp2
        go_ret
        exact ⟨rfl, HD2.out⟩
  · by_cases hBb : 0 < n ∧ 0 < had
    · obtain ⟨q, hq⟩ : ∃ q, min n.toNat had = q := ⟨_, rfl⟩
      have HR := HRF q (by omega)
      rw [← hq, ← hdef.2.1 hBb.1, hq, HTl.out] at HR
      have hq0 : 0 < q := by omega
      have hqn : ¬ ((q : Int) < 0) := by omega
      have hqp : (0 : Int) < (q : Int) := by omega
      have hlo : ¬ (n < -(had : Int)) := by omega
      clear HRF HRL hdef hnil hA
      by_cases hle : (had : Int) < n
      · have hqh : q = had := by omega
        subst hqh
        go_enter Try.func10, Try.ntmps10
        go_wp2_with fail
        refine HR.mono ?_
        rintro e w1 ⟨rfl, hD⟩
        obtain ⟨hc1, HJ⟩ := HGo w1 hD
        have HD : Hid (Does w B l R most tl ns T w1) := hD
        clear hD HR HGo
        by_cases hg0 : gn = 0
        · subst hg0
          go_wp2
          go_ret
          exact ⟨rfl, HD.out⟩
        · have hg1 : (0 : Int) < (gn : Int) := by omega
          go_wp2_with fail
          refine HJ.mono ?_
          rintro e w2 ⟨rfl, hD2⟩
          have HD2 : Hid (Does w B l R most tl ns T w2) := hD2
          clear hD2 HJ
          go_wp2
          go_ret
          exact ⟨rfl, HD2.out⟩
      · have hqh : n = (q : Int) := by omega
        subst hqh
        go_enter Try.func10, Try.ntmps10
        go_wp2_with fail
        refine HR.mono ?_
        rintro e w1 ⟨rfl, hD⟩
        obtain ⟨hc1, HJ⟩ := HGo w1 hD
        have HD : Hid (Does w B l R most tl ns T w1) := hD
        clear hD HR HGo
        by_cases hg0 : gn = 0
        · subst hg0
          go_wp2
          go_ret
          exact ⟨rfl, HD.out⟩
        · have hg1 : (0 : Int) < (gn : Int) := by omega
          go_wp2_with fail
          refine HJ.mono ?_
          rintro e w2 ⟨rfl, hD2⟩
          have HD2 : Hid (Does w B l R most tl ns T w2) := hD2
          clear hD2 HJ
          go_wp2
          go_ret
          exact ⟨rfl, HD2.out⟩
    · have HR := HRF had (by omega)
      have hT0 : T = kp s had (txN ns) := by
        by_cases h0 : had = 0
        · exact hnil h0
        · exact hdef.2.2 (by omega)
      rw [← hT0, HTl.out] at HR
      have hcc2 := hcc
      clear HRF HRL hdef hnil hT0
      by_cases h0 : had = 0
      · subst h0
        have ht0 : tl = 0 := by omega
        subst ht0
        have hg0 : gn = 0 := by omega
        subst hg0
        by_cases hneg : n < 0
        · go_enter Try.func10, Try.ntmps10
          go_wp2_with fail
          refine HR.mono ?_
          rintro e w1 ⟨rfl, hD⟩
          obtain ⟨hc1, -⟩ := HGo w1 hD
          have HD : Hid (Does w B l R most 0 ns T w1) := hD
          clear hD HR HGo
          go_wp2
          go_ret
          exact ⟨rfl, HD.out⟩
        · by_cases hpos : 0 < n
          · go_enter Try.func10, Try.ntmps10
            go_wp2_with fail
            refine HR.mono ?_
            rintro e w1 ⟨rfl, hD⟩
            obtain ⟨hc1, -⟩ := HGo w1 hD
            have HD : Hid (Does w B l R most 0 ns T w1) := hD
            clear hD HR HGo
            go_wp2
            go_ret
            exact ⟨rfl, HD.out⟩
          · have hn0 : n = 0 := by omega
            subst hn0
            go_enter Try.func10, Try.ntmps10
            go_wp2_with fail
            refine HR.mono ?_
            rintro e w1 ⟨rfl, hD⟩
            obtain ⟨hc1, -⟩ := HGo w1 hD
            have HD : Hid (Does w B l R most 0 ns T w1) := hD
            clear hD HR HGo
            go_wp2
            go_ret
            exact ⟨rfl, HD.out⟩
      · have hn0 : n = 0 := by omega
        subst hn0
        have hl1 : ¬ ((0 : Int) < -(had : Int)) := by omega
        have hl2 : ¬ ((had : Int) < 0) := by omega
        go_enter Try.func10, Try.ntmps10
        go_wp2_with fail
        refine HR.mono ?_
        rintro e w1 ⟨rfl, hD⟩
        obtain ⟨hc1, HJ⟩ := HGo w1 hD
        have HD : Hid (Does w B l R most tl ns T w1) := hD
        clear hD HR HGo
        by_cases hg0 : gn = 0
        · subst hg0
          go_wp2
          go_ret
          exact ⟨rfl, HD.out⟩
        · have hg1 : (0 : Int) < (gn : Int) := by omega
          go_wp2_with fail
          refine HJ.mono ?_
          rintro e w2 ⟨rfl, hD2⟩
          have HD2 : Hid (Does w B l R most tl ns T w2) := hD2
          clear hD2 HJ
          go_wp2
          go_ret
          exact ⟨rfl, HD2.out⟩
theorem QRemove (w : World) (B l most : Nat) (ts : List ByteArray) (F : List Nat) (h : QL w B l most ts F) (hc : ts.length ≤ 1000000) (s : ByteArray) (n : Int) (hn : I64 n) :
    Calls Try.prog 10 #[ptr l, .string s, .int .i64 n] w fun e w' => e = .returned (.int .i64 ((ts.length - (rmv ts s n).length : Nat) : Nat)) ∧ QDoes w B l most (rmv ts s n) F w' := by
  obtain ⟨R, ns, h1, h2, rfl, rfl⟩ := h.ex
  refine (Remove_any B l R most ns s n w h1 h2 hc h.few hn.1 hn.2).mono ?_
  rintro e w' ⟨rfl, hd⟩
  exact ⟨rfl, hd.ql rfl h.pos h.few⟩
end Go.Proofs.Ytemiajjjhhofaac
