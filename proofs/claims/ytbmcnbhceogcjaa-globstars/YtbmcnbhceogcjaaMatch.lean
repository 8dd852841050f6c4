/-
  The program's Match: the last star tried again from its last place.
-/
import Derived.Test.YtbmcnbhceogcjaaOne
namespace Go.Proofs.Ytbmcnbhceogcjaa
open Go.RowKit Go.PlainAid

/-- Where the loop stands: how much is left of each text. -/
def Room (N a g : Nat) (left rest aft t : ByteArray) : Prop := g = meas (N + 1) a left.size t.size ∧ rest.size ≤ a ∧ aft.size ≤ a ∧ left.size ≤ N ∧ t.size ≤ N

theorem Room.atStar {N a g : Nat} {left rest aft t : ByteArray} (h : Room N a g left rest aft t) (h0 : 0 < rest.size) :
    meas (N + 1) (rest.size - 1) t.size t.size < g ∧ Room N (rest.size - 1) (meas (N + 1) (rest.size - 1) t.size t.size) t (rest.extract 1 rest.size) (rest.extract 1 rest.size) t := by
  obtain ⟨rfl, h1, h2, h3, h4⟩ := h
  exact ⟨meas_star (by omega) h4, rfl, by simp, by simp, h4, h4⟩
theorem Room.ok {N a g : Nat} {left rest aft t : ByteArray} (h : Room N a g left rest aft t) (h0 : 0 < t.size) (r : ByteArray) (hr : r.size ≤ rest.size) :
    meas (N + 1) a left.size (t.size - 1) < g ∧ Room N a (meas (N + 1) a left.size (t.size - 1)) left r aft (t.extract 1 t.size) := by
  obtain ⟨rfl, h1, h2, h3, h4⟩ := h
  exact ⟨meas_ok (by omega), by simp, by omega, h2, h3, by simp; omega⟩
theorem Room.back {N a g : Nat} {left rest aft t : ByteArray} (h : Room N a g left rest aft t) (h0 : 0 < left.size) :
    meas (N + 1) a (left.size - 1) (left.size - 1) < g ∧ Room N a (meas (N + 1) a (left.size - 1) (left.size - 1)) (left.extract 1 left.size) aft aft (left.extract 1 left.size) := by
  obtain ⟨rfl, h1, h2, h3, h4⟩ := h
  refine ⟨?_, by simp, h2, h2, by simp; omega, by simp; omega⟩
  have := @meas_back N a (left.size - 1) t.size (by omega)
  rwa [Nat.sub_add_cancel h0] at this
theorem lst_drop1 (s : ByteArray) : lst (s.extract 1 s.size) = (lst s).drop 1 := by rw [extract_bs, lst_bs]
theorem one_size (b : Nat) (s : ByteArray) : (bs (one b (lst s)).2).size ≤ s.size := by
  rw [size_bs]
  by_cases h0 : 0 < s.size
  · rw [lst_cons s h0]
    refine Nat.le_trans (one_len ..) ?_
    rw [List.length_drop, len_lst]; omega
  · rw [lst_nil h0]; simp [one]

set_option maxHeartbeats 4000000 in
theorem Match_any (p s : ByteArray) (w : World) (hp : p.size ≤ maxLen) (hs : s.size ≤ maxLen) :
    Calls Try.prog 9 #[.string p, .string s] w fun e w' => Below w.heap.size w w' ∧ e = .returned (.bool (mat (lst p) (lst s))) := by
  unfold maxLen at hp hs
  have HI : Hid (St (mat (lst p) (lst s)) false (lst ⟨#[]⟩) (lst ⟨#[]⟩) (lst p) (lst s)) := St.init _ _
  generalize mat (lst p) (lst s) = R at HI ⊢
  go_enter Try.func9, Try.ntmps9
  go_wp2
  go_loopg [1, 5, 6, 7, 8] (meas (s.size + 1) p.size 0 s.size) (fun g tv av lv dv rv wr => ∃ (t aft left rest : ByteArray) (sd : Bool) (a : Nat), tv = .string t ∧ av = .string aft ∧ lv = .string left ∧ dv = .bool sd ∧ rv = .string rest ∧ t.size ≤ 9223372036854775807 ∧ rest.size ≤ 9223372036854775807 ∧ aft.size ≤ 9223372036854775807 ∧ left.size ≤ 9223372036854775807 ∧ Hid (St R sd (lst aft) (lst left) (lst rest) (lst t)) ∧ Hid (Room s.size a g left rest aft t) ∧ Hid (Below w.heap.size w wr))
  case atStart => exact ⟨s, ⟨#[]⟩, ⟨#[]⟩, p, false, p.size, rfl, rfl, rfl, rfl, rfl, by omega, by omega, Nat.zero_le _, Nat.zero_le _, HI, ⟨rfl, Nat.le_refl _, Nat.zero_le _, Nat.zero_le _, Nat.le_refl _⟩, Below.refl _ _⟩
  case round =>
    clear HI
    obtain ⟨t, aft, left, rest, sd, a, rfl, rfl, rfl, rfl, rfl, ht, hr, ha, hl, HS, HR, HB⟩ := hrel
    have HZR : Hid (rest.size ≤ maxLen) := hr
    by_cases h0 : 0 < t.size
    · have hne := emp_no h0
      have HT : Hid (lst t = t[0] :: (lst t).drop 1) := lst_cons t h0
      have htx := size_drop1 t
      by_cases hr0 : 0 < rest.size
      · have hne2 := emp_no hr0
        have HRL : Hid (lst rest = rest[0] :: (lst rest).drop 1) := lst_cons rest hr0
        obtain ⟨c, hc⟩ : ∃ c : Int, ((rest[0]'hr0).toNat : Int) = c := ⟨_, rfl⟩
        have hcb := byte_le _ hc
        have HC : Hid (((rest[0]'hr0).toNat : Int) = c) := hc
        have hrx := size_drop1 rest
        by_cases h42 : c = 42
        · have HS2 : Hid (St R true (lst (rest.extract 1 rest.size)) (lst t) (lst (rest.extract 1 rest.size)) (lst t)) := by
            have := HS.out
            rw [HRL.out] at this
            rw [lst_drop1]
            exact this.atStar (by have := HC.out; omega)
          have HR2 := HR.out.atStar hr0
          have HM : Hid (meas (s.size + 1) (rest.size - 1) t.size t.size < gk) := HR2.1
          have HR3 : Hid (Room s.size (rest.size - 1) (meas (s.size + 1) (rest.size - 1) t.size t.size) t (rest.extract 1 rest.size) (rest.extract 1 rest.size) t) := HR2.2
          clear HR2 HR HS
          subst h42
          go_wp2
          go_roundg (meas (s.size + 1) (rest.size - 1) t.size t.size)
          case measure => exact HM.out
          case rel => exact ⟨t, _, t, _, true, rest.size - 1, rfl, rfl, rfl, rfl, rfl, ht, by omega, by omega, by omega, HS2, HR3, HB⟩
        · have HX : Hid (∀ x r, lst rest = x :: r → x.toNat ≠ 42) := by
            intro x r e
            rw [HRL.out] at e
            injection e with e1 e2
            rw [← e1]; have := HC.out; omega
          have HE : Hid ((one (t[0]'h0).toNat (lst rest)).1 = true → St R sd (lst aft) (lst left) (lst (bs (one (t[0]'h0).toNat (lst rest)).2)) (lst (t.extract 1 t.size))) := by
            intro ho
            have hh := HS.out
            rw [HT.out] at hh
            rw [lst_drop1, lst_bs]
            revert ho hh
            rw [HRL.out]
            intro ho hh
            exact hh.ok (by have := HC.out; omega) ho
          have hq : (c == 42) = false := by simpa using h42
          clear h42
          have HO := fun w => one_any rest (t[0]'h0).toNat w HZR.out
          have HOZ := one_size (t[0]'h0).toNat rest
          have HN : Hid ((one (t[0]'h0).toNat (lst rest)).1 = false → mt (toks (lst rest)) (lst t) = false) := by
            intro ho
            rw [HT.out]
            exact no_match HX.out ho
          have HBK : Hid ((one (t[0]'h0).toNat (lst rest)).1 = false → sd = true → 0 < left.size ∧ St R true (lst aft) (lst (left.extract 1 left.size)) (lst aft) (lst (left.extract 1 left.size))) := by
            rintro ho rfl
            have hh := HS.out
            rw [HT.out] at hh
            obtain ⟨y, l, e, hst⟩ := hh.back HX.out ho
            have hlen := congrArg List.length e
            rw [len_lst, List.length_cons] at hlen
            refine ⟨by omega, ?_⟩
            rw [lst_drop1, e]; exact hst
          have HFL : Hid ((one (t[0]'h0).toNat (lst rest)).1 = false → sd = false → false = R) := by
            rintro ho rfl
            have hh := HS.out
            rw [HT.out] at hh
            exact (hh.fail HX.out ho).symm
          clear HT HS HX HN
          obtain ⟨d, hd⟩ : ∃ d : Nat, (t[0]'h0).toNat = d := ⟨_, rfl⟩
          have hd' : (((t[0]'h0).toNat : Nat) : Int) = (d : Int) := by rw [hd]
          have hdb := byte_le _ hd'
          rw [hd] at HO HOZ HE HBK HFL
          unfold clsR at HO
          generalize one d (lst rest) = q at HO HOZ HE HBK HFL
          obtain ⟨ok, nx⟩ := q
          dsimp only at HO HOZ HE HBK HFL
          generalize bs nx = nb at HO HOZ HE
          clear hd
          cases ok with
          | true =>
            have HS2 : Hid (St R sd (lst aft) (lst left) (lst nb) (lst (t.extract 1 t.size))) := HE.out rfl
            have HR2 := HR.out.ok h0 nb HOZ
            have HM : Hid (meas (s.size + 1) a left.size (t.size - 1) < gk) := HR2.1
            have HR3 : Hid (Room s.size a (meas (s.size + 1) a left.size (t.size - 1)) left nb aft (t.extract 1 t.size)) := HR2.2
            clear HR2 HR HE HBK HFL
            go_wp2_with (go_at_call 15; refine (HO _).mono ?_; rintro e w1 ⟨hb1, rfl⟩)
            have HB1 : Hid (Below w.heap.size w w1) := HB.out.trans (hb1.mono HB.out.size)
            clear hb1 HB HO
            go_quiet (fail)
            go_wp2
            go_roundg (meas (s.size + 1) a left.size (t.size - 1))
            case measure => exact HM.out
            case rel => exact ⟨_, aft, left, nb, sd, a, rfl, rfl, rfl, rfl, rfl, by omega, by omega, by omega, by omega, HS2, HR3, HB1.out.trans ((below_drewN _ _).mono HB1.out.size)⟩
          | false =>
            clear HE
            cases sd with
            | true =>
              have HK := HBK.out rfl rfl
              have hl0 := HK.1
              have HS2 : Hid (St R true (lst aft) (lst (left.extract 1 left.size)) (lst aft) (lst (left.extract 1 left.size))) := HK.2
              have HR2 := HR.out.back hl0
              have HM : Hid (meas (s.size + 1) a (left.size - 1) (left.size - 1) < gk) := HR2.1
              have HR3 : Hid (Room s.size a (meas (s.size + 1) a (left.size - 1) (left.size - 1)) (left.extract 1 left.size) aft aft (left.extract 1 left.size)) := HR2.2
              have hlx := size_drop1 left
              clear HR2 HR HK HBK HFL
              go_wp2_with (go_at_call 15; refine (HO _).mono ?_; rintro e w1 ⟨hb1, rfl⟩)
              have HB1 : Hid (Below w.heap.size w w1) := HB.out.trans (hb1.mono HB.out.size)
              clear hb1 HB HO
              go_wp2
              go_roundg (meas (s.size + 1) a (left.size - 1) (left.size - 1))
              case measure => exact HM.out
              case rel => exact ⟨_, aft, _, aft, true, a, rfl, rfl, rfl, rfl, rfl, by omega, by omega, by omega, by omega, HS2, HR3, HB1⟩
            | false =>
              have HF : Hid (false = R) := HFL.out rfl rfl
              clear HBK HFL
              go_wp2_with (go_at_call 15; refine (HO _).mono ?_; rintro e w1 ⟨hb1, rfl⟩)
              go_ret
              exact ⟨HB.out.trans (hb1.mono HB.out.size), by rw [← HF.out]; rfl⟩
      · have hne2 := emp_yes hr0
        have HX : Hid (∀ x r, lst rest = x :: r → x.toNat ≠ 42) := by
          intro x r e
          rw [lst_nil hr0] at e
          cases e
        have HE : Hid ((one (t[0]'h0).toNat (lst rest)).1 = true → St R sd (lst aft) (lst left) (lst (bs (one (t[0]'h0).toNat (lst rest)).2)) (lst (t.extract 1 t.size))) := by
          intro ho
          rw [lst_nil hr0] at ho
          cases ho
        have HO := fun w => one_any rest (t[0]'h0).toNat w HZR.out
        have HOZ := one_size (t[0]'h0).toNat rest
        have HN : Hid ((one (t[0]'h0).toNat (lst rest)).1 = false → mt (toks (lst rest)) (lst t) = false) := by
          intro ho
          rw [HT.out]
          exact no_match HX.out ho
        have HBK : Hid ((one (t[0]'h0).toNat (lst rest)).1 = false → sd = true → 0 < left.size ∧ St R true (lst aft) (lst (left.extract 1 left.size)) (lst aft) (lst (left.extract 1 left.size))) := by
          rintro ho rfl
          have hh := HS.out
          rw [HT.out] at hh
          obtain ⟨y, l, e, hst⟩ := hh.back HX.out ho
          have hlen := congrArg List.length e
          rw [len_lst, List.length_cons] at hlen
          refine ⟨by omega, ?_⟩
          rw [lst_drop1, e]; exact hst
        have HFL : Hid ((one (t[0]'h0).toNat (lst rest)).1 = false → sd = false → false = R) := by
          rintro ho rfl
          have hh := HS.out
          rw [HT.out] at hh
          exact (hh.fail HX.out ho).symm
        clear HT HS HX HN
        obtain ⟨d, hd⟩ : ∃ d : Nat, (t[0]'h0).toNat = d := ⟨_, rfl⟩
        have hd' : (((t[0]'h0).toNat : Nat) : Int) = (d : Int) := by rw [hd]
        have hdb := byte_le _ hd'
        rw [hd] at HO HOZ HE HBK HFL
        unfold clsR at HO
        generalize one d (lst rest) = q at HO HOZ HE HBK HFL
        obtain ⟨ok, nx⟩ := q
        dsimp only at HO HOZ HE HBK HFL
        generalize bs nx = nb at HO HOZ HE
        clear hd
        cases ok with
        | true =>
          have HS2 : Hid (St R sd (lst aft) (lst left) (lst nb) (lst (t.extract 1 t.size))) := HE.out rfl
          have HR2 := HR.out.ok h0 nb HOZ
          have HM : Hid (meas (s.size + 1) a left.size (t.size - 1) < gk) := HR2.1
          have HR3 : Hid (Room s.size a (meas (s.size + 1) a left.size (t.size - 1)) left nb aft (t.extract 1 t.size)) := HR2.2
          clear HR2 HR HE HBK HFL
          go_wp2_with (go_at_call 15; refine (HO _).mono ?_; rintro e w1 ⟨hb1, rfl⟩)
          have HB1 : Hid (Below w.heap.size w w1) := HB.out.trans (hb1.mono HB.out.size)
          clear hb1 HB HO
          go_quiet (fail)
          go_wp2
          go_roundg (meas (s.size + 1) a left.size (t.size - 1))
          case measure => exact HM.out
          case rel => exact ⟨_, aft, left, nb, sd, a, rfl, rfl, rfl, rfl, rfl, by omega, by omega, by omega, by omega, HS2, HR3, HB1.out.trans ((below_drewN _ _).mono HB1.out.size)⟩
        | false =>
          clear HE
          cases sd with
          | true =>
            have HK := HBK.out rfl rfl
            have hl0 := HK.1
            have HS2 : Hid (St R true (lst aft) (lst (left.extract 1 left.size)) (lst aft) (lst (left.extract 1 left.size))) := HK.2
            have HR2 := HR.out.back hl0
            have HM : Hid (meas (s.size + 1) a (left.size - 1) (left.size - 1) < gk) := HR2.1
            have HR3 : Hid (Room s.size a (meas (s.size + 1) a (left.size - 1) (left.size - 1)) (left.extract 1 left.size) aft aft (left.extract 1 left.size)) := HR2.2
            have hlx := size_drop1 left
            clear HR2 HR HK HBK HFL
            go_wp2_with (go_at_call 15; refine (HO _).mono ?_; rintro e w1 ⟨hb1, rfl⟩)
            have HB1 : Hid (Below w.heap.size w w1) := HB.out.trans (hb1.mono HB.out.size)
            clear hb1 HB HO
            go_wp2
            go_roundg (meas (s.size + 1) a (left.size - 1) (left.size - 1))
            case measure => exact HM.out
            case rel => exact ⟨_, aft, _, aft, true, a, rfl, rfl, rfl, rfl, rfl, by omega, by omega, by omega, by omega, HS2, HR3, HB1⟩
          | false =>
            have HF : Hid (false = R) := HFL.out rfl rfl
            clear HBK HFL
            go_wp2_with (go_at_call 15; refine (HO _).mono ?_; rintro e w1 ⟨hb1, rfl⟩)
            go_ret
            exact ⟨HB.out.trans (hb1.mono HB.out.size), by rw [← HF.out]; rfl⟩
    · have hne := emp_yes h0
      have HF : Hid (R = stars (lst rest)) := by
        have := HS.out
        rw [lst_nil h0] at this
        rw [← stars_mt]
        exact this.done
      go_wp2_with (go_at_call 16; refine (onlyStars_any rest _ HZR.out).mono ?_; rintro e w1 ⟨rfl, rfl⟩)
      go_ret
      exact ⟨HB.out, by rw [HF.out]; rfl⟩
end Go.Proofs.Ytbmcnbhceogcjaa
