/-
  tallboylaw9.CursorAlls: the cursors of a depth are all its buckets, each once, and lead back to 0.
-/
import Derived.Test.YtdiglifbiglpaaaAll
namespace Go.Proofs.Ytdiglifbiglpaaa
open Go.RowKit Go.PlainAid

theorem Try.info4 : (Try.prog.info? 4).map (fun i => (i.zero, i.size, i.bytes)) = some (some (.bool false), 1, 1) := by kernel_rfl

/-- The row of cursors, and the row of what was seen behind i of them. -/
structure Two (w wr : World) (g q k p i : Nat) : Prop where
  below : Below w.heap.size w wr
  old : w.heap.size ≤ q
  ne : g ≠ q
  row : isRow wr g p (rev k)
  met : wr.rowIs q 4 p (fun j => .bool (decide (rev k j < i)))
theorem Two.set {w wr : World} {g q k p i : Nat} (h : Two w wr g q k p i) (hp : p = 2 ^ k) (hi : i < p) : Two w (wr.setCell ⟨q, rev k i, none⟩ (.bool true)) g q k p (i + 1) :=
  ⟨h.below.setCell h.old _, h.old, h.ne, h.row.setOther h.ne _, (h.met.set (rev k i) (.bool true)).congr fun j hj => by
    have h1 := rev_rev k i
    have h2 := rev_rev k j
    rw [← hp, Nat.mod_eq_of_lt hi] at h1
    rw [← hp, Nat.mod_eq_of_lt hj] at h2
    by_cases e : j = rev k i
    · subst e
      simp [h1]
    · have h3 : rev k j ≠ i := fun e2 => e (by rw [← e2, h2])
      simp only [e, if_false]
      congr 2
      apply propext
      omega⟩

set_option maxRecDepth 100000 in
set_option maxHeartbeats 2000000 in
theorem alls_any (d : Int) (w : World) :
    Calls Try.prog 5 #[.int .i64 d] w fun e w' => e = .returned (.bool true) ∧ Below w.heap.size w w' := by
  go_enter Try.func5, Try.ntmps5
  go_wp2_with fail
  refine (Within_any d 0 11 _ (by decide) (by decide) (by decide)).mono ?_
  rintro e w ⟨rfl, z, hz0, hz1, rfl⟩
  obtain ⟨k, rfl⟩ : ∃ k : Nat, z = k := ⟨z.toNat, by omega⟩
  have hk : k ≤ 16 := by omega
  have H1 := fun w => All_in k w (by omega) (by omega) (by rw [dep_nat hk]; omega)
  rw [dep_nat hk] at H1
  have hpw := ipow k hk
  have hple := pow_le_16 hk
  have hpos := pow_pos k
  have HR : Hid (∀ i, rev k i < 2 ^ k) := rev_lt k
  have HX : Hid (∀ i, i < 2 ^ k → nxt k (rev k i) = rev k (i + 1)) := fun i hi => nxt_rev hi
  have HF : Hid (rev k (2 ^ k) = 0) := rev_full k
  have HM : Hid (∀ i, rev k i % 2 ^ k = rev k i) := fun i => Nat.mod_eq_of_lt (rev_lt k i)
  have HV : Hid (∀ i, i < 2 ^ k → rev k (rev k i) = i) := fun i hi => by rw [rev_rev, Nat.mod_eq_of_lt hi]
  have HB := fun i w => Bucket_any (rev k i) k w (by have := rev_64 i hk; omega) (by omega) (by omega)
  have HN := fun i w => Next_any (rev k i) k w (by have := rev_64 i hk; omega) (by omega) (by omega)
  have hd := dep_nat hk
  simp only [low_dep, hd, HM.out] at HB
  simp only [hd] at HN
  clear HM hd
  obtain ⟨p, hp⟩ : ∃ p, 2 ^ k = p := ⟨_, rfl⟩
  have HP : Hid (p = 2 ^ k) := hp.symm
  rw [hp] at H1 hpw hple hpos HR HX HF HV
  clear hp
  go_wp2_with fail
  refine (H1 _).mono ?_
  rintro e w1 ⟨g, rfl, hb, hg, hR⟩
  clear H1
  have hc0 := hR.cell (i := 0) hpos
  rw [rev_zero] at hc0
  have hmk := run_make_row' (P := Try.prog) 31 4 (.bool false) 1 Try.underlying31 Try.info4 rfl .i64 .i64 p (by omega) (by omega)
  obtain ⟨wf, hwf⟩ : ∃ wf, (w1.alloc (.cells (madeCells #[.bool false] p) 4)) = wf := ⟨_, rfl⟩
  have HT : Hid (Two w wf g w1.heap.size k p 0) := by
    show Two _ _ _ _ _ _ _
    rw [← hwf]
    exact ⟨hb.alloc hb.size _, hb.size, by have := hR.lt; omega, hR.alloc _, (World.rowIs_made ..).congr fun j hj => by simp⟩
  clear hb hg hR
  obtain ⟨q, hq⟩ : ∃ q, w1.heap.size = q := ⟨_, rfl⟩
  rw [hq] at HT
  go_wp2
  clear hmk hwf hq hc0 hpw
  go_loopg [6] p (fun n iv wr => ∃ i : Nat, i + n = p ∧ iv = .int .i64 i ∧ Hid (Two w wr g q k p i))
  case atStart => exact ⟨0, by omega, rfl, HT⟩
  case round =>
    clear HT
    obtain ⟨i, hi, rfl, HT⟩ := hrel
    by_cases hlt : i < p
    · have hil : (i : Int) < p := by omega
      have hc := HT.out.row.cell (i := i) (by omega)
      have hr := HR.out i
      have hm := HT.out.met.cell (i := rev k i) hr
      rw [HV.out i hlt, show decide (i < i) = false by simp] at hm
      have hfz := HT.out.met.frozen (rev k i)
      have HB1 := HB i
      have HN1 := HN i
      have HT2 : Hid (Two w (wr.setCell ⟨q, rev k i, none⟩ (.bool true)) g q k p (i + 1)) := HT.out.set HP.out hlt
      have hcn : i + 1 < p → (wr.setCell ⟨q, rev k i, none⟩ (.bool true)).cell? ⟨g, i + 1, none⟩ = some (.int .u64 (rev k (i + 1) : Nat)) := fun h => HT2.out.row.cell h
      have hc2 := HT2.out.row.cell (i := i) (by omega)
      rw [HX.out i hlt] at HN1
      obtain ⟨b, hb⟩ : ∃ b, rev k i = b := ⟨_, rfl⟩
      rw [hb] at hc hr hm hfz HB1 HN1 HT2 hcn hc2
      have hr2 : (b : Int) < p := by omega
      obtain ⟨ws, hws⟩ : ∃ ws, wr.setCell ⟨q, b, none⟩ (.bool true) = ws := ⟨_, rfl⟩
      rw [hws] at HT2 hcn hc2
      clear hb HB HN HR HV HX HP HT
      by_cases hl2 : i + 1 < p
      · have hcx := hcn hl2
        generalize rev k (i + 1) = y at hcx HN1
        have hl3 : (i : Int) + 1 < p := by omega
        clear hcn HF
        go_wp2_with fail
        refine (HB1 _).mono ?_
        rintro e w2 ⟨rfl, rfl⟩
        go_wp2_with fail
        refine (HN1 _).mono ?_
        rintro e w2 ⟨rfl, rfl⟩
        go_wp2
        go_roundg (gk - 1)
        case measure => omega
        case rel => exact ⟨i + 1, by omega, by go_num, HT2⟩
      · obtain rfl : p = i + 1 := by omega
        rw [HF.out] at HN1
        clear hcn HF
        go_wp2_with fail
        refine (HB1 _).mono ?_
        rintro e w2 ⟨rfl, rfl⟩
        go_wp2_with fail
        refine (HN1 _).mono ?_
        rintro e w2 ⟨rfl, rfl⟩
        go_wp2
        go_roundg (gk - 1)
        case measure => omega
        case rel => exact ⟨i + 1, by omega, by go_num, HT2⟩
    · obtain rfl : p = i := by omega
      have HE : Hid (Below w.heap.size w wr) := HT.out.below
      clear HT HB HN HR HV HX HP HF
      go_wp2_with fail
      refine (known_any _).mono ?_
      rintro e w2 ⟨rfl, hb⟩
      go_wp2
      go_ret
      exact ⟨rfl, (step_below HE hb).out⟩
end Go.Proofs.Ytdiglifbiglpaaa
