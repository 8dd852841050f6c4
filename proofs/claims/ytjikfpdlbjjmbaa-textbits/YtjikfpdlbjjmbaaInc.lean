/-
  Incr: the program's and the document's own.
-/
import Derived.Test.YtjikfpdlbjjmbaaTxt
namespace Go.Proofs.Ytjikfpdlbjjmbaa
open Go.RowKit Go.PlainAid

theorem emp_size (s : ByteArray) (h : s.size = 0) : s = ⟨#[]⟩ := by
  apply ByteArray.ext
  exact Array.eq_empty_of_size_eq_zero h
theorem not_emp (t : ByteArray) (h : t.size ≠ 0) : t.toList.isEmpty = false := by
  rw [ByteArray.toList_eq]
  cases hq : t.data.toList with
  | nil => exact absurd (by rw [← len_lst, lst, hq]; rfl) h
  | cons b r => rfl

theorem number_any (s : ByteArray) (w : World) (hs : s.size ≤ maxLen) :
    Calls Try.prog 34 #[.string s] w fun e w' => e = .returned (i64R (numO s)) ∧ w' = w := by
  by_cases h : s.size = 0
  · rw [emp_size s h]
    go_enter Try.func34, Try.ntmps34
    go_wp2
    go_ret2
    exact ⟨rfl, rfl⟩
  · have hne := not_emp s h
    have HP := fun w => Parse_any s w hs _ rfl
    have HN : Hid (numO s = parseL (lst s)) := if_neg h
    unfold i64R at HP
    generalize parseL (lst s) = o at HP HN
    generalize ho1 : o.getD 0 = x at HP
    generalize ho2 : o.isSome = y at HP
    have HO : Hid (i64R o = .tuple #[.int .i64 x, .bool y]) := by show _ = _; unfold i64R; rw [ho1, ho2]
    clear ho1 ho2 h
    go_enter Try.func34, Try.ntmps34
    go_wp2_with fail
    refine (HP _).mono ?_
    rintro e w ⟨rfl, rfl⟩
    go_wp2
    go_ret2
    exact ⟨by rw [HN.out, HO.out]; rfl, rfl⟩

theorem numO_in {s : ByteArray} {n : Int} (h : numO s = some n) : Int64 n := by
  unfold numO at h
  split at h
  · cases h; unfold Int64; omega
  · exact (parseL_some h).2

theorem addO_in {a b m : Int} (h : addO a b = some m) : Int64 m ∧ a + b = m := by
  unfold addO at h
  split at h
  · cases h; exact ⟨by assumption, rfl⟩
  · cases h

set_option maxHeartbeats 1000000 in
theorem Incr_any (s : ByteArray) (d : Int) (w : World) (hs : s.size ≤ maxLen) (hd : Int64 d) :
    Calls Try.prog 21 #[.string s, .int .i64 d] w fun e w' => e = .returned (incrR s d) ∧ Below w.heap.size w w' := by
  have HN := fun w => number_any s w hs
  cases ho : numO s with
  | none =>
    have HR : Hid (incrR s d = .tuple #[.string ⟨#[]⟩, .int .i64 0, .int .i64 5]) := by show _ = _; unfold incrR; rw [ho]
    rw [ho] at HN
    dsimp only [i64R, Option.getD_none, Option.isSome_none] at HN
    clear ho
    go_enter Try.func21, Try.ntmps21
    go_wp2_with fail
    refine (HN _).mono ?_
    rintro e w ⟨rfl, rfl⟩
    go_wp2
    go_ret3
    exact ⟨by rw [HR.out]; rfl, Below.refl _ _⟩
  | some n =>
    have hn := numO_in ho
    have HA := fun w => Add_any n d w hn hd
    rw [ho] at HN
    dsimp only [i64R, Option.getD_some, Option.isSome_some] at HN
    cases ha : addO n d with
    | none =>
      have HR : Hid (incrR s d = .tuple #[.string ⟨#[]⟩, .int .i64 0, .int .i64 6]) := by show _ = _; unfold incrR; rw [ho]; simp only [ha]
      rw [ha] at HA
      dsimp only [i64R, Option.getD_none, Option.isSome_none] at HA
      clear ho ha hn
      go_enter Try.func21, Try.ntmps21
      go_wp2_with fail
      refine (HN _).mono ?_
      rintro e w ⟨rfl, rfl⟩
      go_wp2_with fail
      refine (HA _).mono ?_
      rintro e w ⟨rfl, rfl⟩
      go_wp2
      go_ret3
      exact ⟨by rw [HR.out]; rfl, Below.refl _ _⟩
    | some m =>
      obtain ⟨hm, -⟩ := addO_in ha
      have HF := fun w => Format_any m w hm.1 hm.2
      have HR : Hid (incrR s d = .tuple #[.string (bs (fmtL m)), .int .i64 m, .int .i64 0]) := by show _ = _; unfold incrR; rw [ho]; simp only [ha]
      rw [ha] at HA
      dsimp only [i64R, Option.getD_some, Option.isSome_some] at HA
      generalize bs (fmtL m) = f at HF HR
      clear ho ha hn hm
      go_enter Try.func21, Try.ntmps21
      go_wp2_with fail
      refine (HN _).mono ?_
      rintro e w ⟨rfl, rfl⟩
      go_wp2_with fail
      refine (HA _).mono ?_
      rintro e w ⟨rfl, rfl⟩
      go_wp2_with fail
      refine (HF _).mono ?_
      rintro e w1 ⟨rfl, hb⟩
      have HB : Hid (Below w.heap.size w w1) := hb
      clear hb
      go_wp2
      go_ret3
      exact ⟨by rw [HR.out]; rfl, HB.out⟩

set_option maxHeartbeats 1000000 in
theorem refIncr_any (s : ByteArray) (d : Int) (w : World) (hs : s.size ≤ maxLen) (hd : Int64 d) :
    Calls Try.prog 28 #[.string s, .int .i64 d] w fun e w' => e = .returned (incrR s d) ∧ w' = w := by
  have HP := fun w => refParse_any s w hs _ rfl
  -- what is read: n; 'ok' is false of the empty text alone, where something is told
  have main : (numO s = none ∧ parseL (lst s) = none ∧ s.toList.isEmpty = false) ∨ (∃ n : Int, numO s = some n ∧ Int64 n ∧ (parseL (lst s) = some n ∨ (parseL (lst s) = none ∧ s = ⟨#[]⟩ ∧ n = 0))) := by
    by_cases h : s.size = 0
    · right
      have e := emp_size s h
      subst e
      exact ⟨0, rfl, by unfold Int64; omega, .inr ⟨by decide +kernel, rfl, rfl⟩⟩
    · have hN : numO s = parseL (lst s) := if_neg h
      cases hp : parseL (lst s) with
      | none => exact .inl ⟨hN.trans hp, rfl, not_emp s h⟩
      | some n => exact .inr ⟨n, hN.trans hp, numO_in (hN.trans hp), .inl rfl⟩
  rcases main with ⟨ho, hp, hne⟩ | ⟨n, ho, hn, hp⟩
  · have HR : Hid (incrR s d = .tuple #[.string ⟨#[]⟩, .int .i64 0, .int .i64 5]) := by show _ = _; unfold incrR; rw [ho]
    rw [hp] at HP
    dsimp only [i64R, Option.getD_none, Option.isSome_none] at HP
    clear ho hp
    go_enter Try.func28, Try.ntmps28
    go_wp2_with fail
    refine (HP _).mono ?_
    rintro e w ⟨rfl, rfl⟩
    go_wp2
    go_ret3
    exact ⟨by rw [HR.out]; rfl, rfl⟩
  · have HA := fun w => refAdd_any n d w hn hd
    have HR : Hid (incrR s d = match addO n d with
      | none => .tuple #[.string ⟨#[]⟩, .int .i64 0, .int .i64 6]
      | some m => .tuple #[.string (bs (fmtL m)), .int .i64 m, .int .i64 0]) := by show _ = _; unfold incrR; rw [ho]; dsimp only; cases addO n d <;> rfl
    have HF := fun m w (hm : Int64 m) => refFormat_any m w hm.1 hm.2
    have hin := @addO_in n d
    generalize addO n d = o at HA HR hin
    rcases hp with hp | ⟨hp, rfl, rfl⟩
    · rw [hp] at HP
      dsimp only [i64R, Option.getD_some, Option.isSome_some] at HP
      clear ho hn hp
      cases o with
      | none =>
        dsimp only [i64R, Option.getD_none, Option.isSome_none] at HA HR
        go_enter Try.func28, Try.ntmps28
        go_wp2_with fail
        refine (HP _).mono ?_
        rintro e w ⟨rfl, rfl⟩
        go_wp2_with fail
        refine (HA _).mono ?_
        rintro e w ⟨rfl, rfl⟩
        go_wp2
        go_ret3
        exact ⟨by rw [HR.out]; rfl, rfl⟩
      | some m =>
        dsimp only [i64R, Option.getD_some, Option.isSome_some] at HA HR
        replace HF := fun w => HF m w (hin rfl).1
        generalize bs (fmtL m) = f at HF HR
        clear hin
        go_enter Try.func28, Try.ntmps28
        go_wp2_with fail
        refine (HP _).mono ?_
        rintro e w ⟨rfl, rfl⟩
        go_wp2_with fail
        refine (HA _).mono ?_
        rintro e w ⟨rfl, rfl⟩
        go_wp2_with fail
        refine (HF _).mono ?_
        rintro e w1 ⟨rfl, rfl⟩
        go_wp2
        go_ret3
        exact ⟨by rw [HR.out]; rfl, rfl⟩
    · rw [hp] at HP
      dsimp only [i64R, Option.getD_none, Option.isSome_none] at HP
      clear ho hn hp
      cases o with
      | none =>
        dsimp only [i64R, Option.getD_none, Option.isSome_none] at HA HR
        go_enter Try.func28, Try.ntmps28
        go_wp2_with fail
        refine (HP _).mono ?_
        rintro e w ⟨rfl, rfl⟩
        go_wp2_with fail
        refine (HA _).mono ?_
        rintro e w ⟨rfl, rfl⟩
        go_wp2
        go_ret3
        exact ⟨by rw [HR.out]; rfl, rfl⟩
      | some m =>
        dsimp only [i64R, Option.getD_some, Option.isSome_some] at HA HR
        replace HF := fun w => HF m w (hin rfl).1
        generalize bs (fmtL m) = f at HF HR
        clear hin
        go_enter Try.func28, Try.ntmps28
        go_wp2_with fail
        refine (HP _).mono ?_
        rintro e w ⟨rfl, rfl⟩
        go_wp2_with fail
        refine (HA _).mono ?_
        rintro e w ⟨rfl, rfl⟩
        go_wp2_with fail
        refine (HF _).mono ?_
        rintro e w1 ⟨rfl, rfl⟩
        go_wp2
        go_ret3
        exact ⟨by rw [HR.out]; rfl, rfl⟩
end Go.Proofs.Ytjikfpdlbjjmbaa
