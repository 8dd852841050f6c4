/-
  OK, Bulk, Failed, known.
-/
import Derived.Test.YtiamgnfbgiognaaGreatDoorSj
namespace Go.Proofs.YtiamgnfbgiognaaGreatDoor
open Go.RowKit Go.PlainAid

theorem Bulk_any (s : ByteArray) (w : World) : Calls Tryz.prog 14 #[.string s] w fun r w' => Below w.heap.size w w' ∧ r = .returned (.agg #[.int .i64 4, .string s, .int .i64 0, .slice none 0 0]) := by
  have HE : Hid _ := alloc_below w (.cells #[.int .i64 4, .string s, .int .i64 0, .slice none 0 0] 24)
  go_enter Tryz.func14, Tryz.ntmps14
  go_wp2
  exact ret_R rfl rfl (heap_alloc_new w _) ⟨HE.out, rfl⟩
theorem OK_any (w : World) : Calls Tryz.prog 15 #[] w fun r w' => Below w.heap.size w w' ∧ r = .returned (.agg #[.int .i64 1, .string ⟨#[79, 75]⟩, .int .i64 0, .slice none 0 0]) := by
  have HE : Hid _ := alloc_below w (.cells #[.int .i64 1, .string ⟨#[79, 75]⟩, .int .i64 0, .slice none 0 0] 24)
  go_enter Tryz.func15, Tryz.ntmps15
  go_wp2
  exact ret_R rfl rfl (heap_alloc_new w _) ⟨HE.out, rfl⟩
def lf (s : ByteArray) : RT := .mk 4 s 0 []
/-- A set of two texts. -/
def two (s t : ByteArray) : RT := .mk 9 ⟨#[]⟩ 0 [lf s, lf t]
theorem two_alike (s t : ByteArray) : alikeT (two s t) (two t s) = true := by
  have h := srt_trn (two s t)
  have e : trn (two s t) = two t s := by
    unfold two
    rw [trn, trnL_eq]
    simp [revd, lf, trn, trnL]
  rw [e] at h
  unfold alikeT
  rw [h, cmpT_self]; rfl
theorem two_unlike {s t : ByteArray} (h : s ≠ t) : sameT (two s t) (two t s) = false := by
  cases hb : sameT (two s t) (two t s) with
  | false => rfl
  | true =>
    have h1 := ((same_iff _ _).1 hb).2.2.2
    have h2 : [can (lf s), can (lf t)] = [can (lf t), can (lf s)] := h1
    injection h2 with h3
    rw [lf, lf, can_mk, can_mk] at h3
    have h4 : s = t := by
      unfold mean at h3
      injection h3 with _ h4
    exact absurd h4 h
theorem null_unlike : sameT (.mk 5 ⟨#[]⟩ 0 []) (.mk 6 ⟨#[]⟩ 0 []) = false := by
  cases hb : sameT (.mk 5 ⟨#[]⟩ 0 []) (.mk 6 ⟨#[]⟩ 0 []) with
  | false => rfl
  | true =>
    have h1 := ((same_iff _ _).1 hb).1
    exact absurd h1 (by decide)
/-- Two texts in a row, as it was made. -/
theorem two_row (w w' : World) (s t : ByteArray) (h : w.alloc (.cells #[.int .i64 4, .string s, .int .i64 0, .slice none 0 0, .int .i64 4, .string t, .int .i64 0, .slice none 0 0] 24) = w') : Vl w' (fun g => w.heap.size ≤ g) 1 ⟨9, ⟨#[]⟩, 0, some ⟨w.heap.size, 0, none⟩, 2, 2⟩ (two s t) := by
  subst h
  have h1 := OwnE.made w [⟨4, s, 0, none, 0, 0⟩, ⟨4, t, 0, none, 0, 0⟩] w.heap.size 2 rfl (Nat.le_refl _) (by omega)
  refine ⟨rfl, rfl, rfl, Hd.of (OwnE.rd h1 (Nat.le_refl _)) (show 2 ≤ 12 by omega) ?_⟩
  exact (Vls.one (Vl.leaf _ _ _ 4 s 0)).append (Vls.one (Vl.leaf _ _ _ 4 t 0))
set_option maxRecDepth 100000 in
set_option maxHeartbeats 4000000 in
theorem known_any (w : World) : Calls Tryz.prog 16 #[] w fun r w' => Below w.heap.size w w' ∧ r = .returned (.bool true) := by
  have HBu := Bulk_any
  have HOK := OK_any
  go_enter Tryz.func16, Tryz.ntmps16
  go_wp2_with fail
  refine (HBu _ _).mono ?_
  rintro e w1 ⟨hb, rfl⟩
  have HB1 : Hid _ := hb
  clear hb
  go_wp2_with fail
  refine (HBu _ _).mono ?_
  rintro e w2 ⟨hb, rfl⟩
  have HB2 := step_below HB1 hb
  clear hb
  obtain ⟨w3, hw3⟩ : ∃ w3, w2.alloc (.cells #[.int .i64 4, .string ⟨#[97]⟩, .int .i64 0, .slice none 0 0, .int .i64 4, .string ⟨#[98]⟩, .int .i64 0, .slice none 0 0] 24) = w3 := ⟨_, rfl⟩
  have HV3 : Hid _ := two_row w2 w3 ⟨#[97]⟩ ⟨#[98]⟩ hw3
  have HB3 : Hid (Below w.heap.size w w3) := step_below HB2 (by rw [← hw3]; exact alloc_below w2 _)
  obtain ⟨w4, hw4⟩ : ∃ w4, w3.alloc (.cells #[.int .i64 9, .string ⟨#[]⟩, .int .i64 0, .slice (some ⟨w2.heap.size, 0, none⟩) 2 2] 24) = w4 := ⟨_, rfl⟩
  have hb4 : Below w3.heap.size w3 w4 := by rw [← hw4]; exact alloc_below w3 _
  have HB4 := step_below HB3 hb4
  have HA4 : Hid (BR w4 w3.heap.size 9 ⟨#[]⟩ 0 (some ⟨w2.heap.size, 0, none⟩) 2 2) := by rw [← hw4]; exact BR.new w3 _ _ _ _ _ _
  have HV4 : Hid _ := HV3.out.lo.kp hb4
  clear hb4 HV3
  go_wp2_with fail
  refine (HBu _ _).mono ?_
  rintro e w5 ⟨hb, rfl⟩
  have HB5 := step_below HB4 hb
  have HA5 : Hid _ := HA4.out.keep hb
  have HV5 : Hid _ := HV4.out.kp hb
  clear hb HV4 HA4 hw3 hw4
  go_wp2_with fail
  refine (HBu _ _).mono ?_
  rintro e w6 ⟨hb, rfl⟩
  have HB6 := step_below HB5 hb
  have HA6 : Hid _ := HA5.out.keep hb
  have HV6 : Hid _ := HV5.out.kp hb
  clear hb HV5 HA5
  obtain ⟨w7, hw7⟩ : ∃ w3, w6.alloc (.cells #[.int .i64 4, .string ⟨#[98]⟩, .int .i64 0, .slice none 0 0, .int .i64 4, .string ⟨#[97]⟩, .int .i64 0, .slice none 0 0] 24) = w3 := ⟨_, rfl⟩
  have HU7 : Hid _ := two_row w6 w7 ⟨#[98]⟩ ⟨#[97]⟩ hw7
  have hb7 : Below w6.heap.size w6 w7 := by rw [← hw7]; exact alloc_below w6 _
  have HB7 := step_below HB6 hb7
  obtain ⟨w8, hw8⟩ : ∃ w4, w7.alloc (.cells #[.int .i64 9, .string ⟨#[]⟩, .int .i64 0, .slice (some ⟨w6.heap.size, 0, none⟩) 2 2] 24) = w4 := ⟨_, rfl⟩
  have hb8 : Below w7.heap.size w7 w8 := by rw [← hw8]; exact alloc_below w7 _
  have HB8 := step_below HB7 hb8
  have HC8 : Hid (BR w8 w7.heap.size 9 ⟨#[]⟩ 0 (some ⟨w6.heap.size, 0, none⟩) 2 2) := by rw [← hw8]; exact BR.new w7 _ _ _ _ _ _
  have HA8 : Hid _ := (HA6.out.keep hb7).keep hb8
  have HV8 : Hid _ := (HV6.out.kp hb7).kp hb8
  have HU8 : Hid _ := HU7.out.lo.kp hb8
  have HAl := Alike_any 1 _ _ _ _ w8 HV8.out.lo HU8.out.lo
  rw [two_alike] at HAl
  simp only [El.v] at HAl
  have p0 := HA8.out.c0
  have p1 := HA8.out.c1
  have p2 := HA8.out.c2
  have p3 := HA8.out.c3
  have q0 := HC8.out.c0
  have q1 := HC8.out.c1
  have q2 := HC8.out.c2
  have q3 := HC8.out.c3
  clear hb7 hb8 HU7 HV6 HA6
  go_wp2_with fail
  refine HAl.mono ?_
  rintro e w9 ⟨hb, rfl⟩
  have HB9 := step_below HB8 hb
  have HA9 : Hid _ := HA8.out.keep hb
  have HC9 : Hid _ := HC8.out.keep hb
  have HSm := Same_all 1 _ _ _ _ w9 (HV8.out.kp hb).lo (HU8.out.kp hb).lo
  rw [two_unlike (by decide)] at HSm
  simp only [El.v] at HSm
  clear hb p0 p1 p2 p3 q0 q1 q2 q3 HAl hw7 hw8
  have p0 := HA9.out.c0
  have p1 := HA9.out.c1
  have p2 := HA9.out.c2
  have p3 := HA9.out.c3
  have q0 := HC9.out.c0
  have q1 := HC9.out.c1
  have q2 := HC9.out.c2
  have q3 := HC9.out.c3
  go_wp2_with fail
  refine HSm.mono ?_
  rintro e w10 ⟨hb, rfl⟩
  have HB10 := step_below HB9 hb
  have HN := Same_all 1 _ _ _ _ w10 (Vl.leaf w10 _ 1 5 ⟨#[]⟩ 0) (Vl.leaf w10 _ 1 6 ⟨#[]⟩ 0)
  rw [null_unlike] at HN
  simp only [El.v] at HN
  clear hb p0 p1 p2 p3 q0 q1 q2 q3 HSm
  go_wp2_with fail
  refine HN.mono ?_
  rintro e w11 ⟨hb, rfl⟩
  have HB11 := step_below HB10 hb
  clear hb HN
  go_wp2_with fail
  refine (HOK _).mono ?_
  rintro e w12 ⟨hb, rfl⟩
  have HB12 := step_below HB11 hb
  clear hb
  have HDp := (Depth_all 1 (by omega) _ _ w12 (Vl.leaf w12 _ 1 1 ⟨#[79, 75]⟩ 0)).2
  have e1 : depT (.mk 1 ⟨#[79, 75]⟩ 0 []) = 1 := by rw [depT]; rfl
  rw [e1] at HDp
  simp only [El.v] at HDp
  clear e1
  go_wp2_with fail
  refine HDp.mono ?_
  rintro e w13 ⟨hb, rfl⟩
  have HB13 := step_below HB12 hb
  clear hb HDp
  go_wp2_with fail
  refine (HOK _).mono ?_
  rintro e w14 ⟨hb, rfl⟩
  have HB14 := step_below HB13 hb
  have hfl := field1 (.int .i64 1) (.int .i64 0) (.slice none 0 0) ⟨#[79, 75]⟩ w14
  have hq : ((⟨#[79, 75]⟩ : ByteArray).toList == (⟨#[79, 75]⟩ : ByteArray).toList) = true := by rw [str_beq]; simp
  clear hb
  go_wp2
  go_ret
  exact ⟨HB14.out, rfl⟩
end Go.Proofs.YtiamgnfbgiognaaGreatDoor
