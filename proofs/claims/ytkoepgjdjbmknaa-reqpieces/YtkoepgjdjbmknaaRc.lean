/-
  The program's words, third part: a word.
-/
import Derived.Test.YtkoepgjdjbmknaaRb
namespace Go.Proofs.Ytkoepgjdjbmknaa
open Go.RowKit Go.PlainAid

/-- What cutWord answers. -/
def WordR (o : Option (List UInt8 × List UInt8)) (e : Ending) : Prop :=
  match o with
  | some (x, s) => e = .returned (.tuple #[.string (bs x), .string (bs s), .bool true])
  | none => e = .returned (.tuple #[.string ⟨#[]⟩, .string ⟨#[]⟩, .bool false])

theorem wrd_blank {acc r : List UInt8} {b : UInt8} (h : blk b = true) : wrd acc (b :: r) = some (acc, b :: r) := by rw [wrd, if_pos h]
theorem wrd_push {acc r : List UInt8} {b : UInt8} (h : blk b = false) (h1 : ¬ (b = 34 ∨ b = 39)) : wrd acc (b :: r) = wrd (acc ++ [b]) r := by
  rw [wrd, if_neg (by rw [h]; simp), if_neg h1]
theorem wrd_none {acc r : List UInt8} {b : UInt8} (h : blk b = false) (h1 : b = 34 ∨ b = 39) (hq : quo b [] r = none) : wrd acc (b :: r) = none := by
  rw [wrd, if_neg (by rw [h]; simp), if_pos h1, hq]
theorem wrd_some {acc r x s : List UInt8} {b : UInt8} (h : blk b = false) (h1 : b = 34 ∨ b = 39) (hq : quo b [] r = some (x, s)) : wrd acc (b :: r) = if s.head?.all blk then some (acc ++ x, s) else none := by
  rw [wrd, if_neg (by rw [h]; simp), if_pos h1, hq]
theorem quo_len {q : UInt8} {l : List UInt8} : ∀ {acc x s : List UInt8}, quo q acc l = some (x, s) → x.length + s.length + 1 ≤ acc.length + l.length := by
  induction hk : l.length using Nat.strongRecOn generalizing l with
  | _ n ih =>
    intro acc x s h
    subst hk
    cases l with
    | nil => rw [quo_end] at h; cases h
    | cons b r =>
      cases r with
      | nil =>
        simp only [quo] at h
        split at h
        · cases h; simp
        · cases h
      | cons d r =>
        rw [quo] at h
        split at h
        · cases h; simp; omega
        · split at h
          · have := ih r.length (by simp; omega) rfl h
            simp at this ⊢; omega
          · have := ih (d :: r).length (by simp) rfl h
            simp at this ⊢; omega

set_option maxHeartbeats 2000000 in
theorem cutWord_any (s : ByteArray) (w : World) (hs : s.size ≤ 1000000) :
    Calls Try.prog 28 #[.string s] w fun e w' => Below w.heap.size w w' ∧ WordR (wrd [] (lst s)) e := by
  obtain ⟨R, hR⟩ : ∃ R, wrd [] (lst s) = R := ⟨_, rfl⟩
  rw [hR]
  have HR : Hid (wrd [] (lst s) = R) := hR
  clear hR
  have HO : Hid (Own w w.heap.size none 0 0 []) := Own.nil w _
  go_enter Try.func28, Try.ntmps28
  go_wp2
  go_loopg [5, 6] s.size (fun g pv iv wr => ∃ (k : Nat) (a : Option Addr) (n c : Nat) (acc : List UInt8), k + g = s.size ∧ pv = .slice a n c ∧ iv = .int .i64 k ∧ Hid (Own wr w.heap.size a n c acc) ∧ Hid (acc.length ≤ k) ∧ Hid (Below w.heap.size w wr) ∧ Hid (wrd acc ((lst s).drop k) = R))
  case atStart => exact ⟨0, none, 0, 0, [], by omega, rfl, rfl, HO, Nat.zero_le _, Below.refl _ _, HR⟩
  case round =>
    obtain ⟨k, a, n, c, acc, hk, rfl, rfl, HO1, HA, HB, H⟩ := hrel
    have HK : Hid (k + gk = s.size) := hk
    clear hk HO
    by_cases hlt : k < s.size
    · obtain ⟨x, hx⟩ : ∃ c : Int, ((s[k]'hlt).toNat : Int) = c := ⟨_, rfl⟩
      obtain ⟨b, hb⟩ : ∃ b, s[k]'hlt = b := ⟨_, rfl⟩
      have HX : Hid ((b.toNat : Int) = x) := by show _ = _; rw [← hb]; exact hx
      have HD : Hid ((lst s).drop k = b :: (lst s).drop (k + 1)) := by show _ = _; rw [← hb]; exact drop_at s k hlt
      have hxb := byte_in _ hx
      clear hb
      have hE : s.extract k s.size = bs ((lst s).drop k) := extract_bs s k
      have hbk := blk_int HX.out
      cases hv : blkI x with
      | true =>
        have HV : Hid (blkI x = true) := hv
        have HN : Hid (R = some (acc, (lst s).drop k)) := by
          show _ = _
          rw [← H.out, HD.out, wrd_blank (by rw [hbk]; exact hv)]
        clear hv hbk
        have hT := fun q => (HO1.out.keep (below_drewN wr q)).rd.text
        go_wp2_with (go_at_call 36; refine (isBlank_any _ true HV.out _).mono ?_; rintro e wr ⟨rfl, rfl⟩)
        go_quiet (fail)
        go_wp2
        go_ret3
        refine ⟨HB.out.trans ((below_drewN _ _).mono HB.out.size), ?_⟩
        rw [HN.out]
        rfl
      | false =>
        clear hE
        have HBK : Hid (blk b = false) := by show _ = _; rw [hbk]; exact hv
        clear hbk
        have HM : Hid (n + 1 ≤ 140737488355328) := by
          have := HO1.out.len
          have := HA.out
          show _ ≤ _
          omega
        have hsz := HB.out.size
        by_cases hq : x = 34 ∨ x = 39
        · have HQ : Hid (b = 34 ∨ b = 39) := by show _ ∨ _; rw [byte_is HX.out 34, byte_is HX.out 39]; exact hq
          have hE : s.extract k s.size = bs ((lst s).drop k) := extract_bs s k
          have hbs : (bs ((lst s).drop k)).size ≤ 1000000 := by rw [size_bs, List.length_drop, len_lst]; omega
          have HCQ := fun w => cutQuoted_cons (bs ((lst s).drop k)) b ((lst s).drop (k + 1)) w hbs HD.out
          clear hbs
          have hxe : ((x == 34) = true ∧ (x == 34) = true) ∨ ((x == 34) = false ∧ (x == 39) = true) := by
            rcases hq with h | h
            · exact .inl ⟨by simpa using h, by simpa using h⟩
            · exact .inr ⟨by rw [h]; rfl, by simpa using h⟩
          clear hq
          cases ho : quo b [] ((lst s).drop (k + 1)) with
          | none =>
            have HN : Hid (R = none) := by
              show _ = _
              rw [← H.out, HD.out, wrd_none HBK.out HQ.out ho]
            rw [ho] at HCQ
            clear ho
            rcases hxe with ⟨h1, h2⟩ | ⟨h1, h2⟩
            all_goals
              go_wp2_with (first
                | (go_at_call 36; refine (isBlank_any _ _ rfl _).mono ?_; rintro e wr ⟨rfl, rfl⟩)
                | (go_at_call 37; refine (HCQ _).mono ?_; rintro e w1 ⟨hB1, hQ1⟩; have hQ2 : e = _ := hQ1; subst hQ2; clear hQ1; have HB1 : Hid (Below w.heap.size w w1) := HB.out.trans (hB1.mono hsz); clear hB1))
              go_ret3
              refine ⟨HB1.out, ?_⟩
              rw [HN.out]
              rfl
          | some o =>
            obtain ⟨p, t⟩ := o
            rw [ho] at HCQ
            have HW : Hid (R = if t.head?.all blk then some (acc ++ p, t) else none) := by
              show _ = _
              rw [← H.out, HD.out, wrd_some HBK.out HQ.out ho]
            have HL : Hid (p.length ≤ 1000000) := by
              have := quo_len ho
              rw [List.length_drop, len_lst] at this
              show _ ≤ _
              simp at this
              omega
            clear ho
            cases t with
            | nil =>
              have HN : Hid (R = some (acc ++ p, [])) := HW.out
              obtain ⟨tb, htb⟩ : ∃ tb, bs [] = tb := ⟨_, rfl⟩
              have HTB : Hid (bs [] = tb) := htb
              have he : tb.toList.isEmpty = true := emp_yes (by rw [← htb]; decide)
              rcases hxe with ⟨h1, h2⟩ | ⟨h1, h2⟩
              all_goals
                go_wp2_with (first
                  | (go_at_call 36; refine (isBlank_any _ _ rfl _).mono ?_; rintro e w3 ⟨rfl, rfl⟩)
                  | (go_at_call 37; refine (HCQ _).mono ?_; rintro e w1 ⟨hB1, hQ1⟩; obtain ⟨a1, n1, c1, hQ2, hO1⟩ := hQ1; subst hQ2; have HO3 : Hid (Own w1 w.heap.size a n c acc) := HO1.out.keep hB1; have HP1 : Hid (Rd w1 a1 n1 c1 p) := hO1.rd; have HM2 : Hid (n + n1 ≤ 140737488355328) := (by have h1 := HO1.out.len; have h2 := HA.out; have h3 := hO1.len; have h4 := HL.out; show _ ≤ _; omega); have HB1 : Hid (Below w.heap.size w w1) := HB.out.trans (hB1.mono hsz); have HS1 : Hid (w.heap.size ≤ w1.heap.size) := HB1.out.size; clear hB1 hO1)
                  | (at_builtin; refine append_row rfl (.tmp 59) (.tmp 60) rfl w.heap.size rfl HO3.out rfl HP1.out HM2.out HS1.out ?_; intro a2 n2 c2 w2 hn2 hO2 hB2; have hT2 := hO2.rd.text; have HB2 : Hid (Below w.heap.size w w2) := HB1.out.trans hB2; clear hn2 hO2 hB2))
                go_ret3
                refine ⟨HB2.out, ?_⟩
                rw [HN.out]
                show _ = _
                rw [HTB.out]
                rfl
            | cons d r =>
              obtain ⟨y, hy⟩ : ∃ c : Int, (d.toNat : Int) = c := ⟨_, rfl⟩
              have hyb := byte_in _ hy
              obtain ⟨tb, htb⟩ : ∃ tb, bs (d :: r) = tb := ⟨_, rfl⟩
              have hts : 0 < tb.size := by rw [← htb, size_bs]; simp
              have hty : ((tb[0]'hts).toNat : Int) = y := by
                rw [← hy]
                subst htb
                rfl
              have he : tb.toList.isEmpty = false := emp_no hts
              have hbd := blk_int hy
              have HY : Hid ((d.toNat : Int) = y) := hy
              clear hy
              cases hvy : blkI y with
              | true =>
                have HN : Hid (R = some (acc ++ p, d :: r)) := by
                  show _ = _
                  rw [HW.out, if_pos (by rw [List.head?_cons]; simp [hbd, hvy])]
                clear hbd
                have HTB : Hid (bs (d :: r) = tb) := htb
                rcases hxe with ⟨h1, h2⟩ | ⟨h1, h2⟩
                all_goals
                  go_wp2_with (first
                    | (go_at_call 36; refine (isBlank_any _ _ rfl _).mono ?_; rintro e w3 ⟨rfl, rfl⟩)
                    | (go_at_call 37; refine (HCQ _).mono ?_; rintro e w1 ⟨hB1, hQ1⟩; obtain ⟨a1, n1, c1, hQ2, hO1⟩ := hQ1; subst hQ2; have HO3 : Hid (Own w1 w.heap.size a n c acc) := HO1.out.keep hB1; have HP1 : Hid (Rd w1 a1 n1 c1 p) := hO1.rd; have HM2 : Hid (n + n1 ≤ 140737488355328) := (by have h1 := HO1.out.len; have h2 := HA.out; have h3 := hO1.len; have h4 := HL.out; show _ ≤ _; omega); have HB1 : Hid (Below w.heap.size w w1) := HB.out.trans (hB1.mono hsz); have HS1 : Hid (w.heap.size ≤ w1.heap.size) := HB1.out.size; clear hB1 hO1)
                    | (at_builtin; refine append_row rfl (.tmp 59) (.tmp 60) rfl w.heap.size rfl HO3.out rfl HP1.out HM2.out HS1.out ?_; intro a2 n2 c2 w2 hn2 hO2 hB2; have hT2 := hO2.rd.text; have HB2 : Hid (Below w.heap.size w w2) := HB1.out.trans hB2; clear hn2 hO2 hB2))
                  go_ret3
                  refine ⟨HB2.out, ?_⟩
                  rw [HN.out]
                  show _ = _
                  rw [HTB.out]; rfl
              | false =>
                have HN : Hid (R = none) := by
                  show _ = _
                  rw [HW.out, if_neg (by rw [List.head?_cons]; simp [hbd, hvy])]
                clear hbd
                rcases hxe with ⟨h1, h2⟩ | ⟨h1, h2⟩
                all_goals
                  go_wp2_with (first
                    | (go_at_call 36; refine (isBlank_any _ _ rfl _).mono ?_; rintro e w3 ⟨rfl, rfl⟩)
                    | (go_at_call 37; refine (HCQ _).mono ?_; rintro e w1 ⟨hB1, hQ1⟩; obtain ⟨a1, n1, c1, hQ2, hO1⟩ := hQ1; subst hQ2; have HO3 : Hid (Own w1 w.heap.size a n c acc) := HO1.out.keep hB1; have HP1 : Hid (Rd w1 a1 n1 c1 p) := hO1.rd; have HM2 : Hid (n + n1 ≤ 140737488355328) := (by have h1 := HO1.out.len; have h2 := HA.out; have h3 := hO1.len; have h4 := HL.out; show _ ≤ _; omega); have HB1 : Hid (Below w.heap.size w w1) := HB.out.trans (hB1.mono hsz); have HS1 : Hid (w.heap.size ≤ w1.heap.size) := HB1.out.size; clear hB1 hO1))
                  go_ret3
                  refine ⟨HB1.out, ?_⟩
                  rw [HN.out]
                  rfl
        · have h34 : (x == 34) = false := by simp; omega
          have h39 : (x == 39) = false := by simp; omega
          have HN : Hid (wrd (acc ++ [b]) ((lst s).drop (k + 1)) = R) := by
            show _ = _
            rw [← H.out, HD.out, wrd_push HBK.out (by rw [byte_is HX.out 34, byte_is HX.out 39]; exact hq)]
          clear hq
          go_wp2_with (first
            | (go_at_call 36; refine (isBlank_any _ _ rfl _).mono ?_; rintro e wr ⟨rfl, rfl⟩)
            | (at_builtin; refine append_row rfl (.tmp 20) (.tmp 22) rfl w.heap.size rfl (HO1.out.keep (alloc_below wr _)) rfl (Rd.one wr _ _ HX.out) HM.out (Nat.le_trans hsz (alloc_below wr _).size) ?_; intro a2 n2 c2 w2 hn2 hO2 hB2; have HO2 : Hid (Own w2 w.heap.size a2 n2 c2 (acc ++ [b])) := hO2; have HB2 : Hid (Below w.heap.size w w2) := (HB.out.trans ((alloc_below wr _).mono hsz)).trans hB2; clear hn2 hO2 hB2))
          go_roundg (gk - 1)
          case measure => have := HK.out; omega
          case rel => exact ⟨k + 1, _, _, _, acc ++ [b], by have := HK.out; omega, rfl, by go_num, HO2, by have := HA.out; show _ ≤ _; simp; omega, HB2, HN⟩
    · have HN : Hid (R = some (acc, [])) := by
        show _ = _
        rw [← H.out, List.drop_eq_nil_of_le (by rw [len_lst]; omega), wrd]
      have hT := HO1.out.rd.text
      go_wp2
      go_ret3
      refine ⟨HB.out, ?_⟩
      rw [HN.out]
      rfl
end Go.Proofs.Ytkoepgjdjbmknaa
