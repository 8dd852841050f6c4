/-
  The program's words, second part: what stands in quotes.
-/
import Derived.Test.YtkoepgjdjbmknaaRa
namespace Go.Proofs.Ytkoepgjdjbmknaa
open Go.RowKit Go.PlainAid

theorem Rd.one (w : World) (x : Int) (b : UInt8) (h : (b.toNat : Int) = x) : Rd (w.alloc (.cells #[.int .u8 x] 5)) (some ⟨w.heap.size, 0, none⟩) 1 1 [b] := by
  have := (Own.made w [b] w.heap.size 1 rfl (Nat.le_refl _) (by decide)).rd
  rw [show cells [b] = [.int .u8 x] by simp [cells, h]] at this
  exact this

theorem quo_end (q : UInt8) (acc : List UInt8) : quo q acc [] = none := by unfold quo; rfl
theorem quo_hit (q : UInt8) (acc r : List UInt8) : quo q acc (q :: r) = some (acc, r) := by
  cases r with
  | nil => rw [quo, if_pos rfl]
  | cons d r => rw [quo, if_pos rfl]
theorem quo_esc {q b d : UInt8} (acc r : List UInt8) (h1 : ¬ b = q) (h2 : b = 92) (h3 : q = 34 ∨ d = q) : quo q acc (b :: d :: r) = quo q (acc ++ [mnt d]) r := by
  rw [quo, if_neg h1, if_pos ⟨h2, h3⟩]
theorem quo_push {q b : UInt8} (acc r : List UInt8) (h1 : ¬ b = q) (h2 : ∀ d r', r = d :: r' → ¬ (b = 92 ∧ (q = 34 ∨ d = q))) : quo q acc (b :: r) = quo q (acc ++ [b]) r := by
  cases r with
  | nil => rw [quo_end]; simp only [quo, if_neg h1]
  | cons d r => rw [quo, if_neg h1, if_neg (h2 d r rfl)]

/-- What cutQuoted leaves. -/
def QuoR (w w' : World) (o : Option (List UInt8 × List UInt8)) (e : Ending) : Prop :=
  match o with
  | some (x, s) => ∃ a n c, e = .returned (.tuple #[.slice a n c, .string (bs s), .bool true]) ∧ Own w' w.heap.size a n c x
  | none => e = .returned (.tuple #[.slice none 0 0, .string ⟨#[]⟩, .bool false])

theorem pair_int {q d : UInt8} {qi c : Int} (hq : (q.toNat : Int) = qi) (h : (d.toNat : Int) = c) : (q = 34 ∨ d = q) ↔ pairI qi c = true := by
  unfold pairI
  rw [Bool.or_eq_true, beq_iff_eq, beq_iff_eq, byte_is hq 34, byte_is h q, hq]
  rfl

set_option maxHeartbeats 2000000 in
theorem cutQuoted_any (s : ByteArray) (w : World) (hs : s.size ≤ 1000000) (h0 : 0 < s.size) :
    Calls Try.prog 37 #[.string s] w fun e w' => Below w.heap.size w w' ∧ QuoR w w' (quo (s[0]'h0) [] ((lst s).drop 1)) e := by
  obtain ⟨R, hR⟩ : ∃ R, quo (s[0]'h0) [] ((lst s).drop 1) = R := ⟨_, rfl⟩
  rw [hR]
  obtain ⟨qi, hq⟩ : ∃ c : Int, ((s[0]'h0).toNat : Int) = c := ⟨_, rfl⟩
  obtain ⟨q, hqq⟩ : ∃ q, s[0]'h0 = q := ⟨_, rfl⟩
  have HQ : Hid (s[0]'h0 = q) := hqq
  have HR : Hid (quo q [] ((lst s).drop 1) = R) := by show _ = _; rw [← hqq]; exact hR
  have HQI : Hid ((q.toNat : Int) = qi) := by show _ = _; rw [← hqq]; exact hq
  have hqb := byte_in _ hq
  clear hR hqq
  have HO : Hid (Own w w.heap.size none 0 0 []) := Own.nil w _
  go_enter Try.func37, Try.ntmps37
  go_wp2
  go_loopg [6, 7] (s.size - 1) (fun g pv iv wr => ∃ (k : Nat) (a : Option Addr) (n c : Nat) (acc : List UInt8), k + g = s.size ∧ pv = .slice a n c ∧ iv = .int .i64 k ∧ Hid (Own wr w.heap.size a n c acc) ∧ Hid (acc.length ≤ k) ∧ Hid (Below w.heap.size w wr) ∧ Hid (quo q acc ((lst s).drop k) = R))
  case atStart => exact ⟨1, none, 0, 0, [], by omega, rfl, rfl, HO, Nat.zero_le _, Below.refl _ _, HR⟩
  case round =>
    obtain ⟨k, a, n, c, acc, hk, rfl, rfl, HO1, HA, HB, H⟩ := hrel
    have HK : Hid (k + gk = s.size) := hk
    clear hk HO
    by_cases hlt : k < s.size
    · have HD : Hid ((lst s).drop k = s[k] :: (lst s).drop (k + 1)) := drop_at s k hlt
      obtain ⟨x, hx⟩ : ∃ c : Int, ((s[k]'hlt).toNat : Int) = c := ⟨_, rfl⟩
      obtain ⟨b, hb⟩ : ∃ b, s[k]'hlt = b := ⟨_, rfl⟩
      have HX : Hid ((b.toNat : Int) = x) := by show _ = _; rw [← hb]; exact hx
      have HD : Hid ((lst s).drop k = b :: (lst s).drop (k + 1)) := by show _ = _; rw [← hb]; exact drop_at s k hlt
      have hxb := byte_in _ hx
      clear hb
      by_cases hxq : x = qi
      · have HN : Hid (R = some (acc, (lst s).drop (k + 1))) := by
          have : b = q := UInt8.toNat_inj.1 (by have := HX.out; have := HQI.out; omega)
          show _ = _
          rw [← H.out, HD.out, this, quo_hit]
        have hE : s.extract (k + 1) s.size = bs ((lst s).drop (k + 1)) := extract_bs s (k + 1)
        subst hxq
        go_wp2
        go_quiet (fail)
        go_wp2
        go_ret3
        refine ⟨HB.out.trans ((below_drewN _ _).mono HB.out.size), ?_⟩
        rw [HN.out]
        exact ⟨_, _, _, rfl, HO1.out.keep (below_drewN _ _)⟩
      · have hxf : (x == qi) = false := by simpa using hxq
        have HNQ : Hid (¬ b = q) := by
          intro e
          have h1 := HX.out
          have h2 := HQI.out
          rw [e] at h1
          omega
        have HM : Hid (n + 1 ≤ 140737488355328) := by
          have := HO1.out.len
          have := HA.out
          show _ ≤ _
          omega
        have hsz := HB.out.size
        clear hxq
        -- the byte is put behind the others, whatever it is
        by_cases h92 : x = 92
        · by_cases h1 : k + 1 < s.size
          · obtain ⟨y, hy⟩ : ∃ c : Int, ((s[k + 1]'h1).toNat : Int) = c := ⟨_, rfl⟩
            obtain ⟨d, hd⟩ : ∃ b, s[k + 1]'h1 = b := ⟨_, rfl⟩
            have HY : Hid ((d.toNat : Int) = y) := by show _ = _; rw [← hd]; exact hy
            have HD2 : Hid ((lst s).drop (k + 1) = d :: (lst s).drop (k + 2)) := by show _ = _; rw [← hd]; exact drop_at s (k + 1) h1
            have hyb := byte_in _ hy
            have hk1 : (k : Int) + 1 < s.size := by omega
            clear hd
            cases hp : pairI qi y with
            | true =>
              have HN : Hid (quo q (acc ++ [mnt d]) ((lst s).drop (k + 2)) = R) := by
                show _ = _
                rw [← H.out, HD.out, HD2.out, quo_esc acc _ HNQ.out (by rw [byte_is HX.out 92]; exact h92) ((pair_int HQI.out HY.out).2 hp)]
              have HP : Hid (pairI qi y = true) := hp
              obtain ⟨z, hz⟩ : ∃ z, mntI y = z := ⟨_, rfl⟩
              have HZ : Hid (mntI y = z) := hz
              have HZ2 : Hid (((mnt d).toNat : Int) = z) := by show _ = _; rw [mnt_int HY.out]; exact hz
              clear hp hz
              subst h92
              go_wp2_with (first
                | (go_at_call 44; refine (isPair_any _ _ true HP.out _).mono ?_; rintro e wr ⟨rfl, rfl⟩)
                | (go_at_call 45; refine (meant_any _ _ HZ.out _).mono ?_; rintro e wr ⟨rfl, rfl⟩)
                | (at_builtin; refine append_row rfl (.tmp 51) (.tmp 53) rfl w.heap.size rfl (HO1.out.keep (alloc_below wr _)) rfl (Rd.one wr _ _ HZ2.out) HM.out (Nat.le_trans hsz (alloc_below wr _).size) ?_; intro a2 n2 c2 w2 hn2 hO2 hB2; have HO2 : Hid (Own w2 w.heap.size a2 n2 c2 (acc ++ [mnt d])) := hO2; have HB2 : Hid (Below w.heap.size w w2) := (HB.out.trans ((alloc_below wr _).mono hsz)).trans hB2; clear hn2 hO2 hB2))
              go_roundg (gk - 2)
              case measure => have := HK.out; omega
              case rel => exact ⟨k + 2, _, _, _, acc ++ [mnt d], by have := HK.out; omega, rfl, by go_num, HO2, by have := HA.out; show _ ≤ _; simp; omega, HB2, HN⟩
            | false =>
              have HN : Hid (quo q (acc ++ [b]) ((lst s).drop (k + 1)) = R) := by
                show _ = _
                rw [← H.out, HD.out, quo_push acc _ HNQ.out]
                intro d' r' hr
                rw [HD2.out] at hr
                cases hr
                rintro ⟨-, h⟩
                have := (pair_int HQI.out HY.out).1 h
                rw [hp] at this
                cases this
              have HP : Hid (pairI qi y = false) := hp
              clear hp
              subst h92
              go_wp2_with (first
                | (go_at_call 44; refine (isPair_any _ _ false HP.out _).mono ?_; rintro e wr ⟨rfl, rfl⟩)
                | (at_builtin; refine append_row rfl (.tmp 51) (.tmp 53) rfl w.heap.size rfl (HO1.out.keep (alloc_below wr _)) rfl (Rd.one wr _ _ HX.out) HM.out (Nat.le_trans hsz (alloc_below wr _).size) ?_; intro a2 n2 c2 w2 hn2 hO2 hB2; have HO2 : Hid (Own w2 w.heap.size a2 n2 c2 (acc ++ [b])) := hO2; have HB2 : Hid (Below w.heap.size w w2) := (HB.out.trans ((alloc_below wr _).mono hsz)).trans hB2; clear hn2 hO2 hB2))
              go_roundg (gk - 1)
              case measure => have := HK.out; omega
              case rel => exact ⟨k + 1, _, _, _, acc ++ [b], by have := HK.out; omega, rfl, by go_num, HO2, by have := HA.out; show _ ≤ _; simp; omega, HB2, HN⟩
          · have HN : Hid (quo q (acc ++ [b]) ((lst s).drop (k + 1)) = R) := by
              show _ = _
              rw [← H.out, HD.out, quo_push acc _ HNQ.out]
              intro d' r' hr
              rw [List.drop_eq_nil_of_le (by rw [len_lst]; omega)] at hr
              cases hr
            have hk1 : ¬ (k : Int) + 1 < s.size := by omega
            subst h92
            go_wp2_with (first
              | (at_builtin; refine append_row rfl (.tmp 51) (.tmp 53) rfl w.heap.size rfl (HO1.out.keep (alloc_below wr _)) rfl (Rd.one wr _ _ HX.out) HM.out (Nat.le_trans hsz (alloc_below wr _).size) ?_; intro a2 n2 c2 w2 hn2 hO2 hB2; have HO2 : Hid (Own w2 w.heap.size a2 n2 c2 (acc ++ [b])) := hO2; have HB2 : Hid (Below w.heap.size w w2) := (HB.out.trans ((alloc_below wr _).mono hsz)).trans hB2; clear hn2 hO2 hB2))
            go_roundg (gk - 1)
            case measure => have := HK.out; omega
            case rel => exact ⟨k + 1, _, _, _, acc ++ [b], by have := HK.out; omega, rfl, by go_num, HO2, by have := HA.out; show _ ≤ _; simp; omega, HB2, HN⟩
        · have HN : Hid (quo q (acc ++ [b]) ((lst s).drop (k + 1)) = R) := by
            show _ = _
            rw [← H.out, HD.out, quo_push acc _ HNQ.out]
            rintro d' r' - ⟨h, -⟩
            rw [byte_is HX.out 92] at h
            exact h92 h
          have h92f : (x == 92) = false := by simpa using h92
          clear h92
          go_wp2_with (first
            | (at_builtin; refine append_row rfl (.tmp 51) (.tmp 53) rfl w.heap.size rfl (HO1.out.keep (alloc_below wr _)) rfl (Rd.one wr _ _ HX.out) HM.out (Nat.le_trans hsz (alloc_below wr _).size) ?_; intro a2 n2 c2 w2 hn2 hO2 hB2; have HO2 : Hid (Own w2 w.heap.size a2 n2 c2 (acc ++ [b])) := hO2; have HB2 : Hid (Below w.heap.size w w2) := (HB.out.trans ((alloc_below wr _).mono hsz)).trans hB2; clear hn2 hO2 hB2))
          go_roundg (gk - 1)
          case measure => have := HK.out; omega
          case rel => exact ⟨k + 1, _, _, _, acc ++ [b], by have := HK.out; omega, rfl, by go_num, HO2, by have := HA.out; show _ ≤ _; simp; omega, HB2, HN⟩
    · have HN : Hid (R = none) := by
        show _ = _
        rw [← H.out, List.drop_eq_nil_of_le (by rw [len_lst]; omega), quo_end]
      go_wp2
      go_ret3
      refine ⟨HB.out, ?_⟩
      rw [HN.out]
      rfl
/-- The same where the line is told by its bytes. -/
theorem cutQuoted_cons (s : ByteArray) (q : UInt8) (r : List UInt8) (w : World) (hs : s.size ≤ 1000000) (h : lst s = q :: r) :
    Calls Try.prog 37 #[.string s] w fun e w' => Below w.heap.size w w' ∧ QuoR w w' (quo q [] r) e := by
  have hl : s.size = r.length + 1 := by rw [← len_lst, h]; rfl
  have h0 : 0 < s.size := by omega
  have h2 := lst_cons s h0
  rw [h] at h2
  have := cutQuoted_any s w hs h0
  rw [h, List.drop_one, List.tail_cons, ← (List.cons.inj h2).1] at this
  exact this
end Go.Proofs.Ytkoepgjdjbmknaa
