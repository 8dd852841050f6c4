/-
  The document's own Encode: body, Encode, Bytes.
-/
import Derived.Test.YtemiajjjhhofaabEnc
namespace Go.Proofs.Ytemiajjjhhofaab
open Go.RowKit Go.PlainAid

set_option maxRecDepth 100000 in
set_option maxHeartbeats 4000000 in
theorem refBody_any (s : ByteArray) (w : World) (hs : s.size ≤ 20000) : Calls Try.prog 85 #[.string s] w fun e w' => Makes w (body (lst s)) e w' := by
  have HP := fun w => refParse_any s w (by unfold maxLen; omega) (parseL (lst s)) rfl
  cases hp : parseL (lst s) with
  | some n =>
    rw [hp] at HP
    obtain ⟨-, h1, h2⟩ := parse_in hp
    by_cases h : 0 ≤ n ∧ n ≤ 127
    · rw [body_small hp h]
      have hO := Own.made w [UInt8.ofNat n.toNat] w.heap.size 1 rfl (Nat.le_refl _) (by decide)
      rw [show cells [UInt8.ofNat n.toNat] = [.int .u8 n] by simp [cells]; omega] at hO
      have HO : Hid (Own (w.alloc (.cells #[.int .u8 n] 5)) w.heap.size (some ⟨w.heap.size, 0, none⟩) 1 1 [UInt8.ofNat n.toNat]) := hO
      obtain ⟨h3, h4⟩ := h
      clear hO hp
      go_enter Try.func85, Try.ntmps85
      go_wp2_with fail
      refine (HP _).mono ?_
      rintro e w ⟨rfl, rfl⟩
      unfold i64R
      dsimp only [Option.getD_some, Option.isSome_some]
      go_wp2
      go_ret
      exact ⟨alloc_below w _, _, _, _, rfl, HO.out⟩
    · rw [body_wide hp h]
      have hO := Own.made w [241] w.heap.size 1 rfl (Nat.le_refl _) (by decide)
      rw [show cells [241] = [.int .u8 241] from rfl] at hO
      obtain ⟨wn, hwn⟩ : ∃ wn, w.alloc (.cells #[.int .u8 241] 5) = wn := ⟨_, rfl⟩
      have HO : Hid (Own wn w.heap.size (some ⟨w.heap.size, 0, none⟩) 1 1 [241]) := by show Own _ _ _ _ _ _; rw [← hwn]; exact hO
      have HB : Hid (Below w.heap.size w wn) := by show Below _ _ _; rw [← hwn]; exact (Below.refl _ _).alloc (Nat.le_refl _) _
      have h01 : n < 0 ∨ 127 < n := by omega
      clear hO hp h
      rcases h01 with h3 | h3
      · have h4 : ¬ 0 ≤ n := by omega
        go_enter Try.func85, Try.ntmps85
        go_wp2_with fail
        refine (HP _).mono ?_
        rintro e w ⟨rfl, rfl⟩
        unfold i64R
        dsimp only [Option.getD_some, Option.isSome_some]
        go_wp2
        go_loopg [5, 6] 8 (fun g bv sv wr => ∃ (a : Option Addr) (m c : Nat) (l : List UInt8), g ≤ 8 ∧ bv = .slice a m c ∧ sv = .int .i64 (8 * (g : Int) - 8) ∧ Hid (Own wr w.heap.size a m c l) ∧ Hid (l ++ be g (uns n) = 241 :: be 8 (uns n)) ∧ Hid (Below w.heap.size w wr))
        case atStart => exact ⟨_, _, _, [241], by omega, rfl, rfl, HO, rfl, HB⟩
        case round =>
          obtain ⟨a, m, c, l, hg, rfl, rfl, HO, HL, HB⟩ := hrel
          cases gk with
          | zero =>
            have HE : Hid (l = 241 :: be 8 (uns n)) := by
              show _ = _
              have := HL.out
              rwa [be, List.append_nil] at this
            go_wp2
            go_ret
            exact ⟨HB.out, _, _, _, rfl, by rw [← HE.out]; exact HO.out⟩
          | succ k =>
            rw [show 8 * ((k + 1 : Nat) : Int) - 8 = 8 * (k : Int) by omega]
            have hm := HO.out.len
            have hm2 : l.length + (k + 1) = 9 := by
              have := congrArg List.length HL.out
              rw [List.length_append, be_len, List.length_cons, be_len] at this
              omega
            have hm3 : m + 1 ≤ 140737488355328 := by omega
            have HX : ((UInt8.ofNat (uns n / 2 ^ (8 * k))).toNat : Int) = IntKind.u64.wrap n / 2 ^ (8 * k) % 256 := by
              rw [wrap_uns, UInt8.toNat_ofNat']
              have : ((2 : Int) ^ (8 * k)) = ((2 ^ (8 * k) : Nat) : Int) := by rw [Int.natCast_pow]; rfl
              rw [this, ← Int.natCast_ediv]; rfl
            have HL2 : Hid ((l ++ [UInt8.ofNat (uns n / 2 ^ (8 * k))]) ++ be k (uns n) = 241 :: be 8 (uns n)) := by
              show _ = _
              have := HL.out
              rw [be] at this
              rw [← this]; simp
            have hsz := HB.out.size
            have HM : Hid (m + 1 ≤ 140737488355328) := hm3
            clear hm hm2 hm3 HL
            go_wp2_with (at_builtin; refine append_row rfl (.tmp 30) (.tmp 37) rfl w.heap.size rfl (HO.out.keep (alloc_below wr _)) rfl (Rd.one wr _ _ HX) HM.out (Nat.le_trans hsz (alloc_below wr _).size) ?_; intro a2 n2 c2 w2 hn2 hO2 hB2; have HO2 : Hid (Own w2 w.heap.size a2 n2 c2 (l ++ [UInt8.ofNat (uns n / 2 ^ (8 * k))])) := hO2; have HB2 : Hid (Below w.heap.size w w2) := (HB.out.trans ((alloc_below wr _).mono hsz)).trans hB2; clear hn2 hO2 hB2)
            go_roundg k
            case measure => omega
            case rel => exact ⟨_, _, _, _, by omega, rfl, by go_num, HO2, HL2, HB2⟩
      · have h4 : 0 ≤ n := by omega
        have h5 : ¬ n ≤ 127 := by omega
        go_enter Try.func85, Try.ntmps85
        go_wp2_with fail
        refine (HP _).mono ?_
        rintro e w ⟨rfl, rfl⟩
        unfold i64R
        dsimp only [Option.getD_some, Option.isSome_some]
        go_wp2
        go_loopg [5, 6] 8 (fun g bv sv wr => ∃ (a : Option Addr) (m c : Nat) (l : List UInt8), g ≤ 8 ∧ bv = .slice a m c ∧ sv = .int .i64 (8 * (g : Int) - 8) ∧ Hid (Own wr w.heap.size a m c l) ∧ Hid (l ++ be g (uns n) = 241 :: be 8 (uns n)) ∧ Hid (Below w.heap.size w wr))
        case atStart => exact ⟨_, _, _, [241], by omega, rfl, rfl, HO, rfl, HB⟩
        case round =>
          obtain ⟨a, m, c, l, hg, rfl, rfl, HO, HL, HB⟩ := hrel
          cases gk with
          | zero =>
            have HE : Hid (l = 241 :: be 8 (uns n)) := by
              show _ = _
              have := HL.out
              rwa [be, List.append_nil] at this
            go_wp2
            go_ret
            exact ⟨HB.out, _, _, _, rfl, by rw [← HE.out]; exact HO.out⟩
          | succ k =>
            rw [show 8 * ((k + 1 : Nat) : Int) - 8 = 8 * (k : Int) by omega]
            have hm := HO.out.len
            have hm2 : l.length + (k + 1) = 9 := by
              have := congrArg List.length HL.out
              rw [List.length_append, be_len, List.length_cons, be_len] at this
              omega
            have hm3 : m + 1 ≤ 140737488355328 := by omega
            have HX : ((UInt8.ofNat (uns n / 2 ^ (8 * k))).toNat : Int) = n / 2 ^ (8 * k) % 256 := by
              obtain ⟨u, rfl⟩ := Int.eq_ofNat_of_zero_le h4
              rw [show uns (u : Int) = u by unfold uns; omega, UInt8.toNat_ofNat']
              have : ((2 : Int) ^ (8 * k)) = ((2 ^ (8 * k) : Nat) : Int) := by rw [Int.natCast_pow]; rfl
              rw [this, ← Int.natCast_ediv]; rfl
            have HL2 : Hid ((l ++ [UInt8.ofNat (uns n / 2 ^ (8 * k))]) ++ be k (uns n) = 241 :: be 8 (uns n)) := by
              show _ = _
              have := HL.out
              rw [be] at this
              rw [← this]; simp
            have hsz := HB.out.size
            have HM : Hid (m + 1 ≤ 140737488355328) := hm3
            clear hm hm2 hm3 HL
            go_wp2_with (at_builtin; refine append_row rfl (.tmp 30) (.tmp 37) rfl w.heap.size rfl (HO.out.keep (alloc_below wr _)) rfl (Rd.one wr _ _ HX) HM.out (Nat.le_trans hsz (alloc_below wr _).size) ?_; intro a2 n2 c2 w2 hn2 hO2 hB2; have HO2 : Hid (Own w2 w.heap.size a2 n2 c2 (l ++ [UInt8.ofNat (uns n / 2 ^ (8 * k))])) := hO2; have HB2 : Hid (Below w.heap.size w w2) := (HB.out.trans ((alloc_below wr _).mono hsz)).trans hB2; clear hn2 hO2 hB2)
            go_roundg k
            case measure => omega
            case rel => exact ⟨_, _, _, _, by omega, rfl, by go_num, HO2, HL2, HB2⟩
  | none =>
    rw [hp] at HP
    by_cases h : s.size ≤ 63
    · have hO := Own.made w [UInt8.ofNat (128 + s.size)] w.heap.size 1 rfl (Nat.le_refl _) (by decide)
      have HE : Hid ([UInt8.ofNat (128 + s.size)] ++ lst s = body (lst s)) := by show _ = _; rw [body_short hp h]; rfl
      rw [show cells [UInt8.ofNat (128 + s.size)] = [.int .u8 (128 + (s.size : Int))] by simp [cells]; omega] at hO
      have HO : Hid (Own (w.alloc (.cells #[.int .u8 (128 + (s.size : Int))] 5)) w.heap.size (some ⟨w.heap.size, 0, none⟩) 1 1 [UInt8.ofNat (128 + s.size)]) := hO
      have HM : Hid (1 + s.size ≤ 140737488355328) := by show _ ≤ _; omega
      clear hO hp
      go_enter Try.func85, Try.ntmps85
      go_wp2_with fail
      refine (HP _).mono ?_
      rintro e w ⟨rfl, rfl⟩
      unfold i64R
      dsimp only [Option.getD_none, Option.isSome_none]
      go_wp2_with (at_builtin; refine append_text rfl (.tmp 47) (.tmp 48) rfl w.heap.size rfl HO.out rfl HM.out (alloc_below w _).size ?_; intro a2 n2 c2 w2 hn2 hO2 hB2; have HO2 : Hid (Own w2 w.heap.size a2 n2 c2 (body (lst s))) := (by rw [HE.out] at hO2; exact hO2); have HB2 : Hid (Below w.heap.size w w2) := (alloc_below w _).trans hB2; clear hn2 hO2 hB2)
      go_ret
      exact ⟨HB2.out, _, _, _, rfl, HO2.out⟩
    · have hO := Own.made w [224, UInt8.ofNat (s.size / 256), UInt8.ofNat s.size] w.heap.size 3 rfl (Nat.le_refl _) (by decide)
      have HE : Hid ([224, UInt8.ofNat (s.size / 256), UInt8.ofNat s.size] ++ lst s = body (lst s)) := by show _ = _; rw [body_long hp h]; rfl
      rw [show cells [224, UInt8.ofNat (s.size / 256), UInt8.ofNat s.size] = [.int .u8 224, .int .u8 ((s.size : Int) / 256), .int .u8 ((s.size : Int) % 256)] by simp [cells]; omega] at hO
      have HO : Hid (Own (w.alloc (.cells #[.int .u8 224, .int .u8 ((s.size : Int) / 256), .int .u8 ((s.size : Int) % 256)] 5)) w.heap.size (some ⟨w.heap.size, 0, none⟩) 3 3 [224, UInt8.ofNat (s.size / 256), UInt8.ofNat s.size]) := hO
      have HM : Hid (3 + s.size ≤ 140737488355328) := by show _ ≤ _; omega
      clear hO hp
      go_enter Try.func85, Try.ntmps85
      go_wp2_with fail
      refine (HP _).mono ?_
      rintro e w ⟨rfl, rfl⟩
      unfold i64R
      dsimp only [Option.getD_none, Option.isSome_none]
      go_wp2_with (at_builtin; refine append_text rfl (.tmp 57) (.tmp 58) rfl w.heap.size rfl HO.out rfl HM.out (alloc_below w _).size ?_; intro a2 n2 c2 w2 hn2 hO2 hB2; have HO2 : Hid (Own w2 w.heap.size a2 n2 c2 (body (lst s))) := (by rw [HE.out] at hO2; exact hO2); have HB2 : Hid (Below w.heap.size w w2) := (alloc_below w _).trans hB2; clear hn2 hO2 hB2)
      go_ret
      exact ⟨HB2.out, _, _, _, rfl, HO2.out⟩

theorem Rd.two (w : World) (x y : Int) (b c : UInt8) (h : (b.toNat : Int) = x) (h' : (c.toNat : Int) = y) : Rd (w.alloc (.cells #[.int .u8 x, .int .u8 y] 5)) (some ⟨w.heap.size, 0, none⟩) 2 2 [b, c] := by
  have := (Own.made w [b, c] w.heap.size 2 rfl (Nat.le_refl _) (by decide)).rd
  rw [show cells [b, c] = [.int .u8 x, .int .u8 y] by simp [cells, h, h']] at this
  exact this

set_option maxRecDepth 100000 in
set_option maxHeartbeats 1000000 in
theorem refEncode_any (s : ByteArray) (w : World) (hs : s.size ≤ 20000) : Calls Try.prog 66 #[.string s] w fun e w' => Makes w (enc (lst s)) e w' := by
  have HB := fun w => refBody_any s w hs
  have hl := body_len (lst s)
  rw [len_lst] at hl
  by_cases h : (body (lst s)).length < 128
  · have HE : Hid (body (lst s) ++ [UInt8.ofNat (body (lst s)).length] = enc (lst s)) := by show _ = _; unfold enc back; rw [if_pos h]
    go_enter Try.func66, Try.ntmps66
    go_wp2_with fail
    refine (HB _).mono ?_
    rintro e w1 ⟨hb, a, m, c, rfl, hO⟩
    have hm := hO.len
    rw [hm] at HE h
    have HO : Hid (Own w1 w.heap.size a m c (body (lst s))) := hO
    have H1 : Hid (Below w.heap.size w w1) := hb
    obtain ⟨M, hM⟩ : ∃ M : Int, (m : Int) = M := ⟨_, rfl⟩
    have HX : Hid (((UInt8.ofNat m).toNat : Int) = m) := by show _ = _; rw [nat_ofNat (by omega)]
    have HM : Hid (m + 1 ≤ 140737488355328) := by show _ ≤ _; omega
    have hmz : (m : Int) < 128 := by omega
    clear hO hb hm hl hM
    go_wp2_with (at_builtin; refine append_row rfl (.tmp 11) (.tmp 14) rfl w.heap.size rfl (HO.out.keep (alloc_below w1 _)) rfl (Rd.one w1 _ _ HX.out) HM.out (Nat.le_trans H1.out.size (alloc_below w1 _).size) ?_; intro a2 n2 c2 w2 hn2 hO2 hB2; have HO2 : Hid (Own w2 w.heap.size a2 n2 c2 (enc (lst s))) := (by rw [HE.out] at hO2; exact hO2); have HB2 : Hid (Below w.heap.size w w2) := (H1.out.trans ((alloc_below w1 _).mono H1.out.size)).trans hB2; clear hn2 hO2 hB2)
    go_ret
    exact ⟨HB2.out, _, _, _, rfl, HO2.out⟩
  · have HE : Hid (body (lst s) ++ [UInt8.ofNat ((body (lst s)).length / 128), UInt8.ofNat (128 + (body (lst s)).length % 128)] = enc (lst s)) := by show _ = _; unfold enc back; rw [if_neg h]
    go_enter Try.func66, Try.ntmps66
    go_wp2_with fail
    refine (HB _).mono ?_
    rintro e w1 ⟨hb, a, m, c, rfl, hO⟩
    have hm := hO.len
    rw [hm] at HE h
    have HO : Hid (Own w1 w.heap.size a m c (body (lst s))) := hO
    have H1 : Hid (Below w.heap.size w w1) := hb
    obtain ⟨M, hM⟩ : ∃ M : Int, (m : Int) = M := ⟨_, rfl⟩
    have HX : Hid (((UInt8.ofNat (m / 128)).toNat : Int) = M / 128) := by show _ = _; rw [nat_ofNat (by omega)]; omega
    have HY : Hid (((UInt8.ofNat (128 + m % 128)).toNat : Int) = 128 + M % 128) := by show _ = _; rw [nat_ofNat (by omega)]; omega
    have HM : Hid (m + 2 ≤ 140737488355328) := by show _ ≤ _; omega
    have hmz : 128 ≤ M := by omega
    have hmz2 : M < 32768 := by omega
    clear hO hb hm hl h
    go_wp2_with (at_builtin; refine append_row rfl (.tmp 16) (.tmp 24) rfl w.heap.size rfl (HO.out.keep (alloc_below w1 _)) rfl (Rd.two w1 _ _ _ _ HX.out HY.out) HM.out (Nat.le_trans H1.out.size (alloc_below w1 _).size) ?_; intro a2 n2 c2 w2 hn2 hO2 hB2; have HO2 : Hid (Own w2 w.heap.size a2 n2 c2 (enc (lst s))) := (by rw [HE.out] at hO2; exact hO2); have HB2 : Hid (Below w.heap.size w w2) := (H1.out.trans ((alloc_below w1 _).mono H1.out.size)).trans hB2; clear hn2 hO2 hB2)
    go_ret
    exact ⟨HB2.out, _, _, _, rfl, HO2.out⟩
end Go.Proofs.Ytemiajjjhhofaab
