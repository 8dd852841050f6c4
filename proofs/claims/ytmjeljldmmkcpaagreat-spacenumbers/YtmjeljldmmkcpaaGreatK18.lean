/- Texts that the others stand on. -/
import Derived.Test.YtmjeljldmmkcpaaGreatK17
import Derived.Test.YtmjeljldmmkcpaaGreatK16
set_option maxRecDepth 100000
set_option maxHeartbeats 1000000
namespace Go.Proofs.YtmjeljldmmkcpaaGreat
open Go.RowKit Go.PlainAid
def Makes (w : World) (l : List UInt8) (e : Ending) (w' : World) : Prop :=
 Below w.heap.size w w' ∧ ∃ a n c, e = .returned (.slice a n c) ∧ Own w' w.heap.size a n c l
theorem encodeBack_any (n : Nat) (w : World) (hn : n < 32768) : Calls Tryz.prog 241 #[.int .i64 n] w fun e w' => Makes w (back n) e w' := by
 by_cases h : n < 128
 ·have hO := Own.made w (back n) w.heap.size 1 (by rw [back_len, if_pos h]) (Nat.le_refl _) (by decide)
  rw [show cells (back n) = [.int .u8 (n : Int)] by unfold back; rw [if_pos h]; simp [cells]; omega] at hO
  have HO : Hid (Own (w.alloc (.cells #[.int .u8 (n : Int)] 5)) w.heap.size (some ⟨w.heap.size, 0, none⟩) 1 1 (back n)) := hO
  clear hO
  obtain ⟨N, hN⟩ : ∃ N : Int, (n : Int) = N := ⟨_, rfl⟩
  have h1 : 0 ≤ N := by omega
  have h2 : N < 128 := by omega
  rw [hN] at HO ⊢
  clear hN h hn
  go_enter Tryz.func241, Tryz.ntmps241
  go_wp2
  go_ret
  exact ⟨(Below.refl _ _).alloc (Nat.le_refl _) _, _, _, _, rfl, HO.out⟩
 ·have hO := Own.made w (back n) w.heap.size 2 (by rw [back_len, if_neg h]) (Nat.le_refl _) (by decide)
  rw [show cells (back n) = [.int .u8 ((n : Int) / 128), .int .u8 (128 + (n : Int) % 128)] by unfold back; rw [if_neg h]; simp [cells]; omega] at hO
  have HO : Hid (Own (w.alloc (.cells #[.int .u8 ((n : Int) / 128), .int .u8 (128 + (n : Int) % 128)] 5)) w.heap.size (some ⟨w.heap.size, 0, none⟩) 2 2 (back n)) := hO
  clear hO
  obtain ⟨N, hN⟩ : ∃ N : Int, (n : Int) = N := ⟨_, rfl⟩
  have h1 : 128 ≤ N := by omega
  have h2 : N < 32768 := by omega
  rw [hN] at HO ⊢
  clear hN h hn
  go_enter Tryz.func241, Tryz.ntmps241
  go_wp2
  go_ret
  exact ⟨(Below.refl _ _).alloc (Nat.le_refl _) _, _, _, _, rfl, HO.out⟩
theorem Rd.one (w : World) (x : Int) (b : UInt8) (h : (b.toNat : Int) = x) : Rd (w.alloc (.cells #[.int .u8 x] 5)) (some ⟨w.heap.size, 0, none⟩) 1 1 [b] := by
 have := (Own.made w [b] w.heap.size 1 rfl (Nat.le_refl _) (by decide)).rd
 rw [show cells [b] = [.int .u8 x] by simp [cells, h]] at this
 exact this
theorem Ac (w : World) (o : Obj) : Below w.heap.size w (w.alloc o) := (Below.refl _ _).alloc (Nat.le_refl _) o
theorem wrap_uns (n : Int) : IntKind.u64.wrap n = (uns n : Int) := by unfold uns; simp [IntKind.wrap, IntKind.signed, IntKind.bits]; omega
theorem isSmall_any (n : Int) (w : World) : Calls Tryz.prog 296 #[.int .i64 n] w fun e w' => e = .returned (.bool (decide (0 ≤ n ∧ n < 128))) ∧ w' = w := by
 by_cases h0 : 0 ≤ n
 ·by_cases h1 : n < 128
  ·have HD : Hid (decide (0 ≤ n ∧ n < 128) = true) := by show _ = _; simp; omega
   rw [HD.out]
   go_enter Tryz.func296, Tryz.ntmps296
   go_wp2
   go_ret
   exact ⟨rfl, rfl⟩
  ·have HD : Hid (decide (0 ≤ n ∧ n < 128) = false) := by show _ = _; simp; omega
   rw [HD.out]
   go_enter Tryz.func296, Tryz.ntmps296
   go_wp2
   go_ret
   exact ⟨rfl, rfl⟩
 ·have HD : Hid (decide (0 ≤ n ∧ n < 128) = false) := by show _ = _; simp; omega
  rw [HD.out]
  go_enter Tryz.func296, Tryz.ntmps296
  go_wp2
  go_ret
  exact ⟨rfl, rfl⟩
theorem encodeNumber_any (n : Int) (w : World) (h1 : -9223372036854775808 ≤ n) (h2 : n < 9223372036854775808) :
  Calls Tryz.prog 293 #[.int .i64 n] w fun e w' => Makes w (if 0 ≤ n ∧ n ≤ 127 then [UInt8.ofNat n.toNat] else 241 :: be 8 (uns n)) e w' := by
 have HS := fun w => isSmall_any n w
 by_cases h : 0 ≤ n ∧ n ≤ 127
 ·rw [if_pos h]
  have hO := Own.made w [UInt8.ofNat n.toNat] w.heap.size 1 rfl (Nat.le_refl _) (by decide)
  rw [show cells [UInt8.ofNat n.toNat] = [.int .u8 n] by simp [cells]; omega] at hO
  have HO : Hid (Own (w.alloc (.cells #[.int .u8 n] 5)) w.heap.size (some ⟨w.heap.size, 0, none⟩) 1 1 [UInt8.ofNat n.toNat]) := hO
  clear hO
  have hq : decide (0 ≤ n ∧ n < 128) = true := by simp; omega
  rw [hq] at HS
  clear hq
  obtain ⟨h3, h4⟩ := h
  go_enter Tryz.func293, Tryz.ntmps293
  go_wp2_with fail
  refine (HS _).mono ?_
  rintro e w ⟨rfl, rfl⟩
  go_wp2
  go_ret
  exact ⟨(Below.refl _ _).alloc (Nat.le_refl _) _, _, _, _, rfl, HO.out⟩
 ·rw [if_neg h]
  have hq : decide (0 ≤ n ∧ n < 128) = false := by simp; omega
  rw [hq] at HS
  clear hq h
  have hO := Own.made w [241] w.heap.size 1 rfl (Nat.le_refl _) (by decide)
  rw [show cells [241] = [.int .u8 241] from rfl] at hO
  obtain ⟨wn, hwn⟩ : ∃ wn, w.alloc (.cells #[.int .u8 241] 5) = wn := ⟨_, rfl⟩
  have HO : Hid (Own wn w.heap.size (some ⟨w.heap.size, 0, none⟩) 1 1 [241]) := by show Own _ _ _ _ _ _; rw [← hwn]; exact hO
  have HB : Hid (Below w.heap.size w wn) := by show Below _ _ _; rw [← hwn]; exact (Below.refl _ _).alloc (Nat.le_refl _) _
  clear hO
  go_enter Tryz.func293, Tryz.ntmps293
  go_wp2_with fail
  refine (HS _).mono ?_
  rintro e w ⟨rfl, rfl⟩
  go_wp2
  go_loopg [3, 4] 8 (fun g bv sv wr => ∃ (a : Option Addr) (m c : Nat) (l : List UInt8), g ≤ 8 ∧ bv = .slice a m c ∧ sv = .int .i64 (8 * (g : Int) - 8) ∧ Hid (Own wr w.heap.size a m c l) ∧ Hid (l ++ be g (uns n) = 241 :: be 8 (uns n)) ∧ Hid (Below w.heap.size w wr))
  case atStart => exact ⟨_, _, _, [241], by omega, rfl, rfl, HO, rfl, HB⟩
  case round =>
   obtain ⟨a, m, c, l, hg, rfl, rfl, HO, HL, HB⟩ := hrel
   cases gk with
   | zero =>
    have HE : Hid (l = 241 :: be 8 (uns n)) := by
     show _ = _
     have := HL.out
     rwa [be, List.append_nil] at this
    go_wp2
    go_ret
    exact ⟨HB.out, _, _, _, rfl, by rw [← HE.out]; exact HO.out⟩
   | succ k =>
    rw [show 8 * ((k + 1 : Nat) : Int) - 8 = 8 * (k : Int) by omega]
    have hm := HO.out.len
    have hm2 : l.length + (k + 1) = 9 := by
     have := congrArg List.length HL.out
     rw [List.length_append, be_len, List.length_cons, be_len] at this
     omega
    have hm3 : m + 1 ≤ 140737488355328 := by omega
    have HX : ((UInt8.ofNat (uns n / 2 ^ (8 * k))).toNat : Int) = IntKind.u64.wrap n / 2 ^ (8 * k) % 256 := by
     rw [wrap_uns, UInt8.toNat_ofNat']
     have : ((2 : Int) ^ (8 * k)) = ((2 ^ (8 * k) : Nat) : Int) := by rw [Int.natCast_pow]; rfl
     rw [this, ← Int.natCast_ediv]; rfl
    have HL2 : Hid ((l ++ [UInt8.ofNat (uns n / 2 ^ (8 * k))]) ++ be k (uns n) = 241 :: be 8 (uns n)) := by
     show _ = _
     have := HL.out
     rw [be] at this
     rw [← this]; simp
    have hsz := HB.out.size
    have HM : Hid (m + 1 ≤ 140737488355328) := hm3
    clear hm hm2 hm3 HL
    go_wp2_with (at_builtin; refine append_row rfl (.tmp 15) (.tmp 21) rfl w.heap.size rfl (HO.out.keep (Ac wr _)) rfl (Rd.one wr _ _ HX) HM.out (Nat.le_trans hsz (Ac wr _).size) ?_; intro a2 n2 c2 w2 hn2 hO2 hB2; have HO2 : Hid (Own w2 w.heap.size a2 n2 c2 (l ++ [UInt8.ofNat (uns n / 2 ^ (8 * k))])) := hO2; have HB2 : Hid (Below w.heap.size w w2) := (HB.out.trans ((Ac wr _).mono hsz)).trans hB2; clear hn2 hO2 hB2)
    go_roundg k
    case measure => omega
    case rel => exact ⟨_, _, _, _, by omega, rfl, by go_num, HO2, HL2, HB2⟩
theorem encodeBody_any (s : BA) (w : World) (hs : s.size ≤ 4096) : Calls Tryz.prog 268 #[.string s] w fun e w' => Makes w (body (lst s)) e w' := by
 have HP := fun w => Parse_any s w (by unfold maxLen; omega) (B0 (lst s)) rfl
 cases hp : B0 (lst s) with
 | some n =>
  rw [hp] at HP
  obtain ⟨-, h1, h2⟩ := parse_in hp
  have HN := fun w => encodeNumber_any n w h1 h2
  have e1 : (if 0 ≤ n ∧ n ≤ 127 then [UInt8.ofNat n.toNat] else 241 :: be 8 (uns n)) = body (lst s) := by unfold body; rw [hp]
  rw [e1] at HN
  clear e1 hp
  go_enter Tryz.func268, Tryz.ntmps268
  go_wp2_with fail
  refine (HP _).mono ?_
  rintro e w ⟨rfl, rfl⟩
  unfold i64R
  dsimp only [Option.getD_some, Option.isSome_some]
  go_wp2_with fail
  refine (HN _).mono ?_
  rintro e w1 ⟨hb, a, m, c, rfl, hO⟩
  have HO : Hid (Own w1 w.heap.size a m c (body (lst s))) := hO
  clear hO
  go_wp2
  go_ret
  exact ⟨hb, _, _, _, rfl, HO.out⟩
 | none =>
  rw [hp] at HP
  by_cases h : s.size ≤ 63
  ·have hO := Own.made w [UInt8.ofNat (128 + s.size)] w.heap.size 1 rfl (Nat.le_refl _) (by decide)
   have HE : Hid ([UInt8.ofNat (128 + s.size)] ++ lst s = body (lst s)) := by show _ = _; rw [body_short hp h]; rfl
   rw [show cells [UInt8.ofNat (128 + s.size)] = [.int .u8 (128 + (s.size : Int))] by simp [cells]; omega] at hO
   have HO : Hid (Own (w.alloc (.cells #[.int .u8 (128 + (s.size : Int))] 5)) w.heap.size (some ⟨w.heap.size, 0, none⟩) 1 1 [UInt8.ofNat (128 + s.size)]) := hO
   have HM : Hid (1 + s.size ≤ 140737488355328) := by show _ ≤ _; omega
   clear hO hp
   go_enter Tryz.func268, Tryz.ntmps268
   go_wp2_with fail
   refine (HP _).mono ?_
   rintro e w ⟨rfl, rfl⟩
   unfold i64R
   dsimp only [Option.getD_none, Option.isSome_none]
   go_wp2_with (at_builtin; refine append_text rfl (.tmp 30) (.tmp 31) rfl w.heap.size rfl HO.out rfl HM.out (Ac w _).size ?_; intro a2 n2 c2 w2 hn2 hO2 hB2; have HO2 : Hid (Own w2 w.heap.size a2 n2 c2 (body (lst s))) := (by rw [HE.out] at hO2; exact hO2); have HB2 : Hid (Below w.heap.size w w2) := (Ac w _).trans hB2; clear hn2 hO2 hB2)
   go_ret
   exact ⟨HB2.out, _, _, _, rfl, HO2.out⟩
  ·have hO := Own.made w [224, UInt8.ofNat (s.size / 256), UInt8.ofNat s.size] w.heap.size 3 rfl (Nat.le_refl _) (by decide)
   have HE : Hid ([224, UInt8.ofNat (s.size / 256), UInt8.ofNat s.size] ++ lst s = body (lst s)) := by show _ = _; rw [body_long hp h]; rfl
   rw [show cells [224, UInt8.ofNat (s.size / 256), UInt8.ofNat s.size] = [.int .u8 224, .int .u8 ((s.size : Int) / 256), .int .u8 ((s.size : Int) % 256)] by simp [cells]; omega] at hO
   have HO : Hid (Own (w.alloc (.cells #[.int .u8 224, .int .u8 ((s.size : Int) / 256), .int .u8 ((s.size : Int) % 256)] 5)) w.heap.size (some ⟨w.heap.size, 0, none⟩) 3 3 [224, UInt8.ofNat (s.size / 256), UInt8.ofNat s.size]) := hO
   have HM : Hid (3 + s.size ≤ 140737488355328) := by show _ ≤ _; omega
   clear hO hp
   go_enter Tryz.func268, Tryz.ntmps268
   go_wp2_with fail
   refine (HP _).mono ?_
   rintro e w ⟨rfl, rfl⟩
   unfold i64R
   dsimp only [Option.getD_none, Option.isSome_none]
   go_wp2_with (at_builtin; refine append_text rfl (.tmp 30) (.tmp 31) rfl w.heap.size rfl HO.out rfl HM.out (Ac w _).size ?_; intro a2 n2 c2 w2 hn2 hO2 hB2; have HO2 : Hid (Own w2 w.heap.size a2 n2 c2 (body (lst s))) := (by rw [HE.out] at hO2; exact hO2); have HB2 : Hid (Below w.heap.size w w2) := (Ac w _).trans hB2; clear hn2 hO2 hB2)
   go_ret
   exact ⟨HB2.out, _, _, _, rfl, HO2.out⟩
def EncR (w : World) (s : BA) (e : Ending) (w' : World) : Prop :=
 Below w.heap.size w w' ∧ ∃ a n c, e = .returned (.tuple #[.slice a n c, .int .i64 0]) ∧ Own w' w.heap.size a n c (enc (lst s))
theorem Encode_any (s : BA) (w : World) (hs : s.size ≤ 4096) : Calls Tryz.prog 237 #[.string s] w fun e w' => EncR w s e w' := by
 have HB := fun w => encodeBody_any s w hs
 have hl := body_len (lst s)
 rw [len_lst] at hl
 have HC := fun w => encodeBack_any (body (lst s)).length w (by omega)
 go_enter Tryz.func237, Tryz.ntmps237
 go_wp2_with fail
 refine (HB _).mono ?_
 rintro e w1 ⟨hb, a, m, c, rfl, hO⟩
 have HO : Hid (Own w1 w.heap.size a m c (body (lst s))) := hO
 have H1 : Hid (Below w.heap.size w w1) := hb
 have hm := hO.len
 rw [hm] at HC hl
 clear hO hb
 have hm2 : m ≤ 5000 := by omega
 clear hl
 go_wp2_with fail
 refine (HC _).mono ?_
 rintro e w2 ⟨hb, a2, m2, c2, rfl, hO⟩
 have H2 := Ad H1 hb
 have hm3 : m2 ≤ 2 := by
  have := hO.len
  rw [back_len] at this
  split at this <;> omega
 have HO1 : Hid (Own w2 w.heap.size a m c (body (lst s))) := HO.out.keep hb
 have HR : Hid (Rd w2 a2 m2 c2 (back m)) := hO.rd
 have HM : Hid (m + m2 ≤ 140737488355328) := by show _ ≤ _; omega
 have HE : Hid (body (lst s) ++ back m = enc (lst s)) := by show _ = _; unfold enc; rw [hm]
 clear hO hb hm
 go_wp2_with (at_builtin; refine append_row rfl (.tmp 10) (.tmp 13) rfl w.heap.size rfl HO1.out rfl HR.out HM.out H2.out.size ?_; intro a3 n3 c3 w3 hn3 hO3 hB3; have HO3 : Hid (Own w3 w.heap.size a3 n3 c3 (enc (lst s))) := (by rw [HE.out] at hO3; exact hO3); have HB3 : Hid (Below w.heap.size w w3) := H2.out.trans hB3; clear hn3 hO3 hB3)
 go_ret2
 exact ⟨HB3.out, _, _, _, rfl, HO3.out⟩
end Go.Proofs.YtmjeljldmmkcpaaGreat
