/-
  Requests, read: bulks; either form.
-/
import Derived.Test.YtkoepgjdjbmknaaUt
namespace Go.Proofs.Ytkoepgjdjbmknaa
open Go.RowKit Go.PlainAid

theorem Rdr.low_stay {w wn : World} {p : Nat} {a : Option Addr} {n c : Nat} {l : List UInt8} {b : Bool} {B : Nat} (h : Rdr w p a n c l b) (hb : Below B w wn) (hp : p < B) : Hid (Rdr wn p a n c l b) := h.below hb hp
theorem stay_below {w w1 w2 : World} {p B : Nat} (h : Hid (Stay w w1 [p])) (hb : Below B w1 w2) (hB : w.heap.size ≤ B) : Hid (Stay w w2 [p]) :=
  ⟨hb.os.trans h.out.os, hb.tape.trans h.out.tape, hb.output.trans h.out.output, Nat.le_trans h.out.size hb.size, fun k hk hn => (hb.block k (Nat.lt_of_lt_of_le hk hB)).trans (h.out.block k hk hn)⟩

set_option maxHeartbeats 2000000 in
set_option maxRecDepth 100000 in
theorem bulks_yes (p : Nat) (a : Option Addr) (n c : Nat) (l : List UInt8) (w : World) (hg : GL w) (h : Rdr w p a n c l false) (k : Int) (r : List UInt8) (hk : k ≤ 256) (hn : numR 42 (-1) 256 l = .yes k r) :
    Calls Try.prog 39 #[.pointer (some ⟨p, 0, none⟩)] w fun e w' => Hid (Stay w w' [p]) ∧ ReqR w w' p (manyR k.toNat [] r) e := by
  have HN := number_any 42 42 (-1) 256 rfl p a n c l w hg h
  rw [hn] at HN
  obtain ⟨R, hR⟩ : ∃ R, manyR k.toNat [] r = R := ⟨_, rfl⟩
  rw [hR]
  have HR : Hid (manyR k.toNat [] r = R) := hR
  have HP : Hid (p < w.heap.size) := h.lt
  have HH : Hid (Rdr w p a n c l false) := h
  have HG : Hid (GL w) := hg
  obtain ⟨K, hK⟩ : ∃ K, k.toNat = K := ⟨_, rfl⟩
  have HK : Hid (k.toNat = K) := hK
  have HK2 : Hid (k ≤ 256) := hk
  rw [hK] at HR
  clear h hg hn hR hK hk
  go_enter Try.func39, Try.ntmps39
  go_wp2_with (go_at_call 49; refine HN.mono ?_; rintro e w2 ⟨HS2, a2, n2, c2, rfl, hR2⟩; have HR2 : Hid (Rdr w2 p a2 n2 c2 r false) := hR2; clear hR2)
  have HO : Hid (OwnS w2 w.heap.size none 0 0 []) := World.ownsRow_nil w2 _ 9 1
  go_loopg [6, 17] K (fun g wv iv wr => ∃ (i : Nat) (a4 : Option Addr) (n4 c4 : Nat) (acc : List (List UInt8)) (a5 : Option Addr) (n5 c5 : Nat) (rest : List UInt8), i + g = K ∧ wv = .slice a4 n4 c4 ∧ iv = .int .i64 i ∧ Hid (OwnS wr w.heap.size a4 n4 c4 (acc.map bs)) ∧ Hid (acc.length = i) ∧ Hid (Rdr wr p a5 n5 c5 rest false) ∧ Hid (Stay w wr [p]) ∧ Hid (manyR g acc rest = R))
  case atStart => exact ⟨0, none, 0, 0, [], _, _, _, _, by omega, rfl, rfl, HO, rfl, HR2, HS2, HR⟩
  case round =>
    obtain ⟨i, a4, n4, c4, acc, a5, n5, c5, rest, hi, rfl, rfl, HO4, HA4, HR5, HS5, H⟩ := hrel
    have HI : Hid (i + gk = K) := hi
    clear HO HR2 HS2 hi
    by_cases hlt : (i : Int) < k
    · obtain ⟨f, rfl⟩ : ∃ f, gk = f + 1 := ⟨gk - 1, by have h1 := HI.out; have h2 := HK.out; omega⟩
      have hi256 : i < 256 := by have := HK2.out; omega
      have HI256 : Hid (i < 256) := hi256
      have HBK := bulk_any p a5 n5 c5 rest wr (HG.out.stay HH.out HS5.out) HR5.out
      cases hb : bulkR rest using Rs.elim with
      | part =>
        have HE : Hid (R = .part) := by show _ = _; rw [← H.out, manyR, hb]
        rw [hb] at HBK
        clear hb
        go_wp2_with (go_at_call 50; refine HBK.mono ?_; rintro e w6 ⟨HS6, a6, n6, c6, r6, rfl, hR6⟩; have HR6 : Hid (Rdr w6 p a6 n6 c6 r6 false) := hR6; clear hR6)
        go_ret2
        refine ⟨stay_step HS5 HS6, ?_⟩
        rw [HE.out]
        exact ⟨_, _, _, _, rfl, HR6.out⟩
      | wrong =>
        have HE : Hid (R = .wrong) := by show _ = _; rw [← H.out, manyR, hb]
        rw [hb] at HBK
        clear hb
        go_wp2_with (go_at_call 50; refine HBK.mono ?_; rintro e w6 ⟨HS6, a6, n6, c6, r6, rfl, hR6⟩; have HR6 : Hid (Rdr w6 p a6 n6 c6 r6 true) := hR6; clear hR6)
        go_ret2
        refine ⟨stay_step HS5 HS6, ?_⟩
        rw [HE.out]
        exact ⟨_, _, _, _, rfl, HR6.out⟩
      | yes x r6 =>
        have HE : Hid (manyR f (acc ++ [x]) r6 = R) := by show _ = _; rw [← H.out, manyR, hb]
        rw [hb] at HBK
        clear hb
        have HM : Hid (n4 + 1 ≤ 1000000) := by have h1 := HO4.out.len; have h2 := HA4.out; rw [List.length_map] at h1; have h3 := HI256.out; show _ ≤ _; omega
        go_wp2_with (first
          | (go_at_call 50; refine HBK.mono ?_; rintro e w6 ⟨HS6, a6, n6, c6, rfl, hR6⟩; have HO6 : Hid (OwnS w6 w.heap.size a4 n4 c4 (acc.map bs)) := HO4.out.stay HS6.out HP.out; have HR6 : Hid (Rdr w6 p a6 n6 c6 r6 false) := hR6; have HS7 : Hid (Stay w w6 [p]) := stay_step HS5 HS6; clear hR6)
          | (at_builtin; refine append_str rfl (.tmp 26) (.tmp 28) rfl w.heap.size rfl (HO6.out.keep (alloc_below w6 _)) rfl (by simp; rfl) HM.out (Nat.le_trans HS7.out.size (alloc_below w6 _).size) ?_; intro a8 n8 c8 w8 hn8 hO8 hB8; have HO8 : Hid (OwnS w8 w.heap.size a8 n8 c8 ((acc ++ [x]).map bs)) := (by rw [List.map_append]; exact hO8); have HB8 : Hid (Below w.heap.size w6 w8) := ((alloc_below w6 _).mono HS7.out.size).trans hB8; clear hn8 hO8 hB8))
        have HR8 := HR6.out.low_stay HB8.out HP.out
        have HS8 := stay_below HS7 HB8.out (Nat.le_refl _)
        go_roundg f
        case measure => omega
        case rel => exact ⟨i + 1, _, _, _, acc ++ [x], _, _, _, _, by have := HI.out; omega, rfl, by go_num, HO8, by show _ = _; rw [List.length_append, HA4.out]; rfl, HR8, HS8, HE⟩
    · have hg0 : gk = 0 := by have h1 := HI.out; have h2 := HK.out; omega
      subst hg0
      have HE : Hid (R = .yes acc rest) := by show _ = _; rw [← H.out, manyR]
      go_wp2
      go_ret2
      refine ⟨HS5, ?_⟩
      rw [HE.out]
      exact ⟨_, _, _, _, _, _, rfl, HO4.out, HR5.out⟩

theorem bulks_any (p : Nat) (a : Option Addr) (n c : Nat) (l : List UInt8) (w : World) (hg : GL w) (h : Rdr w p a n c l false) :
    Calls Try.prog 39 #[.pointer (some ⟨p, 0, none⟩)] w fun e w' => Hid (Stay w w' [p]) ∧ ReqR w w' p (bulksR l) e := by
  unfold bulksR
  cases hn : numR 42 (-1) 256 l using Rs.elim with
  | part => exact bulks_part p a n c l w hg h hn
  | wrong => exact bulks_wrong p a n c l w hg h hn
  | yes k r => exact bulks_yes p a n c l w hg h k r (numR_range hn).2 hn
end Go.Proofs.Ytkoepgjdjbmknaa
