/-
  The document's All.
-/
import Derived.Test.YtemiajjjhhofaaaPkF
import Derived.Test.YtemiajjjhhofaaaRefDec
namespace Go.Proofs.Ytemiajjjhhofaaa
open Go.RowKit Go.PlainAid

set_option maxRecDepth 100000 in
set_option maxHeartbeats 4000000 in
theorem refAll_any (a : Option Addr) (n c : Nat) (l : List UInt8) (w : World) (hR : Rd w a n c l) (hn : n ≤ 65536) (o : Option (List ByteArray)) (ho : split n l = o) :
    Calls Try.prog 20 #[.slice a n c] w fun e w' => Below w.heap.size w w' ∧ (∀ ls, o = some ls → ∃ a2 n2 c2, e = .returned (.tuple #[.slice a2 n2 c2, .bool true]) ∧ OwnS w' w.heap.size a2 n2 c2 ls) ∧ (o = none → e = .returned (.tuple #[.slice none 0 0, .bool false])) := by
  have HL : Hid (l.length = n) := hR.len
  have HR : Hid (Rd w a n c l) := hR
  have HS : Hid ((split n (l.drop 0)).map (([] : List ByteArray) ++ ·) = o) := by show _ = _; rw [← ho]; simp
  have HO : Hid (OwnS w w.heap.size none 0 0 []) := World.ownsRow_nil w _ 9 1
  clear hR ho
  go_enter Try.func20, Try.ntmps20
  go_wp2
  go_loopg [4, 5] n (fun g lv av wr => ∃ x : Nat, ∃ a2 n2 c2 pre, lv = .slice a2 n2 c2 ∧ av = .int .i64 x ∧ n ≤ x + g ∧ x ≤ n ∧ 2 * n2 ≤ x ∧ Hid ((split g (l.drop x)).map (pre ++ ·) = o) ∧ Hid (OwnS wr w.heap.size a2 n2 c2 pre) ∧ Hid (Below w.heap.size w wr))
  case atStart => exact ⟨0, none, 0, 0, [], rfl, rfl, by omega, by omega, by omega, HS, HO, Below.refl _ _⟩
  case round =>
    obtain ⟨x, a2, n2, c2, pre, rfl, rfl, hx1, hx2, hn2, HS, HO, HB⟩ := hrel
    by_cases hx : (x : Int) < n
    · have hxl : x < l.length := by have := HL.out; omega
      obtain ⟨gp, hgp⟩ : ∃ gp, gk = gp + 1 := ⟨gk - 1, by omega⟩
      have HC := refDecode_any a n c l x wr (HR.out.keep HB.out) (by omega)
      rw [decAt_in l x hxl] at HC
      have hsp := HS.out
      rw [hgp, split_cons _ _ (drop_ne l x hxl)] at hsp
      cases hd : dec1 (l.drop x) with
      | none =>
        rw [hd, Option.map_none, dR_none] at HC
        rw [hd] at hsp
        have HBf : Hid (o = none) := hsp.symm
        clear hsp hd hxl
        go_wp2_with fail
        refine HC.mono ?_
        rintro e w1 ⟨hb, rfl⟩
        have HB1 := step_below HB hb
        clear hb
        go_wp2
        go_ret2
        exact ⟨HB1.out, fun ls h => absurd (h.symm.trans HBf.out) (by simp), fun _ => rfl⟩
      | some q =>
        obtain ⟨s, k⟩ := q
        rw [hd, Option.map_some, dR_some] at HC
        rw [hd] at hsp
        dsimp only at hsp
        have hkl := (dec1_len hd).1
        have hk2 := (dec1_pos hd).1
        have hk3 := (enc_len s).1
        rw [List.length_drop] at hkl
        obtain ⟨y, hy⟩ : ∃ y, x + k = y := ⟨_, rfl⟩
        rw [hy] at HC
        have HS2 : Hid ((split gp (l.drop y)).map ((pre ++ [bs s]) ++ ·) = o) := by
          show _ = _
          rw [← hsp, ← hy, List.drop_drop, Option.map_map]
          congr 1
          funext t
          simp
        have hyn : y ≤ n := by have := HL.out; omega
        have hyg : n ≤ y + gp := by omega
        have hgpk : gk - 1 = gp := by omega
        have hyk : x + 2 ≤ y := by omega
        have HN : Hid (n2 + 1 ≤ 1000000) := by show _ ≤ _; omega
        generalize bs s = t at HC HS2
        clear hsp hd hxl hy hkl hk2 hk3
        go_wp2_with fail
        refine HC.mono ?_
        rintro e w1 ⟨hb, rfl⟩
        have HB1 := step_below HB hb
        have HO1 : Hid (OwnS w1 w.heap.size a2 n2 c2 pre) := HO.out.keep hb
        have hsz := HB1.out.size
        clear hb
        go_wp2_with (at_builtin; refine append_str rfl (.tmp 22) (.tmp 24) rfl w.heap.size rfl (HO1.out.keep (alloc_below w1 _)) rfl (by simp; rfl) HN.out (Nat.le_trans hsz (alloc_below w1 _).size) ?_; intro a3 n3 c3 w3 hn3 hO3 hB3; have HO3 : Hid (OwnS w3 w.heap.size a3 n3 c3 (pre ++ [t])) := hO3; have HB3 : Hid (Below w.heap.size w w3) := (HB1.out.trans ((alloc_below w1 _).mono hsz)).trans hB3; have HN3 : Hid (n3 = n2 + 1) := hn3; clear hn3 hO3 hB3)
        go_roundg gp
        case measure => omega
        case rel => exact ⟨y, _, _, _, _, rfl, rfl, hyg, hyn, by have := HN3.out; omega, HS2, HO3, HB3⟩
    · have hxe : l.drop x = [] := List.drop_eq_nil_of_le (by have := HL.out; omega)
      have HBt : Hid (o = some pre) := by
        have := HS.out
        rw [hxe, split_nil] at this
        show _ = _
        simpa using this.symm
      clear hxe
      go_wp2
      go_ret2
      exact ⟨HB.out, fun ls h => ⟨_, _, _, rfl, by have := h.symm.trans HBt.out; cases this; exact HO.out⟩, fun h => absurd (h.symm.trans HBt.out) (by simp)⟩

end Go.Proofs.Ytemiajjjhhofaaa
