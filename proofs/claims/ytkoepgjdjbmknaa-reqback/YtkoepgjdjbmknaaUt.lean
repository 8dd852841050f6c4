/-
  Requests, read: as a line of words, as bulks.
-/
import Derived.Test.YtkoepgjdjbmknaaUu
import Derived.Test.YtkoepgjdjbmknaaRw
namespace Go.Proofs.Ytkoepgjdjbmknaa
open Go.RowKit Go.PlainAid

/-- What request leaves. -/
def ReqR (w w' : World) (p : Nat) (o : Rs (List (List UInt8))) (e : Ending) : Prop :=
  match o with
  | some (some (ws, r)) => ∃ a n c a2 n2 c2, e = .returned (.tuple #[.slice a n c, .bool true]) ∧ OwnS w' w.heap.size a n c (ws.map bs) ∧ Rdr w' p a2 n2 c2 r false
  | none => ∃ a2 n2 c2 r, e = .returned (.tuple #[.slice none 0 0, .bool false]) ∧ Rdr w' p a2 n2 c2 r false
  | some none => ∃ a2 n2 c2 r, e = .returned (.tuple #[.slice none 0 0, .bool false]) ∧ Rdr w' p a2 n2 c2 r true

theorem OwnS.low {w : World} {B C : Nat} {a : Option Addr} {n cap : Nat} {ls : List ByteArray} (h : OwnS w B a n cap ls) (hC : C ≤ B) : OwnS w C a n cap ls := OwnR.low (e := 9) (s := 1) h hC
theorem OwnS.stay {w w' : World} {B p : Nat} {a : Option Addr} {n cap : Nat} {ls : List ByteArray} (h : OwnS w B a n cap ls) (hs : Stay w w' [p]) (hp : p < B) : OwnS w' B a n cap ls :=
  OwnR.kept (e := 9) (s := 1) h fun k hk => by
    have := OwnR.lt (e := 9) (s := 1) h hk
    exact hs.block k this.2.1 (by simp; omega)

theorem inline_part (p : Nat) (a : Option Addr) (n c : Nat) (l : List UInt8) (w : World) (hg : GL w) (h : Rdr w p a n c l false) (hu : upR (lf l) 1 4096 l = .part) :
    Calls Try.prog 38 #[.pointer (some ⟨p, 0, none⟩)] w fun e w' => Hid (Stay w w' [p]) ∧ ReqR w w' p .part e := by
  have HU := upTo_lf p a n c l w hg h
  rw [hu] at HU
  clear h hg hu
  go_enter Try.func38, Try.ntmps38
  go_wp2_with (go_at_call 46; refine HU.mono ?_; rintro e w2 ⟨HS2, a2, n2, c2, r2, rfl, hR2⟩; have HR2 : Hid (Rdr w2 p a2 n2 c2 r2 false) := hR2; clear hR2)
  go_ret2
  exact ⟨HS2, _, _, _, _, rfl, HR2.out⟩
theorem inline_wrong (p : Nat) (a : Option Addr) (n c : Nat) (l : List UInt8) (w : World) (hg : GL w) (h : Rdr w p a n c l false) (hu : upR (lf l) 1 4096 l = .wrong) :
    Calls Try.prog 38 #[.pointer (some ⟨p, 0, none⟩)] w fun e w' => Hid (Stay w w' [p]) ∧ ReqR w w' p .wrong e := by
  have HU := upTo_lf p a n c l w hg h
  rw [hu] at HU
  clear h hg hu
  go_enter Try.func38, Try.ntmps38
  go_wp2_with (go_at_call 46; refine HU.mono ?_; rintro e w2 ⟨HS2, a2, n2, c2, r2, rfl, hR2⟩; have HR2 : Hid (Rdr w2 p a2 n2 c2 r2 true) := hR2; clear hR2)
  go_ret2
  exact ⟨HS2, _, _, _, _, rfl, HR2.out⟩
set_option maxRecDepth 100000 in
theorem inline_none (p : Nat) (a : Option Addr) (n c : Nat) (l : List UInt8) (w : World) (hg : GL w) (h : Rdr w p a n c l false) (x r : List UInt8) (hu : upR (lf l) 1 4096 l = .yes x r) (hx : x.length ≤ 4096) (hw : wordsL (cut13 x) = none) :
    Calls Try.prog 38 #[.pointer (some ⟨p, 0, none⟩)] w fun e w' => Hid (Stay w w' [p]) ∧ ReqR w w' p .wrong e := by
  have HU := upTo_lf p a n c l w hg h
  rw [hu] at HU
  have HX : Hid (x.length ≤ 4096) := hx
  have hcl := cut13_len x
  have HWD := fun w => Words_any (bs (cut13 x)) w (by rw [size_bs]; omega)
  rw [lst_bs, hw] at HWD
  have kc := fun (w : World) (C : Array Value) (n c : Nat) => Lib.run_convert_bytes_const (P := Try.prog) w 24 5 C n c Try.underlying24 Try.underlying5
  clear h hg hu hx hcl hw
  go_enter Try.func38, Try.ntmps38
  go_wp2_with (first
    | (go_at_call 46; refine HU.mono ?_; rintro e w2 ⟨HS2, a2, n2, c2, a3, n3, c3, rfl, hL2, hR2⟩; have HTS := TrimSuffix_13 a2 (some ⟨w2.heap.size, 0, none⟩) n2 c2 1 x (w2.alloc (.cells #[.int .u8 13] 5 (1, 2))) (hL2.keep (alloc_below _ _)) (Rd.mark w2 13 13 1 rfl (by omega) (by decide)) (by have h1 := hL2.len; have h2 := HX.out; omega); have HR2 : Hid (Rdr w2 p a3 n3 c3 r false) := hR2; clear hL2 hR2)
    | (go_at_call 47; refine HTS.mono ?_; rintro e w3 ⟨hw3, a5, n5, c5, rfl, hR5⟩; have hw3' := hw3.symm; subst hw3'; have hT5 := hR5.text; clear hR5 HTS)
    | (go_at_call 20; refine (HWD _).mono ?_; rintro e w6 ⟨hB6, hQ6⟩; have hQ7 : e = _ := hQ6; subst hQ7; clear hQ6; have hB7 : Below w2.heap.size w2 w6 := (alloc_below w2 _).trans (hB6.mono (alloc_below w2 _).size); have HRF := refuse_any p a3 n3 c3 r false w6 (HR2.out.keep hB7); have HS6 : Hid (Stay w w6 [p]) := stay_step HS2 (Stay.of_below hB7 _); clear hB6 hB7)
    | (go_at_call 48; refine HRF.mono ?_; rintro e w8 ⟨rfl, HS8, HR8⟩))
  go_ret2
  exact ⟨stay_step HS6 HS8, _, _, _, _, rfl, HR8.out⟩
set_option maxRecDepth 100000 in
theorem inline_yes (p : Nat) (a : Option Addr) (n c : Nat) (l : List UInt8) (w : World) (hg : GL w) (h : Rdr w p a n c l false) (x r : List UInt8) (hu : upR (lf l) 1 4096 l = .yes x r) (hx : x.length ≤ 4096) (ws : List (List UInt8)) (hw : wordsL (cut13 x) = some ws) :
    Calls Try.prog 38 #[.pointer (some ⟨p, 0, none⟩)] w fun e w' => Hid (Stay w w' [p]) ∧ ReqR w w' p (.yes ws r) e := by
  have HU := upTo_lf p a n c l w hg h
  rw [hu] at HU
  have HX : Hid (x.length ≤ 4096) := hx
  have hcl := cut13_len x
  have HWD := fun w => Words_any (bs (cut13 x)) w (by rw [size_bs]; omega)
  rw [lst_bs, hw] at HWD
  have kc := fun (w : World) (C : Array Value) (n c : Nat) => Lib.run_convert_bytes_const (P := Try.prog) w 24 5 C n c Try.underlying24 Try.underlying5
  clear h hg hu hx hcl hw
  go_enter Try.func38, Try.ntmps38
  go_wp2_with (first
    | (go_at_call 46; refine HU.mono ?_; rintro e w2 ⟨HS2, a2, n2, c2, a3, n3, c3, rfl, hL2, hR2⟩; have HTS := TrimSuffix_13 a2 (some ⟨w2.heap.size, 0, none⟩) n2 c2 1 x (w2.alloc (.cells #[.int .u8 13] 5 (1, 2))) (hL2.keep (alloc_below _ _)) (Rd.mark w2 13 13 1 rfl (by omega) (by decide)) (by have h1 := hL2.len; have h2 := HX.out; omega); have HR2 : Hid (Rdr w2 p a3 n3 c3 r false) := hR2; clear hL2 hR2)
    | (go_at_call 47; refine HTS.mono ?_; rintro e w3 ⟨hw3, a5, n5, c5, rfl, hR5⟩; have hw3' := hw3.symm; subst hw3'; have hT5 := hR5.text; clear hR5 HTS)
    | (go_at_call 20; refine (HWD _).mono ?_; rintro e w6 ⟨hB6, a7, n7, c7, rfl, hO7⟩; have hB7 : Below w2.heap.size w2 w6 := (alloc_below w2 _).trans (hB6.mono (alloc_below w2 _).size); have HR6 : Hid (Rdr w6 p a3 n3 c3 r false) := HR2.out.keep hB7; have HO7 : Hid (OwnS w6 w.heap.size a7 n7 c7 (ws.map bs)) := hO7.low (Nat.le_trans HS2.out.size (alloc_below w2 _).size); have HS6 : Hid (Stay w w6 [p]) := stay_step HS2 (Stay.of_below hB7 _); clear hB6 hB7 hO7))
  go_ret2
  exact ⟨HS6, _, _, _, _, _, _, rfl, HO7.out, HR6.out⟩
theorem inline_any (p : Nat) (a : Option Addr) (n c : Nat) (l : List UInt8) (w : World) (hg : GL w) (h : Rdr w p a n c l false) :
    Calls Try.prog 38 #[.pointer (some ⟨p, 0, none⟩)] w fun e w' => Hid (Stay w w' [p]) ∧ ReqR w w' p (inlR l) e := by
  unfold inlR
  cases hu : upR (lf l) 1 4096 l using Rs.elim with
  | part => exact inline_part p a n c l w hg h hu
  | wrong => exact inline_wrong p a n c l w hg h hu
  | yes x r =>
    have hx := upR_len hu
    cases hw : wordsL (cut13 x) with
    | none => simp only [hw]; exact inline_none p a n c l w hg h x r hu hx hw
    | some ws => simp only [hw]; exact inline_yes p a n c l w hg h x r hu hx ws hw

theorem bulks_part (p : Nat) (a : Option Addr) (n c : Nat) (l : List UInt8) (w : World) (hg : GL w) (h : Rdr w p a n c l false) (hn : numR 42 (-1) 256 l = .part) :
    Calls Try.prog 39 #[.pointer (some ⟨p, 0, none⟩)] w fun e w' => Hid (Stay w w' [p]) ∧ ReqR w w' p .part e := by
  have HN := number_any 42 42 (-1) 256 rfl p a n c l w hg h
  rw [hn] at HN
  clear h hg hn
  go_enter Try.func39, Try.ntmps39
  go_wp2_with (go_at_call 49; refine HN.mono ?_; rintro e w2 ⟨HS2, a2, n2, c2, r2, rfl, hR2⟩; have HR2 : Hid (Rdr w2 p a2 n2 c2 r2 false) := hR2; clear hR2)
  go_ret2
  exact ⟨HS2, _, _, _, _, rfl, HR2.out⟩
theorem bulks_wrong (p : Nat) (a : Option Addr) (n c : Nat) (l : List UInt8) (w : World) (hg : GL w) (h : Rdr w p a n c l false) (hn : numR 42 (-1) 256 l = .wrong) :
    Calls Try.prog 39 #[.pointer (some ⟨p, 0, none⟩)] w fun e w' => Hid (Stay w w' [p]) ∧ ReqR w w' p .wrong e := by
  have HN := number_any 42 42 (-1) 256 rfl p a n c l w hg h
  rw [hn] at HN
  clear h hg hn
  go_enter Try.func39, Try.ntmps39
  go_wp2_with (go_at_call 49; refine HN.mono ?_; rintro e w2 ⟨HS2, a2, n2, c2, r2, rfl, hR2⟩; have HR2 : Hid (Rdr w2 p a2 n2 c2 r2 true) := hR2; clear hR2)
  go_ret2
  exact ⟨HS2, _, _, _, _, rfl, HR2.out⟩
end Go.Proofs.Ytkoepgjdjbmknaa
