/-
  The law's writes: what Encode writes is what the document's own writes; Size.
-/
import Derived.Test.YtdlnodedikiamaaKeep
import Derived.Deep.RegionWith
namespace Go.Proofs.Ytdlnodedikiamaa
open Go.RowKit Go.PlainAid

set_option maxRecDepth 100000 in
set_option maxHeartbeats 4000000 in
theorem writes_any (s : ByteArray) (w : World) (hs : s.size ≤ 4096) : Calls Try.prog 8 #[.string s] w fun e w' => Below w.heap.size w w' ∧ e = .returned (.bool true) := by
  have HE := fun w => Encode_any s w hs
  have HF := fun w => refEncode_any s w (by omega)
  have HZ := fun w => Size_any s w hs
  have H0 : Hid (Below w.heap.size w w) := Below.refl _ _
  obtain ⟨A, hA⟩ : ∃ A, bs (enc (lst s)) = A := ⟨_, rfl⟩
  have HA : Hid (bs (enc (lst s)) = A) := hA
  clear hA
  have hsz : ¬ 4096 < (s.size : Int) := by omega
  go_enter Try.func8, Try.ntmps8
  go_wp2_with fail
  refine (HE _).mono ?_
  rintro e w1 ⟨hb, a1, n1, c1, rfl, hO1⟩
  have HR1 : Hid (Rd w1 a1 n1 c1 (enc (lst s))) := hO1.rd
  have H1 := step_below H0 hb
  have hn1 := hO1.len
  rw [hn1] at HZ
  have hT0 := (hO1.rd.keep (below_drewN w1 1)).text
  rw [HA.out] at hT0
  replace hT0 : (convert 25 9 (.slice a1 n1 c1)).run Try.prog w1.drew = .ok (.string A) w1.drew := hT0
  have HL : Hid (n1 ≤ 5000) := by
    have := (enc_len (lst s)).2
    rw [len_lst, hn1] at this
    show _ ≤ _
    omega
  clear hb hO1 hn1
  go_wp2_with fail
  go_region_with (first | (go_at_call 9; refine (HF _).mono ?_; rintro e w2 ⟨hb, a2, n2, c2, rfl, hO2⟩; have hTa := ((HR1.out.keep (below_drewN w1 1)).keep hb).text; have hTb := hO2.rd.text; rw [HA.out] at hTa hTb; have H2 := step_below H1 ((below_drewN w1 1).trans (hb.mono (Nat.le_refl _))); clear hb hO2) | (go_at_call 21; refine (HZ _).mono ?_; rintro e w3 ⟨hb, rfl⟩; have H3 := step_below H2 hb; clear hb))
  all_goals (go_wp2; go_ret; exact ⟨H3.out, rfl⟩)
end Go.Proofs.Ytdlnodedikiamaa
