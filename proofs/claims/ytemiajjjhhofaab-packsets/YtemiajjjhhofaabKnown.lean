/-
  Some of the chapter's runs.
-/
import Derived.Test.YtemiajjjhhofaabPkF
namespace Go.Proofs.Ytemiajjjhhofaab
open Go.RowKit Go.PlainAid

theorem Len_old (B p : Nat) (a : Option Addr) (n c : Nat) (ls : List ByteArray) (w : World) (hP : Pk w B p a n c ls) :
    Calls Try.prog 34 #[ptr p] w fun e w' => Below w.heap.size w w' ∧ e = .returned (.int .i64 (ls.length : Nat)) :=
  (Len_any B p a n c ls w hP).mono fun _ _ h => ⟨h.2 ▸ Below.refl _ _, h.1⟩
def tA : ByteArray := ⟨#[97]⟩
def tB : ByteArray := ⟨#[98]⟩

set_option maxRecDepth 100000 in
set_option maxHeartbeats 400000 in
theorem known_any (w : World) : Calls Try.prog 16 #[] w fun e w' => Below w.heap.size w w' ∧ e = .returned (.bool true) := by
  have HFit : Hid (Fit [tA, tB]) := by
    intro s hs
    rcases List.mem_cons.1 hs with rfl | hs
    · decide
    · rw [List.mem_singleton.1 hs]; decide
  have HFit1 : Hid (Fit [tA]) := by
    intro s hs
    rw [List.mem_singleton.1 hs]; decide
  have HPL : Hid ((pack [tA, tB]).length ≤ 100) := Nat.le_trans (pack_len [tA, tB] 4 (fun s hs => by
    rcases List.mem_cons.1 hs with rfl | hs
    · decide
    · rw [List.mem_singleton.1 hs]; decide)) (by decide)
  have HPL1 : Hid ((pack [tA]).length ≤ 100) := Nat.le_trans (pack_len [tA] 4 (fun s hs => by
    rw [List.mem_singleton.1 hs]; decide)) (by decide)
  have HSp : Hid ((split 1 [5]).isSome = false) := by show _ = _; decide +kernel
  go_enter Try.func16, Try.ntmps16
  go_wp2_with fail
  refine (New_any w).mono ?_
  rintro e w1 ⟨hb, p, a, n, c, rfl, hP⟩
  have HB : Hid (Below w.heap.size w w1) := hb
  have HP : Hid (Pk w1 w.heap.size p a n c []) := hP
  have hn0 : n = 0 := hP.own.len.symm
  subst hn0
  clear hb hP
  go_wp2_with fail
  have hA := alloc_below w1 (.cells #[.string ⟨#[97]⟩, .string ⟨#[98]⟩] 9)
  have hP0 := HP.out.keep hA
  have HI := Insert_ok w.heap.size p a 0 c [] 0 (some ⟨w1.heap.size, 0, none⟩) 2 2 [tA, tB] _ hP0 (fun s hs => absurd hs (by simp)) (by omega) (Nat.zero_le _) (RdS.made w1 [tA, tB] 2 rfl (by decide) #[.string ⟨#[97]⟩, .string ⟨#[98]⟩] rfl) HFit.out (by omega) (by have := HPL.out; omega)
  rw [show ([] : List ByteArray).take 0 ++ ([tA, tB] ++ [].drop 0) = [tA, tB] from rfl] at HI
  refine HI.mono ?_
  rintro e w2 ⟨rfl, hM, a2, n2, c2, hP2, -⟩
  have HB2 : Hid (Below w.heap.size w w2) := (HB.out.trans (hA.mono HB.out.size)).trans (hM.below hP0)
  have HP2 : Hid (Pk w2 w.heap.size p a2 n2 c2 [tA, tB]) := hP2
  clear hM hP2 HI hP0 hA HP
  have HD := Delete_some w.heap.size p a2 n2 c2 [tA, tB] (-1) 1 5 w2 HP2.out HFit.out (by have := HP2.out.own.len; have := HPL.out; omega) (by decide) rfl
  rw [show gone [tA, tB] 1 5 = 1 from rfl, show [tA, tB].take 1 ++ [tA, tB].drop (1 + 1) = [tA] from rfl] at HD
  go_wp2_with fail
  refine HD.mono ?_
  rintro e w3 ⟨rfl, hM, a3, n3, c3, hP3, -⟩
  have HB3 : Hid (Below w.heap.size w w3) := HB2.out.trans (hM.below HP2.out)
  have HP3 : Hid (Pk w3 w.heap.size p a3 n3 c3 [tA]) := hP3
  have hn3 : n3 ≤ 100 := by have := hP3.own.len; have := HPL1.out; omega
  clear hM hP3 HD
  go_wp2_with fail
  have hR5 := (Own.made w3 [5] w3.heap.size 1 rfl (Nat.le_refl _) (by decide)).rd
  rw [show cells [5] = [.int .u8 5] from rfl] at hR5
  refine (From_any _ 1 1 [5] _ hR5 (by omega) false HSp.out).mono ?_
  rintro e w4 ⟨hb, -, he⟩
  cases he rfl
  have HB4 : Hid (Below w.heap.size w w4) := (HB3.out.trans ((alloc_below w3 _).mono HB3.out.size)).trans (hb.mono (Nat.le_trans HB3.out.size (alloc_below w3 _).size))
  have HP4 : Hid (Pk w4 w.heap.size p a3 n3 c3 [tA]) := (HP3.out.keep (alloc_below w3 _)).keep hb
  clear hb he hR5
  go_wp2_with fail
  refine (All_any w.heap.size p a3 n3 c3 [tA] w4 HP4.out HFit1.out (by omega)).mono ?_
  rintro e w5 ⟨hb, a5, n5, c5, rfl, hO5⟩
  have HB5 := step_below HB4 hb
  have hn5 : n5 = 1 := hO5.len.symm
  subst hn5
  have HO5 : Hid (OwnS w5 w4.heap.size a5 1 c5 [tA]) := hO5
  clear hb hO5
  go_wp2_with fail
  refine (Lists_any a5 _ 1 c5 1 [tA] _ (HO5.out.keep (alloc_below w5 _)).rd (RdS.made w5 [tA] 1 rfl (by decide) #[.string ⟨#[97]⟩] rfl)).mono ?_
  rintro e w6 ⟨hb, rfl⟩
  have HB6 : Hid (Below w.heap.size w w6) := (HB5.out.trans ((alloc_below w5 _).mono HB5.out.size)).trans (hb.mono (Nat.le_trans HB5.out.size (alloc_below w5 _).size))
  clear hb
  go_wp2
  go_ret
  exact ⟨HB6.out, rfl⟩
end Go.Proofs.Ytemiajjjhhofaab
