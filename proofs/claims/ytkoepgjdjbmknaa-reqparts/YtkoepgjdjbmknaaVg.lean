/-
  The document's own All.
-/
import Derived.Test.YtkoepgjdjbmknaaVf
import Derived.Test.YtkoepgjdjbmknaaUz
namespace Go.Proofs.Ytkoepgjdjbmknaa
open Go.RowKit Go.PlainAid

/-- What the document's All leaves. -/
def RefAllR (w w' : World) (m : Nat) (o : List (List (List UInt8)) × List UInt8 × Bool) (e : Ending) : Prop :=
  ∃ a n c T, e = .returned (.tuple #[.slice a n c, .int .i64 ((m : Int) - o.2.1.length), .bool o.2.2]) ∧ OwnSS w' w.heap.size a n c (o.1.map (·.map bs)) T

set_option maxHeartbeats 2000000 in
set_option maxRecDepth 100000 in
theorem refAll_any (s : ByteArray) (w : World) (hn : s.size ≤ 100000) :
    Calls Try.prog 23 #[.string s] w fun e w' => Below w.heap.size w w' ∧ RefAllR w w' s.size (allL (lst s)) e := by
  obtain ⟨l, hls⟩ : ∃ l, lst s = l := ⟨_, rfl⟩
  obtain ⟨n, hns⟩ : ∃ n, s.size = n := ⟨_, rfl⟩
  have hl : l.length = n := by rw [← hls, len_lst, hns]
  have HLS : Hid (lst s = l) := hls
  have HNS : Hid (s.size = n) := hns
  rw [hls, hns]
  rw [hns] at hn
  unfold allL
  rw [hl]
  obtain ⟨R, hR⟩ : ∃ R, allR (n + 1) [] l = R := ⟨_, rfl⟩
  rw [hR]
  have HR : Hid (allR (n + 1) [] (l.drop 0) = R) := hR
  have HL : Hid (l.length = n) := hl
  have HN : Hid (n ≤ 100000) := hn
  have HO : Hid (OwnSS w w.heap.size none 0 0 [] []) := OwnSS.nil w _
  clear hl hR hls hns
  go_enter Try.func23, Try.ntmps23
  go_wp2
  go_loopg [5, 6] (n + 1) (fun g lv iv wr => ∃ (k : Nat) (a2 : Option Addr) (n2 c2 : Nat) (acc : List (List (List UInt8))) (T : List Tr), lv = .slice a2 n2 c2 ∧ iv = .int .i64 k ∧ Hid (k ≤ n) ∧ Hid (n < k + g) ∧ Hid (OwnSS wr w.heap.size a2 n2 c2 (acc.map (·.map bs)) T) ∧ Hid (acc.length ≤ k) ∧ Hid (Below w.heap.size w wr) ∧ Hid (allR g acc (l.drop k) = R))
  case atStart => exact ⟨0, none, 0, 0, [], [], rfl, rfl, Nat.zero_le _, by show _ < _; omega, HO, Nat.zero_le _, Below.refl _ _, HR⟩
  case round =>
    obtain ⟨k, a2, n2, c2, acc, T, rfl, rfl, HK, HF, HO2, HA, HB, H⟩ := hrel
    clear HO
    obtain ⟨f, rfl⟩ : ∃ f, gk = f + 1 := ⟨gk - 1, by have h1 := HK.out; have h2 := HF.out; omega⟩
    have hsz : (s.extract k s.size).size = n - k := by have := HNS.out; simp; omega
    have HNX := refNext_any (s.extract k s.size) wr (by rw [hsz]; omega)
    rw [lst_tail, HLS.out, hsz] at HNX
    have hks : k ≤ s.size := by have h1 := HK.out; have h2 := HNS.out; omega
    have hd3 : (l.drop k).length = n - k := by have := HL.out; rw [List.length_drop]; omega
    cases ho : reqR (l.drop k) using Rs.elim with
    | part =>
      have HE : Hid (R = (acc, l.drop k, false)) := by show _ = _; rw [← H.out, allR_part ho]
      rw [ho] at HNX
      clear ho hd3 hsz
      go_wp2_with (go_at_call 22; refine HNX.mono ?_; rintro e w4 ⟨hB4, hQ4⟩; have hQ5 : e = _ := hQ4; subst hQ5; clear hQ4; have HB4 : Hid (Below w.heap.size w w4) := HB.out.trans (hB4.mono HB.out.size); have HO4 : Hid (OwnSS w4 w.heap.size a2 n2 c2 (acc.map (·.map bs)) T) := HO2.out.keep hB4; clear hB4)
      go_ret3
      refine ⟨HB4.out, ?_⟩
      rw [HE.out]
      refine ⟨a2, n2, c2, T, ?_, HO4.out⟩
      show _ = Ending.returned (.tuple #[.slice a2 n2 c2, .int .i64 ((n : Int) - ((l.drop k).length : Nat)), .bool false])
      rw [List.length_drop, HL.out, show (n : Int) - ((n - k : Nat) : Int) = (k : Int) by have := HK.out; omega]
      rfl
    | wrong =>
      have HE : Hid (R = (acc, l.drop k, true)) := by show _ = _; rw [← H.out, allR_wrong ho]
      rw [ho] at HNX
      clear ho hd3 hsz
      go_wp2_with (go_at_call 22; refine HNX.mono ?_; rintro e w4 ⟨hB4, hQ4⟩; have hQ5 : e = _ := hQ4; subst hQ5; clear hQ4; have HB4 : Hid (Below w.heap.size w w4) := HB.out.trans (hB4.mono HB.out.size); have HO4 : Hid (OwnSS w4 w.heap.size a2 n2 c2 (acc.map (·.map bs)) T) := HO2.out.keep hB4; clear hB4)
      go_ret3
      refine ⟨HB4.out, ?_⟩
      rw [HE.out]
      refine ⟨a2, n2, c2, T, ?_, HO4.out⟩
      show _ = Ending.returned (.tuple #[.slice a2 n2 c2, .int .i64 ((n : Int) - ((l.drop k).length : Nat)), .bool true])
      rw [List.length_drop, HL.out, show (n : Int) - ((n - k : Nat) : Int) = (k : Int) by have := HK.out; omega]
      rfl
    | yes ws r =>
      have hsuf := reqR_suf ho
      have hrl := hsuf.len
      have hrd := hsuf.drop
      rw [hd3] at hrl hrd
      obtain ⟨S, hS⟩ : ∃ S : Nat, S = n - k - r.length := ⟨_, rfl⟩
      have HS : Hid (S = n - k - r.length) := hS
      have HS0 : Hid (0 < S) := by show _ < _; omega
      have HRL : Hid (r.length < n - k) := hrl
      have hSI : ((n - k : Nat) : Int) - (r.length : Int) = (S : Int) := by omega
      have hS0 : ((S : Int) == 0) = false := by simp; omega
      have HRD : Hid (r = l.drop (k + S)) := by
        show _ = _
        rw [← List.drop_drop, hS, hrd]
      have hkS : k + S ≤ 100000 := by omega
      have HNX2 : Calls Try.prog 22 #[.string (s.extract k s.size)] wr fun e w' => Below wr.heap.size wr w' ∧ ∃ a n c, e = .returned (.tuple #[.slice a n c, .int .i64 (S : Int), .int .i64 1]) ∧ OwnS w' wr.heap.size a n c (ws.map bs) := by
        refine HNX.mono fun e w' ⟨h1, h2⟩ => ⟨h1, ?_⟩
        rw [ho] at h2
        obtain ⟨a, n, c, e1, h3⟩ := h2
        exact ⟨a, n, c, by rw [e1, hSI], h3⟩
      clear HNX hsz hd3 hsuf hrl hrd hS hSI
      cases ws with
      | nil =>
        have HE : Hid (allR f acc (l.drop (k + S)) = R) := by show _ = _; rw [← H.out, allR_nil ho, HRD.out]
        clear ho
        go_wp2_with (go_at_call 22; refine HNX2.mono ?_; rintro e w4 ⟨hB4, a5, n5, c5, rfl, hO5⟩; have hn5 : n5 = 0 := (by have := hO5.len; simpa using this.symm); subst hn5; have HB4 : Hid (Below w.heap.size w w4) := HB.out.trans (hB4.mono HB.out.size); have HO4 : Hid (OwnSS w4 w.heap.size a2 n2 c2 (acc.map (·.map bs)) T) := HO2.out.keep hB4; clear hB4 hO5)
        go_roundg f
        case measure => omega
        case rel => exact ⟨k + S, a2, n2, c2, acc, T, rfl, by go_num, by have h1 := HS.out; have h2 := HK.out; show _ ≤ _; omega, by have h1 := HF.out; have h2 := HS0.out; show _ < _; omega, HO4, by have := HA.out; show _ ≤ _; omega, HB4, HE⟩
      | cons x xs =>
        have HE : Hid (allR f (acc ++ [x :: xs]) (l.drop (k + S)) = R) := by show _ = _; rw [← H.out, allR_cons ho, HRD.out]
        clear ho
        have HM : Hid (n2 + 1 ≤ 1000000) := by have h1 := HO2.out.count; rw [List.length_map] at h1; have h2 := HA.out; have h3 := HK.out; show _ ≤ _; omega
        go_wp2_with (first
          | (go_at_call 22; refine HNX2.mono ?_; rintro e w4 ⟨hB4, a5, n5, c5, rfl, hO5⟩; have hn5 : (0 : Int) < n5 := (by have := hO5.len; simp at this; omega); have HB4 : Hid (Below w.heap.size w w4) := HB.out.trans (hB4.mono HB.out.size); have HO4 : Hid (OwnSS w4 w.heap.size a2 n2 c2 (acc.map (·.map bs)) T) := HO2.out.keep hB4; have HO5 : Hid (OwnS w4 w.heap.size a5 n5 c5 ((x :: xs).map bs)) := hO5.low HB.out.size; have HS4 : Hid (w.heap.size ≤ w4.heap.size) := HB4.out.size; clear hB4 hO5)
          | (at_builtin; refine append_ss (t := (a5, n5, c5)) rfl (.tmp 27) (.tmp 29) rfl w.heap.size rfl (HO4.out.keep (alloc_below w4 _)) rfl (by simp; rfl) (HO5.out.keep (alloc_below w4 _)) HM.out (Nat.le_trans HS4.out (alloc_below w4 _).size) ?_; intro a8 n8 c8 w8 hn8 hO8 hB8; have HO8 : Hid (OwnSS w8 w.heap.size a8 n8 c8 ((acc ++ [x :: xs]).map (·.map bs)) (T ++ [(a5, n5, c5)])) := (by rw [List.map_append]; exact hO8); have HB8 : Hid (Below w.heap.size w w8) := (HB4.out.trans ((alloc_below w4 _).mono HS4.out)).trans hB8; clear hn8 hO8 hB8))
        go_roundg f
        case measure => omega
        case rel => exact ⟨k + S, _, _, _, acc ++ [x :: xs], _, rfl, by go_num, by have h1 := HS.out; have h2 := HK.out; show _ ≤ _; omega, by have h1 := HF.out; have h2 := HS0.out; show _ < _; omega, HO8, by have h1 := HA.out; have h2 := HS0.out; show _ ≤ _; rw [List.length_append]; simp; omega, HB8, HE⟩
end Go.Proofs.Ytkoepgjdjbmknaa
