/-
  The law: a request that is cut off.
-/
import Derived.Test.YtkoepgjdjbmknaaVj
import Derived.Test.YtkoepgjdjbmknaaRp
import Derived.Test.YtkoepgjdjbmknaaRs
namespace Go.Proofs.Ytkoepgjdjbmknaa
open Go.RowKit Go.PlainAid

def wordB : ByteArray := ⟨#[119, 111, 114, 100]⟩

theorem bs_lsts (ls : List ByteArray) : (ls.map lst).map bs = ls := by
  rw [List.map_map]
  conv => rhs; rw [← List.map_id ls]
  exact List.map_congr_left fun s _ => bs_lst s

set_option maxHeartbeats 4000000 in
set_option maxRecDepth 100000 in
theorem parts_any (a : Option Addr) (n c : Nat) (ls : List ByteArray) (cut : Int) (more : ByteArray) (w : World) (hg : GL w) (h : RdS w a n ls) :
    Calls Try.prog 8 #[.slice a n c, .int .i64 cut, .string more] w fun e w' => e = .returned (.bool true) ∧ Below w.heap.size w w' := by
  have hb0 := alloc_below w (.cells #[.string wordB] 9)
  have HFW := Few_any a n c ls 8 40 (w.alloc (.cells #[.string wordB] 9)) (h.keep hb0) (by omega) (by omega)
  obtain ⟨F, hF⟩ : ∃ F, fewL 8 40 ls = F := ⟨_, rfl⟩
  have hfl := fewL_len 8 40 ls
  have hfs := fewL_size 8 40 ls (by omega)
  rw [hF] at HFW hfl hfs
  have HFL : Hid (F.length ≤ 8) := hfl
  obtain ⟨G, hG⟩ : ∃ G, wordB :: F = G := ⟨_, rfl⟩
  have HGL : Hid (G.length = F.length + 1) := by show _ = _; rw [← hG]; rfl
  have HGS : Hid (∀ s ∈ G, s.size ≤ 100000) := by
    intro s hs
    rw [← hG, List.mem_cons] at hs
    rcases hs with rfl | hs
    · decide
    · have := hfs s hs; omega
  have HGF : Hid (wordB :: F = G) := hG
  have HB0 : Hid (Below w.heap.size w (w.alloc (.cells #[.string wordB] 9))) := hb0
  have HW0 : Hid (OwnS (w.alloc (.cells #[.string wordB] 9)) w.heap.size (some ⟨w.heap.size, 0, none⟩) 1 1 [wordB]) := OwnS.one w wordB _ (Nat.le_refl _)
  have HG : Hid (GL w) := hg
  obtain ⟨X, hX⟩ : ∃ X, makeL (G.map lst) = X := ⟨_, rfl⟩
  have HXE : Hid (makeL (G.map lst) = X) := hX
  have HX0 : Hid (0 < X.length) := by show _ < _; rw [← hX, makeL, lineN]; simp
  have HXL : Hid (X.length ≤ 1000000) := by
    have h1 := lineN_len 42 (G.map lst).length (by rw [List.length_map, HGL.out]; omega)
    have h2 := blks_len (G.map lst) 100000 (by omega) (by
      intro x hx
      rw [List.mem_map] at hx
      obtain ⟨y, hy, rfl⟩ := hx
      rw [len_lst]; exact HGS.out y hy)
    have h3 : (G.map lst).length ≤ 9 := by rw [List.length_map, HGL.out]; omega
    have h4 := Nat.mul_le_mul_right (100000 + 26) h3
    show _ ≤ _
    rw [← hX, makeL, List.length_append]; omega
  have HRC : ∀ k, k < X.length → Hid (reqR (X.take k) = .part) := by
    intro k hk
    rw [← hX] at hk ⊢
    exact reqR_cut (G.map lst) k (by
      intro x hx
      rw [List.mem_map] at hx
      obtain ⟨y, hy, rfl⟩ := hx
      rw [len_lst]
      rw [← hG, List.mem_cons] at hy
      rcases hy with rfl | hy
      · decide
      · have := hfs y hy; omega) (by rw [List.length_map, HGL.out]; omega) hk
  have HRM : ∀ r, Hid (reqR (X ++ r) = .yes (G.map lst) r) := by
    intro r
    rw [← hX]
    exact reqR_make (G.map lst) r (by
      intro x hx
      rw [List.mem_map] at hx
      obtain ⟨y, hy, rfl⟩ := hx
      rw [len_lst]
      rw [← hG, List.mem_cons] at hy
      rcases hy with rfl | hy
      · decide
      · have := hfs y hy; omega) (by rw [List.length_map, HGL.out]; omega)
  obtain ⟨mo, hmo⟩ : ∃ mo, cutB more 30 = mo := ⟨_, rfl⟩
  have HMO : Hid ((mo.size : Int) ≤ 30) := by show _ ≤ _; rw [← hmo]; exact size_cutB more 30 (by omega)
  have HCU := fun w => Cut_any more 30 w (by omega)
  rw [hmo] at HCU
  clear hb0 hF hfl hfs hG hg h hX hmo
  go_enter Try.func8, Try.ntmps8
  go_wp2_with (first
    | (go_at_call 19; refine HFW.mono ?_; rintro e w1 ⟨hB1, a1, n1, c1, rfl, hO1⟩; have HB1 : Hid (Below w.heap.size w w1) := HB0.out.trans (hB1.mono HB0.out.size); have HW1 : Hid (OwnS w1 w.heap.size (some ⟨w.heap.size, 0, none⟩) 1 1 [wordB]) := HW0.out.keep hB1; have HN1 : Hid (1 + n1 ≤ 1000000) := (by have h1 := hO1.len; have h2 := HFL.out; show _ ≤ _; omega); have HO1 : Hid (RdL w1 a1 n1 c1 F) := hO1.rl; clear hB1 hO1)
    | (at_builtin; refine append_strs rfl (.tmp 15) (.tmp 17) rfl w.heap.size rfl HW1.out rfl HO1.out HN1.out HB1.out.size ?_; intro a2 n2 c2 w2 hn2 HO2 HB2'; have HG2 : Hid (OwnS w2 w.heap.size a2 n2 c2 G) := (by rw [← HGF.out]; exact HO2.out); have HB2 : Hid (Below w.heap.size w w2) := HB1.out.trans HB2'.out; have HN2 : Hid (n2 ≤ 9) := (by have h1 := HG2.out.len; have h2 := HGL.out; have h3 := HFL.out; show _ ≤ _; omega); have HMK := Make_any a2 n2 c2 G w2 HG2.out.rd (by have := HN2.out; omega) HGS.out; clear hn2 HO2 HB2')
    | (go_at_call 12; refine HMK.mono ?_; rintro e w3 ⟨hB3, a3, n3, c3, rfl, hO3⟩; have hO3' : Own w3 w2.heap.size a3 n3 c3 X := (by rw [← HXE.out]; exact hO3); have hn3 : n3 = X.length := hO3'.len.symm; have hn3p : (0 : Int) < (n3 : Int) := (by have := HX0.out; omega); have hn3z : ((n3 : Int) == 0) = false := beq_eq_false_iff_ne.2 (by omega); have hn3m : n3 ≤ 1000000 := (by have := HXL.out; omega); have HN3 : Hid (n3 = X.length) := hn3; have HB3 : Hid (Below w.heap.size w w3) := HB2.out.trans (hB3.mono HB2.out.size); have HO3 : Hid (Own w3 w2.heap.size a3 n3 c3 X) := hO3'; have HG3 : Hid (OwnS w3 w.heap.size a2 n2 c2 G) := HG2.out.keep hB3; have HWI := fun w => Within_any cut 0 ((n3 : Int) - 1) w (by omega) (by omega) (by omega); clear hB3 hO3 hO3' hn3)
    | (go_at_call 15; refine (HWI _).mono ?_; rintro e w4 ⟨hw4, z, hz0, hz1, rfl⟩; have hw4' := hw4.symm; subst hw4'; obtain ⟨k, rfl⟩ : ∃ k : Nat, z = (k : Int) := ⟨z.toNat, by omega⟩; obtain ⟨a4, c4, hs4, hR4⟩ := HO3.out.rd.slice_h k (by omega); have HN4 := Next_any a4 k c4 (X.take k) w3 (HG.out.keep HB3.out) hR4 (by omega); rw [(HRC k (by have := HN3.out; omega)).out] at HN4; clear hz0 hz1 hR4)
    | (go_at_call 21; refine HN7.mono ?_; rintro e w8 ⟨hB8, a8, n8, c8, rfl, hO8⟩; have HB8 : Hid (Below w.heap.size w w8) := HB7.out.trans (hB8.mono HB7.out.size); have HL8 := Lists_same hO8 ((HG7.out).keep hB8); clear hB8 hO8)
    | (go_at_call 21; refine HN4.mono ?_; rintro e w5 ⟨hB5, hQ⟩; have hQ2 : e = _ := hQ; subst hQ2; clear hQ; have HB5 : Hid (Below w.heap.size w w5) := HB3.out.trans (hB5.mono HB3.out.size); have HO5 : Hid (Own w5 w2.heap.size a3 n3 c3 X) := HO3.out.keep hB5; have HG5 : Hid (OwnS w5 w.heap.size a2 n2 c2 G) := HG3.out.keep hB5; have HE5 : Hid (Own (w5.alloc (.cells #[] 5)) w5.heap.size (some ⟨w5.heap.size, 0, none⟩) 0 0 []) := Own.made w5 [] w5.heap.size 0 rfl (Nat.le_refl _) (by decide); clear hB5)
    | (at_builtin; refine append_row rfl (.tmp 38) (.tmp 39) rfl w5.heap.size rfl HE5.out rfl (HO5.out.rd.keep (alloc_below w5 _)) (by omega) (alloc_below w5 _).size ?_; intro a6 n6 c6 w6 hn6 hO6 hB6; have hB6' : Below w5.heap.size w5 w6 := (alloc_below w5 _).trans hB6; have HO6 : Hid (Own w6 w5.heap.size a6 n6 c6 X) := hO6; have HS6 : Hid (w5.heap.size ≤ w6.heap.size) := hB6'.size; have HB6 : Hid (Below w.heap.size w w6) := HB5.out.trans (hB6'.mono HB5.out.size); have HB56 : Hid (Below w5.heap.size w5 w6) := hB6'; have HN6 : Hid (n6 = n3) := (by show _ = _; omega); clear hn6 hO6 hB6 hB6')
    | (go_at_call 16; refine (HCU _).mono ?_; rintro e w9 ⟨rfl, hw9⟩; have hw9' := hw9.symm; subst hw9')
    | (at_builtin; refine append_text (t := mo) rfl (.tmp 40) (.tmp 42) rfl w5.heap.size rfl HO6.out rfl (by have h1 := HN6.out; have h2 := HMO.out; omega) HS6.out ?_; intro a7 n7 c7 w7 hn7 hO7 hB7; have HB7 : Hid (Below w.heap.size w w7) := HB6.out.trans (hB7.mono HB5.out.size); have HG7 : Hid (OwnS w7 w.heap.size a2 n2 c2 ((G.map lst).map bs)) := (by rw [bs_lsts]; exact HG5.out.keep (HB56.out.trans hB7)); have HN7' := Next_any a7 n7 c7 (X ++ lst mo) w7 (HG.out.keep HB7.out) hO7.rd (by have h1 := HN6.out; have h2 := HMO.out; omega); rw [(HRM (lst mo)).out] at HN7'; have hd7 : (n7 : Int) - ((lst mo).length : Nat) = (n3 : Int) := (by have h1 := HN6.out; rw [len_lst]; omega); have HN7 : Calls Try.prog 21 #[.slice a7 n7 c7] w7 fun e w' => Below w7.heap.size w7 w' ∧ ∃ a n c, e = .returned (.tuple #[.slice a n c, .int .i64 n3, .int .i64 0]) ∧ OwnS w' w7.heap.size a n c ((G.map lst).map bs) := (by rw [← hd7]; exact HN7'); clear hn7 hO7 hB7 HN7' hd7)
    | (go_at_call 18; refine HL8.mono ?_; rintro e w9 ⟨rfl, q, hw9⟩; have HB9 : Hid (Below w.heap.size w w9) := (by rw [hw9]; exact HB8.out.trans ((below_drewN _ _).mono HB8.out.size)); clear hw9)
    | (go_at_call 13; refine (known_any _ (HG.out.keep HB9.out)).mono ?_; rintro e w10 ⟨rfl, hB10⟩; have HB10 : Hid (Below w.heap.size w w10) := HB9.out.trans (hB10.mono HB9.out.size); clear hB10))
  go_ret
  exact ⟨rfl, HB10.out⟩
end Go.Proofs.Ytkoepgjdjbmknaa
