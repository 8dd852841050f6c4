/-
  The law's name and key; the books' Lists.
-/
import Derived.Test.YtejnmikbbnckeaaGr
namespace Go.Proofs.Ytejnmikbbnckeaa
open Go.RowKit Go.PlainAid

/-- The letters of the n-th name, from the i-th on. -/
def letter (n : Nat) : ByteArray := Utf8.encode (97 + ((n % 26 : Nat) : Int))
def nmF : Nat → ByteArray → Nat → ByteArray
  | 0, s, _ => s
  | i + 1, s, n => nmF i (s ++ letter n) (n / 26)
/-- The n-th name. -/
def nm (n : Nat) : ByteArray := nmF 4 ⟨#[107]⟩ n
theorem letter_size (n : Nat) : (letter n).size ≤ 4 := encode_size _
theorem nmF_size : ∀ (i : Nat) (s : ByteArray) (n : Nat), (nmF i s n).size ≤ s.size + 4 * i
  | 0, s, n => by simp [nmF]
  | i + 1, s, n => by
    have h1 := nmF_size i (s ++ letter n) (n / 26)
    have h2 := letter_size n
    rw [ByteArray.size_append] at h1
    show (nmF i (s ++ letter n) (n / 26)).size ≤ _
    omega
theorem nm_size (n : Nat) : (nm n).size ≤ 1000 := by
  have := nmF_size 4 ⟨#[107]⟩ n
  have h : (⟨#[107]⟩ : ByteArray).size = 1 := rfl
  unfold nm
  omega
theorem nm_max (n : Nat) : (nm n).size ≤ maxLen := Nat.le_trans (nm_size n) (by decide)
theorem letter_one : ∀ r, r < 26 → (Utf8.encode (97 + ((r : Nat) : Int))).data = #[UInt8.ofNat (97 + r)] := by decide +kernel
theorem letter_data (n : Nat) : (letter n).data = #[UInt8.ofNat (97 + n % 26)] := letter_one _ (Nat.mod_lt _ (by decide))
theorem nm_data (n : Nat) : (nm n).data = #[107, UInt8.ofNat (97 + n % 26), UInt8.ofNat (97 + n / 26 % 26), UInt8.ofNat (97 + n / 26 / 26 % 26), UInt8.ofNat (97 + n / 26 / 26 / 26 % 26)] := by
  show ((((⟨#[107]⟩ : ByteArray) ++ letter n) ++ letter (n / 26)) ++ letter (n / 26 / 26) ++ letter (n / 26 / 26 / 26)).data = _
  rw [ByteArray.data_append, ByteArray.data_append, ByteArray.data_append, ByteArray.data_append, letter_data, letter_data, letter_data, letter_data]
  rfl
theorem byte_inj {a b : Nat} (ha : a < 26) (hb : b < 26) (h : UInt8.ofNat (97 + a) = UInt8.ofNat (97 + b)) : a = b := by
  have := congrArg UInt8.toNat h
  rw [UInt8.toNat_ofNat', UInt8.toNat_ofNat'] at this
  omega
theorem nm_inj {n m : Nat} (hn : n < 456976) (hm : m < 456976) (h : nm n = nm m) : n = m := by
  have h1 : (nm n).data = (nm m).data := by rw [h]
  rw [nm_data, nm_data] at h1
  simp only [Array.mk.injEq, List.cons.injEq, and_true, true_and] at h1
  obtain ⟨e1, e2, e3, e4⟩ := h1
  have f1 := byte_inj (Nat.mod_lt _ (by decide)) (Nat.mod_lt _ (by decide)) e1
  have f2 := byte_inj (Nat.mod_lt _ (by decide)) (Nat.mod_lt _ (by decide)) e2
  have f3 := byte_inj (Nat.mod_lt _ (by decide)) (Nat.mod_lt _ (by decide)) e3
  have f4 := byte_inj (Nat.mod_lt _ (by decide)) (Nat.mod_lt _ (by decide)) e4
  omega

theorem name_any (n : Nat) (w : World) (hn : n ≤ 1000000) : Calls Try.prog 12 #[.int .i64 n] w fun e w' => e = .returned (.string (nm n)) ∧ w' = w := by
  obtain ⟨R, hR⟩ : ∃ R, nm n = R := ⟨_, rfl⟩
  have HR : Hid (nmF 4 ⟨#[107]⟩ n = R) := hR
  rw [hR]
  clear hR
  go_enter Try.func12, Try.ntmps12
  go_wp2
  go_loopg [0, 3, 4] 4 (fun q nv sv iv wr => w = wr ∧ ∃ (i m : Nat) (s : ByteArray), i + q = 4 ∧ iv = .int .i64 i ∧ nv = .int .i64 m ∧ sv = .string s ∧ m ≤ 1000000 ∧ s.size ≤ 1 + 4 * i ∧ Hid (nmF q s m = R))
  case atStart => exact ⟨rfl, 0, n, ⟨#[107]⟩, by omega, rfl, rfl, rfl, hn, by decide, HR⟩
  case round =>
    clear HR
    obtain ⟨rfl, i, m, s, hi, rfl, rfl, rfl, hm, hs, HR⟩ := hrel
    by_cases h8 : (i : Int) < 4
    · obtain ⟨q, rfl⟩ : ∃ q, gk = q + 1 := ⟨gk - 1, by omega⟩
      have HR1 : Hid (nmF q (s ++ letter m) (m / 26) = R) := HR.out
      have hsz := letter_size m
      have he : Utf8.encode (97 + ((m % 26 : Nat) : Int)) = letter m := rfl
      have hmod : ((m : Int)).tmod 26 = ((m % 26 : Nat) : Int) := by rw [Int.tmod_eq_emod_of_nonneg (by omega)]; omega
      have hdiv : ((m : Int)).tdiv 26 = ((m / 26 : Nat) : Int) := by rw [Int.tdiv_eq_ediv_of_nonneg (by omega)]; omega
      have hm2 : m / 26 ≤ 1000000 := by omega
      have hr : m % 26 < 26 := Nat.mod_lt _ (by decide)
      generalize m % 26 = r at hmod he hr
      generalize m / 26 = m2 at hdiv HR1 hm2
      generalize letter m = lt at hsz he HR1
      have hss : (s ++ lt).size ≤ 1 + 4 * (i + 1) := by rw [ByteArray.size_append]; omega
      clear HR
      go_wp2
      go_roundg q
      case measure => omega
      case rel => exact ⟨rfl, i + 1, m2, s ++ lt, by omega, by go_num, rfl, rfl, hm2, hss, HR1⟩
    · obtain rfl : gk = 0 := by omega
      have HE : Hid (s = R) := HR.out
      clear HR
      go_wp2
      go_ret
      exact ⟨by rw [HE.out]; rfl, rfl⟩

theorem key_law (kind N V : Int) (S : ByteArray) (w : World) :
    Calls Try.prog 28 #[.agg #[.int .i64 kind, .int .i64 N, .int .i64 V, .string S]] w fun e w' => Below w.heap.size w w' ∧ ∃ k : ByteArray, e = .returned (.string k) ∧ k.size ≤ 1000 := by
  have HB : Hid (∀ o, Below w.heap.size w (w.alloc o)) := fun o => alloc_below w o
  by_cases h3 : N.tmod 4 = 0
  · have HC := fun w => Cut_any S 20 w (by decide)
    have HS : Hid ((cutB S 20).size ≤ 20) := by have := size_cutB S 20 (by decide); show _ ≤ _; omega
    generalize cutB S 20 = k at HC HS
    go_enter Try.func28, Try.ntmps28
    go_wp2_with fail
    refine (HC _).mono ?_
    rintro e w2 ⟨rfl, rfl⟩
    go_wp2
    go_ret
    exact ⟨HB.out _, k, rfl, by have := HS.out; omega⟩
  · have hz : (N.tmod 4 == 0) = false := by simpa using h3
    have HW := fun w => Within_any N 0 1048576 w (by decide) (by decide) (by decide)
    go_enter Try.func28, Try.ntmps28
    go_wp2_with fail
    refine (HW _).mono ?_
    rintro e w2 ⟨rfl, n, hn0, hn1, rfl⟩
    have hm0 : 0 ≤ n.tmod 2000 ∧ n.tmod 2000 < 2000 := ⟨Int.tmod_nonneg _ hn0, Int.tmod_lt_of_pos _ (by decide)⟩
    obtain ⟨m, hm⟩ : ∃ m : Nat, n.tmod 2000 = (m : Int) := ⟨(n.tmod 2000).toNat, by omega⟩
    have hNm := fun w => name_any m w (by omega)
    have HS : Hid ((nm m).size ≤ 1000) := nm_size m
    generalize nm m = k at hNm HS
    clear HW hm0
    go_wp2_with fail
    refine (hNm _).mono ?_
    rintro e w2 ⟨rfl, rfl⟩
    go_wp2
    go_ret
    exact ⟨HB.out _, k, rfl, HS.out⟩

/-- Lists of one text. -/
theorem Lists_one (a a' : Option Addr) (cap cap' : Nat) (k : ByteArray) (w : World) (hO : OwnS w 0 a 1 cap [k]) (hO' : OwnS w 0 a' 1 cap' [k]) :
    Calls Try.prog 51 #[.slice a 1 cap, .slice a' 1 cap'] w fun e w' => e = .returned (.bool true) ∧ Below w.heap.size w w' := by
  obtain ⟨g, rfl, hc⟩ := OwnS.cell hO (j := 0) (by decide)
  obtain ⟨g', rfl, hc'⟩ := OwnS.cell hO' (j := 0) (by decide)
  replace hc : w.cell? ⟨g, 0, none⟩ = some (.string k) := hc
  replace hc' : w.cell? ⟨g', 0, none⟩ = some (.string k) := hc'
  clear hO hO'
  go_enter Try.func51, Try.ntmps51
  go_wp2
  have HC : Hid (∀ w', Below w.heap.size w w' → w'.cell? ⟨g, 0, none⟩ = some (.string k) ∧ w'.cell? ⟨g', 0, none⟩ = some (.string k)) := fun w' hb => ⟨by rw [hb.cell (p := ⟨g, 0, none⟩) (World.block_lt_of_cell? _ _ hc)]; exact hc, by rw [hb.cell (p := ⟨g', 0, none⟩) (World.block_lt_of_cell? _ _ hc')]; exact hc'⟩
  clear hc hc'
  go_loopg [5] 1 (fun q iv wr => ∃ i : Nat, i + q = 1 ∧ iv = .int .i64 i ∧ Hid (Below w.heap.size w wr))
  case atStart => exact ⟨0, by omega, rfl, Below.refl _ _⟩
  case round =>
    obtain ⟨i, hi, rfl, HB⟩ := hrel
    by_cases h8 : (i : Int) < 1
    · obtain rfl : i = 0 := by omega
      obtain ⟨c1, c2⟩ := HC.out wr HB.out
      go_wp2
      go_quiet (fail)
      have HB1 := step_below HB (below_drewN wr nq)
      generalize wr.drewN nq = w1 at HB1 ⊢
      clear c1 c2
      go_wp2
      go_roundg 0
      case measure => omega
      case rel => exact ⟨1, by omega, rfl, HB1⟩
    · go_wp2
      go_ret
      exact ⟨rfl, HB.out⟩
end Go.Proofs.Ytejnmikbbnckeaa
