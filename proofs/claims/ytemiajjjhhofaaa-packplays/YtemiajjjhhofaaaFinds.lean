/-
  The law PackFinds.
-/
import Derived.Test.YtemiajjjhhofaaaKnown
namespace Go.Proofs.Ytemiajjjhhofaaa
open Go.RowKit Go.PlainAid

theorem fnd_ge (ls : List ByteArray) (s : ByteArray) (step : Nat) : ∀ f i, fnd ls s step f i = -1 ∨ (i : Int) ≤ fnd ls s step f i
  | 0, _ => .inl rfl
  | f + 1, i => by
    rw [fnd]
    split
    · split
      · right; omega
      · rcases fnd_ge ls s step f (i + step) with h | h
        · exact .inl h
        · right; omega
    · exact .inl rfl
theorem fnd_here {ls : List ByteArray} {s : ByteArray} {step f i : Nat} (hs : 0 < step) (hi : i < ls.length) : fnd ls s step (f + 1) i = i ↔ txt ls i = s := by
  rw [fnd, if_pos hi]
  constructor
  · intro h
    split at h
    · assumption
    · rcases fnd_ge ls s step f (i + step) with h2 | h2 <;> omega
  · intro h
    rw [if_pos h]
theorem fnd_next {ls : List ByteArray} {s : ByteArray} {step f i : Nat} (hi : i < ls.length) (h : ¬ txt ls i = s) : fnd ls s step (f + 1) i = fnd ls s step f (i + step) := by
  rw [fnd, if_pos hi, if_neg h]
theorem Short.fit {ls : List ByteArray} {n : Nat} {m : Int} (h : Short ls n m) (hm : m ≤ 4096) : Fit ls := fun s hs => by have := h.2 s hs; omega
theorem Short.pack {ls : List ByteArray} {n : Nat} {m : Int} (h : Short ls n m) (k q : Nat) (hk : m ≤ k) (hq : n * (k + 11) ≤ q) : (Ytemiajjjhhofaaa.pack ls).length ≤ q := by
  have h1 := pack_len ls k (fun s hs => by have := h.2 s hs; omega)
  have h2 : ls.length * (k + 11) ≤ n * (k + 11) := Nat.mul_le_mul_right _ h.1
  omega

/-- p := pack.New(), p.Insert(0, l...): what stands behind it. -/
theorem ins_all (ts : List ByteArray) : ([] : List ByteArray).take 0 ++ (ts ++ [].drop 0) = ts := by simp

set_option maxRecDepth 100000 in
set_option maxHeartbeats 400000 in
theorem finds_any (a : Option Addr) (n c : Nat) (ls : List ByteArray) (s : ByteArray) (fr st : Int) (w : World) (hR : RdS w a n ls) :
    Calls Try.prog 8 #[.slice a n c, .string s, .int .i64 fr, .int .i64 st] w fun e w' => e = .returned (.bool true) ∧ Below w.heap.size w w' := by
  have HF := Few_any a n c ls 25 3 w hR (by omega) (by omega)
  have HC := fun w => Cut_any s 3 w (by omega)
  generalize cutB s 3 = t at HC
  clear hR
  go_enter Try.func8, Try.ntmps8
  go_wp2_with fail
  refine HF.mono ?_
  rintro e w1 ⟨hb, a1, n1, c1, rfl, l1, hO1, hS⟩
  have HB1 : Hid (Below w.heap.size w w1) := hb
  have HO1 : Hid (OwnS w1 w.heap.size a1 n1 c1 l1) := hO1
  have HS : Hid (Short l1 25 3) := hS
  have hn1 : n1 ≤ 25 := by have := hO1.len; have := hS.1; omega
  have HL : Hid (l1.length = n1) := hO1.len
  clear hb hO1 hS HF
  go_wp2_with fail
  refine (HC _).mono ?_
  rintro e w1 ⟨rfl, rfl⟩
  go_wp2_with fail
  refine (New_any _).mono ?_
  rintro e w2 ⟨hb, p, ap, np, cp, rfl, hP⟩
  have HB2 := step_below HB1 hb
  have HO2 : Hid (OwnS w2 w.heap.size a1 n1 c1 l1) := HO1.out.keep hb
  have hP' : Pk w2 w.heap.size p ap np cp [] := hP.low' HB1.out.size
  have hn0 : np = 0 := hP.own.len.symm
  subst hn0
  have HI := Insert_ok w.heap.size p ap 0 cp [] 0 a1 n1 c1 l1 w2 hP' (fun s hs => absurd hs (by simp)) (by omega) (Nat.zero_le _) HO2.out.rd (HS.out.fit (by omega)) (by omega) (by have := HS.out.pack 3 350 (by omega) (by omega); omega)
  rw [ins_all] at HI
  have HPn : Hid (Pk w2 w.heap.size p ap 0 cp []) := hP'
  clear hb hP hP' HO1
  go_wp2_with fail
  refine HI.mono ?_
  rintro e w3 ⟨rfl, hM, a3, n3, c3, hP3, -⟩
  have HB3 : Hid (Below w.heap.size w w3) := HB2.out.trans (hM.below HPn.out)
  have HO3 : Hid (OwnS w3 w.heap.size a1 n1 c1 l1) := HO2.out.moves hM HPn.out
  have HP3 : Hid (Pk w3 w.heap.size p a3 n3 c3 l1) := hP3
  have HN3 : Hid (n3 ≤ 350) := by have := hP3.own.len; have := HS.out.pack 3 350 (by omega) (by omega); show _ ≤ _; omega
  clear hM hP3 HI HPn HO2
  go_wp2_with fail
  refine (Within_any fr 0 25 w3 (by omega) (by omega) (by omega)).mono ?_
  rintro e w3 ⟨rfl, f, hf0, hf1, rfl⟩
  obtain ⟨f, rfl⟩ := Int.eq_ofNat_of_zero_le hf0
  go_wp2_with fail
  refine (Within_any st 1 4 _ (by omega) (by omega) (by omega)).mono ?_
  rintro e w3 ⟨rfl, k, hk0, hk1, rfl⟩
  obtain ⟨k, rfl⟩ := Int.eq_ofNat_of_zero_le (by omega : 0 ≤ k)
  have HFi := Find_any w.heap.size p a3 n3 c3 l1 t f k _ HP3.out (HS.out.fit (by omega)) (by have := HN3.out; omega) (by omega) (by omega) (by omega)
  obtain ⟨R, hRR⟩ : ∃ R, fnd l1 t k l1.length f = R := ⟨_, rfl⟩
  rw [hRR] at HFi
  have HR : Hid (fnd l1 t k n1 f = R) := by show _ = _; rw [← HL.out]; exact hRR
  clear hRR
  go_wp2_with fail
  refine HFi.mono ?_
  rintro e w4 ⟨hb, rfl⟩
  have HB4 := step_below HB3 hb
  have HO4 : Hid (OwnS w4 w.heap.size a1 n1 c1 l1) := HO3.out.keep hb
  clear hb HFi
  go_wp2
  go_loopg [13] n1 (fun g iv wr => ∃ i : Nat, iv = .int .i64 i ∧ i ≤ 200 ∧ n1 ≤ i + g ∧ Hid (fnd l1 t k g i = R) ∧ wr = w4)
  case atStart => exact ⟨f, rfl, by omega, by omega, HR, rfl⟩
  case round =>
    obtain ⟨i, rfl, hi2, hig, HRi, rfl⟩ := hrel
    by_cases hin : (i : Int) < n1
    · have hil : i < l1.length := by have := HL.out; omega
      obtain ⟨gp, hgp⟩ : ∃ gp, gk = gp + 1 := ⟨gk - 1, by omega⟩
      obtain ⟨b, off, ha, hc⟩ := HO4.out.rd.cell i (by omega)
      subst ha
      have hfr := HRi.out
      rw [hgp] at hfr
      have hb2 := str_beq (txt l1 i) t
      have hhere : fnd l1 t k (gp + 1) i = i ↔ txt l1 i = t := fnd_here (by omega) hil
      have hnext := fun h => fnd_next (step := k) (f := gp) (s := t) hil h
      change wr.cell? _ = some (.string (txt l1 i)) at hc
      generalize txt l1 i = x at hc hb2 hhere hnext
      by_cases hx : x = t
      · have hb3 : (x.toList == t.toList) = true := by rw [hb2]; simpa using hx
        have hR2 : (i : Int) = R := by rw [← hfr]; exact (hhere.2 hx).symm
        subst hR2
        clear hb2 hhere hnext hfr hx
        go_wp2_with fail
        refine (known_any _).mono ?_
        rintro e w5 ⟨hb, rfl⟩
        have HB5 := step_below HB4 hb
        clear hb
        go_wp2
        go_ret
        exact ⟨rfl, HB5.out⟩
      · have hb3 : (x.toList == t.toList) = false := by rw [hb2]; simpa using hx
        have hR2 : ¬ (i : Int) = R := by intro e; exact hx (hhere.1 (hfr.trans e.symm))
        have hR3 : ((i : Int) == R) = false := by simpa using hR2
        have HR2 : Hid (fnd l1 t k gp (i + k) = R) := by show _ = _; rw [← hnext hx]; exact hfr
        clear hb2 hhere hnext hfr hx hR2
        go_wp2
        go_roundg gp
        case measure => omega
        case rel => exact ⟨i + k, by go_num, by omega, by omega, HR2, rfl⟩
    · have hR2 : R = -1 := by rw [← HRi.out]; exact fnd_stop _ _ _ _ _ (by have := HL.out; omega)
      subst hR2
      go_wp2_with fail
      refine (known_any _).mono ?_
      rintro e w5 ⟨hb, rfl⟩
      have HB5 := step_below HB4 hb
      clear hb
      go_wp2
      go_ret
      exact ⟨rfl, HB5.out⟩
end Go.Proofs.Ytemiajjjhhofaaa
