/-
  without: the texts but the first so many that are s (slices.DeleteFunc by a function that counts).
-/
import Derived.Test.YtemiajjjhhofaacQins
namespace Go.Proofs.Ytemiajjjhhofaac
open Go.RowKit Go.PlainAid

/-- What is left of a row when at most m texts that are s are taken away, from the first on; and how many more could be. -/
def rem (s : ByteArray) : Nat → List ByteArray → List ByteArray × Nat
  | m, [] => ([], m)
  | m, x :: r => if x = s ∧ m ≠ 0 then rem s (m - 1) r else (x :: (rem s m r).1, (rem s m r).2)
def kp (s : ByteArray) (m : Nat) (l : List ByteArray) : List ByteArray := (rem s m l).1
def lf (s : ByteArray) (m : Nat) (l : List ByteArray) : Nat := (rem s m l).2
theorem rem_append (s : ByteArray) : ∀ (a b : List ByteArray) (m : Nat), rem s m (a ++ b) = (kp s m a ++ (rem s (lf s m a) b).1, (rem s (lf s m a) b).2)
  | [], b, m => rfl
  | x :: a, b, m => by
    unfold kp lf
    rw [List.cons_append, rem, rem]
    split
    · exact rem_append s a b (m - 1)
    · rw [rem_append s a b m]; rfl
theorem kp_append (s : ByteArray) (m : Nat) (a b : List ByteArray) : kp s m (a ++ b) = kp s m a ++ kp s (lf s m a) b := by unfold kp; rw [rem_append]; rfl
theorem lf_append (s : ByteArray) (m : Nat) (a b : List ByteArray) : lf s m (a ++ b) = lf s (lf s m a) b := by unfold lf; rw [rem_append]; rfl
theorem kp_zero (s : ByteArray) : ∀ l : List ByteArray, kp s 0 l = l ∧ lf s 0 l = 0
  | [] => ⟨rfl, rfl⟩
  | x :: r => by
    have := kp_zero s r
    unfold kp lf at this ⊢
    rw [rem, if_neg (by simp)]
    exact ⟨by rw [this.1], this.2⟩
theorem kp_one (s x : ByteArray) (m : Nat) : kp s m [x] = (if x = s ∧ m ≠ 0 then [] else [x]) ∧ lf s m [x] = (if x = s ∧ m ≠ 0 then m - 1 else m) := by
  unfold kp lf
  rw [rem]
  split <;> exact ⟨rfl, rfl⟩
theorem kp_len (s : ByteArray) : ∀ (l : List ByteArray) (m : Nat), (kp s m l).length ≤ l.length ∧ (kp s m l).length + m = l.length + lf s m l
  | [], m => ⟨Nat.le_refl _, rfl⟩
  | x :: r, m => by
    unfold kp lf
    rw [rem]
    split
    · rename_i h
      have := kp_len s r (m - 1)
      unfold kp lf at this
      rw [List.length_cons]
      omega
    · have := kp_len s r m
      unfold kp lf at this
      simp only [List.length_cons]
      omega
theorem kp_mem (s : ByteArray) : ∀ (l : List ByteArray) (m : Nat), ∀ t ∈ kp s m l, t ∈ l
  | [], _, t, ht => ht
  | x :: r, m, t, ht => by
    unfold kp at ht
    rw [rem] at ht
    split at ht
    · exact List.mem_cons_of_mem _ (kp_mem s r (m - 1) t ht)
    · rcases List.mem_cons.1 ht with rfl | ht
      · simp
      · exact List.mem_cons_of_mem _ (kp_mem s r m t ht)

/-- The cells that the function counts by. -/
structure Cl (w : World) (b1 b2 : Nat) (s : ByteArray) (m : Nat) : Prop where
  txt : w.cell? ⟨b1, 0, none⟩ = some (.string s)
  num : w.cell? ⟨b2, 0, none⟩ = some (.int .i64 (m : Nat))
  frz : w.frozen? ⟨b2, 0, none⟩ = false
  ne : b1 ≠ b2
theorem Cl.set {w : World} {b1 b2 : Nat} {s : ByteArray} {m : Nat} (h : Cl w b1 b2 s m) (k : Nat) : Cl (w.setCell ⟨b2, 0, none⟩ (.int .i64 (k : Nat))) b1 b2 s k :=
  ⟨by rw [cell_ne (fun e => h.ne e.1)]; exact h.txt, cell_eq h.num, by rw [World.frozen?_setCell]; exact h.frz, h.ne⟩
theorem Cl.far {w : World} {b1 b2 g o : Nat} {s : ByteArray} {m : Nat} {v : Value} (h : Cl w b1 b2 s m) (h1 : b1 ≠ g) (h2 : b2 ≠ g) : Cl (w.setCell ⟨g, o, none⟩ v) b1 b2 s m :=
  ⟨by rw [cell_ne (fun e => h1 e.1)]; exact h.txt, by rw [cell_ne (fun e => h2 e.1)]; exact h.num, by rw [World.frozen?_setCell]; exact h.frz, h.ne⟩

set_option maxRecDepth 100000 in
theorem cl_no (b1 b2 m : Nat) (s t : ByteArray) (w : World) (h : Cl w b1 b2 s m) (hn : ¬ (t = s ∧ m ≠ 0)) :
    Calls Try.prog 41 #[.string t, ptr b1, ptr b2] w fun e w' => e = .returned (.bool false) ∧ w' = w := by
  have h1 := h.txt
  have h2 := h.num
  have hb := str_bne t s
  clear h
  by_cases hts : t = s
  · have h0 : m = 0 := by
      rcases Nat.eq_zero_or_pos m with h | h
      · exact h
      · exact absurd ⟨hts, by omega⟩ hn
    subst h0
    have hb3 : (t.toList != s.toList) = false := by rw [hb]; simpa using hts
    have hb4 : t.toList = s.toList := by rw [hts]
    clear hb hn hts
    go_enter Try.func41, Try.ntmps41
    go_wp2
    go_ret
    exact ⟨rfl, rfl⟩
  · have hb3 : (t.toList != s.toList) = true := by rw [hb]; simpa using hts
    have hb4 : ¬ (t.toList = s.toList) := by simpa using hb3
    clear hb hn hts
    go_enter Try.func41, Try.ntmps41
    go_wp2
    go_ret
    exact ⟨rfl, rfl⟩
set_option maxRecDepth 100000 in
theorem cl_yes (b1 b2 k : Nat) (s : ByteArray) (w : World) (h : Cl w b1 b2 s (k + 1)) (hk : k ≤ 1000000) :
    Calls Try.prog 41 #[.string s, ptr b1, ptr b2] w fun e w' => e = .returned (.bool true) ∧ w' = w.setCell ⟨b2, 0, none⟩ (.int .i64 (k : Nat)) := by
  have h1 := h.txt
  have h2 := h.num
  have h3 := h.frz
  have hb3 : (s.toList != s.toList) = false := by simp
  have hk1 : ¬ (((k + 1 : Nat) : Int) = 0) := by omega
  have hk2 : ((k + 1 : Nat) : Int) - 1 = k := by omega
  generalize k + 1 = k1 at *
  clear h
  go_enter Try.func41, Try.ntmps41
  go_wp2
  go_ret
  exact ⟨rfl, rfl⟩

set_option maxRecDepth 100000 in
set_option maxHeartbeats 400000 in
theorem IndexFunc_cl (a : Option Addr) (n c : Nat) (ls : List ByteArray) (b1 b2 m : Nat) (s : ByteArray) (w : World) (hR : RdS w a n ls) (h : Cl w b1 b2 s m) (hm : m ≤ 1000000) :
    Calls Try.prog 23 #[.slice a n c, .func (.func 41) #[] #[ptr b1, ptr b2]] w fun e w' =>
      (e = .returned (.int .i64 (-1)) ∧ w' = w ∧ kp s m ls = ls) ∨
      (∃ i k, e = .returned (.int .i64 ((i : Nat) : Int)) ∧ i < n ∧ m = k + 1 ∧ w' = w.setCell ⟨b2, 0, none⟩ (.int .i64 (k : Nat)) ∧ kp s m (ls.take (i + 1)) = ls.take i ∧ lf s m (ls.take (i + 1)) = k) := by
  have HR : Hid (RdS w a n ls) := hR
  have HL : Hid (ls.length = n) := hR.len
  have HC : Hid (Cl w b1 b2 s m) := h
  have hn : n ≤ 9223372036854775807 := by have := hR.max; unfold maxLen at this; omega
  have HK0 : Hid (kp s m (ls.take 0) = ls.take 0 ∧ lf s m (ls.take 0) = m) := ⟨rfl, rfl⟩
  clear hR h
  go_enter Try.func23, Try.ntmps23
  go_wp2
  go_loopg [8] n (fun g iv wr => w = wr ∧ ∃ i : Nat, i + g = n ∧ iv = .int .i64 i ∧ Hid (kp s m (ls.take i) = ls.take i ∧ lf s m (ls.take i) = m))
  case atStart => exact ⟨rfl, 0, by omega, rfl, HK0⟩
  case round =>
    obtain ⟨rfl, i, hi, rfl, HK⟩ := hrel
    by_cases h1 : (i : Int) < n
    · obtain ⟨b, off, ha, hc⟩ := HR.out.cell i (by omega)
      subst ha
      have hil : i < ls.length := by have := HL.out; omega
      have HT : Hid (ls.take (i + 1) = ls.take i ++ [ls.getD i ByteArray.empty]) := take_snocB ls i hil
      generalize ls.getD i ByteArray.empty = t at hc HT
      have HK1 : Hid (kp s m (ls.take (i + 1)) = ls.take i ++ kp s m [t] ∧ lf s m (ls.take (i + 1)) = lf s m [t]) := by
        show _ ∧ _
        rw [HT.out, kp_append, lf_append, HK.out.1, HK.out.2]; exact ⟨rfl, rfl⟩
      by_cases hh : t = s ∧ m ≠ 0
      · obtain ⟨hts, hm0⟩ := hh
        subst hts
        obtain ⟨k, rfl⟩ : ∃ k, m = k + 1 := ⟨m - 1, by omega⟩
        have HY := cl_yes b1 b2 k t w HC.out (by omega)
        have HK2 : Hid (kp t (k + 1) (ls.take (i + 1)) = ls.take i ∧ lf t (k + 1) (ls.take (i + 1)) = k) := by
          show _ ∧ _
          rw [HK1.out.1, HK1.out.2, (kp_one t t (k + 1)).1, (kp_one t t (k + 1)).2, if_pos ⟨rfl, by omega⟩, if_pos ⟨rfl, by omega⟩]
          exact ⟨by simp, by omega⟩
        go_wp2_with fail
        refine HY.mono ?_
        rintro e w1 ⟨rfl, rfl⟩
        go_wp2
        go_ret
        exact .inr ⟨i, k, rfl, by omega, rfl, rfl, HK2.out⟩
      · have HNo := cl_no b1 b2 m s t w HC.out hh
        have HK2 : Hid (kp s m (ls.take (i + 1)) = ls.take (i + 1) ∧ lf s m (ls.take (i + 1)) = m) := by
          show _ ∧ _
          rw [HK1.out.1, HK1.out.2, (kp_one s t m).1, (kp_one s t m).2, if_neg hh, if_neg hh, ← HT.out]
          exact ⟨rfl, rfl⟩
        go_wp2_with fail
        refine HNo.mono ?_
        rintro e w ⟨rfl, rfl⟩
        go_wp2
        go_roundg (gk - 1)
        case measure => omega
        case rel => exact ⟨rfl, i + 1, by omega, by go_num, HK2⟩
    · have HE : Hid (kp s m ls = ls) := by
        have := HK.out.1
        rw [List.take_of_length_le (by have := HL.out; omega)] at this
        exact this
      go_wp2
      go_ret
      exact .inl ⟨rfl, rfl, HE.out⟩
end Go.Proofs.Ytemiajjjhhofaac
