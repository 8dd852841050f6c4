/-
  What the law's do stands on: texts of a call, the first one, too long ones; a call in memory.
-/
import Derived.Test.YtemiajjjhhofaaaTells
import Derived.Test.YtemiajjjhhofaaaStr2
namespace Go.Proofs.Ytemiajjjhhofaaa
open Go.RowKit Go.PlainAid

/-- No more texts than these, none longer. -/
def few (ls : List ByteArray) (k : Nat) (m : Int) : List ByteArray := (ls.take k).map fun s => cutB s m
theorem few_short (ls : List ByteArray) (k : Nat) (m : Int) (hm : 0 ≤ m) : Short (few ls k m) k m := by
  refine ⟨by rw [few, List.length_map, List.length_take]; omega, fun s hs => ?_⟩
  obtain ⟨t, -, rfl⟩ := List.mem_map.1 hs
  exact size_cutB t m hm
theorem few_snoc (ls : List ByteArray) (i : Nat) (m : Int) (h : i < ls.length) : few ls (i + 1) m = few ls i m ++ [cutB (ls.getD i ByteArray.empty) m] := by
  rw [few, take_snocB ls i h, List.map_append]; rfl

set_option maxRecDepth 100000 in
set_option maxHeartbeats 400000 in
theorem Few_eq (a : Option Addr) (n cap : Nat) (ls : List ByteArray) (k : Nat) (m : Int) (w : World) (hR : RdS w a n ls) (hk : k ≤ 100) (hm : 0 ≤ m) :
    Calls Try.prog 17 #[.slice a n cap, .int .i64 k, .int .i64 m] w fun e w' => Below w.heap.size w w' ∧ ∃ a2 n2 c2, e = .returned (.slice a2 n2 c2) ∧ OwnS w' w.heap.size a2 n2 c2 (few ls k m) := by
  have hn : n ≤ 9223372036854775807 := hR.max
  have HR : Hid (RdS w a n ls) := hR
  have HL : Hid (ls.length = n) := hR.len
  have HO : Hid (OwnS w w.heap.size none 0 0 (few ls 0 m)) := World.ownsRow_nil w _ 9 1
  have HC := fun s w => Cut_any s m w hm
  clear hR
  go_enter Try.func17, Try.ntmps17
  go_wp2
  go_loopg [7, 8] k (fun g bv iv wr => ∃ (i : Nat) (a2 : Option Addr) (n2 c2 : Nat), i + g = k ∧ i ≤ n ∧ bv = .slice a2 n2 c2 ∧ iv = .int .i64 i ∧ Hid (OwnS wr w.heap.size a2 n2 c2 (few ls i m)) ∧ Hid (Below w.heap.size w wr))
  case atStart => exact ⟨0, none, 0, 0, by omega, by omega, rfl, rfl, HO, Below.refl _ _⟩
  case round =>
    obtain ⟨i, a2, n2, c2, hi, hin, rfl, rfl, HO, HB⟩ := hrel
    by_cases h1 : (i : Int) < n
    · by_cases h2 : (i : Int) < k
      · obtain ⟨b, off, ha, hc⟩ := HR.out.cell i (by omega)
        subst ha
        have hc1 : wr.cell? ⟨b, off + i, none⟩ = some (.string (ls.getD i ByteArray.empty)) := by
          rw [HB.out.cell (p := ⟨b, off + i, none⟩) (World.block_lt_of_cell? _ _ hc)]; exact hc
        have HT : Hid (few ls i m ++ [cutB (ls.getD i ByteArray.empty) m] = few ls (i + 1) m) := (few_snoc ls i m (by have := HL.out; omega)).symm
        generalize ls.getD i ByteArray.empty = s at hc1 HT
        have HLn : Hid (n2 + 1 ≤ 1000000) := by
          have h5 := HO.out.len
          have := (few_short ls i m hm).1
          show _ ≤ _
          omega
        have HCs := fun w => HC s w
        generalize cutB s m = t at HT HCs
        have hsz := HB.out.size
        clear hc
        go_wp2_with (first | (go_at_call 23; refine (HCs _).mono ?_; rintro e wr ⟨rfl, rfl⟩) | (at_builtin; refine append_str rfl (.tmp 20) (.tmp 27) rfl w.heap.size rfl (HO.out.keep (alloc_below wr _)) rfl (by simp; rfl) HLn.out (Nat.le_trans hsz (alloc_below wr _).size) ?_; intro a3 n3 c3 w3 hn3 hO3 hB3; have HO3 : Hid (OwnS w3 w.heap.size a3 n3 c3 (few ls (i + 1) m)) := (by rw [HT.out] at hO3; exact hO3); have HB3 : Hid (Below w.heap.size w w3) := (HB.out.trans ((alloc_below wr _).mono hsz)).trans hB3; clear hn3 hO3 hB3))
        go_roundg (gk - 1)
        case measure => omega
        case rel => exact ⟨i + 1, _, _, _, by omega, by omega, rfl, by go_num, HO3, HB3⟩
      · have hik : i = k := by omega
        subst hik
        go_wp2
        go_ret
        exact ⟨HB.out, _, _, _, rfl, HO.out⟩
    · have HE : Hid (few ls i m = few ls k m) := by
        have := HL.out
        show _ = _
        rw [few, few, List.take_of_length_le (by omega), List.take_of_length_le (by omega)]
      go_wp2
      go_ret
      exact ⟨HB.out, _, _, _, rfl, by rw [HE.out] at HO; exact HO.out⟩

set_option maxRecDepth 100000 in
theorem long_any (a : Option Addr) (n c : Nat) (ls : List ByteArray) (w : World) (hR : RdS w a n ls) (h5 : ∀ s ∈ ls, s.size ≤ 5000) (b : Bool) (hb : b = true ↔ ¬ Fit ls) :
    Calls Try.prog 29 #[.slice a n c] w fun e w' => e = .returned (.bool b) ∧ w' = w := by
  have hn : n ≤ 9223372036854775807 := hR.max
  have HR : Hid (RdS w a n ls) := hR
  have HL : Hid (ls.length = n) := hR.len
  have HBb : Hid (b = true ↔ ¬ Fit ls) := hb
  have H5 : Hid (∀ s ∈ ls, s.size ≤ 5000) := h5
  clear hR hb h5
  go_enter Try.func29, Try.ntmps29
  go_wp2
  go_loopg [3] n (fun g iv wr => ∃ i : Nat, i + g = n ∧ iv = .int .i64 i ∧ Hid (Fit (ls.take i)) ∧ wr = w)
  case atStart => exact ⟨0, by omega, rfl, (fun s hs => absurd hs (by simp)), rfl⟩
  case round =>
    obtain ⟨i, hi, rfl, HF, rfl⟩ := hrel
    by_cases h1 : (i : Int) < n
    · obtain ⟨bb, off, ha, hc⟩ := HR.out.cell i (by omega)
      subst ha
      have hil : i < ls.length := by have := HL.out; omega
      have hmem : ls.getD i ByteArray.empty ∈ ls := by rw [List.getD_eq_getElem?_getD, List.getElem?_eq_getElem hil]; simp
      have h5 := H5.out _ hmem
      have HT := take_snocB ls i hil
      generalize ls.getD i ByteArray.empty = s at hc hmem h5 HT
      by_cases hs : 4096 < (s.size : Int)
      · have hbt : b = true := HBb.out.2 (fun hf => by have := hf s hmem; omega)
        subst hbt
        clear HT
        go_wp2
        go_ret
        exact ⟨rfl, rfl⟩
      · have HF2 : Hid (Fit (ls.take (i + 1))) := by
          show Fit _
          rw [HT]
          intro t ht
          rcases List.mem_append.1 ht with ht | ht
          · exact HF.out t ht
          · rw [List.mem_singleton.1 ht]; omega
        clear HT
        go_wp2
        go_roundg (gk - 1)
        case measure => omega
        case rel => exact ⟨i + 1, by omega, by go_num, HF2, rfl⟩
    · have hbf : b = false := by
        cases b with
        | false => rfl
        | true => exact absurd (by have := HF.out; rw [List.take_of_length_le (by have := HL.out; omega)] at this; exact this) (HBb.out.1 rfl)
      subst hbf
      go_wp2
      go_ret
      exact ⟨rfl, rfl⟩

/-- A call in memory. -/
def Xb (w : World) (X : Nat) (kind i n : Int) (xa : Option Addr) (xn xc : Nat) : Prop := w.heap[X]? = some (.cells #[.int .i64 kind, .int .i64 i, .int .i64 n, .slice xa xn xc] 28 (0, 0))
theorem Xb.keep {w wn : World} {X : Nat} {kind i n : Int} {xa : Option Addr} {xn xc : Nat} (h : Xb w X kind i n xa xn xc) (hb : Below w.heap.size w wn) : Xb wn X kind i n xa xn xc := by
  show _ = _
  rw [hb.block X (Array.getElem?_eq_some_iff.1 h).1]; exact h
theorem Xb.c0 {w : World} {X : Nat} {kind i n : Int} {xa : Option Addr} {xn xc : Nat} (h : Xb w X kind i n xa xn xc) : w.cell? ⟨X, 0, none⟩ = some (.int .i64 kind) := by
  have h' : w.heap[X]? = _ := h
  simp [World.cell?, h']
theorem Xb.c1 {w : World} {X : Nat} {kind i n : Int} {xa : Option Addr} {xn xc : Nat} (h : Xb w X kind i n xa xn xc) : w.cell? ⟨X, 1, none⟩ = some (.int .i64 i) := by
  have h' : w.heap[X]? = _ := h
  simp [World.cell?, h']
theorem Xb.c2 {w : World} {X : Nat} {kind i n : Int} {xa : Option Addr} {xn xc : Nat} (h : Xb w X kind i n xa xn xc) : w.cell? ⟨X, 2, none⟩ = some (.int .i64 n) := by
  have h' : w.heap[X]? = _ := h
  simp [World.cell?, h']
theorem Xb.c3 {w : World} {X : Nat} {kind i n : Int} {xa : Option Addr} {xn xc : Nat} (h : Xb w X kind i n xa xn xc) : w.cell? ⟨X, 3, none⟩ = some (.slice xa xn xc) := by
  have h' : w.heap[X]? = _ := h
  simp [World.cell?, h']
abbrev askV (kind i n : Int) (xa : Option Addr) (xn xc : Nat) : Value := .agg #[.int .i64 kind, .int .i64 i, .int .i64 n, .slice xa xn xc]

/-- What do answers: the texts are l' then. -/
def Did (w : World) (B p : Nat) (l' : List ByteArray) (e : Ending) (w' : World) : Prop :=
  Below B w w' ∧ ∃ a' n' c' la ln lc, e = .returned (.tuple #[.slice la ln lc, .bool true]) ∧ Pk w' B p a' n' c' l' ∧ OwnS w' B la ln lc l'

set_option maxRecDepth 100000 in
set_option maxHeartbeats 400000 in
theorem do_else (B p : Nat) (a : Option Addr) (n c : Nat) (l : List ByteArray) (la : Option Addr) (ln lc : Nat) (kind i N : Int) (xa : Option Addr) (xn xc : Nat) (w : World) (hP : Pk w B p a n c l) (hO : OwnS w B la ln lc l) (hk : kind ≠ 1 ∧ kind ≠ 2 ∧ kind ≠ 3 ∧ kind ≠ 4) :
    Calls Try.prog 10 #[ptr p, .slice la ln lc, askV kind i N xa xn xc] w fun e w' => Did w B p l e w' := by
  have HP : Hid (Pk w B p a n c l) := hP
  have HO : Hid (OwnS w B la ln lc l) := hO
  have h1 : (kind == 1) = false := by simpa using hk.1
  have h2 : (kind == 2) = false := by simpa using hk.2.1
  have h3 : (kind == 3) = false := by simpa using hk.2.2.1
  have h4 : (kind == 4) = false := by simpa using hk.2.2.2
  have hBw : B ≤ w.heap.size := Nat.le_trans hP.low (Nat.le_of_lt hP.lt)
  clear hP hO hk
  go_enter Try.func10, Try.ntmps10
  go_wp2
  go_ret2
  exact ⟨(alloc_below w _).mono hBw, _, _, _, _, _, _, rfl, HP.out.keep (alloc_below w _), HO.out.keep (alloc_below w _)⟩
end Go.Proofs.Ytemiajjjhhofaaa
