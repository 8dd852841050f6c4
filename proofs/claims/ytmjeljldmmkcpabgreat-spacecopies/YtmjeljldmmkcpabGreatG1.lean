/- Texts that the others stand on. -/
import Derived.Test.YtmjeljldmmkcpabGreatProg
import Derived.WalkKit
import Derived.WalkSpells
import Derived.PlainAid
import Derived.Laws.BitsAllLaws
import Derived.Deep.LoopGhost
import Derived.Deep.Cut
import Derived.Deep.RegionWith
import Derived.Deep.CutRange
import Derived.Deep.QuietTactic
import Derived.BigQuiet
import Derived.Elder7
import Derived.Deep.OwnRows
import Derived.Laws.AppendOwnNone
import Derived.Laws.Rows
import Derived.Laws.Tables
import Derived.Laws.IdiomStrings
import Derived.Lib.IndexBytes
import Derived.Deep.RegionHeld3
namespace Go.Proofs.YtmjeljldmmkcpabGreat.Dk
open Go.RowKit Go.PlainAid
/-- The number that a row of bytes makes, the first one lowest. -/
def val : List Nat → Nat
  | [] => 0
  | b :: l => b + 256 * val l
/-- A row of bytes. -/
def Byt (l : List Nat) : Prop := ∀ b ∈ l, b < 256
/-- Eight bytes. -/
structure Ok (l : List Nat) : Prop where
  len : l.length = 8
  byt : Byt l
theorem Byt.tail {b : Nat} {l : List Nat} (h : Byt (b :: l)) : Byt l := fun x hx => h x (by simp [hx])
theorem Byt.head {b : Nat} {l : List Nat} (h : Byt (b :: l)) : b < 256 := h b (by simp)
theorem Byt.set {l : List Nat} (h : Byt l) (i : Nat) {b : Nat} (hb : b < 256) : Byt (l.set i b) := by
  intro x hx
  rcases List.mem_or_eq_of_mem_set hx with h1 | rfl
  · exact h x h1
  · exact hb
theorem Byt.get {l : List Nat} (h : Byt l) (i : Nat) : l.getD i 0 < 256 := by
  rw [List.getD_eq_getElem?_getD]
  cases e : l[i]? with
  | none => simp
  | some b => exact h b (List.mem_of_getElem? e)
theorem Ok.set {l : List Nat} (h : Ok l) (i : Nat) {b : Nat} (hb : b < 256) : Ok (l.set i b) := ⟨by simp [h.len], h.byt.set i hb⟩
theorem Ok.get {l : List Nat} (h : Ok l) (i : Nat) : l.getD i 0 < 256 := h.byt.get i
theorem val_lt {l : List Nat} (h : Byt l) : val l < 256 ^ l.length := by
  induction l with
  | nil => simp [val]
  | cons b l ih =>
    have h1 := ih h.tail
    have h2 := h.head
    rw [val, List.length_cons, Nat.pow_succ]
    omega
theorem Ok.lt {l : List Nat} (h : Ok l) : val l < 18446744073709551616 := by
  have := val_lt h.byt
  rw [h.len] at this
  exact this
theorem val_append (p q : List Nat) : val (p ++ q) = val p + 256 ^ p.length * val q := by
  induction p with
  | nil => simp [val]
  | cons b p ih =>
    rw [List.cons_append, val, val, ih, List.length_cons, Nat.pow_succ, Nat.mul_add, Nat.add_assoc, ← Nat.mul_assoc, Nat.mul_comm 256 (256 ^ p.length)]
theorem val_get {l : List Nat} (h : Byt l) : ∀ i, val l / 256 ^ i % 256 = l.getD i 0 := by
  induction l with
  | nil => intro i; simp [val]
  | cons b l ih =>
    intro i
    have h2 := h.head
    cases i with
    | zero => simp [val]; omega
    | succ i =>
      rw [Nat.pow_succ, Nat.mul_comm, ← Nat.div_div_eq_div_mul, show val (b :: l) / 256 = val l by rw [val]; omega, ih h.tail i]
      rfl
theorem val_inj : ∀ {l m : List Nat}, Byt l → Byt m → l.length = m.length → val l = val m → l = m
  | [], [], _, _, _, _ => rfl
  | b :: l, c :: m, hl, hm, hn, hv => by
    have h1 := hl.head
    have h2 := hm.head
    rw [val, val] at hv
    have h3 : b = c := by omega
    have h4 : val l = val m := by omega
    rw [h3, val_inj hl.tail hm.tail (by simpa using hn) h4]
theorem Ok.inj {l m : List Nat} (h : Ok l) (h' : Ok m) (hv : val l = val m) : l = m := val_inj h.byt h'.byt (by rw [h.len, h'.len]) hv
theorem bit_mask (k j : Nat) (hk : k + 8 ≤ 64) : (18446744073709551615 - 255 * 2 ^ k).testBit j = (decide (j < 64) && !(decide (k ≤ j) && decide (j - k < 8))) := by
  have h1 : 255 * 2 ^ k < 2 ^ 64 := by
    have : 2 ^ k ≤ 2 ^ 56 := Nat.pow_le_pow_right (by decide) (by omega)
    omega
  have h2 : 18446744073709551615 - 255 * 2 ^ k = 2 ^ 64 - (255 * 2 ^ k + 1) := by omega
  rw [h2, Nat.testBit_two_pow_sub_succ h1, Nat.testBit_mul_two_pow, show (255 : Nat) = 2 ^ 8 - 1 from rfl, Nat.testBit_two_pow_sub_one]
/-- A byte that is masked out of a number, and another one that is laid there. -/
theorem mask_join (A x C b k : Nat) (hA : A < 2 ^ k) (hx : x < 256) (hb : b < 256) (hk : k + 8 ≤ 64) (hn : A + 2 ^ k * (x + 256 * C) < 2 ^ 64) :
    ((A + 2 ^ k * (x + 256 * C)) &&& (18446744073709551615 - 255 * 2 ^ k)) ||| (b * 2 ^ k) = A + 2 ^ k * (b + 256 * C) := by
  apply Nat.eq_of_testBit_eq
  intro j
  have e : ∀ y, A + 2 ^ k * (y + 256 * C) = 2 ^ k * (2 ^ 8 * C + y) + A := fun y => by rw [Nat.add_comm y, Nat.add_comm A]
  have hx' : x < 2 ^ 8 := hx
  have hb' : b < 2 ^ 8 := hb
  have hbig : 64 ≤ j → (A + 2 ^ k * (x + 256 * C)).testBit j = false := fun h => Nat.testBit_lt_two_pow (Nat.lt_of_lt_of_le hn (Nat.pow_le_pow_right (by decide) h))
  rw [Nat.testBit_or, Nat.testBit_and, bit_mask k j hk, Nat.testBit_mul_two_pow]
  rw [e] at hbig ⊢
  rw [e, Nat.testBit_two_pow_mul_add _ hA, Nat.testBit_two_pow_mul_add _ hA] at *
  rw [Nat.testBit_two_pow_mul_add _ hx', Nat.testBit_two_pow_mul_add _ hb'] at *
  by_cases h1 : j < k
  · have h2 : ¬ k ≤ j := by omega
    have h3 : j < 64 := by omega
    simp [h1, h2, h3]
  · have h2 : k ≤ j := by omega
    by_cases h4 : j - k < 8
    · simp [h1, h2, h4]
    · by_cases h5 : j < 64
      · have h6 : b.testBit (j - k) = false := Nat.testBit_lt_two_pow (Nat.lt_of_lt_of_le hb' (Nat.pow_le_pow_right (by decide) (by omega)))
        simp [h1, h2, h4, h5, h6]
      · have h6 : b.testBit (j - k) = false := Nat.testBit_lt_two_pow (Nat.lt_of_lt_of_le hb' (Nat.pow_le_pow_right (by decide) (by omega)))
        have h7 := hbig (by omega)
        simp only [h1, h4, if_false] at h7
        simp [h1, h2, h4, h5, h6, h7]
theorem val_split {l : List Nat} {i : Nat} (hi : i < l.length) (b : Nat) : val (l.set i b) = val (l.take i) + 2 ^ (8 * i) * (b + 256 * val (l.drop (i + 1))) := by
  rw [List.set_eq_take_append_cons_drop, if_pos hi, val_append, val, List.length_take, Nat.min_eq_left (by omega), show (256 : Nat) = 2 ^ 8 from rfl, ← Nat.pow_mul]
theorem val_set {l : List Nat} (h : Ok l) {i : Nat} (hi : i < 8) {b : Nat} (hb : b < 256) :
    (val l &&& (18446744073709551615 - 255 * 2 ^ (8 * i))) ||| (b * 2 ^ (8 * i)) = val (l.set i b) := by
  have hi' : i < l.length := by rw [h.len]; exact hi
  have h1 : l = l.set i l[i] := by simp
  have h2 := val_split hi' l[i]
  rw [← h1] at h2
  have h3 : val (l.take i) < 2 ^ (8 * i) := by
    have := val_lt (l := l.take i) (fun x hx => h.byt x (List.mem_of_mem_take hx))
    rw [List.length_take, Nat.min_eq_left (by omega), show (256 : Nat) = 2 ^ 8 from rfl, ← Nat.pow_mul] at this
    exact this
  have h4 := h.lt
  rw [h2] at h4
  rw [h2, val_split hi' b]
  exact mask_join _ _ _ _ _ h3 (h.byt _ (List.getElem_mem _)) hb (by omega) h4
theorem below_drewN (w : World) : ∀ n, Below w.heap.size w (w.drewN n)
  | 0 => Below.refl _ _
  | n + 1 => (below_drewN w n).drew
theorem step_below {w w1 w2 : World} (h : Hid (Below w.heap.size w w1)) (hb : Below w1.heap.size w1 w2) : Hid (Below w.heap.size w w2) := h.out.trans (hb.mono h.out.size)
theorem isSlot_yes (i : Int) (w : World) (h0 : 0 ≤ i) (h1 : i < 8) : Calls Tryz.prog 232 #[.int .i64 i] w fun e w' => e = .returned (.bool true) ∧ w' = w := by
  go_enter Tryz.func232, Tryz.ntmps232
  go_wp2
  go_ret
  exact ⟨rfl, rfl⟩
theorem isFree_any (b : Nat) (w : World) (hb : b < 256) : Calls Tryz.prog 237 #[.int .u8 b] w fun e w' => e = .returned (.bool (decide (128 ≤ b))) ∧ w' = w := by
  go_enter Tryz.func237, Tryz.ntmps237
  go_wp2
  go_ret
  exact ⟨by simp; omega, rfl⟩
theorem slot8 {k : Nat} (h : k < 8) : k = 0 ∨ k = 1 ∨ k = 2 ∨ k = 3 ∨ k = 4 ∨ k = 5 ∨ k = 6 ∨ k = 7 := by omega
theorem At_in {l : List Nat} (hl : Ok l) (k : Nat) (hk : k < 8) (w : World) : Calls Tryz.prog 188 #[.int .u64 (val l : Nat), .int .i64 k] w fun e w' => e = .returned (.int .u8 (l.getD k 0 : Nat)) ∧ w' = w := by
  have hv := val_get hl.byt k
  have hlt := hl.lt
  have H := fun w => isSlot_yes k w (by omega) (by omega)
  generalize val l = n at hv hlt ⊢
  generalize l.getD k 0 = z at hv ⊢
  obtain ⟨c, hc⟩ : ∃ c : Int, (z : Int) = c := ⟨_, rfl⟩
  rcases slot8 hk with rfl | rfl | rfl | rfl | rfl | rfl | rfl | rfl
  all_goals
    simp only [Nat.reducePow] at hv
    subst hv
    go_enter Tryz.func188, Tryz.ntmps188
    go_wp2_with fail
    refine (H _).mono ?_
    rintro e w ⟨rfl, rfl⟩
    clear hc
    go_wp2
    go_ret
    exact ⟨by simp <;> omega, rfl⟩
theorem Set_in {l : List Nat} (hl : Ok l) (k b : Nat) (hk : k < 8) (hb : b < 256) (w : World) :
    Calls Tryz.prog 172 #[.int .u64 (val l : Nat), .int .i64 k, .int .u8 b] w fun e w' => e = .returned (.int .u64 (val (l.set k b) : Nat)) ∧ Below w.heap.size w w' := by
  have hv := val_set hl hk hb
  have hlt := hl.lt
  have hz := (hl.set k hb).lt
  have H := fun w => isSlot_yes k w (by omega) (by omega)
  have HB : Hid (∀ q, Below w.heap.size w (w.drewN q)) := fun q => below_drewN w q
  generalize val (l.set k b) = z at hv hz ⊢
  generalize val l = n at hv hlt ⊢
  rcases slot8 hk with rfl | rfl | rfl | rfl | rfl | rfl | rfl | rfl
  · replace hv : (n &&& 18446744073709551360) ||| (b * 1) = z := hv
    have ha : bits .andNot .u64 (n : Int) 255 = ((n &&& 18446744073709551360 : Nat) : Int) := u64_andNot_nat n 255 hlt (by decide)
    have hA : n &&& 18446744073709551360 < 18446744073709551616 := Nat.lt_of_le_of_lt Nat.and_le_left hlt
    generalize n &&& 18446744073709551360 = A at ha hA hv
    have ho : bits .or .u64 (A : Int) ((b : Int) * 1) = (z : Int) := by
      rw [← hv, show ((b : Int) * 1) = ((b * 1 : Nat) : Int) by omega]
      exact u64_or_nat A (b * 1) hA (by omega)
    rw [Int.mul_one] at ho
    clear hv hA
    go_enter Tryz.func172, Tryz.ntmps172
    go_wp2_with fail
    refine (H _).mono ?_
    rintro e w ⟨rfl, rfl⟩
    go_wp2
    go_quiet (fail)
    go_wp2
    go_ret
    exact ⟨rfl, HB.out _⟩
  · replace hv : (n &&& 18446744073709486335) ||| (b * 256) = z := hv
    have ha : bits .andNot .u64 (n : Int) 65280 = ((n &&& 18446744073709486335 : Nat) : Int) := u64_andNot_nat n 65280 hlt (by decide)
    have hA : n &&& 18446744073709486335 < 18446744073709551616 := Nat.lt_of_le_of_lt Nat.and_le_left hlt
    generalize n &&& 18446744073709486335 = A at ha hA hv
    have ho : bits .or .u64 (A : Int) ((b : Int) * 256) = (z : Int) := by
      rw [← hv, show ((b : Int) * 256) = ((b * 256 : Nat) : Int) by omega]
      exact u64_or_nat A (b * 256) hA (by omega)
    clear hv hA
    go_enter Tryz.func172, Tryz.ntmps172
    go_wp2_with fail
    refine (H _).mono ?_
    rintro e w ⟨rfl, rfl⟩
    go_wp2
    go_quiet (fail)
    go_wp2
    go_ret
    exact ⟨rfl, HB.out _⟩
  · replace hv : (n &&& 18446744073692839935) ||| (b * 65536) = z := hv
    have ha : bits .andNot .u64 (n : Int) 16711680 = ((n &&& 18446744073692839935 : Nat) : Int) := u64_andNot_nat n 16711680 hlt (by decide)
    have hA : n &&& 18446744073692839935 < 18446744073709551616 := Nat.lt_of_le_of_lt Nat.and_le_left hlt
    generalize n &&& 18446744073692839935 = A at ha hA hv
    have ho : bits .or .u64 (A : Int) ((b : Int) * 65536) = (z : Int) := by
      rw [← hv, show ((b : Int) * 65536) = ((b * 65536 : Nat) : Int) by omega]
      exact u64_or_nat A (b * 65536) hA (by omega)
    clear hv hA
    go_enter Tryz.func172, Tryz.ntmps172
    go_wp2_with fail
    refine (H _).mono ?_
    rintro e w ⟨rfl, rfl⟩
    go_wp2
    go_quiet (fail)
    go_wp2
    go_ret
    exact ⟨rfl, HB.out _⟩
  · replace hv : (n &&& 18446744069431361535) ||| (b * 16777216) = z := hv
    have ha : bits .andNot .u64 (n : Int) 4278190080 = ((n &&& 18446744069431361535 : Nat) : Int) := u64_andNot_nat n 4278190080 hlt (by decide)
    have hA : n &&& 18446744069431361535 < 18446744073709551616 := Nat.lt_of_le_of_lt Nat.and_le_left hlt
    generalize n &&& 18446744069431361535 = A at ha hA hv
    have ho : bits .or .u64 (A : Int) ((b : Int) * 16777216) = (z : Int) := by
      rw [← hv, show ((b : Int) * 16777216) = ((b * 16777216 : Nat) : Int) by omega]
      exact u64_or_nat A (b * 16777216) hA (by omega)
    clear hv hA
    go_enter Tryz.func172, Tryz.ntmps172
    go_wp2_with fail
    refine (H _).mono ?_
    rintro e w ⟨rfl, rfl⟩
    go_wp2
    go_quiet (fail)
    go_wp2
    go_ret
    exact ⟨rfl, HB.out _⟩
  · replace hv : (n &&& 18446742978492891135) ||| (b * 4294967296) = z := hv
    have ha : bits .andNot .u64 (n : Int) 1095216660480 = ((n &&& 18446742978492891135 : Nat) : Int) := u64_andNot_nat n 1095216660480 hlt (by decide)
    have hA : n &&& 18446742978492891135 < 18446744073709551616 := Nat.lt_of_le_of_lt Nat.and_le_left hlt
    generalize n &&& 18446742978492891135 = A at ha hA hv
    have ho : bits .or .u64 (A : Int) ((b : Int) * 4294967296) = (z : Int) := by
      rw [← hv, show ((b : Int) * 4294967296) = ((b * 4294967296 : Nat) : Int) by omega]
      exact u64_or_nat A (b * 4294967296) hA (by omega)
    clear hv hA
    go_enter Tryz.func172, Tryz.ntmps172
    go_wp2_with fail
    refine (H _).mono ?_
    rintro e w ⟨rfl, rfl⟩
    go_wp2
    go_quiet (fail)
    go_wp2
    go_ret
    exact ⟨rfl, HB.out _⟩
  · replace hv : (n &&& 18446463698244468735) ||| (b * 1099511627776) = z := hv
    have ha : bits .andNot .u64 (n : Int) 280375465082880 = ((n &&& 18446463698244468735 : Nat) : Int) := u64_andNot_nat n 280375465082880 hlt (by decide)
    have hA : n &&& 18446463698244468735 < 18446744073709551616 := Nat.lt_of_le_of_lt Nat.and_le_left hlt
    generalize n &&& 18446463698244468735 = A at ha hA hv
    have ho : bits .or .u64 (A : Int) ((b : Int) * 1099511627776) = (z : Int) := by
      rw [← hv, show ((b : Int) * 1099511627776) = ((b * 1099511627776 : Nat) : Int) by omega]
      exact u64_or_nat A (b * 1099511627776) hA (by omega)
    clear hv hA
    go_enter Tryz.func172, Tryz.ntmps172
    go_wp2_with fail
    refine (H _).mono ?_
    rintro e w ⟨rfl, rfl⟩
    go_wp2
    go_quiet (fail)
    go_wp2
    go_ret
    exact ⟨rfl, HB.out _⟩
  · replace hv : (n &&& 18374967954648334335) ||| (b * 281474976710656) = z := hv
    have ha : bits .andNot .u64 (n : Int) 71776119061217280 = ((n &&& 18374967954648334335 : Nat) : Int) := u64_andNot_nat n 71776119061217280 hlt (by decide)
    have hA : n &&& 18374967954648334335 < 18446744073709551616 := Nat.lt_of_le_of_lt Nat.and_le_left hlt
    generalize n &&& 18374967954648334335 = A at ha hA hv
    have ho : bits .or .u64 (A : Int) ((b : Int) * 281474976710656) = (z : Int) := by
      rw [← hv, show ((b : Int) * 281474976710656) = ((b * 281474976710656 : Nat) : Int) by omega]
      exact u64_or_nat A (b * 281474976710656) hA (by omega)
    clear hv hA
    go_enter Tryz.func172, Tryz.ntmps172
    go_wp2_with fail
    refine (H _).mono ?_
    rintro e w ⟨rfl, rfl⟩
    go_wp2
    go_quiet (fail)
    go_wp2
    go_ret
    exact ⟨rfl, HB.out _⟩
  · replace hv : (n &&& 72057594037927935) ||| (b * 72057594037927936) = z := hv
    have ha : bits .andNot .u64 (n : Int) 18374686479671623680 = ((n &&& 72057594037927935 : Nat) : Int) := u64_andNot_nat n 18374686479671623680 hlt (by decide)
    have hA : n &&& 72057594037927935 < 18446744073709551616 := Nat.lt_of_le_of_lt Nat.and_le_left hlt
    generalize n &&& 72057594037927935 = A at ha hA hv
    have ho : bits .or .u64 (A : Int) ((b : Int) * 72057594037927936) = (z : Int) := by
      rw [← hv, show ((b : Int) * 72057594037927936) = ((b * 72057594037927936 : Nat) : Int) by omega]
      exact u64_or_nat A (b * 72057594037927936) hA (by omega)
    clear hv hA
    go_enter Tryz.func172, Tryz.ntmps172
    go_wp2_with fail
    refine (H _).mono ?_
    rintro e w ⟨rfl, rfl⟩
    go_wp2
    go_quiet (fail)
    go_wp2
    go_ret
    exact ⟨rfl, HB.out _⟩
theorem add_flat (b off j : Nat) : (⟨b, off, none⟩ : Addr).add j = ⟨b, off + j, none⟩ := by simp only [Addr.add]; split <;> simp_all
theorem alloc_below (w : World) (o : Obj) : Below w.heap.size w (w.alloc o) := (Below.refl _ _).alloc (Nat.le_refl _) o
/-- A slice that reads the numbers ls. -/
structure RdI (w : World) (a : Option Addr) (n : Nat) (ls : List Nat) : Prop where
  len : ls.length = n
  max : n ≤ maxLen
  cell : ∀ j, j < n → ∃ b off, a = some ⟨b, off, none⟩ ∧ w.cell? ⟨b, off + j, none⟩ = some (.int .i64 (ls.getD j 0 : Nat))
theorem RdI.keep {w wn : World} {a : Option Addr} {n : Nat} {ls : List Nat} (h : RdI w a n ls) (hb : Below w.heap.size w wn) : RdI wn a n ls :=
  ⟨h.len, h.max, fun j hj => by
    obtain ⟨b, off, e, hc⟩ := h.cell j hj
    exact ⟨b, off, e, by rw [hb.cell (p := ⟨b, off + j, none⟩) (World.block_lt_of_cell? _ _ hc)]; exact hc⟩⟩
/-- The numbers as cells. -/
def icells (ls : List Nat) : List Value := ls.map fun (b : Nat) => Value.int .i64 (b : Int)
theorem icells_append (l r : List Nat) : icells (l ++ r) = icells l ++ icells r := List.map_append ..
/-- A row of numbers of the call's own. -/
def OwnI (w : World) (B : Nat) (a : Option Addr) (n cap : Nat) (ls : List Nat) : Prop := w.ownsRow B 3 1 (.slice a n cap) n (icells ls)
theorem OwnI.nil (w : World) (B : Nat) : OwnI w B none 0 0 [] := World.ownsRow_nil w B 3 1
theorem OwnI.len {w : World} {B : Nat} {a : Option Addr} {n cap : Nat} {ls : List Nat} (h : OwnI w B a n cap ls) : ls.length = n := by
  have := h.1; simpa [icells] using this
theorem OwnI.keep {w wn : World} {B : Nat} {a : Option Addr} {n cap : Nat} {l : List Nat} (h : OwnI w B a n cap l) (hb : Below w.heap.size w wn) : OwnI wn B a n cap l := by
  refine ⟨h.1, ?_⟩
  rcases h.2 with h2 | ⟨g, c, cur, h1, h3, h4, h5⟩
  · exact .inl h2
  · refine .inr ⟨g, c, cur, h1, h3, ?_, h5⟩
    rw [hb.block g (Array.getElem?_eq_some_iff.1 h4).1]; exact h4
theorem OwnI.kept {w wn : World} {B : Nat} {a : Option Addr} {n cap : Nat} {l : List Nat} {row : Option Nat} (h : OwnI w B a n cap l) (hg : w.grownBy wn row) (hne : ∀ g, a = some ⟨g, 0, none⟩ → row ≠ some g) : OwnI wn B a n cap l := by
  refine ⟨h.1, ?_⟩
  rcases h.2 with h2 | ⟨g, c, cur, h1, h3, h4, h5⟩
  · exact .inl h2
  · refine .inr ⟨g, c, cur, h1, h3, ?_, h5⟩
    cases h1
    rw [hg.block g (Array.getElem?_eq_some_iff.1 h4).1 (fun e => hne g rfl e.symm)]; exact h4
theorem OwnI.rd {w : World} {B : Nat} {a : Option Addr} {n cap : Nat} {ls : List Nat} (h : OwnI w B a n cap ls) : RdI w a n ls := by
  have hl := h.len
  rcases h.2 with ⟨h2, h3⟩ | ⟨g, c, cur, h1, h3, h4, h5, h6, h7, h8⟩
  · cases h2
    exact RdI.mk hl (by rw [h3]; decide) (fun j hj => absurd hj (by omega))
  · cases h1
    refine RdI.mk hl (Nat.le_trans h5 h6) (fun j hj => ⟨g, 0, rfl, ?_⟩)
    have := h.cells (g := g) rfl j (.int .i64 (ls.getD j 0 : Nat)) (by
      simp only [icells, List.getElem?_map, List.getD_eq_getElem?_getD]
      rw [List.getElem?_eq_getElem (by omega)]; rfl)
    rw [add_flat] at this
    rw [Nat.zero_add] at this ⊢
    exact this
theorem Tryz.info3 : (Tryz.prog.info? 3).map (fun i => (i.zero, i.size, i.bytes)) = some (some (.int .i64 0), 1, 8) := by kernel_rfl
/-- Where a row is behind an append: where it was, or in new memory. -/
def Went (w : World) (a a2 : Option Addr) : Prop := a2 = a ∨ ∃ b, a2 = some ⟨b, 0, none⟩ ∧ w.heap.size ≤ b
/-- append(l, x) at rows of numbers. -/
theorem run_append_int (w : World) (B : Nat) (a : Option Addr) (n cap : Nat) (ls : List Nat) (hown : OwnI w B a n cap ls) (g t : Nat) (hr : w.cell? ⟨g, 0, none⟩ = some (.int .i64 (t : Nat))) (hb : n + 1 ≤ 1000000) (hB : B ≤ w.heap.size) (ty : TypeId) :
    ∃ a2 c2 w2, (Builtin.append_ #[256, 256] ty #[.slice a n cap, .slice (some ⟨g, 0, none⟩) 1 1]).run Tryz.prog w = .ok (.slice a2 (n + 1) c2) w2 ∧ OwnI w2 B a2 (n + 1) c2 (ls ++ [t]) ∧ w.grownBy w2 (a.map (·.block)) ∧ Went w a a2 := by
  obtain ⟨i0, hi, hz0, hz1, hz2⟩ := info_parts Tryz.info3
  have hblk : (Value.slice a n cap).ownBlock = a.map (·.block) := by cases a <;> rfl
  have hnews : ∀ j u, (icells [t])[j]? = some u → w.cell? ((⟨g, 0, none⟩ : Addr).add j) = some u := by
    intro j u hu
    cases j with
    | zero => rw [add_flat, hr]; exact hu
    | succ j => simp [icells] at hu
  have gen : ∀ C, OwnI w C a n cap ls → C ≤ w.heap.size → ∃ a2 c2 w2, (Builtin.append_ #[256, 256] ty #[.slice a n cap, .slice (some ⟨g, 0, none⟩) 1 1]).run Tryz.prog w = .ok (.slice a2 (n + 1) c2) w2 ∧ OwnI w2 C a2 (n + 1) c2 (ls ++ [t]) ∧ w.grownBy w2 (a.map (·.block)) := by
    intro C hC hCs
    obtain ⟨v', w', h1, h2, h3, -⟩ := run_append_own (P := Tryz.prog) w C 256 ty 3 i0 (.int .i64 0) 1 8 Tryz.underlying256 hi hz0 hz1 hz2 rfl (by decide) (.slice a n cap) n (icells ls) hC ⟨g, 0, none⟩ 1 1 (icells [t]) rfl hnews (by simp [icells, Value.oneCell']) (by unfold maxLen; omega) (by omega) hCs
    rw [← icells_append] at h2
    rw [hblk] at h3
    rcases h2.2 with ⟨rfl, h4⟩ | ⟨g2, c, cur, rfl, h4⟩
    · omega
    · exact ⟨_, _, w', h1, h2, h3⟩
  obtain ⟨a2, c2, w2, h1, h2, h3⟩ := gen B hown hB
  refine ⟨a2, c2, w2, h1, h2, h3, ?_⟩
  rcases hown.2 with ⟨e, h0⟩ | ⟨g0, c, cur, e, h4, h5, h6, h7, h8, h9⟩
  · cases e
    have hnil : ls = [] := List.length_eq_zero_iff.1 hown.len
    subst hnil
    obtain ⟨a3, c3, w3, k1, k2, -⟩ := gen w.heap.size (OwnI.nil w _) (Nat.le_refl _)
    rw [h1] at k1
    cases k1
    rcases k2.2 with ⟨e, _⟩ | ⟨b, c, cur, e, hb, _⟩
    · cases e
    · cases e
      exact .inr ⟨b, rfl, hb⟩
  · cases e
    by_cases hroom : n + 1 ≤ cap
    · have hrun := run_append_room (P := Tryz.prog) w 256 ty 3 i0 Tryz.underlying256 hi g0 n cap cur h5 ⟨g, 0, none⟩ 1 1 (icells [t]) (by rw [hz1]; rfl) hnews (by simp [icells, Value.oneCell']) hroom (by rw [hz1]; simp [icells]; omega)
      rw [h1] at hrun
      cases hrun
      exact .inl rfl
    · have hrun := run_append_grow (P := Tryz.prog) w 256 ty 3 i0 (.int .i64 0) Tryz.underlying256 hi hz0 ⟨g0, 0, none⟩ n cap (icells ls) (by rw [hz1]; exact hown.1) (hown.cells (g := g0) rfl) ⟨g, 0, none⟩ 1 1 (icells [t]) (by rw [hz1]; rfl) hnews (by omega) (by omega) (growslice_fits (by omega) (by rw [hz2]; omega))
      rw [h1] at hrun
      cases hrun
      exact .inr ⟨_, rfl, Nat.le_refl _⟩
theorem append_int {w : World} {ops : Array Oper} {rest : List Oper} {o : Oper} {ac : Act} {Q : Exit → Act → World → Prop} (hgd : o.guard = none) (s x : Operand) (ho : o.op = .call { callee := .builtin .append, args := #[s, x], argTypes := #[256, 256] })
    (B : Nat) {a : Option Addr} {n cap : Nat} {ls : List Nat} (hs : ac.eval s = .slice a n cap) (hown : OwnI w B a n cap ls)
    {g t : Nat} (hx : ac.eval x = .slice (some ⟨g, 0, none⟩) 1 1) (hr : w.cell? ⟨g, 0, none⟩ = some (.int .i64 (t : Nat))) (hb : n + 1 ≤ 1000000) (hB : B ≤ w.heap.size)
    (h : ∀ a2 n2 c2 w2, n2 = n + 1 → Hid (OwnI w2 B a2 n2 c2 (ls ++ [t])) → Hid (w.grownBy w2 (a.map (·.block))) → Hid (Went w a a2) → wpList Tryz.prog ops Q rest (ac.put o.dst (.slice a2 n2 c2)) w2) : wpList Tryz.prog ops Q (o :: rest) ac w := by
  obtain ⟨a2, c2, w2, h1, h2, h3, h4⟩ := run_append_int w B a n cap ls hown g t hr hb hB o.type
  refine wpList_plain hgd fun K hK => ?_
  unfold Oper.wp
  simp [execOp, ho, resolve, invoke, builtin, hs, hx, h1, Result.andThen]
  exact hK _ _ (h a2 _ c2 w2 rfl h2 h3 h4)
theorem OwnI.below {w w2 : World} {B : Nat} {a : Option Addr} {n cap : Nat} {ls : List Nat} (h : OwnI w B a n cap ls) (hg : w.grownBy w2 (a.map (·.block))) (hB : B ≤ w.heap.size) : Below B w w2 := by
  have hblk : (Value.slice a n cap).ownBlock = a.map (·.block) := by cases a <;> rfl
  rw [← hblk] at hg
  exact (Below.refl B w).grown hg hB (fun k hk => (h.lt k hk).1)
/-- The slots below k of which p is true, rising. -/
def slots (p : Nat → Bool) (k : Nat) : List Nat := (List.range k).filter p
theorem slots_yes {p : Nat → Bool} {k : Nat} (h : p k = true) : slots p (k + 1) = slots p k ++ [k] := by
  unfold slots; rw [List.range_succ, List.filter_append]; simp [h]
theorem slots_no {p : Nat → Bool} {k : Nat} (h : p k = false) : slots p (k + 1) = slots p k := by
  unfold slots; rw [List.range_succ, List.filter_append]; simp [h]
theorem slots_len (p : Nat → Bool) (k : Nat) : (slots p k).length ≤ k := by
  unfold slots; have := List.length_filter_le p (List.range k); simpa using this
/-- Is p true of a slot below k? -/
def some? (p : Nat → Bool) (k : Nat) : Bool := (List.range k).any p
theorem some_step (p : Nat → Bool) (k : Nat) : some? p (k + 1) = (some? p k || p k) := by
  unfold some?; rw [List.range_succ, List.any_append]; simp
theorem some_mono {p : Nat → Bool} {k m : Nat} (h : some? p k = true) (hkm : k ≤ m) : some? p m = true := by
  unfold some? at *
  rw [List.any_eq_true] at *
  obtain ⟨x, hx, hp⟩ := h
  exact ⟨x, by simp at *; omega, hp⟩
/-- Which slots have the byte c; which are free; which are full. -/
def has (l : List Nat) (c k : Nat) : Bool := decide (l.getD k 0 = c)
def fre (l : List Nat) (k : Nat) : Bool := decide (128 ≤ l.getD k 0)
def ful (l : List Nat) (k : Nat) : Bool := !fre l k
/-- A byte that is cleaned. -/
def cl (b : Nat) : Nat := if b = 254 then 128 else b
/-- All Empty. -/
abbrev new8 : List Nat := [128, 128, 128, 128, 128, 128, 128, 128]
def news (k : Nat) : List Nat := List.replicate k 128 ++ List.replicate (8 - k) 0
theorem news_ok {k : Nat} (hk : k ≤ 8) : Ok (news k) := by
  refine ⟨by simp [news]; omega, fun b hb => ?_⟩
  unfold news at hb
  rcases List.mem_append.1 hb with hb | hb <;> rw [List.eq_of_mem_replicate hb] <;> decide
theorem news_set {k : Nat} (hk : k < 8) : (news k).set k 128 = news (k + 1) := by
  rcases slot8 hk with rfl | rfl | rfl | rfl | rfl | rfl | rfl | rfl <;> rfl
theorem New_any (w : World) : Calls Tryz.prog 121 #[] w fun e w' => e = .returned (.int .u64 (val new8 : Nat)) ∧ Below w.heap.size w w' := by
  have HB : Hid (Below w.heap.size w w) := Below.refl _ _
  have HS := fun (k : Nat) (hk : k < 8) w => Set_in (news_ok (Nat.le_of_lt hk)) k 128 hk (by decide) w
  have HE : Hid (val (news 8) = val new8) := rfl
  have HZ : Hid (val (news 0) = 0) := rfl
  go_enter Tryz.func121, Tryz.ntmps121
  go_wp2
  go_loopg [1, 2, 3] 8 (fun q nv iv jv wr => ∃ k : Nat, k + q = 8 ∧ jv = .int .i64 k ∧ nv = .int .u64 (val (news k) : Nat) ∧ Hid (Below w.heap.size w wr))
  case atStart => exact ⟨0, by omega, rfl, by rw [HZ.out]; rfl, HB⟩
  case round =>
    clear HB
    obtain ⟨k, hk, rfl, rfl, HB⟩ := hrel
    by_cases h8 : k < 8
    · have HSk := HS k h8
      rw [news_set h8] at HSk
      clear HS
      have hkz : (k : Int) < 8 := by omega
      generalize val (news k) = n at HSk ⊢
      obtain ⟨m, hm⟩ : ∃ m, val (news (k + 1)) = m := ⟨_, rfl⟩
      have HM : Hid (val (news (k + 1)) = m) := hm
      rw [hm] at HSk
      clear hm
      go_wp2_with fail
      refine (HSk _).mono ?_
      rintro e w1 ⟨rfl, hb⟩
      have H1 := step_below HB hb
      clear hb
      go_wp2
      go_roundg (gk - 1)
      case measure => omega
      case rel => exact ⟨k + 1, by omega, by go_num, by rw [HM.out], H1⟩
    · obtain rfl : k = 8 := by omega
      rw [HE.out]
      go_wp2
      go_ret
      exact ⟨rfl, HB.out⟩
theorem HasEmpty_any {l : List Nat} (hl : Ok l) (w : World) : Calls Tryz.prog 184 #[.int .u64 (val l : Nat)] w fun e w' => e = .returned (.bool (some? (has l 128) 8)) ∧ w' = w := by
  have HA := fun (k : Nat) (hk : k < 8) w => At_in hl k hk w
  have HG : Hid (∀ k, l.getD k 0 < 256) := hl.get
  generalize val l = n at HA ⊢
  go_enter Tryz.func184, Tryz.ntmps184
  go_wp2
  go_loopg [3, 4] 8 (fun q iv jv wr => w = wr ∧ ∃ k : Nat, k + q = 8 ∧ jv = .int .i64 k ∧ Hid (some? (has l 128) k = false))
  case atStart => exact ⟨rfl, 0, by omega, rfl, rfl⟩
  case round =>
    obtain ⟨rfl, k, hk, rfl, HF⟩ := hrel
    by_cases h8 : k < 8
    · have HAk := HA k h8
      have HST := some_step (has l 128) k
      rw [HF.out, Bool.false_or] at HST
      have HST : Hid (some? (has l 128) (k + 1) = has l 128 k) := HST
      have HH : Hid (has l 128 k = decide (l.getD k 0 = 128)) := rfl
      have hlt := HG.out k
      have hkz : (k : Int) < 8 := by omega
      clear HA
      generalize l.getD k 0 = b at HAk HH hlt
      by_cases hb : b = 128
      · have HT : Hid (some? (has l 128) 8 = true) := some_mono (k := k + 1) (by rw [HST.out, HH.out]; exact decide_eq_true hb) (by omega)
        subst hb
        go_wp2_with fail
        refine (HAk _).mono ?_
        rintro e w ⟨rfl, rfl⟩
        go_wp2
        go_ret
        exact ⟨by rw [HT.out]; rfl, rfl⟩
      · have HT : Hid (some? (has l 128) (k + 1) = false) := by show _ = _; rw [HST.out, HH.out]; exact decide_eq_false hb
        have hbz : ((b : Int) == 128) = false := by simp; omega
        go_wp2_with fail
        refine (HAk _).mono ?_
        rintro e w ⟨rfl, rfl⟩
        go_wp2
        go_roundg (gk - 1)
        case measure => omega
        case rel => exact ⟨rfl, k + 1, by omega, by go_num, HT⟩
    · obtain rfl : k = 8 := by omega
      go_wp2
      go_ret
      exact ⟨by rw [HF.out]; rfl, rfl⟩
theorem Count_any {l : List Nat} (hl : Ok l) (w : World) : Calls Tryz.prog 186 #[.int .u64 (val l : Nat)] w fun e w' => e = .returned (.int .i64 ((slots (ful l) 8).length : Nat)) ∧ w' = w := by
  have HA := fun (k : Nat) (hk : k < 8) w => At_in hl k hk w
  have HG : Hid (∀ k, l.getD k 0 < 256) := hl.get
  generalize val l = n at HA ⊢
  go_enter Tryz.func186, Tryz.ntmps186
  go_wp2
  go_loopg [3, 4, 5] 8 (fun q nv iv jv wr => w = wr ∧ ∃ k : Nat, k + q = 8 ∧ jv = .int .i64 k ∧ nv = .int .i64 ((slots (ful l) k).length : Nat))
  case atStart => exact ⟨rfl, 0, by omega, rfl, rfl⟩
  case round =>
    obtain ⟨rfl, k, hk, rfl, rfl⟩ := hrel
    by_cases h8 : k < 8
    · have HAk := HA k h8
      have HH : Hid (ful l k = !decide (128 ≤ l.getD k 0)) := rfl
      have hlt := HG.out k
      have HFr := fun w => isFree_any (l.getD k 0) w hlt
      have hkz : (k : Int) < 8 := by omega
      have hsl := slots_len (ful l) k
      clear HA
      generalize l.getD k 0 = b at HAk HH hlt HFr
      by_cases hb : 128 ≤ b
      · rw [decide_eq_true hb] at HFr HH
        have HT : Hid (slots (ful l) (k + 1) = slots (ful l) k) := slots_no HH.out
        generalize slots (ful l) k = s at HT hsl ⊢
        go_wp2_with fail
        refine (HAk _).mono ?_
        rintro e w ⟨rfl, rfl⟩
        go_wp2_with fail
        refine (HFr _).mono ?_
        rintro e w ⟨rfl, rfl⟩
        go_wp2
        go_roundg (gk - 1)
        case measure => omega
        case rel => exact ⟨rfl, k + 1, by omega, by go_num, by rw [HT.out]⟩
      · rw [decide_eq_false hb] at HFr HH
        have HT : Hid (slots (ful l) (k + 1) = slots (ful l) k ++ [k]) := slots_yes HH.out
        generalize slots (ful l) k = s at HT hsl ⊢
        go_wp2_with fail
        refine (HAk _).mono ?_
        rintro e w ⟨rfl, rfl⟩
        go_wp2_with fail
        refine (HFr _).mono ?_
        rintro e w ⟨rfl, rfl⟩
        go_wp2
        go_roundg (gk - 1)
        case measure => omega
        case rel => exact ⟨rfl, k + 1, by omega, by go_num, by rw [HT.out]; simp⟩
    · obtain rfl : k = 8 := by omega
      go_wp2
      go_ret
      exact ⟨rfl, rfl⟩
/-- What a call answers that makes a row of numbers. -/
def Makes (w : World) (ls : List Nat) (e : Ending) (w' : World) : Prop := Below w.heap.size w w' ∧ ∃ a n c, e = .returned (.slice a n c) ∧ OwnI w' w.heap.size a n c ls
set_option maxHeartbeats 2000000 in
theorem Free_any {l : List Nat} (hl : Ok l) (w : World) : Calls Tryz.prog 238 #[.int .u64 (val l : Nat)] w fun e w' => Makes w (slots (fre l) 8) e w' := by
  have HA := fun (k : Nat) (hk : k < 8) w => At_in hl k hk w
  have HG : Hid (∀ k, l.getD k 0 < 256) := hl.get
  have HB : Hid (Below w.heap.size w w) := Below.refl _ _
  generalize val l = n at HA ⊢
  go_enter Tryz.func238, Tryz.ntmps238
  go_wp2
  go_loopg [3, 4, 5] 8 (fun q sv iv jv wr => ∃ (k : Nat) (a : Option Addr) (m c : Nat), k + q = 8 ∧ jv = .int .i64 k ∧ sv = .slice a m c ∧ m ≤ k ∧ Hid (OwnI wr w.heap.size a m c (slots (fre l) k)) ∧ Hid (Below w.heap.size w wr))
  case atStart => exact ⟨0, none, 0, 0, by omega, rfl, rfl, Nat.le_refl _, OwnI.nil _ _, HB⟩
  case round =>
    clear HB
    obtain ⟨k, a, m, c, hk, rfl, rfl, hm, HO, HB⟩ := hrel
    by_cases h8 : k < 8
    · have HAk := HA k h8
      have HH : Hid (fre l k = decide (128 ≤ l.getD k 0)) := rfl
      have hlt := HG.out k
      have HFr := fun w => isFree_any (l.getD k 0) w hlt
      have hkz : (k : Int) < 8 := by omega
      have hsz := HB.out.size
      clear HA
      generalize l.getD k 0 = b at HAk HH hlt HFr
      by_cases hb : 128 ≤ b
      · rw [decide_eq_true hb] at HFr HH
        have HT : Hid (slots (fre l) (k + 1) = slots (fre l) k ++ [k]) := slots_yes HH.out
        generalize slots (fre l) k = s at HT HO
        go_wp2_with fail
        refine (HAk _).mono ?_
        rintro e wr ⟨rfl, rfl⟩
        go_wp2_with fail
        refine (HFr _).mono ?_
        rintro e wr ⟨rfl, rfl⟩
        go_wp2_with (at_builtin; refine append_int rfl (.tmp 12) (.tmp 14) rfl w.heap.size rfl (HO.out.keep (alloc_below wr _)) rfl (by simp; rfl) (by omega) (Nat.le_trans hsz (alloc_below wr _).size) ?_; intro a3 n3 c3 w3 hn3 HO3 HG3 HW3; have HB3 : Hid (Below w.heap.size w w3) := (HB.out.trans ((alloc_below wr _).mono hsz)).trans ((HO.out.keep (alloc_below wr _)).below HG3.out (Nat.le_trans hsz (alloc_below wr _).size)))
        go_roundg (gk - 1)
        case measure => omega
        case rel => exact ⟨k + 1, _, _, _, by omega, by go_num, rfl, by omega, by rw [HT.out, ← hn3]; exact HO3, HB3⟩
      · rw [decide_eq_false hb] at HFr HH
        have HT : Hid (slots (fre l) (k + 1) = slots (fre l) k) := slots_no HH.out
        generalize slots (fre l) k = s at HT HO
        go_wp2_with fail
        refine (HAk _).mono ?_
        rintro e wr ⟨rfl, rfl⟩
        go_wp2_with fail
        refine (HFr _).mono ?_
        rintro e wr ⟨rfl, rfl⟩
        go_wp2
        go_roundg (gk - 1)
        case measure => omega
        case rel => exact ⟨k + 1, _, _, _, by omega, by go_num, rfl, by omega, by rw [HT.out]; exact HO, HB⟩
    · obtain rfl : k = 8 := by omega
      go_wp2
      go_ret
      exact ⟨HB.out, _, _, _, rfl, HO.out⟩
set_option maxHeartbeats 2000000 in
theorem Match_any {l : List Nat} (hl : Ok l) (x : Nat) (hx : x < 256) (w : World) : Calls Tryz.prog 182 #[.int .u64 (val l : Nat), .int .u8 x] w fun e w' => Makes w (slots (has l x) 8) e w' := by
  have HA := fun (k : Nat) (hk : k < 8) w => At_in hl k hk w
  have HG : Hid (∀ k, l.getD k 0 < 256) := hl.get
  have HB : Hid (Below w.heap.size w w) := Below.refl _ _
  generalize val l = n at HA ⊢
  go_enter Tryz.func182, Tryz.ntmps182
  go_wp2
  go_loopg [5, 6, 7] 8 (fun q sv iv jv wr => ∃ (k : Nat) (a : Option Addr) (m c : Nat), k + q = 8 ∧ jv = .int .i64 k ∧ sv = .slice a m c ∧ m ≤ k ∧ Hid (OwnI wr w.heap.size a m c (slots (has l x) k)) ∧ Hid (Below w.heap.size w wr))
  case atStart => exact ⟨0, none, 0, 0, by omega, rfl, rfl, Nat.le_refl _, OwnI.nil _ _, HB⟩
  case round =>
    clear HB
    obtain ⟨k, a, m, c, hk, rfl, rfl, hm, HO, HB⟩ := hrel
    by_cases h8 : k < 8
    · have HAk := HA k h8
      have HH : Hid (has l x k = decide (l.getD k 0 = x)) := rfl
      have hlt := HG.out k
      have hkz : (k : Int) < 8 := by omega
      have hsz := HB.out.size
      clear HA
      generalize l.getD k 0 = b at HAk HH hlt
      by_cases hb : b = x
      · rw [decide_eq_true hb] at HH
        subst hb
        have HT : Hid (slots (has l b) (k + 1) = slots (has l b) k ++ [k]) := slots_yes HH.out
        generalize slots (has l b) k = s at HT HO
        go_wp2_with fail
        refine (HAk _).mono ?_
        rintro e wr ⟨rfl, rfl⟩
        go_wp2_with (at_builtin; refine append_int rfl (.tmp 15) (.tmp 17) rfl w.heap.size rfl (HO.out.keep (alloc_below wr _)) rfl (by simp; rfl) (by omega) (Nat.le_trans hsz (alloc_below wr _).size) ?_; intro a3 n3 c3 w3 hn3 HO3 HG3 HW3; have HB3 : Hid (Below w.heap.size w w3) := (HB.out.trans ((alloc_below wr _).mono hsz)).trans ((HO.out.keep (alloc_below wr _)).below HG3.out (Nat.le_trans hsz (alloc_below wr _).size)))
        go_roundg (gk - 1)
        case measure => omega
        case rel => exact ⟨k + 1, _, _, _, by omega, by go_num, rfl, by omega, by rw [HT.out, ← hn3]; exact HO3, HB3⟩
      · rw [decide_eq_false hb] at HH
        have HT : Hid (slots (has l x) (k + 1) = slots (has l x) k) := slots_no HH.out
        generalize slots (has l x) k = s at HT HO
        have hbz : ((b : Int) == (x : Int)) = false := by simp; omega
        go_wp2_with fail
        refine (HAk _).mono ?_
        rintro e wr ⟨rfl, rfl⟩
        go_wp2
        go_roundg (gk - 1)
        case measure => omega
        case rel => exact ⟨k + 1, _, _, _, by omega, by go_num, rfl, by omega, by rw [HT.out]; exact HO, HB⟩
    · obtain rfl : k = 8 := by omega
      go_wp2
      go_ret
      exact ⟨HB.out, _, _, _, rfl, HO.out⟩
/-- A text's bytes. -/
abbrev lst (s : ByteArray) : List UInt8 := s.data.toList
theorem drop_at (s : ByteArray) (k : Nat) (h : k < s.size) : (lst s).drop k = s[k] :: (lst s).drop (k + 1) := by
  rw [List.drop_eq_getElem_cons (by simpa using h)]
  rfl
/-- A hash, one byte on. -/
def stp (h : Nat) (b : UInt8) : Nat := (h ^^^ b.toNat) * 1099511628211 % 18446744073709551616
/-- The middle of a hash's end. -/
def mid (h : Nat) : Nat := (h ^^^ h / 4294967296) * 11400714819323198485 % 18446744073709551616
/-- A hash's end. -/
def fin (h : Nat) : Nat := mid h ^^^ mid h / 536870912
/-- The hash of a row of bytes by a seed. -/
def ofL (x : Nat) (l : List UInt8) : Nat := fin (l.foldl stp (14695981039346656037 ^^^ x))
/-- The lowest bits of a number, at most sixteen. -/
def lowN (h : Nat) (b : Int) : Nat := h % 2 ^ (min b.toNat 16)
theorem stp_lt (h : Nat) (b : UInt8) : stp h b < 18446744073709551616 := Nat.mod_lt _ (by decide)
theorem mid_lt (h : Nat) : mid h < 18446744073709551616 := Nat.mod_lt _ (by decide)
theorem xor_lt {a b : Nat} (ha : a < 18446744073709551616) (hb : b < 18446744073709551616) : a ^^^ b < 18446744073709551616 := Nat.xor_lt_two_pow (n := 64) ha hb
theorem fin_lt (h : Nat) : fin h < 18446744073709551616 := xor_lt (mid_lt h) (by have := mid_lt h; omega)
theorem ofL_lt (x : Nat) (l : List UInt8) : ofL x l < 18446744073709551616 := fin_lt _
theorem wrap_mul (a b : Nat) : IntKind.u64.wrap ((a : Int) * (b : Int)) = ((a * b % 18446744073709551616 : Nat) : Int) := by
  simp [IntKind.wrap, IntKind.signed, IntKind.bits]
theorem Seven_any (h : Int) (w : World) (h0 : 0 ≤ h) (h1 : h < 18446744073709551616) :
    Calls Tryz.prog 183 #[.int .u64 h] w fun e w' => e = .returned (.int .u8 (h / 144115188075855872)) ∧ w' = w := by
  go_enter Tryz.func183, Tryz.ntmps183
  go_wp2
  go_ret
  exact ⟨rfl, rfl⟩
theorem Of_any (x : Nat) (s : ByteArray) (w : World) (hs : s.size ≤ maxLen) (hx : x < 18446744073709551616) :
    Calls Tryz.prog 92 #[.int .u64 x, .string s] w fun e w' => e = .returned (.int .u64 (ofL x (lst s) : Nat)) ∧ w' = w := by
  unfold maxLen at hs
  have hb := u64_xor_nat 14695981039346656037 x (by decide) hx
  replace hb : bits .xor .u64 14695981039346656037 (x : Int) = ((14695981039346656037 ^^^ x : Nat) : Int) := hb
  have hlt : 14695981039346656037 ^^^ x < 18446744073709551616 := xor_lt (by decide) hx
  obtain ⟨o, HO⟩ : ∃ o, Hid ((lst s).foldl stp (14695981039346656037 ^^^ x) = o) := ⟨_, rfl⟩
  have HF : Hid (ofL x (lst s) = fin o) := by show _ = _; rw [← HO.out]; rfl
  generalize 14695981039346656037 ^^^ x = h0 at hb hlt HO
  go_enter Tryz.func92, Tryz.ntmps92
  go_wp2
  go_loopg [5, 11] s.size (fun g hv i wr => w = wr ∧ ∃ k n : Nat, k + g = s.size ∧ i = .int .i64 k ∧ hv = .int .u64 n ∧ n < 18446744073709551616 ∧ Hid (((lst s).drop k).foldl stp n = o))
  case atStart => exact ⟨rfl, 0, h0, by omega, rfl, rfl, hlt, HO⟩
  case round =>
    obtain ⟨rfl, k, n, hk, rfl, rfl, hn, H⟩ := hrel
    have HK : Hid (k + gk = s.size) := hk
    clear hk HO hb hlt
    by_cases hlt : k < s.size
    · have HD : Hid ((lst s).drop k = s[k] :: (lst s).drop (k + 1)) := drop_at s k hlt
      have HN : Hid (((lst s).drop (k + 1)).foldl stp (stp n s[k]) = o) := by
        have := H.out
        rw [HD.out] at this
        exact this
      have hc : s[k].toNat < 18446744073709551616 := by have := s[k].toNat_lt; omega
      have hxr := u64_xor_nat n s[k].toNat hn hc
      have hX := xor_lt hn hc
      have hq : IntKind.u64.wrap (((n ^^^ s[k].toNat : Nat) : Int) * 1099511628211) = (stp n s[k] : Nat) := wrap_mul _ 1099511628211
      have hl := stp_lt n s[k]
      generalize stp n s[k] = q at HN hq hl
      generalize n ^^^ s[k].toNat = X at hxr hX hq
      go_wp2
      go_roundg (gk - 1)
      case measure => have := HK.out; omega
      case rel => exact ⟨rfl, k + 1, q, by have := HK.out; omega, by go_num, rfl, hl, HN⟩
    · have HE : Hid (n = o) := by
        have := H.out
        rw [List.drop_eq_nil_of_le (by simp; omega)] at this
        exact this
      have HR : Hid (fin n = mid n ^^^ mid n / 536870912) := rfl
      have hx1 : bits .xor .u64 (n : Int) ((n : Int) / 4294967296) = ((n ^^^ n / 4294967296 : Nat) : Int) := u64_xor_nat n (n / 4294967296) hn (by omega)
      have hX := xor_lt hn (b := n / 4294967296) (by omega)
      have hm : IntKind.u64.wrap (((n ^^^ n / 4294967296 : Nat) : Int) * 11400714819323198485) = (mid n : Nat) := wrap_mul _ 11400714819323198485
      have hl := mid_lt n
      generalize mid n = m at hm hl HR
      generalize n ^^^ n / 4294967296 = X at hx1 hX hm
      have hx2 : bits .xor .u64 (m : Int) ((m : Int) / 536870912) = ((m ^^^ m / 536870912 : Nat) : Int) := u64_xor_nat m (m / 536870912) hl (by omega)
      generalize m ^^^ m / 536870912 = z at hx2 HR
      go_wp2
      go_ret
      exact ⟨by rw [HF.out, ← HE.out, HR.out]; rfl, rfl⟩
/-- A slot: its byte, its key, what it has. -/
abbrev Cl := Nat × ByteArray × (Option Addr)
/-- What is there: a key and what it has. -/
abbrev En := ByteArray × (Option Addr)
abbrev noC : Cl := (128, ⟨#[]⟩, none)
def cel (z : List Cl) (q : Nat) : Cl := z.getD q noC
/-- The bytes of a group. -/
def wrd (z : List Cl) (g : Nat) : List Nat := ((z.drop (8 * g)).take 8).map (·.1)
/-- Is a slot full? -/
def full (c : Cl) : Bool := decide (c.1 < 128)
def gone (c : Cl) : Bool := decide (c.1 = 254)
/-- What the full slots have. -/
def ents (z : List Cl) : List En := (z.filter full).map (·.2)
/-- How many are Deleted. -/
def dels (z : List Cl) : Nat := (z.filter gone).length
theorem cel_at (z : List Cl) {q : Nat} (h : q < z.length) : cel z q = z[q] := by
  unfold cel; rw [List.getD_eq_getElem?_getD, List.getElem?_eq_getElem h]; rfl
theorem cel_set (z : List Cl) {q : Nat} (h : q < z.length) (c : Cl) : cel (z.set q c) q = c := by
  unfold cel; rw [List.getD_eq_getElem?_getD, List.getElem?_set_self h]; rfl
theorem cel_set_ne (z : List Cl) {q r : Nat} (h : q ≠ r) (c : Cl) : cel (z.set q c) r = cel z r := by
  unfold cel; rw [List.getD_eq_getElem?_getD, List.getElem?_set_ne h, List.getD_eq_getElem?_getD]
theorem cel_mem (z : List Cl) {q : Nat} (h : q < z.length) : cel z q ∈ z := by rw [cel_at z h]; exact List.getElem_mem h
theorem mem_cel {z : List Cl} {c : Cl} (h : c ∈ z) : ∃ q, q < z.length ∧ cel z q = c := by
  obtain ⟨q, hq, e⟩ := List.getElem_of_mem h
  exact ⟨q, hq, by rw [cel_at z hq]; exact e⟩
theorem wrd_get? (z : List Cl) (g i : Nat) : (wrd z g)[i]? = if i < 8 then z[8 * g + i]?.map (·.1) else none := by
  unfold wrd
  rw [List.getElem?_map, List.getElem?_take, List.getElem?_drop]
  split <;> rfl
theorem wrd_len {z : List Cl} {G g : Nat} (hz : z.length = 8 * G) (hg : g < G) : (wrd z g).length = 8 := by
  unfold wrd; rw [List.length_map, List.length_take, List.length_drop]; omega
theorem wrd_get {z : List Cl} {G g i : Nat} (hz : z.length = 8 * G) (hg : g < G) (hi : i < 8) : (wrd z g).getD i 0 = (cel z (8 * g + i)).1 := by
  rw [List.getD_eq_getElem?_getD, wrd_get?, if_pos hi, cel_at z (q := 8 * g + i) (by omega), List.getElem?_eq_getElem (by omega)]
  rfl
theorem wrd_ext {z : List Cl} {G g : Nat} (hz : z.length = 8 * G) (hg : g < G) (l : List Nat) (hl : l.length = 8) (h : ∀ i, i < 8 → (cel z (8 * g + i)).1 = l.getD i 0) : wrd z g = l := by
  apply List.ext_getElem?
  intro i
  by_cases hi : i < 8
  · rw [wrd_get?, if_pos hi, List.getElem?_eq_getElem (by omega), List.getElem?_eq_getElem (by omega)]
    have := h i hi
    rw [cel_at z (by omega), List.getD_eq_getElem?_getD, List.getElem?_eq_getElem (by omega)] at this
    simpa using this
  · rw [List.getElem?_eq_none (by rw [wrd_len hz hg]; omega), List.getElem?_eq_none (by omega)]
theorem wrd_set (z : List Cl) {g i : Nat} (hi : i < 8) (c : Cl) (h : 8 * g + i < z.length) : wrd (z.set (8 * g + i) c) g = (wrd z g).set i c.1 := by
  apply List.ext_getElem?
  intro j
  rw [wrd_get?]
  by_cases hij : i = j
  · subst hij
    rw [if_pos hi, List.getElem?_set_self h, List.getElem?_set_self]
    · rfl
    · unfold wrd; rw [List.length_map, List.length_take, List.length_drop]; omega
  · rw [List.getElem?_set_ne (by omega), List.getElem?_set_ne hij, wrd_get?]
theorem wrd_set_ne (z : List Cl) {g g' i : Nat} (hi : i < 8) (c : Cl) (h : g ≠ g') : wrd (z.set (8 * g + i) c) g' = wrd z g' := by
  apply List.ext_getElem?
  intro j
  rw [wrd_get?, wrd_get?]
  split
  · rw [List.getElem?_set_ne (by omega)]
  · rfl
theorem ents_append (a b : List Cl) : ents (a ++ b) = ents a ++ ents b := by unfold ents; rw [List.filter_append, List.map_append]
theorem dels_append (a b : List Cl) : dels (a ++ b) = dels a + dels b := by unfold dels; rw [List.filter_append, List.length_append]
theorem ents_cons_yes {c : Cl} (h : c.1 < 128) (l : List Cl) : ents (c :: l) = c.2 :: ents l := by unfold ents full; rw [List.filter_cons_of_pos (by simpa using h)]; rfl
theorem ents_cons_no {c : Cl} (h : 128 ≤ c.1) (l : List Cl) : ents (c :: l) = ents l := by unfold ents full; rw [List.filter_cons_of_neg (by simpa using h)]
theorem dels_cons_yes {c : Cl} (h : c.1 = 254) (l : List Cl) : dels (c :: l) = dels l + 1 := by unfold dels gone; rw [List.filter_cons_of_pos (by simpa using h)]; rfl
theorem dels_cons_no {c : Cl} (h : c.1 ≠ 254) (l : List Cl) : dels (c :: l) = dels l := by unfold dels gone; rw [List.filter_cons_of_neg (by simpa using h)]
theorem set_parts (z : List Cl) {q : Nat} (h : q < z.length) (c : Cl) : z.set q c = z.take q ++ c :: z.drop (q + 1) := by
  rw [List.set_eq_take_append_cons_drop, if_pos h]
theorem parts (z : List Cl) {q : Nat} (h : q < z.length) : z = z.take q ++ cel z q :: z.drop (q + 1) := by
  rw [cel_at z h, ← List.drop_eq_getElem_cons h, List.take_append_drop]
theorem mem_ents {z : List Cl} {e : En} : e ∈ ents z ↔ ∃ q, q < z.length ∧ (cel z q).1 < 128 ∧ (cel z q).2 = e := by
  unfold ents
  rw [List.mem_map]
  constructor
  · rintro ⟨c, hc, rfl⟩
    rw [List.mem_filter] at hc
    obtain ⟨q, hq, rfl⟩ := mem_cel hc.1
    exact ⟨q, hq, by simpa [full] using hc.2, rfl⟩
  · rintro ⟨q, hq, h1, rfl⟩
    exact ⟨cel z q, List.mem_filter.2 ⟨cel_mem z hq, by simpa [full] using h1⟩, rfl⟩
theorem ents_len_le (z : List Cl) : (ents z).length ≤ z.length := by unfold ents; rw [List.length_map]; exact List.length_filter_le _ _
/-- Of a slot that is free a full one. -/
theorem ents_lay {z : List Cl} {q : Nat} (h : q < z.length) (hf : 128 ≤ (cel z q).1) (c : Cl) (hc : c.1 < 128) : (ents (z.set q c)).Perm (ents z ++ [c.2]) := by
  conv => rhs; rw [parts z h]
  rw [set_parts z h, ents_append, ents_cons_yes hc, ents_append, ents_cons_no hf]
  refine List.Perm.trans List.perm_middle ?_
  exact (List.perm_append_singleton _ _).symm
/-- Of a full one a free one. -/
theorem ents_take {z : List Cl} {q : Nat} (h : q < z.length) (hf : (cel z q).1 < 128) (c : Cl) (hc : 128 ≤ c.1) : (ents z).Perm ((cel z q).2 :: ents (z.set q c)) := by
  conv => lhs; rw [parts z h]
  rw [set_parts z h, ents_append, ents_cons_yes hf, ents_append, ents_cons_no hc]
  exact List.perm_middle
/-- Of a full one another one. -/
theorem ents_turn {z : List Cl} {q : Nat} (h : q < z.length) (hf : (cel z q).1 < 128) (c : Cl) (hc : c.1 < 128) : ∃ a b, ents z = a ++ (cel z q).2 :: b ∧ ents (z.set q c) = a ++ c.2 :: b := by
  refine ⟨ents (z.take q), ents (z.drop (q + 1)), ?_, ?_⟩
  · conv => lhs; rw [parts z h]
    rw [ents_append, ents_cons_yes hf]
  · rw [set_parts z h, ents_append, ents_cons_yes hc]
theorem dels_set {z : List Cl} {q : Nat} (h : q < z.length) (c : Cl) : dels (z.set q c) + (if (cel z q).1 = 254 then 1 else 0) = dels z + (if c.1 = 254 then 1 else 0) := by
  conv => rhs; rw [parts z h]
  rw [set_parts z h, dels_append, dels_append]
  split
  · split
    · rw [dels_cons_yes (by assumption), dels_cons_yes (by assumption)]
    · rw [dels_cons_no (by assumption), dels_cons_yes (by assumption)]; omega
  · split
    · rw [dels_cons_yes (by assumption), dels_cons_no (by assumption)]; omega
    · rw [dels_cons_no (by assumption), dels_cons_no (by assumption)]
theorem all_len {z : List Cl} (h : ∀ c ∈ z, c.1 < 128 ∨ c.1 = 254) : (ents z).length + dels z = z.length := by
  induction z with
  | nil => rfl
  | cons c z ih =>
    have := ih (fun d hd => h d (by simp [hd]))
    rcases h c (by simp) with h1 | h1
    · rw [ents_cons_yes h1, dels_cons_no (by omega), List.length_cons, List.length_cons]; omega
    · rw [ents_cons_no (by omega), dels_cons_yes h1, List.length_cons]; omega
/-- A key's hash; its seven highest bits; the group that is probed as the j-th. -/
def hsh (x : Nat) (k : ByteArray) : Nat := ofL x (lst k)
def sev (h : Nat) : Nat := h / 144115188075855872
def gAt (G h j : Nat) : Nat := (h / 65536 + j) % G
/-- Has a group an Empty slot? -/
def hasE (z : List Cl) (g : Nat) : Bool := some? (has (wrd z g) 128) 8
def isG (G : Nat) : Prop := G = 1 ∨ G = 2 ∨ G = 4 ∨ G = 8 ∨ G = 16
theorem isG.pos {G : Nat} (h : isG G) : 0 < G := by rcases h with h | h | h | h | h <;> omega
theorem isG.le {G : Nat} (h : isG G) : G ≤ 16 := by rcases h with h | h | h | h | h <;> omega
theorem isG.two {G : Nat} (h : isG G) (hG : G < 16) : isG (2 * G) := by rcases h with h | h | h | h | h <;> unfold isG <;> omega
theorem hsh_lt (x : Nat) (k : ByteArray) : hsh x k < 18446744073709551616 := ofL_lt _ _
theorem sev_lt (x : Nat) (k : ByteArray) : sev (hsh x k) < 128 := by unfold sev; have := hsh_lt x k; omega
theorem gAt_lt {G : Nat} (hG : 0 < G) (h j : Nat) : gAt G h j < G := Nat.mod_lt _ hG
theorem gAt_next {G : Nat} (h j : Nat) : (gAt G h j + 1) % G = gAt G h (j + 1) := by unfold gAt; rw [Nat.mod_add_mod, Nat.add_assoc]
theorem gAt_all {G : Nat} (h : Nat) {g : Nat} (hg : g < G) : ∃ j, j < G ∧ gAt G h j = g := by
  unfold gAt
  generalize h / 65536 = a
  have ha : a % G < G := Nat.mod_lt _ (by omega)
  by_cases hag : a % G ≤ g
  · refine ⟨g - a % G, by omega, ?_⟩
    rw [← Nat.mod_add_mod, show a % G + (g - a % G) = g by omega]
    exact Nat.mod_eq_of_lt hg
  · refine ⟨g + G - a % G, by omega, ?_⟩
    rw [← Nat.mod_add_mod, show a % G + (g + G - a % G) = g + G by omega, Nat.add_mod_right]
    exact Nat.mod_eq_of_lt hg
theorem hasE_iff {z : List Cl} {G g : Nat} (hz : z.length = 8 * G) (hg : g < G) : hasE z g = true ↔ ∃ i, i < 8 ∧ (cel z (8 * g + i)).1 = 128 := by
  unfold hasE some?
  rw [List.any_eq_true]
  constructor
  · rintro ⟨i, hi, h⟩
    rw [List.mem_range] at hi
    exact ⟨i, hi, by have := of_decide_eq_true h; rw [wrd_get hz hg hi] at this; exact this⟩
  · rintro ⟨i, hi, h⟩
    exact ⟨i, List.mem_range.2 hi, decide_eq_true (by rw [wrd_get hz hg hi]; exact h)⟩
/-- What holds of a table of G groups by the seed x. -/
structure Inv (x G : Nat) (z : List Cl) : Prop where
  grp : isG G
  len : z.length = 8 * G
  byt : ∀ q, q < 8 * G → (cel z q).1 < 128 ∨ (cel z q).1 = 128 ∨ (cel z q).1 = 254
  sev : ∀ q, q < 8 * G → (cel z q).1 < 128 → (cel z q).1 = sev (hsh x (cel z q).2.1)
  way : ∀ q, q < 8 * G → (cel z q).1 < 128 → ∃ d, d < G ∧ gAt G (hsh x (cel z q).2.1) d = q / 8 ∧ ∀ j, j < d → hasE z (gAt G (hsh x (cel z q).2.1) j) = false
  nod : ((ents z).map (·.1)).Nodup
  room : (ents z).length + dels z ≤ 7 * G
theorem Inv.byt' {x G : Nat} {z : List Cl} (h : Inv x G z) : ∀ c ∈ z, c.1 < 256 := by
  intro c hc
  obtain ⟨q, hq, rfl⟩ := mem_cel hc
  rcases h.byt q (by rw [← h.len]; exact hq) with h1 | h1 | h1 <;> omega
theorem wrd_ok {z : List Cl} {G g : Nat} (hz : z.length = 8 * G) (hb : ∀ c ∈ z, c.1 < 256) (hg : g < G) : Ok (wrd z g) := by
  refine ⟨wrd_len hz hg, fun b hb' => ?_⟩
  unfold wrd at hb'
  obtain ⟨c, hc, rfl⟩ := List.mem_map.1 hb'
  exact hb c (List.mem_of_mem_drop (List.mem_of_mem_take hc))
theorem Inv.ok {x G : Nat} {z : List Cl} (h : Inv x G z) {g : Nat} (hg : g < G) : Ok (wrd z g) := wrd_ok h.len h.byt' hg
theorem Inv.empty {x G : Nat} {z : List Cl} (h : Inv x G z) : ∃ q, q < 8 * G ∧ (cel z q).1 = 128 := by
  apply Classical.byContradiction
  intro hn
  have h1 : ∀ c ∈ z, c.1 < 128 ∨ c.1 = 254 := by
    intro c hc
    obtain ⟨q, hq, rfl⟩ := mem_cel hc
    rw [h.len] at hq
    rcases h.byt q hq with h1 | h1 | h1
    · exact .inl h1
    · exact absurd ⟨q, hq, h1⟩ hn
    · exact .inr h1
  have h2 := all_len h1
  have h3 := h.room
  have h4 := h.grp.pos
  rw [h.len] at h2
  omega
/-- A key's entry is told by its slot. -/
theorem Inv.val {x G : Nat} {z : List Cl} (h : Inv x G z) {k : ByteArray} {u v : (Option Addr)} (h1 : (k, u) ∈ ents z) (h2 : (k, v) ∈ ents z) : u = v := by
  have hn := h.nod
  generalize ents z = l at hn h1 h2
  induction l with
  | nil => simp at h1
  | cons e l ih =>
    rw [List.map_cons, List.nodup_cons] at hn
    rcases List.mem_cons.1 h1 with e1 | h1
    · rcases List.mem_cons.1 h2 with e2 | h2
      · rw [← e1] at e2; cases e2; rfl
      · exact absurd (List.mem_map.2 ⟨_, h2, by rw [← e1]⟩) hn.1
    · rcases List.mem_cons.1 h2 with e2 | h2
      · exact absurd (List.mem_map.2 ⟨_, h1, by rw [← e2]⟩) hn.1
      · exact ih hn.2 h1 h2
/-- A key that was not met up to the j-th group, which has an Empty slot, is not there. -/
theorem Inv.stop {x G : Nat} {z : List Cl} (h : Inv x G z) {k : ByteArray} {j : Nat} (hno : ∀ i, i ≤ j → ∀ s, s < 8 → (cel z (8 * gAt G (hsh x k) i + s)).1 < 128 → (cel z (8 * gAt G (hsh x k) i + s)).2.1 ≠ k)
    (hj : hasE z (gAt G (hsh x k) j) = true ∨ G ≤ j + 1) : k ∉ (ents z).map (·.1) := by
  intro hk
  obtain ⟨e, he, hek⟩ := List.mem_map.1 hk
  obtain ⟨q, hq, hf, rfl⟩ := mem_ents.1 he
  rw [h.len] at hq
  obtain ⟨d, hd, h1, h2⟩ := h.way q hq hf
  subst hek
  have hd' : d ≤ j := by
    rcases hj with hj | hj
    · apply Classical.byContradiction
      intro hh
      rw [h2 j (by omega)] at hj
      cases hj
    · omega
  have := hno d hd' (q % 8) (Nat.mod_lt _ (by decide))
  rw [h1, show 8 * (q / 8) + q % 8 = q by omega] at this
  exact this hf rfl
/-- A new key is laid into the first slot that is free on its way. -/
theorem Inv.lay {x G : Nat} {z : List Cl} (h : Inv x G z) {k : ByteArray} (v : (Option Addr)) (hk : k ∉ (ents z).map (·.1)) {j i : Nat} (hj : j < G) (hi : i < 8)
    (hf : 128 ≤ (cel z (8 * gAt G (hsh x k) j + i)).1) (hno : ∀ j', j' < j → ∀ s, s < 8 → (cel z (8 * gAt G (hsh x k) j' + s)).1 < 128)
    (hr : (cel z (8 * gAt G (hsh x k) j + i)).1 = 254 ∨ (ents z).length + dels z < 7 * G) :
    Inv x G (z.set (8 * gAt G (hsh x k) j + i) (YtmjeljldmmkcpabGreat.Dk.sev (hsh x k), k, v)) ∧ (ents (z.set (8 * gAt G (hsh x k) j + i) (YtmjeljldmmkcpabGreat.Dk.sev (hsh x k), k, v))).Perm (ents z ++ [(k, v)]) ∧
    dels (z.set (8 * gAt G (hsh x k) j + i) (YtmjeljldmmkcpabGreat.Dk.sev (hsh x k), k, v)) ≤ dels z := by
  have hg := gAt_lt h.grp.pos (hsh x k) j
  obtain ⟨g, eg⟩ : ∃ g, gAt G (hsh x k) j = g := ⟨_, rfl⟩
  rw [eg] at hf hr hg ⊢
  have hq : 8 * g + i < z.length := by rw [h.len]; omega
  have hs := sev_lt x k
  have hp := ents_lay hq hf (YtmjeljldmmkcpabGreat.Dk.sev (hsh x k), k, v) hs
  have hd := dels_set hq (YtmjeljldmmkcpabGreat.Dk.sev (hsh x k), k, v)
  rw [if_neg (show ¬ (YtmjeljldmmkcpabGreat.Dk.sev (hsh x k), k, v).1 = 254 by simp only []; omega)] at hd
  generalize hc : ((YtmjeljldmmkcpabGreat.Dk.sev (hsh x k), k, v) : Cl) = c at hp hd ⊢
  have hc1 : c.1 = YtmjeljldmmkcpabGreat.Dk.sev (hsh x k) := by rw [← hc]
  have hc2 : c.2 = (k, v) := by rw [← hc]
  have hlen : (z.set (8 * g + i) c).length = 8 * G := by rw [List.length_set]; exact h.len
  have hE : ∀ g', g' < G → hasE z g' = false → hasE (z.set (8 * g + i) c) g' = false := by
    intro g' hg' h0
    apply Bool.eq_false_iff.2
    intro h1
    obtain ⟨s, hs', h2⟩ := (hasE_iff hlen hg').1 h1
    by_cases e : 8 * g + i = 8 * g' + s
    · rw [← e, cel_set z hq] at h2
      omega
    · rw [cel_set_ne z e] at h2
      rw [(hasE_iff h.len hg').2 ⟨s, hs', h2⟩] at h0
      cases h0
  refine ⟨⟨h.grp, hlen, ?_, ?_, ?_, ?_, ?_⟩, by rw [← hc2]; exact hp, by omega⟩
  · intro q hq'
    by_cases e : 8 * g + i = q
    · subst e; rw [cel_set z hq]; omega
    · rw [cel_set_ne z e]; exact h.byt q hq'
  · intro q hq'
    by_cases e : 8 * g + i = q
    · subst e; rw [cel_set z hq]; intro _; rw [hc1, hc2]
    · rw [cel_set_ne z e]; exact h.sev q hq'
  · intro q hq'
    by_cases e : 8 * g + i = q
    · subst e
      rw [cel_set z hq]
      intro _
      rw [hc2]
      refine ⟨j, hj, by rw [eg]; show g = (8 * g + i) / 8; omega, fun j' hj' => hE _ (gAt_lt h.grp.pos _ _) ?_⟩
      apply Bool.eq_false_iff.2
      intro h1
      obtain ⟨s, hs', h2⟩ := (hasE_iff h.len (gAt_lt h.grp.pos _ _)).1 h1
      have := hno j' hj' s hs'
      have h3 : (cel z (8 * gAt G (hsh x k) j' + s)).1 = 128 := h2
      omega
    · rw [cel_set_ne z e]
      intro hf'
      obtain ⟨d, hd1, hd2, hd3⟩ := h.way q hq' hf'
      exact ⟨d, hd1, hd2, fun j' hj' => hE _ (gAt_lt h.grp.pos _ _) (hd3 j' hj')⟩
  · have := hp.map (·.1)
    refine this.nodup_iff.2 ?_
    rw [List.map_append, List.nodup_append, hc2]
    refine ⟨h.nod, by simp, ?_⟩
    intro a ha b hb
    rw [List.map_cons, List.map_nil, List.mem_singleton] at hb
    subst hb
    rintro rfl
    exact hk ha
  · have := hp.length_eq
    rw [List.length_append, List.length_singleton] at this
    rcases hr with hr | hr
    · rw [if_pos hr] at hd
      have := h.room
      omega
    · split at hd <;> omega
/-- The mark of a slot whose key is taken away. -/
def mrk (z : List Cl) (g : Nat) : Nat := if hasE z g = true then 128 else 254
theorem mrk_ge (z : List Cl) (g : Nat) : 128 ≤ mrk z g := by unfold mrk; split <;> omega
theorem mrk_lt (z : List Cl) (g : Nat) : mrk z g < 256 := by unfold mrk; split <;> omega
/-- A key that is taken away. -/
theorem Inv.take {x G : Nat} {z : List Cl} (h : Inv x G z) {g i : Nat} (hg : g < G) (hi : i < 8) (hf : (cel z (8 * g + i)).1 < 128) (e : En) :
    Inv x G (z.set (8 * g + i) (mrk z g, e)) ∧ (ents z).Perm ((cel z (8 * g + i)).2 :: ents (z.set (8 * g + i) (mrk z g, e))) := by
  have hq : 8 * g + i < z.length := by rw [h.len]; omega
  have hm := mrk_ge z g
  have hp := ents_take hq hf (mrk z g, e) hm
  have hd := dels_set hq (mrk z g, e)
  rw [if_neg (show ¬ (cel z (8 * g + i)).1 = 254 by omega)] at hd
  have hlen : (z.set (8 * g + i) (mrk z g, e)).length = 8 * G := by rw [List.length_set]; exact h.len
  have hE : ∀ g', g' < G → hasE z g' = false → hasE (z.set (8 * g + i) (mrk z g, e)) g' = false := by
    intro g' hg' h0
    apply Bool.eq_false_iff.2
    intro h1
    obtain ⟨s, hs', h2⟩ := (hasE_iff hlen hg').1 h1
    by_cases ee : 8 * g + i = 8 * g' + s
    · rw [← ee, cel_set z hq] at h2
      have : g' = g := by omega
      subst this
      simp only [mrk, h0, Bool.false_eq_true, if_false] at h2
      omega
    · rw [cel_set_ne z ee] at h2
      rw [(hasE_iff h.len hg').2 ⟨s, hs', h2⟩] at h0
      cases h0
  refine ⟨⟨h.grp, hlen, ?_, ?_, ?_, ?_, ?_⟩, hp⟩
  · intro q hq'
    by_cases e : 8 * g + i = q
    · subst e; rw [cel_set z hq]; simp only [mrk]; split <;> omega
    · rw [cel_set_ne z e]; exact h.byt q hq'
  · intro q hq'
    by_cases e : 8 * g + i = q
    · subst e; rw [cel_set z hq]; intro h1; simp only [] at h1; omega
    · rw [cel_set_ne z e]; exact h.sev q hq'
  · intro q hq'
    by_cases e : 8 * g + i = q
    · subst e; rw [cel_set z hq]; intro h1; simp only [] at h1; omega
    · rw [cel_set_ne z e]
      intro hf'
      obtain ⟨d, hd1, hd2, hd3⟩ := h.way q hq' hf'
      exact ⟨d, hd1, hd2, fun j' hj' => hE _ (gAt_lt h.grp.pos _ _) (hd3 j' hj')⟩
  · have := (hp.map (·.1)).nodup_iff.1 h.nod
    rw [List.map_cons, List.nodup_cons] at this
    exact this.2
  · have := hp.length_eq
    rw [List.length_cons] at this
    have := h.room
    split at hd <;> omega
/-- A key that has something else. -/
theorem Inv.turn {x G : Nat} {z : List Cl} (h : Inv x G z) {g i : Nat} (hg : g < G) (hi : i < 8) (hf : (cel z (8 * g + i)).1 < 128) (v : (Option Addr)) :
    Inv x G (z.set (8 * g + i) ((cel z (8 * g + i)).1, (cel z (8 * g + i)).2.1, v)) ∧ ∃ a b, ents z = a ++ (cel z (8 * g + i)).2 :: b ∧ ents (z.set (8 * g + i) ((cel z (8 * g + i)).1, (cel z (8 * g + i)).2.1, v)) = a ++ ((cel z (8 * g + i)).2.1, v) :: b := by
  have hq : 8 * g + i < z.length := by rw [h.len]; omega
  obtain ⟨a, b, h1, h2⟩ := ents_turn hq hf ((cel z (8 * g + i)).1, (cel z (8 * g + i)).2.1, v) hf
  have hd := dels_set hq ((cel z (8 * g + i)).1, (cel z (8 * g + i)).2.1, v)
  have hlen : (z.set (8 * g + i) ((cel z (8 * g + i)).1, (cel z (8 * g + i)).2.1, v)).length = 8 * G := by rw [List.length_set]; exact h.len
  have hW : ∀ g', wrd (z.set (8 * g + i) ((cel z (8 * g + i)).1, (cel z (8 * g + i)).2.1, v)) g' = wrd z g' := by
    intro g'
    by_cases e : g = g'
    · subst e
      rw [wrd_set z hi _ hq]
      apply List.ext_getElem?
      intro s
      by_cases e : i = s
      · subst e
        rw [List.getElem?_set_self (by rw [wrd_len h.len hg]; exact hi), wrd_get?, if_pos hi, cel_at z hq, List.getElem?_eq_getElem hq]
        rfl
      · rw [List.getElem?_set_ne e]
    · rw [wrd_set_ne z hi _ e]
  have hE : ∀ g', hasE (z.set (8 * g + i) ((cel z (8 * g + i)).1, (cel z (8 * g + i)).2.1, v)) g' = hasE z g' := by
    intro g'; unfold hasE; rw [hW]
  refine ⟨⟨h.grp, hlen, ?_, ?_, ?_, ?_, ?_⟩, a, b, h1, h2⟩
  · intro q hq'
    by_cases e : 8 * g + i = q
    · subst e; rw [cel_set z hq]; exact .inl hf
    · rw [cel_set_ne z e]; exact h.byt q hq'
  · intro q hq'
    by_cases e : 8 * g + i = q
    · subst e; rw [cel_set z hq]; intro _; exact h.sev _ hq' hf
    · rw [cel_set_ne z e]; exact h.sev q hq'
  · intro q hq'
    by_cases e : 8 * g + i = q
    · subst e; rw [cel_set z hq]; intro _
      obtain ⟨d, hd1, hd2, hd3⟩ := h.way _ hq' hf
      exact ⟨d, hd1, hd2, fun j' hj' => by rw [hE]; exact hd3 j' hj'⟩
    · rw [cel_set_ne z e]
      intro hf'
      obtain ⟨d, hd1, hd2, hd3⟩ := h.way q hq' hf'
      exact ⟨d, hd1, hd2, fun j' hj' => by rw [hE]; exact hd3 j' hj'⟩
  · have := h.nod
    rw [h1] at this
    rw [h2]
    simpa using this
  · have := h.room
    rw [h1] at this
    rw [h2]
    simp only [List.length_append, List.length_cons] at this ⊢
    simp only [] at hd
    omega
/-- A table without keys. -/
def news0 (G : Nat) : List Cl := List.replicate (8 * G) noC
theorem cel_news0 (G q : Nat) : cel (news0 G) q = noC := by
  unfold cel news0
  rw [List.getD_eq_getElem?_getD, List.getElem?_replicate]
  split <;> rfl
theorem ents_news0 (G : Nat) : ents (news0 G) = [] := by
  unfold ents news0
  rw [List.filter_replicate, if_neg (by decide)]; rfl
theorem dels_news0 (G : Nat) : dels (news0 G) = 0 := by
  unfold dels news0
  rw [List.filter_replicate, if_neg (by decide)]; rfl
theorem Inv.news (x : Nat) {G : Nat} (hG : isG G) : Inv x G (news0 G) := by
  refine ⟨hG, by simp [news0], ?_, ?_, ?_, ?_, ?_⟩
  · intro q _; rw [cel_news0]; exact .inr (.inl rfl)
  · intro q _ h; rw [cel_news0] at h; simp at h
  · intro q _ h; rw [cel_news0] at h; simp at h
  · rw [ents_news0]; exact List.nodup_nil
  · rw [ents_news0, dels_news0]; simp
/-- The cells of G groups. -/
structure Grid (cs : Array Value) (G : Nat) (z : List Cl) : Prop where
  size : cs.size = 17 * G
  word : ∀ g, g < G → cs[g * 17]? = some (.int .u64 (val (wrd z g) : Nat))
  key : ∀ g i, g < G → i < 8 → cs[g * 17 + 1 + i * 2]? = some (.string (cel z (8 * g + i)).2.1)
  vl : ∀ g i, g < G → i < 8 → cs[g * 17 + 1 + i * 2 + 1]? = some (.pointer (cel z (8 * g + i)).2.2)
/-- A row of G groups in block b. -/
structure Row (w : World) (b G : Nat) (z : List Cl) : Prop where
  ex : ∃ cs, w.heap[b]? = some (.cells cs 193 (0, 0)) ∧ Grid cs G z
theorem Row.lt {w : World} {b G : Nat} {z : List Cl} (h : Row w b G z) : b < w.heap.size := by
  obtain ⟨cs, h1, -⟩ := h.ex
  exact (Array.getElem?_eq_some_iff.1 h1).1
theorem Row.kept {w wn : World} {b G : Nat} {z : List Cl} (h : Row w b G z) (hb : wn.heap[b]? = w.heap[b]?) : Row wn b G z := by
  obtain ⟨cs, h1, h2⟩ := h.ex
  exact ⟨cs, by rw [hb]; exact h1, h2⟩
theorem Row.keep {w wn : World} {b G : Nat} {z : List Cl} (h : Row w b G z) (hb : Below w.heap.size w wn) : Row wn b G z := h.kept (hb.block b h.lt)
theorem Row.word {w : World} {b G : Nat} {z : List Cl} (h : Row w b G z) {g : Nat} (hg : g < G) : w.cell? ⟨b, g * 17, none⟩ = some (.int .u64 (val (wrd z g) : Nat)) := by
  obtain ⟨cs, h1, h2⟩ := h.ex
  simp only [World.cell?, h1]
  exact h2.word g hg
theorem Row.key {w : World} {b G : Nat} {z : List Cl} (h : Row w b G z) {g i : Nat} (hg : g < G) (hi : i < 8) : w.cell? ⟨b, g * 17 + 1 + i * 2, none⟩ = some (.string (cel z (8 * g + i)).2.1) := by
  obtain ⟨cs, h1, h2⟩ := h.ex
  simp only [World.cell?, h1]
  exact h2.key g i hg hi
theorem Row.vl {w : World} {b G : Nat} {z : List Cl} (h : Row w b G z) {g i : Nat} (hg : g < G) (hi : i < 8) : w.cell? ⟨b, g * 17 + 1 + i * 2 + 1, none⟩ = some (.pointer (cel z (8 * g + i)).2.2) := by
  obtain ⟨cs, h1, h2⟩ := h.ex
  simp only [World.cell?, h1]
  exact h2.vl g i hg hi
theorem Row.frozen {w : World} {b G : Nat} {z : List Cl} (h : Row w b G z) (o : Nat) : w.frozen? ⟨b, o, none⟩ = false := by
  obtain ⟨cs, h1, h2⟩ := h.ex
  simp [World.frozen?, h1]
theorem heap_set {w : World} {b o : Nat} {cs : Array Value} {t : TypeId} (h : w.heap[b]? = some (.cells cs t (0, 0))) (v : Value) : (w.setCell ⟨b, o, none⟩ v).heap[b]? = some (.cells (cs.setIfInBounds o v) t (0, 0)) := by
  simp only [World.setCell, Array.getElem?_modify, if_true, h]
  rfl
theorem Grid.put {cs : Array Value} {G : Nat} {z z' : List Cl} (h : Grid cs G z) (o : Nat) (v : Value)
    (h1 : ∀ g, g < G → if o = g * 17 then some v = some (.int .u64 (val (wrd z' g) : Nat)) else wrd z' g = wrd z g)
    (h2 : ∀ g i, g < G → i < 8 → if o = g * 17 + 1 + i * 2 then some v = some (.string (cel z' (8 * g + i)).2.1) else (cel z' (8 * g + i)).2.1 = (cel z (8 * g + i)).2.1)
    (h3 : ∀ g i, g < G → i < 8 → if o = g * 17 + 1 + i * 2 + 1 then some v = some (.pointer (cel z' (8 * g + i)).2.2) else (cel z' (8 * g + i)).2.2 = (cel z (8 * g + i)).2.2) : Grid (cs.setIfInBounds o v) G z' := by
  have hs := h.size
  refine ⟨by simpa using hs, ?_, ?_, ?_⟩
  · intro g hg
    have := h1 g hg
    split at this
    · rename_i e
      subst e
      rw [Array.getElem?_setIfInBounds_self_of_lt (by omega)]
      exact this
    · rw [Array.getElem?_setIfInBounds_ne (by assumption), this]
      exact h.word g hg
  · intro g i hg hi
    have := h2 g i hg hi
    split at this
    · rename_i e
      subst e
      rw [Array.getElem?_setIfInBounds_self_of_lt (by omega)]
      exact this
    · rw [Array.getElem?_setIfInBounds_ne (by assumption), this]
      exact h.key g i hg hi
  · intro g i hg hi
    have := h3 g i hg hi
    split at this
    · rename_i e
      subst e
      rw [Array.getElem?_setIfInBounds_self_of_lt (by omega)]
      exact this
    · rw [Array.getElem?_setIfInBounds_ne (by assumption), this]
      exact h.vl g i hg hi
/-- A slot's byte is set. -/
theorem Row.byte {w : World} {b G : Nat} {z : List Cl} (h : Row w b G z) (hz : z.length = 8 * G) {g i : Nat} (hg : g < G) (hi : i < 8) (c : Nat) :
    Row (w.setCell ⟨b, g * 17, none⟩ (.int .u64 (val ((wrd z g).set i c) : Nat))) b G (z.set (8 * g + i) (c, (cel z (8 * g + i)).2)) := by
  obtain ⟨cs, h1, h2⟩ := h.ex
  have hq : 8 * g + i < z.length := by omega
  have hc : ∀ q, (cel (z.set (8 * g + i) (c, (cel z (8 * g + i)).2)) q).2 = (cel z q).2 := by
    intro q
    by_cases e : 8 * g + i = q
    · subst e; rw [cel_set z hq]
    · rw [cel_set_ne z e]
  refine ⟨_, heap_set h1 _, h2.put _ _ ?_ ?_ ?_⟩
  · intro g' hg'
    split
    · have : g' = g := by omega
      subst this
      rw [wrd_set z hi _ hq]
    · rw [wrd_set_ne z hi _ (by rintro rfl; contradiction)]
  · intro g' i' hg' hi'
    rw [if_neg (by omega), hc]
  · intro g' i' hg' hi'
    rw [if_neg (by omega), hc]
/-- A slot's key is set. -/
theorem Row.setKey {w : World} {b G : Nat} {z : List Cl} (h : Row w b G z) (hz : z.length = 8 * G) {g i : Nat} (hg : g < G) (hi : i < 8) (k : ByteArray) :
    Row (w.setCell ⟨b, g * 17 + 1 + i * 2, none⟩ (.string k)) b G (z.set (8 * g + i) ((cel z (8 * g + i)).1, k, (cel z (8 * g + i)).2.2)) := by
  obtain ⟨cs, h1, h2⟩ := h.ex
  have hq : 8 * g + i < z.length := by omega
  have hw : ∀ g', g' < G → wrd (z.set (8 * g + i) ((cel z (8 * g + i)).1, k, (cel z (8 * g + i)).2.2)) g' = wrd z g' := by
    intro g' hg'
    refine wrd_ext (G := G) (by rw [List.length_set]; exact hz) hg' _ (wrd_len hz hg') (fun s hs => ?_)
    rw [wrd_get hz hg' hs]
    by_cases e : 8 * g + i = 8 * g' + s
    · rw [← e, cel_set z hq]
    · rw [cel_set_ne z e]
  refine ⟨_, heap_set h1 _, h2.put _ _ ?_ ?_ ?_⟩
  · intro g' hg'
    rw [if_neg (by omega), hw g' hg']
  · intro g' i' hg' hi'
    split
    · have : 8 * g' + i' = 8 * g + i := by omega
      rw [this, cel_set z hq]
    · rw [cel_set_ne z (by omega)]
  · intro g' i' hg' hi'
    rw [if_neg (by omega)]
    by_cases e : 8 * g + i = 8 * g' + i'
    · rw [← e, cel_set z hq]
    · rw [cel_set_ne z e]
/-- What a slot has is set. -/
theorem Row.setVal {w : World} {b G : Nat} {z : List Cl} (h : Row w b G z) (hz : z.length = 8 * G) {g i : Nat} (hg : g < G) (hi : i < 8) (v : (Option Addr)) :
    Row (w.setCell ⟨b, g * 17 + 1 + i * 2 + 1, none⟩ (.pointer v)) b G (z.set (8 * g + i) ((cel z (8 * g + i)).1, (cel z (8 * g + i)).2.1, v)) := by
  obtain ⟨cs, h1, h2⟩ := h.ex
  have hq : 8 * g + i < z.length := by omega
  have hw : ∀ g', g' < G → wrd (z.set (8 * g + i) ((cel z (8 * g + i)).1, (cel z (8 * g + i)).2.1, v)) g' = wrd z g' := by
    intro g' hg'
    refine wrd_ext (G := G) (by rw [List.length_set]; exact hz) hg' _ (wrd_len hz hg') (fun s hs => ?_)
    rw [wrd_get hz hg' hs]
    by_cases e : 8 * g + i = 8 * g' + s
    · rw [← e, cel_set z hq]
    · rw [cel_set_ne z e]
  refine ⟨_, heap_set h1 _, h2.put _ _ ?_ ?_ ?_⟩
  · intro g' hg'
    rw [if_neg (by omega), hw g' hg']
  · intro g' i' hg' hi'
    rw [if_neg (by omega)]
    by_cases e : 8 * g + i = 8 * g' + i'
    · rw [← e, cel_set z hq]
    · rw [cel_set_ne z e]
  · intro g' i' hg' hi'
    split
    · have : 8 * g' + i' = 8 * g + i := by omega
      rw [this, cel_set z hq]
    · rw [cel_set_ne z (by omega)]
/-- A whole slot: its byte is there already. -/
theorem Row.slot {w : World} {b G : Nat} {z : List Cl} (h : Row w b G z) (hz : z.length = 8 * G) {g i : Nat} (hg : g < G) (hi : i < 8) (k : ByteArray) (v : (Option Addr)) :
    Row ((w.setCell ⟨b, g * 17 + 1 + i * 2, none⟩ (.string k)).setCell ⟨b, g * 17 + 1 + i * 2 + 1, none⟩ (.pointer v)) b G (z.set (8 * g + i) ((cel z (8 * g + i)).1, k, v)) := by
  have hq : 8 * g + i < z.length := by omega
  have := (h.setKey hz hg hi k).setVal (by rw [List.length_set]; exact hz) hg hi v
  rw [cel_set z hq, List.set_set] at this
  exact this
/-- A table's own block. -/
structure Top (w : World) (p b x G : Nat) : Prop where
  blk : w.heap[p]? = some (.cells #[.int .u64 (x : Nat), .slice (some ⟨b, 0, none⟩) G G] 149 (0, 0))
theorem Top.lt {w : World} {p b x G : Nat} (h : Top w p b x G) : p < w.heap.size := (Array.getElem?_eq_some_iff.1 h.blk).1
theorem Top.kept {w wn : World} {p b x G : Nat} (h : Top w p b x G) (hb : wn.heap[p]? = w.heap[p]?) : Top wn p b x G := ⟨by rw [hb]; exact h.blk⟩
theorem Top.keep {w wn : World} {p b x G : Nat} (h : Top w p b x G) (hb : Below w.heap.size w wn) : Top wn p b x G := h.kept (hb.block p h.lt)
theorem Top.seed {w : World} {p b x G : Nat} (h : Top w p b x G) : w.cell? ⟨p, 0, none⟩ = some (.int .u64 (x : Nat)) := by simp [World.cell?, h.blk]
theorem Top.groups {w : World} {p b x G : Nat} (h : Top w p b x G) : w.cell? ⟨p, 1, none⟩ = some (.slice (some ⟨b, 0, none⟩) G G) := by simp [World.cell?, h.blk]
theorem Top.frozen {w : World} {p b x G : Nat} (h : Top w p b x G) (o : Nat) : w.frozen? ⟨p, o, none⟩ = false := by simp [World.frozen?, h.blk]
theorem Top.set {w : World} {p b x G : Nat} (h : Top w p b x G) (b' G' : Nat) : Top (w.setCell ⟨p, 1, none⟩ (.slice (some ⟨b', 0, none⟩) G' G')) p b' x G' := ⟨by rw [heap_set h.blk]; rfl⟩
theorem Top.ne {w : World} {p b x G b' G' : Nat} {z : List Cl} (h : Top w p b x G) (h' : Row w b' G' z) : p ≠ b' := by
  rintro rfl
  obtain ⟨cs, h1, -⟩ := h'.ex
  have := h.blk
  rw [h1] at this
  simp at this
/-- A table in memory. -/
structure Tab (w : World) (B p b x G : Nat) (z : List Cl) : Prop where
  top : Top w p b x G
  row : Row w b G z
  low : B ≤ p
  lowb : B ≤ b
  inv : Inv x G z
  seed : x < 18446744073709551616
  siz : ∀ e ∈ ents z, e.1.size ≤ maxLen
theorem Tab.keep {w wn : World} {B p b x G : Nat} {z : List Cl} (h : Tab w B p b x G z) (hb : Below w.heap.size w wn) : Tab wn B p b x G z := ⟨h.top.keep hb, h.row.keep hb, h.low, h.lowb, h.inv, h.seed, h.siz⟩
abbrev ptr (p : Nat) : Value := .pointer (some ⟨p, 0, none⟩)
theorem home_any (p b x G h : Nat) (w : World) (hT : Top w p b x G) (hG : isG G) (hh : h < 18446744073709551616) :
    Calls Tryz.prog 181 #[ptr p, .int .u64 h] w fun e w' => e = .returned (.int .i64 (gAt G h 0 : Nat)) ∧ w' = w := by
  have hc := hT.groups
  have hG16 := hG.le
  have hG0 := hG.pos
  have hlt := gAt_lt hG0 h 0
  have e : (h : Int) / 65536 % (G : Int) = (gAt G h 0 : Nat) := by unfold gAt; simp
  generalize gAt G h 0 = g at e hlt ⊢
  clear hT hG
  go_enter Tryz.func181, Tryz.ntmps181
  go_wp2
  go_ret
  exact ⟨rfl, rfl⟩
theorem next_any (p b x G g : Nat) (w : World) (hT : Top w p b x G) (hG : isG G) (hg : g < G) :
    Calls Tryz.prog 185 #[ptr p, .int .i64 g] w fun e w' => e = .returned (.int .i64 ((g + 1) % G : Nat)) ∧ w' = w := by
  have hc := hT.groups
  have hG16 := hG.le
  have hG0 := hG.pos
  have e : ((g : Int) + 1).tmod (G : Int) = ((g + 1) % G : Nat) := by
    rw [show ((g : Int) + 1) = ((g + 1 : Nat) : Int) by omega]
    exact (Int.ofNat_tmod (g + 1) G).symm
  have hlt : (g + 1) % G < G := Nat.mod_lt _ hG0
  generalize (g + 1) % G = q at e hlt ⊢
  clear hT hG
  go_enter Tryz.func185, Tryz.ntmps185
  go_wp2
  go_ret
  exact ⟨rfl, rfl⟩
end Go.Proofs.YtmjeljldmmkcpabGreat.Dk
