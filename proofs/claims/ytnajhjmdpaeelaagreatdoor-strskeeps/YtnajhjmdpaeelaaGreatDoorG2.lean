/- Texts that the others stand on. -/
import Derived.Test.YtnajhjmdpaeelaaGreatDoorProg
import Derived.WalkKit
import Derived.WalkSpells
import Derived.PlainAid
import Derived.Laws.BitsAllLaws
import Derived.Deep.LoopGhost
import Derived.Deep.Cut
import Derived.Deep.RegionWith
import Derived.Deep.CutRange
import Derived.Deep.QuietTactic
import Derived.BigQuiet
import Derived.Elder7
import Derived.Deep.OwnRows
import Derived.Laws.AppendOwnNone
import Derived.Laws.Rows
import Derived.Laws.Tables
import Derived.Laws.IdiomStrings
import Derived.Lib.IndexBytes
namespace Go.Proofs.YtnajhjmdpaeelaaGreatDoor.Dk
open Go.RowKit Go.PlainAid
/-- The number that a row of bytes makes, the first one lowest. -/
def val : List Nat → Nat
  | [] => 0
  | b :: l => b + 256 * val l
/-- A row of bytes. -/
def Byt (l : List Nat) : Prop := ∀ b ∈ l, b < 256
/-- Eight bytes. -/
structure Ok (l : List Nat) : Prop where
  len : l.length = 8
  byt : Byt l
theorem Byt.tail {b : Nat} {l : List Nat} (h : Byt (b :: l)) : Byt l := fun x hx => h x (by simp [hx])
theorem Byt.head {b : Nat} {l : List Nat} (h : Byt (b :: l)) : b < 256 := h b (by simp)
theorem Byt.set {l : List Nat} (h : Byt l) (i : Nat) {b : Nat} (hb : b < 256) : Byt (l.set i b) := by
  intro x hx
  rcases List.mem_or_eq_of_mem_set hx with h1 | rfl
  · exact h x h1
  · exact hb
theorem Byt.get {l : List Nat} (h : Byt l) (i : Nat) : l.getD i 0 < 256 := by
  rw [List.getD_eq_getElem?_getD]
  cases e : l[i]? with
  | none => simp
  | some b => exact h b (List.mem_of_getElem? e)
theorem Ok.set {l : List Nat} (h : Ok l) (i : Nat) {b : Nat} (hb : b < 256) : Ok (l.set i b) := ⟨by simp [h.len], h.byt.set i hb⟩
theorem Ok.get {l : List Nat} (h : Ok l) (i : Nat) : l.getD i 0 < 256 := h.byt.get i
theorem val_lt {l : List Nat} (h : Byt l) : val l < 256 ^ l.length := by
  induction l with
  | nil => simp [val]
  | cons b l ih =>
    have h1 := ih h.tail
    have h2 := h.head
    rw [val, List.length_cons, Nat.pow_succ]
    omega
theorem Ok.lt {l : List Nat} (h : Ok l) : val l < 18446744073709551616 := by
  have := val_lt h.byt
  rw [h.len] at this
  exact this
theorem val_append (p q : List Nat) : val (p ++ q) = val p + 256 ^ p.length * val q := by
  induction p with
  | nil => simp [val]
  | cons b p ih =>
    rw [List.cons_append, val, val, ih, List.length_cons, Nat.pow_succ, Nat.mul_add, Nat.add_assoc, ← Nat.mul_assoc, Nat.mul_comm 256 (256 ^ p.length)]
theorem val_get {l : List Nat} (h : Byt l) : ∀ i, val l / 256 ^ i % 256 = l.getD i 0 := by
  induction l with
  | nil => intro i; simp [val]
  | cons b l ih =>
    intro i
    have h2 := h.head
    cases i with
    | zero => simp [val]; omega
    | succ i =>
      rw [Nat.pow_succ, Nat.mul_comm, ← Nat.div_div_eq_div_mul, show val (b :: l) / 256 = val l by rw [val]; omega, ih h.tail i]
      rfl
theorem val_inj : ∀ {l m : List Nat}, Byt l → Byt m → l.length = m.length → val l = val m → l = m
  | [], [], _, _, _, _ => rfl
  | b :: l, c :: m, hl, hm, hn, hv => by
    have h1 := hl.head
    have h2 := hm.head
    rw [val, val] at hv
    have h3 : b = c := by omega
    have h4 : val l = val m := by omega
    rw [h3, val_inj hl.tail hm.tail (by simpa using hn) h4]
theorem Ok.inj {l m : List Nat} (h : Ok l) (h' : Ok m) (hv : val l = val m) : l = m := val_inj h.byt h'.byt (by rw [h.len, h'.len]) hv
theorem bit_mask (k j : Nat) (hk : k + 8 ≤ 64) : (18446744073709551615 - 255 * 2 ^ k).testBit j = (decide (j < 64) && !(decide (k ≤ j) && decide (j - k < 8))) := by
  have h1 : 255 * 2 ^ k < 2 ^ 64 := by
    have : 2 ^ k ≤ 2 ^ 56 := Nat.pow_le_pow_right (by decide) (by omega)
    omega
  have h2 : 18446744073709551615 - 255 * 2 ^ k = 2 ^ 64 - (255 * 2 ^ k + 1) := by omega
  rw [h2, Nat.testBit_two_pow_sub_succ h1, Nat.testBit_mul_two_pow, show (255 : Nat) = 2 ^ 8 - 1 from rfl, Nat.testBit_two_pow_sub_one]
/-- A byte that is masked out of a number, and another one that is laid there. -/
theorem mask_join (A x C b k : Nat) (hA : A < 2 ^ k) (hx : x < 256) (hb : b < 256) (hk : k + 8 ≤ 64) (hn : A + 2 ^ k * (x + 256 * C) < 2 ^ 64) :
    ((A + 2 ^ k * (x + 256 * C)) &&& (18446744073709551615 - 255 * 2 ^ k)) ||| (b * 2 ^ k) = A + 2 ^ k * (b + 256 * C) := by
  apply Nat.eq_of_testBit_eq
  intro j
  have e : ∀ y, A + 2 ^ k * (y + 256 * C) = 2 ^ k * (2 ^ 8 * C + y) + A := fun y => by rw [Nat.add_comm y, Nat.add_comm A]
  have hx' : x < 2 ^ 8 := hx
  have hb' : b < 2 ^ 8 := hb
  have hbig : 64 ≤ j → (A + 2 ^ k * (x + 256 * C)).testBit j = false := fun h => Nat.testBit_lt_two_pow (Nat.lt_of_lt_of_le hn (Nat.pow_le_pow_right (by decide) h))
  rw [Nat.testBit_or, Nat.testBit_and, bit_mask k j hk, Nat.testBit_mul_two_pow]
  rw [e] at hbig ⊢
  rw [e, Nat.testBit_two_pow_mul_add _ hA, Nat.testBit_two_pow_mul_add _ hA] at *
  rw [Nat.testBit_two_pow_mul_add _ hx', Nat.testBit_two_pow_mul_add _ hb'] at *
  by_cases h1 : j < k
  · have h2 : ¬ k ≤ j := by omega
    have h3 : j < 64 := by omega
    simp [h1, h2, h3]
  · have h2 : k ≤ j := by omega
    by_cases h4 : j - k < 8
    · simp [h1, h2, h4]
    · by_cases h5 : j < 64
      · have h6 : b.testBit (j - k) = false := Nat.testBit_lt_two_pow (Nat.lt_of_lt_of_le hb' (Nat.pow_le_pow_right (by decide) (by omega)))
        simp [h1, h2, h4, h5, h6]
      · have h6 : b.testBit (j - k) = false := Nat.testBit_lt_two_pow (Nat.lt_of_lt_of_le hb' (Nat.pow_le_pow_right (by decide) (by omega)))
        have h7 := hbig (by omega)
        simp only [h1, h4, if_false] at h7
        simp [h1, h2, h4, h5, h6, h7]
theorem val_split {l : List Nat} {i : Nat} (hi : i < l.length) (b : Nat) : val (l.set i b) = val (l.take i) + 2 ^ (8 * i) * (b + 256 * val (l.drop (i + 1))) := by
  rw [List.set_eq_take_append_cons_drop, if_pos hi, val_append, val, List.length_take, Nat.min_eq_left (by omega), show (256 : Nat) = 2 ^ 8 from rfl, ← Nat.pow_mul]
theorem val_set {l : List Nat} (h : Ok l) {i : Nat} (hi : i < 8) {b : Nat} (hb : b < 256) :
    (val l &&& (18446744073709551615 - 255 * 2 ^ (8 * i))) ||| (b * 2 ^ (8 * i)) = val (l.set i b) := by
  have hi' : i < l.length := by rw [h.len]; exact hi
  have h1 : l = l.set i l[i] := by simp
  have h2 := val_split hi' l[i]
  rw [← h1] at h2
  have h3 : val (l.take i) < 2 ^ (8 * i) := by
    have := val_lt (l := l.take i) (fun x hx => h.byt x (List.mem_of_mem_take hx))
    rw [List.length_take, Nat.min_eq_left (by omega), show (256 : Nat) = 2 ^ 8 from rfl, ← Nat.pow_mul] at this
    exact this
  have h4 := h.lt
  rw [h2] at h4
  rw [h2, val_split hi' b]
  exact mask_join _ _ _ _ _ h3 (h.byt _ (List.getElem_mem _)) hb (by omega) h4
theorem below_drewN (w : World) : ∀ n, Below w.heap.size w (w.drewN n)
  | 0 => Below.refl _ _
  | n + 1 => (below_drewN w n).drew
theorem step_below {w w1 w2 : World} (h : Hid (Below w.heap.size w w1)) (hb : Below w1.heap.size w1 w2) : Hid (Below w.heap.size w w2) := h.out.trans (hb.mono h.out.size)
theorem isSlot_yes (i : Int) (w : World) (h0 : 0 ≤ i) (h1 : i < 8) : Calls Tryz.prog 213 #[.int .i64 i] w fun e w' => e = .returned (.bool true) ∧ w' = w := by
  go_enter Tryz.func213, Tryz.ntmps213
  go_wp2
  go_ret
  exact ⟨rfl, rfl⟩
theorem isFree_any (b : Nat) (w : World) (hb : b < 256) : Calls Tryz.prog 217 #[.int .u8 b] w fun e w' => e = .returned (.bool (decide (128 ≤ b))) ∧ w' = w := by
  go_enter Tryz.func217, Tryz.ntmps217
  go_wp2
  go_ret
  exact ⟨by simp; omega, rfl⟩
theorem slot8 {k : Nat} (h : k < 8) : k = 0 ∨ k = 1 ∨ k = 2 ∨ k = 3 ∨ k = 4 ∨ k = 5 ∨ k = 6 ∨ k = 7 := by omega
theorem At_in {l : List Nat} (hl : Ok l) (k : Nat) (hk : k < 8) (w : World) : Calls Tryz.prog 200 #[.int .u64 (val l : Nat), .int .i64 k] w fun e w' => e = .returned (.int .u8 (l.getD k 0 : Nat)) ∧ w' = w := by
  have hv := val_get hl.byt k
  have hlt := hl.lt
  have H := fun w => isSlot_yes k w (by omega) (by omega)
  generalize val l = n at hv hlt ⊢
  generalize l.getD k 0 = z at hv ⊢
  obtain ⟨c, hc⟩ : ∃ c : Int, (z : Int) = c := ⟨_, rfl⟩
  rcases slot8 hk with rfl | rfl | rfl | rfl | rfl | rfl | rfl | rfl
  all_goals
    simp only [Nat.reducePow] at hv
    subst hv
    go_enter Tryz.func200, Tryz.ntmps200
    go_wp2_with fail
    refine (H _).mono ?_
    rintro e w ⟨rfl, rfl⟩
    clear hc
    go_wp2
    go_ret
    exact ⟨by simp <;> omega, rfl⟩
theorem Set_in {l : List Nat} (hl : Ok l) (k b : Nat) (hk : k < 8) (hb : b < 256) (w : World) :
    Calls Tryz.prog 186 #[.int .u64 (val l : Nat), .int .i64 k, .int .u8 b] w fun e w' => e = .returned (.int .u64 (val (l.set k b) : Nat)) ∧ Below w.heap.size w w' := by
  have hv := val_set hl hk hb
  have hlt := hl.lt
  have hz := (hl.set k hb).lt
  have H := fun w => isSlot_yes k w (by omega) (by omega)
  have HB : Hid (∀ q, Below w.heap.size w (w.drewN q)) := fun q => below_drewN w q
  generalize val (l.set k b) = z at hv hz ⊢
  generalize val l = n at hv hlt ⊢
  rcases slot8 hk with rfl | rfl | rfl | rfl | rfl | rfl | rfl | rfl
  · replace hv : (n &&& 18446744073709551360) ||| (b * 1) = z := hv
    have ha : bits .andNot .u64 (n : Int) 255 = ((n &&& 18446744073709551360 : Nat) : Int) := u64_andNot_nat n 255 hlt (by decide)
    have hA : n &&& 18446744073709551360 < 18446744073709551616 := Nat.lt_of_le_of_lt Nat.and_le_left hlt
    generalize n &&& 18446744073709551360 = A at ha hA hv
    have ho : bits .or .u64 (A : Int) ((b : Int) * 1) = (z : Int) := by
      rw [← hv, show ((b : Int) * 1) = ((b * 1 : Nat) : Int) by omega]
      exact u64_or_nat A (b * 1) hA (by omega)
    rw [Int.mul_one] at ho
    clear hv hA
    go_enter Tryz.func186, Tryz.ntmps186
    go_wp2_with fail
    refine (H _).mono ?_
    rintro e w ⟨rfl, rfl⟩
    go_wp2
    go_quiet (fail)
    go_wp2
    go_ret
    exact ⟨rfl, HB.out _⟩
  · replace hv : (n &&& 18446744073709486335) ||| (b * 256) = z := hv
    have ha : bits .andNot .u64 (n : Int) 65280 = ((n &&& 18446744073709486335 : Nat) : Int) := u64_andNot_nat n 65280 hlt (by decide)
    have hA : n &&& 18446744073709486335 < 18446744073709551616 := Nat.lt_of_le_of_lt Nat.and_le_left hlt
    generalize n &&& 18446744073709486335 = A at ha hA hv
    have ho : bits .or .u64 (A : Int) ((b : Int) * 256) = (z : Int) := by
      rw [← hv, show ((b : Int) * 256) = ((b * 256 : Nat) : Int) by omega]
      exact u64_or_nat A (b * 256) hA (by omega)
    clear hv hA
    go_enter Tryz.func186, Tryz.ntmps186
    go_wp2_with fail
    refine (H _).mono ?_
    rintro e w ⟨rfl, rfl⟩
    go_wp2
    go_quiet (fail)
    go_wp2
    go_ret
    exact ⟨rfl, HB.out _⟩
  · replace hv : (n &&& 18446744073692839935) ||| (b * 65536) = z := hv
    have ha : bits .andNot .u64 (n : Int) 16711680 = ((n &&& 18446744073692839935 : Nat) : Int) := u64_andNot_nat n 16711680 hlt (by decide)
    have hA : n &&& 18446744073692839935 < 18446744073709551616 := Nat.lt_of_le_of_lt Nat.and_le_left hlt
    generalize n &&& 18446744073692839935 = A at ha hA hv
    have ho : bits .or .u64 (A : Int) ((b : Int) * 65536) = (z : Int) := by
      rw [← hv, show ((b : Int) * 65536) = ((b * 65536 : Nat) : Int) by omega]
      exact u64_or_nat A (b * 65536) hA (by omega)
    clear hv hA
    go_enter Tryz.func186, Tryz.ntmps186
    go_wp2_with fail
    refine (H _).mono ?_
    rintro e w ⟨rfl, rfl⟩
    go_wp2
    go_quiet (fail)
    go_wp2
    go_ret
    exact ⟨rfl, HB.out _⟩
  · replace hv : (n &&& 18446744069431361535) ||| (b * 16777216) = z := hv
    have ha : bits .andNot .u64 (n : Int) 4278190080 = ((n &&& 18446744069431361535 : Nat) : Int) := u64_andNot_nat n 4278190080 hlt (by decide)
    have hA : n &&& 18446744069431361535 < 18446744073709551616 := Nat.lt_of_le_of_lt Nat.and_le_left hlt
    generalize n &&& 18446744069431361535 = A at ha hA hv
    have ho : bits .or .u64 (A : Int) ((b : Int) * 16777216) = (z : Int) := by
      rw [← hv, show ((b : Int) * 16777216) = ((b * 16777216 : Nat) : Int) by omega]
      exact u64_or_nat A (b * 16777216) hA (by omega)
    clear hv hA
    go_enter Tryz.func186, Tryz.ntmps186
    go_wp2_with fail
    refine (H _).mono ?_
    rintro e w ⟨rfl, rfl⟩
    go_wp2
    go_quiet (fail)
    go_wp2
    go_ret
    exact ⟨rfl, HB.out _⟩
  · replace hv : (n &&& 18446742978492891135) ||| (b * 4294967296) = z := hv
    have ha : bits .andNot .u64 (n : Int) 1095216660480 = ((n &&& 18446742978492891135 : Nat) : Int) := u64_andNot_nat n 1095216660480 hlt (by decide)
    have hA : n &&& 18446742978492891135 < 18446744073709551616 := Nat.lt_of_le_of_lt Nat.and_le_left hlt
    generalize n &&& 18446742978492891135 = A at ha hA hv
    have ho : bits .or .u64 (A : Int) ((b : Int) * 4294967296) = (z : Int) := by
      rw [← hv, show ((b : Int) * 4294967296) = ((b * 4294967296 : Nat) : Int) by omega]
      exact u64_or_nat A (b * 4294967296) hA (by omega)
    clear hv hA
    go_enter Tryz.func186, Tryz.ntmps186
    go_wp2_with fail
    refine (H _).mono ?_
    rintro e w ⟨rfl, rfl⟩
    go_wp2
    go_quiet (fail)
    go_wp2
    go_ret
    exact ⟨rfl, HB.out _⟩
  · replace hv : (n &&& 18446463698244468735) ||| (b * 1099511627776) = z := hv
    have ha : bits .andNot .u64 (n : Int) 280375465082880 = ((n &&& 18446463698244468735 : Nat) : Int) := u64_andNot_nat n 280375465082880 hlt (by decide)
    have hA : n &&& 18446463698244468735 < 18446744073709551616 := Nat.lt_of_le_of_lt Nat.and_le_left hlt
    generalize n &&& 18446463698244468735 = A at ha hA hv
    have ho : bits .or .u64 (A : Int) ((b : Int) * 1099511627776) = (z : Int) := by
      rw [← hv, show ((b : Int) * 1099511627776) = ((b * 1099511627776 : Nat) : Int) by omega]
      exact u64_or_nat A (b * 1099511627776) hA (by omega)
    clear hv hA
    go_enter Tryz.func186, Tryz.ntmps186
    go_wp2_with fail
    refine (H _).mono ?_
    rintro e w ⟨rfl, rfl⟩
    go_wp2
    go_quiet (fail)
    go_wp2
    go_ret
    exact ⟨rfl, HB.out _⟩
  · replace hv : (n &&& 18374967954648334335) ||| (b * 281474976710656) = z := hv
    have ha : bits .andNot .u64 (n : Int) 71776119061217280 = ((n &&& 18374967954648334335 : Nat) : Int) := u64_andNot_nat n 71776119061217280 hlt (by decide)
    have hA : n &&& 18374967954648334335 < 18446744073709551616 := Nat.lt_of_le_of_lt Nat.and_le_left hlt
    generalize n &&& 18374967954648334335 = A at ha hA hv
    have ho : bits .or .u64 (A : Int) ((b : Int) * 281474976710656) = (z : Int) := by
      rw [← hv, show ((b : Int) * 281474976710656) = ((b * 281474976710656 : Nat) : Int) by omega]
      exact u64_or_nat A (b * 281474976710656) hA (by omega)
    clear hv hA
    go_enter Tryz.func186, Tryz.ntmps186
    go_wp2_with fail
    refine (H _).mono ?_
    rintro e w ⟨rfl, rfl⟩
    go_wp2
    go_quiet (fail)
    go_wp2
    go_ret
    exact ⟨rfl, HB.out _⟩
  · replace hv : (n &&& 72057594037927935) ||| (b * 72057594037927936) = z := hv
    have ha : bits .andNot .u64 (n : Int) 18374686479671623680 = ((n &&& 72057594037927935 : Nat) : Int) := u64_andNot_nat n 18374686479671623680 hlt (by decide)
    have hA : n &&& 72057594037927935 < 18446744073709551616 := Nat.lt_of_le_of_lt Nat.and_le_left hlt
    generalize n &&& 72057594037927935 = A at ha hA hv
    have ho : bits .or .u64 (A : Int) ((b : Int) * 72057594037927936) = (z : Int) := by
      rw [← hv, show ((b : Int) * 72057594037927936) = ((b * 72057594037927936 : Nat) : Int) by omega]
      exact u64_or_nat A (b * 72057594037927936) hA (by omega)
    clear hv hA
    go_enter Tryz.func186, Tryz.ntmps186
    go_wp2_with fail
    refine (H _).mono ?_
    rintro e w ⟨rfl, rfl⟩
    go_wp2
    go_quiet (fail)
    go_wp2
    go_ret
    exact ⟨rfl, HB.out _⟩
theorem add_flat (b off j : Nat) : (⟨b, off, none⟩ : Addr).add j = ⟨b, off + j, none⟩ := by simp only [Addr.add]; split <;> simp_all
theorem alloc_below (w : World) (o : Obj) : Below w.heap.size w (w.alloc o) := (Below.refl _ _).alloc (Nat.le_refl _) o
/-- A slice that reads the numbers ls. -/
structure RdI (w : World) (a : Option Addr) (n : Nat) (ls : List Nat) : Prop where
  len : ls.length = n
  max : n ≤ maxLen
  cell : ∀ j, j < n → ∃ b off, a = some ⟨b, off, none⟩ ∧ w.cell? ⟨b, off + j, none⟩ = some (.int .i64 (ls.getD j 0 : Nat))
theorem RdI.keep {w wn : World} {a : Option Addr} {n : Nat} {ls : List Nat} (h : RdI w a n ls) (hb : Below w.heap.size w wn) : RdI wn a n ls :=
  ⟨h.len, h.max, fun j hj => by
    obtain ⟨b, off, e, hc⟩ := h.cell j hj
    exact ⟨b, off, e, by rw [hb.cell (p := ⟨b, off + j, none⟩) (World.block_lt_of_cell? _ _ hc)]; exact hc⟩⟩
/-- The numbers as cells. -/
def icells (ls : List Nat) : List Value := ls.map fun (b : Nat) => Value.int .i64 (b : Int)
theorem icells_append (l r : List Nat) : icells (l ++ r) = icells l ++ icells r := List.map_append ..
/-- A row of numbers of the call's own. -/
def OwnI (w : World) (B : Nat) (a : Option Addr) (n cap : Nat) (ls : List Nat) : Prop := w.ownsRow B 3 1 (.slice a n cap) n (icells ls)
theorem OwnI.nil (w : World) (B : Nat) : OwnI w B none 0 0 [] := World.ownsRow_nil w B 3 1
theorem OwnI.len {w : World} {B : Nat} {a : Option Addr} {n cap : Nat} {ls : List Nat} (h : OwnI w B a n cap ls) : ls.length = n := by
  have := h.1; simpa [icells] using this
theorem OwnI.keep {w wn : World} {B : Nat} {a : Option Addr} {n cap : Nat} {l : List Nat} (h : OwnI w B a n cap l) (hb : Below w.heap.size w wn) : OwnI wn B a n cap l := by
  refine ⟨h.1, ?_⟩
  rcases h.2 with h2 | ⟨g, c, cur, h1, h3, h4, h5⟩
  · exact .inl h2
  · refine .inr ⟨g, c, cur, h1, h3, ?_, h5⟩
    rw [hb.block g (Array.getElem?_eq_some_iff.1 h4).1]; exact h4
theorem OwnI.kept {w wn : World} {B : Nat} {a : Option Addr} {n cap : Nat} {l : List Nat} {row : Option Nat} (h : OwnI w B a n cap l) (hg : w.grownBy wn row) (hne : ∀ g, a = some ⟨g, 0, none⟩ → row ≠ some g) : OwnI wn B a n cap l := by
  refine ⟨h.1, ?_⟩
  rcases h.2 with h2 | ⟨g, c, cur, h1, h3, h4, h5⟩
  · exact .inl h2
  · refine .inr ⟨g, c, cur, h1, h3, ?_, h5⟩
    cases h1
    rw [hg.block g (Array.getElem?_eq_some_iff.1 h4).1 (fun e => hne g rfl e.symm)]; exact h4
theorem OwnI.rd {w : World} {B : Nat} {a : Option Addr} {n cap : Nat} {ls : List Nat} (h : OwnI w B a n cap ls) : RdI w a n ls := by
  have hl := h.len
  rcases h.2 with ⟨h2, h3⟩ | ⟨g, c, cur, h1, h3, h4, h5, h6, h7, h8⟩
  · cases h2
    exact RdI.mk hl (by rw [h3]; decide) (fun j hj => absurd hj (by omega))
  · cases h1
    refine RdI.mk hl (Nat.le_trans h5 h6) (fun j hj => ⟨g, 0, rfl, ?_⟩)
    have := h.cells (g := g) rfl j (.int .i64 (ls.getD j 0 : Nat)) (by
      simp only [icells, List.getElem?_map, List.getD_eq_getElem?_getD]
      rw [List.getElem?_eq_getElem (by omega)]; rfl)
    rw [add_flat] at this
    rw [Nat.zero_add] at this ⊢
    exact this
theorem Tryz.info3 : (Tryz.prog.info? 3).map (fun i => (i.zero, i.size, i.bytes)) = some (some (.int .i64 0), 1, 8) := by kernel_rfl
/-- Where a row is behind an append: where it was, or in new memory. -/
def Went (w : World) (a a2 : Option Addr) : Prop := a2 = a ∨ ∃ b, a2 = some ⟨b, 0, none⟩ ∧ w.heap.size ≤ b
/-- append(l, x) at rows of numbers. -/
theorem run_append_int (w : World) (B : Nat) (a : Option Addr) (n cap : Nat) (ls : List Nat) (hown : OwnI w B a n cap ls) (g t : Nat) (hr : w.cell? ⟨g, 0, none⟩ = some (.int .i64 (t : Nat))) (hb : n + 1 ≤ 1000000) (hB : B ≤ w.heap.size) (ty : TypeId) :
    ∃ a2 c2 w2, (Builtin.append_ #[295, 295] ty #[.slice a n cap, .slice (some ⟨g, 0, none⟩) 1 1]).run Tryz.prog w = .ok (.slice a2 (n + 1) c2) w2 ∧ OwnI w2 B a2 (n + 1) c2 (ls ++ [t]) ∧ w.grownBy w2 (a.map (·.block)) ∧ Went w a a2 := by
  obtain ⟨i0, hi, hz0, hz1, hz2⟩ := info_parts Tryz.info3
  have hblk : (Value.slice a n cap).ownBlock = a.map (·.block) := by cases a <;> rfl
  have hnews : ∀ j u, (icells [t])[j]? = some u → w.cell? ((⟨g, 0, none⟩ : Addr).add j) = some u := by
    intro j u hu
    cases j with
    | zero => rw [add_flat, hr]; exact hu
    | succ j => simp [icells] at hu
  have gen : ∀ C, OwnI w C a n cap ls → C ≤ w.heap.size → ∃ a2 c2 w2, (Builtin.append_ #[295, 295] ty #[.slice a n cap, .slice (some ⟨g, 0, none⟩) 1 1]).run Tryz.prog w = .ok (.slice a2 (n + 1) c2) w2 ∧ OwnI w2 C a2 (n + 1) c2 (ls ++ [t]) ∧ w.grownBy w2 (a.map (·.block)) := by
    intro C hC hCs
    obtain ⟨v', w', h1, h2, h3, -⟩ := run_append_own (P := Tryz.prog) w C 295 ty 3 i0 (.int .i64 0) 1 8 Tryz.underlying295 hi hz0 hz1 hz2 rfl (by decide) (.slice a n cap) n (icells ls) hC ⟨g, 0, none⟩ 1 1 (icells [t]) rfl hnews (by simp [icells, Value.oneCell']) (by unfold maxLen; omega) (by omega) hCs
    rw [← icells_append] at h2
    rw [hblk] at h3
    rcases h2.2 with ⟨rfl, h4⟩ | ⟨g2, c, cur, rfl, h4⟩
    · omega
    · exact ⟨_, _, w', h1, h2, h3⟩
  obtain ⟨a2, c2, w2, h1, h2, h3⟩ := gen B hown hB
  refine ⟨a2, c2, w2, h1, h2, h3, ?_⟩
  rcases hown.2 with ⟨e, h0⟩ | ⟨g0, c, cur, e, h4, h5, h6, h7, h8, h9⟩
  · cases e
    have hnil : ls = [] := List.length_eq_zero_iff.1 hown.len
    subst hnil
    obtain ⟨a3, c3, w3, k1, k2, -⟩ := gen w.heap.size (OwnI.nil w _) (Nat.le_refl _)
    rw [h1] at k1
    cases k1
    rcases k2.2 with ⟨e, _⟩ | ⟨b, c, cur, e, hb, _⟩
    · cases e
    · cases e
      exact .inr ⟨b, rfl, hb⟩
  · cases e
    by_cases hroom : n + 1 ≤ cap
    · have hrun := run_append_room (P := Tryz.prog) w 295 ty 3 i0 Tryz.underlying295 hi g0 n cap cur h5 ⟨g, 0, none⟩ 1 1 (icells [t]) (by rw [hz1]; rfl) hnews (by simp [icells, Value.oneCell']) hroom (by rw [hz1]; simp [icells]; omega)
      rw [h1] at hrun
      cases hrun
      exact .inl rfl
    · have hrun := run_append_grow (P := Tryz.prog) w 295 ty 3 i0 (.int .i64 0) Tryz.underlying295 hi hz0 ⟨g0, 0, none⟩ n cap (icells ls) (by rw [hz1]; exact hown.1) (hown.cells (g := g0) rfl) ⟨g, 0, none⟩ 1 1 (icells [t]) (by rw [hz1]; rfl) hnews (by omega) (by omega) (growslice_fits (by omega) (by rw [hz2]; omega))
      rw [h1] at hrun
      cases hrun
      exact .inr ⟨_, rfl, Nat.le_refl _⟩
theorem append_int {w : World} {ops : Array Oper} {rest : List Oper} {o : Oper} {ac : Act} {Q : Exit → Act → World → Prop} (hgd : o.guard = none) (s x : Operand) (ho : o.op = .call { callee := .builtin .append, args := #[s, x], argTypes := #[295, 295] })
    (B : Nat) {a : Option Addr} {n cap : Nat} {ls : List Nat} (hs : ac.eval s = .slice a n cap) (hown : OwnI w B a n cap ls)
    {g t : Nat} (hx : ac.eval x = .slice (some ⟨g, 0, none⟩) 1 1) (hr : w.cell? ⟨g, 0, none⟩ = some (.int .i64 (t : Nat))) (hb : n + 1 ≤ 1000000) (hB : B ≤ w.heap.size)
    (h : ∀ a2 n2 c2 w2, n2 = n + 1 → Hid (OwnI w2 B a2 n2 c2 (ls ++ [t])) → Hid (w.grownBy w2 (a.map (·.block))) → Hid (Went w a a2) → wpList Tryz.prog ops Q rest (ac.put o.dst (.slice a2 n2 c2)) w2) : wpList Tryz.prog ops Q (o :: rest) ac w := by
  obtain ⟨a2, c2, w2, h1, h2, h3, h4⟩ := run_append_int w B a n cap ls hown g t hr hb hB o.type
  refine wpList_plain hgd fun K hK => ?_
  unfold Oper.wp
  simp [execOp, ho, resolve, invoke, builtin, hs, hx, h1, Result.andThen]
  exact hK _ _ (h a2 _ c2 w2 rfl h2 h3 h4)
theorem OwnI.below {w w2 : World} {B : Nat} {a : Option Addr} {n cap : Nat} {ls : List Nat} (h : OwnI w B a n cap ls) (hg : w.grownBy w2 (a.map (·.block))) (hB : B ≤ w.heap.size) : Below B w w2 := by
  have hblk : (Value.slice a n cap).ownBlock = a.map (·.block) := by cases a <;> rfl
  rw [← hblk] at hg
  exact (Below.refl B w).grown hg hB (fun k hk => (h.lt k hk).1)
/-- The slots below k of which p is true, rising. -/
def slots (p : Nat → Bool) (k : Nat) : List Nat := (List.range k).filter p
theorem slots_yes {p : Nat → Bool} {k : Nat} (h : p k = true) : slots p (k + 1) = slots p k ++ [k] := by
  unfold slots; rw [List.range_succ, List.filter_append]; simp [h]
theorem slots_no {p : Nat → Bool} {k : Nat} (h : p k = false) : slots p (k + 1) = slots p k := by
  unfold slots; rw [List.range_succ, List.filter_append]; simp [h]
theorem slots_len (p : Nat → Bool) (k : Nat) : (slots p k).length ≤ k := by
  unfold slots; have := List.length_filter_le p (List.range k); simpa using this
/-- Is p true of a slot below k? -/
def some? (p : Nat → Bool) (k : Nat) : Bool := (List.range k).any p
theorem some_step (p : Nat → Bool) (k : Nat) : some? p (k + 1) = (some? p k || p k) := by
  unfold some?; rw [List.range_succ, List.any_append]; simp
theorem some_mono {p : Nat → Bool} {k m : Nat} (h : some? p k = true) (hkm : k ≤ m) : some? p m = true := by
  unfold some? at *
  rw [List.any_eq_true] at *
  obtain ⟨x, hx, hp⟩ := h
  exact ⟨x, by simp at *; omega, hp⟩
/-- Which slots have the byte c; which are free; which are full. -/
def has (l : List Nat) (c k : Nat) : Bool := decide (l.getD k 0 = c)
def fre (l : List Nat) (k : Nat) : Bool := decide (128 ≤ l.getD k 0)
def ful (l : List Nat) (k : Nat) : Bool := !fre l k
/-- A byte that is cleaned. -/
def cl (b : Nat) : Nat := if b = 254 then 128 else b
/-- All Empty. -/
abbrev new8 : List Nat := [128, 128, 128, 128, 128, 128, 128, 128]
def news (k : Nat) : List Nat := List.replicate k 128 ++ List.replicate (8 - k) 0
theorem news_ok {k : Nat} (hk : k ≤ 8) : Ok (news k) := by
  refine ⟨by simp [news]; omega, fun b hb => ?_⟩
  unfold news at hb
  rcases List.mem_append.1 hb with hb | hb <;> rw [List.eq_of_mem_replicate hb] <;> decide
theorem news_set {k : Nat} (hk : k < 8) : (news k).set k 128 = news (k + 1) := by
  rcases slot8 hk with rfl | rfl | rfl | rfl | rfl | rfl | rfl | rfl <;> rfl
theorem New_any (w : World) : Calls Tryz.prog 141 #[] w fun e w' => e = .returned (.int .u64 (val new8 : Nat)) ∧ Below w.heap.size w w' := by
  have HB : Hid (Below w.heap.size w w) := Below.refl _ _
  have HS := fun (k : Nat) (hk : k < 8) w => Set_in (news_ok (Nat.le_of_lt hk)) k 128 hk (by decide) w
  have HE : Hid (val (news 8) = val new8) := rfl
  have HZ : Hid (val (news 0) = 0) := rfl
  go_enter Tryz.func141, Tryz.ntmps141
  go_wp2
  go_loopg [1, 2, 3] 8 (fun q nv iv jv wr => ∃ k : Nat, k + q = 8 ∧ jv = .int .i64 k ∧ nv = .int .u64 (val (news k) : Nat) ∧ Hid (Below w.heap.size w wr))
  case atStart => exact ⟨0, by omega, rfl, by rw [HZ.out]; rfl, HB⟩
  case round =>
    clear HB
    obtain ⟨k, hk, rfl, rfl, HB⟩ := hrel
    by_cases h8 : k < 8
    · have HSk := HS k h8
      rw [news_set h8] at HSk
      clear HS
      have hkz : (k : Int) < 8 := by omega
      generalize val (news k) = n at HSk ⊢
      obtain ⟨m, hm⟩ : ∃ m, val (news (k + 1)) = m := ⟨_, rfl⟩
      have HM : Hid (val (news (k + 1)) = m) := hm
      rw [hm] at HSk
      clear hm
      go_wp2_with fail
      refine (HSk _).mono ?_
      rintro e w1 ⟨rfl, hb⟩
      have H1 := step_below HB hb
      clear hb
      go_wp2
      go_roundg (gk - 1)
      case measure => omega
      case rel => exact ⟨k + 1, by omega, by go_num, by rw [HM.out], H1⟩
    · obtain rfl : k = 8 := by omega
      rw [HE.out]
      go_wp2
      go_ret
      exact ⟨rfl, HB.out⟩
theorem HasEmpty_any {l : List Nat} (hl : Ok l) (w : World) : Calls Tryz.prog 196 #[.int .u64 (val l : Nat)] w fun e w' => e = .returned (.bool (some? (has l 128) 8)) ∧ w' = w := by
  have HA := fun (k : Nat) (hk : k < 8) w => At_in hl k hk w
  have HG : Hid (∀ k, l.getD k 0 < 256) := hl.get
  generalize val l = n at HA ⊢
  go_enter Tryz.func196, Tryz.ntmps196
  go_wp2
  go_loopg [3, 4] 8 (fun q iv jv wr => w = wr ∧ ∃ k : Nat, k + q = 8 ∧ jv = .int .i64 k ∧ Hid (some? (has l 128) k = false))
  case atStart => exact ⟨rfl, 0, by omega, rfl, rfl⟩
  case round =>
    obtain ⟨rfl, k, hk, rfl, HF⟩ := hrel
    by_cases h8 : k < 8
    · have HAk := HA k h8
      have HST := some_step (has l 128) k
      rw [HF.out, Bool.false_or] at HST
      have HST : Hid (some? (has l 128) (k + 1) = has l 128 k) := HST
      have HH : Hid (has l 128 k = decide (l.getD k 0 = 128)) := rfl
      have hlt := HG.out k
      have hkz : (k : Int) < 8 := by omega
      clear HA
      generalize l.getD k 0 = b at HAk HH hlt
      by_cases hb : b = 128
      · have HT : Hid (some? (has l 128) 8 = true) := some_mono (k := k + 1) (by rw [HST.out, HH.out]; exact decide_eq_true hb) (by omega)
        subst hb
        go_wp2_with fail
        refine (HAk _).mono ?_
        rintro e w ⟨rfl, rfl⟩
        go_wp2
        go_ret
        exact ⟨by rw [HT.out]; rfl, rfl⟩
      · have HT : Hid (some? (has l 128) (k + 1) = false) := by show _ = _; rw [HST.out, HH.out]; exact decide_eq_false hb
        have hbz : ((b : Int) == 128) = false := by simp; omega
        go_wp2_with fail
        refine (HAk _).mono ?_
        rintro e w ⟨rfl, rfl⟩
        go_wp2
        go_roundg (gk - 1)
        case measure => omega
        case rel => exact ⟨rfl, k + 1, by omega, by go_num, HT⟩
    · obtain rfl : k = 8 := by omega
      go_wp2
      go_ret
      exact ⟨by rw [HF.out]; rfl, rfl⟩
theorem Count_any {l : List Nat} (hl : Ok l) (w : World) : Calls Tryz.prog 198 #[.int .u64 (val l : Nat)] w fun e w' => e = .returned (.int .i64 ((slots (ful l) 8).length : Nat)) ∧ w' = w := by
  have HA := fun (k : Nat) (hk : k < 8) w => At_in hl k hk w
  have HG : Hid (∀ k, l.getD k 0 < 256) := hl.get
  generalize val l = n at HA ⊢
  go_enter Tryz.func198, Tryz.ntmps198
  go_wp2
  go_loopg [3, 4, 5] 8 (fun q nv iv jv wr => w = wr ∧ ∃ k : Nat, k + q = 8 ∧ jv = .int .i64 k ∧ nv = .int .i64 ((slots (ful l) k).length : Nat))
  case atStart => exact ⟨rfl, 0, by omega, rfl, rfl⟩
  case round =>
    obtain ⟨rfl, k, hk, rfl, rfl⟩ := hrel
    by_cases h8 : k < 8
    · have HAk := HA k h8
      have HH : Hid (ful l k = !decide (128 ≤ l.getD k 0)) := rfl
      have hlt := HG.out k
      have HFr := fun w => isFree_any (l.getD k 0) w hlt
      have hkz : (k : Int) < 8 := by omega
      have hsl := slots_len (ful l) k
      clear HA
      generalize l.getD k 0 = b at HAk HH hlt HFr
      by_cases hb : 128 ≤ b
      · rw [decide_eq_true hb] at HFr HH
        have HT : Hid (slots (ful l) (k + 1) = slots (ful l) k) := slots_no HH.out
        generalize slots (ful l) k = s at HT hsl ⊢
        go_wp2_with fail
        refine (HAk _).mono ?_
        rintro e w ⟨rfl, rfl⟩
        go_wp2_with fail
        refine (HFr _).mono ?_
        rintro e w ⟨rfl, rfl⟩
        go_wp2
        go_roundg (gk - 1)
        case measure => omega
        case rel => exact ⟨rfl, k + 1, by omega, by go_num, by rw [HT.out]⟩
      · rw [decide_eq_false hb] at HFr HH
        have HT : Hid (slots (ful l) (k + 1) = slots (ful l) k ++ [k]) := slots_yes HH.out
        generalize slots (ful l) k = s at HT hsl ⊢
        go_wp2_with fail
        refine (HAk _).mono ?_
        rintro e w ⟨rfl, rfl⟩
        go_wp2_with fail
        refine (HFr _).mono ?_
        rintro e w ⟨rfl, rfl⟩
        go_wp2
        go_roundg (gk - 1)
        case measure => omega
        case rel => exact ⟨rfl, k + 1, by omega, by go_num, by rw [HT.out]; simp⟩
    · obtain rfl : k = 8 := by omega
      go_wp2
      go_ret
      exact ⟨rfl, rfl⟩
/-- What a call answers that makes a row of numbers. -/
def Makes (w : World) (ls : List Nat) (e : Ending) (w' : World) : Prop := Below w.heap.size w w' ∧ ∃ a n c, e = .returned (.slice a n c) ∧ OwnI w' w.heap.size a n c ls
set_option maxHeartbeats 2000000 in
theorem Free_any {l : List Nat} (hl : Ok l) (w : World) : Calls Tryz.prog 218 #[.int .u64 (val l : Nat)] w fun e w' => Makes w (slots (fre l) 8) e w' := by
  have HA := fun (k : Nat) (hk : k < 8) w => At_in hl k hk w
  have HG : Hid (∀ k, l.getD k 0 < 256) := hl.get
  have HB : Hid (Below w.heap.size w w) := Below.refl _ _
  generalize val l = n at HA ⊢
  go_enter Tryz.func218, Tryz.ntmps218
  go_wp2
  go_loopg [3, 4, 5] 8 (fun q sv iv jv wr => ∃ (k : Nat) (a : Option Addr) (m c : Nat), k + q = 8 ∧ jv = .int .i64 k ∧ sv = .slice a m c ∧ m ≤ k ∧ Hid (OwnI wr w.heap.size a m c (slots (fre l) k)) ∧ Hid (Below w.heap.size w wr))
  case atStart => exact ⟨0, none, 0, 0, by omega, rfl, rfl, Nat.le_refl _, OwnI.nil _ _, HB⟩
  case round =>
    clear HB
    obtain ⟨k, a, m, c, hk, rfl, rfl, hm, HO, HB⟩ := hrel
    by_cases h8 : k < 8
    · have HAk := HA k h8
      have HH : Hid (fre l k = decide (128 ≤ l.getD k 0)) := rfl
      have hlt := HG.out k
      have HFr := fun w => isFree_any (l.getD k 0) w hlt
      have hkz : (k : Int) < 8 := by omega
      have hsz := HB.out.size
      clear HA
      generalize l.getD k 0 = b at HAk HH hlt HFr
      by_cases hb : 128 ≤ b
      · rw [decide_eq_true hb] at HFr HH
        have HT : Hid (slots (fre l) (k + 1) = slots (fre l) k ++ [k]) := slots_yes HH.out
        generalize slots (fre l) k = s at HT HO
        go_wp2_with fail
        refine (HAk _).mono ?_
        rintro e wr ⟨rfl, rfl⟩
        go_wp2_with fail
        refine (HFr _).mono ?_
        rintro e wr ⟨rfl, rfl⟩
        go_wp2_with (at_builtin; refine append_int rfl (.tmp 12) (.tmp 14) rfl w.heap.size rfl (HO.out.keep (alloc_below wr _)) rfl (by simp; rfl) (by omega) (Nat.le_trans hsz (alloc_below wr _).size) ?_; intro a3 n3 c3 w3 hn3 HO3 HG3 HW3; have HB3 : Hid (Below w.heap.size w w3) := (HB.out.trans ((alloc_below wr _).mono hsz)).trans ((HO.out.keep (alloc_below wr _)).below HG3.out (Nat.le_trans hsz (alloc_below wr _).size)))
        go_roundg (gk - 1)
        case measure => omega
        case rel => exact ⟨k + 1, _, _, _, by omega, by go_num, rfl, by omega, by rw [HT.out, ← hn3]; exact HO3, HB3⟩
      · rw [decide_eq_false hb] at HFr HH
        have HT : Hid (slots (fre l) (k + 1) = slots (fre l) k) := slots_no HH.out
        generalize slots (fre l) k = s at HT HO
        go_wp2_with fail
        refine (HAk _).mono ?_
        rintro e wr ⟨rfl, rfl⟩
        go_wp2_with fail
        refine (HFr _).mono ?_
        rintro e wr ⟨rfl, rfl⟩
        go_wp2
        go_roundg (gk - 1)
        case measure => omega
        case rel => exact ⟨k + 1, _, _, _, by omega, by go_num, rfl, by omega, by rw [HT.out]; exact HO, HB⟩
    · obtain rfl : k = 8 := by omega
      go_wp2
      go_ret
      exact ⟨HB.out, _, _, _, rfl, HO.out⟩
set_option maxHeartbeats 2000000 in
theorem Match_any {l : List Nat} (hl : Ok l) (x : Nat) (hx : x < 256) (w : World) : Calls Tryz.prog 194 #[.int .u64 (val l : Nat), .int .u8 x] w fun e w' => Makes w (slots (has l x) 8) e w' := by
  have HA := fun (k : Nat) (hk : k < 8) w => At_in hl k hk w
  have HG : Hid (∀ k, l.getD k 0 < 256) := hl.get
  have HB : Hid (Below w.heap.size w w) := Below.refl _ _
  generalize val l = n at HA ⊢
  go_enter Tryz.func194, Tryz.ntmps194
  go_wp2
  go_loopg [5, 6, 7] 8 (fun q sv iv jv wr => ∃ (k : Nat) (a : Option Addr) (m c : Nat), k + q = 8 ∧ jv = .int .i64 k ∧ sv = .slice a m c ∧ m ≤ k ∧ Hid (OwnI wr w.heap.size a m c (slots (has l x) k)) ∧ Hid (Below w.heap.size w wr))
  case atStart => exact ⟨0, none, 0, 0, by omega, rfl, rfl, Nat.le_refl _, OwnI.nil _ _, HB⟩
  case round =>
    clear HB
    obtain ⟨k, a, m, c, hk, rfl, rfl, hm, HO, HB⟩ := hrel
    by_cases h8 : k < 8
    · have HAk := HA k h8
      have HH : Hid (has l x k = decide (l.getD k 0 = x)) := rfl
      have hlt := HG.out k
      have hkz : (k : Int) < 8 := by omega
      have hsz := HB.out.size
      clear HA
      generalize l.getD k 0 = b at HAk HH hlt
      by_cases hb : b = x
      · rw [decide_eq_true hb] at HH
        subst hb
        have HT : Hid (slots (has l b) (k + 1) = slots (has l b) k ++ [k]) := slots_yes HH.out
        generalize slots (has l b) k = s at HT HO
        go_wp2_with fail
        refine (HAk _).mono ?_
        rintro e wr ⟨rfl, rfl⟩
        go_wp2_with (at_builtin; refine append_int rfl (.tmp 15) (.tmp 17) rfl w.heap.size rfl (HO.out.keep (alloc_below wr _)) rfl (by simp; rfl) (by omega) (Nat.le_trans hsz (alloc_below wr _).size) ?_; intro a3 n3 c3 w3 hn3 HO3 HG3 HW3; have HB3 : Hid (Below w.heap.size w w3) := (HB.out.trans ((alloc_below wr _).mono hsz)).trans ((HO.out.keep (alloc_below wr _)).below HG3.out (Nat.le_trans hsz (alloc_below wr _).size)))
        go_roundg (gk - 1)
        case measure => omega
        case rel => exact ⟨k + 1, _, _, _, by omega, by go_num, rfl, by omega, by rw [HT.out, ← hn3]; exact HO3, HB3⟩
      · rw [decide_eq_false hb] at HH
        have HT : Hid (slots (has l x) (k + 1) = slots (has l x) k) := slots_no HH.out
        generalize slots (has l x) k = s at HT HO
        have hbz : ((b : Int) == (x : Int)) = false := by simp; omega
        go_wp2_with fail
        refine (HAk _).mono ?_
        rintro e wr ⟨rfl, rfl⟩
        go_wp2
        go_roundg (gk - 1)
        case measure => omega
        case rel => exact ⟨k + 1, _, _, _, by omega, by go_num, rfl, by omega, by rw [HT.out]; exact HO, HB⟩
    · obtain rfl : k = 8 := by omega
      go_wp2
      go_ret
      exact ⟨HB.out, _, _, _, rfl, HO.out⟩
/-- A text's bytes. -/
abbrev lst (s : ByteArray) : List UInt8 := s.data.toList
theorem drop_at (s : ByteArray) (k : Nat) (h : k < s.size) : (lst s).drop k = s[k] :: (lst s).drop (k + 1) := by
  rw [List.drop_eq_getElem_cons (by simpa using h)]
  rfl
/-- A hash, one byte on. -/
def stp (h : Nat) (b : UInt8) : Nat := (h ^^^ b.toNat) * 1099511628211 % 18446744073709551616
/-- The middle of a hash's end. -/
def mid (h : Nat) : Nat := (h ^^^ h / 4294967296) * 11400714819323198485 % 18446744073709551616
/-- A hash's end. -/
def fin (h : Nat) : Nat := mid h ^^^ mid h / 536870912
/-- The hash of a row of bytes by a seed. -/
def ofL (x : Nat) (l : List UInt8) : Nat := fin (l.foldl stp (14695981039346656037 ^^^ x))
/-- The lowest bits of a number, at most sixteen. -/
def lowN (h : Nat) (b : Int) : Nat := h % 2 ^ (min b.toNat 16)
theorem stp_lt (h : Nat) (b : UInt8) : stp h b < 18446744073709551616 := Nat.mod_lt _ (by decide)
theorem mid_lt (h : Nat) : mid h < 18446744073709551616 := Nat.mod_lt _ (by decide)
theorem xor_lt {a b : Nat} (ha : a < 18446744073709551616) (hb : b < 18446744073709551616) : a ^^^ b < 18446744073709551616 := Nat.xor_lt_two_pow (n := 64) ha hb
theorem fin_lt (h : Nat) : fin h < 18446744073709551616 := xor_lt (mid_lt h) (by have := mid_lt h; omega)
theorem ofL_lt (x : Nat) (l : List UInt8) : ofL x l < 18446744073709551616 := fin_lt _
theorem wrap_mul (a b : Nat) : IntKind.u64.wrap ((a : Int) * (b : Int)) = ((a * b % 18446744073709551616 : Nat) : Int) := by
  simp [IntKind.wrap, IntKind.signed, IntKind.bits]
theorem Seven_any (h : Int) (w : World) (h0 : 0 ≤ h) (h1 : h < 18446744073709551616) :
    Calls Tryz.prog 195 #[.int .u64 h] w fun e w' => e = .returned (.int .u8 (h / 144115188075855872)) ∧ w' = w := by
  go_enter Tryz.func195, Tryz.ntmps195
  go_wp2
  go_ret
  exact ⟨rfl, rfl⟩
theorem Of_any (x : Nat) (s : ByteArray) (w : World) (hs : s.size ≤ maxLen) (hx : x < 18446744073709551616) :
    Calls Tryz.prog 122 #[.int .u64 x, .string s] w fun e w' => e = .returned (.int .u64 (ofL x (lst s) : Nat)) ∧ w' = w := by
  unfold maxLen at hs
  have hb := u64_xor_nat 14695981039346656037 x (by decide) hx
  replace hb : bits .xor .u64 14695981039346656037 (x : Int) = ((14695981039346656037 ^^^ x : Nat) : Int) := hb
  have hlt : 14695981039346656037 ^^^ x < 18446744073709551616 := xor_lt (by decide) hx
  obtain ⟨o, HO⟩ : ∃ o, Hid ((lst s).foldl stp (14695981039346656037 ^^^ x) = o) := ⟨_, rfl⟩
  have HF : Hid (ofL x (lst s) = fin o) := by show _ = _; rw [← HO.out]; rfl
  generalize 14695981039346656037 ^^^ x = h0 at hb hlt HO
  go_enter Tryz.func122, Tryz.ntmps122
  go_wp2
  go_loopg [5, 11] s.size (fun g hv i wr => w = wr ∧ ∃ k n : Nat, k + g = s.size ∧ i = .int .i64 k ∧ hv = .int .u64 n ∧ n < 18446744073709551616 ∧ Hid (((lst s).drop k).foldl stp n = o))
  case atStart => exact ⟨rfl, 0, h0, by omega, rfl, rfl, hlt, HO⟩
  case round =>
    obtain ⟨rfl, k, n, hk, rfl, rfl, hn, H⟩ := hrel
    have HK : Hid (k + gk = s.size) := hk
    clear hk HO hb hlt
    by_cases hlt : k < s.size
    · have HD : Hid ((lst s).drop k = s[k] :: (lst s).drop (k + 1)) := drop_at s k hlt
      have HN : Hid (((lst s).drop (k + 1)).foldl stp (stp n s[k]) = o) := by
        have := H.out
        rw [HD.out] at this
        exact this
      have hc : s[k].toNat < 18446744073709551616 := by have := s[k].toNat_lt; omega
      have hxr := u64_xor_nat n s[k].toNat hn hc
      have hX := xor_lt hn hc
      have hq : IntKind.u64.wrap (((n ^^^ s[k].toNat : Nat) : Int) * 1099511628211) = (stp n s[k] : Nat) := wrap_mul _ 1099511628211
      have hl := stp_lt n s[k]
      generalize stp n s[k] = q at HN hq hl
      generalize n ^^^ s[k].toNat = X at hxr hX hq
      go_wp2
      go_roundg (gk - 1)
      case measure => have := HK.out; omega
      case rel => exact ⟨rfl, k + 1, q, by have := HK.out; omega, by go_num, rfl, hl, HN⟩
    · have HE : Hid (n = o) := by
        have := H.out
        rw [List.drop_eq_nil_of_le (by simp; omega)] at this
        exact this
      have HR : Hid (fin n = mid n ^^^ mid n / 536870912) := rfl
      have hx1 : bits .xor .u64 (n : Int) ((n : Int) / 4294967296) = ((n ^^^ n / 4294967296 : Nat) : Int) := u64_xor_nat n (n / 4294967296) hn (by omega)
      have hX := xor_lt hn (b := n / 4294967296) (by omega)
      have hm : IntKind.u64.wrap (((n ^^^ n / 4294967296 : Nat) : Int) * 11400714819323198485) = (mid n : Nat) := wrap_mul _ 11400714819323198485
      have hl := mid_lt n
      generalize mid n = m at hm hl HR
      generalize n ^^^ n / 4294967296 = X at hx1 hX hm
      have hx2 : bits .xor .u64 (m : Int) ((m : Int) / 536870912) = ((m ^^^ m / 536870912 : Nat) : Int) := u64_xor_nat m (m / 536870912) hl (by omega)
      generalize m ^^^ m / 536870912 = z at hx2 HR
      go_wp2
      go_ret
      exact ⟨by rw [HF.out, ← HE.out, HR.out]; rfl, rfl⟩
end Go.Proofs.YtnajhjmdpaeelaaGreatDoor.Dk
