/- Texts that the others stand on. -/
import Derived.Test.YtikimcbalkhooaaGreatDoorProg
import Derived.WalkKit
import Derived.WalkSpells
import Derived.PlainAid
import Derived.Laws.BitsAllLaws
import Derived.Deep.LoopGhost
import Derived.Deep.Cut
import Derived.Deep.RegionWith
import Derived.Deep.CutRange
import Derived.Deep.QuietTactic
import Derived.BigQuiet
import Derived.Elder7
import Derived.Deep.OwnRows
import Derived.Laws.AppendOwnNone
import Derived.Laws.Rows
import Derived.Laws.Tables
import Derived.Laws.IdiomStrings
import Derived.Lib.IndexBytes
import Derived.Deep.RegionHeld3
import Derived.Maps.AppendAt
import Derived.Laws.Runes
import Derived.Deep.RegionLaw
import Derived.Laws.CopyOwn
import Derived.Lib.Overlaps
import Derived.Lib.SliceRun
import Derived.Lib.AppendZerosOnto
namespace Go.Proofs.YtikimcbalkhooaaGreatDoor.Dk
open Go.RowKit Go.PlainAid
/-- The number that a row of bytes makes, the first one lowest. -/
def val : List Nat → Nat
  | [] => 0
  | b :: l => b + 256 * val l
/-- A row of bytes. -/
def Byt (l : List Nat) : Prop := ∀ b ∈ l, b < 256
/-- Eight bytes. -/
structure Ok (l : List Nat) : Prop where
  len : l.length = 8
  byt : Byt l
theorem Byt.tail {b : Nat} {l : List Nat} (h : Byt (b :: l)) : Byt l := fun x hx => h x (by simp [hx])
theorem Byt.head {b : Nat} {l : List Nat} (h : Byt (b :: l)) : b < 256 := h b (by simp)
theorem Byt.set {l : List Nat} (h : Byt l) (i : Nat) {b : Nat} (hb : b < 256) : Byt (l.set i b) := by
  intro x hx
  rcases List.mem_or_eq_of_mem_set hx with h1 | rfl
  · exact h x h1
  · exact hb
theorem Byt.get {l : List Nat} (h : Byt l) (i : Nat) : l.getD i 0 < 256 := by
  rw [List.getD_eq_getElem?_getD]
  cases e : l[i]? with
  | none => simp
  | some b => exact h b (List.mem_of_getElem? e)
theorem Ok.set {l : List Nat} (h : Ok l) (i : Nat) {b : Nat} (hb : b < 256) : Ok (l.set i b) := ⟨by simp [h.len], h.byt.set i hb⟩
theorem Ok.get {l : List Nat} (h : Ok l) (i : Nat) : l.getD i 0 < 256 := h.byt.get i
theorem val_lt {l : List Nat} (h : Byt l) : val l < 256 ^ l.length := by
  induction l with
  | nil => simp [val]
  | cons b l ih =>
    have h1 := ih h.tail
    have h2 := h.head
    rw [val, List.length_cons, Nat.pow_succ]
    omega
theorem Ok.lt {l : List Nat} (h : Ok l) : val l < 18446744073709551616 := by
  have := val_lt h.byt
  rw [h.len] at this
  exact this
theorem val_append (p q : List Nat) : val (p ++ q) = val p + 256 ^ p.length * val q := by
  induction p with
  | nil => simp [val]
  | cons b p ih =>
    rw [List.cons_append, val, val, ih, List.length_cons, Nat.pow_succ, Nat.mul_add, Nat.add_assoc, ← Nat.mul_assoc, Nat.mul_comm 256 (256 ^ p.length)]
theorem val_get {l : List Nat} (h : Byt l) : ∀ i, val l / 256 ^ i % 256 = l.getD i 0 := by
  induction l with
  | nil => intro i; simp [val]
  | cons b l ih =>
    intro i
    have h2 := h.head
    cases i with
    | zero => simp [val]; omega
    | succ i =>
      rw [Nat.pow_succ, Nat.mul_comm, ← Nat.div_div_eq_div_mul, show val (b :: l) / 256 = val l by rw [val]; omega, ih h.tail i]
      rfl
theorem val_inj : ∀ {l m : List Nat}, Byt l → Byt m → l.length = m.length → val l = val m → l = m
  | [], [], _, _, _, _ => rfl
  | b :: l, c :: m, hl, hm, hn, hv => by
    have h1 := hl.head
    have h2 := hm.head
    rw [val, val] at hv
    have h3 : b = c := by omega
    have h4 : val l = val m := by omega
    rw [h3, val_inj hl.tail hm.tail (by simpa using hn) h4]
theorem Ok.inj {l m : List Nat} (h : Ok l) (h' : Ok m) (hv : val l = val m) : l = m := val_inj h.byt h'.byt (by rw [h.len, h'.len]) hv
theorem bit_mask (k j : Nat) (hk : k + 8 ≤ 64) : (18446744073709551615 - 255 * 2 ^ k).testBit j = (decide (j < 64) && !(decide (k ≤ j) && decide (j - k < 8))) := by
  have h1 : 255 * 2 ^ k < 2 ^ 64 := by
    have : 2 ^ k ≤ 2 ^ 56 := Nat.pow_le_pow_right (by decide) (by omega)
    omega
  have h2 : 18446744073709551615 - 255 * 2 ^ k = 2 ^ 64 - (255 * 2 ^ k + 1) := by omega
  rw [h2, Nat.testBit_two_pow_sub_succ h1, Nat.testBit_mul_two_pow, show (255 : Nat) = 2 ^ 8 - 1 from rfl, Nat.testBit_two_pow_sub_one]
/-- A byte that is masked out of a number, and another one that is laid there. -/
theorem mask_join (A x C b k : Nat) (hA : A < 2 ^ k) (hx : x < 256) (hb : b < 256) (hk : k + 8 ≤ 64) (hn : A + 2 ^ k * (x + 256 * C) < 2 ^ 64) :
    ((A + 2 ^ k * (x + 256 * C)) &&& (18446744073709551615 - 255 * 2 ^ k)) ||| (b * 2 ^ k) = A + 2 ^ k * (b + 256 * C) := by
  apply Nat.eq_of_testBit_eq
  intro j
  have e : ∀ y, A + 2 ^ k * (y + 256 * C) = 2 ^ k * (2 ^ 8 * C + y) + A := fun y => by rw [Nat.add_comm y, Nat.add_comm A]
  have hx' : x < 2 ^ 8 := hx
  have hb' : b < 2 ^ 8 := hb
  have hbig : 64 ≤ j → (A + 2 ^ k * (x + 256 * C)).testBit j = false := fun h => Nat.testBit_lt_two_pow (Nat.lt_of_lt_of_le hn (Nat.pow_le_pow_right (by decide) h))
  rw [Nat.testBit_or, Nat.testBit_and, bit_mask k j hk, Nat.testBit_mul_two_pow]
  rw [e] at hbig ⊢
  rw [e, Nat.testBit_two_pow_mul_add _ hA, Nat.testBit_two_pow_mul_add _ hA] at *
  rw [Nat.testBit_two_pow_mul_add _ hx', Nat.testBit_two_pow_mul_add _ hb'] at *
  by_cases h1 : j < k
  · have h2 : ¬ k ≤ j := by omega
    have h3 : j < 64 := by omega
    simp [h1, h2, h3]
  · have h2 : k ≤ j := by omega
    by_cases h4 : j - k < 8
    · simp [h1, h2, h4]
    · by_cases h5 : j < 64
      · have h6 : b.testBit (j - k) = false := Nat.testBit_lt_two_pow (Nat.lt_of_lt_of_le hb' (Nat.pow_le_pow_right (by decide) (by omega)))
        simp [h1, h2, h4, h5, h6]
      · have h6 : b.testBit (j - k) = false := Nat.testBit_lt_two_pow (Nat.lt_of_lt_of_le hb' (Nat.pow_le_pow_right (by decide) (by omega)))
        have h7 := hbig (by omega)
        simp only [h1, h4, if_false] at h7
        simp [h1, h2, h4, h5, h6, h7]
theorem val_split {l : List Nat} {i : Nat} (hi : i < l.length) (b : Nat) : val (l.set i b) = val (l.take i) + 2 ^ (8 * i) * (b + 256 * val (l.drop (i + 1))) := by
  rw [List.set_eq_take_append_cons_drop, if_pos hi, val_append, val, List.length_take, Nat.min_eq_left (by omega), show (256 : Nat) = 2 ^ 8 from rfl, ← Nat.pow_mul]
theorem val_set {l : List Nat} (h : Ok l) {i : Nat} (hi : i < 8) {b : Nat} (hb : b < 256) :
    (val l &&& (18446744073709551615 - 255 * 2 ^ (8 * i))) ||| (b * 2 ^ (8 * i)) = val (l.set i b) := by
  have hi' : i < l.length := by rw [h.len]; exact hi
  have h1 : l = l.set i l[i] := by simp
  have h2 := val_split hi' l[i]
  rw [← h1] at h2
  have h3 : val (l.take i) < 2 ^ (8 * i) := by
    have := val_lt (l := l.take i) (fun x hx => h.byt x (List.mem_of_mem_take hx))
    rw [List.length_take, Nat.min_eq_left (by omega), show (256 : Nat) = 2 ^ 8 from rfl, ← Nat.pow_mul] at this
    exact this
  have h4 := h.lt
  rw [h2] at h4
  rw [h2, val_split hi' b]
  exact mask_join _ _ _ _ _ h3 (h.byt _ (List.getElem_mem _)) hb (by omega) h4
theorem below_drewN (w : World) : ∀ n, Below w.heap.size w (w.drewN n)
  | 0 => Below.refl _ _
  | n + 1 => (below_drewN w n).drew
theorem step_below {w w1 w2 : World} (h : Hid (Below w.heap.size w w1)) (hb : Below w1.heap.size w1 w2) : Hid (Below w.heap.size w w2) := h.out.trans (hb.mono h.out.size)
theorem isSlot_yes (i : Int) (w : World) (h0 : 0 ≤ i) (h1 : i < 8) : Calls Tryz.prog 224 #[.int .i64 i] w fun e w' => e = .returned (.bool true) ∧ w' = w := by
  go_enter Tryz.func224, Tryz.ntmps224
  go_wp2
  go_ret
  exact ⟨rfl, rfl⟩
theorem isFree_any (b : Nat) (w : World) (hb : b < 256) : Calls Tryz.prog 222 #[.int .u8 b] w fun e w' => e = .returned (.bool (decide (128 ≤ b))) ∧ w' = w := by
  go_enter Tryz.func222, Tryz.ntmps222
  go_wp2
  go_ret
  exact ⟨by simp; omega, rfl⟩
theorem slot8 {k : Nat} (h : k < 8) : k = 0 ∨ k = 1 ∨ k = 2 ∨ k = 3 ∨ k = 4 ∨ k = 5 ∨ k = 6 ∨ k = 7 := by omega
theorem At_in {l : List Nat} (hl : Ok l) (k : Nat) (hk : k < 8) (w : World) : Calls Tryz.prog 178 #[.int .u64 (val l : Nat), .int .i64 k] w fun e w' => e = .returned (.int .u8 (l.getD k 0 : Nat)) ∧ w' = w := by
  have hv := val_get hl.byt k
  have hlt := hl.lt
  have H := fun w => isSlot_yes k w (by omega) (by omega)
  generalize val l = n at hv hlt ⊢
  generalize l.getD k 0 = z at hv ⊢
  obtain ⟨c, hc⟩ : ∃ c : Int, (z : Int) = c := ⟨_, rfl⟩
  rcases slot8 hk with rfl | rfl | rfl | rfl | rfl | rfl | rfl | rfl
  all_goals
    simp only [Nat.reducePow] at hv
    subst hv
    go_enter Tryz.func178, Tryz.ntmps178
    go_wp2_with fail
    refine (H _).mono ?_
    rintro e w ⟨rfl, rfl⟩
    clear hc
    go_wp2
    go_ret
    exact ⟨by simp <;> omega, rfl⟩
theorem Set_in {l : List Nat} (hl : Ok l) (k b : Nat) (hk : k < 8) (hb : b < 256) (w : World) :
    Calls Tryz.prog 225 #[.int .u64 (val l : Nat), .int .i64 k, .int .u8 b] w fun e w' => e = .returned (.int .u64 (val (l.set k b) : Nat)) ∧ Below w.heap.size w w' := by
  have hv := val_set hl hk hb
  have hlt := hl.lt
  have hz := (hl.set k hb).lt
  have H := fun w => isSlot_yes k w (by omega) (by omega)
  have HB : Hid (∀ q, Below w.heap.size w (w.drewN q)) := fun q => below_drewN w q
  generalize val (l.set k b) = z at hv hz ⊢
  generalize val l = n at hv hlt ⊢
  rcases slot8 hk with rfl | rfl | rfl | rfl | rfl | rfl | rfl | rfl
  · replace hv : (n &&& 18446744073709551360) ||| (b * 1) = z := hv
    have ha : bits .andNot .u64 (n : Int) 255 = ((n &&& 18446744073709551360 : Nat) : Int) := u64_andNot_nat n 255 hlt (by decide)
    have hA : n &&& 18446744073709551360 < 18446744073709551616 := Nat.lt_of_le_of_lt Nat.and_le_left hlt
    generalize n &&& 18446744073709551360 = A at ha hA hv
    have ho : bits .or .u64 (A : Int) ((b : Int) * 1) = (z : Int) := by
      rw [← hv, show ((b : Int) * 1) = ((b * 1 : Nat) : Int) by omega]
      exact u64_or_nat A (b * 1) hA (by omega)
    rw [Int.mul_one] at ho
    clear hv hA
    go_enter Tryz.func225, Tryz.ntmps225
    go_wp2_with fail
    refine (H _).mono ?_
    rintro e w ⟨rfl, rfl⟩
    go_wp2
    go_quiet (fail)
    go_wp2
    go_ret
    exact ⟨rfl, HB.out _⟩
  · replace hv : (n &&& 18446744073709486335) ||| (b * 256) = z := hv
    have ha : bits .andNot .u64 (n : Int) 65280 = ((n &&& 18446744073709486335 : Nat) : Int) := u64_andNot_nat n 65280 hlt (by decide)
    have hA : n &&& 18446744073709486335 < 18446744073709551616 := Nat.lt_of_le_of_lt Nat.and_le_left hlt
    generalize n &&& 18446744073709486335 = A at ha hA hv
    have ho : bits .or .u64 (A : Int) ((b : Int) * 256) = (z : Int) := by
      rw [← hv, show ((b : Int) * 256) = ((b * 256 : Nat) : Int) by omega]
      exact u64_or_nat A (b * 256) hA (by omega)
    clear hv hA
    go_enter Tryz.func225, Tryz.ntmps225
    go_wp2_with fail
    refine (H _).mono ?_
    rintro e w ⟨rfl, rfl⟩
    go_wp2
    go_quiet (fail)
    go_wp2
    go_ret
    exact ⟨rfl, HB.out _⟩
  · replace hv : (n &&& 18446744073692839935) ||| (b * 65536) = z := hv
    have ha : bits .andNot .u64 (n : Int) 16711680 = ((n &&& 18446744073692839935 : Nat) : Int) := u64_andNot_nat n 16711680 hlt (by decide)
    have hA : n &&& 18446744073692839935 < 18446744073709551616 := Nat.lt_of_le_of_lt Nat.and_le_left hlt
    generalize n &&& 18446744073692839935 = A at ha hA hv
    have ho : bits .or .u64 (A : Int) ((b : Int) * 65536) = (z : Int) := by
      rw [← hv, show ((b : Int) * 65536) = ((b * 65536 : Nat) : Int) by omega]
      exact u64_or_nat A (b * 65536) hA (by omega)
    clear hv hA
    go_enter Tryz.func225, Tryz.ntmps225
    go_wp2_with fail
    refine (H _).mono ?_
    rintro e w ⟨rfl, rfl⟩
    go_wp2
    go_quiet (fail)
    go_wp2
    go_ret
    exact ⟨rfl, HB.out _⟩
  · replace hv : (n &&& 18446744069431361535) ||| (b * 16777216) = z := hv
    have ha : bits .andNot .u64 (n : Int) 4278190080 = ((n &&& 18446744069431361535 : Nat) : Int) := u64_andNot_nat n 4278190080 hlt (by decide)
    have hA : n &&& 18446744069431361535 < 18446744073709551616 := Nat.lt_of_le_of_lt Nat.and_le_left hlt
    generalize n &&& 18446744069431361535 = A at ha hA hv
    have ho : bits .or .u64 (A : Int) ((b : Int) * 16777216) = (z : Int) := by
      rw [← hv, show ((b : Int) * 16777216) = ((b * 16777216 : Nat) : Int) by omega]
      exact u64_or_nat A (b * 16777216) hA (by omega)
    clear hv hA
    go_enter Tryz.func225, Tryz.ntmps225
    go_wp2_with fail
    refine (H _).mono ?_
    rintro e w ⟨rfl, rfl⟩
    go_wp2
    go_quiet (fail)
    go_wp2
    go_ret
    exact ⟨rfl, HB.out _⟩
  · replace hv : (n &&& 18446742978492891135) ||| (b * 4294967296) = z := hv
    have ha : bits .andNot .u64 (n : Int) 1095216660480 = ((n &&& 18446742978492891135 : Nat) : Int) := u64_andNot_nat n 1095216660480 hlt (by decide)
    have hA : n &&& 18446742978492891135 < 18446744073709551616 := Nat.lt_of_le_of_lt Nat.and_le_left hlt
    generalize n &&& 18446742978492891135 = A at ha hA hv
    have ho : bits .or .u64 (A : Int) ((b : Int) * 4294967296) = (z : Int) := by
      rw [← hv, show ((b : Int) * 4294967296) = ((b * 4294967296 : Nat) : Int) by omega]
      exact u64_or_nat A (b * 4294967296) hA (by omega)
    clear hv hA
    go_enter Tryz.func225, Tryz.ntmps225
    go_wp2_with fail
    refine (H _).mono ?_
    rintro e w ⟨rfl, rfl⟩
    go_wp2
    go_quiet (fail)
    go_wp2
    go_ret
    exact ⟨rfl, HB.out _⟩
  · replace hv : (n &&& 18446463698244468735) ||| (b * 1099511627776) = z := hv
    have ha : bits .andNot .u64 (n : Int) 280375465082880 = ((n &&& 18446463698244468735 : Nat) : Int) := u64_andNot_nat n 280375465082880 hlt (by decide)
    have hA : n &&& 18446463698244468735 < 18446744073709551616 := Nat.lt_of_le_of_lt Nat.and_le_left hlt
    generalize n &&& 18446463698244468735 = A at ha hA hv
    have ho : bits .or .u64 (A : Int) ((b : Int) * 1099511627776) = (z : Int) := by
      rw [← hv, show ((b : Int) * 1099511627776) = ((b * 1099511627776 : Nat) : Int) by omega]
      exact u64_or_nat A (b * 1099511627776) hA (by omega)
    clear hv hA
    go_enter Tryz.func225, Tryz.ntmps225
    go_wp2_with fail
    refine (H _).mono ?_
    rintro e w ⟨rfl, rfl⟩
    go_wp2
    go_quiet (fail)
    go_wp2
    go_ret
    exact ⟨rfl, HB.out _⟩
  · replace hv : (n &&& 18374967954648334335) ||| (b * 281474976710656) = z := hv
    have ha : bits .andNot .u64 (n : Int) 71776119061217280 = ((n &&& 18374967954648334335 : Nat) : Int) := u64_andNot_nat n 71776119061217280 hlt (by decide)
    have hA : n &&& 18374967954648334335 < 18446744073709551616 := Nat.lt_of_le_of_lt Nat.and_le_left hlt
    generalize n &&& 18374967954648334335 = A at ha hA hv
    have ho : bits .or .u64 (A : Int) ((b : Int) * 281474976710656) = (z : Int) := by
      rw [← hv, show ((b : Int) * 281474976710656) = ((b * 281474976710656 : Nat) : Int) by omega]
      exact u64_or_nat A (b * 281474976710656) hA (by omega)
    clear hv hA
    go_enter Tryz.func225, Tryz.ntmps225
    go_wp2_with fail
    refine (H _).mono ?_
    rintro e w ⟨rfl, rfl⟩
    go_wp2
    go_quiet (fail)
    go_wp2
    go_ret
    exact ⟨rfl, HB.out _⟩
  · replace hv : (n &&& 72057594037927935) ||| (b * 72057594037927936) = z := hv
    have ha : bits .andNot .u64 (n : Int) 18374686479671623680 = ((n &&& 72057594037927935 : Nat) : Int) := u64_andNot_nat n 18374686479671623680 hlt (by decide)
    have hA : n &&& 72057594037927935 < 18446744073709551616 := Nat.lt_of_le_of_lt Nat.and_le_left hlt
    generalize n &&& 72057594037927935 = A at ha hA hv
    have ho : bits .or .u64 (A : Int) ((b : Int) * 72057594037927936) = (z : Int) := by
      rw [← hv, show ((b : Int) * 72057594037927936) = ((b * 72057594037927936 : Nat) : Int) by omega]
      exact u64_or_nat A (b * 72057594037927936) hA (by omega)
    clear hv hA
    go_enter Tryz.func225, Tryz.ntmps225
    go_wp2_with fail
    refine (H _).mono ?_
    rintro e w ⟨rfl, rfl⟩
    go_wp2
    go_quiet (fail)
    go_wp2
    go_ret
    exact ⟨rfl, HB.out _⟩
theorem add_flat (b off j : Nat) : (⟨b, off, none⟩ : Addr).add j = ⟨b, off + j, none⟩ := by simp only [Addr.add]; split <;> simp_all
theorem alloc_below (w : World) (o : Obj) : Below w.heap.size w (w.alloc o) := (Below.refl _ _).alloc (Nat.le_refl _) o
/-- A slice that reads the numbers ls. -/
structure RdI (w : World) (a : Option Addr) (n : Nat) (ls : List Nat) : Prop where
  len : ls.length = n
  max : n ≤ maxLen
  cell : ∀ j, j < n → ∃ b off, a = some ⟨b, off, none⟩ ∧ w.cell? ⟨b, off + j, none⟩ = some (.int .i64 (ls.getD j 0 : Nat))
theorem RdI.keep {w wn : World} {a : Option Addr} {n : Nat} {ls : List Nat} (h : RdI w a n ls) (hb : Below w.heap.size w wn) : RdI wn a n ls :=
  ⟨h.len, h.max, fun j hj => by
    obtain ⟨b, off, e, hc⟩ := h.cell j hj
    exact ⟨b, off, e, by rw [hb.cell (p := ⟨b, off + j, none⟩) (World.block_lt_of_cell? _ _ hc)]; exact hc⟩⟩
/-- The numbers as cells. -/
def icells (ls : List Nat) : List Value := ls.map fun (b : Nat) => Value.int .i64 (b : Int)
theorem icells_append (l r : List Nat) : icells (l ++ r) = icells l ++ icells r := List.map_append ..
/-- A row of numbers of the call's own. -/
def OwnI (w : World) (B : Nat) (a : Option Addr) (n cap : Nat) (ls : List Nat) : Prop := w.ownsRow B 3 1 (.slice a n cap) n (icells ls)
theorem OwnI.nil (w : World) (B : Nat) : OwnI w B none 0 0 [] := World.ownsRow_nil w B 3 1
theorem OwnI.len {w : World} {B : Nat} {a : Option Addr} {n cap : Nat} {ls : List Nat} (h : OwnI w B a n cap ls) : ls.length = n := by
  have := h.1; simpa [icells] using this
theorem OwnI.keep {w wn : World} {B : Nat} {a : Option Addr} {n cap : Nat} {l : List Nat} (h : OwnI w B a n cap l) (hb : Below w.heap.size w wn) : OwnI wn B a n cap l := by
  refine ⟨h.1, ?_⟩
  rcases h.2 with h2 | ⟨g, c, cur, h1, h3, h4, h5⟩
  · exact .inl h2
  · refine .inr ⟨g, c, cur, h1, h3, ?_, h5⟩
    rw [hb.block g (Array.getElem?_eq_some_iff.1 h4).1]; exact h4
theorem OwnI.kept {w wn : World} {B : Nat} {a : Option Addr} {n cap : Nat} {l : List Nat} {row : Option Nat} (h : OwnI w B a n cap l) (hg : w.grownBy wn row) (hne : ∀ g, a = some ⟨g, 0, none⟩ → row ≠ some g) : OwnI wn B a n cap l := by
  refine ⟨h.1, ?_⟩
  rcases h.2 with h2 | ⟨g, c, cur, h1, h3, h4, h5⟩
  · exact .inl h2
  · refine .inr ⟨g, c, cur, h1, h3, ?_, h5⟩
    cases h1
    rw [hg.block g (Array.getElem?_eq_some_iff.1 h4).1 (fun e => hne g rfl e.symm)]; exact h4
theorem OwnI.rd {w : World} {B : Nat} {a : Option Addr} {n cap : Nat} {ls : List Nat} (h : OwnI w B a n cap ls) : RdI w a n ls := by
  have hl := h.len
  rcases h.2 with ⟨h2, h3⟩ | ⟨g, c, cur, h1, h3, h4, h5, h6, h7, h8⟩
  · cases h2
    exact RdI.mk hl (by rw [h3]; decide) (fun j hj => absurd hj (by omega))
  · cases h1
    refine RdI.mk hl (Nat.le_trans h5 h6) (fun j hj => ⟨g, 0, rfl, ?_⟩)
    have := h.cells (g := g) rfl j (.int .i64 (ls.getD j 0 : Nat)) (by
      simp only [icells, List.getElem?_map, List.getD_eq_getElem?_getD]
      rw [List.getElem?_eq_getElem (by omega)]; rfl)
    rw [add_flat] at this
    rw [Nat.zero_add] at this ⊢
    exact this
theorem Tryz.info3 : (Tryz.prog.info? 3).map (fun i => (i.zero, i.size, i.bytes)) = some (some (.int .i64 0), 1, 8) := by kernel_rfl
/-- Where a row is behind an append: where it was, or in new memory. -/
def Went (w : World) (a a2 : Option Addr) : Prop := a2 = a ∨ ∃ b, a2 = some ⟨b, 0, none⟩ ∧ w.heap.size ≤ b
/-- append(l, x) at rows of numbers. -/
theorem run_append_int (w : World) (B : Nat) (a : Option Addr) (n cap : Nat) (ls : List Nat) (hown : OwnI w B a n cap ls) (g t : Nat) (hr : w.cell? ⟨g, 0, none⟩ = some (.int .i64 (t : Nat))) (hb : n + 1 ≤ 1000000) (hB : B ≤ w.heap.size) (ty : TypeId) :
    ∃ a2 c2 w2, (Builtin.append_ #[30, 30] ty #[.slice a n cap, .slice (some ⟨g, 0, none⟩) 1 1]).run Tryz.prog w = .ok (.slice a2 (n + 1) c2) w2 ∧ OwnI w2 B a2 (n + 1) c2 (ls ++ [t]) ∧ w.grownBy w2 (a.map (·.block)) ∧ Went w a a2 := by
  obtain ⟨i0, hi, hz0, hz1, hz2⟩ := info_parts Tryz.info3
  have hblk : (Value.slice a n cap).ownBlock = a.map (·.block) := by cases a <;> rfl
  have hnews : ∀ j u, (icells [t])[j]? = some u → w.cell? ((⟨g, 0, none⟩ : Addr).add j) = some u := by
    intro j u hu
    cases j with
    | zero => rw [add_flat, hr]; exact hu
    | succ j => simp [icells] at hu
  have gen : ∀ C, OwnI w C a n cap ls → C ≤ w.heap.size → ∃ a2 c2 w2, (Builtin.append_ #[30, 30] ty #[.slice a n cap, .slice (some ⟨g, 0, none⟩) 1 1]).run Tryz.prog w = .ok (.slice a2 (n + 1) c2) w2 ∧ OwnI w2 C a2 (n + 1) c2 (ls ++ [t]) ∧ w.grownBy w2 (a.map (·.block)) := by
    intro C hC hCs
    obtain ⟨v', w', h1, h2, h3, -⟩ := run_append_own (P := Tryz.prog) w C 30 ty 3 i0 (.int .i64 0) 1 8 Tryz.underlying30 hi hz0 hz1 hz2 rfl (by decide) (.slice a n cap) n (icells ls) hC ⟨g, 0, none⟩ 1 1 (icells [t]) rfl hnews (by simp [icells, Value.oneCell']) (by unfold maxLen; omega) (by omega) hCs
    rw [← icells_append] at h2
    rw [hblk] at h3
    rcases h2.2 with ⟨rfl, h4⟩ | ⟨g2, c, cur, rfl, h4⟩
    · omega
    · exact ⟨_, _, w', h1, h2, h3⟩
  obtain ⟨a2, c2, w2, h1, h2, h3⟩ := gen B hown hB
  refine ⟨a2, c2, w2, h1, h2, h3, ?_⟩
  rcases hown.2 with ⟨e, h0⟩ | ⟨g0, c, cur, e, h4, h5, h6, h7, h8, h9⟩
  · cases e
    have hnil : ls = [] := List.length_eq_zero_iff.1 hown.len
    subst hnil
    obtain ⟨a3, c3, w3, k1, k2, -⟩ := gen w.heap.size (OwnI.nil w _) (Nat.le_refl _)
    rw [h1] at k1
    cases k1
    rcases k2.2 with ⟨e, _⟩ | ⟨b, c, cur, e, hb, _⟩
    · cases e
    · cases e
      exact .inr ⟨b, rfl, hb⟩
  · cases e
    by_cases hroom : n + 1 ≤ cap
    · have hrun := run_append_room (P := Tryz.prog) w 30 ty 3 i0 Tryz.underlying30 hi g0 n cap cur h5 ⟨g, 0, none⟩ 1 1 (icells [t]) (by rw [hz1]; rfl) hnews (by simp [icells, Value.oneCell']) hroom (by rw [hz1]; simp [icells]; omega)
      rw [h1] at hrun
      cases hrun
      exact .inl rfl
    · have hrun := run_append_grow (P := Tryz.prog) w 30 ty 3 i0 (.int .i64 0) Tryz.underlying30 hi hz0 ⟨g0, 0, none⟩ n cap (icells ls) (by rw [hz1]; exact hown.1) (hown.cells (g := g0) rfl) ⟨g, 0, none⟩ 1 1 (icells [t]) (by rw [hz1]; rfl) hnews (by omega) (by omega) (growslice_fits (by omega) (by rw [hz2]; omega))
      rw [h1] at hrun
      cases hrun
      exact .inr ⟨_, rfl, Nat.le_refl _⟩
theorem append_int {w : World} {ops : Array Oper} {rest : List Oper} {o : Oper} {ac : Act} {Q : Exit → Act → World → Prop} (hgd : o.guard = none) (s x : Operand) (ho : o.op = .call { callee := .builtin .append, args := #[s, x], argTypes := #[30, 30] })
    (B : Nat) {a : Option Addr} {n cap : Nat} {ls : List Nat} (hs : ac.eval s = .slice a n cap) (hown : OwnI w B a n cap ls)
    {g t : Nat} (hx : ac.eval x = .slice (some ⟨g, 0, none⟩) 1 1) (hr : w.cell? ⟨g, 0, none⟩ = some (.int .i64 (t : Nat))) (hb : n + 1 ≤ 1000000) (hB : B ≤ w.heap.size)
    (h : ∀ a2 n2 c2 w2, n2 = n + 1 → Hid (OwnI w2 B a2 n2 c2 (ls ++ [t])) → Hid (w.grownBy w2 (a.map (·.block))) → Hid (Went w a a2) → wpList Tryz.prog ops Q rest (ac.put o.dst (.slice a2 n2 c2)) w2) : wpList Tryz.prog ops Q (o :: rest) ac w := by
  obtain ⟨a2, c2, w2, h1, h2, h3, h4⟩ := run_append_int w B a n cap ls hown g t hr hb hB o.type
  refine wpList_plain hgd fun K hK => ?_
  unfold Oper.wp
  simp [execOp, ho, resolve, invoke, builtin, hs, hx, h1, Result.andThen]
  exact hK _ _ (h a2 _ c2 w2 rfl h2 h3 h4)
theorem OwnI.below {w w2 : World} {B : Nat} {a : Option Addr} {n cap : Nat} {ls : List Nat} (h : OwnI w B a n cap ls) (hg : w.grownBy w2 (a.map (·.block))) (hB : B ≤ w.heap.size) : Below B w w2 := by
  have hblk : (Value.slice a n cap).ownBlock = a.map (·.block) := by cases a <;> rfl
  rw [← hblk] at hg
  exact (Below.refl B w).grown hg hB (fun k hk => (h.lt k hk).1)
/-- The slots below k of which p is true, rising. -/
def slots (p : Nat → Bool) (k : Nat) : List Nat := (List.range k).filter p
theorem slots_yes {p : Nat → Bool} {k : Nat} (h : p k = true) : slots p (k + 1) = slots p k ++ [k] := by
  unfold slots; rw [List.range_succ, List.filter_append]; simp [h]
theorem slots_no {p : Nat → Bool} {k : Nat} (h : p k = false) : slots p (k + 1) = slots p k := by
  unfold slots; rw [List.range_succ, List.filter_append]; simp [h]
theorem slots_len (p : Nat → Bool) (k : Nat) : (slots p k).length ≤ k := by
  unfold slots; have := List.length_filter_le p (List.range k); simpa using this
/-- Is p true of a slot below k? -/
def some? (p : Nat → Bool) (k : Nat) : Bool := (List.range k).any p
/-- Which slots have the byte c; which are free; which are full. -/
def has (l : List Nat) (c k : Nat) : Bool := decide (l.getD k 0 = c)
def fre (l : List Nat) (k : Nat) : Bool := decide (128 ≤ l.getD k 0)
def ful (l : List Nat) (k : Nat) : Bool := !fre l k
/-- A byte that is cleaned. -/
def cl (b : Nat) : Nat := if b = 254 then 128 else b
/-- All Empty. -/
abbrev new8 : List Nat := [128, 128, 128, 128, 128, 128, 128, 128]
def news (k : Nat) : List Nat := List.replicate k 128 ++ List.replicate (8 - k) 0
theorem news_ok {k : Nat} (hk : k ≤ 8) : Ok (news k) := by
  refine ⟨by simp [news]; omega, fun b hb => ?_⟩
  unfold news at hb
  rcases List.mem_append.1 hb with hb | hb <;> rw [List.eq_of_mem_replicate hb] <;> decide
theorem news_set {k : Nat} (hk : k < 8) : (news k).set k 128 = news (k + 1) := by
  rcases slot8 hk with rfl | rfl | rfl | rfl | rfl | rfl | rfl | rfl <;> rfl
theorem New_any (w : World) : Calls Tryz.prog 221 #[] w fun e w' => e = .returned (.int .u64 (val new8 : Nat)) ∧ Below w.heap.size w w' := by
  have HB : Hid (Below w.heap.size w w) := Below.refl _ _
  have HS := fun (k : Nat) (hk : k < 8) w => Set_in (news_ok (Nat.le_of_lt hk)) k 128 hk (by decide) w
  have HE : Hid (val (news 8) = val new8) := rfl
  have HZ : Hid (val (news 0) = 0) := rfl
  go_enter Tryz.func221, Tryz.ntmps221
  go_wp2
  go_loopg [1, 2, 3] 8 (fun q nv iv jv wr => ∃ k : Nat, k + q = 8 ∧ jv = .int .i64 k ∧ nv = .int .u64 (val (news k) : Nat) ∧ Hid (Below w.heap.size w wr))
  case atStart => exact ⟨0, by omega, rfl, by rw [HZ.out]; rfl, HB⟩
  case round =>
    clear HB
    obtain ⟨k, hk, rfl, rfl, HB⟩ := hrel
    by_cases h8 : k < 8
    · have HSk := HS k h8
      rw [news_set h8] at HSk
      clear HS
      have hkz : (k : Int) < 8 := by omega
      generalize val (news k) = n at HSk ⊢
      obtain ⟨m, hm⟩ : ∃ m, val (news (k + 1)) = m := ⟨_, rfl⟩
      have HM : Hid (val (news (k + 1)) = m) := hm
      rw [hm] at HSk
      clear hm
      go_wp2_with fail
      refine (HSk _).mono ?_
      rintro e w1 ⟨rfl, hb⟩
      have H1 := step_below HB hb
      clear hb
      go_wp2
      go_roundg (gk - 1)
      case measure => omega
      case rel => exact ⟨k + 1, by omega, by go_num, by rw [HM.out], H1⟩
    · obtain rfl : k = 8 := by omega
      rw [HE.out]
      go_wp2
      go_ret
      exact ⟨rfl, HB.out⟩
theorem Count_any {l : List Nat} (hl : Ok l) (w : World) : Calls Tryz.prog 176 #[.int .u64 (val l : Nat)] w fun e w' => e = .returned (.int .i64 ((slots (ful l) 8).length : Nat)) ∧ w' = w := by
  have HA := fun (k : Nat) (hk : k < 8) w => At_in hl k hk w
  have HG : Hid (∀ k, l.getD k 0 < 256) := hl.get
  generalize val l = n at HA ⊢
  go_enter Tryz.func176, Tryz.ntmps176
  go_wp2
  go_loopg [3, 4, 5] 8 (fun q nv iv jv wr => w = wr ∧ ∃ k : Nat, k + q = 8 ∧ jv = .int .i64 k ∧ nv = .int .i64 ((slots (ful l) k).length : Nat))
  case atStart => exact ⟨rfl, 0, by omega, rfl, rfl⟩
  case round =>
    obtain ⟨rfl, k, hk, rfl, rfl⟩ := hrel
    by_cases h8 : k < 8
    · have HAk := HA k h8
      have HH : Hid (ful l k = !decide (128 ≤ l.getD k 0)) := rfl
      have hlt := HG.out k
      have HFr := fun w => isFree_any (l.getD k 0) w hlt
      have hkz : (k : Int) < 8 := by omega
      have hsl := slots_len (ful l) k
      clear HA
      generalize l.getD k 0 = b at HAk HH hlt HFr
      by_cases hb : 128 ≤ b
      · rw [decide_eq_true hb] at HFr HH
        have HT : Hid (slots (ful l) (k + 1) = slots (ful l) k) := slots_no HH.out
        generalize slots (ful l) k = s at HT hsl ⊢
        go_wp2_with fail
        refine (HAk _).mono ?_
        rintro e w ⟨rfl, rfl⟩
        go_wp2_with fail
        refine (HFr _).mono ?_
        rintro e w ⟨rfl, rfl⟩
        go_wp2
        go_roundg (gk - 1)
        case measure => omega
        case rel => exact ⟨rfl, k + 1, by omega, by go_num, by rw [HT.out]⟩
      · rw [decide_eq_false hb] at HFr HH
        have HT : Hid (slots (ful l) (k + 1) = slots (ful l) k ++ [k]) := slots_yes HH.out
        generalize slots (ful l) k = s at HT hsl ⊢
        go_wp2_with fail
        refine (HAk _).mono ?_
        rintro e w ⟨rfl, rfl⟩
        go_wp2_with fail
        refine (HFr _).mono ?_
        rintro e w ⟨rfl, rfl⟩
        go_wp2
        go_roundg (gk - 1)
        case measure => omega
        case rel => exact ⟨rfl, k + 1, by omega, by go_num, by rw [HT.out]; simp⟩
    · obtain rfl : k = 8 := by omega
      go_wp2
      go_ret
      exact ⟨rfl, rfl⟩
/-- A text's bytes. -/
abbrev lst (s : ByteArray) : List UInt8 := s.data.toList
theorem drop_at (s : ByteArray) (k : Nat) (h : k < s.size) : (lst s).drop k = s[k] :: (lst s).drop (k + 1) := by
  rw [List.drop_eq_getElem_cons (by simpa using h)]
  rfl
/-- A hash, one byte on. -/
def stp (h : Nat) (b : UInt8) : Nat := (h ^^^ b.toNat) * 1099511628211 % 18446744073709551616
/-- The middle of a hash's end. -/
def mid (h : Nat) : Nat := (h ^^^ h / 4294967296) * 11400714819323198485 % 18446744073709551616
/-- A hash's end. -/
def fin (h : Nat) : Nat := mid h ^^^ mid h / 536870912
/-- The hash of a row of bytes by a seed. -/
def ofL (x : Nat) (l : List UInt8) : Nat := fin (l.foldl stp (14695981039346656037 ^^^ x))
/-- A slot: its byte, its key, what it has. -/
abbrev Cl := Nat × ByteArray × ByteArray
/-- What is there: a key and what it has. -/
abbrev En := ByteArray × ByteArray
abbrev noC : Cl := (128, ⟨#[]⟩, ⟨#[]⟩)
def cel (z : List Cl) (q : Nat) : Cl := z.getD q noC
/-- The bytes of a group. -/
def wrd (z : List Cl) (g : Nat) : List Nat := ((z.drop (8 * g)).take 8).map (·.1)
/-- Is a slot full? -/
def full (c : Cl) : Bool := decide (c.1 < 128)
def gone (c : Cl) : Bool := decide (c.1 = 254)
/-- What the full slots have. -/
def ents (z : List Cl) : List En := (z.filter full).map (·.2)
/-- How many are Deleted. -/
def dels (z : List Cl) : Nat := (z.filter gone).length
theorem cel_at (z : List Cl) {q : Nat} (h : q < z.length) : cel z q = z[q] := by
  unfold cel; rw [List.getD_eq_getElem?_getD, List.getElem?_eq_getElem h]; rfl
theorem cel_set (z : List Cl) {q : Nat} (h : q < z.length) (c : Cl) : cel (z.set q c) q = c := by
  unfold cel; rw [List.getD_eq_getElem?_getD, List.getElem?_set_self h]; rfl
theorem cel_set_ne (z : List Cl) {q r : Nat} (h : q ≠ r) (c : Cl) : cel (z.set q c) r = cel z r := by
  unfold cel; rw [List.getD_eq_getElem?_getD, List.getElem?_set_ne h, List.getD_eq_getElem?_getD]
theorem mem_cel {z : List Cl} {c : Cl} (h : c ∈ z) : ∃ q, q < z.length ∧ cel z q = c := by
  obtain ⟨q, hq, e⟩ := List.getElem_of_mem h
  exact ⟨q, hq, by rw [cel_at z hq]; exact e⟩
theorem wrd_get? (z : List Cl) (g i : Nat) : (wrd z g)[i]? = if i < 8 then z[8 * g + i]?.map (·.1) else none := by
  unfold wrd
  rw [List.getElem?_map, List.getElem?_take, List.getElem?_drop]
  split <;> rfl
theorem wrd_len {z : List Cl} {G g : Nat} (hz : z.length = 8 * G) (hg : g < G) : (wrd z g).length = 8 := by
  unfold wrd; rw [List.length_map, List.length_take, List.length_drop]; omega
theorem wrd_get {z : List Cl} {G g i : Nat} (hz : z.length = 8 * G) (hg : g < G) (hi : i < 8) : (wrd z g).getD i 0 = (cel z (8 * g + i)).1 := by
  rw [List.getD_eq_getElem?_getD, wrd_get?, if_pos hi, cel_at z (q := 8 * g + i) (by omega), List.getElem?_eq_getElem (by omega)]
  rfl
theorem ents_append (a b : List Cl) : ents (a ++ b) = ents a ++ ents b := by unfold ents; rw [List.filter_append, List.map_append]
theorem dels_append (a b : List Cl) : dels (a ++ b) = dels a + dels b := by unfold dels; rw [List.filter_append, List.length_append]
theorem ents_cons_yes {c : Cl} (h : c.1 < 128) (l : List Cl) : ents (c :: l) = c.2 :: ents l := by unfold ents full; rw [List.filter_cons_of_pos (by simpa using h)]; rfl
theorem ents_cons_no {c : Cl} (h : 128 ≤ c.1) (l : List Cl) : ents (c :: l) = ents l := by unfold ents full; rw [List.filter_cons_of_neg (by simpa using h)]
theorem dels_cons_yes {c : Cl} (h : c.1 = 254) (l : List Cl) : dels (c :: l) = dels l + 1 := by unfold dels gone; rw [List.filter_cons_of_pos (by simpa using h)]; rfl
theorem dels_cons_no {c : Cl} (h : c.1 ≠ 254) (l : List Cl) : dels (c :: l) = dels l := by unfold dels gone; rw [List.filter_cons_of_neg (by simpa using h)]
theorem set_parts (z : List Cl) {q : Nat} (h : q < z.length) (c : Cl) : z.set q c = z.take q ++ c :: z.drop (q + 1) := by
  rw [List.set_eq_take_append_cons_drop, if_pos h]
theorem parts (z : List Cl) {q : Nat} (h : q < z.length) : z = z.take q ++ cel z q :: z.drop (q + 1) := by
  rw [cel_at z h, ← List.drop_eq_getElem_cons h, List.take_append_drop]
theorem ents_len_le (z : List Cl) : (ents z).length ≤ z.length := by unfold ents; rw [List.length_map]; exact List.length_filter_le _ _
/-- Of a full one a free one. -/
theorem ents_take {z : List Cl} {q : Nat} (h : q < z.length) (hf : (cel z q).1 < 128) (c : Cl) (hc : 128 ≤ c.1) : (ents z).Perm ((cel z q).2 :: ents (z.set q c)) := by
  conv => lhs; rw [parts z h]
  rw [set_parts z h, ents_append, ents_cons_yes hf, ents_append, ents_cons_no hc]
  exact List.perm_middle
theorem dels_set {z : List Cl} {q : Nat} (h : q < z.length) (c : Cl) : dels (z.set q c) + (if (cel z q).1 = 254 then 1 else 0) = dels z + (if c.1 = 254 then 1 else 0) := by
  conv => rhs; rw [parts z h]
  rw [set_parts z h, dels_append, dels_append]
  split
  · split
    · rw [dels_cons_yes (by assumption), dels_cons_yes (by assumption)]
    · rw [dels_cons_no (by assumption), dels_cons_yes (by assumption)]; omega
  · split
    · rw [dels_cons_yes (by assumption), dels_cons_no (by assumption)]; omega
    · rw [dels_cons_no (by assumption), dels_cons_no (by assumption)]
theorem all_len {z : List Cl} (h : ∀ c ∈ z, c.1 < 128 ∨ c.1 = 254) : (ents z).length + dels z = z.length := by
  induction z with
  | nil => rfl
  | cons c z ih =>
    have := ih (fun d hd => h d (by simp [hd]))
    rcases h c (by simp) with h1 | h1
    · rw [ents_cons_yes h1, dels_cons_no (by omega), List.length_cons, List.length_cons]; omega
    · rw [ents_cons_no (by omega), dels_cons_yes h1, List.length_cons]; omega
/-- A key's hash; its seven highest bits; the group that is probed as the j-th. -/
def hsh (x : Nat) (k : ByteArray) : Nat := ofL x (lst k)
def sev (h : Nat) : Nat := h / 144115188075855872
def gAt (G h j : Nat) : Nat := (h / 65536 + j) % G
/-- Has a group an Empty slot? -/
def hasE (z : List Cl) (g : Nat) : Bool := some? (has (wrd z g) 128) 8
def isG (G : Nat) : Prop := G = 1 ∨ G = 2 ∨ G = 4 ∨ G = 8 ∨ G = 16
theorem isG.pos {G : Nat} (h : isG G) : 0 < G := by rcases h with h | h | h | h | h <;> omega
theorem isG.le {G : Nat} (h : isG G) : G ≤ 16 := by rcases h with h | h | h | h | h <;> omega
theorem isG.two {G : Nat} (h : isG G) (hG : G < 16) : isG (2 * G) := by rcases h with h | h | h | h | h <;> unfold isG <;> omega
theorem gAt_lt {G : Nat} (hG : 0 < G) (h j : Nat) : gAt G h j < G := Nat.mod_lt _ hG
theorem hasE_iff {z : List Cl} {G g : Nat} (hz : z.length = 8 * G) (hg : g < G) : hasE z g = true ↔ ∃ i, i < 8 ∧ (cel z (8 * g + i)).1 = 128 := by
  unfold hasE some?
  rw [List.any_eq_true]
  constructor
  · rintro ⟨i, hi, h⟩
    rw [List.mem_range] at hi
    exact ⟨i, hi, by have := of_decide_eq_true h; rw [wrd_get hz hg hi] at this; exact this⟩
  · rintro ⟨i, hi, h⟩
    exact ⟨i, List.mem_range.2 hi, decide_eq_true (by rw [wrd_get hz hg hi]; exact h)⟩
/-- What holds of a table of G groups by the seed x. -/
structure Inv (x G : Nat) (z : List Cl) : Prop where
  grp : isG G
  len : z.length = 8 * G
  byt : ∀ q, q < 8 * G → (cel z q).1 < 128 ∨ (cel z q).1 = 128 ∨ (cel z q).1 = 254
  sev : ∀ q, q < 8 * G → (cel z q).1 < 128 → (cel z q).1 = sev (hsh x (cel z q).2.1)
  way : ∀ q, q < 8 * G → (cel z q).1 < 128 → ∃ d, d < G ∧ gAt G (hsh x (cel z q).2.1) d = q / 8 ∧ ∀ j, j < d → hasE z (gAt G (hsh x (cel z q).2.1) j) = false
  nod : ((ents z).map (·.1)).Nodup
  room : (ents z).length + dels z ≤ 7 * G
theorem Inv.byt' {x G : Nat} {z : List Cl} (h : Inv x G z) : ∀ c ∈ z, c.1 < 256 := by
  intro c hc
  obtain ⟨q, hq, rfl⟩ := mem_cel hc
  rcases h.byt q (by rw [← h.len]; exact hq) with h1 | h1 | h1 <;> omega
theorem wrd_ok {z : List Cl} {G g : Nat} (hz : z.length = 8 * G) (hb : ∀ c ∈ z, c.1 < 256) (hg : g < G) : Ok (wrd z g) := by
  refine ⟨wrd_len hz hg, fun b hb' => ?_⟩
  unfold wrd at hb'
  obtain ⟨c, hc, rfl⟩ := List.mem_map.1 hb'
  exact hb c (List.mem_of_mem_drop (List.mem_of_mem_take hc))
theorem Inv.ok {x G : Nat} {z : List Cl} (h : Inv x G z) {g : Nat} (hg : g < G) : Ok (wrd z g) := wrd_ok h.len h.byt' hg
theorem Inv.empty {x G : Nat} {z : List Cl} (h : Inv x G z) : ∃ q, q < 8 * G ∧ (cel z q).1 = 128 := by
  apply Classical.byContradiction
  intro hn
  have h1 : ∀ c ∈ z, c.1 < 128 ∨ c.1 = 254 := by
    intro c hc
    obtain ⟨q, hq, rfl⟩ := mem_cel hc
    rw [h.len] at hq
    rcases h.byt q hq with h1 | h1 | h1
    · exact .inl h1
    · exact absurd ⟨q, hq, h1⟩ hn
    · exact .inr h1
  have h2 := all_len h1
  have h3 := h.room
  have h4 := h.grp.pos
  rw [h.len] at h2
  omega
/-- A key's entry is told by its slot. -/
theorem Inv.val {x G : Nat} {z : List Cl} (h : Inv x G z) {k : ByteArray} {u v : ByteArray} (h1 : (k, u) ∈ ents z) (h2 : (k, v) ∈ ents z) : u = v := by
  have hn := h.nod
  generalize ents z = l at hn h1 h2
  induction l with
  | nil => simp at h1
  | cons e l ih =>
    rw [List.map_cons, List.nodup_cons] at hn
    rcases List.mem_cons.1 h1 with e1 | h1
    · rcases List.mem_cons.1 h2 with e2 | h2
      · rw [← e1] at e2; cases e2; rfl
      · exact absurd (List.mem_map.2 ⟨_, h2, by rw [← e1]⟩) hn.1
    · rcases List.mem_cons.1 h2 with e2 | h2
      · exact absurd (List.mem_map.2 ⟨_, h1, by rw [← e2]⟩) hn.1
      · exact ih hn.2 h1 h2
/-- The mark of a slot whose key is taken away. -/
def mrk (z : List Cl) (g : Nat) : Nat := if hasE z g = true then 128 else 254
theorem mrk_ge (z : List Cl) (g : Nat) : 128 ≤ mrk z g := by unfold mrk; split <;> omega
/-- A key that is taken away. -/
theorem Inv.take {x G : Nat} {z : List Cl} (h : Inv x G z) {g i : Nat} (hg : g < G) (hi : i < 8) (hf : (cel z (8 * g + i)).1 < 128) (e : En) :
    Inv x G (z.set (8 * g + i) (mrk z g, e)) ∧ (ents z).Perm ((cel z (8 * g + i)).2 :: ents (z.set (8 * g + i) (mrk z g, e))) := by
  have hq : 8 * g + i < z.length := by rw [h.len]; omega
  have hm := mrk_ge z g
  have hp := ents_take hq hf (mrk z g, e) hm
  have hd := dels_set hq (mrk z g, e)
  rw [if_neg (show ¬ (cel z (8 * g + i)).1 = 254 by omega)] at hd
  have hlen : (z.set (8 * g + i) (mrk z g, e)).length = 8 * G := by rw [List.length_set]; exact h.len
  have hE : ∀ g', g' < G → hasE z g' = false → hasE (z.set (8 * g + i) (mrk z g, e)) g' = false := by
    intro g' hg' h0
    apply Bool.eq_false_iff.2
    intro h1
    obtain ⟨s, hs', h2⟩ := (hasE_iff hlen hg').1 h1
    by_cases ee : 8 * g + i = 8 * g' + s
    · rw [← ee, cel_set z hq] at h2
      have : g' = g := by omega
      subst this
      simp only [mrk, h0, Bool.false_eq_true, if_false] at h2
      omega
    · rw [cel_set_ne z ee] at h2
      rw [(hasE_iff h.len hg').2 ⟨s, hs', h2⟩] at h0
      cases h0
  refine ⟨⟨h.grp, hlen, ?_, ?_, ?_, ?_, ?_⟩, hp⟩
  · intro q hq'
    by_cases e : 8 * g + i = q
    · subst e; rw [cel_set z hq]; simp only [mrk]; split <;> omega
    · rw [cel_set_ne z e]; exact h.byt q hq'
  · intro q hq'
    by_cases e : 8 * g + i = q
    · subst e; rw [cel_set z hq]; intro h1; simp only [] at h1; omega
    · rw [cel_set_ne z e]; exact h.sev q hq'
  · intro q hq'
    by_cases e : 8 * g + i = q
    · subst e; rw [cel_set z hq]; intro h1; simp only [] at h1; omega
    · rw [cel_set_ne z e]
      intro hf'
      obtain ⟨d, hd1, hd2, hd3⟩ := h.way q hq' hf'
      exact ⟨d, hd1, hd2, fun j' hj' => hE _ (gAt_lt h.grp.pos _ _) (hd3 j' hj')⟩
  · have := (hp.map (·.1)).nodup_iff.1 h.nod
    rw [List.map_cons, List.nodup_cons] at this
    exact this.2
  · have := hp.length_eq
    rw [List.length_cons] at this
    have := h.room
    split at hd <;> omega
/-- A table without keys. -/
def news0 (G : Nat) : List Cl := List.replicate (8 * G) noC
theorem cel_news0 (G q : Nat) : cel (news0 G) q = noC := by
  unfold cel news0
  rw [List.getD_eq_getElem?_getD, List.getElem?_replicate]
  split <;> rfl
theorem ents_news0 (G : Nat) : ents (news0 G) = [] := by
  unfold ents news0
  rw [List.filter_replicate, if_neg (by decide)]; rfl
theorem dels_news0 (G : Nat) : dels (news0 G) = 0 := by
  unfold dels news0
  rw [List.filter_replicate, if_neg (by decide)]; rfl
theorem Inv.news (x : Nat) {G : Nat} (hG : isG G) : Inv x G (news0 G) := by
  refine ⟨hG, by simp [news0], ?_, ?_, ?_, ?_, ?_⟩
  · intro q _; rw [cel_news0]; exact .inr (.inl rfl)
  · intro q _ h; rw [cel_news0] at h; simp at h
  · intro q _ h; rw [cel_news0] at h; simp at h
  · rw [ents_news0]; exact List.nodup_nil
  · rw [ents_news0, dels_news0]; simp
/-- The cells of G groups. -/
structure Grid (cs : Array Value) (G : Nat) (z : List Cl) : Prop where
  size : cs.size = 17 * G
  word : ∀ g, g < G → cs[g * 17]? = some (.int .u64 (val (wrd z g) : Nat))
  key : ∀ g i, g < G → i < 8 → cs[g * 17 + 1 + i * 2]? = some (.string (cel z (8 * g + i)).2.1)
  vl : ∀ g i, g < G → i < 8 → cs[g * 17 + 1 + i * 2 + 1]? = some (.string (cel z (8 * g + i)).2.2)
/-- A row of G groups in block b. -/
structure Row (w : World) (b G : Nat) (z : List Cl) : Prop where
  ex : ∃ cs, w.heap[b]? = some (.cells cs 198 (0, 0)) ∧ Grid cs G z
theorem Row.lt {w : World} {b G : Nat} {z : List Cl} (h : Row w b G z) : b < w.heap.size := by
  obtain ⟨cs, h1, -⟩ := h.ex
  exact (Array.getElem?_eq_some_iff.1 h1).1
theorem Row.kept {w wn : World} {b G : Nat} {z : List Cl} (h : Row w b G z) (hb : wn.heap[b]? = w.heap[b]?) : Row wn b G z := by
  obtain ⟨cs, h1, h2⟩ := h.ex
  exact ⟨cs, by rw [hb]; exact h1, h2⟩
theorem Row.keep {w wn : World} {b G : Nat} {z : List Cl} (h : Row w b G z) (hb : Below w.heap.size w wn) : Row wn b G z := h.kept (hb.block b h.lt)
theorem Row.word {w : World} {b G : Nat} {z : List Cl} (h : Row w b G z) {g : Nat} (hg : g < G) : w.cell? ⟨b, g * 17, none⟩ = some (.int .u64 (val (wrd z g) : Nat)) := by
  obtain ⟨cs, h1, h2⟩ := h.ex
  simp only [World.cell?, h1]
  exact h2.word g hg
theorem Row.key {w : World} {b G : Nat} {z : List Cl} (h : Row w b G z) {g i : Nat} (hg : g < G) (hi : i < 8) : w.cell? ⟨b, g * 17 + 1 + i * 2, none⟩ = some (.string (cel z (8 * g + i)).2.1) := by
  obtain ⟨cs, h1, h2⟩ := h.ex
  simp only [World.cell?, h1]
  exact h2.key g i hg hi
theorem Row.vl {w : World} {b G : Nat} {z : List Cl} (h : Row w b G z) {g i : Nat} (hg : g < G) (hi : i < 8) : w.cell? ⟨b, g * 17 + 1 + i * 2 + 1, none⟩ = some (.string (cel z (8 * g + i)).2.2) := by
  obtain ⟨cs, h1, h2⟩ := h.ex
  simp only [World.cell?, h1]
  exact h2.vl g i hg hi
theorem Row.frozen {w : World} {b G : Nat} {z : List Cl} (h : Row w b G z) (o : Nat) : w.frozen? ⟨b, o, none⟩ = false := by
  obtain ⟨cs, h1, h2⟩ := h.ex
  simp [World.frozen?, h1]
theorem heap_set {w : World} {b o : Nat} {cs : Array Value} {t : TypeId} (h : w.heap[b]? = some (.cells cs t (0, 0))) (v : Value) : (w.setCell ⟨b, o, none⟩ v).heap[b]? = some (.cells (cs.setIfInBounds o v) t (0, 0)) := by
  simp only [World.setCell, Array.getElem?_modify, if_true, h]
  rfl
theorem Grid.put {cs : Array Value} {G : Nat} {z z' : List Cl} (h : Grid cs G z) (o : Nat) (v : Value)
    (h1 : ∀ g, g < G → if o = g * 17 then some v = some (.int .u64 (val (wrd z' g) : Nat)) else wrd z' g = wrd z g)
    (h2 : ∀ g i, g < G → i < 8 → if o = g * 17 + 1 + i * 2 then some v = some (.string (cel z' (8 * g + i)).2.1) else (cel z' (8 * g + i)).2.1 = (cel z (8 * g + i)).2.1)
    (h3 : ∀ g i, g < G → i < 8 → if o = g * 17 + 1 + i * 2 + 1 then some v = some (.string (cel z' (8 * g + i)).2.2) else (cel z' (8 * g + i)).2.2 = (cel z (8 * g + i)).2.2) : Grid (cs.setIfInBounds o v) G z' := by
  have hs := h.size
  refine ⟨by simpa using hs, ?_, ?_, ?_⟩
  · intro g hg
    have := h1 g hg
    split at this
    · rename_i e
      subst e
      rw [Array.getElem?_setIfInBounds_self_of_lt (by omega)]
      exact this
    · rw [Array.getElem?_setIfInBounds_ne (by assumption), this]
      exact h.word g hg
  · intro g i hg hi
    have := h2 g i hg hi
    split at this
    · rename_i e
      subst e
      rw [Array.getElem?_setIfInBounds_self_of_lt (by omega)]
      exact this
    · rw [Array.getElem?_setIfInBounds_ne (by assumption), this]
      exact h.key g i hg hi
  · intro g i hg hi
    have := h3 g i hg hi
    split at this
    · rename_i e
      subst e
      rw [Array.getElem?_setIfInBounds_self_of_lt (by omega)]
      exact this
    · rw [Array.getElem?_setIfInBounds_ne (by assumption), this]
      exact h.vl g i hg hi
/-- A table's own block. -/
structure Top (w : World) (p b x G : Nat) : Prop where
  blk : w.heap[p]? = some (.cells #[.int .u64 (x : Nat), .slice (some ⟨b, 0, none⟩) G G] 190 (0, 0))
theorem Top.lt {w : World} {p b x G : Nat} (h : Top w p b x G) : p < w.heap.size := (Array.getElem?_eq_some_iff.1 h.blk).1
theorem Top.kept {w wn : World} {p b x G : Nat} (h : Top w p b x G) (hb : wn.heap[p]? = w.heap[p]?) : Top wn p b x G := ⟨by rw [hb]; exact h.blk⟩
theorem Top.keep {w wn : World} {p b x G : Nat} (h : Top w p b x G) (hb : Below w.heap.size w wn) : Top wn p b x G := h.kept (hb.block p h.lt)
theorem Top.seed {w : World} {p b x G : Nat} (h : Top w p b x G) : w.cell? ⟨p, 0, none⟩ = some (.int .u64 (x : Nat)) := by simp [World.cell?, h.blk]
theorem Top.groups {w : World} {p b x G : Nat} (h : Top w p b x G) : w.cell? ⟨p, 1, none⟩ = some (.slice (some ⟨b, 0, none⟩) G G) := by simp [World.cell?, h.blk]
theorem Top.frozen {w : World} {p b x G : Nat} (h : Top w p b x G) (o : Nat) : w.frozen? ⟨p, o, none⟩ = false := by simp [World.frozen?, h.blk]
theorem Top.set {w : World} {p b x G : Nat} (h : Top w p b x G) (b' G' : Nat) : Top (w.setCell ⟨p, 1, none⟩ (.slice (some ⟨b', 0, none⟩) G' G')) p b' x G' := ⟨by rw [heap_set h.blk]; rfl⟩
theorem Top.ne {w : World} {p b x G b' G' : Nat} {z : List Cl} (h : Top w p b x G) (h' : Row w b' G' z) : p ≠ b' := by
  rintro rfl
  obtain ⟨cs, h1, -⟩ := h'.ex
  have := h.blk
  rw [h1] at this
  simp at this
/-- A table in memory. -/
structure Tab (w : World) (B p b x G : Nat) (z : List Cl) : Prop where
  top : Top w p b x G
  row : Row w b G z
  low : B ≤ p
  lowb : B ≤ b
  inv : Inv x G z
  seed : x < 18446744073709551616
  siz : ∀ e ∈ ents z, e.1.size ≤ maxLen
theorem Tab.keep {w wn : World} {B p b x G : Nat} {z : List Cl} (h : Tab w B p b x G z) (hb : Below w.heap.size w wn) : Tab wn B p b x G z := ⟨h.top.keep hb, h.row.keep hb, h.low, h.lowb, h.inv, h.seed, h.siz⟩
abbrev ptr (p : Nat) : Value := .pointer (some ⟨p, 0, none⟩)
/-- A row of the call's own: elements of s cells each. -/
def OwnR (w : World) (B : Nat) (e : TypeId) (s : Nat) (a : Option Addr) (n cap : Nat) (cs : List Value) : Prop := w.ownsRow B e s (.slice a n cap) n cs
theorem OwnR.nil (w : World) (B : Nat) (e : TypeId) (s : Nat) : OwnR w B e s none 0 0 [] := World.ownsRow_nil w B e s
theorem OwnR.len {w : World} {B : Nat} {e : TypeId} {s : Nat} {a : Option Addr} {n cap : Nat} {cs : List Value} (h : OwnR w B e s a n cap cs) : cs.length = n * s := h.1
theorem OwnR.lt {w : World} {B : Nat} {e : TypeId} {s : Nat} {a : Option Addr} {n cap : Nat} {cs : List Value} (h : OwnR w B e s a n cap cs) {k : Nat} (hk : a.map (·.block) = some k) : B ≤ k ∧ k < w.heap.size ∧ ∃ cur, w.heap[k]? = some (.cells cur e (0, 0)) := by
  rcases h.2 with ⟨h2, h3⟩ | ⟨g, c, cur, h1, h3, h4, h5⟩
  · cases h2; cases hk
  · cases h1
    cases hk
    exact ⟨h3, (Array.getElem?_eq_some_iff.1 h4).1, cur, h4⟩
theorem OwnR.kept {w wn : World} {B : Nat} {e : TypeId} {s : Nat} {a : Option Addr} {n cap : Nat} {cs : List Value} (h : OwnR w B e s a n cap cs) (hb : ∀ k, a.map (·.block) = some k → wn.heap[k]? = w.heap[k]?) : OwnR wn B e s a n cap cs := by
  refine ⟨h.1, ?_⟩
  rcases h.2 with h2 | ⟨g, c, cur, h1, h3, h4, h5⟩
  · exact .inl h2
  · refine .inr ⟨g, c, cur, h1, h3, ?_, h5⟩
    cases h1
    rw [hb g rfl]; exact h4
theorem OwnR.keep {w wn : World} {B : Nat} {e : TypeId} {s : Nat} {a : Option Addr} {n cap : Nat} {cs : List Value} (h : OwnR w B e s a n cap cs) (hb : Below w.heap.size w wn) : OwnR wn B e s a n cap cs :=
  h.kept fun k hk => hb.block k (h.lt hk).2.1
theorem OwnR.low {w : World} {B C : Nat} {e : TypeId} {s : Nat} {a : Option Addr} {n cap : Nat} {cs : List Value} (h : OwnR w B e s a n cap cs) (hC : C ≤ B) : OwnR w C e s a n cap cs := by
  refine ⟨h.1, ?_⟩
  rcases h.2 with h2 | ⟨g, c, cur, h1, h3, h4⟩
  · exact .inl h2
  · exact .inr ⟨g, c, cur, h1, Nat.le_trans hC h3, h4⟩
theorem OwnR.cap {w : World} {B : Nat} {e : TypeId} {s : Nat} {a : Option Addr} {n cap : Nat} {cs : List Value} (h : OwnR w B e s a n cap cs) : n ≤ cap ∧ cap ≤ maxLen := by
  rcases h.2 with ⟨h2, h3⟩ | ⟨g, c, cur, h1, h3, h4, h5, h6, h7⟩
  · cases h2; exact ⟨by omega, by decide⟩
  · cases h1; exact ⟨h5, h6⟩
theorem OwnR.at {w : World} {B : Nat} {e : TypeId} {s : Nat} {a : Option Addr} {n cap : Nat} {cs : List Value} (h : OwnR w B e s a n cap cs) (hn : 0 < n) : ∃ g, a = some ⟨g, 0, none⟩ ∧ ∀ j u, cs[j]? = some u → w.cell? ⟨g, j, none⟩ = some u := by
  rcases h.2 with ⟨h2, h3⟩ | ⟨g, c, cur, h1, h3, h4, h5, h6, h7, h8⟩
  · omega
  · cases h1
    refine ⟨g, rfl, fun j u hu => ?_⟩
    have := World.ownsRow.cells (w := w) h (g := g) rfl j u hu
    rw [add_flat, Nat.zero_add] at this
    exact this
/-- Where a row is behind an append: where it was, or in new memory. -/
def Goes (w : World) (a a2 : Option Addr) : Prop := a2.map (·.block) = a.map (·.block) ∨ a2.map (·.block) = some w.heap.size
theorem OwnR.below {w w2 : World} {B : Nat} {e : TypeId} {s : Nat} {a : Option Addr} {n cap : Nat} {cs : List Value} (h : OwnR w B e s a n cap cs) (hg : w.grownBy w2 (a.map (·.block))) (hB : B ≤ w.heap.size) : Below B w w2 :=
  (Below.refl B w).grown hg hB (fun _ hk => (h.lt hk).1)
/-- What is in another block is as it was behind an append. -/
theorem OwnR.grown {w w2 : World} {B : Nat} {e : TypeId} {s : Nat} {a : Option Addr} {n cap : Nat} {cs : List Value} {row : Option Nat} (h : OwnR w B e s a n cap cs) (hg : w.grownBy w2 row) (hne : ∀ k, a.map (·.block) = some k → row ≠ some k) : OwnR w2 B e s a n cap cs :=
  h.kept fun k hk => hg.block k (h.lt hk).2.1 (fun e => hne k hk e.symm)
/-- Rows of unlike elements are apart. -/
theorem OwnR.apart {w : World} {B C : Nat} {e e' : TypeId} {s s' : Nat} {a a' : Option Addr} {n cap n' cap' : Nat} {cs cs' : List Value} (h : OwnR w B e s a n cap cs) (h' : OwnR w C e' s' a' n' cap' cs') (he : e ≠ e') : ∀ k, a.map (·.block) = some k → a'.map (·.block) ≠ some k := by
  intro k hk hk'
  obtain ⟨-, -, cur, h1⟩ := h.lt hk
  obtain ⟨-, -, cur', h2⟩ := h'.lt hk'
  rw [h1] at h2
  simp at h2
  exact he h2.2
theorem Tab.grown {w w2 : World} {B C p b x G : Nat} {z : List Cl} {e : TypeId} {s : Nat} {a : Option Addr} {n cap : Nat} {cs : List Value} (h : Tab w B p b x G z) (h' : OwnR w C e s a n cap cs) (hg : w.grownBy w2 (a.map (·.block))) (h1 : e ≠ 190) (h2 : e ≠ 198) : Tab w2 B p b x G z := by
  refine ⟨h.top.kept (hg.block p h.top.lt ?_), h.row.kept (hg.block b h.row.lt ?_), h.low, h.lowb, h.inv, h.seed, h.siz⟩
  · intro hk
    obtain ⟨-, -, cur, h3⟩ := h'.lt hk.symm
    rw [h.top.blk] at h3
    simp at h3
    exact h1 h3.2.symm
  · intro hk
    obtain ⟨-, -, cur, h3⟩ := h'.lt hk.symm
    obtain ⟨cs, h4, -⟩ := h.row.ex
    rw [h4] at h3
    simp at h3
    exact h2 h3.2.symm
/-- All is as it was, but for a table and the row of its groups, and what is new. -/
structure Moves (w w' : World) (p b : Nat) : Prop where
  os : w'.os = w.os
  tape : w'.tape = w.tape
  output : w'.output = w.output
  size : w.heap.size ≤ w'.heap.size
  block : ∀ k, k < w.heap.size → k ≠ p → k ≠ b → w'.heap[k]? = w.heap[k]?
theorem Moves.refl (w : World) (p b : Nat) : Moves w w p b := ⟨rfl, rfl, rfl, Nat.le_refl _, fun _ _ _ _ => rfl⟩
theorem Moves.of_below {w w' : World} (h : Below w.heap.size w w') (p b : Nat) : Moves w w' p b := ⟨h.os, h.tape, h.output, h.size, fun k hk _ _ => h.block k hk⟩
/-- Two steps: the second one's row is the first's, or it is new. -/
theorem Moves.trans {w w1 w2 : World} {p b b1 : Nat} (h : Moves w w1 p b) (k : Moves w1 w2 p b1) (hb : b1 = b ∨ w.heap.size ≤ b1) : Moves w w2 p b :=
  ⟨k.os.trans h.os, k.tape.trans h.tape, k.output.trans h.output, Nat.le_trans h.size k.size, fun i hi h1 h2 =>
    (k.block i (Nat.lt_of_lt_of_le hi h.size) h1 (by rcases hb with rfl | hb <;> omega)).trans (h.block i hi h1 h2)⟩
theorem Moves.below {w w' : World} {B p b : Nat} (h : Moves w w' p b) (hp : B ≤ p) (hb : B ≤ b) (hs : B ≤ w.heap.size) : Below B w w' :=
  ⟨h.os, h.tape, h.output, h.size, fun k hk => h.block k (Nat.lt_of_lt_of_le hk hs) (by omega) (by omega)⟩
theorem Moves.set {w : World} {p b q o : Nat} {v : Value} (hq : q = p ∨ q = b) : Moves w (w.setCell ⟨q, o, none⟩ v) p b :=
  ⟨rfl, rfl, rfl, by simp [World.setCell], fun k _ h1 h2 => Below.heap_setCell _ _ _ _ (by rcases hq with rfl | rfl <;> simpa)⟩
theorem Tab.moves {w w' : World} {B p b x G q b' : Nat} {z : List Cl} (h : Tab w B p b x G z) (hm : Moves w w' q b') (h1 : p ≠ q) (h2 : b ≠ b') (h3 : p ≠ b') (h4 : b ≠ q) : Tab w' B p b x G z :=
  ⟨h.top.kept (hm.block p h.top.lt h1 h3), h.row.kept (hm.block b h.row.lt h4 h2), h.low, h.lowb, h.inv, h.seed, h.siz⟩
theorem OwnR.moves {w w' : World} {B C p b x G : Nat} {z : List Cl} {e : TypeId} {s : Nat} {a : Option Addr} {n cap : Nat} {cs : List Value} (h : OwnR w C e s a n cap cs) (hm : Moves w w' p b) (hT : Tab w B p b x G z) (h1 : e ≠ 190) (h2 : e ≠ 198) : OwnR w' C e s a n cap cs :=
  h.kept fun k hk => by
    obtain ⟨-, hlt, cur, h3⟩ := h.lt hk
    refine hm.block k hlt ?_ ?_
    · rintro rfl
      rw [hT.top.blk] at h3
      simp at h3
      exact h1 h3.2.symm
    · rintro rfl
      obtain ⟨cs, h4, -⟩ := hT.row.ex
      rw [h4] at h3
      simp at h3
      exact h2 h3.2.symm
def scells (ls : List ByteArray) : List Value := ls.map Value.string
def jcells (ls : List Int) : List Value := ls.map (Value.int .i64)
def ecells (es : List En) : List Value := es.flatMap fun e => [.string e.1, .string e.2]
abbrev OwnS (w : World) (B : Nat) (a : Option Addr) (n cap : Nat) (ls : List ByteArray) : Prop := OwnR w B 9 1 a n cap (scells ls)
abbrev OwnJ (w : World) (B : Nat) (a : Option Addr) (n cap : Nat) (ls : List Int) : Prop := OwnR w B 3 1 a n cap (jcells ls)
abbrev OwnE (w : World) (B : Nat) (a : Option Addr) (n cap : Nat) (es : List En) : Prop := OwnR w B 194 2 a n cap (ecells es)
theorem OwnS.len {w : World} {B : Nat} {a : Option Addr} {n cap : Nat} {ls : List ByteArray} (h : OwnS w B a n cap ls) : ls.length = n := by have := OwnR.len h; simpa [scells] using this
theorem OwnJ.len {w : World} {B : Nat} {a : Option Addr} {n cap : Nat} {ls : List Int} (h : OwnJ w B a n cap ls) : ls.length = n := by have := OwnR.len h; simpa [jcells] using this
theorem ecells_len (es : List En) : (ecells es).length = es.length * 2 := by
  induction es with
  | nil => rfl
  | cons e es ih => rw [ecells, List.flatMap_cons, List.length_append, List.length_cons]; rw [ecells] at ih; rw [ih]; simp; omega
theorem OwnE.len {w : World} {B : Nat} {a : Option Addr} {n cap : Nat} {es : List En} (h : OwnE w B a n cap es) : es.length = n := by have := OwnR.len h; rw [ecells_len] at this; omega
theorem ecells_get (es : List En) (j : Nat) (hj : j < es.length) : (ecells es)[j * 2]? = some (.string (es.getD j (⟨#[]⟩, ⟨#[]⟩)).1) ∧ (ecells es)[j * 2 + 1]? = some (.string (es.getD j (⟨#[]⟩, ⟨#[]⟩)).2) := by
  induction es generalizing j with
  | nil => simp at hj
  | cons e es ih =>
    have e1 : ecells (e :: es) = .string e.1 :: .string e.2 :: ecells es := rfl
    rw [e1]
    cases j with
    | zero => exact ⟨rfl, rfl⟩
    | succ j =>
      have := ih j (by simpa using hj)
      rw [show (j + 1) * 2 = j * 2 + 1 + 1 by omega, List.getElem?_cons_succ, List.getElem?_cons_succ, List.getElem?_cons_succ, List.getElem?_cons_succ, List.getD_cons_succ]
      exact this
theorem OwnS.cell {w : World} {B : Nat} {a : Option Addr} {n cap : Nat} {ls : List ByteArray} (h : OwnS w B a n cap ls) {j : Nat} (hj : j < n) : ∃ g, a = some ⟨g, 0, none⟩ ∧ w.cell? ⟨g, j, none⟩ = some (.string (ls.getD j ⟨#[]⟩)) := by
  obtain ⟨g, h1, h2⟩ := OwnR.at h (by omega)
  have := OwnS.len h
  refine ⟨g, h1, h2 _ _ ?_⟩
  rw [scells, List.getElem?_map, List.getElem?_eq_getElem (by omega), List.getD_eq_getElem?_getD, List.getElem?_eq_getElem (by omega)]; rfl
theorem OwnJ.cell {w : World} {B : Nat} {a : Option Addr} {n cap : Nat} {ls : List Int} (h : OwnJ w B a n cap ls) {j : Nat} (hj : j < n) : ∃ g, a = some ⟨g, 0, none⟩ ∧ w.cell? ⟨g, j, none⟩ = some (.int .i64 (ls.getD j 0)) := by
  obtain ⟨g, h1, h2⟩ := OwnR.at h (by omega)
  have := OwnJ.len h
  refine ⟨g, h1, h2 _ _ ?_⟩
  rw [jcells, List.getElem?_map, List.getElem?_eq_getElem (by omega), List.getD_eq_getElem?_getD, List.getElem?_eq_getElem (by omega)]; rfl
theorem OwnE.cell {w : World} {B : Nat} {a : Option Addr} {n cap : Nat} {es : List En} (h : OwnE w B a n cap es) {j : Nat} (hj : j < n) : ∃ g, a = some ⟨g, 0, none⟩ ∧ w.cell? ⟨g, j * 2, none⟩ = some (.string (es.getD j (⟨#[]⟩, ⟨#[]⟩)).1) ∧ w.cell? ⟨g, j * 2 + 1, none⟩ = some (.string (es.getD j (⟨#[]⟩, ⟨#[]⟩)).2) := by
  obtain ⟨g, h1, h2⟩ := OwnR.at h (by omega)
  have := OwnE.len h
  have := ecells_get es j (by omega)
  exact ⟨g, h1, h2 _ _ this.1, h2 _ _ this.2⟩
theorem range_count {α : Type} (p : α → Bool) (d : α) (l : List α) : ((List.range l.length).filter (fun i => p (l.getD i d))).length = (l.filter p).length := by
  induction l with
  | nil => rfl
  | cons a l ih =>
    rw [List.length_cons, List.range_succ_eq_map, List.filter_cons, List.filter_map, List.filter_cons]
    have e : (fun i => p ((a :: l).getD i d)) ∘ Nat.succ = fun i => p (l.getD i d) := rfl
    rw [e, List.getD_cons_zero]
    split
    · rw [List.length_cons, List.length_cons, List.length_map, ih]
    · rw [List.length_map, ih]
/-- The slots of a group. -/
def grp (z : List Cl) (g : Nat) : List Cl := (z.drop (8 * g)).take 8
theorem take_grp (z : List Cl) (g : Nat) : z.take (8 * (g + 1)) = z.take (8 * g) ++ grp z g := by
  rw [show 8 * (g + 1) = 8 * g + 8 by omega, List.take_add]; rfl
theorem slots_count {z : List Cl} {G g : Nat} (hz : z.length = 8 * G) (hg : g < G) (p : Nat → Bool) : (slots (fun i => p ((wrd z g).getD i 0)) 8).length = ((grp z g).filter (fun c => p c.1)).length := by
  have hl : (grp z g).length = 8 := by unfold grp; rw [List.length_take, List.length_drop]; omega
  rw [← range_count (fun c : Cl => p c.1) noC (grp z g), hl]
  unfold slots
  congr 1
  refine List.filter_congr fun i hi => ?_
  rw [List.mem_range] at hi
  rw [wrd_get hz hg hi, cel, List.getD_eq_getElem?_getD, List.getD_eq_getElem?_getD, grp, List.getElem?_take, if_pos hi, List.getElem?_drop]
theorem count_full {z : List Cl} {G g : Nat} (hz : z.length = 8 * G) (hg : g < G) : (slots (ful (wrd z g)) 8).length = (ents (grp z g)).length := by
  have := slots_count hz hg (fun b => !decide (128 ≤ b))
  unfold ents
  rw [List.length_map]
  refine Eq.trans this (congrArg List.length (List.filter_congr fun c _ => ?_))
  unfold full
  by_cases h : c.1 < 128
  · rw [decide_eq_true h, decide_eq_false (by omega)]; rfl
  · rw [decide_eq_false h, decide_eq_true (by omega)]; rfl
theorem len_take {z : List Cl} {G g : Nat} (hz : z.length = 8 * G) (hg : g < G) : (ents (z.take (8 * (g + 1)))).length = (ents (z.take (8 * g))).length + (slots (ful (wrd z g)) 8).length := by
  rw [take_grp, ents_append, List.length_append, count_full hz hg]
theorem Len_any (B p b x G : Nat) (z : List Cl) (w : World) (hT : Tab w B p b x G z) : Calls Tryz.prog 139 #[ptr p] w fun e w' => e = .returned (.int .i64 ((ents z).length : Nat)) ∧ w' = w := by
  have hc := hT.top.groups
  have hG := hT.inv.grp.le
  have HT : Hid (Tab w B p b x G z) := hT
  have HL : Hid (z.length = 8 * G) := hT.inv.len
  clear hT
  go_enter Tryz.func139, Tryz.ntmps139
  go_wp2
  go_loopg [3, 4, 10] G (fun q nv iv jv wr => w = wr ∧ ∃ g : Nat, g + q = G ∧ jv = .int .i64 g ∧ nv = .int .i64 ((ents (z.take (8 * g))).length : Nat))
  case atStart => exact ⟨rfl, 0, by omega, rfl, rfl⟩
  case round =>
    obtain ⟨rfl, g, hg, rfl, rfl⟩ := hrel
    by_cases h8 : (g : Int) < G
    · have hgG : g < G := by omega
      have hw := HT.out.row.word hgG
      have HC := fun w => Count_any (HT.out.inv.ok hgG) w
      have HN : Hid ((ents (z.take (8 * (g + 1)))).length = (ents (z.take (8 * g))).length + (slots (ful (wrd z g)) 8).length) := len_take HL.out hgG
      have hl1 := slots_len (ful (wrd z g)) 8
      have hl2 : (ents (z.take (8 * g))).length ≤ 128 := by
        have := ents_len_le (z.take (8 * g))
        rw [List.length_take] at this
        have := HL.out
        omega
      generalize (ents (z.take (8 * g))).length = n at HN hl2 ⊢
      generalize (slots (ful (wrd z g)) 8).length = m at HN hl1 HC
      generalize val (wrd z g) = wv at hw HC
      go_wp2_with fail
      refine (HC _).mono ?_
      rintro e w ⟨rfl, rfl⟩
      go_wp2
      go_roundg (gk - 1)
      case measure => omega
      case rel => exact ⟨rfl, g + 1, by omega, by go_num, by rw [HN.out]; go_num⟩
    · have HE : Hid (z.take (8 * g) = z) := by show _ = _; rw [List.take_of_length_le (by have := HL.out; omega)]
      rw [HE.out]
      go_wp2
      go_ret
      exact ⟨rfl, rfl⟩
/-- Where a new key is laid: the first slot that is free on the way of its hash. -/
def Spr (z : List Cl) (G h : Nat) (g i : Nat) : Prop := ∃ j, j < G ∧ gAt G h j = g ∧ i < 8 ∧ 128 ≤ (cel z (8 * g + i)).1 ∧ (∀ s, s < i → (cel z (8 * g + s)).1 < 128) ∧ ∀ j', j' < j → ∀ s, s < 8 → (cel z (8 * gAt G h j' + s)).1 < 128
theorem Spr.one {z : List Cl} {G h g i g' i' : Nat} (h1 : Spr z G h g i) (h2 : Spr z G h g' i') : g = g' ∧ i = i' := by
  obtain ⟨j, a1, a2, a3, a4, a5, a6⟩ := h1
  obtain ⟨j', b1, b2, b3, b4, b5, b6⟩ := h2
  have e : j = j' := by
    rcases Nat.lt_trichotomy j j' with h | h | h
    · have := b6 j h i a3
      rw [a2] at this
      omega
    · exact h
    · have := a6 j' h i' b3
      rw [b2] at this
      omega
  subst e
  rw [a2] at b2
  subst b2
  refine ⟨rfl, ?_⟩
  rcases Nat.lt_trichotomy i i' with h | h | h
  · have := b5 i h; omega
  · exact h
  · have := a5 i' h; omega
/-- A slot in a block of its own. -/
def Box (w : World) (q : Nat) (k : ByteArray) (v : ByteArray) : Prop := w.heap[q]? = some (.cells #[.string k, .string v] 194 (0, 0))
theorem Box.lt {w : World} {q : Nat} {k : ByteArray} {v : ByteArray} (h : Box w q k v) : q < w.heap.size := (Array.getElem?_eq_some_iff.1 h).1
theorem Box.kept {w wn : World} {q : Nat} {k : ByteArray} {v : ByteArray} (h : Box w q k v) (hb : wn.heap[q]? = w.heap[q]?) : Box wn q k v := by unfold Box; rw [hb]; exact h
theorem Box.keep {w wn : World} {q : Nat} {k : ByteArray} {v : ByteArray} (h : Box w q k v) (hb : Below w.heap.size w wn) : Box wn q k v := h.kept (hb.block q h.lt)
theorem Box.key {w : World} {q : Nat} {k : ByteArray} {v : ByteArray} (h : Box w q k v) : w.cell? ⟨q, 0, none⟩ = some (.string k) := by unfold Box at h; simp [World.cell?, h]
theorem Box.vl {w : World} {q : Nat} {k : ByteArray} {v : ByteArray} (h : Box w q k v) : w.cell? ⟨q, 1, none⟩ = some (.string v) := by unfold Box at h; simp [World.cell?, h]
theorem Box.made (w : World) (k : ByteArray) (v : ByteArray) : Box (w.alloc (.cells #[.string k, .string v] 194)) w.heap.size k v := heap_alloc_new w _
theorem Box.ne {w : World} {q b G : Nat} {z : List Cl} {k : ByteArray} {v : ByteArray} (h : Box w q k v) (h' : Row w b G z) : q ≠ b := by
  rintro rfl
  obtain ⟨cs, h1, -⟩ := h'.ex
  unfold Box at h
  rw [h1] at h
  simp at h
theorem Box.ne' {w : World} {q p b x G : Nat} {k : ByteArray} {v : ByteArray} (h : Box w q k v) (h' : Top w p b x G) : q ≠ p := by
  rintro rfl
  have := h'.blk
  unfold Box at h
  rw [h] at this
  simp at this
theorem Box.moves {w w' : World} {B q p b x G : Nat} {z : List Cl} {k : ByteArray} {v : ByteArray} (h : Box w q k v) (hm : Moves w w' p b) (hT : Tab w B p b x G z) : Box w' q k v := h.kept (hm.block q h.lt (h.ne' hT.top) (h.ne hT.row))
/-- How often a text is among others. -/
def cnt (ls : List ByteArray) (s : ByteArray) : Nat := (ls.filter (fun t => decide (t = s))).length
/-- A table at p, its groups at b, by the seed x, that has es. -/
def Tbl (w : World) (B p b x : Nat) (es : List En) : Prop := ∃ G z, Tab w B p b x G z ∧ (ents z).Perm es
abbrev keysOf (es : List En) : List ByteArray := es.map (·.1)
theorem Tbl.keep {w wn : World} {B p b x : Nat} {es : List En} (h : Tbl w B p b x es) (hb : Below w.heap.size w wn) : Tbl wn B p b x es := by
  obtain ⟨G, z, h1, h2⟩ := h
  exact ⟨G, z, h1.keep hb, h2⟩
theorem Tbl.nod {w : World} {B p b x : Nat} {es : List En} (h : Tbl w B p b x es) : (keysOf es).Nodup := by
  obtain ⟨G, z, h1, h2⟩ := h
  exact (h2.map (·.1)).nodup_iff.1 h1.inv.nod
theorem Tbl.le {w : World} {B p b x : Nat} {es : List En} (h : Tbl w B p b x es) : es.length ≤ 112 := by
  obtain ⟨G, z, h1, h2⟩ := h
  have := h1.inv.room
  have := h1.inv.grp.le
  have := h2.length_eq
  omega
theorem Tbl.lt {w : World} {B p b x : Nat} {es : List En} (h : Tbl w B p b x es) : p < w.heap.size ∧ b < w.heap.size ∧ B ≤ p ∧ B ≤ b := by
  obtain ⟨G, z, h1, h2⟩ := h
  exact ⟨h1.top.lt, h1.row.lt, h1.low, h1.lowb⟩
theorem Tbl.low {w : World} {B C p b x : Nat} {es : List En} (h : Tbl w B p b x es) (hC : C ≤ B) : Tbl w C p b x es := by
  obtain ⟨G, z, h1, h2⟩ := h
  exact ⟨G, z, ⟨h1.top, h1.row, Nat.le_trans hC h1.low, Nat.le_trans hC h1.lowb, h1.inv, h1.seed, h1.siz⟩, h2⟩
theorem Tbl.perm {w : World} {B p b x : Nat} {es fs : List En} (h : Tbl w B p b x es) (hp : es.Perm fs) : Tbl w B p b x fs := by
  obtain ⟨G, z, h1, h2⟩ := h
  exact ⟨G, z, h1, h2.trans hp⟩
/-- Two tables, side by side. -/
theorem Tbl.ne {w : World} {B C p b x q c y : Nat} {es fs : List En} (h : Tbl w B p b x es) (h' : Tbl w C q c y fs) : p ≠ c := by
  obtain ⟨G, z, h1, -⟩ := h
  obtain ⟨G', z', h2, -⟩ := h'
  exact h1.top.ne h2.row
theorem Tbl.moves {w w' : World} {B C p b x q c y : Nat} {es fs : List En} (h : Tbl w B p b x es) (h' : Tbl w C q c y fs) (hm : Moves w w' q c) (h1 : p ≠ q) (h2 : b ≠ c) : Tbl w' B p b x es := by
  have h3 := h.ne h'
  have h4 := (h'.ne h).symm
  obtain ⟨G, z, k1, k2⟩ := h
  exact ⟨G, z, k1.moves hm h1 h2 h3 h4, k2⟩
theorem Tbl.grown {w w2 : World} {B C p b x : Nat} {es : List En} {e : TypeId} {s : Nat} {a : Option Addr} {n cap : Nat} {cs : List Value} (h : Tbl w B p b x es) (h' : OwnR w C e s a n cap cs) (hg : w.grownBy w2 (a.map (·.block))) (h1 : e ≠ 190) (h2 : e ≠ 198) : Tbl w2 B p b x es := by
  obtain ⟨G, z, k1, k2⟩ := h
  exact ⟨G, z, k1.grown h' hg h1 h2, k2⟩
theorem Tbl.below {w w' : World} {B p b x : Nat} {es : List En} (h : Tbl w B p b x es) (hm : Moves w w' p b) : Below B w w' := by
  have := h.lt
  exact hm.below this.2.2.1 this.2.2.2 (by omega)
/-- Has a number that bit, and is it 1? -/
def bset (h : Nat) (bit : Int) : Bool := decide (0 ≤ bit ∧ bit < 64) && decide (h / 2 ^ bit.toNat % 2 = 1)
/-- Two tables, side by side, that need not have the same. -/
structure Pair (w : World) (B p b x : Nat) (es : List En) (q c : Nat) (fs : List En) : Prop where
  one : Tbl w B p b x es
  two : Tbl w B q c x fs
  ne : p ≠ q
  neb : b ≠ c
theorem Pair.keep {w wn : World} {B p b x q c : Nat} {es fs : List En} (h : Pair w B p b x es q c fs) (hb : Below w.heap.size w wn) : Pair wn B p b x es q c fs := ⟨h.one.keep hb, h.two.keep hb, h.ne, h.neb⟩
theorem Pair.first {w w1 : World} {B p b b1 x q c : Nat} {es es1 fs : List En} (h : Pair w B p b x es q c fs) (hm : Moves w w1 p b) (hT : Tbl w1 B p b1 x es1) (hb : b1 = b ∨ w.heap.size ≤ b1) : Pair w1 B p b1 x es1 q c fs := by
  refine ⟨hT, h.two.moves h.one hm h.ne.symm h.neb.symm, h.ne, ?_⟩
  have := h.two.lt
  rcases hb with rfl | hb
  · exact h.neb
  · omega
/-- The keys whose hash has that bit; those whose hash has not. -/
def onesOf (x : Nat) (bit : Int) (es : List En) : List En := es.filter fun e => bset (hsh x e.1) bit
def zerosOf (x : Nat) (bit : Int) (es : List En) : List En := es.filter fun e => !bset (hsh x e.1) bit
/-- A slice of elements of one cell that reads cs, with its room. -/
structure RdR (w : World) (a : Option Addr) (n cap : Nat) (cs : List Value) : Prop where
  len : cs.length = n
  fit : n ≤ cap
  max : cap ≤ maxLen
  nul : a = none → cap = 0
  cell : ∀ j u, cs[j]? = some u → ∃ b off, a = some ⟨b, off, none⟩ ∧ w.cell? ⟨b, off + j, none⟩ = some u
theorem RdR.keep {w wn : World} {a : Option Addr} {n cap : Nat} {cs : List Value} (h : RdR w a n cap cs) (hb : Below w.heap.size w wn) : RdR wn a n cap cs :=
  ⟨h.len, h.fit, h.max, h.nul, fun j u hu => by
    obtain ⟨b, off, e, hc⟩ := h.cell j u hu
    exact ⟨b, off, e, by rw [hb.cell (p := ⟨b, off + j, none⟩) (World.block_lt_of_cell? _ _ hc)]; exact hc⟩⟩
theorem OwnR.rd {w : World} {B : Nat} {e : TypeId} {a : Option Addr} {n cap : Nat} {cs : List Value} (h : OwnR w B e 1 a n cap cs) : RdR w a n cap cs := by
  have hl := h.len
  rw [Nat.mul_one] at hl
  refine ⟨hl, h.cap.1, h.cap.2, ?_, ?_⟩
  · intro ha
    rcases h.2 with ⟨h2, h3⟩ | ⟨g, c, cur, h1, h3⟩
    · cases h2; rfl
    · cases h1; cases ha
  · intro j u hu
    have hj : j < cs.length := by
      rcases Nat.lt_or_ge j cs.length with h | h
      · exact h
      · rw [List.getElem?_eq_none h] at hu; cases hu
    obtain ⟨g, ha, hc⟩ := h.at (by omega)
    exact ⟨g, 0, ha, by rw [Nat.zero_add]; exact hc j u hu⟩
theorem RdR.grown {w w2 : World} {g n cap : Nat} {cs : List Value} {row : Option Nat} (h : RdR w (some ⟨g, 0, none⟩) n cap cs) (hg : w.grownBy w2 row) (hne : row ≠ some g) : RdR w2 (some ⟨g, 0, none⟩) n cap cs :=
  ⟨h.len, h.fit, h.max, h.nul, fun j u hu => by
    obtain ⟨b, off, e, hc⟩ := h.cell j u hu
    cases e
    refine ⟨g, 0, rfl, ?_⟩
    rw [World.cell?_of_block (w := w) (a := ⟨g, 0 + j, none⟩) (hg.block g (World.block_lt_of_cell? _ _ hc) (fun e => hne e.symm))]
    exact hc⟩
/-- vals[i] = v. -/
theorem OwnJ.set {w : World} {B : Nat} {a : Option Addr} {n c : Nat} {ls : List Int} (h : OwnJ w B a n c ls) {i : Nat} (hi : i < n) (v : Int) :
    ∃ g, a = some ⟨g, 0, none⟩ ∧ B ≤ g ∧ (∃ u, w.cell? ⟨g, i, none⟩ = some u) ∧ w.frozen? ⟨g, i, none⟩ = false ∧ (∃ cur, w.heap[g]? = some (.cells cur 3 (0, 0))) ∧ OwnJ (w.setCell ⟨g, i, none⟩ (.int .i64 v)) B a n c (ls.set i v) := by
  have hlen := OwnJ.len h
  obtain ⟨g0, ha0, hc0⟩ := OwnJ.cell h hi
  rcases h.2 with ⟨h2, h3⟩ | ⟨g, c', cur, h1, h3, h4, h5, h6, h7, h8⟩
  · omega
  · cases h1
    cases ha0
    refine ⟨g0, rfl, h3, ⟨_, hc0⟩, by simp [World.frozen?, h4], ⟨cur, h4⟩, by simp [jcells, hlen], .inr ⟨g0, c, cur.setIfInBounds i (.int .i64 v), rfl, h3, heap_set h4 _, h5, h6, by simpa using h7, ?_⟩⟩
    rw [Array.toList_setIfInBounds, Nat.mul_one, List.take_set]
    rw [Nat.mul_one] at h8
    rw [h8, jcells, jcells, List.map_set]
end Go.Proofs.YtikimcbalkhooaaGreatDoor.Dk
namespace Go.Proofs.YtikimcbalkhooaaGreatDoor.Dk
theorem mod_succ (d c : Nat) : c % 2 ^ (d + 1) = 2 ^ d * (c / 2 ^ d % 2) + c % 2 ^ d := by
  rw [Nat.pow_succ, Nat.mod_mul, Nat.add_comm]
theorem pow_pos (d : Nat) : 0 < 2 ^ d := Nat.pow_pos (by decide)
end Go.Proofs.YtikimcbalkhooaaGreatDoor.Dk
namespace Go.Proofs.YtikimcbalkhooaaGreatDoor.Dk
open Go.RowKit Go.PlainAid
end Go.Proofs.YtikimcbalkhooaaGreatDoor.Dk
namespace Go.Proofs.YtikimcbalkhooaaGreatDoor.Dk
/-- A part: its own depth, its bits. -/
abbrev Pt := Nat × Nat
/-- Does a hash belong to a part (own depth, bits)? -/
def isIn (s : Pt) (h : Nat) : Bool := decide (h % 2 ^ s.1 = s.2)
theorem isIn_iff {s : Pt} {h : Nat} : isIn s h = true ↔ h % 2 ^ s.1 = s.2 := decide_eq_true_iff
theorem isIn_no {s : Pt} {h : Nat} : isIn s h = false ↔ h % 2 ^ s.1 ≠ s.2 := decide_eq_false_iff_not
def Apart (s t : Pt) : Prop := ∀ h, isIn s h = true → isIn t h = false
theorem Apart.symm {s t : Pt} (h : Apart s t) : Apart t s := fun k hk => by
  cases e : isIn s k with
  | false => rfl
  | true => have := h k e; rw [hk] at this; cases this
theorem isIn_zero {l q h : Nat} (hq : q < 2 ^ l) : isIn (l + 1, q) h = true ↔ isIn (l, q) h = true ∧ h / 2 ^ l % 2 = 0 := by
  rw [isIn_iff, isIn_iff]
  show h % 2 ^ (l + 1) = q ↔ h % 2 ^ l = q ∧ _
  rw [mod_succ]
  have h1 : h % 2 ^ l < 2 ^ l := Nat.mod_lt _ (Nat.pow_pos (by decide))
  rcases Nat.mod_two_eq_zero_or_one (h / 2 ^ l) with e | e <;> rw [e] <;> simp <;> omega
theorem isIn_one {l q h : Nat} : isIn (l + 1, q + 2 ^ l) h = true ↔ isIn (l, q) h = true ∧ h / 2 ^ l % 2 = 1 := by
  rw [isIn_iff, isIn_iff]
  show h % 2 ^ (l + 1) = q + 2 ^ l ↔ h % 2 ^ l = q ∧ _
  rw [mod_succ]
  have h1 : h % 2 ^ l < 2 ^ l := Nat.mod_lt _ (Nat.pow_pos (by decide))
  rcases Nat.mod_two_eq_zero_or_one (h / 2 ^ l) with e | e <;> rw [e] <;> simp <;> omega
/-- The parts of a directory of depth g: each hash belongs to one. -/
structure Shp (g : Nat) (sh : List Pt) : Prop where
  lt : ∀ s ∈ sh, s.2 < 2 ^ s.1 ∧ s.1 ≤ g
  le : g ≤ 16
  deep : ∃ s ∈ sh, s.1 = g
  cov : ∀ h, ∃ s ∈ sh, isIn s h = true
  dis : sh.Pairwise Apart
theorem Shp.new : Shp 0 [(0, 0)] := by
  refine ⟨?_, by decide, ⟨_, List.mem_singleton.2 rfl, rfl⟩, fun h => ⟨_, List.mem_singleton.2 rfl, ?_⟩, by simp⟩
  · intro s hs
    cases List.mem_singleton.1 hs
    simp
  · rw [isIn_iff]; simp [Nat.mod_one]
/-- The part of a hash, and that no other is. -/
theorem Shp.parts {g : Nat} {sh : List Pt} (hS : Shp g sh) (h : Nat) : ∃ a s c, sh = a ++ s :: c ∧ isIn s h = true ∧ (∀ t ∈ a, isIn t h = false) ∧ (∀ t ∈ c, isIn t h = false) := by
  obtain ⟨s, hs, hi⟩ := hS.cov h
  obtain ⟨a, c, rfl⟩ := List.append_of_mem hs
  have hd := hS.dis
  rw [List.pairwise_append, List.pairwise_cons] at hd
  refine ⟨a, s, c, rfl, hi, fun t ht => ?_, fun t ht => hd.2.1.1 t ht h hi⟩
  exact (hd.2.2 t ht s (by simp)).symm h hi
theorem Shp.split {g : Nat} {a c : List Pt} {l q : Nat} (hS : Shp g (a ++ (l, q) :: c)) (hl : l < 16) : Shp (max g (l + 1)) (a ++ (l + 1, q) :: (c ++ [(l + 1, q + 2 ^ l)])) := by
  have hq := hS.lt (l, q) (by simp)
  have hp : 2 ^ (l + 1) = 2 * 2 ^ l := by rw [Nat.pow_succ, Nat.mul_comm]
  refine ⟨?_, ?_, ?_, ?_, ?_⟩
  · intro s hs
    simp only [List.mem_append, List.mem_cons, List.not_mem_nil, or_false] at hs
    rcases hs with hs | rfl | hs | rfl
    · have := hS.lt s (by simp [hs]); omega
    · simp only [hp]; simp only at hq; omega
    · have := hS.lt s (by simp [hs]); omega
    · simp only [hp]; simp only at hq; omega
  · have := hS.le; omega
  · by_cases e : l + 1 ≤ g
    · obtain ⟨s, hs, he⟩ := hS.deep
      simp only [List.mem_append, List.mem_cons] at hs
      rcases hs with hs | rfl | hs
      · exact ⟨s, by simp [hs], by omega⟩
      · simp only at he; omega
      · exact ⟨s, by simp [hs], by omega⟩
    · exact ⟨(l + 1, q), by simp, by simp only; omega⟩
  · intro h
    obtain ⟨s, hs, hi⟩ := hS.cov h
    simp only [List.mem_append, List.mem_cons] at hs
    rcases hs with hs | rfl | hs
    · exact ⟨s, by simp [hs], hi⟩
    · rcases Nat.mod_two_eq_zero_or_one (h / 2 ^ l) with e | e
      · exact ⟨(l + 1, q), by simp, (isIn_zero hq.1).2 ⟨hi, e⟩⟩
      · exact ⟨(l + 1, q + 2 ^ l), by simp, isIn_one.2 ⟨hi, e⟩⟩
    · exact ⟨s, by simp [hs], hi⟩
  · have hd := hS.dis
    rw [List.pairwise_append, List.pairwise_cons] at hd
    obtain ⟨h1, ⟨h2, h3⟩, h4⟩ := hd
    have z0 : ∀ t, Apart (l, q) t → Apart (l + 1, q) t := fun t ht h hh => ht h ((isIn_zero hq.1).1 hh).1
    have z1 : ∀ t, Apart (l, q) t → Apart (l + 1, q + 2 ^ l) t := fun t ht h hh => ht h (isIn_one.1 hh).1
    have z2 : Apart (l + 1, q) (l + 1, q + 2 ^ l) := by
      intro h hh
      have h0 := ((isIn_zero hq.1).1 hh).2
      cases e : isIn (l + 1, q + 2 ^ l) h with
      | false => rfl
      | true => have h1 := (isIn_one.1 e).2; rw [h0] at h1; cases h1
    rw [List.pairwise_append, List.pairwise_cons, List.pairwise_append]
    refine ⟨h1, ⟨?_, h3, by simp, ?_⟩, ?_⟩
    · intro t ht
      simp only [List.mem_append, List.mem_cons, List.not_mem_nil, or_false] at ht
      rcases ht with ht | rfl
      · exact z0 t (h2 t ht)
      · exact z2
    · intro t ht s hs
      cases List.mem_singleton.1 hs
      exact (z1 t (h2 t ht)).symm
    · intro t ht s hs
      simp only [List.mem_append, List.mem_cons, List.not_mem_nil, or_false] at hs
      rcases hs with rfl | hs | rfl
      · exact (z0 t (h4 t ht (l, q) (by simp)).symm).symm
      · exact h4 t ht s (by simp [hs])
      · exact (z1 t (h4 t ht (l, q) (by simp)).symm).symm
/-- Two that a hash belongs to are one. -/
theorem Shp.one {g : Nat} {sh : List Pt} (hS : Shp g sh) {i j : Nat} (hi : i < sh.length) (hj : j < sh.length) {h : Nat} (h1 : isIn sh[i] h = true) (h2 : isIn sh[j] h = true) : i = j := by
  rcases Nat.lt_trichotomy i j with h3 | h3 | h3
  · have := List.pairwise_iff_getElem.1 hS.dis i j hi hj h3 h h1
    rw [h2] at this; cases this
  · exact h3
  · have := List.pairwise_iff_getElem.1 hS.dis j i hj hi h3 h h2
    rw [h1] at this; cases this
/-- A hash and its lowest bits belong to the same. -/
theorem isIn_low {s : Pt} {g : Nat} (hs : s.1 ≤ g) (h : Nat) : isIn s (h % 2 ^ g) = isIn s h := by
  unfold isIn
  have : h % 2 ^ g % 2 ^ s.1 = h % 2 ^ s.1 := Nat.mod_mod_of_dvd _ (Nat.pow_dvd_pow 2 hs)
  rw [this]
theorem isIn_self {s : Pt} (hs : s.2 < 2 ^ s.1) : isIn s s.2 = true := isIn_iff.2 (Nat.mod_eq_of_lt hs)
end Go.Proofs.YtikimcbalkhooaaGreatDoor.Dk
namespace Go.Proofs.YtikimcbalkhooaaGreatDoor.Dk
open Go.RowKit Go.PlainAid
/-- All is as it was, but for the blocks of M and what is new. -/
structure Stay (w w' : World) (M : List Nat) : Prop where
  os : w'.os = w.os
  tape : w'.tape = w.tape
  output : w'.output = w.output
  size : w.heap.size ≤ w'.heap.size
  block : ∀ k, k < w.heap.size → k ∉ M → w'.heap[k]? = w.heap[k]?
theorem Stay.of_below {w w' : World} (h : Below w.heap.size w w') (M : List Nat) : Stay w w' M := ⟨h.os, h.tape, h.output, h.size, fun k hk _ => h.block k hk⟩
theorem Stay.trans {w w1 w2 : World} {M M' : List Nat} (h : Stay w w1 M) (k : Stay w1 w2 M') (hM : ∀ i ∈ M', i ∈ M ∨ w.heap.size ≤ i) : Stay w w2 M :=
  ⟨k.os.trans h.os, k.tape.trans h.tape, k.output.trans h.output, Nat.le_trans h.size k.size, fun i hi hn =>
    (k.block i (Nat.lt_of_lt_of_le hi h.size) (fun hm => (hM i hm).elim hn (fun h1 => by omega))).trans (h.block i hi hn)⟩
theorem Stay.mono {w w' : World} {M M' : List Nat} (h : Stay w w' M) (hM : ∀ i ∈ M, i ∈ M') : Stay w w' M' :=
  ⟨h.os, h.tape, h.output, h.size, fun k hk hn => h.block k hk (fun hm => hn (hM k hm))⟩
theorem Stay.below {w w' : World} {M : List Nat} {B : Nat} (h : Stay w w' M) (hM : ∀ i ∈ M, B ≤ i) (hB : B ≤ w.heap.size) : Below B w w' :=
  ⟨h.os, h.tape, h.output, h.size, fun k hk => h.block k (Nat.lt_of_lt_of_le hk hB) (fun hm => by have := hM k hm; omega)⟩
theorem Stay.set {w : World} {q o : Nat} {v : Value} : Stay w (w.setCell ⟨q, o, none⟩ v) [q] :=
  ⟨rfl, rfl, rfl, by simp [World.setCell], fun k _ h1 => Below.heap_setCell _ _ _ _ (by simpa using h1)⟩
theorem Stay.grown {w w2 : World} {row : Option Nat} {M : List Nat} (h : w.grownBy w2 row) (hr : ∀ g, row = some g → g ∈ M) : Stay w w2 M :=
  ⟨h.os, h.tape, h.output, h.size, fun k hk hn => h.block k hk (fun e => hn (hr k e.symm))⟩
theorem Top.stay {w w' : World} {p b x G : Nat} {M : List Nat} (h : Top w p b x G) (hs : Stay w w' M) (hp : p ∉ M) : Top w' p b x G := h.kept (hs.block p h.lt hp)
theorem Tab.stay {w w' : World} {B p b x G : Nat} {z : List Cl} {M : List Nat} (h : Tab w B p b x G z) (hs : Stay w w' M) (hp : p ∉ M) (hb : b ∉ M) : Tab w' B p b x G z :=
  ⟨h.top.stay hs hp, h.row.kept (hs.block b h.row.lt hb), h.low, h.lowb, h.inv, h.seed, h.siz⟩
theorem Tab.lower {w : World} {B C p b x G : Nat} {z : List Cl} (h : Tab w B p b x G z) (hC : C ≤ B) : Tab w C p b x G z :=
  ⟨h.top, h.row, Nat.le_trans hC h.low, Nat.le_trans hC h.lowb, h.inv, h.seed, h.siz⟩
theorem OwnR.stay {w w' : World} {B : Nat} {e : TypeId} {s : Nat} {a : Option Addr} {n cap : Nat} {cs : List Value} {M : List Nat} (h : OwnR w B e s a n cap cs) (hs : Stay w w' M) (hd : ∀ k, a.map (·.block) = some k → k ∉ M) : OwnR w' B e s a n cap cs :=
  h.kept fun k hk => hs.block k (h.lt hk).2.1 (hd k hk)
/-- Rows of pointers. -/
def pcells (ls : List Nat) : List Value := ls.map ptr
abbrev OwnP (w : World) (B : Nat) (e : TypeId) (a : Option Addr) (n cap : Nat) (ls : List Nat) : Prop := OwnR w B e 1 a n cap (pcells ls)
theorem OwnP.len {w : World} {B : Nat} {e : TypeId} {a : Option Addr} {n cap : Nat} {ls : List Nat} (h : OwnP w B e a n cap ls) : ls.length = n := by have := OwnR.len h; simpa [pcells] using this
theorem OwnP.cell {w : World} {B : Nat} {e : TypeId} {g n cap : Nat} {ls : List Nat} (h : OwnP w B e (some ⟨g, 0, none⟩) n cap ls) {j p : Nat} (hj : ls[j]? = some p) : w.cell? ⟨g, j, none⟩ = some (ptr p) := by
  have hl := OwnP.len h
  have hlt : j < ls.length := by
    rcases Nat.lt_or_ge j ls.length with h1 | h1
    · exact h1
    · rw [List.getElem?_eq_none h1] at hj; cases hj
  obtain ⟨g', h1, h2⟩ := OwnR.at h (by omega)
  cases h1
  exact h2 _ _ (by rw [pcells, List.getElem?_map, hj]; rfl)
/-- A table: where it lies, its slots. -/
structure Tb where
  p : Nat
  b : Nat
  G : Nat
  z : List Cl
def Tb.es (t : Tb) : List En := ents t.z
def Tb.fp (t : Tb) : List Nat := [t.p, t.b]
def tsEs (ts : List Tb) : List En := ts.flatMap Tb.es
def tsFp (ts : List Tb) : List Nat := ts.flatMap Tb.fp
/-- A leaf: its own depth, its bits; where it lies, where the row of its tables; its tables. -/
structure Lf where
  l : Nat
  q : Nat
  a : Nat
  tb : Nat
  cap : Nat
  ts : List Tb
def Lf.es (f : Lf) : List En := tsEs f.ts
def Lf.fp (f : Lf) : List Nat := f.a :: f.tb :: tsFp f.ts
def Lf.pt (f : Lf) : Pt := (f.l, f.q)
theorem tsEs_append (a b : List Tb) : tsEs (a ++ b) = tsEs a ++ tsEs b := List.flatMap_append ..
theorem tsEs_cons (t : Tb) (b : List Tb) : tsEs (t :: b) = t.es ++ tsEs b := List.flatMap_cons ..
theorem tsEs_one (t : Tb) : tsEs [t] = t.es := by rw [tsEs_cons]; exact List.append_nil _
theorem tsFp_append (a b : List Tb) : tsFp (a ++ b) = tsFp a ++ tsFp b := List.flatMap_append ..
theorem tsFp_cons (t : Tb) (b : List Tb) : tsFp (t :: b) = t.p :: t.b :: tsFp b := by rw [tsFp, List.flatMap_cons]; rfl
theorem mem_tsFp {ts : List Tb} {t : Tb} (h : t ∈ ts) : t.p ∈ tsFp ts ∧ t.b ∈ tsFp ts :=
  ⟨List.mem_flatMap.2 ⟨t, h, by simp [Tb.fp]⟩, List.mem_flatMap.2 ⟨t, h, by simp [Tb.fp]⟩⟩
/-- A leaf in memory. -/
structure Leaf (w : World) (B x : Nat) (f : Lf) : Prop where
  blk : w.heap[f.a]? = some (.cells #[.int .i64 (f.l : Nat), .slice (some ⟨f.tb, 0, none⟩) f.ts.length f.cap] 187 (0, 0))
  row : OwnP w B 132 (some ⟨f.tb, 0, none⟩) f.ts.length f.cap (f.ts.map (·.p))
  tab : ∀ t ∈ f.ts, Tab w B t.p t.b x t.G t.z
  low : B ≤ f.a
  nod : f.fp.Nodup
  key : (keysOf f.es).Nodup
  pos : 0 < f.ts.length
theorem Leaf.lt {w : World} {B x : Nat} {f : Lf} (h : Leaf w B x f) : f.a < w.heap.size := (Array.getElem?_eq_some_iff.1 h.blk).1
theorem Leaf.fplt {w : World} {B x : Nat} {f : Lf} (h : Leaf w B x f) : ∀ k ∈ f.fp, B ≤ k ∧ k < w.heap.size := by
  intro k hk
  rcases List.mem_cons.1 hk with rfl | hk
  · exact ⟨h.low, h.lt⟩
  rcases List.mem_cons.1 hk with rfl | hk
  · have := OwnR.lt h.row (k := f.tb) rfl
    exact ⟨this.1, this.2.1⟩
  · obtain ⟨t, ht, hk⟩ := List.mem_flatMap.1 hk
    have hT := h.tab t ht
    simp only [Tb.fp, List.mem_cons, List.not_mem_nil, or_false] at hk
    rcases hk with rfl | rfl
    · exact ⟨hT.low, hT.top.lt⟩
    · exact ⟨hT.lowb, hT.row.lt⟩
theorem Leaf.stay {w w' : World} {B x : Nat} {f : Lf} {M : List Nat} (h : Leaf w B x f) (hs : Stay w w' M) (hd : ∀ k ∈ f.fp, k ∉ M) : Leaf w' B x f := by
  refine ⟨by rw [hs.block f.a h.lt (hd _ (by simp [Lf.fp]))]; exact h.blk, OwnR.stay h.row hs (fun k hk => hd k (by cases hk; simp [Lf.fp])), fun t ht => (h.tab t ht).stay hs (hd _ ?_) (hd _ ?_), h.low, h.nod, h.key, h.pos⟩
  · exact List.mem_cons_of_mem _ (List.mem_cons_of_mem _ (mem_tsFp ht).1)
  · exact List.mem_cons_of_mem _ (List.mem_cons_of_mem _ (mem_tsFp ht).2)
theorem Leaf.keep {w w' : World} {B x : Nat} {f : Lf} (h : Leaf w B x f) (hb : Below w.heap.size w w') : Leaf w' B x f := h.stay (Stay.of_below hb []) (fun _ _ => by simp)
theorem Leaf.own {w : World} {B x : Nat} {f : Lf} (h : Leaf w B x f) : w.cell? ⟨f.a, 0, none⟩ = some (.int .i64 (f.l : Nat)) := by simp [World.cell?, h.blk]
theorem Leaf.frozen {w : World} {B x : Nat} {f : Lf} (h : Leaf w B x f) (o : Nat) : w.frozen? ⟨f.a, o, none⟩ = false := by simp [World.frozen?, h.blk]
theorem Leaf.at {w : World} {B x : Nat} {f : Lf} (h : Leaf w B x f) {i : Nat} {t : Tb} (hi : f.ts[i]? = some t) : w.cell? ⟨f.tb, i, none⟩ = some (ptr t.p) :=
  OwnP.cell h.row (by rw [List.getElem?_map, hi]; rfl)
theorem Leaf.max {w : World} {B x : Nat} {f : Lf} (h : Leaf w B x f) : f.ts.length ≤ 9223372036854775807 := by have := OwnR.cap h.row; unfold maxLen at this; omega
theorem get_of_lt {α : Type} {l : List α} {i : Nat} (hi : i < l.length) : ∃ t, l[i]? = some t ∧ t ∈ l := ⟨l[i], List.getElem?_eq_getElem hi, List.getElem_mem hi⟩
theorem keysOf_append (a b : List En) : keysOf (a ++ b) = keysOf a ++ keysOf b := List.map_append ..
/-- Block g has these cells. -/
def Bk (w : World) (g : Nat) (cur : List Value) : Prop := w.heap[g]? = some (.cells cur.toArray 132 (0, 0))
theorem Bk.lt {w : World} {g : Nat} {cur : List Value} (h : Bk w g cur) : g < w.heap.size := (Array.getElem?_eq_some_iff.1 h).1
theorem Bk.cell {w : World} {g : Nat} {cur : List Value} (h : Bk w g cur) (j : Nat) : w.cell? ⟨g, j, none⟩ = cur[j]? := by
  have h' : w.heap[g]? = some (.cells cur.toArray 132 (0, 0)) := h
  simp [World.cell?, h']
theorem Bk.frozen {w : World} {g : Nat} {cur : List Value} (h : Bk w g cur) (j : Nat) : w.frozen? ⟨g, j, none⟩ = false := by
  have h' : w.heap[g]? = some (.cells cur.toArray 132 (0, 0)) := h
  simp [World.frozen?, h']
theorem Bk.drew {w : World} {g : Nat} {cur : List Value} (h : Bk w g cur) : Bk w.drew g cur := h
theorem OwnP.parts {w : World} {B : Nat} {a : Option Addr} {n c : Nat} {l : List Nat} (h : OwnP w B 132 a n c l) (h0 : 0 < n) :
    ∃ g cur, a = some ⟨g, 0, none⟩ ∧ B ≤ g ∧ Bk w g cur ∧ n ≤ c ∧ c ≤ maxLen ∧ cur.length = c ∧ cur.take n = pcells l := by
  rcases h.2 with ⟨h2, h3⟩ | ⟨g, c', cur, h1, h3, h4, h5, h6, h7, h8⟩
  · omega
  · cases h1
    refine ⟨g, cur.toList, rfl, h3, by show _ = _; simpa using h4, h5, h6, by simpa using h7, ?_⟩
    simpa using h8
/-- No table of a leaf has nothing, but where it is the only one. -/
def Ful (f : Lf) : Prop := f.ts.length = 1 ∨ ∀ t ∈ f.ts, 0 < t.es.length
theorem Ful.le {f : Lf} (h : Ful f) : f.ts.length ≤ f.es.length + 1 := by
  rcases h with h | h
  · omega
  · unfold Lf.es
    generalize f.ts = ts at h
    have : ts.length ≤ (tsEs ts).length := by
      induction ts with
      | nil => exact Nat.zero_le _
      | cons t ts ih =>
        have h1 := h t (by simp)
        have h2 := ih (fun u hu => h u (List.mem_cons_of_mem _ hu))
        rw [tsEs_cons, List.length_append, List.length_cons]
        omega
    omega
/-- What becomes of a leaf: it lies in what was its own, and in new memory. -/
structure Grew (w w' : World) (B x : Nat) (f f' : Lf) : Prop where
  leaf : Leaf w' B x f'
  stay : Stay w w' f.fp
  fps : ∀ j ∈ f'.fp, j ∈ f.fp ∨ w.heap.size ≤ j
  l : f'.l = f.l
  q : f'.q = f.q
  a : f'.a = f.a
theorem Grew.first {w w0 w' : World} {B x : Nat} {f f' : Lf} (h : Grew w w' B x f f') (hb : Below w0.heap.size w0 w) : Grew w0 w' B x f f' :=
  ⟨h.leaf, (Stay.of_below hb f.fp).trans h.stay (fun _ hi => .inl hi), fun j hj => (h.fps j hj).imp id (fun k => Nat.le_trans hb.size k), h.l, h.q, h.a⟩
/-- One table less. -/
theorem Leaf.drop {w w3 : World} {B x : Nat} {f : Lf} {pre post : List Tb} {t : Tb} {n' c' : Nat} (h : Leaf w B x f) (e : f.ts = pre ++ t :: post) (hg : w.grownBy w3 (some f.tb)) (hO : OwnP w3 B 132 (some ⟨f.tb, 0, none⟩) n' c' ((pre ++ post).map (·.p))) (hpos : 0 < (pre ++ post).length) :
    Leaf (w3.setCell ⟨f.a, 1, none⟩ (.slice (some ⟨f.tb, 0, none⟩) n' c')) B x { f with cap := c', ts := pre ++ post } ∧ (∀ j ∈ ({ f with cap := c', ts := pre ++ post } : Lf).fp, j ∈ f.fp) := by
  have hlen : (pre ++ post).length = n' := by have := OwnP.len hO; rw [List.length_map] at this; exact this
  have hsub : ((tsFp (pre ++ post)).Sublist (tsFp f.ts)) := by
    rw [e, tsFp_append, tsFp_append, tsFp_cons]
    exact List.Sublist.append_left ((List.sublist_cons_self _ _).trans (List.sublist_cons_self _ _)) _
  have hes : (tsEs (pre ++ post)).Sublist f.es := by
    unfold Lf.es
    rw [e, tsEs_append, tsEs_append, tsEs_cons]
    exact List.Sublist.append_left (List.sublist_append_right _ _) _
  have hn := h.nod
  unfold Lf.fp at hn
  rw [List.nodup_cons, List.nodup_cons] at hn
  obtain ⟨n1, n2, n3⟩ := hn
  rw [List.mem_cons, not_or] at n1
  have hS : Stay w w3 [f.tb] := Stay.grown hg (fun g e => by cases e; simp)
  have hS2 : Stay w (w3.setCell ⟨f.a, 1, none⟩ (.slice (some ⟨f.tb, 0, none⟩) n' c')) [f.tb, f.a] :=
    (hS.mono (by simp)).trans Stay.set (fun i hi => .inl (by simp at hi; simp [hi]))
  have hblk3 : w3.heap[f.a]? = some (.cells #[.int .i64 (f.l : Nat), .slice (some ⟨f.tb, 0, none⟩) f.ts.length f.cap] 187 (0, 0)) := by
    rw [hS.block f.a h.lt (by simpa using n1.1)]; exact h.blk
  refine ⟨⟨?_, ?_, ?_, h.low, ?_, ?_, hpos⟩, ?_⟩
  · show (w3.setCell ⟨f.a, 1, none⟩ _).heap[f.a]? = some (.cells #[.int .i64 (f.l : Nat), .slice (some ⟨f.tb, 0, none⟩) (pre ++ post).length c'] 187 (0, 0))
    rw [heap_set hblk3, hlen]
    rfl
  · show OwnP _ B 132 (some ⟨f.tb, 0, none⟩) (pre ++ post).length c' ((pre ++ post).map (·.p))
    rw [hlen]
    exact OwnR.stay hO (Stay.set (q := f.a)) (fun k hk => by cases hk; simpa using fun e => n1.1 e.symm)
  · intro u hu
    have hu' : u ∈ f.ts := by rw [e]; rcases List.mem_append.1 hu with h | h <;> simp [h]
    have hm := mem_tsFp hu'
    refine (h.tab u hu').stay hS2 ?_ ?_
    · simp only [List.mem_cons, List.not_mem_nil, or_false, not_or]
      exact ⟨fun e => n2 (e ▸ hm.1), fun e => n1.2 (e ▸ hm.1)⟩
    · simp only [List.mem_cons, List.not_mem_nil, or_false, not_or]
      exact ⟨fun e => n2 (e ▸ hm.2), fun e => n1.2 (e ▸ hm.2)⟩
  · exact ((hsub.cons_cons f.tb).cons_cons f.a).nodup h.nod
  · exact (hes.map (·.1)).nodup h.key
  · intro j hj
    exact ((hsub.cons_cons f.tb).cons_cons f.a).mem hj
/-- What is in a dict: its depth; where its row of places lies, and whither they lead; its leaves. -/
structure Dg where
  g : Nat
  pb : Nat
  cap : Nat
  pl : List Nat
  L : List Lf
def shL (L : List Lf) : List Pt := L.map Lf.pt
def esL (L : List Lf) : List En := L.flatMap Lf.es
def fpL (L : List Lf) : List Nat := L.flatMap Lf.fp
def Dg.sh (D : Dg) : List Pt := shL D.L
def Dg.es (D : Dg) : List En := esL D.L
/-- A dict in memory. -/
structure Dct (w : World) (B d x : Nat) (D : Dg) : Prop where
  blk : w.heap[d]? = some (.cells #[.int .u64 (x : Nat), .int .i64 (D.es.length : Nat), .slice (some ⟨D.pb, 0, none⟩) (2 ^ D.g) D.cap] 118 (0, 0))
  row : OwnP w B 133 (some ⟨D.pb, 0, none⟩) (2 ^ D.g) D.cap D.pl
  leaf : ∀ f ∈ D.L, Leaf w B x f
  shp : Shp D.g D.sh
  dir : ∀ f ∈ D.L, ∀ i, i < 2 ^ D.g → isIn f.pt i = true → D.pl[i]? = some f.a
  own : ∀ f ∈ D.L, ∀ e ∈ f.es, isIn f.pt (hsh x e.1) = true
  one : ∀ f ∈ D.L, f.l < 16 → f.ts.length = 1
  ful : ∀ f ∈ D.L, Ful f
  nod : (d :: D.pb :: fpL D.L).Nodup
  low : B ≤ d
  seed : x < 18446744073709551616
  le : D.es.length ≤ 1000000
theorem esL_append (a b : List Lf) : esL (a ++ b) = esL a ++ esL b := List.flatMap_append ..
theorem esL_cons (f : Lf) (b : List Lf) : esL (f :: b) = f.es ++ esL b := List.flatMap_cons ..
theorem esL_one (f : Lf) : esL [f] = f.es := by rw [esL_cons]; exact List.append_nil _
theorem fpL_append (a b : List Lf) : fpL (a ++ b) = fpL a ++ fpL b := List.flatMap_append ..
theorem fpL_cons (f : Lf) (b : List Lf) : fpL (f :: b) = f.fp ++ fpL b := List.flatMap_cons ..
theorem mem_fpL {L : List Lf} {f : Lf} (h : f ∈ L) {j : Nat} (hj : j ∈ f.fp) : j ∈ fpL L := List.mem_flatMap.2 ⟨f, h, hj⟩
theorem mem_esL {L : List Lf} {f : Lf} (h : f ∈ L) {e : En} (he : e ∈ f.es) : e ∈ esL L := List.mem_flatMap.2 ⟨f, h, he⟩
theorem Dct.lt {w : World} {B d x : Nat} {D : Dg} (h : Dct w B d x D) : d < w.heap.size := (Array.getElem?_eq_some_iff.1 h.blk).1
theorem Dct.fplt {w : World} {B d x : Nat} {D : Dg} (h : Dct w B d x D) : ∀ k ∈ d :: D.pb :: fpL D.L, B ≤ k ∧ k < w.heap.size := by
  intro k hk
  rcases List.mem_cons.1 hk with rfl | hk
  · exact ⟨h.low, h.lt⟩
  rcases List.mem_cons.1 hk with rfl | hk
  · have := OwnR.lt h.row (k := D.pb) rfl
    exact ⟨this.1, this.2.1⟩
  · obtain ⟨f, hf, hk⟩ := List.mem_flatMap.1 hk
    exact (h.leaf f hf).fplt k hk
theorem Dct.stay {w w' : World} {B d x : Nat} {D : Dg} {M : List Nat} (h : Dct w B d x D) (hs : Stay w w' M) (hd : ∀ k ∈ d :: D.pb :: fpL D.L, k ∉ M) : Dct w' B d x D :=
  ⟨by rw [hs.block d h.lt (hd _ (by simp))]; exact h.blk, OwnR.stay h.row hs (fun k hk => hd k (by cases hk; simp)), fun f hf => (h.leaf f hf).stay hs (fun k hk => hd k (List.mem_cons_of_mem _ (List.mem_cons_of_mem _ (mem_fpL hf hk)))), h.shp, h.dir, h.own, h.one, h.ful, h.nod, h.low, h.seed, h.le⟩
theorem Dct.keep {w w' : World} {B d x : Nat} {D : Dg} (h : Dct w B d x D) (hb : Below w.heap.size w w') : Dct w' B d x D := h.stay (Stay.of_below hb []) (fun _ _ => by simp)
theorem Dct.ccnt {w : World} {B d x : Nat} {D : Dg} (h : Dct w B d x D) : w.cell? ⟨d, 1, none⟩ = some (.int .i64 (D.es.length : Nat)) := by simp [World.cell?, h.blk]
theorem Dct.frozen {w : World} {B d x : Nat} {D : Dg} (h : Dct w B d x D) (o : Nat) : w.frozen? ⟨d, o, none⟩ = false := by simp [World.frozen?, h.blk]
theorem Dct.len {w : World} {B d x : Nat} {D : Dg} (h : Dct w B d x D) : D.pl.length = 2 ^ D.g := OwnP.len h.row
theorem Dct.lef {w : World} {B d x : Nat} {D : Dg} (h : Dct w B d x D) {f : Lf} (hf : f ∈ D.L) : f.l ≤ D.g ∧ f.l ≤ 16 ∧ f.q < 2 ^ f.l := by
  have h1 := h.shp.lt f.pt (List.mem_map_of_mem hf)
  have h2 := h.shp.le
  simp only [Lf.pt] at h1
  omega
/-- The leaf of a hash, and that its keys belong nowhere else. -/
theorem Dct.parts {w : World} {B d x : Nat} {D : Dg} (h : Dct w B d x D) (hh : Nat) : ∃ a f c, D.L = a ++ f :: c ∧ isIn f.pt hh = true ∧ (∀ u ∈ a, isIn u.pt hh = false) ∧ (∀ u ∈ c, isIn u.pt hh = false) := by
  obtain ⟨sa, s, sc, e, h1, h2, h3⟩ := h.shp.parts hh
  unfold Dg.sh shL at e
  obtain ⟨a, l2, e1, rfl, e3⟩ := List.map_eq_append_iff.1 e
  obtain ⟨f, c, rfl, rfl, rfl⟩ := List.map_eq_cons_iff.1 e3
  exact ⟨a, f, c, e1, h1, fun u hu => h2 _ (List.mem_map_of_mem hu), fun u hu => h3 _ (List.mem_map_of_mem hu)⟩
theorem Dct.place {w : World} {B d x : Nat} {D : Dg} (h : Dct w B d x D) {f : Lf} (hf : f ∈ D.L) {hh : Nat} (hi : isIn f.pt hh = true) : D.pl[hh % 2 ^ D.g]? = some f.a ∧ hh % 2 ^ D.g < 2 ^ D.g := by
  have hlt : hh % 2 ^ D.g < 2 ^ D.g := Nat.mod_lt _ (pow_pos _)
  refine ⟨h.dir f hf _ hlt ?_, hlt⟩
  rw [isIn_low (h.lef hf).1]
  exact hi
/-- A key that is there is in the leaf of its hash. -/
theorem Dct.mem {w : World} {B d x : Nat} {D : Dg} (h : Dct w B d x D) {a c : List Lf} {f : Lf} {k : ByteArray} (e : D.L = a ++ f :: c) (h2 : ∀ u ∈ a, isIn u.pt (hsh x k) = false) (h3 : ∀ u ∈ c, isIn u.pt (hsh x k) = false) {v : ByteArray} : (k, v) ∈ D.es ↔ (k, v) ∈ f.es := by
  constructor
  · intro hm
    obtain ⟨u, hu, hm⟩ := List.mem_flatMap.1 hm
    have ho := h.own u hu _ hm
    rw [e] at hu
    rcases List.mem_append.1 hu with hu | hu
    · rw [h2 u hu] at ho; cases ho
    · rcases List.mem_cons.1 hu with rfl | hu
      · exact hm
      · rw [h3 u hu] at ho; cases ho
  · intro hm
    exact mem_esL (by rw [e]; simp) hm
theorem Len_dict (B d x : Nat) (D : Dg) (w : World) (hD : Dct w B d x D) : Calls Tryz.prog 49 #[ptr d] w fun e w' => e = .returned (.int .i64 (D.es.length : Nat)) ∧ w' = w := by
  have hc := hD.ccnt
  clear hD
  go_enter Tryz.func49, Tryz.ntmps49
  go_wp2
  go_ret
  exact ⟨rfl, rfl⟩
/-- The leaves in the order of their places. -/
def ordU (L : List Lf) (n : Nat) : List Lf := (List.range n).filterMap fun i => L.find? fun f => decide (f.q = i)
theorem Dct.same {w : World} {B d x : Nat} {D : Dg} (h : Dct w B d x D) {f u : Lf} (hf : f ∈ D.L) (hu : u ∈ D.L) {i : Nat} (h1 : isIn f.pt i = true) (h2 : isIn u.pt i = true) : f = u := by
  obtain ⟨j, hj, rfl⟩ := List.getElem_of_mem hf
  obtain ⟨k, hk, rfl⟩ := List.getElem_of_mem hu
  have hl : D.sh.length = D.L.length := List.length_map ..
  have e1 : D.sh[j]'(by omega) = D.L[j].pt := by simp [Dg.sh, shL]
  have e2 : D.sh[k]'(by omega) = D.L[k].pt := by simp [Dg.sh, shL]
  have := h.shp.one (i := j) (j := k) (by omega) (by omega) (h := i) (by rw [e1]; exact h1) (by rw [e2]; exact h2)
  subst this
  rfl
theorem Dct.self {w : World} {B d x : Nat} {D : Dg} (h : Dct w B d x D) {f : Lf} (hf : f ∈ D.L) : isIn f.pt f.q = true := isIn_self (h.lef hf).2.2
theorem Dct.find {w : World} {B d x : Nat} {D : Dg} (h : Dct w B d x D) {f : Lf} (hf : f ∈ D.L) : D.L.find? (fun u => decide (u.q = f.q)) = some f := by
  have : (D.L.find? (fun u => decide (u.q = f.q))).isSome = true := by rw [List.find?_isSome]; exact ⟨f, hf, by simp⟩
  obtain ⟨u, hu⟩ := Option.isSome_iff_exists.1 this
  have h1 := List.mem_of_find?_eq_some hu
  have h2 : u.q = f.q := by simpa using List.find?_some hu
  rw [hu]
  have := h.self h1
  rw [h2] at this
  rw [h.same h1 hf this (h.self hf)]
theorem Dct.ord_perm {w : World} {B d x : Nat} {D : Dg} (h : Dct w B d x D) : (ordU D.L (2 ^ D.g)).Perm D.L := by
  have hn : D.L.Nodup := by
    have h1 := h.shp.dis
    unfold Dg.sh shL at h1
    rw [List.pairwise_map] at h1
    unfold List.Nodup
    refine List.Pairwise.imp_of_mem ?_ h1
    intro a b ha _ hab e
    subst e
    have := hab _ (h.self ha)
    rw [h.self ha] at this
    cases this
  refine (List.perm_ext_iff_of_nodup ?_ hn).2 fun f => ?_
  · unfold ordU List.Nodup
    rw [List.pairwise_filterMap]
    refine List.Pairwise.imp ?_ List.nodup_range
    intro i j hij u hu v hv e
    subst e
    have h1 : u.q = i := by simpa using List.find?_some hu
    have h2 : u.q = j := by simpa using List.find?_some hv
    exact hij (h1.symm.trans h2)
  · unfold ordU
    rw [List.mem_filterMap]
    constructor
    · rintro ⟨i, -, hi⟩
      exact List.mem_of_find?_eq_some hi
    · intro hf
      have hl := h.lef hf
      exact ⟨f.q, List.mem_range.2 (Nat.lt_of_lt_of_le hl.2.2 (Nat.pow_le_pow_right (by decide) hl.1)), h.find hf⟩
/-- The blocks of a dict. -/
def Dg.fp (D : Dg) (d : Nat) : List Nat := d :: D.pb :: fpL D.L
/-- What becomes of a dict: it lies in what was its own, and in new memory. -/
structure Turn (w w' : World) (B d x : Nat) (D D' : Dg) : Prop where
  dct : Dct w' B d x D'
  stay : Stay w w' (D.fp d)
  fps : ∀ j ∈ D'.fp d, j ∈ D.fp d ∨ w.heap.size ≤ j
theorem Turn.first {w w0 w' : World} {B d x : Nat} {D D' : Dg} (h : Turn w w' B d x D D') (hb : Below w0.heap.size w0 w) : Turn w0 w' B d x D D' :=
  ⟨h.dct, (Stay.of_below hb _).trans h.stay (fun _ hi => .inl hi), fun j hj => (h.fps j hj).imp id (fun k => Nat.le_trans hb.size k)⟩
theorem Turn.trans {w w1 w2 : World} {B d x : Nat} {D D1 D2 : Dg} (h : Turn w w1 B d x D D1) (k : Turn w1 w2 B d x D1 D2) : Turn w w2 B d x D D2 :=
  ⟨k.dct, h.stay.trans k.stay (fun i hi => h.fps i hi), fun j hj => (k.fps j hj).elim (h.fps j) (fun e => .inr (Nat.le_trans h.stay.size e))⟩
theorem Turn.below {w w' : World} {B d x : Nat} {D D' : Dg} (h : Turn w w' B d x D D') (hD : Dct w B d x D) : Below B w w' :=
  h.stay.below (fun i hi => (hD.fplt i hi).1) (by have := hD.low; have := hD.lt; omega)
theorem Turn.refl {w w' : World} {B d x : Nat} {D : Dg} (h : Dct w B d x D) (hb : Below w.heap.size w w') : Turn w w' B d x D D := ⟨h.keep hb, Stay.of_below hb _, fun _ hj => .inl hj⟩
/-- A leaf that newLeaf made. -/
theorem Leaf.made {w1 w2 : World} {B x l a p b G : Nat} {z : List Cl} (q : Nat) (hT : Tab w1 B p b x G z) (hb : Below w1.heap.size w1 w2) (ha : w1.heap.size < a)
    (hblk : w2.heap[a]? = some (.cells #[.int .i64 (l : Nat), .slice (some ⟨w1.heap.size, 0, none⟩) 1 1] 187 (0, 0))) (hrow : OwnP w2 w1.heap.size 132 (some ⟨w1.heap.size, 0, none⟩) 1 1 [p]) (hB : B ≤ w1.heap.size) :
    Leaf w2 B x ⟨l, q, a, w1.heap.size, 1, [⟨p, b, G, z⟩]⟩ := by
  have h1 := hT.top.lt
  have h2 := hT.row.lt
  have h3 := hT.top.ne hT.row
  refine ⟨hblk, OwnR.low hrow hB, ?_, by show B ≤ a; omega, ?_, ?_, Nat.one_pos⟩
  · intro t ht
    cases List.mem_singleton.1 ht
    exact hT.keep hb
  · show [a, w1.heap.size, p, b].Nodup
    simp only [List.nodup_cons, List.mem_cons, List.not_mem_nil, or_false, not_or, not_false_eq_true, List.nodup_nil, and_true]
    omega
  · show (keysOf (tsEs [(⟨p, b, G, z⟩ : Tb)])).Nodup
    rw [tsEs_one]
    exact hT.inv.nod
theorem Dct.siz {w : World} {B d x : Nat} {D : Dg} (h : Dct w B d x D) : ∀ e ∈ D.es, e.1.size ≤ maxLen := by
  intro e he
  obtain ⟨f, hf, he⟩ := List.mem_flatMap.1 he
  obtain ⟨t, ht, he⟩ := List.mem_flatMap.1 he
  exact ((h.leaf f hf).tab t ht).siz e he
/-- The dict's own block is none of a leaf's. -/
theorem Dct.apart {w : World} {B d x : Nat} {D : Dg} (h : Dct w B d x D) {f : Lf} (hf : f ∈ D.L) : d ∉ f.fp := by
  intro hd
  have := (List.nodup_cons.1 h.nod).1
  exact this (List.mem_cons_of_mem _ (mem_fpL hf hd))
theorem bset_nat (h l : Nat) (hl : l < 16) : bset h (l : Int) = decide (h / 2 ^ l % 2 = 1) := by
  unfold bset
  rw [decide_eq_true (by omega : (0 : Int) ≤ l ∧ (l : Int) < 64), Int.toNat_natCast, Bool.true_and]
/-- Whither a place leads behind a split. -/
def plS (D : Dg) (l q a0 a1 i : Nat) : Option Nat := if i % 2 ^ l = q then some (if i / 2 ^ l % 2 = 0 then a0 else a1) else D.pl[i % 2 ^ D.g]?
structure Splitted (w wF : World) (B d x : Nat) (D : Dg) (f f0 f1 : Lf) (pb1 cap1 : Nat) (pl1 : List Nat) : Prop where
  blk : wF.heap[d]? = some (.cells #[.int .u64 (x : Nat), .int .i64 (D.es.length : Nat), .slice (some ⟨pb1, 0, none⟩) (2 ^ max D.g (f.l + 1)) cap1] 118 (0, 0))
  row : OwnP wF B 133 (some ⟨pb1, 0, none⟩) (2 ^ max D.g (f.l + 1)) cap1 pl1
  pls : ∀ i, i < 2 ^ max D.g (f.l + 1) → pl1[i]? = plS D f.l f.q f0.a f1.a i
  leaf0 : Leaf wF B x f0
  leaf1 : Leaf wF B x f1
  pt0 : f0.pt = (f.l + 1, f.q)
  pt1 : f1.pt = (f.l + 1, f.q + 2 ^ f.l)
  es0 : f0.es.Perm (zerosOf x f.l f.es)
  es1 : f1.es.Perm (onesOf x f.l f.es)
  one0 : f0.ts.length = 1
  one1 : f1.ts.length = 1
  new : ∀ j ∈ f0.fp ++ f1.fp, w.heap.size ≤ j
  nod : (f0.fp ++ f1.fp).Nodup
  pb : pb1 = D.pb ∨ w.heap.size ≤ pb1
  pbn : pb1 ∉ f0.fp ++ f1.fp
  stay : Stay w wF [d, D.pb]
theorem split_perm (x l : Nat) (es : List En) : (zerosOf x l es ++ onesOf x l es).Perm es := by
  unfold zerosOf onesOf
  exact List.perm_append_comm.trans (List.filter_append_perm _ es)
theorem Dct.split {w wF : World} {B d x : Nat} {D : Dg} {La Lc : List Lf} {f f0 f1 : Lf} {pb1 cap1 : Nat} {pl1 : List Nat} (h : Dct w B d x D) (e : D.L = La ++ f :: Lc) (hl : f.l < 16) (S : Splitted w wF B d x D f f0 f1 pb1 cap1 pl1) :
    Turn w wF B d x D ⟨max D.g (f.l + 1), pb1, cap1, pl1, La ++ f0 :: (Lc ++ [f1])⟩ ∧ (esL (La ++ f0 :: (Lc ++ [f1]))).Perm D.es := by
  have hf : f ∈ D.L := by rw [e]; simp
  have hlf := h.lef hf
  have hnod := h.nod
  rw [e, fpL_append, fpL_cons] at hnod
  have hlt := h.fplt
  rw [e, fpL_append, fpL_cons] at hlt
  obtain ⟨n1, n2⟩ := List.nodup_cons.1 hnod
  obtain ⟨n3, n4⟩ := List.nodup_cons.1 n2
  rw [List.nodup_append, List.nodup_append] at n4
  obtain ⟨n5, ⟨n6, n7, n8⟩, n9⟩ := n4
  simp only [List.mem_cons, List.mem_append, not_or] at n1 n3
  have hdl := h.lt
  have hpl := (hlt D.pb (by simp)).2
  obtain ⟨m1, m2, m3⟩ := List.nodup_append.1 S.nod
  have hnew0 : ∀ j ∈ f0.fp, w.heap.size ≤ j := fun j hj => S.new j (List.mem_append.2 (.inl hj))
  have hnew1 : ∀ j ∈ f1.fp, w.heap.size ≤ j := fun j hj => S.new j (List.mem_append.2 (.inr hj))
  have hpm : (esL (La ++ f0 :: (Lc ++ [f1]))).Perm D.es := by
    unfold Dg.es
    rw [e, esL_append, esL_append, esL_cons, esL_cons, esL_append, esL_one]
    refine List.Perm.append_left _ ?_
    refine (List.Perm.append_left _ List.perm_append_comm).trans ?_
    rw [← List.append_assoc]
    exact ((S.es0.append S.es1).trans (split_perm x f.l f.es)).append_right _
  have hold : ∀ u, u ∈ La ∨ u ∈ Lc → u ∈ D.L := fun u hu => by rw [e]; rcases hu with hu | hu <;> simp [hu]
  have hpb : pb1 ≠ d := by
    rcases S.pb with e2 | e2
    · rw [e2]; exact fun e3 => n1.1 e3.symm
    · omega
  have hpbo : ∀ u, u ∈ La ∨ u ∈ Lc → pb1 ∉ u.fp := by
    intro u hu hk
    rcases S.pb with e2 | e2
    · rw [e2] at hk
      rcases hu with hu | hu
      · exact n3.1 (mem_fpL hu hk)
      · exact n3.2.2 (mem_fpL hu hk)
    · have := (h.leaf u (hold u hu)).fplt _ hk; omega
  have hap : ∀ u, u ∈ La ∨ u ∈ Lc → ∀ i, isIn u.pt i = true → isIn f.pt i = false := by
    intro u hu i hi
    cases hfi : isIn f.pt i with
    | false => rfl
    | true =>
      have := h.same (hold u hu) hf hi hfi
      subst this
      exfalso
      rcases hu with hu | hu
      · exact n9 u.a (mem_fpL hu (by simp [Lf.fp])) u.a (by simp [Lf.fp]) rfl
      · exact n8 u.a (by simp [Lf.fp]) u.a (mem_fpL hu (by simp [Lf.fp])) rfl
  refine ⟨⟨⟨?_, S.row, ?_, ?_, ?_, ?_, ?_, ?_, ?_, h.low, h.seed, ?_⟩, ?_, ?_⟩, hpm⟩
  · show wF.heap[d]? = some (.cells #[.int .u64 (x : Nat), .int .i64 ((esL (La ++ f0 :: (Lc ++ [f1]))).length : Nat), .slice (some ⟨pb1, 0, none⟩) (2 ^ max D.g (f.l + 1)) cap1] 118 (0, 0))
    rw [hpm.length_eq]
    exact S.blk
  · intro u hu
    simp only [List.mem_append, List.mem_cons, List.not_mem_nil, or_false] at hu
    have hk : u ∈ La ∨ u ∈ Lc → Leaf wF B x u := fun hu => (h.leaf u (hold u hu)).stay S.stay (fun k hk => by
      simp only [List.mem_cons, List.not_mem_nil, or_false, not_or]
      rcases hu with hu | hu
      · exact ⟨fun e => n1.2.1 (e ▸ mem_fpL hu hk), fun e => n3.1 (e ▸ mem_fpL hu hk)⟩
      · exact ⟨fun e => n1.2.2.2 (e ▸ mem_fpL hu hk), fun e => n3.2.2 (e ▸ mem_fpL hu hk)⟩)
    rcases hu with hu | rfl | hu | rfl
    · exact hk (.inl hu)
    · exact S.leaf0
    · exact hk (.inr hu)
    · exact S.leaf1
  · show Shp (max D.g (f.l + 1)) (shL (La ++ f0 :: (Lc ++ [f1])))
    have hs := h.shp
    unfold Dg.sh shL at hs
    rw [e, List.map_append, List.map_cons] at hs
    unfold shL
    rw [List.map_append, List.map_cons, List.map_append, S.pt0]
    show Shp _ (_ ++ _ :: (_ ++ [f1.pt]))
    rw [S.pt1]
    exact hs.split hl
  · intro u hu i hi hin
    show pl1[i]? = _
    rw [S.pls i hi]
    simp only [List.mem_append, List.mem_cons, List.not_mem_nil, or_false] at hu
    have hk : u ∈ La ∨ u ∈ Lc → plS D f.l f.q f0.a f1.a i = some u.a := fun hu => by
      have h1 := hap u hu i hin
      rw [isIn_no] at h1
      replace h1 : i % 2 ^ f.l ≠ f.q := h1
      unfold plS
      rw [if_neg h1]
      have h2 := h.place (hold u hu) hin
      exact h2.1
    rcases hu with hu | rfl | hu | rfl
    · exact hk (.inl hu)
    · rw [S.pt0, isIn_zero hlf.2.2, isIn_iff] at hin
      replace hin : i % 2 ^ f.l = f.q ∧ i / 2 ^ f.l % 2 = 0 := hin
      unfold plS
      rw [if_pos hin.1, if_pos hin.2]
    · exact hk (.inr hu)
    · rw [S.pt1, isIn_one, isIn_iff] at hin
      replace hin : i % 2 ^ f.l = f.q ∧ i / 2 ^ f.l % 2 = 1 := hin
      unfold plS
      rw [if_pos hin.1, if_neg (by rw [hin.2]; decide)]
  · intro u hu e' he'
    simp only [List.mem_append, List.mem_cons, List.not_mem_nil, or_false] at hu
    rcases hu with hu | rfl | hu | rfl
    · exact h.own u (hold u (.inl hu)) e' he'
    · have h1 := List.mem_filter.1 (S.es0.mem_iff.1 he')
      rw [S.pt0, isIn_zero hlf.2.2]
      refine ⟨h.own f hf e' h1.1, ?_⟩
      have h2 := h1.2
      rw [bset_nat _ _ hl] at h2
      simp at h2
      exact h2
    · exact h.own u (hold u (.inr hu)) e' he'
    · have h1 := List.mem_filter.1 (S.es1.mem_iff.1 he')
      rw [S.pt1, isIn_one]
      refine ⟨h.own f hf e' h1.1, ?_⟩
      have h2 := h1.2
      rw [bset_nat _ _ hl] at h2
      simpa using h2
  · intro u hu hl'
    simp only [List.mem_append, List.mem_cons, List.not_mem_nil, or_false] at hu
    rcases hu with hu | rfl | hu | rfl
    · exact h.one u (hold u (.inl hu)) hl'
    · exact S.one0
    · exact h.one u (hold u (.inr hu)) hl'
    · exact S.one1
  · intro u hu
    simp only [List.mem_append, List.mem_cons, List.not_mem_nil, or_false] at hu
    rcases hu with hu | rfl | hu | rfl
    · exact h.ful u (hold u (.inl hu))
    · exact .inl S.one0
    · exact h.ful u (hold u (.inr hu))
    · exact .inl S.one1
  · show (d :: pb1 :: fpL (La ++ f0 :: (Lc ++ [f1]))).Nodup
    have e1 : fpL [f1] = f1.fp := by rw [fpL_cons]; exact List.append_nil _
    have o1 : ∀ a ∈ fpL La, a < w.heap.size := fun a ha => (hlt a (by simp [ha])).2
    have o2 : ∀ a ∈ fpL Lc, a < w.heap.size := fun a ha => (hlt a (by simp [ha])).2
    rw [fpL_append, fpL_cons, fpL_append, e1, List.nodup_cons, List.nodup_cons, List.nodup_append, List.nodup_append, List.nodup_append]
    have p1 : pb1 ∉ fpL La := fun hm => by
      obtain ⟨u, hu, hk⟩ := List.mem_flatMap.1 hm
      exact hpbo u (.inl hu) hk
    have p2 : pb1 ∉ fpL Lc := fun hm => by
      obtain ⟨u, hu, hk⟩ := List.mem_flatMap.1 hm
      exact hpbo u (.inr hu) hk
    have p3 := S.pbn
    simp only [List.mem_append, not_or] at p3
    refine ⟨?_, ?_, n5, ⟨m1, ⟨n7, m2, ?_⟩, ?_⟩, ?_⟩
    · simp only [List.mem_cons, List.mem_append, not_or]
      exact ⟨fun e => hpb e.symm, n1.2.1, fun hm => by have := hnew0 _ hm; omega, n1.2.2.2, fun hm => by have := hnew1 _ hm; omega⟩
    · simp only [List.mem_append, not_or]
      exact ⟨p1, p3.1, p2, p3.2⟩
    · intro a ha b hb e; subst e; have := hnew1 _ hb; have := o2 _ ha; omega
    · intro a ha b hb e
      subst e
      rcases List.mem_append.1 hb with hb | hb
      · have := hnew0 _ ha; have := o2 _ hb; omega
      · exact m3 a ha a hb rfl
    · intro a ha b hb e
      subst e
      have h1 := o1 _ ha
      simp only [List.mem_append] at hb
      rcases hb with hb | hb | hb
      · have := hnew0 _ hb; omega
      · exact n9 a ha a (by simp [hb]) rfl
      · have := hnew1 _ hb; omega
  · show (esL _).length ≤ _
    rw [hpm.length_eq]
    exact h.le
  · exact S.stay.mono (fun i hi => by simp only [List.mem_cons, List.not_mem_nil, or_false] at hi; unfold Dg.fp; rcases hi with rfl | rfl <;> simp)
  · intro j hj
    change j ∈ d :: pb1 :: fpL (La ++ f0 :: (Lc ++ [f1])) at hj
    unfold Dg.fp
    rw [e]
    rw [fpL_append, fpL_cons, fpL_append, fpL_cons] at hj
    rw [fpL_append, fpL_cons]
    simp only [List.mem_cons, List.mem_append] at hj ⊢
    rcases hj with hj | hj | hj | hj | hj | hj | hj
    · exact .inl (.inl hj)
    · rcases S.pb with e2 | e2
      · exact .inl (.inr (.inl (hj.trans e2)))
      · exact .inr (by omega)
    · exact .inl (.inr (.inr (.inl hj)))
    · exact .inr (hnew0 j hj)
    · exact .inl (.inr (.inr (.inr (.inr hj))))
    · exact .inr (hnew1 j hj)
    · simp [fpL] at hj
/-- The directory ahead of the loop: deeper, where the leaf is as deep as it was. -/
structure Wide (w w3 : World) (B d x : Nat) (D : Dg) (l pb1 cap1 : Nat) (pl1 : List Nat) : Prop where
  blk : w3.heap[d]? = some (.cells #[.int .u64 (x : Nat), .int .i64 (D.es.length : Nat), .slice (some ⟨pb1, 0, none⟩) (2 ^ max D.g (l + 1)) cap1] 118 (0, 0))
  row : OwnP w3 B 133 (some ⟨pb1, 0, none⟩) (2 ^ max D.g (l + 1)) cap1 pl1
  pls : ∀ i, i < 2 ^ max D.g (l + 1) → pl1[i]? = D.pl[i % 2 ^ D.g]?
  pb : pb1 = D.pb ∨ w.heap.size ≤ pb1
  stay : Stay w w3 [d, D.pb]
theorem Wide.keep {w w3 w4 : World} {B d x : Nat} {D : Dg} {l pb1 cap1 : Nat} {pl1 : List Nat} (h : Wide w w3 B d x D l pb1 cap1 pl1) (hb : Below w3.heap.size w3 w4) : Wide w w4 B d x D l pb1 cap1 pl1 :=
  ⟨by rw [hb.block d (Array.getElem?_eq_some_iff.1 h.blk).1]; exact h.blk, OwnR.keep h.row hb, h.pls, h.pb, h.stay.trans (Stay.of_below hb []) (fun i hi => by cases hi)⟩
/-- Whither a place leads that was turned. -/
def half (l a0 a1 i : Nat) : Nat := if i / 2 ^ l % 2 = 0 then a0 else a1
structure Halfway (w wr : World) (B d x : Nat) (D : Dg) (l q pb1 cap1 ar fa : Nat) (f0 f1 : Lf) (place : Nat) (P : List Nat) : Prop where
  blk : wr.heap[d]? = some (.cells #[.int .u64 (x : Nat), .int .i64 (D.es.length : Nat), .slice (some ⟨pb1, 0, none⟩) (2 ^ max D.g (l + 1)) cap1] 118 (0, 0))
  row : OwnP wr B 133 (some ⟨pb1, 0, none⟩) (2 ^ max D.g (l + 1)) cap1 P
  pls : ∀ i, i < 2 ^ max D.g (l + 1) → P[i]? = if i % 2 ^ l = q ∧ i < place then some (half l f0.a f1.a i) else D.pl[i % 2 ^ D.g]?
  stay : Stay w wr [d, D.pb]
  leaf0 : Leaf wr B x f0
  leaf1 : Leaf wr B x f1
  arr0 : wr.cell? ⟨ar, 0, none⟩ = some (ptr f0.a)
  arr1 : wr.cell? ⟨ar, 1, none⟩ = some (ptr f1.a)
  own : wr.cell? ⟨fa, 0, none⟩ = some (.int .i64 (l : Nat))
  ap : pb1 ≠ d ∧ pb1 ∉ f0.fp ∧ pb1 ∉ f1.fp ∧ pb1 ≠ ar ∧ pb1 ≠ fa ∧ (pb1 = D.pb ∨ w.heap.size ≤ pb1)
theorem cell_set_ne {w : World} {b c o o' : Nat} {v : Value} (h : c ≠ b) : (w.setCell ⟨b, o, none⟩ v).cell? ⟨c, o', none⟩ = w.cell? ⟨c, o', none⟩ := World.cell?_of_block (Below.heap_setCell _ _ _ _ (by simpa using h))
theorem Halfway.keep {w wr wn : World} {B d x : Nat} {D : Dg} {l q pb1 cap1 ar fa : Nat} {f0 f1 : Lf} {place : Nat} {P : List Nat} (h : Halfway w wr B d x D l q pb1 cap1 ar fa f0 f1 place P) (hb : Below wr.heap.size wr wn) : Halfway w wn B d x D l q pb1 cap1 ar fa f0 f1 place P :=
  ⟨by rw [hb.block d (Array.getElem?_eq_some_iff.1 h.blk).1]; exact h.blk, OwnR.keep h.row hb, h.pls, h.stay.trans (Stay.of_below hb []) (fun i hi => by cases hi), h.leaf0.keep hb, h.leaf1.keep hb,
    by rw [hb.cell (p := ⟨ar, 0, none⟩) (World.block_lt_of_cell? _ _ h.arr0)]; exact h.arr0, by rw [hb.cell (p := ⟨ar, 1, none⟩) (World.block_lt_of_cell? _ _ h.arr1)]; exact h.arr1, by rw [hb.cell (p := ⟨fa, 0, none⟩) (World.block_lt_of_cell? _ _ h.own)]; exact h.own, h.ap⟩
theorem OwnP.set {w : World} {B : Nat} {e : TypeId} {g n c : Nat} {ls : List Nat} (h : OwnP w B e (some ⟨g, 0, none⟩) n c ls) {i : Nat} (hi : i < n) (v : Nat) :
    (∃ u, w.cell? ⟨g, i, none⟩ = some (ptr u)) ∧ w.frozen? ⟨g, i, none⟩ = false ∧ OwnP (w.setCell ⟨g, i, none⟩ (ptr v)) B e (some ⟨g, 0, none⟩) n c (ls.set i v) := by
  have hlen := OwnP.len h
  obtain ⟨u, hu, -⟩ := get_of_lt (l := ls) (i := i) (by omega)
  refine ⟨⟨u, OwnP.cell h hu⟩, ?_⟩
  rcases h.2 with ⟨h2, h3⟩ | ⟨g', c', cur, h1, h3, h4, h5, h6, h7, h8⟩
  · cases h2
  · cases h1
    refine ⟨by simp [World.frozen?, h4], by simp [pcells, hlen], .inr ⟨g, c, cur.setIfInBounds i (ptr v), rfl, h3, heap_set h4 _, h5, h6, by simpa using h7, ?_⟩⟩
    rw [Array.toList_setIfInBounds, Nat.mul_one, List.take_set]
    rw [Nat.mul_one] at h8
    rw [h8, pcells, pcells, List.map_set]
theorem Halfway.step {w wr : World} {B d x : Nat} {D : Dg} {l q pb1 cap1 ar fa : Nat} {f0 f1 : Lf} {place : Nat} {P : List Nat} (h : Halfway w wr B d x D l q pb1 cap1 ar fa f0 f1 place P) (hp : place < 2 ^ max D.g (l + 1)) (hq : place % 2 ^ l = q) :
    Halfway w (wr.setCell ⟨pb1, place, none⟩ (ptr (half l f0.a f1.a place))) B d x D l q pb1 cap1 ar fa f0 f1 (place + 2 ^ l) (P.set place (half l f0.a f1.a place)) := by
  obtain ⟨k1, k2, k3, k4, k5, k6⟩ := h.ap
  have hS : Stay wr (wr.setCell ⟨pb1, place, none⟩ (ptr (half l f0.a f1.a place))) [pb1] := Stay.set
  have hpp : 0 < 2 ^ l := pow_pos l
  refine ⟨?_, (OwnP.set h.row hp _).2.2, ?_, ?_, h.leaf0.stay hS (fun k hk => by simp only [List.mem_singleton]; exact fun e => k2 (e ▸ hk)), h.leaf1.stay hS (fun k hk => by simp only [List.mem_singleton]; exact fun e => k3 (e ▸ hk)), ?_, ?_, ?_, h.ap⟩
  · rw [hS.block d (Array.getElem?_eq_some_iff.1 h.blk).1 (by simpa using fun e => k1 e.symm)]; exact h.blk
  · intro i hi
    have hlen := OwnP.len h.row
    by_cases e : i = place
    · subst e
      rw [List.getElem?_set_self (by omega), if_pos ⟨hq, by omega⟩]
    · rw [List.getElem?_set_ne (fun e2 => e e2.symm), h.pls i hi]
      by_cases h1 : i % 2 ^ l = q
      · have h2 : i < place ↔ i < place + 2 ^ l := by
          constructor
          · intro h3; omega
          · intro h3
            rcases Nat.lt_or_ge i place with h4 | h4
            · exact h4
            · exfalso
              have e1 := Nat.div_add_mod i (2 ^ l)
              have e2 := Nat.div_add_mod place (2 ^ l)
              rw [h1] at e1
              rw [hq] at e2
              have e3 : place / 2 ^ l < i / 2 ^ l := by
                rcases Nat.lt_or_ge (place / 2 ^ l) (i / 2 ^ l) with h5 | h5
                · exact h5
                · have := Nat.mul_le_mul_left (2 ^ l) h5
                  omega
              have e4 := Nat.mul_le_mul_left (2 ^ l) (Nat.succ_le_of_lt e3)
              rw [Nat.succ_eq_add_one, Nat.mul_add, Nat.mul_one] at e4
              omega
        by_cases h3 : i < place
        · rw [if_pos ⟨h1, h3⟩, if_pos ⟨h1, h2.1 h3⟩]
        · rw [if_neg (fun h4 => h3 h4.2), if_neg (fun h4 => h3 (h2.2 h4.2))]
      · rw [if_neg (fun h4 => h1 h4.1), if_neg (fun h4 => h1 h4.1)]
  · refine h.stay.trans hS (fun i hi => ?_)
    simp only [List.mem_singleton] at hi
    subst hi
    exact k6.imp (fun e => by simp [e]) id
  · rw [cell_set_ne (fun e => k4 e.symm)]; exact h.arr0
  · rw [cell_set_ne (fun e => k4 e.symm)]; exact h.arr1
  · rw [cell_set_ne (fun e => k5 e.symm)]; exact h.own
/-- The array of the two halves. -/
def isArr (w : World) (ar : Nat) : Prop := w.heap[ar]? = some (.cells #[.pointer none, .pointer none] 202 (0, 0))
theorem isArr.keep {w w' : World} {ar : Nat} (h : isArr w ar) (hb : Below w.heap.size w w') : isArr w' ar := by
  unfold isArr at h ⊢
  rw [hb.block ar (Array.getElem?_eq_some_iff.1 h).1]
  exact h
theorem isArr.made (w : World) : isArr (w.alloc (.cells #[.pointer none, .pointer none] 202)) w.heap.size := heap_alloc_new w _
/-- How many keys belong to a part. -/
def cntIn (x : Nat) (ks : List ByteArray) (s : Pt) : Nat := (ks.filter fun k => isIn s (hsh x k)).length
theorem cntIn_perm {x : Nat} {ks ks' : List ByteArray} (h : ks.Perm ks') (s : Pt) : cntIn x ks s = cntIn x ks' s := (h.filter _).length_eq
/-- The keys of a leaf are those of its part. -/
theorem Dct.keys_of {w : World} {B d x : Nat} {D : Dg} (h : Dct w B d x D) {La Lc : List Lf} {f : Lf} (e : D.L = La ++ f :: Lc) : (keysOf D.es).filter (fun k => isIn f.pt (hsh x k)) = keysOf f.es := by
  have hnod := h.nod
  rw [e, fpL_append, fpL_cons] at hnod
  obtain ⟨-, n2⟩ := List.nodup_cons.1 hnod
  obtain ⟨-, n4⟩ := List.nodup_cons.1 n2
  rw [List.nodup_append, List.nodup_append] at n4
  obtain ⟨-, ⟨-, -, n8⟩, n9⟩ := n4
  have hf : f ∈ D.L := by rw [e]; simp
  have hno : ∀ (M : List Lf), (∀ u ∈ M, u ∈ D.L ∧ u ≠ f) → (keysOf (esL M)).filter (fun k => isIn f.pt (hsh x k)) = [] := by
    intro M hM
    rw [List.filter_eq_nil_iff]
    intro k hk hd
    obtain ⟨en, he, rfl⟩ := List.mem_map.1 hk
    obtain ⟨u, hu, he⟩ := List.mem_flatMap.1 he
    exact (hM u hu).2 (h.same (hM u hu).1 hf (h.own u (hM u hu).1 en he) hd)
  have ha : ∀ u ∈ La, u ∈ D.L ∧ u ≠ f := fun u hu => ⟨by rw [e]; simp [hu], fun e2 => by subst e2; exact n9 u.a (mem_fpL hu (by simp [Lf.fp])) u.a (by simp [Lf.fp]) rfl⟩
  have hc : ∀ u ∈ Lc, u ∈ D.L ∧ u ≠ f := fun u hu => ⟨by rw [e]; simp [hu], fun e2 => by subst e2; exact n8 u.a (by simp [Lf.fp]) u.a (mem_fpL hu (by simp [Lf.fp])) rfl⟩
  unfold Dg.es
  rw [e, esL_append, esL_cons, keysOf_append, keysOf_append, List.filter_append, List.filter_append, hno La ha, hno Lc hc, List.nil_append, List.append_nil, List.filter_eq_self]
  intro k hk
  obtain ⟨en, he, rfl⟩ := List.mem_map.1 hk
  exact h.own f hf en he
theorem Dct.cnt_of {w : World} {B d x : Nat} {D : Dg} (h : Dct w B d x D) {La Lc : List Lf} {f : Lf} (e : D.L = La ++ f :: Lc) : cntIn x (keysOf D.es) f.pt = f.es.length := by
  unfold cntIn
  rw [h.keys_of e, List.length_map]
/-- The types of a dict's blocks; those of the document's own. -/
def dtag (t : TypeId) : Bool := t == 118 || t == 133 || t == 187 || t == 132 || t == 190 || t == 198
/-- All is as it was, but for blocks of some types and what is new. -/
structure Mv (p : TypeId → Bool) (w w' : World) : Prop where
  os : w'.os = w.os
  tape : w'.tape = w.tape
  output : w'.output = w.output
  size : w.heap.size ≤ w'.heap.size
  block : ∀ (k : Nat) (cs : Array Value) (t : TypeId), w.heap[k]? = some (Obj.cells cs t (0, 0)) → p t = false → w'.heap[k]? = w.heap[k]?
theorem Mv.of_below {p : TypeId → Bool} {w w' : World} (h : Below w.heap.size w w') : Mv p w w' := ⟨h.os, h.tape, h.output, h.size, fun k _ _ hk _ => h.block k (Array.getElem?_eq_some_iff.1 hk).1⟩
theorem Mv.trans {p : TypeId → Bool} {w w1 w2 : World} (h : Mv p w w1) (k : Mv p w1 w2) : Mv p w w2 :=
  ⟨k.os.trans h.os, k.tape.trans h.tape, k.output.trans h.output, Nat.le_trans h.size k.size, fun i cs t hi ht => by
    have h1 := h.block i cs t hi ht
    rw [← h1]
    exact k.block i cs t (by rw [h1]; exact hi) ht⟩
/-- The blocks that may be turned. -/
def chg (p : TypeId → Bool) (w : World) : List Nat := (List.range w.heap.size).filter fun k =>
  match w.heap[k]? with
  | some (.cells _ t (0, 0)) => p t
  | _ => true
theorem chg_no {p : TypeId → Bool} {w : World} {k : Nat} {cs : Array Value} {t : TypeId} (h : w.heap[k]? = some (.cells cs t (0, 0))) (ht : p t = false) : k ∉ chg p w := by
  unfold chg
  rw [List.mem_filter, h]
  simp [ht]
theorem Mv.stay {p : TypeId → Bool} {w w' : World} (h : Mv p w w') : Stay w w' (chg p w) := by
  refine ⟨h.os, h.tape, h.output, h.size, fun k hk hn => ?_⟩
  unfold chg at hn
  rw [List.mem_filter, not_and] at hn
  have h1 := hn (List.mem_range.2 hk)
  cases hc : w.heap[k]? with
  | none => rw [Array.getElem?_eq_none_iff] at hc; omega
  | some o =>
    rw [hc] at h1
    rw [← hc]
    split at h1
    · rename_i cs t e
      exact h.block k cs t (by rw [hc]; exact e) (by simpa using h1)
    · simp at h1
theorem OwnR.mv {p : TypeId → Bool} {w w' : World} {B : Nat} {e : TypeId} {s : Nat} {a : Option Addr} {n cap : Nat} {cs : List Value} (h : OwnR w B e s a n cap cs) (hm : Mv p w w') (he : p e = false) : OwnR w' B e s a n cap cs :=
  h.kept fun k hk => by
    obtain ⟨-, -, cur, h1⟩ := h.lt hk
    exact hm.block k cur e h1 he
theorem Leaf.tags {w : World} {B x : Nat} {f : Lf} (h : Leaf w B x f) : ∀ k ∈ f.fp, ∃ cs t, w.heap[k]? = some (.cells cs t (0, 0)) ∧ dtag t = true := by
  intro k hk
  rcases List.mem_cons.1 hk with rfl | hk
  · exact ⟨_, _, h.blk, rfl⟩
  rcases List.mem_cons.1 hk with rfl | hk
  · obtain ⟨-, -, cur, h1⟩ := OwnR.lt h.row (k := f.tb) rfl
    exact ⟨_, _, h1, rfl⟩
  · obtain ⟨t, ht, hk⟩ := List.mem_flatMap.1 hk
    have hT := h.tab t ht
    simp only [Tb.fp, List.mem_cons, List.not_mem_nil, or_false] at hk
    rcases hk with rfl | rfl
    · exact ⟨_, _, hT.top.blk, rfl⟩
    · obtain ⟨cs, h1, -⟩ := hT.row.ex
      exact ⟨_, _, h1, rfl⟩
theorem Dct.tags {w : World} {B d x : Nat} {D : Dg} (h : Dct w B d x D) : ∀ k ∈ D.fp d, ∃ cs t, w.heap[k]? = some (.cells cs t (0, 0)) ∧ dtag t = true := by
  intro k hk
  rcases List.mem_cons.1 hk with rfl | hk
  · exact ⟨_, _, h.blk, rfl⟩
  rcases List.mem_cons.1 hk with rfl | hk
  · obtain ⟨-, -, cur, h1⟩ := OwnR.lt h.row (k := D.pb) rfl
    exact ⟨_, _, h1, rfl⟩
  · obtain ⟨f, hf, hk⟩ := List.mem_flatMap.1 hk
    exact (h.leaf f hf).tags k hk
theorem Dct.mv {w w' : World} {B d x : Nat} {D : Dg} (h : Dct w B d x D) {p : TypeId → Bool} (hm : Mv p w w') (hp : ∀ t, dtag t = true → p t = false) : Dct w' B d x D :=
  h.stay hm.stay (fun k hk => by
    obtain ⟨cs, t, h1, h2⟩ := h.tags k hk
    exact chg_no h1 (hp t h2))
theorem Turn.mv {w w' : World} {B d x : Nat} {D D' : Dg} (h : Turn w w' B d x D D') (hD : Dct w B d x D) : Mv dtag w w' :=
  ⟨h.stay.os, h.stay.tape, h.stay.output, h.stay.size, fun k cs t hk ht => h.stay.block k (Array.getElem?_eq_some_iff.1 hk).1 (fun hm => by
    obtain ⟨cs', t', h1, h2⟩ := hD.tags k hm
    rw [h1] at hk
    simp at hk
    rw [hk.2] at h2
    rw [h2] at ht
    cases ht)⟩
/-- A dict at d by the seed x: its depth, its parts, what it has. -/
def Dic (w : World) (B d x g : Nat) (sh : List Pt) (es : List En) : Prop := ∃ D, Dct w B d x D ∧ D.g = g ∧ D.sh = sh ∧ D.es.Perm es
theorem Dic.keep {w wn : World} {B d x g : Nat} {sh : List Pt} {es : List En} (h : Dic w B d x g sh es) (hb : Below w.heap.size w wn) : Dic wn B d x g sh es := by
  obtain ⟨D, h1, h2, h3, h4⟩ := h
  exact ⟨D, h1.keep hb, h2, h3, h4⟩
theorem Dic.mv {w w' : World} {B d x g : Nat} {sh : List Pt} {es : List En} (h : Dic w B d x g sh es) {p : TypeId → Bool} (hm : Mv p w w') (hp : ∀ t, dtag t = true → p t = false) : Dic w' B d x g sh es := by
  obtain ⟨D, h1, h2, h3, h4⟩ := h
  exact ⟨D, h1.mv hm hp, h2, h3, h4⟩
theorem Dic.shp {w : World} {B d x g : Nat} {sh : List Pt} {es : List En} (h : Dic w B d x g sh es) : Shp g sh := by
  obtain ⟨D, h1, h2, h3, h4⟩ := h
  rw [← h2, ← h3]
  exact h1.shp
theorem Dic.perm {w : World} {B d x g : Nat} {sh : List Pt} {es fs : List En} (h : Dic w B d x g sh es) (hp : es.Perm fs) : Dic w B d x g sh fs := by
  obtain ⟨D, h1, h2, h3, h4⟩ := h
  exact ⟨D, h1, h2, h3, h4.trans hp⟩
/-- Keys of unlike leaves are unlike. -/
theorem Dct.nodk {w : World} {B d x : Nat} {D : Dg} (h : Dct w B d x D) : (keysOf D.es).Nodup := by
  have key : ∀ (M : List Lf), (∀ u ∈ M, u ∈ D.L) → M.Nodup → (keysOf (esL M)).Nodup := by
    intro M
    induction M with
    | nil => intro _ _; exact List.nodup_nil
    | cons f M ih =>
      intro hM hn
      rw [List.nodup_cons] at hn
      rw [esL_cons, keysOf_append, List.nodup_append]
      refine ⟨(h.leaf f (hM f (by simp))).key, ih (fun u hu => hM u (List.mem_cons_of_mem _ hu)) hn.2, ?_⟩
      intro a ha b hb e
      subst e
      obtain ⟨e1, h1, rfl⟩ := List.mem_map.1 ha
      obtain ⟨e2, h2, h3⟩ := List.mem_map.1 hb
      obtain ⟨u, hu, h4⟩ := List.mem_flatMap.1 h2
      have h5 := h.own f (hM f (by simp)) e1 h1
      have h6 := h.own u (hM u (List.mem_cons_of_mem _ hu)) e2 h4
      rw [h3] at h6
      exact hn.1 ((h.same (hM f (by simp)) (hM u (List.mem_cons_of_mem _ hu)) h5 h6) ▸ hu)
  refine key D.L (fun u hu => hu) ?_
  exact h.ord_perm.nodup_iff.1 (by
    have h1 := h.ord_perm
    unfold ordU List.Nodup
    rw [List.pairwise_filterMap]
    refine List.Pairwise.imp ?_ List.nodup_range
    intro i j hij u hu v hv e
    subst e
    have k1 : u.q = i := by simpa using List.find?_some hu
    have k2 : u.q = j := by simpa using List.find?_some hv
    exact hij (k1.symm.trans k2))
theorem Dic.nod {w : World} {B d x g : Nat} {sh : List Pt} {es : List En} (h : Dic w B d x g sh es) : (keysOf es).Nodup := by
  obtain ⟨D, h1, h2, h3, h4⟩ := h
  exact (h4.map (·.1)).nodup_iff.1 h1.nodk
theorem Dic.le {w : World} {B d x g : Nat} {sh : List Pt} {es : List En} (h : Dic w B d x g sh es) : es.length ≤ 1000000 := by
  obtain ⟨D, h1, h2, h3, h4⟩ := h
  rw [← h4.length_eq]
  exact h1.le
/-- A part that is not as deep as can be has no more keys than a table has room for. -/
theorem Dic.room {w : World} {B d x g : Nat} {sh : List Pt} {es : List En} (h : Dic w B d x g sh es) {s : Pt} (hs : s ∈ sh) (hl : s.1 < 16) : cntIn x (keysOf es) s ≤ 112 := by
  obtain ⟨D, h1, rfl, rfl, h4⟩ := h
  obtain ⟨f, hf, rfl⟩ := List.mem_map.1 hs
  obtain ⟨La, Lc, e⟩ := List.append_of_mem hf
  rw [← cntIn_perm (h4.map (·.1)), h1.cnt_of e]
  obtain ⟨t, ht⟩ := List.length_eq_one_iff.1 (h1.one f hf hl)
  have hT := (h1.leaf f hf).tab t (by rw [ht]; simp)
  have e2 : f.es = ents t.z := by unfold Lf.es; rw [ht, tsEs_one]; rfl
  rw [e2]
  have := hT.inv.room
  have := hT.inv.grp.le
  omega
/-- Is a key there? -/
def hasK (es : List En) (k : ByteArray) : Bool := es.any fun e => decide (e.1 = k)
/-- What is there behind Put; behind Delete; what Get tells. -/
def putE (es : List En) (k : ByteArray) (v : ByteArray) : List En := if hasK es k = true then es.map (fun e => if e.1 = k then (k, v) else e) else es ++ [(k, v)]
def delE (es : List En) (k : ByteArray) : List En := es.filter fun e => decide (e.1 ≠ k)
def getE (es : List En) (k : ByteArray) : ByteArray := ((es.find? fun e => decide (e.1 = k)).map (·.2)).getD ⟨#[]⟩
end Go.Proofs.YtikimcbalkhooaaGreatDoor.Dk
