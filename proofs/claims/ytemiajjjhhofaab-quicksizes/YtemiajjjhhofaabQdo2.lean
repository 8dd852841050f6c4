/-
  without: the texts but the first so many that are s (slices.DeleteFunc by a function that counts).
  slices.DeleteFunc, without, slices.Reverse at rows of texts.
  without, slices.Reverse at rows of texts; keep; removeFirst, removeLast, Remove.
  keep; removeFirst, removeLast, Remove.
  removeFirst, removeLast, Remove.
  Remove, and Copy, of a list.
  The document's row of texts beside a list, and what the law's own functions answer: few, long, code, Place, At, Span.
  The document's own removal.
  The law's calls at both ends.
  The law's do: one call, on a list and on the document's row.
  The law's do, beside a pivot, by ranges, at both ends; and for every call.
-/
import Derived.Test.YtemiajjjhhofaabQins
import Derived.Test.YtemiajjjhhofaabQabs
import Derived.Test.YtemiajjjhhofaabQkn
import Derived.BigQuiet
namespace Go.Proofs.Ytemiajjjhhofaab
open Go.RowKit Go.PlainAid

/-- What is left of a row when at most m texts that are s are taken away, from the first on; and how many more could be. -/
def rem (s : ByteArray) : Nat → List ByteArray → List ByteArray × Nat
  | m, [] => ([], m)
  | m, x :: r => if x = s ∧ m ≠ 0 then rem s (m - 1) r else (x :: (rem s m r).1, (rem s m r).2)
def kp (s : ByteArray) (m : Nat) (l : List ByteArray) : List ByteArray := (rem s m l).1
def lf (s : ByteArray) (m : Nat) (l : List ByteArray) : Nat := (rem s m l).2
theorem rem_append (s : ByteArray) : ∀ (a b : List ByteArray) (m : Nat), rem s m (a ++ b) = (kp s m a ++ (rem s (lf s m a) b).1, (rem s (lf s m a) b).2)
  | [], b, m => rfl
  | x :: a, b, m => by
    unfold kp lf
    rw [List.cons_append, rem, rem]
    split
    · exact rem_append s a b (m - 1)
    · rw [rem_append s a b m]; rfl
theorem kp_append (s : ByteArray) (m : Nat) (a b : List ByteArray) : kp s m (a ++ b) = kp s m a ++ kp s (lf s m a) b := by unfold kp; rw [rem_append]; rfl
theorem lf_append (s : ByteArray) (m : Nat) (a b : List ByteArray) : lf s m (a ++ b) = lf s (lf s m a) b := by unfold lf; rw [rem_append]; rfl
theorem kp_zero (s : ByteArray) : ∀ l : List ByteArray, kp s 0 l = l ∧ lf s 0 l = 0
  | [] => ⟨rfl, rfl⟩
  | x :: r => by
    have := kp_zero s r
    unfold kp lf at this ⊢
    rw [rem, if_neg (by simp)]
    exact ⟨by rw [this.1], this.2⟩
theorem kp_one (s x : ByteArray) (m : Nat) : kp s m [x] = (if x = s ∧ m ≠ 0 then [] else [x]) ∧ lf s m [x] = (if x = s ∧ m ≠ 0 then m - 1 else m) := by
  unfold kp lf
  rw [rem]
  split <;> exact ⟨rfl, rfl⟩
theorem kp_len (s : ByteArray) : ∀ (l : List ByteArray) (m : Nat), (kp s m l).length ≤ l.length ∧ (kp s m l).length + m = l.length + lf s m l
  | [], m => ⟨Nat.le_refl _, rfl⟩
  | x :: r, m => by
    unfold kp lf
    rw [rem]
    split
    · rename_i h
      have := kp_len s r (m - 1)
      unfold kp lf at this
      rw [List.length_cons]
      omega
    · have := kp_len s r m
      unfold kp lf at this
      simp only [List.length_cons]
      omega
theorem kp_mem (s : ByteArray) : ∀ (l : List ByteArray) (m : Nat), ∀ t ∈ kp s m l, t ∈ l
  | [], _, t, ht => ht
  | x :: r, m, t, ht => by
    unfold kp at ht
    rw [rem] at ht
    split at ht
    · exact List.mem_cons_of_mem _ (kp_mem s r (m - 1) t ht)
    · rcases List.mem_cons.1 ht with rfl | ht
      · simp
      · exact List.mem_cons_of_mem _ (kp_mem s r m t ht)

/-- The cells that the function counts by. -/
structure Cl (w : World) (b1 b2 : Nat) (s : ByteArray) (m : Nat) : Prop where
  txt : w.cell? ⟨b1, 0, none⟩ = some (.string s)
  num : w.cell? ⟨b2, 0, none⟩ = some (.int .i64 (m : Nat))
  frz : w.frozen? ⟨b2, 0, none⟩ = false
  ne : b1 ≠ b2
theorem Cl.set {w : World} {b1 b2 : Nat} {s : ByteArray} {m : Nat} (h : Cl w b1 b2 s m) (k : Nat) : Cl (w.setCell ⟨b2, 0, none⟩ (.int .i64 (k : Nat))) b1 b2 s k :=
  ⟨by rw [cell_ne (fun e => h.ne e.1)]; exact h.txt, cell_eq h.num, by rw [World.frozen?_setCell]; exact h.frz, h.ne⟩
theorem Cl.far {w : World} {b1 b2 g o : Nat} {s : ByteArray} {m : Nat} {v : Value} (h : Cl w b1 b2 s m) (h1 : b1 ≠ g) (h2 : b2 ≠ g) : Cl (w.setCell ⟨g, o, none⟩ v) b1 b2 s m :=
  ⟨by rw [cell_ne (fun e => h1 e.1)]; exact h.txt, by rw [cell_ne (fun e => h2 e.1)]; exact h.num, by rw [World.frozen?_setCell]; exact h.frz, h.ne⟩

set_option maxRecDepth 100000 in
theorem cl_no (b1 b2 m : Nat) (s t : ByteArray) (w : World) (h : Cl w b1 b2 s m) (hn : ¬ (t = s ∧ m ≠ 0)) :
    Calls Try.prog 105 #[.string t, ptr b1, ptr b2] w fun e w' => e = .returned (.bool false) ∧ w' = w := by
  have h1 := h.txt
  have h2 := h.num
  have hb := str_bne t s
  clear h
  by_cases hts : t = s
  · have h0 : m = 0 := by
      rcases Nat.eq_zero_or_pos m with h | h
      · exact h
      · exact absurd ⟨hts, by omega⟩ hn
    subst h0
    have hb3 : (t.toList != s.toList) = false := by rw [hb]; simpa using hts
    have hb4 : t.toList = s.toList := by rw [hts]
    clear hb hn hts
    go_enter Try.func105, Try.ntmps105
    go_wp2
    go_ret
    exact ⟨rfl, rfl⟩
  · have hb3 : (t.toList != s.toList) = true := by rw [hb]; simpa using hts
    have hb4 : ¬ (t.toList = s.toList) := by simpa using hb3
    clear hb hn hts
    go_enter Try.func105, Try.ntmps105
    go_wp2
    go_ret
    exact ⟨rfl, rfl⟩
set_option maxRecDepth 100000 in
theorem cl_yes (b1 b2 k : Nat) (s : ByteArray) (w : World) (h : Cl w b1 b2 s (k + 1)) (hk : k ≤ 1000000) :
    Calls Try.prog 105 #[.string s, ptr b1, ptr b2] w fun e w' => e = .returned (.bool true) ∧ w' = w.setCell ⟨b2, 0, none⟩ (.int .i64 (k : Nat)) := by
  have h1 := h.txt
  have h2 := h.num
  have h3 := h.frz
  have hb3 : (s.toList != s.toList) = false := by simp
  have hk1 : ¬ (((k + 1 : Nat) : Int) = 0) := by omega
  have hk2 : ((k + 1 : Nat) : Int) - 1 = k := by omega
  generalize k + 1 = k1 at *
  clear h
  go_enter Try.func105, Try.ntmps105
  go_wp2
  go_ret
  exact ⟨rfl, rfl⟩

set_option maxRecDepth 100000 in
set_option maxHeartbeats 400000 in
theorem IndexFunc_cl (a : Option Addr) (n c : Nat) (ls : List ByteArray) (b1 b2 m : Nat) (s : ByteArray) (w : World) (hR : RdS w a n ls) (h : Cl w b1 b2 s m) (hm : m ≤ 1000000) :
    Calls Try.prog 76 #[.slice a n c, .func (.func 105) #[] #[ptr b1, ptr b2]] w fun e w' =>
      (e = .returned (.int .i64 (-1)) ∧ w' = w ∧ kp s m ls = ls) ∨
      (∃ i k, e = .returned (.int .i64 ((i : Nat) : Int)) ∧ i < n ∧ m = k + 1 ∧ w' = w.setCell ⟨b2, 0, none⟩ (.int .i64 (k : Nat)) ∧ kp s m (ls.take (i + 1)) = ls.take i ∧ lf s m (ls.take (i + 1)) = k) := by
  have HR : Hid (RdS w a n ls) := hR
  have HL : Hid (ls.length = n) := hR.len
  have HC : Hid (Cl w b1 b2 s m) := h
  have hn : n ≤ 9223372036854775807 := by have := hR.max; unfold maxLen at this; omega
  have HK0 : Hid (kp s m (ls.take 0) = ls.take 0 ∧ lf s m (ls.take 0) = m) := ⟨rfl, rfl⟩
  clear hR h
  go_enter Try.func76, Try.ntmps76
  go_wp2
  go_loopg [8] n (fun g iv wr => w = wr ∧ ∃ i : Nat, i + g = n ∧ iv = .int .i64 i ∧ Hid (kp s m (ls.take i) = ls.take i ∧ lf s m (ls.take i) = m))
  case atStart => exact ⟨rfl, 0, by omega, rfl, HK0⟩
  case round =>
    obtain ⟨rfl, i, hi, rfl, HK⟩ := hrel
    by_cases h1 : (i : Int) < n
    · obtain ⟨b, off, ha, hc⟩ := HR.out.cell i (by omega)
      subst ha
      have hil : i < ls.length := by have := HL.out; omega
      have HT : Hid (ls.take (i + 1) = ls.take i ++ [ls.getD i ByteArray.empty]) := take_snocB ls i hil
      generalize ls.getD i ByteArray.empty = t at hc HT
      have HK1 : Hid (kp s m (ls.take (i + 1)) = ls.take i ++ kp s m [t] ∧ lf s m (ls.take (i + 1)) = lf s m [t]) := by
        show _ ∧ _
        rw [HT.out, kp_append, lf_append, HK.out.1, HK.out.2]; exact ⟨rfl, rfl⟩
      by_cases hh : t = s ∧ m ≠ 0
      · obtain ⟨hts, hm0⟩ := hh
        subst hts
        obtain ⟨k, rfl⟩ : ∃ k, m = k + 1 := ⟨m - 1, by omega⟩
        have HY := cl_yes b1 b2 k t w HC.out (by omega)
        have HK2 : Hid (kp t (k + 1) (ls.take (i + 1)) = ls.take i ∧ lf t (k + 1) (ls.take (i + 1)) = k) := by
          show _ ∧ _
          rw [HK1.out.1, HK1.out.2, (kp_one t t (k + 1)).1, (kp_one t t (k + 1)).2, if_pos ⟨rfl, by omega⟩, if_pos ⟨rfl, by omega⟩]
          exact ⟨by simp, by omega⟩
        go_wp2_with fail
        refine HY.mono ?_
        rintro e w1 ⟨rfl, rfl⟩
        go_wp2
        go_ret
        exact .inr ⟨i, k, rfl, by omega, rfl, rfl, HK2.out⟩
      · have HNo := cl_no b1 b2 m s t w HC.out hh
        have HK2 : Hid (kp s m (ls.take (i + 1)) = ls.take (i + 1) ∧ lf s m (ls.take (i + 1)) = m) := by
          show _ ∧ _
          rw [HK1.out.1, HK1.out.2, (kp_one s t m).1, (kp_one s t m).2, if_neg hh, if_neg hh, ← HT.out]
          exact ⟨rfl, rfl⟩
        go_wp2_with fail
        refine HNo.mono ?_
        rintro e w ⟨rfl, rfl⟩
        go_wp2
        go_roundg (gk - 1)
        case measure => omega
        case rel => exact ⟨rfl, i + 1, by omega, by go_num, HK2⟩
    · have HE : Hid (kp s m ls = ls) := by
        have := HK.out.1
        rw [List.take_of_length_le (by have := HL.out; omega)] at this
        exact this
      go_wp2
      go_ret
      exact .inl ⟨rfl, rfl, HE.out⟩
end Go.Proofs.Ytemiajjjhhofaab

namespace Go.Proofs.Ytemiajjjhhofaab
open Go.RowKit Go.PlainAid

/-- Block g is a row of texts with these cells. -/
def BkS (w : World) (g : Nat) (cur : List Value) : Prop := w.heap[g]? = some (.cells cur.toArray 9 (0, 0))
theorem BkS.lt {w : World} {g : Nat} {cur : List Value} (h : BkS w g cur) : g < w.heap.size := (Array.getElem?_eq_some_iff.1 h).1
theorem BkS.cell {w : World} {g : Nat} {cur : List Value} (h : BkS w g cur) (j : Nat) : w.cell? ⟨g, j, none⟩ = cur[j]? := by
  have h' : w.heap[g]? = some (.cells cur.toArray 9 (0, 0)) := h
  simp [World.cell?, h']
theorem BkS.frozen {w : World} {g : Nat} {cur : List Value} (h : BkS w g cur) (j : Nat) : w.frozen? ⟨g, j, none⟩ = false := by
  have h' : w.heap[g]? = some (.cells cur.toArray 9 (0, 0)) := h
  simp [World.frozen?, h']
theorem BkS.set {w : World} {g : Nat} {cur : List Value} (h : BkS w g cur) (o : Nat) (v : Value) : BkS (w.setCell ⟨g, o, none⟩ v) g (cur.set o v) := by
  have h' : w.heap[g]? = some (.cells cur.toArray 9 (0, 0)) := h
  show _ = _
  rw [heap_set h']; simp
theorem BkS.far {w : World} {g b o : Nat} {cur : List Value} {v : Value} (h : BkS w g cur) (hne : g ≠ b) : BkS (w.setCell ⟨b, o, none⟩ v) g cur := by
  show _ = _
  rw [heap_other v hne]; exact h
theorem OwnS.bk {w : World} {B g n c : Nat} {ls : List ByteArray} (h : OwnS w B (some ⟨g, 0, none⟩) n c ls) : ∃ cur, BkS w g cur ∧ cur.length = c ∧ cur.take n = ls.map Value.string ∧ n ≤ c ∧ c ≤ maxLen ∧ B ≤ g := by
  rcases h.2 with ⟨h2, -⟩ | ⟨g', c', cur, h1, h3, h4, h5, h6, h7, h8⟩
  · cases h2
  · cases h1
    refine ⟨cur.toList, by show _ = _; simpa using h4, by simpa using h7, by simpa using h8, h5, h6, h3⟩
theorem OwnS.of_bk {w : World} {B g n c : Nat} {cur : List Value} {ls : List ByteArray} (hB : B ≤ g) (hk : BkS w g cur) (hn : n ≤ c) (hc : c ≤ maxLen) (hl : cur.length = c) (ht : cur.take n = ls.map Value.string) : OwnS w B (some ⟨g, 0, none⟩) n c ls := by
  have hlen : ls.length = n := by
    have := congrArg List.length ht
    simp at this
    omega
  refine ⟨by simp [hlen], .inr ⟨g, c, cur.toArray, rfl, hB, hk, hn, hc, by simp [hl], by simpa using ht⟩⟩
theorem bks_cells {g : Nat} : ∀ (vs : List Value) (o : Nat) (w : World) (cur : List Value), BkS w g cur → o + vs.length ≤ cur.length → BkS (w.setCells g o vs) g (splice cur o vs) ∧ w.grownBy (w.setCells g o vs) (some g)
  | [], o, w, cur, h, hl => ⟨by simpa [splice, World.setCells] using h, grown_refl _ _⟩
  | v :: vs, o, w, cur, h, hl => by
    have h1 := bks_cells vs (o + 1) (w.setCell ⟨g, o, none⟩ v) (cur.set o v) (h.set o v) (by simp at hl ⊢; omega)
    rw [splice_set cur o v vs (by simpa using hl)] at h1
    exact ⟨h1.1, grown_trans (grown_setCell w g o v) h1.2⟩
/-- clear(d), d in block g, a row of texts. -/
theorem clear_inS {w : World} {ops : Array Oper} {rest : List Oper} {o : Oper} {ac : Act} {Q : Exit → Act → World → Prop} (hgd : o.guard = none) (d : Operand) (ho : o.op = .call { callee := .builtin .clear, args := #[d], argTypes := #[22] })
    {g off dLen dCap : Nat} (hd : ac.eval d = .slice (some ⟨g, off, none⟩) dLen dCap) (cur : List Value) (hB : BkS w g cur) (hfit : off + dLen ≤ cur.length)
    (h : ∀ w', Hid (BkS w' g (splice cur off (List.replicate dLen (.string ⟨#[]⟩)))) → Hid (w.grownBy w' (some g)) → wpList Try.prog ops Q rest (ac.put o.dst (.tuple #[])) w') : wpList Try.prog ops Q (o :: rest) ac w := by
  by_cases h0 : dLen = 0
  · subst h0
    have hr : ∀ ty, (Builtin.clear_ #[22] ty #[.slice (some ⟨g, off, none⟩) 0 dCap]).run Try.prog w = .ok (.tuple #[]) w := by
      intro ty
      simp [Builtin.clear_, run_underlying Try.underlying22]
    refine wpList_plain hgd fun K hK => ?_
    unfold Oper.wp
    simp [execOp, ho, resolve, invoke, builtin, hd, hr, Result.andThen]
    exact hK _ _ (h w (by show BkS _ _ _; simpa [splice] using hB) (grown_refl _ _))
  · have hz : ∀ w, (zeroValue 9).run Try.prog w = .ok (.string ⟨#[]⟩) w := fun w => by go_simp
    have hr := fun ty => Lib.run_clear_slice (P := Try.prog) w 22 9 ty (.string ⟨#[]⟩) Try.underlying22 hz rfl rfl g off dLen dCap (by omega)
      (fun j hj => by rw [hB.cell, List.getElem?_eq_getElem (by omega)]; rfl) (fun j hj => hB.frozen _)
    have hb := bks_cells (List.replicate dLen (.string ⟨#[]⟩)) off w cur hB (by simpa using hfit)
    refine wpList_plain hgd fun K hK => ?_
    unfold Oper.wp
    simp [execOp, ho, resolve, invoke, builtin, hd, hr, Result.andThen]
    exact hK _ _ (h _ hb.1 hb.2)

/-- s[:hi] and s[lo:] of a row of texts. -/
theorem slice_hiS (g n c hi : Nat) (h1 : hi ≤ c) :
    ∀ wx, (Instr.sliceAt 22 (.slice (some ⟨g, 0, none⟩) n c) none (some (.int .i64 hi)) none).run Try.prog wx = .ok (.slice (some ⟨g, 0, none⟩) hi c) wx := by
  have ht : Try.prog.underlying 22 = some (.slice (Try.prog.elem 22)) := by rw [Try.elem22]; exact Try.underlying22
  intro wx
  rw [run_sliceAt_slice _ _ _ _ _ _ ht, run_slice_h (P := Try.prog) wx 22 _ n c ht .i64 hi (by omega) (by omega), Try.elem22, Try.size9]
  simp [Result.andThen, sliced, add_flat]

theorem slice_loS (g n c lo : Nat) (h1 : lo ≤ n) :
    ∃ o, (lo < c → o = lo) ∧ ∀ wx, (Instr.sliceAt 22 (.slice (some ⟨g, 0, none⟩) n c) (some (.int .i64 lo)) none none).run Try.prog wx = .ok (.slice (some ⟨g, o, none⟩) (n - lo) (c - lo)) wx := by
  have ht : Try.prog.underlying 22 = some (.slice (Try.prog.elem 22)) := by rw [Try.elem22]; exact Try.underlying22
  refine ⟨if c = lo then 0 else lo, fun h => by rw [if_neg (by omega)], fun wx => ?_⟩
  rw [run_sliceAt_slice _ _ _ _ _ _ ht, run_slice_l (P := Try.prog) wx 22 _ n c ht .i64 lo (by omega) (by omega), Try.elem22, Try.size9]
  simp only [Result.andThen, sliced, Int.toNat_natCast]
  split <;> simp [*, add_flat]
/-- What DeleteFunc leaves: a row without some texts, in its place. -/
def Cut9 (w : World) (C : Nat) (ls : List ByteArray) (e : Ending) (w' : World) (M : List Nat) : Prop :=
  ∃ a' n' c', e = .returned (.slice a' n' c') ∧ OwnS w' C a' n' c' ls ∧ Stay w w' M

set_option maxRecDepth 100000 in
set_option maxHeartbeats 400000 in
theorem DeleteFunc_cl (C : Nat) (a : Option Addr) (n c : Nat) (ls : List ByteArray) (b1 b2 m : Nat) (s : ByteArray) (w : World) (hO : OwnS w C a n c ls) (h : Cl w b1 b2 s m) (hm : m ≤ 1000000) (hn : n ≤ 1000000) (hg1 : ∀ x, a = some x → b1 ≠ x.block ∧ b2 ≠ x.block) :
    Calls Try.prog 104 #[.slice a n c, .func (.func 105) #[] #[ptr b1, ptr b2]] w fun e w' => Cut9 w C (kp s m ls) e w' (b2 :: (a.map (·.block)).toList) := by
  have HI := IndexFunc_cl a n c ls b1 b2 m s w hO.rd h hm
  have HO : Hid (OwnS w C a n c ls) := hO
  have HC : Hid (Cl w b1 b2 s m) := h
  have HG : Hid (∀ x, a = some x → b1 ≠ x.block ∧ b2 ≠ x.block) := hg1
  clear hO h hg1
  go_enter Try.func104, Try.ntmps104
  go_wp2_with fail
  refine HI.mono ?_
  rintro e w1 (⟨rfl, rfl, hK⟩ | ⟨i0, k0, rfl, hi0, hmk, rfl, hK1, hK2⟩)
  · have HK : Hid (kp s m ls = ls) := hK
    clear hK HI
    go_wp2
    go_ret
    exact ⟨_, _, _, rfl, by rw [HK.out]; exact HO.out, Stay.of_below (Below.refl _ _) _⟩
  · obtain ⟨b, off, ha, -⟩ := HO.out.rd.cell i0 hi0
    obtain ⟨g, hag⟩ : ∃ g, a = some ⟨g, 0, none⟩ := by
      rcases HO.out.2 with ⟨h2, -⟩ | ⟨g', c', cur, h1, -⟩
      · rw [ha] at h2; cases h2
      · injection h1 with e1; exact ⟨g', e1⟩
    subst hag
    obtain ⟨cur, hcur, hcl, hct, hnc, hcm, hCg⟩ := HO.out.bk
    obtain ⟨hg1, hg2⟩ := HG.out _ rfl
    have hg1' : b1 ≠ g := hg1
    have hg2' : b2 ≠ g := hg2
    have HL : Hid (ls.length = n) := HO.out.len
    have HR0 : Hid (∃ cu : List Value, BkS (w.setCell ⟨b2, 0, none⟩ (.int .i64 (k0 : Nat))) g cu ∧ cu.length = c ∧ cu.take i0 = (kp s m (ls.take (i0 + 1))).map Value.string ∧ ∀ q, i0 + 1 ≤ q → q < n → cu[q]? = some (.string (txt ls q))) := by
      refine ⟨cur, hcur.far (Ne.symm hg2'), hcl, ?_, ?_⟩
      · rw [hK1]
        have := congrArg (List.take i0) hct
        rw [List.take_take, Nat.min_eq_left (by omega), ← List.map_take] at this
        exact this
      · intro q _ hq
        have hqq : cur[q]? = (ls.map Value.string)[q]? := by rw [← hct, List.getElem?_take, if_pos hq]
        rw [hqq, List.getElem?_map, txt, List.getD_eq_getElem?_getD, List.getElem?_eq_getElem (by have := HL.out; omega)]; rfl
    have HC0 : Hid (Cl (w.setCell ⟨b2, 0, none⟩ (.int .i64 (k0 : Nat))) b1 b2 s k0) := by have := HC.out; rw [hmk] at this; exact this.set k0
    have HS0 : Hid (Stay w (w.setCell ⟨b2, 0, none⟩ (.int .i64 (k0 : Nat))) [b2, g]) := Stay.set.mono (by simp)
    have HKl : Hid ((kp s m (ls.take (i0 + 1))).length = i0 ∧ lf s m (ls.take (i0 + 1)) = k0) := ⟨by rw [hK1, List.length_take]; have := HL.out; omega, hK2⟩
    have HCg : Hid (C ≤ g ∧ n ≤ c ∧ c ≤ maxLen) := ⟨hCg, hnc, hcm⟩
    have hii : ¬ ((i0 : Int) = -1) := by omega
    have hnc2 : n ≤ c := hnc
    have hcm2 : c ≤ 9223372036854775807 := by unfold maxLen at hcm; omega
    have hk06 : k0 ≤ 1000000 := by omega
    clear HI hK1 hK2 hcur hcl hct ha hg1 hg2 hCg hnc hcm hmk
    generalize w.setCell ⟨b2, 0, none⟩ (.int .i64 (k0 : Nat)) = w0 at *
    go_wp2
    go_loopg [5, 6, 7] (n - (i0 + 1)) (fun gg iv jv vv wr => ∃ j i k : Nat, j + gg = n ∧ iv = .int .i64 i ∧ jv = .int .i64 j ∧ i < j ∧ k ≤ 1000000 ∧ Hid ((kp s m (ls.take j)).length = i ∧ lf s m (ls.take j) = k) ∧ Hid (∃ cu : List Value, BkS wr g cu ∧ cu.length = c ∧ cu.take i = (kp s m (ls.take j)).map Value.string ∧ ∀ q, j ≤ q → q < n → cu[q]? = some (.string (txt ls q))) ∧ Hid (Cl wr b1 b2 s k) ∧ Hid (Stay w wr [b2, g]))
    case atStart => exact ⟨i0 + 1, i0, k0, by omega, rfl, by go_num, by omega, by omega, HKl, HR0, HC0, HS0⟩
    case round =>
      obtain ⟨j, i, k, hjg, rfl, rfl, hij, hk6, HK, HRr, HCr, HSr⟩ := hrel
      obtain ⟨cu, hb, hcl, hct, hcq⟩ := HRr.out
      by_cases hjn : (j : Int) < n
      · have hcj := hcq j (Nat.le_refl _) (by omega)
        have hc1 : wr.cell? ⟨g, j, none⟩ = some (.string (txt ls j)) := by rw [hb.cell]; exact hcj
        have hc2 : ∃ v, wr.cell? ⟨g, i, none⟩ = some v := ⟨cu[i]'(by omega), by rw [hb.cell, List.getElem?_eq_getElem (by omega)]⟩
        obtain ⟨v0, hv0⟩ := hc2
        have hf2 := hb.frozen i
        have hjl : j < ls.length := by have := HL.out; omega
        have HT : Hid (ls.take (j + 1) = ls.take j ++ [txt ls j]) := take_snocB ls j hjl
        have HK1 : Hid (kp s m (ls.take (j + 1)) = kp s m (ls.take j) ++ kp s k [txt ls j] ∧ lf s m (ls.take (j + 1)) = lf s k [txt ls j]) := by
          show _ ∧ _
          rw [HT.out, kp_append, lf_append, HK.out.2]; exact ⟨rfl, rfl⟩
        have HCU : Hid (BkS wr g cu ∧ cu.length = c ∧ cu.take i = (kp s m (ls.take j)).map Value.string ∧ ∀ q, j ≤ q → q < n → cu[q]? = some (.string (txt ls q))) := ⟨hb, hcl, hct, hcq⟩
        generalize txt ls j = t at hc1 HK1
        clear hb hcl hct hcq hcj
        by_cases hh : t = s ∧ k ≠ 0
        · obtain ⟨hts, hk0⟩ := hh
          subst hts
          obtain ⟨k1, rfl⟩ : ∃ k1, k = k1 + 1 := ⟨k - 1, by omega⟩
          have HY := cl_yes b1 b2 k1 t wr HCr.out (by omega)
          have HK2 : Hid ((kp t m (ls.take (j + 1))).length = i ∧ lf t m (ls.take (j + 1)) = k1) := by
            show _ ∧ _
            rw [HK1.out.1, HK1.out.2, (kp_one t t (k1 + 1)).1, (kp_one t t (k1 + 1)).2, if_pos ⟨rfl, by omega⟩, if_pos ⟨rfl, by omega⟩, List.append_nil]
            exact ⟨HK.out.1, by omega⟩
          have HR2 : Hid (∃ cu : List Value, BkS (wr.setCell ⟨b2, 0, none⟩ (.int .i64 (k1 : Nat))) g cu ∧ cu.length = c ∧ cu.take i = (kp t m (ls.take (j + 1))).map Value.string ∧ ∀ q, j + 1 ≤ q → q < n → cu[q]? = some (.string (txt ls q))) := by
            obtain ⟨c1, c2, c3, c4⟩ := HCU.out
            refine ⟨cu, c1.far (Ne.symm hg2'), c2, ?_, fun q h1 h2 => c4 q (by omega) h2⟩
            rw [HK1.out.1, (kp_one t t (k1 + 1)).1, if_pos ⟨rfl, by omega⟩, List.append_nil]; exact c3
          have HC2 : Hid (Cl (wr.setCell ⟨b2, 0, none⟩ (.int .i64 (k1 : Nat))) b1 b2 t k1) := HCr.out.set k1
          have HS2 : Hid (Stay w (wr.setCell ⟨b2, 0, none⟩ (.int .i64 (k1 : Nat))) [b2, g]) := HSr.out.trans Stay.set (by simp)
          go_wp2_with fail
          refine HY.mono ?_
          rintro e w2 ⟨rfl, rfl⟩
          generalize wr.setCell ⟨b2, 0, none⟩ (.int .i64 (k1 : Nat)) = w3 at *
          go_wp2
          go_roundg (gk - 1)
          case measure => omega
          case rel => exact ⟨j + 1, i, k1, by omega, rfl, by go_num, by omega, by omega, HK2, HR2, HC2, HS2⟩
        · have HNo := cl_no b1 b2 k s t wr HCr.out hh
          have HK2 : Hid ((kp s m (ls.take (j + 1))).length = i + 1 ∧ lf s m (ls.take (j + 1)) = k) := by
            show _ ∧ _
            rw [HK1.out.1, HK1.out.2, (kp_one s t k).1, (kp_one s t k).2, if_neg hh, if_neg hh, List.length_append, HK.out.1]
            exact ⟨rfl, rfl⟩
          have HR2 : Hid (∃ cu : List Value, BkS (wr.setCell ⟨g, i, none⟩ (.string t)) g cu ∧ cu.length = c ∧ cu.take (i + 1) = (kp s m (ls.take (j + 1))).map Value.string ∧ ∀ q, j + 1 ≤ q → q < n → cu[q]? = some (.string (txt ls q))) := by
            obtain ⟨c1, c2, c3, c4⟩ := HCU.out
            refine ⟨cu.set i (.string t), c1.set i _, by rw [List.length_set]; exact c2, ?_, fun q h1 h2 => ?_⟩
            · rw [HK1.out.1, (kp_one s t k).1, if_neg hh, List.map_append, ← c3, List.take_add_one, List.getElem?_set_self (by omega), List.take_set_of_le (by omega)]; rfl
            · rw [List.getElem?_set_ne (by omega)]; exact c4 q (by omega) h2
          have HC2 : Hid (Cl (wr.setCell ⟨g, i, none⟩ (.string t)) b1 b2 s k) := HCr.out.far hg1' hg2'
          have HS2 : Hid (Stay w (wr.setCell ⟨g, i, none⟩ (.string t)) [b2, g]) := HSr.out.trans Stay.set (by simp)
          have hin : i < n := by omega
          go_wp2_with fail
          refine HNo.mono ?_
          rintro e wr ⟨rfl, rfl⟩
          go_wp2
          go_roundg (gk - 1)
          case measure => omega
          case rel => exact ⟨j + 1, i + 1, k, by omega, by go_num, by go_num, by omega, hk6, HK2, HR2, HC2, HS2⟩
      · have hjj : j = n := by omega
        subst hjj
        obtain ⟨oo, hoo, s1⟩ := slice_loS g j c i (by omega)
        have hO3 : oo = i := hoo (by omega)
        subst hO3
        have s2 := slice_hiS g j c oo (by omega)
        have HB : Hid (BkS wr g cu) := hb
        have HFt : Hid (oo + (j - oo) ≤ cu.length) := by show _ ≤ _; omega
        have HE : Hid (∀ w', BkS w' g (splice cu oo (List.replicate (j - oo) (.string ⟨#[]⟩))) → OwnS w' C (some ⟨g, 0, none⟩) oo c (kp s m ls)) := fun w' hw' => by
          refine OwnS.of_bk HCg.out.1 hw' (by omega) HCg.out.2.2 ?_ ?_
          · rw [length_splice _ _ _ (by rw [List.length_replicate]; omega)]; exact hcl
          · rw [take_splice_low _ _ _ _ (Nat.le_refl _) (by omega), hct, List.take_of_length_le (by have := HL.out; omega)]
        clear hb hcl hct hcq hoo
        go_wp2_with (refine clear_inS rfl (.tmp 38) rfl rfl cu HB.out HFt.out ?_; intro w4 HB4 HG4)
        go_ret
        exact ⟨_, _, _, rfl, HE.out w4 HB4.out, HSr.out.trans ⟨HG4.out.os, HG4.out.tape, HG4.out.output, HG4.out.size, fun k hk hn => HG4.out.block k hk (fun e => hn (by rw [Option.some.inj e]; simp))⟩ (M' := [g]) (by simp)⟩
end Go.Proofs.Ytemiajjjhhofaab

namespace Go.Proofs.Ytemiajjjhhofaab
open Go.RowKit Go.PlainAid

set_option maxRecDepth 100000 in
set_option maxHeartbeats 400000 in
theorem without_any (C : Nat) (a : Option Addr) (n c : Nat) (ls : List ByteArray) (m : Nat) (s : ByteArray) (w : World) (hO : OwnS w C a n c ls) (hm : m ≤ 1000000) (hn : n ≤ 1000000) :
    Calls Try.prog 92 #[.slice a n c, .string s, .int .i64 (m : Nat)] w fun e w' => Cut9 w C (kp s m ls) e w' ((a.map (·.block)).toList) := by
  have hmf : ∀ (fn : Fn) (first cap : Array Value) (w : World), (Instr.makeFunc fn first cap).run Try.prog w = .ok (.func fn first cap) w := fun _ _ _ _ => rfl
  have hA1 := alloc_below w (.cells #[.string s] 9)
  have hN1 := heap_alloc_new w (.cells #[.string s] 9)
  obtain ⟨w1, hw1⟩ : ∃ w1, w.alloc (.cells #[.string s] 9) = w1 := ⟨_, rfl⟩
  rw [hw1] at hA1 hN1
  have hA2 := alloc_below w1 (.cells #[.int .i64 (m : Nat)] 3)
  have hN2 := heap_alloc_new w1 (.cells #[.int .i64 (m : Nat)] 3)
  obtain ⟨w2, hw2⟩ : ∃ w2, w1.alloc (.cells #[.int .i64 (m : Nat)] 3) = w2 := ⟨_, rfl⟩
  rw [hw2] at hA2 hN2
  have hlt1 : w.heap.size < w1.heap.size := (Array.getElem?_eq_some_iff.1 hN1).1
  have hN1' : w2.heap[w.heap.size]? = some (.cells #[.string s] 9 (0, 0)) := by rw [hA2.block _ hlt1]; exact hN1
  have hCl : Cl w2 w.heap.size w1.heap.size s m := ⟨by simp [World.cell?, hN1'], by simp [World.cell?, hN2], by simp [World.frozen?, hN2], by omega⟩
  have hB2 : Below w.heap.size w w2 := hA1.trans (hA2.mono hA1.size)
  have HD := DeleteFunc_cl C a n c ls w.heap.size w1.heap.size m s w2 (hO.keep hB2) hCl hm hn (fun x hx => by
    have h1 : x.block < w.heap.size := by
      rcases hO.2 with ⟨e, -⟩ | ⟨g, c', cur, e, h4, h5, -⟩
      · injection e with e1; rw [e1] at hx; cases hx
      · injection e with e1; rw [e1] at hx; cases hx; exact (Array.getElem?_eq_some_iff.1 h5).1
    exact ⟨by omega, by omega⟩)
  have HB2 : Hid (Below w.heap.size w w2 ∧ w.heap.size ≤ w1.heap.size) := ⟨hB2, hA1.size⟩
  clear hA1 hN1 hA2 hN2 hN1' hCl hB2 hO hlt1
  go_enter Try.func92, Try.ntmps92
  go_wp2_with fail
  refine HD.mono ?_
  rintro e w3 ⟨a', n', c', rfl, hO3, hS3⟩
  have HO3 : Hid (OwnS w3 C a' n' c' (kp s m ls)) := hO3
  have HS3 : Hid (Stay w w3 ((a.map (·.block)).toList)) := by
    refine (Stay.of_below HB2.out.1 _).trans hS3 ?_
    intro i hi
    rcases List.mem_cons.1 hi with rfl | hi
    · exact .inr HB2.out.2
    · exact .inl hi
  clear hO3 hS3 HD
  go_wp2
  go_ret
  exact ⟨_, _, _, rfl, HO3.out, HS3.out⟩

/-- Behind so many swaps. -/
def rvAt (L : List ByteArray) (n k q : Nat) : ByteArray := if q < k ∨ n - k ≤ q then txt L (n - 1 - q) else txt L q

set_option maxRecDepth 100000 in
set_option maxHeartbeats 400000 in
theorem Reverse_any (C : Nat) (a : Option Addr) (n c : Nat) (ls : List ByteArray) (w : World) (hO : OwnS w C a n c ls) (hn : n ≤ 1000000) :
    Calls Try.prog 93 #[.slice a n c] w fun e w' => e = .returned (.tuple #[]) ∧ OwnS w' C a n c ls.reverse ∧ Stay w w' ((a.map (·.block)).toList) := by
  have hL := hO.len
  by_cases h0 : n ≤ 1
  · have HR : Hid (OwnS w C a n c ls.reverse) := by
      have : ls.reverse = ls := by
        match ls, hL with
        | [], _ => rfl
        | [x], _ => rfl
        | x :: y :: r, h => simp at h; omega
      show OwnS _ _ _ _ _ _
      rw [this]; exact hO
    have hn1 : ¬ ((0 : Int) < (n : Int) - 1) := by omega
    have hw : IntKind.i64.wrap ((n : Int) - 1) = (n : Int) - 1 := by rw [IntKind.wrap_i64]; omega
    clear hO hL
    go_enter Try.func93, Try.ntmps93
    go_wp2
    go_loopg [2, 3] 0 (fun g iv jv wr => w = wr ∧ iv = .int .i64 0 ∧ jv = .int .i64 ((n : Int) - 1))
    case atStart => exact ⟨rfl, rfl, rfl⟩
    case round =>
      obtain ⟨rfl, rfl, rfl⟩ := hrel
      go_wp2
      go_end0
      exact ⟨rfl, HR.out, Stay.of_below (Below.refl _ _) _⟩
  · obtain ⟨g, rfl⟩ : ∃ g, a = some ⟨g, 0, none⟩ := by
      rcases hO.2 with ⟨h2, h3⟩ | ⟨g', c', cur, h1, -⟩
      · omega
      · injection h1 with e1; exact ⟨g', e1⟩
    obtain ⟨cur, hcur, hcl, hct, hnc, hcm, hCg⟩ := hO.bk
    have HL : Hid (ls.length = n) := hL
    have HCg : Hid (C ≤ g ∧ n ≤ c ∧ c ≤ maxLen) := ⟨hCg, hnc, hcm⟩
    have HR0 : Hid (∃ cu : List Value, BkS w g cu ∧ cu.length = c ∧ ∀ q, q < n → cu[q]? = some (.string (rvAt ls n 0 q))) := by
      refine ⟨cur, hcur, hcl, fun q hq => ?_⟩
      have hqq : cur[q]? = (ls.map Value.string)[q]? := by rw [← hct, List.getElem?_take, if_pos hq]
      rw [hqq, List.getElem?_map, rvAt, if_neg (by omega), txt, List.getD_eq_getElem?_getD, List.getElem?_eq_getElem (by omega)]; rfl
    obtain ⟨n1, hn1⟩ : ∃ n1 : Nat, (n : Int) - 1 = n1 := ⟨n - 1, by omega⟩
    clear hO hL hcur hcl hct hCg hcm
    go_enter Try.func93, Try.ntmps93
    go_wp2
    go_loopg [2, 3] n (fun gg iv jv wr => ∃ k j : Nat, k + gg = n ∧ iv = .int .i64 k ∧ jv = .int .i64 ((j : Int) - 1) ∧ j + k = n ∧ k ≤ j + 1 ∧ Hid (∃ cu : List Value, BkS wr g cu ∧ cu.length = c ∧ ∀ q, q < n → cu[q]? = some (.string (rvAt ls n k q))) ∧ Hid (Stay w wr [g]))
    case atStart => exact ⟨0, n, by omega, rfl, by rw [hn1], by omega, by omega, HR0, Stay.of_below (Below.refl _ _) _⟩
    case round =>
      obtain ⟨k, j, hkg, rfl, rfl, hjk, hkj, HR, HS⟩ := hrel
      obtain ⟨cu, hb, hcl, hcq⟩ := HR.out
      by_cases hlt : (k : Int) < (j : Int) - 1
      · obtain ⟨j1, hj1⟩ : ∃ j1 : Nat, (j : Int) - 1 = j1 := ⟨j - 1, by omega⟩
        rw [hj1] at hlt ⊢
        have hx := hcq k (by omega)
        have hy := hcq j1 (by omega)
        have hrx : rvAt ls n k k = txt ls k := by unfold rvAt; rw [if_neg (by omega)]
        have hry : rvAt ls n k j1 = txt ls j1 := by unfold rvAt; rw [if_neg (by omega)]
        rw [hrx] at hx
        rw [hry] at hy
        have hcx : wr.cell? ⟨g, k, none⟩ = some (.string (txt ls k)) := by rw [hb.cell]; exact hx
        have hcy : wr.cell? ⟨g, j1, none⟩ = some (.string (txt ls j1)) := by rw [hb.cell]; exact hy
        have hfx := hb.frozen k
        have hfy := hb.frozen j1
        have hkn : k < n := by omega
        have hjn : j1 < n := by omega
        have hkj2 : ¬ k = j1 := by omega
        have HR2 : Hid (∀ w', BkS w' g ((cu.set k (.string (txt ls j1))).set j1 (.string (txt ls k))) → ∃ cu : List Value, BkS w' g cu ∧ cu.length = c ∧ ∀ q, q < n → cu[q]? = some (.string (rvAt ls n (k + 1) q))) := fun w' hw' => by
          refine ⟨_, hw', by rw [List.length_set, List.length_set]; exact hcl, fun q hq => ?_⟩
          have hnc2 := HCg.out.2.1
          by_cases h1 : q = j1
          · subst h1
            rw [List.getElem?_set_self (by rw [List.length_set]; omega), rvAt, if_pos (by omega), show n - 1 - q = k by omega]
          · rw [List.getElem?_set_ne (by omega)]
            by_cases h2 : q = k
            · subst h2
              rw [List.getElem?_set_self (by omega), rvAt, if_pos (by omega), show n - 1 - q = j1 by omega]
            · rw [List.getElem?_set_ne (by omega), hcq q hq]
              congr 2
              unfold rvAt
              by_cases h3 : q < k ∨ n - k ≤ q
              · rw [if_pos h3, if_pos (by omega)]
              · rw [if_neg h3, if_neg (by omega)]
        have HBk : Hid (BkS wr.drew g cu) := hb
        generalize txt ls k = tx at *
        generalize txt ls j1 = ty at *
        have HW1 : Hid (BkS ((wr.drew.setCell ⟨g, k, none⟩ (.string ty)).setCell ⟨g, j1, none⟩ (.string tx)) g ((cu.set k (.string ty)).set j1 (.string tx))) := (HBk.out.set k _).set j1 _
        have HS1 : Hid (Stay w ((wr.drew.setCell ⟨g, k, none⟩ (.string ty)).setCell ⟨g, j1, none⟩ (.string tx)) [g]) := ((HS.out.trans (Stay.of_below (below_drewN wr 1) [g]) (by simp)).trans Stay.set (by simp)).trans Stay.set (by simp)
        clear hb hcl hcq hx hy hrx hry
        go_wp2_with fail
        go_region
        all_goals
          go_wp2
          go_roundg (gk - 1)
          case measure => omega
          case rel => exact ⟨k + 1, j1, by omega, by go_num, by go_num, by omega, by omega, HR2.out _ HW1.out, HS1⟩
      · have hle : ¬ ((k : Int) < (j : Int) - 1) := hlt
        have HE : Hid (OwnS wr C (some ⟨g, 0, none⟩) n c ls.reverse) := by
          refine OwnS.of_bk HCg.out.1 hb HCg.out.2.1 HCg.out.2.2 hcl ?_
          apply List.ext_getElem?
          intro q
          have hll := HL.out
          by_cases hq : q < n
          · rw [List.getElem?_take, if_pos hq, hcq q hq, List.getElem?_map, List.getElem?_reverse (by omega), hll]
            have : rvAt ls n k q = txt ls (n - 1 - q) := by
              unfold rvAt
              split
              · rfl
              · congr 1; omega
            rw [this, txt, List.getD_eq_getElem?_getD, List.getElem?_eq_getElem (by omega)]; rfl
          · rw [List.getElem?_take, if_neg hq, List.getElem?_eq_none (by rw [List.length_map, List.length_reverse]; omega)]
        have hw : -9223372036854775808 ≤ (j : Int) - 1 := by omega
        clear hb hcl hcq
        go_wp2
        go_end0
        exact ⟨rfl, HE.out, HS.out⟩
end Go.Proofs.Ytemiajjjhhofaab

namespace Go.Proofs.Ytemiajjjhhofaab
open Go.RowKit Go.PlainAid

theorem pack_sum : ∀ l : List ByteArray, (pack l).length = (l.map fun s => (enc (lst s)).length).sum
  | [] => rfl
  | s :: r => by rw [pack, List.length_append, pack_sum r, List.map_cons, List.sum_cons]
theorem pack_rev (l : List ByteArray) : (pack l.reverse).length = (pack l).length := by rw [pack_sum, pack_sum, List.map_reverse, List.sum_reverse]
theorem pack_kp (s : ByteArray) : ∀ (l : List ByteArray) (m : Nat), (pack (kp s m l)).length ≤ (pack l).length
  | [], _ => Nat.le_refl _
  | x :: r, m => by
    unfold kp
    rw [rem, pack, List.length_append]
    split
    · have := pack_kp s r (m - 1)
      unfold kp at this
      omega
    · have := pack_kp s r m
      unfold kp at this
      rw [pack, List.length_append]
      omega

/-- What keep leaves of a node. -/
def KeepAt (w : World) (B l R most cnt : Nat) (l1 l2 : List Nd) (d : Nd) (K : List ByteArray) (w' : World) : Prop :=
  ∃ X, Lst w' B l R most (cnt - (d.ls.length - K.length)) (l1 ++ (X ++ l2)) ∧ Goes w w' l R (l1 ++ d :: l2) (l1 ++ (X ++ l2)) ∧ Ok most (l1 ++ (X ++ l2)) ∧ txN X = K ∧ w'.cell? ⟨d.a, 1, none⟩ = some (ptr (laA R l1)) ∧ w'.cell? ⟨d.a, 2, none⟩ = some (ptr (hdA R l2))

theorem Lst.cells {w : World} {B l R most cnt : Nat} {l1 l2 : List Nd} {d : Nd} (h : Lst w B l R most cnt (l1 ++ d :: l2)) : w.cell? ⟨d.a, 1, none⟩ = some (ptr (laA R l1)) ∧ w.cell? ⟨d.a, 2, none⟩ = some (ptr (hdA R l2)) := by
  have h1 := (h.gap (l1 := l1) (l2 := d :: l2)).2
  have h2 := (Lst.gap (l1 := l1 ++ [d]) (l2 := l2) (by simpa using h)).1
  rw [laA_snoc] at h2
  exact ⟨h1, h2⟩

/-- A node has another, new pack. -/
theorem Lst.swap {w w1 : World} {B l R most cnt : Nat} {l1 l2 : List Nd} {d : Nd} (h : Lst w B l R most cnt (l1 ++ d :: l2)) (hb : Below w.heap.size w w1) {p : Nat} {a : Option Addr} {n c : Nat} (hP : Pk w1 w.heap.size p a n c []) :
    Lst (w1.setCell ⟨d.a, 0, none⟩ (ptr p)) B l R most cnt (l1 ++ ⟨d.a, p, a, n, c, []⟩ :: l2) ∧ Goes w (w1.setCell ⟨d.a, 0, none⟩ (ptr p)) l R (l1 ++ d :: l2) (l1 ++ ⟨d.a, p, a, n, c, []⟩ :: l2) := by
  have hd := h.nod d (by simp)
  have hs : Stay w (w1.setCell ⟨d.a, 0, none⟩ (ptr p)) [d.a] := (Stay.of_below hb [d.a]).trans Stay.set (by simp)
  have hbl := hP.blocks
  have hne : d.a ∉ p :: (a.map (·.block)).toList := fun hm => by have h1 := (hbl.1 _ hm).1; have h2 := hd.lt; omega
  have hl0 : n = 0 := hP.len.symm
  refine h.put (d' := ⟨d.a, p, a, n, c, []⟩) rfl hs (fun k hk => by simp at hk; rw [hk]; simp [Nd.fp]) (fun o ho => ?_) ⟨?_, ?_, fun s hs => absurd hs (by simp), by show n ≤ 65536; omega, hd.low⟩ (List.nodup_cons.2 ⟨hne, hbl.2⟩) ?_
  · rw [cell_ne (fun e => by rcases ho with rfl | rfl <;> exact absurd e.2 (by decide))]
    exact hb.cell (p := ⟨d.a, o, none⟩) hd.lt
  · obtain ⟨x, y, e⟩ := hd.blk
    have e1 : w1.heap[d.a]? = some (.cells #[ptr d.p, x, y] 71 (0, 0)) := by rw [hb.block _ hd.lt]; exact e
    exact ⟨x, y, by show (w1.setCell ⟨d.a, 0, none⟩ (ptr p)).heap[d.a]? = _; rw [heap_set e1]; rfl⟩
  · have hBw : B ≤ w.heap.size := Nat.le_trans h.lowl (Nat.le_of_lt h.lt)
    exact (hP.low' hBw).stay (Stay.set (q := d.a) (o := 0) (v := ptr p)) (fun hm => hne (by simp at hm; rw [← hm]; simp)) (fun k hk hm => hne (by simp at hm; rw [← hm]; exact List.mem_cons_of_mem _ hk))
  · intro k hk
    rcases List.mem_cons.1 hk with rfl | hk
    · exact .inl (by simp [Nd.fp])
    · exact .inr (hbl.1 k hk).1

set_option maxRecDepth 100000 in
set_option maxHeartbeats 400000 in
theorem keep_any (B l R most cnt : Nat) (l1 l2 : List Nd) (d : Nd) (a : Option Addr) (n c : Nat) (K : List ByteArray) (w : World) (h : Lst w B l R most cnt (l1 ++ d :: l2)) (hok : Ok most (l1 ++ d :: l2)) (hR : RdF w a n K (l :: R :: fpN (l1 ++ d :: l2))) (hle : K.length ≤ d.ls.length) (hsame : K.length = d.ls.length → K = d.ls) (hf : Fit K) (hpk : (pack K).length ≤ 65536) (hc1 : d.ls.length ≤ cnt) (hcnt : cnt ≤ 1000000) :
    Calls Try.prog 94 #[ptr l, ptr d.a, .slice a n c] w fun e w' => e = .returned (.int .i64 ((d.ls.length - K.length : Nat) : Nat)) ∧ KeepAt w B l R most cnt l1 l2 d K w' := by
  have hdN := h.nod d (by simp)
  have hcp := h.cpk (d := d) (by simp)
  have HLen := Len_any B d.p d.r d.n d.c d.ls w hdN.pk
  have hKn := hR.rd.len
  have hd6 := hdN.siz
  have hdm := hdN.pk.many
  have HL : Hid (Lst w B l R most cnt (l1 ++ d :: l2)) := h
  have HOk : Hid (Ok most (l1 ++ d :: l2)) := hok
  obtain ⟨dk, hdk⟩ : ∃ dk, d.ls.length = dk := ⟨_, rfl⟩
  have HDk : Hid (d.ls.length = dk) := hdk
  rw [hdk] at HLen hle hc1 hdm hsame ⊢
  rw [hKn] at hle hsame ⊢
  obtain ⟨g, hg⟩ : ∃ g, dk - n = g := ⟨_, rfl⟩
  have hgi : (dk : Int) - (n : Int) = g := by omega
  have HG : Hid (dk - n = g) := hg
  have HKn : Hid (K.length = n) := hKn
  rw [hg]
  by_cases h0 : g = 0
  · subst h0
    have HE : Hid (KeepAt w B l R most cnt l1 l2 d K w) := by
      have hKd : K = d.ls := hsame (by omega)
      refine ⟨[d], ?_, Goes.refl _ _ _ _, hok, by rw [txN_cons, txN_nil, hKd]; simp, h.cells.1, h.cells.2⟩
      rw [hKd, Nat.sub_self]; exact h
    clear h hok hR hdN hsame hf hpk
    go_enter Try.func94, Try.ntmps94
    go_wp2_with fail
    refine HLen.mono ?_
    rintro e w ⟨rfl, rfl⟩
    go_wp2
    go_ret
    exact ⟨rfl, HE.out⟩
  · have hg0 : ¬ ((g : Int) = 0) := by omega
    have hcc := h.ccnt
    have hcf := h.frozen 1
    obtain ⟨q, hq⟩ : ∃ q, cnt - g = q := ⟨_, rfl⟩
    have hqi : (cnt : Int) - (g : Int) = q := by omega
    obtain ⟨h6, h7⟩ := h.count q
    have HL6 : Hid (Lst (w.setCell ⟨l, 1, none⟩ (.int .i64 (q : Nat))) B l R most q (l1 ++ d :: l2)) := h6
    have HG6 : Hid (Goes w (w.setCell ⟨l, 1, none⟩ (.int .i64 (q : Nat))) l R (l1 ++ d :: l2) (l1 ++ d :: l2)) := h7
    have HR6 : Hid (RdF (w.setCell ⟨l, 1, none⟩ (.int .i64 (q : Nat))) a n K (l :: R :: fpN (l1 ++ d :: l2))) := hR.goes h7
    have HQ : Hid (cnt - (d.ls.length - K.length) = q) := by show _ = _; rw [hdk, hKn, hg]; exact hq
    by_cases hn0 : n = 0
    · subst hn0
      have HU := unlink_any B l R most q l1 l2 d _ h6
      have HK0 : Hid (K = []) := List.length_eq_zero_iff.1 hKn
      have hgd : g = dk := by omega
      subst hgd
      clear h hok hR hdN hsame hf hpk h6 h7 hq
      go_enter Try.func94, Try.ntmps94
      go_wp2_with fail
      refine HLen.mono ?_
      rintro e w ⟨rfl, rfl⟩
      go_wp2_with fail
      refine HU.mono ?_
      rintro e w2 ⟨rfl, h8, h9, hc1, hc2⟩
      have HE : Hid (KeepAt w B l R most cnt l1 l2 d K w2) := by
        refine ⟨[], ?_, HG6.out.trans h9, HOk.out.less, by rw [HK0.out]; rfl, hc1, hc2⟩
        rw [HQ.out]; exact h8
      clear h8 h9 hc1 hc2 HU
      go_wp2
      go_ret
      exact ⟨rfl, HE.out⟩
    · have hn01 : ¬ ((n : Int) = 0) := by omega
      have HF : Hid (Fit K) := hf
      have HPk : Hid ((pack K).length ≤ 65536) := hpk
      have HNw := New_any (w.setCell ⟨l, 1, none⟩ (.int .i64 (q : Nat)))
      clear h hok hR hdN hsame hf hpk h6 h7 hq
      go_enter Try.func94, Try.ntmps94
      go_wp2_with fail
      refine HLen.mono ?_
      rintro e w ⟨rfl, rfl⟩
      go_wp2_with fail
      generalize w.setCell ⟨l, 1, none⟩ (.int .i64 (q : Nat)) = w6 at *
      refine HNw.mono ?_
      rintro e w7 ⟨hb, p, pa, pn, pc, rfl, hP⟩
      obtain ⟨h8, h9⟩ := HL6.out.swap hb hP
      have hcd : w7.cell? ⟨d.a, 0, none⟩ = some (ptr d.p) := (HL6.out.keep hb).cpk (by simp)
      have hfd : w7.frozen? ⟨d.a, 0, none⟩ = false := (HL6.out.keep hb).nfrozen (k := d.a) (by rw [adr_append, adr_cons]; simp) 0
      have hcn : (w7.setCell ⟨d.a, 0, none⟩ (ptr p)).cell? ⟨d.a, 0, none⟩ = some (ptr p) := cell_eq hcd
      have hR8 := HR6.out.goes h9
      have hpn : pn = 0 := hP.len.symm
      have HIn := Insert_nd B l R most q l1 l2 ⟨d.a, p, pa, pn, pc, []⟩ 0 a n c K _ h8 (Nat.zero_le _) hR8.rd HF.out (by have := HKn.out; have := HDk.out; omega) (by show pn + _ ≤ _; have := HPk.out; omega)
      have HG8 : Hid (Goes w (w7.setCell ⟨d.a, 0, none⟩ (ptr p)) l R (l1 ++ d :: l2) (l1 ++ ⟨d.a, p, pa, pn, pc, []⟩ :: l2)) := HG6.out.trans h9
      clear hb hP h8 h9 hR8 HNw hpn
      go_wp2_with fail
      generalize w7.setCell ⟨d.a, 0, none⟩ (ptr p) = w8 at *
      refine HIn.mono ?_
      rintro e w9 ⟨rfl, d', e1, e2, e3, e4, h4, h5⟩
      have HE : Hid (KeepAt w B l R most cnt l1 l2 d K w9) := by
        have e3' : d'.ls = K := by rw [e3]; simp
        have hce := h4.cells
        rw [e1] at hce
        refine ⟨[d'], ?_, ?_, ?_, by rw [txN_cons, txN_nil, e3']; simp, hce.1, hce.2⟩
        · rw [HQ.out]; exact h4
        · exact HG8.out.trans h5
        · refine HOk.out.mid ?_
          have h1 := HOk.out d (by simp)
          have h2 := HKn.out
          have h3 := HDk.out
          rw [e3']
          omega
      clear h4 h5 HIn e1 e2 e3 e4
      go_wp2
      go_ret
      exact ⟨rfl, HE.out⟩
end Go.Proofs.Ytemiajjjhhofaab

namespace Go.Proofs.Ytemiajjjhhofaab
open Go.RowKit Go.PlainAid

/-- A row that was made behind a world lies outside each list of it. -/
theorem OwnS.rdf {w w' : World} {B l R most cnt : Nat} {ns : List Nd} (h : Lst w B l R most cnt ns) {a : Option Addr} {n c : Nat} {ls : List ByteArray} (hO : OwnS w' w.heap.size a n c ls) : RdF w' a n ls (l :: R :: fpN ns) := by
  refine ⟨hO.rd, fun x hx => ?_⟩
  rcases hO.2 with ⟨e, -⟩ | ⟨g, c', cur, e, h4, h5, -⟩
  · injection e with e1; rw [e1] at hx; cases hx
  · injection e with e1
    rw [e1] at hx
    cases hx
    exact ⟨fun hm => absurd (h.fplt g hm).2 (by omega), (Array.getElem?_eq_some_iff.1 h5).1⟩
theorem Cut9.below {w0 w w' : World} {a : Option Addr} {n c : Nat} {ls : List ByteArray} (hO : OwnS w w0.heap.size a n c ls) (h0 : w0.heap.size ≤ w.heap.size) (hs : Stay w w' ((a.map (·.block)).toList)) : Below w0.heap.size w w' := by
  refine hs.below (fun k hk => ?_) h0
  rw [Option.mem_toList] at hk
  exact (hO.lt k (by rw [← hk]; cases a <;> rfl)).1

theorem kp_same (s : ByteArray) : ∀ (l : List ByteArray) (m : Nat), (kp s m l).length = l.length → kp s m l = l
  | [], _, _ => rfl
  | x :: r, m, h => by
    unfold kp at h ⊢
    rw [rem] at h ⊢
    split at h
    · have := (kp_len s r (m - 1)).1
      unfold kp at this
      rw [List.length_cons] at h
      omega
    · rename_i hh
      rw [if_neg hh]
      simp only [List.length_cons] at h
      have := kp_same s r m (by unfold kp; omega)
      unfold kp at this
      simp only [this]

set_option maxRecDepth 100000 in
set_option maxHeartbeats 400000 in
theorem removeFirst_any (B l R most : Nat) (ns : List Nd) (s : ByteArray) (m : Nat) (w : World) (h : Lst w B l R most (txN ns).length ns) (hok : Ok most ns) (hc : (txN ns).length ≤ 1000000) (hm : m ≤ 1000000) :
    Calls Try.prog 74 #[ptr l, .string s, .int .i64 (m : Nat)] w fun e w' => e = .returned (.tuple #[]) ∧ Does w B l R most (kp s m (txN ns)).length ns (kp s m (txN ns)) w' := by
  have hcr := h.cring
  have hg : w.cell? ⟨R, 2, none⟩ = some (ptr (hdA R ns)) := (Lst.gap (l1 := []) (l2 := ns) h).1
  have HC : Hid ((txN ns).length ≤ 1000000) := hc
  obtain ⟨N, hN⟩ : ∃ N, ns.length = N := ⟨_, rfl⟩
  have HN : Hid (ns.length = N) := hN
  obtain ⟨v, hv⟩ : ∃ v, hdA R ns = v := ⟨_, rfl⟩
  have HR0 : Hid (∃ l1 l2 P, Lst w B l R most (txN (l1 ++ l2)).length (l1 ++ l2) ∧ Goes w w l R ns (l1 ++ l2) ∧ Ok most (l1 ++ l2) ∧ txN ns = P ++ txN l2 ∧ txN l1 = kp s m P ∧ lf s m P = m ∧ hdA R l2 = v ∧ l2.length = N) := ⟨[], ns, [], h, Goes.refl _ _ _ _, hok, rfl, rfl, rfl, hv, hN⟩
  rw [hv] at hg
  clear h hok hc hN hv
  go_enter Try.func74, Try.ntmps74
  go_wp2
  go_loopg [2, 6, 7] N (fun g mv nv kv wr => ∃ k v : Nat, mv = .int .i64 (k : Nat) ∧ nv = ptr v ∧ k ≤ 1000000 ∧ Hid (∃ l1 l2 P, Lst wr B l R most (txN (l1 ++ l2)).length (l1 ++ l2) ∧ Goes w wr l R ns (l1 ++ l2) ∧ Ok most (l1 ++ l2) ∧ txN ns = P ++ txN l2 ∧ txN l1 = kp s m P ∧ lf s m P = k ∧ hdA R l2 = v ∧ l2.length = g))
  case atStart => exact ⟨m, v, rfl, rfl, hm, HR0⟩
  case round =>
    obtain ⟨k, v, rfl, rfl, hk6, HR⟩ := hrel
    obtain ⟨l1, l2, P, hL, hGo, hO, hT, hK, hlf, hv, hlen⟩ := HR.out
    have hcr := hL.cring
    cases l2 with
    | nil =>
      have hvR : R = v := hv
      subst hvR
      have hq := neq_same wr R
      have HE : Hid (Does w B l R most (kp s m (txN ns)).length ns (kp s m (txN ns)) wr) := by
        have e1 : txN ns = P := by rw [hT, txN_nil, List.append_nil]
        have e2 : txN (l1 ++ []) = kp s m (txN ns) := by rw [List.append_nil, hK, e1]
        rw [← e2]
        exact ⟨_, hL, hGo, hO, rfl⟩
      clear hL hGo hO hT hK hlf
      go_wp2
      go_end0
      exact ⟨rfl, HE.out⟩
    | cons d r =>
      have hvd : d.a = v := hv
      subst hvd
      have hq := (hL.neqR (d := d) (by simp)).2
      by_cases hk0 : k = 0
      · subst hk0
        have HE : Hid (Does w B l R most (kp s m (txN ns)).length ns (kp s m (txN ns)) wr) := by
          have e2 : txN (l1 ++ d :: r) = kp s m (txN ns) := by rw [hT, kp_append, hlf, (kp_zero s _).1, txN_append, hK]
          rw [← e2]
          exact ⟨_, hL, hGo, hO, rfl⟩
        clear hL hGo hO hT hK hlf
        go_wp2
        go_end0
        exact ⟨rfl, HE.out⟩
      · have hk01 : (0 : Int) < (k : Int) := by omega
        have hdN := hL.nod d (by simp)
        have hcp := hL.cpk (d := d) (by simp)
        have hd6 := hdN.siz
        have hdm := hdN.pk.many
        have HAl := All_any B d.p d.r d.n d.c d.ls wr hdN.pk hdN.fit (by omega)
        have HL : Hid (Lst wr B l R most (txN (l1 ++ d :: r)).length (l1 ++ d :: r)) := hL
        have HGo : Hid (Goes w wr l R ns (l1 ++ d :: r)) := hGo
        have HO : Hid (Ok most (l1 ++ d :: r)) := hO
        have HT : Hid (txN ns = P ++ txN (d :: r) ∧ txN l1 = kp s m P ∧ lf s m P = k) := ⟨hT, hK, hlf⟩
        have HLn : Hid (r.length + 1 = gk) := by rw [← hlen]; rfl
        have hg0 : gk ≠ 0 := by have := HLn.out; omega
        have HCt : Hid ((txN (l1 ++ d :: r)).length ≤ 1000000) := by
          have h1 := (kp_len s P m).1
          have h2 := HC.out
          show _ ≤ _
          rw [hT, List.length_append] at h2
          rw [txN_append, List.length_append, hK]
          omega
        have HKl := kp_len s d.ls k
        have HKf : Hid ((kp s k d.ls).length = d.ls.length → kp s k d.ls = d.ls) := fun he => kp_same s d.ls k he
        clear hL hGo hO hT hK hlf hv hlen HR
        go_wp2_with fail
        refine HAl.mono ?_
        rintro e w1 ⟨hb, a1, n1, c1, rfl, hO1⟩
        have hn1 := hO1.len
        have HWi := without_any wr.heap.size a1 n1 c1 d.ls k s w1 hO1 hk6 (by omega)
        have HO1 : Hid (OwnS w1 wr.heap.size a1 n1 c1 d.ls) := hO1
        have HB1 : Hid (Below wr.heap.size wr w1) := hb
        clear hb hO1 HAl
        go_wp2_with fail
        refine HWi.mono ?_
        rintro e w2 ⟨a2, n2, c2, rfl, hO2, hS2⟩
        have HB2 : Hid (Below wr.heap.size wr w2) := HB1.out.trans (Cut9.below HO1.out HB1.out.size hS2)
        have hL2 := HL.out.keep HB2.out
        have hn2 := hO2.len
        have HKe := keep_any B l R most _ l1 r d a2 n2 c2 (kp s k d.ls) w2 hL2 HO.out (OwnS.rdf HL.out hO2) HKl.1 HKf.out (fun t ht => hdN.fit t (kp_mem s d.ls k t ht)) (Nat.le_trans (pack_kp s d.ls k) (by rw [hdN.pk.len]; exact hdN.siz)) (by rw [txN_append, txN_cons, List.length_append, List.length_append]; omega) HCt.out
        obtain ⟨g9, hg9⟩ : ∃ g9, d.ls.length - (kp s k d.ls).length = g9 := ⟨_, rfl⟩
        rw [hg9] at HKe
        obtain ⟨k2, hk2⟩ : ∃ k2, lf s k d.ls = k2 := ⟨_, rfl⟩
        have hki : (k : Int) - (g9 : Int) = k2 := by omega
        have hk26 : k2 ≤ 1000000 := by omega
        have HK2 : Hid (lf s k d.ls = k2) := hk2
        have HG9 : Hid (d.ls.length - (kp s k d.ls).length = g9 ∧ (kp s k d.ls).length ≤ d.ls.length) := ⟨hg9, HKl.1⟩
        clear hO2 hS2 hL2 HWi HKl hn1 hn2 hg9 hk2 hdN
        go_wp2_with fail
        refine HKe.mono ?_
        rintro e w3 ⟨rfl, X, h1, h2, h3, h4, h5, h6⟩
        obtain ⟨v2, hv2⟩ : ∃ v2, hdA R r = v2 := ⟨_, rfl⟩
        rw [hv2] at h6
        have HR3 : Hid (∃ l1 l2 P, Lst w3 B l R most (txN (l1 ++ l2)).length (l1 ++ l2) ∧ Goes w w3 l R ns (l1 ++ l2) ∧ Ok most (l1 ++ l2) ∧ txN ns = P ++ txN l2 ∧ txN l1 = kp s m P ∧ lf s m P = k2 ∧ hdA R l2 = v2 ∧ l2.length = gk - 1) := by
          obtain ⟨t1, t2, t3⟩ := HT.out
          refine ⟨l1 ++ X, r, P ++ d.ls, ?_, ?_, ?_, ?_, ?_, ?_, hv2, ?_⟩
          · have : (txN (l1 ++ d :: r)).length - (d.ls.length - (kp s k d.ls).length) = (txN (l1 ++ X ++ r)).length := by
              have := HG9.out.2
              rw [txN_append, txN_cons, txN_append, txN_append, h4]
              simp only [List.length_append]
              omega
            rw [this, ← List.append_assoc] at h1
            exact h1
          · rw [List.append_assoc]; exact (HGo.out.trans (Goes.of_below HB2.out _ _ _)).trans h2
          · rw [List.append_assoc]; exact h3
          · rw [t1, txN_cons, List.append_assoc]
          · rw [txN_append, h4, t2, kp_append, t3]
          · rw [lf_append, t3]; exact HK2.out
          · have := HLn.out; omega
        have hce := h6
        clear h1 h2 h3 h4 h5 h6 HKe hv2
        go_wp2
        go_roundg (gk - 1)
        case measure => omega
        case rel => exact ⟨k2, v2, by go_num, rfl, hk26, HR3⟩
/-- The same from the last on. -/
def rp (s : ByteArray) (m : Nat) (l : List ByteArray) : List ByteArray := (kp s m l.reverse).reverse
theorem rp_append (s : ByteArray) (m : Nat) (a b : List ByteArray) : rp s m (a ++ b) = rp s (lf s m b.reverse) a ++ rp s m b := by
  unfold rp
  rw [List.reverse_append, kp_append, List.reverse_append]
theorem rp_zero (s : ByteArray) (l : List ByteArray) : rp s 0 l = l := by unfold rp; rw [(kp_zero s _).1, List.reverse_reverse]
theorem rp_len (s : ByteArray) (l : List ByteArray) (m : Nat) : (rp s m l).length ≤ l.length := by
  unfold rp
  have := (kp_len s l.reverse m).1
  rw [List.length_reverse] at this ⊢
  exact this

set_option maxRecDepth 100000 in
set_option maxHeartbeats 400000 in
theorem removeLast_any (B l R most : Nat) (ns : List Nd) (s : ByteArray) (m : Nat) (w : World) (h : Lst w B l R most (txN ns).length ns) (hok : Ok most ns) (hc : (txN ns).length ≤ 1000000) (hm : m ≤ 1000000) :
    Calls Try.prog 73 #[ptr l, .string s, .int .i64 (m : Nat)] w fun e w' => e = .returned (.tuple #[]) ∧ Does w B l R most (rp s m (txN ns)).length ns (rp s m (txN ns)) w' := by
  have hcr := h.cring
  have hg : w.cell? ⟨R, 1, none⟩ = some (ptr (laA R ns)) := (Lst.gap (l1 := ns) (l2 := []) (by rw [List.append_nil]; exact h)).2
  have HC : Hid ((txN ns).length ≤ 1000000) := hc
  obtain ⟨N, hN⟩ : ∃ N, ns.length = N := ⟨_, rfl⟩
  have HN : Hid (ns.length = N) := hN
  obtain ⟨v, hv⟩ : ∃ v, laA R ns = v := ⟨_, rfl⟩
  have HR0 : Hid (∃ l1 l2 P, Lst w B l R most (txN (l1 ++ l2)).length (l1 ++ l2) ∧ Goes w w l R ns (l1 ++ l2) ∧ Ok most (l1 ++ l2) ∧ txN ns = txN l1 ++ P ∧ txN l2 = rp s m P ∧ lf s m P.reverse = m ∧ laA R l1 = v ∧ l1.length = N) := ⟨ns, [], [], by rw [List.append_nil]; exact h, by rw [List.append_nil]; exact Goes.refl _ _ _ _, by rw [List.append_nil]; exact hok, by simp, rfl, rfl, hv, hN⟩
  rw [hv] at hg
  clear h hok hc hN hv
  go_enter Try.func73, Try.ntmps73
  go_wp2
  go_loopg [2, 6, 7] N (fun g mv nv kv wr => ∃ k v : Nat, mv = .int .i64 (k : Nat) ∧ nv = ptr v ∧ k ≤ 1000000 ∧ Hid (∃ l1 l2 P, Lst wr B l R most (txN (l1 ++ l2)).length (l1 ++ l2) ∧ Goes w wr l R ns (l1 ++ l2) ∧ Ok most (l1 ++ l2) ∧ txN ns = txN l1 ++ P ∧ txN l2 = rp s m P ∧ lf s m P.reverse = k ∧ laA R l1 = v ∧ l1.length = g))
  case atStart => exact ⟨m, v, rfl, rfl, hm, HR0⟩
  case round =>
    obtain ⟨k, v, rfl, rfl, hk6, HR⟩ := hrel
    obtain ⟨l1, l2, P, hL, hGo, hO, hT, hK, hlf, hv, hlen⟩ := HR.out
    have hcr := hL.cring
    rcases snoc_ex l1 with e1 | ⟨r, d, e1⟩
    · subst e1
      have hvR : R = v := hv
      subst hvR
      have hq := neq_same wr R
      have HE : Hid (Does w B l R most (rp s m (txN ns)).length ns (rp s m (txN ns)) wr) := by
        have e1 : txN ns = P := by rw [hT, txN_nil, List.nil_append]
        have e2 : txN ([] ++ l2) = rp s m (txN ns) := by rw [List.nil_append, hK, e1]
        rw [← e2]
        exact ⟨_, hL, hGo, hO, rfl⟩
      clear hL hGo hO hT hK hlf
      go_wp2
      go_end0
      exact ⟨rfl, HE.out⟩
    · subst e1
      rw [laA_snoc] at hv
      subst hv
      have es : ∀ Y : List Nd, r ++ [d] ++ Y = r ++ d :: Y := fun Y => by simp
      rw [es] at hL hGo hO
      have hq := (hL.neqR (d := d) (by simp)).2
      by_cases hk0 : k = 0
      · subst hk0
        have HE : Hid (Does w B l R most (rp s m (txN ns)).length ns (rp s m (txN ns)) wr) := by
          have e2 : txN (r ++ d :: l2) = rp s m (txN ns) := by
            rw [hT, rp_append, hlf, rp_zero, ← hK, ← txN_append, es]
          rw [← e2]
          exact ⟨_, hL, hGo, hO, rfl⟩
        clear hL hGo hO hT hK hlf
        go_wp2
        go_end0
        exact ⟨rfl, HE.out⟩
      · have hk01 : (0 : Int) < (k : Int) := by omega
        have hdN := hL.nod d (by simp)
        have hcp := hL.cpk (d := d) (by simp)
        have hd6 := hdN.siz
        have hdm := hdN.pk.many
        have HAl := Back_pk B d.p d.r d.n d.c d.ls wr hdN.pk hdN.fit (by omega)
        have HL : Hid (Lst wr B l R most (txN (r ++ d :: l2)).length (r ++ d :: l2)) := hL
        have HGo : Hid (Goes w wr l R ns (r ++ d :: l2)) := hGo
        have HO : Hid (Ok most (r ++ d :: l2)) := hO
        have HT : Hid (txN ns = txN (r ++ [d]) ++ P ∧ txN l2 = rp s m P ∧ lf s m P.reverse = k) := ⟨hT, hK, hlf⟩
        have HLn : Hid (r.length + 1 = gk) := by show _ = _; rw [← hlen]; simp
        have hg0 : gk ≠ 0 := by have := HLn.out; omega
        have HCt : Hid ((txN (r ++ d :: l2)).length ≤ 1000000) := by
          have h1 := rp_len s P m
          have h2 := HC.out
          show _ ≤ _
          rw [hT, List.length_append] at h2
          rw [← es, txN_append, List.length_append, hK]
          omega
        have HKl := kp_len s d.ls.reverse k
        have HKf : Hid ((rp s k d.ls).length = d.ls.length → rp s k d.ls = d.ls) := fun he => by
          unfold rp at he ⊢
          rw [List.length_reverse] at he
          rw [kp_same s d.ls.reverse k (by rw [List.length_reverse]; exact he), List.reverse_reverse]
        rw [List.length_reverse] at HKl
        clear hL hGo hO hT hK hlf hlen HR
        go_wp2_with fail
        refine HAl.mono ?_
        rintro e w1 ⟨hb, a1, n1, c1, rfl, hO1⟩
        have hn1 := hO1.len
        rw [List.length_reverse] at hn1
        have HWi := without_any wr.heap.size a1 n1 c1 d.ls.reverse k s w1 hO1 hk6 (by omega)
        have HO1 : Hid (OwnS w1 wr.heap.size a1 n1 c1 d.ls.reverse) := hO1
        have HB1 : Hid (Below wr.heap.size wr w1) := hb
        clear hb hO1 HAl
        go_wp2_with fail
        refine HWi.mono ?_
        rintro e w2 ⟨a2, n2, c2, rfl, hO2, hS2⟩
        have HB2 : Hid (Below wr.heap.size wr w2) := HB1.out.trans (Cut9.below HO1.out HB1.out.size hS2)
        have hn2 := hO2.len
        have HRv := Reverse_any wr.heap.size a2 n2 c2 (kp s k d.ls.reverse) w2 hO2 (by omega)
        have HO2 : Hid (OwnS w2 wr.heap.size a2 n2 c2 (kp s k d.ls.reverse)) := hO2
        clear hO2 hS2 HWi
        go_wp2_with fail
        refine HRv.mono ?_
        rintro e w5 ⟨rfl, hO5, hS5⟩
        have HB5 : Hid (Below wr.heap.size wr w5) := HB2.out.trans (Cut9.below HO2.out HB2.out.size hS5)
        have hL5 := HL.out.keep HB5.out
        have hRl : (rp s k d.ls).length = (kp s k d.ls.reverse).length := by unfold rp; rw [List.length_reverse]
        have HKe := keep_any B l R most _ r l2 d a2 n2 c2 (rp s k d.ls) w5 hL5 HO.out (OwnS.rdf HL.out hO5) (by rw [hRl]; exact HKl.1) HKf.out (fun t ht => hdN.fit t (by
          unfold rp at ht
          have := kp_mem s d.ls.reverse k t (List.mem_reverse.1 ht)
          exact List.mem_reverse.1 this)) (by
          unfold rp
          rw [pack_rev]
          refine Nat.le_trans (pack_kp s d.ls.reverse k) ?_
          rw [pack_rev, hdN.pk.len]; exact hdN.siz) (by rw [txN_append, txN_cons, List.length_append, List.length_append]; omega) HCt.out
        rw [hRl] at HKe
        obtain ⟨g9, hg9⟩ : ∃ g9, d.ls.length - (kp s k d.ls.reverse).length = g9 := ⟨_, rfl⟩
        rw [hg9] at HKe
        obtain ⟨k2, hk2⟩ : ∃ k2, lf s k d.ls.reverse = k2 := ⟨_, rfl⟩
        have hki : (k : Int) - (g9 : Int) = k2 := by omega
        have hk26 : k2 ≤ 1000000 := by omega
        have HK2 : Hid (lf s k d.ls.reverse = k2) := hk2
        have HG9 : Hid ((rp s k d.ls).length = (kp s k d.ls.reverse).length ∧ (kp s k d.ls.reverse).length ≤ d.ls.length) := ⟨hRl, HKl.1⟩
        clear hO5 hS5 hL5 HRv HKl hn1 hn2 hg9 hk2 hdN hRl
        go_wp2_with fail
        refine HKe.mono ?_
        rintro e w3 ⟨rfl, X, h1, h2, h3, h4, h5, h6⟩
        obtain ⟨v2, hv2⟩ : ∃ v2, laA R r = v2 := ⟨_, rfl⟩
        rw [hv2] at h5
        have HR3 : Hid (∃ l1 l2 P, Lst w3 B l R most (txN (l1 ++ l2)).length (l1 ++ l2) ∧ Goes w w3 l R ns (l1 ++ l2) ∧ Ok most (l1 ++ l2) ∧ txN ns = txN l1 ++ P ∧ txN l2 = rp s m P ∧ lf s m P.reverse = k2 ∧ laA R l1 = v2 ∧ l1.length = gk - 1) := by
          obtain ⟨t1, t2, t3⟩ := HT.out
          refine ⟨r, X ++ l2, d.ls ++ P, ?_, ?_, ?_, ?_, ?_, ?_, hv2, ?_⟩
          · have : (txN (r ++ d :: l2)).length - (d.ls.length - (rp s k d.ls).length) = (txN (r ++ (X ++ l2))).length := by
              have h8 := HG9.out
              rw [txN_append, txN_cons, txN_append, txN_append, h4]
              simp only [List.length_append]
              omega
            rw [this] at h1
            exact h1
          · exact (HGo.out.trans (Goes.of_below HB5.out _ _ _)).trans h2
          · exact h3
          · rw [t1, txN_append, txN_cons, txN_nil]; simp
          · rw [txN_append, h4, t2, rp_append, t3]
          · rw [List.reverse_append, lf_append, t3]; exact HK2.out
          · have := HLn.out; omega
        have hce := h5
        clear h1 h2 h3 h4 h5 h6 HKe hv2
        go_wp2
        go_roundg (gk - 1)
        case measure => omega
        case rel => exact ⟨k2, v2, by go_num, rfl, hk26, HR3⟩
end Go.Proofs.Ytemiajjjhhofaab

namespace Go.Proofs.Ytemiajjjhhofaab
open Go.RowKit Go.PlainAid

/-- What is left when texts that are s are removed: the first n, the last -n, all. -/
def rmv (T : List ByteArray) (s : ByteArray) (n : Int) : List ByteArray :=
  if n < 0 then rp s (min (-n).toNat T.length) T else if 0 < n then kp s (min n.toNat T.length) T else kp s T.length T
theorem rmv_len (T : List ByteArray) (s : ByteArray) (n : Int) : (rmv T s n).length ≤ T.length := by
  unfold rmv
  split
  · exact rp_len s T _
  · split
    · exact (kp_len s T _).1
    · exact (kp_len s T _).1

/-- Behind the removing: the nodes are joined if something is gone. -/
theorem rem_end (B l R most : Nat) (ns : List Nd) (T : List ByteArray) (w : World) (hmost : most ≤ 1000000) {w1 : World} (hD : Does w B l R most T.length ns T w1) :
    w1.cell? ⟨l, 1, none⟩ = some (.int .i64 (T.length : Nat)) ∧ Calls Try.prog 75 #[ptr l] w1 fun e w' => e = .returned (.tuple #[]) ∧ Does w B l R most T.length ns T w' := by
  obtain ⟨ns1, h1, h2, h3, h4⟩ := hD
  refine ⟨h1.ccnt, (joinAll_any B l R most T.length ns1 w1 h1 h3 hmost).mono ?_⟩
  rintro e w' ⟨rfl, ns2, k1, k2, k3, k4⟩
  exact ⟨rfl, ns2, k1, h2.trans k2, k3, by rw [k4]; exact h4⟩

set_option maxRecDepth 100000 in
set_option maxHeartbeats 400000 in
theorem Remove_any (B l R most : Nat) (ns : List Nd) (s : ByteArray) (n : Int) (w : World) (h : Lst w B l R most (txN ns).length ns) (hok : Ok most ns) (hc : (txN ns).length ≤ 1000000) (hmost : most ≤ 1000000) (hn1 : -9223372036854775808 ≤ n) (hn2 : n ≤ 9223372036854775807) :
    Calls Try.prog 51 #[ptr l, .string s, .int .i64 n] w fun e w' => e = .returned (.int .i64 (((txN ns).length - (rmv (txN ns) s n).length : Nat) : Nat)) ∧ Does w B l R most (rmv (txN ns) s n).length ns (rmv (txN ns) s n) w' := by
  have hcc := h.ccnt
  have hrl := rmv_len (txN ns) s n
  obtain ⟨had, hh⟩ : ∃ had, (txN ns).length = had := ⟨_, rfl⟩
  have hnw : IntKind.i64.wrap (-(had : Int)) = -(had : Int) := by rw [IntKind.wrap_i64]; omega
  have HEnd := fun w1 (hD : Does w B l R most (rmv (txN ns) s n).length ns (rmv (txN ns) s n) w1) => rem_end B l R most ns (rmv (txN ns) s n) w hmost hD
  have HRF := fun q (hq : q ≤ 1000000) => removeFirst_any B l R most ns s q w h hok hc hq
  have HRL := fun q (hq : q ≤ 1000000) => removeLast_any B l R most ns s q w h hok hc hq
  have hdef : (n < 0 → rmv (txN ns) s n = rp s (min (-n).toNat had) (txN ns)) ∧ (0 < n → rmv (txN ns) s n = kp s (min n.toNat had) (txN ns)) ∧ (n = 0 → rmv (txN ns) s n = kp s had (txN ns)) := by
    unfold rmv
    rw [hh]
    refine ⟨fun h => by rw [if_pos h], fun h => by rw [if_neg (by omega), if_pos h], fun h => by rw [if_neg (by omega), if_neg (by omega)]⟩
  have hnil : had = 0 → rmv (txN ns) s n = kp s had (txN ns) := fun h0 => by
    have : txN ns = [] := List.length_eq_zero_iff.1 (by omega)
    rw [this]
    unfold rmv
    split
    · rfl
    · split <;> rfl
  rw [hh] at hcc hrl hc ⊢
  generalize rmv (txN ns) s n = T at *
  obtain ⟨tl, htl⟩ : ∃ tl, T.length = tl := ⟨_, rfl⟩
  have HTl : Hid (T.length = tl) := htl
  rw [htl] at hrl HEnd ⊢
  obtain ⟨gn, hgn⟩ : ∃ gn, had - tl = gn := ⟨_, rfl⟩
  rw [hgn]
  have hgi : (had : Int) - (tl : Int) = gn := by omega
  have HGo : ∀ w1, Does w B l R most tl ns T w1 → w1.cell? ⟨l, 1, none⟩ = some (.int .i64 (tl : Nat)) ∧ Calls Try.prog 75 #[ptr l] w1 fun e w' => e = .returned (.tuple #[]) ∧ Does w B l R most tl ns T w' := HEnd
  clear h hok hh htl HEnd hgn
  by_cases hA : n < 0 ∧ 0 < had
  · obtain ⟨q, hq⟩ : ∃ q, min (-n).toNat had = q := ⟨_, rfl⟩
    have HR := HRL q (by omega)
    rw [← hq, ← hdef.1 hA.1, hq, HTl.out] at HR
    have hq0 : 0 < q := by omega
    have hwq : IntKind.i64.wrap (-(-(q : Int))) = q := by rw [IntKind.wrap_i64]; omega
    have hwq2 : -(-(q : Int)) = q := by omega
    have hqn : -(q : Int) < 0 := by omega
    have hch : ¬ ((had : Int) < -(q : Int)) := by omega
    clear HRF HRL hdef hnil
    by_cases hle : n < -(had : Int)
    · have hqh : q = had := by omega
      subst hqh
      go_enter Try.func51, Try.ntmps51
      go_wp2_with fail
      refine HR.mono ?_
      rintro e w1 ⟨rfl, hD⟩
      obtain ⟨hc1, HJ⟩ := HGo w1 hD
      have HD : Hid (Does w B l R most tl ns T w1) := hD
      clear hD HR HGo
      by_cases hg0 : gn = 0
      · subst hg0
        go_wp2
        go_ret
        exact ⟨rfl, HD.out⟩
      · have hg1 : (0 : Int) < (gn : Int) := by omega
        go_wp2_with fail
        refine HJ.mono ?_
        rintro e w2 ⟨rfl, hD2⟩
        have HD2 : Hid (Does w B l R most tl ns T w2) := hD2
        clear hD2 HJ
        go_wp2
        go_ret
        exact ⟨rfl, HD2.out⟩
    · have hqh : n = -(q : Int) := by omega
      subst hqh
      go_enter Try.func51, Try.ntmps51
      go_wp2_with fail
      refine HR.mono ?_
      rintro e w1 ⟨rfl, hD⟩
      obtain ⟨hc1, HJ⟩ := HGo w1 hD
      have HD : Hid (Does w B l R most tl ns T w1) := hD
      clear hD HR HGo
      by_cases hg0 : gn = 0
      · subst hg0
        go_wp2
        go_ret
        exact ⟨rfl, HD.out⟩
      · have hg1 : (0 : Int) < (gn : Int) := by omega
        go_wp2_with fail
        refine HJ.mono ?_
        rintro e w2 ⟨rfl, hD2⟩
        have HD2 : Hid (Does w B l R most tl ns T w2) := hD2
        clear hD2 HJ
        go_wp2
        go_ret
        exact ⟨rfl, HD2.out⟩
  · by_cases hBb : 0 < n ∧ 0 < had
    · obtain ⟨q, hq⟩ : ∃ q, min n.toNat had = q := ⟨_, rfl⟩
      have HR := HRF q (by omega)
      rw [← hq, ← hdef.2.1 hBb.1, hq, HTl.out] at HR
      have hq0 : 0 < q := by omega
      have hqn : ¬ ((q : Int) < 0) := by omega
      have hqp : (0 : Int) < (q : Int) := by omega
      have hlo : ¬ (n < -(had : Int)) := by omega
      clear HRF HRL hdef hnil hA
      by_cases hle : (had : Int) < n
      · have hqh : q = had := by omega
        subst hqh
        go_enter Try.func51, Try.ntmps51
        go_wp2_with fail
        refine HR.mono ?_
        rintro e w1 ⟨rfl, hD⟩
        obtain ⟨hc1, HJ⟩ := HGo w1 hD
        have HD : Hid (Does w B l R most tl ns T w1) := hD
        clear hD HR HGo
        by_cases hg0 : gn = 0
        · subst hg0
          go_wp2
          go_ret
          exact ⟨rfl, HD.out⟩
        · have hg1 : (0 : Int) < (gn : Int) := by omega
          go_wp2_with fail
          refine HJ.mono ?_
          rintro e w2 ⟨rfl, hD2⟩
          have HD2 : Hid (Does w B l R most tl ns T w2) := hD2
          clear hD2 HJ
          go_wp2
          go_ret
          exact ⟨rfl, HD2.out⟩
      · have hqh : n = (q : Int) := by omega
        subst hqh
        go_enter Try.func51, Try.ntmps51
        go_wp2_with fail
        refine HR.mono ?_
        rintro e w1 ⟨rfl, hD⟩
        obtain ⟨hc1, HJ⟩ := HGo w1 hD
        have HD : Hid (Does w B l R most tl ns T w1) := hD
        clear hD HR HGo
        by_cases hg0 : gn = 0
        · subst hg0
          go_wp2
          go_ret
          exact ⟨rfl, HD.out⟩
        · have hg1 : (0 : Int) < (gn : Int) := by omega
          go_wp2_with fail
          refine HJ.mono ?_
          rintro e w2 ⟨rfl, hD2⟩
          have HD2 : Hid (Does w B l R most tl ns T w2) := hD2
          clear hD2 HJ
          go_wp2
          go_ret
          exact ⟨rfl, HD2.out⟩
    · have HR := HRF had (by omega)
      have hT0 : T = kp s had (txN ns) := by
        by_cases h0 : had = 0
        · exact hnil h0
        · exact hdef.2.2 (by omega)
      rw [← hT0, HTl.out] at HR
      have hcc2 := hcc
      clear HRF HRL hdef hnil hT0
      by_cases h0 : had = 0
      · subst h0
        have ht0 : tl = 0 := by omega
        subst ht0
        have hg0 : gn = 0 := by omega
        subst hg0
        by_cases hneg : n < 0
        · go_enter Try.func51, Try.ntmps51
          go_wp2_with fail
          refine HR.mono ?_
          rintro e w1 ⟨rfl, hD⟩
          obtain ⟨hc1, -⟩ := HGo w1 hD
          have HD : Hid (Does w B l R most 0 ns T w1) := hD
          clear hD HR HGo
          go_wp2
          go_ret
          exact ⟨rfl, HD.out⟩
        · by_cases hpos : 0 < n
          · go_enter Try.func51, Try.ntmps51
            go_wp2_with fail
            refine HR.mono ?_
            rintro e w1 ⟨rfl, hD⟩
            obtain ⟨hc1, -⟩ := HGo w1 hD
            have HD : Hid (Does w B l R most 0 ns T w1) := hD
            clear hD HR HGo
            go_wp2
            go_ret
            exact ⟨rfl, HD.out⟩
          · have hn0 : n = 0 := by omega
            subst hn0
            go_enter Try.func51, Try.ntmps51
            go_wp2_with fail
            refine HR.mono ?_
            rintro e w1 ⟨rfl, hD⟩
            obtain ⟨hc1, -⟩ := HGo w1 hD
            have HD : Hid (Does w B l R most 0 ns T w1) := hD
            clear hD HR HGo
            go_wp2
            go_ret
            exact ⟨rfl, HD.out⟩
      · have hn0 : n = 0 := by omega
        subst hn0
        have hl1 : ¬ ((0 : Int) < -(had : Int)) := by omega
        have hl2 : ¬ ((had : Int) < 0) := by omega
        go_enter Try.func51, Try.ntmps51
        go_wp2_with fail
        refine HR.mono ?_
        rintro e w1 ⟨rfl, hD⟩
        obtain ⟨hc1, HJ⟩ := HGo w1 hD
        have HD : Hid (Does w B l R most tl ns T w1) := hD
        clear hD HR HGo
        by_cases hg0 : gn = 0
        · subst hg0
          go_wp2
          go_ret
          exact ⟨rfl, HD.out⟩
        · have hg1 : (0 : Int) < (gn : Int) := by omega
          go_wp2_with fail
          refine HJ.mono ?_
          rintro e w2 ⟨rfl, hD2⟩
          have HD2 : Hid (Does w B l R most tl ns T w2) := hD2
          clear hD2 HJ
          go_wp2
          go_ret
          exact ⟨rfl, HD2.out⟩
theorem QRemove (w : World) (B l most : Nat) (ts : List ByteArray) (F : List Nat) (h : QL w B l most ts F) (hc : ts.length ≤ 1000000) (s : ByteArray) (n : Int) (hn : I64 n) :
    Calls Try.prog 51 #[ptr l, .string s, .int .i64 n] w fun e w' => e = .returned (.int .i64 ((ts.length - (rmv ts s n).length : Nat) : Nat)) ∧ QDoes w B l most (rmv ts s n) F w' := by
  obtain ⟨R, ns, h1, h2, rfl, rfl⟩ := h.ex
  refine (Remove_any B l R most ns s n w h1 h2 hc h.few hn.1 hn.2).mono ?_
  rintro e w' ⟨rfl, hd⟩
  exact ⟨rfl, hd.ql rfl h.pos h.few⟩
end Go.Proofs.Ytemiajjjhhofaab

namespace Go.Proofs.Ytemiajjjhhofaab
open Go.RowKit Go.PlainAid

/-- A row of texts with its room that lies outside a list. -/
structure Row (w : World) (F : List Nat) (a : Option Addr) (n cap : Nat) (ls : List ByteArray) : Prop where
  rl : RdL w a n cap ls
  far : ∀ x, a = some x → x.block ∉ F ∧ x.block < w.heap.size
theorem Row.rdf {w : World} {F : List Nat} {a : Option Addr} {n cap : Nat} {ls : List ByteArray} (h : Row w F a n cap ls) : RdF w a n ls F := ⟨h.rl.rd, h.far⟩
theorem Row.len {w : World} {F : List Nat} {a : Option Addr} {n cap : Nat} {ls : List ByteArray} (h : Row w F a n cap ls) : ls.length = n := h.rl.rd.len
theorem Row.left {w w' : World} {F F' : List Nat} {a : Option Addr} {n cap : Nat} {ls : List ByteArray} (h : Row w F a n cap ls) (hd : Left w w' F F') : Row w' F' a n cap ls := by
  refine ⟨⟨⟨h.rl.rd.len, h.rl.rd.max, fun j hj => ?_⟩, h.rl.fit, h.rl.max, h.rl.nul⟩, fun x hx => ?_⟩
  · obtain ⟨b, off, e, hc⟩ := h.rl.rd.cell j hj
    refine ⟨b, off, e, ?_⟩
    obtain ⟨h1, h2⟩ := h.far _ e
    rw [World.cell?_of_block (hd.stay.block b h2 h1)]
    exact hc
  · obtain ⟨h1, h2⟩ := h.far x hx
    refine ⟨fun hm => ?_, Nat.lt_of_lt_of_le h2 hd.stay.size⟩
    rcases hd.new _ hm with h3 | h3
    · exact h1 h3
    · omega
theorem Row.keep {w w' : World} {F : List Nat} {a : Option Addr} {n cap : Nat} {ls : List ByteArray} (h : Row w F a n cap ls) (hb : Below w.heap.size w w') : Row w' F a n cap ls := h.left (Left.of_below hb F)
/-- Where a row lies: where another did, or anew. -/
def Fresh (w : World) (a a' : Option Addr) : Prop := ∀ x, a' = some x → (∃ y, a = some y ∧ x.block = y.block) ∨ w.heap.size ≤ x.block
theorem Fresh.refl (w : World) (a : Option Addr) : Fresh w a a := fun x hx => .inl ⟨x, hx, rfl⟩
theorem Fresh.back {w w1 : World} {a a' : Option Addr} (h : Fresh w1 a a') (hb : w.heap.size ≤ w1.heap.size) : Fresh w a a' := fun x hx => (h x hx).imp id (Nat.le_trans hb)
theorem OwnS.row0 {w w' : World} {F : List Nat} {C : Nat} {a : Option Addr} {n c : Nat} {ls : List ByteArray} (hO : OwnS w' C a n c ls) (hC : w.heap.size ≤ C) (hF : ∀ k ∈ F, k < w.heap.size) (b : Option Addr) : Row w' F a n c ls ∧ Fresh w b a := by
  have h0 : ∀ x, a = some x → C ≤ x.block ∧ x.block < w'.heap.size := by
    intro x hx
    rcases hO.2 with ⟨e, -⟩ | ⟨g, c', cur, e, h4, h5, -⟩
    · injection e with e1
      rw [e1] at hx; cases hx
    · injection e with e1
      rw [e1] at hx
      cases hx
      exact ⟨h4, (Array.getElem?_eq_some_iff.1 h5).1⟩
  refine ⟨⟨hO.rl, fun x hx => ⟨fun hm => ?_, (h0 x hx).2⟩⟩, fun x hx => .inr (Nat.le_trans hC (h0 x hx).1)⟩
  have h1 := (h0 x hx).1
  have h2 := hF _ hm
  omega
theorem sub_block {a : Option Addr} {cap lo : Nat} {x : Addr} (h : (if cap = lo then a else a.map (·.add (lo * 1))) = some x) : ∃ y, a = some y ∧ x.block = y.block := by
  split at h
  · exact ⟨x, h, rfl⟩
  · cases a with
    | none => cases h
    | some y =>
      cases h
      refine ⟨y, rfl, ?_⟩
      show (Addr.add y (lo * 1)).block = _
      unfold Addr.add
      split <;> rfl
theorem Row.sub {w : World} {F : List Nat} {a : Option Addr} {n cap : Nat} {l : List ByteArray} (h : Row w F a n cap l) (lo hi : Nat) (h1 : lo ≤ hi) (h2 : hi ≤ n) :
    Row w F (if cap = lo then a else a.map (·.add (lo * 1))) (hi - lo) (cap - lo) ((l.drop lo).take (hi - lo)) ∧ Fresh w a (if cap = lo then a else a.map (·.add (lo * 1))) :=
  ⟨⟨h.rl.sub lo hi h1 h2, fun x hx => by
    obtain ⟨y, e, hy⟩ := sub_block hx
    rw [hy]; exact h.far y e⟩, fun _ hx => .inl (sub_block hx)⟩
theorem Try.und22 : Try.prog.underlying 22 = some (.slice (Try.prog.elem 22)) := by rw [Try.elem22]; exact Try.underlying22
theorem Row.slice_l {w : World} {F : List Nat} {a : Option Addr} {n cap : Nat} {l : List ByteArray} (h : Row w F a n cap l) (lo : Nat) (h1 : lo ≤ n) :
    ∃ a' cap', (∀ wx, (Instr.sliceAt 22 (.slice a n cap) (some (.int .i64 lo)) none none).run Try.prog wx = .ok (.slice a' (n - lo) cap') wx) ∧ Row w F a' (n - lo) cap' (l.drop lo) ∧ Fresh w a a' := by
  have hs := h.sub lo n h1 (Nat.le_refl _)
  rw [List.take_of_length_le (by rw [List.length_drop, h.len]; omega)] at hs
  refine ⟨_, _, fun wx => ?_, hs⟩
  rw [run_sliceAt_slice _ _ _ _ _ _ Try.und22, run_slice_l (P := Try.prog) wx 22 a n cap Try.und22 .i64 lo (by omega) (by omega), Try.elem22, Try.size9]
  simp [Result.andThen, sliced]
theorem Row.slice_h {w : World} {F : List Nat} {a : Option Addr} {n cap : Nat} {l : List ByteArray} (h : Row w F a n cap l) (hi : Nat) (h1 : hi ≤ n) :
    ∃ a' cap', (∀ wx, (Instr.sliceAt 22 (.slice a n cap) none (some (.int .i64 hi)) none).run Try.prog wx = .ok (.slice a' hi cap') wx) ∧ Row w F a' hi cap' (l.take hi) ∧ Fresh w a a' := by
  have hs := h.sub 0 hi (Nat.zero_le _) h1
  rw [List.drop_zero, Nat.sub_zero, Nat.sub_zero] at hs
  refine ⟨_, _, fun wx => ?_, hs⟩
  rw [run_sliceAt_slice _ _ _ _ _ _ Try.und22, run_slice_h (P := Try.prog) wx 22 a n cap Try.und22 .i64 hi (by omega) (by have := h.rl.fit; omega), Try.elem22, Try.size9]
  simp [Result.andThen, sliced]
theorem Row.slice_lh {w : World} {F : List Nat} {a : Option Addr} {n cap : Nat} {l : List ByteArray} (h : Row w F a n cap l) (lo hi : Nat) (h0 : lo ≤ hi) (h1 : hi ≤ n) :
    ∃ a' cap', (∀ wx, (Instr.sliceAt 22 (.slice a n cap) (some (.int .i64 lo)) (some (.int .i64 hi)) none).run Try.prog wx = .ok (.slice a' (hi - lo) cap') wx) ∧ Row w F a' (hi - lo) cap' ((l.take hi).drop lo) ∧ Fresh w a a' := by
  have hs := h.sub lo hi h0 h1
  rw [show (l.drop lo).take (hi - lo) = (l.take hi).drop lo from by rw [List.drop_take]] at hs
  refine ⟨_, _, fun wx => ?_, hs⟩
  rw [run_sliceAt_slice _ _ _ _ _ _ Try.und22, run_slice_lh (P := Try.prog) wx 22 a n cap Try.und22 .i64 .i64 lo hi (by omega) (by omega) (by have := h.rl.fit; omega), Try.elem22, Try.size9]
  simp [Result.andThen, sliced]

/-- No more texts than these, none longer. -/
def few (ls : List ByteArray) (k : Nat) (m : Int) : List ByteArray := (ls.take k).map fun s => cutB s m
theorem few_short (ls : List ByteArray) (k : Nat) (m : Int) (hm : 0 ≤ m) : Short (few ls k m) k m := by
  refine ⟨by rw [few, List.length_map, List.length_take]; omega, fun s hs => ?_⟩
  obtain ⟨t, -, rfl⟩ := List.mem_map.1 hs
  exact size_cutB t m hm
theorem few_snoc (ls : List ByteArray) (i : Nat) (m : Int) (h : i < ls.length) : few ls (i + 1) m = few ls i m ++ [cutB (ls.getD i ByteArray.empty) m] := by
  rw [few, take_snocB ls i h, List.map_append]; rfl

set_option maxRecDepth 100000 in
set_option maxHeartbeats 400000 in
theorem Few_eq (a : Option Addr) (n cap : Nat) (ls : List ByteArray) (k : Nat) (m : Int) (w : World) (hR : RdS w a n ls) (hk : k ≤ 100) (hm : 0 ≤ m) :
    Calls Try.prog 9 #[.slice a n cap, .int .i64 k, .int .i64 m] w fun e w' => Below w.heap.size w w' ∧ ∃ a2 n2 c2, e = .returned (.slice a2 n2 c2) ∧ OwnS w' w.heap.size a2 n2 c2 (few ls k m) := by
  have hn : n ≤ 9223372036854775807 := hR.max
  have HR : Hid (RdS w a n ls) := hR
  have HL : Hid (ls.length = n) := hR.len
  have HO : Hid (OwnS w w.heap.size none 0 0 (few ls 0 m)) := World.ownsRow_nil w _ 9 1
  have HC := fun s w => Cut_any s m w hm
  clear hR
  go_enter Try.func9, Try.ntmps9
  go_wp2
  go_loopg [7, 8] k (fun g bv iv wr => ∃ (i : Nat) (a2 : Option Addr) (n2 c2 : Nat), i + g = k ∧ i ≤ n ∧ bv = .slice a2 n2 c2 ∧ iv = .int .i64 i ∧ Hid (OwnS wr w.heap.size a2 n2 c2 (few ls i m)) ∧ Hid (Below w.heap.size w wr))
  case atStart => exact ⟨0, none, 0, 0, by omega, by omega, rfl, rfl, HO, Below.refl _ _⟩
  case round =>
    obtain ⟨i, a2, n2, c2, hi, hin, rfl, rfl, HO, HB⟩ := hrel
    by_cases h1 : (i : Int) < n
    · by_cases h2 : (i : Int) < k
      · obtain ⟨b, off, ha, hc⟩ := HR.out.cell i (by omega)
        subst ha
        have hc1 : wr.cell? ⟨b, off + i, none⟩ = some (.string (ls.getD i ByteArray.empty)) := by
          rw [HB.out.cell (p := ⟨b, off + i, none⟩) (World.block_lt_of_cell? _ _ hc)]; exact hc
        have HT : Hid (few ls i m ++ [cutB (ls.getD i ByteArray.empty) m] = few ls (i + 1) m) := (few_snoc ls i m (by have := HL.out; omega)).symm
        generalize ls.getD i ByteArray.empty = s at hc1 HT
        have HLn : Hid (n2 + 1 ≤ 1000000) := by
          have h5 := HO.out.len
          have := (few_short ls i m hm).1
          show _ ≤ _
          omega
        have HCs := fun w => HC s w
        generalize cutB s m = t at HT HCs
        have hsz := HB.out.size
        clear hc
        go_wp2_with (first | (go_at_call 10; refine (HCs _).mono ?_; rintro e wr ⟨rfl, rfl⟩) | (at_builtin; refine append_str rfl (.tmp 20) (.tmp 27) rfl w.heap.size rfl (HO.out.keep (alloc_below wr _)) rfl (by simp; rfl) HLn.out (Nat.le_trans hsz (alloc_below wr _).size) ?_; intro a3 n3 c3 w3 hn3 hO3 hB3; have HO3 : Hid (OwnS w3 w.heap.size a3 n3 c3 (few ls (i + 1) m)) := (by rw [HT.out] at hO3; exact hO3); have HB3 : Hid (Below w.heap.size w w3) := (HB.out.trans ((alloc_below wr _).mono hsz)).trans hB3; clear hn3 hO3 hB3))
        go_roundg (gk - 1)
        case measure => omega
        case rel => exact ⟨i + 1, _, _, _, by omega, by omega, rfl, by go_num, HO3, HB3⟩
      · have hik : i = k := by omega
        subst hik
        go_wp2
        go_ret
        exact ⟨HB.out, _, _, _, rfl, HO.out⟩
    · have HE : Hid (few ls i m = few ls k m) := by
        have := HL.out
        show _ = _
        rw [few, few, List.take_of_length_le (by omega), List.take_of_length_le (by omega)]
      go_wp2
      go_ret
      exact ⟨HB.out, _, _, _, rfl, by rw [HE.out] at HO; exact HO.out⟩

set_option maxRecDepth 100000 in
theorem longQ_any (a : Option Addr) (n c : Nat) (ls : List ByteArray) (w : World) (hR : RdS w a n ls) (h5 : ∀ s ∈ ls, s.size ≤ 5000) (b : Bool) (hb : b = true ↔ ¬ Fit ls) :
    Calls Try.prog 70 #[.slice a n c] w fun e w' => e = .returned (.bool b) ∧ w' = w := by
  have hn : n ≤ 9223372036854775807 := hR.max
  have HR : Hid (RdS w a n ls) := hR
  have HL : Hid (ls.length = n) := hR.len
  have HBb : Hid (b = true ↔ ¬ Fit ls) := hb
  have H5 : Hid (∀ s ∈ ls, s.size ≤ 5000) := h5
  clear hR hb h5
  go_enter Try.func70, Try.ntmps70
  go_wp2
  go_loopg [3] n (fun g iv wr => ∃ i : Nat, i + g = n ∧ iv = .int .i64 i ∧ Hid (Fit (ls.take i)) ∧ wr = w)
  case atStart => exact ⟨0, by omega, rfl, (fun s hs => absurd hs (by simp)), rfl⟩
  case round =>
    obtain ⟨i, hi, rfl, HF, rfl⟩ := hrel
    by_cases h1 : (i : Int) < n
    · obtain ⟨bb, off, ha, hc⟩ := HR.out.cell i (by omega)
      subst ha
      have hil : i < ls.length := by have := HL.out; omega
      have hmem : ls.getD i ByteArray.empty ∈ ls := by rw [List.getD_eq_getElem?_getD, List.getElem?_eq_getElem hil]; simp
      have h5 := H5.out _ hmem
      have HT := take_snocB ls i hil
      generalize ls.getD i ByteArray.empty = s at hc hmem h5 HT
      by_cases hs : 4096 < (s.size : Int)
      · have hbt : b = true := HBb.out.2 (fun hf => by have := hf s hmem; omega)
        subst hbt
        clear HT
        go_wp2
        go_ret
        exact ⟨rfl, rfl⟩
      · have HF2 : Hid (Fit (ls.take (i + 1))) := by
          show Fit _
          rw [HT]
          intro t ht
          rcases List.mem_append.1 ht with ht | ht
          · exact HF.out t ht
          · rw [List.mem_singleton.1 ht]; omega
        clear HT
        go_wp2
        go_roundg (gk - 1)
        case measure => omega
        case rel => exact ⟨i + 1, by omega, by go_num, HF2, rfl⟩
    · have hbf : b = false := by
        cases b with
        | false => rfl
        | true => exact absurd (by have := HF.out; rw [List.take_of_length_le (by have := HL.out; omega)] at this; exact this) (HBb.out.1 rfl)
      subst hbf
      go_wp2
      go_ret
      exact ⟨rfl, rfl⟩

set_option maxRecDepth 100000 in
theorem Span_any (n : Nat) (a b : Int) (w : World) (ha : I64 a) (hb : I64 b) (hn : n ≤ 1000000) :
    Calls Try.prog 52 #[.int .i64 n, .int .i64 a, .int .i64 b] w fun e w' => e = .returned (.tuple #[.int .i64 (spF n a b : Nat), .int .i64 (spT n a b : Nat)]) ∧ w' = w := by
  have HF : Hid (spF n a b = if spB n b < spA n a then 0 else (spA n a).toNat) := rfl
  have HT : Hid (spT n a b = if spB n b < spA n a then 0 else (spB n b + 1).toNat) := rfl
  have hA : max (fs n a) 0 = spA n a := rfl
  have hB : min (fs n b) ((n : Int) - 1) = spB n b := rfl
  have hX : (a < 0 ∧ fs n a = a + n) ∨ (0 ≤ a ∧ fs n a = a) := by unfold fs; split <;> omega
  have hY : (b < 0 ∧ fs n b = b + n) ∨ (0 ≤ b ∧ fs n b = b) := by unfold fs; split <;> omega
  generalize fs n a = X at *
  generalize fs n b = Y at *
  generalize spA n a = A at *
  generalize spB n b = B at *
  have hA' : (X < 0 ∧ A = 0) ∨ (0 ≤ X ∧ A = X) := by omega
  have hB' : ((n : Int) - 1 < Y ∧ B = n - 1) ∨ (Y ≤ (n : Int) - 1 ∧ B = Y) := by omega
  have hn0 : IntKind.i64.wrap ((n : Int) - 1) = (n : Int) - 1 := by rw [IntKind.wrap_i64]; omega
  clear hA hB
  by_cases h : B < A
  · rw [if_pos h] at HF HT
    rcases hX with ⟨h1, rfl⟩ | ⟨h1, rfl⟩ <;> rcases hY with ⟨h2, rfl⟩ | ⟨h2, rfl⟩ <;> rcases hA' with ⟨h3, rfl⟩ | ⟨h3, rfl⟩ <;> rcases hB' with ⟨h4, rfl⟩ | ⟨h4, rfl⟩ <;> first
    | (exfalso; omega)
    | (go_enter Try.func52, Try.ntmps52
       go_wp2
       go_ret2
       exact ⟨by rw [HF.out, HT.out]; rfl, rfl⟩)
  · rw [if_neg h] at HF HT
    obtain ⟨x, hx⟩ : ∃ x : Nat, A = x := ⟨A.toNat, by omega⟩
    obtain ⟨y, hy⟩ : ∃ y : Nat, B + 1 = y := ⟨(B + 1).toNat, by omega⟩
    have hFx : spF n a b = x := by rw [HF.out, hx]; rfl
    have hTy : spT n a b = y := by rw [HT.out, hy]; rfl
    rw [hFx, hTy]
    clear HF HT hFx hTy
    rcases hX with ⟨h1, rfl⟩ | ⟨h1, rfl⟩ <;> rcases hY with ⟨h2, rfl⟩ | ⟨h2, rfl⟩ <;> rcases hA' with ⟨h3, rfl⟩ | ⟨h3, rfl⟩ <;> rcases hB' with ⟨h4, rfl⟩ | ⟨h4, rfl⟩ <;> first
    | (exfalso; omega)
    | (go_enter Try.func52, Try.ntmps52
       go_wp2
       go_ret2
       first | exact ⟨rfl, rfl⟩ | (refine ⟨?_, rfl⟩; rw [← hx, ← hy]; rfl))


theorem codeQ_any (b : Bool) (w : World) : Calls Try.prog 47 #[.bool b] w fun e w' => e = .returned (.int .i64 (if b then 11 else 0)) ∧ w' = w := by
  cases b
  all_goals
    go_enter Try.func47, Try.ntmps47
    go_wp2
    go_ret
    exact ⟨rfl, rfl⟩

theorem Place_some (n : Nat) (i : Int) (k : Nat) (w : World) (hn : n ≤ 1000000) (hi : I64 i) (hk : plc n i = some k) :
    Calls Try.prog 45 #[.int .i64 n, .int .i64 i] w fun e w' => e = .returned (.int .i64 k) ∧ w' = w := by
  unfold plc at hk
  obtain ⟨hi1, hi2⟩ := hi
  by_cases h0 : i < 0
  · rw [if_neg (by omega)] at hk
    split at hk
    · injection hk with hk
      have hs : i + (n : Int) = k := by omega
      have hk1 : (k : Int) < n := by omega
      have hk0 : ¬ ((k : Int) < 0) := by omega
      have hk2 : ¬ ((n : Int) ≤ k) := by omega
      go_enter Try.func45, Try.ntmps45
      go_wp2
      go_ret
      exact ⟨by first | rfl | (rw [hs]), rfl⟩
    · cases hk
  · rw [if_pos (by omega)] at hk
    split at hk
    · injection hk with hk
      obtain ⟨j, rfl⟩ : ∃ j : Nat, i = j := ⟨i.toNat, by omega⟩
      have hk2 : ¬ ((n : Int) ≤ j) := by omega
      rw [Int.toNat_natCast] at hk
      subst hk
      go_enter Try.func45, Try.ntmps45
      go_wp2
      go_ret
      exact ⟨rfl, rfl⟩
    · cases hk
theorem Place_none (n : Nat) (i : Int) (w : World) (hn : n ≤ 1000000) (hi : I64 i) (hk : plc n i = none) :
    Calls Try.prog 45 #[.int .i64 n, .int .i64 i] w fun e w' => e = .returned (.int .i64 (-1)) ∧ w' = w := by
  unfold plc at hk
  obtain ⟨hi1, hi2⟩ := hi
  by_cases h0 : i < 0
  · rw [if_neg (by omega)] at hk
    split at hk
    · cases hk
    · have hs : i + (n : Int) < 0 := by omega
      go_enter Try.func45, Try.ntmps45
      go_wp2
      go_ret
      exact ⟨rfl, rfl⟩
  · rw [if_pos (by omega)] at hk
    split at hk
    · cases hk
    · have hk2 : (n : Int) ≤ i := by omega
      go_enter Try.func45, Try.ntmps45
      go_wp2
      go_ret
      exact ⟨rfl, rfl⟩

/-- Where a text is first among others. -/
def fst (ls : List ByteArray) (s : ByteArray) : Int := fnd ls s 1 ls.length 0
theorem fst_cases (ls : List ByteArray) (s : ByteArray) : ((∀ t ∈ ls, t ≠ s) ∧ fst ls s = -1) ∨ ∃ A C, ls = A ++ s :: C ∧ (∀ t ∈ A, t ≠ s) ∧ fst ls s = (A.length : Int) := by
  by_cases h : s ∈ ls
  · obtain ⟨A, C, rfl, h2⟩ := List.eq_append_cons_of_mem h
    exact .inr ⟨A, C, rfl, fun t ht e => h2 (e ▸ ht), fnd_at A C s (fun t ht e => h2 (e ▸ ht))⟩
  · exact .inl ⟨fun t ht e => h (e ▸ ht), fnd_not ls s (fun t ht e => h (e ▸ ht))⟩
theorem fst_hit (ls : List ByteArray) (s : ByteArray) (i : Nat) (h : i < ls.length) (h1 : ∀ t ∈ ls.take i, t ≠ s) (h2 : ls.getD i ByteArray.empty = s) : fst ls s = i := by
  refine fnd_hit ls s i h h2 _ 0 (by omega) (by omega) ?_
  intro k _ hk e
  refine h1 (txt ls k) ?_ e
  rw [txt, List.getD_eq_getElem?_getD, List.getElem?_eq_getElem (by omega)]
  exact List.mem_take_iff_getElem.2 ⟨k, by omega, rfl⟩

set_option maxRecDepth 100000 in
set_option maxHeartbeats 400000 in
theorem AtR_any (a : Option Addr) (n c : Nat) (ls : List ByteArray) (s : ByteArray) (w : World) (hR : RdS w a n ls) (hn : n ≤ 1000000) :
    Calls Try.prog 49 #[.slice a n c, .string s] w fun e w' => e = .returned (.int .i64 (fst ls s)) ∧ w' = w := by
  have HR : Hid (RdS w a n ls) := hR
  have HL : Hid (ls.length = n) := hR.len
  clear hR
  go_enter Try.func49, Try.ntmps49
  go_wp2
  go_loopg [5] n (fun g iv wr => ∃ i : Nat, i + g = n ∧ iv = .int .i64 i ∧ Hid (∀ t ∈ ls.take i, t ≠ s) ∧ wr = w)
  case atStart => exact ⟨0, by omega, rfl, (fun t ht => absurd ht (by simp)), rfl⟩
  case round =>
    obtain ⟨i, hi, rfl, HF, rfl⟩ := hrel
    by_cases h1 : (i : Int) < n
    · obtain ⟨bb, off, ha, hc⟩ := HR.out.cell i (by omega)
      subst ha
      have hil : i < ls.length := by have := HL.out; omega
      have HT : Hid (ls.take (i + 1) = ls.take i ++ [ls.getD i ByteArray.empty]) := take_snocB ls i hil
      have HH : Hid (ls.getD i ByteArray.empty = s → fst ls s = i) := fst_hit ls s i hil HF.out
      generalize ls.getD i ByteArray.empty = t at hc HT HH
      have hbq := str_beq t s
      by_cases hk : t = s
      · have HE : Hid (fst ls s = i) := HH.out hk
        have hkb : (t.toList == s.toList) = true := by rw [hbq]; exact decide_eq_true hk
        have hkt : t.toList = s.toList := by rw [hk]
        clear hbq hk
        go_wp2
        go_ret
        exact ⟨by rw [HE.out]; rfl, rfl⟩
      · have HF2 : Hid (∀ t ∈ ls.take (i + 1), t ≠ s) := by
          show ∀ t ∈ ls.take (i + 1), t ≠ s
          rw [HT.out]
          intro u hu
          rcases List.mem_append.1 hu with hu | hu
          · exact HF.out u hu
          · rw [List.mem_singleton.1 hu]; exact hk
        have hkb : (t.toList == s.toList) = false := by rw [hbq]; exact decide_eq_false hk
        have hkt : ¬ (t.toList = s.toList) := by simpa using hkb
        clear hbq hk
        go_wp2
        go_roundg (gk - 1)
        case measure => omega
        case rel => exact ⟨i + 1, by omega, by go_num, HF2, rfl⟩
    · have HE : Hid (fst ls s = -1) := by
        refine fnd_not ls s (fun t ht => HF.out t ?_)
        rw [List.take_of_length_le (by have := HL.out; omega)]; exact ht
      go_wp2
      go_ret
      exact ⟨by rw [HE.out]; rfl, rfl⟩
end Go.Proofs.Ytemiajjjhhofaab

namespace Go.Proofs.Ytemiajjjhhofaab
open Go.RowKit Go.PlainAid

theorem rp_one (s x : ByteArray) (m : Nat) : rp s m [x] = if x = s ∧ m ≠ 0 then [] else [x] := by
  unfold rp
  rw [show ([x] : List ByteArray).reverse = [x] from rfl, (kp_one s x m).1]
  split <;> rfl
theorem drop_cons (l : List ByteArray) (i : Nat) (h : i < l.length) : l.drop i = [l.getD i ByteArray.empty] ++ l.drop (i + 1) := by
  rw [List.drop_eq_getElem_cons h, List.getD_eq_getElem?_getD, List.getElem?_eq_getElem h]; rfl

set_option maxRecDepth 100000 in
set_option maxHeartbeats 800000 in
theorem Removed_fwd (a : Option Addr) (n c : Nat) (ls : List ByteArray) (s : ByteArray) (N : Int) (M : Nat) (w : World) (hR : RdS w a n ls) (hn : n ≤ 1000000) (hN : I64 N) (hN0 : 0 ≤ N) (hM : (N = 0 ∧ M = n) ∨ (0 < N ∧ (M : Int) = min N n)) :
    Calls Try.prog 50 #[.slice a n c, .string s, .int .i64 N] w fun e w' => Below w.heap.size w w' ∧ ∃ a2 n2 c2, e = .returned (.tuple #[.slice a2 n2 c2, .int .i64 ((ls.length - (kp s M ls).length : Nat) : Nat)]) ∧ OwnS w' w.heap.size a2 n2 c2 (kp s M ls) := by
  have HR : Hid (RdS w a n ls) := hR
  have HL : Hid (ls.length = n) := hR.len
  have hNN : ¬ (N < 0) := by omega
  have HO : Hid (OwnS w w.heap.size none 0 0 (kp s M (ls.take 0))) := World.ownsRow_nil w _ 9 1
  clear hR
  go_enter Try.func50, Try.ntmps50
  go_wp2
  go_loopg [8, 9, 11] n (fun g ov cv iv wr => ∃ (i k : Nat) (a2 : Option Addr) (n2 c2 : Nat), i + g = n ∧ k ≤ i ∧ ov = .slice a2 n2 c2 ∧ cv = .int .i64 k ∧ iv = .int .i64 i ∧ Hid (k + lf s M (ls.take i) = M) ∧ Hid (OwnS wr w.heap.size a2 n2 c2 (kp s M (ls.take i))) ∧ Hid (Below w.heap.size w wr))
  case atStart => exact ⟨0, 0, none, 0, 0, by omega, by omega, rfl, rfl, rfl, (Nat.zero_add _), HO, Below.refl _ _⟩
  case round =>
    obtain ⟨i, k, a2, n2, c2, hi, hki, rfl, rfl, rfl, HK, HO, HB⟩ := hrel
    by_cases h8 : (i : Int) < n
    · obtain ⟨b, off, ha, hc0⟩ := HR.out.cell i (by omega)
      subst ha
      have hc1 : wr.cell? ⟨b, off + i, none⟩ = some (.string (ls.getD i ByteArray.empty)) := by
        rw [HB.out.cell (p := ⟨b, off + i, none⟩) (World.block_lt_of_cell? _ _ hc0)]; exact hc0
      clear hc0
      have hil : i < ls.length := by have := HL.out; omega
      have HS : Hid (ls.take (i + 1) = ls.take i ++ [ls.getD i ByteArray.empty]) := take_snocB ls i hil
      generalize ls.getD i ByteArray.empty = t at hc1 HS
      have HN2 : Hid (n2 + 1 ≤ 1000000) := by
        have h5 := HO.out.len
        have h6 := (kp_len s (ls.take i) M).1
        rw [List.length_take] at h6
        show _ ≤ _
        omega
      obtain ⟨L, hL⟩ : ∃ L, lf s M (ls.take i) = L := ⟨_, rfl⟩
      have HLi : Hid (lf s M (ls.take i) = L) := hL
      have HKk : Hid (k + L = M) := by have := HK.out; show _ = _; rw [hL] at this; exact this
      clear hL
      have hsz := HB.out.size
      have hbq := str_beq t s
      by_cases hk : t = s ∧ L ≠ 0
      · have HK1 : Hid (k + 1 + lf s M (ls.take (i + 1)) = M) := by
          have := HKk.out
          show _ = _
          rw [HS.out, lf_append, HLi.out, (kp_one s t L).2, if_pos hk]
          have := hk.2
          omega
        have HO1 : Hid (OwnS wr w.heap.size a2 n2 c2 (kp s M (ls.take (i + 1)))) := by
          show OwnS _ _ _ _ _ _
          rw [HS.out, kp_append, HLi.out, (kp_one s t L).1, if_pos hk, List.append_nil]
          exact HO.out
        have hkb : (t.toList == s.toList) = true := by rw [hbq]; exact decide_eq_true hk.1
        have hkt : t.toList = s.toList := by rw [hk.1]
        have hkL : L ≠ 0 := hk.2
        have HM := HKk.out
        by_cases hN1 : N = 0
        · subst hN1
          clear hbq hk HM
          go_wp2
          go_roundg (gk - 1)
          case measure => omega
          case rel => exact ⟨i + 1, k + 1, a2, n2, c2, by omega, by omega, rfl, by go_num, by go_num, HK1, HO1, HB⟩
        · have hkN : (k : Int) < N := by omega
          have hN2 : (N == 0) = false := by simpa using hN1
          clear hbq hk HM
          go_wp2
          go_roundg (gk - 1)
          case measure => omega
          case rel => exact ⟨i + 1, k + 1, a2, n2, c2, by omega, by omega, rfl, by go_num, by go_num, HK1, HO1, HB⟩
      · have HK1 : Hid (k + lf s M (ls.take (i + 1)) = M) := by
          show _ = _
          rw [HS.out, lf_append, HLi.out, (kp_one s t L).2, if_neg hk]
          exact HKk.out
        have HT : Hid (kp s M (ls.take i) ++ [t] = kp s M (ls.take (i + 1))) := by
          show _ = _
          rw [HS.out, kp_append, HLi.out, (kp_one s t L).1, if_neg hk]
        have HM := HKk.out
        by_cases hts : t = s
        · have hL0 : L = 0 := by
            by_cases h : L = 0
            · exact h
            · exact absurd ⟨hts, h⟩ hk
          have hkb : (t.toList == s.toList) = true := by rw [hbq]; exact decide_eq_true hts
          have hkt : t.toList = s.toList := by rw [hts]
          have hN1 : ¬ (N = 0) := by omega
          have hkN : ¬ ((k : Int) < N) := by omega
          have hN2 : (N == 0) = false := by simpa using hN1
          clear hbq hk HM hts hL0
          go_wp2_with (at_builtin; refine append_str rfl (.tmp 81) (.tmp 86) rfl w.heap.size rfl (HO.out.keep (alloc_below wr _)) rfl (by simp; rfl) HN2.out (Nat.le_trans hsz (alloc_below wr _).size) ?_; intro a3 n3 c3 w3 hn3 hO3 hB3; have HO3 : Hid (OwnS w3 w.heap.size a3 n3 c3 (kp s M (ls.take (i + 1)))) := (by rw [HT.out] at hO3; exact hO3); have HB3 : Hid (Below w.heap.size w w3) := (HB.out.trans ((alloc_below wr _).mono hsz)).trans hB3; clear hn3 hO3 hB3)
          go_roundg (gk - 1)
          case measure => omega
          case rel => exact ⟨i + 1, k, _, _, _, by omega, by omega, rfl, rfl, by go_num, HK1, HO3, HB3⟩
        · have hkb : (t.toList == s.toList) = false := by rw [hbq]; exact decide_eq_false hts
          have hkt : ¬ (t.toList = s.toList) := by simpa using hkb
          clear hbq hk HM hts
          go_wp2_with (at_builtin; refine append_str rfl (.tmp 81) (.tmp 86) rfl w.heap.size rfl (HO.out.keep (alloc_below wr _)) rfl (by simp; rfl) HN2.out (Nat.le_trans hsz (alloc_below wr _).size) ?_; intro a3 n3 c3 w3 hn3 hO3 hB3; have HO3 : Hid (OwnS w3 w.heap.size a3 n3 c3 (kp s M (ls.take (i + 1)))) := (by rw [HT.out] at hO3; exact hO3); have HB3 : Hid (Below w.heap.size w w3) := (HB.out.trans ((alloc_below wr _).mono hsz)).trans hB3; clear hn3 hO3 hB3)
          go_roundg (gk - 1)
          case measure => omega
          case rel => exact ⟨i + 1, k, _, _, _, by omega, by omega, rfl, rfl, by go_num, HK1, HO3, HB3⟩
    · have HE : Hid (ls.take i = ls) := List.take_of_length_le (by have := HL.out; omega)
      have HKe : Hid (ls.length - (kp s M ls).length = k) := by
        have h1 := (kp_len s ls M).2
        have h2 := HK.out
        rw [HE.out] at h2
        show _ = _
        omega
      go_wp2
      go_ret2
      rw [HKe.out]
      refine ⟨HB.out, _, _, _, rfl, ?_⟩
      have := HO.out
      rw [HE.out] at this
      exact this
set_option maxRecDepth 100000 in
set_option maxHeartbeats 800000 in
theorem Removed_bwd (a : Option Addr) (n c : Nat) (ls : List ByteArray) (s : ByteArray) (N : Int) (M : Nat) (w : World) (hR : RdS w a n ls) (hn : n ≤ 1000000) (hN : I64 N) (hN0 : N < 0) (hM : (M : Int) = min (-N) n) :
    Calls Try.prog 50 #[.slice a n c, .string s, .int .i64 N] w fun e w' => Below w.heap.size w w' ∧ ∃ a2 n2 c2, e = .returned (.tuple #[.slice a2 n2 c2, .int .i64 ((ls.length - (rp s M ls).length : Nat) : Nat)]) ∧ OwnS w' w.heap.size a2 n2 c2 (rp s M ls) := by
  have HR : Hid (RdS w a n ls) := hR
  have HL : Hid (ls.length = n) := hR.len
  obtain ⟨N', hneg⟩ : ∃ N', IntKind.i64.wrap (-N) = N' := ⟨_, rfl⟩
  have HN' : Hid ((N' = -N ∧ -9223372036854775808 < N) ∨ (N = -9223372036854775808 ∧ N' = N)) := by
    have := hN.1
    have h2 := hneg
    rw [IntKind.wrap_i64] at h2
    show _ ∨ _
    omega
  have HM : Hid ((M : Int) = min (-N) n) := hM
  have HO : Hid (OwnS w w.heap.size none 0 0 (rp s M (ls.drop n))) := by
    show OwnS _ _ _ _ _ _
    rw [List.drop_of_length_le (Nat.le_of_eq HL.out)]
    exact World.ownsRow_nil w _ 9 1
  have HL0 : Hid (0 + lf s M (ls.drop n).reverse = M) := by
    show _ = _
    rw [List.drop_of_length_le (Nat.le_of_eq HL.out)]
    exact Nat.zero_add _
  have hnm : IntKind.i64.wrap ((n : Int) - 1) = (n : Int) - 1 := by rw [IntKind.wrap_i64]; omega
  clear hR hM
  go_enter Try.func50, Try.ntmps50
  go_wp2
  go_loopg [8, 9, 10] n (fun g ov cv iv wr => ∃ (k : Nat) (a2 : Option Addr) (n2 c2 : Nat), g ≤ n ∧ k + g ≤ n ∧ ov = .slice a2 n2 c2 ∧ cv = .int .i64 k ∧ iv = .int .i64 ((g : Int) - 1) ∧ Hid (k + lf s M (ls.drop g).reverse = M) ∧ Hid (OwnS wr w.heap.size a2 n2 c2 (rp s M (ls.drop g))) ∧ Hid (Below w.heap.size w wr))
  case atStart => exact ⟨0, none, 0, 0, by omega, by omega, rfl, rfl, rfl, HL0, HO, Below.refl _ _⟩
  case round =>
    obtain ⟨k, a2, n2, c2, hgn, hkg, rfl, rfl, rfl, HK, HO, HB⟩ := hrel
    by_cases h8 : 0 < gk
    · obtain ⟨i, hgi⟩ : ∃ i, gk = i + 1 := ⟨gk - 1, by omega⟩
      subst hgi
      have hii : ((i + 1 : Nat) : Int) - 1 = (i : Int) := by omega
      rw [hii]
      obtain ⟨b, off, ha, hc0⟩ := HR.out.cell i (by omega)
      subst ha
      have hc1 : wr.cell? ⟨b, off + i, none⟩ = some (.string (ls.getD i ByteArray.empty)) := by
        rw [HB.out.cell (p := ⟨b, off + i, none⟩) (World.block_lt_of_cell? _ _ hc0)]; exact hc0
      clear hc0
      have hil : i < ls.length := by have := HL.out; omega
      have HS : Hid (ls.drop i = [ls.getD i ByteArray.empty] ++ ls.drop (i + 1)) := drop_cons ls i hil
      generalize ls.getD i ByteArray.empty = t at hc1 HS
      have HN2 : Hid (1 + n2 ≤ 1000000) := by
        have h5 := HO.out.len
        have h6 := rp_len s (ls.drop (i + 1)) M
        rw [List.length_drop] at h6
        have h7 := HL.out
        show _ ≤ _
        omega
      obtain ⟨L, hL⟩ : ∃ L, lf s M (ls.drop (i + 1)).reverse = L := ⟨_, rfl⟩
      have HLi : Hid (lf s M (ls.drop (i + 1)).reverse = L) := hL
      have HKk : Hid (k + L = M) := by have := HK.out; show _ = _; rw [hL] at this; exact this
      clear hL
      have hsz := HB.out.size
      have hi0 : (0 : Int) ≤ i := by omega
      have hin : (i : Int) < n := by omega
      have him : IntKind.i64.wrap ((i : Int) - 1) = (i : Int) - 1 := by rw [IntKind.wrap_i64]; omega
      have hbq := str_beq t s
      have HLf : Hid (lf s M (ls.drop i).reverse = lf s L [t]) := by
        show _ = _
        rw [HS.out, List.reverse_append, lf_append, HLi.out]; rfl
      have HRp : Hid (rp s M (ls.drop i) = rp s L [t] ++ rp s M (ls.drop (i + 1))) := by
        show _ = _
        rw [HS.out, rp_append, HLi.out]
      by_cases hk : t = s ∧ L ≠ 0
      · have HK1 : Hid (k + 1 + lf s M (ls.drop i).reverse = M) := by
          have := HKk.out
          show _ = _
          rw [HLf.out, (kp_one s t L).2, if_pos hk]
          have := hk.2
          omega
        have HO1 : Hid (OwnS wr w.heap.size a2 n2 c2 (rp s M (ls.drop i))) := by
          show OwnS _ _ _ _ _ _
          rw [HRp.out, rp_one, if_pos hk, List.nil_append]
          exact HO.out
        have hkb : (t.toList == s.toList) = true := by rw [hbq]; exact decide_eq_true hk.1
        have hkt : t.toList = s.toList := by rw [hk.1]
        have hkL : L ≠ 0 := hk.2
        have hq := HKk.out
        have hm := HM.out
        rcases HN'.out with ⟨h5, h6⟩ | ⟨h5, h6⟩
        · have hkN : (k : Int) < N' := by omega
          clear hbq hk hq hm h5 h6
          go_wp2
          go_roundg i
          case measure => omega
          case rel => exact ⟨k + 1, a2, n2, c2, by omega, by omega, rfl, by go_num, rfl, HK1, HO1, HB⟩
        · subst h6
          have hkN : ¬ ((k : Int) < N') := by omega
          clear hbq hk hq hm h5
          go_wp2
          go_roundg i
          case measure => omega
          case rel => exact ⟨k + 1, a2, n2, c2, by omega, by omega, rfl, by go_num, rfl, HK1, HO1, HB⟩
      · have HK1 : Hid (k + lf s M (ls.drop i).reverse = M) := by
          show _ = _
          rw [HLf.out, (kp_one s t L).2, if_neg hk]
          exact HKk.out
        have HT : Hid ([t] ++ rp s M (ls.drop (i + 1)) = rp s M (ls.drop i)) := by
          show _ = _
          rw [HRp.out, rp_one, if_neg hk]
        have hq := HKk.out
        have hm := HM.out
        have hA := alloc_below wr (.cells #[.string t] 9)
        have HOa : Hid (OwnS (wr.alloc (.cells #[.string t] 9)) w.heap.size (some ⟨wr.heap.size, 0, none⟩) 1 1 [t]) := OwnS.made wr [t] w.heap.size 1 rfl hsz (by decide) _ rfl
        have HRa : Hid (RdL (wr.alloc (.cells #[.string t] 9)) a2 n2 c2 (rp s M (ls.drop (i + 1)))) := HO.out.rl.keep hA
        have HBa : Hid (Below w.heap.size w (wr.alloc (.cells #[.string t] 9))) := HB.out.trans (hA.mono hsz)
        clear hA
        by_cases hts : t = s
        · have hL0 : L = 0 := by
            by_cases h : L = 0
            · exact h
            · exact absurd ⟨hts, h⟩ hk
          have hkb : (t.toList == s.toList) = true := by rw [hbq]; exact decide_eq_true hts
          have hkt : t.toList = s.toList := by rw [hts]
          have hkN : ¬ ((k : Int) < N') := by rcases HN'.out with ⟨h5, h6⟩ | ⟨h5, h6⟩ <;> omega
          have hNf : ¬ (N = N') := by rcases HN'.out with ⟨h5, h6⟩ | ⟨h5, h6⟩ <;> omega
          have hNe : (N == N') = false := by simpa using hNf
          clear hbq hk hq hm hts hL0
          go_wp2_with (at_builtin; refine append_strs rfl (.tmp 53) (.tmp 54) rfl w.heap.size rfl HOa.out rfl HRa.out HN2.out HBa.out.size ?_; intro a3 n3 c3 w3 hn3 HO3' HB3'; have HO3 : Hid (OwnS w3 w.heap.size a3 n3 c3 (rp s M (ls.drop i))) := (by have h := HO3'.out; rw [HT.out] at h; exact h); have HB3 : Hid (Below w.heap.size w w3) := HBa.out.trans HB3'.out; clear hn3 HO3' HB3')
          go_roundg i
          case measure => omega
          case rel => exact ⟨k, _, _, _, by omega, by omega, rfl, rfl, rfl, HK1, HO3, HB3⟩
        · have hkb : (t.toList == s.toList) = false := by rw [hbq]; exact decide_eq_false hts
          have hkt : ¬ (t.toList = s.toList) := by simpa using hkb
          clear hbq hk hq hm hts
          go_wp2_with (at_builtin; refine append_strs rfl (.tmp 53) (.tmp 54) rfl w.heap.size rfl HOa.out rfl HRa.out HN2.out HBa.out.size ?_; intro a3 n3 c3 w3 hn3 HO3' HB3'; have HO3 : Hid (OwnS w3 w.heap.size a3 n3 c3 (rp s M (ls.drop i))) := (by have h := HO3'.out; rw [HT.out] at h; exact h); have HB3 : Hid (Below w.heap.size w w3) := HBa.out.trans HB3'.out; clear hn3 HO3' HB3')
          go_roundg i
          case measure => omega
          case rel => exact ⟨k, _, _, _, by omega, by omega, rfl, rfl, rfl, HK1, HO3, HB3⟩
    · have hg0 : gk = 0 := by omega
      subst hg0
      have HE : Hid (ls.drop 0 = ls) := rfl
      have HKe : Hid (ls.length - (rp s M ls).length = k) := by
        have h1 := (kp_len s ls.reverse M).2
        have h2 := HK.out
        rw [List.drop_zero] at h2
        have h3 : (rp s M ls).length = (kp s M ls.reverse).length := by unfold rp; rw [List.length_reverse]
        rw [List.length_reverse] at h1
        show _ = _
        omega
      go_wp2
      go_ret2
      rw [HKe.out]
      exact ⟨HB.out, _, _, _, rfl, HO.out⟩

/-- The document's own removal is the list's. -/
theorem Removed_any (a : Option Addr) (n c : Nat) (ls : List ByteArray) (s : ByteArray) (N : Int) (w : World) (hR : RdS w a n ls) (hn : n ≤ 1000000) (hN : I64 N) :
    Calls Try.prog 50 #[.slice a n c, .string s, .int .i64 N] w fun e w' => Below w.heap.size w w' ∧ ∃ a2 n2 c2, e = .returned (.tuple #[.slice a2 n2 c2, .int .i64 ((ls.length - (rmv ls s N).length : Nat) : Nat)]) ∧ OwnS w' w.heap.size a2 n2 c2 (rmv ls s N) := by
  have hl := hR.len
  unfold rmv
  split
  · exact Removed_bwd a n c ls s N _ w hR hn hN (by omega) (by omega)
  · split
    · exact Removed_fwd a n c ls s N _ w hR hn hN (by omega) (.inr ⟨by omega, by omega⟩)
    · exact Removed_fwd a n c ls s N _ w hR hn hN (by omega) (.inl ⟨by omega, hl⟩)
end Go.Proofs.Ytemiajjjhhofaab

namespace Go.Proofs.Ytemiajjjhhofaab
open Go.RowKit Go.PlainAid

/-- A call's cells. -/
abbrev askC (kind A B : Int) (S P : ByteArray) (xa : Option Addr) (xn xc : Nat) (af : Bool) : Array Value := #[.int .i64 kind, .int .i64 A, .int .i64 B, .string S, .string P, .slice xa xn xc, .bool af]
/-- A call in memory, outside a list. -/
structure Bx (w : World) (F : List Nat) (X : Nat) (kind A B : Int) (S P : ByteArray) (xa : Option Addr) (xn xc : Nat) (af : Bool) : Prop where
  blk : w.heap[X]? = some (.cells (askC kind A B S P xa xn xc af) 37 (0, 0))
  far : X ∉ F
theorem Bx.left {w w' : World} {F F' : List Nat} {X : Nat} {kind A B : Int} {S P : ByteArray} {xa : Option Addr} {xn xc : Nat} {af : Bool} (h : Bx w F X kind A B S P xa xn xc af) (hd : Left w w' F F') : Bx w' F' X kind A B S P xa xn xc af := by
  have hlt : X < w.heap.size := (Array.getElem?_eq_some_iff.1 h.blk).1
  refine ⟨by rw [hd.stay.block X hlt h.far]; exact h.blk, fun hm => ?_⟩
  rcases hd.new X hm with h1 | h1
  · exact h.far h1
  · omega
theorem Bx.keep {w w' : World} {F : List Nat} {X : Nat} {kind A B : Int} {S P : ByteArray} {xa : Option Addr} {xn xc : Nat} {af : Bool} (h : Bx w F X kind A B S P xa xn xc af) (hb : Below w.heap.size w w') : Bx w' F X kind A B S P xa xn xc af := h.left (Left.of_below hb F)
theorem Bx.cell {w : World} {F : List Nat} {X : Nat} {kind A B : Int} {S P : ByteArray} {xa : Option Addr} {xn xc : Nat} {af : Bool} (h : Bx w F X kind A B S P xa xn xc af) (i : Nat) (v : Value) (hv : (askC kind A B S P xa xn xc af)[i]? = some v) : w.cell? ⟨X, i, none⟩ = some v := by
  simp only [World.cell?, h.blk]; exact hv
theorem Bx.new {w : World} {B0 l most : Nat} {ts : List ByteArray} {F : List Nat} (hQ : QL w B0 l most ts F) (kind A B : Int) (S P : ByteArray) (xa : Option Addr) (xn xc : Nat) (af : Bool) : Bx (w.alloc (.cells (askC kind A B S P xa xn xc af) 37)) F w.heap.size kind A B S P xa xn xc af :=
  ⟨heap_alloc_new w _, fun hm => absurd (hQ.blocks _ hm).2 (Nat.lt_irrefl _)⟩

theorem OwnS.lw {w : World} {B C : Nat} {a : Option Addr} {n cap : Nat} {l : List ByteArray} (h : OwnS w B a n cap l) (hC : C ≤ B) : OwnS w C a n cap l := by
  refine ⟨h.1, ?_⟩
  rcases h.2 with h2 | ⟨g, c, cur, h1, h3, h4⟩
  · exact .inl h2
  · exact .inr ⟨g, c, cur, h1, Nat.le_trans hC h3, h4⟩
/-- What a call of the law answers: the texts are ts' then, in the list and in the document's row. -/
def QDid (w : World) (B l most : Nat) (F : List Nat) (a : Option Addr) (ts' : List ByteArray) (e : Ending) (w' : World) : Prop :=
  ∃ F' a' n' c', e = .returned (.tuple #[.slice a' n' c', .bool true]) ∧ QL w' B l most ts' F' ∧ Left w w' F F' ∧ Row w' F' a' n' c' ts' ∧ Fresh w a a'

theorem QRight_long (l : Nat) (a : Option Addr) (n c : Nat) (ts : List ByteArray) (w : World) (hR : RdS w a n ts) (hs : Short ts 6 5000) (hl : ¬ Fit ts) :
    Calls Try.prog 20 #[ptr l, .slice a n c] w fun e w' => e = .returned (.int .i64 11) ∧ w' = w := Right_long l a n c ts w hR (fun s h => by have := hs.2 s h; omega) hl
theorem QLeft_long (l : Nat) (a : Option Addr) (n c : Nat) (ts : List ByteArray) (w : World) (hR : RdS w a n ts) (hs : Short ts 6 5000) (hl : ¬ Fit ts) :
    Calls Try.prog 56 #[ptr l, .slice a n c] w fun e w' => e = .returned (.int .i64 11) ∧ w' = w := Left_long l a n c ts w hR (fun s h => by have := hs.2 s h; omega) hl

section
variable (w : World) (B0 l most : Nat) (ts : List ByteArray) (F : List Nat) (hQ : QL w B0 l most ts F) (a : Option Addr) (n c : Nat) (hR : Row w F a n c ts) (A B : Int) (S P : ByteArray) (xa : Option Addr) (xn xc : Nat) (af : Bool) (xl : List ByteArray) (hX : RdS w xa xn xl)
include hQ hR hX

set_option maxRecDepth 100000 in
set_option maxHeartbeats 800000 in
theorem ends2_long (hl : ¬ Fit (few xl 6 5000)) :
    Calls Try.prog 43 #[ptr l, .slice a n c, .agg (askC 2 A B S P xa xn xc af)] w fun e w' => QDid w B0 l most F a ts e w' := by
  have HQ : Hid (QL w B0 l most ts F) := hQ
  have HR : Hid (Row w F a n c ts) := hR
  have HS := few_short xl 6 5000 (by omega)
  have hA := alloc_below w (.cells (askC 2 A B S P xa xn xc af) 37)
  have HX : Hid (Bx (w.alloc (.cells (askC 2 A B S P xa xn xc af) 37)) F w.heap.size 2 A B S P xa xn xc af) := Bx.new hQ 2 A B S P xa xn xc af
  have HFe := Few_eq xa xn xc xl 6 5000 _ (hX.keep hA) (by omega) (by omega)
  have HBa : Hid (Below w.heap.size w (w.alloc (.cells (askC 2 A B S P xa xn xc af) 37))) := hA
  have HLo : Hid (¬ Fit (few xl 6 5000)) := hl
  generalize few xl 6 5000 = ins at HFe HLo HS
  have HSs : Hid (Short ins 6 5000) := HS
  clear hQ hR hX hA hl HS
  go_enter Try.func43, Try.ntmps43
  go_wp2_with fail
  refine HFe.mono ?_
  rintro e w1 ⟨hb, ia, im, ic, rfl, hO1⟩
  have HB1 := step_below HBa hb
  have HX1 : Hid (Bx w1 F w.heap.size 2 A B S P xa xn xc af) := HX.out.keep hb
  have hx1 := HX1.out.cell 0 _ rfl
  have HLg := longQ_any ia im ic ins w1 hO1.rd (fun s hs => by have := HSs.out.2 s hs; omega) true ⟨(fun _ => HLo.out), fun _ => rfl⟩
  have HRi := QRight_long l ia im ic ins w1 hO1.rd HSs.out HLo.out
  clear hb hO1 HFe
  go_wp2_with fail
  refine HLg.mono ?_
  rintro e w1 ⟨rfl, rfl⟩
  go_wp2_with fail
  refine (codeQ_any true w1).mono ?_
  rintro e w1 ⟨rfl, rfl⟩
  rw [if_pos rfl]
  go_wp2_with fail
  refine HRi.mono ?_
  rintro e w1 ⟨rfl, rfl⟩
  go_wp2
  go_ret2
  exact ⟨F, _, _, _, rfl, HQ.out.keep HB1.out, Left.of_below HB1.out F, HR.out.keep HB1.out, Fresh.refl _ _⟩

set_option maxRecDepth 100000 in
set_option maxHeartbeats 800000 in
theorem ends2_fit (hc : ts.length ≤ 900000) (hl : Fit (few xl 6 5000)) :
    Calls Try.prog 43 #[ptr l, .slice a n c, .agg (askC 2 A B S P xa xn xc af)] w fun e w' => QDid w B0 l most F a (ts ++ few xl 6 5000) e w' := by
  have HQ : Hid (QL w B0 l most ts F) := hQ
  have HR : Hid (Row w F a n c ts) := hR
  have hn : n ≤ 900000 := by have := hR.len; omega
  have HS := few_short xl 6 5000 (by omega)
  have hA := alloc_below w (.cells (askC 2 A B S P xa xn xc af) 37)
  have HX : Hid (Bx (w.alloc (.cells (askC 2 A B S P xa xn xc af) 37)) F w.heap.size 2 A B S P xa xn xc af) := Bx.new hQ 2 A B S P xa xn xc af
  have HFe := Few_eq xa xn xc xl 6 5000 _ (hX.keep hA) (by omega) (by omega)
  have HBa : Hid (Below w.heap.size w (w.alloc (.cells (askC 2 A B S P xa xn xc af) 37))) := hA
  have HLo : Hid (Fit (few xl 6 5000)) := hl
  generalize few xl 6 5000 = ins at HFe HLo HS
  have HSs : Hid (Short ins 6 5000) := HS
  clear hQ hR hX hA hl HS
  go_enter Try.func43, Try.ntmps43
  go_wp2_with fail
  refine HFe.mono ?_
  rintro e w1 ⟨hb, ia, im, ic, rfl, hO1⟩
  have HB1 := step_below HBa hb
  have HX1 : Hid (Bx w1 F w.heap.size 2 A B S P xa xn xc af) := HX.out.keep hb
  have hx1 := HX1.out.cell 0 _ rfl
  have him : im ≤ 6 := by have := hO1.len; have := HSs.out.1; omega
  have HLg := longQ_any ia im ic ins w1 hO1.rd (fun s hs => by have := HSs.out.2 s hs; omega) false ⟨(fun h => by cases h), fun h => absurd HLo.out h⟩
  have HO1 : Hid (OwnS w1 0 ia im ic ins) := hO1.lw (Nat.zero_le _)
  have HR1 : Hid (Row w1 F a n c ts) := HR.out.keep HB1.out
  have HQ1 : Hid (QL w1 B0 l most ts F) := HQ.out.keep HB1.out
  have HOa : Hid (OwnS (w1.alloc (.cells #[] 9)) w1.heap.size (some ⟨w1.heap.size, 0, none⟩) 0 0 []) := OwnS.made w1 [] w1.heap.size 0 rfl (Nat.le_refl _) (by decide) _ rfl
  have HAl : Hid (Below w1.heap.size w1 (w1.alloc (.cells #[] 9))) := alloc_below w1 _
  have HRa : Hid (RdL (w1.alloc (.cells #[] 9)) a n c ts) := (HR1.out.keep HAl.out).rl
  have HNa : Hid (0 + n ≤ 1000000) := by show _ ≤ _; omega
  clear hb hO1 HFe
  go_wp2_with fail
  refine HLg.mono ?_
  rintro e w1 ⟨rfl, rfl⟩
  go_wp2_with fail
  refine (codeQ_any false w1).mono ?_
  rintro e w1 ⟨rfl, rfl⟩
  rw [if_neg (by decide)]
  go_upto_region 9 with (first
    | (at_builtin; refine append_strs rfl (.tmp 29) (.tmp 30) rfl w1.heap.size rfl HOa.out rfl HRa.out HNa.out HAl.out.size ?_; intro a7 n7 c7 w7 hn7 HO7 HB7; have HBx : Hid (Below w1.heap.size w1 w7) := HAl.out.trans HB7.out; have HI7 : Hid (RdL w7 ia im ic ins) := HO1.out.rl.keep HBx.out; have HN7 : Hid (n7 + im ≤ 1000000) := (by show _ ≤ _; omega); clear hn7 HB7)
    | (at_builtin; refine append_strs rfl (.tmp 31) (.tmp 32) rfl w1.heap.size rfl HO7.out rfl HI7.out HN7.out HBx.out.size ?_; intro a8 n8 c8 w8 hn8 HO8 HB8; have HBy : Hid (Below w1.heap.size w1 w8) := HBx.out.trans HB8.out; have HOz : Hid (OwnS w8 w1.heap.size a8 n8 c8 (ts ++ ins)) := (by have := HO8.out; rw [List.nil_append] at this; exact this); clear hn8 HB8))
  have HQ8 : Hid (QL w8 B0 l most ts F) := HQ1.out.keep HBy.out
  have HB8 := step_below HB1 HBy.out
  have HIr : Hid (OwnS w8 0 ia im ic ins) := HO1.out.keep HBy.out
  have HRi := QRight w8 B0 l most ts F HQ8.out ia im ic ins (HQ8.out.rdf HIr.out) HLo.out (by omega)
  have hRo := OwnS.row0 (F := F) (w := w1) HOz.out (Nat.le_refl _) (fun k hk => (HQ1.out.blocks k hk).2) a
  have HRo : Hid (Row w8 F a8 n8 c8 (ts ++ ins)) := hRo.1
  have HFr : Hid (Fresh w1 a a8) := hRo.2
  clear hRo
  go_wp2_with fail
  refine HRi.mono ?_
  rintro e w9 ⟨rfl, F9, hQ9, hL9⟩
  have HQ9 : Hid (QL w9 B0 l most (ts ++ ins) F9) := hQ9
  have HL9 : Hid (Left w8 w9 F F9) := hL9
  clear hQ9 hL9 HRi
  go_wp2
  go_ret2
  exact ⟨F9, _, _, _, rfl, HQ9.out, (Left.of_below HB8.out F).trans HL9.out, HRo.out.left HL9.out, HFr.out.back HB1.out.size⟩

set_option maxRecDepth 100000 in
set_option maxHeartbeats 800000 in
theorem ends1_long (hl : ¬ Fit (few xl 6 5000)) :
    Calls Try.prog 43 #[ptr l, .slice a n c, .agg (askC 1 A B S P xa xn xc af)] w fun e w' => QDid w B0 l most F a ts e w' := by
  have HQ : Hid (QL w B0 l most ts F) := hQ
  have HR : Hid (Row w F a n c ts) := hR
  have HS := few_short xl 6 5000 (by omega)
  have hA := alloc_below w (.cells (askC 1 A B S P xa xn xc af) 37)
  have HX : Hid (Bx (w.alloc (.cells (askC 1 A B S P xa xn xc af) 37)) F w.heap.size 1 A B S P xa xn xc af) := Bx.new hQ 1 A B S P xa xn xc af
  have HFe := Few_eq xa xn xc xl 6 5000 _ (hX.keep hA) (by omega) (by omega)
  have HBa : Hid (Below w.heap.size w (w.alloc (.cells (askC 1 A B S P xa xn xc af) 37))) := hA
  have HLo : Hid (¬ Fit (few xl 6 5000)) := hl
  generalize few xl 6 5000 = ins at HFe HLo HS
  have HSs : Hid (Short ins 6 5000) := HS
  clear hQ hR hX hA hl HS
  go_enter Try.func43, Try.ntmps43
  go_wp2_with fail
  refine HFe.mono ?_
  rintro e w1 ⟨hb, ia, im, ic, rfl, hO1⟩
  have HB1 := step_below HBa hb
  have HX1 : Hid (Bx w1 F w.heap.size 1 A B S P xa xn xc af) := HX.out.keep hb
  have hx1 := HX1.out.cell 0 _ rfl
  have HLg := longQ_any ia im ic ins w1 hO1.rd (fun s hs => by have := HSs.out.2 s hs; omega) true ⟨(fun _ => HLo.out), fun _ => rfl⟩
  have HRi := QLeft_long l ia im ic ins w1 hO1.rd HSs.out HLo.out
  have him : im ≤ 6 := by have := hO1.len; have := HSs.out.1; omega
  have hz : (0 : Int) < im := by
    have h1 := hO1.len
    have h2 : ins ≠ [] := fun e => HLo.out (by rw [e]; intro s hs; cases hs)
    have h3 := List.length_pos_iff.2 h2
    omega
  clear hb hO1 HFe
  go_wp2_with fail
  refine HLg.mono ?_
  rintro e w1 ⟨rfl, rfl⟩
  go_wp2_with fail
  refine (codeQ_any true w1).mono ?_
  rintro e w1 ⟨rfl, rfl⟩
  rw [if_pos rfl]
  go_wp2
  go_loopg [1, 10] 0 (fun g mv iv wr => mv = .slice a n c ∧ iv = .int .i64 0 ∧ wr = w1)
  case atStart => exact ⟨rfl, rfl, rfl⟩
  case round =>
    obtain ⟨rfl, rfl, rfl⟩ := hrel
    go_wp2_with fail
    refine HRi.mono ?_
    rintro e w1 ⟨rfl, rfl⟩
    go_wp2
    go_ret2
    exact ⟨F, _, _, _, rfl, HQ.out.keep HB1.out, Left.of_below HB1.out F, HR.out.keep HB1.out, Fresh.refl _ _⟩

set_option maxRecDepth 100000 in
set_option maxHeartbeats 800000 in
theorem ends1_fit (hc : ts.length ≤ 900000) (hl : Fit (few xl 6 5000)) :
    Calls Try.prog 43 #[ptr l, .slice a n c, .agg (askC 1 A B S P xa xn xc af)] w fun e w' => QDid w B0 l most F a ((few xl 6 5000).reverse ++ ts) e w' := by
  have HQ : Hid (QL w B0 l most ts F) := hQ
  have HR : Hid (Row w F a n c ts) := hR
  have HS := few_short xl 6 5000 (by omega)
  have hA := alloc_below w (.cells (askC 1 A B S P xa xn xc af) 37)
  have HX : Hid (Bx (w.alloc (.cells (askC 1 A B S P xa xn xc af) 37)) F w.heap.size 1 A B S P xa xn xc af) := Bx.new hQ 1 A B S P xa xn xc af
  have HFe := Few_eq xa xn xc xl 6 5000 _ (hX.keep hA) (by omega) (by omega)
  have HBa : Hid (Below w.heap.size w (w.alloc (.cells (askC 1 A B S P xa xn xc af) 37))) := hA
  have HLo : Hid (Fit (few xl 6 5000)) := hl
  generalize few xl 6 5000 = ins at HFe HLo HS
  have HSs : Hid (Short ins 6 5000) := HS
  clear hQ hR hX hA hl HS
  go_enter Try.func43, Try.ntmps43
  go_wp2_with fail
  refine HFe.mono ?_
  rintro e w1 ⟨hb, ia, im, ic, rfl, hO1⟩
  have HB1 := step_below HBa hb
  have HX1 : Hid (Bx w1 F w.heap.size 1 A B S P xa xn xc af) := HX.out.keep hb
  have hx1 := HX1.out.cell 0 _ rfl
  have him : im ≤ 6 := by have := hO1.len; have := HSs.out.1; omega
  have HLg := longQ_any ia im ic ins w1 hO1.rd (fun s hs => by have := HSs.out.2 s hs; omega) false ⟨(fun h => by cases h), fun h => absurd HLo.out h⟩
  have HO1 : Hid (OwnS w1 0 ia im ic ins) := hO1.lw (Nat.zero_le _)
  have HLi : Hid (ins.length = im) := hO1.len
  have HR1 : Hid (Row w1 F a n c ((ins.take 0).reverse ++ ts)) := HR.out.keep HB1.out
  have HQ1 : Hid (QL w1 B0 l most ts F) := HQ.out.keep HB1.out
  clear hb hO1 HFe
  go_wp2_with fail
  refine HLg.mono ?_
  rintro e w1 ⟨rfl, rfl⟩
  go_wp2_with fail
  refine (codeQ_any false w1).mono ?_
  rintro e w1 ⟨rfl, rfl⟩
  rw [if_neg (by decide)]
  go_wp2
  go_loopg [1, 10] im (fun g mv iv wr => ∃ (i : Nat) (a' : Option Addr) (n' c' : Nat), i + g = im ∧ mv = .slice a' n' c' ∧ iv = .int .i64 i ∧ Hid (Row wr F a' n' c' ((ins.take i).reverse ++ ts)) ∧ Hid (Fresh w1 a a') ∧ Hid (Below w1.heap.size w1 wr))
  case atStart => exact ⟨0, a, n, c, by omega, rfl, rfl, HR1, Fresh.refl _ _, Below.refl _ _⟩
  case round =>
    obtain ⟨i, a', n', c', hi, rfl, rfl, HRr, HFr, HBr⟩ := hrel
    by_cases h8 : (i : Int) < im
    · have HOr : Hid (OwnS wr 0 ia im ic ins) := HO1.out.keep HBr.out
      obtain ⟨b, off, ha, hc1⟩ := HOr.out.rd.cell i (by omega)
      subst ha
      have HS : Hid (ins.take (i + 1) = ins.take i ++ [ins.getD i ByteArray.empty]) := take_snocB ins i (by have := HLi.out; omega)
      generalize ins.getD i ByteArray.empty = t at hc1 HS
      have HOa : Hid (OwnS (wr.alloc (.cells #[.string t] 9)) w1.heap.size (some ⟨wr.heap.size, 0, none⟩) 1 1 [t]) := OwnS.made wr [t] w1.heap.size 1 rfl HBr.out.size (by decide) _ rfl
      have hA := alloc_below wr (.cells #[.string t] 9)
      have HRa : Hid (RdL (wr.alloc (.cells #[.string t] 9)) a' n' c' ((ins.take i).reverse ++ ts)) := (HRr.out.keep hA).rl
      have HBa : Hid (Below w1.heap.size w1 (wr.alloc (.cells #[.string t] 9))) := HBr.out.trans (hA.mono HBr.out.size)
      have HN : Hid (1 + n' ≤ 1000000) := by
        have h1 := HRr.out.len
        rw [List.length_append, List.length_reverse, List.length_take] at h1
        show _ ≤ _
        omega
      have HT : Hid ([t] ++ ((ins.take i).reverse ++ ts) = (ins.take (i + 1)).reverse ++ ts) := by
        show _ = _
        rw [HS.out, List.reverse_append]; rfl
      clear hA
      go_wp2_with (at_builtin; refine append_strs rfl (.tmp 54) (.tmp 55) rfl w1.heap.size rfl HOa.out rfl HRa.out HN.out HBa.out.size ?_; intro a3 n3 c3 w3 hn3 HO3' HB3'; have hO3 := HO3'.out; rw [HT.out] at hO3; have hR3 := OwnS.row0 (F := F) (w := w1) hO3 (Nat.le_refl _) (fun k hk => (HQ1.out.blocks k hk).2) a; have HR3 : Hid (Row w3 F a3 n3 c3 ((ins.take (i + 1)).reverse ++ ts)) := hR3.1; have HF3 : Hid (Fresh w1 a a3) := hR3.2; have HB3 : Hid (Below w1.heap.size w1 w3) := HBa.out.trans HB3'.out; clear hn3 HO3' HB3' hO3 hR3)
      go_roundg (gk - 1)
      case measure => omega
      case rel => exact ⟨i + 1, a3, n3, c3, by omega, rfl, by go_num, HR3, HF3, HB3⟩
    · have HRe : Hid (Row wr F a' n' c' (ins.reverse ++ ts)) := by
        have h := HRr.out
        rw [List.take_of_length_le (by have := HLi.out; omega)] at h
        exact h
      have HQ8 : Hid (QL wr B0 l most ts F) := HQ1.out.keep HBr.out
      have HB8 := step_below HB1 HBr.out
      have HIr : Hid (OwnS wr 0 ia im ic ins) := HO1.out.keep HBr.out
      have HLe := QLeft wr B0 l most ts F HQ8.out ia im ic ins (HQ8.out.rdf HIr.out) HLo.out (by omega)
      go_wp2_with fail
      refine HLe.mono ?_
      rintro e w9 ⟨rfl, F9, hQ9, hL9⟩
      have HQ9 : Hid (QL w9 B0 l most (ins.reverse ++ ts) F9) := hQ9
      have HL9 : Hid (Left wr w9 F F9) := hL9
      clear hQ9 hL9 HLe
      go_wp2
      go_ret2
      exact ⟨F9, _, _, _, rfl, HQ9.out, (Left.of_below HB8.out F).trans HL9.out, HRe.out.left HL9.out, HFr.out.back HB1.out.size⟩

set_option maxRecDepth 100000 in
set_option maxHeartbeats 800000 in
theorem ends3_any (hc : ts.length ≤ 900000) :
    Calls Try.prog 43 #[ptr l, .slice a n c, .agg (askC 3 A B S P xa xn xc af)] w fun e w' => QDid w B0 l most F a ts.tail e w' := by
  have HQ : Hid (QL w B0 l most ts F) := hQ
  have HR : Hid (Row w F a n c ts) := hR
  have HL : Hid (ts.length = n) := hR.len
  have hn : n ≤ 900000 := by have := hR.len; omega
  have hA := alloc_below w (.cells (askC 3 A B S P xa xn xc af) 37)
  have HX : Hid (Bx (w.alloc (.cells (askC 3 A B S P xa xn xc af) 37)) F w.heap.size 3 A B S P xa xn xc af) := Bx.new hQ 3 A B S P xa xn xc af
  have HFe := Few_eq xa xn xc xl 6 5000 _ (hX.keep hA) (by omega) (by omega)
  have HBa : Hid (Below w.heap.size w (w.alloc (.cells (askC 3 A B S P xa xn xc af) 37))) := hA
  clear hQ hR hX hA
  go_enter Try.func43, Try.ntmps43
  go_wp2_with fail
  refine HFe.mono ?_
  rintro e w1 ⟨hb, ia, im, ic, rfl, hO1⟩
  have HB1 := step_below HBa hb
  have HX1 : Hid (Bx w1 F w.heap.size 3 A B S P xa xn xc af) := HX.out.keep hb
  have hx1 := HX1.out.cell 0 _ rfl
  have HP := QPopLeft w1 B0 l most ts F (HQ.out.keep HB1.out) (by omega)
  clear hb hO1 HFe
  go_wp2_with fail
  refine HP.mono ?_
  rintro e w2 ⟨rfl, F2, hQ2, hL2⟩
  have HQ2 : Hid (QL w2 B0 l most ts.tail F2) := hQ2
  have HL2 : Hid (Left w1 w2 F F2) := hL2
  have HX2 : Hid (Bx w2 F2 w.heap.size 3 A B S P xa xn xc af) := HX1.out.left hL2
  have hx2 := HX2.out.cell 0 _ rfl
  have HR2 : Hid (Row w2 F2 a n c ts) := (HR.out.keep HB1.out).left hL2
  clear hQ2 hL2 HP
  cases n with
  | zero =>
    have hts : ts = [] := List.length_eq_zero_iff.1 HL.out
    subst hts
    rw [show (txt [] 0 : ByteArray) = ⟨#[]⟩ from rfl, show decide (0 < ([] : List ByteArray).length) = false from rfl]
    go_wp2
    go_ret2
    exact ⟨F2, _, _, _, rfl, HQ2.out, (Left.of_below HB1.out F).trans HL2.out, HR2.out, Fresh.refl _ _⟩
  | succ q =>
    have hd : decide (0 < ts.length) = true := decide_eq_true (by have := HL.out; omega)
    rw [hd]
    obtain ⟨b, off, ha, hc0⟩ := HR2.out.rl.rd.cell 0 (by omega)
    subst ha
    rw [show ts.getD 0 ByteArray.empty = txt ts 0 from rfl] at hc0
    obtain ⟨a4, c4, s4, hR4, hF4⟩ := HR2.out.slice_l 1 (by omega)
    have s5 : ∀ wx, (Instr.sliceAt 22 (.slice (some ⟨b, off, none⟩) (q + 1) c) (some (.int .i64 1)) none none).run Try.prog wx = .ok (.slice a4 q c4) wx := s4
    have HR4 : Hid (Row w2 F2 a4 q c4 ts.tail) := by
      show Row _ _ _ _ _ _
      rw [← List.drop_one]; exact hR4
    have HF4 : Hid (Fresh w2 (some ⟨b, off, none⟩) a4) := hF4
    have hc1 : w2.cell? ⟨b, off, none⟩ = some (.string (txt ts 0)) := hc0
    generalize txt ts 0 = t0 at hc0 hc1
    clear hd s4 hR4 hF4
    go_upto_region 22 with fail
    go_quiet (fail)
    go_wp2
    go_ret2
    have hbd := below_drewN w2 nq
    exact ⟨F2, _, _, _, rfl, HQ2.out.keep hbd, ((Left.of_below HB1.out F).trans HL2.out).trans (Left.of_below hbd F2), HR4.out.keep hbd, HF4.out.back (Nat.le_trans HB1.out.size HL2.out.stay.size)⟩

set_option maxRecDepth 100000 in
set_option maxHeartbeats 800000 in
theorem ends4_any (kind : Int) (hk : kind ≠ 1 ∧ kind ≠ 2 ∧ kind ≠ 3) (hc : ts.length ≤ 900000) :
    Calls Try.prog 43 #[ptr l, .slice a n c, .agg (askC kind A B S P xa xn xc af)] w fun e w' => QDid w B0 l most F a ts.dropLast e w' := by
  have HQ : Hid (QL w B0 l most ts F) := hQ
  have HR : Hid (Row w F a n c ts) := hR
  have HL : Hid (ts.length = n) := hR.len
  have hn : n ≤ 900000 := by have := hR.len; omega
  have hA := alloc_below w (.cells (askC kind A B S P xa xn xc af) 37)
  have HX : Hid (Bx (w.alloc (.cells (askC kind A B S P xa xn xc af) 37)) F w.heap.size kind A B S P xa xn xc af) := Bx.new hQ kind A B S P xa xn xc af
  have HFe := Few_eq xa xn xc xl 6 5000 _ (hX.keep hA) (by omega) (by omega)
  have HBa : Hid (Below w.heap.size w (w.alloc (.cells (askC kind A B S P xa xn xc af) 37))) := hA
  obtain ⟨k1, k2, k3⟩ := hk
  have k1' : (kind == 1) = false := by simpa using k1
  have k2' : (kind == 2) = false := by simpa using k2
  have k3' : (kind == 3) = false := by simpa using k3
  clear hQ hR hX hA
  go_enter Try.func43, Try.ntmps43
  go_wp2_with fail
  refine HFe.mono ?_
  rintro e w1 ⟨hb, ia, im, ic, rfl, hO1⟩
  have HB1 := step_below HBa hb
  have HX1 : Hid (Bx w1 F w.heap.size kind A B S P xa xn xc af) := HX.out.keep hb
  have hx1 := HX1.out.cell 0 _ rfl
  have HP := QPopRight w1 B0 l most ts F (HQ.out.keep HB1.out) (by omega)
  clear hb hO1 HFe
  go_wp2_with fail
  refine HP.mono ?_
  rintro e w2 ⟨rfl, F2, hQ2, hL2⟩
  have HQ2 : Hid (QL w2 B0 l most ts.dropLast F2) := hQ2
  have HL2 : Hid (Left w1 w2 F F2) := hL2
  have HX2 : Hid (Bx w2 F2 w.heap.size kind A B S P xa xn xc af) := HX1.out.left hL2
  have hx2 := HX2.out.cell 0 _ rfl
  have HR2 : Hid (Row w2 F2 a n c ts) := (HR.out.keep HB1.out).left hL2
  clear hQ2 hL2 HP
  cases n with
  | zero =>
    have hts : ts = [] := List.length_eq_zero_iff.1 HL.out
    subst hts
    rw [show (txt [] (([] : List ByteArray).length - 1) : ByteArray) = ⟨#[]⟩ from rfl, show decide (0 < ([] : List ByteArray).length) = false from rfl]
    go_wp2
    go_ret2
    exact ⟨F2, _, _, _, rfl, HQ2.out, (Left.of_below HB1.out F).trans HL2.out, HR2.out, Fresh.refl _ _⟩
  | succ q =>
    have hd : decide (0 < ts.length) = true := decide_eq_true (by have := HL.out; omega)
    rw [hd]
    have hq : ts.length - 1 = q := by have := HL.out; omega
    rw [hq]
    obtain ⟨b, off, ha, hc0⟩ := HR2.out.rl.rd.cell q (by omega)
    subst ha
    rw [show ts.getD q ByteArray.empty = txt ts q from rfl] at hc0
    obtain ⟨a4, c4, s4, hR4, hF4⟩ := HR2.out.slice_h q (by omega)
    have HR4 : Hid (Row w2 F2 a4 q c4 ts.dropLast) := by
      show Row _ _ _ _ _ _
      rw [List.dropLast_eq_take, hq]; exact hR4
    have HF4 : Hid (Fresh w2 (some ⟨b, off, none⟩) a4) := hF4
    have hwq : IntKind.i64.wrap (((q + 1 : Nat) : Int) - 1) = (q : Int) := by rw [IntKind.wrap_i64]; omega
    have hwp : (((q + 1 : Nat) : Int) - 1) = (q : Int) := by omega
    generalize txt ts q = t0 at hc0
    clear hd hR4 hF4 hq
    go_upto_region 23 with fail
    go_quiet (fail)
    go_wp2
    go_ret2
    have hbd := below_drewN w2 nq
    exact ⟨F2, _, _, _, rfl, HQ2.out.keep hbd, ((Left.of_below HB1.out F).trans HL2.out).trans (Left.of_below hbd F2), HR4.out.keep hbd, HF4.out.back (Nat.le_trans HB1.out.size HL2.out.stay.size)⟩
end
end Go.Proofs.Ytemiajjjhhofaab

namespace Go.Proofs.Ytemiajjjhhofaab
open Go.RowKit Go.PlainAid

theorem QAt_some (w : World) (B l most : Nat) (ts : List ByteArray) (F : List Nat) (h : QL w B l most ts F) (hc : ts.length ≤ 1000000) (i : Int) (k : Nat) (hk : plc ts.length i = some k) :
    Calls Try.prog 44 #[ptr l, .int .i64 i] w fun e w' => Below w.heap.size w w' ∧ e = .returned (.tuple #[.string (txt ts k), .bool true]) := by
  obtain ⟨R, ns, h1, h2, rfl, rfl⟩ := h.ex
  exact AtQ_some B l R most _ ns i k w h1 rfl hc hk
theorem QAt_none (w : World) (B l most : Nat) (ts : List ByteArray) (F : List Nat) (h : QL w B l most ts F) (hc : ts.length ≤ 1000000) (i : Int) (hk : plc ts.length i = none) :
    Calls Try.prog 44 #[ptr l, .int .i64 i] w fun e w' => Below w.heap.size w w' ∧ e = .returned (.tuple #[.string ⟨#[]⟩, .bool false]) := by
  obtain ⟨R, ns, h1, h2, rfl, rfl⟩ := h.ex
  exact AtQ_none B l R most _ ns i w h1 hc hk
theorem QSet_none (w : World) (B l most : Nat) (ts : List ByteArray) (F : List Nat) (h : QL w B l most ts F) (hc : ts.length ≤ 1000000) (i : Int) (s : ByteArray) (hk : plc ts.length i = none) :
    Calls Try.prog 46 #[ptr l, .int .i64 i, .string s] w fun e w' => e = .returned (.int .i64 8) ∧ w' = w := by
  obtain ⟨R, ns, h1, h2, rfl, rfl⟩ := h.ex
  exact SetQ_index B l R most _ ns i s w h1 hc hk
theorem QSet_long (w : World) (B l most : Nat) (ts : List ByteArray) (F : List Nat) (h : QL w B l most ts F) (hc : ts.length ≤ 1000000) (i : Int) (k : Nat) (s : ByteArray) (hk : plc ts.length i = some k) (hs : 4096 < s.size) (hs2 : s.size ≤ 5000) :
    Calls Try.prog 46 #[ptr l, .int .i64 i, .string s] w fun e w' => e = .returned (.int .i64 11) ∧ Below w.heap.size w w' := by
  obtain ⟨R, ns, h1, h2, rfl, rfl⟩ := h.ex
  exact SetQ_long B l R most _ ns i k s w h1 rfl hc hk hs hs2
theorem QSet_ok (w : World) (B l most : Nat) (ts : List ByteArray) (F : List Nat) (h : QL w B l most ts F) (hc : ts.length ≤ 1000000) (i : Int) (k : Nat) (s : ByteArray) (hk : plc ts.length i = some k) (hs : s.size ≤ 4096) :
    Calls Try.prog 46 #[ptr l, .int .i64 i, .string s] w fun e w' => e = .returned (.int .i64 0) ∧ QDoes w B l most (ts.set k s) F w' := by
  obtain ⟨R, ns, h1, h2, rfl, rfl⟩ := h.ex
  refine (SetQ_ok B l R most _ ns i k s w h1 h2 rfl hc hk hs h.pos h.few).mono ?_
  rintro e w' ⟨rfl, hd⟩
  exact ⟨rfl, hd.ql (by rw [List.length_set]) h.pos h.few⟩
theorem QIns_none (w : World) (B l most : Nat) (ts : List ByteArray) (F : List Nat) (h : QL w B l most ts F) (p s : ByteArray) (b : Bool) (hs : s.size ≤ 4096) (hp : ∀ t ∈ ts, t ≠ p) :
    Calls Try.prog 48 #[ptr l, .string p, .string s, .bool b] w fun e w' => e = .returned (.tuple #[.int .i64 (-1), .int .i64 0]) ∧ Below w.heap.size w w' := by
  obtain ⟨R, ns, h1, h2, rfl, rfl⟩ := h.ex
  exact InsertQ_none B l R most _ ns p s b w h1 hs hp
/-- Where a text goes: beside the first that is p. -/
def iat (A : List ByteArray) (b : Bool) : Nat := if b then A.length + 1 else A.length
theorem iat_split (A C : List ByteArray) (p s : ByteArray) (b : Bool) : (if b then A ++ (p :: (s :: C)) else A ++ (s :: (p :: C))) = (A ++ p :: C).take (iat A b) ++ ([s] ++ (A ++ p :: C).drop (iat A b)) := by
  unfold iat
  cases b with
  | false =>
    rw [if_neg (by decide), if_neg (by decide), List.take_left, List.drop_left]; rfl
  | true =>
    rw [if_pos rfl, if_pos rfl]
    have h1 : (A ++ p :: C) = (A ++ [p]) ++ C := by rw [List.append_assoc]; rfl
    have h2 : A.length + 1 = (A ++ [p]).length := by rw [List.length_append]; rfl
    rw [h1, h2, List.take_left, List.drop_left, List.append_assoc]; rfl
theorem QIns_some (w : World) (B l most : Nat) (ts : List ByteArray) (F : List Nat) (h : QL w B l most ts F) (hc : ts.length ≤ 1000000) (p s : ByteArray) (b : Bool) (A C : List ByteArray) (hs : s.size ≤ 4096) (hT : ts = A ++ p :: C) (hp : ∀ t ∈ A, t ≠ p) :
    Calls Try.prog 48 #[ptr l, .string p, .string s, .bool b] w fun e w' => e = .returned (.tuple #[.int .i64 ((ts.length + 1 : Nat) : Nat), .int .i64 0]) ∧ QDoes w B l most (ts.take (iat A b) ++ ([s] ++ ts.drop (iat A b))) F w' := by
  obtain ⟨R, ns, h1, h2, h3, rfl⟩ := h.ex
  have e : (if b then A ++ (p :: (s :: C)) else A ++ (s :: (p :: C))) = ts.take (iat A b) ++ ([s] ++ ts.drop (iat A b)) := by rw [hT]; exact iat_split A C p s b
  refine (InsertQ_some B l R most _ ns p s b A C w h1 h2 hc h.pos h.few hs (h3.trans hT) hp).mono ?_
  rw [e]
  rintro e w' ⟨rfl, hd⟩
  refine ⟨rfl, hd.ql ?_ h.pos h.few⟩
  simp only [List.length_append, List.length_take, List.length_drop, List.length_cons, List.length_nil]
  have : iat A b ≤ ts.length := by
    rw [hT, List.length_append, List.length_cons]
    unfold iat; split <;> omega
  omega

theorem below_setCellQ (w : World) (C g i : Nat) (v : Value) (h : C ≤ g) : Below C w (w.setCell ⟨g, i, none⟩ v) := by
  have h1 := grown_setCell w g i v
  exact ⟨h1.os, h1.tape, h1.output, h1.size, fun k hk => Deep.blk_setCell_other w _ v k (by show k ≠ g; omega)⟩

section
variable (w : World) (B0 l most : Nat) (ts : List ByteArray) (F : List Nat) (hQ : QL w B0 l most ts F) (a : Option Addr) (n c : Nat) (hR : Row w F a n c ts) (A B : Int) (S P : ByteArray) (xa : Option Addr) (xn xc : Nat) (af : Bool)
include hQ hR

/-- What stands once the call's texts are cut. -/
structure Cutd (w : World) (B0 l most : Nat) (ts : List ByteArray) (F : List Nat) (a : Option Addr) (n c : Nat) (kind A B : Int) (S P : ByteArray) (xa : Option Addr) (xn xc : Nat) (af : Bool) (X : Nat) (wc : World) : Prop where
  bel : Below w.heap.size w wc
  box : Bx wc F X kind A B S P xa xn xc af
  ql : QL wc B0 l most ts F
  row : Row wc F a n c ts
theorem cutd (kind : Int) (nq : Nat) : Cutd w B0 l most ts F a n c kind A B S P xa xn xc af w.heap.size ((w.alloc (.cells (askC kind A B S P xa xn xc af) 37)).drewN nq) := by
  have hA := alloc_below w (.cells (askC kind A B S P xa xn xc af) 37)
  have hD := below_drewN (w.alloc (.cells (askC kind A B S P xa xn xc af) 37)) nq
  have hb := hA.trans (hD.mono hA.size)
  exact ⟨hb, (Bx.new hQ kind A B S P xa xn xc af).keep hD, hQ.keep hb, hR.keep hb⟩

set_option maxRecDepth 100000 in
set_option maxHeartbeats 800000 in
theorem do5_some (k : Nat) (hI : I64 A) (hk : plc ts.length A = some k) (hc : ts.length ≤ 900000) :
    Calls Try.prog 18 #[ptr l, .slice a n c, .agg (askC 5 A B S P xa xn xc af)] w fun e w' => QDid w B0 l most F a ts e w' := by
  have HC := fun nq => cutd w B0 l most ts F hQ a n c hR A B S P xa xn xc af 5 nq
  have HX0 : Hid (Bx (w.alloc (.cells (askC 5 A B S P xa xn xc af) 37)) F w.heap.size 5 A B S P xa xn xc af) := Bx.new hQ 5 A B S P xa xn xc af
  have HL : Hid (ts.length = n) := hR.len
  have HI : Hid (I64 A) := hI
  have HK : Hid (plc ts.length A = some k) := hk
  have hn : n ≤ 900000 := by have := hR.len; omega
  have HKn : Hid (plc n A = some k) := by have := hR.len; show _ = _; rw [← this]; exact hk
  have hkn : (k : Int) < n := by have := plc_lt HKn.out; omega
  have HPl := fun w => Place_some n A k w (by omega) HI.out HKn.out
  have h3 := HX0.out.cell 3 _ rfl
  have h4 := HX0.out.cell 4 _ rfl
  have h0 := HX0.out.cell 0 _ rfl
  clear hQ hR hk hI
  go_enter Try.func18, Try.ntmps18
  go_upto_region 3 with fail
  go_quiet ((go_at_call 10; exact Calls.quiet_of_same (Cut_any _ _ _ (by decide))))
  have HCd := HC nq
  clear HC
  generalize (w.alloc (.cells (askC 5 A B S P xa xn xc af) 37)).drewN nq = wc at HCd ⊢
  have HCd : Hid (Cutd w B0 l most ts F a n c 5 A B S P xa xn xc af w.heap.size wc) := HCd
  have x0 := HCd.out.box.cell 0 _ rfl
  have x1 := HCd.out.box.cell 1 _ rfl
  have HAt := QAt_some wc B0 l most ts F HCd.out.ql (by omega) A k HK.out
  go_wp2_with fail
  refine HAt.mono ?_
  rintro e w1 ⟨hb, rfl⟩
  have HB1 : Hid (Below w.heap.size w w1) := HCd.out.bel.trans (hb.mono HCd.out.bel.size)
  have HR1 : Hid (Row w1 F a n c ts) := HCd.out.row.keep hb
  have HQ1 : Hid (QL w1 B0 l most ts F) := HCd.out.ql.keep hb
  have y1 := (HCd.out.box.keep hb).cell 1 _ rfl
  clear hb HAt
  go_wp2_with fail
  refine (HPl w1).mono ?_
  rintro e w1 ⟨rfl, rfl⟩
  obtain ⟨b, off, ha, hc0⟩ := HR1.out.rl.rd.cell k (by omega)
  subst ha
  rw [show ts.getD k ByteArray.empty = txt ts k from rfl] at hc0
  generalize txt ts k = t at hc0
  have hk0 : (0 : Int) ≤ k := by omega
  clear HPl
  go_upto_region 8 with fail
  go_quiet (fail)
  go_wp2
  go_ret2
  have hbd := below_drewN w1 nq
  exact ⟨F, _, _, _, rfl, HQ1.out.keep hbd, Left.of_below (HB1.out.trans (hbd.mono HB1.out.size)) F, HR1.out.keep hbd, Fresh.refl _ _⟩
-- DOGEN

set_option maxRecDepth 100000 in
set_option maxHeartbeats 800000 in
theorem do5_none (hI : I64 A) (hk : plc ts.length A = none) (hc : ts.length ≤ 900000) :
    Calls Try.prog 18 #[ptr l, .slice a n c, .agg (askC 5 A B S P xa xn xc af)] w fun e w' => QDid w B0 l most F a (ts) e w' := by
  have HC := fun nq => cutd w B0 l most ts F hQ a n c hR A B S P xa xn xc af 5 nq
  have HX0 : Hid (Bx (w.alloc (.cells (askC 5 A B S P xa xn xc af) 37)) F w.heap.size 5 A B S P xa xn xc af) := Bx.new hQ 5 A B S P xa xn xc af
  have HL : Hid (ts.length = n) := hR.len
  have hn : n ≤ 900000 := by have := hR.len; omega
  have HI : Hid (I64 A) := hI
  have HK : Hid (plc ts.length A = none) := hk
  have HKn : Hid (plc n A = none) := by have := hR.len; show _ = _; rw [← this]; exact hk
  have HPl := fun w => Place_none n A w (by omega) HI.out HKn.out
  have h3 := HX0.out.cell 3 _ rfl
  have h4 := HX0.out.cell 4 _ rfl
  have h0 := HX0.out.cell 0 _ rfl
  clear hQ hR hk hI
  go_enter Try.func18, Try.ntmps18
  go_upto_region 3 with fail
  go_quiet ((go_at_call 10; exact Calls.quiet_of_same (Cut_any _ _ _ (by decide))))
  have HCd := HC nq
  clear HC
  generalize (w.alloc (.cells (askC 5 A B S P xa xn xc af) 37)).drewN nq = wc at HCd ⊢
  have HCd : Hid (Cutd w B0 l most ts F a n c 5 A B S P xa xn xc af w.heap.size wc) := HCd
  have x0 := HCd.out.box.cell 0 _ rfl
  have x1 := HCd.out.box.cell 1 _ rfl
  have x2 := HCd.out.box.cell 2 _ rfl
  have x6 := HCd.out.box.cell 6 _ rfl
  clear h3 h4 h0
  have HAt := QAt_none wc B0 l most ts F HCd.out.ql (by omega) A HK.out
  go_wp2_with fail
  refine HAt.mono ?_
  rintro e w1 ⟨hb, rfl⟩
  have HB1 : Hid (Below w.heap.size w w1) := HCd.out.bel.trans (hb.mono HCd.out.bel.size)
  have HR1 : Hid (Row w1 F a n c ts) := HCd.out.row.keep hb
  have HQ1 : Hid (QL w1 B0 l most ts F) := HCd.out.ql.keep hb
  have y1 := (HCd.out.box.keep hb).cell 1 _ rfl
  clear hb HAt
  go_wp2_with fail
  refine (HPl w1).mono ?_
  rintro e w1 ⟨rfl, rfl⟩
  clear HPl
  go_upto_region 8 with fail
  go_quiet (fail)
  go_wp2
  go_ret2
  have hbd := below_drewN w1 nq
  exact ⟨F, _, _, _, rfl, HQ1.out.keep hbd, Left.of_below (HB1.out.trans (hbd.mono HB1.out.size)) F, HR1.out.keep hbd, Fresh.refl _ _⟩

set_option maxRecDepth 100000 in
set_option maxHeartbeats 800000 in
theorem do6_none (hI : I64 A) (hk : plc ts.length A = none) (hc : ts.length ≤ 900000) :
    Calls Try.prog 18 #[ptr l, .slice a n c, .agg (askC 6 A B S P xa xn xc af)] w fun e w' => QDid w B0 l most F a (ts) e w' := by
  have HC := fun nq => cutd w B0 l most ts F hQ a n c hR A B S P xa xn xc af 6 nq
  have HX0 : Hid (Bx (w.alloc (.cells (askC 6 A B S P xa xn xc af) 37)) F w.heap.size 6 A B S P xa xn xc af) := Bx.new hQ 6 A B S P xa xn xc af
  have HL : Hid (ts.length = n) := hR.len
  have hn : n ≤ 900000 := by have := hR.len; omega
  have HI : Hid (I64 A) := hI
  have HK : Hid (plc ts.length A = none) := hk
  have HKn : Hid (plc n A = none) := by have := hR.len; show _ = _; rw [← this]; exact hk
  have HPl := fun w => Place_none n A w (by omega) HI.out HKn.out
  have h3 := HX0.out.cell 3 _ rfl
  have h4 := HX0.out.cell 4 _ rfl
  have h0 := HX0.out.cell 0 _ rfl
  clear hQ hR hk hI
  go_enter Try.func18, Try.ntmps18
  go_upto_region 3 with fail
  go_quiet ((go_at_call 10; exact Calls.quiet_of_same (Cut_any _ _ _ (by decide))))
  have HCd := HC nq
  clear HC
  generalize (w.alloc (.cells (askC 6 A B S P xa xn xc af) 37)).drewN nq = wc at HCd ⊢
  have HCd : Hid (Cutd w B0 l most ts F a n c 6 A B S P xa xn xc af w.heap.size wc) := HCd
  have x0 := HCd.out.box.cell 0 _ rfl
  have x1 := HCd.out.box.cell 1 _ rfl
  have x2 := HCd.out.box.cell 2 _ rfl
  have x6 := HCd.out.box.cell 6 _ rfl
  clear h3 h4 h0
  generalize cutB S 5000 = s
  have HSe := QSet_none wc B0 l most ts F HCd.out.ql (by omega) A s HK.out
  go_wp2_with fail
  refine (HPl wc).mono ?_
  rintro e wc ⟨rfl, rfl⟩
  go_wp2_with fail
  refine HSe.mono ?_
  rintro e wc ⟨rfl, rfl⟩
  go_wp2
  go_ret2
  exact ⟨F, _, _, _, rfl, HCd.out.ql, Left.of_below HCd.out.bel F, HCd.out.row, Fresh.refl _ _⟩

set_option maxRecDepth 100000 in
set_option maxHeartbeats 800000 in
theorem do6_long (hI : I64 A) (k : Nat) (hk : plc ts.length A = some k) (hs : 4096 < (cutB S 5000).size) (hc : ts.length ≤ 900000) :
    Calls Try.prog 18 #[ptr l, .slice a n c, .agg (askC 6 A B S P xa xn xc af)] w fun e w' => QDid w B0 l most F a (ts) e w' := by
  have HC := fun nq => cutd w B0 l most ts F hQ a n c hR A B S P xa xn xc af 6 nq
  have HX0 : Hid (Bx (w.alloc (.cells (askC 6 A B S P xa xn xc af) 37)) F w.heap.size 6 A B S P xa xn xc af) := Bx.new hQ 6 A B S P xa xn xc af
  have HL : Hid (ts.length = n) := hR.len
  have hn : n ≤ 900000 := by have := hR.len; omega
  have HI : Hid (I64 A) := hI
  have HK : Hid (plc ts.length A = some k) := hk
  have HKn : Hid (plc n A = some k) := by have := hR.len; show _ = _; rw [← this]; exact hk
  have hkn : (k : Int) < n := by have := plc_lt HKn.out; omega
  have HPl := fun w => Place_some n A k w (by omega) HI.out HKn.out
  have hs5 : ((cutB S 5000).size : Int) ≤ 5000 := size_cutB S 5000 (by decide)
  have h3 := HX0.out.cell 3 _ rfl
  have h4 := HX0.out.cell 4 _ rfl
  have h0 := HX0.out.cell 0 _ rfl
  clear hQ hR hk hI
  go_enter Try.func18, Try.ntmps18
  go_upto_region 3 with fail
  go_quiet ((go_at_call 10; exact Calls.quiet_of_same (Cut_any _ _ _ (by decide))))
  have HCd := HC nq
  clear HC
  generalize (w.alloc (.cells (askC 6 A B S P xa xn xc af) 37)).drewN nq = wc at HCd ⊢
  have HCd : Hid (Cutd w B0 l most ts F a n c 6 A B S P xa xn xc af w.heap.size wc) := HCd
  have x0 := HCd.out.box.cell 0 _ rfl
  have x1 := HCd.out.box.cell 1 _ rfl
  have x2 := HCd.out.box.cell 2 _ rfl
  have x6 := HCd.out.box.cell 6 _ rfl
  clear h3 h4 h0
  generalize cutB S 5000 = s at hs5 hs ⊢
  have HSe := QSet_long wc B0 l most ts F HCd.out.ql (by omega) A k s HK.out hs (by omega)
  have hs1 : (4096 : Int) < s.size := by omega
  have hs2 : ¬ ((s.size : Int) ≤ 4096) := by omega
  have hk0 : ¬ ((k : Int) < 0) := by omega
  go_wp2_with fail
  refine (HPl wc).mono ?_
  rintro e wc ⟨rfl, rfl⟩
  go_wp2_with fail
  refine HSe.mono ?_
  rintro e w1 ⟨rfl, hb⟩
  have HB1 : Hid (Below w.heap.size w w1) := HCd.out.bel.trans (hb.mono HCd.out.bel.size)
  have HR1 : Hid (Row w1 F a n c ts) := HCd.out.row.keep hb
  have HQ1 : Hid (QL w1 B0 l most ts F) := HCd.out.ql.keep hb
  clear hb HSe
  go_wp2_with fail
  refine (codeQ_any true w1).mono ?_
  rintro e w1 ⟨rfl, rfl⟩
  rw [if_pos rfl]
  go_wp2
  go_ret2
  exact ⟨F, _, _, _, rfl, HQ1.out, Left.of_below HB1.out F, HR1.out, Fresh.refl _ _⟩

set_option maxRecDepth 100000 in
set_option maxHeartbeats 800000 in
theorem do6_ok (hI : I64 A) (k : Nat) (hk : plc ts.length A = some k) (hs : (cutB S 5000).size ≤ 4096) (hc : ts.length ≤ 900000) :
    Calls Try.prog 18 #[ptr l, .slice a n c, .agg (askC 6 A B S P xa xn xc af)] w fun e w' => QDid w B0 l most F a (ts.set k (cutB S 5000)) e w' := by
  have HC := fun nq => cutd w B0 l most ts F hQ a n c hR A B S P xa xn xc af 6 nq
  have HX0 : Hid (Bx (w.alloc (.cells (askC 6 A B S P xa xn xc af) 37)) F w.heap.size 6 A B S P xa xn xc af) := Bx.new hQ 6 A B S P xa xn xc af
  have HL : Hid (ts.length = n) := hR.len
  have hn : n ≤ 900000 := by have := hR.len; omega
  have HI : Hid (I64 A) := hI
  have HK : Hid (plc ts.length A = some k) := hk
  have HKn : Hid (plc n A = some k) := by have := hR.len; show _ = _; rw [← this]; exact hk
  have hkn : (k : Int) < n := by have := plc_lt HKn.out; omega
  have HPl := fun w => Place_some n A k w (by omega) HI.out HKn.out
  have h3 := HX0.out.cell 3 _ rfl
  have h4 := HX0.out.cell 4 _ rfl
  have h0 := HX0.out.cell 0 _ rfl
  clear hQ hR hk hI
  go_enter Try.func18, Try.ntmps18
  go_upto_region 3 with fail
  go_quiet ((go_at_call 10; exact Calls.quiet_of_same (Cut_any _ _ _ (by decide))))
  have HCd := HC nq
  clear HC
  generalize (w.alloc (.cells (askC 6 A B S P xa xn xc af) 37)).drewN nq = wc at HCd ⊢
  have HCd : Hid (Cutd w B0 l most ts F a n c 6 A B S P xa xn xc af w.heap.size wc) := HCd
  have x0 := HCd.out.box.cell 0 _ rfl
  have x1 := HCd.out.box.cell 1 _ rfl
  have x2 := HCd.out.box.cell 2 _ rfl
  have x6 := HCd.out.box.cell 6 _ rfl
  clear h3 h4 h0
  obtain ⟨s, hss⟩ : ∃ s, cutB S 5000 = s := ⟨_, rfl⟩
  have HSs : Hid (cutB S 5000 = s) := hss
  rw [hss] at hs ⊢
  clear hss
  have hs3 : decide ((4096 : Int) < s.size) = false := decide_eq_false (by omega)
  have hs2 : (s.size : Int) ≤ 4096 := by omega
  have hs1 : ¬ ((4096 : Int) < s.size) := by omega
  have hk0 : ¬ ((k : Int) < 0) := by omega
  go_wp2_with fail
  refine (HPl wc).mono ?_
  rintro e wc ⟨rfl, rfl⟩
  have HOa : Hid (OwnS (wc.alloc (.cells #[] 9)) wc.heap.size (some ⟨wc.heap.size, 0, none⟩) 0 0 []) := OwnS.made wc [] wc.heap.size 0 rfl (Nat.le_refl _) (by decide) _ rfl
  have HRa : Hid (RdL (wc.alloc (.cells #[] 9)) a n c ts) := (HCd.out.row.keep (alloc_below wc _)).rl
  have HNa : Hid (0 + n ≤ 1000000) := by show _ ≤ _; omega
  have HSa : Hid (wc.heap.size ≤ (wc.alloc (.cells #[] 9)).heap.size) := (alloc_below wc _).size
  go_upto_region 15 with (at_builtin; refine append_strs rfl (.tmp 97) (.tmp 98) rfl wc.heap.size rfl HOa.out rfl HRa.out HNa.out HSa.out ?_; intro a9 n9 c9 w9 hn9 HO9 HB9; have hn9' : n9 = n := (by omega); subst hn9'; clear hn9)
  have hO9 := HO9.out
  rw [List.nil_append] at hO9
  obtain ⟨g, ha9, hBg, ⟨v, hv⟩, hfz, hO10⟩ := hO9.set k (by omega) s
  subst ha9
  have HO10 : Hid (OwnS (w9.setCell ⟨g, k, none⟩ (.string s)) wc.heap.size (some ⟨g, 0, none⟩) n9 c9 (ts.set k s)) := hO10
  have HB10 : Hid (Below wc.heap.size wc (w9.setCell ⟨g, k, none⟩ (.string s))) := ((alloc_below wc _).trans HB9.out).trans (below_setCellQ w9 wc.heap.size g k _ hBg)
  obtain ⟨wn, hwn⟩ : ∃ wn, w9.setCell ⟨g, k, none⟩ (.string s) = wn := ⟨_, rfl⟩
  rw [hwn] at HO10 HB10
  have HQn : Hid (QL wn B0 l most ts F) := HCd.out.ql.keep HB10.out
  have y1 := (HCd.out.box.keep HB10.out).cell 1 _ rfl
  have HSe := QSet_ok wn B0 l most ts F HQn.out (by omega) A k s HK.out hs
  have hRo := OwnS.row0 (F := F) (w := wc) HO10.out (Nat.le_refl _) (fun j hj => (HCd.out.ql.blocks j hj).2) a
  have HRo : Hid (Row wn F (some ⟨g, 0, none⟩) n9 c9 (ts.set k s)) := hRo.1
  have HFr : Hid (Fresh wc a (some ⟨g, 0, none⟩)) := hRo.2
  clear hO9 hO10 hRo HPl
  go_wp2_with fail
  refine HSe.mono ?_
  rintro e w1 ⟨rfl, F9, hQ9, hL9⟩
  have HQ9 : Hid (QL w1 B0 l most (ts.set k s) F9) := hQ9
  have HL9 : Hid (Left wn w1 F F9) := hL9
  clear hQ9 hL9 HSe
  go_wp2_with fail
  refine (codeQ_any false w1).mono ?_
  rintro e w1 ⟨rfl, rfl⟩
  rw [if_neg (by decide)]
  go_wp2
  go_ret2
  rw [HSs.out]
  exact ⟨F9, _, _, _, rfl, HQ9.out, (Left.of_below (HCd.out.bel.trans (HB10.out.mono HCd.out.bel.size)) F).trans HL9.out, HRo.out.left HL9.out, HFr.out.back HCd.out.bel.size⟩

set_option maxRecDepth 100000 in
set_option maxHeartbeats 800000 in
theorem do7_long (hs : 4096 < (cutB S 5000).size) (hc : ts.length ≤ 900000) :
    Calls Try.prog 18 #[ptr l, .slice a n c, .agg (askC 7 A B S P xa xn xc af)] w fun e w' => QDid w B0 l most F a (ts) e w' := by
  have HC := fun nq => cutd w B0 l most ts F hQ a n c hR A B S P xa xn xc af 7 nq
  have HX0 : Hid (Bx (w.alloc (.cells (askC 7 A B S P xa xn xc af) 37)) F w.heap.size 7 A B S P xa xn xc af) := Bx.new hQ 7 A B S P xa xn xc af
  have HL : Hid (ts.length = n) := hR.len
  have hn : n ≤ 900000 := by have := hR.len; omega
  have hs5 : ((cutB S 5000).size : Int) ≤ 5000 := size_cutB S 5000 (by decide)
  have h3 := HX0.out.cell 3 _ rfl
  have h4 := HX0.out.cell 4 _ rfl
  have h0 := HX0.out.cell 0 _ rfl
  clear hQ hR 
  go_enter Try.func18, Try.ntmps18
  go_upto_region 3 with fail
  go_quiet ((go_at_call 10; exact Calls.quiet_of_same (Cut_any _ _ _ (by decide))))
  have HCd := HC nq
  clear HC
  generalize (w.alloc (.cells (askC 7 A B S P xa xn xc af) 37)).drewN nq = wc at HCd ⊢
  have HCd : Hid (Cutd w B0 l most ts F a n c 7 A B S P xa xn xc af w.heap.size wc) := HCd
  have x0 := HCd.out.box.cell 0 _ rfl
  have x1 := HCd.out.box.cell 1 _ rfl
  have x2 := HCd.out.box.cell 2 _ rfl
  have x6 := HCd.out.box.cell 6 _ rfl
  clear h3 h4 h0
  generalize cutB S 5000 = s at hs5 hs ⊢
  generalize cutB P 50 = p
  have HIn := InsertQ_long l p s af wc hs (by omega)
  have hs1 : (4096 : Int) < s.size := by omega
  go_wp2_with fail
  refine HIn.mono ?_
  rintro e wc ⟨rfl, rfl⟩
  go_wp2
  go_ret2
  exact ⟨F, _, _, _, rfl, HCd.out.ql, Left.of_below HCd.out.bel F, HCd.out.row, Fresh.refl _ _⟩

set_option maxRecDepth 100000 in
set_option maxHeartbeats 800000 in
theorem do7_none (hs : (cutB S 5000).size ≤ 4096) (hp : ∀ t ∈ ts, t ≠ cutB P 50) (hf : fst ts (cutB P 50) = -1) (hc : ts.length ≤ 900000) :
    Calls Try.prog 18 #[ptr l, .slice a n c, .agg (askC 7 A B S P xa xn xc af)] w fun e w' => QDid w B0 l most F a (ts) e w' := by
  have HC := fun nq => cutd w B0 l most ts F hQ a n c hR A B S P xa xn xc af 7 nq
  have HX0 : Hid (Bx (w.alloc (.cells (askC 7 A B S P xa xn xc af) 37)) F w.heap.size 7 A B S P xa xn xc af) := Bx.new hQ 7 A B S P xa xn xc af
  have HL : Hid (ts.length = n) := hR.len
  have hn : n ≤ 900000 := by have := hR.len; omega
  have h3 := HX0.out.cell 3 _ rfl
  have h4 := HX0.out.cell 4 _ rfl
  have h0 := HX0.out.cell 0 _ rfl
  clear hQ hR 
  go_enter Try.func18, Try.ntmps18
  go_upto_region 3 with fail
  go_quiet ((go_at_call 10; exact Calls.quiet_of_same (Cut_any _ _ _ (by decide))))
  have HCd := HC nq
  clear HC
  generalize (w.alloc (.cells (askC 7 A B S P xa xn xc af) 37)).drewN nq = wc at HCd ⊢
  have HCd : Hid (Cutd w B0 l most ts F a n c 7 A B S P xa xn xc af w.heap.size wc) := HCd
  have x0 := HCd.out.box.cell 0 _ rfl
  have x1 := HCd.out.box.cell 1 _ rfl
  have x2 := HCd.out.box.cell 2 _ rfl
  have x6 := HCd.out.box.cell 6 _ rfl
  clear h3 h4 h0
  have HIn := QIns_none wc B0 l most ts F HCd.out.ql (cutB P 50) (cutB S 5000) af hs hp
  have HAt := fun w (h : RdS w a n ts) => AtR_any a n c ts (cutB P 50) w h (by omega)
  rw [hf] at HAt
  generalize cutB S 5000 = s at hs HIn ⊢
  generalize cutB P 50 = p at HIn HAt ⊢
  have hs1 : ¬ ((4096 : Int) < s.size) := by omega
  clear hp hf
  go_wp2_with fail
  refine HIn.mono ?_
  rintro e w1 ⟨rfl, hb⟩
  have HB1 : Hid (Below w.heap.size w w1) := HCd.out.bel.trans (hb.mono HCd.out.bel.size)
  have HR1 : Hid (Row w1 F a n c ts) := HCd.out.row.keep hb
  have HQ1 : Hid (QL w1 B0 l most ts F) := HCd.out.ql.keep hb
  clear hb HIn
  have HAt := HAt w1 HR1.out.rl.rd
  go_wp2_with fail
  refine HAt.mono ?_
  rintro e w1 ⟨rfl, rfl⟩
  go_wp2
  go_ret2
  exact ⟨F, _, _, _, rfl, HQ1.out, Left.of_below HB1.out F, HR1.out, Fresh.refl _ _⟩

set_option maxRecDepth 100000 in
set_option maxHeartbeats 800000 in
theorem do8_any (hI : I64 A) (hc : ts.length ≤ 900000) :
    Calls Try.prog 18 #[ptr l, .slice a n c, .agg (askC 8 A B S P xa xn xc af)] w fun e w' => QDid w B0 l most F a (rmv ts (cutB P 50) A) e w' := by
  have HC := fun nq => cutd w B0 l most ts F hQ a n c hR A B S P xa xn xc af 8 nq
  have HX0 : Hid (Bx (w.alloc (.cells (askC 8 A B S P xa xn xc af) 37)) F w.heap.size 8 A B S P xa xn xc af) := Bx.new hQ 8 A B S P xa xn xc af
  have HL : Hid (ts.length = n) := hR.len
  have hn : n ≤ 900000 := by have := hR.len; omega
  have HI : Hid (I64 A) := hI
  have h3 := HX0.out.cell 3 _ rfl
  have h4 := HX0.out.cell 4 _ rfl
  have h0 := HX0.out.cell 0 _ rfl
  clear hQ hR hI
  go_enter Try.func18, Try.ntmps18
  go_upto_region 3 with fail
  go_quiet ((go_at_call 10; exact Calls.quiet_of_same (Cut_any _ _ _ (by decide))))
  have HCd := HC nq
  clear HC
  generalize (w.alloc (.cells (askC 8 A B S P xa xn xc af) 37)).drewN nq = wc at HCd ⊢
  have HCd : Hid (Cutd w B0 l most ts F a n c 8 A B S P xa xn xc af w.heap.size wc) := HCd
  have x0 := HCd.out.box.cell 0 _ rfl
  have x1 := HCd.out.box.cell 1 _ rfl
  have x2 := HCd.out.box.cell 2 _ rfl
  have x6 := HCd.out.box.cell 6 _ rfl
  clear h3 h4 h0
  obtain ⟨p, hpp⟩ : ∃ p, cutB P 50 = p := ⟨_, rfl⟩
  have HPp : Hid (cutB P 50 = p) := hpp
  rw [hpp]
  clear hpp
  have HRd := Removed_any a n c ts p A wc HCd.out.row.rl.rd (by omega) HI.out
  obtain ⟨d, hd⟩ : ∃ d, ts.length - (rmv ts p A).length = d := ⟨_, rfl⟩
  have HD : Hid (ts.length - (rmv ts p A).length = d) := hd
  rw [hd] at HRd
  clear hd
  go_wp2_with fail
  refine HRd.mono ?_
  rintro e w1 ⟨hb, a2, n2, c2, rfl, hO2⟩
  have HB1 : Hid (Below w.heap.size w w1) := HCd.out.bel.trans (hb.mono HCd.out.bel.size)
  have HR1 : Hid (Row w1 F a n c ts) := HCd.out.row.keep hb
  have HQ1 : Hid (QL w1 B0 l most ts F) := HCd.out.ql.keep hb
  have y1 := (HCd.out.box.keep hb).cell 1 _ rfl
  have hRo := OwnS.row0 (F := F) (w := wc) hO2 (Nat.le_refl _) (fun j hj => (HCd.out.ql.blocks j hj).2) a
  have HRo : Hid (Row w1 F a2 n2 c2 (rmv ts p A)) := hRo.1
  have HFr : Hid (Fresh wc a a2) := hRo.2
  have HRm := QRemove w1 B0 l most ts F HQ1.out (by omega) p A HI.out
  rw [HD.out] at HRm
  clear hb hO2 hRo HRd
  go_wp2_with fail
  refine HRm.mono ?_
  rintro e w2 ⟨rfl, F9, hQ9, hL9⟩
  have HQ9 : Hid (QL w2 B0 l most (rmv ts p A) F9) := hQ9
  have HL9 : Hid (Left w1 w2 F F9) := hL9
  clear hQ9 hL9 HRm
  go_wp2
  go_ret2
  rw [HPp.out]
  exact ⟨F9, _, _, _, rfl, HQ9.out, (Left.of_below HB1.out F).trans HL9.out, HRo.out.left HL9.out, HFr.out.back HCd.out.bel.size⟩

set_option maxRecDepth 100000 in
set_option maxHeartbeats 800000 in
theorem do10_any (kind : Int) (hkd : 5 < kind ∧ kind ≠ 6 ∧ kind ≠ 7 ∧ kind ≠ 8 ∧ kind ≠ 9) (hI : I64 A) (hJ : I64 B) (hc : ts.length ≤ 900000) :
    Calls Try.prog 18 #[ptr l, .slice a n c, .agg (askC kind A B S P xa xn xc af)] w fun e w' => QDid w B0 l most F a (spn ts A B) e w' := by
  have HC := fun nq => cutd w B0 l most ts F hQ a n c hR A B S P xa xn xc af kind nq
  have HX0 : Hid (Bx (w.alloc (.cells (askC kind A B S P xa xn xc af) 37)) F w.heap.size kind A B S P xa xn xc af) := Bx.new hQ kind A B S P xa xn xc af
  have HL : Hid (ts.length = n) := hR.len
  have hn : n ≤ 900000 := by have := hR.len; omega
  have HI : Hid (I64 A) := hI
  have HJ : Hid (I64 B) := hJ
  obtain ⟨k5, k6, k7, k8, k9⟩ := hkd
  have k4 : ¬ (kind < 5) := by omega
  have k5' : (kind == 5) = false := by simpa using (show ¬ kind = 5 by omega)
  have k6' : (kind == 6) = false := by simpa using k6
  have k7' : (kind == 7) = false := by simpa using k7
  have k8' : (kind == 8) = false := by simpa using k8
  have k9' : (kind == 9) = false := by simpa using k9
  have HTr := fun wc (h : QL wc B0 l most ts F) => QTrim wc B0 l most ts F h (by omega) A B hI hJ
  have HSp := fun wc => Span_any n A B wc hI hJ (by omega)
  obtain ⟨e1, e2⟩ := sp_le n A B
  have hspn : spn ts A B = (ts.take (spT n A B)).drop (spF n A B) := by unfold spn; rw [HL.out]
  rw [hspn] at HTr ⊢
  clear hspn
  generalize spF n A B = x at *
  generalize spT n A B = y at *
  have h3 := HX0.out.cell 3 _ rfl
  have h4 := HX0.out.cell 4 _ rfl
  have h0 := HX0.out.cell 0 _ rfl
  clear hQ hR hI hJ
  go_enter Try.func18, Try.ntmps18
  go_upto_region 3 with fail
  go_quiet ((go_at_call 10; exact Calls.quiet_of_same (Cut_any _ _ _ (by decide))))
  have HCd := HC nq
  clear HC
  generalize (w.alloc (.cells (askC kind A B S P xa xn xc af) 37)).drewN nq = wc at HCd ⊢
  have HCd : Hid (Cutd w B0 l most ts F a n c kind A B S P xa xn xc af w.heap.size wc) := HCd
  have x0 := HCd.out.box.cell 0 _ rfl
  have x1 := HCd.out.box.cell 1 _ rfl
  have x2 := HCd.out.box.cell 2 _ rfl
  have x6 := HCd.out.box.cell 6 _ rfl
  clear h3 h4 h0
  go_wp2_with fail
  refine (HSp wc).mono ?_
  rintro e wc ⟨rfl, rfl⟩
  go_wp2_with fail
  refine (HTr wc HCd.out.ql).mono ?_
  rintro e w2 ⟨rfl, F9, hQ9, hL9⟩
  have HQ9 : Hid (QL w2 B0 l most ((ts.take y).drop x) F9) := hQ9
  have HL9 : Hid (Left wc w2 F F9) := hL9
  have HR2 : Hid (Row w2 F9 a n c ts) := HCd.out.row.left hL9
  obtain ⟨a4, c4, s4, hR4, hF4⟩ := HR2.out.slice_lh x y e1 e2
  have HR4 : Hid (Row w2 F9 a4 (y - x) c4 ((ts.take y).drop x)) := hR4
  have HF4 : Hid (Fresh w2 a a4) := hF4
  clear hQ9 hL9 HTr hR4 hF4
  go_wp2
  go_ret2
  exact ⟨F9, _, _, _, rfl, HQ9.out, (Left.of_below HCd.out.bel F).trans HL9.out, HR4.out, HF4.out.back (Nat.le_trans HCd.out.bel.size HL9.out.stay.size)⟩
end
end Go.Proofs.Ytemiajjjhhofaab

namespace Go.Proofs.Ytemiajjjhhofaab
open Go.RowKit Go.PlainAid

theorem lt_alloc (w : World) (vs : Array Value) (t : TypeId) : w.heap.size < (w.alloc (.cells vs t)).heap.size := (Array.getElem?_eq_some_iff.1 (heap_alloc_new w (.cells vs t))).1
theorem own_ne {g k n c : Nat} (h : g ≠ k) : (Value.slice (some ⟨g, 0, none⟩) n c).ownBlock ≠ some k := fun e => h (Option.some.inj e)
theorem rd1 {w : World} {h : Nat} {s : ByteArray} (hh : w.heap[h]? = some (.cells #[.string s] 9 (0, 0))) : RdL w (some ⟨h, 0, none⟩) 1 1 [s] := by
  refine ⟨⟨rfl, by decide, fun j hj => ⟨h, 0, rfl, ?_⟩⟩, by omega, by decide, fun e => by cases e⟩
  have : j = 0 := by omega
  subst this
  simp [World.cell?, hh]
theorem run_append_strsK (w : World) (B : Nat) (a : Option Addr) (n cap : Nat) (ls : List ByteArray) (hown : OwnS w B a n cap ls) (a' : Option Addr) (n' cap' : Nat) (rs : List ByteArray) (hr : RdL w a' n' cap' rs) (hb : n + n' ≤ 1000000) (hB : B ≤ w.heap.size) (ty : TypeId) :
    ∃ a2 c2 w2, (Builtin.append_ #[22, 22] ty #[.slice a n cap, .slice a' n' cap']).run Try.prog w = .ok (.slice a2 (n + n') c2) w2 ∧ OwnS w2 B a2 (n + n') c2 (ls ++ rs) ∧ Below B w w2 ∧ (∀ k, k < w.heap.size → (Value.slice a n cap).ownBlock ≠ some k → w2.heap[k]? = w.heap[k]?) := by
  obtain ⟨i0, hi, hz0, hz1, hz2⟩ := info_parts Try.info9
  have hblk : ∀ k, (Value.slice a n cap).ownBlock = some k → B ≤ k := fun k hk => (hown.lt k hk).1
  cases a' with
  | none =>
    have hrl := hr.rd.len
    have hc0 := hr.nul rfl
    have hf := hr.fit
    have hn0 : n' = 0 := by omega
    subst hn0
    subst hc0
    have hr0 : rs = [] := List.length_eq_zero_iff.1 hrl
    subst hr0
    refine ⟨a, cap, w, ?_, by rw [List.append_nil]; exact hown, Below.refl _ _, fun _ _ _ => rfl⟩
    have := run_append_owned_none (P := Try.prog) w B 22 ty 9 i0 1 Try.underlying22 hi (.slice a n cap) n (ls.map Value.string) hown
    exact this
  | some ad =>
    have hrun := run_append_own (P := Try.prog) w B 22 ty 9 i0 (.string ⟨#[]⟩) 1 16 Try.underlying22 hi hz0 hz1 hz2 rfl (by decide) (.slice a n cap) n (ls.map Value.string) hown ad n' cap' (rs.map Value.string) (by rw [List.length_map, hr.rd.len]; omega) (fun j u hu => by
      rw [List.getElem?_map] at hu
      have hj : j < rs.length := by
        rcases Nat.lt_or_ge j rs.length with h | h
        · exact h
        · rw [List.getElem?_eq_none h] at hu; cases hu
      obtain ⟨b, off, e, hc⟩ := hr.rd.cell j (by rw [← hr.rd.len]; exact hj)
      cases e
      rw [add_flat, hc, List.getD_eq_getElem?_getD]
      rw [List.getElem?_eq_getElem hj] at hu ⊢
      exact hu) (by simp [Value.oneCell']) (by unfold maxLen; omega) (by omega) hB
    obtain ⟨v', w', h1, h2, h3, -⟩ := hrun
    rw [← List.map_append] at h2
    have hbel : Below B w w' := (Below.refl B w).grown h3 hB hblk
    have hkp : ∀ k, k < w.heap.size → (Value.slice a n cap).ownBlock ≠ some k → w'.heap[k]? = w.heap[k]? := fun k hk hne => h3.block k hk (fun e => hne e.symm)
    rcases h2.2 with ⟨rfl, h4⟩ | ⟨g, c, cur, rfl, h4⟩
    · refine ⟨none, 0, w', by rw [h1, h4], ?_, hbel, hkp⟩
      rw [h4] at h2 ⊢
      exact h2
    · exact ⟨_, _, w', h1, h2, hbel, hkp⟩
theorem step_append_strsK {w : World} {ops : Array Oper} {o : Oper} {ac : Act} {K : Act → World → Prop} {Q : Exit → Act → World → Prop} {E : Prop} (hgd : o.guard = none) (s x : Operand) (ho : o.op = .call { callee := .builtin .append, args := #[s, x], argTypes := #[22, 22] })
    (B : Nat) {a : Option Addr} {n cap : Nat} {ls : List ByteArray} (hs : ac.eval s = .slice a n cap) (hown : OwnS w B a n cap ls)
    {a' : Option Addr} {n' cap' : Nat} {rs : List ByteArray} (hx : ac.eval x = .slice a' n' cap') (hr : RdL w a' n' cap' rs) (hb : n + n' ≤ 1000000) (hB : B ≤ w.heap.size)
    (h : ∀ a2 n2 c2 w2, n2 = n + n' → Hid (OwnS w2 B a2 n2 c2 (ls ++ rs)) → Hid (Below B w w2) → Hid (∀ k, k < w.heap.size → (Value.slice a n cap).ownBlock ≠ some k → w2.heap[k]? = w.heap[k]?) → K (ac.put o.dst (.slice a2 n2 c2)) w2) : if Region.wanted o (yielded ops ac.tmps) = true then Oper.wp Try.prog o ac w K Q else E := by
  have hw : Region.wanted o (yielded ops ac.tmps) = true := by simp [Region.wanted, hgd]
  rw [if_pos hw]
  obtain ⟨a2, c2, w2, h1, h2, h3, h4⟩ := run_append_strsK w B a n cap ls hown a' n' cap' rs hr hb hB o.type
  unfold Oper.wp
  simp [execOp, ho, resolve, invoke, builtin, hs, hx, h1, Result.andThen]
  exact h a2 _ c2 w2 rfl h2 h3 h4

section
variable (w : World) (B0 l most : Nat) (ts : List ByteArray) (F : List Nat) (hQ : QL w B0 l most ts F) (a : Option Addr) (n c : Nat) (hR : Row w F a n c ts) (A B : Int) (S P : ByteArray) (xa : Option Addr) (xn xc : Nat) (af : Bool)
include hQ hR

set_option maxRecDepth 100000 in
set_option maxHeartbeats 4000000 in
theorem do7_t (A' C' : List ByteArray) (hs : (cutB S 5000).size ≤ 4096) (hT : ts = A' ++ cutB P 50 :: C') (hp : ∀ t ∈ A', t ≠ cutB P 50) (hf : fst ts (cutB P 50) = (A'.length : Int)) (hc : ts.length ≤ 900000) :
    Calls Try.prog 18 #[ptr l, .slice a n c, .agg (askC 7 A B S P xa xn xc true)] w fun e w' => QDid w B0 l most F a (ts.take (iat A' true) ++ ([cutB S 5000] ++ ts.drop (iat A' true))) e w' := by
  have HC := fun nq => cutd w B0 l most ts F hQ a n c hR A B S P xa xn xc true 7 nq
  have HX0 : Hid (Bx (w.alloc (.cells (askC 7 A B S P xa xn xc true) 37)) F w.heap.size 7 A B S P xa xn xc true) := Bx.new hQ 7 A B S P xa xn xc true
  have HL : Hid (ts.length = n) := hR.len
  have hn : n ≤ 900000 := by have := hR.len; omega
  have h3 := HX0.out.cell 3 _ rfl
  have h4 := HX0.out.cell 4 _ rfl
  have h0 := HX0.out.cell 0 _ rfl
  clear hQ hR 
  go_enter Try.func18, Try.ntmps18
  go_upto_region 3 with fail
  go_quiet ((go_at_call 10; exact Calls.quiet_of_same (Cut_any _ _ _ (by decide))))
  have HCd := HC nq
  clear HC
  generalize (w.alloc (.cells (askC 7 A B S P xa xn xc true) 37)).drewN nq = wc at HCd ⊢
  have HCd : Hid (Cutd w B0 l most ts F a n c 7 A B S P xa xn xc true w.heap.size wc) := HCd
  have x0 := HCd.out.box.cell 0 _ rfl
  have x1 := HCd.out.box.cell 1 _ rfl
  have x2 := HCd.out.box.cell 2 _ rfl
  have x6 := HCd.out.box.cell 6 _ rfl
  clear h3 h4 h0
  have HIn := QIns_some wc B0 l most ts F HCd.out.ql (by omega) (cutB P 50) (cutB S 5000) true A' C' hs hT hp
  have HAt := fun w (h : RdS w a n ts) => AtR_any a n c ts (cutB P 50) w h (by omega)
  rw [hf] at HAt
  obtain ⟨k0, hk0⟩ : ∃ k0, A'.length = k0 := ⟨_, rfl⟩
  have HJ : Hid (iat A' true = k0 + 1) := by show _ = _; rw [← hk0]; rfl
  rw [hk0] at HAt
  rw [HJ.out, HL.out] at HIn
  have hkn : k0 + 1 ≤ n := by
    have h1 := HL.out
    rw [hT, List.length_append, List.length_cons] at h1
    omega
  obtain ⟨s, hss⟩ : ∃ s, cutB S 5000 = s := ⟨_, rfl⟩
  have HSs : Hid (cutB S 5000 = s) := hss
  rw [hss] at hs HIn ⊢
  generalize cutB P 50 = p at HIn HAt ⊢
  have hs1 : ¬ ((4096 : Int) < s.size) := by omega
  have hk00 : ¬ ((k0 : Int) < 0) := by omega
  clear hp hf hss hk0 hT
  go_wp2_with fail
  refine HIn.mono ?_
  rintro e w1 ⟨rfl, F9, hQ9, hL9⟩
  have HQ9 : Hid (QL w1 B0 l most (ts.take (k0 + 1) ++ ([s] ++ ts.drop (k0 + 1))) F9) := hQ9
  have HL9 : Hid (Left wc w1 F F9) := hL9
  have HR1 : Hid (Row w1 F9 a n c ts) := HCd.out.row.left hL9
  have y6 := (HCd.out.box.left hL9).cell 6 _ rfl
  have HAt := HAt w1 HR1.out.rl.rd
  clear hQ9 hL9 HIn
  go_wp2_with fail
  refine HAt.mono ?_
  rintro e w1 ⟨rfl, rfl⟩
  obtain ⟨a4, c4, s4', hR4, -⟩ := HR1.out.slice_h (k0 + 1) (by omega)
  obtain ⟨a5, c5, s5', hR5, -⟩ := HR1.out.slice_l (k0 + 1) (by omega)
  have s4 : ∀ wx, (Instr.sliceAt 22 (.slice a n c) none (some (.int .i64 ((k0 : Int) + 1))) none).run Try.prog wx = .ok (.slice a4 (k0 + 1) c4) wx := s4'
  have s5 : ∀ wx, (Instr.sliceAt 22 (.slice a n c) (some (.int .i64 ((k0 : Int) + 1))) none none).run Try.prog wx = .ok (.slice a5 (n - (k0 + 1)) c5) wx := s5'
  have HR4 : Hid (RdL w1 a4 (k0 + 1) c4 (ts.take (k0 + 1))) := hR4.rl
  have HR5 : Hid (RdL w1 a5 (n - (k0 + 1)) c5 (ts.drop (k0 + 1))) := hR5.rl
  clear hR4 hR5 s4' s5' HAt
  go_upto_region 26 with fail
  go_cut [1] from 152 to 163 (fun v wx => ∃ a6 n6 c6, v = .slice a6 n6 c6 ∧ n6 = n + 1 ∧ Hid (OwnS wx w1.heap.size a6 n6 c6 (ts.take (k0 + 1) ++ ([s] ++ ts.drop (k0 + 1)))) ∧ Hid (Below w1.heap.size w1 wx))
  case first =>
    have bA := (alloc_below w1 (.cells #[] 9)).drew
    have bB := ((alloc_below w1 (.cells #[] 9)).trans ((alloc_below (w1.alloc (.cells #[] 9)) (.cells #[.string s] 9)).mono (alloc_below w1 (.cells #[] 9)).size)).drew
    have bC := ((alloc_below w1 (.cells #[.string s] 9)).trans ((alloc_below (w1.alloc (.cells #[.string s] 9)) (.cells #[] 9)).mono (alloc_below w1 (.cells #[.string s] 9)).size)).drew
    have HBA : Hid (Below w1.heap.size w1 (w1.alloc (.cells #[] 9)).drew) := bA
    have HBB : Hid (Below w1.heap.size w1 ((w1.alloc (.cells #[] 9)).alloc (.cells #[.string s] 9)).drew) := bB
    have HBC : Hid (Below w1.heap.size w1 ((w1.alloc (.cells #[.string s] 9)).alloc (.cells #[] 9)).drew) := bC
    have HOA : Hid (OwnS (w1.alloc (.cells #[] 9)).drew w1.heap.size (some ⟨w1.heap.size, 0, none⟩) 0 0 []) := OwnS.made w1 [] w1.heap.size 0 rfl (Nat.le_refl _) (by decide) _ rfl
    have HOB : Hid (OwnS ((w1.alloc (.cells #[] 9)).alloc (.cells #[.string s] 9)).drew w1.heap.size (some ⟨w1.heap.size, 0, none⟩) 0 0 []) := (OwnS.made w1 [] w1.heap.size 0 rfl (Nat.le_refl _) (by decide) _ rfl).keep (alloc_below (w1.alloc (.cells #[] 9)) (.cells #[.string s] 9)).drew
    have HOC : Hid (OwnS ((w1.alloc (.cells #[.string s] 9)).alloc (.cells #[] 9)).drew w1.heap.size (some ⟨(w1.alloc (.cells #[.string s] 9)).heap.size, 0, none⟩) 0 0 []) := OwnS.made (w1.alloc (.cells #[.string s] 9)) [] w1.heap.size 0 rfl (alloc_below w1 (.cells #[.string s] 9)).size (by decide) _ rfl
    have HZB : Hid (((w1.alloc (.cells #[] 9)).alloc (.cells #[.string s] 9)).drew.heap[(w1.alloc (.cells #[] 9)).heap.size]? = some (.cells #[.string s] 9 (0, 0))) := heap_alloc_new (w1.alloc (.cells #[] 9)) _
    have HZC : Hid (((w1.alloc (.cells #[.string s] 9)).alloc (.cells #[] 9)).drew.heap[w1.heap.size]? = some (.cells #[.string s] 9 (0, 0))) := by
      show _ = _
      rw [(alloc_below (w1.alloc (.cells #[.string s] 9)) (.cells #[] 9)).drew.block w1.heap.size (lt_alloc w1 _ _)]
      exact heap_alloc_new w1 _
    have HRA : Hid (RdL (w1.alloc (.cells #[] 9)).drew a4 (k0 + 1) c4 (ts.take (k0 + 1))) := HR4.out.keep bA
    have HRB : Hid (RdL ((w1.alloc (.cells #[] 9)).alloc (.cells #[.string s] 9)).drew a4 (k0 + 1) c4 (ts.take (k0 + 1))) := HR4.out.keep bB
    have HRC : Hid (RdL ((w1.alloc (.cells #[.string s] 9)).alloc (.cells #[] 9)).drew a4 (k0 + 1) c4 (ts.take (k0 + 1))) := HR4.out.keep bC
    have HN1 : Hid (0 + (k0 + 1) ≤ 1000000) := by show _ ≤ _; omega
    clear bA bB bC
    go_region_law (first
      | (refine step_append_strsK rfl (.tmp 152) (.tmp 155) rfl w1.heap.size (by simp [Act.eval] <;> rfl) HOA.out (by simp [Act.eval] <;> rfl) HRA.out HN1.out HBA.out.size ?_; intro a7 n7 c7 w7 hn7 HO7 HB7 HK7; have HE7 : Hid (n7 = 0 + (k0 + 1)) := hn7; have HBx : Hid (Below w1.heap.size w1 w7) := HBA.out.trans HB7.out; have HBy : Hid (Below w1.heap.size w1 (w7.alloc (.cells #[.string s] 9))) := HBx.out.trans ((alloc_below w7 _).mono HBx.out.size); have HO7y : Hid (OwnS (w7.alloc (.cells #[.string s] 9)) w1.heap.size a7 n7 c7 ([] ++ ts.take (k0 + 1))) := HO7.out.keep (alloc_below w7 _); have HI7 : Hid (RdL (w7.alloc (.cells #[.string s] 9)) (some ⟨w7.heap.size, 0, none⟩) 1 1 [s]) := rd1 (heap_alloc_new w7 _); have HN7 : Hid (n7 + 1 ≤ 1000000) := (by show _ ≤ _; omega); clear hn7 HB7 HK7 HO7)
      | (refine step_append_strsK rfl (.tmp 152) (.tmp 155) rfl w1.heap.size (by simp [Act.eval] <;> rfl) HOB.out (by simp [Act.eval] <;> rfl) HRB.out HN1.out HBB.out.size ?_; intro a7 n7 c7 w7 hn7 HO7 HB7 HK7; have HE7 : Hid (n7 = 0 + (k0 + 1)) := hn7; have HBy : Hid (Below w1.heap.size w1 w7) := HBB.out.trans HB7.out; have HO7y : Hid (OwnS w7 w1.heap.size a7 n7 c7 ([] ++ ts.take (k0 + 1))) := HO7.out; have HI7 : Hid (RdL w7 (some ⟨(w1.alloc (.cells #[] 9)).heap.size, 0, none⟩) 1 1 [s]) := rd1 (by rw [HK7.out _ (lt_alloc (w1.alloc (.cells #[] 9)) _ _) (own_ne (Nat.ne_of_lt (lt_alloc w1 _ _)))]; exact HZB.out); have HN7 : Hid (n7 + 1 ≤ 1000000) := (by show _ ≤ _; omega); clear hn7 HB7 HK7 HO7)
      | (refine step_append_strsK rfl (.tmp 152) (.tmp 155) rfl w1.heap.size (by simp [Act.eval] <;> rfl) HOC.out (by simp [Act.eval] <;> rfl) HRC.out HN1.out HBC.out.size ?_; intro a7 n7 c7 w7 hn7 HO7 HB7 HK7; have HE7 : Hid (n7 = 0 + (k0 + 1)) := hn7; have HBy : Hid (Below w1.heap.size w1 w7) := HBC.out.trans HB7.out; have HO7y : Hid (OwnS w7 w1.heap.size a7 n7 c7 ([] ++ ts.take (k0 + 1))) := HO7.out; have HI7 : Hid (RdL w7 (some ⟨w1.heap.size, 0, none⟩) 1 1 [s]) := rd1 (by rw [HK7.out _ (Nat.lt_trans (lt_alloc w1 _ _) (lt_alloc (w1.alloc (.cells #[.string s] 9)) _ _)) (own_ne (Nat.ne_of_gt (lt_alloc w1 _ _)))]; exact HZC.out); have HN7 : Hid (n7 + 1 ≤ 1000000) := (by show _ ≤ _; omega); clear hn7 HB7 HK7 HO7)
      | (refine step_append_strs rfl (.tmp 156) (.tmp 158) rfl w1.heap.size (by simp [Act.eval] <;> rfl) HO7y.out (by simp [Act.eval] <;> rfl) HI7.out HN7.out HBy.out.size ?_; intro a8 n8 c8 w8 hn8 HO8 HB8; have HE8 : Hid (n8 = n7 + 1) := hn8; have HBu : Hid (Below w1.heap.size w1 w8) := HBy.out.trans HB8.out; have HI8 : Hid (RdL w8 a5 (n - (k0 + 1)) c5 (ts.drop (k0 + 1))) := HR5.out.keep HBu.out; have HN8 : Hid (n8 + (n - (k0 + 1)) ≤ 1000000) := (by have := HE7.out; show _ ≤ _; omega); clear hn8 HB8)
      | (refine step_append_strs rfl (.tmp 159) (.tmp 162) rfl w1.heap.size (by simp [Act.eval] <;> rfl) HO8.out (by simp [Act.eval] <;> rfl) HI8.out HN8.out HBu.out.size ?_; intro a9 n9 c9 w9 hn9 HO9 HB9; have HE9 : Hid (n9 = n + 1) := (by have := HE7.out; have := HE8.out; show _ = _; omega); have HBz : Hid (Below w1.heap.size w1 w9) := HBu.out.trans HB9.out; have HOz : Hid (OwnS w9 w1.heap.size a9 n9 c9 (ts.take (k0 + 1) ++ ([s] ++ ts.drop (k0 + 1)))) := (by have := HO9.out; rw [List.nil_append, List.append_assoc] at this; exact this); clear hn9 HB9))
    all_goals (go_wp2; go_meet; exact ⟨_, _, _, rfl, HE9.out, HOz, HBz⟩)
  case rest =>
  obtain ⟨a6, n6, c6, rfl, rfl, HO6, HB6⟩ := hcut
  have HQz : Hid (QL _ B0 l most (ts.take (k0 + 1) ++ ([s] ++ ts.drop (k0 + 1))) F9) := HQ9.out.keep HB6.out
  go_wp2
  go_ret2
  rw [HSs.out, HJ.out]
  have hRo := OwnS.row0 (F := F9) (w := w1) HO6.out (Nat.le_refl _) (fun j hj => (HQ9.out.blocks j hj).2) a
  exact ⟨F9, _, _, _, rfl, HQz.out, ((Left.of_below HCd.out.bel F).trans HL9.out).trans (Left.of_below HB6.out F9), hRo.1, hRo.2.back (Nat.le_trans HCd.out.bel.size HL9.out.stay.size)⟩

set_option maxRecDepth 100000 in
set_option maxHeartbeats 4000000 in
theorem do7_f (A' C' : List ByteArray) (hs : (cutB S 5000).size ≤ 4096) (hT : ts = A' ++ cutB P 50 :: C') (hp : ∀ t ∈ A', t ≠ cutB P 50) (hf : fst ts (cutB P 50) = (A'.length : Int)) (hc : ts.length ≤ 900000) :
    Calls Try.prog 18 #[ptr l, .slice a n c, .agg (askC 7 A B S P xa xn xc false)] w fun e w' => QDid w B0 l most F a (ts.take (iat A' false) ++ ([cutB S 5000] ++ ts.drop (iat A' false))) e w' := by
  have HC := fun nq => cutd w B0 l most ts F hQ a n c hR A B S P xa xn xc false 7 nq
  have HX0 : Hid (Bx (w.alloc (.cells (askC 7 A B S P xa xn xc false) 37)) F w.heap.size 7 A B S P xa xn xc false) := Bx.new hQ 7 A B S P xa xn xc false
  have HL : Hid (ts.length = n) := hR.len
  have hn : n ≤ 900000 := by have := hR.len; omega
  have h3 := HX0.out.cell 3 _ rfl
  have h4 := HX0.out.cell 4 _ rfl
  have h0 := HX0.out.cell 0 _ rfl
  clear hQ hR 
  go_enter Try.func18, Try.ntmps18
  go_upto_region 3 with fail
  go_quiet ((go_at_call 10; exact Calls.quiet_of_same (Cut_any _ _ _ (by decide))))
  have HCd := HC nq
  clear HC
  generalize (w.alloc (.cells (askC 7 A B S P xa xn xc false) 37)).drewN nq = wc at HCd ⊢
  have HCd : Hid (Cutd w B0 l most ts F a n c 7 A B S P xa xn xc false w.heap.size wc) := HCd
  have x0 := HCd.out.box.cell 0 _ rfl
  have x1 := HCd.out.box.cell 1 _ rfl
  have x2 := HCd.out.box.cell 2 _ rfl
  have x6 := HCd.out.box.cell 6 _ rfl
  clear h3 h4 h0
  have HIn := QIns_some wc B0 l most ts F HCd.out.ql (by omega) (cutB P 50) (cutB S 5000) false A' C' hs hT hp
  have HAt := fun w (h : RdS w a n ts) => AtR_any a n c ts (cutB P 50) w h (by omega)
  rw [hf] at HAt
  obtain ⟨k0, hk0⟩ : ∃ k0, A'.length = k0 := ⟨_, rfl⟩
  have HJ : Hid (iat A' false = k0) := by show _ = _; rw [← hk0]; rfl
  rw [hk0] at HAt
  rw [HJ.out, HL.out] at HIn
  have hkn : k0 + 1 ≤ n := by
    have h1 := HL.out
    rw [hT, List.length_append, List.length_cons] at h1
    omega
  obtain ⟨s, hss⟩ : ∃ s, cutB S 5000 = s := ⟨_, rfl⟩
  have HSs : Hid (cutB S 5000 = s) := hss
  rw [hss] at hs HIn ⊢
  generalize cutB P 50 = p at HIn HAt ⊢
  have hs1 : ¬ ((4096 : Int) < s.size) := by omega
  have hk00 : ¬ ((k0 : Int) < 0) := by omega
  clear hp hf hss hk0 hT
  go_wp2_with fail
  refine HIn.mono ?_
  rintro e w1 ⟨rfl, F9, hQ9, hL9⟩
  have HQ9 : Hid (QL w1 B0 l most (ts.take (k0) ++ ([s] ++ ts.drop (k0))) F9) := hQ9
  have HL9 : Hid (Left wc w1 F F9) := hL9
  have HR1 : Hid (Row w1 F9 a n c ts) := HCd.out.row.left hL9
  have y6 := (HCd.out.box.left hL9).cell 6 _ rfl
  have HAt := HAt w1 HR1.out.rl.rd
  clear hQ9 hL9 HIn
  go_wp2_with fail
  refine HAt.mono ?_
  rintro e w1 ⟨rfl, rfl⟩
  obtain ⟨a4, c4, s4', hR4, -⟩ := HR1.out.slice_h (k0) (by omega)
  obtain ⟨a5, c5, s5', hR5, -⟩ := HR1.out.slice_l (k0) (by omega)
  have s4 : ∀ wx, (Instr.sliceAt 22 (.slice a n c) none (some (.int .i64 ((k0 : Int)))) none).run Try.prog wx = .ok (.slice a4 (k0) c4) wx := s4'
  have s5 : ∀ wx, (Instr.sliceAt 22 (.slice a n c) (some (.int .i64 ((k0 : Int)))) none none).run Try.prog wx = .ok (.slice a5 (n - (k0)) c5) wx := s5'
  have HR4 : Hid (RdL w1 a4 (k0) c4 (ts.take (k0))) := hR4.rl
  have HR5 : Hid (RdL w1 a5 (n - (k0)) c5 (ts.drop (k0))) := hR5.rl
  clear hR4 hR5 s4' s5' HAt
  go_upto_region 26 with fail
  go_cut [1] from 152 to 163 (fun v wx => ∃ a6 n6 c6, v = .slice a6 n6 c6 ∧ n6 = n + 1 ∧ Hid (OwnS wx w1.heap.size a6 n6 c6 (ts.take (k0) ++ ([s] ++ ts.drop (k0)))) ∧ Hid (Below w1.heap.size w1 wx))
  case first =>
    have bA := (alloc_below w1 (.cells #[] 9)).drew
    have bB := ((alloc_below w1 (.cells #[] 9)).trans ((alloc_below (w1.alloc (.cells #[] 9)) (.cells #[.string s] 9)).mono (alloc_below w1 (.cells #[] 9)).size)).drew
    have bC := ((alloc_below w1 (.cells #[.string s] 9)).trans ((alloc_below (w1.alloc (.cells #[.string s] 9)) (.cells #[] 9)).mono (alloc_below w1 (.cells #[.string s] 9)).size)).drew
    have HBA : Hid (Below w1.heap.size w1 (w1.alloc (.cells #[] 9)).drew) := bA
    have HBB : Hid (Below w1.heap.size w1 ((w1.alloc (.cells #[] 9)).alloc (.cells #[.string s] 9)).drew) := bB
    have HBC : Hid (Below w1.heap.size w1 ((w1.alloc (.cells #[.string s] 9)).alloc (.cells #[] 9)).drew) := bC
    have HOA : Hid (OwnS (w1.alloc (.cells #[] 9)).drew w1.heap.size (some ⟨w1.heap.size, 0, none⟩) 0 0 []) := OwnS.made w1 [] w1.heap.size 0 rfl (Nat.le_refl _) (by decide) _ rfl
    have HOB : Hid (OwnS ((w1.alloc (.cells #[] 9)).alloc (.cells #[.string s] 9)).drew w1.heap.size (some ⟨w1.heap.size, 0, none⟩) 0 0 []) := (OwnS.made w1 [] w1.heap.size 0 rfl (Nat.le_refl _) (by decide) _ rfl).keep (alloc_below (w1.alloc (.cells #[] 9)) (.cells #[.string s] 9)).drew
    have HOC : Hid (OwnS ((w1.alloc (.cells #[.string s] 9)).alloc (.cells #[] 9)).drew w1.heap.size (some ⟨(w1.alloc (.cells #[.string s] 9)).heap.size, 0, none⟩) 0 0 []) := OwnS.made (w1.alloc (.cells #[.string s] 9)) [] w1.heap.size 0 rfl (alloc_below w1 (.cells #[.string s] 9)).size (by decide) _ rfl
    have HZB : Hid (((w1.alloc (.cells #[] 9)).alloc (.cells #[.string s] 9)).drew.heap[(w1.alloc (.cells #[] 9)).heap.size]? = some (.cells #[.string s] 9 (0, 0))) := heap_alloc_new (w1.alloc (.cells #[] 9)) _
    have HZC : Hid (((w1.alloc (.cells #[.string s] 9)).alloc (.cells #[] 9)).drew.heap[w1.heap.size]? = some (.cells #[.string s] 9 (0, 0))) := by
      show _ = _
      rw [(alloc_below (w1.alloc (.cells #[.string s] 9)) (.cells #[] 9)).drew.block w1.heap.size (lt_alloc w1 _ _)]
      exact heap_alloc_new w1 _
    have HRA : Hid (RdL (w1.alloc (.cells #[] 9)).drew a4 (k0) c4 (ts.take (k0))) := HR4.out.keep bA
    have HRB : Hid (RdL ((w1.alloc (.cells #[] 9)).alloc (.cells #[.string s] 9)).drew a4 (k0) c4 (ts.take (k0))) := HR4.out.keep bB
    have HRC : Hid (RdL ((w1.alloc (.cells #[.string s] 9)).alloc (.cells #[] 9)).drew a4 (k0) c4 (ts.take (k0))) := HR4.out.keep bC
    have HN1 : Hid (0 + (k0) ≤ 1000000) := by show _ ≤ _; omega
    clear bA bB bC
    go_region_law (first
      | (refine step_append_strsK rfl (.tmp 152) (.tmp 155) rfl w1.heap.size (by simp [Act.eval] <;> rfl) HOA.out (by simp [Act.eval] <;> rfl) HRA.out HN1.out HBA.out.size ?_; intro a7 n7 c7 w7 hn7 HO7 HB7 HK7; have HE7 : Hid (n7 = 0 + (k0)) := hn7; have HBx : Hid (Below w1.heap.size w1 w7) := HBA.out.trans HB7.out; have HBy : Hid (Below w1.heap.size w1 (w7.alloc (.cells #[.string s] 9))) := HBx.out.trans ((alloc_below w7 _).mono HBx.out.size); have HO7y : Hid (OwnS (w7.alloc (.cells #[.string s] 9)) w1.heap.size a7 n7 c7 ([] ++ ts.take (k0))) := HO7.out.keep (alloc_below w7 _); have HI7 : Hid (RdL (w7.alloc (.cells #[.string s] 9)) (some ⟨w7.heap.size, 0, none⟩) 1 1 [s]) := rd1 (heap_alloc_new w7 _); have HN7 : Hid (n7 + 1 ≤ 1000000) := (by show _ ≤ _; omega); clear hn7 HB7 HK7 HO7)
      | (refine step_append_strsK rfl (.tmp 152) (.tmp 155) rfl w1.heap.size (by simp [Act.eval] <;> rfl) HOB.out (by simp [Act.eval] <;> rfl) HRB.out HN1.out HBB.out.size ?_; intro a7 n7 c7 w7 hn7 HO7 HB7 HK7; have HE7 : Hid (n7 = 0 + (k0)) := hn7; have HBy : Hid (Below w1.heap.size w1 w7) := HBB.out.trans HB7.out; have HO7y : Hid (OwnS w7 w1.heap.size a7 n7 c7 ([] ++ ts.take (k0))) := HO7.out; have HI7 : Hid (RdL w7 (some ⟨(w1.alloc (.cells #[] 9)).heap.size, 0, none⟩) 1 1 [s]) := rd1 (by rw [HK7.out _ (lt_alloc (w1.alloc (.cells #[] 9)) _ _) (own_ne (Nat.ne_of_lt (lt_alloc w1 _ _)))]; exact HZB.out); have HN7 : Hid (n7 + 1 ≤ 1000000) := (by show _ ≤ _; omega); clear hn7 HB7 HK7 HO7)
      | (refine step_append_strsK rfl (.tmp 152) (.tmp 155) rfl w1.heap.size (by simp [Act.eval] <;> rfl) HOC.out (by simp [Act.eval] <;> rfl) HRC.out HN1.out HBC.out.size ?_; intro a7 n7 c7 w7 hn7 HO7 HB7 HK7; have HE7 : Hid (n7 = 0 + (k0)) := hn7; have HBy : Hid (Below w1.heap.size w1 w7) := HBC.out.trans HB7.out; have HO7y : Hid (OwnS w7 w1.heap.size a7 n7 c7 ([] ++ ts.take (k0))) := HO7.out; have HI7 : Hid (RdL w7 (some ⟨w1.heap.size, 0, none⟩) 1 1 [s]) := rd1 (by rw [HK7.out _ (Nat.lt_trans (lt_alloc w1 _ _) (lt_alloc (w1.alloc (.cells #[.string s] 9)) _ _)) (own_ne (Nat.ne_of_gt (lt_alloc w1 _ _)))]; exact HZC.out); have HN7 : Hid (n7 + 1 ≤ 1000000) := (by show _ ≤ _; omega); clear hn7 HB7 HK7 HO7)
      | (refine step_append_strs rfl (.tmp 156) (.tmp 158) rfl w1.heap.size (by simp [Act.eval] <;> rfl) HO7y.out (by simp [Act.eval] <;> rfl) HI7.out HN7.out HBy.out.size ?_; intro a8 n8 c8 w8 hn8 HO8 HB8; have HE8 : Hid (n8 = n7 + 1) := hn8; have HBu : Hid (Below w1.heap.size w1 w8) := HBy.out.trans HB8.out; have HI8 : Hid (RdL w8 a5 (n - (k0)) c5 (ts.drop (k0))) := HR5.out.keep HBu.out; have HN8 : Hid (n8 + (n - (k0)) ≤ 1000000) := (by have := HE7.out; show _ ≤ _; omega); clear hn8 HB8)
      | (refine step_append_strs rfl (.tmp 159) (.tmp 162) rfl w1.heap.size (by simp [Act.eval] <;> rfl) HO8.out (by simp [Act.eval] <;> rfl) HI8.out HN8.out HBu.out.size ?_; intro a9 n9 c9 w9 hn9 HO9 HB9; have HE9 : Hid (n9 = n + 1) := (by have := HE7.out; have := HE8.out; show _ = _; omega); have HBz : Hid (Below w1.heap.size w1 w9) := HBu.out.trans HB9.out; have HOz : Hid (OwnS w9 w1.heap.size a9 n9 c9 (ts.take (k0) ++ ([s] ++ ts.drop (k0)))) := (by have := HO9.out; rw [List.nil_append, List.append_assoc] at this; exact this); clear hn9 HB9))
    all_goals (go_wp2; go_meet; exact ⟨_, _, _, rfl, HE9.out, HOz, HBz⟩)
  case rest =>
  obtain ⟨a6, n6, c6, rfl, rfl, HO6, HB6⟩ := hcut
  have HQz : Hid (QL _ B0 l most (ts.take (k0) ++ ([s] ++ ts.drop (k0))) F9) := HQ9.out.keep HB6.out
  go_wp2
  go_ret2
  rw [HSs.out, HJ.out]
  have hRo := OwnS.row0 (F := F9) (w := w1) HO6.out (Nat.le_refl _) (fun j hj => (HQ9.out.blocks j hj).2) a
  exact ⟨F9, _, _, _, rfl, HQz.out, ((Left.of_below HCd.out.bel F).trans HL9.out).trans (Left.of_below HB6.out F9), hRo.1, hRo.2.back (Nat.le_trans HCd.out.bel.size HL9.out.stay.size)⟩

set_option maxRecDepth 100000 in
set_option maxHeartbeats 4000000 in
theorem do9_any (hI : I64 A) (hJ : I64 B) (hc : ts.length ≤ 900000) :
    Calls Try.prog 18 #[ptr l, .slice a n c, .agg (askC 9 A B S P xa xn xc af)] w fun e w' => QDid w B0 l most F a (ts) e w' := by
  have HC := fun nq => cutd w B0 l most ts F hQ a n c hR A B S P xa xn xc af 9 nq
  have HX0 : Hid (Bx (w.alloc (.cells (askC 9 A B S P xa xn xc af) 37)) F w.heap.size 9 A B S P xa xn xc af) := Bx.new hQ 9 A B S P xa xn xc af
  have HL : Hid (ts.length = n) := hR.len
  have hn : n ≤ 900000 := by have := hR.len; omega
  have HI : Hid (I64 A) := hI
  have HJ : Hid (I64 B) := hJ
  have HRg := fun wc (h : QL wc B0 l most ts F) => QRange wc B0 l most ts F h (by omega) A B hI hJ
  have HSp := fun wc => Span_any n A B wc hI hJ (by omega)
  obtain ⟨e1, e2⟩ := sp_le n A B
  have hspn : spn ts A B = (ts.take (spT n A B)).drop (spF n A B) := by unfold spn; rw [HL.out]
  rw [hspn] at HRg
  clear hspn
  generalize spF n A B = x at *
  generalize spT n A B = y at *
  have h3 := HX0.out.cell 3 _ rfl
  have h4 := HX0.out.cell 4 _ rfl
  have h0 := HX0.out.cell 0 _ rfl
  clear hQ hR hI hJ
  go_enter Try.func18, Try.ntmps18
  go_upto_region 3 with fail
  go_quiet ((go_at_call 10; exact Calls.quiet_of_same (Cut_any _ _ _ (by decide))))
  have HCd := HC nq
  clear HC
  generalize (w.alloc (.cells (askC 9 A B S P xa xn xc af) 37)).drewN nq = wc at HCd ⊢
  have HCd : Hid (Cutd w B0 l most ts F a n c 9 A B S P xa xn xc af w.heap.size wc) := HCd
  have x0 := HCd.out.box.cell 0 _ rfl
  have x1 := HCd.out.box.cell 1 _ rfl
  have x2 := HCd.out.box.cell 2 _ rfl
  have x6 := HCd.out.box.cell 6 _ rfl
  clear h3 h4 h0
  obtain ⟨a4, c4, s4, hR4, -⟩ := HCd.out.row.slice_lh x y e1 e2
  have HR4 : Hid (Row wc F a4 (y - x) c4 ((ts.take y).drop x)) := hR4
  clear hR4
  go_wp2_with fail
  refine (HSp wc).mono ?_
  rintro e wc ⟨rfl, rfl⟩
  clear HSp
  go_upto_region 33 with fail
  go_cut [6, 7] from 203 to 214 (fun v b wx => v = .slice a n c ∧ b = .bool true ∧ Hid (Below wc.heap.size wc wx))
  case first =>
    have HBd : Hid (Below wc.heap.size wc wc.drew) := below_drewN wc 1
    have HRg := HRg wc.drew (HCd.out.ql.keep HBd.out)
    go_region_with (first
      | (go_at_call 29; refine HRg.mono ?_; rintro e w2 ⟨hb, a2, n2, c2, rfl, hO2⟩; have HB2 : Hid (Below wc.heap.size wc w2) := HBd.out.trans hb; have HO2 : Hid (RdS w2 a2 n2 ((ts.take y).drop x)) := hO2.rd; have HR2 : Hid (RdS w2 a4 (y - x) ((ts.take y).drop x)) := (HR4.out.keep HB2.out).rl.rd; have z1 := (HCd.out.box.keep HB2.out).cell 1 _ rfl; clear hb hO2)
      | (go_at_call 23; refine (Lists_of w2 a2 a4 n2 c2 (y - x) c4 ((ts.take y).drop x) HO2.out HR2.out).mono ?_; rintro e w3 ⟨hb, rfl⟩; have HB3 : Hid (Below wc.heap.size wc w3) := HB2.out.trans (hb.mono HB2.out.size); clear hb))
    all_goals (go_wp2; go_meet; exact ⟨rfl, rfl, HB3⟩)
  case rest =>
  obtain ⟨rfl, rfl, HB3⟩ := hcut
  go_wp2
  go_ret2
  exact ⟨F, _, _, _, rfl, HCd.out.ql.keep HB3.out, Left.of_below (HCd.out.bel.trans (HB3.out.mono HCd.out.bel.size)) F, HCd.out.row.keep HB3.out, Fresh.refl _ _⟩

omit hQ hR in
theorem QDid.back {w0 : World} {ts' : List ByteArray} {e : Ending} {w' : World} (hb : Below w.heap.size w w0) (h : QDid w0 B0 l most F a ts' e w') : QDid w B0 l most F a ts' e w' := by
  obtain ⟨F', a', n', c', h1, h2, h3, h4, h5⟩ := h
  exact ⟨F', a', n', c', h1, h2, (Left.of_below hb F).trans h3, h4, h5.back hb.size⟩

open Classical in
/-- What the texts are behind a call at an end. -/
noncomputable def endN (ts : List ByteArray) (kind : Int) (xl : List ByteArray) : List ByteArray :=
  if kind = 1 then (if Fit (few xl 6 5000) then (few xl 6 5000).reverse ++ ts else ts)
  else if kind = 2 then (if Fit (few xl 6 5000) then ts ++ few xl 6 5000 else ts)
  else if kind = 3 then ts.tail else ts.dropLast
theorem ends_any (kind : Int) (xl : List ByteArray) (hX : RdS w xa xn xl) (hc : ts.length ≤ 900000) :
    Calls Try.prog 43 #[ptr l, .slice a n c, .agg (askC kind A B S P xa xn xc af)] w fun e w' => QDid w B0 l most F a (endN ts kind xl) e w' := by
  unfold endN
  split
  · rename_i h; subst h
    split
    · exact ends1_fit w B0 l most ts F hQ a n c hR A B S P xa xn xc af xl hX hc (by assumption)
    · exact ends1_long w B0 l most ts F hQ a n c hR A B S P xa xn xc af xl hX (by assumption)
  · split
    · rename_i h; subst h
      split
      · exact ends2_fit w B0 l most ts F hQ a n c hR A B S P xa xn xc af xl hX hc (by assumption)
      · exact ends2_long w B0 l most ts F hQ a n c hR A B S P xa xn xc af xl hX (by assumption)
    · split
      · rename_i h; subst h
        exact ends3_any w B0 l most ts F hQ a n c hR A B S P xa xn xc af xl hX hc
      · exact ends4_any w B0 l most ts F hQ a n c hR A B S P xa xn xc af xl hX kind ⟨by assumption, by assumption, by assumption⟩ hc

set_option maxRecDepth 100000 in
set_option maxHeartbeats 800000 in
theorem do_ends (kind : Int) (hk : kind < 5) (xl : List ByteArray) (hX : RdS w xa xn xl) (hc : ts.length ≤ 900000) :
    Calls Try.prog 18 #[ptr l, .slice a n c, .agg (askC kind A B S P xa xn xc af)] w fun e w' => QDid w B0 l most F a (endN ts kind xl) e w' := by
  have hA := alloc_below w (.cells (askC kind A B S P xa xn xc af) 37)
  have HX0 : Hid (Bx (w.alloc (.cells (askC kind A B S P xa xn xc af) 37)) F w.heap.size kind A B S P xa xn xc af) := Bx.new hQ kind A B S P xa xn xc af
  have HE := ends_any _ B0 l most ts F (hQ.keep hA) a n c (hR.keep hA) A B S P xa xn xc af kind xl (hX.keep hA) hc
  have HBa : Hid (Below w.heap.size w (w.alloc (.cells (askC kind A B S P xa xn xc af) 37))) := hA
  have h0 := HX0.out.cell 0 _ rfl
  clear hQ hR hX hA
  go_enter Try.func18, Try.ntmps18
  go_wp2_with fail
  refine HE.mono ?_
  rintro e w1 hD
  obtain ⟨F', a', n', c', rfl, h2, h3, h4, h5⟩ := QDid.back w B0 l most F a HBa.out hD
  have HF : Hid (QL w1 B0 l most (endN ts kind xl) F' ∧ Left w w1 F F' ∧ Row w1 F' a' n' c' (endN ts kind xl) ∧ Fresh w a a') := ⟨h2, h3, h4, h5⟩
  clear hD h2 h3 h4 h5 HE
  go_wp2
  go_ret2
  exact ⟨F', _, _, _, rfl, HF.out⟩

/-- What the texts are behind a call. -/
noncomputable def doN (ts : List ByteArray) (kind A B : Int) (S P : ByteArray) (af : Bool) (xl : List ByteArray) : List ByteArray :=
  if kind < 5 then endN ts kind xl
  else if kind = 5 ∨ kind = 9 then ts
  else if kind = 6 then (match plc ts.length A with
    | none => ts
    | some k => if 4096 < (cutB S 5000).size then ts else ts.set k (cutB S 5000))
  else if kind = 7 then (if 4096 < (cutB S 5000).size then ts else if fst ts (cutB P 50) = -1 then ts
    else ts.take ((fst ts (cutB P 50)).toNat + (if af then 1 else 0)) ++ ([cutB S 5000] ++ ts.drop ((fst ts (cutB P 50)).toNat + (if af then 1 else 0))))
  else if kind = 8 then rmv ts (cutB P 50) A
  else spn ts A B
omit hQ hR in
theorem doN_len (kind : Int) (xl : List ByteArray) : (doN ts kind A B S P af xl).length ≤ ts.length + 6 := by
  have h6 : (few xl 6 5000).length ≤ 6 := (few_short xl 6 5000 (by decide)).1
  unfold doN
  split
  · unfold endN
    split
    · split
      · rw [List.length_append, List.length_reverse]; omega
      · omega
    · split
      · split
        · rw [List.length_append]; omega
        · omega
      · split
        · rw [List.length_tail]; omega
        · rw [List.length_dropLast]; omega
  · split
    · omega
    · split
      · split
        · omega
        · split
          · omega
          · rw [List.length_set]; omega
      · split
        · split
          · omega
          · split
            · omega
            · simp only [List.length_append, List.length_take, List.length_drop, List.length_cons, List.length_nil]; omega
        · split
          · have := rmv_len ts (cutB P 50) A; omega
          · unfold spn; rw [List.length_drop, List.length_take]; omega

theorem do_any (kind : Int) (xl : List ByteArray) (hX : RdS w xa xn xl) (hI : I64 A) (hJ : I64 B) (hc : ts.length ≤ 900000) :
    Calls Try.prog 18 #[ptr l, .slice a n c, .agg (askC kind A B S P xa xn xc af)] w fun e w' => QDid w B0 l most F a (doN ts kind A B S P af xl) e w' := by
  unfold doN
  split
  · exact do_ends w B0 l most ts F hQ a n c hR A B S P xa xn xc af kind (by assumption) xl hX hc
  · rename_i k5
    split
    · rename_i h
      rcases h with rfl | rfl
      · cases hk : plc ts.length A with
        | none => exact do5_none w B0 l most ts F hQ a n c hR A B S P xa xn xc af hI hk hc
        | some k => exact do5_some w B0 l most ts F hQ a n c hR A B S P xa xn xc af k hI hk hc
      · exact do9_any w B0 l most ts F hQ a n c hR A B S P xa xn xc af hI hJ hc
    · rename_i k9
      split
      · rename_i h; subst h
        split
        · exact do6_none w B0 l most ts F hQ a n c hR A B S P xa xn xc af hI (by assumption) hc
        · split
          · exact do6_long w B0 l most ts F hQ a n c hR A B S P xa xn xc af hI _ (by assumption) (by assumption) hc
          · exact do6_ok w B0 l most ts F hQ a n c hR A B S P xa xn xc af hI _ (by assumption) (by omega) hc
      · rename_i k6
        split
        · rename_i h; subst h
          split
          · exact do7_long w B0 l most ts F hQ a n c hR A B S P xa xn xc af (by assumption) hc
          · rename_i hs
            rcases fst_cases ts (cutB P 50) with ⟨h1, h2⟩ | ⟨A', C', h1, h2, h3⟩
            · rw [if_pos h2]
              exact do7_none w B0 l most ts F hQ a n c hR A B S P xa xn xc af (by omega) h1 h2 hc
            · rw [if_neg (by rw [h3]; omega), h3, Int.toNat_natCast]
              cases af with
              | true => exact do7_t w B0 l most ts F hQ a n c hR A B S P xa xn xc A' C' (by omega) h1 h2 h3 hc
              | false => exact do7_f w B0 l most ts F hQ a n c hR A B S P xa xn xc A' C' (by omega) h1 h2 h3 hc
        · split
          · rename_i h; subst h
            exact do8_any w B0 l most ts F hQ a n c hR A B S P xa xn xc af hI hc
          · exact do10_any w B0 l most ts F hQ a n c hR A B S P xa xn xc af kind ⟨by omega, by assumption, by assumption, by assumption, by omega⟩ hI hJ hc
end
end Go.Proofs.Ytemiajjjhhofaab
