/-
  slices.Delete at []byte: the row without the bytes from i to j.
-/
import Derived.Test.YtbbklfholofajaaIns
namespace Go.Proofs.Ytbbklfholofajaa
open Go.RowKit Go.PlainAid

theorem run_append_in (w : World) (g n c : Nat) (cur : List Value) (hB : Bk w g cur) (hc : cur.length = c) (ad : Addr) (m xc : Nat) (cs : List Value) (hm : cs.length = m) (hsrc : ∀ j v, cs[j]? = some v → w.cell? (ad.add j) = some v) (h1 : ∀ v ∈ cs, v.oneCell' = true) (hroom : n + m ≤ c) :
    ∃ w', (∀ ty, (Builtin.append_ #[30, 30] ty #[.slice (some ⟨g, 0, none⟩) n c, .slice (some ad) m xc]).run Try.prog w = .ok (.slice (some ⟨g, 0, none⟩) (n + m) c) w') ∧ Bk w' g (splice cur n cs) ∧ w.grownBy w' (some g) := by
  obtain ⟨i0, hi, hz0, hz1, hz2⟩ := info_parts Try.info5
  have hb := bk_cells cs n w cur hB (by omega)
  refine ⟨_, fun ty => ?_, hb.1, hb.2⟩
  have hrun := run_append_room_cells (P := Try.prog) w 30 ty 5 i0 Try.underlying30 hi g 0 n c ad m xc cs (by rw [hz1]; omega) hsrc h1 hroom
    (fun j hj => by rw [hB.cell, hz1, List.getElem?_eq_getElem (by omega)]; rfl) (fun j hj => hB.frozen _)
  rw [hrun, hz1, Nat.zero_add, Nat.mul_one]
theorem step_append_in {w : World} {ops : Array Oper} {o : Oper} {ac : Act} {K : Act → World → Prop} {Q : Exit → Act → World → Prop} {E : Prop} (hgd : o.guard = none) (s x : Operand) (ho : o.op = .call { callee := .builtin .append, args := #[s, x], argTypes := #[30, 30] })
    {g n c : Nat} {ad : Addr} {m xc : Nat} (hs : ac.eval s = .slice (some ⟨g, 0, none⟩) n c) (hx : ac.eval x = .slice (some ad) m xc) (cur : List Value) (hB : Bk w g cur) (hc : cur.length = c) (cs : List Value) (hm : cs.length = m)
    (hsrc : ∀ j v, cs[j]? = some v → w.cell? (ad.add j) = some v) (h1 : ∀ v ∈ cs, v.oneCell' = true) (hroom : n + m ≤ c)
    (h : ∀ w', Hid (Bk w' g (splice cur n cs)) → Hid (w.grownBy w' (some g)) → K (ac.put o.dst (.slice (some ⟨g, 0, none⟩) (n + m) c)) w') : if Region.wanted o (yielded ops ac.tmps) = true then Oper.wp Try.prog o ac w K Q else E := by
  have hw : Region.wanted o (yielded ops ac.tmps) = true := by simp [Region.wanted, hgd]
  rw [if_pos hw]
  obtain ⟨w', hr, h2, h3⟩ := run_append_in w g n c cur hB hc ad m xc cs hm hsrc h1 hroom
  unfold Oper.wp
  simp [execOp, ho, resolve, invoke, builtin, hs, hx, hr, Result.andThen]
  exact h w' h2 h3

theorem take_splice_at (cur cs : List Value) (i : Nat) (h : i + cs.length ≤ cur.length) : (splice cur i cs).take (i + cs.length) = cur.take i ++ cs := by
  unfold splice
  rw [← List.append_assoc, List.take_append_of_le_length (by rw [List.length_append, List.length_take]; omega), List.take_of_length_le (by rw [List.length_append, List.length_take]; omega)]
theorem take_splice_low (cur cs : List Value) (i k : Nat) (h : k ≤ i) (hi : i ≤ cur.length) : (splice cur i cs).take k = cur.take k := by
  unfold splice
  rw [List.take_append_of_le_length (by rw [List.length_take]; omega), List.take_take, Nat.min_eq_left h]

/-- s[lo:hi:max]. -/
theorem slice_lhm (a : Option Addr) (n c lo hi mx : Nat) (h1 : lo ≤ hi) (h2 : hi ≤ mx) (h3 : mx ≤ c) :
    ∃ a', ∀ wx, (Instr.sliceAt 30 (.slice a n c) (some (.int .i64 lo)) (some (.int .i64 hi)) (some (.int .i64 mx))).run Try.prog wx = .ok (.slice a' (hi - lo) (mx - lo)) wx := by
  have ht : Try.prog.underlying 30 = some (.slice (Try.prog.elem 30)) := by rw [Try.elem30]; exact Try.underlying30
  refine ⟨if mx = lo then a else a.map (·.add (lo * 1)), fun wx => ?_⟩
  rw [run_sliceAt_slice _ _ _ _ _ _ ht, run_slice_lhm (P := Try.prog) wx 30 _ n c ht .i64 .i64 .i64 lo hi mx (by omega) (by omega) (by omega) (by omega), Try.elem30, Try.size5]
  simp only [Result.andThen, sliced, Int.toNat_natCast]

set_option maxRecDepth 100000 in
set_option maxHeartbeats 4000000 in
theorem delete_none (B : Nat) (a : Option Addr) (n c : Nat) (l : List UInt8) (i : Nat) (w : World) (hO : Own w B a n c l) (hi : i ≤ n) :
    Calls Try.prog 45 #[.slice a n c, .int .i64 i, .int .i64 i] w fun e w' => Turned w B a l e w' := by
  obtain ⟨a3, hsl⟩ := slice_lhm a n c i i n (Nat.le_refl _) hi hO.rd.fit
  have HO : Hid (Own w B a n c l) := hO
  clear hO
  go_enter Try.func45, Try.ntmps45
  go_wp2
  go_ret
  exact ⟨_, _, _, rfl, HO.out, grown_refl _ _⟩

set_option maxRecDepth 100000 in
set_option maxHeartbeats 4000000 in
theorem delete_some (B : Nat) (g n c : Nat) (l : List UInt8) (i j : Nat) (w : World) (cur : List Value) (hBg : B ≤ g) (hg : Bk w g cur) (hn : n ≤ c) (hcm : c ≤ maxLen) (hcl : cur.length = c) (ht : cur.take n = cells l)
    (hl : l.length = n) (hi : i < j) (hj : j ≤ n) :
    Calls Try.prog 45 #[.slice (some ⟨g, 0, none⟩) n c, .int .i64 i, .int .i64 j] w fun e w' => Turned w B (some ⟨g, 0, none⟩) (l.take i ++ l.drop j) e w' := by
  unfold maxLen at hcm
  obtain ⟨a3, s1⟩ := slice_lhm (some ⟨g, 0, none⟩) n c i j n (by omega) hj hn
  have s2 := slice_hi g n c i (by omega)
  obtain ⟨o3, ho3, s3⟩ := slice_lo g n c j (by omega)
  obtain ⟨k, hK⟩ : ∃ k, i + (n - j) = k := ⟨_, rfl⟩
  obtain ⟨o4, ho4, s4⟩ := slice_at g k c k n (by omega) (by omega)
  have hO4 : o4 = k := ho4 (by omega)
  subst hO4
  obtain ⟨X, hX⟩ : ∃ X, X = cells (l.drop j) := ⟨_, rfl⟩
  have hXl : X.length = n - j := by rw [hX, cells_len, List.length_drop]; omega
  have HXl : Hid (X.length = n - j) := hXl
  have HG : Hid (Bk w.drew g cur) := hg.drew
  have HC : Hid (cur.length = c) := hcl
  have HX2 : Hid (∀ q v, X[q]? = some v → w.drew.cell? ((⟨g, o3, none⟩ : Addr).add q) = some v) := by
    show ∀ _, _
    intro q v hv
    have hq := (List.getElem?_eq_some_iff.1 hv).1
    rw [ho3 (by omega)]
    rw [hX] at hv
    exact cell_of hg.drew ht j (by omega) q v hv
  have HX4 : Hid (∀ v ∈ X, v.oneCell' = true) := by show ∀ _, _; rw [hX]; exact cells_one _
  have HR : Hid (i + (n - j) ≤ c) := by show _ ≤ _; omega
  have HK : Hid (i + (n - j) = o4) := hK
  have HL : Hid ((splice cur i X).take o4 = cells (l.take i ++ l.drop j)) := by
    show _ = _
    have := take_splice_at cur X i (by omega)
    rw [show i + X.length = o4 by omega] at this
    rw [this, cells_append, hX, ← cells_take, ← ht, List.take_take, Nat.min_eq_left (by omega)]
  have HF : Hid (o4 + (n - o4) ≤ (splice cur i X).length) := by show _ ≤ _; rw [length_splice _ _ _ (by omega)]; omega
  have HF2 : Hid ((splice cur i X).length = c) := by show _ = _; rw [length_splice _ _ _ (by omega)]; omega
  have HBg : Hid (B ≤ g) := hBg
  have hz2 : ¬ ((i : Int) = (j : Int)) := by omega
  have hok : o4 ≤ c := by omega
  have hon : o4 ≤ n := by omega
  clear hX hXl ht hcl hg ho3 ho4 hBg hK
  go_enter Try.func45, Try.ntmps45
  go_wp2_with fail
  go_region_law (refine step_append_in rfl (.tmp 22) (.tmp 25) rfl (by simp [Act.eval, Act.put] <;> rfl) (by simp [Act.eval, Act.put] <;> rfl) cur HG.out HC.out X HXl.out HX2.out HX4.out HR.out ?_; intro w1 HB1 HG1; rw [HK.out])
  go_wp2_with (refine clear_in rfl (.tmp 31) rfl rfl _ HB1.out HF.out ?_; intro w2 HB2 HG2)
  go_ret
  refine ⟨_, _, _, rfl, Own.of HBg.out HB2.out hok hcm ?_ ?_, grown_trans (drew_grown HG1.out) HG2.out⟩
  · exact (length_splice _ _ _ (by rw [List.length_replicate]; exact HF.out)).trans HF2.out
  · exact (take_splice_low _ _ _ _ (Nat.le_refl _) (Nat.le_trans hok (Nat.le_of_eq HF2.out.symm))).trans HL.out

/-- slices.Delete. -/
theorem Delete_sl (B : Nat) (a : Option Addr) (n c : Nat) (l : List UInt8) (i j : Nat) (w : World) (hO : Own w B a n c l) (hi : i ≤ j) (hj : j ≤ n) :
    Calls Try.prog 45 #[.slice a n c, .int .i64 i, .int .i64 j] w fun e w' => Turned w B a (l.take i ++ l.drop j) e w' := by
  by_cases hij : i = j
  · subst hij
    rw [List.take_append_drop]
    exact delete_none B a n c l i w hO hj
  · obtain ⟨g, cur, rfl, h1, h2, h3, h4, h5, h6⟩ := hO.parts (by omega)
    exact delete_some B g n c l i j w cur h1 h2 h3 h4 h5 h6 hO.len (by omega) hj
end Go.Proofs.Ytbbklfholofajaa
