/-
  The law's do: Delete.
-/
import Derived.Test.YtemiajjjhhofaaaDo2
namespace Go.Proofs.Ytemiajjjhhofaaa
open Go.RowKit Go.PlainAid

/-- A call of Delete as one step of a region that draws. -/
theorem step_del {w : World} {ops : Array Oper} {o : Oper} {ac : Act} {K : Act → World → Prop} {Q : Exit → Act → World → Prop} {E : Prop} (hgd : o.guard = none) (x y z : Nat) (ho : o.op = .call { callee := .value (.func 27), args := #[.tmp x, .tmp y, .tmp z], argTypes := #[22, 3, 3] })
    {vx vy vz : Value} (hx : ac.eval (.tmp x) = vx) (hy : ac.eval (.tmp y) = vy) (hz : ac.eval (.tmp z) = vz) (B p : Nat) (a : Option Addr) (l : List ByteArray) (v : Value) (hcall : Calls Try.prog 27 #[vx, vy, vz] w fun e w' => Turns w B p a l v e w')
    (hK : ∀ w', Moves w w' p a → (∃ a' n' c', Pk w' B p a' n' c' l) → K (ac.put o.dst v) w') : if Region.wanted o (yielded ops ac.tmps) = true then Oper.wp Try.prog o ac w K Q else E := by
  have hw : Region.wanted o (yielded ops ac.tmps) = true := by simp [Region.wanted, hgd]
  rw [if_pos hw]
  have he : (execOp ac.eval o).run Try.prog w = .ok (.enter 27 #[vx, vy, vz]) w := by
    obtain ⟨dst, op, type, pos, after, guard⟩ := o
    simp only at ho hgd
    subst ho hgd
    have := Try.func27
    go_simp
    exact ⟨by simpa [Act.eval] using hx, by simpa [Act.eval] using hy, by simpa [Act.eval] using hz⟩
  unfold Oper.wp
  rw [he, Oper.upon_enter]
  refine hcall.mono fun e w' ⟨hv, h1, h2⟩ => ?_
  subst hv
  obtain ⟨a', n', c', h3, -⟩ := h2
  exact hK w' h1 ⟨a', n', c', h3⟩

/-- What Delete leaves. -/
def delN (l : List ByteArray) (i N : Int) : List ByteArray := match plc l.length i with
  | none => l
  | some k => l.take k ++ l.drop (k + gone l k N)

set_option maxRecDepth 100000 in
set_option maxHeartbeats 20000000 in
theorem do3_any (B p : Nat) (a : Option Addr) (n c : Nat) (l : List ByteArray) (la : Option Addr) (ln lc : Nat) (i N : Int) (xa : Option Addr) (xn xc : Nat) (w : World) (hP : Pk w B p a n c l) (hf : Fit l) (hn : n ≤ 65536) (hO : OwnS w B la ln lc l) (hi1 : -9223372036854775808 ≤ i) (hi2 : i ≤ 9223372036854775807) :
    Calls Try.prog 10 #[ptr p, .slice la ln lc, askV 3 i N xa xn xc] w fun e w' => Did w B p (delN l i N) e w' := by
  have HP : Hid (Pk w B p a n c l) := hP
  have HO : Hid (OwnS w B la ln lc l) := hO
  have HL : Hid (l.length = ln) := hO.len
  have HF : Hid (Fit l) := hf
  have hBw : B ≤ w.heap.size := Nat.le_trans hP.low (Nat.le_of_lt hP.lt)
  have hA := alloc_below w (.cells #[.int .i64 3, .int .i64 i, .int .i64 N, .slice xa xn xc] 28)
  have HX : Hid (Xb (w.alloc (.cells #[.int .i64 3, .int .i64 i, .int .i64 N, .slice xa xn xc] 28)) w.heap.size 3 i N xa xn xc) := heap_alloc_new w _
  have hln : ln ≤ 65536 := by have := len_pack l; have := hP.own.len; have := hO.len; omega
  obtain ⟨w0, hw0⟩ : ∃ w0, w.alloc (.cells #[.int .i64 3, .int .i64 i, .int .i64 N, .slice xa xn xc] 28) = w0 := ⟨_, rfl⟩
  have HB0 : Hid (Below w.heap.size w w0) := by rw [← hw0]; exact hA
  rw [hw0] at HX
  have hx0 := HX.out.c0
  have hx1 := HX.out.c1
  have hx2 := HX.out.c2
  have HPl := fun w => place5_any ln i w (by omega) hi1 hi2
  have HP0 : Hid (Pk w0 B p a n c l) := HP.out.keep HB0.out
  clear hP hf hO hA
  cases hk : plc l.length i with
  | none =>
    have HDe := Delete_none B p a n c l i N w0 HP0.out hi1 hk
    have HE : Hid (delN l i N = l) := by show _ = _; unfold delN; rw [hk]
    rw [HL.out] at hk
    rw [hk] at HPl
    clear hk
    go_enter Try.func10, Try.ntmps10
    go_wp2_with fail
    refine (HPl _).mono ?_
    rintro e w0 ⟨rfl, rfl⟩
    unfold plR
    go_wp2_with fail
    refine HDe.mono ?_
    rintro e w2 ⟨hb, rfl⟩
    have HB2 := step_below HB0 hb
    clear hb
    go_wp2
    go_ret2
    rw [HE.out]
    exact ⟨HB2.out.mono hBw, _, _, _, _, _, _, rfl, HP.out.keep HB2.out, HO.out.keep HB2.out⟩
  | some k =>
    have hkl := plc_lt hk
    have HDe := fun (w1 : World) (h : Pk w1 B p a n c l) => Delete_some B p a n c l i k N w1 h HF.out hn hi1 hk
    have HE : Hid (delN l i N = l.take k ++ l.drop (k + gone l k N)) := by show _ = _; unfold delN; rw [hk]
    have hgl := gone_le l k N
    have hg0 : N < 1 → gone l k N = 0 := by intro h; unfold gone; omega
    have hg1 : ¬ N < 1 → (gone l k N : Int) = if (ln : Int) - k < N then (ln : Int) - k else N := by
      intro h
      have := HL.out
      unfold gone
      split <;> omega
    obtain ⟨g, hg⟩ : ∃ g, gone l k N = g := ⟨_, rfl⟩
    rw [hg] at HE hgl hg0 hg1
    simp only [hg] at HDe
    rw [HL.out] at hk hkl hgl
    rw [hk] at HPl
    clear hk hg
    have hk0 : ¬ ((k : Int) < 0) := by omega
    by_cases hN : N < 1
    · have hg := hg0 hN
      subst hg
      rw [Nat.add_zero, List.take_append_drop] at HE
      rw [Nat.add_zero, List.take_append_drop] at HDe
      have HD2 := HDe w0 HP0.out
      clear hg0 hg1 HDe
      go_enter Try.func10, Try.ntmps10
      go_wp2_with fail
      refine (HPl _).mono ?_
      rintro e w0 ⟨rfl, rfl⟩
      unfold plR
      go_wp2_with fail
      refine HD2.mono ?_
      rintro e w3 ⟨rfl, hM, a3, n3, c3, hP3, -⟩
      have HB3 : Hid (Below B w w3) := (HB0.out.mono hBw).trans (hM.below HP0.out)
      have HO3 : Hid (OwnS w3 B la ln lc l) := (HO.out.keep HB0.out).moves hM HP0.out
      have HP3 : Hid (Pk w3 B p a3 n3 c3 l) := hP3
      clear hM hP3
      go_wp2
      go_ret2
      rw [HE.out]
      exact ⟨HB3.out, _, _, _, _, _, _, rfl, HP3.out, HO3.out⟩
    · have HG : Hid ((g : Int) = if (ln : Int) - k < N then (ln : Int) - k else N) := hg1 hN
      clear hg0 hg1
      obtain ⟨d, hd⟩ : ∃ d : Int, (ln : Int) - (k : Int) = d := ⟨_, rfl⟩
      rw [hd] at HG
      go_enter Try.func10, Try.ntmps10
      go_wp2_with fail
      refine (HPl _).mono ?_
      rintro e w0 ⟨rfl, rfl⟩
      unfold plR
      go_upto_if 155 with fail
      go_cut [15] from 150 to 159 (fun v wx => v = .int .i64 g ∧ wx = w0)
      case first =>
        by_cases hx : d < N
        · have hgd : (g : Int) = d := by have := HG.out; rw [if_pos hx] at this; exact this
          go_wp2
          go_meet
          exact ⟨by rw [hgd], rfl⟩
        · have hgd : (g : Int) = N := by have := HG.out; rw [if_neg hx] at this; exact this
          go_wp2
          go_meet
          exact ⟨by rw [hgd], rfl⟩
      case rest =>
      obtain ⟨rfl, rfl⟩ := hcut
      have HOl : Hid (OwnS wc B la ln lc l) := HO.out.keep HB0.out
      obtain ⟨q, hq⟩ : ∃ q, k + g = q := ⟨_, rfl⟩
      have hqi : (k : Int) + (g : Int) = q := by omega
      have hqn : q ≤ ln := by omega
      have hwq : IntKind.i64.wrap (q : Int) = q := by rw [IntKind.wrap_i64]; omega
      obtain ⟨a4, c4, s4, hR4⟩ := HOl.out.rl.slice_h k (by omega)
      obtain ⟨a5, c5, s5, hR5⟩ := HOl.out.rl.slice_l q hqn
      have HR4 : Hid (RdL wc a4 k c4 (l.take k)) := hR4
      have HR5 : Hid (RdL wc a5 (ln - q) c5 (l.drop q)) := hR5
      rw [hq] at HE HDe
      have HX1 : Hid (Xb wc w.heap.size 3 i N xa xn xc) := HX
      have HDh : Hid (∀ (w1 : World), Pk w1 B p a n c l → Calls Try.prog 27 #[ptr p, Value.int .i64 i, Value.int .i64 N] w1 fun e w' => Turns w1 B p a (l.take k ++ l.drop q) (Value.int .i64 (g : Nat)) e w') := HDe
      clear hR4 hR5 hq HDe
      go_upto_region 35 with fail
      go_cut [6, 7] from 160 to 178 (fun v b wx => ∃ a6 n6 c6, v = .slice a6 n6 c6 ∧ b = .bool true ∧ Hid (OwnS wx wc.heap.size a6 n6 c6 (l.take k ++ l.drop q)) ∧ Hid (Below B w wx) ∧ Hid (∃ a' n' c', Pk wx B p a' n' c' (l.take k ++ l.drop q)))
      case first =>
        have hBd : Below wc.heap.size wc (wc.alloc (.cells #[] 9)).drew := (alloc_below wc _).drew
        have HBd : Hid (Below wc.heap.size wc (wc.alloc (.cells #[] 9)).drew) := hBd
        have HOa : Hid (OwnS (wc.alloc (.cells #[] 9)).drew wc.heap.size (some ⟨wc.heap.size, 0, none⟩) 0 0 []) := OwnS.made wc [] wc.heap.size 0 rfl (Nat.le_refl _) (by decide) _ rfl
        have hxa : (wc.alloc (.cells #[] 9)).cell? ⟨w.heap.size, 1, none⟩ = some (.int .i64 i) := (HX1.out.keep hBd).c1
        have hxb : (wc.alloc (.cells #[] 9)).cell? ⟨w.heap.size, 2, none⟩ = some (.int .i64 N) := (HX1.out.keep hBd).c2
        have HR4a : Hid (RdL (wc.alloc (.cells #[] 9)).drew a4 k c4 (l.take k)) := HR4.out.keep hBd
        have HN1 : Hid (0 + k ≤ 1000000) := by show _ ≤ _; omega
        have HN2 : Hid (0 + k + (ln - q) ≤ 1000000) := by show _ ≤ _; omega
        have HSa : Hid (wc.heap.size ≤ (wc.alloc (.cells #[] 9)).drew.heap.size) := hBd.size
        clear hBd
        go_region_law (first
          | (refine step_append_strs rfl (.tmp 160) (.tmp 163) rfl wc.heap.size (by simp [Act.eval] <;> rfl) HOa.out (by simp [Act.eval] <;> rfl) HR4a.out HN1.out HSa.out ?_; intro a7 n7 c7 w7 hn7 HO7 HB7; have HBx : Hid (Below wc.heap.size wc w7) := HBd.out.trans HB7.out; have hx7 := (HX1.out.keep HBx.out).c1; have hx7b := (HX1.out.keep HBx.out).c2; have HI7 : Hid (RdL w7 a5 (ln - q) c5 (l.drop q)) := HR5.out.keep HBx.out; have HN7 : Hid (n7 + (ln - q) ≤ 1000000) := (by have := HN2.out; show _ ≤ _; omega); clear hn7 HB7)
          | (refine step_append_strs rfl (.tmp 164) (.tmp 169) rfl wc.heap.size (by simp [Act.eval] <;> rfl) HO7.out (by simp [Act.eval] <;> rfl) HI7.out HN7.out HBx.out.size ?_; intro a8 n8 c8 w8 hn8 HO8 HB8; have HBy : Hid (Below wc.heap.size wc w8) := HBx.out.trans HB8.out; have hx8 := (HX1.out.keep HBy.out).c1; have hx8b := (HX1.out.keep HBy.out).c2; have HP8 : Hid (Pk w8 B p a n c l) := HP0.out.keep HBy.out; have HOy : Hid (OwnS w8 wc.heap.size a8 n8 c8 (l.take k ++ l.drop q)) := (by have := HO8.out; rw [List.nil_append] at this; exact this); clear hn8 HB8)
          | (refine step_del rfl 171 173 175 rfl (by simp [Act.eval] <;> rfl) (by simp [Act.eval] <;> rfl) (by simp [Act.eval] <;> rfl) B p a (l.take k ++ l.drop q) (.int .i64 (g : Nat)) (HDh.out w8 HP8.out) ?_; intro w9 hM hE; have HBz : Hid (Below B w w9) := ((HB0.out.mono hBw).trans (HBy.out.mono (Nat.le_trans hBw HB0.out.size))).trans (hM.below HP8.out); have HOz : Hid (OwnS w9 wc.heap.size a8 n8 c8 (l.take k ++ l.drop q)) := HOy.out.moves hM HP8.out; have HEz : Hid (∃ a' n' c', Pk w9 B p a' n' c' (l.take k ++ l.drop q)) := hE; clear hM hE))
        all_goals (go_wp2; go_meet; exact ⟨_, _, _, rfl, by simp, HOz, HBz, HEz⟩)
      case rest =>
      obtain ⟨a6, n6, c6, rfl, rfl, HO6, HB6, HP6⟩ := hcut
      go_wp2
      go_ret2
      rw [HE.out]
      obtain ⟨a7, n7, c7, hP7⟩ := HP6.out
      exact ⟨HB6.out, _, _, _, _, _, _, rfl, hP7, HO6.out.lowS (Nat.le_trans hBw HB0.out.size)⟩
end Go.Proofs.Ytemiajjjhhofaaa
