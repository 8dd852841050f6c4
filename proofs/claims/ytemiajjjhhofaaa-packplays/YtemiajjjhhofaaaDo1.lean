/-
  The law's do: Insert.
-/
import Derived.Test.YtemiajjjhhofaaaDo0
namespace Go.Proofs.Ytemiajjjhhofaaa
open Go.RowKit Go.PlainAid

theorem OwnS.lowS {w : World} {B C : Nat} {a : Option Addr} {n cap : Nat} {l : List ByteArray} (h : OwnS w B a n cap l) (hC : C ≤ B) : OwnS w C a n cap l := by
  refine ⟨h.1, ?_⟩
  rcases h.2 with h2 | ⟨g, c, cur, h1, h3, h4⟩
  · exact .inl h2
  · exact .inr ⟨g, c, cur, h1, Nat.le_trans hC h3, h4⟩

set_option maxRecDepth 100000 in
set_option maxHeartbeats 400000 in
theorem do1_index (B p : Nat) (a : Option Addr) (n c : Nat) (l : List ByteArray) (la : Option Addr) (ln lc : Nat) (i N : Int) (xa : Option Addr) (xn xc : Nat) (xl : List ByteArray) (w : World) (hP : Pk w B p a n c l) (hf : Fit l) (hO : OwnS w B la ln lc l) (hR : RdS w xa xn xl) (hi : ¬ (0 ≤ i ∧ i ≤ l.length)) :
    Calls Try.prog 10 #[ptr p, .slice la ln lc, askV 1 i N xa xn xc] w fun e w' => Did w B p l e w' := by
  have HP : Hid (Pk w B p a n c l) := hP
  have HO : Hid (OwnS w B la ln lc l) := hO
  have HL : Hid (l.length = ln) := hO.len
  have HF : Hid (Fit l) := hf
  have HI : Hid (¬ (0 ≤ i ∧ i ≤ l.length)) := hi
  have hBw : B ≤ w.heap.size := Nat.le_trans hP.low (Nat.le_of_lt hP.lt)
  have hA := alloc_below w (.cells #[.int .i64 1, .int .i64 i, .int .i64 N, .slice xa xn xc] 28)
  have HX : Hid (Xb (w.alloc (.cells #[.int .i64 1, .int .i64 i, .int .i64 N, .slice xa xn xc] 28)) w.heap.size 1 i N xa xn xc) := heap_alloc_new w _
  have HFe := Few_eq xa xn xc xl 6 5000 _ (hR.keep hA) (by omega) (by omega)
  have HBa : Hid (Below w.heap.size w (w.alloc (.cells #[.int .i64 1, .int .i64 i, .int .i64 N, .slice xa xn xc] 28))) := hA
  have hlm : ln ≤ 9223372036854775807 := hO.rd.max
  clear hP hf hO hR hi hA
  go_enter Try.func10, Try.ntmps10
  go_wp2_with fail
  refine HFe.mono ?_
  rintro e w1 ⟨hb, ia, im, ic, rfl, hO1⟩
  have HB1 := step_below HBa hb
  have HX1 : Hid (Xb w1 w.heap.size 1 i N xa xn xc) := HX.out.keep hb
  have hx1 := HX1.out.c1
  have HIn := Insert_index B p a n c l i (.slice ia im ic) w1 (HP.out.keep HB1.out) HI.out
  clear hb hO1 HFe
  by_cases h0 : i < 0
  · go_wp2_with fail
    refine HIn.mono ?_
    rintro e w2 ⟨hb, rfl⟩
    have HB2 := step_below HB1 hb
    clear hb
    go_wp2
    go_ret2
    exact ⟨HB2.out.mono hBw, _, _, _, _, _, _, rfl, HP.out.keep HB2.out, HO.out.keep HB2.out⟩
  · have h1 : (ln : Int) < i := by have := HI.out; have := HL.out; omega
    go_wp2_with fail
    refine HIn.mono ?_
    rintro e w2 ⟨hb, rfl⟩
    have HB2 := step_below HB1 hb
    clear hb
    go_wp2
    go_ret2
    exact ⟨HB2.out.mono hBw, _, _, _, _, _, _, rfl, HP.out.keep HB2.out, HO.out.keep HB2.out⟩

set_option maxRecDepth 100000 in
set_option maxHeartbeats 400000 in
theorem do1_long (B p : Nat) (a : Option Addr) (n c : Nat) (l : List ByteArray) (la : Option Addr) (ln lc : Nat) (i : Nat) (N : Int) (xa : Option Addr) (xn xc : Nat) (xl : List ByteArray) (w : World) (hP : Pk w B p a n c l) (hf : Fit l) (hO : OwnS w B la ln lc l) (hR : RdS w xa xn xl) (hi : i ≤ l.length) (hl : ¬ Fit (few xl 6 5000)) :
    Calls Try.prog 10 #[ptr p, .slice la ln lc, askV 1 i N xa xn xc] w fun e w' => Did w B p l e w' := by
  have HP : Hid (Pk w B p a n c l) := hP
  have HO : Hid (OwnS w B la ln lc l) := hO
  have HL : Hid (l.length = ln) := hO.len
  have HF : Hid (Fit l) := hf
  have HI : Hid (i ≤ l.length) := hi
  have HLo : Hid (¬ Fit (few xl 6 5000)) := hl
  have HS := few_short xl 6 5000 (by omega)
  have hBw : B ≤ w.heap.size := Nat.le_trans hP.low (Nat.le_of_lt hP.lt)
  have hA := alloc_below w (.cells #[.int .i64 1, .int .i64 i, .int .i64 N, .slice xa xn xc] 28)
  have HX : Hid (Xb (w.alloc (.cells #[.int .i64 1, .int .i64 i, .int .i64 N, .slice xa xn xc] 28)) w.heap.size 1 i N xa xn xc) := heap_alloc_new w _
  have HFe := Few_eq xa xn xc xl 6 5000 _ (hR.keep hA) (by omega) (by omega)
  have HBa : Hid (Below w.heap.size w (w.alloc (.cells #[.int .i64 1, .int .i64 i, .int .i64 N, .slice xa xn xc] 28))) := hA
  have hlm : ln ≤ 9223372036854775807 := hO.rd.max
  have hil : (i : Int) ≤ ln := by have := hO.len; omega
  generalize few xl 6 5000 = ins at HFe HLo HS
  have HSs : Hid (Short ins 6 5000) := HS
  clear hP hf hO hR hi hA hl HS
  go_enter Try.func10, Try.ntmps10
  go_wp2_with fail
  refine HFe.mono ?_
  rintro e w1 ⟨hb, ia, im, ic, rfl, hO1⟩
  have HB1 := step_below HBa hb
  have HX1 : Hid (Xb w1 w.heap.size 1 i N xa xn xc) := HX.out.keep hb
  have hx1 := HX1.out.c1
  have him : im ≤ 6 := by have := hO1.len; have := HSs.out.1; omega
  have HIn := Insert_long B p a n c l i ia im ic ins w1 (HP.out.keep HB1.out) HI.out hO1.rd HLo.out (fun s hs => by have := HSs.out.2 s hs; omega) (by omega)
  have HLg := long_any ia im ic ins w1 hO1.rd (fun s hs => by have := HSs.out.2 s hs; omega) true ⟨fun _ => HLo.out, fun _ => rfl⟩
  clear hb hO1 HFe
  go_wp2_with fail
  refine HLg.mono ?_
  rintro e w1 ⟨rfl, rfl⟩
  go_wp2_with fail
  refine HIn.mono ?_
  rintro e w2 ⟨hb, rfl⟩
  have HB2 := step_below HB1 hb
  clear hb
  go_wp2
  go_ret2
  exact ⟨HB2.out.mono hBw, _, _, _, _, _, _, rfl, HP.out.keep HB2.out, HO.out.keep HB2.out⟩

set_option maxRecDepth 100000 in
set_option maxHeartbeats 20000000 in
theorem do1_fit (B p : Nat) (a : Option Addr) (n c : Nat) (l : List ByteArray) (la : Option Addr) (ln lc : Nat) (i : Nat) (N : Int) (xa : Option Addr) (xn xc : Nat) (xl : List ByteArray) (w : World) (hP : Pk w B p a n c l) (hf : Fit l) (hn : n ≤ 65536) (hO : OwnS w B la ln lc l) (hR : RdS w xa xn xl) (hi : i ≤ l.length) (hl : Fit (few xl 6 5000)) (l' : List ByteArray)
    (hl' : l' = if 65536 < n + (pack (few xl 6 5000)).length then l else l.take i ++ (few xl 6 5000 ++ l.drop i)) :
    Calls Try.prog 10 #[ptr p, .slice la ln lc, askV 1 i N xa xn xc] w fun e w' => Did w B p l' e w' := by
  have HP : Hid (Pk w B p a n c l) := hP
  have HO : Hid (OwnS w B la ln lc l) := hO
  have HL : Hid (l.length = ln) := hO.len
  have HF : Hid (Fit l) := hf
  have HI : Hid (i ≤ l.length) := hi
  have HLo : Hid (Fit (few xl 6 5000)) := hl
  have HS := few_short xl 6 5000 (by omega)
  have hBw : B ≤ w.heap.size := Nat.le_trans hP.low (Nat.le_of_lt hP.lt)
  have hA := alloc_below w (.cells #[.int .i64 1, .int .i64 i, .int .i64 N, .slice xa xn xc] 28)
  have HX : Hid (Xb (w.alloc (.cells #[.int .i64 1, .int .i64 i, .int .i64 N, .slice xa xn xc] 28)) w.heap.size 1 i N xa xn xc) := heap_alloc_new w _
  have HFe := Few_eq xa xn xc xl 6 5000 _ (hR.keep hA) (by omega) (by omega)
  have HBa : Hid (Below w.heap.size w (w.alloc (.cells #[.int .i64 1, .int .i64 i, .int .i64 N, .slice xa xn xc] 28))) := hA
  have hlm : ln ≤ 9223372036854775807 := hO.rd.max
  have hil : i ≤ ln := by have := hO.len; omega
  have hln : ln ≤ 65536 := by have := len_pack l; have := hP.own.len; have := hO.len; omega
  have HN : Hid ((pack l).length = n) := hP.own.len
  generalize few xl 6 5000 = ins at HFe HLo HS hl'
  have HSs : Hid (Short ins 6 5000) := HS
  have HL' : Hid (l' = if 65536 < n + (pack ins).length then l else l.take i ++ (ins ++ l.drop i)) := hl'
  clear hP hf hO hR hi hA hl HS hl'
  go_enter Try.func10, Try.ntmps10
  go_wp2_with fail
  refine HFe.mono ?_
  rintro e w1 ⟨hb, ia, im, ic, rfl, hO1⟩
  have HB1 := step_below HBa hb
  have HX1 : Hid (Xb w1 w.heap.size 1 i N xa xn xc) := HX.out.keep hb
  have hx1 := HX1.out.c1
  have him : im ≤ 6 := by have := hO1.len; have := HSs.out.1; omega
  have HLg := long_any ia im ic ins w1 hO1.rd (fun s hs => by have := HSs.out.2 s hs; omega) false ⟨(fun h => by cases h), fun h => absurd HLo.out h⟩
  have HO1 : Hid (OwnS w1 (w.alloc (.cells #[.int .i64 1, .int .i64 i, .int .i64 N, .slice xa xn xc] 28)).heap.size ia im ic ins) := hO1
  have HOl : Hid (OwnS w1 B la ln lc l) := HO.out.keep HB1.out
  obtain ⟨a4, c4, s4, hR4⟩ := HOl.out.rl.slice_h i hil
  obtain ⟨a5, c5, s5, hR5⟩ := HOl.out.rl.slice_l i hil
  have HR4 : Hid (RdL w1 a4 i c4 (l.take i)) := hR4
  have HR5 : Hid (RdL w1 a5 (ln - i) c5 (l.drop i)) := hR5
  clear hb hO1 HFe hR4 hR5
  go_wp2_with fail
  refine HLg.mono ?_
  rintro e w1 ⟨rfl, rfl⟩
  go_upto_region 10 with fail
  go_cut [10] from 40 to 52 (fun v wx => ∃ a6 n6 c6, v = .slice a6 n6 c6 ∧ Hid (OwnS wx w1.heap.size a6 n6 c6 (l.take i ++ (ins ++ l.drop i))) ∧ Hid (Below w1.heap.size w1 wx))
  case first =>
    have hBd : Below w1.heap.size w1 (w1.alloc (.cells #[] 9)).drew := (alloc_below w1 _).drew
    have HBd : Hid (Below w1.heap.size w1 ((w1.alloc (.cells #[] 9)).drew)) := hBd
    have HOa : Hid (OwnS ((w1.alloc (.cells #[] 9)).drew) w1.heap.size (some ⟨w1.heap.size, 0, none⟩) 0 0 []) := OwnS.made w1 [] w1.heap.size 0 rfl (Nat.le_refl _) (by decide) _ rfl
    have hxa : (w1.alloc (.cells #[] 9)).cell? ⟨w.heap.size, 1, none⟩ = some (.int .i64 i) := (HX1.out.keep hBd).c1
    have HR4a : Hid (RdL ((w1.alloc (.cells #[] 9)).drew) a4 i c4 (l.take i)) := HR4.out.keep hBd
    have HN1 : Hid (0 + i ≤ 1000000) := by show _ ≤ _; omega
    have HN2 : Hid (0 + i + im ≤ 1000000) := by show _ ≤ _; omega
    have HN3 : Hid (0 + i + im + (ln - i) ≤ 1000000) := by show _ ≤ _; omega
    have HSa : Hid (w1.heap.size ≤ ((w1.alloc (.cells #[] 9)).drew).heap.size) := hBd.size
    clear hBd
    go_region_law (first
      | (refine step_append_strs rfl (.tmp 40) (.tmp 44) rfl w1.heap.size (by simp [Act.eval, Act.put] <;> rfl) HOa.out (by simp [Act.eval, Act.put] <;> rfl) HR4a.out HN1.out HSa.out ?_; intro a7 n7 c7 w7 hn7 HO7 HB7; have HBx : Hid (Below w1.heap.size w1 w7) := HBd.out.trans HB7.out; have hx7 := (HX1.out.keep HBx.out).c1; have HI7 : Hid (RdL w7 ia im ic ins) := HO1.out.rl.keep HBx.out; have HN7 : Hid (n7 + im ≤ 1000000) := (by have := HN2.out; show _ ≤ _; omega); have HN7b : Hid (n7 + im + (ln - i) ≤ 1000000) := (by have := HN3.out; show _ ≤ _; omega); clear hn7 HB7)
      | (refine step_append_strs rfl (.tmp 45) (.tmp 46) rfl w1.heap.size (by simp [Act.eval, Act.put] <;> rfl) HO7.out (by simp [Act.eval, Act.put] <;> rfl) HI7.out HN7.out HBx.out.size ?_; intro a8 n8 c8 w8 hn8 HO8 HB8; have HBy : Hid (Below w1.heap.size w1 w8) := HBx.out.trans HB8.out; have hx8 := (HX1.out.keep HBy.out).c1; have HI8 : Hid (RdL w8 a5 (ln - i) c5 (l.drop i)) := HR5.out.keep HBy.out; have HN8 : Hid (n8 + (ln - i) ≤ 1000000) := (by have := HN7b.out; show _ ≤ _; omega); clear hn8 HB8)
      | (refine step_append_strs rfl (.tmp 47) (.tmp 51) rfl w1.heap.size (by simp [Act.eval, Act.put] <;> rfl) HO8.out (by simp [Act.eval, Act.put] <;> rfl) HI8.out HN8.out HBy.out.size ?_; intro a9 n9 c9 w9 hn9 HO9 HB9; have HBz : Hid (Below w1.heap.size w1 w9) := HBy.out.trans HB9.out; have HOz : Hid (OwnS w9 w1.heap.size a9 n9 c9 (l.take i ++ (ins ++ l.drop i))) := (by have := HO9.out; rw [List.nil_append, List.append_assoc] at this; exact this); clear hn9 HB9))
    all_goals (go_wp2; go_meet; exact ⟨_, _, _, rfl, HOz, HBz⟩)
  case rest =>
  obtain ⟨a6, n6, c6, rfl, HO6, HB6⟩ := hcut
  have HBc := step_below HB1 HB6.out
  have HF6 : Hid (Fit (l.take i ++ (ins ++ l.drop i))) := by
    intro s hs
    rcases List.mem_append.1 hs with h | h
    · exact HF.out s (List.mem_of_mem_take h)
    · rcases List.mem_append.1 h with h | h
      · exact HLo.out s h
      · exact HF.out s (List.mem_of_mem_drop h)
  have HPL : Hid ((pack (l.take i ++ (ins ++ l.drop i))).length = n + (pack ins).length) := by
    have h1 : pack l = pack (l.take i) ++ pack (l.drop i) := by rw [← pack_append, List.take_append_drop]
    have h2 := HN.out
    show _ = _
    rw [pack_append, pack_append, List.length_append, List.length_append]
    rw [h1, List.length_append] at h2
    omega
  have HBy := Bytes_any a6 n6 c6 _ _ HO6.out.rd (by
    have h1 := HO6.out.len
    rw [List.length_append, List.length_append, List.length_take, List.length_drop] at h1
    have := HSs.out.1
    have := HL.out
    omega) HF6.out
  have HPt : Hid ((pack ins).length ≤ 50000) := HSs.out.pack 5000 50000 (by omega) (by omega)
  go_wp2_with fail
  refine HBy.mono ?_
  rintro e w2 ⟨hb, a7, n7, c7, rfl, hO7⟩
  have HB2 := step_below HBc hb
  have HN7 : Hid (n7 = n + (pack ins).length) := by have := hO7.len; have := HPL.out; show _ = _; omega
  have HO2 : Hid (OwnS w2 w1.heap.size a6 n6 c6 (l.take i ++ (ins ++ l.drop i))) := HO6.out.keep hb
  have HI2 : Hid (OwnS w2 _ ia im ic ins) := (HO1.out.keep HB6.out).keep hb
  have HX2 : Hid (Xb w2 w.heap.size 1 i N xa xn xc) := (HX1.out.keep HB6.out).keep hb
  have hx2 := HX2.out.c1
  have hPk := HP.out.keep HB2.out
  have hn7b : n7 ≤ 200000 := by have := HN7.out; have := HPt.out; omega
  clear hb hO7 HBy
  by_cases hx : 65536 < n7
  · have HIn := Insert_full B p a n c l i ia im ic ins w2 hPk HF.out hn HI.out HI2.out.rd HLo.out (by omega) (by have := HN7.out; omega)
    have hx7 : (65536 : Int) < n7 := by omega
    have HE : Hid (l' = l) := by have := HN7.out; show _ = _; rw [HL'.out, if_pos (by omega)]
    clear hPk
    go_wp2_with fail
    refine HIn.mono ?_
    rintro e w3 ⟨hb, rfl⟩
    have HB3 := step_below HB2 hb
    clear hb
    go_wp2
    go_ret2
    rw [HE.out]
    exact ⟨HB3.out.mono hBw, _, _, _, _, _, _, rfl, HP.out.keep HB3.out, HO.out.keep HB3.out⟩
  · have HIn := Insert_ok B p a n c l i ia im ic ins w2 hPk HF.out hn HI.out HI2.out.rd HLo.out (by omega) (by have := HN7.out; omega)
    have hx7 : ¬ ((65536 : Int) < n7) := by omega
    have HE : Hid (l' = l.take i ++ (ins ++ l.drop i)) := by have := HN7.out; show _ = _; rw [HL'.out, if_neg (by omega)]
    have HPk : Hid (Pk w2 B p a n c l) := hPk
    clear hPk
    go_wp2_with fail
    refine HIn.mono ?_
    rintro e w3 ⟨rfl, hM, a3, n3, c3, hP3, -⟩
    have HB3 : Hid (Below B w w3) := (HB2.out.mono hBw).trans (hM.below HPk.out)
    have HO3 : Hid (OwnS w3 w1.heap.size a6 n6 c6 (l.take i ++ (ins ++ l.drop i))) := HO2.out.moves hM HPk.out
    have HP3 : Hid (Pk w3 B p a3 n3 c3 (l.take i ++ (ins ++ l.drop i))) := hP3
    clear hM hP3
    go_wp2
    go_ret2
    rw [HE.out]
    exact ⟨HB3.out, _, _, _, _, _, _, rfl, HP3.out, HO3.out.lowS (Nat.le_trans hBw HB1.out.size)⟩
end Go.Proofs.Ytemiajjjhhofaaa
