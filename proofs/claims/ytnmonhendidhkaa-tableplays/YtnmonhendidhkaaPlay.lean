/-
  The law's play: calls, by the program and by plain lists.
-/
import Derived.Test.YtnmonhendidhkaaParts
namespace Go.Proofs.Ytnmonhendidhkaa
open Go.RowKit Go.PlainAid

theorem keys_zip {ks : List ByteArray} {vs : List Int} (h : ks.length = vs.length) : keysOf (ks.zip vs) = ks := List.map_fst_zip (by omega)
theorem zip_parts {ks : List ByteArray} {vs : List Int} {t : Nat} (h1 : t < ks.length) (h2 : t < vs.length) : ks.zip vs = (ks.take t).zip (vs.take t) ++ (ks.getD t ⟨#[]⟩, vs.getD t 0) :: (ks.drop (t + 1)).zip (vs.drop (t + 1)) := by
  have e1 : ks = ks.take t ++ ks.getD t ⟨#[]⟩ :: ks.drop (t + 1) := by
    rw [List.getD_eq_getElem?_getD, List.getElem?_eq_getElem h1, Option.getD_some, ← List.drop_eq_getElem_cons h1, List.take_append_drop]
  have e2 : vs = vs.take t ++ vs.getD t 0 :: vs.drop (t + 1) := by
    rw [List.getD_eq_getElem?_getD, List.getElem?_eq_getElem h2, Option.getD_some, ← List.drop_eq_getElem_cons h2, List.take_append_drop]
  conv => lhs; rw [e1, e2, List.zip_append (by rw [List.length_take, List.length_take]; omega), List.zip_cons_cons]
theorem zip_set {ks : List ByteArray} {vs : List Int} {t : Nat} (h1 : t < ks.length) (h2 : t < vs.length) (v : Int) : ks.zip (vs.set t v) = (ks.take t).zip (vs.take t) ++ (ks.getD t ⟨#[]⟩, v) :: (ks.drop (t + 1)).zip (vs.drop (t + 1)) := by
  rw [zip_parts h1 (by rw [List.length_set]; exact h2)]
  rw [List.getD_eq_getElem?_getD (l := vs.set t v), List.getElem?_set_self h2, Option.getD_some, List.take_set_of_le (Nat.le_refl _), List.drop_set_of_lt (by omega)]
theorem zip_del {ks : List ByteArray} {vs : List Int} {t : Nat} (h : ks.length = vs.length) : (ks.take t ++ ks.drop (t + 1)).zip (vs.take t ++ vs.drop (t + 1)) = (ks.take t).zip (vs.take t) ++ (ks.drop (t + 1)).zip (vs.drop (t + 1)) :=
  List.zip_append (by rw [List.length_take, List.length_take, h])
theorem zip_snoc {ks : List ByteArray} {vs : List Int} (h : ks.length = vs.length) (k : ByteArray) (v : Int) : (ks ++ [k]).zip (vs ++ [v]) = ks.zip vs ++ [(k, v)] := by
  rw [List.zip_append h]; rfl
/-- A store into a block that is none of the table's. -/
theorem Tbl.other {w : World} {B p b x g o : Nat} {es : List En} {v : Value} {cur : Array Value} {e : TypeId} (h : Tbl w B p b x es) (hg : w.heap[g]? = some (.cells cur e (0, 0))) (h1 : e ≠ 54) (h2 : e ≠ 63) : Tbl (w.setCell ⟨g, o, none⟩ v) B p b x es := by
  obtain ⟨G, z, k1, k2⟩ := h
  refine ⟨G, z, ⟨k1.top.kept (Below.heap_setCell _ _ _ _ ?_), k1.row.kept (Below.heap_setCell _ _ _ _ ?_), k1.low, k1.lowb, k1.inv, k1.seed, k1.siz⟩, k2⟩
  · rintro rfl
    rw [k1.top.blk] at hg
    simp at hg
    exact h1 hg.2.symm
  · rintro rfl
    obtain ⟨cs, h4, -⟩ := k1.row.ex
    rw [h4] at hg
    simp at hg
    exact h2 hg.2.symm
theorem OwnR.other {w : World} {B g o : Nat} {e e' : TypeId} {s : Nat} {a : Option Addr} {n cap : Nat} {cs : List Value} {v : Value} {cur : Array Value} (h : OwnR w B e s a n cap cs) (hg : w.heap[g]? = some (.cells cur e' (0, 0))) (he : e ≠ e') : OwnR (w.setCell ⟨g, o, none⟩ v) B e s a n cap cs :=
  h.kept fun k hk => Below.heap_setCell _ _ _ _ (by
    rintro rfl
    obtain ⟨-, -, cur', h3⟩ := h.lt hk
    rw [h3] at hg
    simp at hg
    exact he hg.2)
/-- Where a key is among the first j: -1, or its place. -/
def Place (ks : List ByteArray) (k : ByteArray) (j : Nat) (at' : Int) : Prop := (at' = -1 ∧ k ∉ ks.take j) ∨ ∃ t : Nat, t < j ∧ at' = (t : Int) ∧ ks.getD t ⟨#[]⟩ = k

set_option maxRecDepth 100000 in
set_option maxHeartbeats 20000000 in
theorem play_any (x : Nat) (a : Option Addr) (n cap most : Nat) (w : World) (hx : x < 18446744073709551616) (hR : RdA w a n) (hmost : most ≤ 1000) :
    Calls Try.prog 8 #[.int .u64 x, .slice a n cap, .int .i64 most] w fun e w' => e = .returned (.bool true) ∧ Below w.heap.size w w' := by
  have HN1 := fun w => NewT x w hx
  have HR : Hid (RdA w a n) := hR
  have hn : n ≤ 9223372036854775807 := hR.max
  have HKY := key_any
  clear hR
  go_enter Try.func8, Try.ntmps8
  go_wp2_with fail
  refine (HN1 _).mono ?_
  rintro e w1 ⟨hb1, p, b, rfl, hT1⟩
  have HB1 : Hid (Below w.heap.size w w1) := hb1
  have HT1 : Hid (Tbl w1 w.heap.size p b x (([] : List ByteArray).zip ([] : List Int))) := hT1
  have HK1 : Hid (OwnS w1 w.heap.size none 0 0 []) := OwnR.nil _ _ _ _
  have HV1 : Hid (OwnJ w1 w.heap.size none 0 0 []) := OwnR.nil _ _ _ _
  clear hb1 hT1 HN1
  go_wp2
  go_loopg [8, 9, 10, 11, 12, 13, 14, 15, 16] most (fun g kv vv iv sv av jv wv xv okv wr => ∃ (i b : Nat) (ka : Option Addr) (m kc : Nat) (ks : List ByteArray) (va : Option Addr) (vc : Nat) (vs : List Int), i + g = most ∧ i ≤ n ∧ iv = .int .i64 i ∧ kv = .slice ka m kc ∧ vv = .slice va m vc ∧ Hid (OwnS wr w.heap.size ka m kc ks) ∧ Hid (OwnJ wr w.heap.size va m vc vs) ∧ Hid (Tbl wr w.heap.size p b x (ks.zip vs)) ∧ Hid (Below w.heap.size w wr))
  case atStart => exact ⟨0, b, none, 0, 0, [], none, 0, [], by omega, Nat.zero_le _, rfl, rfl, rfl, HK1, HV1, HT1, HB1⟩
  case round =>
    clear HT1 HB1 HK1 HV1
    obtain ⟨i, b, ka, m, kc, ks, va, vc, vs, hi, hin, rfl, rfl, rfl, HK, HV, HT, HB⟩ := hrel
    obtain ⟨ga, hga⟩ : ∃ ga, ga = gk := ⟨_, rfl⟩
    subst hga
    have HI : Hid (i + ga = most) := hi
    have HLk : Hid (ks.length = m) := OwnS.len HK.out
    have HLv : Hid (vs.length = m) := OwnJ.len HV.out
    have hm : m ≤ 112 := by
      have h1 := HT.out.le
      rw [List.length_zip, HLk.out, HLv.out] at h1
      omega
    by_cases hgo : (i : Int) < n ∧ (i : Int) < most
    · obtain ⟨h1, h2⟩ := hgo
      have h1' : i < n := by omega
      obtain ⟨bb, off, ha, kind, N, V, S, c0, c1, c2, c3⟩ := (HR.out.keep HB.out).elem i h1'
      subst ha
      have hlt : bb < wr.heap.size := World.block_lt_of_cell? _ _ c0
      clear hi
      go_wp2_with fail
      refine (HKY kind N V S _).mono ?_
      rintro e w3 ⟨hb3, k, rfl, hk⟩
      have hk' : k.size ≤ maxLen := by unfold maxLen; omega
      have d0 : w3.cell? ⟨bb, off + i * 4, none⟩ = some (.int .i64 kind) := by rw [hb3.cell (p := ⟨bb, off + i * 4, none⟩) hlt]; exact c0
      have d2 : w3.cell? ⟨bb, off + i * 4 + 2, none⟩ = some (.int .i64 V) := by rw [hb3.cell (p := ⟨bb, off + i * 4 + 2, none⟩) hlt]; exact c2
      have hlt3 : bb < w3.heap.size := Nat.lt_of_lt_of_le hlt hb3.size
      have hlw : bb < w.heap.size := by
        obtain ⟨b', o', e', _, _, _, _, e0, _⟩ := HR.out.elem i h1'
        cases e'
        exact World.block_lt_of_cell? _ _ e0
      have HT3 : Hid (Tbl w3 w.heap.size p b x (ks.zip vs)) := HT.out.keep hb3
      have HK3 : Hid (OwnS w3 w.heap.size ka m kc ks) := OwnR.keep HK.out hb3
      have HV3 : Hid (OwnJ w3 w.heap.size va m vc vs) := OwnR.keep HV.out hb3
      have HB3 := step_below HB hb3
      clear hb3 c0 c1 c2 c3 HT HK HV HB hk HKY hlt
      go_wp2
      go_loopg [12, 13] m (fun q av jv wr => w3 = wr ∧ ∃ (j : Nat) (at' : Int), j + q = m ∧ jv = .int .i64 j ∧ av = .int .i64 at' ∧ -1 ≤ at' ∧ at' < m ∧ Hid (Place ks k j at'))
      case atStart => exact ⟨rfl, 0, -1, by omega, rfl, rfl, by omega, by omega, .inl ⟨rfl, by simp⟩⟩
      case round =>
        obtain ⟨rfl, j, at', hj, rfl, rfl, ha1, ha2, HPl⟩ := hrel
        by_cases hjm : (j : Int) < m
        · obtain ⟨gs, hgs, hcs⟩ := OwnS.cell HK3.out (j := j) (by omega)
          subst hgs
          have HTS : Hid (ks.take (j + 1) = ks.take j ++ [ks.getD j ⟨#[]⟩]) := take_snoc ks _ j (by have := HLk.out; omega)
          obtain ⟨kj, hkj⟩ : ∃ kj, ks.getD j ⟨#[]⟩ = kj := ⟨_, rfl⟩
          have HKj : Hid (ks.getD j ⟨#[]⟩ = kj) := hkj
          rw [hkj] at hcs HTS
          clear hkj d0 d2
          by_cases hek : kj = k
          · subst hek
            go_wp2
            go_roundg (gk - 1)
            case measure => omega
            case rel => exact ⟨rfl, j + 1, j, by omega, by go_num, rfl, by omega, by omega, .inr ⟨j, by omega, rfl, HKj.out⟩⟩
          · have hkb : (kj.toList == k.toList) = false := by rw [str_beq]; exact decide_eq_false hek
            have HPl2 : Hid (Place ks k (j + 1) at') := by
              rcases HPl.out with ⟨e1, e2⟩ | ⟨t, e1, e2, e3⟩
              · refine .inl ⟨e1, fun hm => ?_⟩
                rw [HTS.out] at hm
                rcases List.mem_append.1 hm with hm | hm
                · exact e2 hm
                · exact hek (List.mem_singleton.1 hm).symm
              · exact .inr ⟨t, by omega, e2, e3⟩
            go_wp2
            go_roundg (gk - 1)
            case measure => omega
            case rel => exact ⟨rfl, j + 1, at', by omega, by go_num, rfl, ha1, ha2, HPl2⟩
        · have hjm' : j = m := by omega
          subst hjm'
          clear hj
          rcases HPl.out with ⟨rfl, hnk⟩ | ⟨t, ht, rfl, htk⟩
          · have HNK : Hid (k ∉ keysOf (ks.zip vs)) := by
              show _ ∉ _
              rw [keys_zip (by rw [HLk.out, HLv.out])]
              rw [List.take_of_length_le (by have := HLk.out; omega)] at hnk
              exact hnk
            clear hnk ha1 ha2 HPl
            by_cases hk1 : kind = 1
            · subst hk1
              by_cases hfull : 112 ≤ (j : Int)
              · have hPu := PutT_full _ _ _ _ (ks.zip vs) k V _ HT3.out hk' HNK.out (by rw [List.length_zip, HLk.out, HLv.out]; omega)
                go_wp2_with fail
                refine hPu.mono ?_
                rintro e w5 ⟨rfl, hb5⟩
                have HK5 : Hid (OwnS w5 w.heap.size ka j kc ks) := OwnR.keep HK3.out hb5
                have HV5 : Hid (OwnJ w5 w.heap.size va j vc vs) := OwnR.keep HV3.out hb5
                have HT5 : Hid (Tbl w5 w.heap.size p b x (ks.zip vs)) := HT3.out.keep hb5
                have HB5 := step_below HB3 hb5
                clear hb5 hPu HK3 HV3 HT3 HB3 HNK d0 d2
                by_cases h5 : (i : Int).tmod 5 = 0
                · have hS := soundT _ _ _ _ _ ka j kc ks w5 HT5.out (OwnR.low HK5.out (Nat.zero_le _)) (by rw [keys_zip (by rw [OwnS.len HK5.out, OwnJ.len HV5.out])])
                  go_wp2_with fail
                  refine hS.mono ?_
                  rintro e w6 ⟨rfl, hb6⟩
                  have HK6 : Hid (OwnS w6 w.heap.size ka j kc ks) := OwnR.keep HK5.out hb6
                  have HV6 : Hid (OwnJ w6 w.heap.size va j vc vs) := OwnR.keep HV5.out hb6
                  have HT6 : Hid (Tbl w6 w.heap.size p b x ((ks).zip (vs))) := HT5.out.keep hb6
                  have HB6 := step_below HB5 hb6
                  clear hb6 hS HK5 HV5 HT5 HB5
                  go_wp2
                  go_roundg (ga - 1)
                  case measure => have := HI.out; omega
                  case rel => exact ⟨i + 1, _, _, _, _, _, _, _, _, by have := HI.out; omega, by omega, by go_num, rfl, rfl, HK6, HV6, HT6, HB6⟩
                · have h5z : ((i : Int).tmod 5 == 0) = false := by simpa using h5
                  go_wp2
                  go_roundg (ga - 1)
                  case measure => have := HI.out; omega
                  case rel => exact ⟨i + 1, _, _, _, _, _, _, _, _, by have := HI.out; omega, by omega, by go_num, rfl, rfl, HK5, HV5, HT5, HB5⟩
              · have hjl : j < 112 := by omega
                have HZN : Hid (ks.zip vs ++ [(k, V)] = (ks ++ [k]).zip (vs ++ [V])) := (zip_snoc (by rw [HLk.out, HLv.out]) k V).symm
                have hwsz := HB3.out.size
                have HVc : Hid (∀ w', Below w.heap.size w w' → w'.cell? ⟨bb, off + i * 4 + 2, none⟩ = some (.int .i64 V)) := by
                  intro w' hb
                  have h1 := d2
                  rw [HB3.out.cell (p := ⟨bb, off + i * 4 + 2, none⟩) hlw] at h1
                  rw [hb.cell (p := ⟨bb, off + i * 4 + 2, none⟩) hlw]
                  exact h1
                obtain ⟨q, hq⟩ : ∃ q, w3.heap.size = q := ⟨_, rfl⟩
                have HQ : Hid (w3.heap.size = q) := hq
                have HX0 : Hid (Below w3.heap.size w3 w3.drew) := below_drewN w3 1
                have HXA : Hid (Below w3.heap.size w3 (w3.alloc (.cells #[.string k] 9)).drew) := (alloc_below w3 _).drew
                have HXB : Hid (Below w3.heap.size w3 (w3.alloc (.cells #[.int .i64 V] 3)).drew) := (alloc_below w3 _).drew
                have HXAB : Hid (Below w3.heap.size w3 ((w3.alloc (.cells #[.string k] 9)).alloc (.cells #[.int .i64 V] 3)).drew) := (alloc2_below w3 _ _).drew
                have HXBA : Hid (Below w3.heap.size w3 ((w3.alloc (.cells #[.int .i64 V] 3)).alloc (.cells #[.string k] 9)).drew) := (alloc2_below w3 _ _).drew
                have HA1 : Hid (RdR (w3.alloc (.cells #[.string k] 9)).drew (some ⟨q, 0, none⟩) 1 1 [.string k]) := by rw [← hq]; exact (RdR.made1 w3 9 (.string k)).keep (below_drewN _ 1)
                have HB1' : Hid (RdR (w3.alloc (.cells #[.int .i64 V] 3)).drew (some ⟨q, 0, none⟩) 1 1 [.int .i64 V]) := by rw [← hq]; exact (RdR.made1 w3 3 (.int .i64 V)).keep (below_drewN _ 1)
                have hpush : ∀ o, (w3.alloc o).heap.size = q + 1 := fun o => by rw [← hq]; simp
                have HA2 : Hid (RdR ((w3.alloc (.cells #[.string k] 9)).alloc (.cells #[.int .i64 V] 3)).drew (some ⟨q, 0, none⟩) 1 1 [.string k]) := by rw [← hq]; exact ((RdR.made1 w3 9 (.string k)).keep (alloc_below _ _)).keep (below_drewN _ 1)
                have HB2' : Hid (RdR ((w3.alloc (.cells #[.string k] 9)).alloc (.cells #[.int .i64 V] 3)).drew (some ⟨q + 1, 0, none⟩) 1 1 [.int .i64 V]) := by rw [← hpush (.cells #[.string k] 9)]; exact (RdR.made1 (w3.alloc (.cells #[.string k] 9)) 3 (.int .i64 V)).keep (below_drewN _ 1)
                have HA3 : Hid (RdR ((w3.alloc (.cells #[.int .i64 V] 3)).alloc (.cells #[.string k] 9)).drew (some ⟨q + 1, 0, none⟩) 1 1 [.string k]) := by rw [← hpush (.cells #[.int .i64 V] 3)]; exact (RdR.made1 (w3.alloc (.cells #[.int .i64 V] 3)) 9 (.string k)).keep (below_drewN _ 1)
                have HB3' : Hid (RdR ((w3.alloc (.cells #[.int .i64 V] 3)).alloc (.cells #[.string k] 9)).drew (some ⟨q, 0, none⟩) 1 1 [.int .i64 V]) := by rw [← hq]; exact ((RdR.made1 w3 3 (.int .i64 V)).keep (alloc_below _ _)).keep (below_drewN _ 1)
                have HKb : Hid (∀ g, ka.map (·.block) = some g → g < q) := fun g hg => by have := (OwnR.lt HK3.out hg).2.1; omega
                have HVb : Hid (∀ g, va.map (·.block) = some g → g < q) := fun g hg => by have := (OwnR.lt HV3.out hg).2.1; omega
                have HN1 : Hid ((j + 1) * 16 ≤ 140737488355328 ∧ (j + 1) * 8 ≤ 140737488355328 ∧ j + 1 ≤ maxLen) := ⟨by omega, by omega, by unfold maxLen; omega⟩
                clear hpush
                go_upto_region 26 with fail
                go_cut [8, 9] from 102 to 113 (fun v8 v9 wx => ∃ (ka5 : Option Addr) (kc5 : Nat) (va5 : Option Addr) (vc5 : Nat), v8 = .slice ka5 (j + 1) kc5 ∧ v9 = .slice va5 (j + 1) vc5 ∧ Hid (OwnS wx w.heap.size ka5 (j + 1) kc5 (ks ++ [k])) ∧ Hid (OwnJ wx w.heap.size va5 (j + 1) vc5 (vs ++ [V])) ∧ Hid (Tbl wx w.heap.size p b x (ks.zip vs)) ∧ Hid (Below w.heap.size w wx))
                case first =>
                  go_region_held3 (fun w' => w'.cell? ⟨bb, off + i * 4 + 2, none⟩ = some (.int .i64 V)) (first
                    | exact HVc.out _ (HB3.out.trans (HX0.out.mono hwsz)) | exact HVc.out _ (HB3.out.trans (HXA.out.mono hwsz)) | exact HVc.out _ (HB3.out.trans (HXB.out.mono hwsz)) | exact HVc.out _ (HB3.out.trans (HXAB.out.mono hwsz)) | exact HVc.out _ (HB3.out.trans (HXBA.out.mono hwsz))
                    | exact HVc.out _ HDz.out | exact HVc.out _ HDy.out | exact HVc.out _ (HDy.out.trans ((alloc_below _ _).mono HDy.out.size))) (first
                    | (refine step_append_p rfl (.tmp 102) (.tmp 104) rfl eltS w.heap.size (by simp [Act.eval] <;> rfl) HKy.out (by simp [Act.eval] <;> rfl) HAy.out (by simp [Value.oneCell']) HN1.out.1 HN1.out.2.2 HDy.out.size ?_; intro a7 n7 c7 wz hn7 HO7 HG7; subst hn7; have HKz : Hid (OwnS wz w.heap.size a7 (j + 1) c7 (ks ++ [k])) := (by show OwnR _ _ _ _ _ _ _ _; rw [scells_append]; exact HO7.out); have HVz : Hid (OwnJ wz w.heap.size a4 (j + 1) c4 (vs ++ [V])) := OwnR.grown HVy.out HG7.out (fun g hg e => OwnR.apart HVy.out HKy.out (by decide) g hg e); have HTz : Hid (Tbl wz w.heap.size p b x (ks.zip vs)) := HTy.out.grown HKy.out HG7.out (by decide) (by decide); have HDz : Hid (Below w.heap.size w wz) := HDy.out.trans (OwnR.below HKy.out HG7.out HDy.out.size); clear HO7 HG7)
                    | (refine step_append_p rfl (.tmp 102) (.tmp 104) rfl eltS w.heap.size (by simp [Act.eval] <;> rfl) (OwnR.keep HKy.out (alloc_below wy (.cells #[.string k] 9))) (by simp [Act.eval] <;> rfl) (RdR.made1 wy 9 (.string k)) (by simp [Value.oneCell']) HN1.out.1 HN1.out.2.2 (Nat.le_trans HDy.out.size (alloc_below wy (.cells #[.string k] 9)).size) ?_; intro a7 n7 c7 wz hn7 HO7 HG7; subst hn7; have HKz : Hid (OwnS wz w.heap.size a7 (j + 1) c7 (ks ++ [k])) := (by show OwnR _ _ _ _ _ _ _ _; rw [scells_append]; exact HO7.out); have HVz : Hid (OwnJ wz w.heap.size a4 (j + 1) c4 (vs ++ [V])) := OwnR.grown (OwnR.keep HVy.out (alloc_below wy (.cells #[.string k] 9))) HG7.out (fun g hg e => OwnR.apart (OwnR.keep HVy.out (alloc_below wy (.cells #[.string k] 9))) (OwnR.keep HKy.out (alloc_below wy (.cells #[.string k] 9))) (by decide) g hg e); have HTz : Hid (Tbl wz w.heap.size p b x (ks.zip vs)) := (HTy.out.keep (alloc_below wy (.cells #[.string k] 9))).grown (OwnR.keep HKy.out (alloc_below wy (.cells #[.string k] 9))) HG7.out (by decide) (by decide); have HDz : Hid (Below w.heap.size w wz) := (HDy.out.trans ((alloc_below wy (.cells #[.string k] 9)).mono HDy.out.size)).trans (OwnR.below (OwnR.keep HKy.out (alloc_below wy (.cells #[.string k] 9))) HG7.out (Nat.le_trans HDy.out.size (alloc_below wy (.cells #[.string k] 9)).size)); clear HO7 HG7)
                    | (refine step_append_p rfl (.tmp 106) (.tmp 112) rfl eltJ w.heap.size (by simp [Act.eval] <;> rfl) HVy.out (by simp [Act.eval] <;> rfl) HBy.out (by simp [Value.oneCell']) HN1.out.2.1 HN1.out.2.2 HDy.out.size ?_; intro a7 n7 c7 wz hn7 HO7 HG7; subst hn7; have HVz : Hid (OwnJ wz w.heap.size a7 (j + 1) c7 (vs ++ [V])) := (by show OwnR _ _ _ _ _ _ _ _; rw [jcells_append]; exact HO7.out); have HKz : Hid (OwnS wz w.heap.size a4 (j + 1) c4 (ks ++ [k])) := OwnR.grown HKy.out HG7.out (fun g hg e => OwnR.apart HKy.out HVy.out (by decide) g hg e); have HTz : Hid (Tbl wz w.heap.size p b x (ks.zip vs)) := HTy.out.grown HVy.out HG7.out (by decide) (by decide); have HDz : Hid (Below w.heap.size w wz) := HDy.out.trans (OwnR.below HVy.out HG7.out HDy.out.size); clear HO7 HG7)
                    | (refine step_append_p rfl (.tmp 106) (.tmp 112) rfl eltJ w.heap.size (by simp [Act.eval] <;> rfl) (OwnR.keep HVy.out (alloc_below wy (.cells #[.int .i64 V] 3))) (by simp [Act.eval] <;> rfl) (RdR.made1 wy 3 (.int .i64 V)) (by simp [Value.oneCell']) HN1.out.2.1 HN1.out.2.2 (Nat.le_trans HDy.out.size (alloc_below wy (.cells #[.int .i64 V] 3)).size) ?_; intro a7 n7 c7 wz hn7 HO7 HG7; subst hn7; have HVz : Hid (OwnJ wz w.heap.size a7 (j + 1) c7 (vs ++ [V])) := (by show OwnR _ _ _ _ _ _ _ _; rw [jcells_append]; exact HO7.out); have HKz : Hid (OwnS wz w.heap.size a4 (j + 1) c4 (ks ++ [k])) := OwnR.grown (OwnR.keep HKy.out (alloc_below wy (.cells #[.int .i64 V] 3))) HG7.out (fun g hg e => OwnR.apart (OwnR.keep HKy.out (alloc_below wy (.cells #[.int .i64 V] 3))) (OwnR.keep HVy.out (alloc_below wy (.cells #[.int .i64 V] 3))) (by decide) g hg e); have HTz : Hid (Tbl wz w.heap.size p b x (ks.zip vs)) := (HTy.out.keep (alloc_below wy (.cells #[.int .i64 V] 3))).grown (OwnR.keep HVy.out (alloc_below wy (.cells #[.int .i64 V] 3))) HG7.out (by decide) (by decide); have HDz : Hid (Below w.heap.size w wz) := (HDy.out.trans ((alloc_below wy (.cells #[.int .i64 V] 3)).mono HDy.out.size)).trans (OwnR.below (OwnR.keep HVy.out (alloc_below wy (.cells #[.int .i64 V] 3))) HG7.out (Nat.le_trans HDy.out.size (alloc_below wy (.cells #[.int .i64 V] 3)).size)); clear HO7 HG7)
                    | (refine step_append_p rfl (.tmp 102) (.tmp 104) rfl eltS w.heap.size (by simp [Act.eval] <;> rfl) (OwnR.keep HK3.out HXA.out) (by simp [Act.eval] <;> rfl) HA1.out (by simp [Value.oneCell']) HN1.out.1 HN1.out.2.2 (Nat.le_trans hwsz HXA.out.size) ?_; intro a4 n4 c4 wy hn4 HO4 HG4; subst hn4; have HKy : Hid (OwnS wy w.heap.size a4 (j + 1) c4 (ks ++ [k])) := (by show OwnR _ _ _ _ _ _ _ _; rw [scells_append]; exact HO4.out); have HVy : Hid (OwnJ wy w.heap.size va j vc vs) := OwnR.grown (OwnR.keep HV3.out HXA.out) HG4.out (fun g hg e => OwnR.apart (OwnR.keep HV3.out HXA.out) (OwnR.keep HK3.out HXA.out) (by decide) g hg e); have HTy : Hid (Tbl wy w.heap.size p b x (ks.zip vs)) := (HT3.out.keep HXA.out).grown (OwnR.keep HK3.out HXA.out) HG4.out (by decide) (by decide); have HDy : Hid (Below w.heap.size w wy) := (HB3.out.trans (HXA.out.mono hwsz)).trans ((OwnR.keep HK3.out HXA.out).below HG4.out (Nat.le_trans hwsz HXA.out.size)); clear HO4 HG4)
                    | (refine step_append_p rfl (.tmp 102) (.tmp 104) rfl eltS w.heap.size (by simp [Act.eval] <;> rfl) (OwnR.keep HK3.out HXAB.out) (by simp [Act.eval] <;> rfl) HA2.out (by simp [Value.oneCell']) HN1.out.1 HN1.out.2.2 (Nat.le_trans hwsz HXAB.out.size) ?_; intro a4 n4 c4 wy hn4 HO4 HG4; subst hn4; have HKy : Hid (OwnS wy w.heap.size a4 (j + 1) c4 (ks ++ [k])) := (by show OwnR _ _ _ _ _ _ _ _; rw [scells_append]; exact HO4.out); have HVy : Hid (OwnJ wy w.heap.size va j vc vs) := OwnR.grown (OwnR.keep HV3.out HXAB.out) HG4.out (fun g hg e => OwnR.apart (OwnR.keep HV3.out HXAB.out) (OwnR.keep HK3.out HXAB.out) (by decide) g hg e); have HTy : Hid (Tbl wy w.heap.size p b x (ks.zip vs)) := (HT3.out.keep HXAB.out).grown (OwnR.keep HK3.out HXAB.out) HG4.out (by decide) (by decide); have HDy : Hid (Below w.heap.size w wy) := (HB3.out.trans (HXAB.out.mono hwsz)).trans ((OwnR.keep HK3.out HXAB.out).below HG4.out (Nat.le_trans hwsz HXAB.out.size)); have HBy : Hid (RdR wy (some ⟨q + 1, 0, none⟩) 1 1 [.int .i64 V]) := HB2'.out.grown HG4.out (fun e => by have := HKb.out _ e; omega); clear HO4 HG4)
                    | (refine step_append_p rfl (.tmp 102) (.tmp 104) rfl eltS w.heap.size (by simp [Act.eval] <;> rfl) (OwnR.keep HK3.out HXBA.out) (by simp [Act.eval] <;> rfl) HA3.out (by simp [Value.oneCell']) HN1.out.1 HN1.out.2.2 (Nat.le_trans hwsz HXBA.out.size) ?_; intro a4 n4 c4 wy hn4 HO4 HG4; subst hn4; have HKy : Hid (OwnS wy w.heap.size a4 (j + 1) c4 (ks ++ [k])) := (by show OwnR _ _ _ _ _ _ _ _; rw [scells_append]; exact HO4.out); have HVy : Hid (OwnJ wy w.heap.size va j vc vs) := OwnR.grown (OwnR.keep HV3.out HXBA.out) HG4.out (fun g hg e => OwnR.apart (OwnR.keep HV3.out HXBA.out) (OwnR.keep HK3.out HXBA.out) (by decide) g hg e); have HTy : Hid (Tbl wy w.heap.size p b x (ks.zip vs)) := (HT3.out.keep HXBA.out).grown (OwnR.keep HK3.out HXBA.out) HG4.out (by decide) (by decide); have HDy : Hid (Below w.heap.size w wy) := (HB3.out.trans (HXBA.out.mono hwsz)).trans ((OwnR.keep HK3.out HXBA.out).below HG4.out (Nat.le_trans hwsz HXBA.out.size)); have HBy : Hid (RdR wy (some ⟨q, 0, none⟩) 1 1 [.int .i64 V]) := HB3'.out.grown HG4.out (fun e => by have := HKb.out _ e; omega); clear HO4 HG4)
                    | (refine step_append_p rfl (.tmp 106) (.tmp 112) rfl eltJ w.heap.size (by simp [Act.eval] <;> rfl) (OwnR.keep HV3.out HXB.out) (by simp [Act.eval] <;> rfl) HB1'.out (by simp [Value.oneCell']) HN1.out.2.1 HN1.out.2.2 (Nat.le_trans hwsz HXB.out.size) ?_; intro a4 n4 c4 wy hn4 HO4 HG4; subst hn4; have HVy : Hid (OwnJ wy w.heap.size a4 (j + 1) c4 (vs ++ [V])) := (by show OwnR _ _ _ _ _ _ _ _; rw [jcells_append]; exact HO4.out); have HKy : Hid (OwnS wy w.heap.size ka j kc ks) := OwnR.grown (OwnR.keep HK3.out HXB.out) HG4.out (fun g hg e => OwnR.apart (OwnR.keep HK3.out HXB.out) (OwnR.keep HV3.out HXB.out) (by decide) g hg e); have HTy : Hid (Tbl wy w.heap.size p b x (ks.zip vs)) := (HT3.out.keep HXB.out).grown (OwnR.keep HV3.out HXB.out) HG4.out (by decide) (by decide); have HDy : Hid (Below w.heap.size w wy) := (HB3.out.trans (HXB.out.mono hwsz)).trans ((OwnR.keep HV3.out HXB.out).below HG4.out (Nat.le_trans hwsz HXB.out.size)); clear HO4 HG4)
                    | (refine step_append_p rfl (.tmp 106) (.tmp 112) rfl eltJ w.heap.size (by simp [Act.eval] <;> rfl) (OwnR.keep HV3.out HXAB.out) (by simp [Act.eval] <;> rfl) HB2'.out (by simp [Value.oneCell']) HN1.out.2.1 HN1.out.2.2 (Nat.le_trans hwsz HXAB.out.size) ?_; intro a4 n4 c4 wy hn4 HO4 HG4; subst hn4; have HVy : Hid (OwnJ wy w.heap.size a4 (j + 1) c4 (vs ++ [V])) := (by show OwnR _ _ _ _ _ _ _ _; rw [jcells_append]; exact HO4.out); have HKy : Hid (OwnS wy w.heap.size ka j kc ks) := OwnR.grown (OwnR.keep HK3.out HXAB.out) HG4.out (fun g hg e => OwnR.apart (OwnR.keep HK3.out HXAB.out) (OwnR.keep HV3.out HXAB.out) (by decide) g hg e); have HTy : Hid (Tbl wy w.heap.size p b x (ks.zip vs)) := (HT3.out.keep HXAB.out).grown (OwnR.keep HV3.out HXAB.out) HG4.out (by decide) (by decide); have HDy : Hid (Below w.heap.size w wy) := (HB3.out.trans (HXAB.out.mono hwsz)).trans ((OwnR.keep HV3.out HXAB.out).below HG4.out (Nat.le_trans hwsz HXAB.out.size)); have HAy : Hid (RdR wy (some ⟨q, 0, none⟩) 1 1 [.string k]) := HA2.out.grown HG4.out (fun e => by have := HVb.out _ e; omega); clear HO4 HG4)
                    | (refine step_append_p rfl (.tmp 106) (.tmp 112) rfl eltJ w.heap.size (by simp [Act.eval] <;> rfl) (OwnR.keep HV3.out HXBA.out) (by simp [Act.eval] <;> rfl) HB3'.out (by simp [Value.oneCell']) HN1.out.2.1 HN1.out.2.2 (Nat.le_trans hwsz HXBA.out.size) ?_; intro a4 n4 c4 wy hn4 HO4 HG4; subst hn4; have HVy : Hid (OwnJ wy w.heap.size a4 (j + 1) c4 (vs ++ [V])) := (by show OwnR _ _ _ _ _ _ _ _; rw [jcells_append]; exact HO4.out); have HKy : Hid (OwnS wy w.heap.size ka j kc ks) := OwnR.grown (OwnR.keep HK3.out HXBA.out) HG4.out (fun g hg e => OwnR.apart (OwnR.keep HK3.out HXBA.out) (OwnR.keep HV3.out HXBA.out) (by decide) g hg e); have HTy : Hid (Tbl wy w.heap.size p b x (ks.zip vs)) := (HT3.out.keep HXBA.out).grown (OwnR.keep HV3.out HXBA.out) HG4.out (by decide) (by decide); have HDy : Hid (Below w.heap.size w wy) := (HB3.out.trans (HXBA.out.mono hwsz)).trans ((OwnR.keep HV3.out HXBA.out).below HG4.out (Nat.le_trans hwsz HXBA.out.size)); have HAy : Hid (RdR wy (some ⟨q + 1, 0, none⟩) 1 1 [.string k]) := HA3.out.grown HG4.out (fun e => by have := HVb.out _ e; omega); clear HO4 HG4))
                  all_goals (go_wp2; go_meet; exact ⟨_, _, _, _, rfl, rfl, HKz, HVz, HTz, HDz⟩)
                case rest =>
                clear HX0 HXA HXB HXAB HXBA HA1 HA2 HA3 HB1' HB2' HB3' HKb HVb HN1 HK3 HV3 HT3 HQ hq d2 d0
                obtain ⟨ka5, kc5, va5, vc5, rfl, rfl, HK4, HV4, HT4, HB4⟩ := hcut
                have e2 := HVc.out _ HB4.out
                have hPu := PutT_new _ _ _ _ (ks.zip vs) k V _ HT4.out hk' HNK.out (by rw [List.length_zip, HLk.out, HLv.out]; omega)
                rw [HZN.out] at hPu
                go_wp2_with fail
                refine hPu.mono ?_
                rintro e w5 ⟨rfl, hm5, b5, hT5, hb5⟩
                have HK5 : Hid (OwnS w5 w.heap.size ka5 (j + 1) kc5 (ks ++ [k])) := OwnR.movesT HK4.out hm5 HT4.out (by decide) (by decide)
                have HV5 : Hid (OwnJ w5 w.heap.size va5 (j + 1) vc5 (vs ++ [V])) := OwnR.movesT HV4.out hm5 HT4.out (by decide) (by decide)
                have HT5 : Hid (Tbl w5 w.heap.size p b5 x ((ks ++ [k]).zip (vs ++ [V]))) := hT5
                have HB5 : Hid (Below w.heap.size w w5) := HB4.out.trans (HT4.out.below hm5)
                clear hm5 hT5 hb5 hPu HK4 HV4 HT4 HB4 e2 HVc HB3 HNK HZN
                by_cases h5 : (i : Int).tmod 5 = 0
                · have hS := soundT _ _ _ _ _ ka5 (j + 1) kc5 (ks ++ [k]) w5 HT5.out (OwnR.low HK5.out (Nat.zero_le _)) (by rw [keys_zip (by rw [OwnS.len HK5.out, OwnJ.len HV5.out])])
                  go_wp2_with fail
                  refine hS.mono ?_
                  rintro e w6 ⟨rfl, hb6⟩
                  have HK6 : Hid (OwnS w6 w.heap.size ka5 (j + 1) kc5 (ks ++ [k])) := OwnR.keep HK5.out hb6
                  have HV6 : Hid (OwnJ w6 w.heap.size va5 (j + 1) vc5 (vs ++ [V])) := OwnR.keep HV5.out hb6
                  have HT6 : Hid (Tbl w6 w.heap.size p b5 x (((ks ++ [k])).zip ((vs ++ [V])))) := HT5.out.keep hb6
                  have HB6 := step_below HB5 hb6
                  clear hb6 hS HK5 HV5 HT5 HB5
                  go_wp2
                  go_roundg (ga - 1)
                  case measure => have := HI.out; omega
                  case rel => exact ⟨i + 1, _, _, _, _, _, _, _, _, by have := HI.out; omega, by omega, by go_num, rfl, rfl, HK6, HV6, HT6, HB6⟩
                · have h5z : ((i : Int).tmod 5 == 0) = false := by simpa using h5
                  go_wp2
                  go_roundg (ga - 1)
                  case measure => have := HI.out; omega
                  case rel => exact ⟨i + 1, _, _, _, _, _, _, _, _, by have := HI.out; omega, by omega, by go_num, rfl, rfl, HK5, HV5, HT5, HB5⟩
            · have hk1z : (kind == 1) = false := by simpa using hk1
              by_cases hk2 : kind = 2
              · subst hk2
                have hDe := DeleteT_no _ _ _ _ (ks.zip vs) k _ HT3.out hk' HNK.out
                go_wp2_with fail
                refine hDe.mono ?_
                rintro e w5 ⟨rfl, hb5⟩
                have HK5 : Hid (OwnS w5 w.heap.size ka j kc ks) := OwnR.keep HK3.out hb5
                have HV5 : Hid (OwnJ w5 w.heap.size va j vc vs) := OwnR.keep HV3.out hb5
                have HT5 : Hid (Tbl w5 w.heap.size p b x (ks.zip vs)) := HT3.out.keep hb5
                have HB5 := step_below HB3 hb5
                clear hb5 hDe HK3 HV3 HT3 HB3 HNK d0 d2
                by_cases h5 : (i : Int).tmod 5 = 0
                · have hS := soundT _ _ _ _ _ ka j kc ks w5 HT5.out (OwnR.low HK5.out (Nat.zero_le _)) (by rw [keys_zip (by rw [OwnS.len HK5.out, OwnJ.len HV5.out])])
                  go_wp2_with fail
                  refine hS.mono ?_
                  rintro e w6 ⟨rfl, hb6⟩
                  have HK6 : Hid (OwnS w6 w.heap.size ka j kc ks) := OwnR.keep HK5.out hb6
                  have HV6 : Hid (OwnJ w6 w.heap.size va j vc vs) := OwnR.keep HV5.out hb6
                  have HT6 : Hid (Tbl w6 w.heap.size p b x ((ks).zip (vs))) := HT5.out.keep hb6
                  have HB6 := step_below HB5 hb6
                  clear hb6 hS HK5 HV5 HT5 HB5
                  go_wp2
                  go_roundg (ga - 1)
                  case measure => have := HI.out; omega
                  case rel => exact ⟨i + 1, _, _, _, _, _, _, _, _, by have := HI.out; omega, by omega, by go_num, rfl, rfl, HK6, HV6, HT6, HB6⟩
                · have h5z : ((i : Int).tmod 5 == 0) = false := by simpa using h5
                  go_wp2
                  go_roundg (ga - 1)
                  case measure => have := HI.out; omega
                  case rel => exact ⟨i + 1, _, _, _, _, _, _, _, _, by have := HI.out; omega, by omega, by go_num, rfl, rfl, HK5, HV5, HT5, HB5⟩
              · have hk2z : (kind == 2) = false := by simpa using hk2
                have hGe := GetT_none _ _ _ _ (ks.zip vs) k _ HT3.out hk' HNK.out
                go_wp2_with fail
                refine hGe.mono ?_
                rintro e w5 ⟨rfl, hb5⟩
                have HK5 : Hid (OwnS w5 w.heap.size ka j kc ks) := OwnR.keep HK3.out hb5
                have HV5 : Hid (OwnJ w5 w.heap.size va j vc vs) := OwnR.keep HV3.out hb5
                have HT5 : Hid (Tbl w5 w.heap.size p b x (ks.zip vs)) := HT3.out.keep hb5
                have HB5 := step_below HB3 hb5
                clear hb5 hGe HK3 HV3 HT3 HB3 HNK d0 d2
                by_cases h5 : (i : Int).tmod 5 = 0
                · have hS := soundT _ _ _ _ _ ka j kc ks w5 HT5.out (OwnR.low HK5.out (Nat.zero_le _)) (by rw [keys_zip (by rw [OwnS.len HK5.out, OwnJ.len HV5.out])])
                  go_wp2_with fail
                  refine hS.mono ?_
                  rintro e w6 ⟨rfl, hb6⟩
                  have HK6 : Hid (OwnS w6 w.heap.size ka j kc ks) := OwnR.keep HK5.out hb6
                  have HV6 : Hid (OwnJ w6 w.heap.size va j vc vs) := OwnR.keep HV5.out hb6
                  have HT6 : Hid (Tbl w6 w.heap.size p b x ((ks).zip (vs))) := HT5.out.keep hb6
                  have HB6 := step_below HB5 hb6
                  clear hb6 hS HK5 HV5 HT5 HB5
                  go_wp2
                  go_roundg (ga - 1)
                  case measure => have := HI.out; omega
                  case rel => exact ⟨i + 1, _, _, _, _, _, _, _, _, by have := HI.out; omega, by omega, by go_num, rfl, rfl, HK6, HV6, HT6, HB6⟩
                · have h5z : ((i : Int).tmod 5 == 0) = false := by simpa using h5
                  go_wp2
                  go_roundg (ga - 1)
                  case measure => have := HI.out; omega
                  case rel => exact ⟨i + 1, _, _, _, _, _, _, _, _, by have := HI.out; omega, by omega, by go_num, rfl, rfl, HK5, HV5, HT5, HB5⟩
          · have HTK : Hid (ks.getD t ⟨#[]⟩ = k) := htk
            have htz : (t : Int) < j := by omega
            have HZP : Hid (ks.zip vs = (ks.take t).zip (vs.take t) ++ (k, vs.getD t 0) :: (ks.drop (t + 1)).zip (vs.drop (t + 1))) := by
              have := zip_parts (ks := ks) (vs := vs) (t := t) (by have := HLk.out; omega) (by have := HLv.out; omega)
              rw [htk] at this
              exact this
            have HTp : Hid (Tbl w3 w.heap.size p b x ((ks.take t).zip (vs.take t) ++ (k, vs.getD t 0) :: (ks.drop (t + 1)).zip (vs.drop (t + 1)))) := by
              have := HT3.out
              rw [HZP.out] at this
              exact this
            clear htk ha1 ha2 HPl
            by_cases hk1 : kind = 1
            · subst hk1
              obtain ⟨gv, hgv, hBg, ⟨u0, hcv⟩, hfv, ⟨cur, hcur⟩, hOs⟩ := OwnJ.set HV3.out (i := t) (by omega) V
              subst hgv
              obtain ⟨w4, hw4⟩ : ∃ w4, w3.setCell ⟨gv, t, none⟩ (.int .i64 V) = w4 := ⟨_, rfl⟩
              have HV4 : Hid (OwnJ w4 w.heap.size (some ⟨gv, 0, none⟩) j vc (vs.set t V)) := by show OwnR _ _ _ _ _ _ _ _; rw [← hw4]; exact hOs
              have HK4 : Hid (OwnS w4 w.heap.size ka j kc ks) := by show OwnR _ _ _ _ _ _ _ _; rw [← hw4]; exact OwnR.other HK3.out hcur (by decide)
              have HT4 : Hid (Tbl w4 w.heap.size p b x ((ks.take t).zip (vs.take t) ++ (k, vs.getD t 0) :: (ks.drop (t + 1)).zip (vs.drop (t + 1)))) := by show Tbl _ _ _ _ _ _; rw [← hw4]; exact HTp.out.other hcur (by decide) (by decide)
              have HB4 : Hid (Below w.heap.size w w4) := by show Below _ _ _; rw [← hw4]; exact HB3.out.setCell (p := ⟨gv, t, none⟩) hBg _
              have e2 : w4.cell? ⟨bb, off + i * 4 + 2, none⟩ = some (.int .i64 V) := by
                rw [← hw4, World.cell?_setCell_far _ _ _ _ (by show gv ≠ bb; omega)]; exact d2
              have HZ4 : Hid ((ks.take t).zip (vs.take t) ++ (k, V) :: (ks.drop (t + 1)).zip (vs.drop (t + 1)) = ks.zip (vs.set t V)) := by
                have := zip_set (ks := ks) (vs := vs) (t := t) (by have := HLk.out; omega) (by have := HLv.out; omega) V
                rw [HTK.out] at this
                exact this.symm
              have hPu := PutT_old _ _ _ _ _ _ k (vs.getD t 0) V _ HT4.out hk'
              rw [HZ4.out] at hPu
              clear hOs HV3 HTp HZP HB3
              go_wp2_with fail
              refine hPu.mono ?_
              rintro e w5 ⟨rfl, hm5, hT5⟩
              have HK5 : Hid (OwnS w5 w.heap.size ka j kc ks) := OwnR.movesT HK4.out hm5 HT4.out (by decide) (by decide)
              have HV5 : Hid (OwnJ w5 w.heap.size (some ⟨gv, 0, none⟩) j vc (vs.set t V)) := OwnR.movesT HV4.out hm5 HT4.out (by decide) (by decide)
              have HT5 : Hid (Tbl w5 w.heap.size p b x (ks.zip (vs.set t V))) := hT5
              have HB5 : Hid (Below w.heap.size w w5) := HB4.out.trans (HT4.out.below hm5)
              clear hm5 hT5 hPu HK4 HV4 HT4 HB4 HZ4 d0 d2 e2 hcv hfv hw4 hcur HK3 HT3
              by_cases h5 : (i : Int).tmod 5 = 0
              · have hS := soundT _ _ _ _ _ ka j kc ks w5 HT5.out (OwnR.low HK5.out (Nat.zero_le _)) (by rw [keys_zip (by rw [OwnS.len HK5.out, OwnJ.len HV5.out])])
                go_wp2_with fail
                refine hS.mono ?_
                rintro e w6 ⟨rfl, hb6⟩
                have HK6 : Hid (OwnS w6 w.heap.size ka j kc ks) := OwnR.keep HK5.out hb6
                have HV6 : Hid (OwnJ w6 w.heap.size (some ⟨gv, 0, none⟩) j vc (vs.set t V)) := OwnR.keep HV5.out hb6
                have HT6 : Hid (Tbl w6 w.heap.size p b x ((ks).zip ((vs.set t V)))) := HT5.out.keep hb6
                have HB6 := step_below HB5 hb6
                clear hb6 hS HK5 HV5 HT5 HB5
                go_wp2
                go_roundg (ga - 1)
                case measure => have := HI.out; omega
                case rel => exact ⟨i + 1, _, _, _, _, _, _, _, _, by have := HI.out; omega, by omega, by go_num, rfl, rfl, HK6, HV6, HT6, HB6⟩
              · have h5z : ((i : Int).tmod 5 == 0) = false := by simpa using h5
                go_wp2
                go_roundg (ga - 1)
                case measure => have := HI.out; omega
                case rel => exact ⟨i + 1, _, _, _, _, _, _, _, _, by have := HI.out; omega, by omega, by go_num, rfl, rfl, HK5, HV5, HT5, HB5⟩
            · have hk1z : (kind == 1) = false := by simpa using hk1
              by_cases hk2 : kind = 2
              · subst hk2
                obtain ⟨q, hq⟩ : ∃ q : Nat, t + 1 = q := ⟨_, rfl⟩
                have hw1 : IntKind.i64.wrap ((t : Int) + 1) = (q : Int) := by rw [IntKind.wrap_i64]; omega
                have hqj : q ≤ j := by omega
                have hDe := DeleteT_yes _ _ _ _ _ _ k (vs.getD t 0) _ HTp.out hk'
                have HZD : Hid ((ks.take t).zip (vs.take t) ++ (ks.drop (t + 1)).zip (vs.drop (t + 1)) = (ks.take t ++ ks.drop q).zip (vs.take t ++ vs.drop q)) := by
                  have := zip_del (ks := ks) (vs := vs) (t := t) (by rw [HLk.out, HLv.out])
                  rw [← hq]
                  exact this.symm
                rw [HZD.out] at hDe
                have HQ : Hid (t + 1 = q) := hq
                clear hq HTp HZP HZD
                go_wp2_with fail
                refine hDe.mono ?_
                rintro e w4 ⟨rfl, hm4, hT4⟩
                have HK4 : Hid (OwnS w4 w.heap.size ka j kc ks) := OwnR.movesT HK3.out hm4 HT3.out (by decide) (by decide)
                have HV4 : Hid (OwnJ w4 w.heap.size va j vc vs) := OwnR.movesT HV3.out hm4 HT3.out (by decide) (by decide)
                have HT4 : Hid (Tbl w4 w.heap.size p b x ((ks.take t ++ ks.drop q).zip (vs.take t ++ vs.drop q))) := hT4
                have HB4 : Hid (Below w.heap.size w w4) := HB3.out.trans (HT3.out.below hm4)
                have hsz4 := HB4.out.size
                obtain ⟨a1, c1, s1, hR1⟩ := (OwnR.rd HK4.out).slice_h oneS t (by omega)
                obtain ⟨a2, c2, s2, hR2⟩ := (OwnR.rd HK4.out).slice_l oneS q hqj
                obtain ⟨a3, c3, s3, hR3⟩ := (OwnR.rd HV4.out).slice_h oneJ t (by omega)
                obtain ⟨a4, c4, s4, hR4⟩ := (OwnR.rd HV4.out).slice_l oneJ q hqj
                have HR1 : Hid (RdR w4 a1 t c1 ((scells ks).take t)) := hR1
                have HR2 : Hid (RdR w4 a2 (j - q) c2 ((scells ks).drop q)) := hR2
                have HR3 : Hid (RdR w4 a3 t c3 ((jcells vs).take t)) := hR3
                have HR4 : Hid (RdR w4 a4 (j - q) c4 ((jcells vs).drop q)) := hR4
                have HCk : Hid ((∀ u ∈ (scells ks).take t, u.oneCell' = true) ∧ (∀ u ∈ (scells ks).drop q, u.oneCell' = true)) := by
                  have h0 : ∀ u ∈ scells ks, u.oneCell' = true := by intro u hu; obtain ⟨s, -, rfl⟩ := List.mem_map.1 hu; rfl
                  exact ⟨fun u hu => h0 u (List.mem_of_mem_take hu), fun u hu => h0 u (List.mem_of_mem_drop hu)⟩
                have HCv : Hid ((∀ u ∈ (jcells vs).take t, u.oneCell' = true) ∧ (∀ u ∈ (jcells vs).drop q, u.oneCell' = true)) := by
                  have h0 : ∀ u ∈ jcells vs, u.oneCell' = true := by intro u hu; obtain ⟨s, -, rfl⟩ := List.mem_map.1 hu; rfl
                  exact ⟨fun u hu => h0 u (List.mem_of_mem_take hu), fun u hu => h0 u (List.mem_of_mem_drop hu)⟩
                have HNn : Hid ((0 + t) * 16 ≤ 140737488355328 ∧ 0 + t ≤ maxLen ∧ (0 + t + (j - q)) * 16 ≤ 140737488355328 ∧ 0 + t + (j - q) ≤ maxLen ∧ (0 + t) * 8 ≤ 140737488355328 ∧ (0 + t + (j - q)) * 8 ≤ 140737488355328) := ⟨by omega, by unfold maxLen; omega, by omega, by unfold maxLen; omega, by omega, by omega⟩
                have HXa : Hid (Below w4.heap.size w4 (w4.alloc (.cells #[] 9)).drew) := (alloc_below w4 _).drew
                have HOb : Hid (OwnR (w4.alloc (.cells #[] 9)).drew w4.heap.size 9 1 (some ⟨w4.heap.size, 0, none⟩) 0 0 []) := OwnR.keep (OwnR.made0 w4 9 w4.heap.size (Nat.le_refl _)) (below_drewN _ 1)
                clear hR1 hR2 hR3 hR4 hm4 hT4 hDe HK3 HV3 HT3 HB3 d0 d2
                go_upto_region 33 with fail
                go_cut [8] from 134 to 143 (fun v wx => ∃ (a6 : Option Addr) (n6 c6 : Nat), v = .slice a6 n6 c6 ∧ Hid (OwnS wx w4.heap.size a6 n6 c6 (ks.take t ++ ks.drop q)) ∧ Hid (Below w4.heap.size w4 wx))
                case first =>
                  go_region_law (first
                    | (refine step_append_p rfl (.tmp 134) (.tmp 137) rfl eltS w4.heap.size (by simp [Act.eval] <;> rfl) HOb.out (by simp [Act.eval] <;> rfl) (HR1.out.keep HXa.out) HCk.out.1 HNn.out.1 HNn.out.2.1 HXa.out.size ?_; intro a7 n7 c7 w7 hn7 HO7 HG7; subst hn7; have HX7 : Hid (Below w4.heap.size w4 w7) := HXa.out.trans (OwnR.below HOb.out HG7.out HXa.out.size); clear HG7)
                    | (refine step_append_p rfl (.tmp 138) (.tmp 142) rfl eltS w4.heap.size (by simp [Act.eval] <;> rfl) HO7.out (by simp [Act.eval] <;> rfl) (HR2.out.keep HX7.out) HCk.out.2 HNn.out.2.2.1 HNn.out.2.2.2.1 HX7.out.size ?_; intro a8 n8 c8 w8 hn8 HO8 HG8; subst hn8; have HX8 : Hid (Below w4.heap.size w4 w8) := HX7.out.trans (OwnR.below HO7.out HG8.out HX7.out.size); have HKz : Hid (OwnS w8 w4.heap.size a8 (t + (j - q)) c8 (ks.take t ++ ks.drop q)) := (by have h0 := HO8.out; rw [List.nil_append, Nat.zero_add] at h0; show OwnR _ _ _ _ _ _ _ _; rw [scells, List.map_append, List.map_take, List.map_drop]; exact h0); clear HG8))
                  all_goals (go_wp2; go_meet; exact ⟨a8, _, c8, rfl, HKz, HX8⟩)
                case rest =>
                obtain ⟨a6, n6, c6, rfl, HK6, HX6⟩ := hcut
                have HV6 : Hid (OwnJ wc w.heap.size va j vc vs) := OwnR.keep HV4.out HX6.out
                have HT6 : Hid (Tbl wc w.heap.size p b x ((ks.take t ++ ks.drop q).zip (vs.take t ++ vs.drop q))) := HT4.out.keep HX6.out
                have HB6 := step_below HB4 HX6.out
                have HR3c : Hid (RdR wc a3 t c3 ((jcells vs).take t)) := HR3.out.keep HX6.out
                have HR4c : Hid (RdR wc a4 (j - q) c4 ((jcells vs).drop q)) := HR4.out.keep HX6.out
                have HXb : Hid (Below wc.heap.size wc (wc.alloc (.cells #[] 3)).drew) := (alloc_below wc _).drew
                have HOc : Hid (OwnR (wc.alloc (.cells #[] 3)).drew wc.heap.size 3 1 (some ⟨wc.heap.size, 0, none⟩) 0 0 []) := OwnR.keep (OwnR.made0 wc 3 wc.heap.size (Nat.le_refl _)) (below_drewN _ 1)
                have HN6 : Hid (n6 = t + (j - q)) := by
                  have h1 := OwnS.len HK6.out
                  rw [List.length_append, List.length_take, List.length_drop, HLk.out] at h1
                  show _ = _
                  omega
                have hs46 := HX6.out.size
                clear HR1 HR2 HR3 HR4 HCk HK4 HV4 HT4 HB4 HXa HOb s1 s2 HX6
                go_upto_region 34 with fail
                go_region_law (first
                  | (refine step_append_p rfl (.tmp 144) (.tmp 147) rfl eltJ wc.heap.size (by simp [Act.eval] <;> rfl) HOc.out (by simp [Act.eval] <;> rfl) (HR3c.out.keep HXb.out) HCv.out.1 HNn.out.2.2.2.2.1 HNn.out.2.1 HXb.out.size ?_; intro a7 n7 c7 w7 hn7 HO7 HG7; subst hn7; have HX7 : Hid (Below wc.heap.size wc w7) := HXb.out.trans (OwnR.below HOc.out HG7.out HXb.out.size); clear HG7)
                  | (refine step_append_p rfl (.tmp 148) (.tmp 152) rfl eltJ wc.heap.size (by simp [Act.eval] <;> rfl) HO7.out (by simp [Act.eval] <;> rfl) (HR4c.out.keep HX7.out) HCv.out.2 HNn.out.2.2.2.2.2 HNn.out.2.2.2.1 HX7.out.size ?_; intro a8 n8 c8 w8 hn8 HO8 HG8; subst hn8; have HX8 : Hid (Below wc.heap.size wc w8) := HX7.out.trans (OwnR.below HO7.out HG8.out HX7.out.size); have HVz : Hid (OwnJ w8 wc.heap.size a8 (t + (j - q)) c8 (vs.take t ++ vs.drop q)) := (by have h0 := HO8.out; rw [List.nil_append, Nat.zero_add] at h0; show OwnR _ _ _ _ _ _ _ _; rw [jcells, List.map_append, List.map_take, List.map_drop]; exact h0); clear HG8))
                have HK5 : Hid (OwnS w8 w.heap.size a6 n6 c6 (ks.take t ++ ks.drop q)) := OwnR.low (OwnR.keep HK6.out HX8.out) hsz4
                have HV5 : Hid (OwnJ w8 w.heap.size a8 (t + (j - q)) c8 (vs.take t ++ vs.drop q)) := OwnR.low HVz.out (Nat.le_trans hsz4 hs46)
                have HT5 : Hid (Tbl w8 w.heap.size p b x ((ks.take t ++ ks.drop q).zip (vs.take t ++ vs.drop q))) := HT6.out.keep HX8.out
                have HB5 := step_below HB6 HX8.out
                have hn6 := HN6.out
                subst hn6
                clear HVz HX8 HK6 HV6 HT6 HB6 HR3c HR4c HCv HXb HOc HO7 HO8 HX7 s3 s4
                obtain ⟨w5, hw5⟩ : ∃ w5, w5 = w8 := ⟨_, rfl⟩
                subst hw5
                by_cases h5 : (i : Int).tmod 5 = 0
                · have hS := soundT _ _ _ _ _ a6 (t + (j - q)) c6 (ks.take t ++ ks.drop q) w5 HT5.out (OwnR.low HK5.out (Nat.zero_le _)) (by rw [keys_zip (by rw [OwnS.len HK5.out, OwnJ.len HV5.out])])
                  go_wp2_with fail
                  refine hS.mono ?_
                  rintro e w6 ⟨rfl, hb6⟩
                  have HK6 : Hid (OwnS w6 w.heap.size a6 (t + (j - q)) c6 (ks.take t ++ ks.drop q)) := OwnR.keep HK5.out hb6
                  have HV6 : Hid (OwnJ w6 w.heap.size a8 (t + (j - q)) c8 (vs.take t ++ vs.drop q)) := OwnR.keep HV5.out hb6
                  have HT6 : Hid (Tbl w6 w.heap.size p b x (((ks.take t ++ ks.drop q)).zip ((vs.take t ++ vs.drop q)))) := HT5.out.keep hb6
                  have HB6 := step_below HB5 hb6
                  clear hb6 hS HK5 HV5 HT5 HB5
                  go_wp2
                  go_roundg (ga - 1)
                  case measure => have := HI.out; omega
                  case rel => exact ⟨i + 1, _, _, _, _, _, _, _, _, by have := HI.out; omega, by omega, by go_num, rfl, rfl, HK6, HV6, HT6, HB6⟩
                · have h5z : ((i : Int).tmod 5 == 0) = false := by simpa using h5
                  go_wp2
                  go_roundg (ga - 1)
                  case measure => have := HI.out; omega
                  case rel => exact ⟨i + 1, _, _, _, _, _, _, _, _, by have := HI.out; omega, by omega, by go_num, rfl, rfl, HK5, HV5, HT5, HB5⟩
              · have hk2z : (kind == 2) = false := by simpa using hk2
                have hGe := GetT_some _ _ _ _ _ k (vs.getD t 0) _ HTp.out hk' (by simp)
                obtain ⟨gv, hgv, hcv⟩ := OwnJ.cell HV3.out (j := t) (by omega)
                subst hgv
                generalize hvt : vs.getD t 0 = vt at hGe hcv
                clear hvt
                go_wp2_with fail
                refine hGe.mono ?_
                rintro e w5 ⟨rfl, hb5⟩
                have hcv5 : w5.cell? ⟨gv, t, none⟩ = some (.int .i64 vt) := by rw [hb5.cell (p := ⟨gv, t, none⟩) (World.block_lt_of_cell? _ _ hcv)]; exact hcv
                have HK5 : Hid (OwnS w5 w.heap.size ka j kc ks) := OwnR.keep HK3.out hb5
                have HV5 : Hid (OwnJ w5 w.heap.size (some ⟨gv, 0, none⟩) j vc vs) := OwnR.keep HV3.out hb5
                have HT5 : Hid (Tbl w5 w.heap.size p b x (ks.zip vs)) := HT3.out.keep hb5
                have HB5 := step_below HB3 hb5
                clear hb5 hGe HK3 HV3 HT3 HB3 HTp HZP d0 d2 hcv
                by_cases h5 : (i : Int).tmod 5 = 0
                · have hS := soundT _ _ _ _ _ ka j kc ks w5 HT5.out (OwnR.low HK5.out (Nat.zero_le _)) (by rw [keys_zip (by rw [OwnS.len HK5.out, OwnJ.len HV5.out])])
                  go_wp2_with fail
                  refine hS.mono ?_
                  rintro e w6 ⟨rfl, hb6⟩
                  have HK6 : Hid (OwnS w6 w.heap.size ka j kc ks) := OwnR.keep HK5.out hb6
                  have HV6 : Hid (OwnJ w6 w.heap.size (some ⟨gv, 0, none⟩) j vc vs) := OwnR.keep HV5.out hb6
                  have HT6 : Hid (Tbl w6 w.heap.size p b x ((ks).zip (vs))) := HT5.out.keep hb6
                  have HB6 := step_below HB5 hb6
                  clear hb6 hS HK5 HV5 HT5 HB5
                  go_wp2
                  go_roundg (ga - 1)
                  case measure => have := HI.out; omega
                  case rel => exact ⟨i + 1, _, _, _, _, _, _, _, _, by have := HI.out; omega, by omega, by go_num, rfl, rfl, HK6, HV6, HT6, HB6⟩
                · have h5z : ((i : Int).tmod 5 == 0) = false := by simpa using h5
                  go_wp2
                  go_roundg (ga - 1)
                  case measure => have := HI.out; omega
                  case rel => exact ⟨i + 1, _, _, _, _, _, _, _, _, by have := HI.out; omega, by omega, by go_num, rfl, rfl, HK5, HV5, HT5, HB5⟩
    · clear HKY hi
      go_upto_region 7 with fail
      go_cut [32] from 24 to 32 (fun v wx => v = .bool false ∧ wx = wr)
      case first =>
        by_cases h1 : (i : Int) < n
        · have h2 : ¬ (i : Int) < most := fun h => hgo ⟨h1, h⟩
          clear hgo
          go_wp2
          go_meet
          exact ⟨rfl, rfl⟩
        · clear hgo
          go_wp2
          go_meet
          exact ⟨rfl, rfl⟩
      case rest =>
      obtain ⟨rfl, rfl⟩ := hcut
      clear hgo hin
      go_wp2
      go_loopg [17, 18, 19, 169] m (fun q jv vv okv tv wr => ∃ j : Nat, j + q = m ∧ jv = .int .i64 j ∧ Hid (OwnS wr w.heap.size ka m kc ks) ∧ Hid (OwnJ wr w.heap.size va m vc vs) ∧ Hid (Tbl wr w.heap.size p b x (ks.zip vs)) ∧ Hid (Below w.heap.size w wr))
      case atStart => exact ⟨0, by omega, rfl, HK, HV, HT, HB⟩
      case round =>
        clear HK HV HT HB
        obtain ⟨j, hj, rfl, HK, HV, HT, HB⟩ := hrel
        by_cases hjm : (j : Int) < m
        · obtain ⟨gs, hgs, hcs⟩ := OwnS.cell HK.out (j := j) (by omega)
          obtain ⟨gv, hgv, hcv⟩ := OwnJ.cell HV.out (j := j) (by omega)
          subst hgs
          subst hgv
          have hmem : (ks.getD j ⟨#[]⟩, vs.getD j 0) ∈ ks.zip vs := by
            rw [zip_parts (ks := ks) (vs := vs) (t := j) (by have := HLk.out; omega) (by have := HLv.out; omega)]
            simp
          have hks : (ks.getD j ⟨#[]⟩).size ≤ maxLen := by
            obtain ⟨G, z, h1, h2⟩ := HT.out
            exact h1.siz _ (h2.mem_iff.2 hmem)
          have hGe := GetT_some _ _ _ _ _ _ _ _ HT.out hks hmem
          generalize ks.getD j ⟨#[]⟩ = k at hcs hGe
          generalize vs.getD j 0 = v at hcv hGe
          clear hmem hks
          go_wp2_with fail
          refine hGe.mono ?_
          rintro e w5 ⟨rfl, hb5⟩
          have hcv5 : w5.cell? ⟨gv, j, none⟩ = some (.int .i64 v) := by rw [hb5.cell (p := ⟨gv, j, none⟩) (World.block_lt_of_cell? _ _ hcv)]; exact hcv
          have HK5 : Hid (OwnS w5 w.heap.size (some ⟨gs, 0, none⟩) m kc ks) := OwnR.keep HK.out hb5
          have HV5 : Hid (OwnJ w5 w.heap.size (some ⟨gv, 0, none⟩) m vc vs) := OwnR.keep HV.out hb5
          have HT5 : Hid (Tbl w5 w.heap.size p b x (ks.zip vs)) := HT.out.keep hb5
          have HB5 := step_below HB hb5
          clear hb5 hGe HK HV HT HB hcs hcv
          go_wp2
          go_roundg (gk - 1)
          case measure => omega
          case rel => exact ⟨j + 1, by omega, by go_num, HK5, HV5, HT5, HB5⟩
        · have hS := soundT _ _ _ _ _ ka m kc ks _ HT.out (OwnR.low HK.out (Nat.zero_le _)) (by rw [keys_zip (by rw [OwnS.len HK.out, OwnJ.len HV.out])])
          go_wp2_with fail
          refine hS.mono ?_
          rintro e w6 ⟨rfl, hb6⟩
          have HB6 := step_below HB hb6
          clear hb6 hS
          go_wp2
          go_ret
          exact ⟨rfl, HB6.out⟩
end Go.Proofs.Ytnmonhendidhkaa
