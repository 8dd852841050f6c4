/-
  The document's own words, second part: all of a line.
-/
import Derived.Test.YtkoepgjdjbmknaaVa
import Derived.Test.YtkoepgjdjbmknaaEx
import Derived.Deep.RegionWith
namespace Go.Proofs.Ytkoepgjdjbmknaa
open Go.RowKit Go.PlainAid

/-- What the document's Words leaves. -/
def RefWordsR (w w' : World) (o : Option (List (List UInt8))) (e : Ending) : Prop :=
  match o with
  | some ws => ∃ a n c, e = .returned (.tuple #[.slice a n c, .bool (decide (ws.length ≤ 256))]) ∧ OwnS w' w.heap.size a n c (ws.map bs)
  | none => e = .returned (.tuple #[.slice none 0 0, .bool false])

set_option maxHeartbeats 4000000 in
set_option maxRecDepth 100000 in
theorem refWords_any (s : ByteArray) (w : World) (hs : s.size ≤ 100000) :
    Calls Try.prog 24 #[.string s] w fun e w' => Below w.heap.size w w' ∧ RefWordsR w w' (wds (s.size + 1) [] (lst s)) e := by
  obtain ⟨R, hR⟩ : ∃ R, wds (s.size + 1) [] (lst s) = R := ⟨_, rfl⟩
  rw [hR]
  have HR : Hid (wds (s.size + 1) [] (lst s) = R) := hR
  clear hR
  have HO : Hid (OwnS w w.heap.size none 0 0 []) := World.ownsRow_nil w _ 9 1
  go_enter Try.func24, Try.ntmps24
  go_wp2
  go_loopg [0, 4] (s.size + 1) (fun g sv wv wr => ∃ (t : ByteArray) (a : Option Addr) (n c : Nat) (acc : List (List UInt8)), sv = .string t ∧ wv = .slice a n c ∧ Hid (t.size < g) ∧ Hid (acc.length + t.size ≤ 100000) ∧ Hid (OwnS wr w.heap.size a n c (acc.map bs)) ∧ Hid (Below w.heap.size w wr) ∧ Hid (wds g acc (lst t) = R))
  case atStart => exact ⟨s, none, 0, 0, [], rfl, rfl, Nat.lt_succ_self _, by show _ ≤ _; simpa using hs, HO, Below.refl _ _, HR⟩
  case round =>
    obtain ⟨t, a, n, c, acc, rfl, rfl, HT, HT2, HO1, HB, H⟩ := hrel
    obtain ⟨f, rfl⟩ : ∃ f, gk = f + 1 := ⟨gk - 1, by have := HT.out; omega⟩
    obtain ⟨wa, rfl⟩ : ∃ wa, wa = wr := ⟨_, rfl⟩
    obtain ⟨D, hD⟩ : ∃ D, (lst t).dropWhile blk = D := ⟨_, rfl⟩
    have HD : Hid ((lst t).dropWhile blk = D) := hD
    have HTL : Hid (t.size ≤ 100000) := by have := HT2.out; show _ ≤ _; omega
    have HNL : Hid (n = acc.length) := by have := HO1.out.len; rw [List.length_map] at this; exact this.symm
    clear HO hD
    go_wp2
    go_loopg [0] t.size (fun g sv wx => wa = wx ∧ ∃ u : ByteArray, u.size = g ∧ sv = .string u ∧ Hid (u.size ≤ t.size) ∧ Hid ((lst u).dropWhile blk = D))
    case atStart => exact ⟨rfl, t, rfl, rfl, Nat.le_refl _, HD⟩
    case round =>
      obtain ⟨rfl, u, hu, rfl, HU, HD1⟩ := hrel
      subst hu
      by_cases h0 : 0 < u.size
      · obtain ⟨x, hx⟩ : ∃ c : Int, ((u[0]'h0).toNat : Int) = c := ⟨_, rfl⟩
        obtain ⟨b, hb⟩ : ∃ b, u[0]'h0 = b := ⟨_, rfl⟩
        have HX : Hid ((b.toNat : Int) = x) := by show _ = _; rw [← hb]; exact hx
        have HL : Hid (lst u = b :: (lst u).drop 1) := by show _ = _; rw [← hb]; exact lst_cons u h0
        have hxb := byte_in _ hx
        have hbk := blk_int HX.out
        clear hb
        cases hv : blkI x with
        | true =>
          have HD2 : Hid ((lst (u.extract 1 u.size)).dropWhile blk = D) := by
            show _ = _
            rw [lst_tail, ← HD1.out, HL.out, List.dropWhile_cons_of_pos (by rw [hbk]; exact hv)]
            rfl
          have HV : Hid (blkI x = true) := hv
          clear hv hbk
          go_wp2_with (go_at_call 32; refine (refBlank_any _ true HV.out _).mono ?_; rintro e wa ⟨rfl, rfl⟩)
          go_roundg (u.size - 1)
          case measure => omega
          case rel => exact ⟨rfl, u.extract 1 u.size, by simp, rfl, by have := HU.out; show _ ≤ _; simp; omega, HD2⟩
        | false =>
          have HBK : Hid (blk b = false) := by show _ = _; rw [hbk, hv]
          have HDE : Hid (D = lst u) := by
            show _ = _
            rw [← HD1.out, HL.out, List.dropWhile_cons_of_neg (by rw [HBK.out]; simp)]
          have HV : Hid (blkI x = false) := hv
          have hu0 : ((u.size : Int) == 0) = false := beq_eq_false_iff_ne.2 (by omega)
          clear hv hbk
          go_wp2_with (go_at_call 32; refine (refBlank_any _ false HV.out _).mono ?_; rintro e wa ⟨rfl, rfl⟩)
          obtain ⟨wb, rfl⟩ : ∃ wb, wb = wa := ⟨_, rfl⟩
          obtain ⟨O, hO⟩ : ∃ O, wrd [] (lst u) = O := ⟨_, rfl⟩
          have HO : Hid (wrd [] (lst u) = O) := hO
          have HOU : Hid (wrd [] (lst u) = O) := hO
          clear hO
          have HLC : Hid (lst u = b :: (lst u).drop 1) := HL
          go_loopg [0, 5] u.size (fun g sv dv wx => ∃ (v : ByteArray) (wd : List UInt8), v.size = g ∧ sv = .string v ∧ dv = .string (bs wd) ∧ Hid (v.size ≤ u.size) ∧ Hid (wd.length + v.size ≤ 100000) ∧ Hid (OwnS wx w.heap.size a n c (acc.map bs)) ∧ Hid (Below w.heap.size w wx) ∧ Hid (wrd wd (lst v) = O))
          case atStart => exact ⟨u, [], rfl, rfl, rfl, Nat.le_refl _, by have h1 := HU.out; have h2 := HTL.out; show _ ≤ _; simp; omega, HO1, HB, HO⟩
          case round =>
            obtain ⟨v, wd, hv, rfl, rfl, HV1, HW1, HO2, HB2, HO3⟩ := hrel
            subst hv
            clear HO
            by_cases g0 : 0 < v.size
            · obtain ⟨y, hy⟩ : ∃ c : Int, ((v[0]'g0).toNat : Int) = c := ⟨_, rfl⟩
              obtain ⟨d, hd⟩ : ∃ b, v[0]'g0 = b := ⟨_, rfl⟩
              have HY : Hid ((d.toNat : Int) = y) := by show _ = _; rw [← hd]; exact hy
              have HLV : Hid (lst v = d :: (lst v).drop 1) := by show _ = _; rw [← hd]; exact lst_cons v g0
              have hyb := byte_in _ hy
              have hbk := blk_int HY.out
              clear hd
              cases hv : blkI y with
              | true =>
                have HOE : Hid (O = some (wd, lst v)) := by
                  show _ = _
                  rw [← HO3.out, HLV.out, wrd_blank (by rw [hbk, hv])]
                clear hbk
                have HSTEP : Hid (wds f (acc ++ [wd]) (lst v) = R) := by
                  have hw : wrd [] (b :: (lst u).drop 1) = some (wd, lst v) := by rw [← HLC.out, HOU.out]; exact HOE.out
                  show _ = _
                  rw [← H.out, wds_step (by rw [HD.out, HDE.out]; exact HLC.out) hw]
                have HVS : Hid (v.size < f) := by
                  have hw : wrd [] (b :: (lst u).drop 1) = some (wd, lst v) := by rw [← HLC.out, HOU.out]; exact HOE.out
                  have h1 := wrd_lt HBK.out hw
                  rw [← HLC.out, len_lst, len_lst] at h1
                  have h2 := HU.out
                  have h3 := HT.out
                  show _ < _
                  omega
                have HM : Hid (n + 1 ≤ 1000000) := by have h1 := HNL.out; have h2 := HT2.out; show _ ≤ _; omega
                have HVL : Hid ((acc ++ [wd]).length + v.size ≤ 100000) := by
                  have hw : wrd [] (b :: (lst u).drop 1) = some (wd, lst v) := by rw [← HLC.out, HOU.out]; exact HOE.out
                  have h1 := wrd_lt HBK.out hw
                  rw [← HLC.out, len_lst, len_lst] at h1
                  have h2 := HU.out
                  have h3 := HT2.out
                  show _ ≤ _
                  rw [List.length_append]; simp; omega
                go_wp2_with (first
                  | (go_at_call 32; refine (refBlank_any _ _ rfl _).mono ?_; rintro e wr ⟨rfl, rfl⟩)
                  | (at_builtin; refine append_str rfl (.tmp 75) (.tmp 77) rfl w.heap.size rfl (HO2.out.keep (alloc_below wr _)) rfl (by simp; rfl) HM.out (Nat.le_trans HB2.out.size (alloc_below wr _).size) ?_; intro a3 n3 c3 w3 hn3 hO3 hB3; have HO4 : Hid (OwnS w3 w.heap.size a3 n3 c3 ((acc ++ [wd]).map bs)) := (by rw [List.map_append]; exact hO3); have HB4 : Hid (Below w.heap.size w w3) := (HB2.out.trans ((alloc_below wr _).mono HB2.out.size)).trans hB3; clear hn3 hO3 hB3))
                go_roundg f
                case measure => omega
                case rel => exact ⟨v, _, _, _, acc ++ [wd], rfl, rfl, HVS, HVL, HO4, HB4, HSTEP⟩
              | false =>
                have HBD : Hid (blk d = false) := by show _ = _; rw [hbk, hv]
                clear hbk
                by_cases hq : y = 34 ∨ y = 39
                · have HQD : Hid (d = 34 ∨ d = 39) := by show _ ∨ _; rw [byte_is HY.out 34, byte_is HY.out 39]; exact hq
                  have HCQ := fun w => refQuoted_any (v.extract 1 v.size) d y w (by have := HW1.out; simp; omega) HY.out HQD.out
                  have hye : ((y != 34) = false ∧ (y != 34) = false) ∨ ((y != 34) = true ∧ (y != 39) = false) := by
                    rcases hq with h | h
                    · exact .inl ⟨by rw [h]; rfl, by rw [h]; rfl⟩
                    · exact .inr ⟨by rw [h]; rfl, by rw [h]; rfl⟩
                  rw [lst_tail] at HCQ
                  clear hq
                  cases hoq : quo d [] ((lst v).drop 1) with
                  | none =>
                    have HON : Hid (O = none) := by show _ = _; rw [← HO3.out, HLV.out, wrd_none HBD.out HQD.out]; exact hoq
                    have HRN : Hid (R = none) := by
                      have hw : wrd [] (b :: (lst u).drop 1) = none := by rw [← HLC.out, HOU.out]; exact HON.out
                      show _ = _
                      rw [← H.out, wds_bad (by rw [HD.out, HDE.out]; exact HLC.out) hw]
                    have HCV : ∀ w, Calls Try.prog 33 #[.string (v.extract 1 v.size), .int .u8 y] w fun e w' => Below w.heap.size w w' ∧ e = .returned (.tuple #[.string ⟨#[]⟩, .string ⟨#[]⟩, .bool false]) := by
                      intro w0
                      have := HCQ w0
                      rw [hoq] at this
                      exact this
                    clear hoq HCQ
                    have hex : Nonempty (Ext wr) := ⟨⟨wr, Below.refl _ _⟩⟩
                    rcases hye with ⟨h1, h2⟩ | ⟨h1, h2⟩
                    all_goals
                      go_wp2_with (go_at_call 32; refine (refBlank_any _ _ rfl _).mono ?_; rintro e wr ⟨rfl, rfl⟩)
                      refine wp_region_ext (by kernel_rfl) (by kernel_rfl) ?_
                      repeat (go_big_quiet_step (first | (go_at_call 33; exact Calls.ext_of (HCV _))))
                      refine wpQuiet_nil ?_
                      intro wz hz
                      obtain ⟨xx, rfl⟩ := hz
                      have HB5 : Hid (Below w.heap.size w xx.wx) := HB2.out.trans (xx.ok.mono HB2.out.size)
                      have HO5 : Hid (OwnS xx.wx w.heap.size a n c (acc.map bs)) := HO2.out.keep xx.ok
                      go_wp2_with (go_at_call 32; refine (refBlank_any _ _ rfl _).mono ?_; rintro e w7 ⟨rfl, rfl⟩)
                      go_ret2
                      refine ⟨HB5.out, ?_⟩
                      rw [HRN.out]
                      rfl
                  | some o =>
                    obtain ⟨p, r⟩ := o
                    have HOW : Hid (O = if r.head?.all blk then some (wd ++ p, r) else none) := by
                      show _ = _
                      rw [← HO3.out, HLV.out, wrd_some HBD.out HQD.out]
                      exact hoq
                    have hql := quo_len hoq
                    have hvl : (lst v).length = v.size := len_lst v
                    rw [List.length_drop, hvl] at hql
                    obtain ⟨tb, htb⟩ : ∃ tb, bs r = tb := ⟨_, rfl⟩
                    have hlt : lst tb = r := by rw [← htb]; rfl
                    have htz : tb.size = r.length := by rw [← htb, size_bs]
                    have HTZ : Hid (tb.size < v.size) := by show _ < _; simp at hql; omega
                    have HLB : Hid ((wd ++ p).length + tb.size ≤ 100000) := by
                      have := HW1.out
                      show _ ≤ _
                      rw [List.length_append]
                      simp at hql
                      omega
                    have hcat : bs wd ++ bs p = bs (wd ++ p) := append_bs _ _
                    have hcl : (bs wd).size + (bs p).size ≤ 100000 := by
                      have := HLB.out
                      rw [List.length_append] at this
                      rw [size_bs, size_bs]; omega
                    have HCV : ∀ w, Calls Try.prog 33 #[.string (v.extract 1 v.size), .int .u8 y] w fun e w' => Below w.heap.size w w' ∧ e = .returned (.tuple #[.string (bs p), .string tb, .bool true]) := by
                      intro w0
                      have := HCQ w0
                      rw [hoq] at this
                      rw [← htb]
                      exact this
                    clear hoq HCQ hql hvl htb
                    cases r with
                    | nil =>
                      have HON : Hid (wrd (wd ++ p) (lst tb) = O) := by
                        show _ = _
                        rw [HOW.out, hlt, wrd]; rfl
                      have ht0 : ¬ (0 : Int) < tb.size := by rw [htz]; simp
                      clear hlt htz
                      have hex : Nonempty (Ext wr) := ⟨⟨wr, Below.refl _ _⟩⟩
                      rcases hye with ⟨h1, h2⟩ | ⟨h1, h2⟩
                      all_goals
                        go_wp2_with (go_at_call 32; refine (refBlank_any _ _ rfl _).mono ?_; rintro e wr ⟨rfl, rfl⟩)
                        refine wp_region_ext (by kernel_rfl) (by kernel_rfl) ?_
                        repeat (go_big_quiet_step (first | (go_at_call 33; exact Calls.ext_of (HCV _))))
                        refine wpQuiet_nil ?_
                        intro wz hz
                        obtain ⟨xx, rfl⟩ := hz
                        have HB5 : Hid (Below w.heap.size w xx.wx) := HB2.out.trans (xx.ok.mono HB2.out.size)
                        have HO5 : Hid (OwnS xx.wx w.heap.size a n c (acc.map bs)) := HO2.out.keep xx.ok
                        go_wp2_with (go_at_call 32; refine (refBlank_any _ _ rfl _).mono ?_; rintro e w7 ⟨rfl, rfl⟩)
                        go_roundg tb.size
                        case measure => have := HTZ.out; omega
                        case rel => exact ⟨tb, wd ++ p, rfl, rfl, rfl, by have h1 := HTZ.out; have h2 := HV1.out; show _ ≤ _; omega, HLB.out, HO5, HB5, HON⟩
                    | cons d2 r2 =>
                      have hts : 0 < tb.size := by rw [htz]; simp
                      have hti : (0 : Int) < tb.size := by omega
                      obtain ⟨z, hz⟩ : ∃ c : Int, ((tb[0]'hts).toNat : Int) = c := ⟨_, rfl⟩
                      have hzd : tb[0]'hts = d2 := by
                        have := lst_cons tb hts
                        rw [hlt] at this
                        exact (List.cons.inj this).1.symm
                      have hb2 : blk d2 = blkI z := blk_int (by rw [← hzd]; exact hz)
                      cases hvz : blkI z with
                      | true =>
                        have HON : Hid (wrd (wd ++ p) (lst tb) = O) := by
                          show _ = _
                          rw [HOW.out, hlt, wrd_blank (by rw [hb2, hvz]), if_pos (by simp [hb2, hvz])]
                        clear hlt htz hzd hb2
                        have hex : Nonempty (Ext wr) := ⟨⟨wr, Below.refl _ _⟩⟩
                        rcases hye with ⟨h1, h2⟩ | ⟨h1, h2⟩
                        all_goals
                          go_wp2_with (go_at_call 32; refine (refBlank_any _ _ rfl _).mono ?_; rintro e wr ⟨rfl, rfl⟩)
                          refine wp_region_ext (by kernel_rfl) (by kernel_rfl) ?_
                          repeat (go_big_quiet_step (first | (go_at_call 33; exact Calls.ext_of (HCV _))))
                          refine wpQuiet_nil ?_
                          intro wz hz
                          obtain ⟨xx, rfl⟩ := hz
                          have HB5 : Hid (Below w.heap.size w xx.wx) := HB2.out.trans (xx.ok.mono HB2.out.size)
                          have HO5 : Hid (OwnS xx.wx w.heap.size a n c (acc.map bs)) := HO2.out.keep xx.ok
                          go_wp2_with (go_at_call 32; refine (refBlank_any _ _ rfl _).mono ?_; rintro e w7 ⟨rfl, rfl⟩)
                          go_roundg tb.size
                          case measure => have := HTZ.out; omega
                          case rel => exact ⟨tb, wd ++ p, rfl, rfl, rfl, by have h1 := HTZ.out; have h2 := HV1.out; show _ ≤ _; omega, HLB.out, HO5, HB5, HON⟩
                      | false =>
                        have HON : Hid (O = none) := by
                          show _ = _
                          rw [HOW.out, if_neg (by simp [hb2, hvz])]
                        have HRN : Hid (R = none) := by
                          have hw : wrd [] (b :: (lst u).drop 1) = none := by rw [← HLC.out, HOU.out]; exact HON.out
                          show _ = _
                          rw [← H.out, wds_bad (by rw [HD.out, HDE.out]; exact HLC.out) hw]
                        clear hlt htz hzd hb2
                        have hex : Nonempty (Ext wr) := ⟨⟨wr, Below.refl _ _⟩⟩
                        rcases hye with ⟨h1, h2⟩ | ⟨h1, h2⟩
                        all_goals
                          go_wp2_with (go_at_call 32; refine (refBlank_any _ _ rfl _).mono ?_; rintro e wr ⟨rfl, rfl⟩)
                          refine wp_region_ext (by kernel_rfl) (by kernel_rfl) ?_
                          repeat (go_big_quiet_step (first | (go_at_call 33; exact Calls.ext_of (HCV _))))
                          refine wpQuiet_nil ?_
                          intro wz hz
                          obtain ⟨xx, rfl⟩ := hz
                          have HB5 : Hid (Below w.heap.size w xx.wx) := HB2.out.trans (xx.ok.mono HB2.out.size)
                          have HO5 : Hid (OwnS xx.wx w.heap.size a n c (acc.map bs)) := HO2.out.keep xx.ok
                          go_wp2_with (go_at_call 32; refine (refBlank_any _ _ rfl _).mono ?_; rintro e w7 ⟨rfl, rfl⟩)
                          go_ret2
                          refine ⟨HB5.out, ?_⟩
                          rw [HRN.out]
                          rfl
                · have h34 : (y != 34) = true := by simp; omega
                  have h39 : (y != 39) = true := by simp; omega
                  have HON : Hid (wrd (wd ++ [d]) (lst (v.extract 1 v.size)) = O) := by
                    show _ = _
                    rw [lst_tail, ← HO3.out, HLV.out, wrd_push HBD.out (by rw [byte_is HY.out 34, byte_is HY.out 39]; exact hq)]
                    rfl
                  have hx1 : v.extract 0 1 = bs [d] := by
                    rw [← bs_lst (v.extract 0 1)]
                    congr 1
                    have := Lib.extract_data v 0 1
                    show (v.extract 0 1).data.toList = _
                    rw [this, show v.data.toList = d :: (lst v).drop 1 from HLV.out]
                    rfl
                  have hcat : bs wd ++ bs [d] = bs (wd ++ [d]) := append_bs _ _
                  have hwl : (bs wd).size + (bs [d]).size ≤ 100000 := by have := HW1.out; rw [size_bs, size_bs]; simp; omega
                  clear hq
                  go_wp2_with (go_at_call 32; refine (refBlank_any _ _ rfl _).mono ?_; rintro e wr ⟨rfl, rfl⟩)
                  go_roundg (v.size - 1)
                  case measure => omega
                  case rel => exact ⟨v.extract 1 v.size, wd ++ [d], by simp, rfl, rfl, by have := HV1.out; show _ ≤ _; simp; omega, by have := HW1.out; show _ ≤ _; simp; omega, HO2, HB2, HON⟩
            · have HOE : Hid (O = some (wd, lst v)) := by
                show _ = _
                rw [← HO3.out, lst_nil g0, wrd]
              have hv0 : ¬ (0 : Int) < v.size := by omega
              have HSTEP : Hid (wds f (acc ++ [wd]) (lst v) = R) := by
                have hw : wrd [] (b :: (lst u).drop 1) = some (wd, lst v) := by rw [← HLC.out, HOU.out]; exact HOE.out
                show _ = _
                rw [← H.out, wds_step (by rw [HD.out, HDE.out]; exact HLC.out) hw]
              have HVS : Hid (v.size < f) := by
                have hw : wrd [] (b :: (lst u).drop 1) = some (wd, lst v) := by rw [← HLC.out, HOU.out]; exact HOE.out
                have h1 := wrd_lt HBK.out hw
                rw [← HLC.out, len_lst, len_lst] at h1
                have h2 := HU.out
                have h3 := HT.out
                show _ < _
                omega
              have HM : Hid (n + 1 ≤ 1000000) := by have h1 := HNL.out; have h2 := HT2.out; show _ ≤ _; omega
              have HVL : Hid ((acc ++ [wd]).length + v.size ≤ 100000) := by
                have hw : wrd [] (b :: (lst u).drop 1) = some (wd, lst v) := by rw [← HLC.out, HOU.out]; exact HOE.out
                have h1 := wrd_lt HBK.out hw
                rw [← HLC.out, len_lst, len_lst] at h1
                have h2 := HU.out
                have h3 := HT2.out
                show _ ≤ _
                rw [List.length_append]; simp; omega
              go_wp2_with (first
                | (go_at_call 32; refine (refBlank_any _ _ rfl _).mono ?_; rintro e wr ⟨rfl, rfl⟩)
                | (at_builtin; refine append_str rfl (.tmp 75) (.tmp 77) rfl w.heap.size rfl (HO2.out.keep (alloc_below wr _)) rfl (by simp; rfl) HM.out (Nat.le_trans HB2.out.size (alloc_below wr _).size) ?_; intro a3 n3 c3 w3 hn3 hO3 hB3; have HO4 : Hid (OwnS w3 w.heap.size a3 n3 c3 ((acc ++ [wd]).map bs)) := (by rw [List.map_append]; exact hO3); have HB4 : Hid (Below w.heap.size w w3) := (HB2.out.trans ((alloc_below wr _).mono HB2.out.size)).trans hB3; clear hn3 hO3 hB3))
              go_roundg f
              case measure => omega
              case rel => exact ⟨v, _, _, _, acc ++ [wd], rfl, rfl, HVS, HVL, HO4, HB4, HSTEP⟩
      · have HE : Hid (R = some acc) := by
          show _ = _
          rw [← H.out, wds_done]
          rw [HD.out, ← HD1.out, lst_nil h0]; rfl
        have hu0 : ((u.size : Int) == 0) = true := beq_iff_eq.2 (by omega)
        have hu1 : ¬ (0 : Int) < u.size := by omega
        have hNN := HNL.out
        by_cases hle : (n : Int) ≤ 256
        · have HDD : Hid (decide (acc.length ≤ 256) = true) := decide_eq_true (by omega)
          clear hNN h0
          go_wp2
          go_ret2
          refine ⟨HB.out, ?_⟩
          rw [HE.out]
          exact ⟨_, _, _, by rw [HDD.out]; rfl, HO1.out⟩
        · have HDD : Hid (decide (acc.length ≤ 256) = false) := decide_eq_false (by omega)
          clear hNN h0
          go_wp2
          go_ret2
          refine ⟨HB.out, ?_⟩
          rw [HE.out]
          exact ⟨_, _, _, by rw [HDD.out]; rfl, HO1.out⟩
end Go.Proofs.Ytkoepgjdjbmknaa
