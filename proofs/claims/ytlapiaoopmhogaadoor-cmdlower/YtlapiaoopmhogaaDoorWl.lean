/-
  The law: letters' sizes make no difference to which command it is.
-/
import Derived.Test.YtlapiaoopmhogaaDoorWt
import Derived.Test.YtlapiaoopmhogaaDoorOpT
namespace Go.Proofs.YtlapiaoopmhogaaDoor
open Go.RowKit Go.PlainAid

theorem low_cut (s : ByteArray) : low (cutB s 64) = bs (((lst s).map lowB).take 64) := by
  unfold cutB
  by_cases h : (64 : Int) < s.size
  · rw [if_pos h, low, extract_lst, lst_bs, List.drop_zero, List.map_take]; rfl
  · rw [if_neg h, low, List.take_of_length_le (by rw [List.length_map, len_lst]; omega)]
/-- Requests that are one but for the first word's letters. -/
theorem same_ask {s t : ByteArray} (l : List ByteArray) (h : (lst t).map lowB = (lst s).map lowB) : nameP (t :: l) = nameP (s :: l) ∧ whyP (t :: l) = whyP (s :: l) ∧ cP (t :: l) = cP (s :: l) ∧ low t = low s := by
  have hn : nameP (t :: l) = nameP (s :: l) := by rw [nameP, nameP, low_cut, low_cut, h]
  have hz : t.size = s.size := by
    have := congrArg List.length h
    rwa [List.length_map, List.length_map, len_lst, len_lst] at this
  have hl : longB (t :: l) = longB (s :: l) := by rw [longB, longB, List.any_cons, List.any_cons, hz]
  have hc : cmdP (t :: l) = cmdP (s :: l) := by rw [cmdP, cmdP, hn]
  have hw : whyP (t :: l) = whyP (s :: l) := by rw [whyP, whyP, hc, hl]; rfl
  exact ⟨hn, hw, by rw [cP, cP, hw, hc], by rw [low, low, h]⟩
theorem flip_byte (X : UInt8) (h1 : 97 ≤ X.toNat) (h2 : X.toNat ≤ 122) : ∃ b : UInt8, (X.toNat : Int) - 32 = (b.toNat : Int) ∧ lowB b = lowB X := by
  refine ⟨UInt8.ofNat (X.toNat - 32), ?_, ?_⟩
  · rw [UInt8.toNat_ofNat', Nat.mod_eq_of_lt (by omega)]; omega
  · have hb : (UInt8.ofNat (X.toNat - 32)).toNat = X.toNat - 32 := by rw [UInt8.toNat_ofNat', Nat.mod_eq_of_lt (by omega)]
    have e := lowB_yes (UInt8.ofNat (X.toNat - 32)) (by rw [hb]; omega) (by rw [hb]; omega)
    rw [hb] at e
    rw [lowB_no X (by omega)]
    exact UInt8.toNat_inj.1 (by omega)
theorem map_set_same (l : List UInt8) (k : Nat) (b : UInt8) (hk : k < l.length) (h : lowB b = lowB (l.getD k 0)) : (l.set k b).map lowB = l.map lowB := by
  rw [List.map_set, h, List.getD_eq_getElem?_getD, List.getElem?_eq_getElem hk]
  have h2 : k < (l.map lowB).length := by rw [List.length_map]; exact hk
  have e : lowB ((some l[k]).getD 0) = (l.map lowB)[k]'h2 := by rw [List.getElem_map]; rfl
  rw [e]
  exact List.set_getElem_self h2
theorem RdS.tail {w : World} {a : Option Addr} {n c : Nat} {ls : List ByteArray} (h : RdS w a n ls) (h1 : 1 ≤ n) (hc : n ≤ c) : ∃ b off ta, a = some ⟨b, off, none⟩ ∧ (∀ wx, (Instr.sliceAt 24 (.slice a n c) (some (.int .i64 1)) none none).run Tryd.prog wx = .ok (.slice ta (n - 1) (c - 1)) wx) ∧ SrcT w 1 ta (n - 1) (c - 1) ((ls.drop 1).map Value.string) := by
  obtain ⟨b, off, rfl, -⟩ := h.cell 0 (by omega)
  refine ⟨b, off, if c = 1 then some ⟨b, off, none⟩ else some ⟨b, off + 1, none⟩, rfl, fun wx => ?_, ?_, ?_, ?_⟩
  · have ht : Tryd.prog.underlying 24 = some (.slice (Tryd.prog.elem 24)) := by rw [Tryd.elem24s]; exact Tryd.underlying24
    rw [run_sliceAt_slice _ _ _ _ _ _ ht, run_slice_l (P := Tryd.prog) wx 24 _ n c ht .i64 1 (by omega) (by omega), Tryd.elem24s, Tryd.size9s]
    by_cases e : c = 1
    · simp [Result.andThen, sliced, e]
    · simp [Result.andThen, sliced, e, add_flat]
  · rw [List.length_map, List.length_drop, h.len, Nat.mul_one]
  · intro e; split at e <;> cases e
  · intro ad e j u hu
    rw [List.getElem?_map, List.getElem?_drop] at hu
    cases hq : ls[1 + j]? with
    | none => rw [hq] at hu; cases hu
    | some t =>
      rw [hq] at hu
      have hj : 1 + j < n := by rw [← h.len]; exact (List.getElem?_eq_some_iff.1 hq).1
      have hne : ¬ c = 1 := by omega
      rw [if_neg hne] at e
      cases e
      obtain ⟨b', off', e1, hcl⟩ := h.cell (1 + j) hj
      cases e1
      rw [add_flat, Nat.add_assoc, hcl, ← hu, List.getD_eq_getElem?_getD, hq]; rfl

/-- Its small letters. -/
structure LowIs (t s : ByteArray) : Prop where
  low : low t = s
  size : t.size ≤ maxLen
theorem LowIs.calls {t s : ByteArray} (h : LowIs t s) (w : World) : Calls Tryd.prog 16 #[.string t] w fun e w' => Below w.heap.size w w' ∧ e = .returned (.string s) :=
  (Lower_any t w h.size).mono fun e w' k => ⟨k.2, by rw [k.1, h.low]⟩
/-- Faults in whatever world has more at its end. -/
structure FltX (w : World) (E : Value) (s : ByteArray) (c : Int) : Prop where
  flt : Flt w E s c
  laid : Laid w
  size : 0 < w.heap.size
theorem FltX.code {w : World} {E : Value} {s : ByteArray} {c : Int} (h : FltX w E s c) (x : Ext w) : Calls Tryd.prog 19 #[E] x.wx fun e w' => Below x.wx.heap.size x.wx w' ∧ e = .returned (.int .i64 c) :=
  ((h.flt.keep x.ok).code (h.laid.keep x.ok h.size)).mono fun _ _ k => ⟨k.2, k.1⟩
theorem FltX.cmd {w : World} {E : Value} {s : ByteArray} {c : Int} (h : FltX w E s c) (x : Ext w) : Calls Tryd.prog 20 #[E] x.wx fun e w' => Below x.wx.heap.size x.wx w' ∧ e = .returned (.string s) :=
  ((h.flt.keep x.ok).cmd (h.laid.keep x.ok h.size)).mono fun _ _ k => ⟨k.2, k.1⟩

set_option maxRecDepth 100000 in
set_option maxHeartbeats 8000000 in
theorem lower_law (wh : Int) (wa : Option Addr) (wn wk : Nat) (ft up : Bool) (fa : Option Addr) (fn fc : Nat) (w : World) (hw : RdW w wa wn) (hf : RdB w fa fn) (hg : Laid w) :
    Calls Tryd.prog 5 #[.agg #[.int .i64 wh, .slice wa wn wk, .bool ft, .bool up], .slice fa fn fc] w fun e w' => e = .returned (.bool true) ∧ Below w.heap.size w w' := by
  have hgl := lt_of_cell? hg
  have HGL : Hid (0 < w.heap.size) := hgl
  have HG : Hid (Laid w) := hg
  obtain ⟨w0, hw0⟩ : ∃ w0, w.alloc (.cells #[.int .i64 wh, .slice wa wn wk, .bool ft, .bool up] 37) = w0 := ⟨_, rfl⟩
  have hb0 : Below w.heap.size w w0 := by rw [← hw0]; exact alloc_below w _
  have hl0 : w.heap.size < w0.heap.size := by rw [← hw0]; exact alloc_lt w _ _
  have HB0 : Hid (Below w.heap.size w w0) := hb0
  have hh : ∀ i v, (#[Value.int .i64 wh, .slice wa wn wk, .bool ft, .bool up] : Array Value)[i]? = some v → w0.cell? ⟨w.heap.size, i, none⟩ = some v := fun i v hv => by
    rw [← hw0]
    exact cell_new w _ _ i v hv
  have x0 := hh 0 _ rfl
  have x1 := hh 1 _ rfl
  have x2 := hh 2 _ rfl
  have x3 := hh 3 _ rfl
  have HF0 : Hid (RdB w0 fa fn) := hf.keep hb0
  have hfn : fn ≤ 9223372036854775807 := hf.1
  have HAr := Args_any wh wa wn wk ft up w0 (hw.keep hb0)
  go_enter Tryd.func5, Tryd.ntmps5
  go_upto_region 1 with fail
  try simp only [hw0]
  clear hw0 hw hf hg hgl hl0 hb0 hh
  go_upto_region 2 with (go_at_call 14; refine HAr.mono ?_; rintro e w1 ⟨hB1, xa, xn, xc, xs, rfl, HX1, hxn⟩; have HB1 : Hid (Below w0.heap.size w0 w1) := hB1; clear hB1)
  have hxl : xs.length = xn := HX1.out.rd.len
  have hxp : 1 ≤ xn := HX1.out.pos
  obtain ⟨s0, tl, rfl⟩ : ∃ s tl, xs = s :: tl := by
    cases xs with
    | nil => simp at hxl; omega
    | cons s tl => exact ⟨s, tl, rfl⟩
  obtain ⟨xb, xo, ta, rfl, hsl, hsrc⟩ := HX1.out.rd.tail hxp HX1.out.own.cap.1
  have HSl : Hid (SrcT w1 1 ta (xn - 1) (xc - 1) (tl.map Value.string)) := hsrc
  have HR1 : Hid (RdS w1 (some ⟨xb, xo, none⟩) xn (s0 :: tl)) := HX1.out.rd
  have HXz : Hid (∀ s ∈ s0 :: tl, s.size ≤ 100) := HX1.out.sz
  have hs0 : s0.size ≤ 100 := HX1.out.sz s0 (by simp)
  have hne : ((xn : Int) == 0) = false := by simp; omega
  have hxp0 : (0 : Int) < xn := by omega
  have hc0 : w1.cell? ⟨xb, xo, none⟩ = some (.string s0) := by
    obtain ⟨b', o', e1, hc⟩ := HX1.out.rd.cell 0 (by omega)
    cases e1
    exact hc
  obtain ⟨cE, W2, hcv, hB2, hlt, hRow⟩ := conv_row w1 s0 (by unfold maxLen; omega)
  have HB2 : Hid (Below w1.heap.size w1 W2) := hB2
  obtain ⟨gx, hgx⟩ : ∃ g, w1.heap.size = g := ⟨_, rfl⟩
  rw [hgx] at hcv hRow
  have HGx : Hid (w1.heap.size = gx) := hgx
  have HRow : Hid (Row W2 gx gx s0.size cE (lst s0)) := hRow
  have hfit : s0.size ≤ cE := hRow.fit
  have hmx : cE ≤ maxLen := hRow.max
  obtain ⟨n, hn⟩ : ∃ n, s0.size = n := ⟨_, rfl⟩
  have HNs : Hid (s0.size = n) := hn
  rw [hn] at hcv HRow hfit hs0
  clear x0 x1 x2 x3 HAr hsrc HX1 hB2 hlt hRow hgx hn hxl
  go_upto_region 6 with fail
  go_loopg [7] n (fun g iv wr => ∃ (k : Nat) (l : List UInt8), k + g = n ∧ iv = .int .i64 k ∧ Hid (Row wr gx gx n cE l) ∧ Hid (l.map lowB = (lst s0).map lowB) ∧ Hid (Below w1.heap.size w1 wr))
  case atStart => exact ⟨0, lst s0, by omega, rfl, HRow, rfl, HB2⟩
  case round =>
    obtain ⟨k, l, hk, rfl, HRw, HM, HB⟩ := hrel
    clear HRow HB2
    have hk100 : k ≤ 100 := by omega
    go_upto_region 6 with fail
    go_cut [31] from 22 to 59 (fun u wx => ∃ bb : Bool, u = .bool bb ∧ wx = wr ∧ Hid (bb = true → k < n ∧ k < fn))
    case first =>
      by_cases h1 : (k : Int) < n
      · by_cases h2 : (k : Int) < fn
        · go_wp2
          go_meet
          exact ⟨true, rfl, rfl, fun _ => by omega⟩
        · go_wp2
          go_meet
          exact ⟨false, rfl, rfl, fun e => by cases e⟩
      · go_wp2
        go_meet
        exact ⟨false, rfl, rfl, fun e => by cases e⟩
    case rest =>
      obtain ⟨bb, rfl, rfl, HT⟩ := hcut
      cases bb with
      | true =>
        have hkn : k < n := (HT.out rfl).1
        have hkf : k < fn := (HT.out rfl).2
        have hkni : (k : Int) < n := by omega
        have hkfi : (k : Int) < fn := by omega
        have h01 : Below w0.heap.size w0 wc := HB1.out.trans (HB.out.mono HB1.out.size)
        obtain ⟨b, off, f, rfl, hfc⟩ := (HF0.out.keep h01).2 k hkf
        have hcell := HRw.out.cell k hkn
        have hfr := HRw.out.free k (by omega)
        have HU : Hid (97 ≤ (l.getD k 0).toNat → (l.getD k 0).toNat ≤ 122 → ∃ l2, Row (wc.setCell ⟨gx, k, none⟩ (.int .u8 (((l.getD k 0).toNat : Int) - 32))) gx gx n cE l2 ∧ l2.map lowB = (lst s0).map lowB) := fun h1 h2 => by
          obtain ⟨b2, e1, e2⟩ := flip_byte (l.getD k 0) h1 h2
          exact ⟨_, HRw.out.set k hkn b2 _ e1, by rw [map_set_same l k b2 (by rw [HRw.out.len]; exact hkn) e2]; exact HM.out⟩
        have HBs : Hid (∀ v, Below w1.heap.size w1 (wc.setCell ⟨gx, k, none⟩ v)) := fun v => HB.out.setCell (by rw [HGx.out]; exact Nat.le_refl _) v
        obtain ⟨X, hX⟩ : ∃ X, (l.getD k 0).toNat = X := ⟨_, rfl⟩
        have hx255 := (l.getD k 0).toNat_lt
        rw [hX] at hcell HU hx255
        clear hX HT h01
        cases f with
        | false =>
          go_wp2
          go_roundg (gk - 1)
          case measure => omega
          case rel => exact ⟨k + 1, l, by omega, by go_num, HRw, HM, HB⟩
        | true =>
          by_cases h97 : (97 : Int) ≤ X
          · by_cases h122 : (X : Int) ≤ 122
            · obtain ⟨l2, hr2, hm2⟩ := HU.out (by omega) (by omega)
              have HR2 : Hid (Row (wc.setCell ⟨gx, k, none⟩ (.int .u8 ((X : Int) - 32))) gx gx n cE l2) := hr2
              have HM2 : Hid (l2.map lowB = (lst s0).map lowB) := hm2
              have hw1 : IntKind.u8.wrap ((X : Int) - 32) = (X : Int) - 32 := by rw [IntKind.wrap_u8]; omega
              have HB2 := HBs.out (.int .u8 ((X : Int) - 32))
              have HB3 : Hid _ := HB2
              clear hr2 hm2 HU HB2 HBs
              go_wp2
              go_roundg (gk - 1)
              case measure => omega
              case rel => exact ⟨k + 1, l2, by omega, by go_num, HR2, HM2, HB3⟩
            · clear HU HBs
              go_wp2
              go_roundg (gk - 1)
              case measure => omega
              case rel => exact ⟨k + 1, l, by omega, by go_num, HRw, HM, HB⟩
          · clear HU HBs
            go_wp2
            go_roundg (gk - 1)
            case measure => omega
            case rel => exact ⟨k + 1, l, by omega, by go_num, HRw, HM, HB⟩
      | false =>
        clear HT
        obtain ⟨T, hT⟩ : ∃ T, bs l = T := ⟨_, rfl⟩
        have HTm : Hid ((lst T).map lowB = (lst s0).map lowB) := by show _ = _; rw [← hT, lst_bs]; exact HM.out
        have HTz : Hid (T.size ≤ 100) := by show _ ≤ _; rw [← hT, size_bs, HRw.out.len]; exact hs0
        have HTx : Hid (∀ wx, Below wc.heap.size wc wx → (convert 33 9 (.slice (some ⟨gx, 0, none⟩) n cE)).run Tryd.prog wx = .ok (.string T) wx) := fun wx h => by
          have := (HRw.out.rd.keep h).text
          rw [hT] at this
          exact this
        have hB0c : Below w0.heap.size w0 wc := HB1.out.trans (HB.out.mono HB1.out.size)
        have hBwc : Below w.heap.size w wc := HB0.out.trans (hB0c.mono HB0.out.size)
        have HBwc : Hid (Below w.heap.size w wc) := hBwc
        have HX : Hid (∀ wx, Below wc.heap.size wc wx → RdS wx (some ⟨xb, xo, none⟩) xn (s0 :: tl) ∧ SrcT wx 1 ta (xn - 1) (xc - 1) (tl.map Value.string) ∧ Laid wx ∧ Below w.heap.size w wx ∧ wx.cell? ⟨xb, xo, none⟩ = some (.string s0)) := fun wx h => by
          have h1 := HB.out.trans (h.mono HB.out.size)
          have h2 := HBwc.out.trans (h.mono HBwc.out.size)
          have hr := HR1.out.keep h1
          refine ⟨hr, HSl.out.keep h1, HG.out.keep h2 HGL.out, h2, ?_⟩
          obtain ⟨b', o', e1, hc⟩ := hr.cell 0 (by omega)
          cases e1
          exact hc
        obtain ⟨hsnm, hswy, hscp, hslow⟩ := same_ask tl HTm.out
        have HSm : Hid (nameP (T :: tl) = nameP (s0 :: tl) ∧ whyP (T :: tl) = whyP (s0 :: tl) ∧ cP (T :: tl) = cP (s0 :: tl)) := ⟨hsnm, hswy, hscp⟩
        obtain ⟨SL, hSL⟩ : ∃ x, low s0 = x := ⟨_, rfl⟩
        have HLw : Hid (LowIs T SL ∧ LowIs s0 SL) := ⟨⟨by rw [hslow, hSL], by have := HTz.out; unfold maxLen; omega⟩, ⟨hSL, by have := HXz.out s0 (by simp); unfold maxLen; omega⟩⟩
        have hSS : (SL.toList == SL.toList) = true := beq_self_eq_true _
        -- the row with the turned word
        obtain ⟨wd, hwd⟩ : ∃ x, (wc.alloc (.cells #[.string T] 9)).drew = x := ⟨_, rfl⟩
        have hbd : Below wc.heap.size wc wd := by rw [← hwd]; exact (alloc_below wc _).drew
        have HOd : Hid (OwnT wd wc.heap.size 1 (some ⟨wc.heap.size, 0, none⟩) 1 1 [.string T]) := by
          show OwnT _ _ _ _ _ _ _
          rw [← hwd]
          exact ⟨rfl, .inr ⟨wc.heap.size, _, 9, rfl, Nat.le_refl _, heap_alloc_new wc _, Nat.le_refl _, by decide, rfl, rfl⟩⟩
        have HBd : Hid (Below wc.heap.size wc wd) := hbd
        have HSd : Hid (SrcT wd 1 ta (xn - 1) (xc - 1) (tl.map Value.string)) := (HX.out wd hbd).2.1
        have hcd := HTx.out wc.drew (Below.refl _ _).drew
        have hxn300 : 1 + (xn - 1) ≤ 301 := by omega
        have hb1 : (1 + (xn - 1)) * 16 ≤ 140737488355328 := by omega
        have hm1 : 1 + (xn - 1) ≤ maxLen := by unfold maxLen; omega
        clear hT hB0c hBwc hsnm hswy hscp hslow hSL hbd
        go_upto_region 10 with fail
        go_region_law (refine step_append_t rfl (.tmp 62) (.tmp 64) rfl eltS wc.heap.size (by first | rfl | (simp [Act.eval] <;> rfl)) HOd.out (tl.map Value.string) (by first | rfl | (simp [Act.eval] <;> rfl)) HSd.out (ones tl) hb1 hm1 HBd.out.size ?_; intro a4 n4 c4 w4 hn4 HO4 HG4; replace hn4 : xn = n4 := (by omega); subst hn4; have HB4 : Hid (Below wc.heap.size wc w4) := HBd.out.trans (HOd.out.below HG4.out HBd.out.size))
        all_goals
          have HLy : Hid (Lst w4 wc.heap.size a4 xn c4 (T :: tl)) := ⟨HO4.out, fun s hs => (List.mem_cons.1 hs).elim (fun h => by rw [h]; exact HTz.out) (fun h => HXz.out s (List.mem_cons_of_mem _ h)), hxp⟩
          have hx4 := HX.out w4 HB4.out
          have HY : Hid (∀ wx, Below w4.heap.size w4 wx → RdS wx a4 xn (T :: tl) ∧ (convert 33 9 (.slice (some ⟨gx, 0, none⟩) n cE)).run Tryd.prog wx = .ok (.string T) wx ∧ Laid wx ∧ Below w.heap.size w wx ∧ wx.cell? ⟨xb, xo, none⟩ = some (.string s0) ∧ 0 < wx.heap.size) := fun wx h => by
            have h1 := HB4.out.trans (h.mono HB4.out.size)
            have h2 := HX.out wx h1
            exact ⟨HLy.out.rd.keep h, HTx.out wx h1, h2.2.2.1, h2.2.2.2.1, h2.2.2.2.2, Nat.lt_of_lt_of_le HGL.out h2.2.2.2.1.size⟩
          obtain ⟨C, hCe⟩ : ∃ x, cP (s0 :: tl) = x := ⟨_, rfl⟩
          obtain ⟨NM, hNM⟩ : ∃ x, nameP (s0 :: tl) = x := ⟨_, rfl⟩
          obtain ⟨why, hWh⟩ : ∃ x, whyP (s0 :: tl) = x := ⟨_, rfl⟩
          by_cases hwy : why = 0
          · rw [hwy] at hWh
            have hCx := (Check_any (some ⟨xb, xo, none⟩) xn xc (s0 :: tl) w4 hx4.1).mono fun e w h => h.ok hWh
            have hCy := fun wx (h : RdS wx a4 xn (T :: tl)) => (Check_any a4 xn c4 (T :: tl) wx h).mono fun e w h => h.ok (HSm.out.2.1.trans hWh)
            rw [hCe] at hCx
            simp only [HSm.out.2.2, hCe] at hCy
            obtain ⟨nm, lo, hi, wb, gr⟩ := C
            simp only [Cm.v] at hCx hCy
            have h1 : (nm.toList == nm.toList) = true := beq_self_eq_true _
            have h2 : (lo == lo) = true := beq_self_eq_true _
            have h3 : (hi == hi) = true := beq_self_eq_true _
            have h4 : (wb == wb) = true := beq_self_eq_true _
            have h5 : (gr == gr) = true := beq_self_eq_true _
            clear hCe hNM hWh hx4 HSm HSd HSl hcv hcd hc0 hsl HO4 HG4 HOd HBd hwd
            go_upto_region 12 with (go_at_call 18; refine hCx.mono ?_; rintro e w5 ⟨hB5, rfl⟩)
            obtain ⟨w5c, hw5⟩ : ∃ x, w5.alloc (.cells #[.string nm, .int .i64 lo, .int .i64 hi, .bool wb, .int .i64 gr] 27) = x := ⟨_, rfl⟩
            have hb5 : Below w5.heap.size w5 w5c := by rw [← hw5]; exact alloc_below w5 _
            have hv5 : VarC w5c w5.heap.size ⟨nm, lo, hi, wb, gr⟩ := by rw [← hw5]; exact ⟨_, heap_alloc_new w5 _⟩
            have h45 : Below w4.heap.size w4 w5c := hB5.trans (hb5.mono hB5.size)
            obtain ⟨g9, hg9⟩ : ∃ x, w5.heap.size = x := ⟨_, rfl⟩
            rw [hg9] at hv5
            have HV5 : Hid (VarC w5c g9 ⟨nm, lo, hi, wb, gr⟩) := hv5
            have HB5 : Hid (Below w4.heap.size w4 w5c) := h45
            have hCy5 := hCy w5c (HY.out w5c h45).1
            try simp only [hw5, hg9]
            clear hw5 hg9 hv5 h45 hB5 hCx hCy hb5
            go_upto_region 13 with (go_at_call 18; refine hCy5.mono ?_; rintro e w6 ⟨hB6, rfl⟩)
            obtain ⟨w6c, hw6⟩ : ∃ x, w6.alloc (.cells #[.string nm, .int .i64 lo, .int .i64 hi, .bool wb, .int .i64 gr] 27) = x := ⟨_, rfl⟩
            have hb6 : Below w6.heap.size w6 w6c := by rw [← hw6]; exact alloc_below w6 _
            have hv6 : VarC w6c w6.heap.size ⟨nm, lo, hi, wb, gr⟩ := by rw [← hw6]; exact ⟨_, heap_alloc_new w6 _⟩
            have h56 : Below w5c.heap.size w5c w6c := hB6.trans (hb6.mono hB6.size)
            have h46 : Below w4.heap.size w4 w6c := HB5.out.trans (h56.mono HB5.out.size)
            obtain ⟨g11, hg11⟩ : ∃ x, w6.heap.size = x := ⟨_, rfl⟩
            rw [hg11] at hv6
            have HB6 : Hid (Below w4.heap.size w4 w6c) := h46
            obtain ⟨y0, y1, y2, y3, y4⟩ := hv6.cells
            obtain ⟨z0, z1, z2, z3, z4⟩ := (HV5.out.keep h56 HV5.out.lt).cells
            simp only at y0 y1 y2 y3 y4 z0 z1 z2 z3 z4
            try simp only [hw6, hg11]
            clear hw6 hg11 hv6 h46 h56 hB6 hb6 hCy5
            have HW6 : Hid (Below w4.heap.size w4 w6c) := HB6
            have hHY6 := HY.out w6c HB6.out
            have hKn : ∀ x : Ext w6c, Calls Tryd.prog 12 #[] x.wx fun e w' => Below x.wx.heap.size x.wx w' ∧ e = .returned (.bool true) := fun x => (known_any _ (hHY6.2.2.1.keep x.ok hHY6.2.2.2.2.2)).mono fun e w' k => ⟨k.2, k.1⟩
            have cT : ∀ x : Ext w6c, (convert 33 9 (.slice (some ⟨gx, 0, none⟩) n cE)).run Tryd.prog x.wx = .ok (.string T) x.wx := fun x => (HY.out _ (HB6.out.trans (x.ok.mono HB6.out.size))).2.1
            have cS : ∀ x : Ext w6c, x.wx.cell? ⟨xb, xo, none⟩ = some (.string s0) := fun x => (HY.out _ (HB6.out.trans (x.ok.mono HB6.out.size))).2.2.2.2.1
            have hex : Nonempty (Ext w6c) := ⟨⟨w6c, Below.refl _ _⟩⟩
            have keepc : ∀ (x : Ext w6c) (g i : Nat) (v : Value), w6c.cell? ⟨g, i, none⟩ = some v → x.wx.cell? ⟨g, i, none⟩ = some v := fun x g i v h => by
              rw [x.ok.cell (p := ⟨g, i, none⟩) (World.block_lt_of_cell? _ _ h)]; exact h
            have ey0 := fun x => keepc x _ _ _ y0
            have ey1 := fun x => keepc x _ _ _ y1
            have ey2 := fun x => keepc x _ _ _ y2
            have ey3 := fun x => keepc x _ _ _ y3
            have ey4 := fun x => keepc x _ _ _ y4
            have ez0 := fun x => keepc x _ _ _ z0
            have ez1 := fun x => keepc x _ _ _ z1
            have ez2 := fun x => keepc x _ _ _ z2
            have ez3 := fun x => keepc x _ _ _ z3
            have ez4 := fun x => keepc x _ _ _ z4
            have hTL : LowIs T SL := HLw.out.1
            have hSL2 : LowIs s0 SL := HLw.out.2
            clear y0 y1 y2 y3 y4 z0 z1 z2 z3 z4 hHY6 keepc
            refine wp_region_ext (by kernel_rfl) (by kernel_rfl) ?_
            repeat (go_big_quiet_step (first
              | (go_at_call 19; exact Calls.ext_of ((Code_nil _).mono fun _ _ k => ⟨by rw [k.2]; exact Below.refl _ _, k.1⟩))
              | (go_at_call 20; exact Calls.ext_of ((Cmd_nil _).mono fun _ _ k => ⟨k.2, k.1⟩))
              | (go_at_call 16; exact Calls.ext_of (LowIs.calls (by assumption) _))
              | (go_at_call 12; exact Calls.ext_of (hKn _))))
            refine wpQuiet_nil ?_
            intro wz hz
            obtain ⟨xx, rfl⟩ := hz
            have HBz : Hid (Below w.heap.size w xx.wx) := (HY.out _ (HB6.out.trans (xx.ok.mono HB6.out.size))).2.2.2.1
            go_wp2
            go_ret
            exact ⟨rfl, HBz.out⟩
          · have hz : cP (s0 :: tl) = Cm.z := by rw [cP, hWh, if_neg hwy]
            have hCx := (Check_any (some ⟨xb, xo, none⟩) xn xc (s0 :: tl) w4 hx4.1).mono fun e w h => h.err hWh hNM hwy
            have hCy := fun wx (h : RdS wx a4 xn (T :: tl)) => (Check_any a4 xn c4 (T :: tl) wx h).mono fun e w h => h.err (HSm.out.2.1.trans hWh) (HSm.out.1.trans hNM) hwy
            have hNN : (NM.toList == NM.toList) = true := beq_self_eq_true _
            have hww : (why == why) = true := beq_self_eq_true _
            clear hCe hNM hWh hx4 HSm HSd HSl hcv hcd hc0 hsl HO4 HG4 HOd HBd hwd hz
            go_upto_region 12 with (go_at_call 18; refine hCx.mono ?_; rintro e w5 ⟨hB5, E1, rfl, hF5⟩)
            obtain ⟨w5c, hw5⟩ : ∃ x, w5.alloc (.cells #[.string ⟨#[]⟩, .int .i64 0, .int .i64 0, .bool false, .int .i64 0] 27) = x := ⟨_, rfl⟩
            have hb5 : Below w5.heap.size w5 w5c := by rw [← hw5]; exact alloc_below w5 _
            have hv5 : VarC w5c w5.heap.size Cm.z := by rw [← hw5]; exact ⟨_, heap_alloc_new w5 _⟩
            have h45 : Below w4.heap.size w4 w5c := hB5.trans (hb5.mono hB5.size)
            obtain ⟨g9, hg9⟩ : ∃ x, w5.heap.size = x := ⟨_, rfl⟩
            rw [hg9] at hv5
            have HV5 : Hid (VarC w5c g9 Cm.z) := hv5
            have HB5 : Hid (Below w4.heap.size w4 w5c) := h45
            have hCy5 := hCy w5c (HY.out w5c h45).1
            try simp only [hw5, hg9]
            have HF5 : Hid (Flt w5c E1 NM why) := hF5.keep hb5
            clear hF5 hb5
            clear hw5 hg9 hv5 h45 hB5 hCx hCy
            go_upto_region 13 with (go_at_call 18; refine hCy5.mono ?_; rintro e w6 ⟨hB6, E2, rfl, hF6⟩)
            obtain ⟨w6c, hw6⟩ : ∃ x, w6.alloc (.cells #[.string ⟨#[]⟩, .int .i64 0, .int .i64 0, .bool false, .int .i64 0] 27) = x := ⟨_, rfl⟩
            have hb6 : Below w6.heap.size w6 w6c := by rw [← hw6]; exact alloc_below w6 _
            have hv6 : VarC w6c w6.heap.size Cm.z := by rw [← hw6]; exact ⟨_, heap_alloc_new w6 _⟩
            have h56 : Below w5c.heap.size w5c w6c := hB6.trans (hb6.mono hB6.size)
            have h46 : Below w4.heap.size w4 w6c := HB5.out.trans (h56.mono HB5.out.size)
            obtain ⟨g11, hg11⟩ : ∃ x, w6.heap.size = x := ⟨_, rfl⟩
            rw [hg11] at hv6
            have HB6 : Hid (Below w4.heap.size w4 w6c) := h46
            obtain ⟨y0, y1, y2, y3, y4⟩ := hv6.cells
            obtain ⟨z0, z1, z2, z3, z4⟩ := (HV5.out.keep h56 HV5.out.lt).cells
            simp only [Cm.z] at y0 y1 y2 y3 y4 z0 z1 z2 z3 z4
            try simp only [hw6, hg11]
            have HF1 : Hid (Flt w6c E1 NM why) := HF5.out.keep h56
            have HF2 : Hid (Flt w6c E2 NM why) := hF6.keep hb6
            clear hF6 HF5
            clear hw6 hg11 hv6 h46 h56 hB6 hb6 hCy5
            have HW6 : Hid (Below w4.heap.size w4 w6c) := HB6
            have hHY6 := HY.out w6c HB6.out
            have hKn : ∀ x : Ext w6c, Calls Tryd.prog 12 #[] x.wx fun e w' => Below x.wx.heap.size x.wx w' ∧ e = .returned (.bool true) := fun x => (known_any _ (hHY6.2.2.1.keep x.ok hHY6.2.2.2.2.2)).mono fun e w' k => ⟨k.2, k.1⟩
            have cT : ∀ x : Ext w6c, (convert 33 9 (.slice (some ⟨gx, 0, none⟩) n cE)).run Tryd.prog x.wx = .ok (.string T) x.wx := fun x => (HY.out _ (HB6.out.trans (x.ok.mono HB6.out.size))).2.1
            have cS : ∀ x : Ext w6c, x.wx.cell? ⟨xb, xo, none⟩ = some (.string s0) := fun x => (HY.out _ (HB6.out.trans (x.ok.mono HB6.out.size))).2.2.2.2.1
            have hex : Nonempty (Ext w6c) := ⟨⟨w6c, Below.refl _ _⟩⟩
            have keepc : ∀ (x : Ext w6c) (g i : Nat) (v : Value), w6c.cell? ⟨g, i, none⟩ = some v → x.wx.cell? ⟨g, i, none⟩ = some v := fun x g i v h => by
              rw [x.ok.cell (p := ⟨g, i, none⟩) (World.block_lt_of_cell? _ _ h)]; exact h
            have ey0 := fun x => keepc x _ _ _ y0
            have ey1 := fun x => keepc x _ _ _ y1
            have ey2 := fun x => keepc x _ _ _ y2
            have ey3 := fun x => keepc x _ _ _ y3
            have ey4 := fun x => keepc x _ _ _ y4
            have ez0 := fun x => keepc x _ _ _ z0
            have ez1 := fun x => keepc x _ _ _ z1
            have ez2 := fun x => keepc x _ _ _ z2
            have ez3 := fun x => keepc x _ _ _ z3
            have ez4 := fun x => keepc x _ _ _ z4
            have hTL : LowIs T SL := HLw.out.1
            have hSL2 : LowIs s0 SL := HLw.out.2
            have hX1 : FltX w6c E1 NM why := ⟨HF1.out, hHY6.2.2.1, hHY6.2.2.2.2.2⟩
            have hX2 : FltX w6c E2 NM why := ⟨HF2.out, hHY6.2.2.1, hHY6.2.2.2.2.2⟩
            clear y0 y1 y2 y3 y4 z0 z1 z2 z3 z4 hHY6 keepc
            refine wp_region_ext (by kernel_rfl) (by kernel_rfl) ?_
            repeat (go_big_quiet_step (first
              | (go_at_call 19; exact Calls.ext_of (FltX.code (s := NM) (by assumption) _))
              | (go_at_call 20; exact Calls.ext_of (FltX.cmd (c := why) (by assumption) _))
              | (go_at_call 16; exact Calls.ext_of (LowIs.calls (by assumption) _))
              | (go_at_call 12; exact Calls.ext_of (hKn _))))
            refine wpQuiet_nil ?_
            intro wz hz
            obtain ⟨xx, rfl⟩ := hz
            have HBz : Hid (Below w.heap.size w xx.wx) := (HY.out _ (HB6.out.trans (xx.ok.mono HB6.out.size))).2.2.2.1
            go_wp2
            go_ret
            exact ⟨rfl, HBz.out⟩
end Go.Proofs.YtlapiaoopmhogaaDoor
