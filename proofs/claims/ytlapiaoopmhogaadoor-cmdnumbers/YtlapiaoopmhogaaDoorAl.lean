/-
  All commands, as the document's own table makes them.
-/
import Derived.Test.YtlapiaoopmhogaaDoorRx
import Derived.Test.YtlapiaoopmhogaaDoorPt
import Derived.Deep.CutRange
import Derived.Deep.RegionLaw
import Derived.BigQuiet
import Derived.Laws.Cover1
namespace Go.Proofs.YtlapiaoopmhogaaDoor
open Go.RowKit Go.PlainAid

theorem less_asym : ∀ a b : List UInt8, Op.bytesLess a b = true → Op.bytesLess b a = false
  | _, [], h => by simp [Op.bytesLess] at h
  | [], _ :: _, _ => rfl
  | a :: x, b :: y, h => by
    have ih := less_asym x y
    simp only [Op.bytesLess, Bool.or_eq_true, Bool.and_eq_true, beq_iff_eq, decide_eq_true_eq, Bool.or_eq_false_iff, Bool.and_eq_false_iff, decide_eq_false_iff_not, beq_eq_false_iff_ne] at h ⊢
    rcases h with h | ⟨rfl, h⟩
    · exact ⟨UInt8.not_lt.2 (UInt8.le_of_lt h), .inl (fun e => by subst e; exact UInt8.lt_irrefl _ h)⟩
    · exact ⟨UInt8.lt_irrefl _, .inr (ih h)⟩
theorem less_eq : ∀ a b : List UInt8, Op.bytesLess a b = false → Op.bytesLess b a = false → a = b
  | [], [], _, _ => rfl
  | _ :: _, [], _, h => by simp [Op.bytesLess] at h
  | [], _ :: _, h, _ => by simp [Op.bytesLess] at h
  | a :: x, b :: y, h, k => by
    have ih := less_eq x y
    simp only [Op.bytesLess, Bool.or_eq_false_iff, Bool.and_eq_false_iff, decide_eq_false_iff_not, beq_eq_false_iff_ne] at h k
    have e : a = b := UInt8.le_antisymm (UInt8.not_lt.1 k.1) (UInt8.not_lt.1 h.1)
    subst e
    rcases h.2 with h2 | h2
    · exact absurd rfl h2
    · rcases k.2 with k2 | k2
      · exact absurd rfl k2
      · rw [ih h2 k2]
theorem foldl_take {α β : Type} (f : β → α → β) (b : β) (l : List α) (j : Nat) (x : α) (h : l[j]? = some x) : (l.take (j + 1)).foldl f b = f ((l.take j).foldl f b) x := by
  rw [List.take_add_one, h, List.foldl_append]; rfl
theorem foldl_insC_len (l : List Cm) : ∀ b, (l.foldl insC b).length = b.length + l.length := by
  induction l with
  | nil => intro b; rfl
  | cons c l ih => intro b; rw [List.foldl_cons, ih, insC_len, List.length_cons]; omega
theorem rows_len (g : Nat) (h1 : 1 ≤ g) (h6 : g ≤ 6) : (rowsM g).length ≤ 34 := by
  have h1' := trip_len g _ (okg g h1 h6)
  have h2 := (sizes g h1 h6).2
  rw [rowsM]; omega
theorem allTo_len : ∀ g, g ≤ 6 → (allTo g).length ≤ 34 * g
  | 0, _ => Nat.le_refl _
  | g + 1, h => by
    have ih := allTo_len g (by omega)
    have := rows_len (g + 1) (by omega) h
    rw [allTo, foldl_insC_len]; omega

theorem OwnS.at {w : World} {B : Nat} {a : Option Addr} {n c : Nat} {ls : List ByteArray} (h : OwnS w B a n c ls) (hn : 0 < n) : ∃ g, a = some ⟨g, 0, none⟩ ∧ ∀ k s, ls[k]? = some s → w.cell? ⟨g, k, none⟩ = some (.string s) := by
  rcases h.2 with ⟨h2, h3⟩ | ⟨g, c, cur, h1, h3, h4, h5, h6, h7, h8⟩
  · omega
  · cases h1
    refine ⟨g, rfl, fun k s hk => ?_⟩
    have := h.cells (g := g) rfl k (.string s) (by rw [List.getElem?_map, hk]; rfl)
    rw [add_flat, Nat.zero_add] at this
    exact this

theorem VarC.put {w : World} {g : Nat} {c : Cm} (h : VarC w g c) (nm : ByteArray) (b : Bool) : VarC ((w.setCell ⟨g, 0, none⟩ (.string nm)).setCell ⟨g, 3, none⟩ (.bool b)) g ⟨nm, c.lo, c.hi, b, c.gr⟩ := by
  obtain ⟨t, h⟩ := h
  exact ⟨t, heap_set (heap_set h _) _⟩
theorem last_at (s : ByteArray) (k : Nat) (h : k < s.size) (hk : s.size = k + 1) : (lst s).getLast? = some (s[k]'h) := by
  rw [List.getLast?_eq_getElem?, len_lst, hk, Nat.add_sub_cancel]
  have := drop_at s k h
  have h2 := congrArg (·[0]?) this
  simpa using h2

theorem ccells_take : ∀ (k : Nat) (l : List Cm), ccells (l.take k) = (ccells l).take (k * 5)
  | 0, l => by simp [ccells]
  | k + 1, [] => by simp [ccells]
  | k + 1, x :: l => by
    have e : ∀ y m, ccells (y :: m) = .string y.nm :: .int .i64 y.lo :: .int .i64 y.hi :: .bool y.wr :: .int .i64 y.gr :: ccells m := fun _ _ => rfl
    rw [List.take_succ_cons, e, e, ccells_take k l, show (k + 1) * 5 = k * 5 + 1 + 1 + 1 + 1 + 1 by omega]
    rfl
theorem ccells_drop : ∀ (k : Nat) (l : List Cm), ccells (l.drop k) = (ccells l).drop (k * 5)
  | 0, l => by simp
  | k + 1, [] => by simp [ccells]
  | k + 1, x :: l => by
    have e : ∀ y m, ccells (y :: m) = .string y.nm :: .int .i64 y.lo :: .int .i64 y.hi :: .bool y.wr :: .int .i64 y.gr :: ccells m := fun _ _ => rfl
    rw [List.drop_succ_cons, e, ccells_drop k l, show (k + 1) * 5 = k * 5 + 1 + 1 + 1 + 1 + 1 by omega]
    rfl

set_option maxRecDepth 100000 in
set_option maxHeartbeats 8000000 in
theorem All_any (w : World) : Calls Tryd.prog 7 #[] w fun e w' => Below w.heap.size w w' ∧ ∃ a c, e = .returned (.slice a 81 c) ∧ OwnC w' w.heap.size a 81 c refs := by
  have HO : Hid (OwnC w w.heap.size none 0 0 (allTo 0)) := OwnT.nil w _ 5
  go_enter Tryd.func7, Tryd.ntmps7
  go_wp2
  go_loopg [1, 2] 6 (fun gk ov gv wr => ∃ (g : Nat) (a : Option Addr) (n c : Nat), g + gk = 6 ∧ gv = .int .i64 ((g : Int) + 1) ∧ ov = .slice a n c ∧ Hid (OwnC wr w.heap.size a n c (allTo g)) ∧ Hid (Below w.heap.size w wr))
  case atStart => exact ⟨0, none, 0, 0, rfl, rfl, rfl, HO, Below.refl _ _⟩
  case round =>
    obtain ⟨g, a, n, c, hg, rfl, rfl, HO, HB⟩ := hrel
    obtain ⟨gi, hgi⟩ : ∃ gq, gq = gk := ⟨_, rfl⟩
    subst hgi
    by_cases h6 : (g : Int) + 1 ≤ 6
    · have hg6 : g + 1 ≤ 6 := by omega
      have HLn := fun w => lines_any (g + 1) w (by omega) hg6
      have hzz := sizes (g + 1) (by omega) hg6
      have HWd := fun w => words_any (bs (linesM (g + 1))) w (by rw [size_bs]; omega)
      rw [lst_bs] at HWd
      have HOK : Hid (tripOk (wordsM (linesM (g + 1)) []) = true) := okg (g + 1) (by omega) hg6
      have HWL : Hid ((wordsM (linesM (g + 1)) []).length ≤ 100) := hzz.2
      have HRows : Hid (rowsM (g + 1) = trip (g + 1) (wordsM (linesM (g + 1)) [])) := rfl
      have HAll : Hid (allTo (g + 1) = (rowsM (g + 1)).foldl insC (allTo g)) := rfl
      have HAL : Hid ((allTo g).length ≤ 34 * g) := allTo_len g (by omega)
      obtain ⟨ws, hws⟩ : ∃ ws, wordsM (linesM (g + 1)) [] = ws := ⟨_, rfl⟩
      rw [hws] at HWd HOK HWL HRows
      obtain ⟨LB, hLB⟩ : ∃ b, bs (linesM (g + 1)) = b := ⟨_, rfl⟩
      rw [hLB] at HLn HWd
      have hg1 : ((g + 1 : Nat) : Int) = (g : Int) + 1 := by omega
      rw [hg1] at HLn
      clear hws hLB hzz
      go_upto_region 6 with (first
        | (go_at_call 22; refine (HLn _).mono ?_; rintro e wl ⟨rfl, rfl⟩)
        | (go_at_call 21; refine (HWd _).mono ?_; rintro e w2 ⟨hB2, a2, n2, c2, rfl, hO2⟩; have HO2 : Hid (OwnS w2 wl.heap.size a2 n2 c2 (ws.map bs)) := hO2; have HB2 : Hid (Below wl.heap.size wl w2) := hB2; clear hO2 hB2))
      have HBo : Hid (Below w.heap.size w w2) := HB.out.trans (HB2.out.mono HB.out.size)
      have HOo : Hid (OwnC w2 w.heap.size a n c (((rowsM (g + 1)).take 0).foldl insC (allTo g))) := OwnT.keep HO.out HB2.out
      obtain ⟨R, hR⟩ : ∃ R, rowsM (g + 1) = R := ⟨_, rfl⟩
      rw [hR] at HRows HAll HOo
      have HRL : Hid (ws.length = 3 * R.length) := by show _ = _; rw [HRows.out]; exact trip_len _ _ HOK.out
      have HWN : Hid (ws.length = n2) := by have := HO2.out.len; rw [List.length_map] at this; exact this
      have HOL : Hid (∀ k, ((R.take k).foldl insC (allTo g)).length ≤ 1000) := fun k => by
        have h1 := HAL.out
        have h2 := HWL.out
        have h3 := HRL.out
        rw [foldl_insC_len, List.length_take]; omega
      have hn2 : n2 ≤ 100 := by rw [← HWN.out]; exact HWL.out
      obtain ⟨P, hP⟩ : ∃ P, allTo g = P := ⟨_, rfl⟩
      rw [hP] at HOo HOL HAll
      obtain ⟨B, hB⟩ : ∃ B, w.heap.size = B := ⟨_, rfl⟩
      rw [hB] at HOo HBo HB
      have HB0 : Hid (B ≤ w2.heap.size) := by show _ ≤ _; rw [← hB]; exact HBo.out.size
      have HBeq : Hid (w.heap.size = B) := hB
      clear HO hR hP HAL HB2 HLn HWd hB
      go_upto_region 7 with fail
      go_loopg [1, 4] R.length (fun gj ov iv wr => ∃ (j I : Nat) (a : Option Addr) (n c : Nat), j + gj = R.length ∧ iv = .int .i64 I ∧ ov = .slice a n c ∧ Hid (I = 3 * j) ∧ Hid (OwnC wr B a n c ((R.take j).foldl insC P)) ∧ Hid (Below w2.heap.size w2 wr))
      case atStart => exact ⟨0, 0, a, n, c, by omega, rfl, rfl, rfl, HOo, Below.refl _ _⟩
      case round =>
        obtain ⟨j, I, a, n, c, hj, rfl, rfl, HI, HO, HBr⟩ := hrel
        clear HOo
        obtain ⟨gj, hgj⟩ : ∃ gq, gq = gk := ⟨_, rfl⟩
        subst hgj
        have hI100 : I ≤ 200 := by have h1 := HI.out; have h2 := HRL.out; have h3 := HWN.out; omega
        by_cases h7 : (I : Int) + 2 < n2
        · obtain ⟨wa, wb, wz, ha, hb, hc, hne, ha100, hsb, hsc, hrow⟩ := trip_at (g + 1) j ws HOK.out (by have h1 := HI.out; have h2 := HWN.out; omega)
          rw [← HI.out] at ha hb hc
          rw [← HRows.out] at hrow
          have hjR : j < R.length := (List.getElem?_eq_some_iff.1 hrow).1
          obtain ⟨gl, rfl, hcell⟩ := OwnS.at (OwnS.keep HO2.out HBr.out) (by omega)
          have c0 := hcell I (bs wa) (by rw [List.getElem?_map, ha]; rfl)
          have c1 := hcell (I + 1) (bs wb) (by rw [List.getElem?_map, hb]; rfl)
          have c2 := hcell (I + 2) (bs wz) (by rw [List.getElem?_map, hc]; rfl)
          have HSb := fun w => small_any (bs wb) w (by rw [lst_bs]; exact hsb)
          have HSc := fun w => small_any (bs wz) w (by rw [lst_bs]; exact hsc)
          rw [lst_bs] at HSb HSc
          have HStep : Hid ((R.take (j + 1)).foldl insC P = insC ((R.take j).foldl insC P) (mkC wa wb wz (g + 1))) := foldl_take _ _ _ _ _ hrow
          have HMk : Hid (mkC wa wb wz (g + 1) = if wa.getLast? = some 33 then ⟨bs wa.dropLast, smallM wb, smallM wz, false, ((g + 1 : Nat) : Int)⟩ else ⟨bs wa, smallM wb, smallM wz, true, ((g + 1 : Nat) : Int)⟩) := rfl
          rw [hg1] at HMk
          obtain ⟨sb, hsb'⟩ : ∃ x, smallM wb = x := ⟨_, rfl⟩
          obtain ⟨sc, hsc'⟩ : ∃ x, smallM wz = x := ⟨_, rfl⟩
          rw [hsb'] at HSb HMk
          rw [hsc'] at HSc HMk
          obtain ⟨A, hA⟩ : ∃ x, bs wa = x := ⟨_, rfl⟩
          obtain ⟨Bb, hBb⟩ : ∃ x, bs wb = x := ⟨_, rfl⟩
          obtain ⟨Bc, hBc⟩ : ∃ x, bs wz = x := ⟨_, rfl⟩
          rw [hA] at c0 HMk
          rw [hBb] at c1 HSb
          rw [hBc] at c2 HSc
          have HA : Hid (bs wa = A) := hA
          have HAne : Hid (0 < A.size ∧ A.size ≤ 100) := by
            show _ ∧ _
            rw [← hA, size_bs]
            exact ⟨List.length_pos_iff.2 hne, ha100⟩
          have hIn : (I : Int) < n2 := by omega
          have hIn1 : (I : Int) + 1 < n2 := by omega
          have ht2 : ((I : Int) + 2).toNat = I + 2 := by omega
          have hIp1 : (0 : Int) ≤ (I : Int) + 1 := by omega
          have hIp2 : (0 : Int) ≤ (I : Int) + 2 := by omega
          have hw1 : IntKind.i64.wrap ((I : Int) + 1) = (I : Int) + 1 := by rw [IntKind.wrap_i64]; omega
          have hw2 : IntKind.i64.wrap ((I : Int) + 2) = (I : Int) + 2 := by rw [IntKind.wrap_i64]; omega
          clear ha hb hc hrow hcell hsb hsc hsb' hsc' hA hBb hBc hne ha100
          have HNew : Hid (VarC (wr.alloc (.cells #[.string A, .int .i64 sb, .int .i64 sc, .bool true, .int .i64 ((g : Int) + 1)] 30)) wr.heap.size ⟨A, sb, sc, true, (g : Int) + 1⟩) := ⟨_, heap_alloc_new wr _⟩
          go_upto_region 9 with fail
          go_cut [5] from 14 to 84 (fun u wx => u = .pointer (some ⟨wr.heap.size, 0, none⟩) ∧ Hid (Below wr.heap.size wr wx) ∧ Hid (VarC wx wr.heap.size ⟨A, sb, sc, true, (g : Int) + 1⟩) ∧ Hid (wr.heap.size < wx.heap.size))
          case first =>
            go_region_held3 (fun w' => w'.cell? ⟨gl, I, none⟩ = some (.string A) ∧ w'.cell? ⟨gl, I + 1, none⟩ = some (.string Bb) ∧ w'.cell? ⟨gl, I + 2, none⟩ = some (.string Bc)) (go_keep) (first
              | (go_at_call 23; refine (HSb _).mono ?_; rintro e wq ⟨rfl, rfl⟩)
              | (go_at_call 23; refine (HSc _).mono ?_; rintro e wq ⟨rfl, rfl⟩))
            all_goals
              go_wp2_with fail
              go_meet
              exact ⟨rfl, (alloc_below wr _).drew, HNew.out, alloc_lt wr _ _⟩
          case rest =>
            obtain ⟨rfl, HBc, HVc, HSz⟩ := hcut
            obtain ⟨k, hk⟩ : ∃ k, A.size = k + 1 := ⟨A.size - 1, by have := HAne.out.1; omega⟩
            have hlt : k < A.size := by omega
            have HLast := last_at A k hlt hk
            have HAl : Hid (lst A = wa) := by show _ = _; rw [← HA.out, lst_bs]
            rw [HAl.out] at HLast
            have HEx : Hid (A.extract 0 k = bs wa.dropLast) := by
              show _ = _
              rw [extract_lst, HAl.out, List.drop_zero, Nat.sub_zero, List.dropLast_eq_take]
              congr 2
              rw [← HAl.out, len_lst]; omega
            obtain ⟨x, hx⟩ : ∃ c : Int, ((A[k]'hlt).toNat : Int) = c := ⟨_, rfl⟩
            have H33 : Hid (wa.getLast? = some 33 ↔ x = 33) := by
              show _ ↔ _
              rw [HLast, Option.some.injEq]
              exact byte_is hx 33
            have hxb := byte_in _ hx
            have ht3 : ((A.size : Int) - 1).toNat = k := by omega
            have hp3 : (0 : Int) ≤ (A.size : Int) - 1 := by omega
            have hp4 : (A.size : Int) - 1 < A.size := by omega
            have hA100 : A.size ≤ 100 := HAne.out.2
            have hw3 : IntKind.i64.wrap ((A.size : Int) - 1) = (A.size : Int) - 1 := by rw [IntKind.wrap_i64]; omega
            obtain ⟨q0, q1, q2, q3, q4⟩ := HVc.out.cells
            simp only at q0 q1 q2 q3 q4
            have qf := HVc.out.free
            have HPut := fun nm => HVc.out.put nm false
            have hk1 : Hid (A.size = k + 1) := hk
            clear HSb HSc HNew HLast hk
            go_upto_if 46 with fail
            go_cut [] from 14 to 84 (fun wx => ∃ nm wrt, Hid (mkC wa wb wz (g + 1) = ⟨nm, sb, sc, wrt, (g : Int) + 1⟩) ∧ Hid (VarC wx wr.heap.size ⟨nm, sb, sc, wrt, (g : Int) + 1⟩) ∧ Hid (Below wr.heap.size wr wx) ∧ Hid (wr.heap.size < wx.heap.size))
            case first =>
              by_cases h33 : x = 33
              · have HM : Hid (mkC wa wb wz (g + 1) = ⟨A.extract 0 k, sb, sc, false, (g : Int) + 1⟩) := by show _ = _; rw [HMk.out, if_pos (H33.out.2 h33), HEx.out]
                have HBp : Hid (∀ nm, Below wr.heap.size wr ((wc.setCell ⟨wr.heap.size, 0, none⟩ (.string nm)).setCell ⟨wr.heap.size, 3, none⟩ (.bool false))) := fun nm => (HBc.out.setCell (Nat.le_refl _) _).setCell (Nat.le_refl _) _
                have HSp : Hid (∀ nm, wr.heap.size < ((wc.setCell ⟨wr.heap.size, 0, none⟩ (.string nm)).setCell ⟨wr.heap.size, 3, none⟩ (.bool false)).heap.size) := fun nm => by have := HSz.out; simpa [World.setCell] using this
                go_wp2
                go_meet
                exact ⟨_, _, HM, HPut _, HBp.out _, HSp.out _⟩
              · have HM : Hid (mkC wa wb wz (g + 1) = ⟨A, sb, sc, true, (g : Int) + 1⟩) := by show _ = _; rw [HMk.out, if_neg (fun e => h33 (H33.out.1 e))]
                go_wp2
                go_meet
                exact ⟨_, _, HM, HVc, HBc, HSz⟩
            case rest =>
              obtain ⟨nm, wrt, HM, HV, HBd, HSd⟩ := hcut
              have HOd : Hid (OwnC wc B a n c ((R.take j).foldl insC P)) := OwnT.keep HO.out HBd.out
              rw [HM.out] at HStep
              obtain ⟨L, hL⟩ : ∃ L, (R.take j).foldl insC P = L := ⟨_, rfl⟩
              have HLL : Hid (L.length ≤ 1000) := by have := HOL.out j; rw [hL] at this; exact this
              rw [hL] at HOd HStep
              have HLn : Hid (L.length = n) := OwnC.len HOd.out
              have hn1000 : n ≤ 1000 := by rw [← HLn.out]; exact HLL.out
              obtain ⟨q0, q1, q2, q3, q4⟩ := HV.out.cells
              simp only at q0 q1 q2 q3 q4
              obtain ⟨gc, hgc⟩ : ∃ x, wr.heap.size = x := ⟨_, rfl⟩
              rw [hgc] at q0 q1 q2 q3 q4 HV HBd HSd
              have HGc : Hid (wr.heap.size = gc) := hgc
              simp only [hgc]
              clear hgc hL
              go_upto_region 13 with fail
              go_wp2
              go_loopg [6] n (fun gk kv wx => ∃ q : Nat, kv = .int .i64 gk ∧ wx = wc.drewN q ∧ Hid (gk ≤ n) ∧ Hid (posM L nm L.length = posM L nm gk))
              case atStart => exact ⟨0, rfl, rfl, Nat.le_refl _, by show _ = _; rw [HLn.out]⟩
              case round =>
                obtain ⟨q, rfl, rfl, HK, HP⟩ := hrel
                have HQz : Hid (∀ z, Below wc.heap.size wc ((wc.drewN q).drewN z)) := fun z => by rw [drewN_drewN]; exact below_drewN _ _
                go_upto_region 14 with fail
                go_cut [70] from 58 to 72 (fun u wx => ∃ (b : Bool) (z : Nat), u = .bool b ∧ wx = (wc.drewN q).drewN z ∧ Hid (b = true → ∃ p, gk = p + 1 ∧ posM L nm gk = posM L nm p) ∧ Hid (b = false → posM L nm gk = gk))
                case first =>
                  by_cases h0 : gk = 0
                  · subst h0
                    have hd : decide ((0 : Int) < ((0 : Nat) : Int)) = false := rfl
                    go_quiet (fail)
                    go_wp2
                    go_meet
                    exact ⟨false, _, rfl, rfl, fun e => absurd e (by decide), fun _ => rfl⟩
                  · obtain ⟨p, rfl⟩ : ∃ p, gk = p + 1 := ⟨gk - 1, by omega⟩
                    have hpL : p < L.length := by rw [HLn.out]; exact HK.out
                    have hpe : L[p]? = some (L[p]'hpL) := List.getElem?_eq_getElem hpL
                    obtain ⟨ga, rfl, e0, -⟩ := OwnC.cells (OwnT.keep HOd.out (below_drewN wc q)) hpe
                    have e0d : ∀ z, ((wc.drewN q).drewN z).cell? ⟨ga, p * 5, none⟩ = some (.string (L[p]'hpL).nm) := fun z => (OwnC.cells (OwnT.keep HOd.out (HQz.out z)) hpe).elim fun g' h => by
                      obtain ⟨h1, h2, -⟩ := h
                      cases h1
                      exact h2
                    have q0d : ∀ z, ((wc.drewN q).drewN z).cell? ⟨gc, 0, none⟩ = some (.string nm) := fun z => (HV.out.keep (HQz.out z) HV.out.lt).cells.1
                    have e0w : wc.cell? ⟨ga, p * 5, none⟩ = some (.string (L[p]'hpL).nm) := (OwnC.cells HOd.out hpe).elim fun g' h => by
                      obtain ⟨h1, h2, -⟩ := h
                      cases h1
                      exact h2
                    have q0w : wc.cell? ⟨gc, 0, none⟩ = some (.string nm) := HV.out.cells.1
                    have HGet : Hid (L.getD p Cm.z = L[p]'hpL) := by show _ = _; rw [List.getD_eq_getElem?_getD, hpe]; rfl
                    obtain ⟨onm, honm⟩ : ∃ x, (L[p]'hpL).nm = x := ⟨_, rfl⟩
                    rw [honm] at e0 e0d e0w
                    have HPs : Hid (posM L nm (p + 1) = if ltD nm onm = true then posM L nm p else p + 1) := by show posM L nm (p + 1) = _; rw [posM, HGet.out, honm]
                    have hlt0 := ltB_eq nm onm
                    have hpn : p < n := HK.out
                    have hpi : (p : Int) < n := by omega
                    have hp0 : (0 : Int) < (p : Int) + 1 := by omega
                    have hd : decide ((0 : Int) < (p : Int) + 1) = true := decide_eq_true (by omega)
                    have hw5 : IntKind.i64.wrap ((p : Int) + 1 - 1) = (p : Int) := by rw [IntKind.wrap_i64]; omega
                    have hw6 : IntKind.i64.wrap (p : Int) = (p : Int) := by rw [IntKind.wrap_i64]; omega
                    have hp00 : (0 : Int) ≤ (p : Int) := by omega
                    clear HGet honm
                    rw [ltB] at hlt0
                    cases hlt : ltD nm onm
                    · rw [hlt] at hlt0
                      have HPf : Hid (posM L nm (p + 1) = p + 1) := by show _ = _; rw [HPs.out, hlt]; rfl
                      cases hgt : Op.bytesLess onm.toList nm.toList
                      · have heq : (onm.toList == nm.toList) = true := by rw [less_eq _ _ hgt hlt0]; exact beq_self_eq_true _
                        clear hlt hlt0
                        go_quiet (fail)
                        go_wp2
                        go_meet
                        exact ⟨false, _, rfl, rfl, fun e => absurd e (by decide), fun _ => HPf.out⟩
                      · clear hlt hlt0
                        go_quiet (fail)
                        go_wp2
                        go_meet
                        exact ⟨false, _, rfl, rfl, fun e => absurd e (by decide), fun _ => HPf.out⟩
                    · rw [hlt] at hlt0
                      have HPt : Hid (posM L nm (p + 1) = posM L nm p) := by show _ = _; rw [HPs.out, hlt]; rfl
                      have hgt : Op.bytesLess onm.toList nm.toList = false := less_asym _ _ hlt0
                      have heq : (onm.toList == nm.toList) = false := by
                        cases h : (onm.toList == nm.toList)
                        · rfl
                        · rw [eq_of_beq h] at hlt0 hgt
                          rw [hlt0] at hgt
                          exact absurd hgt (by decide)
                      clear hlt hlt0
                      go_quiet (fail)
                      go_wp2
                      go_meet
                      exact ⟨true, _, rfl, rfl, fun _ => ⟨p, rfl, HPt.out⟩, fun e => absurd e (by decide)⟩
                case rest =>
                  obtain ⟨b, z, rfl, rfl, HT, HF⟩ := hcut
                  cases b
                  · have HPos : Hid (posM L nm L.length = gk) := by show _ = _; rw [HP.out, HF.out rfl]
                    clear HT HF
                    have HBq : Hid (Below wc.heap.size wc ((wc.drewN q).drewN z)) := HQz.out z
                    obtain ⟨wx, hwx⟩ : ∃ wx, (wc.drewN q).drewN z = wx := ⟨_, rfl⟩
                    rw [hwx] at HBq
                    simp only [hwx]
                    have HOx : Hid (OwnC wx B a n c L) := OwnT.keep HOd.out HBq
                    have HVx : Hid (VarC wx gc ⟨nm, sb, sc, wrt, (g : Int) + 1⟩) := HV.out.keep HBq HV.out.lt
                    have HBx : Hid (Below wr.heap.size wr wx) := by
                      have h1 := HBd.out
                      have h2 := HGc.out
                      rw [← h2] at h1
                      exact h1.trans (HBq.mono h1.size)
                    have HSx : Hid (B ≤ wx.heap.size) := Nat.le_trans HB0.out (Nat.le_trans HBr.out.size HBx.out.size)
                    obtain ⟨a1, c1x, hsl1, hsrc1⟩ := OwnT.slice_h HOx.out gk HK.out
                    obtain ⟨a2x, c2x, hsl2, hsrc2⟩ := OwnT.slice_l HOx.out gk HK.out
                    have HS1 : Hid (SrcT wx 5 a1 gk c1x ((ccells L).take (gk * 5))) := hsrc1
                    have HS2 : Hid (SrcT wx 5 a2x (n - gk) c2x ((ccells L).drop (gk * 5))) := hsrc2
                    obtain ⟨z0, z1, z2, z3, z4⟩ := HVx.out.cells
                    simp only at z0 z1 z2 z3 z4
                    have hgkn : gk ≤ n := HK.out
                    have hgk1 : gk ≤ 1000 := by omega
                    clear hsrc1 hsrc2 hwx HQz q0 q1 q2 q3 q4 HBq
                    have HTk : Hid (∀ u ∈ (ccells L).take (gk * 5), u.oneCell' = true) := fun u hu => ccells_one L u (List.mem_of_mem_take hu)
                    have HDr : Hid (∀ u ∈ (ccells L).drop (gk * 5), u.oneCell' = true) := fun u hu => ccells_one L u (List.mem_of_mem_drop hu)
                    have HCo : Hid (∀ u ∈ ([.string nm, .int .i64 sb, .int .i64 sc, .bool wrt, .int .i64 ((g : Int) + 1)] : List Value), u.oneCell' = true) := (by show ∀ u ∈ _, _; simp [Value.oneCell'])
                    have hb1 : (0 + gk) * 48 ≤ 140737488355328 := by omega
                    have hm1 : 0 + gk ≤ maxLen := by unfold maxLen; omega
                    have hb2 : ((0 + gk) + 1) * 48 ≤ 140737488355328 := by omega
                    have hm2 : (0 + gk) + 1 ≤ maxLen := by unfold maxLen; omega
                    have hb3 : ((0 + gk) + 1 + (n - gk)) * 48 ≤ 140737488355328 := by omega
                    have hm3 : (0 + gk) + 1 + (n - gk) ≤ maxLen := by unfold maxLen; omega
                    have bA : Below wx.heap.size wx ((wx.alloc (.cells #[] 30)).drew) := (alloc_below wx _).drew
                    have bB : Below wx.heap.size wx (((wx.alloc (.cells #[] 30)).alloc (.cells #[.string nm, .int .i64 sb, .int .i64 sc, .bool wrt, .int .i64 ((g : Int) + 1)] 30)).drew) := ((alloc_below wx _).trans ((alloc_below (wx.alloc (.cells #[] 30)) _).mono (alloc_below wx _).size)).drew
                    have bC : Below wx.heap.size wx (((wx.alloc (.cells #[.string nm, .int .i64 sb, .int .i64 sc, .bool wrt, .int .i64 ((g : Int) + 1)] 30)).alloc (.cells #[] 30)).drew) := ((alloc_below wx _).trans ((alloc_below (wx.alloc (.cells #[.string nm, .int .i64 sb, .int .i64 sc, .bool wrt, .int .i64 ((g : Int) + 1)] 30)) _).mono (alloc_below wx _).size)).drew
                    have HOA : Hid (OwnT ((wx.alloc (.cells #[] 30)).drew) wx.heap.size 5 (some ⟨wx.heap.size, 0, none⟩) 0 0 []) := OwnT.empty (t := 30) (heap_alloc_new wx _) (Nat.le_refl _)
                    have HOB : Hid (OwnT (((wx.alloc (.cells #[] 30)).alloc (.cells #[.string nm, .int .i64 sb, .int .i64 sc, .bool wrt, .int .i64 ((g : Int) + 1)] 30)).drew) wx.heap.size 5 (some ⟨wx.heap.size, 0, none⟩) 0 0 []) := (OwnT.empty (t := 30) (heap_alloc_new wx (.cells #[] 30)) (Nat.le_refl _)).keep (alloc_below (wx.alloc (.cells #[] 30)) (.cells #[.string nm, .int .i64 sb, .int .i64 sc, .bool wrt, .int .i64 ((g : Int) + 1)] 30)).drew
                    have HOC : Hid (OwnT (((wx.alloc (.cells #[.string nm, .int .i64 sb, .int .i64 sc, .bool wrt, .int .i64 ((g : Int) + 1)] 30)).alloc (.cells #[] 30)).drew) wx.heap.size 5 (some ⟨wx.heap.size + 1, 0, none⟩) 0 0 []) := OwnT.empty (t := 30) (by have h := heap_alloc_new (wx.alloc (.cells #[.string nm, .int .i64 sb, .int .i64 sc, .bool wrt, .int .i64 ((g : Int) + 1)] 30)) (.cells #[] 30); rw [show (wx.alloc (.cells #[.string nm, .int .i64 sb, .int .i64 sc, .bool wrt, .int .i64 ((g : Int) + 1)] 30)).heap.size = wx.heap.size + 1 by simp] at h; exact h) (Nat.le_succ _)
                    have HSA : Hid (SrcT ((wx.alloc (.cells #[] 30)).drew) 5 a1 gk c1x ((ccells L).take (gk * 5))) := HS1.out.keep bA
                    have HSB : Hid (SrcT (((wx.alloc (.cells #[] 30)).alloc (.cells #[.string nm, .int .i64 sb, .int .i64 sc, .bool wrt, .int .i64 ((g : Int) + 1)] 30)).drew) 5 a1 gk c1x ((ccells L).take (gk * 5))) := HS1.out.keep bB
                    have HSC : Hid (SrcT (((wx.alloc (.cells #[.string nm, .int .i64 sb, .int .i64 sc, .bool wrt, .int .i64 ((g : Int) + 1)] 30)).alloc (.cells #[] 30)).drew) 5 a1 gk c1x ((ccells L).take (gk * 5))) := HS1.out.keep bC
                    have HCB : Hid (SrcT (((wx.alloc (.cells #[] 30)).alloc (.cells #[.string nm, .int .i64 sb, .int .i64 sc, .bool wrt, .int .i64 ((g : Int) + 1)] 30)).drew) 5 (some ⟨wx.heap.size + 1, 0, none⟩) 1 1 [.string nm, .int .i64 sb, .int .i64 sc, .bool wrt, .int .i64 ((g : Int) + 1)]) := SrcT.one (t := 30) (cs := #[.string nm, .int .i64 sb, .int .i64 sc, .bool wrt, .int .i64 ((g : Int) + 1)]) (by have h := heap_alloc_new (wx.alloc (.cells #[] 30)) (.cells #[.string nm, .int .i64 sb, .int .i64 sc, .bool wrt, .int .i64 ((g : Int) + 1)] 30); rw [show (wx.alloc (.cells #[] 30)).heap.size = wx.heap.size + 1 by simp] at h; exact h) rfl
                    have HCC : Hid (SrcT (((wx.alloc (.cells #[.string nm, .int .i64 sb, .int .i64 sc, .bool wrt, .int .i64 ((g : Int) + 1)] 30)).alloc (.cells #[] 30)).drew) 5 (some ⟨wx.heap.size, 0, none⟩) 1 1 [.string nm, .int .i64 sb, .int .i64 sc, .bool wrt, .int .i64 ((g : Int) + 1)]) := (SrcT.one (t := 30) (cs := #[.string nm, .int .i64 sb, .int .i64 sc, .bool wrt, .int .i64 ((g : Int) + 1)]) (heap_alloc_new wx (.cells #[.string nm, .int .i64 sb, .int .i64 sc, .bool wrt, .int .i64 ((g : Int) + 1)] 30)) rfl).keep (alloc_below (wx.alloc (.cells #[.string nm, .int .i64 sb, .int .i64 sc, .bool wrt, .int .i64 ((g : Int) + 1)] 30)) (.cells #[] 30)).drew
                    have HLB : Hid (wx.heap.size + 1 < ((((wx.alloc (.cells #[] 30)).alloc (.cells #[.string nm, .int .i64 sb, .int .i64 sc, .bool wrt, .int .i64 ((g : Int) + 1)] 30)).drew)).heap.size) := by show _ < ((wx.alloc (.cells #[] 30)).alloc (.cells #[.string nm, .int .i64 sb, .int .i64 sc, .bool wrt, .int .i64 ((g : Int) + 1)] 30)).heap.size; simp
                    have HLC : Hid (wx.heap.size < ((((wx.alloc (.cells #[.string nm, .int .i64 sb, .int .i64 sc, .bool wrt, .int .i64 ((g : Int) + 1)] 30)).alloc (.cells #[] 30)).drew)).heap.size) := by show _ < ((wx.alloc (.cells #[.string nm, .int .i64 sb, .int .i64 sc, .bool wrt, .int .i64 ((g : Int) + 1)] 30)).alloc (.cells #[] 30)).heap.size; simp; omega
                    have HBA : Hid (Below wx.heap.size wx ((wx.alloc (.cells #[] 30)).drew)) := bA
                    have HBB : Hid (Below wx.heap.size wx (((wx.alloc (.cells #[] 30)).alloc (.cells #[.string nm, .int .i64 sb, .int .i64 sc, .bool wrt, .int .i64 ((g : Int) + 1)] 30)).drew)) := bB
                    have HBC : Hid (Below wx.heap.size wx (((wx.alloc (.cells #[.string nm, .int .i64 sb, .int .i64 sc, .bool wrt, .int .i64 ((g : Int) + 1)] 30)).alloc (.cells #[] 30)).drew)) := bC
                    have hgcx : gc < wx.heap.size := HVx.out.lt
                    clear bA bB bC
                    go_upto_region 16 with fail
                    go_region_law (first
                      | (refine step_append_t rfl (.tmp 80) (.tmp 83) rfl eltRC wx.heap.size (by first | rfl | (simp [Act.eval] <;> rfl)) HO9.out ((ccells L).drop (gk * 5)) (by first | rfl | (simp [Act.eval] <;> rfl)) (HS2.out.keep HB9.out) HDr.out hb3 hm3 HB9.out.size ?_; intro a10 n10 c10 w10 hn10 HO10 HG10; subst hn10; have HB10 : Hid (Below wx.heap.size wx w10) := HB9.out.trans (HO9.out.below HG10.out HB9.out.size))
                      | (refine step_append_t rfl (.tmp 77) (.tmp 79) rfl eltRC wx.heap.size (by first | rfl | (simp [Act.eval] <;> rfl)) HO8.out [.string nm, .int .i64 sb, .int .i64 sc, .bool wrt, .int .i64 ((g : Int) + 1)] (by first | rfl | (simp [Act.eval] <;> rfl)) HC8.out HCo.out hb2 hm2 HB8.out.size ?_; intro a9 n9 c9 w9 hn9 HO9 HG9; subst hn9; have HB9 : Hid (Below wx.heap.size wx w9) := HB8.out.trans (HO8.out.below HG9.out HB8.out.size))
                      | (refine step_append_t rfl (.tmp 77) (.tmp 79) rfl eltRC wx.heap.size (by first | rfl | (simp [Act.eval] <;> rfl)) (HO8.out.keep (alloc_below w8 (.cells #[.string nm, .int .i64 sb, .int .i64 sc, .bool wrt, .int .i64 ((g : Int) + 1)] 30))) [.string nm, .int .i64 sb, .int .i64 sc, .bool wrt, .int .i64 ((g : Int) + 1)] (by first | rfl | (simp [Act.eval] <;> rfl)) (SrcT.one (cs := #[.string nm, .int .i64 sb, .int .i64 sc, .bool wrt, .int .i64 ((g : Int) + 1)]) (heap_alloc_new w8 (.cells #[.string nm, .int .i64 sb, .int .i64 sc, .bool wrt, .int .i64 ((g : Int) + 1)] 30)) rfl) HCo.out hb2 hm2 (Nat.le_trans HB8.out.size (alloc_below w8 (.cells #[.string nm, .int .i64 sb, .int .i64 sc, .bool wrt, .int .i64 ((g : Int) + 1)] 30)).size) ?_; intro a9 n9 c9 w9 hn9 HO9 HG9; subst hn9; have HB9 : Hid (Below wx.heap.size wx w9) := (HB8.out.trans ((alloc_below w8 (.cells #[.string nm, .int .i64 sb, .int .i64 sc, .bool wrt, .int .i64 ((g : Int) + 1)] 30)).mono HB8.out.size)).trans ((HO8.out.keep (alloc_below w8 (.cells #[.string nm, .int .i64 sb, .int .i64 sc, .bool wrt, .int .i64 ((g : Int) + 1)] 30))).below HG9.out (Nat.le_trans HB8.out.size (alloc_below w8 (.cells #[.string nm, .int .i64 sb, .int .i64 sc, .bool wrt, .int .i64 ((g : Int) + 1)] 30)).size)))
                      | (refine step_append_t rfl (.tmp 73) (.tmp 76) rfl eltRC wx.heap.size (by first | rfl | (simp [Act.eval] <;> rfl)) HOA.out ((ccells L).take (gk * 5)) (by first | rfl | (simp [Act.eval] <;> rfl)) HSA.out HTk.out hb1 hm1 HBA.out.size ?_; intro a8 n8 c8 w8 hn8 HO8 HG8; subst hn8; have HB8 : Hid (Below wx.heap.size wx w8) := HBA.out.trans (HOA.out.below HG8.out HBA.out.size); obtain ⟨y0, y1, y2, y3, y4⟩ := (HVx.out.keep HB8.out HVx.out.lt).cells; simp only at y0 y1 y2 y3 y4)
                      | (refine step_append_t rfl (.tmp 73) (.tmp 76) rfl eltRC wx.heap.size (by first | rfl | (simp [Act.eval] <;> rfl)) HOB.out ((ccells L).take (gk * 5)) (by first | rfl | (simp [Act.eval] <;> rfl)) HSB.out HTk.out hb1 hm1 HBB.out.size ?_; intro a8 n8 c8 w8 hn8 HO8 HG8; subst hn8; have HC8 : Hid (SrcT w8 5 (some ⟨wx.heap.size + 1, 0, none⟩) 1 1 [.string nm, .int .i64 sb, .int .i64 sc, .bool wrt, .int .i64 ((g : Int) + 1)]) := HCB.out.kept (HG8.out.block _ HLB.out (by simp)); have HB8 : Hid (Below wx.heap.size wx w8) := HBB.out.trans (HOB.out.below HG8.out HBB.out.size); obtain ⟨y0, y1, y2, y3, y4⟩ := (HVx.out.keep HB8.out HVx.out.lt).cells; simp only at y0 y1 y2 y3 y4)
                      | (refine step_append_t rfl (.tmp 73) (.tmp 76) rfl eltRC wx.heap.size (by first | rfl | (simp [Act.eval] <;> rfl)) HOC.out ((ccells L).take (gk * 5)) (by first | rfl | (simp [Act.eval] <;> rfl)) HSC.out HTk.out hb1 hm1 HBC.out.size ?_; intro a8 n8 c8 w8 hn8 HO8 HG8; subst hn8; have HC8 : Hid (SrcT w8 5 (some ⟨wx.heap.size, 0, none⟩) 1 1 [.string nm, .int .i64 sb, .int .i64 sc, .bool wrt, .int .i64 ((g : Int) + 1)]) := HCC.out.kept (HG8.out.block _ HLC.out (by simp)); have HB8 : Hid (Below wx.heap.size wx w8) := HBC.out.trans (HOC.out.below HG8.out HBC.out.size); obtain ⟨y0, y1, y2, y3, y4⟩ := (HVx.out.keep HB8.out HVx.out.lt).cells; simp only at y0 y1 y2 y3 y4))
                    all_goals
                      have HOn : Hid (OwnC w10 B a10 (gk + 1 + (n - gk)) c10 ((R.take (j + 1)).foldl insC P)) := by
                        rw [HStep.out]
                        have h1 := HO10.out.low HSx.out
                        rw [List.nil_append, Nat.zero_add] at h1
                        show OwnT _ _ _ _ _ _ _
                        rw [insC, HPos.out, ccells_append, ccells_append, ccells_take, ccells_drop]
                        exact h1
                      have HBn : Hid (Below w2.heap.size w2 w10) := HBr.out.trans ((HBx.out.trans (HB10.out.mono HBx.out.size)).mono HBr.out.size)
                      have hI3 : Hid (I + 3 = 3 * (j + 1)) := by have := HI.out; show _ = _; omega
                      clear HO10 HB10 HG10 HO9 HG9 HB9 HO8 HG8 HB8 HOA HOB HOC HSA HSB HSC HCB HCC HLB HLC HBA HBB HBC HS1 HS2 HTk HDr HCo hb1 hb2 hb3 hm1 hm2 hm3 hsl1 hsl2 z0 z1 z2 z3 z4
                      go_wp2
                      go_roundg (gj - 1)
                      case measure => omega
                      case rel => exact ⟨j + 1, I + 3, a10, _, c10, by omega, by go_num, rfl, hI3, HOn, HBn⟩
                  · obtain ⟨p, rfl, hpp⟩ := HT.out rfl
                    have HP2 : Hid (posM L nm L.length = posM L nm p) := by show _ = _; rw [HP.out, hpp]
                    have hp1000 : p ≤ 1000 := by have := HK.out; omega
                    clear HT HF hpp
                    go_wp2
                    go_roundg p
                    case measure => omega
                    case rel => exact ⟨q + z, by go_num, by first | rfl | rw [drewN_drewN], by have := HK.out; show _ ≤ _; omega, HP2⟩
        · have hjR : R.length ≤ j := by have h1 := HI.out; have h2 := HRL.out; have h3 := HWN.out; omega
          have HEnd : Hid (OwnC wr B a n c (allTo (g + 1))) := by
            have h1 := HO.out
            rw [List.take_of_length_le hjR] at h1
            rw [HAll.out]
            exact h1
          have HBe : Hid (Below B w wr) := HBo.out.trans (HBr.out.mono HB0.out)
          go_wp2
          go_roundg (gi - 1)
          case measure => omega
          case rel => exact ⟨g + 1, a, n, c, by omega, by go_num, rfl, by rw [HBeq.out]; exact HEnd, by rw [HBeq.out]; exact HBe⟩
    · have hg6 : g = 6 := by omega
      subst hg6
      rw [all_refs] at HO
      have hn : n = 81 := by rw [← OwnC.len HO.out]; exact refs_len
      subst hn
      go_wp2
      go_ret
      exact ⟨HB.out, a, c, rfl, HO.out⟩
end Go.Proofs.YtlapiaoopmhogaaDoor
