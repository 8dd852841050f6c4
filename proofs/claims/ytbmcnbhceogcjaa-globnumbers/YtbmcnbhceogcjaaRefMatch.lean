/-
  The document's own Match: row by row, which beginnings of the text each thing of the pattern reaches.
-/
import Derived.Test.YtbmcnbhceogcjaaRefOne
import Derived.Deep.OwnRows
namespace Go.Proofs.Ytbmcnbhceogcjaa
open Go.RowKit Go.PlainAid

theorem Try.info4 : (Try.prog.info? 4).map (fun i => (i.zero, i.size, i.bytes)) = some (some (.bool false), 1, 1) := by kernel_rfl

abbrev isRow (wr : World) (A N : Nat) (f : Nat → Bool) : Prop := wr.rowIs A 4 (N + 1) (fun j => .bool (f j))
theorem keepRow {w w' : World} {A N : Nat} {f : Nat → Bool} (h : isRow w A N f) (hb : Below w.heap.size w w') : isRow w' A N f := h.of_block (hb.block A h.lt)

/-- The row that is left, and the one that is made. -/
structure Rows2 (w wr : World) (A B N : Nat) (f F : Nat → Bool) : Prop where
  below : Below w.heap.size w wr
  old : w.heap.size ≤ B
  ra : isRow wr A N f
  rb : isRow wr B N F
  ne : A ≠ B
theorem Rows2.keep {w wr wn : World} {A B N : Nat} {f F : Nat → Bool} (h : Rows2 w wr A B N f F) (hb : Below wr.heap.size wr wn) : Rows2 w wn A B N f F :=
  ⟨h.below.trans (hb.mono h.below.size), h.old, keepRow h.ra hb, keepRow h.rb hb, h.ne⟩
theorem Rows2.set {w wr : World} {A B N : Nat} {f F G : Nat → Bool} (h : Rows2 w wr A B N f F) (k : Nat) (b : Bool) (hG : ∀ j, j ≤ N → G j = if j = k then b else F j) : Rows2 w (wr.setCell ⟨B, k, none⟩ (.bool b)) A B N f G :=
  ⟨h.below.setCell h.old _, h.old, h.ra.setOther h.ne _, (h.rb.set k (.bool b)).congr fun j hj => by
    rw [hG j (by omega)]; split <;> rfl, h.ne⟩
theorem Rows2.congr {w wr : World} {A B N : Nat} {f F G : Nat → Bool} (h : Rows2 w wr A B N f F) (hG : ∀ j, j ≤ N → G j = F j) : Rows2 w wr A B N f G :=
  ⟨h.below, h.old, h.ra, h.rb.congr fun j hj => by rw [hG j (by omega)], h.ne⟩

def starTo (f : Nat → Bool) (k j : Nat) : Bool := if j < k then anyTo f (j + 1) else false
def oneTo (f g : Nat → Bool) (s : List UInt8) (k j : Nat) : Bool := if j ≤ k then nextRow f g s j else false

set_option maxRecDepth 100000 in
set_option maxHeartbeats 8000000 in
theorem refMatch_any (p s : ByteArray) (w : World) (hp : p.size ≤ maxLen) (hs : s.size ≤ 1000) :
    Calls Try.prog 10 #[.string p, .string s] w fun e w' => Below w.heap.size w w' ∧ e = .returned (.bool (mat (lst p) (lst s))) := by
  unfold maxLen at hp
  have HI : Hid (mat (lst p) (lst s) = true ↔ Reach (fun j => decide (j = 0)) (toks (lst p)) (lst s)) := (reach_init _ _).symm
  generalize mat (lst p) (lst s) = R at HI ⊢
  have hmk := run_make_row' (P := Try.prog) 35 4 (.bool false) 1 Try.underlying35 Try.info4 rfl .i64 .i64 (s.size + 1) (by omega) (by omega)
  rw [show (((s.size + 1 : Nat)) : Int) = (s.size : Int) + 1 by omega] at hmk
  obtain ⟨wf, hwf⟩ : ∃ wf, (w.alloc (.cells (madeCells #[.bool false] (s.size + 1)) 4)) = wf := ⟨_, rfl⟩
  have H0 : Hid (isRow wf w.heap.size s.size (fun _ => false)) := by show isRow _ _ _ _; rw [← hwf]; exact World.rowIs_made ..
  have HB0 : Hid (Below w.heap.size w wf) := by show Below _ _ _; rw [← hwf]; exact (Below.refl _ _).alloc (Nat.le_refl _) _
  have hc0 := H0.out.cell (i := 0) (by omega)
  have hf0 := H0.out.frozen 0
  go_enter Try.func10, Try.ntmps10
  go_wp2
  go_loopg [0, 5] p.size (fun g pv av wr => ∃ (q : ByteArray) (A : Nat) (f : Nat → Bool), pv = .string q ∧ av = .slice (some ⟨A, 0, none⟩) (s.size + 1) (s.size + 1) ∧ q.size ≤ 9223372036854775807 ∧ Hid (q.size ≤ g) ∧ Hid (w.heap.size ≤ A) ∧ Hid (isRow wr A s.size f) ∧ Hid (R = true ↔ Reach f (toks (lst q)) (lst s)) ∧ Hid (Below w.heap.size w wr))
  case atStart =>
    refine ⟨p, w.heap.size, fun j => decide (j = 0), rfl, rfl, hp, Nat.le_refl _, Nat.le_refl _, ?_, HI, HB0.out.setCell (Nat.le_refl _) _⟩
    exact (H0.out.set 0 (.bool true)).congr fun j hj => by by_cases e : j = 0 <;> simp [e]
  case round =>
    clear HI hc0 hf0 H0 HB0 hwf
    obtain ⟨q, A, f, rfl, rfl, hq, HG, HA, HR, HI, HB⟩ := hrel
    obtain ⟨wa, hwa⟩ : ∃ wa, wa = wr := ⟨_, rfl⟩
    subst hwa
    obtain ⟨ga, hga⟩ : ∃ ga, ga = gk := ⟨_, rfl⟩
    subst hga
    have HQ : Hid (q.size ≤ maxLen) := hq
    by_cases h0 : 0 < q.size
    · obtain ⟨wn, hwn⟩ : ∃ wn, (wa.alloc (.cells (madeCells #[.bool false] (s.size + 1)) 4)) = wn := ⟨_, rfl⟩
      have HN : Hid (Rows2 w wn A wa.heap.size s.size f (fun _ => false)) := by
        show Rows2 _ _ _ _ _ _ _
        rw [← hwn]
        exact ⟨HB.out.alloc HB.out.size _, HB.out.size, HR.out.alloc _, World.rowIs_made .., by have := HR.out.lt; omega⟩
      clear HB HR
      obtain ⟨B, hB⟩ : ∃ B, wa.heap.size = B := ⟨_, rfl⟩
      rw [hB] at HN
      have HL : Hid (lst q = q[0] :: (lst q).drop 1) := lst_cons q h0
      obtain ⟨c, hc⟩ : ∃ c : Int, ((q[0]'h0).toNat : Int) = c := ⟨_, rfl⟩
      have HC : Hid (((q[0]'h0).toNat : Int) = c) := hc
      have hcb := byte_le _ hc
      by_cases h42 : c = 42
      · have HS : Hid (R = true ↔ Reach (fun j => anyTo f (j + 1)) (toks (lst (q.extract 1 q.size))) (lst s)) := by
          have := HI.out
          rw [HL.out, toks_star _ _ (by have := HC.out; omega), reach_star] at this
          rw [extract_bs, lst_bs]; exact this
        have hqx := size_drop1 q
        have HQX : Hid ((q.extract 1 q.size).size + 1 = q.size) := by show _ = _; simp; omega
        subst h42
        clear HI
        clear HC HL
        go_wp2
        clear hB hwn hc hcb
        go_loopg [7, 8] (s.size + 1) (fun g ov iv wr => ∃ (k : Nat) (o : Bool), k + g = s.size + 1 ∧ iv = .int .i64 k ∧ ov = .bool o ∧ Hid (anyTo f k = o) ∧ Hid (Rows2 w wr A B s.size f (starTo f k)))
        case atStart => exact ⟨0, false, by omega, rfl, rfl, rfl, HN.out.congr fun j _ => by simp [starTo]⟩
        case round =>
          clear HN
          obtain ⟨k, o, hk, rfl, rfl, HO, HW⟩ := hrel
          by_cases hlt : k ≤ s.size
          · have hca := HW.out.ra.cell (i := k) (by omega)
            have hcb := HW.out.rb.cell (i := k) (by omega)
            have hfz := HW.out.rb.frozen k
            have HO2 : Hid (anyTo f (k + 1) = (o || f k)) := by show _ = _; rw [← HO.out]; rfl
            have HG2 : Hid (∀ j, j ≤ s.size → starTo f (k + 1) j = if j = k then anyTo f (k + 1) else starTo f k j) := by
              intro j _
              unfold starTo
              by_cases e : j = k
              · subst e; simp
              · by_cases e2 : j < k
                · simp [e, e2]; omega
                · simp [e, e2]; omega
            generalize starTo f k k = ok at hcb
            cases o with
            | true =>
              rw [Bool.true_or] at HO2
              rw [HO2.out] at HG2
              clear HO
              go_wp2
              go_roundg (gk - 1)
              case measure => omega
              case rel => exact ⟨k + 1, true, by omega, by go_num, rfl, HO2, HW.out.set k true HG2.out⟩
            | false =>
              rw [Bool.false_or] at HO2
              rw [HO2.out] at HG2
              clear HO
              generalize f k = fk at hca HO2 HG2
              go_wp2
              go_roundg (gk - 1)
              case measure => omega
              case rel => exact ⟨k + 1, fk, by omega, by go_num, rfl, HO2, HW.out.set k fk HG2.out⟩
          · have HW2 : Hid (Rows2 w wr A B s.size f (fun j => anyTo f (j + 1))) := HW.out.congr fun j hj => by
              unfold starTo; rw [if_pos (by omega)]
            clear HW HO
            go_wp2
            go_roundg (ga - 1)
            case measure => have := HG.out; omega
            case rel => exact ⟨_, B, _, rfl, rfl, by omega, by have := HG.out; have := HQX.out; show _ ≤ _; omega, HW2.out.old, HW2.out.rb, HS, HW2.out.below⟩
      · have HS : Hid (R = true ↔ Reach (nextRow f (fun b => (one b (lst q)).1) (lst s)) (toks (lst (bs (one 0 (lst q)).2))) (lst s)) := by
          have hx := toks_one (q[0]'h0) ((lst q).drop 1) (by have := HC.out; omega)
          rw [← HL.out] at hx
          have := HI.out
          rw [hx, reach_one] at this
          rw [lst_bs]; exact this
        have HQX : Hid ((bs (one 0 (lst q)).2).size + 1 ≤ q.size) := by
          show _ ≤ _
          rw [size_bs]
          have h1 := one_len 0 (q[0]'h0) ((lst q).drop 1)
          rw [← HL.out, List.length_drop, len_lst] at h1
          omega
        have HO := fun (b : Nat) w => refOne_any q b w h0 HQ.out
        have HO0 := HO 0
        unfold rclsR at HO HO0
        have hq42 : (c == 42) = false := by simpa using h42
        clear HI h42 HL HC
        generalize bs (one 0 (lst q)).2 = nb at HO0 HS HQX
        generalize (one 0 (lst q)).1 = ok0 at HO0
        have hnb : nb.size ≤ 9223372036854775807 := by have := HQX.out; omega
        go_wp2_with fail
        refine (HO0 _).mono ?_
        rintro e w1 ⟨hb1, rfl⟩
        have HN1 : Hid (Rows2 w w1 A B s.size f (fun _ => false)) := HN.out.keep hb1
        clear hB hwn HN hb1 HO0 hc hcb hq42 hmk
        go_wp2_with fail
        go_loopg [11] s.size (fun g iv wr => ∃ k : Nat, k + g = s.size ∧ iv = .int .i64 k ∧ Hid (Rows2 w wr A B s.size f (oneTo f (fun b => (one b (lst q)).1) (lst s) k)))
        case atStart =>
          refine ⟨0, by omega, rfl, HN1.out.congr fun j _ => ?_⟩
          unfold oneTo
          cases j with
          | zero => rfl
          | succ j => rw [if_neg (by omega)]
        case round =>
          clear HN1
          obtain ⟨k, hk, rfl, HW⟩ := hrel
          by_cases hlt : k < s.size
          · have hca := HW.out.ra.cell (i := k) (by omega)
            have hcb := HW.out.rb.cell (i := k + 1) (by omega)
            have hfz := HW.out.rb.frozen (k + 1)
            have HBA : Hid (byteAt (lst s) k = (s[k]'hlt).toNat) := by
              show _ = _
              unfold byteAt
              rw [List.getD_eq_getElem?_getD, List.getElem?_eq_getElem (by rw [len_lst]; exact hlt)]
              rfl
            have HG2 : Hid (∀ j, j ≤ s.size → oneTo f (fun b => (one b (lst q)).1) (lst s) (k + 1) j = if j = k + 1 then (f k && (one (s[k]'hlt).toNat (lst q)).1) else oneTo f (fun b => (one b (lst q)).1) (lst s) k j) := by
              intro j _
              unfold oneTo
              by_cases e : j = k + 1
              · subst e
                simp only [Nat.le_refl, if_true, nextRow]
                rw [HBA.out]
              · by_cases e2 : j ≤ k
                · rw [if_pos (by omega), if_neg e, if_pos e2]
                · rw [if_neg (by omega), if_neg e, if_neg e2]
            have HU : Hid (oneTo f (fun b => (one b (lst q)).1) (lst s) k (k + 1) = false) := by
              show _ = _
              unfold oneTo; rw [if_neg (by omega)]
            rw [HU.out] at hcb
            clear HBA
            obtain ⟨d, hd⟩ : ∃ d : Nat, (s[k]'hlt).toNat = d := ⟨_, rfl⟩
            have hd' : (((s[k]'hlt).toNat : Nat) : Int) = (d : Int) := by rw [hd]
            have hdb := byte_le _ hd'
            rw [hd] at HG2
            have HOd := HO d
            generalize (one d (lst q)).1 = okd at HOd HG2
            generalize bs (one d (lst q)).2 = nd at HOd
            clear hd
            cases hfk : f k with
            | false =>
              rw [hfk] at hca
              have HG3 : Hid (∀ j, j ≤ s.size → oneTo f (fun b => (one b (lst q)).1) (lst s) (k + 1) j = oneTo f (fun b => (one b (lst q)).1) (lst s) k j) := by
                intro j hj
                rw [HG2.out j hj, hfk, Bool.false_and]
                split
                · rename_i e; rw [e, HU.out]
                · rfl
              clear HG2 hfk HU HO HOd
              go_wp2
              go_roundg (gk - 1)
              case measure => omega
              case rel => exact ⟨k + 1, by omega, by go_num, HW.out.congr HG3.out⟩
            | true =>
              rw [hfk] at hca HG2
              rw [Bool.true_and] at HG2
              clear hfk HU HO
              go_wp2_with fail
              refine (HOd _).mono ?_
              rintro e w2 ⟨hb2, rfl⟩
              have HW2 : Hid (Rows2 w w2 A B s.size f (oneTo f (fun b => (one b (lst q)).1) (lst s) k)) := HW.out.keep hb2
              have hcb := HW2.out.rb.cell (i := k + 1) (by omega)
              have hfz := HW2.out.rb.frozen (k + 1)
              clear HW hb2 HOd
              go_wp2
              go_roundg (gk - 1)
              case measure => omega
              case rel => exact ⟨k + 1, by omega, by go_num, HW2.out.set (k + 1) okd HG2.out⟩
          · have HW2 : Hid (Rows2 w wr A B s.size f (nextRow f (fun b => (one b (lst q)).1) (lst s))) := HW.out.congr fun j hj => by
              unfold oneTo; rw [if_pos (by omega)]
            clear HW HO
            go_wp2
            go_roundg (ga - 1)
            case measure => have := HG.out; omega
            case rel => exact ⟨nb, B, _, rfl, rfl, hnb, by have := HG.out; have := HQX.out; show _ ≤ _; omega, HW2.out.old, HW2.out.rb, HS, HW2.out.below⟩
    · have HF : Hid (R = f s.size) := by
        have := HI.out
        rw [lst_nil h0, toks_nil, reach_end, len_lst] at this
        exact Bool.eq_iff_iff.2 this
      have hcell := HR.out.cell (i := s.size) (by omega)
      go_wp2
      go_ret
      exact ⟨HB.out, by rw [HF.out]; rfl⟩
end Go.Proofs.Ytbmcnbhceogcjaa
