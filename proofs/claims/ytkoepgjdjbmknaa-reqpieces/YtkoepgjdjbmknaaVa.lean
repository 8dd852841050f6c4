/-
  The document's own words, first part: blank, what stands in quotes.
-/
import Derived.Test.YtkoepgjdjbmknaaRw
namespace Go.Proofs.Ytkoepgjdjbmknaa
open Go.RowKit Go.PlainAid

theorem refBlank_any (c : Int) (v : Bool) (hv : blkI c = v) (w : World) :
    Calls Try.prog 32 #[.int .u8 c] w fun e w' => e = .returned (.bool v) ∧ w' = w := by
  subst hv
  by_cases h1 : c = 32
  · subst h1
    go_enter Try.func32, Try.ntmps32
    go_wp2
    go_ret
    exact ⟨rfl, rfl⟩
  by_cases h2 : c = 9
  · subst h2
    go_enter Try.func32, Try.ntmps32
    go_wp2
    go_ret
    exact ⟨rfl, rfl⟩
  by_cases h3 : c = 0
  · subst h3
    go_enter Try.func32, Try.ntmps32
    go_wp2
    go_ret
    exact ⟨rfl, rfl⟩
  have hv : Hid (blkI c = false) := by show blkI c = false; unfold blkI; simp [h1, h2, h3]
  have e1 : (c == 32) = false := by simpa using h1
  have e2 : (c == 9) = false := by simpa using h2
  have e3 : (c == 0) = false := by simpa using h3
  clear h1 h2 h3
  rw [hv.out]
  go_enter Try.func32, Try.ntmps32
  go_wp2
  go_ret
  exact ⟨rfl, rfl⟩

/-- What quoted answers. -/
def QuotR (o : Option (List UInt8 × List UInt8)) (e : Ending) : Prop :=
  match o with
  | some (x, s) => e = .returned (.tuple #[.string (bs x), .string (bs s), .bool true])
  | none => e = .returned (.tuple #[.string ⟨#[]⟩, .string ⟨#[]⟩, .bool false])

theorem lst_tail (t : ByteArray) (k : Nat) : lst (t.extract k t.size) = (lst t).drop k := by rw [extract_bs, lst_bs]

set_option maxHeartbeats 4000000 in
set_option maxRecDepth 100000 in
theorem refQuoted_any (s : ByteArray) (q : UInt8) (qi : Int) (w : World) (hs : s.size ≤ 1000000) (hqi : (q.toNat : Int) = qi) (hq : q = 34 ∨ q = 39) :
    Calls Try.prog 33 #[.string s, .int .u8 qi] w fun e w' => Below w.heap.size w w' ∧ QuotR (quo q [] (lst s)) e := by
  obtain ⟨R, hR⟩ : ∃ R, quo q [] (lst s) = R := ⟨_, rfl⟩
  rw [hR]
  have HR : Hid (quo q [] (lst s) = R) := hR
  have HQI : Hid ((q.toNat : Int) = qi) := hqi
  have HQ : Hid (q = 34 ∨ q = 39) := hq
  have hqb := byte_in _ hqi
  have HO : Hid (Own (w.alloc (.cells #[] 5)) w.heap.size (some ⟨w.heap.size, 0, none⟩) 0 0 []) := Own.made w [] w.heap.size 0 rfl (Nat.le_refl _) (by decide)
  have HB0 : Hid (Below w.heap.size w (w.alloc (.cells #[] 5))) := alloc_below _ _
  clear hR hqi hq
  go_enter Try.func33, Try.ntmps33
  go_wp2
  go_loopg [0, 7] s.size (fun g sv pv wr => ∃ (t : ByteArray) (a : Option Addr) (n c : Nat) (acc : List UInt8), t.size = g ∧ sv = .string t ∧ pv = .slice a n c ∧ Hid (Own wr w.heap.size a n c acc) ∧ Hid (acc.length + t.size ≤ 1000000) ∧ Hid (Below w.heap.size w wr) ∧ Hid (quo q acc (lst t) = R))
  case atStart => exact ⟨s, _, _, _, [], rfl, rfl, rfl, HO, by show _ ≤ _; simpa using hs, HB0, HR⟩
  case round =>
    obtain ⟨t, a, n, c, acc, hg, rfl, rfl, HO1, HA, HB, H⟩ := hrel
    subst hg
    clear HO HB0
    by_cases h0 : 0 < t.size
    · obtain ⟨x, hx⟩ : ∃ c : Int, ((t[0]'h0).toNat : Int) = c := ⟨_, rfl⟩
      obtain ⟨b, hb⟩ : ∃ b, t[0]'h0 = b := ⟨_, rfl⟩
      have HX : Hid ((b.toNat : Int) = x) := by show _ = _; rw [← hb]; exact hx
      have HD : Hid (lst t = b :: (lst t).drop 1) := by show _ = _; rw [← hb]; exact lst_cons t h0
      have hxb := byte_in _ hx
      clear hb
      by_cases hxq : x = qi
      · have HN : Hid (R = some (acc, (lst t).tail)) := by
          have : b = q := UInt8.toNat_inj.1 (by have := HX.out; have := HQI.out; omega)
          show _ = _
          rw [← H.out, HD.out, this, quo_hit]
          rfl
        have hE : t.extract 1 t.size = bs (lst t).tail := by rw [extract_bs t 1, List.drop_one]
        have hT := fun j => (HO1.out.keep (below_drewN wr j)).rd.text
        subst hxq
        go_wp2
        go_quiet (fail)
        go_wp2
        go_ret3
        refine ⟨HB.out.trans ((below_drewN _ _).mono HB.out.size), ?_⟩
        rw [HN.out]
        rfl
      · have hxf : (x == qi) = false := by simpa using hxq
        have HNQ : Hid (¬ b = q) := by
          intro e
          have h1 := HX.out
          have h2 := HQI.out
          rw [e] at h1
          omega
        have HM : Hid (n + 1 ≤ 140737488355328) := by
          have := HO1.out.len
          have := HA.out
          show _ ≤ _
          omega
        have hsz := HB.out.size
        have HT1 : Hid (lst (t.extract 1 t.size) = (lst t).drop 1) := lst_tail t 1
        clear hxq
        by_cases h92 : x = 92
        · by_cases h1 : 1 < t.size
          · obtain ⟨y, hy⟩ : ∃ c : Int, ((t[1]'h1).toNat : Int) = c := ⟨_, rfl⟩
            obtain ⟨d, hd⟩ : ∃ b, t[1]'h1 = b := ⟨_, rfl⟩
            have HY : Hid ((d.toNat : Int) = y) := by show _ = _; rw [← hd]; exact hy
            have HD2 : Hid ((lst t).drop 1 = d :: (lst t).drop 2) := by show _ = _; rw [← hd]; exact drop_at t 1 h1
            have hyb := byte_in _ hy
            have ht2 : ¬ (t.size : Int) < 2 := by omega
            have HT2 : Hid (lst (t.extract 2 t.size) = (lst t).drop 2) := lst_tail t 2
            clear hd
            by_cases hp : q = 34 ∨ d = q
            · have HN : Hid (quo q (acc ++ [mnt d]) ((lst t).drop 2) = R) := by
                show _ = _
                rw [← H.out, HD.out, HD2.out, quo_esc acc _ HNQ.out (by rw [byte_is HX.out 92]; exact h92) hp]
                rfl
              subst h92
              rcases HQ.out with hq34 | hq39
              · have hqi : qi = 34 := by rw [← HQI.out, hq34]; rfl
                have HZ1 := mnt_int HY.out
                subst hqi
                by_cases k1 : y = 110
                · have HZ : Hid (((mnt d).toNat : Int) = 10) := by show _ = _; rw [HZ1, k1]; rfl
                  subst k1
                  clear HZ1
                  go_wp2_with (at_builtin; refine append_row rfl (.tmp 56) (.tmp 58) rfl w.heap.size rfl (HO1.out.keep (alloc_below wr _)) rfl (Rd.one wr _ _ HZ.out) HM.out (Nat.le_trans hsz (alloc_below wr _).size) ?_; intro a2 n2 c2 w2 hn2 hO2 hB2; have HO2 : Hid (Own w2 w.heap.size a2 n2 c2 (acc ++ [mnt d])) := hO2; have HB2 : Hid (Below w.heap.size w w2) := (HB.out.trans ((alloc_below wr _).mono hsz)).trans hB2; clear hn2 hO2 hB2)
                  go_roundg (t.size - 2)
                  case measure => omega
                  case rel => exact ⟨t.extract 2 t.size, _, _, _, acc ++ [mnt d], by simp, rfl, rfl, HO2, by have := HA.out; show _ ≤ _; simp; omega, HB2, by show _ = _; rw [HT2.out]; exact HN.out⟩
                by_cases k2 : y = 114
                · have HZ : Hid (((mnt d).toNat : Int) = 13) := by show _ = _; rw [HZ1, k2]; rfl
                  subst k2
                  clear HZ1
                  go_wp2_with (at_builtin; refine append_row rfl (.tmp 56) (.tmp 58) rfl w.heap.size rfl (HO1.out.keep (alloc_below wr _)) rfl (Rd.one wr _ _ HZ.out) HM.out (Nat.le_trans hsz (alloc_below wr _).size) ?_; intro a2 n2 c2 w2 hn2 hO2 hB2; have HO2 : Hid (Own w2 w.heap.size a2 n2 c2 (acc ++ [mnt d])) := hO2; have HB2 : Hid (Below w.heap.size w w2) := (HB.out.trans ((alloc_below wr _).mono hsz)).trans hB2; clear hn2 hO2 hB2)
                  go_roundg (t.size - 2)
                  case measure => omega
                  case rel => exact ⟨t.extract 2 t.size, _, _, _, acc ++ [mnt d], by simp, rfl, rfl, HO2, by have := HA.out; show _ ≤ _; simp; omega, HB2, by show _ = _; rw [HT2.out]; exact HN.out⟩
                by_cases k3 : y = 116
                · have HZ : Hid (((mnt d).toNat : Int) = 9) := by show _ = _; rw [HZ1, k3]; rfl
                  subst k3
                  clear HZ1
                  go_wp2_with (at_builtin; refine append_row rfl (.tmp 56) (.tmp 58) rfl w.heap.size rfl (HO1.out.keep (alloc_below wr _)) rfl (Rd.one wr _ _ HZ.out) HM.out (Nat.le_trans hsz (alloc_below wr _).size) ?_; intro a2 n2 c2 w2 hn2 hO2 hB2; have HO2 : Hid (Own w2 w.heap.size a2 n2 c2 (acc ++ [mnt d])) := hO2; have HB2 : Hid (Below w.heap.size w w2) := (HB.out.trans ((alloc_below wr _).mono hsz)).trans hB2; clear hn2 hO2 hB2)
                  go_roundg (t.size - 2)
                  case measure => omega
                  case rel => exact ⟨t.extract 2 t.size, _, _, _, acc ++ [mnt d], by simp, rfl, rfl, HO2, by have := HA.out; show _ ≤ _; simp; omega, HB2, by show _ = _; rw [HT2.out]; exact HN.out⟩
                have HZ : Hid (((mnt d).toNat : Int) = y) := by show _ = _; rw [HZ1, mntI, if_neg k1, if_neg k2, if_neg k3]
                have e1 : (y == 110) = false := by simpa using k1
                have e2 : (y == 114) = false := by simpa using k2
                have e3 : (y == 116) = false := by simpa using k3
                clear HZ1 k1 k2 k3
                go_wp2_with (at_builtin; refine append_row rfl (.tmp 56) (.tmp 58) rfl w.heap.size rfl (HO1.out.keep (alloc_below wr _)) rfl (Rd.one wr _ _ HZ.out) HM.out (Nat.le_trans hsz (alloc_below wr _).size) ?_; intro a2 n2 c2 w2 hn2 hO2 hB2; have HO2 : Hid (Own w2 w.heap.size a2 n2 c2 (acc ++ [mnt d])) := hO2; have HB2 : Hid (Below w.heap.size w w2) := (HB.out.trans ((alloc_below wr _).mono hsz)).trans hB2; clear hn2 hO2 hB2)
                go_roundg (t.size - 2)
                case measure => omega
                case rel => exact ⟨t.extract 2 t.size, _, _, _, acc ++ [mnt d], by simp, rfl, rfl, HO2, by have := HA.out; show _ ≤ _; simp; omega, HB2, by show _ = _; rw [HT2.out]; exact HN.out⟩
              · have hqi : qi = 39 := by rw [← HQI.out, hq39]; rfl
                have hd39 : d = 39 := by
                  rcases hp with h | h
                  · rw [hq39] at h; cases h
                  · rw [h, hq39]
                have hy39 : y = 39 := by rw [← HY.out, hd39]; rfl
                have HZ : Hid (((mnt d).toNat : Int) = 39) := by show _ = _; rw [hd39]; rfl
                clear hp hd39 hq39
                subst hqi
                subst hy39
                go_wp2_with (at_builtin; refine append_row rfl (.tmp 56) (.tmp 58) rfl w.heap.size rfl (HO1.out.keep (alloc_below wr _)) rfl (Rd.one wr _ _ HZ.out) HM.out (Nat.le_trans hsz (alloc_below wr _).size) ?_; intro a2 n2 c2 w2 hn2 hO2 hB2; have HO2 : Hid (Own w2 w.heap.size a2 n2 c2 (acc ++ [mnt d])) := hO2; have HB2 : Hid (Below w.heap.size w w2) := (HB.out.trans ((alloc_below wr _).mono hsz)).trans hB2; clear hn2 hO2 hB2)
                go_roundg (t.size - 2)
                case measure => omega
                case rel => exact ⟨t.extract 2 t.size, _, _, _, acc ++ [mnt d], by simp, rfl, rfl, HO2, by have := HA.out; show _ ≤ _; simp; omega, HB2, by show _ = _; rw [HT2.out]; exact HN.out⟩
            · have hqi : qi = 39 := by
                rcases HQ.out with h | h
                · exact absurd (.inl h) hp
                · rw [← HQI.out, h]; rfl
              have HN : Hid (quo q (acc ++ [b]) ((lst t).drop 1) = R) := by
                show _ = _
                rw [← H.out, HD.out, quo_push acc _ HNQ.out]
                · rfl
                · intro d' r' hr
                  rw [HD2.out] at hr
                  cases hr
                  exact fun h => hp h.2
              have hy39 : (y != 39) = true := by
                simp only [bne_iff_ne, ne_eq]
                intro e
                have := HQI.out
                have h2 := HY.out
                exact hp (.inr (UInt8.toNat_inj.1 (by omega)))
              clear hp
              subst hqi
              subst h92
              go_wp2_with (at_builtin; refine append_row rfl (.tmp 39) (.tmp 41) rfl w.heap.size rfl (HO1.out.keep (alloc_below wr _)) rfl (Rd.one wr _ _ HX.out) HM.out (Nat.le_trans hsz (alloc_below wr _).size) ?_; intro a2 n2 c2 w2 hn2 hO2 hB2; have HO2 : Hid (Own w2 w.heap.size a2 n2 c2 (acc ++ [b])) := hO2; have HB2 : Hid (Below w.heap.size w w2) := (HB.out.trans ((alloc_below wr _).mono hsz)).trans hB2; clear hn2 hO2 hB2)
              go_roundg (t.size - 1)
              case measure => omega
              case rel => exact ⟨t.extract 1 t.size, _, _, _, acc ++ [b], by simp, rfl, rfl, HO2, by have := HA.out; show _ ≤ _; simp; omega, HB2, by show _ = _; rw [HT1.out]; exact HN.out⟩
          · have HN : Hid (quo q (acc ++ [b]) ((lst t).drop 1) = R) := by
              show _ = _
              rw [← H.out, HD.out, quo_push acc _ HNQ.out]
              · rfl
              · intro d' r' hr
                rw [List.drop_eq_nil_of_le (by rw [len_lst]; omega)] at hr
                cases hr
            have ht2 : (t.size : Int) < 2 := by omega
            subst h92
            go_wp2_with (at_builtin; refine append_row rfl (.tmp 39) (.tmp 41) rfl w.heap.size rfl (HO1.out.keep (alloc_below wr _)) rfl (Rd.one wr _ _ HX.out) HM.out (Nat.le_trans hsz (alloc_below wr _).size) ?_; intro a2 n2 c2 w2 hn2 hO2 hB2; have HO2 : Hid (Own w2 w.heap.size a2 n2 c2 (acc ++ [b])) := hO2; have HB2 : Hid (Below w.heap.size w w2) := (HB.out.trans ((alloc_below wr _).mono hsz)).trans hB2; clear hn2 hO2 hB2)
            go_roundg (t.size - 1)
            case measure => omega
            case rel => exact ⟨t.extract 1 t.size, _, _, _, acc ++ [b], by simp, rfl, rfl, HO2, by have := HA.out; show _ ≤ _; simp; omega, HB2, by show _ = _; rw [HT1.out]; exact HN.out⟩
        · have HN : Hid (quo q (acc ++ [b]) ((lst t).drop 1) = R) := by
            show _ = _
            rw [← H.out, HD.out, quo_push acc _ HNQ.out]
            · rfl
            · rintro d' r' - ⟨h, -⟩
              rw [byte_is HX.out 92] at h
              exact h92 h
          have h92f : (x != 92) = true := by simpa using h92
          clear h92
          go_wp2_with (at_builtin; refine append_row rfl (.tmp 39) (.tmp 41) rfl w.heap.size rfl (HO1.out.keep (alloc_below wr _)) rfl (Rd.one wr _ _ HX.out) HM.out (Nat.le_trans hsz (alloc_below wr _).size) ?_; intro a2 n2 c2 w2 hn2 hO2 hB2; have HO2 : Hid (Own w2 w.heap.size a2 n2 c2 (acc ++ [b])) := hO2; have HB2 : Hid (Below w.heap.size w w2) := (HB.out.trans ((alloc_below wr _).mono hsz)).trans hB2; clear hn2 hO2 hB2)
          go_roundg (t.size - 1)
          case measure => omega
          case rel => exact ⟨t.extract 1 t.size, _, _, _, acc ++ [b], by simp, rfl, rfl, HO2, by have := HA.out; show _ ≤ _; simp; omega, HB2, by show _ = _; rw [HT1.out]; exact HN.out⟩
    · have HN : Hid (R = none) := by
        show _ = _
        rw [← H.out, lst_nil h0, quo_end]
      go_wp2
      go_ret3
      refine ⟨HB.out, ?_⟩
      rw [HN.out]
      rfl
end Go.Proofs.Ytkoepgjdjbmknaa
