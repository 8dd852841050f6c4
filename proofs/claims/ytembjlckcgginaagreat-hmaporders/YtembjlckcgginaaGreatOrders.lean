/-
  HmapOrders.
-/
import Derived.Test.YtembjlckcgginaaGreatG16
import Derived.BigQuiet
namespace Go.Proofs.YtembjlckcgginaaGreat
open Go.RowKit Go.PlainAid
open Dk (En Stay hasK putE delE getE keysOf Dct Dg dtag ecells Turn)

/-- A slice that reads numbers. -/
def RdZ (w : World) (a : Option Addr) (n : Nat) (z : Nat → Int) : Prop := n ≤ maxLen ∧ ∀ j, j < n → ∃ b off, a = some ⟨b, off, none⟩ ∧ w.cell? ⟨b, off + j, none⟩ = some (.int .i64 (z j))
theorem RdZ.keep {w wn : World} {a : Option Addr} {n : Nat} {z : Nat → Int} (h : RdZ w a n z) (hb : Below w.heap.size w wn) : RdZ wn a n z :=
  ⟨h.1, fun j hj => by
    obtain ⟨b, off, e, hc⟩ := h.2 j hj
    exact ⟨b, off, e, by rw [hb.cell (p := ⟨b, off + j, none⟩) (World.block_lt_of_cell? _ _ hc)]; exact hc⟩⟩

/-- A hash that was set these fields, each with itself. -/
structure St (ks : List ByteArray) (h : Hs) : Prop where
  val : ∀ e ∈ h.es, e.2 = e.1
  key : ∀ k, k ∈ keysOf h.es ↔ k ∈ ks
  pk : h.pk = decide (h.es.length ≤ h.E)
  T : h.T = 10
  le : h.es.length ≤ ks.length
theorem mem_put {es : List En} {k v : ByteArray} {e : En} (h : e ∈ putE es k v) : e = (k, v) ∨ e ∈ es := by
  unfold putE at h
  split at h
  · obtain ⟨f, hf, rfl⟩ := List.mem_map.1 h
    split
    · exact .inl rfl
    · exact .inr hf
  · rcases List.mem_append.1 h with h1 | h1
    · exact .inr h1
    · exact .inl (List.mem_singleton.1 h1)
theorem keys_put (es : List En) (k v : ByteArray) (q : ByteArray) : q ∈ keysOf (putE es k v) ↔ q ∈ keysOf es ∨ q = k := by
  unfold putE
  split
  · rename_i h
    have hk := Dk.hasK_iff.1 h
    have e1 : keysOf (es.map fun e => if e.1 = k then (k, v) else e) = keysOf es := by
      unfold keysOf
      rw [List.map_map]
      refine List.map_congr_left fun e _ => ?_
      show (if e.1 = k then (k, v) else e).1 = e.1
      split
      · rename_i h1; exact h1.symm
      · rfl
    rw [e1]
    exact ⟨.inl, fun h => h.elim id (fun e => e ▸ hk)⟩
  · rw [Dk.keysOf_append, List.mem_append]
    simp [keysOf]
theorem St.put {ks : List ByteArray} {h : Hs} (s : St ks h) {k : ByteArray} (hk : k.size ≤ 10) : St (ks ++ [k]) (h.put k k) := by
  refine ⟨?_, ?_, ?_, s.T, ?_⟩
  · intro e he
    rcases mem_put he with rfl | he
    · rfl
    · exact s.val e he
  · intro q
    rw [List.mem_append, List.mem_singleton, ← s.key]
    exact keys_put h.es k k q
  · show pkE h.es h.pk h.E h.T k k = decide ((putE h.es k k).length ≤ h.E)
    unfold pkE
    rw [s.pk, s.T]
    have := hasK_len h.es k k
    by_cases h1 : (putE h.es k k).length ≤ h.E
    · have h2 : h.es.length ≤ h.E := by omega
      simp [h1, h2, hk]
    · simp [h1]
  · have := Dk.putE_len h.es k k
    have := s.le
    show (putE h.es k k).length ≤ _
    rw [List.length_append, List.length_singleton]
    omega
theorem St.perm {ks ls : List ByteArray} {a b : Hs} (s : St ks a) (t : St ls b) (hn : (keysOf a.es).Nodup) (hm : (keysOf b.es).Nodup) (h : ∀ k, k ∈ ks ↔ k ∈ ls) : a.es.Perm b.es := by
  have nd : ∀ {es : List En}, (keysOf es).Nodup → es.Nodup := fun h => List.Pairwise.of_map Prod.fst (fun _ _ h e => h (congrArg _ e)) h
  rw [List.perm_ext_iff_of_nodup (nd hn) (nd hm)]
  have key : ∀ {ks : List ByteArray} {c : Hs}, St ks c → ∀ e : En, e ∈ c.es ↔ e.1 ∈ ks ∧ e.2 = e.1 := by
    intro ks c s e
    rw [← s.key]
    constructor
    · intro he
      exact ⟨List.mem_map.2 ⟨e, he, rfl⟩, s.val e he⟩
    · rintro ⟨h1, h2⟩
      obtain ⟨f, hf, h3⟩ := List.mem_map.1 h1
      have h4 := s.val f hf
      have : f = e := Prod.ext h3 (by rw [h4, h2, h3])
      exact this ▸ hf
  intro e
  rw [key s, key t, h]

/-- The i-th field; the fields; the fields the other way round. -/
def fld (l : Nat → Int) (i : Nat) : ByteArray := mny (wi (l i) 600)
def flds (l : Nat → Int) (i : Nat) : List ByteArray := (List.range i).map (fld l)
def fldr (l : Nat → Int) (n i : Nat) : List ByteArray := (List.range i).map fun j => fld l (n - 1 - j)
theorem flds_succ (l : Nat → Int) (i : Nat) : flds l (i + 1) = flds l i ++ [fld l i] := by unfold flds; rw [List.range_succ, List.map_append]; rfl
theorem fldr_succ (l : Nat → Int) (n i : Nat) : fldr l n (i + 1) = fldr l n i ++ [fld l (n - 1 - i)] := by unfold fldr; rw [List.range_succ, List.map_append]; rfl
theorem flds_same (l : Nat → Int) (n : Nat) (k : ByteArray) : k ∈ flds l n ↔ k ∈ fldr l n n := by
  unfold flds fldr
  simp only [List.mem_map, List.mem_range]
  constructor
  · rintro ⟨i, hi, rfl⟩
    exact ⟨n - 1 - i, by omega, by rw [show n - 1 - (n - 1 - i) = i by omega]⟩
  · rintro ⟨i, hi, rfl⟩
    exact ⟨n - 1 - i, by omega, rfl⟩

set_option maxRecDepth 100000 in
set_option maxHeartbeats 4000000 in
theorem orders_any (x : Nat) (entries : Int) (a : Option Addr) (len cap : Nat) (l : Nat → Int) (w : World) (hx : x < 18446744073709551616) (hl : RdZ w a len l) :
    Calls Tryz.prog 8 #[.int .u64 x, .int .i64 entries, .slice a len cap] w fun e w' => e = .returned (.bool true) ∧ Below w.heap.size w w' := by
  have HW1 := Within_wi entries 30 w (by decide)
  have hE := wi_le entries 30
  generalize wi entries 30 = E at HW1 hE
  have HN := fun w => NewH x E 10 w hx
  rw [lim_of (by omega), show lim 10 60 = 10 from rfl] at HN
  have HL : Hid (RdZ w a len l) := hl
  have hmax := hl.1
  unfold maxLen at hmax
  obtain ⟨n, hn⟩ : ∃ n, min len 40 = n := ⟨_, rfl⟩
  have HN4 : Hid (min len 40 = n) := hn
  have hn4 : n ≤ 40 := by omega
  have hnl : n ≤ len := by omega
  clear hl hn
  go_enter Tryz.func8, Tryz.ntmps8
  go_wp2_with fail
  refine HW1.mono ?_
  rintro e w0 ⟨rfl, rfl⟩
  go_wp2_with fail
  refine (HN _).mono ?_
  rintro e w1 ⟨hb, m1, F1, rfl, hH⟩
  have HB1 : Hid (Below w0.heap.size w0 w1) := hb
  have HH1 : Hid (Hm w1 w0.heap.size m1 x E 10 [] true F1) := hH
  clear hb hH HW1
  go_wp2_with fail
  refine (HN _).mono ?_
  rintro e w2 ⟨hb, m2, F2, rfl, hH⟩
  have HB2 : Hid (Below w0.heap.size w0 w2) := step_below HB1 hb
  have HP2 : Hid (P2 w2 w0.heap.size ⟨m1, x, E, 10, [], true⟩ ⟨m2, x, E, 10, [], true⟩) := P2.made (a := ⟨m1, x, E, 10, [], true⟩) (b := ⟨m2, x, E, 10, [], true⟩) HH1.out hb hH
  clear hb hH HN
  go_upto_region 5 with fail
  go_cut [10] from 34 to 36 (fun v wx => v = .int .i64 n ∧ w2 = wx)
  case first =>
    go_wp2
    all_goals
      go_meet
      have := HN4.out
      refine ⟨?_, rfl⟩
      first
        | rw [show (n : Int) = 40 by omega]
        | rw [show (n : Int) = len by omega]
  case rest =>
  obtain ⟨rfl, rfl⟩ := hcut
  obtain ⟨A0, hA0⟩ : ∃ A : Hs, A = ⟨m1, x, E, 10, [], true⟩ := ⟨_, rfl⟩
  obtain ⟨B0, hB0⟩ : ∃ A : Hs, A = ⟨m2, x, E, 10, [], true⟩ := ⟨_, rfl⟩
  have HA0 : Hid (A0.m = m1 ∧ A0.E = E ∧ St (flds l 0) A0) := by rw [hA0]; exact ⟨rfl, rfl, fun _ h => absurd h List.not_mem_nil, fun k => Iff.rfl, by simp, rfl, Nat.le_refl _⟩
  have HB0 : Hid (B0.m = m2 ∧ B0.E = E ∧ St (fldr l n 0) B0) := by rw [hB0]; exact ⟨rfl, rfl, fun _ h => absurd h List.not_mem_nil, fun k => Iff.rfl, by simp, rfl, Nat.le_refl _⟩
  rw [← hA0, ← hB0] at HP2
  clear hA0 hB0
  go_wp2
  go_loopg [11, 12, 13, 14, 15, 16, 17] n (fun g iv v12 v13 v14 v15 v16 v17 wr => ∃ (i : Nat) (A C : Hs), i + g = n ∧ iv = .int .i64 i ∧ Hid (P2 wr w0.heap.size A C) ∧ Hid (A.m = m1 ∧ A.E = E ∧ St (flds l i) A) ∧ Hid (C.m = m2 ∧ C.E = E ∧ St (fldr l n i) C) ∧ Hid (Below w0.heap.size w0 wr))
  case atStart => exact ⟨0, A0, B0, by omega, rfl, HP2, HA0, HB0, HB2⟩
  case round =>
    clear HA0 HB0
    obtain ⟨i, A, C, hi, rfl, HP, HA, HC, HB⟩ := hrel
    by_cases h8 : (i : Int) < n
    · obtain ⟨b, off, rfl, hc1⟩ := (HL.out.keep HB.out).2 i (by omega)
      obtain ⟨b', off', e1, hc2⟩ := (HL.out.keep HB.out).2 (n - 1 - i) (by omega)
      cases e1
      have HF : Hid (flds l (i + 1) = flds l i ++ [mny (wi (l i) 600)]) := flds_succ l i
      have HR : Hid (fldr l n (i + 1) = fldr l n i ++ [mny (wi (l (n - 1 - i)) 600)]) := fldr_succ l n i
      generalize l i = z1 at hc1 HF
      generalize l (n - 1 - i) = z2 at hc2 HR
      have hw1 := wi_le z1 600
      have hw2 := wi_le z2 600
      have HWa := fun w => Within_wi z1 600 w (by decide)
      have HWb := fun w => Within_wi z2 600 w (by decide)
      generalize wi z1 600 = q1 at hw1 HWa HF
      generalize wi z2 600 = q2 at hw2 HWb HR
      have HMa := fun w => many_any q1 w (by omega) (by omega)
      have HMb := fun w => many_any q2 w (by omega) (by omega)
      have hs1 := mny_size q1
      have hs2 := mny_size q2
      generalize mny q1 = f1 at HMa hs1 HF
      generalize mny q2 = f2 at HMb hs2 HR
      obtain ⟨r, hr⟩ : ∃ r, n - 1 - i = r := ⟨_, rfl⟩
      rw [hr] at hc2
      have hrz1 : IntKind.i64.wrap ((n : Int) - 1) = (n : Int) - 1 := by rw [IntKind.wrap_i64]; omega
      have hrz : IntKind.i64.wrap ((n : Int) - 1 - i) = r := by rw [IntKind.wrap_i64]; omega
      have hrl : (r : Int) < len := by omega
      clear hr
      go_upto_region 9 with fail
      go_cut [12, 13] from 42 to 56 (fun u v wx => u = .string f1 ∧ v = .string f2 ∧ ∃ q, wx = wr.drewN q)
      case first =>
        go_quiet (first
          | (go_at_call_of 16 (Value.int IntKind.i64 z1); exact Calls.quiet_of_same (HWa _))
          | (go_at_call_of 16 (Value.int IntKind.i64 z2); exact Calls.quiet_of_same (HWb _))
          | (go_at_call_of 12 (Value.int IntKind.i64 (q1 : Nat)); exact Calls.quiet_of_same (HMa _))
          | (go_at_call_of 12 (Value.int IntKind.i64 (q2 : Nat)); exact Calls.quiet_of_same (HMb _)))
        go_wp2
        go_meet
        exact ⟨rfl, rfl, _, rfl⟩
      case rest =>
      obtain ⟨rfl, rfl, q, rfl⟩ := hcut
      have HBq : Hid (Below w0.heap.size w0 (wr.drewN q)) := HB.out.trans ((below_drewN wr q).mono HB.out.size)
      have hSa := Set2 w0.heap.size A C f1 f1 (wr.drewN q) (HP.out.keep (below_drewN wr q)) (by omega) (by omega) (by have := HA.out.2.2.le; have e1 : (flds l i).length = i := (by unfold flds; rw [List.length_map, List.length_range]); omega)
      rw [HA.out.1] at hSa
      generalize (!hasK A.es f1) = t1 at hSa
      have HSf : Hid (f1.size = 3 ∧ f2.size = 3) := ⟨hs1, hs2⟩
      clear HWa HWb HMa HMb hrz hrz1
      go_wp2_with fail
      refine hSa.mono ?_
      rintro e w3 ⟨rfl, hp3, hb3⟩
      have HB3 : Hid (Below w0.heap.size w0 w3) := HBq.out.trans hb3
      have HP3 : Hid (P2 w3 w0.heap.size (A.put f1 f1) C) := hp3
      have hSb := Set2 w0.heap.size C (A.put f1 f1) f2 f2 w3 hp3.symm (by omega) (by omega) (by have := HC.out.2.2.le; have e1 : (fldr l n i).length = i := (by unfold fldr; rw [List.length_map, List.length_range]); omega)
      rw [HC.out.1] at hSb
      generalize (!hasK C.es f2) = t2 at hSb
      clear hp3 hb3 hSa
      go_wp2_with fail
      refine hSb.mono ?_
      rintro e w4 ⟨rfl, hp4, hb4⟩
      have HB4 : Hid (Below w0.heap.size w0 w4) := HB3.out.trans hb4
      have HP4 : Hid (P2 w4 w0.heap.size (A.put f1 f1) (C.put f2 f2)) := hp4.symm
      have HA4 : Hid ((A.put f1 f1).m = m1 ∧ (A.put f1 f1).E = E ∧ St (flds l (i + 1)) (A.put f1 f1)) := ⟨HA.out.1, HA.out.2.1, by rw [HF.out]; exact HA.out.2.2.put (by have := HSf.out; omega)⟩
      have HC4 : Hid ((C.put f2 f2).m = m2 ∧ (C.put f2 f2).E = E ∧ St (fldr l n (i + 1)) (C.put f2 f2)) := ⟨HC.out.1, HC.out.2.1, by rw [HR.out]; exact HC.out.2.2.put (by have := HSf.out; omega)⟩
      clear hp4 hb4 hSb
      go_wp2
      go_roundg (gk - 1)
      case measure => omega
      case rel => exact ⟨i + 1, A.put f1 f1, C.put f2 f2, by omega, by go_num, HP4, HA4, HC4, HB4⟩
    · have hin : i = n := by omega
      have HPm : Hid (A.es.Perm C.es) := by
        refine HA.out.2.2.perm HC.out.2.2 HP.out.nod HP.out.symm.nod (fun k => ?_)
        rw [hin]
        exact flds_same l n k
      have HPk : Hid (A.pk = C.pk) := by
        show _ = _
        rw [HA.out.2.2.pk, HC.out.2.2.pk, HA.out.2.1, HC.out.2.1, HPm.out.length_eq]
      have hAl := All2 w0.heap.size A C wr HP.out
      rw [HA.out.1] at hAl
      have HLe : Hid (A.es.length ≤ 40) := by
        have := HA.out.2.2.le
        have e1 : (flds l i).length = i := (by unfold flds; rw [List.length_map, List.length_range])
        show _ ≤ _
        omega
      clear hin
      go_wp2_with fail
      refine hAl.mono ?_
      rintro e w3 ⟨hb, a3, n3, c3, fs, rfl, hO3, hp3⟩
      have HB3 := step_below HB hb
      have HO3 : Hid (OwnQ w3 w0.heap.size a3 n3 c3 fs ∧ fs.Perm A.es) := ⟨Dk.OwnR.low hO3 HB.out.size, hp3⟩
      have HP3 : Hid (P2 w3 w0.heap.size A C) := HP.out.keep hb
      have hBl := All2 w0.heap.size C A w3 HP3.out.symm
      rw [HC.out.1] at hBl
      clear hb hO3 hp3 hAl
      go_wp2_with fail
      refine hBl.mono ?_
      rintro e w4 ⟨hb, a4, n4, c4, gs, rfl, hO4, hp4⟩
      have HB4 := step_below HB3 hb
      have HP4 : Hid (P2 w4 w0.heap.size A C) := HP3.out.keep hb
      have hn3 : fs.length = n3 := OwnQ.len HO3.out.1
      have hn4 : gs.length = n4 := OwnQ.len hO4
      have hp5 : fs.Perm gs := HO3.out.2.trans (HPm.out.trans hp4.symm)
      have hn34 : n3 = n4 := by have := hp5.length_eq; omega
      subst hn34
      have hPr := Pairs_same w0.heap.size w0.heap.size a3 a4 n3 c3 c4 fs gs w4 (HO3.out.1.keep hb) (Dk.OwnR.low hO4 HB3.out.size) hp5 (by have := HO3.out.2.length_eq; have := HLe.out; omega)
      clear hb hO4 hp4 hp5 hn3 hn4 hBl
      go_wp2_with fail
      refine hPr.mono ?_
      rintro e w5 ⟨rfl, hb⟩
      have HB5 := step_below HB4 hb
      have HP5 : Hid (P2 w5 w0.heap.size A C) := HP4.out.keep hb
      have hL1 := Len2 w0.heap.size A C w5 HP5.out
      rw [HA.out.1] at hL1
      clear hb hPr
      obtain ⟨La, hLa⟩ : ∃ La, A.es.length = La := ⟨_, rfl⟩
      rw [hLa] at hL1
      have HLc : Hid (C.es.length = La) := by show _ = _; rw [← HPm.out.length_eq]; exact hLa
      clear hLa
      go_wp2_with fail
      refine hL1.mono ?_
      rintro e w6 ⟨rfl, hb⟩
      have HB6 := step_below HB5 hb
      have HP6 : Hid (P2 w6 w0.heap.size A C) := HP5.out.keep hb
      have hL2 := Len2 w0.heap.size C A w6 HP6.out.symm
      rw [HC.out.1, HLc.out] at hL2
      clear hb hL1
      go_wp2_with fail
      refine hL2.mono ?_
      rintro e w7 ⟨rfl, hb⟩
      have HB7 := step_below HB6 hb
      have HP7 : Hid (P2 w7 w0.heap.size A C) := HP6.out.keep hb
      have hK1 := Packed2 w0.heap.size A C w7 HP7.out
      have hK2 := Packed2 w0.heap.size C A w7 HP7.out.symm
      rw [HA.out.1, HPk.out] at hK1
      rw [HC.out.1] at hK2
      generalize C.pk = pk at hK1 hK2
      clear hb hL2
      go_wp2_with fail
      refine hK1.mono ?_
      rintro e w8 ⟨rfl, rfl⟩
      go_wp2_with fail
      refine hK2.mono ?_
      rintro e w8 ⟨rfl, rfl⟩
      go_wp2_with fail
      refine (known_any _).mono ?_
      rintro e w9 ⟨rfl, hb⟩
      have HB9 := step_below HB7 hb
      clear hb
      go_wp2
      go_ret
      exact ⟨rfl, HB9.out⟩
end Go.Proofs.YtembjlckcgginaaGreat
