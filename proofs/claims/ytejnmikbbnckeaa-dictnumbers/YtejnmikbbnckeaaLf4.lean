/-
  remove: a leaf with one key less.
-/
import Derived.Test.YtejnmikbbnckeaaLf3
namespace Go.Proofs.Ytejnmikbbnckeaa
open Go.RowKit Go.PlainAid

theorem remove_no (B x : Nat) (f : Lf) (k : ByteArray) (w : World) (hL : Leaf w B x f) (hks : k.size ≤ maxLen) (hk : k ∉ keysOf f.es) :
    Calls Try.prog 62 #[ptr f.a, .string k] w fun e w' => e = .returned (.bool false) ∧ Below w.heap.size w w' := by
  have HL : Hid (Leaf w B x f) := hL
  have hc := hL.tabs
  have hmx := hL.max
  have HK : Hid (k ∉ keysOf f.es) := hk
  have HKS : Hid (k.size ≤ maxLen) := hks
  generalize hm : f.ts.length = m at hc hmx
  have HM : Hid (f.ts.length = m) := hm
  clear hL hm hk hks
  go_enter Try.func62, Try.ntmps62
  go_wp2
  go_loopg [5, 6, 12] m (fun q jv tv iv wr => ∃ i : Nat, i + q = m ∧ iv = .int .i64 i ∧ Hid (Below w.heap.size w wr))
  case atStart => exact ⟨0, by omega, rfl, Below.refl _ _⟩
  case round =>
    obtain ⟨i, hi, rfl, HB⟩ := hrel
    by_cases h8 : (i : Int) < m
    · obtain ⟨t, ht, htm⟩ := get_of_lt (l := f.ts) (i := i) (by have := HM.out; omega)
      have hcc := (HL.out.keep HB.out).at ht
      have hG := Delete_no _ _ _ _ _ _ k _ ((HL.out.keep HB.out).tab t htm) HKS.out (not_in_tab HK.out htm)
      clear ht htm
      go_wp2_with fail
      refine hG.mono ?_
      rintro e w1 ⟨rfl, hb1⟩
      have HB1 := step_below HB hb1
      clear hb1 hG
      go_wp2
      go_roundg (gk - 1)
      case measure => omega
      case rel => exact ⟨i + 1, by omega, by go_num, HB1⟩
    · go_wp2
      go_ret
      exact ⟨rfl, HB.out⟩

/-- One table less. -/
theorem Leaf.drop {w w3 : World} {B x : Nat} {f : Lf} {pre post : List Tb} {t : Tb} {n' c' : Nat} (h : Leaf w B x f) (e : f.ts = pre ++ t :: post) (hg : w.grownBy w3 (some f.tb)) (hO : OwnP w3 B 59 (some ⟨f.tb, 0, none⟩) n' c' ((pre ++ post).map (·.p))) (hpos : 0 < (pre ++ post).length) :
    Leaf (w3.setCell ⟨f.a, 1, none⟩ (.slice (some ⟨f.tb, 0, none⟩) n' c')) B x { f with cap := c', ts := pre ++ post } ∧ (∀ j ∈ ({ f with cap := c', ts := pre ++ post } : Lf).fp, j ∈ f.fp) := by
  have hlen : (pre ++ post).length = n' := by have := OwnP.len hO; rw [List.length_map] at this; exact this
  have hsub : ((tsFp (pre ++ post)).Sublist (tsFp f.ts)) := by
    rw [e, tsFp_append, tsFp_append, tsFp_cons]
    exact List.Sublist.append_left ((List.sublist_cons_self _ _).trans (List.sublist_cons_self _ _)) _
  have hes : (tsEs (pre ++ post)).Sublist f.es := by
    unfold Lf.es
    rw [e, tsEs_append, tsEs_append, tsEs_cons]
    exact List.Sublist.append_left (List.sublist_append_right _ _) _
  have hn := h.nod
  unfold Lf.fp at hn
  rw [List.nodup_cons, List.nodup_cons] at hn
  obtain ⟨n1, n2, n3⟩ := hn
  rw [List.mem_cons, not_or] at n1
  have hS : Stay w w3 [f.tb] := Stay.grown hg (fun g e => by cases e; simp)
  have hS2 : Stay w (w3.setCell ⟨f.a, 1, none⟩ (.slice (some ⟨f.tb, 0, none⟩) n' c')) [f.tb, f.a] :=
    (hS.mono (by simp)).trans Stay.set (fun i hi => .inl (by simp at hi; simp [hi]))
  have hblk3 : w3.heap[f.a]? = some (.cells #[.int .i64 (f.l : Nat), .slice (some ⟨f.tb, 0, none⟩) f.ts.length f.cap] 84 (0, 0)) := by
    rw [hS.block f.a h.lt (by simpa using n1.1)]; exact h.blk
  refine ⟨⟨?_, ?_, ?_, h.low, ?_, ?_, hpos⟩, ?_⟩
  · show (w3.setCell ⟨f.a, 1, none⟩ _).heap[f.a]? = some (.cells #[.int .i64 (f.l : Nat), .slice (some ⟨f.tb, 0, none⟩) (pre ++ post).length c'] 84 (0, 0))
    rw [heap_set hblk3, hlen]
    rfl
  · show OwnP _ B 59 (some ⟨f.tb, 0, none⟩) (pre ++ post).length c' ((pre ++ post).map (·.p))
    rw [hlen]
    exact OwnR.stay hO (Stay.set (q := f.a)) (fun k hk => by cases hk; simpa using fun e => n1.1 e.symm)
  · intro u hu
    have hu' : u ∈ f.ts := by rw [e]; rcases List.mem_append.1 hu with h | h <;> simp [h]
    have hm := mem_tsFp hu'
    refine (h.tab u hu').stay hS2 ?_ ?_
    · simp only [List.mem_cons, List.not_mem_nil, or_false, not_or]
      exact ⟨fun e => n2 (e ▸ hm.1), fun e => n1.2 (e ▸ hm.1)⟩
    · simp only [List.mem_cons, List.not_mem_nil, or_false, not_or]
      exact ⟨fun e => n2 (e ▸ hm.2), fun e => n1.2 (e ▸ hm.2)⟩
  · exact ((hsub.cons_cons f.tb).cons_cons f.a).nodup h.nod
  · exact (hes.map (·.1)).nodup h.key
  · intro j hj
    exact ((hsub.cons_cons f.tb).cons_cons f.a).mem hj

/-- A leaf with one key less. -/
def Removed (w w' : World) (B x : Nat) (f : Lf) (k : ByteArray) : Prop :=
  ∃ f', Grew w w' B x f f' ∧ (∃ u, f.es.Perm ((k, u) :: f'.es)) ∧ (f.ts.length = 1 → f'.ts.length = 1) ∧ (Ful f → Ful f')

set_option maxRecDepth 100000 in
set_option maxHeartbeats 4000000 in
theorem remove_yes (B x : Nat) (f : Lf) (k : ByteArray) (w : World) (hL : Leaf w B x f) (hks : k.size ≤ maxLen) (hk : k ∈ keysOf f.es) :
    Calls Try.prog 62 #[ptr f.a, .string k] w fun e w' => e = .returned (.bool true) ∧ Removed w w' B x f k := by
  have HL : Hid (Leaf w B x f) := hL
  have hc := hL.tabs
  have hmx := hL.max
  have HK : Hid (k ∈ keysOf (tsEs f.ts)) := hk
  have HKS : Hid (k.size ≤ maxLen) := hks
  generalize hm : f.ts.length = m at hc hmx
  have HM : Hid (f.ts.length = m) := hm
  clear hL hm hk hks
  go_enter Try.func62, Try.ntmps62
  go_wp2
  go_loopg [5, 6, 12] m (fun q jv tv iv wr => ∃ i : Nat, i + q = m ∧ iv = .int .i64 i ∧ Hid (k ∉ keysOf (tsEs (f.ts.take i))) ∧ Hid (Below w.heap.size w wr))
  case atStart => exact ⟨0, by omega, rfl, (by simp [tsEs] : k ∉ _), Below.refl _ _⟩
  case round =>
    obtain ⟨i, hi, rfl, HNo, HB⟩ := hrel
    by_cases h8 : (i : Int) < m
    · obtain ⟨t, ht, htm⟩ := get_of_lt (l := f.ts) (i := i) (by have := HM.out; omega)
      have hcc := (HL.out.keep HB.out).at ht
      have HTab : Hid (Tab wr B t.p t.b x t.G t.z) := (HL.out.keep HB.out).tab t htm
      by_cases hin : k ∈ (ents t.z).map (·.1)
      · have hD := Delete_yes _ _ _ _ _ _ k _ HTab.out HKS.out hin
        have HG : Hid (f.ts = f.ts.take i ++ t :: f.ts.drop (i + 1)) := get_parts ht
        clear ht htm hin
        go_wp2_with fail
        refine hD.mono ?_
        rintro e w1 ⟨rfl, hm1, z1, hT1, u, hp1⟩
        have HPm : Hid (f.es.Perm ((k, u) :: tsEs (f.ts.take i ++ ⟨t.p, t.b, t.G, z1⟩ :: f.ts.drop (i + 1)))) := by
          show f.es.Perm _
          have := mid_perm (pre := f.ts.take i) (post := f.ts.drop (i + 1)) (t := ⟨t.p, t.b, t.G, z1⟩) (t' := t) (e := [(k, u)]) (hp1.trans (List.perm_append_singleton _ _).symm)
          rw [← HG.out] at this
          exact this.trans (List.perm_append_singleton _ _)
        have hkn : (keysOf (tsEs (f.ts.take i ++ ⟨t.p, t.b, t.G, z1⟩ :: f.ts.drop (i + 1)))).Nodup := (List.nodup_cons.1 ((HPm.out.map (·.1)).nodup_iff.1 HL.out.key)).2
        have HT : Hid (Leaf w1 B x { f with ts := f.ts.take i ++ ⟨t.p, t.b, t.G, z1⟩ :: f.ts.drop (i + 1) } ∧ (∀ j ∈ ({ f with ts := f.ts.take i ++ ⟨t.p, t.b, t.G, z1⟩ :: f.ts.drop (i + 1) } : Lf).fp, j ∈ f.fp ∨ wr.heap.size ≤ j) ∧ Stay wr w1 f.fp) := (HL.out.keep HB.out).turn HG.out (Stay.of_moves hm1) hT1 (.inl rfl) hkn
        have hLen := Len_any _ _ _ _ _ _ _ hT1
        have HLn : Hid ((f.ts.take i ++ (⟨t.p, t.b, t.G, z1⟩ : Tb) :: f.ts.drop (i + 1)).length = m) := by
          have := congrArg List.length HG.out
          show _ = _
          rw [← HM.out, this]
          simp
        have HR : Hid ((m = 1 ∨ 0 < (ents z1).length) → Removed w w1 B x f k) := fun hor => ⟨_, (⟨HT.out.1, HT.out.2.2, HT.out.2.1, rfl, rfl, rfl⟩ : Grew wr w1 B x f _).first HB.out, ⟨u, HPm.out⟩, fun h1 => by
          show (f.ts.take i ++ (⟨t.p, t.b, t.G, z1⟩ : Tb) :: f.ts.drop (i + 1)).length = 1
          rw [HLn.out, ← HM.out]; exact h1, fun h1 => by
            rcases hor with hor | hor
            · exact .inl (by rw [HLn.out]; exact hor)
            · rcases h1 with h1 | h1
              · exact .inl (by show (f.ts.take i ++ (⟨t.p, t.b, t.G, z1⟩ : Tb) :: f.ts.drop (i + 1)).length = 1; rw [HLn.out, ← HM.out]; exact h1)
              · refine .inr fun v hv => ?_
                rcases List.mem_append.1 hv with hv | hv
                · exact h1 v (List.mem_of_mem_take hv)
                · rcases List.mem_cons.1 hv with rfl | hv
                  · exact hor
                  · exact h1 v (List.mem_of_mem_drop hv)⟩
        have hc1 := HT.out.1.tabs
        simp only [] at hc1
        rw [HLn.out] at hc1
        clear hm1 hT1 hp1 hkn hD hc hcc
        generalize hd : (ents z1).length = d at hLen
        have HD : Hid ((ents z1).length = d) := hd
        clear hd
        by_cases hd0 : d = 0
        · subst hd0
          replace hLen : Calls Try.prog 66 #[ptr t.p] w1 fun e w' => e = .returned (.int .i64 0) ∧ w' = w1 := hLen
          by_cases hm1 : (1 : Int) < m
          · have hrow := Delete_row B f.tb m f.cap ((f.ts.take i ++ (⟨t.p, t.b, t.G, z1⟩ : Tb) :: f.ts.drop (i + 1)).map (·.p)) i w1 (by have := HT.out.1.row; simp only [] at this; rw [HLn.out] at this; exact this) (by omega)
            go_wp2_with fail
            refine hLen.mono ?_
            rintro e w1 ⟨rfl, rfl⟩
            go_wp2_with fail
            refine hrow.mono ?_
            rintro e w2 ⟨n', c', rfl, hO2, hg2⟩
            have HF : Hid (some f.a ≠ some f.tb) := by
              have h := HL.out.nod
              unfold Lf.fp at h
              rw [List.nodup_cons] at h
              intro e
              injection e with e
              exact h.1 (by simp [e])
            have hbl : w2.heap[f.a]? = w1.heap[f.a]? := hg2.block f.a HT.out.1.lt HF.out
            have hc2 : w2.cell? ⟨f.a, 1, none⟩ = some (.slice (some ⟨f.tb, 0, none⟩) m f.cap) := by rw [World.cell?_of_block hbl]; exact hc1
            have hf2 : w2.frozen? ⟨f.a, 1, none⟩ = false := by have := HT.out.1.blk; rw [← hbl] at this; simp [World.frozen?, this]
            have HO2 : Hid (OwnP w2 B 59 (some ⟨f.tb, 0, none⟩) n' c' ((f.ts.take i ++ f.ts.drop (i + 1)).map (·.p))) := by
              show OwnP _ _ _ _ _ _ _
              have hil : (f.ts.take i).length = i := by rw [List.length_take, HM.out]; omega
              have e1 : ((f.ts.take i ++ (⟨t.p, t.b, t.G, z1⟩ : Tb) :: f.ts.drop (i + 1)).map (·.p)).take i = (f.ts.take i).map (·.p) := by
                rw [← List.map_take, List.take_append_of_le_length (by omega), List.take_of_length_le (by omega)]
              have e2 : ((f.ts.take i ++ (⟨t.p, t.b, t.G, z1⟩ : Tb) :: f.ts.drop (i + 1)).map (·.p)).drop (i + 1) = (f.ts.drop (i + 1)).map (·.p) := by
                rw [← List.map_drop, List.drop_append, List.drop_of_length_le (by omega), hil, show i + 1 - i = 1 by omega]
                rfl
              rw [e1, e2] at hO2
              rw [List.map_append]
              exact hO2
            have HG2 : Hid (w1.grownBy w2 (some f.tb)) := hg2
            clear hO2 hg2 hbl hrow hLen
            go_wp2
            go_ret
            refine ⟨rfl, ?_⟩
            have hpos : 0 < (f.ts.take i ++ f.ts.drop (i + 1)).length := by
              rw [List.length_append, List.length_take, List.length_drop, HM.out]
              omega
            obtain ⟨k1, k2⟩ := HT.out.1.drop (pre := f.ts.take i) (post := f.ts.drop (i + 1)) rfl HG2.out HO2.out hpos
            refine ⟨_, (⟨k1, ?_, fun j hj => HT.out.2.1 j (k2 j hj), rfl, rfl, rfl⟩ : Grew wr _ B x f _).first HB.out, ⟨u, ?_⟩, ?_, ?_⟩
            · refine HT.out.2.2.trans (M' := [f.tb, f.a]) ((Stay.grown HG2.out (M := [f.tb, f.a]) (fun g e => by simp at e; simp [e])).trans Stay.set (fun i hi => .inl (by simp at hi; simp [hi]))) (fun i hi => .inl (by simp at hi; rcases hi with rfl | rfl <;> simp [Lf.fp]))
            · refine HPm.out.trans (List.Perm.cons _ ?_)
              show (tsEs _).Perm (tsEs _)
              have hz : (⟨t.p, t.b, t.G, z1⟩ : Tb).es = [] := List.length_eq_zero_iff.1 HD.out
              rw [tsEs_append, tsEs_append, tsEs_cons, hz, List.nil_append]
            · intro h1
              rw [HM.out] at h1
              omega
            · intro h1
              rcases h1 with h1 | h1
              · rw [HM.out] at h1
                omega
              · refine .inr fun v hv => ?_
                rcases List.mem_append.1 hv with hv | hv
                · exact h1 v (List.mem_of_mem_take hv)
                · exact h1 v (List.mem_of_mem_drop hv)
          · have hm2 : decide ((1 : Int) < m) = false := decide_eq_false hm1
            have HR1 : Hid (Removed w w1 B x f k) := HR.out (.inl (by have := HL.out.pos; have := HM.out; omega))
            clear HR
            go_wp2_with fail
            refine hLen.mono ?_
            rintro e w1 ⟨rfl, rfl⟩
            go_wp2
            go_ret
            exact ⟨rfl, HR1.out⟩
        · have HR1 : Hid (Removed w w1 B x f k) := HR.out (.inr (by have := HD.out; omega))
          clear HR
          have hdz : ((d : Int) == 0) = false := by simp; omega
          go_wp2_with fail
          refine hLen.mono ?_
          rintro e w1 ⟨rfl, rfl⟩
          go_wp2
          go_ret
          exact ⟨rfl, HR1.out⟩
      · have hG := Delete_no _ _ _ _ _ _ k _ HTab.out HKS.out hin
        have HNo1 : Hid (k ∉ keysOf (tsEs (f.ts.take (i + 1)))) := by
          show k ∉ _
          rw [take_more ht, tsEs_append, keysOf_append, tsEs_one, List.mem_append]
          exact fun h => h.elim HNo.out hin
        clear ht htm hin
        go_wp2_with fail
        refine hG.mono ?_
        rintro e w1 ⟨rfl, hb1⟩
        have HB1 := step_below HB hb1
        clear hb1 hG
        go_wp2
        go_roundg (gk - 1)
        case measure => omega
        case rel => exact ⟨i + 1, by omega, by go_num, HNo1, HB1⟩
    · exact absurd HK.out (by have := HNo.out; rw [List.take_of_length_le (by have := HM.out; omega)] at this; exact this)
end Go.Proofs.Ytejnmikbbnckeaa
