/-
  add, Put and Delete.
-/
import Derived.Test.YtejnmikbbnckeaaRoom
namespace Go.Proofs.Ytejnmikbbnckeaa
open Go.RowKit Go.PlainAid

/-- A table with one key more. -/
def More (w w' : World) (B p b x : Nat) (z : List Cl) (k : ByteArray) (v : Int) : Prop :=
  Moves w w' p b ∧ ∃ b' G' z', Tab w' B p b' x G' z' ∧ (b' = b ∨ w.heap.size ≤ b') ∧ (ents z').Perm (ents z ++ [(k, v)])

set_option maxRecDepth 100000 in
set_option maxHeartbeats 4000000 in
theorem add_any (B p b x G : Nat) (z : List Cl) (k : ByteArray) (v : Int) (w : World) (hT : Tab w B p b x G z) (hks : k.size ≤ maxLen) (hk : k ∉ (ents z).map (·.1)) (hlen : (ents z).length < 112) :
    Calls Try.prog 67 #[ptr p, .int .u64 (hsh x k : Nat), .agg #[.string k, .int .i64 v]] w fun e w' => e = .returned (.tuple #[]) ∧ More w w' B p b x z k v := by
  have hh := hsh_lt x k
  have HT : Hid (Tab w B p b x G z) := hT
  have HKS : Hid (k.size ≤ maxLen) := hks
  have HKN : Hid (k ∉ (ents z).map (·.1)) := hk
  have hG := hT.inv.grp.le
  have HS := fun w hT => spare_any B p b x G (hsh x k) z w hT hh
  have HLe := fun w hT => Len_any B p b x G z w hT
  have HMa := fun w hT => Marks_any B p b x G z w hT
  have HMR := fun w hT => makeRoom_any B p b x G z w hT hlen
  have HL1 := fun b G z w hT (hk : k ∉ (ents z).map (·.1)) hr => lay_any B p b x G z k v w hT hks hk hr
  have HRO : Hid ((ents z).length + dels z ≤ 7 * G) := hT.inv.room
  obtain ⟨h, eh⟩ : ∃ h, hsh x k = h := ⟨_, rfl⟩
  rw [eh] at HS hh HL1 ⊢
  clear hT hk eh hks
  obtain ⟨w1, hw1⟩ : ∃ w1, w.alloc (.cells #[.string k, .int .i64 v] 92) = w1 := ⟨_, rfl⟩
  have HB1 : Hid (Below w.heap.size w w1) := by show Below _ _ _; rw [← hw1]; exact alloc_below w _
  obtain ⟨q, hq⟩ : ∃ q, w.heap.size = q := ⟨_, rfl⟩
  have HX1 : Hid (Box w1 q k v) := by show Box _ _ _ _; rw [← hw1, ← hq]; exact Box.made w k v
  have HT1 : Hid (Tab w1 B p b x G z) := HT.out.keep HB1.out
  go_enter Try.func67, Try.ntmps67
  go_wp2_with fail
  refine (HS _ HT1.out).mono ?_
  rintro e w2 ⟨hb2, g, i, rfl, hsp⟩
  have HB2 := step_below HB1 hb2
  have HT2 : Hid (Tab w2 B p b x G z) := HT1.out.keep hb2
  have HX2 : Hid (Box w2 q k v) := HX1.out.keep hb2
  have HSP : Hid (Spr z G h g i) := hsp
  obtain ⟨j, hj, hjg, hi8, hfr, -, -⟩ := hsp
  have hgG : g < G := by rw [← hjg]; exact gAt_lt HT.out.inv.grp.pos h j
  have hgz : (g : Int) < G := by omega
  have HA := fun w => At_in (HT.out.inv.ok hgG) i hi8 w
  rw [wrd_get HT.out.inv.len hgG hi8] at HA
  have HByt : Hid ((cel z (8 * g + i)).1 = 128 ∨ (cel z (8 * g + i)).1 = 254) := by
    rcases HT.out.inv.byt (8 * g + i) (by omega) with h1 | h1 | h1
    · omega
    · exact .inl h1
    · exact .inr h1
  have HWD : Hid (∀ w', Below w2.heap.size w2 w' → w'.cell? ⟨p, 1, none⟩ = some (.slice (some ⟨b, 0, none⟩) G G) ∧ w'.cell? ⟨b, g * 17, none⟩ = some (.int .u64 (val (wrd z g) : Nat))) :=
    fun w' hb => ⟨(HT2.out.keep hb).top.groups, (HT2.out.keep hb).row.word hgG⟩
  obtain ⟨wv, ewv⟩ : ∃ wv, val (wrd z g) = wv := ⟨_, rfl⟩
  rw [ewv] at HA HWD
  obtain ⟨bt, ebt⟩ : ∃ bt, (cel z (8 * g + i)).1 = bt := ⟨_, rfl⟩
  have HEB : Hid ((cel z (8 * g + i)).1 = bt) := ebt
  rw [ebt] at HA HByt
  have HD : Hid (Below w2.heap.size w2 w2.drew) := below_drewN w2 1
  have HTd : Hid (Tab w2.drew B p b x G z) := HT2.out.keep HD.out
  obtain ⟨m, em⟩ : ∃ m, (ents z).length = m := ⟨_, rfl⟩
  obtain ⟨d, ed⟩ : ∃ d, dels z = d := ⟨_, rfl⟩
  rw [em] at HLe hlen
  rw [ed] at HMa
  rw [em, ed] at HRO
  have hd : d ≤ 112 := by have := HRO.out; omega
  have HEM : Hid ((ents z).length = m) := em
  have HED : Hid (dels z = d) := ed
  have HNX : Hid (∀ w', Below w2.heap.size w2 w' → Tab w' B p b x G z ∧ Box w' q k v ∧ Moves w w' p b) := fun w' hb => ⟨HT2.out.keep hb, HX2.out.keep hb, (Moves.of_below HB2.out p b).trans (Moves.of_below hb p b) (.inl rfl)⟩
  clear hb2 hj hjg hfr ewv ebt hw1 hq HS HX1 HT1 HB1 HB2 em ed
  have hw7 : IntKind.i64.wrap (7 * (G : Int)) = 7 * (G : Int) := by rw [IntKind.wrap_i64]; omega
  have hwm : IntKind.i64.wrap ((m : Int) + (d : Int)) = (m : Int) + (d : Int) := by rw [IntKind.wrap_i64]; omega
  go_upto_region 2 with fail
  rcases HByt.out with e1 | e1
  · subst e1
    go_region_held3 (fun w' => w'.cell? ⟨p, 1, none⟩ = some (.slice (some ⟨b, 0, none⟩) G G) ∧ w'.cell? ⟨b, g * 17, none⟩ = some (.int .u64 (wv : Nat))) (exact HWD.out _ HD.out) (first
      | (go_at_call 85; refine (HA _).mono ?_; rintro e wx ⟨rfl, rfl⟩)
      | (go_at_call 66; refine (HLe _ HTd.out).mono ?_; rintro e wx ⟨rfl, rfl⟩)
      | (go_at_call 86; refine (HMa _ HTd.out).mono ?_; rintro e wx ⟨rfl, hb⟩; replace HD := step_below HD hb; replace HTd : Hid (Tab wx B p b x G z) := HTd.out.keep hb; clear hb))
    clear HWD HA HLe HMa HByt
    have hk1 := (HNX.out _ HD.out).2.1.key
    have hv1 := (HNX.out _ HD.out).2.1.vl
    have HMv : Hid (Moves w wx p b) := (HNX.out _ HD.out).2.2
    by_cases hf : 7 * (G : Int) ≤ (m : Int) + (d : Int)
    · go_wp2_with fail
      refine (HMR _ HTd.out).mono ?_
      rintro e w3 ⟨rfl, hm3, b3, G3, z3, hT3, hb3, hp3, hr3⟩
      have HX3 : Hid (Box w3 q k v) := (HNX.out _ HD.out).2.1.moves hm3 HTd.out
      have HT3 : Hid (Tab w3 B p b3 x G3 z3) := hT3
      have HM3 : Hid (Moves w w3 p b) := HMv.out.trans hm3 (.inl rfl)
      have HP3 : Hid ((ents z3).Perm (ents z)) := hp3
      have HB3 : Hid (w.heap.size ≤ b3) := Nat.le_trans HMv.out.size hb3
      have HKN3 : k ∉ (ents z3).map (·.1) := fun hm => HKN.out ((hp3.map (·.1)).mem_iff.1 hm)
      have HLy := HL1 b3 G3 z3 w3 hT3 HKN3 (.inl hr3)
      have hk3 := HX3.out.key
      have hv3 := HX3.out.vl
      clear hm3 hT3 hb3 hp3 hr3 HKN3 HL1 HMR hk1 hv1
      go_wp2_with fail
      refine HLy.mono ?_
      rintro e w4 ⟨rfl, hm4, z4, hT4, hp4, -⟩
      have HR : Hid (More w w4 B p b x z k v) := ⟨HM3.out.trans hm4 (.inr HB3.out), b3, G3, z4, hT4, .inr HB3.out, hp4.trans (List.Perm.append_right _ HP3.out)⟩
      clear hm4 hT4 hp4
      go_wp2
      go_end0
      exact ⟨rfl, HR.out⟩
    · have HLy := HL1 b G z wx HTd.out HKN.out (.inl (by have := HEM.out; have := HED.out; omega))
      clear HL1 HMR
      go_wp2_with fail
      refine HLy.mono ?_
      rintro e w4 ⟨rfl, hm4, z4, hT4, hp4, -⟩
      have HR : Hid (More w w4 B p b x z k v) := ⟨HMv.out.trans hm4 (.inl rfl), b, G, z4, hT4, .inl rfl, hp4⟩
      clear hm4 hT4 hp4
      go_wp2
      go_end0
      exact ⟨rfl, HR.out⟩
  · subst e1
    have hc2 := HT2.out.top.groups
    have hw2 := (HWD.out _ (Below.refl _ _)).2
    go_quiet ((go_at_call 85; refine Calls.quiet_of_same (HA _)))
    clear HWD HA HLe HMa HByt hc2 hw2
    obtain ⟨wx, hwx⟩ : ∃ wx, w2.drewN nq = wx := ⟨_, rfl⟩
    have HDx : Hid (Below w2.heap.size w2 wx) := by show Below _ _ _; rw [← hwx]; exact below_drewN w2 nq
    rw [hwx]
    clear hwx
    have hk1 := (HNX.out _ HDx.out).2.1.key
    have hv1 := (HNX.out _ HDx.out).2.1.vl
    have HMv : Hid (Moves w wx p b) := (HNX.out _ HDx.out).2.2
    have HLy := HL1 b G z wx (HNX.out _ HDx.out).1 HKN.out (.inr ⟨g, i, HSP.out, HEB.out⟩)
    clear HL1 HMR
    go_wp2_with fail
    refine HLy.mono ?_
    rintro e w4 ⟨rfl, hm4, z4, hT4, hp4, -⟩
    have HR : Hid (More w w4 B p b x z k v) := ⟨HMv.out.trans hm4 (.inl rfl), b, G, z4, hT4, .inl rfl, hp4⟩
    clear hm4 hT4 hp4
    go_wp2
    go_end0
    exact ⟨rfl, HR.out⟩

theorem Put_new (B p b x G : Nat) (z : List Cl) (k : ByteArray) (v : Int) (w : World) (hT : Tab w B p b x G z) (hks : k.size ≤ maxLen) (hk : k ∉ (ents z).map (·.1)) (hlen : (ents z).length < 112) :
    Calls Try.prog 41 #[ptr p, .string k, .int .i64 v] w fun e w' => e = .returned (.int .i64 0) ∧ More w w' B p b x z k v := by
  have hc := hT.top.seed
  have HO : ∀ w, Calls Try.prog 38 #[.int .u64 x, .string k] w fun e w' => e = .returned (.int .u64 (hsh x k : Nat)) ∧ w' = w := fun w => Of_any x k w hks hT.seed
  have HF := fun w hT => find_any B p b x G z k w hT
  have HAd := fun w hT => add_any B p b x G z k v w hT hks hk hlen
  have HLe := fun w hT => Len_any B p b x G z w hT
  have HT : Hid (Tab w B p b x G z) := hT
  have HM : Hid (k ∉ (ents z).map (·.1)) := hk
  generalize hsh x k = h at HO HF HAd
  generalize (ents z).length = m at HLe hlen
  clear hT hk hks
  go_enter Try.func41, Try.ntmps41
  go_wp2_with fail
  refine (HO _).mono ?_
  rintro e w ⟨rfl, rfl⟩
  go_wp2_with fail
  refine (HF _ HT.out).mono ?_
  rintro e w1 ⟨hb, hF⟩
  have HT1 : Hid (Tab w1 B p b x G z) := HT.out.keep hb
  have HB1 : Hid (Below w.heap.size w w1) := hb
  rcases hF with ⟨g, i, hg, hi, h1, h2, rfl⟩ | ⟨h1, rfl⟩
  · exact absurd (List.mem_map.2 ⟨_, mem_ents.2 ⟨8 * g + i, by rw [HT.out.inv.len]; omega, h1, rfl⟩, h2⟩) HM.out
  · clear h1 hb hc HO HF
    go_wp2_with fail
    refine (HLe _ HT1.out).mono ?_
    rintro e w1 ⟨rfl, rfl⟩
    go_wp2_with fail
    refine (HAd _ HT1.out).mono ?_
    rintro e w2 ⟨rfl, hm, b2, G2, z2, hT2, hb2, hp2⟩
    have HR : Hid (More w w2 B p b x z k v) := ⟨(Moves.of_below HB1.out p b).trans hm (.inl rfl), b2, G2, z2, hT2, hb2.imp id (fun h => Nat.le_trans HB1.out.size h), hp2⟩
    clear hm hT2 hb2 hp2
    go_wp2
    go_ret
    exact ⟨rfl, HR.out⟩
theorem Put_full (B p b x G : Nat) (z : List Cl) (k : ByteArray) (v : Int) (w : World) (hT : Tab w B p b x G z) (hks : k.size ≤ maxLen) (hk : k ∉ (ents z).map (·.1)) (hlen : 112 ≤ (ents z).length) :
    Calls Try.prog 41 #[ptr p, .string k, .int .i64 v] w fun e w' => e = .returned (.int .i64 23) ∧ Below w.heap.size w w' := by
  have hc := hT.top.seed
  have HO : ∀ w, Calls Try.prog 38 #[.int .u64 x, .string k] w fun e w' => e = .returned (.int .u64 (hsh x k : Nat)) ∧ w' = w := fun w => Of_any x k w hks hT.seed
  have HF := fun w hT => find_any B p b x G z k w hT
  have HLe := fun w hT => Len_any B p b x G z w hT
  have HT : Hid (Tab w B p b x G z) := hT
  have HM : Hid (k ∉ (ents z).map (·.1)) := hk
  generalize hsh x k = h at HO HF
  generalize (ents z).length = m at HLe hlen
  clear hT hk hks
  go_enter Try.func41, Try.ntmps41
  go_wp2_with fail
  refine (HO _).mono ?_
  rintro e w ⟨rfl, rfl⟩
  go_wp2_with fail
  refine (HF _ HT.out).mono ?_
  rintro e w1 ⟨hb, hF⟩
  have HT1 : Hid (Tab w1 B p b x G z) := HT.out.keep hb
  have HB1 : Hid (Below w.heap.size w w1) := hb
  rcases hF with ⟨g, i, hg, hi, h1, h2, rfl⟩ | ⟨h1, rfl⟩
  · exact absurd (List.mem_map.2 ⟨_, mem_ents.2 ⟨8 * g + i, by rw [HT.out.inv.len]; omega, h1, rfl⟩, h2⟩) HM.out
  · clear h1 hb hc HO HF
    go_wp2_with fail
    refine (HLe _ HT1.out).mono ?_
    rintro e w1 ⟨rfl, rfl⟩
    have hl : (112 : Int) ≤ m := by omega
    go_wp2
    go_ret
    exact ⟨rfl, HB1.out⟩

/-- A table in which a key has something else. -/
def Turned (w w' : World) (B p b x G : Nat) (z : List Cl) (k : ByteArray) (v : Int) : Prop :=
  Moves w w' p b ∧ ∃ z', Tab w' B p b x G z' ∧ ∃ a c u, ents z = a ++ (k, u) :: c ∧ ents z' = a ++ (k, v) :: c
theorem Put_old (B p b x G : Nat) (z : List Cl) (k : ByteArray) (v : Int) (w : World) (hT : Tab w B p b x G z) (hks : k.size ≤ maxLen) (hk : k ∈ (ents z).map (·.1)) :
    Calls Try.prog 41 #[ptr p, .string k, .int .i64 v] w fun e w' => e = .returned (.int .i64 0) ∧ Turned w w' B p b x G z k v := by
  have hc := hT.top.seed
  have HO : ∀ w, Calls Try.prog 38 #[.int .u64 x, .string k] w fun e w' => e = .returned (.int .u64 (hsh x k : Nat)) ∧ w' = w := fun w => Of_any x k w hks hT.seed
  have HF := fun w hT => find_any B p b x G z k w hT
  have HT : Hid (Tab w B p b x G z) := hT
  have HM : Hid (k ∈ (ents z).map (·.1)) := hk
  have hG := hT.inv.grp.le
  generalize hsh x k = h at HO HF
  clear hT hk hks
  go_enter Try.func41, Try.ntmps41
  go_wp2_with fail
  refine (HO _).mono ?_
  rintro e w ⟨rfl, rfl⟩
  go_wp2_with fail
  refine (HF _ HT.out).mono ?_
  rintro e w1 ⟨hb, hF⟩
  have HT1 : Hid (Tab w1 B p b x G z) := HT.out.keep hb
  have HB1 : Hid (Below w.heap.size w w1) := hb
  rcases hF with ⟨g, i, hg, hi, h1, h2, rfl⟩ | ⟨h1, rfl⟩
  · have hgz : (g : Int) < G := by omega
    have hiz : (i : Int) < 8 := by omega
    have hc1 := HT1.out.top.groups
    have hv1 := HT1.out.row.vl hg hi
    have hf1 := HT1.out.row.frozen (g * 17 + 1 + i * 2 + 1)
    have HR : Hid (Turned w (w1.setCell ⟨b, g * 17 + 1 + i * 2 + 1, none⟩ (.int .i64 v)) B p b x G z k v) := by
      refine ⟨(Moves.of_below HB1.out p b).trans (Moves.set (.inr rfl)) (.inl rfl), ?_⟩
      obtain ⟨hI, a, c, ha, hc⟩ := HT1.out.inv.turn hg hi h1 v
      have hne := HT1.out.top.ne HT1.out.row
      refine ⟨_, ⟨HT1.out.top.kept (Below.heap_setCell _ _ _ _ (by simpa using hne)), HT1.out.row.setVal HT1.out.inv.len hg hi v, HT1.out.low, HT1.out.lowb, hI, HT1.out.seed, ?_⟩, a, c, (cel z (8 * g + i)).2.2, ?_, ?_⟩
      · intro e he
        rw [hc] at he
        have hs := HT1.out.siz
        rw [ha] at hs
        rcases List.mem_append.1 he with he | he
        · exact hs e (List.mem_append.2 (.inl he))
        · rcases List.mem_cons.1 he with rfl | he
          · exact hs (cel z (8 * g + i)).2 (by simp)
          · exact hs e (List.mem_append.2 (.inr (List.mem_cons_of_mem _ he)))
      · rw [ha, ← h2]
      · rw [hc, h2]
    generalize (cel z (8 * g + i)).2.2 = v0 at hv1
    clear h1 h2 hb hc HO HF
    go_wp2
    go_ret
    exact ⟨rfl, HR.out⟩
  · exact absurd HM.out h1
end Go.Proofs.Ytejnmikbbnckeaa
