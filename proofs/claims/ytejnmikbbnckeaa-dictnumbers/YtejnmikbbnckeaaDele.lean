/-
  Delete.
-/
import Derived.Test.YtejnmikbbnckeaaPut
namespace Go.Proofs.Ytejnmikbbnckeaa
open Go.RowKit Go.PlainAid

theorem Delete_no (B p b x G : Nat) (z : List Cl) (k : ByteArray) (w : World) (hT : Tab w B p b x G z) (hks : k.size ≤ maxLen) (hk : k ∉ (ents z).map (·.1)) :
    Calls Try.prog 75 #[ptr p, .string k] w fun e w' => e = .returned (.bool false) ∧ Below w.heap.size w w' := by
  have hc := hT.top.seed
  have HO : ∀ w, Calls Try.prog 38 #[.int .u64 x, .string k] w fun e w' => e = .returned (.int .u64 (hsh x k : Nat)) ∧ w' = w := fun w => Of_any x k w hks hT.seed
  have HF := fun w hT => find_any B p b x G z k w hT
  have HT : Hid (Tab w B p b x G z) := hT
  have HM : Hid (k ∉ (ents z).map (·.1)) := hk
  generalize hsh x k = h at HO HF
  clear hT hk hks
  go_enter Try.func75, Try.ntmps75
  go_wp2_with fail
  refine (HO _).mono ?_
  rintro e w ⟨rfl, rfl⟩
  go_wp2_with fail
  refine (HF _ HT.out).mono ?_
  rintro e w1 ⟨hb, hF⟩
  have HB1 : Hid (Below w.heap.size w w1) := hb
  rcases hF with ⟨g, i, hg, hi, h1, h2, rfl⟩ | ⟨h1, rfl⟩
  · exact absurd (List.mem_map.2 ⟨_, mem_ents.2 ⟨8 * g + i, by rw [HT.out.inv.len]; omega, h1, rfl⟩, h2⟩) HM.out
  · clear h1 hb hc HO HF
    go_wp2
    go_ret
    exact ⟨rfl, HB1.out⟩

/-- A table with one key less. -/
def Less (w w' : World) (B p b x G : Nat) (z : List Cl) (k : ByteArray) : Prop :=
  Moves w w' p b ∧ ∃ z', Tab w' B p b x G z' ∧ ∃ u, (ents z).Perm ((k, u) :: ents z')

set_option maxRecDepth 100000 in
set_option maxHeartbeats 4000000 in
theorem Delete_yes (B p b x G : Nat) (z : List Cl) (k : ByteArray) (w : World) (hT : Tab w B p b x G z) (hks : k.size ≤ maxLen) (hk : k ∈ (ents z).map (·.1)) :
    Calls Try.prog 75 #[ptr p, .string k] w fun e w' => e = .returned (.bool true) ∧ Less w w' B p b x G z k := by
  have hc := hT.top.seed
  have HO : ∀ w, Calls Try.prog 38 #[.int .u64 x, .string k] w fun e w' => e = .returned (.int .u64 (hsh x k : Nat)) ∧ w' = w := fun w => Of_any x k w hks hT.seed
  have HF := fun w hT => find_any B p b x G z k w hT
  have HT : Hid (Tab w B p b x G z) := hT
  have HM : Hid (k ∈ (ents z).map (·.1)) := hk
  have hG := hT.inv.grp.le
  generalize hsh x k = h at HO HF
  clear hT hk hks
  go_enter Try.func75, Try.ntmps75
  go_wp2_with fail
  refine (HO _).mono ?_
  rintro e w ⟨rfl, rfl⟩
  go_wp2_with fail
  refine (HF _ HT.out).mono ?_
  rintro e w1 ⟨hb, hF⟩
  have HT1 : Hid (Tab w1 B p b x G z) := HT.out.keep hb
  have HB1 : Hid (Below w.heap.size w w1) := hb
  rcases hF with ⟨g, i, hg, hi, h1, h2, rfl⟩ | ⟨h1, rfl⟩
  · have hgz : (g : Int) < G := by omega
    have hiz : (i : Int) < 8 := by omega
    have hc1 := HT1.out.top.groups
    have hw1 := HT1.out.row.word hg
    have HE := fun w => HasEmpty_any (HT1.out.inv.ok hg) w
    have HSet := fun w => Set_in (HT1.out.inv.ok hg) i (mrk z g) hi (mrk_lt z g) w
    have HMK : Hid (mrk z g = if some? (has (wrd z g) 128) 8 = true then 128 else 254) := rfl
    have HFul : Hid ((cel z (8 * g + i)).1 < 128) := h1
    have HKK : Hid ((cel z (8 * g + i)).2.1 = k) := h2
    have HWD : Hid (∀ w', Below w1.heap.size w1 w' → w'.cell? ⟨p, 1, none⟩ = some (.slice (some ⟨b, 0, none⟩) G G) ∧ w'.cell? ⟨b, g * 17, none⟩ = some (.int .u64 (val (wrd z g) : Nat)) ∧ w'.frozen? ⟨b, g * 17, none⟩ = false) :=
      fun w' hb => ⟨(HT1.out.keep hb).top.groups, (HT1.out.keep hb).row.word hg, (HT1.out.keep hb).row.frozen _⟩
    generalize some? (has (wrd z g) 128) 8 = hem at HE HMK
    obtain ⟨wv, ewv⟩ : ∃ wv, val (wrd z g) = wv := ⟨_, rfl⟩
    rw [ewv] at HE HSet HWD hw1
    obtain ⟨wn, ewn⟩ : ∃ wn, val ((wrd z g).set i (mrk z g)) = wn := ⟨_, rfl⟩
    have HWN : Hid (val ((wrd z g).set i (mrk z g)) = wn) := ewn
    rw [ewn] at HSet
    obtain ⟨mk, emk⟩ : ∃ mk, mrk z g = mk := ⟨_, rfl⟩
    have HEM : Hid (mrk z g = mk) := emk
    rw [emk] at HSet HMK
    clear h1 h2 hb hc HO HF ewv ewn emk
    go_upto_if 34 with (refine (HE _).mono ?_; rintro e w1 ⟨rfl, rfl⟩)
    go_cut [9] from 35 to 35 (fun v wx => v = .int .u8 (mk : Nat) ∧ wx = w1)
    case first =>
      have := HMK.out
      cases hem
      · go_wp2
        go_meet
        exact ⟨by rw [this]; rfl, rfl⟩
      · go_wp2
        go_meet
        exact ⟨by rw [this]; rfl, rfl⟩
    case rest =>
    obtain ⟨rfl, rfl⟩ := hcut
    have HAft : Hid (∀ w', Below wc.heap.size wc w' → Top (w'.setCell ⟨b, g * 17, none⟩ (.int .u64 (wn : Nat))) p b x G ∧ Row (w'.setCell ⟨b, g * 17, none⟩ (.int .u64 (wn : Nat))) b G (z.set (8 * g + i) (mk, (cel z (8 * g + i)).2)) ∧ Moves w (w'.setCell ⟨b, g * 17, none⟩ (.int .u64 (wn : Nat))) p b) := by
      intro w' hb
      have hT' := HT1.out.keep hb
      have hne := hT'.top.ne hT'.row
      have hR' := hT'.row.byte HT.out.inv.len hg hi mk
      rw [← HEM.out, HWN.out, HEM.out] at hR'
      exact ⟨hT'.top.kept (Below.heap_setCell _ _ _ _ (by simpa using hne)), hR', ((Moves.of_below HB1.out p b).trans (Moves.of_below hb p b) (.inl rfl)).trans (Moves.set (.inr rfl)) (.inl rfl)⟩
    have HCm : Hid (∀ w', Below wc.heap.size wc w' → w'.cell? ⟨p, 1, none⟩ = some (.slice (some ⟨b, 0, none⟩) G G)) := fun w' hb => (HWD.out w' hb).1
    have HD : Hid (Below wc.heap.size wc wc.drew) := below_drewN wc 1
    clear HE HMK
    go_upto_region 8 with fail
    go_region_held3 (fun w' => w'.cell? ⟨p, 1, none⟩ = some (.slice (some ⟨b, 0, none⟩) G G)) (first | exact HCm.out _ HD.out | exact (HAft.out _ HD.out).1.groups) (first
      | (go_at_call 91; refine (HSet _).mono ?_; rintro e wx ⟨rfl, hb⟩; replace HD := step_below HD hb; obtain ⟨hc3, hw3, hf3⟩ := HWD.out wx HD.out; clear hb))
    obtain ⟨w3, hw3'⟩ : ∃ w3, wx.setCell ⟨b, g * 17, none⟩ (.int .u64 (wn : Nat)) = w3 := ⟨_, rfl⟩
    have HA3 := HAft.out _ HD.out
    rw [hw3'] at HA3 ⊢
    obtain ⟨hT3, hR3, hM3⟩ := HA3
    have HT3 : Hid (Top w3 p b x G) := hT3
    have HM3 : Hid (Moves w w3 p b) := hM3
    obtain ⟨zz, hzz⟩ : ∃ zz, z.set (8 * g + i) (mk, (cel z (8 * g + i)).2) = zz := ⟨_, rfl⟩
    rw [hzz] at hR3
    have HR3 : Hid (Row w3 b G zz) := hR3
    have hc3 := HT3.out.groups
    have hk3 := HR3.out.key hg hi
    have hv3 := HR3.out.vl hg hi
    have hfk := HR3.out.frozen (g * 17 + 1 + i * 2)
    have hfv := HR3.out.frozen (g * 17 + 1 + i * 2 + 1)
    generalize (cel zz (8 * g + i)).2.1 = k0 at hk3
    generalize (cel zz (8 * g + i)).2.2 = v0 at hv3
    have HEnd : Hid (Less w ((w3.setCell ⟨b, g * 17 + 1 + i * 2, none⟩ (.string ⟨#[]⟩)).setCell ⟨b, g * 17 + 1 + i * 2 + 1, none⟩ (.int .i64 0)) B p b x G z k) := by
      refine ⟨(HM3.out.trans (Moves.set (o := g * 17 + 1 + i * 2) (v := .string ⟨#[]⟩) (.inr rfl)) (.inl rfl)).trans (Moves.set (o := g * 17 + 1 + i * 2 + 1) (v := .int .i64 0) (.inr rfl)) (.inl rfl), z.set (8 * g + i) (mk, ⟨#[]⟩, 0), ?_, (cel z (8 * g + i)).2.2, ?_⟩
      · have hl : zz.length = 8 * G := by rw [← hzz, List.length_set]; exact HT.out.inv.len
        have hne := HT3.out.ne HR3.out
        have hR4 := HR3.out.slot hl hg hi ⟨#[]⟩ 0
        rw [← hzz, cel_set z (by rw [HT.out.inv.len]; omega), List.set_set] at hR4
        have hI := HT.out.inv.take hg hi HFul.out (⟨#[]⟩, 0)
        rw [HEM.out] at hI
        refine ⟨HT3.out.kept ?_, hR4, HT.out.low, HT.out.lowb, hI.1, HT.out.seed, fun e he => HT.out.siz e (hI.2.mem_iff.2 (List.mem_cons_of_mem _ he))⟩
        rw [Below.heap_setCell _ _ _ _ (by simpa using hne), Below.heap_setCell _ _ _ _ (by simpa using hne)]
      · have hI := HT.out.inv.take hg hi HFul.out (⟨#[]⟩, 0)
        rw [HEM.out] at hI
        rw [← HKK.out]
        exact hI.2
    clear hT3 hR3 hM3 hw3' hzz HAft HCm HWD HSet HD
    go_wp2
    go_ret
    exact ⟨rfl, HEnd.out⟩
  · exact absurd HM.out h1
end Go.Proofs.Ytejnmikbbnckeaa
