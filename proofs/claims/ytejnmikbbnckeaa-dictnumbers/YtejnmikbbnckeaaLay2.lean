/-
  lay: a key that is not there, into the slot that is spare for it.
-/
import Derived.Test.YtejnmikbbnckeaaLay
namespace Go.Proofs.Ytejnmikbbnckeaa
open Go.RowKit Go.PlainAid

/-- A slot in a block of its own. -/
def Box (w : World) (q : Nat) (k : ByteArray) (v : Int) : Prop := w.heap[q]? = some (.cells #[.string k, .int .i64 v] 92 (0, 0))
theorem Box.lt {w : World} {q : Nat} {k : ByteArray} {v : Int} (h : Box w q k v) : q < w.heap.size := (Array.getElem?_eq_some_iff.1 h).1
theorem Box.kept {w wn : World} {q : Nat} {k : ByteArray} {v : Int} (h : Box w q k v) (hb : wn.heap[q]? = w.heap[q]?) : Box wn q k v := by unfold Box; rw [hb]; exact h
theorem Box.keep {w wn : World} {q : Nat} {k : ByteArray} {v : Int} (h : Box w q k v) (hb : Below w.heap.size w wn) : Box wn q k v := h.kept (hb.block q h.lt)
theorem Box.key {w : World} {q : Nat} {k : ByteArray} {v : Int} (h : Box w q k v) : w.cell? ⟨q, 0, none⟩ = some (.string k) := by unfold Box at h; simp [World.cell?, h]
theorem Box.vl {w : World} {q : Nat} {k : ByteArray} {v : Int} (h : Box w q k v) : w.cell? ⟨q, 1, none⟩ = some (.int .i64 v) := by unfold Box at h; simp [World.cell?, h]
theorem Box.made (w : World) (k : ByteArray) (v : Int) : Box (w.alloc (.cells #[.string k, .int .i64 v] 92)) w.heap.size k v := heap_alloc_new w _
theorem Box.ne {w : World} {q b G : Nat} {z : List Cl} {k : ByteArray} {v : Int} (h : Box w q k v) (h' : Row w b G z) : q ≠ b := by
  rintro rfl
  obtain ⟨cs, h1, -⟩ := h'.ex
  unfold Box at h
  rw [h1] at h
  simp at h
theorem Box.ne' {w : World} {q p b x G : Nat} {k : ByteArray} {v : Int} (h : Box w q k v) (h' : Top w p b x G) : q ≠ p := by
  rintro rfl
  have := h'.blk
  unfold Box at h
  rw [h] at this
  simp at this
theorem Box.moves {w w' : World} {B q p b x G : Nat} {z : List Cl} {k : ByteArray} {v : Int} (h : Box w q k v) (hm : Moves w w' p b) (hT : Tab w B p b x G z) : Box w' q k v := h.kept (hm.block q h.lt (h.ne' hT.top) (h.ne hT.row))
theorem heap_drewN (w : World) : ∀ n, (w.drewN n).heap = w.heap
  | 0 => rfl
  | n + 1 => heap_drewN w n

/-- Behind the store of the word: the table's parts, and the slot that is to be laid. -/
structure After (w wx : World) (p b x G : Nat) (z : List Cl) (q : Nat) (k : ByteArray) (v : Int) : Prop where
  top : Top wx p b x G
  row : Row wx b G z
  mov : Moves w wx p b
  box : Box wx q k v

set_option maxRecDepth 100000 in
set_option maxHeartbeats 4000000 in
theorem lay_any (B p b x G : Nat) (z : List Cl) (k : ByteArray) (v : Int) (w : World) (hT : Tab w B p b x G z) (hks : k.size ≤ maxLen) (hk : k ∉ (ents z).map (·.1))
    (hr : (ents z).length + dels z < 7 * G ∨ ∃ g i, Spr z G (hsh x k) g i ∧ (cel z (8 * g + i)).1 = 254) :
    Calls Try.prog 88 #[ptr p, .int .u64 (hsh x k : Nat), .agg #[.string k, .int .i64 v]] w fun e w' => e = .returned (.tuple #[]) ∧ Moves w w' p b ∧ ∃ z', Tab w' B p b x G z' ∧ (ents z').Perm (ents z ++ [(k, v)]) ∧ dels z' ≤ dels z := by
  have hh := hsh_lt x k
  have HT : Hid (Tab w B p b x G z) := hT
  have HKS : Hid (k.size ≤ maxLen) := hks
  have HKN : Hid (k ∉ (ents z).map (·.1)) := hk
  have HR : Hid ((ents z).length + dels z < 7 * G ∨ ∃ g i, Spr z G (hsh x k) g i ∧ (cel z (8 * g + i)).1 = 254) := hr
  have hG := hT.inv.grp.le
  have HS := fun w hT => spare_any B p b x G (hsh x k) z w hT hh
  have H7 := fun w => Seven_nat (hsh x k) w hh
  have HSV : Hid (sev (hsh x k) < 128) := sev_lt x k
  obtain ⟨h, eh⟩ : ∃ h, hsh x k = h := ⟨_, rfl⟩
  have HEh : Hid (hsh x k = h) := eh
  rw [eh] at HS H7 hh HR HSV ⊢
  clear hT hk hr eh hks
  obtain ⟨w1, hw1⟩ : ∃ w1, w.alloc (.cells #[.string k, .int .i64 v] 92) = w1 := ⟨_, rfl⟩
  have HB1 : Hid (Below w.heap.size w w1) := by show Below _ _ _; rw [← hw1]; exact alloc_below w _
  obtain ⟨q, hq⟩ : ∃ q, w.heap.size = q := ⟨_, rfl⟩
  have HQ : Hid (w.heap.size = q) := hq
  have HX1 : Hid (Box w1 q k v) := by show Box _ _ _ _; rw [← hw1, ← hq]; exact Box.made w k v
  have HT1 : Hid (Tab w1 B p b x G z) := HT.out.keep HB1.out
  go_enter Try.func88, Try.ntmps88
  go_wp2_with fail
  refine (HS _ HT1.out).mono ?_
  rintro e w2 ⟨hb2, g, i, rfl, hsp⟩
  have HB2 := step_below HB1 hb2
  have HT2 : Hid (Tab w2 B p b x G z) := HT1.out.keep hb2
  have HX2 : Hid (Box w2 q k v) := HX1.out.keep hb2
  have HSP : Hid (Spr z G h g i) := hsp
  obtain ⟨j, hj, hjg, hi8, hfr, hfi, hno⟩ := hsp
  have HF : Hid (128 ≤ (cel z (8 * g + i)).1) := hfr
  have hgG : g < G := by rw [← hjg]; exact gAt_lt HT.out.inv.grp.pos h j
  have hgz : (g : Int) < G := by omega
  have hiz : (i : Int) < 8 := by omega
  have HSet := fun w => Set_in (HT.out.inv.ok hgG) i (sev h) hi8 (by have := HSV.out; omega) w
  have HWD : Hid (∀ w', Below w2.heap.size w2 w' → w'.cell? ⟨p, 1, none⟩ = some (.slice (some ⟨b, 0, none⟩) G G) ∧ w'.cell? ⟨b, g * 17, none⟩ = some (.int .u64 (val (wrd z g) : Nat)) ∧ w'.frozen? ⟨b, g * 17, none⟩ = false) :=
    fun w' hb => ⟨(HT2.out.keep hb).top.groups, (HT2.out.keep hb).row.word hgG, (HT2.out.keep hb).row.frozen _⟩
  obtain ⟨wv, ewv⟩ : ∃ wv, val (wrd z g) = wv := ⟨_, rfl⟩
  rw [ewv] at HSet HWD
  obtain ⟨wn, ewn⟩ : ∃ wn, val ((wrd z g).set i (sev h)) = wn := ⟨_, rfl⟩
  have HWN : Hid (val ((wrd z g).set i (sev h)) = wn) := ewn
  rw [ewn] at HSet
  obtain ⟨sv, esv⟩ : ∃ sv, sev h = sv := ⟨_, rfl⟩
  have HSE : Hid (sev h = sv) := esv
  rw [esv] at H7 HSet
  have HD : Hid (Below w2.heap.size w2 w2.drew) := below_drewN w2 1
  clear hb2 hj hjg hfr hfi hno ewv ewn esv hw1 hq
  obtain ⟨hc2, hw2, hf2⟩ := HWD.out w2 (Below.refl _ _)
  have HAft : Hid (∀ w', Below w2.heap.size w2 w' → After w2 (w'.setCell ⟨b, g * 17, none⟩ (.int .u64 (wn : Nat))) p b x G (z.set (8 * g + i) (sv, (cel z (8 * g + i)).2)) q k v) := by
    intro w' hb
    have hT' := HT2.out.keep hb
    have hne := hT'.top.ne hT'.row
    have hR' := hT'.row.byte HT.out.inv.len hgG hi8 sv
    rw [← HSE.out, HWN.out, HSE.out] at hR'
    have hB' := HX2.out.keep hb
    exact ⟨hT'.top.kept (Below.heap_setCell _ _ _ _ (by simpa using hne)), hR', Moves.trans (Moves.of_below hb p b) (Moves.set (.inr rfl)) (.inl rfl), hB'.kept (Below.heap_setCell _ _ _ _ (by simpa using hB'.ne hT'.row))⟩
  have HIN : Hid (Inv x G (z.set (8 * g + i) (sv, k, v)) ∧ (ents (z.set (8 * g + i) (sv, k, v))).Perm (ents z ++ [(k, v)]) ∧ dels (z.set (8 * g + i) (sv, k, v)) ≤ dels z) := by
    obtain ⟨j, hj, hjg, hi8, hfr, hfi, hno⟩ := HSP.out
    have := HT.out.inv.lay v HKN.out (j := j) (i := i) hj hi8 (by rw [HEh.out, hjg]; exact hfr) (by rw [HEh.out]; exact hno) (by
      rw [HEh.out, hjg]
      rcases HR.out with h1 | ⟨g', i', h1, h2⟩
      · exact .inr h1
      · obtain ⟨rfl, rfl⟩ := HSP.out.one h1
        exact .inl h2)
    rw [HEh.out, hjg, HSE.out] at this
    exact this
  have HLEN : Hid (z.length = 8 * G) := HT.out.inv.len
  have HLO : Hid (B ≤ p ∧ B ≤ b ∧ x < 18446744073709551616 ∧ ∀ e ∈ ents (z.set (8 * g + i) (sv, k, v)), e.1.size ≤ maxLen) := by
    refine ⟨HT.out.low, HT.out.lowb, HT.out.seed, fun e he => ?_⟩
    rcases List.mem_append.1 (HIN.out.2.1.mem_iff.1 he) with he | he
    · exact HT.out.siz e he
    · rw [List.mem_singleton.1 he]; exact HKS.out
  clear HKS HS HX1 HB1 HT1 HSP HF HKN HR HEh HT HSV
  go_upto_region 2 with fail
  go_cut [] from 14 to 32 (fun wx => Hid (After w2 wx p b x G (z.set (8 * g + i) (sv, (cel z (8 * g + i)).2)) q k v))
  case first =>
    go_region_with (first
      | (go_at_call 80; refine (H7 _).mono ?_; rintro e wx ⟨rfl, rfl⟩)
      | (go_at_call 91; refine (HSet _).mono ?_; rintro e wx ⟨rfl, hb⟩; replace HD := step_below HD hb; obtain ⟨hc3, hw3, hf3⟩ := HWD.out wx HD.out; clear hb))
    all_goals (go_wp2; go_meet; exact HAft.out _ HD.out)
  case rest =>
  clear H7 HSet HWD hc2 hw2 hf2 HAft HD HX2 HT2
  obtain ⟨zz, hzz⟩ : ∃ zz, z.set (8 * g + i) (sv, (cel z (8 * g + i)).2) = zz := ⟨_, rfl⟩
  rw [hzz] at hcut
  have HC : Hid (After w2 wc p b x G zz q k v) := hcut
  have HRow : Hid (∀ n, Row (((wc.setCell ⟨b, g * 17 + 1 + i * 2, none⟩ (.string k)).setCell ⟨b, g * 17 + 1 + i * 2 + 1, none⟩ (.int .i64 v)).drewN n) b G (z.set (8 * g + i) (sv, k, v))) := by
    intro n
    have hl : zz.length = 8 * G := by rw [← hzz, List.length_set]; exact HLEN.out
    have := HC.out.row.slot hl hgG hi8 k v
    rw [← hzz, cel_set z (by rw [HLEN.out]; omega), List.set_set] at this
    exact this.kept (by rw [heap_drewN])
  have HTop : Hid (∀ n, Top (((wc.setCell ⟨b, g * 17 + 1 + i * 2, none⟩ (.string k)).setCell ⟨b, g * 17 + 1 + i * 2 + 1, none⟩ (.int .i64 v)).drewN n) p b x G) := by
    intro n
    have hne := HC.out.top.ne HC.out.row
    refine HC.out.top.kept ?_
    rw [heap_drewN, Below.heap_setCell _ _ _ _ (by simpa using hne), Below.heap_setCell _ _ _ _ (by simpa using hne)]
  have HMov : Hid (∀ n, Moves w (((wc.setCell ⟨b, g * 17 + 1 + i * 2, none⟩ (.string k)).setCell ⟨b, g * 17 + 1 + i * 2 + 1, none⟩ (.int .i64 v)).drewN n) p b) := by
    intro n
    have h1 : Moves w wc p b := (Moves.of_below HB2.out p b).trans HC.out.mov (.inl rfl)
    have h2 : Moves w _ p b := (h1.trans (Moves.set (o := g * 17 + 1 + i * 2) (v := .string k) (.inr rfl)) (.inl rfl)).trans (Moves.set (o := g * 17 + 1 + i * 2 + 1) (v := .int .i64 v) (.inr rfl)) (.inl rfl)
    exact h2.trans (Moves.of_below (below_drewN _ n) p b) (.inl rfl)
  have hc := HC.out.top.groups
  have hk := HC.out.box.key
  have hv := HC.out.box.vl
  have hck := HC.out.row.key hgG hi8
  have hcv := HC.out.row.vl hgG hi8
  have hfk := HC.out.row.frozen (g * 17 + 1 + i * 2)
  have hfv := HC.out.row.frozen (g * 17 + 1 + i * 2 + 1)
  generalize (cel zz (8 * g + i)).2.1 = k0 at hck
  generalize (cel zz (8 * g + i)).2.2 = v0 at hcv
  clear hcut hzz
  go_wp2
  go_region
  all_goals (go_end0; exact ⟨rfl, HMov.out 1, _, ⟨HTop.out 1, HRow.out 1, HLO.out.1, HLO.out.2.1, HIN.out.1, HLO.out.2.2.1, HLO.out.2.2.2⟩, HIN.out.2⟩)
end Go.Proofs.Ytejnmikbbnckeaa
