/- Texts that the others stand on. -/
import Derived.Test.YtmjeljldmmkcpabGreatG21
namespace Go.Proofs.YtmjeljldmmkcpabGreat.Sq
open Go.RowKit Go.PlainAid
open Dk (ptr below_drewN alloc_below step_below add_flat OwnR OwnP OwnS Mv pcells Elt elt_of)
/-- These keys are there, each once. -/
structure Dom (A : Ab) (ks : List ByteArray) : Prop where
  nod : ks.Nodup
  iff : ∀ k, k ∈ ks ↔ (A k).isSome = true
theorem Dom.perm {A : Ab} {ks js : List ByteArray} (h : Dom A ks) (hp : ks.Perm js) : Dom A js := ⟨hp.nodup_iff.1 h.nod, fun k => by rw [← hp.mem_iff]; exact h.iff k⟩
theorem nodup_perm {ks js : List ByteArray} (h : ks.Nodup) (h' : js.Nodup) (hm : ∀ k, k ∈ ks ↔ k ∈ js) : ks.Perm js := (List.perm_ext_iff_of_nodup h h').2 hm
theorem Dom.same {A : Ab} {ks js : List ByteArray} (h : Dom A ks) (h' : Dom A js) : ks.Perm js := nodup_perm h.nod h'.nod fun k => by rw [h.iff, h'.iff]
theorem Sx.dom {w : World} {B s x : Nat} {NM : List ByteArray} {L : List Nat} {I : Nat → Itm} {Q : List Nat} {V : ByteArray → Int} {S : Sd} {P : Nat → Int} {D : Dk.Dg} {D2 : Zs.Dk.Dg} (H : Sx w B s x NM L I Q V S P D D2) {A : Ab} (hR : Rep L I Q A) : Dom A (L.map fun p => (I p).k) := by
  refine ⟨H.nodk, fun k => ⟨fun h => ?_, fun h => ?_⟩⟩
  · obtain ⟨p, hp, rfl⟩ := List.mem_map.1 h
    rw [hR.yes p hp]; rfl
  · obtain ⟨y, hy⟩ := Option.isSome_iff_exists.1 h
    obtain ⟨p, hp, e⟩ := hR.no k y hy
    exact List.mem_map.2 ⟨p, hp, e⟩
theorem Sx.domK {w : World} {B s x : Nat} {NM : List ByteArray} {L : List Nat} {I : Nat → Itm} {Q : List Nat} {V : ByteArray → Int} {S : Sd} {P : Nat → Int} {D : Dk.Dg} {D2 : Zs.Dk.Dg} (H : Sx w B s x NM L I Q V S P D D2) {A : Ab} (hR : Rep L I Q A) : Dom A (Dk.keysOf D.es) := by
  have h1 := H.kp.map (·.1)
  have h2 := H.dom hR
  have e : (kents L I).map (·.1) = L.map fun p => (I p).k := keys_kents L I
  rw [e] at h1
  exact h2.perm h1.symm
/-- A number came back: how many keys are there. -/
def LenR (e : Ending) (A : Ab) : Prop := ∃ ks, Dom A ks ∧ e = .returned (.int .i64 (ks.length : Nat))
theorem Len_any (w : World) (B s x : Nat) (NM : List ByteArray) (A : Ab) (V : ByteArray → Int) (hS : Spc w B s x NM A V) (hv : Low V) (t : Int) :
    Calls Tryz.prog 18 #[ptr s, .int .i64 t] w fun e w' => DueTo w w' B s x NM A V t ∧ LenR e (dueA A t) := by
  have HT := takeDue_any w B s x NM A V hS hv t
  go_enter Tryz.func18, Tryz.ntmps18
  go_wp2_with fail
  refine HT.mono ?_
  rintro e w1 ⟨rfl, hm, L, I, Q, ⟨S, P, D, D2, hX⟩, hR⟩
  have HE : Hid (DueTo w w1 B s x NM A V t) := ⟨hm, L, I, Q, ⟨S, P, D, D2, hX⟩, hR⟩
  have HD : Hid (Dom (dueA A t) (Dk.keysOf D.es)) := hX.domK hR
  have HL := Dk.Len_dict B S.d x D w1 hX.kd
  have c3 := hX.cd
  have hl : D.es.length = (Dk.keysOf D.es).length := (List.length_map ..).symm
  rw [hl] at HL
  generalize Dk.keysOf D.es = ks at HL HD
  clear hX hR hl hm HT
  go_wp2_with fail
  refine HL.mono ?_
  rintro e w1 ⟨rfl, rfl⟩
  have HF : Hid (LenR (.returned (.int .i64 (ks.length : Nat))) (dueA A t)) := ⟨ks, HD.out, rfl⟩
  generalize ks.length = n at HF ⊢
  go_wp2
  go_ret
  exact ⟨HE.out, HF.out⟩
/-- A value that is a text. -/
structure Vt (w : World) (v : Nat) (t : ByteArray) : Prop where
  blk : w.heap[v]? = some (.cells #[.int .i64 1, .string t, .pointer none, .pointer none, .pointer none] 36 (0, 0))
theorem Vt.lt {w : World} {v : Nat} {t : ByteArray} (h : Vt w v t) : v < w.heap.size := (Array.getElem?_eq_some_iff.1 h.blk).1
theorem Vt.keep {w w' : World} {v : Nat} {t : ByteArray} (h : Vt w v t) (hb : Below w.heap.size w w') : Vt w' v t := ⟨by rw [hb.block v h.lt]; exact h.blk⟩
theorem Vt.mb {w w' : World} {B v : Nat} {t : ByteArray} (h : Vt w v t) (hb : Mb stag B w w') : Vt w' v t := ⟨by rw [hb.mv.block v _ _ h.blk (by decide)]; exact h.blk⟩
theorem Vt.ck {w : World} {v : Nat} {t : ByteArray} (h : Vt w v t) : w.cell? ⟨v, 0, none⟩ = some (.int .i64 1) := by simp [World.cell?, h.blk]
theorem OfText_t (s : ByteArray) (w : World) : Calls Tryz.prog 22 #[.string s] w fun e w' => Below w.heap.size w w' ∧ ∃ v, e = .returned (ptr v) ∧ Vt w' v s := by
  obtain ⟨wn, hwn⟩ : ∃ wn, w.alloc (.cells #[.int .i64 1, .string s, .pointer none, .pointer none, .pointer none] 36) = wn := ⟨_, rfl⟩
  have HB : Hid (Below w.heap.size w wn ∧ Vt wn w.heap.size s) := by rw [← hwn]; exact ⟨alloc_below w _, ⟨heap_alloc_new w _⟩⟩
  go_enter Tryz.func22, Tryz.ntmps22
  go_wp2
  go_ret
  exact ⟨HB.out.1, _, rfl, HB.out.2⟩
theorem kind_t (w : World) (v : Nat) (t : ByteArray) (h : Vt w v t) : Calls Tryz.prog 41 #[ptr v] w fun e w' => e = .returned (.int .i64 1) ∧ w' = w := by
  have h1 := h.ck
  clear h
  go_enter Tryz.func41, Tryz.ntmps41
  go_wp2
  go_ret
  exact ⟨rfl, rfl⟩
theorem Empty_t (w : World) (v : Nat) (t : ByteArray) (h : Vt w v t) : Calls Tryz.prog 29 #[ptr v] w fun e w' => e = .returned (.bool false) ∧ Below w.heap.size w w' := by
  have HK := kind_t w v t h
  clear h
  go_enter Tryz.func29, Tryz.ntmps29
  go_wp2_with fail
  refine HK.mono ?_
  rintro e w ⟨rfl, rfl⟩
  go_wp2
  go_ret
  exact ⟨rfl, Below.refl _ _⟩
/-- No number is greater than this. -/
def Vle (V : ByteArray → Int) (b : Int) : Prop := ∀ k, 0 ≤ V k ∧ V k ≤ b
theorem Vle.low {V : ByteArray → Int} {b : Int} (h : Vle V b) (hb : b ≤ 1000000) : Low V := fun k => by have := h k; omega
theorem Vle.zero : Vle (fun _ => 0) 0 := fun _ => ⟨Int.le_refl _, Int.le_refl _⟩
theorem Vle.inc {V : ByteArray → Int} {b : Int} (h : Vle V b) (k : ByteArray) : Vle (incV V k) (b + 1) := fun j => by have := h j; have := incV_le V k j; omega
theorem Vle.chg {α : Type} {V : ByteArray → Int} {b : Int} (h : Vle V b) (A : AbV α) (k : ByteArray) : Vle (chgV A V k) (b + 1) := by
  unfold chgV
  split
  · exact h.inc k
  · exact fun j => by have := h j; omega
theorem Vle.due {α : Type} {V : ByteArray → Int} {b : Int} (h : Vle V b) (A : AbV α) (t : Int) : Vle (dueV A V t) (b + 1) := fun j => by have := h j; have := dueV_le A V t j; omega
theorem Vle.mono {V : ByteArray → Int} {b c : Int} (h : Vle V b) (hb : b ≤ c) : Vle V c := fun j => by have := h j; omega
/-- Nothing is there; one key alone. -/
abbrev none' : Ab := fun _ => none
def one (k : ByteArray) (y : Option Addr × Option Int) : Ab := setA none' k (some y)
theorem none_still (t : Int) : Still none' t := fun k v e h => by cases h
theorem none_due (t : Int) : dueA none' t = none' := (none_still t).due
theorem one_at (k : ByteArray) (y : Option Addr × Option Int) : one k y k = some y := setA_at _ _ _
theorem one_set (k : ByteArray) (y : Option Addr × Option Int) (z : Option (Option Addr × Option Int)) : setA (one k y) k z = setA none' k z := setA_twice _ _ _ _
theorem one_none (k : ByteArray) (v : Option Addr) (t : Int) : Still (one k (v, none)) t := fun j u e h => by
  unfold one setA at h
  split at h
  · cases h
  · cases h
theorem one_still {k : ByteArray} {v : Option Addr} {u t : Int} (h : t < u) : Still (one k (v, some u)) t := fun j v' e h' => by
  unfold one setA at h'
  split at h'
  · injection h' with h'
    injection h' with _ h'
    injection h' with h'
    omega
  · cases h'
theorem one_gone {k : ByteArray} {v : Option Addr} {u t : Int} (h : u ≤ t) : dueA (one k (v, some u)) t = none' := by
  funext j
  unfold dueA one setA
  by_cases e : j = k
  · simp [e, h]
  · simp [e]
theorem one_exp {k : ByteArray} {v : Option Addr} {q : Option Int} {u t : Int} (h : t < u) : expA (one k (v, q)) k u t = one k (v, some u) := by
  unfold expA
  rw [one_at]
  simp only [if_neg (Int.not_le.2 h)]
  exact one_set _ _ _
theorem none_dom : Dom none' [] := ⟨List.nodup_nil, fun j => by simp⟩
theorem LenR.of {e : Ending} {A : Ab} {ks : List ByteArray} (h : LenR e A) (hd : Dom A ks) : e = .returned (.int .i64 (ks.length : Nat)) := by
  obtain ⟨js, h1, rfl⟩ := h
  rw [(h1.same hd).length_eq]
theorem To.keepV {w w' : World} {B s x : Nat} {NM : List ByteArray} {A : Ab} {V : ByteArray → Int} {t : Int} (hs : Still A t) (h : DueTo w w' B s x NM A V t) : To w w' B s x NM A V := by
  have h1 : To w w' B s x NM (dueA A t) (dueV A V t) := h
  rw [hs.due, hs.dueV] at h1
  exact h1
theorem Spc.lt {w : World} {B s x : Nat} {NM : List ByteArray} {A : Ab} {V : ByteArray → Int} (h : Spc w B s x NM A V) : B ≤ w.heap.size := by
  obtain ⟨L, I, Q, ⟨S, P, D, D2, hX⟩, -⟩ := h
  have := hX.lt
  omega
theorem eqlS_nil (w : World) (l : Nat) : (binOp .eql 28 (ptr l) (.pointer none)).run Tryz.prog w = .ok (.bool false) w := by
  rw [run_eql_pointer_nil w 28 (some ⟨l, 0, none⟩) (by rw [Tryz.underlying28]; kernel_rfl)]; rfl
theorem eqlV_nil (w : World) (l : Nat) : (binOp .eql 30 (ptr l) (.pointer none)).run Tryz.prog w = .ok (.bool false) w := by
  rw [run_eql_pointer_nil w 30 (some ⟨l, 0, none⟩) (by rw [Tryz.underlying30]; kernel_rfl)]; rfl
theorem neqV_nil (w : World) (l : Nat) : (binOp .neq 30 (ptr l) (.pointer none)).run Tryz.prog w = .ok (.bool true) w := by
  rw [run_neq_pointer_nil w 30 (some ⟨l, 0, none⟩) (by rw [Tryz.underlying30]; kernel_rfl)]; rfl
/-- From B on alone. -/
theorem Mb.step {w w1 w2 : World} {p : TypeId → Bool} {B : Nat} (h : Hid (Below w.heap.size w w1)) (hm : Mb p B w1 w2) (hB : w.heap.size ≤ B) : Hid (Below w.heap.size w w2) := h.out.trans (hm.be.mono hB)
def kNM : List ByteArray := [⟨#[97]⟩, ⟨#[120]⟩, ⟨#[121]⟩]
theorem kNM_names : Names kNM := ⟨by decide, by decide⟩
set_option maxRecDepth 100000 in
theorem known_any (w : World) : Calls Tryz.prog 19 #[] w fun e w' => e = .returned (.bool true) ∧ Below w.heap.size w w' := by
  have HN := New_any w 1 0 0 (by decide)
  replace HN : Calls Tryz.prog 4 #[.agg #[.int .u64 1, .int .i64 0, .int .i64 0]] w fun e w' => NewTo w w' 1 e := HN
  go_enter Tryz.func19, Tryz.ntmps19
  go_wp2_with fail
  refine HN.mono ?_
  rintro e w1 ⟨hb1, s, rfl, -, hs⟩
  have HB1 : Hid (Below w.heap.size w w1) := hb1
  have HS1 : Hid (Spc w1 w.heap.size s 1 kNM none' (fun _ => 0)) := hs kNM kNM_names
  have hq := eqlS_nil w1 s
  have HO := OfText_t ⟨#[49]⟩ w1
  clear hb1 hs HN
  go_wp2_with fail
  refine HO.mono ?_
  rintro e w2 ⟨hb2, v, rfl, hv⟩
  have HB2 := step_below HB1 hb2
  have HV2 : Hid (Vt w2 v ⟨#[49]⟩) := hv
  have HP := Put_any w2 w.heap.size s 1 kNM none' _ (HS1.out.keep hb2) (Vle.zero.low (by decide)) 0 ⟨#[97]⟩ (by simp [kNM]) (by decide) (some ⟨v, 0, none⟩) (Empty_t w2 v _ hv)
  clear hb2 hv hq HO
  go_wp2_with fail
  refine HP.mono ?_
  rintro e w3 ⟨rfl, hm3, hs3⟩
  have HB3 := HB2.out.trans hm3.be
  have HB3' : Hid (Below w.heap.size w w3) := HB3
  have HV3 : Hid (Vt w3 v ⟨#[49]⟩) := HV2.out.mb hm3
  rw [none_due] at hs3
  obtain ⟨V3, HV3'⟩ : ∃ V3, Hid (Spc w3 w.heap.size s 1 kNM (one ⟨#[97]⟩ (some ⟨v, 0, none⟩, none)) V3 ∧ Vle V3 5) := ⟨_, hs3, ((Vle.zero.due _ _).inc _).mono (by decide)⟩
  have HE := Expire_any w3 w.heap.size s 1 kNM _ V3 HV3'.out.1 (HV3'.out.2.low (by decide)) 5 0 ⟨#[97]⟩ (by simp [kNM]) (by decide)
  rw [(one_none _ _ _).due, one_at] at HE
  clear hm3 hs3 HP HB3
  go_wp2_with fail
  refine HE.mono ?_
  rintro e w4 ⟨rfl, hm4, hs4⟩
  rw [one_exp (by decide)] at hs4
  have HB4 := Mb.step HB3' hm4 (Nat.le_refl _)
  obtain ⟨V4, HS4⟩ : ∃ V4, Hid (Spc w4 w.heap.size s 1 kNM (one ⟨#[97]⟩ (some ⟨v, 0, none⟩, some 5)) V4 ∧ Vle V4 10) := ⟨_, hs4, ((HV3'.out.2.due _ _).chg _ _).mono (by decide)⟩
  have HG := Get_any w4 w.heap.size s 1 kNM _ V4 HS4.out.1 (HS4.out.2.low (by decide)) 4 ⟨#[97]⟩ (by decide)
  rw [(one_still (by decide)).due, one_at] at HG
  replace HG : Calls Tryz.prog 11 #[ptr s, .string ⟨#[97]⟩, .int .i64 4] w4 fun e w' => e = .returned (ptr v) ∧ DueTo w4 w' w.heap.size s 1 kNM (one ⟨#[97]⟩ (some ⟨v, 0, none⟩, some 5)) V4 4 := HG
  clear hm4 hs4 HE
  go_wp2_with fail
  refine HG.mono ?_
  rintro e w5 ⟨rfl, hd5⟩
  have ht5 := To.keepV (one_still (by decide)) hd5
  have HB5 := Mb.step HB4 ht5.mb (Nat.le_refl _)
  have HS5 : Hid (Spc w5 w.heap.size s 1 kNM (one ⟨#[97]⟩ (some ⟨v, 0, none⟩, some 5)) V4) := ht5.spc
  have hn5 := neqV_nil w5 v
  have HG5 := Get_any w5 w.heap.size s 1 kNM _ V4 HS5.out (HS4.out.2.low (by decide)) 5 ⟨#[97]⟩ (by decide)
  rw [one_gone (by decide)] at HG5
  replace HG5 : Calls Tryz.prog 11 #[ptr s, .string ⟨#[97]⟩, .int .i64 5] w5 fun e w' => e = .returned (.pointer none) ∧ DueTo w5 w' w.heap.size s 1 kNM (one ⟨#[97]⟩ (some ⟨v, 0, none⟩, some 5)) V4 5 := HG5
  clear hd5 ht5 HG
  go_wp2_with fail
  refine HG5.mono ?_
  rintro e w6 ⟨rfl, hm6, hs6⟩
  rw [one_gone (by decide)] at hs6
  have HB6 := Mb.step HB5 hm6 (Nat.le_refl _)
  obtain ⟨V6, HS6⟩ : ∃ V6, Hid (Spc w6 w.heap.size s 1 kNM none' V6 ∧ Vle V6 20) := ⟨_, hs6, (HS4.out.2.due _ _).mono (by decide)⟩
  have HL := Len_any w6 w.heap.size s 1 kNM none' V6 HS6.out.1 (HS6.out.2.low (by decide)) 5
  clear hm6 hs6 HG5 hn5
  go_wp2_with fail
  refine HL.mono ?_
  rintro e w7 ⟨hd7, hl7⟩
  rw [none_due] at hl7
  have he := hl7.of none_dom
  replace he : e = .returned (.int .i64 0) := he
  subst he
  have ht7 := To.keepV (none_still 5) hd7
  have HB7 := Mb.step HB6 ht7.mb (Nat.le_refl _)
  have HS7 : Hid (Spc w7 w.heap.size s 1 kNM none' V6) := ht7.spc
  have HR := Rename_any w7 w.heap.size s 1 kNM none' V6 HS7.out (HS6.out.2.low (by decide)) 6 ⟨#[120]⟩ ⟨#[121]⟩ (by simp [kNM]) (by decide) (by simp [kNM]) (by decide)
  rw [none_due] at HR
  replace HR : Calls Tryz.prog 51 #[ptr s, .string ⟨#[120]⟩, .string ⟨#[121]⟩, .int .i64 6] w7 fun e w' => e = .returned (.bool false) ∧ RenTo w7 w' w.heap.size s 1 kNM none' (dueV none' V6 6) ⟨#[120]⟩ ⟨#[121]⟩ := HR
  clear hd7 ht7 hl7 HL
  go_wp2_with fail
  refine HR.mono ?_
  rintro e w8 ⟨rfl, hm8, -⟩
  have HB8 := Mb.step HB7 hm8 (Nat.le_refl _)
  clear hm8 HR
  go_wp2
  go_ret
  exact ⟨rfl, HB8.out⟩
/-- A row of calls that is read alone. -/
structure RdK (w : World) (a : Option Addr) (n : Nat) : Prop where
  le : n ≤ maxLen
  elem : ∀ i, i < n → ∃ b off kind A B N T S, a = some ⟨b, off, none⟩ ∧ w.cell? ⟨b, off + i * 6, none⟩ = some (.int .i64 kind) ∧ w.cell? ⟨b, off + i * 6 + 1, none⟩ = some (.int .i64 A) ∧ w.cell? ⟨b, off + i * 6 + 2, none⟩ = some (.int .i64 B) ∧ w.cell? ⟨b, off + i * 6 + 3, none⟩ = some (.int .i64 N) ∧ w.cell? ⟨b, off + i * 6 + 4, none⟩ = some (.int .i64 T) ∧ w.cell? ⟨b, off + i * 6 + 5, none⟩ = some (.string S)
theorem RdK.keep {w wn : World} {a : Option Addr} {n : Nat} (h : RdK w a n) (hb : Below w.heap.size w wn) : RdK wn a n := by
  refine ⟨h.le, fun i hi => ?_⟩
  obtain ⟨b, off, kind, A, B, N, T, S, e, h0, h1, h2, h3, h4, h5⟩ := h.elem i hi
  have hk : ∀ j v, w.cell? ⟨b, j, none⟩ = some v → wn.cell? ⟨b, j, none⟩ = some v := fun j v hv => by rw [hb.cell (p := ⟨b, j, none⟩) (World.block_lt_of_cell? _ _ hv)]; exact hv
  exact ⟨b, off, kind, A, B, N, T, S, e, hk _ _ h0, hk _ _ h1, hk _ _ h2, hk _ _ h3, hk _ _ h4, hk _ _ h5⟩
end Go.Proofs.YtmjeljldmmkcpabGreat.Sq
