/- Texts that the others stand on. -/
import Derived.Test.YtnajhjmdpaeelaaGreatDoorG27
import Derived.Test.YtnajhjmdpaeelaaGreatDoorG28
namespace Go.Proofs.YtnajhjmdpaeelaaGreatDoor.Sq
open Go.RowKit Go.PlainAid
open Dk (ptr below_drewN alloc_below step_below add_flat OwnR OwnP OwnS Mv pcells Elt elt_of)
open Cy (RdS)
/-- What a command answers: a reply, or a refusal. -/
structure An where
  code : Int
  r : Rp
def Says (w' : World) (nm : ByteArray) (q : An) (e : Ending) : Prop := (q.code = 0 ∧ e = .returned (.tuple #[q.r.v, .nilIface])) ∨ (¬ q.code = 0 ∧ ∃ b, e = .returned (.tuple #[Rp.z.v, .iface 170 (.pointer (some ⟨b, 0, none⟩))]) ∧ Flt w' (.iface 170 (.pointer (some ⟨b, 0, none⟩))) nm q.code)
abbrev An.no (c : Int) : An := ⟨c, Rp.z⟩
abbrev An.nul : An := ⟨0, ⟨5, ⟨#[]⟩, 0, none, 0, 0⟩⟩
abbrev An.blk (s : ByteArray) : An := ⟨0, ⟨4, s, 0, none, 0, 0⟩⟩
abbrev An.int (n : Int) : An := ⟨0, ⟨3, ⟨#[]⟩, n, none, 0, 0⟩⟩
abbrev An.ok : An := ⟨0, ⟨1, ⟨#[79, 75]⟩, 0, none, 0, 0⟩⟩
/-- What text tells of a key, as a text; none: of another Kind. -/
def txtO (y : Option (Kt × Option Int)) : Option ByteArray := match y with
  | none => some ⟨#[]⟩
  | some (d, _) => if d.1 = 1 then some d.2 else none
theorem Flt.set4 {w : World} {E : Value} {s : ByteArray} {c : Int} (h : Flt w E s c) {g : Nat} {r0 : Rp} (hg : VarR w g r0) (r : Rp) : Flt (set4 w g r) E s c := by
  obtain ⟨b, h1, h2⟩ := h.ex
  have hne : b ≠ g := fun e => by
    subst e
    unfold VarR at hg
    rw [h2] at hg
    injection hg with hg
    injection hg with _ e2
    exact absurd e2 (by decide)
  exact ⟨⟨b, h1, by rw [Sq.set4, heap_ne hne, heap_ne hne, heap_ne hne, heap_ne hne]; exact h2⟩⟩
section
variable {w w' : World} {U : Own} {s x : Nat} {NM : List ByteArray} {t : Int} {A : Ab} {M M' : AbT} {V V' : ByteArray → Int} {c : Nat} {nm : ByteArray} {a : Option Addr} {n m : Nat} {ls : List ByteArray}
theorem text_ok (hC : Ctx w U s x NM t M V c nm a n m ls) (hv : Low V) (k : ByteArray) (hk : k.size ≤ maxLen) (tx : ByteArray) (ho : txtO (M k) = some tx) :
    Calls Tryz.prog 91 #[ptr c, .string k] w fun e w' => (∃ r, e = .returned (.tuple #[.string tx, .bool r, .nilIface])) ∧ Mb vtag U w w' ∧ Seen w' U s x NM t M V := by
  refine (text_any hC hv k hk).mono ?_
  rintro e w' ⟨h1, h2, h3⟩
  refine ⟨?_, h1, h2⟩
  unfold TextR at h3
  unfold txtO at ho
  cases hy : M k with
  | none =>
    rw [hy] at h3 ho
    cases ho
    exact ⟨_, h3⟩
  | some y =>
    obtain ⟨d, u⟩ := y
    rw [hy] at h3 ho
    simp only at h3 ho
    split at ho
    · cases ho
      rcases h3 with ⟨-, h4⟩ | ⟨h4, -⟩
      · exact ⟨_, h4⟩
      · contradiction
    · cases ho
theorem text_no (hC : Ctx w U s x NM t M V c nm a n m ls) (hv : Low V) (k : ByteArray) (hk : k.size ≤ maxLen) (ho : txtO (M k) = none) :
    Calls Tryz.prog 91 #[ptr c, .string k] w fun e w' => (∃ b, e = .returned (.tuple #[.string ⟨#[]⟩, .bool false, .iface 170 (.pointer (some ⟨b, 0, none⟩))]) ∧ Flt w' (.iface 170 (.pointer (some ⟨b, 0, none⟩))) nm 4) ∧ Mb vtag U w w' ∧ Seen w' U s x NM t M V := by
  refine (text_any hC hv k hk).mono ?_
  rintro e w' ⟨h1, h2, h3⟩
  refine ⟨?_, h1, h2⟩
  unfold TextR at h3
  unfold txtO at ho
  cases hy : M k with
  | none =>
    rw [hy] at ho
    cases ho
  | some y =>
    obtain ⟨d, u⟩ := y
    rw [hy] at h3 ho
    simp only at h3 ho
    split at ho
    · cases ho
    · rcases h3 with ⟨h4, -⟩ | ⟨-, E, h4, h5⟩
      · contradiction
      · obtain ⟨b, rfl, -⟩ := h5.ex
        exact ⟨b, h4, h5⟩
/-- What get tells. -/
def getP (y : Option (Kt × Option Int)) : An := match y with
  | none => An.nul
  | some (d, _) => if d.1 = 1 then An.blk d.2 else An.no 4
theorem get_any (hC : Ctx w U s x NM t M V c nm a n m ls) (hv : Low V) (k : ByteArray) (hk : k.size ≤ maxLen) :
    Calls Tryz.prog 55 #[ptr c, .string k] w fun e w' => Says w' nm (getP (M k)) e ∧ Mb vtag U w w' ∧ Seen w' U s x NM t M V := by
  obtain ⟨w1, hw1⟩ : ∃ w1, w.alloc (.cells Rp.z.cs 39) = w1 := ⟨_, rfl⟩
  have hb1 : Below w.heap.size w w1 := by rw [← hw1]; exact alloc_below w _
  have HV1 : Hid (VarR w1 w.heap.size Rp.z) := by rw [← hw1]; exact VarR.new w
  have HM1 : Hid (Mb vtag U w w1) := Mb.of_below hb1
  have HT := text_any (hC.keep hb1) hv k hk
  have hal : w.alloc (.cells #[.int .i64 0, .string ⟨#[]⟩, .int .i64 0, .slice none 0 0] 39) = w1 := hw1
  -- the end
  have HE : Hid (∀ w2 r q e, Mb vtag U w w2 → Seen w2 U s x NM t M V → VarR w2 w.heap.size r → (∀ rp, Says (set4 w2 w.heap.size rp) nm q e → Says (set4 w2 w.heap.size rp) nm q e ∧ Mb vtag U w (set4 w2 w.heap.size rp) ∧ Seen (set4 w2 w.heap.size rp) U s x NM t M V)) := fun w2 r q e h1 h2 h3 rp h4 => ⟨h4, h1.set4 (Nat.le_refl _) rp, h2.set4 h3 rp⟩
  clear hC hb1 hw1
  cases hy : M k with
  | none =>
    replace HT : Calls Tryz.prog 91 #[ptr c, .string k] w1 fun e w' => e = .returned (.tuple #[.string ⟨#[]⟩, .bool false, .nilIface]) ∧ Mb vtag U w1 w' ∧ Seen w' U s x NM t M V := HT.mono (by
      rintro e w' ⟨h1, h2, h3⟩
      unfold TextR at h3
      rw [hy] at h3
      exact ⟨h3, h1, h2⟩)
    clear hy
    go_enter Tryz.func55, Tryz.ntmps55
    go_wp2_with (go_at_call 91; first | rw [hal] | skip; refine HT.mono ?_; rintro e w2 ⟨rfl, hm2, hS2⟩; have HV2 : Hid (VarR w2 w.heap.size Rp.z) := HV1.out.mv hm2.mv; have HM2 : Hid (Mb vtag U w w2 ∧ Seen w2 U s x NM t M V) := ⟨HM1.out.trans hm2, hS2⟩; clear hm2 hS2)
    refine (null_r w2).mono ?_
    rintro e w3 ⟨rfl, hb3⟩
    have hv3 : VarR w3 w.heap.size Rp.z := HV2.out.mv (Mv.of_below hb3)
    obtain ⟨z0, z1, z2, z3⟩ := hv3.cells
    have fz := hv3.free
    have HEn := HE.out w3 Rp.z An.nul (.returned (.tuple #[An.nul.r.v, .nilIface])) (HM2.out.1.trans (Mb.of_below hb3)) (HM2.out.2.keep hb3) hv3 An.nul.r (.inl ⟨rfl, rfl⟩)
    have HVn := hv3.set An.nul.r
    simp only [Rp.z] at z0 z1 z2 z3
    simp only [Rp.v]
    have HEn : Hid _ := HEn
    have HVn : Hid _ := HVn
    clear hv3 hb3
    go_wp2
    exact ret_E (x := .nilIface) rfl rfl rfl HVn.out HEn.out
  | some y =>
    obtain ⟨d, u⟩ := y
    by_cases hd : d.1 = 1
    · replace HT : Calls Tryz.prog 91 #[ptr c, .string k] w1 fun e w' => e = .returned (.tuple #[.string d.2, .bool true, .nilIface]) ∧ Mb vtag U w1 w' ∧ Seen w' U s x NM t M V := HT.mono (by
        rintro e w' ⟨h1, h2, h3⟩
        unfold TextR at h3
        rw [hy] at h3
        rcases h3 with ⟨-, h4⟩ | ⟨h4, -⟩
        · exact ⟨h4, h1, h2⟩
        · exact absurd hd h4)
      have HQ : Hid (getP (some (d, u)) = An.blk d.2) := if_pos hd
      obtain ⟨tx, htx⟩ : ∃ tx, d.2 = tx := ⟨_, rfl⟩
      rw [htx] at HT HQ
      clear hy hd htx
      go_enter Tryz.func55, Tryz.ntmps55
      go_wp2_with (go_at_call 91; first | rw [hal] | skip; refine HT.mono ?_; rintro e w2 ⟨rfl, hm2, hS2⟩; have HV2 : Hid (VarR w2 w.heap.size Rp.z) := HV1.out.mv hm2.mv; have HM2 : Hid (Mb vtag U w w2 ∧ Seen w2 U s x NM t M V) := ⟨HM1.out.trans hm2, hS2⟩; clear hm2 hS2)
      refine (Bulk_r tx w2).mono ?_
      rintro e w3 ⟨rfl, hb3⟩
      have hv3 : VarR w3 w.heap.size Rp.z := HV2.out.mv (Mv.of_below hb3)
      obtain ⟨z0, z1, z2, z3⟩ := hv3.cells
      have fz := hv3.free
      have HEn := HE.out w3 Rp.z (An.blk tx) (.returned (.tuple #[(An.blk tx).r.v, .nilIface])) (HM2.out.1.trans (Mb.of_below hb3)) (HM2.out.2.keep hb3) hv3 (An.blk tx).r (.inl ⟨rfl, rfl⟩)
      have HVn := hv3.set (An.blk tx).r
      simp only [Rp.z] at z0 z1 z2 z3
      simp only [Rp.v]
      have HEn : Hid _ := HEn
      have HVn : Hid _ := HVn
      clear hv3 hb3
      go_wp2
      exact ret_E (x := .nilIface) rfl rfl rfl HVn.out (by rw [HQ.out]; exact HEn.out)
    · replace HT : Calls Tryz.prog 91 #[ptr c, .string k] w1 fun e w' => ∃ b, e = .returned (.tuple #[.string ⟨#[]⟩, .bool false, .iface 170 (.pointer (some ⟨b, 0, none⟩))]) ∧ Mb vtag U w1 w' ∧ Seen w' U s x NM t M V ∧ Flt w' (.iface 170 (.pointer (some ⟨b, 0, none⟩))) nm 4 := HT.mono (by
        rintro e w' ⟨h1, h2, h3⟩
        unfold TextR at h3
        rw [hy] at h3
        rcases h3 with ⟨h4, -⟩ | ⟨-, E, h4, h5⟩
        · exact absurd h4 hd
        · obtain ⟨b, rfl, -⟩ := h5.ex
          exact ⟨b, h4, h1, h2, h5⟩)
      have HQ : Hid (getP (some (d, u)) = An.no 4) := if_neg hd
      clear hy hd
      go_enter Tryz.func55, Tryz.ntmps55
      go_wp2_with (go_at_call 91; first | rw [hal] | skip; refine HT.mono ?_; rintro e w2 ⟨b, rfl, hm2, hS2, hF2⟩; have hv2 := HV1.out.mv hm2.mv; have HV2 := hv2.set Rp.z; have HEn := HE.out w2 Rp.z (An.no 4) (.returned (.tuple #[Rp.z.v, .iface 170 (.pointer (some ⟨b, 0, none⟩))])) (HM1.out.trans hm2) hS2 hv2 Rp.z (.inr ⟨show ¬ (4 : Int) = 0 by decide, b, rfl, Flt.set4 hF2 hv2 Rp.z⟩); obtain ⟨z0, z1, z2, z3⟩ := hv2.cells; have fz := hv2.free; simp only [Rp.z] at z0 z1 z2 z3; have HEn : Hid _ := HEn; have HV2 : Hid _ := HV2; clear hm2 hS2 hF2 hv2)
      exact ret_E (x := .iface 170 (.pointer (some ⟨b, 0, none⟩))) rfl rfl rfl HV2.out (by rw [HQ.out]; exact HEn.out)
end
theorem Says.int {w : World} {nm : ByteArray} (n : Int) : Says w nm (An.int n) (.returned (.tuple #[(An.int n).r.v, .nilIface])) := .inl ⟨rfl, rfl⟩
theorem txtO_text {M : AbT} {k tx : ByteArray} (ho : txtO (M k) = some tx) : ∀ d u, M k = some (d, u) → d.1 = 1 := fun d u h => by
  unfold txtO at ho
  rw [h] at ho
  simp only at ho
  split at ho
  · assumption
  · cases ho
section
variable {w w' : World} {U : Own} {s x : Nat} {NM : List ByteArray} {t : Int} {A : Ab} {M M' : AbT} {V V' : ByteArray → Int} {c : Nat} {nm : ByteArray} {a : Option Addr} {n m : Nat} {ls : List ByteArray}
/-- A new variable of a reply. -/
theorem Ctx.newR (hC : Ctx w U s x NM t M V c nm a n m ls) : ∃ w1, w.alloc (.cells #[.int .i64 0, .string ⟨#[]⟩, .int .i64 0, .slice none 0 0] 39) = w1 ∧ Hid (VarR w1 w.heap.size Rp.z) ∧ Hid (Mb vtag U w w1) ∧ Hid (Ctx w1 U s x NM t M V c nm a n m ls) :=
  ⟨_, rfl, VarR.new w, Mb.of_below (alloc_below w _), hC.keep (alloc_below w _)⟩
/-- What is behind a command, at its end. -/
structure Behind (w w' : World) (U : Own) (s x : Nat) (NM : List ByteArray) (t : Int) (M : AbT) (V : ByteArray → Int) : Prop where
  mb : Mb vtag U w w'
  seen : Seen w' U s x NM t M V
theorem Behind.set4 (h : Behind w w' U s x NM t M V) (hv : VarR w' w.heap.size Rp.z) (r : Rp) : Behind w (Sq.set4 w' w.heap.size r) U s x NM t M V := ⟨h.mb.set4 (Nat.le_refl _) r, h.seen.set4 hv r⟩
/-- A number is told. -/
theorem Behind.fin (h : Behind w w' U s x NM t M V) (hv : VarR w' w.heap.size Rp.z) (q : An) (hq : q.code = 0) :
    Says (Sq.set4 w' w.heap.size q.r) nm q (.returned (.tuple #[q.r.v, .nilIface])) ∧ Behind w (Sq.set4 w' w.heap.size q.r) U s x NM t M V := ⟨.inl ⟨hq, rfl⟩, h.set4 hv _⟩
/-- It is refused. -/
theorem Behind.bad (h : Behind w w' U s x NM t M V) (hv : VarR w' w.heap.size Rp.z) {why : Int} (hw : ¬ why = 0) {b : Nat} (hF : Flt w' (.iface 170 (.pointer (some ⟨b, 0, none⟩))) nm why) :
    Says (Sq.set4 w' w.heap.size Rp.z) nm (An.no why) (.returned (.tuple #[Rp.z.v, .iface 170 (.pointer (some ⟨b, 0, none⟩))])) ∧ Behind w (Sq.set4 w' w.heap.size Rp.z) U s x NM t M V := ⟨.inr ⟨hw, b, rfl, Flt.set4 hF hv _⟩, h.set4 hv _⟩
theorem change_no (hC : Ctx w U s x NM t M V c nm a n m ls) (hv : Low V) (k : ByteArray) (hk : k.size ≤ maxLen) (F : Value) (ho : txtO (M k) = none) :
    Calls Tryz.prog 100 #[ptr c, .string k, F] w fun e w' => Says w' nm (An.no 4) e ∧ Behind w w' U s x NM t M V := by
  obtain ⟨w1, hal, HV1, HM1, HC1⟩ := hC.newR
  have HT := text_no HC1.out hv k hk ho
  clear hC ho
  go_enter Tryz.func100, Tryz.ntmps100
  go_wp2_with (go_at_call 91; first | rw [hal] | skip; refine HT.mono ?_; rintro e w2 ⟨⟨b, rfl, hF2⟩, hm2, hS2⟩; have hv2 := HV1.out.mv hm2.mv; have HV2 : Hid _ := hv2.set Rp.z; have HE : Hid _ := Behind.bad (nm := nm) ⟨HM1.out.trans hm2, hS2⟩ hv2 (show ¬ (4 : Int) = 0 by decide) hF2; obtain ⟨z0, z1, z2, z3⟩ := hv2.cells; have fz := hv2.free; simp only [Rp.z] at z0 z1 z2 z3; clear hm2 hS2 hF2 hv2)
  exact ret_E (x := .iface 170 (.pointer (some ⟨b, 0, none⟩))) rfl rfl rfl HV2.out HE.out
/-- The three texts that are handed to change. -/
abbrev Made (f : Nat) : Prop := f = 104 ∨ f = 101 ∨ f = 113
theorem change_why (hC : Ctx w U s x NM t M V c nm a n m ls) (hv : Low V) (k : ByteArray) (hk : k.size ≤ maxLen) (f : Nat) (hf : Made f) (caps : Array Value) (tx : ByteArray) (ho : txtO (M k) = some tx) (st : ByteArray) (z why : Int) (hw : ¬ why = 0)
    (hF : ∀ wx, Mb vtag U w wx → Calls Tryz.prog f (#[.string tx] ++ caps) wx fun e w' => e = .returned (.tuple #[.string st, .int .i64 z, .int .i64 why]) ∧ Below wx.heap.size wx w') :
    Calls Tryz.prog 100 #[ptr c, .string k, .func (.func f) #[] caps] w fun e w' => Says w' nm (An.no why) e ∧ Behind w w' U s x NM t M V := by
  obtain ⟨w1, hal, HV1, HM1, HC1⟩ := hC.newR
  have HT := text_ok HC1.out hv k hk tx ho
  have hdw : (why != 0) = true := by simpa using hw
  have HW : Hid (¬ why = 0) := hw
  clear hC ho hw
  rcases hf with rfl | rfl | rfl
  all_goals
    go_enter Tryz.func100, Tryz.ntmps100
    go_wp2_with (go_at_call 91; first | rw [hal] | skip; refine HT.mono ?_; rintro e w2 ⟨⟨r, rfl⟩, hm2, hS2⟩; have HC2 : Hid (Ctx w2 U s x NM t M V c nm a n m ls) := HC1.out.step hm2 hS2; have HV2 : Hid (VarR w2 w.heap.size Rp.z) := HV1.out.mv hm2.mv; have HM2 : Hid (Mb vtag U w w2) := HM1.out.trans hm2; have HF2 := hF w2 HM2.out; clear hm2 hS2)
    refine HF2.mono ?_
    rintro e w3 ⟨rfl, hb3⟩
    have HC3 : Hid (Ctx w3 U s x NM t M V c nm a n m ls) := HC2.out.keep hb3
    have HV3 : Hid (VarR w3 w.heap.size Rp.z) := HV2.out.mv (Mv.of_below hb3)
    have HM3 : Hid (Mb vtag U w w3) := HM2.out.trans (Mb.of_below hb3)
    have HR := refuse_any why HW.out w3 HC3.out.cll
    clear HF2 hb3
    go_wp2_with fail
    refine HR.mono ?_
    rintro e w4 ⟨hb4, E, rfl, hF4⟩
    obtain ⟨b, rfl, -⟩ := hF4.ex
    have hv4 := HV3.out.mv (Mv.of_below hb4)
    have HV4 : Hid _ := hv4.set Rp.z
    have HE : Hid _ := Behind.bad (nm := nm) ⟨HM3.out.trans (Mb.of_below hb4), HC3.out.seen.keep hb4⟩ hv4 HW.out hF4
    obtain ⟨z0, z1, z2, z3⟩ := hv4.cells
    have fz := hv4.free
    simp only [Rp.z] at z0 z1 z2 z3
    simp only [Rp.v, Rp.z]
    clear hb4 hF4 hv4 HR
    go_wp2
    exact ret_E (r := Rp.z) (x := .iface 170 (.pointer (some ⟨b, 0, none⟩))) rfl rfl rfl HV4.out HE.out
theorem change_ok (hC : Ctx w U s x NM t M V c nm a n m ls) (hv : Low V) (k : ByteArray) (hk : k ∈ NM) (hks : k.size ≤ 4096) (f : Nat) (hf : Made f) (caps : Array Value) (tx : ByteArray) (ho : txtO (M k) = some tx) (st : ByteArray) (z : Int)
    (hF : ∀ wx, Mb vtag U w wx → Calls Tryz.prog f (#[.string tx] ++ caps) wx fun e w' => e = .returned (.tuple #[.string st, .int .i64 z, .int .i64 0]) ∧ Below wx.heap.size wx w') :
    Calls Tryz.prog 100 #[ptr c, .string k, .func (.func f) #[] caps] w fun e w' => Says w' nm (An.int z) e ∧ Behind w w' U s x NM t (keepM M k st) (keepV M V k st) := by
  obtain ⟨w1, hal, HV1, HM1, HC1⟩ := hC.newR
  have HT := text_ok HC1.out hv k (by unfold maxLen; omega) tx ho
  have HTx : Hid (∀ d u, M k = some (d, u) → d.1 = 1) := txtO_text ho
  clear hC ho
  rcases hf with rfl | rfl | rfl
  all_goals
    go_enter Tryz.func100, Tryz.ntmps100
    go_wp2_with (go_at_call 91; first | rw [hal] | skip; refine HT.mono ?_; rintro e w2 ⟨⟨r, rfl⟩, hm2, hS2⟩; have HC2 : Hid (Ctx w2 U s x NM t M V c nm a n m ls) := HC1.out.step hm2 hS2; have HV2 : Hid (VarR w2 w.heap.size Rp.z) := HV1.out.mv hm2.mv; have HM2 : Hid (Mb vtag U w w2) := HM1.out.trans hm2; have HF2 := hF w2 HM2.out; clear hm2 hS2)
    refine HF2.mono ?_
    rintro e w3 ⟨rfl, hb3⟩
    have HC3 : Hid (Ctx w3 U s x NM t M V c nm a n m ls) := HC2.out.keep hb3
    have HV3 : Hid (VarR w3 w.heap.size Rp.z) := HV2.out.mv (Mv.of_below hb3)
    have HM3 : Hid (Mb vtag U w w3) := HM2.out.trans (Mb.of_below hb3)
    have HK := keep_any HC3.out hv k hk hks st HTx.out
    clear HF2 hb3
    go_wp2_with fail
    refine HK.mono ?_
    rintro e w4 ⟨rfl, hm4, hS4⟩
    have HV4 : Hid (VarR w4 w.heap.size Rp.z) := HV3.out.mv hm4.mv
    have HB4 : Hid (Behind w w4 U s x NM t (keepM M k st) (keepV M V k st)) := ⟨HM3.out.trans hm4, hS4⟩
    clear hm4 hS4 HK
    go_wp2_with fail
    refine (Int_r z w4).mono ?_
    rintro e w5 ⟨rfl, hb5⟩
    have hv5 := HV4.out.mv (Mv.of_below hb5)
    have HV5 : Hid _ := hv5.set (An.int z).r
    have HE : Hid _ := Behind.fin (nm := nm) ⟨HB4.out.mb.trans (Mb.of_below hb5), HB4.out.seen.keep hb5⟩ hv5 (An.int z) rfl
    obtain ⟨z0, z1, z2, z3⟩ := hv5.cells
    have fz := hv5.free
    simp only [Rp.z] at z0 z1 z2 z3
    simp only [Rp.v]
    clear hb5 hv5
    go_wp2
    exact ret_E (r := (An.int z).r) (x := .nilIface) rfl rfl rfl HV5.out HE.out
end
def negO (a : Int) : Option Int := if a = -9223372036854775808 then none else some (-a)
theorem Negate_any (a : Int) (w : World) (ha : Tx.Int64 a) :
    Calls Tryz.prog 151 #[.int .i64 a] w fun e w' => e = .returned (i64R (negO a)) ∧ w' = w := by
  unfold Tx.Int64 at ha
  by_cases h : a = -9223372036854775808
  · subst h
    have hw : wrap64 9223372036854775808 = -9223372036854775808 := by unfold wrap64; omega
    go_enter Tryz.func151, Tryz.ntmps151
    go_wp2
    go_ret2
    exact ⟨rfl, rfl⟩
  · have HO : Hid (negO a = some (-a)) := if_neg h
    by_cases h0 : a < 0
    · go_enter Tryz.func151, Tryz.ntmps151
      go_wp2
      go_ret2
      exact ⟨by rw [HO.out]; rfl, rfl⟩
    · go_enter Tryz.func151, Tryz.ntmps151
      go_wp2
      go_ret2
      exact ⟨by rw [HO.out]; rfl, rfl⟩
/-- By how much a number goes up: a refusal's code, and it. -/
def stepP (ls : List ByteArray) (down : Bool) : Int × Int := match (if 2 < ls.length then parseL (lst (ls.getD 2 ByteArray.empty)) else some 1) with
  | none => (5, 0)
  | some z => if down = true then (match negO z with | none => (6, 0) | some y => (0, y)) else (0, z)
/-- What step tells. -/
def StepR (w' : World) (nm : ByteArray) (q : Int × Int) (e : Ending) : Prop := (q.1 = 0 ∧ e = .returned (.tuple #[.int .i64 q.2, .nilIface])) ∨ (¬ q.1 = 0 ∧ ∃ b z, e = .returned (.tuple #[.int .i64 z, .iface 170 (.pointer (some ⟨b, 0, none⟩))]) ∧ Flt w' (.iface 170 (.pointer (some ⟨b, 0, none⟩))) nm q.1)
theorem StepR.bad {w : World} {nm : ByteArray} {why : Int} (hw : ¬ why = 0) (z : Int) : StepR (newW w nm (codeV why)) nm (why, 0) (.returned (.tuple #[.int .i64 z, newE w])) := .inr ⟨hw, _, z, rfl, Flt.new w nm why⟩
section
variable {w w' : World} {U : Own} {s x : Nat} {NM : List ByteArray} {t : Int} {A : Ab} {M M' : AbT} {V V' : ByteArray → Int} {c : Nat} {nm : ByteArray} {a : Option Addr} {n m : Nat} {ls : List ByteArray}
theorem parse_int {l : List UInt8} {z : Int} (h : parseL l = some z) : Tx.Int64 z := (parseL_some h).2
theorem step_any (hC : Ctx w U s x NM t M V c nm a n m ls) (hk : ∀ k ∈ ls, k.size ≤ maxLen) (down : Bool) :
    Calls Tryz.prog 103 #[ptr c, .bool down] w fun e w' => StepR w' nm (stepP ls down) e ∧ Below w.heap.size w w' := by
  have hl := hC.ars.rd.len
  have hn : n ≤ 9223372036854775807 := hC.ars.rd.max
  have c3 := hC.cll.c3
  have HB := fun (why : Int) (hw : ¬ why = 0) (wx : World) (h : Below w.heap.size w wx) => because_any why hw wx ((hC.keep h).cll)
  by_cases h2 : 2 < n
  · obtain ⟨b, off, rfl, h3⟩ := hC.word h2
    obtain ⟨k, hkk⟩ : ∃ k, ls.getD 2 ByteArray.empty = k := ⟨_, rfl⟩
    have hks : k.size ≤ maxLen := by
      rw [← hkk, List.getD_eq_getElem?_getD, List.getElem?_eq_getElem (by omega)]
      exact hk _ (List.getElem_mem _)
    rw [hkk] at h3
    cases ho : parseL (lst k) with
    | none =>
      have HQ : Hid (stepP ls down = (5, 0)) := by
        show _ = _
        unfold stepP
        rw [if_pos (by omega), hkk, ho]
      have HN := number_no k hks w hC.cll ho
      have HE : Hid _ := StepR.bad (w := w) (nm := nm) (why := 5) (by decide) 0
      have HBe : Hid _ := newW_below w nm (codeV 5)
      obtain ⟨E, hE⟩ : ∃ E, newE w = .iface 170 E := ⟨_, rfl⟩
      obtain ⟨w2, hw2⟩ : ∃ w2, newW w nm (codeV 5) = w2 := ⟨_, rfl⟩
      rw [hE, hw2] at HN HE
      rw [hw2] at HBe
      clear hC HB hE hw2 hkk ho hk hl
      go_enter Tryz.func103, Tryz.ntmps103
      go_wp2_with (go_at_call 108; refine HN.mono ?_; rintro e wx ⟨rfl, rfl⟩)
      go_ret2
      exact ⟨by rw [HQ.out]; exact HE.out, HBe.out⟩
    | some z =>
      have HN := number_yes (c := c) k hks z w ho
      have hz : Tx.Int64 z := parse_int ho
      cases down with
      | false =>
        have HQ : Hid (stepP ls false = (0, z)) := by
          show _ = _
          unfold stepP
          rw [if_pos (by omega), hkk, ho]
          rfl
        clear hC HB hkk ho hk hl
        go_enter Tryz.func103, Tryz.ntmps103
        go_wp2_with (go_at_call 108; refine HN.mono ?_; rintro e wx ⟨rfl, rfl⟩)
        go_ret2
        exact ⟨by rw [HQ.out]; exact .inl ⟨rfl, rfl⟩, Below.refl _ _⟩
      | true =>
        have HG := Negate_any z w hz
        cases hg : negO z with
        | none =>
          have HQ : Hid (stepP ls true = (6, 0)) := by
            show _ = _
            unfold stepP
            rw [if_pos (by omega), hkk, ho]
            simp only [hg, if_true]
          rw [hg] at HG
          replace HG : Calls Tryz.prog 151 #[.int .i64 z] w fun e w' => e = .returned (.tuple #[.int .i64 0, .bool false]) ∧ w' = w := HG
          have HBc := HB 6 (by decide) w (Below.refl _ _)
          have HE : Hid _ := fun z => StepR.bad (w := w) (nm := nm) (why := 6) (by decide) z
          have HBe : Hid _ := newW_below w nm (codeV 6)
          obtain ⟨E, hE⟩ : ∃ E, newE w = .iface 170 E := ⟨_, rfl⟩
          obtain ⟨w2, hw2⟩ : ∃ w2, newW w nm (codeV 6) = w2 := ⟨_, rfl⟩
          rw [hE, hw2] at HBc HE
          rw [hw2] at HBe
          clear hC HB hE hw2 hkk ho hk hl hg hz
          go_enter Tryz.func103, Tryz.ntmps103
          go_wp2_with (first
            | (go_at_call 108; refine HN.mono ?_; rintro e wx ⟨rfl, rfl⟩)
            | (go_at_call 151; refine HG.mono ?_; rintro e wx ⟨rfl, rfl⟩)
            | (go_at_call 54; refine HBc.mono ?_; rintro e wx ⟨rfl, rfl⟩))
          go_ret2
          exact ⟨by rw [HQ.out]; exact HE.out _, HBe.out⟩
        | some y =>
          have HQ : Hid (stepP ls true = (0, y)) := by
            show _ = _
            unfold stepP
            rw [if_pos (by omega), hkk, ho]
            simp only [hg, if_true]
          rw [hg] at HG
          replace HG : Calls Tryz.prog 151 #[.int .i64 z] w fun e w' => e = .returned (.tuple #[.int .i64 y, .bool true]) ∧ w' = w := HG
          clear hC HB hkk ho hk hl hg hz
          go_enter Tryz.func103, Tryz.ntmps103
          go_wp2_with (first
            | (go_at_call 108; refine HN.mono ?_; rintro e wx ⟨rfl, rfl⟩)
            | (go_at_call 151; refine HG.mono ?_; rintro e wx ⟨rfl, rfl⟩))
          go_ret2
          exact ⟨by rw [HQ.out]; exact .inl ⟨rfl, rfl⟩, Below.refl _ _⟩
  · have hq : stepP ls down = if down = true then (0, -1) else (0, 1) := by
      unfold stepP
      rw [if_neg (by omega)]
      cases down <;> rfl
    have HQ : Hid (stepP ls down = if down = true then (0, -1) else (0, 1)) := hq
    have hn2 : (n : Int) ≤ 2 := by omega
    have HG : Calls Tryz.prog 151 #[.int .i64 1] w fun e w' => e = .returned (.tuple #[.int .i64 (-1), .bool true]) ∧ w' = w := Negate_any 1 w (by unfold Tx.Int64; omega)
    clear hC HB hk hl hq h2
    cases down with
    | false =>
      go_enter Tryz.func103, Tryz.ntmps103
      go_wp2
      go_ret2
      exact ⟨by rw [HQ.out]; exact .inl ⟨rfl, rfl⟩, Below.refl _ _⟩
    | true =>
      go_enter Tryz.func103, Tryz.ntmps103
      go_wp2_with (go_at_call 151; refine HG.mono ?_; rintro e wx ⟨rfl, rfl⟩)
      go_ret2
      exact ⟨by rw [HQ.out]; exact .inl ⟨rfl, rfl⟩, Below.refl _ _⟩
end
/-- What a number's text comes to. -/
def incP (tx : ByteArray) (by_ : Int) : Int × ByteArray × Int := match Tx.numO tx with
  | none => (5, ⟨#[]⟩, 0)
  | some n => match Tx.addO n by_ with
    | none => (6, ⟨#[]⟩, 0)
    | some m => (0, bs (fmtL m), m)
theorem incP_R (tx : ByteArray) (by_ : Int) : Tx.incrR tx by_ = .tuple #[.string (incP tx by_).2.1, .int .i64 (incP tx by_).2.2, .int .i64 (incP tx by_).1] := by
  unfold Tx.incrR incP
  cases Tx.numO tx with
  | none => rfl
  | some n =>
    simp only
    cases Tx.addO n by_ <;> rfl
/-- What a text that is made of a key's comes to: the answer, what the keys have, how often they were changed. -/
def madeP (M : AbT) (V : ByteArray → Int) (k : ByteArray) (f : ByteArray → Int × ByteArray × Int) : An × AbT × (ByteArray → Int) := match txtO (M k) with
  | none => (An.no 4, M, V)
  | some tx => if (f tx).1 = 0 then (An.int (f tx).2.2, keepM M k (f tx).2.1, keepV M V k (f tx).2.1) else (An.no (f tx).1, M, V)
/-- Texts that may be kept. -/
def Small (M : AbT) : Prop := ∀ k d u, M k = some (d, u) → d.2.size ≤ 65536
theorem Small.txt {M : AbT} (h : Small M) {k tx : ByteArray} (ho : txtO (M k) = some tx) : tx.size ≤ 65536 := by
  unfold txtO at ho
  cases hy : M k with
  | none =>
    rw [hy] at ho
    cases ho
    exact Nat.zero_le _
  | some y =>
    obtain ⟨d, u⟩ := y
    rw [hy] at ho
    simp only at ho
    split at ho
    · cases ho; exact h k d u hy
    · cases ho
section
variable {w w' : World} {U : Own} {s x : Nat} {NM : List ByteArray} {t : Int} {A : Ab} {M M' : AbT} {V V' : ByteArray → Int} {c : Nat} {nm : ByteArray} {a : Option Addr} {n m : Nat} {ls : List ByteArray}
/-- change, with a text that is made so. -/
theorem change_f (hC : Ctx w U s x NM t M V c nm a n m ls) (hv : Low V) (k : ByteArray) (hk : k ∈ NM) (hks : k.size ≤ 4096) (f : Nat) (hf : Made f) (caps : Array Value) (g : ByteArray → Int × ByteArray × Int)
    (hF : ∀ tx, txtO (M k) = some tx → ∀ wx, Mb vtag U w wx → Calls Tryz.prog f (#[.string tx] ++ caps) wx fun e w' => e = .returned (.tuple #[.string (g tx).2.1, .int .i64 (g tx).2.2, .int .i64 (g tx).1]) ∧ Below wx.heap.size wx w') :
    Calls Tryz.prog 100 #[ptr c, .string k, .func (.func f) #[] caps] w fun e w' => Says w' nm (madeP M V k g).1 e ∧ Behind w w' U s x NM t (madeP M V k g).2.1 (madeP M V k g).2.2 := by
  cases ho : txtO (M k) with
  | none =>
    have hq : madeP M V k g = (An.no 4, M, V) := by unfold madeP; rw [ho]
    rw [hq]
    exact change_no hC hv k (by unfold maxLen; omega) _ ho
  | some tx =>
    by_cases h0 : (g tx).1 = 0
    · have hq : madeP M V k g = (An.int (g tx).2.2, keepM M k (g tx).2.1, keepV M V k (g tx).2.1) := by unfold madeP; rw [ho]; exact if_pos h0
      rw [hq]
      have hF1 := hF tx ho
      rw [h0] at hF1
      exact change_ok hC hv k hk hks f hf caps tx ho _ _ hF1
    · have hq : madeP M V k g = (An.no (g tx).1, M, V) := by unfold madeP; rw [ho]; exact if_neg h0
      rw [hq]
      exact change_why hC hv k (by unfold maxLen; omega) f hf caps tx ho _ _ _ h0 (hF tx ho)
/-- What another command has answered is told on. -/
theorem Says.again {q : An} {e : Ending} (h : Says w nm q e) {g : Nat} {r0 : Rp} (hg : VarR w g r0) : ∃ x' r, e = .returned (.tuple #[r.v, x']) ∧ Says (set4 w g r) nm q (.returned (.tuple #[r.v, x'])) := by
  rcases h with ⟨h1, h2⟩ | ⟨h1, b, h2, h3⟩
  · exact ⟨_, _, h2, .inl ⟨h1, rfl⟩⟩
  · exact ⟨_, _, h2, .inr ⟨h1, b, rfl, Flt.set4 h3 hg _⟩⟩
/-- A number's variable. -/
theorem count1_any (tx : ByteArray) (hs : tx.size ≤ 65536) (by_ : Int) (hb : Tx.Int64 by_) (g : Nat) (w : World) (hg : w.cell? ⟨g, 0, none⟩ = some (.int .i64 by_)) :
    Calls Tryz.prog 104 #[.string tx, ptr g] w fun e w' => e = .returned (.tuple #[.string (incP tx by_).2.1, .int .i64 (incP tx by_).2.2, .int .i64 (incP tx by_).1]) ∧ Below w.heap.size w w' := by
  have HI := Tx.Incr_any tx by_ w (by unfold maxLen; omega) hb
  rw [incP_R] at HI
  go_enter Tryz.func104, Tryz.ntmps104
  go_wp2_with (go_at_call 105; refine HI.mono ?_; rintro e wx ⟨rfl, hb2⟩)
  go_ret3
  exact ⟨rfl, hb2⟩
/-- What a command that counts answers, and leaves. -/
def countP (M : AbT) (V : ByteArray → Int) (ls : List ByteArray) (down : Bool) : An × AbT × (ByteArray → Int) :=
  if (stepP ls down).1 = 0 then madeP M V (ls.getD 1 ByteArray.empty) (fun tx => incP tx (stepP ls down).2) else (An.no (stepP ls down).1, M, V)
theorem stepP_int (ls : List ByteArray) (down : Bool) : Tx.Int64 (stepP ls down).2 := by
  unfold stepP
  split
  · exact ⟨by decide, by decide⟩
  · rename_i z hz
    have hz2 : Tx.Int64 z := by
      split at hz
      · exact parse_int hz
      · cases hz; exact ⟨by decide, by decide⟩
    unfold Tx.Int64 at hz2 ⊢
    split
    · unfold negO
      by_cases h : z = -9223372036854775808
      · rw [if_pos h]; exact ⟨by decide, by decide⟩
      · rw [if_neg h]; show _ ≤ -z ∧ -z < _; omega
    · exact hz2
theorem count_any (hC : Ctx w U s x NM t M V c nm a n m ls) (hv : Low V) (hS : Small M) (hN : ∀ k ∈ ls, k.size ≤ 4096) (h1 : 1 < n) (hk : ls.getD 1 ByteArray.empty ∈ NM) (down : Bool) :
    Calls Tryz.prog 62 #[ptr c, .bool down] w fun e w' => Says w' nm (countP M V ls down).1 e ∧ Behind w w' U s x NM t (countP M V ls down).2.1 (countP M V ls down).2.2 := by
  obtain ⟨w1, hal, HV1, HM1, HC1⟩ := hC.newR
  have HT := step_any HC1.out (fun k hk => by have := hN k hk; unfold maxLen; omega) down
  have HSm : Hid (Small M) := hS
  have hn : n ≤ 9223372036854775807 := hC.ars.rd.max
  obtain ⟨b0, off, rfl, -⟩ := hC.word h1
  obtain ⟨k, hkk⟩ : ∃ k, ls.getD 1 ByteArray.empty = k := ⟨_, rfl⟩
  have HK : Hid (k ∈ NM ∧ k.size ≤ 4096) := by
    rw [← hkk]
    refine ⟨hk, ?_⟩
    have hl := hC.ars.rd.len
    rw [List.getD_eq_getElem?_getD, List.getElem?_eq_getElem (by omega)]
    exact hN _ (List.getElem_mem _)
  have HKk : Hid (ls.getD 1 ByteArray.empty = k) := hkk
  have hmf : ∀ (fn : Fn) (first cap : Array Value) (w : World), (Instr.makeFunc fn first cap).run Tryz.prog w = .ok (.func fn first cap) w := fun _ _ _ _ => rfl
  by_cases h0 : (stepP ls down).1 = 0
  · have HQ : Hid (countP M V ls down = madeP M V k (fun tx => incP tx (stepP ls down).2)) := by
      show _ = _
      unfold countP
      rw [if_pos h0, hkk]
    have HI : Hid (Tx.Int64 (stepP ls down).2) := stepP_int ls down
    replace HT : Calls Tryz.prog 103 #[ptr c, .bool down] w1 fun e w' => e = .returned (.tuple #[.int .i64 (stepP ls down).2, .nilIface]) ∧ Below w1.heap.size w1 w' := HT.mono (by
      rintro e w' ⟨h2 | h2, h3⟩
      · exact ⟨h2.2, h3⟩
      · exact absurd h0 h2.1)
    obtain ⟨z, hz⟩ : ∃ z, (stepP ls down).2 = z := ⟨_, rfl⟩
    rw [hz] at HT HQ HI
    clear hC hkk h0 hz hS hk hN
    go_enter Tryz.func62, Tryz.ntmps62
    go_wp2_with (go_at_call 103; first | rw [hal] | skip; refine HT.mono ?_; rintro e w2 ⟨rfl, hb2⟩; obtain ⟨w3, hw3⟩ : ∃ w3, w2.alloc (.cells #[.int .i64 z] 2) = w3 := ⟨_, rfl⟩; have hb3 : Below w2.heap.size w2 w3 := (by rw [← hw3]; exact alloc_below w2 _); have HC3 : Hid (Ctx w3 U s x NM t M V c nm (some ⟨b0, off, none⟩) n m ls) := (HC1.out.keep hb2).keep hb3; have HV3 : Hid (VarR w3 w.heap.size Rp.z) := (HV1.out.mv (Mv.of_below hb2)).mv (Mv.of_below hb3); have HM3 : Hid (Mb vtag U w w3) := (HM1.out.trans (Mb.of_below hb2)).trans (Mb.of_below hb3); have hbk : w3.heap[w2.heap.size]? = some (.cells #[.int .i64 z] 2 (0, 0)) := (by rw [← hw3]; exact heap_alloc_new w2 _); have HCh := change_f HC3.out hv k HK.out.1 HK.out.2 104 (.inl rfl) #[ptr w2.heap.size] (fun tx => incP tx z) (fun tx ho wx hm => count1_any tx (HSm.out.txt ho) z HI.out w2.heap.size wx (by simp [World.cell?, hm.mv.block _ _ _ hbk (by decide), hbk])); have c3 := HC3.out.cll.c3; obtain ⟨b1, o1, hq1, hc1⟩ := HC3.out.word h1; cases hq1; rw [HKk.out] at hc1; have hw2 : Hid (w2.heap.size < w3.heap.size) := (Array.getElem?_eq_some_iff.1 hbk).1; clear hb2 hb3 hbk)
    refine HCh.mono ?_
    rintro e w4 ⟨hA4, hB4⟩
    have hv4 := HV3.out.mv hB4.mb.mv
    obtain ⟨x', r, rfl, hA5⟩ := hA4.again hv4
    have HE : Hid _ := And.intro hA5 (Behind.set4 ⟨HM3.out.trans hB4.mb, hB4.seen⟩ hv4 r)
    have HV4 : Hid _ := hv4.set r
    obtain ⟨z0, z1, z2, z3⟩ := hv4.cells
    have fz := hv4.free
    simp only [Rp.z] at z0 z1 z2 z3
    simp only [Rp.v]
    clear hA4 hA5 hB4 hv4 HCh
    go_wp2
    exact ret_E (r := r) (x := x') rfl rfl rfl HV4.out (by rw [HQ.out]; exact HE.out)
  · have HQ : Hid (countP M V ls down = (An.no (stepP ls down).1, M, V)) := if_neg h0
    have H0 : Hid (¬ (stepP ls down).1 = 0) := h0
    replace HT : Calls Tryz.prog 103 #[ptr c, .bool down] w1 fun e w' => ∃ b z, e = .returned (.tuple #[.int .i64 z, .iface 170 (.pointer (some ⟨b, 0, none⟩))]) ∧ Flt w' (.iface 170 (.pointer (some ⟨b, 0, none⟩))) nm (stepP ls down).1 ∧ Below w1.heap.size w1 w' := HT.mono (by
      rintro e w' ⟨h2 | h2, h3⟩
      · exact absurd h2.1 h0
      · obtain ⟨-, b, z, h4, h5⟩ := h2
        exact ⟨b, z, h4, h5, h3⟩)
    obtain ⟨q, hq⟩ : ∃ q, (stepP ls down).1 = q := ⟨_, rfl⟩
    rw [hq] at HT HQ H0
    clear hC hkk h0 hq hS hk hN
    go_enter Tryz.func62, Tryz.ntmps62
    go_wp2_with (go_at_call 103; first | rw [hal] | skip; refine HT.mono ?_; rintro e w2 ⟨b, z, rfl, hF2, hb2⟩; obtain ⟨w3, hw3⟩ : ∃ w3, w2.alloc (.cells #[.int .i64 z] 2) = w3 := ⟨_, rfl⟩; have hb3 : Below w2.heap.size w2 w3 := (by rw [← hw3]; exact alloc_below w2 _); have HC3 : Hid (Ctx w3 U s x NM t M V c nm (some ⟨b0, off, none⟩) n m ls) := (HC1.out.keep hb2).keep hb3; have hv3 : VarR w3 w.heap.size Rp.z := (HV1.out.mv (Mv.of_below hb2)).mv (Mv.of_below hb3); have hm3 : Mb vtag U w w3 := (HM1.out.trans (Mb.of_below hb2)).trans (Mb.of_below hb3); have HV3 : Hid _ := hv3.set Rp.z; have HE : Hid _ := Behind.bad (nm := nm) ⟨hm3, HC3.out.seen⟩ hv3 H0.out (hF2.keep hb3); obtain ⟨z0, z1, z2, z3⟩ := hv3.cells; have fz := hv3.free; simp only [Rp.z] at z0 z1 z2 z3; clear hb2 hb3 hv3 hm3 hF2)
    exact ret_E (r := Rp.z) (x := .iface 170 (.pointer (some ⟨b, 0, none⟩))) rfl rfl rfl HV3.out (by rw [HQ.out]; exact HE.out)
end
end Go.Proofs.YtnajhjmdpaeelaaGreatDoor.Sq
namespace Go.Proofs.YtnajhjmdpaeelaaGreatDoor.Sq
open Go.RowKit Go.PlainAid
open Dk (ptr below_drewN alloc_below step_below add_flat OwnR OwnP OwnS Mv pcells Elt elt_of)
open Cy (RdS low)
abbrev nxB : ByteArray := ⟨#[110, 120]⟩
abbrev xxB : ByteArray := ⟨#[120, 120]⟩
abbrev getB : ByteArray := ⟨#[103, 101, 116]⟩
abbrev exB : ByteArray := ⟨#[101, 120]⟩
abbrev pxB : ByteArray := ⟨#[112, 120]⟩
abbrev keepB : ByteArray := ⟨#[107, 101, 101, 112, 116, 116, 108]⟩
abbrev noB : ByteArray := ⟨#[]⟩
/-- Options. -/
structure Opt where
  only : ByteArray
  get : ByteArray
  unt : ByteArray
  wait : ByteArray
def Opt.z : Opt := ⟨noB, noB, noB, noB⟩
abbrev Opt.cs (o : Opt) : Array Value := #[.string o.only, .string o.get, .string o.unt, .string o.wait]
def Opt.v (o : Opt) : Value := .agg #[.string o.only, .string o.get, .string o.unt, .string o.wait]
def rdO : List ByteArray → Opt → Option Opt
  | [], o => some o
  | p :: r, o =>
    if low p = nxB ∨ low p = xxB then (if o.only = noB then rdO r { o with only := low p } else none)
    else if low p = getB then (if o.get = noB then rdO r { o with get := low p } else none)
    else if low p = exB ∨ low p = pxB then (match r with
      | [] => none
      | q :: r' => if o.unt = noB then rdO r' { o with unt := low p, wait := q } else none)
    else if low p = keepB then (if o.unt = noB then rdO r { o with unt := low p } else none)
    else none
/-- Options' variable. -/
def VarO (w : World) (g : Nat) (o : Opt) : Prop := w.heap[g]? = some (.cells o.cs 178 (0, 0))
theorem VarO.cells {w : World} {g : Nat} {o : Opt} (h : VarO w g o) : w.cell? ⟨g, 0, none⟩ = some (.string o.only) ∧ w.cell? ⟨g, 1, none⟩ = some (.string o.get) ∧ w.cell? ⟨g, 2, none⟩ = some (.string o.unt) ∧ w.cell? ⟨g, 3, none⟩ = some (.string o.wait) := by
  unfold VarO at h
  simp only [World.cell?, h]
  exact ⟨rfl, rfl, rfl, rfl⟩
theorem VarO.free {w : World} {g : Nat} {o : Opt} (h : VarO w g o) (i : Nat) : w.frozen? ⟨g, i, none⟩ = false := by
  unfold VarO at h
  simp [World.frozen?, h]
theorem VarO.lt {w : World} {g : Nat} {o : Opt} (h : VarO w g o) : g < w.heap.size := (Array.getElem?_eq_some_iff.1 h).1
theorem VarO.keep {w w' : World} {g : Nat} {o : Opt} (h : VarO w g o) (hb : Below w.heap.size w w') : VarO w' g o := by
  unfold VarO
  rw [hb.block g h.lt]
  exact h
theorem VarO.off {w : World} {g g' i : Nat} {v : Value} {o : Opt} (h : VarO w g o) (hn : g ≠ g') : VarO (w.setCell ⟨g', i, none⟩ v) g o := by
  unfold VarO
  rw [heap_ne hn]
  exact h
theorem VarO.s0 {w : World} {g : Nat} {o : Opt} (h : VarO w g o) (x : ByteArray) : VarO (w.setCell ⟨g, 0, none⟩ (.string x)) g { o with only := x } := by
  unfold VarO
  rw [heap_set h]; rfl
theorem VarO.s1 {w : World} {g : Nat} {o : Opt} (h : VarO w g o) (x : ByteArray) : VarO (w.setCell ⟨g, 1, none⟩ (.string x)) g { o with get := x } := by
  unfold VarO
  rw [heap_set h]; rfl
theorem VarO.s2 {w : World} {g : Nat} {o : Opt} (h : VarO w g o) (x : ByteArray) : VarO (w.setCell ⟨g, 2, none⟩ (.string x)) g { o with unt := x } := by
  unfold VarO
  rw [heap_set h]; rfl
theorem VarO.s3 {w : World} {g : Nat} {o : Opt} (h : VarO w g o) (x : ByteArray) : VarO (w.setCell ⟨g, 3, none⟩ (.string x)) g { o with wait := x } := by
  unfold VarO
  rw [heap_set h]; rfl
abbrev setO (w : World) (g : Nat) (o : Opt) : World := (((w.setCell ⟨g, 0, none⟩ (.string o.only)).setCell ⟨g, 1, none⟩ (.string o.get)).setCell ⟨g, 2, none⟩ (.string o.unt)).setCell ⟨g, 3, none⟩ (.string o.wait)
theorem VarO.set {w : World} {g : Nat} {o : Opt} (h : VarO w g o) (d : Opt) : VarO (setO w g d) g d := (((h.s0 d.only).s1 d.get).s2 d.unt).s3 d.wait
theorem Tryz.infoO : (Tryz.prog.info? 178).map (·.size) = some 4 := by kernel_rfl
theorem ret_O {fn : Func} {p t : Tmp} (h : fn.results = #[.cell p 178, .tmp t]) {tmps : Array Value} {w : World} {g : Nat} {o : Opt} {x : Value} {Q : Ending → World → Prop}
    (hp : tmps.getD p undef = .pointer (some ⟨g, 0, none⟩)) (hx : tmps.getD t undef = x) (hg : VarO w g o) (hQ : Q (.returned (.tuple #[o.v, x])) w) : bodyPost Tryz.prog fn Q .ret { tmps := tmps, defers := [] } w := by
  subst hx
  exact bodyPost_ret (Cy.results_cell_tmp h _ _ g 178 _ (0, 0) _ hp hg Tryz.underlying178 rfl Tryz.infoO) rfl hQ
theorem say_no (g i : Nat) (old x : ByteArray) (ho : ¬ old = noB) (w : World) (hc : w.cell? ⟨g, i, none⟩ = some (.string old)) :
    Calls Tryz.prog 149 #[.pointer (some ⟨g, i, none⟩), .string x] w fun e w' => e = .returned (.bool false) ∧ w' = w := by
  have hq : (old.toList == []) = false := by rw [Cy.eq_lit]; exact decide_eq_false ho
  have hq2 : old.toList.isEmpty = false := by
    cases h : old.toList with
    | nil => rw [h] at hq; cases hq
    | cons _ _ => rfl
  clear ho
  go_enter Tryz.func149, Tryz.ntmps149
  go_wp2
  go_ret
  exact ⟨rfl, rfl⟩
theorem say_yes (g i : Nat) (x : ByteArray) (w : World) (hc : w.cell? ⟨g, i, none⟩ = some (.string noB)) (hf : w.frozen? ⟨g, i, none⟩ = false) :
    Calls Tryz.prog 149 #[.pointer (some ⟨g, i, none⟩), .string x] w fun e w' => e = .returned (.bool true) ∧ w' = w.setCell ⟨g, i, none⟩ (.string x) := by
  go_enter Tryz.func149, Tryz.ntmps149
  go_wp2
  go_ret
  exact ⟨rfl, rfl⟩
end Go.Proofs.YtnajhjmdpaeelaaGreatDoor.Sq
