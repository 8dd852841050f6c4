/- Texts that the others stand on. -/
import Derived.Test.YtnajhjmdpaeelaaGreatDoorG31
import Derived.Test.YtnajhjmdpaeelaaGreatDoorG33
namespace Go.Proofs.YtnajhjmdpaeelaaGreatDoor.Sq
open Go.RowKit Go.PlainAid
open Dk (ptr below_drewN alloc_below step_below add_flat OwnR OwnP OwnS Mv pcells Elt elt_of)
open Cy (RdS)
/-- What a text comes to that is put behind another. -/
def appP (tx v : ByteArray) : Int × ByteArray × Int := if tx.size + v.size ≤ 65536 then (0, tx ++ v, (tx.size : Int) + v.size) else (11, ⟨#[]⟩, 0)
def lenP (M : AbT) (V : ByteArray → Int) (ls : List ByteArray) : An × AbT × (ByteArray → Int) := madeP M V (ls.getD 1 ByteArray.empty) (fun tx => appP tx (ls.getD 2 ByteArray.empty))
section
variable {w w' : World} {U : Own} {s x : Nat} {NM : List ByteArray} {t : Int} {A : Ab} {M M' : AbT} {V V' : ByteArray → Int} {c : Nat} {nm : ByteArray} {a : Option Addr} {n m : Nat} {ls : List ByteArray}
theorem lengthen1_any (hC : Cll w c s t nm a n m) (hA : Ars w a n ls) (h2 : 2 < n) (tx : ByteArray) (hs : tx.size ≤ 65536) (hv : (ls.getD 2 ByteArray.empty).size ≤ 4096) (g : Nat) (hg : w.cell? ⟨g, 0, none⟩ = some (ptr c)) :
    Calls Tryz.prog 101 #[.string tx, ptr g] w fun e w' => e = .returned (.tuple #[.string (appP tx (ls.getD 2 ByteArray.empty)).2.1, .int .i64 (appP tx (ls.getD 2 ByteArray.empty)).2.2, .int .i64 (appP tx (ls.getD 2 ByteArray.empty)).1]) ∧ Below w.heap.size w w' := by
  have hn : n ≤ 9223372036854775807 := hA.rd.max
  have hn2 : (2 : Int) < n := by omega
  obtain ⟨b, off, rfl, hc⟩ := hA.rd.cell 2 h2
  obtain ⟨v, hvv⟩ : ∃ v, ls.getD 2 ByteArray.empty = v := ⟨_, rfl⟩
  rw [hvv] at hc hv ⊢
  have c3 := hC.c3
  clear hC hA hvv
  by_cases h : tx.size + v.size ≤ 65536
  · have HA := Tx.Append_any tx v w (by omega) (by omega) h
    have HQ : Hid (appP tx v = ((0 : Int), tx ++ v, ((tx.size : Int) + v.size))) := by show _ = _; exact if_pos h
    clear h
    go_enter Tryz.func101, Tryz.ntmps101
    go_wp2_with (go_at_call 102; refine HA.mono ?_; rintro e wx ⟨rfl, rfl⟩)
    go_ret3
    exact ⟨by rw [HQ.out]; rfl, Below.refl _ _⟩
  · have HA := Tx.Append_no tx v w (by omega) (by omega) h
    have HQ : Hid (appP tx v = ((11 : Int), (⟨#[]⟩ : ByteArray), (0 : Int))) := by show _ = _; exact if_neg h
    clear h
    go_enter Tryz.func101, Tryz.ntmps101
    go_wp2_with (go_at_call 102; refine HA.mono ?_; rintro e wx ⟨rfl, rfl⟩)
    go_ret3
    exact ⟨by rw [HQ.out]; rfl, Below.refl _ _⟩
set_option maxHeartbeats 1600000 in
theorem lengthen_any (hC : Ctx w U s x NM t M V c nm a n m ls) (hv : Low V) (hS : Small M) (hN : ∀ k ∈ ls, k.size ≤ 4096) (h2 : 2 < n) (hk : ls.getD 1 ByteArray.empty ∈ NM) :
    Calls Tryz.prog 60 #[ptr c] w fun e w' => Says w' nm (lenP M V ls).1 e ∧ Behind w w' U s x NM t (lenP M V ls).2.1 (lenP M V ls).2.2 := by
  obtain ⟨w0, hw0⟩ : ∃ w0, w.alloc (.cells #[ptr c] 90) = w0 := ⟨_, rfl⟩
  have hb0 : Below w.heap.size w w0 := by rw [← hw0]; exact alloc_below w _
  have hk0 : w0.heap[w.heap.size]? = some (.cells #[ptr c] 90 (0, 0)) := by rw [← hw0]; exact heap_alloc_new w _
  have hC0 := hC.keep hb0
  obtain ⟨w1, hal, HV1, HM1, HC1⟩ := hC0.newR
  have hb1 : Below w0.heap.size w0 w1 := by rw [← hal]; exact alloc_below w0 _
  have hk1 : w1.heap[w.heap.size]? = some (.cells #[ptr c] 90 (0, 0)) := by rw [hb1.block _ (Array.getElem?_eq_some_iff.1 hk0).1]; exact hk0
  have hn : n ≤ 9223372036854775807 := hC.ars.rd.max
  have hlen := hC.ars.rd.len
  have hn1 : (1 : Int) < n := by omega
  have hsz : ∀ j, j < n → (ls.getD j ByteArray.empty).size ≤ 4096 := fun j hj => by
    rw [List.getD_eq_getElem?_getD, List.getElem?_eq_getElem (by omega)]
    exact hN _ (List.getElem_mem _)
  have hbd : Below w1.heap.size w1 w1.drew := (Below.refl _ _).drew
  have HCd : Hid (Ctx w1.drew U s x NM t M V c nm a n m ls) := HC1.out.keep hbd
  have HMd : Hid (Mb vtag U w w1.drew) := (Mb.of_below hb0).trans (HM1.out.trans (Mb.of_below hbd))
  have HVd : Hid (VarR w1.drew w0.heap.size Rp.z) := HV1.out.mv (Mv.of_below hbd)
  have hkd : w1.drew.heap[w.heap.size]? = some (.cells #[ptr c] 90 (0, 0)) := by rw [hbd.block _ (Array.getElem?_eq_some_iff.1 hk1).1]; exact hk1
  have HCh := change_f HCd.out hv (ls.getD 1 ByteArray.empty) hk (hsz 1 (by omega)) 101 (.inr (.inl rfl)) #[ptr w.heap.size] (fun tx => appP tx (ls.getD 2 ByteArray.empty)) (fun tx ho wx hm => lengthen1_any (HCd.out.cll.mv hm.mv) (HCd.out.ars.mv hm.mv) h2 tx (hS.txt ho) (hsz 2 h2) w.heap.size (by simp [World.cell?, hm.mv.block _ _ _ hkd (by decide), hkd]))
  have c3 := HCd.out.cll.c3
  obtain ⟨b1, o1, rfl, d1⟩ := HCd.out.word (j := 1) (by omega)
  have k0 : w1.drew.cell? ⟨w.heap.size, 0, none⟩ = some (ptr c) := by simp [World.cell?, hkd]
  obtain ⟨k, hkk⟩ : ∃ k, ls.getD 1 ByteArray.empty = k := ⟨_, rfl⟩
  have HQ : Hid (lenP M V ls = madeP M V k (fun tx => appP tx (ls.getD 2 ByteArray.empty))) := by show _ = _; unfold lenP; rw [hkk]
  rw [hkk] at HCh d1
  have hmf : ∀ (fn : Fn) (first cap : Array Value) (w : World), (Instr.makeFunc fn first cap).run Tryz.prog w = .ok (.func fn first cap) w := fun _ _ _ _ => rfl
  have HW0 : Hid (w.heap.size < w0.heap.size) := (Array.getElem?_eq_some_iff.1 hk0).1
  clear hC hC0 hbd hb0 hk0 hb1 hk1 hkd hkk hk hlen hsz hS hN
  go_enter Tryz.func60, Tryz.ntmps60
  go_upto_region 1 with fail
  go_region_with (go_at_call 100; refine HCh.mono ?_; rintro e w4 ⟨hA4, hB4⟩; have hv4 := HVd.out.mv hB4.mb.mv; obtain ⟨x', r, rfl, hA5⟩ := hA4.again hv4; have HE : Hid (Says (Sq.set4 w4 w0.heap.size r) nm (lenP M V ls).1 (.returned (.tuple #[r.v, x'])) ∧ Behind w (Sq.set4 w4 w0.heap.size r) U s x NM t (lenP M V ls).2.1 (lenP M V ls).2.2) := ⟨by rw [HQ.out]; exact hA5, by rw [HQ.out]; exact ⟨(HMd.out.trans hB4.mb).set4 (Nat.le_of_lt HW0.out) r, hB4.seen.set4 hv4 r⟩⟩; have HV4 : Hid _ := hv4.set r; obtain ⟨z0, z1, z2, z3⟩ := hv4.cells; have fz := hv4.free; simp only [Rp.z] at z0 z1 z2 z3; simp only [Rp.v]; clear hA4 hA5 hB4 hv4)
  all_goals
    go_wp2
    exact ret_E (r := r) (x := x') rfl rfl rfl HV4.out HE.out
end
end Go.Proofs.YtnajhjmdpaeelaaGreatDoor.Sq
