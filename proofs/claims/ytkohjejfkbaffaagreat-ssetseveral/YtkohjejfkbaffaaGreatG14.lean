/-
  Add and Remove of a set, as it lies in memory.
  Pick, Scan of a packed set, Copy.
  A set as its members, packed or not: what each call tells, and leaves.
-/
import Derived.Test.YtkohjejfkbaffaaGreatG13
import Derived.BigRegion
namespace Go.Proofs.YtkohjejfkbaffaaGreat
open Go.RowKit Go.PlainAid
open Dk (En Stay hasK putE delE keysOf Dct Dg dtag Turn)

theorem Small.np {w : World} {B m x E T p : Nat} {a : Option Addr} {n c : Nat} {l : List ByteArray} (h : Small w B m x E T p a n c l) : m ≠ p := by
  rintro rfl
  have h1 := h.blk.blk
  rw [h.pk.blk] at h1
  simp at h1
theorem Small.nr {w : World} {B m x E T p : Nat} {a : Option Addr} {n c : Nat} {l : List ByteArray} (h : Small w B m x E T p a n c l) : some m ≠ a.map (·.block) := by
  intro hk
  obtain ⟨-, -, cur, h3⟩ := Dk.OwnR.lt (h.pk.own : Dk.OwnR w B 5 1 a n c _) hk.symm
  have h1 := h.blk.blk
  rw [h3] at h1
  simp at h1
/-- What a call leaves that turns a packed set. -/
def SmallTo (w w' : World) (B m x E T p : Nat) (a : Option Addr) (l : List ByteArray) : Prop := Moves w w' p a ∧ ∃ a' n' c', Small w' B m x E T p a' n' c' l ∧ Went w a a'
theorem Small.to {w w' : World} {B m x E T p : Nat} {a : Option Addr} {n c : Nat} {l r : List ByteArray} (h : Small w B m x E T p a n c l) {v : Value} {e : Ending} (ht : Turns w B p a r v e w') (hl : r.length ≤ E) (hs : Szs T r) (hn : r.Nodup) : SmallTo w w' B m x E T p a r := by
  obtain ⟨-, hm, a', n', c', hp, hw⟩ := ht
  exact ⟨hm, a', n', c', ⟨h.blk.kept (hm.block m h.blk.lt h.np h.nr), hp, h.low, hl, hs, hn, h.hE, h.hT⟩, hw⟩
theorem SmallTo.after {w w1 w2 : World} {B m x E T p : Nat} {a : Option Addr} {l : List ByteArray} (hb : Below w.heap.size w w1) (h : SmallTo w1 w2 B m x E T p a l) : SmallTo w w2 B m x E T p a l := by
  obtain ⟨hm, a', n', c', hp, hw⟩ := h
  exact ⟨Moves.after hb hm, a', n', c', hp, hw.after hb⟩
theorem Large.turn {w w' : World} {B m x E T d : Nat} {D D' : Dg} (h : Large w B m x E T d D) (hT : Turn w w' B d x D D') (hs : Szs 4096 (keysOf D'.es)) : Large w' B m x E T d D' := by
  have hm : m ∉ d :: D.pb :: Dk.fpL D.L := fun hm => by
    obtain ⟨cs, t, h1, h2⟩ := h.dc.tags m hm
    rw [h.blk.blk] at h1
    simp at h1
    rw [← h1.2] at h2
    revert h2
    decide
  exact ⟨h.blk.kept (hT.stay.block m h.blk.lt hm), hT.dct, h.low, hs, h.hE, h.hT⟩
/-- What an Add leaves that lays the members into a dict. -/
def UnTo (w w' : World) (B m x E T d : Nat) (D : Dg) (l : List ByteArray) : Prop := Large w' B m x E T d D ∧ (keysOf D.es).Perm l ∧ Stay w w' [m] ∧ (∀ k ∈ d :: D.pb :: Dk.fpL D.L, w.heap.size ≤ k)

theorem Add_long (m : Nat) (k : ByteArray) (w : World) (h : 4096 < k.size) :
    Calls Tryz.prog 12 #[ptr m, .string k] w fun e w' => e = .returned (.tuple #[.bool false, .int .i64 11]) ∧ w' = w := by
  have hz : (4096 : Int) < k.size := by omega
  go_enter Tryz.func12, Tryz.ntmps12
  go_wp2
  go_ret2
  exact ⟨rfl, rfl⟩
theorem Add_has (m : Nat) (k : ByteArray) (w : World) (h : k.size ≤ 4096) (HH : Calls Tryz.prog 27 #[ptr m, .string k] w fun e w' => e = .returned (.bool true) ∧ Below w.heap.size w w') :
    Calls Tryz.prog 12 #[ptr m, .string k] w fun e w' => e = .returned (.tuple #[.bool false, .int .i64 0]) ∧ Below w.heap.size w w' := by
  have hz : ¬ (4096 : Int) < k.size := by omega
  go_enter Tryz.func12, Tryz.ntmps12
  go_wp2_with fail
  refine HH.mono ?_
  rintro e w1 ⟨rfl, hb⟩
  have HB : Hid (Below w.heap.size w w1) := hb
  clear hb
  go_wp2
  go_ret2
  exact ⟨rfl, HB.out⟩
set_option maxRecDepth 100000 in
set_option maxHeartbeats 4000000 in
theorem Add_large (B m x E T d : Nat) (D : Dg) (k : ByteArray) (w : World) (h : Large w B m x E T d D) (hk : k.size ≤ 4096) (hno : k ∉ keysOf D.es) (hle : (keysOf D.es).length < 1000000) :
    Calls Tryz.prog 12 #[ptr m, .string k] w fun e w' => e = .returned (.tuple #[.bool true, .int .i64 0]) ∧ ∃ D', Turn w w' B d x D D' ∧ Large w' B m x E T d D' ∧ (keysOf D'.es).Perm (addM (keysOf D.es) k) := by
  have hz : ¬ (4096 : Int) < k.size := by omega
  have HH := Has_large B m x E T d D k w h (by unfold maxLen; omega)
  rw [hasM_no hno] at HH
  have HL : Hid (Large w B m x E T d D) := h
  have HSz : Hid (k.size ≤ 4096) := hk
  have HLe : Hid (D.es.length < 1000000) := by rw [keysOf, List.length_map] at hle; exact hle
  clear h hno hle hk
  go_enter Tryz.func12, Tryz.ntmps12
  go_wp2_with fail
  refine HH.mono ?_
  rintro e w1 ⟨rfl, hb⟩
  have HB : Hid (Below w.heap.size w w1) := hb
  have HP1 := Packed_no m x E T d _ w1 (HL.out.keep hb).blk
  have hc := (HL.out.keep hb).blk.cl
  have HPu := Dk.PutD B d x D k () w1 (HL.out.keep hb).dc (by have := HSz.out; unfold maxLen; omega) HLe.out
  clear hb HH
  go_wp2_with fail
  refine HP1.mono ?_
  rintro e w2 ⟨rfl, rfl⟩
  go_wp2_with fail
  refine HP1.mono ?_
  rintro e w2 ⟨rfl, rfl⟩
  go_wp2_with fail
  refine HPu.mono ?_
  rintro e w3 ⟨rfl, D', hT, hp⟩
  have hp2 : (keysOf D'.es).Perm (addM (keysOf D.es) k) := by
    have := hp.map Prod.fst
    rw [← keys_put D.es k ()]
    exact this
  have HR : Hid (Turn w w3 B d x D D' ∧ Large w3 B m x E T d D' ∧ (keysOf D'.es).Perm (addM (keysOf D.es) k)) := ⟨hT.first HB.out, (HL.out.keep HB.out).turn hT ((HL.out.sz.add HSz.out).perm hp2.symm), hp2⟩
  clear hT hp hp2
  go_wp2
  go_ret2
  exact ⟨rfl, D', HR.out⟩

set_option maxRecDepth 100000 in
set_option maxHeartbeats 4000000 in
theorem Add_small (B m x E T p : Nat) (a : Option Addr) (n c : Nat) (l : List ByteArray) (k : ByteArray) (w : World) (h : Small w B m x E T p a n c l) (hk : k.size ≤ T) (hno : k ∉ l) (hlt : l.length < E) :
    Calls Tryz.prog 12 #[ptr m, .string k] w fun e w' => e = .returned (.tuple #[.bool true, .int .i64 0]) ∧ SmallTo w w' B m x E T p a (l ++ [k]) := by
  have hsz : Szs T (l ++ [k]) := by
    intro s hs
    rcases List.mem_append.1 hs with h1 | h1
    · exact h.sz s h1
    · rw [List.mem_singleton.1 h1]; exact hk
  have hle : (l ++ [k]).length ≤ E := by simp; omega
  have hnd : (l ++ [k]).Nodup := by have := nodup_add h.nod k; rw [addM_no hno] at this; exact this
  have hT := h.hT
  have hE := h.hE
  have hz : ¬ (4096 : Int) < k.size := by omega
  have HH := Has_small B m x E T p a n c l k w h
  rw [hasM_no hno] at HH
  have HSm : Hid (Small w B m x E T p a n c l) := h
  have HTo : Hid (∀ {w1 wa : World} {v : Value} {e : Ending} {w' : World}, Below w.heap.size w w1 → Below w1.heap.size w1 wa → Turns wa B p a (l ++ [k]) v e w' → SmallTo w w' B m x E T p a (l ++ [k])) := fun h1 h2 ht => by
    have hb := h1.trans (h2.mono h1.size)
    exact ((h.keep hb).to ht hle hsz hnd).after hb
  have hfit : Fit [k] := fit_one (by omega)
  have hpk : (pack [k]).length ≤ 62 := pack_len62 [k] (fun s hs => by rw [List.mem_singleton.1 hs]; omega)
  have HIn : Hid (∀ w1, Below w.heap.size w w1 → ∀ wq, wq = w1.drew.alloc (.cells #[.string k] 9) → Calls Tryz.prog 33 #[ptr p, .int .i64 (l.length : Nat), .slice (some ⟨w1.drew.heap.size, 0, none⟩) 1 1] wq fun e w' => Turns wq B p a (l ++ [k]) (.int .i64 0) e w') := by
    intro w1 hb wq hq
    have hbd : Below w1.heap.size w1 w1.drew := below_drewN w1 1
    have hba : Below w1.heap.size w1 wq := by rw [hq]; exact hbd.trans (alloc_below w1.drew _)
    have hS := (h.keep hb).keep hba
    have HI := Insert_ok B p a n c l l.length (some ⟨w1.drew.heap.size, 0, none⟩) 1 1 [k] wq hS.pk h.fit (by have := h.max; omega) (Nat.le_refl _) (by rw [hq]; exact RdS.made w1.drew [k] 1 rfl (by decide) _ rfl) hfit (by decide) (by have := h.n; omega)
    rw [List.take_length, List.drop_length, List.append_nil] at HI
    exact HI
  have HFt := fun w' hb => sfits_yes B m x E T p a n c l k w' (h.keep hb) hk hlt
  clear h hsz hle hnd hno hfit hpk hlt hk
  go_enter Tryz.func12, Tryz.ntmps12
  go_wp2_with fail
  refine HH.mono ?_
  rintro e w1 ⟨rfl, hb⟩
  have HB : Hid (Below w.heap.size w w1) := hb
  have HP1 := Packed_yes m x E T _ w1 (HSm.out.keep hb).blk
  have HF1 := HFt w1 hb
  clear hb HH
  go_wp2_with fail
  refine HP1.mono ?_
  rintro e w2 ⟨rfl, rfl⟩
  go_wp2_with fail
  refine HF1.mono ?_
  rintro e w3 ⟨rfl, hb⟩
  have HB3 := step_below HB hb
  have HP3 := Packed_yes m x E T _ w3 (HSm.out.keep HB3.out).blk
  clear hb HF1 HP1 HFt
  go_wp2_with fail
  refine HP3.mono ?_
  rintro e w4 ⟨rfl, rfl⟩
  have hbd : Below w4.heap.size w4 w4.drew := below_drewN w4 1
  have HBa : Hid (Below w4.heap.size w4 (w4.drew.alloc (.cells #[.string k] 9))) := hbd.trans (alloc_below w4.drew _)
  have HI := HIn.out w4 HB3.out _ rfl
  have hS4 := HSm.out.keep HB3.out
  have HLd := Len_any B p a n c l w4.drew (hS4.keep hbd).pk
  have HLa := Len_any B p a n c l (w4.drew.alloc (.cells #[.string k] 9)) (hS4.keep HBa.out).pk
  have HSd : Hid (w4.drew.cell? ⟨m, 3, none⟩ = some (ptr p)) := (hS4.keep hbd).blk.cs
  have HSa : Hid ((w4.drew.alloc (.cells #[.string k] 9)).cell? ⟨m, 3, none⟩ = some (ptr p)) := (hS4.keep HBa.out).blk.cs
  have HEn : Hid (∀ {v : Value} {e : Ending} {w' : World}, Turns (w4.drew.alloc (.cells #[.string k] 9)) B p a (l ++ [k]) v e w' → SmallTo w w' B m x E T p a (l ++ [k]) ∧ w'.cell? ⟨m, 3, none⟩ = some (ptr p)) := fun ht => by
    have h1 := HTo.out HB3.out HBa.out ht
    have h3 := h1.2
    obtain ⟨_, _, _, h2, _⟩ := h3
    exact ⟨h1, h2.blk.cs⟩
  generalize l.length = q at HI HLd HLa
  clear hbd hS4 HIn HTo HP3 HSm
  go_wp2_with fail
  go_region_held3 (fun w' => w'.cell? ⟨m, 3, none⟩ = some (ptr p)) (first | exact HSz.out | exact HSd.out | exact HSa.out) (first
    | (go_at_call 34; refine HLd.mono ?_; rintro e wx ⟨rfl, rfl⟩)
    | (go_at_call 34; refine HLa.mono ?_; rintro e wx ⟨rfl, rfl⟩)
    | (go_at_call 33; refine HI.mono ?_; rintro e wz ht; have HR : Hid (SmallTo w wz B m x E T p a (l ++ [k])) := (HEn.out ht).1; have HSz : Hid (wz.cell? ⟨m, 3, none⟩ = some (ptr p)) := (HEn.out ht).2; obtain ⟨rfl, -⟩ := ht))
  all_goals
    go_wp2
    go_ret2
    exact ⟨rfl, HR.out⟩

set_option maxRecDepth 100000 in
set_option maxHeartbeats 4000000 in
theorem Add_un (B m x E T p : Nat) (a : Option Addr) (n c : Nat) (l : List ByteArray) (k : ByteArray) (w : World) (hx : x < 18446744073709551616) (h : Small w B m x E T p a n c l) (hB : B ≤ w.heap.size) (hk : k.size ≤ 4096) (hno : k ∉ l) (hf : ¬ (k.size ≤ T ∧ l.length < E)) :
    Calls Tryz.prog 12 #[ptr m, .string k] w fun e w' => e = .returned (.tuple #[.bool true, .int .i64 0]) ∧ ∃ d D', UnTo w w' B m x E T d D' (l ++ [k]) := by
  have hz : ¬ (4096 : Int) < k.size := by omega
  have HH := Has_small B m x E T p a n c l k w h
  rw [hasM_no hno] at HH
  have HSm : Hid (Small w B m x E T p a n c l) := h
  have HFt := fun w' hb => sfits_no B m x E T p a n c l k w' (h.keep hb) hf
  have HSz : Hid (k.size ≤ 4096) := hk
  have HNo : Hid (k ∉ l) := hno
  have HLe : Hid (l.length ≤ 512) := by have := h.le; have := h.hE; show _ ≤ _; omega
  clear h hf hk hno
  go_enter Tryz.func12, Tryz.ntmps12
  go_wp2_with fail
  refine HH.mono ?_
  rintro e w1 ⟨rfl, hb⟩
  have HB : Hid (Below w.heap.size w w1) := hb
  have HP1 := Packed_yes m x E T _ w1 (HSm.out.keep hb).blk
  have HF1 := HFt w1 hb
  clear hb HH
  go_wp2_with fail
  refine HP1.mono ?_
  rintro e w2 ⟨rfl, rfl⟩
  go_wp2_with fail
  refine HF1.mono ?_
  rintro e w3 ⟨rfl, hb⟩
  have HB3 := step_below HB hb
  have HUn := unpack_any B m x E T p a n c l w3 hx (HSm.out.keep HB3.out) (Nat.le_trans hB HB3.out.size)
  clear hb HF1 HP1 HFt
  go_wp2_with fail
  refine HUn.mono ?_
  rintro e w4 ⟨rfl, d, D, hL, hp, hst, hnw⟩
  have hc := hL.blk.cl
  have HP4 := Packed_no m x E T d _ w4 hL.blk
  have HPu := Dk.PutD B d x D k () w4 hL.dc (by have := HSz.out; unfold maxLen; omega) (by have := hp.length_eq; rw [keysOf, List.length_map] at this; have := HLe.out; omega)
  have HL3 : Hid (Large w4 B m x E T d D ∧ (keysOf D.es).Perm l ∧ Stay w3 w4 [m] ∧ (∀ k ∈ d :: D.pb :: Dk.fpL D.L, w3.heap.size ≤ k)) := ⟨hL, hp, hst, hnw⟩
  clear hL hp hst hnw
  go_wp2_with fail
  refine HP4.mono ?_
  rintro e w5 ⟨rfl, rfl⟩
  go_wp2_with fail
  refine HPu.mono ?_
  rintro e w6 ⟨rfl, D', hT, hp⟩
  have hp2 : (keysOf D'.es).Perm (l ++ [k]) := by
    have h5 : (keysOf D'.es).Perm (keysOf (putE D.es k ())) := hp.map Prod.fst
    rw [keys_put D.es k ()] at h5
    have h6 := addM_perm HL3.out.2.1 k
    rw [addM_no HNo.out] at h6
    exact h5.trans h6
  have hsz : Szs 4096 (keysOf D'.es) := by
    refine Szs.perm ?_ hp2.symm
    intro s hs
    rcases List.mem_append.1 hs with h1 | h1
    · exact (HSm.out.sz.mono (by have := HSm.out.hT; omega)) s h1
    · rw [List.mem_singleton.1 h1]; exact HSz.out
  have HR : Hid (UnTo w w6 B m x E T d D' (l ++ [k])) := ⟨HL3.out.1.turn hT hsz, hp2, (Stay.of_below HB3.out _).trans (HL3.out.2.2.1.trans (M' := d :: D.pb :: Dk.fpL D.L) hT.stay (fun i hi => .inr (HL3.out.2.2.2 i hi))) (fun i hi => .inl hi), fun i hi => (hT.fps i hi).elim (fun h => Nat.le_trans HB3.out.size (HL3.out.2.2.2 i h)) (fun h => Nat.le_trans HB3.out.size (Nat.le_trans HL3.out.2.2.1.size h))⟩
  clear hT hp hp2 hsz
  go_wp2
  go_ret2
  exact ⟨rfl, d, D', HR.out⟩

theorem Remove_large (B m x E T d : Nat) (D : Dg) (k : ByteArray) (w : World) (h : Large w B m x E T d D) (hk : k.size ≤ maxLen) :
    Calls Tryz.prog 24 #[ptr m, .string k] w fun e w' => e = .returned (.bool (hasM (keysOf D.es) k)) ∧ ∃ D', Turn w w' B d x D D' ∧ Large w' B m x E T d D' ∧ (keysOf D'.es).Perm (remM (keysOf D.es) k) := by
  have hc := h.blk.cl
  have HP := Packed_no m x E T d _ w h.blk
  have HG := Dk.DelD B d x D k w h.dc hk
  have HL : Hid (Large w B m x E T d D) := h
  rw [hasK_mem] at HG
  generalize hasM (keysOf D.es) k = t at HG ⊢
  clear h
  go_enter Tryz.func24, Tryz.ntmps24
  go_wp2_with fail
  refine HP.mono ?_
  rintro e w1 ⟨rfl, rfl⟩
  go_wp2_with fail
  refine HG.mono ?_
  rintro e w2 ⟨rfl, D', hT, hp⟩
  have hp2 : (keysOf D'.es).Perm (remM (keysOf D.es) k) := by
    have := hp.map Prod.fst
    rw [← keys_del D.es k]
    exact this
  have HR : Hid (Turn w1 w2 B d x D D' ∧ Large w2 B m x E T d D' ∧ (keysOf D'.es).Perm (remM (keysOf D.es) k)) := ⟨hT, HL.out.turn hT ((HL.out.sz.rem k).perm hp2.symm), hp2⟩
  clear hT hp hp2
  go_wp2
  go_ret
  exact ⟨rfl, D', HR.out⟩
theorem Remove_no (B m x E T p : Nat) (a : Option Addr) (n c : Nat) (l : List ByteArray) (k : ByteArray) (w : World) (h : Small w B m x E T p a n c l) (hk : k ∉ l) :
    Calls Tryz.prog 24 #[ptr m, .string k] w fun e w' => e = .returned (.bool false) ∧ Below w.heap.size w w' := by
  have HP := Packed_yes m x E T _ w h.blk
  have HF := find_no B m x E T p a n c l k w h hk
  clear h
  go_enter Tryz.func24, Tryz.ntmps24
  go_wp2_with fail
  refine HP.mono ?_
  rintro e w1 ⟨rfl, rfl⟩
  go_wp2_with fail
  refine HF.mono ?_
  rintro e w2 ⟨rfl, hb⟩
  have HB : Hid (Below w1.heap.size w1 w2) := hb
  clear hb
  go_wp2
  go_ret
  exact ⟨rfl, HB.out⟩
set_option maxRecDepth 100000 in
set_option maxHeartbeats 4000000 in
theorem Remove_yes (B m x E T p : Nat) (a : Option Addr) (n c : Nat) (b r : List ByteArray) (k : ByteArray) (w : World) (h : Small w B m x E T p a n c (b ++ k :: r)) :
    Calls Tryz.prog 24 #[ptr m, .string k] w fun e w' => e = .returned (.bool true) ∧ SmallTo w w' B m x E T p a (b ++ r) := by
  have HP := Packed_yes m x E T _ w h.blk
  have HF := find_yes B m x E T p a n c _ b r k w h rfl
  have HSm : Hid (Small w B m x E T p a n c (b ++ k :: r)) := h
  have hlen : (b ++ k :: r).length = b.length + (r.length + 1) := by rw [List.length_append, List.length_cons]
  have hl2 : b.length ≤ 512 := by have h1 := h.le; have := h.hE; omega
  have HG : Hid (gone (b ++ k :: r) b.length 1 = 1) := by show _ = _; unfold gone; rw [hlen]; omega
  have HT : Hid ((b ++ k :: r).take b.length ++ (b ++ k :: r).drop (b.length + 1) = b ++ r) := by
    show _ = _
    rw [List.take_append_of_le_length (Nat.le_refl _), List.take_length, List.drop_append, List.drop_of_length_le (by omega), show b.length + 1 - b.length = 1 by omega]
    rfl
  have HPl : Hid (plc (b ++ k :: r).length ((b.length : Nat) : Int) = some b.length) := by
    show _ = _
    unfold plc
    rw [hlen, if_pos (by omega), if_pos (by omega)]
    rfl
  have HNd : Hid ((b ++ r).Nodup) := by
    show List.Nodup _
    have := nodup_rem h.nod k
    rw [remM_mid h.nod] at this
    exact this
  obtain ⟨q, hq⟩ : ∃ q, b.length = q := ⟨_, rfl⟩
  rw [hq] at HF HT HG HPl
  have hq2 : q ≤ 512 := by omega
  clear h hq hl2 hlen
  go_enter Tryz.func24, Tryz.ntmps24
  go_wp2_with fail
  refine HP.mono ?_
  rintro e w1 ⟨rfl, rfl⟩
  go_wp2_with fail
  refine HF.mono ?_
  rintro e w2 ⟨rfl, hb⟩
  have HB : Hid (Below w1.heap.size w1 w2) := hb
  have hS2 := HSm.out.keep hb
  have hc := hS2.blk.cs
  have HD := Delete_some B p a n c (b ++ k :: r) (q : Int) q 1 w2 hS2.pk HSm.out.fit (by have := HSm.out.max; omega) (by omega) HPl.out
  rw [HG.out, HT.out] at HD
  have HS2 : Hid (Small w2 B m x E T p a n c (b ++ k :: r)) := hS2
  clear hb hS2
  go_wp2_with fail
  refine HD.mono ?_
  rintro e w3 ht
  have HR : Hid (SmallTo w1 w3 B m x E T p a (b ++ r)) := SmallTo.after HB.out (HS2.out.to ht (by have := HS2.out.le; simp only [List.length_append, List.length_cons] at this ⊢; omega) (fun s hs => HS2.out.sz s (by rcases List.mem_append.1 hs with h1 | h1 <;> simp [h1])) HNd.out)
  obtain ⟨rfl, -⟩ := ht
  go_wp2
  go_ret
  exact ⟨rfl, HR.out⟩
end Go.Proofs.YtkohjejfkbaffaaGreat

namespace Go.Proofs.YtkohjejfkbaffaaGreat
open Go.RowKit Go.PlainAid
open Dk (En Stay hasK putE delE keysOf Dct Dg dtag Turn)

theorem Pick_lsome (B m x E T d : Nat) (D : Dg) (n : Nat) (w : World) (h : Large w B m x E T d D) (h0 : 0 < (keysOf D.es).length) (hn : n < 18446744073709551616) :
    Calls Tryz.prog 23 #[ptr m, .int .u64 n] w fun e w' => e = .returned (.tuple #[.string (Dk.pickK D n), .bool true]) ∧ Below w.heap.size w w' := by
  have hc := h.blk.cl
  have HP := Packed_no m x E T d _ w h.blk
  have HG := Dk.Pick_some B d x D n w h.dc (by rw [keysOf, List.length_map] at h0; exact h0) hn
  generalize Dk.pickK D n = k at HG ⊢
  clear h h0
  go_enter Tryz.func23, Tryz.ntmps23
  go_wp2_with fail
  refine HP.mono ?_
  rintro e w1 ⟨rfl, rfl⟩
  go_wp2_with fail
  refine HG.mono ?_
  rintro e w2 ⟨rfl, hb⟩
  have HB : Hid (Below w1.heap.size w1 w2) := hb
  clear hb
  go_wp2
  go_ret2
  exact ⟨rfl, HB.out⟩
theorem Pick_lnone (B m x E T d : Nat) (D : Dg) (n : Nat) (w : World) (h : Large w B m x E T d D) (h0 : (keysOf D.es).length = 0) :
    Calls Tryz.prog 23 #[ptr m, .int .u64 n] w fun e w' => e = .returned (.tuple #[.string ⟨#[]⟩, .bool false]) ∧ Below w.heap.size w w' := by
  have hc := h.blk.cl
  have HP := Packed_no m x E T d _ w h.blk
  have HG := Dk.Pick_none B d x D n w h.dc (by rw [keysOf, List.length_map] at h0; exact h0)
  clear h h0
  go_enter Tryz.func23, Tryz.ntmps23
  go_wp2_with fail
  refine HP.mono ?_
  rintro e w1 ⟨rfl, rfl⟩
  go_wp2_with fail
  refine HG.mono ?_
  rintro e w2 ⟨rfl, rfl⟩
  go_wp2
  go_ret2
  exact ⟨rfl, Below.refl _ _⟩
theorem pickK_mem {w : World} {B d x : Nat} {D : Dg} (h : Dct w B d x D) (n : Nat) (h0 : 0 < (keysOf D.es).length) : Dk.pickK D n ∈ keysOf D.es := by
  have hp : (keysOf (Dk.esL (Dk.ordU D.L (2 ^ D.g)))).Perm (keysOf D.es) := (h.ord_perm.flatMap_right Dk.Lf.es).map Prod.fst
  unfold Dk.pickK
  have hl := hp.length_eq
  have h1 : D.es.length = (keysOf D.es).length := by rw [keysOf, List.length_map]
  have h2 := Nat.mod_lt n h0
  rw [h1, List.getD_eq_getElem?_getD, List.getElem?_eq_getElem (by omega)]
  exact hp.mem_iff.1 (List.getElem_mem _)
theorem Pick_snone (B m x E T p : Nat) (a : Option Addr) (n c : Nat) (l : List ByteArray) (N : Nat) (w : World) (h : Small w B m x E T p a n c l) (h0 : l.length = 0) :
    Calls Tryz.prog 23 #[ptr m, .int .u64 N] w fun e w' => e = .returned (.tuple #[.string ⟨#[]⟩, .bool false]) ∧ Below w.heap.size w w' := by
  have HP := Packed_yes m x E T _ w h.blk
  have HL := Len_small B m x E T p a n c l w h
  rw [h0] at HL
  clear h h0
  go_enter Tryz.func23, Tryz.ntmps23
  go_wp2_with fail
  refine HP.mono ?_
  rintro e w1 ⟨rfl, rfl⟩
  go_wp2_with fail
  refine HL.mono ?_
  rintro e w2 ⟨rfl, rfl⟩
  go_wp2
  go_ret2
  exact ⟨rfl, Below.refl _ _⟩
set_option maxRecDepth 100000 in
set_option maxHeartbeats 4000000 in
theorem Pick_ssome (B m x E T p : Nat) (a : Option Addr) (n c : Nat) (l : List ByteArray) (N : Nat) (w : World) (h : Small w B m x E T p a n c l) (h0 : 0 < l.length) :
    Calls Tryz.prog 23 #[ptr m, .int .u64 N] w fun e w' => e = .returned (.tuple #[.string (txt l (N % l.length)), .bool true]) ∧ Below w.heap.size w w' := by
  have HP := Packed_yes m x E T _ w h.blk
  have HL := fun q => Len_small B m x E T p a n c l (w.drewN q) (h.keep (below_drewN w q))
  have hl5 : l.length ≤ 512 := by have := h.le; have := h.hE; omega
  have hmt : N % l.length < l.length := Nat.mod_lt _ h0
  have HA := At_some B p a n c l ((N % l.length : Nat) : Int) (N % l.length) w.drew (h.keep (below_drewN w 1)).pk h.fit (by omega) (by unfold plc; rw [if_pos (by omega), if_pos (by omega)]; rfl)
  have HSd : Hid (w.drew.cell? ⟨m, 3, none⟩ = some (ptr p)) := (h.blk.keep (below_drewN w 1)).cs
  have HBd : Hid (Below w.heap.size w w.drew) := below_drewN w 1
  obtain ⟨q, hq⟩ : ∃ q, l.length = q := ⟨_, rfl⟩
  rw [hq] at HL hl5 hmt HA h0 ⊢
  have hmz : (N : Int) % (q : Int) = ((N % q : Nat) : Int) := by simp
  have hmz2 : (N : Int).tmod (q : Int) = ((N % q : Nat) : Int) := by exact (Int.ofNat_tmod N q).symm
  generalize N % q = r at hmt hmz hmz2 HA ⊢
  generalize txt l r = k at HA ⊢
  have hcz : ((q : Int) == 0) = false := by simp; omega
  have hw1 : IntKind.u64.wrap (q : Int) = q := by rw [IntKind.wrap_u64]; omega
  have hw2 : IntKind.i64.wrap (r : Int) = r := by rw [IntKind.wrap_i64]; omega
  have HL0 := HL 0
  have HL1 := HL 1
  replace HL0 : Calls Tryz.prog 13 #[ptr m] w fun e w' => e = .returned (.int .i64 (q : Nat)) ∧ w' = w := HL0
  replace HL1 : Calls Tryz.prog 13 #[ptr m] w.drew fun e w' => e = .returned (.int .i64 (q : Nat)) ∧ w' = w.drew := HL1
  clear h hq HL
  go_enter Tryz.func23, Tryz.ntmps23
  go_wp2_with fail
  refine HP.mono ?_
  rintro e w1 ⟨rfl, rfl⟩
  go_wp2_with fail
  refine HL0.mono ?_
  rintro e w2 ⟨rfl, rfl⟩
  clear HL0 HP
  go_wp2_with fail
  have hsd := HSd.out
  go_region_with (first
    | (go_at_call 13; refine HL1.mono ?_; rintro e wx ⟨rfl, rfl⟩)
    | (go_at_call 46; refine HA.mono ?_; rintro e wz ⟨hb, rfl⟩; have HR := step_below HBd hb; clear hb))
  all_goals
    go_wp2
    go_ret2
    exact ⟨rfl, HR.out⟩

theorem Scan_small (B m x E T p : Nat) (a : Option Addr) (n c : Nat) (l : List ByteArray) (cur : Nat) (count : Int) (w : World) (h : Small w B m x E T p a n c l) :
    Calls Tryz.prog 56 #[ptr m, .int .u64 cur, .int .i64 count] w fun e w' => Below w.heap.size w w' ∧ ∃ a n c, e = .returned (.tuple #[.slice a n c, .int .u64 0]) ∧ OwnS w' w.heap.size a n c l := by
  have HP := Packed_yes m x E T _ w h.blk
  have HA := All_small B m x E T p a n c l w h
  clear h
  go_enter Tryz.func56, Tryz.ntmps56
  go_wp2_with fail
  refine HP.mono ?_
  rintro e w1 ⟨rfl, rfl⟩
  go_wp2_with fail
  refine HA.mono ?_
  rintro e w2 ⟨hb, a, n, c, rfl, hO⟩
  have HR : Hid (Below w1.heap.size w1 w2 ∧ OwnS w2 w1.heap.size a n c l) := ⟨hb, hO⟩
  clear hb hO
  go_wp2
  go_ret2
  exact ⟨HR.out.1, a, n, c, rfl, HR.out.2⟩

/-- The block of a copy, as it is made first. -/
abbrev cblk (x E T : Nat) : Array Value := #[.int .u64 (x : Nat), .int .i64 (E : Nat), .int .i64 (T : Nat), .pointer none, .pointer none]
theorem Hb.new (w : World) (x E T : Nat) : Hb (w.alloc (.cells (cblk x E T) 70)) w.heap.size x E T (.pointer none) (.pointer none) := ⟨heap_alloc_new w _⟩

set_option maxRecDepth 100000 in
set_option maxHeartbeats 4000000 in
theorem Copy_small (B m x E T p : Nat) (a : Option Addr) (n c : Nat) (l : List ByteArray) (w : World) (h : Small w B m x E T p a n c l) :
    Calls Tryz.prog 25 #[ptr m] w fun e w' => Below w.heap.size w w' ∧ ∃ m' p' a' n' c', e = .returned (ptr m') ∧ Small w' w.heap.size m' x E T p' a' n' c' l := by
  have HS : Hid (Small w B m x E T p a n c l) := h
  obtain ⟨wa, hwa⟩ : ∃ wa, wa = (w.alloc (.cells (cblk x E T) 70)).drew := ⟨_, rfl⟩
  have hba : Below w.heap.size w wa := by rw [hwa]; exact (alloc_below w _).trans ((below_drewN _ 1).mono (alloc_below w _).size)
  have HBa : Hid (Below w.heap.size w wa) := hba
  have HNew : Hid (Hb wa w.heap.size x E T (.pointer none) (.pointer none)) := by rw [hwa]; exact (Hb.new w x E T).keep (below_drewN _ 1)
  have hb0 : Below w.heap.size w w.drew := below_drewN w 1
  have hd0 := (h.blk.keep hb0).cx
  have hd1 := (h.blk.keep hb0).cE
  have hd2 := (h.blk.keep hb0).cT
  have HSa := h.keep hba
  have HP := Packed_yes m x E T _ wa HSa.blk
  have hcs := HSa.blk.cs
  have HC := Copy_any B p a n c l wa HSa.pk (by have := h.max; omega)
  clear h hb0 HSa hba
  go_enter Tryz.func25, Tryz.ntmps25
  go_wp2_with fail
  go_region
  rw [← hwa]
  have hlt : w.heap.size < wa.heap.size := HNew.out.lt
  clear hwa
  go_wp2_with fail
  refine HP.mono ?_
  rintro e w1 ⟨rfl, rfl⟩
  go_wp2_with fail
  refine HC.mono ?_
  rintro e w2 ⟨hb, p', a', n', c', rfl, hP⟩
  have hN2 := HNew.out.keep hb
  have hc3 := hN2.cs
  have hf3 := hN2.fz 3
  have HR : Hid (Small (w2.setCell ⟨w.heap.size, 3, none⟩ (ptr p')) w.heap.size w.heap.size x E T p' a' n' c' l) := by
    have hst : Stay w2 (w2.setCell ⟨w.heap.size, 3, none⟩ (ptr p')) [w.heap.size] := Stay.set
    have hpl := hP.low
    refine Small.mk (hN2.setS _) ⟨?_, Nat.le_trans (Nat.le_of_lt hlt) hpl, ?_⟩ (Nat.le_refl _) HS.out.le HS.out.sz HS.out.nod HS.out.hE HS.out.hT
    · rw [hst.block p' hP.lt (by simp only [List.mem_singleton]; omega)]; exact hP.blk
    · exact Dk.OwnR.low (Dk.OwnR.stay (hP.own : Dk.OwnR w2 w1.heap.size 5 1 a' n' c' _) hst (fun k hk hm => by have := (Dk.OwnR.lt (hP.own : Dk.OwnR w2 w1.heap.size 5 1 a' n' c' _) hk).1; simp only [List.mem_singleton] at hm; omega)) (Nat.le_of_lt hlt)
  have HB2 := step_below HBa hb
  have HB3 : Hid (Below w.heap.size w (w2.setCell ⟨w.heap.size, 3, none⟩ (ptr p'))) := HB2.out.trans ((Stay.set (w := w2) (q := w.heap.size) (o := 3) (v := ptr p')).below (fun i hi => by simp only [List.mem_singleton] at hi; omega) HB2.out.size)
  clear hb hP hN2 HC
  go_wp2
  go_ret
  exact ⟨HB3.out, _, p', a', n', c', rfl, HR.out⟩

set_option maxRecDepth 100000 in
set_option maxHeartbeats 4000000 in
theorem Copy_large (B m x E T d : Nat) (D : Dg) (w : World) (h : Large w B m x E T d D) (hle : (keysOf D.es).length < 1000000) :
    Calls Tryz.prog 25 #[ptr m] w fun e w' => Below w.heap.size w w' ∧ ∃ m' d' D', e = .returned (ptr m') ∧ Large w' w.heap.size m' x E T d' D' ∧ (keysOf D'.es).Perm (keysOf D.es) := by
  have HS : Hid (Large w B m x E T d D) := h
  obtain ⟨wa, hwa⟩ : ∃ wa, wa = (w.alloc (.cells (cblk x E T) 70)).drew := ⟨_, rfl⟩
  have hba : Below w.heap.size w wa := by rw [hwa]; exact (alloc_below w _).trans ((below_drewN _ 1).mono (alloc_below w _).size)
  have HBa : Hid (Below w.heap.size w wa) := hba
  have HNew : Hid (Hb wa w.heap.size x E T (.pointer none) (.pointer none)) := by rw [hwa]; exact (Hb.new w x E T).keep (below_drewN _ 1)
  have hb0 : Below w.heap.size w w.drew := below_drewN w 1
  have hd0 := (h.blk.keep hb0).cx
  have hd1 := (h.blk.keep hb0).cE
  have hd2 := (h.blk.keep hb0).cT
  have HSa := h.keep hba
  have HP := Packed_no m x E T d _ wa HSa.blk
  have hbd : Below wa.heap.size wa wa.drew := below_drewN wa 1
  have HBd : Hid (Below w.heap.size w wa.drew) := hba.trans (hbd.mono hba.size)
  have HBe : Hid (Below wa.heap.size wa wa.drew) := hbd
  have hcd := (HSa.keep hbd).blk.cx
  have HA := All_large B m x E T d D wa.drew (HSa.keep hbd)
  have hxs := h.dc.seed
  have HLe : Hid ((keysOf D.es).length < 1000000) := hle
  clear h hb0 HSa hba hbd
  go_enter Tryz.func25, Tryz.ntmps25
  go_wp2_with fail
  go_region
  rw [← hwa]
  have hlt : w.heap.size < wa.heap.size := HNew.out.lt
  clear hwa
  go_wp2_with fail
  refine HP.mono ?_
  rintro e w1 ⟨rfl, rfl⟩
  go_upto_region 4 with fail
  go_cut [24, 31] from 25 to 33 (fun u24 u31 wx => ∃ wy w3 d' D', wy = wx ∧ wy = w3.setCell ⟨w.heap.size, 4, none⟩ (ptr d') ∧ Hid (Below w.heap.size w w3) ∧ Hid (Hb w3 w.heap.size x E T (.pointer none) (.pointer none)) ∧ Hid (Dct w3 w1.heap.size d' x D') ∧ Hid ((keysOf D'.es).Perm (keysOf D.es)))
  case first =>
    go_region_with (first
      | (go_at_call 21; refine HA.mono ?_; rintro e w2 ⟨hb, a2, n2, c2, fs, rfl, hO2, hp2⟩; have HB2 := step_below HBd hb; have HBf := step_below HBe hb; have HO2 : Hid (OwnS w2 w1.heap.size a2 n2 c2 fs ∧ fs.Perm (keysOf D.es)) := ⟨hO2, hp2⟩; have hcx := (HS.out.keep HB2.out).blk.cx; clear hb hO2 hp2)
      | (go_at_call 51; refine (dictOf_any w1.heap.size x a2 n2 c2 fs _ hxs HO2.out.1 (HS.out.sz.perm HO2.out.2.symm) (HO2.out.2.nodup_iff.2 HS.out.dc.nodk) (by have := HO2.out.2.length_eq; have := HO2.out.1.len; have := HLe.out; omega)).mono ?_; rintro e w3 ⟨hb, d', D', rfl, hD3, hp3⟩; have HB3 := step_below HB2 hb; have HBu := step_below HBf hb; have HD3 : Hid (Dct w3 w1.heap.size d' x D') := Dct.lower hD3 HBf.out.size; have HE3 : Hid ((keysOf D'.es).Perm (keysOf D.es)) := hp3.trans HO2.out.2; have hcl := (HNew.out.keep HBu.out).cl; have hfl := (HNew.out.keep HBu.out).fz 4; clear hb hD3 hp3))
    all_goals
      go_wp2
      go_meet
      exact ⟨_, w3, d', D', rfl, rfl, HB3, HNew.out.keep HBu.out, HD3, HE3⟩
  case rest =>
  obtain ⟨wx, w3, d', D', rfl, hwx, HB3, HN3, HD3, HE3⟩ := hcut
  have HR : Hid (Large wx w.heap.size w.heap.size x E T d' D') := by
    have hst : Stay w3 (w3.setCell ⟨w.heap.size, 4, none⟩ (ptr d')) [w.heap.size] := Stay.set
    rw [hwx]
    refine Large.mk (HN3.out.setL _) (Dct.lower (HD3.out.stay hst (fun k hk hm => by have := (HD3.out.fplt k hk).1; simp only [List.mem_singleton] at hm; omega)) (Nat.le_of_lt hlt)) (Nat.le_refl _) (HS.out.sz.perm HE3.out.symm) HS.out.hE HS.out.hT
  have HB4 : Hid (Below w.heap.size w wx) := by
    rw [hwx]
    exact HB3.out.trans ((Stay.set (w := w3) (q := w.heap.size) (o := 4) (v := ptr d')).below (fun i hi => by simp only [List.mem_singleton] at hi; omega) HB3.out.size)
  clear hwx HA
  go_wp2
  go_ret
  exact ⟨HB4.out, _, d', D', rfl, HR.out, HE3.out⟩
end Go.Proofs.YtkohjejfkbaffaaGreat

namespace Go.Proofs.YtkohjejfkbaffaaGreat
open Go.RowKit Go.PlainAid
open Dk (En Stay hasK putE delE keysOf Dct Dg dtag Turn)

/-- The types of a set's blocks. -/
def htag (t : TypeId) : Bool := dtag t || t == 70 || t == 89 || t == 5
/-- A set at m, with the seed x and the limits E and T: it has l, is packed or not, lies in the blocks F. -/
def Ss (w : World) (B m x E T : Nat) (l : List ByteArray) (pk : Bool) (F : List Nat) : Prop :=
  x < 18446744073709551616 ∧ B ≤ w.heap.size ∧ ((pk = true ∧ ∃ p a n c r, Small w B m x E T p a n c r ∧ r.Perm l ∧ F = m :: pfp p a) ∨ (pk = false ∧ ∃ d D, Large w B m x E T d D ∧ (keysOf D.es).Perm l ∧ F = m :: d :: D.pb :: Dk.fpL D.L))
theorem Ss.keep {w wn : World} {B m x E T : Nat} {l : List ByteArray} {pk : Bool} {F : List Nat} (h : Ss w B m x E T l pk F) (hb : Below w.heap.size w wn) : Ss wn B m x E T l pk F := by
  obtain ⟨h1, h2, h3⟩ := h
  refine ⟨h1, Nat.le_trans h2 hb.size, ?_⟩
  rcases h3 with ⟨h3, p, a, n, c, fs, h4, h5⟩ | ⟨h3, d, D, h4, h5⟩
  · exact .inl ⟨h3, p, a, n, c, fs, h4.keep hb, h5⟩
  · exact .inr ⟨h3, d, D, h4.keep hb, h5⟩
theorem Ss.perm {w : World} {B m x E T : Nat} {l r : List ByteArray} {pk : Bool} {F : List Nat} (h : Ss w B m x E T l pk F) (hp : l.Perm r) : Ss w B m x E T r pk F := by
  obtain ⟨h1, h2, h3⟩ := h
  refine ⟨h1, h2, ?_⟩
  rcases h3 with ⟨h3, p, a, n, c, gs, h4, h5, h6⟩ | ⟨h3, d, D, h4, h5, h6⟩
  · exact .inl ⟨h3, p, a, n, c, gs, h4, h5.trans hp, h6⟩
  · exact .inr ⟨h3, d, D, h4, h5.trans hp, h6⟩
theorem Ss.nod {w : World} {B m x E T : Nat} {l : List ByteArray} {pk : Bool} {F : List Nat} (h : Ss w B m x E T l pk F) : l.Nodup := by
  obtain ⟨h1, h2, h3⟩ := h
  rcases h3 with ⟨h3, p, a, n, c, fs, h4, h5, h6⟩ | ⟨h3, d, D, h4, h5, h6⟩
  · exact h5.nodup_iff.1 h4.nod
  · exact h5.nodup_iff.1 h4.dc.nodk
theorem Ss.sz {w : World} {B m x E T : Nat} {l : List ByteArray} {pk : Bool} {F : List Nat} (h : Ss w B m x E T l pk F) : Szs 4096 l := by
  obtain ⟨h1, h2, h3⟩ := h
  rcases h3 with ⟨h3, p, a, n, c, fs, h4, h5, h6⟩ | ⟨h3, d, D, h4, h5, h6⟩
  · exact (h4.sz.mono (by have := h4.hT; omega)).perm h5
  · exact h4.sz.perm h5
theorem Ss.lim {w : World} {B m x E T : Nat} {l : List ByteArray} {pk : Bool} {F : List Nat} (h : Ss w B m x E T l pk F) : E ≤ 512 ∧ T ≤ 60 := by
  obtain ⟨h1, h2, h3⟩ := h
  rcases h3 with ⟨h3, p, a, n, c, fs, h4, h5, h6⟩ | ⟨h3, d, D, h4, h5, h6⟩
  · exact ⟨h4.hE, h4.hT⟩
  · exact ⟨h4.hE, h4.hT⟩
theorem Ss.le {w : World} {B m x E T : Nat} {l : List ByteArray} {F : List Nat} (h : Ss w B m x E T l true F) : l.length ≤ E ∧ Szs T l := by
  obtain ⟨h1, h2, h3⟩ := h
  rcases h3 with ⟨h3, p, a, n, c, fs, h4, h5, h6⟩ | ⟨h3, d, D, h4, h5, h6⟩
  · exact ⟨by rw [← h5.length_eq]; exact h4.le, h4.sz.perm h5⟩
  · cases h3
theorem Ss.lt {w : World} {B m x E T : Nat} {l : List ByteArray} {pk : Bool} {F : List Nat} (h : Ss w B m x E T l pk F) : B ≤ m ∧ m < w.heap.size := by
  obtain ⟨h1, h2, h3⟩ := h
  rcases h3 with ⟨h3, p, a, n, c, fs, h4, h5, h6⟩ | ⟨h3, d, D, h4, h5, h6⟩
  · exact ⟨h4.low, h4.blk.lt⟩
  · exact ⟨h4.low, h4.blk.lt⟩
/-- It may have no more than this. -/
theorem Ss.most {w : World} {B m x E T : Nat} {l : List ByteArray} {pk : Bool} {F : List Nat} (h : Ss w B m x E T l pk F) : l.length ≤ 1000000 := by
  obtain ⟨h1, h2, h3⟩ := h
  rcases h3 with ⟨h3, p, a, n, c, fs, h4, h5, h6⟩ | ⟨h3, d, D, h4, h5, h6⟩
  · have := h4.le; have := h4.hE; have := h5.length_eq; omega
  · have := h4.dc.le; have := h5.length_eq; rw [keysOf, List.length_map] at this; omega
theorem mem_pfp {p : Nat} {a : Option Addr} {k : Nat} (h : k ∈ pfp p a) : k = p ∨ a.map (·.block) = some k := by
  unfold pfp at h
  rcases List.mem_cons.1 h with h | h
  · exact .inl h
  · exact .inr (Option.mem_toList.1 h)
theorem pfp_mem {p : Nat} {a : Option Addr} {k : Nat} (h : k = p ∨ a.map (·.block) = some k) : k ∈ pfp p a := by
  unfold pfp
  rcases h with h | h
  · exact List.mem_cons.2 (.inl h)
  · exact List.mem_cons.2 (.inr (Option.mem_toList.2 h))
/-- Each of its blocks: where it may lie, of what type it is. -/
theorem Ss.tags {w : World} {B m x E T : Nat} {l : List ByteArray} {pk : Bool} {F : List Nat} (h : Ss w B m x E T l pk F) : ∀ k ∈ F, B ≤ k ∧ k < w.heap.size ∧ ∃ cs t, w.heap[k]? = some (.cells cs t (0, 0)) ∧ htag t = true := by
  obtain ⟨h1, h2, h3⟩ := h
  intro k hk
  rcases h3 with ⟨h3, p, a, n, c, fs, h4, h5, rfl⟩ | ⟨h3, d, D, h4, h5, rfl⟩
  · rcases List.mem_cons.1 hk with rfl | hk
    · exact ⟨h4.low, h4.blk.lt, _, _, h4.blk.blk, rfl⟩
    rcases mem_pfp hk with rfl | hk
    · exact ⟨h4.pk.low, h4.pk.lt, _, _, h4.pk.blk, rfl⟩
    · obtain ⟨k1, k2, cur, k3⟩ := Dk.OwnR.lt (h4.pk.own : Dk.OwnR w B 5 1 a n c _) hk
      exact ⟨k1, k2, _, _, k3, rfl⟩
  · rcases List.mem_cons.1 hk with rfl | hk
    · exact ⟨h4.low, h4.blk.lt, _, _, h4.blk.blk, rfl⟩
    · obtain ⟨cs, t, k1, k2⟩ := h4.dc.tags k hk
      exact ⟨(h4.dc.fplt k hk).1, (h4.dc.fplt k hk).2, cs, t, k1, by unfold htag; rw [k2]; rfl⟩
theorem Ss.stay {w w' : World} {B m x E T : Nat} {l : List ByteArray} {pk : Bool} {F M : List Nat} (h : Ss w B m x E T l pk F) (hs : Stay w w' M) (hd : ∀ k ∈ F, k ∉ M) : Ss w' B m x E T l pk F := by
  obtain ⟨h1, h2, h3⟩ := h
  refine ⟨h1, Nat.le_trans h2 hs.size, ?_⟩
  rcases h3 with ⟨h3, p, a, n, c, fs, h4, h5, rfl⟩ | ⟨h3, d, D, h4, h5, rfl⟩
  · refine .inl ⟨h3, p, a, n, c, fs, ⟨h4.blk.kept (hs.block m h4.blk.lt (hd m (by simp))), ⟨?_, h4.pk.low, ?_⟩, h4.low, h4.le, h4.sz, h4.nod, h4.hE, h4.hT⟩, h5, rfl⟩
    · rw [hs.block p h4.pk.lt (hd p (List.mem_cons_of_mem _ (pfp_mem (.inl rfl))))]; exact h4.pk.blk
    · exact Dk.OwnR.stay (h4.pk.own : Dk.OwnR w B 5 1 a n c _) hs (fun k hk => hd k (List.mem_cons_of_mem _ (pfp_mem (.inr hk))))
  · exact .inr ⟨h3, d, D, ⟨h4.blk.kept (hs.block m h4.blk.lt (hd m (by simp))), h4.dc.stay hs (fun k hk => hd k (List.mem_cons_of_mem _ hk)), h4.low, h4.sz, h4.hE, h4.hT⟩, h5, rfl⟩
/-- A lower bound of its blocks. -/
theorem Ss.lower {w : World} {B C m x E T : Nat} {l : List ByteArray} {pk : Bool} {F : List Nat} (h : Ss w B m x E T l pk F) (hC : C ≤ B) : Ss w C m x E T l pk F := by
  obtain ⟨h1, h2, h3⟩ := h
  refine ⟨h1, Nat.le_trans hC h2, ?_⟩
  rcases h3 with ⟨h3, p, a, n, c, fs, h4, h5, rfl⟩ | ⟨h3, d, D, h4, h5, rfl⟩
  · exact .inl ⟨h3, p, a, n, c, fs, ⟨h4.blk, h4.pk.low' hC, Nat.le_trans hC h4.low, h4.le, h4.sz, h4.nod, h4.hE, h4.hT⟩, h5, rfl⟩
  · exact .inr ⟨h3, d, D, ⟨h4.blk, Dct.lower h4.dc hC, Nat.le_trans hC h4.low, h4.sz, h4.hE, h4.hT⟩, h5, rfl⟩

/-- What a call leaves that turns a set. -/
def STo (w w' : World) (B m x E T : Nat) (l : List ByteArray) (pk : Bool) (F : List Nat) : Prop := ∃ F', Ss w' B m x E T l pk F' ∧ Stay w w' F ∧ (∀ k ∈ F', k ∈ F ∨ w.heap.size ≤ k)
theorem STo.below {w w' : World} {B m x E T : Nat} {l r : List ByteArray} {pk pk' : Bool} {F : List Nat} (h : STo w w' B m x E T l pk F) (h0 : Ss w B m x E T r pk' F) : Below B w w' := by
  obtain ⟨F', -, h2, -⟩ := h
  exact h2.below (fun k hk => (h0.tags k hk).1) h0.2.1
theorem STo.same {w w' : World} {B m x E T : Nat} {l : List ByteArray} {pk : Bool} {F : List Nat} (h : Ss w B m x E T l pk F) (hb : Below w.heap.size w w') : STo w w' B m x E T l pk F := ⟨F, h.keep hb, Stay.of_below hb F, fun _ hk => .inl hk⟩
theorem SmallTo.hto {w w' : World} {B m x E T p : Nat} {a : Option Addr} {l r : List ByteArray} (h : SmallTo w w' B m x E T p a r) (hp : r.Perm l) (hx : x < 18446744073709551616) (hB : B ≤ w.heap.size) : STo w w' B m x E T l true (m :: pfp p a) := by
  obtain ⟨hm, a', n', c', h1, h2⟩ := h
  refine ⟨m :: pfp p a', ⟨hx, Nat.le_trans hB hm.size, .inl ⟨rfl, p, a', n', c', r, h1, hp, rfl⟩⟩, ⟨hm.os, hm.tape, hm.output, hm.size, fun k hk hn => hm.block k hk (fun e => hn (List.mem_cons_of_mem _ (pfp_mem (.inl e)))) (fun e => hn (List.mem_cons_of_mem _ (pfp_mem (.inr e.symm))))⟩, ?_⟩
  intro k hk
  rcases List.mem_cons.1 hk with rfl | hk
  · exact .inl (by simp)
  rcases mem_pfp hk with rfl | hk
  · exact .inl (List.mem_cons_of_mem _ (pfp_mem (.inl rfl)))
  · exact (h2.blk hk).imp (fun h => List.mem_cons_of_mem _ (pfp_mem (.inr h))) id
theorem turn_hto {w w' : World} {B m x E T d : Nat} {D D' : Dg} {l : List ByteArray} (hT : Turn w w' B d x D D') (h : Large w' B m x E T d D') (hp : (keysOf D'.es).Perm l) (hx : x < 18446744073709551616) (hB : B ≤ w.heap.size) : STo w w' B m x E T l false (m :: d :: D.pb :: Dk.fpL D.L) := by
  refine ⟨_, ⟨hx, Nat.le_trans hB hT.stay.size, .inr ⟨rfl, d, D', h, hp, rfl⟩⟩, hT.stay.mono (fun k hk => List.mem_cons_of_mem _ hk), ?_⟩
  intro k hk
  rcases List.mem_cons.1 hk with rfl | hk
  · exact .inl (by simp)
  · exact (hT.fps k hk).imp (fun h => List.mem_cons_of_mem _ h) id

theorem NewS (x : Nat) (e t : Int) (w : World) (hx : x < 18446744073709551616) :
    Calls Tryz.prog 10 #[.int .u64 x, .agg #[.int .i64 e, .int .i64 t]] w fun en w' => Below w.heap.size w w' ∧ ∃ m F, en = .returned (ptr m) ∧ Ss w' w.heap.size m x (lim e 512) (lim t 60) [] true F := by
  refine (New_hm x e t w).mono ?_
  rintro en w' ⟨hb, m, p, a, n, c, rfl, h⟩
  exact ⟨hb, m, _, rfl, hx, hb.size, .inl ⟨rfl, p, a, n, c, [], h, List.Perm.refl _, rfl⟩⟩
theorem PackedS (B m x E T : Nat) (l : List ByteArray) (pk : Bool) (F : List Nat) (w : World) (h : Ss w B m x E T l pk F) : Calls Tryz.prog 11 #[ptr m] w fun e w' => e = .returned (.bool pk) ∧ w' = w := by
  obtain ⟨h1, h2, h3⟩ := h
  rcases h3 with ⟨rfl, p, a, n, c, fs, h4, h5, rfl⟩ | ⟨rfl, d, D, h4, h5, rfl⟩
  · exact Packed_yes m x E T _ w h4.blk
  · exact Packed_no m x E T d _ w h4.blk
theorem LenS (B m x E T : Nat) (l : List ByteArray) (pk : Bool) (F : List Nat) (w : World) (h : Ss w B m x E T l pk F) : Calls Tryz.prog 13 #[ptr m] w fun e w' => e = .returned (.int .i64 (l.length : Nat)) ∧ w' = w := by
  obtain ⟨h1, h2, h3⟩ := h
  rcases h3 with ⟨rfl, p, a, n, c, fs, h4, h5, rfl⟩ | ⟨rfl, d, D, h4, h5, rfl⟩
  · rw [← h5.length_eq]; exact Len_small B m x E T p a n c fs w h4
  · rw [← h5.length_eq]; exact Len_large B m x E T d D w h4
theorem AllS (B m x E T : Nat) (l : List ByteArray) (pk : Bool) (F : List Nat) (w : World) (h : Ss w B m x E T l pk F) : Calls Tryz.prog 21 #[ptr m] w fun e w' => Below w.heap.size w w' ∧ ∃ a n c r, e = .returned (.slice a n c) ∧ OwnS w' w.heap.size a n c r ∧ r.Perm l := by
  obtain ⟨h1, h2, h3⟩ := h
  rcases h3 with ⟨rfl, p, a, n, c, fs, h4, h5, rfl⟩ | ⟨rfl, d, D, h4, h5, rfl⟩
  · refine (All_small B m x E T p a n c fs w h4).mono ?_
    rintro e w' ⟨hb, a2, n2, c2, rfl, hO⟩
    exact ⟨hb, a2, n2, c2, fs, rfl, hO, h5⟩
  · refine (All_large B m x E T d D w h4).mono ?_
    rintro e w' ⟨hb, a2, n2, c2, fs, rfl, hO, hp⟩
    exact ⟨hb, a2, n2, c2, fs, rfl, hO, hp.trans h5⟩
theorem HasS (B m x E T : Nat) (l : List ByteArray) (pk : Bool) (F : List Nat) (k : ByteArray) (w : World) (h : Ss w B m x E T l pk F) (hk : k.size ≤ maxLen) : Calls Tryz.prog 27 #[ptr m, .string k] w fun e w' => e = .returned (.bool (hasM l k)) ∧ Below w.heap.size w w' := by
  obtain ⟨h1, h2, h3⟩ := h
  rcases h3 with ⟨rfl, p, a, n, c, fs, h4, h5, rfl⟩ | ⟨rfl, d, D, h4, h5, rfl⟩
  · rw [← hasM_perm h5]
    exact Has_small B m x E T p a n c fs k w h4
  · rw [← hasM_perm h5]
    exact Has_large B m x E T d D k w h4 hk
theorem RemoveS (B m x E T : Nat) (l : List ByteArray) (pk : Bool) (F : List Nat) (k : ByteArray) (w : World) (h : Ss w B m x E T l pk F) (hk : k.size ≤ maxLen) : Calls Tryz.prog 24 #[ptr m, .string k] w fun e w' => e = .returned (.bool (hasM l k)) ∧ STo w w' B m x E T (remM l k) pk F := by
  have h0 := h
  obtain ⟨h1, h2, h3⟩ := h
  rcases h3 with ⟨rfl, p, a, n, c, fs, h4, h5, rfl⟩ | ⟨rfl, d, D, h4, h5, rfl⟩
  · rw [← hasM_perm h5]
    by_cases hm : k ∈ fs
    · rw [hasM_yes hm]
      obtain ⟨b, r, e⟩ := List.append_of_mem hm
      subst e
      refine (Remove_yes B m x E T p a n c b r k w h4).mono ?_
      rintro e w' ⟨rfl, ht⟩
      refine ⟨rfl, ht.hto ?_ h1 h2⟩
      rw [← remM_mid h4.nod]
      exact remM_perm h5 k
    · rw [hasM_no hm]
      refine (Remove_no B m x E T p a n c fs k w h4 hm).mono ?_
      rintro e w' ⟨rfl, hb⟩
      refine ⟨rfl, STo.same (h0.perm ?_) hb⟩
      rw [remM_no (fun hh => hm (h5.mem_iff.2 hh))]
  · rw [← hasM_perm h5]
    refine (Remove_large B m x E T d D k w h4 hk).mono ?_
    rintro e w' ⟨rfl, D', hT, hL, hp⟩
    exact ⟨rfl, turn_hto hT hL (hp.trans (remM_perm h5 k)) h1 h2⟩
/-- Is it packed behind an Add? -/
def pkA (l : List ByteArray) (pk : Bool) (E T : Nat) (k : ByteArray) : Bool := if hasM l k = true then pk else pk && decide (l.length + 1 ≤ E) && decide (k.size ≤ T)
theorem pkA_perm {l r : List ByteArray} (h : l.Perm r) (pk : Bool) (E T : Nat) (k : ByteArray) : pkA l pk E T k = pkA r pk E T k := by
  unfold pkA
  rw [hasM_perm h, h.length_eq]
theorem AddS (B m x E T : Nat) (l : List ByteArray) (pk : Bool) (F : List Nat) (k : ByteArray) (w : World) (h : Ss w B m x E T l pk F) (hk : k.size ≤ 4096) (hle : l.length < 1000000) :
    Calls Tryz.prog 12 #[ptr m, .string k] w fun e w' => e = .returned (.tuple #[.bool (!hasM l k), .int .i64 0]) ∧ STo w w' B m x E T (addM l k) (pkA l pk E T k) F := by
  have h0 := h
  by_cases hm : k ∈ l
  · have hh := hasM_yes hm
    rw [hh, addM_yes hm, show pkA l pk E T k = pk by unfold pkA; rw [if_pos hh]]
    have HH := HasS B m x E T l pk F k w h (by unfold maxLen; omega)
    rw [hh] at HH
    refine (Add_has m k w hk HH).mono ?_
    rintro e w' ⟨rfl, hb⟩
    exact ⟨rfl, STo.same h0 hb⟩
  · have hh := hasM_no hm
    have e1 : pkA l pk E T k = (pk && decide (l.length + 1 ≤ E) && decide (k.size ≤ T)) := by unfold pkA; rw [if_neg (by rw [hh]; decide)]
    rw [hh, addM_no hm, e1]
    obtain ⟨h1, h2, h3⟩ := h
    rcases h3 with ⟨rfl, p, a, n, c, fs, h4, h5, rfl⟩ | ⟨rfl, d, D, h4, h5, rfl⟩
    · have hl5 := h5.length_eq
      have hm2 : k ∉ fs := fun h => hm (h5.mem_iff.1 h)
      by_cases hf : k.size ≤ T ∧ fs.length < E
      · rw [show (true && decide (l.length + 1 ≤ E) && decide (k.size ≤ T)) = true by simp; omega]
        refine (Add_small B m x E T p a n c fs k w h4 hf.1 hm2 hf.2).mono ?_
        rintro e w' ⟨rfl, ht⟩
        exact ⟨rfl, ht.hto (h5.append_right _) h1 h2⟩
      · rw [show (true && decide (l.length + 1 ≤ E) && decide (k.size ≤ T)) = false by simp; omega]
        refine (Add_un B m x E T p a n c fs k w h1 h4 h2 hk hm2 hf).mono ?_
        rintro e w' ⟨rfl, d, D', hL, hp, hs, hn⟩
        refine ⟨rfl, _, ⟨h1, Nat.le_trans h2 hs.size, .inr ⟨rfl, d, D', hL, hp.trans (h5.append_right _), rfl⟩⟩, hs.mono (fun i hi => by simp only [List.mem_singleton] at hi; simp [hi]), ?_⟩
        intro i hi
        rcases List.mem_cons.1 hi with rfl | hi
        · exact .inl (by simp)
        · exact .inr (hn i hi)
    · rw [show (false && decide (l.length + 1 ≤ E) && decide (k.size ≤ T)) = false by simp]
      have hm2 : k ∉ keysOf D.es := fun h => hm (h5.mem_iff.1 h)
      refine (Add_large B m x E T d D k w h4 hk hm2 (by rw [h5.length_eq]; exact hle)).mono ?_
      rintro e w' ⟨rfl, D', hT, hL, hp⟩
      rw [addM_no hm2] at hp
      exact ⟨rfl, turn_hto hT hL (hp.trans (h5.append_right _)) h1 h2⟩
/-- Pick of some: one of the members, the same as long as nothing is turned. -/
theorem PickS_some (B m x E T : Nat) (l : List ByteArray) (pk : Bool) (F : List Nat) (n : Nat) (w : World) (h : Ss w B m x E T l pk F) (h0 : 0 < l.length) (hn : n < 18446744073709551616) :
    ∃ k, k ∈ l ∧ ∀ w1, Below w.heap.size w w1 → Calls Tryz.prog 23 #[ptr m, .int .u64 n] w1 fun e w' => e = .returned (.tuple #[.string k, .bool true]) ∧ Below w1.heap.size w1 w' := by
  obtain ⟨h1, h2, h3⟩ := h
  rcases h3 with ⟨rfl, p, a, q, c, fs, h4, h5, rfl⟩ | ⟨rfl, d, D, h4, h5, rfl⟩
  · have hl := h5.length_eq
    have hlt : n % fs.length < fs.length := Nat.mod_lt _ (by omega)
    refine ⟨txt fs (n % fs.length), h5.mem_iff.1 ?_, fun w1 hb => Pick_ssome B m x E T p a q c fs n w1 (h4.keep hb) (by omega)⟩
    unfold txt
    rw [List.getD_eq_getElem?_getD, List.getElem?_eq_getElem hlt]
    exact List.getElem_mem hlt
  · have hl := h5.length_eq
    exact ⟨Dk.pickK D n, h5.mem_iff.1 (pickK_mem h4.dc n (by omega)), fun w1 hb => Pick_lsome B m x E T d D n w1 (h4.keep hb) (by omega) hn⟩
theorem PickS_none (B m x E T : Nat) (l : List ByteArray) (pk : Bool) (F : List Nat) (n : Nat) (w : World) (h : Ss w B m x E T l pk F) (h0 : l.length = 0) :
    Calls Tryz.prog 23 #[ptr m, .int .u64 n] w fun e w' => e = .returned (.tuple #[.string ⟨#[]⟩, .bool false]) ∧ Below w.heap.size w w' := by
  obtain ⟨h1, h2, h3⟩ := h
  rcases h3 with ⟨rfl, p, a, q, c, fs, h4, h5, rfl⟩ | ⟨rfl, d, D, h4, h5, rfl⟩
  · exact Pick_snone B m x E T p a q c fs n w h4 (by rw [h5.length_eq]; exact h0)
  · exact Pick_lnone B m x E T d D n w h4 (by rw [h5.length_eq]; exact h0)
theorem ScanS (B m x E T : Nat) (l : List ByteArray) (F : List Nat) (cur : Nat) (count : Int) (w : World) (h : Ss w B m x E T l true F) :
    Calls Tryz.prog 56 #[ptr m, .int .u64 cur, .int .i64 count] w fun e w' => Below w.heap.size w w' ∧ ∃ a n c r, e = .returned (.tuple #[.slice a n c, .int .u64 0]) ∧ OwnS w' w.heap.size a n c r ∧ r.Perm l := by
  obtain ⟨h1, h2, h3⟩ := h
  rcases h3 with ⟨-, p, a, q, c, fs, h4, h5, rfl⟩ | ⟨h3, -⟩
  · refine (Scan_small B m x E T p a q c fs cur count w h4).mono ?_
    rintro e w' ⟨hb, a2, n2, c2, rfl, hO⟩
    exact ⟨hb, a2, n2, c2, fs, rfl, hO, h5⟩
  · cases h3
theorem CopyS (B m x E T : Nat) (l : List ByteArray) (pk : Bool) (F : List Nat) (w : World) (h : Ss w B m x E T l pk F) (hle : l.length < 1000000) :
    Calls Tryz.prog 25 #[ptr m] w fun e w' => Below w.heap.size w w' ∧ ∃ m' F', e = .returned (ptr m') ∧ Ss w' w.heap.size m' x E T l pk F' := by
  obtain ⟨h1, h2, h3⟩ := h
  rcases h3 with ⟨rfl, p, a, n, c, fs, h4, h5, rfl⟩ | ⟨rfl, d, D, h4, h5, rfl⟩
  · refine (Copy_small B m x E T p a n c fs w h4).mono ?_
    rintro e w' ⟨hb, m', p', a', n', c', rfl, h6⟩
    exact ⟨hb, m', _, rfl, h1, hb.size, .inl ⟨rfl, p', a', n', c', fs, h6, h5, rfl⟩⟩
  · refine (Copy_large B m x E T d D w h4 (by rw [h5.length_eq]; exact hle)).mono ?_
    rintro e w' ⟨hb, m', d', D', rfl, h6, h7⟩
    exact ⟨hb, m', _, rfl, h1, hb.size, .inr ⟨rfl, d', D', h6, h7.trans h5, rfl⟩⟩
end Go.Proofs.YtkohjejfkbaffaaGreat
