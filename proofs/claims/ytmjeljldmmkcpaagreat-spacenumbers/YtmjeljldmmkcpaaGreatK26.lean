/- Texts that the others stand on. -/
import Derived.Test.YtmjeljldmmkcpaaGreatK25
import Derived.Deep.RegionHeld3
set_option maxRecDepth 100000
set_option maxHeartbeats 4000000
namespace Go.Proofs.YtmjeljldmmkcpaaGreat
open Go.RowKit Go.PlainAid
def PutAt (w : World) (B l R most cnt : Nat) (l1 l2 : List Nd) (s : BA) (w' : World) : Prop :=
 ∃ M1 mid M2, Lst w' B l R most (cnt + 1) (M1 ++ (mid ++ M2)) ∧ Goes w w' l R (l1 ++ l2) (M1 ++ (mid ++ M2)) ∧ Ok most (M1 ++ (mid ++ M2)) ∧ adr M1 = adr l1 ∧ adr M2 = adr l2 ∧ txN M1 ++ (txN mid ++ txN M2) = txN l1 ++ (s :: txN l2)
theorem nodup_inj : ∀ (ns : List Nd), (adr ns).Nodup → ∀ d ∈ ns, ∀ e ∈ ns, d.a = e.a → d = e
 | [], _, _, hd, _, _, _ => absurd hd (by simp)
 | x :: r, h, d, hd, e, he, hda => by
  rw [Ch, List.nodup_cons] at h
  rcases List.mem_cons.1 hd with e1 | hd2
  ·rcases List.mem_cons.1 he with e2 | he2
   ·rw [e1, e2]
   ·have hx : e.a ∈ adr r := List.mem_map_of_mem he2
    rw [← hda, e1] at hx
    exact absurd hx h.1
  ·rcases List.mem_cons.1 he with e2 | he2
   ·have hx : d.a ∈ adr r := List.mem_map_of_mem hd2
    rw [hda, e2] at hx
    exact absurd hx h.1
   ·exact nodup_inj r h.2 d hd2 e he2 hda
theorem Lst.same {w : World} {B l R most cnt : Nat} {ns : List Nd} (h : Lst w B l R most cnt ns) {d e : Nd} (hd : d ∈ ns) (he : e ∈ ns) (ha : d.a = e.a) : d = e :=
 nodup_inj ns (List.nodup_cons.1 h.numA).2 d hd e he ha
theorem Cc : txN [] = [] := rfl
theorem Lst.putFore {w w1 : World} {B l R most cnt : Nat} {k1 l2 : List Nd} {d : Nd} {s : BA} (hok : Ok most (k1 ++ d :: l2)) (hm : d.ls.length < most) (h : Node1 w B l R most cnt k1 l2 d (d.ls ++ [s]) w1) : w1.cell? ⟨l, 1, none⟩ = some (.int .i64 (cnt : Nat)) ∧ w1.frozen? ⟨l, 1, none⟩ = false ∧ PutAt w B l R most cnt (k1 ++ [d]) l2 s (w1.setCell ⟨l, 1, none⟩ (.int .i64 ((cnt + 1 : Nat) : Nat))) := by
 obtain ⟨d', e1, e2, e3, -, h4, h5⟩ := h
 obtain ⟨h6, h7⟩ := h4.count (cnt + 1)
 have es : ∀ x : Nd, k1 ++ x :: l2 = (k1 ++ [x]) ++ ([] ++ l2) := fun x => by simp
 refine ⟨h4.ccnt, h4.frozen 1, k1 ++ [d'], [], l2, ?_, ?_, ?_, ?_, rfl, ?_⟩
 ·rw [← es]; exact h6
 ·rw [← es]
  have : k1 ++ [d] ++ l2 = k1 ++ d :: l2 := by simp
  rw [this]
  exact h5.trans h7
 ·rw [← es]
  refine hok.mid ?_
  rw [e3, List.length_append]
  show 0 < _ + 1 ∧ _ + 1 ≤ _
  omega
 ·rw [Ao, Ao]; simp [adr, e1]
 ·rw [Bf, Bf, Bp, Bp, e3]; simp [Cc]
theorem Lst.putBack {w w1 : World} {B l R most cnt : Nat} {l1 k2 : List Nd} {d : Nd} {s : BA} (hok : Ok most (l1 ++ d :: k2)) (hm : d.ls.length < most) (h : Node1 w B l R most cnt l1 k2 d (s :: d.ls) w1) : w1.cell? ⟨l, 1, none⟩ = some (.int .i64 (cnt : Nat)) ∧ w1.frozen? ⟨l, 1, none⟩ = false ∧ PutAt w B l R most cnt l1 (d :: k2) s (w1.setCell ⟨l, 1, none⟩ (.int .i64 ((cnt + 1 : Nat) : Nat))) := by
 obtain ⟨d', e1, e2, e3, -, h4, h5⟩ := h
 obtain ⟨h6, h7⟩ := h4.count (cnt + 1)
 refine ⟨h4.ccnt, h4.frozen 1, l1, [], d' :: k2, h6, h5.trans h7, hok.mid ?_, rfl, ?_, ?_⟩
 ·rw [e3, List.length_cons]; omega
 ·rw [Ch, Ch, e1]
 ·rw [Bp, Bp, e3]; simp [Cc]
theorem putBehind_fore (B l R most cnt : Nat) (k1 l2 : List Nd) (d : Nd) (s : BA) (w : World) (h : Lst w B l R most cnt (k1 ++ d :: l2)) (hok : Ok most (k1 ++ d :: l2)) (hs : s.size ≤ 4096) (hcnt : cnt ≤ 1000000) (hm : d.ls.length < most) (hn : d.n + (enc (lst s)).length ≤ 65536)
  (HA : ∀ w1, Below w.heap.size w w1 → Calls Tryz.prog 146 #[ptr l, ptr d.a, .string s] w1 fun e w' => Below w1.heap.size w1 w' ∧ e = .returned (.bool true)) :
  Calls Tryz.prog 99 #[ptr l, ptr d.a, .string s] w fun e w' => e = .returned (.tuple #[]) ∧ PutAt w B l R most cnt (k1 ++ [d]) l2 s w' := by
 have HL : Hid (Lst w B l R most cnt (k1 ++ d :: l2)) := h
 have HOk : Hid (Ok most (k1 ++ d :: l2)) := hok
 have HS : Hid (s.size ≤ 4096) := hs
 have HX : Hid (d.n + (pack [s]).length ≤ 65536) := by show _ ≤ _; rw [pack_one]; exact hn
 have HM : Hid (d.ls.length < most) := hm
 have HA0 := HA w (Below.refl _ _)
 clear h hok hs hn hm HA
 go_enter Tryz.func99, Tryz.ntmps99
 go_wp2_with fail
 refine HA0.mono ?_
 rintro e w1 ⟨hb, rfl⟩
 have HB : Hid (Below w.heap.size w w1) := hb
 clear hb HA0
 have HLw : ∀ w', Below w1.heap.size w1 w' → Lst w' B l R most cnt (k1 ++ d :: l2) := fun w' hb => HL.out.keep (HB.out.trans (hb.mono HB.out.size))
 have hbd : Below w1.heap.size w1 w1.drew := Aa w1 1
 have hba : Below w1.heap.size w1 (w1.drew.alloc (.cells #[.string s] 9)) := hbd.trans (Ac w1.drew _)
 have HSd : Hid (w1.drew.cell? ⟨d.a, 0, none⟩ = some (ptr d.p)) := (HLw _ hbd).cpk (by simp)
 have HSa : Hid ((w1.drew.alloc (.cells #[.string s] 9)).cell? ⟨d.a, 0, none⟩ = some (ptr d.p)) := (HLw _ hba).cpk (by simp)
 have HLd := Len_any B d.p d.r d.n d.c d.ls w1.drew ((HLw _ hbd).nod d (by simp)).pk
 have HLa := Len_any B d.p d.r d.n d.c d.ls (w1.drew.alloc (.cells #[.string s] 9)) ((HLw _ hba).nod d (by simp)).pk
 have HI := Insert_nd B l R most cnt k1 l2 d d.ls.length (some ⟨w1.drew.heap.size, 0, none⟩) 1 1 [s] (w1.drew.alloc (.cells #[.string s] 9)) (HLw _ hba) (Nat.le_refl _) (RdS.box w1.drew s) (fit_one HS.out) (by decide) HX.out
 rw [List.take_length, List.drop_length, List.append_nil] at HI
 have HBa : Hid (Below w.heap.size w (w1.drew.alloc (.cells #[.string s] 9))) := HB.out.trans (hba.mono HB.out.size)
 generalize d.ls.length = k at HLd HLa HI
 clear HLw hbd hba
 go_upto_region 4 with fail
 go_region_held3 (fun w' => w'.cell? ⟨d.a, 0, none⟩ = some (ptr d.p)) (first | exact HSd.out | exact HSa.out | exact HSz.out) (first
  | (go_at_call 148; refine HLd.mono ?_; rintro e wx ⟨rfl, rfl⟩)
  | (go_at_call 148; refine HLa.mono ?_; rintro e wx ⟨rfl, rfl⟩)
  | (go_at_call 147; refine HI.mono ?_; rintro e wz ⟨rfl, hN⟩; have HN : Hid (Node1 (w1.drew.alloc (.cells #[.string s] 9)) B l R most cnt k1 l2 d (d.ls ++ [s]) wz) := hN; have HSz : Hid (wz.cell? ⟨d.a, 0, none⟩ = some (ptr d.p)) := (by obtain ⟨d', e1, e2, -, -, h4, -⟩ := hN; rw [← e1, ← e2]; exact h4.cpk (by simp)); clear hN))
 all_goals
  obtain ⟨hc, hf, hp⟩ := Lst.putFore (w := w) HOk.out HM.out (by obtain ⟨d', e1, e2, e3, e4, h4, h5⟩ := HN.out; exact ⟨d', e1, e2, e3, e4, h4, h5.first HBa.out⟩)
  have HP : Hid (PutAt w B l R most cnt (k1 ++ [d]) l2 s (wz.setCell ⟨l, 1, none⟩ (.int .i64 ((cnt + 1 : Nat) : Nat)))) := hp
  clear hp HN HSz
  go_wp2
  go_end0
  exact ⟨rfl, HP.out⟩
theorem putBehind_back (B l R most cnt : Nat) (l1 k2 : List Nd) (d : Nd) (s : BA) (w : World) (h : Lst w B l R most cnt (l1 ++ d :: k2)) (hok : Ok most (l1 ++ d :: k2)) (hs : s.size ≤ 4096) (hcnt : cnt ≤ 1000000) (hm : d.ls.length < most) (hn : d.n + (enc (lst s)).length ≤ 65536)
  (HA : ∀ w1, Below w.heap.size w w1 → Calls Tryz.prog 146 #[ptr l, ptr (laA R l1), .string s] w1 fun e w' => Below w1.heap.size w1 w' ∧ e = .returned (.bool false))
  (HC : ∀ w1, Below w.heap.size w w1 → Calls Tryz.prog 146 #[ptr l, ptr d.a, .string s] w1 fun e w' => Below w1.heap.size w1 w' ∧ e = .returned (.bool true)) :
  Calls Tryz.prog 99 #[ptr l, ptr (laA R l1), .string s] w fun e w' => e = .returned (.tuple #[]) ∧ PutAt w B l R most cnt l1 (d :: k2) s w' := by
 have HL : Hid (Lst w B l R most cnt (l1 ++ d :: k2)) := h
 have HOk : Hid (Ok most (l1 ++ d :: k2)) := hok
 have HS : Hid (s.size ≤ 4096) := hs
 have HX : Hid (d.n + (pack [s]).length ≤ 65536) := by show _ ≤ _; rw [pack_one]; exact hn
 have HM : Hid (d.ls.length < most) := hm
 have HA0 := HA w (Below.refl _ _)
 have hgp : ∀ w', Below w.heap.size w w' → w'.cell? ⟨laA R l1, 2, none⟩ = some (ptr d.a) := fun w' hb => ((h.keep hb).gap (l1 := l1) (l2 := d :: k2)).1
 clear h hok hs hn hm HA
 generalize laA R l1 = u at *
 go_enter Tryz.func99, Tryz.ntmps99
 go_wp2_with fail
 refine HA0.mono ?_
 rintro e w1 ⟨hb, rfl⟩
 have HB : Hid (Below w.heap.size w w1) := hb
 have hg1 := hgp w1 hb
 have HC1 := HC w1 hb
 clear hb HA0 HC
 go_wp2_with fail
 refine HC1.mono ?_
 rintro e w2 ⟨hb, rfl⟩
 have HB2 := Ad HB hb
 have hg2 := hgp w2 HB2.out
 have hc2 := (HL.out.keep HB2.out).cpk (d := d) (by simp)
 have hba : Below w2.heap.size w2 (w2.alloc (.cells #[.string s] 9)) := Ac w2 _
 have HBa : Hid (Below w.heap.size w (w2.alloc (.cells #[.string s] 9))) := HB2.out.trans (hba.mono HB2.out.size)
 have HI := Insert_nd B l R most cnt l1 k2 d 0 (some ⟨w2.heap.size, 0, none⟩) 1 1 [s] (w2.alloc (.cells #[.string s] 9)) (HL.out.keep HBa.out) (Nat.zero_le _) (RdS.box w2 s) (fit_one HS.out) (by decide) HX.out
 rw [List.take_zero, List.drop_zero, List.nil_append] at HI
 clear hb HC1 hgp hba
 go_wp2_with fail
 refine HI.mono ?_
 rintro e w3 ⟨rfl, hN⟩
 obtain ⟨hc, hf, hp⟩ := Lst.putBack (w := w) HOk.out HM.out (by obtain ⟨d', e1, e2, e3, e4, h4, h5⟩ := hN; exact ⟨d', e1, e2, e3, e4, h4, h5.first HBa.out⟩)
 have HP : Hid (PutAt w B l R most cnt l1 (d :: k2) s (w3.setCell ⟨l, 1, none⟩ (.int .i64 ((cnt + 1 : Nat) : Nat)))) := hp
 clear hp hN
 go_wp2
 go_end0
 exact ⟨rfl, HP.out⟩
theorem Pk.blocks {w : World} {C p : Nat} {r : Option Addr} {n c : Nat} {ls : List BA} (h : Pk w C p r n c ls) : (∀ k ∈ p :: (r.map (·.block)).toList, C ≤ k ∧ k < w.heap.size) ∧ (p :: (r.map (·.block)).toList).Nodup := by
 refine ⟨fun k hk => ?_, List.nodup_cons.2 ⟨fun hm => ?_, by cases r <;> simp⟩⟩
 ·rcases List.mem_cons.1 hk with rfl | hk
  ·exact ⟨h.low, h.lt⟩
  ·rw [Option.mem_toList] at hk
   exact h.own.lt k (by rw [← hk]; cases r <;> rfl)
 ·rw [Option.mem_toList] at hm
  exact h.own.ne_pk h.blk hm.symm
theorem Lst.fresh {w w' : World} {B l R most cnt : Nat} {ns : List Nd} (h : Lst w B l R most cnt ns) {C p : Nat} {r : Option Addr} {n c : Nat} {ls : List BA} (hP : Pk w' C p r n c ls) (hC : w.heap.size ≤ C) : ∀ k ∈ p :: (r.map (·.block)).toList, k ∉ l :: R :: fpN ns := fun k hk hm => by
 have h1 := (h.fplt k hm).2
 have h2 := (hP.blocks.1 k hk).1
 omega
theorem Goes.link {w w0 w' : World} {l R : Nat} {l1 l2 : List Nd} {d : Nd} (hs : Stay w w0 (l :: R :: fpN (l1 ++ l2))) (hs2 : Stay w0 w' (l :: R :: fpN (l1 ++ l2))) (hd : ∀ k ∈ d.fp, w.heap.size ≤ k) : Goes w w' l R (l1 ++ l2) (l1 ++ d :: l2) := by
 refine ⟨hs.trans hs2 (fun _ hi => .inl hi), fun k hk => ?_⟩
 rw [fpN_append, fpN_cons] at hk
 rw [fpN_append]
 simp only [List.mem_append] at hk ⊢
 rcases hk with hk | hk | hk
 ·exact .inl (.inl hk)
 ·exact .inr (hd k hk)
 ·exact .inl (.inr hk)
theorem putBehind_new (B l R most cnt : Nat) (l1 l2 : List Nd) (s : BA) (w : World) (h : Lst w B l R most cnt (l1 ++ l2)) (hok : Ok most (l1 ++ l2)) (hs : s.size ≤ 4096) (hcnt : cnt ≤ 1000000) (hmost : 0 < most)
  (HA : ∀ w1, Below w.heap.size w w1 → Calls Tryz.prog 146 #[ptr l, ptr (laA R l1), .string s] w1 fun e w' => Below w1.heap.size w1 w' ∧ e = .returned (.bool false))
  (HC : ∀ w1, Below w.heap.size w w1 → Calls Tryz.prog 146 #[ptr l, ptr (hdA R l2), .string s] w1 fun e w' => Below w1.heap.size w1 w' ∧ e = .returned (.bool false)) :
  Calls Tryz.prog 99 #[ptr l, ptr (laA R l1), .string s] w fun e w' => e = .returned (.tuple #[]) ∧ PutAt w B l R most cnt l1 l2 s w' := by
 have HL : Hid (Lst w B l R most cnt (l1 ++ l2)) := h
 have HOk : Hid (Ok most (l1 ++ l2)) := hok
 have HS : Hid (s.size ≤ 4096) := hs
 have HMo : Hid (0 < most) := hmost
 have HA0 := HA w (Below.refl _ _)
 have hgp : ∀ w', Below w.heap.size w w' → w'.cell? ⟨laA R l1, 2, none⟩ = some (ptr (hdA R l2)) := fun w' hb => (h.keep hb).gap.1
 have HLk := fun p r n c ls w' => link_any B l R most cnt l1 l2 p r n c ls w'
 clear h hok hs HA hmost
 generalize laA R l1 = u at *
 generalize hdA R l2 = v at *
 go_enter Tryz.func99, Tryz.ntmps99
 go_wp2_with fail
 refine HA0.mono ?_
 rintro e w1 ⟨hb, rfl⟩
 have HB : Hid (Below w.heap.size w w1) := hb
 have hg1 := hgp w1 hb
 have HC1 := HC w1 hb
 clear hb HA0 HC
 go_wp2_with fail
 refine HC1.mono ?_
 rintro e w2 ⟨hb, rfl⟩
 have HB2 := Ad HB hb
 clear hb HC1 hgp hg1
 have HNw := New_any w2
 go_wp2_with fail
 refine HNw.mono ?_
 rintro e w3 ⟨hb, p, a, n, c, rfl, hP⟩
 have HB3 := Ad HB2 hb
 have HP : Hid (Pk w3 w2.heap.size p a n c []) := hP
 have h0 : n = 0 := hP.len.symm
 clear hb HNw hP
 have hba : Below w3.heap.size w3 (w3.alloc (.cells #[.string s] 9)) := Ac w3 _
 have HBa : Hid (Below w.heap.size w (w3.alloc (.cells #[.string s] 9))) := HB3.out.trans (hba.mono HB3.out.size)
 have HI := Insert_ok w2.heap.size p a n c [] 0 (some ⟨w3.heap.size, 0, none⟩) 1 1 [s] (w3.alloc (.cells #[.string s] 9)) (HP.out.keep hba) (fun t ht => absurd ht (by simp)) (by omega) (Nat.le_refl _) (RdS.box w3 s) (fit_one HS.out) (by decide) (by rw [pack_one]; have := (enc_le s HS.out).2; omega)
 rw [List.take_nil, List.drop_nil, List.append_nil, List.nil_append] at HI
 clear hba h0
 go_wp2_with fail
 refine HI.mono ?_
 rintro e w4 ⟨rfl, hM, a', n', c', hP4, hW4⟩
 have hl4 : n' ≤ 65536 := by have h1 := hP4.len; rw [pack_one] at h1; have h2 := (enc_le s HS.out).2; omega
 have hsz := HB2.out.size
 have hs4 : Stay w w4 (l :: R :: fpN (l1 ++ l2)) := by
  refine (Stay.of_below HBa.out (l :: R :: fpN (l1 ++ l2))).trans (Stay.of_moves hM) ?_
  intro k hk
  refine .inr (Nat.le_trans hsz ?_)
  exact (HP.out.blocks.1 k hk).1
 have hL4 : Lst w4 B l R most cnt (l1 ++ l2) := by
  refine (HL.out.keep HBa.out).stay (Stay.of_moves hM) ?_
  intro k hk hm
  exact HL.out.fresh HP.out hsz k hm hk
 have HK := HLk p a' n' c' [s] w4 hL4 (hP4.low' (Nat.le_trans (Nat.le_trans HL.out.lowl (Nat.le_of_lt HL.out.lt)) hsz)) (fit_one HS.out) hl4 hP4.blocks.2 (HL.out.fresh hP4 hsz)
 have HS4 : Hid (Stay w w4 (l :: R :: fpN (l1 ++ l2))) := hs4
 have HP4 : Hid (Pk w4 w2.heap.size p a' n' c' [s]) := hP4
 have HSz : Hid (w.heap.size ≤ w2.heap.size) := hsz
 clear hM hP4 hW4 hs4 hL4 HLk HI
 go_wp2_with fail
 refine HK.mono ?_
 rintro e w5 ⟨rfl, f, hf, hL5, hS5⟩
 obtain ⟨h6, h7⟩ := hL5.count (cnt + 1)
 have hc5 := hL5.ccnt
 have hf5 := hL5.frozen 1
 have HP : Hid (PutAt w B l R most cnt l1 l2 s (w5.setCell ⟨l, 1, none⟩ (.int .i64 ((cnt + 1 : Nat) : Nat)))) := by
  refine ⟨l1, [⟨f, p, a', n', c', [s]⟩], l2, h6, ?_, HOk.out.more (d := ⟨f, p, a', n', c', [s]⟩) ⟨by simp, HMo.out⟩, rfl, rfl, by simp [Bp, Cc]⟩
  refine (Goes.link HS4.out hS5 ?_).trans h7
  intro k hk
  have h1 := HS4.out.size
  rcases List.mem_cons.1 hk with rfl | hk
  ·exact Nat.le_trans h1 hf
  ·exact Nat.le_trans HSz.out (HP4.out.blocks.1 k hk).1
 clear hL5 hS5 h6 h7 hf
 go_wp2
 go_end0
 exact ⟨rfl, HP.out⟩
theorem putBehind_any (B l R most cnt : Nat) (l1 l2 : List Nd) (s : BA) (w : World) (h : Lst w B l R most cnt (l1 ++ l2)) (hok : Ok most (l1 ++ l2)) (hs : s.size ≤ 4096) (hcnt : cnt ≤ 1000000) (hmost : 0 < most) :
  Calls Tryz.prog 99 #[ptr l, ptr (laA R l1), .string s] w fun e w' => e = .returned (.tuple #[]) ∧ PutAt w B l R most cnt l1 l2 s w' := by
 have hu : laA R l1 ∈ R :: adr (l1 ++ l2) := by
  rw [Ao]
  have := laA_mem R l1
  simp only [List.mem_cons, List.mem_append] at this ⊢
  exact this.imp id .inl
 have hv : hdA R l2 ∈ R :: adr (l1 ++ l2) := by
  rw [Ao]
  have := hdA_mem R l2
  simp only [List.mem_cons, List.mem_append] at this ⊢
  exact this.imp id .inr
 rcases hasRoom_at B l R most cnt _ _ s w h hu hs with HA | ⟨d, hd, hda, hm, hn, HA⟩
 ·rcases hasRoom_at B l R most cnt _ _ s w h hv hs with HC | ⟨d, hd, hda, hm, hn, HC⟩
  ·exact putBehind_new B l R most cnt l1 l2 s w h hok hs hcnt hmost HA HC
  ·cases l2 with
   | nil => exact absurd hda (h.ne_ring hd)
   | cons e k2 =>
    have : d = e := h.same hd (by simp) hda
    subst this
    exact putBehind_back B l R most cnt l1 k2 d s w h hok hs hcnt hm hn HA HC
 ·rcases snoc_ex l1 with rfl | ⟨k, e, rfl⟩
  ·exact absurd hda (h.ne_ring hd)
  ·rw [Cx] at hda HA ⊢
   have : d = e := h.same hd (by simp) hda
   subst this
   have es : k ++ [d] ++ l2 = k ++ d :: l2 := by simp
   rw [es] at h hok
   have := putBehind_fore B l R most cnt k l2 d s w h hok hs hcnt hm hn HA
   exact this
def Does (w : World) (B l R most cnt : Nat) (ns : List Nd) (ts : List BA) (w' : World) : Prop :=
 ∃ ns', Lst w' B l R most cnt ns' ∧ Goes w w' l R ns ns' ∧ Ok most ns' ∧ txN ns' = ts
def FoundAt (ns : List Nd) (k : Nat) (e : Ending) : Prop := ∃ l1 d l2 j, ns = l1 ++ d :: l2 ∧ (txN l1).length + j = k ∧ j < d.ls.length ∧ e = .returned (.tuple #[ptr d.a, .int .i64 (j : Nat), .bool true])
theorem find_none (B l R most cnt : Nat) (ns : List Nd) (i : Int) (w : World) (h : Lst w B l R most cnt ns) (hcnt : cnt ≤ 1000000) (hk : plc cnt i = none) :
  Calls Tryz.prog 150 #[ptr l, .int .i64 i] w fun e w' => e = .returned (.tuple #[.pointer none, .int .i64 0, .bool false]) ∧ w' = w := by
 have hc := h.ccnt
 clear h
 have hw : IntKind.i64.wrap (-(cnt : Int)) = -(cnt : Int) := by rw [IntKind.wrap_i64]; omega
 by_cases h1 : i < -(cnt : Int)
 ·go_enter Tryz.func150, Tryz.ntmps150
  go_wp2
  go_ret3
  exact ⟨rfl, rfl⟩
 ·have h2 : (cnt : Int) ≤ i := by
   unfold plc at hk
   split at hk
   ·split at hk
    ·cases hk
    ·omega
   ·split at hk
    ·cases hk
    ·omega
  go_enter Tryz.func150, Tryz.ntmps150
  go_wp2
  go_ret3
  exact ⟨rfl, rfl⟩
theorem findQ_some (B l R most cnt : Nat) (ns : List Nd) (i : Int) (k : Nat) (w : World) (h : Lst w B l R most cnt ns) (hT : (txN ns).length = cnt) (hcnt : cnt ≤ 1000000) (hk : plc cnt i = some k) :
  Calls Tryz.prog 150 #[ptr l, .int .i64 i] w fun e w' => FoundAt ns k e ∧ w' = w := by
 have hc := h.ccnt
 have hcr := h.cring
 have HL : Hid (Lst w B l R most cnt ns) := h
 have HT : Hid ((txN ns).length = cnt) := hT
 have hw : IntKind.i64.wrap (-(cnt : Int)) = -(cnt : Int) := by rw [IntKind.wrap_i64]; omega
 by_cases hi : i < 0
 ·have hik : i + cnt = k := by
   unfold plc at hk
   rw [if_neg (by omega)] at hk
   split at hk
   ·have := Option.some.inj hk; omega
   ·cases hk
  have h1 : ¬ (i < -(cnt : Int)) := by omega
  have h2 : ¬ ((cnt : Int) ≤ i) := by omega
  obtain ⟨m, hm⟩ : ∃ m, ns.length = m := ⟨_, rfl⟩
  have HM : Hid (ns.length = m) := hm
  clear h hk hT hm
  go_enter Tryz.func150, Tryz.ntmps150
  go_wp2
  go_loopg [1, 8] m (fun g iv nv wr => w = wr ∧ ∃ l1 l2 : List Nd, ∃ v : Nat, ∃ z : Int, iv = .int .i64 z ∧ nv = ptr v ∧ Hid (hdA R l2 = v) ∧ Hid (l1.length = g) ∧ Hid (ns = l1 ++ l2) ∧ Hid (z = i + (txN l2).length) ∧ Hid (l2 ≠ [] ∨ z < 0) ∧ Hid (∀ d r, l2 = d :: r → z < d.ls.length))
  case atStart => exact ⟨rfl, ns, [], R, i, rfl, rfl, rfl, HM, (by show _ = _; simp), (by show _ = _; rw [Cc]; simp), .inr hi, (fun d r e => by cases e)⟩
  case round =>
   obtain ⟨rfl, l1, l2, v, z, rfl, rfl, HV, HG, HE, HZ, HN, HH⟩ := hrel
   have HTl : Hid ((txN l1).length + (txN l2).length = cnt) := by
    have := HT.out
    rw [HE.out, Bf, List.length_append] at this
    exact this
   by_cases hz : z < 0
   ·rcases snoc_ex l1 with e1 | ⟨k1, d, e1⟩
    ·exfalso
     have h1 := HTl.out
     have h2 := HZ.out
     rw [e1, Cc] at h1
     simp at h1
     omega
    ·have hL : Lst w B l R most cnt (k1 ++ d :: l2) := by
      have := HL.out
      rw [HE.out, e1] at this
      simpa using this
     have hg := (Lst.gap (l1 := k1 ++ [d]) (l2 := l2) (by simpa using hL)).2
     rw [Cx, HV.out] at hg
     have hcp := hL.cpk (d := d) (by simp)
     have HLen := Len_any B d.p d.r d.n d.c d.ls w (hL.nod d (by simp)).pk
     have hd6 := (hL.nod d (by simp)).siz
     have hdm := (hL.nod d (by simp)).pk.many
     have hz0 : -1000000 ≤ z := by have := HZ.out; omega
     have HE1 : Hid (ns = k1 ++ (d :: l2)) := by show _ = _; rw [HE.out, e1]; simp
     have HG1 : Hid (k1.length = gk - 1) := by have := HG.out; rw [e1] at this; simp at this; show _ = _; omega
     have hgk : gk ≠ 0 := by have := HG.out; rw [e1] at this; simp at this; omega
     have HZ1 : Hid (z + (d.ls.length : Nat) = i + (txN (d :: l2)).length) := by
      have := HZ.out
      show _ = _
      rw [Bp, List.length_append]; omega
     have HH1 : Hid (∀ e r, d :: l2 = e :: r → z + (d.ls.length : Nat) < e.ls.length) := by
      intro e r h
      injection h with h1 h2
      rw [← h1]
      omega
     obtain ⟨q, hq⟩ : ∃ q, d.ls.length = q := ⟨_, rfl⟩
     rw [hq] at HLen HZ1 HH1 hdm
     clear hL hq
     go_wp2_with fail
     refine HLen.mono ?_
     rintro e w ⟨rfl, rfl⟩
     go_wp2
     go_roundg (gk - 1)
     case measure => omega
     case rel => exact ⟨rfl, k1, d :: l2, d.a, z + q, by go_num, rfl, rfl, HG1, HE1, HZ1, .inl (by simp), HH1⟩
   ·cases l2 with
    | nil => exact absurd (HN.out.resolve_left (by simp)) hz
    | cons d r =>
     have hvd : d.a = v := HV.out
     subst hvd
     have HR : Hid (FoundAt ns k (.returned (.tuple #[ptr d.a, .int .i64 z, .bool true]))) := by
      have h1 := HH.out d r rfl
      have h2 := HZ.out
      have h3 := HTl.out
      obtain ⟨j, hj⟩ : ∃ j : Nat, z = j := ⟨z.toNat, by omega⟩
      subst hj
      exact ⟨l1, d, r, j, HE.out, by omega, by omega, rfl⟩
     go_wp2
     go_ret3
     exact ⟨HR.out, rfl⟩
 ·have hik : i = k ∧ k < cnt := by
   unfold plc at hk
   rw [if_pos (by omega)] at hk
   split at hk
   ·have := Option.some.inj hk; omega
   ·cases hk
  obtain ⟨rfl, hkc⟩ := hik
  have h1 : ¬ ((k : Int) < -(cnt : Int)) := by omega
  have h2 : ¬ ((cnt : Int) ≤ (k : Int)) := by omega
  have hg : w.cell? ⟨R, 2, none⟩ = some (ptr (hdA R ns)) := (Lst.gap (l1 := []) (l2 := ns) h).1
  obtain ⟨m, hm⟩ : ∃ m, ns.length = m := ⟨_, rfl⟩
  have HM : Hid (ns.length = m) := hm
  obtain ⟨v, hv⟩ : ∃ v, hdA R ns = v := ⟨_, rfl⟩
  have HV : Hid (hdA R ns = v) := hv
  rw [hv] at hg
  clear h hk hT hm hv
  go_enter Tryz.func150, Tryz.ntmps150
  go_wp2
  go_loopg [1, 8] m (fun g iv nv wr => w = wr ∧ ∃ l1 l2 : List Nd, ∃ v z : Nat, iv = .int .i64 (z : Nat) ∧ nv = ptr v ∧ Hid (hdA R l2 = v) ∧ Hid (l2.length = g) ∧ Hid (ns = l1 ++ l2) ∧ Hid ((txN l1).length + z = k) ∧ Hid (z < (txN l2).length))
  case atStart => exact ⟨rfl, [], ns, v, k, rfl, rfl, HV, HM, rfl, (by show _ = _; rw [Cc]; simp), (by have := HT.out; show _ < _; omega)⟩
  case round =>
   obtain ⟨rfl, l1, l2, v, z, rfl, rfl, HV, HG, HE, HZ, HN⟩ := hrel
   cases l2 with
   | nil => exact absurd HN.out (by rw [Cc]; simp)
   | cons d r =>
    have hvd : d.a = v := HV.out
    subst hvd
    have hL : Lst w B l R most cnt (l1 ++ d :: r) := by
     have := HL.out
     rw [HE.out] at this
     exact this
    have hg := (Lst.gap (l1 := l1 ++ [d]) (l2 := r) (by simpa using hL)).1
    rw [Cx] at hg
    have hcp := hL.cpk (d := d) (by simp)
    have HLen := Len_any B d.p d.r d.n d.c d.ls w (hL.nod d (by simp)).pk
    have hzc : z ≤ 1000000 := by have := HZ.out; omega
    have hd6 := (hL.nod d (by simp)).siz
    have hdm := (hL.nod d (by simp)).pk.many
    obtain ⟨q, hq⟩ : ∃ q, d.ls.length = q := ⟨_, rfl⟩
    have HQ : Hid (d.ls.length = q) := hq
    rw [hq] at HLen hdm
    obtain ⟨v2, hv2⟩ : ∃ v2, hdA R r = v2 := ⟨_, rfl⟩
    have HV2 : Hid (hdA R r = v2) := hv2
    rw [hv2] at hg
    clear hL hq hv2
    by_cases hzq : q ≤ z
    ·have hzq1 : (q : Int) ≤ (z : Int) := by omega
     have hgk : gk ≠ 0 := by have := HG.out; simp at this; omega
     have HG1 : Hid (r.length = gk - 1) := by have := HG.out; simp at this; show _ = _; omega
     have HE1 : Hid (ns = (l1 ++ [d]) ++ r) := by show _ = _; rw [HE.out]; simp
     have HZ1 : Hid ((txN (l1 ++ [d])).length + (z - q) = k) := by
      have := HZ.out
      have h3 := HQ.out
      show _ = _
      rw [Bf, Bp, Cc]; simp only [List.length_append, List.length_nil]; omega
     have HN1 : Hid (z - q < (txN r).length) := by
      have := HN.out
      have h3 := HQ.out
      rw [Bp, List.length_append] at this
      show _ < _
      omega
     obtain ⟨y, hy⟩ : ∃ y, z - q = y := ⟨_, rfl⟩
     have hyi : (z : Int) - (q : Int) = y := by omega
     rw [hy] at HZ1 HN1
     go_wp2_with fail
     refine HLen.mono ?_
     rintro e w ⟨rfl, rfl⟩
     go_wp2_with fail
     refine HLen.mono ?_
     rintro e w ⟨rfl, rfl⟩
     go_wp2
     go_roundg (gk - 1)
     case measure => omega
     case rel => exact ⟨rfl, _, r, v2, y, by go_num, rfl, HV2, HG1, HE1, HZ1, HN1⟩
    ·have hzq1 : ¬ ((q : Int) ≤ (z : Int)) := by omega
     have HR : Hid (FoundAt ns k (.returned (.tuple #[ptr d.a, .int .i64 (z : Nat), .bool true]))) := ⟨l1, d, r, z, HE.out, HZ.out, by have := HQ.out; omega, rfl⟩
     go_wp2_with fail
     refine HLen.mono ?_
     rintro e w ⟨rfl, rfl⟩
     go_wp2
     go_ret3
     exact ⟨HR.out, rfl⟩
theorem txt_mid {l1 l2 : List Nd} {d : Nd} {j k : Nat} (hk : (txN l1).length + j = k) (hj : j < d.ls.length) : txt d.ls j = txt (txN (l1 ++ d :: l2)) k := by
 unfold txt
 rw [Bf, Bp, List.getD_eq_getElem?_getD, List.getD_eq_getElem?_getD, List.getElem?_append_right (by omega), List.getElem?_append_left (by omega)]
 congr 2
 omega
theorem AtQ_none (B l R most cnt : Nat) (ns : List Nd) (i : Int) (w : World) (h : Lst w B l R most cnt ns) (hcnt : cnt ≤ 1000000) (hk : plc cnt i = none) :
  Calls Tryz.prog 104 #[ptr l, .int .i64 i] w fun e w' => Below w.heap.size w w' ∧ e = .returned (.tuple #[.string ⟨#[]⟩, .bool false]) := by
 have HF := find_none B l R most cnt ns i w h hcnt hk
 clear h hk
 go_enter Tryz.func104, Tryz.ntmps104
 go_wp2_with fail
 refine HF.mono ?_
 rintro e w ⟨rfl, rfl⟩
 go_wp2
 go_ret2
 exact ⟨Below.refl _ _, rfl⟩
theorem AtQ_some (B l R most cnt : Nat) (ns : List Nd) (i : Int) (k : Nat) (w : World) (h : Lst w B l R most cnt ns) (hT : (txN ns).length = cnt) (hcnt : cnt ≤ 1000000) (hk : plc cnt i = some k) :
  Calls Tryz.prog 104 #[ptr l, .int .i64 i] w fun e w' => Below w.heap.size w w' ∧ e = .returned (.tuple #[.string (txt (txN ns) k), .bool true]) := by
 have HF := findQ_some B l R most cnt ns i k w h hT hcnt hk
 have HL : Hid (Lst w B l R most cnt ns) := h
 clear h hk hT
 go_enter Tryz.func104, Tryz.ntmps104
 go_wp2_with fail
 refine HF.mono ?_
 rintro e w ⟨⟨l1, d, l2, j, he, hj1, hj2, rfl⟩, rfl⟩
 have hL : Lst w B l R most cnt (l1 ++ d :: l2) := he ▸ HL.out
 have hcp := hL.cpk (d := d) (by simp)
 have hdN := hL.nod d (by simp)
 have hp : plc d.ls.length (j : Int) = some j := by unfold plc; rw [if_pos (by omega), if_pos (by omega)]; simp
 have HA := At_some B d.p d.r d.n d.c d.ls j j w hdN.pk hdN.fit (by omega) hp
 have HX : Hid (txt d.ls j = txt (txN ns) k) := by rw [he]; exact txt_mid hj1 hj2
 rw [HX.out] at HA
 clear hL hdN hp HF he
 go_wp2_with fail
 refine HA.mono ?_
 rintro e w1 ⟨hb, rfl⟩
 have HB : Hid (Below w.heap.size w w1) := hb
 clear hb
 go_wp2
 go_ret2
 exact ⟨HB.out, rfl⟩
theorem LenQ_any (B l R most cnt : Nat) (ns : List Nd) (w : World) (h : Lst w B l R most cnt ns) :
  Calls Tryz.prog 119 #[ptr l] w fun e w' => e = .returned (.int .i64 (cnt : Nat)) ∧ w' = w := by
 have hd := h.ccnt
 clear h
 go_enter Tryz.func119, Tryz.ntmps119
 go_wp2
 go_ret
 exact ⟨rfl, rfl⟩
theorem Lst.made {w : World} {B l R most : Nat} (h1 : w.heap[l]? = some (.cells #[.int .i64 (most : Nat), .int .i64 ((0 : Nat) : Nat), ptr R] 153 (0, 0))) (h2 : w.heap[R]? = some (.cells #[.pointer none, ptr R, ptr R] 151 (0, 0))) (hl : B ≤ l) (hR : B ≤ R) (hne : l ≠ R) : Lst w B l R most 0 [] := by
 refine ⟨h1, ⟨_, _, h2⟩, ?_, fun d hd => absurd hd (by simp), ?_, hl, hR⟩
 ·exact ⟨⟨by simp [World.cell?, h2], by simp [World.cell?, h2]⟩, trivial⟩
 ·simp [fpN, hne]
theorem NewQ_any (m : Int) (w : World) (most : Nat) (hm : max m 1 = most) :
  Calls Tryz.prog 41 #[.int .i64 m] w fun e w' => Below w.heap.size w w' ∧ ∃ l R, e = .returned (ptr l) ∧ Lst w' w.heap.size l R most 0 [] := by
 have hW0 : (w.alloc (.cells #[.pointer none, .pointer none, .pointer none] 151)).heap[w.heap.size]? = some (.cells #[.pointer none, .pointer none, .pointer none] 151 (0, 0)) := heap_alloc_new w _
 obtain ⟨w0, hw0⟩ : ∃ w0, w.alloc (.cells #[.pointer none, .pointer none, .pointer none] 151) = w0 := ⟨_, rfl⟩
 have HB0 : Hid (Below w.heap.size w w0) := by rw [← hw0]; exact Ac w _
 rw [hw0] at hW0
 obtain ⟨G, hG⟩ : ∃ G, w.heap.size = G := ⟨_, rfl⟩
 have HG : Hid (w.heap.size = G) := hG
 rw [hG] at hW0
 have hc1 : w0.cell? ⟨G, 1, none⟩ = some (.pointer none) := by simp [World.cell?, hW0]
 have hf1 : w0.frozen? ⟨G, 1, none⟩ = false := by simp [World.frozen?, hW0]
 have hc2 : (w0.setCell ⟨G, 1, none⟩ (ptr G)).cell? ⟨G, 2, none⟩ = some (.pointer none) := by rw [cell_ne (fun e => absurd e.2 (by decide))]; simp [World.cell?, hW0]
 have hf2 : (w0.setCell ⟨G, 1, none⟩ (ptr G)).frozen? ⟨G, 2, none⟩ = false := by rw [World.frozen?_setCell]; simp [World.frozen?, hW0]
 have hW2 : ((w0.setCell ⟨G, 1, none⟩ (ptr G)).setCell ⟨G, 2, none⟩ (ptr G)).heap[G]? = some (.cells #[.pointer none, ptr G, ptr G] 151 (0, 0)) := by rw [Ak (Ak hW0 _)]; rfl
 obtain ⟨w2, hw2⟩ : ∃ w2, (w0.setCell ⟨G, 1, none⟩ (ptr G)).setCell ⟨G, 2, none⟩ (ptr G) = w2 := ⟨_, rfl⟩
 have hGG : w.heap.size ≤ G := Nat.le_of_eq hG
 have HB2 : Hid (Below w.heap.size w w2) := by
  rw [← hw2]
  have s1 : Stay w0 ((w0.setCell ⟨G, 1, none⟩ (ptr G)).setCell ⟨G, 2, none⟩ (ptr G)) [G] := Stay.set.trans Stay.set (fun _ hi => .inl hi)
  exact HB0.out.trans (s1.below (by simpa using hGG) HB0.out.size)
 have HW2 : Hid (w2.heap[G]? = some (.cells #[.pointer none, ptr G, ptr G] 151 (0, 0))) := by rw [← hw2]; exact hW2
 have HE : Hid (Lst (w2.alloc (.cells #[.int .i64 (most : Nat), .int .i64 0, ptr G] 153)) w.heap.size w2.heap.size G most 0 []) := by
  have hlt : G < w2.heap.size := (Array.getElem?_eq_some_iff.1 HW2.out).1
  refine Lst.made (heap_alloc_new w2 _) ?_ HB2.out.size hGG (by omega)
  rw [(Ac w2 _).block G hlt]
  exact HW2.out
 clear hW0 hW2 hGG HG
 subst hG
 by_cases h1 : m < 1
 ·have h2 : most = 1 := by omega
  subst h2
  clear hm
  go_enter Tryz.func41, Tryz.ntmps41
  go_wp2
  go_ret
  refine ⟨HB2.out.trans ((Ac w2 _).mono HB2.out.size), w2.heap.size, ?_⟩
  first | exact ⟨_, rfl, HE.out⟩ | exact ⟨rfl, _, HE.out⟩
 ·have h2 : m = most := by omega
  subst h2
  clear hm
  go_enter Tryz.func41, Tryz.ntmps41
  go_wp2
  go_ret
  refine ⟨HB2.out.trans ((Ac w2 _).mono HB2.out.size), w2.heap.size, ?_⟩
  first | exact ⟨_, rfl, HE.out⟩ | exact ⟨rfl, _, HE.out⟩
theorem tooLong_any (s : BA) (w : World) (hs : s.size ≤ 1000000) : Calls Tryz.prog 98 #[.string s] w fun e w' => e = .returned (.bool (decide (4096 < s.size))) ∧ w' = w := by
 have hd : decide ((4096 : Int) < (s.size : Int)) = decide (4096 < s.size) := by
  rw [Bool.eq_iff_iff, decide_eq_true_eq, decide_eq_true_eq]; omega
 generalize decide (4096 < s.size) = b at hd
 go_enter Tryz.func98, Tryz.ntmps98
 go_wp2
 go_ret
 exact ⟨by rw [← hd]; rfl, rfl⟩
theorem IndexFunc_long (a : Option Addr) (n c : Nat) (ls : List BA) (w : World) (hR : RdS w a n ls) (hs : ∀ s ∈ ls, s.size ≤ 1000000) :
  Calls Tryz.prog 145 #[.slice a n c, .func (.func 98) #[] #[]] w fun e w' => (∃ z : Int, e = .returned (.int .i64 z) ∧ (0 ≤ z ↔ ¬ Fit ls)) ∧ w' = w := by
 have HR : Hid (RdS w a n ls) := hR
 have HL : Hid (ls.length = n) := hR.len
 have HS : Hid (∀ s ∈ ls, s.size ≤ 1000000) := hs
 have hn : n ≤ 9223372036854775807 := by have := hR.max; unfold maxLen at this; omega
 clear hR hs
 go_enter Tryz.func145, Tryz.ntmps145
 go_wp2
 go_loopg [8] n (fun g iv wr => w = wr ∧ ∃ i : Nat, i + g = n ∧ iv = .int .i64 i ∧ Hid (Fit (ls.take i)))
 case atStart => exact ⟨rfl, 0, by omega, rfl, fun s hs => absurd hs (by simp)⟩
 case round =>
  obtain ⟨rfl, i, hi, rfl, HF⟩ := hrel
  by_cases h1 : (i : Int) < n
  ·obtain ⟨b, off, ha, hc⟩ := HR.out.cell i (by omega)
   subst ha
   have hil : i < ls.length := by have := HL.out; omega
   have hsz := short_get HS.out i hil
   have HT : Hid (ls.take (i + 1) = ls.take i ++ [ls.getD i ByteArray.empty]) := take_snocB ls i hil
   have HMm : Hid (ls.getD i ByteArray.empty ∈ ls) := by
    show _ ∈ _
    rw [List.getD_eq_getElem?_getD, List.getElem?_eq_getElem hil]
    exact List.getElem_mem hil
   generalize ls.getD i ByteArray.empty = s at hc hsz HT HMm
   have HTo := tooLong_any s w hsz
   by_cases hlong : 4096 < s.size
   ·rw [decide_eq_true hlong] at HTo
    have HNF : Hid (¬ Fit ls) := fun h => by have := h s HMm.out; omega
    go_wp2_with fail
    refine HTo.mono ?_
    rintro e w ⟨rfl, rfl⟩
    go_wp2
    go_ret
    exact ⟨⟨i, rfl, fun _ => HNF.out, fun _ => by omega⟩, rfl⟩
   ·rw [decide_eq_false hlong] at HTo
    have HF2 : Hid (Fit (ls.take (i + 1))) := by
     show Fit _
     rw [HT.out]
     exact fit_append HF.out (fit_one (by omega))
    go_wp2_with fail
    refine HTo.mono ?_
    rintro e w ⟨rfl, rfl⟩
    go_wp2
    go_roundg (gk - 1)
    case measure => omega
    case rel => exact ⟨rfl, i + 1, by omega, by go_num, HF2⟩
  ·have HFF : Hid (Fit ls) := by
    have := HF.out
    rw [List.take_of_length_le (by have := HL.out; omega)] at this
    exact this
   go_wp2
   go_ret
   exact ⟨⟨-1, rfl, fun h => absurd h (by decide), fun h => absurd HFF.out h⟩, rfl⟩
theorem ContainsFunc_long (a : Option Addr) (n c : Nat) (ls : List BA) (w : World) (hR : RdS w a n ls) (hs : ∀ s ∈ ls, s.size ≤ 1000000) (b : Bool) (hb : b = true ↔ ¬ Fit ls) :
  Calls Tryz.prog 97 #[.slice a n c, .func (.func 98) #[] #[]] w fun e w' => e = .returned (.bool b) ∧ w' = w := by
 have HI := IndexFunc_long a n c ls w hR hs
 clear hR hs
 go_enter Tryz.func97, Tryz.ntmps97
 go_wp2_with fail
 refine HI.mono ?_
 rintro e w ⟨⟨z, rfl, hz⟩, rfl⟩
 have HZ : Hid (decide (0 ≤ z) = b) := by
  show _ = _
  rw [Bool.eq_iff_iff, decide_eq_true_eq, hz, hb]
 clear hz hb HI
 go_wp2
 go_ret
 exact ⟨by rw [← HZ.out]; rfl, rfl⟩
structure RdF (w : World) (a : Option Addr) (n : Nat) (ls : List BA) (F : List Nat) : Prop where
 rd : RdS w a n ls
 far : ∀ x, a = some x → x.block ∉ F ∧ x.block < w.heap.size
theorem RdF.goes {w w' : World} {l R : Nat} {ns ns' : List Nd} {a : Option Addr} {n : Nat} {ls : List BA} (h : RdF w a n ls (l :: R :: fpN ns)) (hg : Goes w w' l R ns ns') : RdF w' a n ls (l :: R :: fpN ns') := by
 refine ⟨⟨h.rd.len, h.rd.max, fun j hj => ?_⟩, fun x hx => ?_⟩
 ·obtain ⟨b, off, e, hc⟩ := h.rd.cell j hj
  refine ⟨b, off, e, ?_⟩
  obtain ⟨h1, h2⟩ := h.far _ e
  rw [World.cell?_of_block (hg.stay.block b h2 h1)]
  exact hc
 ·obtain ⟨h1, h2⟩ := h.far x hx
  refine ⟨fun hm => h1 ?_, Nat.lt_of_lt_of_le h2 hg.stay.size⟩
  simp only [List.mem_cons] at hm ⊢
  rcases hm with hm | hm | hm
  ·exact .inl hm
  ·exact .inr (.inl hm)
  ·rcases hg.new _ hm with h3 | h3
   ·exact .inr (.inr h3)
   ·omega
theorem PutAt.does {w w' : World} {B l R most cnt : Nat} {l1 l2 : List Nd} {s : BA} (h : PutAt w B l R most cnt l1 l2 s w') : Does w B l R most (cnt + 1) (l1 ++ l2) (txN l1 ++ (s :: txN l2)) w' := by
 obtain ⟨M1, mid, M2, h1, h2, h3, -, -, h4⟩ := h
 exact ⟨_, h1, h2, h3, by rw [Bf, Bf]; exact h4⟩
theorem Right_ok (B l R most cnt : Nat) (ns : List Nd) (a : Option Addr) (n c : Nat) (ts : List BA) (w : World) (h : Lst w B l R most cnt ns) (hok : Ok most ns) (hR : RdF w a n ts (l :: R :: fpN ns)) (hl : Fit ts) (hcnt : cnt + n ≤ 1000000) (hmost : 0 < most) :
  Calls Tryz.prog 51 #[ptr l, .slice a n c] w fun e w' => e = .returned (.int .i64 0) ∧ Does w B l R most (cnt + n) ns (txN ns ++ ts) w' := by
 have HC := ContainsFunc_long a n c ts w hR.rd (fun s hs => Nat.le_trans (hl s hs) (by decide)) false ⟨fun h => (by cases h), fun h => absurd hl h⟩
 have HL : Hid (ts.length = n) := hR.rd.len
 have HF : Hid (Fit ts) := hl
 have HD0 : Hid (Does w B l R most (cnt + 0) ns (txN ns ++ ts.take 0) w) := ⟨ns, h, Goes.refl _ _ _ _, hok, by simp⟩
 have HR : Hid (RdF w a n ts (l :: R :: fpN ns)) := hR
 clear h hok hR hl
 go_enter Tryz.func51, Tryz.ntmps51
 go_wp2_with fail
 refine HC.mono ?_
 rintro e w ⟨rfl, rfl⟩
 clear HC
 go_wp2
 go_loopg [6, 11] n (fun g tv iv wr => ∃ i : Nat, i + g = n ∧ iv = .int .i64 i ∧ Hid (Does w B l R most (cnt + i) ns (txN ns ++ ts.take i) wr))
 case atStart => exact ⟨0, by omega, rfl, HD0⟩
 case round =>
  obtain ⟨i, hi, rfl, HD⟩ := hrel
  by_cases h1 : (i : Int) < n
  ·obtain ⟨ns1, hL1, hG1, hO1, hT1⟩ := HD.out
   have hR1 := HR.out.goes hG1
   obtain ⟨b, off, ha, hc⟩ := hR1.rd.cell i (by omega)
   subst ha
   have hil : i < ts.length := by have := HL.out; omega
   have hsz : (ts.getD i ByteArray.empty).size ≤ 4096 := short_get HF.out i hil
   have HT : Hid (ts.take (i + 1) = ts.take i ++ [ts.getD i ByteArray.empty]) := take_snocB ts i hil
   generalize ts.getD i ByteArray.empty = s at hc hsz HT
   have hcr := hL1.cring
   have hg := (Lst.gap (l1 := ns1) (l2 := []) (by rw [List.append_nil]; exact hL1)).2
   have hg2 : wr.cell? ⟨R, 1, none⟩ = some (ptr (laA R ns1)) := hg
   have HP := putBehind_any B l R most (cnt + i) ns1 [] s wr (by rw [List.append_nil]; exact hL1) (by rw [List.append_nil]; exact hO1) hsz (by omega) hmost
   have HG1 : Hid (Goes w wr l R ns ns1) := hG1
   have HT1 : Hid (txN ns1 = txN ns ++ ts.take i) := hT1
   generalize laA R ns1 = u at hg2 HP
   clear hL1 hG1 hO1 hT1 hR1 hg
   go_wp2_with fail
   refine HP.mono ?_
   rintro e w1 ⟨rfl, hp⟩
   have HD1 : Hid (Does w B l R most (cnt + (i + 1)) ns (txN ns ++ ts.take (i + 1)) w1) := by
    obtain ⟨ns2, h1, h2, h3, h4⟩ := hp.does
    rw [List.append_nil] at h2
    exact ⟨ns2, h1, HG1.out.trans h2, h3, by rw [h4, HT1.out, HT.out, Cc, List.append_assoc]⟩
   clear hp HP
   go_wp2
   go_roundg (gk - 1)
   case measure => omega
   case rel => exact ⟨i + 1, by omega, by go_num, HD1⟩
  ·have hin : i = n := by omega
   subst hin
   have HE : Hid (ts.take i = ts) := List.take_of_length_le (by have := HL.out; omega)
   rw [HE.out] at HD
   go_wp2
   go_ret
   exact ⟨rfl, HD.out⟩
end Go.Proofs.YtmjeljldmmkcpaaGreat
