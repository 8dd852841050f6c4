/-
  putBehind: a text comes to a gap.
-/
import Derived.Test.YtemiajjjhhofaabNds
import Derived.Deep.RegionHeld3
namespace Go.Proofs.Ytemiajjjhhofaab
open Go.RowKit Go.PlainAid

/-- What putBehind makes at a gap: the nodes ahead and behind keep their places. -/
def PutAt (w : World) (B l R most cnt : Nat) (l1 l2 : List Nd) (s : ByteArray) (w' : World) : Prop :=
  ∃ M1 mid M2, Lst w' B l R most (cnt + 1) (M1 ++ (mid ++ M2)) ∧ Goes w w' l R (l1 ++ l2) (M1 ++ (mid ++ M2)) ∧ Ok most (M1 ++ (mid ++ M2)) ∧ adr M1 = adr l1 ∧ adr M2 = adr l2 ∧ txN M1 ++ (txN mid ++ txN M2) = txN l1 ++ (s :: txN l2)
theorem nodup_inj : ∀ (ns : List Nd), (adr ns).Nodup → ∀ d ∈ ns, ∀ e ∈ ns, d.a = e.a → d = e
  | [], _, _, hd, _, _, _ => absurd hd (by simp)
  | x :: r, h, d, hd, e, he, hda => by
    rw [adr_cons, List.nodup_cons] at h
    rcases List.mem_cons.1 hd with e1 | hd2
    · rcases List.mem_cons.1 he with e2 | he2
      · rw [e1, e2]
      · have hx : e.a ∈ adr r := List.mem_map_of_mem he2
        rw [← hda, e1] at hx
        exact absurd hx h.1
    · rcases List.mem_cons.1 he with e2 | he2
      · have hx : d.a ∈ adr r := List.mem_map_of_mem hd2
        rw [hda, e2] at hx
        exact absurd hx h.1
      · exact nodup_inj r h.2 d hd2 e he2 hda
theorem Lst.same {w : World} {B l R most cnt : Nat} {ns : List Nd} (h : Lst w B l R most cnt ns) {d e : Nd} (hd : d ∈ ns) (he : e ∈ ns) (ha : d.a = e.a) : d = e :=
  nodup_inj ns (List.nodup_cons.1 h.numA).2 d hd e he ha
theorem txN_nil : txN [] = [] := rfl

theorem Lst.putFore {w w1 : World} {B l R most cnt : Nat} {k1 l2 : List Nd} {d : Nd} {s : ByteArray} (hok : Ok most (k1 ++ d :: l2)) (hm : d.ls.length < most) (h : Node1 w B l R most cnt k1 l2 d (d.ls ++ [s]) w1) : w1.cell? ⟨l, 1, none⟩ = some (.int .i64 (cnt : Nat)) ∧ w1.frozen? ⟨l, 1, none⟩ = false ∧ PutAt w B l R most cnt (k1 ++ [d]) l2 s (w1.setCell ⟨l, 1, none⟩ (.int .i64 ((cnt + 1 : Nat) : Nat))) := by
  obtain ⟨d', e1, e2, e3, -, h4, h5⟩ := h
  obtain ⟨h6, h7⟩ := h4.count (cnt + 1)
  have es : ∀ x : Nd, k1 ++ x :: l2 = (k1 ++ [x]) ++ ([] ++ l2) := fun x => by simp
  refine ⟨h4.ccnt, h4.frozen 1, k1 ++ [d'], [], l2, ?_, ?_, ?_, ?_, rfl, ?_⟩
  · rw [← es]; exact h6
  · rw [← es]
    have : k1 ++ [d] ++ l2 = k1 ++ d :: l2 := by simp
    rw [this]
    exact h5.trans h7
  · rw [← es]
    refine hok.mid ?_
    rw [e3, List.length_append]
    show 0 < _ + 1 ∧ _ + 1 ≤ _
    omega
  · rw [adr_append, adr_append]; simp [adr, e1]
  · rw [txN_append, txN_append, txN_cons, txN_cons, e3]; simp [txN_nil]
theorem Lst.putBack {w w1 : World} {B l R most cnt : Nat} {l1 k2 : List Nd} {d : Nd} {s : ByteArray} (hok : Ok most (l1 ++ d :: k2)) (hm : d.ls.length < most) (h : Node1 w B l R most cnt l1 k2 d (s :: d.ls) w1) : w1.cell? ⟨l, 1, none⟩ = some (.int .i64 (cnt : Nat)) ∧ w1.frozen? ⟨l, 1, none⟩ = false ∧ PutAt w B l R most cnt l1 (d :: k2) s (w1.setCell ⟨l, 1, none⟩ (.int .i64 ((cnt + 1 : Nat) : Nat))) := by
  obtain ⟨d', e1, e2, e3, -, h4, h5⟩ := h
  obtain ⟨h6, h7⟩ := h4.count (cnt + 1)
  refine ⟨h4.ccnt, h4.frozen 1, l1, [], d' :: k2, h6, h5.trans h7, hok.mid ?_, rfl, ?_, ?_⟩
  · rw [e3, List.length_cons]; omega
  · rw [adr_cons, adr_cons, e1]
  · rw [txN_cons, txN_cons, e3]; simp [txN_nil]

set_option maxRecDepth 100000 in
set_option maxHeartbeats 4000000 in
theorem putBehind_fore (B l R most cnt : Nat) (k1 l2 : List Nd) (d : Nd) (s : ByteArray) (w : World) (h : Lst w B l R most cnt (k1 ++ d :: l2)) (hok : Ok most (k1 ++ d :: l2)) (hs : s.size ≤ 4096) (hcnt : cnt ≤ 1000000) (hm : d.ls.length < most) (hn : d.n + (enc (lst s)).length ≤ 65536)
    (HA : ∀ w1, Below w.heap.size w w1 → Calls Try.prog 77 #[ptr l, ptr d.a, .string s] w1 fun e w' => Below w1.heap.size w1 w' ∧ e = .returned (.bool true)) :
    Calls Try.prog 55 #[ptr l, ptr d.a, .string s] w fun e w' => e = .returned (.tuple #[]) ∧ PutAt w B l R most cnt (k1 ++ [d]) l2 s w' := by
  have HL : Hid (Lst w B l R most cnt (k1 ++ d :: l2)) := h
  have HOk : Hid (Ok most (k1 ++ d :: l2)) := hok
  have HS : Hid (s.size ≤ 4096) := hs
  have HX : Hid (d.n + (pack [s]).length ≤ 65536) := by show _ ≤ _; rw [pack_one]; exact hn
  have HM : Hid (d.ls.length < most) := hm
  have HA0 := HA w (Below.refl _ _)
  clear h hok hs hn hm HA
  go_enter Try.func55, Try.ntmps55
  go_wp2_with fail
  refine HA0.mono ?_
  rintro e w1 ⟨hb, rfl⟩
  have HB : Hid (Below w.heap.size w w1) := hb
  clear hb HA0
  have HLw : ∀ w', Below w1.heap.size w1 w' → Lst w' B l R most cnt (k1 ++ d :: l2) := fun w' hb => HL.out.keep (HB.out.trans (hb.mono HB.out.size))
  have hbd : Below w1.heap.size w1 w1.drew := below_drewN w1 1
  have hba : Below w1.heap.size w1 (w1.drew.alloc (.cells #[.string s] 9)) := hbd.trans (alloc_below w1.drew _)
  have HSd : Hid (w1.drew.cell? ⟨d.a, 0, none⟩ = some (ptr d.p)) := (HLw _ hbd).cpk (by simp)
  have HSa : Hid ((w1.drew.alloc (.cells #[.string s] 9)).cell? ⟨d.a, 0, none⟩ = some (ptr d.p)) := (HLw _ hba).cpk (by simp)
  have HLd := Len_any B d.p d.r d.n d.c d.ls w1.drew ((HLw _ hbd).nod d (by simp)).pk
  have HLa := Len_any B d.p d.r d.n d.c d.ls (w1.drew.alloc (.cells #[.string s] 9)) ((HLw _ hba).nod d (by simp)).pk
  have HI := Insert_nd B l R most cnt k1 l2 d d.ls.length (some ⟨w1.drew.heap.size, 0, none⟩) 1 1 [s] (w1.drew.alloc (.cells #[.string s] 9)) (HLw _ hba) (Nat.le_refl _) (RdS.box w1.drew s) (fit_one HS.out) (by decide) HX.out
  rw [List.take_length, List.drop_length, List.append_nil] at HI
  have HBa : Hid (Below w.heap.size w (w1.drew.alloc (.cells #[.string s] 9))) := HB.out.trans (hba.mono HB.out.size)
  generalize d.ls.length = k at HLd HLa HI
  clear HLw hbd hba
  go_upto_region 4 with fail
  go_region_held3 (fun w' => w'.cell? ⟨d.a, 0, none⟩ = some (ptr d.p)) (first | exact HSd.out | exact HSa.out | exact HSz.out) (first
    | (go_at_call 34; refine HLd.mono ?_; rintro e wx ⟨rfl, rfl⟩)
    | (go_at_call 34; refine HLa.mono ?_; rintro e wx ⟨rfl, rfl⟩)
    | (go_at_call 12; refine HI.mono ?_; rintro e wz ⟨rfl, hN⟩; have HN : Hid (Node1 (w1.drew.alloc (.cells #[.string s] 9)) B l R most cnt k1 l2 d (d.ls ++ [s]) wz) := hN; have HSz : Hid (wz.cell? ⟨d.a, 0, none⟩ = some (ptr d.p)) := (by obtain ⟨d', e1, e2, -, -, h4, -⟩ := hN; rw [← e1, ← e2]; exact h4.cpk (by simp)); clear hN))
  all_goals
    obtain ⟨hc, hf, hp⟩ := Lst.putFore (w := w) HOk.out HM.out (by obtain ⟨d', e1, e2, e3, e4, h4, h5⟩ := HN.out; exact ⟨d', e1, e2, e3, e4, h4, h5.first HBa.out⟩)
    have HP : Hid (PutAt w B l R most cnt (k1 ++ [d]) l2 s (wz.setCell ⟨l, 1, none⟩ (.int .i64 ((cnt + 1 : Nat) : Nat)))) := hp
    clear hp HN HSz
    go_wp2
    go_end0
    exact ⟨rfl, HP.out⟩

set_option maxRecDepth 100000 in
set_option maxHeartbeats 4000000 in
theorem putBehind_back (B l R most cnt : Nat) (l1 k2 : List Nd) (d : Nd) (s : ByteArray) (w : World) (h : Lst w B l R most cnt (l1 ++ d :: k2)) (hok : Ok most (l1 ++ d :: k2)) (hs : s.size ≤ 4096) (hcnt : cnt ≤ 1000000) (hm : d.ls.length < most) (hn : d.n + (enc (lst s)).length ≤ 65536)
    (HA : ∀ w1, Below w.heap.size w w1 → Calls Try.prog 77 #[ptr l, ptr (laA R l1), .string s] w1 fun e w' => Below w1.heap.size w1 w' ∧ e = .returned (.bool false))
    (HC : ∀ w1, Below w.heap.size w w1 → Calls Try.prog 77 #[ptr l, ptr d.a, .string s] w1 fun e w' => Below w1.heap.size w1 w' ∧ e = .returned (.bool true)) :
    Calls Try.prog 55 #[ptr l, ptr (laA R l1), .string s] w fun e w' => e = .returned (.tuple #[]) ∧ PutAt w B l R most cnt l1 (d :: k2) s w' := by
  have HL : Hid (Lst w B l R most cnt (l1 ++ d :: k2)) := h
  have HOk : Hid (Ok most (l1 ++ d :: k2)) := hok
  have HS : Hid (s.size ≤ 4096) := hs
  have HX : Hid (d.n + (pack [s]).length ≤ 65536) := by show _ ≤ _; rw [pack_one]; exact hn
  have HM : Hid (d.ls.length < most) := hm
  have HA0 := HA w (Below.refl _ _)
  have hgp : ∀ w', Below w.heap.size w w' → w'.cell? ⟨laA R l1, 2, none⟩ = some (ptr d.a) := fun w' hb => ((h.keep hb).gap (l1 := l1) (l2 := d :: k2)).1
  clear h hok hs hn hm HA
  generalize laA R l1 = u at *
  go_enter Try.func55, Try.ntmps55
  go_wp2_with fail
  refine HA0.mono ?_
  rintro e w1 ⟨hb, rfl⟩
  have HB : Hid (Below w.heap.size w w1) := hb
  have hg1 := hgp w1 hb
  have HC1 := HC w1 hb
  clear hb HA0 HC
  go_wp2_with fail
  refine HC1.mono ?_
  rintro e w2 ⟨hb, rfl⟩
  have HB2 := step_below HB hb
  have hg2 := hgp w2 HB2.out
  have hc2 := (HL.out.keep HB2.out).cpk (d := d) (by simp)
  have hba : Below w2.heap.size w2 (w2.alloc (.cells #[.string s] 9)) := alloc_below w2 _
  have HBa : Hid (Below w.heap.size w (w2.alloc (.cells #[.string s] 9))) := HB2.out.trans (hba.mono HB2.out.size)
  have HI := Insert_nd B l R most cnt l1 k2 d 0 (some ⟨w2.heap.size, 0, none⟩) 1 1 [s] (w2.alloc (.cells #[.string s] 9)) (HL.out.keep HBa.out) (Nat.zero_le _) (RdS.box w2 s) (fit_one HS.out) (by decide) HX.out
  rw [List.take_zero, List.drop_zero, List.nil_append] at HI
  clear hb HC1 hgp hba
  go_wp2_with fail
  refine HI.mono ?_
  rintro e w3 ⟨rfl, hN⟩
  obtain ⟨hc, hf, hp⟩ := Lst.putBack (w := w) HOk.out HM.out (by obtain ⟨d', e1, e2, e3, e4, h4, h5⟩ := hN; exact ⟨d', e1, e2, e3, e4, h4, h5.first HBa.out⟩)
  have HP : Hid (PutAt w B l R most cnt l1 (d :: k2) s (w3.setCell ⟨l, 1, none⟩ (.int .i64 ((cnt + 1 : Nat) : Nat)))) := hp
  clear hp hN
  go_wp2
  go_end0
  exact ⟨rfl, HP.out⟩

/-- A new pack lies in no list that was. -/
theorem Pk.blocks {w : World} {C p : Nat} {r : Option Addr} {n c : Nat} {ls : List ByteArray} (h : Pk w C p r n c ls) : (∀ k ∈ p :: (r.map (·.block)).toList, C ≤ k ∧ k < w.heap.size) ∧ (p :: (r.map (·.block)).toList).Nodup := by
  refine ⟨fun k hk => ?_, List.nodup_cons.2 ⟨fun hm => ?_, by cases r <;> simp⟩⟩
  · rcases List.mem_cons.1 hk with rfl | hk
    · exact ⟨h.low, h.lt⟩
    · rw [Option.mem_toList] at hk
      exact h.own.lt k (by rw [← hk]; cases r <;> rfl)
  · rw [Option.mem_toList] at hm
    exact h.own.ne_pk h.blk hm.symm
theorem Lst.fresh {w w' : World} {B l R most cnt : Nat} {ns : List Nd} (h : Lst w B l R most cnt ns) {C p : Nat} {r : Option Addr} {n c : Nat} {ls : List ByteArray} (hP : Pk w' C p r n c ls) (hC : w.heap.size ≤ C) : ∀ k ∈ p :: (r.map (·.block)).toList, k ∉ l :: R :: fpN ns := fun k hk hm => by
  have h1 := (h.fplt k hm).2
  have h2 := (hP.blocks.1 k hk).1
  omega
theorem Goes.link {w w0 w' : World} {l R : Nat} {l1 l2 : List Nd} {d : Nd} (hs : Stay w w0 (l :: R :: fpN (l1 ++ l2))) (hs2 : Stay w0 w' (l :: R :: fpN (l1 ++ l2))) (hd : ∀ k ∈ d.fp, w.heap.size ≤ k) : Goes w w' l R (l1 ++ l2) (l1 ++ d :: l2) := by
  refine ⟨hs.trans hs2 (fun _ hi => .inl hi), fun k hk => ?_⟩
  rw [fpN_append, fpN_cons] at hk
  rw [fpN_append]
  simp only [List.mem_append] at hk ⊢
  rcases hk with hk | hk | hk
  · exact .inl (.inl hk)
  · exact .inr (hd k hk)
  · exact .inl (.inr hk)

set_option maxRecDepth 100000 in
set_option maxHeartbeats 4000000 in
theorem putBehind_new (B l R most cnt : Nat) (l1 l2 : List Nd) (s : ByteArray) (w : World) (h : Lst w B l R most cnt (l1 ++ l2)) (hok : Ok most (l1 ++ l2)) (hs : s.size ≤ 4096) (hcnt : cnt ≤ 1000000) (hmost : 0 < most)
    (HA : ∀ w1, Below w.heap.size w w1 → Calls Try.prog 77 #[ptr l, ptr (laA R l1), .string s] w1 fun e w' => Below w1.heap.size w1 w' ∧ e = .returned (.bool false))
    (HC : ∀ w1, Below w.heap.size w w1 → Calls Try.prog 77 #[ptr l, ptr (hdA R l2), .string s] w1 fun e w' => Below w1.heap.size w1 w' ∧ e = .returned (.bool false)) :
    Calls Try.prog 55 #[ptr l, ptr (laA R l1), .string s] w fun e w' => e = .returned (.tuple #[]) ∧ PutAt w B l R most cnt l1 l2 s w' := by
  have HL : Hid (Lst w B l R most cnt (l1 ++ l2)) := h
  have HOk : Hid (Ok most (l1 ++ l2)) := hok
  have HS : Hid (s.size ≤ 4096) := hs
  have HMo : Hid (0 < most) := hmost
  have HA0 := HA w (Below.refl _ _)
  have hgp : ∀ w', Below w.heap.size w w' → w'.cell? ⟨laA R l1, 2, none⟩ = some (ptr (hdA R l2)) := fun w' hb => (h.keep hb).gap.1
  have HLk := fun p r n c ls w' => link_any B l R most cnt l1 l2 p r n c ls w'
  clear h hok hs HA hmost
  generalize laA R l1 = u at *
  generalize hdA R l2 = v at *
  go_enter Try.func55, Try.ntmps55
  go_wp2_with fail
  refine HA0.mono ?_
  rintro e w1 ⟨hb, rfl⟩
  have HB : Hid (Below w.heap.size w w1) := hb
  have hg1 := hgp w1 hb
  have HC1 := HC w1 hb
  clear hb HA0 HC
  go_wp2_with fail
  refine HC1.mono ?_
  rintro e w2 ⟨hb, rfl⟩
  have HB2 := step_below HB hb
  clear hb HC1 hgp hg1
  have HNw := New_any w2
  go_wp2_with fail
  refine HNw.mono ?_
  rintro e w3 ⟨hb, p, a, n, c, rfl, hP⟩
  have HB3 := step_below HB2 hb
  have HP : Hid (Pk w3 w2.heap.size p a n c []) := hP
  have h0 : n = 0 := hP.len.symm
  clear hb HNw hP
  have hba : Below w3.heap.size w3 (w3.alloc (.cells #[.string s] 9)) := alloc_below w3 _
  have HBa : Hid (Below w.heap.size w (w3.alloc (.cells #[.string s] 9))) := HB3.out.trans (hba.mono HB3.out.size)
  have HI := Insert_ok w2.heap.size p a n c [] 0 (some ⟨w3.heap.size, 0, none⟩) 1 1 [s] (w3.alloc (.cells #[.string s] 9)) (HP.out.keep hba) (fun t ht => absurd ht (by simp)) (by omega) (Nat.le_refl _) (RdS.box w3 s) (fit_one HS.out) (by decide) (by rw [pack_one]; have := (enc_le s HS.out).2; omega)
  rw [List.take_nil, List.drop_nil, List.append_nil, List.nil_append] at HI
  clear hba h0
  go_wp2_with fail
  refine HI.mono ?_
  rintro e w4 ⟨rfl, hM, a', n', c', hP4, hW4⟩
  have hl4 : n' ≤ 65536 := by have h1 := hP4.len; rw [pack_one] at h1; have h2 := (enc_le s HS.out).2; omega
  have hsz := HB2.out.size
  have hs4 : Stay w w4 (l :: R :: fpN (l1 ++ l2)) := by
    refine (Stay.of_below HBa.out (l :: R :: fpN (l1 ++ l2))).trans (Stay.of_moves hM) ?_
    intro k hk
    refine .inr (Nat.le_trans hsz ?_)
    exact (HP.out.blocks.1 k hk).1
  have hL4 : Lst w4 B l R most cnt (l1 ++ l2) := by
    refine (HL.out.keep HBa.out).stay (Stay.of_moves hM) ?_
    intro k hk hm
    exact HL.out.fresh HP.out hsz k hm hk
  have HK := HLk p a' n' c' [s] w4 hL4 (hP4.low' (Nat.le_trans (Nat.le_trans HL.out.lowl (Nat.le_of_lt HL.out.lt)) hsz)) (fit_one HS.out) hl4 hP4.blocks.2 (HL.out.fresh hP4 hsz)
  have HS4 : Hid (Stay w w4 (l :: R :: fpN (l1 ++ l2))) := hs4
  have HP4 : Hid (Pk w4 w2.heap.size p a' n' c' [s]) := hP4
  have HSz : Hid (w.heap.size ≤ w2.heap.size) := hsz
  clear hM hP4 hW4 hs4 hL4 HLk HI
  go_wp2_with fail
  refine HK.mono ?_
  rintro e w5 ⟨rfl, f, hf, hL5, hS5⟩
  obtain ⟨h6, h7⟩ := hL5.count (cnt + 1)
  have hc5 := hL5.ccnt
  have hf5 := hL5.frozen 1
  have HP : Hid (PutAt w B l R most cnt l1 l2 s (w5.setCell ⟨l, 1, none⟩ (.int .i64 ((cnt + 1 : Nat) : Nat)))) := by
    refine ⟨l1, [⟨f, p, a', n', c', [s]⟩], l2, h6, ?_, HOk.out.more (d := ⟨f, p, a', n', c', [s]⟩) ⟨by simp, HMo.out⟩, rfl, rfl, by simp [txN_cons, txN_nil]⟩
    refine (Goes.link HS4.out hS5 ?_).trans h7
    intro k hk
    have h1 := HS4.out.size
    rcases List.mem_cons.1 hk with rfl | hk
    · exact Nat.le_trans h1 hf
    · exact Nat.le_trans HSz.out (HP4.out.blocks.1 k hk).1
  clear hL5 hS5 h6 h7 hf
  go_wp2
  go_end0
  exact ⟨rfl, HP.out⟩

theorem putBehind_any (B l R most cnt : Nat) (l1 l2 : List Nd) (s : ByteArray) (w : World) (h : Lst w B l R most cnt (l1 ++ l2)) (hok : Ok most (l1 ++ l2)) (hs : s.size ≤ 4096) (hcnt : cnt ≤ 1000000) (hmost : 0 < most) :
    Calls Try.prog 55 #[ptr l, ptr (laA R l1), .string s] w fun e w' => e = .returned (.tuple #[]) ∧ PutAt w B l R most cnt l1 l2 s w' := by
  have hu : laA R l1 ∈ R :: adr (l1 ++ l2) := by
    rw [adr_append]
    have := laA_mem R l1
    simp only [List.mem_cons, List.mem_append] at this ⊢
    exact this.imp id .inl
  have hv : hdA R l2 ∈ R :: adr (l1 ++ l2) := by
    rw [adr_append]
    have := hdA_mem R l2
    simp only [List.mem_cons, List.mem_append] at this ⊢
    exact this.imp id .inr
  rcases hasRoom_at B l R most cnt _ _ s w h hu hs with HA | ⟨d, hd, hda, hm, hn, HA⟩
  · rcases hasRoom_at B l R most cnt _ _ s w h hv hs with HC | ⟨d, hd, hda, hm, hn, HC⟩
    · exact putBehind_new B l R most cnt l1 l2 s w h hok hs hcnt hmost HA HC
    · cases l2 with
      | nil => exact absurd hda (h.ne_ring hd)
      | cons e k2 =>
        have : d = e := h.same hd (by simp) hda
        subst this
        exact putBehind_back B l R most cnt l1 k2 d s w h hok hs hcnt hm hn HA HC
  · rcases snoc_ex l1 with rfl | ⟨k, e, rfl⟩
    · exact absurd hda (h.ne_ring hd)
    · rw [laA_snoc] at hda HA ⊢
      have : d = e := h.same hd (by simp) hda
      subst this
      have es : k ++ [d] ++ l2 = k ++ d :: l2 := by simp
      rw [es] at h hok
      have := putBehind_fore B l R most cnt k l2 d s w h hok hs hcnt hm hn HA
      exact this
end Go.Proofs.Ytemiajjjhhofaab
