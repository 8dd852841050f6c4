/-
  DictBuckets: the buckets of all cursors are the keys, each once.
-/
import Derived.Test.YtejnmikbbnckeaaDeletes
namespace Go.Proofs.Ytejnmikbbnckeaa
open Go.RowKit Go.PlainAid

theorem refBucket_any (c : Nat) (d : Int) (w : World) (hc : c < 18446744073709551616) (h0 : -9223372036854775808 ≤ d) (h1 : d ≤ 9223372036854775807) :
    Calls Try.prog 23 #[.int .u64 c, .int .i64 d] w fun e w' => e = .returned (.int .u64 (lowM c d : Nat)) ∧ w' = w := by
  have H := fun w => refLow_any c d w hc (by omega) h0
  generalize lowM c d = z at H ⊢
  go_enter Try.func23, Try.ntmps23
  go_wp2_with fail
  refine (H _).mono ?_
  rintro e w ⟨rfl, rfl⟩
  go_wp2
  go_ret
  exact ⟨rfl, rfl⟩
theorem refOf_hsh (x : Nat) (k : ByteArray) (w : World) (hks : k.size ≤ maxLen) (hx : x < 18446744073709551616) : Calls Try.prog 22 #[.int .u64 x, .string k] w fun e w' => e = .returned (.int .u64 (hsh x k : Nat)) ∧ w' = w := refOf_any x k w hks hx
theorem refLow_nat (h g : Nat) (w : World) (hh : h < 18446744073709551616) (hg : g ≤ 16) : Calls Try.prog 21 #[.int .u64 h, .int .i64 g] w fun e w' => e = .returned (.int .u64 (h % 2 ^ g : Nat)) ∧ w' = w := by
  have := refLow_any h g w hh (by omega) (by omega)
  rw [low_dep, dep_nat hg] at this
  exact this
theorem refBucket_nat (h g : Nat) (w : World) (hh : h < 18446744073709551616) (hg : g ≤ 16) : Calls Try.prog 23 #[.int .u64 h, .int .i64 g] w fun e w' => e = .returned (.int .u64 (h % 2 ^ g : Nat)) ∧ w' = w := by
  have := refBucket_any h g w hh (by omega) (by omega)
  rw [low_dep, dep_nat hg] at this
  exact this
theorem refNext_nat (c g : Nat) (w : World) (hc : c < 18446744073709551616) (hg : g ≤ 16) : Calls Try.prog 24 #[.int .u64 c, .int .i64 g] w fun e w' => e = .returned (.int .u64 (nxt g c : Nat)) ∧ w' = w := by
  have := refNext_any c g w hc (by omega) (by omega)
  rw [dep_nat hg] at this
  exact this

/-- What a filter by each number gives, number by number. -/
theorem parts_perm (φ : ByteArray → Nat) (ks : List ByteArray) : ∀ M, ((List.range M).flatMap fun j => ks.filter fun k => decide (φ k = j)).Perm (ks.filter fun k => decide (φ k < M))
  | 0 => by simp
  | M + 1 => by
    rw [List.range_succ, List.flatMap_append]
    have h1 := parts_perm φ ks M
    have h2 : ((ks.filter fun k => decide (φ k < M)) ++ (ks.filter fun k => decide (φ k = M))).Perm (ks.filter fun k => decide (φ k < M + 1)) := by
      have h3 := List.filter_append_perm (fun k => decide (φ k < M)) (ks.filter fun k => decide (φ k < M + 1))
      rw [List.filter_filter, List.filter_filter] at h3
      have e1 : (ks.filter fun k => decide (φ k < M) && decide (φ k < M + 1)) = ks.filter fun k => decide (φ k < M) := by
        congr 1
        funext k
        by_cases h : φ k < M
        · simp [h]; omega
        · simp [h]
      have e2 : (ks.filter fun k => (!decide (φ k < M)) && decide (φ k < M + 1)) = ks.filter fun k => decide (φ k = M) := by
        congr 1
        funext k
        by_cases h : φ k = M
        · simp [h]
        · by_cases h' : φ k < M
          · simp [h, h']
          · simp [h, h']; omega
      rw [e1, e2] at h3
      exact h3
    refine List.Perm.trans (List.Perm.append h1 ?_) h2
    simp
theorem bkt_rev (x g : Nat) (ks : List ByteArray) {j : Nat} (hj : j < 2 ^ g) : bkt x g ks (rev g j) = ks.filter fun k => decide (rev g (hsh x k) = j) := by
  unfold bkt
  congr 1
  funext k
  congr 1
  rw [Nat.mod_eq_of_lt (rev_lt g j)]
  apply propext
  rw [same_rev (rev_lt g j), rev_rev, Nat.mod_eq_of_lt hj]
/-- The buckets ahead of the i-th cursor. -/
def bks (x g : Nat) (ks : List ByteArray) (i : Nat) : List ByteArray := (List.range i).flatMap fun j => bkt x g ks (rev g j)
theorem bks_step (x g : Nat) (ks : List ByteArray) (i : Nat) : bks x g ks (i + 1) = bks x g ks i ++ bkt x g ks (rev g i) := by unfold bks; rw [List.range_succ, List.flatMap_append]; simp
theorem bks_perm (x g : Nat) (ks : List ByteArray) {i : Nat} (hi : i ≤ 2 ^ g) : (bks x g ks i).Perm (ks.filter fun k => decide (rev g (hsh x k) < i)) := by
  have h := parts_perm (fun k => rev g (hsh x k)) ks i
  have e : bks x g ks i = (List.range i).flatMap fun j => ks.filter fun k => decide (rev g (hsh x k) = j) := by
    unfold bks
    rw [List.flatMap_def, List.flatMap_def]
    congr 1
    refine List.map_congr_left ?_
    intro j hj
    exact bkt_rev x g ks (by have := List.mem_range.1 hj; omega)
  rw [e]
  exact h
theorem bks_all (x g : Nat) (ks : List ByteArray) : (bks x g ks (2 ^ g)).Perm ks := by
  refine (bks_perm x g ks (Nat.le_refl _)).trans ?_
  rw [List.filter_eq_self.2]
  intro k _
  exact decide_eq_true (rev_lt g _)
theorem bks_le (x g : Nat) (ks : List ByteArray) {i : Nat} (hi : i ≤ 2 ^ g) : (bks x g ks i).length ≤ ks.length := by
  rw [(bks_perm x g ks hi).length_eq]
  exact List.length_filter_le _ _
/-- What an append turns. -/
theorem OwnR.mvg {w w2 : World} {B : Nat} {e : TypeId} {s : Nat} {a : Option Addr} {n cap : Nat} {cs : List Value} (h : OwnR w B e s a n cap cs) (hg : w.grownBy w2 (a.map (·.block))) : Mv (fun t => t == e) w w2 :=
  ⟨hg.os, hg.tape, hg.output, hg.size, fun k cs' t hk ht => hg.block k (Array.getElem?_eq_some_iff.1 hk).1 (fun e2 => by
    obtain ⟨-, -, cur, h1⟩ := h.lt e2.symm
    rw [h1] at hk
    simp at hk
    rw [hk.2] at ht
    simp at ht)⟩
theorem dtag_nine : ∀ t, dtag t = true → (t == 9) = false := by
  intro t ht
  unfold dtag at ht
  simp only [Bool.or_eq_true, beq_iff_eq] at ht
  rcases ht with ((((rfl | rfl) | rfl) | rfl) | rfl) | rfl <;> rfl
theorem Dic.grown {w w2 : World} {B C d x g : Nat} {sh : List Pt} {es : List En} {a : Option Addr} {n cap : Nat} {ls : List ByteArray} (h : Dic w B d x g sh es) (hO : OwnS w C a n cap ls) (hg : w.grownBy w2 (a.map (·.block))) : Dic w2 B d x g sh es := h.mv (OwnR.mvg hO hg) dtag_nine
/-- Every third name. -/
def ths (m : Nat) : List En := (List.range m).map fun i => (nm (i * 3), (i : Int))
theorem ths_len (m : Nat) : (ths m).length = m := by simp [ths]
theorem ths_step (m : Nat) : ths (m + 1) = ths m ++ [(nm (m * 3), (m : Int))] := by unfold ths; rw [List.range_succ, List.map_append]; rfl
theorem ths_new {m : Nat} (hm : m < 1000) : nm (m * 3) ∉ keysOf (ths m) := by
  intro h
  obtain ⟨e, he, h1⟩ := List.mem_map.1 h
  obtain ⟨i, hi, rfl⟩ := List.mem_map.1 he
  rw [List.mem_range] at hi
  have := nm_inj (by omega) (by omega) h1
  omega
theorem ths_size {m : Nat} : ∀ k ∈ keysOf (ths m), k.size ≤ maxLen := by
  intro k hk
  obtain ⟨e, he, rfl⟩ := List.mem_map.1 hk
  obtain ⟨i, hi, rfl⟩ := List.mem_map.1 he
  exact nm_max _

set_option maxRecDepth 100000 in
set_option maxHeartbeats 8000000 in
theorem buckets_any (x : Nat) (n : Int) (w : World) (hx : x < 18446744073709551616) :
    Calls Try.prog 5 #[.int .u64 x, .int .i64 n] w fun e w' => e = .returned (.bool true) ∧ Below w.heap.size w w' := by
  have HN := fun w => DNew x w hx
  have HKn := known_any
  have HW1 := fun w => Within_any n 0 500 w (by decide) (by decide) (by decide)
  go_enter Try.func5, Try.ntmps5
  go_wp2_with fail
  refine (HN _).mono ?_
  rintro e w1 ⟨hb1, d, rfl, hD1⟩
  have HB1 : Hid (Below w.heap.size w w1) := hb1
  have HD1 : Hid (∃ g sh, Dic w1 w.heap.size d x g sh (ths 0)) := ⟨_, _, hD1⟩
  have HO1 : Hid (OwnS w1 w.heap.size none 0 0 (keysOf (ths 0))) := OwnR.nil _ _ _ _
  clear hb1 hD1 HN
  go_wp2_with fail
  refine (HW1 _).mono ?_
  rintro e w1 ⟨rfl, z, hz0, hz1, rfl⟩
  obtain ⟨k, rfl⟩ : ∃ k : Nat, z = (k : Int) := ⟨z.toNat, by omega⟩
  have hk : k ≤ 500 := by omega
  clear HW1 hz0 hz1
  go_wp2
  go_loopg [7, 8] k (fun q sv iv wr => ∃ (i : Nat) (a : Option Addr) (c : Nat), i + q = k ∧ iv = .int .i64 i ∧ sv = .slice a i c ∧ Hid (OwnS wr w.heap.size a i c (keysOf (ths i))) ∧ Hid (∃ g sh, Dic wr w.heap.size d x g sh (ths i)) ∧ Hid (Below w.heap.size w wr))
  case atStart => exact ⟨0, none, 0, by omega, rfl, rfl, HO1, HD1, HB1⟩
  case round =>
    clear HD1 HB1 HO1
    obtain ⟨i, a, c, hi, rfl, rfl, HO, HD, HB⟩ := hrel
    by_cases h8 : (i : Int) < k
    · have hNm := fun w => name_any (i * 3) w (by omega)
      have HNs : Hid (ths (i + 1) = ths i ++ [(nm (i * 3), (i : Int))]) := ths_step i
      have HPu := fun B g sh w hD => DPut_new B d x g sh (ths i) (nm (i * 3)) i w hD (nm_max _) (ths_new (by omega)) (by rw [ths_len]; omega)
      generalize nm (i * 3) = ky at hNm HPu HNs
      obtain ⟨i3, hi3⟩ : ∃ i3, i * 3 = i3 := ⟨_, rfl⟩
      have hi3z : (i : Int) * 3 = (i3 : Nat) := by omega
      rw [hi3] at hNm
      have hsz := HB.out.size
      clear HKn hi3
      go_wp2_with fail
      refine (hNm _).mono ?_
      rintro e wr ⟨rfl, rfl⟩
      go_wp2_with (at_builtin; refine append_r rfl (.tmp 25) (.tmp 29) rfl eltS w.heap.size rfl (OwnR.keep HO.out (alloc_below wr _)) [.string ky] rfl rfl (by intro j u hu; cases j with | zero => (rw [add_flat]; simp only [World.cell?, heap_alloc_new]; exact hu) | succ j => simp at hu) (by simp [Value.oneCell']) (by decide) (by omega) (by unfold maxLen; omega) (Nat.le_trans hsz (alloc_below wr _).size) ?_; intro a3 n3 c3 w3 hn3 HO3 HG3 HW3; have HB3 : Hid (Below w.heap.size w w3) := (HB.out.trans ((alloc_below wr _).mono hsz)).trans ((OwnR.keep HO.out (alloc_below wr _)).below HG3.out (Nat.le_trans hsz (alloc_below wr _).size)); have HD3 : Hid (∃ g sh, Dic w3 w.heap.size d x g sh (ths i)) := (by obtain ⟨g, sh, hD⟩ := HD.out; exact ⟨g, sh, (hD.keep (alloc_below wr _)).grown (OwnR.keep HO.out (alloc_below wr _)) HG3.out⟩))
      refine (hNm _).mono ?_
      rintro e w3 ⟨rfl, rfl⟩
      have HO3' : Hid (OwnS w3 w.heap.size a3 (i + 1) c3 (keysOf (ths (i + 1)))) := by
        have := HO3.out
        rw [hn3] at this
        rw [HNs.out, keysOf_append]
        show OwnR _ _ _ _ _ _ _ _
        rw [scells_append]
        exact this
      obtain ⟨g, sh, hD3⟩ := HD3.out
      have hPu := HPu _ g sh w3 hD3
      clear HPu hD3 HO3 HG3 HW3 hNm HO HD HB HD3
      go_wp2_with fail
      refine hPu.mono ?_
      rintro e w4 ⟨rfl, hb4, hm4, hD4⟩
      have HD4 : Hid (∃ g sh, Dic w4 w.heap.size d x g sh (ths (i + 1))) := ⟨_, _, by rw [HNs.out]; exact hD4⟩
      have HB4 : Hid (Below w.heap.size w w4) := HB3.out.trans hb4
      have HO4 : Hid (OwnS w4 w.heap.size a3 (i + 1) c3 (keysOf (ths (i + 1)))) := OwnR.mv HO3'.out hm4 rfl
      clear hb4 hm4 hD4 hPu HO3' HB3
      have hn3' : n3 = i + 1 := hn3
      subst hn3'
      go_wp2
      go_roundg (gk - 1)
      case measure => omega
      case rel => exact ⟨i + 1, a3, c3, by omega, by go_num, rfl, HO4, HD4, HB4⟩
    · have : i = k := by omega
      subst this
      clear hi h8
      obtain ⟨g, sh, hD⟩ := HD.out
      have hg16 := hD.shp.le
      have HDk : Hid (Dic wr w.heap.size d x g sh (ths i)) := hD
      have HDe : ∀ w', Dic w' w.heap.size d x g sh (ths i) → Calls Try.prog 16 #[ptr d] w' fun e w'' => e = .returned (.int .i64 (g : Nat)) ∧ w'' = w' := fun w' hD => DDepth _ d x g sh (ths i) w' hD
      clear hD HD
      go_wp2_with fail
      refine (HDe _ HDk.out).mono ?_
      rintro e wr ⟨rfl, rfl⟩
      by_cases hg10 : (10 : Int) < g
      · clear HDe
        go_wp2_with fail
        refine (HKn _).mono ?_
        rintro e w6 ⟨rfl, hb6⟩
        have HB6 := step_below HB hb6
        clear hb6
        go_wp2
        go_ret
        exact ⟨rfl, HB6.out⟩
      · have hip := ipow16 g hg16
        have hpw := pow_le_16 hg16
        have hppos : 0 < 2 ^ g := pow_pos g
        have HBk : ∀ j w', Dic w' w.heap.size d x g sh (ths i) → Calls Try.prog 20 #[ptr d, .int .u64 (rev g j : Nat)] w' fun e w'' => Below w'.heap.size w' w'' ∧ ∃ a n cp ks, e = .returned (.slice a n cp) ∧ OwnS w'' w'.heap.size a n cp ks ∧ ks.Perm (bkt x g (keysOf (ths i)) (rev g j)) := fun j w' hD => DBucket _ d x g sh (ths i) (rev g j) w' hD (by have := rev_64 j hg16; omega)
        have HNx : ∀ j, j < 2 ^ g → ∀ w, Calls Try.prog 24 #[.int .u64 (rev g j : Nat), .int .i64 g] w fun e w' => e = .returned (.int .u64 (rev g (j + 1) : Nat)) ∧ w' = w := fun j hj w => by
          have := refNext_nat (rev g j) g w (by have := rev_64 j hg16; omega) hg16
          rw [nxt_rev hj] at this
          exact this
        have HRB : ∀ j w, Calls Try.prog 23 #[.int .u64 (rev g j : Nat), .int .i64 g] w fun e w' => e = .returned (.int .u64 (rev g j % 2 ^ g : Nat)) ∧ w' = w := fun j w => refBucket_nat (rev g j) g w (by have := rev_64 j hg16; omega) hg16
        have HRL : ∀ (h : Nat) (w : World), h < 18446744073709551616 → Calls Try.prog 21 #[.int .u64 h, .int .i64 g] w fun e w' => e = .returned (.int .u64 (h % 2 ^ g : Nat)) ∧ w' = w := fun h w hh => refLow_nat h g w hh hg16
        have HSt : Hid (∀ j, bks x g (keysOf (ths i)) (j + 1) = bks x g (keysOf (ths i)) j ++ bkt x g (keysOf (ths i)) (rev g j)) := fun j => bks_step x g _ j
        have HLe : Hid (∀ j, j ≤ 2 ^ g → (bks x g (keysOf (ths i)) j).length ≤ 500) := fun j hj => by have := bks_le x g (keysOf (ths i)) hj; rw [List.length_map, ths_len] at this; omega
        have HAll : Hid ((bks x g (keysOf (ths i)) (2 ^ g)).Perm (keysOf (ths i)) ∧ rev g (2 ^ g) = 0) := ⟨bks_all x g _, rev_full g⟩
        have HKl : Hid ((keysOf (ths i)).length = i) := by show _ = _; rw [List.length_map, ths_len]
        have HSz : Hid (∀ k ∈ keysOf (ths i), k.size ≤ maxLen) := ths_size
        have HOf : ∀ k w, k.size ≤ maxLen → Calls Try.prog 22 #[.int .u64 x, .string k] w fun e w' => e = .returned (.int .u64 (hsh x k : Nat)) ∧ w' = w := fun k w hk => refOf_hsh x k w hk hx
        have HR0 : Hid (rev g 0 = 0) := rev_zero g
        have HMe : Hid (∀ j k, k ∈ bkt x g (keysOf (ths i)) (rev g j) → k.size ≤ maxLen ∧ hsh x k % 2 ^ g = rev g j % 2 ^ g) := fun j k hk => by
          have h1 := List.mem_filter.1 hk
          exact ⟨HSz.out k h1.1, of_decide_eq_true h1.2⟩
        have HBag := fun a n cap a' cap' ls ls' w hO hO' hn hp => Bag_any a a' n cap cap' ls ls' w hO hO' hn hp
        have HO0 : Hid (OwnS wr w.heap.size none 0 0 (bks x g (keysOf (ths i)) 0)) := OwnR.nil _ _ _ _
        generalize keysOf (ths i) = ks at HO HBk HSt HLe HAll HKl HMe HO0
        obtain ⟨P, hP⟩ : ∃ P, 2 ^ g = P := ⟨_, rfl⟩
        rw [hP] at hip hpw hppos HNx HLe HAll
        have HLst : Hid (∀ j, rev g j < 65536) := fun j => rev_64 j hg16
        clear hP HSz
        obtain ⟨ws, hws⟩ : ∃ ws, ws = wr := ⟨_, rfl⟩
        subst hws
        replace HO0 : Hid (OwnS ws ws.heap.size none 0 0 (bks x g ks 0)) := OwnR.nil _ _ _ _
        go_wp2
        go_loopg [9, 10, 11, 12, 13] P (fun q sv cv iv bv jv wr => ∃ (j n cp : Nat) (a' : Option Addr) (ls : List ByteArray), j + q = P ∧ iv = .int .i64 j ∧ cv = .int .u64 (rev g j : Nat) ∧ sv = .slice a' n cp ∧ Hid (OwnS wr ws.heap.size a' n cp ls) ∧ Hid (ls.Perm (bks x g ks j)) ∧ Hid (Below ws.heap.size ws wr))
        case atStart => exact ⟨0, 0, 0, none, _, by omega, rfl, by rw [HR0.out]; rfl, rfl, HO0, List.Perm.refl _, Below.refl _ _⟩
        case round =>
          clear HO0
          obtain ⟨j, n', cp', a', ls, hj, rfl, rfl, rfl, HOa, HPa, HBs⟩ := hrel
          obtain ⟨ga, hga⟩ : ∃ ga, ga = gk := ⟨_, rfl⟩
          subst hga
          have HDr : Hid (Dic wr w.heap.size d x g sh (ths i)) := HDk.out.keep HBs.out
          by_cases h9 : (j : Int) < P
          · have hBk := HBk j wr HDr.out
            have hNx := HNx j (by omega)
            have hRB := HRB j
            have HMj := HMe.out j
            have HStj := HSt.out j
            have hl1 := HLst.out j
            have HLj : Hid ((bks x g ks (j + 1)).length ≤ 500) := HLe.out (j + 1) (by omega)
            have HHj : Hid (j + ga = P) := hj
            obtain ⟨pl, hpl⟩ : ∃ pl, rev g j % 2 ^ g = pl := ⟨_, rfl⟩
            rw [hpl] at hRB HMj
            have hplb : pl < 65536 := by rw [← hpl]; exact Nat.lt_of_le_of_lt (Nat.mod_le _ _) hl1
            generalize hrv : rev g j = rv at hBk hNx hRB hl1 HMj HStj
            have HRv : Hid (rev g j = rv) := hrv
            generalize bkt x g ks rv = bk at hBk HMj HStj
            have HMk : Hid (∀ k ∈ bk, k.size ≤ maxLen ∧ hsh x k % 2 ^ g = pl) := HMj
            have HSk : Hid (bks x g ks (j + 1) = bks x g ks j ++ bk) := HStj
            rw [HSk.out, List.length_append] at HLj
            clear hpl hrv HMj HStj hj
            go_wp2_with fail
            refine (HDe _ HDr.out).mono ?_
            rintro e wr ⟨rfl, rfl⟩
            go_wp2_with fail
            refine hBk.mono ?_
            rintro e w4 ⟨hb4, a4, n4, c4, ks4, rfl, hO4, hp4⟩
            have HB4 := step_below HBs hb4
            have HO4 : Hid (OwnS w4 ws.heap.size a4 n4 c4 ks4) := OwnR.low hO4 HBs.out.size
            have HOa4 : Hid (OwnS w4 ws.heap.size a' n' cp' ls) := OwnR.keep HOa.out hb4
            have HP4 : Hid (ks4.Perm bk) := hp4
            have HN4 : Hid (ks4.length = n4) := OwnS.len hO4
            have hn4 : n' + n4 ≤ 500 := by
              have h1 := HLj.out
              have h2 := HPa.out.length_eq
              have h3 := HP4.out.length_eq
              have h4 := OwnS.len HOa.out
              have h5 := HN4.out
              omega
            have HDi : Hid (∀ w', Below w4.heap.size w4 w' → Dic w' w.heap.size d x g sh (ths i)) := fun w' hb => (HDr.out.keep hb4).keep hb
            clear hb4 hO4 hp4 hBk HBs HOa
            obtain ⟨wq, hwq⟩ : ∃ wq, wq = w4 := ⟨_, rfl⟩
            subst hwq
            go_wp2
            go_loopg [13] n4 (fun q jv wr => ∃ t : Nat, t + q = n4 ∧ jv = .int .i64 t ∧ wr = wq)
            case atStart => exact ⟨0, by omega, rfl, rfl⟩
            case round =>
              obtain ⟨t, ht, rfl, rfl⟩ := hrel
              by_cases h10 : (t : Int) < n4
              · obtain ⟨ky, hky, hkm⟩ := get_of_lt (l := ks4) (i := t) (by have := HN4.out; omega)
                obtain ⟨g4, hg4, hc4⟩ := OwnS.cell HO4.out (j := t) (by omega)
                subst hg4
                rw [List.getD_eq_getElem?_getD, hky] at hc4
                simp only [Option.getD_some] at hc4
                obtain ⟨hs1, hs2⟩ := HMk.out ky (HP4.out.mem_iff.1 hkm)
                have hOf := fun w => HOf ky w hs1
                have hRL := fun w => HRL (hsh x ky) w (hsh_lt x ky)
                rw [hs2] at hRL
                generalize hsh x ky = hh at hOf hRL
                have hDe := HDe wr (HDi.out wr (Below.refl _ _))
                clear hky hkm hs1 hs2
                go_wp2_with fail
                refine (hOf _).mono ?_
                rintro e wr ⟨rfl, rfl⟩
                go_wp2_with fail
                refine hDe.mono ?_
                rintro e wr ⟨rfl, rfl⟩
                go_wp2_with fail
                refine (hRL _).mono ?_
                rintro e wr ⟨rfl, rfl⟩
                go_wp2_with fail
                refine hDe.mono ?_
                rintro e wr ⟨rfl, rfl⟩
                go_wp2_with fail
                refine (hRB _).mono ?_
                rintro e wr ⟨rfl, rfl⟩
                go_wp2
                go_roundg (gk - 1)
                case measure => omega
                case rel => exact ⟨t + 1, by omega, by go_num, rfl⟩
              · go_wp2_with (at_builtin; refine append_p rfl (.tmp 73) (.tmp 74) rfl eltS ws.heap.size rfl HOa4.out rfl HO4.out.rd scells_one (by omega) (by unfold maxLen; omega) HB4.out.size ?_; intro a5 n5 c5 w5 hn5 HO5 HG5; have HB5 : Hid (Below ws.heap.size ws w5) := HB4.out.trans (HOa4.out.below HG5.out HB4.out.size); have HD5 : Hid (Dic w5 w.heap.size d x g sh (ths i)) := (HDi.out _ (Below.refl _ _)).grown HOa4.out HG5.out)
                refine (HDe _ HD5.out).mono ?_
                rintro e w5 ⟨rfl, rfl⟩
                go_wp2_with fail
                refine (hNx _).mono ?_
                rintro e w5 ⟨rfl, rfl⟩
                have HP5 : Hid ((ls ++ ks4).Perm (bks x g ks (j + 1))) := by show (ls ++ ks4).Perm _; rw [HSk.out]; exact HPa.out.append HP4.out
                have HO5' : Hid (OwnS w5 ws.heap.size a5 (n' + n4) c5 (ls ++ ks4)) := by have := HO5.out; rw [hn5, ← scells_append] at this; exact this
                clear HO5 HG5
                go_wp2
                go_roundg (ga - 1)
                case measure => have := HHj.out; omega
                case rel => exact ⟨j + 1, n' + n4, c5, a5, ls ++ ks4, by have := HHj.out; omega, by go_num, rfl, rfl, HO5', HP5, HB5⟩
          · have hjP : j = P := by omega
            subst hjP
            have HPz : Hid (ls.Perm ks) := HPa.out.trans HAll.out.1
            have hrz := HAll.out.2
            rw [hrz]
            have HOk : Hid (OwnS wr w.heap.size a i c ks) := OwnR.keep HO.out HBs.out
            obtain rfl : n' = i := by
              have h1 := HPz.out.length_eq
              have h2 := OwnS.len HOa.out
              have h3 := HKl.out
              omega
            have hBag := HBag a' n' cp' a c ls ks wr (OwnR.low HOa.out (Nat.zero_le _)) (OwnR.low HOk.out (Nat.zero_le _)) (by omega) HPz.out
            have HBw : Hid (Below w.heap.size w wr) := HB.out.trans (HBs.out.mono HB.out.size)
            clear HBag hrz HBk HNx HRB HRL HOf
            go_wp2_with fail
            refine (HDe _ HDr.out).mono ?_
            rintro e wr ⟨rfl, rfl⟩
            go_wp2_with fail
            refine hBag.mono ?_
            rintro e w6 ⟨rfl, hb6⟩
            have HB6 := step_below HBw hb6
            clear hb6 hBag HDe
            go_wp2_with fail
            refine (HKn _).mono ?_
            rintro e w7 ⟨rfl, hb7⟩
            have HB7 := step_below HB6 hb7
            clear hb7
            go_wp2
            go_ret
            exact ⟨rfl, HB7.out⟩
end Go.Proofs.Ytejnmikbbnckeaa
