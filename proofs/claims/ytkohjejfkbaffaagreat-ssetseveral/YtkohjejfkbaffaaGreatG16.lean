/-
  The law's own model of a set: members in a row; At, add, remove.
  A set and the law's model side by side: what each call leaves of both; member; a call in memory.
-/
import Derived.Test.YtkohjejfkbaffaaGreatG15
namespace Go.Proofs.YtkohjejfkbaffaaGreat
open Go.RowKit Go.PlainAid
open Dk (En Stay hasK putE delE keysOf Dct Dg dtag Turn)

theorem At_no (B : Nat) (a : Option Addr) (n c : Nat) (l : List ByteArray) (f : ByteArray) (w : World) (h : OwnS w B a n c l) (hn : n ≤ 1000000) (hf : f ∉ l) :
    Calls Tryz.prog 42 #[.slice a n c, .string f] w fun e w' => e = .returned (.int .i64 (-1)) ∧ w' = w := by
  have HM : Hid (OwnS w B a n c l) := h
  have HF : Hid (f ∉ l) := hf
  clear h hf
  go_enter Tryz.func42, Tryz.ntmps42
  go_wp2
  go_loopg [5] n (fun g iv wr => w = wr ∧ ∃ i : Nat, i + g = n ∧ iv = .int .i64 i)
  case atStart => exact ⟨rfl, 0, by omega, rfl⟩
  case round =>
    obtain ⟨rfl, i, hi, rfl⟩ := hrel
    by_cases h8 : (i : Int) < n
    · obtain ⟨b, off, hg, hk⟩ := HM.out.rd.cell i (by omega)
      have hne : ((l.getD i ByteArray.empty).toList == f.toList) = false := by
        rw [str_beq]
        refine decide_eq_false fun e => ?_
        exact HF.out (e ▸ getD_in (by have := HM.out.len; omega))
      generalize l.getD i ByteArray.empty = k at hk hne
      subst hg
      go_wp2
      go_roundg (gk - 1)
      case measure => omega
      case rel => exact ⟨rfl, i + 1, by omega, by go_num⟩
    · go_wp2
      go_ret
      exact ⟨rfl, rfl⟩
theorem At_yes (B : Nat) (a : Option Addr) (n c : Nat) (b r : List ByteArray) (f : ByteArray) (w : World) (h : OwnS w B a n c (b ++ f :: r)) (hn : n ≤ 1000000) (hf : f ∉ b) :
    Calls Tryz.prog 42 #[.slice a n c, .string f] w fun e w' => e = .returned (.int .i64 (b.length : Nat)) ∧ w' = w := by
  have HM : Hid (OwnS w B a n c (b ++ f :: r)) := h
  have HF : Hid (f ∉ b) := hf
  have hlen : b.length < n := by have := h.len; rw [List.length_append, List.length_cons] at this; omega
  obtain ⟨L, hL⟩ : ∃ L, b.length = L := ⟨_, rfl⟩
  have HL : Hid (b.length = L) := hL
  rw [hL] at hlen ⊢
  clear h hf hL
  go_enter Tryz.func42, Tryz.ntmps42
  go_wp2
  go_loopg [5] L (fun g iv wr => w = wr ∧ ∃ i : Nat, i + g = L ∧ iv = .int .i64 i)
  case atStart => exact ⟨rfl, 0, by omega, rfl⟩
  case round =>
    obtain ⟨rfl, i, hi, rfl⟩ := hrel
    have h8 : (i : Int) < n := by omega
    obtain ⟨bb, off, hg, hk⟩ := HM.out.rd.cell i (by omega)
    by_cases h9 : i < L
    · have hne : (((b ++ f :: r).getD i ByteArray.empty).toList == f.toList) = false := by
        rw [str_beq]
        refine decide_eq_false fun e => ?_
        have hi2 : i < b.length := by have := HL.out; omega
        rw [List.getD_eq_getElem?_getD, List.getElem?_append_left hi2, List.getElem?_eq_getElem hi2] at e
        exact HF.out (e ▸ List.getElem_mem hi2)
      generalize (b ++ f :: r).getD i ByteArray.empty = k at hk hne
      subst hg
      go_wp2
      go_roundg (gk - 1)
      case measure => omega
      case rel => exact ⟨rfl, i + 1, by omega, by go_num⟩
    · have hiL : i = L := by omega
      subst hiL
      have he : (b ++ f :: r).getD i ByteArray.empty = f := by
        have := HL.out
        rw [List.getD_eq_getElem?_getD, List.getElem?_append_right (by omega), show i - b.length = 0 by omega]
        rfl
      rw [he] at hk
      clear he
      subst hg
      go_wp2
      go_ret
      exact ⟨rfl, rfl⟩
/-- The first of a text in a row. -/
theorem first_of {l : List ByteArray} {f : ByteArray} (h : f ∈ l) : ∃ b r, l = b ++ f :: r ∧ f ∉ b := by
  induction l with
  | nil => simp at h
  | cons s l ih =>
    by_cases e : s = f
    · exact ⟨[], l, by rw [e]; rfl, by simp⟩
    · obtain ⟨b, r, h1, h2⟩ := ih ((List.mem_cons.1 h).resolve_left (fun h => e h.symm))
      refine ⟨s :: b, r, by rw [h1]; rfl, fun hm => ?_⟩
      rcases List.mem_cons.1 hm with h3 | h3
      · exact e h3.symm
      · exact h2 h3
/-- At: is it there? -/
theorem At_is (B : Nat) (a : Option Addr) (n c : Nat) (l : List ByteArray) (f : ByteArray) (w : World) (h : OwnS w B a n c l) (hn : n ≤ 1000000) :
    ∃ z : Int, ((∃ q : Nat, z = q ∧ q < n ∧ hasM l f = true) ∨ (z = -1 ∧ hasM l f = false)) ∧ ∀ w', Below w.heap.size w w' → Calls Tryz.prog 42 #[.slice a n c, .string f] w' fun e w2 => e = .returned (.int .i64 z) ∧ w2 = w' := by
  by_cases hf : f ∈ l
  · obtain ⟨b, r, rfl, hb⟩ := first_of hf
    exact ⟨_, .inl ⟨b.length, rfl, by have := h.len; rw [List.length_append, List.length_cons] at this; omega, hasM_yes hf⟩, fun w' hbl => At_yes B a n c b r f w' (h.keep hbl) hn hb⟩
  · exact ⟨-1, .inr ⟨rfl, hasM_no hf⟩, fun w' hbl => At_no B a n c l f w' (h.keep hbl) hn hf⟩

/-- The model at q. -/
structure Md (w : World) (B q E T : Nat) (a : Option Addr) (n c : Nat) (l : List ByteArray) (pk : Bool) : Prop where
  blk : w.heap[q]? = some (.cells #[.slice a n c, .bool pk, .int .i64 (E : Nat), .int .i64 (T : Nat)] 49 (0, 0))
  row : OwnS w B a n c l
  low : B ≤ q
theorem Md.lt {w : World} {B q E T : Nat} {a : Option Addr} {n c : Nat} {l : List ByteArray} {pk : Bool} (h : Md w B q E T a n c l pk) : q < w.heap.size := (Array.getElem?_eq_some_iff.1 h.blk).1
theorem Md.keep {w wn : World} {B q E T : Nat} {a : Option Addr} {n c : Nat} {l : List ByteArray} {pk : Bool} (h : Md w B q E T a n c l pk) (hb : Below w.heap.size w wn) : Md wn B q E T a n c l pk := ⟨by rw [hb.block q h.lt]; exact h.blk, h.row.keep hb, h.low⟩
theorem Md.c0 {w : World} {B q E T : Nat} {a : Option Addr} {n c : Nat} {l : List ByteArray} {pk : Bool} (h : Md w B q E T a n c l pk) : w.cell? ⟨q, 0, none⟩ = some (.slice a n c) := by simp [World.cell?, h.blk]
theorem Md.c1 {w : World} {B q E T : Nat} {a : Option Addr} {n c : Nat} {l : List ByteArray} {pk : Bool} (h : Md w B q E T a n c l pk) : w.cell? ⟨q, 1, none⟩ = some (.bool pk) := by simp [World.cell?, h.blk]
theorem Md.c2 {w : World} {B q E T : Nat} {a : Option Addr} {n c : Nat} {l : List ByteArray} {pk : Bool} (h : Md w B q E T a n c l pk) : w.cell? ⟨q, 2, none⟩ = some (.int .i64 (E : Nat)) := by simp [World.cell?, h.blk]
theorem Md.c3 {w : World} {B q E T : Nat} {a : Option Addr} {n c : Nat} {l : List ByteArray} {pk : Bool} (h : Md w B q E T a n c l pk) : w.cell? ⟨q, 3, none⟩ = some (.int .i64 (T : Nat)) := by simp [World.cell?, h.blk]
theorem Md.fz {w : World} {B q E T : Nat} {a : Option Addr} {n c : Nat} {l : List ByteArray} {pk : Bool} (h : Md w B q E T a n c l pk) (o : Nat) : w.frozen? ⟨q, o, none⟩ = false := by simp [World.frozen?, h.blk]
theorem Md.len {w : World} {B q E T : Nat} {a : Option Addr} {n c : Nat} {l : List ByteArray} {pk : Bool} (h : Md w B q E T a n c l pk) : l.length = n := h.row.len
theorem Md.nr {w : World} {B q E T : Nat} {a : Option Addr} {n c : Nat} {l : List ByteArray} {pk : Bool} (h : Md w B q E T a n c l pk) : ∀ k, a.map (·.block) = some k → k ≠ q := by
  rintro k hk rfl
  obtain ⟨-, -, cur, h3⟩ := Dk.OwnR.lt (h.row : Dk.OwnR w B 9 1 a n c _) hk
  have h1 := h.blk
  rw [h3] at h1
  simp at h1
/-- Another row, whether it is packed: both are set. -/
theorem Md.setP {w : World} {B q E T : Nat} {a : Option Addr} {n c : Nat} {l : List ByteArray} {pk : Bool} (h : Md w B q E T a n c l pk) (pk' : Bool) : Md (w.setCell ⟨q, 1, none⟩ (.bool pk')) B q E T a n c l pk' :=
  ⟨by rw [Dk.heap_set h.blk]; rfl, Dk.OwnR.stay (h.row : Dk.OwnR w B 9 1 a n c _) (M := [q]) Stay.set (fun k hk hm => h.nr k hk (List.mem_singleton.1 hm)), h.low⟩
theorem Md.setR {w w1 : World} {B q E T : Nat} {a a' : Option Addr} {n c n' c' : Nat} {l l' : List ByteArray} {pk : Bool} (h : Md w B q E T a n c l pk) (hb : Below w.heap.size w w1) (hB : B ≤ w.heap.size) (hO : OwnS w1 w.heap.size a' n' c' l') : Md (w1.setCell ⟨q, 0, none⟩ (.slice a' n' c')) B q E T a' n' c' l' pk :=
  ⟨by rw [Dk.heap_set (h.keep hb).blk]; rfl, Dk.OwnR.stay (Dk.OwnR.low (hO : Dk.OwnR w1 w.heap.size 9 1 a' n' c' _) hB) (M := [q]) Stay.set (fun k hk hm => by have := (Dk.OwnR.lt (hO : Dk.OwnR w1 w.heap.size 9 1 a' n' c' _) hk).1; have := h.lt; have := List.mem_singleton.1 hm; omega), h.low⟩

/-- The blocks of a model. -/
def mfp (q : Nat) (a : Option Addr) : List Nat := q :: (a.map (·.block)).toList
/-- What a call leaves that turns a model. -/
def MTo (w w' : World) (B q E T : Nat) (l : List ByteArray) (pk : Bool) (M : List Nat) : Prop := ∃ a n c, Md w' B q E T a n c l pk ∧ Stay w w' M ∧ (∀ k ∈ mfp q a, k ∈ M ∨ w.heap.size ≤ k)

/-- Is the model packed behind an add? -/
def pk3 (pk : Bool) (n E T : Nat) (f : ByteArray) : Bool := pk && decide (n ≤ E) && decide (f.size ≤ T)
theorem OwnS.emp (w : World) : OwnS (w.alloc (.cells #[] 9)) w.heap.size (some ⟨w.heap.size, 0, none⟩) 0 0 [] := OwnS.made w [] w.heap.size 0 rfl (Nat.le_refl _) (by decide) _ rfl
theorem add_old (B q E T : Nat) (a : Option Addr) (n c : Nat) (l : List ByteArray) (pk : Bool) (f : ByteArray) (w : World) (h : Md w B q E T a n c l pk) (hn : n ≤ 100000) (hf : f ∈ l) :
    Calls Tryz.prog 54 #[ptr q, .string f] w fun e w' => e = .returned (.bool false) ∧ w' = w := by
  obtain ⟨b, r, rfl, hb⟩ := first_of hf
  have HA := At_yes B a n c b r f w h.row (by omega) hb
  have hc0 := h.c0
  generalize b.length = z at HA
  clear h hf
  go_enter Tryz.func54, Tryz.ntmps54
  go_wp2_with fail
  refine HA.mono ?_
  rintro e w1 ⟨rfl, rfl⟩
  go_wp2
  go_ret
  exact ⟨rfl, rfl⟩
set_option maxRecDepth 100000 in
set_option maxHeartbeats 4000000 in
theorem add_new (B q E T : Nat) (a : Option Addr) (n c : Nat) (l : List ByteArray) (pk : Bool) (f : ByteArray) (w : World) (h : Md w B q E T a n c l pk) (hB : B ≤ w.heap.size) (hn : n ≤ 100000) (hf : f ∉ l) :
    Calls Tryz.prog 54 #[ptr q, .string f] w fun e w' => e = .returned (.bool true) ∧ MTo w w' B q E T (l ++ [f]) (pk3 pk (n + 1) E T f) (mfp q a) := by
  have HA := At_no B a n c l f w h.row (by omega) hf
  have HM : Hid (Md w B q E T a n c l pk) := h
  have hc0 := h.c0
  obtain ⟨es', hes'⟩ : ∃ es', l ++ [f] = es' := ⟨_, rfl⟩
  obtain ⟨n', hn'⟩ : ∃ n', n + 1 = n' := ⟨_, rfl⟩
  have HEs : Hid (l ++ [f] = es') := hes'
  have HN' : Hid (n + 1 = n') := hn'
  have hn2 : n' ≤ 100001 := by omega
  rw [hes', hn']
  clear h hf hes' hn'
  go_enter Tryz.func54, Tryz.ntmps54
  go_wp2_with fail
  refine HA.mono ?_
  rintro e w1 ⟨rfl, rfl⟩
  clear HA
  go_upto_region 3 with fail
  go_cut [12] from 13 to 23 (fun u12 wx => ∃ wy a' c', wy = wx ∧ Hid (Md wy B q E T a' n' c' es' pk) ∧ Hid (Stay w1 wy (mfp q a)) ∧ Hid (∀ k ∈ mfp q a', k ∈ mfp q a ∨ w1.heap.size ≤ k))
  case first =>
    have hba : Below w1.heap.size w1 (w1.alloc (.cells #[] 9)) := alloc_below w1 _
    have hca := (HM.out.keep hba).c0
    have HO0 : Hid (OwnS (w1.alloc (.cells #[] 9)) w1.heap.size (some ⟨w1.heap.size, 0, none⟩) 0 0 []) := OwnS.emp w1
    have HRp : Hid (RdL (w1.alloc (.cells #[] 9)) a n c l) := (HM.out.keep hba).row.rl
    have HSz : Hid (w1.heap.size ≤ (w1.alloc (.cells #[] 9)).heap.size) := hba.size
    have HBa : Hid (Below w1.heap.size w1 (w1.alloc (.cells #[] 9))) := hba
    clear hba
    go_wp2_with (at_builtin; first
      | (refine append_strs rfl (.tmp 13) (.tmp 17) rfl w1.heap.size rfl HO0.out rfl HRp.out (by omega) HSz.out ?_; intro a2 n2 c2 w2 hn2' HO2 HB2; rw [Nat.zero_add] at hn2'; replace hn2' := hn2'.symm; subst hn2'; have HBw : Hid (Below w1.heap.size w1 w2) := HBa.out.trans HB2.out; have HBx : Hid (Below w1.heap.size w1 (w2.alloc (.cells #[.string f] 9))) := HBw.out.trans ((alloc_below w2 _).mono HBw.out.size); have HO3 : Hid (OwnS (w2.alloc (.cells #[.string f] 9)) w1.heap.size a2 n c2 ([] ++ l)) := HO2.out.keep (alloc_below w2 _))
      | (refine append_str rfl (.tmp 18) (.tmp 20) rfl w1.heap.size rfl HO3.out rfl (by simp; rfl) (by omega) HBx.out.size ?_; intro a4 n4 c4 w4 hn4 hO4 hB4; have HO4 : Hid (OwnS w4 w1.heap.size a4 n4 c4 ([] ++ l ++ [f])) := hO4; have HB5 : Hid (Below w1.heap.size w1 w4) := HBx.out.trans hB4; have hc4 := (HM.out.keep HB5.out).c0; have hf4 := (HM.out.keep HB5.out).fz 0; clear hO4 hB4))
    go_meet
    subst hn4
    rw [← HN'.out]
    have hO4 := HO4.out
    rw [List.nil_append, HEs.out] at hO4
    exact ⟨_, a4, c4, rfl, HM.out.setR HB5.out hB hO4, (Stay.of_below HB5.out _).trans (M' := [q]) Stay.set (fun i hi => .inl (by rw [List.mem_singleton.1 hi]; exact List.mem_cons_self ..)), fun k hk => by
      rcases List.mem_cons.1 hk with rfl | hk
      · exact .inl (List.mem_cons_self ..)
      · exact .inr (Dk.OwnR.lt (hO4 : Dk.OwnR w4 w1.heap.size 9 1 a4 _ c4 _) (Option.mem_toList.1 hk)).1⟩
  case rest =>
  obtain ⟨wx, a', c', rfl, HMd, HSt, HFp⟩ := hcut
  clear hc0
  have HMd' : Md wx.drew B q E T a' n' c' es' pk := HMd.out.keep (below_drewN wx 1)
  have hd0 := HMd'.c0
  have hd1 := HMd'.c1
  have hd2 := HMd'.c2
  have hd3 := HMd'.c3
  have hdf := HMd'.fz 1
  have HEnd : Hid (∀ b, MTo w1 (wx.drew.setCell ⟨q, 1, none⟩ (.bool b)) B q E T es' b (mfp q a)) := fun b => ⟨a', n', c', HMd'.setP b, (HSt.out.trans (M' := []) (Stay.of_below (below_drewN wx 1) []) (fun _ hi => absurd hi List.not_mem_nil)).trans (M' := [q]) Stay.set (fun i hi => .inl (by rw [List.mem_singleton.1 hi]; exact List.mem_cons_self ..)), HFp.out⟩
  have HNl : Hid (es'.length = n') := HMd'.len
  clear HMd'
  cases pk with
  | false =>
    have E1 : Hid (pk3 false n' E T f = false) := by show _ = _; unfold pk3; simp
    go_wp2_with fail
    go_region
    all_goals
      go_wp2
      go_ret
      exact ⟨rfl, by rw [E1.out]; exact HEnd.out false⟩
  | true =>
    by_cases h1 : n' ≤ E
    · have z1 : decide (n' ≤ E) = true := decide_eq_true h1
      by_cases h2 : f.size ≤ T
      · have z2 : decide (f.size ≤ T) = true := decide_eq_true h2
        have E1 : Hid (pk3 true n' E T f = true) := by show _ = _; unfold pk3; simp [h1, h2]
        go_wp2_with fail
        go_region
        all_goals
          go_wp2
          go_ret
          exact ⟨rfl, by rw [E1.out]; exact HEnd.out true⟩
      · have z2 : decide (f.size ≤ T) = false := decide_eq_false h2
        have E1 : Hid (pk3 true n' E T f = false) := by show _ = _; unfold pk3; simp [h2]
        go_wp2_with fail
        go_region
        all_goals
          go_wp2
          go_ret
          exact ⟨rfl, by rw [E1.out]; exact HEnd.out false⟩
    · have z1 : decide (n' ≤ E) = false := decide_eq_false h1
      have E1 : Hid (pk3 true n' E T f = false) := by show _ = _; unfold pk3; simp [h1]
      go_wp2_with fail
      go_region
      all_goals
        go_wp2
        go_ret
        exact ⟨rfl, by rw [E1.out]; exact HEnd.out false⟩

theorem rem_no (B q E T : Nat) (a : Option Addr) (n c : Nat) (l : List ByteArray) (pk : Bool) (f : ByteArray) (w : World) (h : Md w B q E T a n c l pk) (hn : n ≤ 100000) (hf : f ∉ l) :
    Calls Tryz.prog 55 #[ptr q, .string f] w fun e w' => e = .returned (.bool false) ∧ w' = w := by
  have HA := At_no B a n c l f w h.row (by omega) hf
  have hc0 := h.c0
  clear h hf
  go_enter Tryz.func55, Tryz.ntmps55
  go_wp2_with fail
  refine HA.mono ?_
  rintro e w1 ⟨rfl, rfl⟩
  go_wp2
  go_ret
  exact ⟨rfl, rfl⟩
set_option maxRecDepth 100000 in
set_option maxHeartbeats 4000000 in
theorem rem_yes (B q E T : Nat) (a : Option Addr) (n c : Nat) (b r : List ByteArray) (pk : Bool) (f : ByteArray) (w : World) (h : Md w B q E T a n c (b ++ f :: r) pk) (hB : B ≤ w.heap.size) (hn : n ≤ 100000) (hf : f ∉ b) :
    Calls Tryz.prog 55 #[ptr q, .string f] w fun e w' => e = .returned (.bool true) ∧ MTo w w' B q E T (b ++ r) pk (mfp q a) := by
  have HA := At_yes B a n c b r f w h.row (by omega) hf
  have HM : Hid (Md w B q E T a n c (b ++ f :: r) pk) := h
  have hc0 := h.c0
  have hlt : b.length < n := by have := h.len; rw [List.length_append, List.length_cons] at this; omega
  obtain ⟨a1, c1, hs1, hr1⟩ := h.row.rl.slice_h b.length (by omega)
  obtain ⟨a2, c2, hs2, hr2⟩ := h.row.rl.slice_l (b.length + 1) (by omega)
  rw [List.take_append_of_le_length (Nat.le_refl _), List.take_length] at hr1
  rw [List.drop_append, List.drop_of_length_le (by omega), show b.length + 1 - b.length = 1 by omega] at hr2
  replace hr2 : RdL w a2 (n - (b.length + 1)) c2 r := hr2
  have HR1 : Hid (RdL w a1 b.length c1 b) := hr1
  have HR2 : Hid (RdL w a2 (n - (b.length + 1)) c2 r) := hr2
  have HL : Hid (b.length + (n - (b.length + 1)) ≤ 100000) := by show _ ≤ _; omega
  obtain ⟨i, hi⟩ : ∃ i, b.length = i := ⟨_, rfl⟩
  rw [hi] at hlt hs1 hs2 HA HR1 HR2 HL
  obtain ⟨i1, hi1⟩ : ∃ i1, i + 1 = i1 := ⟨_, rfl⟩
  obtain ⟨k2, hk2⟩ : ∃ k2, n - (i + 1) = k2 := ⟨_, rfl⟩
  rw [hk2] at hs2 HR2 HL
  rw [hi1] at hs2
  have hw1 : IntKind.i64.wrap ((i : Int) + 1) = (i1 : Int) := by rw [IntKind.wrap_i64]; omega
  obtain ⟨es', hes'⟩ : ∃ es', b ++ r = es' := ⟨_, rfl⟩
  have HEs : Hid (b ++ r = es') := hes'
  rw [hes']
  clear h hf hr1 hr2 hi hi1 hk2 hes'
  go_enter Tryz.func55, Tryz.ntmps55
  go_wp2_with fail
  refine HA.mono ?_
  rintro e w1 ⟨rfl, rfl⟩
  clear HA hc0
  have hbd : Below w1.heap.size w1 w1.drew := below_drewN w1 1
  have hba : Below w1.heap.size w1 (w1.alloc (.cells #[] 9)).drew := (alloc_below w1 _).trans ((below_drewN _ 1).mono (alloc_below w1 _).size)
  have hcd := (HM.out.keep hbd).c0
  have hca := (HM.out.keep hba).c0
  have HO0 : Hid (OwnS (w1.alloc (.cells #[] 9)).drew w1.heap.size (some ⟨w1.heap.size, 0, none⟩) 0 0 []) := (OwnS.emp w1).keep (below_drewN _ 1)
  have HRa : Hid (RdL (w1.alloc (.cells #[] 9)).drew a1 i c1 b) := HR1.out.keep hba
  have HBa : Hid (Below w1.heap.size w1 (w1.alloc (.cells #[] 9)).drew) := hba
  have hL1 : 0 + i ≤ 1000000 := by have := HL.out; omega
  have hL2 : i + k2 ≤ 1000000 := by have := HL.out; omega
  clear hbd hba
  go_upto_region 4 with fail
  go_cut [14, 15] from 16 to 32 (fun u11 u12 wx => ∃ wy a' n' c', wy = wx ∧ Hid (Md wy B q E T a' n' c' es' pk) ∧ Hid (Stay w1 wy (mfp q a)) ∧ Hid (∀ k ∈ mfp q a', k ∈ mfp q a ∨ w1.heap.size ≤ k))
  case first =>
    go_region_law (first
      | (refine step_append_strs rfl (.tmp 15) (.tmp 21) rfl w1.heap.size (by simp [Act.eval, Act.put] <;> rfl) HO0.out (by simp [Act.eval, Act.put] <;> rfl) HRa.out hL1 HBa.out.size ?_; intro b2 n2 d2 w2 hn2' HO2 HB2; rw [Nat.zero_add] at hn2'; replace hn2' := hn2'.symm; subst hn2'; have HBw : Hid (Below w1.heap.size w1 w2) := HBa.out.trans HB2.out; have hc2 := (HM.out.keep HBw.out).c0; have HR2w : Hid (RdL w2 a2 k2 c2 r) := HR2.out.keep HBw.out)
      | (refine step_append_strs rfl (.tmp 22) (.tmp 29) rfl w1.heap.size (by simp [Act.eval, Act.put] <;> rfl) HO2.out (by simp [Act.eval, Act.put] <;> rfl) HR2w.out hL2 HBw.out.size ?_; intro b4 n4 d4 w4 hn4 HO4 HB4; have HB5 : Hid (Below w1.heap.size w1 w4) := HBw.out.trans HB4.out; have hc4 := (HM.out.keep HB5.out).c0; have hf4 := (HM.out.keep HB5.out).fz 0))
    all_goals
      go_wp2
      go_meet
      subst hn4
      have hO4 := HO4.out
      rw [List.nil_append, HEs.out] at hO4
      exact ⟨_, b4, i + k2, d4, rfl, HM.out.setR HB5.out hB hO4, (Stay.of_below HB5.out _).trans (M' := [q]) Stay.set (fun i hi => .inl (by rw [List.mem_singleton.1 hi]; exact List.mem_cons_self ..)), fun k hk => by
        rcases List.mem_cons.1 hk with rfl | hk
        · exact .inl (List.mem_cons_self ..)
        · exact .inr (Dk.OwnR.lt (hO4 : Dk.OwnR w4 w1.heap.size 9 1 b4 _ d4 _) (Option.mem_toList.1 hk)).1⟩
  case rest =>
  obtain ⟨wx, a', n', c', rfl, HMd, HSt, HFp⟩ := hcut
  go_wp2
  go_ret
  exact ⟨rfl, a', n', c', HMd.out, HSt.out, HFp.out⟩
end Go.Proofs.YtkohjejfkbaffaaGreat

namespace Go.Proofs.YtkohjejfkbaffaaGreat
open Go.RowKit Go.PlainAid
open Dk (En Stay hasK putE delE keysOf Dct Dg dtag Turn)

theorem Md.stay {w w' : World} {B q E T : Nat} {a : Option Addr} {n c : Nat} {l : List ByteArray} {pk : Bool} {M : List Nat} (h : Md w B q E T a n c l pk) (hs : Stay w w' M) (hd : ∀ k ∈ mfp q a, k ∉ M) : Md w' B q E T a n c l pk :=
  ⟨by rw [hs.block q h.lt (hd q (List.mem_cons_self ..))]; exact h.blk, Dk.OwnR.stay (h.row : Dk.OwnR w B 9 1 a n c _) hs (fun k hk => hd k (List.mem_cons_of_mem _ (Option.mem_toList.2 hk))), h.low⟩
/-- The types of a model's blocks. -/
def mtag (t : TypeId) : Bool := t == 49 || t == 9
theorem tags_apart : ∀ t, mtag t = true → htag t = false := by
  intro t h
  unfold mtag at h
  simp only [Bool.or_eq_true, beq_iff_eq] at h
  rcases h with rfl | rfl <;> rfl
theorem Md.tags {w : World} {B q E T : Nat} {a : Option Addr} {n c : Nat} {l : List ByteArray} {pk : Bool} (h : Md w B q E T a n c l pk) : ∀ k ∈ mfp q a, B ≤ k ∧ k < w.heap.size ∧ ∃ cs t, w.heap[k]? = some (.cells cs t (0, 0)) ∧ mtag t = true := by
  intro k hk
  rcases List.mem_cons.1 hk with rfl | hk
  · exact ⟨h.low, h.lt, _, _, h.blk, rfl⟩
  · obtain ⟨h1, h2, cur, h3⟩ := Dk.OwnR.lt (h.row : Dk.OwnR w B 9 1 a n c _) (Option.mem_toList.1 hk)
    exact ⟨h1, h2, _, _, h3, rfl⟩
/-- A set and a model share nothing. -/
theorem ss_md {w : World} {B C m x E T E' T' q : Nat} {hs l : List ByteArray} {pk pk' : Bool} {F : List Nat} {a : Option Addr} {n c : Nat} (h : Ss w B m x E T hs pk F) (h' : Md w C q E' T' a n c l pk') : ∀ k ∈ F, k ∉ mfp q a := by
  intro k hk hk2
  obtain ⟨-, -, cs, t, h1, h2⟩ := h.tags k hk
  obtain ⟨-, -, cs', t', h3, h4⟩ := h'.tags k hk2
  rw [h1] at h3
  simp at h3
  have := tags_apart t' h4
  rw [← h3.2, h2] at this
  cases this

theorem MAdd (B q E T : Nat) (a : Option Addr) (n c : Nat) (l : List ByteArray) (pk : Bool) (f : ByteArray) (w : World) (h : Md w B q E T a n c l pk) (hB : B ≤ w.heap.size) (hn : l.length ≤ 100000) :
    Calls Tryz.prog 54 #[ptr q, .string f] w fun e w' => e = .returned (.bool (!hasM l f)) ∧ MTo w w' B q E T (addM l f) (pkA l pk E T f) (mfp q a) := by
  have hl := h.len
  by_cases hf : f ∈ l
  · rw [hasM_yes hf, addM_yes hf, show pkA l pk E T f = pk by unfold pkA; rw [if_pos (hasM_yes hf)]]
    refine (add_old B q E T a n c l pk f w h (by omega) hf).mono ?_
    rintro e w' ⟨rfl, rfl⟩
    exact ⟨rfl, a, n, c, h, Stay.of_below (Below.refl _ _) _, fun k hk => .inl hk⟩
  · have e1 : pkA l pk E T f = pk3 pk (n + 1) E T f := by unfold pkA pk3; rw [if_neg (by rw [hasM_no hf]; decide), hl]
    rw [hasM_no hf, e1, addM_no hf]
    exact add_new B q E T a n c l pk f w h hB (by omega) hf
theorem MRem (B q E T : Nat) (a : Option Addr) (n c : Nat) (l : List ByteArray) (pk : Bool) (f : ByteArray) (w : World) (h : Md w B q E T a n c l pk) (hB : B ≤ w.heap.size) (hn : l.length ≤ 100000) (hd : l.Nodup) :
    Calls Tryz.prog 55 #[ptr q, .string f] w fun e w' => e = .returned (.bool (hasM l f)) ∧ MTo w w' B q E T (remM l f) pk (mfp q a) := by
  have hl := h.len
  by_cases hf : f ∈ l
  · obtain ⟨b, r, rfl, hb⟩ := first_of hf
    rw [hasM_yes hf, remM_mid hd]
    exact rem_yes B q E T a n c b r pk f w h hB (by omega) hb
  · rw [hasM_no hf, remM_no hf]
    refine (rem_no B q E T a n c l pk f w h (by omega) hf).mono ?_
    rintro e w' ⟨rfl, rfl⟩
    exact ⟨rfl, a, n, c, h, Stay.of_below (Below.refl _ _) _, fun k hk => .inl hk⟩

/-- A set at m and the model at q: both have l. -/
def Pm (w : World) (B m x E T q : Nat) (l : List ByteArray) (F M : List Nat) : Prop := ∃ pk a n c, Ss w B m x E T l pk F ∧ Md w B q E T a n c l pk ∧ M = mfp q a
theorem Pm.keep {w wn : World} {B m x E T q : Nat} {l : List ByteArray} {F M : List Nat} (h : Pm w B m x E T q l F M) (hb : Below w.heap.size w wn) : Pm wn B m x E T q l F M := by
  obtain ⟨pk, a, n, c, h1, h3, h4⟩ := h
  exact ⟨pk, a, n, c, h1.keep hb, h3.keep hb, h4⟩
theorem Pm.nod {w : World} {B m x E T q : Nat} {l : List ByteArray} {F M : List Nat} (h : Pm w B m x E T q l F M) : l.Nodup := by
  obtain ⟨pk, a, n, c, h1, h3, h4⟩ := h
  exact h1.nod
theorem Pm.dj {w : World} {B m x E T q : Nat} {l : List ByteArray} {F M : List Nat} (h : Pm w B m x E T q l F M) : (∀ k ∈ F, k ∉ M) ∧ (∀ k ∈ F, B ≤ k ∧ k < w.heap.size) ∧ (∀ k ∈ M, B ≤ k ∧ k < w.heap.size) ∧ B ≤ w.heap.size := by
  obtain ⟨pk, a, n, c, h1, h3, rfl⟩ := h
  exact ⟨ss_md h1 h3, fun k hk => ⟨(h1.tags k hk).1, (h1.tags k hk).2.1⟩, fun k hk => ⟨(h3.tags k hk).1, (h3.tags k hk).2.1⟩, h1.2.1⟩
theorem Pm.stay {w w' : World} {B m x E T q : Nat} {l : List ByteArray} {F M N : List Nat} (h : Pm w B m x E T q l F M) (hs : Stay w w' N) (hF : ∀ k ∈ F, k ∉ N) (hM : ∀ k ∈ M, k ∉ N) : Pm w' B m x E T q l F M := by
  obtain ⟨pk, a, n, c, h1, h3, rfl⟩ := h
  exact ⟨pk, a, n, c, h1.stay hs hF, h3.stay hs hM, rfl⟩
/-- What a call leaves that turns both. -/
def PTo (w w' : World) (B m x E T q : Nat) (l : List ByteArray) (F M : List Nat) : Prop := ∃ F' M', Pm w' B m x E T q l F' M' ∧ Stay w w' (F ++ M) ∧ (∀ k ∈ F', k ∈ F ∨ w.heap.size ≤ k) ∧ (∀ k ∈ M', k ∈ M ∨ w.heap.size ≤ k)
theorem PTo.same {w w' : World} {B m x E T q : Nat} {l : List ByteArray} {F M : List Nat} (h : Pm w B m x E T q l F M) (hb : Below w.heap.size w w') : PTo w w' B m x E T q l F M := ⟨F, M, h.keep hb, Stay.of_below hb _, fun _ h => .inl h, fun _ h => .inl h⟩
theorem PTo.below {w w' : World} {B m x E T q : Nat} {l r : List ByteArray} {F M : List Nat} (h : PTo w w' B m x E T q l F M) (h0 : Pm w B m x E T q r F M) : Below B w w' := by
  obtain ⟨F', M', -, h2, -⟩ := h
  obtain ⟨-, k1, k2, k3⟩ := h0.dj
  exact h2.below (fun k hk => by rcases List.mem_append.1 hk with h | h; exact (k1 k h).1; exact (k2 k h).1) k3
theorem PTo.trans {w w1 w2 : World} {B m x E T q : Nat} {l : List ByteArray} {F M F1 M1 : List Nat} (h1 : Stay w w1 (F ++ M)) (hF : ∀ k ∈ F1, k ∈ F ∨ w.heap.size ≤ k) (hM : ∀ k ∈ M1, k ∈ M ∨ w.heap.size ≤ k) (h : PTo w1 w2 B m x E T q l F1 M1) : PTo w w2 B m x E T q l F M := by
  obtain ⟨F2, M2, k1, k2, k3, k4⟩ := h
  refine ⟨F2, M2, k1, h1.trans k2 (fun i hi => ?_), fun k hk => (k3 k hk).elim (hF k) (fun h => .inr (Nat.le_trans h1.size h)), fun k hk => (k4 k hk).elim (hM k) (fun h => .inr (Nat.le_trans h1.size h))⟩
  rcases List.mem_append.1 hi with h | h
  · exact (hF i h).imp (fun h => List.mem_append.2 (.inl h)) id
  · exact (hM i h).imp (fun h => List.mem_append.2 (.inr h)) id
/-- The set is turned, then the model. -/
theorem Pm.both {w w1 w2 : World} {B m x E T q : Nat} {l' : List ByteArray} {pk' : Bool} {F M : List Nat} (h1 : STo w w1 B m x E T l' pk' F) (h2 : MTo w1 w2 B q E T l' pk' M) (hx : ∀ {F'}, Ss w1 B m x E T l' pk' F' → ∀ k ∈ F', k ∉ M) : PTo w w2 B m x E T q l' F M := by
  obtain ⟨F', k1, k2, k3⟩ := h1
  obtain ⟨a, n, c, j1, j2, j3⟩ := h2
  refine ⟨F', mfp q a, ⟨pk', a, n, c, k1.stay j2 (hx k1), j1, rfl⟩, ?_, k3, fun k hk => (j3 k hk).imp id (fun h => Nat.le_trans k2.size h)⟩
  exact (k2.mono (fun i hi => List.mem_append.2 (.inl hi))).trans (M' := M) j2 (fun i hi => .inl (List.mem_append.2 (.inr hi)))

/-- The member of a call. -/
def mbE (N : Int) (F : ByteArray) : ByteArray := if N.tmod 4 = 0 then cutB F 80 else ⟨#[102]⟩ ++ ltr ((wi N 1048576 : Int).tmod 26)
theorem cutB_size (F : ByteArray) : (cutB F 80).size ≤ 80 := by have := size_cutB F 80 (by decide); omega
theorem mbE_size (N : Int) (F : ByteArray) : (mbE N F).size ≤ 80 := by
  unfold mbE
  split
  · exact cutB_size F
  · rw [ByteArray.size_append, ← ByteArray.size_data (a := ltr _), ltr_data (tm26 _).1 (tm26 _).2]
    exact (by decide : 1 + 1 ≤ 80)
set_option maxRecDepth 100000 in
theorem member_any (kind N : Int) (F : ByteArray) (w : World) :
    Calls Tryz.prog 53 #[.agg #[.int .i64 kind, .int .i64 N, .string F]] w fun e w' => e = .returned (.string (mbE N F)) ∧ Below w.heap.size w w' := by
  have HB : Hid (Below w.heap.size w (w.alloc (.cells #[.int .i64 kind, .int .i64 N, .string F] 25))) := alloc_below w _
  by_cases h3 : N.tmod 4 = 0
  · have HC := fun w => Cut_any F 80 w (by decide)
    have HE : Hid (mbE N F = cutB F 80) := by show _ = _; unfold mbE; rw [if_pos h3]
    generalize cutB F 80 = k at HC HE
    go_enter Tryz.func53, Tryz.ntmps53
    go_wp2_with fail
    refine (HC _).mono ?_
    rintro e w2 ⟨rfl, rfl⟩
    go_wp2
    go_ret
    exact ⟨by rw [HE.out]; rfl, HB.out⟩
  · have hz : (N.tmod 4 == 0) = false := by simpa using h3
    have HE : Hid (mbE N F = ⟨#[102]⟩ ++ ltr ((wi N 1048576 : Int).tmod 26)) := by show _ = _; unfold mbE; rw [if_neg h3]
    have HW := fun w => Within_wi N 1048576 w (by decide)
    have hle := wi_le N 1048576
    generalize wi N 1048576 = m at HW HE hle
    have ha := tm26 (m : Int)
    have hs1 : (ltr ((m : Int).tmod 26)).size ≤ 4 := by rw [← ByteArray.size_data, ltr_data ha.1 ha.2]; exact (by decide : 1 ≤ 4)
    have e1 : Utf8.encode (97 + (m : Int).tmod 26) = ltr ((m : Int).tmod 26) := rfl
    generalize ltr ((m : Int).tmod 26) = L1 at e1 HE hs1
    obtain ⟨r, hr⟩ : ∃ r, (m : Int).tmod 26 = r := ⟨_, rfl⟩
    rw [hr] at ha e1
    go_enter Tryz.func53, Tryz.ntmps53
    go_wp2_with fail
    refine (HW _).mono ?_
    rintro e w2 ⟨rfl, rfl⟩
    go_wp2
    go_ret
    exact ⟨by rw [HE.out]; rfl, HB.out⟩

/-- A call in memory. -/
def Bx (w : World) (g : Nat) (kind N : Int) (F : ByteArray) : Prop := w.heap[g]? = some (.cells #[.int .i64 kind, .int .i64 N, .string F] 25 (0, 0))
theorem Bx.keep {w wn : World} {g : Nat} {kind N : Int} {F : ByteArray} (h : Bx w g kind N F) (hb : Below w.heap.size w wn) : Bx wn g kind N F := by
  unfold Bx
  rw [hb.block g (Array.getElem?_eq_some_iff.1 h).1]; exact h
theorem Bx.kind {w : World} {g : Nat} {kind N : Int} {F : ByteArray} (h : Bx w g kind N F) : w.cell? ⟨g, 0, none⟩ = some (.int .i64 kind) := by unfold Bx at h; simp [World.cell?, h]
theorem Bx.num {w : World} {g : Nat} {kind N : Int} {F : ByteArray} (h : Bx w g kind N F) : w.cell? ⟨g, 1, none⟩ = some (.int .i64 N) := by unfold Bx at h; simp [World.cell?, h]
theorem Bx.c2 {w : World} {g : Nat} {kind N : Int} {F : ByteArray} (h : Bx w g kind N F) : w.cell? ⟨g, 2, none⟩ = some (.string F) := by unfold Bx at h; simp [World.cell?, h]
theorem Pm.tg {w : World} {B m x E T q : Nat} {l : List ByteArray} {F M : List Nat} (h : Pm w B m x E T q l F M) : ∀ k ∈ F ++ M, ∃ cs t, w.heap[k]? = some (.cells cs t (0, 0)) ∧ (htag t || mtag t) = true := by
  obtain ⟨pk, a, n, c, h1, h3, rfl⟩ := h
  intro k hk
  rcases List.mem_append.1 hk with hk | hk
  · obtain ⟨-, -, cs, t, k1, k2⟩ := h1.tags k hk
    exact ⟨cs, t, k1, by rw [k2]; rfl⟩
  · obtain ⟨-, -, cs, t, k1, k2⟩ := h3.tags k hk
    exact ⟨cs, t, k1, by rw [k2]; simp⟩
theorem Bx.stay {w w' : World} {g : Nat} {kind N : Int} {F : ByteArray} {B m x E T q : Nat} {l : List ByteArray} {G M : List Nat} (h : Bx w g kind N F) (hp : Pm w B m x E T q l G M) (hs : Stay w w' (G ++ M)) : Bx w' g kind N F := by
  unfold Bx
  rw [hs.block g (Array.getElem?_eq_some_iff.1 h).1 (fun hm => ?_)]
  · exact h
  · obtain ⟨cs, t, h1, h2⟩ := hp.tg g hm
    unfold Bx at h
    rw [h] at h1
    simp at h1
    rw [← h1.2] at h2
    revert h2
    decide

/-- Many adds. -/
def mkey (N : Int) (i : Nat) : ByteArray := mny ((IntKind.i64.wrap ((i : Int) * N)).tmod 600)
def mset (N : Int) : Nat → List ByteArray → List ByteArray
  | 0, l => l
  | i + 1, l => mset N i (addM l (mkey N (i + 1)))
/-- What is there behind a call. -/
def stq (kind N : Int) (F : ByteArray) (l : List ByteArray) : List ByteArray :=
  if kind = 1 then addM l (mbE N F) else if kind = 2 then remM l (mbE N F) else if kind = 4 then mset N (wi N 40) l else l
theorem mset_len (N : Int) : ∀ (i : Nat) (l : List ByteArray), (mset N i l).length ≤ l.length + i
  | 0, l => Nat.le_refl _
  | i + 1, l => by
    have h1 := mset_len N i (addM l (mkey N (i + 1)))
    have h2 := addM_len l (mkey N (i + 1))
    show (mset N i (addM l (mkey N (i + 1)))).length ≤ _
    omega
theorem stq_len (kind N : Int) (F : ByteArray) (l : List ByteArray) : (stq kind N F l).length ≤ l.length + 40 := by
  unfold stq
  split
  · have := addM_len l (mbE N F); omega
  · split
    · have := remM_len l (mbE N F); omega
    · split
      · have := mset_len N (wi N 40) l; have := wi_le N 40; omega
      · omega
/-- No text is longer than this. -/
theorem mset_sz (N : Int) {T : Nat} (hT : 3 ≤ T) : ∀ (i : Nat) (l : List ByteArray), Szs T l → Szs T (mset N i l)
  | 0, _, h => h
  | i + 1, _, h => mset_sz N hT i _ (h.add (by unfold mkey; rw [mny_size]; exact hT))
theorem stq_sz (kind N : Int) (F : ByteArray) {l : List ByteArray} (h : Szs 80 l) : Szs 80 (stq kind N F l) := by
  unfold stq
  split
  · exact h.add (mbE_size N F)
  · split
    · exact h.rem _
    · split
      · exact mset_sz N (by decide) _ l h
      · exact h

/-- Add on the set, then add on the model. -/
theorem add_both (B m x E T q : Nat) (l : List ByteArray) (F M : List Nat) (k : ByteArray) (w : World) (h : Pm w B m x E T q l F M) (hk : k.size ≤ 4096) (hl : l.length ≤ 100000) :
    Calls Tryz.prog 12 #[ptr m, .string k] w fun e w1 => e = .returned (.tuple #[.bool (!hasM l k), .int .i64 0]) ∧ Below B w w1 ∧ Stay w w1 (F ++ M) ∧ (∀ wz, Below w1.heap.size w1 wz → Calls Tryz.prog 54 #[ptr q, .string k] wz fun e w2 => e = .returned (.bool (!hasM l k)) ∧ PTo w w2 B m x E T q (addM l k) F M ∧ Below B w w2) := by
  have h0 := h
  obtain ⟨pk, a, n, c, h1, h3, rfl⟩ := h
  refine (AddS B m x E T l pk F k w h1 hk (by omega)).mono ?_
  rintro e w1 ⟨rfl, ht⟩
  have hb := ht.below h1
  have hdj := ss_md h1 h3
  obtain ⟨F', k1, k2, k3⟩ := ht
  refine ⟨rfl, hb, k2.mono (fun i hi => List.mem_append.2 (.inl hi)), fun wz hbz => ?_⟩
  have hMd : Md w1 B q E T a n c l pk := h3.stay k2 (fun k hk hk2 => hdj k hk2 hk)
  refine (MAdd B q E T a n c l pk k wz (hMd.keep hbz) (Nat.le_trans k1.2.1 hbz.size) hl).mono ?_
  rintro e w2 ⟨rfl, hm⟩
  have hto : STo w wz B m x E T (addM l k) (pkA l pk E T k) F := ⟨F', k1.keep hbz, k2.trans (M' := []) (Stay.of_below hbz []) (fun _ hi => absurd hi List.not_mem_nil), k3⟩
  have hP := Pm.both hto hm (fun hF => ss_md hF (hMd.keep hbz))
  exact ⟨rfl, hP, hP.below h0⟩
theorem rem_both (B m x E T q : Nat) (l : List ByteArray) (F M : List Nat) (k : ByteArray) (w : World) (h : Pm w B m x E T q l F M) (hk : k.size ≤ 4096) (hl : l.length ≤ 100000) :
    Calls Tryz.prog 24 #[ptr m, .string k] w fun e w1 => e = .returned (.bool (hasM l k)) ∧ Below B w w1 ∧ (Calls Tryz.prog 55 #[ptr q, .string k] w1 fun e w2 => e = .returned (.bool (hasM l k)) ∧ PTo w w2 B m x E T q (remM l k) F M ∧ Below B w w2) := by
  have hnd := h.nod
  have h0 := h
  obtain ⟨pk, a, n, c, h1, h3, rfl⟩ := h
  refine (RemoveS B m x E T l pk F k w h1 (by unfold maxLen; omega)).mono ?_
  rintro e w1 ⟨rfl, ht⟩
  have hb := ht.below h1
  have hdj := ss_md h1 h3
  refine ⟨rfl, hb, ?_⟩
  have hto := ht
  obtain ⟨F', k1, k2, k3⟩ := ht
  have hMd : Md w1 B q E T a n c l pk := h3.stay k2 (fun k hk hk2 => hdj k hk2 hk)
  refine (MRem B q E T a n c l pk k w1 hMd k1.2.1 hl hnd).mono ?_
  rintro e w2 ⟨rfl, hm⟩
  have hP := Pm.both hto hm (fun hF => ss_md hF hMd)
  exact ⟨rfl, hP, hP.below h0⟩
end Go.Proofs.YtkohjejfkbaffaaGreat
