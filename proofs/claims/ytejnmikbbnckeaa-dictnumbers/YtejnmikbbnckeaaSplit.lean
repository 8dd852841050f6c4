/-
  isSet and Split.
-/
import Derived.Test.YtejnmikbbnckeaaAbs
namespace Go.Proofs.Ytejnmikbbnckeaa
open Go.RowKit Go.PlainAid

/-- Has a number that bit, and is it 1? -/
def bset (h : Nat) (bit : Int) : Bool := decide (0 ≤ bit ∧ bit < 64) && decide (h / 2 ^ bit.toNat % 2 = 1)
theorem and_one (h t : Nat) (hh : h < 18446744073709551616) : bits .and .u64 ((h : Int) / 2 ^ t) 1 = ((h / 2 ^ t % 2 : Nat) : Int) := by
  have e2 : (2 : Int) ^ t = ((2 ^ t : Nat) : Int) := by simp
  rw [e2, ← Int.natCast_ediv]
  have hq : h / 2 ^ t < 18446744073709551616 := Nat.lt_of_le_of_lt (Nat.div_le_self _ _) hh
  generalize h / 2 ^ t = q at hq
  have := u64_and_nat q 1 hq (by decide)
  rw [Nat.and_one_is_mod] at this
  exact this
theorem isSet_any (h : Nat) (bit : Int) (w : World) (hh : h < 18446744073709551616) :
    Calls Try.prog 90 #[.int .u64 h, .int .i64 bit] w fun e w' => e = .returned (.bool (bset h bit)) ∧ w' = w := by
  by_cases h0 : 0 ≤ bit
  · by_cases h1 : bit < 64
    · obtain ⟨t, rfl⟩ : ∃ t : Nat, bit = (t : Int) := ⟨bit.toNat, by omega⟩
      have HR : Hid (bset h t = decide (h / 2 ^ t % 2 = 1)) := by show _ = _; unfold bset; rw [decide_eq_true ⟨h0, h1⟩, Int.toNat_natCast]; rfl
      have ha := and_one h t hh
      have hlt : h / 2 ^ t % 2 < 2 := Nat.mod_lt _ (by decide)
      generalize h / 2 ^ t % 2 = m at ha HR hlt
      rcases (by omega : m = 0 ∨ m = 1) with rfl | rfl
      · replace ha : bits .and .u64 ((h : Int) / 2 ^ t) 1 = 0 := ha
        go_enter Try.func90, Try.ntmps90
        go_wp2
        go_ret
        exact ⟨by rw [HR.out]; rfl, rfl⟩
      · replace ha : bits .and .u64 ((h : Int) / 2 ^ t) 1 = 1 := ha
        go_enter Try.func90, Try.ntmps90
        go_wp2
        go_ret
        exact ⟨by rw [HR.out]; rfl, rfl⟩
    · have HR : Hid (bset h bit = false) := by show _ = _; unfold bset; rw [decide_eq_false (by omega)]; rfl
      go_enter Try.func90, Try.ntmps90
      go_wp2
      go_ret
      exact ⟨by rw [HR.out]; rfl, rfl⟩
  · have HR : Hid (bset h bit = false) := by show _ = _; unfold bset; rw [decide_eq_false (by omega)]; rfl
    go_enter Try.func90, Try.ntmps90
    go_wp2
    go_ret
    exact ⟨by rw [HR.out]; rfl, rfl⟩

/-- Two tables, side by side, that need not have the same. -/
structure Pair (w : World) (B p b x : Nat) (es : List En) (q c : Nat) (fs : List En) : Prop where
  one : Tbl w B p b x es
  two : Tbl w B q c x fs
  ne : p ≠ q
  neb : b ≠ c
theorem Pair.keep {w wn : World} {B p b x q c : Nat} {es fs : List En} (h : Pair w B p b x es q c fs) (hb : Below w.heap.size w wn) : Pair wn B p b x es q c fs := ⟨h.one.keep hb, h.two.keep hb, h.ne, h.neb⟩
theorem Pair.first {w w1 : World} {B p b b1 x q c : Nat} {es es1 fs : List En} (h : Pair w B p b x es q c fs) (hm : Moves w w1 p b) (hT : Tbl w1 B p b1 x es1) (hb : b1 = b ∨ w.heap.size ≤ b1) : Pair w1 B p b1 x es1 q c fs := by
  refine ⟨hT, h.two.moves h.one hm h.ne.symm h.neb.symm, h.ne, ?_⟩
  have := h.two.lt
  rcases hb with rfl | hb
  · exact h.neb
  · omega
theorem Pair.second {w w1 : World} {B p b x q c c1 : Nat} {es fs fs1 : List En} (h : Pair w B p b x es q c fs) (hm : Moves w w1 q c) (hT : Tbl w1 B q c1 x fs1) (hb : c1 = c ∨ w.heap.size ≤ c1) : Pair w1 B p b x es q c1 fs1 := by
  refine ⟨h.one.moves h.two hm h.ne h.neb, hT, h.ne, ?_⟩
  have := h.one.lt
  rcases hb with rfl | hb
  · exact h.neb
  · omega
/-- The keys whose hash has that bit; those whose hash has not. -/
def onesOf (x : Nat) (bit : Int) (es : List En) : List En := es.filter fun e => bset (hsh x e.1) bit
def zerosOf (x : Nat) (bit : Int) (es : List En) : List En := es.filter fun e => !bset (hsh x e.1) bit
theorem not_filter {es : List En} {k : ByteArray} (h : k ∉ keysOf es) (f : En → Bool) : k ∉ keysOf (es.filter f) := by
  intro hm
  obtain ⟨e, he, h1⟩ := List.mem_map.1 hm
  exact h (List.mem_map.2 ⟨e, (List.mem_filter.1 he).1, h1⟩)

set_option maxRecDepth 100000 in
set_option maxHeartbeats 8000000 in
theorem Split_any (B p b x G : Nat) (z : List Cl) (bit : Int) (w : World) (hT : Tab w B p b x G z) :
    Calls Try.prog 69 #[ptr p, .int .i64 bit] w fun e w' => Below w.heap.size w w' ∧ ∃ p0 b0 p1 b1, e = .returned (.tuple #[ptr p0, ptr p1]) ∧ Pair w' w.heap.size p0 b0 x (zerosOf x bit (ents z)) p1 b1 (onesOf x bit (ents z)) := by
  have HT : Hid (Tab w B p b x G z) := hT
  have hx := hT.seed
  have HN := fun w => NewT x w hx
  have HN2 := fun w => NewT x w hx
  have hc := hT.top.seed
  have HCM : Hid (∀ w', Below w.heap.size w w' → w'.cell? ⟨p, 0, none⟩ = some (.int .u64 (x : Nat))) := fun w' hb => (HT.out.keep hb).top.seed
  have HD : Hid (Below w.heap.size w w.drew) := below_drewN w 1
  have HFa := fun w hT => full_any B p b x G z w hT
  have HND : Hid ((keysOf (ents z)).Nodup) := hT.inv.nod
  have HSZ : Hid (∀ e ∈ ents z, e.1.size ≤ maxLen) := hT.siz
  have HLE : Hid ((ents z).length ≤ 112) := by have := hT.inv.room; have := hT.inv.grp.le; show _ ≤ _; omega
  obtain ⟨es, hes⟩ : ∃ es, ents z = es := ⟨_, rfl⟩
  rw [hes] at HFa HND HSZ HLE ⊢
  clear hT hes
  go_enter Try.func69, Try.ntmps69
  go_upto_region 1 with fail
  go_cut [6, 7] from 10 to 19 (fun v6 v7 wx => ∃ p0 b0 p1 b1, v6 = ptr p0 ∧ v7 = ptr p1 ∧ Hid (Pair wx w.heap.size p0 b0 x [] p1 b1 []) ∧ Hid (Below w.heap.size w wx))
  case first =>
    go_region_held3 (fun w' => w'.cell? ⟨p, 0, none⟩ = some (.int .u64 (x : Nat))) (exact HCM.out _ HD.out) (first
      | (go_at_call 34; refine (HN _).mono ?_; rintro e wx ⟨hb, p2, b2, rfl, hT2⟩; have HF : Hid (Tbl wx w.heap.size p2 b2 x []) := hT2.low HD.out.size; replace HD := step_below HD hb; clear hb hT2 HN)
      | (go_at_call 34; refine (HN2 _).mono ?_; rintro e wy ⟨hb, p3, b3, rfl, hT3⟩; have HPr : Hid (Tbl wy w.heap.size p2 b2 x [] ∧ Tbl wy w.heap.size p3 b3 x [] ∧ p2 ≠ p3 ∧ b2 ≠ b3) := (by have h1 := HF.out.lt; have h2 := hT3.lt; exact ⟨HF.out.keep hb, hT3.low HD.out.size, by omega, by omega⟩); replace HD := step_below HD hb; clear hb hT3))
    go_wp2
    go_meet
    exact ⟨p2, b2, p3, b3, rfl, rfl, ⟨HPr.out.1, HPr.out.2.1, HPr.out.2.2.1, HPr.out.2.2.2⟩, HD⟩
  case rest =>
  clear HN HN2 hc HD
  obtain ⟨p0, b0, p1, b1, rfl, rfl, HP, HB⟩ := hcut
  have HFu := HFa _ (HT.out.keep HB.out)
  clear HFa
  go_wp2_with fail
  refine HFu.mono ?_
  rintro e w2 ⟨hb2, ae, ne, ce, rfl, hO⟩
  have HNE : Hid (es.length = ne) := OwnE.len hO
  have hne : ne ≤ 112 := by have := HLE.out; have := HNE.out; omega
  have HO2 : Hid (OwnE w2 w.heap.size ae ne ce es) := OwnR.low hO HB.out.size
  have HB2 := step_below HB hb2
  have HP2 : Hid (Pair w2 w.heap.size p0 b0 x (zerosOf x bit (es.take 0)) p1 b1 (onesOf x bit (es.take 0))) := HP.out.keep hb2
  clear hb2 hO HFu HP HB
  go_wp2
  go_loopg [9, 23] ne (fun q sv jv wr => ∃ i b0 b1 : Nat, i + q = ne ∧ jv = .int .i64 i ∧ Hid (Pair wr w.heap.size p0 b0 x (zerosOf x bit (es.take i)) p1 b1 (onesOf x bit (es.take i))) ∧ Hid (OwnE wr w.heap.size ae ne ce es) ∧ Hid (Below w.heap.size w wr))
  case atStart => exact ⟨0, b0, b1, by omega, rfl, HP2, HO2, HB2⟩
  case round =>
    clear HP2 HO2 HB2
    obtain ⟨i, b0, b1, hi, rfl, HP, HO, HB⟩ := hrel
    by_cases h8 : (i : Int) < ne
    · obtain ⟨gE, ha, hk, hv⟩ := OwnE.cell HO.out (j := i) (by omega)
      subst ha
      have hil : i < es.length := by have := HNE.out; omega
      have HFR : Hid ((es.getD i (⟨#[]⟩, 0)).1 ∉ keysOf (es.take i)) := fresh_key HND.out hil
      have HKS : Hid ((es.getD i (⟨#[]⟩, 0)).1.size ≤ maxLen) := HSZ.out _ (by rw [List.getD_eq_getElem?_getD, List.getElem?_eq_getElem hil]; exact List.getElem_mem hil)
      have HTS : Hid (es.take (i + 1) = es.take i ++ [es.getD i (⟨#[]⟩, 0)]) := take_snoc es _ i hil
      have HTL : Hid ((es.take i).length < 112) := by show _ < _; rw [List.length_take]; omega
      generalize es.getD i (⟨#[]⟩, 0) = ev at hk hv HFR HKS HTS
      obtain ⟨k, v⟩ := ev
      simp only [] at hk hv
      obtain ⟨w4, hw4⟩ : ∃ w4, wr.alloc (.cells #[.string k, .int .i64 v] 92) = w4 := ⟨_, rfl⟩
      obtain ⟨q, hq⟩ : ∃ q, wr.heap.size = q := ⟨_, rfl⟩
      have HB4 : Hid (Below wr.heap.size wr w4) := by show Below _ _ _; rw [← hw4]; exact alloc_below wr _
      have HX4 : Hid (Box w4 q k v) := by show Box _ _ _ _; rw [← hw4, ← hq]; exact Box.made wr k v
      have HBw := step_below HB HB4.out
      have HP4 : Hid (Pair w4 w.heap.size p0 b0 x (zerosOf x bit (es.take i)) p1 b1 (onesOf x bit (es.take i))) := HP.out.keep HB4.out
      have HO4 : Hid (OwnE w4 w.heap.size (some ⟨gE, 0, none⟩) ne ce es) := OwnR.keep HO.out HB4.out
      have hc4 := HCM.out _ HBw.out
      have hk4 := HX4.out.key
      have hv4 := HX4.out.vl
      have HOf : ∀ w, Calls Try.prog 38 #[.int .u64 x, .string k] w fun e w' => e = .returned (.int .u64 (hsh x k : Nat)) ∧ w' = w := fun w => Of_any x k w HKS.out hx
      have HIs := fun w => isSet_any (hsh x k) bit w (hsh_lt x k)
      have HBS : Hid (∀ b, bset (hsh x k) bit = b → onesOf x bit (es.take (i + 1)) = onesOf x bit (es.take i) ++ (if b = true then [(k, v)] else []) ∧ zerosOf x bit (es.take (i + 1)) = zerosOf x bit (es.take i) ++ (if b = true then [] else [(k, v)])) := by
        intro b hb
        rw [HTS.out]
        unfold onesOf zerosOf
        rw [List.filter_append, List.filter_append]
        subst hb
        cases hbb : bset (hsh x k) bit <;> simp [hbb]
      generalize hsh x k = hv' at HOf HIs HBS
      clear HB HB4 HP HO hil HX4
      generalize hbs : bset hv' bit = bs at HIs HBS
      go_upto_region 5 with fail
      go_quiet ((first | (go_at_call 38; with_reducible exact Calls.quiet_of_same (HOf _)) | (go_at_call 90; with_reducible exact Calls.quiet_of_same (HIs _))))
      obtain ⟨w5, hw5⟩ : ∃ w5, w4.drewN nq = w5 := ⟨_, rfl⟩
      have HD5 : Hid (Below w4.heap.size w4 w5) := by show Below _ _ _; rw [← hw5]; exact below_drewN w4 nq
      rw [hw5]
      have HP5 : Hid (Pair w5 w.heap.size p0 b0 x (zerosOf x bit (es.take i)) p1 b1 (onesOf x bit (es.take i))) := HP4.out.keep HD5.out
      have HO5 : Hid (OwnE w5 w.heap.size (some ⟨gE, 0, none⟩) ne ce es) := OwnR.keep HO4.out HD5.out
      have HB5 := step_below HBw HD5.out
      have hk5 : w5.cell? ⟨q, 0, none⟩ = some (.string k) := by rw [HD5.out.cell (p := ⟨q, 0, none⟩) (World.block_lt_of_cell? _ _ hk4)]; exact hk4
      have hv5 : w5.cell? ⟨q, 1, none⟩ = some (.int .i64 v) := by rw [HD5.out.cell (p := ⟨q, 1, none⟩) (World.block_lt_of_cell? _ _ hv4)]; exact hv4
      have HLn : Hid ((onesOf x bit (es.take i)).length < 112 ∧ (zerosOf x bit (es.take i)).length < 112) := by
        have h1 := HTL.out
        have h2 : (onesOf x bit (es.take i)).length ≤ (es.take i).length := List.length_filter_le _ _
        have h3 : (zerosOf x bit (es.take i)).length ≤ (es.take i).length := List.length_filter_le _ _
        exact ⟨by omega, by omega⟩
      have HST := HBS.out bs rfl
      clear hw5 HD5 HP4 HO4 HBw hc4 hk4 hv4 HOf HIs hbs HBS HTL hw4 hq hk hv
      cases bs
      · obtain ⟨e1, e2⟩ := HST
        rw [if_neg (by decide)] at e1 e2
        rw [List.append_nil] at e1
        have HE1 : Hid (onesOf x bit (es.take (i + 1)) = onesOf x bit (es.take i)) := e1
        have HE2 : Hid (zerosOf x bit (es.take (i + 1)) = zerosOf x bit (es.take i) ++ [(k, v)]) := e2
        have hPu := PutT_new _ _ _ _ (zerosOf x bit (es.take i)) k v _ HP5.out.one HKS.out (not_filter HFR.out _) HLn.out.2
        clear e1 e2
        go_wp2_with fail
        refine hPu.mono ?_
        rintro e w6 ⟨rfl, hm6, b6, hT6, hb6⟩
        have HP6 : Hid (Pair w6 w.heap.size p0 b6 x (zerosOf x bit (es.take (i + 1))) p1 b1 (onesOf x bit (es.take (i + 1)))) := by rw [HE1.out, HE2.out]; exact HP5.out.first hm6 hT6 hb6
        have HO6 : Hid (OwnE w6 w.heap.size (some ⟨gE, 0, none⟩) ne ce es) := OwnR.movesT HO5.out hm6 HP5.out.one (by decide) (by decide)
        have HB6 : Hid (Below w.heap.size w w6) := HB5.out.trans (HP5.out.one.below hm6)
        clear hm6 hT6 hb6 hPu
        go_wp2
        go_roundg (gk - 1)
        case measure => omega
        case rel => exact ⟨i + 1, b6, b1, by omega, by go_num, HP6, HO6, HB6⟩
      · obtain ⟨e1, e2⟩ := HST
        rw [if_pos rfl] at e1 e2
        rw [List.append_nil] at e2
        have HE1 : Hid (onesOf x bit (es.take (i + 1)) = onesOf x bit (es.take i) ++ [(k, v)]) := e1
        have HE2 : Hid (zerosOf x bit (es.take (i + 1)) = zerosOf x bit (es.take i)) := e2
        have hPu := PutT_new _ _ _ _ (onesOf x bit (es.take i)) k v _ HP5.out.two HKS.out (not_filter HFR.out _) HLn.out.1
        clear e1 e2
        go_wp2_with fail
        refine hPu.mono ?_
        rintro e w6 ⟨rfl, hm6, b6, hT6, hb6⟩
        have HP6 : Hid (Pair w6 w.heap.size p0 b0 x (zerosOf x bit (es.take (i + 1))) p1 b6 (onesOf x bit (es.take (i + 1)))) := by rw [HE1.out, HE2.out]; exact HP5.out.second hm6 hT6 hb6
        have HO6 : Hid (OwnE w6 w.heap.size (some ⟨gE, 0, none⟩) ne ce es) := OwnR.movesT HO5.out hm6 HP5.out.two (by decide) (by decide)
        have HB6 : Hid (Below w.heap.size w w6) := HB5.out.trans (HP5.out.two.below hm6)
        clear hm6 hT6 hb6 hPu
        go_wp2
        go_roundg (gk - 1)
        case measure => omega
        case rel => exact ⟨i + 1, b0, b6, by omega, by go_num, HP6, HO6, HB6⟩
    · have HE : Hid (es.take i = es) := by show _ = _; rw [List.take_of_length_le (by have := HNE.out; omega)]
      rw [HE.out] at HP
      go_wp2
      go_ret2
      exact ⟨HB.out, p0, _, p1, rfl, _, HP.out⟩

theorem SplitT (B p b x : Nat) (es : List En) (bit : Int) (w : World) (hT : Tbl w B p b x es) :
    Calls Try.prog 69 #[ptr p, .int .i64 bit] w fun e w' => Below w.heap.size w w' ∧ ∃ p0 p1, e = .returned (.tuple #[ptr p0, ptr p1]) ∧ ∃ b0 b1, Tbl w' w.heap.size p0 b0 x (zerosOf x bit es) ∧ Tbl w' w.heap.size p1 b1 x (onesOf x bit es) := by
  obtain ⟨G, z, h1, h2⟩ := hT
  refine (Split_any B p b x G z bit w h1).mono ?_
  rintro e w' ⟨hb, p0, b0, p1, b1, rfl, hP⟩
  exact ⟨hb, p0, p1, rfl, b0, b1, hP.one.perm (h2.filter _), hP.two.perm (h2.filter _)⟩
end Go.Proofs.Ytejnmikbbnckeaa
