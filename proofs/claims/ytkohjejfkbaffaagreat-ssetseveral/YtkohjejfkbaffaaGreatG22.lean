/-
  The document's own answer of several sets: Several.
-/
import Derived.Test.YtkohjejfkbaffaaGreatG16
import Derived.Test.YtkohjejfkbaffaaGreatG21
namespace Go.Proofs.YtkohjejfkbaffaaGreat
open Go.RowKit Go.PlainAid
open Dk (En Stay hasK putE delE keysOf Dct Dg dtag Turn)

/-- A slice that reads rows of texts. -/
structure RdG (w : World) (a : Option Addr) (n : Nat) (ls : List (List ByteArray)) : Prop where
  len : ls.length = n
  max : n ≤ 1000000
  elem : ∀ j, j < n → ∃ b off a' n' c', a = some ⟨b, off, none⟩ ∧ w.cell? ⟨b, off + j, none⟩ = some (.slice a' n' c') ∧ OwnS w 0 a' n' c' (ls.getD j [])
theorem RdG.keep {w wn : World} {a : Option Addr} {n : Nat} {ls : List (List ByteArray)} (h : RdG w a n ls) (hb : Below w.heap.size w wn) : RdG wn a n ls :=
  ⟨h.len, h.max, fun j hj => by
    obtain ⟨b, off, a', n', c', e, h1, h2⟩ := h.elem j hj
    exact ⟨b, off, a', n', c', e, by rw [hb.cell (p := ⟨b, _, none⟩) (World.block_lt_of_cell? _ _ h1)]; exact h1, h2.keep hb⟩⟩
/-- How many of these have a text. -/
def cntL (ls : List (List ByteArray)) (s : ByteArray) : Nat := (ls.filter fun l => hasM l s).length
theorem cntL_le (ls : List (List ByteArray)) (s : ByteArray) : cntL ls s ≤ ls.length := List.length_filter_le _ _
theorem cntL_snoc (ls : List (List ByteArray)) (l : List ByteArray) (s : ByteArray) : cntL (ls ++ [l]) s = cntL ls s + if hasM l s = true then 1 else 0 := by
  unfold cntL
  rw [List.filter_append, List.length_append]
  cases h : hasM l s <;> simp [h]
/-- What Several takes. -/
def sevP (tk : Nat → Nat → Bool) (ls : List (List ByteArray)) (r : List ByteArray) : Prop := r.Nodup ∧ (∀ s, s ∈ r ↔ ∃ i, i < ls.length ∧ s ∈ ls.getD i [] ∧ tk i (cntL ls s) = true) ∧ r.length ≤ ls.flatten.length
/-- As far as it has come. -/
structure Sev (tk : Nat → Nat → Bool) (ls : List (List ByteArray)) (i k : Nat) (o : List ByteArray) : Prop where
  nod : o.Nodup
  mem : ∀ s, s ∈ o ↔ (∃ j, j < i ∧ s ∈ ls.getD j [] ∧ tk j (cntL ls s) = true) ∨ (s ∈ (ls.getD i []).take k ∧ tk i (cntL ls s) = true)
  le : o.length ≤ (ls.take i).flatten.length + k
theorem Sev.start (tk : Nat → Nat → Bool) (ls : List (List ByteArray)) : Sev tk ls 0 0 [] := ⟨List.nodup_nil, fun s => by simp, Nat.zero_le _⟩
theorem Sev.row {tk : Nat → Nat → Bool} {ls : List (List ByteArray)} {i : Nat} {o : List ByteArray} (h : Sev tk ls i (ls.getD i []).length o) (hi : i < ls.length) : Sev tk ls (i + 1) 0 o := by
  refine ⟨h.nod, fun s => ?_, ?_⟩
  · rw [h.mem s, List.take_length]
    constructor
    · rintro (⟨j, h1, h2⟩ | h2)
      · exact .inl ⟨j, by omega, h2⟩
      · exact .inl ⟨i, by omega, h2⟩
    · rintro (⟨j, h1, h2⟩ | ⟨h2, -⟩)
      · rcases Nat.lt_or_ge j i with h3 | h3
        · exact .inl ⟨j, h3, h2⟩
        · obtain rfl : j = i := by omega
          exact .inr h2
      · simp at h2
  · have h1 := h.le
    rw [take_snocL ls i hi, List.length_append]
    omega
theorem Sev.step {tk : Nat → Nat → Bool} {ls : List (List ByteArray)} {i k : Nat} {o : List ByteArray} {x : ByteArray} (h : Sev tk ls i k o) (hx : (ls.getD i []).take (k + 1) = (ls.getD i []).take k ++ [x]) :
    Sev tk ls i (k + 1) (if tk i (cntL ls x) = true ∧ hasM o x = false then o ++ [x] else o) := by
  have hm : ∀ s, (∃ j, j < i ∧ s ∈ ls.getD j [] ∧ tk j (cntL ls s) = true) ∨ (s ∈ (ls.getD i []).take (k + 1) ∧ tk i (cntL ls s) = true) ↔ s ∈ o ∨ (s = x ∧ tk i (cntL ls x) = true) := fun s => by
    rw [h.mem s, hx, List.mem_append, List.mem_singleton]
    constructor
    · rintro (h1 | ⟨h1 | rfl, h2⟩)
      · exact .inl (.inl h1)
      · exact .inl (.inr ⟨h1, h2⟩)
      · exact .inr ⟨rfl, h2⟩
    · rintro ((h1 | h1) | ⟨rfl, h2⟩)
      · exact .inl h1
      · exact .inr ⟨.inl h1.1, h1.2⟩
      · exact .inr ⟨.inr rfl, h2⟩
  have hle := h.le
  split
  · rename_i hc
    have hno : x ∉ o := fun hk => by rw [hasM_yes hk] at hc; exact absurd hc.2 (by decide)
    refine ⟨?_, fun s => ?_, by rw [List.length_append, List.length_singleton]; omega⟩
    · have := nodup_add h.nod x
      rw [addM_no hno] at this
      exact this
    · rw [hm s, List.mem_append, List.mem_singleton]
      exact ⟨fun h1 => h1.imp id (fun e => ⟨e, hc.1⟩), fun h1 => h1.imp id (fun e => e.1)⟩
  · rename_i hc
    refine ⟨h.nod, fun s => ?_, by omega⟩
    rw [hm s]
    refine ⟨.inl, fun h1 => h1.elim id (fun e => ?_)⟩
    obtain ⟨rfl, h2⟩ := e
    by_cases hk : s ∈ o
    · exact hk
    · exact absurd ⟨h2, hasM_no hk⟩ hc
theorem Sev.done {tk : Nat → Nat → Bool} {ls : List (List ByteArray)} {o : List ByteArray} (h : Sev tk ls ls.length 0 o) : sevP tk ls o := by
  refine ⟨h.nod, fun s => ?_, by have := h.le; rw [List.take_length] at this; omega⟩
  rw [h.mem s]
  constructor
  · rintro (h1 | ⟨h1, -⟩)
    · exact h1
    · simp at h1
  · exact .inl
set_option maxRecDepth 100000 in
set_option maxHeartbeats 4000000 in
theorem Several_union (a : Option Addr) (n cap : Nat) (ls : List (List ByteArray)) (w : World) (h : RdG w a n ls) (hs : ls.flatten.length ≤ 900000) :
    Calls Tryz.prog 20 #[.string ⟨#[115, 117, 110, 105, 111, 110]⟩, .slice a n cap] w fun e w' => Tells w w' (sevP (fun _ _ => true) ls) e := by
  have HR : Hid (RdG w a n ls) := h
  have hmx := h.max
  have HL : Hid (ls.length = n) := h.len
  have HF : Hid (∀ i, (ls.take i).flatten.length ≤ 900000) := fun i => by
    have h1 : ls.flatten = (ls.take i).flatten ++ (ls.drop i).flatten := by rw [← List.flatten_append, List.take_append_drop]
    rw [h1, List.length_append] at hs
    omega
  obtain ⟨tk, htk⟩ : ∃ tk : Nat → Nat → Bool, tk = fun _ _ => true := ⟨_, rfl⟩
  have HTK : Hid (tk = fun _ _ => true) := htk
  rw [← htk]
  clear h hs htk
  go_enter Tryz.func20, Tryz.ntmps20
  go_wp2
  go_loopg [5, 6, 7, 8, 9, 10, 11] n (fun g ov iv v7 v8 v9 v10 v11 wr => ∃ (i : Nat) (oa : Option Addr) (on oc : Nat) (o : List ByteArray), i + g = n ∧ iv = .int .i64 i ∧ ov = .slice oa on oc ∧ Hid (OwnS wr w.heap.size oa on oc o) ∧ Hid (Sev tk ls i 0 o) ∧ Hid (Below w.heap.size w wr))
  case atStart => exact ⟨0, none, 0, 0, [], by omega, rfl, rfl, Dk.OwnR.nil _ _ _ _, Sev.start tk ls, Below.refl _ _⟩
  case round =>
    obtain ⟨i, oa, on, oc, o, hi, rfl, rfl, HO, HS, HB⟩ := hrel
    obtain ⟨ga, hga⟩ : ∃ ga, ga = gk := ⟨_, rfl⟩
    subst hga
    have HG : Hid (i + ga = n) := hi
    by_cases h8 : (i : Int) < n
    · have HT0 := take_snocL ls i (by have := HL.out; omega)
      have HF1 := HF.out (i + 1)
      rw [HT0, List.length_append] at HF1
      obtain ⟨m, hm⟩ : ∃ m, (ls.getD i []).length = m := ⟨_, rfl⟩
      have HM : Hid ((ls.getD i []).length = m) := hm
      rw [hm] at HF1
      clear HT0 hm
      go_wp2
      go_loopg [5, 7, 8, 9, 10, 11] m (fun g ov kv v8 v9 v10 v11 wr => ∃ (k : Nat) (oa : Option Addr) (on oc : Nat) (o : List ByteArray), k + g = m ∧ kv = .int .i64 k ∧ ov = .slice oa on oc ∧ Hid (OwnS wr w.heap.size oa on oc o) ∧ Hid (Sev tk ls i k o) ∧ Hid (Below w.heap.size w wr))
      case atStart => exact ⟨0, oa, on, oc, o, by omega, rfl, rfl, HO, HS, HB⟩
      case round =>
        clear HO HS HB
        obtain ⟨k, oa, on, oc, o, hk, rfl, rfl, HO, HS, HB⟩ := hrel
        obtain ⟨gb, hgb⟩ : ∃ gb, gb = gk := ⟨_, rfl⟩
        subst hgb
        have HGb : Hid (k + gb = m) := hk
        obtain ⟨wb, hwb⟩ : ∃ wb, wb = wr := ⟨_, rfl⟩
        subst hwb
        obtain ⟨b, off, ra, rn, rc, rfl, hci, hOi⟩ := (HR.out.keep HB.out).elem i (by omega)
        have hrn : rn = m := by rw [← HM.out]; exact hOi.len.symm
        subst hrn
        by_cases h9 : (k : Int) < rn
        · have hkl : k < (ls.getD i []).length := by have := HM.out; omega
          obtain ⟨b2, off2, rfl, hcx⟩ := hOi.rd.cell k (by omega)
          have HX : Hid ((ls.getD i []).take (k + 1) = (ls.getD i []).take k ++ [(ls.getD i []).getD k ByteArray.empty]) := take_snocB _ k hkl
          generalize (ls.getD i []).getD k ByteArray.empty = x at hcx HX
          have hon : on ≤ 900000 := by have h1 := HS.out.le; have h2 := HO.out.len; omega
          clear hkl hOi hk
          go_wp2
          go_loopg [9, 10] n (fun g nv jv wr => wb = wr ∧ ∃ (j c : Nat), j + g = n ∧ jv = .int .i64 j ∧ nv = .int .i64 c ∧ c ≤ j ∧ Hid (cntL (ls.take j) x = c))
          case atStart => exact ⟨rfl, 0, 0, by omega, rfl, rfl, Nat.le_refl _, (rfl : cntL (ls.take 0) x = 0)⟩
          case round =>
            obtain ⟨rfl, j, c, hj, rfl, rfl, hcj, HC⟩ := hrel
            by_cases h10 : (j : Int) < n
            · obtain ⟨b3, off3, ja, jn, jc, e3, hcj2, hOj⟩ := (HR.out.keep HB.out).elem j (by omega)
              cases e3
              have hjl : j < ls.length := by have := HL.out; omega
              have hjn : jn ≤ 1000000 := by
                have h1 := hOj.len
                have h2 := HF.out (j + 1)
                rw [take_snocL ls j hjl, List.length_append] at h2
                omega
              have HT1 : Hid (ls.take (j + 1) = ls.take j ++ [ls.getD j []]) := by show _ = _; rw [List.take_add_one, List.getElem?_eq_getElem hjl, List.getD_eq_getElem?_getD, List.getElem?_eq_getElem hjl]; rfl
              obtain ⟨z, hz, HAt⟩ := At_is 0 ja jn jc (ls.getD j []) x wb hOj hjn
              have HA := HAt wb (Below.refl _ _)
              have hcs := cntL_snoc (ls.take j) (ls.getD j []) x
              rw [← HT1.out, HC.out] at hcs
              clear HAt hOj hjl HT1
              rcases hz with ⟨zq, rfl, -, hh⟩ | ⟨rfl, hh⟩
              · rw [if_pos hh] at hcs
                have HC2 : Hid (cntL (ls.take (j + 1)) x = c + 1) := hcs
                clear hcs hh
                go_wp2_with fail
                refine HA.mono ?_
                rintro e w2 ⟨rfl, rfl⟩
                go_wp2
                go_roundg (gk - 1)
                case measure => omega
                case rel => exact ⟨rfl, j + 1, c + 1, by omega, by go_num, by go_num, by omega, HC2⟩
              · rw [if_neg (by rw [hh]; decide), Nat.add_zero] at hcs
                have HC2 : Hid (cntL (ls.take (j + 1)) x = c) := hcs
                clear hcs hh
                go_wp2_with fail
                refine HA.mono ?_
                rintro e w2 ⟨rfl, rfl⟩
                go_wp2
                go_roundg (gk - 1)
                case measure => omega
                case rel => exact ⟨rfl, j + 1, c, by omega, by go_num, rfl, by omega, HC2⟩
            · have hjn : j = n := by omega
              subst hjn
              have hcc := HC.out
              rw [List.take_of_length_le (by have := HL.out; omega)] at hcc
              have HSt := HS.out.step HX.out
              rw [hcc] at HSt
              have htk : tk i c = (fun _ _ => true) i c := by rw [HTK.out]
              obtain ⟨z, hz, HAt⟩ := At_is w.heap.size oa on oc o x wb HO.out (by omega)
              have HA := HAt wb (Below.refl _ _)
              obtain ⟨tv, htv⟩ : ∃ tv, tk i c = tv := ⟨_, rfl⟩
              have HTV : Hid (tv = (fun _ _ => true) i c) := by show _ = _; rw [← htv, htk]
              rw [htv] at HSt
              have HSt2 : Hid (Sev tk ls i (k + 1) (if tv = true ∧ hasM o x = false then o ++ [x] else o)) := HSt
              have hcn : c ≤ 1000000 := by omega
              clear htk htv HSt HAt hcc hj
              go_upto_region 15 with fail
              go_cut [11] from 49 to 72 (fun u11 wx => wb = wx ∧ u11 = .bool tv)
              case first =>
                have e1 : tv = true := HTV.out
                subst e1
                go_wp2
                go_meet
                exact ⟨rfl, rfl⟩
              case rest =>
              obtain ⟨rfl, rfl⟩ := hcut
              have hi := HG.out
              have hk := HGb.out
              cases tv
              · rw [if_neg (by simp)] at HSt2
                go_wp2
                go_roundg (gb - 1)
                case measure => omega
                case rel => exact ⟨k + 1, oa, on, oc, o, by omega, by go_num, rfl, HO, HSt2, HB⟩
              · rcases hz with ⟨zq, rfl, -, hh⟩ | ⟨rfl, hh⟩
                · rw [if_neg (by rw [hh]; simp)] at HSt2
                  clear hh
                  go_wp2_with fail
                  refine HA.mono ?_
                  rintro e w2 ⟨rfl, rfl⟩
                  go_wp2
                  go_roundg (gb - 1)
                  case measure => omega
                  case rel => exact ⟨k + 1, oa, on, oc, o, by omega, by go_num, rfl, HO, HSt2, HB⟩
                · rw [if_pos ⟨rfl, hh⟩] at HSt2
                  have hsz := HB.out.size
                  have hon1 : on + 1 ≤ 1000000 := by omega
                  clear hh
                  go_wp2_with fail
                  refine HA.mono ?_
                  rintro e w2 ⟨rfl, rfl⟩
                  go_wp2_with (at_builtin; refine append_str rfl (.tmp 80) (.tmp 82) rfl w.heap.size rfl (HO.out.keep (alloc_below w2 _)) rfl (by simp; rfl) hon1 (Nat.le_trans hsz (alloc_below w2 _).size) ?_; intro a3 n3 c3 w4 hn4 hO4 hB4; have HO4 : Hid (OwnS w4 w.heap.size a3 n3 c3 (o ++ [x])) := hO4; have HB4 : Hid (Below w.heap.size w w4) := (HB.out.trans ((alloc_below w2 _).mono hsz)).trans hB4; clear hO4 hB4)
                  go_roundg (gb - 1)
                  case measure => omega
                  case rel => subst hn4; exact ⟨k + 1, a3, _, c3, o ++ [x], by omega, by go_num, rfl, HO4, HSt2, HB4⟩
        · have hkm : k = rn := by omega
          subst hkm
          have HS2 : Hid (Sev tk ls (i + 1) 0 o) := by
            have h1 := HS.out
            have h2 := Sev.row (tk := tk) (ls := ls) (i := i) (o := o) (by rw [HM.out]; exact h1) (by have := HL.out; omega)
            exact h2
          have hi := HG.out
          go_wp2
          go_roundg (ga - 1)
          case measure => omega
          case rel => exact ⟨i + 1, oa, on, oc, o, by omega, by go_num, rfl, HO, HS2, HB⟩
    · have hin : i = n := by omega
      subst hin
      have HS2 : Hid (sevP tk ls o) := by
        have h1 := HS.out
        rw [← HL.out] at h1
        exact h1.done
      go_wp2
      go_ret
      exact ⟨HB.out, oa, on, oc, o, rfl, HO.out, HS2.out⟩
set_option maxRecDepth 100000 in
set_option maxHeartbeats 4000000 in
theorem Several_inter (a : Option Addr) (n cap : Nat) (ls : List (List ByteArray)) (w : World) (h : RdG w a n ls) (hs : ls.flatten.length ≤ 900000) :
    Calls Tryz.prog 20 #[.string ⟨#[115, 105, 110, 116, 101, 114]⟩, .slice a n cap] w fun e w' => Tells w w' (sevP (fun _ m => m == ls.length) ls) e := by
  have HR : Hid (RdG w a n ls) := h
  have hmx := h.max
  have HL : Hid (ls.length = n) := h.len
  have HF : Hid (∀ i, (ls.take i).flatten.length ≤ 900000) := fun i => by
    have h1 : ls.flatten = (ls.take i).flatten ++ (ls.drop i).flatten := by rw [← List.flatten_append, List.take_append_drop]
    rw [h1, List.length_append] at hs
    omega
  obtain ⟨tk, htk⟩ : ∃ tk : Nat → Nat → Bool, tk = fun _ m => m == ls.length := ⟨_, rfl⟩
  have HTK : Hid (tk = fun _ m => m == ls.length) := htk
  rw [← htk]
  clear h hs htk
  go_enter Tryz.func20, Tryz.ntmps20
  go_wp2
  go_loopg [5, 6, 7, 8, 9, 10, 11] n (fun g ov iv v7 v8 v9 v10 v11 wr => ∃ (i : Nat) (oa : Option Addr) (on oc : Nat) (o : List ByteArray), i + g = n ∧ iv = .int .i64 i ∧ ov = .slice oa on oc ∧ Hid (OwnS wr w.heap.size oa on oc o) ∧ Hid (Sev tk ls i 0 o) ∧ Hid (Below w.heap.size w wr))
  case atStart => exact ⟨0, none, 0, 0, [], by omega, rfl, rfl, Dk.OwnR.nil _ _ _ _, Sev.start tk ls, Below.refl _ _⟩
  case round =>
    obtain ⟨i, oa, on, oc, o, hi, rfl, rfl, HO, HS, HB⟩ := hrel
    obtain ⟨ga, hga⟩ : ∃ ga, ga = gk := ⟨_, rfl⟩
    subst hga
    have HG : Hid (i + ga = n) := hi
    by_cases h8 : (i : Int) < n
    · have HT0 := take_snocL ls i (by have := HL.out; omega)
      have HF1 := HF.out (i + 1)
      rw [HT0, List.length_append] at HF1
      obtain ⟨m, hm⟩ : ∃ m, (ls.getD i []).length = m := ⟨_, rfl⟩
      have HM : Hid ((ls.getD i []).length = m) := hm
      rw [hm] at HF1
      clear HT0 hm
      go_wp2
      go_loopg [5, 7, 8, 9, 10, 11] m (fun g ov kv v8 v9 v10 v11 wr => ∃ (k : Nat) (oa : Option Addr) (on oc : Nat) (o : List ByteArray), k + g = m ∧ kv = .int .i64 k ∧ ov = .slice oa on oc ∧ Hid (OwnS wr w.heap.size oa on oc o) ∧ Hid (Sev tk ls i k o) ∧ Hid (Below w.heap.size w wr))
      case atStart => exact ⟨0, oa, on, oc, o, by omega, rfl, rfl, HO, HS, HB⟩
      case round =>
        clear HO HS HB
        obtain ⟨k, oa, on, oc, o, hk, rfl, rfl, HO, HS, HB⟩ := hrel
        obtain ⟨gb, hgb⟩ : ∃ gb, gb = gk := ⟨_, rfl⟩
        subst hgb
        have HGb : Hid (k + gb = m) := hk
        obtain ⟨wb, hwb⟩ : ∃ wb, wb = wr := ⟨_, rfl⟩
        subst hwb
        obtain ⟨b, off, ra, rn, rc, rfl, hci, hOi⟩ := (HR.out.keep HB.out).elem i (by omega)
        have hrn : rn = m := by rw [← HM.out]; exact hOi.len.symm
        subst hrn
        by_cases h9 : (k : Int) < rn
        · have hkl : k < (ls.getD i []).length := by have := HM.out; omega
          obtain ⟨b2, off2, rfl, hcx⟩ := hOi.rd.cell k (by omega)
          have HX : Hid ((ls.getD i []).take (k + 1) = (ls.getD i []).take k ++ [(ls.getD i []).getD k ByteArray.empty]) := take_snocB _ k hkl
          generalize (ls.getD i []).getD k ByteArray.empty = x at hcx HX
          have hon : on ≤ 900000 := by have h1 := HS.out.le; have h2 := HO.out.len; omega
          clear hkl hOi hk
          go_wp2
          go_loopg [9, 10] n (fun g nv jv wr => wb = wr ∧ ∃ (j c : Nat), j + g = n ∧ jv = .int .i64 j ∧ nv = .int .i64 c ∧ c ≤ j ∧ Hid (cntL (ls.take j) x = c))
          case atStart => exact ⟨rfl, 0, 0, by omega, rfl, rfl, Nat.le_refl _, (rfl : cntL (ls.take 0) x = 0)⟩
          case round =>
            obtain ⟨rfl, j, c, hj, rfl, rfl, hcj, HC⟩ := hrel
            by_cases h10 : (j : Int) < n
            · obtain ⟨b3, off3, ja, jn, jc, e3, hcj2, hOj⟩ := (HR.out.keep HB.out).elem j (by omega)
              cases e3
              have hjl : j < ls.length := by have := HL.out; omega
              have hjn : jn ≤ 1000000 := by
                have h1 := hOj.len
                have h2 := HF.out (j + 1)
                rw [take_snocL ls j hjl, List.length_append] at h2
                omega
              have HT1 : Hid (ls.take (j + 1) = ls.take j ++ [ls.getD j []]) := by show _ = _; rw [List.take_add_one, List.getElem?_eq_getElem hjl, List.getD_eq_getElem?_getD, List.getElem?_eq_getElem hjl]; rfl
              obtain ⟨z, hz, HAt⟩ := At_is 0 ja jn jc (ls.getD j []) x wb hOj hjn
              have HA := HAt wb (Below.refl _ _)
              have hcs := cntL_snoc (ls.take j) (ls.getD j []) x
              rw [← HT1.out, HC.out] at hcs
              clear HAt hOj hjl HT1
              rcases hz with ⟨zq, rfl, -, hh⟩ | ⟨rfl, hh⟩
              · rw [if_pos hh] at hcs
                have HC2 : Hid (cntL (ls.take (j + 1)) x = c + 1) := hcs
                clear hcs hh
                go_wp2_with fail
                refine HA.mono ?_
                rintro e w2 ⟨rfl, rfl⟩
                go_wp2
                go_roundg (gk - 1)
                case measure => omega
                case rel => exact ⟨rfl, j + 1, c + 1, by omega, by go_num, by go_num, by omega, HC2⟩
              · rw [if_neg (by rw [hh]; decide), Nat.add_zero] at hcs
                have HC2 : Hid (cntL (ls.take (j + 1)) x = c) := hcs
                clear hcs hh
                go_wp2_with fail
                refine HA.mono ?_
                rintro e w2 ⟨rfl, rfl⟩
                go_wp2
                go_roundg (gk - 1)
                case measure => omega
                case rel => exact ⟨rfl, j + 1, c, by omega, by go_num, rfl, by omega, HC2⟩
            · have hjn : j = n := by omega
              subst hjn
              have hcc := HC.out
              rw [List.take_of_length_le (by have := HL.out; omega)] at hcc
              have HSt := HS.out.step HX.out
              rw [hcc] at HSt
              have htk : tk i c = (fun _ m => m == ls.length) i c := by rw [HTK.out]
              obtain ⟨z, hz, HAt⟩ := At_is w.heap.size oa on oc o x wb HO.out (by omega)
              have HA := HAt wb (Below.refl _ _)
              obtain ⟨tv, htv⟩ : ∃ tv, tk i c = tv := ⟨_, rfl⟩
              have HTV : Hid (tv = (fun _ m => m == ls.length) i c) := by show _ = _; rw [← htv, htk]
              rw [htv] at HSt
              have HSt2 : Hid (Sev tk ls i (k + 1) (if tv = true ∧ hasM o x = false then o ++ [x] else o)) := HSt
              have hcn : c ≤ 1000000 := by omega
              clear htk htv HSt HAt hcc hj
              go_upto_region 15 with fail
              go_cut [11] from 49 to 72 (fun u11 wx => wb = wx ∧ u11 = .bool tv)
              case first =>
                by_cases hq : c = j
                · have e1 : tv = true := by rw [HTV.out]; simp [HL.out, hq]
                  subst e1 hq
                  go_wp2
                  go_meet
                  exact ⟨rfl, rfl⟩
                · have e1 : tv = false := by rw [HTV.out]; simp [HL.out, hq]
                  have hqz : ((c : Int) == (j : Int)) = false := by simp; omega
                  subst e1
                  go_wp2
                  go_meet
                  exact ⟨rfl, rfl⟩
              case rest =>
              obtain ⟨rfl, rfl⟩ := hcut
              have hi := HG.out
              have hk := HGb.out
              cases tv
              · rw [if_neg (by simp)] at HSt2
                go_wp2
                go_roundg (gb - 1)
                case measure => omega
                case rel => exact ⟨k + 1, oa, on, oc, o, by omega, by go_num, rfl, HO, HSt2, HB⟩
              · rcases hz with ⟨zq, rfl, -, hh⟩ | ⟨rfl, hh⟩
                · rw [if_neg (by rw [hh]; simp)] at HSt2
                  clear hh
                  go_wp2_with fail
                  refine HA.mono ?_
                  rintro e w2 ⟨rfl, rfl⟩
                  go_wp2
                  go_roundg (gb - 1)
                  case measure => omega
                  case rel => exact ⟨k + 1, oa, on, oc, o, by omega, by go_num, rfl, HO, HSt2, HB⟩
                · rw [if_pos ⟨rfl, hh⟩] at HSt2
                  have hsz := HB.out.size
                  have hon1 : on + 1 ≤ 1000000 := by omega
                  clear hh
                  go_wp2_with fail
                  refine HA.mono ?_
                  rintro e w2 ⟨rfl, rfl⟩
                  go_wp2_with (at_builtin; refine append_str rfl (.tmp 80) (.tmp 82) rfl w.heap.size rfl (HO.out.keep (alloc_below w2 _)) rfl (by simp; rfl) hon1 (Nat.le_trans hsz (alloc_below w2 _).size) ?_; intro a3 n3 c3 w4 hn4 hO4 hB4; have HO4 : Hid (OwnS w4 w.heap.size a3 n3 c3 (o ++ [x])) := hO4; have HB4 : Hid (Below w.heap.size w w4) := (HB.out.trans ((alloc_below w2 _).mono hsz)).trans hB4; clear hO4 hB4)
                  go_roundg (gb - 1)
                  case measure => omega
                  case rel => subst hn4; exact ⟨k + 1, a3, _, c3, o ++ [x], by omega, by go_num, rfl, HO4, HSt2, HB4⟩
        · have hkm : k = rn := by omega
          subst hkm
          have HS2 : Hid (Sev tk ls (i + 1) 0 o) := by
            have h1 := HS.out
            have h2 := Sev.row (tk := tk) (ls := ls) (i := i) (o := o) (by rw [HM.out]; exact h1) (by have := HL.out; omega)
            exact h2
          have hi := HG.out
          go_wp2
          go_roundg (ga - 1)
          case measure => omega
          case rel => exact ⟨i + 1, oa, on, oc, o, by omega, by go_num, rfl, HO, HS2, HB⟩
    · have hin : i = n := by omega
      subst hin
      have HS2 : Hid (sevP tk ls o) := by
        have h1 := HS.out
        rw [← HL.out] at h1
        exact h1.done
      go_wp2
      go_ret
      exact ⟨HB.out, oa, on, oc, o, rfl, HO.out, HS2.out⟩
set_option maxRecDepth 100000 in
set_option maxHeartbeats 4000000 in
theorem Several_diff (a : Option Addr) (n cap : Nat) (ls : List (List ByteArray)) (w : World) (h : RdG w a n ls) (hs : ls.flatten.length ≤ 900000) :
    Calls Tryz.prog 20 #[.string ⟨#[115, 100, 105, 102, 102]⟩, .slice a n cap] w fun e w' => Tells w w' (sevP (fun i m => i == 0 && m == 1) ls) e := by
  have HR : Hid (RdG w a n ls) := h
  have hmx := h.max
  have HL : Hid (ls.length = n) := h.len
  have HF : Hid (∀ i, (ls.take i).flatten.length ≤ 900000) := fun i => by
    have h1 : ls.flatten = (ls.take i).flatten ++ (ls.drop i).flatten := by rw [← List.flatten_append, List.take_append_drop]
    rw [h1, List.length_append] at hs
    omega
  obtain ⟨tk, htk⟩ : ∃ tk : Nat → Nat → Bool, tk = fun i m => i == 0 && m == 1 := ⟨_, rfl⟩
  have HTK : Hid (tk = fun i m => i == 0 && m == 1) := htk
  rw [← htk]
  clear h hs htk
  go_enter Tryz.func20, Tryz.ntmps20
  go_wp2
  go_loopg [5, 6, 7, 8, 9, 10, 11] n (fun g ov iv v7 v8 v9 v10 v11 wr => ∃ (i : Nat) (oa : Option Addr) (on oc : Nat) (o : List ByteArray), i + g = n ∧ iv = .int .i64 i ∧ ov = .slice oa on oc ∧ Hid (OwnS wr w.heap.size oa on oc o) ∧ Hid (Sev tk ls i 0 o) ∧ Hid (Below w.heap.size w wr))
  case atStart => exact ⟨0, none, 0, 0, [], by omega, rfl, rfl, Dk.OwnR.nil _ _ _ _, Sev.start tk ls, Below.refl _ _⟩
  case round =>
    obtain ⟨i, oa, on, oc, o, hi, rfl, rfl, HO, HS, HB⟩ := hrel
    obtain ⟨ga, hga⟩ : ∃ ga, ga = gk := ⟨_, rfl⟩
    subst hga
    have HG : Hid (i + ga = n) := hi
    by_cases h8 : (i : Int) < n
    · have HT0 := take_snocL ls i (by have := HL.out; omega)
      have HF1 := HF.out (i + 1)
      rw [HT0, List.length_append] at HF1
      obtain ⟨m, hm⟩ : ∃ m, (ls.getD i []).length = m := ⟨_, rfl⟩
      have HM : Hid ((ls.getD i []).length = m) := hm
      rw [hm] at HF1
      clear HT0 hm
      go_wp2
      go_loopg [5, 7, 8, 9, 10, 11] m (fun g ov kv v8 v9 v10 v11 wr => ∃ (k : Nat) (oa : Option Addr) (on oc : Nat) (o : List ByteArray), k + g = m ∧ kv = .int .i64 k ∧ ov = .slice oa on oc ∧ Hid (OwnS wr w.heap.size oa on oc o) ∧ Hid (Sev tk ls i k o) ∧ Hid (Below w.heap.size w wr))
      case atStart => exact ⟨0, oa, on, oc, o, by omega, rfl, rfl, HO, HS, HB⟩
      case round =>
        clear HO HS HB
        obtain ⟨k, oa, on, oc, o, hk, rfl, rfl, HO, HS, HB⟩ := hrel
        obtain ⟨gb, hgb⟩ : ∃ gb, gb = gk := ⟨_, rfl⟩
        subst hgb
        have HGb : Hid (k + gb = m) := hk
        obtain ⟨wb, hwb⟩ : ∃ wb, wb = wr := ⟨_, rfl⟩
        subst hwb
        obtain ⟨b, off, ra, rn, rc, rfl, hci, hOi⟩ := (HR.out.keep HB.out).elem i (by omega)
        have hrn : rn = m := by rw [← HM.out]; exact hOi.len.symm
        subst hrn
        by_cases h9 : (k : Int) < rn
        · have hkl : k < (ls.getD i []).length := by have := HM.out; omega
          obtain ⟨b2, off2, rfl, hcx⟩ := hOi.rd.cell k (by omega)
          have HX : Hid ((ls.getD i []).take (k + 1) = (ls.getD i []).take k ++ [(ls.getD i []).getD k ByteArray.empty]) := take_snocB _ k hkl
          generalize (ls.getD i []).getD k ByteArray.empty = x at hcx HX
          have hon : on ≤ 900000 := by have h1 := HS.out.le; have h2 := HO.out.len; omega
          clear hkl hOi hk
          go_wp2
          go_loopg [9, 10] n (fun g nv jv wr => wb = wr ∧ ∃ (j c : Nat), j + g = n ∧ jv = .int .i64 j ∧ nv = .int .i64 c ∧ c ≤ j ∧ Hid (cntL (ls.take j) x = c))
          case atStart => exact ⟨rfl, 0, 0, by omega, rfl, rfl, Nat.le_refl _, (rfl : cntL (ls.take 0) x = 0)⟩
          case round =>
            obtain ⟨rfl, j, c, hj, rfl, rfl, hcj, HC⟩ := hrel
            by_cases h10 : (j : Int) < n
            · obtain ⟨b3, off3, ja, jn, jc, e3, hcj2, hOj⟩ := (HR.out.keep HB.out).elem j (by omega)
              cases e3
              have hjl : j < ls.length := by have := HL.out; omega
              have hjn : jn ≤ 1000000 := by
                have h1 := hOj.len
                have h2 := HF.out (j + 1)
                rw [take_snocL ls j hjl, List.length_append] at h2
                omega
              have HT1 : Hid (ls.take (j + 1) = ls.take j ++ [ls.getD j []]) := by show _ = _; rw [List.take_add_one, List.getElem?_eq_getElem hjl, List.getD_eq_getElem?_getD, List.getElem?_eq_getElem hjl]; rfl
              obtain ⟨z, hz, HAt⟩ := At_is 0 ja jn jc (ls.getD j []) x wb hOj hjn
              have HA := HAt wb (Below.refl _ _)
              have hcs := cntL_snoc (ls.take j) (ls.getD j []) x
              rw [← HT1.out, HC.out] at hcs
              clear HAt hOj hjl HT1
              rcases hz with ⟨zq, rfl, -, hh⟩ | ⟨rfl, hh⟩
              · rw [if_pos hh] at hcs
                have HC2 : Hid (cntL (ls.take (j + 1)) x = c + 1) := hcs
                clear hcs hh
                go_wp2_with fail
                refine HA.mono ?_
                rintro e w2 ⟨rfl, rfl⟩
                go_wp2
                go_roundg (gk - 1)
                case measure => omega
                case rel => exact ⟨rfl, j + 1, c + 1, by omega, by go_num, by go_num, by omega, HC2⟩
              · rw [if_neg (by rw [hh]; decide), Nat.add_zero] at hcs
                have HC2 : Hid (cntL (ls.take (j + 1)) x = c) := hcs
                clear hcs hh
                go_wp2_with fail
                refine HA.mono ?_
                rintro e w2 ⟨rfl, rfl⟩
                go_wp2
                go_roundg (gk - 1)
                case measure => omega
                case rel => exact ⟨rfl, j + 1, c, by omega, by go_num, rfl, by omega, HC2⟩
            · have hjn : j = n := by omega
              subst hjn
              have hcc := HC.out
              rw [List.take_of_length_le (by have := HL.out; omega)] at hcc
              have HSt := HS.out.step HX.out
              rw [hcc] at HSt
              have htk : tk i c = (fun i m => i == 0 && m == 1) i c := by rw [HTK.out]
              obtain ⟨z, hz, HAt⟩ := At_is w.heap.size oa on oc o x wb HO.out (by omega)
              have HA := HAt wb (Below.refl _ _)
              obtain ⟨tv, htv⟩ : ∃ tv, tk i c = tv := ⟨_, rfl⟩
              have HTV : Hid (tv = (fun i m => i == 0 && m == 1) i c) := by show _ = _; rw [← htv, htk]
              rw [htv] at HSt
              have HSt2 : Hid (Sev tk ls i (k + 1) (if tv = true ∧ hasM o x = false then o ++ [x] else o)) := HSt
              have hcn : c ≤ 1000000 := by omega
              clear htk htv HSt HAt hcc hj
              go_upto_region 15 with fail
              go_cut [11] from 49 to 72 (fun u11 wx => wb = wx ∧ u11 = .bool tv)
              case first =>
                by_cases hq : i = 0
                · by_cases h1 : c = 1
                  · have e1 : tv = true := by rw [HTV.out]; simp [hq, h1]
                    subst e1 hq h1
                    go_wp2
                    go_meet
                    exact ⟨rfl, rfl⟩
                  · have e1 : tv = false := by rw [HTV.out]; simp [h1]
                    have h1z : ((c : Int) == 1) = false := by simp; omega
                    subst e1 hq
                    go_wp2
                    go_meet
                    exact ⟨rfl, rfl⟩
                · have e1 : tv = false := by rw [HTV.out]; simp [hq]
                  have hqz : ((i : Int) == 0) = false := by simp; omega
                  subst e1
                  go_wp2
                  go_meet
                  exact ⟨rfl, rfl⟩
              case rest =>
              obtain ⟨rfl, rfl⟩ := hcut
              have hi := HG.out
              have hk := HGb.out
              cases tv
              · rw [if_neg (by simp)] at HSt2
                go_wp2
                go_roundg (gb - 1)
                case measure => omega
                case rel => exact ⟨k + 1, oa, on, oc, o, by omega, by go_num, rfl, HO, HSt2, HB⟩
              · rcases hz with ⟨zq, rfl, -, hh⟩ | ⟨rfl, hh⟩
                · rw [if_neg (by rw [hh]; simp)] at HSt2
                  clear hh
                  go_wp2_with fail
                  refine HA.mono ?_
                  rintro e w2 ⟨rfl, rfl⟩
                  go_wp2
                  go_roundg (gb - 1)
                  case measure => omega
                  case rel => exact ⟨k + 1, oa, on, oc, o, by omega, by go_num, rfl, HO, HSt2, HB⟩
                · rw [if_pos ⟨rfl, hh⟩] at HSt2
                  have hsz := HB.out.size
                  have hon1 : on + 1 ≤ 1000000 := by omega
                  clear hh
                  go_wp2_with fail
                  refine HA.mono ?_
                  rintro e w2 ⟨rfl, rfl⟩
                  go_wp2_with (at_builtin; refine append_str rfl (.tmp 80) (.tmp 82) rfl w.heap.size rfl (HO.out.keep (alloc_below w2 _)) rfl (by simp; rfl) hon1 (Nat.le_trans hsz (alloc_below w2 _).size) ?_; intro a3 n3 c3 w4 hn4 hO4 hB4; have HO4 : Hid (OwnS w4 w.heap.size a3 n3 c3 (o ++ [x])) := hO4; have HB4 : Hid (Below w.heap.size w w4) := (HB.out.trans ((alloc_below w2 _).mono hsz)).trans hB4; clear hO4 hB4)
                  go_roundg (gb - 1)
                  case measure => omega
                  case rel => subst hn4; exact ⟨k + 1, a3, _, c3, o ++ [x], by omega, by go_num, rfl, HO4, HSt2, HB4⟩
        · have hkm : k = rn := by omega
          subst hkm
          have HS2 : Hid (Sev tk ls (i + 1) 0 o) := by
            have h1 := HS.out
            have h2 := Sev.row (tk := tk) (ls := ls) (i := i) (o := o) (by rw [HM.out]; exact h1) (by have := HL.out; omega)
            exact h2
          have hi := HG.out
          go_wp2
          go_roundg (ga - 1)
          case measure => omega
          case rel => exact ⟨i + 1, oa, on, oc, o, by omega, by go_num, rfl, HO, HS2, HB⟩
    · have hin : i = n := by omega
      subst hin
      have HS2 : Hid (sevP tk ls o) := by
        have h1 := HS.out
        rw [← HL.out] at h1
        exact h1.done
      go_wp2
      go_ret
      exact ⟨HB.out, oa, on, oc, o, rfl, HO.out, HS2.out⟩
end Go.Proofs.YtkohjejfkbaffaaGreat
