/-
  The law: requests that are made are read again, one by one.
-/
import Derived.Test.YtkoepgjdjbmknaaOpB
import Derived.Test.YtkoepgjdjbmknaaRp
import Derived.Test.YtkoepgjdjbmknaaLawEnd
namespace Go.Proofs.Ytkoepgjdjbmknaa
open Go.RowKit Go.PlainAid

/-- The bytes x are k requests, those with words among them: L. -/
def Gives (x : List UInt8) (k : Nat) (L : List (List (List UInt8))) : Prop :=
  k ≤ x.length ∧ ∀ f acc rest, allR (f + k) acc (x ++ rest) = allR f (acc ++ L) rest
theorem Gives.nil : Gives [] 0 [] := ⟨Nat.le_refl _, fun f acc rest => by rw [List.append_nil]; rfl⟩
theorem Gives.make {x : List UInt8} {k : Nat} {L : List (List (List UInt8))} (h : Gives x k L) (ws : List (List UInt8)) (h1 : ∀ y ∈ ws, y.length ≤ 65536) (h2 : ws.length ≤ 256) :
    Gives (x ++ makeL ws) (k + 1) (if ws = [] then L else L ++ [ws]) := by
  have hm : 1 ≤ (makeL ws).length := by simp [makeL, lineN]
  refine ⟨by rw [List.length_append]; have := h.1; omega, fun f acc rest => ?_⟩
  rw [List.append_assoc, show f + (k + 1) = (f + 1) + k by omega, h.2]
  have hr := reqR_make ws rest h1 h2
  cases ws with
  | nil => rw [if_pos rfl, allR_nil hr]
  | cons y ys => rw [if_neg (by simp), allR_cons hr, List.append_assoc]
theorem Gives.all {x : List UInt8} {k : Nat} {L : List (List (List UInt8))} (h : Gives x k L) : allL x = (L, [], false) := by
  have h1 := h.2 (x.length + 1 - k) [] []
  rw [List.append_nil, show x.length + 1 - k + k = x.length + 1 by have := h.1; omega] at h1
  unfold allL
  rw [h1]
  obtain ⟨m, hm⟩ : ∃ m, x.length + 1 - k = m + 1 := ⟨x.length - k, by have := h.1; omega⟩
  rw [hm, allR_part (by rfl)]; rfl

/-- A row of slices stays where a row of bytes grows. -/
theorem OwnS.past5 {w w2 : World} {B B2 : Nat} {a : Option Addr} {n c : Nat} {l : List UInt8} (h : Own w B a n c l) (hg : w.grownBy w2 (a.map (·.block))) {a' : Option Addr} {n' c' : Nat} {ls : List ByteArray} (h' : OwnS w B2 a' n' c' ls) : OwnS w2 B2 a' n' c' ls :=
  OwnR.grown (e := 9) (s := 1) h' hg fun k hk hk2 => by
    obtain ⟨-, -, cur, h1⟩ := OwnR.lt (e := 9) (s := 1) h' hk
    obtain ⟨-, -, cur2, h2⟩ := OwnR.lt (e := 5) (s := 1) h hk2
    rw [h1] at h2
    cases h2
theorem OwnSS.past5 {w w2 : World} {B B2 : Nat} {a : Option Addr} {n c : Nat} {l : List UInt8} (h : Own w B a n c l) (hg : w.grownBy w2 (a.map (·.block))) {a' : Option Addr} {n' c' : Nat} {L : List (List ByteArray)} {T : List Tr} (h' : OwnSS w B2 a' n' c' L T) : OwnSS w2 B2 a' n' c' L T :=
  by
  refine ⟨OwnR.grown h'.own hg fun k hk hk2 => ?_, h'.len, fun j t ls h1 h2 => OwnS.past5 h hg (h'.row j t ls h1 h2)⟩
  obtain ⟨-, -, cur, h1⟩ := h'.own.lt hk
  obtain ⟨-, -, cur2, h2⟩ := OwnR.lt (e := 5) (s := 1) h hk2
  rw [h1] at h2
  cases h2
theorem Own.pastS {w w2 : World} {B B2 : Nat} {a : Option Addr} {n c : Nat} {vs : List Value} (h : OwnR w B 22 1 a n c vs) (hg : w.grownBy w2 (a.map (·.block))) {a' : Option Addr} {n' c' : Nat} {l : List UInt8} (h' : Own w B2 a' n' c' l) : Own w2 B2 a' n' c' l :=
  OwnR.grown (e := 5) (s := 1) h' hg fun k hk hk2 => by
    obtain ⟨-, -, cur, h1⟩ := OwnR.lt (e := 5) (s := 1) h' hk
    obtain ⟨-, -, cur2, h2⟩ := h.lt hk2
    rw [h1] at h2
    cases h2
theorem elt5 : Elt 24 5 1 1 := elt_of Try.underlying24 Try.info5 rfl (by decide)

/-- b = append(b, x...), with what it grows. -/
theorem append_by {w : World} {ops : Array Oper} {rest : List Oper} {o : Oper} {ac : Act} {Q : Exit → Act → World → Prop} (hgd : o.guard = none) (s x : Operand) (ho : o.op = .call { callee := .builtin .append, args := #[s, x], argTypes := #[24, 24] })
    (B : Nat) {a : Option Addr} {n c : Nat} {l : List UInt8} (hs : ac.eval s = .slice a n c) (hown : Own w B a n c l) {a' : Option Addr} {n' c' : Nat} {l' : List UInt8} (hx : ac.eval x = .slice a' n' c') (hown' : Own w B a' n' c' l') (hp : 0 < n') (hb : n + n' ≤ 1000000) (hB : B ≤ w.heap.size)
    (h : ∀ a2 n2 c2 w2, n2 = n + n' → Own w2 B a2 n2 c2 (l ++ l') → w.grownBy w2 (a.map (·.block)) → Below B w w2 → wpList Try.prog ops Q rest (ac.put o.dst (.slice a2 n2 c2)) w2) : wpList Try.prog ops Q (o :: rest) ac w := by
  obtain ⟨g, rfl, hc⟩ := OwnR.at (e := 5) (s := 1) hown' hp
  have hl : (cells l').length = n' * 1 := OwnR.len (e := 5) (s := 1) hown'
  refine append_r hgd s x ho elt5 B hs hown (cells l') hx hl ?_ ?_ hp (by omega) (by unfold maxLen; omega) hB ?_
  · intro j u hu
    rw [add_flat, Nat.zero_add]; exact hc j u hu
  · intro u hu
    obtain ⟨y, -, rfl⟩ := List.mem_map.1 hu
    rfl
  · intro a2 n2 c2 w2 hn2 hO2 hG2 _
    refine h a2 n2 c2 w2 hn2 ?_ hG2.out (OwnR.below (e := 5) (s := 1) hown hG2.out hB)
    unfold Own
    rw [cells_append, hn2]
    have := hO2.out
    rw [hn2] at this
    exact this
/-- l = append(l, row), with what it grows. -/
theorem append_sg {w : World} {ops : Array Oper} {rest : List Oper} {o : Oper} {ac : Act} {Q : Exit → Act → World → Prop} (hgd : o.guard = none) (s x : Operand) (ho : o.op = .call { callee := .builtin .append, args := #[s, x], argTypes := #[33, 33] })
    (B : Nat) {a : Option Addr} {n c : Nat} {L : List (List ByteArray)} {T : List Tr} (hs : ac.eval s = .slice a n c) (hown : OwnSS w B a n c L T) {g : Nat} {t : Tr} {ls : List ByteArray} (hx : ac.eval x = .slice (some ⟨g, 0, none⟩) 1 1)
    (hr : w.cell? ⟨g, 0, none⟩ = some (trV t)) (ht : OwnS w B t.1 t.2.1 t.2.2 ls) {ab : Option Addr} {nb cb : Nat} {lb : List UInt8} (hbo : Own w B ab nb cb lb) (hb : n + 1 ≤ 1000000) (hB : B ≤ w.heap.size)
    (h : ∀ a2 n2 c2 w2, n2 = n + 1 → OwnSS w2 B a2 n2 c2 (L ++ [ls]) (T ++ [t]) → Own w2 B ab nb cb lb → Below B w w2 → wpList Try.prog ops Q rest (ac.put o.dst (.slice a2 n2 c2)) w2) : wpList Try.prog ops Q (o :: rest) ac w := by
  refine append_r hgd s x ho eltS B hs hown.own [trV t] hx rfl ?_ ?_ (by omega) (by omega) (by unfold maxLen; omega) hB ?_
  · intro j u hu
    cases j with
    | zero => rw [add_flat, Nat.add_zero, hr]; exact hu
    | succ j => simp at hu
  · intro u hu
    rw [List.mem_singleton.1 hu]; rfl
  · intro a2 n2 c2 w2 hn2 hO2 hG2 _
    refine h a2 n2 c2 w2 hn2 ⟨?_, ?_, ?_⟩ (Own.pastS hown.own hG2.out hbo) (hown.own.below hG2.out hB)
    · rw [List.map_append]; exact hO2.out
    · rw [List.length_append, List.length_append, hown.len]; rfl
    · intro j t' ls' h1 h2
      by_cases hj : j < T.length
      · rw [List.getElem?_append_left hj] at h1
        rw [List.getElem?_append_left (by have := hown.len; omega)] at h2
        exact OwnS.past hown.own hG2.out (hown.row j t' ls' h1 h2)
      · have hl := hown.len
        rw [List.getElem?_append_right (by omega)] at h1
        rw [List.getElem?_append_right (by omega)] at h2
        have e1 : j - T.length = 0 := by
          rcases hq : j - T.length with _ | q
          · rfl
          · rw [hq] at h1; simp at h1
        rw [e1] at h1
        rw [← hl, e1] at h2
        cases h1
        cases h2
        exact OwnS.past hown.own hG2.out ht
theorem bs_lsts2 (L : List (List ByteArray)) : (L.map (·.map lst)).map (·.map bs) = L := by
  rw [List.map_map]
  conv => rhs; rw [← List.map_id L]
  refine List.map_congr_left fun l _ => ?_
  show (l.map lst).map bs = l
  rw [List.map_map]
  conv => rhs; rw [← List.map_id l]
  exact List.map_congr_left fun s _ => bs_lst s

set_option maxHeartbeats 8000000 in
set_option maxRecDepth 100000 in
theorem back_any (a : Option Addr) (n c : Nat) (w : World) (hg : GL w) (h : RdSS w a n) :
    Calls Try.prog 6 #[.slice a n c] w fun e w' => e = .returned (.bool true) ∧ Below w.heap.size w w' := by
  have hn63 : n ≤ 9223372036854775807 := h.max
  have HP : Hid (RdSS w a n) := h
  have HG : Hid (GL w) := hg
  clear h hg
  go_enter Try.func6, Try.ntmps6
  go_wp2
  go_loopg [3, 4, 5] 8 (fun g bv lv iv wr => ∃ (i : Nat) (ab : Option Addr) (nb cb : Nat) (lb : List UInt8) (aw : Option Addr) (nw cw : Nat) (L : List (List ByteArray)) (T : List Tr) (k : Nat), bv = .slice ab nb cb ∧ lv = .slice aw nw cw ∧ iv = .int .i64 i ∧ Hid (i + g = 8) ∧ Hid (Own wr w.heap.size ab nb cb lb) ∧ Hid (OwnSS wr w.heap.size aw nw cw L T) ∧ Hid (Gives lb k (L.map (·.map lst))) ∧ Hid (lb.length ≤ i * 900) ∧ Hid (L.length ≤ i) ∧ Hid (Below w.heap.size w wr))
  case atStart => exact ⟨0, none, 0, 0, [], none, 0, 0, [], [], 0, rfl, rfl, rfl, rfl, World.ownsRow_nil w _ 5 1, OwnSS.nil w _, Gives.nil, Nat.zero_le _, Nat.zero_le _, Below.refl _ _⟩
  case round =>
    obtain ⟨i, ab, nb, cb, lb, aw, nw, cw, L, T, k, rfl, rfl, rfl, HI, HBO, HSS, HGV, HBL, HLL, HB⟩ := hrel
    have hnb : nb ≤ 8000 := by have h1 := HBL.out; have h2 := HI.out; have h3 := HBO.out.len; omega
    have hnw : nw ≤ 8 := by have h1 := HLL.out; have h2 := HI.out; have h3 := HSS.out.count; omega
    by_cases hgo : (i : Int) < n ∧ (i : Int) < 8
    · obtain ⟨hi, hi8⟩ := hgo
      have hin : i < n := by omega
      obtain ⟨f, rfl⟩ : ∃ f, gk = f + 1 := ⟨gk - 1, by have := HI.out; omega⟩
      obtain ⟨b, off, rfl, xa, xn, xc, xl, h1, hX⟩ := (HP.out.keep HB.out).elem i hin
      have HFW := Few_any xa xn xc xl 10 60 wr hX (by omega) (by omega)
      have hfl := fewL_len 10 60 xl
      have hfs := fewL_size 10 60 xl (by omega)
      obtain ⟨F, hF⟩ : ∃ F, fewL 10 60 xl = F := ⟨_, rfl⟩
      rw [hF] at HFW hfl hfs
      have hlm : ∀ y ∈ F.map lst, y.length ≤ 60 := by
        intro y hy
        obtain ⟨s, hs, rfl⟩ := List.mem_map.1 hy
        have := hfs s hs
        rw [len_lst]; omega
      have HFS : Hid (∀ s ∈ F, s.size ≤ 100000) := by show ∀ _ _, _; intro s hs; have := hfs s hs; omega
      have HFL : Hid (F.length ≤ 10) := hfl
      have HGM := HGV.out.make (F.map lst) (fun y hy => by have := hlm y hy; omega) (by rw [List.length_map]; omega)
      have hml : (makeL (F.map lst)).length ≤ 900 := by
        have h1 := blks_len (F.map lst) 60 (by omega) hlm
        have h2 := lineN_len 42 (F.map lst).length (by rw [List.length_map]; omega)
        rw [List.length_map] at h1 h2
        have h3 : F.length * (60 + 26) ≤ 10 * (60 + 26) := Nat.mul_le_mul_right _ hfl
        simp only [makeL, List.length_append, List.length_map]
        omega
      have hmp : 0 < (makeL (F.map lst)).length := by simp [makeL, lineN]
      obtain ⟨M, hM⟩ : ∃ M, makeL (F.map lst) = M := ⟨_, rfl⟩
      rw [hM] at HGM hml hmp
      have HM : Hid (makeL (F.map lst) = M) := hM
      have HBL2 : Hid ((lb ++ M).length ≤ (i + 1) * 900) := by show _ ≤ _; rw [List.length_append]; have := HBL.out; omega
      clear hM hF hlm hfs hfl hX
      by_cases hF0 : F = []
      · subst hF0
        rw [List.map_nil, if_pos rfl] at HGM
        have HGN : Hid (Gives (lb ++ M) (k + 1) (L.map (·.map lst))) := HGM
        clear HGM
        go_wp2_with (first
          | (go_at_call 19; refine HFW.mono ?_; rintro e w1 ⟨hB1, a1, n1, c1, rfl, hO1⟩; have hn1 : n1 = 0 := (by have := hO1.len; simpa using this.symm); subst hn1; have HMK := Make_any a1 0 c1 [] w1 hO1.rd (by omega) HFS.out; rw [HM.out] at HMK; have HB1 : Hid (Below w.heap.size w w1) := HB.out.trans (hB1.mono HB.out.size); have HBO1 : Hid (Own w1 w.heap.size ab nb cb lb) := HBO.out.keep hB1; have HSS1 : Hid (OwnSS w1 w.heap.size aw nw cw L T) := HSS.out.keep hB1; clear hB1 hO1)
          | (go_at_call 12; refine HMK.mono ?_; rintro e w2 ⟨hB2, a2, n2, c2, rfl, hO2⟩; have hn2a : 0 < n2 := (by have := hO2.len; omega); have hn2b : n2 ≤ 900 := (by have := hO2.len; omega); have HB2 : Hid (Below w.heap.size w w2) := HB1.out.trans (hB2.mono HB1.out.size); have HO2 : Hid (Own w2 w.heap.size a2 n2 c2 M) := hO2.low HB1.out.size; have HBO2 : Hid (Own w2 w.heap.size ab nb cb lb) := HBO1.out.keep hB2; have HSS2 : Hid (OwnSS w2 w.heap.size aw nw cw L T) := HSS1.out.keep hB2; have HZ2 : Hid (w.heap.size ≤ w2.heap.size) := HB2.out.size; clear hB2 hO2)
          | (at_builtin; refine append_by rfl (.tmp 26) (.tmp 28) rfl w.heap.size rfl HBO2.out rfl HO2.out (by omega) (by omega) HZ2.out ?_; intro a3 n3 c3 w3 hn3 hO3 hG3 hB3; have HBO3 : Hid (Own w3 w.heap.size a3 n3 c3 (lb ++ M)) := hO3; have HSS3 : Hid (OwnSS w3 w.heap.size aw nw cw L T) := HSS2.out.past5 HBO2.out hG3; have HB3 : Hid (Below w.heap.size w w3) := HB2.out.trans hB3; clear hn3 hO3 hG3 hB3))
        go_roundg f
        case measure => omega
        case rel => exact ⟨i + 1, _, _, _, _, _, _, _, L, T, k + 1, rfl, rfl, by go_num, by have := HI.out; show _ = _; omega, HBO3, HSS3, HGN, HBL2, by have := HLL.out; show _ ≤ _; omega, HB3⟩
      · have hFp : 0 < F.length := List.length_pos_iff.2 hF0
        rw [if_neg (by simpa using hF0)] at HGM
        have HGN : Hid (Gives (lb ++ M) (k + 1) ((L ++ [F]).map (·.map lst))) := by show Gives _ _ _; rw [List.map_append]; exact HGM
        clear HGM hF0
        go_wp2_with (first
          | (go_at_call 19; refine HFW.mono ?_; rintro e w1 ⟨hB1, a1, n1, c1, rfl, hO1⟩; have hn1 : (0 : Int) < n1 := (by have := hO1.len; omega); have HMK := Make_any a1 n1 c1 _ w1 hO1.rd (by have h1 := hO1.len; have h2 := HFL.out; omega) HFS.out; rw [HM.out] at HMK; have HB1 : Hid (Below w.heap.size w w1) := HB.out.trans (hB1.mono HB.out.size); have HBO1 : Hid (Own w1 w.heap.size ab nb cb lb) := HBO.out.keep hB1; have HSS1 : Hid (OwnSS w1 w.heap.size aw nw cw L T) := HSS.out.keep hB1; have HF1 : Hid (OwnS w1 w.heap.size a1 n1 c1 F) := hO1.low HB.out.size; clear hB1 hO1)
          | (go_at_call 12; refine HMK.mono ?_; rintro e w2 ⟨hB2, a2, n2, c2, rfl, hO2⟩; have hn2a : 0 < n2 := (by have := hO2.len; omega); have hn2b : n2 ≤ 900 := (by have := hO2.len; omega); have HB2 : Hid (Below w.heap.size w w2) := HB1.out.trans (hB2.mono HB1.out.size); have HO2 : Hid (Own w2 w.heap.size a2 n2 c2 M) := hO2.low HB1.out.size; have HBO2 : Hid (Own w2 w.heap.size ab nb cb lb) := HBO1.out.keep hB2; have HSS2 : Hid (OwnSS w2 w.heap.size aw nw cw L T) := HSS1.out.keep hB2; have HF2 : Hid (OwnS w2 w.heap.size a1 n1 c1 F) := HF1.out.keep hB2; have HZ2 : Hid (w.heap.size ≤ w2.heap.size) := HB2.out.size; clear hB2 hO2)
          | (at_builtin; refine append_sg (t := (a1, n1, c1)) rfl (.tmp 33) (.tmp 35) rfl w.heap.size rfl (HSS3.out.keep (alloc_below w3 _)) rfl (by simp; rfl) (HF3.out.keep (alloc_below w3 _)) (HBO3.out.keep (alloc_below w3 _)) (by omega) (Nat.le_trans HZ3.out (alloc_below w3 _).size) ?_; intro a8 n8 c8 w8 hn8 hO8 hP8 hB8; have HSS8 : Hid (OwnSS w8 w.heap.size a8 n8 c8 (L ++ [F]) (T ++ [(a1, n1, c1)])) := hO8; have HBO8 : Hid (Own w8 w.heap.size a3 n3 c3 (lb ++ M)) := hP8; have HB8 : Hid (Below w.heap.size w w8) := (HB3.out.trans ((alloc_below w3 _).mono HZ3.out)).trans hB8; clear hn8 hO8 hP8 hB8)
          | (at_builtin; refine append_by rfl (.tmp 26) (.tmp 28) rfl w.heap.size rfl HBO2.out rfl HO2.out (by omega) (by omega) HZ2.out ?_; intro a3 n3 c3 w3 hn3 hO3 hG3 hB3; have HBO3 : Hid (Own w3 w.heap.size a3 n3 c3 (lb ++ M)) := hO3; have HSS3 : Hid (OwnSS w3 w.heap.size aw nw cw L T) := HSS2.out.past5 HBO2.out hG3; have HF3 : Hid (OwnS w3 w.heap.size a1 n1 c1 F) := OwnS.past5 HBO2.out hG3 HF2.out; have HB3 : Hid (Below w.heap.size w w3) := HB2.out.trans hB3; have HZ3 : Hid (w.heap.size ≤ w3.heap.size) := HB3.out.size; clear hn3 hO3 hG3 hB3))
        go_roundg f
        case measure => omega
        case rel => exact ⟨i + 1, _, _, _, _, _, _, _, L ++ [F], _, k + 1, rfl, rfl, by go_num, by have := HI.out; show _ = _; omega, HBO8, HSS8, HGN, HBL2, by have := HLL.out; show _ ≤ _; rw [List.length_append]; simp; omega, HB8⟩
    · have HALL : Calls Try.prog 17 #[.slice ab nb cb] wr fun e w' => Below wr.heap.size wr w' ∧ ∃ a n c T, e = .returned (.tuple #[.slice a n c, .int .i64 (nb : Int), .int .i64 0]) ∧ OwnSS w' wr.heap.size a n c L T := by
        refine (All_any ab nb cb lb wr (HG.out.keep HB.out) HBO.out.rd (by omega)).mono fun e w' ⟨h1, h2⟩ => ⟨h1, ?_⟩
        rw [HGV.out.all] at h2
        obtain ⟨a, n, c, T, e1, h3⟩ := h2
        rw [bs_lsts2] at h3
        exact ⟨a, n, c, T, by rw [e1]; simp, h3⟩
      by_cases hi : (i : Int) < n
      · have hi8 : ¬ (i : Int) < 8 := fun h => hgo ⟨hi, h⟩
        clear hgo
        go_wp2_with (go_at_call 17; refine HALL.mono ?_; rintro e w2 ⟨hB2, a2, n2, c2, T2, rfl, hO2⟩; have hn2 : n2 = nw := (by rw [← hO2.count, HSS.out.count]); subst hn2; have HB2 : Hid (Below w.heap.size w w2) := HB.out.trans (hB2.mono HB.out.size); have HO3 : Hid (OwnSS w2 w.heap.size aw n2 cw L T) := HSS.out.keep hB2; have HO2 : Hid (OwnSS w2 wr.heap.size a2 n2 c2 L T2) := hO2; have hn63 : n2 ≤ 9223372036854775807 := (by have h1 := hO2.own.cap; have h2 := h1.2; unfold maxLen at h2; omega); clear hB2 hO2)
        obtain ⟨m, rfl⟩ : ∃ n, n = n2 := ⟨_, rfl⟩
        go_loopg [10] m (fun g iv wx => ∃ (q : Nat), iv = .int .i64 q ∧ Hid (q + g = m) ∧ Hid (∃ r, wx = w2.drewN r))
        case atStart => exact ⟨0, rfl, by show _ = _; omega, ⟨0, rfl⟩⟩
        case round =>
          obtain ⟨q, rfl, HK, HW⟩ := hrel
          have HB4 : Hid (Below w2.heap.size w2 wr) := by obtain ⟨q, hq⟩ := HW.out; show Below _ _ _; rw [hq]; exact below_drewN _ _
          have HB5 : Hid (Below w.heap.size w wr) := HB2.out.trans (HB4.out.mono HB2.out.size)
          by_cases hk : (q : Int) < m
          · have hkn : q < m := by omega
            obtain ⟨g, b1, m1, d1, rfl, hc1, hr1⟩ := HO3.out.cell q hkn
            obtain ⟨g', b2, m2, d2, rfl, hc2, hr2⟩ := HO2.out.cell q hkn
            have hbj : ∀ j, Below w2.heap.size w2 (wr.drewN j) := fun j => HB4.out.trans ((below_drewN wr j).mono HB4.out.size)
            have hd : ∀ j, (wr.drewN j).cell? ⟨g, q, none⟩ = some (.slice b1 m1 d1) := fun j => by
              rw [(hbj j).cell (p := ⟨g, q, none⟩) (World.block_lt_of_cell? _ _ hc1)]; exact hc1
            have hd' : ∀ j, (wr.drewN j).cell? ⟨g', q, none⟩ = some (.slice b2 m2 d2) := fun j => by
              rw [(hbj j).cell (p := ⟨g', q, none⟩) (World.block_lt_of_cell? _ _ hc2)]; exact hc2
            have HL4 := fun j => Lists_same (hr2.keep (hbj j)) (hr1.keep (hbj j))
            clear hc1 hr1 hc2 hr2 hbj
            go_wp2
            go_quiet (first | (go_at_call 18; exact Calls.quiet_of (HL4 _)))
            go_wp2
            go_roundg (gk - 1)
            case measure => have := HK.out; omega
            case rel => exact ⟨q + 1, by go_num, by have := HK.out; show _ = _; omega, by obtain ⟨q, hq⟩ := HW.out; exact ⟨_, by rw [hq, drewN_drewN]⟩⟩
          · go_wp2_with (go_at_call 13; refine (known_any _ (HG.out.keep HB5.out)).mono ?_; rintro e wc ⟨rfl, hBc⟩; have HBc : Hid (Below w.heap.size w wc) := HB5.out.trans (hBc.mono HB5.out.size); clear hBc)
            go_ret
            exact ⟨rfl, HBc.out⟩
      · clear hgo
        go_wp2_with (go_at_call 17; refine HALL.mono ?_; rintro e w2 ⟨hB2, a2, n2, c2, T2, rfl, hO2⟩; have hn2 : n2 = nw := (by rw [← hO2.count, HSS.out.count]); subst hn2; have HB2 : Hid (Below w.heap.size w w2) := HB.out.trans (hB2.mono HB.out.size); have HO3 : Hid (OwnSS w2 w.heap.size aw n2 cw L T) := HSS.out.keep hB2; have HO2 : Hid (OwnSS w2 wr.heap.size a2 n2 c2 L T2) := hO2; have hn63 : n2 ≤ 9223372036854775807 := (by have h1 := hO2.own.cap; have h2 := h1.2; unfold maxLen at h2; omega); clear hB2 hO2)
        obtain ⟨m, rfl⟩ : ∃ n, n = n2 := ⟨_, rfl⟩
        go_loopg [10] m (fun g iv wx => ∃ (q : Nat), iv = .int .i64 q ∧ Hid (q + g = m) ∧ Hid (∃ r, wx = w2.drewN r))
        case atStart => exact ⟨0, rfl, by show _ = _; omega, ⟨0, rfl⟩⟩
        case round =>
          obtain ⟨q, rfl, HK, HW⟩ := hrel
          have HB4 : Hid (Below w2.heap.size w2 wr) := by obtain ⟨q, hq⟩ := HW.out; show Below _ _ _; rw [hq]; exact below_drewN _ _
          have HB5 : Hid (Below w.heap.size w wr) := HB2.out.trans (HB4.out.mono HB2.out.size)
          by_cases hk : (q : Int) < m
          · have hkn : q < m := by omega
            obtain ⟨g, b1, m1, d1, rfl, hc1, hr1⟩ := HO3.out.cell q hkn
            obtain ⟨g', b2, m2, d2, rfl, hc2, hr2⟩ := HO2.out.cell q hkn
            have hbj : ∀ j, Below w2.heap.size w2 (wr.drewN j) := fun j => HB4.out.trans ((below_drewN wr j).mono HB4.out.size)
            have hd : ∀ j, (wr.drewN j).cell? ⟨g, q, none⟩ = some (.slice b1 m1 d1) := fun j => by
              rw [(hbj j).cell (p := ⟨g, q, none⟩) (World.block_lt_of_cell? _ _ hc1)]; exact hc1
            have hd' : ∀ j, (wr.drewN j).cell? ⟨g', q, none⟩ = some (.slice b2 m2 d2) := fun j => by
              rw [(hbj j).cell (p := ⟨g', q, none⟩) (World.block_lt_of_cell? _ _ hc2)]; exact hc2
            have HL4 := fun j => Lists_same (hr2.keep (hbj j)) (hr1.keep (hbj j))
            clear hc1 hr1 hc2 hr2 hbj
            go_wp2
            go_quiet (first | (go_at_call 18; exact Calls.quiet_of (HL4 _)))
            go_wp2
            go_roundg (gk - 1)
            case measure => have := HK.out; omega
            case rel => exact ⟨q + 1, by go_num, by have := HK.out; show _ = _; omega, by obtain ⟨q, hq⟩ := HW.out; exact ⟨_, by rw [hq, drewN_drewN]⟩⟩
          · go_wp2_with (go_at_call 13; refine (known_any _ (HG.out.keep HB5.out)).mono ?_; rintro e wc ⟨rfl, hBc⟩; have HBc : Hid (Below w.heap.size w wc) := HB5.out.trans (hBc.mono HB5.out.size); clear hBc)
            go_ret
            exact ⟨rfl, HBc.out⟩
end Go.Proofs.Ytkoepgjdjbmknaa
