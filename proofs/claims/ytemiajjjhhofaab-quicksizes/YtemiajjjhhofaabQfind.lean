/-
  find, At, Len, Nodes: what only reads a list.
-/
import Derived.Test.YtemiajjjhhofaabPut2
namespace Go.Proofs.Ytemiajjjhhofaab
open Go.RowKit Go.PlainAid

/-- Where the k-th text lies. -/
def FoundAt (ns : List Nd) (k : Nat) (e : Ending) : Prop := ∃ l1 d l2 j, ns = l1 ++ d :: l2 ∧ (txN l1).length + j = k ∧ j < d.ls.length ∧ e = .returned (.tuple #[ptr d.a, .int .i64 (j : Nat), .bool true])

set_option maxRecDepth 100000 in
set_option maxHeartbeats 4000000 in
theorem find_none (B l R most cnt : Nat) (ns : List Nd) (i : Int) (w : World) (h : Lst w B l R most cnt ns) (hcnt : cnt ≤ 1000000) (hk : plc cnt i = none) :
    Calls Try.prog 60 #[ptr l, .int .i64 i] w fun e w' => e = .returned (.tuple #[.pointer none, .int .i64 0, .bool false]) ∧ w' = w := by
  have hc := h.ccnt
  clear h
  have hw : IntKind.i64.wrap (-(cnt : Int)) = -(cnt : Int) := by rw [IntKind.wrap_i64]; omega
  by_cases h1 : i < -(cnt : Int)
  · go_enter Try.func60, Try.ntmps60
    go_wp2
    go_ret3
    exact ⟨rfl, rfl⟩
  · have h2 : (cnt : Int) ≤ i := by
      unfold plc at hk
      split at hk
      · split at hk
        · cases hk
        · omega
      · split at hk
        · cases hk
        · omega
    go_enter Try.func60, Try.ntmps60
    go_wp2
    go_ret3
    exact ⟨rfl, rfl⟩

set_option maxRecDepth 100000 in
set_option maxHeartbeats 4000000 in
theorem find_some (B l R most cnt : Nat) (ns : List Nd) (i : Int) (k : Nat) (w : World) (h : Lst w B l R most cnt ns) (hT : (txN ns).length = cnt) (hcnt : cnt ≤ 1000000) (hk : plc cnt i = some k) :
    Calls Try.prog 60 #[ptr l, .int .i64 i] w fun e w' => FoundAt ns k e ∧ w' = w := by
  have hc := h.ccnt
  have hcr := h.cring
  have HL : Hid (Lst w B l R most cnt ns) := h
  have HT : Hid ((txN ns).length = cnt) := hT
  have hw : IntKind.i64.wrap (-(cnt : Int)) = -(cnt : Int) := by rw [IntKind.wrap_i64]; omega
  by_cases hi : i < 0
  · have hik : i + cnt = k := by
      unfold plc at hk
      rw [if_neg (by omega)] at hk
      split at hk
      · have := Option.some.inj hk; omega
      · cases hk
    have h1 : ¬ (i < -(cnt : Int)) := by omega
    have h2 : ¬ ((cnt : Int) ≤ i) := by omega
    obtain ⟨m, hm⟩ : ∃ m, ns.length = m := ⟨_, rfl⟩
    have HM : Hid (ns.length = m) := hm
    clear h hk hT hm
    go_enter Try.func60, Try.ntmps60
    go_wp2
    go_loopg [1, 8] m (fun g iv nv wr => w = wr ∧ ∃ l1 l2 : List Nd, ∃ v : Nat, ∃ z : Int, iv = .int .i64 z ∧ nv = ptr v ∧ Hid (hdA R l2 = v) ∧ Hid (l1.length = g) ∧ Hid (ns = l1 ++ l2) ∧ Hid (z = i + (txN l2).length) ∧ Hid (l2 ≠ [] ∨ z < 0) ∧ Hid (∀ d r, l2 = d :: r → z < d.ls.length))
    case atStart => exact ⟨rfl, ns, [], R, i, rfl, rfl, rfl, HM, (by show _ = _; simp), (by show _ = _; rw [txN_nil]; simp), .inr hi, (fun d r e => by cases e)⟩
    case round =>
      obtain ⟨rfl, l1, l2, v, z, rfl, rfl, HV, HG, HE, HZ, HN, HH⟩ := hrel
      have HTl : Hid ((txN l1).length + (txN l2).length = cnt) := by
        have := HT.out
        rw [HE.out, txN_append, List.length_append] at this
        exact this
      by_cases hz : z < 0
      · rcases snoc_ex l1 with e1 | ⟨k1, d, e1⟩
        · exfalso
          have h1 := HTl.out
          have h2 := HZ.out
          rw [e1, txN_nil] at h1
          simp at h1
          omega
        · have hL : Lst w B l R most cnt (k1 ++ d :: l2) := by
            have := HL.out
            rw [HE.out, e1] at this
            simpa using this
          have hg := (Lst.gap (l1 := k1 ++ [d]) (l2 := l2) (by simpa using hL)).2
          rw [laA_snoc, HV.out] at hg
          have hcp := hL.cpk (d := d) (by simp)
          have HLen := Len_any B d.p d.r d.n d.c d.ls w (hL.nod d (by simp)).pk
          have hd6 := (hL.nod d (by simp)).siz
          have hdm := (hL.nod d (by simp)).pk.many
          have hz0 : -1000000 ≤ z := by have := HZ.out; omega
          have HE1 : Hid (ns = k1 ++ (d :: l2)) := by show _ = _; rw [HE.out, e1]; simp
          have HG1 : Hid (k1.length = gk - 1) := by have := HG.out; rw [e1] at this; simp at this; show _ = _; omega
          have hgk : gk ≠ 0 := by have := HG.out; rw [e1] at this; simp at this; omega
          have HZ1 : Hid (z + (d.ls.length : Nat) = i + (txN (d :: l2)).length) := by
            have := HZ.out
            show _ = _
            rw [txN_cons, List.length_append]; omega
          have HH1 : Hid (∀ e r, d :: l2 = e :: r → z + (d.ls.length : Nat) < e.ls.length) := by
            intro e r h
            injection h with h1 h2
            rw [← h1]
            omega
          obtain ⟨q, hq⟩ : ∃ q, d.ls.length = q := ⟨_, rfl⟩
          rw [hq] at HLen HZ1 HH1 hdm
          clear hL hq
          go_wp2_with fail
          refine HLen.mono ?_
          rintro e w ⟨rfl, rfl⟩
          go_wp2
          go_roundg (gk - 1)
          case measure => omega
          case rel => exact ⟨rfl, k1, d :: l2, d.a, z + q, by go_num, rfl, rfl, HG1, HE1, HZ1, .inl (by simp), HH1⟩
      · cases l2 with
        | nil => exact absurd (HN.out.resolve_left (by simp)) hz
        | cons d r =>
          have hvd : d.a = v := HV.out
          subst hvd
          have HR : Hid (FoundAt ns k (.returned (.tuple #[ptr d.a, .int .i64 z, .bool true]))) := by
            have h1 := HH.out d r rfl
            have h2 := HZ.out
            have h3 := HTl.out
            obtain ⟨j, hj⟩ : ∃ j : Nat, z = j := ⟨z.toNat, by omega⟩
            subst hj
            exact ⟨l1, d, r, j, HE.out, by omega, by omega, rfl⟩
          go_wp2
          go_ret3
          exact ⟨HR.out, rfl⟩
  · have hik : i = k ∧ k < cnt := by
      unfold plc at hk
      rw [if_pos (by omega)] at hk
      split at hk
      · have := Option.some.inj hk; omega
      · cases hk
    obtain ⟨rfl, hkc⟩ := hik
    have h1 : ¬ ((k : Int) < -(cnt : Int)) := by omega
    have h2 : ¬ ((cnt : Int) ≤ (k : Int)) := by omega
    have hg : w.cell? ⟨R, 2, none⟩ = some (ptr (hdA R ns)) := (Lst.gap (l1 := []) (l2 := ns) h).1
    obtain ⟨m, hm⟩ : ∃ m, ns.length = m := ⟨_, rfl⟩
    have HM : Hid (ns.length = m) := hm
    obtain ⟨v, hv⟩ : ∃ v, hdA R ns = v := ⟨_, rfl⟩
    have HV : Hid (hdA R ns = v) := hv
    rw [hv] at hg
    clear h hk hT hm hv
    go_enter Try.func60, Try.ntmps60
    go_wp2
    go_loopg [1, 8] m (fun g iv nv wr => w = wr ∧ ∃ l1 l2 : List Nd, ∃ v z : Nat, iv = .int .i64 (z : Nat) ∧ nv = ptr v ∧ Hid (hdA R l2 = v) ∧ Hid (l2.length = g) ∧ Hid (ns = l1 ++ l2) ∧ Hid ((txN l1).length + z = k) ∧ Hid (z < (txN l2).length))
    case atStart => exact ⟨rfl, [], ns, v, k, rfl, rfl, HV, HM, rfl, (by show _ = _; rw [txN_nil]; simp), (by have := HT.out; show _ < _; omega)⟩
    case round =>
      obtain ⟨rfl, l1, l2, v, z, rfl, rfl, HV, HG, HE, HZ, HN⟩ := hrel
      cases l2 with
      | nil => exact absurd HN.out (by rw [txN_nil]; simp)
      | cons d r =>
        have hvd : d.a = v := HV.out
        subst hvd
        have hL : Lst w B l R most cnt (l1 ++ d :: r) := by
          have := HL.out
          rw [HE.out] at this
          exact this
        have hg := (Lst.gap (l1 := l1 ++ [d]) (l2 := r) (by simpa using hL)).1
        rw [laA_snoc] at hg
        have hcp := hL.cpk (d := d) (by simp)
        have HLen := Len_any B d.p d.r d.n d.c d.ls w (hL.nod d (by simp)).pk
        have hzc : z ≤ 1000000 := by have := HZ.out; omega
        have hd6 := (hL.nod d (by simp)).siz
        have hdm := (hL.nod d (by simp)).pk.many
        obtain ⟨q, hq⟩ : ∃ q, d.ls.length = q := ⟨_, rfl⟩
        have HQ : Hid (d.ls.length = q) := hq
        rw [hq] at HLen hdm
        obtain ⟨v2, hv2⟩ : ∃ v2, hdA R r = v2 := ⟨_, rfl⟩
        have HV2 : Hid (hdA R r = v2) := hv2
        rw [hv2] at hg
        clear hL hq hv2
        by_cases hzq : q ≤ z
        · have hzq1 : (q : Int) ≤ (z : Int) := by omega
          have hgk : gk ≠ 0 := by have := HG.out; simp at this; omega
          have HG1 : Hid (r.length = gk - 1) := by have := HG.out; simp at this; show _ = _; omega
          have HE1 : Hid (ns = (l1 ++ [d]) ++ r) := by show _ = _; rw [HE.out]; simp
          have HZ1 : Hid ((txN (l1 ++ [d])).length + (z - q) = k) := by
            have := HZ.out
            have h3 := HQ.out
            show _ = _
            rw [txN_append, txN_cons, txN_nil]; simp only [List.length_append, List.length_nil]; omega
          have HN1 : Hid (z - q < (txN r).length) := by
            have := HN.out
            have h3 := HQ.out
            rw [txN_cons, List.length_append] at this
            show _ < _
            omega
          obtain ⟨y, hy⟩ : ∃ y, z - q = y := ⟨_, rfl⟩
          have hyi : (z : Int) - (q : Int) = y := by omega
          rw [hy] at HZ1 HN1
          go_wp2_with fail
          refine HLen.mono ?_
          rintro e w ⟨rfl, rfl⟩
          go_wp2_with fail
          refine HLen.mono ?_
          rintro e w ⟨rfl, rfl⟩
          go_wp2
          go_roundg (gk - 1)
          case measure => omega
          case rel => exact ⟨rfl, _, r, v2, y, by go_num, rfl, HV2, HG1, HE1, HZ1, HN1⟩
        · have hzq1 : ¬ ((q : Int) ≤ (z : Int)) := by omega
          have HR : Hid (FoundAt ns k (.returned (.tuple #[ptr d.a, .int .i64 (z : Nat), .bool true]))) := ⟨l1, d, r, z, HE.out, HZ.out, by have := HQ.out; omega, rfl⟩
          go_wp2_with fail
          refine HLen.mono ?_
          rintro e w ⟨rfl, rfl⟩
          go_wp2
          go_ret3
          exact ⟨HR.out, rfl⟩

theorem txt_mid {l1 l2 : List Nd} {d : Nd} {j k : Nat} (hk : (txN l1).length + j = k) (hj : j < d.ls.length) : txt d.ls j = txt (txN (l1 ++ d :: l2)) k := by
  unfold txt
  rw [txN_append, txN_cons, List.getD_eq_getElem?_getD, List.getD_eq_getElem?_getD, List.getElem?_append_right (by omega), List.getElem?_append_left (by omega)]
  congr 2
  omega

set_option maxRecDepth 100000 in
theorem AtQ_none (B l R most cnt : Nat) (ns : List Nd) (i : Int) (w : World) (h : Lst w B l R most cnt ns) (hcnt : cnt ≤ 1000000) (hk : plc cnt i = none) :
    Calls Try.prog 44 #[ptr l, .int .i64 i] w fun e w' => Below w.heap.size w w' ∧ e = .returned (.tuple #[.string ⟨#[]⟩, .bool false]) := by
  have HF := find_none B l R most cnt ns i w h hcnt hk
  clear h hk
  go_enter Try.func44, Try.ntmps44
  go_wp2_with fail
  refine HF.mono ?_
  rintro e w ⟨rfl, rfl⟩
  go_wp2
  go_ret2
  exact ⟨Below.refl _ _, rfl⟩
set_option maxRecDepth 100000 in
theorem AtQ_some (B l R most cnt : Nat) (ns : List Nd) (i : Int) (k : Nat) (w : World) (h : Lst w B l R most cnt ns) (hT : (txN ns).length = cnt) (hcnt : cnt ≤ 1000000) (hk : plc cnt i = some k) :
    Calls Try.prog 44 #[ptr l, .int .i64 i] w fun e w' => Below w.heap.size w w' ∧ e = .returned (.tuple #[.string (txt (txN ns) k), .bool true]) := by
  have HF := find_some B l R most cnt ns i k w h hT hcnt hk
  have HL : Hid (Lst w B l R most cnt ns) := h
  clear h hk hT
  go_enter Try.func44, Try.ntmps44
  go_wp2_with fail
  refine HF.mono ?_
  rintro e w ⟨⟨l1, d, l2, j, he, hj1, hj2, rfl⟩, rfl⟩
  have hL : Lst w B l R most cnt (l1 ++ d :: l2) := he ▸ HL.out
  have hcp := hL.cpk (d := d) (by simp)
  have hdN := hL.nod d (by simp)
  have hp : plc d.ls.length (j : Int) = some j := by unfold plc; rw [if_pos (by omega), if_pos (by omega)]; simp
  have HA := At_some B d.p d.r d.n d.c d.ls j j w hdN.pk hdN.fit (by omega) hp
  have HX : Hid (txt d.ls j = txt (txN ns) k) := by rw [he]; exact txt_mid hj1 hj2
  rw [HX.out] at HA
  clear hL hdN hp HF he
  go_wp2_with fail
  refine HA.mono ?_
  rintro e w1 ⟨hb, rfl⟩
  have HB : Hid (Below w.heap.size w w1) := hb
  clear hb
  go_wp2
  go_ret2
  exact ⟨HB.out, rfl⟩
end Go.Proofs.Ytemiajjjhhofaab
