/-
  keep; removeFirst, removeLast, Remove.
-/
import Derived.Test.YtemiajjjhhofaacQrem
import Derived.Test.YtemiajjjhhofaacQabs
namespace Go.Proofs.Ytemiajjjhhofaac
open Go.RowKit Go.PlainAid

theorem pack_sum : ∀ l : List ByteArray, (pack l).length = (l.map fun s => (enc (lst s)).length).sum
  | [] => rfl
  | s :: r => by rw [pack, List.length_append, pack_sum r, List.map_cons, List.sum_cons]
theorem pack_rev (l : List ByteArray) : (pack l.reverse).length = (pack l).length := by rw [pack_sum, pack_sum, List.map_reverse, List.sum_reverse]
theorem pack_kp (s : ByteArray) : ∀ (l : List ByteArray) (m : Nat), (pack (kp s m l)).length ≤ (pack l).length
  | [], _ => Nat.le_refl _
  | x :: r, m => by
    unfold kp
    rw [rem, pack, List.length_append]
    split
    · have := pack_kp s r (m - 1)
      unfold kp at this
      omega
    · have := pack_kp s r m
      unfold kp at this
      rw [pack, List.length_append]
      omega

/-- What keep leaves of a node. -/
def KeepAt (w : World) (B l R most cnt : Nat) (l1 l2 : List Nd) (d : Nd) (K : List ByteArray) (w' : World) : Prop :=
  ∃ X, Lst w' B l R most (cnt - (d.ls.length - K.length)) (l1 ++ (X ++ l2)) ∧ Goes w w' l R (l1 ++ d :: l2) (l1 ++ (X ++ l2)) ∧ Ok most (l1 ++ (X ++ l2)) ∧ txN X = K ∧ w'.cell? ⟨d.a, 1, none⟩ = some (ptr (laA R l1)) ∧ w'.cell? ⟨d.a, 2, none⟩ = some (ptr (hdA R l2))

theorem Lst.cells {w : World} {B l R most cnt : Nat} {l1 l2 : List Nd} {d : Nd} (h : Lst w B l R most cnt (l1 ++ d :: l2)) : w.cell? ⟨d.a, 1, none⟩ = some (ptr (laA R l1)) ∧ w.cell? ⟨d.a, 2, none⟩ = some (ptr (hdA R l2)) := by
  have h1 := (h.gap (l1 := l1) (l2 := d :: l2)).2
  have h2 := (Lst.gap (l1 := l1 ++ [d]) (l2 := l2) (by simpa using h)).1
  rw [laA_snoc] at h2
  exact ⟨h1, h2⟩

/-- A node has another, new pack. -/
theorem Lst.swap {w w1 : World} {B l R most cnt : Nat} {l1 l2 : List Nd} {d : Nd} (h : Lst w B l R most cnt (l1 ++ d :: l2)) (hb : Below w.heap.size w w1) {p : Nat} {a : Option Addr} {n c : Nat} (hP : Pk w1 w.heap.size p a n c []) :
    Lst (w1.setCell ⟨d.a, 0, none⟩ (ptr p)) B l R most cnt (l1 ++ ⟨d.a, p, a, n, c, []⟩ :: l2) ∧ Goes w (w1.setCell ⟨d.a, 0, none⟩ (ptr p)) l R (l1 ++ d :: l2) (l1 ++ ⟨d.a, p, a, n, c, []⟩ :: l2) := by
  have hd := h.nod d (by simp)
  have hs : Stay w (w1.setCell ⟨d.a, 0, none⟩ (ptr p)) [d.a] := (Stay.of_below hb [d.a]).trans Stay.set (by simp)
  have hbl := hP.blocks
  have hne : d.a ∉ p :: (a.map (·.block)).toList := fun hm => by have h1 := (hbl.1 _ hm).1; have h2 := hd.lt; omega
  have hl0 : n = 0 := hP.len.symm
  refine h.put (d' := ⟨d.a, p, a, n, c, []⟩) rfl hs (fun k hk => by simp at hk; rw [hk]; simp [Nd.fp]) (fun o ho => ?_) ⟨?_, ?_, fun s hs => absurd hs (by simp), by show n ≤ 65536; omega, hd.low⟩ (List.nodup_cons.2 ⟨hne, hbl.2⟩) ?_
  · rw [cell_ne (fun e => by rcases ho with rfl | rfl <;> exact absurd e.2 (by decide))]
    exact hb.cell (p := ⟨d.a, o, none⟩) hd.lt
  · obtain ⟨x, y, e⟩ := hd.blk
    have e1 : w1.heap[d.a]? = some (.cells #[ptr d.p, x, y] 40 (0, 0)) := by rw [hb.block _ hd.lt]; exact e
    exact ⟨x, y, by show (w1.setCell ⟨d.a, 0, none⟩ (ptr p)).heap[d.a]? = _; rw [heap_set e1]; rfl⟩
  · have hBw : B ≤ w.heap.size := Nat.le_trans h.lowl (Nat.le_of_lt h.lt)
    exact (hP.low' hBw).stay (Stay.set (q := d.a) (o := 0) (v := ptr p)) (fun hm => hne (by simp at hm; rw [← hm]; simp)) (fun k hk hm => hne (by simp at hm; rw [← hm]; exact List.mem_cons_of_mem _ hk))
  · intro k hk
    rcases List.mem_cons.1 hk with rfl | hk
    · exact .inl (by simp [Nd.fp])
    · exact .inr (hbl.1 k hk).1

set_option maxRecDepth 100000 in
set_option maxHeartbeats 400000 in
theorem keep_any (B l R most cnt : Nat) (l1 l2 : List Nd) (d : Nd) (a : Option Addr) (n c : Nat) (K : List ByteArray) (w : World) (h : Lst w B l R most cnt (l1 ++ d :: l2)) (hok : Ok most (l1 ++ d :: l2)) (hR : RdF w a n K (l :: R :: fpN (l1 ++ d :: l2))) (hle : K.length ≤ d.ls.length) (hsame : K.length = d.ls.length → K = d.ls) (hf : Fit K) (hpk : (pack K).length ≤ 65536) (hc1 : d.ls.length ≤ cnt) (hcnt : cnt ≤ 1000000) :
    Calls Try.prog 32 #[ptr l, ptr d.a, .slice a n c] w fun e w' => e = .returned (.int .i64 ((d.ls.length - K.length : Nat) : Nat)) ∧ KeepAt w B l R most cnt l1 l2 d K w' := by
  have hdN := h.nod d (by simp)
  have hcp := h.cpk (d := d) (by simp)
  have HLen := Len_any B d.p d.r d.n d.c d.ls w hdN.pk
  have hKn := hR.rd.len
  have hd6 := hdN.siz
  have hdm := hdN.pk.many
  have HL : Hid (Lst w B l R most cnt (l1 ++ d :: l2)) := h
  have HOk : Hid (Ok most (l1 ++ d :: l2)) := hok
  obtain ⟨dk, hdk⟩ : ∃ dk, d.ls.length = dk := ⟨_, rfl⟩
  have HDk : Hid (d.ls.length = dk) := hdk
  rw [hdk] at HLen hle hc1 hdm hsame ⊢
  rw [hKn] at hle hsame ⊢
  obtain ⟨g, hg⟩ : ∃ g, dk - n = g := ⟨_, rfl⟩
  have hgi : (dk : Int) - (n : Int) = g := by omega
  have HG : Hid (dk - n = g) := hg
  have HKn : Hid (K.length = n) := hKn
  rw [hg]
  by_cases h0 : g = 0
  · subst h0
    have HE : Hid (KeepAt w B l R most cnt l1 l2 d K w) := by
      have hKd : K = d.ls := hsame (by omega)
      refine ⟨[d], ?_, Goes.refl _ _ _ _, hok, by rw [txN_cons, txN_nil, hKd]; simp, h.cells.1, h.cells.2⟩
      rw [hKd, Nat.sub_self]; exact h
    clear h hok hR hdN hsame hf hpk
    go_enter Try.func32, Try.ntmps32
    go_wp2_with fail
    refine HLen.mono ?_
    rintro e w ⟨rfl, rfl⟩
    go_wp2
    go_ret
    exact ⟨rfl, HE.out⟩
  · have hg0 : ¬ ((g : Int) = 0) := by omega
    have hcc := h.ccnt
    have hcf := h.frozen 1
    obtain ⟨q, hq⟩ : ∃ q, cnt - g = q := ⟨_, rfl⟩
    have hqi : (cnt : Int) - (g : Int) = q := by omega
    obtain ⟨h6, h7⟩ := h.count q
    have HL6 : Hid (Lst (w.setCell ⟨l, 1, none⟩ (.int .i64 (q : Nat))) B l R most q (l1 ++ d :: l2)) := h6
    have HG6 : Hid (Goes w (w.setCell ⟨l, 1, none⟩ (.int .i64 (q : Nat))) l R (l1 ++ d :: l2) (l1 ++ d :: l2)) := h7
    have HR6 : Hid (RdF (w.setCell ⟨l, 1, none⟩ (.int .i64 (q : Nat))) a n K (l :: R :: fpN (l1 ++ d :: l2))) := hR.goes h7
    have HQ : Hid (cnt - (d.ls.length - K.length) = q) := by show _ = _; rw [hdk, hKn, hg]; exact hq
    by_cases hn0 : n = 0
    · subst hn0
      have HU := unlink_any B l R most q l1 l2 d _ h6
      have HK0 : Hid (K = []) := List.length_eq_zero_iff.1 hKn
      have hgd : g = dk := by omega
      subst hgd
      clear h hok hR hdN hsame hf hpk h6 h7 hq
      go_enter Try.func32, Try.ntmps32
      go_wp2_with fail
      refine HLen.mono ?_
      rintro e w ⟨rfl, rfl⟩
      go_wp2_with fail
      refine HU.mono ?_
      rintro e w2 ⟨rfl, h8, h9, hc1, hc2⟩
      have HE : Hid (KeepAt w B l R most cnt l1 l2 d K w2) := by
        refine ⟨[], ?_, HG6.out.trans h9, HOk.out.less, by rw [HK0.out]; rfl, hc1, hc2⟩
        rw [HQ.out]; exact h8
      clear h8 h9 hc1 hc2 HU
      go_wp2
      go_ret
      exact ⟨rfl, HE.out⟩
    · have hn01 : ¬ ((n : Int) = 0) := by omega
      have HF : Hid (Fit K) := hf
      have HPk : Hid ((pack K).length ≤ 65536) := hpk
      have HNw := New_any (w.setCell ⟨l, 1, none⟩ (.int .i64 (q : Nat)))
      clear h hok hR hdN hsame hf hpk h6 h7 hq
      go_enter Try.func32, Try.ntmps32
      go_wp2_with fail
      refine HLen.mono ?_
      rintro e w ⟨rfl, rfl⟩
      go_wp2_with fail
      generalize w.setCell ⟨l, 1, none⟩ (.int .i64 (q : Nat)) = w6 at *
      refine HNw.mono ?_
      rintro e w7 ⟨hb, p, pa, pn, pc, rfl, hP⟩
      obtain ⟨h8, h9⟩ := HL6.out.swap hb hP
      have hcd : w7.cell? ⟨d.a, 0, none⟩ = some (ptr d.p) := (HL6.out.keep hb).cpk (by simp)
      have hfd : w7.frozen? ⟨d.a, 0, none⟩ = false := (HL6.out.keep hb).nfrozen (k := d.a) (by rw [adr_append, adr_cons]; simp) 0
      have hcn : (w7.setCell ⟨d.a, 0, none⟩ (ptr p)).cell? ⟨d.a, 0, none⟩ = some (ptr p) := cell_eq hcd
      have hR8 := HR6.out.goes h9
      have hpn : pn = 0 := hP.len.symm
      have HIn := Insert_nd B l R most q l1 l2 ⟨d.a, p, pa, pn, pc, []⟩ 0 a n c K _ h8 (Nat.zero_le _) hR8.rd HF.out (by have := HKn.out; have := HDk.out; omega) (by show pn + _ ≤ _; have := HPk.out; omega)
      have HG8 : Hid (Goes w (w7.setCell ⟨d.a, 0, none⟩ (ptr p)) l R (l1 ++ d :: l2) (l1 ++ ⟨d.a, p, pa, pn, pc, []⟩ :: l2)) := HG6.out.trans h9
      clear hb hP h8 h9 hR8 HNw hpn
      go_wp2_with fail
      generalize w7.setCell ⟨d.a, 0, none⟩ (ptr p) = w8 at *
      refine HIn.mono ?_
      rintro e w9 ⟨rfl, d', e1, e2, e3, e4, h4, h5⟩
      have HE : Hid (KeepAt w B l R most cnt l1 l2 d K w9) := by
        have e3' : d'.ls = K := by rw [e3]; simp
        have hce := h4.cells
        rw [e1] at hce
        refine ⟨[d'], ?_, ?_, ?_, by rw [txN_cons, txN_nil, e3']; simp, hce.1, hce.2⟩
        · rw [HQ.out]; exact h4
        · exact HG8.out.trans h5
        · refine HOk.out.mid ?_
          have h1 := HOk.out d (by simp)
          have h2 := HKn.out
          have h3 := HDk.out
          rw [e3']
          omega
      clear h4 h5 HIn e1 e2 e3 e4
      go_wp2
      go_ret
      exact ⟨rfl, HE.out⟩
end Go.Proofs.Ytemiajjjhhofaac
