/-
  removeFirst, removeLast, Remove.
-/
import Derived.Test.YtemiajjjhhofaacQrem2
namespace Go.Proofs.Ytemiajjjhhofaac
open Go.RowKit Go.PlainAid

/-- A row that was made behind a world lies outside each list of it. -/
theorem OwnS.rdf {w w' : World} {B l R most cnt : Nat} {ns : List Nd} (h : Lst w B l R most cnt ns) {a : Option Addr} {n c : Nat} {ls : List ByteArray} (hO : OwnS w' w.heap.size a n c ls) : RdF w' a n ls (l :: R :: fpN ns) := by
  refine ⟨hO.rd, fun x hx => ?_⟩
  rcases hO.2 with ⟨e, -⟩ | ⟨g, c', cur, e, h4, h5, -⟩
  · injection e with e1; rw [e1] at hx; cases hx
  · injection e with e1
    rw [e1] at hx
    cases hx
    exact ⟨fun hm => absurd (h.fplt g hm).2 (by omega), (Array.getElem?_eq_some_iff.1 h5).1⟩
theorem Cut9.below {w0 w w' : World} {a : Option Addr} {n c : Nat} {ls : List ByteArray} (hO : OwnS w w0.heap.size a n c ls) (h0 : w0.heap.size ≤ w.heap.size) (hs : Stay w w' ((a.map (·.block)).toList)) : Below w0.heap.size w w' := by
  refine hs.below (fun k hk => ?_) h0
  rw [Option.mem_toList] at hk
  exact (hO.lt k (by rw [← hk]; cases a <;> rfl)).1

theorem kp_same (s : ByteArray) : ∀ (l : List ByteArray) (m : Nat), (kp s m l).length = l.length → kp s m l = l
  | [], _, _ => rfl
  | x :: r, m, h => by
    unfold kp at h ⊢
    rw [rem] at h ⊢
    split at h
    · have := (kp_len s r (m - 1)).1
      unfold kp at this
      rw [List.length_cons] at h
      omega
    · rename_i hh
      rw [if_neg hh]
      simp only [List.length_cons] at h
      have := kp_same s r m (by unfold kp; omega)
      unfold kp at this
      simp only [this]

set_option maxRecDepth 100000 in
set_option maxHeartbeats 400000 in
theorem removeFirst_any (B l R most : Nat) (ns : List Nd) (s : ByteArray) (m : Nat) (w : World) (h : Lst w B l R most (txN ns).length ns) (hok : Ok most ns) (hc : (txN ns).length ≤ 1000000) (hm : m ≤ 1000000) :
    Calls Try.prog 19 #[ptr l, .string s, .int .i64 (m : Nat)] w fun e w' => e = .returned (.tuple #[]) ∧ Does w B l R most (kp s m (txN ns)).length ns (kp s m (txN ns)) w' := by
  have hcr := h.cring
  have hg : w.cell? ⟨R, 2, none⟩ = some (ptr (hdA R ns)) := (Lst.gap (l1 := []) (l2 := ns) h).1
  have HC : Hid ((txN ns).length ≤ 1000000) := hc
  obtain ⟨N, hN⟩ : ∃ N, ns.length = N := ⟨_, rfl⟩
  have HN : Hid (ns.length = N) := hN
  obtain ⟨v, hv⟩ : ∃ v, hdA R ns = v := ⟨_, rfl⟩
  have HR0 : Hid (∃ l1 l2 P, Lst w B l R most (txN (l1 ++ l2)).length (l1 ++ l2) ∧ Goes w w l R ns (l1 ++ l2) ∧ Ok most (l1 ++ l2) ∧ txN ns = P ++ txN l2 ∧ txN l1 = kp s m P ∧ lf s m P = m ∧ hdA R l2 = v ∧ l2.length = N) := ⟨[], ns, [], h, Goes.refl _ _ _ _, hok, rfl, rfl, rfl, hv, hN⟩
  rw [hv] at hg
  clear h hok hc hN hv
  go_enter Try.func19, Try.ntmps19
  go_wp2
  go_loopg [2, 6, 7] N (fun g mv nv kv wr => ∃ k v : Nat, mv = .int .i64 (k : Nat) ∧ nv = ptr v ∧ k ≤ 1000000 ∧ Hid (∃ l1 l2 P, Lst wr B l R most (txN (l1 ++ l2)).length (l1 ++ l2) ∧ Goes w wr l R ns (l1 ++ l2) ∧ Ok most (l1 ++ l2) ∧ txN ns = P ++ txN l2 ∧ txN l1 = kp s m P ∧ lf s m P = k ∧ hdA R l2 = v ∧ l2.length = g))
  case atStart => exact ⟨m, v, rfl, rfl, hm, HR0⟩
  case round =>
    obtain ⟨k, v, rfl, rfl, hk6, HR⟩ := hrel
    obtain ⟨l1, l2, P, hL, hGo, hO, hT, hK, hlf, hv, hlen⟩ := HR.out
    have hcr := hL.cring
    cases l2 with
    | nil =>
      have hvR : R = v := hv
      subst hvR
      have hq := neq_same wr R
      have HE : Hid (Does w B l R most (kp s m (txN ns)).length ns (kp s m (txN ns)) wr) := by
        have e1 : txN ns = P := by rw [hT, txN_nil, List.append_nil]
        have e2 : txN (l1 ++ []) = kp s m (txN ns) := by rw [List.append_nil, hK, e1]
        rw [← e2]
        exact ⟨_, hL, hGo, hO, rfl⟩
      clear hL hGo hO hT hK hlf
      go_wp2
      go_end0
      exact ⟨rfl, HE.out⟩
    | cons d r =>
      have hvd : d.a = v := hv
      subst hvd
      have hq := (hL.neqR (d := d) (by simp)).2
      by_cases hk0 : k = 0
      · subst hk0
        have HE : Hid (Does w B l R most (kp s m (txN ns)).length ns (kp s m (txN ns)) wr) := by
          have e2 : txN (l1 ++ d :: r) = kp s m (txN ns) := by rw [hT, kp_append, hlf, (kp_zero s _).1, txN_append, hK]
          rw [← e2]
          exact ⟨_, hL, hGo, hO, rfl⟩
        clear hL hGo hO hT hK hlf
        go_wp2
        go_end0
        exact ⟨rfl, HE.out⟩
      · have hk01 : (0 : Int) < (k : Int) := by omega
        have hdN := hL.nod d (by simp)
        have hcp := hL.cpk (d := d) (by simp)
        have hd6 := hdN.siz
        have hdm := hdN.pk.many
        have HAl := All_any B d.p d.r d.n d.c d.ls wr hdN.pk hdN.fit (by omega)
        have HL : Hid (Lst wr B l R most (txN (l1 ++ d :: r)).length (l1 ++ d :: r)) := hL
        have HGo : Hid (Goes w wr l R ns (l1 ++ d :: r)) := hGo
        have HO : Hid (Ok most (l1 ++ d :: r)) := hO
        have HT : Hid (txN ns = P ++ txN (d :: r) ∧ txN l1 = kp s m P ∧ lf s m P = k) := ⟨hT, hK, hlf⟩
        have HLn : Hid (r.length + 1 = gk) := by rw [← hlen]; rfl
        have hg0 : gk ≠ 0 := by have := HLn.out; omega
        have HCt : Hid ((txN (l1 ++ d :: r)).length ≤ 1000000) := by
          have h1 := (kp_len s P m).1
          have h2 := HC.out
          show _ ≤ _
          rw [hT, List.length_append] at h2
          rw [txN_append, List.length_append, hK]
          omega
        have HKl := kp_len s d.ls k
        have HKf : Hid ((kp s k d.ls).length = d.ls.length → kp s k d.ls = d.ls) := fun he => kp_same s d.ls k he
        clear hL hGo hO hT hK hlf hv hlen HR
        go_wp2_with fail
        refine HAl.mono ?_
        rintro e w1 ⟨hb, a1, n1, c1, rfl, hO1⟩
        have hn1 := hO1.len
        have HWi := without_any wr.heap.size a1 n1 c1 d.ls k s w1 hO1 hk6 (by omega)
        have HO1 : Hid (OwnS w1 wr.heap.size a1 n1 c1 d.ls) := hO1
        have HB1 : Hid (Below wr.heap.size wr w1) := hb
        clear hb hO1 HAl
        go_wp2_with fail
        refine HWi.mono ?_
        rintro e w2 ⟨a2, n2, c2, rfl, hO2, hS2⟩
        have HB2 : Hid (Below wr.heap.size wr w2) := HB1.out.trans (Cut9.below HO1.out HB1.out.size hS2)
        have hL2 := HL.out.keep HB2.out
        have hn2 := hO2.len
        have HKe := keep_any B l R most _ l1 r d a2 n2 c2 (kp s k d.ls) w2 hL2 HO.out (OwnS.rdf HL.out hO2) HKl.1 HKf.out (fun t ht => hdN.fit t (kp_mem s d.ls k t ht)) (Nat.le_trans (pack_kp s d.ls k) (by rw [hdN.pk.len]; exact hdN.siz)) (by rw [txN_append, txN_cons, List.length_append, List.length_append]; omega) HCt.out
        obtain ⟨g9, hg9⟩ : ∃ g9, d.ls.length - (kp s k d.ls).length = g9 := ⟨_, rfl⟩
        rw [hg9] at HKe
        obtain ⟨k2, hk2⟩ : ∃ k2, lf s k d.ls = k2 := ⟨_, rfl⟩
        have hki : (k : Int) - (g9 : Int) = k2 := by omega
        have hk26 : k2 ≤ 1000000 := by omega
        have HK2 : Hid (lf s k d.ls = k2) := hk2
        have HG9 : Hid (d.ls.length - (kp s k d.ls).length = g9 ∧ (kp s k d.ls).length ≤ d.ls.length) := ⟨hg9, HKl.1⟩
        clear hO2 hS2 hL2 HWi HKl hn1 hn2 hg9 hk2 hdN
        go_wp2_with fail
        refine HKe.mono ?_
        rintro e w3 ⟨rfl, X, h1, h2, h3, h4, h5, h6⟩
        obtain ⟨v2, hv2⟩ : ∃ v2, hdA R r = v2 := ⟨_, rfl⟩
        rw [hv2] at h6
        have HR3 : Hid (∃ l1 l2 P, Lst w3 B l R most (txN (l1 ++ l2)).length (l1 ++ l2) ∧ Goes w w3 l R ns (l1 ++ l2) ∧ Ok most (l1 ++ l2) ∧ txN ns = P ++ txN l2 ∧ txN l1 = kp s m P ∧ lf s m P = k2 ∧ hdA R l2 = v2 ∧ l2.length = gk - 1) := by
          obtain ⟨t1, t2, t3⟩ := HT.out
          refine ⟨l1 ++ X, r, P ++ d.ls, ?_, ?_, ?_, ?_, ?_, ?_, hv2, ?_⟩
          · have : (txN (l1 ++ d :: r)).length - (d.ls.length - (kp s k d.ls).length) = (txN (l1 ++ X ++ r)).length := by
              have := HG9.out.2
              rw [txN_append, txN_cons, txN_append, txN_append, h4]
              simp only [List.length_append]
              omega
            rw [this, ← List.append_assoc] at h1
            exact h1
          · rw [List.append_assoc]; exact (HGo.out.trans (Goes.of_below HB2.out _ _ _)).trans h2
          · rw [List.append_assoc]; exact h3
          · rw [t1, txN_cons, List.append_assoc]
          · rw [txN_append, h4, t2, kp_append, t3]
          · rw [lf_append, t3]; exact HK2.out
          · have := HLn.out; omega
        have hce := h6
        clear h1 h2 h3 h4 h5 h6 HKe hv2
        go_wp2
        go_roundg (gk - 1)
        case measure => omega
        case rel => exact ⟨k2, v2, by go_num, rfl, hk26, HR3⟩
/-- The same from the last on. -/
def rp (s : ByteArray) (m : Nat) (l : List ByteArray) : List ByteArray := (kp s m l.reverse).reverse
theorem rp_append (s : ByteArray) (m : Nat) (a b : List ByteArray) : rp s m (a ++ b) = rp s (lf s m b.reverse) a ++ rp s m b := by
  unfold rp
  rw [List.reverse_append, kp_append, List.reverse_append]
theorem rp_zero (s : ByteArray) (l : List ByteArray) : rp s 0 l = l := by unfold rp; rw [(kp_zero s _).1, List.reverse_reverse]
theorem rp_len (s : ByteArray) (l : List ByteArray) (m : Nat) : (rp s m l).length ≤ l.length := by
  unfold rp
  have := (kp_len s l.reverse m).1
  rw [List.length_reverse] at this ⊢
  exact this

set_option maxRecDepth 100000 in
set_option maxHeartbeats 400000 in
theorem removeLast_any (B l R most : Nat) (ns : List Nd) (s : ByteArray) (m : Nat) (w : World) (h : Lst w B l R most (txN ns).length ns) (hok : Ok most ns) (hc : (txN ns).length ≤ 1000000) (hm : m ≤ 1000000) :
    Calls Try.prog 18 #[ptr l, .string s, .int .i64 (m : Nat)] w fun e w' => e = .returned (.tuple #[]) ∧ Does w B l R most (rp s m (txN ns)).length ns (rp s m (txN ns)) w' := by
  have hcr := h.cring
  have hg : w.cell? ⟨R, 1, none⟩ = some (ptr (laA R ns)) := (Lst.gap (l1 := ns) (l2 := []) (by rw [List.append_nil]; exact h)).2
  have HC : Hid ((txN ns).length ≤ 1000000) := hc
  obtain ⟨N, hN⟩ : ∃ N, ns.length = N := ⟨_, rfl⟩
  have HN : Hid (ns.length = N) := hN
  obtain ⟨v, hv⟩ : ∃ v, laA R ns = v := ⟨_, rfl⟩
  have HR0 : Hid (∃ l1 l2 P, Lst w B l R most (txN (l1 ++ l2)).length (l1 ++ l2) ∧ Goes w w l R ns (l1 ++ l2) ∧ Ok most (l1 ++ l2) ∧ txN ns = txN l1 ++ P ∧ txN l2 = rp s m P ∧ lf s m P.reverse = m ∧ laA R l1 = v ∧ l1.length = N) := ⟨ns, [], [], by rw [List.append_nil]; exact h, by rw [List.append_nil]; exact Goes.refl _ _ _ _, by rw [List.append_nil]; exact hok, by simp, rfl, rfl, hv, hN⟩
  rw [hv] at hg
  clear h hok hc hN hv
  go_enter Try.func18, Try.ntmps18
  go_wp2
  go_loopg [2, 6, 7] N (fun g mv nv kv wr => ∃ k v : Nat, mv = .int .i64 (k : Nat) ∧ nv = ptr v ∧ k ≤ 1000000 ∧ Hid (∃ l1 l2 P, Lst wr B l R most (txN (l1 ++ l2)).length (l1 ++ l2) ∧ Goes w wr l R ns (l1 ++ l2) ∧ Ok most (l1 ++ l2) ∧ txN ns = txN l1 ++ P ∧ txN l2 = rp s m P ∧ lf s m P.reverse = k ∧ laA R l1 = v ∧ l1.length = g))
  case atStart => exact ⟨m, v, rfl, rfl, hm, HR0⟩
  case round =>
    obtain ⟨k, v, rfl, rfl, hk6, HR⟩ := hrel
    obtain ⟨l1, l2, P, hL, hGo, hO, hT, hK, hlf, hv, hlen⟩ := HR.out
    have hcr := hL.cring
    rcases snoc_ex l1 with e1 | ⟨r, d, e1⟩
    · subst e1
      have hvR : R = v := hv
      subst hvR
      have hq := neq_same wr R
      have HE : Hid (Does w B l R most (rp s m (txN ns)).length ns (rp s m (txN ns)) wr) := by
        have e1 : txN ns = P := by rw [hT, txN_nil, List.nil_append]
        have e2 : txN ([] ++ l2) = rp s m (txN ns) := by rw [List.nil_append, hK, e1]
        rw [← e2]
        exact ⟨_, hL, hGo, hO, rfl⟩
      clear hL hGo hO hT hK hlf
      go_wp2
      go_end0
      exact ⟨rfl, HE.out⟩
    · subst e1
      rw [laA_snoc] at hv
      subst hv
      have es : ∀ Y : List Nd, r ++ [d] ++ Y = r ++ d :: Y := fun Y => by simp
      rw [es] at hL hGo hO
      have hq := (hL.neqR (d := d) (by simp)).2
      by_cases hk0 : k = 0
      · subst hk0
        have HE : Hid (Does w B l R most (rp s m (txN ns)).length ns (rp s m (txN ns)) wr) := by
          have e2 : txN (r ++ d :: l2) = rp s m (txN ns) := by
            rw [hT, rp_append, hlf, rp_zero, ← hK, ← txN_append, es]
          rw [← e2]
          exact ⟨_, hL, hGo, hO, rfl⟩
        clear hL hGo hO hT hK hlf
        go_wp2
        go_end0
        exact ⟨rfl, HE.out⟩
      · have hk01 : (0 : Int) < (k : Int) := by omega
        have hdN := hL.nod d (by simp)
        have hcp := hL.cpk (d := d) (by simp)
        have hd6 := hdN.siz
        have hdm := hdN.pk.many
        have HAl := Back_pk B d.p d.r d.n d.c d.ls wr hdN.pk hdN.fit (by omega)
        have HL : Hid (Lst wr B l R most (txN (r ++ d :: l2)).length (r ++ d :: l2)) := hL
        have HGo : Hid (Goes w wr l R ns (r ++ d :: l2)) := hGo
        have HO : Hid (Ok most (r ++ d :: l2)) := hO
        have HT : Hid (txN ns = txN (r ++ [d]) ++ P ∧ txN l2 = rp s m P ∧ lf s m P.reverse = k) := ⟨hT, hK, hlf⟩
        have HLn : Hid (r.length + 1 = gk) := by show _ = _; rw [← hlen]; simp
        have hg0 : gk ≠ 0 := by have := HLn.out; omega
        have HCt : Hid ((txN (r ++ d :: l2)).length ≤ 1000000) := by
          have h1 := rp_len s P m
          have h2 := HC.out
          show _ ≤ _
          rw [hT, List.length_append] at h2
          rw [← es, txN_append, List.length_append, hK]
          omega
        have HKl := kp_len s d.ls.reverse k
        have HKf : Hid ((rp s k d.ls).length = d.ls.length → rp s k d.ls = d.ls) := fun he => by
          unfold rp at he ⊢
          rw [List.length_reverse] at he
          rw [kp_same s d.ls.reverse k (by rw [List.length_reverse]; exact he), List.reverse_reverse]
        rw [List.length_reverse] at HKl
        clear hL hGo hO hT hK hlf hlen HR
        go_wp2_with fail
        refine HAl.mono ?_
        rintro e w1 ⟨hb, a1, n1, c1, rfl, hO1⟩
        have hn1 := hO1.len
        rw [List.length_reverse] at hn1
        have HWi := without_any wr.heap.size a1 n1 c1 d.ls.reverse k s w1 hO1 hk6 (by omega)
        have HO1 : Hid (OwnS w1 wr.heap.size a1 n1 c1 d.ls.reverse) := hO1
        have HB1 : Hid (Below wr.heap.size wr w1) := hb
        clear hb hO1 HAl
        go_wp2_with fail
        refine HWi.mono ?_
        rintro e w2 ⟨a2, n2, c2, rfl, hO2, hS2⟩
        have HB2 : Hid (Below wr.heap.size wr w2) := HB1.out.trans (Cut9.below HO1.out HB1.out.size hS2)
        have hn2 := hO2.len
        have HRv := Reverse_any wr.heap.size a2 n2 c2 (kp s k d.ls.reverse) w2 hO2 (by omega)
        have HO2 : Hid (OwnS w2 wr.heap.size a2 n2 c2 (kp s k d.ls.reverse)) := hO2
        clear hO2 hS2 HWi
        go_wp2_with fail
        refine HRv.mono ?_
        rintro e w5 ⟨rfl, hO5, hS5⟩
        have HB5 : Hid (Below wr.heap.size wr w5) := HB2.out.trans (Cut9.below HO2.out HB2.out.size hS5)
        have hL5 := HL.out.keep HB5.out
        have hRl : (rp s k d.ls).length = (kp s k d.ls.reverse).length := by unfold rp; rw [List.length_reverse]
        have HKe := keep_any B l R most _ r l2 d a2 n2 c2 (rp s k d.ls) w5 hL5 HO.out (OwnS.rdf HL.out hO5) (by rw [hRl]; exact HKl.1) HKf.out (fun t ht => hdN.fit t (by
          unfold rp at ht
          have := kp_mem s d.ls.reverse k t (List.mem_reverse.1 ht)
          exact List.mem_reverse.1 this)) (by
          unfold rp
          rw [pack_rev]
          refine Nat.le_trans (pack_kp s d.ls.reverse k) ?_
          rw [pack_rev, hdN.pk.len]; exact hdN.siz) (by rw [txN_append, txN_cons, List.length_append, List.length_append]; omega) HCt.out
        rw [hRl] at HKe
        obtain ⟨g9, hg9⟩ : ∃ g9, d.ls.length - (kp s k d.ls.reverse).length = g9 := ⟨_, rfl⟩
        rw [hg9] at HKe
        obtain ⟨k2, hk2⟩ : ∃ k2, lf s k d.ls.reverse = k2 := ⟨_, rfl⟩
        have hki : (k : Int) - (g9 : Int) = k2 := by omega
        have hk26 : k2 ≤ 1000000 := by omega
        have HK2 : Hid (lf s k d.ls.reverse = k2) := hk2
        have HG9 : Hid ((rp s k d.ls).length = (kp s k d.ls.reverse).length ∧ (kp s k d.ls.reverse).length ≤ d.ls.length) := ⟨hRl, HKl.1⟩
        clear hO5 hS5 hL5 HRv HKl hn1 hn2 hg9 hk2 hdN hRl
        go_wp2_with fail
        refine HKe.mono ?_
        rintro e w3 ⟨rfl, X, h1, h2, h3, h4, h5, h6⟩
        obtain ⟨v2, hv2⟩ : ∃ v2, laA R r = v2 := ⟨_, rfl⟩
        rw [hv2] at h5
        have HR3 : Hid (∃ l1 l2 P, Lst w3 B l R most (txN (l1 ++ l2)).length (l1 ++ l2) ∧ Goes w w3 l R ns (l1 ++ l2) ∧ Ok most (l1 ++ l2) ∧ txN ns = txN l1 ++ P ∧ txN l2 = rp s m P ∧ lf s m P.reverse = k2 ∧ laA R l1 = v2 ∧ l1.length = gk - 1) := by
          obtain ⟨t1, t2, t3⟩ := HT.out
          refine ⟨r, X ++ l2, d.ls ++ P, ?_, ?_, ?_, ?_, ?_, ?_, hv2, ?_⟩
          · have : (txN (r ++ d :: l2)).length - (d.ls.length - (rp s k d.ls).length) = (txN (r ++ (X ++ l2))).length := by
              have h8 := HG9.out
              rw [txN_append, txN_cons, txN_append, txN_append, h4]
              simp only [List.length_append]
              omega
            rw [this] at h1
            exact h1
          · exact (HGo.out.trans (Goes.of_below HB5.out _ _ _)).trans h2
          · exact h3
          · rw [t1, txN_append, txN_cons, txN_nil]; simp
          · rw [txN_append, h4, t2, rp_append, t3]
          · rw [List.reverse_append, lf_append, t3]; exact HK2.out
          · have := HLn.out; omega
        have hce := h5
        clear h1 h2 h3 h4 h5 h6 HKe hv2
        go_wp2
        go_roundg (gk - 1)
        case measure => omega
        case rel => exact ⟨k2, v2, by go_num, rfl, hk26, HR3⟩
end Go.Proofs.Ytemiajjjhhofaac
