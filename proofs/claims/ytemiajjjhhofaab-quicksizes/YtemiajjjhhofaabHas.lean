/-
  hasRoom: does a node take a text as well?
-/
import Derived.Test.YtemiajjjhhofaabLnk
import Derived.Lib.Builder
namespace Go.Proofs.Ytemiajjjhhofaab
open Go.RowKit Go.PlainAid

theorem Try.infoN : (Try.prog.info? 71).map (fun i => i.size) = some 3 := by kernel_rfl
theorem infoN_ex : ∃ j, Try.prog.info? 71 = some j ∧ j.size ≠ 0 := by
  have h := Try.infoN
  cases hj : Try.prog.info? 71 with
  | none => rw [hj] at h; cases h
  | some j =>
    rw [hj] at h
    refine ⟨j, rfl, ?_⟩
    have : j.size = 3 := Option.some.inj h
    omega
theorem eql_same (w : World) (k : Nat) : (binOp .eql 69 (ptr k) (ptr k)).run Try.prog w = .ok (.bool true) w := by
  obtain ⟨j, hj, -⟩ := infoN_ex
  exact run_eql_ptr_same w ⟨k, 0, none⟩ Try.underlying69 hj
theorem neq_same (w : World) (k : Nat) : (binOp .neq 69 (ptr k) (ptr k)).run Try.prog w = .ok (.bool false) w := by
  obtain ⟨j, hj, -⟩ := infoN_ex
  exact Lib.run_neq_ptr_same w ⟨k, 0, none⟩ Try.underlying69 hj
theorem eql_other {w : World} {k q : Nat} {ca cb : Array Value} {ta tb : TypeId} (h : k ≠ q) (ha : w.heap[k]? = some (.cells ca ta (0, 0))) (hb : w.heap[q]? = some (.cells cb tb (0, 0))) : (binOp .eql 69 (ptr k) (ptr q)).run Try.prog w = .ok (.bool false) w := by
  obtain ⟨j, hj, hs⟩ := infoN_ex
  exact run_eql_ptr_other w Try.underlying69 hj hs (by intro e; injection e with e1; exact h e1) ha hb
theorem neq_other {w : World} {k q : Nat} {ca cb : Array Value} {ta tb : TypeId} (h : k ≠ q) (ha : w.heap[k]? = some (.cells ca ta (0, 0))) (hb : w.heap[q]? = some (.cells cb tb (0, 0))) : (binOp .neq 69 (ptr k) (ptr q)).run Try.prog w = .ok (.bool true) w := by
  obtain ⟨j, hj, hs⟩ := infoN_ex
  have hne : (⟨k, 0, none⟩ : Addr) ≠ ⟨q, 0, none⟩ := by intro e; injection e with e1; exact h e1
  have hh : ∀ d : Nat, (Op.equalIn (d + 1) 69 (ptr k) (ptr q)).run Try.prog w = .ok false w := fun d => by
    simp [Op.equalIn, run_underlying Try.underlying69, sizeOf, typeInfo, hj, hs, run_sameAddr_other w hne ha hb]
  simp only [binOp]
  simp [Op.equal, Op.maxDepth, hh 9999]
/-- Two unlike nodes of a ring are told apart. -/
theorem Lst.neq {w : World} {B l R most cnt : Nat} {ns : List Nd} (h : Lst w B l R most cnt ns) {k q : Nat} (hk : k ∈ R :: adr ns) (hq : q ∈ R :: adr ns) (hne : k ≠ q) : (binOp .eql 69 (ptr k) (ptr q)).run Try.prog w = .ok (.bool false) w ∧ (binOp .neq 69 (ptr k) (ptr q)).run Try.prog w = .ok (.bool true) w := by
  obtain ⟨P, x, y, e1⟩ := h.nb hk
  obtain ⟨P', x', y', e2⟩ := h.nb hq
  exact ⟨eql_other hne e1 e2, neq_other hne e1 e2⟩
theorem Lst.neqR {w : World} {B l R most cnt : Nat} {ns : List Nd} (h : Lst w B l R most cnt ns) {d : Nd} (hd : d ∈ ns) : (binOp .eql 69 (ptr d.a) (ptr R)).run Try.prog w = .ok (.bool false) w ∧ (binOp .neq 69 (ptr d.a) (ptr R)).run Try.prog w = .ok (.bool true) w :=
  h.neq (List.mem_cons_of_mem _ (List.mem_map_of_mem hd)) (by simp) (h.ne_ring hd)

theorem Size_any (s : ByteArray) (w : World) (hs : s.size ≤ 4096) : Calls Try.prog 95 #[.string s] w fun e w' => Below w.heap.size w w' ∧ e = .returned (.int .i64 ((enc (lst s)).length : Nat)) := by
  have HE := fun w => Encode_any s w hs
  go_enter Try.func95, Try.ntmps95
  go_wp2_with fail
  refine (HE _).mono ?_
  rintro e w1 ⟨hb, a, m, c, rfl, hO⟩
  have HM : Hid ((enc (lst s)).length = m) := hO.len
  clear hO
  go_wp2
  go_ret
  exact ⟨hb, by rw [HM.out]; rfl⟩

set_option maxRecDepth 100000 in
theorem hasRoom_ring (B l R most cnt : Nat) (ns : List Nd) (s : ByteArray) (w : World) (h : Lst w B l R most cnt ns) :
    Calls Try.prog 77 #[ptr l, ptr R, .string s] w fun e w' => Below w.heap.size w w' ∧ e = .returned (.bool false) := by
  have hc1 := fun x : Ext w => (h.keep x.ok).cring
  have hex : Nonempty (Ext w) := ⟨⟨w, Below.refl _ _⟩⟩
  have hq := fun x : Ext w => neq_same x.wx R
  clear h
  go_enter Try.func77, Try.ntmps77
  go_wp2_with fail
  refine wp_region_ext (by kernel_rfl) (by kernel_rfl) ?_
  repeat (go_big_quiet_step (fail))
  refine wpQuiet_nil ?_
  intro wz hz
  obtain ⟨x, rfl⟩ := hz
  have HB : Hid (Below w.heap.size w x.wx) := x.ok
  go_wp2
  go_ret
  exact ⟨HB.out, rfl⟩

theorem enc_le (s : ByteArray) (h : s.size ≤ 4096) : 2 ≤ (enc (lst s)).length ∧ (enc (lst s)).length ≤ 5000 := by
  have h1 := (enc_len (lst s)).1
  have h2 := (enc_len (lst s)).2
  rw [len_lst] at h2
  omega
theorem Calls.ext_same {P : Program} {f : FuncId} {args : Array Value} {w : World} {x : Ext w} {v : Value}
    (h : Calls P f args x.wx fun e w' => e = .returned v ∧ w' = x.wx) : Calls P f args x.wx fun e w'' => e = .returned v ∧ ∃ y : Ext w, w'' = y.wx :=
  h.mono fun _ _ ⟨he, hm⟩ => ⟨he, x, hm⟩

set_option maxRecDepth 100000 in
set_option maxHeartbeats 4000000 in
theorem hasRoom_no (B l R most cnt : Nat) (ns : List Nd) (d : Nd) (s : ByteArray) (w : World) (h : Lst w B l R most cnt ns) (hd : d ∈ ns) (hm : ¬ d.ls.length < most) :
    Calls Try.prog 77 #[ptr l, ptr d.a, .string s] w fun e w' => Below w.heap.size w w' ∧ e = .returned (.bool false) := by
  have HLen := fun x : Ext w => Len_any B d.p d.r d.n d.c d.ls x.wx ((h.nod d hd).pk.keep x.ok)
  have hc1 := fun x : Ext w => (h.keep x.ok).cring
  have hcm1 := fun x : Ext w => (h.keep x.ok).cmost
  have hcp1 := fun x : Ext w => (h.keep x.ok).cpk hd
  have hq := fun x : Ext w => ((h.keep x.ok).neqR hd).2
  have hex : Nonempty (Ext w) := ⟨⟨w, Below.refl _ _⟩⟩
  obtain ⟨k, hk⟩ : ∃ k, d.ls.length = k := ⟨_, rfl⟩
  rw [hk] at hm
  simp only [hk] at HLen
  have hm1 : decide ((k : Int) < (most : Int)) = false := decide_eq_false (by omega)
  clear h hk hd
  go_enter Try.func77, Try.ntmps77
  go_wp2_with fail
  refine wp_region_ext (by kernel_rfl) (by kernel_rfl) ?_
  repeat (go_big_quiet_step (first | (go_at_call 34; exact Calls.ext_same (HLen _))))
  refine wpQuiet_nil ?_
  intro wz hz
  obtain ⟨x, rfl⟩ := hz
  have HB : Hid (Below w.heap.size w x.wx) := x.ok
  go_wp2
  go_ret
  exact ⟨HB.out, rfl⟩

set_option maxRecDepth 100000 in
set_option maxHeartbeats 4000000 in
theorem hasRoom_yes (B l R most cnt : Nat) (ns : List Nd) (d : Nd) (s : ByteArray) (w : World) (h : Lst w B l R most cnt ns) (hd : d ∈ ns) (hm : d.ls.length < most) (hs : s.size ≤ 4096) :
    Calls Try.prog 77 #[ptr l, ptr d.a, .string s] w fun e w' => Below w.heap.size w w' ∧ e = .returned (.bool (decide (d.n + (enc (lst s)).length ≤ 65536))) := by
  have HLen := fun x : Ext w => Len_any B d.p d.r d.n d.c d.ls x.wx ((h.nod d hd).pk.keep x.ok)
  have HSz := fun x : Ext w => Size_pk B d.p d.r d.n d.c d.ls x.wx ((h.nod d hd).pk.keep x.ok)
  have HEn := fun x : Ext w => Size_any s x.wx hs
  have hc1 := fun x : Ext w => (h.keep x.ok).cring
  have hcm1 := fun x : Ext w => (h.keep x.ok).cmost
  have hcp1 := fun x : Ext w => (h.keep x.ok).cpk hd
  have hq := fun x : Ext w => ((h.keep x.ok).neqR hd).2
  have hex : Nonempty (Ext w) := ⟨⟨w, Below.refl _ _⟩⟩
  have hen := (enc_le s hs).2
  have hn := (h.nod d hd).siz
  obtain ⟨k, hk⟩ : ∃ k, d.ls.length = k := ⟨_, rfl⟩
  obtain ⟨z, hz⟩ : ∃ z, (enc (lst s)).length = z := ⟨_, rfl⟩
  obtain ⟨n, hnn⟩ : ∃ n, d.n = n := ⟨_, rfl⟩
  rw [hk] at hm
  rw [hz] at hen ⊢
  rw [hnn] at hn ⊢
  simp only [hk] at HLen
  simp only [hnn] at HSz
  simp only [hz] at HEn
  have hm1 : decide ((k : Int) < (most : Int)) = true := decide_eq_true (by omega)
  have hm2 : (k : Int) < (most : Int) := by omega
  have hdc : decide ((n : Int) + (z : Int) ≤ 65536) = decide (n + z ≤ 65536) := by
    rw [Bool.eq_iff_iff, decide_eq_true_eq, decide_eq_true_eq]; omega
  clear h hk hd hz hnn hs
  go_enter Try.func77, Try.ntmps77
  go_wp2_with fail
  refine wp_region_ext (by kernel_rfl) (by kernel_rfl) ?_
  repeat (go_big_quiet_step (first | (go_at_call 34; exact Calls.ext_same (HLen _)) | (go_at_call 35; exact Calls.ext_same (HSz _)) | (go_at_call 95; exact Calls.ext_of (HEn _))))
  refine wpQuiet_nil ?_
  intro wz hz
  obtain ⟨x, rfl⟩ := hz
  have HB : Hid (Below w.heap.size w x.wx) := x.ok
  go_wp2
  go_ret
  exact ⟨HB.out, by rw [← hdc]; rfl⟩
end Go.Proofs.Ytemiajjjhhofaab
