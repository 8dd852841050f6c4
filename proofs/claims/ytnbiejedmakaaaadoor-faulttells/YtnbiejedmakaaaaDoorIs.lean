/-
  errors.Is over chains of faults round a code, the target a code; the law FaultIs, walked.
-/
import Derived.Test.YtnbiejedmakaaaaDoorKnown
namespace Go.Proofs.YtnbiejedmakaaaaDoor
open Go.RowKit Go.Extern.Stop Go.Stop Go.Extern

theorem Tryd.comp22 : (Tryd.prog.info? 22).map (·.comparable) = some true := by kernel_rfl
theorem Tryd.call73 (w : World) : (callFunc 73 #[.agg #[.pointer (some ⟨1, 22, none⟩)]]).run Tryd.prog w = .ok (.value (.bool true)) w := by kernel_rfl

/-- Two codes in interfaces are alike as the numbers are. -/
theorem eql22 (a b : Int) (w : World) : (binOp .eql 26 (codeV a) (codeV b)).run Tryd.prog w = .ok (.bool (a == b)) w := by
  obtain ⟨i, hi, hcmp⟩ := Option.map_eq_some_iff.1 Tryd.comp22
  have h : ∀ d : Nat, (Op.equalIn (d + 2) 26 (codeV a) (codeV b)).run Tryd.prog w = .ok (a == b) w := fun d => by
    simp [Op.equalIn, run_underlying Tryd.underlying26, run_underlying Tryd.underlying22, typeInfo, hi, hcmp]
  simp only [binOp]
  simp [Op.equal, Op.maxDepth, h 9998]

theorem eql36 (v : Value) (b : Int) (w : World) : (binOp .eql 26 (.iface 36 v) (codeV b)).run Tryd.prog w = .ok (.bool false) w :=
  run_eql_iface_types (P := Tryd.prog) 36 22 v (.int .i64 b) Tryd.underlying26 (by decide) w

set_option maxHeartbeats 1000000 in
set_option maxRecDepth 100000 in
theorem is37 (E : Value) (c d : Int) (n : Nat) (w : World) (hch : Chain w (codeV c) E n) :
    Calls Tryd.prog 37 #[E, codeV d, .bool true] w fun e w' => e = .returned (.bool (c == d)) ∧ w' = w := by
  have e22 := eql22
  have e36 := eql36
  have nI36 := Tryd.noIs36
  have nI22 := Tryd.noIs22
  have hU := Tryd.hasUnwrap36
  have nU := Tryd.noUnwrap22
  have nUs := Tryd.noUnwraps22
  have mU := Tryd.methodUnwrap
  go_enter Tryd.func37, Tryd.ntmps37
  go_wp2
  go_loopg [0] n (fun k E' wr => w = wr ∧ Chain w (codeV c) E' k)
  case atStart => exact ⟨rfl, hch⟩
  case round =>
    obtain ⟨rfl, hc'⟩ := hrel
    rcases hc'.parts with ⟨rfl, rfl⟩ | ⟨b, s, E1, k, rfl, rfl, h1, h2, h3⟩
    · clear hc' hch
      by_cases hcd : c = d
      · have hq : (c == d) = true := by simp [hcd]
        clear hcd
        go_wp2
        go_ret
        exact ⟨by rw [hq]; rfl, rfl⟩
      · have hq : (c == d) = false := by simp [hcd]
        go_wp2
        go_ret
        exact ⟨by rw [hq]; rfl, rfl⟩
    · clear hc' hch
      obtain ⟨u1, v1, rfl⟩ := h3.iface ⟨_, _, rfl⟩
      have HC : Hid (Chain w (codeV c) (.iface u1 v1) k) := h3
      clear h3
      go_wp2
      go_roundg k
      case measure => omega
      case rel => exact ⟨rfl, HC.out⟩

set_option maxHeartbeats 1000000 in
theorem Is_code (E : Value) (c d : Int) (n : Nat) (w : World) (hch : Chain w (codeV c) E n) :
    Calls Tryd.prog 21 #[E, codeV d] w fun e w' => e = .returned (.bool (c == d)) ∧ w' = w := by
  have h36 := @run_callFunc_extern Tryd.prog 36 _ ReflectliteType.typeOf Tryd.func36 (by kernel_rfl) (by kernel_rfl) (by kernel_rfl) (by kernel_rfl)
  have h73 := Tryd.call73
  have t22 := Tryd.typeOf22
  have mC := Tryd.methodComparable
  obtain ⟨u, v, rfl⟩ := hch.iface ⟨_, _, rfl⟩
  have HC : Hid (Chain w (codeV c) (.iface u v) n) := hch
  clear hch
  go_enter Tryd.func21, Tryd.ntmps21
  go_wp2_with (go_at_call 37; refine (is37 _ c d n _ HC.out).mono ?_; rintro e w' ⟨rfl, rfl⟩)
  go_ret
  exact ⟨rfl, rfl⟩

set_option maxHeartbeats 1000000 in
theorem is_ok (d : Int) (a : Option Addr) (len cap : Nat) (w : World) (hg : Laid w) (hs : Strs w a len) :
    Calls Tryd.prog 7 #[.int .i64 0, .int .i64 d, .slice a len cap] w fun e w' => e = .returned (.bool true) ∧ Below w.heap.size w w' := by
  have HS : Hid (Strs w a len) := hs
  have HG : Hid (Laid w) := hg
  clear hs hg
  go_enter Tryd.func7, Tryd.ntmps7
  go_wp2_with (first
    | (go_at_call 18; refine (chain_ok a len cap _ HS.out).mono ?_; rintro e w ⟨rfl, rfl⟩)
    | (go_at_call 17; refine (known_any _ HG.out).mono ?_; rintro e w2 ⟨rfl, hb2⟩))
  go_ret
  exact ⟨rfl, hb2⟩

set_option maxHeartbeats 1000000 in
theorem is_err (c d : Int) (a : Option Addr) (len cap : Nat) (w : World) (hg : Laid w) (hc : ¬ c = 0) (hs : Strs w a len) :
    Calls Tryd.prog 7 #[.int .i64 c, .int .i64 d, .slice a len cap] w fun e w' => e = .returned (.bool true) ∧ Below w.heap.size w w' := by
  have HS : Hid (Strs w a len) := hs
  have HG : Hid (Laid w) := hg
  have hpos := lt_of_cell? hg
  clear hs hg
  have hc0 : (c == 0) = false := by simp [hc]
  have hcc : (c == c) = true := by simp
  go_enter Tryd.func7, Tryd.ntmps7
  go_wp2_with fail
  refine (chain_err c a len cap _ HG.out hc HS.out).mono ?_
  rintro e w1 ⟨b, s, rfl, hb1, hch1, -, -⟩
  have HB1 : Hid (Below w.heap.size w w1) := hb1
  generalize min len 10 + 1 = n at hch1
  have HC1 : Hid (Chain w1 (codeV c) (.iface 36 (.pointer (some ⟨b, 0, none⟩))) n) := hch1
  clear hb1 hch1
  go_wp2_with fail
  refine (Is_code _ c c n _ HC1.out).mono ?_
  rintro e w2 ⟨rfl, rfl⟩
  go_wp2_with fail
  refine (Is_code _ c d n _ HC1.out).mono ?_
  rintro e w3 ⟨rfl, rfl⟩
  go_wp2_with fail
  refine (known_any _ (HG.out.keep HB1.out hpos)).mono ?_
  rintro e w4 ⟨rfl, hb4⟩
  go_wp2
  go_ret
  exact ⟨rfl, HB1.out.trans (hb4.mono HB1.out.size)⟩
end Go.Proofs.YtnbiejedmakaaaaDoor
