/-
  The law's made: a set of calls, and its model.
-/
import Derived.Test.YtkohjejfkbaffaaGreatG18
namespace Go.Proofs.YtkohjejfkbaffaaGreat
open Go.RowKit Go.PlainAid
open Dk (En Stay hasK putE delE keysOf Dct Dg dtag Turn)

/-- A slice that reads n calls. -/
structure RdK (w : World) (a : Option Addr) (n : Nat) : Prop where
  max : n ≤ maxLen
  elem : ∀ j, j < n → ∃ b off, a = some ⟨b, off, none⟩ ∧ ∃ (kind N : Int) (F : ByteArray),
    w.cell? ⟨b, off + j * 3, none⟩ = some (.int .i64 kind) ∧ w.cell? ⟨b, off + j * 3 + 1, none⟩ = some (.int .i64 N) ∧ w.cell? ⟨b, off + j * 3 + 2, none⟩ = some (.string F)
theorem RdK.keep {w wn : World} {a : Option Addr} {n : Nat} (h : RdK w a n) (hb : Below w.heap.size w wn) : RdK wn a n :=
  ⟨h.max, fun j hj => by
    obtain ⟨b, off, e, kind, N, F, h1, h2, h3⟩ := h.elem j hj
    have hk : ∀ {o : Nat} {v : Value}, w.cell? ⟨b, o, none⟩ = some v → wn.cell? ⟨b, o, none⟩ = some v := fun hc => by rw [hb.cell (p := ⟨b, _, none⟩) (World.block_lt_of_cell? _ _ hc)]; exact hc
    exact ⟨b, off, e, kind, N, F, hk h1, hk h2, hk h3⟩⟩
/-- A set, and a model that is made beside it. -/
theorem Pm.made {w : World} {B m x E T : Nat} {F : List Nat} (h : Ss w B m x E T [] true F) : Pm (w.alloc (.cells #[.slice none 0 0, .bool true, .int .i64 (E : Nat), .int .i64 (T : Nat)] 49)) B m x E T w.heap.size [] F (mfp w.heap.size none) := by
  have hb := alloc_below w (.cells #[.slice none 0 0, .bool true, .int .i64 (E : Nat), .int .i64 (T : Nat)] 49)
  exact ⟨true, none, 0, 0, h.keep hb, ⟨heap_alloc_new w _, Dk.OwnR.nil _ _ _ _, h.2.1⟩, rfl⟩
/-- What made leaves. -/
def Made (w w' : World) (x E T : Nat) (e : Ending) : Prop := Below w.heap.size w w' ∧ ∃ m q l F M, e = .returned (.tuple #[ptr m, ptr q, .bool true]) ∧ Pm w' w.heap.size m x E T q l F M ∧ l.length ≤ 1600 ∧ Szs 80 l

set_option maxRecDepth 100000 in
set_option maxHeartbeats 4000000 in
theorem made_any (x E T : Nat) (a : Option Addr) (n cap : Nat) (w : World) (hx : x < 18446744073709551616) (hE : E ≤ 512) (hT : T ≤ 60) (ha : RdK w a n) :
    Calls Tryz.prog 9 #[.int .u64 x, .int .i64 (E : Nat), .int .i64 (T : Nat), .slice a n cap] w fun e w' => Made w w' x E T e := by
  have HK : Hid (RdK w a n) := ha
  have hmx := ha.max
  unfold maxLen at hmx
  have HN := NewS x E T w hx
  rw [lim_self E 512 hE, lim_self T 60 hT] at HN
  clear ha
  go_enter Tryz.func9, Tryz.ntmps9
  go_wp2_with fail
  refine HN.mono ?_
  rintro e w1 ⟨hb, m, F, rfl, hH⟩
  have HB1 : Hid (Below w.heap.size w w1) := hb
  have HPm : Hid (Pm (w1.alloc (.cells #[.slice none 0 0, .bool true, .int .i64 (E : Nat), .int .i64 (T : Nat)] 49)) w.heap.size m x E T w1.heap.size [] F (mfp w1.heap.size none)) := Pm.made hH
  have HB3 : Hid (Below w.heap.size w (w1.alloc (.cells #[.slice none 0 0, .bool true, .int .i64 (E : Nat), .int .i64 (T : Nat)] 49))) := HB1.out.trans ((alloc_below w1 _).mono HB1.out.size)
  obtain ⟨q, hq⟩ : ∃ q, w1.heap.size = q := ⟨_, rfl⟩
  rw [hq] at HPm
  generalize mfp q none = M0 at HPm
  clear hb hH HN
  go_wp2
  go_loopg [13] 40 (fun g iv wr => ∃ (i : Nat) (l : List ByteArray) (F1 M1 : List Nat), i + g = 40 ∧ iv = .int .i64 i ∧ l.length ≤ 40 * i ∧ Hid (Szs 80 l) ∧ Hid (Pm wr w.heap.size m x E T q l F1 M1) ∧ Hid (Below w.heap.size w wr))
  case atStart => exact ⟨0, [], F, M0, by omega, rfl, Nat.le_refl _, (fun _ h => absurd h List.not_mem_nil : Szs 80 []), HPm, HB3⟩
  case round =>
    obtain ⟨i, l, F1, M1, hi, rfl, hes, HSz, HP, HB⟩ := hrel
    have hi40 : i ≤ 40 := by omega
    by_cases h8 : (i : Int) < n
    · by_cases h9 : (i : Int) < 40
      · obtain ⟨b, off, rfl, kind, N, Fs, c1, c2, c3⟩ := (HK.out.keep HB.out).elem i (by omega)
        have HD := do_any w.heap.size m x E T q l F1 M1 kind N Fs wr HP.out (by omega)
        have hln := stq_len kind N Fs l
        have HSz2 : Hid (Szs 80 (stq kind N Fs l)) := stq_sz kind N Fs HSz.out
        generalize stq kind N Fs l = l' at HD hln HSz2
        obtain ⟨d0, hd0, hd1⟩ := u64_some ((i : Int) * 11400714819323198485)
        go_wp2_with fail
        refine HD.mono ?_
        rintro e w3 ⟨rfl, hto⟩
        have HB4 : Hid (Below w.heap.size w w3) := HB.out.trans (hto.below HP.out)
        obtain ⟨F2, M2, hP2, -, -, -⟩ := hto
        have HP2 : Hid (Pm w3 w.heap.size m x E T q l' F2 M2) := hP2
        have HTl := tells_any w.heap.size m x E T q l' F2 M2 d0 w3 hP2 (by omega) hd1
        clear hP2 HD
        go_wp2_with fail
        refine HTl.mono ?_
        rintro e w4 ⟨rfl, hb⟩
        have HB5 := step_below HB4 hb
        have HP5 : Hid (Pm w4 w.heap.size m x E T q l' F2 M2) := HP2.out.keep hb
        clear hb
        go_wp2
        go_roundg (gk - 1)
        case measure => omega
        case rel => exact ⟨i + 1, l', F2, M2, by omega, by go_num, by omega, HSz2, HP5, HB5⟩
      · go_wp2
        go_ret3
        exact ⟨HB.out, m, q, l, F1, M1, rfl, HP.out, by omega, HSz.out⟩
    · go_wp2
      go_ret3
      exact ⟨HB.out, m, q, l, F1, M1, rfl, HP.out, by omega, HSz.out⟩
end Go.Proofs.YtkohjejfkbaffaaGreat
