/-
  Some of chapter 12's runs; what goes in at one end comes out at the other; what is left of a trim.
-/
import Derived.Test.YtemiajjjhhofaacQabs
namespace Go.Proofs.Ytemiajjjhhofaac
open Go.RowKit Go.PlainAid

def tA : ByteArray := ⟨#[97]⟩
def tB : ByteArray := ⟨#[98]⟩
theorem fit_ab : Fit [tA, tB] := by
  intro s hs
  rcases List.mem_cons.1 hs with rfl | hs
  · decide
  · rw [List.mem_singleton.1 hs]; decide
theorem notnil (w : World) (l : Nat) : (binOp .eql 25 (ptr l) (.pointer none)).run Try.prog w = .ok (.bool false) w := by
  rw [run_eql_pointer_nil w 25 (some ⟨l, 0, none⟩) (by rw [Try.underlying25]; kernel_rfl)]; rfl

set_option maxRecDepth 100000 in
set_option maxHeartbeats 400000 in
theorem knownQ_any (w : World) : Calls Try.prog 14 #[] w fun e w' => Below w.heap.size w w' ∧ e = .returned (.bool true) := by
  have HN := QNew 2 w 2 (by decide) (by decide)
  go_enter Try.func14, Try.ntmps14
  go_wp2_with fail
  refine HN.mono ?_
  rintro e w1 ⟨hb, l, F, rfl, hQ⟩
  have HB : Hid (Below w.heap.size w w1) := hb
  have hA := alloc_below w1 (.cells #[.string ⟨#[97]⟩, .string ⟨#[98]⟩] 9)
  have hO := OwnS.made w1 [tA, tB] w1.heap.size 2 rfl (Nat.le_refl _) (by decide) #[.string ⟨#[97]⟩, .string ⟨#[98]⟩] rfl
  have hQ1 := hQ.keep hA
  have HLf := QLeft _ w.heap.size l 2 [] F hQ1 (some ⟨w1.heap.size, 0, none⟩) 2 2 [tA, tB] (hQ1.rdf hO) fit_ab (by decide)
  have HQ1 : Hid (QL (w1.alloc (.cells #[.string ⟨#[97]⟩, .string ⟨#[98]⟩] 9)) w.heap.size l 2 [] F) := hQ1
  have HB1 : Hid (Below w.heap.size w (w1.alloc (.cells #[.string ⟨#[97]⟩, .string ⟨#[98]⟩] 9))) := HB.out.trans (hA.mono HB.out.size)
  have hnn := notnil w1 l
  clear hb hQ hA hO hQ1 HN
  go_wp2_with fail
  refine HLf.mono ?_
  rintro e w2 ⟨rfl, F2, hQ2, hL2⟩
  have HB2 : Hid (Below w.heap.size w w2) := HB1.out.trans (QDoes.below HQ1.out hL2)
  have HAl := QAll w2 w.heap.size l 2 _ F2 hQ2 (by decide)
  rw [show [tA, tB].reverse ++ [] = [tB, tA] from rfl] at HAl hQ2
  have HQ2 : Hid (QL w2 w.heap.size l 2 [tB, tA] F2) := hQ2
  clear hQ2 hL2 HLf
  go_wp2_with fail
  refine HAl.mono ?_
  rintro e w3 ⟨hb, a3, n3, c3, rfl, hO3⟩
  have HB3 := step_below HB2 hb
  have hA3 := alloc_below w3 (.cells #[.string ⟨#[98]⟩, .string ⟨#[97]⟩] 9)
  have hO4 := OwnS.made w3 [tB, tA] w3.heap.size 2 rfl (Nat.le_refl _) (by decide) #[.string ⟨#[98]⟩, .string ⟨#[97]⟩] rfl
  have HLs := Lists_of _ a3 (some ⟨w3.heap.size, 0, none⟩) n3 c3 2 2 [tB, tA] (hO3.keep hA3).rd hO4.rd
  have HQ4 : Hid (QL (w3.alloc (.cells #[.string ⟨#[98]⟩, .string ⟨#[97]⟩] 9)) w.heap.size l 2 [tB, tA] F2) := (HQ2.out.keep hb).keep hA3
  have HB4 : Hid (Below w.heap.size w (w3.alloc (.cells #[.string ⟨#[98]⟩, .string ⟨#[97]⟩] 9))) := HB3.out.trans (hA3.mono HB3.out.size)
  clear hb hO3 hA3 hO4 HAl
  go_wp2_with fail
  refine HLs.mono ?_
  rintro e w5 ⟨hb, rfl⟩
  have HB5 := step_below HB4 hb
  have HLe := QLen w5 w.heap.size l 2 [tB, tA] F2 (HQ4.out.keep hb)
  rw [show ([tB, tA] : List ByteArray).length = 2 from rfl] at HLe
  clear hb HLs
  go_wp2_with fail
  refine HLe.mono ?_
  rintro e w5 ⟨rfl, rfl⟩
  go_wp2
  go_ret
  exact ⟨HB5.out, rfl⟩

theorem short_fit {l : List ByteArray} {k : Nat} {m : Int} (h : Short l k m) (hm : m ≤ 4096) : Fit l := fun s hs => by have := h.2 s hs; omega

theorem spn_all (ts : List ByteArray) : spn ts 0 (-1) = ts := by
  unfold spn
  rw [(sp_all ts.length).1, (sp_all ts.length).2, List.take_length, List.drop_zero]
theorem spn_len (ts : List ByteArray) (a b : Int) : (spn ts a b).length ≤ ts.length := by
  unfold spn
  rw [List.length_drop, List.length_take]; omega

end Go.Proofs.Ytemiajjjhhofaac
