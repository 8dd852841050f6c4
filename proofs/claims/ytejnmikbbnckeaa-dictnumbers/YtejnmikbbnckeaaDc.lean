/-
  A dict in memory; Depth, Len, leafOf, Get.
-/
import Derived.Test.YtejnmikbbnckeaaLf4
namespace Go.Proofs.Ytejnmikbbnckeaa
open Go.RowKit Go.PlainAid

/-- What is in a dict: its depth; where its row of places lies, and whither they lead; its leaves. -/
structure Dg where
  g : Nat
  pb : Nat
  cap : Nat
  pl : List Nat
  L : List Lf
def shL (L : List Lf) : List Pt := L.map Lf.pt
def esL (L : List Lf) : List En := L.flatMap Lf.es
def fpL (L : List Lf) : List Nat := L.flatMap Lf.fp
def Dg.sh (D : Dg) : List Pt := shL D.L
def Dg.es (D : Dg) : List En := esL D.L

/-- A dict in memory. -/
structure Dct (w : World) (B d x : Nat) (D : Dg) : Prop where
  blk : w.heap[d]? = some (.cells #[.int .u64 (x : Nat), .int .i64 (D.es.length : Nat), .slice (some ⟨D.pb, 0, none⟩) (2 ^ D.g) D.cap] 63 (0, 0))
  row : OwnP w B 57 (some ⟨D.pb, 0, none⟩) (2 ^ D.g) D.cap D.pl
  leaf : ∀ f ∈ D.L, Leaf w B x f
  shp : Shp D.g D.sh
  dir : ∀ f ∈ D.L, ∀ i, i < 2 ^ D.g → isIn f.pt i = true → D.pl[i]? = some f.a
  own : ∀ f ∈ D.L, ∀ e ∈ f.es, isIn f.pt (hsh x e.1) = true
  one : ∀ f ∈ D.L, f.l < 16 → f.ts.length = 1
  ful : ∀ f ∈ D.L, Ful f
  nod : (d :: D.pb :: fpL D.L).Nodup
  low : B ≤ d
  seed : x < 18446744073709551616
  le : D.es.length ≤ 1000000

theorem esL_append (a b : List Lf) : esL (a ++ b) = esL a ++ esL b := List.flatMap_append ..
theorem esL_cons (f : Lf) (b : List Lf) : esL (f :: b) = f.es ++ esL b := List.flatMap_cons ..
theorem esL_one (f : Lf) : esL [f] = f.es := by rw [esL_cons]; exact List.append_nil _
theorem fpL_append (a b : List Lf) : fpL (a ++ b) = fpL a ++ fpL b := List.flatMap_append ..
theorem fpL_cons (f : Lf) (b : List Lf) : fpL (f :: b) = f.fp ++ fpL b := List.flatMap_cons ..
theorem mem_fpL {L : List Lf} {f : Lf} (h : f ∈ L) {j : Nat} (hj : j ∈ f.fp) : j ∈ fpL L := List.mem_flatMap.2 ⟨f, h, hj⟩
theorem shL_append (a b : List Lf) : shL (a ++ b) = shL a ++ shL b := List.map_append ..
theorem mem_esL {L : List Lf} {f : Lf} (h : f ∈ L) {e : En} (he : e ∈ f.es) : e ∈ esL L := List.mem_flatMap.2 ⟨f, h, he⟩

theorem Dct.lt {w : World} {B d x : Nat} {D : Dg} (h : Dct w B d x D) : d < w.heap.size := (Array.getElem?_eq_some_iff.1 h.blk).1
theorem Dct.fplt {w : World} {B d x : Nat} {D : Dg} (h : Dct w B d x D) : ∀ k ∈ d :: D.pb :: fpL D.L, B ≤ k ∧ k < w.heap.size := by
  intro k hk
  rcases List.mem_cons.1 hk with rfl | hk
  · exact ⟨h.low, h.lt⟩
  rcases List.mem_cons.1 hk with rfl | hk
  · have := OwnR.lt h.row (k := D.pb) rfl
    exact ⟨this.1, this.2.1⟩
  · obtain ⟨f, hf, hk⟩ := List.mem_flatMap.1 hk
    exact (h.leaf f hf).fplt k hk
theorem Dct.stay {w w' : World} {B d x : Nat} {D : Dg} {M : List Nat} (h : Dct w B d x D) (hs : Stay w w' M) (hd : ∀ k ∈ d :: D.pb :: fpL D.L, k ∉ M) : Dct w' B d x D :=
  ⟨by rw [hs.block d h.lt (hd _ (by simp))]; exact h.blk, OwnR.stay h.row hs (fun k hk => hd k (by cases hk; simp)), fun f hf => (h.leaf f hf).stay hs (fun k hk => hd k (List.mem_cons_of_mem _ (List.mem_cons_of_mem _ (mem_fpL hf hk)))), h.shp, h.dir, h.own, h.one, h.ful, h.nod, h.low, h.seed, h.le⟩
theorem Dct.keep {w w' : World} {B d x : Nat} {D : Dg} (h : Dct w B d x D) (hb : Below w.heap.size w w') : Dct w' B d x D := h.stay (Stay.of_below hb []) (fun _ _ => by simp)
theorem Dct.cseed {w : World} {B d x : Nat} {D : Dg} (h : Dct w B d x D) : w.cell? ⟨d, 0, none⟩ = some (.int .u64 (x : Nat)) := by simp [World.cell?, h.blk]
theorem Dct.ccnt {w : World} {B d x : Nat} {D : Dg} (h : Dct w B d x D) : w.cell? ⟨d, 1, none⟩ = some (.int .i64 (D.es.length : Nat)) := by simp [World.cell?, h.blk]
theorem Dct.cpl {w : World} {B d x : Nat} {D : Dg} (h : Dct w B d x D) : w.cell? ⟨d, 2, none⟩ = some (.slice (some ⟨D.pb, 0, none⟩) (2 ^ D.g) D.cap) := by simp [World.cell?, h.blk]
theorem Dct.frozen {w : World} {B d x : Nat} {D : Dg} (h : Dct w B d x D) (o : Nat) : w.frozen? ⟨d, o, none⟩ = false := by simp [World.frozen?, h.blk]
theorem Dct.len {w : World} {B d x : Nat} {D : Dg} (h : Dct w B d x D) : D.pl.length = 2 ^ D.g := OwnP.len h.row
theorem Dct.pow {w : World} {B d x : Nat} {D : Dg} (h : Dct w B d x D) : 2 ^ D.g ≤ 65536 := pow_le_16 h.shp.le
theorem Dct.les {w : World} {B d x : Nat} {D : Dg} (h : Dct w B d x D) {f : Lf} (hf : f ∈ D.L) : f.es.length ≤ 1000000 := by
  obtain ⟨a, c, e⟩ := List.append_of_mem hf
  have h1 := h.le
  unfold Dg.es at h1
  rw [e, esL_append, esL_cons, List.length_append, List.length_append] at h1
  omega
theorem Dct.lef {w : World} {B d x : Nat} {D : Dg} (h : Dct w B d x D) {f : Lf} (hf : f ∈ D.L) : f.l ≤ D.g ∧ f.l ≤ 16 ∧ f.q < 2 ^ f.l := by
  have h1 := h.shp.lt f.pt (List.mem_map_of_mem hf)
  have h2 := h.shp.le
  simp only [Lf.pt] at h1
  omega
/-- The leaf of a hash, and that its keys belong nowhere else. -/
theorem Dct.parts {w : World} {B d x : Nat} {D : Dg} (h : Dct w B d x D) (hh : Nat) : ∃ a f c, D.L = a ++ f :: c ∧ isIn f.pt hh = true ∧ (∀ u ∈ a, isIn u.pt hh = false) ∧ (∀ u ∈ c, isIn u.pt hh = false) := by
  obtain ⟨sa, s, sc, e, h1, h2, h3⟩ := h.shp.parts hh
  unfold Dg.sh shL at e
  obtain ⟨a, l2, e1, rfl, e3⟩ := List.map_eq_append_iff.1 e
  obtain ⟨f, c, rfl, rfl, rfl⟩ := List.map_eq_cons_iff.1 e3
  exact ⟨a, f, c, e1, h1, fun u hu => h2 _ (List.mem_map_of_mem hu), fun u hu => h3 _ (List.mem_map_of_mem hu)⟩
theorem Dct.place {w : World} {B d x : Nat} {D : Dg} (h : Dct w B d x D) {f : Lf} (hf : f ∈ D.L) {hh : Nat} (hi : isIn f.pt hh = true) : D.pl[hh % 2 ^ D.g]? = some f.a ∧ hh % 2 ^ D.g < 2 ^ D.g := by
  have hlt : hh % 2 ^ D.g < 2 ^ D.g := Nat.mod_lt _ (pow_pos _)
  refine ⟨h.dir f hf _ hlt ?_, hlt⟩
  rw [isIn_low (h.lef hf).1]
  exact hi
/-- A key that is there is in the leaf of its hash. -/
theorem Dct.mem {w : World} {B d x : Nat} {D : Dg} (h : Dct w B d x D) {a c : List Lf} {f : Lf} {k : ByteArray} (e : D.L = a ++ f :: c) (h2 : ∀ u ∈ a, isIn u.pt (hsh x k) = false) (h3 : ∀ u ∈ c, isIn u.pt (hsh x k) = false) {v : Int} : (k, v) ∈ D.es ↔ (k, v) ∈ f.es := by
  constructor
  · intro hm
    obtain ⟨u, hu, hm⟩ := List.mem_flatMap.1 hm
    have ho := h.own u hu _ hm
    rw [e] at hu
    rcases List.mem_append.1 hu with hu | hu
    · rw [h2 u hu] at ho; cases ho
    · rcases List.mem_cons.1 hu with rfl | hu
      · exact hm
      · rw [h3 u hu] at ho; cases ho
  · intro hm
    exact mem_esL (by rw [e]; simp) hm
theorem Dct.memk {w : World} {B d x : Nat} {D : Dg} (h : Dct w B d x D) {a c : List Lf} {f : Lf} {k : ByteArray} (e : D.L = a ++ f :: c) (h2 : ∀ u ∈ a, isIn u.pt (hsh x k) = false) (h3 : ∀ u ∈ c, isIn u.pt (hsh x k) = false) : k ∈ keysOf D.es ↔ k ∈ keysOf f.es := by
  constructor
  · intro hm
    obtain ⟨⟨k', v⟩, hm2, rfl⟩ := List.mem_map.1 hm
    exact List.mem_map.2 ⟨_, (h.mem e h2 h3).1 hm2, rfl⟩
  · intro hm
    obtain ⟨⟨k', v⟩, hm2, rfl⟩ := List.mem_map.1 hm
    exact List.mem_map.2 ⟨_, (h.mem e h2 h3).2 hm2, rfl⟩

set_option maxRecDepth 100000 in
theorem Len64_pow (g : Nat) (hg : g ≤ 16) (w : World) : Calls Try.prog 71 #[.int .u64 ((2 ^ g : Nat) : Int)] w fun e w' => e = .returned (.int .i64 ((g : Int) + 1)) ∧ w' = w := by
  rcases (by omega : g = 0 ∨ g = 1 ∨ g = 2 ∨ g = 3 ∨ g = 4 ∨ g = 5 ∨ g = 6 ∨ g = 7 ∨ g = 8 ∨ g = 9 ∨ g = 10 ∨ g = 11 ∨ g = 12 ∨ g = 13 ∨ g = 14 ∨ g = 15 ∨ g = 16) with rfl | rfl | rfl | rfl | rfl | rfl | rfl | rfl | rfl | rfl | rfl | rfl | rfl | rfl | rfl | rfl | rfl
  all_goals
    go_enter Try.func71, Try.ntmps71
    go_wp2
    go_ret
    exact ⟨by kernel_rfl, rfl⟩
theorem Len_pow (g : Nat) (hg : g ≤ 16) (w : World) : Calls Try.prog 50 #[.int .u64 ((2 ^ g : Nat) : Int)] w fun e w' => e = .returned (.int .i64 ((g : Int) + 1)) ∧ w' = w := by
  have H := fun w => Len64_pow g hg w
  generalize ((2 ^ g : Nat) : Int) = p at H
  go_enter Try.func50, Try.ntmps50
  go_wp2_with fail
  refine (H _).mono ?_
  rintro e w ⟨rfl, rfl⟩
  go_wp2
  go_ret
  exact ⟨rfl, rfl⟩
theorem Depth_any (B d x : Nat) (D : Dg) (w : World) (hD : Dct w B d x D) : Calls Try.prog 16 #[ptr d] w fun e w' => e = .returned (.int .i64 (D.g : Nat)) ∧ w' = w := by
  have hc := hD.cpl
  have hg := hD.shp.le
  have H := fun w => Len_pow D.g hg w
  have hp := hD.pow
  generalize D.g = g at hc hg H hp ⊢
  generalize 2 ^ g = p at hc H hp
  clear hD
  go_enter Try.func16, Try.ntmps16
  go_wp2_with fail
  refine (H _).mono ?_
  rintro e w ⟨rfl, rfl⟩
  go_wp2
  go_ret
  exact ⟨by go_num, rfl⟩
theorem Len_dict (B d x : Nat) (D : Dg) (w : World) (hD : Dct w B d x D) : Calls Try.prog 31 #[ptr d] w fun e w' => e = .returned (.int .i64 (D.es.length : Nat)) ∧ w' = w := by
  have hc := hD.ccnt
  clear hD
  go_enter Try.func31, Try.ntmps31
  go_wp2
  go_ret
  exact ⟨rfl, rfl⟩
theorem leafOf_any (B d x : Nat) (D : Dg) (f : Lf) (h : Nat) (w : World) (hD : Dct w B d x D) (hf : f ∈ D.L) (hi : isIn f.pt h = true) (hh : h < 18446744073709551616) :
    Calls Try.prog 39 #[ptr d, .int .u64 h] w fun e w' => e = .returned (ptr f.a) ∧ Below w.heap.size w w' := by
  have HD : Hid (Dct w B d x D) := hD
  have hc := hD.cpl
  have hp := hD.pow
  obtain ⟨hpl, hlt⟩ := hD.place hf hi
  have hrow := OwnP.cell hD.row hpl
  have hg := hD.shp.le
  have HDe := fun q => Depth_any B d x D (w.drewN q) (hD.keep (below_drewN w q))
  have HLo := fun w => Low_any h D.g w hh (by omega) (by omega)
  rw [low_dep, dep_nat hg] at HLo
  generalize D.g = g at hc hg hp hlt HDe HLo hrow
  generalize h % 2 ^ g = i at hlt HLo hrow
  generalize 2 ^ g = p at hc hp hlt
  have hiz : (i : Int) < p := by omega
  clear hD hpl
  go_enter Try.func39, Try.ntmps39
  go_wp2
  go_quiet ((first | (go_at_call 16; with_reducible exact Calls.quiet_of_same (HDe _)) | (go_at_call 55; with_reducible exact Calls.quiet_of_same (HLo _))))
  go_wp2
  go_ret
  exact ⟨rfl, below_drewN _ _⟩
end Go.Proofs.Ytejnmikbbnckeaa
