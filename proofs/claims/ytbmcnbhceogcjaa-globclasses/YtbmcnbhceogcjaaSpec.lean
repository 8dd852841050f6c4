/-
  Patterns over rows of bytes: what a class, one thing of a pattern, and a whole pattern say; pure.
-/
namespace Go.Proofs.Ytbmcnbhceogcjaa

/-- How many bytes the first member of a class is written by. -/
def msize : List UInt8 → Nat
  | x :: y :: r => if x.toNat = 92 then 2 else if y.toNat = 45 ∧ (r.headD 93).toNat ≠ 93 then 3 else 1
  | _ => 1
/-- Has the first member of a class the byte? -/
def hit (b : Nat) : List UInt8 → Bool
  | [] => false
  | [x] => decide (x.toNat = b)
  | x :: y :: r => if x.toNat = 92 then decide (y.toNat = b) else if y.toNat = 45 ∧ (r.headD 93).toNat ≠ 93 then decide (min x.toNat (r.headD 93).toNat ≤ b ∧ b ≤ max x.toNat (r.headD 93).toNat) else decide (x.toNat = b)
/-- The members of a class, up to its end: is the byte among them; what is behind. -/
def mems (b : Nat) : Nat → List UInt8 → Bool → Bool × List UInt8
  | 0, _, h => (h, [])
  | _ + 1, [], h => (h, [])
  | n + 1, x :: r, h => if x.toNat = 93 then (h, r) else mems b n ((x :: r).drop (msize (x :: r))) (h || hit b (x :: r))
/-- A class, from behind its bracket. -/
def cls (b : Nat) (l : List UInt8) : Bool × List UInt8 :=
  if (l.headD 0).toNat = 94 then (!(mems b l.length l.tail false).1, (mems b l.length l.tail false).2) else mems b l.length l false
/-- One byte against the first thing of a pattern that is no star. -/
def one (b : Nat) : List UInt8 → Bool × List UInt8
  | [] => (false, [])
  | x :: r => if x.toNat = 63 then (true, r) else if x.toNat = 91 then cls b r else if x.toNat = 92 ∧ r ≠ [] then (decide ((r.headD 0).toNat = b), r.tail) else (decide (x.toNat = b), r)

theorem msize_pos (l : List UInt8) : 0 < msize l := by
  unfold msize; split
  · split
    · omega
    · split <;> omega
  · omega
theorem mems_rest (b b' : Nat) : ∀ n l h h', (mems b n l h).2 = (mems b' n l h').2
  | 0, _, _, _ => rfl
  | _ + 1, [], _, _ => rfl
  | n + 1, x :: r, h, h' => by
    simp only [mems]
    split
    · rfl
    · exact mems_rest b b' n _ _ _
theorem mems_len (b : Nat) : ∀ n l h, (mems b n l h).2.length ≤ l.length
  | 0, _, _ => by simp [mems]
  | _ + 1, [], _ => by simp [mems]
  | n + 1, x :: r, h => by
    simp only [mems]
    split
    · simp
    · refine Nat.le_trans (mems_len b n _ _) ?_
      simp
theorem cls_rest (b b' : Nat) (l : List UInt8) : (cls b l).2 = (cls b' l).2 := by
  unfold cls
  split
  · exact mems_rest ..
  · exact mems_rest ..
theorem cls_len (b : Nat) (l : List UInt8) : (cls b l).2.length ≤ l.length := by
  unfold cls
  split
  · refine Nat.le_trans (mems_len ..) (by simp)
  · exact mems_len ..
theorem one_rest (b b' : Nat) (l : List UInt8) : (one b l).2 = (one b' l).2 := by
  cases l with
  | nil => rfl
  | cons x r =>
    simp only [one]
    split
    · rfl
    · split
      · exact cls_rest ..
      · split <;> rfl
theorem one_len (b : Nat) (x : UInt8) (r : List UInt8) : (one b (x :: r)).2.length ≤ r.length := by
  simp only [one]
  split
  · simp
  · split
    · exact cls_len ..
    · split <;> simp

abbrev Tok := Option (Nat → Bool)
/-- A pattern as a row of things: none is a star. -/
def toksF : Nat → List UInt8 → List Tok
  | 0, _ => []
  | _ + 1, [] => []
  | n + 1, x :: r => if x.toNat = 42 then none :: toksF n r else some (fun b => (one b (x :: r)).1) :: toksF n (one 0 (x :: r)).2
def toks (l : List UInt8) : List Tok := toksF l.length l

theorem toksF_eq : ∀ n m l, l.length ≤ n → l.length ≤ m → toksF n l = toksF m l
  | 0, 0, _, _, _ => rfl
  | 0, _ + 1, [], _, _ => rfl
  | _ + 1, 0, [], _, _ => rfl
  | _ + 1, _ + 1, [], _, _ => rfl
  | 0, _, _ :: _, h, _ => by simp at h
  | _ + 1, 0, _ :: _, _, h => by simp at h
  | n + 1, m + 1, x :: r, hn, hm => by
    have h1 : r.length ≤ n := by simpa using hn
    have h2 : r.length ≤ m := by simpa using hm
    have h3 := one_len 0 x r
    simp only [toksF]
    rw [toksF_eq n m r h1 h2, toksF_eq n m _ (by omega) (by omega)]
theorem toks_nil : toks [] = [] := rfl
theorem toks_star (x : UInt8) (r : List UInt8) (h : x.toNat = 42) : toks (x :: r) = none :: toks r := by
  unfold toks
  rw [List.length_cons]
  simp only [toksF, h, if_true]
theorem toks_one (x : UInt8) (r : List UInt8) (h : x.toNat ≠ 42) : toks (x :: r) = some (fun b => (one b (x :: r)).1) :: toks (one 0 (x :: r)).2 := by
  unfold toks
  rw [List.length_cons]
  simp only [toksF, h, if_false]
  rw [toksF_eq _ _ _ (one_len 0 x r) (Nat.le_refl _)]

/-- Some end of the text is what is asked. -/
def star (k : List UInt8 → Bool) : List UInt8 → Bool
  | [] => k []
  | b :: s => k (b :: s) || star k s
/-- Is the text, whole, what the things say? -/
def mt : List Tok → List UInt8 → Bool
  | [] => fun s => s.isEmpty
  | none :: ts => star (mt ts)
  | some f :: ts => fun s => match s with
    | [] => false
    | b :: t => f b.toNat && mt ts t
def mat (p s : List UInt8) : Bool := mt (toks p) s

theorem star_iff (k : List UInt8 → Bool) : ∀ s, star k s = true ↔ ∃ a b, s = a ++ b ∧ k b = true
  | [] => by
    simp only [star]
    constructor
    · intro h; exact ⟨[], [], rfl, h⟩
    · rintro ⟨a, b, h, hk⟩
      have : b = [] := by
        have := congrArg List.length h; simp at this
        exact List.length_eq_zero_iff.1 (by omega)
      rw [this] at hk; exact hk
  | x :: s => by
    simp only [star, Bool.or_eq_true]
    rw [star_iff k s]
    constructor
    · rintro (h | ⟨a, b, h, hk⟩)
      · exact ⟨[], _, rfl, h⟩
      · exact ⟨x :: a, b, by rw [h]; rfl, hk⟩
    · rintro ⟨a, b, h, hk⟩
      cases a with
      | nil => exact .inl (by rw [h]; exact hk)
      | cons y a =>
        rw [List.cons_append] at h
        injection h with h1 h2
        exact .inr ⟨a, b, h2, hk⟩
theorem star_suffix {k : List UInt8 → Bool} {v s : List UInt8} (h : v <:+ s) (hv : star k v = true) : star k s = true := by
  obtain ⟨c, rfl⟩ := h
  obtain ⟨a, b, rfl, hk⟩ := (star_iff k v).1 hv
  exact (star_iff k _).2 ⟨c ++ a, b, by simp, hk⟩

theorem mt_seg : ∀ (seg T : List Tok) (u : List UInt8), (∀ t ∈ seg, t ≠ none) → mt (seg ++ T) u = true → ∃ pu v, u = pu ++ v ∧ pu.length = seg.length ∧ mt T v = true
  | [], _, u, _, h => ⟨[], u, rfl, rfl, h⟩
  | none :: _, _, _, hs, _ => absurd rfl (hs none (by simp))
  | some f :: seg, T, u, hs, h => by
    cases u with
    | nil => simp [mt] at h
    | cons b u =>
      have h' : (f b.toNat && mt (seg ++ T) u) = true := h
      rw [Bool.and_eq_true] at h'
      obtain ⟨pu, v, rfl, hl, hv⟩ := mt_seg seg T u (fun t ht => hs t (by simp [ht])) h'.2
      exact ⟨b :: pu, v, rfl, by simp [hl], hv⟩

/-- Behind the last star: the things that took a byte each, and those bytes. -/
def Gr (A : List Tok) (left : List UInt8) (T : List Tok) (s : List UInt8) : Prop :=
  ∃ seg pre, (∀ t ∈ seg, t ≠ none) ∧ A = seg ++ T ∧ left = pre ++ s ∧ pre.length = seg.length
/-- What the star may still take. -/
def more (A : List Tok) : List UInt8 → Bool
  | [] => false
  | _ :: l => star (mt A) l

theorem Gr.shorter {A T : List Tok} {left s : List UInt8} (h : Gr A left T s) (hm : more A left = true) : ∃ v, v <:+ s ∧ v.length < s.length ∧ mt T v = true := by
  obtain ⟨seg, pre, hs, rfl, rfl, hl⟩ := h
  cases hc : pre ++ s with
  | nil => rw [hc] at hm; simp [more] at hm
  | cons x l =>
    rw [hc] at hm
    obtain ⟨a, u, rfl, hu⟩ := (star_iff _ _).1 hm
    obtain ⟨pu, v, rfl, hp, hv⟩ := mt_seg seg T u hs hu
    have hlen := congrArg List.length hc
    simp at hlen
    have h1 : v <:+ pre ++ s := ⟨x :: a ++ pu, by rw [hc]; simp⟩
    have h2 : s <:+ pre ++ s := ⟨pre, rfl⟩
    exact ⟨v, List.suffix_of_suffix_length_le h1 h2 (by omega), by omega, hv⟩

/-- Where a match stands. -/
def St (R sd : Bool) (aft left rest s : List UInt8) : Prop :=
  (sd = false ∧ R = mt (toks rest) s) ∨ (sd = true ∧ Gr (toks aft) left (toks rest) s ∧ R = (mt (toks rest) s || more (toks aft) left))

theorem St.init (p s : List UInt8) : St (mat p s) false [] [] p s := .inl ⟨rfl, rfl⟩
theorem St.atStar {R sd : Bool} {aft left s : List UInt8} {x : UInt8} {r : List UInt8} (h : St R sd aft left (x :: r) s) (hx : x.toNat = 42) : St R true r s r s := by
  have key : R = mt (none :: toks r) s := by
    rcases h with ⟨-, h⟩ | ⟨-, hg, h⟩
    · rw [h, toks_star x r hx]
    · rw [toks_star x r hx] at hg h
      rw [h]
      cases hm : more (toks aft) left with
      | false => simp
      | true =>
        obtain ⟨v, hv, -, hk⟩ := hg.shorter hm
        have : mt (none :: toks r) s = true := star_suffix hv hk
        rw [this]; rfl
  refine .inr ⟨rfl, ⟨[], [], by simp, rfl, rfl, rfl⟩, ?_⟩
  rw [key]
  cases s with
  | nil => simp [mt, star, more]
  | cons b t => simp [mt, star, more]
theorem St.ok {R sd : Bool} {aft left t : List UInt8} {x c : UInt8} {r : List UInt8} (h : St R sd aft left (x :: r) (c :: t)) (hx : x.toNat ≠ 42) (ho : (one c.toNat (x :: r)).1 = true) :
    St R sd aft left (one c.toNat (x :: r)).2 t := by
  have e : mt (toks (x :: r)) (c :: t) = mt (toks (one c.toNat (x :: r)).2) t := by
    rw [toks_one x r hx, one_rest c.toNat 0]
    simp [mt, ho]
  rcases h with ⟨h1, h⟩ | ⟨h1, ⟨seg, pre, hs, hA, hl, hn⟩, h⟩
  · exact .inl ⟨h1, by rw [h, e]⟩
  · refine .inr ⟨h1, ⟨seg ++ [some (fun b => (one b (x :: r)).1)], pre ++ [c], ?_, ?_, ?_, ?_⟩, by rw [h, e]⟩
    · intro t ht
      rcases List.mem_append.1 ht with ht | ht
      · exact hs t ht
      · rw [List.mem_singleton.1 ht]; simp
    · rw [hA, toks_one x r hx, one_rest c.toNat 0]; simp
    · rw [hl]; simp
    · simp [hn]
theorem no_match {rest : List UInt8} {c : UInt8} {t : List UInt8} (hx : ∀ x r, rest = x :: r → x.toNat ≠ 42) (ho : (one c.toNat rest).1 = false) : mt (toks rest) (c :: t) = false := by
  cases rest with
  | nil => rfl
  | cons x r =>
    rw [toks_one x r (hx x r rfl)]
    simp [mt, ho]
theorem St.back {R : Bool} {aft left rest t : List UInt8} {c : UInt8} (h : St R true aft left rest (c :: t)) (hx : ∀ x r, rest = x :: r → x.toNat ≠ 42) (ho : (one c.toNat rest).1 = false) :
    ∃ y l, left = y :: l ∧ St R true aft l aft l := by
  rcases h with ⟨h, -⟩ | ⟨-, ⟨seg, pre, hs, hA, hl, hn⟩, h⟩
  · cases h
  · rw [no_match hx ho, Bool.false_or] at h
    cases left with
    | nil => simp at hl
    | cons y l =>
      refine ⟨y, l, rfl, .inr ⟨rfl, ⟨[], [], by simp, rfl, rfl, rfl⟩, ?_⟩⟩
      rw [h]
      cases l with
      | nil => simp [more, star]
      | cons z l => simp [more, star]
theorem St.fail {R : Bool} {aft left rest t : List UInt8} {c : UInt8} (h : St R false aft left rest (c :: t)) (hx : ∀ x r, rest = x :: r → x.toNat ≠ 42) (ho : (one c.toNat rest).1 = false) : R = false := by
  rcases h with ⟨-, h⟩ | ⟨h, -⟩
  · rw [h, no_match hx ho]
  · cases h
theorem St.done {R sd : Bool} {aft left rest : List UInt8} (h : St R sd aft left rest []) : R = mt (toks rest) [] := by
  rcases h with ⟨-, h⟩ | ⟨-, hg, h⟩
  · exact h
  · cases hm : more (toks aft) left with
    | false => rw [h, hm, Bool.or_false]
    | true =>
      obtain ⟨v, -, hl, -⟩ := hg.shorter hm
      simp at hl
theorem St.left_len {R : Bool} {aft left rest s : List UInt8} (h : St R true aft left rest s) : s.length ≤ left.length := by
  rcases h with ⟨h, -⟩ | ⟨-, ⟨seg, pre, -, -, rfl, -⟩, -⟩
  · cases h
  · simp
/-- All stars? -/
def stars (l : List UInt8) : Bool := l.all fun x => decide (x.toNat = 42)
theorem stars_mt : ∀ l, mt (toks l) [] = stars l
  | [] => rfl
  | x :: r => by
    by_cases hx : x.toNat = 42
    · rw [toks_star x r hx]
      have : mt (none :: toks r) [] = mt (toks r) [] := rfl
      rw [this, stars_mt r]
      simp [stars, hx]
    · rw [toks_one x r hx]
      simp [mt, stars, hx]

/-- How far a match is from its end. -/
def meas (K a l s : Nat) : Nat := a * (K * K) + l * K + s
theorem meas_star {N a l s r : Nat} (hr : r < a) (hs : s ≤ N) : meas (N + 1) r s s < meas (N + 1) a l s := by
  unfold meas
  have h1 : (r + 1) * ((N + 1) * (N + 1)) ≤ a * ((N + 1) * (N + 1)) := Nat.mul_le_mul_right _ hr
  have h2 : s * (N + 1) ≤ N * (N + 1) := Nat.mul_le_mul_right _ hs
  rw [Nat.add_mul, Nat.one_mul] at h1
  have h3 : (N + 1) * (N + 1) = N * (N + 1) + (N + 1) := by rw [Nat.add_mul, Nat.one_mul]
  omega
theorem meas_ok {K a l s s' : Nat} (h : s' < s) : meas K a l s' < meas K a l s := by unfold meas; omega
theorem meas_back {N a l s : Nat} (hl : l ≤ N) : meas (N + 1) a l l < meas (N + 1) a (l + 1) s := by
  unfold meas
  rw [Nat.add_mul l 1, Nat.one_mul]; omega

/-- The rows of the document's own match: some place that is reached, from where the rest matches. -/
def Reach (f : Nat → Bool) (T : List Tok) (s : List UInt8) : Prop := ∃ i, i ≤ s.length ∧ f i = true ∧ mt T (s.drop i) = true
def anyTo (f : Nat → Bool) : Nat → Bool
  | 0 => false
  | n + 1 => anyTo f n || f n
def byteAt (s : List UInt8) (i : Nat) : Nat := (s.getD i 0).toNat
def nextRow (f : Nat → Bool) (k : Nat → Bool) (s : List UInt8) : Nat → Bool
  | 0 => false
  | i + 1 => f i && k (byteAt s i)

theorem anyTo_iff (f : Nat → Bool) : ∀ n, anyTo f n = true ↔ ∃ i, i < n ∧ f i = true
  | 0 => by simp [anyTo]
  | n + 1 => by
    simp only [anyTo, Bool.or_eq_true]
    rw [anyTo_iff f n]
    constructor
    · rintro (⟨i, h, hf⟩ | h)
      · exact ⟨i, by omega, hf⟩
      · exact ⟨n, by omega, h⟩
    · rintro ⟨i, h, hf⟩
      by_cases e : i = n
      · subst e; exact .inr hf
      · exact .inl ⟨i, by omega, hf⟩
theorem reach_star (f : Nat → Bool) (T : List Tok) (s : List UInt8) : Reach f (none :: T) s ↔ Reach (fun j => anyTo f (j + 1)) T s := by
  constructor
  · rintro ⟨i, hi, hf, hm⟩
    obtain ⟨a, b, hab, hb⟩ := (star_iff _ _).1 hm
    have hl := congrArg List.length hab
    simp at hl
    refine ⟨i + a.length, by omega, (anyTo_iff f _).2 ⟨i, by omega, hf⟩, ?_⟩
    rw [← List.drop_drop, hab, List.drop_left]; exact hb
  · rintro ⟨j, hj, hf, hm⟩
    obtain ⟨i, hi, hf⟩ := (anyTo_iff f _).1 hf
    refine ⟨i, by omega, hf, (star_iff _ _).2 ⟨(s.drop i).take (j - i), s.drop j, ?_, hm⟩⟩
    have : s.drop j = (s.drop i).drop (j - i) := by rw [List.drop_drop]; congr 1; omega
    rw [this, List.take_append_drop]
theorem reach_one (f k : Nat → Bool) (T : List Tok) (s : List UInt8) : Reach f (some k :: T) s ↔ Reach (nextRow f k s) T s := by
  constructor
  · rintro ⟨i, hi, hf, hm⟩
    by_cases hlt : i < s.length
    · rw [List.drop_eq_getElem_cons hlt] at hm
      have hm' : (k (s[i].toNat) && mt T (s.drop (i + 1))) = true := hm
      rw [Bool.and_eq_true] at hm'
      refine ⟨i + 1, by omega, ?_, hm'.2⟩
      have : byteAt s i = s[i].toNat := by unfold byteAt; simp [hlt]
      simp [nextRow, hf, this, hm'.1]
    · rw [List.drop_eq_nil_of_le (by omega)] at hm
      simp [mt] at hm
  · rintro ⟨j, hj, hf, hm⟩
    cases j with
    | zero => simp [nextRow] at hf
    | succ i =>
      have hlt : i < s.length := by omega
      simp only [nextRow, Bool.and_eq_true] at hf
      refine ⟨i, by omega, hf.1, ?_⟩
      rw [List.drop_eq_getElem_cons hlt]
      have : byteAt s i = s[i].toNat := by unfold byteAt; simp [hlt]
      show (k (s[i].toNat) && mt T (s.drop (i + 1))) = true
      rw [← this, hf.2, hm]; rfl
theorem reach_end (f : Nat → Bool) (s : List UInt8) : Reach f [] s ↔ f s.length = true := by
  constructor
  · rintro ⟨i, hi, hf, hm⟩
    have : s.drop i = [] := by
      cases h : s.drop i with
      | nil => rfl
      | cons a l => rw [h] at hm; simp [mt] at hm
    have hl := congrArg List.length this
    simp at hl
    rw [show s.length = i by omega]; exact hf
  · intro h
    exact ⟨s.length, Nat.le_refl _, h, by simp [mt]⟩
theorem reach_init (T : List Tok) (s : List UInt8) : Reach (fun j => decide (j = 0)) T s ↔ mt T s = true := by
  constructor
  · rintro ⟨i, -, hf, hm⟩
    have : i = 0 := by simpa using hf
    subst this; simpa using hm
  · intro h
    exact ⟨0, by omega, rfl, by simpa using h⟩

/-- A byte that is itself. -/
def lit (x : UInt8) : Tok := some fun b => decide (x.toNat = b)
def plainB (x : UInt8) : Bool := decide (x.toNat ≠ 42 ∧ x.toNat ≠ 63 ∧ x.toNat ≠ 91 ∧ x.toNat ≠ 92)
theorem toks_plain : ∀ (a l : List UInt8), (∀ x ∈ a, plainB x = true) → toks (a ++ l) = a.map lit ++ toks l
  | [], _, _ => rfl
  | x :: a, l, h => by
    have hx : plainB x = true := h x (by simp)
    simp only [plainB, decide_eq_true_eq] at hx
    rw [List.cons_append, toks_one x _ hx.1]
    have ho : ∀ b, one b (x :: (a ++ l)) = (decide (x.toNat = b), a ++ l) := by
      intro b
      simp only [one]
      rw [if_neg hx.2.1, if_neg hx.2.2.1, if_neg (fun h => hx.2.2.2 h.1)]
    rw [ho 0]
    simp only [ho]
    rw [toks_plain a l (fun y hy => h y (by simp [hy]))]
    rfl
def esc (a : List UInt8) : List UInt8 := a.flatMap fun x => [92, x]
theorem esc_snoc (a : List UInt8) (x : UInt8) : esc (a ++ [x]) = esc a ++ [92, x] := by simp [esc]
theorem esc_len (a : List UInt8) : (esc a).length = 2 * a.length := by
  induction a with
  | nil => rfl
  | cons x a ih => simp [esc] at ih ⊢; omega
theorem toks_esc : ∀ (a l : List UInt8), toks (esc a ++ l) = a.map lit ++ toks l
  | [], _ => rfl
  | x :: a, l => by
    have e : esc (x :: a) ++ l = 92 :: x :: (esc a ++ l) := rfl
    rw [e, toks_one 92 _ (by decide)]
    have ho : ∀ b, one b (92 :: x :: (esc a ++ l)) = (decide (x.toNat = b), esc a ++ l) := by
      intro b
      simp only [one]
      rw [if_neg (by decide), if_neg (by decide), if_pos ⟨by decide, by simp⟩]
      rfl
    rw [ho 0]
    simp only [ho]
    rw [toks_esc a l]
    rfl
theorem mt_lits : ∀ (a : List UInt8) (T : List Tok) (s : List UInt8), mt (a.map lit ++ T) (a ++ s) = mt T s
  | [], _, _ => rfl
  | x :: a, T, s => by
    have : mt ((x :: a).map lit ++ T) ((x :: a) ++ s) = (decide (x.toNat = x.toNat) && mt (a.map lit ++ T) (a ++ s)) := rfl
    rw [this, mt_lits a T s]; simp
theorem mt_self : ∀ (a s : List UInt8), mt (a.map lit) s = decide (a = s)
  | [], [] => rfl
  | [], _ :: _ => rfl
  | _ :: _, [] => rfl
  | x :: a, y :: s => by
    have : mt ((x :: a).map lit) (y :: s) = (decide (x.toNat = y.toNat) && mt (a.map lit) s) := rfl
    rw [this, mt_self a s, Bool.eq_iff_iff]
    simp [UInt8.toNat_inj]
theorem star_all (s : List UInt8) : mt [none] s = true := (star_iff _ _).2 ⟨s, [], by simp, rfl⟩
theorem star_append {k : List UInt8 → Bool} {a b : List UInt8} (h : k b = true) : star k (a ++ b) = true := (star_iff _ _).2 ⟨a, b, rfl, h⟩

def anyB : Tok := some fun _ => true
theorem toks_marks : ∀ (k : Nat) (l : List UInt8), toks (List.replicate k 63 ++ l) = List.replicate k anyB ++ toks l
  | 0, _ => rfl
  | k + 1, l => by
    rw [List.replicate_succ, List.cons_append, toks_one 63 _ (by decide)]
    have ho : ∀ b, one b (63 :: (List.replicate k 63 ++ l)) = (true, List.replicate k 63 ++ l) := by
      intro b
      simp only [one]
      rw [if_pos (by decide)]
    rw [ho 0]
    simp only [ho]
    rw [toks_marks k l]
    rfl
theorem mt_marks : ∀ (k : Nat) (T : List Tok) (s : List UInt8), mt (List.replicate k anyB ++ T) s = (decide (k ≤ s.length) && mt T (s.drop k))
  | 0, T, s => by simp
  | k + 1, T, [] => rfl
  | k + 1, T, b :: s => by
    have : mt (List.replicate (k + 1) anyB ++ T) (b :: s) = (true && mt (List.replicate k anyB ++ T) s) := rfl
    rw [this, mt_marks k T s]; simp
theorem marks_just (k : Nat) (s : List UInt8) : mat (List.replicate k 63) s = decide (s.length = k) := by
  have := toks_marks k []
  rw [List.append_nil] at this
  unfold mat
  rw [this, mt_marks]
  simp only [toks_nil, mt]
  rw [Bool.eq_iff_iff]
  simp; omega
theorem marks_star (k : Nat) (s : List UInt8) : mat (List.replicate k 63 ++ [42]) s = decide (k ≤ s.length) := by
  unfold mat
  rw [toks_marks, mt_marks, show toks [42] = [none] from rfl, star_all, Bool.and_true]
theorem star_marks (k : Nat) (s : List UInt8) : mat (42 :: List.replicate k 63) s = decide (k ≤ s.length) := by
  have := toks_marks k []
  rw [List.append_nil] at this
  unfold mat
  rw [toks_star 42 _ (by decide), this, Bool.eq_iff_iff]
  have e : mt (none :: (List.replicate k anyB ++ toks [])) s = star (mt (List.replicate k anyB ++ toks [])) s := rfl
  rw [e, star_iff, decide_eq_true_eq]
  constructor
  · rintro ⟨a, b, rfl, hb⟩
    rw [mt_marks, Bool.and_eq_true, decide_eq_true_eq] at hb
    simp; omega
  · intro h
    refine ⟨s.take (s.length - k), s.drop (s.length - k), by simp, ?_⟩
    rw [mt_marks]
    simp only [toks_nil, mt, List.length_drop, List.drop_drop, Bool.and_eq_true, decide_eq_true_eq, List.isEmpty_iff, List.drop_eq_nil_iff]
    omega

theorem mems_esc (b : Nat) : ∀ (a : List UInt8) (n : Nat) (h : Bool), (esc a).length < n → mems b n (esc a ++ [93]) h = (h || a.any (fun x => decide (x.toNat = b)), [])
  | [], 0, _, hn => by simp [esc] at hn
  | [], n + 1, h, _ => by simp [mems, esc]
  | x :: a, 0, _, hn => by simp at hn
  | x :: a, n + 1, h, hn => by
    have e : esc (x :: a) ++ [93] = 92 :: x :: (esc a ++ [93]) := rfl
    rw [e]
    simp only [mems]
    rw [if_neg (by decide)]
    have hs : msize (92 :: x :: (esc a ++ [93])) = 2 := by simp only [msize]; rw [if_pos (by decide)]
    have hh : hit b (92 :: x :: (esc a ++ [93])) = decide (x.toNat = b) := by simp only [hit]; rw [if_pos (by decide)]
    rw [hs, hh]
    have hl : (esc (x :: a)).length = (esc a).length + 2 := by simp [esc]
    have := mems_esc b a n (h || decide (x.toNat = b)) (by omega)
    rw [show (92 :: x :: (esc a ++ [93])).drop 2 = esc a ++ [93] from rfl, this]
    simp [Bool.or_assoc]
theorem class_esc (a : List UInt8) : toks (91 :: (esc a ++ [93])) = [some fun b => a.any (fun x => decide (x.toNat = b))] := by
  have hc : ∀ b, one b (91 :: (esc a ++ [93])) = (a.any (fun x => decide (x.toNat = b)), []) := by
    intro b
    simp only [one]
    rw [if_neg (by decide), if_pos (by decide), cls, if_neg, mems_esc b a _ false (by simp)]
    · simp
    · cases a <;> simp [esc]
  rw [toks_one 91 _ (by decide), hc 0]
  simp only [hc]
  rfl
theorem class_not (a : List UInt8) : toks (91 :: 94 :: (esc a ++ [93])) = [some fun b => !a.any (fun x => decide (x.toNat = b))] := by
  have hc : ∀ b, one b (91 :: 94 :: (esc a ++ [93])) = (!a.any (fun x => decide (x.toNat = b)), []) := by
    intro b
    simp only [one]
    rw [if_neg (by decide), if_pos (by decide), cls, if_pos (by rfl)]
    rw [show (94 :: (esc a ++ [93])).tail = esc a ++ [93] from rfl, mems_esc b a _ false (by simp; omega)]
    simp
  rw [toks_one 91 _ (by decide), hc 0]
  simp only [hc]
  rfl
end Go.Proofs.Ytbmcnbhceogcjaa
