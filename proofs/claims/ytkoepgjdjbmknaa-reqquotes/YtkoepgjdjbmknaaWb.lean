/-
  The law: words in quotes.
-/
import Derived.Test.YtkoepgjdjbmknaaVj
namespace Go.Proofs.Ytkoepgjdjbmknaa
open Go.RowKit Go.PlainAid

/-- What a byte is in quotes. -/
def escB (q b : UInt8) : List UInt8 := if b = q ∨ (q = 34 ∧ b = 92) then [92, b] else [b]
def esc (q : UInt8) : List UInt8 → List UInt8
  | [] => []
  | b :: r => escB q b ++ esc q r
def qs (q : UInt8) : List (List UInt8) → List UInt8
  | [] => []
  | x :: r => [32, q] ++ esc q x ++ [q] ++ qs q r
theorem esc_append (q : UInt8) (l r : List UInt8) : esc q (l ++ r) = esc q l ++ esc q r := by
  induction l with
  | nil => rfl
  | cons b l ih => simp [esc, ih]
theorem qs_append (q : UInt8) (l r : List (List UInt8)) : qs q (l ++ r) = qs q l ++ qs q r := by
  induction l with
  | nil => rfl
  | cons b l ih => simp [qs, ih]
theorem esc_len (q : UInt8) (l : List UInt8) : (esc q l).length ≤ 2 * l.length := by
  induction l with
  | nil => simp [esc]
  | cons b l ih =>
    have : (escB q b).length ≤ 2 := by unfold escB; split <;> simp
    simp [esc]; omega
theorem qs_len (q : UInt8) (l : List (List UInt8)) (m : Nat) (h : ∀ x ∈ l, x.length ≤ m) : (qs q l).length ≤ l.length * (2 * m + 3) := by
  induction l with
  | nil => simp [qs]
  | cons x l ih =>
    have h1 := esc_len q x
    have h2 := h x (by simp)
    have h3 := ih fun y hy => h y (by simp [hy])
    simp only [qs, List.length_append, List.length_cons, List.length_nil]
    rw [Nat.add_mul]
    omega
theorem quo_esc_all (q : UInt8) (hq : q = 34 ∨ q = 39) (rest : List UInt8) (x : List UInt8) (hx : q = 34 ∨ ∀ b ∈ x, b ≠ 92) : ∀ acc, quo q acc (esc q x ++ q :: rest) = some (acc ++ x, rest) := by
  have h92 : ¬ (92 : UInt8) = q := by rcases hq with rfl | rfl <;> decide
  induction x with
  | nil => intro acc; rw [esc, List.nil_append, quo_hit, List.append_nil]
  | cons b x ih =>
    intro acc
    have ih2 := ih (hx.imp id fun h b' hb' => h b' (by simp [hb']))
    rw [esc, escB]
    by_cases hb : b = q ∨ (q = 34 ∧ b = 92)
    · rw [if_pos hb]
      have hm : mnt b = b := by
        rcases hb with rfl | ⟨-, rfl⟩
        · rcases hq with rfl | rfl <;> rfl
        · rfl
      have e : ([92, b] ++ esc q x) ++ q :: rest = 92 :: b :: (esc q x ++ q :: rest) := rfl
      rw [e, quo_esc acc _ h92 rfl (by rcases hb with rfl | ⟨h, -⟩; exact .inr rfl; exact .inl h), hm, ih2, List.append_assoc]
      rfl
    · rw [if_neg hb]
      have e : ([b] ++ esc q x) ++ q :: rest = b :: (esc q x ++ q :: rest) := rfl
      rw [e, quo_push acc _ (fun h => hb (.inl h)), ih2, List.append_assoc]
      · rfl
      · rintro d r' - ⟨h, -⟩
        rcases hx with h34 | h2
        · exact hb (.inr ⟨h34, h⟩)
        · exact h2 b (by simp) h
theorem wds_qs (q : UInt8) (hq : q = 34 ∨ q = 39) (ws : List (List UInt8)) (hx : q = 34 ∨ ∀ x ∈ ws, ∀ b ∈ x, b ≠ 92) : ∀ (f : Nat) (acc : List (List UInt8)), ws.length < f → wds f acc (qs q ws) = some (acc ++ ws) := by
  have hbq : blk q = false := by rcases hq with rfl | rfl <;> rfl
  induction ws with
  | nil =>
    intro f acc hf
    obtain ⟨f, rfl⟩ : ∃ g, f = g + 1 := ⟨f - 1, by simp at hf; omega⟩
    rw [qs, wds_done (by rfl), List.append_nil]
  | cons x ws ih =>
    intro f acc hf
    obtain ⟨f, rfl⟩ : ∃ g, f = g + 1 := ⟨f - 1, by simp at hf; omega⟩
    have e : qs q (x :: ws) = 32 :: q :: (esc q x ++ q :: qs q ws) := by simp [qs]
    have hd : (32 :: q :: (esc q x ++ q :: qs q ws) : List UInt8).dropWhile blk = q :: (esc q x ++ q :: qs q ws) := by
      rw [List.dropWhile_cons_of_pos (by rfl), List.dropWhile_cons_of_neg (by rw [hbq]; simp)]
    have hqq : q = 34 ∨ q = 39 := hq
    have hw : wrd [] (q :: (esc q x ++ q :: qs q ws)) = some (x, qs q ws) := by
      rw [wrd_some hbq hqq (quo_esc_all q hq (qs q ws) x (hx.imp id fun h => h x (by simp)) [])]
      rw [if_pos]
      · rfl
      · cases ws with
        | nil => rfl
        | cons y ws => rfl
    rw [e, wds_step hd hw, ih (hx.imp id fun h y hy => h y (by simp [hy])) f _ (by simp at hf; omega), List.append_assoc]
    rfl
theorem wordsL_qs (q : UInt8) (hq : q = 34 ∨ q = 39) (ws : List (List UInt8)) (hx : q = 34 ∨ ∀ x ∈ ws, ∀ b ∈ x, b ≠ 92) (hl : ws.length ≤ 256) : wordsL (qs q ws) = some ws := by
  rw [wordsL_few, wds_qs q hq ws hx]
  · unfold few256
    simp only [List.nil_append]
    rw [if_neg (by omega)]
  · have : ws.length ≤ (qs q ws).length := by
      clear hx hl
      induction ws with
      | nil => simp
      | cons x ws ih => simp [qs]; omega
    omega
theorem take_one {α : Type} (l : List α) (k : Nat) (x : α) (h : l[k]? = some x) : l.take (k + 1) = l.take k ++ [x] := by
  rw [List.take_add_one, h]; rfl
theorem bs_lsts (ls : List ByteArray) : (ls.map lst).map bs = ls := by
  rw [List.map_map]
  conv => rhs; rw [← List.map_id ls]
  exact List.map_congr_left fun s _ => bs_lst s

set_option maxHeartbeats 4000000 in
set_option maxRecDepth 100000 in
theorem quotes_single (a : Option Addr) (n c : Nat) (ls : List ByteArray) (w : World) (hg : GL w) (h : RdS w a n ls) :
    Calls Try.prog 7 #[.slice a n c, .bool true] w fun e w' => e = .returned (.bool true) ∧ Below w.heap.size w w' := by
  have HFW := Few_any a n c ls 10 20 w h (by omega) (by omega)
  obtain ⟨F, hF⟩ : ∃ F, fewL 10 20 ls = F := ⟨_, rfl⟩
  have hfl := fewL_len 10 20 ls
  have hfs := fewL_size 10 20 ls (by omega)
  rw [hF] at HFW hfl hfs
  have HFL : Hid (F.length ≤ 10) := hfl
  have HFS : Hid (∀ s ∈ F, (s.size : Int) ≤ 20) := hfs
  have HG : Hid (GL w) := hg
  clear hF hfl hfs hg h
  go_enter Try.func7, Try.ntmps7
  go_wp2_with (go_at_call 19; refine HFW.mono ?_; rintro e w1 ⟨hB1, a1, n1, c1, rfl, hO1⟩; have hn1 : n1 = F.length := hO1.len.symm; have hn10 : n1 ≤ 10 := (by have := HFL.out; omega); have HN1 : Hid (n1 = F.length) := hn1; have HB1 : Hid (Below w.heap.size w w1) := hB1; have HO1 : Hid (OwnS w1 w.heap.size a1 n1 c1 F) := hO1; clear hB1 hO1 hn1)
  go_loopg [5, 6] n1 (fun g sv iv wr => w1 = wr ∧ ∃ i : Nat, sv = .string (bs (qs 39 ((F.take i).map lst))) ∧ iv = .int .i64 i ∧ Hid (i + g = n1) ∧ Hid (39 = (34 : UInt8) ∨ ∀ x ∈ (F.take i).map lst, ∀ b ∈ x, b ≠ (92 : UInt8)))
  case atStart => exact ⟨rfl, 0, rfl, rfl, by show _ = _; omega, .inr fun x hx => by simp at hx⟩
  case round =>
    obtain ⟨rfl, i, rfl, rfl, HI, HNB⟩ := hrel
    have HQL : Hid ((qs 39 ((F.take i).map lst)).length ≤ 430) := by
      have h1 := qs_len 39 ((F.take i).map lst) 20 (by
        intro x hx
        rw [List.mem_map] at hx
        obtain ⟨y, hy, rfl⟩ := hx
        rw [len_lst]
        have := HFS.out y (List.mem_of_mem_take hy)
        omega)
      rw [List.length_map, List.length_take] at h1
      have h2 : min i F.length ≤ 10 := by have := HFL.out; omega
      have h3 := Nat.mul_le_mul_right (2 * 20 + 3) h2
      show _ ≤ _
      omega
    by_cases hi : (i : Int) < n1
    · have hin : i < n1 := by omega
      obtain ⟨W, hW⟩ : ∃ W, F.getD i ByteArray.empty = W := ⟨_, rfl⟩
      have HFW2 : Hid ((F.take (i + 1)).map lst = (F.take i).map lst ++ [lst W]) := by
        show _ = _
        rw [← hW, take_snoc F i ByteArray.empty (by rw [← HN1.out]; exact hin), List.map_append]; rfl
      have hws : W.size ≤ 20 := by
        rw [← hW, List.getD_eq_getElem?_getD, List.getElem?_eq_getElem (by rw [← HN1.out]; exact hin)]
        have := HFS.out _ (List.getElem_mem (by rw [← HN1.out]; exact hin))
        simp only [Option.getD_some]
        omega
      obtain ⟨g, off, rfl, hc⟩ := HO1.out.rd.cell i hin
      rw [hW] at hc
      obtain ⟨sb, hsb⟩ : ∃ sb, bs (qs 39 ((F.take i).map lst)) = sb := ⟨_, rfl⟩
      have HSB : Hid (bs (qs 39 ((F.take i).map lst)) = sb) := hsb
      have hsbl : sb.size ≤ 430 := by rw [← hsb, size_bs]; exact HQL.out
      rw [hsb]
      clear hsb hW
      obtain ⟨f, rfl⟩ : ∃ f, gk = f + 1 := ⟨gk - 1, by have := HI.out; omega⟩
      obtain ⟨wa, rfl⟩ : ∃ wa, wa = w1 := ⟨_, rfl⟩
      have HW20 : Hid (W.size ≤ 20) := hws
      go_wp2
      go_loopg [7, 8] W.size (fun g wv kv wx => wa = wx ∧ ∃ k : Nat, wv = .string (bs (esc 39 ((lst W).take k))) ∧ kv = .int .i64 k ∧ Hid (k + g = W.size) ∧ Hid (39 = (34 : UInt8) ∨ ∀ b ∈ (lst W).take k, b ≠ (92 : UInt8)))
      case atStart => exact ⟨rfl, 0, rfl, rfl, by show _ = _; omega, .inr fun x hx => by simp at hx⟩
      case round =>
        obtain ⟨rfl, k, rfl, rfl, HK, HNK⟩ := hrel
        have HEL : Hid ((esc 39 ((lst W).take k)).length ≤ 40) := by
          have h1 := esc_len 39 ((lst W).take k)
          rw [List.length_take, len_lst] at h1
          have := HW20.out
          show _ ≤ _
          omega
        obtain ⟨eb, heb⟩ : ∃ eb, bs (esc 39 ((lst W).take k)) = eb := ⟨_, rfl⟩
        have HEB : Hid (bs (esc 39 ((lst W).take k)) = eb) := heb
        have hebl : eb.size ≤ 40 := by rw [← heb, size_bs]; exact HEL.out
        rw [heb]
        clear heb
        by_cases hk : (k : Int) < W.size
        · have hkn : k < W.size := by omega
          obtain ⟨x, hx⟩ : ∃ c : Int, ((W[k]'hkn).toNat : Int) = c := ⟨_, rfl⟩
          obtain ⟨b, hb⟩ : ∃ b, W[k]'hkn = b := ⟨_, rfl⟩
          have HGB : Hid ((lst W)[k]? = some b) := by show _ = _; rw [get_lst W k hkn, hb]
          have HTK : Hid ((lst W).take (k + 1) = (lst W).take k ++ [b]) := take_one _ _ _ HGB.out
          obtain ⟨C, hC⟩ : ∃ C, bs [b] = C := ⟨_, rfl⟩
          have hex : W.extract k (k + 1) = C := by
            rw [extract_lst, List.drop_eq_getElem_cons (by rw [len_lst]; exact hkn), Nat.add_sub_cancel_left, ← hC]
            have := HGB.out
            rw [List.getElem?_eq_getElem (by rw [len_lst]; exact hkn)] at this
            rw [Option.some.inj this]; rfl
          have hcl : C.size = 1 := by rw [← hC]; rfl
          have HCT : ∀ d, Hid ((C.toList == [d]) = decide (b = d)) := by
            intro d
            show _ = _
            rw [← hC, ByteArray.toList_eq, Bool.eq_iff_iff]
            simp [bs]
          have HCB : Hid (bs [b] = C) := hC
          clear hC hx hb
          by_cases h39 : b = 39
          · have hc1 : (C.toList == [39]) = true := by rw [(HCT 39).out, decide_eq_true h39]
            have hcat : eb ++ (⟨#[92, 39]⟩ : ByteArray) = bs (esc 39 ((lst W).take (k + 1))) := by
              rw [HTK.out, esc_append, ← append_bs, HEB.out]
              congr 1
              show _ = bs (escB 39 b ++ [])
              rw [h39]; rfl
            obtain ⟨nb, hnb⟩ : ∃ nb, bs (esc 39 ((lst W).take (k + 1))) = nb := ⟨_, rfl⟩
            rw [hnb] at hcat
            have HN2 : Hid (bs (esc 39 ((lst W).take (k + 1))) = nb) := hnb
            have HNK2 : Hid (39 = (34 : UInt8) ∨ ∀ b' ∈ (lst W).take (k + 1), b' ≠ (92 : UInt8)) := by
              rw [HTK.out]; exact HNK.out.imp id fun h b2 hb2 => (List.mem_append.1 hb2).elim (h b2) (fun h3 => by rw [List.mem_singleton.1 h3, h39]; decide)
            clear HCT h39 hnb
            go_wp2
            go_roundg (gk - 1)
            case measure => have := HK.out; omega
            case rel => exact ⟨rfl, k + 1, by show _ = _; rw [HN2.out], by go_num, by have := HK.out; show _ = _; omega, HNK2⟩
          · have hc1 : (C.toList == [39]) = false := by rw [(HCT 39).out, decide_eq_false h39]
            by_cases h92 : b = 92
            · have hc2 : (C.toList == [92]) = true := by rw [(HCT 92).out, decide_eq_true h92]
              clear HCT
              go_wp2_with (go_at_call 13; refine (known_any _ (HG.out.keep HB1.out)).mono ?_; rintro e w10 ⟨rfl, hB10⟩; have HB10 : Hid (Below w.heap.size w w10) := HB1.out.trans (hB10.mono HB1.out.size); clear hB10)
              go_ret
              exact ⟨rfl, HB10.out⟩
            · have hc2 : (C.toList == [92]) = false := by rw [(HCT 92).out, decide_eq_false h92]
              have HN2 : Hid (bs (esc 39 ((lst W).take (k + 1))) = eb ++ C) := by
                show _ = _
                rw [HTK.out, esc_append, ← append_bs, HEB.out, ← HCB.out]
                congr 1
                show bs (escB 39 b ++ []) = _
                rw [List.append_nil, escB, if_neg (by rintro (h | ⟨h, -⟩); exact h39 h; cases h)]
              have HNK2 : Hid (39 = (34 : UInt8) ∨ ∀ b' ∈ (lst W).take (k + 1), b' ≠ (92 : UInt8)) := by
                rw [HTK.out]; exact HNK.out.imp id fun h b2 hb2 => (List.mem_append.1 hb2).elim (h b2) (fun h3 => by rw [List.mem_singleton.1 h3]; exact h92)
              clear HCT h39 h92
              go_wp2
              go_roundg (gk - 1)
              case measure => have := HK.out; omega
              case rel => exact ⟨rfl, k + 1, by show _ = _; rw [HN2.out], by go_num, by have := HK.out; show _ = _; omega, HNK2⟩
        · have HQN : Hid (qs 39 ((F.take (i + 1)).map lst) = qs 39 ((F.take i).map lst) ++ ([32, 39] ++ esc 39 (lst W) ++ [39])) := by
            show _ = _
            rw [HFW2.out, qs_append]; simp [qs]
          have HEW : Hid (bs (esc 39 (lst W)) = eb) := by
            have := HEB.out
            rw [List.take_of_length_le (by rw [len_lst]; omega)] at this
            exact this
          have HNBW : Hid (39 = (34 : UInt8) ∨ ∀ x ∈ (F.take (i + 1)).map lst, ∀ b ∈ x, b ≠ (92 : UInt8)) := by
            have h1 := HNB.out
            have h2 := HNK.out
            rw [List.take_of_length_le (by rw [len_lst]; omega)] at h2
            rw [HFW2.out]
            rcases h1 with h1 | h1
            · exact .inl (by first | exact h1 | rfl)
            · rcases h2 with h2 | h2
              · exact .inl (by first | exact h2 | rfl)
              · exact .inr fun x hx => (List.mem_append.1 hx).elim (h1 x) (fun h3 => by rw [List.mem_singleton.1 h3]; exact h2)
          obtain ⟨e1, hcat1, he1⟩ : ∃ e1, sb ++ (⟨#[32, 39]⟩ : ByteArray) = e1 ∧ e1.size = sb.size + 2 := ⟨_, rfl, by simp; rfl⟩
          obtain ⟨e2, hcat2, he2⟩ : ∃ e2, e1 ++ eb = e2 ∧ e2.size = e1.size + eb.size := ⟨_, rfl, by simp⟩
          obtain ⟨e3, hcat3⟩ : ∃ e3, e2 ++ (⟨#[39]⟩ : ByteArray) = e3 := ⟨_, rfl⟩
          have HSN : Hid (bs (qs 39 ((F.take (i + 1)).map lst)) = e3) := by
            show _ = _
            rw [HQN.out, ← append_bs, ← append_bs, ← append_bs, HSB.out, HEW.out, ← hcat3, ← hcat2, ← hcat1, ByteArray.append_assoc, ByteArray.append_assoc, ByteArray.append_assoc]
            rfl
          go_wp2
          go_roundg f
          case measure => omega
          case rel => exact ⟨rfl, i + 1, by show _ = _; rw [HSN.out], by go_num, by have := HI.out; show _ = _; omega, HNBW⟩
    · have HTI : Hid ((F.take i).map lst = F.map lst) := by show _ = _; rw [List.take_of_length_le (by rw [← HN1.out]; omega)]
      have HWQ := fun w => Words_any (bs (qs 39 (F.map lst))) w (by rw [size_bs, ← HTI.out]; have := HQL.out; omega)
      have HNB2 := HNB.out
      rw [HTI.out] at HNB2
      rw [lst_bs, wordsL_qs 39 (by decide) (F.map lst) HNB2 (by rw [List.length_map]; have := HFL.out; omega)] at HWQ
      obtain ⟨sb, hsb⟩ : ∃ sb, bs (qs 39 (F.map lst)) = sb := ⟨_, rfl⟩
      rw [hsb] at HWQ
      have hsb2 : bs (qs 39 ((F.take i).map lst)) = sb := by rw [HTI.out]; exact hsb
      rw [hsb2]
      clear HNB2 hsb hsb2
      go_wp2_with (first
        | (go_at_call 20; refine (HWQ _).mono ?_; rintro e w2 ⟨hB2, a2, n2, c2, rfl, hO2⟩; have HB2 : Hid (Below w.heap.size w w2) := HB1.out.trans (hB2.mono HB1.out.size); have HL2 := Lists_same hO2 (by rw [bs_lsts]; exact HO1.out.keep hB2); clear hB2 hO2)
        | (go_at_call 18; refine HL2.mono ?_; rintro e w4 ⟨rfl, q4, hw4⟩; have HB4 : Hid (Below w.heap.size w w4) := (by rw [hw4]; exact HB2.out.trans ((below_drewN _ _).mono HB2.out.size)); clear hw4)
        | (go_at_call 13; refine (known_any _ (HG.out.keep HB4.out)).mono ?_; rintro e w10 ⟨rfl, hB10⟩; have HB10 : Hid (Below w.heap.size w w10) := HB4.out.trans (hB10.mono HB4.out.size); clear hB10))
      go_ret
      exact ⟨rfl, HB10.out⟩

set_option maxHeartbeats 4000000 in
set_option maxRecDepth 100000 in
theorem quotes_double (a : Option Addr) (n c : Nat) (ls : List ByteArray) (w : World) (hg : GL w) (h : RdS w a n ls) :
    Calls Try.prog 7 #[.slice a n c, .bool false] w fun e w' => e = .returned (.bool true) ∧ Below w.heap.size w w' := by
  have HFW := Few_any a n c ls 10 20 w h (by omega) (by omega)
  obtain ⟨F, hF⟩ : ∃ F, fewL 10 20 ls = F := ⟨_, rfl⟩
  have hfl := fewL_len 10 20 ls
  have hfs := fewL_size 10 20 ls (by omega)
  rw [hF] at HFW hfl hfs
  have HFL : Hid (F.length ≤ 10) := hfl
  have HFS : Hid (∀ s ∈ F, (s.size : Int) ≤ 20) := hfs
  have HG : Hid (GL w) := hg
  clear hF hfl hfs hg h
  go_enter Try.func7, Try.ntmps7
  go_wp2_with (go_at_call 19; refine HFW.mono ?_; rintro e w1 ⟨hB1, a1, n1, c1, rfl, hO1⟩; have hn1 : n1 = F.length := hO1.len.symm; have hn10 : n1 ≤ 10 := (by have := HFL.out; omega); have HN1 : Hid (n1 = F.length) := hn1; have HB1 : Hid (Below w.heap.size w w1) := hB1; have HO1 : Hid (OwnS w1 w.heap.size a1 n1 c1 F) := hO1; clear hB1 hO1 hn1)
  go_loopg [5, 6] n1 (fun g sv iv wr => w1 = wr ∧ ∃ i : Nat, sv = .string (bs (qs 34 ((F.take i).map lst))) ∧ iv = .int .i64 i ∧ Hid (i + g = n1) ∧ Hid (34 = (34 : UInt8) ∨ ∀ x ∈ (F.take i).map lst, ∀ b ∈ x, b ≠ (92 : UInt8)))
  case atStart => exact ⟨rfl, 0, rfl, rfl, by show _ = _; omega, .inr fun x hx => by simp at hx⟩
  case round =>
    obtain ⟨rfl, i, rfl, rfl, HI, HNB⟩ := hrel
    have HQL : Hid ((qs 34 ((F.take i).map lst)).length ≤ 430) := by
      have h1 := qs_len 34 ((F.take i).map lst) 20 (by
        intro x hx
        rw [List.mem_map] at hx
        obtain ⟨y, hy, rfl⟩ := hx
        rw [len_lst]
        have := HFS.out y (List.mem_of_mem_take hy)
        omega)
      rw [List.length_map, List.length_take] at h1
      have h2 : min i F.length ≤ 10 := by have := HFL.out; omega
      have h3 := Nat.mul_le_mul_right (2 * 20 + 3) h2
      show _ ≤ _
      omega
    by_cases hi : (i : Int) < n1
    · have hin : i < n1 := by omega
      obtain ⟨W, hW⟩ : ∃ W, F.getD i ByteArray.empty = W := ⟨_, rfl⟩
      have HFW2 : Hid ((F.take (i + 1)).map lst = (F.take i).map lst ++ [lst W]) := by
        show _ = _
        rw [← hW, take_snoc F i ByteArray.empty (by rw [← HN1.out]; exact hin), List.map_append]; rfl
      have hws : W.size ≤ 20 := by
        rw [← hW, List.getD_eq_getElem?_getD, List.getElem?_eq_getElem (by rw [← HN1.out]; exact hin)]
        have := HFS.out _ (List.getElem_mem (by rw [← HN1.out]; exact hin))
        simp only [Option.getD_some]
        omega
      obtain ⟨g, off, rfl, hc⟩ := HO1.out.rd.cell i hin
      rw [hW] at hc
      obtain ⟨sb, hsb⟩ : ∃ sb, bs (qs 34 ((F.take i).map lst)) = sb := ⟨_, rfl⟩
      have HSB : Hid (bs (qs 34 ((F.take i).map lst)) = sb) := hsb
      have hsbl : sb.size ≤ 430 := by rw [← hsb, size_bs]; exact HQL.out
      rw [hsb]
      clear hsb hW
      obtain ⟨f, rfl⟩ : ∃ f, gk = f + 1 := ⟨gk - 1, by have := HI.out; omega⟩
      obtain ⟨wa, rfl⟩ : ∃ wa, wa = w1 := ⟨_, rfl⟩
      have HW20 : Hid (W.size ≤ 20) := hws
      go_wp2
      go_loopg [7, 8] W.size (fun g wv kv wx => wa = wx ∧ ∃ k : Nat, wv = .string (bs (esc 34 ((lst W).take k))) ∧ kv = .int .i64 k ∧ Hid (k + g = W.size) ∧ Hid (34 = (34 : UInt8) ∨ ∀ b ∈ (lst W).take k, b ≠ (92 : UInt8)))
      case atStart => exact ⟨rfl, 0, rfl, rfl, by show _ = _; omega, .inr fun x hx => by simp at hx⟩
      case round =>
        obtain ⟨rfl, k, rfl, rfl, HK, HNK⟩ := hrel
        have HEL : Hid ((esc 34 ((lst W).take k)).length ≤ 40) := by
          have h1 := esc_len 34 ((lst W).take k)
          rw [List.length_take, len_lst] at h1
          have := HW20.out
          show _ ≤ _
          omega
        obtain ⟨eb, heb⟩ : ∃ eb, bs (esc 34 ((lst W).take k)) = eb := ⟨_, rfl⟩
        have HEB : Hid (bs (esc 34 ((lst W).take k)) = eb) := heb
        have hebl : eb.size ≤ 40 := by rw [← heb, size_bs]; exact HEL.out
        rw [heb]
        clear heb
        by_cases hk : (k : Int) < W.size
        · have hkn : k < W.size := by omega
          obtain ⟨x, hx⟩ : ∃ c : Int, ((W[k]'hkn).toNat : Int) = c := ⟨_, rfl⟩
          obtain ⟨b, hb⟩ : ∃ b, W[k]'hkn = b := ⟨_, rfl⟩
          have HGB : Hid ((lst W)[k]? = some b) := by show _ = _; rw [get_lst W k hkn, hb]
          have HTK : Hid ((lst W).take (k + 1) = (lst W).take k ++ [b]) := take_one _ _ _ HGB.out
          obtain ⟨C, hC⟩ : ∃ C, bs [b] = C := ⟨_, rfl⟩
          have hex : W.extract k (k + 1) = C := by
            rw [extract_lst, List.drop_eq_getElem_cons (by rw [len_lst]; exact hkn), Nat.add_sub_cancel_left, ← hC]
            have := HGB.out
            rw [List.getElem?_eq_getElem (by rw [len_lst]; exact hkn)] at this
            rw [Option.some.inj this]; rfl
          have hcl : C.size = 1 := by rw [← hC]; rfl
          have HCT : ∀ d, Hid ((C.toList == [d]) = decide (b = d)) := by
            intro d
            show _ = _
            rw [← hC, ByteArray.toList_eq, Bool.eq_iff_iff]
            simp [bs]
          have HCB : Hid (bs [b] = C) := hC
          clear hC hx hb
          by_cases h34 : b = 34
          · have hc1 : (C.toList == [34]) = true := by rw [(HCT 34).out, decide_eq_true h34]
            have hcat1 : ∃ e1, eb ++ (⟨#[92]⟩ : ByteArray) = e1 ∧ e1.size = eb.size + 1 := ⟨_, rfl, by simp; rfl⟩
            obtain ⟨e1, hcat1, he1⟩ := hcat1
            have hcat2 : e1 ++ C = bs (esc 34 ((lst W).take (k + 1))) := by
              rw [HTK.out, esc_append, ← append_bs, HEB.out, ← hcat1, ← HCB.out, ByteArray.append_assoc]
              congr 1
              show _ = bs (escB 34 b ++ [])
              rw [List.append_nil, escB, if_pos (.inl h34)]; rfl
            obtain ⟨nb, hnb⟩ : ∃ nb, bs (esc 34 ((lst W).take (k + 1))) = nb := ⟨_, rfl⟩
            rw [hnb] at hcat2
            have HN2 : Hid (bs (esc 34 ((lst W).take (k + 1))) = nb) := hnb
            have HNK2 : Hid (34 = (34 : UInt8) ∨ ∀ b' ∈ (lst W).take (k + 1), b' ≠ (92 : UInt8)) := .inl rfl
            clear HCT h34 hnb
            go_wp2
            go_roundg (gk - 1)
            case measure => have := HK.out; omega
            case rel => exact ⟨rfl, k + 1, by show _ = _; rw [HN2.out], by go_num, by have := HK.out; show _ = _; omega, HNK2⟩
          · have hc1 : (C.toList == [34]) = false := by rw [(HCT 34).out, decide_eq_false h34]
            by_cases h92 : b = 92
            · have hc2 : (C.toList == [92]) = true := by rw [(HCT 92).out, decide_eq_true h92]
              have hcat1 : ∃ e1, eb ++ (⟨#[92]⟩ : ByteArray) = e1 ∧ e1.size = eb.size + 1 := ⟨_, rfl, by simp; rfl⟩
              obtain ⟨e1, hcat1, he1⟩ := hcat1
              have hcat2 : e1 ++ C = bs (esc 34 ((lst W).take (k + 1))) := by
                rw [HTK.out, esc_append, ← append_bs, HEB.out, ← hcat1, ← HCB.out, ByteArray.append_assoc]
                congr 1
                show _ = bs (escB 34 b ++ [])
                rw [List.append_nil, escB, if_pos (.inr ⟨rfl, h92⟩)]; rfl
              obtain ⟨nb, hnb⟩ : ∃ nb, bs (esc 34 ((lst W).take (k + 1))) = nb := ⟨_, rfl⟩
              rw [hnb] at hcat2
              have HN2 : Hid (bs (esc 34 ((lst W).take (k + 1))) = nb) := hnb
              have HNK2 : Hid (34 = (34 : UInt8) ∨ ∀ b' ∈ (lst W).take (k + 1), b' ≠ (92 : UInt8)) := .inl rfl
              clear HCT h34 h92 hnb
              go_wp2
              go_roundg (gk - 1)
              case measure => have := HK.out; omega
              case rel => exact ⟨rfl, k + 1, by show _ = _; rw [HN2.out], by go_num, by have := HK.out; show _ = _; omega, HNK2⟩
            · have hc2 : (C.toList == [92]) = false := by rw [(HCT 92).out, decide_eq_false h92]
              have HN2 : Hid (bs (esc 34 ((lst W).take (k + 1))) = eb ++ C) := by
                show _ = _
                rw [HTK.out, esc_append, ← append_bs, HEB.out, ← HCB.out]
                congr 1
                show bs (escB 34 b ++ []) = _
                rw [List.append_nil, escB, if_neg (by rintro (h | ⟨-, h⟩); exact h34 h; exact h92 h)]
              have HNK2 : Hid (34 = (34 : UInt8) ∨ ∀ b' ∈ (lst W).take (k + 1), b' ≠ (92 : UInt8)) := by
                exact .inl rfl
              clear HCT h34 h92
              go_wp2
              go_roundg (gk - 1)
              case measure => have := HK.out; omega
              case rel => exact ⟨rfl, k + 1, by show _ = _; rw [HN2.out], by go_num, by have := HK.out; show _ = _; omega, HNK2⟩
        · have HQN : Hid (qs 34 ((F.take (i + 1)).map lst) = qs 34 ((F.take i).map lst) ++ ([32, 34] ++ esc 34 (lst W) ++ [34])) := by
            show _ = _
            rw [HFW2.out, qs_append]; simp [qs]
          have HEW : Hid (bs (esc 34 (lst W)) = eb) := by
            have := HEB.out
            rw [List.take_of_length_le (by rw [len_lst]; omega)] at this
            exact this
          have HNBW : Hid (34 = (34 : UInt8) ∨ ∀ x ∈ (F.take (i + 1)).map lst, ∀ b ∈ x, b ≠ (92 : UInt8)) := by
            have h1 := HNB.out
            have h2 := HNK.out
            rw [List.take_of_length_le (by rw [len_lst]; omega)] at h2
            rw [HFW2.out]
            rcases h1 with h1 | h1
            · exact .inl (by first | exact h1 | rfl)
            · rcases h2 with h2 | h2
              · exact .inl (by first | exact h2 | rfl)
              · exact .inr fun x hx => (List.mem_append.1 hx).elim (h1 x) (fun h3 => by rw [List.mem_singleton.1 h3]; exact h2)
          obtain ⟨e1, hcat1, he1⟩ : ∃ e1, sb ++ (⟨#[32, 34]⟩ : ByteArray) = e1 ∧ e1.size = sb.size + 2 := ⟨_, rfl, by simp; rfl⟩
          obtain ⟨e2, hcat2, he2⟩ : ∃ e2, e1 ++ eb = e2 ∧ e2.size = e1.size + eb.size := ⟨_, rfl, by simp⟩
          obtain ⟨e3, hcat3⟩ : ∃ e3, e2 ++ (⟨#[34]⟩ : ByteArray) = e3 := ⟨_, rfl⟩
          have HSN : Hid (bs (qs 34 ((F.take (i + 1)).map lst)) = e3) := by
            show _ = _
            rw [HQN.out, ← append_bs, ← append_bs, ← append_bs, HSB.out, HEW.out, ← hcat3, ← hcat2, ← hcat1, ByteArray.append_assoc, ByteArray.append_assoc, ByteArray.append_assoc]
            rfl
          go_wp2
          go_roundg f
          case measure => omega
          case rel => exact ⟨rfl, i + 1, by show _ = _; rw [HSN.out], by go_num, by have := HI.out; show _ = _; omega, HNBW⟩
    · have HTI : Hid ((F.take i).map lst = F.map lst) := by show _ = _; rw [List.take_of_length_le (by rw [← HN1.out]; omega)]
      have HWQ := fun w => Words_any (bs (qs 34 (F.map lst))) w (by rw [size_bs, ← HTI.out]; have := HQL.out; omega)
      have HNB2 := HNB.out
      rw [HTI.out] at HNB2
      rw [lst_bs, wordsL_qs 34 (by decide) (F.map lst) HNB2 (by rw [List.length_map]; have := HFL.out; omega)] at HWQ
      obtain ⟨sb, hsb⟩ : ∃ sb, bs (qs 34 (F.map lst)) = sb := ⟨_, rfl⟩
      rw [hsb] at HWQ
      have hsb2 : bs (qs 34 ((F.take i).map lst)) = sb := by rw [HTI.out]; exact hsb
      rw [hsb2]
      clear HNB2 hsb hsb2
      go_wp2_with (first
        | (go_at_call 20; refine (HWQ _).mono ?_; rintro e w2 ⟨hB2, a2, n2, c2, rfl, hO2⟩; have HB2 : Hid (Below w.heap.size w w2) := HB1.out.trans (hB2.mono HB1.out.size); have HL2 := Lists_same hO2 (by rw [bs_lsts]; exact HO1.out.keep hB2); clear hB2 hO2)
        | (go_at_call 18; refine HL2.mono ?_; rintro e w4 ⟨rfl, q4, hw4⟩; have HB4 : Hid (Below w.heap.size w w4) := (by rw [hw4]; exact HB2.out.trans ((below_drewN _ _).mono HB2.out.size)); clear hw4)
        | (go_at_call 13; refine (known_any _ (HG.out.keep HB4.out)).mono ?_; rintro e w10 ⟨rfl, hB10⟩; have HB10 : Hid (Below w.heap.size w w10) := HB4.out.trans (hB10.mono HB4.out.size); clear hB10))
      go_ret
      exact ⟨rfl, HB10.out⟩

theorem quotes_any (a : Option Addr) (n c : Nat) (ls : List ByteArray) (single : Bool) (w : World) (hg : GL w) (h : RdS w a n ls) :
    Calls Try.prog 7 #[.slice a n c, .bool single] w fun e w' => e = .returned (.bool true) ∧ Below w.heap.size w w' := by
  cases single
  · exact quotes_double a n c ls w hg h
  · exact quotes_single a n c ls w hg h
end Go.Proofs.Ytkoepgjdjbmknaa
