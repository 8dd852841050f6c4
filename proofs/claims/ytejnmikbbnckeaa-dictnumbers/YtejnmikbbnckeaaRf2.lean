/-
  The document's own dict: Has, All, Bucket, Scan.
-/
import Derived.Test.YtejnmikbbnckeaaRf
namespace Go.Proofs.Ytejnmikbbnckeaa
open Go.RowKit Go.PlainAid

/-- Is a text among others? -/
def hasT (ls : List ByteArray) (k : ByteArray) : Bool := ls.any fun t => decide (t = k)
theorem hasT_iff {ls : List ByteArray} {k : ByteArray} : hasT ls k = true ↔ k ∈ ls := by
  unfold hasT
  rw [List.any_eq_true]
  constructor
  · rintro ⟨e, he, h⟩
    exact of_decide_eq_true h ▸ he
  · intro h
    exact ⟨k, h, decide_eq_true rfl⟩
theorem hasT_no {ls : List ByteArray} {k : ByteArray} (h : k ∉ ls) : hasT ls k = false := by
  cases e : hasT ls k with
  | false => rfl
  | true => exact absurd (hasT_iff.1 e) h
theorem nodup_mid {α : Type} {a c : List α} {k : α} (h : (a ++ k :: c).Nodup) : k ∉ a ∧ k ∉ c := by
  rw [List.nodup_append, List.nodup_cons] at h
  exact ⟨fun hm => h.2.2 k hm k (by simp) rfl, h.2.1.1⟩
theorem RefD.nodp {w : World} {B r x g pr cap : Nat} {a c : List Rp} {p : Rp} (h : RefD w B r x g pr cap (a ++ p :: c)) : p.ks.Nodup := by
  have := h.nod
  rw [rks_append, rks_cons, List.nodup_append, List.nodup_append] at this
  exact this.2.1.1
theorem RefD.lep {w : World} {B r x g pr cap : Nat} {a c : List Rp} {p : Rp} (h : RefD w B r x g pr cap (a ++ p :: c)) : p.ks.length ≤ 1000000 := by
  have := h.le
  rw [rks_append, rks_cons, List.length_append, List.length_append] at this
  omega
theorem get_mid {α : Type} {a c : List α} {p : α} : (a ++ p :: c)[a.length]? = some p := by rw [List.getElem?_append_right (Nat.le_refl _), Nat.sub_self]; rfl

/-- Where a key is among a part's, or -1. -/
theorem at_any (a : Option Addr) (n cap : Nat) (ls : List ByteArray) (s : ByteArray) (w : World) (hO : OwnS w 0 a n cap ls) (hn : n ≤ 1000000) :
    Calls Try.prog 36 #[.slice a n cap, .string s] w fun e w' => (∃ z : Int, e = .returned (.int .i64 z) ∧ (hasT ls s = true ∧ 0 ≤ z ∨ hasT ls s = false ∧ z = -1)) ∧ w' = w := by
  by_cases h : s ∈ ls
  · have h1 : ∃ la lc, ls = la ++ s :: lc ∧ s ∉ la := by
      clear hO
      induction ls with
      | nil => cases h
      | cons t ls ih =>
        by_cases e : t = s
        · subst e; exact ⟨[], ls, rfl, by simp⟩
        · obtain ⟨la, lc, e1, e2⟩ := ih ((List.mem_cons.1 h).resolve_left (fun e2 => e e2.symm))
          exact ⟨t :: la, lc, by rw [e1]; rfl, by simp [e2]; exact fun e3 => e e3.symm⟩
    obtain ⟨la, lc, rfl, h2⟩ := h1
    refine (at_yes a n cap la lc s w hO hn h2).mono ?_
    rintro e w' ⟨rfl, rfl⟩
    exact ⟨⟨_, rfl, .inl ⟨hasT_iff.2 h, by omega⟩⟩, rfl⟩
  · refine (at_no a n cap ls s w hO hn h).mono ?_
    rintro e w' ⟨rfl, rfl⟩
    exact ⟨⟨_, rfl, .inr ⟨hasT_no h, rfl⟩⟩, rfl⟩

set_option maxHeartbeats 4000000 in
theorem Has_any (B r x g pr cap : Nat) (ps : List Rp) (k : ByteArray) (w : World) (hR : RefD w B r x g pr cap ps) (hks : k.size ≤ maxLen) :
    Calls Try.prog 48 #[ptr r, .string k] w fun e w' => e = .returned (.bool (hasT (rks ps) k)) ∧ Below w.heap.size w w' := by
  obtain ⟨pa, p, pc, eP, hi, h2, h3, hix⟩ := hR.parts (hsh x k)
  have HPa := fun w hR => part_any B r x g pr cap ps (hsh x k) w hR (hsh_lt x k)
  rw [hix] at HPa
  have hh : hasT (rks ps) k = hasT p.ks k := by
    rw [eP] at hR ⊢
    have := hR.filter h2 h3
    cases e : hasT p.ks k with
    | true => exact hasT_iff.2 (this.2 (hasT_iff.1 e))
    | false => exact hasT_no (fun hm => by have := hasT_iff.2 (this.1 hm); rw [e] at this; cases this)
  rw [hh]
  have HR : Hid (RefD w B r x g pr cap ps) := hR
  have hfew := hR.few
  have hlen : pa.length < ps.length := by rw [eP]; simp
  have hget : ps[pa.length]? = some p := by rw [eP]; exact get_mid
  have HCm : Hid (∀ w', Below w.heap.size w w' → (w'.cell? ⟨r, 0, none⟩ = some (.int .u64 (x : Nat)) ∧ w'.cell? ⟨r, 2, none⟩ = some (.slice (some ⟨pr, 0, none⟩) ps.length cap) ∧ w'.cell? ⟨pr, pa.length * 3 + 2, none⟩ = some (.slice p.a p.n p.cap)) ∧ OwnS w' 0 p.a p.n p.cap p.ks ∧ RefD w' B r x g pr cap ps) := fun w' hb => by
    have h := hR.keep hb
    exact ⟨⟨h.cseed, h.cpar, (h.at hget).2.2⟩, OwnR.low (h.key p (by rw [eP]; simp)) (Nat.zero_le _), h⟩
  have HOf := fun w => refOf_hsh x k w hks hR.seed
  have hle : p.ks.length ≤ 1000000 := by rw [eP] at hR; exact hR.lep
  have hnp : p.n ≤ 1000000 := by have := OwnS.len (hR.key p (by rw [eP]; simp)); omega
  have HAt := fun w hO => at_any p.a p.n p.cap p.ks k w hO hnp
  generalize hasT p.ks k = hb at HAt ⊢
  generalize ps.length = n at hfew hlen HCm
  generalize pa.length = m at hlen HCm HPa
  generalize p.a = aa at HCm HAt
  generalize p.cap = cc at HCm HAt
  generalize p.n = nn at HCm HAt hnp
  generalize p.ks = kk at HCm HAt
  generalize hsh x k = h at HOf HPa
  have hmn : (m : Int) < n := by omega
  have HD : Hid (Below w.heap.size w w.drew) := below_drewN w 1
  clear hR eP hi h2 h3 hix hh hget hks hle
  go_enter Try.func48, Try.ntmps48
  go_upto_region 1 with fail
  go_cut [4] from 5 to 22 (fun v wx => v = .bool hb ∧ Hid (Below w.heap.size w wx))
  case first =>
    go_region_held3 (fun w' => w'.cell? ⟨r, 0, none⟩ = some (.int .u64 (x : Nat)) ∧ w'.cell? ⟨r, 2, none⟩ = some (.slice (some ⟨pr, 0, none⟩) n cap) ∧ w'.cell? ⟨pr, m * 3 + 2, none⟩ = some (.slice aa nn cc)) (exact (HCm.out _ HD.out).1) (first
      | (go_at_call 22; refine (HOf _).mono ?_; rintro e wx ⟨rfl, rfl⟩)
      | (go_at_call 35; refine (HPa _ (HCm.out _ HD.out).2.2).mono ?_; rintro e wx ⟨rfl, hb⟩; replace HD := step_below HD hb; clear hb)
      | (go_at_call 36; refine (HAt _ (HCm.out _ HD.out).2.1).mono ?_; rintro e wx ⟨⟨z, rfl, hz⟩, rfl⟩))
    rcases hz with ⟨rfl, hz⟩ | ⟨rfl, rfl⟩
    · go_wp2
      go_meet
      exact ⟨rfl, HD⟩
    · go_wp2
      go_meet
      exact ⟨rfl, HD⟩
  case rest =>
  obtain ⟨rfl, HB⟩ := hcut
  go_wp2
  go_ret
  exact ⟨rfl, HB.out⟩

set_option maxHeartbeats 4000000 in
theorem All_any (B r x g pr cap : Nat) (ps : List Rp) (w : World) (hR : RefD w B r x g pr cap ps) :
    Calls Try.prog 45 #[ptr r] w fun e w' => Below w.heap.size w w' ∧ ∃ a n c, e = .returned (.slice a n c) ∧ OwnS w' w.heap.size a n c (rks ps) := by
  have HR : Hid (RefD w B r x g pr cap ps) := hR
  have hfew := hR.few
  have HTot : Hid ((rks ps).length ≤ 1000000) := hR.le
  generalize hn : ps.length = n at hfew
  have HN : Hid (ps.length = n) := hn
  have HO : Hid (OwnS w w.heap.size none 0 0 (rks (ps.take 0))) := OwnR.nil _ _ _ _
  clear hR hn
  go_enter Try.func45, Try.ntmps45
  go_wp2
  go_loopg [3, 4] n (fun q sv iv wr => ∃ (i : Nat) (a : Option Addr) (m c : Nat), i + q = n ∧ iv = .int .i64 i ∧ sv = .slice a m c ∧ Hid (OwnS wr w.heap.size a m c (rks (ps.take i))) ∧ Hid (Below w.heap.size w wr))
  case atStart => exact ⟨0, none, 0, 0, by omega, rfl, rfl, HO, Below.refl _ _⟩
  case round =>
    clear HO
    obtain ⟨i, a, m, c, hi, rfl, rfl, HO, HB⟩ := hrel
    have hRr := HR.out.keep HB.out
    have hc := hRr.cpar
    rw [HN.out] at hc
    by_cases h8 : (i : Int) < n
    · obtain ⟨p, hp, hpm⟩ := get_of_lt (l := ps) (i := i) (by have := HN.out; omega)
      obtain ⟨-, -, c2⟩ := hRr.at hp
      have HK : Hid (OwnS wr B p.a p.n p.cap p.ks) := hRr.key p hpm
      have HS : Hid (rks (ps.take (i + 1)) = rks (ps.take i) ++ p.ks) := by show _ = _; rw [take_more hp, rks_append]; congr 1; rw [rks_cons]; exact List.append_nil _
      have HN1 : Hid (m + p.n ≤ 1000000) := by
        have h1 := OwnS.len HO.out
        have h2 := OwnS.len HK.out
        have h3 := HTot.out
        rw [← List.take_append_drop (i + 1) ps, rks_append, List.length_append, HS.out, List.length_append] at h3
        show _ ≤ _
        omega
      generalize p.a = aa at c2 HK
      generalize p.n = nn at c2 HK HN1
      generalize p.cap = cc at c2 HK
      generalize p.ks = kk at HK HS
      have hsz := HB.out.size
      clear hRr hp hpm
      go_wp2_with (at_builtin; refine append_p rfl (.tmp 14) (.tmp 22) rfl eltS w.heap.size rfl HO.out rfl HK.out.rd scells_one (by have := HN1.out; omega) (by have := HN1.out; unfold maxLen; omega) hsz ?_; intro a3 n3 c3 w3 hn3 HO3 HG3; have HB3 : Hid (Below w.heap.size w w3) := HB.out.trans (HO.out.below HG3.out hsz))
      go_roundg (gk - 1)
      case measure => omega
      case rel => exact ⟨i + 1, _, _, _, by omega, by go_num, rfl, by rw [HS.out, ← hn3]; rw [← scells_append] at HO3; exact HO3, HB3⟩
    · have HT : Hid (ps.take i = ps) := by show _ = _; rw [List.take_of_length_le (by have := HN.out; omega)]
      rw [HT.out] at HO
      clear hRr
      go_wp2
      go_ret
      exact ⟨HB.out, _, _, _, rfl, HO.out⟩
end Go.Proofs.Ytejnmikbbnckeaa
