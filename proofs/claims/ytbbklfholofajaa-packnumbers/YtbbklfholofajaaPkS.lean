/-
  Set and Delete of a pack.
-/
import Derived.Test.YtbbklfholofajaaPkW
namespace Go.Proofs.Ytbbklfholofajaa
open Go.RowKit Go.PlainAid

theorem set_split (ls : List ByteArray) (k : Nat) (s : ByteArray) (h : k < ls.length) : ls.set k s = ls.take k ++ (s :: ls.drop (k + 1)) := by
  rw [List.set_eq_take_append_cons_drop, if_pos h]
theorem pack_set (ls : List ByteArray) (k : Nat) (s : ByteArray) (h : k < ls.length) : pack (ls.set k s) = (pack ls).take (off ls k) ++ (enc (lst s) ++ (pack ls).drop (off ls (k + 1))) := by
  rw [set_split ls k s h, pack_append, pack, take_off, drop_off]
theorem len_set (ls : List ByteArray) (k : Nat) (s : ByteArray) (h : k < ls.length) : (pack (ls.set k s)).length = (pack ls).length - (off ls (k + 1) - off ls k) + (enc (lst s)).length := by
  have h1 := off_le ls k
  have h2 := off_le ls (k + 1)
  have h3 := off_step ls h
  rw [pack_set ls k s h, List.length_append, List.length_append, List.length_take, List.length_drop]
  omega

theorem Set_index (B p : Nat) (a : Option Addr) (n c : Nat) (ls : List ByteArray) (i : Int) (s : ByteArray) (w : World) (hP : Pk w B p a n c (pack ls)) (hf : Fit ls) (hi2 : -9223372036854775808 ≤ i) (hk : plc ls.length i = none) :
    Calls Try.prog 12 #[ptr p, .int .i64 i, .string s] w fun e w' => Below w.heap.size w w' ∧ e = .returned (.int .i64 8) := by
  have HW := place_none B p a n c ls i w hP hf hi2 hk
  clear hP hf hk
  go_enter Try.func12, Try.ntmps12
  go_wp2_with fail
  refine HW.mono ?_
  rintro e w1 ⟨hb, x, rfl⟩
  have HB : Hid (Below w.heap.size w w1) := hb
  clear hb
  go_wp2
  go_ret
  exact ⟨HB.out, rfl⟩
theorem Set_long (B p : Nat) (a : Option Addr) (n c : Nat) (ls : List ByteArray) (i : Int) (k : Nat) (s : ByteArray) (w : World) (hP : Pk w B p a n c (pack ls)) (hf : Fit ls) (hi2 : -9223372036854775808 ≤ i) (hk : plc ls.length i = some k) (hs : 4096 < s.size) (hs2 : s.size ≤ 5000) :
    Calls Try.prog 12 #[ptr p, .int .i64 i, .string s] w fun e w' => Below w.heap.size w w' ∧ e = .returned (.int .i64 11) := by
  have HW := place_some B p a n c ls i k w hP hf hi2 hk
  have HE := fun w => Encode_long s w hs (by unfold maxLen; omega)
  obtain ⟨x, hx⟩ : ∃ x, off ls k = x := ⟨_, rfl⟩
  rw [hx] at HW
  clear hP hf hk hx hs hs2
  go_enter Try.func12, Try.ntmps12
  go_wp2_with fail
  refine HW.mono ?_
  rintro e w1 ⟨hb, rfl⟩
  have HB : Hid (Below w.heap.size w w1) := hb
  clear hb
  go_wp2_with fail
  refine (HE _).mono ?_
  rintro e w1 ⟨rfl, rfl⟩
  go_wp2
  go_ret
  exact ⟨HB.out, rfl⟩

set_option maxRecDepth 100000 in
set_option maxHeartbeats 4000000 in
theorem Set_full (B p : Nat) (a : Option Addr) (n c : Nat) (ls : List ByteArray) (i : Int) (k : Nat) (s : ByteArray) (w : World) (hP : Pk w B p a n c (pack ls)) (hf : Fit ls) (hn : n ≤ 65536) (hi2 : -9223372036854775808 ≤ i) (hk : plc ls.length i = some k) (hs : s.size ≤ 4096) (hx : 65536 < (pack (ls.set k s)).length) :
    Calls Try.prog 12 #[ptr p, .int .i64 i, .string s] w fun e w' => Below w.heap.size w w' ∧ e = .returned (.int .i64 23) := by
  have hkl := plc_lt hk
  have HW := place_some B p a n c ls i k w hP hf hi2 hk
  have HE := fun w => Encode_any s w hs
  have HK := fun (w1 : World) (h : Pk w1 B p a n c (pack ls)) => walk_any B p a n c ls k 1 w1 h hf (by omega)
  rw [show gone ls k 1 = 1 by unfold gone; omega] at HK
  have hl := len_set ls k s hkl
  have h1 := off_le ls (k + 1)
  have h2 := off_step ls hkl
  have h3 := hP.own.len
  have hel := (enc_len (lst s)).2
  rw [len_lst] at hel
  have HEL : Hid ((enc (lst s)).length ≤ 5000) := by show _ ≤ _; omega
  obtain ⟨x, hxx⟩ : ∃ x, off ls k = x := ⟨_, rfl⟩
  obtain ⟨y, hyy⟩ : ∃ y, off ls (k + 1) = y := ⟨_, rfl⟩
  rw [hxx] at HW hl h2
  rw [hyy] at hl h1 h2
  simp only [hxx, hyy] at HK
  have HX : Hid (65536 < n - (y - x) + (enc (lst s)).length) := by show _ < _; omega
  have hxy : x ≤ y := by omega
  have hyn : y ≤ n := by omega
  have HP : Hid (Pk w B p a n c (pack ls)) := hP
  clear hP hf hk hx hs hxx hyy hl h1 h2 h3 hkl hel
  go_enter Try.func12, Try.ntmps12
  go_wp2_with fail
  refine HW.mono ?_
  rintro e w1 ⟨hb, rfl⟩
  have HB : Hid (Below w.heap.size w w1) := hb
  clear hb
  go_wp2_with fail
  refine (HE _).mono ?_
  rintro e w2 ⟨hb, a3, n3, c3, rfl, hO⟩
  have HB2 := step_below HB hb
  have HO : Hid (Own w2 w1.heap.size a3 n3 c3 (enc (lst s))) := hO
  have HK2 := HK w2 (HP.out.keep HB2.out)
  clear hb hO
  go_wp2_with fail
  refine HK2.mono ?_
  rintro e w3 ⟨hb, rfl⟩
  have HB3 := step_below HB2 hb
  have HF := replace_full B p a n c (pack ls) a3 n3 c3 x y w3 (HP.out.keep HB3.out) hn hxy hyn (by have := HO.out.len; have := HEL.out; omega) (by have := HO.out.len; have := HX.out; omega)
  clear hb
  go_wp2_with fail
  refine HF.mono ?_
  rintro e w3 ⟨rfl, rfl⟩
  go_wp2
  go_ret
  exact ⟨HB3.out, rfl⟩

set_option maxRecDepth 100000 in
set_option maxHeartbeats 4000000 in
theorem Set_ok (B p : Nat) (a : Option Addr) (n c : Nat) (ls : List ByteArray) (i : Int) (k : Nat) (s : ByteArray) (w : World) (hP : Pk w B p a n c (pack ls)) (hf : Fit ls) (hn : n ≤ 65536) (hi2 : -9223372036854775808 ≤ i) (hk : plc ls.length i = some k) (hs : s.size ≤ 4096) (hx : (pack (ls.set k s)).length ≤ 65536) :
    Calls Try.prog 12 #[ptr p, .int .i64 i, .string s] w fun e w' => Turns w B p a (pack (ls.set k s)) (.int .i64 0) e w' := by
  have hkl := plc_lt hk
  have HW := place_some B p a n c ls i k w hP hf hi2 hk
  have HE := fun w => Encode_any s w hs
  have HK := fun (w1 : World) (h : Pk w1 B p a n c (pack ls)) => walk_any B p a n c ls k 1 w1 h hf (by omega)
  rw [show gone ls k 1 = 1 by unfold gone; omega] at HK
  have hl := len_set ls k s hkl
  have h1 := off_le ls (k + 1)
  have h2 := off_step ls hkl
  have h3 := hP.own.len
  have hel := (enc_len (lst s)).2
  have hel1 := (enc_len (lst s)).1
  rw [len_lst] at hel
  have HEL : Hid ((enc (lst s)).length ≤ 5000 ∧ 2 ≤ (enc (lst s)).length) := by show _ ∧ _; omega
  have HQ : Hid (pack (ls.set k s) = (pack ls).take (off ls k) ++ (enc (lst s) ++ (pack ls).drop (off ls (k + 1)))) := pack_set ls k s hkl
  obtain ⟨x, hxx⟩ : ∃ x, off ls k = x := ⟨_, rfl⟩
  obtain ⟨y, hyy⟩ : ∃ y, off ls (k + 1) = y := ⟨_, rfl⟩
  rw [hxx] at HW hl h2 HQ
  rw [hyy] at hl h1 h2 HQ
  simp only [hxx, hyy] at HK
  have HX : Hid (n - (y - x) + (enc (lst s)).length ≤ 65536) := by show _ ≤ _; omega
  have hxy : x ≤ y := by omega
  have hyn : y ≤ n := by omega
  have HP : Hid (Pk w B p a n c (pack ls)) := hP
  clear hP hf hk hx hs hxx hyy hl h1 h2 h3 hkl hel hel1
  go_enter Try.func12, Try.ntmps12
  go_wp2_with fail
  refine HW.mono ?_
  rintro e w1 ⟨hb, rfl⟩
  have HB : Hid (Below w.heap.size w w1) := hb
  clear hb
  go_wp2_with fail
  refine (HE _).mono ?_
  rintro e w2 ⟨hb, a3, n3, c3, rfl, hO⟩
  have HB2 := step_below HB hb
  have HO : Hid (Own w2 w1.heap.size a3 n3 c3 (enc (lst s))) := hO
  have HK2 := HK w2 (HP.out.keep HB2.out)
  clear hb hO
  go_wp2_with fail
  refine HK2.mono ?_
  rintro e w3 ⟨hb, rfl⟩
  have HB3 := step_below HB2 hb
  have HF := replace_ok B w1.heap.size p a n c (pack ls) a3 n3 c3 x y (enc (lst s)) w3 (HP.out.keep HB3.out) (HO.out.keep hb) (fun y hy => Nat.lt_of_lt_of_le (HP.out.own.old y hy) HB.out.size) hn hxy hyn (by have := HO.out.len; have := HEL.out; omega) (by have := HO.out.len; have := HEL.out; omega) (by have := HO.out.len; have := HX.out; omega) (Nat.le_trans (Nat.le_trans HP.out.low (Nat.le_of_lt HP.out.lt)) HB3.out.size)
  rw [← HQ.out] at HF
  clear hb
  go_wp2_with fail
  refine HF.mono ?_
  rintro e w4 ⟨rfl, hM, hE⟩
  have HM : Hid (Moves w3 w4 p a) := hM
  have HE2 : Hid (∃ a' n' c', Pk w4 B p a' n' c' (pack (ls.set k s))) := hE
  clear hM hE
  go_wp2
  go_ret
  exact ⟨rfl, HM.out.after HB3.out, HE2.out⟩

theorem Delete_none (B p : Nat) (a : Option Addr) (n c : Nat) (ls : List ByteArray) (i N : Int) (w : World) (hP : Pk w B p a n c (pack ls)) (hf : Fit ls) (hi2 : -9223372036854775808 ≤ i) (hk : plc ls.length i = none) :
    Calls Try.prog 27 #[ptr p, .int .i64 i, .int .i64 N] w fun e w' => Below w.heap.size w w' ∧ e = .returned (.int .i64 0) := by
  have HW := place_none B p a n c ls i w hP hf hi2 hk
  clear hP hf hk
  go_enter Try.func27, Try.ntmps27
  go_wp2_with fail
  refine HW.mono ?_
  rintro e w1 ⟨hb, x, rfl⟩
  have HB : Hid (Below w.heap.size w w1) := hb
  clear hb
  go_wp2
  go_ret
  exact ⟨HB.out, rfl⟩

set_option maxRecDepth 100000 in
set_option maxHeartbeats 4000000 in
theorem Delete_some (B p : Nat) (a : Option Addr) (n c : Nat) (ls : List ByteArray) (i : Int) (k : Nat) (N : Int) (w : World) (hP : Pk w B p a n c (pack ls)) (hf : Fit ls) (hi2 : -9223372036854775808 ≤ i) (hk : plc ls.length i = some k) :
    Calls Try.prog 27 #[ptr p, .int .i64 i, .int .i64 N] w fun e w' => Turns w B p a (pack (ls.take k ++ ls.drop (k + gone ls k N))) (.int .i64 (gone ls k N : Nat)) e w' := by
  have hkl := plc_lt hk
  have HW := place_some B p a n c ls i k w hP hf hi2 hk
  have HK := fun (w1 : World) (h : Pk w1 B p a n c (pack ls)) => walk_any B p a n c ls k N w1 h hf (by omega)
  have hgl := gone_le ls k N
  obtain ⟨g, hg⟩ : ∃ g, gone ls k N = g := ⟨_, rfl⟩
  rw [hg] at HK hgl ⊢
  have HQ : Hid ((pack ls).take (off ls k) ++ (pack ls).drop (off ls (k + g)) = pack (ls.take k ++ ls.drop (k + g))) := by
    show _ = _
    rw [take_off, drop_off, pack_append]
  have hxy : off ls k ≤ off ls (k + g) := by
    unfold off
    have : ls.take (k + g) = ls.take k ++ (ls.drop k).take g := List.take_add
    rw [this, pack_append, List.length_append]; omega
  have hyn : off ls (k + g) ≤ n := by have := off_le ls (k + g); have := hP.own.len; omega
  obtain ⟨x, hxx⟩ : ∃ x, off ls k = x := ⟨_, rfl⟩
  obtain ⟨y, hyy⟩ : ∃ y, off ls (k + g) = y := ⟨_, rfl⟩
  rw [hxx] at HW HQ hxy
  rw [hyy] at HQ hxy hyn
  simp only [hxx, hyy] at HK
  have HP : Hid (Pk w B p a n c (pack ls)) := hP
  clear hP hf hk hxx hyy hkl hg hgl
  go_enter Try.func27, Try.ntmps27
  go_wp2_with fail
  refine HW.mono ?_
  rintro e w1 ⟨hb, rfl⟩
  have HB : Hid (Below w.heap.size w w1) := hb
  have HK2 := HK w1 (HP.out.keep hb)
  clear hb
  go_wp2_with fail
  refine HK2.mono ?_
  rintro e w2 ⟨hb, rfl⟩
  have HB2 := step_below HB hb
  have HP2 : Hid (Pk w2 B p a n c (pack ls)) := HP.out.keep HB2.out
  have HD := Delete_sl B a n c (pack ls) x y w2 HP2.out.own hxy hyn
  rw [HQ.out] at HD
  have hc := HP2.out.cell
  clear hb
  go_wp2_with fail
  refine HD.mono ?_
  rintro e w3 ⟨a', n', c', rfl, hO, hg⟩
  have HS : Hid (Pk (w3.setCell ⟨p, 0, none⟩ (.slice a' n' c')) B p a' n' c' (pack (ls.take k ++ ls.drop (k + g))) ∧ Moves w2 (w3.setCell ⟨p, 0, none⟩ (.slice a' n' c')) p a) := HP2.out.store hO hg
  obtain ⟨hc1, hf1⟩ := HP2.out.cell1 hg
  clear hO hg
  go_wp2
  go_ret
  exact ⟨rfl, HS.out.2.after HB2.out, _, _, _, HS.out.1⟩
end Go.Proofs.Ytbbklfholofajaa
