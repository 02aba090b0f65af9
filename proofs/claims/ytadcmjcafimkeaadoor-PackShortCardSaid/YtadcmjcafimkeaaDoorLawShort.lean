/-
  P102: what is cut off anywhere is too short: the walk of the statement PackShort.
-/
import Derived.Test.YtadcmjcafimkeaaDoorLists1
namespace Go.Proofs.YtadcmjcafimkeaaDoor.P1
open Go Go.RowKit Go.Lib

theorem getNum_none (n : Nat) (s : ByteArray) (h : ¬ n ≤ s.size) : getNum n s 0 = (0, str [], 5) := by
  unfold getNum; rw [if_pos rfl, if_neg h]; rfl
theorem getNum_bad (n : Nat) (s : ByteArray) (e : Int) (h : e ≠ 0) : getNum n s e = (0, s, e) := by
  unfold getNum; rw [if_neg h]
theorem getStr_bad (n : Int) (s : ByteArray) (e : Int) (h : e ≠ 0) : getStr n s e = (str [], s, e) := by
  unfold getStr; rw [if_neg h]; rfl
theorem getStr_none (n : Nat) (s : ByteArray) (h : ¬ n ≤ s.size) : getStr (n : Int) s 0 = (str [], str [], 5) := by
  unfold getStr; rw [if_pos rfl, if_neg (by omega), if_neg (by omega)]; rfl
theorem take_over (a r : List UInt8) (k : Nat) (h : a.length ≤ k) : (a ++ r).take k = a ++ r.take (k - a.length) := by
  rw [List.take_append]; rw [List.take_of_length_le h]

/-- a first part that is not all: what is read, and the error -/
theorem short_reads (a : Nat) (S : List UInt8) (B : Nat) (k : Nat) (ha : a ≤ 255) (hS : S.length ≤ 500) (hk : k < (low 1 a ++ (low 2 S.length ++ (S ++ low 8 B))).length) :
    ∃ (u : Int) (y1 : ByteArray) (e1 : Int) (t y2 : ByteArray) (e2 : Int), getNum 1 (str ((low 1 a ++ (low 2 S.length ++ (S ++ low 8 B))).take k)) 0 = (u, y1, e1) ∧ getTxt y1 e1 = (t, y2, e2) ∧ getNum 8 y2 e2 = (0, str [], 5) ∧
      (k = 0 ∨ u = a) ∧ (k < 3 + S.length ∨ t = str S) := by
  simp only [List.length_append, low_length] at hk
  by_cases h0 : k = 0
  · subst h0
    refine ⟨0, str [], 5, str [], str [], 5, getNum_none _ _ (by rw [str_size]; simp), ?_, getNum_bad _ _ _ (by decide), .inl rfl, .inl (by omega)⟩
    unfold getTxt; rw [getNum_bad _ _ _ (by decide)]; exact getStr_bad _ _ _ (by decide)
  · have e1 : (low 1 a ++ (low 2 S.length ++ (S ++ low 8 B))).take k = low 1 a ++ (low 2 S.length ++ (S ++ low 8 B)).take (k - 1) := by
      have := take_over (low 1 a) (low 2 S.length ++ (S ++ low 8 B)) k (by rw [low_length]; omega)
      rwa [low_length] at this
    rw [e1, getNum_low 1 a _ (by omega), wrap_small _ (by omega)]
    by_cases h2 : k - 1 < 2
    · refine ⟨a, _, 0, str [], str [], 5, rfl, ?_, getNum_bad _ _ _ (by decide), .inr rfl, .inl (by omega)⟩
      unfold getTxt
      rw [getNum_none 2 _ (by rw [str_size, List.length_take]; omega)]
      exact getStr_bad _ _ _ (by decide)
    · have e2 : (low 2 S.length ++ (S ++ low 8 B)).take (k - 1) = low 2 S.length ++ (S ++ low 8 B).take (k - 1 - 2) := by
        have := take_over (low 2 S.length) (S ++ low 8 B) (k - 1) (by rw [low_length]; omega)
        rwa [low_length] at this
      rw [e2]
      by_cases h3 : k - 1 - 2 < S.length
      · refine ⟨a, _, 0, str [], str [], 5, rfl, ?_, getNum_bad _ _ _ (by decide), .inr rfl, .inl (by omega)⟩
        unfold getTxt
        rw [getNum_low 2 S.length _ (by omega)]
        simp only
        rw [wrap_small _ (by omega)]
        exact getStr_none _ _ (by rw [str_size, List.length_take]; omega)
      · have e3 : (S ++ low 8 B).take (k - 1 - 2) = S ++ (low 8 B).take (k - 1 - 2 - S.length) := take_over S (low 8 B) _ (by omega)
        rw [e3]
        refine ⟨a, _, 0, str S, _, 0, rfl, getTxt_of S _ (by omega), ?_, .inr rfl, .inr rfl⟩
        exact getNum_none 8 _ (by rw [str_size, List.length_take, low_length]; omega)

theorem short_skip (w : World) (a b : Int) (s : ByteArray) (cut : Int) (h : ¬ (s.size ≤ 500 ∧ 0 ≤ a ∧ a ≤ 255 ∧ 0 ≤ cut)) (hp : Pow w) :
    Calls Tryd.prog 9 #[.int .i64 a, .int .i64 b, .string s, .int .i64 cut] w fun r w' => r = .returned (.bool true) ∧ Below w.heap.size w w' := by
  have K := Lib.hid (alive_any w hp)
  clear hp
  by_cases h0 : ¬ s.size ≤ 500
  · have k0 : decide ((500 : Int) < (s.size : Int)) = true := decide_eq_true (by omega)
    clear h
    go_enter Tryd.func9, Tryd.ntmps9
    go_wp2_with (go_at_call 11; refine K.out.mono ?_; rintro e w1 ⟨rfl, hb⟩)
    go_ret
    exact ⟨rfl, hb⟩
  have k0 : decide ((500 : Int) < (s.size : Int)) = false := decide_eq_false (by omega)
  by_cases h1 : a < 0
  · have k1 : decide (a < 0) = true := decide_eq_true (by omega)
    clear h
    go_enter Tryd.func9, Tryd.ntmps9
    go_wp2_with (go_at_call 11; refine K.out.mono ?_; rintro e w1 ⟨rfl, hb⟩)
    go_ret
    exact ⟨rfl, hb⟩
  have k1 : decide (a < 0) = false := decide_eq_false (by omega)
  by_cases h2 : 255 < a
  · have k2 : decide ((255 : Int) < a) = true := decide_eq_true (by omega)
    clear h
    go_enter Tryd.func9, Tryd.ntmps9
    go_wp2_with (go_at_call 11; refine K.out.mono ?_; rintro e w1 ⟨rfl, hb⟩)
    go_ret
    exact ⟨rfl, hb⟩
  have k2 : decide ((255 : Int) < a) = false := decide_eq_false (by omega)
  by_cases h3 : cut < 0
  · have k3 : decide (cut < 0) = true := decide_eq_true (by omega)
    clear h
    go_enter Tryd.func9, Tryd.ntmps9
    go_wp2_with (go_at_call 11; refine K.out.mono ?_; rintro e w1 ⟨rfl, hb⟩)
    go_ret
    exact ⟨rfl, hb⟩
  have k3 : decide (cut < 0) = false := decide_eq_false (by omega)
  exact absurd h (by omega)

/-- what is put, as the law puts it -/
def Puts3 (a : Nat) (b : Int) (s x : ByteArray) : Prop := ∀ p w1, PutNew w1 p 0 →
  Calls Tryd.prog 12 #[.pointer (some ⟨p, 0, none⟩), .int .i64 a] w1 fun r w2 => r = .returned (.pointer (some ⟨p, 0, none⟩)) ∧ Fr p w1 w2 ∧
    Calls Tryd.prog 18 #[.pointer (some ⟨p, 0, none⟩), .string s] w2 fun r w3 => r = .returned (.pointer (some ⟨p, 0, none⟩)) ∧ Fr p w2 w3 ∧
      Calls Tryd.prog 16 #[.pointer (some ⟨p, 0, none⟩), .int .i64 b] w3 fun r w4 => r = .returned (.pointer (some ⟨p, 0, none⟩)) ∧ Fr p w3 w4 ∧
        Calls Tryd.prog 21 #[.pointer (some ⟨p, 0, none⟩)] w4 fun r w5 => r = .returned (.tuple #[.string x, .int .i64 0]) ∧ w4 = w5
theorem puts3 (a : Nat) (b : Int) (s : ByteArray) (ha : a ≤ 255) (hs : s.size ≤ 500) :
    Puts3 a b s (str (low 1 a ++ (low 2 s.data.toList.length ++ (s.data.toList ++ low 8 (comp b))))) := by
  intro p w1 h0
  have ls : s.data.toList.length = s.size := by simp
  have H1 := putByte_any w1 p [] a 0 (by omega) (by simp) (.inr ⟨h0, rfl⟩)
  rw [stepN_fits (by omega) (by omega)] at H1
  refine H1.mono fun r w2 ⟨e1, q1, b1⟩ => ⟨e1, b1, ?_⟩
  have H2 := putText_any w2 p _ 0 s (by simp only [List.nil_append, low_length]; omega) q1
  rw [stepT, if_pos rfl, if_pos (by omega)] at H2
  refine H2.mono fun r w3 ⟨e2, q2, b2⟩ => ⟨e2, b2, ?_⟩
  have H3 := putInt_any w3 p _ b 0 (by simp only [List.nil_append, List.length_append, low_length]; omega) q2
  rw [stepI, if_pos rfl] at H3
  refine H3.mono fun r w4 ⟨e3, q3, b3⟩ => ⟨e3, b3, ?_⟩
  have e : [] ++ low 1 (a : Int).toNat ++ (low 2 s.data.toList.length ++ s.data.toList) ++ low 8 (comp b) = low 1 a ++ (low 2 s.data.toList.length ++ (s.data.toList ++ low 8 (comp b))) := by
    simp only [List.nil_append, Int.toNat_natCast, List.append_assoc]
  have H4 := putEnd_ok w4 p _ q3
  rw [e] at H4
  exact H4

/-- what is read, as the law reads it -/
def Gets3 (y : ByteArray) (u : Int) (t : ByteArray) (v : Int) (e f : Int) (n : Nat) : Prop := ∀ p w1, GetAt w1 p y 0 →
  Calls Tryd.prog 24 #[.pointer (some ⟨p, 0, none⟩)] w1 fun r w2 => r = .returned (.int .i64 u) ∧ Fr p w1 w2 ∧
    Calls Tryd.prog 29 #[.pointer (some ⟨p, 0, none⟩)] w2 fun r w3 => r = .returned (.string t) ∧ Fr p w2 w3 ∧
      Calls Tryd.prog 28 #[.pointer (some ⟨p, 0, none⟩)] w3 fun r w4 => r = .returned (.int .i64 v) ∧ Fr p w3 w4 ∧
        (Calls Tryd.prog 35 #[.pointer (some ⟨p, 0, none⟩)] w4 fun r w5 => r = .returned (.int .i64 e) ∧ w4 = w5) ∧
        (Calls Tryd.prog 36 #[.pointer (some ⟨p, 0, none⟩)] w4 fun r w5 => r = .returned (.int .i64 f) ∧ Fr p w4 w5 ∧
          Calls Tryd.prog 33 #[.pointer (some ⟨p, 0, none⟩)] w5 fun r w6 => r = .returned (.int .i64 n) ∧ w5 = w6)

theorem getEnd_same (w : World) (b : Nat) (s : ByteArray) (bad : Int) (hs : s.size = 0) (h : GetAt w b s bad) :
    Calls Tryd.prog 36 #[.pointer (some ⟨b, 0, none⟩)] w fun r w' => r = .returned (.int .i64 bad) ∧ w = w' := by
  have H1 := Lib.hid (getLeft_any w b s bad h)
  have k : decide ((0 : Int) < (s.size : Int)) = false := decide_eq_false (by omega)
  have k2 : decide (0 < s.size) = false := decide_eq_false (by omega)
  have H2 := Lib.hid (getBad_any w b s bad h)
  clear h hs
  go_enter Tryd.func36, Tryd.ntmps36
  go_wp2_with (first | (go_at_call 33; refine H1.out.mono ?_; rintro e w' ⟨rfl, rfl⟩) | (go_at_call 35; refine H2.out.mono ?_; rintro e w3 ⟨rfl, rfl⟩))
  go_ret
  exact ⟨rfl, rfl⟩

theorem gets3 {y y1 y2 y3 t : ByteArray} {u v e1 e2 e3 : Int} (h1 : getNum 1 y 0 = (u, y1, e1)) (h2 : getTxt y1 e1 = (t, y2, e2)) (h3 : getNum 8 y2 e2 = (v, y3, e3)) (hz : y3.size = 0) : Gets3 y u t v e3 e3 0 := by
  intro p w1 h
  have H1 := getByte_any w1 p y 0 h
  rw [h1] at H1
  refine H1.mono fun r w2 ⟨a1, q1, b1⟩ => ⟨a1, b1, ?_⟩
  have H2 := getText_any w2 p y1 e1 q1
  rw [h2] at H2
  refine H2.mono fun r w3 ⟨a2, q2, b2⟩ => ⟨a2, b2, ?_⟩
  have H3 := getInt_any w3 p y2 e2 q2
  rw [h3] at H3
  refine H3.mono fun r w4 ⟨a3, q3, b3⟩ => ⟨a3, b3, getBad_any w4 p y3 e3 q3, ?_⟩
  refine (getEnd_same w4 p y3 e3 hz q3).mono fun r w5 ⟨a4, q4⟩ => ⟨a4, q4 ▸ Fr.refl _ _, ?_⟩
  have H5 := getLeft_any w5 p y3 e3 (q4 ▸ q3)
  rwa [hz] at H5

theorem short_walk_gen (w : World) (a C : Nat) (b : Int) (s x y t : ByteArray) (u v e : Int) (k : Nat) (hs : s.size ≤ 500) (ha : a ≤ 255) (hx : x.size = 11 + s.size) (hk : k = C % (x.size + 1)) (hy : x.extract 0 k = y)
    (hP : Puts3 a b s x) (hG : Gets3 y u t v e e 0) (hfull : k = x.size → u = a ∧ t = s ∧ v = b ∧ e = 0) (hpart : k < x.size → v = 0 ∧ e = 5 ∧ (k = 0 ∨ u = a) ∧ (k < 3 + s.size ∨ t = s)) (hp : Pow w) :
    Calls Tryd.prog 9 #[.int .i64 a, .int .i64 b, .string s, .int .i64 C] w fun r w' => r = .returned (.bool true) ∧ Below w.heap.size w w' := by
  have K := Lib.hid (alive_any w hp)
  have HP := Lib.hid hP
  have HG := Lib.hid hG
  have h0 : ∀ w0 : World, PutNew (w0.alloc (.cells #[.slice none 0 0, .pointer none, .int .i64 0] 29)) w0.heap.size 0 := fun w0 => new_at w0 _ _
  have H0 := Lib.hid h0
  have hlt : k < x.size + 1 := by rw [hk]; exact Nat.mod_lt _ (by omega)
  have kr : ((C : Int) % ((x.size : Int) + 1)) = (k : Int) := by rw [hk, Int.natCast_emod, Int.natCast_add]; rfl
  have kr2 : (C : Int).tmod ((x.size : Int) + 1) = (k : Int) := by rw [Int.tmod_eq_emod_of_nonneg (by omega)]; exact kr
  have hxs : x.size ≤ 511 := by omega
  have HX := Lib.hid hx
  clear hp hP hG h0 hk hx
  have k0 : decide ((500 : Int) < (s.size : Int)) = false := decide_eq_false (by omega)
  have k1 : decide ((a : Int) < 0) = false := decide_eq_false (by omega)
  have k2 : decide ((255 : Int) < (a : Int)) = false := decide_eq_false (by omega)
  have k3 : decide ((C : Int) < 0) = false := decide_eq_false (by omega)
  by_cases hf : k = x.size
  · obtain ⟨rfl, rfl, rfl, rfl⟩ := hfull hf
    have kf : ((k : Int) == (x.size : Int)) = true := by rw [hf]; simp
    have kf2 : (k == x.size) = true := by rw [hf]; simp
    have hks : k ≤ x.size := by omega
    clear hfull hpart hf
    go_enter Tryd.func9, Tryd.ntmps9
    go_wp2_with (first
      | (go_at_call 11; refine K.out.mono ?_; rintro e w0 ⟨rfl, hb0⟩)
      | (go_at_call 12; refine (HP.out _ _ (H0.out _)).mono ?_; rintro e w1 ⟨rfl, hb1, hn1⟩; have N1 := Lib.hid hn1; clear hn1)
      | (go_at_call 18; refine N1.out.mono ?_; rintro e w2 ⟨rfl, hb2, hn2⟩; have N2 := Lib.hid hn2; clear hn2)
      | (go_at_call 16; refine N2.out.mono ?_; rintro e w3 ⟨rfl, hb3, hn3⟩; have N3 := Lib.hid hn3; clear hn3)
      | (go_at_call 21; refine N3.out.mono ?_; rintro e w4 ⟨rfl, rfl⟩)
      | (go_at_call 23; refine (getFrom_any _ _).mono ?_; rintro e w7 ⟨rfl, h7, hb7, _⟩)
      | (go_at_call 24; refine (HG.out _ _ h7).mono ?_; rintro e v1 ⟨rfl, c1, hm1⟩; have M1 := Lib.hid hm1; clear hm1)
      | (go_at_call 29; refine M1.out.mono ?_; rintro e v2 ⟨rfl, c2, hm2⟩; have M2 := Lib.hid hm2; clear hm2)
      | (go_at_call 28; refine M2.out.mono ?_; rintro e v3 ⟨rfl, c3, hmb, hm3⟩; have MB := Lib.hid hmb; have M3 := Lib.hid hm3; clear hmb hm3)
      | (go_at_call 35; refine MB.out.mono ?_; rintro e v4 ⟨rfl, rfl⟩)
      | (go_at_call 36; refine M3.out.mono ?_; rintro e v5 ⟨rfl, c5, hm5⟩; have M5 := Lib.hid hm5; clear hm5)
      | (go_at_call 33; refine M5.out.mono ?_; rintro e v6 ⟨rfl, rfl⟩))
    go_ret
    have d0 := (Below.refl w0.heap.size w0).alloc (Nat.le_refl _) (.cells #[.slice none 0 0, .pointer none, .int .i64 0] 29)
    have d1 := d0.trans (hb1.trans (hb2.trans hb3)).below
    have d2 := d1.trans ((hb7.trans (c1.trans (c2.trans (c3.trans c5))).below).mono d1.size)
    exact ⟨rfl, hb0.trans (d2.mono hb0.size)⟩
  · obtain ⟨rfl, rfl, hu, ht⟩ := hpart (by omega)
    have kf : ((k : Int) == (x.size : Int)) = false := by rw [beq_eq_false_iff_ne]; omega
    have kf2 : (k == x.size) = false := by rw [beq_eq_false_iff_ne]; omega
    have hks : k ≤ x.size := by omega
    clear hfull hpart hf
    have hu2 : ((k : Int) == 0) = true ∨ (((k : Int) == 0) = false ∧ u = a) := by
      by_cases h : k = 0
      · exact .inl (by rw [h]; rfl)
      · exact .inr ⟨by rw [beq_eq_false_iff_ne]; omega, by rcases hu with h2 | h2; exact absurd h2 h; exact h2⟩
    have ht2 : decide ((k : Int) < 3 + (s.size : Int)) = true ∨ (decide ((k : Int) < 3 + (s.size : Int)) = false ∧ t = s) := by
      by_cases h : k < 3 + s.size
      · exact .inl (decide_eq_true (by omega))
      · exact .inr ⟨decide_eq_false (by omega), by rcases ht with h2 | h2; exact absurd h2 h; exact h2⟩
    clear hu ht
    rcases hu2 with hu3 | ⟨hu3, rfl⟩ <;> rcases ht2 with ht3 | ⟨ht3, rfl⟩
    all_goals
      go_enter Tryd.func9, Tryd.ntmps9
      go_wp2_with (first
        | (go_at_call 11; refine K.out.mono ?_; rintro e w0 ⟨rfl, hb0⟩)
        | (go_at_call 12; refine (HP.out _ _ (H0.out _)).mono ?_; rintro e w1 ⟨rfl, hb1, hn1⟩; have N1 := Lib.hid hn1; clear hn1)
        | (go_at_call 18; refine N1.out.mono ?_; rintro e w2 ⟨rfl, hb2, hn2⟩; have N2 := Lib.hid hn2; clear hn2)
        | (go_at_call 16; refine N2.out.mono ?_; rintro e w3 ⟨rfl, hb3, hn3⟩; have N3 := Lib.hid hn3; clear hn3)
        | (go_at_call 21; refine N3.out.mono ?_; rintro e w4 ⟨rfl, rfl⟩)
        | (go_at_call 23; refine (getFrom_any _ _).mono ?_; rintro e w7 ⟨rfl, h7, hb7, _⟩)
        | (go_at_call 24; refine (HG.out _ _ h7).mono ?_; rintro e v1 ⟨rfl, c1, hm1⟩; have M1 := Lib.hid hm1; clear hm1)
        | (go_at_call 29; refine M1.out.mono ?_; rintro e v2 ⟨rfl, c2, hm2⟩; have M2 := Lib.hid hm2; clear hm2)
        | (go_at_call 28; refine M2.out.mono ?_; rintro e v3 ⟨rfl, c3, hmb, hm3⟩; have MB := Lib.hid hmb; have M3 := Lib.hid hm3; clear hmb hm3)
        | (go_at_call 35; refine MB.out.mono ?_; rintro e v4 ⟨rfl, rfl⟩)
        | (go_at_call 36; refine M3.out.mono ?_; rintro e v5 ⟨rfl, c5, hm5⟩; have M5 := Lib.hid hm5; clear hm5)
        | (go_at_call 33; refine M5.out.mono ?_; rintro e v6 ⟨rfl, rfl⟩))
      go_ret
      have d0 := (Below.refl w0.heap.size w0).alloc (Nat.le_refl _) (.cells #[.slice none 0 0, .pointer none, .int .i64 0] 29)
      have d1 := d0.trans (hb1.trans (hb2.trans hb3)).below
      have d2 := d1.trans ((hb7.trans (c1.trans (c2.trans (c3.trans c5))).below).mono d1.size)
      exact ⟨rfl, hb0.trans (d2.mono hb0.size)⟩

theorem full_reads (a : Nat) (b : Int) (s : ByteArray) (ha : a ≤ 255) (hs : s.size ≤ 500) (hb0 : -9223372036854775808 ≤ b) (hb1 : b ≤ 9223372036854775807) :
    Gets3 (str (low 1 a ++ (low 2 s.data.toList.length ++ (s.data.toList ++ low 8 (comp b))))) a s b 0 0 0 := by
  have ls : s.data.toList.length = s.size := by simp
  have h2 := getTxt_of s.data.toList (low 8 (comp b)) (by omega)
  rw [str_eq] at h2
  have h3 := getInt_of b [] hb0 hb1
  rw [List.append_nil] at h3
  refine gets3 (y1 := str (low 2 s.data.toList.length ++ (s.data.toList ++ low 8 (comp b)))) (e1 := 0) ?_ h2 h3 rfl
  rw [getNum_low 1 a _ (by omega), wrap_small _ (by omega)]

theorem short_walk (w : World) (a b : Int) (s : ByteArray) (cut : Int) (hb0 : -9223372036854775808 ≤ b) (hb1 : b ≤ 9223372036854775807) (hp : Pow w) :
    Calls Tryd.prog 9 #[.int .i64 a, .int .i64 b, .string s, .int .i64 cut] w fun r w' => r = .returned (.bool true) ∧ Below w.heap.size w w' := by
  by_cases h : s.size ≤ 500 ∧ 0 ≤ a ∧ a ≤ 255 ∧ 0 ≤ cut
  · obtain ⟨A, rfl⟩ := Int.eq_ofNat_of_zero_le h.2.1
    obtain ⟨C, rfl⟩ := Int.eq_ofNat_of_zero_le h.2.2.2
    have ha : A ≤ 255 := by omega
    have ls : s.data.toList.length = s.size := by simp
    have hP := puts3 A b s ha h.1
    have hF := full_reads A b s ha h.1 hb0 hb1
    have hX : (low 1 A ++ (low 2 s.data.toList.length ++ (s.data.toList ++ low 8 (comp b)))).length = 11 + s.size := by
      simp only [List.length_append, low_length]; omega
    have hR := short_reads A s.data.toList (comp b) (C % (11 + s.size + 1)) ha (by omega)
    rw [hX] at hR
    generalize low 1 A ++ (low 2 s.data.toList.length ++ (s.data.toList ++ low 8 (comp b))) = X at hP hF hX hR
    have hxs : (str X).size = 11 + s.size := by rw [str_size, hX]
    have hlt : C % (11 + s.size + 1) < 11 + s.size + 1 := Nat.mod_lt _ (by omega)
    by_cases hf : C % (11 + s.size + 1) = 11 + s.size
    · refine short_walk_gen w A C b s (str X) (str X) s A b 0 (C % (11 + s.size + 1)) h.1 ha hxs (by rw [hxs]) ?_ hP hF (fun _ => ⟨rfl, rfl, rfl, rfl⟩) (fun h2 => by omega) hp
      rw [str_cut, hf, List.take_of_length_le (by omega), List.drop_zero]
    · obtain ⟨u, y1, e1, t, y2, e2, g1, g2, g3, g4, g5⟩ := hR (by omega)
      refine short_walk_gen w A C b s (str X) (str (X.take (C % (11 + s.size + 1)))) t u 0 5 (C % (11 + s.size + 1)) h.1 ha hxs (by rw [hxs]) ?_ hP (gets3 g1 g2 g3 rfl) (fun h2 => by omega) (fun _ => ⟨rfl, rfl, g4, ?_⟩) hp
      · rw [str_cut, List.drop_zero]
      · rcases g5 with g5 | g5
        · exact .inl (by omega)
        · exact .inr (by rw [g5, str_eq])
  · exact short_skip w a b s cut h hp

end Go.Proofs.YtadcmjcafimkeaaDoor.P1
