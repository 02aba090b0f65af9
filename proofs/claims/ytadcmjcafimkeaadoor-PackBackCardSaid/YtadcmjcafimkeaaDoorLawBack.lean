/-
  P101, P102: what was put is read as it was: the walk of the statement PackBack.
-/
import Derived.Test.YtadcmjcafimkeaaDoorLists1
namespace Go.Proofs.YtadcmjcafimkeaaDoor.P1
open Go Go.RowKit Go.Lib

theorem back_skip (w : World) (a b c : Int) (s t : ByteArray) (h : ¬ (s.size ≤ 1000 ∧ t.size ≤ 1000 ∧ 0 ≤ a ∧ a ≤ 255 ∧ 0 ≤ b ∧ b < 4294967296)) (hp : Pow w) :
    Calls Tryd.prog 6 #[.int .i64 a, .int .i64 b, .int .i64 c, .string s, .string t] w fun r w' => r = .returned (.bool true) ∧ Below w.heap.size w w' := by
  have K := Lib.hid (alive_any w hp)
  clear hp
  by_cases h0 : ¬ s.size ≤ 1000
  · have k0 : decide ((1000 : Int) < (s.size : Int)) = true := decide_eq_true (by omega)
    clear h
    go_enter Tryd.func6, Tryd.ntmps6
    go_wp2_with (go_at_call 11; refine K.out.mono ?_; rintro e w1 ⟨rfl, hb⟩)
    go_ret
    exact ⟨rfl, hb⟩
  have k0 : decide ((1000 : Int) < (s.size : Int)) = false := decide_eq_false (by omega)
  by_cases h1 : ¬ t.size ≤ 1000
  · have k1 : decide ((1000 : Int) < (t.size : Int)) = true := decide_eq_true (by omega)
    clear h
    go_enter Tryd.func6, Tryd.ntmps6
    go_wp2_with (go_at_call 11; refine K.out.mono ?_; rintro e w1 ⟨rfl, hb⟩)
    go_ret
    exact ⟨rfl, hb⟩
  have k1 : decide ((1000 : Int) < (t.size : Int)) = false := decide_eq_false (by omega)
  by_cases h2 : a < 0
  · have k2 : decide (a < 0) = true := decide_eq_true (by omega)
    clear h
    go_enter Tryd.func6, Tryd.ntmps6
    go_wp2_with (go_at_call 11; refine K.out.mono ?_; rintro e w1 ⟨rfl, hb⟩)
    go_ret
    exact ⟨rfl, hb⟩
  have k2 : decide (a < 0) = false := decide_eq_false (by omega)
  by_cases h3 : 255 < a
  · have k3 : decide ((255 : Int) < a) = true := decide_eq_true (by omega)
    clear h
    go_enter Tryd.func6, Tryd.ntmps6
    go_wp2_with (go_at_call 11; refine K.out.mono ?_; rintro e w1 ⟨rfl, hb⟩)
    go_ret
    exact ⟨rfl, hb⟩
  have k3 : decide ((255 : Int) < a) = false := decide_eq_false (by omega)
  by_cases h4 : b < 0
  · have k4 : decide (b < 0) = true := decide_eq_true (by omega)
    clear h
    go_enter Tryd.func6, Tryd.ntmps6
    go_wp2_with (go_at_call 11; refine K.out.mono ?_; rintro e w1 ⟨rfl, hb⟩)
    go_ret
    exact ⟨rfl, hb⟩
  have k4 : decide (b < 0) = false := decide_eq_false (by omega)
  by_cases h5 : 4294967296 ≤ b
  · have k5 : decide ((4294967296 : Int) ≤ b) = true := decide_eq_true (by omega)
    clear h
    go_enter Tryd.func6, Tryd.ntmps6
    go_wp2_with (go_at_call 11; refine K.out.mono ?_; rintro e w1 ⟨rfl, hb⟩)
    go_ret
    exact ⟨rfl, hb⟩
  have k5 : decide ((4294967296 : Int) ≤ b) = false := decide_eq_false (by omega)
  exact absurd h (by omega)

theorem back_walk_in (w : World) (a b : Nat) (c : Int) (s t : ByteArray) (hs : s.size ≤ 1000) (ht : t.size ≤ 1000) (ha : a ≤ 255) (hb : b < 4294967296) (hc0 : -9223372036854775808 ≤ c) (hc1 : c ≤ 9223372036854775807) (hp : Pow w) :
    Calls Tryd.prog 6 #[.int .i64 a, .int .i64 b, .int .i64 c, .string s, .string t] w fun r w' => r = .returned (.bool true) ∧ Below w.heap.size w w' := by
  have K := Lib.hid (alive_any w hp)
  clear hp
  have ls : s.data.toList.length = s.size := by simp
  have lt : t.data.toList.length = t.size := by simp
  -- what is put
  have p1 : ∀ p w1, PutIs w1 p [] 0 → Calls Tryd.prog 12 #[.pointer (some ⟨p, 0, none⟩), .int .i64 a] w1 fun r w' => r = .returned (.pointer (some ⟨p, 0, none⟩)) ∧ PutIs w' p (low 1 a) 0 ∧ Fr p w1 w' := fun p w1 h => by
    have H := putByte_any w1 p [] a 0 (by omega) (by simp) h
    rw [stepN_fits (by omega) (by omega)] at H
    simpa using H
  have p2 : ∀ p w1, PutIs w1 p (low 1 a) 0 → Calls Tryd.prog 18 #[.pointer (some ⟨p, 0, none⟩), .string s] w1 fun r w' => r = .returned (.pointer (some ⟨p, 0, none⟩)) ∧ PutIs w' p (low 1 a ++ (low 2 s.data.toList.length ++ s.data.toList)) 0 ∧ Fr p w1 w' := fun p w1 h => by
    have H := putText_any w1 p _ 0 s (by rw [low_length]; omega) h
    rwa [stepT, if_pos rfl, if_pos (by omega)] at H
  generalize hX2 : low 1 a ++ (low 2 s.data.toList.length ++ s.data.toList) = X2 at p2
  have l2 : X2.length ≤ 2000 := by rw [← hX2]; simp only [List.length_append, low_length]; omega
  have p3 : ∀ p w1, PutIs w1 p X2 0 → Calls Tryd.prog 15 #[.pointer (some ⟨p, 0, none⟩), .int .i64 b] w1 fun r w' => r = .returned (.pointer (some ⟨p, 0, none⟩)) ∧ PutIs w' p (X2 ++ low 4 b) 0 ∧ Fr p w1 w' := fun p w1 h => by
    have H := putWord_any w1 p X2 b 0 (by omega) (by omega) h
    rw [stepN_fits (by omega) (by omega)] at H
    simpa using H
  have p4 : ∀ p w1, PutIs w1 p (X2 ++ low 4 b) 0 → Calls Tryd.prog 16 #[.pointer (some ⟨p, 0, none⟩), .int .i64 c] w1 fun r w' => r = .returned (.pointer (some ⟨p, 0, none⟩)) ∧ PutIs w' p ((X2 ++ low 4 b) ++ low 8 (comp c)) 0 ∧ Fr p w1 w' := fun p w1 h => by
    have H := putInt_any w1 p _ c 0 (by simp only [List.length_append, low_length]; omega) h
    rwa [stepI, if_pos rfl] at H
  have p5 : ∀ p w1, PutIs w1 p ((X2 ++ low 4 b) ++ low 8 (comp c)) 0 → Calls Tryd.prog 20 #[.pointer (some ⟨p, 0, none⟩), .string t] w1 fun r w' => r = .returned (.pointer (some ⟨p, 0, none⟩)) ∧ PutIs w' p (((X2 ++ low 4 b) ++ low 8 (comp c)) ++ t.data.toList) 0 ∧ Fr p w1 w' := fun p w1 h => by
    have H := putRaw_any w1 p _ 0 t (by simp only [List.length_append, low_length]; omega) h
    rwa [stepR, if_pos rfl] at H
  have hX5 : ((X2 ++ low 4 b) ++ low 8 (comp c)) ++ t.data.toList = low 1 a ++ (low 2 s.data.toList.length ++ (s.data.toList ++ (low 4 b ++ (low 8 (comp c) ++ t.data.toList)))) := by
    rw [← hX2]; simp only [List.append_assoc]
  have p6 : ∀ p w1, PutIs w1 p (((X2 ++ low 4 b) ++ low 8 (comp c)) ++ t.data.toList) 0 → Calls Tryd.prog 21 #[.pointer (some ⟨p, 0, none⟩)] w1 fun r w' => r = .returned (.tuple #[.string (str (low 1 a ++ (low 2 s.data.toList.length ++ (s.data.toList ++ (low 4 b ++ (low 8 (comp c) ++ t.data.toList)))))), .int .i64 0]) ∧ w1 = w' := fun p w1 h => by
    rw [← hX5]; exact putEnd_ok w1 p _ h
  -- what is read
  have g1 : ∀ p w1, GetAt w1 p (str (low 1 a ++ (low 2 s.data.toList.length ++ (s.data.toList ++ (low 4 b ++ (low 8 (comp c) ++ t.data.toList)))))) 0 → Calls Tryd.prog 24 #[.pointer (some ⟨p, 0, none⟩)] w1 fun r w' => r = .returned (.int .i64 a) ∧ GetAt w' p (str (low 2 s.data.toList.length ++ (s.data.toList ++ (low 4 b ++ (low 8 (comp c) ++ t.data.toList))))) 0 ∧ Fr p w1 w' := fun p w1 h => by
    have H := getByte_any w1 p _ 0 h
    rwa [getNum_low 1 a _ (by omega), wrap_small _ (by omega)] at H
  have g2 : ∀ p w1, GetAt w1 p (str (low 2 s.data.toList.length ++ (s.data.toList ++ (low 4 b ++ (low 8 (comp c) ++ t.data.toList))))) 0 → Calls Tryd.prog 29 #[.pointer (some ⟨p, 0, none⟩)] w1 fun r w' => r = .returned (.string s) ∧ GetAt w' p (str (low 4 b ++ (low 8 (comp c) ++ t.data.toList))) 0 ∧ Fr p w1 w' := fun p w1 h => by
    have H := getText_any w1 p _ 0 h
    rwa [getTxt_of _ _ (by omega), str_eq] at H
  have g3 : ∀ p w1, GetAt w1 p (str (low 4 b ++ (low 8 (comp c) ++ t.data.toList))) 0 → Calls Tryd.prog 27 #[.pointer (some ⟨p, 0, none⟩)] w1 fun r w' => r = .returned (.int .i64 b) ∧ GetAt w' p (str (low 8 (comp c) ++ t.data.toList)) 0 ∧ Fr p w1 w' := fun p w1 h => by
    have H := getWord_any w1 p _ 0 h
    rwa [getNum_low 4 b _ (by omega), wrap_small _ (by omega)] at H
  have g4 : ∀ p w1, GetAt w1 p (str (low 8 (comp c) ++ t.data.toList)) 0 → Calls Tryd.prog 28 #[.pointer (some ⟨p, 0, none⟩)] w1 fun r w' => r = .returned (.int .i64 c) ∧ GetAt w' p (str (t.data.toList ++ [])) 0 ∧ Fr p w1 w' := fun p w1 h => by
    have H := getInt_any w1 p _ 0 h
    rwa [getInt_of c _ hc0 hc1, ← List.append_nil t.data.toList] at H
  have g5 : ∀ p w1, GetAt w1 p (str (t.data.toList ++ [])) 0 → Calls Tryd.prog 31 #[.pointer (some ⟨p, 0, none⟩), .int .i64 t.size] w1 fun r w' => r = .returned (.string t) ∧ GetAt w' p (str []) 0 ∧ Fr p w1 w' := fun p w1 h => by
    have H := getRaw_any w1 p _ 0 t.size h
    rwa [← lt, getStr_of, str_eq, lt] at H
  have g6 : ∀ p w1, GetAt w1 p (str []) 0 → Calls Tryd.prog 33 #[.pointer (some ⟨p, 0, none⟩)] w1 fun r w' => r = .returned (.int .i64 0) ∧ w1 = w' := fun p w1 h => getLeft_any w1 p _ 0 h
  have g7 : ∀ p w1, GetAt w1 p (str []) 0 → Calls Tryd.prog 36 #[.pointer (some ⟨p, 0, none⟩)] w1 fun r w' => r = .returned (.int .i64 0) ∧ Fr p w1 w' := fun p w1 h => getEnd_any w1 p _ 0 h
  clear hX2 hX5 l2 ls lt hc0 hc1
  generalize (X2 ++ low 4 b) ++ low 8 (comp c) ++ t.data.toList = X5 at p5 p6
  generalize (X2 ++ low 4 b) ++ low 8 (comp c) = X4 at p4 p5
  generalize X2 ++ low 4 b = X3 at p3 p4
  generalize low 1 a = X1 at p1 p2 p6 g1
  generalize str (X1 ++ (low 2 s.data.toList.length ++ (s.data.toList ++ (low 4 b ++ (low 8 (comp c) ++ t.data.toList))))) = x5 at p6 g1
  generalize str (low 2 s.data.toList.length ++ (s.data.toList ++ (low 4 b ++ (low 8 (comp c) ++ t.data.toList)))) = y1 at g1 g2
  generalize str (low 4 b ++ (low 8 (comp c) ++ t.data.toList)) = y2 at g2 g3
  generalize str (low 8 (comp c) ++ t.data.toList) = y3 at g3 g4
  generalize str (t.data.toList ++ []) = y4 at g4 g5
  generalize str [] = y5 at g5 g6 g7
  have P1 := Lib.hid p1
  have P2 := Lib.hid p2
  have P3 := Lib.hid p3
  have P4 := Lib.hid p4
  have P5 := Lib.hid p5
  have P6 := Lib.hid p6
  have G1 := Lib.hid g1
  have G2 := Lib.hid g2
  have G3 := Lib.hid g3
  have G4 := Lib.hid g4
  have G5 := Lib.hid g5
  have G6 := Lib.hid g6
  have G7 := Lib.hid g7
  clear p1 p2 p3 p4 p5 p6 g1 g2 g3 g4 g5 g6 g7
  have k0 : decide ((1000 : Int) < (s.size : Int)) = false := decide_eq_false (by omega)
  have k1 : decide ((1000 : Int) < (t.size : Int)) = false := decide_eq_false (by omega)
  have k2 : decide ((a : Int) < 0) = false := decide_eq_false (by omega)
  have k3 : decide ((255 : Int) < (a : Int)) = false := decide_eq_false (by omega)
  have k4 : decide ((b : Int) < 0) = false := decide_eq_false (by omega)
  have k5 : decide ((4294967296 : Int) ≤ (b : Int)) = false := decide_eq_false (by omega)
  have h0 : ∀ w0 : World, PutIs (w0.alloc (.cells #[.slice none 0 0, .pointer none, .int .i64 0] 29)) w0.heap.size [] 0 := fun w0 => .inr ⟨new_at w0 _ _, rfl⟩
  have H0 := Lib.hid h0
  clear h0
  go_enter Tryd.func6, Tryd.ntmps6
  go_wp2_with (first
    | (go_at_call 11; refine K.out.mono ?_; rintro e w0 ⟨rfl, hb0⟩)
    | (go_at_call 12; refine (P1.out _ _ (H0.out _)).mono ?_; rintro e w1 ⟨rfl, h1, hb1⟩)
    | (go_at_call 18; refine (P2.out _ _ h1).mono ?_; rintro e w2 ⟨rfl, h2, hb2⟩)
    | (go_at_call 15; refine (P3.out _ _ h2).mono ?_; rintro e w3 ⟨rfl, h3, hb3⟩)
    | (go_at_call 16; refine (P4.out _ _ h3).mono ?_; rintro e w4 ⟨rfl, h4, hb4⟩)
    | (go_at_call 20; refine (P5.out _ _ h4).mono ?_; rintro e w5 ⟨rfl, h5, hb5⟩)
    | (go_at_call 21; refine (P6.out _ _ h5).mono ?_; rintro e w6 ⟨rfl, rfl⟩)
    | (go_at_call 23; refine (getFrom_any _ _).mono ?_; rintro e w7 ⟨rfl, h7, hb7, _⟩)
    | (go_at_call 24; refine (G1.out _ _ h7).mono ?_; rintro e v1 ⟨rfl, q1, c1⟩)
    | (go_at_call 29; refine (G2.out _ _ q1).mono ?_; rintro e v2 ⟨rfl, q2, c2⟩)
    | (go_at_call 27; refine (G3.out _ _ q2).mono ?_; rintro e v3 ⟨rfl, q3, c3⟩)
    | (go_at_call 28; refine (G4.out _ _ q3).mono ?_; rintro e v4 ⟨rfl, q4, c4⟩)
    | (go_at_call 31; refine (G5.out _ _ q4).mono ?_; rintro e v5 ⟨rfl, q5, c5⟩)
    | (go_at_call 33; refine (G6.out _ _ q5).mono ?_; rintro e v6 ⟨rfl, rfl⟩)
    | (go_at_call 36; refine (G7.out _ _ q5).mono ?_; rintro e v7 ⟨rfl, c7⟩))
  go_ret
  have d0 := (Below.refl w0.heap.size w0).alloc (Nat.le_refl _) (.cells #[.slice none 0 0, .pointer none, .int .i64 0] 29)
  have d1 := d0.trans (hb1.trans (hb2.trans (hb3.trans (hb4.trans hb5)))).below
  have d2 := d1.trans ((hb7.trans (c1.trans (c2.trans (c3.trans (c4.trans (c5.trans c7))))).below).mono d1.size)
  exact ⟨rfl, hb0.trans (d2.mono hb0.size)⟩

theorem back_walk (w : World) (a b c : Int) (s t : ByteArray) (hc0 : -9223372036854775808 ≤ c) (hc1 : c ≤ 9223372036854775807) (hp : Pow w) :
    Calls Tryd.prog 6 #[.int .i64 a, .int .i64 b, .int .i64 c, .string s, .string t] w fun r w' => r = .returned (.bool true) ∧ Below w.heap.size w w' := by
  by_cases h : s.size ≤ 1000 ∧ t.size ≤ 1000 ∧ 0 ≤ a ∧ a ≤ 255 ∧ 0 ≤ b ∧ b < 4294967296
  · obtain ⟨A, rfl⟩ := Int.eq_ofNat_of_zero_le h.2.2.1
    obtain ⟨B, rfl⟩ := Int.eq_ofNat_of_zero_le h.2.2.2.2.1
    exact back_walk_in w A B c s t h.1 h.2.1 (by omega) (by omega) hc0 hc1 hp
  · exact back_skip w a b c s t h hp

end Go.Proofs.YtadcmjcafimkeaaDoor.P1
