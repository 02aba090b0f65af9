/-
  P101: how many bytes each thing takes: the walk of the statement PackSizes.
-/
import Derived.Test.YtadcmjcafimkeaaDoorLists1
import Derived.Deep.OwnRows
namespace Go.Proofs.YtadcmjcafimkeaaDoor.P1
open Go Go.RowKit Go.Lib

theorem and_low (k : Nat) (m : Int) (n : Int) (hk : k < 63) (hm : (BitVec.ofInt 64 m).toNat = 2 ^ k - 1) : bits .and .i64 n m = n % ((2 ^ k : Nat) : Int) := by
  have hp : (2 : Nat) ^ k ≤ 2 ^ 62 := Nat.pow_le_pow_right (by omega) (by omega)
  have h0 : 0 < (2 : Nat) ^ k := Nat.pow_pos (by omega)
  have key : (BitVec.ofInt 64 n &&& BitVec.ofInt 64 m).toNat = (n % ((2 ^ 64 : Nat) : Int)).toNat % 2 ^ k := by
    rw [BitVec.toNat_and, BitVec.toNat_ofInt, hm, Nat.and_two_pow_sub_one_eq_mod]
  show IntKind.i64.wrap ((BitVec.ofInt 64 n &&& BitVec.ofInt 64 m).toNat : Nat) = _
  rw [key]
  have hlt : (n % ((2 ^ 64 : Nat) : Int)).toNat % 2 ^ k < 2 ^ k := Nat.mod_lt _ h0
  have e : (((n % ((2 ^ 64 : Nat) : Int)).toNat % 2 ^ k : Nat) : Int) = n % ((2 ^ k : Nat) : Int) := by
    have h1 : 0 ≤ n % ((2 ^ 64 : Nat) : Int) := Int.emod_nonneg _ (by decide)
    rw [Int.natCast_emod, Int.toNat_of_nonneg h1]
    exact Int.emod_emod_of_dvd n (Int.natCast_dvd_natCast.2 (Nat.pow_dvd_pow 2 (by omega)))
  rw [IntKind.wrap_i64, e]
  omega
theorem and_255 (n : Int) : bits .and .i64 n 255 = n % 256 := and_low 8 255 n (by omega) (by decide)
theorem and_65535 (n : Int) : bits .and .i64 n 65535 = n % 65536 := and_low 16 65535 n (by omega) (by decide)

/-- what the law does with its Put -/
def Puts5 (a v : Int) (n : Nat) (z y : ByteArray) : Prop := ∀ p w1, PutNew w1 p 0 →
  Calls Tryd.prog 16 #[.pointer (some ⟨p, 0, none⟩), .int .i64 v] w1 fun r w2 => r = .returned (.pointer (some ⟨p, 0, none⟩)) ∧
    (Calls Tryd.prog 22 #[.pointer (some ⟨p, 0, none⟩)] w2 fun r w' => r = .returned (.int .i64 8) ∧ w2 = w') ∧
    Calls Tryd.prog 12 #[.pointer (some ⟨p, 0, none⟩), .int .i64 (a % 256)] w2 fun r w3 => r = .returned (.pointer (some ⟨p, 0, none⟩)) ∧
      (Calls Tryd.prog 22 #[.pointer (some ⟨p, 0, none⟩)] w3 fun r w' => r = .returned (.int .i64 9) ∧ w3 = w') ∧
      Calls Tryd.prog 14 #[.pointer (some ⟨p, 0, none⟩), .int .i64 (a % 65536)] w3 fun r w4 => r = .returned (.pointer (some ⟨p, 0, none⟩)) ∧
        (Calls Tryd.prog 22 #[.pointer (some ⟨p, 0, none⟩)] w4 fun r w' => r = .returned (.int .i64 11) ∧ w4 = w') ∧
        Calls Tryd.prog 15 #[.pointer (some ⟨p, 0, none⟩), .int .i64 (a % 65536)] w4 fun r w5 => r = .returned (.pointer (some ⟨p, 0, none⟩)) ∧
          (Calls Tryd.prog 22 #[.pointer (some ⟨p, 0, none⟩)] w5 fun r w' => r = .returned (.int .i64 15) ∧ w5 = w') ∧
          Calls Tryd.prog 18 #[.pointer (some ⟨p, 0, none⟩), .string z] w5 fun r w6 => r = .returned (.pointer (some ⟨p, 0, none⟩)) ∧
            (65535 < n → Calls Tryd.prog 12 #[.pointer (some ⟨p, 0, none⟩), .int .i64 1] w6 fun r w7 => r = .returned (.pointer (some ⟨p, 0, none⟩)) ∧ True ∧
              Calls Tryd.prog 21 #[.pointer (some ⟨p, 0, none⟩)] w7 fun r w8 => r = .returned (.tuple #[.string ⟨#[]⟩, .int .i64 2]) ∧ Fr p w1 w8) ∧
            (n ≤ 65535 → Calls Tryd.prog 20 #[.pointer (some ⟨p, 0, none⟩), .string ⟨#[120]⟩] w6 fun r w7 => r = .returned (.pointer (some ⟨p, 0, none⟩)) ∧
              Calls Tryd.prog 21 #[.pointer (some ⟨p, 0, none⟩)] w7 fun r w8 => r = .returned (.tuple #[.string y, .int .i64 0]) ∧ Fr p w1 w8)


theorem puts5 (a v : Int) (n : Nat) (z : ByteArray) (hz : z.size = n) (hn : n ≤ 70000) :
    ∃ y : ByteArray, y.size = 18 + n ∧ y.data.toList.getLast? = some 120 ∧ Puts5 a v n z y := by
  have lz : z.data.toList.length = n := by rw [← hz]; simp
  refine ⟨str (((low 8 (comp v) ++ low 1 (a % 256).toNat) ++ low 2 (a % 65536).toNat) ++ low 4 (a % 65536).toNat ++ (low 2 z.data.toList.length ++ z.data.toList) ++ [120]), ?_, ?_, ?_⟩
  · rw [str_size]; simp only [List.length_append, low_length, List.length_singleton]; omega
  · rw [str_list, List.getLast?_append]; rfl
  intro p w1 h0
  have H1 := putInt_any w1 p [] v 0 (by simp) (.inr ⟨h0, rfl⟩)
  rw [stepI, if_pos rfl, List.nil_append] at H1
  refine H1.mono fun r w2 ⟨e1, q1, b1⟩ => ⟨e1, ?_, ?_⟩
  · have L := putLen_any w2 p _ 0 q1
    simp only [low_length] at L; exact L
  have H2 := putByte_any w2 p _ (a % 256) 0 (by omega) (by simp only [low_length]; omega) q1
  rw [stepN_fits (by omega) (by omega)] at H2
  refine H2.mono fun r w3 ⟨e2, q2, b2⟩ => ⟨e2, ?_, ?_⟩
  · have L := putLen_any w3 p _ 0 q2
    simp only [low_length, List.length_append] at L; exact L
  have H3 := putHalf_any w3 p _ (a % 65536) 0 (by omega) (by simp only [low_length, List.length_append]; omega) q2
  rw [stepN_fits (by omega) (by omega)] at H3
  refine H3.mono fun r w4 ⟨e3, q3, b3⟩ => ⟨e3, ?_, ?_⟩
  · have L := putLen_any w4 p _ 0 q3
    simp only [low_length, List.length_append] at L; exact L
  have H4 := putWord_any w4 p _ (a % 65536) 0 (by omega) (by simp only [low_length, List.length_append]; omega) q3
  rw [stepN_fits (by omega) (by omega)] at H4
  refine H4.mono fun r w5 ⟨e4, q4, b4⟩ => ⟨e4, ?_, ?_⟩
  · have L := putLen_any w5 p _ 0 q4
    simp only [low_length, List.length_append] at L; exact L
  have H5 := putText_any w5 p _ 0 z (by simp only [low_length, List.length_append]; omega) q4
  refine H5.mono fun r w6 ⟨e5, q5, b5⟩ => ⟨e5, fun hl => ?_, fun hl => ?_⟩
  · rw [stepT, if_pos rfl, if_neg (by omega)] at q5
    have H6 := putByte_any w6 p _ 1 2 (by omega) (by simp only [low_length, List.length_append]; omega) q5
    rw [stepN_bad (by omega)] at H6
    refine H6.mono fun r w7 ⟨e6, q6, b6⟩ => ⟨e6, trivial, ?_⟩
    refine (putEnd_bad w7 p _ 2 (by omega) q6).mono fun r w8 ⟨e7, k, hk⟩ => ⟨e7, ?_⟩
    rw [hk]
    exact Fr.drewN (b1.trans (b2.trans (b3.trans (b4.trans (b5.trans b6))))) k
  · rw [stepT, if_pos rfl, if_pos (by omega)] at q5
    have H6 := putRaw_any w6 p _ 0 ⟨#[120]⟩ (by show _ + 1 ≤ _; simp only [low_length, List.length_append]; omega) q5
    rw [stepR, if_pos rfl] at H6
    refine H6.mono fun r w7 ⟨e6, q6, b6⟩ => ⟨e6, ?_⟩
    exact (putEnd_ok w7 p _ q6).mono fun r w8 ⟨e7, hk⟩ => ⟨e7, hk ▸ (b1.trans (b2.trans (b3.trans (b4.trans (b5.trans b6)))))⟩

theorem last_byte (y : ByteArray) (c : UInt8) (h : y.data.toList.getLast? = some c) (h0 : 0 < y.size) : ∃ hx : y.size - 1 < y.size, y[y.size - 1] = c := by
  refine ⟨by omega, ?_⟩
  rw [List.getLast?_eq_getElem?] at h
  have hl : y.data.toList.length = y.size := by simp
  rw [hl, List.getElem?_eq_getElem (by omega)] at h
  exact Option.some.inj h
theorem made_row (w : World) (n : Nat) (hn : n ≤ 70000) : (Instr.makeSlice 26 (.int .i64 (n : Int)) (.int .i64 (n : Int))).run Tryd.prog w = .ok (.slice (some ⟨w.heap.size, 0, none⟩) n n) (w.alloc (.cells (madeCells #[.int .u8 0] n) 5)) :=
  run_make_row' (P := Tryd.prog) 26 5 (.int .u8 0) 1 Tryd.underlying26 infoByte rfl .i64 .i64 n (by omega) (by omega) w
theorem made_string (w : World) (n : Nat) (hn : n ≤ 70000) : (convert 26 9 (.slice (some ⟨w.heap.size, 0, none⟩) n n)).run Tryd.prog (w.alloc (.cells (madeCells #[.int .u8 0] n) 5)) = .ok (.string (str (List.replicate n 0))) (w.alloc (.cells (madeCells #[.int .u8 0] n) 5)) := by
  refine run_owned_string (base := 0) (n := n) (xs := List.replicate n 0) _ ⟨by simp [cells], .inr ⟨w.heap.size, n, madeCells #[.int .u8 0] n, rfl, Nat.zero_le _, new_at w _ _, Nat.le_refl _, by unfold maxLen; omega, by rw [size_madeCells]; omega, ?_⟩⟩
  rw [List.take_of_length_le (by rw [Array.length_toList, size_madeCells]; omega)]
  apply List.ext_getElem?
  intro i
  by_cases h : i < n
  · simp [madeCells, cells, h, Nat.mod_one]
  · simp [madeCells, cells, h]

theorem sizes_in (w : World) (a v : Int) (n : Nat) (hn : n ≤ 70000) (hp : Pow w) :
    Calls Tryd.prog 8 #[.int .i64 a, .int .i64 v, .int .i64 n] w fun r w' => r = .returned (.bool true) ∧ Below w.heap.size w w' := by
  have K := Lib.hid (alive_any w hp)
  obtain ⟨z, hz⟩ : ∃ z, z = str (List.replicate n 0) := ⟨_, rfl⟩
  have hzs : z.size = n := by rw [hz, str_size, List.length_replicate]
  obtain ⟨y, hys, hyl, hP⟩ := puts5 a v n z hzs hn
  have HP := Lib.hid hP
  have hmk := fun w1 : World => made_row w1 n hn
  have hcv : ∀ w0 : World, (convert 26 9 (.slice (some ⟨w0.heap.size + 1, 0, none⟩) n n)).run Tryd.prog ((w0.alloc (.cells #[.slice none 0 0, .pointer none, .int .i64 0] 29)).alloc (.cells (madeCells #[.int .u8 0] n) 5)) = .ok (.string z) ((w0.alloc (.cells #[.slice none 0 0, .pointer none, .int .i64 0] 29)).alloc (.cells (madeCells #[.int .u8 0] n) 5)) := fun w0 => by
    have := made_string (w0.alloc (.cells #[.slice none 0 0, .pointer none, .int .i64 0] 29)) n hn
    rw [← hz] at this
    simpa using this
  have h0 : ∀ w0 : World, PutNew ((w0.alloc (.cells #[.slice none 0 0, .pointer none, .int .i64 0] 29)).alloc (.cells (madeCells #[.int .u8 0] n) 5)) w0.heap.size 0 := fun w0 => by
    unfold PutNew
    rw [Below.heap_alloc _ _ _ (by simp)]
    exact new_at w0 _ _
  have H0 := Lib.hid h0
  have ka := and_255 a
  have kb := and_65535 a
  have ky0 : 0 < y.size := by omega
  have hyb := last_byte y 120 hyl ky0
  obtain ⟨hyx, hyb⟩ := hyb
  have k0 : decide ((n : Int) < 0) = false := decide_eq_false (by omega)
  have k1 : decide ((70000 : Int) < (n : Int)) = false := decide_eq_false (by omega)
  have ky : ((y.size : Int) == 18 + (n : Int)) = true := by rw [beq_iff_eq]; omega
  have hys2 : y.size ≤ 80000 := by omega
  have hlast : (((y[y.size - 1].toNat : Nat) : Int) == 120) = true := by rw [hyb]; rfl
  have HL := Lib.hid hlast
  clear hyb hlast
  clear hp hz hzs hyl hP h0 hys
  by_cases hlong : 65535 < n
  · have k2 : decide ((65535 : Int) < (n : Int)) = true := decide_eq_true (by omega)
    have k2' : decide (65535 < n) = true := decide_eq_true hlong
    go_enter Tryd.func8, Tryd.ntmps8
    go_wp2_with (first
      | (go_at_call 11; refine K.out.mono ?_; rintro e w0 ⟨rfl, hb0⟩)
      | (go_at_call 16; refine (HP.out _ _ (H0.out _)).mono ?_; rintro e w1 ⟨rfl, hl, hq⟩; have L := Lib.hid hl; have N := Lib.hid hq; clear hl hq)
      | (go_at_call 22; refine L.out.mono ?_; rintro e w2 ⟨rfl, rfl⟩; clear L)
      | (go_at_call 12; refine N.out.mono ?_; rintro e w1 ⟨rfl, hl, hq⟩; have L := Lib.hid hl; have N := Lib.hid hq; clear hl hq)
      | (go_at_call 14; refine N.out.mono ?_; rintro e w1 ⟨rfl, hl, hq⟩; have L := Lib.hid hl; have N := Lib.hid hq; clear hl hq)
      | (go_at_call 15; refine N.out.mono ?_; rintro e w1 ⟨rfl, hl, hq⟩; have L := Lib.hid hl; have N := Lib.hid hq; clear hl hq)
      | (go_at_call 18; refine N.out.mono ?_; rintro e w1 ⟨rfl, hl, hq⟩; have N := Lib.hid (hl hlong); clear hl hq)
      | (go_at_call 21; refine N.out.mono ?_; rintro e w1 ⟨rfl, hq⟩))
    go_ret
    have d0 := ((Below.refl w0.heap.size w0).alloc (Nat.le_refl _) (.cells #[.slice none 0 0, .pointer none, .int .i64 0] 29)).alloc (by simp) (.cells (madeCells #[.int .u8 0] n) 5)
    exact ⟨rfl, hb0.trans ((d0.trans hq.below).mono hb0.size)⟩
  · have k2 : decide ((65535 : Int) < (n : Int)) = false := decide_eq_false (by omega)
    have k2' : decide (65535 < n) = false := decide_eq_false hlong
    have hshort : n ≤ 65535 := by omega
    go_enter Tryd.func8, Tryd.ntmps8
    go_wp2_with (first
      | (go_at_call 11; refine K.out.mono ?_; rintro e w0 ⟨rfl, hb0⟩)
      | (go_at_call 16; refine (HP.out _ _ (H0.out _)).mono ?_; rintro e w1 ⟨rfl, hl, hq⟩; have L := Lib.hid hl; have N := Lib.hid hq; clear hl hq)
      | (go_at_call 22; refine L.out.mono ?_; rintro e w2 ⟨rfl, rfl⟩; clear L)
      | (go_at_call 12; refine N.out.mono ?_; rintro e w1 ⟨rfl, hl, hq⟩; have L := Lib.hid hl; have N := Lib.hid hq; clear hl hq)
      | (go_at_call 14; refine N.out.mono ?_; rintro e w1 ⟨rfl, hl, hq⟩; have L := Lib.hid hl; have N := Lib.hid hq; clear hl hq)
      | (go_at_call 15; refine N.out.mono ?_; rintro e w1 ⟨rfl, hl, hq⟩; have L := Lib.hid hl; have N := Lib.hid hq; clear hl hq)
      | (go_at_call 18; refine N.out.mono ?_; rintro e w1 ⟨rfl, hl, hq⟩; have N := Lib.hid (hq hshort); clear hl hq)
      | (go_at_call 20; refine N.out.mono ?_; rintro e w1 ⟨rfl, hq⟩; have N := Lib.hid hq; clear hq)
      | (go_at_call 21; refine N.out.mono ?_; rintro e w1 ⟨rfl, hq⟩))
    go_ret
    have d0 := ((Below.refl w0.heap.size w0).alloc (Nat.le_refl _) (.cells #[.slice none 0 0, .pointer none, .int .i64 0] 29)).alloc (by simp) (.cells (madeCells #[.int .u8 0] n) 5)
    exact ⟨congrArg (fun b => Ending.returned (Value.bool b)) HL.out, hb0.trans ((d0.trans hq.below).mono hb0.size)⟩

theorem sizes_out (w : World) (a v n : Int) (h : ¬ (0 ≤ n ∧ n ≤ 70000)) (hp : Pow w) :
    Calls Tryd.prog 8 #[.int .i64 a, .int .i64 v, .int .i64 n] w fun r w' => r = .returned (.bool true) ∧ Below w.heap.size w w' := by
  have K := Lib.hid (alive_any w hp)
  clear hp
  by_cases h0 : n < 0
  · have k0 : decide (n < 0) = true := decide_eq_true h0
    clear h
    go_enter Tryd.func8, Tryd.ntmps8
    go_wp2_with (go_at_call 11; refine K.out.mono ?_; rintro e w1 ⟨rfl, hb⟩)
    go_ret
    exact ⟨rfl, hb⟩
  · have k0 : decide (n < 0) = false := decide_eq_false h0
    have k1 : decide ((70000 : Int) < n) = true := decide_eq_true (by omega)
    clear h
    go_enter Tryd.func8, Tryd.ntmps8
    go_wp2_with (go_at_call 11; refine K.out.mono ?_; rintro e w1 ⟨rfl, hb⟩)
    go_ret
    exact ⟨rfl, hb⟩
theorem sizes_walk (w : World) (a v n : Int) (hp : Pow w) :
    Calls Tryd.prog 8 #[.int .i64 a, .int .i64 v, .int .i64 n] w fun r w' => r = .returned (.bool true) ∧ Below w.heap.size w w' := by
  by_cases h : 0 ≤ n ∧ n ≤ 70000
  · obtain ⟨k, rfl⟩ := Int.eq_ofNat_of_zero_le h.1
    exact sizes_in w a v k (by omega) hp
  · exact sizes_out w a v n h hp

end Go.Proofs.YtadcmjcafimkeaaDoor.P1
