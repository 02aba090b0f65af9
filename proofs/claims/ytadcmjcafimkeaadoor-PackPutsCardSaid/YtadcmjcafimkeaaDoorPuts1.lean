/-
  P101: every things that are put, one behind the other: the walk of the statement PackPuts.
-/
import Derived.Test.YtadcmjcafimkeaaDoorOps1
import Derived.Test.YtadcmjcafimkeaaDoorRPut
namespace Go.Proofs.YtadcmjcafimkeaaDoor.P1
open Go Go.RowKit Go.Lib

theorem str_append (a b : List UInt8) : str a ++ str b = str (a ++ b) := by
  apply ByteArray.ext; simp [str, ByteArray.data_append]
theorem str_append_s (a : List UInt8) (s : ByteArray) : str a ++ s = str (a ++ s.data.toList) := by
  rw [← str_append, str_eq]

/-- what one thing more makes of what is wanted -/
def Out (bd : Int) (W s : ByteArray) (ok : Bool) (e bd' : Int) (W' : ByteArray) (xs' : List UInt8) : Prop :=
  (bd ≠ 0 ∧ bd' = bd ∧ W' = W) ∨ (bd = 0 ∧ ok = true ∧ bd' = 0 ∧ W ++ s = W' ∧ W' = str xs') ∨ (bd = 0 ∧ ok = false ∧ bd' = e ∧ e ≠ 0 ∧ W' = W)
/-- one thing put: by the program, and what becomes of it -/
def PStep (p : Nat) (xs : List UInt8) (bd : Int) (W : ByteArray) (m : Nat) (f : FuncId) (a : Value) (s : ByteArray) (ok : Bool) (e : Int) : Prop :=
  ∃ (xs' : List UInt8) (bd' : Int) (W' : ByteArray), Out bd W s ok e bd' W' xs' ∧ xs'.length ≤ xs.length + m ∧ W'.size ≤ W.size + m ∧
    ∀ w, PutIs w p xs bd → Calls Tryd.prog f #[.pointer (some ⟨p, 0, none⟩), a] w fun q w' => q = .returned (.pointer (some ⟨p, 0, none⟩)) ∧ PutIs w' p xs' bd' ∧ Fr p w w'

theorem size_app (a b : ByteArray) : (a ++ b).size = a.size + b.size := ByteArray.size_append ..
theorem pstep_fit {xs : List UInt8} {bd : Int} {W : ByteArray} (p n : Nat) (f : FuncId) (v : Int) (hW : bd = 0 → W = str xs) (h8 : n ≤ 8)
    (hf : ∀ w, PutIs w p xs bd → Calls Tryd.prog f #[.pointer (some ⟨p, 0, none⟩), .int .i64 v] w fun q w' => q = .returned (.pointer (some ⟨p, 0, none⟩)) ∧ PutIs w' p (stepN n v xs bd).1 (stepN n v xs bd).2 ∧ Fr p w w') :
    PStep p xs bd W 8 f (.int .i64 v) (fitS n v) (fitB n v) 1 := by
  by_cases hb : bd = 0
  · subst hb
    obtain rfl := hW rfl
    by_cases h : 0 ≤ v ∧ v < 256 ^ n
    · obtain ⟨e1, e2⟩ := fit_yes h
      rw [e1, e2]
      rw [stepN_fits h.1 h.2] at hf
      refine ⟨_, _, str (xs ++ low n v.toNat), .inr (.inl ⟨rfl, rfl, rfl, str_append _ _, rfl⟩), ?_, ?_, hf⟩
      · rw [List.length_append, low_length]; omega
      · rw [str_size, str_size, List.length_append, low_length]; omega
    · obtain ⟨e1, e2⟩ := fit_no h
      rw [e1, e2]
      rw [stepN_not h] at hf
      exact ⟨xs, 1, str xs, .inr (.inr ⟨rfl, rfl, rfl, by decide, rfl⟩), by omega, by omega, hf⟩
  · rw [stepN_bad hb] at hf
    exact ⟨xs, bd, W, .inl ⟨hb, rfl, rfl⟩, by omega, by omega, hf⟩
theorem pstep_int {xs : List UInt8} {bd : Int} {W : ByteArray} (p : Nat) (v : Int) (hW : bd = 0 → W = str xs) (hx : xs.length ≤ 100000) :
    PStep p xs bd W 8 16 (.int .i64 v) (str (low 8 (comp v))) true 1 := by
  have hf := fun (w : World) (h : PutIs w p xs bd) => putInt_any w p xs v bd (by omega) h
  by_cases hb : bd = 0
  · subst hb
    obtain rfl := hW rfl
    simp only [stepI, if_true] at hf
    refine ⟨_, _, str (xs ++ low 8 (comp v)), .inr (.inl ⟨rfl, rfl, rfl, str_append _ _, rfl⟩), ?_, ?_, hf⟩
    · rw [List.length_append, low_length]; omega
    · rw [str_size, str_size, List.length_append, low_length]; omega
  · simp only [stepI, if_neg hb] at hf
    exact ⟨xs, bd, W, .inl ⟨hb, rfl, rfl⟩, by omega, by omega, hf⟩
theorem pstep_raw {xs : List UInt8} {bd : Int} {W : ByteArray} (p : Nat) (s : ByteArray) (hW : bd = 0 → W = str xs) (hx : xs.length ≤ 100000) (hs : s.size ≤ 100000) :
    PStep p xs bd W s.size 20 (.string s) s true 1 := by
  have ls : s.data.toList.length = s.size := by simp
  have hf := fun (w : World) (h : PutIs w p xs bd) => putRaw_any w p xs bd s (by omega) h
  by_cases hb : bd = 0
  · subst hb
    obtain rfl := hW rfl
    simp only [stepR, if_true] at hf
    refine ⟨_, _, str (xs ++ s.data.toList), .inr (.inl ⟨rfl, rfl, rfl, str_append_s _ _, rfl⟩), ?_, ?_, hf⟩
    · rw [List.length_append]; omega
    · rw [str_size, str_size, List.length_append]; omega
  · simp only [stepR, if_neg hb] at hf
    exact ⟨xs, bd, W, .inl ⟨hb, rfl, rfl⟩, by omega, by omega, hf⟩
theorem pstep_text {xs : List UInt8} {bd : Int} {W : ByteArray} (p : Nat) (s : ByteArray) (hW : bd = 0 → W = str xs) (hx : xs.length ≤ 100000) (hs : s.size ≤ 100000) :
    PStep p xs bd W (s.size + 2) 18 (.string s) (textS s) (textB s) 2 := by
  have ls : s.data.toList.length = s.size := by simp
  have hf := fun (w : World) (h : PutIs w p xs bd) => putText_any w p xs bd s (by omega) h
  by_cases hb : bd = 0
  · subst hb
    obtain rfl := hW rfl
    by_cases h : s.size ≤ 65535
    · have e1 : textS s = str (low 2 s.size) ++ s := if_pos h
      have e2 : textB s = true := decide_eq_true h
      rw [e1, e2]
      have e3 : stepT s.data.toList xs 0 = (xs ++ (low 2 s.size ++ s.data.toList), 0) := by
        unfold stepT; rw [if_pos rfl, ls, if_pos h]
      simp only [e3] at hf
      refine ⟨_, _, str (xs ++ (low 2 s.size ++ s.data.toList)), .inr (.inl ⟨rfl, rfl, rfl, ?_, rfl⟩), ?_, ?_, hf⟩
      · rw [str_append_s, str_append_s (low 2 s.size) s, str_list]
      · simp only [List.length_append, low_length]; omega
      · simp only [str_size, List.length_append, low_length]; omega
    · have e1 : textS s = ⟨#[]⟩ := if_neg h
      have e2 : textB s = false := decide_eq_false h
      rw [e1, e2]
      have e3 : stepT s.data.toList xs 0 = (xs, 2) := by
        unfold stepT; rw [if_pos rfl, ls, if_neg h]
      simp only [e3] at hf
      exact ⟨xs, 2, str xs, .inr (.inr ⟨rfl, rfl, rfl, by decide, rfl⟩), by omega, by omega, hf⟩
  · have e3 : stepT s.data.toList xs bd = (xs, bd) := by
      unfold stepT; rw [if_neg hb]
    simp only [e3] at hf
    exact ⟨xs, bd, W, .inl ⟨hb, rfl, rfl⟩, by omega, by omega, hf⟩

/-- what End and Len tell -/
theorem end_good (p : Nat) (xs : List UInt8) (W : ByteArray) (hW : W = str xs) :
    (∀ w, PutIs w p xs 0 → Calls Tryd.prog 21 #[.pointer (some ⟨p, 0, none⟩)] w fun q w' => q = .returned (.tuple #[.string W, .int .i64 0]) ∧ w = w') ∧
    (∀ w, PutIs w p xs 0 → Calls Tryd.prog 22 #[.pointer (some ⟨p, 0, none⟩)] w fun q w' => q = .returned (.int .i64 W.size) ∧ w = w') := by
  subst hW
  exact ⟨fun w h => putEnd_ok w p xs h, fun w h => by rw [str_size]; exact putLen_any w p xs 0 h⟩

end Go.Proofs.YtadcmjcafimkeaaDoor.P1
