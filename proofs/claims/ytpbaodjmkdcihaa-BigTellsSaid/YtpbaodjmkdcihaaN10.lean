/-
  Two pages compared; what a value's pages are, one behind the other; a place's text read back.
-/
import Derived.Test.YtpbaodjmkdcihaaN6
import Derived.Test.YtpbaodjmkdcihaaN8
import Derived.Test.YtpbaodjmkdcihaaN9
import Derived.Laws.StructEq
namespace Go.Proofs.Ytpbaodjmkdcihaa.P11
open Go Go.RowKit Go.Lib Go.Proofs.Ytpbaodjmkdcihaa.PK
open Go.Proofs.Ytpbaodjmkdcihaa.P0 (low str str_size low_length size_app text_ext text_app str_list str_eq text_len same_true same_false)
open Go.Proofs.Ytpbaodjmkdcihaa.PP (num num_lt num_low_fits str_front str_cut)

/-- are two pages alike, as a Boolean -/
def Pg.same (p q : Pg) : Bool := (p.k == q.k) && (p.id == q.id) && (p.tx == q.tx) && (p.body.toList == q.body.toList)
theorem Pg.same_self (p : Pg) : p.same p = true := by
  unfold Pg.same
  rw [beq_self_eq_true, beq_self_eq_true, beq_self_eq_true, beq_self_eq_true]
  rfl
theorem Pg.same_eq {p q : Pg} (h : p.same q = true) : p = q := by
  obtain ⟨k, i, t, b⟩ := p
  obtain ⟨k', i', t', b'⟩ := q
  unfold Pg.same at h
  simp only [Bool.and_eq_true, beq_iff_eq] at h
  obtain ⟨⟨⟨h1, h2⟩, h3⟩, h4⟩ := h
  have h5 : b = b' := by
    by_cases e : b = b'
    · exact e
    · have := same_false e
      rw [h4] at this
      simp at this
  subst h1 h2 h3 h5
  rfl
theorem Pg.same_ne {p q : Pg} (h : p ≠ q) : p.same q = false := by
  cases e : p.same q
  · rfl
  · exact absurd (Pg.same_eq e) h
theorem stood : Try.prog.stoodInHeld 33 = false := by kernel_rfl
theorem page_desc : Try.prog.underlying 33 = some (.struct (Try.prog.fieldsOf 33)) := by
  unfold Program.fieldsOf
  rw [Try.underlying33]
theorem part_int (w : World) (cs : Array Value) (j : Nat) (v : Value) (h : cs[j]? = some v) : (part 3 cs j).run Try.prog w = .ok v w := by
  simp [part, Sem.run_bind, Try.isAgg3, h]
theorem part_str (w : World) (cs : Array Value) (j : Nat) (v : Value) (h : cs[j]? = some v) : (part 9 cs j).run Try.prog w = .ok v w := by
  simp [part, Sem.run_bind, Try.isAgg9, h]
theorem page_eql (w : World) (p q : Pg) : (binOp .eql 33 p.v q.v).run Try.prog w = .ok (.bool (p.same q)) w := by
  unfold Pg.v
  rw [run_eql_struct, run_equalIn_agg w 9999 _ _ _ page_desc stood]
  have ei : ∀ (w : World) (a b : Int), (Op.equalIn 9999 3 (.int .i64 a) (.int .i64 b)).run Try.prog w = .ok (a == b) w := fun w a b => run_equalIn_int w 9998 _ _ _ a b Try.underlying3
  have es : ∀ (w : World) (a b : ByteArray), (Op.equalIn 9999 9 (.string a) (.string b)).run Try.prog w = .ok (a.toList == b.toList) w := fun w a b => run_equalIn_string w 9998 _ a b Try.underlying9
  have q0 : ∀ (w : World) (a b c d : Value), (part 3 #[a, b, c, d] 0).run Try.prog w = .ok a w := fun w a b c d => part_int w _ 0 a rfl
  have q1 : ∀ (w : World) (a b c d : Value), (part 3 #[a, b, c, d] 1).run Try.prog w = .ok b w := fun w a b c d => part_int w _ 1 b rfl
  have q2 : ∀ (w : World) (a b c d : Value), (part 3 #[a, b, c, d] 2).run Try.prog w = .ok c w := fun w a b c d => part_int w _ 2 c rfl
  have q3 : ∀ (w : World) (a b c d : Value), (part 9 #[a, b, c, d] 3).run Try.prog w = .ok d w := fun w a b c d => part_str w _ 3 d rfl
  simp [Program.fieldsOf, Try.underlying33, Op.eqFields, q0, q1, q2, q3, ei, es]
  unfold Pg.same
  by_cases h1 : p.k = q.k <;> by_cases h2 : p.id = q.id <;> by_cases h3 : p.tx = q.tx <;> by_cases h4 : p.body.toList = q.body.toList <;> simp [h1, h2, h3, h4]



theorem page_neq (w : World) (p q : Pg) : (binOp .neq 33 p.v q.v).run Try.prog w = .ok (.bool (!p.same q)) w := by
  have h := page_eql w p q
  unfold Pg.v at *
  rw [run_eql_struct] at h
  rw [run_neq_struct]
  cases e : (Op.equalIn 10000 33 (.agg #[.int .i64 p.k, .int .i64 p.id, .int .i64 p.tx, .string p.body]) (.agg #[.int .i64 q.k, .int .i64 q.id, .int .i64 q.tx, .string q.body])).run Try.prog w with
  | ok b w' => rw [e] at h; simp only [Result.andThen_ok] at h ⊢; cases h; rfl
  | _ => rw [e] at h; cases h

/-- a place's text says just that place -/
theorem unref_ref {a n : Nat} (h : refOk a n) : unrefB (refT a n) = ((a : Int), (n : Int), 0) := by
  obtain ⟨h1, h2, h3, h4⟩ := h
  have hs : (refT a n).size = 4 := by unfold refT; rw [size_app, str_size, str_size, low_length, low_length]
  have eT : refT a n = str (low 2 a ++ low 2 n) := by unfold refT; apply text_ext; rw [text_app, str_list, str_list, str_list]
  have eA : numA (refT a n) = a := by
    unfold numA
    rw [eT, str_cut, List.drop_zero, str_list, List.take_left' (low_length 2 a)]
    exact num_low_fits (by omega)
  have eZ : numZ (refT a n) = n := by
    unfold numZ
    rw [hs, eT, str_cut, str_list, List.take_of_length_le (by rw [List.length_append, low_length, low_length]; omega), List.drop_left' (low_length 2 a)]
    exact num_low_fits (by omega)
  unfold unrefB
  rw [eA, eZ, if_pos ⟨hs, h1, h2, h3, h4⟩]

theorem cut_more (s : ByteArray) (a b : Nat) (h : a ≤ b) : s.extract 0 a ++ s.extract a b = s.extract 0 b := by
  apply text_ext
  rw [text_app, Lib.extract_data, Lib.extract_data, Lib.extract_data, List.drop_zero, Nat.sub_zero, Nat.sub_zero]
  have := List.take_add (l := s.data.toList) (i := a) (j := b - a)
  rw [show a + (b - a) = b by omega] at this
  exact this.symm
/-- the bodies of a value's first pages are its first bytes -/
theorem cat_pages (value : ByteArray) (first tx : Int) (F : Nat → Pg × Int) (hF : ∀ k, k < needN value.size → F k = (pageB value first tx k, 0)) : ∀ i, i ≤ needN value.size → catF F i = value.extract 0 (min (232 * i) value.size)
  | 0, _ => by
    rw [Nat.mul_zero, Nat.zero_min]
    apply text_ext
    simp [catF]
  | i + 1, hi => by
    have ih := cat_pages value first tx F hF i (by omega)
    have h1 := need_in (n := value.size) (k := i) (by omega)
    show catF F i ++ (F i).1.body = _
    rw [ih, hF i (by omega), Nat.min_eq_left h1]
    show value.extract 0 (232 * i) ++ value.extract (232 * i) (min (232 * i + 232) value.size) = _
    rw [cut_more _ _ _ (by omega), Nat.mul_succ]
theorem pages_good (value : ByteArray) (first tx : Int) (F : Nat → Pg × Int) (k : Nat) (hk : k < needN value.size) (hF : F k = (pageB value first tx k, 0)) : goodF value.size F k = true := by
  have h1 := need_in hk
  have h2 := pageB_size value first tx k
  unfold goodF
  rw [hF]
  simp only [Bool.and_eq_true, decide_eq_true_eq]
  refine ⟨trivial, rfl, ?_⟩
  rw [h2]
  omega
/-- all pages told: the value -/
theorem read_all (value : ByteArray) (first tx : Int) (F : Nat → Pg × Int) (hF : ∀ k, k < needN value.size → F k = (pageB value first tx k, 0)) : readF value.size F = (value, 0) := by
  rw [readF_good (fun k hk => pages_good value first tx F k hk (hF k hk)), cat_pages value first tx F hF _ (Nat.le_refl _)]
  have h : min (232 * needN value.size) value.size = value.size := by unfold needN; omega
  rw [h]
  congr 1
  apply text_ext
  simp
/-- one that is lost: nothing -/
theorem read_lost {n : Nat} {F : Nat → Pg × Int} {k : Nat} (hk : k < needN n) (h : (F k).2 ≠ 0) : readF n F = (⟨#[]⟩, 25) := by
  refine readF_bad hk ?_
  unfold goodF
  rw [decide_eq_false h]
  rfl
/-- read with a byte less: nothing, if the last page has more than one byte -/
theorem read_less (value : ByteArray) (first tx : Int) (F : Nat → Pg × Int) (hF : ∀ k, k < needN value.size → F k = (pageB value first tx k, 0)) (h : (value.size - 1) % 232 ≠ 0) : readF (value.size - 1) F = (⟨#[]⟩, 25) := by
  have hN : needN (value.size - 1) = needN value.size := by unfold needN; omega
  have hp := needN_pos value.size
  refine readF_bad (k := needN value.size - 1) (by omega) ?_
  have h2 := pageB_size value first tx (needN value.size - 1)
  have h3 := needN_at (n := value.size) (by omega)
  unfold goodF
  rw [hF _ (by omega)]
  have h4 : ¬ (pageB value first tx (needN value.size - 1)).body.size = min (value.size - 1 - 232 * (needN value.size - 1)) 232 := by
    rw [h2]
    omega
  simp [h4]

end Go.Proofs.Ytpbaodjmkdcihaa.P11
