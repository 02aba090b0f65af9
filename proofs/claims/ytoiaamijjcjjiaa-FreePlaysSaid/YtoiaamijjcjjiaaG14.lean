/-
  FreeWaits: what the walk has between its calls.
-/
import Derived.Test.YtoiaamijjcjjiaaG13
namespace Go.Proofs.Ytoiaamijjcjjiaa.P7
open Go Go.RowKit Go.Lib Go.Proofs.Ytoiaamijjcjjiaa.PK

theorem iRow_slice {w : World} {lo : Nat} {u : Value} {l : List Int} (h : (iRow u l).At w lo) : ∃ a c, u = .slice a l.length c := len_owned (iRow_owns.1 h)
def f0 (p : Int) : FM := ⟨.slice none 0 0, .slice none 0 0, p, [], []⟩
def f1 (p tx : Int) (ids : List Int) : FM := { f0 p with W := (f0 p).give tx ids }
def f2 (p tx : Int) (ids : List Int) (n : Nat) : FM := { f1 p tx ids with pages := p + n }
def f3 (p tx : Int) (ids : List Int) : FM := { f1 p tx ids with L := (f1 p tx ids).relL (tx + 1), W := relW (tx + 1) (f1 p tx ids).W }
def kW (p tx : Int) (ids : List Int) : Nat := (f1 p tx ids).W.length
section
variable {p tx : Int} {ids : List Int} {n : Nat}
theorem f1_tx : ∀ q ∈ (f1 p tx ids).W, q.1 = tx := give_tx tx ids [] (fun _ q => by cases q)
theorem f0_fine (h1 : 2 ≤ p) (h2 : p ≤ 4000) : Fine (f0 p) := ⟨List.Pairwise.nil, fun _ q => (by cases q), fun _ q => (by cases q), List.nodup_nil, fun _ q => (by cases q), h1, h2⟩
theorem f1_fine (h1 : 2 ≤ p) (h2 : p ≤ 4000) : Fine (f1 p tx ids) := Fine.give tx ids [] (f0_fine h1 h2)
theorem f1_pend (h1 : 2 ≤ p) (h2 : p ≤ 4000) : ((f1 p tx ids).pend tx).length = kW p tx ids := by
  rw [(f1_fine h1 h2).pend_len, List.filter_eq_self.2 (fun q hq => by simp [f1_tx q hq])]
  rfl
theorem f2_take (hn1 : 1 ≤ n) (hn2 : n ≤ 20) (h2 : p ≤ 1000) : (f1 p tx ids).take (n : Int) = (f2 p tx ids n, p, 0) := by
  have h : (f1 p tx ids).hit n = none := rfl
  rw [FM.take_grow hn1 hn2 h (by show ¬ 4000 < p + (n : Int); omega)]
  rfl
theorem f2_not (h1 : 2 ≤ p) (h2 : p ≤ 4000) (i : Nat) : p + (i : Int) ∉ (f1 p tx ids).pend tx := fun hm => by
  obtain ⟨q, hq, _, e⟩ := pend_mem.1 hm
  have := ((f1_fine h1 h2).lowW q hq).2
  have hp : (f1 p tx ids).pages = p := rfl
  omega
theorem f3_n : relN (tx + 1) (f1 p tx ids).W = kW p tx ids := by
  unfold relN kW
  rw [List.filter_eq_self.2 (fun q hq => by have := f1_tx q hq; simp; omega)]
theorem f3_W : (f3 p tx ids).W = [] := by
  show relW (tx + 1) (f1 p tx ids).W = []
  unfold relW
  rw [List.filter_eq_nil_iff]
  intro q hq
  have := f1_tx q hq
  simp
  omega
theorem f3_L (h1 : 2 ≤ p) (h2 : p ≤ 4000) : (f3 p tx ids).L.length = kW p tx ids := by
  have h := (f1_fine (tx := tx) (ids := ids) h1 h2).relL_len (tx + 1)
  rw [f3_n] at h
  show ((f1 p tx ids).relL (tx + 1)).length = _
  rw [h]
  show 0 + kW p tx ids = _
  omega
theorem f3_pend : (f3 p tx ids).pend tx = [] := by
  unfold FM.pend
  rw [f3_W]
  rfl
variable {w w1 w2 : World} {r r2 : Nat} {R : List Row}
theorem wa_new (w : World) (h1 : 2 ≤ p) (h2 : p ≤ 4000) : Calls Try.prog 12 #[.int .i64 p] w fun e w' => ∃ r, e = .returned (.pointer (some ⟨r, 0, none⟩)) ∧ QF w [] r (f0 p) w' := by
  have h := new_q w p
  rw [show min (max p 2) 4000 = p by omega] at h
  exact h
theorem wa_give (h : QF w [] r (f0 p) w1) (v : Value) (hi : IL w v ids) (hl : ids.length ≤ 100) : Calls Try.prog 15 #[.pointer (some ⟨r, 0, none⟩), .int .i64 tx, v] w1 fun e w' => e = .returned (.int .i64 (kW p tx ids : Nat)) ∧ QF w [] r (f1 p tx ids) w' := by
  refine (h.give tx v ids (fun W _ hb => hi.below hb) (by omega)).mono ?_
  rintro e w' ⟨rfl, q⟩
  exact ⟨congrArg (fun z => Ending.returned (Value.int .i64 z)) (show ((kW p tx ids : Int) - ((0 : Nat) : Int)) = (kW p tx ids : Int) by omega), q⟩
theorem wa_pend (h : QF w [] r (f1 p tx ids) w1) (h1 : 2 ≤ p) (h2 : p ≤ 4000) : Calls Try.prog 21 #[.pointer (some ⟨r, 0, none⟩), .int .i64 tx] w1 fun e w' => ∃ a c, e = .returned (.slice a (kW p tx ids) c) ∧ QF w [iRow (.slice a (kW p tx ids) c) ((f1 p tx ids).pend tx)] r (f1 p tx ids) w' := by
  refine (h.pend_ tx).mono ?_
  rintro e w' ⟨u, rfl, hu, hb⟩
  obtain ⟨a, c, rfl⟩ := iRow_slice hu
  have q := h.with_ hb hu
  rw [f1_pend h1 h2] at q ⊢
  exact ⟨a, c, rfl, q⟩
theorem wa_copy (h : QF w R r (f1 p tx ids) w1) : Calls Try.prog 19 #[.pointer (some ⟨r, 0, none⟩)] w1 fun e w' => ∃ r2, e = .returned (.pointer (some ⟨r2, 0, none⟩)) ∧ Q2 w R r (f1 p tx ids) r2 (f1 p tx ids) w' := by
  refine (h.copy).mono ?_
  rintro e w' ⟨r2, rfl, q⟩
  exact ⟨r2, rfl, q.swap⟩
theorem wa_take (h : Q2 w R r (f1 p tx ids) r2 (f1 p tx ids) w1) (hn1 : 1 ≤ n) (hn2 : n ≤ 20) (h2 : p ≤ 1000) : Calls Try.prog 13 #[.pointer (some ⟨r, 0, none⟩), .int .i64 n] w1 fun e w' => e = .returned (.tuple #[.int .i64 p, .int .i64 0]) ∧ Q2 w R r (f2 p tx ids n) r2 (f1 p tx ids) w' := by
  have h9 := h.take n
  rw [f2_take hn1 hn2 h2] at h9
  exact h9
theorem q2_free {F F2 : FM} (h : Q2 w R r F r2 F2 w1) : Calls Try.prog 20 #[.pointer (some ⟨r, 0, none⟩)] w1 fun e w' => ∃ a c, e = .returned (.slice a F.L.length c) ∧ Q2 w R r F r2 F2 w' := by
  obtain ⟨P2, g2, k2, t2, h1⟩ := h
  refine (h1.free_).mono ?_
  rintro e w' ⟨u, rfl, hu, hb⟩
  obtain ⟨a, c, rfl⟩ := iRow_slice hu
  exact ⟨a, c, rfl, P2, g2, k2, t2, h1.over hb⟩
theorem q2_pend {F F2 : FM} (h : Q2 w R r F r2 F2 w1) (t : Int) : Calls Try.prog 21 #[.pointer (some ⟨r, 0, none⟩), .int .i64 t] w1 fun e w' => ∃ a c, e = .returned (.slice a (F.pend t).length c) ∧ Q2 w R r F r2 F2 w' := by
  obtain ⟨P2, g2, k2, t2, h1⟩ := h
  refine (h1.pend_ t).mono ?_
  rintro e w' ⟨u, rfl, hu, hb⟩
  obtain ⟨a, c, rfl⟩ := iRow_slice hu
  exact ⟨a, c, rfl, P2, g2, k2, t2, h1.over hb⟩
theorem wa_free0 (h : Q2 w R r (f2 p tx ids n) r2 (f1 p tx ids) w1) : Calls Try.prog 20 #[.pointer (some ⟨r, 0, none⟩)] w1 fun e w' => ∃ a c, e = .returned (.slice a 0 c) ∧ Q2 w R r (f2 p tx ids n) r2 (f1 p tx ids) w' := q2_free h
theorem wa_rel (h : Q2 w R r (f2 p tx ids n) r2 (f1 p tx ids) w1) : Calls Try.prog 17 #[.pointer (some ⟨r2, 0, none⟩), .int .i64 (tx + 1)] w1 fun e w' => e = .returned (.int .i64 (kW p tx ids : Nat)) ∧ Q2 w R r2 (f3 p tx ids) r (f2 p tx ids n) w' := by
  have h9 := h.swap.rel (tx + 1)
  rw [f3_n] at h9
  exact h9
theorem wa_free (h : Q2 w R r2 (f3 p tx ids) r (f2 p tx ids n) w1) (h1 : 2 ≤ p) (h2 : p ≤ 4000) : Calls Try.prog 20 #[.pointer (some ⟨r2, 0, none⟩)] w1 fun e w' => ∃ a c, e = .returned (.slice a (kW p tx ids) c) ∧ Q2 w R r2 (f3 p tx ids) r (f2 p tx ids n) w' := by
  have h9 := q2_free h
  rw [f3_L h1 h2] at h9
  exact h9
theorem wa_pend0 (h : Q2 w R r2 (f3 p tx ids) r (f2 p tx ids n) w1) : Calls Try.prog 21 #[.pointer (some ⟨r2, 0, none⟩), .int .i64 tx] w1 fun e w' => ∃ a c, e = .returned (.slice a 0 c) ∧ Q2 w R r (f2 p tx ids n) r2 (f3 p tx ids) w' := by
  have h9 := q2_pend h tx
  rw [f3_pend] at h9
  exact h9.mono fun e w' ⟨a, c, q1, q2⟩ => ⟨a, c, q1, q2.swap⟩
theorem wa_pend2 (h : Q2 w R r (f2 p tx ids n) r2 (f3 p tx ids) w1) (h1 : 2 ≤ p) (h2 : p ≤ 4000) : Calls Try.prog 21 #[.pointer (some ⟨r, 0, none⟩), .int .i64 tx] w1 fun e w' => ∃ a c, e = .returned (.slice a (kW p tx ids) c) ∧ Q2 w R r2 (f3 p tx ids) r (f2 p tx ids n) w' := by
  have h9 := q2_pend h tx
  rw [show ((f2 p tx ids n).pend tx).length = kW p tx ids from f1_pend h1 h2] at h9
  exact h9.mono fun e w' ⟨a, c, q1, q2⟩ => ⟨a, c, q1, q2.swap⟩
theorem wa_pages (h : Q2 w R r2 (f3 p tx ids) r (f2 p tx ids n) w1) : Calls Try.prog 27 #[.pointer (some ⟨r2, 0, none⟩)] w1 fun e w' => e = .returned (.int .i64 p) ∧ w1 = w' := h.one.pages_
theorem wa_in {a : Option Addr} {c : Nat} (h : Q2 w [iRow (.slice a (kW p tx ids) c) ((f1 p tx ids).pend tx)] r (f2 p tx ids n) r2 (f1 p tx ids) w1) (h1 : 2 ≤ p) (h2 : p ≤ 4000) (i : Nat) :
    Calls Try.prog 29 #[.slice a (kW p tx ids) c, .int .i64 (p + (i : Int))] w1 fun e w' => e = .returned (.bool false) ∧ w1 = w' := by
  have h9 := h.row (x := iRow (.slice a (kW p tx ids) c) ((f1 p tx ids).pend tx)) (by simp)
  have hk : ((f1 p tx ids).pend tx).length = kW p tx ids := f1_pend h1 h2
  have hf := fine_len (f1_fine (tx := tx) (ids := ids) h1 h2)
  have hb : kW p tx ids ≤ 4000 := by unfold kW; omega
  have h8 := in_any w1 _ _ (p + (i : Int)) (iRow_il h9 (by omega))
  rw [decide_eq_false (f2_not h1 h2 i)] at h8
  exact h8
end

end Go.Proofs.Ytoiaamijjcjjiaa.P7
