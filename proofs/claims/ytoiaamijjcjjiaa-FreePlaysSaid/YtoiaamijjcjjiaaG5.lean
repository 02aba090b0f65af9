/-
  The program's list of free ids in memory; Pages, grow, run. (For any seat that has free.List.)
-/
import Derived.Test.YtoiaamijjcjjiaaG4
import Derived.BigQuiet
import Derived.Deep.QuietTactic
namespace Go.Proofs.Ytoiaamijjcjjiaa.P7
open Go Go.RowKit Go.Lib Go.Proofs.Ytoiaamijjcjjiaa.PK

/-- the program's list, as it stands -/
structure PM where
  sv : Value
  pages : Int
  S : List Sp
def PM.cells (P : PM) : List Value := [.int .i64 P.pages, P.sv]
def PM.rows (P : PM) (r : Nat) : List Row := [bl r P.cells 68, sRow P.sv P.S]
structure PAt (w0 : World) (R : List Row) (r : Nat) (P : PM) (w : World) : Prop where
  rows : Rws w0 (P.rows r ++ R) w
  few : P.S.length ≤ 10000
  two : 2 ≤ P.pages
section
variable {w0 w w1 w2 w' : World} {R : List Row} {r : Nat} {P : PM}
theorem PAt.over (h : PAt w0 R r P w) (hb : Below w.heap.size w w') : PAt w0 R r P w' := ⟨h.rows.over hb, h.few, h.two⟩
theorem PAt.drewN (h : PAt w0 R r P w) (q : Nat) : PAt w0 R r P (w.drewN q) := h.over ⟨rfl, rfl, rfl, Nat.le_refl _, fun _ _ => rfl⟩
theorem PAt.blk (h : PAt w0 R r P w) : w.heap[r]? = some (.cells P.cells.toArray 68 (0, 0)) := h.rows.block (by simp [PM.rows])
theorem PAt.cell (h : PAt w0 R r P w) (j : Nat) : w.cell? ⟨r, j, none⟩ = P.cells[j]? := by rw [cell_at h.blk]; simp
theorem PAt.free (h : PAt w0 R r P w) (j : Nat) : w.frozen? ⟨r, j, none⟩ = false := free_at h.blk j
theorem PAt.srow (h : PAt w0 R r P w) : (sRow P.sv P.S).At w w0.heap.size := h.rows.own _ (by simp [PM.rows])
theorem PAt.lo (h : PAt w0 R r P w) : w0.heap.size ≤ r ∧ r < w.heap.size := h.rows.lt (x := bl r P.cells 68) (by simp [PM.rows]) rfl
/-- its pages -/
theorem PAt.shape (h : PAt w0 R r P w) : ∃ a c, P.sv = .slice a P.S.length c ∧ (P.S.length = 0 ∨ ∃ g, a = some ⟨g, 0, none⟩) ∧ P.S.length ≤ c ∧ c ≤ maxLen ∧ (∀ W, PAt w0 R r P W → W.cell? ⟨r, 0, none⟩ = some (.int .i64 P.pages) ∧ W.cell? ⟨r, 1, none⟩ = some (.slice a P.S.length c)) ∧
    ∀ W, Below w.heap.size w W → ∀ (k : Nat) (s : Sp), P.S[k]? = some s → ∃ g, a = some ⟨g, 0, none⟩ ∧ W.cell? ⟨g, k * 3, none⟩ = some (.int .i64 s.id) ∧ W.cell? ⟨g, k * 3 + 1, none⟩ = some (.bool s.fr) ∧ W.cell? ⟨g, k * 3 + 2, none⟩ = some (.int .i64 s.tx) := by
  rcases h.srow.slice with ⟨e, h0, _⟩ | ⟨g, cap, e, hb, q1, q2⟩
  · have h0' : P.S.length = 0 := h0
    have e' : P.sv = .slice none 0 0 := e
    refine ⟨none, 0, by rw [h0']; exact e', .inl h0', by omega, by unfold maxLen; omega, fun W hW => ⟨(hW.cell 0).trans rfl, (hW.cell 1).trans (by rw [h0', ← e']; rfl)⟩, fun W _ k s hk => ?_⟩
    have := (List.getElem?_eq_some_iff.1 hk).1
    omega
  · have e' : P.sv = .slice (some ⟨g, 0, none⟩) P.S.length cap := e
    refine ⟨_, cap, e', .inr ⟨g, rfl⟩, q1, q2, fun W hW => ⟨(hW.cell 0).trans rfl, (hW.cell 1).trans (by rw [← e']; rfl)⟩, fun W hW k s hk => ⟨g, rfl, ?_⟩⟩
    obtain ⟨h1, h2, h3⟩ := spFlat_at hk
    have hW2 := owns_below h.srow hW
    exact ⟨Row.At.cell hW2 hb h1, Row.At.cell hW2 hb h2, Row.At.cell hW2 hb h3⟩
theorem PAt.pages_ (h : PAt w0 R r P w) : Calls Try.prog 27 #[.pointer (some ⟨r, 0, none⟩)] w fun e w' => e = .returned (.int .i64 P.pages) ∧ w = w' := by
  have x0 : w.cell? ⟨r, 0, none⟩ = some (.int .i64 P.pages) := (h.cell 0).trans rfl
  have h2 := h.two
  clear h
  obtain ⟨p, hp⟩ : ∃ p, p = P.pages := ⟨_, rfl⟩
  rw [← hp] at x0 h2 ⊢
  have hm : max p 2 = p := by omega
  clear hp
  go_enter Try.func27, Try.ntmps27
  go_wp2
  go_ret
  exact ⟨rfl, rfl⟩
theorem pages_nil (w : World) : Calls Try.prog 27 #[.pointer none] w fun e w' => e = .returned (.int .i64 0) ∧ w = w' := by
  go_enter Try.func27, Try.ntmps27
  go_wp2
  go_ret
  exact ⟨rfl, rfl⟩
/-- more pages -/
theorem PAt.setP (h : PAt w0 R r P w) (p : Int) (hp : 2 ≤ p) : PAt w0 R r { P with pages := p } (w.setCell ⟨r, 0, none⟩ (.int .i64 p)) := by
  refine ⟨?_, h.few, hp⟩
  have hrows : Rws w0 ([] ++ (bl r P.cells 68 :: (sRow P.sv P.S :: R))) w := h.rows
  have h3 := hrows.set (g := r) rfl 0 (.int .i64 p) (by show 0 < 2 * 1; decide)
  rw [bl_set] at h3
  exact h3
/-- grow: the file is full -/
theorem PAt.grow_full (h : PAt w0 R r P w) (n : Int) (h1 : 1 ≤ n) (h2 : n ≤ 20) (hp : P.pages ≤ 4000) (hq : 4000 < P.pages + n) :
    Calls Try.prog 33 #[.pointer (some ⟨r, 0, none⟩), .int .i64 n] w fun e w' => e = .returned (.tuple #[.int .i64 0, .int .i64 20]) ∧ w = w' := by
  have HP := Lib.hid h.pages_
  have h3 := h.two
  have hq2 : decide (4000 < P.pages + n) = true := decide_eq_true hq
  clear h
  go_enter Try.func33, Try.ntmps33
  go_wp2_with (go_at_call 27; (with_reducible refine HP.out.mono ?_); rintro e w2 ⟨rfl, rfl⟩)
  go_ret2
  exact ⟨rfl, rfl⟩
/-- .. or grows -/
theorem PAt.grow_more (h : PAt w0 R r P w) (n : Int) (h1 : 1 ≤ n) (h2 : n ≤ 20) (hp : P.pages ≤ 4000) (hq : ¬ 4000 < P.pages + n) :
    Calls Try.prog 33 #[.pointer (some ⟨r, 0, none⟩), .int .i64 n] w fun e w' => e = .returned (.tuple #[.int .i64 P.pages, .int .i64 0]) ∧ PAt w0 R r { P with pages := P.pages + n } w' := by
  have HP := Lib.hid h.pages_
  have HS := Lib.hid (h.setP (P.pages + n) (by have := h.two; omega))
  have x0 : w.cell? ⟨r, 0, none⟩ = some (.int .i64 P.pages) := (h.cell 0).trans rfl
  have y0 := h.free 0
  have h3 := h.two
  have hq2 : decide (4000 < P.pages + n) = false := decide_eq_false hq
  clear h
  go_enter Try.func33, Try.ntmps33
  go_wp2_with (go_at_call 27; (with_reducible refine HP.out.mono ?_); rintro e w2 ⟨rfl, rfl⟩)
  go_ret2
  exact ⟨rfl, HS.out⟩
theorem drewB {a w : World} (h : Below a.heap.size a w) (q : Nat) : Below a.heap.size a (w.drewN q) := ⟨h.os, h.tape, h.output, h.size, h.block⟩
set_option maxRecDepth 100000 in
set_option maxHeartbeats 2000000 in
/-- run: the least run of n free ones -/
theorem PAt.run_ (h : PAt w0 R r P w) (n : Nat) (h1 : 1 ≤ n) (h2 : n ≤ 20) (hid : ∀ s ∈ P.S, 0 ≤ s.id ∧ s.id ≤ 1000000) :
    Calls Try.prog 32 #[.pointer (some ⟨r, 0, none⟩), .int .i64 n] w fun e w' => ((∃ k : Nat, e = .returned (.tuple #[.int .i64 k, .bool true]) ∧ runAt P.S k n ∧ ∀ i, i < k → ¬ runAt P.S i n) ∨
      (e = .returned (.tuple #[.int .i64 0, .bool false]) ∧ ∀ i, ¬ runAt P.S i n)) ∧ Below w.heap.size w w' := by
  obtain ⟨a, c, _, hga, hNc, hcm, hx, hC⟩ := h.shape
  obtain ⟨S, hS⟩ : ∃ S, S = P.S := ⟨_, rfl⟩
  obtain ⟨N, hN⟩ : ∃ N, N = P.S.length := ⟨_, rfl⟩
  rw [← hN] at hga hNc hx
  rw [← hS] at hC hid ⊢
  rw [← hS] at hN
  have HX := Lib.hid (fun W (hW : Below w.heap.size w W) => (hx W (h.over hW)).2)
  have x1 := (hx w h).2
  have HC := Lib.hid hC
  have HI := Lib.hid hid
  have hlen := h.few
  rw [← hS, ← hN] at hlen
  have hrw := h.lo.2
  have HN := Lib.hid hN
  unfold maxLen at hcm
  clear hC hx hid hS hN h
  go_enter Try.func32, Try.ntmps32
  go_wp2
  go_loopw [6, 14] (fun vl vi wr => ∃ k long : Nat, k ≤ N ∧ vi = .int .i64 k ∧ vl = .int .i64 long ∧ Hid (RunI S n k long) ∧ Hid (Below w.heap.size w wr)) (fun _ vi _ => N - (RowKit.intOf vi).toNat)
  case atStart => exact ⟨0, 0, Nat.zero_le _, rfl, rfl, RunI.start S h1, Below.refl _ _⟩
  case round =>
    obtain ⟨k, long, hk, rfl, rfl, HRu, HB⟩ := hrel
    by_cases hlt : k < N
    · obtain ⟨s, hs⟩ : ∃ s, S[k]? = some s := ⟨_, List.getElem?_eq_getElem (by have := HN.out; omega)⟩
      obtain ⟨g, rfl, c1, c2, c3⟩ := HC.out wr HB.out k s hs
      have HS := Lib.hid hs
      have HP := Lib.hid (fun W (hW : Below w.heap.size w W) (p : Sp) (hp : S[k - 1]? = some p) => HC.out W hW (k - 1) p hp)
      have hs1 := HB.out.size
      have kk : (k : Int) < (N : Int) := by omega
      have kk0 : (0 : Int) ≤ (k : Int) := by omega
      have hll := HRu.out.le
      have hln := HRu.out.lt
      have HB2 := Lib.hid (fun o => HB.out.alloc hs1 o)
      have hg : g < wr.heap.size := block_lt_of_cell c1
      have hrw2 : r < wr.heap.size := Nat.lt_of_lt_of_le hrw hs1
      clear hs
      cases hf : s.fr with
      | false =>
        rw [hf] at c2
        have hn0 : ((0 : Int) == (n : Int)) = false := by simp; omega
        have HL : Hid (longS S k long s = 0) := by show _ = _; unfold longS; rw [if_pos hf]
        go_wp2
        go_roundw
        case rel => exact ⟨k + 1, 0, by omega, by go_num, rfl, by have h9 := HRu.out.next HS.out (by rw [HL.out]; omega); rwa [HL.out] at h9, HB2.out _⟩
        case measure => simp [RowKit.intOf]; omega
      | true =>
        rw [hf] at c2
        by_cases hl0 : long = 0
        · subst hl0
          have HL : Hid (longS S k 0 s = 1) := by show _ = _; unfold longS; rw [if_neg (by rw [hf]; decide), if_neg (by omega)]
          by_cases hn1 : n = 1
          · subst hn1
            go_wp2
            go_quiet (fail)
            go_wp2
            go_ret2
            have h9 := HRu.out.hit HS.out HL.out
            exact ⟨.inl ⟨k, by first | rfl | simp, h9.2.1, h9.2.2⟩, drewB (HB2.out _) _⟩
          · have hn0 : ((1 : Int) == (n : Int)) = false := by simp; omega
            go_wp2
            go_quiet (fail)
            go_wp2
            go_roundw
            case rel => exact ⟨k + 1, 1, by omega, by go_num, rfl, by have h9 := HRu.out.next HS.out (by rw [HL.out]; omega); rwa [HL.out] at h9, drewB (HB2.out _) _⟩
            case measure => simp [RowKit.intOf]; omega
        · obtain ⟨m, rfl⟩ : ∃ m, k = m + 1 := ⟨k - 1, by omega⟩
          obtain ⟨p, hp⟩ : ∃ p, S[m]? = some p := ⟨_, List.getElem?_eq_getElem (by have := HN.out; omega)⟩
          obtain ⟨g', hg', p1, p2, p3⟩ := HP.out wr HB.out p (by rw [Nat.add_sub_cancel]; exact hp)
          rw [Nat.add_sub_cancel] at p1 p2 p3
          obtain rfl : g = g' := by cases hg'; rfl
          have hpi := HI.out p (List.mem_of_getElem? hp)
          have hid1 : Hid (idAt S (m + 1 - 1) = p.id) := by show _ = _; rw [Nat.add_sub_cancel]; exact idAt_of hp
          have d1 : (0 : Int) < (long : Int) := by omega
          have d0 : 0 < long := by omega
          have m1 : (m : Int) < (N : Int) := by omega
          have m0 : (0 : Int) ≤ (m : Int) := by omega
          have x2 := HX.out wr HB.out
          clear hp hg' hl0
          by_cases he : s.id = p.id + 1
          · have d2 : (s.id == p.id + 1) = true := beq_iff_eq.2 he
            have HL : Hid (longS S (m + 1) long s = long + 1) := by show _ = _; unfold longS; rw [if_neg (by rw [hf]; decide), if_pos ⟨d0, by rw [hid1.out]; exact he⟩]
            clear he
            by_cases hn1 : long + 1 = n
            · have hn0 : (((long : Int) + 1) == (n : Int)) = true := by simp; omega
              go_wp2
              go_quiet (fail)
              go_wp2
              go_ret2
              have h9 := HRu.out.hit HS.out (HL.out.trans hn1)
              exact ⟨.inl ⟨m + 1 + 1 - n, by rw [show ((m + 1 + 1 - n : Nat) : Int) = (m : Int) + 1 + 1 - (n : Int) by have := h9.1; omega]; rfl, h9.2.1, h9.2.2⟩, drewB (HB2.out _) _⟩
            · have hn0 : (((long : Int) + 1) == (n : Int)) = false := by simp; omega
              go_wp2
              go_quiet (fail)
              go_wp2
              go_roundw
              case rel => exact ⟨m + 1 + 1, long + 1, by omega, by go_num, by go_num, by have h9 := HRu.out.next HS.out (by rw [HL.out]; omega); rwa [HL.out] at h9, drewB (HB2.out _) _⟩
              case measure => simp [RowKit.intOf]; omega
          · have d2 : (s.id == p.id + 1) = false := beq_eq_false_iff_ne.2 he
            have HL : Hid (longS S (m + 1) long s = 1) := by show _ = _; unfold longS; rw [if_neg (by rw [hf]; decide), if_neg (by rw [hid1.out]; exact fun q => he q.2)]
            clear he
            by_cases hn1 : n = 1
            · exact absurd hln (by omega)
            · have hn0 : ((1 : Int) == (n : Int)) = false := by simp; omega
              go_wp2
              go_quiet (fail)
              go_wp2
              go_roundw
              case rel => exact ⟨m + 1 + 1, 1, by omega, by go_num, rfl, by have h9 := HRu.out.next HS.out (by rw [HL.out]; omega); rwa [HL.out] at h9, drewB (HB2.out _) _⟩
              case measure => simp [RowKit.intOf]; omega
    · obtain rfl : k = N := by omega
      have HE : Hid (∀ i, ¬ runAt S i n) := fun i => (HN.out ▸ HRu.out).end_ h1 i
      clear hlt
      go_wp2
      go_ret2
      exact ⟨.inr ⟨rfl, HE.out⟩, HB.out⟩
end

end Go.Proofs.Ytoiaamijjcjjiaa.P7
