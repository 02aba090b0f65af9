/-
  The law's own closure: the page of an id, if it is not the one that is lost.
-/
import Derived.Test.YtpbaodjmkdcihaaN0
namespace Go.Proofs.Ytpbaodjmkdcihaa.P11
open Go Go.RowKit Go.Lib Go.Proofs.Ytpbaodjmkdcihaa.PK

theorem page_result {fn : Func} {q u : Tmp} (h : fn.results = #[.cell q 33, .tmp u]) (tmps : Array Value) (w : World) (a : Nat) (cs : Array Value) (hq : tmps.getD q undef = .pointer (some ⟨a, 0, none⟩)) (hc : w.heap[a]? = some (.cells cs 33 (0, 0))) (hs : cs.size = 4) :
    (results fn tmps).run Try.prog w = .ok (.tuple #[.agg cs, tmps.getD u undef]) w := by
  have hi : (Try.prog.info? 33).map (·.size) = some cs.size := by rw [hs]; kernel_rfl
  rw [results_cell_tmp h, hq]
  have e1 : (asAddr (.pointer (some ⟨a, 0, none⟩))).run Try.prog w = .ok ⟨a, 0, none⟩ w := rfl
  rw [e1, Result.andThen_ok, run_loadVar_row (P := Try.prog) w a 33 33 cs (0, 0) _ hc Try.underlying33 rfl hi]
  rfl

/-- what is told of the k-th page -/
def lostF (l : List Pg) (lost : Int) (k : Nat) : Pg × Int := if (k : Int) = lost then (Pg.zero, 8) else (l[k]?.getD Pg.zero, 0)

set_option maxRecDepth 100000 in
set_option maxHeartbeats 4000000 in
theorem get_any (w : World) (bl bo : Nat) (a : Option Addr) (c : Nat) (l : List Pg) (first lost : Int) (k : Nat) (h : PgsIn w (.slice a l.length c) l) (hids : ∀ (j : Nat) (p : Pg), l[j]? = some p → p.id = first + (j : Nat)) (hk : k < l.length) (hl : l.length ≤ 1000000)
    (hcl : w.cell? ⟨bl, 0, none⟩ = some (.slice a l.length c)) (hco : w.cell? ⟨bo, 0, none⟩ = some (.int .i64 lost)) (hbl : bl < w.heap.size) (hbo : bo < w.heap.size) :
    Calls Try.prog 14 #[.int .i64 (first + (k : Nat)), .pointer (some ⟨bl, 0, none⟩), .pointer (some ⟨bo, 0, none⟩)] w fun e w' => e = .returned (.tuple #[(lostF l lost k).1.v, .int .i64 (lostF l lost k).2]) ∧ Below w.heap.size w w' := by
  obtain ⟨w1, hw1⟩ : ∃ w1, w1 = w.alloc (.cells #[.int .i64 0, .int .i64 0, .int .i64 0, .string ⟨#[]⟩] 33) := ⟨_, rfl⟩
  have hb : Below w.heap.size w w1 := by rw [hw1]; exact below_new _ _
  have d0 : w1.cell? ⟨bl, 0, none⟩ = some (.slice a l.length c) := (hb.cell (p := ⟨bl, 0, none⟩) hbl).trans hcl
  have d1 : w1.cell? ⟨bo, 0, none⟩ = some (.int .i64 lost) := (hb.cell (p := ⟨bo, 0, none⟩) hbo).trans hco
  have HA := Lib.hid (fun (i : Nat) (x : Pg) (hi : l[i]? = some x) => h.at_ hi)
  have HID := Lib.hid hids
  have HB := Lib.hid hb
  have HST : Hid (∀ a b c d : Value, ((((w1.setCell ⟨w.heap.size, 0, none⟩ a).setCell ⟨w.heap.size, 1, none⟩ b).setCell ⟨w.heap.size, 2, none⟩ c).setCell ⟨w.heap.size, 3, none⟩ d).heap[w.heap.size]? = some (.cells #[a, b, c, d] 33 (0, 0)) ∧ Below w.heap.size w ((((w1.setCell ⟨w.heap.size, 0, none⟩ a).setCell ⟨w.heap.size, 1, none⟩ b).setCell ⟨w.heap.size, 2, none⟩ c).setCell ⟨w.heap.size, 3, none⟩ d)) := fun a b c d =>
    ⟨set_at (set_at (set_at (set_at (show w1.heap[w.heap.size]? = some (.cells #[.int .i64 0, .int .i64 0, .int .i64 0, .string ⟨#[]⟩] 33 (0, 0)) by rw [hw1]; exact new_at w _ _) 0 a) 1 b) 2 c) 3 d, (((hb.setCell (Nat.le_refl _) a).setCell (Nat.le_refl _) b).setCell (Nat.le_refl _) c).setCell (Nat.le_refl _) d⟩
  have hz : (w1.heap[w.heap.size]?) = some (.cells #[.int .i64 0, .int .i64 0, .int .i64 0, .string ⟨#[]⟩] 33 (0, 0)) := by rw [hw1]; exact new_at w _ _
  have f0 := cell_at hz 0
  have f1 := cell_at hz 1
  have f2 := cell_at hz 2
  have f3 := cell_at hz 3
  have g0 := free_at hz 0
  have g1 := free_at hz 1
  have g2 := free_at hz 2
  have g3 := free_at hz 3
  simp only [List.getElem?_toArray, List.getElem?_cons_zero, List.getElem?_cons_succ] at f0 f1 f2 f3
  clear h hids hb hcl hco hbl hbo hz
  go_enter Try.func14, Try.ntmps14
  go_wp2
  rw [← hw1]
  go_loopw [6] (fun vi wr => ∃ j : Nat, j ≤ l.length ∧ vi = .int .i64 j ∧ wr = w1 ∧ Hid (j ≤ k ∨ (k : Int) = lost)) (fun vi _ => l.length - (RowKit.intOf vi).toNat)
  case atStart => exact ⟨0, Nat.zero_le _, rfl, rfl, .inl (Nat.zero_le _)⟩
  case round =>
    obtain ⟨j, hj, rfl, rfl, HJ⟩ := hrel
    clear hw1
    by_cases hlt : j < l.length
    · obtain ⟨x, hx⟩ : ∃ x, l[j]? = some x := ⟨_, List.getElem?_eq_getElem hlt⟩
      obtain ⟨b, off, rfl, hc⟩ := HA.out j x hx
      obtain ⟨c0, c1, c2, c3⟩ := hc _ HB.out
      have hid := HID.out j x hx
      have k1 : decide ((j : Int) < (l.length : Int)) = true := decide_eq_true (by omega)
      have k2 : (j : Int) < (l.length : Int) := by omega
      have k3 : (0 : Int) ≤ (j : Int) := by omega
      clear hc
      by_cases hjk : j = k
      · subst hjk
        have m1 : (x.id == first + (j : Int)) = true := by simp [hid]
        by_cases hlo : (j : Int) = lost
        · have m2 : ((j : Int) != lost) = false := by simp [hlo]
          have HLo := Lib.hid hlo
          clear hid hx hlo
          go_wp2
          go_roundw
          case rel => exact ⟨j + 1, by omega, by go_num, trivial, .inr HLo.out⟩
          case measure => simp [RowKit.intOf]; omega
        · have m2 : ((j : Int) != lost) = true := by simpa using hlo
          have HE : Hid (lostF l lost j = (x, 0)) := by show _ = _; unfold lostF; rw [if_neg hlo, hx]; rfl
          clear hid hx hlo
          go_wp2
          exact bodyPost_ret (page_result rfl _ _ w.heap.size _ rfl (HST.out _ _ _ _).1 rfl) rfl ⟨by rw [HE.out]; rfl, (HST.out _ _ _ _).2⟩
      · have m1 : (x.id == first + (k : Int)) = false := by rw [hid]; simp; omega
        have HJ2 : Hid (j + 1 ≤ k ∨ (k : Int) = lost) := HJ.out.imp (fun q => by omega) id
        clear hid hx
        go_wp2
        go_roundw
        case rel => exact ⟨j + 1, by omega, by go_num, trivial, HJ2.out⟩
        case measure => simp [RowKit.intOf]; omega
    · have e : j = l.length := by omega
      subst e
      have k1 : decide ((l.length : Int) < (l.length : Int)) = false := decide_eq_false (by omega)
      have HE : Hid (lostF l lost k = (Pg.zero, 8)) := by show _ = _; unfold lostF; rw [if_pos (HJ.out.resolve_left (by omega))]
      go_wp2
      exact bodyPost_ret (page_result rfl _ _ w.heap.size _ rfl (HST.out _ _ _ _).1 rfl) rfl ⟨by rw [HE.out]; rfl, (HST.out _ _ _ _).2⟩

end Go.Proofs.Ytpbaodjmkdcihaa.P11
