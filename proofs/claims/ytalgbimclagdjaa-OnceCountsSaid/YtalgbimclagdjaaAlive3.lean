/-
  The first call of stage 3's statements, whose answer the document fixes.
-/
import Derived.Test.YtalgbimclagdjaaCellS
import Derived.Test.YtalgbimclagdjaaPins5
namespace Go.Proofs.Ytalgbimclagdjaa.P3
open Go Go.RowKit Go.Lib Go.Maps Go.ChangeMaps Go.MapKept

theorem const1 (f : Nat) (v : Int) (H : ∀ w : World, Calls Try.prog f #[] w fun e w' => e = .returned (.int .i64 v) ∧ w = w') (w : World) : Calls Try.prog f #[] w fun e w2 => e = .returned (.int .i64 v) ∧ True ∧ Fr (fun _ => False) w w2 :=
  (H w).mono fun _ _ ⟨he, hw⟩ => ⟨he, trivial, hw ▸ Fr.refl _ _⟩

theorem f31 (w : World) : Calls Try.prog 31 #[] w fun e w' => e = .returned (.int .i64 7) ∧ w = w' := by
  go_enter Try.func31, Try.ntmps31
  go_wp2
  go_ret
  exact ⟨rfl, rfl⟩
theorem en31 : ∀ args w, (callFunc 31 args).run Try.prog w = .ok (.enter 31 args) w := fun args w => enters Try.func31 (by kernel_rfl) rfl args w

/-- a zero Cell of an int -/
abbrev zCell : Array Value := #[.int .u32 0, .int .i32 0, .int .u32 0, .int .u32 0, .int .i64 0]
theorem zCell_fresh : Fresh zCell 0 := ⟨rfl, rfl, rfl, by decide⟩

/-- what an old block of another type is, behind a call of Pins' -/
theorem FrP.keep {lo b : Nat} {w w' : World} (h : FrP lo b w w') {k : Nat} {c : Array Value} {t : TypeId} {f : Nat × Nat} (hk : w.heap[k]? = some (.cells c t f)) (ht : t ≠ 84) (hb : k ≠ b) : w'.heap[k]? = some (.cells c t f) := h.firm k c t f hk ht hb

theorem QAny.only {lo : Nat} {w w' : World} {b k : Nat} {cb : Array Value} {N : Nat} {ps : PinL} {c : Array Value} {t : TypeId} {f : Nat × Nat} (h : QAny lo w b cb N ps) (hf : Only k w w') (hk : w.heap[k]? = some (.cells c t f)) (h1 : t ≠ 84) (h2 : t ≠ 61) : QAny lo w' b cb N ps := by
  have hne : b ≠ k := by
    rintro rfl
    have := h.blk
    rw [hk] at this
    simp only [Option.some.injEq, Obj.cells.injEq] at this
    exact h2 this.2.1
  rcases h with ⟨h1', h2', h3, h4, h5⟩ | ⟨r, m, cap, D, hr, hm, h⟩
  · exact .inl ⟨h1', h2', hf.keep h3 hne, h4, h5⟩
  · refine .inr ⟨r, m, cap, D, hr, hm, h.fr (Fr.only (S := (· = k)) hf rfl) hne ?_ ?_⟩
    · rintro rfl
      obtain ⟨rc, hrr, _⟩ := h.row
      rw [hk] at hrr
      simp only [Option.some.injEq, Obj.cells.injEq] at hrr
      exact h1 hrr.2.1
    · rintro rfl
      obtain ⟨es, cl, hmm, _⟩ := h.map
      rw [hk] at hmm
      simp at hmm
theorem Pinned3.only {lo : Nat} {w w' : World} {b k N : Nat} {l : PinL} {c : Array Value} {t : TypeId} {f : Nat × Nat} (h : Pinned3 lo w b N l) (hf : Only k w w') (hk : w.heap[k]? = some (.cells c t f)) (h1 : t ≠ 84) (h2 : t ≠ 61) : Pinned3 lo w' b N l := by
  obtain ⟨cb, ps, h, hp⟩ := h
  exact ⟨cb, ps, { h with q := h.q.only hf hk h1 h2 }, hp⟩
theorem Pinned3.below {lo : Nat} {w w' : World} {b N : Nat} {l : PinL} (h : Pinned3 lo w b N l) (hf : Below w.heap.size w w') : Pinned3 lo w' b N l := by
  obtain ⟨cb, ps, h, hp⟩ := h
  exact ⟨cb, ps, h.below hf, hp⟩
theorem Pinned3.blk {lo : Nat} {w : World} {b N : Nat} {l : PinL} (h : Pinned3 lo w b N l) : ∃ cb, w.heap[b]? = some (.cells cb 61 (0, 0)) := by
  obtain ⟨cb, ps, h, _⟩ := h
  exact ⟨cb, h.q.blk⟩

set_option maxRecDepth 100000 in
set_option maxHeartbeats 1600000 in
theorem alive_any (w : World) : Calls Try.prog 9 #[] w fun e w' => e = .returned (.bool true) ∧ Below w.heap.size w w' := by
  have hb0 : (w.alloc (.cells zCell 44)).heap[w.heap.size]? = some (.cells zCell 44 (0, 0)) := heap_alloc_new w _
  have G1 := getI_first (w.alloc (.cells zCell 44)) w.heap.size 0 zCell 44 31 en31 #[] 7 (fun _ => False) (fun _ => True) hb0 zCell_fresh (fun _ h => h.elim) id (fun w1 _ _ => const1 _ 7 f31 w1)
  have HG := Lib.hid G1
  clear G1 hb0
  go_enter Try.func9, Try.ntmps9
  go_wp2_with (go_at_call 13; (with_reducible refine HG.out.mono ?_); rintro e w2 ⟨rfl, hg⟩)
  obtain ⟨_, _, _, hb2, hfr2⟩ := hg
  have hB2 : Below w.heap.size w w2 := Fr.new (below_new w _) hfr2 (fun i hi => hi.elim (fun e => by omega) (fun h => h.elim))
  have hmade := done_made zCell 0 (.int .i64 7) (by decide)
  have HG2 := Lib.hid (getI_made w2 w.heap.size 0 _ 44 7 (.func (.func 32) #[] #[]) (.inr ⟨_, _, rfl⟩) hb2 hmade)
  have H2 := Lib.hid hb2
  have HM := Lib.hid hmade
  clear hb2 hmade
  go_wp2_with (go_at_call 13; (with_reducible refine HG2.out.mono ?_); rintro e w3 ⟨rfl, hB3⟩)
  go_wp2_with fail
  have hsz : (w3.alloc (.cells #[.int .i64 0] 54)).heap.size = w3.heap.size + 1 := by simp
  have hp0 := pins_new (w3.alloc (.cells #[.int .i64 0] 54))
  rw [hsz] at hp0
  have hc0 : CountAt ((w3.alloc (.cells #[.int .i64 0] 54)).alloc (.cells #[.int .i32 0, .int .u32 0, .int .i64 0, .slice none 0 0, .map none] 61)) w3.heap.size 0 := old_alloc (heap_alloc_new w3 _) _
  have hm0 : ((w3.alloc (.cells #[.int .i64 0] 54)).alloc (.cells #[.int .i32 0, .int .u32 0, .int .i64 0, .slice none 0 0, .map none] 61)).heap[w.heap.size]? = some (.cells (doneAt zCell 0 (.int .i64 7)) 44 (0, 0)) := old_alloc (old_alloc (old_below H2.out hB3) _) _
  have hB0 : Below w.heap.size w ((w3.alloc (.cells #[.int .i64 0] 54)).alloc (.cells #[.int .i32 0, .int .u32 0, .int .i64 0, .slice none 0 0, .map none] 61)) := grow (grow (thenBelow hB2 hB3) _) _
  have hlt : w.heap.size ≤ w3.heap.size := (thenBelow hB2 hB3).size
  generalize (w3.alloc (.cells #[.int .i64 0] 54)).alloc (.cells #[.int .i32 0, .int .u32 0, .int .i64 0, .slice none 0 0, .map none] 61) = w5 at *
  obtain ⟨bc, hbc⟩ : ∃ bc, bc = w3.heap.size := ⟨_, rfl⟩
  rw [← hbc] at hp0 hc0 hlt ⊢
  have HMd := Lib.hid (madeI_yes w5 w.heap.size 0 _ 44 hm0 HM.out.2.1)
  have A := countAdd w5 bc 0 3 hc0
  rw [show wrap64 (0 + 3) = 3 from by decide +kernel] at A
  have HA := Lib.hid A
  have HP0 := Lib.hid hp0
  have HC0 := Lib.hid hc0
  clear hbc hsz hm0 A HG HG2 hfr2 hB2 hB3 H2 HM hp0 hc0
  go_wp2_with (first
    | (go_at_call 27; (with_reducible refine HMd.out.mono ?_); rintro e w6 ⟨rfl, rfl⟩)
    | (go_at_call 17; (with_reducible refine HA.out.mono ?_); rintro e w7 ⟨rfl, hc7, ho7⟩))
  have hp7 := HP0.out.only ho7 HC0.out (by decide) (by decide)
  have HN := Lib.hid (countNow w7 bc 3 hc7)
  have P := pins_pin w7 hp7 (by decide) 5
  rw [show (((0 : Nat) : Int) + 1) = 1 from rfl] at P
  have HP := Lib.hid P
  clear P hp7
  go_wp2_with (first
    | (go_at_call 23; (with_reducible refine HN.out.mono ?_); rintro e w8 ⟨rfl, rfl⟩)
    | (go_at_call 20; (with_reducible refine HP.out.mono ?_); rintro e w9 ⟨rfl, hp9, hf9⟩))
  have L := pins_len w9 hp9
  rw [show ((([] ++ [((5 : Int), (1 : Int))] : PinL).length : Nat) : Int) = 1 from rfl] at L
  have HL := Lib.hid L
  clear L hp9
  go_wp2_with (go_at_call 24; (with_reducible refine HL.out.mono ?_); rintro e w10 ⟨rfl, hp10, hf10⟩)
  go_ret
  exact ⟨rfl, (hf9.trans hf10).below ((Fr.only (S := (· = bc)) ho7 rfl).new hB0 (fun i hi => by omega)) (by omega)⟩

end Go.Proofs.Ytalgbimclagdjaa.P3
