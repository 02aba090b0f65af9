/-
  Package once's Cell of a text: as CellI, by gen_cells.py.
-/
import Derived.Test.YtalgbimclagdjaaCellI
namespace Go.Proofs.Ytalgbimclagdjaa.P3
open Go Go.RowKit Go.Lib

set_option maxRecDepth 100000 in
theorem call_fnS (f : Nat) (hin : ∀ args w, (callFunc f args).run Try.prog w = .ok (.enter f args) w) (caps : Array Value) (w : World) (v : ByteArray) (R : World → Prop)
    (H : Calls Try.prog f caps w fun e w' => e = .returned (.string v) ∧ R w') :
    Calls Try.prog 34 #[.func (.func f) #[] caps] w fun e w' => e = .returned (.string v) ∧ R w' := by
  have HH := Lib.hid H
  have hne := fun (w : World) => run_eql_func_nil w 40 (.func f) #[] caps Try.underlying40
  clear H
  go_enter Try.func34, Try.ntmps34
  go_wp2_with fail
  refine HH.out.mono ?_
  rintro e w' ⟨rfl, hr⟩
  go_wp2
  go_ret
  exact ⟨rfl, hr⟩
set_option maxRecDepth 100000 in
theorem call_nilS (w : World) : Calls Try.prog 34 #[.nilFunc] w fun e w' => e = .returned (.string ⟨#[]⟩) ∧ w = w' := by
  have hne := fun (w : World) => run_eql_nil_nil w 40 Try.underlying40
  go_enter Try.func34, Try.ntmps34
  go_wp2
  go_ret
  exact ⟨rfl, rfl⟩
set_option maxRecDepth 100000 in
/-- a Get of one that is made -/
theorem getS_made (w : World) (b off : Nat) (c : Array Value) (t : TypeId) (v : ByteArray) (f : Value) (hf : IsFn f) (hb : w.heap[b]? = some (.cells c t (0, 0))) (hm : Made c off (.string v)) :
    Calls Try.prog 11 #[.pointer (some ⟨b, off, none⟩), f] w fun e w' => e = .returned (.string v) ∧ Below w.heap.size w w' := by
  obtain ⟨h1, _, _⟩ := two_blocks hb (.cells #[.pointer (some ⟨b, off, none⟩)] 24) (.cells #[f] 40)
  have c0 := (cell_at h1 off).trans hm.1
  have c4 := (cell_at h1 (off + 4)).trans hm.2.2
  have HD := Lib.hid (fun g => do_done _ b off g c0)
  clear h1 hb hm c0
  rcases hf with rfl | ⟨g, caps, rfl⟩
  all_goals
    go_enter Try.func11, Try.ntmps11
    go_wp2_with (go_at_call 35; refine (HD.out _).mono ?_; rintro e w' ⟨rfl, rfl⟩)
    go_ret
    exact ⟨rfl, grow (below_new _ _) _⟩
set_option maxRecDepth 100000 in
set_option maxHeartbeats 1600000 in
/-- the function literal of Get -/
theorem getS1 (w : World) (na nf b off : Nat) (c : Array Value) (t ta tf : TypeId) (fv : Value) (v : ByteArray) (S : Nat → Prop) (R : World → Prop)
    (ha : w.heap[na]? = some (.cells #[.pointer (some ⟨b, off, none⟩)] ta (0, 0))) (hf : w.heap[nf]? = some (.cells #[fv] tf (0, 0)))
    (hb : w.heap[b]? = some (.cells c t (0, 0))) (hc : off + 4 < c.size) (n1 : ¬ S na) (n2 : ¬ S nf) (n3 : ¬ S b) (e1 : b ≠ na) (e2 : b ≠ nf)
    (H : ∀ w1, w1.heap = w.heap → Below w.heap.size w w1 → Calls Try.prog 34 #[fv] w1 fun e w2 => e = .returned (.string v) ∧ R w2 ∧ Fr S w1 w2) :
    Calls Try.prog 36 #[.pointer (some ⟨na, 0, none⟩), .pointer (some ⟨nf, 0, none⟩)] w fun e w' => e = .returned (.tuple #[]) ∧ Kept b off (.string v) (fun w2 => R w2 ∧ Fr S w w2) w' := by
  have p1 : w.cell? ⟨na, 0, none⟩ = some (.pointer (some ⟨b, off, none⟩)) := by rw [cell_at ha]; rfl
  have p2 : w.cell? ⟨nf, 0, none⟩ = some fv := by rw [cell_at hf]; rfl
  have HH := Lib.hid H
  have HA := Lib.hid ha
  have HF := Lib.hid hf
  have HB := Lib.hid hb
  obtain ⟨x4, hx4⟩ : ∃ x, c[off + 4]? = some x := ⟨_, Array.getElem?_eq_getElem hc⟩
  have X4 := Lib.hid hx4
  clear H ha hf hb hx4
  go_enter_defers Try.func36, Try.ntmps36
  go_wp2_with fail
  go_region_held3 (fun w' => w'.cell? ⟨na, 0, none⟩ = some (.pointer (some ⟨b, off, none⟩)) ∧ w'.cell? ⟨nf, 0, none⟩ = some fv)
    (first | exact ⟨q5, q6⟩ | exact ⟨q1, q2⟩ | exact ⟨p1, p2⟩)
    ((first
      | (go_at_call 34; refine (HH.out w.drew rfl (Below.refl _ _).drew).mono ?_; rintro e w2 ⟨rfl, hr, hfr⟩; have q1 := fr_cell (j := 0) hfr HA.out n1; have q2 := fr_cell (j := 0) hfr HF.out n2; have q3 := (fr_cell (j := off + 4) hfr HB.out n3).trans X4.out; have q4 := free_at (hfr.keep HB.out n3) (off + 4); have q5 := (World.cell?_setCell_other w2 ⟨b, off + 4, none⟩ ⟨na, 0, none⟩ (.string v) (fun e => e1 (congrArg Addr.block e))).trans q1; have q6 := (World.cell?_setCell_other w2 ⟨b, off + 4, none⟩ ⟨nf, 0, none⟩ (.string v) (fun e => e2 (congrArg Addr.block e))).trans q2)))
  go_wp2_with fail
  obtain ⟨x3, hx3⟩ : ∃ x, c[off + 3]? = some x := ⟨_, Array.getElem?_eq_getElem (by omega)⟩
  have r3 : (w2.setCell ⟨b, off + 4, none⟩ (.string v)).cell? ⟨b, off + 3, none⟩ = some x3 :=
    (World.cell?_setCell_other w2 ⟨b, off + 4, none⟩ ⟨b, off + 3, none⟩ (.string v) (by simp)).trans ((fr_cell (j := off + 3) hfr HB.out n3).trans hx3)
  refine leaves_cons (f := 37) (args := #[.pointer (some ⟨b, off + 3, none⟩), .bool true]) (by simp) (by simp [go_sem]) ?_
  refine (store_deferred ⟨b, off + 3, none⟩ x3 .returning _ r3 (by have := free_at (hfr.keep HB.out n3) (off + 3); simpa using this)).mono ?_
  rintro e u' w'' ⟨rfl, rfl, rfl⟩
  exact ⟨_, results_none rfl _ _ _, rfl, w2, ⟨hr, (Fr.of (Below.refl _ w).drew).trans hfr⟩, rfl⟩
theorem enters_getS1 : ∀ args w, (callFunc 36 args).run Try.prog w = .ok (.enter 36 args) w := fun args w => enters Try.func36 (by kernel_rfl) rfl args w
/-- the Do of a Get -/
theorem doS (w : World) (na nf b off : Nat) (c : Array Value) (t ta tf : TypeId) (fv : Value) (v : ByteArray) (S : Nat → Prop) (R : World → Prop)
    (ha : w.heap[na]? = some (.cells #[.pointer (some ⟨b, off, none⟩)] ta (0, 0))) (hf : w.heap[nf]? = some (.cells #[fv] tf (0, 0)))
    (hb : w.heap[b]? = some (.cells c t (0, 0))) (hc : Fresh c off) (n1 : ¬ S na) (n2 : ¬ S nf) (n3 : ¬ S b) (e1 : b ≠ na) (e2 : b ≠ nf)
    (H : ∀ w1, Only b w w1 → w1.heap[b]? = some (.cells (c.setIfInBounds (off + 1) (.int .i32 1)) t (0, 0)) → Calls Try.prog 34 #[fv] w1 fun e w2 => e = .returned (.string v) ∧ R w2 ∧ Fr S w1 w2) :
    Calls Try.prog 35 #[.pointer (some ⟨b, off, none⟩), .func (.func 36) #[] #[.pointer (some ⟨na, 0, none⟩), .pointer (some ⟨nf, 0, none⟩)]] w fun e w' => e = .returned (.tuple #[]) ∧ Got b off c t (.string v) S R w w' := by
  obtain ⟨h0, h1, h3, h4⟩ := hc
  have o1 : Only b w (w.setCell ⟨b, off + 1, none⟩ (.int .i32 1)) := (Only.refl _ _).setCell _ _
  have hb1 := set_at hb (off + 1) (.int .i32 1)
  have G := getS1 (w.setCell ⟨b, off + 1, none⟩ (.int .i32 1)) na nf b off _ t ta tf fv v S R (o1.keep ha e1.symm) (o1.keep hf e2.symm) hb1 (by simpa using h4) n1 n2 n3 e1 e2
    (fun w1 hh hbl => H w1 (o1.trans (.of hbl)) (by rw [hh]; exact hb1))
  refine (do_first w b off c t 36 enters_getS1 _ _ hb h0 h1 ?_ G).mono ?_
  · rintro w' ⟨w2, ⟨_, hfr⟩, rfl⟩
    have k2 := hfr.keep hb1 n3
    refine ⟨_, set_at (set_at k2 _ _) _ _, ?_, ?_⟩
    · simp only [Array.getElem?_setIfInBounds]
      rw [if_neg (by omega), if_neg (by omega), if_neg (by omega)]
      exact h0
    · simp only [Array.getElem?_setIfInBounds]
      rw [if_neg (by omega), if_neg (by omega), if_pos trivial, if_pos (by omega)]
  · rintro e w' ⟨rfl, wk, ⟨w2, ⟨hr, hfr⟩, rfl⟩, rfl⟩
    have k2 := hfr.keep hb1 n3
    have o2 : Only b w2 ((((w2.setCell ⟨b, off + 4, none⟩ (.string v)).drew.setCell ⟨b, off + 3, none⟩ (.int .u32 1)).drew.setCell ⟨b, off, none⟩ (.int .u32 1)).setCell ⟨b, off + 1, none⟩ (.int .i32 0)) :=
      (((((Only.refl b w2).setCell _ _).drew.setCell _ _).drew.setCell _ _).setCell _ _)
    refine ⟨rfl, w2, hr, o2, set_at (set_at (set_at (set_at k2 _ _) _ _) _ _) _ _, ?_⟩
    exact ((Fr.only o1 (.inl rfl)).trans (hfr.mono fun k _ hs => .inr hs)).trans (.only o2 (.inl rfl))
set_option maxRecDepth 100000 in
/-- the first Get, of a function or of nil -/
theorem getS_any (w : World) (b off : Nat) (c : Array Value) (t : TypeId) (fv : Value) (v : ByteArray) (S : Nat → Prop) (R : World → Prop) (hfn : IsFn fv)
    (hb : w.heap[b]? = some (.cells c t (0, 0))) (hc : Fresh c off) (hS : ∀ k, S k → k < w.heap.size) (n3 : ¬ S b)
    (H : ∀ w1, Only b w w1 → w1.heap[b]? = some (.cells (c.setIfInBounds (off + 1) (.int .i32 1)) t (0, 0)) → Calls Try.prog 34 #[fv] w1 fun e w2 => e = .returned (.string v) ∧ R w2 ∧ Fr S w1 w2) :
    Calls Try.prog 11 #[.pointer (some ⟨b, off, none⟩), fv] w fun e w' => e = .returned (.string v) ∧ Got b off c t (.string v) S R w w' := by
  obtain ⟨h1, h2, h3⟩ := two_blocks hb (.cells #[.pointer (some ⟨b, off, none⟩)] 24) (.cells #[fv] 40)
  have hlt := lt_of_block hb
  have D := doS _ w.heap.size (w.heap.size + 1) b off c t _ _ fv v S R h2 h3 h1 hc (fun h => by have := hS _ h; omega) (fun h => by have := hS _ h; omega) n3 (by omega) (by omega)
    (fun w1 ho hbb => H w1 (((Only.refl b w).alloc _ |>.alloc _).trans ho) hbb)
  have HD := Lib.hid D
  have hm := done_made c off (.string v) hc.2.2.2
  have hq : ∀ w', Got b off c t (.string v) S R ((w.alloc (.cells #[.pointer (some ⟨b, off, none⟩)] 24)).alloc (.cells #[fv] 40)) w' → w'.cell? ⟨w.heap.size, 0, none⟩ = some (.pointer (some ⟨b, off, none⟩)) ∧ w'.cell? ⟨b, off + 4, none⟩ = some (.string v) := by
    rintro w' ⟨w2, _, _, hb', hfr⟩
    exact ⟨cell_at (hfr.keep h2 (fun h => h.elim (by omega) (fun h => by have := hS _ h; omega))) 0, (cell_at hb' _).trans hm.2.2⟩
  have HQ := Lib.hid hq
  clear D H h1 h2 h3 hb hc hm hS hq
  rcases hfn with rfl | ⟨g, caps, rfl⟩
  all_goals
    go_enter Try.func11, Try.ntmps11
    go_wp2_with (go_at_call 35; refine HD.out.mono ?_; rintro e w' ⟨rfl, hg⟩; obtain ⟨q1, q2⟩ := HQ.out w' hg)
    go_ret
    obtain ⟨w2, hr, ho, hb', hfr⟩ := hg
    exact ⟨rfl, w2, hr, ho, hb', ((Fr.of (below_new w _)).trans (.of (below_new _ _))).trans hfr⟩
/-- the first Get of a function -/
theorem getS_first (w : World) (b off : Nat) (c : Array Value) (t : TypeId) (g : Nat) (hin : ∀ args w, (callFunc g args).run Try.prog w = .ok (.enter g args) w) (caps : Array Value) (v : ByteArray) (S : Nat → Prop) (R : World → Prop)
    (hb : w.heap[b]? = some (.cells c t (0, 0))) (hc : Fresh c off) (hS : ∀ k, S k → k < w.heap.size) (n3 : ¬ S b)
    (H : ∀ w1, Only b w w1 → w1.heap[b]? = some (.cells (c.setIfInBounds (off + 1) (.int .i32 1)) t (0, 0)) → Calls Try.prog g caps w1 fun e w2 => e = .returned (.string v) ∧ R w2 ∧ Fr S w1 w2) :
    Calls Try.prog 11 #[.pointer (some ⟨b, off, none⟩), .func (.func g) #[] caps] w fun e w' => e = .returned (.string v) ∧ Got b off c t (.string v) S R w w' :=
  getS_any w b off c t _ v S R (.inr ⟨g, caps, rfl⟩) hb hc hS n3 fun w1 ho hb1 => call_fnS g hin caps w1 v (fun w2 => R w2 ∧ Fr S w1 w2) (H w1 ho hb1)
/-- the first Get of nil -/
theorem getS_none (w : World) (b off : Nat) (c : Array Value) (t : TypeId) (hb : w.heap[b]? = some (.cells c t (0, 0))) (hc : Fresh c off) :
    Calls Try.prog 11 #[.pointer (some ⟨b, off, none⟩), .nilFunc] w fun e w' => e = .returned (.string ⟨#[]⟩) ∧ Got b off c t (.string ⟨#[]⟩) (fun _ => False) (fun _ => True) w w' :=
  getS_any w b off c t _ ⟨#[]⟩ _ _ (.inl rfl) hb hc (fun _ h => h.elim) id fun w1 _ _ => (call_nilS w1).mono fun _ _ ⟨he, hw⟩ => ⟨he, trivial, hw ▸ Fr.refl _ _⟩
set_option maxRecDepth 100000 in
theorem madeS_yes (w : World) (b off : Nat) (c : Array Value) (t : TypeId) (hb : w.heap[b]? = some (.cells c t (0, 0))) (h : c[off + 3]? = some (.int .u32 1)) :
    Calls Try.prog 10 #[.pointer (some ⟨b, off, none⟩)] w fun e w' => e = .returned (.bool true) ∧ w = w' := by
  have c3 : w.cell? ⟨b, off + 3, none⟩ = some (.int .u32 1) := (cell_at hb _).trans h
  clear hb h
  go_enter Try.func10, Try.ntmps10
  go_wp2_with (go_at_call 33; refine (load_any _ 1 _ c3).mono ?_; rintro e w' ⟨rfl, rfl⟩)
  go_ret
  exact ⟨rfl, rfl⟩
set_option maxRecDepth 100000 in
theorem madeS_no (w : World) (b off : Nat) (c : Array Value) (t : TypeId) (hb : w.heap[b]? = some (.cells c t (0, 0))) (h : c[off + 3]? = some (.int .u32 0)) :
    Calls Try.prog 10 #[.pointer (some ⟨b, off, none⟩)] w fun e w' => e = .returned (.bool false) ∧ w = w' := by
  have c3 : w.cell? ⟨b, off + 3, none⟩ = some (.int .u32 0) := (cell_at hb _).trans h
  clear hb h
  go_enter Try.func10, Try.ntmps10
  go_wp2_with (go_at_call 33; refine (load_any _ 0 _ c3).mono ?_; rintro e w' ⟨rfl, rfl⟩)
  go_ret
  exact ⟨rfl, rfl⟩

end Go.Proofs.Ytalgbimclagdjaa.P3
