/-
  Texts of the proof of SaidNone8, side by side: Mt8, St6.
-/
import Derived.Test.YtbkngnjkaledlaaGreatMn40
import Derived.Test.YtbkngnjkaledlaaGreatMn45
import Derived.Test.YtbkngnjkaledlaaGreatMn46
import Derived.Test.YtbkngnjkaledlaaGreatMn41
import Derived.Test.YtbkngnjkaledlaaGreatMn42
/-
  Package meta's sheet, and the reference's LayMeta, by contracts; metas compared; results that are metas.
-/
namespace Go.Proofs.YtbkngnjkaledlaaGreat.P6
open Go Go.RowKit Go.Lib Go.Proofs.YtbkngnjkaledlaaGreat.P0 Go.Proofs.YtbkngnjkaledlaaGreat.P2 Go.Proofs.YtbkngnjkaledlaaGreat.P5

/-- are two metas alike, as a Boolean -/
def Mt.same (p q : Mt) : Bool := (p.tx == q.tx) && (p.root == q.root) && (p.free == q.free) && (p.pages == q.pages)
theorem Mt.same_self (p : Mt) : p.same p = true := by
  unfold Mt.same
  rw [beq_self_eq_true, beq_self_eq_true, beq_self_eq_true, beq_self_eq_true]
  rfl
theorem Mt.same_eq {p q : Mt} (h : p.same q = true) : p = q := by
  unfold Mt.same at h
  simp only [Bool.and_eq_true, beq_iff_eq] at h
  exact Mt.ext' h.1.1.1 h.1.1.2 h.1.2 h.2
theorem Mt.same_ne {p q : Mt} (h : p ≠ q) : p.same q = false := by
  cases e : p.same q
  · rfl
  · exact absurd (Mt.same_eq e) h
theorem mstood : Tryz.prog.stoodInHeld 41 = false := by kernel_rfl
theorem meta_desc : Tryz.prog.underlying 41 = some (.struct (Tryz.prog.fieldsOf 41)) := by
  unfold Program.fieldsOf
  rw [Tryz.underlying41]
theorem meta_equal (w : World) (p q : Mt) : (Op.equalIn 10000 41 p.v q.v).run Tryz.prog w = .ok (p.same q) w := by
  unfold Mt.v
  rw [run_equalIn_agg w 9999 _ _ _ meta_desc mstood]
  have ei : ∀ (w : World) (a b : Int), (Op.equalIn 9999 3 (.int .i64 a) (.int .i64 b)).run Tryz.prog w = .ok (a == b) w := fun w a b => run_equalIn_int w 9998 _ _ _ a b Tryz.underlying3
  have q0 : ∀ (w : World) (a b c d : Value), (part 3 #[a, b, c, d] 0).run Tryz.prog w = .ok a w := fun w a b c d => part_int w _ 0 a rfl
  have q1 : ∀ (w : World) (a b c d : Value), (part 3 #[a, b, c, d] 1).run Tryz.prog w = .ok b w := fun w a b c d => part_int w _ 1 b rfl
  have q2 : ∀ (w : World) (a b c d : Value), (part 3 #[a, b, c, d] 2).run Tryz.prog w = .ok c w := fun w a b c d => part_int w _ 2 c rfl
  have q3 : ∀ (w : World) (a b c d : Value), (part 3 #[a, b, c, d] 3).run Tryz.prog w = .ok d w := fun w a b c d => part_int w _ 3 d rfl
  simp [Program.fieldsOf, Tryz.underlying41, Op.eqFields, q0, q1, q2, q3, ei]
  unfold Mt.same
  by_cases h1 : p.tx = q.tx <;> by_cases h2 : p.root = q.root <;> by_cases h3 : p.free = q.free <;> by_cases h4 : p.pages = q.pages <;> simp [h1, h2, h3, h4]
theorem meta_eql (w : World) (p q : Mt) : (binOp .eql 41 p.v q.v).run Tryz.prog w = .ok (.bool (p.same q)) w := by
  have h := meta_equal w p q
  unfold Mt.v at *
  rw [run_eql_struct, h]
  rfl
theorem meta_neq (w : World) (p q : Mt) : (binOp .neq 41 p.v q.v).run Tryz.prog w = .ok (.bool (!p.same q)) w := by
  have h := meta_equal w p q
  unfold Mt.v at *
  rw [run_neq_struct, h]
  rfl
theorem page_neq (w : World) (p q : Pg) : (binOp .neq 47 p.v q.v).run Tryz.prog w = .ok (.bool (!p.same q)) w := by
  have h := page_eql w p q
  unfold Pg.v at *
  rw [run_eql_struct] at h
  rw [run_neq_struct]
  cases e : (Op.equalIn 10000 47 (.agg #[.int .i64 p.k, .int .i64 p.id, .int .i64 p.tx, .string p.body]) (.agg #[.int .i64 q.k, .int .i64 q.id, .int .i64 q.tx, .string q.body])).run Tryz.prog w with
  | ok b w' => rw [e] at h; simp only [Result.andThen_ok] at h ⊢; cases h; rfl
  | _ => rw [e] at h; cases h

/-- a result that is a meta of four cells, and a number -/
theorem meta_result {fn : Func} {q u : Tmp} (h : fn.results = #[.cell q 41, .tmp u]) (tmps : Array Value) (w : World) (a : Nat) (cs : Array Value) (hq : tmps.getD q undef = .pointer (some ⟨a, 0, none⟩)) (hc : w.heap[a]? = some (.cells cs 41 (0, 0))) (hs : cs.size = 4) :
    (results fn tmps).run Tryz.prog w = .ok (.tuple #[.agg cs, tmps.getD u undef]) w := by
  have hi : (Tryz.prog.info? 41).map (·.size) = some cs.size := by rw [hs]; kernel_rfl
  rw [results_cell_tmp h, hq]
  have e1 : (asAddr (.pointer (some ⟨a, 0, none⟩))).run Tryz.prog w = .ok ⟨a, 0, none⟩ w := rfl
  rw [e1, Result.andThen_ok, run_loadVar_row (P := Tryz.prog) w a 41 41 cs (0, 0) _ hc Tryz.underlying41 rfl hi]
  rfl
theorem rmeta_result {fn : Func} {q u : Tmp} (h : fn.results = #[.cell q 93, .tmp u]) (tmps : Array Value) (w : World) (a : Nat) (cs : Array Value) (hq : tmps.getD q undef = .pointer (some ⟨a, 0, none⟩)) (hc : w.heap[a]? = some (.cells cs 93 (0, 0))) (hs : cs.size = 4) :
    (results fn tmps).run Tryz.prog w = .ok (.tuple #[.agg cs, tmps.getD u undef]) w := by
  have hi : (Tryz.prog.info? 93).map (·.size) = some cs.size := by rw [hs]; kernel_rfl
  rw [results_cell_tmp h, hq]
  have e1 : (asAddr (.pointer (some ⟨a, 0, none⟩))).run Tryz.prog w = .ok ⟨a, 0, none⟩ w := rfl
  rw [e1, Result.andThen_ok, run_loadVar_row (P := Tryz.prog) w a 93 93 cs (0, 0) _ hc Tryz.underlying93 rfl hi]
  rfl
theorem page_one {fn : Func} {q : Tmp} (h : fn.results = #[.cell q 47]) (tmps : Array Value) (w : World) (a : Nat) (cs : Array Value) (hq : tmps.getD q undef = .pointer (some ⟨a, 0, none⟩)) (hc : w.heap[a]? = some (.cells cs 47 (0, 0))) (hs : cs.size = 4) :
    (results fn tmps).run Tryz.prog w = .ok (.agg cs) w :=
  results_cell_row h tmps w a 47 cs (0, 0) _ hq hc Tryz.underlying47 rfl (by rw [hs]; kernel_rfl)
theorem meta_one {fn : Func} {q : Tmp} (h : fn.results = #[.cell q 41]) (tmps : Array Value) (w : World) (a : Nat) (cs : Array Value) (hq : tmps.getD q undef = .pointer (some ⟨a, 0, none⟩)) (hc : w.heap[a]? = some (.cells cs 41 (0, 0))) (hs : cs.size = 4) :
    (results fn tmps).run Tryz.prog w = .ok (.agg cs) w :=
  results_cell_row h tmps w a 41 cs (0, 0) _ hq hc Tryz.underlying41 rfl (by rw [hs]; kernel_rfl)
theorem rmeta_one {fn : Func} {q : Tmp} (h : fn.results = #[.cell q 93]) (tmps : Array Value) (w : World) (a : Nat) (cs : Array Value) (hq : tmps.getD q undef = .pointer (some ⟨a, 0, none⟩)) (hc : w.heap[a]? = some (.cells cs 93 (0, 0))) (hs : cs.size = 4) :
    (results fn tmps).run Tryz.prog w = .ok (.agg cs) w :=
  results_cell_row h tmps w a 93 cs (0, 0) _ hq hc Tryz.underlying93 rfl (by rw [hs]; kernel_rfl)

/-- blocks of one's own that hold these cells -/
structure Bks (w0 : World) (l : List (Nat × Array Value × TypeId)) (w : World) : Prop where
  have_ : ∀ x ∈ l, w.heap[x.1]? = some (.cells x.2.1 x.2.2 (0, 0)) ∧ w0.heap.size ≤ x.1
  below : Below w0.heap.size w0 w
theorem Bks.nil (w : World) : Bks w [] w := ⟨fun _ h => (List.not_mem_nil h).elim, Below.refl _ _⟩
theorem Bks.over {w0 : World} {l : List (Nat × Array Value × TypeId)} {w w' : World} (h : Bks w0 l w) (k : Below w.heap.size w w') : Bks w0 l w' :=
  ⟨fun x hx => ⟨by rw [k.block _ (lt_of_block (h.have_ x hx).1)]; exact (h.have_ x hx).1, (h.have_ x hx).2⟩, thenBelow h.below k⟩
theorem Bks.new {w0 : World} {l : List (Nat × Array Value × TypeId)} {w : World} (h : Bks w0 l w) (cs : Array Value) (t : TypeId) : Bks w0 ((w.heap.size, cs, t) :: l) (w.alloc (.cells cs t)) := by
  have h' := h.over (below_new w (.cells cs t))
  refine ⟨fun x hx => ?_, h'.below⟩
  rcases List.mem_cons.1 hx with rfl | hx
  · exact ⟨new_at w _ _, h.below.size⟩
  · exact h'.have_ x hx
theorem Bks.at_ {w0 : World} {l : List (Nat × Array Value × TypeId)} {w : World} (h : Bks w0 l w) (i : Nat) {b : Nat} {cs : Array Value} {t : TypeId} (e : l[i]? = some (b, cs, t)) : w.heap[b]? = some (.cells cs t (0, 0)) :=
  (h.have_ _ (List.mem_of_getElem? e)).1
theorem Bks.lo {w0 : World} {l : List (Nat × Array Value × TypeId)} {w : World} (h : Bks w0 l w) (i : Nat) {b : Nat} {cs : Array Value} {t : TypeId} (e : l[i]? = some (b, cs, t)) : w0.heap.size ≤ b :=
  (h.have_ _ (List.mem_of_getElem? e)).2
/-- some of them -/
theorem Bks.sub {w0 : World} {l k : List (Nat × Array Value × TypeId)} {w : World} (h : Bks w0 l w) (hk : ∀ x ∈ k, x ∈ l) : Bks w0 k w := ⟨fun x hx => h.have_ x (hk x hx), h.below⟩
/-- a Get's or a Put's own block has changed -/
theorem Bks.fr {w0 : World} {l : List (Nat × Array Value × TypeId)} {w w' : World} {b : Nat} (h : Bks w0 l w) (f : Fr b w w') (hb : w0.heap.size ≤ b) (hl : ∀ x ∈ l, x.1 ≠ b ∧ x.2.2 ≠ 5) : Bks w0 l w' :=
  ⟨fun x hx => ⟨f.keeps _ _ _ _ (h.have_ x hx).1 (hl x hx).2 (hl x hx).1, (h.have_ x hx).2⟩, h.below.trans (f.below.mono hb)⟩
theorem cells4 {w : World} {a : Nat} {c0 c1 c2 c3 : Value} {t : TypeId} (h : w.heap[a]? = some (.cells #[c0, c1, c2, c3] t (0, 0))) :
    w.cell? ⟨a, 0, none⟩ = some c0 ∧ w.cell? ⟨a, 1, none⟩ = some c1 ∧ w.cell? ⟨a, 2, none⟩ = some c2 ∧ w.cell? ⟨a, 3, none⟩ = some c3 :=
  ⟨cell_at h 0, cell_at h 1, cell_at h 2, cell_at h 3⟩
theorem free4 {w : World} {a : Nat} {cs : Array Value} {t : TypeId} (h : w.heap[a]? = some (.cells cs t (0, 0))) :
    w.frozen? ⟨a, 0, none⟩ = false ∧ w.frozen? ⟨a, 1, none⟩ = false ∧ w.frozen? ⟨a, 2, none⟩ = false ∧ w.frozen? ⟨a, 3, none⟩ = false :=
  ⟨free_at h 0, free_at h 1, free_at h 2, free_at h 3⟩
/-- a block of one's own is filled anew -/
theorem Bks.fill {w0 : World} {l : List (Nat × Array Value × TypeId)} {w : World} (h : Bks w0 l w) (i : Nat) {r : Nat} {c0 c1 c2 c3 : Value} {t : TypeId} (e : l[i]? = some (r, #[c0, c1, c2, c3], t)) (a b c d : Value) :
    (((((w.setCell ⟨r, 0, none⟩ a).setCell ⟨r, 1, none⟩ b).setCell ⟨r, 2, none⟩ c).setCell ⟨r, 3, none⟩ d).heap[r]? = some (.cells #[a, b, c, d] t (0, 0))) ∧ Below w0.heap.size w0 ((((w.setCell ⟨r, 0, none⟩ a).setCell ⟨r, 1, none⟩ b).setCell ⟨r, 2, none⟩ c).setCell ⟨r, 3, none⟩ d) :=
  ⟨set_at (set_at (set_at (set_at (h.at_ i e) 0 a) 1 b) 2 c) 3 d, (((h.below.setCell (h.lo i e) a).setCell (h.lo i e) b).setCell (h.lo i e) c).setCell (h.lo i e) d⟩

end Go.Proofs.YtbkngnjkaledlaaGreat.P6

/-
  Package store: of a nil store: Get, Meta, SetMeta, Sync. (Store, part 6.)
-/
namespace Go.Proofs.YtbkngnjkaledlaaGreat.P8
open Go Go.RowKit Go.Lib Go.Maps Go.ChangeMaps Go.MapKept Go.Proofs.YtbkngnjkaledlaaGreat.P3 Go.Proofs.YtbkngnjkaledlaaGreat.P4
open Go.Proofs.YtbkngnjkaledlaaGreat.P5 (Pg page_result)
open Go.Proofs.YtbkngnjkaledlaaGreat.P6 (Mt Bks meta_result)

theorem get_nil (w : World) (id : Int) : Calls Tryz.prog 17 #[.pointer none, .int .i64 id] w fun e w' => e = .returned (.tuple #[Pg.zero.v, .int .i64 1]) ∧ Below w.heap.size w w' := by
  have HGS := GS.made w
  have r0 := (P3.cell_at HGS.res 0).trans (show _ = some (Value.int .i64 0) from rfl)
  have r1 := (P3.cell_at HGS.res 1).trans (show _ = some (Value.int .i64 0) from rfl)
  have r2 := (P3.cell_at HGS.res 2).trans (show _ = some (Value.int .i64 0) from rfl)
  have r3 := (P3.cell_at HGS.res 3).trans (show _ = some (Value.string ⟨#[]⟩) from rfl)
  have f0 := P3.free_at HGS.res 0
  have f1 := P3.free_at HGS.res 1
  have f2 := P3.free_at HGS.res 2
  have f3 := P3.free_at HGS.res 3
  have HH := Lib.hid HGS
  clear HGS
  go_enter Tryz.func17, Tryz.ntmps17
  go_wp2
  exact bodyPost_ret (page_result rfl _ _ w.heap.size _ rfl HH.out.res rfl) rfl ⟨rfl, HH.out.below⟩
theorem meta_nil (w : World) : Calls Tryz.prog 19 #[.pointer none] w fun e w' => e = .returned (.tuple #[Mt.zero.v, .int .i64 1]) ∧ Below w.heap.size w w' := by
  have hB := (Bks.nil w).new #[.int .i64 0, .int .i64 0, .int .i64 0, .int .i64 0] 41
  obtain ⟨r0, r1, r2, r3⟩ := P6.cells4 (hB.at_ 0 rfl)
  obtain ⟨f0, f1, f2, f3⟩ := P6.free4 (hB.at_ 0 rfl)
  have HH := Lib.hid hB
  clear hB
  go_enter Tryz.func19, Tryz.ntmps19
  go_wp2
  exact bodyPost_ret (meta_result rfl _ _ w.heap.size _ rfl (HH.out.at_ 0 rfl) rfl) rfl ⟨rfl, HH.out.below⟩
theorem setmeta_nil (w : World) (m : Mt) : Calls Tryz.prog 11 #[.pointer none, m.v] w fun e w' => e = .returned (.int .i64 1) ∧ Below w.heap.size w w' := by
  have HH := Lib.hid (P3.below_new w (.cells #[.int .i64 m.tx, .int .i64 m.root, .int .i64 m.free, .int .i64 m.pages] 41))
  show Calls Tryz.prog 11 #[.pointer none, .agg #[.int .i64 m.tx, .int .i64 m.root, .int .i64 m.free, .int .i64 m.pages]] w _
  go_enter Tryz.func11, Tryz.ntmps11
  go_wp2
  go_ret
  exact ⟨rfl, HH.out⟩
theorem stsync_nil (w : World) : Calls Tryz.prog 14 #[.pointer none] w fun e w' => e = .returned (.int .i64 1) ∧ w = w' := by
  go_enter Tryz.func14, Tryz.ntmps14
  go_wp2
  go_ret
  exact ⟨rfl, rfl⟩
end Go.Proofs.YtbkngnjkaledlaaGreat.P8
