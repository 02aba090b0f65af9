/-
  Texts of the proof of SaidKeeps8, side by side: PgE6, St3.
-/
import Derived.Test.YtbkngnjkaledlaaGreatMk35
import Derived.Laws.StructEq
import Derived.Test.YtbkngnjkaledlaaGreatMk32
/-
  Two pages compared; a sector read; Lay of any page. (Alive5 and LawBack5 without their statements.)
-/
namespace Go.Proofs.YtbkngnjkaledlaaGreat.P5
open Go Go.RowKit Go.Lib Go.Proofs.YtbkngnjkaledlaaGreat.P0 Go.Proofs.YtbkngnjkaledlaaGreat.P2

/-- are two pages alike, as a Boolean -/
def Pg.same (p q : Pg) : Bool := (p.k == q.k) && (p.id == q.id) && (p.tx == q.tx) && (p.body.toList == q.body.toList)
theorem Pg.same_self (p : Pg) : p.same p = true := by
  unfold Pg.same
  rw [beq_self_eq_true, beq_self_eq_true, beq_self_eq_true, beq_self_eq_true]
  rfl
theorem Pg.same_eq {p q : Pg} (h : p.same q = true) : p = q := by
  obtain ⟨k, i, t, b⟩ := p
  obtain ⟨k', i', t', b'⟩ := q
  unfold Pg.same at h
  simp only [Bool.and_eq_true, beq_iff_eq] at h
  obtain ⟨⟨⟨h1, h2⟩, h3⟩, h4⟩ := h
  have h5 : b = b' := by
    by_cases e : b = b'
    · exact e
    · have := same_false e
      rw [h4] at this
      simp at this
  subst h1 h2 h3 h5
  rfl
theorem Pg.same_ne {p q : Pg} (h : p ≠ q) : p.same q = false := by
  cases e : p.same q
  · rfl
  · exact absurd (Pg.same_eq e) h
theorem stood : Tryz.prog.stoodInHeld 47 = false := by kernel_rfl
theorem page_desc : Tryz.prog.underlying 47 = some (.struct (Tryz.prog.fieldsOf 47)) := by
  unfold Program.fieldsOf
  rw [Tryz.underlying47]
theorem part_int (w : World) (cs : Array Value) (j : Nat) (v : Value) (h : cs[j]? = some v) : (part 3 cs j).run Tryz.prog w = .ok v w := by
  simp [part, Sem.run_bind, Tryz.isAgg3, h]
theorem part_str (w : World) (cs : Array Value) (j : Nat) (v : Value) (h : cs[j]? = some v) : (part 9 cs j).run Tryz.prog w = .ok v w := by
  simp [part, Sem.run_bind, Tryz.isAgg9, h]
theorem page_eql (w : World) (p q : Pg) : (binOp .eql 47 p.v q.v).run Tryz.prog w = .ok (.bool (p.same q)) w := by
  unfold Pg.v
  rw [run_eql_struct, run_equalIn_agg w 9999 _ _ _ page_desc stood]
  have ei : ∀ (w : World) (a b : Int), (Op.equalIn 9999 3 (.int .i64 a) (.int .i64 b)).run Tryz.prog w = .ok (a == b) w := fun w a b => run_equalIn_int w 9998 _ _ _ a b Tryz.underlying3
  have es : ∀ (w : World) (a b : ByteArray), (Op.equalIn 9999 9 (.string a) (.string b)).run Tryz.prog w = .ok (a.toList == b.toList) w := fun w a b => run_equalIn_string w 9998 _ a b Tryz.underlying9
  have q0 : ∀ (w : World) (a b c d : Value), (part 3 #[a, b, c, d] 0).run Tryz.prog w = .ok a w := fun w a b c d => part_int w _ 0 a rfl
  have q1 : ∀ (w : World) (a b c d : Value), (part 3 #[a, b, c, d] 1).run Tryz.prog w = .ok b w := fun w a b c d => part_int w _ 1 b rfl
  have q2 : ∀ (w : World) (a b c d : Value), (part 3 #[a, b, c, d] 2).run Tryz.prog w = .ok c w := fun w a b c d => part_int w _ 2 c rfl
  have q3 : ∀ (w : World) (a b c d : Value), (part 9 #[a, b, c, d] 3).run Tryz.prog w = .ok d w := fun w a b c d => part_str w _ 3 d rfl
  simp [Program.fieldsOf, Tryz.underlying47, Op.eqFields, q0, q1, q2, q3, ei, es]
  unfold Pg.same
  by_cases h1 : p.k = q.k <;> by_cases h2 : p.id = q.id <;> by_cases h3 : p.tx = q.tx <;> by_cases h4 : p.body.toList = q.body.toList <;> simp [h1, h2, h3, h4]


theorem front_sector (W : World) (p : Pg) (h : p.ok) :
    Calls Tryz.prog 105 #[.string p.sector] W fun r w' => r = .returned (.tuple #[.int .i64 p.k, .int .i64 p.id, .int .i64 p.tx]) ∧ Below W.heap.size W w' := by
  have hs := p.sector_size h
  have H := front_any W p.sector (by omega) (by omega)
  have e := of_sector h
  have e1 : (kOf p.sector.data.toList : Int) = p.k := congrArg Pg.k e
  have e2 : idOf p.sector.data.toList = p.id := congrArg Pg.id e
  have e3 : txOf p.sector.data.toList = p.tx := congrArg Pg.tx e
  rw [e1, e2, e3] at H
  exact H
theorem read_sector (W : World) (p : Pg) (h : p.ok) :
    Calls Tryz.prog 67 #[.string p.sector] W fun r w' => r = .returned (.tuple #[p.v, .int .i64 0]) ∧ Below W.heap.size W w' := by
  have H := read_any W p.sector
  obtain ⟨e1, e2⟩ := read_yes h
  rw [e1, e2] at H
  exact H
theorem kept_cells {w w' : World} {a : Nat} {cs : Array Value} (h : w.heap[a]? = some (.cells cs 47 (0, 0))) (hb : Below w.heap.size w w') : w'.heap[a]? = some (.cells cs 47 (0, 0)) := by
  rw [hb.block a (lt_of_block h)]; exact h
theorem four {w : World} {a : Nat} {c0 c1 c2 c3 : Value} (h : w.heap[a]? = some (.cells #[c0, c1, c2, c3] 47 (0, 0))) :
    w.cell? ⟨a, 0, none⟩ = some c0 ∧ w.cell? ⟨a, 1, none⟩ = some c1 ∧ w.cell? ⟨a, 2, none⟩ = some c2 ∧ w.cell? ⟨a, 3, none⟩ = some c3 :=
  ⟨cell_at h 0, cell_at h 1, cell_at h 2, cell_at h 3⟩
theorem new_page (w : World) (cs : Array Value) : (w.alloc (.cells cs 47)).heap[w.heap.size]? = some (.cells cs 47 (0, 0)) := new_at w _ _
theorem kept_new {w w' : World} {a : Nat} {cs ds : Array Value} (h : w.heap[a]? = some (.cells cs 47 (0, 0))) (hb : Below (w.alloc (.cells ds 47)).heap.size (w.alloc (.cells ds 47)) w') : w'.heap[a]? = some (.cells cs 47 (0, 0)) :=
  kept_cells (kept_cells h (below_new w _)) hb
/-- Lay, whatever is handed in -/
def laidB (p : Pg) : ByteArray := if p.ok then p.sector else ⟨#[]⟩
def laidE (p : Pg) : Int := if p.ok then 0 else 1
theorem lay_any (w : World) (p : Pg) :
    Calls Tryz.prog 85 #[p.v] w fun r w' => r = .returned (.tuple #[.string (laidB p), .int .i64 (laidE p)]) ∧ Below w.heap.size w w' := by
  unfold laidB laidE
  by_cases h : p.ok
  · rw [if_pos h, if_pos h]; exact lay_ok w p h
  · rw [if_neg h, if_neg h]; exact lay_bad w p h

end Go.Proofs.YtbkngnjkaledlaaGreat.P5

/-
  Package store: which pages may be put; a page put. (Store, part 3.)
-/
namespace Go.Proofs.YtbkngnjkaledlaaGreat.P8
open Go Go.RowKit Go.Lib Go.Maps Go.ChangeMaps Go.MapKept Go.Proofs.YtbkngnjkaledlaaGreat.P3 Go.Proofs.YtbkngnjkaledlaaGreat.P4
open Go.Proofs.YtbkngnjkaledlaaGreat.P5 (Pg zer valid_any lay_any laidB laidE)

/-- a list of pages in memory -/
def PagesIn (w : World) (v : Value) (l : List Pg) : Prop :=
  ∃ a c, v = .slice a l.length c ∧ l.length ≤ 9223372036854775807 ∧ (0 < l.length → ∃ b off, a = some ⟨b, off, none⟩ ∧ b < w.heap.size ∧ ∀ (i : Nat) (p : Pg), l[i]? = some p → ∀ (j : Nat) (u : Value), p.cells.toList[j]? = some u → w.cell? ⟨b, off + i * 4 + j, none⟩ = some u)
/-- a page that may be put -/
def okPut (p : Pg) : Prop := p.ok ∧ p.k ≠ 1 ∧ 2 ≤ p.id
instance (p : Pg) : Decidable (okPut p) := by unfold okPut; infer_instance
/-- what a put writes -/
def putW : Nat → List Pg → List (Int × ByteArray)
  | _, [] => []
  | m, p :: l => zerosW (zer 256) m p.id.toNat ++ (p.id, p.sector) :: putW (max (max m p.id.toNat) (p.id.toNat + 1)) l
theorem putW_drop {m i : Nat} {l : List Pg} {p : Pg} (h : l[i]? = some p) : putW m (l.drop i) = zerosW (zer 256) m p.id.toNat ++ (p.id, p.sector) :: putW (max (max m p.id.toNat) (p.id.toNat + 1)) (l.drop (i + 1)) := by
  obtain ⟨hi, he⟩ := List.getElem?_eq_some_iff.1 h
  rw [List.drop_eq_getElem_cons hi, he]
  rfl
theorem PagesIn.below {w w' : World} {v : Value} {l : List Pg} (h : PagesIn w v l) (hb : Below w.heap.size w w') : PagesIn w' v l := by
  obtain ⟨a, c, e, h1, h2⟩ := h
  refine ⟨a, c, e, h1, fun q => ?_⟩
  obtain ⟨b, off, e2, h3, h4⟩ := h2 q
  exact ⟨b, off, e2, Nat.lt_of_lt_of_le h3 hb.size, fun i p hp j u hj => (hb.cell (p := ⟨b, off + i * 4 + j, none⟩) h3).trans (h4 i p hp j u hj)⟩
/-- a page's block -/
theorem page_box (w : World) (p : Pg) : (w.alloc (.cells p.cells 47)).heap[w.heap.size]? = some (.cells p.cells 47 (0, 0)) := P3.new_at w _ _
set_option maxRecDepth 100000 in
theorem wrong_any (w : World) (p : Pg) : Calls Tryz.prog 34 #[p.v] w fun e w' => e = .returned (.bool (decide (¬ okPut p))) ∧ Below w.heap.size w w' := by
  have HV : Hid (∀ W, Calls Tryz.prog 84 #[.agg #[.int .i64 p.k, .int .i64 p.id, .int .i64 p.tx, .string p.body]] W fun e w' => e = .returned (.bool (decide p.ok)) ∧ Below W.heap.size W w') := fun W => valid_any W p
  have HB : Hid (∀ W, Below (w.alloc (.cells p.cells 47)).heap.size (w.alloc (.cells p.cells 47)) W → W.cell? ⟨w.heap.size, 0, none⟩ = some (.int .i64 p.k) ∧ W.cell? ⟨w.heap.size, 1, none⟩ = some (.int .i64 p.id) ∧ W.cell? ⟨w.heap.size, 2, none⟩ = some (.int .i64 p.tx) ∧ W.cell? ⟨w.heap.size, 3, none⟩ = some (.string p.body) ∧ Below w.heap.size w W) := fun W hb => by
    have h := P3.old_below (page_box w p) hb
    exact ⟨by rw [P3.cell_at h]; rfl, by rw [P3.cell_at h]; rfl, by rw [P3.cell_at h]; rfl, by rw [P3.cell_at h]; rfl, thenBelow (P3.below_new w _) hb⟩
  obtain ⟨c0, c1, c2, c3, _⟩ := HB.out _ (Below.refl _ _)
  show Calls Tryz.prog 34 #[.agg #[.int .i64 p.k, .int .i64 p.id, .int .i64 p.tx, .string p.body]] w _
  by_cases o1 : p.ok
  · rw [decide_eq_true o1] at HV
    by_cases o2 : p.k = 1
    · have k1 : (p.k == 1) = true := by simp [o2]
      have e : decide (¬ okPut p) = true := decide_eq_true (fun q => q.2.1 o2)
      rw [e]
      clear o1 o2 e
      go_enter Tryz.func34, Tryz.ntmps34
      go_wp2_with (go_at_call 84; (with_reducible refine (HV.out _).mono ?_); rintro e w3 ⟨rfl, hb3⟩; obtain ⟨d0, d1, _, _, hb4⟩ := HB.out _ hb3)
      go_ret
      exact ⟨rfl, hb4⟩
    · have k1 : (p.k == 1) = false := beq_eq_false_iff_ne.2 o2
      by_cases o3 : p.id < 2
      · have k2 : decide (p.id < 2) = true := decide_eq_true o3
        have e : decide (¬ okPut p) = true := decide_eq_true (fun q => by have := q.2.2; omega)
        rw [e]
        clear o1 o2 o3 e
        go_enter Tryz.func34, Tryz.ntmps34
        go_wp2_with (go_at_call 84; (with_reducible refine (HV.out _).mono ?_); rintro e w3 ⟨rfl, hb3⟩; obtain ⟨d0, d1, _, _, hb4⟩ := HB.out _ hb3)
        go_ret
        exact ⟨rfl, hb4⟩
      · have k2 : decide (p.id < 2) = false := decide_eq_false o3
        have e : decide (¬ okPut p) = false := decide_eq_false (fun q => q ⟨o1, o2, by omega⟩)
        rw [e]
        clear o1 o2 o3 e
        go_enter Tryz.func34, Tryz.ntmps34
        go_wp2_with (go_at_call 84; (with_reducible refine (HV.out _).mono ?_); rintro e w3 ⟨rfl, hb3⟩; obtain ⟨d0, d1, _, _, hb4⟩ := HB.out _ hb3)
        go_ret
        exact ⟨rfl, hb4⟩
  · rw [decide_eq_false o1] at HV
    have e : decide (¬ okPut p) = true := decide_eq_true (fun q => o1 q.1)
    rw [e]
    clear o1 e
    go_enter Tryz.func34, Tryz.ntmps34
    go_wp2_with (go_at_call 84; (with_reducible refine (HV.out _).mono ?_); rintro e w3 ⟨rfl, hb3⟩; obtain ⟨d0, d1, _, _, hb4⟩ := HB.out _ hb3)
    go_ret
    exact ⟨rfl, hb4⟩
set_option maxRecDepth 100000 in
set_option maxHeartbeats 1000000 in
theorem index_any {w : World} {v : Value} {l : List Pg} (hv : PagesIn w v l) :
    Calls Tryz.prog 83 #[v, .func (.func 34) #[] #[]] w fun e w' => ∃ i : Int, e = .returned (.int .i64 i) ∧ (0 ≤ i ↔ ¬ ∀ p ∈ l, okPut p) ∧ Below w.heap.size w w' := by
  obtain ⟨av, c, rfl, hl, hc⟩ := hv
  have HW := Lib.hid (fun W p => wrong_any W p)
  go_enter Tryz.func83, Tryz.ntmps83
  go_wp2
  go_loopw [8] (fun vi wr => ∃ i : Nat, i ≤ l.length ∧ vi = .int .i64 i ∧ Hid (Below w.heap.size w wr) ∧ Hid (∀ (j : Nat) (p : Pg), j < i → l[j]? = some p → okPut p)) (fun vi _ => l.length - (RowKit.intOf vi).toNat)
  case atStart => exact ⟨0, Nat.zero_le _, rfl, Below.refl _ _, fun _ _ q => absurd q (Nat.not_lt_zero _)⟩
  case round =>
    obtain ⟨i, hi, rfl, H, HO⟩ := hrel
    by_cases hlt : i < l.length
    · obtain ⟨p, hp⟩ : ∃ p, l[i]? = some p := ⟨_, List.getElem?_eq_getElem hlt⟩
      obtain ⟨B, off, rfl, hbl, hcells⟩ := hc (by omega)
      have HX : Hid (∀ W', Below w.heap.size w W' → ∀ (j : Nat) (u : Value), p.cells.toList[j]? = some u → W'.cell? ⟨B, off + i * 4 + j, none⟩ = some u) := fun W' hb j u hj => by rw [hb.cell (p := ⟨B, off + i * 4 + j, none⟩) hbl]; exact hcells i p hp j u hj
      have q0 : wr.cell? ⟨B, off + i * 4, none⟩ = some (.int .i64 p.k) := HX.out _ H.out 0 _ rfl
      have q1 : wr.cell? ⟨B, off + i * 4 + 1, none⟩ = some (.int .i64 p.id) := HX.out _ H.out 1 _ rfl
      have q2 : wr.cell? ⟨B, off + i * 4 + 2, none⟩ = some (.int .i64 p.tx) := HX.out _ H.out 2 _ rfl
      have q3 : wr.cell? ⟨B, off + i * 4 + 3, none⟩ = some (.string p.body) := HX.out _ H.out 3 _ rfl
      have HP := Lib.hid hp
      by_cases ho : okPut p
      · have HV : Hid (∀ W, Calls Tryz.prog 34 #[.agg #[.int .i64 p.k, .int .i64 p.id, .int .i64 p.tx, .string p.body]] W fun e w' => e = .returned (.bool false) ∧ Below W.heap.size W w') := fun W => by
          have q := HW.out W p
          rw [decide_eq_false (fun k => k ho)] at q
          exact q
        have hO : Hid (∀ (j : Nat) (q : Pg), j < i + 1 → l[j]? = some q → okPut q) := fun j q hj hq => by
          by_cases e : j = i
          · subst e
            rw [HP.out] at hq
            obtain rfl : p = q := by simpa using hq
            exact ho
          · exact HO.out j q (by omega) hq
        clear hc hcells hp ho HO
        go_wp2_with (go_at_call 34; (with_reducible refine (HV.out _).mono ?_); rintro e w3 ⟨rfl, hb3⟩; have H3 := Lib.hid (thenBelow H.out hb3); clear hb3)
        go_roundw
        case rel => exact ⟨i + 1, by omega, by go_num, H3, hO⟩
        case measure => simp [RowKit.intOf]; omega
      · have HV : Hid (∀ W, Calls Tryz.prog 34 #[.agg #[.int .i64 p.k, .int .i64 p.id, .int .i64 p.tx, .string p.body]] W fun e w' => e = .returned (.bool true) ∧ Below W.heap.size W w') := fun W => by
          have q := HW.out W p
          rw [decide_eq_true ho] at q
          exact q
        have HE : Hid ((0 : Int) ≤ (i : Int) ↔ ¬ ∀ p ∈ l, okPut p) := ⟨fun _ q => ho (q p (List.mem_of_getElem? hp)), fun _ => by omega⟩
        clear hc hcells hp ho HO
        go_wp2_with (go_at_call 34; (with_reducible refine (HV.out _).mono ?_); rintro e w3 ⟨rfl, hb3⟩; have H3 := Lib.hid (thenBelow H.out hb3); clear hb3)
        go_ret
        exact ⟨i, rfl, HE.out, H3.out⟩
    · have HE : Hid ((0 : Int) ≤ (-1 : Int) ↔ ¬ ∀ p ∈ l, okPut p) := ⟨fun q => absurd q (by decide), fun q => absurd (fun p hp => by
        obtain ⟨j, hj, he⟩ := List.mem_iff_getElem.1 hp
        exact HO.out j p (by omega) (by rw [List.getElem?_eq_getElem hj, he])) q⟩
      clear HO
      go_wp2
      go_ret
      exact ⟨-1, rfl, HE.out, H.out⟩
theorem contains_any {w : World} {v : Value} {l : List Pg} (hv : PagesIn w v l) (B : Bool) (hB : B = true ↔ ¬ ∀ p ∈ l, okPut p) :
    Calls Tryz.prog 33 #[v, .func (.func 34) #[] #[]] w fun e w' => e = .returned (.bool B) ∧ Below w.heap.size w w' := by
  have HI := Lib.hid (index_any hv)
  have HB : Hid (∀ i : Int, (0 ≤ i ↔ ¬ ∀ p ∈ l, okPut p) → decide (0 ≤ i) = B) := fun i hi => by
    cases B with
    | true => exact decide_eq_true (hi.2 (hB.1 rfl))
    | false => exact decide_eq_false (fun q => by have := hB.2 (hi.1 q); cases this)
  clear hB hv
  go_enter Tryz.func33, Tryz.ntmps33
  go_wp2_with (go_at_call 83; (with_reducible refine (HI.out).mono ?_); rintro e w3 ⟨i, rfl, hi, hb3⟩; have hq := HB.out i hi; clear hi)
  go_ret
  subst hq
  exact ⟨rfl, hb3⟩
end Go.Proofs.YtbkngnjkaledlaaGreat.P8
