/-
  Texts of the proof of SaidNone8, side by side: Dk14.
-/
import Derived.Test.YtbkngnjkaledlaaGreatMn11
import Derived.Test.YtbkngnjkaledlaaGreatMn12
import Derived.Shelf.SlSortCmp.NoneTotal
/-
  Package disk: all writes of a disk that are not safe, sorted by their turns. (Disk, part 14.)
-/
namespace Go.Proofs.YtbkngnjkaledlaaGreat.P4
open Go Go.RowKit Go.Lib Go.Maps Go.ChangeMaps Go.MapKept Go.Proofs.YtbkngnjkaledlaaGreat.P3 Go.Sort

theorem closure_any (W : World) (a b : Nat) (x y : Int) (ha : W.cell? ⟨a, 0, none⟩ = some (.int .i64 x)) (hb : W.cell? ⟨b, 0, none⟩ = some (.int .i64 y)) :
    Calls Tryz.prog 116 #[.pointer (some ⟨a, 0, none⟩), .pointer (some ⟨b, 0, none⟩)] W fun e w' => e = .returned (.int .i64 (Lib.compareInt x y)) ∧ ∃ q, w' = W.drewN q := by
  have hcon := Tryz.cmp_Compare_int x y
  generalize Lib.compareInt x y = r at hcon ⊢
  have H := Lib.hid hcon
  clear hcon
  go_enter Tryz.func116, Tryz.ntmps116
  go_wp2
  go_quiet ((go_at_call 117; exact Calls.quiet_of_same (H.out _)))
  go_wp2
  go_ret
  exact ⟨rfl, _, rfl⟩

theorem mapBlock_only (w : World) (blk : Nat) (f : Array Value → Array Value) : Only blk w (mapBlock w blk f) := by
  refine ⟨rfl, rfl, rfl, by simp [mapBlock], fun k hk hne => ?_⟩
  simp only [mapBlock, Array.getElem?_modify]
  rw [if_neg (fun e => hne e.symm)]
theorem grow_below (w : World) (os : Array Obj) : Below w.heap.size w (Go.Sort.grow w os) := by
  refine ⟨rfl, rfl, rfl, by simp [Go.Sort.grow], fun k hk => ?_⟩
  simp only [Go.Sort.grow]
  rw [Array.getElem?_append_left hk]
theorem sortWorld_only {α : Type} [Inhabited α] (enc : α → Value) (w : World) (blk off m : Nat) (d : Array α) (os : Array Obj) : Only blk w (sortWorld enc w blk off m d os) := by
  have h1 : Only blk w (Sort.ahead w m) := ⟨rfl, rfl, rfl, Nat.le_refl _, fun _ _ _ => rfl⟩
  exact (h1.trans (mapBlock_only _ blk _)).trans (.of (grow_below _ _))

/-- a write among these -/
abbrev Among (l : List Wr) := { x : Wr // x ∈ l }
def amEnc (l : List Wr) (x : Among l) : Value := .pointer (some ⟨x.1.b, 0, none⟩)
def amCmp (l : List Wr) (x y : Among l) : Int := Lib.compareInt x.1.turn y.1.turn
theorem am_lt (l : List Wr) (x y : Among l) : ltOf (amCmp l) x y = decide (x.1.turn < y.1.turn) := by
  unfold ltOf amCmp Lib.compareInt
  by_cases h : x.1.turn < y.1.turn
  · rw [if_pos (by omega)]; simp [h]
  · rw [if_neg (by omega)]
    split <;> simp [h]
theorem am_swo (l : List Wr) : SWO (ltOf (amCmp l)) := by
  refine ⟨fun x => ?_, fun x y z => ?_, fun x y z => ?_⟩ <;> simp only [am_lt, decide_eq_true_eq, decide_eq_false_iff_not]
  · omega
  · omega
  · omega

/-- a row that holds pointers to these writes -/
structure RowOf (w : World) (lo : Nat) (v : Value) (ys : List Wr) : Prop where
  shape : ∃ a cap, v = .slice a ys.length cap
  cells : ys ≠ [] → ∃ (blk cap : Nat) (cur : Array Value), v = .slice (some ⟨blk, 0, none⟩) ys.length cap ∧ lo ≤ blk ∧ w.heap[blk]? = some (.cells cur 121 (0, 0)) ∧ ∀ (j : Nat) (x : Wr), ys[j]? = some x → cur[j]? = some (Value.pointer (some ⟨x.b, 0, none⟩))

theorem perm_rows {l : List Wr} (d : List (Among l)) : (d.mergeSort fun x y => !ltOf (amCmp l) y x).Perm d := List.mergeSort_perm d _

theorem sort_rows (w : World) (blk cap : Nat) (l : List Wr) (cur : Array Value) (hne : l ≠ []) (hnd : (l.map (·.turn)).Nodup) (hb : w.heap[blk]? = some (.cells cur 121 (0, 0))) (hc : ∀ (j : Nat) (x : Wr), l[j]? = some x → cur[j]? = some (Value.pointer (some ⟨x.b, 0, none⟩)))
    (hw : ∀ x ∈ l, ∃ c : Array Value, w.heap[x.b]? = some (.cells c 123 (0, 0)) ∧ c[0]? = some (.int .i64 x.turn)) (hl : l.length ≤ 1000000) :
    Calls Tryz.prog 115 #[.slice (some ⟨blk, 0, none⟩) l.length cap, .func (.func 116) #[] #[]] w fun e w' => e = .returned (.tuple #[]) ∧ Only blk w w' ∧
      ∃ ys : List Wr, ys.Perm l ∧ ys.Pairwise (fun x y => x.turn < y.turn) ∧ ∃ cur' : Array Value, w'.heap[blk]? = some (.cells cur' 121 (0, 0)) ∧ ∀ (j : Nat) (x : Wr), ys[j]? = some x → cur'[j]? = some (Value.pointer (some ⟨x.b, 0, none⟩)) := by
  obtain ⟨x0, hx0⟩ : ∃ x0, x0 ∈ l := List.exists_mem_of_ne_nil l hne
  letI : Inhabited (Among l) := ⟨⟨x0, hx0⟩⟩
  obtain ⟨d, hd⟩ : ∃ d : Array (Among l), d = l.attach.toArray := ⟨_, rfl⟩
  have hds : d.size = l.length := by rw [hd]; simp
  have hdl : d.toList.map (·.1) = l := by rw [hd]; simp
  have hdj : ∀ j, j < d.size → l[j]? = some (d[j]!).1 := by
    intro j hj
    have h1 : (d.toList.map (·.1))[j]? = some (d[j]!).1 := by
      rw [List.getElem?_map, Array.getElem?_toList, getElem!_pos d j hj, Array.getElem?_eq_getElem hj]
      rfl
    have h2 : (d.toList.map (·.1))[j]? = l[j]? := congrArg (fun m : List Wr => m[j]?) hdl
    exact h2.symm.trans h1
  have hH : Holds (amEnc l) w blk 0 d := by
    intro j hj
    rw [Nat.zero_add]
    exact ⟨by rw [cell_at hb, hc j _ (hdj j hj)]; rfl, free_at hb j⟩
  have eg : ∀ args w, (callFunc 116 args).run Tryz.prog w = .ok (.enter 116 args) w := fun args w => enters Tryz.func116 (by kernel_rfl) rfl args w
  have hcmp : CmpLays1 Tryz.prog 116 #[] (amEnc l) (amCmp l) blk 0 d.size w := by
    refine CmpReads.lays (fun m os dk hs x y => ?_)
    have ho := sortWorld_only (amEnc l) w blk 0 m dk os
    have hr : ∀ z : Among l, (sortWorld (amEnc l) w blk 0 m dk os).cell? ⟨z.1.b, 0, none⟩ = some (.int .i64 z.1.turn) := by
      intro z
      obtain ⟨c, h1, h2⟩ := hw z.1 z.2
      rw [cell_at (ho.keep h1 (block_ne h1 hb (by decide)))]
      exact h2
    exact closure_any _ _ _ _ _ (hr x) (hr y)
  have hT : ∀ x y : Among l, ltOf (amCmp l) x y = false → ltOf (amCmp l) y x = false → x = y := by
    intro x y h1 h2
    rw [am_lt] at h1 h2
    have h3 : x.1.turn = y.1.turn := by simp at h1 h2; omega
    have : ∀ {l : List Wr}, (l.map (·.turn)).Nodup → ∀ {a b : Wr}, a ∈ l → b ∈ l → a.turn = b.turn → a = b := by
      intro l
      induction l with
      | nil => intro _ a b ha; simp at ha
      | cons p r ih =>
        intro hn a b ha hb e
        rw [List.map_cons, List.nodup_cons] at hn
        rcases List.mem_cons.1 ha with ea | ha
        · rcases List.mem_cons.1 hb with eb | hb
          · rw [ea, eb]
          · exact absurd (List.mem_map.2 ⟨b, hb, by rw [← e, ea]⟩) hn.1
        · rcases List.mem_cons.1 hb with eb | hb
          · exact absurd (List.mem_map.2 ⟨a, ha, by rw [e, eb]⟩) hn.1
          · exact ih hn.2 ha hb e
    exact Subtype.ext (this hnd x.2 y.2 h3)
  have hcon := Any.slices_SortFunc_total Tryz.sortF (amEnc l) (fun _ => rfl) (amCmp l) (am_swo l) 116 #[] blk 0 cap d w eg hcmp hH (lt_of_block hb) (by rw [hds]; omega) hT
  change Calls Tryz.prog 115 _ _ _ at hcon
  rw [hds] at hcon
  refine hcon.mono ?_
  rintro e w' ⟨rfl, n, os, rfl⟩
  obtain ⟨ms, hms⟩ : ∃ ms, ms = d.toList.mergeSort (fun x y => !ltOf (amCmp l) y x) := ⟨_, rfl⟩
  rw [← hms]
  have hmp : ms.Perm d.toList := by rw [hms]; exact List.mergeSort_perm _ _
  have hml : ms.toArray.size = d.size := by rw [List.size_toArray, hmp.length_eq, Array.length_toList]
  have hso : ms.Pairwise (fun x y => (!ltOf (amCmp l) y x) = true) := by
    rw [hms]
    refine List.pairwise_mergeSort (fun a b c h1 h2 => ?_) (fun a b => ?_) _
    · rw [am_lt] at *; simp at *; omega
    · rw [am_lt, am_lt]; simp; omega
  have ho := sortWorld_only (amEnc l) w blk 0 n ms.toArray os
  refine ⟨rfl, ho, ms.map (·.1), ?_, ?_, ?_⟩
  · have := hmp.map (·.1)
    rw [hdl] at this
    exact this
  · rw [List.pairwise_map]
    have hnd2 : (ms.map (·.1)).map (·.turn) |>.Nodup := by
      have h1 := (hmp.map (·.1)).map (·.turn)
      rw [hdl] at h1
      exact h1.nodup_iff.2 hnd
    rw [List.map_map] at hnd2
    have hnd3 : ms.Pairwise (fun x y => x.1.turn ≠ y.1.turn) := List.pairwise_map.1 hnd2
    refine List.Pairwise.imp₂ (fun x y h1 h2 => ?_) hso hnd3
    rw [am_lt] at h1
    simp at h1
    omega
  · have hHr := (SW.holds (enc := amEnc l) (w0 := w) (blk := blk) (off := 0) (dk := ms.toArray) ⟨n, os, rfl⟩ (lt_of_block hb) hH hml)
    obtain ⟨cur', hcur⟩ : ∃ cur', (sortWorld (amEnc l) w blk 0 n ms.toArray os).heap[blk]? = some (.cells cur' 121 (0, 0)) := by
      have h1 : (putRow (amEnc l) (Sort.ahead w n) blk 0 ms.toArray).heap[blk]? = some (.cells (putCells (amEnc l) 0 ms.toArray cur) 121 (0, 0)) := by
        simp only [putRow, mapBlock, Array.getElem?_modify]
        rw [if_pos trivial]
        have h2 : (Sort.ahead w n).heap[blk]? = some (.cells cur 121 (0, 0)) := hb
        rw [h2]
        rfl
      exact ⟨_, old_below h1 (grow_below _ _)⟩
    refine ⟨cur', hcur, fun j x hj => ?_⟩
    rw [List.getElem?_map] at hj
    obtain ⟨a, ha, rfl⟩ := Option.map_eq_some_iff.1 hj
    have hjl : j < ms.toArray.size := by rw [List.size_toArray]; exact (List.getElem?_eq_some_iff.1 ha).1
    have := (hHr j hjl).1
    rw [Nat.zero_add, cell_at hcur] at this
    rw [this, getElem!_pos ms.toArray j hjl]
    have e2 : (ms.toArray)[j]'hjl = a := by
      have := (List.getElem?_eq_some_iff.1 ha).2
      simpa using this
    rw [e2]
    rfl

end Go.Proofs.YtbkngnjkaledlaaGreat.P4
