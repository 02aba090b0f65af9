/-
  Texts of the proof of SaidPlay8b.
-/
import Derived.Test.YtbkngnjkaledlaaGreatMp05
set_option maxHeartbeats 8000000
set_option maxRecDepth 100000
namespace Go.Proofs.YtbkngnjkaledlaaGreat.P4
open Go Go.RowKit Go.Lib Go.Maps Go.ChangeMaps Go.MapKept P3 Go.Sort
theorem closure_any (W : World) (a b : Nat) (x y : Int) (ha : W.cell? ⟨a, 0, none⟩ = some (.int .i64 x)) (hb : W.cell? ⟨b, 0, none⟩ = some (.int .i64 y)) :
  Calls Tryz.prog 116 #[.pointer (some ⟨a, 0, none⟩), .pointer (some ⟨b, 0, none⟩)] W fun e w' => e = .returned (.int .i64 (Lib.compareInt x y)) ∧ ∃ q, w' = W.drewN q := by
 have hcon := Tryz.cmp_Compare_int x y
 generalize Lib.compareInt x y = r at hcon ⊢
 have H := Lib.hid hcon
 clear hcon
 go_enter Tryz.func116, Tryz.ntmps116
 go_wp2
 go_quiet ((go_at_call 117; exact Calls.quiet_of_same (H.out _)))
 go_wp2
 go_ret
 exact ⟨rfl, _, rfl⟩
theorem mapBlock_only (w : World) (blk : Nat) (f : Array Value → Array Value) : Only blk w (mapBlock w blk f) := by
 refine ⟨rfl, rfl, rfl, by simp [mapBlock], fun k hk hne => ?_⟩
 simp only [mapBlock, Array.getElem?_modify]
 rw [if_neg (fun e => hne e.symm)]
theorem grow_below (w : World) (os : Array Obj) : Below w.heap.size w (Go.Sort.grow w os) := by
 refine ⟨rfl, rfl, rfl, by simp [Go.Sort.grow], fun k hk => ?_⟩
 simp only [Go.Sort.grow]
 rw [Array.getElem?_append_left hk]
theorem sortWorld_only {α : Type} [Inhabited α] (enc : α → Value) (w : World) (blk off m : Nat) (d : Array α) (os : Array Obj) : Only blk w (sortWorld enc w blk off m d os) := by
 have h1 : Only blk w (Sort.ahead w m) := ⟨rfl, rfl, rfl, Nat.le_refl _, fun _ _ _ => rfl⟩
 exact (h1.trans (mapBlock_only _ blk _)).trans (.of (grow_below _ _))
abbrev Among (l : List Wr) := { x : Wr // x ∈ l }
def amEnc (l : List Wr) (x : Among l) : Value := .pointer (some ⟨x.1.b, 0, none⟩)
def amCmp (l : List Wr) (x y : Among l) : Int := Lib.compareInt x.1.turn y.1.turn
theorem am_lt (l : List Wr) (x y : Among l) : ltOf (amCmp l) x y = decide (x.1.turn < y.1.turn) := by
 unfold ltOf amCmp Lib.compareInt
 by_cases h : x.1.turn < y.1.turn
 ·rw [if_pos (by omega)]; simp [h]
 ·rw [if_neg (by omega)]
  split <;> simp [h]
theorem am_swo (l : List Wr) : SWO (ltOf (amCmp l)) := by
 refine ⟨fun x => ?_, fun x y z => ?_, fun x y z => ?_⟩ <;> simp only [am_lt, decide_eq_true_eq, decide_eq_false_iff_not]
 ·omega
 ·omega
 ·omega
structure RowOf (w : World) (lo : Nat) (v : Value) (ys : List Wr) : Prop where
 shape : ∃ a cap, v = .slice a ys.length cap
 cells : ys ≠ [] → ∃ (blk cap : Nat) (cur : Array Value), v = .slice (some ⟨blk, 0, none⟩) ys.length cap ∧ lo ≤ blk ∧ w.heap[blk]? = some (.cells cur 121 (0, 0)) ∧ ∀ (j : Nat) (x : Wr), ys[j]? = some x → cur[j]? = some (Value.pointer (some ⟨x.b, 0, none⟩))
theorem sort_rows (w : World) (blk cap : Nat) (l : List Wr) (cur : Array Value) (hne : l ≠ []) (hnd : (l.map (·.turn)).Nodup) (hb : w.heap[blk]? = some (.cells cur 121 (0, 0))) (hc : ∀ (j : Nat) (x : Wr), l[j]? = some x → cur[j]? = some (Value.pointer (some ⟨x.b, 0, none⟩)))
  (hw : ∀ x ∈ l, ∃ c : Array Value, w.heap[x.b]? = some (.cells c 123 (0, 0)) ∧ c[0]? = some (.int .i64 x.turn)) (hl : l.length ≤ 1000000) :
  Calls Tryz.prog 115 #[.slice (some ⟨blk, 0, none⟩) l.length cap, .func (.func 116) #[] #[]] w fun e w' => e = .returned (.tuple #[]) ∧ Only blk w w' ∧
   ∃ ys : List Wr, ys.Perm l ∧ ys.Pairwise (fun x y => x.turn < y.turn) ∧ ∃ cur' : Array Value, w'.heap[blk]? = some (.cells cur' 121 (0, 0)) ∧ ∀ (j : Nat) (x : Wr), ys[j]? = some x → cur'[j]? = some (Value.pointer (some ⟨x.b, 0, none⟩)) := by
 obtain ⟨x0, hx0⟩ : ∃ x0, x0 ∈ l := List.exists_mem_of_ne_nil l hne
 letI : Inhabited (Among l) := ⟨⟨x0, hx0⟩⟩
 obtain ⟨d, hd⟩ : ∃ d : Array (Among l), d = l.attach.toArray := ⟨_, rfl⟩
 have hds : d.size = l.length := by rw [hd]; simp
 have hdl : d.toList.map (·.1) = l := by rw [hd]; simp
 have hdj : ∀ j, j < d.size → l[j]? = some (d[j]!).1 := by
  intro j hj
  have h1 : (d.toList.map (·.1))[j]? = some (d[j]!).1 := by
   rw [List.getElem?_map, Array.getElem?_toList, getElem!_pos d j hj, Array.getElem?_eq_getElem hj]
   rfl
  have h2 : (d.toList.map (·.1))[j]? = l[j]? := congrArg (fun m : List Wr => m[j]?) hdl
  exact h2.symm.trans h1
 have hH : Holds (amEnc l) w blk 0 d := by
  intro j hj
  rw [Nat.zero_add]
  exact ⟨by rw [cell_at hb, hc j _ (hdj j hj)]; rfl, free_at hb j⟩
 have eg : ∀ args w, (callFunc 116 args).run Tryz.prog w = .ok (.enter 116 args) w := fun args w => enters Tryz.func116 (by kernel_rfl) rfl args w
 have hcmp : CmpLays1 Tryz.prog 116 #[] (amEnc l) (amCmp l) blk 0 d.size w := by
  refine CmpReads.lays (fun m os dk hs x y => ?_)
  have ho := sortWorld_only (amEnc l) w blk 0 m dk os
  have hr : ∀ z : Among l, (sortWorld (amEnc l) w blk 0 m dk os).cell? ⟨z.1.b, 0, none⟩ = some (.int .i64 z.1.turn) := by
   intro z
   obtain ⟨c, h1, h2⟩ := hw z.1 z.2
   rw [cell_at (ho.keep h1 (block_ne h1 hb (by decide)))]
   exact h2
  exact closure_any _ _ _ _ _ (hr x) (hr y)
 have hT : ∀ x y : Among l, ltOf (amCmp l) x y = false → ltOf (amCmp l) y x = false → x = y := by
  intro x y h1 h2
  rw [am_lt] at h1 h2
  have h3 : x.1.turn = y.1.turn := by simp at h1 h2; omega
  have : ∀ {l : List Wr}, (l.map (·.turn)).Nodup → ∀ {a b : Wr}, a ∈ l → b ∈ l → a.turn = b.turn → a = b := by
   intro l
   induction l with
   | nil => intro _ a b ha; simp at ha
   | cons p r ih =>
    intro hn a b ha hb e
    rw [List.map_cons, List.nodup_cons] at hn
    rcases List.mem_cons.1 ha with ea | ha
    ·rcases List.mem_cons.1 hb with eb | hb
     ·rw [ea, eb]
     ·exact absurd (List.mem_map.2 ⟨b, hb, by rw [← e, ea]⟩) hn.1
    ·rcases List.mem_cons.1 hb with eb | hb
     ·exact absurd (List.mem_map.2 ⟨a, ha, by rw [e, eb]⟩) hn.1
     ·exact ih hn.2 ha hb e
  exact Subtype.ext (this hnd x.2 y.2 h3)
 have hcon := Any.slices_SortFunc_total Tryz.sortF (amEnc l) (fun _ => rfl) (amCmp l) (am_swo l) 116 #[] blk 0 cap d w eg hcmp hH (lt_of_block hb) (by rw [hds]; omega) hT
 change Calls Tryz.prog 115 _ _ _ at hcon
 rw [hds] at hcon
 refine hcon.mono ?_
 rintro e w' ⟨rfl, n, os, rfl⟩
 obtain ⟨ms, hms⟩ : ∃ ms, ms = d.toList.mergeSort (fun x y => !ltOf (amCmp l) y x) := ⟨_, rfl⟩
 rw [← hms]
 have hmp : ms.Perm d.toList := by rw [hms]; exact List.mergeSort_perm _ _
 have hml : ms.toArray.size = d.size := by rw [List.size_toArray, hmp.length_eq, Array.length_toList]
 have hso : ms.Pairwise (fun x y => (!ltOf (amCmp l) y x) = true) := by
  rw [hms]
  refine List.pairwise_mergeSort (fun a b c h1 h2 => ?_) (fun a b => ?_) _
  ·rw [am_lt] at *; simp at *; omega
  ·rw [am_lt, am_lt]; simp; omega
 have ho := sortWorld_only (amEnc l) w blk 0 n ms.toArray os
 refine ⟨rfl, ho, ms.map (·.1), ?_, ?_, ?_⟩
 ·have := hmp.map (·.1)
  rw [hdl] at this
  exact this
 ·rw [List.pairwise_map]
  have hnd2 : (ms.map (·.1)).map (·.turn) |>.Nodup := by
   have h1 := (hmp.map (·.1)).map (·.turn)
   rw [hdl] at h1
   exact h1.nodup_iff.2 hnd
  rw [List.map_map] at hnd2
  have hnd3 : ms.Pairwise (fun x y => x.1.turn ≠ y.1.turn) := List.pairwise_map.1 hnd2
  refine List.Pairwise.imp₂ (fun x y h1 h2 => ?_) hso hnd3
  rw [am_lt] at h1
  simp at h1
  omega
 ·have hHr := (SW.holds (enc := amEnc l) (w0 := w) (blk := blk) (off := 0) (dk := ms.toArray) ⟨n, os, rfl⟩ (lt_of_block hb) hH hml)
  obtain ⟨cur', hcur⟩ : ∃ cur', (sortWorld (amEnc l) w blk 0 n ms.toArray os).heap[blk]? = some (.cells cur' 121 (0, 0)) := by
   have h1 : (putRow (amEnc l) (Sort.ahead w n) blk 0 ms.toArray).heap[blk]? = some (.cells (putCells (amEnc l) 0 ms.toArray cur) 121 (0, 0)) := by
    simp only [putRow, mapBlock, Array.getElem?_modify]
    rw [if_pos trivial]
    have h2 : (Sort.ahead w n).heap[blk]? = some (.cells cur 121 (0, 0)) := hb
    rw [h2]
    rfl
   exact ⟨_, old_below h1 (grow_below _ _)⟩
  refine ⟨cur', hcur, fun j x hj => ?_⟩
  rw [List.getElem?_map] at hj
  obtain ⟨a, ha, rfl⟩ := Option.map_eq_some_iff.1 hj
  have hjl : j < ms.toArray.size := by rw [List.size_toArray]; exact (List.getElem?_eq_some_iff.1 ha).1
  have := (hHr j hjl).1
  rw [Nat.zero_add, cell_at hcur] at this
  rw [this, getElem!_pos ms.toArray j hjl]
  have e2 : (ms.toArray)[j]'hjl = a := by
   have := (List.getElem?_eq_some_iff.1 ha).2
   simpa using this
  rw [e2]
  rfl
end Go.Proofs.YtbkngnjkaledlaaGreat.P4
namespace Go.Proofs.YtbkngnjkaledlaaGreat.P4
open Go Go.RowKit Go.Lib Go.Maps Go.ChangeMaps Go.MapKept P3
def allW (L : Files) : List Wr := L.flatMap fun p => p.2.ws
theorem allW_perm {L M : Files} (h : L.Perm M) : (allW L).Perm (allW M) := h.flatMap_right _
theorem allW_mem {L : Files} {x : Wr} : x ∈ allW L ↔ ∃ p ∈ L, x ∈ p.2.ws := by simp [allW]
def pv (x : Wr) : Value := .pointer (some ⟨x.b, 0, none⟩)
theorem infoPW : (Tryz.prog.info? 121).map (fun i => (i.zero, i.size, i.bytes)) = some (some (.pointer none), 1, 8) := by kernel_rfl
theorem rng_grown {w w' : World} {b r : Nat} {L : Dir} {lf : List UInt8 → Bool} {cnt lo n : Nat} {e : TypeId} {v : Value} {xs : List Value} (h : Rng w b r L lf cnt) (hr : w.ownsRow lo e 1 v n xs) (hg : w.grownBy w' v.ownBlock) : Rng w' b r L lf cnt := by
 have hno : ∀ k, v.ownBlock = some k → ∃ c, w.heap[k]? = some (.cells c e (0, 0)) := by
  intro k hk
  rcases hr.2 with ⟨rfl, _⟩ | ⟨g, cap, cur, rfl, _, h2, _⟩
  ·cases hk
  ·obtain rfl : g = k := by simpa [Value.ownBlock] using hk
   exact ⟨_, h2⟩
 obtain ⟨n', D, left, ⟨es, clock, since, seen, c0, h1, h2, h3, h4, h5, rest⟩, hl, he⟩ := h
 refine ⟨n', D, left, ⟨es, clock, since, seen, c0, ?_, h2, h3, h4, ?_, rest⟩, hl, he⟩
 ·rw [hg.block b (lt_of_block h1) (fun e2 => ?_)]
  ·exact h1
  ·obtain ⟨c, hc⟩ := hno b e2.symm
   rw [h1] at hc; cases hc
 ·rw [hg.block r (lt_of_block h5) (fun e2 => ?_)]
  ·exact h5
  ·obtain ⟨c, hc⟩ := hno r e2.symm
   rw [h5] at hc; cases hc
theorem allW_length (L : Files) : (allW L).length = sumOf (fun F => F.ws.length) L := by
 unfold allW sumOf
 rw [List.length_flatMap]
theorem sum_mono {g : Fl → Nat} {M L : Files} (h : M.Sublist L) : sumOf g M ≤ sumOf g L := by
 induction h with
 | slnil => exact Nat.le_refl _
 | cons p _ ih => rw [sum_cons]; omega
 | cons_cons p _ ih => rw [sum_cons, sum_cons]; omega
theorem rng_ne {w : World} {b r : Nat} {L : Dir} {lf : List UInt8 → Bool} {cnt lo n : Nat} {e : TypeId} {v : Value} {xs : List Value} (h : Rng w b r L lf cnt) (hr : w.ownsRow lo e 1 v n xs) : ∀ k, v.ownBlock = some k → k ≠ b ∧ k ≠ r := by
 intro k hk
 obtain ⟨n', D, left, ⟨es, clock, since, seen, c0, h1, h2, h3, h4, h5, rest⟩, hl, he⟩ := h
 rcases hr.2 with ⟨rfl, _⟩ | ⟨g, cap, cur, rfl, _, h6, _⟩
 ·cases hk
 ·obtain rfl : g = k := by simpa [Value.ownBlock] using hk
  refine ⟨?_, ?_⟩
  ·rintro rfl; rw [h1] at h6; cases h6
  ·rintro rfl; rw [h5] at h6; cases h6
theorem owns_only {w w' : World} {lo r n z : Nat} {e : TypeId} {v : Value} {xs : List Value} (hr : w.ownsRow lo e z v n xs) (ho : Only r w w') (hne : ∀ k, v.ownBlock = some k → k ≠ r) : w'.ownsRow lo e z v n xs := by
 refine ⟨hr.1, ?_⟩
 rcases hr.2 with h | ⟨g, cap, cur, rfl, h1, h2, h3⟩
 ·exact .inl h
 ·exact .inr ⟨g, cap, cur, rfl, h1, ho.keep h2 (hne g rfl), h3⟩
theorem below_grown {a w w' : World} {v : Value} {e : TypeId} {n z : Nat} {xs : List Value} (h : Below a.heap.size a w) (hr : w.ownsRow a.heap.size e z v n xs) (hg : w.grownBy w' v.ownBlock) : Below a.heap.size a w' :=
 ⟨hg.os.trans h.os, hg.tape.trans h.tape, hg.output.trans h.output, Nat.le_trans h.size hg.size, fun k hk => by
  have hs := h.size
  rw [hg.block k (by omega) (fun e2 => by have := (hr.lt k e2.symm).1; omega)]
  exact h.block k hk⟩
def WritesPost (w : World) (L : Files) (e : Ending) (w' : World) : Prop :=
 ∃ v ys, e = .returned v ∧ ys.Perm (allW L) ∧ ys.Pairwise (fun x y => x.turn < y.turn) ∧ RowOf w' w.heap.size v ys ∧ Below w.heap.size w w'
theorem sort_none (p : Option Addr) (cap : Nat) (fv : Value) (w : World) : Calls Tryz.prog 115 #[.slice p 0 cap, fv] w fun e w' => e = .returned (.tuple #[]) ∧ w' = w :=
 AnyF.slices_SortFunc_none { Tryz.sortF with } p cap fv w
theorem sort_end {w wr : World} {L : Files} {v : Value} {xs : List Wr} (hF : FilesAt w L) (hnd : ((allW L).map (·.turn)).Nodup) (hp : xs.Perm (allW L)) (hown : wr.ownsRow w.heap.size 121 1 v xs.length (xs.map pv)) (hB : Below w.heap.size w wr) (hl : (allW L).length ≤ 100000) :
  Calls Tryz.prog 115 #[v, .func (.func 116) #[] #[]] wr fun e w' => e = .returned (.tuple #[]) ∧ ∃ ys : List Wr, ys.Perm (allW L) ∧ ys.Pairwise (fun x y => x.turn < y.turn) ∧ RowOf w' w.heap.size v ys ∧ Below w.heap.size w w' := by
 by_cases hx : xs = []
 ·subst hx
  obtain ⟨a, cap, rfl⟩ : ∃ a cap, v = .slice a 0 cap := by
   rcases hown.2 with ⟨rfl, _⟩ | ⟨g, cap, cur, rfl, _⟩
   ·exact ⟨_, _, rfl⟩
   ·exact ⟨_, _, rfl⟩
  refine (sort_none a cap _ wr).mono ?_
  rintro e w' ⟨rfl, rfl⟩
  exact ⟨rfl, [], hp, List.Pairwise.nil, ⟨⟨_, _, rfl⟩, fun h => absurd rfl h⟩, hB⟩
 ·rcases hown.2 with ⟨_, h0⟩ | ⟨g, cap, cur, rfl, hlo, hg, hcap, hmx, hcs, hct⟩
  ·exact absurd (List.length_eq_zero_iff.1 h0) hx
  have hnx : (xs.map (·.turn)).Nodup := (hp.map _).nodup_iff.2 hnd
  have hlx : xs.length ≤ 100000 := by rw [hp.length_eq]; exact hl
  have hc : ∀ (j : Nat) (x : Wr), xs[j]? = some x → cur[j]? = some (Value.pointer (some ⟨x.b, 0, none⟩)) := by
   intro j x hj
   have hjl := (List.getElem?_eq_some_iff.1 hj).1
   have h1 : (cur.toList.take (xs.length * 1))[j]? = (xs.map pv)[j]? := by rw [hct]
   rw [List.getElem?_take_of_lt (by omega), List.getElem?_map, hj, Array.getElem?_toList] at h1
   exact h1
  have hw : ∀ x ∈ xs, ∃ c : Array Value, wr.heap[x.b]? = some (.cells c 123 (0, 0)) ∧ c[0]? = some (.int .i64 x.turn) := by
   intro x hx
   obtain ⟨p, hpL, hxw⟩ := allW_mem.1 (hp.mem_iff.1 hx)
   obtain ⟨a, h, hwa⟩ := seg_mem ((hF p hpL).below hB).seg x hxw
   exact ⟨_, hwa, rfl⟩
  refine (sort_rows wr g cap xs cur hx hnx hg hc hw (by omega)).mono ?_
  rintro e w' ⟨rfl, ho, ys, hy, hs, cur', h1, h2⟩
  refine ⟨rfl, ys, hy.trans hp, hs, ⟨⟨_, cap, by rw [hy.length_eq]⟩, fun _ => ⟨g, cap, cur', by rw [hy.length_eq], hlo, h1, h2⟩⟩, Only.new hB ho hlo⟩
theorem writes_some (w : World) (d b : Nat) (L : Files) (c0 : w.cell? ⟨d, 0, none⟩ = some (.map (some b))) (hm : MapAt w (some b) (dir L)) (hn : (L.map (·.1)).Nodup) (hF : FilesAt w L) (hnd : ((allW L).map (·.turn)).Nodup) (hl : (allW L).length ≤ 100000) :
  Calls Tryz.prog 80 #[.pointer (some ⟨d, 0, none⟩)] w (WritesPost w L) := by
 obtain ⟨i0, hi, hz0, hz1, hz2⟩ := info_parts infoPW
 have HM := Lib.hid hm
 have HF := Lib.hid hF
 have HN := Lib.hid hn
 have HND := Lib.hid hnd
 have HLn := Lib.hid hl
 have hbl : b < w.heap.size := by
  rcases hm with ⟨h, _⟩ | ⟨b', D, e, ho, _⟩
  ·cases h
  ·obtain rfl : b = b' := by simpa using e
   exact ho.lt
 clear hm hF hn hnd hl
 go_enter Tryz.func80, Tryz.ntmps80
 go_wp2_with (at_range; refine wpList_range_sf rfl _ rfl b (dir L) rfl HM.out ?_; intro w0 hr0 hb0 hs0; clear hs0)
 go_frame
 have HR0 := Lib.hid hr0
 have HB0 := Lib.hid hb0
 clear hr0 hb0
 go_loopw [3] (fun v wr => ∃ (lf : List UInt8 → Bool) (cnt : Nat) (xs : List Wr), Hid (Rng wr b w.heap.size (dir L) lf cnt) ∧ Hid (xs.Perm (allW (doneL L lf))) ∧ Hid (wr.ownsRow w.heap.size 121 1 v xs.length (xs.map pv)) ∧ Hid (Below w.heap.size w wr)) (fun _ wr => wr.rangeLeft b w.heap.size)
 case atStart => exact ⟨_, _, [], HR0.out, by rw [done_none HN.out]; exact List.Perm.refl _, World.ownsRow_nil _ _ _ _, HB0.out⟩
 case round =>
  clear HR0 HB0
  obtain ⟨lf, cnt, xs, hR, hP, hO, hB⟩ := hrel
  go_wp2_with (at_next; refine wpList_next_sf rfl _ rfl b w.heap.size (dir L) lf cnt rfl hR.out ?_ ?_)
  ·intro hno
   have hp : xs.Perm (allW L) := by have := hP.out; rw [done_all hno] at this; exact this
   have HS := Lib.hid (sort_end HF.out HND.out hp hO.out hB.out HLn.out)
   clear hp hno hB hR hP hO
   go_wp2_with (go_at_call 115; (with_reducible refine HS.out.mono ?_); rintro e w2 ⟨rfl, hys⟩; have HY := Lib.hid hys; clear hys)
   go_ret
   obtain ⟨ys, h1, h2, h3, h4⟩ := HY.out
   exact ⟨_, ys, rfl, h1, h2, h3, h4⟩
  ·intro s fb w1 cnt1 hs hm hlf hR1 hlt ho1 hs1 hen
   obtain ⟨F, hFm, rfl⟩ := dir_mem hm
   have hB1 : Below w.heap.size w w1 := Only.new hB.out ho1 (Nat.le_refl _)
   have hFA := (HF.out _ hFm).below hB1
   have hFl := (HF.out _ hFm).lt
   have hst := allW_perm (done_step hlf HN.out hFm)
   have hst2 : (allW (doneL L (fun k => lf k && !(k == s.data.toList)))).Perm (F.ws ++ allW (doneL L lf)) := hst
   have hO1 : w1.ownsRow w.heap.size 121 1 u3 xs.length (xs.map pv) := owns_only hO.out ho1 (fun k hk => (rng_ne hR.out hO.out k hk).2)
   have HFl := Lib.hid hFl
   have HFm := Lib.hid hFm
   have HFA := Lib.hid hFA
   have HST := Lib.hid hst2
   have HR1 := Lib.hid hR1
   have HB1 := Lib.hid hB1
   have HO1 := Lib.hid hO1
   have hlr := hR.out.left
   have HLT : Hid (cnt1 < wr.rangeLeft b w.heap.size) := by rw [hlr]; exact hlt
   have hlen : F.ws.length + xs.length ≤ 100000 := by
    have h1 := hst2.length_eq
    rw [List.length_append, ← hP.out.length_eq, allW_length] at h1
    have h2 := sum_mono (g := fun F => F.ws.length) (M := doneL L (fun k => lf k && !(k == s.data.toList))) (L := L) List.filter_sublist
    have h3 := HLn.out
    rw [allW_length] at h3
    omega
   obtain ⟨p, hp⟩ := ptr_shape (hd F.ws none)
   have c3 : w1.cell? ⟨F.b, 3, none⟩ = some (.pointer p) := (cell_at hFA.blk 3).trans (by show some (ptr (hd F.ws none)) = _; rw [hp])
   have HP := Lib.hid hp
   clear hs hm hlf hR1 hlt ho1 hs1 hFm hB1 hFA hst hst2 hlr hB hR hO hO1 hFl hp
   go_wp2
   clear c3
   go_loopg [3, 6] (F.ws.length) (fun q vl v wx => ∃ l r, F.ws = l ++ r ∧ r.length ≤ q ∧ v = ptr (hd r none) ∧ Hid (wx.ownsRow w.heap.size 121 1 vl (xs ++ l).length ((xs ++ l).map pv)) ∧ Hid (Below w.heap.size w wx) ∧ Hid (Rng wx b w.heap.size (dir L) (fun k => lf k && !(k == s.data.toList)) cnt1))
   case atStart => exact ⟨[], F.ws, rfl, Nat.le_refl _, HP.out.symm, by rw [List.append_nil]; exact HO1.out, HB1.out, HR1.out⟩
   case round =>
    clear HR1 HB1 HO1
    obtain ⟨l, r, hlr, hgr, rfl, hO2, hB2, hR2⟩ := hrel
    have HLR := Lib.hid hlr
    have hlen2 : l.length + r.length = F.ws.length := by rw [hlr, List.length_append]
    clear hlr
    cases r with
    | nil =>
     rw [show ptr (hd [] none) = .pointer none from rfl]
     have hll : F.ws = l := by have := HLR.out; rw [List.append_nil] at this; exact this
     have hPP : Hid ((xs ++ l).Perm (allW (doneL L (fun k => lf k && !(k == s.data.toList))))) := by
      have h1 := HST.out
      rw [hll] at h1
      exact ((hP.out.append_right l).trans List.perm_append_comm).trans h1.symm
     clear hll hgr
     go_wp2
     go_roundw
     case rel => exact ⟨_, _, xs ++ l, hR2.out, hPP.out, hO2.out, hB2.out⟩
     case measure => rw [hR2.out.left]; exact HLT.out
    | cons x r =>
     have hx : x ∈ F.ws := by rw [HLR.out]; simp
     have hxlt := HFl.out x.b (.inr (.inr ⟨x, hx, rfl⟩))
     have hseg := HFA.out.seg
     rw [HLR.out, seg_app] at hseg
     have hxa : WrAt _ x (lst none l) (hd r none) := hseg.2.1
     obtain ⟨p2, hp2⟩ := ptr_shape (hd r none)
     have HX : Hid (∀ wy : World, Below w.heap.size w wy → wy.cell? ⟨x.b, 5, none⟩ = some (.pointer p2)) := by
      intro wy hy
      have h1 := ((HF.out _ HFm.out).seg)
      rw [HLR.out, seg_app] at h1
      have h2 : WrAt w x (lst none l) (hd r none) := h1.2.1
      rw [(heap_ext (hy.block x.b hxlt) 5).1, cell_at h2]
      show some (ptr (hd r none)) = _
      rw [hp2]
     have HP2 := Lib.hid hp2
     rw [show ptr (hd (x :: r) none) = .pointer (some ⟨x.b, 0, none⟩) from rfl]
     clear hseg hxa hp2 hx hxlt
     go_wp2_with (at_builtin; refine wpList_append_own _ rfl _ _ 119 rfl w.heap.size 121 i0 (.pointer none) 1 8 Tryz.underlying119 hi hz0 hz1 hz2 rfl (by decide) _ (xs ++ l).length ((xs ++ l).map pv) rfl (hO2.out.alloc _) ⟨wr.heap.size, 0, none⟩ 1 1 [pv x] rfl rfl ?c1 ?c2 ?c3 ?c4 ?c5 ?_)
     case c1 => exact World.news_of_block (heap_alloc_new wr _)
     case c2 => intro u hu; simp [pv] at hu; subst hu; rfl
     case c3 => rw [List.length_append]; simp at hlen2; unfold maxLen; omega
     case c4 => rw [List.length_append]; simp at hlen2; omega
     case c5 => have := hB2.out.size; simp; omega
     intro v' w4 hown' hgrow _
     have hB3 : Below w.heap.size w (wr.alloc (.cells #[pv x] 121)) := grow hB2.out _
     have hO3 := World.ownsRow.alloc hO2.out (.cells #[pv x] 121)
     have HB4 : Hid (Below w.heap.size w w4) := below_grown hB3 hO3 hgrow
     have HR4 : Hid (Rng w4 b w.heap.size (dir L) (fun k => lf k && !(k == s.data.toList)) cnt1) := rng_grown (hR2.out.fr (S := fun _ => False) (.of (below_new _ _)) id id) hO3 hgrow
     have HO4 : Hid (w4.ownsRow w.heap.size 121 1 v' (xs ++ (l ++ [x])).length ((xs ++ (l ++ [x])).map pv)) := by
      have e1 : xs ++ (l ++ [x]) = (xs ++ l) ++ [x] := by simp
      have e2 : (xs ++ (l ++ [x])).length = xs.length + l.length + 1 := by simp; omega
      have e3 : (xs ++ (l ++ [x])).map pv = List.map pv xs ++ (List.map pv l ++ [pv x]) := by simp
      rw [e2, e3]
      exact hown'
     have x5 := HX.out w4 HB4.out
     clear hown' hgrow hB3 hO3 hO2 hB2 hR2
     go_wp2
     go_roundg (r.length)
     case measure => simp at hgr; omega
     case rel => exact ⟨l ++ [x], r, by rw [HLR.out]; simp, Nat.le_refl _, HP2.out.symm, HO4.out, HB4.out, HR4.out⟩
end Go.Proofs.YtbkngnjkaledlaaGreat.P4
namespace Go.Proofs.YtbkngnjkaledlaaGreat.P4
open Go Go.RowKit Go.Lib P3
def zeros : ByteArray := ⟨(List.replicate 256 (0 : UInt8)).toArray⟩
theorem zeros_size : zeros.size = 256 := by
 show (List.replicate 256 (0 : UInt8)).toArray.size = 256
 rw [List.size_toArray, List.length_replicate]
def torn (k : Nat) (d s : ByteArray) : ByteArray := d.extract 0 k ++ s.extract k s.size
theorem torn_size {k : Nat} {d s : ByteArray} (hd : d.size = 256) (hs : s.size = 256) (hk : k ≤ 256) : (torn k d s).size = 256 := by
 unfold torn
 rw [ByteArray.size_append, ByteArray.size_extract, ByteArray.size_extract]
 omega
def setPad (S : List ByteArray) (p : Nat) (v : ByteArray) : List ByteArray := (S ++ List.replicate (p + 1 - S.length) zeros).set p v
def keepOne (S : List ByteArray) (x : Nat × Nat × ByteArray) : List ByteArray := if x.1 = 0 then S else setPad S x.2.1 (torn x.1 x.2.2 (S.getD x.2.1 zeros))
def keepAll (S : List ByteArray) (l : List (Nat × Nat × ByteArray)) : List ByteArray := l.foldl keepOne S
theorem keepAll_snoc (S : List ByteArray) (l : List (Nat × Nat × ByteArray)) (x : Nat × Nat × ByteArray) : keepAll S (l ++ [x]) = keepOne (keepAll S l) x := by simp [keepAll]
theorem setPad_length (S : List ByteArray) (p : Nat) (v : ByteArray) : (setPad S p v).length = max S.length (p + 1) := by
 unfold setPad
 rw [List.length_set, List.length_append, List.length_replicate]
 omega
theorem setPad_at (S : List ByteArray) (p : Nat) (v : ByteArray) (i : Nat) : (setPad S p v).getD i zeros = if i = p then v else S.getD i zeros := by
 unfold setPad
 rw [List.getD_eq_getElem?_getD, List.getElem?_set]
 by_cases h : p = i
 ·subst h
  rw [if_pos rfl, if_pos rfl, if_pos (by rw [List.length_append, List.length_replicate]; omega)]
  rfl
 ·rw [if_neg h, if_neg (fun e => h e.symm), List.getD_eq_getElem?_getD]
  by_cases h2 : i < S.length
  ·rw [List.getElem?_append_left h2]
  ·rw [List.getElem?_append_right (by omega), List.getElem?_eq_none (l := S) (by omega), List.getElem?_replicate]
   split <;> rfl
def Sec.back (s : Sec) : Sec := ⟨if s.safe.size = 0 then zeros else s.safe, s.safe, s.top⟩
def Sec.tear (k : Nat) (d : ByteArray) (s : Sec) : Sec := ⟨torn k d s.now, s.safe, s.top⟩
def tearOne (S : List Sec) (x : Wr) : List Sec := if x.kept = 0 then S else S.modify x.pos (Sec.tear x.kept x.data)
def sizeOne (n : Nat) (x : Wr) : Nat := if x.kept = 0 then n else max n (x.pos + 1)
def tearAll (S : List Sec) (l : List Wr) : List Sec := l.foldl tearOne S
def sizeAll (n : Nat) (l : List Wr) : Nat := l.foldl sizeOne n
theorem tearAll_snoc (S : List Sec) (l : List Wr) (x : Wr) : tearAll S (l ++ [x]) = tearOne (tearAll S l) x := by simp [tearAll]
theorem sizeAll_snoc (n : Nat) (l : List Wr) (x : Wr) : sizeAll n (l ++ [x]) = sizeOne (sizeAll n l) x := by simp [sizeAll]
theorem tearOne_length (S : List Sec) (x : Wr) : (tearOne S x).length = S.length := by
 unfold tearOne; split <;> simp
theorem tearAll_length (S : List Sec) (l : List Wr) : (tearAll S l).length = S.length := by
 induction l generalizing S with
 | nil => rfl
 | cons x r ih =>
  show (tearAll (tearOne S x) r).length = _
  rw [ih, tearOne_length]
def Wr.trip (x : Wr) : Nat × Nat × ByteArray := (x.kept, x.pos, x.data)
structure Like (S : List Sec) (n : Nat) (C : List ByteArray) : Prop where
 size : n = C.length
 le : C.length ≤ S.length
 now : ∀ i s, S[i]? = some s → s.now = C.getD i zeros
theorem Like.one {S : List Sec} {n : Nat} {C : List ByteArray} (h : Like S n C) (x : Wr) (hp : x.pos < S.length) : Like (tearOne S x) (sizeOne n x) (keepOne C x.trip) := by
 unfold tearOne sizeOne keepOne Wr.trip
 by_cases hk : x.kept = 0
 ·simp only [if_pos hk]
  exact h
 ·simp only [if_neg hk]
  refine ⟨?_, ?_, fun i s hs => ?_⟩
  ·rw [setPad_length, h.size]
  ·rw [setPad_length, List.length_modify]; have := h.le; omega
  ·rw [setPad_at]
   rw [List.getElem?_modify] at hs
   by_cases e : x.pos = i
   ·subst e
    simp only [if_pos] at hs
    obtain ⟨s0, h0, rfl⟩ := Option.map_eq_some_iff.1 hs
    rw [if_pos rfl, ← h.now _ s0 h0]
    rfl
   ·simp only [if_neg e] at hs
    rw [if_neg (fun e2 => e e2.symm)]
    exact h.now i s (by simpa using hs)
theorem Like.all {S : List Sec} {n : Nat} {C : List ByteArray} (h : Like S n C) : ∀ (l : List Wr), (∀ x ∈ l, x.pos < S.length) → Like (tearAll S l) (sizeAll n l) (keepAll C (l.map Wr.trip)) := by
 intro l
 induction l generalizing S n C with
 | nil => intro _; exact h
 | cons x r ih =>
  intro hp
  exact ih (h.one x (hp x (by simp))) (fun y hy => by rw [tearOne_length]; exact hp y (List.mem_cons_of_mem _ hy))
theorem Like.take {S : List Sec} {n : Nat} {C : List ByteArray} (h : Like S n C) : (S.map (·.now)).take n = C := by
 have h1 := h.size
 have h2 := h.le
 apply List.ext_getElem?
 intro i
 rw [List.getElem?_take, List.getElem?_map]
 by_cases hi : i < n
 ·rw [if_pos hi]
  obtain ⟨s, hs⟩ : ∃ s, S[i]? = some s := ⟨_, List.getElem?_eq_getElem (by omega)⟩
  rw [hs]
  have := h.now i s hs
  rw [List.getD_eq_getElem?_getD, List.getElem?_eq_getElem (by omega), Option.getD_some] at this
  rw [List.getElem?_eq_getElem (by omega), ← this]
  rfl
 ·rw [if_neg hi, List.getElem?_eq_none (by omega)]
theorem back_like {F : Fl} (h : FileOk F) : Like (F.secs.map Sec.back) F.ns F.abs.safe := by
 have hns := h.nsle
 refine ⟨?_, ?_, fun i s hs => ?_⟩
 ·unfold Fl.abs; simp; omega
 ·unfold Fl.abs; simp; omega
 ·rw [List.getElem?_map] at hs
  obtain ⟨s0, h0, rfl⟩ := Option.map_eq_some_iff.1 hs
  obtain ⟨a, b⟩ := h.safe i s0 h0
  unfold Fl.abs Sec.back
  simp only
  rw [List.getD_eq_getElem?_getD, List.getElem?_map, List.getElem?_take]
  by_cases hi : i < F.ns
  ·rw [if_pos hi, h0, if_neg (by rw [a hi]; decide)]
   rfl
  ·rw [if_neg hi, b (by omega)]
   rfl
def Fl.tear (F : Fl) : Fl := { F with secs := tearAll (F.secs.map Sec.back) F.ws }
def Fl.left (F : Fl) : Nat := sizeAll F.ns F.ws
theorem tear_other {S : List Sec} {i : Nat} : ∀ {l : List Wr}, (∀ x ∈ l, x.pos ≠ i) → (tearAll S l)[i]? = S[i]? := by
 intro l
 induction l generalizing S with
 | nil => intro _; rfl
 | cons x r ih =>
  intro h
  show (tearAll (tearOne S x) r)[i]? = _
  rw [ih (fun y hy => h y (List.mem_cons_of_mem _ hy))]
  unfold tearOne
  split
  ·rfl
  ·rw [List.getElem?_modify]
   have := h x (by simp)
   simp [this]
theorem tear_rest {i : Nat} {s : Sec} : ∀ {l : List Wr} {S : List Sec}, (tearAll S l)[i]? = some s → ∃ s0, S[i]? = some s0 ∧ s.safe = s0.safe ∧ s.top = s0.top := by
 intro l
 induction l with
 | nil => intro S h; exact ⟨s, h, rfl, rfl⟩
 | cons x r ih =>
  intro S h
  obtain ⟨s1, h1, e1, e2⟩ := ih (S := tearOne S x) h
  unfold tearOne at h1
  split at h1
  ·exact ⟨s1, h1, e1, e2⟩
  ·rw [List.getElem?_modify] at h1
   by_cases e : x.pos = i
   ·subst e
    simp only [if_pos] at h1
    obtain ⟨s0, h0, rfl⟩ := Option.map_eq_some_iff.1 h1
    exact ⟨s0, h0, e1, e2⟩
   ·simp only [if_neg e] at h1
    exact ⟨s1, by simpa using h1, e1, e2⟩
theorem tear_now {l : List Wr} (hk : ∀ x ∈ l, x.kept ≤ 256) (hd : ∀ x ∈ l, x.data.size = 256) : ∀ {S : List Sec}, (∀ s ∈ S, s.now.size = 256) → ∀ s ∈ tearAll S l, s.now.size = 256 := by
 induction l with
 | nil => intro S h; exact h
 | cons x r ih =>
  intro S h
  refine ih (fun y hy => hk y (List.mem_cons_of_mem _ hy)) (fun y hy => hd y (List.mem_cons_of_mem _ hy)) (S := tearOne S x) ?_
  intro s hs
  unfold tearOne at hs
  split at hs
  ·exact h s hs
  ·obtain ⟨i, hi⟩ := List.getElem?_of_mem hs
   rw [List.getElem?_modify] at hi
   by_cases e : x.pos = i
   ·subst e
    simp only [if_pos] at hi
    obtain ⟨s0, h0, rfl⟩ := Option.map_eq_some_iff.1 hi
    exact torn_size (hd x (by simp)) (h s0 (List.mem_of_getElem? h0)) (hk x (by simp))
   ·simp only [if_neg e] at hi
    exact h s (List.mem_of_getElem? (by simpa using hi))
theorem back_now {F : Fl} (h : FileOk F) : ∀ s ∈ F.secs.map Sec.back, s.now.size = 256 := by
 intro s hs
 obtain ⟨s0, h0, rfl⟩ := List.mem_map.1 hs
 obtain ⟨i, hi⟩ := List.getElem?_of_mem h0
 obtain ⟨a, b⟩ := h.safe i s0 hi
 unfold Sec.back
 simp only
 split
 ·exact zeros_size
 ·rename_i hne
  by_cases hi2 : i < F.ns
  ·exact a hi2
  ·rw [b (by omega)] at hne
   exact absurd rfl hne
theorem Fl.tear_ok (F : Fl) (h : FileOk F) (hk : ∀ x ∈ F.ws, x.kept ≤ 256) : FileOk F.tear := by
 have hl : F.tear.secs.length = F.secs.length := by unfold Fl.tear; rw [tearAll_length, List.length_map]
 have hsec : ∀ (k : Nat) (s : Sec), F.tear.secs[k]? = some s → ∃ s0 : Sec, F.secs[k]? = some s0 ∧ s.safe = s0.safe ∧ s.top = s0.top := by
  intro k s hk
  obtain ⟨s1, h1, e1, e2⟩ := tear_rest (S := F.secs.map Sec.back) (l := F.ws) hk
  rw [List.getElem?_map] at h1
  obtain ⟨s0, h0, rfl⟩ := Option.map_eq_some_iff.1 h1
  exact ⟨s0, h0, e1, e2⟩
 refine ⟨?_, h.unders, ?_, h.data, ?_, ?_, ?_, ?_, h.made, ?_, h.turns, h.few⟩
 ·intro k s hs
  obtain ⟨s0, h0, _, e⟩ := hsec k s hs
  rw [e]; exact h.tops k s0 h0
 ·rw [hl]; exact h.pos
 ·exact tear_now hk h.data (back_now h)
 ·intro k s hs
  obtain ⟨s0, h0, e, _⟩ := hsec k s hs
  rw [e]; exact h.safe k s0 h0
 ·intro k s hs hno
  obtain ⟨s0, h0, e, _⟩ := hsec k s hs
  obtain ⟨c1, c2⟩ := h.clean k s0 h0 hno
  refine ⟨c1, ?_⟩
  have h2 : (tearAll (F.secs.map Sec.back) F.ws)[k]? = some s := hs
  rw [tear_other (l := F.ws) hno, List.getElem?_map, h0] at h2
  obtain rfl := Option.some.inj h2
  unfold Sec.back
  simp only
  rw [if_neg]
  rw [(h.safe k s0 h0).1 c1]; decide
 ·rw [hl]; exact h.nsle
 ·rw [hl]; exact h.room
theorem size_left {F : Fl} (h : FileOk F) : F.left ≤ F.secs.length ∧ F.left = (keepAll F.abs.safe (F.ws.map Wr.trip)).length := by
 have hL := (back_like h).all F.ws (fun x hx => by rw [List.length_map]; exact h.pos x hx)
 have h1 := hL.size
 have h2 := hL.le
 rw [tearAll_length, List.length_map] at h2
 exact ⟨by unfold Fl.left; omega, h1⟩
def AF.crash (A : AF) (l : List (Nat × Nat × ByteArray)) : AF := ⟨keepAll A.safe l, keepAll A.safe l, true, []⟩
theorem Fl.crash_abs (F : Fl) (h : FileOk F) (sl : Value) : (F.tear.sync.cut sl F.left).abs = F.abs.crash (F.ws.map Wr.trip) := by
 have hL := ((back_like h).all F.ws (fun x hx => by rw [List.length_map]; exact h.pos x hx)).take
 rw [Fl.cut_abs, Fl.sync_abs]
 unfold AF.cut AF.sync AF.crash
 simp only [List.filter_nil, AF.mk.injEq, and_true]
 exact ⟨hL, hL⟩
theorem repeat_zero : ∀ n, Lib.repeatL [(0 : UInt8)] n = List.replicate n 0 := by
 intro n
 induction n with
 | zero => rfl
 | succ n ih =>
  show [0] ++ Lib.repeatL [0] n = _
  rw [ih]
  rfl
theorem repeat_zeros (w : World) : Calls Tryz.prog 91 #[.string ⟨#[0]⟩, .int .i64 256] w fun e w' => e = .returned (.string zeros) ∧ Below w.heap.size w w' := by
 have h := Tryz.strings_Repeat ⟨#[0]⟩ 256 w (by decide) (by decide)
 have e : (⟨(Lib.repeatL (⟨#[0]⟩ : ByteArray).data.toList 256).toArray⟩ : ByteArray) = zeros := by
  unfold zeros
  rw [show (⟨#[0]⟩ : ByteArray).data.toList = [(0 : UInt8)] from rfl, repeat_zero]
 rw [e] at h
 exact h
theorem clone_any (s : ByteArray) (w : World) (hs : s.size ≤ 281474976710656) : Calls Tryz.prog 32 #[.string s] w fun e w' => e = .returned (.string s) ∧ Below w.heap.size w w' := by
 have H := fun w' : World => Lib.hid (Tryz.stringslite_Clone s w' hs)
 go_enter Tryz.func32, Tryz.ntmps32
 go_wp2_with (go_at_call 82; refine (H _).out.mono ?_; rintro e w' ⟨rfl, hb⟩)
 go_ret
 exact ⟨rfl, hb⟩
theorem or_some (w : World) (B : Nat) (a z : ByteArray) (ha : (!a.toList.isEmpty) = true) (c0 : w.cell? ⟨B, 0, none⟩ = some (.string a)) :
  Calls Tryz.prog 118 #[.slice (some ⟨B, 0, none⟩) 2 2] w fun e w' => e = .returned (.string a) ∧ w = w' := by
 go_enter Tryz.func118, Tryz.ntmps118
 go_wp2
 go_loop [8] (fun i => i = .int .i64 0) (fun _ => 0)
 case atStart => rfl
 case round =>
  subst hrel
  go_wp2
  go_ret
  exact ⟨rfl, rfl⟩
theorem or_none (w : World) (B : Nat) (z : ByteArray) (hz : (!z.toList.isEmpty) = true) (c0 : w.cell? ⟨B, 0, none⟩ = some (.string ⟨#[]⟩)) (c1 : w.cell? ⟨B, 1, none⟩ = some (.string z)) :
  Calls Tryz.prog 118 #[.slice (some ⟨B, 0, none⟩) 2 2] w fun e w' => e = .returned (.string z) ∧ w = w' := by
 go_enter Tryz.func118, Tryz.ntmps118
 go_wp2
 go_loop [8] (fun i => i = .int .i64 0 ∨ i = .int .i64 1) (fun i => (1 - intOf i).toNat)
 case atStart => exact .inl rfl
 case round =>
  rcases hrel with rfl | rfl
  ·go_wp2
   go_round
   case rel => exact .inr rfl
   case measure => simp [intOf]
  ·go_wp2
   go_ret
   exact ⟨rfl, rfl⟩
theorem full_some {a : ByteArray} (h : a.size ≠ 0) : (!a.toList.isEmpty) = true := by
 cases e : a.toList with
 | nil =>
  exfalso
  apply h
  rw [Lib.toList_data] at e
  rw [Lib.size_eq, e]
  rfl
 | cons x r => rfl
theorem or_back (w : World) (B : Nat) (a : ByteArray) (ha : a.size ≠ 0 ∨ a = ⟨#[]⟩) (c0 : w.cell? ⟨B, 0, none⟩ = some (.string a)) (c1 : w.cell? ⟨B, 1, none⟩ = some (.string zeros)) :
  Calls Tryz.prog 118 #[.slice (some ⟨B, 0, none⟩) 2 2] w fun e w' => e = .returned (.string (if a.size = 0 then zeros else a)) ∧ w = w' := by
 rcases ha with ha | rfl
 ·rw [if_neg ha]
  exact or_some w B a zeros (full_some ha) c0
 ·exact or_none w B zeros (full_some (by rw [zeros_size]; decide)) c0 c1
end Go.Proofs.YtbkngnjkaledlaaGreat.P4
