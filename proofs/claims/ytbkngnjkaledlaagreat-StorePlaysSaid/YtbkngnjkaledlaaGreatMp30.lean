/-
  Texts of the proof of SaidPlay8b.
-/
import Derived.Test.YtbkngnjkaledlaaGreatMp29
set_option maxHeartbeats 8000000
set_option maxRecDepth 100000
namespace Go.Proofs.YtbkngnjkaledlaaGreat.P5
open Go Go.RowKit Go.Lib P0 P2
theorem drop_num (s : ByteArray) (k : Nat) (h : k < s.size) : num (s.data.toList.drop k) = s[k].toNat + 256 * num (s.data.toList.drop (k + 1)) := by
 rw [List.drop_eq_getElem_cons (by simpa using h)]; rfl
theorem num_drop_lt (s : ByteArray) (k : Nat) (h8 : s.size ≤ 8) : num (s.data.toList.drop (k + 1)) ≤ 72057594037927935 := by
 have h1 := num_lt (s.data.toList.drop (k + 1))
 have h2 : 256 ^ (s.data.toList.drop (k + 1)).length ≤ 256 ^ 7 := Nat.pow_le_pow_right (by omega) (by rw [List.length_drop]; simp; omega)
 omega
theorem rNum_any (w : World) (s : ByteArray) (h8 : s.size ≤ 8) :
  Calls Tryz.prog 107 #[.string s] w fun r w' => r = .returned (.int .u64 (num s.data.toList)) ∧ w = w' := by
 go_enter Tryz.func107, Tryz.ntmps107
 go_wp2
 go_loop [3, 4] (fun v i => ∃ (q : Int) (x : Nat), i = .int .i64 q ∧ v = .int .u64 x ∧ -1 ≤ q ∧ q < s.size ∧ Hid (x = num (s.data.toList.drop (q + 1).toNat))) (fun _ i => (RowKit.intOf i + 1).toNat)
 case atStart => exact ⟨(s.size : Int) - 1, 0, by first | rfl | go_num, rfl, by omega, by omega, show _ from by rw [show ((s.size : Int) - 1 + 1).toNat = s.size by omega, List.drop_of_length_le (by simp)]; rfl⟩
 case round =>
  obtain ⟨q, x, rfl, rfl, hq0, hq1, hx⟩ := hrel
  by_cases hq : 0 ≤ q
  ·obtain ⟨k, rfl⟩ := Int.eq_ofNat_of_zero_le hq
   have hk : k < s.size := by omega
   have hxe := hx.out
   rw [show ((k : Int) + 1).toNat = k + 1 by omega] at hxe
   have hxb : x ≤ 72057594037927935 := by rw [hxe]; exact num_drop_lt s k h8
   have hc := s[k].toNat_lt
   have hnx : Hid (x * 256 + s[k].toNat = num (s.data.toList.drop ((k : Int) - 1 + 1).toNat)) := by
    have e := drop_num s k hk
    rw [← hxe] at e
    show _ = _
    rw [show ((k : Int) - 1 + 1).toNat = k by omega, e]; omega
   clear hxe hq0 hq1
   go_wp2
   go_round
   case rel => exact ⟨(k : Int) - 1, x * 256 + s[k].toNat, by first | rfl | go_num, by go_num, by omega, by omega, hnx⟩
   case measure => simp [RowKit.intOf]
  ·have hxe : Hid (x = num s.data.toList) := by
    have e := hx.out
    rw [show (q + 1).toNat = 0 by omega, List.drop_zero] at e
    exact e
   clear hq1
   go_wp2
   go_ret
   exact ⟨by rw [hxe.out]; rfl, rfl⟩
def FK (w0 W : World) (l : List (Nat × ByteArray)) : Prop :=
 Below w0.heap.size w0 W ∧ (∀ x ∈ l, w0.heap.size ≤ x.1 ∧ GetAt W x.1 x.2 0) ∧ (l.map (·.1)).Nodup
theorem FK.drew {w0 W : World} {l : List (Nat × ByteArray)} (h : FK w0 W l) : FK w0 W.drew l := ⟨thenBelow h.1 ((Below.refl _ _).drew), h.2⟩
theorem GetAt.frO {w w' : World} {b c : Nat} {s : ByteArray} {bad : Int} (h : GetAt w b s bad) (f : Fr c w w') (hne : b ≠ c) : GetAt w' b s bad := f.keeps b _ _ _ h (by decide) hne
theorem fk_from {w0 W : World} {l : List (Nat × ByteArray)} (s : ByteArray) (h : FK w0 W l) :
  Calls Tryz.prog 136 #[.string s] W fun r w' => ∃ b, r = .returned (.pointer (some ⟨b, 0, none⟩)) ∧ FK w0 w' ((b, s) :: l) := by
 refine (getFrom_any W s).mono fun r w' ⟨h1, h2, h3, _⟩ => ⟨W.heap.size, h1, thenBelow h.1 h3, ?_, ?_⟩
 ·intro x hx
  rcases List.mem_cons.1 hx with rfl | hx
  ·exact ⟨h.1.size, h2⟩
  ·exact ⟨(h.2.1 x hx).1, (h.2.1 x hx).2.below h3⟩
 ·rw [List.map_cons, List.nodup_cons]
  refine ⟨fun hm => ?_, h.2.2⟩
  obtain ⟨x, hx, e⟩ := List.mem_map.1 hm
  have := lt_of_block (h.2.1 x hx).2
  omega
theorem FK.took {w0 W w' : World} {l k : List (Nat × ByteArray)} {b : Nat} (h : FK w0 W l) (hk : k.Sublist l) (hb : b ∉ k.map (·.1)) (hw : w0.heap.size ≤ b) (f : Fr b W w') : FK w0 w' k :=
 ⟨h.1.trans (f.below.mono hw), fun x hx => ⟨(h.2.1 x (hk.subset hx)).1, (h.2.1 x (hk.subset hx)).2.frO f (fun e => hb (e ▸ List.mem_map_of_mem hx))⟩, h.2.2.sublist (hk.map _)⟩
theorem first_num {s : ByteArray} {n : Nat} (h : n ≤ s.size) : (getNum n s 0).1 = wrap64 (num (s.data.toList.take n)) := by
 unfold getNum
 rw [if_pos rfl, if_pos h]
theorem fk_half {w0 W : World} {l : List (Nat × ByteArray)} {b : Nat} {s : ByteArray} (hs : 2 ≤ s.size) (h : FK w0 W ((b, s) :: l)) :
  Calls Tryz.prog 137 #[.pointer (some ⟨b, 0, none⟩)] W fun r w' => r = .returned (.int .i64 (wrap64 (num (s.data.toList.take 2)))) ∧ FK w0 w' l := by
 have hm := h.2.1 (b, s) (List.mem_cons_self ..)
 have H := getHalf_any W b s 0 hm.2
 rw [first_num hs] at H
 exact H.mono fun r w' ⟨h1, _, h3⟩ => ⟨h1, h.took (List.sublist_cons_self ..) (by have := h.2.2; rw [List.map_cons, List.nodup_cons] at this; exact this.1) hm.1 h3⟩
theorem fk_half2 {w0 W : World} {x : Nat × ByteArray} {b : Nat} {s : ByteArray} (hs : 2 ≤ s.size) (h : FK w0 W [x, (b, s)]) :
  Calls Tryz.prog 137 #[.pointer (some ⟨b, 0, none⟩)] W fun r w' => r = .returned (.int .i64 (wrap64 (num (s.data.toList.take 2)))) ∧ FK w0 w' [x] := by
 have hm := h.2.1 (b, s) (by simp)
 have H := getHalf_any W b s 0 hm.2
 rw [first_num hs] at H
 exact H.mono fun r w' ⟨h1, _, h3⟩ => ⟨h1, h.took (by simp) (by have := h.2.2; simp at this ⊢; exact fun e => this e.symm) hm.1 h3⟩
theorem fk_int {w0 W : World} {l : List (Nat × ByteArray)} {b : Nat} {s : ByteArray} (hs : 8 ≤ s.size) (h : FK w0 W ((b, s) :: l)) :
  Calls Tryz.prog 138 #[.pointer (some ⟨b, 0, none⟩)] W fun r w' => r = .returned (.int .i64 (wrap64 (num (s.data.toList.take 8)))) ∧ FK w0 w' l := by
 have hm := h.2.1 (b, s) (List.mem_cons_self ..)
 have H := getInt_any W b s 0 hm.2
 rw [first_num hs] at H
 exact H.mono fun r w' ⟨h1, _, h3⟩ => ⟨h1, h.took (List.sublist_cons_self ..) (by have := h.2.2; rw [List.map_cons, List.nodup_cons] at this; exact this.1) hm.1 h3⟩
theorem fk_int2 {w0 W : World} {x : Nat × ByteArray} {b : Nat} {s : ByteArray} (hs : 8 ≤ s.size) (h : FK w0 W [x, (b, s)]) :
  Calls Tryz.prog 138 #[.pointer (some ⟨b, 0, none⟩)] W fun r w' => r = .returned (.int .i64 (wrap64 (num (s.data.toList.take 8)))) ∧ FK w0 w' [x] := by
 have hm := h.2.1 (b, s) (by simp)
 have H := getInt_any W b s 0 hm.2
 rw [first_num hs] at H
 exact H.mono fun r w' ⟨h1, _, h3⟩ => ⟨h1, h.took (by simp) (by have := h.2.2; simp at this ⊢; exact fun e => this e.symm) hm.1 h3⟩
theorem from_at (b : ByteArray) (n : Nat) : (b.extract n b.size).data.toList = b.data.toList.drop n := by
 rw [Lib.extract_data]
 exact List.take_of_length_le (by rw [List.length_drop, text_len]; exact Nat.le_refl _)
theorem front_any (w : World) (b : ByteArray) (h : 16 ≤ b.size) (hb : b.size ≤ 1000000) :
  Calls Tryz.prog 105 #[.string b] w fun r w' => r = .returned (.tuple #[.int .i64 (kOf b.data.toList), .int .i64 (idOf b.data.toList), .int .i64 (txOf b.data.toList)]) ∧ Below w.heap.size w w' := by
 have k1 : decide ((b.size : Int) < 16) = false := decide_eq_false (by omega)
 have e2 := from_at b 2
 have e8 := from_at b 8
 have z2 : (b.extract 2 b.size).size = b.size - 2 := by rw [ByteArray.size_extract]; omega
 have z8 : (b.extract 8 b.size).size = b.size - 8 := by rw [ByteArray.size_extract]; omega
 have F0 := fun W l h => Lib.hid (@fk_from w W l (b.extract 2 b.size) h)
 have F8 := fun W l h => Lib.hid (@fk_from w W l (b.extract 8 b.size) h)
 have H1 := fun W l c h => Lib.hid (@fk_half w W l c (b.extract 2 b.size) (by omega) h)
 have H2 := fun W x c h => Lib.hid (@fk_half2 w W x c (b.extract 2 b.size) (by omega) h)
 have I1 := fun W l c h => Lib.hid (@fk_int w W l c (b.extract 8 b.size) (by omega) h)
 have I2 := fun W x c h => Lib.hid (@fk_int2 w W x c (b.extract 8 b.size) (by omega) h)
 rw [e2] at H1 H2
 rw [e8] at I1 I2
 have st0 : FK w w [] := ⟨Below.refl _ _, fun _ h => by simp at h, by simp⟩
 have st0d := st0.drew
 have BE : Hid (∀ W l, FK w W l → Below w.heap.size w W) := fun W l h => h.1
 have hk : Hid ((b[0]'(by omega)).toNat = kOf b.data.toList) := by
  show _ = _
  unfold kOf
  rw [List.getD_eq_getElem?_getD, List.getElem?_eq_getElem (by rw [text_len]; omega)]
  rfl
 have i2 : (2 : Int) ≤ (b.size : Int) := by omega
 have i8 : (8 : Int) ≤ (b.size : Int) := by omega
 have i0 : 0 < b.size := by omega
 have i1 : IntKind.i64.wrap (((b[0]'(by omega)).toNat : Nat) : Int) = (kOf b.data.toList : Int) := by
  rw [hk.out, IntKind.wrap_i64]
  have := (b[0]'(by omega)).toNat_lt
  rw [hk.out] at this
  omega
 unfold idOf txOf
 clear e2 e8 z2 z8
 go_enter Tryz.func105, Tryz.ntmps105
 go_wp2
 go_region_held3 (fun _ => True) (trivial)
  ((first
   | (go_at_call 136; (with_reducible refine (F0 _ _ (by assumption)).out.mono ?_); rintro e w2 ⟨c, rfl, st1⟩)
   | (go_at_call 136; (with_reducible refine (F8 _ _ (by assumption)).out.mono ?_); rintro e w2 ⟨c, rfl, st1⟩)
   | (go_at_call 137; (with_reducible refine (H1 _ _ _ (by assumption)).out.mono ?_); rintro e w2 ⟨rfl, st1⟩)
   | (go_at_call 137; (with_reducible refine (H2 _ _ _ (by assumption)).out.mono ?_); rintro e w2 ⟨rfl, st1⟩)
   | (go_at_call 138; (with_reducible refine (I1 _ _ _ (by assumption)).out.mono ?_); rintro e w2 ⟨rfl, st1⟩)
   | (go_at_call 138; (with_reducible refine (I2 _ _ _ (by assumption)).out.mono ?_); rintro e w2 ⟨rfl, st1⟩)))
 all_goals
  go_wp2
  go_ret3
  exact ⟨rfl, BE.out _ _ (by assumption)⟩
structure RdSt (w0 : World) (r p : Nat) (cr cp : Array Value) (w : World) : Prop where
 res : w.heap[r]? = some (.cells cr 47 (0, 0))
 page : w.heap[p]? = some (.cells cp 47 (0, 0))
 ne : r ≠ p
 below : Below w0.heap.size w0 w
 rlo : w0.heap.size ≤ r
 plo : w0.heap.size ≤ p
theorem RdSt.over {w0 : World} {r p : Nat} {cr cp : Array Value} {w w' : World} (h : RdSt w0 r p cr cp w) (k : Below w.heap.size w w') : RdSt w0 r p cr cp w' :=
 ⟨by rw [k.block r (lt_of_block h.res)]; exact h.res, by rw [k.block p (lt_of_block h.page)]; exact h.page, h.ne, thenBelow h.below k, h.rlo, h.plo⟩
theorem RdSt.set {w0 : World} {r p : Nat} {cr cp : Array Value} {w : World} (h : RdSt w0 r p cr cp w) (j : Nat) (v : Value) : RdSt w0 r p cr (cp.setIfInBounds j v) (w.setCell ⟨p, j, none⟩ v) :=
 ⟨by rw [Below.heap_setCell _ _ _ _ h.ne]; exact h.res, set_at h.page j v, h.ne, h.below.trans ((Below.refl _ _).setCell h.plo v), h.rlo, h.plo⟩
theorem RdSt.cell {w0 : World} {r p : Nat} {cr cp : Array Value} {w : World} (h : RdSt w0 r p cr cp w) (j : Nat) : w.cell? ⟨p, j, none⟩ = cp[j]? := cell_at h.page j
theorem RdSt.free {w0 : World} {r p : Nat} {cr cp : Array Value} {w : World} (h : RdSt w0 r p cr cp w) (j : Nat) : w.frozen? ⟨p, j, none⟩ = false := free_at h.page j
theorem RdSt.rcell {w0 : World} {r p : Nat} {cr cp : Array Value} {w : World} (h : RdSt w0 r p cr cp w) (j : Nat) : w.cell? ⟨r, j, none⟩ = cr[j]? := cell_at h.res j
theorem RdSt.rfree {w0 : World} {r p : Nat} {cr cp : Array Value} {w : World} (h : RdSt w0 r p cr cp w) (j : Nat) : w.frozen? ⟨r, j, none⟩ = false := free_at h.res j
theorem RdSt.start (w : World) : RdSt w w.heap.size (w.heap.size + 1) Pg.zero.cells Pg.zero.cells ((w.alloc (.cells Pg.zero.cells 47)).alloc (.cells Pg.zero.cells 47)) := by
 refine ⟨?_, ?_, by omega, ((Below.refl _ _).alloc (Nat.le_refl _) _).alloc (by simp) _, by omega, by omega⟩
 ·rw [Below.heap_alloc _ _ _ (by simp)]; exact new_at w _ _
 ·have := new_at (w.alloc (.cells Pg.zero.cells 47)) Pg.zero.cells 47
  simpa using this
theorem page_result {fn : Func} {q u : Tmp} (h : fn.results = #[.cell q 47, .tmp u]) (tmps : Array Value) (w : World) (a : Nat) (cs : Array Value) (hq : tmps.getD q undef = .pointer (some ⟨a, 0, none⟩)) (hc : w.heap[a]? = some (.cells cs 47 (0, 0))) (hs : cs.size = 4) :
  (results fn tmps).run Tryz.prog w = .ok (.tuple #[.agg cs, tmps.getD u undef]) w := by
 have hi : (Tryz.prog.info? 47).map (·.size) = some cs.size := by rw [hs]; kernel_rfl
 rw [results_cell_tmp h, hq]
 have e1 : (asAddr (.pointer (some ⟨a, 0, none⟩))).run Tryz.prog w = .ok ⟨a, 0, none⟩ w := rfl
 rw [e1, Result.andThen_ok, run_loadVar_row (P := Tryz.prog) w a 47 47 cs (0, 0) _ hc Tryz.underlying47 rfl hi]
 rfl
theorem Pg.zero_cells : Pg.zero.cells = #[.int .i64 0, .int .i64 0, .int .i64 0, .string ⟨#[]⟩] := rfl
theorem read_len_any (w : World) (b : ByteArray) (h : b.size ≠ 256) :
  Calls Tryz.prog 67 #[.string b] w fun r w' => r = .returned (.tuple #[Pg.zero.v, .int .i64 5]) ∧ Below w.heap.size w w' := by
 have k1 : ((b.size : Int) != 256) = true := by simp; omega
 clear h
 go_enter Tryz.func67, Tryz.ntmps67
 go_wp2
 exact bodyPost_ret (page_result rfl _ _ w.heap.size _ rfl (new_at w _ _) rfl) rfl ⟨rfl, below_new _ _⟩
theorem size_at (b : ByteArray) (h : 1 < b.size) : IntKind.i64.wrap (((b[1]'h).toNat : Nat) : Int) = (nOf b.data.toList : Int) := by
 have hk : (b[1]'h).toNat = nOf b.data.toList := by
  unfold nOf
  rw [List.getD_eq_getElem?_getD, List.getElem?_eq_getElem (by rw [text_len]; omega)]
  rfl
 have := (b[1]'h).toNat_lt
 rw [hk] at this
 rw [hk, IntKind.wrap_i64]
 omega
theorem read_long_any (w : World) (b : ByteArray) (h : b.size = 256) (hn : ¬ nOf b.data.toList ≤ 232) :
  Calls Tryz.prog 67 #[.string b] w fun r w' => r = .returned (.tuple #[Pg.zero.v, .int .i64 6]) ∧ Below w.heap.size w w' := by
 have k1 : ((b.size : Int) != 256) = false := by simp; omega
 have i1 : 1 < b.size := by omega
 have e1 := size_at b i1
 have k2 : decide ((232 : Int) < (nOf b.data.toList : Int)) = true := decide_eq_true (by omega)
 have k3 : decide (232 < nOf b.data.toList) = true := decide_eq_true (by omega)
 clear h hn
 go_enter Tryz.func67, Tryz.ntmps67
 go_wp2
 exact bodyPost_ret (page_result rfl _ _ w.heap.size _ rfl (new_at w _ _) rfl) rfl ⟨rfl, below_new _ _⟩
theorem RdSt.fin {w0 : World} {r p : Nat} {cp : Array Value} {w : World} (h : RdSt w0 r p Pg.zero.cells cp w) (n : Nat) (a b c d : Value) :
  ((((((w.drewN n).setCell ⟨r, 0, none⟩ a).setCell ⟨r, 1, none⟩ b).setCell ⟨r, 2, none⟩ c).setCell ⟨r, 3, none⟩ d).heap[r]? = some (.cells #[a, b, c, d] 47 (0, 0))) ∧ Below w0.heap.size w0 (((((w.drewN n).setCell ⟨r, 0, none⟩ a).setCell ⟨r, 1, none⟩ b).setCell ⟨r, 2, none⟩ c).setCell ⟨r, 3, none⟩ d) := by
 have h0 : (w.drewN n).heap[r]? = some (.cells Pg.zero.cells 47 (0, 0)) := h.res
 have hB : Below w0.heap.size w0 (w.drewN n) := ⟨h.below.os, h.below.tape, h.below.output, h.below.size, h.below.block⟩
 exact ⟨set_at (set_at (set_at (set_at h0 0 a) 1 b) 2 c) 3 d, (((hB.setCell h.rlo a).setCell h.rlo b).setCell h.rlo c).setCell h.rlo d⟩
theorem read_bad_any (w : World) (b : ByteArray) (h : b.size = 256) (hn : nOf b.data.toList ≤ 232) (ho : ¬ (Pg.of b).ok) :
  Calls Tryz.prog 67 #[.string b] w fun r w' => r = .returned (.tuple #[Pg.zero.v, .int .i64 6]) ∧ Below w.heap.size w w' := by
 have k1 : ((b.size : Int) != 256) = false := by simp; omega
 have i1 : 1 < b.size := by omega
 have e1 := size_at b i1
 have k2 : decide ((232 : Int) < (nOf b.data.toList : Int)) = false := decide_eq_false (by omega)
 have k3 : decide (232 < nOf b.data.toList) = false := decide_eq_false (by omega)
 have HF := fun W => Lib.hid (front_any W b (by omega) (by omega))
 have HC := fun W => Lib.hid (sClone_any (b.extract 16 (16 + nOf b.data.toList)) W (by rw [ByteArray.size_extract]; omega))
 have HL := fun W => Lib.hid (lay_bad W (Pg.of b) ho)
 have HST := Lib.hid (fun w1 hb => (RdSt.start w).over (w' := w1) hb)
 have n1 : (16 : Int) ≤ 16 + (nOf b.data.toList : Int) := by omega
 have n2 : 16 + (nOf b.data.toList : Int) ≤ (b.size : Int) := by omega
 have n3 : IntKind.i64.wrap (16 + (nOf b.data.toList : Int)) = 16 + (nOf b.data.toList : Int) := by rw [IntKind.wrap_i64]; omega
 have n4 : (248 : Int) ≤ (b.size : Int) := by omega
 have n5 : (252 : Int) ≤ (b.size : Int) := by omega
 rw [Pg.zero_cells] at HST
 unfold Pg.of Pg.v at *
 clear h hn ho
 generalize hK : kOf b.data.toList = K at *
 generalize hI : idOf b.data.toList = I at *
 generalize hT : txOf b.data.toList = T at *
 generalize hN : nOf b.data.toList = N at *
 clear hK hI hT hN
 go_enter Tryz.func67, Tryz.ntmps67
 go_wp2_with (first
  | (go_at_call 105; (with_reducible refine (HF _).out.mono ?_); rintro e w1 ⟨rfl, hb1⟩; have st1 := HST.out w1 hb1; have c0 := (st1.cell 0).trans (show _ = some (Value.int .i64 0) from rfl); have f0 := st1.free 0; have s1 := st1.set 0 (.int .i64 K); have c1 := (s1.cell 1).trans (show _ = some (Value.int .i64 0) from rfl); have f1 := s1.free 1; have s2 := s1.set 1 (.int .i64 I); have c2 := (s2.cell 2).trans (show _ = some (Value.int .i64 0) from rfl); have f2 := s2.free 2; have s3 := s2.set 2 (.int .i64 T))
  | (go_at_call 32; (with_reducible refine (HC _).out.mono ?_); rintro e w2 ⟨rfl, hb2⟩; have s4 := s3.over hb2; have c3 := (s4.cell 3).trans (show _ = some (Value.string ⟨#[]⟩) from rfl); have f3 := s4.free 3; have s5 := s4.set 3 (.string (b.extract 16 (16 + N))); have l0 := (s5.cell 0).trans (show _ = some (Value.int .i64 K) from rfl); have l1 := (s5.cell 1).trans (show _ = some (Value.int .i64 I) from rfl); have l2 := (s5.cell 2).trans (show _ = some (Value.int .i64 T) from rfl); have l3 := (s5.cell 3).trans (show _ = some (Value.string (b.extract 16 (16 + N))) from rfl))
  | (go_at_call 85; (with_reducible refine (HL _).out.mono ?_); rintro e w3 ⟨rfl, hb3⟩; have s6 := s5.over hb3; have r0 := (s6.rcell 0).trans (show _ = some (Value.int .i64 0) from rfl); have r1 := (s6.rcell 1).trans (show _ = some (Value.int .i64 0) from rfl); have r2 := (s6.rcell 2).trans (show _ = some (Value.int .i64 0) from rfl); have r3 := (s6.rcell 3).trans (show _ = some (Value.string ⟨#[]⟩) from rfl); have g0 := s6.rfree 0; have g1 := s6.rfree 1; have g2 := s6.rfree 2; have g3 := s6.rfree 3; have m0 := (s6.cell 0).trans (show _ = some (Value.int .i64 K) from rfl); have m1 := (s6.cell 1).trans (show _ = some (Value.int .i64 I) from rfl); have m2 := (s6.cell 2).trans (show _ = some (Value.int .i64 T) from rfl); have m3 := (s6.cell 3).trans (show _ = some (Value.string (b.extract 16 (16 + N))) from rfl)))
 go_quiet (fail)
 go_wp2
 obtain ⟨q1, q2⟩ := (show RdSt w w.heap.size (w.heap.size + 1) Pg.zero.cells _ _ from s6).fin nq (.int .i64 0) (.int .i64 0) (.int .i64 0) (.string ⟨#[]⟩)
 exact bodyPost_ret (page_result rfl _ _ w.heap.size _ rfl q1 rfl) rfl ⟨rfl, q2⟩
theorem read_fore_any (w : World) (b : ByteArray) (h : b.size = 256) (hn : nOf b.data.toList ≤ 232) (ho : (Pg.of b).ok) (hx : b.extract 0 248 ≠ (Pg.of b).sector.extract 0 248) :
  Calls Tryz.prog 67 #[.string b] w fun r w' => r = .returned (.tuple #[Pg.zero.v, .int .i64 6]) ∧ Below w.heap.size w w' := by
 have k1 : ((b.size : Int) != 256) = false := by simp; omega
 have i1 : 1 < b.size := by omega
 have e1 := size_at b i1
 have k2 : decide ((232 : Int) < (nOf b.data.toList : Int)) = false := decide_eq_false (by omega)
 have k3 : decide (232 < nOf b.data.toList) = false := decide_eq_false (by omega)
 have HF := fun W => Lib.hid (front_any W b (by omega) (by omega))
 have HC := fun W => Lib.hid (sClone_any (b.extract 16 (16 + nOf b.data.toList)) W (by rw [ByteArray.size_extract]; omega))
 have HL := fun W => Lib.hid (lay_ok W (Pg.of b) ho)
 have hS := Pg.sector_size ho
 have HST := Lib.hid (fun w1 hb => (RdSt.start w).over (w' := w1) hb)
 have n1 : (16 : Int) ≤ 16 + (nOf b.data.toList : Int) := by omega
 have n2 : 16 + (nOf b.data.toList : Int) ≤ (b.size : Int) := by omega
 have n3 : IntKind.i64.wrap (16 + (nOf b.data.toList : Int)) = 16 + (nOf b.data.toList : Int) := by rw [IntKind.wrap_i64]; omega
 have n4 : (248 : Int) ≤ (b.size : Int) := by omega
 have n5 : (252 : Int) ≤ (b.size : Int) := by omega
 rw [Pg.zero_cells] at HST
 have x1 := same_false hx
 clear hx
 generalize hSe : (Pg.of b).sector = S at *
 clear hSe
 have m4 : (248 : Int) ≤ (S.size : Int) := by omega
 have m5 : (252 : Int) ≤ (S.size : Int) := by omega
 clear hS
 unfold Pg.of Pg.v at *
 clear h hn ho
 generalize hK : kOf b.data.toList = K at *
 generalize hI : idOf b.data.toList = I at *
 generalize hT : txOf b.data.toList = T at *
 generalize hN : nOf b.data.toList = N at *
 clear hK hI hT hN
 go_enter Tryz.func67, Tryz.ntmps67
 go_wp2_with (first
  | (go_at_call 105; (with_reducible refine (HF _).out.mono ?_); rintro e w1 ⟨rfl, hb1⟩; have st1 := HST.out w1 hb1; have c0 := (st1.cell 0).trans (show _ = some (Value.int .i64 0) from rfl); have f0 := st1.free 0; have s1 := st1.set 0 (.int .i64 K); have c1 := (s1.cell 1).trans (show _ = some (Value.int .i64 0) from rfl); have f1 := s1.free 1; have s2 := s1.set 1 (.int .i64 I); have c2 := (s2.cell 2).trans (show _ = some (Value.int .i64 0) from rfl); have f2 := s2.free 2; have s3 := s2.set 2 (.int .i64 T))
  | (go_at_call 32; (with_reducible refine (HC _).out.mono ?_); rintro e w2 ⟨rfl, hb2⟩; have s4 := s3.over hb2; have c3 := (s4.cell 3).trans (show _ = some (Value.string ⟨#[]⟩) from rfl); have f3 := s4.free 3; have s5 := s4.set 3 (.string (b.extract 16 (16 + N))); have l0 := (s5.cell 0).trans (show _ = some (Value.int .i64 K) from rfl); have l1 := (s5.cell 1).trans (show _ = some (Value.int .i64 I) from rfl); have l2 := (s5.cell 2).trans (show _ = some (Value.int .i64 T) from rfl); have l3 := (s5.cell 3).trans (show _ = some (Value.string (b.extract 16 (16 + N))) from rfl))
  | (go_at_call 85; (with_reducible refine (HL _).out.mono ?_); rintro e w3 ⟨rfl, hb3⟩; have s6 := s5.over hb3; have r0 := (s6.rcell 0).trans (show _ = some (Value.int .i64 0) from rfl); have r1 := (s6.rcell 1).trans (show _ = some (Value.int .i64 0) from rfl); have r2 := (s6.rcell 2).trans (show _ = some (Value.int .i64 0) from rfl); have r3 := (s6.rcell 3).trans (show _ = some (Value.string ⟨#[]⟩) from rfl); have g0 := s6.rfree 0; have g1 := s6.rfree 1; have g2 := s6.rfree 2; have g3 := s6.rfree 3; have m0 := (s6.cell 0).trans (show _ = some (Value.int .i64 K) from rfl); have m1 := (s6.cell 1).trans (show _ = some (Value.int .i64 I) from rfl); have m2 := (s6.cell 2).trans (show _ = some (Value.int .i64 T) from rfl); have m3 := (s6.cell 3).trans (show _ = some (Value.string (b.extract 16 (16 + N))) from rfl)))
 go_quiet (fail)
 go_wp2
 obtain ⟨q1, q2⟩ := (show RdSt w w.heap.size (w.heap.size + 1) Pg.zero.cells _ _ from s6).fin nq (.int .i64 0) (.int .i64 0) (.int .i64 0) (.string ⟨#[]⟩)
 exact bodyPost_ret (page_result rfl _ _ w.heap.size _ rfl q1 rfl) rfl ⟨rfl, q2⟩
theorem read_end_any (w : World) (b : ByteArray) (h : b.size = 256) (hn : nOf b.data.toList ≤ 232) (ho : (Pg.of b).ok) (hx : b.extract 0 248 = (Pg.of b).sector.extract 0 248) (hy : b.extract 252 b.size ≠ (Pg.of b).sector.extract 252 (Pg.of b).sector.size) :
  Calls Tryz.prog 67 #[.string b] w fun r w' => r = .returned (.tuple #[Pg.zero.v, .int .i64 6]) ∧ Below w.heap.size w w' := by
 have k1 : ((b.size : Int) != 256) = false := by simp; omega
 have i1 : 1 < b.size := by omega
 have e1 := size_at b i1
 have k2 : decide ((232 : Int) < (nOf b.data.toList : Int)) = false := decide_eq_false (by omega)
 have k3 : decide (232 < nOf b.data.toList) = false := decide_eq_false (by omega)
 have HF := fun W => Lib.hid (front_any W b (by omega) (by omega))
 have HC := fun W => Lib.hid (sClone_any (b.extract 16 (16 + nOf b.data.toList)) W (by rw [ByteArray.size_extract]; omega))
 have HL := fun W => Lib.hid (lay_ok W (Pg.of b) ho)
 have hS := Pg.sector_size ho
 have HST := Lib.hid (fun w1 hb => (RdSt.start w).over (w' := w1) hb)
 have n1 : (16 : Int) ≤ 16 + (nOf b.data.toList : Int) := by omega
 have n2 : 16 + (nOf b.data.toList : Int) ≤ (b.size : Int) := by omega
 have n3 : IntKind.i64.wrap (16 + (nOf b.data.toList : Int)) = 16 + (nOf b.data.toList : Int) := by rw [IntKind.wrap_i64]; omega
 have n4 : (248 : Int) ≤ (b.size : Int) := by omega
 have n5 : (252 : Int) ≤ (b.size : Int) := by omega
 rw [Pg.zero_cells] at HST
 have x1 := same_true hx
 have x2 := same_false hy
 clear hx hy
 generalize hSe : (Pg.of b).sector = S at *
 clear hSe
 have m4 : (248 : Int) ≤ (S.size : Int) := by omega
 have m5 : (252 : Int) ≤ (S.size : Int) := by omega
 clear hS
 unfold Pg.of Pg.v at *
 clear h hn ho
 generalize hK : kOf b.data.toList = K at *
 generalize hI : idOf b.data.toList = I at *
 generalize hT : txOf b.data.toList = T at *
 generalize hN : nOf b.data.toList = N at *
 clear hK hI hT hN
 go_enter Tryz.func67, Tryz.ntmps67
 go_wp2_with (first
  | (go_at_call 105; (with_reducible refine (HF _).out.mono ?_); rintro e w1 ⟨rfl, hb1⟩; have st1 := HST.out w1 hb1; have c0 := (st1.cell 0).trans (show _ = some (Value.int .i64 0) from rfl); have f0 := st1.free 0; have s1 := st1.set 0 (.int .i64 K); have c1 := (s1.cell 1).trans (show _ = some (Value.int .i64 0) from rfl); have f1 := s1.free 1; have s2 := s1.set 1 (.int .i64 I); have c2 := (s2.cell 2).trans (show _ = some (Value.int .i64 0) from rfl); have f2 := s2.free 2; have s3 := s2.set 2 (.int .i64 T))
  | (go_at_call 32; (with_reducible refine (HC _).out.mono ?_); rintro e w2 ⟨rfl, hb2⟩; have s4 := s3.over hb2; have c3 := (s4.cell 3).trans (show _ = some (Value.string ⟨#[]⟩) from rfl); have f3 := s4.free 3; have s5 := s4.set 3 (.string (b.extract 16 (16 + N))); have l0 := (s5.cell 0).trans (show _ = some (Value.int .i64 K) from rfl); have l1 := (s5.cell 1).trans (show _ = some (Value.int .i64 I) from rfl); have l2 := (s5.cell 2).trans (show _ = some (Value.int .i64 T) from rfl); have l3 := (s5.cell 3).trans (show _ = some (Value.string (b.extract 16 (16 + N))) from rfl))
  | (go_at_call 85; (with_reducible refine (HL _).out.mono ?_); rintro e w3 ⟨rfl, hb3⟩; have s6 := s5.over hb3; have r0 := (s6.rcell 0).trans (show _ = some (Value.int .i64 0) from rfl); have r1 := (s6.rcell 1).trans (show _ = some (Value.int .i64 0) from rfl); have r2 := (s6.rcell 2).trans (show _ = some (Value.int .i64 0) from rfl); have r3 := (s6.rcell 3).trans (show _ = some (Value.string ⟨#[]⟩) from rfl); have g0 := s6.rfree 0; have g1 := s6.rfree 1; have g2 := s6.rfree 2; have g3 := s6.rfree 3; have m0 := (s6.cell 0).trans (show _ = some (Value.int .i64 K) from rfl); have m1 := (s6.cell 1).trans (show _ = some (Value.int .i64 I) from rfl); have m2 := (s6.cell 2).trans (show _ = some (Value.int .i64 T) from rfl); have m3 := (s6.cell 3).trans (show _ = some (Value.string (b.extract 16 (16 + N))) from rfl)))
 go_quiet (fail)
 go_wp2
 obtain ⟨q1, q2⟩ := (show RdSt w w.heap.size (w.heap.size + 1) Pg.zero.cells _ _ from s6).fin nq (.int .i64 0) (.int .i64 0) (.int .i64 0) (.string ⟨#[]⟩)
 exact bodyPost_ret (page_result rfl _ _ w.heap.size _ rfl q1 rfl) rfl ⟨rfl, q2⟩
theorem read_sum_any (w : World) (b : ByteArray) (h : b.size = 256) (hn : nOf b.data.toList ≤ 232) (ho : (Pg.of b).ok) (hx : b.extract 0 248 = (Pg.of b).sector.extract 0 248) (hy : b.extract 252 b.size = (Pg.of b).sector.extract 252 (Pg.of b).sector.size) (hz : b ≠ (Pg.of b).sector) :
  Calls Tryz.prog 67 #[.string b] w fun r w' => r = .returned (.tuple #[Pg.zero.v, .int .i64 7]) ∧ Below w.heap.size w w' := by
 have k1 : ((b.size : Int) != 256) = false := by simp; omega
 have i1 : 1 < b.size := by omega
 have e1 := size_at b i1
 have k2 : decide ((232 : Int) < (nOf b.data.toList : Int)) = false := decide_eq_false (by omega)
 have k3 : decide (232 < nOf b.data.toList) = false := decide_eq_false (by omega)
 have HF := fun W => Lib.hid (front_any W b (by omega) (by omega))
 have HC := fun W => Lib.hid (sClone_any (b.extract 16 (16 + nOf b.data.toList)) W (by rw [ByteArray.size_extract]; omega))
 have HL := fun W => Lib.hid (lay_ok W (Pg.of b) ho)
 have hS := Pg.sector_size ho
 have HST := Lib.hid (fun w1 hb => (RdSt.start w).over (w' := w1) hb)
 have n1 : (16 : Int) ≤ 16 + (nOf b.data.toList : Int) := by omega
 have n2 : 16 + (nOf b.data.toList : Int) ≤ (b.size : Int) := by omega
 have n3 : IntKind.i64.wrap (16 + (nOf b.data.toList : Int)) = 16 + (nOf b.data.toList : Int) := by rw [IntKind.wrap_i64]; omega
 have n4 : (248 : Int) ≤ (b.size : Int) := by omega
 have n5 : (252 : Int) ≤ (b.size : Int) := by omega
 rw [Pg.zero_cells] at HST
 have x1 := same_true hx
 have x2 := same_true hy
 have x3 := same_false hz
 clear hx hy hz
 generalize hSe : (Pg.of b).sector = S at *
 clear hSe
 have m4 : (248 : Int) ≤ (S.size : Int) := by omega
 have m5 : (252 : Int) ≤ (S.size : Int) := by omega
 clear hS
 unfold Pg.of Pg.v at *
 clear h hn ho
 generalize hK : kOf b.data.toList = K at *
 generalize hI : idOf b.data.toList = I at *
 generalize hT : txOf b.data.toList = T at *
 generalize hN : nOf b.data.toList = N at *
 clear hK hI hT hN
 go_enter Tryz.func67, Tryz.ntmps67
 go_wp2_with (first
  | (go_at_call 105; (with_reducible refine (HF _).out.mono ?_); rintro e w1 ⟨rfl, hb1⟩; have st1 := HST.out w1 hb1; have c0 := (st1.cell 0).trans (show _ = some (Value.int .i64 0) from rfl); have f0 := st1.free 0; have s1 := st1.set 0 (.int .i64 K); have c1 := (s1.cell 1).trans (show _ = some (Value.int .i64 0) from rfl); have f1 := s1.free 1; have s2 := s1.set 1 (.int .i64 I); have c2 := (s2.cell 2).trans (show _ = some (Value.int .i64 0) from rfl); have f2 := s2.free 2; have s3 := s2.set 2 (.int .i64 T))
  | (go_at_call 32; (with_reducible refine (HC _).out.mono ?_); rintro e w2 ⟨rfl, hb2⟩; have s4 := s3.over hb2; have c3 := (s4.cell 3).trans (show _ = some (Value.string ⟨#[]⟩) from rfl); have f3 := s4.free 3; have s5 := s4.set 3 (.string (b.extract 16 (16 + N))); have l0 := (s5.cell 0).trans (show _ = some (Value.int .i64 K) from rfl); have l1 := (s5.cell 1).trans (show _ = some (Value.int .i64 I) from rfl); have l2 := (s5.cell 2).trans (show _ = some (Value.int .i64 T) from rfl); have l3 := (s5.cell 3).trans (show _ = some (Value.string (b.extract 16 (16 + N))) from rfl))
  | (go_at_call 85; (with_reducible refine (HL _).out.mono ?_); rintro e w3 ⟨rfl, hb3⟩; have s6 := s5.over hb3; have r0 := (s6.rcell 0).trans (show _ = some (Value.int .i64 0) from rfl); have r1 := (s6.rcell 1).trans (show _ = some (Value.int .i64 0) from rfl); have r2 := (s6.rcell 2).trans (show _ = some (Value.int .i64 0) from rfl); have r3 := (s6.rcell 3).trans (show _ = some (Value.string ⟨#[]⟩) from rfl); have g0 := s6.rfree 0; have g1 := s6.rfree 1; have g2 := s6.rfree 2; have g3 := s6.rfree 3; have m0 := (s6.cell 0).trans (show _ = some (Value.int .i64 K) from rfl); have m1 := (s6.cell 1).trans (show _ = some (Value.int .i64 I) from rfl); have m2 := (s6.cell 2).trans (show _ = some (Value.int .i64 T) from rfl); have m3 := (s6.cell 3).trans (show _ = some (Value.string (b.extract 16 (16 + N))) from rfl)))
 go_quiet (fail)
 go_wp2
 obtain ⟨q1, q2⟩ := (show RdSt w w.heap.size (w.heap.size + 1) Pg.zero.cells _ _ from s6).fin nq (.int .i64 0) (.int .i64 0) (.int .i64 0) (.string ⟨#[]⟩)
 exact bodyPost_ret (page_result rfl _ _ w.heap.size _ rfl q1 rfl) rfl ⟨rfl, q2⟩
theorem read_ok_any (w : World) (b : ByteArray) (h : b.size = 256) (hn : nOf b.data.toList ≤ 232) (ho : (Pg.of b).ok) (hx : b.extract 0 248 = (Pg.of b).sector.extract 0 248) (hy : b.extract 252 b.size = (Pg.of b).sector.extract 252 (Pg.of b).sector.size) (hz : b = (Pg.of b).sector) :
  Calls Tryz.prog 67 #[.string b] w fun r w' => r = .returned (.tuple #[(Pg.of b).v, .int .i64 0]) ∧ Below w.heap.size w w' := by
 have k1 : ((b.size : Int) != 256) = false := by simp; omega
 have i1 : 1 < b.size := by omega
 have e1 := size_at b i1
 have k2 : decide ((232 : Int) < (nOf b.data.toList : Int)) = false := decide_eq_false (by omega)
 have k3 : decide (232 < nOf b.data.toList) = false := decide_eq_false (by omega)
 have HF := fun W => Lib.hid (front_any W b (by omega) (by omega))
 have HC := fun W => Lib.hid (sClone_any (b.extract 16 (16 + nOf b.data.toList)) W (by rw [ByteArray.size_extract]; omega))
 have HL := fun W => Lib.hid (lay_ok W (Pg.of b) ho)
 have hS := Pg.sector_size ho
 have HST := Lib.hid (fun w1 hb => (RdSt.start w).over (w' := w1) hb)
 have n1 : (16 : Int) ≤ 16 + (nOf b.data.toList : Int) := by omega
 have n2 : 16 + (nOf b.data.toList : Int) ≤ (b.size : Int) := by omega
 have n3 : IntKind.i64.wrap (16 + (nOf b.data.toList : Int)) = 16 + (nOf b.data.toList : Int) := by rw [IntKind.wrap_i64]; omega
 have n4 : (248 : Int) ≤ (b.size : Int) := by omega
 have n5 : (252 : Int) ≤ (b.size : Int) := by omega
 rw [Pg.zero_cells] at HST
 have x1 := same_true hx
 have x2 := same_true hy
 have x3 := same_true hz
 clear hx hy hz
 generalize hSe : (Pg.of b).sector = S at *
 clear hSe
 have m4 : (248 : Int) ≤ (S.size : Int) := by omega
 have m5 : (252 : Int) ≤ (S.size : Int) := by omega
 clear hS
 unfold Pg.of Pg.v at *
 clear h hn ho
 generalize hK : kOf b.data.toList = K at *
 generalize hI : idOf b.data.toList = I at *
 generalize hT : txOf b.data.toList = T at *
 generalize hN : nOf b.data.toList = N at *
 clear hK hI hT hN
 go_enter Tryz.func67, Tryz.ntmps67
 go_wp2_with (first
  | (go_at_call 105; (with_reducible refine (HF _).out.mono ?_); rintro e w1 ⟨rfl, hb1⟩; have st1 := HST.out w1 hb1; have c0 := (st1.cell 0).trans (show _ = some (Value.int .i64 0) from rfl); have f0 := st1.free 0; have s1 := st1.set 0 (.int .i64 K); have c1 := (s1.cell 1).trans (show _ = some (Value.int .i64 0) from rfl); have f1 := s1.free 1; have s2 := s1.set 1 (.int .i64 I); have c2 := (s2.cell 2).trans (show _ = some (Value.int .i64 0) from rfl); have f2 := s2.free 2; have s3 := s2.set 2 (.int .i64 T))
  | (go_at_call 32; (with_reducible refine (HC _).out.mono ?_); rintro e w2 ⟨rfl, hb2⟩; have s4 := s3.over hb2; have c3 := (s4.cell 3).trans (show _ = some (Value.string ⟨#[]⟩) from rfl); have f3 := s4.free 3; have s5 := s4.set 3 (.string (b.extract 16 (16 + N))); have l0 := (s5.cell 0).trans (show _ = some (Value.int .i64 K) from rfl); have l1 := (s5.cell 1).trans (show _ = some (Value.int .i64 I) from rfl); have l2 := (s5.cell 2).trans (show _ = some (Value.int .i64 T) from rfl); have l3 := (s5.cell 3).trans (show _ = some (Value.string (b.extract 16 (16 + N))) from rfl))
  | (go_at_call 85; (with_reducible refine (HL _).out.mono ?_); rintro e w3 ⟨rfl, hb3⟩; have s6 := s5.over hb3; have r0 := (s6.rcell 0).trans (show _ = some (Value.int .i64 0) from rfl); have r1 := (s6.rcell 1).trans (show _ = some (Value.int .i64 0) from rfl); have r2 := (s6.rcell 2).trans (show _ = some (Value.int .i64 0) from rfl); have r3 := (s6.rcell 3).trans (show _ = some (Value.string ⟨#[]⟩) from rfl); have g0 := s6.rfree 0; have g1 := s6.rfree 1; have g2 := s6.rfree 2; have g3 := s6.rfree 3; have m0 := (s6.cell 0).trans (show _ = some (Value.int .i64 K) from rfl); have m1 := (s6.cell 1).trans (show _ = some (Value.int .i64 I) from rfl); have m2 := (s6.cell 2).trans (show _ = some (Value.int .i64 T) from rfl); have m3 := (s6.cell 3).trans (show _ = some (Value.string (b.extract 16 (16 + N))) from rfl)))
 go_quiet (fail)
 go_wp2
 obtain ⟨q1, q2⟩ := (show RdSt w w.heap.size (w.heap.size + 1) Pg.zero.cells _ _ from s6).fin nq (.int .i64 K) (.int .i64 I) (.int .i64 T) (.string (b.extract 16 (16 + N)))
 exact bodyPost_ret (page_result rfl _ _ w.heap.size _ rfl q1 rfl) rfl ⟨rfl, q2⟩
theorem read_any (w : World) (b : ByteArray) :
  Calls Tryz.prog 67 #[.string b] w fun r w' => r = .returned (.tuple #[(readP b).v, .int .i64 (readE b)]) ∧ Below w.heap.size w w' := by
 by_cases h : b.size = 256
 ·by_cases hn : nOf b.data.toList ≤ 232
  ·by_cases ho : (Pg.of b).ok
   ·by_cases hx : b.extract 0 248 = (Pg.of b).sector.extract 0 248
    ·by_cases hy : b.extract 252 b.size = (Pg.of b).sector.extract 252 (Pg.of b).sector.size
     ·by_cases hz : b = (Pg.of b).sector
      ·have e1 : readP b = Pg.of b := if_pos ⟨h, ho, hz⟩
       have e2 : readE b = 0 := (if_pos h).trans ((if_pos ⟨hn, ho, hx, hy⟩).trans (if_pos hz))
       rw [e1, e2]
       exact read_ok_any w b h hn ho hx hy hz
      ·have e1 : readP b = Pg.zero := if_neg (fun k => hz k.2.2)
       have e2 : readE b = 7 := (if_pos h).trans ((if_pos ⟨hn, ho, hx, hy⟩).trans (if_neg hz))
       rw [e1, e2]
       exact read_sum_any w b h hn ho hx hy hz
     ·have e1 : readP b = Pg.zero := if_neg (fun k => hy (by rw [← k.2.2]))
      have e2 : readE b = 6 := (if_pos h).trans (if_neg (fun k => hy k.2.2.2))
      rw [e1, e2]
      exact read_end_any w b h hn ho hx hy
    ·have e1 : readP b = Pg.zero := if_neg (fun k => hx (by rw [← k.2.2]))
     have e2 : readE b = 6 := (if_pos h).trans (if_neg (fun k => hx k.2.2.1))
     rw [e1, e2]
     exact read_fore_any w b h hn ho hx
   ·have e1 : readP b = Pg.zero := if_neg (fun k => ho k.2.1)
    have e2 : readE b = 6 := (if_pos h).trans (if_neg (fun k => ho k.2.1))
    rw [e1, e2]
    exact read_bad_any w b h hn ho
  ·have e1 : readP b = Pg.zero := if_neg (fun k => hn (by
    have hk := k.2.1.2.2.2.2.2.2
    unfold Pg.of at hk
    rw [ByteArray.size_extract] at hk
    omega))
   have e2 : readE b = 6 := (if_pos h).trans (if_neg (fun k => hn k.1))
   rw [e1, e2]
   exact read_long_any w b h hn
 ·have e1 : readP b = Pg.zero := if_neg (fun k => h k.1)
  have e2 : readE b = 5 := if_neg h
  rw [e1, e2]
  exact read_len_any w b h
end Go.Proofs.YtbkngnjkaledlaaGreat.P5
