/-
  Texts of the proof of SaidPlay8b.
-/
import Derived.Test.YtbkngnjkaledlaaGreatMp04
import Derived.Shelf.Small.Wraps
import Derived.Shelf.Strconv.Clone
import Derived.Shelf.Sort.Plain
import Derived.Shelf.Strings.Repeat
import Derived.Shelf.Strings.BuilderCap
import Derived.Shelf.Slices.Clone
import Derived.Shelf.Slices.SearchI
import Derived.Shelf.Slices.In.SortNone
import Derived.Shelf.SlSortCmp.NoneTotal
set_option maxHeartbeats 8000000
set_option maxRecDepth 100000
namespace Go.Proofs.YtbkngnjkaledlaaGreat.P4
open Go Go.RowKit Go.Lib P3
theorem Fl.cut_all (F : Fl) (ok : FileOk F) : F.cut F.sl F.secs.length = F := by
 unfold Fl.cut
 rw [List.take_length, Nat.min_eq_left ok.nsle, List.filter_eq_self.2 (fun x hx => by simpa using ok.pos x hx)]
theorem FileAt.cut {w : World} {F : Fl} (h : FileAt w F) (ok : FileOk F) (n : Nat) (hn : n ≤ F.secs.length) :
  Calls Tryz.prog 100 #[.pointer (some ⟨F.b, 0, none⟩), .int .i64 n] w fun e w' => e = .returned (.tuple #[]) ∧ ∃ sl, FileAt w' (F.cut sl n) ∧ sl.ownBlock = F.sl.ownBlock ∧ Fr F.foot w w' := by
 by_cases he : n = F.secs.length
 ·subst he
  refine (cut_none h ok).mono ?_
  rintro e w' ⟨rfl, k, rfl⟩
  have hne : ∀ g, F.sl.ownBlock = some g → g ≠ F.b := fun g hg e => h.ne_row.1 g hg e.symm
  refine ⟨rfl, F.sl, ?_, rfl, .only ((((Only.refl F.b w).drewN k).setCell _ _).setCell _ _) (.inl rfl)⟩
  rw [F.cut_all ok]
  refine ⟨?_, owns_keep h.row (fun g hg => ?_), seg_keep h.seg (fun x hx => ?_), h.nodup⟩
  ·have := set_at (set_at (w := w.drewN k) h.blk 0 F.sl) 1 (.int .i64 F.ns)
   rw [this]
   rfl
  ·rw [Below.heap_setCell _ _ _ _ (hne g hg), Below.heap_setCell _ _ _ _ (hne g hg)]; rfl
  ·obtain ⟨_, _, hx'⟩ := seg_mem h.seg x hx
   have hxb : x.b ≠ F.b := block_ne hx' h.blk (by decide)
   rw [Below.heap_setCell _ _ _ _ hxb, Below.heap_setCell _ _ _ _ hxb]; rfl
 ·obtain ⟨g, cap, cur, hv, hg, _⟩ := owns_some h.row (by omega)
  refine (cut_walk h ok n (by omega) g cap hv).mono ?_
  rintro e w' ⟨rfl, wr, w2, hS, hr, ho, rfl⟩
  have hbg : F.b ≠ g := block_ne h.blk hg (by decide)
  have hgb : g ≠ F.b := hbg.symm
  have hl : (F.secs.take n).length = n := by rw [List.length_take]; omega
  refine ⟨rfl, .slice (some ⟨g, 0, none⟩) n cap, ⟨?_, ?_, ?_, hS.nodup⟩, by rw [hv]; rfl, ?_⟩
  ·have := set_at (set_at (ho.keep hS.blk hbg) 0 (.slice (some ⟨g, 0, none⟩) n cap)) 1 (.int .i64 (min F.ns n : Nat))
   exact this
  ·show World.ownsRow _ _ _ _ _ (F.secs.take n).length (secsCells (F.secs.take n))
   rw [hl]
   refine owns_keep hr (fun g' hg' => ?_)
   have hg2 : (Value.slice (some ⟨g, 0, none⟩) n cap).ownBlock = some g' := hg'
   obtain rfl : g = g' := by simpa [Value.ownBlock] using hg2
   rw [Below.heap_setCell _ _ _ _ hgb, Below.heap_setCell _ _ _ _ hgb]
  ·refine seg_keep hS.seg (fun x hx => ?_)
   obtain ⟨_, _, hx'⟩ := seg_mem hS.seg x hx
   have hxb : x.b ≠ F.b := block_ne hx' hS.blk (by decide)
   have hxg : x.b ≠ g := h.ne_row.2 g (by rw [hv]; rfl) x (hS.sub x hx)
   rw [Below.heap_setCell _ _ _ _ hxb, Below.heap_setCell _ _ _ _ hxb]
   exact ho.block _ (lt_of_block hx') hxg
  ·have f1 : Fr F.foot w wr := hS.fr.mono (fun k _ hk => hk.imp id (fun e => .inr e))
   exact (f1.trans (.only ho (.inr (.inl (by rw [hv]; rfl))))).trans (.only (((Only.refl F.b _).setCell _ _).setCell _ _) (.inl rfl))
end Go.Proofs.YtbkngnjkaledlaaGreat.P4
namespace Go.Proofs.YtbkngnjkaledlaaGreat.P4
open Go Go.RowKit Go.Lib Go.Maps Go.ChangeMaps Go.MapKept P3
def Rng (w : World) (b r : Nat) (L : Dir) (lf : List UInt8 → Bool) (cnt : Nat) : Prop :=
 ∃ n D left, w.ranges Tryz.prog 9 Rf b r n D left cnt ∧ Looks D L ∧ ∀ k, left (.string k) = lf k
theorem Rng.left {w : World} {b r : Nat} {L : Dir} {lf : List UInt8 → Bool} {cnt : Nat} (h : Rng w b r L lf cnt) : w.rangeLeft b r = cnt := by
 obtain ⟨n, D, left, h, _⟩ := h
 exact h.left_eq
theorem Rng.fr {S : Nat → Prop} {w w' : World} {b r : Nat} {L : Dir} {lf : List UInt8 → Bool} {cnt : Nat} (h : Rng w b r L lf cnt) (hf : Fr S w w') (hb : ¬ S b) (hr : ¬ S r) : Rng w' b r L lf cnt := by
 obtain ⟨n, D, left, ⟨es, clock, since, seen, c0, h1, h2, h3, h4, h5, rest⟩, hl, he⟩ := h
 exact ⟨n, D, left, ⟨es, clock, since, seen, c0, hf.keep h1 hb, h2, h3, h4, hf.keep h5 hr, rest⟩, hl, he⟩
theorem Rng.map {w : World} {b r : Nat} {L : Dir} {lf : List UInt8 → Bool} {cnt : Nat} (h : Rng w b r L lf cnt) : MapAt w (some b) L := by
 obtain ⟨n, D, left, h, hl, _⟩ := h
 refine .inr ⟨b, D, rfl, ?_, hl⟩
 rw [← hl.size]
 exact owns_tight h.owns
theorem same_lit (a b : List UInt8) : (Lit.string a).sameKey (.string b) = (a == b) := by
 by_cases h : a = b
 ·subst h
  rw [WideAt.sameKey_self (slit a)]
  simp
 ·have h2 : (a == b) = false := by simpa using h
  rw [h2]
  exact sameKey_ne (fun e => h (string_lit e))
section
variable {w : World} {ops : Array Oper} {rest : List Oper} {o : Oper} {a : Act} {Q : Exit → Act → World → Prop}
theorem wpList_range_sf (hg : o.guard = none) (m : Operand) (hop : o.op = Op.range 71 m) (b : Nat) (L : Dir) (hm : a.eval m = .map (some b)) (h : MapAt w (some b) L)
  (hK : ∀ w', Rng w' b w.heap.size L (fun k => (lk L k).isSome) L.length → Below w.heap.size w w' → w'.heap.size = w.heap.size + 1 → wpList Tryz.prog ops Q rest (a.put o.dst (.pointer (some ⟨w.heap.size, 0, none⟩))) w') :
  wpList Tryz.prog ops Q (o :: rest) a w := by
 rcases h with ⟨h, _⟩ | ⟨b', D, e, ho, hl⟩
 ·cases h
 obtain rfl : b = b' := by simpa using e
 refine wpList_range_own w hg m 71 hop 9 124 lawS Tryz.underlying71 Rf b L.length D hm ho fun w' h1 h2 h3 => hK w' ?_ ?_ h3
 ·rw [hl.size] at h1
  exact ⟨_, D, _, h1, hl, fun k => lk_has hl k⟩
 ·exact ⟨h2.os, h2.tape, h2.output, h2.size, fun k hk => h2.block k hk (by simp)⟩
theorem wpList_next_sf (hg : o.guard = none) (it : Operand) (hop : o.op = Op.next it false) (b r : Nat) (L : Dir) (lf : List UInt8 → Bool) (cnt : Nat) (hit : a.eval it = .pointer (some ⟨r, 0, none⟩)) (h : Rng w b r L lf cnt)
  (hDone : (∀ k, lf k = false) → wpList Tryz.prog ops Q rest (a.put o.dst (.tuple #[.bool false])) w)
  (hMore : ∀ (s : ByteArray) (fb : Nat) (w' : World) (cnt' : Nat), s.size ≤ maxLen → (s.data.toList, fb) ∈ L → lf s.data.toList = true → Rng w' b r L (fun k => lf k && !(k == s.data.toList)) cnt' → cnt' < cnt →
   Only r w w' → w'.heap.size = w.heap.size → (Instr.entry (.pointer (some ⟨r, 0, none⟩))).run Tryz.prog w' = .ok (.tuple #[.string s, .pointer (some ⟨fb, 0, none⟩)]) w' → wpList Tryz.prog ops Q rest (a.put o.dst (.tuple #[.bool true, .string s, .pointer (some ⟨fb, 0, none⟩)])) w') :
  wpList Tryz.prog ops Q (o :: rest) a w := by
 obtain ⟨n, D, left, hr, hl, he⟩ := h
 refine wpList_next_ranges (α := ByteArray) (β := Option Nat) w hg it hop 9 lawS Rf (fun s => .string s) ptr (fun key kl hk => ?_) (fun v y hv => ?_) b r n D left cnt hit hr (fun _ hno => hDone (fun k => by rw [← he k]; exact hno _)) (fun x c kl y w' cnt' hk hlk hv hat hr' hlt hg' hs' hen => ?_)
 ·obtain ⟨s, rfl, _⟩ := WideMaps.string_of_keyOf Tryz.underlying9 hk
  exact ⟨s, rfl⟩
 ·obtain ⟨o, rfl, _⟩ := rf_inv hv
  exact ⟨o, rfl⟩
 ·obtain ⟨s, e1, rfl, hs⟩ := WideMaps.string_of_keyOf Tryz.underlying9 hk
  obtain rfl : x = s := by simpa using e1
  have h1 : lf x.data.toList = true := by rw [← he]; exact hlk
  have h2 : Maps.has D (.string x.data.toList) = true := has_true_of_atKey hat
  obtain ⟨fb, hfb⟩ := hl.has _ h2
  have h3 := hat (enF 0)
  rw [hl.here _ fb hfb] at h3
  obtain ⟨o, e2, e3⟩ := rf_inv hv
  have e4 : c = some fb := by
   rw [e3] at h3
   have h4 := enF_inj h3
   cases o with
   | none =>
    exfalso
    have h5 : (fb : Int) = -1 := h4
    omega
   | some o =>
    have h5 : (fb : Int) = (o : Int) := h4
    obtain rfl : fb = o := by omega
    cases c with
    | none => cases e2
    | some c =>
     have : c = fb := by simpa [ptr] using e2
     rw [this]
  subst e4
  refine hMore x fb w' cnt' hs hfb h1 ⟨n, D, _, hr', hl, fun k => ?_⟩ hlt ⟨hg'.os, hg'.tape, hg'.output, hg'.size, fun k hk hne => hg'.block k hk (fun e => hne (by simpa using e))⟩ hs' hen
  show (left (.string k) && !(Lit.string k).sameKey _) = _
  rw [he, same_lit]
theorem wpList_delete_sf (hg : o.guard = none) (m x : Operand) (hop : o.op = Op.call { callee := Callee.builtin Builtin.delete, args := #[m, x], argTypes := #[71, 9] }) (b r : Nat) (L : Dir) (lf : List UInt8 → Bool) (cnt : Nat) (hn : (L.map (·.1)).Nodup)
  (hm : a.eval m = .map (some b)) (h : Rng w b r L lf cnt) (s : ByteArray) (hs : s.size ≤ maxLen) (hx : a.eval x = .string s)
  (hK : ∀ w' cnt', Rng w' b r (delL L s.data.toList) (fun k => lf k && !(k == s.data.toList)) cnt' → cnt' ≤ cnt → Only b w w' → w'.heap.size = w.heap.size → wpList Tryz.prog ops Q rest (a.put o.dst (.tuple #[])) w') :
  wpList Tryz.prog ops Q (o :: rest) a w := by
 obtain ⟨n, D, left, hr, hl, he⟩ := h
 refine wpList_delete_ranges w hg m x 71 9 hop 124 lawS Tryz.underlying71 Rf b r n D left cnt hm hr (.string s) (.string s.data.toList) hx (keyS hs) fun w' cnt' h1 h2 h3 => hK w' cnt' ?_ h2 ?_ ?_
 ·refine ⟨n, _, _, h1, looks_del hl (hr.owns.tidy lawS) hn _, fun k => ?_⟩
  show (left (.string k) && !(Lit.string k).sameKey _) = _
  rw [he, same_lit]
 ·obtain ⟨es, clock, es', clock', hb, rfl⟩ := h3
  exact ⟨rfl, rfl, rfl, by simp [setBlock], fun k hk hne => heap_setBlock_other hb _ hne⟩
 ·obtain ⟨es, clock, es', clock', hb, rfl⟩ := h3
  simp [setBlock]
end
abbrev Files := List (List UInt8 × Fl)
def dir (L : Files) : Dir := L.map fun p => (p.1, p.2.b)
theorem dir_names (L : Files) : (dir L).map (·.1) = L.map (·.1) := by simp [dir]
theorem dir_mem {L : Files} {n : List UInt8} {b : Nat} (h : (n, b) ∈ dir L) : ∃ F, (n, F) ∈ L ∧ F.b = b := by
 obtain ⟨⟨n', F⟩, h1, h2⟩ := List.mem_map.1 h
 simp only [Prod.mk.injEq] at h2
 obtain ⟨rfl, rfl⟩ := h2
 exact ⟨F, h1, rfl⟩
def doneL (L : Files) (lf : List UInt8 → Bool) : Files := L.filter (fun p => !lf p.1)
theorem done_step {n : List UInt8} {F : Fl} {lf : List UInt8 → Bool} (hlf : lf n = true) : ∀ {L : Files}, (L.map (·.1)).Nodup → (n, F) ∈ L → (doneL L (fun k => lf k && !(k == n))).Perm ((n, F) :: doneL L lf) := by
 intro L
 induction L with
 | nil => intro _ h; simp at h
 | cons p r ih =>
  intro hn hm
  rw [List.map_cons, List.nodup_cons] at hn
  unfold doneL at *
  by_cases e : p.1 = n
  ·have hp : p = (n, F) := by
    rcases List.mem_cons.1 hm with e2 | h2
    ·exact e2.symm
    ·exact absurd (List.mem_map.2 ⟨_, h2, e.symm⟩) hn.1
   subst hp
   have h1 : r.filter (fun p => !(lf p.1 && !(p.1 == n))) = r.filter (fun p => !lf p.1) := by
    apply List.filter_congr
    intro q hq
    have : q.1 ≠ n := fun e => hn.1 (List.mem_map.2 ⟨q, hq, e⟩)
    simp [this]
   rw [List.filter_cons_of_pos (by simp), List.filter_cons_of_neg (by simp [hlf]), h1]
  ·have hm' : (n, F) ∈ r := by
    rcases List.mem_cons.1 hm with e2 | h2
    ·exact absurd (by rw [← e2]) e
    ·exact h2
   have ih := ih hn.2 hm'
   by_cases hl : lf p.1 = true
   ·rw [List.filter_cons_of_neg (by simp [hl, e]), List.filter_cons_of_neg (by simp [hl])]
    exact ih
   ·rw [List.filter_cons_of_pos (by simp [hl]), List.filter_cons_of_pos (by simp [hl])]
    exact (ih.cons p).trans (List.Perm.swap _ _ _)
theorem done_all {L : Files} {lf : List UInt8 → Bool} (h : ∀ k, lf k = false) : doneL L lf = L := List.filter_eq_self.2 (fun p _ => by simp [h])
theorem done_none {L : Files} (hn : (L.map (·.1)).Nodup) : doneL L (fun k => (lk (dir L) k).isSome) = [] := by
 refine List.filter_eq_nil_iff.2 (fun p hp => ?_)
 have : (p.1, p.2.b) ∈ dir L := List.mem_map.2 ⟨p, hp, rfl⟩
 have h2 := lk_mem (L := dir L) (by rw [dir_names]; exact hn) this
 simp only [h2]
 simp
def sumOf (g : Fl → Nat) (L : Files) : Nat := (L.map fun p => g p.2).sum
theorem sum_perm {g : Fl → Nat} {L M : Files} (h : L.Perm M) : sumOf g L = sumOf g M := by
 unfold sumOf
 exact (h.map _).sum_nat
theorem sum_cons (g : Fl → Nat) (p : List UInt8 × Fl) (L : Files) : sumOf g (p :: L) = g p.2 + sumOf g L := by simp [sumOf]
theorem sum_le {g : Fl → Nat} {c : Nat} : ∀ {L : Files}, (∀ p ∈ L, g p.2 ≤ c) → sumOf g L ≤ L.length * c
 | [], _ => by simp [sumOf]
 | p :: r, h => by
  rw [sum_cons, List.length_cons, Nat.add_mul]
  have h1 := h p (by simp)
  have h2 := sum_le (L := r) (fun q hq => h q (List.mem_cons_of_mem _ hq))
  omega
theorem sum_sub {g : Fl → Nat} {c : Nat} {L M : Files} (hs : M.Sublist L) (h : ∀ p ∈ L, g p.2 ≤ c) : sumOf g M ≤ L.length * c :=
 Nat.le_trans (sum_le (fun p hp => h p (hs.subset hp))) (Nat.mul_le_mul_right _ hs.length_le)
def FilesAt (w : World) (L : Files) : Prop := ∀ p ∈ L, FileAt w p.2
theorem total_some (w : World) (d b f : Nat) (L : Files) (g : Fl → Nat) (c0 : w.cell? ⟨d, 0, none⟩ = some (.map (some b))) (hm : MapAt w (some b) (dir L)) (hn : (L.map (·.1)).Nodup) (hF : FilesAt w L) (hg : ∀ p ∈ L, g p.2 ≤ 10000) (hlen : L.length ≤ 100)
  (hin : ∀ args w, (callFunc f args).run Tryz.prog w = .ok (.enter f args) w)
  (hc : ∀ W F, FileAt W F → Calls Tryz.prog f #[.pointer (some ⟨F.b, 0, none⟩)] W fun e w' => e = .returned (.int .i64 (g F)) ∧ W = w') :
  Calls Tryz.prog 113 #[.pointer (some ⟨d, 0, none⟩), .func (.func f) #[] #[]] w fun e w' => e = .returned (.int .i64 (sumOf g L)) ∧ Below w.heap.size w w' := by
 have HM := Lib.hid hm
 have HF := Lib.hid hF
 have HN := Lib.hid hn
 have HG := Lib.hid hg
 have HC := Lib.hid hc
 clear hm hF hn hg hc
 go_enter Tryz.func113, Tryz.ntmps113
 go_wp2_with (at_range; refine wpList_range_sf rfl _ rfl b (dir L) rfl HM.out ?_; intro w0 hr0 hb0 hs0; clear hs0)
 go_frame
 have h0 : Hid (sumOf g (doneL L (fun k => (lk (dir L) k).isSome)) = 0) := by rw [done_none HN.out]; rfl
 have HR0 := Lib.hid hr0
 have HB0 := Lib.hid hb0
 clear hr0 hb0
 go_loopw [5] (fun v wr => ∃ lf cnt, Hid (Rng wr b w.heap.size (dir L) lf cnt) ∧ v = .int .i64 (sumOf g (doneL L lf) : Nat) ∧ Hid (Below w.heap.size w wr)) (fun _ wr => wr.rangeLeft b w.heap.size)
 case atStart => exact ⟨_, _, HR0.out, by rw [h0.out]; rfl, HB0.out⟩
 case round =>
  clear HR0 HB0 h0
  obtain ⟨lf, cnt, hR, rfl, hB⟩ := hrel
  go_wp2_with (at_next; refine wpList_next_sf rfl _ rfl b w.heap.size (dir L) lf cnt rfl hR.out ?_ ?_)
  ·intro hno
   have hd : sumOf g (doneL L lf) = sumOf g L := by rw [done_all hno]
   rw [hd]
   have HB := Lib.hid hB.out
   clear hd hno hB hR
   go_wp2
   go_ret
   exact ⟨rfl, HB.out⟩
  ·intro s fb w1 cnt1 hs hm hl hR1 hlt ho1 hs1 hen
   obtain ⟨F, hFm, rfl⟩ := dir_mem hm
   have hB1 : Below w.heap.size w w1 := Only.new hB.out ho1 (Nat.le_refl _)
   have hFA := (HF.out _ hFm).below hB1
   have hgF := HG.out _ hFm
   have hst := sum_perm (g := g) (done_step hl HN.out hFm)
   rw [sum_cons] at hst
   have hsb := sum_sub (g := g) (c := 10000) (M := doneL L lf) (List.filter_sublist) HG.out
   have HCF := Lib.hid (HC.out w1 F hFA)
   have HST := Lib.hid hst
   have HR1 := Lib.hid hR1
   have HB1 := Lib.hid hB1
   have hlr := hR.out.left
   have hlr1 := hR1.left
   have HL : Hid (w1.rangeLeft b w.heap.size < wr.rangeLeft b w.heap.size) := by rw [hlr, hlr1]; exact hlt
   obtain ⟨z, hz⟩ : ∃ z, z = sumOf g (doneL L lf) := ⟨_, rfl⟩
   have hzb : z ≤ 1000000 := by have : L.length * 10000 ≤ 1000000 := by omega
                                omega
   rw [← hz] at HST ⊢
   obtain ⟨y, hy⟩ : ∃ y, y = g F := ⟨_, rfl⟩
   rw [← hy] at hgF HST HCF
   clear hs hm hl hR1 hlt ho1 hs1 hFm hB1 hFA hst hsb hlr hlr1 hz hy hB hR
   go_wp2
   refine HCF.out.mono ?_
   rintro e w' ⟨rfl, rfl⟩
   go_wp2
   go_roundw
   case rel => exact ⟨_, _, HR1.out, by rw [HST.out]; go_num, HB1.out⟩
   case measure => exact HL.out
theorem total_none (w : World) (d f : Nat) (c0 : w.cell? ⟨d, 0, none⟩ = some (.map none)) :
  Calls Tryz.prog 113 #[.pointer (some ⟨d, 0, none⟩), .func (.func f) #[] #[]] w fun e w' => e = .returned (.int .i64 0) ∧ Below w.heap.size w w' := by
 have hrg := fun w => run_range_nilMap (P := Tryz.prog) w 71 9 124 Tryz.underlying71
 have hnx := fun w ty => run_next_nilMap (P := Tryz.prog) w ty 0 0 #[]
 go_enter Tryz.func113, Tryz.ntmps113
 go_wp2
 go_loopw [5] (fun v wr => v = .int .i64 0 ∧ wr = w.alloc (.mapIter none 0 #[] 0)) (fun _ _ => 0)
 case atStart => exact ⟨rfl, rfl⟩
 case round =>
  obtain ⟨rfl, rfl⟩ := hrel
  go_wp2
  go_ret
  exact ⟨rfl, below_new _ _⟩
theorem enters {f : FuncId} {fn : Func} {c : Code} (hf : Tryz.prog.funcs[f]? = some fn) (hname : (fn.name == "runtime.NumGoroutine") = false) (hb : fn.body = some c) (args : Array Value) (w : World) :
  (callFunc f args).run Tryz.prog w = .ok (.enter f args) w := by
 have h1 : fn.name ≠ "runtime.NumGoroutine" := by simpa using hname
 simp [callFunc, hf, h1, hb]
theorem en_size : ∀ args w, (callFunc 93 args).run Tryz.prog w = .ok (.enter 93 args) w := fun args w => enters Tryz.func93 (by kernel_rfl) rfl args w
theorem en_dirty : ∀ args w, (callFunc 114 args).run Tryz.prog w = .ok (.enter 114 args) w := fun args w => enters Tryz.func114 (by kernel_rfl) rfl args w
theorem total_any (w : World) (d f : Nat) (m : Option Nat) (L : Files) (g : Fl → Nat) (c0 : w.cell? ⟨d, 0, none⟩ = some (.map m)) (hm : MapAt w m (dir L)) (hn : (L.map (·.1)).Nodup) (hF : FilesAt w L) (hg : ∀ p ∈ L, g p.2 ≤ 10000) (hlen : L.length ≤ 100)
  (hin : ∀ args w, (callFunc f args).run Tryz.prog w = .ok (.enter f args) w)
  (hc : ∀ W F, FileAt W F → Calls Tryz.prog f #[.pointer (some ⟨F.b, 0, none⟩)] W fun e w' => e = .returned (.int .i64 (g F)) ∧ W = w') :
  Calls Tryz.prog 113 #[.pointer (some ⟨d, 0, none⟩), .func (.func f) #[] #[]] w fun e w' => e = .returned (.int .i64 (sumOf g L)) ∧ Below w.heap.size w w' := by
 cases m with
 | some b => exact total_some w d b f L g c0 hm hn hF hg hlen hin hc
 | none =>
  have hL : L = [] := by
   rcases hm with ⟨_, h⟩ | ⟨b, D, h, _⟩
   ·exact List.map_eq_nil_iff.1 h
   ·cases h
  subst hL
  exact total_none w d f c0
theorem used_any (w : World) (d : Nat) (m : Option Nat) (L : Files) (c0 : w.cell? ⟨d, 0, none⟩ = some (.map m)) (hm : MapAt w m (dir L)) (hn : (L.map (·.1)).Nodup) (hF : FilesAt w L) (hok : ∀ p ∈ L, FileOk p.2) (hlen : L.length ≤ 100) :
  Calls Tryz.prog 76 #[.pointer (some ⟨d, 0, none⟩)] w fun e w' => e = .returned (.int .i64 (sumOf (fun F => F.secs.length) L)) ∧ Below w.heap.size w w' := by
 have H := Lib.hid (total_any w d 93 m L (fun F => F.secs.length) c0 hm hn hF (fun p hp => by have := (hok p hp).room; omega) hlen en_size (fun W F h => h.size))
 clear hm hn hF hok hlen
 go_enter Tryz.func76, Tryz.ntmps76
 go_wp2_with (go_at_call 113; (with_reducible refine H.out.mono ?_); rintro e w' ⟨rfl, hb⟩)
 go_ret
 exact ⟨rfl, hb⟩
theorem dirty_any (w : World) (d : Nat) (m : Option Nat) (L : Files) (c0 : w.cell? ⟨d, 0, none⟩ = some (.map m)) (hm : MapAt w m (dir L)) (hn : (L.map (·.1)).Nodup) (hF : FilesAt w L) (hok : ∀ p ∈ L, FileOk p.2) (hlen : L.length ≤ 100) :
  Calls Tryz.prog 78 #[.pointer (some ⟨d, 0, none⟩)] w fun e w' => e = .returned (.int .i64 (sumOf (fun F => F.ws.length) L)) ∧ Below w.heap.size w w' := by
 have H := Lib.hid (total_any w d 114 m L (fun F => F.ws.length) c0 hm hn hF (fun p hp => (hok p hp).few) hlen en_dirty (fun W F h => h.dirty))
 clear hm hn hF hok hlen
 go_enter Tryz.func78, Tryz.ntmps78
 go_wp2_with (go_at_call 113; (with_reducible refine H.out.mono ?_); rintro e w' ⟨rfl, hb⟩)
 go_ret
 exact ⟨rfl, hb⟩
end Go.Proofs.YtbkngnjkaledlaaGreat.P4
namespace Go.Proofs
open Go.Shelf
def Tryz.lays122_ren : Go.Shelf.Ren := ⟨fun | 122 => 117 | 215 => 146 | n => n, fun | 3 => 3 | 4 => 4 | n => n, fun | n => n⟩
theorem Tryz.lays122 : Go.Proofs.Lays.n122 Tryz.prog Tryz.lays122_ren := {
 mixed := by kernel_rfl
 f122 := Tryz.func117.trans (congrArg some (by kernel_rfl))
 f215 := Tryz.func146.trans (congrArg some (by kernel_rfl))
 t3 := Tryz.underlying3
 a3 := Tryz.isAgg3
 z3 := Tryz.sizeOf3
 v3 := Tryz.zeroValue3
 t4 := Tryz.underlying4
 a4 := Tryz.isAgg4
 z4 := Tryz.sizeOf4
 v4 := Tryz.zeroValue4 }
open Go.RowKit in
theorem Tryz.cmp_Compare_int (x y : Int) (w : World) :
  Calls Tryz.prog 117 #[.int .i64 x, .int .i64 y] w fun e w' => e = .returned (.int .i64 (Lib.compareInt x y)) ∧ w' = w := Any.cmp_Compare_int Tryz.lays122 x y w
def Tryz.laysM316_ren : Go.Shelf.Ren := ⟨fun | 316 => 82 | n => n, fun | 9 => 9 | 3 => 3 | 4 => 4 | 37 => 141 | 0 => 0 | 127 => 166 | 5 => 5 | n => n, fun | n => n⟩
theorem Tryz.laysM316 : Go.Proofs.LaysM.n316 Tryz.prog Tryz.laysM316_ren := {
 mixed := by kernel_rfl
 f316 := Tryz.func82.trans (congrArg some (by kernel_rfl))
 t0 := Tryz.underlying0
 a0 := Tryz.isAgg0
 z0 := Tryz.sizeOf0
 v0 := Tryz.zeroValue0
 t3 := Tryz.underlying3
 a3 := Tryz.isAgg3
 z3 := Tryz.sizeOf3
 v3 := Tryz.zeroValue3
 t4 := Tryz.underlying4
 a4 := Tryz.isAgg4
 z4 := Tryz.sizeOf4
 v4 := Tryz.zeroValue4
 t9 := Tryz.underlying9
 a9 := Tryz.isAgg9
 z9 := Tryz.sizeOf9
 v9 := Tryz.zeroValue9
 t37 := Tryz.underlying141
 a37 := Tryz.isAgg141
 z37 := Tryz.sizeOf141
 v37 := Tryz.zeroValue141
 t127 := Tryz.underlying166
 a127 := Tryz.isAgg166
 z127 := Tryz.sizeOf166
 v127 := Tryz.zeroValue166
 t5 := Tryz.underlying5
 a5 := Tryz.isAgg5
 z5 := Tryz.sizeOf5
 v5 := Tryz.zeroValue5
 i0 := by kernel_rfl
 i3 := by kernel_rfl
 i4 := by kernel_rfl
 i5 := by kernel_rfl
 i9 := by kernel_rfl
 i37 := by kernel_rfl
 i127 := by kernel_rfl }
open Go.RowKit in
theorem Tryz.stringslite_Clone (s : ByteArray) (w : World) (hlim : s.size ≤ 281474976710656) :
  Calls Tryz.prog 82 #[.string s] w fun e w' => e = .returned (.string s) ∧ Below w.heap.size w w' := Any.stringslite_Clone Tryz.laysM316 s w hlim
def Tryz.lays190_ren : Go.Shelf.Ren := ⟨fun | 190 => 112 | 125 => 144 | 258 => 143 | 128 => 165 | 129 => 166 | 302 => 156 | 303 => 157 | 304 => 158 | 305 => 159 | 306 => 160 | 307 => 161 | 308 => 162 | 309 => 163 | 310 => 164 | 333 => 181 | 329 => 182 | 330 => 183 | 334 => 184 | 335 => 185 | 336 => 186 | 344 => 193 | n => n, fun | 31 => 99 | 9 => 9 | 3 => 3 | 46 => 176 | 0 => 0 | 51 => 173 | 53 => 130 | 4 => 4 | 183 => 210 | 182 => 209 | 131 => 214 | 5 => 5 | 218 => 229 | 222 => 233 | 228 => 239 | 229 => 240 | n => n, fun | n => n⟩
theorem Tryz.lays190 : Go.Proofs.Lays.n190 Tryz.prog Tryz.lays190_ren := {
 mixed := by kernel_rfl
 f125 := Tryz.func144.trans (congrArg some (by kernel_rfl))
 f128 := Tryz.func165.trans (congrArg some (by kernel_rfl))
 f129 := Tryz.func166.trans (congrArg some (by kernel_rfl))
 f190 := Tryz.func112.trans (congrArg some (by kernel_rfl))
 f258 := Tryz.func143.trans (congrArg some (by kernel_rfl))
 f302 := Tryz.func156.trans (congrArg some (by kernel_rfl))
 f303 := Tryz.func157.trans (congrArg some (by kernel_rfl))
 f304 := Tryz.func158.trans (congrArg some (by kernel_rfl))
 f305 := Tryz.func159.trans (congrArg some (by kernel_rfl))
 f306 := Tryz.func160.trans (congrArg some (by kernel_rfl))
 f307 := Tryz.func161.trans (congrArg some (by kernel_rfl))
 f308 := Tryz.func162.trans (congrArg some (by kernel_rfl))
 f309 := Tryz.func163.trans (congrArg some (by kernel_rfl))
 f310 := Tryz.func164.trans (congrArg some (by kernel_rfl))
 f329 := Tryz.func182.trans (congrArg some (by kernel_rfl))
 f330 := Tryz.func183.trans (congrArg some (by kernel_rfl))
 f333 := Tryz.func181.trans (congrArg some (by kernel_rfl))
 f334 := Tryz.func184.trans (congrArg some (by kernel_rfl))
 f335 := Tryz.func185.trans (congrArg some (by kernel_rfl))
 f336 := Tryz.func186.trans (congrArg some (by kernel_rfl))
 f344 := Tryz.func193.trans (congrArg some (by kernel_rfl))
 t0 := Tryz.underlying0
 a0 := Tryz.isAgg0
 z0 := Tryz.sizeOf0
 v0 := Tryz.zeroValue0
 t3 := Tryz.underlying3
 a3 := Tryz.isAgg3
 z3 := Tryz.sizeOf3
 v3 := Tryz.zeroValue3
 t4 := Tryz.underlying4
 a4 := Tryz.isAgg4
 z4 := Tryz.sizeOf4
 v4 := Tryz.zeroValue4
 t5 := Tryz.underlying5
 a5 := Tryz.isAgg5
 z5 := Tryz.sizeOf5
 v5 := Tryz.zeroValue5
 t9 := Tryz.underlying9
 a9 := Tryz.isAgg9
 z9 := Tryz.sizeOf9
 v9 := Tryz.zeroValue9
 t31 := Tryz.underlying99
 a31 := Tryz.isAgg99
 z31 := Tryz.sizeOf99
 v31 := Tryz.zeroValue99
 t46 := Tryz.underlying176
 a46 := Tryz.isAgg176
 z46 := Tryz.sizeOf176
 v46 := Tryz.zeroValue176
 t51 := Tryz.underlying173
 a51 := Tryz.isAgg173
 z51 := Tryz.sizeOf173
 v51 := Tryz.zeroValue173
 t53 := Tryz.underlying130
 a53 := Tryz.isAgg130
 z53 := Tryz.sizeOf130
 v53 := Tryz.zeroValue130
 t131 := Tryz.underlying214
 a131 := Tryz.isAgg214
 z131 := Tryz.sizeOf214
 v131 := Tryz.zeroValue214
 t182 := Tryz.underlying209
 a182 := Tryz.isAgg209
 z182 := Tryz.sizeOf209
 v182 := Tryz.zeroValue209
 t183 := Tryz.underlying210
 a183 := Tryz.isAgg210
 z183 := Tryz.sizeOf210
 v183 := Tryz.zeroValue210
 t218 := Tryz.underlying229
 a218 := Tryz.isAgg229
 z218 := Tryz.sizeOf229
 v218 := Tryz.zeroValue229
 t222 := Tryz.underlying233
 a222 := Tryz.isAgg233
 z222 := Tryz.sizeOf233
 v222 := Tryz.zeroValue233
 t228 := Tryz.underlying239
 a228 := Tryz.isAgg239
 z228 := Tryz.sizeOf239
 v228 := Tryz.zeroValue239
 t229 := Tryz.underlying240
 a229 := Tryz.isAgg240
 z229 := Tryz.sizeOf240
 v229 := Tryz.zeroValue240 }
open Go.Sort Go.RowKit in
theorem Tryz.slices_Sort_string (blk off cap : Nat) (ss : List (List UInt8)) (w : World) (hH : Holds encStr w blk off ss.toArray) (hblk : blk < w.heap.size) (hsz : ss.length < 4611686018427387904) :
  Calls Tryz.prog 112 #[.slice (some ⟨blk, off, none⟩) ss.length cap] w fun e w' =>
   e = .returned (.tuple #[]) ∧ ∃ n os, w' = grow (putRow encStr (Sort.ahead w n) blk off (ss.mergeSort fun x y => decide (x ≤ y)).toArray) os := Any.slices_Sort_string Tryz.lays190 blk off cap ss w hH hblk hsz
def Tryz.lays99_ren : Go.Shelf.Ren := ⟨fun | 99 => 111 | 206 => 142 | n => n, fun | 9 => 9 | 4 => 4 | 3 => 3 | n => n, fun | n => n⟩
theorem Tryz.lays99 : Go.Proofs.Lays.n99 Tryz.prog Tryz.lays99_ren := {
 mixed := by kernel_rfl
 f99 := Tryz.func111.trans (congrArg some (by kernel_rfl))
 f206 := Tryz.func142.trans (congrArg some (by kernel_rfl))
 t3 := Tryz.underlying3
 a3 := Tryz.isAgg3
 z3 := Tryz.sizeOf3
 v3 := Tryz.zeroValue3
 t4 := Tryz.underlying4
 a4 := Tryz.isAgg4
 z4 := Tryz.sizeOf4
 v4 := Tryz.zeroValue4
 t9 := Tryz.underlying9
 a9 := Tryz.isAgg9
 z9 := Tryz.sizeOf9
 v9 := Tryz.zeroValue9 }
open Go.RowKit Go.Lib in
theorem Tryz.strings_HasPrefix (s p : ByteArray) (w : World) :
  Calls Tryz.prog 111 #[.string s, .string p] w fun e w' => e = .returned (.bool (Lib.hasPrefix s.data.toList p.data.toList)) ∧ w' = w := Any.strings_HasPrefix Tryz.lays99 s p w
def Tryz.lays105_ren : Go.Shelf.Ren := ⟨fun | 105 => 91 | 212 => 128 | 99 => 111 | 165 => 129 | 166 => 130 | 170 => 131 | 169 => 132 | 263 => 151 | 264 => 152 | 206 => 142 | 240 => 153 | 241 => 154 | 276 => 178 | 277 => 179 | n => n, fun | 9 => 9 | 3 => 3 | 4 => 4 | 20 => 20 | 0 => 0 | 46 => 176 | 109 => 177 | 5 => 5 | 72 => 181 | 76 => 184 | 51 => 173 | 146 => 201 | 53 => 130 | 148 => 203 | 70 => 179 | 37 => 141 | 75 => 183 | 127 => 166 | 164 => 226 | 80 => 67 | n => n, fun | n => n⟩
theorem Tryz.lays105 : Go.Proofs.Lays.n105 Tryz.prog Tryz.lays105_ren := {
 mixed := by kernel_rfl
 f99 := Tryz.func111.trans (congrArg some (by kernel_rfl))
 f105 := Tryz.func91.trans (congrArg some (by kernel_rfl))
 f165 := Tryz.func129.trans (congrArg some (by kernel_rfl))
 f166 := Tryz.func130.trans (congrArg some (by kernel_rfl))
 f169 := Tryz.func132.trans (congrArg some (by kernel_rfl))
 f170 := Tryz.func131.trans (congrArg some (by kernel_rfl))
 f206 := Tryz.func142.trans (congrArg some (by kernel_rfl))
 f212 := Tryz.func128.trans (congrArg some (by kernel_rfl))
 f240 := Tryz.func153.trans (congrArg some (by kernel_rfl))
 f241 := Tryz.func154.trans (congrArg some (by kernel_rfl))
 f263 := Tryz.func151.trans (congrArg some (by kernel_rfl))
 f264 := Tryz.func152.trans (congrArg some (by kernel_rfl))
 f276 := Tryz.func178.trans (congrArg some (by kernel_rfl))
 f277 := Tryz.func179.trans (congrArg some (by kernel_rfl))
 t0 := Tryz.underlying0
 a0 := Tryz.isAgg0
 z0 := Tryz.sizeOf0
 v0 := Tryz.zeroValue0
 t3 := Tryz.underlying3
 a3 := Tryz.isAgg3
 z3 := Tryz.sizeOf3
 v3 := Tryz.zeroValue3
 t4 := Tryz.underlying4
 a4 := Tryz.isAgg4
 z4 := Tryz.sizeOf4
 v4 := Tryz.zeroValue4
 t5 := Tryz.underlying5
 a5 := Tryz.isAgg5
 z5 := Tryz.sizeOf5
 v5 := Tryz.zeroValue5
 t9 := Tryz.underlying9
 a9 := Tryz.isAgg9
 z9 := Tryz.sizeOf9
 v9 := Tryz.zeroValue9
 t20 := Tryz.underlying20
 a20 := Tryz.isAgg20
 z20 := Tryz.sizeOf20
 v20 := Tryz.zeroValue20
 t37 := Tryz.underlying141
 a37 := Tryz.isAgg141
 z37 := Tryz.sizeOf141
 v37 := Tryz.zeroValue141
 t46 := Tryz.underlying176
 a46 := Tryz.isAgg176
 z46 := Tryz.sizeOf176
 v46 := Tryz.zeroValue176
 t51 := Tryz.underlying173
 a51 := Tryz.isAgg173
 z51 := Tryz.sizeOf173
 v51 := Tryz.zeroValue173
 t53 := Tryz.underlying130
 a53 := Tryz.isAgg130
 z53 := Tryz.sizeOf130
 v53 := Tryz.zeroValue130
 t70 := Tryz.underlying179
 a70 := Tryz.isAgg179
 z70 := Tryz.sizeOf179
 v70 := Tryz.zeroValue179
 t72 := Tryz.underlying181
 a72 := Tryz.isAgg181
 z72 := Tryz.sizeOf181
 v72 := Tryz.zeroValue181
 t75 := Tryz.underlying183
 a75 := Tryz.isAgg183
 z75 := Tryz.sizeOf183
 v75 := Tryz.zeroValue183
 t76 := Tryz.underlying184
 a76 := Tryz.isAgg184
 z76 := Tryz.sizeOf184
 v76 := Tryz.zeroValue184
 t109 := Tryz.underlying177
 a109 := Tryz.isAgg177
 z109 := Tryz.sizeOf177
 v109 := Tryz.zeroValue177
 t127 := Tryz.underlying166
 a127 := Tryz.isAgg166
 z127 := Tryz.sizeOf166
 v127 := Tryz.zeroValue166
 t146 := Tryz.underlying201
 a146 := Tryz.isAgg201
 z146 := Tryz.sizeOf201
 v146 := Tryz.zeroValue201
 t148 := Tryz.underlying203
 a148 := Tryz.isAgg203
 z148 := Tryz.sizeOf203
 v148 := Tryz.zeroValue203
 t164 := Tryz.underlying226
 a164 := Tryz.isAgg226
 z164 := Tryz.sizeOf226
 v164 := Tryz.zeroValue226 }
theorem Tryz.Builder_Extra_105 : Builder.Extra Tryz.prog Tryz.lays105_ren := {
 sizeBuilder := by kernel_rfl
 liesBuilder := by kernel_rfl
 t5 := Tryz.underlying5
 a5 := Tryz.isAgg5
 z5 := Tryz.sizeOf5
 v5 := Tryz.zeroValue5
 infoByte := by kernel_rfl
 cellsByte := by kernel_rfl
 sizeByte := by kernel_rfl
 neB5 := by decide }
open Go.RowKit Go.Lib in
theorem Tryz.strings_Repeat (s : ByteArray) (c : Nat) (w : World) (hc : c ≤ 9223372036854775807) (hlen : s.size * c ≤ 140737488355328) :
  Calls Tryz.prog 91 #[.string s, .int .i64 c] w fun e w' => e = .returned (.string ⟨(Lib.repeatL s.data.toList c).toArray⟩) ∧ Below w.heap.size w w' := Any.strings_Repeat Tryz.lays105 Tryz.Builder_Extra_105 s c w hc hlen
def Tryz.laysNm215_ren : Go.Shelf.Ren := ⟨fun | 15 => 104 | n => n, fun | 22 => 29 | 3 => 3 | 4 => 4 | n => n, fun | n => n⟩
theorem Tryz.laysNm215 : Go.Proofs.Lays2.n15 Tryz.prog Tryz.laysNm215_ren := {
 mixed := by kernel_rfl
 f15 := Tryz.func104.trans (congrArg some (by kernel_rfl))
 t3 := Tryz.underlying3
 a3 := Tryz.isAgg3
 z3 := Tryz.sizeOf3
 v3 := Tryz.zeroValue3
 t4 := Tryz.underlying4
 a4 := Tryz.isAgg4
 z4 := Tryz.sizeOf4
 v4 := Tryz.zeroValue4
 t22 := Tryz.underlying29
 a22 := Tryz.isAgg29
 z22 := Tryz.sizeOf29
 v22 := Tryz.zeroValue29
 i3 := by kernel_rfl }
open Go.RowKit Go.Lib in
theorem Tryz.slices_Clone_int (b off n c : Nat) (zs : List Int) (w : World) (hz : n ≤ zs.length) (hbig : n * 8 ≤ 140737488355328) (hc : ∀ j, j < zs.length → w.cell? ⟨b, off + j, none⟩ = some (.int .i64 (zs.getD j 0))) :
  Calls Tryz.prog 104 #[.slice (some ⟨b, off, none⟩) n c] w fun e w' => ∃ v', e = .returned v' ∧ w'.ownsRow w.heap.size 3 1 v' n ((zs.take n).map (Value.int .i64)) ∧ v' ≠ .slice none 0 0 ∧ Below w.heap.size w w' := Any.slices_Clone_int Tryz.laysNm215 b off n c zs w hz hbig hc
def Tryz.sortF_ren : Go.Shelf.Ren := ⟨fun | 6 => 115 | 15 => 144 | 14 => 145 | 28 => 165 | 29 => 166 | 20 => 167 | 21 => 168 | 22 => 169 | 23 => 170 | 24 => 171 | 25 => 172 | 26 => 173 | 27 => 174 | 46 => 187 | 47 => 182 | 48 => 183 | 49 => 188 | 50 => 189 | 57 => 194 | n => n, fun | 22 => 119 | 24 => 121 | 25 => 163 | 3 => 3 | 39 => 176 | 0 => 0 | 53 => 173 | 55 => 130 | 4 => 4 | 46 => 210 | 45 => 209 | 50 => 214 | 5 => 5 | 9 => 9 | 66 => 229 | 70 => 233 | 76 => 239 | 77 => 240 | n => n, fun | n => n⟩
theorem Tryz.sortF : Go.Proofs.SlLaysF.n6 Tryz.prog Tryz.sortF_ren := {
 mixed := by kernel_rfl
 f6 := ⟨Tryz.f115.name, by decide, Tryz.func115.trans (congrArg some (by kernel_rfl))⟩
 f14 := ⟨Tryz.f145.name, by decide, Tryz.func145.trans (congrArg some (by kernel_rfl))⟩
 f15 := Tryz.func144.trans (congrArg some (by kernel_rfl))
 f20 := ⟨Tryz.f167.name, by decide, Tryz.func167.trans (congrArg some (by kernel_rfl))⟩
 f21 := ⟨Tryz.f168.name, by decide, Tryz.func168.trans (congrArg some (by kernel_rfl))⟩
 f22 := ⟨Tryz.f169.name, by decide, Tryz.func169.trans (congrArg some (by kernel_rfl))⟩
 f23 := ⟨Tryz.f170.name, by decide, Tryz.func170.trans (congrArg some (by kernel_rfl))⟩
 f24 := ⟨Tryz.f171.name, by decide, Tryz.func171.trans (congrArg some (by kernel_rfl))⟩
 f25 := ⟨Tryz.f172.name, by decide, Tryz.func172.trans (congrArg some (by kernel_rfl))⟩
 f26 := ⟨Tryz.f173.name, by decide, Tryz.func173.trans (congrArg some (by kernel_rfl))⟩
 f27 := ⟨Tryz.f174.name, by decide, Tryz.func174.trans (congrArg some (by kernel_rfl))⟩
 f28 := Tryz.func165.trans (congrArg some (by kernel_rfl))
 f29 := Tryz.func166.trans (congrArg some (by kernel_rfl))
 f46 := ⟨Tryz.f187.name, by decide, Tryz.func187.trans (congrArg some (by kernel_rfl))⟩
 f47 := Tryz.func182.trans (congrArg some (by kernel_rfl))
 f48 := Tryz.func183.trans (congrArg some (by kernel_rfl))
 f49 := ⟨Tryz.f188.name, by decide, Tryz.func188.trans (congrArg some (by kernel_rfl))⟩
 f50 := ⟨Tryz.f189.name, by decide, Tryz.func189.trans (congrArg some (by kernel_rfl))⟩
 f57 := ⟨Tryz.f194.name, by decide, Tryz.func194.trans (congrArg some (by kernel_rfl))⟩
 t0 := Tryz.underlying0
 a0 := Tryz.isAgg0
 z0 := Tryz.sizeOf0
 v0 := Tryz.zeroValue0
 t3 := Tryz.underlying3
 a3 := Tryz.isAgg3
 z3 := Tryz.sizeOf3
 v3 := Tryz.zeroValue3
 t4 := Tryz.underlying4
 a4 := Tryz.isAgg4
 z4 := Tryz.sizeOf4
 v4 := Tryz.zeroValue4
 t5 := Tryz.underlying5
 a5 := Tryz.isAgg5
 z5 := Tryz.sizeOf5
 v5 := Tryz.zeroValue5
 t9 := Tryz.underlying9
 a9 := Tryz.isAgg9
 z9 := Tryz.sizeOf9
 v9 := Tryz.zeroValue9
 t22 := Tryz.underlying119
 a22 := Tryz.isAgg119
 z22 := Tryz.sizeOf119
 v22 := Tryz.zeroValue119
 a24 := Tryz.isAgg121
 z24 := Tryz.sizeOf121
 t25 := Tryz.underlying163
 a25 := Tryz.isAgg163
 z25 := Tryz.sizeOf163
 v25 := Tryz.zeroValue163
 t39 := Tryz.underlying176
 a39 := Tryz.isAgg176
 z39 := Tryz.sizeOf176
 v39 := Tryz.zeroValue176
 t45 := Tryz.underlying209
 a45 := Tryz.isAgg209
 z45 := Tryz.sizeOf209
 v45 := Tryz.zeroValue209
 t46 := Tryz.underlying210
 a46 := Tryz.isAgg210
 z46 := Tryz.sizeOf210
 v46 := Tryz.zeroValue210
 t50 := Tryz.underlying214
 a50 := Tryz.isAgg214
 z50 := Tryz.sizeOf214
 v50 := Tryz.zeroValue214
 t53 := Tryz.underlying173
 a53 := Tryz.isAgg173
 z53 := Tryz.sizeOf173
 v53 := Tryz.zeroValue173
 t55 := Tryz.underlying130
 a55 := Tryz.isAgg130
 z55 := Tryz.sizeOf130
 v55 := Tryz.zeroValue130
 t66 := Tryz.underlying229
 a66 := Tryz.isAgg229
 z66 := Tryz.sizeOf229
 v66 := Tryz.zeroValue229
 t70 := Tryz.underlying233
 a70 := Tryz.isAgg233
 z70 := Tryz.sizeOf233
 v70 := Tryz.zeroValue233
 t76 := Tryz.underlying239
 a76 := Tryz.isAgg239
 z76 := Tryz.sizeOf239
 v76 := Tryz.zeroValue239
 t77 := Tryz.underlying240
 a77 := Tryz.isAgg240
 z77 := Tryz.sizeOf240
 v77 := Tryz.zeroValue240 }
end Go.Proofs
