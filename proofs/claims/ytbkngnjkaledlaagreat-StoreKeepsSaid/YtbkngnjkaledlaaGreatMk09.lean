/-
  Texts of the proof of SaidKeeps8, side by side: Dk9, Dk13.
-/
import Derived.Test.YtbkngnjkaledlaaGreatMk08
import Derived.Test.YtbkngnjkaledlaaGreatMk02
import Derived.Laws.IdiomRangeMap
/-
  Package disk: Cut on a file, in a file's words. (Disk, part 9.)
-/
namespace Go.Proofs.YtbkngnjkaledlaaGreat.P4
open Go Go.RowKit Go.Lib Go.Proofs.YtbkngnjkaledlaaGreat.P3

theorem Fl.cut_all (F : Fl) (ok : FileOk F) : F.cut F.sl F.secs.length = F := by
  unfold Fl.cut
  rw [List.take_length, Nat.min_eq_left ok.nsle, List.filter_eq_self.2 (fun x hx => by simpa using ok.pos x hx)]

theorem FileAt.cut {w : World} {F : Fl} (h : FileAt w F) (ok : FileOk F) (n : Nat) (hn : n ≤ F.secs.length) :
    Calls Tryz.prog 100 #[.pointer (some ⟨F.b, 0, none⟩), .int .i64 n] w fun e w' => e = .returned (.tuple #[]) ∧ ∃ sl, FileAt w' (F.cut sl n) ∧ sl.ownBlock = F.sl.ownBlock ∧ Fr F.foot w w' := by
  by_cases he : n = F.secs.length
  · subst he
    refine (cut_none h ok).mono ?_
    rintro e w' ⟨rfl, k, rfl⟩
    have hne : ∀ g, F.sl.ownBlock = some g → g ≠ F.b := fun g hg e => h.ne_row.1 g hg e.symm
    refine ⟨rfl, F.sl, ?_, rfl, .only ((((Only.refl F.b w).drewN k).setCell _ _).setCell _ _) (.inl rfl)⟩
    rw [F.cut_all ok]
    refine ⟨?_, owns_keep h.row (fun g hg => ?_), seg_keep h.seg (fun x hx => ?_), h.nodup⟩
    · have := set_at (set_at (w := w.drewN k) h.blk 0 F.sl) 1 (.int .i64 F.ns)
      rw [this]
      rfl
    · rw [Below.heap_setCell _ _ _ _ (hne g hg), Below.heap_setCell _ _ _ _ (hne g hg)]; rfl
    · obtain ⟨_, _, hx'⟩ := seg_mem h.seg x hx
      have hxb : x.b ≠ F.b := block_ne hx' h.blk (by decide)
      rw [Below.heap_setCell _ _ _ _ hxb, Below.heap_setCell _ _ _ _ hxb]; rfl
  · obtain ⟨g, cap, cur, hv, hg, _⟩ := owns_some h.row (by omega)
    refine (cut_walk h ok n (by omega) g cap hv).mono ?_
    rintro e w' ⟨rfl, wr, w2, hS, hr, ho, rfl⟩
    have hbg : F.b ≠ g := block_ne h.blk hg (by decide)
    have hgb : g ≠ F.b := hbg.symm
    have hl : (F.secs.take n).length = n := by rw [List.length_take]; omega
    refine ⟨rfl, .slice (some ⟨g, 0, none⟩) n cap, ⟨?_, ?_, ?_, hS.nodup⟩, by rw [hv]; rfl, ?_⟩
    · have := set_at (set_at (ho.keep hS.blk hbg) 0 (.slice (some ⟨g, 0, none⟩) n cap)) 1 (.int .i64 (min F.ns n : Nat))
      exact this
    · show World.ownsRow _ _ _ _ _ (F.secs.take n).length (secsCells (F.secs.take n))
      rw [hl]
      refine owns_keep hr (fun g' hg' => ?_)
      have hg2 : (Value.slice (some ⟨g, 0, none⟩) n cap).ownBlock = some g' := hg'
      obtain rfl : g = g' := by simpa [Value.ownBlock] using hg2
      rw [Below.heap_setCell _ _ _ _ hgb, Below.heap_setCell _ _ _ _ hgb]
    · refine seg_keep hS.seg (fun x hx => ?_)
      obtain ⟨_, _, hx'⟩ := seg_mem hS.seg x hx
      have hxb : x.b ≠ F.b := block_ne hx' hS.blk (by decide)
      have hxg : x.b ≠ g := h.ne_row.2 g (by rw [hv]; rfl) x (hS.sub x hx)
      rw [Below.heap_setCell _ _ _ _ hxb, Below.heap_setCell _ _ _ _ hxb]
      exact ho.block _ (lt_of_block hx') hxg
    · have f1 : Fr F.foot w wr := hS.fr.mono (fun k _ hk => hk.imp id (fun e => .inr e))
      exact (f1.trans (.only ho (.inr (.inl (by rw [hv]; rfl))))).trans (.only (((Only.refl F.b _).setCell _ _).setCell _ _) (.inl rfl))

end Go.Proofs.YtbkngnjkaledlaaGreat.P4

/-
  Package disk: a range over the map of files; a disk in memory. (Disk, part 13.)
-/
namespace Go.Proofs.YtbkngnjkaledlaaGreat.P4
open Go Go.RowKit Go.Lib Go.Maps Go.ChangeMaps Go.MapKept Go.Proofs.YtbkngnjkaledlaaGreat.P3

/-- a loop over the map in block b, its iterator in block r: lf tells which names are still to come -/
def Rng (w : World) (b r : Nat) (L : Dir) (lf : List UInt8 → Bool) (cnt : Nat) : Prop :=
  ∃ n D left, w.ranges Tryz.prog 9 Rf b r n D left cnt ∧ Looks D L ∧ ∀ k, left (.string k) = lf k
theorem Rng.left {w : World} {b r : Nat} {L : Dir} {lf : List UInt8 → Bool} {cnt : Nat} (h : Rng w b r L lf cnt) : w.rangeLeft b r = cnt := by
  obtain ⟨n, D, left, h, _⟩ := h
  exact h.left_eq
theorem Rng.fr {S : Nat → Prop} {w w' : World} {b r : Nat} {L : Dir} {lf : List UInt8 → Bool} {cnt : Nat} (h : Rng w b r L lf cnt) (hf : Fr S w w') (hb : ¬ S b) (hr : ¬ S r) : Rng w' b r L lf cnt := by
  obtain ⟨n, D, left, ⟨es, clock, since, seen, c0, h1, h2, h3, h4, h5, rest⟩, hl, he⟩ := h
  exact ⟨n, D, left, ⟨es, clock, since, seen, c0, hf.keep h1 hb, h2, h3, h4, hf.keep h5 hr, rest⟩, hl, he⟩
theorem Rng.map {w : World} {b r : Nat} {L : Dir} {lf : List UInt8 → Bool} {cnt : Nat} (h : Rng w b r L lf cnt) : MapAt w (some b) L := by
  obtain ⟨n, D, left, h, hl, _⟩ := h
  refine .inr ⟨b, D, rfl, ?_, hl⟩
  rw [← hl.size]
  exact owns_tight h.owns
theorem Rng.drew {w : World} {b r : Nat} {L : Dir} {lf : List UInt8 → Bool} {cnt : Nat} (h : Rng w b r L lf cnt) : Rng w.drew b r L lf cnt := h.fr (S := fun _ => False) (.of (Below.refl _ _).drew) id id
theorem Rng.lts {w : World} {b r : Nat} {L : Dir} {lf : List UInt8 → Bool} {cnt : Nat} (h : Rng w b r L lf cnt) : b < w.heap.size ∧ r < w.heap.size ∧ b ≠ r := by
  obtain ⟨n, D, left, ⟨es, clock, since, seen, c0, h1, h2, h3, h4, h5, rest⟩, _⟩ := h
  refine ⟨lt_of_block h1, lt_of_block h5, ?_⟩
  rintro rfl
  rw [h1] at h5
  cases h5
theorem same_lit (a b : List UInt8) : (Lit.string a).sameKey (.string b) = (a == b) := by
  by_cases h : a = b
  · subst h
    rw [WideAt.sameKey_self (slit a)]
    simp
  · have h2 : (a == b) = false := by simpa using h
    rw [h2]
    exact sameKey_ne (fun e => h (string_lit e))

section
variable {w : World} {ops : Array Oper} {rest : List Oper} {o : Oper} {a : Act} {Q : Exit → Act → World → Prop}
theorem wpList_range_sf (hg : o.guard = none) (m : Operand) (hop : o.op = Op.range 71 m) (b : Nat) (L : Dir) (hm : a.eval m = .map (some b)) (h : MapAt w (some b) L)
    (hK : ∀ w', Rng w' b w.heap.size L (fun k => (lk L k).isSome) L.length → Below w.heap.size w w' → w'.heap.size = w.heap.size + 1 → wpList Tryz.prog ops Q rest (a.put o.dst (.pointer (some ⟨w.heap.size, 0, none⟩))) w') :
    wpList Tryz.prog ops Q (o :: rest) a w := by
  rcases h with ⟨h, _⟩ | ⟨b', D, e, ho, hl⟩
  · cases h
  obtain rfl : b = b' := by simpa using e
  refine wpList_range_own w hg m 71 hop 9 124 lawS Tryz.underlying71 Rf b L.length D hm ho fun w' h1 h2 h3 => hK w' ?_ ?_ h3
  · rw [hl.size] at h1
    exact ⟨_, D, _, h1, hl, fun k => lk_has hl k⟩
  · exact ⟨h2.os, h2.tape, h2.output, h2.size, fun k hk => h2.block k hk (by simp)⟩
theorem wpList_next_sf (hg : o.guard = none) (it : Operand) (hop : o.op = Op.next it false) (b r : Nat) (L : Dir) (lf : List UInt8 → Bool) (cnt : Nat) (hit : a.eval it = .pointer (some ⟨r, 0, none⟩)) (h : Rng w b r L lf cnt)
    (hDone : (∀ k, lf k = false) → wpList Tryz.prog ops Q rest (a.put o.dst (.tuple #[.bool false])) w)
    (hMore : ∀ (s : ByteArray) (fb : Nat) (w' : World) (cnt' : Nat), s.size ≤ maxLen → (s.data.toList, fb) ∈ L → lf s.data.toList = true → Rng w' b r L (fun k => lf k && !(k == s.data.toList)) cnt' → cnt' < cnt →
      Only r w w' → w'.heap.size = w.heap.size → (Instr.entry (.pointer (some ⟨r, 0, none⟩))).run Tryz.prog w' = .ok (.tuple #[.string s, .pointer (some ⟨fb, 0, none⟩)]) w' → wpList Tryz.prog ops Q rest (a.put o.dst (.tuple #[.bool true, .string s, .pointer (some ⟨fb, 0, none⟩)])) w') :
    wpList Tryz.prog ops Q (o :: rest) a w := by
  obtain ⟨n, D, left, hr, hl, he⟩ := h
  refine wpList_next_ranges (α := ByteArray) (β := Option Nat) w hg it hop 9 lawS Rf (fun s => .string s) ptr (fun key kl hk => ?_) (fun v y hv => ?_) b r n D left cnt hit hr (fun _ hno => hDone (fun k => by rw [← he k]; exact hno _)) (fun x c kl y w' cnt' hk hlk hv hat hr' hlt hg' hs' hen => ?_)
  · obtain ⟨s, rfl, _⟩ := WideMaps.string_of_keyOf Tryz.underlying9 hk
    exact ⟨s, rfl⟩
  · obtain ⟨o, rfl, _⟩ := rf_inv hv
    exact ⟨o, rfl⟩
  · obtain ⟨s, e1, rfl, hs⟩ := WideMaps.string_of_keyOf Tryz.underlying9 hk
    obtain rfl : x = s := by simpa using e1
    have h1 : lf x.data.toList = true := by rw [← he]; exact hlk
    have h2 : Maps.has D (.string x.data.toList) = true := has_true_of_atKey hat
    obtain ⟨fb, hfb⟩ := hl.has _ h2
    have h3 := hat (enF 0)
    rw [hl.here _ fb hfb] at h3
    obtain ⟨o, e2, e3⟩ := rf_inv hv
    have e4 : c = some fb := by
      rw [e3] at h3
      have h4 := enF_inj h3
      cases o with
      | none =>
        exfalso
        have h5 : (fb : Int) = -1 := h4
        omega
      | some o =>
        have h5 : (fb : Int) = (o : Int) := h4
        obtain rfl : fb = o := by omega
        cases c with
        | none => cases e2
        | some c =>
          have : c = fb := by simpa [ptr] using e2
          rw [this]
    subst e4
    refine hMore x fb w' cnt' hs hfb h1 ⟨n, D, _, hr', hl, fun k => ?_⟩ hlt ⟨hg'.os, hg'.tape, hg'.output, hg'.size, fun k hk hne => hg'.block k hk (fun e => hne (by simpa using e))⟩ hs' hen
    show (left (.string k) && !(Lit.string k).sameKey _) = _
    rw [he, same_lit]
theorem wpList_delete_sf (hg : o.guard = none) (m x : Operand) (hop : o.op = Op.call { callee := Callee.builtin Builtin.delete, args := #[m, x], argTypes := #[71, 9] }) (b r : Nat) (L : Dir) (lf : List UInt8 → Bool) (cnt : Nat) (hn : (L.map (·.1)).Nodup)
    (hm : a.eval m = .map (some b)) (h : Rng w b r L lf cnt) (s : ByteArray) (hs : s.size ≤ maxLen) (hx : a.eval x = .string s)
    (hK : ∀ w' cnt', Rng w' b r (delL L s.data.toList) (fun k => lf k && !(k == s.data.toList)) cnt' → cnt' ≤ cnt → Only b w w' → w'.heap.size = w.heap.size → wpList Tryz.prog ops Q rest (a.put o.dst (.tuple #[])) w') :
    wpList Tryz.prog ops Q (o :: rest) a w := by
  obtain ⟨n, D, left, hr, hl, he⟩ := h
  refine wpList_delete_ranges w hg m x 71 9 hop 124 lawS Tryz.underlying71 Rf b r n D left cnt hm hr (.string s) (.string s.data.toList) hx (keyS hs) fun w' cnt' h1 h2 h3 => hK w' cnt' ?_ h2 ?_ ?_
  · refine ⟨n, _, _, h1, looks_del hl (hr.owns.tidy lawS) hn _, fun k => ?_⟩
    show (left (.string k) && !(Lit.string k).sameKey _) = _
    rw [he, same_lit]
  · obtain ⟨es, clock, es', clock', hb, rfl⟩ := h3
    exact ⟨rfl, rfl, rfl, by simp [setBlock], fun k hk hne => heap_setBlock_other hb _ hne⟩
  · obtain ⟨es, clock, es', clock', hb, rfl⟩ := h3
    simp [setBlock]
end

abbrev Files := List (List UInt8 × Fl)
def dir (L : Files) : Dir := L.map fun p => (p.1, p.2.b)
theorem dir_names (L : Files) : (dir L).map (·.1) = L.map (·.1) := by simp [dir]
theorem dir_mem {L : Files} {n : List UInt8} {b : Nat} (h : (n, b) ∈ dir L) : ∃ F, (n, F) ∈ L ∧ F.b = b := by
  obtain ⟨⟨n', F⟩, h1, h2⟩ := List.mem_map.1 h
  simp only [Prod.mk.injEq] at h2
  obtain ⟨rfl, rfl⟩ := h2
  exact ⟨F, h1, rfl⟩
/-- those that came -/
def doneL (L : Files) (lf : List UInt8 → Bool) : Files := L.filter (fun p => !lf p.1)
theorem done_step {n : List UInt8} {F : Fl} {lf : List UInt8 → Bool} (hlf : lf n = true) : ∀ {L : Files}, (L.map (·.1)).Nodup → (n, F) ∈ L → (doneL L (fun k => lf k && !(k == n))).Perm ((n, F) :: doneL L lf) := by
  intro L
  induction L with
  | nil => intro _ h; simp at h
  | cons p r ih =>
    intro hn hm
    rw [List.map_cons, List.nodup_cons] at hn
    unfold doneL at *
    by_cases e : p.1 = n
    · have hp : p = (n, F) := by
        rcases List.mem_cons.1 hm with e2 | h2
        · exact e2.symm
        · exact absurd (List.mem_map.2 ⟨_, h2, e.symm⟩) hn.1
      subst hp
      have h1 : r.filter (fun p => !(lf p.1 && !(p.1 == n))) = r.filter (fun p => !lf p.1) := by
        apply List.filter_congr
        intro q hq
        have : q.1 ≠ n := fun e => hn.1 (List.mem_map.2 ⟨q, hq, e⟩)
        simp [this]
      rw [List.filter_cons_of_pos (by simp), List.filter_cons_of_neg (by simp [hlf]), h1]
    · have hm' : (n, F) ∈ r := by
        rcases List.mem_cons.1 hm with e2 | h2
        · exact absurd (by rw [← e2]) e
        · exact h2
      have ih := ih hn.2 hm'
      by_cases hl : lf p.1 = true
      · rw [List.filter_cons_of_neg (by simp [hl, e]), List.filter_cons_of_neg (by simp [hl])]
        exact ih
      · rw [List.filter_cons_of_pos (by simp [hl]), List.filter_cons_of_pos (by simp [hl])]
        exact (ih.cons p).trans (List.Perm.swap _ _ _)
theorem done_all {L : Files} {lf : List UInt8 → Bool} (h : ∀ k, lf k = false) : doneL L lf = L := List.filter_eq_self.2 (fun p _ => by simp [h])
theorem done_none {L : Files} (hn : (L.map (·.1)).Nodup) : doneL L (fun k => (lk (dir L) k).isSome) = [] := by
  refine List.filter_eq_nil_iff.2 (fun p hp => ?_)
  have : (p.1, p.2.b) ∈ dir L := List.mem_map.2 ⟨p, hp, rfl⟩
  have h2 := lk_mem (L := dir L) (by rw [dir_names]; exact hn) this
  simp only [h2]
  simp

def sumOf (g : Fl → Nat) (L : Files) : Nat := (L.map fun p => g p.2).sum
theorem sum_perm {g : Fl → Nat} {L M : Files} (h : L.Perm M) : sumOf g L = sumOf g M := by
  unfold sumOf
  exact (h.map _).sum_nat
theorem sum_cons (g : Fl → Nat) (p : List UInt8 × Fl) (L : Files) : sumOf g (p :: L) = g p.2 + sumOf g L := by simp [sumOf]
theorem sum_le {g : Fl → Nat} {c : Nat} : ∀ {L : Files}, (∀ p ∈ L, g p.2 ≤ c) → sumOf g L ≤ L.length * c
  | [], _ => by simp [sumOf]
  | p :: r, h => by
    rw [sum_cons, List.length_cons, Nat.add_mul]
    have h1 := h p (by simp)
    have h2 := sum_le (L := r) (fun q hq => h q (List.mem_cons_of_mem _ hq))
    omega
theorem sum_sub {g : Fl → Nat} {c : Nat} {L M : Files} (hs : M.Sublist L) (h : ∀ p ∈ L, g p.2 ≤ c) : sumOf g M ≤ L.length * c :=
  Nat.le_trans (sum_le (fun p hp => h p (hs.subset hp))) (Nat.mul_le_mul_right _ hs.length_le)

/-- all files stand in memory -/
def FilesAt (w : World) (L : Files) : Prop := ∀ p ∈ L, FileAt w p.2

set_option maxRecDepth 100000 in
set_option maxHeartbeats 1000000 in
theorem total_some (w : World) (d b f : Nat) (L : Files) (g : Fl → Nat) (c0 : w.cell? ⟨d, 0, none⟩ = some (.map (some b))) (hm : MapAt w (some b) (dir L)) (hn : (L.map (·.1)).Nodup) (hF : FilesAt w L) (hg : ∀ p ∈ L, g p.2 ≤ 10000) (hlen : L.length ≤ 100)
    (hin : ∀ args w, (callFunc f args).run Tryz.prog w = .ok (.enter f args) w)
    (hc : ∀ W F, FileAt W F → Calls Tryz.prog f #[.pointer (some ⟨F.b, 0, none⟩)] W fun e w' => e = .returned (.int .i64 (g F)) ∧ W = w') :
    Calls Tryz.prog 113 #[.pointer (some ⟨d, 0, none⟩), .func (.func f) #[] #[]] w fun e w' => e = .returned (.int .i64 (sumOf g L)) ∧ Below w.heap.size w w' := by
  have HM := Lib.hid hm
  have HF := Lib.hid hF
  have HN := Lib.hid hn
  have HG := Lib.hid hg
  have HC := Lib.hid hc
  clear hm hF hn hg hc
  go_enter Tryz.func113, Tryz.ntmps113
  go_wp2_with (at_range; refine wpList_range_sf rfl _ rfl b (dir L) rfl HM.out ?_; intro w0 hr0 hb0 hs0; clear hs0)
  go_frame
  have h0 : Hid (sumOf g (doneL L (fun k => (lk (dir L) k).isSome)) = 0) := by rw [done_none HN.out]; rfl
  have HR0 := Lib.hid hr0
  have HB0 := Lib.hid hb0
  clear hr0 hb0
  go_loopw [5] (fun v wr => ∃ lf cnt, Hid (Rng wr b w.heap.size (dir L) lf cnt) ∧ v = .int .i64 (sumOf g (doneL L lf) : Nat) ∧ Hid (Below w.heap.size w wr)) (fun _ wr => wr.rangeLeft b w.heap.size)
  case atStart => exact ⟨_, _, HR0.out, by rw [h0.out]; rfl, HB0.out⟩
  case round =>
    clear HR0 HB0 h0
    obtain ⟨lf, cnt, hR, rfl, hB⟩ := hrel
    go_wp2_with (at_next; refine wpList_next_sf rfl _ rfl b w.heap.size (dir L) lf cnt rfl hR.out ?_ ?_)
    · intro hno
      have hd : sumOf g (doneL L lf) = sumOf g L := by rw [done_all hno]
      rw [hd]
      have HB := Lib.hid hB.out
      clear hd hno hB hR
      go_wp2
      go_ret
      exact ⟨rfl, HB.out⟩
    · intro s fb w1 cnt1 hs hm hl hR1 hlt ho1 hs1 hen
      obtain ⟨F, hFm, rfl⟩ := dir_mem hm
      have hB1 : Below w.heap.size w w1 := Only.new hB.out ho1 (Nat.le_refl _)
      have hFA := (HF.out _ hFm).below hB1
      have hgF := HG.out _ hFm
      have hst := sum_perm (g := g) (done_step hl HN.out hFm)
      rw [sum_cons] at hst
      have hsb := sum_sub (g := g) (c := 10000) (M := doneL L lf) (List.filter_sublist) HG.out
      have HCF := Lib.hid (HC.out w1 F hFA)
      have HST := Lib.hid hst
      have HR1 := Lib.hid hR1
      have HB1 := Lib.hid hB1
      have hlr := hR.out.left
      have hlr1 := hR1.left
      have HL : Hid (w1.rangeLeft b w.heap.size < wr.rangeLeft b w.heap.size) := by rw [hlr, hlr1]; exact hlt
      obtain ⟨z, hz⟩ : ∃ z, z = sumOf g (doneL L lf) := ⟨_, rfl⟩
      have hzb : z ≤ 1000000 := by have : L.length * 10000 ≤ 1000000 := by omega
                                   omega
      rw [← hz] at HST ⊢
      obtain ⟨y, hy⟩ : ∃ y, y = g F := ⟨_, rfl⟩
      rw [← hy] at hgF HST HCF
      clear hs hm hl hR1 hlt ho1 hs1 hFm hB1 hFA hst hsb hlr hlr1 hz hy hB hR
      go_wp2
      refine HCF.out.mono ?_
      rintro e w' ⟨rfl, rfl⟩
      go_wp2
      go_roundw
      case rel => exact ⟨_, _, HR1.out, by rw [HST.out]; go_num, HB1.out⟩
      case measure => exact HL.out

theorem total_none (w : World) (d f : Nat) (c0 : w.cell? ⟨d, 0, none⟩ = some (.map none)) :
    Calls Tryz.prog 113 #[.pointer (some ⟨d, 0, none⟩), .func (.func f) #[] #[]] w fun e w' => e = .returned (.int .i64 0) ∧ Below w.heap.size w w' := by
  have hrg := fun w => run_range_nilMap (P := Tryz.prog) w 71 9 124 Tryz.underlying71
  have hnx := fun w ty => run_next_nilMap (P := Tryz.prog) w ty 0 0 #[]
  go_enter Tryz.func113, Tryz.ntmps113
  go_wp2
  go_loopw [5] (fun v wr => v = .int .i64 0 ∧ wr = w.alloc (.mapIter none 0 #[] 0)) (fun _ _ => 0)
  case atStart => exact ⟨rfl, rfl⟩
  case round =>
    obtain ⟨rfl, rfl⟩ := hrel
    go_wp2
    go_ret
    exact ⟨rfl, below_new _ _⟩
theorem total_nil (w : World) (f : Nat) : Calls Tryz.prog 113 #[.pointer none, .func (.func f) #[] #[]] w fun e w' => e = .returned (.int .i64 0) ∧ w = w' := by
  go_enter Tryz.func113, Tryz.ntmps113
  go_wp2
  go_ret
  exact ⟨rfl, rfl⟩
/-- a call of a function that has a body enters it -/
theorem enters {f : FuncId} {fn : Func} {c : Code} (hf : Tryz.prog.funcs[f]? = some fn) (hname : (fn.name == "runtime.NumGoroutine") = false) (hb : fn.body = some c) (args : Array Value) (w : World) :
    (callFunc f args).run Tryz.prog w = .ok (.enter f args) w := by
  have h1 : fn.name ≠ "runtime.NumGoroutine" := by simpa using hname
  simp [callFunc, hf, h1, hb]
theorem en_size : ∀ args w, (callFunc 93 args).run Tryz.prog w = .ok (.enter 93 args) w := fun args w => enters Tryz.func93 (by kernel_rfl) rfl args w
theorem en_dirty : ∀ args w, (callFunc 114 args).run Tryz.prog w = .ok (.enter 114 args) w := fun args w => enters Tryz.func114 (by kernel_rfl) rfl args w

theorem used_nil (w : World) : Calls Tryz.prog 76 #[.pointer none] w fun e w' => e = .returned (.int .i64 0) ∧ w = w' := by
  have H := Lib.hid (fun w => total_nil w 93)
  go_enter Tryz.func76, Tryz.ntmps76
  go_wp2_with (go_at_call 113; (with_reducible refine (H.out _).mono ?_); rintro e w' ⟨rfl, rfl⟩)
  go_ret
  exact ⟨rfl, rfl⟩
theorem dirty_nil (w : World) : Calls Tryz.prog 78 #[.pointer none] w fun e w' => e = .returned (.int .i64 0) ∧ w = w' := by
  have H := Lib.hid (fun w => total_nil w 114)
  go_enter Tryz.func78, Tryz.ntmps78
  go_wp2_with (go_at_call 113; (with_reducible refine (H.out _).mono ?_); rintro e w' ⟨rfl, rfl⟩)
  go_ret
  exact ⟨rfl, rfl⟩

theorem total_any (w : World) (d f : Nat) (m : Option Nat) (L : Files) (g : Fl → Nat) (c0 : w.cell? ⟨d, 0, none⟩ = some (.map m)) (hm : MapAt w m (dir L)) (hn : (L.map (·.1)).Nodup) (hF : FilesAt w L) (hg : ∀ p ∈ L, g p.2 ≤ 10000) (hlen : L.length ≤ 100)
    (hin : ∀ args w, (callFunc f args).run Tryz.prog w = .ok (.enter f args) w)
    (hc : ∀ W F, FileAt W F → Calls Tryz.prog f #[.pointer (some ⟨F.b, 0, none⟩)] W fun e w' => e = .returned (.int .i64 (g F)) ∧ W = w') :
    Calls Tryz.prog 113 #[.pointer (some ⟨d, 0, none⟩), .func (.func f) #[] #[]] w fun e w' => e = .returned (.int .i64 (sumOf g L)) ∧ Below w.heap.size w w' := by
  cases m with
  | some b => exact total_some w d b f L g c0 hm hn hF hg hlen hin hc
  | none =>
    have hL : L = [] := by
      rcases hm with ⟨_, h⟩ | ⟨b, D, h, _⟩
      · exact List.map_eq_nil_iff.1 h
      · cases h
    subst hL
    exact total_none w d f c0

theorem used_any (w : World) (d : Nat) (m : Option Nat) (L : Files) (c0 : w.cell? ⟨d, 0, none⟩ = some (.map m)) (hm : MapAt w m (dir L)) (hn : (L.map (·.1)).Nodup) (hF : FilesAt w L) (hok : ∀ p ∈ L, FileOk p.2) (hlen : L.length ≤ 100) :
    Calls Tryz.prog 76 #[.pointer (some ⟨d, 0, none⟩)] w fun e w' => e = .returned (.int .i64 (sumOf (fun F => F.secs.length) L)) ∧ Below w.heap.size w w' := by
  have H := Lib.hid (total_any w d 93 m L (fun F => F.secs.length) c0 hm hn hF (fun p hp => by have := (hok p hp).room; omega) hlen en_size (fun W F h => h.size))
  clear hm hn hF hok hlen
  go_enter Tryz.func76, Tryz.ntmps76
  go_wp2_with (go_at_call 113; (with_reducible refine H.out.mono ?_); rintro e w' ⟨rfl, hb⟩)
  go_ret
  exact ⟨rfl, hb⟩
theorem dirty_any (w : World) (d : Nat) (m : Option Nat) (L : Files) (c0 : w.cell? ⟨d, 0, none⟩ = some (.map m)) (hm : MapAt w m (dir L)) (hn : (L.map (·.1)).Nodup) (hF : FilesAt w L) (hok : ∀ p ∈ L, FileOk p.2) (hlen : L.length ≤ 100) :
    Calls Tryz.prog 78 #[.pointer (some ⟨d, 0, none⟩)] w fun e w' => e = .returned (.int .i64 (sumOf (fun F => F.ws.length) L)) ∧ Below w.heap.size w w' := by
  have H := Lib.hid (total_any w d 114 m L (fun F => F.ws.length) c0 hm hn hF (fun p hp => (hok p hp).few) hlen en_dirty (fun W F h => h.dirty))
  clear hm hn hF hok hlen
  go_enter Tryz.func78, Tryz.ntmps78
  go_wp2_with (go_at_call 113; (with_reducible refine H.out.mono ?_); rintro e w' ⟨rfl, hb⟩)
  go_ret
  exact ⟨rfl, hb⟩

end Go.Proofs.YtbkngnjkaledlaaGreat.P4
