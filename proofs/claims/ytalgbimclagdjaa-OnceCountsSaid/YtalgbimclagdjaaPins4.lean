/-
  Package once's Pins: Len, Least, Pin, Drop.
-/
import Derived.Test.YtalgbimclagdjaaPins3
import Derived.Deep.RegionHeld3
namespace Go.Proofs.Ytalgbimclagdjaa.P3
open Go Go.RowKit Go.Lib Go.Maps Go.ChangeMaps Go.MapKept

theorem QAny.blk {lo : Nat} {w : World} {b : Nat} {cb : Array Value} {N : Nat} {ps : PinL} (h : QAny lo w b cb N ps) : w.heap[b]? = some (.cells cb 61 (0, 0)) := by
  rcases h with ⟨_, _, h, _⟩ | ⟨_, _, _, _, _, _, h⟩
  · exact h
  · exact h.blk
theorem QAny.size {lo : Nat} {w : World} {b : Nat} {cb : Array Value} {N : Nat} {ps : PinL} (h : QAny lo w b cb N ps) : 4 < cb.size := by
  rcases h with ⟨_, _, _, _, h⟩ | ⟨_, _, _, _, _, _, h⟩
  · exact (Array.getElem?_eq_some_iff.1 h).1
  · exact (Array.getElem?_eq_some_iff.1 h.c4).1
theorem QAny.set {lo : Nat} {w : World} {b : Nat} {cb : Array Value} {N : Nat} {ps : PinL} (h : QAny lo w b cb N ps) (j : Nat) (hj : j < 3) (u : Value) : QAny lo (w.setCell ⟨b, j, none⟩ u) b (cb.setIfInBounds j u) N ps := by
  rcases h with ⟨h1, h2, h3, h4, h5⟩ | ⟨r, m, cap, D, hr, hm, h⟩
  · exact .inl ⟨h1, h2, set_at h3 _ _, by rw [Array.getElem?_setIfInBounds, if_neg (by omega)]; exact h4, by rw [Array.getElem?_setIfInBounds, if_neg (by omega)]; exact h5⟩
  · have ho : Only b w (w.setCell ⟨b, j, none⟩ u) := (Only.refl b w).setCell j u
    exact .inr ⟨r, m, cap, D, hr, hm, { h with blk := set_at h.blk _ _, c3 := by rw [Array.getElem?_setIfInBounds, if_neg (by omega)]; exact h.c3, c4 := by rw [Array.getElem?_setIfInBounds, if_neg (by omega)]; exact h.c4, row := fr_row h.row (Fr.only (S := (· = b)) ho rfl) (fun e => h.br e.symm), map := fr_map h.map (Fr.only (S := (· = b)) ho rfl) (fun e => h.bm e.symm) }⟩
theorem QAny.frp {lo : Nat} {w w' : World} {b : Nat} {cb : Array Value} {N : Nat} {ps : PinL} (h : QAny lo w b cb N ps) (hf : Below w.heap.size w w') : QAny lo w' b cb N ps := by
  rcases h with ⟨h1, h2, h3, h4, h5⟩ | ⟨r, m, cap, D, hr, hm, h⟩
  · exact .inl ⟨h1, h2, old_below h3 hf, h4, h5⟩
  · exact .inr ⟨r, m, cap, D, hr, hm, h.below hf⟩
theorem QAny.c3 {lo : Nat} {w : World} {b : Nat} {cb : Array Value} {N : Nat} {ps : PinL} (h : QAny lo w b cb N ps) : ∃ a cap, cb[3]? = some (.slice a ps.length cap) := by
  rcases h with ⟨rfl, _, _, h, _⟩ | ⟨r, _, cap, _, _, _, h⟩
  · exact ⟨_, _, h⟩
  · exact ⟨_, _, h.c3⟩

/-- block b is Pins, the lock as lk says; N ids were given; they hold ps, in a heap's order -/
structure PinsAt (lo : Nat) (w : World) (b : Nat) (lk : Int) (N : Nat) (cb : Array Value) (ps : PinL) : Prop where
  q : QAny lo w b cb N ps
  c0 : cb[0]? = some (.int .i32 lk)
  c2 : cb[2]? = some (.int .i64 N)
  ord : Ord (num ps) ps.length
  len : ps.length ≤ N
  room : N ≤ 1000000
  lo : lo ≤ b
/-- .. free, and they hold l, in whatever order -/
def Pinned3 (lo : Nat) (w : World) (b N : Nat) (l : PinL) : Prop := ∃ cb ps, PinsAt lo w b 0 N cb ps ∧ ps.Perm l

theorem PinsAt.lock {lo : Nat} {w : World} {b : Nat} {lk : Int} {N : Nat} {cb : Array Value} {ps : PinL} (h : PinsAt lo w b lk N cb ps) (k : Int) : PinsAt lo (w.setCell ⟨b, 0, none⟩ (.int .i32 k)) b k N (cb.setIfInBounds 0 (.int .i32 k)) ps :=
  { h with q := h.q.set 0 (by omega) _, c0 := by rw [Array.getElem?_setIfInBounds, if_pos rfl, if_pos (by have := h.q.size; omega)], c2 := by rw [Array.getElem?_setIfInBounds, if_neg (by omega)]; exact h.c2 }
theorem PinsAt.below {lo : Nat} {w w' : World} {b : Nat} {lk : Int} {N : Nat} {cb : Array Value} {ps : PinL} (h : PinsAt lo w b lk N cb ps) (hf : Below w.heap.size w w') : PinsAt lo w' b lk N cb ps :=
  { h with q := h.q.frp hf }
theorem PinsAt.cell0 {lo : Nat} {w : World} {b : Nat} {lk : Int} {N : Nat} {cb : Array Value} {ps : PinL} (h : PinsAt lo w b lk N cb ps) : w.cell? ⟨b, 0, none⟩ = some (.int .i32 lk) := (cell_at h.q.blk 0).trans h.c0

set_option maxRecDepth 100000 in
theorem pinsLen0 (w : World) {lo b N : Nat} {cb : Array Value} {ps : PinL} (h : PinsAt lo w b 0 N cb ps) :
    Calls Try.prog 24 #[.pointer (some ⟨b, 0, none⟩)] w fun e w' => e = .returned (.int .i64 ps.length) ∧ (∃ cb', PinsAt lo w' b 0 N cb' ps) ∧ FrP lo b w w' := by
  have h0 := h.cell0
  have f0 := free_at h.q.blk 0
  have h1 := h.lock 1
  obtain ⟨a, cap, h3⟩ := h1.q.c3
  have L := Lib.hid (qlen _ b _ _ _ ((cell_at h1.q.blk 3).trans h3))
  have H1 := Lib.hid h1
  have HF := Lib.hid (FrP.only (((Only.refl b w).setCell 0 (.int .i32 1)).setCell 0 (.int .i32 0)) h.lo)
  clear h h1 h3
  go_enter_defers Try.func24, Try.ntmps24
  go_wp2_with (first
    | (go_at_call 44; (with_reducible refine (lock_free ⟨b, 0, none⟩ _ h0 f0).mono ?_); rintro e w' ⟨rfl, rfl⟩)
    | (go_at_call 48; (with_reducible refine L.out.mono ?_); rintro e w' ⟨rfl, rfl⟩))
  refine leaves_cons (f := 45) (args := #[.pointer (some ⟨b, 0, none⟩)]) (by simp) (by simp [go_sem]) ?_
  refine (unlock_deferred ⟨b, 0, none⟩ .returning _ H1.out.cell0 (free_at H1.out.q.blk 0)).mono ?_
  rintro e u' w'' ⟨rfl, rfl, rfl⟩
  exact ⟨_, results_tmp rfl _ _ _, rfl, ⟨_, H1.out.lock 0⟩, HF.out⟩

set_option maxRecDepth 100000 in
theorem pinsLeast_none (w : World) {lo b N : Nat} {cb : Array Value} {ps : PinL} (h : PinsAt lo w b 0 N cb ps) (hp : ps = []) :
    Calls Try.prog 22 #[.pointer (some ⟨b, 0, none⟩)] w fun e w' => e = .returned (.tuple #[.int .i64 0, .bool false]) ∧ (∃ cb', PinsAt lo w' b 0 N cb' ps) ∧ FrP lo b w w' := by
  have h0 := h.cell0
  have f0 := free_at h.q.blk 0
  have h1 := h.lock 1
  obtain ⟨a, cap, h3⟩ := h1.q.c3
  have L := qlen _ b _ _ _ ((cell_at h1.q.blk 3).trans h3)
  rw [show ((ps.length : Nat) : Int) = 0 by simp [hp]] at L
  have HL := Lib.hid L
  have H1 := Lib.hid h1
  have HF := Lib.hid (FrP.only (((Only.refl b w).setCell 0 (.int .i32 1)).setCell 0 (.int .i32 0)) h.lo)
  clear h h1 h3 L hp
  go_enter_defers Try.func22, Try.ntmps22
  go_wp2_with (first
    | (go_at_call 44; (with_reducible refine (lock_free ⟨b, 0, none⟩ _ h0 f0).mono ?_); rintro e w' ⟨rfl, rfl⟩)
    | (go_at_call 48; (with_reducible refine HL.out.mono ?_); rintro e w' ⟨rfl, rfl⟩))
  refine leaves_cons (f := 45) (args := #[.pointer (some ⟨b, 0, none⟩)]) (by simp) (by simp [go_sem]) ?_
  refine (unlock_deferred ⟨b, 0, none⟩ .returning _ H1.out.cell0 (free_at H1.out.q.blk 0)).mono ?_
  rintro e u' w'' ⟨rfl, rfl, rfl⟩
  exact ⟨_, results_tmp2 rfl _ _ _, rfl, ⟨_, H1.out.lock 0⟩, HF.out⟩

set_option maxRecDepth 100000 in
theorem pinsLeast_some (w : World) {lo b N : Nat} {cb : Array Value} {ps : PinL} (h : PinsAt lo w b 0 N cb ps) (hp : 0 < ps.length) :
    Calls Try.prog 22 #[.pointer (some ⟨b, 0, none⟩)] w fun e w' => e = .returned (.tuple #[.int .i64 (num ps 0), .bool true]) ∧ (∃ cb', PinsAt lo w' b 0 N cb' ps) ∧ FrP lo b w w' := by
  have h0 := h.cell0
  have f0 := free_at h.q.blk 0
  have h1 := h.lock 1
  have hq := h1.q
  rcases hq with ⟨rfl, _⟩ | ⟨r, m, cap, D, _, _, hq⟩
  · simp at hp
  obtain ⟨rc, hr, hs, hl, hmx, hc⟩ := hq.row
  obtain ⟨n, hn⟩ : ∃ n, n = ps.length := ⟨_, rfl⟩
  have q3 := (cell_at hq.blk 3).trans hq.c3
  rw [← hn] at q3 hp
  have L := qlen _ b _ _ _ q3
  have k1 : ((n : Int) == 0) = false := by simp; omega
  have r0 := (cell_at hr 0).trans (hc 0 (by omega)).1
  obtain ⟨x, hx⟩ : ∃ x, x = num ps 0 := ⟨_, rfl⟩
  rw [← hx] at r0 ⊢
  have HL := Lib.hid L
  have H1 := Lib.hid h1
  have HF := Lib.hid (FrP.only (((Only.refl b w).setCell 0 (.int .i32 1)).setCell 0 (.int .i32 0)) h.lo)
  clear h h1 L hq hr hc hn hx
  go_enter_defers Try.func22, Try.ntmps22
  go_wp2_with (first
    | (go_at_call 44; (with_reducible refine (lock_free ⟨b, 0, none⟩ _ h0 f0).mono ?_); rintro e w' ⟨rfl, rfl⟩)
    | (go_at_call 48; (with_reducible refine HL.out.mono ?_); rintro e w' ⟨rfl, rfl⟩))
  refine leaves_cons (f := 45) (args := #[.pointer (some ⟨b, 0, none⟩)]) (by simp) (by simp [go_sem]) ?_
  refine (unlock_deferred ⟨b, 0, none⟩ .returning _ H1.out.cell0 (free_at H1.out.q.blk 0)).mono ?_
  rintro e u' w'' ⟨rfl, rfl, rfl⟩
  exact ⟨_, results_tmp2 rfl _ _ _, rfl, ⟨_, H1.out.lock 0⟩, HF.out⟩

set_option maxRecDepth 100000 in
theorem pinsPin0 (w : World) {lo b N : Nat} {cb : Array Value} {ps : PinL} (h : PinsAt lo w b 0 N cb ps) (hN : N < 1000000) (x : Int) :
    Calls Try.prog 20 #[.pointer (some ⟨b, 0, none⟩), .int .i64 x] w fun e w' => e = .returned (.int .i64 ((N : Int) + 1)) ∧ (∃ cb' ps', PinsAt lo w' b 0 (N + 1) cb' ps' ∧ ps'.Perm (ps ++ [(x, (N : Int) + 1)])) ∧ FrP lo b w w' := by
  have h0 := h.cell0
  have f0 := free_at h.q.blk 0
  have h1 := h.lock 1
  have b0 : (0 : Int) ≤ (N : Int) := by omega
  have b1 : (N : Int) ≤ 1000000 := by omega
  have c2 := (cell_at h1.q.blk 2).trans h1.c2
  have f2 := free_at h1.q.blk 2
  have hq2 := h1.q.set 2 (by omega) (.int .i64 ((N : Int) + 1))
  have d2 : ((w.setCell ⟨b, 0, none⟩ (.int .i32 1)).setCell ⟨b, 2, none⟩ (.int .i64 ((N : Int) + 1))).cell? ⟨b, 2, none⟩ = some (.int .i64 ((N : Int) + 1)) := by
    rw [cell_at hq2.blk, Array.getElem?_setIfInBounds, if_pos rfl, if_pos (by have := h1.q.size; omega)]
  have hs0 : ∀ k, k < 3 → k ≠ 2 → (((cb.setIfInBounds 0 (.int .i32 1)).setIfInBounds 2 (.int .i64 ((N : Int) + 1))))[k]? = (cb.setIfInBounds 0 (.int .i32 1))[k]? := fun k _ hk2 => by
    rw [Array.getElem?_setIfInBounds, if_neg (by omega)]
  have hs2 : (((cb.setIfInBounds 0 (.int .i32 1)).setIfInBounds 2 (.int .i64 ((N : Int) + 1))))[2]? = some (.int .i64 ((N : Int) + 1)) := by
    rw [Array.getElem?_setIfInBounds, if_pos rfl, if_pos (by have := h1.q.size; omega)]
  have hO := h.ord
  have hlen := h.len
  have hlo := h.lo
  have HP := Lib.hid (hpush (((w.setCell ⟨b, 0, none⟩ (.int .i32 1)).setCell ⟨b, 2, none⟩ (.int .i64 ((N : Int) + 1))).drew) lo b _ N ps x ((N : Int) + 1) (by simp) (hq2.frp (Below.refl _ _).drew) hO hlo hN hlen)
  have HC0 := Lib.hid h1.c0
  have HS0 := Lib.hid hs0
  have HS2 := Lib.hid hs2
  have HF := Lib.hid (FrP.only ((((Only.refl b w).setCell 0 (.int .i32 1)).setCell 2 (.int .i64 ((N : Int) + 1))).drew) h.lo)
  have hget : ∀ w3 : World, (∃ cb' r m cap D ps', lo ≤ r ∧ lo ≤ m ∧ QIs w3 b cb' r m cap (N + 1) ps' D ∧ ps'.Perm (ps ++ [(x, (N : Int) + 1)]) ∧ Ord (num ps') ps'.length ∧ cb'.size = ((cb.setIfInBounds 0 (.int .i32 1)).setIfInBounds 2 (.int .i64 ((N : Int) + 1))).size ∧
      (∀ k, k < 3 → cb'[k]? = ((cb.setIfInBounds 0 (.int .i32 1)).setIfInBounds 2 (.int .i64 ((N : Int) + 1)))[k]?) ∧ FrP lo b (((w.setCell ⟨b, 0, none⟩ (.int .i32 1)).setCell ⟨b, 2, none⟩ (.int .i64 ((N : Int) + 1))).drew) w3) →
      w3.cell? ⟨b, 2, none⟩ = some (.int .i64 ((N : Int) + 1)) ∧ ∃ cb' ps', PinsAt lo w3 b 1 (N + 1) cb' ps' ∧ ps'.Perm (ps ++ [(x, (N : Int) + 1)]) := by
    rintro w3 ⟨cb', r, m, cap, D, ps', hr, hm, hq, hperm, hord, hsz, hsame, hf⟩
    refine ⟨(cell_at hq.blk 2).trans ((hsame 2 (by omega)).trans HS2.out), cb', ps', { q := .inr ⟨r, m, cap, D, hr, hm, hq⟩, c0 := (hsame 0 (by omega)).trans ((HS0.out 0 (by omega) (by omega)).trans HC0.out), c2 := ?_, ord := hord, len := hq.len, room := hq.room, lo := hlo }, hperm⟩
    rw [hsame 2 (by omega), HS2.out]
    simp
  have HG := Lib.hid hget
  clear h h1 hq2 hs0 hs2 hO hget
  go_enter_defers Try.func20, Try.ntmps20
  go_wp2_with (first
    | (go_at_call 44; (with_reducible refine (lock_free ⟨b, 0, none⟩ _ h0 f0).mono ?_); rintro e w' ⟨rfl, rfl⟩))
  go_region_held3 (fun w' => w'.cell? ⟨b, 2, none⟩ = some (.int .i64 ((N : Int) + 1))) (first | exact d2 | exact d3)
    ((first | (go_at_call 46; (with_reducible refine HP.out.mono ?_); rintro e w3 ⟨rfl, hpost⟩; have d3 := (HG.out w3 hpost).1)))
  go_wp2_with fail
  obtain ⟨cb', ps', h3, hperm⟩ := (HG.out _ hpost).2
  obtain ⟨_, _, _, _, _, _, _, _, _, _, _, _, _, hfr⟩ := hpost
  refine leaves_cons (f := 45) (args := #[.pointer (some ⟨b, 0, none⟩)]) (by simp) (by simp [go_sem]) ?_
  refine (unlock_deferred ⟨b, 0, none⟩ .returning _ h3.cell0 (free_at h3.q.blk 0)).mono ?_
  rintro e u' w'' ⟨rfl, rfl, rfl⟩
  exact ⟨_, results_tmp rfl _ _ _, rfl, ⟨_, ps', h3.lock 0, hperm⟩, (HF.out.trans hfr).trans (.only ((Only.refl b _).setCell 0 _) hlo)⟩

set_option maxRecDepth 100000 in
theorem pinsDrop_no (w : World) {lo b N : Nat} {cb : Array Value} {ps : PinL} (h : PinsAt lo w b 0 N cb ps) (id c : Int) (v4 : Option Nat) (h4 : cb[4]? = some (.map v4))
    (hlk : (Instr.lookup 57 (.map v4) (.int .i64 id) true).run Try.prog (w.setCell ⟨b, 0, none⟩ (.int .i32 1)) = .ok (.tuple #[.int .i64 c, .bool false]) (w.setCell ⟨b, 0, none⟩ (.int .i32 1))) :
    Calls Try.prog 21 #[.pointer (some ⟨b, 0, none⟩), .int .i64 id] w fun e w' => e = .returned (.bool false) ∧ (∃ cb', PinsAt lo w' b 0 N cb' ps) ∧ FrP lo b w w' := by
  have h0 := h.cell0
  have f0 := free_at h.q.blk 0
  have h1 := h.lock 1
  have q4 : (w.setCell ⟨b, 0, none⟩ (.int .i32 1)).cell? ⟨b, 4, none⟩ = some (.map v4) := by rw [cell_at h1.q.blk, Array.getElem?_setIfInBounds, if_neg (by decide)]; exact h4
  have H1 := Lib.hid h1
  have HF := Lib.hid (FrP.only (((Only.refl b w).setCell 0 (.int .i32 1)).setCell 0 (.int .i32 0)) h.lo)
  clear h h1 h4
  go_enter_defers Try.func21, Try.ntmps21
  go_wp2_with (first
    | (go_at_call 44; (with_reducible refine (lock_free ⟨b, 0, none⟩ _ h0 f0).mono ?_); rintro e w' ⟨rfl, rfl⟩))
  refine leaves_cons (f := 45) (args := #[.pointer (some ⟨b, 0, none⟩)]) (by simp) (by simp [go_sem]) ?_
  refine (unlock_deferred ⟨b, 0, none⟩ .returning _ H1.out.cell0 (free_at H1.out.q.blk 0)).mono ?_
  rintro e u' w'' ⟨rfl, rfl, rfl⟩
  exact ⟨_, results_tmp rfl _ _ _, rfl, ⟨_, H1.out.lock 0⟩, HF.out⟩

set_option maxRecDepth 100000 in
theorem pinsDrop_yes (w : World) {lo b r m cap N : Nat} {cb : Array Value} {ps : PinL} {D : DataW Unit} (h : PinsAt lo w b 0 N cb ps) (hr : lo ≤ r) (hm : lo ≤ m) (hq : QIs w b cb r m cap N ps D) (k : Nat) (hk : k < ps.length) (p : Int × Int) (hp : ps.getD k (0, 0) = p) :
    Calls Try.prog 21 #[.pointer (some ⟨b, 0, none⟩), .int .i64 p.2] w fun e w' => e = .returned (.bool true) ∧ (∃ cb' ps', PinsAt lo w' b 0 N cb' ps' ∧ (ps' ++ [p]).Perm ps) ∧ FrP lo b w w' := by
  have h0 := h.cell0
  have f0 := free_at h.q.blk 0
  have h1 := h.lock 1
  have ho : Only b w (w.setCell ⟨b, 0, none⟩ (.int .i32 1)) := (Only.refl b w).setCell 0 _
  have hq1 : QIs (w.setCell ⟨b, 0, none⟩ (.int .i32 1)) b (cb.setIfInBounds 0 (.int .i32 1)) r m cap N ps D :=
    { hq with blk := set_at hq.blk _ _, c3 := by rw [Array.getElem?_setIfInBounds, if_neg (by decide)]; exact hq.c3, c4 := by rw [Array.getElem?_setIfInBounds, if_neg (by decide)]; exact hq.c4, row := fr_row hq.row (Fr.only (S := (· = b)) ho rfl) (fun e => hq.br e.symm), map := fr_map hq.map (Fr.only (S := (· = b)) ho rfl) (fun e => hq.bm e.symm) }
  have q4 : (w.setCell ⟨b, 0, none⟩ (.int .i32 1)).cell? ⟨b, 4, none⟩ = some (.map (some m)) := (cell_at hq1.blk 4).trans hq1.c4
  have hid : idn ps k = p.2 := by unfold idn; rw [hp]
  have hids := hq.ids k hk
  have hroom := hq.room
  obtain ⟨c, hrun, hat⟩ := look_has hq1.map (a := p.2) (wf_small (by omega) (by omega))
  have ht := hq.ties.1 k hk
  rw [hid] at ht
  rw [ht.1] at hrun
  have hck : c = (k : Int) := dI_inj (hat.symm.trans ht.2)
  subst hck
  have hlo := h.lo
  have R := hremove _ hq1 hr hm hlo h.ord k hk p hp
  obtain ⟨id, hidp⟩ : ∃ id, id = p.2 := ⟨_, rfl⟩
  rw [← hidp] at hrun ⊢
  have HR := Lib.hid R
  have HC0 := Lib.hid h1.c0
  have HC2 := Lib.hid h1.c2
  have HF := Lib.hid (FrP.only ho h.lo)
  have HOl := Lib.hid h.len
  clear h h1 hq hq1 R ho hp ht hat hid hids hidp
  go_enter_defers Try.func21, Try.ntmps21
  go_wp2_with (first
    | (go_at_call 44; (with_reducible refine (lock_free ⟨b, 0, none⟩ _ h0 f0).mono ?_); rintro e w' ⟨rfl, rfl⟩)
    | (go_at_call 47; (with_reducible refine HR.out.mono ?_); rintro e w' ⟨rfl, hR⟩))
  obtain ⟨cb', r', m', cap', D', ps', hr', hm', hq', hperm, hord, hsz, hsame, hfr⟩ := hR
  have h3 : PinsAt lo w' b 1 N cb' ps' := { q := .inr ⟨r', m', cap', D', hr', hm', hq'⟩, c0 := (hsame 0 (by omega)).trans HC0.out, c2 := (hsame 2 (by omega)).trans HC2.out, ord := hord, len := hq'.len, room := hq'.room, lo := hlo }
  refine leaves_cons (f := 45) (args := #[.pointer (some ⟨b, 0, none⟩)]) (by simp) (by simp [go_sem]) ?_
  refine (unlock_deferred ⟨b, 0, none⟩ .returning _ h3.cell0 (free_at h3.q.blk 0)).mono ?_
  rintro e u' w'' ⟨rfl, rfl, rfl⟩
  exact ⟨_, results_tmp rfl _ _ _, rfl, ⟨_, ps', h3.lock 0, hperm⟩, (HF.out.trans hfr).trans (.only ((Only.refl b _).setCell 0 _) hlo)⟩

end Go.Proofs.Ytalgbimclagdjaa.P3
