/-
  Texts of the proof of SaidPlay8b.
-/
import Derived.Test.YtbkngnjkaledlaaGreatMp03
import Derived.Deep.RegionHeld3
set_option maxHeartbeats 8000000
set_option maxRecDepth 100000
namespace Go.Proofs.YtbkngnjkaledlaaGreat.P4
open Go Go.RowKit Go.Lib P3
def CutPost (w : World) (F : Fl) (n g cap : Nat) (w' : World) : Prop :=
 ∃ wr w2, CutSt w F (F.cut F.sl n).ws wr ∧ w2.ownsRow 0 143 3 (.slice (some ⟨g, 0, none⟩) n cap) n (secsCells (F.secs.take n)) ∧ Only g wr w2 ∧
   w' = (w2.setCell ⟨F.b, 0, none⟩ (.slice (some ⟨g, 0, none⟩) n cap)).setCell ⟨F.b, 1, none⟩ (.int .i64 (min F.ns n : Nat))
theorem cut_walk {w : World} {F : Fl} (h : FileAt w F) (ok : FileOk F) (n : Nat) (hn : n < F.secs.length) (g cap : Nat) (hv : F.sl = .slice (some ⟨g, 0, none⟩) F.secs.length cap) :
  Calls Tryz.prog 100 #[.pointer (some ⟨F.b, 0, none⟩), .int .i64 n] w fun e w' => e = .returned (.tuple #[]) ∧ CutPost w F n g cap w' := by
 obtain ⟨N, hN⟩ : ∃ N, N = F.secs.length := ⟨_, rfl⟩
 have hrow := h.row
 rw [hv] at hrow
 obtain ⟨hc1, hc2⟩ := owns_cap hrow
 have hroom := ok.room
 have hbg : F.b ≠ g := h.ne_row.1 g (by rw [hv]; rfl)
 have hgb : g ≠ F.b := fun e => hbg e.symm
 have c0 : w.cell? ⟨F.b, 0, none⟩ = some (.slice (some ⟨g, 0, none⟩) N cap) := (cell_at h.blk 0).trans (by show some F.sl = _; rw [hv, hN])
 have k1 : ¬ cap = n := by omega
 have b1 : (n : Int) ≤ (N : Int) := by omega
 have b2 : ((N - n : Nat) : Int) ≤ 5000 := by omega
 have HH := Lib.hid h
 have HV := Lib.hid hv
 have HN := Lib.hid hN
 have HOK := Lib.hid ok
 rw [← hN] at hn hc1 hroom
 unfold maxLen at hc2
 clear h hv hN ok hrow
 go_enter Tryz.func100, Tryz.ntmps100
 go_wp2
 go_loopg [14] (N - n) (fun q v wr => ∃ i : Nat, i ≤ N - n ∧ N - n - i ≤ q ∧ v = .int .i64 i ∧ Hid (CutSt w F (outOf n i F.ws) wr))
 case atStart => exact ⟨0, Nat.zero_le _, by omega, rfl, by rw [out_zero]; exact ⟨HH.out.blk, HH.out.seg, HH.out.row, Fr.refl _ _, HH.out.nodup, HOK.out.unders, fun _ hx => hx⟩⟩
 case round =>
  obtain ⟨i, hi, hq, rfl, hS⟩ := hrel
  clear c0
  by_cases hlt : i < N - n
  ·have b3 : (i : Int) < ((N - n : Nat) : Int) := by omega
   obtain ⟨s, hs⟩ : ∃ s, F.secs[n + i]? = some s := ⟨_, List.getElem?_eq_getElem (by rw [← HN.out]; omega)⟩
   obtain ⟨s0, s1, s2⟩ := secs_at _ _ _ hs
   have hrow := hS.out.row
   rw [HV.out, ← HN.out] at hrow
   have e3 : n * 3 + i * 3 = (n + i) * 3 := by omega
   have r0 : wr.cell? ⟨g, n * 3 + i * 3, none⟩ = some (.string s.now) := by rw [e3]; exact owns_cell hrow s0
   have r1 : wr.cell? ⟨g, n * 3 + i * 3 + 1, none⟩ = some (.string s.safe) := by rw [e3]; exact owns_cell hrow s1
   obtain ⟨p, hp⟩ := ptr_shape s.top
   have r2 : wr.cell? ⟨g, n * 3 + i * 3 + 2, none⟩ = some (.pointer p) := by rw [e3, ← hp]; exact owns_cell hrow s2
   have htop : ptr s.top = ptr (lastAt (outOf n i F.ws) (n + i)) := by rw [HOK.out.tops _ _ hs, out_last]
   rw [hp] at htop
   have HT := Lib.hid htop
   clear hs s0 s1 s2 hrow e3 hp htop
   go_wp2
   have HS1 : Hid (CutSt w F (outOf n i F.ws) (wr.alloc (.cells #[.string s.now, .string s.safe, .pointer p] 143))) := hS.out.below (below_new _ _)
   have HF : Hid ((outOf n i F.ws).length ≤ 10000) := Nat.le_trans (List.length_filter_le _ _) HOK.out.few
   clear r0 r1 r2 hS
   go_loopg [6] ((outOf n i F.ws).length) (fun q v wx => ∃ ws, ws.length ≤ q ∧ ws.length ≤ 10000 ∧ v = ptr (lastAt ws (n + i)) ∧ Hid (CutSt w F ws wx) ∧ Hid (ws.filter (fun x => x.pos != n + i) = (outOf n i F.ws).filter (fun x => x.pos != n + i)))
   case atStart => exact ⟨outOf n i F.ws, Nat.le_refl _, HF.out, HT.out, HS1.out, rfl⟩
   case round =>
    obtain ⟨ws, hq2, hf2, rfl, hS2, hE⟩ := hrel
    clear HS1
    obtain ⟨o, ho⟩ : ∃ o, o = lastAt ws (n + i) := ⟨_, rfl⟩
    rw [← ho]
    cases o with
    | none =>
     have HO := Lib.hid ho
     clear ho
     rw [ptr_none]
     go_wp2
     go_roundg (N - n - (i + 1))
     case measure => omega
     case rel =>
      refine ⟨i + 1, by omega, Nat.le_refl _, by go_num, ?_⟩
      rw [← out_step, ← filter_stays hE.out HO.out.symm]
      exact hS2.out
    | some b =>
     obtain ⟨l1, x, l2, rfl, rfl, hp, hl⟩ := lastAt_some ho.symm
     have hl' : ∀ y ∈ l2, y.pos ≠ x.pos := by rw [hp]; exact hl
     have HD := Lib.hid (CutSt.drop HH.out hS2.out hl' (by omega))
     have hu : lastAt (l1 ++ l2) (n + i) = x.under := by
      rw [hS2.out.under l1 x l2 rfl, ← hp]
      exact lastAt_drop hl'
     obtain ⟨q, hq'⟩ := ptr_shape x.under
     have HU : Hid (Value.pointer q = ptr (lastAt (l1 ++ l2) (n + i))) := by rw [hu]; exact hq'.symm
     have HX : Hid (∀ wx' : World, wx'.heap[x.b]? = wr.heap[x.b]? → wx'.cell? ⟨x.b, 6, none⟩ = some (.pointer q)) := by
      intro wx' e
      obtain ⟨a1, a2, hxa⟩ := seg_mem hS2.out.seg x (by simp)
      rw [(heap_ext e 6).1, cell_at hxa, ← hq']
      rfl
     have HE2 : Hid ((l1 ++ l2).filter (fun x => x.pos != n + i) = (outOf n i F.ws).filter (fun x => x.pos != n + i)) := by
      rw [← hE.out, List.filter_append, List.filter_append, List.filter_cons_of_neg (by simpa using hp)]; exact rfl
     rw [ptr_some]
     clear ho hp hl hl' hu hq' hS2 hE
     go_wp2_with (go_at_call 134; (with_reducible refine HD.out.mono ?_); rintro e w3 ⟨rfl, hS3, h3⟩; have h6 := HX.out w3 h3)
     go_roundg ((l1 ++ l2).length)
     case measure => simp at hq2 ⊢; omega
     case rel => exact ⟨l1 ++ l2, Nat.le_refl _, by simp at hf2 ⊢; omega, HU.out, hS3, HE2.out⟩
  ·obtain rfl : i = N - n := by omega
   have hws : outOf n (N - n) F.ws = (F.cut F.sl n).ws := out_all n (N - n) F.ws (fun x hx => by have := HOK.out.pos x hx; rw [← HN.out] at this; omega)
   rw [hws] at hS
   have hrow := hS.out.row
   rw [HV.out, ← HN.out] at hrow
   have HDel : Hid (∀ W, Below wr.heap.size wr W → Calls Tryz.prog 135 #[.slice (some ⟨g, 0, none⟩) N cap, .int .i64 n, .int .i64 N] W fun e w' => e = .returned (.slice (some ⟨g, 0, none⟩) n cap) ∧ w'.ownsRow 0 143 3 (.slice (some ⟨g, 0, none⟩) n cap) n (secsCells (F.secs.take n)) ∧ Only g wr w') :=
    fun W hW => (owns_cut (w := W) (owns_keep hrow (fun g' e => hW.block g' (hrow.lt g' e).2)) hn).mono fun e w' ⟨h1, h2, h3⟩ => ⟨h1, h2, (Only.of hW).trans h3⟩
   have HB : Hid (∀ w2, Only g wr w2 → w2.heap[F.b]? = some (.cells ({ F with ws := (F.cut F.sl n).ws } : Fl).cells 148 (0, 0))) := fun w2 ho => ho.keep hS.out.blk hbg
   have c0 : wr.cell? ⟨F.b, 0, none⟩ = some (.slice (some ⟨g, 0, none⟩) N cap) := (cell_at hS.out.blk 0).trans (by show some F.sl = _; rw [HV.out, HN.out])
   clear hrow hws hq hi
   go_wp2
   go_region_with ((go_at_call 135; (with_reducible refine (HDel.out _ (by first | exact below_drewN _ _ | exact (Below.refl _ _).drew | exact Below.refl _ _)).mono ?_); rintro e w2 ⟨rfl, hr2, ho2⟩; have q0 : w2.cell? ⟨F.b, 0, none⟩ = some F.sl := cell_at (HB.out w2 ho2) 0; have p0 := free_at (HB.out w2 ho2) 0; have q1 : w2.cell? ⟨F.b, 1, none⟩ = some (.int .i64 F.ns) := cell_at (HB.out w2 ho2) 1; have p1 := free_at (HB.out w2 ho2) 1))
   go_wp2
   all_goals
    go_end0
    exact ⟨rfl, wr, w2, hS.out, hr2, ho2, by first | rw [show ((min F.ns n : Nat) : Int) = (n : Int) by omega] | rw [show ((min F.ns n : Nat) : Int) = (F.ns : Int) by omega]⟩
theorem cut_none {w : World} {F : Fl} (h : FileAt w F) (ok : FileOk F) :
  Calls Tryz.prog 100 #[.pointer (some ⟨F.b, 0, none⟩), .int .i64 F.secs.length] w fun e w' => e = .returned (.tuple #[]) ∧ ∃ k, w' = ((w.drewN k).setCell ⟨F.b, 0, none⟩ F.sl).setCell ⟨F.b, 1, none⟩ (.int .i64 F.ns) := by
 obtain ⟨N, hN⟩ : ∃ N, N = F.secs.length := ⟨_, rfl⟩
 obtain ⟨a, cap, hv⟩ := owns_shape h.row
 have hc : N ≤ cap := by
  rcases h.row.2 with ⟨h1, h2⟩ | ⟨g, cap', cur, h1, _, _, h3, _⟩
  ·omega
  ·rw [hv] at h1
   simp only [Value.slice.injEq] at h1
   omega
 have hns := ok.nsle
 have c0 : w.cell? ⟨F.b, 0, none⟩ = some (.slice a N cap) := (cell_at h.blk 0).trans (by show some F.sl = _; rw [hv, hN])
 have c1 : w.cell? ⟨F.b, 1, none⟩ = some (.int .i64 F.ns) := cell_at h.blk 1
 have f0 := free_at h.blk 0
 have f1 := free_at h.blk 1
 rw [hv, ← hN]
 rw [← hN] at hns
 have b1 : (F.ns : Int) ≤ (N : Int) := by omega
 have HC := Lib.hid hc
 have HD : Hid (∀ W, Calls Tryz.prog 135 #[.slice a N cap, .int .i64 N, .int .i64 N] W fun e w' => e = .returned (.slice a N cap) ∧ W = w') := fun W => delete_same W a N cap hc
 clear h hv hN ok
 by_cases he : cap = N
 ·subst he
  cases a
  all_goals
   go_enter Tryz.func100, Tryz.ntmps100
   go_wp2
   go_loopw [14] (fun v wr => v = .int .i64 0 ∧ wr = w) (fun _ _ => 0)
   case atStart => exact ⟨rfl, rfl⟩
   case round =>
    obtain ⟨rfl, rfl⟩ := hrel
    go_wp2
    go_region_with ((go_at_call 135; (with_reducible refine (HD.out _).mono ?_); rintro e w2 ⟨rfl, rfl⟩))
    go_wp2
    all_goals
     go_end0
     exact ⟨rfl, _, by first | rfl | (have e : (cap : Int) = (F.ns : Int) := (by omega); rw [e]; rfl)⟩
 ·cases a
  all_goals
   go_enter Tryz.func100, Tryz.ntmps100
   go_wp2
   go_loopw [14] (fun v wr => v = .int .i64 0 ∧ wr = w) (fun _ _ => 0)
   case atStart => exact ⟨rfl, rfl⟩
   case round =>
    obtain ⟨rfl, rfl⟩ := hrel
    go_wp2
    go_region_with ((go_at_call 135; (with_reducible refine (HD.out _).mono ?_); rintro e w2 ⟨rfl, rfl⟩))
    go_wp2
    all_goals
     go_end0
     exact ⟨rfl, _, by first | rfl | (have e : (N : Int) = (F.ns : Int) := (by omega); rw [e]; rfl)⟩
end Go.Proofs.YtbkngnjkaledlaaGreat.P4
