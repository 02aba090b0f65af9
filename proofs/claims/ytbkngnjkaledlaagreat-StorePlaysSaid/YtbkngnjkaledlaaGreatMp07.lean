/-
  Texts of the proof of SaidPlay8b.
-/
import Derived.Test.YtbkngnjkaledlaaGreatMp06
import Derived.Lib.IndexBytes
set_option maxHeartbeats 8000000
set_option maxRecDepth 100000
namespace Go.Proofs.YtbkngnjkaledlaaGreat.P4
open Go Go.RowKit Go.Lib P3
theorem back_over {F : Fl} (ok : FileOk F) : overPos Sec.back F.ws F.secs = F.secs.map Sec.back := by
 apply List.ext_getElem?
 intro i
 rw [over_at Sec.back (fun _ => rfl), List.getElem?_map]
 split
 ·rfl
 ·rename_i hno
  cases hs : F.secs[i]? with
  | none => rfl
  | some s =>
   have hne : ∀ x ∈ F.ws, x.pos ≠ i := fun x hx e => hno (List.any_eq_true.2 ⟨x, hx, by simpa using e⟩)
   obtain ⟨h1, h2⟩ := ok.clean i s hs hne
   have h3 := (ok.safe i s hs).1 h1
   show some s = some s.back
   unfold Sec.back
   rw [if_neg (by rw [h3]; decide)]
   cases s
   simp_all
theorem tear_row {S : List Sec} {x : Wr} {s : Sec} (hs : S[x.pos]? = some s) (hk : x.kept ≠ 0) : secsCells (tearOne S x) = (secsCells S).set (x.pos * 3) (.string (torn x.kept x.data s.now)) := by
 unfold tearOne
 rw [if_neg hk, modify_set _ S x.pos s hs]
 have := secs_now S x.pos s hs (torn x.kept x.data s.now)
 rw [modify_set _ S x.pos s hs] at this
 exact this
theorem back_row {S : List Sec} {i : Nat} {s : Sec} (hs : S[i]? = some s) : secsCells (S.modify i Sec.back) = (secsCells S).set (i * 3) (.string (if s.safe.size = 0 then zeros else s.safe)) := by
 rw [modify_set _ S i s hs]
 have := secs_now S i s hs (if s.safe.size = 0 then zeros else s.safe)
 rw [modify_set _ S i s hs] at this
 exact this
theorem over_safe {l : List Wr} {S : List Sec} {i : Nat} {s : Sec} (h : (overPos Sec.back l S)[i]? = some s) : ∃ s0, S[i]? = some s0 ∧ s.safe = s0.safe := by
 rw [over_at Sec.back (fun _ => rfl)] at h
 split at h
 ·obtain ⟨s0, h0, rfl⟩ := Option.map_eq_some_iff.1 h
  exact ⟨s0, h0, rfl⟩
 ·exact ⟨s, h, rfl⟩
def CrashPost (w : World) (F : Fl) (e : Ending) (w' : World) : Prop :=
 e = .returned (.bool (F.stays || decide (0 < F.left))) ∧ ∃ sl, FileAt w' (F.tear.sync.cut sl F.left) ∧ sl.ownBlock = F.sl.ownBlock ∧ Fr F.foot w w'
theorem crash_walk {w : World} {F : Fl} (h : FileAt w F) (ok : FileOk F) (hk : ∀ x ∈ F.ws, x.kept ≤ 256) :
  Calls Tryz.prog 81 #[.pointer (some ⟨F.b, 0, none⟩)] w (CrashPost w F) := by
 obtain ⟨p, hp⟩ := ptr_shape (hd F.ws none)
 have HR : Hid (∀ W, Calls Tryz.prog 91 #[.string ⟨#[0]⟩, .int .i64 256] W fun e w' => e = .returned (.string zeros) ∧ Below W.heap.size W w') := fun W => repeat_zeros W
 have HH := Lib.hid h
 have HP := Lib.hid hp
 have HOK := Lib.hid ok
 have HK := Lib.hid hk
 clear h hp ok hk
 go_enter Tryz.func81, Tryz.ntmps81
 go_wp2_with (go_at_call 91; (with_reducible refine (HR.out _).mono ?_); rintro e w1 ⟨rfl, hb1⟩; have c3 : w1.cell? ⟨F.b, 3, none⟩ = some (.pointer p) := (cell_at (old_below HH.out.blk hb1) 3).trans (by show some (ptr (hd F.ws none)) = _; rw [HP.out]))
 have HB1 := Lib.hid hb1
 clear hb1 HR
 go_loopg [4] (F.ws.length) (fun q v wr => ∃ l r, F.ws = l ++ r ∧ r.length ≤ q ∧ v = ptr (hd r none) ∧ Hid (RowSt w F (overPos Sec.back l F.secs) wr))
 case atStart => exact ⟨[], F.ws, rfl, Nat.le_refl _, HP.out.symm, (RowSt.below ⟨HH.out.blk, HH.out.seg, HH.out.row, Fr.refl _ _⟩ HB1.out)⟩
 case round =>
  obtain ⟨l, r, hlr, hgr, rfl, hS⟩ := hrel
  have HLR := Lib.hid hlr
  clear hlr c3
  cases r with
  | cons x r =>
   have hx : x ∈ F.ws := by rw [HLR.out]; simp
   have hpos := HOK.out.pos x hx
   have hroom := HOK.out.room
   obtain ⟨g, cap, hv2, _, hgl⟩ := hS.out.row.form (by rw [over_length]; omega)
   rw [over_length] at hv2
   have hg : F.sl.ownBlock = some g := by rw [hv2]; rfl
   have hxg := HH.out.ne_row.2 g hg x hx
   have hgx : g ≠ x.b := fun e => hxg e.symm
   have hrow := hS.out.row
   rw [hv2] at hrow
   have hol := over_length Sec.back l F.secs
   obtain ⟨s, hs⟩ : ∃ s, (overPos Sec.back l F.secs)[x.pos]? = some s := ⟨_, List.getElem?_eq_getElem (by rw [hol]; exact hpos)⟩
   obtain ⟨s0, s1, s2⟩ := secs_at _ _ _ hs
   rw [hol] at hrow
   have r0 := owns_cell hrow s0
   have r1 := owns_cell hrow s1
   have f0 := owns_free hrow (x.pos * 3)
   have hseg := hS.out.seg
   rw [HLR.out, seg_app] at hseg
   have hxa : WrAt wr x (lst none l) (hd r none) := hseg.2.1
   have hxl : x.b < wr.heap.size := lt_of_block hxa
   obtain ⟨p2, hp2⟩ := ptr_shape (hd r none)
   have x1 : wr.cell? ⟨x.b, 1, none⟩ = some (.int .i64 x.pos) := (cell_at hxa 1).trans rfl
   have x5 : wr.cell? ⟨x.b, 5, none⟩ = some (.pointer p2) := (cell_at hxa 5).trans (by rw [← hp2]; rfl)
   have c0 : wr.cell? ⟨F.b, 0, none⟩ = some (.slice (some ⟨g, 0, none⟩) F.secs.length cap) := (cell_at hS.out.blk 0).trans (by rw [← hv2]; rfl)
   have b1 : (x.pos : Int) < (F.secs.length : Int) := by omega
   have hsafe : s.safe.size ≠ 0 ∨ s.safe = ⟨#[]⟩ := by
    obtain ⟨t, ht, e⟩ := over_safe hs
    obtain ⟨a, b⟩ := HOK.out.safe _ _ ht
    rw [e]
    by_cases hi : x.pos < F.ns
    ·exact .inl (by rw [a hi]; decide)
    ·exact .inr (b (by omega))
   have HO : Hid (∀ W B, W.cell? ⟨B, 0, none⟩ = some (.string s.safe) → W.cell? ⟨B, 1, none⟩ = some (.string zeros) → Calls Tryz.prog 118 #[.slice (some ⟨B, 0, none⟩) 2 2] W fun e w' => e = .returned (.string (if s.safe.size = 0 then zeros else s.safe)) ∧ W = w') := fun W B h0 h1 => or_back W B s.safe hsafe h0 h1
   have e0 : ptr (hd (x :: r) none) = .pointer (some ⟨x.b, 0, none⟩) := rfl
   rw [e0]
   have HP2 := Lib.hid hp2
   have HRow := Lib.hid hrow
   have HS0 := Lib.hid hs
   have HG := Lib.hid hg
   have HV2 := Lib.hid hv2
   have HL := Lib.hid hol
   obtain ⟨bk, hbk⟩ : ∃ bk, bk = if s.safe.size = 0 then zeros else s.safe := ⟨_, rfl⟩
   rw [← hbk] at HO
   have HBK := Lib.hid hbk
   clear e0 hp2 hrow hs s0 s1 s2 hseg hxa hx hg hv2 hol hsafe hbk
   go_wp2
   go_region
   go_wp2_with (go_at_call 118; (with_reducible refine (HO.out _ _ (by simp [World.cell?_alloc_new]) (by simp)).mono ?_); rintro e w' ⟨rfl, rfl⟩)
   go_roundg (r.length)
   case measure => simp at hgr; omega
   case rel =>
    refine ⟨l ++ [x], r, by rw [HLR.out]; simp, Nat.le_refl _, HP2.out.symm, ?_⟩
    rw [over_snoc]
    refine RowSt.below (wr := wr.setCell ⟨g, x.pos * 3, none⟩ (.string bk)) ?_ (((Below.refl _ _).alloc (Nat.le_refl _) _).drew)
    refine RowSt.step HH.out hS.out HG.out (by rw [List.length_modify]) ((Only.refl g _).setCell _ _) ?_
    rw [back_row HS0.out, ← HBK.out, HL.out, HV2.out]
    exact owns_set HRow.out (x.pos * 3) (.string bk)
  | nil =>
   have e0 : ptr (hd [] none) = .pointer none := rfl
   rw [e0]
   have hll : l = F.ws := by have := HLR.out; rw [List.append_nil] at this; exact this.symm
   subst hll
   rw [back_over HOK.out] at hS
   have c1 : wr.cell? ⟨F.b, 1, none⟩ = some (.int .i64 F.ns) := cell_at hS.out.blk 1
   have c3 : wr.cell? ⟨F.b, 3, none⟩ = some (.pointer p) := (cell_at hS.out.blk 3).trans (by show some (ptr (hd F.ws none)) = _; rw [HP.out])
   clear e0
   go_wp2
   clear c1 c3
   go_loopg [6, 7] (F.ws.length) (fun q vs v wx => ∃ l r, F.ws = l ++ r ∧ r.length ≤ q ∧ v = ptr (hd r none) ∧ vs = .int .i64 (sizeAll F.ns l : Nat) ∧ Hid (RowSt w F (tearAll (F.secs.map Sec.back) l) wx))
   case atStart => exact ⟨[], F.ws, rfl, Nat.le_refl _, HP.out.symm, rfl, hS.out⟩
   case round =>
    clear hS HLR
    obtain ⟨l, r, hlr, hgr2, rfl, rfl, hS⟩ := hrel
    have HLR := Lib.hid hlr
    clear hlr
    cases r with
    | nil =>
     have e1 : ptr (hd [] none) = .pointer none := rfl
     rw [e1]
     have hll : l = F.ws := by have := HLR.out; rw [List.append_nil] at this; exact this.symm
     subst hll
     have hT : FileAt wr F.tear := ⟨hS.out.blk, hS.out.row, hS.out.seg, HH.out.nodup⟩
     have hTO := F.tear_ok HOK.out HK.out
     obtain ⟨z, hz⟩ : ∃ z, z = F.left := ⟨_, rfl⟩
     have hzs : sizeAll F.ns F.ws = z := hz.symm
     rw [hzs]
     have HZ := Lib.hid hz
     have hzl := (size_left HOK.out).1
     have hroom := HOK.out.room
     rw [← hz] at hzl
     have bz : z ≤ 5000 := by omega
     have c2 : wr.cell? ⟨F.b, 2, none⟩ = some (.bool F.stays) := cell_at hS.out.blk 2
     have HSy : Hid (Calls Tryz.prog 99 #[.pointer (some ⟨F.b, 0, none⟩)] wr fun e w' => e = .returned (.tuple #[]) ∧ FileAt w' F.tear.sync ∧ Fr F.tear.foot wr w') := hT.sync hTO
     have HCu : Hid (∀ W, FileAt W F.tear.sync → Calls Tryz.prog 100 #[.pointer (some ⟨F.b, 0, none⟩), .int .i64 z] W fun e w' => e = .returned (.tuple #[]) ∧ ∃ sl, FileAt w' (F.tear.sync.cut sl z) ∧ sl.ownBlock = F.sl.ownBlock ∧ Fr F.tear.sync.foot W w') :=
      fun W hW => hW.cut (F.tear.sync_ok hTO) z (by show z ≤ (F.tear.secs.map Sec.sync).length; rw [List.length_map]; unfold Fl.tear; rw [tearAll_length, List.length_map]; exact hzl)
     have HFr : Hid (Fr F.foot w wr) := hS.out.fr.mono (fun k _ hk => .inr (.inl hk))
     obtain ⟨st, hst⟩ : ∃ st, st = F.stays := ⟨_, rfl⟩
     rw [← hst] at c2
     have HST := Lib.hid hst
     clear e1 hT hTO hz hzs hzl hst hS hroom
     have fin : Hid (∀ w2 w3 : World, Fr F.tear.foot wr w2 → (∃ sl, FileAt w3 (F.tear.sync.cut sl z) ∧ sl.ownBlock = F.sl.ownBlock ∧ Fr F.tear.sync.foot w2 w3) → ∃ sl, FileAt w3 (F.tear.sync.cut sl F.left) ∧ sl.ownBlock = F.sl.ownBlock ∧ Fr F.foot w w3) := by
      rintro w2 w3 f2 ⟨sl, h1, h2, h3⟩
      rw [HZ.out] at h1
      refine ⟨sl, h1, h2, (HFr.out.trans (f2.mono fun k _ hk => hk)).trans (h3.mono fun k _ hk => ?_)⟩
      rcases hk with hk | hk | ⟨y, hy, _⟩
      ·exact .inl hk
      ·exact .inr (.inl hk)
      ·simp [Fl.sync] at hy
     cases st
     ·by_cases hz0 : 0 < z
      ·go_wp2_with (first
        | (go_at_call 99; (with_reducible refine HSy.out.mono ?_); rintro e w2 ⟨rfl, hF2, hf2⟩)
        | (go_at_call 100; (with_reducible refine (HCu.out _ hF2).mono ?_); rintro e w3 ⟨rfl, h3⟩))
       go_ret
       exact ⟨by rw [← HST.out, ← HZ.out, decide_eq_true hz0]; rfl, fin.out _ _ hf2 h3⟩
      ·go_wp2_with (first
        | (go_at_call 99; (with_reducible refine HSy.out.mono ?_); rintro e w2 ⟨rfl, hF2, hf2⟩)
        | (go_at_call 100; (with_reducible refine (HCu.out _ hF2).mono ?_); rintro e w3 ⟨rfl, h3⟩))
       go_ret
       exact ⟨by rw [← HST.out, ← HZ.out, decide_eq_false hz0]; rfl, fin.out _ _ hf2 h3⟩
     ·go_wp2_with (first
       | (go_at_call 99; (with_reducible refine HSy.out.mono ?_); rintro e w2 ⟨rfl, hF2, hf2⟩)
       | (go_at_call 100; (with_reducible refine (HCu.out _ hF2).mono ?_); rintro e w3 ⟨rfl, h3⟩))
      go_ret
      exact ⟨by rw [← HST.out]; rfl, fin.out _ _ hf2 h3⟩
    | cons x r =>
     have hx : x ∈ F.ws := by rw [HLR.out]; simp
     have hpos := HOK.out.pos x hx
     have hroom := HOK.out.room
     have hkx := HK.out x hx
     have hdx := HOK.out.data x hx
     have htl : (tearAll (F.secs.map Sec.back) l).length = F.secs.length := by rw [tearAll_length, List.length_map]
     obtain ⟨g, cap, hv2, _, hgl⟩ := hS.out.row.form (by rw [htl]; omega)
     rw [htl] at hv2
     have hg : F.sl.ownBlock = some g := by rw [hv2]; rfl
     have hxg := HH.out.ne_row.2 g hg x hx
     have hgx : g ≠ x.b := fun e => hxg e.symm
     have hrow := hS.out.row
     rw [hv2] at hrow
     obtain ⟨s, hs⟩ : ∃ s, (tearAll (F.secs.map Sec.back) l)[x.pos]? = some s := ⟨_, List.getElem?_eq_getElem (by rw [htl]; exact hpos)⟩
     have hsz : s.now.size = 256 := tear_now (l := l) (fun y hy => HK.out y (by rw [HLR.out]; exact List.mem_append_left _ hy)) (fun y hy => HOK.out.data y (by rw [HLR.out]; exact List.mem_append_left _ hy)) (back_now HOK.out) s (List.mem_of_getElem? hs)
     obtain ⟨s0, s1, s2⟩ := secs_at _ _ _ hs
     rw [htl] at hrow
     have r0 := owns_cell hrow s0
     have f0 := owns_free hrow (x.pos * 3)
     have hseg := hS.out.seg
     rw [HLR.out, seg_app] at hseg
     have hxa : WrAt wr x (lst none l) (hd r none) := hseg.2.1
     have hxl : x.b < wr.heap.size := lt_of_block hxa
     obtain ⟨p2, hp2⟩ := ptr_shape (hd r none)
     have x1 : wr.cell? ⟨x.b, 1, none⟩ = some (.int .i64 x.pos) := (cell_at hxa 1).trans rfl
     have x2 : wr.cell? ⟨x.b, 2, none⟩ = some (.string x.data) := (cell_at hxa 2).trans rfl
     have x3 : wr.cell? ⟨x.b, 3, none⟩ = some (.int .i64 x.kept) := (cell_at hxa 3).trans rfl
     have x5 : wr.cell? ⟨x.b, 5, none⟩ = some (.pointer p2) := (cell_at hxa 5).trans (by rw [← hp2]; rfl)
     have c0 : wr.cell? ⟨F.b, 0, none⟩ = some (.slice (some ⟨g, 0, none⟩) F.secs.length cap) := (cell_at hS.out.blk 0).trans (by rw [← hv2]; rfl)
     have b1 : (x.pos : Int) < (F.secs.length : Int) := by omega
     have e0 : ptr (hd (x :: r) none) = .pointer (some ⟨x.b, 0, none⟩) := rfl
     rw [e0]
     have HP2 := Lib.hid hp2
     have HRow := Lib.hid hrow
     have HS0 := Lib.hid hs
     have HG := Lib.hid hg
     have HV2 := Lib.hid hv2
     have HL := Lib.hid htl
     have HSZ := Lib.hid hsz
     obtain ⟨z, hz⟩ : ∃ z, z = sizeAll F.ns l := ⟨_, rfl⟩
     have bz : z ≤ 5000 := by
      have hL := (back_like HOK.out).all l (fun y hy => by rw [List.length_map]; exact HOK.out.pos y (by rw [HLR.out]; exact List.mem_append_left _ hy))
      have h1 := hL.size
      have h2 := hL.le
      rw [htl] at h2
      omega
     rw [← hz]
     have HZ := Lib.hid hz
     have y1 : x.kept ≤ x.data.size := by omega
     have y2 : x.kept ≤ s.now.size := by omega
     have y3 : ¬ 9223372036854775807 < s.now.size := by omega
     clear e0 hp2 hrow hs s0 s1 s2 hseg hxa hx hg hv2 htl hz
     by_cases hk0 : x.kept = 0
     ·have HK0 := Lib.hid hk0
      rw [hk0] at x3
      clear hk0 hkx
      go_wp2
      go_roundg (r.length)
      case measure => simp at hgr2; omega
      case rel =>
       refine ⟨l ++ [x], r, by rw [HLR.out]; simp, Nat.le_refl _, HP2.out.symm, ?_, ?_⟩
       ·rw [sizeAll_snoc, ← HZ.out]; unfold sizeOne; rw [if_pos HK0.out]
       ·rw [tearAll_snoc]; unfold tearOne; rw [if_pos HK0.out]; exact hS.out
     ·have k0 : 0 < x.kept := by omega
      have HK0 := Lib.hid hk0
      clear hk0 hsz hdx
      go_wp2
      go_region
      go_wp2
      go_region
      go_wp2
      go_roundg (r.length)
      case measure => simp at hgr2; omega
      case rel =>
       refine ⟨l ++ [x], r, by rw [HLR.out]; simp, Nat.le_refl _, HP2.out.symm, ?_, ?_⟩
       ·rw [sizeAll_snoc, ← HZ.out]
        unfold sizeOne
        rw [if_neg HK0.out, show ((max z (x.pos + 1) : Nat) : Int) = max (z : Int) ((x.pos : Int) + 1) by omega]
       ·rw [tearAll_snoc]
        refine RowSt.step HH.out hS.out HG.out (by rw [tearOne_length]) (((Only.refl g _).setCell _ _).drew.drew) ?_
        rw [tear_row HS0.out HK0.out, HL.out, HV2.out]
        exact owns_set HRow.out (x.pos * 3) (.string (torn x.kept x.data s.now))
end Go.Proofs.YtbkngnjkaledlaaGreat.P4
namespace Go.Proofs.YtbkngnjkaledlaaGreat.P4
open Go Go.RowKit Go.Lib Go.Maps Go.ChangeMaps Go.MapKept P3
theorem writes_none (w : World) (d : Nat) (c0 : w.cell? ⟨d, 0, none⟩ = some (.map none)) : Calls Tryz.prog 80 #[.pointer (some ⟨d, 0, none⟩)] w (WritesPost w []) := by
 have hrg := fun w => run_range_nilMap (P := Tryz.prog) w 71 9 124 Tryz.underlying71
 have hnx := fun w ty => run_next_nilMap (P := Tryz.prog) w ty 0 0 #[]
 have HS := Lib.hid (fun w => sort_none none 0 (.func (.func 116) #[] #[]) w)
 go_enter Tryz.func80, Tryz.ntmps80
 go_wp2
 go_loopw [3] (fun v wr => v = .slice none 0 0 ∧ wr = w.alloc (.mapIter none 0 #[] 0)) (fun _ _ => 0)
 case atStart => exact ⟨rfl, rfl⟩
 case round =>
  obtain ⟨rfl, rfl⟩ := hrel
  go_wp2_with (go_at_call 115; (with_reducible refine (HS.out _).mono ?_); rintro e w2 ⟨rfl, rfl⟩)
  go_ret
  exact ⟨_, [], rfl, List.Perm.refl _, List.Pairwise.nil, ⟨⟨_, _, rfl⟩, fun h => absurd rfl h⟩, below_new _ _⟩
theorem writes_any (w : World) (d : Nat) (m : Option Nat) (L : Files) (c0 : w.cell? ⟨d, 0, none⟩ = some (.map m)) (hm : MapAt w m (dir L)) (hn : (L.map (·.1)).Nodup) (hF : FilesAt w L) (hnd : ((allW L).map (·.turn)).Nodup) (hl : (allW L).length ≤ 100000) :
  Calls Tryz.prog 80 #[.pointer (some ⟨d, 0, none⟩)] w (WritesPost w L) := by
 cases m with
 | some b => exact writes_some w d b L c0 hm hn hF hnd hl
 | none =>
  have hL : L = [] := by
   rcases hm with ⟨_, h⟩ | ⟨b, D, h, _⟩
   ·exact List.map_eq_nil_iff.1 h
   ·cases h
  subst hL
  exact writes_none w d c0
def RngO (w : World) (m : Option Nat) (r : Nat) (L : Dir) (lf : List UInt8 → Bool) (cnt : Nat) : Prop :=
 (m = none ∧ w.heap[r]? = some (.mapIter none 0 #[] 0) ∧ L = [] ∧ ∀ k, lf k = false) ∨ ∃ b, m = some b ∧ Rng w b r L lf cnt
theorem RngO.fr {S : Nat → Prop} {w w' : World} {m : Option Nat} {r : Nat} {L : Dir} {lf : List UInt8 → Bool} {cnt : Nat} (h : RngO w m r L lf cnt) (hf : Fr S w w') (hb : ∀ b, m = some b → ¬ S b) (hr : ¬ S r) : RngO w' m r L lf cnt := by
 rcases h with ⟨h1, h2, h3⟩ | ⟨b, rfl, h⟩
 ·exact .inl ⟨h1, hf.keep h2 hr, h3⟩
 ·exact .inr ⟨b, rfl, h.fr hf (hb b rfl) hr⟩
theorem RngO.map {w : World} {m : Option Nat} {r : Nat} {L : Dir} {lf : List UInt8 → Bool} {cnt : Nat} (h : RngO w m r L lf cnt) : MapAt w m L := by
 rcases h with ⟨rfl, h2, rfl, _⟩ | ⟨b, rfl, h⟩
 ·exact .inl ⟨rfl, rfl⟩
 ·exact h.map
theorem run_next_nil {P : Program} (w : World) (ty : TypeId) (r : Nat) (h : w.heap[r]? = some (.mapIter none 0 #[] 0)) : (Instr.next (.pointer (some ⟨r, 0, none⟩)) false ty).run P w = .ok (.tuple #[.bool false]) w := by
 simp only [Instr.next, getObj, Sem.run_bind, Sem.run, h, Result.andThen]
 rfl
theorem RngO.perm {w : World} {m : Option Nat} {r : Nat} {L L' : Dir} {lf : List UInt8 → Bool} {cnt : Nat} (h : RngO w m r L lf cnt) (hp : L.Perm L') : RngO w m r L' lf cnt := by
 rcases h with ⟨h1, h2, rfl, h3⟩ | ⟨b, rfl, n, D, left, h1, h2, h3⟩
 ·exact .inl ⟨h1, h2, hp.nil_eq.symm, h3⟩
 ·exact .inr ⟨b, rfl, n, D, left, h1, ⟨by rw [h2.size, hp.length_eq], fun k c hk => h2.here k c (hp.mem_iff.2 hk), fun k hk => by obtain ⟨c, hc⟩ := h2.has k hk; exact ⟨c, hp.mem_iff.1 hc⟩⟩, h3⟩
theorem looks_perm {w : World} {m : Option Nat} {L L' : Dir} (h : MapAt w m L) (hp : L.Perm L') : MapAt w m L' := by
 rcases h with ⟨h1, rfl⟩ | ⟨b, D, rfl, h1, h2⟩
 ·exact .inl ⟨h1, hp.nil_eq.symm⟩
 ·exact .inr ⟨b, D, rfl, by rw [← hp.length_eq]; exact h1, ⟨by rw [h2.size, hp.length_eq], fun k c hk => h2.here k c (hp.mem_iff.2 hk), fun k hk => by obtain ⟨c, hc⟩ := h2.has k hk; exact ⟨c, hp.mem_iff.1 hc⟩⟩⟩
section
variable {w : World} {ops : Array Oper} {rest : List Oper} {o : Oper} {a : Act} {Q : Exit → Act → World → Prop}
theorem wpList_range_o (hg : o.guard = none) (m : Operand) (hop : o.op = Op.range 71 m) (b : Option Nat) (L : Dir) (hm : a.eval m = .map b) (h : MapAt w b L)
  (hK : ∀ w', RngO w' b w.heap.size L (fun k => (lk L k).isSome) L.length → Below w.heap.size w w' → w'.heap.size = w.heap.size + 1 → wpList Tryz.prog ops Q rest (a.put o.dst (.pointer (some ⟨w.heap.size, 0, none⟩))) w') :
  wpList Tryz.prog ops Q (o :: rest) a w := by
 cases b with
 | some b => exact wpList_range_sf hg m hop b L hm h fun w' h1 h2 h3 => hK w' (.inr ⟨b, rfl, h1⟩) h2 h3
 | none =>
  have hL : L = [] := by
   rcases h with ⟨_, h⟩ | ⟨b, D, h, _⟩
   ·exact h
   ·cases h
  subst hL
  refine wpList_plain hg fun K' hK' => ?_
  have hrun := run_range_nilMap (P := Tryz.prog) w 71 9 124 Tryz.underlying71
  unfold Oper.wp
  simp [execOp, hop, hm, hrun, Result.andThen]
  exact hK' _ _ (hK _ (.inl ⟨rfl, heap_alloc_new w _, rfl, fun k => rfl⟩) (below_new _ _) (by simp))
theorem wpList_next_o (hg : o.guard = none) (it : Operand) (hop : o.op = Op.next it false) (m : Option Nat) (r : Nat) (L : Dir) (lf : List UInt8 → Bool) (cnt : Nat) (hit : a.eval it = .pointer (some ⟨r, 0, none⟩)) (h : RngO w m r L lf cnt)
  (hDone : (∀ k, lf k = false) → wpList Tryz.prog ops Q rest (a.put o.dst (.tuple #[.bool false])) w)
  (hMore : ∀ (s : ByteArray) (fb : Nat) (w' : World) (cnt' : Nat), s.size ≤ maxLen → (s.data.toList, fb) ∈ L → lf s.data.toList = true → RngO w' m r L (fun k => lf k && !(k == s.data.toList)) cnt' → cnt' < cnt →
   Only r w w' → w'.heap.size = w.heap.size → (Instr.entry (.pointer (some ⟨r, 0, none⟩))).run Tryz.prog w' = .ok (.tuple #[.string s, .pointer (some ⟨fb, 0, none⟩)]) w' → wpList Tryz.prog ops Q rest (a.put o.dst (.tuple #[.bool true, .string s, .pointer (some ⟨fb, 0, none⟩)])) w') :
  wpList Tryz.prog ops Q (o :: rest) a w := by
 rcases h with ⟨rfl, h2, rfl, h3⟩ | ⟨b, rfl, h⟩
 ·refine wpList_plain hg fun K' hK' => ?_
  have hrun := fun ty => run_next_nil (P := Tryz.prog) w ty r h2
  unfold Oper.wp
  simp [execOp, hop, hit, hrun, Result.andThen]
  exact hK' _ _ (hDone h3)
 ·exact wpList_next_sf hg it hop b r L lf cnt hit h hDone fun s fb w' cnt' h1 h2 h3 h4 => hMore s fb w' cnt' h1 h2 h3 (.inr ⟨b, rfl, h4⟩)
theorem wpList_delete_o (hg : o.guard = none) (mo x : Operand) (hop : o.op = Op.call { callee := Callee.builtin Builtin.delete, args := #[mo, x], argTypes := #[71, 9] }) (m : Option Nat) (r : Nat) (L : Dir) (lf : List UInt8 → Bool) (cnt : Nat) (hn : (L.map (·.1)).Nodup)
  (hm : a.eval mo = .map m) (h : RngO w m r L lf cnt) (hne : m ≠ none) (s : ByteArray) (hs : s.size ≤ maxLen) (hx : a.eval x = .string s)
  (hK : ∀ b w' cnt', m = some b → RngO w' m r (delL L s.data.toList) (fun k => lf k && !(k == s.data.toList)) cnt' → cnt' ≤ cnt → Only b w w' → w'.heap.size = w.heap.size → wpList Tryz.prog ops Q rest (a.put o.dst (.tuple #[])) w') :
  wpList Tryz.prog ops Q (o :: rest) a w := by
 rcases h with ⟨rfl, _⟩ | ⟨b, rfl, h⟩
 ·exact absurd rfl hne
 ·exact wpList_delete_sf hg mo x hop b r L lf cnt hn hm h s hs hx fun w' cnt' h1 h2 h3 h4 => hK b w' cnt' rfl (.inr ⟨b, rfl, h1⟩) h2 h3 h4
end
structure Dk where
 m : Option Nat
 files : Files
 on : Bool
 room : Int
 turn : Nat
 armed : Bool
 left : Int
 kv : Value
 keep : List Int
def Dk.cells (K : Dk) : Array Value := #[.map K.m, .bool K.on, .int .i64 K.room, .int .i64 K.turn, .bool K.armed, .int .i64 K.left, K.kv]
def ivs (l : List Int) : List Value := l.map (Value.int .i64)
structure FilesOk (w : World) (L : Files) : Prop where
 at' : FilesAt w L
 ok : ∀ p ∈ L, FileOk p.2
 names : (L.map (·.1)).Nodup
 apart : L.Pairwise (fun p q => ∀ k, p.2.foot k → ¬ q.2.foot k)
 few : L.length ≤ 60
 long : ∀ p ∈ L, p.1.length ≤ 40
 tnd : ((allW L).map (·.turn)).Nodup
structure DiskAt (w : World) (d : Nat) (K : Dk) : Prop where
 blk : w.heap[d]? = some (.cells K.cells 73 (0, 0))
 keep : w.ownsRow 0 3 1 K.kv K.keep.length (ivs K.keep)
 map : MapAt w K.m (dir K.files)
 files : FilesOk w K.files
 still : ∀ x ∈ allW K.files, x.kept = 0
 turns : ∀ x ∈ allW K.files, x.turn ≤ K.turn
 many : (allW K.files).length ≤ K.turn ∧ K.turn ≤ 9000
def Dk.foot (K : Dk) (d k : Nat) : Prop := k = d ∨ K.m = some k ∨ (∃ p ∈ K.files, p.2.foot k) ∨ K.kv.ownBlock = some k
theorem files_pair {L : Files} (hp : L.Pairwise (fun p q => ∀ k, p.2.foot k → ¬ q.2.foot k)) {p q : List UInt8 × Fl} (h1 : p ∈ L) (h2 : q ∈ L) (hne : p ≠ q) : ∀ k, p.2.foot k → ¬ q.2.foot k := by
 induction L with
 | nil => simp at h1
 | cons a r ih =>
  rw [List.pairwise_cons] at hp
  rcases List.mem_cons.1 h1 with e1 | m1
  ·rcases List.mem_cons.1 h2 with e2 | m2
   ·exact absurd (e1.trans e2.symm) hne
   ·rw [e1]; exact hp.1 q m2
  ·rcases List.mem_cons.1 h2 with e2 | m2
   ·rw [e2]; exact fun k a b => hp.1 p m1 k b a
   ·exact ih hp.2 m1 m2
theorem DiskAt.foot_lt {w : World} {d : Nat} {K : Dk} (h : DiskAt w d K) : ∀ k, K.foot d k → k < w.heap.size := by
 rintro k (rfl | hk | ⟨p, hp, hk⟩ | hk)
 ·exact lt_of_block h.blk
 ·rcases h.map with ⟨h1, _⟩ | ⟨b, D, h1, ho, _⟩
  ·rw [h1] at hk; cases hk
  ·rw [h1] at hk
   obtain rfl : b = k := by simpa using hk
   exact ho.lt
 ·exact (h.files.at' p hp).lt k hk
 ·exact (h.keep.lt k hk).2
theorem DiskAt.fr {S : Nat → Prop} {w w' : World} {d : Nat} {K : Dk} (h : DiskAt w d K) (hf : Fr S w w') (hS : ∀ k, K.foot d k → ¬ S k) : DiskAt w' d K :=
 { h with
  blk := hf.keep h.blk (hS d (.inl rfl))
  keep := owns_fr h.keep hf (fun g hg => hS g (.inr (.inr (.inr hg))))
  map := h.map.fr hf (fun b hb => hS b (.inr (.inl hb)))
  files := { h.files with at' := fun p hp => (h.files.at' p hp).fr hf (fun k hk => hS k (.inr (.inr (.inl ⟨p, hp, hk⟩)))) } }
theorem DiskAt.below {w w' : World} {d : Nat} {K : Dk} (h : DiskAt w d K) (hf : Below w.heap.size w w') : DiskAt w' d K := h.fr (Fr.of (S := fun _ => False) hf) (fun _ _ => id)
end Go.Proofs.YtbkngnjkaledlaaGreat.P4
namespace Go.Proofs.YtbkngnjkaledlaaGreat.P4
open Go Go.RowKit Go.Lib Go.Maps Go.ChangeMaps Go.MapKept P3
def rankW (l : List Wr) (t : Nat) : Nat := (l.filter (fun x => decide (x.turn < t))).length
def clampI (k : Int) : Nat := (min (max k 0) 256).toNat
theorem clamp_le (k : Int) : clampI k ≤ 256 := by unfold clampI; omega
def keptOf (l : List Wr) (ks : List Int) (t : Nat) : Nat := clampI (ks.getD (rankW l t) 0)
theorem kept_le (l : List Wr) (ks : List Int) (t : Nat) : keptOf l ks t ≤ 256 := clamp_le _
theorem rank_perm {l m : List Wr} (h : l.Perm m) (t : Nat) : rankW l t = rankW m t := (h.filter _).length_eq
theorem rank_at {ys : List Wr} (hs : ys.Pairwise (fun x y => x.turn < y.turn)) {i : Nat} {x : Wr} (hx : ys[i]? = some x) : rankW ys x.turn = i := by
 obtain ⟨hi, hxe⟩ := List.getElem?_eq_some_iff.1 hx
 have e : ys = ys.take i ++ x :: ys.drop (i + 1) := by
  rw [← hxe, List.getElem_cons_drop, List.take_append_drop]
 have hs2 := hs
 rw [e, List.pairwise_append, List.pairwise_cons] at hs2
 unfold rankW
 conv => lhs; rw [e]
 rw [List.filter_append, List.filter_cons_of_neg (by simp), List.filter_eq_self.2 (fun y hy => by simpa using hs2.2.2 y hy x (by simp)), List.filter_eq_nil_iff.2 (fun y hy => by have := hs2.2.1.1 y hy; simp; omega)]
 rw [List.append_nil, List.length_take]
 omega
def markW (κ : Nat → Nat) (T : List Nat) (x : Wr) : Wr := x.keep (if x.turn ∈ T then κ x.turn else 0)
def markF (κ : Nat → Nat) (T : List Nat) (F : Fl) : Fl := { F with ws := F.ws.map (markW κ T) }
def markL (κ : Nat → Nat) (T : List Nat) (L : Files) : Files := L.map fun p => (p.1, markF κ T p.2)
theorem markF_foot (κ : Nat → Nat) (T : List Nat) (F : Fl) (k : Nat) : (markF κ T F).foot k ↔ F.foot k := by
 unfold Fl.foot markF
 constructor
 ·rintro (h | h | ⟨x, hx, h⟩)
  ·exact .inl h
  ·exact .inr (.inl h)
  ·obtain ⟨y, hy, rfl⟩ := List.mem_map.1 hx
   exact .inr (.inr ⟨y, hy, h⟩)
 ·rintro (h | h | ⟨x, hx, h⟩)
  ·exact .inl h
  ·exact .inr (.inl h)
  ·exact .inr (.inr ⟨_, List.mem_map.2 ⟨x, hx, rfl⟩, h⟩)
theorem keep_same (x : Wr) (h : x.kept = 0) : x.keep 0 = x := by cases x; simp_all [Wr.keep]
theorem mark_nil (κ : Nat → Nat) {L : Files} (h : ∀ x ∈ allW L, x.kept = 0) : markL κ [] L = L := by
 unfold markL
 have : ∀ p ∈ L, (p.1, markF κ [] p.2) = p := by
  intro p hp
  unfold markF
  have e : p.2.ws.map (markW κ []) = p.2.ws := by
   rw [List.map_congr_left (g := id)]
   ·exact List.map_id _
   ·intro x hx
    unfold markW
    simp only [List.not_mem_nil, if_false]
    exact keep_same x (h x (allW_mem.2 ⟨p, hp, hx⟩))
  rw [e]
 exact (List.map_congr_left (g := id) this).trans (List.map_id _)
theorem mark_zero (κ : Nat → Nat) (T : List Nat) (t : Nat) (L : Files) (h : κ t = 0) : markL κ (T ++ [t]) L = markL κ T L := by
 unfold markL
 refine List.map_congr_left (fun p _ => ?_)
 unfold markF
 have e : p.2.ws.map (markW κ (T ++ [t])) = p.2.ws.map (markW κ T) := by
  refine List.map_congr_left (fun x _ => ?_)
  unfold markW
  by_cases e : x.turn = t
  ·rw [if_pos (by simp [e]), e, h]
   split <;> simp
  ·have : x.turn ∈ T ++ [t] ↔ x.turn ∈ T := by simp [e]
   simp only [this]
 rw [e]
theorem turn_inj {l : List Wr} (hn : (l.map (·.turn)).Nodup) {a b : Wr} (ha : a ∈ l) (hb : b ∈ l) (e : a.turn = b.turn) : a = b := by
 induction l with
 | nil => simp at ha
 | cons p r ih =>
  rw [List.map_cons, List.nodup_cons] at hn
  rcases List.mem_cons.1 ha with ea | ma
  ·rcases List.mem_cons.1 hb with eb | mb
   ·rw [ea, eb]
   ·exact absurd (List.mem_map.2 ⟨b, mb, by rw [← e, ea]⟩) hn.1
  ·rcases List.mem_cons.1 hb with eb | mb
   ·exact absurd (List.mem_map.2 ⟨a, ma, by rw [e, eb]⟩) hn.1
   ·exact ih hn.2 ma mb
theorem mark_map {κ : Nat → Nat} {T : List Nat} {t : Nat} {l : List Wr} (h : ∀ y ∈ l, y.turn ≠ t) : l.map (markW κ (T ++ [t])) = l.map (markW κ T) := by
 refine List.map_congr_left (fun y hy => ?_)
 unfold markW
 have : y.turn ∈ T ++ [t] ↔ y.turn ∈ T := by simp [h y hy]
 simp only [this]
theorem mark_step {w : World} {L : Files} {κ : Nat → Nat} {T : List Nat} {x : Wr} (h : FilesAt w (markL κ T L)) (hap : L.Pairwise (fun p q => ∀ k, p.2.foot k → ¬ q.2.foot k)) (hnd : ((allW L).map (·.turn)).Nodup) (hx : x ∈ allW L) (hT : x.turn ∉ T) :
  FilesAt (w.setCell ⟨x.b, 3, none⟩ (.int .i64 (κ x.turn : Nat))) (markL κ (T ++ [x.turn]) L) := by
 intro q hq
 obtain ⟨p, hp, rfl⟩ := List.mem_map.1 hq
 have hF : FileAt w (markF κ T p.2) := h _ (List.mem_map.2 ⟨p, hp, rfl⟩)
 obtain ⟨px, hpx, hxw⟩ := allW_mem.1 hx
 by_cases hin : x ∈ p.2.ws
 ·obtain ⟨l, r, e⟩ := List.append_of_mem hin
  have hno : ∀ y ∈ l ++ r, y.turn ≠ x.turn := by
   intro y hy et
   have hnd2 : (p.2.ws.map (·.turn)).Nodup := by
    have : (p.2.ws).Sublist (allW L) := by
     unfold allW
     obtain ⟨a, b, e2⟩ := List.append_of_mem hp
     rw [e2, List.flatMap_append, List.flatMap_cons]
     exact (List.sublist_append_left _ _).trans (List.sublist_append_right _ _)
    exact (this.map _).nodup hnd
   rw [e, List.map_append, List.map_cons] at hnd2
   have hp2 : (l.map (·.turn) ++ x.turn :: r.map (·.turn)).Perm (x.turn :: (l.map (·.turn) ++ r.map (·.turn))) := List.perm_middle
   have h3 := hp2.nodup_iff.1 hnd2
   rw [List.nodup_cons, ← List.map_append] at h3
   exact h3.1 (List.mem_map.2 ⟨y, hy, et⟩)
  have e1 : p.2.ws.map (markW κ T) = l.map (markW κ T) ++ markW κ T x :: r.map (markW κ T) := by rw [e]; simp
  have e2 : p.2.ws.map (markW κ (T ++ [x.turn])) = l.map (markW κ T) ++ (markW κ T x).keep (κ x.turn) :: r.map (markW κ T) := by
   rw [e, List.map_append, List.map_cons, mark_map (fun y hy => hno y (List.mem_append_left _ hy)), mark_map (fun y hy => hno y (List.mem_append_right _ hy))]
   congr 2
   unfold markW
   rw [if_pos (by simp)]
   rfl
  have hseg := hF.seg
  have hsegs : Seg w none (l.map (markW κ T) ++ markW κ T x :: r.map (markW κ T)) none := by rw [← e1]; exact hseg
  have hnb : ((l.map (markW κ T) ++ markW κ T x :: r.map (markW κ T)).map (·.b)).Nodup := by rw [← e1]; exact hF.nodup
  have hne := (map_split hnb).1
  have hk := seg_kept hsegs hne (κ x.turn)
  have hxb : p.2.b ≠ x.b := by
   obtain ⟨_, _, hxa⟩ := seg_mem hsegs (markW κ T x) (by simp)
   exact block_ne hF.blk hxa (by decide)
  refine ⟨?_, ?_, ?_, ?_⟩
  ·have hb := hF.blk
   show (World.setCell _ _ _).heap[p.2.b]? = _
   rw [Below.heap_setCell _ _ _ _ hxb, show w.heap[p.2.b]? = _ from hb]
   unfold Fl.cells markF
   simp only
   rw [e1, e2, hd_app, hd_app, lst_app, lst_app]
   simp [hd, lst, Wr.keep, markW]
  ·refine owns_keep hF.row (fun g hg => Below.heap_setCell _ _ _ _ (fun e3 => ?_))
   obtain ⟨_, _, hxa⟩ := seg_mem hsegs (markW κ T x) (by simp)
   exact hF.ne_row.2 g hg (markW κ T x) (by show _ ∈ p.2.ws.map _; rw [e1]; simp) e3.symm
  ·show Seg _ none (p.2.ws.map (markW κ (T ++ [x.turn]))) none
   rw [e2]
   exact hk
  ·show ((p.2.ws.map (markW κ (T ++ [x.turn]))).map (·.b)).Nodup
   have := hF.nodup
   rw [List.map_map]
   have h4 : ((p.2.ws.map (markW κ T)).map (·.b)).Nodup := this
   rw [List.map_map] at h4
   exact h4
 ·have hno : ∀ y ∈ p.2.ws, y.turn ≠ x.turn := fun y hy et => hin (by rw [← turn_inj hnd (allW_mem.2 ⟨p, hp, hy⟩) hx et]; exact hy)
  have e2 : markF κ (T ++ [x.turn]) p.2 = markF κ T p.2 := by
   unfold markF
   rw [mark_map hno]
  rw [e2]
  have hne : p ≠ px := fun e => hin (e ▸ hxw)
  have hfx : px.2.foot x.b := .inr (.inr ⟨x, hxw, rfl⟩)
  refine hF.fr (Fr.only (S := (· = x.b)) ((Only.refl x.b w).setCell 3 _) rfl) (fun k hk e3 => ?_)
  rw [markF_foot] at hk
  exact files_pair hap hp hpx hne k hk (e3 ▸ hfx)
theorem on_any (w : World) (d : Nat) (b : Bool) (c1 : w.cell? ⟨d, 1, none⟩ = some (.bool b)) : Calls Tryz.prog 31 #[.pointer (some ⟨d, 0, none⟩)] w fun e w' => e = .returned (.bool b) ∧ w = w' := by
 go_enter Tryz.func31, Tryz.ntmps31
 go_wp2
 go_ret
 exact ⟨rfl, rfl⟩
theorem arm_neg (w : World) (d : Nat) (n : Int) (v : Value) (a b c : Value) (c4 : w.cell? ⟨d, 4, none⟩ = some a) (c5 : w.cell? ⟨d, 5, none⟩ = some b) (c6 : w.cell? ⟨d, 6, none⟩ = some c)
  (f4 : w.frozen? ⟨d, 4, none⟩ = false) (f5 : w.frozen? ⟨d, 5, none⟩ = false) (f6 : w.frozen? ⟨d, 6, none⟩ = false) (hn : n < 0) :
  Calls Tryz.prog 62 #[.pointer (some ⟨d, 0, none⟩), .int .i64 n, v] w fun e w' => e = .returned (.tuple #[]) ∧ w' = ((w.setCell ⟨d, 4, none⟩ (.bool false)).setCell ⟨d, 5, none⟩ (.int .i64 0)).setCell ⟨d, 6, none⟩ (.slice none 0 0) := by
 have k1 : ¬ 0 ≤ n := by omega
 go_enter Tryz.func62, Tryz.ntmps62
 go_wp2
 go_end0
 exact ⟨rfl, rfl⟩
def IntsR (S : Nat → Prop) (w : World) (v : Value) (ks : List Int) : Prop :=
 (∃ a c, v = .slice a 0 c ∧ ks = []) ∨ ∃ g o c, v = .slice (some ⟨g, o, none⟩) ks.length c ∧ g < w.heap.size ∧ ¬ S g ∧ ∀ (j : Nat) (x : Int), ks[j]? = some x → w.cell? ⟨g, o + j, none⟩ = some (.int .i64 x)
theorem IntsR.fr {S : Nat → Prop} {w w' : World} {v : Value} {ks : List Int} (h : IntsR S w v ks) (hf : Fr S w w') : IntsR S w' v ks := by
 rcases h with h | ⟨g, o, c, rfl, h1, h2, h3⟩
 ·exact .inl h
 ·refine .inr ⟨g, o, c, rfl, Nat.lt_of_lt_of_le h1 hf.size, h2, fun j x hj => ?_⟩
  rw [(heap_ext (hf.block g h1 h2) (o + j)).1]
  exact h3 j x hj
def lostN (κ : Nat → Nat) (l : List Wr) : Nat := (l.filter (fun x => decide (κ x.turn < 256))).length
theorem lost_snoc (κ : Nat → Nat) (l : List Wr) (x : Wr) : lostN κ (l ++ [x]) = lostN κ l + if κ x.turn < 256 then 1 else 0 := by
 unfold lostN
 rw [List.filter_append, List.length_append]
 congr 1
 by_cases h : κ x.turn < 256
 ·rw [if_pos h, List.filter_cons_of_pos (by simpa using h)]; rfl
 ·rw [if_neg h, List.filter_cons_of_neg (by simpa using h)]; rfl
def Dk.wfoot (K : Dk) (d k : Nat) : Prop := k = d ∨ K.m = some k ∨ ∃ p ∈ K.files, p.2.foot k
structure Mk (w : World) (L : Files) (κ : Nat → Nat) (ys : List Wr) (i : Nat) (wr : World) : Prop where
 at' : FilesAt wr (markL κ ((ys.take i).map (·.turn)) L)
 fr : Fr (fun k => ∃ x ∈ allW L, x.b = k) w wr
theorem Mk.step {w wr : World} {L : Files} {κ : Nat → Nat} {ys : List Wr} {i : Nat} {x : Wr} (h : Mk w L κ ys i wr) (hap : L.Pairwise (fun p q => ∀ k, p.2.foot k → ¬ q.2.foot k)) (hnd : ((allW L).map (·.turn)).Nodup) (hp : ys.Perm (allW L)) (hs : ys.Pairwise (fun x y => x.turn < y.turn)) (hx : ys[i]? = some x) :
  Mk w L κ ys (i + 1) (wr.setCell ⟨x.b, 3, none⟩ (.int .i64 (κ x.turn : Nat))) := by
 have hxm : x ∈ allW L := hp.mem_iff.1 (List.mem_of_getElem? hx)
 have ht : ys.take (i + 1) = ys.take i ++ [x] := by rw [List.take_add_one, hx]; rfl
 have hT : x.turn ∉ (ys.take i).map (·.turn) := by
  intro hm
  obtain ⟨y, hy, e⟩ := List.mem_map.1 hm
  obtain ⟨hi, hxe⟩ := List.getElem?_eq_some_iff.1 hx
  have e2 : ys = ys.take i ++ x :: ys.drop (i + 1) := by rw [← hxe, List.getElem_cons_drop, List.take_append_drop]
  rw [e2, List.pairwise_append] at hs
  have := hs.2.2 y hy x (by simp)
  omega
 refine ⟨?_, h.fr.trans (.only ((Only.refl x.b wr).setCell 3 _) ⟨x, hxm, rfl⟩)⟩
 rw [ht, List.map_append]
 exact mark_step h.at' hap hnd hxm hT
theorem Mk.skip {w wr : World} {L : Files} {κ : Nat → Nat} {ys : List Wr} {i : Nat} {x : Wr} (h : Mk w L κ ys i wr) (hx : ys[i]? = some x) (h0 : κ x.turn = 0) : Mk w L κ ys (i + 1) wr := by
 have ht : ys.take (i + 1) = ys.take i ++ [x] := by rw [List.take_add_one, hx]; rfl
 refine ⟨?_, h.fr⟩
 rw [ht, List.map_append]
 show FilesAt wr (markL κ ((ys.take i).map (·.turn) ++ [x.turn]) L)
 rw [mark_zero κ _ _ _ h0]
 exact h.at'
theorem Mk.cell {w wr : World} {L : Files} {κ : Nat → Nat} {ys : List Wr} {i : Nat} {x : Wr} (h : Mk w L κ ys i wr) (hp : ys.Perm (allW L)) (hs : ys.Pairwise (fun x y => x.turn < y.turn)) (hx : ys[i]? = some x) :
  ∃ c : Array Value, wr.heap[x.b]? = some (.cells c 123 (0, 0)) ∧ c[3]? = some (.int .i64 0) := by
 have hxm : x ∈ allW L := hp.mem_iff.1 (List.mem_of_getElem? hx)
 obtain ⟨p, hpL, hxw⟩ := allW_mem.1 hxm
 have hF : FileAt wr (markF κ ((ys.take i).map (·.turn)) p.2) := h.at' _ (List.mem_map.2 ⟨p, hpL, rfl⟩)
 obtain ⟨a, b, hxa⟩ := seg_mem hF.seg (markW κ ((ys.take i).map (·.turn)) x) (List.mem_map.2 ⟨x, hxw, rfl⟩)
 refine ⟨_, hxa, ?_⟩
 have hT : x.turn ∉ (ys.take i).map (·.turn) := by
  intro hm
  obtain ⟨y, hy, e⟩ := List.mem_map.1 hm
  obtain ⟨hi, hxe⟩ := List.getElem?_eq_some_iff.1 hx
  have e2 : ys = ys.take i ++ x :: ys.drop (i + 1) := by rw [← hxe, List.getElem_cons_drop, List.take_append_drop]
  rw [e2, List.pairwise_append] at hs
  have := hs.2.2 y hy x (by simp)
  omega
 show some (Value.int .i64 ((markW κ ((ys.take i).map (·.turn)) x).kept : Nat)) = _
 unfold markW Wr.keep
 simp only [if_neg hT]
 rfl
end Go.Proofs.YtbkngnjkaledlaaGreat.P4
