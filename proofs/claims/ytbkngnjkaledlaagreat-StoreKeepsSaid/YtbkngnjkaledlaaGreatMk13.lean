/-
  Texts of the proof of SaidKeeps8, side by side: Dk11.
-/
import Derived.Test.YtbkngnjkaledlaaGreatMk09
import Derived.Test.YtbkngnjkaledlaaGreatMk12
import Derived.Lib.IndexBytes
/-
  Package disk: a crash, on a file: the walk. (Disk, part 11.)
-/
namespace Go.Proofs.YtbkngnjkaledlaaGreat.P4
open Go Go.RowKit Go.Lib Go.Proofs.YtbkngnjkaledlaaGreat.P3

theorem back_over {F : Fl} (ok : FileOk F) : overPos Sec.back F.ws F.secs = F.secs.map Sec.back := by
  apply List.ext_getElem?
  intro i
  rw [over_at Sec.back (fun _ => rfl), List.getElem?_map]
  split
  · rfl
  · rename_i hno
    cases hs : F.secs[i]? with
    | none => rfl
    | some s =>
      have hne : ∀ x ∈ F.ws, x.pos ≠ i := fun x hx e => hno (List.any_eq_true.2 ⟨x, hx, by simpa using e⟩)
      obtain ⟨h1, h2⟩ := ok.clean i s hs hne
      have h3 := (ok.safe i s hs).1 h1
      show some s = some s.back
      unfold Sec.back
      rw [if_neg (by rw [h3]; decide)]
      cases s
      simp_all
theorem tear_row {S : List Sec} {x : Wr} {s : Sec} (hs : S[x.pos]? = some s) (hk : x.kept ≠ 0) : secsCells (tearOne S x) = (secsCells S).set (x.pos * 3) (.string (torn x.kept x.data s.now)) := by
  unfold tearOne
  rw [if_neg hk, modify_set _ S x.pos s hs]
  have := secs_now S x.pos s hs (torn x.kept x.data s.now)
  rw [modify_set _ S x.pos s hs] at this
  exact this
theorem back_row {S : List Sec} {i : Nat} {s : Sec} (hs : S[i]? = some s) : secsCells (S.modify i Sec.back) = (secsCells S).set (i * 3) (.string (if s.safe.size = 0 then zeros else s.safe)) := by
  rw [modify_set _ S i s hs]
  have := secs_now S i s hs (if s.safe.size = 0 then zeros else s.safe)
  rw [modify_set _ S i s hs] at this
  exact this
theorem over_safe {l : List Wr} {S : List Sec} {i : Nat} {s : Sec} (h : (overPos Sec.back l S)[i]? = some s) : ∃ s0, S[i]? = some s0 ∧ s.safe = s0.safe := by
  rw [over_at Sec.back (fun _ => rfl)] at h
  split at h
  · obtain ⟨s0, h0, rfl⟩ := Option.map_eq_some_iff.1 h
    exact ⟨s0, h0, rfl⟩
  · exact ⟨s, h, rfl⟩

def CrashPost (w : World) (F : Fl) (e : Ending) (w' : World) : Prop :=
  e = .returned (.bool (F.stays || decide (0 < F.left))) ∧ ∃ sl, FileAt w' (F.tear.sync.cut sl F.left) ∧ sl.ownBlock = F.sl.ownBlock ∧ Fr F.foot w w'


set_option maxRecDepth 100000 in
set_option maxHeartbeats 4000000 in
theorem crash_walk {w : World} {F : Fl} (h : FileAt w F) (ok : FileOk F) (hk : ∀ x ∈ F.ws, x.kept ≤ 256) :
    Calls Tryz.prog 81 #[.pointer (some ⟨F.b, 0, none⟩)] w (CrashPost w F) := by
  obtain ⟨p, hp⟩ := ptr_shape (hd F.ws none)
  have HR : Hid (∀ W, Calls Tryz.prog 91 #[.string ⟨#[0]⟩, .int .i64 256] W fun e w' => e = .returned (.string zeros) ∧ Below W.heap.size W w') := fun W => repeat_zeros W
  have HH := Lib.hid h
  have HP := Lib.hid hp
  have HOK := Lib.hid ok
  have HK := Lib.hid hk
  clear h hp ok hk
  go_enter Tryz.func81, Tryz.ntmps81
  go_wp2_with (go_at_call 91; (with_reducible refine (HR.out _).mono ?_); rintro e w1 ⟨rfl, hb1⟩; have c3 : w1.cell? ⟨F.b, 3, none⟩ = some (.pointer p) := (cell_at (old_below HH.out.blk hb1) 3).trans (by show some (ptr (hd F.ws none)) = _; rw [HP.out]))
  have HB1 := Lib.hid hb1
  clear hb1 HR
  go_loopg [4] (F.ws.length) (fun q v wr => ∃ l r, F.ws = l ++ r ∧ r.length ≤ q ∧ v = ptr (hd r none) ∧ Hid (RowSt w F (overPos Sec.back l F.secs) wr))
  case atStart => exact ⟨[], F.ws, rfl, Nat.le_refl _, HP.out.symm, (RowSt.below ⟨HH.out.blk, HH.out.seg, HH.out.row, Fr.refl _ _⟩ HB1.out)⟩
  case round =>
    obtain ⟨l, r, hlr, hgr, rfl, hS⟩ := hrel
    have HLR := Lib.hid hlr
    clear hlr c3
    cases r with
    | cons x r =>
      have hx : x ∈ F.ws := by rw [HLR.out]; simp
      have hpos := HOK.out.pos x hx
      have hroom := HOK.out.room
      obtain ⟨g, cap, hv2, _, hgl⟩ := hS.out.row.form (by rw [over_length]; omega)
      rw [over_length] at hv2
      have hg : F.sl.ownBlock = some g := by rw [hv2]; rfl
      have hxg := HH.out.ne_row.2 g hg x hx
      have hgx : g ≠ x.b := fun e => hxg e.symm
      have hrow := hS.out.row
      rw [hv2] at hrow
      have hol := over_length Sec.back l F.secs
      obtain ⟨s, hs⟩ : ∃ s, (overPos Sec.back l F.secs)[x.pos]? = some s := ⟨_, List.getElem?_eq_getElem (by rw [hol]; exact hpos)⟩
      obtain ⟨s0, s1, s2⟩ := secs_at _ _ _ hs
      rw [hol] at hrow
      have r0 := owns_cell hrow s0
      have r1 := owns_cell hrow s1
      have f0 := owns_free hrow (x.pos * 3)
      have hseg := hS.out.seg
      rw [HLR.out, seg_app] at hseg
      have hxa : WrAt wr x (lst none l) (hd r none) := hseg.2.1
      have hxl : x.b < wr.heap.size := lt_of_block hxa
      obtain ⟨p2, hp2⟩ := ptr_shape (hd r none)
      have x1 : wr.cell? ⟨x.b, 1, none⟩ = some (.int .i64 x.pos) := (cell_at hxa 1).trans rfl
      have x5 : wr.cell? ⟨x.b, 5, none⟩ = some (.pointer p2) := (cell_at hxa 5).trans (by rw [← hp2]; rfl)
      have c0 : wr.cell? ⟨F.b, 0, none⟩ = some (.slice (some ⟨g, 0, none⟩) F.secs.length cap) := (cell_at hS.out.blk 0).trans (by rw [← hv2]; rfl)
      have b1 : (x.pos : Int) < (F.secs.length : Int) := by omega
      have hsafe : s.safe.size ≠ 0 ∨ s.safe = ⟨#[]⟩ := by
        obtain ⟨t, ht, e⟩ := over_safe hs
        obtain ⟨a, b⟩ := HOK.out.safe _ _ ht
        rw [e]
        by_cases hi : x.pos < F.ns
        · exact .inl (by rw [a hi]; decide)
        · exact .inr (b (by omega))
      have HO : Hid (∀ W B, W.cell? ⟨B, 0, none⟩ = some (.string s.safe) → W.cell? ⟨B, 1, none⟩ = some (.string zeros) → Calls Tryz.prog 118 #[.slice (some ⟨B, 0, none⟩) 2 2] W fun e w' => e = .returned (.string (if s.safe.size = 0 then zeros else s.safe)) ∧ W = w') := fun W B h0 h1 => or_back W B s.safe hsafe h0 h1
      have e0 : ptr (hd (x :: r) none) = .pointer (some ⟨x.b, 0, none⟩) := rfl
      rw [e0]
      have HP2 := Lib.hid hp2
      have HRow := Lib.hid hrow
      have HS0 := Lib.hid hs
      have HG := Lib.hid hg
      have HV2 := Lib.hid hv2
      have HL := Lib.hid hol
      obtain ⟨bk, hbk⟩ : ∃ bk, bk = if s.safe.size = 0 then zeros else s.safe := ⟨_, rfl⟩
      rw [← hbk] at HO
      have HBK := Lib.hid hbk
      clear e0 hp2 hrow hs s0 s1 s2 hseg hxa hx hg hv2 hol hsafe hbk
      go_wp2
      go_region
      go_wp2_with (go_at_call 118; (with_reducible refine (HO.out _ _ (by simp [World.cell?_alloc_new]) (by simp)).mono ?_); rintro e w' ⟨rfl, rfl⟩)
      go_roundg (r.length)
      case measure => simp at hgr; omega
      case rel =>
        refine ⟨l ++ [x], r, by rw [HLR.out]; simp, Nat.le_refl _, HP2.out.symm, ?_⟩
        rw [over_snoc]
        refine RowSt.below (wr := wr.setCell ⟨g, x.pos * 3, none⟩ (.string bk)) ?_ (((Below.refl _ _).alloc (Nat.le_refl _) _).drew)
        refine RowSt.step HH.out hS.out HG.out (by rw [List.length_modify]) ((Only.refl g _).setCell _ _) ?_
        rw [back_row HS0.out, ← HBK.out, HL.out, HV2.out]
        exact owns_set HRow.out (x.pos * 3) (.string bk)
    | nil =>
      have e0 : ptr (hd [] none) = .pointer none := rfl
      rw [e0]
      have hll : l = F.ws := by have := HLR.out; rw [List.append_nil] at this; exact this.symm
      subst hll
      rw [back_over HOK.out] at hS
      have c1 : wr.cell? ⟨F.b, 1, none⟩ = some (.int .i64 F.ns) := cell_at hS.out.blk 1
      have c3 : wr.cell? ⟨F.b, 3, none⟩ = some (.pointer p) := (cell_at hS.out.blk 3).trans (by show some (ptr (hd F.ws none)) = _; rw [HP.out])
      clear e0
      go_wp2
      clear c1 c3
      go_loopg [6, 7] (F.ws.length) (fun q vs v wx => ∃ l r, F.ws = l ++ r ∧ r.length ≤ q ∧ v = ptr (hd r none) ∧ vs = .int .i64 (sizeAll F.ns l : Nat) ∧ Hid (RowSt w F (tearAll (F.secs.map Sec.back) l) wx))
      case atStart => exact ⟨[], F.ws, rfl, Nat.le_refl _, HP.out.symm, rfl, hS.out⟩
      case round =>
        clear hS HLR
        obtain ⟨l, r, hlr, hgr2, rfl, rfl, hS⟩ := hrel
        have HLR := Lib.hid hlr
        clear hlr
        cases r with
        | nil =>
          have e1 : ptr (hd [] none) = .pointer none := rfl
          rw [e1]
          have hll : l = F.ws := by have := HLR.out; rw [List.append_nil] at this; exact this.symm
          subst hll
          have hT : FileAt wr F.tear := ⟨hS.out.blk, hS.out.row, hS.out.seg, HH.out.nodup⟩
          have hTO := F.tear_ok HOK.out HK.out
          obtain ⟨z, hz⟩ : ∃ z, z = F.left := ⟨_, rfl⟩
          have hzs : sizeAll F.ns F.ws = z := hz.symm
          rw [hzs]
          have HZ := Lib.hid hz
          have hzl := (size_left HOK.out).1
          have hroom := HOK.out.room
          rw [← hz] at hzl
          have bz : z ≤ 5000 := by omega
          have c2 : wr.cell? ⟨F.b, 2, none⟩ = some (.bool F.stays) := cell_at hS.out.blk 2
          have HSy : Hid (Calls Tryz.prog 99 #[.pointer (some ⟨F.b, 0, none⟩)] wr fun e w' => e = .returned (.tuple #[]) ∧ FileAt w' F.tear.sync ∧ Fr F.tear.foot wr w') := hT.sync hTO
          have HCu : Hid (∀ W, FileAt W F.tear.sync → Calls Tryz.prog 100 #[.pointer (some ⟨F.b, 0, none⟩), .int .i64 z] W fun e w' => e = .returned (.tuple #[]) ∧ ∃ sl, FileAt w' (F.tear.sync.cut sl z) ∧ sl.ownBlock = F.sl.ownBlock ∧ Fr F.tear.sync.foot W w') :=
            fun W hW => hW.cut (F.tear.sync_ok hTO) z (by show z ≤ (F.tear.secs.map Sec.sync).length; rw [List.length_map]; unfold Fl.tear; rw [tearAll_length, List.length_map]; exact hzl)
          have HFr : Hid (Fr F.foot w wr) := hS.out.fr.mono (fun k _ hk => .inr (.inl hk))
          obtain ⟨st, hst⟩ : ∃ st, st = F.stays := ⟨_, rfl⟩
          rw [← hst] at c2
          have HST := Lib.hid hst
          clear e1 hT hTO hz hzs hzl hst hS hroom
          have fin : Hid (∀ w2 w3 : World, Fr F.tear.foot wr w2 → (∃ sl, FileAt w3 (F.tear.sync.cut sl z) ∧ sl.ownBlock = F.sl.ownBlock ∧ Fr F.tear.sync.foot w2 w3) → ∃ sl, FileAt w3 (F.tear.sync.cut sl F.left) ∧ sl.ownBlock = F.sl.ownBlock ∧ Fr F.foot w w3) := by
            rintro w2 w3 f2 ⟨sl, h1, h2, h3⟩
            rw [HZ.out] at h1
            refine ⟨sl, h1, h2, (HFr.out.trans (f2.mono fun k _ hk => hk)).trans (h3.mono fun k _ hk => ?_)⟩
            rcases hk with hk | hk | ⟨y, hy, _⟩
            · exact .inl hk
            · exact .inr (.inl hk)
            · simp [Fl.sync] at hy
          cases st
          · by_cases hz0 : 0 < z
            · go_wp2_with (first
                | (go_at_call 99; (with_reducible refine HSy.out.mono ?_); rintro e w2 ⟨rfl, hF2, hf2⟩)
                | (go_at_call 100; (with_reducible refine (HCu.out _ hF2).mono ?_); rintro e w3 ⟨rfl, h3⟩))
              go_ret
              exact ⟨by rw [← HST.out, ← HZ.out, decide_eq_true hz0]; rfl, fin.out _ _ hf2 h3⟩
            · go_wp2_with (first
                | (go_at_call 99; (with_reducible refine HSy.out.mono ?_); rintro e w2 ⟨rfl, hF2, hf2⟩)
                | (go_at_call 100; (with_reducible refine (HCu.out _ hF2).mono ?_); rintro e w3 ⟨rfl, h3⟩))
              go_ret
              exact ⟨by rw [← HST.out, ← HZ.out, decide_eq_false hz0]; rfl, fin.out _ _ hf2 h3⟩
          · go_wp2_with (first
              | (go_at_call 99; (with_reducible refine HSy.out.mono ?_); rintro e w2 ⟨rfl, hF2, hf2⟩)
              | (go_at_call 100; (with_reducible refine (HCu.out _ hF2).mono ?_); rintro e w3 ⟨rfl, h3⟩))
            go_ret
            exact ⟨by rw [← HST.out]; rfl, fin.out _ _ hf2 h3⟩
        | cons x r =>
          have hx : x ∈ F.ws := by rw [HLR.out]; simp
          have hpos := HOK.out.pos x hx
          have hroom := HOK.out.room
          have hkx := HK.out x hx
          have hdx := HOK.out.data x hx
          have htl : (tearAll (F.secs.map Sec.back) l).length = F.secs.length := by rw [tearAll_length, List.length_map]
          obtain ⟨g, cap, hv2, _, hgl⟩ := hS.out.row.form (by rw [htl]; omega)
          rw [htl] at hv2
          have hg : F.sl.ownBlock = some g := by rw [hv2]; rfl
          have hxg := HH.out.ne_row.2 g hg x hx
          have hgx : g ≠ x.b := fun e => hxg e.symm
          have hrow := hS.out.row
          rw [hv2] at hrow
          obtain ⟨s, hs⟩ : ∃ s, (tearAll (F.secs.map Sec.back) l)[x.pos]? = some s := ⟨_, List.getElem?_eq_getElem (by rw [htl]; exact hpos)⟩
          have hsz : s.now.size = 256 := tear_now (l := l) (fun y hy => HK.out y (by rw [HLR.out]; exact List.mem_append_left _ hy)) (fun y hy => HOK.out.data y (by rw [HLR.out]; exact List.mem_append_left _ hy)) (back_now HOK.out) s (List.mem_of_getElem? hs)
          obtain ⟨s0, s1, s2⟩ := secs_at _ _ _ hs
          rw [htl] at hrow
          have r0 := owns_cell hrow s0
          have f0 := owns_free hrow (x.pos * 3)
          have hseg := hS.out.seg
          rw [HLR.out, seg_app] at hseg
          have hxa : WrAt wr x (lst none l) (hd r none) := hseg.2.1
          have hxl : x.b < wr.heap.size := lt_of_block hxa
          obtain ⟨p2, hp2⟩ := ptr_shape (hd r none)
          have x1 : wr.cell? ⟨x.b, 1, none⟩ = some (.int .i64 x.pos) := (cell_at hxa 1).trans rfl
          have x2 : wr.cell? ⟨x.b, 2, none⟩ = some (.string x.data) := (cell_at hxa 2).trans rfl
          have x3 : wr.cell? ⟨x.b, 3, none⟩ = some (.int .i64 x.kept) := (cell_at hxa 3).trans rfl
          have x5 : wr.cell? ⟨x.b, 5, none⟩ = some (.pointer p2) := (cell_at hxa 5).trans (by rw [← hp2]; rfl)
          have c0 : wr.cell? ⟨F.b, 0, none⟩ = some (.slice (some ⟨g, 0, none⟩) F.secs.length cap) := (cell_at hS.out.blk 0).trans (by rw [← hv2]; rfl)
          have b1 : (x.pos : Int) < (F.secs.length : Int) := by omega
          have e0 : ptr (hd (x :: r) none) = .pointer (some ⟨x.b, 0, none⟩) := rfl
          rw [e0]
          have HP2 := Lib.hid hp2
          have HRow := Lib.hid hrow
          have HS0 := Lib.hid hs
          have HG := Lib.hid hg
          have HV2 := Lib.hid hv2
          have HL := Lib.hid htl
          have HSZ := Lib.hid hsz
          obtain ⟨z, hz⟩ : ∃ z, z = sizeAll F.ns l := ⟨_, rfl⟩
          have bz : z ≤ 5000 := by
            have hL := (back_like HOK.out).all l (fun y hy => by rw [List.length_map]; exact HOK.out.pos y (by rw [HLR.out]; exact List.mem_append_left _ hy))
            have h1 := hL.size
            have h2 := hL.le
            rw [htl] at h2
            omega
          rw [← hz]
          have HZ := Lib.hid hz
          have y1 : x.kept ≤ x.data.size := by omega
          have y2 : x.kept ≤ s.now.size := by omega
          have y3 : ¬ 9223372036854775807 < s.now.size := by omega
          clear e0 hp2 hrow hs s0 s1 s2 hseg hxa hx hg hv2 htl hz
          by_cases hk0 : x.kept = 0
          · have HK0 := Lib.hid hk0
            rw [hk0] at x3
            clear hk0 hkx
            go_wp2
            go_roundg (r.length)
            case measure => simp at hgr2; omega
            case rel =>
              refine ⟨l ++ [x], r, by rw [HLR.out]; simp, Nat.le_refl _, HP2.out.symm, ?_, ?_⟩
              · rw [sizeAll_snoc, ← HZ.out]; unfold sizeOne; rw [if_pos HK0.out]
              · rw [tearAll_snoc]; unfold tearOne; rw [if_pos HK0.out]; exact hS.out
          · have k0 : 0 < x.kept := by omega
            have HK0 := Lib.hid hk0
            clear hk0 hsz hdx
            go_wp2
            go_region
            go_wp2
            go_region
            go_wp2
            go_roundg (r.length)
            case measure => simp at hgr2; omega
            case rel =>
              refine ⟨l ++ [x], r, by rw [HLR.out]; simp, Nat.le_refl _, HP2.out.symm, ?_, ?_⟩
              · rw [sizeAll_snoc, ← HZ.out]
                unfold sizeOne
                rw [if_neg HK0.out, show ((max z (x.pos + 1) : Nat) : Int) = max (z : Int) ((x.pos : Int) + 1) by omega]
              · rw [tearAll_snoc]
                refine RowSt.step HH.out hS.out HG.out (by rw [tearOne_length]) (((Only.refl g _).setCell _ _).drew.drew) ?_
                rw [tear_row HS0.out HK0.out, HL.out, HV2.out]
                exact owns_set HRow.out (x.pos * 3) (.string (torn x.kept x.data s.now))

end Go.Proofs.YtbkngnjkaledlaaGreat.P4
