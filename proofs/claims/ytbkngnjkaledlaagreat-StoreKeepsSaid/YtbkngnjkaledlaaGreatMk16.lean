/-
  Texts of the proof of SaidKeeps8, side by side: Dk19.
-/
import Derived.Test.YtbkngnjkaledlaaGreatMk15
/-
  Package disk: a crash: the walk. (Disk, part 19.)
-/
namespace Go.Proofs.YtbkngnjkaledlaaGreat.P4
open Go Go.RowKit Go.Lib Go.Maps Go.ChangeMaps Go.MapKept Go.Proofs.YtbkngnjkaledlaaGreat.P3

/-- what a crash leaves of a disk, and tells -/
structure Crashed (w : World) (d : Nat) (K : Dk) (ks : List Int) (n : Int) (K' : Dk) (w' : World) : Prop where
  lost : n = lostN (keptOf (allW K.files) ks) (allW K.files)
  at' : DiskAt w' d K'
  eq : K' = { K with files := K'.files, on := false, armed := false, left := 0, kv := .slice none 0 0, keep := [] }
  abs : (K'.files.map absP).Perm ((markL (keptOf (allW K.files) ks) ((allW K.files).map (·.turn)) K.files).filterMap crP)
  foot : ∀ k, K'.foot d k → K.wfoot d k
  fr : Fr (K.wfoot d) w w'
theorem allW_none {M : Files} (h : ∀ p ∈ M, p.2.ws = []) : allW M = [] := List.flatMap_eq_nil_iff.2 h
/-- the disk behind it all -/
theorem crash_done {w wx : World} {d r cnt : Nat} {K : Dk} {ks : List Int} {Lm M : Files} {lf : List UInt8 → Bool} (h : DiskAt w d K) (hL : Lm = markL (keptOf (allW K.files) ks) ((allW K.files).map (·.turn)) K.files) (hno : ∀ k, lf k = false)
    (hC : Cr3 Lm M lf wx) (hR : RngO wx K.m r (dir (M ++ todoL Lm lf)) lf cnt) (hF : Fr (K.wfoot d) w wx) (hD : wx.heap[d]? = some (.cells K.cells 73 (0, 0))) :
    Crashed w d K ks (lostN (keptOf (allW K.files) ks) (allW K.files)) { K with files := M, on := false, armed := false, left := 0, kv := .slice none 0 0, keep := [] }
      ((((wx.setCell ⟨d, 1, none⟩ (.bool false)).setCell ⟨d, 4, none⟩ (.bool false)).setCell ⟨d, 5, none⟩ (.int .i64 0)).setCell ⟨d, 6, none⟩ (.slice none 0 0)) := by
  have ho : Only d wx ((((wx.setCell ⟨d, 1, none⟩ (.bool false)).setCell ⟨d, 4, none⟩ (.bool false)).setCell ⟨d, 5, none⟩ (.int .i64 0)).setCell ⟨d, 6, none⟩ (.slice none 0 0)) := ((((Only.refl d wx).setCell _ _).setCell _ _).setCell _ _).setCell _ _
  have hat : FilesAt wx M := fun p hp => hC.at' p (List.mem_append_left _ hp)
  have hmem : ∀ p ∈ Lm, ∃ F, (p.1, F) ∈ K.files ∧ ∀ k, p.2.foot k → F.foot k := by
    intro p hp
    rw [hL] at hp
    obtain ⟨q, hq, rfl⟩ := List.mem_map.1 hp
    exact ⟨q.2, hq, fun k hk => (markF_foot _ _ _ _).1 hk⟩
  have horg : ∀ p ∈ M, ∃ F, (p.1, F) ∈ K.files ∧ ∀ k, p.2.foot k → F.foot k := by
    intro p hp
    obtain ⟨_, F, h1, h2⟩ := hC.org p hp
    obtain ⟨G, h3, h4⟩ := hmem _ h1
    exact ⟨G, h3, fun k hk => h4 k (h2 k hk)⟩
  have hnd : ∀ p ∈ M, ∀ k, p.2.foot k → k ≠ d := by
    intro p hp k hk e
    obtain ⟨c, t, h1, h2⟩ := (hat p hp).kinds k hk
    rw [e, hD] at h1
    simp at h1
    rcases h2 with rfl | rfl | rfl
    · exact absurd h1.2 (by decide)
    · exact absurd h1.2 (by decide)
    · exact absurd h1.2 (by decide)
  have hws := allW_none (fun p hp => (hC.mok p hp).2)
  have hlen : M.length ≤ K.files.length := by
    have h1 := hC.abs.length_eq
    rw [List.length_map, done_all hno] at h1
    have h2 := List.length_filterMap_le crP Lm
    have h3 : Lm.length = K.files.length := by rw [hL]; unfold markL; rw [List.length_map]
    omega
  refine ⟨rfl, ⟨?_, World.ownsRow_nil _ _ _ _, ?_, ⟨?_, fun p hp => (hC.mok p hp).1, hC.names, ?_, ?_, ?_, ?_⟩, ?_, ?_, ?_⟩, rfl, ?_, ?_, ?_⟩
  · exact set_at (set_at (set_at (set_at hD _ _) _ _) _ _) _ _
  · have h1 := hR.map
    rw [todo_none hno, List.append_nil] at h1
    refine h1.fr (Fr.only (S := (· = d)) ho rfl) (fun b hb e => ?_)
    rw [e] at hb
    exact hR.notCells.2 d hb _ _ hD
  · exact fun p hp => (hat p hp).fr (Fr.only (S := (· = d)) ho rfl) (fun k hk e => hnd p hp k hk e)
  · have hnm := hC.names
    show M.Pairwise _
    have : ∀ {M' : Files}, (∀ p ∈ M', p ∈ M) → (M'.map (·.1)).Nodup → M'.Pairwise (fun p q => ∀ k, p.2.foot k → ¬ q.2.foot k) := by
      intro M'
      induction M' with
      | nil => intro _ _; exact List.Pairwise.nil
      | cons p r ih =>
        intro hs hn
        rw [List.map_cons, List.nodup_cons] at hn
        rw [List.pairwise_cons]
        refine ⟨fun q hq k hk hk2 => ?_, ih (fun q hq => hs q (List.mem_cons_of_mem _ hq)) hn.2⟩
        obtain ⟨F, h1, h2⟩ := horg p (hs p (by simp))
        obtain ⟨G, h3, h4⟩ := horg q (hs q (List.mem_cons_of_mem _ hq))
        have hne : (p.1, F) ≠ (q.1, G) := by
          intro e
          simp only [Prod.mk.injEq] at e
          exact hn.1 (List.mem_map.2 ⟨q, hq, e.1.symm⟩)
        exact files_pair h.files.apart h1 h3 hne k (h2 k hk) (h4 k hk2)
    exact this (fun p hp => hp) hnm
  · exact Nat.le_trans hlen h.files.few
  · intro p hp
    obtain ⟨F, h1, _⟩ := horg p hp
    exact h.files.long (p.1, F) h1
  · show ((allW M).map (·.turn)).Nodup
    rw [hws]
    exact List.nodup_nil
  · intro x hx
    have hx2 : x ∈ allW M := hx
    rw [hws] at hx2
    simp at hx2
  · intro x hx
    have hx2 : x ∈ allW M := hx
    rw [hws] at hx2
    simp at hx2
  · have := h.many
    show (allW M).length ≤ K.turn ∧ _
    rw [hws]
    exact ⟨Nat.zero_le _, this.2⟩
  · have h1 := hC.abs
    rw [done_all hno, hL] at h1
    exact h1
  · rintro k (rfl | hk | ⟨p, hp, hk⟩ | hk)
    · exact .inl rfl
    · exact .inr (.inl hk)
    · obtain ⟨F, h1, h2⟩ := horg p hp
      exact .inr (.inr ⟨_, h1, h2 k hk⟩)
    · cases hk
  · exact hF.trans (.only ho (.inl rfl))

def CrPost (w : World) (d : Nat) (K : Dk) (ks : List Int) (e : Ending) (w' : World) : Prop := ∃ n K', e = .returned (.int .i64 n) ∧ Crashed w d K ks n K' w'

set_option maxRecDepth 100000 in
set_option maxHeartbeats 4000000 in
theorem crash_disk {w : World} {d : Nat} {K : Dk} {v : Value} {ks : List Int} (h : DiskAt w d K) (hon : K.on = true) (hv : IntsR (K.wfoot d) w v ks) :
    Calls Tryz.prog 25 #[.pointer (some ⟨d, 0, none⟩), v] w (CrPost w d K ks) := by
  have c0 : w.cell? ⟨d, 0, none⟩ = some (.map K.m) := cell_at h.blk 0
  have HOn : Hid (Calls Tryz.prog 31 #[.pointer (some ⟨d, 0, none⟩)] w fun e w' => e = .returned (.bool true) ∧ w = w') := on_any w d true ((cell_at h.blk 1).trans (by rw [← hon]; rfl))
  have HW := Lib.hid (writes_any w d K.m K.files c0 h.map h.files.names h.files.at' h.files.tnd (by have := h.many; omega))
  obtain ⟨κ, hκ⟩ : ∃ κ, κ = keptOf (allW K.files) ks := ⟨_, rfl⟩
  have HKa := Lib.hid hκ
  have HH := Lib.hid h
  obtain ⟨av, nv, cv, hvs⟩ : ∃ a n c, v = .slice a n c := by
    rcases hv with ⟨a, c, rfl, _⟩ | ⟨g, o, c, rfl, _⟩
    · exact ⟨_, _, _, rfl⟩
    · exact ⟨_, _, _, rfl⟩
  have hnv : nv = ks.length := by
    rcases hv with ⟨a, c, h1, rfl⟩ | ⟨g, o, c, h1, _⟩ <;> rw [hvs] at h1 <;> simp only [Value.slice.injEq] at h1
    · exact h1.2.1
    · exact h1.2.1
  subst hvs
  have HV := Lib.hid hv
  have HNV := Lib.hid hnv
  clear h hon hv hκ hnv c0
  go_enter Tryz.func25, Tryz.ntmps25
  go_wp2_with (first
    | (go_at_call 31; (with_reducible refine HOn.out.mono ?_); rintro e w0 ⟨rfl, rfl⟩)
    | (go_at_call 80; (with_reducible refine HW.out.mono ?_); rintro e w1 ⟨v1, ys, rfl, hp, hs, hrow, hb⟩; obtain ⟨a, cap, rfl⟩ := hrow.shape; have HP := Lib.hid hp; have HS := Lib.hid hs; have HRow := Lib.hid hrow; have HB := Lib.hid hb; obtain ⟨n, hn⟩ : ∃ n, n = ys.length := ⟨_, rfl⟩; rw [← hn]; have HN := Lib.hid hn; clear hp hs hrow hb hn))
  have hM0 : Hid (Mk w1 K.files κ ys 0 w1) := ⟨by rw [List.take_zero, List.map_nil, mark_nil κ HH.out.still]; exact fun p hp => (HH.out.files.at' p hp).below HB.out, Fr.refl _ _⟩
  have hnl : n ≤ 10000 := by have := HN.out; have := HP.out.length_eq; have := HH.out.many; omega
  go_loopg [5, 16] (n) (fun q vl vi wr => ∃ i, i ≤ n ∧ n - i ≤ q ∧ vi = .int .i64 i ∧ vl = .int .i64 (lostN κ (ys.take i) : Nat) ∧ Hid (Mk w1 K.files κ ys i wr))
  case atStart => exact ⟨0, Nat.zero_le _, by omega, rfl, rfl, hM0.out⟩
  case round =>
    clear hM0
    obtain ⟨i, hi, hq, rfl, rfl, hM⟩ := hrel
    by_cases hlt : i < n
    · have b1 : (i : Int) < (n : Int) := by omega
      obtain ⟨x, hx⟩ : ∃ x, ys[i]? = some x := ⟨_, List.getElem?_eq_getElem (by rw [← HN.out]; exact hlt)⟩
      obtain ⟨blk, cap', cur, e1, hlo, hbk, hcu⟩ := HRow.out.cells (fun e => by rw [e] at hx; simp at hx)
      rw [← HN.out] at e1
      obtain ⟨rfl, rfl⟩ : a = some ⟨blk, 0, none⟩ ∧ cap = cap' := by simpa using e1
      obtain ⟨xc, hxc, hx3⟩ := hM.out.cell HP.out HS.out hx
      have hbx : blk ≠ x.b := by
        rintro rfl
        have := hM.out.fr.size
        have hxa := HP.out.mem_iff.1 (List.mem_of_getElem? hx)
        obtain ⟨p, hpL, hxw⟩ := allW_mem.1 hxa
        obtain ⟨_, _, h2⟩ := seg_mem (((HH.out.files.at' p hpL).below HB.out).seg) x hxw
        exact block_ne hbk h2 (by decide) rfl
      have hbr : wr.heap[blk]? = some (.cells cur 121 (0, 0)) := hM.out.fr.keep hbk (by
        rintro ⟨y, hy, e⟩
        obtain ⟨p, hpL, hxw⟩ := allW_mem.1 hy
        obtain ⟨_, _, h2⟩ := seg_mem (((HH.out.files.at' p hpL).below HB.out).seg) y hxw
        exact block_ne hbk h2 (by decide) e.symm)
      have r1 : wr.cell? ⟨blk, i, none⟩ = some (.pointer (some ⟨x.b, 0, none⟩)) := (cell_at hbr i).trans (hcu i x hx)
      have r3 : wr.cell? ⟨x.b, 3, none⟩ = some (.int .i64 0) := (cell_at hxc 3).trans hx3
      have f3 := free_at hxc 3
      have hrk : κ x.turn = clampI (ks.getD i 0) := by
        rw [HKa.out]
        unfold keptOf
        rw [← rank_perm HP.out, rank_at HS.out hx]
      have hlost := lost_snoc κ (ys.take i) x
      have htk : ys.take (i + 1) = ys.take i ++ [x] := by rw [List.take_add_one, hx]; rfl
      rw [← htk] at hlost
      have hlb : lostN κ (ys.take i) ≤ 10000 := by
        unfold lostN
        have h1 := List.length_filter_le (fun x => decide (κ x.turn < 256)) (ys.take i)
        rw [List.length_take] at h1
        omega
      have HX := Lib.hid hx
      have HRk := Lib.hid hrk
      have HLo := Lib.hid hlost
      obtain ⟨z, hz⟩ : ∃ z, z = lostN κ (ys.take i) := ⟨_, rfl⟩
      rw [← hz] at hlb HLo ⊢
      clear hx e1 hlo hbk hcu hxc hx3 hbr hrk hlost htk hz
      by_cases hik : i < ks.length
      · have b2 : (i : Int) < (nv : Int) := by rw [HNV.out]; omega
        have hfw : Fr (K.wfoot d) w wr := (Fr.of HB.out).trans (hM.out.fr.mono (fun k _ hk => by
          obtain ⟨y, hy, rfl⟩ := hk
          obtain ⟨p, hpL, hxw⟩ := allW_mem.1 hy
          exact .inr (.inr ⟨p, hpL, .inr (.inr ⟨y, hxw, rfl⟩)⟩)))
        obtain ⟨g, o, c, e2, hgl, hgS, hgc⟩ : ∃ g o c, Value.slice av nv cv = .slice (some ⟨g, o, none⟩) ks.length c ∧ g < wr.heap.size ∧ ¬ K.wfoot d g ∧ ∀ (j : Nat) (y : Int), ks[j]? = some y → wr.cell? ⟨g, o + j, none⟩ = some (.int .i64 y) := by
          rcases HV.out.fr hfw with ⟨_, _, _, e3⟩ | ⟨g, o, c, h1, h2, h3, h4⟩
          · rw [e3] at hik; simp at hik
          · exact ⟨g, o, c, h1, h2, h3, h4⟩
        obtain ⟨rfl, -, -⟩ : av = some ⟨g, o, none⟩ ∧ nv = ks.length ∧ cv = c := by simpa using e2
        obtain ⟨y, hy⟩ : ∃ y, ks[i]? = some y := ⟨_, List.getElem?_eq_getElem hik⟩
        have r4 : wr.cell? ⟨g, o + i, none⟩ = some (.int .i64 y) := hgc i y hy
        have hky : κ x.turn = clampI y := by rw [HRk.out, List.getD_eq_getElem?_getD, hy]; rfl
        have HKy := Lib.hid hky
        have HM2 : Hid (Mk w1 K.files κ ys (i + 1) (wr.setCell ⟨x.b, 3, none⟩ (.int .i64 (clampI y : Nat)))) := by
          have := hM.out.step HH.out.files.apart HH.out.files.tnd HP.out HS.out HX.out
          rw [hky] at this
          exact this
        clear hfw e2 hgl hgS hgc hy hky
        by_cases hy0 : y ≤ 0
        · have hc0 : clampI y = 0 := by unfold clampI; omega
          rw [hc0] at HM2
          have HL2 : Hid (lostN κ (ys.take (i + 1)) = z + 1) := by rw [HLo.out, if_pos (by rw [HKy.out, hc0]; omega)]; exact rfl
          have m1 : max y 0 = 0 := by omega
          clear hc0
          go_wp2
          go_roundg (n - (i + 1))
          case measure => omega
          case rel => exact ⟨i + 1, by omega, Nat.le_refl _, by go_num, by rw [HL2.out]; go_num, HM2.out⟩
        · by_cases hy1 : y < 256
          · have hc0 : (clampI y : Int) = y := by unfold clampI; omega
            rw [hc0] at HM2
            have HL2 : Hid (lostN κ (ys.take (i + 1)) = z + 1) := by rw [HLo.out, if_pos (by rw [HKy.out]; omega)]; exact rfl
            have m1 : max y 0 = y := by omega
            have m2 : min y 256 = y := by omega
            clear hc0
            go_wp2
            go_roundg (n - (i + 1))
            case measure => omega
            case rel => exact ⟨i + 1, by omega, Nat.le_refl _, by go_num, by rw [HL2.out]; go_num, HM2.out⟩
          · have hc0 : clampI y = 256 := by unfold clampI; omega
            rw [hc0] at HM2
            have HL2 : Hid (lostN κ (ys.take (i + 1)) = z) := by rw [HLo.out, if_neg (by rw [HKy.out, hc0]; omega)]; exact rfl
            have m1 : max y 0 = y := by omega
            have m2 : min y 256 = 256 := by omega
            clear hc0
            go_wp2
            go_roundg (n - (i + 1))
            case measure => omega
            case rel => exact ⟨i + 1, by omega, Nat.le_refl _, by go_num, by rw [HL2.out], HM2.out⟩
      · have b2 : ¬ ((i : Int) < (nv : Int)) := by rw [HNV.out]; omega
        have h0 : κ x.turn = 0 := by
          rw [HRk.out, List.getD_eq_getElem?_getD, List.getElem?_eq_none (by omega)]
          rfl
        have HM2 : Hid (Mk w1 K.files κ ys (i + 1) wr) := hM.out.skip HX.out h0
        have HL2 : Hid (lostN κ (ys.take (i + 1)) = z + 1) := by rw [HLo.out, if_pos (by omega)]; exact rfl
        clear h0
        go_wp2
        go_roundg (n - (i + 1))
        case measure => omega
        case rel => exact ⟨i + 1, by omega, Nat.le_refl _, by go_num, by rw [HL2.out]; go_num, HM2.out⟩
    · obtain rfl : i = n := by omega
      obtain ⟨Lm, hLm⟩ : ∃ Lm, Lm = markL κ ((allW K.files).map (·.turn)) K.files := ⟨_, rfl⟩
      have hFm : FilesAt wr Lm := by
        have h1 := hM.out.at'
        rw [HN.out, List.take_length, mark_congr κ (T' := (allW K.files).map (·.turn)) (fun t => ((HP.out.map _).mem_iff)), ← hLm] at h1
        exact h1
      have hnm : (Lm.map (·.1)).Nodup := by rw [hLm, mark_names]; exact HH.out.files.names
      have hmem : ∀ p ∈ Lm, ∃ F, (p.1, F) ∈ K.files ∧ p.2 = markF κ ((allW K.files).map (·.turn)) F := by
        intro p hp
        rw [hLm] at hp
        obtain ⟨q, hq, rfl⟩ := List.mem_map.1 hp
        exact ⟨q.2, hq, rfl⟩
      have hok : ∀ p ∈ Lm, FileOk p.2 := by
        intro p hp
        obtain ⟨F, h1, h2⟩ := hmem p hp
        rw [h2]; exact mark_ok κ _ (HH.out.files.ok _ h1)
      have hkp : ∀ p ∈ Lm, ∀ x ∈ p.2.ws, x.kept ≤ 256 := by
        intro p hp
        obtain ⟨F, h1, h2⟩ := hmem p hp
        rw [h2]; exact mark_kept (fun t => by rw [HKa.out]; exact kept_le _ _ _) _
      have hft : ∀ p ∈ Lm, ∀ k, p.2.foot k → K.wfoot d k := by
        intro p hp k hk
        obtain ⟨F, h1, h2⟩ := hmem p hp
        rw [h2, markF_foot] at hk
        exact .inr (.inr ⟨_, h1, hk⟩)
      have hap : Lm.Pairwise (fun p q => ∀ k, p.2.foot k → ¬ q.2.foot k) := by
        rw [hLm]
        unfold markL
        rw [List.pairwise_map]
        exact HH.out.files.apart.imp (fun h k h1 h2 => h k ((markF_foot _ _ _ _).1 h1) ((markF_foot _ _ _ _).1 h2))
      have hfw : Fr (K.wfoot d) w wr := (Fr.of HB.out).trans (hM.out.fr.mono (fun k _ hk => by
        obtain ⟨y, hy, rfl⟩ := hk
        obtain ⟨p, hpL, hxw⟩ := allW_mem.1 hy
        exact .inr (.inr ⟨p, hpL, .inr (.inr ⟨y, hxw, rfl⟩)⟩)))
      have hdd : wr.heap[d]? = some (.cells K.cells 73 (0, 0)) := hM.out.fr.keep (old_below HH.out.blk HB.out) (by
        rintro ⟨y, hy, e⟩
        obtain ⟨p, hpL, hxw⟩ := allW_mem.1 hy
        obtain ⟨_, _, h2⟩ := seg_mem ((HH.out.files.at' p hpL).seg) y hxw
        exact block_ne HH.out.blk h2 (by decide) e.symm)
      have hmp : MapAt wr K.m (dir Lm) := by
        rw [hLm, mark_dir]
        have h1 : MapAt w1 K.m (dir K.files) := HH.out.map.fr (S := fun _ => False) (.of HB.out) (fun _ _ => id)
        refine h1.fr hM.out.fr (fun b hb => ?_)
        rintro ⟨y, hy, e⟩
        obtain ⟨p, hpL, hxw⟩ := allW_mem.1 hy
        obtain ⟨_, _, h2⟩ := seg_mem (((HH.out.files.at' p hpL).below HB.out).seg) y hxw
        rcases h1 with ⟨h3, _⟩ | ⟨b', D, h3, ⟨es, clock, h4, _⟩, _⟩
        · rw [h3] at hb; cases hb
        · rw [h3] at hb
          obtain rfl : b' = b := by simpa using hb
          have h5 : w1.heap[y.b]? = some _ := h2
          rw [e, h4] at h5
          cases h5
      have hlost : lostN κ (ys.take i) = lostN κ (allW K.files) := by
        rw [HN.out, List.take_length]
        exact (HP.out.filter _).length_eq
      have hsz : w.heap.size ≤ wr.heap.size := hfw.size
      have c0 : wr.cell? ⟨d, 0, none⟩ = some (.map K.m) := cell_at hdd 0
      have HLm := Lib.hid hLm
      have HFm := Lib.hid hFm
      have HNm := Lib.hid hnm
      have HOk := Lib.hid hok
      have HKp := Lib.hid hkp
      have HFt := Lib.hid hft
      have HAp := Lib.hid hap
      have HFw := Lib.hid hfw
      have HDd := Lib.hid hdd
      have HMp := Lib.hid hmp
      rw [hlost]
      obtain ⟨z, hz⟩ : ∃ z, z = lostN κ (allW K.files) := ⟨_, rfl⟩
      rw [← hz]
      have HZ := Lib.hid hz
      clear hLm hFm hnm hmem hok hkp hft hap hfw hdd hmp hlost hz hM hlt hq hi
      go_wp2_with (at_range; refine wpList_range_o rfl _ rfl K.m (dir Lm) rfl HMp.out ?_; intro w3 hr3 hb3 hs3; clear hs3)
      go_frame
      obtain ⟨r, hr⟩ : ∃ r, r = wr.heap.size := ⟨_, rfl⟩
      rw [← hr] at hr3 hsz ⊢
      have HR3 : Hid (RngO w3 K.m r (dir ([] ++ todoL Lm (fun k => (lk (dir Lm) k).isSome))) (fun k => (lk (dir Lm) k).isSome) (dir Lm).length) := by
        rw [List.nil_append, todo_all HNm.out]; exact hr3
      have HC3 : Hid (Cr3 Lm [] (fun k => (lk (dir Lm) k).isSome) w3) := ⟨by rw [List.nil_append, todo_all HNm.out]; exact fun p hp => (HFm.out p hp).below hb3, fun p hp => (by simp at hp), fun p hp => (by simp at hp), List.nodup_nil, by rw [done_none HNm.out]; exact List.Perm.refl _⟩
      have HF3 : Hid (Fr (K.wfoot d) w w3) := HFw.out.trans (.of hb3)
      have HD3 : Hid (w3.heap[d]? = some (.cells K.cells 73 (0, 0))) := old_below HDd.out hb3
      have HSz := Lib.hid hsz
      clear hr3 hb3 c0 hr hsz
      go_loopg [] ((dir Lm).length) (fun q wx => ∃ M lf cnt, cnt ≤ q ∧ Hid (Cr3 Lm M lf wx) ∧ Hid (RngO wx K.m r (dir (M ++ todoL Lm lf)) lf cnt) ∧ Hid (Fr (K.wfoot d) w wx) ∧ Hid (wx.heap[d]? = some (.cells K.cells 73 (0, 0))))
      case atStart => exact ⟨[], _, _, Nat.le_refl _, HC3.out, HR3.out, HF3.out, HD3.out⟩
      case round =>
        clear HR3 HC3 HF3 HD3
        obtain ⟨M, lf, cnt, hq, hC, hR, hF, hD⟩ := hrel
        go_wp2_with (at_next; refine wpList_next_o rfl _ rfl K.m r (dir (M ++ todoL Lm lf)) lf cnt rfl hR.out ?_ ?_)
        · intro hno
          have HDone := Lib.hid (crash_done (ks := ks) HH.out (by rw [HLm.out, HKa.out]) hno hC.out hR.out hF.out hD.out)
          rw [← HKa.out, ← HZ.out] at HDone
          have f1 := free_at hD.out 1
          have q1 : wr.cell? ⟨d, 1, none⟩ = some (.bool K.on) := cell_at hD.out 1
          have hs1 := set_at hD.out 1 (.bool false)
          have HA : Hid (Calls Tryz.prog 62 #[.pointer (some ⟨d, 0, none⟩), .int .i64 (-1), .slice none 0 0] (wr.setCell ⟨d, 1, none⟩ (.bool false)) fun e w' => e = .returned (.tuple #[]) ∧ w' = (((wr.setCell ⟨d, 1, none⟩ (.bool false)).setCell ⟨d, 4, none⟩ (.bool false)).setCell ⟨d, 5, none⟩ (.int .i64 0)).setCell ⟨d, 6, none⟩ (.slice none 0 0)) :=
            arm_neg _ d (-1) (.slice none 0 0) (.bool K.armed) (.int .i64 K.left) K.kv (cell_at hs1 4) (cell_at hs1 5) (cell_at hs1 6) (free_at hs1 4) (free_at hs1 5) (free_at hs1 6) (by decide)
          clear hs1 hno hC hR hF hD hq
          go_wp2_with (go_at_call 62; (with_reducible refine HA.out.mono ?_); rintro e w' ⟨rfl, rfl⟩)
          go_ret
          exact ⟨_, _, rfl, HDone.out⟩
        · intro s fb w4 cnt4 hs hm hl hR4 hlt4 ho4 hs4 hen
          obtain ⟨F, hFa, rfl⟩ := dir_mem hm
          have hFm2 : (s.data.toList, F) ∈ todoL Lm lf := by
            rcases List.mem_append.1 hFa with hx | hx
            · have h1 := (hC.out.org _ hx).1
              rw [hl] at h1
              cases h1
            · exact hx
          have hFL : (s.data.toList, F) ∈ Lm := (List.mem_filter.1 hFm2).1
          have hC4 := hC.out.move ho4 hR.out.notCells.1
          have hF4 : FileAt w4 F := hC4.at' _ (List.mem_append_right _ hFm2)
          have hFr4 : Fr (K.wfoot d) w w4 := fr_onlyNew hF.out ho4 HSz.out
          have hD4 : w4.heap[d]? = some (.cells K.cells 73 (0, 0)) := ho4.keep hD.out (fun e => hR.out.notCells.1 _ _ (e ▸ hD.out))
          have hmne : K.m ≠ none := by
            intro e
            rcases hR.out.map with ⟨_, h2⟩ | ⟨b, D, h2, _⟩
            · rw [h2] at hm; simp at hm
            · rw [e] at h2; cases h2
          obtain ⟨bb, hbb⟩ : ∃ bb, bb = (F.stays || decide (0 < F.left)) := ⟨_, rfl⟩
          have HCr : Hid (Calls Tryz.prog 81 #[.pointer (some ⟨F.b, 0, none⟩)] w4 fun e w' => e = .returned (.bool bb) ∧ ∃ sl, FileAt w' (F.tear.sync.cut sl F.left) ∧ sl.ownBlock = F.sl.ownBlock ∧ Fr F.foot w4 w') := by
            rw [hbb]
            exact crash_walk hF4 (HOk.out _ hFL) (HKp.out _ hFL)
          have hfd : ¬ F.foot d := by
            intro hk
            obtain ⟨c, t, h1, h2⟩ := hF4.kinds d hk
            rw [hD4] at h1
            simp at h1
            rcases h2 with rfl | rfl | rfl
            · exact absurd h1.2 (by decide)
            · exact absurd h1.2 (by decide)
            · exact absurd h1.2 (by decide)
          have hnn := hC.out.dirNames HNm.out
          have HBb := Lib.hid hbb
          have HC4 := Lib.hid hC4
          have HFr4 := Lib.hid hFr4
          have HD4 := Lib.hid hD4
          have HF4 := Lib.hid hF4
          have HR4 := Lib.hid hR4
          have HFL := Lib.hid hFL
          have HFd := Lib.hid hfd
          have HNn := Lib.hid hnn
          have HMne := Lib.hid hmne
          have HL1 := Lib.hid hl
          have HS1 := Lib.hid hs
          have hq4 : cnt4 < gk := by omega
          clear hm hl hR4 hlt4 ho4 hs4 hFa hFm2 hFL hC4 hF4 hFr4 hD4 hmne hbb hfd hnn hs hC hR hF hD hq
          cases bb
          · have HG : Hid (∀ w5, Fr F.foot w4 w5 → w5.cell? ⟨d, 0, none⟩ = some (.map K.m) ∧ RngO w5 K.m r (dir (M ++ todoL Lm lf)) (fun k => lf k && !(k == s.data.toList)) cnt4 ∧ Cr3 Lm M (fun k => lf k && !(k == s.data.toList)) w5 ∧ Fr (K.wfoot d) w w5 ∧ w5.heap[d]? = some (.cells K.cells 73 (0, 0))) := fun w5 hf5 =>
              ⟨cell_at (hf5.keep HD4.out HFd.out) 0, HR4.out.file HF4.out hf5, HC4.out.drop HNm.out HAp.out HFL.out HL1.out hf5 (by unfold crP; rw [← HBb.out]; rfl), HFr4.out.trans (hf5.mono fun k _ hk => HFt.out _ HFL.out k hk), hf5.keep HD4.out HFd.out⟩
            go_wp2_with (first
              | (go_at_call 81; (with_reducible refine HCr.out.mono ?_); rintro e w5 ⟨rfl, sl, hF5, hsl, hf5⟩; obtain ⟨c0, hR5, hC5, hFr5, hD5⟩ := HG.out w5 hf5; have HR5 := Lib.hid hR5; have HC5 := Lib.hid hC5; have HFr5 := Lib.hid hFr5; have HD5 := Lib.hid hD5; clear hR5 hC5 hFr5 hD5 hF5 hsl hf5)
              | (at_delete; refine wpList_delete_o rfl _ _ rfl K.m r (dir (M ++ todoL Lm lf)) (fun k => lf k && !(k == s.data.toList)) cnt4 HNn.out rfl HR5.out HMne.out s HS1.out rfl ?_; intro b5 w6 cnt6 hb5 hR6 hle6 ho6 hs6))
            have hnc := HR5.out.notCells.2 b5 hb5
            have HC6 : Hid (Cr3 Lm M (fun k => lf k && !(k == s.data.toList)) w6) := HC5.out.move ho6 hnc
            have HD6 : Hid (w6.heap[d]? = some (.cells K.cells 73 (0, 0))) := ho6.keep HD5.out (fun e => hnc _ _ (e ▸ HD5.out))
            have HFr6 : Hid (Fr (K.wfoot d) w w6) := HFr5.out.trans (.only ho6 (.inr (.inl hb5)))
            have HR6 : Hid (RngO w6 K.m r (dir (M ++ todoL Lm (fun k => lf k && !(k == s.data.toList)))) (fun k => lf k && !(k == s.data.toList)) cnt6) := by
              have e : (fun k => (lf k && !(k == s.data.toList)) && !(k == s.data.toList)) = fun k => lf k && !(k == s.data.toList) := by
                funext k
                cases lf k <;> cases (k == s.data.toList) <;> rfl
              have h1 := hR6
              simp only [e] at h1
              exact h1.perm (HC4.out.dirDrop HNm.out HFL.out HL1.out)
            have hq6 : cnt6 < gk := by omega
            clear hR6 hle6 ho6 hs6 hnc hb5 c0
            go_wp2
            go_roundg (cnt6)
            case measure => exact hq6
            case rel => exact ⟨M, _, cnt6, Nat.le_refl _, HC6.out, HR6.out, HFr6.out, HD6.out⟩
          · go_wp2_with (go_at_call 81; (with_reducible refine HCr.out.mono ?_); rintro e w5 ⟨rfl, sl, hF5, hsl, hf5⟩)
            have hok' : FileOk (F.tear.sync.cut sl F.left) := Fl.cut_ok _ (Fl.sync_ok _ (F.tear_ok (HOk.out _ HFL.out) (HKp.out _ HFL.out))) _ _
            have hfoot : ∀ k, (F.tear.sync.cut sl F.left).foot k → F.foot k := by
              rintro k (hk | hk | ⟨x, hx, _⟩)
              · exact .inl hk
              · exact .inr (.inl (hsl ▸ hk))
              · have hx2 : x ∈ ([] : List Wr).filter (fun x => decide (x.pos < F.left)) := hx
                simp at hx2
            have HR5 : Hid (RngO w5 K.m r (dir ((s.data.toList, F.tear.sync.cut sl F.left) :: M ++ todoL Lm (fun k => lf k && !(k == s.data.toList)))) (fun k => lf k && !(k == s.data.toList)) cnt4) := (HR4.out.file HF4.out hf5).perm (Cr3.dirKeep HNm.out HFL.out HL1.out rfl)
            have HC5 : Hid (Cr3 Lm ((s.data.toList, F.tear.sync.cut sl F.left) :: M) (fun k => lf k && !(k == s.data.toList)) w5) := HC4.out.keep HNm.out HAp.out HFL.out HL1.out hf5 hF5 hok' rfl hfoot (by unfold crP; rw [← HBb.out, if_pos rfl, Fl.crash_abs _ (HOk.out _ HFL.out)])
            have HFr5 : Hid (Fr (K.wfoot d) w w5) := HFr4.out.trans (hf5.mono fun k _ hk => HFt.out _ HFL.out k hk)
            have HD5 : Hid (w5.heap[d]? = some (.cells K.cells 73 (0, 0))) := hf5.keep HD4.out HFd.out
            clear hF5 hsl hf5 hok' hfoot
            go_wp2
            go_roundg (cnt4)
            case measure => exact hq4
            case rel => exact ⟨_, _, cnt4, Nat.le_refl _, HC5.out, HR5.out, HFr5.out, HD5.out⟩

end Go.Proofs.YtbkngnjkaledlaaGreat.P4
