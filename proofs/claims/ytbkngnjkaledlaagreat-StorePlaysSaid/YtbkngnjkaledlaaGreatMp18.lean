/-
  Texts of the proof of SaidPlay8b.
-/
import Derived.Test.YtbkngnjkaledlaaGreatMp17
set_option maxHeartbeats 8000000
set_option maxRecDepth 100000
namespace Go.Proofs.YtbkngnjkaledlaaGreat.P4
open Go Go.RowKit Go.Lib P3
section
variable {lo : Nat} {w wr w' : World} {r kb : Nat} {D E : RM} {bs : List Bool}
theorem RAt.crash_off (h : RAt lo w r D) (ho : D.off = true) (v : Value) (hv : ∃ a m c, v = .slice a m c) : Calls Tryz.prog 48 #[.pointer (some ⟨r, 0, none⟩), v] w fun e w' => e = .returned (.int .i64 0) ∧ w = w' := by
 obtain ⟨a, m, c, rfl⟩ := hv
 have c2 : w.cell? ⟨r, 2, none⟩ = some (.bool true) := by rw [← ho]; exact h.cell 2
 clear h ho
 go_enter Tryz.func48, Tryz.ntmps48
 go_wp2
 go_ret
 exact ⟨rfl, rfl⟩
theorem RAt.crash0 (h : RAt lo w r D) (κ : Nat → Nat) {W : World} (hW : W = ((w.setCell ⟨r, 2, none⟩ (.bool true)).setCell ⟨r, 4, none⟩ (.bool false)).alloc (.cells (madeCells #[.bool false] D.fs.length) 4)) : CrA lo w r D κ w.heap.size 0 W := by
 subst hW
 have s1 := RStep.only h 2 (.bool true) { D with off := true } rfl rfl rfl rfl rfl
 have s2 := s1.trans (RStep.only s1.at' 4 (.bool false) { D with off := true, armed := false } rfl rfl rfl rfl rfl)
 have hsz : ((w.setCell ⟨r, 2, none⟩ (.bool true)).setCell ⟨r, 4, none⟩ (.bool false)).heap.size = w.heap.size := by simp [World.setCell]
 have s3 := s2.trans (RStep.below s2.at' (below_new _ (.cells (madeCells #[.bool false] D.fs.length) 4)))
 refine ⟨_, List.replicate D.fs.length false, s3, ⟨rfl, rfl, fun j f hf => ⟨f.sv, hf⟩⟩, Nat.le_refl _, ?_, by simp, fun j f hf => ?_⟩
 ·have := new_at ((w.setCell ⟨r, 2, none⟩ (.bool true)).setCell ⟨r, 4, none⟩ (.bool false)) (madeCells #[.bool false] D.fs.length) 4
  rw [hsz] at this
  rw [this, bools_cells]
 ·rw [List.getElem?_replicate, if_pos (List.getElem?_eq_some_iff.1 hf).1]
  rfl
theorem RAt.crash (h : RAt lo w r D) (ho : D.off = false) (ks : List Int) (v : Value) (hv : IntsR (D.own r) w v ks) (hw : ∀ x ∈ D.ws, x.pos ≤ 4000 ∧ x.data.size = 256 ∧ x.file ≤ 1000000) (hfs : ∀ f ∈ D.fs, f.id ≤ 1000000 ∧ ∀ s ∈ f.safe, s.size = 256) :
  Calls Tryz.prog 48 #[.pointer (some ⟨r, 0, none⟩), v] w (CrashP lo w r D ks) := by
 have c2 : w.cell? ⟨r, 2, none⟩ = some (.bool false) := by rw [← ho]; exact h.cell 2
 have c4 : w.cell? ⟨r, 4, none⟩ = some (.bool D.armed) := h.cell 4
 have f2 := h.free 2
 have f4 := h.free 4
 obtain ⟨κ, hκ⟩ : ∃ κ, κ = kapM ks := ⟨_, rfl⟩
 have hkle : ∀ i, κ i ≤ 256 := fun i => by rw [hκ]; exact kap_le ks i
 obtain ⟨ka, kc, hvs, HK⟩ : ∃ a c, v = .slice a ks.length c ∧ Hid (∀ wr, Fr (D.own r) w wr → ∀ (i : Nat) (x : Int), ks[i]? = some x → ∃ g o, a = some ⟨g, o, none⟩ ∧ wr.cell? ⟨g, o + i, none⟩ = some (.int .i64 x)) := by
  rcases hv with ⟨a, c, e, e2⟩ | ⟨g, o, c, e, h1, h2, h3⟩
  ·exact ⟨a, c, by rw [e2]; exact e, fun wr _ i x hx => by rw [e2] at hx; simp at hx⟩
  ·exact ⟨_, c, e, fun wr hf i x hx => ⟨g, o, rfl, by rw [(heap_ext (hf.block g h1 h2) (o + i)).1]; exact h3 i x hx⟩⟩
 subst hvs
 obtain ⟨fa, fc, hlv, hfc, hfcell⟩ := h.files
 obtain ⟨wa, wc, hwv, hwc, hwcell⟩ := h.writes
 have c0 : w.cell? ⟨r, 0, none⟩ = some (.slice fa D.fs.length fc) := by rw [← hlv]; exact h.cell 0
 have hfew := h.few
 have hfew2 := h.few2
 obtain ⟨i1, hi1, hy0', hy1, hy2⟩ := info_parts infoStr9
 obtain ⟨i2, hi2, hz20, hz21, hz22⟩ := info_parts infoRF
 obtain ⟨z2, hz2⟩ : ∃ z, z = Value.agg #[.string ⟨#[]⟩, .int .i64 0, .slice none 0 0, .slice none 0 0, .bool false, .bool false] := ⟨_, rfl⟩
 rw [← hz2] at hz20
 have HZ2 : Hid (z2.cells.size = 6) := by rw [hz2]; exact rfl
 clear hz2
 have hmk := fun W => made_bools W D.fs.length (by omega)
 have HST := Lib.hid (h.crash0 κ rfl)
 -- what stands in any world on the way
 have HA : Hid (∀ wr kb i, CrA lo w r D κ kb i wr → Hid (Fr (D.own r) w wr) ∧ wr.cell? ⟨r, 1, none⟩ = some (.slice wa D.ws.length wc) ∧ ∀ (m : Nat) (x : RW), D.ws[m]? = some x → ∃ g, wa = some ⟨g, 0, none⟩ ∧ wr.cell? ⟨g, m * 3, none⟩ = some (.int .i64 x.file) ∧ wr.cell? ⟨g, m * 3 + 1, none⟩ = some (.int .i64 x.pos) ∧ wr.cell? ⟨g, m * 3 + 2, none⟩ = some (.string x.data)) := by
  rintro wr kb i ⟨E, bs, hc⟩
  obtain ⟨a, c, e1, e2, e3⟩ := hc.st.at'.writes
  rw [hc.mid.wv, hwv, hc.mid.ws] at e1
  obtain ⟨rfl, rfl⟩ : wa = a ∧ wc = c := by simpa using e1
  refine ⟨hc.st.fr, by rw [← hwv, ← hc.mid.wv]; exact hc.st.at'.cell 1, fun m x hx => ?_⟩
  obtain ⟨g, q1, _, q2⟩ := e3 m x (by rw [hc.mid.ws]; exact hx)
  exact ⟨g, q1, q2 0 _ rfl, q2 1 _ rfl, q2 2 _ rfl⟩
 obtain ⟨n, hn⟩ : ∃ n, n = D.fs.length := ⟨_, rfl⟩
 obtain ⟨m, hm⟩ : ∃ m, m = D.ws.length := ⟨_, rfl⟩
 have HN := Lib.hid hn
 have HM := Lib.hid hm
 have HW := Lib.hid hw
 have HFS := Lib.hid hfs
 have HR := Lib.hid h
 have HKL := Lib.hid hkle
 have HKA := Lib.hid hκ
 have HLV := Lib.hid hlv
 have HFA : Hid (∀ j, j < D.fs.length → ∃ g, fa = some ⟨g, 0, none⟩) := fun j hj => by
  obtain ⟨g, e, _⟩ := hfcell j _ (List.getElem?_eq_getElem hj)
  exact ⟨g, e⟩
 simp only [← hn, ← hm] at c0 hfc hwc hmk hfew hfew2 HA HST HFA
 clear h ho hv hw hfs hκ hkle hlv hwv hfcell hwcell hn hm hfc hwc
 go_enter Tryz.func48, Tryz.ntmps48
 go_wp2
 generalize hW0 : ((w.setCell ⟨r, 2, none⟩ (.bool true)).setCell ⟨r, 4, none⟩ (.bool false)).alloc (.cells (madeCells #[.bool false] n) 4) = W0 at *
 clear hW0 c0 c2 c4 f2 f4 hmk
 go_loopw [5, 7] (fun vl vi wr => ∃ i : Nat, i ≤ m ∧ vi = .int .i64 i ∧ vl = .int .i64 (lostTo κ i : Nat) ∧ Hid (CrA lo w r D κ w.heap.size i wr)) (fun vl vi _ => m - (RowKit.intOf vi).toNat)
 case atStart => exact ⟨0, Nat.zero_le _, rfl, rfl, HST.out⟩
 case round =>
  obtain ⟨i, hi, rfl, rfl, HC⟩ := hrel
  obtain ⟨HFr, k1, kx⟩ := HA.out _ _ _ HC.out
  have hll := lost_le κ i
  by_cases him : i < m
  ·obtain ⟨x, hx⟩ : ∃ x, D.ws[i]? = some x := ⟨_, List.getElem?_eq_getElem (by rw [← HM.out]; exact him)⟩
   obtain ⟨gw, rfl, k2, k3, k4⟩ := kx i x hx
   have hxw := HW.out x (List.mem_of_getElem? hx)
   have hln := lost_next κ i
   have b1 : decide ((i : Int) < (m : Int)) = true := decide_eq_true (by omega)
   have b1' : decide (i < m) = true := decide_eq_true him
   have j0 : (0 : Int) ≤ (i : Int) := by omega
   have j1 : (i : Int) < (m : Int) := by omega
   have HX := Lib.hid hx
   have HXW := Lib.hid hxw
   have HLN := Lib.hid hln
   obtain ⟨z, hz⟩ : ∃ z, z = lostTo κ i := ⟨_, rfl⟩
   rw [← hz] at hll HLN ⊢
   obtain ⟨xt, xf, xp, xd⟩ := x
   simp only at k2 k3 k4 hxw
   clear hx hln hz kx
   by_cases hik : i < ks.length
   ·obtain ⟨y, hy⟩ : ∃ y, ks[i]? = some y := ⟨_, List.getElem?_eq_getElem hik⟩
    obtain ⟨gk, ok, hka, k5⟩ := HK.out (wr.alloc (.cells #[.int .i64 xf, .int .i64 xp, .string xd] 129)) (HFr.out.trans (Fr.of (below_new _ _))) i y hy
    subst hka
    have hq : κ i = clampI y := by rw [HKA.out]; exact clamp_some hy
    have b2 : decide ((i : Int) < (ks.length : Int)) = true := decide_eq_true (by omega)
    have b2' : decide (i < ks.length) = true := decide_eq_true hik
    have j2 : (i : Int) < (ks.length : Int) := by omega
    have HY := Lib.hid hy
    clear hy
    -- INNER
    have HWL : Hid (w.heap.size < wr.heap.size) := by
     obtain ⟨E9, bs9, h9⟩ := HC.out
     exact lt_of_block h9.row
    by_cases hy0 : y ≤ 0
    ·have hq0 : κ i = 0 := by rw [hq]; unfold clampI; omega
     have HQ := Lib.hid hq0
     have m1 : max y 0 = 0 := by omega
     clear hq0 hq
     go_wp2
     go_roundw
     case rel => exact ⟨i + 1, by omega, by go_num, by rw [HLN.out, if_pos (by rw [HQ.out]; decide)]; go_num, HC.out.zero HX.out HQ.out (below_new _ _)⟩
     case measure => simp [RowKit.intOf]; omega
    ·have m1 : max y 0 = y := by omega
     obtain ⟨q, hq9⟩ : ∃ q, q = κ i := ⟨_, rfl⟩
     have m2 : min y 256 = (q : Int) := by rw [hq9, hq]; unfold clampI; omega
     have hq1 : 0 < q := by rw [hq9, hq]; unfold clampI; omega
     have hq2 : q ≤ 256 := by rw [hq9]; exact HKL.out i
     have m3 : ((q : Int) == 0) = false := by rw [beq_eq_false_iff_ne]; omega
     have HQ := Lib.hid hq9
     clear hq hq9
     by_cases hq3 : q < 256
     ·have HL2 : Hid (lostTo κ (i + 1) = z + 1) := by rw [HLN.out, if_pos (by rw [← HQ.out]; exact hq3)]; exact rfl
      have m4 : decide ((q : Int) < 256) = true := decide_eq_true (by omega)
      have m4' : decide (q < 256) = true := decide_eq_true hq3
      go_wp2
      obtain ⟨W1, hW1⟩ : ∃ W1, W1 = wr.alloc (.cells #[.int .i64 xf, .int .i64 xp, .string xd] 129) := ⟨_, rfl⟩
      have HB0 : Hid (CrB lo w r D κ w.heap.size i 0 W1) := by rw [hW1]; exact HC.out.start (below_new _ _)
      have HBw : Hid (W1.heap[wr.heap.size]? = some (.cells #[.int .i64 xf, .int .i64 xp, .string xd] 129 (0, 0))) := by rw [hW1]; exact new_at _ _ _
      rw [← hW1]
      clear hW1
      obtain ⟨bw, hbw⟩ : ∃ bw, bw = wr.heap.size := ⟨_, rfl⟩
      have HBL : Hid (w.heap.size < bw) := by rw [hbw]; exact HWL.out
      rw [← hbw] at HBw ⊢
      clear hbw k1 k2 k3 k4 k5
      go_loopw [10] (fun vj wx => ∃ j : Nat, j ≤ n ∧ vj = .int .i64 j ∧ Hid (CrB lo w r D κ w.heap.size i j wx) ∧ Hid (wx.heap[bw]? = some (.cells #[.int .i64 xf, .int .i64 xp, .string xd] 129 (0, 0)))) (fun vj _ => n - (RowKit.intOf vj).toNat)
      case atStart => exact ⟨0, Nat.zero_le _, rfl, HB0.out, HBw.out⟩
      case round =>
       clear HB0 HBw
       obtain ⟨j, hj, rfl, HJ, HBx⟩ := hrel
       by_cases hjn : j < n
       ·obtain ⟨f, hf⟩ : ∃ f, D.fs[j]? = some f := ⟨_, List.getElem?_eq_getElem (by rw [← HN.out]; exact hjn)⟩
        obtain ⟨gf, hgf⟩ := HFA.out j hjn
        have hlv := HLV.out
        rw [hgf] at hlv
        obtain ⟨q0, q1, ⟨bb, q2⟩, q3, q4, HX9⟩ := HJ.out.facts hlv HR.out hf
        rw [← HN.out] at q0
        have x0 : wr.cell? ⟨bw, 0, none⟩ = some (.int .i64 xf) := by rw [cell_at HBx.out]; rfl
        have hidf := (HFS.out f (List.mem_of_getElem? hf)).1
        have c1 : decide ((j : Int) < (n : Int)) = true := decide_eq_true (by omega)
        have c1' : decide (j < n) = true := decide_eq_true hjn
        have t0 : (0 : Int) ≤ (j : Int) := by omega
        have t1 : (j : Int) < (n : Int) := by omega
        have HF := Lib.hid hf
        have HX8 := Lib.hid HX9
        have HLV2 := Lib.hid hlv
        obtain ⟨fid, hfid⟩ : ∃ fid, fid = f.id := ⟨_, rfl⟩
        have HID := Lib.hid hfid
        rw [← hfid] at q1 hidf
        clear hf HX9 hlv hgf hfid
        by_cases hne : fid = xf
        ·have e1 : ((fid : Int) != (xf : Int)) = false := by simp [hne]
         have HNE := Lib.hid hne
         clear hne
         go_wp2
         go_quiet (fail)
         go_upto_region 21 with fail
         have HJ2 : Hid (CrB lo w r D κ w.heap.size i j (wr.drewN nq)) := HJ.out.below (below_drewN _ _)
         have hS2 := safe_size HKL.out (fun x hx => ⟨(HW.out x hx).1, (HW.out x hx).2.1⟩) (f := f) ⟨(HFS.out f (List.mem_of_getElem? HF.out)).2, (HR.out.long f (List.mem_of_getElem? HF.out)).2⟩ i (by rw [← HM.out]; exact hi)
         have hmine := HJ2.out.mine HR.out HX.out (by rw [← HQ.out]; omega) HF.out (by show xf = f.id; rw [← HID.out]; exact HNE.out.symm) (by rw [HLV2.out]; rfl)
         obtain ⟨-, -, -, -, -, hX8⟩ := HJ2.out.facts HLV2.out HR.out HF.out
         have hbx : ((wr.drewN nq).setCell ⟨w.heap.size, j, none⟩ (.bool true)).heap[bw]? = some (.cells #[.int .i64 xf, .int .i64 xp, .string xd] 129 (0, 0)) := by
          rw [Below.heap_setCell _ _ _ _ (fun e => by have := HBL.out; have e' : bw = w.heap.size := e; omega), (below_drewN wr nq).block _ (lt_of_block HBx.out)]
          exact HBx.out
         have hwl : wr.heap.size ≤ ((wr.drewN nq).setCell ⟨w.heap.size, j, none⟩ (.bool true)).heap.size := by
          have h1 := (below_drewN wr nq).size
          have h2 : ((wr.drewN nq).setCell ⟨w.heap.size, j, none⟩ (.bool true)).heap.size = (wr.drewN nq).heap.size := by simp [World.setCell]
          omega
         generalize hX1 : (wr.drewN nq).setCell ⟨w.heap.size, j, none⟩ (.bool true) = X1 at *
         have HWl := Lib.hid hwl
         clear hX1 hwl q0 q1 q2 q3 q4 HX8
         obtain ⟨S, hS⟩ : ∃ S, S = safeT κ D.ws i f := ⟨_, rfl⟩
         rw [← hS] at hmine hX8 hS2
         have HS2 := Lib.hid hS2
         rw [← HN.out] at hX8
         have HX1 := Lib.hid hX8
         have HMine := Lib.hid hmine
         have HBX := Lib.hid hbx
         have hsl := hS2.2
         obtain ⟨a3, c3, r0, r3, -, r4, r5, r6, r7⟩ := hX8 X1 (Below.refl _ _)
         have HR6 := Lib.hid r6
         have HR7 := Lib.hid r7
         have HZr : Hid (∀ W, Calls Tryz.prog 86 #[.int .i64 256] W fun e w' => e = .returned (.string zeros) ∧ Below W.heap.size W w') := fun W => rZeros4 W 256 (by decide)
         clear r6 r7 hS2 hX8 hmine hbx hS x0 e1
         go_wp2_with (at_builtin; refine wpList_app rfl _ _ 99 rfl X1.heap.size 9 i1 (.string ⟨#[]⟩) 1 16 Tryz.underlying99 hi1 hy0' hy1 hy2 rfl (by decide) (.slice none 0 0) 0 [] rfl (World.ownsRow_nil _ _ _ _) a3 S.length c3 (S.map Value.string) rfl (by simp) HR6.out HR7.out (strs_one S) (by unfold maxLen; omega) (by omega) (Nat.le_refl _) ?_; intro p1 s1 X2 hown2 hgrow2 hat2; have HB2 : Hid (Below X1.heap.size X1 X2) := Fr.below (fr_grown hgrow2 (by intro k hk; cases hk)); have HO2 : Hid (X2.ownsRow X1.heap.size 9 1 (.slice p1 (0 + S.length : Nat) s1) (0 + S.length) ([] ++ S.map Value.string)) := hown2; clear hown2 hgrow2 hat2)
         go_loopg [11] (xp + 1) (fun q9 v wy => ∃ l : List ByteArray, xp + 1 - l.length ≤ q9 ∧ l.length ≤ 4001 ∧ (∃ p s, v = .slice p l.length s) ∧ Hid (l = S ++ List.replicate (l.length - S.length) zeros ∧ S.length ≤ l.length ∧ (l.length = S.length ∨ l.length ≤ xp + 1)) ∧ Hid (Below X1.heap.size X1 wy) ∧ Hid (wy.ownsRow X1.heap.size 9 1 v l.length (l.map Value.string)))
         case atStart =>
          refine ⟨S, by omega, hsl, ⟨p1, s1, by simp⟩, ⟨by simp, Nat.le_refl _, .inl rfl⟩, HB2.out, ?_⟩
          have h9 := HO2.out
          rw [Nat.zero_add, List.nil_append] at h9
          exact h9
         case round =>
          clear HB2 HO2 r0 r3
          obtain ⟨l, hgr, hl4, ⟨p3, s3, rfl⟩, HL3, HBy, HOy⟩ := hrel
          have x1 : wr.cell? ⟨bw, 1, none⟩ = some (.int .i64 xp) := by rw [cell_at (old_below HBX.out HBy.out)]; rfl
          by_cases hlx : l.length ≤ xp
          ·have d1 : decide ((l.length : Int) ≤ (xp : Int)) = true := decide_eq_true (by omega)
           have d1' : decide (l.length ≤ xp) = true := decide_eq_true hlx
           go_wp2_with (first
            | (go_at_call 86; (with_reducible refine (HZr.out _).mono ?_); rintro e w3 ⟨rfl, hb3⟩; have HB3 : Hid (Below X1.heap.size X1 (w3.alloc (.cells #[.string zeros] 9))) := thenBelow (thenBelow HBy.out hb3) (below_new _ _); have HO3 : Hid ((w3.alloc (.cells #[.string zeros] 9)).ownsRow X1.heap.size 9 1 (.slice p3 l.length s3) l.length (l.map Value.string)) := own_keep (own_keep HOy.out hb3) (below_new _ _); clear hb3)
            | (at_builtin; refine wpList_app rfl _ _ 99 rfl X1.heap.size 9 i1 (.string ⟨#[]⟩) 1 16 Tryz.underlying99 hi1 hy0' hy1 hy2 rfl (by decide) (.slice p3 l.length s3) l.length (l.map Value.string) rfl HO3.out (some ⟨w3.heap.size, 0, none⟩) 1 1 [.string zeros] rfl rfl (by intro A hA; cases hA; exact cell_one_new _ _ _) (by intro q; cases q) (by intro u hu; simp at hu; subst hu; rfl) (by unfold maxLen; omega) (by omega) HB3.out.size ?_; intro p4 s4 w4 hown4 hgrow4 hat4; have HB4 : Hid (Below X1.heap.size X1 w4) := Fr.new HB3.out (fr_grown (S := fun q => (Value.slice p3 l.length s3).ownBlock = some q) hgrow4 (fun q e => e)) (fun q e => (owned_at HO3.out e).1); have HO4 : Hid (w4.ownsRow X1.heap.size 9 1 (.slice p4 (l.length + 1) s4) (l.length + 1) (l.map Value.string ++ [.string zeros])) := hown4; clear hown4 hgrow4 hat4))
           go_roundg (xp + 1 - (l.length + 1))
           case measure => omega
           case rel =>
            have hl3 := HL3.out
            have e9 : l ++ [zeros] = S ++ List.replicate ((l ++ [zeros]).length - S.length) zeros := by
             have e8 : (l ++ [zeros]).length - S.length = (l.length - S.length) + 1 := by simp; omega
             rw [e8, List.replicate_succ', ← List.append_assoc, ← hl3.1]
            refine ⟨l ++ [zeros], by simp, by simp; omega, ⟨p4, s4, by simp⟩, ⟨e9, by simp; omega, .inr (by simp; omega)⟩, HB4.out, ?_⟩
            have h9 := HO4.out
            rw [show (l ++ [zeros]).length = l.length + 1 by simp, List.map_append]
            exact h9
          ·have d1 : decide ((l.length : Int) ≤ (xp : Int)) = false := decide_eq_false (by omega)
           have d1' : decide (l.length ≤ xp) = false := decide_eq_false hlx
           obtain ⟨gs, cs, hvs, hcs, hgs1, hgs2⟩ := owns_form HOy.out (by omega)
           obtain ⟨rfl, rfl⟩ : p3 = some ⟨gs, 0, none⟩ ∧ s3 = cs := by simpa using hvs
           obtain ⟨t, ht⟩ : ∃ t, l[xp]? = some t := ⟨_, List.getElem?_eq_getElem (by omega)⟩
           have x2 : wr.cell? ⟨bw, 2, none⟩ = some (.string xd) := by rw [cell_at (old_below HBX.out HBy.out)]; rfl
           have x3 : wr.cell? ⟨gs, xp, none⟩ = some (.string t) := by
            have h9 := HOy.out.cells (show (Value.slice (some ⟨gs, 0, none⟩) l.length s3).ownBlock = some gs from rfl) xp (.string t) (by rw [List.getElem?_map, ht]; rfl)
            rwa [Go.WideShapes.add_plain, Nat.zero_add] at h9
           have x4 : wr.frozen? ⟨gs, xp, none⟩ = false := by
            obtain ⟨_, cur, e9⟩ := owned_at HOy.out (show (Value.slice (some ⟨gs, 0, none⟩) l.length s3).ownBlock = some gs from rfl)
            exact free_at e9 xp
           have htz : t.size = 256 := by
            have h9 := List.mem_of_getElem? ht
            rw [HL3.out.1] at h9
            rcases List.mem_append.1 h9 with h9 | h9
            ·exact HS2.out.1 t h9
            ·rw [List.eq_of_mem_replicate h9]; exact zeros_size
           have hdz := HXW.out.2.1
           have y1 : q ≤ xd.size := by omega
           have y2 : q ≤ t.size := by omega
           have y3 : ¬ 9223372036854775807 < t.size := by omega
           have g0 : (0 : Int) ≤ (xp : Int) := by omega
           have g1 : (xp : Int) < (l.length : Int) := by omega
           have HT := Lib.hid ht
           clear hvs ht htz hdz
           go_wp2
           go_region
           generalize hY : World.drew (World.setCell wr ⟨gs, xp, none⟩ _) = Y
           have hY2 : (wr.setCell ⟨gs, xp, none⟩ (.string (torn q xd t))).drew = Y := hY
           have hoY : Only gs wr Y := by rw [← hY2]; exact ((Only.refl gs wr).setCell _ _).drew
           have hBY : Below X1.heap.size X1 Y := Only.new HBy.out hoY hgs1
           have hOY : Y.ownsRow X1.heap.size 9 1 (.slice (some ⟨gs, 0, none⟩) l.length s3) l.length ((l.set xp (torn q xd t)).map Value.string) := by rw [← hY2]; exact own_put HOy.out xp _
           obtain ⟨e7, e8⟩ := pad_is HL3.out.1 HL3.out.2.1 HL3.out.2.2 (by omega) HT.out (torn q xd t)
           obtain ⟨a4, c4, z0, z3, zf, -⟩ := HX1.out Y hBY
           have hgl : gf < w.heap.size := (HR.out.own_lt (.inr (.inl (by rw [HLV2.out]; rfl)))).2
           have HBY := Lib.hid hBY
           have HGL := Lib.hid hgl
           have HEnd : Hid (CrB lo w r D κ w.heap.size i (j + 1) (Y.setCell ⟨gf, j * 6 + 3, none⟩ (.slice (some ⟨gs, 0, none⟩) l.length s3))) := by
            have h9 := HMine.out Y (.slice (some ⟨gs, 0, none⟩) l.length s3) hBY
            rw [← HQ.out] at h9
            have e6 : setPad S xp (torn q xd (S.getD xp zeros)) = l.set xp (torn q xd t) := by rw [e8, e7]
            have h8 := h9 (by show Txt Y _ (setPad S xp (torn q xd (S.getD xp zeros))); rw [e6]; exact owns_txt (by rw [List.length_set]) hOY) (by show (setPad S xp (torn q xd (S.getD xp zeros))).length ≤ 4001; rw [e6, List.length_set]; exact hl4)
             (fun k hk => by obtain rfl : gs = k := by simpa [Value.ownBlock] using hk
                             exact Nat.le_trans HWl.out hgs1)
            exact h8
           have HLl : Hid (l.length = l.length) := rfl
           generalize l.length = ln at *
           clear hY hY2 hoY hBY hOY e7 e8 x1 x2 x3 x4 hgl
           go_wp2
           go_roundw
           case rel =>
            refine ⟨j + 1, by omega, by go_num, HEnd.out, ?_⟩
            rw [Below.heap_setCell _ _ _ _ (fun e => by have := HGL.out; have := HBL.out; have e' : bw = gf := e; omega)]
            exact old_below HBX.out HBY.out
           case measure => simp [RowKit.intOf]; omega
        ·have e1 : ((fid : Int) != (xf : Int)) = true := by rw [bne_iff_ne]; omega
         have HNE := Lib.hid hne
         clear hne
         go_wp2
         go_quiet (fail)
         go_wp2
         go_roundw
         case rel =>
          refine ⟨j + 1, by omega, by go_num, HJ.out.other HX.out HF.out (fun e => HNE.out (by rw [HID.out]; exact e.symm)) (below_drewN _ _), ?_⟩
          rw [(below_drewN wr _).block _ (lt_of_block HBx.out)]
          exact HBx.out
         case measure => simp [RowKit.intOf]; omega
       ·obtain rfl : j = n := by omega
        have c1 : decide ((j : Int) < (j : Int)) = false := decide_eq_false (by omega)
        have hd0 : wr.cell? ⟨r, 0, none⟩ = some (.slice fa j fc) := by
         obtain ⟨E9, bs9, h9⟩ := HJ.out
         have h8 := h9.st.at'.cell 0
         have h7 : E9.lv = .slice fa D.fs.length fc := by rw [h9.mid.lv]; exact HLV.out
         rw [HN.out, ← h7]; exact h8
        go_wp2
        go_roundw
        case rel => exact ⟨i + 1, by omega, by go_num, by rw [HL2.out] <;> first | rfl | go_num, HJ.out.done (by rw [HN.out]; exact Nat.le_refl _)⟩
        case measure => simp [RowKit.intOf]; omega
     ·have HL2 : Hid (lostTo κ (i + 1) = z) := by rw [HLN.out, if_neg (by rw [← HQ.out]; exact hq3)]; exact rfl
      have m4 : decide ((q : Int) < 256) = false := decide_eq_false (by omega)
      have m4' : decide (q < 256) = false := decide_eq_false hq3
      go_wp2
      obtain ⟨W1, hW1⟩ : ∃ W1, W1 = wr.alloc (.cells #[.int .i64 xf, .int .i64 xp, .string xd] 129) := ⟨_, rfl⟩
      have HB0 : Hid (CrB lo w r D κ w.heap.size i 0 W1) := by rw [hW1]; exact HC.out.start (below_new _ _)
      have HBw : Hid (W1.heap[wr.heap.size]? = some (.cells #[.int .i64 xf, .int .i64 xp, .string xd] 129 (0, 0))) := by rw [hW1]; exact new_at _ _ _
      rw [← hW1]
      clear hW1
      obtain ⟨bw, hbw⟩ : ∃ bw, bw = wr.heap.size := ⟨_, rfl⟩
      have HBL : Hid (w.heap.size < bw) := by rw [hbw]; exact HWL.out
      rw [← hbw] at HBw ⊢
      clear hbw k1 k2 k3 k4 k5
      go_loopw [10] (fun vj wx => ∃ j : Nat, j ≤ n ∧ vj = .int .i64 j ∧ Hid (CrB lo w r D κ w.heap.size i j wx) ∧ Hid (wx.heap[bw]? = some (.cells #[.int .i64 xf, .int .i64 xp, .string xd] 129 (0, 0)))) (fun vj _ => n - (RowKit.intOf vj).toNat)
      case atStart => exact ⟨0, Nat.zero_le _, rfl, HB0.out, HBw.out⟩
      case round =>
       clear HB0 HBw
       obtain ⟨j, hj, rfl, HJ, HBx⟩ := hrel
       by_cases hjn : j < n
       ·obtain ⟨f, hf⟩ : ∃ f, D.fs[j]? = some f := ⟨_, List.getElem?_eq_getElem (by rw [← HN.out]; exact hjn)⟩
        obtain ⟨gf, hgf⟩ := HFA.out j hjn
        have hlv := HLV.out
        rw [hgf] at hlv
        obtain ⟨q0, q1, ⟨bb, q2⟩, q3, q4, HX9⟩ := HJ.out.facts hlv HR.out hf
        rw [← HN.out] at q0
        have x0 : wr.cell? ⟨bw, 0, none⟩ = some (.int .i64 xf) := by rw [cell_at HBx.out]; rfl
        have hidf := (HFS.out f (List.mem_of_getElem? hf)).1
        have c1 : decide ((j : Int) < (n : Int)) = true := decide_eq_true (by omega)
        have c1' : decide (j < n) = true := decide_eq_true hjn
        have t0 : (0 : Int) ≤ (j : Int) := by omega
        have t1 : (j : Int) < (n : Int) := by omega
        have HF := Lib.hid hf
        have HX8 := Lib.hid HX9
        have HLV2 := Lib.hid hlv
        obtain ⟨fid, hfid⟩ : ∃ fid, fid = f.id := ⟨_, rfl⟩
        have HID := Lib.hid hfid
        rw [← hfid] at q1 hidf
        clear hf HX9 hlv hgf hfid
        by_cases hne : fid = xf
        ·have e1 : ((fid : Int) != (xf : Int)) = false := by simp [hne]
         have HNE := Lib.hid hne
         clear hne
         go_wp2
         go_quiet (fail)
         go_upto_region 21 with fail
         have HJ2 : Hid (CrB lo w r D κ w.heap.size i j (wr.drewN nq)) := HJ.out.below (below_drewN _ _)
         have hS2 := safe_size HKL.out (fun x hx => ⟨(HW.out x hx).1, (HW.out x hx).2.1⟩) (f := f) ⟨(HFS.out f (List.mem_of_getElem? HF.out)).2, (HR.out.long f (List.mem_of_getElem? HF.out)).2⟩ i (by rw [← HM.out]; exact hi)
         have hmine := HJ2.out.mine HR.out HX.out (by rw [← HQ.out]; omega) HF.out (by show xf = f.id; rw [← HID.out]; exact HNE.out.symm) (by rw [HLV2.out]; rfl)
         obtain ⟨-, -, -, -, -, hX8⟩ := HJ2.out.facts HLV2.out HR.out HF.out
         have hbx : ((wr.drewN nq).setCell ⟨w.heap.size, j, none⟩ (.bool true)).heap[bw]? = some (.cells #[.int .i64 xf, .int .i64 xp, .string xd] 129 (0, 0)) := by
          rw [Below.heap_setCell _ _ _ _ (fun e => by have := HBL.out; have e' : bw = w.heap.size := e; omega), (below_drewN wr nq).block _ (lt_of_block HBx.out)]
          exact HBx.out
         have hwl : wr.heap.size ≤ ((wr.drewN nq).setCell ⟨w.heap.size, j, none⟩ (.bool true)).heap.size := by
          have h1 := (below_drewN wr nq).size
          have h2 : ((wr.drewN nq).setCell ⟨w.heap.size, j, none⟩ (.bool true)).heap.size = (wr.drewN nq).heap.size := by simp [World.setCell]
          omega
         generalize hX1 : (wr.drewN nq).setCell ⟨w.heap.size, j, none⟩ (.bool true) = X1 at *
         have HWl := Lib.hid hwl
         clear hX1 hwl q0 q1 q2 q3 q4 HX8
         obtain ⟨S, hS⟩ : ∃ S, S = safeT κ D.ws i f := ⟨_, rfl⟩
         rw [← hS] at hmine hX8 hS2
         have HS2 := Lib.hid hS2
         rw [← HN.out] at hX8
         have HX1 := Lib.hid hX8
         have HMine := Lib.hid hmine
         have HBX := Lib.hid hbx
         have hsl := hS2.2
         obtain ⟨a3, c3, r0, r3, -, r4, r5, r6, r7⟩ := hX8 X1 (Below.refl _ _)
         have HR6 := Lib.hid r6
         have HR7 := Lib.hid r7
         have HZr : Hid (∀ W, Calls Tryz.prog 86 #[.int .i64 256] W fun e w' => e = .returned (.string zeros) ∧ Below W.heap.size W w') := fun W => rZeros4 W 256 (by decide)
         clear r6 r7 hS2 hX8 hmine hbx hS x0 e1
         go_wp2_with (at_builtin; refine wpList_app rfl _ _ 99 rfl X1.heap.size 9 i1 (.string ⟨#[]⟩) 1 16 Tryz.underlying99 hi1 hy0' hy1 hy2 rfl (by decide) (.slice none 0 0) 0 [] rfl (World.ownsRow_nil _ _ _ _) a3 S.length c3 (S.map Value.string) rfl (by simp) HR6.out HR7.out (strs_one S) (by unfold maxLen; omega) (by omega) (Nat.le_refl _) ?_; intro p1 s1 X2 hown2 hgrow2 hat2; have HB2 : Hid (Below X1.heap.size X1 X2) := Fr.below (fr_grown hgrow2 (by intro k hk; cases hk)); have HO2 : Hid (X2.ownsRow X1.heap.size 9 1 (.slice p1 (0 + S.length : Nat) s1) (0 + S.length) ([] ++ S.map Value.string)) := hown2; clear hown2 hgrow2 hat2)
         go_loopg [11] (xp + 1) (fun q9 v wy => ∃ l : List ByteArray, xp + 1 - l.length ≤ q9 ∧ l.length ≤ 4001 ∧ (∃ p s, v = .slice p l.length s) ∧ Hid (l = S ++ List.replicate (l.length - S.length) zeros ∧ S.length ≤ l.length ∧ (l.length = S.length ∨ l.length ≤ xp + 1)) ∧ Hid (Below X1.heap.size X1 wy) ∧ Hid (wy.ownsRow X1.heap.size 9 1 v l.length (l.map Value.string)))
         case atStart =>
          refine ⟨S, by omega, hsl, ⟨p1, s1, by simp⟩, ⟨by simp, Nat.le_refl _, .inl rfl⟩, HB2.out, ?_⟩
          have h9 := HO2.out
          rw [Nat.zero_add, List.nil_append] at h9
          exact h9
         case round =>
          clear HB2 HO2 r0 r3
          obtain ⟨l, hgr, hl4, ⟨p3, s3, rfl⟩, HL3, HBy, HOy⟩ := hrel
          have x1 : wr.cell? ⟨bw, 1, none⟩ = some (.int .i64 xp) := by rw [cell_at (old_below HBX.out HBy.out)]; rfl
          by_cases hlx : l.length ≤ xp
          ·have d1 : decide ((l.length : Int) ≤ (xp : Int)) = true := decide_eq_true (by omega)
           have d1' : decide (l.length ≤ xp) = true := decide_eq_true hlx
           go_wp2_with (first
            | (go_at_call 86; (with_reducible refine (HZr.out _).mono ?_); rintro e w3 ⟨rfl, hb3⟩; have HB3 : Hid (Below X1.heap.size X1 (w3.alloc (.cells #[.string zeros] 9))) := thenBelow (thenBelow HBy.out hb3) (below_new _ _); have HO3 : Hid ((w3.alloc (.cells #[.string zeros] 9)).ownsRow X1.heap.size 9 1 (.slice p3 l.length s3) l.length (l.map Value.string)) := own_keep (own_keep HOy.out hb3) (below_new _ _); clear hb3)
            | (at_builtin; refine wpList_app rfl _ _ 99 rfl X1.heap.size 9 i1 (.string ⟨#[]⟩) 1 16 Tryz.underlying99 hi1 hy0' hy1 hy2 rfl (by decide) (.slice p3 l.length s3) l.length (l.map Value.string) rfl HO3.out (some ⟨w3.heap.size, 0, none⟩) 1 1 [.string zeros] rfl rfl (by intro A hA; cases hA; exact cell_one_new _ _ _) (by intro q; cases q) (by intro u hu; simp at hu; subst hu; rfl) (by unfold maxLen; omega) (by omega) HB3.out.size ?_; intro p4 s4 w4 hown4 hgrow4 hat4; have HB4 : Hid (Below X1.heap.size X1 w4) := Fr.new HB3.out (fr_grown (S := fun q => (Value.slice p3 l.length s3).ownBlock = some q) hgrow4 (fun q e => e)) (fun q e => (owned_at HO3.out e).1); have HO4 : Hid (w4.ownsRow X1.heap.size 9 1 (.slice p4 (l.length + 1) s4) (l.length + 1) (l.map Value.string ++ [.string zeros])) := hown4; clear hown4 hgrow4 hat4))
           go_roundg (xp + 1 - (l.length + 1))
           case measure => omega
           case rel =>
            have hl3 := HL3.out
            have e9 : l ++ [zeros] = S ++ List.replicate ((l ++ [zeros]).length - S.length) zeros := by
             have e8 : (l ++ [zeros]).length - S.length = (l.length - S.length) + 1 := by simp; omega
             rw [e8, List.replicate_succ', ← List.append_assoc, ← hl3.1]
            refine ⟨l ++ [zeros], by simp, by simp; omega, ⟨p4, s4, by simp⟩, ⟨e9, by simp; omega, .inr (by simp; omega)⟩, HB4.out, ?_⟩
            have h9 := HO4.out
            rw [show (l ++ [zeros]).length = l.length + 1 by simp, List.map_append]
            exact h9
          ·have d1 : decide ((l.length : Int) ≤ (xp : Int)) = false := decide_eq_false (by omega)
           have d1' : decide (l.length ≤ xp) = false := decide_eq_false hlx
           obtain ⟨gs, cs, hvs, hcs, hgs1, hgs2⟩ := owns_form HOy.out (by omega)
           obtain ⟨rfl, rfl⟩ : p3 = some ⟨gs, 0, none⟩ ∧ s3 = cs := by simpa using hvs
           obtain ⟨t, ht⟩ : ∃ t, l[xp]? = some t := ⟨_, List.getElem?_eq_getElem (by omega)⟩
           have x2 : wr.cell? ⟨bw, 2, none⟩ = some (.string xd) := by rw [cell_at (old_below HBX.out HBy.out)]; rfl
           have x3 : wr.cell? ⟨gs, xp, none⟩ = some (.string t) := by
            have h9 := HOy.out.cells (show (Value.slice (some ⟨gs, 0, none⟩) l.length s3).ownBlock = some gs from rfl) xp (.string t) (by rw [List.getElem?_map, ht]; rfl)
            rwa [Go.WideShapes.add_plain, Nat.zero_add] at h9
           have x4 : wr.frozen? ⟨gs, xp, none⟩ = false := by
            obtain ⟨_, cur, e9⟩ := owned_at HOy.out (show (Value.slice (some ⟨gs, 0, none⟩) l.length s3).ownBlock = some gs from rfl)
            exact free_at e9 xp
           have htz : t.size = 256 := by
            have h9 := List.mem_of_getElem? ht
            rw [HL3.out.1] at h9
            rcases List.mem_append.1 h9 with h9 | h9
            ·exact HS2.out.1 t h9
            ·rw [List.eq_of_mem_replicate h9]; exact zeros_size
           have hdz := HXW.out.2.1
           have y1 : q ≤ xd.size := by omega
           have y2 : q ≤ t.size := by omega
           have y3 : ¬ 9223372036854775807 < t.size := by omega
           have g0 : (0 : Int) ≤ (xp : Int) := by omega
           have g1 : (xp : Int) < (l.length : Int) := by omega
           have HT := Lib.hid ht
           clear hvs ht htz hdz
           go_wp2
           go_region
           generalize hY : World.drew (World.setCell wr ⟨gs, xp, none⟩ _) = Y
           have hY2 : (wr.setCell ⟨gs, xp, none⟩ (.string (torn q xd t))).drew = Y := hY
           have hoY : Only gs wr Y := by rw [← hY2]; exact ((Only.refl gs wr).setCell _ _).drew
           have hBY : Below X1.heap.size X1 Y := Only.new HBy.out hoY hgs1
           have hOY : Y.ownsRow X1.heap.size 9 1 (.slice (some ⟨gs, 0, none⟩) l.length s3) l.length ((l.set xp (torn q xd t)).map Value.string) := by rw [← hY2]; exact own_put HOy.out xp _
           obtain ⟨e7, e8⟩ := pad_is HL3.out.1 HL3.out.2.1 HL3.out.2.2 (by omega) HT.out (torn q xd t)
           obtain ⟨a4, c4, z0, z3, zf, -⟩ := HX1.out Y hBY
           have hgl : gf < w.heap.size := (HR.out.own_lt (.inr (.inl (by rw [HLV2.out]; rfl)))).2
           have HBY := Lib.hid hBY
           have HGL := Lib.hid hgl
           have HEnd : Hid (CrB lo w r D κ w.heap.size i (j + 1) (Y.setCell ⟨gf, j * 6 + 3, none⟩ (.slice (some ⟨gs, 0, none⟩) l.length s3))) := by
            have h9 := HMine.out Y (.slice (some ⟨gs, 0, none⟩) l.length s3) hBY
            rw [← HQ.out] at h9
            have e6 : setPad S xp (torn q xd (S.getD xp zeros)) = l.set xp (torn q xd t) := by rw [e8, e7]
            have h8 := h9 (by show Txt Y _ (setPad S xp (torn q xd (S.getD xp zeros))); rw [e6]; exact owns_txt (by rw [List.length_set]) hOY) (by show (setPad S xp (torn q xd (S.getD xp zeros))).length ≤ 4001; rw [e6, List.length_set]; exact hl4)
             (fun k hk => by obtain rfl : gs = k := by simpa [Value.ownBlock] using hk
                             exact Nat.le_trans HWl.out hgs1)
            exact h8
           have HLl : Hid (l.length = l.length) := rfl
           generalize l.length = ln at *
           clear hY hY2 hoY hBY hOY e7 e8 x1 x2 x3 x4 hgl
           go_wp2
           go_roundw
           case rel =>
            refine ⟨j + 1, by omega, by go_num, HEnd.out, ?_⟩
            rw [Below.heap_setCell _ _ _ _ (fun e => by have := HGL.out; have := HBL.out; have e' : bw = gf := e; omega)]
            exact old_below HBX.out HBY.out
           case measure => simp [RowKit.intOf]; omega
        ·have e1 : ((fid : Int) != (xf : Int)) = true := by rw [bne_iff_ne]; omega
         have HNE := Lib.hid hne
         clear hne
         go_wp2
         go_quiet (fail)
         go_wp2
         go_roundw
         case rel =>
          refine ⟨j + 1, by omega, by go_num, HJ.out.other HX.out HF.out (fun e => HNE.out (by rw [HID.out]; exact e.symm)) (below_drewN _ _), ?_⟩
          rw [(below_drewN wr _).block _ (lt_of_block HBx.out)]
          exact HBx.out
         case measure => simp [RowKit.intOf]; omega
       ·obtain rfl : j = n := by omega
        have c1 : decide ((j : Int) < (j : Int)) = false := decide_eq_false (by omega)
        have hd0 : wr.cell? ⟨r, 0, none⟩ = some (.slice fa j fc) := by
         obtain ⟨E9, bs9, h9⟩ := HJ.out
         have h8 := h9.st.at'.cell 0
         have h7 : E9.lv = .slice fa D.fs.length fc := by rw [h9.mid.lv]; exact HLV.out
         rw [HN.out, ← h7]; exact h8
        go_wp2
        go_roundw
        case rel => exact ⟨i + 1, by omega, by go_num, by rw [HL2.out] <;> first | rfl | go_num, HJ.out.done (by rw [HN.out]; exact Nat.le_refl _)⟩
        case measure => simp [RowKit.intOf]; omega
    -- /INNER
   ·have b2 : decide ((i : Int) < (ks.length : Int)) = false := decide_eq_false (by omega)
    have b2' : decide (i < ks.length) = false := decide_eq_false hik
    have hq : κ i = 0 := by rw [HKA.out]; exact clamp_none (by omega)
    have HQ := Lib.hid hq
    clear hq
    go_wp2
    go_roundw
    case rel => exact ⟨i + 1, by omega, by go_num, by rw [HLN.out, if_pos (by rw [HQ.out]; decide)]; go_num, HC.out.zero HX.out HQ.out (below_new _ _)⟩
    case measure => simp [RowKit.intOf]; omega
  ·obtain rfl : i = m := by omega
   obtain ⟨E, bs, hc⟩ := HC.out
   have hGr := hc.rows (κ := κ) HLV.out
   rw [← HN.out] at hGr
   have HG := Lib.hid hGr
   have hfin : CrI lo w r D w.heap.size wr E bs (fun _ f => safeT κ D.ws D.ws.length f) (fun _ f => keptT κ D.ws D.ws.length f) := by rw [← HM.out]; exact hc
   have HE := Lib.hid (fun W hb u ho => hfin.done (W := W) hb (u := u) ho)
   have hel : E.fs.length = n := by rw [HN.out]; exact hc.mid.len
   have hbl : bs.length = n := by rw [HN.out]; exact hc.len
   obtain ⟨r0, -, -, -, -⟩ := hGr wr (Below.refl _ _)
   have b1 : decide ((i : Int) < (i : Int)) = false := decide_eq_false (by omega)
   have HKb : Hid (w.heap.size < wr.heap.size) := lt_of_block hc.row
   have HLo : Hid (D.lost (kapM ks) = lostTo κ i) := by rw [HM.out, ← HKA.out]; exact rfl
   obtain ⟨z, hz⟩ : ∃ z, z = lostTo κ i := ⟨_, rfl⟩
   rw [← hz] at HLo hll ⊢
   clear hGr hfin hc kx hz HC HFr HA HST HW HFS
   generalize wr = Wz at *
   go_wp2
   go_loopw [12, 13] (fun vL vj wy => ∃ j : Nat, j ≤ n ∧ vj = .int .i64 j ∧ (∃ p q, vL = .slice p (leftL (E.fs.take j) (bs.take j)).length q) ∧ Hid (Below Wz.heap.size Wz wy) ∧ Hid (wy.ownsRow Wz.heap.size 101 6 vL (leftL (E.fs.take j) (bs.take j)).length ((leftL (E.fs.take j) (bs.take j)).flatMap MF.cells))) (fun vL vj _ => n - (RowKit.intOf vj).toNat)
   case atStart => exact ⟨0, Nat.zero_le _, rfl, ⟨none, 0, rfl⟩, Below.refl _ _, World.ownsRow_nil _ _ _ _⟩
   case round =>
    clear r0 k1
    obtain ⟨j, hj, rfl, ⟨pL, qL, rfl⟩, HB, HO⟩ := hrel
    obtain ⟨r0, rf0, rf1, ⟨u1, r1⟩, hrow⟩ := HG.out wr HB.out
    obtain ⟨L, hL⟩ : ∃ L, L = leftL (E.fs.take j) (bs.take j) := ⟨_, rfl⟩
    have hLl : L.length ≤ j := by rw [hL]; exact Nat.le_trans (left_len _ _) (by rw [List.length_take]; omega)
    have HLL := Lib.hid hL
    rw [← hL] at HO ⊢
    clear hL
    by_cases hjn : j < n
    ·have c1 : decide ((j : Int) < (n : Int)) = true := decide_eq_true (by omega)
     have c1' : decide (j < n) = true := decide_eq_true hjn
     have t0 : (0 : Int) ≤ (j : Int) := by omega
     have t1 : (j : Int) < (n : Int) := by omega
     obtain ⟨f, hf⟩ : ∃ f, E.fs[j]? = some f := ⟨_, List.getElem?_eq_getElem (by omega)⟩
     obtain ⟨g, b, a2, c2, a3, c3, rfl, hb, s1, s2, q0, q1, q2, q3, q4, q5, q6⟩ := hrow j f hf
     have hsn : leftL (E.fs.take (j + 1)) (bs.take (j + 1)) = L ++ if (f.made || b) = true then [f.lft] else [] := by
      rw [HLL.out, List.take_add_one, List.take_add_one, hf, hb]
      exact left_snoc (by rw [List.length_take, List.length_take]; omega)
     have HSN := Lib.hid hsn
     obtain ⟨nm, id, nw, sf, md, nv, sv⟩ := f
     simp only at s1 s2 q1 q2 q3 q4 q5
     subst s1 s2
     clear hf hb hsn hrow
     generalize nw.length = ln at *
     generalize sf.length = ls at *
     cases md with
     | true =>
      have HL6 : Hid ((L.flatMap MF.cells).length = L.length * 6) := flat_length MF.six L
      have HL1 : Hid (leftL (E.fs.take (j + 1)) (bs.take (j + 1)) = L ++ [MF.mk nm id sf sf true (.slice a3 ls c3) (.slice a3 ls c3)]) := by rw [HSN.out]; rfl
      have hnL : L.length ≤ 60 := by omega
      go_wp2_with (at_builtin; refine wpList_app rfl _ _ 27 rfl Wz.heap.size 101 i2 z2 6 80 Tryz.underlying27 hi2 hz20 hz21 hz22 HZ2.out (by decide) (.slice pL L.length qL) L.length (L.flatMap MF.cells) rfl (own_keep (own_keep HO.out (below_new _ _)) (below_new _ _)) _ 1 1 [.string nm, .int .i64 id, .slice a3 ls c3, .slice a3 ls c3, .bool true, .bool false] rfl rfl ?c1 ?c2 ?c3 (by unfold maxLen; omega) (by omega) ?c4 ?_)
      first | (case c1 => intro A hA; cases hA; exact cells6_new _ _ _ _ _ _ _ _) | skip
      first | (case c2 => intro q; cases q) | skip
      first | (case c3 => repeat' (first | rfl | apply And.intro)) | skip
      first | (case c4 => have := HB.out.size; omega) | skip
      intro p4 s4 w4 hown4 hgrow4 hat4
      have HB4 : Hid (Below Wz.heap.size Wz w4) := Fr.new (thenBelow (thenBelow HB.out (below_new _ _)) (below_new _ _)) (fr_grown (S := fun q => (Value.slice pL L.length qL).ownBlock = some q) hgrow4 (fun q e => e)) (fun q e => (owned_at HO.out e).1)
      have HO4 : Hid (w4.ownsRow Wz.heap.size 101 6 (.slice p4 (L.length + 1) s4) (L.length + 1) (L.flatMap MF.cells ++ [.string nm, .int .i64 id, .slice a3 ls c3, .slice a3 ls c3, .bool true, .bool false])) := hown4
      clear hown4 hgrow4 hat4
      go_wp2
      go_roundw
      case rel =>
       refine ⟨j + 1, by omega, by go_num, ⟨p4, s4, by rw [HL1.out, List.length_append]; simp⟩, HB4.out, ?_⟩
       rw [HL1.out, List.length_append, List.flatMap_append]
       exact HO4.out
      case measure => simp [RowKit.intOf]; omega
     | false =>
      have q0' : (wr.alloc (.cells #[.string nm, .int .i64 id, .slice a2 ln c2, .slice a3 ls c3, .bool false, .bool false] 101)).cell? ⟨w.heap.size, j, none⟩ = some (.bool b) := by rw [(heap_ext ((below_new wr _).block _ (Nat.lt_of_lt_of_le HKb.out HB.out.size)) j).1]; exact q0
      have hkb : w.heap.size < wr.heap.size := Nat.lt_of_lt_of_le HKb.out HB.out.size
      cases b with
      | true =>
       have HL6 : Hid ((L.flatMap MF.cells).length = L.length * 6) := flat_length MF.six L
       have HL1 : Hid (leftL (E.fs.take (j + 1)) (bs.take (j + 1)) = L ++ [MF.mk nm id sf sf true (.slice a3 ls c3) (.slice a3 ls c3)]) := by rw [HSN.out]; rfl
       have hnL : L.length ≤ 60 := by omega
       go_wp2_with (at_builtin; refine wpList_app rfl _ _ 27 rfl Wz.heap.size 101 i2 z2 6 80 Tryz.underlying27 hi2 hz20 hz21 hz22 HZ2.out (by decide) (.slice pL L.length qL) L.length (L.flatMap MF.cells) rfl (own_keep (own_keep HO.out (below_new _ _)) (below_new _ _)) _ 1 1 [.string nm, .int .i64 id, .slice a3 ls c3, .slice a3 ls c3, .bool true, .bool false] rfl rfl ?c1 ?c2 ?c3 (by unfold maxLen; omega) (by omega) ?c4 ?_)
       first | (case c1 => intro A hA; cases hA; exact cells6_new _ _ _ _ _ _ _ _) | skip
       first | (case c2 => intro q; cases q) | skip
       first | (case c3 => repeat' (first | rfl | apply And.intro)) | skip
       first | (case c4 => have := HB.out.size; omega) | skip
       intro p4 s4 w4 hown4 hgrow4 hat4
       have HB4 : Hid (Below Wz.heap.size Wz w4) := Fr.new (thenBelow (thenBelow HB.out (below_new _ _)) (below_new _ _)) (fr_grown (S := fun q => (Value.slice pL L.length qL).ownBlock = some q) hgrow4 (fun q e => e)) (fun q e => (owned_at HO.out e).1)
       have HO4 : Hid (w4.ownsRow Wz.heap.size 101 6 (.slice p4 (L.length + 1) s4) (L.length + 1) (L.flatMap MF.cells ++ [.string nm, .int .i64 id, .slice a3 ls c3, .slice a3 ls c3, .bool true, .bool false])) := hown4
       clear hown4 hgrow4 hat4
       go_wp2
       go_roundw
       case rel =>
        refine ⟨j + 1, by omega, by go_num, ⟨p4, s4, by rw [HL1.out, List.length_append]; simp⟩, HB4.out, ?_⟩
        rw [HL1.out, List.length_append, List.flatMap_append]
        exact HO4.out
       case measure => simp [RowKit.intOf]; omega
      | false =>
       have HL1 : Hid (leftL (E.fs.take (j + 1)) (bs.take (j + 1)) = L) := by rw [HSN.out]; exact List.append_nil _
       go_wp2
       go_roundw
       case rel => exact ⟨j + 1, by omega, by go_num, ⟨pL, qL, by rw [HL1.out]⟩, thenBelow HB.out (below_new _ _), by rw [HL1.out]; exact own_keep HO.out (below_new _ _)⟩
       case measure => simp [RowKit.intOf]; omega
    ·obtain rfl : j = n := by omega
     have c1 : decide ((j : Int) < (j : Int)) = false := decide_eq_false (by omega)
     have hLE : L = leftL E.fs bs := by rw [HLL.out, List.take_of_length_le (by omega), List.take_of_length_le (by omega)]
     have hE := HE.out wr HB.out (.slice pL L.length qL) (by rw [← hLE]; exact HO.out)
     have HEnd : Hid (CrashP lo w r D ks (.returned (.int .i64 z)) ((wr.setCell ⟨r, 0, none⟩ (.slice pL L.length qL)).setCell ⟨r, 1, none⟩ (.slice none 0 0))) := by
      obtain ⟨E9, h1, h2⟩ := hE
      rw [HKA.out] at h2
      exact ⟨E9, by rw [HLo.out], h1, h2⟩
     clear hE hrow hLE
     go_wp2
     go_ret
     exact HEnd.out
end
end Go.Proofs.YtbkngnjkaledlaaGreat.P4
