/-
  The reference's list of free ids: Release. (For any seat that has rootstockref1.Free.)
-/
import Derived.Test.YtoiaamijjcjjiaaF4
namespace Go.Proofs.Ytoiaamijjcjjiaa.P7
open Go Go.RowKit Go.Lib Go.Proofs.Ytoiaamijjcjjiaa.PK

def FM.relL (F : FM) (t : Int) : List Int := F.W.foldl (fun o p => if p.1 < t then putS o p.2 else o) F.L
def relW (t : Int) (W : List (Int × Int)) : List (Int × Int) := W.filter fun p => !decide (p.1 < t)
def relN (t : Int) (W : List (Int × Int)) : Nat := (W.filter fun p => decide (p.1 < t)).length
theorem relW_next {t : Int} {W : List (Int × Int)} {k : Nat} {p : Int × Int} (hp : W[k]? = some p) : relW t (W.take (k + 1)) = relW t (W.take k) ++ if p.1 < t then [] else [p] := by
  unfold relW
  rw [List.take_add_one, hp, List.filter_append]
  by_cases e : p.1 < t <;> simp [e]
theorem relN_next {t : Int} {W : List (Int × Int)} {k : Nat} {p : Int × Int} (hp : W[k]? = some p) : relN t (W.take (k + 1)) = relN t (W.take k) + if p.1 < t then 1 else 0 := by
  unfold relN
  rw [List.take_add_one, hp, List.filter_append, List.length_append]
  by_cases e : p.1 < t <;> simp [e]
theorem relN_le (t : Int) (W : List (Int × Int)) : relN t W ≤ W.length := List.length_filter_le _ _
theorem relW_le (t : Int) (W : List (Int × Int)) : (relW t W).length ≤ W.length := List.length_filter_le _ _
section
variable {w0 w w1 w2 w' : World} {R : List Row} {r : Nat} {F : FM}
/-- another list of free ids -/
theorem FAt.setL {u : Value} {L' : List Int} (h : FAt w0 R r F w) (hb : Below w.heap.size w w1) (hu : (u = F.lv ∧ L' = F.L) ∨ (iRow u L').At w1 w.heap.size) (hl : L'.length ≤ 10000) :
    w1.cell? ⟨r, 1, none⟩ = some F.lv ∧ w1.frozen? ⟨r, 1, none⟩ = false ∧ FAt w0 R r { F with lv := u, L := L' } (w1.setCell ⟨r, 1, none⟩ u) := by
  have h1 := h.over hb
  refine ⟨(h1.cell 1).trans rfl, free_at h1.blk 1, ?_, hl, h.few2⟩
  have hrows : Rws w0 ([] ++ (bl r F.cells 35 :: (iRow u L' :: wRow F.wv F.W :: R))) w1 := by
    rcases hu with ⟨rfl, rfl⟩ | hu
    · exact h1.rows
    · have h2 : Rws w0 (iRow u L' :: (F.rows r ++ R)) w1 := h.rows.add hb hu
      have h3 : (iRow u L' :: (bl r F.cells 35 :: wRow F.wv F.W :: R)).Sublist (iRow u L' :: (F.rows r ++ R)) := by
        refine List.Sublist.cons_cons _ ?_
        show (bl r F.cells 35 :: (wRow F.wv F.W :: R)).Sublist (bl r F.cells 35 :: (iRow F.lv F.L :: (wRow F.wv F.W :: R)))
        exact List.Sublist.cons_cons _ (List.sublist_cons_self _ _)
      exact (h2.sub h3).perm (List.Perm.swap _ _ _)
  have h3 := hrows.set (g := r) rfl 1 u (by show 1 < 3 * 1; decide)
  rw [bl_set] at h3
  exact h3
/-- a row beside has grown -/
theorem FAt.growR {v v' : Value} {ls : List (Int × Int)} {x : Int × Int} (h : FAt w0 (wRow v ls :: R) r F w) (hb : Below w.heap.size w w1) (hO : w2.ownsRow w0.heap.size 77 2 v' (ls.length + 1) (ls.flatMap wcells ++ wcells x)) (hg : w1.grownBy w2 v.ownBlock)
    (hat : v'.ownBlock = v.ownBlock ∨ v'.ownBlock = some w1.heap.size) : FAt w0 (wRow v' (ls ++ [x]) :: R) r F w2 := by
  refine ⟨?_, h.few, h.few2⟩
  have h2 := (h.over hb).rows.grown hg hO (by
    rcases hat with e | e
    · exact .inl e
    · exact .inr fun g hg2 => by rw [e] at hg2; cases hg2; exact Nat.le_refl _)
  have e2 : (⟨v', (wRow v ls).e, (wRow v ls).size, ls.length + 1, ls.flatMap wcells ++ wcells x⟩ : Row) = wRow v' (ls ++ [x]) := by unfold wRow; simp
  rw [e2] at h2
  exact h2
/-- .. and takes the place of those that wait -/
theorem FAt.setW {v : Value} {ls : List (Int × Int)} (h : FAt w0 (wRow v ls :: R) r F w) (hl : ls.length ≤ 10000) :
    w.cell? ⟨r, 2, none⟩ = some F.wv ∧ w.frozen? ⟨r, 2, none⟩ = false ∧ FAt w0 R r { F with wv := v, W := ls } (w.setCell ⟨r, 2, none⟩ v) := by
  refine ⟨(h.cell 2).trans rfl, free_at h.blk 2, ?_, h.few, hl⟩
  have h1 := h.rows
  have hrows : Rws w0 ([] ++ (bl r F.cells 35 :: (iRow F.lv F.L :: wRow v ls :: R))) w := by
    refine h1.sub ?_
    show (bl r F.cells 35 :: (iRow F.lv F.L :: wRow v ls :: R)).Sublist (bl r F.cells 35 :: (iRow F.lv F.L :: (wRow F.wv F.W :: (wRow v ls :: R))))
    exact List.Sublist.cons_cons _ (List.Sublist.cons_cons _ (List.sublist_cons_self _ _))
  have h3 := hrows.set (g := r) rfl 2 v (by show 2 < 3 * 1; decide)
  rw [bl_set] at h3
  exact h3
theorem FAt.with_ (h : FAt w0 R r F w) (k : Below w.heap.size w w') {x : Row} (hx : x.At w' w.heap.size) : FAt w0 (x :: R) r F w' := by
  refine ⟨?_, h.few, h.few2⟩
  exact (h.rows.add k hx).perm List.perm_middle.symm
set_option maxRecDepth 100000 in
set_option maxHeartbeats 4000000 in
theorem FAt.rel_ (h : FAt w0 R r F w) (t : Int) (hL : F.L.length + F.W.length ≤ 9000) :
    Calls Try.prog 18 #[.pointer (some ⟨r, 0, none⟩), .int .i64 t] w fun e w' => ∃ lv' wv', e = .returned (.int .i64 (relN t F.W : Nat)) ∧ FAt w0 R r { F with lv := lv', wv := wv', L := F.relL t, W := relW t F.W } w' := by
  obtain ⟨i3, hi3, hz30, hz31, hz32⟩ := info_parts infoW7
  obtain ⟨z3, hz3⟩ : ∃ z, z = Value.agg #[.int .i64 0, .int .i64 0] := ⟨_, rfl⟩
  rw [← hz3] at hz30
  have HZ3 : Hid (z3.cells.size = 2) := by rw [hz3]; exact rfl
  clear hz3
  have H := Lib.hid (h.with_ (Below.refl _ _) (x := wRow (.slice none 0 0) []) (World.ownsRow_nil _ _ _ _))
  clear h
  go_enter Try.func18, Try.ntmps18
  go_wp2
  go_loopw [5, 6, 7] (fun vn vo vi wr => ∃ (k : Nat) (G : FM), k ≤ F.W.length ∧ vi = .int .i64 k ∧ vn = .int .i64 (relN t (F.W.take k) : Nat) ∧ Hid (G.L = (F.W.take k).foldl (fun o p => if p.1 < t then putS o p.2 else o) F.L ∧ ∃ lv', G = { F with lv := lv', L := G.L }) ∧ Hid (FAt w0 (wRow vo (relW t (F.W.take k)) :: R) r G wr)) (fun _ _ vi _ => F.W.length - (RowKit.intOf vi).toNat)
  case atStart => exact ⟨0, F, Nat.zero_le _, rfl, rfl, ⟨rfl, F.lv, rfl⟩, H⟩
  case round =>
    clear H
    obtain ⟨k, G, hk, rfl, rfl, HE, HG⟩ := hrel
    obtain ⟨lv0, heq⟩ := HE.out.2
    have hGW : G.W = F.W := by rw [heq]
    have hgr := HG.out
    obtain ⟨wa, wcp, hwv, hwn, hwc⟩ := hgr.wshape
    rw [hGW] at hwv hwn hwc
    obtain ⟨la, lcp, hlv, hln⟩ := hgr.lshape
    have c1 : wr.cell? ⟨r, 1, none⟩ = some (.slice la G.L.length lcp) := (hgr.cell 1).trans (by rw [← hlv]; rfl)
    have c2 : wr.cell? ⟨r, 2, none⟩ = some (.slice wa F.W.length wcp) := (hgr.cell 2).trans (by rw [← hwv]; rfl)
    have hnle := relN_le t (F.W.take k)
    rw [List.length_take] at hnle
    have hGL : G.L.length ≤ F.L.length + k := by
      have h1 := fold_len (fun o p => if p.1 < t then putS o p.2 else o) (fun o p => by
        show (if p.1 < t then putS o p.2 else o).length ≤ _
        split
        · exact put_len o p.2
        · omega) (F.W.take k) F.L
      rw [← HE.out.1, List.length_take] at h1
      omega
    have hwle := relW_le t (F.W.take k)
    rw [List.length_take] at hwle
    by_cases hlt : k < F.W.length
    · obtain ⟨x, hx⟩ : ∃ x, F.W[k]? = some x := ⟨_, List.getElem?_eq_getElem hlt⟩
      obtain ⟨g, rfl, d0, d1⟩ := hwc wr hgr k x hx
      have HN := Lib.hid (fold_next (fun o p => if p.1 < t then putS o p.2 else o) hx F.L)
      have HW := Lib.hid (relW_next (t := t) hx)
      have HM := Lib.hid (relN_next (t := t) hx)
      have b0 : (0 : Int) ≤ (k : Int) := by omega
      have b1 : (k : Int) < (F.W.length : Int) := by omega
      have HEs := Lib.hid (show G.wv = F.wv ∧ G.pages = F.pages ∧ G.W = F.W from ⟨by rw [heq], by rw [heq], hGW⟩)
      have HX := Lib.hid hx
      clear hx heq
      by_cases e : x.1 < t
      · have e1 : decide (x.1 < t) = true := decide_eq_true e
        have HP := Lib.hid (put_any wr w0.heap.size (.slice la G.L.length lcp) G.L x.2 (by rw [← hlv]; exact hgr.lrow) (by omega))
        have HPd := Lib.hid (put_any wr.drew w0.heap.size (.slice la G.L.length lcp) G.L x.2 (by rw [← hlv]; exact (hgr.over (Below.refl _ _).drew).lrow) (by omega))
        have HS := Lib.hid (fun (w1 : World) (u : Value) (hb : Below wr.heap.size wr w1) (hu : (u = .slice la G.L.length lcp ∧ putS G.L x.2 = G.L) ∨ (iRow u (putS G.L x.2)).At w1 wr.heap.size) => hgr.setL hb (u := u) (L' := putS G.L x.2) (by rw [hlv]; exact hu) (by have := put_len G.L x.2; omega))
        rw [hlv] at HS
        have HN2 : Hid ((F.W.take (k + 1)).foldl (fun o p => if p.1 < t then putS o p.2 else o) F.L = putS G.L x.2) := by show _ = _; rw [HN.out, ← HE.out.1, if_pos e]
        have HW2 : Hid (relW t (F.W.take (k + 1)) = relW t (F.W.take k)) := by show _ = _; rw [HW.out, if_pos e, List.append_nil]
        have HM2 : Hid (relN t (F.W.take (k + 1)) = relN t (F.W.take k) + 1) := by show _ = _; rw [HM.out, if_pos e]
        have HKs := Lib.hid (show ∀ W, Below wr.heap.size wr W → W.cell? ⟨r, 1, none⟩ = some (.slice la G.L.length lcp) ∧ W.cell? ⟨r, 2, none⟩ = some (.slice (some ⟨g, 0, none⟩) F.W.length wcp) ∧ W.cell? ⟨g, k * 2 + 1, none⟩ = some (.int .i64 x.2) from fun W hW => by
          have h9 := hgr.over hW
          obtain ⟨g9, e9, _, q9⟩ := hwc W h9 k x HX.out
          obtain rfl : g = g9 := by simpa using e9
          exact ⟨(h9.cell 1).trans (by rw [← hlv]; rfl), (h9.cell 2).trans (by rw [← hwv]; rfl), q9⟩)
        clear e hwc hgr
        go_upto_region 7 with fail
        go_region_law (first
          | (go_simp; go_at_call 37; (first | (with_reducible refine HP.out.mono ?_) | (with_reducible refine HPd.out.mono ?_)); rintro e w3 ⟨u, rfl, hu, hb⟩; obtain ⟨up, un, uc, hue⟩ : ∃ p n c, u = Value.slice p n c := (by rcases hu with ⟨e9, _⟩ | hu9; exact ⟨_, _, _, e9⟩; exact owns_shape (iRow_owns.1 hu9)); have hb2 := (show Below wr.heap.size wr w3 from (by first | exact hb | exact thenBelow ((Below.refl _ _).drew) hb)); obtain ⟨k1, k2, hQ⟩ := HS.out w3 u hb2 hu; subst hue; have HQ := Lib.hid hQ; clear hQ hu hb hb2))
        all_goals
          go_wp2
          go_roundw
          case rel => exact ⟨k + 1, { G with lv := Value.slice up un uc, L := putS G.L x.2 }, by omega, by go_num, by rw [HM2.out]; go_num, ⟨HN2.out.symm, _, by rw [HEs.out.1, HEs.out.2.1, HEs.out.2.2]⟩, by rw [HW2.out]; exact HQ⟩
          case measure => simp [RowKit.intOf]; omega
      · have e1 : decide (x.1 < t) = false := decide_eq_false e
        have HN2 : Hid ((F.W.take (k + 1)).foldl (fun o p => if p.1 < t then putS o p.2 else o) F.L = G.L) := by show _ = _; rw [HN.out, ← HE.out.1, if_neg e]
        have HW2 : Hid (relW t (F.W.take (k + 1)) = relW t (F.W.take k) ++ [x]) := by show _ = _; rw [HW.out, if_neg e]
        have HM2 : Hid (relN t (F.W.take (k + 1)) = relN t (F.W.take k)) := by show _ = _; rw [HM.out, if_neg e, Nat.add_zero]
        have hown := hgr.rows.own (wRow u6 (relW t (F.W.take k))) (by simp)
        have HwR := Lib.hid (show (wr.alloc (.cells #[.int .i64 x.1, .int .i64 x.2] 77)).ownsRow w0.heap.size 77 2 u6 (relW t (F.W.take k)).length ((relW t (F.W.take k)).flatMap wcells) from owns_below hown (below_new _ _))
        have hN6 := Lib.hid (show ∀ A, some (⟨wr.heap.size, 0, none⟩ : Addr) = some A → ∀ (j : Nat) (u : Value), [.int .i64 x.1, .int .i64 x.2][j]? = some u → (wr.alloc (.cells #[.int .i64 x.1, .int .i64 x.2] 77)).cell? (A.add j) = some u from fun A hA j u hu => by
          cases hA
          exact cells_new wr [.int .i64 x.1, .int .i64 x.2] 77 j u hu)
        have hbase := hgr.rows.below.size
        have hwle2 : (relW t (F.W.take k)).length ≤ 9000 := by omega
        clear e hwc hgr hown
        go_wp2_with (at_builtin; refine wpList_app rfl _ _ 33 rfl w0.heap.size 77 i3 z3 2 16 Try.underlying33 hi3 hz30 hz31 hz32 HZ3.out (by decide) u6 (relW t (F.W.take k)).length ((relW t (F.W.take k)).flatMap wcells) rfl HwR.out (some ⟨wr.heap.size, 0, none⟩) 1 1 [.int .i64 x.1, .int .i64 x.2] rfl rfl hN6.out (by intro q; cases q) (by intro u hu; simp at hu; rcases hu with rfl | rfl <;> rfl) (by unfold maxLen; omega) (by omega) (by simp; omega) ?_; intro p9 s9 w9 hown9 hgrow9 hat9; have HQ := Lib.hid (HG.out.growR (x := x) (below_new wr (.cells #[.int .i64 x.1, .int .i64 x.2] 77)) hown9 hgrow9 hat9); clear hown9 hgrow9 hat9)
        go_roundw
        case rel => exact ⟨k + 1, G, by omega, by go_num, by rw [HM2.out], ⟨HN2.out.symm, HE.out.2⟩, by rw [HW2.out]; exact HQ⟩
        case measure => simp [RowKit.intOf]; omega
    · have hkl : k = F.W.length := by omega
      have hown := hgr.rows.own (wRow u6 (relW t (F.W.take k))) (by simp)
      obtain ⟨up, un, uc, hue⟩ : ∃ p n c, u6 = Value.slice p n c := owns_shape (v := u6) hown
      obtain ⟨k1, k2, hQ⟩ := hgr.setW (by omega)
      rw [hwv] at k1
      have hL2 : G.L = F.relL t := by rw [HE.out.1, hkl, List.take_length]; rfl
      have HQ := Lib.hid (show FAt w0 R r { F with lv := lv0, wv := u6, L := F.relL t, W := relW t F.W } (wr.setCell ⟨r, 2, none⟩ u6) from by
        rw [hkl, List.take_length] at hQ
        rw [heq] at hQ
        rw [← hL2]
        exact hQ)
      have HM := Lib.hid (show relN t (F.W.take k) = relN t F.W from by rw [hkl, List.take_length])
      clear hwc hgr hown hQ heq
      subst hue
      go_wp2
      go_ret
      exact ⟨lv0, _, by rw [← HM.out]; rfl, HQ.out⟩
end

end Go.Proofs.Ytoiaamijjcjjiaa.P7
