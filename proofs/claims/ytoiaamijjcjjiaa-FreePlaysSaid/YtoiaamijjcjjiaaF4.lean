/-
  The reference's list of free ids: Give. (For any seat that has rootstockref1.Free.)
-/
import Derived.Test.YtoiaamijjcjjiaaF3
import Derived.Deep.RegionHeld3
import Derived.Deep.CutRange
namespace Go.Proofs.Ytoiaamijjcjjiaa.P7
open Go Go.RowKit Go.Lib Go.Proofs.Ytoiaamijjcjjiaa.PK

/-- an id is given -/
def FM.ok (F : FM) (W : List (Int × Int)) (id : Int) : Prop := 2 ≤ id ∧ id < F.pages ∧ id ∉ ({ F with W := W } : FM).all
instance (F : FM) (W : List (Int × Int)) (id : Int) : Decidable (F.ok W id) := by unfold FM.ok; infer_instance
def FM.give1 (F : FM) (tx : Int) (W : List (Int × Int)) (id : Int) : List (Int × Int) := if F.ok W id then W ++ [(tx, id)] else W
def FM.give (F : FM) (tx : Int) (ids : List Int) : List (Int × Int) := ids.foldl (F.give1 tx) F.W
theorem give_len (F : FM) (tx : Int) : ∀ (ids : List Int) (W : List (Int × Int)), W.length ≤ (ids.foldl (F.give1 tx) W).length ∧ (ids.foldl (F.give1 tx) W).length ≤ W.length + ids.length
  | [], W => by simp
  | x :: ids, W => by
    have h1 := give_len F tx ids (F.give1 tx W x)
    have h2 : W.length ≤ (F.give1 tx W x).length ∧ (F.give1 tx W x).length ≤ W.length + 1 := by
      unfold FM.give1
      split <;> simp
    simp only [List.foldl_cons, List.length_cons]
    omega
theorem give_next (F : FM) (tx : Int) {ids : List Int} {k : Nat} {x : Int} (hx : ids[k]? = some x) : (ids.take (k + 1)).foldl (F.give1 tx) F.W = F.give1 tx ((ids.take k).foldl (F.give1 tx) F.W) x := by
  rw [List.take_add_one, hx, List.foldl_append]
  rfl
theorem infoW7 : (Try.prog.info? 77).map (fun i => (i.zero, i.size, i.bytes)) = some (some (.agg #[.int .i64 0, .int .i64 0]), 2, 16) := by kernel_rfl
section
variable {w0 w w' : World} {R : List Row} {r : Nat} {F : FM}
/-- one more waits -/
theorem FAt.addW {w1 w2 : World} {v' : Value} {x : Int × Int} (h : FAt w0 R r F w) (hb : Below w.heap.size w w1) (hO : w2.ownsRow w0.heap.size 77 2 v' (F.W.length + 1) (F.W.flatMap wcells ++ wcells x)) (hg : w1.grownBy w2 F.wv.ownBlock)
    (hat : v'.ownBlock = F.wv.ownBlock ∨ v'.ownBlock = some w1.heap.size) (hl : F.W.length < 10000) :
    w2.cell? ⟨r, 2, none⟩ = some F.wv ∧ w2.frozen? ⟨r, 2, none⟩ = false ∧ FAt w0 R r { F with wv := v', W := F.W ++ [x] } (w2.setCell ⟨r, 2, none⟩ v') := by
  have h1 := (h.over hb).rows
  have e1 : F.rows r ++ R = [bl r F.cells 35, iRow F.lv F.L] ++ wRow F.wv F.W :: R := by simp [FM.rows]
  rw [e1] at h1
  have h2 := h1.grown hg hO (by
    rcases hat with e | e
    · exact .inl e
    · exact .inr fun g hg2 => by rw [e] at hg2; cases hg2; exact Nat.le_refl _)
  have e2 : (⟨v', (wRow F.wv F.W).e, (wRow F.wv F.W).size, F.W.length + 1, F.W.flatMap wcells ++ wcells x⟩ : Row) = wRow v' (F.W ++ [x]) := by unfold wRow; simp
  rw [e2] at h2
  have e3 : [bl r F.cells 35, iRow F.lv F.L] ++ wRow v' (F.W ++ [x]) :: R = [] ++ (bl r F.cells 35 :: (iRow F.lv F.L :: wRow v' (F.W ++ [x]) :: R)) := by simp
  rw [e3] at h2
  have hblk := h2.block (b := r) (cs := F.cells) (t := 35) (by simp)
  refine ⟨by rw [cell_at hblk]; rfl, free_at hblk 2, ?_, h.few, by simp; omega⟩
  have h3 := h2.set (g := r) rfl 2 v' (by show 2 < 3 * 1; decide)
  rw [bl_set] at h3
  exact h3
set_option maxRecDepth 100000 in
set_option maxHeartbeats 4000000 in
theorem FAt.give_ (h : FAt w0 R r F w) (tx : Int) (v : Value) (ids : List Int) (hi : IL w0 v ids) (hf : F.W.length + ids.length ≤ 9000) (hL : F.L.length ≤ 9000) :
    Calls Try.prog 16 #[.pointer (some ⟨r, 0, none⟩), .int .i64 tx, v] w fun e w' => ∃ wv', e = .returned (.int .i64 ((F.give tx ids).length - F.W.length : Int)) ∧ FAt w0 R r { F with wv := wv', W := F.give tx ids } w' := by
  obtain ⟨i3, hi3, hz30, hz31, hz32⟩ := info_parts infoW7
  obtain ⟨z3, hz3⟩ : ∃ z, z = Value.agg #[.int .i64 0, .int .i64 0] := ⟨_, rfl⟩
  rw [← hz3] at hz30
  have HZ3 : Hid (z3.cells.size = 2) := by rw [hz3]; exact rfl
  clear hz3
  obtain ⟨ia, ic, rfl, _, hil, hic⟩ := hi
  have HI := Lib.hid (show ∀ W, Below w0.heap.size w0 W → ∀ b off, ia = some ⟨b, off, none⟩ → ∀ k y, ids[k]? = some y → W.cell? ⟨b, off + k, none⟩ = some (.int .i64 y) from fun W hW b off ha k y hy => by
    obtain ⟨b', off', e, hb, hcc⟩ := hic (by have := (List.getElem?_eq_some_iff.1 hy).1; omega)
    rw [ha] at e
    obtain ⟨rfl, rfl⟩ : b = b' ∧ off = off' := by simpa using e
    rw [hW.cell (p := ⟨b, off + k, none⟩) hb]
    exact hcc k y hy)
  have hsome : 0 < ids.length → ∃ b off, ia = some ⟨b, off, none⟩ := fun h0 => by
    obtain ⟨b, off, e, _⟩ := hic h0
    exact ⟨b, off, e⟩
  have H := Lib.hid h
  clear hic h
  go_enter Try.func16, Try.ntmps16
  go_wp2
  go_loopw [7, 8] (fun vn vi wr => ∃ (k : Nat) (G : FM), k ≤ ids.length ∧ vi = .int .i64 k ∧ vn = .int .i64 (G.W.length - F.W.length : Int) ∧ Hid (G.W = (ids.take k).foldl (F.give1 tx) F.W ∧ ∃ wv', G = { F with wv := wv', W := G.W }) ∧ Hid (FAt w0 R r G wr)) (fun _ vi _ => ids.length - (RowKit.intOf vi).toNat)
  case atStart => exact ⟨0, F, Nat.zero_le _, rfl, by simp, ⟨rfl, F.wv, rfl⟩, H⟩
  case round =>
    clear H
    obtain ⟨k, G, hk, rfl, rfl, HE, HG⟩ := hrel
    by_cases hlt : k < ids.length
    · obtain ⟨b, off, rfl⟩ := hsome (by omega)
      obtain ⟨x, hx⟩ : ∃ x, ids[k]? = some x := ⟨_, List.getElem?_eq_getElem hlt⟩
      have HX := Lib.hid (fun W (hW : Below w0.heap.size w0 W) => HI.out W hW b off rfl k x hx)
      have HN := Lib.hid (give_next F tx hx)
      have hgl := give_len F tx (ids.take k) F.W
      rw [← HE.out.1, List.length_take] at hgl
      obtain ⟨wv0, heq⟩ := HE.out.2
      have hpg : G.pages = F.pages := by rw [heq]
      have hgL : G.L = F.L := by rw [heq]
      have hall : ({ F with W := G.W } : FM).all = G.all := by rw [heq]; rfl
      have b0 : (0 : Int) ≤ (k : Int) := by omega
      have b1 : (k : Int) < (ids.length : Int) := by omega
      have hGW : G.W.length ≤ 9000 := by omega
      have hGW2 : F.W.length ≤ G.W.length := hgl.1
      clear hx hsome hgl
      have HPg := Lib.hid (show ∀ W, FAt w0 R r G W → W.cell? ⟨r, 0, none⟩ = some (.int .i64 F.pages) from fun W hW => (hW.cell 0).trans (by rw [← hpg]; rfl))
      have HAll := Lib.hid (show ∀ W, FAt w0 R r G W → Calls Try.prog 26 #[.pointer (some ⟨r, 0, none⟩)] W fun e w' => ∃ u, e = .returned u ∧ (iRow u G.all).At w' W.heap.size ∧ Below W.heap.size W w' from fun W hW => hW.all_)
      have hall2 : G.all.length ≤ 100000 := by
        have h1 := fold_len (fun o p => putS o p.2) (fun o p => put_len o p.2) G.W G.L
        unfold FM.all
        rw [hgL] at h1 ⊢
        omega
      have HAl := Lib.hid hall2
      have HEq := Lib.hid heq
      have HAll2 := Lib.hid hall
      have HOk : Hid (F.ok G.W x ↔ (2 ≤ x ∧ x < F.pages ∧ x ∉ G.all)) := by show _ ↔ _; unfold FM.ok; rw [hall]
      have x0 := HX.out wr HG.out.rows.below
      have x1 := HPg.out wr HG.out
      clear heq hall hpg hgL hall2
      go_upto_region 5 with fail
      go_cut [40] from 15 to 40 (fun v W => ∃ c, v = .bool c ∧ Hid (c = decide (F.ok G.W x)) ∧ Hid (FAt w0 R r G W))
      case first =>
        by_cases h1 : 2 ≤ x
        · have d1 : decide (2 ≤ x) = true := decide_eq_true h1
          by_cases h2 : x < F.pages
          · have d2 : decide (x < F.pages) = true := decide_eq_true h2
            have HB1 := Lib.hid (show 2 ≤ x ∧ x < F.pages from ⟨h1, h2⟩)
            have HGd := Lib.hid (HG.out.over ((Below.refl _ _).drew))
            go_region_held3 (fun W => W.cell? ⟨b, off + k, none⟩ = some (.int .i64 x) ∧ W.cell? ⟨r, 0, none⟩ = some (.int .i64 F.pages)) (first | exact ⟨HX.out _ HG.out.rows.below, HPg.out _ HG.out⟩ | exact ⟨HX.out _ HGd.out.rows.below, HPg.out _ HGd.out⟩ | exact ⟨HX.out _ HG2.out.rows.below, HPg.out _ HG2.out⟩) ((first
              | (go_at_call 26; (with_reducible refine (HAll.out _ (by first | exact HG.out | exact HGd.out)).mono ?_); rintro e w3 ⟨u, rfl, ho, hb⟩; have HG2 := Lib.hid (show FAt w0 R r G w3 from (by first | exact HG.out.over hb | exact HGd.out.over hb)); have HIl := Lib.hid (iRow_il ho (by have := HAl.out; omega)); clear ho hb)
              | (go_at_call 29; (with_reducible refine (in_any _ _ _ x HIl.out).mono ?_); rintro e w4 ⟨rfl, rfl⟩)))
            all_goals
              go_wp2
              go_meet
              exact ⟨_, rfl, by show _ = _; have h9 := HOk.out; have h8 := HB1.out; by_cases q : x ∈ G.all <;> simp [h9, h8, q], HG2⟩
          · have d2 : decide (x < F.pages) = false := decide_eq_false h2
            have HB1 := Lib.hid (show ¬ F.ok G.W x from fun q => h2 (HOk.out.1 q).2.1)
            clear h2
            go_quiet (fail)
            all_goals
              go_wp2
              go_meet
              exact ⟨_, rfl, (decide_eq_false HB1.out).symm, Lib.hid (HG.out.over ⟨rfl, rfl, rfl, Nat.le_refl _, fun _ _ => rfl⟩)⟩
        · have d1 : decide (2 ≤ x) = false := decide_eq_false h1
          have HB1 := Lib.hid (show ¬ F.ok G.W x from fun q => h1 (HOk.out.1 q).1)
          clear h1
          go_quiet (fail)
          all_goals
            go_wp2
            go_meet
            exact ⟨_, rfl, (decide_eq_false HB1.out).symm, Lib.hid (HG.out.over ⟨rfl, rfl, rfl, Nat.le_refl _, fun _ _ => rfl⟩)⟩
      case rest =>
        obtain ⟨c, rfl, HCe, HGc⟩ := hcut
        have hgw := HGc.out
        obtain ⟨wa, wcp, hwv, hwn, hwc⟩ := hgw.wshape
        have x0 := HX.out wc hgw.rows.below
        have x2 : wc.cell? ⟨r, 2, none⟩ = some (.slice wa G.W.length wcp) := (hgw.cell 2).trans (by rw [← hwv]; rfl)
        cases c with
        | false =>
          have hno : ¬ F.ok G.W x := fun q => by have := HCe.out; rw [decide_eq_true q] at this; cases this
          have HN2 : Hid (G.W = (ids.take (k + 1)).foldl (F.give1 tx) F.W) := by show _ = _; rw [HN.out, ← HE.out.1]; unfold FM.give1; rw [if_neg hno]
          clear hno hwc hgw
          go_wp2
          go_roundw
          case rel => exact ⟨k + 1, G, by omega, by go_num, rfl, ⟨HN2.out, HE.out.2⟩, HGc⟩
          case measure => simp [RowKit.intOf]; omega
        | true =>
          have hyes : F.ok G.W x := of_decide_eq_true HCe.out.symm
          have HN2 : Hid (G.W ++ [(tx, x)] = (ids.take (k + 1)).foldl (F.give1 tx) F.W) := by show _ = _; rw [HN.out, ← HE.out.1]; unfold FM.give1; rw [if_pos hyes]
          have HwR := Lib.hid (show wc.ownsRow w0.heap.size 77 2 (.slice wa G.W.length wcp) G.W.length (G.W.flatMap wcells) from by rw [← hwv]; exact hgw.wrow)
          have HB6 : Hid (Below wc.heap.size wc ((wc.alloc (.cells #[.int .i64 tx, .int .i64 x] 77)).drew)) := (below_new _ _).drew
          have HO6 := Lib.hid (owns_below HwR.out HB6.out)
          have HL6 := Lib.hid (Nat.le_trans hgw.rows.below.size HB6.out.size)
          have hN6 : Hid (∀ A, some (⟨wc.heap.size, 0, none⟩ : Addr) = some A → ∀ (j : Nat) (u : Value), [.int .i64 tx, .int .i64 x][j]? = some u → ((wc.alloc (.cells #[.int .i64 tx, .int .i64 x] 77)).drew).cell? (A.add j) = some u) := fun A hA j u hu => by
            cases hA
            exact cells_new wc [.int .i64 tx, .int .i64 x] 77 j u hu
          have hgw2 := hgw.over (below_new wc (.cells #[.int .i64 tx, .int .i64 x] 77))
          have kA : (wc.alloc (.cells #[.int .i64 tx, .int .i64 x] 77)).cell? ⟨r, 2, none⟩ = some (.slice wa G.W.length wcp) := (hgw2.cell 2).trans (by rw [← hwv]; rfl)
          have kB := HX.out _ hgw2.rows.below
          have HE6 := Lib.hid (fun (w2 : World) (v' : Value) (hO : w2.ownsRow w0.heap.size 77 2 v' (G.W.length + 1) (G.W.flatMap wcells ++ wcells (tx, x))) (hg : (((wc.alloc (.cells #[.int .i64 tx, .int .i64 x] 77)).drew)).grownBy w2 (Value.slice wa G.W.length wcp).ownBlock) (hat : v'.ownBlock = (Value.slice wa G.W.length wcp).ownBlock ∨ v'.ownBlock = some ((wc.alloc (.cells #[.int .i64 tx, .int .i64 x] 77)).drew).heap.size) => hgw.addW HB6.out hO (by rw [hwv]; exact hg) (by rw [hwv]; exact hat) (by omega))
          rw [hwv] at HE6
          clear hyes hwc hgw hgw2
          go_upto_region 6 with fail
          go_region_law (first
            | (refine step_app rfl (.tmp 45) (.tmp 52) 33 rfl w0.heap.size 77 i3 z3 2 16 Try.underlying33 hi3 hz30 hz31 hz32 HZ3.out (by decide) (.slice wa G.W.length wcp) G.W.length (G.W.flatMap wcells) (by simp [Act.eval, Act.put]) HO6.out (some ⟨wc.heap.size, 0, none⟩) 1 1 [.int .i64 tx, .int .i64 x] (by simp [Act.eval, Act.put]) rfl hN6.out (by intro q; cases q) (by intro u hu; simp at hu; rcases hu with rfl | rfl <;> rfl) (by unfold maxLen; omega) (by omega) HL6.out ?_; intro p9 s9 w9 hown9 hgrow9 hat9; obtain ⟨r1, r2, HQ⟩ := HE6.out _ _ hown9 hgrow9 hat9; have HQ := Lib.hid HQ; clear hown9 hgrow9 hat9))
          all_goals
            go_wp2
            go_roundw
            case rel => exact ⟨k + 1, _, by omega, by go_num, (by show Value.int .i64 _ = Value.int .i64 _; congr 1; simp; omega), ⟨by first | exact HN2.out | (show _ ++ _ = _; exact HN2.out), by obtain ⟨wv9, e9⟩ := HE.out.2; exact ⟨_, by rw [e9]⟩⟩, HQ⟩
            case measure => simp [RowKit.intOf]; omega
    · have hkl : k = ids.length := by omega
      have HF : Hid (G.W = F.give tx ids) := by show _ = _; rw [HE.out.1, hkl, List.take_length]; rfl
      clear hsome
      go_wp2
      go_ret
      obtain ⟨wv', e9⟩ := HE.out.2
      have hG9 := HG.out
      refine ⟨wv', (by rw [← HF.out]; rfl), ?_⟩
      rw [← HF.out, ← e9]
      exact hG9
end

end Go.Proofs.Ytoiaamijjcjjiaa.P7
