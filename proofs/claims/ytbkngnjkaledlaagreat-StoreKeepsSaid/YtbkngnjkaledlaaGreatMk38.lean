/-
  Texts of the proof of SaidKeeps8, side by side: St1, Ab2.
-/
import Derived.Test.YtbkngnjkaledlaaGreatMk22
import Derived.Test.YtbkngnjkaledlaaGreatMk35
import Derived.Test.YtbkngnjkaledlaaGreatMk24
/-
  Package store: Get. (Store, part 1.)
-/
namespace Go.Proofs.YtbkngnjkaledlaaGreat.P8
open Go Go.RowKit Go.Lib Go.Maps Go.ChangeMaps Go.MapKept Go.Proofs.YtbkngnjkaledlaaGreat.P3 Go.Proofs.YtbkngnjkaledlaaGreat.P4
open Go.Proofs.YtbkngnjkaledlaaGreat.P5 (Pg readP read_any RdSt page_result)

/-- what a Get makes of a sector, and of the disk's error -/
def getOf (bb : ByteArray) (e : Int) (id : Int) : Pg × Int :=
  if e ≠ 0 then (Pg.zero, e)
  else if P5.readE bb ≠ 0 then (Pg.zero, P5.readE bb)
  else if (readP bb).id ≠ id ∨ (readP bb).k = 1 then (Pg.zero, 25)
  else (readP bb, 0)
/-- what Get tells -/
def getK (K : Dk) (s : ByteArray) (id : Int) : Pg × Int := getOf (readT K s id) (P4.readE K s id) id
/-- the block of the result, still zero -/
structure GS (W w : World) : Prop where
  res : w.heap[W.heap.size]? = some (.cells Pg.zero.cells 47 (0, 0))
  below : Below W.heap.size W w
theorem GS.made (W : World) : GS W (W.alloc (.cells #[.int .i64 0, .int .i64 0, .int .i64 0, .string ⟨#[]⟩] 47)) := ⟨new_at W _ _, below_new W _⟩
theorem GS.over {W w w' : World} (h : GS W w) (hb : Below w.heap.size w w') : GS W w' := ⟨(hb.block _ (P3.lt_of_block h.res)).trans h.res, thenBelow h.below hb⟩
theorem GS.page {W w : World} (h : GS W w) (c : Array Value) : RdSt W W.heap.size w.heap.size Pg.zero.cells c (w.alloc (.cells c 47)) :=
  ⟨by rw [Below.heap_alloc _ _ _ (P3.lt_of_block h.res)]; exact h.res, new_at w _ _, Nat.ne_of_lt (P3.lt_of_block h.res), thenBelow h.below (below_new w _), Nat.le_refl _, h.below.size⟩
theorem GS.fin0 {W w : World} (h : GS W w) (a b c d : Value) :
    (((((w.setCell ⟨W.heap.size, 0, none⟩ a).setCell ⟨W.heap.size, 1, none⟩ b).setCell ⟨W.heap.size, 2, none⟩ c).setCell ⟨W.heap.size, 3, none⟩ d).heap[W.heap.size]? = some (.cells #[a, b, c, d] 47 (0, 0))) ∧ Below W.heap.size W ((((w.setCell ⟨W.heap.size, 0, none⟩ a).setCell ⟨W.heap.size, 1, none⟩ b).setCell ⟨W.heap.size, 2, none⟩ c).setCell ⟨W.heap.size, 3, none⟩ d) :=
  ⟨set_at (set_at (set_at (set_at h.res 0 a) 1 b) 2 c) 3 d, (((h.below.setCell (Nat.le_refl _) a).setCell (Nat.le_refl _) b).setCell (Nat.le_refl _) c).setCell (Nat.le_refl _) d⟩
/-- the result's block, the page's, behind the count -/
structure GE (w : World) (P b d : Nat) (s : ByteArray) (n : Int) (K : Dk) (c : Array Value) (W : World) : Prop where
  res : W.heap[w.heap.size]? = some (.cells Pg.zero.cells 47 (0, 0))
  page : W.heap[P]? = some (.cells c 47 (0, 0))
  sd : SD W b d s n K
  only : Only b w W
  ne : w.heap.size ≠ P
  lt : b < w.heap.size
  foot : ∀ k, K.foot d k → k < w.heap.size
section
variable {w W W' : World} {b d P : Nat} {s : ByteArray} {n : Int} {K : Dk} {c : Array Value}
theorem SD.set (h : SD w b d s n K) (m : Int) : SD (w.setCell ⟨b, 2, none⟩ (.int .i64 m)) b d s m K :=
  ⟨h.1.set m, h.2.1.fr (S := (· = b)) (Fr.only ((Only.refl b w).setCell 2 (.int .i64 m)) rfl) (fun k hk q => h.2.2 (q ▸ hk)), h.2.2⟩
theorem GE.made (st : RdSt w w.heap.size P Pg.zero.cells c W) (h : SD w b d s n K) (m : Int) : GE w P b d s m K c (W.setCell ⟨b, 2, none⟩ (.int .i64 m)) := by
  have hlt := h.1.lt
  have hp := st.plo
  refine ⟨P3.old_set st.res _ (by show w.heap.size ≠ b; omega) _, P3.old_set st.page _ (by show P ≠ b; omega) _, (h.below st.below).set m, (Only.of st.below).setCell 2 _, st.ne, hlt, h.2.1.foot_lt⟩
theorem GE.cell (h : GE w P b d s n K c W) (j : Nat) : W.cell? ⟨P, j, none⟩ = c[j]? := P3.cell_at h.page j
theorem GE.rcell (h : GE w P b d s n K c W) (j : Nat) : W.cell? ⟨w.heap.size, j, none⟩ = Pg.zero.cells[j]? := P3.cell_at h.res j
theorem GE.rfree (h : GE w P b d s n K c W) (j : Nat) : W.frozen? ⟨w.heap.size, j, none⟩ = false := P3.free_at h.res j
theorem only_new {R : Nat} (h : Only b w W) (hR : w.heap.size ≤ R) (j : Nat) (u : Value) : Only b w (W.setCell ⟨R, j, none⟩ u) :=
  ⟨h.os, h.tape, h.output, by simpa [World.setCell] using h.size, fun k hk hkb => (Below.heap_setCell _ _ _ _ (by show k ≠ R; omega)).trans (h.block k hk hkb)⟩
theorem GE.fin (h : GE w P b d s n K c W) (x y z t : Value) :
    (((((W.setCell ⟨w.heap.size, 0, none⟩ x).setCell ⟨w.heap.size, 1, none⟩ y).setCell ⟨w.heap.size, 2, none⟩ z).setCell ⟨w.heap.size, 3, none⟩ t).heap[w.heap.size]? = some (.cells #[x, y, z, t] 47 (0, 0))) ∧ SD ((((W.setCell ⟨w.heap.size, 0, none⟩ x).setCell ⟨w.heap.size, 1, none⟩ y).setCell ⟨w.heap.size, 2, none⟩ z).setCell ⟨w.heap.size, 3, none⟩ t) b d s n K ∧ Only b w ((((W.setCell ⟨w.heap.size, 0, none⟩ x).setCell ⟨w.heap.size, 1, none⟩ y).setCell ⟨w.heap.size, 2, none⟩ z).setCell ⟨w.heap.size, 3, none⟩ t) := by
  refine ⟨P3.set_at (P3.set_at (P3.set_at (P3.set_at h.res 0 x) 1 y) 2 z) 3 t, ?_, only_new (only_new (only_new (only_new h.only (Nat.le_refl _) 0 x) (Nat.le_refl _) 1 y) (Nat.le_refl _) 2 z) (Nat.le_refl _) 3 t⟩
  have hf : Fr (· = w.heap.size) W ((((W.setCell ⟨w.heap.size, 0, none⟩ x).setCell ⟨w.heap.size, 1, none⟩ y).setCell ⟨w.heap.size, 2, none⟩ z).setCell ⟨w.heap.size, 3, none⟩ t) := Fr.only (((((Only.refl w.heap.size W).setCell 0 x).setCell 1 y).setCell 2 z).setCell 3 t) rfl
  exact h.sd.fr hf (fun q => by have := h.lt; omega) (fun k hk q => by have := h.foot k hk; omega)
set_option maxRecDepth 100000 in
set_option maxHeartbeats 2000000 in
theorem SD.get (h : SD w b d s n K) (hs : s.size ≤ maxLen) (id : Int) :
    Calls Tryz.prog 17 #[.pointer (some ⟨b, 0, none⟩), .int .i64 id] w fun e w2 => e = .returned (.tuple #[(getK K s id).1.v, .int .i64 (getK K s id).2]) ∧ SD w2 b d s (if (getK K s id).2 = 0 then wrap64 (n + 1) else n) K ∧ Only b w w2 := by
  obtain ⟨G, hG⟩ : ∃ G, G = getK K s id := ⟨_, rfl⟩
  obtain ⟨bb, hbb⟩ : ∃ x, x = readT K s id := ⟨_, rfl⟩
  obtain ⟨e0, he0⟩ : ∃ x, x = P4.readE K s id := ⟨_, rfl⟩
  have HRd : Hid (∀ W, SD W b d s n K → Calls Tryz.prog 65 #[.pointer (some ⟨d, 0, none⟩), .string s, .int .i64 id] W fun e w' => e = .returned (.tuple #[.string bb, .int .i64 e0]) ∧ Below W.heap.size W w') := fun W k => by rw [hbb, he0]; exact k.2.1.read s id hs
  rw [← hG]
  unfold getK getOf at hG
  rw [← hbb, ← he0] at hG
  clear hbb he0
  obtain ⟨p, hp⟩ : ∃ p, p = readP bb := ⟨_, rfl⟩
  obtain ⟨e1, he1⟩ : ∃ e, e = P5.readE bb := ⟨_, rfl⟩
  have HP : Hid (∀ W, Calls Tryz.prog 67 #[.string bb] W fun e w' => e = .returned (.tuple #[.agg #[.int .i64 p.k, .int .i64 p.id, .int .i64 p.tx, .string p.body], .int .i64 e1]) ∧ Below W.heap.size W w') := fun W => by rw [hp, he1]; exact read_any W bb
  rw [← hp, ← he1] at hG
  clear hp he1
  have HG := Lib.hid hG
  clear hG
  have HW : Hid (∀ W, Below w.heap.size w W → SD W b d s n K ∧ Only b w W) := fun W hb => ⟨h.below hb, Only.of hb⟩
  have HM : Hid (∀ P c W, RdSt w w.heap.size P Pg.zero.cells c W → SD W b d s n K ∧ GE w P b d s (wrap64 (n + 1)) K c (W.setCell ⟨b, 2, none⟩ (.int .i64 (wrap64 (n + 1))))) := fun P c W st => ⟨h.below st.below, GE.made st h _⟩
  have HX : Hid (∀ W, SD W b d s n K → W.cell? ⟨b, 0, none⟩ = some (.pointer (some ⟨d, 0, none⟩)) ∧ W.cell? ⟨b, 1, none⟩ = some (.string s)) := fun _ k => k.cells
  have HGS := Lib.hid (GS.made w)
  have HA := Lib.hid (HW.out _ (GS.made w).below).1
  have HAd := Lib.hid (HA.out.below (Below.refl _ _).drew)
  have HGd := Lib.hid (HGS.out.over (Below.refl _ _).drew)
  clear h
  go_enter Tryz.func17, Tryz.ntmps17
  go_upto_region 3 with fail
  go_cut [6, 7] from 12 to 24 (fun v e W' => v = .string bb ∧ e = .int .i64 e0 ∧ GS w W')
  case first =>
    go_region_held3 (fun W' => W'.cell? ⟨b, 0, none⟩ = some (.pointer (some ⟨d, 0, none⟩)) ∧ W'.cell? ⟨b, 1, none⟩ = some (.string s)) (first | exact HX.out _ HA.out | exact HX.out _ HAd.out | exact HX.out _ H2.out)
      ((go_at_call 65; (with_reducible refine (HRd.out _ (by first | exact HAd.out | exact HA.out)).mono ?_); rintro e w2 ⟨rfl, hb⟩; have H2 := Lib.hid (show SD w2 b d s n K from (by first | exact HAd.out.below hb | exact HA.out.below hb)); have HG2 := Lib.hid (show GS w w2 from (by first | exact HGd.out.over hb | exact HGS.out.over hb)); clear hb))
    all_goals
      go_wp2
      go_meet
      exact ⟨rfl, rfl, HG2.out⟩
  case rest =>
    obtain ⟨rfl, rfl, HS⟩ := hcut
    clear HA HX HAd HGd HGS HRd
    by_cases h0 : e0 = 0
    · subst h0
      have HSh := Lib.hid HS
      clear HS
      go_upto_region 6 with fail
      go_cut [7, 8] from 29 to 33 (fun e v W' => ∃ P, v = .pointer (some ⟨P, 0, none⟩) ∧ e = .int .i64 e1 ∧ RdSt w w.heap.size P Pg.zero.cells #[.int .i64 p.k, .int .i64 p.id, .int .i64 p.tx, .string p.body] W')
      case first =>
        go_wp2_with (go_at_call 67; (with_reducible refine (HP.out _).mono ?_); rintro e w3 ⟨rfl, hb3⟩; have HG3 := Lib.hid (HSh.out.over hb3); clear hb3)
        go_meet
        exact ⟨_, rfl, rfl, HG3.out.page _⟩
      case rest =>
        obtain ⟨P, rfl, rfl, st⟩ := hcut
        have hG := HG.out
        clear HG HP HSh
        rw [if_neg (by decide)] at hG
        have r0 := (st.rcell 0).trans (show _ = some (Value.int .i64 0) from rfl)
        have r1 := (st.rcell 1).trans (show _ = some (Value.int .i64 0) from rfl)
        have r2 := (st.rcell 2).trans (show _ = some (Value.int .i64 0) from rfl)
        have r3 := (st.rcell 3).trans (show _ = some (Value.string ⟨#[]⟩) from rfl)
        have f0 := st.rfree 0
        have f1 := st.rfree 1
        have f2 := st.rfree 2
        have f3 := st.rfree 3
        have l0 := (st.cell 0).trans (show _ = some (Value.int .i64 p.k) from rfl)
        have l1 := (st.cell 1).trans (show _ = some (Value.int .i64 p.id) from rfl)
        by_cases h1 : e1 = 0
        · subst h1
          rw [if_neg (by decide)] at hG
          by_cases h2 : p.id = id
          · have i2 : (p.id != id) = false := by simp [h2]
            by_cases h3 : p.k = 1
            · have i3 : (p.k == 1) = true := by simp [h3]
              rw [if_pos (.inr h3)] at hG
              subst hG
              clear h2 h3 HM
              go_wp2
              obtain ⟨q1, q2⟩ := st.fin0 (.int .i64 0) (.int .i64 0) (.int .i64 0) (.string ⟨#[]⟩)
              exact bodyPost_ret (page_result rfl _ _ w.heap.size _ rfl q1 rfl) rfl ⟨rfl, HW.out _ q2⟩
            · have i3 : (p.k == 1) = false := by simp [h3]
              rw [if_neg (fun q => q.elim (fun q => q h2) h3)] at hG
              subst hG
              clear h2 h3 HW r0 r1 r2 r3 f0 f1 f2 f3
              have HE := Lib.hid (HM.out _ _ _ st).2
              have hsd := (HM.out _ _ _ st).1.1
              have c2 := hsd.c2
              have z2 := hsd.free
              have r0 := (HE.out.rcell 0).trans (show _ = some (Value.int .i64 0) from rfl)
              have r1 := (HE.out.rcell 1).trans (show _ = some (Value.int .i64 0) from rfl)
              have r2 := (HE.out.rcell 2).trans (show _ = some (Value.int .i64 0) from rfl)
              have r3 := (HE.out.rcell 3).trans (show _ = some (Value.string ⟨#[]⟩) from rfl)
              have f0 := HE.out.rfree 0
              have f1 := HE.out.rfree 1
              have f2 := HE.out.rfree 2
              have f3 := HE.out.rfree 3
              have m0 := (HE.out.cell 0).trans (show _ = some (Value.int .i64 p.k) from rfl)
              have m1 := (HE.out.cell 1).trans (show _ = some (Value.int .i64 p.id) from rfl)
              have m2 := (HE.out.cell 2).trans (show _ = some (Value.int .i64 p.tx) from rfl)
              have m3 := (HE.out.cell 3).trans (show _ = some (Value.string p.body) from rfl)
              have HC := Lib.hid (ct_add _ _ n 1 c2 z2)
              clear hsd HM
              go_wp2_with (go_at_call 68; (with_reducible refine (HC.out).mono ?_); rintro e w4 ⟨rfl, rfl⟩)
              obtain ⟨q1, q2⟩ := HE.out.fin (.int .i64 p.k) (.int .i64 p.id) (.int .i64 p.tx) (.string p.body)
              exact bodyPost_ret (page_result rfl _ _ w.heap.size _ rfl q1 rfl) rfl ⟨rfl, q2⟩
          · have i2 : (p.id != id) = true := by simp [h2]
            rw [if_pos (.inl h2)] at hG
            subst hG
            clear h2 HM
            go_wp2
            obtain ⟨q1, q2⟩ := st.fin0 (.int .i64 0) (.int .i64 0) (.int .i64 0) (.string ⟨#[]⟩)
            exact bodyPost_ret (page_result rfl _ _ w.heap.size _ rfl q1 rfl) rfl ⟨rfl, HW.out _ q2⟩
        · have k1 : (e1 != 0) = true := by simp [h1]
          rw [if_pos h1] at hG
          subst hG
          clear HM
          go_wp2
          obtain ⟨q1, q2⟩ := st.fin0 (.int .i64 0) (.int .i64 0) (.int .i64 0) (.string ⟨#[]⟩)
          exact bodyPost_ret (page_result rfl _ _ w.heap.size _ rfl q1 rfl) rfl ⟨rfl, HW.out _ q2⟩
    · have k0 : (e0 != 0) = true := by simp [h0]
      have r0 := (P3.cell_at HS.res 0).trans (show _ = some (Value.int .i64 0) from rfl)
      have r1 := (P3.cell_at HS.res 1).trans (show _ = some (Value.int .i64 0) from rfl)
      have r2 := (P3.cell_at HS.res 2).trans (show _ = some (Value.int .i64 0) from rfl)
      have r3 := (P3.cell_at HS.res 3).trans (show _ = some (Value.string ⟨#[]⟩) from rfl)
      have f0 := P3.free_at HS.res 0
      have f1 := P3.free_at HS.res 1
      have f2 := P3.free_at HS.res 2
      have f3 := P3.free_at HS.res 3
      have hG := HG.out
      rw [if_pos h0] at hG
      subst hG
      clear HM HG HP
      go_wp2
      obtain ⟨q1, q2⟩ := HS.fin0 (.int .i64 0) (.int .i64 0) (.int .i64 0) (.string ⟨#[]⟩)
      exact bodyPost_ret (page_result rfl _ _ w.heap.size _ rfl q1 rfl) rfl ⟨rfl, HW.out _ q2⟩
end
end Go.Proofs.YtbkngnjkaledlaaGreat.P8

/-
  A disk of one's own, as the document has it, not armed: Sync, Dirty, Crash with a given list. (Disk, abstract, part 3.)
-/
namespace Go.Proofs.YtbkngnjkaledlaaGreat.P4
open Go Go.RowKit Go.Lib Go.Maps Go.ChangeMaps Go.MapKept Go.Proofs.YtbkngnjkaledlaaGreat.P3

/-- what Sync makes of the files -/
def syncA (A : AL) (n : List UInt8) (F : AF) : AL := (n, F.sync) :: restA A n
theorem DA.errF0 {w : World} {d : Nat} {K : Dk} {A : AL} (h : DA w d K A) (hon : K.on = true) (s : ByteArray) (h1 : 1 ≤ s.size) (h2 : s.size ≤ 40) {F : AF} (hg : getA A s.data.toList = some F) :
    ∃ G, getF K.files s.data.toList = some G ∧ G.abs = F ∧ errF K.on s.size (getF K.files s.data.toList) = 0 := by
  have hg2 := h.get s.data.toList
  rw [hg] at hg2
  obtain ⟨G, hG, he⟩ := Option.map_eq_some_iff.1 hg2
  refine ⟨G, hG, he, ?_⟩
  unfold errF
  rw [hon, errn_good h1 h2, if_pos rfl, hG]
theorem QD.sync {a w : World} {d t : Nat} {A : AL} (h : QD true a w d t A) (s : ByteArray) (h1 : 1 ≤ s.size) (h2 : s.size ≤ 40) {F : AF} (hg : getA A s.data.toList = some F) :
    Calls Tryz.prog 50 #[.pointer (some ⟨d, 0, none⟩), .string s] w fun e w' => e = .returned (.int .i64 0) ∧ QD true a w' d t (syncA A s.data.toList F) := by
  obtain ⟨K, hL, hC⟩ := h
  obtain ⟨G, hG, hGF, he⟩ := hL.da.errF0 hC.on s h1 h2 hg
  refine (hL.da.at'.sync s (by unfold maxLen; omega) (by rw [hC.left]; decide)).mono ?_
  intro e w' hp
  cases hp with
  | err hne _ => exact absurd he hne
  | falls _ ha _ _ _ => rw [hC.armed] at ha; cases ha
  | @done _ F2 _ _ hF hst =>
    rw [hG] at hF
    obtain rfl : G = F2 := by simpa using hF
    have hcK : counted K = K := by unfold counted; rw [if_neg (by rw [hC.armed]; decide)]
    rw [hcK] at hst
    refine ⟨rfl, _, hL.step hst ?_, hC.on, hC.room, hC.armed, hC.left, hC.turn⟩
    show (absP (s.data.toList, G.sync) :: absL (restF K.files s.data.toList)).Perm _
    unfold absP syncA
    rw [Fl.sync_abs, rest_abs, hGF]
    exact (restA_perm hL.da.abs _).cons _
/-- Crash with a list that is older than the disk -/
theorem QD.crashL {a w : World} {d t : Nat} {A : AL} {v : Value} (h : QD true a w d t A) (ks : List Int) (hv : IntsR (fun _ => False) a v ks) :
    Calls Tryz.prog 25 #[.pointer (some ⟨d, 0, none⟩), v] w fun e w' => e = .returned (.int .i64 (lostA (keptA A ks) A : Nat)) ∧ QD false a w' d t (crashA A ks) :=
  h.crash ks (fun K _ hL => by
    have h2 := hv.fr (Fr.of hL.fr)
    rcases hv with hv | ⟨g, o, c, rfl, hg, _, hc⟩
    · exact .inl hv
    · rcases h2 with h2 | ⟨g2, o2, c2, he, h4, _, h6⟩
      · exact .inl h2
      · obtain ⟨e1, e2⟩ : g = g2 ∧ o = o2 := by simp at he; exact ⟨he.1.1, he.1.2⟩
        subst e1 e2
        exact .inr ⟨g, o, c, rfl, h4, fun hk => by have := hL.foot g (wfoot_foot hk); omega, h6⟩)
theorem QD.dirty {a w : World} {d t : Nat} {on : Bool} {A : AL} (h : QD on a w d t A) :
    Calls Tryz.prog 78 #[.pointer (some ⟨d, 0, none⟩)] w fun e w' => e = .returned (.int .i64 ((wsA A).length : Nat)) ∧ QD on a w' d t A := by
  have h0 := h
  obtain ⟨K, hL, hC⟩ := h
  have e : (allW K.files).length = (wsA A).length := by rw [← (wsA_perm hL.da.abs).length_eq, wsA_abs, List.length_map]
  refine hL.da.at'.dirty.mono ?_
  rintro e' w' ⟨rfl, hb⟩
  rw [← e]
  exact ⟨rfl, h0.below hb⟩

end Go.Proofs.YtbkngnjkaledlaaGreat.P4
