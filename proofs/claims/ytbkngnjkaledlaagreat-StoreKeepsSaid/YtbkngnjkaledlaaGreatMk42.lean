/-
  Texts of the proof of SaidKeeps8, side by side: Kp1, Al8.
-/
import Derived.Test.YtbkngnjkaledlaaGreatMk40
import Derived.Test.YtbkngnjkaledlaaGreatMk41
import Derived.Test.YtbkngnjkaledlaaGreatMk39
import Derived.Test.YtbkngnjkaledlaaGreatMk36
/-
  StoreKeeps: each call of the law, on the store as it then is.
-/
namespace Go.Proofs.YtbkngnjkaledlaaGreat.P8
open Go Go.RowKit Go.Lib Go.Maps Go.ChangeMaps Go.MapKept Go.Proofs.YtbkngnjkaledlaaGreat.P3 Go.Proofs.YtbkngnjkaledlaaGreat.P4
open Go.Proofs.YtbkngnjkaledlaaGreat.P5 (Pg zer)

section
variable {a w : World} {b d t m : Nat} {n : Int} {o : Option AF} {safe rest : List Pg} {v1 v2 : Value}
def nA : ByteArray := ⟨#[97]⟩
theorem QS.sync (h : QS true a w b d t nA n (ofF [97] o)) :
    Calls Tryz.prog 14 #[.pointer (some ⟨b, 0, none⟩)] w fun e w' => e = .returned (.int .i64 0) ∧ QS true a w' b d t nA n (ofF [97] (syncF o)) := by
  have hst : StAt w b d nA n := by
    obtain ⟨K, _, _, hS, _⟩ := h
    exact hS.1
  refine (stsync_of (Q := fun z w' => (z = 0 ∨ z = 8) ∧ QS true a w' b d t nA n (ofF [97] (syncF o))) hst ?_).mono ?_
  · intro W hb
    obtain ⟨K, hL, hC, hS, hbb⟩ := h.below hb
    refine (hL.da.at'.sync nA (by decide) (by rw [hC.left]; decide)).mono ?_
    intro e w' hp
    cases hp with
    | err hne hb2 =>
      have hg : getA (ofF [97] o) [97] = none := by
        cases ho : getA (ofF [97] o) [97] with
        | none => rfl
        | some F =>
          obtain ⟨G, _, _, he⟩ := hL.da.errF0 hC.on nA (by decide) (by decide) (F := F) ho
          exact absurd he hne
      have ho : o = none := by rw [getA_of] at hg; exact hg
      have e8 : errF K.on nA.size (getF K.files nA.data.toList) = 8 := by
        unfold errF
        rw [hC.on, if_pos (errn_good (by decide) (by decide)), (hL.da.getNone nA.data.toList).2 hg]
      subst ho
      exact ⟨_, rfl, (hS.below hb2).1, .inr e8, K, hL.below hb2, hC, hS.below hb2, hbb⟩
    | falls _ ha _ _ _ => rw [hC.armed] at ha; cases ha
    | @done _ F2 he _ hF hst =>
      have hg : getA (ofF [97] o) [97] = some F2.abs := by
        have q := hL.da.get [97]
        rw [show getF K.files [97] = some F2 from hF] at q
        exact q.symm
      have ho : o = some F2.abs := by rw [getA_of] at hg; exact hg
      have hcK : counted K = K := by unfold counted; rw [if_neg (by rw [hC.armed]; decide)]
      rw [hcK] at hst
      have hab : (absL ((nA.data.toList, F2.sync) :: restF K.files nA.data.toList)).Perm (ofF [97] (syncF o)) := by
        show (absP (nA.data.toList, F2.sync) :: absL (restF K.files nA.data.toList)).Perm _
        rw [rest_abs]
        have q := restA_perm hL.da.abs [97]
        rw [restA_of] at q
        have q2 : restA (absL K.files) [97] = [] := q.eq_nil
        rw [show nA.data.toList = [97] from rfl, q2, ho]
        show (([97], F2.sync.abs) :: ([] : AL)).Perm [([97], F2.abs.sync)]
        rw [Fl.sync_abs]
      have hsd := hS.step hst
      exact ⟨0, rfl, hsd.1, .inl rfl, _, hL.step hst hab, ⟨hC.on, hC.room, hC.armed, hC.left, hC.turn⟩, hsd, hbb⟩
  · rintro e w' ⟨z, rfl, _, hz, q⟩
    refine ⟨?_, q⟩
    rcases hz with rfl | rfl
    · rfl
    · rfl
/-- both lists are made; the store is new -/
structure KL (a : World) (v1 v2 vk : Value) (safe rest : List Pg) (ks : List Int) : Prop where
  p1 : PagesIn a v1 safe
  p2 : PagesIn a v2 rest
  ki : IntsIn a vk ks
  l1 : safe.length ≤ 15
  l2 : rest.length ≤ 15
  ok1 : ∀ p ∈ safe, okPut p ∧ p.id ≤ 40
  ok2 : ∀ p ∈ rest, okPut p ∧ 41 ≤ p.id ∧ p.id ≤ 55
  a1 : ∀ B off c, v1 = .slice (some ⟨B, off, none⟩) 0 c → B < a.heap.size
  a2 : ∀ B off c, v2 = .slice (some ⟨B, off, none⟩) 0 c → B < a.heap.size
theorem pages_apart {v : Value} {l : List Pg} (h : PagesIn a v l) (hb : ∀ B off c, v = .slice (some ⟨B, off, none⟩) 0 c → B < a.heap.size) : ∀ B off n c, v = .slice (some ⟨B, off, none⟩) n c → B < a.heap.size ∨ w.heap.size ≤ B := by
  intro B off n c e
  obtain ⟨av, cv, e2, h1, h2⟩ := h
  rw [e2] at e
  simp only [Value.slice.injEq] at e
  obtain ⟨rfl, rfl, rfl⟩ := e
  rcases Nat.eq_zero_or_pos l.length with q | q
  · exact .inl (hb B off cv (by rw [e2, q]))
  · obtain ⟨b, off', e3, h3, _⟩ := h2 q
    cases e3
    exact .inl h3
/-- behind the first pages, synced -/
def o1 (safe : List Pg) : Option AF := syncF (runF none 0 (putW 0 safe))
def t1 (safe : List Pg) : Nat := 0 + (putW 0 safe).length
def m1 (safe : List Pg) : Nat := (nowF (o1 safe)).length
theorem m1_le {safe : List Pg} (h : ∀ p ∈ safe, okPut p ∧ p.id ≤ 40) (hl : safe.length ≤ 15) : m1 safe ≤ 41 ∧ t1 safe ≤ 60 := by
  obtain ⟨h1, h2, h3⟩ := pages_len 41 safe [] (fun p hp => by have := (h p hp).2; have := (h p hp).1.2.2; omega)
  have e : nowF (o1 safe) = runN [] (putW 0 safe) := by
    unfold o1
    rw [syncF_now, runF_now]
    rfl
  unfold m1 t1
  rw [e]
  simp only [List.length_nil] at h2 h3
  omega
theorem len2 {rest : List Pg} (h : ∀ p ∈ rest, okPut p ∧ 41 ≤ p.id ∧ p.id ≤ 55) (L : List ByteArray) (hL : L.length ≤ 41) : (putW L.length rest).length ≤ rest.length + 56 := by
  obtain ⟨h1, h2, h3⟩ := pages_len 56 rest L (fun p hp => by have := (h p hp).2.2; have := (h p hp).2.1; omega)
  omega
theorem kp_put1 {vk : Value} {ks : List Int} (k : KL a v1 v2 vk safe rest ks) (h : QS true a w b d 0 nA 0 []) :
    Calls Tryz.prog 9 #[.pointer (some ⟨b, 0, none⟩), v1] w fun e w' => e = .returned (.int .i64 0) ∧ QS true a w' b d (t1 safe) nA 0 (ofF [97] (runF none 0 (putW 0 safe))) := by
  have hm := m1_le k.ok1 k.l1
  refine (h.put (Below.refl _ _) (by decide) (by decide) (k.p1.below h.fr) (pages_apart k.p1 k.a1) (fun p hp => (k.ok1 p hp).1) (m := 0) rfl (by decide) (by have := hm.2; unfold t1 at this; omega) (fun _ => by decide)).mono ?_
  rintro e w' ⟨rfl, q, _⟩
  have e2 : runA nA.data.toList [] 0 (putW 0 safe) = ofF [97] (runF none 0 (putW 0 safe)) := runA_of [97] (putW 0 safe) none 0
  rw [e2] at q
  exact ⟨rfl, q⟩
theorem kp_sync (h : QS true a w b d (t1 safe) nA 0 (ofF [97] (runF none 0 (putW 0 safe)))) :
    Calls Tryz.prog 14 #[.pointer (some ⟨b, 0, none⟩)] w fun e w' => e = .returned (.int .i64 0) ∧ QS true a w' b d (t1 safe) nA 0 (ofF [97] (o1 safe)) := h.sync
/-- behind the others -/
def o3 (safe rest : List Pg) : Option AF := runF (o1 safe) (t1 safe) (putW (m1 safe) rest)
theorem kp_put2 {vk : Value} {ks : List Int} (k : KL a v1 v2 vk safe rest ks) (h : QS true a w b d (t1 safe) nA 0 (ofF [97] (o1 safe))) :
    Calls Tryz.prog 9 #[.pointer (some ⟨b, 0, none⟩), v2] w fun e w' => e = .returned (.int .i64 0) ∧ ∃ t, QD true a w' d t (ofF [97] (o3 safe rest)) := by
  have hm := m1_le k.ok1 k.l1
  have hl := len2 k.ok2 (nowF (o1 safe)) hm.1
  have hlen := k.l2
  refine (h.put (Below.refl _ _) (by decide) (by decide) (k.p2.below h.fr) (pages_apart k.p2 k.a2) (fun p hp => (k.ok2 p hp).1) (m := m1 safe) (sizeA_of [97] (o1 safe)) (by omega) (by show t1 safe + (putW (nowF (o1 safe)).length rest).length < 8999; omega) (fun _ => by cases o1 safe <;> (show _ < 60; simp [ofF]))).mono ?_
  rintro e w' ⟨rfl, q, _⟩
  have e2 : runA nA.data.toList (ofF [97] (o1 safe)) (t1 safe) (putW (m1 safe) rest) = ofF [97] (o3 safe rest) := runA_of [97] (putW (m1 safe) rest) (o1 safe) (t1 safe)
  rw [e2] at q
  exact ⟨rfl, _, q.qd⟩
theorem kp_crash {vk : Value} {ks : List Int} {t : Nat} (k : KL a v1 v2 vk safe rest ks) (h : QD true a w d t (ofF [97] (o3 safe rest))) :
    Calls Tryz.prog 25 #[.pointer (some ⟨d, 0, none⟩), vk] w fun e w' => ∃ z o, e = .returned (.int .i64 z) ∧ KeptF safe o ∧ QD false a w' d t (ofF [97] o) := by
  refine (h.crashL ks k.ki.lent).mono ?_
  rintro e w' ⟨rfl, q⟩
  obtain ⟨o, e2, hk⟩ := kept_all [97] safe rest ks (t1 safe) k.ok1 (fun p hp => ⟨(k.ok2 p hp).1, (k.ok2 p hp).2.1⟩) (m1 safe) rfl
  have e3 : crashA (ofF [97] (o3 safe rest)) ks = ofF [97] o := e2
  rw [e3] at q
  exact ⟨_, o, rfl, hk, q⟩
/-- the store that is opened anew -/
def KW (a W : World) (b : Nat) (safe : List Pg) (o : Option AF) : Prop := ∃ d t n, QS true a W b d t nA n (ofF [97] o)
theorem KW.below {W W' : World} (h : KW a W b safe o) (hb : Below W.heap.size W W') : KW a W' b safe o := by
  obtain ⟨d, t, n, q⟩ := h
  exact ⟨d, t, n, q.below hb⟩
theorem KW.fr {W : World} (h : KW a W b safe o) : Below a.heap.size a W := by
  obtain ⟨d, t, n, q⟩ := h
  exact q.fr
theorem KW.get {W : World} (h : KW a W b safe o) (id : Int) :
    Calls Tryz.prog 17 #[.pointer (some ⟨b, 0, none⟩), .int .i64 id] W fun e w' => e = .returned (.tuple #[(getQ (ofF [97] o) [97] id).1.v, .int .i64 (getQ (ofF [97] o) [97] id).2]) ∧ KW a w' b safe o := by
  obtain ⟨d, t, n, q⟩ := h
  refine (q.get (by decide) (by decide) id).mono ?_
  rintro e w' ⟨rfl, q2, _⟩
  exact ⟨rfl, _, _, _, q2⟩
end
end Go.Proofs.YtbkngnjkaledlaaGreat.P8

/-
  The law's first call. (Store.)
-/
namespace Go.Proofs.YtbkngnjkaledlaaGreat.P8
open Go Go.RowKit Go.Lib Go.Maps Go.ChangeMaps Go.MapKept Go.Proofs.YtbkngnjkaledlaaGreat.P3 Go.Proofs.YtbkngnjkaledlaaGreat.P4
open Go.Proofs.YtbkngnjkaledlaaGreat.P5 (Pg zer page_eql)

theorem pages_one (w : World) (p : Pg) : PagesIn (w.alloc (.cells p.cells 47)) (.slice (some ⟨w.heap.size, 0, none⟩) 1 1) [p] := by
  refine ⟨some ⟨w.heap.size, 0, none⟩, 1, rfl, by show 1 ≤ _; decide, fun _ => ⟨w.heap.size, 0, rfl, by simp, fun i q hq j u hj => ?_⟩⟩
  have hi : i = 0 := by
    have := (List.getElem?_eq_some_iff.1 hq).1
    simp at this
    exact this
  subst hi
  obtain rfl : p = q := by simpa using hq
  rw [show (0 + 0 * 4 + j) = j by omega, P3.cell_at (P3.new_at w p.cells 47)]
  rw [← hj]
  simp
/-- the first call's page -/
def pX : Pg := ⟨3, 3, 1, ⟨#[120]⟩⟩
theorem pX_ok : okPut pX := ⟨⟨by decide, by decide, by decide, by decide, by decide, by decide, by decide⟩, by decide, by decide⟩
/-- what is there then -/
def AX : AL := runA [97] [] 0 (putW 0 [pX])
theorem put_X : putW 0 [pX] = [(0, zer 256), (1, zer 256), (2, zer 256), (3, pX.sector)] := rfl
theorem run_X (z x : ByteArray) : runA [97] [] 0 [(0, z), (1, z), (2, z), (3, x)] = [([97], ⟨[z, z, z, x], [], false, [(1, 0, z), (2, 1, z), (3, 2, z), (4, 3, x)]⟩)] := rfl
theorem AX_eq : AX = [([97], ⟨[zer 256, zer 256, zer 256, pX.sector], [], false, [(1, 0, zer 256), (2, 1, zer 256), (3, 2, zer 256), (4, 3, pX.sector)]⟩)] := by unfold AX; rw [put_X, run_X]
theorem AX_size : sizeA AX [97] = 4 := by rw [AX_eq]; rfl
theorem get_X (z x : ByteArray) (ws : List (Nat × Nat × ByteArray)) : getQ [([97], ⟨[z, z, z, x], [], false, ws⟩)] [97] 3 = getOf x 0 3 := rfl
theorem AX_get : getQ AX [97] 3 = (pX, 0) := by
  rw [AX_eq, get_X]
  obtain ⟨h1, h2⟩ := P5.read_yes pX_ok.1
  unfold getOf
  rw [if_neg (by decide), h2, if_neg (by decide), h1, if_neg (by decide)]
section
variable {a w w0 W : World} {b d P t : Nat} {n : Int} {A : AL}
/-- the store of the first call, beside its page -/
structure AS (a W : World) (b d P t : Nat) (n : Int) (A : AL) : Prop where
  qs : QS true a W b d t ⟨#[97]⟩ n A
  page : W.heap[P]? = some (.cells #[.int .i64 3, .int .i64 3, .int .i64 1, .string ⟨#[120]⟩] 47 (0, 0))
  ne : P ≠ b
theorem AS.over {W' : World} (h : AS a W b d P t n A) (hb : Below W.heap.size W W') : AS a W' b d P t n A := ⟨h.qs.below hb, P3.old_below h.page hb, h.ne⟩
theorem AS.cells (h : AS a W b d P t n A) : W.cell? ⟨P, 0, none⟩ = some (.int .i64 3) ∧ W.cell? ⟨P, 1, none⟩ = some (.int .i64 3) ∧ W.cell? ⟨P, 2, none⟩ = some (.int .i64 1) ∧ W.cell? ⟨P, 3, none⟩ = some (.string ⟨#[120]⟩) :=
  ⟨by rw [P3.cell_at h.page]; rfl, by rw [P3.cell_at h.page]; rfl, by rw [P3.cell_at h.page]; rfl, by rw [P3.cell_at h.page]; rfl⟩
theorem al8_put (h : QS true a w b d 0 ⟨#[97]⟩ 0 []) :
    Calls Tryz.prog 9 #[.pointer (some ⟨b, 0, none⟩), .slice (some ⟨w.heap.size + 1, 0, none⟩) 1 1] ((w.alloc (.cells #[.int .i64 3, .int .i64 3, .int .i64 1, .string ⟨#[120]⟩] 47)).alloc (.cells #[.int .i64 3, .int .i64 3, .int .i64 1, .string ⟨#[120]⟩] 47)) fun e w' => e = .returned (.int .i64 0) ∧ AS a w' b d w.heap.size 4 0 AX := by
  have hsz : (w.alloc (.cells pX.cells 47)).heap.size = w.heap.size + 1 := by simp
  have hb := P3.below_new w (.cells pX.cells 47)
  have hv := pages_one (w.alloc (.cells pX.cells 47)) pX
  rw [hsz] at hv
  have hlt := h.lt
  refine (h.put (P3.grow hb _) (by decide) (by decide) hv (fun B off n c e => ?_) (fun p hp => ?_) (m := 0) rfl (by decide) ?_ (fun _ => by decide)).mono ?_
  · cases e; exact .inr (Nat.le_succ _)
  · rw [List.mem_singleton.1 hp]; exact pX_ok
  · rw [put_X]; decide
  · rintro e w' ⟨rfl, q, hk⟩
    refine ⟨rfl, ?_, ?_, by omega⟩
    · rw [put_X] at q
      have e4 : AX = runA [97] [] 0 [(0, zer 256), (1, zer 256), (2, zer 256), (3, pX.sector)] := by unfold AX; rw [put_X]
      rw [e4]
      exact q
    · rw [hk w.heap.size (Nat.le_refl _) (by simp; omega)]
      exact P3.old_alloc (P3.new_at w _ _) _
theorem AS.get (h : AS a w b d P 4 0 AX) : Calls Tryz.prog 17 #[.pointer (some ⟨b, 0, none⟩), .int .i64 3] w fun e w' => e = .returned (.tuple #[.agg #[.int .i64 3, .int .i64 3, .int .i64 1, .string ⟨#[120]⟩], .int .i64 0]) ∧ AS a w' b d P 4 1 AX := by
  refine (h.qs.get (by decide) (by decide) 3).mono ?_
  rw [show (⟨#[97]⟩ : ByteArray).data.toList = [97] from rfl, AX_get, if_pos rfl, show wrap64 (0 + 1) = 1 by simp [wrap64]]
  rintro e w' ⟨rfl, q, ho⟩
  exact ⟨rfl, q, ho.keep h.page h.ne, h.ne⟩
theorem AS.size (h : AS a w b d P 4 1 AX) : Calls Tryz.prog 23 #[.pointer (some ⟨b, 0, none⟩)] w fun e w' => e = .returned (.int .i64 4) ∧ Below w.heap.size w w' := by
  have H := h.qs.size (by decide) (by decide)
  rw [show (⟨#[97]⟩ : ByteArray).data.toList = [97] from rfl, AX_size] at H
  exact H
theorem AS.fin (h : AS a w b d P t n A) : Below a.heap.size a w := h.qs.fr
set_option maxRecDepth 100000 in
set_option maxHeartbeats 1000000 in
theorem alive_any8 (w : World) : Calls Tryz.prog 6 #[] w fun e w' => e = .returned (.bool true) ∧ Below w.heap.size w w' := by
  have HN := Lib.hid (fun w => qd_new w)
  have HO : Hid (∀ W d, QD true w W d 0 [] → Calls Tryz.prog 8 #[.pointer (some ⟨d, 0, none⟩), .string ⟨#[97]⟩] W fun e w' => ∃ b, e = .returned (.tuple #[.pointer (some ⟨b, 0, none⟩), .int .i64 0]) ∧ QS true w w' b d 0 ⟨#[97]⟩ 0 []) := fun W d h => QS.open h _ (by decide) (by decide)
  have HP : Hid (∀ W b d, QS true w W b d 0 ⟨#[97]⟩ 0 [] → Calls Tryz.prog 9 #[.pointer (some ⟨b, 0, none⟩), .slice (some ⟨W.heap.size + 1, 0, none⟩) 1 1] ((W.alloc (.cells #[.int .i64 3, .int .i64 3, .int .i64 1, .string ⟨#[120]⟩] 47)).alloc (.cells #[.int .i64 3, .int .i64 3, .int .i64 1, .string ⟨#[120]⟩] 47)) fun e w' => e = .returned (.int .i64 0) ∧ AS w w' b d W.heap.size 4 0 AX) := fun W b d h => al8_put h
  have HE : ∀ w, (binOp .eql 47 (.agg #[.int .i64 3, .int .i64 3, .int .i64 1, .string ⟨#[120]⟩]) (.agg #[.int .i64 3, .int .i64 3, .int .i64 1, .string ⟨#[120]⟩])).run Tryz.prog w = .ok (.bool true) w := by
    intro w
    have := page_eql w pX pX
    rw [P5.Pg.same_self] at this
    exact this
  go_enter Tryz.func6, Tryz.ntmps6
  go_wp2_with (first
    | (go_at_call 7; (with_reducible refine (HN.out _).mono ?_); rintro e w1 ⟨rfl, hq⟩; have HQ := Lib.hid hq; clear hq)
    | (go_at_call 8; (with_reducible refine (HO.out _ _ HQ.out).mono ?_); rintro e w2 ⟨b, rfl, hq⟩; have HS := Lib.hid hq; have e1 : (w2.alloc (.cells #[.int .i64 3, .int .i64 3, .int .i64 1, .string ⟨#[120]⟩] 47)).cell? ⟨w2.heap.size, 0, none⟩ = some (.int .i64 3) := (by rw [P3.cell_at (P3.new_at w2 _ _)]; rfl); have e2 : (w2.alloc (.cells #[.int .i64 3, .int .i64 3, .int .i64 1, .string ⟨#[120]⟩] 47)).cell? ⟨w2.heap.size, 1, none⟩ = some (.int .i64 3) := (by rw [P3.cell_at (P3.new_at w2 _ _)]; rfl); have e3 : (w2.alloc (.cells #[.int .i64 3, .int .i64 3, .int .i64 1, .string ⟨#[120]⟩] 47)).cell? ⟨w2.heap.size, 2, none⟩ = some (.int .i64 1) := (by rw [P3.cell_at (P3.new_at w2 _ _)]; rfl); have e4 : (w2.alloc (.cells #[.int .i64 3, .int .i64 3, .int .i64 1, .string ⟨#[120]⟩] 47)).cell? ⟨w2.heap.size, 3, none⟩ = some (.string ⟨#[120]⟩) := (by rw [P3.cell_at (P3.new_at w2 _ _)]; rfl); clear hq)
    | (go_at_call 9; (with_reducible refine (HP.out _ _ _ HS.out).mono ?_); rintro e w3 ⟨rfl, hq⟩; have HA := Lib.hid hq; clear hq e1 e2 e3 e4)
    | (go_at_call 17; (with_reducible refine (HA.out.get).mono ?_); rintro e w4 ⟨rfl, hq⟩; have HG := Lib.hid (hq.over (P3.below_new w4 (.cells #[.int .i64 3, .int .i64 3, .int .i64 1, .string ⟨#[120]⟩] 47))); have hn := P3.new_at w4 #[.int .i64 3, .int .i64 3, .int .i64 1, .string ⟨#[120]⟩] 47; have HW := Lib.hid hn; clear hq hn)
    | (go_at_call 23; (with_reducible refine (HG.out.size).mono ?_); rintro e w5 ⟨rfl, hb⟩; have HZ := Lib.hid (HG.out.over hb); obtain ⟨c0, c1, c2, c3⟩ := HZ.out.cells; have hn := P3.old_below HW.out hb; have d0 : w5.cell? ⟨w4.heap.size, 0, none⟩ = some (.int .i64 3) := (by rw [P3.cell_at hn]; rfl); have d1 : w5.cell? ⟨w4.heap.size, 1, none⟩ = some (.int .i64 3) := (by rw [P3.cell_at hn]; rfl); have d2 : w5.cell? ⟨w4.heap.size, 2, none⟩ = some (.int .i64 1) := (by rw [P3.cell_at hn]; rfl); have d3 : w5.cell? ⟨w4.heap.size, 3, none⟩ = some (.string ⟨#[120]⟩) := (by rw [P3.cell_at hn]; rfl); clear hb hn)
    | (go_at_call 22; (with_reducible refine (HZ.out.qs.reads).mono ?_); rintro e w6 ⟨rfl, rfl⟩)
    | (go_at_call 27; (with_reducible refine (HZ.out.qs.name).mono ?_); rintro e w7 ⟨rfl, rfl⟩))
  go_ret
  exact ⟨rfl, HZ.out.fin⟩
end
end Go.Proofs.YtbkngnjkaledlaaGreat.P8
