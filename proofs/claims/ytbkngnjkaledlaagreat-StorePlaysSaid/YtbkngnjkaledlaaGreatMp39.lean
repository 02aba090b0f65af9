/-
  Texts of the proof of SaidPlay8b.
-/
import Derived.Test.YtbkngnjkaledlaaGreatMp38
namespace Go.Proofs.YtbkngnjkaledlaaGreat.P8
open Go Go.RowKit Go.Lib Go.Maps Go.ChangeMaps Go.MapKept P3 P4
open P5 (Pg zer)
open P6 (Mt)
section
variable {a w w' w1 w2 W : World} {d r b fb m : Nat} {K K1 K2 : Dk} {D D1 : RM} {ks : List Int} {s : ByteArray} {n : Int} {X : List (Nat × Obj)} {z : Int}
theorem put_none {v : Value} (hv : PagesIn w v []) : Calls Tryz.prog 9 #[.pointer (some ⟨b, 0, none⟩), v] w fun e w' => e = .returned (.int .i64 0) ∧ Below w.heap.size w w' := by
 have HC := Lib.hid (contains_any hv false ⟨fun q => Bool.noConfusion q, fun q => absurd (fun p hp => by cases hp) q⟩)
 obtain ⟨av, c, e, _⟩ := hv
 have e2 : v = .slice av 0 c := e
 subst e2
 clear e
 go_enter Tryz.func9, Tryz.ntmps9
 go_wp2_with (go_at_call 33; (with_reducible refine (HC.out).mono ?_); rintro e w3 ⟨rfl, hb3⟩; have H3 := Lib.hid hb3; clear hb3)
 go_loopw [16] (fun vi wr => vi = .int .i64 0 ∧ Hid (Below w.heap.size w wr)) (fun _ _ => 0)
 case atStart => exact ⟨rfl, H3⟩
 case round =>
  clear H3
  obtain ⟨rfl, H⟩ := hrel
  go_wp2
  go_ret
  exact ⟨rfl, H.out⟩
theorem putW_len (M : Nat) : ∀ (l : List Pg) (m : Nat), (∀ p ∈ l, p.id.toNat < M) → (putW m l).length ≤ l.length + (M - m) := by
 intro l
 induction l with
 | nil => intro m _; show 0 ≤ _; omega
 | cons p l ih =>
  intro m h
  have hp := h p (List.mem_cons_self ..)
  have i1 := ih (max (max m p.id.toNat) (p.id.toNat + 1)) (fun q hq => h q (List.mem_cons_of_mem _ hq))
  have e : putW m (p :: l) = pageW m p ++ putW (max (max m p.id.toNat) (p.id.toNat + 1)) l := by
   show zerosW (zer 256) m p.id.toNat ++ (p.id, p.sector) :: putW _ l = _
   unfold pageW
   rw [List.append_assoc]
   rfl
  rw [e, List.length_append, pageW_len, List.length_cons]
  omega
theorem SS.small (h : SS a w d K r D ks b s n X) (hm : SzF K s m) : m ≤ 4001 := by
 unfold SzF sizeF at hm
 split at hm
 ·cases hg : getF K.files s.data.toList with
  | none => rw [hg] at hm; have hm' : 0 = m := hm; omega
  | some F =>
   rw [hg] at hm
   have hm' : F.secs.length = m := hm
   have := (h.pr.at1.files.ok _ (getF_mem hg)).room
   have h2 : F.secs.length ≤ 4001 := this
   omega
 ·omega
theorem SS.szf (h : SS a w d K r D ks b s n X) : SzF K s (sizeR D s) := h.pr.eqv.sizeF h.pr.at1 s
theorem SS.on (h : SS a w d K r D ks b s n X) : K.on = !D.off := by rw [h.pr.eqv.on, Bool.not_not]
theorem off_trace {l : List (Int × ByteArray)} {x : Int × ByteArray} (hon : K.on = false) (h : WTr d s K (x :: l) z K2) : z = 14 ∧ K2 = K := by
 obtain ⟨i, data⟩ := x
 obtain ⟨z1, K1, w0, w1, _, _, _, hw, hr⟩ := h.inv
 have he : P4.writeE K s i data.size = 14 := by
  have e : errn K.on s.size = 14 := by unfold errn; rw [if_pos hon]
  unfold P4.writeE
  rw [e, if_pos (by decide)]
 rcases hw with ⟨_, q2, q3⟩ | ⟨q1, _⟩ | ⟨q1, _⟩
 ·rw [he] at q2
  subst q2 q3
  rcases hr with ⟨q, _⟩ | ⟨_, q1, q2⟩
  ·exact absurd q (by decide)
  ·exact ⟨q1, q2⟩
 ·rw [he] at q1; exact absurd q1 (by decide)
 ·rw [he] at q1; exact absurd q1 (by decide)
theorem Run.ended {W0 W2 : World} {D0 : RM} {m1 : Nat} {y : Int} (h : Run a W0 W2 fb r d s D0 D1 ks K1 m1 y [] z K2) : y = z ∧ K2 = K1 := by
 rcases h.2.2.2 with ⟨q1, _, q2⟩ | ⟨_, q2, q3⟩
 ·obtain ⟨e1, e2⟩ := q2.nil_inv
  exact ⟨by rw [q1, e1], e2⟩
 ·exact ⟨q2.symm, q3⟩
def Both (a : World) (d : Nat) (K : Dk) (r : Nat) (ks : List Int) (b : Nat) (s : ByteArray) (n : Int) (X : List (Nat × Obj)) (w : World) (f1 f2 : Nat) (a1 a2 : Array Value) : Prop :=
 Calls Tryz.prog f1 a1 w fun e w1 => ∃ z : Int, e = .returned (.int .i64 z) ∧ (∀ p ∈ X, w1.heap[p.1]? = some p.2) ∧ ∀ W, Below w1.heap.size w1 W → Calls Tryz.prog f2 a2 W fun e w2 => e = .returned (.int .i64 z) ∧ ∃ K1 D1, SS a w2 d K1 r D1 ks b s n X ∧ K1.turn ≤ K.turn + 75
theorem SS.put (h : SS a w d K r D ks b s n X) (hf : (fb, Obj.cells #[.pointer (some ⟨r, 0, none⟩), .string s] 38 (0, 0)) ∈ X) (h1 : 1 ≤ s.size) (h2 : s.size ≤ 40) (ht : K.turn ≤ 6000) {v : Value} {l : List Pg} (hv : PagesIn a v l) (hl : ∀ p ∈ l, p.id ≤ 60) (h12 : l.length ≤ 12) :
  Both a d K r ks b s n X w 9 10 #[.pointer (some ⟨b, 0, none⟩), v] #[.pointer (some ⟨fb, 0, none⟩), v] := by
 have hvw := hv.below h.pr.below
 by_cases hok : ∀ p ∈ l, okPut p
 ·by_cases hn : l = []
  ·subst hn
   refine (put_none hvw).mono ?_
   rintro e w1 ⟨rfl, hb1⟩
   refine ⟨0, rfl, fun p hp => ((h.over hb1).x p hp).1, fun W hb => ?_⟩
   have hW := (h.over hb1).over hb
   refine (put_first hv hok (hW.file hf) (.inl rfl)).mono ?_
   rintro e w2 ⟨rfl, hb2⟩
   exact ⟨rfl, K, D, hW.over hb2, by omega⟩
  ·have hlen := putW_len 61 l (sizeR D s) (fun p hp => by have := hl p hp; omega)
   have hm := h.small h.szf
   have hap : ∀ B off n c, v = .slice (some ⟨B, off, none⟩) n c → ¬ K.foot d B := fun B off n c e q => by
    obtain ⟨av, cv, e2, _, h3⟩ := hv
    rw [e2] at e
    simp only [Value.slice.injEq] at e
    obtain ⟨rfl, rfl, rfl⟩ := e
    obtain ⟨B', off', e3, h4, _⟩ := h3 (List.length_pos_iff.2 hn)
    cases e3
    have := h.pr.f1 B q
    omega
   refine (h.sd.put hvw hap hok h.szf (by omega) (by unfold maxLen; omega) h.pr.eqv.leftle (by omega)).mono ?_
   rintro e w1 ⟨z, K2, rfl, hd⟩
   have hM : SM a w d K r D ks b s n X w1 K2 := ⟨h, hd.st⟩
   have hturn := hd.tr.turn
   refine ⟨z, rfl, hM.x, fun W hb => ?_⟩
   have hMW := hM.over hb
   cases hoff : D.off with
   | true =>
    have hon : K.on = false := by rw [h.on, hoff]; rfl
    obtain ⟨p, l', rfl⟩ := List.exists_cons_of_ne_nil hn
    have hz0 : sizeR D s = 0 := (off_size hoff).1
    have htr := hd.tr
    have h3 := (hok p (List.mem_cons_self ..)).2.2
    rw [hz0, show putW 0 (p :: l') = zerosW (zer 256) 0 p.id.toNat ++ (p.id, p.sector) :: putW (max (max 0 p.id.toNat) (p.id.toNat + 1)) l' from rfl, zerosW_next (by omega), List.cons_append] at htr
    obtain ⟨rfl, rfl⟩ := off_trace hon htr
    refine (put_first hv hok (hMW.file hf) (.inr hoff)).mono ?_
    rintro e w2 ⟨rfl, hb2⟩
    exact ⟨rfl, _, D, hMW.step (RStep.below (hMW.file hf).at' hb2) h.pr.eqv h.pr.kint, by omega⟩
   | false =>
    have hon : K.on = true := by rw [h.on, hoff]; rfl
    have he := errn_good h1 h2
    have hsk : SzK K s (sizeR D s) := by
     refine ⟨hon, by rw [hon]; exact he, ?_⟩
     have := h.szf
     unfold SzF sizeF at this
     rw [hon, if_pos he] at this
     rw [← this]
     unfold sizeN
     cases getF K.files s.data.toList <;> rfl
    have hrun : Run a W W fb r d s D D ks K (sizeR D s) 0 (putW (sizeR D s) l) z K2 := ⟨hMW.file hf, RStep.below (hMW.file hf).at' (Below.refl _ _), h.pr.eqv, .inl ⟨rfl, hsk, hd.tr⟩⟩
    refine (Run.put hv hok (by omega) hrun).mono ?_
    rintro e w2 ⟨y, D1, K1, m1, rfl, hr⟩
    obtain ⟨rfl, rfl⟩ := hr.ended
    exact ⟨rfl, K2, D1, hMW.step hr.2.1 hr.2.2.1 hr.1.kv, by omega⟩
 ·refine (putst_bad hvw hok).mono ?_
  rintro e w1 ⟨rfl, hb1⟩
  refine ⟨1, rfl, fun p hp => ((h.over hb1).x p hp).1, fun W hb => ?_⟩
  have hW := (h.over hb1).over hb
  refine (put_bad hv hW.pr.below hok).mono ?_
  rintro e w2 ⟨rfl, hb2⟩
  exact ⟨rfl, K, D, hW.over hb2, by omega⟩
theorem SS.setMeta (h : SS a w d K r D ks b s n X) (hf : (fb, Obj.cells #[.pointer (some ⟨r, 0, none⟩), .string s] 38 (0, 0)) ∈ X) (h1 : 1 ≤ s.size) (h2 : s.size ≤ 40) (ht : K.turn ≤ 6000) (mt : Mt) :
  Both a d K r ks b s n X w 11 12 #[.pointer (some ⟨b, 0, none⟩), mt.v] #[.pointer (some ⟨fb, 0, none⟩), mt.v] := by
 by_cases hok : mt.ok
 ·have hm := h.small h.szf
  refine (h.sd.setMeta mt hok h.szf (by omega) (by unfold maxLen; omega) h.pr.eqv.leftle (by omega)).mono ?_
  rintro e w1 ⟨z, K2, rfl, hd⟩
  have hM : SM a w d K r D ks b s n X w1 K2 := ⟨h, hd.st⟩
  have hturn := hd.tr.turn
  have hlen : (metaW (sizeR D s) mt).length ≤ 3 := by unfold metaW; rw [List.length_append, zerosW_len]; show _ + 1 ≤ 3; omega
  refine ⟨z, rfl, hM.x, fun W hb => ?_⟩
  have hMW := hM.over hb
  cases hoff : D.off with
  | true =>
   have hon : K.on = false := by rw [h.on, hoff]; rfl
   have hz0 : sizeR D s = 0 := (off_size hoff).1
   have htr := hd.tr
   unfold metaW at htr
   rw [hz0, zerosW_next (by decide), List.cons_append] at htr
   obtain ⟨rfl, rfl⟩ := off_trace hon htr
   refine ((hMW.file hf).setMeta_off hoff mt hok).mono ?_
   rintro e w2 ⟨rfl, hb2⟩
   exact ⟨rfl, _, D, hMW.step (RStep.below (hMW.file hf).at' hb2) h.pr.eqv h.pr.kint, by omega⟩
  | false =>
   have hon : K.on = true := by rw [h.on, hoff]; rfl
   have he := errn_good h1 h2
   have hsk : SzK K s (sizeR D s) := by
    refine ⟨hon, by rw [hon]; exact he, ?_⟩
    have := h.szf
    unfold SzF sizeF at this
    rw [hon, if_pos he] at this
    rw [← this]
    unfold sizeN
    cases getF K.files s.data.toList <;> rfl
   have hrun : Run a W W fb r d s D D ks K (sizeR D s) 0 (metaW (sizeR D s) mt) z K2 := ⟨hMW.file hf, RStep.below (hMW.file hf).at' (Below.refl _ _), h.pr.eqv, .inl ⟨rfl, hsk, hd.tr⟩⟩
   refine (Run.setMeta hok (by omega) hrun).mono ?_
   rintro e w2 ⟨y, D1, K1, m1, rfl, hr⟩
   obtain ⟨rfl, rfl⟩ := hr.ended
   exact ⟨rfl, K2, D1, hMW.step hr.2.1 hr.2.2.1 hr.1.kv, by omega⟩
 ·refine (setmeta_bad h.sd mt hok).mono ?_
  rintro e w1 ⟨rfl, hb1⟩
  refine ⟨1, rfl, fun p hp => ((h.over hb1).x p hp).1, fun W hb => ?_⟩
  have hW := (h.over hb1).over hb
  refine (setmetaR_bad W fb mt hok).mono ?_
  rintro e w2 ⟨rfl, hb2⟩
  exact ⟨rfl, K, D, hW.over hb2, by omega⟩
end
end Go.Proofs.YtbkngnjkaledlaaGreat.P8
