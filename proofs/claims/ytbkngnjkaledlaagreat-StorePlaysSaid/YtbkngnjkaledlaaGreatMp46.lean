/-
  Texts of the proof of SaidPlay8b.
-/
import Derived.Test.YtbkngnjkaledlaaGreatMp45
set_option maxHeartbeats 8000000
set_option maxRecDepth 100000
namespace Go.Proofs.YtbkngnjkaledlaaGreat.P8
open Go Go.RowKit Go.Lib Go.Maps Go.ChangeMaps Go.MapKept P3 P4
open P5 (Pg zer zer_size)
def runA (n : List UInt8) : AL → Nat → List (Int × ByteArray) → AL
 | A, _, [] => A
 | A, t, x :: l => runA n (writeA A n (t + 1) x.1.toNat x.2) (t + 1) l
def okRun : Nat → List (Int × ByteArray) → Prop
 | _, [] => True
 | m, x :: l => x.2.size = 256 ∧ 0 ≤ x.1 ∧ x.1 ≤ m ∧ x.1 ≤ 4000 ∧ okRun (max m (x.1.toNat + 1)) l
theorem okRun_app {l k : List (Int × ByteArray)} : ∀ {m : Nat}, okRun m (l ++ k) ↔ okRun m l ∧ okRun (endW m l) k := by
 induction l with
 | nil => intro m; simp [okRun, endW]
 | cons x l ih =>
  intro m
  obtain ⟨i, d⟩ := x
  show _ ∧ _ ∧ _ ∧ _ ∧ okRun _ (l ++ k) ↔ (_ ∧ _ ∧ _ ∧ _ ∧ okRun _ l) ∧ okRun (endW _ l) k
  rw [ih]
  simp only [and_assoc]
theorem okRun_zeros (n : Nat) (hn : n ≤ 4000) : ∀ (q m : Nat), n - m = q → okRun m (zerosW (zer 256) m n) := by
 intro q
 induction q with
 | zero => intro m h; rw [zerosW_done (by omega)]; trivial
 | succ q ih =>
  intro m h
  rw [zerosW_next (by omega)]
  refine ⟨zer_size _, by show (0 : Int) ≤ (m : Int); omega, by show (m : Int) ≤ m; omega, by show (m : Int) ≤ 4000; omega, ?_⟩
  show okRun (max m ((m : Int).toNat + 1)) _
  rw [show max m ((m : Int).toNat + 1) = m + 1 by omega]
  exact ih (m + 1) (by omega)
theorem okRun_put : ∀ {l : List Pg} {m : Nat}, (∀ p ∈ l, okPut p) → okRun m (putW m l) := by
 intro l
 induction l with
 | nil => intro m _; trivial
 | cons p l ih =>
  intro m h
  have ho := h p (List.mem_cons_self ..)
  have h1 := ho.2.2
  have h2 := ho.1.2.2.2.1
  show okRun m (zerosW (zer 256) m p.id.toNat ++ (p.id, p.sector) :: putW _ l)
  rw [okRun_app]
  refine ⟨okRun_zeros _ (by omega) _ m rfl, ?_⟩
  rw [endW_zeros _ _ _ m rfl]
  exact ⟨p.sector_size ho.1, by omega, by show p.id ≤ ((max m p.id.toNat : Nat) : Int); omega, by show p.id ≤ 4000; omega, ih fun q hq => h q (List.mem_cons_of_mem _ hq)⟩
theorem getA_write (A : AL) (n : List UInt8) (t i : Nat) (d : ByteArray) : getA (writeA A n t i d) n = some (((getA A n).getD ⟨[], [], false, []⟩).write t i d) := by simp [writeA, getA]
theorem aw_len (F : AF) (t i : Nat) (d : ByteArray) (h : i ≤ F.now.length) : (F.write t i d).now.length = max F.now.length (i + 1) := by
 unfold AF.write
 by_cases e : i = F.now.length
 ·simp only [if_pos e, List.length_append, List.length_cons, List.length_nil]; omega
 ·simp only [if_neg e, List.length_set]; omega
theorem size_write {A : AL} {n : List UInt8} {t i : Nat} {d : ByteArray} (h : i ≤ sizeA A n) : sizeA (writeA A n t i d) n = max (sizeA A n) (i + 1) := by
 have e : sizeA A n = ((getA A n).getD ⟨[], [], false, []⟩).now.length := by unfold sizeA; cases getA A n <;> rfl
 rw [e] at h ⊢
 unfold sizeA
 rw [getA_write]
 exact aw_len _ _ _ _ h
section
variable {w w' w1 a : World} {b d m t : Nat} {s : ByteArray} {i z : Int} {n : Int} {K K1 K2 : Dk} {l : List (Int × ByteArray)} {A : AL} {on : Bool}
theorem calm_write0 (hK : DiskAt w d K) (hC : P4.Calm K true t) (hA : (absL K.files).Perm A) (h1 : 1 ≤ s.size) (h2 : s.size ≤ 40) (hm : sizeA A s.data.toList = m) (h3 : 0 ≤ i) (h4 : i ≤ m) (h5 : i ≤ 4000) (hl : getA A s.data.toList = none → A.length < 60) : P4.writeE K s i 256 = 0 := by
 have hL : DA w d K A := ⟨hK, hA⟩
 have hlen : K.files.length = A.length := by rw [← hA.length_eq]; simp [absL]
 unfold P4.writeE
 rw [if_neg (by rw [hC.on, errn_good h1 h2]; decide), if_neg (by omega), hL.size, if_neg (by omega), if_neg (fun hx => by rw [hC.full] at hx; exact absurd hx.2 (by decide)),
  if_neg (fun hx => by have := hl ((hL.getNone _).1 hx.1); omega)]
theorem WTr.calm (h : WTr d s K l z K2) (h1 : 1 ≤ s.size) (h2 : s.size ≤ 40) : ∀ {A : AL} {t m : Nat}, P4.Calm K true t → (absL K.files).Perm A → sizeA A s.data.toList = m → okRun m l → (getA A s.data.toList = none → A.length < 60) →
  z = 0 ∧ P4.Calm K2 true (t + l.length) ∧ (absL K2.files).Perm (runA s.data.toList A t l) := by
 induction h with
 | nil K => intro A t m hC hA _ _ _; exact ⟨rfl, hC, hA⟩
 | @ok K K1 K2 i data l z w0 w1 hK ht hdm hw rest ih =>
  intro A t m hC hA hm ho hl
  obtain ⟨o1, o2, o3, o4, o5⟩ := ho
  rcases hw with ⟨q1, q2, _⟩ | ⟨_, _, q, _⟩ | ⟨_, _, _, K0, hwr, rfl⟩
  ·exact absurd q2.symm q1
  ·exact absurd q (by decide)
  ·have hsame := hwr.same
   have harm : K0.armed = false := by rw [hsame]; exact hC.armed
   have hc : counted K0 = K0 := by unfold counted; rw [if_neg (by rw [harm]; decide)]
   rw [hc] at ih
   have habs := hwr.abs (A := A) ⟨hK, hA⟩
   rw [hC.turn] at habs
   have hC0 : P4.Calm K0 true (t + 1) := by rw [hsame]; exact ⟨hC.on, hC.room, hC.armed, hC.left, by show K.turn + 1 = _; rw [hC.turn]⟩
   have hi : i.toNat ≤ sizeA A s.data.toList := by rw [hm]; omega
   have r := ih hC0 habs (m := max m (i.toNat + 1)) (by rw [← hm]; exact size_write hi) o5 (fun q => by have q2 := getA_write A s.data.toList (t + 1) i.toNat data; unfold writeA at q2; rw [q2] at q; cases q)
   refine ⟨r.1, ?_, r.2.2⟩
   rw [List.length_cons, show t + (l.length + 1) = t + 1 + l.length by omega]
   exact r.2.1
 | @bad K K1 i data l z w0 w1 hK ht hdm hw hz =>
  intro A t m hC hA hm ho hl
  obtain ⟨o1, o2, o3, o4, o5⟩ := ho
  have e0 := calm_write0 hK hC hA h1 h2 hm o2 o3 o4 hl
  rw [← o1] at e0
  rcases hw with ⟨q1, _, _⟩ | ⟨_, ⟨q, _⟩, _⟩ | ⟨_, _, q, _⟩
  ·exact absurd e0 q1
  ·rw [hC.armed] at q; cases q
  ·exact absurd q hz
def QS (on : Bool) (a w : World) (b d t : Nat) (s : ByteArray) (n : Int) (A : AL) : Prop := ∃ K, Lives a w d K A ∧ P4.Calm K on t ∧ SD w b d s n K ∧ a.heap.size ≤ b
theorem QS.below (h : QS on a w b d t s n A) (hb : Below w.heap.size w w') : QS on a w' b d t s n A := by
 obtain ⟨K, h1, h2, h3, h4⟩ := h
 exact ⟨K, h1.below hb, h2, h3.below hb, h4⟩
theorem QS.fr (h : QS on a w b d t s n A) : Below a.heap.size a w := by
 obtain ⟨K, h1, h2, h3, h4⟩ := h
 exact h1.fr
theorem QS.lt (h : QS on a w b d t s n A) : b < w.heap.size := by
 obtain ⟨K, h1, h2, h3, h4⟩ := h
 exact h3.1.lt
theorem QS.open (h : QD true a w d t A) (s : ByteArray) (h1 : 1 ≤ s.size) (h2 : s.size ≤ 40) : Calls Tryz.prog 8 #[.pointer (some ⟨d, 0, none⟩), .string s] w fun e w' => ∃ b, e = .returned (.tuple #[.pointer (some ⟨b, 0, none⟩), .int .i64 0]) ∧ QS true a w' b d t s 0 A := by
 obtain ⟨K, hL, hC⟩ := h
 refine (open_ok hL.da.at' s h1 h2 hC.on).mono ?_
 rintro e w' ⟨b, rfl, q1, q2, q3⟩
 exact ⟨b, rfl, K, hL.below q3, hC, q2, Nat.le_trans hL.fr.size q1⟩
theorem QS.szf (hL : Lives a w d K A) (hC : P4.Calm K true t) (h1 : 1 ≤ s.size) (h2 : s.size ≤ 40) : SzF K s (sizeA A s.data.toList) := by
 unfold SzF sizeF
 rw [hC.on, if_pos (errn_good h1 h2), ← hL.da.size]
 unfold sizeN
 cases getF K.files s.data.toList <;> rfl
theorem QS.put {w0 : World} (h : QS true a w0 b d t s n A) (hb0 : Below w0.heap.size w0 w) (h1 : 1 ≤ s.size) (h2 : s.size ≤ 40) {v : Value} {l : List Pg} (hv : PagesIn w v l) (hap : ∀ B off n c, v = .slice (some ⟨B, off, none⟩) n c → B < a.heap.size ∨ w0.heap.size ≤ B) (hok : ∀ p ∈ l, okPut p) (hm : sizeA A s.data.toList = m) (hm2 : m ≤ 5000) (ht : t + (putW m l).length < 8999) (hl : getA A s.data.toList = none → A.length < 60) :
  Calls Tryz.prog 9 #[.pointer (some ⟨b, 0, none⟩), v] w fun e w' => e = .returned (.int .i64 0) ∧ QS true a w' b d (t + (putW m l).length) s n (runA s.data.toList A t (putW m l)) ∧ ∀ k, w0.heap.size ≤ k → k < w.heap.size → w'.heap[k]? = w.heap[k]? := by
 obtain ⟨K, hL0, hC, hS0, hb⟩ := h
 have hL := hL0.below hb0
 have hS := hS0.below hb0
 have hsz := QS.szf hL hC h1 h2
 rw [hm] at hsz
 refine (hS.put hv (fun B off n c e q => by
  have q1 := hL0.foot B q
  have q2 := hL0.da.at'.foot_lt B q
  have q3 := hap B off n c e
  omega) hok hsz hm2 (by unfold maxLen; omega) (by rw [hC.left]; decide) (by rw [hC.turn]; exact ht)).mono ?_
 rintro e w' ⟨z, K2, rfl, hd⟩
 obtain ⟨rfl, q1, q2⟩ := hd.tr.calm h1 h2 hC hL.da.abs hm (okRun_put hok) hl
 exact ⟨rfl, ⟨K2, hL.step hd.st q2, q1, hd.sd, hb⟩, fun k hk1 hk2 => hd.st.fr.block k hk2 (fun q => by have := hL0.da.at'.foot_lt k q; omega)⟩
def getQ (A : AL) (n : List UInt8) (id : Int) : Pg × Int :=
 getOf (if id < 0 ∨ (sizeA A n : Int) ≤ id then ⟨#[]⟩ else nowA (getA A n) id.toNat) (if getA A n = none then 8 else if id < 0 ∨ (sizeA A n : Int) ≤ id then 15 else 0) id
theorem getK_Q (hL : Lives a w d K A) (hC : P4.Calm K true t) (h1 : 1 ≤ s.size) (h2 : s.size ≤ 40) (id : Int) : getK K s id = getQ A s.data.toList id := by
 have e1 : errF K.on s.size (getF K.files s.data.toList) = if getA A s.data.toList = none then 8 else 0 := by
  unfold errF
  rw [hC.on, if_pos (errn_good h1 h2)]
  cases hg : getF K.files s.data.toList with
  | none => rw [if_pos ((hL.da.getNone _).1 hg)]
  | some F => rw [if_neg (fun q => by rw [(hL.da.getNone _).2 q] at hg; cases hg)]
 have e2 : P4.readE K s id = if getA A s.data.toList = none then 8 else if id < 0 ∨ (sizeA A s.data.toList : Int) ≤ id then 15 else 0 := by
  unfold P4.readE
  rw [e1, hL.da.size]
  by_cases q : getA A s.data.toList = none
  ·rw [if_pos q, if_pos q]; rfl
  ·rw [if_neg q, if_neg q]; rfl
 have e3 : readT K s id = if P4.readE K s id ≠ 0 then ⟨#[]⟩ else nowA (getA A s.data.toList) id.toNat := by
  unfold readT
  rw [hL.da.now]
 unfold getK getQ
 rw [e3, e2]
 by_cases q : getA A s.data.toList = none
 ·rw [if_pos q, if_pos (by decide)]
  unfold getOf
  rw [if_pos (by decide), if_pos (by decide)]
 ·rw [if_neg q]
  by_cases q2 : id < 0 ∨ (sizeA A s.data.toList : Int) ≤ id
  ·rw [if_pos q2, if_pos q2, if_pos (by decide)]
  ·rw [if_neg q2, if_neg q2, if_neg (by decide)]
theorem QS.get (h : QS true a w b d t s n A) (h1 : 1 ≤ s.size) (h2 : s.size ≤ 40) (id : Int) :
  Calls Tryz.prog 17 #[.pointer (some ⟨b, 0, none⟩), .int .i64 id] w fun e w' => e = .returned (.tuple #[(getQ A s.data.toList id).1.v, .int .i64 (getQ A s.data.toList id).2]) ∧ QS true a w' b d t s (if (getQ A s.data.toList id).2 = 0 then wrap64 (n + 1) else n) A ∧ Only b w w' := by
 obtain ⟨K, hL, hC, hS, hb⟩ := h
 have e := getK_Q hL hC h1 h2 id
 refine (hS.get (by unfold maxLen; omega) id).mono ?_
 rw [e]
 rintro e w' ⟨rfl, q1, q2⟩
 exact ⟨rfl, ⟨K, ⟨⟨q1.2.1, hL.da.abs⟩, hL.foot, Only.new hL.fr q2 hb⟩, hC, q1, hb⟩, q2⟩
theorem QS.size (h : QS true a w b d t s n A) (h1 : 1 ≤ s.size) (h2 : s.size ≤ 40) :
  Calls Tryz.prog 23 #[.pointer (some ⟨b, 0, none⟩)] w fun e w' => e = .returned (.int .i64 (sizeA A s.data.toList : Nat)) ∧ Below w.heap.size w w' := by
 obtain ⟨K, hL, hC, hS, hb⟩ := h
 have hsz : sizeF K.on s.size (getF K.files s.data.toList) = sizeA A s.data.toList := QS.szf hL hC h1 h2
 have H := hS.size (by unfold maxLen; omega)
 rw [hsz] at H
 exact H
theorem QS.name (h : QS on a w b d t s n A) : Calls Tryz.prog 27 #[.pointer (some ⟨b, 0, none⟩)] w fun e w' => e = .returned (.string s) ∧ w = w' := by
 obtain ⟨K, hL, hC, hS, hb⟩ := h
 exact hS.1.name
theorem QS.reads (h : QS on a w b d t s n A) : Calls Tryz.prog 22 #[.pointer (some ⟨b, 0, none⟩)] w fun e w' => e = .returned (.int .i64 n) ∧ w = w' := by
 obtain ⟨K, hL, hC, hS, hb⟩ := h
 exact hS.1.reads
end
end Go.Proofs.YtbkngnjkaledlaaGreat.P8
namespace Go.Proofs.YtbkngnjkaledlaaGreat.P8
open Go Go.RowKit Go.Lib Go.Maps Go.ChangeMaps Go.MapKept P3 P4
open P5 (Pg zer page_eql)
theorem pages_one (w : World) (p : Pg) : PagesIn (w.alloc (.cells p.cells 47)) (.slice (some ⟨w.heap.size, 0, none⟩) 1 1) [p] := by
 refine ⟨some ⟨w.heap.size, 0, none⟩, 1, rfl, by show 1 ≤ _; decide, fun _ => ⟨w.heap.size, 0, rfl, by simp, fun i q hq j u hj => ?_⟩⟩
 have hi : i = 0 := by
  have := (List.getElem?_eq_some_iff.1 hq).1
  simp at this
  exact this
 subst hi
 obtain rfl : p = q := by simpa using hq
 rw [show (0 + 0 * 4 + j) = j by omega, P3.cell_at (P3.new_at w p.cells 47)]
 rw [← hj]
 simp
def pX : Pg := ⟨3, 3, 1, ⟨#[120]⟩⟩
theorem pX_ok : okPut pX := ⟨⟨by decide, by decide, by decide, by decide, by decide, by decide, by decide⟩, by decide, by decide⟩
def AX : AL := runA [97] [] 0 (putW 0 [pX])
theorem put_X : putW 0 [pX] = [(0, zer 256), (1, zer 256), (2, zer 256), (3, pX.sector)] := rfl
theorem run_X (z x : ByteArray) : runA [97] [] 0 [(0, z), (1, z), (2, z), (3, x)] = [([97], ⟨[z, z, z, x], [], false, [(1, 0, z), (2, 1, z), (3, 2, z), (4, 3, x)]⟩)] := rfl
theorem AX_eq : AX = [([97], ⟨[zer 256, zer 256, zer 256, pX.sector], [], false, [(1, 0, zer 256), (2, 1, zer 256), (3, 2, zer 256), (4, 3, pX.sector)]⟩)] := by unfold AX; rw [put_X, run_X]
theorem AX_size : sizeA AX [97] = 4 := by rw [AX_eq]; rfl
theorem get_X (z x : ByteArray) (ws : List (Nat × Nat × ByteArray)) : getQ [([97], ⟨[z, z, z, x], [], false, ws⟩)] [97] 3 = getOf x 0 3 := rfl
theorem AX_get : getQ AX [97] 3 = (pX, 0) := by
 rw [AX_eq, get_X]
 obtain ⟨h1, h2⟩ := P5.read_yes pX_ok.1
 unfold getOf
 rw [if_neg (by decide), h2, if_neg (by decide), h1, if_neg (by decide)]
section
variable {a w w0 W : World} {b d P t : Nat} {n : Int} {A : AL}
structure AS (a W : World) (b d P t : Nat) (n : Int) (A : AL) : Prop where
 qs : QS true a W b d t ⟨#[97]⟩ n A
 page : W.heap[P]? = some (.cells #[.int .i64 3, .int .i64 3, .int .i64 1, .string ⟨#[120]⟩] 47 (0, 0))
 ne : P ≠ b
theorem AS.over {W' : World} (h : AS a W b d P t n A) (hb : Below W.heap.size W W') : AS a W' b d P t n A := ⟨h.qs.below hb, P3.old_below h.page hb, h.ne⟩
theorem AS.cells (h : AS a W b d P t n A) : W.cell? ⟨P, 0, none⟩ = some (.int .i64 3) ∧ W.cell? ⟨P, 1, none⟩ = some (.int .i64 3) ∧ W.cell? ⟨P, 2, none⟩ = some (.int .i64 1) ∧ W.cell? ⟨P, 3, none⟩ = some (.string ⟨#[120]⟩) :=
 ⟨by rw [P3.cell_at h.page]; rfl, by rw [P3.cell_at h.page]; rfl, by rw [P3.cell_at h.page]; rfl, by rw [P3.cell_at h.page]; rfl⟩
theorem al8_put (h : QS true a w b d 0 ⟨#[97]⟩ 0 []) :
  Calls Tryz.prog 9 #[.pointer (some ⟨b, 0, none⟩), .slice (some ⟨w.heap.size + 1, 0, none⟩) 1 1] ((w.alloc (.cells #[.int .i64 3, .int .i64 3, .int .i64 1, .string ⟨#[120]⟩] 47)).alloc (.cells #[.int .i64 3, .int .i64 3, .int .i64 1, .string ⟨#[120]⟩] 47)) fun e w' => e = .returned (.int .i64 0) ∧ AS a w' b d w.heap.size 4 0 AX := by
 have hsz : (w.alloc (.cells pX.cells 47)).heap.size = w.heap.size + 1 := by simp
 have hb := P3.below_new w (.cells pX.cells 47)
 have hv := pages_one (w.alloc (.cells pX.cells 47)) pX
 rw [hsz] at hv
 have hlt := h.lt
 refine (h.put (P3.grow hb _) (by decide) (by decide) hv (fun B off n c e => ?_) (fun p hp => ?_) (m := 0) rfl (by decide) ?_ (fun _ => by decide)).mono ?_
 ·cases e; exact .inr (Nat.le_succ _)
 ·rw [List.mem_singleton.1 hp]; exact pX_ok
 ·rw [put_X]; decide
 ·rintro e w' ⟨rfl, q, hk⟩
  refine ⟨rfl, ?_, ?_, by omega⟩
  ·rw [put_X] at q
   have e4 : AX = runA [97] [] 0 [(0, zer 256), (1, zer 256), (2, zer 256), (3, pX.sector)] := by unfold AX; rw [put_X]
   rw [e4]
   exact q
  ·rw [hk w.heap.size (Nat.le_refl _) (by simp; omega)]
   exact P3.old_alloc (P3.new_at w _ _) _
theorem AS.get (h : AS a w b d P 4 0 AX) : Calls Tryz.prog 17 #[.pointer (some ⟨b, 0, none⟩), .int .i64 3] w fun e w' => e = .returned (.tuple #[.agg #[.int .i64 3, .int .i64 3, .int .i64 1, .string ⟨#[120]⟩], .int .i64 0]) ∧ AS a w' b d P 4 1 AX := by
 refine (h.qs.get (by decide) (by decide) 3).mono ?_
 rw [show (⟨#[97]⟩ : ByteArray).data.toList = [97] from rfl, AX_get, if_pos rfl, show wrap64 (0 + 1) = 1 by simp [wrap64]]
 rintro e w' ⟨rfl, q, ho⟩
 exact ⟨rfl, q, ho.keep h.page h.ne, h.ne⟩
theorem AS.size (h : AS a w b d P 4 1 AX) : Calls Tryz.prog 23 #[.pointer (some ⟨b, 0, none⟩)] w fun e w' => e = .returned (.int .i64 4) ∧ Below w.heap.size w w' := by
 have H := h.qs.size (by decide) (by decide)
 rw [show (⟨#[97]⟩ : ByteArray).data.toList = [97] from rfl, AX_size] at H
 exact H
theorem AS.fin (h : AS a w b d P t n A) : Below a.heap.size a w := h.qs.fr
theorem alive_any8 (w : World) : Calls Tryz.prog 6 #[] w fun e w' => e = .returned (.bool true) ∧ Below w.heap.size w w' := by
 have HN := Lib.hid (fun w => qd_new w)
 have HO : Hid (∀ W d, QD true w W d 0 [] → Calls Tryz.prog 8 #[.pointer (some ⟨d, 0, none⟩), .string ⟨#[97]⟩] W fun e w' => ∃ b, e = .returned (.tuple #[.pointer (some ⟨b, 0, none⟩), .int .i64 0]) ∧ QS true w w' b d 0 ⟨#[97]⟩ 0 []) := fun W d h => QS.open h _ (by decide) (by decide)
 have HP : Hid (∀ W b d, QS true w W b d 0 ⟨#[97]⟩ 0 [] → Calls Tryz.prog 9 #[.pointer (some ⟨b, 0, none⟩), .slice (some ⟨W.heap.size + 1, 0, none⟩) 1 1] ((W.alloc (.cells #[.int .i64 3, .int .i64 3, .int .i64 1, .string ⟨#[120]⟩] 47)).alloc (.cells #[.int .i64 3, .int .i64 3, .int .i64 1, .string ⟨#[120]⟩] 47)) fun e w' => e = .returned (.int .i64 0) ∧ AS w w' b d W.heap.size 4 0 AX) := fun W b d h => al8_put h
 have HE : ∀ w, (binOp .eql 47 (.agg #[.int .i64 3, .int .i64 3, .int .i64 1, .string ⟨#[120]⟩]) (.agg #[.int .i64 3, .int .i64 3, .int .i64 1, .string ⟨#[120]⟩])).run Tryz.prog w = .ok (.bool true) w := by
  intro w
  have := page_eql w pX pX
  rw [P5.Pg.same_self] at this
  exact this
 go_enter Tryz.func6, Tryz.ntmps6
 go_wp2_with (first
  | (go_at_call 7; (with_reducible refine (HN.out _).mono ?_); rintro e w1 ⟨rfl, hq⟩; have HQ := Lib.hid hq; clear hq)
  | (go_at_call 8; (with_reducible refine (HO.out _ _ HQ.out).mono ?_); rintro e w2 ⟨b, rfl, hq⟩; have HS := Lib.hid hq; have e1 : (w2.alloc (.cells #[.int .i64 3, .int .i64 3, .int .i64 1, .string ⟨#[120]⟩] 47)).cell? ⟨w2.heap.size, 0, none⟩ = some (.int .i64 3) := (by rw [P3.cell_at (P3.new_at w2 _ _)]; rfl); have e2 : (w2.alloc (.cells #[.int .i64 3, .int .i64 3, .int .i64 1, .string ⟨#[120]⟩] 47)).cell? ⟨w2.heap.size, 1, none⟩ = some (.int .i64 3) := (by rw [P3.cell_at (P3.new_at w2 _ _)]; rfl); have e3 : (w2.alloc (.cells #[.int .i64 3, .int .i64 3, .int .i64 1, .string ⟨#[120]⟩] 47)).cell? ⟨w2.heap.size, 2, none⟩ = some (.int .i64 1) := (by rw [P3.cell_at (P3.new_at w2 _ _)]; rfl); have e4 : (w2.alloc (.cells #[.int .i64 3, .int .i64 3, .int .i64 1, .string ⟨#[120]⟩] 47)).cell? ⟨w2.heap.size, 3, none⟩ = some (.string ⟨#[120]⟩) := (by rw [P3.cell_at (P3.new_at w2 _ _)]; rfl); clear hq)
  | (go_at_call 9; (with_reducible refine (HP.out _ _ _ HS.out).mono ?_); rintro e w3 ⟨rfl, hq⟩; have HA := Lib.hid hq; clear hq e1 e2 e3 e4)
  | (go_at_call 17; (with_reducible refine (HA.out.get).mono ?_); rintro e w4 ⟨rfl, hq⟩; have HG := Lib.hid (hq.over (P3.below_new w4 (.cells #[.int .i64 3, .int .i64 3, .int .i64 1, .string ⟨#[120]⟩] 47))); have hn := P3.new_at w4 #[.int .i64 3, .int .i64 3, .int .i64 1, .string ⟨#[120]⟩] 47; have HW := Lib.hid hn; clear hq hn)
  | (go_at_call 23; (with_reducible refine (HG.out.size).mono ?_); rintro e w5 ⟨rfl, hb⟩; have HZ := Lib.hid (HG.out.over hb); obtain ⟨c0, c1, c2, c3⟩ := HZ.out.cells; have hn := P3.old_below HW.out hb; have d0 : w5.cell? ⟨w4.heap.size, 0, none⟩ = some (.int .i64 3) := (by rw [P3.cell_at hn]; rfl); have d1 : w5.cell? ⟨w4.heap.size, 1, none⟩ = some (.int .i64 3) := (by rw [P3.cell_at hn]; rfl); have d2 : w5.cell? ⟨w4.heap.size, 2, none⟩ = some (.int .i64 1) := (by rw [P3.cell_at hn]; rfl); have d3 : w5.cell? ⟨w4.heap.size, 3, none⟩ = some (.string ⟨#[120]⟩) := (by rw [P3.cell_at hn]; rfl); clear hb hn)
  | (go_at_call 22; (with_reducible refine (HZ.out.qs.reads).mono ?_); rintro e w6 ⟨rfl, rfl⟩)
  | (go_at_call 27; (with_reducible refine (HZ.out.qs.name).mono ?_); rintro e w7 ⟨rfl, rfl⟩))
 go_ret
 exact ⟨rfl, HZ.out.fin⟩
end
end Go.Proofs.YtbkngnjkaledlaaGreat.P8
namespace Go.Proofs.YtbkngnjkaledlaaGreat.P4
open Go Go.RowKit Go.Lib Go.Maps Go.ChangeMaps Go.MapKept P3
def roomOf : Int → List Int → Int
 | r, [] => r
 | r, x :: l => if r < 0 ∨ r < x then -1 else roomOf (r - x) l
theorem roomOf_drop {r : Int} {l : List Int} {k : Nat} (h : k < l.length) : roomOf r (l.drop k) = if r < 0 ∨ r < l[k] then -1 else roomOf (r - l[k]) (l.drop (k + 1)) := by
 rw [List.drop_eq_getElem_cons h]; rfl
theorem room_any (w : World) (r : Int) (v : Value) (l : List Int) (h : P3.IntsIn w v l) (hr : r ≤ 9223372036854775807) (hp : ∀ i (h : i < l.length), 0 ≤ l[i]) :
  Calls Tryz.prog 51 #[.int .i64 r, v] w fun e w' => e = .returned (.int .i64 (roomOf r l)) ∧ w = w' := by
 obtain ⟨a, c, rfl, hl, hc⟩ := h
 go_enter Tryz.func51, Tryz.ntmps51
 go_wp2
 go_loop [0, 5] (fun q i => ∃ (k : Nat) (x : Int), k ≤ l.length ∧ i = .int .i64 k ∧ q = .int .i64 x ∧ x ≤ 9223372036854775807 ∧ Hid (roomOf r l = roomOf x (l.drop k))) (fun _ i => l.length - (RowKit.intOf i).toNat)
 case atStart => exact ⟨0, r, Nat.zero_le _, rfl, rfl, hr, rfl⟩
 case round =>
  obtain ⟨k, x, hk, rfl, rfl, hx, hxe⟩ := hrel
  by_cases hlt : k < l.length
  ·obtain ⟨b, off, rfl, hb, hcc⟩ := hc (by omega)
   have hcell := hcc k hlt
   rw [show l.getD k 0 = l[k] by rw [List.getD_eq_getElem?_getD, List.getElem?_eq_getElem hlt]; rfl] at hcell
   have hpos := hp k hlt
   have hD := hxe.out.trans (roomOf_drop hlt)
   generalize l[k] = y at hcell hD hpos
   clear hcc hc hp hxe
   by_cases h0 : x < 0
   ·have hR : Hid (roomOf r l = -1) := hD.trans (if_pos (.inl h0))
    have k0 : decide (x < 0) = true := decide_eq_true h0
    clear hD
    go_wp2
    go_ret
    exact ⟨by rw [hR.out]; rfl, rfl⟩
   ·have k0 : decide (x < 0) = false := decide_eq_false h0
    by_cases h1 : x < y
    ·have hR : Hid (roomOf r l = -1) := hD.trans (if_pos (.inr h1))
     have k1 : decide (x < y) = true := decide_eq_true h1
     clear hD
     go_wp2
     go_ret
     exact ⟨by rw [hR.out]; rfl, rfl⟩
    ·have hR : Hid (roomOf r l = roomOf (x - y) (l.drop (k + 1))) := hD.trans (if_neg (by omega))
     have k1 : decide (x < y) = false := decide_eq_false h1
     clear hD
     go_wp2
     go_round
     case rel => exact ⟨k + 1, x - y, by omega, by go_num, by go_num, by omega, hR⟩
     case measure => simp [RowKit.intOf]; omega
  ·have hR : Hid (roomOf r l = x) := by
    show _ = _
    rw [hxe.out, List.drop_eq_nil_of_le (by omega)]; rfl
   go_wp2
   go_ret
   exact ⟨by rw [hR.out]; rfl, rfl⟩
theorem room3 (w W : World) (r x y z : Int) (hW : Below (w.alloc (.cells #[.int .i64 x, .int .i64 y, .int .i64 z] 3)).heap.size (w.alloc (.cells #[.int .i64 x, .int .i64 y, .int .i64 z] 3)) W) (hr : r ≤ 9223372036854775807) (hx : 0 ≤ x) (hy : 0 ≤ y) (hz : 0 ≤ z) :
  Calls Tryz.prog 51 #[.int .i64 r, .slice (some ⟨w.heap.size, 0, none⟩) 3 3] W fun e w' =>
   (∃ q, e = .returned (.int .i64 q) ∧ (r ≤ 6000 → q ≤ 6000) ∧ (0 ≤ q → 0 ≤ r ∧ x ≤ r ∧ y ≤ r ∧ z ≤ r)) ∧ W = w' := by
 have hI : P3.IntsIn (w.alloc (.cells #[.int .i64 x, .int .i64 y, .int .i64 z] 3)) (.slice (some ⟨w.heap.size, 0, none⟩) 3 3) [x, y, z] := by
  refine ⟨_, 3, rfl, by simp, fun _ => ⟨w.heap.size, 0, rfl, by simp, fun i hi => ?_⟩⟩
  rw [Nat.zero_add, cell_at (new_at w _ _)]
  match i, hi with
  | 0, _ => rfl
  | 1, _ => rfl
  | 2, _ => rfl
 refine (room_any W r _ [x, y, z] (hI.below hW) hr (fun i hi => ?_)).mono ?_
 ·match i, hi with
  | 0, _ => exact hx
  | 1, _ => exact hy
  | 2, _ => exact hz
 ·rintro e w' ⟨rfl, rfl⟩
  refine ⟨⟨_, rfl, ?_, ?_⟩, rfl⟩ <;> simp only [roomOf] <;> split <;> (try split) <;> (try split) <;> omega
def LightOk (l : List OpV) : Prop := l.length ≤ 60 ∧ ∀ o ∈ l, o.S.size ≤ 6000 ∧ o.T.size ≤ 6000 ∧ o.L.length ≤ 6000
def LightPost (w : World) (l : List OpV) (e : Ending) (w' : World) : Prop := (∃ b, e = .returned (.bool b) ∧ (b = true → LightOk l)) ∧ Below w.heap.size w w'
theorem light_any (w : World) (v : Value) (l : List OpV) (h : ActsIn w v l) :
  Calls Tryz.prog 15 #[v] w (LightPost w l) := by
 obtain ⟨a, c, rfl, hl, hc⟩ := h
 have HR := Lib.hid room3
 have HC := Lib.hid hc
 clear hc
 go_enter Tryz.func15, Tryz.ntmps15
 go_wp2
 go_loopw [3, 4] (fun vr vi wr => ∃ (k : Nat) (x : Int), k ≤ l.length ∧ vi = .int .i64 k ∧ vr = .int .i64 x ∧ x ≤ 6000 ∧ Hid (0 ≤ x → ∀ j (o : OpV), j < k → l[j]? = some o → o.S.size ≤ 6000 ∧ o.T.size ≤ 6000 ∧ o.L.length ≤ 6000) ∧ Hid (Below w.heap.size w wr)) (fun _ vi _ => l.length - (RowKit.intOf vi).toNat)
 case atStart => exact ⟨0, 6000, Nat.zero_le _, rfl, rfl, by decide, (fun _ j o hj => absurd hj (Nat.not_lt_zero _)), Below.refl _ _⟩
 case round =>
  obtain ⟨k, x, hk, rfl, rfl, hx, hS, hB⟩ := hrel
  have hend : Hid (¬ k < l.length → 0 ≤ x → l.length ≤ 60 → LightOk l) := fun h1 h2 h3 => ⟨h3, fun o ho => by
   obtain ⟨j, hj⟩ := List.getElem?_of_mem ho
   have hjl := (List.getElem?_eq_some_iff.1 hj).1
   exact hS.out h2 j o (by omega) hj⟩
  by_cases h1 : k < l.length
  ·have i1 : decide ((k : Int) < (l.length : Int)) = true := decide_eq_true (by omega)
   have i1' : decide (k < l.length) = true := decide_eq_true h1
   by_cases h2 : k < 200
   ·have i2 : decide ((k : Int) < 200) = true := decide_eq_true (by omega)
    have i2' : decide (k < 200) = true := decide_eq_true h2
    by_cases h3 : 0 ≤ x
    ·have i3 : decide (0 ≤ x) = true := decide_eq_true h3
     obtain ⟨b, off, rfl, hbl, hcc⟩ := HC.out (by omega)
     obtain ⟨o, ho⟩ : ∃ o, l[k]? = some o := ⟨_, List.getElem?_eq_getElem h1⟩
     obtain ⟨hcells, hok⟩ := hcc k o ho
     have HXc : Hid (∀ W, Below w.heap.size w W → W.cell? ⟨b, off + k * 7 + 1, none⟩ = some (.string o.S) ∧ W.cell? ⟨b, off + k * 7 + 2, none⟩ = some (.string o.T) ∧ W.cell? ⟨b, off + k * 7 + 6, none⟩ = some (.slice o.a o.L.length o.c)) := fun W hW =>
      ⟨by rw [hW.cell (p := ⟨b, off + k * 7 + 1, none⟩) hbl]; exact hcells 1 _ rfl, by rw [hW.cell (p := ⟨b, off + k * 7 + 2, none⟩) hbl]; exact hcells 2 _ rfl, by rw [hW.cell (p := ⟨b, off + k * 7 + 6, none⟩) hbl]; exact hcells 6 _ rfl⟩
     have HR2 : Hid (∀ W, Below (wr.alloc (.cells #[.int .i64 (o.S.size : Nat), .int .i64 (o.T.size : Nat), .int .i64 (o.L.length : Nat)] 3)).heap.size (wr.alloc (.cells #[.int .i64 (o.S.size : Nat), .int .i64 (o.T.size : Nat), .int .i64 (o.L.length : Nat)] 3)) W → Calls Tryz.prog 51 #[.int .i64 x, .slice (some ⟨wr.heap.size, 0, none⟩) 3 3] W fun e w' =>
       (∃ q, e = .returned (.int .i64 q) ∧ (x ≤ 6000 → q ≤ 6000) ∧ (0 ≤ q → 0 ≤ x ∧ (o.S.size : Int) ≤ x ∧ (o.T.size : Int) ≤ x ∧ (o.L.length : Int) ≤ x)) ∧ W = w') := fun W hW => HR.out wr W x (o.S.size : Nat) (o.T.size : Nat) (o.L.length : Nat) hW (by omega) (by omega) (by omega) (by omega)
     have HS2 : Hid (∀ q : Int, (0 ≤ q → 0 ≤ x ∧ (o.S.size : Int) ≤ x ∧ (o.T.size : Int) ≤ x ∧ (o.L.length : Int) ≤ x) → (0 ≤ q → ∀ j (p : OpV), j < k + 1 → l[j]? = some p → p.S.size ≤ 6000 ∧ p.T.size ≤ 6000 ∧ p.L.length ≤ 6000)) := fun q hq h0 j p hj hp => by
      by_cases e : j = k
      ·subst e
       rw [ho] at hp
       obtain rfl : o = p := by simpa using hp
       have := hq h0
       omega
      ·exact hS.out h3 j p (by omega) hp
     have b0 : (0 : Int) ≤ (k : Int) := by omega
     have b1 : (k : Int) < (l.length : Int) := by omega
     obtain ⟨s, hs⟩ : ∃ s, s = o.S := ⟨_, rfl⟩
     obtain ⟨t, ht⟩ : ∃ t, t = o.T := ⟨_, rfl⟩
     obtain ⟨n, hn⟩ : ∃ n, n = o.L.length := ⟨_, rfl⟩
     rw [← hs, ← ht, ← hn] at HR2 HS2 HXc
     have HG := Lib.hid (fun (z1 z2 z3 : Int) => grow hB.out (.cells #[.int .i64 z1, .int .i64 z2, .int .i64 z3] 3))
     have HGd := Lib.hid (fun (z1 z2 z3 : Int) => grow (thenBelow hB.out (Below.refl _ _).drew) (.cells #[.int .i64 z1, .int .i64 z2, .int .i64 z3] 3))
     clear hcells hok hcc ho hend hs ht hn HR HC hS
     go_wp2
     go_region_held3 (fun W => W.cell? ⟨b, off + k * 7 + 1, none⟩ = some (.string s) ∧ W.cell? ⟨b, off + k * 7 + 2, none⟩ = some (.string t) ∧ W.cell? ⟨b, off + k * 7 + 6, none⟩ = some (.slice o.a n o.c)) (first | exact HXc.out _ (thenBelow hB.out (Below.refl _ _).drew) | exact HXc.out _ hB.out | exact HXc.out _ (HG.out _ _ _) | exact HXc.out _ (HGd.out _ _ _) | exact HXc.out _ (thenBelow (HG.out _ _ _) (Below.refl _ _).drew)) ((first | (go_at_call 51; (with_reducible refine (HR2.out _ (by first | exact (Below.refl _ _).drew | exact Below.refl _ _)).mono ?_); rintro e w2 ⟨⟨q, rfl, hq1, hq2⟩, rfl⟩; have HQ1 := Lib.hid hq1; have HQ2 := Lib.hid hq2; clear hq1 hq2)))
     all_goals
      go_wp2
      go_roundw
      case rel => exact ⟨k + 1, q, by omega, by go_num, rfl, HQ1.out (by omega), HS2.out q HQ2.out, by first | exact HG.out _ _ _ | exact HGd.out _ _ _ | exact thenBelow (HG.out _ _ _) (Below.refl _ _).drew⟩
      case measure => simp [RowKit.intOf]; omega
    ·have i3 : decide (0 ≤ x) = false := decide_eq_false h3
     by_cases h4 : l.length ≤ 60
     ·have i4 : decide ((l.length : Int) ≤ 60) = true := decide_eq_true (by omega)
      have i4' : decide (l.length ≤ 60) = true := decide_eq_true h4
      go_wp2
      go_ret
      exact ⟨⟨false, rfl, fun h => by cases h⟩, hB.out⟩
     ·have i4 : decide ((l.length : Int) ≤ 60) = false := decide_eq_false (by omega)
      have i4' : decide (l.length ≤ 60) = false := decide_eq_false h4
      go_wp2
      go_ret
      exact ⟨⟨false, rfl, fun h => by cases h⟩, hB.out⟩
   ·have i2 : decide ((k : Int) < 200) = false := decide_eq_false (by omega)
    have i2' : decide (k < 200) = false := decide_eq_false h2
    have i4 : decide ((l.length : Int) ≤ 60) = false := decide_eq_false (by omega)
    have i4' : decide (l.length ≤ 60) = false := decide_eq_false (by omega)
    go_wp2
    go_ret
    exact ⟨⟨false, rfl, fun h => by cases h⟩, hB.out⟩
  ·have i1 : decide ((k : Int) < (l.length : Int)) = false := decide_eq_false (by omega)
   have i1' : decide (k < l.length) = false := decide_eq_false h1
   by_cases h4 : l.length ≤ 60
   ·have i4 : decide ((l.length : Int) ≤ 60) = true := decide_eq_true (by omega)
    have i4' : decide (l.length ≤ 60) = true := decide_eq_true h4
    by_cases h3 : 0 ≤ x
    ·have i3 : decide (0 ≤ x) = true := decide_eq_true h3
     have hOk := Lib.hid (hend.out h1 h3 h4)
     go_wp2
     go_ret
     exact ⟨⟨_, rfl, fun _ => hOk.out⟩, hB.out⟩
    ·have i3 : decide (0 ≤ x) = false := decide_eq_false h3
     go_wp2
     go_ret
     exact ⟨⟨false, rfl, fun h => by cases h⟩, hB.out⟩
   ·have i4 : decide ((l.length : Int) ≤ 60) = false := decide_eq_false (by omega)
    have i4' : decide (l.length ≤ 60) = false := decide_eq_false h4
    go_wp2
    go_ret
    exact ⟨⟨false, rfl, fun h => by cases h⟩, hB.out⟩
end Go.Proofs.YtbkngnjkaledlaaGreat.P4
namespace Go.Proofs.YtbkngnjkaledlaaGreat.P8
open Go Go.RowKit Go.Lib Go.Maps Go.ChangeMaps Go.MapKept P3 P4
open P5 (Pg)
open P6 (Mt)
theorem mt0 {α : Type} {x : α} {l : List α} : x ∈ x :: l := List.mem_cons_self ..
theorem mt1 {α : Type} {a x : α} {l : List α} : x ∈ a :: x :: l := List.mem_cons_of_mem _ mt0
theorem mt2 {α : Type} {a b x : α} {l : List α} : x ∈ a :: b :: x :: l := List.mem_cons_of_mem _ mt1
theorem mt3 {α : Type} {a b c x : α} {l : List α} : x ∈ a :: b :: c :: x :: l := List.mem_cons_of_mem _ mt2
theorem mt4 {α : Type} {a b c d x : α} {l : List α} : x ∈ a :: b :: c :: d :: x :: l := List.mem_cons_of_mem _ mt3
theorem mts {α : Type} {a : α} {l : List α} : ∀ p ∈ l, p ∈ a :: l := fun _ h => List.mem_cons_of_mem _ h
section
variable {a w w' w1 w2 W : World} {d r b fb bx m t : Nat} {K K1 K2 : Dk} {D D1 : RM} {ks : List Int} {s : ByteArray} {n : Int} {X : List (Nat × Obj)} {z : Int}
abbrev fObj (r : Nat) (s : ByteArray) : Obj := Obj.cells #[.pointer (some ⟨r, 0, none⟩), .string s] 38 (0, 0)
abbrev bObj (o : OpW) : Obj := Obj.cells o.cells 45 (0, 0)
theorem op_at {v0 : Value} {l : List OpW} {i : Nat} {o : OpW} (h : OpsIn w v0 l) (hp : l[i]? = some o) : ∃ B off c, v0 = .slice (some ⟨B, off, none⟩) l.length c ∧ OpOk w o ∧ ∀ W, Below w.heap.size w W → ∀ (j : Nat) (u : Value), o.cells.toList[j]? = some u → W.cell? ⟨B, off + i * 14 + j, none⟩ = some u := by
 obtain ⟨av, c, rfl, h1, h2⟩ := h
 obtain ⟨B, off, rfl, h3, h4⟩ := h2 (by have := (List.getElem?_eq_some_iff.1 hp).1; omega)
 obtain ⟨h5, h6⟩ := h4 i o hp
 exact ⟨B, off, c, rfl, h6, fun W hb j u hj => by rw [hb.cell (p := ⟨B, off + i * 14 + j, none⟩) h3]; exact h5 j u hj⟩
theorem box_cell {o : OpW} (h : W.heap[bx]? = some (bObj o)) (j : Nat) : W.cell? ⟨bx, j, none⟩ = o.cells[j]? := P3.cell_at h j
theorem acts_one (w : World) (o : OpV) (ho : ActOk w o) : ActsIn (w.alloc (.cells o.cells 43)) (.slice (some ⟨w.heap.size, 0, none⟩) 1 1) [o] := by
 refine ⟨some ⟨w.heap.size, 0, none⟩, 1, rfl, by show 1 ≤ _; decide, fun _ => ⟨w.heap.size, 0, rfl, by simp, fun i q hq => ?_⟩⟩
 have hi : i = 0 := by
  have := (List.getElem?_eq_some_iff.1 hq).1
  simp at this
  exact this
 subst hi
 obtain rfl : o = q := by simpa using hq
 refine ⟨fun j u hj => ?_, ho.below (P3.below_new w _)⟩
 rw [show (0 + 0 * 7 + j) = j by omega, P3.cell_at (P3.new_at w o.cells 43)]
 rw [← hj]
 simp
theorem st_open {room : Int} (hp : Pr a w d (Dk.new room) r (RM.new8 room) []) (h1 : 1 ≤ s.size) (h2 : s.size ≤ 40) : Calls Tryz.prog 8 #[.pointer (some ⟨d, 0, none⟩), .string s] w fun e w' => ∃ b, e = .returned (.tuple #[.pointer (some ⟨b, 0, none⟩), .int .i64 0]) ∧ ST a (w'.alloc (.cells #[.pointer (some ⟨r, 0, none⟩), .string s] 38)) d r b s 0 [(w'.heap.size, fObj r s)] 0 := by
 refine (open_ok hp.at1 s h1 h2 rfl).mono ?_
 rintro e w' ⟨b, rfl, q1, q2, q3⟩
 refine ⟨b, rfl, st_new (hp.over q3) q2.1 q2.2.2 (fun k => ?_) (Nat.le_trans hp.below.size q1)⟩
 have := hp.at2.foot_lt k
 omega
theorem page_in8 {av : Option Addr} {c : Nat} {l : List Pg} {i : Nat} {p : Pg} (h : PagesIn w (.slice av l.length c) l) (hp : l[i]? = some p) : ∃ B off, av = some ⟨B, off, none⟩ ∧ ∀ W, Below w.heap.size w W → W.cell? ⟨B, off + i * 4 + 1, none⟩ = some (.int .i64 p.id) ∧ W.cell? ⟨B, off + i * 4 + 3, none⟩ = some (.string p.body) := by
 obtain ⟨a, c', e, h1, h2⟩ := h
 simp only [Value.slice.injEq, true_and] at e
 obtain ⟨rfl, rfl⟩ := e
 obtain ⟨B, off, rfl, h3, h4⟩ := h2 (by have := (List.getElem?_eq_some_iff.1 hp).1; omega)
 refine ⟨B, off, rfl, fun W hb => ?_⟩
 have hc : ∀ (j : Nat) (u : Value), p.cells.toList[j]? = some u → W.cell? ⟨B, off + i * 4 + j, none⟩ = some u := fun j u hj => by rw [hb.cell (p := ⟨B, off + i * 4 + j, none⟩) h3]; exact h4 i p hp j u hj
 exact ⟨hc 1 _ rfl, hc 3 _ rfl⟩
theorem own_ok {o : OpV} (h : ActOk w o) : ActOk w { o with own := true } := ⟨h.S, h.T, h.L, h.wA, h.wB, h.nil⟩
theorem light_one (w : World) (W : World) (N : Nat) (hN : N = W.heap.size) (o : OpV) (ho : ActOk w o) (hb : Below w.heap.size w W) :
  Calls Tryz.prog 15 #[.slice (some ⟨N, 0, none⟩) 1 1] (W.alloc (.cells o.cells 43)) fun e w' => ∃ B : Bool, e = .returned (.bool B) ∧ (B = true → o.L.length ≤ 6000) ∧ Below W.heap.size W w' := by
 subst hN
 refine (light_any _ _ _ (acts_one W o (ho.below hb))).mono ?_
 rintro e w' ⟨⟨B, rfl, h1⟩, h2⟩
 exact ⟨B, rfl, fun hB => ((h1 hB).2 o (List.mem_singleton.2 rfl)).2.2, thenBelow (P3.below_new W _) h2⟩
end
end Go.Proofs.YtbkngnjkaledlaaGreat.P8
