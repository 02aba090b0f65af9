/-
  Texts of the proof of SaidPlay8b.
-/
import Derived.Test.YtbkngnjkaledlaaGreatMp18
namespace Go.Proofs.YtbkngnjkaledlaaGreat.P4
open Go Go.RowKit Go.Lib P3
def putAt (l : List ByteArray) (i : Nat) (d : ByteArray) : List ByteArray := if i = l.length then l ++ [d] else l.set i d
theorem putAt_len {l : List ByteArray} {i : Nat} (d : ByteArray) (h : i ≤ l.length) : (putAt l i d).length ≤ max l.length (i + 1) := by
 unfold putAt
 split
 ·rw [List.length_append]; simp; omega
 ·rw [List.length_set]; omega
def sizeM (D : RM) (s : ByteArray) : Nat := ((atN D.fs s).bind fun i => D.fs[i]?.map fun f => f.now.length).getD 0
theorem sizeM_none {D : RM} {s : ByteArray} (h : atN D.fs s = none) : sizeM D s = 0 := by unfold sizeM; rw [h]; rfl
theorem sizeM_some {D : RM} {s : ByteArray} {i : Nat} {f : MF} (h : atN D.fs s = some i) (hf : D.fs[i]? = some f) : sizeM D s = f.now.length := by unfold sizeM; rw [h]; simp [hf]
def fullM (D : RM) (s : ByteArray) (i : Nat) : Bool := (decide (i = sizeM D s) && decide (0 < D.room) && decide (D.room ≤ (usedM D.fs : Int))) || ((atN D.fs s).isNone && decide (60 ≤ D.fs.length))
def errW (D : RM) (s : ByteArray) (i : Int) (z : Nat) : Int :=
 if D.off = true then 14 else if nameOk s = false ∨ z ≠ 256 then 1 else if i < 0 ∨ (sizeM D s : Int) < i ∨ 4000 < i then 15 else if fullM D s i.toNat = true then 20 else 0
def RM.fresh (D : RM) (s : ByteArray) (u : Value) : RM := { D with lv := u, fs := D.fs ++ [⟨s, D.ids + 1, [], [], false, .slice none 0 0, .slice none 0 0⟩], ids := D.ids + 1 }
def RM.wrote (D : RM) (k : Nat) (f : MF) (t i : Nat) (d : ByteArray) (u v : Value) : RM := { D with fs := D.fs.set k { f with now := putAt f.now i d, nv := u }, wv := v, ws := D.ws ++ [⟨t, f.id, i, d⟩] }
def Opened (D : RM) (s : ByteArray) (k : Nat) (f : MF) (C : RM) : Prop := (atN D.fs s = some k ∧ D.fs[k]? = some f ∧ C = D.count) ∨ (atN D.fs s = none ∧ k = D.fs.length ∧ D.fs.length < 60 ∧ ∃ u, C = D.count.fresh s u ∧ f = ⟨s, D.ids + 1, [], [], false, .slice none 0 0, .slice none 0 0⟩)
section
variable {lo : Nat} {w w' w'' : World} {r : Nat} {D E C : RM}
theorem count_more (D : RM) : D.count.ids = D.ids ∧ D.count.room = D.room ∧ D.count.wv = D.wv ∧ D.count.armed = D.armed := by
 unfold RM.count
 split <;> exact ⟨rfl, rfl, rfl, rfl⟩
theorem RStep.ints {v : Value} {ks : List Int} (h : RStep lo w r D w' E) (hv : IntsR (D.own r) w v ks) : IntsR (E.own r) w' v ks := by
 rcases hv with hv | ⟨g, o, c, rfl, h1, h2, h3⟩
 ·exact .inl hv
 ·refine .inr ⟨g, o, c, rfl, Nat.lt_of_lt_of_le h1 h.fr.size, fun q => ?_, fun j x hj => ?_⟩
  ·rcases h.own g q with q | q
   ·exact h2 q
   ·omega
  ·rw [(heap_ext (h.fr.block g h1 h2) (o + j)).1]
   exact h3 j x hj
theorem Opened.facts {s : ByteArray} {k : Nat} {f : MF} (h : Opened D s k f C) : C.ws = D.ws ∧ C.wv = D.wv ∧ C.kv = D.kv ∧ C.off = D.off ∧ (∀ g ∈ C.fs, g ∈ D.fs ∨ (g.id = D.ids + 1 ∧ g.safe = [])) ∧ (f ∈ D.fs ∨ f.id = D.ids + 1) := by
 obtain ⟨q1, q2, q3, q4, q5⟩ := count_fs D
 obtain ⟨p1, p2, p3, p4⟩ := count_more D
 rcases h with ⟨_, hf, rfl⟩ | ⟨_, _, _, u, rfl, rfl⟩
 ·exact ⟨q2, p3, q5, q3, fun g hg => .inl (by rw [q1] at hg; exact hg), .inl (List.mem_of_getElem? hf)⟩
 ·refine ⟨q2, p3, q5, q3, fun g hg => ?_, .inr rfl⟩
  have hg' : g ∈ D.count.fs ++ [_] := hg
  rcases List.mem_append.1 hg' with q | q
  ·exact .inl (by rw [q1] at q; exact q)
  ·obtain rfl := List.mem_singleton.1 q
   exact .inr ⟨by show D.count.ids + 1 = _; rw [p1], rfl⟩
theorem RAt.sh (h : RAt lo w r D) : (∃ a c, D.lv = .slice a D.fs.length c) ∧ ∃ a c, D.wv = .slice a D.ws.length c := by
 obtain ⟨a, c, e, _⟩ := h.files
 obtain ⟨a2, c2, e2, _⟩ := h.writes
 exact ⟨⟨a, c, e⟩, ⟨a2, c2, e2⟩⟩
theorem RAt.freshStep (h : RAt lo w r D) (s : ByteArray) (hl : D.fs.length < 60) {W W2 : World} {u : Value} (hb : Below (w.setCell ⟨r, 7, none⟩ (.int .i64 (D.ids + 1 : Nat))).heap.size (w.setCell ⟨r, 7, none⟩ (.int .i64 (D.ids + 1 : Nat))) W)
  (ho : W2.ownsRow lo 101 6 u (D.fs.length + 1) (D.fs.flatMap MF.cells ++ [.string s, .int .i64 (D.ids + 1 : Nat), .slice none 0 0, .slice none 0 0, .bool false, .bool false])) (hg : W.grownBy W2 D.lv.ownBlock) (hat : u.ownBlock = D.lv.ownBlock ∨ u.ownBlock = some W.heap.size) :
  RStep lo w r D (W2.setCell ⟨r, 0, none⟩ u) (D.fresh s u) := by
 have s1 := RStep.only h 7 (.int .i64 (D.ids + 1 : Nat)) { D with ids := D.ids + 1 } rfl rfl rfl rfl rfl
 have hfr : Fr (fun k => D.lv.ownBlock = some k) (w.setCell ⟨r, 7, none⟩ (.int .i64 (D.ids + 1 : Nat))) W2 := (Fr.of hb).trans (fr_grown hg (fun k e => e))
 have s2 := s1.at'.setFs (u := u) (xs := D.fs ++ [⟨s, D.ids + 1, [], [], false, .slice none 0 0, .slice none 0 0⟩]) hfr (by rw [List.length_append, List.flatMap_append]; exact ho)
  (fun k hk => by
   rcases hat with e | e
   ·exact .inl (by rw [← e]; exact hk)
   ·rw [hk] at e
    obtain rfl := Option.some.inj e
    exact .inr hb.size)
  (by rw [List.length_append]; exact hl)
  (fun f hf => by
   rcases List.mem_append.1 hf with q | q
   ·have ht := s1.at'.txt f q
    have key : ∀ v l, Txt (w.setCell ⟨r, 7, none⟩ (.int .i64 (D.ids + 1 : Nat))) v l → Txt W2 v l := fun v l hv => hv.fr fun b hbb => hfr.block b (hv.lt hbb).1 (fun e => s1.at'.txt_own hv hbb (.inr (.inl e)))
    exact ⟨key _ _ ht.1, key _ _ ht.2⟩
   ·obtain rfl := List.mem_singleton.1 q
    exact ⟨.inl ⟨rfl, rfl⟩, .inl ⟨rfl, rfl⟩⟩)
  (fun f hf => by
   rcases List.mem_append.1 hf with q | q
   ·exact h.long f q
   ·obtain rfl := List.mem_singleton.1 q
    exact ⟨Nat.zero_le _, Nat.zero_le _⟩)
  (fun f hf k hk => by
   rcases List.mem_append.1 hf with q | q
   ·exact .inl (.inr ⟨f, q, hk⟩)
   ·obtain rfl := List.mem_singleton.1 q
    rcases hk with hk | hk <;> cases hk)
 exact s1.trans s2
theorem RAt.wroteStep (h : RAt lo w r D) (hl : D.ws.length < 9000) {k t i : Nat} {f : MF} (hf : D.fs[k]? = some f) (d : ByteArray) {W W2 W3 : World} {u v : Value} {g : Nat} (hg : D.lv.ownBlock = some g) (hi : i ≤ f.now.length) (hi2 : i ≤ 4000)
  (hb : Below w.heap.size w W) (hu : W.ownsRow w.heap.size 9 1 u (putAt f.now i d).length ((putAt f.now i d).map Value.string))
  (hb2 : Below (W.setCell ⟨g, k * 6 + 2, none⟩ u).heap.size (W.setCell ⟨g, k * 6 + 2, none⟩ u) W2)
  (ho : W3.ownsRow lo 129 3 v (D.ws.length + 1) (D.ws.flatMap RW.cells ++ [.int .i64 f.id, .int .i64 i, .string d])) (hgr : W2.grownBy W3 D.wv.ownBlock) (hat : v.ownBlock = D.wv.ownBlock ∨ v.ownBlock = some W2.heap.size) :
  RStep lo w r D (W3.setCell ⟨r, 1, none⟩ v) (D.wrote k f t i d u v) := by
 have hlong := h.long f (List.mem_of_getElem? hf)
 have ht := (h.below hb).txt f (List.mem_of_getElem? hf)
 have hpl := putAt_len d hi
 have s1 := h.setF (f' := { f with now := putAt f.now i d, nv := u }) (j := 2) (u := u) hb hf hg (by decide) rfl ⟨owns_txt rfl hu, ht.2⟩ ⟨by show (putAt f.now i d).length ≤ 4001; omega, hlong.2⟩
  (fun k hk => by
   rcases hk with hk | hk
   ·exact .inr (owned_at hu hk).1
   ·exact .inl (.inr ⟨f, List.mem_of_getElem? hf, .inr hk⟩))
 have hfr : Fr (fun k => D.wv.ownBlock = some k) (W.setCell ⟨g, k * 6 + 2, none⟩ u) W3 := (Fr.of hb2).trans (fr_grown hgr (fun k e => e))
 have s2 := s1.at'.setWsG (u := v) (xs := D.ws ++ [⟨t, f.id, i, d⟩]) hfr (by rw [List.length_append, List.flatMap_append]; exact ho) (fun q hq => by
   rcases hat with e | e
   ·exact .inl (by rw [← e]; exact hq)
   ·rw [hq] at e
    obtain rfl := Option.some.inj e
    exact .inr hb2.size) (by rw [List.length_append]; exact hl)
 exact s1.trans s2
end
end Go.Proofs.YtbkngnjkaledlaaGreat.P4
