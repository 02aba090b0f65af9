/-
  Texts of the proof of SaidPlay8b.
-/
import Derived.Test.YtbkngnjkaledlaaGreatMp26
import Derived.Test.YtbkngnjkaledlaaGreatMp40
set_option maxHeartbeats 8000000
set_option maxRecDepth 100000
namespace Go.Proofs.YtbkngnjkaledlaaGreat.P4
open Go Go.RowKit Go.Lib Go.Maps Go.ChangeMaps Go.MapKept P3
theorem eq_of_sorted : ∀ {l m : List (List UInt8)}, l.Perm m → l.Pairwise (fun x y => x ≤ y) → m.Pairwise (fun x y => x ≤ y) → l = m
 | [], m, hp, _, _ => hp.nil_eq
 | x :: r, m, hp, hl, hm => by
  cases m with
  | nil => exact absurd hp.symm.nil_eq (by simp)
  | cons y s =>
   rw [List.pairwise_cons] at hl hm
   have h1 : x = y := by
    rcases List.mem_cons.1 (hp.mem_iff.1 List.mem_cons_self) with e | hx
    ·exact e
    ·rcases List.mem_cons.1 (hp.symm.mem_iff.1 (List.mem_cons_self (a := y) (l := s))) with e | hy
     ·exact e.symm
     ·exact List.le_antisymm (hl.1 y hy) (hm.1 x hx)
   subst h1
   rw [eq_of_sorted (hp.cons_inv) hl.2 hm.2]
theorem sortN_sorted (xs : List (List UInt8)) : (sortN xs).Pairwise (fun x y => x ≤ y) := by
 have h := List.pairwise_mergeSort (le := fun x y : List UInt8 => decide (x ≤ y)) (fun a b c h1 h2 => by
  simp only [decide_eq_true_eq] at *
  exact List.le_trans h1 h2) (fun a b => by
  simp only [Bool.or_eq_true, decide_eq_true_eq]
  exact List.le_total a b) xs
 exact h.imp (fun h => by simpa using h)
theorem sortN_perm {xs ys : List (List UInt8)} (h : xs.Perm ys) : sortN xs = sortN ys :=
 eq_of_sorted (((List.mergeSort_perm _ _).trans h).trans (List.mergeSort_perm _ _).symm) (sortN_sorted xs) (sortN_sorted ys)
def textsL (l : List (List UInt8)) : List ByteArray := l.map fun n => ⟨n.toArray⟩
theorem texts_enc (l : List (List UInt8)) : l.map encS = (textsL l).map Value.string := by
 unfold textsL
 rw [List.map_map]
 rfl
theorem texts_nm (l : List ByteArray) : textsL (l.map nmM) = l := by
 unfold textsL
 rw [List.map_map]
 have : ∀ s : ByteArray, ((fun n : List UInt8 => (⟨n.toArray⟩ : ByteArray)) ∘ nmM) s = s := fun s => by
  show (⟨s.data.toList.toArray⟩ : ByteArray) = s
  simp
 rw [show ((fun n : List UInt8 => (⟨n.toArray⟩ : ByteArray)) ∘ nmM) = id from funext this, List.map_id]
def lstM (D : RM) (p : ByteArray) : List ByteArray := if D.off = true then [] else textsL (sortN ((preL p D.fs).map nmM))
theorem lstM_is {D : RM} {p : ByteArray} {l : List ByteArray} (ho : D.off = false) (hp : l.Perm (preL p D.fs)) (hs : SortedL l) : l = lstM D p := by
 unfold lstM
 rw [if_neg (by rw [ho]; decide)]
 have h1 : l.map nmM = sortN ((preL p D.fs).map nmM) := by
  refine eq_of_sorted ((hp.map nmM).trans (List.mergeSort_perm _ _).symm) ?_ (sortN_sorted _)
  rw [List.pairwise_map]
  refine hs.imp ?_
  intro a b h
  rw [ByteArray.toList_eq, ByteArray.toList_eq] at h
  exact h
 rw [← h1, texts_nm]
theorem pre_eq (p s : ByteArray) : Lib.hasPrefix (nmM s) p.data.toList = preB p s := by
 unfold Lib.hasPrefix preB nmM
 rw [ByteArray.toList_eq, ByteArray.toList_eq, ByteArray.data_extract, Array.toList_extract, List.extract_eq_take_drop, List.drop_zero, Nat.sub_zero]
 have hsz : s.size = s.data.toList.length := by rw [Array.length_toList]; rfl
 have hpz : p.size = p.data.toList.length := by rw [Array.length_toList]; rfl
 rw [hsz, hpz]
 generalize s.data.toList = n
 generalize p.data.toList = m
 by_cases h : m.isPrefixOf n = true
 ·rw [h]
  obtain ⟨t, rfl⟩ := List.isPrefixOf_iff_prefix.1 h
  simp
 ·have h' : m.isPrefixOf n = false := Bool.eq_false_iff.2 h
  rw [h']
  by_cases hl : n.length < m.length
  ·simp [hl]
  ·have hne : n.take m.length ≠ m := fun e => h (List.isPrefixOf_iff_prefix.2 ⟨n.drop m.length, by have := List.take_append_drop m.length n; rw [e] at this; exact this⟩)
   simp [hl, hne]
section
variable {a w w' : World} {d r : Nat} {K : Dk} {D : RM} {ks : List Int}
theorem Eqv.namesP (h : Eqv K D ks) (p : ByteArray) : (P4.namesP p K.files).Perm ((preL p D.fs).map nmM) := by
 have h1 : (K.files.map (·.1)).Perm (D.fs.map fun f => nmM f.name) := by
  have := h.abs.map (fun x => x.1)
  rw [absW_names] at this
  unfold absL at this
  rw [List.map_map] at this
  exact this
 have h2 := h1.filter (fun n => Lib.hasPrefix n p.data.toList)
 unfold P4.namesP preL
 refine h2.trans ?_
 have : (D.fs.map fun f => nmM f.name) = (D.fs.map (·.name)).map nmM := by rw [List.map_map]; rfl
 rw [this, List.filter_map]
 refine List.Perm.of_eq (congrArg _ (List.filter_congr fun s _ => ?_))
 exact pre_eq p s
def LstP (w : World) (L : List ByteArray) (e : Ending) (w' : World) : Prop := ∃ v, e = .returned v ∧ w'.ownsRow w.heap.size 9 1 v L.length (L.map Value.string) ∧ Below w.heap.size w w'
theorem Pr.list1 (h : Pr a w d K r D ks) (p : ByteArray) : Calls Tryz.prog 74 #[.pointer (some ⟨d, 0, none⟩), .string p] w (LstP w (lstM D p)) := by
 have hoff := h.eqv.on
 cases hon : K.on with
 | false =>
  have ho : D.off = true := by rw [hoff, hon]; rfl
  refine (list_off w d p ((cell_at h.at1.blk 1).trans (by rw [← hon]; rfl))).mono ?_
  rintro e w1 ⟨rfl, rfl⟩
  unfold lstM
  rw [if_pos ho]
  exact ⟨_, rfl, World.ownsRow_nil _ _ _ _, Below.refl _ _⟩
 | true =>
  have ho : D.off = false := by rw [hoff, hon]; rfl
  refine (h.at1.list hon p).mono ?_
  rintro e w1 ⟨v, xs, rfl, hp, hown, hb⟩
  have e1 : textsL (sortN xs) = lstM D p := by
   unfold lstM
   rw [if_neg (by rw [ho]; decide), sortN_perm (hp.trans (h.eqv.namesP p))]
  have e2 : xs.length = (lstM D p).length := by
   rw [← e1]
   unfold textsL
   rw [List.length_map, sortN_length]
  rw [texts_enc, e1, e2] at hown
  exact ⟨v, rfl, hown, hb⟩
theorem Pr.list2 (h : Pr a w d K r D ks) (ht : K.turn ≤ 9000) (p : ByteArray) : Calls Tryz.prog 75 #[.pointer (some ⟨r, 0, none⟩), .string p] w (LstP w (lstM D p)) := by
 obtain ⟨s1, s2, s3, s4⟩ := h.eqv.sizes h.at1 ht
 cases ho : D.off with
 | true =>
  refine (h.at2.list_off p ho).mono ?_
  rintro e w1 ⟨v, l, rfl, hp, _, hown, hb⟩
  rw [if_pos ho] at hp
  obtain rfl := List.perm_nil.1 hp
  unfold lstM
  rw [if_pos ho]
  exact ⟨v, rfl, hown, hb⟩
 | false =>
  refine (h.at2.list p ho s4).mono ?_
  rintro e w1 ⟨v, l, rfl, hp, hs, hown, hb⟩
  rw [if_neg (by rw [ho]; decide)] at hp
  obtain rfl := lstM_is ho hp hs
  exact ⟨v, rfl, hown, hb⟩
theorem Pr.lst_short (h : Pr a w d K r D ks) (ht : K.turn ≤ 9000) (p : ByteArray) : (lstM D p).length ≤ 100 ∧ ∀ s ∈ lstM D p, s.size ≤ 1000 := by
 obtain ⟨s1, s2, s3, s4⟩ := h.eqv.sizes h.at1 ht
 unfold lstM
 split
 ·exact ⟨Nat.zero_le _, fun s hs => by simp at hs⟩
 ·constructor
  ·unfold textsL
   rw [List.length_map, sortN_length, List.length_map]
   have h1 : (preL p D.fs).length ≤ D.fs.length := by
    unfold preL
    have := List.length_filter_le (preB p) (D.fs.map (·.name))
    rw [List.length_map] at this
    exact this
   have h2 := h.at1.files.few
   have h3 := h.eqv.len
   omega
  ·intro s hs
   unfold textsL at hs
   obtain ⟨n, hn, rfl⟩ := List.mem_map.1 hs
   have hn2 := (List.mergeSort_perm _ _).mem_iff.1 hn
   obtain ⟨x, hx, rfl⟩ := List.mem_map.1 hn2
   have hx2 := (List.mem_filter.1 hx).1
   obtain ⟨f, hf, rfl⟩ := List.mem_map.1 hx2
   have := s4 f hf
   show (nmM f.name).toArray.size ≤ 1000
   unfold nmM
   rw [List.size_toArray, Array.length_toList]
   exact this
end
end Go.Proofs.YtbkngnjkaledlaaGreat.P4
namespace Go.Proofs.YtbkngnjkaledlaaGreat.P4
open Go Go.RowKit Go.Lib Go.Maps Go.ChangeMaps Go.MapKept P3
section
variable {a w w' w1 w2 : World} {d r : Nat} {K K1 : Dk} {D D1 : RM} {ks : List Int}
theorem Pr.lt_d (h : Pr a w d K r D ks) : ∀ k, K.foot d k → k < w.heap.size := fun _ hk => h.at1.foot_lt _ hk
theorem Pr.lt_r (h : Pr a w d K r D ks) : ∀ k, D.own r k → k < w.heap.size := fun _ hk => h.at2.foot_lt (.inl hk)
abbrev TwoB (a w : World) (d : Nat) (K : Dk) (r : Nat) (D : RM) (ks : List Int) (f1 f2 : Nat) (a1 a2 : Array Value) : Prop :=
 ∀ W, w.heap.size < W.heap.size → Below w.heap.size w W → Calls Tryz.prog f1 a1 W fun e w1 => ∃ z : Int, e = .returned (.int .i64 z) ∧ w1.heap[w.heap.size]? = W.heap[w.heap.size]? ∧ ∀ W', Below w1.heap.size w1 W' → Calls Tryz.prog f2 a2 W' fun e w2 => e = .returned (.int .i64 z) ∧ w2.heap[w.heap.size]? = W.heap[w.heap.size]? ∧ ActP a w d K r D (.returned (.bool true)) w2
theorem Pr.boxed (h : Pr a w d K r D ks) {f1 f2 : Nat} {a1 a2 : Array Value} (T : ∀ W, Pr a W d K r D ks → Two a W d K r D ks f1 f2 a1 a2) : TwoB a w d K r D ks f1 f2 a1 a2 := by
 intro W hlt hW
 refine (T W (h.over hW)).mono ?_
 rintro e w1 ⟨z, rfl, hf, hc⟩
 refine ⟨z, rfl, hf.block _ hlt fun q => by have := h.lt_d _ q; omega, fun W' hW' => (hc W' hW').mono ?_⟩
 rintro e w2 ⟨rfl, K1, D1, hs⟩
 refine ⟨rfl, hs.fr.block _ hlt fun q => ?_, rfl, K1, D1, ks, hs.under hW⟩
 rcases q with q | q
 ·have := h.lt_d _ q; omega
 ·have := h.lt_r _ q; omega
theorem lt_drew {n : Nat} {W : World} (h : n < W.heap.size) : n < W.drew.heap.size := h
theorem fill_any (s : ByteArray) (hs : s.size ≤ maxLen) (own : Bool) (W : World) : Calls Tryz.prog 52 #[.string s, .bool own] W fun e w' => ∃ s', e = .returned (.string s') ∧ s'.size ≤ maxLen ∧ Below W.heap.size W w' := by
 have e9 : maxLen = 9223372036854775807 := by decide
 cases own with
 | false => exact (fill_not W s).mono fun e w' ⟨h1, h2⟩ => ⟨s, h1, hs, h2 ▸ Below.refl _ _⟩
 | true => exact (fill_own W s (by omega)).mono fun e w' ⟨h1, h2⟩ => ⟨_, h1, by rw [fillB_size]; omega, h2⟩
abbrev TwoBU (a w : World) (d : Nat) (K : Dk) (r : Nat) (D : RM) (f1 f2 : Nat) (a1 a2 : Array Value) : Prop :=
 ∀ W, w.heap.size < W.heap.size → Below w.heap.size w W → Calls Tryz.prog f1 a1 W fun e w1 => e = .returned (.tuple #[]) ∧ w1.heap[w.heap.size]? = W.heap[w.heap.size]? ∧ ∀ W', Below w1.heap.size w1 W' → Calls Tryz.prog f2 a2 W' fun e w2 => e = .returned (.tuple #[]) ∧ ActP a w d K r D (.returned (.bool true)) w2
theorem Pr.boxedU (h : Pr a w d K r D ks) {ks' : List Int} {f1 f2 : Nat} {a1 a2 : Array Value} (T : ∀ W, Pr a W d K r D ks → TwoU a W d K r D ks' f1 f2 a1 a2) : TwoBU a w d K r D f1 f2 a1 a2 := by
 intro W hlt hW
 refine (T W (h.over hW)).mono ?_
 rintro e w1 ⟨rfl, hf, hc⟩
 refine ⟨rfl, hf.block _ hlt fun q => by have := h.lt_d _ q; omega, fun W' hW' => (hc W' hW').mono ?_⟩
 rintro e w2 ⟨rfl, K1, D1, hs⟩
 exact ⟨rfl, rfl, K1, D1, ks', hs.under hW⟩
theorem Pr.roomB (h : Pr a w d K r D ks) (i : Int) : ∀ W, w.heap.size < W.heap.size → Below w.heap.size w W → Calls Tryz.prog 64 #[.pointer (some ⟨d, 0, none⟩), .int .i64 i] W fun e w1 => e = .returned (.tuple #[]) ∧ w1.heap[w.heap.size]? = W.heap[w.heap.size]? ∧ w1.cell? ⟨r, 3, none⟩ = some (.int .i64 D.room) ∧ w1.frozen? ⟨r, 3, none⟩ = false ∧ ActP a w d K r D (.returned (.bool true)) (w1.setCell ⟨r, 3, none⟩ (.int .i64 i)) := by
 intro W hlt hW
 have hA := h.over hW
 refine (dkroom_any hA.at1 i).mono ?_
 rintro e w1 ⟨rfl, hs⟩
 obtain ⟨q1, q2, q3⟩ := hA.roomed i hs
 exact ⟨rfl, hs.fr.block _ hlt fun q => by have := h.lt_d _ q; omega, q1, q2, rfl, _, _, ks, q3.under hW⟩
theorem Pr.reads (h : Pr a w d K r D ks) (s : ByteArray) (hs : s.size ≤ maxLen) (z : Int) : ∀ W, Below w.heap.size w W →
  (Calls Tryz.prog 65 #[.pointer (some ⟨d, 0, none⟩), .string s, .int .i64 z] W fun e w' => e = .returned (.tuple #[.string (readR D s z).1, .int .i64 (readR D s z).2]) ∧ Below W.heap.size W w') ∧
  Calls Tryz.prog 66 #[.pointer (some ⟨r, 0, none⟩), .string s, .int .i64 z] W fun e w' => e = .returned (.tuple #[.string (readR D s z).1, .int .i64 (readR D s z).2]) ∧ Below W.heap.size W w' := fun W hW => by
 have hA := h.over hW
 refine ⟨?_, hA.at2.read s z⟩
 have := hA.at1.read s z hs
 unfold ReadPost at this
 rw [← hA.eqv.read hA.at1 s z]
 exact this
theorem Pr.idleP (h : Pr a w d K r D ks) (hb : Below w.heap.size w w') : ActP a w d K r D (.returned (.bool true)) w' := ⟨rfl, K, D, ks, h.idle hb⟩
theorem Pr.crash6 (h : Pr a w d K r D ks) (ht : K.turn < 8990) {L : List Int} {p : Option Addr} {c : Nat} (hL : IntsIn a (.slice p L.length c) L) (hnil : p = none → L.length = 0 ∧ c = 0) (hlen : L.length ≤ 10000) :
  ∀ W, w.heap.size < W.heap.size → Below w.heap.size w W → Calls Tryz.prog 59 #[.slice p L.length c] W fun e w1 => ∃ g q, e = .returned (.slice (some ⟨g, 0, none⟩) L.length q) ∧ w1.heap[w.heap.size]? = W.heap[w.heap.size]? ∧
   ∀ W1, Below w1.heap.size w1 W1 → Calls Tryz.prog 25 #[.pointer (some ⟨d, 0, none⟩), .slice (some ⟨g, 0, none⟩) L.length q] W1 fun e w2 => ∃ z : Int, e = .returned (.int .i64 z) ∧ w2.heap[w.heap.size]? = W1.heap[w.heap.size]? ∧
    ∀ W2, Below w2.heap.size w2 W2 → Calls Tryz.prog 48 #[.pointer (some ⟨r, 0, none⟩), .slice p L.length c] W2 fun e w3 => e = .returned (.int .i64 z) ∧ w3.heap[w.heap.size]? = W2.heap[w.heap.size]? ∧
     ∀ W3, Below w3.heap.size w3 W3 → Calls Tryz.prog 60 #[.slice (some ⟨g, 0, none⟩) L.length q, .slice p L.length c] W3 fun e w4 => e = .returned (.bool true) ∧ w4.heap[w.heap.size]? = W3.heap[w.heap.size]? ∧ ActP a w d K r D (.returned (.bool true)) w4 := by
 intro W hlt hW
 have hA := h.over hW
 refine (lentInts_any W p c L (hL.below hA.below) hnil (by omega)).mono ?_
 rintro e w1 ⟨g, q, rfl, hl, hb⟩
 refine ⟨g, q, rfl, hb.block _ hlt, fun W1 hW1 => ?_⟩
 have hwW1 : Below w.heap.size w W1 := thenBelow hW (thenBelow hb hW1)
 have hB := h.over hwW1
 have hlt1 : w.heap.size < W1.heap.size := Nat.lt_of_lt_of_le hlt (Nat.le_trans hb.size hW1.size)
 have hl1 : LentI W.heap.size W1 (.slice (some ⟨g, 0, none⟩) L.length q) L := hl.below hW1
 refine (two_crash hB (by omega) L (hl1.intsR fun k hk q => by have := h.lt_d k (wfoot_foot q); omega) hL).mono ?_
 rintro e w2 ⟨z, rfl, hf, hc⟩
 have hk2 := hf.block _ hlt1 fun q => by have := h.lt_d _ q; omega
 have hlt2 : w.heap.size < w2.heap.size := Nat.lt_of_lt_of_le hlt1 hf.size
 refine ⟨z, rfl, hk2, fun W2 hW2 => (hc W2 hW2).mono ?_⟩
 rintro e w3 ⟨rfl, K1, D1, hs⟩
 have hk3 := hs.fr.block _ hlt1 fun q => by
  rcases q with q | q
  ·have := h.lt_d _ q; omega
  ·have := h.lt_r _ q; omega
 have hlt3 : w.heap.size < w3.heap.size := Nat.lt_of_lt_of_le hlt1 hs.fr.size
 refine ⟨rfl, by rw [hk3, hW2.block _ hlt2, hk2], fun W3 hW3 => ?_⟩
 have hl3 : LentI W.heap.size W3 (.slice (some ⟨g, 0, none⟩) L.length q) L := (hl1.fr hs.fr fun k hk q => by
  rcases q with q | q
  ·have := h.lt_d _ q; omega
  ·have := h.lt_r _ q; omega).below hW3
 refine (staysInts_any W3 _ _ L hl3 (hL.below (thenBelow hs.pr.below hW3)) (by omega)).mono ?_
 rintro e w4 ⟨rfl, hb4⟩
 exact ⟨rfl, hb4.block _ (Nat.lt_of_lt_of_le hlt3 hW3.size), rfl, K1, D1, ks, (hs.under hwW1).over (thenBelow hW3 hb4)⟩
theorem Pr.arm8 (h : Pr a w d K r D ks) {L : List Int} {p : Option Addr} {c : Nat} (hL : IntsIn a (.slice p L.length c) L) (hnil : p = none → L.length = 0 ∧ c = 0) (hlen : L.length ≤ 10000) (n : Int) (hn : n ≤ 9223372036854775807) :
  ∀ W, w.heap.size < W.heap.size → Below w.heap.size w W → Calls Tryz.prog 59 #[.slice p L.length c] W fun e w1 => ∃ g q, e = .returned (.slice (some ⟨g, 0, none⟩) L.length q) ∧ w1.heap[w.heap.size]? = W.heap[w.heap.size]? ∧
   ∀ W1, Below w1.heap.size w1 W1 → Calls Tryz.prog 62 #[.pointer (some ⟨d, 0, none⟩), .int .i64 n, .slice (some ⟨g, 0, none⟩) L.length q] W1 fun e w2 => e = .returned (.tuple #[]) ∧ w2.heap[w.heap.size]? = W1.heap[w.heap.size]? ∧
    ∀ W2, Below w2.heap.size w2 W2 → Calls Tryz.prog 63 #[.pointer (some ⟨r, 0, none⟩), .int .i64 n, .slice p L.length c] W2 fun e w3 => e = .returned (.tuple #[]) ∧ w3.heap[w.heap.size]? = W2.heap[w.heap.size]? ∧
     ∀ W3, Below w3.heap.size w3 W3 → Calls Tryz.prog 60 #[.slice (some ⟨g, 0, none⟩) L.length q, .slice p L.length c] W3 fun e w4 => e = .returned (.bool true) ∧ w4.heap[w.heap.size]? = W3.heap[w.heap.size]? ∧ ActP a w d K r D (.returned (.bool true)) w4 := by
 intro W hlt hW
 have hA := h.over hW
 refine (lentInts_any W p c L (hL.below hA.below) hnil (by omega)).mono ?_
 rintro e w1 ⟨g, q, rfl, hl, hb⟩
 refine ⟨g, q, rfl, hb.block _ hlt, fun W1 hW1 => ?_⟩
 have hwW1 : Below w.heap.size w W1 := thenBelow hW (thenBelow hb hW1)
 have hB := h.over hwW1
 have hlt1 : w.heap.size < W1.heap.size := Nat.lt_of_lt_of_le hlt (Nat.le_trans hb.size hW1.size)
 have hl1 : LentI W.heap.size W1 (.slice (some ⟨g, 0, none⟩) L.length q) L := hl.below hW1
 obtain ⟨g', q', e', _, _, hg, _, hcl, _⟩ := id hl1
 simp only [Value.slice.injEq, Option.some.injEq, Addr.mk.injEq] at e'
 obtain ⟨⟨rfl, _, _⟩, _, rfl⟩ := e'
 have hdw : d < w.heap.size := h.lt_d d (.inl rfl)
 refine (two_arm hB n hn hlen (g := g) (c := q) (by omega) (fun j hj => ?_) hL).mono ?_
 ·rw [Nat.zero_add, hcl j L[j] (List.getElem?_eq_getElem hj), List.getD_eq_getElem?_getD, List.getElem?_eq_getElem hj]
  rfl
 rintro e w2 ⟨rfl, hf, hc⟩
 have hk2 := hf.block _ hlt1 fun q => by have := h.lt_d _ q; omega
 have hlt2 : w.heap.size < w2.heap.size := Nat.lt_of_lt_of_le hlt1 hf.size
 refine ⟨rfl, hk2, fun W2 hW2 => (hc W2 hW2).mono ?_⟩
 rintro e w3 ⟨rfl, K1, D1, hs⟩
 have hk3 := hs.fr.block _ hlt1 fun q => by
  rcases q with q | q
  ·have := h.lt_d _ q; omega
  ·have := h.lt_r _ q; omega
 have hlt3 : w.heap.size < w3.heap.size := Nat.lt_of_lt_of_le hlt1 hs.fr.size
 refine ⟨rfl, by rw [hk3, hW2.block _ hlt2, hk2], fun W3 hW3 => ?_⟩
 have hl3 : LentI W.heap.size W3 (.slice (some ⟨g, 0, none⟩) L.length q) L := (hl1.fr hs.fr fun k hk q => by
  rcases q with q | q
  ·have := h.lt_d _ q; omega
  ·have := h.lt_r _ q; omega).below hW3
 refine (staysInts_any W3 _ _ L hl3 (hL.below (thenBelow hs.pr.below hW3)) (by omega)).mono ?_
 rintro e w4 ⟨rfl, hb4⟩
 exact ⟨rfl, hb4.block _ (Nat.lt_of_lt_of_le hlt3 hW3.size), rfl, K1, D1, L, (hs.under hwW1).over (thenBelow hW3 hb4)⟩
end
end Go.Proofs.YtbkngnjkaledlaaGreat.P4
namespace Go.Proofs.YtbkngnjkaledlaaGreat.P4
open Go Go.RowKit Go.Lib Go.Maps Go.ChangeMaps Go.MapKept P3
section
variable {a w w' w1 w2 : World} {d r : Nat} {K K1 : Dk} {D D1 : RM} {ks : List Int}
theorem act_2 (h : Pr a w d K r D ks) (ht : K.turn < 8990) (o : OpV) (ho : ActOk a o) (hlen : o.L.length ≤ 10000) (hk : o.kind = 2) :
  Calls Tryz.prog 16 #[.pointer (some ⟨d, 0, none⟩), .pointer (some ⟨r, 0, none⟩), .agg o.cells] w (ActP a w d K r D) := by
 obtain ⟨kind, S, T, A, B, own, p, c, L⟩ := o
 obtain rfl : kind = 2 := hk
 have HF := Lib.hid (fun W => fill_any S ho.S own W)
 have HC := Lib.hid (h.boxed fun W hW => two_sync hW (by omega) T ho.T)
 have HR : Hid (∀ W, Below w.heap.size w W → Calls Tryz.prog 21 #[.pointer (some ⟨r, 0, none⟩), .string T] W fun e w' => e = .returned (.tuple #[.int .i64 (sizeR D T), .int .i64 (errR D T)]) ∧ Below W.heap.size W w') := fun W hW => (h.over hW).at2.size T
 clear h ht ho hlen
 go_enter Tryz.func16, Tryz.ntmps16
 go_upto_region 1 with (fail)
 have hB0 : (w.alloc (.cells (OpV.cells ⟨2, S, T, A, B, own, p, c, L⟩) 43)).heap[w.heap.size]? = some (.cells (OpV.cells ⟨2, S, T, A, B, own, p, c, L⟩) 43 (0, 0)) := new_at w _ _
 have HB1 := Lib.hid (below_new w (.cells (OpV.cells ⟨2, S, T, A, B, own, p, c, L⟩) 43))
 generalize w.alloc _ = w0 at hB0 HB1 ⊢
 have HX : Hid (∀ W : World, W.heap[w.heap.size]? = w0.heap[w.heap.size]? → W.cell? ⟨w.heap.size, 0, none⟩ = some (.int .i64 2) ∧ W.cell? ⟨w.heap.size, 1, none⟩ = some (.string S) ∧ W.cell? ⟨w.heap.size, 2, none⟩ = some (.string T) ∧ W.cell? ⟨w.heap.size, 3, none⟩ = some (.int .i64 A) ∧ W.cell? ⟨w.heap.size, 4, none⟩ = some (.int .i64 B) ∧ W.cell? ⟨w.heap.size, 5, none⟩ = some (.bool own) ∧ W.cell? ⟨w.heap.size, 6, none⟩ = some (.slice p L.length c)) := fun W hW => by
  have h2 := hW.trans hB0
  exact ⟨cell_at h2 0, cell_at h2 1, cell_at h2 2, cell_at h2 3, cell_at h2 4, cell_at h2 5, cell_at h2 6⟩
 have HL0 := Lib.hid (lt_of_block hB0)
 clear hB0
 go_region_held3 (fun W => W.cell? ⟨w.heap.size, 0, none⟩ = some (.int .i64 2) ∧ W.cell? ⟨w.heap.size, 1, none⟩ = some (.string S) ∧ W.cell? ⟨w.heap.size, 2, none⟩ = some (.string T) ∧ W.cell? ⟨w.heap.size, 3, none⟩ = some (.int .i64 A) ∧ W.cell? ⟨w.heap.size, 4, none⟩ = some (.int .i64 B) ∧ W.cell? ⟨w.heap.size, 5, none⟩ = some (.bool own) ∧ W.cell? ⟨w.heap.size, 6, none⟩ = some (.slice p L.length c)) (first | exact HX.out _ rfl | exact HX.out _ HE1.out) ((go_at_call 52; (with_reducible refine (HF.out _).mono ?_); rintro e w1 ⟨s', rfl, hs', hb⟩; have HE1 := Lib.hid (show w1.heap[w.heap.size]? = w0.heap[w.heap.size]? from hb.block _ HL0.out); have HB2 := Lib.hid (show Below w.heap.size w w1 from (by first | exact thenBelow HB1.out hb | exact thenBelow HB1.out (thenBelow (Below.refl _ _).drew hb))); have HL1 := Lib.hid (Nat.lt_of_lt_of_le HL0.out hb.size); have HS := Lib.hid hs'; clear hb hs'))
 rename_i hHeld
 clear HF HL0 HB1
 cases own with
 | false =>
  obtain ⟨c0, c1, c2, c3, c4, c5, c6⟩ := hHeld
  go_upto_region 9 with (fail)
  go_region_held3 (fun W => W.cell? ⟨w.heap.size, 0, none⟩ = some (.int .i64 2) ∧ W.cell? ⟨w.heap.size, 1, none⟩ = some (.string S) ∧ W.cell? ⟨w.heap.size, 2, none⟩ = some (.string T) ∧ W.cell? ⟨w.heap.size, 3, none⟩ = some (.int .i64 A) ∧ W.cell? ⟨w.heap.size, 4, none⟩ = some (.int .i64 B) ∧ W.cell? ⟨w.heap.size, 5, none⟩ = some (.bool false) ∧ W.cell? ⟨w.heap.size, 6, none⟩ = some (.slice p L.length c)) (first | exact HX.out _ HE1.out | exact HX.out _ HE2.out | exact HX.out _ HE3.out) ((first
   | (go_at_call 50; (with_reducible refine (HC.out _ (by first | exact HL1.out | exact lt_drew HL1.out) (by first | exact HB2.out | exact HB2.out.drew)).mono ?_); rintro e w2 ⟨z, rfl, he, hf⟩; have HE2 := Lib.hid (show w2.heap[w.heap.size]? = w0.heap[w.heap.size]? from he.trans HE1.out); have HC2 := Lib.hid hf; clear he hf)
   | (go_at_call 13; (with_reducible refine (HC2.out _ (by first | exact Below.refl _ _ | exact (Below.refl _ _).drew)).mono ?_); rintro e w3 ⟨rfl, he, hp⟩; have HE3 := Lib.hid (show w3.heap[w.heap.size]? = w0.heap[w.heap.size]? from he.trans HE1.out); have HP := Lib.hid hp; clear he hp)))
  all_goals
   first
    | (go_wp2; go_ret; exact ⟨by simp, HP.out.2⟩)
    | (go_ret; exact ⟨by simp, HP.out.2⟩)
    | (go_wp2; go_ret; exact ⟨rfl, HP.out.2⟩)
    | (go_ret; exact ⟨rfl, HP.out.2⟩)
 | true =>
  obtain ⟨c0, c1, c2, c3, c4, c5, c6⟩ := hHeld
  go_upto_region 9 with (go_at_call 21; (with_reducible refine (HR.out _ HB2.out).mono ?_); rintro e w2 ⟨rfl, hb⟩; clear c0 c1 c2 c3 c4 c5 c6; have HE2 := Lib.hid (show w2.heap[w.heap.size]? = w0.heap[w.heap.size]? from (hb.block _ HL1.out).trans HE1.out); have HB3 := Lib.hid (thenBelow HB2.out hb); have HL2 := Lib.hid (Nat.lt_of_lt_of_le HL1.out hb.size); obtain ⟨c0, c1, c2, c3, c4, c5, c6⟩ := HX.out w2 HE2.out; clear hb)
  clear HE1 HB2 HL1
  go_region_held3 (fun W => W.cell? ⟨w.heap.size, 0, none⟩ = some (.int .i64 2) ∧ W.cell? ⟨w.heap.size, 1, none⟩ = some (.string S) ∧ W.cell? ⟨w.heap.size, 2, none⟩ = some (.string T) ∧ W.cell? ⟨w.heap.size, 3, none⟩ = some (.int .i64 A) ∧ W.cell? ⟨w.heap.size, 4, none⟩ = some (.int .i64 B) ∧ W.cell? ⟨w.heap.size, 5, none⟩ = some (.bool true) ∧ W.cell? ⟨w.heap.size, 6, none⟩ = some (.slice p L.length c)) (first | exact HX.out _ HE2.out | exact HX.out _ HE3.out | exact HX.out _ HE4.out) ((first
   | (go_at_call 50; (with_reducible refine (HC.out _ (by first | exact HL2.out | exact lt_drew HL2.out) (by first | exact HB3.out | exact HB3.out.drew)).mono ?_); rintro e w3 ⟨z, rfl, he, hf⟩; have HE3 := Lib.hid (show w3.heap[w.heap.size]? = w0.heap[w.heap.size]? from he.trans HE2.out); have HC2 := Lib.hid hf; clear he hf)
   | (go_at_call 13; (with_reducible refine (HC2.out _ (by first | exact Below.refl _ _ | exact (Below.refl _ _).drew)).mono ?_); rintro e w4 ⟨rfl, he, hp⟩; have HE4 := Lib.hid (show w4.heap[w.heap.size]? = w0.heap[w.heap.size]? from he.trans HE2.out); have HP := Lib.hid hp; clear he hp)))
  all_goals
   first
    | (go_wp2; go_ret; exact ⟨by simp, HP.out.2⟩)
    | (go_ret; exact ⟨by simp, HP.out.2⟩)
    | (go_wp2; go_ret; exact ⟨rfl, HP.out.2⟩)
    | (go_ret; exact ⟨rfl, HP.out.2⟩)
theorem act_5 (h : Pr a w d K r D ks) (ht : K.turn < 8990) (o : OpV) (ho : ActOk a o) (hlen : o.L.length ≤ 10000) (hk : o.kind = 5) :
  Calls Tryz.prog 16 #[.pointer (some ⟨d, 0, none⟩), .pointer (some ⟨r, 0, none⟩), .agg o.cells] w (ActP a w d K r D) := by
 obtain ⟨kind, S, T, A, B, own, p, c, L⟩ := o
 obtain rfl : kind = 5 := hk
 have HF := Lib.hid (fun W => fill_any S ho.S own W)
 have HC := Lib.hid (h.boxed fun W hW => two_remove hW (by omega) T ho.T)
 have HR : Hid (∀ W, Below w.heap.size w W → Calls Tryz.prog 21 #[.pointer (some ⟨r, 0, none⟩), .string T] W fun e w' => e = .returned (.tuple #[.int .i64 (sizeR D T), .int .i64 (errR D T)]) ∧ Below W.heap.size W w') := fun W hW => (h.over hW).at2.size T
 clear h ht ho hlen
 go_enter Tryz.func16, Tryz.ntmps16
 go_upto_region 1 with (fail)
 have hB0 : (w.alloc (.cells (OpV.cells ⟨5, S, T, A, B, own, p, c, L⟩) 43)).heap[w.heap.size]? = some (.cells (OpV.cells ⟨5, S, T, A, B, own, p, c, L⟩) 43 (0, 0)) := new_at w _ _
 have HB1 := Lib.hid (below_new w (.cells (OpV.cells ⟨5, S, T, A, B, own, p, c, L⟩) 43))
 generalize w.alloc _ = w0 at hB0 HB1 ⊢
 have HX : Hid (∀ W : World, W.heap[w.heap.size]? = w0.heap[w.heap.size]? → W.cell? ⟨w.heap.size, 0, none⟩ = some (.int .i64 5) ∧ W.cell? ⟨w.heap.size, 1, none⟩ = some (.string S) ∧ W.cell? ⟨w.heap.size, 2, none⟩ = some (.string T) ∧ W.cell? ⟨w.heap.size, 3, none⟩ = some (.int .i64 A) ∧ W.cell? ⟨w.heap.size, 4, none⟩ = some (.int .i64 B) ∧ W.cell? ⟨w.heap.size, 5, none⟩ = some (.bool own) ∧ W.cell? ⟨w.heap.size, 6, none⟩ = some (.slice p L.length c)) := fun W hW => by
  have h2 := hW.trans hB0
  exact ⟨cell_at h2 0, cell_at h2 1, cell_at h2 2, cell_at h2 3, cell_at h2 4, cell_at h2 5, cell_at h2 6⟩
 have HL0 := Lib.hid (lt_of_block hB0)
 clear hB0
 go_region_held3 (fun W => W.cell? ⟨w.heap.size, 0, none⟩ = some (.int .i64 5) ∧ W.cell? ⟨w.heap.size, 1, none⟩ = some (.string S) ∧ W.cell? ⟨w.heap.size, 2, none⟩ = some (.string T) ∧ W.cell? ⟨w.heap.size, 3, none⟩ = some (.int .i64 A) ∧ W.cell? ⟨w.heap.size, 4, none⟩ = some (.int .i64 B) ∧ W.cell? ⟨w.heap.size, 5, none⟩ = some (.bool own) ∧ W.cell? ⟨w.heap.size, 6, none⟩ = some (.slice p L.length c)) (first | exact HX.out _ rfl | exact HX.out _ HE1.out) ((go_at_call 52; (with_reducible refine (HF.out _).mono ?_); rintro e w1 ⟨s', rfl, hs', hb⟩; have HE1 := Lib.hid (show w1.heap[w.heap.size]? = w0.heap[w.heap.size]? from hb.block _ HL0.out); have HB2 := Lib.hid (show Below w.heap.size w w1 from (by first | exact thenBelow HB1.out hb | exact thenBelow HB1.out (thenBelow (Below.refl _ _).drew hb))); have HL1 := Lib.hid (Nat.lt_of_lt_of_le HL0.out hb.size); have HS := Lib.hid hs'; clear hb hs'))
 rename_i hHeld
 clear HF HL0 HB1
 cases own with
 | false =>
  obtain ⟨c0, c1, c2, c3, c4, c5, c6⟩ := hHeld
  go_upto_region 15 with (fail)
  go_region_held3 (fun W => W.cell? ⟨w.heap.size, 0, none⟩ = some (.int .i64 5) ∧ W.cell? ⟨w.heap.size, 1, none⟩ = some (.string S) ∧ W.cell? ⟨w.heap.size, 2, none⟩ = some (.string T) ∧ W.cell? ⟨w.heap.size, 3, none⟩ = some (.int .i64 A) ∧ W.cell? ⟨w.heap.size, 4, none⟩ = some (.int .i64 B) ∧ W.cell? ⟨w.heap.size, 5, none⟩ = some (.bool false) ∧ W.cell? ⟨w.heap.size, 6, none⟩ = some (.slice p L.length c)) (first | exact HX.out _ HE1.out | exact HX.out _ HE2.out | exact HX.out _ HE3.out) ((first
   | (go_at_call 57; (with_reducible refine (HC.out _ (by first | exact HL1.out | exact lt_drew HL1.out) (by first | exact HB2.out | exact HB2.out.drew)).mono ?_); rintro e w2 ⟨z, rfl, he, hf⟩; have HE2 := Lib.hid (show w2.heap[w.heap.size]? = w0.heap[w.heap.size]? from he.trans HE1.out); have HC2 := Lib.hid hf; clear he hf)
   | (go_at_call 58; (with_reducible refine (HC2.out _ (by first | exact Below.refl _ _ | exact (Below.refl _ _).drew)).mono ?_); rintro e w3 ⟨rfl, he, hp⟩; have HE3 := Lib.hid (show w3.heap[w.heap.size]? = w0.heap[w.heap.size]? from he.trans HE1.out); have HP := Lib.hid hp; clear he hp)))
  all_goals
   first
    | (go_wp2; go_ret; exact ⟨by simp, HP.out.2⟩)
    | (go_ret; exact ⟨by simp, HP.out.2⟩)
    | (go_wp2; go_ret; exact ⟨rfl, HP.out.2⟩)
    | (go_ret; exact ⟨rfl, HP.out.2⟩)
 | true =>
  obtain ⟨c0, c1, c2, c3, c4, c5, c6⟩ := hHeld
  go_upto_region 15 with (go_at_call 21; (with_reducible refine (HR.out _ HB2.out).mono ?_); rintro e w2 ⟨rfl, hb⟩; clear c0 c1 c2 c3 c4 c5 c6; have HE2 := Lib.hid (show w2.heap[w.heap.size]? = w0.heap[w.heap.size]? from (hb.block _ HL1.out).trans HE1.out); have HB3 := Lib.hid (thenBelow HB2.out hb); have HL2 := Lib.hid (Nat.lt_of_lt_of_le HL1.out hb.size); obtain ⟨c0, c1, c2, c3, c4, c5, c6⟩ := HX.out w2 HE2.out; clear hb)
  clear HE1 HB2 HL1
  go_region_held3 (fun W => W.cell? ⟨w.heap.size, 0, none⟩ = some (.int .i64 5) ∧ W.cell? ⟨w.heap.size, 1, none⟩ = some (.string S) ∧ W.cell? ⟨w.heap.size, 2, none⟩ = some (.string T) ∧ W.cell? ⟨w.heap.size, 3, none⟩ = some (.int .i64 A) ∧ W.cell? ⟨w.heap.size, 4, none⟩ = some (.int .i64 B) ∧ W.cell? ⟨w.heap.size, 5, none⟩ = some (.bool true) ∧ W.cell? ⟨w.heap.size, 6, none⟩ = some (.slice p L.length c)) (first | exact HX.out _ HE2.out | exact HX.out _ HE3.out | exact HX.out _ HE4.out) ((first
   | (go_at_call 57; (with_reducible refine (HC.out _ (by first | exact HL2.out | exact lt_drew HL2.out) (by first | exact HB3.out | exact HB3.out.drew)).mono ?_); rintro e w3 ⟨z, rfl, he, hf⟩; have HE3 := Lib.hid (show w3.heap[w.heap.size]? = w0.heap[w.heap.size]? from he.trans HE2.out); have HC2 := Lib.hid hf; clear he hf)
   | (go_at_call 58; (with_reducible refine (HC2.out _ (by first | exact Below.refl _ _ | exact (Below.refl _ _).drew)).mono ?_); rintro e w4 ⟨rfl, he, hp⟩; have HE4 := Lib.hid (show w4.heap[w.heap.size]? = w0.heap[w.heap.size]? from he.trans HE2.out); have HP := Lib.hid hp; clear he hp)))
  all_goals
   first
    | (go_wp2; go_ret; exact ⟨by simp, HP.out.2⟩)
    | (go_ret; exact ⟨by simp, HP.out.2⟩)
    | (go_wp2; go_ret; exact ⟨rfl, HP.out.2⟩)
    | (go_ret; exact ⟨rfl, HP.out.2⟩)
theorem act_4 (h : Pr a w d K r D ks) (ht : K.turn < 8990) (o : OpV) (ho : ActOk a o) (hlen : o.L.length ≤ 10000) (hk : o.kind = 4) :
  Calls Tryz.prog 16 #[.pointer (some ⟨d, 0, none⟩), .pointer (some ⟨r, 0, none⟩), .agg o.cells] w (ActP a w d K r D) := by
 obtain ⟨kind, S, T, A, B, own, p, c, L⟩ := o
 obtain rfl : kind = 4 := hk
 have HF := Lib.hid (fun W => fill_any S ho.S own W)
 have HC := Lib.hid (h.boxed fun W hW => two_rename hW (by omega) T S ho.T)
 have HR : Hid (∀ W, Below w.heap.size w W → Calls Tryz.prog 21 #[.pointer (some ⟨r, 0, none⟩), .string T] W fun e w' => e = .returned (.tuple #[.int .i64 (sizeR D T), .int .i64 (errR D T)]) ∧ Below W.heap.size W w') := fun W hW => (h.over hW).at2.size T
 clear h ht ho hlen
 go_enter Tryz.func16, Tryz.ntmps16
 go_upto_region 1 with (fail)
 have hB0 : (w.alloc (.cells (OpV.cells ⟨4, S, T, A, B, own, p, c, L⟩) 43)).heap[w.heap.size]? = some (.cells (OpV.cells ⟨4, S, T, A, B, own, p, c, L⟩) 43 (0, 0)) := new_at w _ _
 have HB1 := Lib.hid (below_new w (.cells (OpV.cells ⟨4, S, T, A, B, own, p, c, L⟩) 43))
 generalize w.alloc _ = w0 at hB0 HB1 ⊢
 have HX : Hid (∀ W : World, W.heap[w.heap.size]? = w0.heap[w.heap.size]? → W.cell? ⟨w.heap.size, 0, none⟩ = some (.int .i64 4) ∧ W.cell? ⟨w.heap.size, 1, none⟩ = some (.string S) ∧ W.cell? ⟨w.heap.size, 2, none⟩ = some (.string T) ∧ W.cell? ⟨w.heap.size, 3, none⟩ = some (.int .i64 A) ∧ W.cell? ⟨w.heap.size, 4, none⟩ = some (.int .i64 B) ∧ W.cell? ⟨w.heap.size, 5, none⟩ = some (.bool own) ∧ W.cell? ⟨w.heap.size, 6, none⟩ = some (.slice p L.length c)) := fun W hW => by
  have h2 := hW.trans hB0
  exact ⟨cell_at h2 0, cell_at h2 1, cell_at h2 2, cell_at h2 3, cell_at h2 4, cell_at h2 5, cell_at h2 6⟩
 have HL0 := Lib.hid (lt_of_block hB0)
 clear hB0
 go_region_held3 (fun W => W.cell? ⟨w.heap.size, 0, none⟩ = some (.int .i64 4) ∧ W.cell? ⟨w.heap.size, 1, none⟩ = some (.string S) ∧ W.cell? ⟨w.heap.size, 2, none⟩ = some (.string T) ∧ W.cell? ⟨w.heap.size, 3, none⟩ = some (.int .i64 A) ∧ W.cell? ⟨w.heap.size, 4, none⟩ = some (.int .i64 B) ∧ W.cell? ⟨w.heap.size, 5, none⟩ = some (.bool own) ∧ W.cell? ⟨w.heap.size, 6, none⟩ = some (.slice p L.length c)) (first | exact HX.out _ rfl | exact HX.out _ HE1.out) ((go_at_call 52; (with_reducible refine (HF.out _).mono ?_); rintro e w1 ⟨s', rfl, hs', hb⟩; have HE1 := Lib.hid (show w1.heap[w.heap.size]? = w0.heap[w.heap.size]? from hb.block _ HL0.out); have HB2 := Lib.hid (show Below w.heap.size w w1 from (by first | exact thenBelow HB1.out hb | exact thenBelow HB1.out (thenBelow (Below.refl _ _).drew hb))); have HL1 := Lib.hid (Nat.lt_of_lt_of_le HL0.out hb.size); have HS := Lib.hid hs'; clear hb hs'))
 rename_i hHeld
 clear HF HL0 HB1
 cases own with
 | false =>
  obtain ⟨c0, c1, c2, c3, c4, c5, c6⟩ := hHeld
  go_upto_region 13 with (fail)
  go_region_held3 (fun W => W.cell? ⟨w.heap.size, 0, none⟩ = some (.int .i64 4) ∧ W.cell? ⟨w.heap.size, 1, none⟩ = some (.string S) ∧ W.cell? ⟨w.heap.size, 2, none⟩ = some (.string T) ∧ W.cell? ⟨w.heap.size, 3, none⟩ = some (.int .i64 A) ∧ W.cell? ⟨w.heap.size, 4, none⟩ = some (.int .i64 B) ∧ W.cell? ⟨w.heap.size, 5, none⟩ = some (.bool false) ∧ W.cell? ⟨w.heap.size, 6, none⟩ = some (.slice p L.length c)) (first | exact HX.out _ HE1.out | exact HX.out _ HE2.out | exact HX.out _ HE3.out) ((first
   | (go_at_call 55; (with_reducible refine (HC.out _ (by first | exact HL1.out | exact lt_drew HL1.out) (by first | exact HB2.out | exact HB2.out.drew)).mono ?_); rintro e w2 ⟨z, rfl, he, hf⟩; have HE2 := Lib.hid (show w2.heap[w.heap.size]? = w0.heap[w.heap.size]? from he.trans HE1.out); have HC2 := Lib.hid hf; clear he hf)
   | (go_at_call 56; (with_reducible refine (HC2.out _ (by first | exact Below.refl _ _ | exact (Below.refl _ _).drew)).mono ?_); rintro e w3 ⟨rfl, he, hp⟩; have HE3 := Lib.hid (show w3.heap[w.heap.size]? = w0.heap[w.heap.size]? from he.trans HE1.out); have HP := Lib.hid hp; clear he hp)))
  all_goals
   first
    | (go_wp2; go_ret; exact ⟨by simp, HP.out.2⟩)
    | (go_ret; exact ⟨by simp, HP.out.2⟩)
    | (go_wp2; go_ret; exact ⟨rfl, HP.out.2⟩)
    | (go_ret; exact ⟨rfl, HP.out.2⟩)
 | true =>
  obtain ⟨c0, c1, c2, c3, c4, c5, c6⟩ := hHeld
  go_upto_region 13 with (go_at_call 21; (with_reducible refine (HR.out _ HB2.out).mono ?_); rintro e w2 ⟨rfl, hb⟩; clear c0 c1 c2 c3 c4 c5 c6; have HE2 := Lib.hid (show w2.heap[w.heap.size]? = w0.heap[w.heap.size]? from (hb.block _ HL1.out).trans HE1.out); have HB3 := Lib.hid (thenBelow HB2.out hb); have HL2 := Lib.hid (Nat.lt_of_lt_of_le HL1.out hb.size); obtain ⟨c0, c1, c2, c3, c4, c5, c6⟩ := HX.out w2 HE2.out; clear hb)
  clear HE1 HB2 HL1
  go_region_held3 (fun W => W.cell? ⟨w.heap.size, 0, none⟩ = some (.int .i64 4) ∧ W.cell? ⟨w.heap.size, 1, none⟩ = some (.string S) ∧ W.cell? ⟨w.heap.size, 2, none⟩ = some (.string T) ∧ W.cell? ⟨w.heap.size, 3, none⟩ = some (.int .i64 A) ∧ W.cell? ⟨w.heap.size, 4, none⟩ = some (.int .i64 B) ∧ W.cell? ⟨w.heap.size, 5, none⟩ = some (.bool true) ∧ W.cell? ⟨w.heap.size, 6, none⟩ = some (.slice p L.length c)) (first | exact HX.out _ HE2.out | exact HX.out _ HE3.out | exact HX.out _ HE4.out) ((first
   | (go_at_call 55; (with_reducible refine (HC.out _ (by first | exact HL2.out | exact lt_drew HL2.out) (by first | exact HB3.out | exact HB3.out.drew)).mono ?_); rintro e w3 ⟨z, rfl, he, hf⟩; have HE3 := Lib.hid (show w3.heap[w.heap.size]? = w0.heap[w.heap.size]? from he.trans HE2.out); have HC2 := Lib.hid hf; clear he hf)
   | (go_at_call 56; (with_reducible refine (HC2.out _ (by first | exact Below.refl _ _ | exact (Below.refl _ _).drew)).mono ?_); rintro e w4 ⟨rfl, he, hp⟩; have HE4 := Lib.hid (show w4.heap[w.heap.size]? = w0.heap[w.heap.size]? from he.trans HE2.out); have HP := Lib.hid hp; clear he hp)))
  all_goals
   first
    | (go_wp2; go_ret; exact ⟨by simp, HP.out.2⟩)
    | (go_ret; exact ⟨by simp, HP.out.2⟩)
    | (go_wp2; go_ret; exact ⟨rfl, HP.out.2⟩)
    | (go_ret; exact ⟨rfl, HP.out.2⟩)
end
end Go.Proofs.YtbkngnjkaledlaaGreat.P4
