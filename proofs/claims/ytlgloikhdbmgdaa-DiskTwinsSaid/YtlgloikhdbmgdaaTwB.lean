/-
  Any act on a quiet disk; lists of texts; the statements' one. (Ac0, Tx4, One4 in one text.)
-/
import Derived.Test.YtlgloikhdbmgdaaTwA
import Derived.Test.YtlgloikhdbmgdaaDk34
import Derived.BigQuiet
import Derived.Deep.QuietTactic
namespace Go.Proofs.Ytlgloikhdbmgdaa.P4
open Go Go.RowKit Go.Lib Go.Maps Go.ChangeMaps Go.MapKept Go.Proofs.Ytlgloikhdbmgdaa.P3

/-- not armed, nothing kept for a crash -/
structure Quiet (K : Dk) : Prop where
  armed : K.armed = false
  left : K.left = 0
  keep : K.keep = []
/-- what an act leaves -/
def Acted (w : World) (d : Nat) (K : Dk) (w' : World) : Prop := ∃ K', Step w d K w' K' ∧ Quiet K' ∧ K'.turn ≤ K.turn + 1
theorem Quiet.counted {K : Dk} (h : Quiet K) : counted K = K := by unfold P4.counted; rw [h.armed]; rfl
theorem acted_below {w w' : World} {d : Nat} {K : Dk} (h : DiskAt w d K) (hq : Quiet K) (hb : Below w.heap.size w w') : Acted w d K w' := ⟨K, .below h hb, hq, Nat.le_succ _⟩
theorem Crashed.acted {w w1 w' : World} {d : Nat} {K K' : Dk} {ks : List Int} {n : Int} (h : DiskAt w d K) (hb : Below w.heap.size w w1) (hc : Crashed w1 d K ks n K' w') : Acted w d K w' := by
  refine ⟨K', (Step.below h hb).trans hc.step, ?_, ?_⟩
  · rw [hc.eq]; exact ⟨rfl, rfl, rfl⟩
  · rw [hc.eq]; exact Nat.le_succ _
theorem act_write {w : World} {d : Nat} {K : Dk} (h : DiskAt w d K) (hq : Quiet K) (s : ByteArray) (i : Int) (data : ByteArray) (hs : s.size ≤ maxLen) (ht : K.turn < 9000) :
    Calls Try.prog 10 #[.pointer (some ⟨d, 0, none⟩), .string s, .int .i64 i, .string data] w fun e w' => (∃ z, e = .returned (.int .i64 z)) ∧ Acted w d K w' := by
  refine (h.write s i data hs (by rw [hq.left]; decide) ht).mono ?_
  rintro e w' (⟨_, rfl, hb⟩ | ⟨_, w1, K1, hst, hw, n, K', rfl, hc⟩)
  · exact ⟨⟨_, rfl⟩, acted_below h hq hb⟩
  · have hsame := hw.same
    have e1 : K1.armed = false := by rw [hsame]; exact hq.armed
    have e2 : K1.left = 0 := by rw [hsame]; exact hq.left
    have e3 : K1.keep = [] := by rw [hsame]; exact hq.keep
    have e4 : K1.turn = K.turn + 1 := by rw [hsame]
    clear hsame
    refine ⟨⟨_, rfl⟩, ?_⟩
    cases hc with
    | free _ hb hd => exact ⟨K1, hst.trans (.below hst.at' hb), ⟨e1, e2, e3⟩, by omega⟩
    | less ha _ _ => rw [e1] at ha; cases ha
    | falls ha _ _ => rw [e1] at ha; cases ha
theorem act_sync {w : World} {d : Nat} {K : Dk} (h : DiskAt w d K) (hq : Quiet K) (s : ByteArray) (hs : s.size ≤ maxLen) :
    Calls Try.prog 12 #[.pointer (some ⟨d, 0, none⟩), .string s] w fun e w' => (∃ z, e = .returned (.int .i64 z)) ∧ Acted w d K w' := by
  refine (h.sync s hs (by rw [hq.left]; decide)).mono ?_
  intro e w' hp
  cases hp with
  | err _ hb => exact ⟨⟨_, rfl⟩, acted_below h hq hb⟩
  | falls _ ha _ _ _ => rw [hq.armed] at ha; cases ha
  | done _ _ _ hst =>
    rw [hq.counted] at hst
    exact ⟨⟨_, rfl⟩, _, hst, ⟨hq.armed, hq.left, hq.keep⟩, Nat.le_succ _⟩
theorem act_cut {w : World} {d : Nat} {K : Dk} (h : DiskAt w d K) (hq : Quiet K) (s : ByteArray) (i : Int) (hs : s.size ≤ maxLen) :
    Calls Try.prog 22 #[.pointer (some ⟨d, 0, none⟩), .string s, .int .i64 i] w fun e w' => (∃ z, e = .returned (.int .i64 z)) ∧ Acted w d K w' := by
  refine (h.cut s i hs (by rw [hq.left]; decide)).mono ?_
  intro e w' hp
  cases hp with
  | err _ hb => exact ⟨⟨_, rfl⟩, acted_below h hq hb⟩
  | falls _ ha _ _ _ => rw [hq.armed] at ha; cases ha
  | done _ _ _ hst =>
    rw [hq.counted] at hst
    exact ⟨⟨_, rfl⟩, _, hst, ⟨hq.armed, hq.left, hq.keep⟩, Nat.le_succ _⟩
theorem act_rename {w : World} {d : Nat} {K : Dk} (h : DiskAt w d K) (hq : Quiet K) (s t : ByteArray) (hs : s.size ≤ maxLen) :
    Calls Try.prog 23 #[.pointer (some ⟨d, 0, none⟩), .string s, .string t] w fun e w' => (∃ z, e = .returned (.int .i64 z)) ∧ Acted w d K w' := by
  refine (h.renames s t hs (by rw [hq.left]; decide)).mono ?_
  intro e w' hp
  cases hp with
  | err _ hb => exact ⟨⟨_, rfl⟩, acted_below h hq hb⟩
  | falls _ ha _ _ _ => rw [hq.armed] at ha; cases ha
  | done _ _ _ hst =>
    rw [hq.counted] at hst
    exact ⟨⟨_, rfl⟩, _, hst, ⟨hq.armed, hq.left, hq.keep⟩, Nat.le_succ _⟩
theorem act_remove {w : World} {d : Nat} {K : Dk} (h : DiskAt w d K) (hq : Quiet K) (s : ByteArray) (hs : s.size ≤ maxLen) :
    Calls Try.prog 24 #[.pointer (some ⟨d, 0, none⟩), .string s] w fun e w' => (∃ z, e = .returned (.int .i64 z)) ∧ Acted w d K w' := by
  refine (h.remove s hs (by rw [hq.left]; decide)).mono ?_
  intro e w' hp
  cases hp with
  | err _ hb => exact ⟨⟨_, rfl⟩, acted_below h hq hb⟩
  | falls _ ha _ _ _ => rw [hq.armed] at ha; cases ha
  | done _ _ hst =>
    rw [hq.counted] at hst
    exact ⟨⟨_, rfl⟩, _, hst, ⟨hq.armed, hq.left, hq.keep⟩, Nat.le_succ _⟩
theorem act_crash {w : World} {d : Nat} {K : Dk} {v : Value} (h : DiskAt w d K) (hq : Quiet K) (ks : List Int) (hv : IntsR (K.wfoot d) w v ks) :
    Calls Try.prog 13 #[.pointer (some ⟨d, 0, none⟩), v] w fun e w' => (∃ z, e = .returned (.int .i64 z)) ∧ Acted w d K w' := by
  cases hon : K.on with
  | true =>
    refine (crash_disk h hon hv).mono ?_
    rintro e w' ⟨n, K', rfl, hc⟩
    exact ⟨⟨_, rfl⟩, hc.acted h (Below.refl _ _)⟩
  | false =>
    refine (crash_off w d v ((cell_at h.blk 1).trans (by rw [← hon]; rfl))).mono ?_
    rintro e w' ⟨rfl, rfl⟩
    exact ⟨⟨_, rfl⟩, acted_below h hq (Below.refl _ _)⟩
theorem act_restore {w : World} {d : Nat} {K : Dk} (h : DiskAt w d K) (hq : Quiet K) :
    Calls Try.prog 14 #[.pointer (some ⟨d, 0, none⟩)] w fun e w' => e = .returned (.tuple #[]) ∧ Acted w d K w' := by
  refine h.restore.mono ?_
  rintro e w' ⟨rfl, hs⟩
  exact ⟨rfl, _, hs, ⟨hq.armed, hq.left, hq.keep⟩, Nat.le_succ _⟩
/-- a disk whose blocks are none of those stays as it was -/
theorem Step.other {w w' : World} {d t : Nat} {K K' T : Dk} (h : Step w d K w' K') (hT : DiskAt w t T) (ha : ∀ k, T.foot t k → ¬ K.foot d k) : DiskAt w' t T := hT.fr h.fr ha

end Go.Proofs.Ytlgloikhdbmgdaa.P4

namespace Go.Proofs.Ytlgloikhdbmgdaa.P4
open Go Go.RowKit Go.Lib Go.Maps Go.ChangeMaps Go.MapKept Go.Proofs.Ytlgloikhdbmgdaa.P3

/-- a list of texts: what the value v reads as -/
def TextsIn (w : World) (v : Value) (l : List ByteArray) : Prop :=
  ∃ a c, v = .slice a l.length c ∧ (a = none → c = 0) ∧ l.length ≤ 9223372036854775807 ∧ (∀ i (h : i < l.length), l[i].size ≤ 9223372036854775807) ∧ (0 < l.length → ∃ b off, a = some ⟨b, off, none⟩ ∧ b < w.heap.size ∧ ∀ i (h : i < l.length), w.cell? ⟨b, off + i, none⟩ = some (.string l[i]))
theorem TextsIn.nil (w : World) : TextsIn w (.slice none 0 0) [] := ⟨none, 0, rfl, fun _ => rfl, by simp, fun i h => absurd h (Nat.not_lt_zero _), fun h => absurd h (Nat.lt_irrefl _)⟩
theorem TextsIn.below {w w' : World} {v : Value} {l : List ByteArray} (h : TextsIn w v l) (hb : Below w.heap.size w w') : TextsIn w' v l := by
  obtain ⟨a, c, h1, hn, hl, hz, h2⟩ := h
  refine ⟨a, c, h1, hn, hl, hz, fun h0 => ?_⟩
  obtain ⟨b, off, h3, h4, h5⟩ := h2 h0
  exact ⟨b, off, h3, Nat.lt_of_lt_of_le h4 hb.size, fun i hi => by rw [hb.cell (p := ⟨b, off + i, none⟩) h4]; exact h5 i hi⟩
theorem text_ext {a b : ByteArray} (h : a.data.toList = b.data.toList) : a = b := text_same h
theorem same_true {a b : ByteArray} (h : a = b) : (a.toList == b.toList) = true := by rw [h]; exact beq_self_eq_true _
theorem same_false {a b : ByteArray} (h : a ≠ b) : (a.toList == b.toList) = false := by
  rw [beq_eq_false_iff_ne, ByteArray.toList_eq, ByteArray.toList_eq]
  exact fun e => h (text_ext e)
theorem list_get_ne {l m : List ByteArray} {k : Nat} (h1 : k < l.length) (h2 : k < m.length) (h : l[k] ≠ m[k]) : l ≠ m := by
  intro e; subst e; exact h rfl
theorem sameTexts_any (w : World) (u v : Value) (l m : List ByteArray) (h1 : TextsIn w u l) (h2 : TextsIn w v m) :
    Calls Try.prog 30 #[u, v] w fun e w' => e = .returned (.bool (decide (l = m))) ∧ Below w.heap.size w w' := by
  obtain ⟨d, hd⟩ : ∃ d, d = decide (l = m) := ⟨_, rfl⟩
  rw [← hd]
  obtain ⟨a, c, rfl, _, hl, _, hc⟩ := h1
  obtain ⟨a2, c2, rfl, _, _, _, hc2⟩ := h2
  by_cases hlen : l.length = m.length
  · have k0 : ((l.length : Int) != (m.length : Int)) = false := by simp [hlen]
    have HD := Lib.hid hd
    clear hd
    go_enter Try.func30, Try.ntmps30
    go_wp2
    go_loopw [5] (fun i wr => ∃ k q : Nat, k ≤ l.length ∧ i = .int .i64 k ∧ wr = w.drewN q ∧ Hid (∀ j (h : j < l.length) (h' : j < m.length), j < k → l[j] = m[j])) (fun i _ => l.length - (RowKit.intOf i).toNat)
    case atStart => exact ⟨0, 0, Nat.zero_le _, rfl, rfl, fun j _ _ h => absurd h (Nat.not_lt_zero _)⟩
    case round =>
      obtain ⟨k, q, hk, rfl, rfl, hsame⟩ := hrel
      by_cases hlt : k < l.length
      · obtain ⟨b, off, rfl, hb, hcc⟩ := hc (by omega)
        obtain ⟨b2, off2, rfl, hb2, hcc2⟩ := hc2 (by omega)
        have hlt2 : k < m.length := by omega
        have hcell := hcc k hlt
        have hcell2 := hcc2 k hlt2
        have hne := list_get_ne hlt hlt2
        have hnx : l[k] = m[k] → Hid (∀ j (h : j < l.length) (h' : j < m.length), j < k + 1 → l[j] = m[j]) := fun e j hj hj' h => by
          by_cases ej : j = k
          · subst ej; exact e
          · exact hsame.out j hj hj' (by omega)
        have kk : (k : Int) < (l.length : Int) := by omega
        have kk2 : (k : Int) < (m.length : Int) := by omega
        have kk0 : (0 : Int) ≤ (k : Int) := by omega
        generalize l[k] = s at hcell hne hnx
        generalize m[k] = t at hcell2 hne hnx
        clear hcc hcc2 hc hc2 hsame
        by_cases e : s = t
        · have he := same_true e
          have hN := hnx e
          clear hne hnx
          go_wp2
          go_quiet (fail)
          go_wp2
          go_roundw
          case rel => exact ⟨k + 1, _, by omega, by go_num, rfl, hN⟩
          case measure => simp [RowKit.intOf]; omega
        · have he := same_false e
          have hdf : Hid (d = false) := HD.out.trans (decide_eq_false (hne e))
          clear hne hnx e
          go_wp2
          go_quiet (fail)
          go_wp2
          go_ret
          exact ⟨by rw [hdf.out]; rfl, ⟨rfl, rfl, rfl, Nat.le_refl _, fun _ _ => rfl⟩⟩
      · have hdt : Hid (d = true) := HD.out.trans (decide_eq_true (List.ext_getElem hlen fun j hj hj' => hsame.out j hj hj' (by omega)))
        clear hsame hc hc2
        go_wp2
        go_ret
        exact ⟨by rw [hdt.out]; rfl, ⟨rfl, rfl, rfl, Nat.le_refl _, fun _ _ => rfl⟩⟩
  · have k0 : ((l.length : Int) != (m.length : Int)) = true := by simp; omega
    have hdf : Hid (d = false) := hd.trans (decide_eq_false (fun e => hlen (congrArg List.length e)))
    clear hd hlen hc hc2
    go_enter Try.func30, Try.ntmps30
    go_wp2
    go_ret
    exact ⟨by rw [hdf.out]; rfl, Below.refl _ _⟩


/-- what List gives, as texts -/
def textsL (l : List (List UInt8)) : List ByteArray := l.map fun n => ⟨n.toArray⟩
theorem texts_own {w : World} {lo : Nat} {v : Value} {l : List (List UInt8)} {n : Nat} (h : w.ownsRow lo 9 1 v n (l.map encS)) (hn : n = l.length) (hl : ∀ x ∈ l, x.length ≤ 1000) (hs : l.length ≤ 1000) : TextsIn w v (textsL l) := by
  have hlen : (textsL l).length = l.length := by unfold textsL; rw [List.length_map]
  have hat : ∀ i (h : i < (textsL l).length), (textsL l)[i] = ⟨(l[i]'(by rw [← hlen]; exact h)).toArray⟩ := fun i h => by simp only [textsL, List.getElem_map]
  subst hn
  rcases h.2 with ⟨rfl, h0⟩ | ⟨g, cap, cur, rfl, hlo, hg, hcap, hmx, hcs, hct⟩
  · have e : l = [] := List.eq_nil_of_length_eq_zero h0
    subst e
    exact TextsIn.nil w
  · refine ⟨_, cap, by rw [hlen], (fun e => by cases e), by rw [hlen]; omega, fun i hi => ?_, fun h0 => ⟨g, 0, rfl, lt_of_block hg, fun i hi => ?_⟩⟩
    · rw [hat i hi]
      have := hl _ (List.getElem_mem (l := l) (n := i) (by rw [← hlen]; exact hi))
      show (l[i]'_).toArray.size ≤ _
      rw [List.size_toArray]
      omega
    · have hi2 : i < l.length := by rw [← hlen]; exact hi
      rw [Nat.zero_add, cell_at hg, hat i hi]
      have h7 : (cur.toList.take (l.length * 1))[i]? = (l.map encS)[i]? := by rw [hct]
      rw [List.getElem?_take_of_lt (by omega), List.getElem?_map, List.getElem?_eq_getElem hi2, Array.getElem?_toList] at h7
      exact h7
theorem eq_of_sorted : ∀ {l m : List (List UInt8)}, l.Perm m → l.Pairwise (fun x y => x ≤ y) → m.Pairwise (fun x y => x ≤ y) → l = m
  | [], m, hp, _, _ => hp.nil_eq
  | x :: r, m, hp, hl, hm => by
    cases m with
    | nil => exact absurd hp.symm.nil_eq (by simp)
    | cons y s =>
      rw [List.pairwise_cons] at hl hm
      have h1 : x = y := by
        rcases List.mem_cons.1 (hp.mem_iff.1 List.mem_cons_self) with e | hx
        · exact e
        · rcases List.mem_cons.1 (hp.symm.mem_iff.1 (List.mem_cons_self (a := y) (l := s))) with e | hy
          · exact e.symm
          · exact List.le_antisymm (hl.1 y hy) (hm.1 x hx)
      subst h1
      rw [eq_of_sorted (hp.cons_inv) hl.2 hm.2]
theorem sortN_sorted (xs : List (List UInt8)) : (sortN xs).Pairwise (fun x y => x ≤ y) := by
  have h := List.pairwise_mergeSort (le := fun x y : List UInt8 => decide (x ≤ y)) (fun a b c h1 h2 => by
    simp only [decide_eq_true_eq] at *
    exact List.le_trans h1 h2) (fun a b => by
    simp only [Bool.or_eq_true, decide_eq_true_eq]
    exact List.le_total a b) xs
  exact h.imp (fun h => by simpa using h)
theorem sortN_perm {xs ys : List (List UInt8)} (h : xs.Perm ys) : sortN xs = sortN ys :=
  eq_of_sorted (((List.mergeSort_perm _ _).trans h).trans (List.mergeSort_perm _ _).symm) (sortN_sorted xs) (sortN_sorted ys)

end Go.Proofs.Ytlgloikhdbmgdaa.P4

namespace Go.Proofs.Ytlgloikhdbmgdaa.P4
open Go Go.RowKit Go.Lib Go.Maps Go.ChangeMaps Go.MapKept Go.Proofs.Ytlgloikhdbmgdaa.P3

/-- an act, as a value -/
structure OpV where
  kind : Int
  S : ByteArray
  T : ByteArray
  A : Int
  B : Int
  own : Bool
  a : Option Addr
  c : Nat
  L : List Int
abbrev OpV.cells (o : OpV) : Array Value := #[.int .i64 o.kind, .string o.S, .string o.T, .int .i64 o.A, .int .i64 o.B, .bool o.own, .slice o.a o.L.length o.c]
theorem Acted.under {w w1 w' : World} {d : Nat} {K : Dk} (h : DiskAt w d K) (hb : Below w.heap.size w w1) (ha : Acted w1 d K w') : Acted w d K w' := by
  obtain ⟨K', h1, h2, h3⟩ := ha
  exact ⟨K', (Step.below h hb).trans h1, h2, h3⟩
theorem one_2 {w : World} {d : Nat} {K : Dk} (h : DiskAt w d K) (hq : Quiet K) (ht : K.turn < 9000) (o : OpV) (hS : o.S.size ≤ maxLen) (hT : o.T.size ≤ maxLen) (hk : o.kind = 2) :
    Calls Try.prog 29 #[.pointer (some ⟨d, 0, none⟩), .agg o.cells] w fun e w' => e = .returned (.tuple #[]) ∧ Acted w d K w' := by
  obtain ⟨kind, S, T, A, B, own, a, c, L⟩ := o
  obtain rfl : kind = 2 := hk
  have HC : Hid (∀ W, Below w.heap.size w W → Calls Try.prog 12 #[.pointer (some ⟨d, 0, none⟩), .string T] W fun e w' => (∃ z, e = .returned (.int .i64 z)) ∧ Acted w d K w') := fun W hW => (act_sync (h.below hW) hq T hT).mono fun e w' ⟨a, b⟩ => ⟨a, b.under h hW⟩
  clear h hq ht hS hT
  go_enter Try.func29, Try.ntmps29
  go_wp2_with (go_at_call 12; (with_reducible refine (HC.out _ (below_new w _)).mono ?_); rintro e w1 ⟨⟨z, rfl⟩, hq⟩; have HQ := Lib.hid hq; clear hq)
  go_end0
  exact ⟨rfl, HQ.out⟩

theorem one_4 {w : World} {d : Nat} {K : Dk} (h : DiskAt w d K) (hq : Quiet K) (ht : K.turn < 9000) (o : OpV) (hS : o.S.size ≤ maxLen) (hT : o.T.size ≤ maxLen) (hk : o.kind = 4) :
    Calls Try.prog 29 #[.pointer (some ⟨d, 0, none⟩), .agg o.cells] w fun e w' => e = .returned (.tuple #[]) ∧ Acted w d K w' := by
  obtain ⟨kind, S, T, A, B, own, a, c, L⟩ := o
  obtain rfl : kind = 4 := hk
  have HC : Hid (∀ W, Below w.heap.size w W → Calls Try.prog 23 #[.pointer (some ⟨d, 0, none⟩), .string T, .string S] W fun e w' => (∃ z, e = .returned (.int .i64 z)) ∧ Acted w d K w') := fun W hW => (act_rename (h.below hW) hq T S hT).mono fun e w' ⟨a, b⟩ => ⟨a, b.under h hW⟩
  clear h hq ht hS hT
  go_enter Try.func29, Try.ntmps29
  go_wp2_with (go_at_call 23; (with_reducible refine (HC.out _ (below_new w _)).mono ?_); rintro e w1 ⟨⟨z, rfl⟩, hq⟩; have HQ := Lib.hid hq; clear hq)
  go_end0
  exact ⟨rfl, HQ.out⟩

theorem one_5 {w : World} {d : Nat} {K : Dk} (h : DiskAt w d K) (hq : Quiet K) (ht : K.turn < 9000) (o : OpV) (hS : o.S.size ≤ maxLen) (hT : o.T.size ≤ maxLen) (hk : o.kind = 5) :
    Calls Try.prog 29 #[.pointer (some ⟨d, 0, none⟩), .agg o.cells] w fun e w' => e = .returned (.tuple #[]) ∧ Acted w d K w' := by
  obtain ⟨kind, S, T, A, B, own, a, c, L⟩ := o
  obtain rfl : kind = 5 := hk
  have HC : Hid (∀ W, Below w.heap.size w W → Calls Try.prog 24 #[.pointer (some ⟨d, 0, none⟩), .string T] W fun e w' => (∃ z, e = .returned (.int .i64 z)) ∧ Acted w d K w') := fun W hW => (act_remove (h.below hW) hq T hT).mono fun e w' ⟨a, b⟩ => ⟨a, b.under h hW⟩
  clear h hq ht hS hT
  go_enter Try.func29, Try.ntmps29
  go_wp2_with (go_at_call 24; (with_reducible refine (HC.out _ (below_new w _)).mono ?_); rintro e w1 ⟨⟨z, rfl⟩, hq⟩; have HQ := Lib.hid hq; clear hq)
  go_end0
  exact ⟨rfl, HQ.out⟩

theorem one_6 {w : World} {d : Nat} {K : Dk} (h : DiskAt w d K) (hq : Quiet K) (ht : K.turn < 9000) (o : OpV) (hS : o.S.size ≤ maxLen) (hT : o.T.size ≤ maxLen) (hk : o.kind = 6) (hv : IntsR (K.wfoot d) w (.slice o.a o.L.length o.c) o.L) :
    Calls Try.prog 29 #[.pointer (some ⟨d, 0, none⟩), .agg o.cells] w fun e w' => e = .returned (.tuple #[]) ∧ Acted w d K w' := by
  obtain ⟨kind, S, T, A, B, own, a, c, L⟩ := o
  obtain rfl : kind = 6 := hk
  have HC : Hid (∀ W, Below w.heap.size w W → Calls Try.prog 13 #[.pointer (some ⟨d, 0, none⟩), .slice a L.length c] W fun e w' => (∃ z, e = .returned (.int .i64 z)) ∧ Acted w d K w') := fun W hW => (act_crash (h.below hW) hq L (hv.fr (S := K.wfoot d) (Fr.of hW))).mono fun e w' ⟨a, b⟩ => ⟨a, b.under h hW⟩
  clear h hq ht hS hT hv
  go_enter Try.func29, Try.ntmps29
  go_wp2_with (go_at_call 13; (with_reducible refine (HC.out _ (below_new w _)).mono ?_); rintro e w1 ⟨⟨z, rfl⟩, hq⟩; have HQ := Lib.hid hq; clear hq)
  go_end0
  exact ⟨rfl, HQ.out⟩

theorem one_7 {w : World} {d : Nat} {K : Dk} (h : DiskAt w d K) (hq : Quiet K) (ht : K.turn < 9000) (o : OpV) (hS : o.S.size ≤ maxLen) (hT : o.T.size ≤ maxLen) (hk : o.kind = 7) :
    Calls Try.prog 29 #[.pointer (some ⟨d, 0, none⟩), .agg o.cells] w fun e w' => e = .returned (.tuple #[]) ∧ Acted w d K w' := by
  obtain ⟨kind, S, T, A, B, own, a, c, L⟩ := o
  obtain rfl : kind = 7 := hk
  have HC : Hid (∀ W, Below w.heap.size w W → Calls Try.prog 14 #[.pointer (some ⟨d, 0, none⟩)] W fun e w' => e = .returned (.tuple #[]) ∧ Acted w d K w') := fun W hW => (act_restore (h.below hW) hq).mono fun e w' ⟨a, b⟩ => ⟨a, b.under h hW⟩
  clear h hq ht hS hT
  go_enter Try.func29, Try.ntmps29
  go_wp2_with (go_at_call 14; (with_reducible refine (HC.out _ (below_new w _)).mono ?_); rintro e w1 ⟨rfl, hq⟩; have HQ := Lib.hid hq; clear hq)
  go_end0
  exact ⟨rfl, HQ.out⟩

set_option maxRecDepth 100000 in
set_option maxHeartbeats 4000000 in
theorem one_1 {w : World} {d : Nat} {K : Dk} (h : DiskAt w d K) (hq : Quiet K) (ht : K.turn < 9000) (o : OpV) (hS : o.S.size ≤ maxLen) (hT : o.T.size ≤ maxLen) (hk : o.kind = 1) :
    Calls Try.prog 29 #[.pointer (some ⟨d, 0, none⟩), .agg o.cells] w fun e w' => e = .returned (.tuple #[]) ∧ Acted w d K w' := by
  obtain ⟨kind, S, T, A, B, own, a, c, L⟩ := o
  obtain rfl : kind = 1 := hk
  have HS : Hid (∀ W, Below w.heap.size w W → Calls Try.prog 15 #[.pointer (some ⟨d, 0, none⟩), .string T] W fun e w' => (∃ n z, e = .returned (.tuple #[.int .i64 n, .int .i64 z])) ∧ Below W.heap.size W w') := fun W hW => ((h.below hW).sizeOf T hT).mono fun e w' ⟨a, b⟩ => ⟨⟨_, _, a⟩, b⟩
  have hS9 : S.size ≤ 9223372036854775807 := by
    have e : maxLen = 9223372036854775807 := by decide
    rw [← e]
    exact hS
  have HF : Hid (∀ W, Calls Try.prog 11 #[.string S, .bool true] W fun e w' => e = .returned (.string (fillB S)) ∧ Below W.heap.size W w') := fun W => fill_own W S hS9
  have HC : Hid (∀ W i D, w.heap.size < W.heap.size → Below w.heap.size w W → Calls Try.prog 10 #[.pointer (some ⟨d, 0, none⟩), .string T, .int .i64 i, .string D] W fun e w' => (∃ z, e = .returned (.int .i64 z)) ∧ Acted w d K w' ∧ w'.heap[w.heap.size]? = W.heap[w.heap.size]?) := fun W i D hlt hW => (act_write (h.below hW) hq T i D hT ht).mono fun e w' ⟨a, b⟩ => by
    obtain ⟨K', h1, h2⟩ := b
    exact ⟨a, Acted.under h hW ⟨K', h1, h2⟩, h1.fr.block _ hlt (fun hk => by have := h.foot_lt _ hk; omega)⟩
  clear hS9
  clear h hq ht hS hT
  go_enter Try.func29, Try.ntmps29
  go_upto_region 4 with ((go_at_call 15; (with_reducible refine (HS.out _ (below_new w _)).mono ?_); rintro e w1 ⟨⟨n, z, rfl⟩, hb⟩; have hb2 := old_below (new_at w _ _) hb; have HB := Lib.hid (thenBelow (below_new w _) hb); have HB2 := Lib.hid hb2; clear hb hb2))
  have HX : Hid (∀ W : World, W.heap[w.heap.size]? = w1.heap[w.heap.size]? → W.cell? ⟨w.heap.size, 1, none⟩ = some (.string S) ∧ W.cell? ⟨w.heap.size, 2, none⟩ = some (.string T) ∧ W.cell? ⟨w.heap.size, 3, none⟩ = some (.int .i64 A)) := fun W hW => by
    have h2 := hW.trans HB2.out
    exact ⟨cell_at h2 1, cell_at h2 2, cell_at h2 3⟩
  have HLt := Lib.hid (lt_of_block HB2.out)
  go_region_held3 (fun W => W.cell? ⟨w.heap.size, 1, none⟩ = some (.string S) ∧ W.cell? ⟨w.heap.size, 2, none⟩ = some (.string T) ∧ W.cell? ⟨w.heap.size, 3, none⟩ = some (.int .i64 A)) (first | exact HX.out _ rfl | exact HX.out _ HE2.out | exact HX.out _ HE3.out) ((first
    | (go_at_call 11; (with_reducible refine (HF.out _).mono ?_); rintro e w2 ⟨rfl, hb⟩; have HE2 := Lib.hid (show w2.heap[w.heap.size]? = w1.heap[w.heap.size]? from hb.block _ HLt.out); have HB3 := Lib.hid (show Below w.heap.size w w2 from (by first | exact thenBelow HB.out hb | exact thenBelow HB.out (thenBelow (Below.refl _ _).drew hb))); have HL3 := Lib.hid (Nat.lt_of_lt_of_le HLt.out hb.size); clear hb)
    | (go_at_call 10; (with_reducible refine (HC.out _ _ _ HL3.out HB3.out).mono ?_); rintro e w3 ⟨⟨z2, rfl⟩, hq, he⟩; have HE3 := Lib.hid (he.trans HE2.out); have HQ := Lib.hid hq; clear hq he)))
  all_goals
    first
      | (go_wp2; go_end0; exact ⟨rfl, HQ.out⟩)
      | (go_end0; exact ⟨rfl, HQ.out⟩)

theorem one_3 {w : World} {d : Nat} {K : Dk} (h : DiskAt w d K) (hq : Quiet K) (ht : K.turn < 9000) (o : OpV) (hS : o.S.size ≤ maxLen) (hT : o.T.size ≤ maxLen) (hk : o.kind = 3) :
    Calls Try.prog 29 #[.pointer (some ⟨d, 0, none⟩), .agg o.cells] w fun e w' => e = .returned (.tuple #[]) ∧ Acted w d K w' := by
  obtain ⟨kind, S, T, A, B, own, a, c, L⟩ := o
  obtain rfl : kind = 3 := hk
  have HS : Hid (∀ W, Below w.heap.size w W → Calls Try.prog 15 #[.pointer (some ⟨d, 0, none⟩), .string T] W fun e w' => (∃ n z, e = .returned (.tuple #[.int .i64 n, .int .i64 z])) ∧ Below W.heap.size W w') := fun W hW => ((h.below hW).sizeOf T hT).mono fun e w' ⟨a, b⟩ => ⟨⟨_, _, a⟩, b⟩
  have HC : Hid (∀ W i, Below w.heap.size w W → Calls Try.prog 22 #[.pointer (some ⟨d, 0, none⟩), .string T, .int .i64 i] W fun e w' => (∃ z, e = .returned (.int .i64 z)) ∧ Acted w d K w') := fun W i hW => (act_cut (h.below hW) hq T i hT).mono fun e w' ⟨a, b⟩ => ⟨a, b.under h hW⟩
  clear h hq ht hS hT
  go_enter Try.func29, Try.ntmps29
  go_wp2_with (first
    | (go_at_call 15; (with_reducible refine (HS.out _ (below_new w _)).mono ?_); rintro e w1 ⟨⟨n, z, rfl⟩, hb⟩; have hb2 := old_below (new_at w _ _) hb; have q1 : w1.cell? ⟨w.heap.size, 1, none⟩ = some (.string S) := cell_at hb2 1; have q2 : w1.cell? ⟨w.heap.size, 2, none⟩ = some (.string T) := cell_at hb2 2; have q3 : w1.cell? ⟨w.heap.size, 3, none⟩ = some (.int .i64 A) := cell_at hb2 3; have HB := Lib.hid (thenBelow (below_new w _) hb); clear hb hb2)
    | (go_at_call 22; (with_reducible refine (HC.out _ _ HB.out).mono ?_); rintro e w3 ⟨⟨z2, rfl⟩, hq⟩; have HQ := Lib.hid hq; clear hq))
  go_end0
  exact ⟨rfl, HQ.out⟩

theorem one_none {w : World} {d : Nat} {K : Dk} (h : DiskAt w d K) (hq : Quiet K) (ht : K.turn < 9000) (o : OpV) (hS : o.S.size ≤ maxLen) (hT : o.T.size ≤ maxLen) (hk : ∀ k : Int, 1 ≤ k → k ≤ 7 → o.kind ≠ k) :
    Calls Try.prog 29 #[.pointer (some ⟨d, 0, none⟩), .agg o.cells] w fun e w' => e = .returned (.tuple #[]) ∧ Acted w d K w' := by
  obtain ⟨kind, S, T, A, B, own, a, c, L⟩ := o
  have k1 : (kind == 1) = false := beq_eq_false_iff_ne.2 (hk 1 (by decide) (by decide))
  have k2 : (kind == 2) = false := beq_eq_false_iff_ne.2 (hk 2 (by decide) (by decide))
  have k3 : (kind == 3) = false := beq_eq_false_iff_ne.2 (hk 3 (by decide) (by decide))
  have k4 : (kind == 4) = false := beq_eq_false_iff_ne.2 (hk 4 (by decide) (by decide))
  have k5 : (kind == 5) = false := beq_eq_false_iff_ne.2 (hk 5 (by decide) (by decide))
  have k6 : (kind == 6) = false := beq_eq_false_iff_ne.2 (hk 6 (by decide) (by decide))
  have k7 : (kind == 7) = false := beq_eq_false_iff_ne.2 (hk 7 (by decide) (by decide))
  have HA := Lib.hid (acted_below h hq (below_new w (.cells (OpV.cells ⟨kind, S, T, A, B, own, a, c, L⟩) 51)))
  clear h hq ht hS hT hk
  go_enter Try.func29, Try.ntmps29
  go_wp2
  go_end0
  exact ⟨rfl, HA.out⟩

end Go.Proofs.Ytlgloikhdbmgdaa.P4
