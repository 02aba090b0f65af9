/-
  Texts of the proof of SaidKeeps8, side by side: Ls0, Args4.
-/
import Derived.Test.YtbkngnjkaledlaaGreatMk38
import Derived.Test.YtbkngnjkaledlaaGreatMk21
import Derived.Deep.Slices
import Derived.OpenShut
import Derived.SliceStrings
import Derived.ChangeSlices
/-
  What the statement DiskLasts makes of a disk, in plain words: writes one behind the other, a Sync among them, a crash. No program. (Disk, abstract, part 4.)
-/
namespace Go.Proofs.YtbkngnjkaledlaaGreat.P4
open Go Go.RowKit Go.Lib Go.Maps Go.ChangeMaps Go.MapKept Go.Proofs.YtbkngnjkaledlaaGreat.P3

/-- a byte as a text -/
def byteS (x : Int) : ByteArray := ⟨#[UInt8.ofNat (x % 256).toNat]⟩
/-- a sector of it -/
def qx (x : Int) : ByteArray := fillB (byteS x)
theorem qx_size (x : Int) : (qx x).size = 256 := fillB_size _
/-- the writes of sectors lo to hi - 1 -/
def wsL (L : List ByteArray) (lo hi : Nat) : List (Nat × Nat × ByteArray) := (List.range (hi - lo)).map (fun j => (lo + j + 1, lo + j, L.getD (lo + j) ⟨#[]⟩))
theorem wsL_succ (L : List ByteArray) {lo hi : Nat} (h : lo ≤ hi) : wsL L lo (hi + 1) = wsL L lo hi ++ [(hi + 1, hi, L.getD hi ⟨#[]⟩)] := by
  unfold wsL
  rw [show hi + 1 - lo = (hi - lo) + 1 by omega, List.range_succ, List.map_append, List.map_cons, List.map_nil, show lo + (hi - lo) = hi by omega]
theorem wsL_nil (L : List ByteArray) (lo : Nat) : wsL L lo lo = [] := by unfold wsL; rw [Nat.sub_self]; rfl
/-- sectors 0 to j - 1 are written, lo of them synced -/
def lasts (n : List UInt8) (L : List ByteArray) (lo j : Nat) : AL := if j = 0 then [] else [(n, ⟨L.take j, L.take lo, decide (0 < lo), wsL L lo j⟩)]
theorem getA_one (n : List UInt8) (F : AF) : getA [(n, F)] n = some F := by simp [getA]
theorem restA_one (n : List UInt8) (F : AF) : restA [(n, F)] n = [] := by simp [restA]
theorem take_snocB {L : List ByteArray} {j : Nat} (h : j < L.length) : L.take (j + 1) = L.take j ++ [L.getD j ⟨#[]⟩] := by
  rw [List.take_succ_eq_append_getElem h, List.getD_eq_getElem?_getD, List.getElem?_eq_getElem h]
  rfl
theorem lasts_write (n : List UInt8) (L : List ByteArray) {lo j : Nat} (h : lo ≤ j) (hj : j < L.length) : writeA (lasts n L lo j) n (j + 1) j (L.getD j ⟨#[]⟩) = lasts n L lo (j + 1) := by
  unfold writeA lasts
  rw [if_neg (show ¬ j + 1 = 0 by omega)]
  by_cases h0 : j = 0
  · subst h0
    obtain rfl : lo = 0 := by omega
    rw [if_pos rfl, take_snocB hj, wsL_succ L (Nat.le_refl 0), wsL_nil]
    rfl
  · rw [if_neg h0, getA_one, restA_one, take_snocB hj, wsL_succ L h]
    show [(n, AF.write ⟨L.take j, L.take lo, decide (0 < lo), wsL L lo j⟩ (j + 1) j (L.getD j ⟨#[]⟩))] = _
    unfold AF.write
    rw [if_pos (by rw [List.length_take]; omega)]
theorem lasts_size (n : List UInt8) (L : List ByteArray) (lo : Nat) {j : Nat} (hj : j ≤ L.length) : sizeA (lasts n L lo j) n = j := by
  unfold sizeA lasts
  by_cases h0 : j = 0
  · subst h0; rfl
  · rw [if_neg h0, getA_one]
    show (L.take j).length = j
    rw [List.length_take]; omega
theorem lasts_get (n : List UInt8) (L : List ByteArray) (lo : Nat) {j : Nat} (h0 : 0 < j) : getA (lasts n L lo j) n = some ⟨L.take j, L.take lo, decide (0 < lo), wsL L lo j⟩ := by
  unfold lasts
  rw [if_neg (by omega), getA_one]
theorem lasts_len (n : List UInt8) (L : List ByteArray) (lo j : Nat) : (lasts n L lo j).length ≤ 1 := by
  unfold lasts
  split <;> simp
theorem lasts_sync (n : List UInt8) (L : List ByteArray) {j : Nat} (h0 : 0 < j) : syncA (lasts n L 0 j) n ⟨L.take j, L.take 0, decide (0 < 0), wsL L 0 j⟩ = lasts n L j j := by
  unfold syncA lasts
  rw [if_neg (by omega), if_neg (by omega), restA_one, wsL_nil]
  unfold AF.sync
  rw [decide_eq_true h0]

/-- the first m of the writes behind S done upon what is safe, so much kept of each as ks says -/
def kAll (L : List ByteArray) (ks : List Int) (S : Nat) : Nat → List ByteArray
  | 0 => L.take S
  | m + 1 => keepOne (kAll L ks S m) (clampI (ks.getD m 0), S + m, L.getD (S + m) ⟨#[]⟩)
structure KFacts (L : List ByteArray) (ks : List Int) (S m : Nat) (R : List ByteArray) : Prop where
  lo : S ≤ R.length
  hi : R.length ≤ S + m
  old : ∀ i, i < S → R.getD i zeros = L.getD i ⟨#[]⟩
  new : ∀ i, i < m → clampI (ks.getD i 0) ≠ 0 → S + i < R.length ∧ R.getD (S + i) zeros = torn (clampI (ks.getD i 0)) (L.getD (S + i) ⟨#[]⟩) zeros
theorem getD_past {R : List ByteArray} {i : Nat} (h : R.length ≤ i) : R.getD i zeros = zeros := by
  rw [List.getD_eq_getElem?_getD, List.getElem?_eq_none h]; rfl
theorem kAll_facts (L : List ByteArray) (ks : List Int) {S : Nat} (hS : S ≤ L.length) : ∀ m, KFacts L ks S m (kAll L ks S m)
  | 0 => by
    refine ⟨?_, ?_, fun i hi => ?_, fun i hi => absurd hi (Nat.not_lt_zero i)⟩
    · show S ≤ (L.take S).length; rw [List.length_take]; omega
    · show (L.take S).length ≤ S + 0; rw [List.length_take]; omega
    · show (L.take S).getD i zeros = _
      rw [List.getD_eq_getElem?_getD, List.getElem?_take_of_lt hi, List.getD_eq_getElem?_getD, List.getElem?_eq_getElem (by omega)]
      rfl
  | m + 1 => by
    have h := kAll_facts L ks hS m
    show KFacts L ks S (m + 1) (keepOne (kAll L ks S m) (clampI (ks.getD m 0), S + m, L.getD (S + m) ⟨#[]⟩))
    unfold keepOne
    generalize kAll L ks S m = R at h
    simp only
    by_cases h0 : clampI (ks.getD m 0) = 0
    · rw [if_pos h0]
      refine ⟨h.lo, by have := h.hi; omega, h.old, fun i hi hk => ?_⟩
      by_cases hm : i = m
      · subst hm; exact absurd h0 hk
      · exact h.new i (by omega) hk
    · rw [if_neg h0]
      refine ⟨?_, ?_, fun i hi => ?_, fun i hi hk => ?_⟩
      · rw [setPad_length]; have := h.lo; omega
      · rw [setPad_length]; have := h.hi; omega
      · rw [setPad_at, if_neg (by omega)]; exact h.old i hi
      · rw [setPad_length, setPad_at]
        by_cases hm : i = m
        · subst hm
          rw [if_pos rfl]
          refine ⟨by omega, ?_⟩
          rw [getD_past h.hi]
        · rw [if_neg (by omega)]
          obtain ⟨a, b⟩ := h.new i (by omega) hk
          exact ⟨by omega, b⟩

/-- how many of the first m lose something -/
def lostC (ks : List Int) : Nat → Nat
  | 0 => 0
  | m + 1 => lostC ks m + (if clampI (ks.getD m 0) < 256 then 1 else 0)
theorem lostC_filter (ks : List Int) (m : Nat) : ((List.range m).filter (fun j => decide (clampI (ks.getD j 0) < 256))).length = lostC ks m := by
  induction m with
  | zero => rfl
  | succ m ih =>
    rw [List.range_succ, List.filter_append, List.length_append, ih, lostC]
    by_cases h : clampI (ks.getD m 0) < 256
    · rw [List.filter_cons_of_pos (by simpa using h), if_pos h]; rfl
    · rw [List.filter_cons_of_neg (by simpa using h), if_neg h]; rfl
theorem wsA_lasts (n : List UInt8) (L : List ByteArray) {lo j : Nat} (h : lo ≤ j) : wsA (lasts n L lo j) = wsL L lo j := by
  unfold lasts
  by_cases h0 : j = 0
  · subst h0
    obtain rfl : lo = 0 := by omega
    rw [if_pos rfl, wsL_nil]
    rfl
  · rw [if_neg h0]
    simp [wsA]
theorem range_lt (n m : Nat) (h : m ≤ n) : ((List.range n).filter (fun j => decide (j < m))).length = m := by
  have e : (List.range n).filter (fun j => decide (j < m)) = List.range m := by
    have hs : List.range n = List.range m ++ (List.range (n - m)).map (fun x => m + x) := by
      rw [← List.range_add, show m + (n - m) = n by omega]
    rw [hs, List.filter_append, List.filter_eq_self.2 (fun a ha => by simpa using List.mem_range.1 ha), List.filter_eq_nil_iff.2 (fun a ha => ?_), List.append_nil]
    obtain ⟨x, _, rfl⟩ := List.mem_map.1 ha
    simp
  rw [e, List.length_range]
theorem kept_lasts (n : List UInt8) (L : List ByteArray) (ks : List Int) {S N : Nat} (h : S ≤ N) {j : Nat} (hj : j < N - S) : keptA (lasts n L S N) ks (S + j + 1) = clampI (ks.getD j 0) := by
  have e : rankA (wsA (lasts n L S N)) (S + j + 1) = j := by
    rw [wsA_lasts n L h]
    unfold rankA wsL
    rw [List.filter_map, List.length_map]
    have : ((fun x : Nat × Nat × ByteArray => decide (x.1 < S + j + 1)) ∘ fun j => (S + j + 1, S + j, L.getD (S + j) ⟨#[]⟩)) = fun i => decide (i < j) := by
      funext i
      simp only [Function.comp, decide_eq_decide]
      omega
    rw [this]
    exact range_lt _ _ (by omega)
  unfold keptA
  rw [e]
theorem lost_lasts (n : List UInt8) (L : List ByteArray) (ks : List Int) {S N : Nat} (h : S ≤ N) : lostA (keptA (lasts n L S N) ks) (lasts n L S N) = lostC ks (N - S) := by
  unfold lostA
  rw [← lostC_filter]
  rw [wsA_lasts n L h]
  unfold wsL
  rw [List.filter_map, List.length_map]
  congr 1
  apply List.filter_congr
  intro j hj
  simp only [Function.comp]
  rw [kept_lasts n L ks h (List.mem_range.1 hj)]
theorem kAll_trip (n : List UInt8) (L : List ByteArray) (ks : List Int) {S N : Nat} (h : S ≤ N) : keepAll (L.take S) ((wsL L S N).map (tripA (keptA (lasts n L S N) ks))) = kAll L ks S (N - S) := by
  have e : (wsL L S N).map (tripA (keptA (lasts n L S N) ks)) = (List.range (N - S)).map (fun j => (clampI (ks.getD j 0), S + j, L.getD (S + j) ⟨#[]⟩)) := by
    unfold wsL
    rw [List.map_map]
    apply List.map_congr_left
    intro j hj
    simp only [Function.comp, tripA]
    rw [kept_lasts n L ks h (List.mem_range.1 hj)]
  rw [e]
  generalize N - S = m
  induction m with
  | zero => rfl
  | succ m ih => rw [List.range_succ, List.map_append, List.map_cons, List.map_nil, keepAll_snoc, ih]; rfl
/-- what the crash leaves -/
def afterC (n : List UInt8) (L : List ByteArray) (ks : List Int) (S : Nat) : AL := if 0 < (kAll L ks S (L.length - S)).length then [(n, ⟨kAll L ks S (L.length - S), kAll L ks S (L.length - S), true, []⟩)] else []
theorem crash_lasts (n : List UInt8) (L : List ByteArray) (ks : List Int) {S : Nat} (h : S ≤ L.length) : crashA (lasts n L S L.length) ks = afterC n L ks S := by
  have hf := kAll_facts L ks h (L.length - S)
  unfold crashA afterC
  have ek := kAll_trip n L ks h
  by_cases h0 : L.length = 0
  · obtain rfl : S = 0 := by omega
    have : (kAll L ks 0 (L.length - 0)).length = 0 := by have := hf.hi; omega
    rw [this, if_neg (Nat.lt_irrefl 0)]
    unfold lasts
    rw [if_pos h0]
    rfl
  · generalize hA : keptA (lasts n L S L.length) ks = κ at ek
    unfold lasts
    rw [if_neg h0]
    show (List.filterMap (crA κ) [(n, ⟨L.take L.length, L.take S, decide (0 < S), wsL L S L.length⟩)]) = _
    rw [List.filterMap_cons, List.filterMap_nil]
    unfold crA
    simp only
    rw [ek]
    unfold AF.crash
    simp only
    rw [ek]
    generalize kAll L ks S (L.length - S) = R at hf
    by_cases hR : 0 < R.length
    · rw [if_pos (by rw [decide_eq_true hR, Bool.or_true]), if_pos hR]
    · have hS : ¬ 0 < S := by have := hf.lo; omega
      rw [if_neg (by rw [decide_eq_false hR, decide_eq_false hS]; decide), if_neg hR]
theorem torn_front {k : Nat} {d : ByteArray} (hd : d.size = 256) (hk : k ≤ 256) : (torn k d zeros).extract 0 k = d.extract 0 k := by
  have h1 : (d.extract 0 k).size = k := by rw [ByteArray.size_extract]; omega
  unfold torn
  rw [ByteArray.extract_append]
  have e2 : (zeros.extract k zeros.size).extract (0 - (d.extract 0 k).size) (k - (d.extract 0 k).size) = ByteArray.empty := by
    rw [h1, Nat.sub_self, Nat.zero_sub]; exact ByteArray.extract_same
  rw [e2, ByteArray.append_empty]
  rw [show (d.extract 0 k).extract 0 k = (d.extract 0 k).extract 0 (d.extract 0 k).size by rw [h1]]
  exact ByteArray.extract_zero_size
theorem text_same {a b : ByteArray} (h : a.data.toList = b.data.toList) : a = b := ByteArray.ext (Array.toList_inj.1 h)
theorem torn_back {k : Nat} {d : ByteArray} (hd : d.size = 256) (hk : k ≤ 256) : (torn k d zeros).extract k (torn k d zeros).size = zeros.extract k 256 := by
  have h1 : (d.extract 0 k).data.toList.length = k := by
    have : (d.extract 0 k).size = k := by rw [ByteArray.size_extract]; omega
    simpa using this
  have h2 : (zeros.extract k 256).data.toList.length = 256 - k := by
    rw [Lib.extract_data, List.length_take, List.length_drop]
    have : zeros.data.toList.length = 256 := by rw [Array.length_toList]; exact zeros_size
    omega
  rw [torn_size hd zeros_size hk]
  apply text_same
  rw [Lib.extract_data]
  unfold torn
  rw [zeros_size, ByteArray.data_append, Array.toList_append, List.drop_left' h1]
  exact List.take_of_length_le (by omega)
theorem zeros_tail {k : Nat} (hk : k ≤ 256) : zeros.extract k 256 = ⟨(List.replicate (256 - k) (0 : UInt8)).toArray⟩ := by
  apply text_same
  rw [Lib.extract_data]
  show ((List.replicate 256 (0 : UInt8)).drop k).take (256 - k) = List.replicate (256 - k) 0
  rw [List.drop_replicate, List.take_replicate, Nat.min_self]

end Go.Proofs.YtbkngnjkaledlaaGreat.P4

/-
  A list of ints as an argument. (Args3's part, over any seat; a list that is older than a disk.)
-/
namespace Go.Proofs.YtbkngnjkaledlaaGreat.P3
open Go Go.RowKit Go.Lib Go.Maps Go.ChangeMaps Go.MapKept

/-- the value v reads as the ints l -/
def IntsIn (w : World) (v : Value) (l : List Int) : Prop :=
  ∃ a c, v = .slice a l.length c ∧ l.length ≤ 9223372036854775807 ∧ (0 < l.length → ∃ b off, a = some ⟨b, off, none⟩ ∧ b < w.heap.size ∧ ∀ i, i < l.length → w.cell? ⟨b, off + i, none⟩ = some (.int .i64 (l.getD i 0)))
theorem cellsInt : Tryz.prog.cellsOf 3 = 1 := by kernel_rfl

section
variable {H : Type} {enc : TypeId × Value → H} {w : World} {base : Nat} {sp : Nat → Bool} {held : Bool}

theorem ints_open {n : Nat} {v : Value} {x : DataW H × List MemPlace} (h : DataW.trod enc Tryz.prog w base sp held n 29 [v] = some x) : ∃ l, IntsIn w v l := by
  rcases Go.ChangeShapes.open_ints Tryz.underlying29 Tryz.underlying3 cellsInt h with ⟨hv, _⟩ | ⟨a, len, cap, zs, hv, _, hl, hm, hz, _, hcell, _⟩
  · simp only [List.cons.injEq, and_true] at hv
    exact ⟨[], none, 0, hv, by simp, fun h => absurd h (Nat.lt_irrefl _)⟩
  · simp only [List.cons.injEq, and_true] at hv
    have hlen : len ≤ zs.length := by rw [hz]; split <;> omega
    have hm2 : maxLen = 9223372036854775807 := by decide
    refine ⟨zs.take len, some a, cap, by rw [hv, List.length_take, Nat.min_eq_left hlen], by rw [List.length_take]; omega, fun h0 => ?_⟩
    rw [List.length_take, Nat.min_eq_left hlen] at h0
    obtain ⟨b, off, spot⟩ := a
    have hc0 := hcell 0 (by omega)
    have hspot : spot = none := by
      have := World.cell?_spot (w := w) (a := (⟨b, off, spot⟩ : Addr).add 0) hc0
      simpa [Addr.add] using this
    subst hspot
    refine ⟨b, off, rfl, ?_, fun i hi => ?_⟩
    · rw [Go.WideShapes.add_plain] at hc0
      exact World.block_lt_of_cell? w _ hc0
    · rw [List.length_take] at hi
      have := hcell i (by omega)
      rw [Go.WideShapes.add_plain] at this
      rw [this]
      congr 2
      rw [List.getD_eq_getElem?_getD, List.getD_eq_getElem?_getD, List.getElem?_take_of_lt (by omega)]

end

theorem IntsIn.below {w w' : World} {v : Value} {l : List Int} (h : IntsIn w v l) (hb : Below w.heap.size w w') : IntsIn w' v l := by
  obtain ⟨a, c, h1, h2, h3⟩ := h
  refine ⟨a, c, h1, h2, fun h0 => ?_⟩
  obtain ⟨b, off, h4, h5, h6⟩ := h3 h0
  exact ⟨b, off, h4, Nat.lt_of_lt_of_le h5 hb.size, fun i hi => by rw [hb.cell (p := ⟨b, off + i, none⟩) h5]; exact h6 i hi⟩
theorem IntsIn.lent {w : World} {v : Value} {l : List Int} (h : IntsIn w v l) : P4.IntsR (fun _ => False) w v l := by
  obtain ⟨a, c, rfl, h2, h3⟩ := h
  by_cases h0 : 0 < l.length
  · obtain ⟨b, off, rfl, h5, h6⟩ := h3 h0
    refine .inr ⟨b, off, c, rfl, h5, fun h => h, fun j x hj => ?_⟩
    obtain ⟨h7, h8⟩ := List.getElem?_eq_some_iff.1 hj
    rw [h6 j h7, List.getD_eq_getElem?_getD, hj]
    rfl
  · obtain rfl : l = [] := List.eq_nil_of_length_eq_zero (by omega)
    exact .inl ⟨a, c, rfl, rfl⟩

end Go.Proofs.YtbkngnjkaledlaaGreat.P3
