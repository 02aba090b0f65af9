/-
  Texts of the proof of SaidPlays, side by side: Rd1, Rd2.
-/
import Derived.Test.YtaabepiddbnggaaGreatMp22
import Derived.Deep.RegionHeld3
/-
  The document's disk, part 1: sectorName, at, falls, Used.
-/
namespace Go.Proofs.YtaabepiddbnggaaGreat.P4
open Go Go.RowKit Go.Lib Go.Proofs.YtaabepiddbnggaaGreat.P3

def nameOk (s : ByteArray) : Bool := decide (1 ≤ s.size ∧ s.size ≤ 40)
theorem rdName_any (w : World) (s : ByteArray) : Calls Tryz.prog 97 #[.string s] w fun e w' => e = .returned (.bool (nameOk s)) ∧ w = w' := by
  by_cases h1 : 1 ≤ s.size
  · have b1 : decide (1 ≤ (s.size : Int)) = true := decide_eq_true (by omega)
    have b1' : decide (1 ≤ s.size) = true := decide_eq_true h1
    by_cases h2 : s.size ≤ 40
    · have b2 : decide ((s.size : Int) ≤ 40) = true := decide_eq_true (by omega)
      have b2' : decide (s.size ≤ 40) = true := decide_eq_true h2
      have e : nameOk s = true := decide_eq_true ⟨h1, h2⟩
      rw [e]
      clear e
      go_enter Tryz.func97, Tryz.ntmps97
      go_wp2
      go_ret
      exact ⟨rfl, rfl⟩
    · have b2 : decide ((s.size : Int) ≤ 40) = false := decide_eq_false (by omega)
      have b2' : decide (s.size ≤ 40) = false := decide_eq_false h2
      have e : nameOk s = false := decide_eq_false (fun h => h2 h.2)
      rw [e]
      clear e
      go_enter Tryz.func97, Tryz.ntmps97
      go_wp2
      go_ret
      exact ⟨rfl, rfl⟩
  · have b1 : decide (1 ≤ (s.size : Int)) = false := decide_eq_false (by omega)
    have b1' : decide (1 ≤ s.size) = false := decide_eq_false h1
    have e : nameOk s = false := decide_eq_false (fun h => h1 h.1)
    rw [e]
    clear e
    go_enter Tryz.func97, Tryz.ntmps97
    go_wp2
    go_ret
    exact ⟨rfl, rfl⟩

/-- where a name stands -/
def atN (l : List MF) (s : ByteArray) : Option Nat := l.findIdx? fun f => decide (f.name = s)
def atI : Option Nat → Int
  | none => -1
  | some i => i
theorem atN_some {l : List MF} {s : ByteArray} {i : Nat} (h : atN l s = some i) : ∃ f, l[i]? = some f ∧ f.name = s := by
  obtain ⟨hi, h1, _⟩ := List.findIdx?_eq_some_iff_getElem.1 h
  exact ⟨l[i], List.getElem?_eq_getElem hi, of_decide_eq_true h1⟩
theorem atN_is {l : List MF} {s : ByteArray} {i : Nat} {f : MF} (hf : l[i]? = some f) (hn : f.name = s) (hlt : ∀ (j : Nat) (g : MF), j < i → l[j]? = some g → g.name ≠ s) : atN l s = some i := by
  obtain ⟨hi, e⟩ := List.getElem?_eq_some_iff.1 hf
  refine List.findIdx?_eq_some_iff_getElem.2 ⟨hi, by rw [e]; exact decide_eq_true hn, fun j hj => ?_⟩
  have := hlt j _ hj (List.getElem?_eq_getElem (by omega))
  simpa using this
theorem atN_none {l : List MF} {s : ByteArray} (h : ∀ (j : Nat) (g : MF), l[j]? = some g → g.name ≠ s) : atN l s = none := by
  refine List.findIdx?_eq_none_iff.2 fun f hf => ?_
  obtain ⟨j, hj⟩ := List.getElem?_of_mem hf
  exact decide_eq_false (h j f hj)

section
variable {lo : Nat} {w : World} {r : Nat} {D : RM}
/-- a cell of the disk's own block is set, its rows stay -/
theorem RAt.own1 (h : RAt lo w r D) (j : Nat) (u : Value) (E : RM) (e1 : E.cells = D.cells.set j u) (e2 : E.lv = D.lv) (e3 : E.wv = D.wv) (e4 : E.fs = D.fs) (e5 : E.ws = D.ws) : RAt lo (w.setCell ⟨r, j, none⟩ u) r E := by
  have ho : ∀ b, b ≠ r → (w.setCell ⟨r, j, none⟩ u).heap[b]? = w.heap[b]? := fun b hb => Below.heap_setCell _ _ _ _ hb
  have hb := h.apart
  have hbl := set_at h.blk j u
  have hx : (D.cells.toArray.setIfInBounds j u) = E.cells.toArray := by rw [e1]; simp
  rw [hx] at hbl
  refine ⟨hbl, h.lo_, ?_, ?_, ?_, by rw [e4]; exact h.few, by rw [e5]; exact h.few2, by rw [e4]; exact h.long⟩
  · rw [e2, e4]; exact owned_fr h.lrow fun b hbb => ho b (fun e => hb.1 (e ▸ hbb))
  · rw [e3, e5]; exact owned_fr h.wrow fun b hbb => ho b (fun e => hb.2.1 (e ▸ hbb))
  · rw [e4]
    intro f hf
    have ht := h.txt f hf
    exact ⟨ht.1.fr fun b hbb => ho b (fun e => h.txt_own ht.1 hbb (.inl e)), ht.2.fr fun b hbb => ho b (fun e => h.txt_own ht.2 hbb (.inl e))⟩
set_option maxRecDepth 100000 in
theorem RAt.at_ (h : RAt lo w r D) (s : ByteArray) : Calls Tryz.prog 98 #[.pointer (some ⟨r, 0, none⟩), .string s] w fun e w' => e = .returned (.int .i64 (atI (atN D.fs s))) ∧ w = w' := by
  obtain ⟨a, c, hv, hc, hcell⟩ := h.files
  have c0 := h.cell 0
  have hfew := h.few
  simp only [RM.cells, List.getElem?_cons_zero] at c0
  rw [hv] at c0
  obtain ⟨fs, hfs⟩ : ∃ fs, fs = D.fs := ⟨_, rfl⟩
  rw [← hfs] at c0 hcell hfew ⊢
  have HC := Lib.hid hcell
  clear hcell hv hfs hc h
  go_enter Tryz.func98, Tryz.ntmps98
  go_wp2
  go_loop [5] (fun i => ∃ k : Nat, k ≤ fs.length ∧ i = .int .i64 k ∧ Hid (∀ (j : Nat) (g : MF), j < k → fs[j]? = some g → g.name ≠ s)) (fun i => fs.length - (RowKit.intOf i).toNat)
  case atStart => exact ⟨0, Nat.zero_le _, rfl, fun j _ h => absurd h (Nat.not_lt_zero _)⟩
  case round =>
    obtain ⟨k, hk, rfl, hno⟩ := hrel
    by_cases hlt : k < fs.length
    · obtain ⟨f, hf⟩ : ∃ f, fs[k]? = some f := ⟨_, List.getElem?_eq_getElem hlt⟩
      obtain ⟨g, rfl, _, hcc⟩ := HC.out k f hf
      have cc : w.cell? ⟨g, k * 6, none⟩ = some (.string f.name) := hcc 0 _ rfl
      have b1 : decide ((k : Int) < (fs.length : Int)) = true := decide_eq_true (by omega)
      have b1' : decide (k < fs.length) = true := decide_eq_true hlt
      have j0 : (0 : Int) ≤ (k : Int) := by omega
      have j1 : (k : Int) < (fs.length : Int) := by omega
      by_cases e : f.name = s
      · have he := same_true e
        have hat : Hid (atN fs s = some k) := atN_is hf e hno.out
        generalize f.name = nm at cc he
        clear hcc hf e hno
        go_wp2
        go_ret
        exact ⟨by rw [hat.out]; rfl, rfl⟩
      · have he := same_false e
        have hN : Hid (∀ (j : Nat) (g : MF), j < k + 1 → fs[j]? = some g → g.name ≠ s) := fun j g hj hg => by
          by_cases ej : j = k
          · subst ej
            rw [hf] at hg
            cases hg
            exact e
          · exact hno.out j g (by omega) hg
        generalize f.name = nm at cc he
        clear hcc hf e hno
        go_wp2
        go_round
        case rel => exact ⟨k + 1, by omega, by go_num, hN⟩
        case measure => simp [RowKit.intOf]; omega
    · have b1 : decide ((k : Int) < (fs.length : Int)) = false := decide_eq_false (by omega)
      have b1' : decide (k < fs.length) = false := decide_eq_false hlt
      have hat : Hid (atN fs s = none) := atN_none fun j g hg => hno.out j g (by have := (List.getElem?_eq_some_iff.1 hg).1; omega) hg
      clear hno
      go_wp2
      go_ret
      exact ⟨by rw [hat.out]; rfl, rfl⟩
/-- does the power go at this call? -/
def RM.fallsB (D : RM) : Bool := D.armed && decide (D.n = 0)
def RM.count (D : RM) : RM := if D.armed = true ∧ D.n ≠ 0 then { D with n := D.n - 1 } else D
theorem RAt.falls (h : RAt lo w r D) (h0 : D.armed = true → 0 ≤ D.n) (h1 : D.n ≤ 9223372036854775807) : Calls Tryz.prog 99 #[.pointer (some ⟨r, 0, none⟩)] w fun e w' =>
    e = .returned (.bool D.fallsB) ∧ RAt lo w' r D.count ∧ Only r w w' := by
  have c4 : w.cell? ⟨r, 4, none⟩ = some (.bool D.armed) := h.cell 4
  have c5 : w.cell? ⟨r, 5, none⟩ = some (.int .i64 D.n) := h.cell 5
  have f5 := h.free 5
  cases ha : D.armed with
  | false =>
    have e1 : D.fallsB = false := by unfold RM.fallsB; rw [ha]; rfl
    have e2 : D.count = D := by unfold RM.count; rw [ha]; simp
    rw [e1, e2]
    rw [ha] at c4
    have HH := Lib.hid h
    clear h ha e1 e2
    go_enter Tryz.func99, Tryz.ntmps99
    go_wp2
    go_ret
    exact ⟨rfl, HH.out, Only.refl _ _⟩
  | true =>
    replace h0 := h0 ha
    by_cases hn : D.n = 0
    · have e1 : D.fallsB = true := by unfold RM.fallsB; rw [ha, hn]; rfl
      have e2 : D.count = D := by unfold RM.count; rw [if_neg (fun q => q.2 hn)]
      rw [e1, e2]
      rw [ha] at c4
      rw [hn] at c5
      have HH := Lib.hid h
      clear h ha e1 e2 hn
      go_enter Tryz.func99, Tryz.ntmps99
      go_wp2
      go_ret
      exact ⟨rfl, HH.out, Only.refl _ _⟩
    · have e1 : D.fallsB = false := by unfold RM.fallsB; rw [ha]; simpa using hn
      have e2 : D.count = { D with n := D.n - 1 } := by unfold RM.count; rw [if_pos ⟨ha, hn⟩]
      rw [e1, e2]
      rw [ha] at c4
      have HH := Lib.hid (show RAt lo (w.setCell ⟨r, 5, none⟩ (.int .i64 (D.n - 1))) r { D with n := D.n - 1 } from by
        have h2 := h.own1 5 (.int .i64 (D.n - 1)) { D with n := D.n - 1 } rfl rfl rfl rfl rfl
        exact h2)
      have n1 : (D.n == 0) = false := beq_eq_false_iff_ne.2 hn
      have n2 : 1 ≤ D.n := by omega
      obtain ⟨n, hn'⟩ : ∃ n, n = D.n := ⟨_, rfl⟩
      rw [← hn'] at c5 n1 n2 h1 HH ⊢
      clear h ha e1 e2 hn h0 hn'
      go_enter Tryz.func99, Tryz.ntmps99
      go_wp2
      go_ret
      exact ⟨rfl, HH.out, (Only.refl _ _).setCell _ _⟩
/-- how many sectors there are -/
def usedM (l : List MF) : Nat := (l.map fun f => f.now.length).sum
set_option maxRecDepth 100000 in
theorem RAt.used (h : RAt lo w r D) : Calls Tryz.prog 45 #[.pointer (some ⟨r, 0, none⟩)] w fun e w' => e = .returned (.int .i64 (usedM D.fs)) ∧ w = w' := by
  obtain ⟨a, c, hv, hc, hcell⟩ := h.files
  have c0 := h.cell 0
  have hfew := h.few
  simp only [RM.cells, List.getElem?_cons_zero] at c0
  rw [hv] at c0
  have hN : ∀ (k : Nat) (f : MF), D.fs[k]? = some f → f.now.length ≤ 4001 ∧ ∃ a c, f.nv = .slice a f.now.length c := fun k f hf => by
    obtain ⟨a, c, e, _⟩ := (h.txt f (List.mem_of_getElem? hf)).1.shape
    exact ⟨(h.long f (List.mem_of_getElem? hf)).1, a, c, e⟩
  obtain ⟨fs, hfs⟩ : ∃ fs, fs = D.fs := ⟨_, rfl⟩
  rw [← hfs] at c0 hcell hfew hN ⊢
  have HC := Lib.hid hcell
  have HN := Lib.hid hN
  clear hcell hv hfs hc h hN
  go_enter Tryz.func45, Tryz.ntmps45
  go_wp2
  go_loop [3, 4] (fun n i => ∃ k : Nat, k ≤ fs.length ∧ i = .int .i64 k ∧ n = .int .i64 (usedM (fs.take k)) ∧ usedM (fs.take k) ≤ 5000 * k) (fun n i => fs.length - (RowKit.intOf i).toNat)
  case atStart => exact ⟨0, Nat.zero_le _, rfl, rfl, Nat.le_refl _⟩
  case round =>
    obtain ⟨k, hk, rfl, rfl, hle⟩ := hrel
    by_cases hlt : k < fs.length
    · obtain ⟨f, hf⟩ : ∃ f, fs[k]? = some f := ⟨_, List.getElem?_eq_getElem hlt⟩
      obtain ⟨g, rfl, _, hcc⟩ := HC.out k f hf
      obtain ⟨hl, a2, c2, e2⟩ := HN.out k f hf
      have cc : w.cell? ⟨g, k * 6 + 2, none⟩ = some (.slice a2 f.now.length c2) := by rw [← e2]; exact hcc 2 _ rfl
      have b1 : decide ((k : Int) < (fs.length : Int)) = true := decide_eq_true (by omega)
      have b1' : decide (k < fs.length) = true := decide_eq_true hlt
      have j0 : (0 : Int) ≤ (k : Int) := by omega
      have j1 : (k : Int) < (fs.length : Int) := by omega
      have hs : usedM (fs.take (k + 1)) = usedM (fs.take k) + f.now.length := by
        unfold usedM
        rw [List.take_add_one, hf]
        simp
      obtain ⟨u, hu⟩ : ∃ u, u = usedM (fs.take k) := ⟨_, rfl⟩
      obtain ⟨m, hm⟩ : ∃ m, m = f.now.length := ⟨_, rfl⟩
      have HS := Lib.hid hs
      rw [← hu] at hle HS ⊢
      rw [← hm] at hl cc HS
      clear hcc hf e2 hs hu hm
      go_wp2
      go_round
      case rel =>
        refine ⟨k + 1, by omega, by go_num, ?_, ?_⟩
        · rw [HS.out]; go_num
        · rw [HS.out]; omega
      case measure => simp [RowKit.intOf]; omega
    · have b1 : decide ((k : Int) < (fs.length : Int)) = false := decide_eq_false (by omega)
      have b1' : decide (k < fs.length) = false := decide_eq_false hlt
      have e : Hid (usedM (fs.take k) = usedM fs) := by rw [List.take_of_length_le (by omega)]; exact rfl
      obtain ⟨u, hu⟩ : ∃ u, u = usedM (fs.take k) := ⟨_, rfl⟩
      have hu2 : Hid (usedM fs = u) := by rw [← e.out, hu]; exact rfl
      rw [← hu] at hle ⊢
      clear hu e
      go_wp2
      go_ret
      exact ⟨by rw [hu2.out]; rfl, rfl⟩
end

end Go.Proofs.YtaabepiddbnggaaGreat.P4

/-
  The document's disk, part 2: Size, Read, Restore.
-/
namespace Go.Proofs.YtaabepiddbnggaaGreat.P4
open Go Go.RowKit Go.Lib Go.Proofs.YtaabepiddbnggaaGreat.P3

/-- what stands ahead of a call on a name -/
def errR (D : RM) (s : ByteArray) : Int := if D.off = true then 14 else if nameOk s = false then 1 else if atN D.fs s = none then 8 else 0
section
variable {lo : Nat} {w : World} {r : Nat} {D : RM}
theorem RAt.atNone (h : RAt lo w r D) (s : ByteArray) (hn : atN D.fs s = none) : ∀ W, RAt lo W r D → Calls Tryz.prog 98 #[.pointer (some ⟨r, 0, none⟩), .string s] W fun e w' => e = .returned (.int .i64 (-1)) ∧ W = w' := fun W hW => by
  have := hW.at_ s
  rw [hn] at this
  exact this
theorem RAt.atSome (h : RAt lo w r D) (s : ByteArray) {i : Nat} (hn : atN D.fs s = some i) : ∀ W, RAt lo W r D → Calls Tryz.prog 98 #[.pointer (some ⟨r, 0, none⟩), .string s] W fun e w' => e = .returned (.int .i64 i) ∧ W = w' := fun W hW => by
  have := hW.at_ s
  rw [hn] at this
  exact this
def sizeR (D : RM) (s : ByteArray) : Nat := if errR D s = 0 then ((atN D.fs s).bind fun i => D.fs[i]?.map fun f => f.now.length).getD 0 else 0
set_option maxRecDepth 100000 in
theorem RAt.size (h : RAt lo w r D) (s : ByteArray) : Calls Tryz.prog 26 #[.pointer (some ⟨r, 0, none⟩), .string s] w fun e w' => e = .returned (.tuple #[.int .i64 (sizeR D s), .int .i64 (errR D s)]) ∧ Below w.heap.size w w' := by
  have c2 : w.cell? ⟨r, 2, none⟩ = some (.bool D.off) := h.cell 2
  have HNm := Lib.hid (fun W => rdName_any W s)
  cases ho : D.off with
  | true =>
    have e1 : errR D s = 14 := if_pos ho
    have e2 : sizeR D s = 0 := by unfold sizeR; rw [e1]; rfl
    rw [e1, e2]
    rw [ho] at c2
    clear h ho e1 e2
    go_enter Tryz.func26, Tryz.ntmps26
    go_wp2
    go_ret2
    exact ⟨rfl, Below.refl _ _⟩
  | false =>
    rw [ho] at c2
    cases hnm : nameOk s with
    | false =>
      have e1 : errR D s = 1 := by unfold errR; rw [if_neg (by simp [ho]), if_pos hnm]
      have e2 : sizeR D s = 0 := by unfold sizeR; rw [e1]; rfl
      rw [e1, e2]
      rw [hnm] at HNm
      clear h ho e1 e2 hnm
      go_enter Tryz.func26, Tryz.ntmps26
      go_wp2_with (go_at_call 97; (with_reducible refine (HNm.out _).mono ?_); rintro e w' ⟨rfl, rfl⟩)
      go_ret2
      exact ⟨rfl, Below.refl _ _⟩
    | true =>
      rw [hnm] at HNm
      cases hat : atN D.fs s with
      | none =>
        have e1 : errR D s = 8 := by unfold errR; rw [if_neg (by simp [ho]), if_neg (by simp [hnm]), if_pos hat]
        have e2 : sizeR D s = 0 := by unfold sizeR; rw [e1]; rfl
        rw [e1, e2]
        have HA := Lib.hid (h.atNone s hat w h)
        clear h ho e1 e2 hnm hat
        go_enter Tryz.func26, Tryz.ntmps26
        go_wp2_with (first
          | (go_at_call 97; (with_reducible refine (HNm.out _).mono ?_); rintro e w' ⟨rfl, rfl⟩)
          | (go_at_call 98; (with_reducible refine HA.out.mono ?_); rintro e w' ⟨rfl, rfl⟩))
        go_ret2
        exact ⟨rfl, Below.refl _ _⟩
      | some i =>
        have e1 : errR D s = 0 := by unfold errR; rw [if_neg (by simp [ho]), if_neg (by simp [hnm]), if_neg (by simp [hat])]
        obtain ⟨f, hf, _⟩ := atN_some hat
        have e2 : sizeR D s = f.now.length := by unfold sizeR; rw [if_pos e1, hat]; simp [hf]
        rw [e1, e2]
        obtain ⟨a, c, hv, hc, hcell⟩ := h.files
        obtain ⟨g, rfl, _, hcc⟩ := hcell i f hf
        have hi := (List.getElem?_eq_some_iff.1 hf).1
        obtain ⟨a2, c2', e3, _⟩ := (h.txt f (List.mem_of_getElem? hf)).1.shape
        have hb := (Below.refl w.heap.size w).drew
        have c0 : w.cell? ⟨r, 0, none⟩ = some (.slice (some ⟨g, 0, none⟩) D.fs.length c) := by rw [← hv]; exact h.cell 0
        have cc : w.cell? ⟨g, i * 6 + 2, none⟩ = some (.slice a2 f.now.length c2') := by rw [← e3]; exact hcc 2 _ rfl
        have HA := Lib.hid (h.atSome s hat)
        have HW := Lib.hid h
        have HWd := Lib.hid (h.below hb)
        have hfew := h.few
        generalize D.fs.length = n at c0 hi hfew
        generalize f.now.length = m at cc
        have j0 : (0 : Int) ≤ (i : Int) := by omega
        have j1 : (i : Int) < (n : Int) := by omega
        clear h ho e1 e2 hnm hat hcell hcc hf e3 hv hc hb
        go_enter Tryz.func26, Tryz.ntmps26
        go_wp2_with (first
          | (go_at_call 97; (with_reducible refine (HNm.out _).mono ?_); rintro e w' ⟨rfl, rfl⟩)
          | (go_at_call 98; (with_reducible refine (HA.out _ HW.out).mono ?_); rintro e w' ⟨rfl, rfl⟩))
        go_region_held3 (fun W => W.cell? ⟨r, 0, none⟩ = some (.slice (some ⟨g, 0, none⟩) n c) ∧ W.cell? ⟨g, i * 6 + 2, none⟩ = some (.slice a2 m c2')) (exact ⟨c0, cc⟩) (first | (go_at_call 98; (with_reducible refine (HA.out _ (by first | exact HWd.out | exact HWa.out)).mono ?_); rintro e w' ⟨rfl, rfl⟩))
        go_wp2
        go_ret2
        exact ⟨rfl, (Below.refl w.heap.size w).drew⟩
def readR (D : RM) (s : ByteArray) (i : Int) : ByteArray × Int :=
  if errR D s = 0 then (match (atN D.fs s).bind fun k => D.fs[k]? with
    | some f => if 0 ≤ i ∧ i < f.now.length then (f.now.getD i.toNat ⟨#[]⟩, 0) else (⟨#[]⟩, 15)
    | none => (⟨#[]⟩, 0))
  else (⟨#[]⟩, errR D s)
theorem readR_err {D : RM} {s : ByteArray} {i : Int} (h : errR D s ≠ 0) : readR D s i = (⟨#[]⟩, errR D s) := if_neg h
set_option maxRecDepth 100000 in
set_option maxHeartbeats 1000000 in
theorem RAt.read (h : RAt lo w r D) (s : ByteArray) (z : Int) : Calls Tryz.prog 43 #[.pointer (some ⟨r, 0, none⟩), .string s, .int .i64 z] w fun e w' => e = .returned (.tuple #[.string (readR D s z).1, .int .i64 (readR D s z).2]) ∧ Below w.heap.size w w' := by
  have c2 : w.cell? ⟨r, 2, none⟩ = some (.bool D.off) := h.cell 2
  have HNm := Lib.hid (fun W => rdName_any W s)
  cases ho : D.off with
  | true =>
    have e1 : errR D s = 14 := if_pos ho
    rw [readR_err (by rw [e1]; decide), e1]
    rw [ho] at c2
    clear h ho e1
    go_enter Tryz.func43, Tryz.ntmps43
    go_wp2
    go_ret2
    exact ⟨rfl, Below.refl _ _⟩
  | false =>
    rw [ho] at c2
    cases hnm : nameOk s with
    | false =>
      have e1 : errR D s = 1 := by unfold errR; rw [if_neg (by simp [ho]), if_pos hnm]
      rw [readR_err (by rw [e1]; decide), e1]
      rw [hnm] at HNm
      clear h ho e1 hnm
      go_enter Tryz.func43, Tryz.ntmps43
      go_wp2_with (go_at_call 97; (with_reducible refine (HNm.out _).mono ?_); rintro e w' ⟨rfl, rfl⟩)
      go_ret2
      exact ⟨rfl, Below.refl _ _⟩
    | true =>
      rw [hnm] at HNm
      cases hat : atN D.fs s with
      | none =>
        have e1 : errR D s = 8 := by unfold errR; rw [if_neg (by simp [ho]), if_neg (by simp [hnm]), if_pos hat]
        rw [readR_err (by rw [e1]; decide), e1]
        have HA := Lib.hid (h.atNone s hat w h)
        clear h ho e1 hnm hat
        go_enter Tryz.func43, Tryz.ntmps43
        go_wp2_with (first
          | (go_at_call 97; (with_reducible refine (HNm.out _).mono ?_); rintro e w' ⟨rfl, rfl⟩)
          | (go_at_call 98; (with_reducible refine HA.out.mono ?_); rintro e w' ⟨rfl, rfl⟩))
        go_ret2
        exact ⟨rfl, Below.refl _ _⟩
      | some i =>
        have e1 : errR D s = 0 := by unfold errR; rw [if_neg (by simp [ho]), if_neg (by simp [hnm]), if_neg (by simp [hat])]
        obtain ⟨f, hf, _⟩ := atN_some hat
        have e2 : readR D s z = if 0 ≤ z ∧ z < f.now.length then (f.now.getD z.toNat ⟨#[]⟩, 0) else (⟨#[]⟩, 15) := by unfold readR; rw [if_pos e1, hat]; simp [hf]
        rw [e2]
        obtain ⟨a, c, hv, hc, hcell⟩ := h.files
        obtain ⟨g, rfl, _, hcc⟩ := hcell i f hf
        have hi := (List.getElem?_eq_some_iff.1 hf).1
        obtain ⟨a2, c2', e3, _, _, hel⟩ := (h.txt f (List.mem_of_getElem? hf)).1.shape
        obtain ⟨a3, c3, e4, _, _, _⟩ := (h.txt f (List.mem_of_getElem? hf)).2.shape
        have hb := (Below.refl w.heap.size w).drew
        have c0 : w.cell? ⟨r, 0, none⟩ = some (.slice (some ⟨g, 0, none⟩) D.fs.length c) := by rw [← hv]; exact h.cell 0
        have k0 : w.cell? ⟨g, i * 6, none⟩ = some (.string f.name) := hcc 0 _ rfl
        have k1 : w.cell? ⟨g, i * 6 + 1, none⟩ = some (.int .i64 f.id) := hcc 1 _ rfl
        have k2 : w.cell? ⟨g, i * 6 + 2, none⟩ = some (.slice a2 f.now.length c2') := by rw [← e3]; exact hcc 2 _ rfl
        have k3 : w.cell? ⟨g, i * 6 + 3, none⟩ = some (.slice a3 f.safe.length c3) := by rw [← e4]; exact hcc 3 _ rfl
        have k4 : w.cell? ⟨g, i * 6 + 4, none⟩ = some (.bool f.made) := hcc 4 _ rfl
        have k5 : w.cell? ⟨g, i * 6 + 5, none⟩ = some (.bool false) := hcc 5 _ rfl
        have HA := Lib.hid (h.atSome s hat)
        have HW := Lib.hid h
        have HWd := Lib.hid (h.below hb)
        have hfew := h.few
        have HEl := Lib.hid hel
        generalize D.fs.length = n at c0 hi hfew
        obtain ⟨now, hnow⟩ : ∃ now, now = f.now := ⟨_, rfl⟩
        obtain ⟨nm, hnm2⟩ : ∃ nm, nm = f.name := ⟨_, rfl⟩
        obtain ⟨id, hid2⟩ : ∃ id, id = f.id := ⟨_, rfl⟩
        obtain ⟨n3, hsv⟩ : ∃ n3, n3 = f.safe.length := ⟨_, rfl⟩
        obtain ⟨md, hmd⟩ : ∃ md, md = f.made := ⟨_, rfl⟩
        simp only [← hnow, ← hnm2, ← hid2, ← hsv, ← hmd] at k0 k1 k2 k3 k4 k5 HEl ⊢
        have HSt : Hid (∀ W, (W = w.drew ∨ W = (w.alloc (.cells #[.string ⟨#[]⟩, .int .i64 0, .slice none 0 0, .slice none 0 0, .bool false, .bool false] 83)).drew ∨ W = (w.alloc (.cells #[.string nm, .int .i64 id, .slice a2 now.length c2', .slice a3 n3 c3, .bool md, .bool false] 83)).drew) → W.cell? ⟨r, 0, none⟩ = some (.slice (some ⟨g, 0, none⟩) n c) ∧ W.cell? ⟨g, i * 6, none⟩ = some (.string nm) ∧ W.cell? ⟨g, i * 6 + 1, none⟩ = some (.int .i64 id) ∧ W.cell? ⟨g, i * 6 + 2, none⟩ = some (.slice a2 now.length c2') ∧ W.cell? ⟨g, i * 6 + 3, none⟩ = some (.slice a3 n3 c3) ∧ W.cell? ⟨g, i * 6 + 4, none⟩ = some (.bool md) ∧ W.cell? ⟨g, i * 6 + 5, none⟩ = some (.bool false)) := by
          intro W hW
          have hlt : ∀ p : Addr, (w.cell? p).isSome = true → W.cell? p = w.cell? p := fun p hp => by
            rcases hW with rfl | rfl | rfl
            · rfl
            · exact World.cell?_alloc_some w p _ hp
            · exact World.cell?_alloc_some w p _ hp
          refine ⟨?_, ?_, ?_, ?_, ?_, ?_, ?_⟩
          · rw [hlt _ (by rw [c0]; rfl)]; exact c0
          · rw [hlt _ (by rw [k0]; rfl)]; exact k0
          · rw [hlt _ (by rw [k1]; rfl)]; exact k1
          · rw [hlt _ (by rw [k2]; rfl)]; exact k2
          · rw [hlt _ (by rw [k3]; rfl)]; exact k3
          · rw [hlt _ (by rw [k4]; rfl)]; exact k4
          · rw [hlt _ (by rw [k5]; rfl)]; exact k5
        have HWa := Lib.hid (HW.out.below (show Below w.heap.size w (w.alloc (.cells #[.string ⟨#[]⟩, .int .i64 0, .slice none 0 0, .slice none 0 0, .bool false, .bool false] 83)).drew from (below_new w _).drew))
        have y0 : (w.alloc (.cells #[.string ⟨#[]⟩, .int .i64 0, .slice none 0 0, .slice none 0 0, .bool false, .bool false] 83)).drew.cell? ⟨w.heap.size, 0, none⟩ = some (.string ⟨#[]⟩) := cell_at (new_at w _ _) 0
        have m0 : (w.alloc (.cells #[.string ⟨#[]⟩, .int .i64 0, .slice none 0 0, .slice none 0 0, .bool false, .bool false] 83)).drew.frozen? ⟨w.heap.size, 0, none⟩ = false := free_at (new_at w _ _) 0
        have y1 : (w.alloc (.cells #[.string ⟨#[]⟩, .int .i64 0, .slice none 0 0, .slice none 0 0, .bool false, .bool false] 83)).drew.cell? ⟨w.heap.size, 1, none⟩ = some (.int .i64 0) := cell_at (new_at w _ _) 1
        have m1 : (w.alloc (.cells #[.string ⟨#[]⟩, .int .i64 0, .slice none 0 0, .slice none 0 0, .bool false, .bool false] 83)).drew.frozen? ⟨w.heap.size, 1, none⟩ = false := free_at (new_at w _ _) 1
        have y2 : (w.alloc (.cells #[.string ⟨#[]⟩, .int .i64 0, .slice none 0 0, .slice none 0 0, .bool false, .bool false] 83)).drew.cell? ⟨w.heap.size, 2, none⟩ = some (.slice none 0 0) := cell_at (new_at w _ _) 2
        have m2 : (w.alloc (.cells #[.string ⟨#[]⟩, .int .i64 0, .slice none 0 0, .slice none 0 0, .bool false, .bool false] 83)).drew.frozen? ⟨w.heap.size, 2, none⟩ = false := free_at (new_at w _ _) 2
        have y3 : (w.alloc (.cells #[.string ⟨#[]⟩, .int .i64 0, .slice none 0 0, .slice none 0 0, .bool false, .bool false] 83)).drew.cell? ⟨w.heap.size, 3, none⟩ = some (.slice none 0 0) := cell_at (new_at w _ _) 3
        have m3 : (w.alloc (.cells #[.string ⟨#[]⟩, .int .i64 0, .slice none 0 0, .slice none 0 0, .bool false, .bool false] 83)).drew.frozen? ⟨w.heap.size, 3, none⟩ = false := free_at (new_at w _ _) 3
        have y4 : (w.alloc (.cells #[.string ⟨#[]⟩, .int .i64 0, .slice none 0 0, .slice none 0 0, .bool false, .bool false] 83)).drew.cell? ⟨w.heap.size, 4, none⟩ = some (.bool false) := cell_at (new_at w _ _) 4
        have m4 : (w.alloc (.cells #[.string ⟨#[]⟩, .int .i64 0, .slice none 0 0, .slice none 0 0, .bool false, .bool false] 83)).drew.frozen? ⟨w.heap.size, 4, none⟩ = false := free_at (new_at w _ _) 4
        have y5 : (w.alloc (.cells #[.string ⟨#[]⟩, .int .i64 0, .slice none 0 0, .slice none 0 0, .bool false, .bool false] 83)).drew.cell? ⟨w.heap.size, 5, none⟩ = some (.bool false) := cell_at (new_at w _ _) 5
        have m5 : (w.alloc (.cells #[.string ⟨#[]⟩, .int .i64 0, .slice none 0 0, .slice none 0 0, .bool false, .bool false] 83)).drew.frozen? ⟨w.heap.size, 5, none⟩ = false := free_at (new_at w _ _) 5
        have j0 : (0 : Int) ≤ (i : Int) := by omega
        have j1 : (i : Int) < (n : Int) := by omega
        clear h ho e1 e2 hnm hat hcell hcc hf e3 e4 hv hc hb hel hnow hnm2 hid2 hsv hmd
        by_cases z0 : 0 ≤ z
        · by_cases z1 : z < now.length
          · have ez : (if 0 ≤ z ∧ z < (now.length : Int) then (now.getD z.toNat ⟨#[]⟩, (0 : Int)) else (⟨#[]⟩, 15)) = (now.getD z.toNat ⟨#[]⟩, 0) := if_pos ⟨z0, z1⟩
            rw [ez]
            obtain ⟨q, rfl⟩ : ∃ q : Nat, z = q := ⟨z.toNat, by omega⟩
            obtain ⟨s9, hs9⟩ : ∃ s9, now[q]? = some s9 := ⟨_, List.getElem?_eq_getElem (by omega)⟩
            obtain ⟨b9, rfl, k9⟩ := HEl.out q s9 hs9
            have e9 : Hid (now.getD (q : Int).toNat ⟨#[]⟩ = s9) := by rw [List.getD_eq_getElem?_getD, show (q : Int).toNat = q from rfl, hs9]; exact rfl
            have hlt9 := Lib.hid (World.block_lt_of_cell? w ⟨b9, q, none⟩ k9)
            have k9a : (w.alloc (.cells #[.string nm, .int .i64 id, .slice (some ⟨b9, 0, none⟩) now.length c2', .slice a3 n3 c3, .bool md, .bool false] 83)).drew.cell? ⟨b9, q, none⟩ = some (.string s9) := (World.cell?_alloc_some w ⟨b9, q, none⟩ _ (by rw [k9]; rfl)).trans k9
            have b1 : decide ((q : Int) < 0) = false := decide_eq_false (by omega)
            have b2 : decide ((now.length : Int) ≤ (q : Int)) = false := decide_eq_false (by omega)
            have b2' : decide (now.length ≤ q) = false := decide_eq_false (by omega)
            rw [e9.out]
            clear hs9 ez e9 HEl
            go_enter Tryz.func43, Tryz.ntmps43
            go_wp2_with (first
              | (go_at_call 97; (with_reducible refine (HNm.out _).mono ?_); rintro e w' ⟨rfl, rfl⟩)
              | (go_at_call 98; (with_reducible refine (HA.out _ HW.out).mono ?_); rintro e w' ⟨rfl, rfl⟩))
            go_region_held3 (fun W => W.cell? ⟨r, 0, none⟩ = some (.slice (some ⟨g, 0, none⟩) n c) ∧ W.cell? ⟨g, i * 6, none⟩ = some (.string nm) ∧ W.cell? ⟨g, i * 6 + 1, none⟩ = some (.int .i64 id) ∧ W.cell? ⟨g, i * 6 + 2, none⟩ = some (.slice (some ⟨b9, 0, none⟩) now.length c2') ∧ W.cell? ⟨g, i * 6 + 3, none⟩ = some (.slice a3 n3 c3) ∧ W.cell? ⟨g, i * 6 + 4, none⟩ = some (.bool md) ∧ W.cell? ⟨g, i * 6 + 5, none⟩ = some (.bool false)) (first | exact HSt.out _ (.inl rfl) | exact HSt.out _ (.inr (.inl rfl)) | exact HSt.out _ (.inr (.inr rfl))) (first | (go_at_call 98; (with_reducible refine (HA.out _ (by first | exact HWd.out | exact HWa.out)).mono ?_); rintro e w' ⟨rfl, rfl⟩))
            all_goals
              go_wp2
              go_ret2
              exact ⟨rfl, by first | exact (below_new w _).drew | exact (Below.refl w.heap.size w).drew.alloc (Nat.le_refl _) _⟩
          · have ez : (if 0 ≤ z ∧ z < (now.length : Int) then (now.getD z.toNat ⟨#[]⟩, (0 : Int)) else (⟨#[]⟩, 15)) = (⟨#[]⟩, 15) := if_neg (fun q => z1 q.2)
            rw [ez]
            have b1 : decide (z < 0) = false := decide_eq_false (by omega)
            have b2 : decide ((now.length : Int) ≤ z) = true := decide_eq_true (by omega)
            clear ez HEl
            go_enter Tryz.func43, Tryz.ntmps43
            go_wp2_with (first
              | (go_at_call 97; (with_reducible refine (HNm.out _).mono ?_); rintro e w' ⟨rfl, rfl⟩)
              | (go_at_call 98; (with_reducible refine (HA.out _ HW.out).mono ?_); rintro e w' ⟨rfl, rfl⟩))
            go_region_held3 (fun W => W.cell? ⟨r, 0, none⟩ = some (.slice (some ⟨g, 0, none⟩) n c) ∧ W.cell? ⟨g, i * 6, none⟩ = some (.string nm) ∧ W.cell? ⟨g, i * 6 + 1, none⟩ = some (.int .i64 id) ∧ W.cell? ⟨g, i * 6 + 2, none⟩ = some (.slice a2 now.length c2') ∧ W.cell? ⟨g, i * 6 + 3, none⟩ = some (.slice a3 n3 c3) ∧ W.cell? ⟨g, i * 6 + 4, none⟩ = some (.bool md) ∧ W.cell? ⟨g, i * 6 + 5, none⟩ = some (.bool false)) (first | exact HSt.out _ (.inl rfl) | exact HSt.out _ (.inr (.inl rfl)) | exact HSt.out _ (.inr (.inr rfl))) (first | (go_at_call 98; (with_reducible refine (HA.out _ (by first | exact HWd.out | exact HWa.out)).mono ?_); rintro e w' ⟨rfl, rfl⟩))
            all_goals
              go_wp2
              go_ret2
              exact ⟨rfl, by first | exact (below_new w _).drew | exact (Below.refl w.heap.size w).drew.alloc (Nat.le_refl _) _⟩
        · have ez : (if 0 ≤ z ∧ z < (now.length : Int) then (now.getD z.toNat ⟨#[]⟩, (0 : Int)) else (⟨#[]⟩, 15)) = (⟨#[]⟩, 15) := if_neg (fun q => z0 q.1)
          rw [ez]
          have b1 : decide (z < 0) = true := decide_eq_true (by omega)
          clear ez HEl
          go_enter Tryz.func43, Tryz.ntmps43
          go_wp2_with (first
            | (go_at_call 97; (with_reducible refine (HNm.out _).mono ?_); rintro e w' ⟨rfl, rfl⟩)
            | (go_at_call 98; (with_reducible refine (HA.out _ HW.out).mono ?_); rintro e w' ⟨rfl, rfl⟩))
          go_region_held3 (fun W => W.cell? ⟨r, 0, none⟩ = some (.slice (some ⟨g, 0, none⟩) n c) ∧ W.cell? ⟨g, i * 6, none⟩ = some (.string nm) ∧ W.cell? ⟨g, i * 6 + 1, none⟩ = some (.int .i64 id) ∧ W.cell? ⟨g, i * 6 + 2, none⟩ = some (.slice a2 now.length c2') ∧ W.cell? ⟨g, i * 6 + 3, none⟩ = some (.slice a3 n3 c3) ∧ W.cell? ⟨g, i * 6 + 4, none⟩ = some (.bool md) ∧ W.cell? ⟨g, i * 6 + 5, none⟩ = some (.bool false)) (first | exact HSt.out _ (.inl rfl) | exact HSt.out _ (.inr (.inl rfl)) | exact HSt.out _ (.inr (.inr rfl))) (first | (go_at_call 98; (with_reducible refine (HA.out _ (by first | exact HWd.out | exact HWa.out)).mono ?_); rintro e w' ⟨rfl, rfl⟩))
          all_goals
            go_wp2
            go_ret2
            exact ⟨rfl, by first | exact (below_new w _).drew | exact (Below.refl w.heap.size w).drew.alloc (Nat.le_refl _) _⟩
end

end Go.Proofs.YtaabepiddbnggaaGreat.P4
