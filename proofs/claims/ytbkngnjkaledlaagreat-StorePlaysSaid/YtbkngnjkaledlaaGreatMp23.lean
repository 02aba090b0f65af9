/-
  Texts of the proof of SaidPlay8b.
-/
import Derived.Test.YtbkngnjkaledlaaGreatMp22
import Derived.Test.YtbkngnjkaledlaaGreatMp13
import Derived.Test.YtbkngnjkaledlaaGreatMp20
import Derived.Test.YtbkngnjkaledlaaGreatMp21
set_option maxHeartbeats 8000000
set_option maxRecDepth 100000
namespace Go.Proofs.YtbkngnjkaledlaaGreat.P4
open Go Go.RowKit Go.Lib P3
theorem atN_erase {l : List MF} {s : ByteArray} {i j : Nat} {f : MF} (h : atN l s = some i) (hf : l[i]? = some f) (hij : j ≠ i) : ∃ i', atN (l.eraseIdx j) s = some i' ∧ (l.eraseIdx j)[i']? = some f := by
 have hfn : f.name = s := by
  obtain ⟨f', h1, h2⟩ := atN_some h
  rw [hf] at h1
  cases h1
  exact h2
 have hlt : ∀ (k : Nat) (g : MF), k < i → l[k]? = some g → g.name ≠ s := fun k g hk hg e => by
  obtain ⟨hi, h1, h2⟩ := List.findIdx?_eq_some_iff_getElem.1 h
  have := h2 k hk
  rw [(List.getElem?_eq_some_iff.1 hg).2] at this
  simp [e] at this
 by_cases hlt2 : i < j
 ·have e1 : (l.eraseIdx j)[i]? = some f := by rw [List.getElem?_eraseIdx, if_pos hlt2]; exact hf
  refine ⟨i, atN_is e1 hfn fun k g hk hg => ?_, e1⟩
  rw [List.getElem?_eraseIdx, if_pos (by omega)] at hg
  exact hlt k g hk hg
 ·have e1 : (l.eraseIdx j)[i - 1]? = some f := by rw [List.getElem?_eraseIdx, if_neg (by omega), show i - 1 + 1 = i from by omega]; exact hf
  refine ⟨i - 1, atN_is e1 hfn fun k g hk hg => ?_, e1⟩
  rw [List.getElem?_eraseIdx] at hg
  by_cases hkj : k < j
  ·rw [if_pos hkj] at hg
   exact hlt k g (by omega) hg
  ·rw [if_neg hkj] at hg
   exact hlt (k + 1) g (by omega) hg
theorem atN_name {l : List MF} {s : ByteArray} {i : Nat} {f : MF} (h : atN l s = some i) (hf : l[i]? = some f) : f.name = s := by
 obtain ⟨f', h1, h2⟩ := atN_some h
 rw [hf] at h1
 cases h1
 exact h2
section
variable {lo : Nat} {w w' w'' : World} {r : Nat} {D E F : RM}
def errN (D : RM) (s t : ByteArray) : Int := if D.off = true then 14 else if nameOk s = false ∨ nameOk t = false then 1 else if atN D.fs s = none then 8 else 0
def RM.named (D : RM) (i : Nat) (f : MF) (t : ByteArray) : RM := { D with fs := D.fs.set i { f with name := t } }
inductive RnR (lo : Nat) (w : World) (r : Nat) (D : RM) (s t : ByteArray) (ks : List Int) (e : Ending) (w' : World) : Prop
 | err (h : errN D s t ≠ 0) (he : e = .returned (.int .i64 (errN D s t))) (hb : Below w.heap.size w w')
 | falls (h : errN D s t = 0) (hf : D.fallsB = true) (he : e = .returned (.int .i64 14)) (n : Ending) (hc : CrashP lo w r D ks n w')
 | same (h : errN D s t = 0) (hf : D.fallsB = false) (he : e = .returned (.int .i64 0)) (hst : s = t) (hs : RStep lo w r D w' D.count)
 | move (h : errN D s t = 0) (hf : D.fallsB = false) (he : e = .returned (.int .i64 0)) (hst : s ≠ t) (hno : atN D.fs t = none) (i : Nat) (f : MF) (hat : atN D.fs s = some i) (hi : D.fs[i]? = some f) (hs : RStep lo w r D w' (D.count.named i f t))
 | over (h : errN D s t = 0) (hf : D.fallsB = false) (he : e = .returned (.int .i64 0)) (hst : s ≠ t) (j : Nat) (g : MF) (hto : atN D.fs t = some j) (hj : D.fs[j]? = some g) (i : Nat) (f : MF) (u v : Value) (hat : atN (D.fs.eraseIdx j) s = some i) (hi : (D.fs.eraseIdx j)[i]? = some f) (i0 : Nat) (hi0 : D.fs[i0]? = some f) (hat0 : atN D.fs s = some i0) (hs : RStep lo w r D w' ((D.count.rm j g u v).named i f t))
theorem RAt.name_ (h : RAt lo w r D) (s t : ByteArray) {i : Nat} {f : MF} (hat : atN D.fs s = some i) (hi : D.fs[i]? = some f) : ∃ g c, w.cell? ⟨r, 0, none⟩ = some (.slice (some ⟨g, 0, none⟩) D.fs.length c) ∧ w.cell? ⟨g, i * 6, none⟩ = some (.string s) ∧ w.frozen? ⟨g, i * 6, none⟩ = false ∧ r ≠ g ∧ D.fs.length ≤ 60 ∧
  RStep lo w r D (w.drew.setCell ⟨g, i * 6, none⟩ (.string t)) (D.named i f t) := by
 obtain ⟨a, c, hv, hc, hcell⟩ := h.files
 obtain ⟨g, rfl, hg, hcc⟩ := hcell i f hi
 obtain ⟨_, cur, hblk⟩ := owned_at h.lrow hg
 have ht := h.txt f (List.mem_of_getElem? hi)
 have hd : Below w.heap.size w w.drew := (Below.refl _ _).drew
 have e := atN_name hat hi
 refine ⟨g, c, by rw [← hv]; exact h.cell 0, by rw [← e]; exact hcc 0 _ rfl, free_at hblk _, (fun e => h.apart.1 (e ▸ hg)), h.few, ?_⟩
 exact h.setF (f' := { f with name := t }) (j := 0) (u := .string t) hd hi hg (by decide) rfl ⟨ht.1.below hd, ht.2.below hd⟩ (h.long f (List.mem_of_getElem? hi)) (fun k hk => .inl (.inr ⟨f, List.mem_of_getElem? hi, hk⟩))
theorem RAt.rename (h : RAt lo w r D) (s t : ByteArray) (ks : List Int) (h0 : D.armed = true → 0 ≤ D.n) (h1 : D.n ≤ 9223372036854775807) (hids : ∀ f ∈ D.fs, f.id ≤ 1000000) (hbig : ∀ x ∈ D.ws, x.file ≤ 1000000 ∧ x.pos ≤ 1000000) (hkv : ∃ a m c, D.kv = .slice a m c)
  (HCr : D.off = false → ∀ W, RAt lo W r D → Fr (D.own r) w W → Calls Tryz.prog 48 #[.pointer (some ⟨r, 0, none⟩), D.kv] W (CrashP lo W r D ks)) :
  Calls Tryz.prog 56 #[.pointer (some ⟨r, 0, none⟩), .string s, .string t] w (RnR lo w r D s t ks) := by
 have c2 : w.cell? ⟨r, 2, none⟩ = some (.bool D.off) := h.cell 2
 have HNm := Lib.hid (fun W => rdName_any W s)
 have HNt := Lib.hid (fun W => rdName_any W t)
 cases ho : D.off with
 | true =>
  have e1 : errN D s t = 14 := if_pos ho
  have HE := Lib.hid (RnR.err (lo := lo) (w := w) (r := r) (D := D) (s := s) (t := t) (ks := ks) (w' := w) (by rw [e1]; decide) rfl (Below.refl _ _))
  rw [e1] at HE
  rw [ho] at c2
  clear h ho e1 HCr hids hbig
  go_enter Tryz.func56, Tryz.ntmps56
  go_wp2
  go_ret
  exact HE.out
 | false =>
  replace HCr := HCr ho
  rw [ho] at c2
  cases hnm : nameOk s with
  | false =>
   have e1 : errN D s t = 1 := by unfold errN; rw [if_neg (by simp [ho]), if_pos (.inl hnm)]
   have HE := Lib.hid (RnR.err (lo := lo) (w := w) (r := r) (D := D) (s := s) (t := t) (ks := ks) (w' := w) (by rw [e1]; decide) rfl (Below.refl _ _))
   rw [e1] at HE
   rw [hnm] at HNm
   clear h ho e1 hnm HCr hids hbig
   go_enter Tryz.func56, Tryz.ntmps56
   go_wp2_with (go_at_call 45; (with_reducible refine (HNm.out _).mono ?_); rintro e w' ⟨rfl, rfl⟩)
   go_ret
   exact HE.out
  | true =>
   rw [hnm] at HNm
   cases hnt : nameOk t with
   | false =>
    have e1 : errN D s t = 1 := by unfold errN; rw [if_neg (by simp [ho]), if_pos (.inr hnt)]
    have HE := Lib.hid (RnR.err (lo := lo) (w := w) (r := r) (D := D) (s := s) (t := t) (ks := ks) (w' := w) (by rw [e1]; decide) rfl (Below.refl _ _))
    rw [e1] at HE
    rw [hnt] at HNt
    clear h ho e1 hnm hnt HCr hids hbig
    go_enter Tryz.func56, Tryz.ntmps56
    go_wp2_with (first
     | (go_at_call 45; (with_reducible refine (HNm.out _).mono ?_); rintro e w' ⟨rfl, rfl⟩)
     | (go_at_call 45; (with_reducible refine (HNt.out _).mono ?_); rintro e w' ⟨rfl, rfl⟩))
    go_ret
    exact HE.out
   | true =>
    rw [hnt] at HNt
    cases hat : atN D.fs s with
    | none =>
     have e1 : errN D s t = 8 := by unfold errN; rw [if_neg (by simp [ho]), if_neg (by simp [hnm, hnt]), if_pos hat]
     have HE := Lib.hid (RnR.err (lo := lo) (w := w) (r := r) (D := D) (s := s) (t := t) (ks := ks) (w' := w) (by rw [e1]; decide) rfl (Below.refl _ _))
     rw [e1] at HE
     have HA := Lib.hid (h.atNone s hat w h)
     clear h ho e1 hnm hnt hat HCr hids hbig
     go_enter Tryz.func56, Tryz.ntmps56
     go_wp2_with (first
      | (go_at_call 45; (with_reducible refine (HNm.out _).mono ?_); rintro e w' ⟨rfl, rfl⟩)
      | (go_at_call 45; (with_reducible refine (HNt.out _).mono ?_); rintro e w' ⟨rfl, rfl⟩)
      | (go_at_call 46; (with_reducible refine HA.out.mono ?_); rintro e w' ⟨rfl, rfl⟩))
     go_ret
     exact HE.out
    | some i =>
     have e1 : errN D s t = 0 := by unfold errN; rw [if_neg (by simp [ho]), if_neg (by simp [hnm, hnt]), if_neg (by simp [hat])]
     have HA := Lib.hid (h.atSome s hat)
     have HW := Lib.hid h
     have HFa := Lib.hid (h.falls h0 h1)
     cases hfa : D.fallsB with
     | true =>
      rw [hfa, count_falls hfa] at HFa
      have HCr' := Lib.hid (fun W (hW : RAt lo W r D) (hF : Fr (D.own r) w W) => HCr W hW hF)
      have HE := Lib.hid (fun w1 (h1 : RAt lo w1 r D) (o : Only r w w1) n w' (hc : CrashP lo w1 r D ks n w') => RnR.falls (lo := lo) (w := w) (r := r) (D := D) (s := s) (t := t) (ks := ks) (e := .returned (.int .i64 14)) (w' := w') e1 hfa rfl n (by
       obtain ⟨E, q1, q2, q3⟩ := hc
       exact ⟨E, q1, (by have := RStep.count h (by rw [count_falls hfa]; exact h1) o; rw [count_falls hfa] at this; exact this.trans q2), q3⟩))
      obtain ⟨ka, km, kc, ekv⟩ := hkv
      have HKv := Lib.hid (fun W (hW : RAt lo W r D) => (show W.cell? ⟨r, 6, none⟩ = some (.slice ka km kc) from by rw [← ekv]; exact hW.cell 6))
      rw [ekv] at HCr'
      clear ekv
      clear h ho e1 hnm hnt hat HCr hids hbig hfa h0 h1
      go_enter Tryz.func56, Tryz.ntmps56
      go_wp2_with (first
       | (go_at_call 45; (with_reducible refine (HNm.out _).mono ?_); rintro e w' ⟨rfl, rfl⟩)
       | (go_at_call 45; (with_reducible refine (HNt.out _).mono ?_); rintro e w' ⟨rfl, rfl⟩)
       | (go_at_call 46; (with_reducible refine (HA.out _ HW.out).mono ?_); rintro e w' ⟨rfl, rfl⟩)
       | (go_at_call 47; (with_reducible refine HFa.out.mono ?_); rintro e w1 ⟨rfl, hw1, ho1⟩; have HW1 := Lib.hid hw1; have HO1 := Lib.hid ho1; have HF1 : Hid (Fr (D.own r) w w1) := Fr.only HO1.out (.inl rfl); clear hw1 ho1; have kv6 := HKv.out _ HW1.out)
       | (go_at_call 48; (with_reducible refine (HCr'.out _ HW1.out HF1.out).mono ?_); intro e w2 hc; have HC2 := Lib.hid (HE.out _ HW1.out HO1.out _ _ hc); obtain ⟨E9, rfl, -, -⟩ := hc))
      go_ret
      exact HC2.out
     | false =>
      rw [hfa] at HFa
      obtain ⟨f, hf, hfn⟩ := atN_some hat
      obtain ⟨q1, q2, q3, q4, q5⟩ := count_fs D
      have HST : Hid (∀ w1, RAt lo w1 r D.count → Only r w w1 → RStep lo w r D w1 D.count) := fun w1 a b => RStep.count h a b
      by_cases hst : s = t
      ·have hse := same_true hst
       have HE := Lib.hid (fun w' (hs : RStep lo w r D w' D.count) => RnR.same (s := s) (t := t) (ks := ks) (e := .returned (.int .i64 0)) e1 hfa rfl hst hs)
       clear h ho e1 hnm hnt hat HCr hids hbig hfa h0 h1 hst hf hfn q1 q2 q3 q4 q5 hkv
       go_enter Tryz.func56, Tryz.ntmps56
       go_wp2_with (first
        | (go_at_call 45; (with_reducible refine (HNm.out _).mono ?_); rintro e w' ⟨rfl, rfl⟩)
        | (go_at_call 45; (with_reducible refine (HNt.out _).mono ?_); rintro e w' ⟨rfl, rfl⟩)
        | (go_at_call 46; (with_reducible refine (HA.out _ HW.out).mono ?_); rintro e w' ⟨rfl, rfl⟩)
        | (go_at_call 47; (with_reducible refine HFa.out.mono ?_); rintro e w1 ⟨rfl, hw1, ho1⟩; have HQ := Lib.hid (HE.out _ (HST.out _ hw1 ho1)); clear hw1 ho1))
       go_ret
       exact HQ.out
      ·have hse := same_false hst
       have HFT : Hid (∀ w1, RAt lo w1 r D.count → RAt lo w1 r D.count) := fun _ a => a
       have HAs : Hid (∀ (C : RM), C.fs = D.fs → ∀ W, RAt lo W r C → Calls Tryz.prog 46 #[.pointer (some ⟨r, 0, none⟩), .string s] W fun e w' => e = .returned (.int .i64 i) ∧ W = w') := fun C eC W hW => hW.atSome s (by rw [eC]; exact hat) W hW
       cases hto : atN D.fs t with
       | none =>
        have HAt : Hid (∀ (C : RM), C.fs = D.fs → ∀ W, RAt lo W r C → Calls Tryz.prog 46 #[.pointer (some ⟨r, 0, none⟩), .string t] W fun e w' => e = .returned (.int .i64 (-1)) ∧ W = w') := fun C eC W hW => hW.atNone t (by rw [eC]; exact hto) W hW
        have HE := Lib.hid (fun w' hs => RnR.move (lo := lo) (w := w) (r := r) (w' := w') (s := s) (t := t) (ks := ks) (e := .returned (.int .i64 0)) e1 hfa rfl hst hto i f hat hf hs)
        have HG : Hid (∀ w1, RAt lo w1 r D.count → Only r w w1 → ∃ g c, w1.cell? ⟨r, 0, none⟩ = some (.slice (some ⟨g, 0, none⟩) D.fs.length c) ∧ w1.cell? ⟨g, i * 6, none⟩ = some (.string s) ∧ w1.frozen? ⟨g, i * 6, none⟩ = false ∧ r ≠ g ∧ Hid (RAt lo w1 r D.count) ∧ Hid (RAt lo w1.drew r D.count) ∧ Hid (RnR lo w r D s t ks (.returned (.int .i64 0)) (w1.drew.setCell ⟨g, i * 6, none⟩ (.string t)))) := fun w1 a b => by
         obtain ⟨g, c, k1, k2, k3, k9, _, k4⟩ := a.name_ s t (by rw [q1]; exact hat) (by rw [q1]; exact hf)
         rw [q1] at k1
         exact ⟨g, c, k1, k2, k3, k9, a, a.below ((Below.refl _ _).drew), HE.out _ ((HST.out _ a b).trans k4)⟩
        have hil := (List.getElem?_eq_some_iff.1 hf).1
        have hfew := h.few
        have j0 : (0 : Int) ≤ (i : Int) := by omega
        have j1 : (i : Int) < (D.fs.length : Int) := by omega
        have HF1 := Lib.hid q1
        clear h ho e1 hnm hnt hat HCr hids hbig hfa h0 h1 hst hf hfn q1 q2 q3 q4 q5 hkv HE HST HFT
        obtain ⟨C, hC⟩ : ∃ C, C = D.count := ⟨_, rfl⟩
        rw [← hC] at HG HFa HF1
        clear hC
        generalize D.fs.length = n at hil hfew j1 HG
        go_enter Tryz.func56, Tryz.ntmps56
        go_upto_region 14 with (first
         | (go_at_call 45; (with_reducible refine (HNm.out _).mono ?_); rintro e w' ⟨rfl, rfl⟩)
         | (go_at_call 45; (with_reducible refine (HNt.out _).mono ?_); rintro e w' ⟨rfl, rfl⟩)
         | (go_at_call 46; (with_reducible refine (HA.out _ HW.out).mono ?_); rintro e w' ⟨rfl, rfl⟩)
         | (go_at_call 47; (with_reducible refine HFa.out.mono ?_); rintro e w1 ⟨rfl, hw1, ho1⟩; obtain ⟨g, c, k0, k1, k2, hgr, HW1, HWd, HQ⟩ := HG.out _ hw1 ho1; clear hw1 ho1)
         | (go_at_call 46; (with_reducible refine (HAt.out _ HF1.out _ HW1.out).mono ?_); rintro e w' ⟨rfl, rfl⟩))
        have hkk := k0
        rw [← (heap_ext (Below.heap_setCell _ ⟨g, i * 6, none⟩ (.string t) _ hgr) 0).1] at hkk
        have HKK := Lib.hid hkk
        clear hkk
        go_region_held3 (fun W => W.cell? ⟨r, 0, none⟩ = some (.slice (some ⟨g, 0, none⟩) n c)) (first | exact k0 | exact HKK.out) (first | (go_at_call 46; (with_reducible refine (HAs.out _ HF1.out _ HWd.out).mono ?_); rintro e w' ⟨rfl, rfl⟩))
        go_wp2
        go_ret
        exact HQ.out
       | some j =>
        obtain ⟨g9, hg9, hgn⟩ := atN_some hto
        have hji : j ≠ i := fun e => hst (by rw [← hfn, ← hgn]; rw [e, hf] at hg9; cases hg9; rfl)
        obtain ⟨i2, hat2, hf2⟩ := atN_erase hat hf hji
        have HAt : Hid (∀ (C : RM), C.fs = D.fs → ∀ W, RAt lo W r C → Calls Tryz.prog 46 #[.pointer (some ⟨r, 0, none⟩), .string t] W fun e w' => e = .returned (.int .i64 j) ∧ W = w') := fun C eC W hW => hW.atSome t (by rw [eC]; exact hto) W hW
        have HAs2 : Hid (∀ (C : RM), C.fs = D.fs.eraseIdx j → ∀ W, RAt lo W r C → Calls Tryz.prog 46 #[.pointer (some ⟨r, 0, none⟩), .string s] W fun e w' => e = .returned (.int .i64 i2) ∧ W = w') := fun C eC W hW => hW.atSome s (by rw [eC]; exact hat2) W hW
        have HE := Lib.hid (fun w' u v hs => RnR.over (lo := lo) (w := w) (r := r) (w' := w') (s := s) (t := t) (ks := ks) (e := .returned (.int .i64 0)) e1 hfa rfl hst j g9 hto hg9 i2 f u v hat2 hf2 i hf hat hs)
        have hil := (List.getElem?_eq_some_iff.1 hf2).1
        have HRm : Hid (∀ w1, RAt lo w1 r D.count → Only r w w1 → Calls Tryz.prog 101 #[.pointer (some ⟨r, 0, none⟩), .int .i64 j] w1 fun e w2 => e = .returned (.tuple #[]) ∧ ∃ g c u v, w2.cell? ⟨r, 0, none⟩ = some (.slice (some ⟨g, 0, none⟩) (D.fs.eraseIdx j).length c) ∧ w2.cell? ⟨g, i2 * 6, none⟩ = some (.string s) ∧ w2.frozen? ⟨g, i2 * 6, none⟩ = false ∧ r ≠ g ∧ Hid (RAt lo w2.drew r (D.count.rm j g9 u v)) ∧ Hid (RnR lo w r D s t ks (.returned (.int .i64 0)) (w2.drew.setCell ⟨g, i2 * 6, none⟩ (.string t)))) := fun w1 a b => by
         refine (a.rm j g9 (by rw [q1]; exact hg9) (hids g9 (List.mem_of_getElem? hg9)) (by rw [q2]; exact hbig)).mono ?_
         rintro e w2 ⟨rfl, u, v, hs⟩
         have ef : (D.count.rm j g9 u v).fs = D.fs.eraseIdx j := by show D.count.fs.eraseIdx j = _; rw [q1]
         obtain ⟨g, c, k1, k2, k3, k9, _, k4⟩ := hs.at'.name_ s t (by rw [ef]; exact hat2) (by rw [ef]; exact hf2)
         rw [ef] at k1
         exact ⟨rfl, g, c, u, v, k1, k2, k3, k9, hs.at'.below ((Below.refl _ _).drew), HE.out _ u v ((HST.out _ a b).trans (hs.trans k4))⟩
        have hfew : (D.fs.eraseIdx j).length ≤ 60 := Nat.le_trans (List.length_eraseIdx_le ..) h.few
        have j0 : (0 : Int) ≤ (i2 : Int) := by omega
        have j1 : (i2 : Int) < ((D.fs.eraseIdx j).length : Int) := by omega
        have j2 : decide ((0 : Int) ≤ (j : Int)) = true := decide_eq_true (by omega)
        have HF1 := Lib.hid q1
        have HF2 : Hid (∀ u v, (D.count.rm j g9 u v).fs = D.fs.eraseIdx j) := fun u v => by show D.count.fs.eraseIdx j = _; rw [q1]
        clear h ho e1 hnm hnt hat HCr hids hbig hfa h0 h1 hst hf hfn q1 q2 q3 q4 q5 hkv HE HST HFT hat2 hf2 hg9 hgn hto hji
        obtain ⟨C, hC⟩ : ∃ C, C = D.count := ⟨_, rfl⟩
        rw [← hC] at HRm HFa HF1 HF2
        clear hC
        generalize hL : D.fs.eraseIdx j = L at hil hfew j1 HRm HAs2 HF2
        clear hL
        generalize L.length = n at hil hfew j1 HRm
        go_enter Tryz.func56, Tryz.ntmps56
        go_upto_region 14 with (first
         | (go_at_call 45; (with_reducible refine (HNm.out _).mono ?_); rintro e w' ⟨rfl, rfl⟩)
         | (go_at_call 45; (with_reducible refine (HNt.out _).mono ?_); rintro e w' ⟨rfl, rfl⟩)
         | (go_at_call 46; (with_reducible refine (HA.out _ HW.out).mono ?_); rintro e w' ⟨rfl, rfl⟩)
         | (go_at_call 47; (with_reducible refine HFa.out.mono ?_); rintro e w1 ⟨rfl, hw1, ho1⟩; have HW1 := Lib.hid hw1; have HRm1 := Lib.hid (HRm.out _ hw1 ho1); clear hw1 ho1)
         | (go_at_call 46; (with_reducible refine (HAt.out _ HF1.out _ HW1.out).mono ?_); rintro e w' ⟨rfl, rfl⟩)
         | (go_at_call 101; (with_reducible refine HRm1.out.mono ?_); rintro e w2 ⟨rfl, g, c, u9, v9, k0, k1, k2, hgr, HWd, HQ⟩))
        have hkk := k0
        rw [← (heap_ext (Below.heap_setCell _ ⟨g, i2 * 6, none⟩ (.string t) _ hgr) 0).1] at hkk
        have HKK := Lib.hid hkk
        clear hkk
        go_region_held3 (fun W => W.cell? ⟨r, 0, none⟩ = some (.slice (some ⟨g, 0, none⟩) n c)) (first | exact k0 | exact HKK.out) (first | (go_at_call 46; (with_reducible refine (HAs2.out _ (HF2.out _ _) _ HWd.out).mono ?_); rintro e w' ⟨rfl, rfl⟩))
        go_wp2
        go_ret
        exact HQ.out
end
end Go.Proofs.YtbkngnjkaledlaaGreat.P4
namespace Go.Proofs.YtbkngnjkaledlaaGreat.P4
open Go Go.RowKit Go.Lib P3
section
variable {lo : Nat} {w w' w'' : World} {r : Nat} {D E F : RM}
theorem RAt.sync2 (h : RAt lo w r D) (s : ByteArray) (ks : List Int) (h0 : D.armed = true → 0 ≤ D.n) (h1 : D.n ≤ 9223372036854775807) (hids : ∀ f ∈ D.fs, f.id ≤ 1000000) (hbig : ∀ x ∈ D.ws, x.file ≤ 1000000 ∧ x.pos ≤ 1000000) (hkv : ∃ a m c, D.kv = .slice a m c)
  (HCr : D.off = false → ∀ W, RAt lo W r D → Fr (D.own r) w W → Calls Tryz.prog 48 #[.pointer (some ⟨r, 0, none⟩), D.kv] W (CrashP lo W r D ks)) :
  Calls Tryz.prog 13 #[.pointer (some ⟨r, 0, none⟩), .string s] w (SyncR lo w r D s ks) := by
 have c2 : w.cell? ⟨r, 2, none⟩ = some (.bool D.off) := h.cell 2
 have HNm := Lib.hid (fun W => rdName_any W s)
 cases ho : D.off with
 | true =>
  have e1 : errR D s = 14 := if_pos ho
  have HE := Lib.hid (SyncR.err (lo := lo) (w := w) (r := r) (D := D) (s := s) (ks := ks) (w' := w) (by rw [e1]; decide) rfl (Below.refl _ _))
  rw [e1] at HE
  rw [ho] at c2
  clear h ho e1 HCr hids hbig
  go_enter Tryz.func13, Tryz.ntmps13
  go_wp2
  go_ret
  exact HE.out
 | false =>
  replace HCr := HCr ho
  rw [ho] at c2
  cases hnm : nameOk s with
  | false =>
   have e1 : errR D s = 1 := by unfold errR; rw [if_neg (by simp [ho]), if_pos hnm]
   have HE := Lib.hid (SyncR.err (lo := lo) (w := w) (r := r) (D := D) (s := s) (ks := ks) (w' := w) (by rw [e1]; decide) rfl (Below.refl _ _))
   rw [e1] at HE
   rw [hnm] at HNm
   clear h ho e1 hnm HCr hids hbig
   go_enter Tryz.func13, Tryz.ntmps13
   go_wp2_with (go_at_call 45; (with_reducible refine (HNm.out _).mono ?_); rintro e w' ⟨rfl, rfl⟩)
   go_ret
   exact HE.out
  | true =>
   rw [hnm] at HNm
   cases hat : atN D.fs s with
   | none =>
    have e1 : errR D s = 8 := by unfold errR; rw [if_neg (by simp [ho]), if_neg (by simp [hnm]), if_pos hat]
    have HE := Lib.hid (SyncR.err (lo := lo) (w := w) (r := r) (D := D) (s := s) (ks := ks) (w' := w) (by rw [e1]; decide) rfl (Below.refl _ _))
    rw [e1] at HE
    have HA := Lib.hid (h.atNone s hat w h)
    clear h ho e1 hnm hat HCr hids hbig
    go_enter Tryz.func13, Tryz.ntmps13
    go_wp2_with (first
     | (go_at_call 45; (with_reducible refine (HNm.out _).mono ?_); rintro e w' ⟨rfl, rfl⟩)
     | (go_at_call 46; (with_reducible refine HA.out.mono ?_); rintro e w' ⟨rfl, rfl⟩))
    go_ret
    exact HE.out
   | some i =>
    have e1 : errR D s = 0 := by unfold errR; rw [if_neg (by simp [ho]), if_neg (by simp [hnm]), if_neg (by simp [hat])]
    have HA := Lib.hid (h.atSome s hat)
    have HW := Lib.hid h
    have HFa := Lib.hid (h.falls h0 h1)
    cases hfa : D.fallsB with
    | true =>
     rw [hfa, count_falls hfa] at HFa
     have HCr' := Lib.hid (fun W (hW : RAt lo W r D) (hF : Fr (D.own r) w W) => HCr W hW hF)
     have HE := Lib.hid (fun w1 (h1 : RAt lo w1 r D) (o : Only r w w1) n w' (hc : CrashP lo w1 r D ks n w') => SyncR.falls (lo := lo) (w := w) (r := r) (D := D) (s := s) (ks := ks) (e := .returned (.int .i64 14)) (w' := w') e1 hfa rfl n (by
      obtain ⟨E, q1, q2, q3⟩ := hc
      exact ⟨E, q1, (by have := RStep.count h (by rw [count_falls hfa]; exact h1) o; rw [count_falls hfa] at this; exact this.trans q2), q3⟩))
     obtain ⟨ka, km, kc, ekv⟩ := hkv
     have HKv := Lib.hid (fun W (hW : RAt lo W r D) => (show W.cell? ⟨r, 6, none⟩ = some (.slice ka km kc) from by rw [← ekv]; exact hW.cell 6))
     rw [ekv] at HCr'
     clear ekv
     clear h ho e1 hnm hat HCr hids hbig hfa h0 h1
     go_enter Tryz.func13, Tryz.ntmps13
     go_wp2_with (first
      | (go_at_call 45; (with_reducible refine (HNm.out _).mono ?_); rintro e w' ⟨rfl, rfl⟩)
      | (go_at_call 46; (with_reducible refine (HA.out _ HW.out).mono ?_); rintro e w' ⟨rfl, rfl⟩)
      | (go_at_call 47; (with_reducible refine HFa.out.mono ?_); rintro e w1 ⟨rfl, hw1, ho1⟩; have HW1 := Lib.hid hw1; have HO1 := Lib.hid ho1; have HF1 : Hid (Fr (D.own r) w w1) := Fr.only HO1.out (.inl rfl); clear hw1 ho1; have kv6 := HKv.out _ HW1.out)
      | (go_at_call 48; (with_reducible refine (HCr'.out _ HW1.out HF1.out).mono ?_); intro e w2 hc; have HC2 := Lib.hid (HE.out _ HW1.out HO1.out _ _ hc); obtain ⟨E9, rfl, -, -⟩ := hc))
     go_ret
     exact HC2.out
    | false =>
     rw [hfa] at HFa
     obtain ⟨f, hf, _⟩ := atN_some hat
     obtain ⟨q1, q2, q3, q4, q5⟩ := count_fs D
     have HE := Lib.hid (fun w' u (hs : RStep lo w r D w' (D.count.sync i f u)) => SyncR.done (ks := ks) (e := .returned (.int .i64 0)) e1 hfa rfl i f hat hf u hs)
     have hidf := hids f (List.mem_of_getElem? hf)
     have hil := (List.getElem?_eq_some_iff.1 hf).1
     have hfew := h.few
     obtain ⟨C, hC⟩ : ∃ C, C = D.count := ⟨_, rfl⟩
     rw [← hC] at q1 q2 q3 q4 q5 HE HFa
     -- the state behind falls
     have HG : Hid (∀ w1, RAt lo w1 r C → Only r w w1 → ∃ g c a2 c2 a3 n3 c3, w1.cell? ⟨r, 0, none⟩ = some (.slice (some ⟨g, 0, none⟩) D.fs.length c) ∧ w1.cell? ⟨g, i * 6 + 1, none⟩ = some (.int .i64 f.id) ∧ w1.cell? ⟨g, i * 6 + 2, none⟩ = some (.slice a2 f.now.length c2) ∧ w1.cell? ⟨g, i * 6 + 3, none⟩ = some (.slice a3 n3 c3) ∧ w1.cell? ⟨g, i * 6 + 4, none⟩ = some (.bool f.made) ∧ w1.frozen? ⟨g, i * 6 + 3, none⟩ = false ∧ w1.frozen? ⟨g, i * 6 + 4, none⟩ = false ∧
       Hid (RAt lo w1.drew r C) ∧ Hid (∀ W, W = ((w1.setCell ⟨g, i * 6 + 3, none⟩ (.slice a2 f.now.length c2)).setCell ⟨g, i * 6 + 4, none⟩ (.bool true)).drew → Calls Tryz.prog 49 #[.pointer (some ⟨r, 0, none⟩), .int .i64 f.id, .int .i64 0] W fun e w' => e = .returned (.tuple #[]) ∧ SyncR lo w r D s ks (.returned (.int .i64 0)) w')) := by
      intro w1 hw1 ho1
      have hi1 : C.fs[i]? = some f := by rw [q1]; exact hf
      obtain ⟨a, c, hv, hcl, hcell⟩ := hw1.files
      obtain ⟨g, rfl, hg, hcc⟩ := hcell i f hi1
      have ht := hw1.txt f (List.mem_of_getElem? hi1)
      obtain ⟨a2, c2, e2, _⟩ := ht.1.shape
      obtain ⟨a3, c3, e3, _⟩ := ht.2.shape
      obtain ⟨_, cur, hblk⟩ := owned_at hw1.lrow hg
      have hst : RStep lo w r D w1 C := by rw [hC]; exact RStep.count h (hC ▸ hw1) ho1
      have hd : Below w1.heap.size w1 w1.drew := (Below.refl _ _).drew
      have hl := hw1.long f (List.mem_of_getElem? hi1)
      have s1 := hw1.setF (f' := { f with safe := f.now, sv := f.nv }) (j := 3) (u := .slice a2 f.now.length c2) hd hi1 hg (by decide) (by rw [← e2]; rfl) ⟨ht.1.below hd, ht.1.below hd⟩ ⟨hl.1, hl.1⟩
       (fun k hk => .inl (.inr ⟨f, List.mem_of_getElem? hi1, .inl (by rcases hk with q | q <;> exact q)⟩))
      have hi2 : (C.fs.set i { f with safe := f.now, sv := f.nv })[i]? = some { f with safe := f.now, sv := f.nv } := by
       rw [List.getElem?_set, if_pos rfl, if_pos (List.getElem?_eq_some_iff.1 hi1).1]
      have ht2 := s1.at'.txt _ (List.mem_of_getElem? hi2)
      have s2 := s1.at'.setF (f' := { f with safe := f.now, sv := f.nv, made := true }) (j := 4) (u := .bool true) (Below.refl _ _) hi2 hg (by decide) rfl ht2 ⟨hl.1, hl.1⟩
       (fun k hk => .inl (.inr ⟨_, List.mem_of_getElem? hi2, hk⟩))
      have hall : RStep lo w r D ((w1.setCell ⟨g, i * 6 + 3, none⟩ (.slice a2 f.now.length c2)).setCell ⟨g, i * 6 + 4, none⟩ (.bool true)).drew _ := hst.trans (s1.trans s2)
      have e9 : (C.fs.set i { f with safe := f.now, sv := f.nv }).set i { f with safe := f.now, sv := f.nv, made := true } = C.fs.set i { f with safe := f.now, sv := f.nv, made := true } := List.set_set ..
      refine ⟨g, c, a2, c2, a3, f.safe.length, c3, by rw [← q1, ← hv]; exact hw1.cell 0, hcc 1 _ rfl, by rw [← e2]; exact hcc 2 _ rfl, by rw [← e3]; exact hcc 3 _ rfl, hcc 4 _ rfl, free_at hblk _, free_at hblk _, hw1.below hd, fun W hW => ?_⟩
      subst hW
      refine (hall.at'.forget f.id 0 hidf (by decide) (by show ∀ x ∈ C.ws, _; rw [q2]; exact hbig)).mono ?_
      rintro e w' ⟨h1, u, hu⟩
      refine ⟨h1, HE.out w' u ?_⟩
      have h2 := hall.trans hu
      simp only [e9] at h2
      exact h2
     have j0 : (0 : Int) ≤ (i : Int) := by omega
     have j1 : (i : Int) < (D.fs.length : Int) := by omega
     have HA2 : Hid (∀ W, RAt lo W r C → Calls Tryz.prog 46 #[.pointer (some ⟨r, 0, none⟩), .string s] W fun e w' => e = .returned (.int .i64 i) ∧ W = w') := fun W hW => hW.atSome s (by rw [q1]; exact hat) W hW
     generalize D.fs.length = n at hil hfew j1 HG
     clear h ho e1 hnm hat HCr hids hbig hfa h0 h1 HE hC q1 q2 q3 q4 q5 hkv hidf hf
     go_enter Tryz.func13, Tryz.ntmps13
     go_upto_region 10 with (first
      | (go_at_call 45; (with_reducible refine (HNm.out _).mono ?_); rintro e w' ⟨rfl, rfl⟩)
      | (go_at_call 46; (with_reducible refine (HA.out _ HW.out).mono ?_); rintro e w' ⟨rfl, rfl⟩)
      | (go_at_call 47; (with_reducible refine HFa.out.mono ?_); rintro e w1 ⟨rfl, hw1, ho1⟩; obtain ⟨g, c, a2, c2, a3, n3, c3, k0, k1, k2, k3, k4, f3, f4, HWd, HFg⟩ := HG.out _ hw1 ho1; clear hw1 ho1))
     go_region_held3 (fun W => W.cell? ⟨r, 0, none⟩ = some (.slice (some ⟨g, 0, none⟩) n c)) (exact k0) (first | (go_at_call 46; (with_reducible refine (HA2.out _ HWd.out).mono ?_); rintro e w' ⟨rfl, rfl⟩))
     go_wp2_with (go_at_call 49; (with_reducible refine (HFg.out _ (by rfl)).mono ?_); rintro e w' ⟨rfl, hQ⟩; have HQ := Lib.hid hQ; clear hQ)
     go_ret
     exact HQ.out
end
end Go.Proofs.YtbkngnjkaledlaaGreat.P4
namespace Go.Proofs.YtbkngnjkaledlaaGreat.P4
open Go Go.RowKit Go.Lib Go.Maps Go.ChangeMaps Go.MapKept P3
def wrM (ws : List RW) (id : Nat) : List (Nat × Nat × ByteArray) := (ws.filter fun x => decide (x.file = id)).map fun x => (x.turn, x.pos, x.data)
def afM (ws : List RW) (f : MF) : AF := ⟨f.now, f.safe, f.made, wrM ws f.id⟩
def nmM (s : ByteArray) : List UInt8 := s.data.toList
def absW (ws : List RW) (fs : List MF) : AL := fs.map fun f => (nmM f.name, afM ws f)
abbrev absM (D : RM) : AL := absW D.ws D.fs
theorem nm_inj {s t : ByteArray} (h : nmM s = nmM t) : s = t := rd_ext h
theorem absW_at {ws : List RW} {fs : List MF} {i : Nat} {f : MF} (h : fs[i]? = some f) : (absW ws fs)[i]? = some (nmM f.name, afM ws f) := by unfold absW; rw [List.getElem?_map, h]; rfl
theorem absW_names (ws : List RW) (fs : List MF) : (absW ws fs).map (·.1) = fs.map fun f => nmM f.name := by unfold absW; rw [List.map_map]; rfl
theorem get_at (ws : List RW) (s : ByteArray) : ∀ fs : List MF, getA (absW ws fs) (nmM s) = (atN fs s).bind fun i => fs[i]?.map (afM ws)
 | [] => rfl
 | f :: fs => by
  have ih := get_at ws s fs
  show getA ((nmM f.name, afM ws f) :: absW ws fs) (nmM s) = _
  unfold atN
  rw [List.findIdx?_cons]
  by_cases h : f.name = s
  ·rw [if_pos (decide_eq_true h), h, getA_self]
   rfl
  ·rw [if_neg (by simpa using h), getA_other (fun e => h (nm_inj e).symm), ih]
   show _ = Option.bind (Option.map _ (atN fs s)) _
   cases atN fs s <;> simp
theorem get_some {ws : List RW} {fs : List MF} {s : ByteArray} {i : Nat} {f : MF} (h : atN fs s = some i) (hf : fs[i]? = some f) : getA (absW ws fs) (nmM s) = some (afM ws f) := by rw [get_at, h]; simp [hf]
theorem get_none {ws : List RW} {fs : List MF} {s : ByteArray} (h : atN fs s = none) : getA (absW ws fs) (nmM s) = none := by rw [get_at, h]; rfl
theorem rest_self {p : List UInt8 × AF} {r : AL} (hn : ((p :: r).map (·.1)).Nodup) : restA r p.1 = r := by
 refine List.filter_eq_self.2 fun q hq => ?_
 have h1 : p.1 ∉ r.map (·.1) := (List.nodup_cons.1 hn).1
 simp only [bne_iff_ne]
 intro e
 exact h1 (List.mem_map.2 ⟨q, hq, e⟩)
theorem name_ne {p : List UInt8 × AF} {r : AL} {i : Nat} {n : List UInt8} {a : AF} (hn : ((p :: r).map (·.1)).Nodup) (h : r[i]? = some (n, a)) : p.1 ≠ n := by
 have h1 : p.1 ∉ r.map (·.1) := (List.nodup_cons.1 hn).1
 intro e
 exact h1 (List.mem_map.2 ⟨(n, a), List.mem_of_getElem? h, e.symm⟩)
theorem set_rest : ∀ {A : AL} {i : Nat} {n : List UInt8} {a a' : AF}, (A.map (·.1)).Nodup → A[i]? = some (n, a) → (A.set i (n, a')).Perm ((n, a') :: restA A n)
 | [], _, _, _, _, _, h => by simp at h
 | p :: r, 0, n, a, a', hn, h => by
  obtain rfl : p = (n, a) := by simpa using h
  have hno : restA r n = r := rest_self hn
  rw [List.set_cons_zero]
  unfold restA at hno ⊢
  rw [List.filter_cons_of_neg (by simp), hno]
 | p :: r, i + 1, n, a, a', hn, h => by
  have h' : r[i]? = some (n, a) := by simpa using h
  have ih := set_rest (a' := a') (List.nodup_cons.1 hn).2 h'
  have hne : p.1 ≠ n := name_ne hn h'
  rw [List.set_cons_succ]
  unfold restA at ih ⊢
  rw [List.filter_cons_of_pos (by simpa using hne)]
  exact (ih.cons p).trans (List.Perm.swap _ _ _)
theorem erase_rest : ∀ {A : AL} {i : Nat} {n : List UInt8} {a : AF}, (A.map (·.1)).Nodup → A[i]? = some (n, a) → A.eraseIdx i = restA A n
 | [], _, _, _, _, h => by simp at h
 | p :: r, 0, n, a, hn, h => by
  obtain rfl : p = (n, a) := by simpa using h
  have hno : restA r n = r := rest_self hn
  unfold restA at hno ⊢
  rw [List.filter_cons_of_neg (by simp), hno]
  rfl
 | p :: r, i + 1, n, a, hn, h => by
  have h' : r[i]? = some (n, a) := by simpa using h
  have ih := erase_rest (List.nodup_cons.1 hn).2 h'
  have hne : p.1 ≠ n := name_ne hn h'
  show p :: r.eraseIdx i = _
  unfold restA at ih ⊢
  rw [List.filter_cons_of_pos (by simpa using hne), ih]
def LastOk (l : List (Nat × Nat × ByteArray)) (now : List ByteArray) : Prop := ∀ a x r, l = a ++ x :: r → (∀ y ∈ r, y.2.1 ≠ x.2.1) → now[x.2.1]? = some x.2.2
structure Inv (D : RM) (t : Nat) : Prop where
 turns : D.ws.Pairwise (fun x y => x.turn < y.turn)
 tmax : ∀ x ∈ D.ws, x.turn ≤ t
 own : ∀ x ∈ D.ws, ∃ f ∈ D.fs, f.id = x.file
 ids : (D.fs.map (·.id)).Nodup
 idm : ∀ f ∈ D.fs, 1 ≤ f.id ∧ f.id ≤ D.ids
 idt : D.ids ≤ t
 redo : ∀ f ∈ D.fs, LastOk (wrM D.ws f.id) f.now
structure Eqv (K : Dk) (D : RM) (ks : List Int) : Prop where
 abs : (absL K.files).Perm (absM D)
 on : D.off = !K.on
 room : K.room = D.room
 armed : K.armed = D.armed
 left : D.armed = true → K.left = D.n ∧ K.keep = ks ∧ 0 ≤ D.n
 calm : D.armed = false → K.left = 0 ∧ K.keep = []
 nle : D.n ≤ 9223372036854775807
 few : K.keep.length ≤ 10000
 inv : Inv D K.turn
section
variable {w : World} {d : Nat} {K : Dk} {D : RM} {ks : List Int}
theorem Eqv.da (h : Eqv K D ks) (hK : DiskAt w d K) : DA w d K (absM D) := ⟨hK, h.abs⟩
theorem Eqv.nodup (h : Eqv K D ks) (hK : DiskAt w d K) : ((absM D).map (·.1)).Nodup := (h.da hK).names
theorem Eqv.len (h : Eqv K D ks) : K.files.length = D.fs.length := by
 have := h.abs.length_eq
 unfold absM absW absL at this
 simpa using this
theorem Eqv.leftle (h : Eqv K D ks) : K.left ≤ 9223372036854775807 := by
 cases ha : D.armed with
 | true => rw [(h.left ha).1]; exact h.nle
 | false => rw [(h.calm ha).1]; decide
theorem Eqv.h0 (h : Eqv K D ks) : D.armed = true → 0 ≤ D.n := fun ha => (h.left ha).2.2
theorem Eqv.get (h : Eqv K D ks) (hK : DiskAt w d K) (s : ByteArray) : (getF K.files s.data.toList).map Fl.abs = (atN D.fs s).bind fun i => D.fs[i]?.map (afM D.ws) := by
 have := (h.da hK).get (nmM s)
 rw [get_at] at this
 exact this
theorem Eqv.getNone (h : Eqv K D ks) (hK : DiskAt w d K) {s : ByteArray} (ha : atN D.fs s = none) : getF K.files s.data.toList = none := by
 have := h.get hK s
 rw [ha] at this
 simpa using this
theorem Eqv.getSome (h : Eqv K D ks) (hK : DiskAt w d K) {s : ByteArray} {i : Nat} {f : MF} (ha : atN D.fs s = some i) (hf : D.fs[i]? = some f) : ∃ F, getF K.files s.data.toList = some F ∧ F.abs = afM D.ws f := by
 have := h.get hK s
 rw [ha] at this
 simp only [Option.bind_some, hf, Option.map_some] at this
 obtain ⟨F, h1, h2⟩ := Option.map_eq_some_iff.1 this
 exact ⟨F, h1, h2⟩
theorem Eqv.size (h : Eqv K D ks) (hK : DiskAt w d K) (s : ByteArray) : sizeN K.files s.data.toList = sizeM D s := by
 cases ha : atN D.fs s with
 | none =>
  rw [sizeM_none ha]
  unfold sizeN
  rw [h.getNone hK ha]
 | some i =>
  obtain ⟨f, hf, _⟩ := atN_some ha
  obtain ⟨F, h1, h2⟩ := h.getSome hK ha hf
  rw [sizeM_some ha hf]
  unfold sizeN
  rw [h1]
  have := congrArg (fun A : AF => A.now.length) h2
  simpa [Fl.abs, afM] using this
theorem on_not {on off : Bool} (h : off = !on) : (on = false ↔ off = true) := by cases on <;> simp [h]
theorem Eqv.errn (h : Eqv K D ks) (s : ByteArray) : P4.errn K.on s.size = if D.off = true then 14 else if nameOk s = false then 1 else 0 := by
 unfold P4.errn
 have e := on_not h.on
 by_cases hoff : D.off = true
 ·rw [if_pos hoff, if_pos (e.2 hoff)]
 ·rw [if_neg hoff, if_neg (fun q => hoff (e.1 q))]
  unfold nameOk
  by_cases hn : 1 ≤ s.size ∧ s.size ≤ 40
  ·rw [if_neg (by omega), if_neg (by simp [hn])]
  ·rw [if_pos (by omega), if_pos (by simp; omega)]
theorem Eqv.errF (h : Eqv K D ks) (hK : DiskAt w d K) (s : ByteArray) : P4.errF K.on s.size (getF K.files s.data.toList) = errR D s := by
 unfold P4.errF errR
 rw [h.errn s]
 by_cases hoff : D.off = true
 ·rw [if_pos hoff, if_pos hoff, if_neg (by decide)]
 ·rw [if_neg hoff, if_neg hoff]
  by_cases hn : nameOk s = false
  ·rw [if_pos hn, if_pos hn, if_neg (by decide)]
  ·rw [if_neg hn, if_neg hn, if_pos rfl]
   cases ha : atN D.fs s with
   | none => rw [h.getNone hK ha]; simp
   | some i =>
    obtain ⟨f, hf, _⟩ := atN_some ha
    obtain ⟨F, h1, h2⟩ := h.getSome hK ha hf
    rw [h1]; simp
end
end Go.Proofs.YtbkngnjkaledlaaGreat.P4
