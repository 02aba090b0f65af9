/-
  Texts of the proof of SaidPlay8b.
-/
import Derived.Test.YtbkngnjkaledlaaGreatMp16
set_option maxHeartbeats 8000000
set_option maxRecDepth 100000
namespace Go.Proofs.YtbkngnjkaledlaaGreat.P4
open Go Go.RowKit Go.Lib P3
theorem Txt.cut {w : World} {a : Option Addr} {m c : Nat} {l : List ByteArray} (h : Txt w (.slice a m c) l) (n : Nat) (hn : n ≤ l.length) : Txt w (.slice a n n) (l.take n) := by
 rcases a with _ | a
 ·rcases h with ⟨h, rfl⟩ | ⟨b, c', cur, h0, _⟩
  ·obtain rfl : n = 0 := by simpa using hn
   exact .inl ⟨rfl, rfl⟩
  ·cases h0
 ·rcases h with ⟨h, _⟩ | ⟨b, c', cur, h0, h1, h2, h3, h4⟩
  ·cases h
  ·have e : a = ⟨b, 0, none⟩ := by simp at h0; exact h0.1
   subst e
   exact Txt.take (b := b) (c := c') (.inr ⟨b, c', cur, rfl, h1, h2, h3, h4⟩) n hn
section
variable {lo : Nat} {w w' w'' : World} {r : Nat} {D E F : RM}
def cutErr (D : RM) (s : ByteArray) (z : Int) : Int := if errR D s ≠ 0 then errR D s else if z < 0 ∨ (sizeR D s : Int) < z then 15 else 0
inductive CutR (lo : Nat) (w : World) (r : Nat) (D : RM) (s : ByteArray) (z : Int) (ks : List Int) (e : Ending) (w' : World) : Prop
 | err (h : cutErr D s z ≠ 0) (he : e = .returned (.int .i64 (cutErr D s z))) (hb : Below w.heap.size w w')
 | falls (h : cutErr D s z = 0) (hf : D.fallsB = true) (he : e = .returned (.int .i64 14)) (n : Ending) (w0 : World) (hb : Below w.heap.size w w0) (hc : CrashP lo w0 r D ks n w')
 | done (h : cutErr D s z = 0) (hf : D.fallsB = false) (he : e = .returned (.int .i64 0)) (i n : Nat) (f : MF) (hz : z = n) (hn : n ≤ f.now.length) (hat : atN D.fs s = some i) (hi : D.fs[i]? = some f) (u v1 v2 : Value)
   (hs : RStep lo w r D w' { D.count with fs := D.fs.set i { f with now := f.now.take n, safe := f.safe.take n, nv := v1, sv := v2 }, wv := u, ws := D.ws.filter (keepW f.id n) })
theorem RAt.cut_err1 (h : RAt lo w r D) (s : ByteArray) (z : Int) (ks : List Int) (he : errR D s ≠ 0) :
  Calls Tryz.prog 54 #[.pointer (some ⟨r, 0, none⟩), .string s, .int .i64 z] w (CutR lo w r D s z ks) := by
 have c2 : w.cell? ⟨r, 2, none⟩ = some (.bool D.off) := h.cell 2
 have HNm := Lib.hid (fun W => rdName_any W s)
 have ec : cutErr D s z = errR D s := if_pos he
 have HE := Lib.hid (CutR.err (lo := lo) (w := w) (r := r) (D := D) (s := s) (z := z) (ks := ks) (w' := w) (by rw [ec]; exact he) rfl (Below.refl _ _))
 rw [ec] at HE
 cases ho : D.off with
 | true =>
  have e1 : errR D s = 14 := if_pos ho
  rw [e1] at HE
  rw [ho] at c2
  clear h ho e1 he ec
  go_enter Tryz.func54, Tryz.ntmps54
  go_wp2
  go_ret
  exact HE.out
 | false =>
  rw [ho] at c2
  cases hnm : nameOk s with
  | false =>
   have e1 : errR D s = 1 := by unfold errR; rw [if_neg (by simp [ho]), if_pos hnm]
   rw [e1] at HE
   rw [hnm] at HNm
   clear h ho e1 hnm he ec
   go_enter Tryz.func54, Tryz.ntmps54
   go_wp2_with (go_at_call 45; (with_reducible refine (HNm.out _).mono ?_); rintro e w' ⟨rfl, rfl⟩)
   go_ret
   exact HE.out
  | true =>
   rw [hnm] at HNm
   cases hat : atN D.fs s with
   | none =>
    have e1 : errR D s = 8 := by unfold errR; rw [if_neg (by simp [ho]), if_neg (by simp [hnm]), if_pos hat]
    rw [e1] at HE
    have HA := Lib.hid (h.atNone s hat w h)
    clear h ho e1 hnm hat he ec
    go_enter Tryz.func54, Tryz.ntmps54
    go_wp2_with (first
     | (go_at_call 45; (with_reducible refine (HNm.out _).mono ?_); rintro e w' ⟨rfl, rfl⟩)
     | (go_at_call 46; (with_reducible refine HA.out.mono ?_); rintro e w' ⟨rfl, rfl⟩))
    go_ret
    exact HE.out
   | some i =>
    exact absurd (by unfold errR; rw [if_neg (by simp [ho]), if_neg (by simp [hnm]), if_neg (by simp [hat])]) he
theorem errR_zero {s : ByteArray} (h : errR D s = 0) : D.off = false ∧ nameOk s = true ∧ ∃ i f, atN D.fs s = some i ∧ D.fs[i]? = some f ∧ f.name = s := by
 unfold errR at h
 cases ho : D.off with
 | true => rw [if_pos ho] at h; cases h
 | false =>
  rw [if_neg (by simp [ho])] at h
  cases hn : nameOk s with
  | false => rw [if_pos hn] at h; cases h
  | true =>
   rw [if_neg (by simp [hn])] at h
   cases ha : atN D.fs s with
   | none => rw [if_pos ha] at h; cases h
   | some i =>
    obtain ⟨f, hf, hfn⟩ := atN_some ha
    exact ⟨rfl, rfl, i, f, rfl, hf, hfn⟩
theorem RAt.cut_ (h : RAt lo w r D) (s : ByteArray) (z : Int) (ks : List Int) (h0 : D.armed = true → 0 ≤ D.n) (h1 : D.n ≤ 9223372036854775807) (hids : ∀ f ∈ D.fs, f.id ≤ 1000000) (hbig : ∀ x ∈ D.ws, x.file ≤ 1000000 ∧ x.pos ≤ 1000000) (hkv : ∃ a m c, D.kv = .slice a m c)
  (HCr : D.off = false → ∀ W, RAt lo W r D → Fr (D.own r) w W → Calls Tryz.prog 48 #[.pointer (some ⟨r, 0, none⟩), D.kv] W (CrashP lo W r D ks)) :
  Calls Tryz.prog 54 #[.pointer (some ⟨r, 0, none⟩), .string s, .int .i64 z] w (CutR lo w r D s z ks) := by
 by_cases he : errR D s = 0
 ·obtain ⟨ho, hnm, i, f, hat, hf, _⟩ := errR_zero he
  replace HCr := HCr ho
  have c2 : w.cell? ⟨r, 2, none⟩ = some (.bool false) := by rw [← ho]; exact h.cell 2
  have HNm := Lib.hid (fun W => rdName_any W s)
  rw [hnm] at HNm
  have esz : sizeR D s = f.now.length := by unfold sizeR; rw [if_pos he, hat]; simp [hf]
  have hd : Below w.heap.size w w.drew := (Below.refl _ _).drew
  have hwd := h.below hd
  have HA := Lib.hid (h.atSome s hat)
  have HW := Lib.hid h
  have HWd := Lib.hid hwd
  have HFa := Lib.hid (hwd.falls h0 h1)
  obtain ⟨a, c, hv, hcl, hcell⟩ := h.files
  obtain ⟨g, rfl, hg, hcc⟩ := hcell i f hf
  have htx := h.txt f (List.mem_of_getElem? hf)
  obtain ⟨a2, c2', e2, hle2, hmx2, _⟩ := htx.1.shape
  obtain ⟨a3, c3, e3, hle3, hmx3, _⟩ := htx.2.shape
  have hll := h.long f (List.mem_of_getElem? hf)
  have l0 : w.cell? ⟨r, 0, none⟩ = some (.slice (some ⟨g, 0, none⟩) D.fs.length c) := by rw [← hv]; exact h.cell 0
  have l2 : w.cell? ⟨g, i * 6 + 2, none⟩ = some (.slice a2 f.now.length c2') := by rw [← e2]; exact hcc 2 _ rfl
  have hil := (List.getElem?_eq_some_iff.1 hf).1
  have hfew := h.few
  have j0 : (0 : Int) ≤ (i : Int) := by omega
  have j1 : (i : Int) < (D.fs.length : Int) := by omega
  have RG : ∀ x : Int, cutErr D s x = if x < 0 ∨ (f.now.length : Int) < x then 15 else 0 := fun x => by unfold cutErr; rw [if_neg (by simp [he]), esz]
  by_cases hz0 : z < 0
  ·have ec := RG z
   rw [if_pos (.inl hz0)] at ec
   have HE := Lib.hid (fun w' (hb : Below w.heap.size w w') => CutR.err (lo := lo) (w := w) (r := r) (D := D) (s := s) (z := z) (ks := ks) (w' := w') (by rw [ec]; decide) rfl hb)
   rw [ec] at HE
   have b1 : decide (z < 0) = true := decide_eq_true hz0
   generalize D.fs.length = n at l0 hil hfew j1
   generalize f.now.length = m at l2
   have HD := Lib.hid hd
   clear h ho he hnm hat HCr hids hbig h0 h1 ec RG hkv hf hd hwd hv hcl hcell hcc htx e2 e3 hll esz hle2 hle3 hg
   go_enter Tryz.func54, Tryz.ntmps54
   go_upto_region 7 with (first
    | (go_at_call 45; (with_reducible refine (HNm.out _).mono ?_); rintro e w' ⟨rfl, rfl⟩)
    | (go_at_call 46; (with_reducible refine (HA.out _ HW.out).mono ?_); rintro e w' ⟨rfl, rfl⟩))
   go_region_held3 (fun W => W.cell? ⟨r, 0, none⟩ = some (.slice (some ⟨g, 0, none⟩) n c)) (exact l0) (first | (go_at_call 46; (with_reducible refine (HA.out _ HWd.out).mono ?_); rintro e w' ⟨rfl, rfl⟩))
   go_wp2
   go_ret
   exact HE.out _ HD.out
  ·obtain ⟨q, rfl⟩ : ∃ q : Nat, z = q := ⟨z.toNat, by omega⟩
   by_cases hz1 : f.now.length < q
   ·have ec := RG q
    rw [if_pos (.inr (by omega))] at ec
    have HE := Lib.hid (fun w' (hb : Below w.heap.size w w') => CutR.err (lo := lo) (w := w) (r := r) (D := D) (s := s) (z := q) (ks := ks) (w' := w') (by rw [ec]; decide) rfl hb)
    rw [ec] at HE
    have b1 : decide ((q : Int) < 0) = false := decide_eq_false hz0
    have b2 : decide ((f.now.length : Int) < (q : Int)) = true := decide_eq_true (by omega)
    have b2' : decide (f.now.length < q) = true := decide_eq_true hz1
    generalize D.fs.length = n at l0 hil hfew j1
    generalize f.now.length = m at l2 b2 b2'
    have HD := Lib.hid hd
    clear h ho he hnm hat HCr hids hbig h0 h1 ec RG hkv hf hd hwd hv hcl hcell hcc htx e2 e3 hll esz hle2 hle3 hg hz1 hz0
    go_enter Tryz.func54, Tryz.ntmps54
    go_upto_region 7 with (first
     | (go_at_call 45; (with_reducible refine (HNm.out _).mono ?_); rintro e w' ⟨rfl, rfl⟩)
     | (go_at_call 46; (with_reducible refine (HA.out _ HW.out).mono ?_); rintro e w' ⟨rfl, rfl⟩))
    go_region_held3 (fun W => W.cell? ⟨r, 0, none⟩ = some (.slice (some ⟨g, 0, none⟩) n c)) (exact l0) (first | (go_at_call 46; (with_reducible refine (HA.out _ HWd.out).mono ?_); rintro e w' ⟨rfl, rfl⟩))
    go_wp2
    go_ret
    exact HE.out _ HD.out
   ·have ec := RG q
    rw [if_neg (by omega)] at ec
    have b1 : decide ((q : Int) < 0) = false := decide_eq_false hz0
    have b2 : decide ((f.now.length : Int) < (q : Int)) = false := decide_eq_false (by omega)
    have b2' : decide (f.now.length < q) = false := decide_eq_false hz1
    cases hfa : D.fallsB with
    | true =>
     rw [hfa, count_falls hfa] at HFa
     have HDf : Hid (Fr (D.own r) w w.drew) := Fr.of hd
     have HCr' := Lib.hid (fun W (hW : RAt lo W r D) (hF : Fr (D.own r) w W) => HCr W hW hF)
     have HE := Lib.hid (fun w1 (h1 : RAt lo w1 r D) (o : Only r w.drew w1) n w' (hc : CrashP lo w1 r D ks n w') => CutR.falls (lo := lo) (w := w) (r := r) (D := D) (s := s) (z := q) (ks := ks) (e := .returned (.int .i64 14)) (w' := w') ec hfa rfl n w.drew hd (by
      obtain ⟨E, q1, q2, q3⟩ := hc
      exact ⟨E, q1, (by have := RStep.count hwd (by rw [count_falls hfa]; exact h1) o; rw [count_falls hfa] at this; exact this.trans q2), q3⟩))
     obtain ⟨ka, km, kc, ekv⟩ := hkv
     have HKv := Lib.hid (fun W (hW : RAt lo W r D) => (show W.cell? ⟨r, 6, none⟩ = some (.slice ka km kc) from by rw [← ekv]; exact hW.cell 6))
     rw [ekv] at HCr'
     generalize D.fs.length = n at l0 hil hfew j1
     generalize f.now.length = m at l2 b2 b2'
     clear h ho he hnm hat HCr hids hbig h0 h1 ec RG hf hd hwd hv hcl hcell hcc htx e2 e3 hll esz hle2 hle3 hg hz1 hz0 ekv hfa
     go_enter Tryz.func54, Tryz.ntmps54
     go_upto_region 7 with (first
      | (go_at_call 45; (with_reducible refine (HNm.out _).mono ?_); rintro e w' ⟨rfl, rfl⟩)
      | (go_at_call 46; (with_reducible refine (HA.out _ HW.out).mono ?_); rintro e w' ⟨rfl, rfl⟩))
     go_region_held3 (fun W => W.cell? ⟨r, 0, none⟩ = some (.slice (some ⟨g, 0, none⟩) n c)) (exact l0) (first | (go_at_call 46; (with_reducible refine (HA.out _ HWd.out).mono ?_); rintro e w' ⟨rfl, rfl⟩))
     go_wp2_with (first
      | (go_at_call 47; (with_reducible refine HFa.out.mono ?_); rintro e w1 ⟨rfl, hw1, ho1⟩; have HW1 := Lib.hid hw1; have HO1 := Lib.hid ho1; have HF1 : Hid (Fr (D.own r) w w1) := HDf.out.trans (Fr.only HO1.out (.inl rfl)); clear hw1 ho1; have kv6 := HKv.out _ HW1.out)
      | (go_at_call 48; (with_reducible refine (HCr'.out _ HW1.out HF1.out).mono ?_); intro e w2 hc; have HC2 := Lib.hid (HE.out _ HW1.out HO1.out _ _ hc); obtain ⟨E9, rfl, -, -⟩ := hc))
     go_ret
     exact HC2.out
    | false =>
     rw [hfa] at HFa
     obtain ⟨q1, q2, q3, q4, q5⟩ := count_fs D
     have HE := Lib.hid (fun w' u v1 v2 hs => CutR.done (lo := lo) (w := w) (r := r) (w' := w') (ks := ks) (z := q) (e := .returned (.int .i64 0)) ec hfa rfl i q f rfl (by omega) hat hf u v1 v2 hs)
     have hidf := hids f (List.mem_of_getElem? hf)
     obtain ⟨C, hC⟩ : ∃ C, C = D.count := ⟨_, rfl⟩
     rw [← hC] at q1 q2 q3 q4 q5 HE HFa
     -- behind falls
     have HG : Hid (∀ w1, RAt lo w1 r C → Only r w.drew w1 → w1.cell? ⟨g, i * 6 + 1, none⟩ = some (.int .i64 f.id) ∧ w1.cell? ⟨g, i * 6 + 2, none⟩ = some (.slice a2 f.now.length c2') ∧ w1.cell? ⟨g, i * 6 + 3, none⟩ = some (.slice a3 f.safe.length c3) ∧ w1.frozen? ⟨g, i * 6 + 2, none⟩ = false ∧ w1.frozen? ⟨g, i * 6 + 3, none⟩ = false ∧
       Hid (∀ W, (q < f.safe.length → W = ((w1.setCell ⟨g, i * 6 + 2, none⟩ (.slice a2 q q)).setCell ⟨g, i * 6 + 3, none⟩ (.slice a3 q q))) → (¬ q < f.safe.length → W = w1.setCell ⟨g, i * 6 + 2, none⟩ (.slice a2 q q)) → Calls Tryz.prog 49 #[.pointer (some ⟨r, 0, none⟩), .int .i64 f.id, .int .i64 q] W fun e w' => e = .returned (.tuple #[]) ∧ CutR lo w r D s q ks (.returned (.int .i64 0)) w')) := by
      intro w1 hw1 ho1
      have hi1 : C.fs[i]? = some f := by rw [q1]; exact hf
      have hg1 : C.lv.ownBlock = some g := by rw [q4]; exact hg
      obtain ⟨a', c', hv', hcl', hcell'⟩ := hw1.files
      obtain ⟨g', e', hg', hcc'⟩ := hcell' i f hi1
      obtain rfl : g' = g := by rw [hg1] at hg'; exact (Option.some.inj hg').symm
      have ht := hw1.txt f (List.mem_of_getElem? hi1)
      have ht2 := ht.1
      have ht3 := ht.2
      rw [e2] at ht2
      rw [e3] at ht3
      obtain ⟨_, cur, hblk⟩ := owned_at hw1.lrow hg1
      have hst : RStep lo w r D w1 C := (RStep.below h hd).trans (by rw [hC]; exact RStep.count hwd (hC ▸ hw1) ho1)
      have hl := hll
      have t2 := ht2.cut q (by omega)
      have fo2 : ∀ k, (Value.slice a2 q q).ownBlock = some k → f.nv.ownBlock = some k := fun k hk => by
       rw [e2]
       cases a2 <;> exact hk
      have fo3 : ∀ k, (Value.slice a3 q q).ownBlock = some k → f.sv.ownBlock = some k := fun k hk => by
       rw [e3]
       cases a3 <;> exact hk
      have s1 := hw1.setF (f' := { f with now := f.now.take q, nv := .slice a2 q q }) (j := 2) (u := .slice a2 q q) (Below.refl _ _) hi1 hg1 (by decide) rfl ⟨t2, ht.2⟩ ⟨by show (f.now.take q).length ≤ 4001; rw [List.length_take]; omega, hl.2⟩
       (fun k hk => .inl (.inr ⟨f, List.mem_of_getElem? hi1, hk.imp (fo2 k) id⟩))
      have hi2 : (C.fs.set i { f with now := f.now.take q, nv := .slice a2 q q })[i]? = some { f with now := f.now.take q, nv := .slice a2 q q } := by
       rw [List.getElem?_set, if_pos rfl, if_pos (List.getElem?_eq_some_iff.1 hi1).1]
      refine ⟨hcc' 1 _ rfl, by rw [← e2]; exact hcc' 2 _ rfl, by rw [← e3]; exact hcc' 3 _ rfl, free_at hblk _, free_at hblk _, fun W hW1 hW2 => ?_⟩
      have hfin : ∃ v1 v2, RStep lo w r D W { C with fs := C.fs.set i { f with now := f.now.take q, safe := f.safe.take q, nv := v1, sv := v2 } } := by
       by_cases hsq : q < f.safe.length
       ·rw [hW1 hsq]
        have tt := s1.at'.txt _ (List.mem_of_getElem? hi2)
        have t3 := tt.2
        have t3' : Txt (w1.setCell ⟨g', i * 6 + 2, none⟩ (.slice a2 q q)) (.slice a3 f.safe.length c3) f.safe := by rw [← e3]; exact t3
        have s2 := s1.at'.setF (f' := { f with now := f.now.take q, safe := f.safe.take q, nv := .slice a2 q q, sv := .slice a3 q q }) (j := 3) (u := .slice a3 q q) (Below.refl _ _) hi2 hg1 (by decide) rfl ⟨tt.1, t3'.cut q (by omega)⟩
         ⟨by show (f.now.take q).length ≤ 4001; rw [List.length_take]; omega, by show (f.safe.take q).length ≤ 4001; rw [List.length_take]; omega⟩
         (fun k hk => .inl (.inr ⟨_, List.mem_of_getElem? hi2, hk.imp id (fo3 k)⟩))
        have h9 := hst.trans (s1.trans s2)
        simp only [List.set_set] at h9
        exact ⟨_, _, h9⟩
       ·rw [hW2 hsq]
        have h9 := hst.trans s1
        have e9 : f.safe.take q = f.safe := List.take_of_length_le (by omega)
        rw [e9]
        exact ⟨_, f.sv, h9⟩
      obtain ⟨v1, v2, hfin⟩ := hfin
      refine (hfin.at'.forget f.id q hidf (by omega) (by show ∀ x ∈ C.ws, _; rw [q2]; exact hbig)).mono ?_
      rintro e w' ⟨h1, u, hu⟩
      refine ⟨h1, HE.out w' u v1 v2 ?_⟩
      have h2 := hfin.trans hu
      rw [← q1, ← q2]
      exact h2
     have hqn : q ≤ f.now.length := by omega
     have hq4 : q ≤ 4001 := by omega
     have hqc : q ≤ c2' := by omega
     have HA2 : Hid (∀ W, RAt lo W r C → Calls Tryz.prog 46 #[.pointer (some ⟨r, 0, none⟩), .string s] W fun e w' => e = .returned (.int .i64 i) ∧ W = w') := fun W hW => hW.atSome s (by rw [q1]; exact hat) W hW
     generalize D.fs.length = n at l0 hil hfew j1
     by_cases hsq : q < f.safe.length
     ·have b3 : decide ((q : Int) < (f.safe.length : Int)) = true := decide_eq_true (by omega)
      have b3' : decide (q < f.safe.length) = true := decide_eq_true hsq
      have hqc3 : q ≤ c3 := by omega
      have HSq := Lib.hid hsq
      clear h ho he hnm hat HCr hids hbig h0 h1 HE hC q1 q2 q3 q4 q5 hkv hidf hf ec RG hd hwd hv hcl hcell hcc htx e2 e3 hll esz hle2 hle3 hg hz1 hz0 hfa hsq
      go_enter Tryz.func54, Tryz.ntmps54
      go_upto_region 7 with (first
       | (go_at_call 45; (with_reducible refine (HNm.out _).mono ?_); rintro e w' ⟨rfl, rfl⟩)
       | (go_at_call 46; (with_reducible refine (HA.out _ HW.out).mono ?_); rintro e w' ⟨rfl, rfl⟩))
      go_region_held3 (fun W => W.cell? ⟨r, 0, none⟩ = some (.slice (some ⟨g, 0, none⟩) n c)) (exact l0) (first | (go_at_call 46; (with_reducible refine (HA.out _ HWd.out).mono ?_); rintro e w' ⟨rfl, rfl⟩))
      go_wp2_with (first
       | (go_at_call 47; (with_reducible refine HFa.out.mono ?_); rintro e w1 ⟨rfl, hw1, ho1⟩; obtain ⟨k1, k2, k3, f2, f3, HFg⟩ := HG.out _ hw1 ho1; clear hw1 ho1)
       | (go_at_call 49; (with_reducible refine (HFg.out _ (fun _ => by rfl) (fun q9 => absurd HSq.out q9)).mono ?_); rintro e w' ⟨rfl, hQ⟩; have HQ := Lib.hid hQ; clear hQ))
      go_ret
      exact HQ.out
     ·have b3 : decide ((q : Int) < (f.safe.length : Int)) = false := decide_eq_false (by omega)
      have b3' : decide (q < f.safe.length) = false := decide_eq_false hsq
      have HSq := Lib.hid hsq
      clear h ho he hnm hat HCr hids hbig h0 h1 HE hC q1 q2 q3 q4 q5 hkv hidf hf ec RG hd hwd hv hcl hcell hcc htx e2 e3 hll esz hle2 hle3 hg hz1 hz0 hfa hsq
      go_enter Tryz.func54, Tryz.ntmps54
      go_upto_region 7 with (first
       | (go_at_call 45; (with_reducible refine (HNm.out _).mono ?_); rintro e w' ⟨rfl, rfl⟩)
       | (go_at_call 46; (with_reducible refine (HA.out _ HW.out).mono ?_); rintro e w' ⟨rfl, rfl⟩))
      go_region_held3 (fun W => W.cell? ⟨r, 0, none⟩ = some (.slice (some ⟨g, 0, none⟩) n c)) (exact l0) (first | (go_at_call 46; (with_reducible refine (HA.out _ HWd.out).mono ?_); rintro e w' ⟨rfl, rfl⟩))
      go_wp2_with (first
       | (go_at_call 47; (with_reducible refine HFa.out.mono ?_); rintro e w1 ⟨rfl, hw1, ho1⟩; obtain ⟨k1, k2, k3, f2, f3, HFg⟩ := HG.out _ hw1 ho1; clear hw1 ho1)
       | (go_at_call 49; (with_reducible refine (HFg.out _ (fun q9 => absurd q9 HSq.out) (fun _ => by rfl)).mono ?_); rintro e w' ⟨rfl, hQ⟩; have HQ := Lib.hid hQ; clear hQ))
      go_ret
      exact HQ.out
 ·exact h.cut_err1 s z ks he
end
end Go.Proofs.YtbkngnjkaledlaaGreat.P4
namespace Go.Proofs.YtbkngnjkaledlaaGreat.P4
open Go Go.RowKit Go.Lib P3
section
variable {lo : Nat} {w w' w'' : World} {r : Nat} {D E F : RM}
inductive RmR (lo : Nat) (w : World) (r : Nat) (D : RM) (s : ByteArray) (ks : List Int) (e : Ending) (w' : World) : Prop
 | err (h : errR D s ≠ 0) (he : e = .returned (.int .i64 (errR D s))) (hb : Below w.heap.size w w')
 | falls (h : errR D s = 0) (hf : D.fallsB = true) (he : e = .returned (.int .i64 14)) (n : Ending) (hc : CrashP lo w r D ks n w')
 | done (h : errR D s = 0) (hf : D.fallsB = false) (he : e = .returned (.int .i64 0)) (i : Nat) (f : MF) (hat : atN D.fs s = some i) (hi : D.fs[i]? = some f) (u v : Value) (hs : RStep lo w r D w' (D.count.rm i f u v))
theorem RAt.remove (h : RAt lo w r D) (s : ByteArray) (ks : List Int) (h0 : D.armed = true → 0 ≤ D.n) (h1 : D.n ≤ 9223372036854775807) (hids : ∀ f ∈ D.fs, f.id ≤ 1000000) (hbig : ∀ x ∈ D.ws, x.file ≤ 1000000 ∧ x.pos ≤ 1000000) (hkv : ∃ a m c, D.kv = .slice a m c)
  (HCr : D.off = false → ∀ W, RAt lo W r D → Fr (D.own r) w W → Calls Tryz.prog 48 #[.pointer (some ⟨r, 0, none⟩), D.kv] W (CrashP lo W r D ks)) :
  Calls Tryz.prog 58 #[.pointer (some ⟨r, 0, none⟩), .string s] w (RmR lo w r D s ks) := by
 have c2 : w.cell? ⟨r, 2, none⟩ = some (.bool D.off) := h.cell 2
 have HNm := Lib.hid (fun W => rdName_any W s)
 cases ho : D.off with
 | true =>
  have e1 : errR D s = 14 := if_pos ho
  have HE := Lib.hid (RmR.err (lo := lo) (w := w) (r := r) (D := D) (s := s) (ks := ks) (w' := w) (by rw [e1]; decide) rfl (Below.refl _ _))
  rw [e1] at HE
  rw [ho] at c2
  clear h ho e1 HCr hids hbig
  go_enter Tryz.func58, Tryz.ntmps58
  go_wp2
  go_ret
  exact HE.out
 | false =>
  replace HCr := HCr ho
  rw [ho] at c2
  cases hnm : nameOk s with
  | false =>
   have e1 : errR D s = 1 := by unfold errR; rw [if_neg (by simp [ho]), if_pos hnm]
   have HE := Lib.hid (RmR.err (lo := lo) (w := w) (r := r) (D := D) (s := s) (ks := ks) (w' := w) (by rw [e1]; decide) rfl (Below.refl _ _))
   rw [e1] at HE
   rw [hnm] at HNm
   clear h ho e1 hnm HCr hids hbig
   go_enter Tryz.func58, Tryz.ntmps58
   go_wp2_with (go_at_call 45; (with_reducible refine (HNm.out _).mono ?_); rintro e w' ⟨rfl, rfl⟩)
   go_ret
   exact HE.out
  | true =>
   rw [hnm] at HNm
   cases hat : atN D.fs s with
   | none =>
    have e1 : errR D s = 8 := by unfold errR; rw [if_neg (by simp [ho]), if_neg (by simp [hnm]), if_pos hat]
    have HE := Lib.hid (RmR.err (lo := lo) (w := w) (r := r) (D := D) (s := s) (ks := ks) (w' := w) (by rw [e1]; decide) rfl (Below.refl _ _))
    rw [e1] at HE
    have HA := Lib.hid (h.atNone s hat w h)
    clear h ho e1 hnm hat HCr hids hbig
    go_enter Tryz.func58, Tryz.ntmps58
    go_wp2_with (first
     | (go_at_call 45; (with_reducible refine (HNm.out _).mono ?_); rintro e w' ⟨rfl, rfl⟩)
     | (go_at_call 46; (with_reducible refine HA.out.mono ?_); rintro e w' ⟨rfl, rfl⟩))
    go_ret
    exact HE.out
   | some i =>
    have e1 : errR D s = 0 := by unfold errR; rw [if_neg (by simp [ho]), if_neg (by simp [hnm]), if_neg (by simp [hat])]
    have HA := Lib.hid (h.atSome s hat)
    have HW := Lib.hid h
    have HFa := Lib.hid (h.falls h0 h1)
    cases hfa : D.fallsB with
    | true =>
     rw [hfa, count_falls hfa] at HFa
     have HCr' := Lib.hid (fun W (hW : RAt lo W r D) (hF : Fr (D.own r) w W) => HCr W hW hF)
     have HE := Lib.hid (fun w1 (h1 : RAt lo w1 r D) (o : Only r w w1) n w' (hc : CrashP lo w1 r D ks n w') => RmR.falls (lo := lo) (w := w) (r := r) (D := D) (s := s) (ks := ks) (e := .returned (.int .i64 14)) (w' := w') e1 hfa rfl n (by
      obtain ⟨E, q1, q2, q3⟩ := hc
      exact ⟨E, q1, (by have := RStep.count h (by rw [count_falls hfa]; exact h1) o; rw [count_falls hfa] at this; exact this.trans q2), q3⟩))
     obtain ⟨ka, km, kc, ekv⟩ := hkv
     have HKv := Lib.hid (fun W (hW : RAt lo W r D) => (show W.cell? ⟨r, 6, none⟩ = some (.slice ka km kc) from by rw [← ekv]; exact hW.cell 6))
     rw [ekv] at HCr'
     clear ekv
     clear h ho e1 hnm hat HCr hids hbig hfa h0 h1
     go_enter Tryz.func58, Tryz.ntmps58
     go_wp2_with (first
      | (go_at_call 45; (with_reducible refine (HNm.out _).mono ?_); rintro e w' ⟨rfl, rfl⟩)
      | (go_at_call 46; (with_reducible refine (HA.out _ HW.out).mono ?_); rintro e w' ⟨rfl, rfl⟩)
      | (go_at_call 47; (with_reducible refine HFa.out.mono ?_); rintro e w1 ⟨rfl, hw1, ho1⟩; have HW1 := Lib.hid hw1; have HO1 := Lib.hid ho1; have HF1 : Hid (Fr (D.own r) w w1) := Fr.only HO1.out (.inl rfl); clear hw1 ho1; have kv6 := HKv.out _ HW1.out)
      | (go_at_call 48; (with_reducible refine (HCr'.out _ HW1.out HF1.out).mono ?_); intro e w2 hc; have HC2 := Lib.hid (HE.out _ HW1.out HO1.out _ _ hc); obtain ⟨E9, rfl, -, -⟩ := hc))
     go_ret
     exact HC2.out
    | false =>
     rw [hfa] at HFa
     obtain ⟨f, hf, _⟩ := atN_some hat
     obtain ⟨q1, q2, q3, q4, q5⟩ := count_fs D
     have HE := Lib.hid (fun w' u v (hs : RStep lo w r D w' (D.count.rm i f u v)) => RmR.done (ks := ks) (e := .returned (.int .i64 0)) e1 hfa rfl i f hat hf u v hs)
     have hidf := hids f (List.mem_of_getElem? hf)
     have hil := (List.getElem?_eq_some_iff.1 hf).1
     have hfew := h.few
     obtain ⟨C, hC⟩ : ∃ C, C = D.count := ⟨_, rfl⟩
     rw [← hC] at q1 q2 q3 q4 q5 HE HFa
     have HR : Hid (∀ w1, RAt lo w1 r C → Only r w w1 → Calls Tryz.prog 101 #[.pointer (some ⟨r, 0, none⟩), .int .i64 i] w1 fun e w' => e = .returned (.tuple #[]) ∧ RmR lo w r D s ks (.returned (.int .i64 0)) w') := by
      intro w1 hw1 ho1
      have hst : RStep lo w r D w1 C := by rw [hC]; exact RStep.count h (hC ▸ hw1) ho1
      refine (hw1.rm i f (by rw [q1]; exact hf) hidf (by rw [q2]; exact hbig)).mono ?_
      rintro e w' ⟨h1, u, v, hu⟩
      exact ⟨h1, HE.out w' u v (hst.trans hu)⟩
     have HA2 : Hid (∀ W, RAt lo W r C → Calls Tryz.prog 46 #[.pointer (some ⟨r, 0, none⟩), .string s] W fun e w' => e = .returned (.int .i64 i) ∧ W = w') := fun W hW => hW.atSome s (by rw [q1]; exact hat) W hW
     clear h ho e1 hnm hat HCr hids hbig hfa h0 h1 HE hC q1 q2 q3 q4 q5 hkv hidf hf hil hfew
     go_enter Tryz.func58, Tryz.ntmps58
     go_wp2_with (first
      | (go_at_call 45; (with_reducible refine (HNm.out _).mono ?_); rintro e w' ⟨rfl, rfl⟩)
      | (go_at_call 46; (with_reducible refine (HA.out _ HW.out).mono ?_); rintro e w' ⟨rfl, rfl⟩)
      | (go_at_call 47; (with_reducible refine HFa.out.mono ?_); rintro e w1 ⟨rfl, hw1, ho1⟩; have HRm := Lib.hid (HR.out _ hw1 ho1); have HA3 := Lib.hid (HA2.out _ hw1); clear hw1 ho1)
      | (go_at_call 46; (with_reducible refine HA3.out.mono ?_); rintro e w' ⟨rfl, rfl⟩)
      | (go_at_call 101; (with_reducible refine HRm.out.mono ?_); rintro e w' ⟨rfl, hQ⟩; have HQ := Lib.hid hQ; clear hQ))
     go_ret
     exact HQ.out
end
end Go.Proofs.YtbkngnjkaledlaaGreat.P4
