/-
  Kids: the reference's Text, and its LayKids.
-/
import Derived.Test.YthihjkdankbnjaaGreatT2
import Derived.Test.YthihjkdankbnjaaGreatBase0
namespace Go.Proofs.YthihjkdankbnjaaGreat.P10
open Go Go.RowKit Go.Lib Go.Proofs.YthihjkdankbnjaaGreat.PK
open Go.Proofs.YthihjkdankbnjaaGreat.P0 (low str str_size low_length rLow_any size_app text_ext text_app str_list)

/-- a text, its length ahead of it -/
def textB (s : ByteArray) : ByteArray := str (low 2 s.size) ++ s
theorem textB_size (s : ByteArray) : (textB s).size = 2 + s.size := by rw [textB, size_app, str_size, low_length]
theorem rText_ok (w : World) (s : ByteArray) (h : s.size ≤ 65535) :
    Calls Tryz.prog 29 #[.string s] w fun r w' => r = .returned (.tuple #[.string (textB s), .bool true]) ∧ Below w.heap.size w w' := by
  have H := rLow_any w s.size 2 (by omega) (by omega)
  have hz : (str (low 2 s.size)).size = 2 := by rw [str_size, low_length]
  unfold textB
  generalize str (low 2 s.size) = z at *
  have hz2 : z.size ≤ 2 := by omega
  have HH := Lib.hid H
  have k1 : decide ((65535 : Int) < (s.size : Int)) = false := decide_eq_false (by omega)
  clear H hz
  go_enter Tryz.func29, Tryz.ntmps29
  go_wp2_with (go_at_call 28; refine HH.out.mono ?_; rintro e w1 ⟨rfl, hb⟩)
  go_ret2
  exact ⟨rfl, hb⟩

/-- what is laid of items behind what stands ahead of them -/
def layOn (s : ByteArray) (l : List It) : ByteArray := l.foldl (fun s x => s ++ str (low 2 x.page.toNat) ++ textB x.key) s
theorem layOn_snoc (s : ByteArray) (l : List It) (x : It) : layOn s (l ++ [x]) = layOn s l ++ str (low 2 x.page.toNat) ++ textB x.key := by simp [layOn]
theorem layOn_take {l : List It} {i : Nat} {x : It} (h : l[i]? = some x) (s : ByteArray) : layOn s (l.take (i + 1)) = layOn s (l.take i) ++ str (low 2 x.page.toNat) ++ textB x.key := by
  rw [List.take_add_one, h]
  exact layOn_snoc s _ x
theorem layOn_size (s : ByteArray) (l : List It) : (layOn s l).size = s.size + sumI l := by
  induction l generalizing s with
  | nil => rfl
  | cons x l ih =>
    show (layOn _ l).size = _
    rw [ih, size_app, size_app, textB_size, str_size, low_length, sumI_cons]
    unfold It.need
    omega
/-- the items' bytes -/
def layI (l : List It) : ByteArray := layOn (str (low 1 l.length)) l
theorem layI_size (l : List It) : (layI l).size = 1 + sumI l := by rw [layI, layOn_size, str_size, low_length]
theorem sumI_len (l : List It) : 4 * l.length ≤ sumI l := by
  induction l with
  | nil => exact Nat.le_refl _
  | cons x l ih => rw [sumI_cons, List.length_cons]; unfold It.need; omega
open Classical in
/-- what Lay tells: the bytes, the error -/
noncomputable def layR (l : List It) : ByteArray × Int := if RightI l then (if 1 + sumI l ≤ 232 then (layI l, 0) else (⟨#[]⟩, 2)) else (⟨#[]⟩, 1)

set_option maxRecDepth 100000 in
set_option maxHeartbeats 4000000 in
theorem rlay_ok (w : World) (v : Value) (l : List It) (h : ItsIn w v l) (hr : RightI l) (hs : 1 + sumI l ≤ 232) :
    Calls Tryz.prog 8 #[v] w fun e w' => e = .returned (.tuple #[.string (layI l), .int .i64 0]) ∧ Below w.heap.size w w' := by
  obtain ⟨a, c, rfl⟩ := h.slice
  have hl := sumI_len l
  have HR := Lib.hid (fun W (hb : Below w.heap.size w W) => rright_any W _ l (h.below hb))
  have HZ := Lib.hid (fun W (hb : Below w.heap.size w W) => rsize_any W _ l (h.below hb) (by omega))
  have HA := Lib.hid (fun (i : Nat) (x : It) (hi : l[i]? = some x) => h.at_ hi)
  have HRI := Lib.hid hr
  have HSu := Lib.hid hs
  have HLw : Hid (∀ (W : World) (n : Nat), n < 1000 → Calls Tryz.prog 28 #[.int .u64 n, .int .i64 1] W fun r w' => r = .returned (.string (str (low 1 n))) ∧ Below W.heap.size W w') := fun W n hn => rLow_any W n 1 (by omega) (by omega)
  have HLw2 : Hid (∀ (W : World) (n : Nat), n < 4000 → Calls Tryz.prog 28 #[.int .u64 n, .int .i64 2] W fun r w' => r = .returned (.string (str (low 2 n))) ∧ Below W.heap.size W w') := fun W n hn => rLow_any W n 2 (by omega) (by omega)
  have HTx := Lib.hid (fun W s h => rText_ok W s h)
  have hl2 : l.length ≤ 60 := by omega
  have k1 : decide ((232 : Int) < ((1 + sumI l : Nat) : Int)) = false := decide_eq_false (by omega)
  have k1' : decide ((232 : Int) < 1 + (sumI l : Int)) = false := decide_eq_false (by omega)
  have k1'' : decide (232 < 1 + sumI l) = false := decide_eq_false (by omega)
  have k2 : decide ((255 : Int) < (l.length : Int)) = false := decide_eq_false (by omega)
  have k2' : decide (255 < l.length) = false := decide_eq_false (by omega)
  obtain ⟨z, hz⟩ : ∃ z, z = str (low 1 l.length) := ⟨_, rfl⟩
  have HZe := Lib.hid hz
  clear h hr hs hl hz
  go_enter Tryz.func8, Tryz.ntmps8
  go_wp2_with (first
    | (go_at_call 27; (with_reducible refine (HR.out _ (Below.refl _ _)).mono ?_); rintro e w1 ⟨⟨bb, rfl, hbb⟩, hb⟩; obtain rfl : bb = true := hbb.2 HRI.out; have HB1 := Lib.hid hb; clear hb hbb)
    | (go_at_call 14; (with_reducible refine (HZ.out _ (by first | exact HB1.out | exact HB1.out.drew)).mono ?_); rintro e w2 ⟨rfl, q2, rfl⟩)
    | (go_at_call 28; (with_reducible refine (HLw.out _ _ (by omega)).mono ?_); rintro e w3 ⟨rfl, hb⟩; have HB3 := Lib.hid hb; clear hb))
  have HB4 := Lib.hid (show Below w.heap.size w w3 from thenBelow (w := w1.drewN q2) ⟨HB1.out.os, HB1.out.tape, HB1.out.output, HB1.out.size, HB1.out.block⟩ (by first | exact HB3.out | exact ⟨HB3.out.os, HB3.out.tape, HB3.out.output, HB3.out.size, HB3.out.block⟩))
  clear HB1 HB3
  go_loopw [4, 5] (fun vs vi wr => ∃ (i : Nat) (s : ByteArray), i ≤ l.length ∧ vi = .int .i64 i ∧ vs = .string s ∧ Hid (s = layOn (str (low 1 l.length)) (l.take i)) ∧ s.size ≤ 1000 ∧ Hid (Below w.heap.size w wr)) (fun _ vi _ => l.length - (RowKit.intOf vi).toNat)
  case atStart => exact ⟨0, _, Nat.zero_le _, rfl, rfl, (rfl : layOn _ (l.take 0) = layOn _ (l.take 0)), by rw [str_size, low_length]; omega, HB4⟩
  case round =>
    obtain ⟨i, s, hi, rfl, rfl, HE, hss, HB⟩ := hrel
    by_cases hlt : i < l.length
    · obtain ⟨x, hx⟩ : ∃ x, l[i]? = some x := ⟨_, List.getElem?_eq_getElem hlt⟩
      obtain ⟨b, off, rfl, hc⟩ := HA.out i x hx
      have hok := HRI.out.1.1 i x hlt hx
      have hsm := layOn_take hx (str (low 1 l.length))
      have hsz := layOn_size (str (low 1 l.length)) (l.take (i + 1))
      have hle := sumI_le (l := l) (i + 1)
      have hsu := HSu.out
      rw [str_size, low_length] at hsz
      obtain ⟨key, page⟩ := x
      unfold It.ok at hok
      obtain ⟨o2, o3, o4⟩ := of_decide_eq_true hok
      simp only at o2 o3 o4
      obtain ⟨kn, rfl⟩ := Int.eq_ofNat_of_zero_le (show 0 ≤ page by omega)
      rw [← HE.out] at hsm
      simp only [Int.toNat_natCast] at hsm
      have h1 : (str (low 2 kn)).size = 2 := by rw [str_size, low_length]
      have h2 := textB_size key
      have HC : Hid (∀ W : World, Below w.heap.size w W → W.cell? ⟨b, off + i * 2, none⟩ = some (.string key) ∧ W.cell? ⟨b, off + i * 2 + 1, none⟩ = some (.int .i64 kn)) := hc
      have HSM := Lib.hid hsm
      have HX1 : Hid (∀ W, Calls Tryz.prog 29 #[.string key] W fun r w' => r = .returned (.tuple #[.string (textB key), .bool true]) ∧ Below W.heap.size W w') := fun W => HTx.out W key (by omega)
      have HX3 : Hid (∀ W, Calls Tryz.prog 28 #[.int .u64 kn, .int .i64 2] W fun r w' => r = .returned (.string (str (low 2 kn))) ∧ Below W.heap.size W w') := fun W => HLw2.out W kn (by omega)
      generalize str (low 2 kn) = zk at *
      generalize textB key = zx at *
      have k5 : decide ((i : Int) < (l.length : Int)) = true := decide_eq_true (by omega)
      have k6 : (i : Int) < (l.length : Int) := by omega
      have k7 : (0 : Int) ≤ (i : Int) := by omega
      have k8 : (kn : Int) < 4000 := by omega
      have k9 : (0 : Int) ≤ (kn : Int) := by omega
      have z1 : s.size + zk.size ≤ 1002 := by omega
      have z2 : (s ++ zk).size + zx.size ≤ 2000 := by rw [size_app]; omega
      have z4 : (s ++ zk ++ zx).size ≤ 1000 := by rw [hsm] at hsz; omega
      clear hc hx hok hsm hsz HR HZ HA HLw HLw2 HTx hle hsu o2 o3 o4
      obtain ⟨c0, c1⟩ := HC.out _ HB.out
      go_wp2_with (first
        | (go_at_call 29; (with_reducible refine (HX1.out _).mono ?_); rintro e w5 ⟨rfl, hb⟩; have HB5 := Lib.hid (thenBelow HB.out hb); clear hb c0 c1; obtain ⟨c0, c1⟩ := HC.out _ HB5.out)
        | (go_at_call 28; (with_reducible refine (HX3.out _).mono ?_); rintro e w7 ⟨rfl, hb⟩; have HB7 := Lib.hid (thenBelow HB5.out hb); clear hb c0 c1))
      go_roundw
      case rel => exact ⟨i + 1, _, by omega, by go_num, rfl, HSM.out.symm, z4, HB7⟩
      case measure => simp [RowKit.intOf]; omega
    · have e : i = l.length := by omega
      subst e
      have k5 : decide ((l.length : Int) < (l.length : Int)) = false := decide_eq_false (by omega)
      have HF : Hid (s = layI l) := by
        have := HE.out
        rw [List.take_length] at this
        exact this
      clear HR HZ HA HLw HLw2 HTx
      go_wp2
      go_ret2
      exact ⟨by rw [HF.out]; rfl, HB.out⟩
theorem rlay_bad (w : World) (v : Value) (l : List It) (h : ItsIn w v l) (hr : ¬ RightI l) :
    Calls Tryz.prog 8 #[v] w fun e w' => e = .returned (.tuple #[.string ⟨#[]⟩, .int .i64 1]) ∧ Below w.heap.size w w' := by
  have HR := Lib.hid (rright_any w _ l h)
  have HRI := Lib.hid hr
  clear h hr
  go_enter Tryz.func8, Tryz.ntmps8
  go_wp2_with (go_at_call 27; (with_reducible refine (HR.out).mono ?_); rintro e w1 ⟨⟨bb, rfl, hbb⟩, hb⟩; obtain rfl : bb = false := (Bool.eq_false_iff.2 fun q => HRI.out (hbb.1 q)); have HB1 := Lib.hid hb; clear hb hbb)
  go_ret2
  exact ⟨rfl, HB1.out⟩
theorem rlay_long (w : World) (v : Value) (l : List It) (h : ItsIn w v l) (hr : RightI l) (hs : 232 < 1 + sumI l) (hm : sumI l ≤ 1000000) :
    Calls Tryz.prog 8 #[v] w fun e w' => e = .returned (.tuple #[.string ⟨#[]⟩, .int .i64 2]) ∧ Below w.heap.size w w' := by
  have HR := Lib.hid (rright_any w _ l h)
  have HZ := Lib.hid (fun W (hb : Below w.heap.size w W) => rsize_any W _ l (h.below hb) hm)
  have HRI := Lib.hid hr
  have k1 : decide ((232 : Int) < ((1 + sumI l : Nat) : Int)) = true := decide_eq_true (by omega)
  have k1' : decide ((232 : Int) < 1 + (sumI l : Int)) = true := decide_eq_true (by omega)
  have k1'' : decide (232 < 1 + sumI l) = true := decide_eq_true (by omega)
  obtain ⟨a, c, rfl⟩ := h.slice
  clear h hr hs hm
  go_enter Tryz.func8, Tryz.ntmps8
  go_wp2_with (first
    | (go_at_call 27; (with_reducible refine (HR.out).mono ?_); rintro e w1 ⟨⟨bb, rfl, hbb⟩, hb⟩; obtain rfl : bb = true := hbb.2 HRI.out; have HB1 := Lib.hid hb; clear hb hbb)
    | (go_at_call 14; (with_reducible refine (HZ.out _ (by first | exact HB1.out | exact HB1.out.drew)).mono ?_); rintro e w2 ⟨rfl, q2, rfl⟩))
  go_ret2
  exact ⟨rfl, ⟨HB1.out.os, HB1.out.tape, HB1.out.output, HB1.out.size, HB1.out.block⟩⟩
theorem rlay_any (w : World) (v : Value) (l : List It) (h : ItsIn w v l) (hm : sumI l ≤ 1000000) :
    Calls Tryz.prog 8 #[v] w fun e w' => e = .returned (.tuple #[.string (layR l).1, .int .i64 (layR l).2]) ∧ Below w.heap.size w w' := by
  unfold layR
  by_cases hr : RightI l
  · rw [if_pos hr]
    by_cases hs : 1 + sumI l ≤ 232
    · rw [if_pos hs]; exact rlay_ok w v l h hr hs
    · rw [if_neg hs]; exact rlay_long w v l h hr (by omega) hm
  · rw [if_neg hr]; exact rlay_bad w v l h hr

end Go.Proofs.YthihjkdankbnjaaGreat.P10
