/-
  Package twig: Lay.
-/
import Derived.Test.YthihjkdankbnjaaGreatX1
import Derived.Test.YthihjkdankbnjaaGreatT3
import Derived.Test.YthihjkdankbnjaaGreatPkByte
import Derived.Test.YthihjkdankbnjaaGreatPkHalf
import Derived.Test.YthihjkdankbnjaaGreatPkText
import Derived.Test.YthihjkdankbnjaaGreatPkEnd
namespace Go.Proofs.YthihjkdankbnjaaGreat.P10
open Go Go.RowKit Go.Lib Go.Proofs.YthihjkdankbnjaaGreat.PK
open Go.Proofs.YthihjkdankbnjaaGreat.P0 (low str str_size low_length size_app text_ext text_app str_list)
open Go.Proofs.YthihjkdankbnjaaGreat.PP (PutIs PutOwn PutNew stepN stepN_fits putByte_any putHalf_any putText_any putEnd_ok Fr)

/-- the Put in block B holds the bytes xs -/
structure LS (w0 : World) (B : Nat) (xs : List UInt8) (w : World) : Prop where
  put : PutIs w B xs 0
  lo : w0.heap.size ≤ B
  below : Below w0.heap.size w0 w
/-- .. beside it an item, in block X -/
structure LX (w0 : World) (B X : Nat) (x : It) (xs : List UInt8) (w : World) : Prop where
  s : LS w0 B xs w
  it : w.heap[X]? = some (.cells #[.string x.key, .int .i64 x.page] 50 (0, 0))
  ne : X ≠ B
theorem LS.over {w0 w w' : World} {B : Nat} {xs : List UInt8} (h : LS w0 B xs w) (k : Below w.heap.size w w') : LS w0 B xs w' := ⟨h.put.below k, h.lo, thenBelow h.below k⟩
theorem LS.item {w0 w : World} {B : Nat} {xs : List UInt8} (h : LS w0 B xs w) (x : It) : LX w0 B w.heap.size x xs (w.alloc (.cells #[.string x.key, .int .i64 x.page] 50)) :=
  ⟨h.over (below_new _ _), new_at w _ _, by have := h.put.lt; omega⟩
theorem LX.call {w0 w w' : World} {B X : Nat} {x : It} {xs ys : List UInt8} (h : LX w0 B X x xs w) (hp : PutIs w' B ys 0) (hf : Fr B w w') : LX w0 B X x ys w' :=
  ⟨⟨hp, h.s.lo, h.s.below.trans (hf.below.mono h.s.lo)⟩, hf.keeps X _ _ _ h.it (by decide) h.ne, h.ne⟩
theorem LX.over {w0 w w' : World} {B X : Nat} {x : It} {xs : List UInt8} (h : LX w0 B X x xs w) (k : Below w.heap.size w w') : LX w0 B X x xs w' :=
  ⟨h.s.over k, by rw [k.block X (lt_of_block h.it)]; exact h.it, h.ne⟩
theorem LX.cells {w0 w : World} {B X : Nat} {x : It} {xs : List UInt8} (h : LX w0 B X x xs w) : w.cell? ⟨X, 0, none⟩ = some (.string x.key) ∧ w.cell? ⟨X, 1, none⟩ = some (.int .i64 x.page) :=
  ⟨cell_at h.it 0, cell_at h.it 1⟩
theorem ls_start (w0 W : World) (n : Nat) (hn : n < 256) (hb : Below w0.heap.size w0 W) :
    Calls Tryz.prog 23 #[.pointer (some ⟨W.heap.size, 0, none⟩), .int .i64 n] (W.alloc (.cells #[.slice none 0 0, .pointer none, .int .i64 0] 57)) fun r w' => r = .returned (.pointer (some ⟨W.heap.size, 0, none⟩)) ∧ LS w0 W.heap.size (low 1 n) w' := by
  refine (putByte_any _ W.heap.size [] n 0 (by omega) (by simp) (.inr ⟨new_at W _ _, rfl⟩)).mono fun r w' ⟨h1, h2, h3⟩ => ⟨h1, ?_, hb.size, ?_⟩
  · rw [stepN_fits (by omega) (by omega)] at h2
    exact h2
  · exact (grow hb _).trans (h3.below.mono hb.size)
theorem lx_half {w0 W : World} {B X : Nat} {x : It} {xs : List UInt8} (k : Nat) (hk : k < 4000) (hx : xs.length ≤ 100000) (h : LX w0 B X x xs W) :
    Calls Tryz.prog 24 #[.pointer (some ⟨B, 0, none⟩), .int .i64 k] W fun r w' => r = .returned (.pointer (some ⟨B, 0, none⟩)) ∧ LX w0 B X x (xs ++ low 2 k) w' := by
  refine (putHalf_any W B xs k 0 (by omega) (by omega) h.s.put).mono fun r w' ⟨h1, h2, h3⟩ => ⟨h1, ?_⟩
  rw [stepN_fits (by omega) (by omega)] at h2
  exact h.call h2 h3
theorem lx_text {w0 W : World} {B X : Nat} {x : It} {xs : List UInt8} (s : ByteArray) (hs : s.size ≤ 65535) (hx : xs.length ≤ 100000) (h : LX w0 B X x xs W) :
    Calls Tryz.prog 25 #[.pointer (some ⟨B, 0, none⟩), .string s] W fun r w' => r = .returned (.pointer (some ⟨B, 0, none⟩)) ∧ LX w0 B X x (xs ++ (low 2 s.size ++ s.data.toList)) w' := by
  refine (putText_any W B xs 0 s (by omega) h.s.put).mono fun r w' ⟨h1, h2, h3⟩ => ⟨h1, ?_⟩
  have e : PP.stepT s.data.toList xs 0 = (xs ++ (low 2 s.size ++ s.data.toList), 0) := by
    unfold PP.stepT
    rw [if_pos rfl, P0.text_len, if_pos hs]
  rw [e] at h2
  exact h.call h2 h3
theorem ls_end {w0 W : World} {B : Nat} {s : ByteArray} (h : LS w0 B s.data.toList W) :
    Calls Tryz.prog 26 #[.pointer (some ⟨B, 0, none⟩)] W fun r w' => r = .returned (.tuple #[.string s, .int .i64 0]) ∧ Below w0.heap.size w0 w' := by
  have H := putEnd_ok W B _ h.put
  rw [show (⟨s.data.toList.toArray⟩ : ByteArray) = s from P0.str_eq s] at H
  exact H.mono fun _ _ ⟨a, d⟩ => ⟨a, d ▸ h.below⟩
/-- the bytes of one item more -/
theorem layOn_list {l : List It} {i : Nat} {x : It} (h : l[i]? = some x) (s : ByteArray) : (layOn s (l.take (i + 1))).data.toList = (layOn s (l.take i)).data.toList ++ low 2 x.page.toNat ++ (low 2 x.key.size ++ x.key.data.toList) := by
  rw [layOn_take h, text_app, text_app, str_list, textB, text_app, str_list]

set_option maxRecDepth 100000 in
set_option maxHeartbeats 4000000 in
theorem lay_ok (w : World) (v : Value) (l : List It) (h : ItsIn w v l) (hr : RightI l) (hs : 1 + sumI l ≤ 232) :
    Calls Tryz.prog 7 #[v] w fun e w' => e = .returned (.tuple #[.string (layI l), .int .i64 0]) ∧ Below w.heap.size w w' := by
  obtain ⟨a, c, rfl⟩ := h.slice
  have hne := hr.2
  have e1 : ((l.length : Int) == 0) = false := beq_eq_false_iff_ne.2 (by omega)
  have e2 : (l.length == 0) = false := beq_eq_false_iff_ne.2 (by omega)
  have hl := sumI_len l
  have HR := Lib.hid (fun W (hb : Below w.heap.size w W) => ordered_any W _ l (h.below hb))
  have HZ := Lib.hid (fun W (hb : Below w.heap.size w W) => size_any W _ l (h.below hb) (by omega))
  have HA := Lib.hid (fun (i : Nat) (x : It) (hi : l[i]? = some x) => h.at_ hi)
  have HRI := Lib.hid hr
  have HSu := Lib.hid hs
  have HP : Hid (∀ W, Below w.heap.size w W → Calls Tryz.prog 23 #[.pointer (some ⟨W.heap.size, 0, none⟩), .int .i64 l.length] (W.alloc (.cells #[.slice none 0 0, .pointer none, .int .i64 0] 57)) fun r w' => r = .returned (.pointer (some ⟨W.heap.size, 0, none⟩)) ∧ LS w W.heap.size (low 1 l.length) w') := fun W hW => ls_start w W l.length (by omega) hW
  have HE := Lib.hid (fun (W : World) (B : Nat) (s : ByteArray) (hS : LS w B s.data.toList W) => ls_end hS)
  have hl2 : l.length ≤ 60 := by omega
  have k1 : decide ((232 : Int) < ((1 + sumI l : Nat) : Int)) = false := decide_eq_false (by omega)
  have k1' : decide ((232 : Int) < 1 + (sumI l : Int)) = false := decide_eq_false (by omega)
  have k1'' : decide (232 < 1 + sumI l) = false := decide_eq_false (by omega)
  clear h hr hs hl
  go_enter Tryz.func7, Tryz.ntmps7
  go_wp2_with (first
    | (go_at_call 22; (with_reducible refine (HR.out _ (Below.refl _ _)).mono ?_); rintro e w1 ⟨⟨bb, rfl, hbb⟩, hb⟩; obtain rfl : bb = true := hbb.2 HRI.out.1; have HB1 := Lib.hid hb; clear hb hbb)
    | (go_at_call 13; (with_reducible refine (HZ.out _ HB1.out).mono ?_); rintro e w2 ⟨rfl, hb⟩; have HB2 := Lib.hid (thenBelow HB1.out hb); clear hb)
    | (go_at_call 23; (with_reducible refine (HP.out _ HB2.out).mono ?_); rintro e w3 ⟨rfl, h3⟩; have HS3 := Lib.hid h3; clear h3))
  obtain ⟨B, hB⟩ : ∃ B, B = w2.heap.size := ⟨_, rfl⟩
  rw [← hB] at HS3 ⊢
  clear hB HB1 HB2
  go_loopw [25] (fun vi wr => ∃ i : Nat, i ≤ l.length ∧ vi = .int .i64 i ∧ Hid (LS w B (layOn (str (low 1 l.length)) (l.take i)).data.toList wr)) (fun vi _ => l.length - (RowKit.intOf vi).toNat)
  case atStart => exact ⟨0, Nat.zero_le _, rfl, by rw [show (layOn (str (low 1 l.length)) (l.take 0)).data.toList = low 1 l.length from str_list _]; exact HS3⟩
  case round =>
    clear HS3
    obtain ⟨i, hi, rfl, HS⟩ := hrel
    by_cases hlt : i < l.length
    · obtain ⟨x, hx⟩ : ∃ x, l[i]? = some x := ⟨_, List.getElem?_eq_getElem hlt⟩
      obtain ⟨b, off, rfl, hc⟩ := HA.out i x hx
      obtain ⟨c0, c1⟩ := hc wr HS.out.below
      have hok := HRI.out.1.1 i x hlt hx
      have hsm := layOn_list hx (str (low 1 l.length))
      have hsz := layOn_size (str (low 1 l.length)) (l.take i)
      have hle := sumI_le (l := l) i
      have hsu := HSu.out
      rw [str_size, low_length] at hsz
      have hxs : (layOn (str (low 1 l.length)) (l.take i)).data.toList.length ≤ 232 := by rw [P0.text_len]; omega
      obtain ⟨key, page⟩ := x
      unfold It.ok at hok
      obtain ⟨o2, o3, o4⟩ := of_decide_eq_true hok
      simp only at o2 o3 o4
      obtain ⟨kn, rfl⟩ := Int.eq_ofNat_of_zero_le (show 0 ≤ page by omega)
      simp only [Int.toNat_natCast] at hsm
      obtain ⟨xs, hxe⟩ : ∃ xs, xs = (layOn (str (low 1 l.length)) (l.take i)).data.toList := ⟨_, rfl⟩
      rw [← hxe] at HS hsm hxs
      have hky : key.data.toList.length = key.size := P0.text_len key
      have HX0 := Lib.hid (HS.out.item ⟨key, kn⟩)
      have HX0d := Lib.hid (HX0.out.over (Below.refl _ _).drew)
      have HM := Lib.hid hsm
      have HK1 : Hid (∀ W X, LX w B X ⟨key, kn⟩ xs W → Calls Tryz.prog 24 #[.pointer (some ⟨B, 0, none⟩), .int .i64 kn] W fun r w' => r = .returned (.pointer (some ⟨B, 0, none⟩)) ∧ LX w B X ⟨key, kn⟩ (xs ++ low 2 kn) w') := fun W X hX => lx_half kn (by omega) (by omega) hX
      have HK2 : Hid (∀ W X, LX w B X ⟨key, kn⟩ (xs ++ low 2 kn) W → Calls Tryz.prog 25 #[.pointer (some ⟨B, 0, none⟩), .string key] W fun r w' => r = .returned (.pointer (some ⟨B, 0, none⟩)) ∧ LX w B X ⟨key, kn⟩ (xs ++ low 2 kn ++ (low 2 key.size ++ key.data.toList)) w') := fun W X hX => lx_text key (by omega) (by rw [List.length_append, low_length]; omega) hX
      have HCc : Hid (∀ W X ys, LX w B X ⟨key, kn⟩ ys W → W.cell? ⟨X, 0, none⟩ = some (.string key) ∧ W.cell? ⟨X, 1, none⟩ = some (.int .i64 kn)) := fun W X ys hX => hX.cells
      generalize xs ++ low 2 kn ++ (low 2 key.size ++ key.data.toList) = y2 at *
      generalize xs ++ low 2 kn = y1 at *
      have k5 : decide ((i : Int) < (l.length : Int)) = true := decide_eq_true (by omega)
      have k6 : (i : Int) < (l.length : Int) := by omega
      have k7 : (0 : Int) ≤ (i : Int) := by omega
      clear hc hx hok hsm hsz HR HZ HA hle hsu o2 o3 o4 hxe hxs hky
      go_upto_region 10 with fail
      go_region_held3 (fun W => W.cell? ⟨wr.heap.size, 0, none⟩ = some (.string key) ∧ W.cell? ⟨wr.heap.size, 1, none⟩ = some (.int .i64 kn)) (first | exact HCc.out _ _ _ HX0d.out | exact HCc.out _ _ _ HX0.out | exact HCc.out _ _ _ HX1.out | exact HCc.out _ _ _ HX2.out) ((first
        | (go_at_call 24; (with_reducible refine (HK1.out _ _ (by first | exact HX0d.out | exact HX0.out)).mono ?_); rintro e w5 ⟨rfl, h5⟩; have HX1 := Lib.hid h5; clear h5)
        | (go_at_call 25; (with_reducible refine (HK2.out _ _ HX1.out).mono ?_); rintro e w6 ⟨rfl, h6⟩; have HX2 := Lib.hid h6; clear h6)))
      all_goals
        go_wp2
        go_roundw
        case rel => exact ⟨i + 1, by omega, by go_num, by rw [HM.out]; exact HX2.out.s⟩
        case measure => simp [RowKit.intOf]; omega
    · have e : i = l.length := by omega
      subst e
      have k5 : decide ((l.length : Int) < (l.length : Int)) = false := decide_eq_false (by omega)
      have HF : Hid (LS w B (layI l).data.toList wr) := by
        have := HS.out
        rw [List.take_length] at this
        exact this
      clear HR HZ HA HS
      go_wp2_with (go_at_call 26; (with_reducible refine (HE.out _ _ _ HF.out).mono ?_); rintro e w5 ⟨rfl, hb⟩; have HB5 := Lib.hid hb; clear hb)
      go_ret2
      exact ⟨rfl, HB5.out⟩
theorem lay_bad (w : World) (v : Value) (l : List It) (h : ItsIn w v l) (hr : ¬ RightI l) :
    Calls Tryz.prog 7 #[v] w fun e w' => e = .returned (.tuple #[.string ⟨#[]⟩, .int .i64 1]) ∧ Below w.heap.size w w' := by
  have HR := Lib.hid (ordered_any w _ l h)
  have hlen := h.len
  obtain ⟨a, c, rfl⟩ := h.slice
  by_cases h0 : l.length = 0
  · have e1 : ((l.length : Int) == 0) = true := by simp [h0]
    have e2 : (l.length == 0) = true := by simp [h0]
    clear h hr h0
    go_enter Tryz.func7, Tryz.ntmps7
    go_wp2
    go_ret2
    exact ⟨rfl, by first | exact Below.refl _ _ | exact (Below.refl _ _).drew⟩
  · have HRI : Hid (¬ RightO l) := fun q => hr ⟨q, by omega⟩
    have e1 : ((l.length : Int) == 0) = false := beq_eq_false_iff_ne.2 (by omega)
    have e2 : (l.length == 0) = false := beq_eq_false_iff_ne.2 h0
    clear h hr h0
    go_enter Tryz.func7, Tryz.ntmps7
    go_wp2_with (go_at_call 22; (with_reducible refine (HR.out).mono ?_); rintro e w1 ⟨⟨bb, rfl, hbb⟩, hb⟩; obtain rfl : bb = false := (Bool.eq_false_iff.2 fun q => HRI.out (hbb.1 q)); have HB1 := Lib.hid hb; clear hb hbb)
    go_ret2
    exact ⟨rfl, HB1.out⟩
theorem lay_long (w : World) (v : Value) (l : List It) (h : ItsIn w v l) (hr : RightI l) (hs : 232 < 1 + sumI l) (hm : sumI l ≤ 1000000) :
    Calls Tryz.prog 7 #[v] w fun e w' => e = .returned (.tuple #[.string ⟨#[]⟩, .int .i64 2]) ∧ Below w.heap.size w w' := by
  have HR := Lib.hid (ordered_any w _ l h)
  have HZ := Lib.hid (fun W (hb : Below w.heap.size w W) => size_any W _ l (h.below hb) hm)
  have HRI := Lib.hid hr
  have k1 : decide ((232 : Int) < ((1 + sumI l : Nat) : Int)) = true := decide_eq_true (by omega)
  have k1' : decide ((232 : Int) < 1 + (sumI l : Int)) = true := decide_eq_true (by omega)
  have k1'' : decide (232 < 1 + sumI l) = true := decide_eq_true (by omega)
  have hne := hr.2
  have e1 : ((l.length : Int) == 0) = false := beq_eq_false_iff_ne.2 (by omega)
  have e2 : (l.length == 0) = false := beq_eq_false_iff_ne.2 (by omega)
  obtain ⟨a, c, rfl⟩ := h.slice
  clear h hr hs hm
  go_enter Tryz.func7, Tryz.ntmps7
  go_wp2_with (first
    | (go_at_call 22; (with_reducible refine (HR.out).mono ?_); rintro e w1 ⟨⟨bb, rfl, hbb⟩, hb⟩; obtain rfl : bb = true := hbb.2 HRI.out.1; have HB1 := Lib.hid hb; clear hb hbb)
    | (go_at_call 13; (with_reducible refine (HZ.out _ HB1.out).mono ?_); rintro e w2 ⟨rfl, hb⟩; have HB2 := Lib.hid (thenBelow HB1.out hb); clear hb))
  go_ret2
  exact ⟨rfl, HB2.out⟩
theorem lay_any (w : World) (v : Value) (l : List It) (h : ItsIn w v l) (hm : sumI l ≤ 1000000) :
    Calls Tryz.prog 7 #[v] w fun e w' => e = .returned (.tuple #[.string (layR l).1, .int .i64 (layR l).2]) ∧ Below w.heap.size w w' := by
  unfold layR
  by_cases hr : RightI l
  · rw [if_pos hr]
    by_cases hs : 1 + sumI l ≤ 232
    · rw [if_pos hs]; exact lay_ok w v l h hr hs
    · rw [if_neg hs]; exact lay_long w v l h hr (by omega) hm
  · rw [if_neg hr]; exact lay_bad w v l h hr

end Go.Proofs.YthihjkdankbnjaaGreat.P10
