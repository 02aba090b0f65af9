/-
  Package twig: what Read comes to; what was laid is read as it was.
-/
import Derived.Test.YthihjkdankbnjaaX2
import Derived.Test.YthihjkdankbnjaaLk0
namespace Go.Proofs.Ythihjkdankbnjaa.P10
open Go Go.RowKit Go.Lib Go.Proofs.Ythihjkdankbnjaa.PK
open Go.Proofs.Ythihjkdankbnjaa.P0 (low str str_size low_length size_app text_ext text_app str_list str_eq text_len)
open Go.Proofs.Ythihjkdankbnjaa.PP (getNum getTxt getStr getFin getNum_low getTxt_of num_lt)

/-- one item more is read: what is left, the error, the items -/
def stepP (s : ByteArray × Int × List It) : ByteArray × Int × List It :=
  let k := getNum 2 s.1 s.2.1
  let y := getTxt k.2.1 k.2.2
  (y.2.1, y.2.2, s.2.2 ++ [⟨y.1, k.1⟩])
def runP (s : ByteArray × Int × List It) : Nat → ByteArray × Int × List It
  | 0 => s
  | j + 1 => stepP (runP s j)
theorem runP_shift (s : ByteArray × Int × List It) : ∀ j, runP (stepP s) j = runP s (j + 1)
  | 0 => rfl
  | j + 1 => congrArg stepP (runP_shift s j)
theorem runP_len (s : ByteArray × Int × List It) : ∀ j, (runP s j).2.2.length = s.2.2.length + j
  | 0 => rfl
  | j + 1 => by
    show ((runP s j).2.2 ++ [_]).length = _
    rw [List.length_append, runP_len s j]
    rfl
theorem getStr_left {n : Int} {B : ByteArray} {e : Int} (h : (getStr n B e).2.2 = 0) : e = 0 ∧ (getStr n B e).1.size + (getStr n B e).2.1.size = B.size ∧ (getStr n B e).1.size = n.toNat := by
  unfold PP.getStr at h ⊢
  by_cases he : e = 0
  · rw [if_pos he] at h ⊢
    by_cases hn : n < 0
    · rw [if_pos hn] at h; cases h
    · rw [if_neg hn] at h ⊢
      by_cases hk : n ≤ B.size
      · rw [if_pos hk]
        refine ⟨he, ?_, ?_⟩
        · simp only [ByteArray.size_extract]; omega
        · simp only [ByteArray.size_extract]; omega
      · rw [if_neg hk] at h; cases h
  · rw [if_neg he] at h
    exact absurd h he
theorem getNum_left {n : Nat} {B : ByteArray} {e : Int} (h : (getNum n B e).2.2 = 0) : e = 0 ∧ n + (getNum n B e).2.1.size = B.size := by
  unfold PP.getNum at h ⊢
  by_cases he : e = 0
  · rw [if_pos he] at h ⊢
    by_cases hk : n ≤ B.size
    · rw [if_pos hk]
      refine ⟨he, ?_⟩
      simp only [ByteArray.size_extract]; omega
    · rw [if_neg hk] at h; cases h
  · rw [if_neg he] at h
    exact absurd h he
theorem getTxt_left {B : ByteArray} {e : Int} (h : (getTxt B e).2.2 = 0) : e = 0 ∧ 2 + (getTxt B e).1.size + (getTxt B e).2.1.size = B.size := by
  obtain ⟨h1, h2, h3⟩ := getStr_left (n := (getNum 2 B e).1) h
  obtain ⟨h4, h5⟩ := getNum_left h1
  refine ⟨h4, ?_⟩
  have e1 : (getTxt B e).1 = (getStr (getNum 2 B e).1 (getNum 2 B e).2.1 (getNum 2 B e).2.2).1 := rfl
  have e2 : (getTxt B e).2.1 = (getStr (getNum 2 B e).1 (getNum 2 B e).2.1 (getNum 2 B e).2.2).2.1 := rfl
  rw [e1, e2]
  omega
theorem stepP_left {s : ByteArray × Int × List It} (h : (stepP s).2.1 = 0) : s.2.1 = 0 ∧ sumI (stepP s).2.2 + (stepP s).1.size = sumI s.2.2 + s.1.size := by
  obtain ⟨h3, h4⟩ := getTxt_left (show (getTxt (getNum 2 s.1 s.2.1).2.1 (getNum 2 s.1 s.2.1).2.2).2.2 = 0 from h)
  obtain ⟨h5, h6⟩ := getNum_left h3
  refine ⟨h5, ?_⟩
  unfold stepP
  simp only [sumI_app, sumI_cons, sumI_nil, It.need]
  omega
theorem runP_left {s : ByteArray × Int × List It} : ∀ {j : Nat}, (runP s j).2.1 = 0 → s.2.1 = 0 ∧ sumI (runP s j).2.2 + (runP s j).1.size = sumI s.2.2 + s.1.size
  | 0, h => ⟨h, rfl⟩
  | j + 1, h => by
    obtain ⟨h1, h2⟩ := stepP_left h
    obtain ⟨h3, h4⟩ := runP_left h1
    exact ⟨h3, by rw [← h4]; exact h2⟩
/-- what is read in all -/
def allP (b : ByteArray) : ByteArray × Int × List It := runP ((getNum 1 b 0).2.1, (getNum 1 b 0).2.2, []) (getNum 1 b 0).1.toNat
open Classical in
/-- what Read tells: the items, the error -/
noncomputable def readP (b : ByteArray) : List It × Int :=
  if getFin (allP b).1 (allP b).2.1 = 0 then (if (layR (allP b).2.2).2 = 0 ∧ (layR (allP b).2.2).1 = b then ((allP b).2.2, 0) else ([], 6)) else ([], getFin (allP b).1 (allP b).2.1)
theorem getFin_zero {s : ByteArray} {e : Int} (h : getFin s e = 0) : s.size = 0 ∧ e = 0 := by
  unfold PP.getFin at h
  by_cases hs : 0 < s.size
  · rw [if_pos hs] at h; cases h
  · rw [if_neg hs] at h; exact ⟨by omega, h⟩
theorem allP_sum {b : ByteArray} (h : getFin (allP b).1 (allP b).2.1 = 0) : sumI (allP b).2.2 ≤ b.size := by
  obtain ⟨h2, h3⟩ := runP_left (s := ((getNum 1 b 0).2.1, (getNum 1 b 0).2.2, [])) (j := (getNum 1 b 0).1.toNat) (getFin_zero h).2
  obtain ⟨_, h5⟩ := getNum_left h2
  have e1 : (allP b).2.2 = (runP ((getNum 1 b 0).2.1, (getNum 1 b 0).2.2, []) (getNum 1 b 0).1.toNat).2.2 := rfl
  rw [e1]
  simp only [sumI_nil] at h3
  omega
theorem gnum1_range (s : ByteArray) (e : Int) : 0 ≤ (getNum 1 s e).1 ∧ (getNum 1 s e).1 ≤ 255 := by
  unfold PP.getNum
  by_cases he : e = 0
  · rw [if_pos he]
    by_cases hk : 1 ≤ s.size
    · rw [if_pos hk]
      have h2 := num_lt (s.data.toList.take 1)
      have h3 : 256 ^ (s.data.toList.take 1).length ≤ 256 ^ 1 := Nat.pow_le_pow_right (by omega) (by simp only [List.length_take]; omega)
      have e2 := PP.wrap_small (PP.num (s.data.toList.take 1)) (by omega)
      simp only [e2]
      omega
    · rw [if_neg hk]; simp
  · rw [if_neg he]; simp

/-- an item's bytes -/
def bytesI (x : It) : List UInt8 := low 2 x.page.toNat ++ (low 2 x.key.size ++ x.key.data.toList)
def tailB : List It → List UInt8
  | [] => []
  | x :: l => bytesI x ++ tailB l
theorem layOn_tail (s : ByteArray) (l : List It) : (layOn s l).data.toList = s.data.toList ++ tailB l := by
  induction l generalizing s with
  | nil => simp [layOn, tailB]
  | cons x l ih =>
    have e : layOn s (x :: l) = layOn (s ++ str (low 2 x.page.toNat) ++ textB x.key) l := rfl
    rw [e, ih, text_app, text_app, str_list, textB, text_app, str_list, tailB, bytesI]
    simp only [List.append_assoc]
theorem layI_str (l : List It) : layI l = str (low 1 l.length ++ tailB l) := by
  apply text_ext
  rw [str_list, layI, layOn_tail, str_list]
theorem step_back {x : It} (hx : x.ok = true) (T : List UInt8) (acc : List It) : stepP (str (bytesI x ++ T), 0, acc) = (str T, 0, acc ++ [x]) := by
  obtain ⟨key, page⟩ := x
  unfold It.ok at hx
  obtain ⟨o2, o3, o4⟩ := of_decide_eq_true hx
  simp only at o2 o3 o4
  obtain ⟨kn, rfl⟩ := Int.eq_ofNat_of_zero_le (show 0 ≤ page by omega)
  have e1 : getNum 2 (str (bytesI ⟨key, kn⟩ ++ T)) 0 = ((kn : Int), str (low 2 key.size ++ (key.data.toList ++ T)), 0) := by
    have := getNum_low 2 kn (low 2 key.size ++ (key.data.toList ++ T)) (by omega)
    rw [PP.wrap_small kn (by omega)] at this
    rw [← this]
    simp only [bytesI, List.append_assoc, Int.toNat_natCast]
  have e2 : getTxt (str (low 2 key.size ++ (key.data.toList ++ T))) 0 = (key, str T, 0) := by
    have := getTxt_of key.data.toList T (by rw [text_len]; omega)
    rw [text_len, str_eq] at this
    exact this
  unfold stepP
  simp only [e1, e2]
theorem run_back : ∀ (l : List It) (acc : List It) (T : List UInt8), (∀ x ∈ l, x.ok = true) → runP (str (tailB l ++ T), 0, acc) l.length = (str T, 0, acc ++ l)
  | [], acc, T, _ => by simp [runP, tailB]
  | x :: l, acc, T, h => by
    rw [List.length_cons, ← runP_shift, tailB, List.append_assoc, step_back (h x List.mem_cons_self), run_back l _ T (fun y hy => h y (List.mem_cons_of_mem _ hy)), List.append_assoc]
    rfl
theorem RightO.ok {l : List It} (h : RightO l) {x : It} (hx : x ∈ l) : x.ok = true := by
  obtain ⟨i, hi, rfl⟩ := List.mem_iff_getElem.1 hx
  exact h.1 i _ hi (List.getElem?_eq_getElem hi)
theorem read_back {l : List It} (hr : RightI l) (hs : 1 + sumI l ≤ 232) : readP (layI l) = (l, 0) := by
  have hl := sumI_len l
  have hn : getNum 1 (layI l) 0 = ((l.length : Int), str (tailB l), 0) := by
    have := getNum_low 1 l.length (tailB l) (by omega)
    rw [PP.wrap_small l.length (by omega)] at this
    rw [layI_str, this]
  have ha : allP (layI l) = (⟨#[]⟩, 0, l) := by
    unfold allP
    rw [hn]
    have := run_back l [] [] (fun x hx => hr.1.ok hx)
    rw [List.append_nil] at this
    show runP (str (tailB l), 0, []) ((l.length : Int)).toNat = _
    rw [Int.toNat_natCast, this, List.nil_append]
    rfl
  have hL : layR l = (layI l, 0) := by
    unfold layR
    rw [if_pos hr, if_pos hs]
  unfold readP
  rw [ha]
  have hf : getFin (⟨#[]⟩ : ByteArray) 0 = 0 := rfl
  simp only [hf, hL]
  simp

end Go.Proofs.Ythihjkdankbnjaa.P10
