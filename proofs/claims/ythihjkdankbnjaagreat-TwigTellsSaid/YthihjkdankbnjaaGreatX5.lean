/-
  Package twig: Find, by sort.Search.
-/
import Derived.Test.YthihjkdankbnjaaGreatX4
import Derived.Test.YthihjkdankbnjaaGreatShelf
import Derived.Test.YthihjkdankbnjaaGreatBase0
namespace Go.Proofs.YthihjkdankbnjaaGreat.P10
open Go Go.RowKit Go.Lib Go.Proofs.YthihjkdankbnjaaGreat.PK

/-- how many keys stand ahead of a key, or are it -/
def upK (l : List It) (k : ByteArray) : Nat := if hasK l k = true then lowK l k + 1 else lowK l k
theorem upK_le {l : List It} (hr : RightO l) (k : ByteArray) : upK l k ≤ l.length := by
  unfold upK
  cases hd : hasK l k with
  | true =>
    obtain ⟨z, hz, _⟩ := lowK_hit hr (hasK_iff.1 hd)
    have := (List.getElem?_eq_some_iff.1 hz).1
    rw [if_pos rfl]
    omega
  | false => rw [if_neg (by simp)]; exact lowK_le l k
theorem upK_eq {l : List It} (hr : RightO l) {k : ByteArray} {n : Nat} (h1 : ∀ (j : Nat) (y : It), j < n → l[j]? = some y → kb k y.key = false) (hn : n ≤ l.length) (h2 : ∀ y, l[n]? = some y → kb k y.key = true) : upK l k = n := by
  unfold upK
  cases hd : hasK l k with
  | true =>
    rw [if_pos rfl]
    obtain ⟨z, hz, hzk⟩ := lowK_hit hr (hasK_iff.1 hd)
    rcases Nat.lt_trichotomy (lowK l k) n with q | q | q
    · by_cases e : lowK l k + 1 = n
      · exact e
      · obtain ⟨y, hy⟩ : ∃ y, l[lowK l k + 1]? = some y := ⟨_, List.getElem?_eq_getElem (by omega)⟩
        have h3 := rise_at hr hz hy (by omega)
        rw [hzk, h1 _ y (by omega) hy] at h3
        cases h3
    · have h3 := h2 z (by rw [← q]; exact hz)
      rw [hzk, kb_irr] at h3
      cases h3
    · obtain ⟨y, hy⟩ : ∃ y, l[n]? = some y := ⟨_, List.getElem?_eq_getElem (by have := (List.getElem?_eq_some_iff.1 hz).1; omega)⟩
      have h3 := rise_at hr hy hz q
      rw [hzk, kb_asym (h2 y hy)] at h3
      cases h3
  | false =>
    rw [if_neg (by simp)]
    refine lowK_eq (fun j y hj hy => ?_) hn (fun y hy => kb_asym (h2 y hy))
    have hne : y.key ≠ k := fun e => by
      rw [hasK_not] at hd
      exact hd (List.mem_map.2 ⟨y, List.mem_of_getElem? hy, e⟩)
    cases hq : kb y.key k with
    | true => rfl
    | false => exact absurd (kb_tri hq (h1 j y hj hy)) hne

theorem kb_gtr (a k : ByteArray) : (!(Op.bytesLess a.toList k.toList || a.toList == k.toList)) = kb k a := by
  show (!(kb a k || a.toList == k.toList)) = kb k a
  cases h : kb k a with
  | true =>
    have h1 := kb_asym h
    have h2 : (a.toList == k.toList) = false := beq_eq_false_iff_ne.2 fun e => by
      rw [ByteArray.toList_eq, ByteArray.toList_eq] at e
      rw [ba_ext e, kb_irr] at h
      cases h
    rw [h1, h2]
    rfl
  | false =>
    cases h1 : kb a k with
    | true => rfl
    | false =>
      rw [kb_tri h h1]
      simp

set_option maxHeartbeats 1000000 in
/-- is the n-th one's key above? -/
theorem findC_any (w : World) (bl bk b off n c : Nat) (x : It) (k : ByteArray) (i : Nat) (hi : i < n)
    (hl : w.cell? ⟨bl, 0, none⟩ = some (.slice (some ⟨b, off, none⟩) n c)) (hk : w.cell? ⟨bk, 0, none⟩ = some (.string k)) (c0 : w.cell? ⟨b, off + i * 2, none⟩ = some (.string x.key)) :
    Calls Tryz.prog 77 #[.int .i64 i, .pointer (some ⟨bl, 0, none⟩), .pointer (some ⟨bk, 0, none⟩)] w fun e w' => e = .returned (.bool (kb k x.key)) ∧ Below w.heap.size w w' := by
  rw [← kb_gtr x.key k]
  generalize x.key = a at *
  have hin : (i : Int) < (n : Int) := by omega
  have hi0 : (0 : Int) ≤ (i : Int) := by omega
  go_enter Tryz.func77, Tryz.ntmps77
  go_wp2
  go_region
  all_goals go_wp2
  all_goals go_ret
  all_goals exact ⟨by first | rfl | simp, (Below.refl _ _).drew⟩

set_option maxRecDepth 100000 in
set_option maxHeartbeats 1000000 in
theorem search_any (w : World) (bl bk : Nat) (a : Option Addr) (c : Nat) (l : List It) (k : ByteArray) (h : ItsIn w (.slice a l.length c) l) (hn : l.length ≤ 1000000) (hr : RightO l)
    (hl : w.cell? ⟨bl, 0, none⟩ = some (.slice a l.length c)) (hk : w.cell? ⟨bk, 0, none⟩ = some (.string k)) (hbl : bl < w.heap.size) (hbk : bk < w.heap.size) :
    Calls Tryz.prog 76 #[.int .i64 l.length, .func (.func 77) #[] #[.pointer (some ⟨bl, 0, none⟩), .pointer (some ⟨bk, 0, none⟩)]] w fun e w' => e = .returned (.int .i64 (upK l k : Nat)) ∧ Below w.heap.size w w' := by
  have HA := Lib.hid (fun (i : Nat) (x : It) (hi : l[i]? = some x) => h.at_ hi)
  obtain ⟨N, hN⟩ : ∃ N, N = l.length := ⟨_, rfl⟩
  have HG : Hid (∀ (W : World), Below w.heap.size w W → ∀ (i : Nat) (x : It), l[i]? = some x → Calls Tryz.prog 77 #[.int .i64 i, .pointer (some ⟨bl, 0, none⟩), .pointer (some ⟨bk, 0, none⟩)] W fun e w' => e = .returned (.bool (kb k x.key)) ∧ Below W.heap.size W w') := fun W hW i x hx => by
    obtain ⟨b, off, rfl, hc⟩ := h.at_ hx
    exact findC_any W bl bk b off l.length c x k i (List.getElem?_eq_some_iff.1 hx).1 ((hW.cell (p := ⟨bl, 0, none⟩) hbl).trans hl) ((hW.cell (p := ⟨bk, 0, none⟩) hbk).trans hk) (hc W hW).1
  have HN := Lib.hid hN
  have HR := Lib.hid hr
  have hlen : N ≤ 1000000 := by omega
  rw [← hN]
  clear h hN hn hr hl hk hbl hbk HA
  go_enter Tryz.func76, Tryz.ntmps76
  go_wp2
  go_loopw [5, 6] (fun vl vh wr => ∃ lo hi : Nat, vl = .int .i64 lo ∧ vh = .int .i64 hi ∧ lo ≤ hi ∧ hi ≤ N ∧ Hid (∀ (j : Nat) (y : It), j < lo → l[j]? = some y → kb k y.key = false) ∧ Hid (∀ (j : Nat) (y : It), hi ≤ j → l[j]? = some y → kb k y.key = true) ∧ Hid (Below w.heap.size w wr)) (fun vl vh _ => (RowKit.intOf vh - RowKit.intOf vl).toNat)
  case atStart => exact ⟨0, N, rfl, rfl, Nat.zero_le _, Nat.le_refl _, fun j y hj => absurd hj (Nat.not_lt_zero _), fun j y hj hy => (by have := (List.getElem?_eq_some_iff.1 hy).1; rw [← HN.out] at this; omega), Below.refl _ _⟩
  case round =>
    obtain ⟨lo, hi, rfl, rfl, hlh, hhn, HL, HH, HB⟩ := hrel
    by_cases hlt : lo < hi
    · obtain ⟨x, hx⟩ : ∃ s, l[(lo + hi) / 2]? = some s := ⟨_, List.getElem?_eq_getElem (by have := HN.out; omega)⟩
      have HX := Lib.hid hx
      have hlt2 : (lo : Int) < (hi : Int) := by omega
      have HK := HG.out wr HB.out _ x hx
      rw [show (((lo + hi) / 2 : Nat) : Int) = ((lo : Int) + (hi : Int)) / 2 by omega] at HK
      have HK := Lib.hid HK
      clear hx
      cases hq : kb k x.key with
      | true =>
        rw [hq] at HK
        have HQ := Lib.hid hq
        clear hq
        go_wp2_with (go_at_call 77; (with_reducible refine (HK.out).mono ?_); rintro e w2 ⟨rfl, hb⟩)
        go_roundw
        case rel =>
          refine ⟨lo, (lo + hi) / 2, rfl, by rw [show ((lo : Int) + (hi : Int)) / 2 = (((lo + hi) / 2 : Nat) : Int) by omega], by omega, by omega, HL, fun j y hj hy => ?_, thenBelow HB.out hb⟩
          rcases Nat.lt_or_eq_of_le hj with q | q
          · exact kb_trans HQ.out (rise_at HR.out HX.out hy q)
          · subst q
            rw [HX.out] at hy
            obtain rfl := Option.some.inj hy
            exact HQ.out
        case measure => simp [RowKit.intOf]; omega
      | false =>
        rw [hq] at HK
        have HQ := Lib.hid hq
        clear hq
        go_wp2_with (go_at_call 77; (with_reducible refine (HK.out).mono ?_); rintro e w2 ⟨rfl, hb⟩)
        go_roundw
        case rel =>
          refine ⟨(lo + hi) / 2 + 1, hi, by rw [show ((lo : Int) + (hi : Int)) / 2 + 1 = (((lo + hi) / 2 + 1 : Nat) : Int) by omega], rfl, by omega, hhn, fun j y hj hy => ?_, HH, thenBelow HB.out hb⟩
          by_cases q : j < lo
          · exact HL.out j y q hy
          · by_cases q2 : j = (lo + hi) / 2
            · subst q2
              rw [HX.out] at hy
              obtain rfl := Option.some.inj hy
              exact HQ.out
            · have h9 := rise_at HR.out hy HX.out (by omega)
              cases h8 : kb k y.key with
              | false => rfl
              | true =>
                have h7 := HQ.out
                rw [kb_trans h8 h9] at h7
                cases h7
        case measure => simp [RowKit.intOf]; omega
    · obtain rfl : lo = hi := by omega
      have hlow : upK l k = lo := upK_eq HR.out (fun j y hj hy => HL.out j y hj hy) (by have := HN.out; omega) (fun y hy => HH.out lo y (Nat.le_refl _) hy)
      have HW := Lib.hid hlow
      have hlt2 : decide ((lo : Int) < (lo : Int)) = false := decide_eq_false (by omega)
      clear hlow
      go_wp2
      go_ret
      exact ⟨by rw [HW.out]; rfl, HB.out⟩

/-- where a key leads: the last child whose key is not above it (0, if none is; -1 of none at all) -/
def findK (l : List It) (k : ByteArray) : Int := if l.length = 0 then -1 else if hasK l k = true then (lowK l k : Nat) else if lowK l k = 0 then 0 else ((lowK l k : Nat) : Int) - 1
theorem find_any (w : World) (v : Value) (l : List It) (k : ByteArray) (h : ItsIn w v l) (hn : l.length ≤ 1000000) (hr : RightO l) :
    Calls Tryz.prog 20 #[v, .string k] w fun e w' => e = .returned (.int .i64 (findK l k)) ∧ Below w.heap.size w w' := by
  have hle := upK_le hr k
  obtain ⟨a, c, rfl⟩ := h.slice
  by_cases h0 : l.length = 0
  · have e : findK l k = -1 := by unfold findK; rw [if_pos h0]
    rw [e, h0]
    have HB := Lib.hid (show Below w.heap.size w ((w.alloc (.cells #[.slice a 0 c] 22)).alloc (.cells #[.string k] 9)) from grow (below_new w _) _)
    clear h hn hr h0 hle e
    go_enter Tryz.func20, Tryz.ntmps20
    go_wp2
    go_ret
    exact ⟨by first | rfl | simp, HB.out⟩
  · have HB := Lib.hid (show Below w.heap.size w ((w.alloc (.cells #[.slice a l.length c] 22)).alloc (.cells #[.string k] 9)) from grow (below_new w _) _)
    have HS := Lib.hid (search_any ((w.alloc (.cells #[.slice a l.length c] 22)).alloc (.cells #[.string k] 9)) w.heap.size (w.heap.size + 1) a c l k (h.below HB.out) hn hr
      (((below_new (w.alloc (.cells #[.slice a l.length c] 22)) (.cells #[.string k] 9)).cell (p := ⟨w.heap.size, 0, none⟩) (by simp)).trans (by rw [cell_at (new_at w _ _)]; rfl))
      (by
        have q := cell_at (new_at (w.alloc (.cells #[.slice a l.length c] 22)) #[.string k] 9) 0
        rw [World.size_alloc] at q
        rw [q]
        rfl)
      (by simp; omega) (by simp))
    have e1 : ((l.length : Int) == 0) = false := beq_eq_false_iff_ne.2 (by omega)
    have e2 : (l.length == 0) = false := beq_eq_false_iff_ne.2 h0
    have e : findK l k = max ((upK l k : Nat) - 1 : Int) 0 := by
      unfold findK upK
      rw [if_neg h0]
      cases hd : hasK l k with
      | true => simp
      | false =>
        simp only [if_neg (Bool.false_ne_true), Bool.false_eq_true, if_false]
        split <;> omega
    rw [e]
    have hu : upK l k ≤ 1000000 := by omega
    generalize upK l k = n at *
    have k3 : IntKind.i64.wrap ((n : Int) - 1) = (n : Int) - 1 := by rw [IntKind.wrap_i64]; omega
    clear h hn hr h0 hle e
    go_enter Tryz.func20, Tryz.ntmps20
    go_wp2_with (go_at_call 76; (with_reducible refine (HS.out).mono ?_); rintro e w2 ⟨rfl, hb⟩; have HB2 := Lib.hid (thenBelow HB.out hb); clear hb)
    go_ret
    exact ⟨by first | rfl | (rw [k3]; done) | simp, HB2.out⟩

/-- it is the one whose key is not above, and the next one's is -/
theorem findK_one {l : List It} (hr : RightO l) {k : ByteArray} {i : Nat} {x : It} (hx : l[i]? = some x) (h1 : kb k x.key = false) (h2 : ∀ y, l[i + 1]? = some y → kb k y.key = true) : findK l k = (i : Nat) := by
  have hi := (List.getElem?_eq_some_iff.1 hx).1
  unfold findK
  rw [if_neg (by omega)]
  cases hd : hasK l k with
  | true =>
    rw [if_pos rfl]
    obtain ⟨z, hz, hzk⟩ := lowK_hit hr (hasK_iff.1 hd)
    have : lowK l k = i := by
      rcases Nat.lt_trichotomy (lowK l k) i with q | q | q
      · have h3 := rise_at hr hz hx q
        rw [hzk, h1] at h3
        cases h3
      · exact q
      · obtain ⟨y, hy⟩ : ∃ y, l[i + 1]? = some y := ⟨_, List.getElem?_eq_getElem (by have := (List.getElem?_eq_some_iff.1 hz).1; omega)⟩
        have h3 := h2 y hy
        by_cases e : i + 1 = lowK l k
        · rw [e, hz] at hy
          obtain rfl := Option.some.inj hy
          rw [hzk, kb_irr] at h3
          cases h3
        · have h4 := rise_at hr hy hz (by omega)
          rw [hzk] at h4
          rw [kb_asym h3] at h4
          cases h4
    rw [this]
  | false =>
    rw [if_neg (by simp)]
    have hl : lowK l k = i + 1 := by
      refine lowK_eq (fun j y hj hy => ?_) (by omega) (fun y hy => kb_asym (h2 y hy))
      have hne : y.key ≠ k := fun e => by
        rw [hasK_not] at hd
        exact hd (List.mem_map.2 ⟨y, List.mem_of_getElem? hy, e⟩)
      have hkj : kb k y.key = false := by
        by_cases e : j = i
        · subst e
          rw [hx] at hy
          obtain rfl := Option.some.inj hy
          exact h1
        · have h4 := rise_at hr hy hx (by omega)
          cases hq : kb k y.key with
          | false => rfl
          | true =>
            rw [kb_trans hq h4] at h1
            cases h1
      cases hq : kb y.key k with
      | true => rfl
      | false => exact absurd (kb_tri hq hkj) hne
    rw [if_neg (by omega), hl]
    omega
theorem findK_spec {l : List It} (hr : RightO l) (h0 : 0 < l.length) (k : ByteArray) : ∃ n : Nat, findK l k = n ∧ n < l.length ∧ (n = 0 ∨ ∃ y, l[n]? = some y ∧ kb k y.key = false) ∧ (∀ y, l[n + 1]? = some y → kb k y.key = true) := by
  unfold findK
  rw [if_neg (by omega)]
  cases hd : hasK l k with
  | true =>
    rw [if_pos rfl]
    obtain ⟨z, hz, hzk⟩ := lowK_hit hr (hasK_iff.1 hd)
    refine ⟨_, rfl, (List.getElem?_eq_some_iff.1 hz).1, .inr ⟨z, hz, by rw [hzk, kb_irr]⟩, fun y hy => ?_⟩
    have := rise_at hr hz hy (by omega)
    rwa [hzk] at this
  | false =>
    rw [if_neg (by simp)]
    have hne : ∀ y ∈ l, y.key ≠ k := fun y hy e => by
      rw [hasK_not] at hd
      exact hd (List.mem_map.2 ⟨y, hy, e⟩)
    have hle := lowK_le l k
    have hup : ∀ (j : Nat) (y : It), lowK l k ≤ j → l[j]? = some y → kb k y.key = true := fun j y hj hy => by
      have h3 := lowK_behind hr hj hy
      cases hq : kb k y.key with
      | true => rfl
      | false => exact absurd (kb_tri h3 hq) (hne y (List.mem_of_getElem? hy))
    by_cases hz : lowK l k = 0
    · rw [if_pos hz]
      exact ⟨0, rfl, h0, .inl rfl, fun y hy => hup 1 y (by omega) hy⟩
    · rw [if_neg hz]
      obtain ⟨y, hy⟩ : ∃ y, l[lowK l k - 1]? = some y := ⟨_, List.getElem?_eq_getElem (by omega)⟩
      refine ⟨lowK l k - 1, by omega, by omega, .inr ⟨y, hy, kb_asym (lowK_ahead (by omega) hy)⟩, fun z hz2 => hup _ z (by omega) hz2⟩
theorem bl_more : ∀ x : List UInt8, Op.bytesLess x (x ++ [0]) = true
  | [] => rfl
  | a :: x => by
    rw [List.cons_append, bl_cons, bl_more x]
    simp
/-- a key with one more byte is above it -/
theorem kb_more (a : ByteArray) : kb a (a ++ ⟨#[0]⟩) = true := by
  rw [kb_eq, P0.text_app]
  exact bl_more _

end Go.Proofs.YthihjkdankbnjaaGreat.P10
