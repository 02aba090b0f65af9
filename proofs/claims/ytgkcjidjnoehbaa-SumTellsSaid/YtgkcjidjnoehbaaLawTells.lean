/-
  P201: every texts' sum; every text sealed, every bytes opened: the walk of the statement SumTells.
-/
import Derived.Test.YtgkcjidjnoehbaaSumD
import Derived.Test.YtgkcjidjnoehbaaBook1
namespace Go.Proofs.Ytgkcjidjnoehbaa.P2
open Go Go.RowKit Go.Lib Go.Proofs.Ytgkcjidjnoehbaa.P0

theorem allOf_take_le (l : List ByteArray) (k : Nat) : (allOf (l.take k)).length ≤ (allOf l).length := by
  have h : allOf l = allOf (l.take k) ++ allOf (l.drop k) := by
    simp only [allOf]
    rw [← List.flatten_append, ← List.map_append, List.take_append_drop]
  rw [h, List.length_append]; omega
theorem str_app (a b : List UInt8) : str (a ++ b) = str a ++ str b := by
  apply text_ext; rw [text_app, str_list, str_list, str_list]
theorem all_next {l : List ByteArray} {k : Nat} {W : ByteArray} (h : k < l.length) (e : W = str (allOf (l.take k))) : W ++ l[k] = str (allOf (l.take (k + 1))) := by
  rw [allOf_take h, str_app, str_eq, e]

theorem tells_skip (w : World) (v : Value) (l : List ByteArray) (s b : ByteArray) (h : TextsIn w v l) (hno : ¬ (shortB 20 1500 l = true ∧ s.size ≤ 1000 ∧ b.size ≤ 1000)) :
    Calls Try.prog 3 #[v, .string s, .string b] w fun r w' => r = .returned (.bool true) ∧ Below w.heap.size w w' := by
  have K := fun w' => Lib.hid (alive_any w')
  have H := short_any w v l 20 1500 h (by decide) (by decide)
  clear h
  by_cases h0 : shortB 20 1500 l = true
  · rw [h0] at H
    have HH := Lib.hid H
    by_cases h1 : s.size ≤ 1000
    · have k1 : decide ((1000 : Int) < (s.size : Int)) = false := decide_eq_false (by omega)
      have k2 : decide ((1000 : Int) < (b.size : Int)) = true := decide_eq_true (by
        have : ¬ b.size ≤ 1000 := fun e => hno ⟨h0, h1, e⟩
        omega)
      clear hno H h0 h1
      go_enter Try.func3, Try.ntmps3
      go_wp2_with (first
        | (go_at_call 7; refine HH.out.mono ?_; rintro e w1 ⟨rfl, hb1⟩)
        | (go_at_call 8; refine (K _).out.mono ?_; rintro e w2 ⟨rfl, hb2⟩))
      go_ret
      exact ⟨rfl, thenBelow hb1 hb2⟩
    · have k1 : decide ((1000 : Int) < (s.size : Int)) = true := decide_eq_true (by omega)
      clear hno H h0 h1
      go_enter Try.func3, Try.ntmps3
      go_wp2_with (first
        | (go_at_call 7; refine HH.out.mono ?_; rintro e w1 ⟨rfl, hb1⟩)
        | (go_at_call 8; refine (K _).out.mono ?_; rintro e w2 ⟨rfl, hb2⟩))
      go_ret
      exact ⟨rfl, thenBelow hb1 hb2⟩
  · rw [Bool.not_eq_true] at h0
    rw [h0] at H
    have HH := Lib.hid H
    clear hno H h0
    go_enter Try.func3, Try.ntmps3
    go_wp2_with (first
      | (go_at_call 7; refine HH.out.mono ?_; rintro e w1 ⟨rfl, hb1⟩)
      | (go_at_call 8; refine (K _).out.mono ?_; rintro e w2 ⟨rfl, hb2⟩))
    go_ret
    exact ⟨rfl, thenBelow hb1 hb2⟩

theorem tells_in (w : World) (v : Value) (l : List ByteArray) (s b : ByteArray) (h : TextsIn w v l) (h0 : shortB 20 1500 l = true) (hs : s.size ≤ 1000) (hb : b.size ≤ 1000) :
    Calls Try.prog 3 #[v, .string s, .string b] w fun r w' => r = .returned (.bool true) ∧ Below w.heap.size w w' := by
  have K := fun w' => Lib.hid (alive_any w')
  have H := short_any w v l 20 1500 h (by decide) (by decide)
  have hd := of_decide_eq_true h0
  have hL : l.length ≤ 20 := by omega
  have hall : (allOf l).length ≤ 1500 := by have := room_sum hd.2; unfold allOf; omega
  have htot := roomOf_total hd.2
  rw [h0] at H
  have H1 := Lib.hid H
  have hlent : ∀ w', Below w.heap.size w w' → Calls Try.prog 9 #[v] w' fun e w'' => ∃ u, e = .returned u ∧ Lent w'' u l ∧ Below w'.heap.size w' w'' := fun w' hb' => lentTexts_any w' v l (h.below hb') (by omega)
  have hstay : ∀ w' u, Below w.heap.size w w' → Lent w' u l → Calls Try.prog 14 #[u, v] w' fun e w'' => e = .returned (.bool true) ∧ Below w'.heap.size w' w'' := fun w' u hb' hu => staysTexts_any w' u v l hu (h.below hb')
  have hof : ∀ w' u, Lent w' u l → Calls Try.prog 12 #[u] w' fun e w'' => e = .returned (.int .u32 (crc (allOf l))) ∧ w' = w'' := fun w' u hu => of_any w' u l (hu.texts (by omega) (by obtain ⟨_, _, _, _, _, hz, _⟩ := h; exact hz))
  have hsum : ∀ w', Calls Try.prog 13 #[.string (str (allOf l))] w' fun e w'' => e = .returned (.int .u32 (crc (allOf l))) ∧ w' = w'' := fun w' => by
    have := rSum_any w' (str (allOf l)) (by rw [str_size]; omega)
    rwa [str_list] at this
  have H2 := Lib.hid hlent
  have H3 := Lib.hid hstay
  have H4 := fun w' => Lib.hid (open_any w' b (by omega))
  have H5 := fun w' => Lib.hid (rOpen_any w' b (by omega))
  have H6 := fun w' => Lib.hid (seal_any w' s (by omega))
  have H7 := fun w' => Lib.hid (rSeal_any w' s (by omega))
  have c1 := same_true (rfl : sealOf s = sealOf s)
  have c2 := same_true (rfl : openS b = openS b)
  have c3 : (openE b == openE b) = true := beq_self_eq_true _
  have HW : Hid (∀ k, (allOf (l.take k)).length ≤ 1500) := fun k => Nat.le_trans (allOf_take_le l k) hall
  have HN := fun {k : Nat} {W : ByteArray} (h : k < l.length) (e : W = str (allOf (l.take k))) => all_next h e
  have k1 : decide ((1000 : Int) < (s.size : Int)) = false := decide_eq_false (by omega)
  have k2 : decide ((1000 : Int) < (b.size : Int)) = false := decide_eq_false (by omega)
  have HX := Lib.hid hof
  have HY := Lib.hid hsum
  generalize sealOf s = z at H6 H7 c1
  generalize openS b = oS at H4 H5 c2
  generalize openE b = oE at H4 H5 c3
  obtain ⟨a, c, rfl, _, _, hz, hc⟩ := h
  clear hd hall H hlent hstay hof hsum h0
  go_enter Try.func3, Try.ntmps3
  go_wp2_with (first
    | (go_at_call 7; refine H1.out.mono ?_; rintro e w1 ⟨rfl, hb1⟩)
    | (go_at_call 8; refine (K _).out.mono ?_; rintro e w2 ⟨rfl, hb2⟩))
  have hB0 := thenBelow hb1 hb2
  clear hb1 hb2
  go_loop [7, 8] (fun q i => ∃ (k : Nat) (W : ByteArray), k ≤ l.length ∧ i = .int .i64 k ∧ q = .string W ∧ Hid (W = str (allOf (l.take k)))) (fun _ i => l.length - (RowKit.intOf i).toNat)
  case atStart => exact ⟨0, ⟨#[]⟩, Nat.zero_le _, rfl, rfl, rfl⟩
  case round =>
    obtain ⟨k, W, hk, rfl, rfl, hWe⟩ := hrel
    by_cases hlt : k < l.length
    · obtain ⟨b', off, rfl, hbl, hcc⟩ := hc (by omega)
      have hcell := (hB0.cell (p := ⟨b', off + k, none⟩) hbl).trans (hcc k hlt)
      have hWz : W.size ≤ 1500 := by have := HW.out k; rw [hWe.out, str_size]; exact this
      have hsz := htot k hlt
      have hnx : Hid (W ++ l[k] = str (allOf (l.take (k + 1)))) := all_next hlt hWe.out
      generalize l[k] = t at hcell hsz hnx
      clear hcc hc hz htot HW HN hWe
      have hsz2 : t.size ≤ 1500 := by omega
      go_wp2
      go_round
      case rel => exact ⟨k + 1, _, by omega, by go_num, rfl, hnx⟩
      case measure => simp [RowKit.intOf]; omega
    · have hWe' : W = str (allOf l) := by rw [hWe.out, List.take_of_length_le (by omega)]
      clear hc hz htot HW HN hWe
      subst hWe'
      generalize str (allOf l) = W at HY
      generalize crc (allOf l) = x at HX HY
      go_wp2_with (first
        | (go_at_call 9; refine (H2.out _ hB0).mono ?_; rintro e w3 ⟨u, rfl, hu, hb3⟩)
        | (go_at_call 10; refine (H4 _).out.mono ?_; rintro e w4 ⟨rfl, hb4⟩)
        | (go_at_call 11; refine (H5 _).out.mono ?_; rintro e w5 ⟨rfl, hb5⟩; have hu5 := hu.below (thenBelow hb4 hb5); have hB5 := thenBelow (thenBelow hB0 hb3) (thenBelow hb4 hb5))
        | (go_at_call 12; refine (HX.out _ _ hu5).mono ?_; rintro e w6 ⟨rfl, rfl⟩)
        | (go_at_call 13; refine (HY.out _).mono ?_; rintro e w6 ⟨rfl, rfl⟩)
        | (go_at_call 14; refine (H3.out _ _ hB5 hu5).mono ?_; rintro e w7 ⟨rfl, hb7⟩)
        | (go_at_call 15; refine (H6 _).out.mono ?_; rintro e w8 ⟨rfl, hb8⟩)
        | (go_at_call 16; refine (H7 _).out.mono ?_; rintro e w9 ⟨rfl, hb9⟩))
      go_ret
      exact ⟨rfl, thenBelow (thenBelow (thenBelow hB5 hb7) hb8) hb9⟩

theorem tells_walk (w : World) (v : Value) (l : List ByteArray) (h : TextsIn w v l) (s b : ByteArray) :
    Calls Try.prog 3 #[v, .string s, .string b] w fun r w' => r = .returned (.bool true) ∧ Below w.heap.size w w' := by
  by_cases h0 : shortB 20 1500 l = true ∧ s.size ≤ 1000 ∧ b.size ≤ 1000
  · exact tells_in w v l s b h h0.1 h0.2.1 h0.2.2
  · exact tells_skip w v l s b h h0

end Go.Proofs.Ytgkcjidjnoehbaa.P2
