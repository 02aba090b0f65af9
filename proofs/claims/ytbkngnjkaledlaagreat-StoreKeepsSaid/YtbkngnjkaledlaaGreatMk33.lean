/-
  Texts of the proof of SaidKeeps8, side by side: Pg10.
-/
import Derived.Test.YtbkngnjkaledlaaGreatMk32
import Derived.OwnWalk
/-
  The reference's Num; package page's Front, by contracts.
-/
namespace Go.Proofs.YtbkngnjkaledlaaGreat.P5
open Go Go.RowKit Go.Lib Go.Proofs.YtbkngnjkaledlaaGreat.P0 Go.Proofs.YtbkngnjkaledlaaGreat.P2

theorem drop_num (s : ByteArray) (k : Nat) (h : k < s.size) : num (s.data.toList.drop k) = s[k].toNat + 256 * num (s.data.toList.drop (k + 1)) := by
  rw [List.drop_eq_getElem_cons (by simpa using h)]; rfl
theorem num_drop_lt (s : ByteArray) (k : Nat) (h8 : s.size ≤ 8) : num (s.data.toList.drop (k + 1)) ≤ 72057594037927935 := by
  have h1 := num_lt (s.data.toList.drop (k + 1))
  have h2 : 256 ^ (s.data.toList.drop (k + 1)).length ≤ 256 ^ 7 := Nat.pow_le_pow_right (by omega) (by rw [List.length_drop]; simp; omega)
  omega

theorem rNum_any (w : World) (s : ByteArray) (h8 : s.size ≤ 8) :
    Calls Tryz.prog 107 #[.string s] w fun r w' => r = .returned (.int .u64 (num s.data.toList)) ∧ w = w' := by
  go_enter Tryz.func107, Tryz.ntmps107
  go_wp2
  go_loop [3, 4] (fun v i => ∃ (q : Int) (x : Nat), i = .int .i64 q ∧ v = .int .u64 x ∧ -1 ≤ q ∧ q < s.size ∧ Hid (x = num (s.data.toList.drop (q + 1).toNat))) (fun _ i => (RowKit.intOf i + 1).toNat)
  case atStart => exact ⟨(s.size : Int) - 1, 0, by first | rfl | go_num, rfl, by omega, by omega, show _ from by rw [show ((s.size : Int) - 1 + 1).toNat = s.size by omega, List.drop_of_length_le (by simp)]; rfl⟩
  case round =>
    obtain ⟨q, x, rfl, rfl, hq0, hq1, hx⟩ := hrel
    by_cases hq : 0 ≤ q
    · obtain ⟨k, rfl⟩ := Int.eq_ofNat_of_zero_le hq
      have hk : k < s.size := by omega
      have hxe := hx.out
      rw [show ((k : Int) + 1).toNat = k + 1 by omega] at hxe
      have hxb : x ≤ 72057594037927935 := by rw [hxe]; exact num_drop_lt s k h8
      have hc := s[k].toNat_lt
      have hnx : Hid (x * 256 + s[k].toNat = num (s.data.toList.drop ((k : Int) - 1 + 1).toNat)) := by
        have e := drop_num s k hk
        rw [← hxe] at e
        show _ = _
        rw [show ((k : Int) - 1 + 1).toNat = k by omega, e]; omega
      clear hxe hq0 hq1
      go_wp2
      go_round
      case rel => exact ⟨(k : Int) - 1, x * 256 + s[k].toNat, by first | rfl | go_num, by go_num, by omega, by omega, hnx⟩
      case measure => simp [RowKit.intOf]
    · have hxe : Hid (x = num s.data.toList) := by
        have e := hx.out
        rw [show (q + 1).toNat = 0 by omega, List.drop_zero] at e
        exact e
      clear hq1
      go_wp2
      go_ret
      exact ⟨by rw [hxe.out]; rfl, rfl⟩

/-- readers that were begun: each in its block -/
def FK (w0 W : World) (l : List (Nat × ByteArray)) : Prop :=
  Below w0.heap.size w0 W ∧ (∀ x ∈ l, w0.heap.size ≤ x.1 ∧ GetAt W x.1 x.2 0) ∧ (l.map (·.1)).Nodup
theorem FK.drew {w0 W : World} {l : List (Nat × ByteArray)} (h : FK w0 W l) : FK w0 W.drew l := ⟨thenBelow h.1 ((Below.refl _ _).drew), h.2⟩
theorem GetAt.frO {w w' : World} {b c : Nat} {s : ByteArray} {bad : Int} (h : GetAt w b s bad) (f : Fr c w w') (hne : b ≠ c) : GetAt w' b s bad := f.keeps b _ _ _ h (by decide) hne
theorem fk_from {w0 W : World} {l : List (Nat × ByteArray)} (s : ByteArray) (h : FK w0 W l) :
    Calls Tryz.prog 136 #[.string s] W fun r w' => ∃ b, r = .returned (.pointer (some ⟨b, 0, none⟩)) ∧ FK w0 w' ((b, s) :: l) := by
  refine (getFrom_any W s).mono fun r w' ⟨h1, h2, h3, _⟩ => ⟨W.heap.size, h1, thenBelow h.1 h3, ?_, ?_⟩
  · intro x hx
    rcases List.mem_cons.1 hx with rfl | hx
    · exact ⟨h.1.size, h2⟩
    · exact ⟨(h.2.1 x hx).1, (h.2.1 x hx).2.below h3⟩
  · rw [List.map_cons, List.nodup_cons]
    refine ⟨fun hm => ?_, h.2.2⟩
    obtain ⟨x, hx, e⟩ := List.mem_map.1 hm
    have := lt_of_block (h.2.1 x hx).2
    omega
theorem FK.took {w0 W w' : World} {l k : List (Nat × ByteArray)} {b : Nat} (h : FK w0 W l) (hk : k.Sublist l) (hb : b ∉ k.map (·.1)) (hw : w0.heap.size ≤ b) (f : Fr b W w') : FK w0 w' k :=
  ⟨h.1.trans (f.below.mono hw), fun x hx => ⟨(h.2.1 x (hk.subset hx)).1, (h.2.1 x (hk.subset hx)).2.frO f (fun e => hb (e ▸ List.mem_map_of_mem hx))⟩, h.2.2.sublist (hk.map _)⟩

theorem first_num {s : ByteArray} {n : Nat} (h : n ≤ s.size) : (getNum n s 0).1 = wrap64 (num (s.data.toList.take n)) := by
  unfold getNum
  rw [if_pos rfl, if_pos h]
theorem fk_half {w0 W : World} {l : List (Nat × ByteArray)} {b : Nat} {s : ByteArray} (hs : 2 ≤ s.size) (h : FK w0 W ((b, s) :: l)) :
    Calls Tryz.prog 137 #[.pointer (some ⟨b, 0, none⟩)] W fun r w' => r = .returned (.int .i64 (wrap64 (num (s.data.toList.take 2)))) ∧ FK w0 w' l := by
  have hm := h.2.1 (b, s) (List.mem_cons_self ..)
  have H := getHalf_any W b s 0 hm.2
  rw [first_num hs] at H
  exact H.mono fun r w' ⟨h1, _, h3⟩ => ⟨h1, h.took (List.sublist_cons_self ..) (by have := h.2.2; rw [List.map_cons, List.nodup_cons] at this; exact this.1) hm.1 h3⟩
theorem fk_half2 {w0 W : World} {x : Nat × ByteArray} {b : Nat} {s : ByteArray} (hs : 2 ≤ s.size) (h : FK w0 W [x, (b, s)]) :
    Calls Tryz.prog 137 #[.pointer (some ⟨b, 0, none⟩)] W fun r w' => r = .returned (.int .i64 (wrap64 (num (s.data.toList.take 2)))) ∧ FK w0 w' [x] := by
  have hm := h.2.1 (b, s) (by simp)
  have H := getHalf_any W b s 0 hm.2
  rw [first_num hs] at H
  exact H.mono fun r w' ⟨h1, _, h3⟩ => ⟨h1, h.took (by simp) (by have := h.2.2; simp at this ⊢; exact fun e => this e.symm) hm.1 h3⟩
theorem fk_int {w0 W : World} {l : List (Nat × ByteArray)} {b : Nat} {s : ByteArray} (hs : 8 ≤ s.size) (h : FK w0 W ((b, s) :: l)) :
    Calls Tryz.prog 138 #[.pointer (some ⟨b, 0, none⟩)] W fun r w' => r = .returned (.int .i64 (wrap64 (num (s.data.toList.take 8)))) ∧ FK w0 w' l := by
  have hm := h.2.1 (b, s) (List.mem_cons_self ..)
  have H := getInt_any W b s 0 hm.2
  rw [first_num hs] at H
  exact H.mono fun r w' ⟨h1, _, h3⟩ => ⟨h1, h.took (List.sublist_cons_self ..) (by have := h.2.2; rw [List.map_cons, List.nodup_cons] at this; exact this.1) hm.1 h3⟩
theorem fk_int2 {w0 W : World} {x : Nat × ByteArray} {b : Nat} {s : ByteArray} (hs : 8 ≤ s.size) (h : FK w0 W [x, (b, s)]) :
    Calls Tryz.prog 138 #[.pointer (some ⟨b, 0, none⟩)] W fun r w' => r = .returned (.int .i64 (wrap64 (num (s.data.toList.take 8)))) ∧ FK w0 w' [x] := by
  have hm := h.2.1 (b, s) (by simp)
  have H := getInt_any W b s 0 hm.2
  rw [first_num hs] at H
  exact H.mono fun r w' ⟨h1, _, h3⟩ => ⟨h1, h.took (by simp) (by have := h.2.2; simp at this ⊢; exact fun e => this e.symm) hm.1 h3⟩

theorem from_at (b : ByteArray) (n : Nat) : (b.extract n b.size).data.toList = b.data.toList.drop n := by
  rw [Lib.extract_data]
  exact List.take_of_length_le (by rw [List.length_drop, text_len]; exact Nat.le_refl _)

theorem front_short (w : World) (b : ByteArray) (h : b.size < 16) :
    Calls Tryz.prog 105 #[.string b] w fun r w' => r = .returned (.tuple #[.int .i64 0, .int .i64 0, .int .i64 0]) ∧ Below w.heap.size w w' := by
  have k1 : decide ((b.size : Int) < 16) = true := decide_eq_true (by omega)
  clear h
  go_enter Tryz.func105, Tryz.ntmps105
  go_wp2
  go_ret3
  exact ⟨rfl, Below.refl _ _⟩

set_option maxRecDepth 100000 in
set_option maxHeartbeats 4000000 in
theorem front_any (w : World) (b : ByteArray) (h : 16 ≤ b.size) (hb : b.size ≤ 1000000) :
    Calls Tryz.prog 105 #[.string b] w fun r w' => r = .returned (.tuple #[.int .i64 (kOf b.data.toList), .int .i64 (idOf b.data.toList), .int .i64 (txOf b.data.toList)]) ∧ Below w.heap.size w w' := by
  have k1 : decide ((b.size : Int) < 16) = false := decide_eq_false (by omega)
  have e2 := from_at b 2
  have e8 := from_at b 8
  have z2 : (b.extract 2 b.size).size = b.size - 2 := by rw [ByteArray.size_extract]; omega
  have z8 : (b.extract 8 b.size).size = b.size - 8 := by rw [ByteArray.size_extract]; omega
  have F0 := fun W l h => Lib.hid (@fk_from w W l (b.extract 2 b.size) h)
  have F8 := fun W l h => Lib.hid (@fk_from w W l (b.extract 8 b.size) h)
  have H1 := fun W l c h => Lib.hid (@fk_half w W l c (b.extract 2 b.size) (by omega) h)
  have H2 := fun W x c h => Lib.hid (@fk_half2 w W x c (b.extract 2 b.size) (by omega) h)
  have I1 := fun W l c h => Lib.hid (@fk_int w W l c (b.extract 8 b.size) (by omega) h)
  have I2 := fun W x c h => Lib.hid (@fk_int2 w W x c (b.extract 8 b.size) (by omega) h)
  rw [e2] at H1 H2
  rw [e8] at I1 I2
  have st0 : FK w w [] := ⟨Below.refl _ _, fun _ h => by simp at h, by simp⟩
  have st0d := st0.drew
  have BE : Hid (∀ W l, FK w W l → Below w.heap.size w W) := fun W l h => h.1
  have hk : Hid ((b[0]'(by omega)).toNat = kOf b.data.toList) := by
    show _ = _
    unfold kOf
    rw [List.getD_eq_getElem?_getD, List.getElem?_eq_getElem (by rw [text_len]; omega)]
    rfl
  have i2 : (2 : Int) ≤ (b.size : Int) := by omega
  have i8 : (8 : Int) ≤ (b.size : Int) := by omega
  have i0 : 0 < b.size := by omega
  have i1 : IntKind.i64.wrap (((b[0]'(by omega)).toNat : Nat) : Int) = (kOf b.data.toList : Int) := by
    rw [hk.out, IntKind.wrap_i64]
    have := (b[0]'(by omega)).toNat_lt
    rw [hk.out] at this
    omega
  unfold idOf txOf
  clear e2 e8 z2 z8
  go_enter Tryz.func105, Tryz.ntmps105
  go_wp2
  go_region_held3 (fun _ => True) (trivial)
    ((first
      | (go_at_call 136; (with_reducible refine (F0 _ _ (by assumption)).out.mono ?_); rintro e w2 ⟨c, rfl, st1⟩)
      | (go_at_call 136; (with_reducible refine (F8 _ _ (by assumption)).out.mono ?_); rintro e w2 ⟨c, rfl, st1⟩)
      | (go_at_call 137; (with_reducible refine (H1 _ _ _ (by assumption)).out.mono ?_); rintro e w2 ⟨rfl, st1⟩)
      | (go_at_call 137; (with_reducible refine (H2 _ _ _ (by assumption)).out.mono ?_); rintro e w2 ⟨rfl, st1⟩)
      | (go_at_call 138; (with_reducible refine (I1 _ _ _ (by assumption)).out.mono ?_); rintro e w2 ⟨rfl, st1⟩)
      | (go_at_call 138; (with_reducible refine (I2 _ _ _ (by assumption)).out.mono ?_); rintro e w2 ⟨rfl, st1⟩)))
  all_goals
    go_wp2
    go_ret3
    exact ⟨rfl, BE.out _ _ (by assumption)⟩

end Go.Proofs.YtbkngnjkaledlaaGreat.P5
