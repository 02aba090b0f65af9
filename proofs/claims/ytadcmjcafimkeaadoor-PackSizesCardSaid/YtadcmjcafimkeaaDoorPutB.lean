/-
  Package pack's Put, by contracts: number.
-/
import Derived.Test.YtadcmjcafimkeaaDoorPutA
namespace Go.Proofs.YtadcmjcafimkeaaDoor.P1
open Go Go.RowKit Go.Lib

theorem infoByte : (Tryd.prog.info? 5).map (fun i => (i.zero, i.size, i.bytes)) = some (some (.int .u8 0), 1, 1) := by kernel_rfl

/-- behind an append the Put's own block is what it was -/
theorem put_block {wr w' : World} {b base e : Nat} {v : Value} {n : Nat} {xs : List Value} {c : Obj} (h1 : wr.heap[b]? = some c) (h2 : wr.ownsRow base e 1 v n xs) (hbase : b < base) (hg : wr.grownBy w' v.ownBlock) : w'.heap[b]? = some c := by
  rw [hg.block b (Array.getElem?_eq_some_iff.1 h1).1 (fun e => by have := (h2.lt b e.symm).1; omega)]; exact h1
theorem owns_shape {w : World} {base e size n : Nat} {v : Value} {xs : List Value} (h : w.ownsRow base e size v n xs) : ∃ a k c, v = .slice a k c := by
  rcases h.2 with ⟨rfl, _⟩ | ⟨g, cap, cur, rfl, _⟩
  · exact ⟨_, _, _, rfl⟩
  · exact ⟨_, _, _, rfl⟩
theorem cells_snoc (xs : List UInt8) (x : Nat) : cells (xs ++ [UInt8.ofNat x]) = cells xs ++ [.int .u8 ((x : Int) % 256)] := by
  simp [cells]
theorem div_step {x n k : Nat} (h : x = n / 256 ^ k) : x / 256 = n / 256 ^ (k + 1) := by
  rw [h, Nat.div_div_eq_div_mul, Nat.pow_succ]
theorem put_stored {w : World} {b : Nat} {v v' : Value} {bad : Int} {ys : List UInt8} (h1 : w.heap[b]? = some (.cells #[v, .pointer (some ⟨b, 0, none⟩), .int .i64 bad] 29 (0, 0))) (h2 : w.ownsRow (b + 1) 5 1 v' ys.length (cells ys)) :
    PutOwn (w.setCell ⟨b, 0, none⟩ v') b ys bad := ⟨v', by rw [set_at h1]; rfl, ownsRow_setCell_below h2 (by simp) _⟩

theorem number_bad (w : World) (b : Nat) (xs : List UInt8) (bad : Int) (n : Int) (size : Int) (h : PutIs w b xs bad) (hbad : bad ≠ 0) :
    Calls Tryd.prog 43 #[.pointer (some ⟨b, 0, none⟩), .int .u64 n, .int .i64 size] w fun r w' => r = .returned (.pointer (some ⟨b, 0, none⟩)) ∧ w = w' := by
  go_enter Tryd.func43, Tryd.ntmps43
  go_wp2_with (go_at_call 45; refine (ready_bad _ b xs bad h hbad).mono ?_; rintro e w' ⟨rfl, rfl⟩)
  go_ret
  exact ⟨rfl, rfl⟩

theorem number_nil (w : World) (n : Int) (size : Int) :
    Calls Tryd.prog 43 #[.pointer none, .int .u64 n, .int .i64 size] w fun r w' => r = .returned (.pointer none) ∧ w = w' := by
  go_enter Tryd.func43, Tryd.ntmps43
  go_wp2_with (go_at_call 45; refine (ready_nil _).mono ?_; rintro e w' ⟨rfl, rfl⟩)
  go_ret
  exact ⟨rfl, rfl⟩

theorem number_ok (w : World) (b : Nat) (xs : List UInt8) (n size : Nat) (hn : n < 18446744073709551616) (hs : size ≤ 8) (hx : xs.length ≤ 140737488355000) (h : PutIs w b xs 0) :
    Calls Tryd.prog 43 #[.pointer (some ⟨b, 0, none⟩), .int .u64 n, .int .i64 size] w fun r w' => r = .returned (.pointer (some ⟨b, 0, none⟩)) ∧ PutOwn w' b (xs ++ low size n) 0 ∧ Fr b w w' := by
  obtain ⟨i0, hi, hz0, hz1, hz2⟩ := info_parts infoByte
  go_enter Tryd.func43, Tryd.ntmps43
  go_wp2_with (go_at_call 45; refine (ready_ok _ b xs h).mono ?_; rintro e w1 ⟨rfl, ho, hb⟩)
  go_loopw [1, 10] (fun v i wr => ∃ k x : Nat, k ≤ size ∧ i = .int .i64 k ∧ v = .int .u64 (x : Int) ∧ Hid (x = n / 256 ^ k) ∧ x < 18446744073709551616 ∧ PutOwn wr b (xs ++ low k n) 0 ∧ Fr b w wr) (fun _ i _ => size - (intOf i).toNat)
  case atStart => exact ⟨0, n, Nat.zero_le _, rfl, rfl, (by simp : n = n / 256 ^ 0), hn, by simpa [low_zero] using ho, hb⟩
  case round =>
    obtain ⟨k, x, hk, rfl, rfl, hxe, hxl, hown, hbel⟩ := hrel
    have hlt := hown.lt
    obtain ⟨v, h1, h2⟩ := hown
    have hll : (xs ++ low k n).length ≤ 140737488355100 := by simp [low_length]; omega
    have H1 := Lib.hid h1
    have c0 : wr.cell? ⟨b, 0, none⟩ = some v := by rw [cell_at h1]; rfl
    clear h1
    by_cases hks : k < size
    · go_wp2_with (at_builtin; refine wpList_append_own _ rfl _ _ 26 rfl (b + 1) 5 i0 (.int .u8 0) 1 1 Tryd.underlying26 hi hz0 hz1 hz2 rfl (by decide) _ _ _ rfl (h2.alloc _) ⟨wr.heap.size, 0, none⟩ 1 1 [.int .u8 ((x : Int) % 256)] rfl rfl ?c1 ?c2 ?c3 ?c4 ?c5 ?_)
      case c1 => exact cell_one_new _ _ _
      case c2 => intro u hu; simp at hu; subst hu; rfl
      case c3 => unfold maxLen; omega
      case c4 => omega
      case c5 => simp; omega
      intro v' w2 hown' hgrow _
      obtain ⟨sa, sn, sc, rfl⟩ := owns_shape hown'
      have ha1 := (show (wr.alloc (.cells #[.int .u8 ((x : Int) % 256)] 5)).heap[b]? = _ from (Below.heap_alloc wr _ b hlt).trans H1.out)
      have hblk := put_block ha1 (h2.alloc _) (by omega) hgrow
      have hb2 : Fr b w w2 := (hbel.alloc (by omega) _).grown (by simp; omega) (h2.alloc _) (by omega) hgrow
      have hys : w2.ownsRow (b + 1) 5 1 (.slice sa sn sc) (xs ++ low (k + 1) n).length (cells (xs ++ low (k + 1) n)) := by
        have e1 : xs ++ low (k + 1) n = (xs ++ low k n) ++ [UInt8.ofNat x] := by rw [low_succ, hxe.out, List.append_assoc]
        rw [e1, cells_snoc, List.length_append, List.length_append]; exact hown'
      have hst := put_stored hblk hys
      have c0' : w2.cell? ⟨b, 0, none⟩ = some v := by rw [cell_at hblk]; rfl
      have f0' : w2.frozen? ⟨b, 0, none⟩ = false := free_at hblk 0
      have hb3 : Fr b w (w2.setCell ⟨b, 0, none⟩ (.slice sa sn sc)) := hb2.setCell _ _
      have hxe' : Hid (x / 256 = n / 256 ^ (k + 1)) := div_step hxe.out
      have hx8 : x / 256 < 18446744073709551616 := by omega
      clear ha1 hblk hb2 hys hown' hgrow c0 h2 hll
      go_wp2
      go_roundw
      case rel => exact ⟨k + 1, x / 256, by omega, by go_num, by go_num, hxe', hx8, hst, hb3⟩
      case measure => simp [intOf]; omega
    · go_wp2
      go_ret
      obtain rfl : k = size := by omega
      exact ⟨rfl, ⟨v, H1.out, h2⟩, hbel⟩

end Go.Proofs.YtadcmjcafimkeaaDoor.P1
