/-
  Big.Read as the law calls it, over its own closure.
-/
import Derived.Test.YtpbaodjmkdcihaaAl11
namespace Go.Proofs.Ytpbaodjmkdcihaa.P11
open Go Go.RowKit Go.Lib Go.Proofs.Ytpbaodjmkdcihaa.PK

theorem law_read {W : World} {bl bo : Nat} {a : Option Addr} {c : Nat} {L : List Pg} {lost : Int} (f n : Nat) (hn : refOk f n) (hN : needN n ≤ L.length) (hL : L.length ≤ 1000000) (hids : ∀ (j : Nat) (p : Pg), L[j]? = some p → p.id = (f : Int) + (j : Nat))
    (hP : PgsIn W (.slice a L.length c) L) (hcl : W.cell? ⟨bl, 0, none⟩ = some (.slice a L.length c)) (hco : W.cell? ⟨bo, 0, none⟩ = some (.int .i64 lost)) (hbl : bl < W.heap.size) (hbo : bo < W.heap.size) :
    Calls Try.prog 16 #[.string (refT f n), .func (.func 14) #[] #[.pointer (some ⟨bl, 0, none⟩), .pointer (some ⟨bo, 0, none⟩)]] W fun e w' => e = .returned (.tuple #[.string (readF n (lostF L lost)).1, .int .i64 (readF n (lostF L lost)).2]) ∧ Below W.heap.size W w' :=
  read_ok W (refT f n) bl bo f n (lostF L lost) (unref_ref hn) (by have := hn.2.1; omega) (by have := hn.2.2.2; omega) fun W' hb k hk =>
    get_any W' bl bo a c L f lost k (hP.below hb) hids (by omega) hL ((hb.cell (p := ⟨bl, 0, none⟩) hbl).trans hcl) ((hb.cell (p := ⟨bo, 0, none⟩) hbo).trans hco) (Nat.lt_of_lt_of_le hbl hb.size) (Nat.lt_of_lt_of_le hbo hb.size)
theorem pagesB_ids {value : ByteArray} {first tx : Int} {n : Nat} (j : Nat) (p : Pg) (h : (pagesB value first tx n)[j]? = some p) : p.id = first + (j : Nat) := by
  have hj := (List.getElem?_eq_some_iff.1 h).1
  rw [pagesB_length] at hj
  rw [pagesB_at hj] at h
  obtain rfl := Option.some.inj h
  rfl
theorem lostF_not {value : ByteArray} {first tx : Int} {n : Nat} {lost : Int} (h : ¬ (0 ≤ lost ∧ lost < (n : Int))) (k : Nat) (hk : k < n) : lostF (pagesB value first tx n) lost k = (pageB value first tx k, 0) := by
  unfold lostF
  rw [if_neg (fun e => h (by omega)), pagesB_at hk]
  rfl
theorem lostF_hit {l : List Pg} {k : Nat} : lostF l (k : Int) k = (Pg.zero, 8) := by unfold lostF; rw [if_pos rfl]
/-- a value laid: what is told -/
theorem layB_cases (value : ByteArray) (first tx : Int) : (layB value first tx = ([], 1)) ∨ (layB value first tx = (pagesB value first tx (needN value.size), 0) ∧ layOk value first tx) := by
  by_cases h : layOk value first tx
  · exact .inr ⟨if_pos h, h⟩
  · exact .inl (if_neg h)

end Go.Proofs.Ytpbaodjmkdcihaa.P11
