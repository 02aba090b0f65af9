/-
  Rows of pages that are free or pending; slices.Delete at them. (The program's list of free ids.)
-/
import Derived.Test.YtoiaamijjcjjiaaG0
import Derived.Deep.RegionLaw
import Derived.Deep.CutRange
namespace Go.Proofs.Ytoiaamijjcjjiaa.P7
open Go Go.RowKit Go.Lib Go.Proofs.Ytoiaamijjcjjiaa.PK

abbrev spCells (s : Sp) : List Value := [.int .i64 s.id, .bool s.fr, .int .i64 s.tx]
abbrev spVal (s : Sp) : Value := .agg #[.int .i64 s.id, .bool s.fr, .int .i64 s.tx]
def spFlat (S : List Sp) : List Value := S.flatMap spCells
theorem spFlat_cons (s : Sp) (S : List Sp) : spFlat (s :: S) = spCells s ++ spFlat S := rfl
theorem spFlat_len : ∀ S : List Sp, (spFlat S).length = S.length * 3
  | [] => rfl
  | s :: S => by
    have ih := spFlat_len S
    rw [spFlat_cons, List.length_append, ih]
    show 3 + S.length * 3 = (S.length + 1) * 3
    omega
theorem spFlat_app (A B : List Sp) : spFlat (A ++ B) = spFlat A ++ spFlat B := by unfold spFlat; rw [List.flatMap_append]
theorem spFlat_one (S : List Sp) : ∀ u ∈ spFlat S, u.oneCell' = true := fun u hu => by
  obtain ⟨s, _, hu⟩ := List.mem_flatMap.1 hu
  simp only [spCells, List.mem_cons, List.not_mem_nil, or_false] at hu
  rcases hu with rfl | rfl | rfl <;> rfl
theorem spFlat_at : ∀ {S : List Sp} {k : Nat} {s : Sp}, S[k]? = some s → (spFlat S)[k * 3]? = some (.int .i64 s.id) ∧ (spFlat S)[k * 3 + 1]? = some (.bool s.fr) ∧ (spFlat S)[k * 3 + 2]? = some (.int .i64 s.tx)
  | [], k, s, h => by simp at h
  | q :: S, 0, s, h => by
    obtain rfl : q = s := by simpa using h
    exact ⟨rfl, rfl, rfl⟩
  | q :: S, k + 1, s, h => by
    obtain ⟨h1, h2, h3⟩ := spFlat_at (S := S) (k := k) (s := s) (by simpa using h)
    rw [spFlat_cons, show (k + 1) * 3 = k * 3 + 3 by omega, show k * 3 + 3 + 1 = k * 3 + 1 + 3 by omega, show k * 3 + 3 + 2 = k * 3 + 2 + 3 by omega]
    exact ⟨h1, h2, h3⟩
theorem spFlat_split (S : List Sp) (k : Nat) (hk : k ≤ S.length) : (spFlat S).take (k * 3) = spFlat (S.take k) ∧ (spFlat S).drop (k * 3) = spFlat (S.drop k) := by
  have e : spFlat S = spFlat (S.take k) ++ spFlat (S.drop k) := by rw [← spFlat_app, List.take_append_drop]
  have hl : (spFlat (S.take k)).length = k * 3 := by rw [spFlat_len, List.length_take, Nat.min_eq_left hk]
  rw [e, ← hl]
  exact ⟨List.take_left, List.drop_left⟩
def sRow (v : Value) (S : List Sp) : Row := ⟨v, 70, 3, S.length, spFlat S⟩

theorem row_setCells {lo g : Nat} : ∀ (vs : List Value) (o : Nat) {x : Row} {w : World}, x.At w lo → x.blk = some g → o + vs.length ≤ x.n * x.size → Row.At (w.setCells g o vs) lo ⟨x.v, x.e, x.size, x.n, setL x.xs o vs⟩
  | [], o, x, w, h, _, _ => h
  | v :: r, o, x, w, h, hb, hl => by
    have h1 := h.set hb o v (by simp at hl; omega)
    exact row_setCells (lo := lo) (g := g) r (o + 1) (x := ⟨x.v, x.e, x.size, x.n, x.xs.set o v⟩) h1 hb (by simp at hl ⊢; omega)
theorem gb_drew (w : World) (q : Nat) (b : Option Nat) : w.grownBy (w.drewN q) b := ⟨rfl, rfl, rfl, Nat.le_refl _, fun _ _ _ => rfl⟩
theorem gb_trans {a w w' : World} {b : Option Nat} (h : a.grownBy w b) (k : w.grownBy w' b) : a.grownBy w' b :=
  ⟨k.os.trans h.os, k.tape.trans h.tape, k.output.trans h.output, Nat.le_trans h.size k.size, fun j hj hne => (k.block j (Nat.lt_of_lt_of_le hj h.size) hne).trans (h.block j hj hne)⟩
theorem gb_setCells (g : Nat) : ∀ (vs : List Value) (o : Nat) (w : World), w.grownBy (w.setCells g o vs) (some g)
  | [], _, w => ⟨rfl, rfl, rfl, Nat.le_refl _, fun _ _ _ => rfl⟩
  | v :: r, o, w => gb_trans (setCell_grownBy w g o v) (gb_setCells g r (o + 1) _)
theorem row_drew {w : World} {lo : Nat} {x : Row} (h : x.At w lo) (q : Nat) : x.At (w.drewN q) lo := h
/-- one element more, whatever it holds -/
theorem row_more {w : World} {lo g n cap : Nat} {e : TypeId} {xs : List Value} (h : Row.At w lo ⟨.slice (some ⟨g, 0, none⟩) n cap, e, 3, n, xs⟩) (hc : n + 1 ≤ cap) :
    ∃ ys, ys.length = 3 ∧ Row.At w lo ⟨.slice (some ⟨g, 0, none⟩) (n + 1) cap, e, 3, n + 1, xs ++ ys⟩ := by
  obtain ⟨h0, h⟩ := h
  rcases h with ⟨q, _⟩ | ⟨g', cap', cur, h1, h2, h3, h4, h5, h6, h7⟩
  · cases q
  · simp only [Value.slice.injEq, Option.some.injEq, Addr.mk.injEq] at h1
    obtain ⟨⟨rfl, _⟩, _, rfl⟩ := h1
    have hl : ((cur.toList.drop (n * 3)).take 3).length = 3 := by
      have h6' : cur.size = cap * 3 := h6
      rw [List.length_take, List.length_drop, Array.length_toList, h6']
      have : (n + 1) * 3 ≤ cap * 3 := Nat.mul_le_mul_right _ hc
      omega
    refine ⟨_, hl, ⟨?_, .inr ⟨g, cap, cur, rfl, h2, h3, hc, h5, h6, ?_⟩⟩⟩
    · show (xs ++ _).length = (n + 1) * 3
      rw [List.length_append, hl]
      have : xs.length = n * 3 := h0
      omega
    · show cur.toList.take ((n + 1) * 3) = xs ++ _
      have h7' : cur.toList.take (n * 3) = xs := h7
      rw [show (n + 1) * 3 = n * 3 + 3 by omega, List.take_add, h7']
/-- fewer elements -/
theorem row_less {w : World} {lo g n cap size m : Nat} {e : TypeId} {xs : List Value} (h : Row.At w lo ⟨.slice (some ⟨g, 0, none⟩) n cap, e, size, n, xs⟩) (hm : m ≤ n) :
    Row.At w lo ⟨.slice (some ⟨g, 0, none⟩) m cap, e, size, m, xs.take (m * size)⟩ := by
  obtain ⟨h0, h⟩ := h
  rcases h with ⟨q, _⟩ | ⟨g', cap', cur, h1, h2, h3, h4, h5, h6, h7⟩
  · cases q
  · simp only [Value.slice.injEq, Option.some.injEq, Addr.mk.injEq] at h1
    obtain ⟨⟨rfl, _⟩, _, rfl⟩ := h1
    have hms : m * size ≤ n * size := Nat.mul_le_mul_right _ hm
    have h0' : xs.length = n * size := h0
    refine ⟨?_, .inr ⟨g, cap, cur, rfl, h2, h3, Nat.le_trans hm h4, h5, h6, ?_⟩⟩
    · show (xs.take (m * size)).length = m * size
      rw [List.length_take, h0', Nat.min_eq_left hms]
    · have h7' : cur.toList.take (n * size) = xs := h7
      show cur.toList.take (m * size) = xs.take (m * size)
      rw [← h7', List.take_take, Nat.min_eq_left hms]

theorem run_clear_struct {P : Program} (w : World) (t e ty : TypeId) (z : Value) (zs : List Value) (ht : P.underlying t = some (.slice e)) (hv : ∀ w, (zeroValue e).run P w = .ok z w) (b o n c : Nat) (hn : 0 < n) (hz : (Builtin.zeroCells z.cells n).toList = zs) (h1 : ∀ v ∈ zs, v.oneCell' = true)
    (hc : ∀ j, j < zs.length → (w.cell? ⟨b, o + j, none⟩).isSome = true) (hf : ∀ j, j < zs.length → w.frozen? ⟨b, o + j, none⟩ = false) :
    (Builtin.clear_ #[t] ty #[.slice (some ⟨b, o, none⟩) n c]).run P w = .ok (.tuple #[]) (w.setCells b o zs) := by
  have hst := run_storeCells_cells (P := P) b o zs 0 w (by simpa using hc) (by simpa using hf) h1
  simp only [Nat.add_zero] at hst
  obtain ⟨m, rfl⟩ : ∃ m, n = m + 1 := ⟨n - 1, by omega⟩
  simp [Builtin.clear_, run_underlying ht, hv, hz, hst]
theorem infoSp : (Try.prog.info? 70).map (fun i => (i.zero, i.size, i.bytes)) = some (some (.agg #[.int .i64 0, .bool false, .int .i64 0]), 3, 24) := by kernel_rfl
theorem zero_cells : ∀ n : Nat, ((Builtin.zeroCells (Value.agg #[.int .i64 0, .bool false, .int .i64 0]).cells n).toList).length = n * 3 ∧ ∀ v ∈ (Builtin.zeroCells (Value.agg #[.int .i64 0, .bool false, .int .i64 0]).cells n).toList, v.oneCell' = true := fun n => by
  have hc : (Value.agg #[.int .i64 0, .bool false, .int .i64 0]).cells = #[.int .i64 0, .bool false, .int .i64 0] := rfl
  rw [hc]
  refine ⟨by rw [Array.length_toList, size_zeroCells]; rfl, fun v hv => ?_⟩
  have h := Array.mem_toList_iff.1 hv
  unfold Builtin.zeroCells at h
  obtain ⟨i, _, rfl⟩ := Array.mem_map.1 h
  have h3 : i % 3 = 0 ∨ i % 3 = 1 ∨ i % 3 = 2 := by omega
  show Value.oneCell' (#[Value.int .i64 0, .bool false, .int .i64 0])[i % 3]! = true
  rcases h3 with e | e | e <;> rw [e] <;> rfl
set_option maxRecDepth 100000 in
set_option maxHeartbeats 1000000 in
theorem del_core (w : World) (g k J N M cap : Nat) (news zs : List Value) (hkJ : k < J) (hJ : J ≤ N) (hN : N ≤ cap) (hcap : cap ≤ maxLen) (hM : M = k + (N - J)) (hnl : news.length = (N - J) * 3)
    (hnew : ∀ j u, news[j]? = some u → w.cell? ⟨g, J * 3 + j, none⟩ = some u) (hn1 : ∀ u ∈ news, u.oneCell' = true)
    (hz : (Builtin.zeroCells (Value.agg #[.int .i64 0, .bool false, .int .i64 0]).cells (N - M)).toList = zs)
    (hth : ∀ j, j < N * 3 → (w.cell? ⟨g, j, none⟩).isSome = true ∧ w.frozen? ⟨g, j, none⟩ = false) :
    Calls Try.prog 34 #[.slice (some ⟨g, 0, none⟩) N cap, .int .i64 k, .int .i64 J] w fun e w' => e = .returned (.slice (some ⟨g, 0, none⟩) M cap) ∧ ∃ q, w' = ((w.drewN q).setCells g (k * 3) news).setCells g (M * 3) zs := by
  obtain ⟨i0, hi, hz0, hz1, hz2⟩ := info_parts infoSp
  obtain ⟨hzl, hzo⟩ := zero_cells (N - M)
  rw [hz] at hzl hzo
  have hsz : N - J ≤ N := Nat.sub_le _ _
  have hcl1 : ∀ ty, (Builtin.clear_ #[66] ty #[.slice (some ⟨g, M * 3, none⟩) (N - M) (cap - M)]).run Try.prog (w.drew.setCells g (k * 3) news) = .ok (.tuple #[]) ((w.drew.setCells g (k * 3) news).setCells g (M * 3) zs) := fun ty =>
    run_clear_struct (w.drew.setCells g (k * 3) news) 66 70 ty (.agg #[.int .i64 0, .bool false, .int .i64 0]) zs Try.underlying66 (fun w => by kernel_rfl) g (M * 3) (N - M) (cap - M) (by omega) hz hzo
      (fun j hj => by
        have hin : M * 3 + j < N * 3 := by omega
        by_cases hin2 : k * 3 ≤ M * 3 + j ∧ M * 3 + j < k * 3 + news.length
        · have := World.cell?_setCells_in g news (k * 3) w.drew (fun i hi => (hth (k * 3 + i) (by omega)).1) (M * 3 + j - k * 3) (by omega)
          rw [show k * 3 + (M * 3 + j - k * 3) = M * 3 + j by omega] at this
          rw [this]; rfl
        · rw [World.cell?_setCells_out g news (k * 3) w.drew ⟨g, M * 3 + j, none⟩ (fun _ _ => by show M * 3 + j < k * 3 ∨ k * 3 + news.length ≤ M * 3 + j; omega)]
          exact (hth _ hin).1)
      (fun j hj => by rw [World.frozen?_setCells]; exact (hth _ (by omega)).2)
  have k1 : ((k : Int) == (J : Int)) = false := by simp; omega
  have k2 : ¬ cap = M := by omega
  have b1 : (k : Int) ≤ (J : Int) := by omega
  have b2 : (J : Int) ≤ (N : Int) := by omega
  have b3 : (N : Int) ≤ (cap : Int) := by omega
  have b4 : (k : Int) ≤ (cap : Int) := by omega
  have b5 : (M : Int) ≤ (N : Int) := by omega
  have b6 : M ≤ cap := by omega
  have hroom : k + (N - J) ≤ cap := by omega
  have HS := Lib.hid (fun (j : Nat) (hj : j < news.length) => hth (k * 3 + j) (by omega))
  have HN := Lib.hid hnew
  have HO := Lib.hid hn1
  have HL := Lib.hid hnl
  have HM := Lib.hid hM
  unfold maxLen at hcap
  clear hth hnew hn1 hnl hzo hzl hz
  by_cases he : cap = J
  · subst he
    obtain rfl : N = cap := by omega
    have hnil : news = [] := List.eq_nil_of_length_eq_zero (by rw [HL.out]; omega)
    subst hnil
    have hcl2 : ∀ ty, (Builtin.clear_ #[66] ty #[.slice (some ⟨g, M * 3, none⟩) (N - M) (N - M)]).run Try.prog w.drew = .ok (.tuple #[]) (w.drew.setCells g (M * 3) zs) := hcl1
    clear hcl1
    obtain rfl : M = k := by rw [HM.out]; omega
    clear hM
    go_enter Try.func34, Try.ntmps34
    go_wp2_with fail
    go_region_law (refine step_append_room rfl (.tmp 22) (.tmp 25) 66 rfl 70 i0 3 Try.underlying66 hi hz1 g 0 M N (by simp [Act.eval, Act.put]) ⟨g, 0, none⟩ 0 0 [] (by simp [Act.eval, Act.put]) rfl (by intro j u hu; simp at hu) (by intro u hu; simp at hu) (by omega) (by intro j hj; simp at hj) ?_; simp only [World.setCells, Nat.add_zero])
    go_wp2
    go_ret
    exact ⟨rfl, 1, rfl⟩
  · clear hM
    have k3 : ¬ cap = J := he
    clear he
    go_enter Try.func34, Try.ntmps34
    go_wp2_with fail
    go_region_law (refine step_append_room rfl (.tmp 22) (.tmp 25) 66 rfl 70 i0 3 Try.underlying66 hi hz1 g 0 k cap (by simp [Act.eval, Act.put]) ⟨g, J * 3, none⟩ (N - J) (cap - J) news (by simp [Act.eval, Act.put]) HL.out (by intro j u hu; rw [Go.WideShapes.add_plain]; exact HN.out j u hu) HO.out hroom (by intro j hj; rw [Nat.zero_add]; exact HS.out j hj) ?_; simp only [Nat.zero_add]; rw [← HM.out])
    go_wp2
    go_ret
    exact ⟨rfl, 1, rfl⟩
/-- slices.Delete: some elements are taken out -/
theorem del_any (w : World) (lo : Nat) (sv : Value) (S : List Sp) (k n : Nat) (h : (sRow sv S).At w lo) (hk : k + n ≤ S.length) (hn : 1 ≤ n) :
    Calls Try.prog 34 #[sv, .int .i64 k, .int .i64 (k + n : Nat)] w fun e w' => ∃ v', e = .returned v' ∧ (sRow v' (cutS S k n)).At w' lo ∧ w.grownBy w' sv.ownBlock ∧ v'.ownBlock = sv.ownBlock := by
  have h0 := h
  rcases h.slice with ⟨_, q, _⟩ | ⟨g, cap, e, hb, h4, h5⟩
  · have : S.length = 0 := q
    omega
  · have e' : sv = .slice (some ⟨g, 0, none⟩) S.length cap := e
    subst e'
    obtain ⟨s1, s2⟩ := spFlat_split S (k + n) hk
    obtain ⟨zl, zo⟩ := zero_cells (S.length - (k + (S.length - (k + n))))
    have hlen := spFlat_len S
    refine (del_core w g k (k + n) S.length (k + (S.length - (k + n))) cap (spFlat (S.drop (k + n))) _ (by omega) hk h4 h5 rfl (by rw [spFlat_len, List.length_drop]) (fun j u hj => ?_) (spFlat_one _) rfl (fun j hj => ?_)).mono ?_
    · refine h0.cell hb ?_
      rw [← s2, List.getElem?_drop] at hj
      exact hj
    · exact ⟨by rw [h0.cell hb (List.getElem?_eq_getElem (show j < (spFlat S).length by omega))]; rfl, h0.free hb j⟩
    · rintro e w' ⟨rfl, q, rfl⟩
      have hl2 : (spFlat (S.drop (k + n))).length = (S.length - (k + n)) * 3 := by rw [spFlat_len, List.length_drop]
      have r1 := row_setCells (g := g) (spFlat (S.drop (k + n))) (k * 3) (row_drew h0 q) hb (by show _ ≤ S.length * 3; omega)
      have r2 := row_setCells (g := g) (Builtin.zeroCells (Value.agg #[.int .i64 0, .bool false, .int .i64 0]).cells (S.length - (k + (S.length - (k + n))))).toList ((k + (S.length - (k + n))) * 3) r1 hb (by show _ ≤ S.length * 3; omega)
      have r3 := row_less r2 (m := k + (S.length - (k + n))) (by omega)
      refine ⟨_, rfl, ?_, gb_trans (gb_trans (gb_drew w q _) (gb_setCells g _ _ _)) (gb_setCells g _ _ _), rfl⟩
      have hcl : (cutS S k n).length = k + (S.length - (k + n)) := by unfold cutS; simp; omega
      have key : List.take ((k + (S.length - (k + n))) * 3) (setL (setL (spFlat S) (k * 3) (spFlat (S.drop (k + n)))) ((k + (S.length - (k + n))) * 3) (Builtin.zeroCells (Value.agg #[.int .i64 0, .bool false, .int .i64 0]).cells (S.length - (k + (S.length - (k + n))))).toList) = spFlat (cutS S k n) := by
        have e1 := setL_eq (spFlat (S.drop (k + n))) (spFlat S) (k * 3) (by omega)
        have hl3 : (setL (spFlat S) (k * 3) (spFlat (S.drop (k + n)))).length = S.length * 3 := by
          rw [e1]; simp only [List.length_append, List.length_take, List.length_drop]; omega
        rw [setL_eq _ _ _ (by rw [hl3]; omega), List.append_assoc, List.take_append_of_le_length (by rw [List.length_take, hl3]; omega), List.take_take, Nat.min_self, e1]
        obtain ⟨s3, _⟩ := spFlat_split S k (by omega)
        rw [s3, List.take_append_of_le_length (by rw [List.length_append, spFlat_len, List.length_take, hl2]; omega), List.take_of_length_le (by rw [List.length_append, spFlat_len, List.length_take, hl2]; omega)]
        unfold cutS
        rw [spFlat_app]
      unfold sRow
      rw [hcl, ← key]
      exact r3

end Go.Proofs.Ytoiaamijjcjjiaa.P7
