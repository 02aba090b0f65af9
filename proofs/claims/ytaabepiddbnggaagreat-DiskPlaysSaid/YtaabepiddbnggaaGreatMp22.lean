/-
  Texts of the proof of SaidPlays, side by side: Dk34, Rd0.
-/
import Derived.Test.YtaabepiddbnggaaGreatMp18
import Derived.Test.YtaabepiddbnggaaGreatMp01
/-
  Package disk: Cut. (Disk, part 34.)
-/
namespace Go.Proofs.YtaabepiddbnggaaGreat.P4
open Go Go.RowKit Go.Lib Go.Maps Go.ChangeMaps Go.MapKept Go.Proofs.YtaabepiddbnggaaGreat.P3

theorem DiskAt.cutted {W w' : World} {d : Nat} {K : Dk} {n : List UInt8} {F : Fl} {sl : Value} {z : Nat} (h : DiskAt W d K) (hm : (n, F) ∈ K.files) (hF : FileAt w' (F.cut sl z)) (hsl : sl.ownBlock = F.sl.ownBlock) (hf : Fr F.foot W w') : Step W d K w' { K with files := (n, F.cut sl z) :: restF K.files n } := by
  have hp := rest_perm h.files.names hm
  have hpa := allW_perm hp
  rw [allW_cons] at hpa
  have hl := hpa.length_eq
  rw [List.length_append] at hl
  have hmany := h.many.1
  have hsub : ∀ x ∈ (F.cut sl z).ws, x ∈ F.ws := fun x hx => (List.mem_filter.1 hx).1
  have hFw : ∀ x ∈ F.ws, x ∈ allW K.files := fun x hx => allW_mem.2 ⟨_, hm, hx⟩
  have htn : ((F.cut sl z).ws.map (·.turn) ++ (allW (restF K.files n)).map (·.turn)).Nodup := by
    have := (hpa.map (·.turn)).nodup_iff.1 h.files.tnd
    rw [List.map_append] at this
    exact this.sublist (List.Sublist.append_right ((List.filter_sublist).map _) _)
  have hfoot : ∀ k, (F.cut sl z).foot k → F.foot k := by
    rintro k (hk | hk | ⟨x, hx, hk⟩)
    · exact .inl hk
    · exact .inr (.inl (hsl ▸ hk))
    · exact .inr (.inr ⟨x, hsub x hx, hk⟩)
  have hlen : (F.cut sl z).ws.length ≤ F.ws.length := List.length_filter_le _ _
  obtain ⟨h1, h2⟩ := h.file hm hF hf rfl (fun k hk => .inl (hfoot k hk)) (F.cut_ok (h.files.ok _ hm) sl z) (fun x hx => h.still x (hFw x (hsub x hx))) (fun x hx => h.turns x (hFw x (hsub x hx))) htn (by omega)
  exact ⟨h1, h2, hf.mono (fun k _ hk => .inr (.inr (.inl ⟨_, hm, hk⟩)))⟩

theorem cut_err {w : World} {d : Nat} (s : ByteArray) (i : Int) (v : Value) (z : Int) (hz : (z != 0) = true) (H : Hid (Calls Tryz.prog 95 #[.pointer (some ⟨d, 0, none⟩), .string s] w fun e w' => e = .returned (.tuple #[v, .int .i64 z]) ∧ Below w.heap.size w w')) :
    Calls Tryz.prog 30 #[.pointer (some ⟨d, 0, none⟩), .string s, .int .i64 i] w fun e w' => e = .returned (.int .i64 z) ∧ Below w.heap.size w w' := by
  go_enter Tryz.func30, Tryz.ntmps30
  go_wp2_with (go_at_call 95; (with_reducible refine H.out.mono ?_); rintro e w' ⟨rfl, hb⟩; have HB := Lib.hid hb; clear hb)
  go_ret
  exact ⟨rfl, HB.out⟩
theorem cut_low {w : World} {d b : Nat} (s : ByteArray) (i : Int) (hi : i < 0) (H : Hid (Calls Tryz.prog 95 #[.pointer (some ⟨d, 0, none⟩), .string s] w fun e w' => e = .returned (.tuple #[.pointer (some ⟨b, 0, none⟩), .int .i64 0]) ∧ Below w.heap.size w w')) :
    Calls Tryz.prog 30 #[.pointer (some ⟨d, 0, none⟩), .string s, .int .i64 i] w fun e w' => e = .returned (.int .i64 15) ∧ Below w.heap.size w w' := by
  go_enter Tryz.func30, Tryz.ntmps30
  go_wp2_with (go_at_call 95; (with_reducible refine H.out.mono ?_); rintro e w' ⟨rfl, hb⟩; have HB := Lib.hid hb; clear hb)
  go_ret
  exact ⟨rfl, HB.out⟩
theorem cut_high {w : World} {d b n : Nat} (s : ByteArray) (i : Int) (hi0 : ¬ i < 0) (hi : (n : Int) < i) (H : Hid (Calls Tryz.prog 95 #[.pointer (some ⟨d, 0, none⟩), .string s] w fun e w' => e = .returned (.tuple #[.pointer (some ⟨b, 0, none⟩), .int .i64 0]) ∧ Below w.heap.size w w'))
    (HS : Hid (∀ W, Below w.heap.size w W → Calls Tryz.prog 87 #[.pointer (some ⟨b, 0, none⟩)] W fun e w' => e = .returned (.int .i64 n) ∧ W = w')) :
    Calls Tryz.prog 30 #[.pointer (some ⟨d, 0, none⟩), .string s, .int .i64 i] w fun e w' => e = .returned (.int .i64 15) ∧ Below w.heap.size w w' := by
  go_enter Tryz.func30, Tryz.ntmps30
  go_wp2_with (first
    | (go_at_call 95; (with_reducible refine H.out.mono ?_); rintro e w' ⟨rfl, hb⟩; have HB := Lib.hid hb; clear hb)
    | (go_at_call 87; (with_reducible refine (HS.out _ HB.out).mono ?_); rintro e w2 ⟨rfl, rfl⟩))
  go_ret
  exact ⟨rfl, HB.out⟩
theorem cut_falls {w : World} {d b n : Nat} {K : Dk} (s : ByteArray) (i : Nat) (hi : i ≤ n) (H : Hid (Calls Tryz.prog 95 #[.pointer (some ⟨d, 0, none⟩), .string s] w fun e w' => e = .returned (.tuple #[.pointer (some ⟨b, 0, none⟩), .int .i64 0]) ∧ Below w.heap.size w w'))
    (HS : Hid (∀ W, Below w.heap.size w W → Calls Tryz.prog 87 #[.pointer (some ⟨b, 0, none⟩)] W fun e w' => e = .returned (.int .i64 n) ∧ W = w'))
    (HC : Hid (∀ W, Below w.heap.size w W → Calls Tryz.prog 92 #[.pointer (some ⟨d, 0, none⟩)] W fun e w' => e = .returned (.int .i64 14) ∧ ∃ n K', Crashed W d K K.keep n K' w')) :
    Calls Tryz.prog 30 #[.pointer (some ⟨d, 0, none⟩), .string s, .int .i64 i] w (FallPost w d K) := by
  have h1 : ¬ ((i : Int) < 0) := by omega
  have h2 : ¬ ((n : Int) < (i : Int)) := by omega
  go_enter Tryz.func30, Tryz.ntmps30
  go_wp2_with (first
    | (go_at_call 95; (with_reducible refine H.out.mono ?_); rintro e w1 ⟨rfl, hb⟩; have HB := Lib.hid hb; clear hb)
    | (go_at_call 87; (with_reducible refine (HS.out _ HB.out).mono ?_); rintro e w2 ⟨rfl, rfl⟩)
    | (go_at_call 92; (with_reducible refine (HC.out _ HB.out).mono ?_); rintro e w2 ⟨rfl, n, K', hcr⟩; have HR := Lib.hid hcr; clear hcr))
  go_ret
  exact ⟨_, n, K', rfl, HB.out, HR.out⟩
theorem cut_done {w : World} {d b n : Nat} (s : ByteArray) (i : Nat) (hi : i ≤ n) (P : World → Prop) (Q : World → Prop) (H : Hid (Calls Tryz.prog 95 #[.pointer (some ⟨d, 0, none⟩), .string s] w fun e w' => e = .returned (.tuple #[.pointer (some ⟨b, 0, none⟩), .int .i64 0]) ∧ Below w.heap.size w w'))
    (HS : Hid (∀ W, Below w.heap.size w W → Calls Tryz.prog 87 #[.pointer (some ⟨b, 0, none⟩)] W fun e w' => e = .returned (.int .i64 n) ∧ W = w'))
    (HC : Hid (∀ W, Below w.heap.size w W → Calls Tryz.prog 92 #[.pointer (some ⟨d, 0, none⟩)] W fun e w' => e = .returned (.int .i64 0) ∧ P w'))
    (HX : Hid (∀ W, P W → Calls Tryz.prog 102 #[.pointer (some ⟨b, 0, none⟩), .int .i64 i] W fun e w' => e = .returned (.tuple #[]) ∧ Q w')) :
    Calls Tryz.prog 30 #[.pointer (some ⟨d, 0, none⟩), .string s, .int .i64 i] w fun e w' => e = .returned (.int .i64 0) ∧ Q w' := by
  have h1 : ¬ ((i : Int) < 0) := by omega
  have h2 : ¬ ((n : Int) < (i : Int)) := by omega
  go_enter Tryz.func30, Tryz.ntmps30
  go_wp2_with (first
    | (go_at_call 95; (with_reducible refine H.out.mono ?_); rintro e w1 ⟨rfl, hb⟩; have HB := Lib.hid hb; clear hb)
    | (go_at_call 87; (with_reducible refine (HS.out _ HB.out).mono ?_); rintro e w2 ⟨rfl, rfl⟩)
    | (go_at_call 92; (with_reducible refine (HC.out _ HB.out).mono ?_); rintro e w2 ⟨rfl, hp⟩; have HP := Lib.hid hp; clear hp)
    | (go_at_call 102; (with_reducible refine (HX.out _ HP.out).mono ?_); rintro e w3 ⟨rfl, hq⟩; have HQ := Lib.hid hq; clear hq))
  go_ret
  exact ⟨rfl, HQ.out⟩

/-- what stands against a Cut -/
def cutE (K : Dk) (s : ByteArray) (i : Int) : Int :=
  if errF K.on s.size (getF K.files s.data.toList) ≠ 0 then errF K.on s.size (getF K.files s.data.toList)
  else if i < 0 ∨ (sizeN K.files s.data.toList : Int) < i then 15 else 0
/-- Cut: an error; the power goes; or the file is cut -/
inductive CutPost4 (w : World) (d : Nat) (K : Dk) (s : ByteArray) (i : Int) : Ending → World → Prop where
  | err {w'} : cutE K s i ≠ 0 → Below w.heap.size w w' → CutPost4 w d K s i (.returned (.int .i64 (cutE K s i))) w'
  | falls {w1 w' n K'} : cutE K s i = 0 → K.armed = true → ¬ 0 < K.left → Below w.heap.size w w1 → Crashed w1 d K K.keep n K' w' → CutPost4 w d K s i (.returned (.int .i64 14)) w'
  | done {w' F sl} : cutE K s i = 0 → (K.armed = false ∨ 0 < K.left) → getF K.files s.data.toList = some F → Step w d K w' { counted K with files := (s.data.toList, F.cut sl i.toNat) :: restF K.files s.data.toList } → CutPost4 w d K s i (.returned (.int .i64 0)) w'
theorem DiskAt.cut {w : World} {d : Nat} {K : Dk} (h : DiskAt w d K) (s : ByteArray) (i : Int) (hs : s.size ≤ maxLen) (hl : K.left ≤ 9223372036854775807) :
    Calls Tryz.prog 30 #[.pointer (some ⟨d, 0, none⟩), .string s, .int .i64 i] w (CutPost4 w d K s i) := by
  have HF := h.find s hs
  by_cases he : errF K.on s.size (getF K.files s.data.toList) ≠ 0
  · have e0 : cutE K s i = errF K.on s.size (getF K.files s.data.toList) := by unfold cutE; rw [if_pos he]
    obtain ⟨p, hp⟩ := ptr_shape (if errn K.on s.size = 0 then (getF K.files s.data.toList).map (·.b) else none)
    rw [hp] at HF
    refine (cut_err s i _ _ (by simpa using he) HF).mono ?_
    rintro e w' ⟨rfl, hb⟩
    rw [← e0]
    exact .err (by rw [e0]; exact he) hb
  · have he : errF K.on s.size (getF K.files s.data.toList) = 0 := Decidable.not_not.1 he
    obtain ⟨h0, F, hF⟩ := errF_zero he
    have hon := errn_on h0
    have he2 := he
    rw [he2, if_pos h0, hF] at HF
    have hm := getF_mem hF
    have hz : sizeN K.files s.data.toList = F.secs.length := by unfold sizeN; rw [hF]
    have hfl := h.files.at' _ hm
    have HS : Hid (∀ W, Below w.heap.size w W → Calls Tryz.prog 87 #[.pointer (some ⟨F.b, 0, none⟩)] W fun e w' => e = .returned (.int .i64 F.secs.length) ∧ W = w') := fun W hW => (hfl.below hW).size
    have e0 : cutE K s i = if i < 0 ∨ (F.secs.length : Int) < i then 15 else 0 := by unfold cutE; rw [if_neg (by simpa using he), hz]
    by_cases hi : i < 0 ∨ (F.secs.length : Int) < i
    · rw [if_pos hi] at e0
      have hp : ∀ e w', (e = .returned (.int .i64 15) ∧ Below w.heap.size w w') → CutPost4 w d K s i e w' := by
        rintro e w' ⟨rfl, hb⟩
        rw [← e0]
        exact .err (by rw [e0]; decide) hb
      by_cases h1 : i < 0
      · exact (cut_low s i h1 HF).mono hp
      · exact (cut_high s i h1 (by omega) HF HS).mono hp
    · rw [if_neg hi] at e0
      obtain ⟨j, rfl⟩ : ∃ j : Nat, i = (j : Int) := ⟨i.toNat, by omega⟩
      have hj : j ≤ F.secs.length := by omega
      by_cases hk : K.armed = false ∨ 0 < K.left
      · refine (cut_done (b := F.b) s j hj (fun W => Step w d K W (counted K)) (fun W => ∃ sl, Step w d K W { counted K with files := (s.data.toList, F.cut sl j) :: restF K.files s.data.toList }) HF HS
          (fun W hW => ((h.below hW).count0 hon hl hk).mono fun e w' hp => ⟨hp.1, (Step.below h hW).trans hp.2⟩) (fun W hW => ?_)).mono ?_
        · have hm2 : (s.data.toList, F) ∈ (counted K).files := by rw [counted_files]; exact hm
          refine ((hW.at'.files.at' _ hm2).cut (hW.at'.files.ok _ hm2) j hj).mono ?_
          rintro e w' ⟨rfl, sl, h1, h2, h3⟩
          have := hW.at'.cutted hm2 h1 h2 h3
          rw [counted_files] at this
          exact ⟨rfl, sl, hW.trans this⟩
        · rintro e w' ⟨rfl, sl, hst⟩
          exact .done e0 hk hF (by rw [Int.toNat_natCast]; exact hst)
      · have ha : K.armed = true := by cases hx : K.armed with
          | true => rfl
          | false => exact absurd (.inl hx) hk
        refine (cut_falls (b := F.b) s j hj HF HS (fun W hW => (h.below hW).count14 hon hl ha (fun hx => hk (.inr hx)))).mono ?_
        rintro e w' ⟨w1, n, K', rfl, hb, hc⟩
        exact .falls e0 ha (fun hx => hk (.inr hx)) hb hc

end Go.Proofs.YtaabepiddbnggaaGreat.P4

/-
  The document's disk, part 0: its files, its writes, itself, as they stand in memory.
-/
namespace Go.Proofs.YtaabepiddbnggaaGreat.P4
open Go Go.RowKit Go.Lib Go.Proofs.YtaabepiddbnggaaGreat.P3

theorem rd_ext {a b : ByteArray} (h : a.data.toList = b.data.toList) : a = b := by
  have e : ∀ s : ByteArray, (⟨s.data.toList.toArray⟩ : ByteArray) = s := fun s => by simp
  rw [← e a, ← e b, h]
theorem same_true {a b : ByteArray} (h : a = b) : (a.toList == b.toList) = true := by rw [h]; exact beq_self_eq_true _
theorem same_false {a b : ByteArray} (h : a ≠ b) : (a.toList == b.toList) = false := by
  rw [beq_eq_false_iff_ne, ByteArray.toList_eq, ByteArray.toList_eq]
  exact fun e => h (rd_ext e)
theorem flat_length {α : Type} {g : α → List Value} {n : Nat} (hn : ∀ a, (g a).length = n) : ∀ l : List α, (l.flatMap g).length = l.length * n
  | [] => by simp
  | a :: l => by
    rw [List.flatMap_cons, List.length_append, hn, flat_length hn l, List.length_cons, Nat.succ_mul]
    omega
theorem flat_at {α : Type} {g : α → List Value} {n : Nat} (hn : ∀ a, (g a).length = n) : ∀ (l : List α) (i j : Nat) (a : α), l[i]? = some a → j < n → (l.flatMap g)[i * n + j]? = (g a)[j]?
  | [], i, j, a, h, _ => by simp at h
  | b :: l, 0, j, a, h, hj => by
    obtain rfl : b = a := by simpa using h
    rw [List.flatMap_cons, Nat.zero_mul, Nat.zero_add, List.getElem?_append_left (by rw [hn]; exact hj)]
  | b :: l, i + 1, j, a, h, hj => by
    rw [List.flatMap_cons, List.getElem?_append_right (by rw [hn, Nat.succ_mul]; omega), hn]
    rw [show (i + 1) * n + j - n = i * n + j from by rw [Nat.succ_mul]; omega]
    exact flat_at hn l i j a (by simpa using h) hj
theorem flat_set {α : Type} {g : α → List Value} {n : Nat} (hn : ∀ a, (g a).length = n) : ∀ (l : List α) (i j : Nat) (a b : α) (u : Value), l[i]? = some a → j < n → g b = (g a).set j u → (l.set i b).flatMap g = (l.flatMap g).set (i * n + j) u
  | [], i, j, a, b, u, h, _, _ => by simp at h
  | c :: l, 0, j, a, b, u, h, hj, hb => by
    obtain rfl : c = a := by simpa using h
    rw [List.set_cons_zero, List.flatMap_cons, List.flatMap_cons, Nat.zero_mul, Nat.zero_add, List.set_append_left _ _ (by rw [hn]; exact hj), hb]
  | c :: l, i + 1, j, a, b, u, h, hj, hb => by
    rw [List.set_cons_succ, List.flatMap_cons, List.flatMap_cons, List.set_append_right _ _ (by rw [hn, Nat.succ_mul]; omega), hn]
    rw [show (i + 1) * n + j - n = i * n + j from by rw [Nat.succ_mul]; omega]
    rw [flat_set hn l i j a b u (by simpa using h) hj hb]

/-- a file of the document's disk: its name, its number, its sectors, the safe ones; their slices -/
structure MF where
  name : ByteArray
  id : Nat
  now : List ByteArray
  safe : List ByteArray
  made : Bool
  nv : Value
  sv : Value
def MF.cells (f : MF) : List Value := [.string f.name, .int .i64 f.id, f.nv, f.sv, .bool f.made, .bool false]
/-- a write that is not safe (its turn: the program's count, no part of it) -/
structure RW where
  turn : Nat
  file : Nat
  pos : Nat
  data : ByteArray
def RW.cells (x : RW) : List Value := [.int .i64 x.file, .int .i64 x.pos, .string x.data]
theorem MF.six (f : MF) : f.cells.length = 6 := rfl
theorem RW.three (f : RW) : f.cells.length = 3 := rfl

/-- sectors that are never changed: a slice from its block's first cell on -/
def Txt (w : World) (v : Value) (l : List ByteArray) : Prop :=
  (v = .slice none 0 0 ∧ l = []) ∨ ∃ (b c : Nat) (cur : Array Value), v = .slice (some ⟨b, 0, none⟩) l.length c ∧ l.length ≤ c ∧ c ≤ maxLen ∧ w.heap[b]? = some (.cells cur 9 (0, 0)) ∧ ∀ (i : Nat) (s : ByteArray), l[i]? = some s → cur[i]? = some (.string s)
theorem Txt.fr {w w' : World} {v : Value} {l : List ByteArray} (h : Txt w v l) (k : ∀ b, v.ownBlock = some b → w'.heap[b]? = w.heap[b]?) : Txt w' v l := by
  rcases h with h | ⟨b, c, cur, rfl, h1, h2, h3, h4⟩
  · exact .inl h
  · exact .inr ⟨b, c, cur, rfl, h1, h2, by rw [k b rfl]; exact h3, h4⟩
theorem Txt.lt {w : World} {v : Value} {l : List ByteArray} (h : Txt w v l) {b : Nat} (hb : v.ownBlock = some b) : b < w.heap.size ∧ ∃ cur : Array Value, w.heap[b]? = some (.cells cur 9 (0, 0)) := by
  rcases h with ⟨rfl, _⟩ | ⟨b', c, cur, rfl, h1, h2, h3, h4⟩
  · cases hb
  · obtain rfl : b' = b := by simpa [Value.ownBlock] using hb
    exact ⟨lt_of_block h3, cur, h3⟩
theorem Txt.below {w w' : World} {v : Value} {l : List ByteArray} (h : Txt w v l) (k : Below w.heap.size w w') : Txt w' v l := h.fr fun _ hb => k.block _ (h.lt hb).1
/-- its shape -/
theorem Txt.shape {w : World} {v : Value} {l : List ByteArray} (h : Txt w v l) : ∃ a c, v = .slice a l.length c ∧ l.length ≤ c ∧ c ≤ maxLen ∧ ∀ (i : Nat) (s : ByteArray), l[i]? = some s → ∃ b, a = some ⟨b, 0, none⟩ ∧ w.cell? ⟨b, i, none⟩ = some (.string s) := by
  rcases h with ⟨rfl, rfl⟩ | ⟨b, c, cur, rfl, h1, h2, h3, h4⟩
  · exact ⟨none, 0, rfl, Nat.le_refl _, Nat.zero_le _, fun i s h => by simp at h⟩
  · exact ⟨_, c, rfl, h1, h2, fun i s h => ⟨b, rfl, by rw [cell_at h3]; exact h4 i s h⟩⟩
theorem Txt.take {w : World} {b c : Nat} {l : List ByteArray} (h : Txt w (.slice (some ⟨b, 0, none⟩) l.length c) l) (n : Nat) (hn : n ≤ l.length) : Txt w (.slice (some ⟨b, 0, none⟩) n n) (l.take n) := by
  rcases h with ⟨h, _⟩ | ⟨b', c', cur, h0, h1, h2, h3, h4⟩
  · cases h
  · obtain ⟨rfl, rfl⟩ : b = b' ∧ c = c' := by simpa using h0
    have e : (l.take n).length = n := by rw [List.length_take]; omega
    refine .inr ⟨b, n, cur, by rw [e], by omega, by omega, h3, fun i s hs => ?_⟩
    rw [List.getElem?_take] at hs
    split at hs
    · exact h4 i s hs
    · cases hs

/-- the document's disk -/
structure RM where
  lv : Value
  wv : Value
  kv : Value
  fs : List MF
  ws : List RW
  off : Bool
  room : Int
  armed : Bool
  n : Int
  ids : Nat
def RM.cells (D : RM) : List Value := [D.lv, D.wv, .bool D.off, .int .i64 D.room, .bool D.armed, .int .i64 D.n, D.kv, .int .i64 D.ids]
/-- the blocks that are its own -/
def RM.own (D : RM) (r k : Nat) : Prop := k = r ∨ D.lv.ownBlock = some k ∨ D.wv.ownBlock = some k
/-- the blocks that it reads -/
def RM.foot (D : RM) (r k : Nat) : Prop := D.own r k ∨ ∃ f ∈ D.fs, f.nv.ownBlock = some k ∨ f.sv.ownBlock = some k
/-- it stands at block r -/
structure RAt (lo : Nat) (w : World) (r : Nat) (D : RM) : Prop where
  blk : w.heap[r]? = some (.cells D.cells.toArray 32 (0, 0))
  lo_ : lo ≤ r
  lrow : w.ownsRow lo 83 6 D.lv D.fs.length (D.fs.flatMap MF.cells)
  wrow : w.ownsRow lo 127 3 D.wv D.ws.length (D.ws.flatMap RW.cells)
  txt : ∀ f ∈ D.fs, Txt w f.nv f.now ∧ Txt w f.sv f.safe
  few : D.fs.length ≤ 60
  few2 : D.ws.length ≤ 9000
  long : ∀ f ∈ D.fs, f.now.length ≤ 4001 ∧ f.safe.length ≤ 4001
theorem owned_at {w : World} {lo e size n g : Nat} {v : Value} {xs : List Value} (h : w.ownsRow lo e size v n xs) (hb : v.ownBlock = some g) : lo ≤ g ∧ ∃ cur : Array Value, w.heap[g]? = some (.cells cur e (0, 0)) := by
  rcases h.2 with ⟨rfl, _⟩ | ⟨g', cap, cur, rfl, h2, h3, _⟩
  · cases hb
  · obtain rfl : g' = g := by simpa [Value.ownBlock] using hb
    exact ⟨h2, cur, h3⟩
theorem owned_fr {w w' : World} {lo e size n : Nat} {v : Value} {xs : List Value} (h : w.ownsRow lo e size v n xs) (k : ∀ b, v.ownBlock = some b → w'.heap[b]? = w.heap[b]?) : w'.ownsRow lo e size v n xs := by
  refine ⟨h.1, h.2.imp id fun ⟨g, cap, cur, h1, h2, h3, h4⟩ => ⟨g, cap, cur, h1, h2, ?_, h4⟩⟩
  rw [k g (by rw [h1]; rfl)]
  exact h3
section
variable {lo : Nat} {w w' : World} {r : Nat} {D : RM}
theorem RAt.own_lt (h : RAt lo w r D) {k : Nat} (hk : D.own r k) : lo ≤ k ∧ k < w.heap.size := by
  rcases hk with rfl | hk | hk
  · exact ⟨h.lo_, lt_of_block h.blk⟩
  · obtain ⟨h1, cur, h2⟩ := owned_at h.lrow hk
    exact ⟨h1, lt_of_block h2⟩
  · obtain ⟨h1, cur, h2⟩ := owned_at h.wrow hk
    exact ⟨h1, lt_of_block h2⟩
theorem RAt.foot_lt (h : RAt lo w r D) {k : Nat} (hk : D.foot r k) : k < w.heap.size := by
  rcases hk with hk | ⟨f, hf, hk | hk⟩
  · exact (h.own_lt hk).2
  · exact ((h.txt f hf).1.lt hk).1
  · exact ((h.txt f hf).2.lt hk).1
/-- where its blocks stay it stays -/
theorem RAt.fr (h : RAt lo w r D) (k : ∀ b, D.foot r b → w'.heap[b]? = w.heap[b]?) : RAt lo w' r D :=
  ⟨by rw [k r (.inl (.inl rfl))]; exact h.blk, h.lo_, owned_fr h.lrow fun b hb => k b (.inl (.inr (.inl hb))), owned_fr h.wrow fun b hb => k b (.inl (.inr (.inr hb))),
    fun f hf => ⟨(h.txt f hf).1.fr fun b hb => k b (.inr ⟨f, hf, .inl hb⟩), (h.txt f hf).2.fr fun b hb => k b (.inr ⟨f, hf, .inr hb⟩)⟩, h.few, h.few2, h.long⟩
theorem RAt.below (h : RAt lo w r D) (k : Below w.heap.size w w') : RAt lo w' r D := h.fr fun _ hb => k.block _ (h.foot_lt hb)
theorem RAt.frS {S : Nat → Prop} (h : RAt lo w r D) (k : Fr S w w') (hn : ∀ b, D.foot r b → ¬ S b) : RAt lo w' r D := h.fr fun _ hb => k.block _ (h.foot_lt hb) (hn _ hb)
/-- its own blocks are three, and no sectors stand in them -/
theorem RAt.apart (h : RAt lo w r D) : D.lv.ownBlock ≠ some r ∧ D.wv.ownBlock ≠ some r ∧ (∀ k, D.lv.ownBlock = some k → D.wv.ownBlock ≠ some k) := by
  refine ⟨fun e => ?_, fun e => ?_, fun k e e2 => ?_⟩
  · obtain ⟨_, cur, h2⟩ := owned_at h.lrow e
    rw [h.blk] at h2
    simp at h2
  · obtain ⟨_, cur, h2⟩ := owned_at h.wrow e
    rw [h.blk] at h2
    simp at h2
  · obtain ⟨_, cur, h2⟩ := owned_at h.lrow e
    obtain ⟨_, cur2, h3⟩ := owned_at h.wrow e2
    rw [h2] at h3
    simp at h3
theorem RAt.txt_own (h : RAt lo w r D) {v : Value} {l : List ByteArray} (ht : Txt w v l) {k : Nat} (hk : v.ownBlock = some k) : ¬ D.own r k := by
  obtain ⟨_, cur, e⟩ := ht.lt hk
  rintro (rfl | h2 | h2)
  · rw [h.blk] at e
    simp at e
  · obtain ⟨_, cur, h2⟩ := owned_at h.lrow h2
    rw [h2] at e
    simp at e
  · obtain ⟨_, cur, h2⟩ := owned_at h.wrow h2
    rw [h2] at e
    simp at e
/-- its files' row -/
theorem RAt.files (h : RAt lo w r D) : ∃ a c, D.lv = .slice a D.fs.length c ∧ D.fs.length ≤ c ∧ ∀ (i : Nat) (f : MF), D.fs[i]? = some f → ∃ g, a = some ⟨g, 0, none⟩ ∧ D.lv.ownBlock = some g ∧ ∀ (j : Nat) (u : Value), f.cells[j]? = some u → w.cell? ⟨g, i * 6 + j, none⟩ = some u := by
  rcases h.lrow.2 with ⟨e, e2⟩ | ⟨g, cap, cur, e, h2, h3, h4, h5, h6, h7⟩
  · refine ⟨none, 0, by rw [e, e2], by omega, fun i f hf => ?_⟩
    have := (List.getElem?_eq_some_iff.1 hf).1
    omega
  · refine ⟨_, cap, e, h4, fun i f hf => ⟨g, rfl, by rw [e]; rfl, fun j u hu => ?_⟩⟩
    have hj : j < 6 := by have := (List.getElem?_eq_some_iff.1 hu).1; rwa [MF.six] at this
    have := h.lrow.cells (by rw [e]; rfl) (i * 6 + j) u (by rw [flat_at MF.six _ _ _ _ hf hj]; exact hu)
    rwa [Go.WideShapes.add_plain, Nat.zero_add] at this
theorem RAt.writes (h : RAt lo w r D) : ∃ a c, D.wv = .slice a D.ws.length c ∧ D.ws.length ≤ c ∧ ∀ (i : Nat) (x : RW), D.ws[i]? = some x → ∃ g, a = some ⟨g, 0, none⟩ ∧ D.wv.ownBlock = some g ∧ ∀ (j : Nat) (u : Value), x.cells[j]? = some u → w.cell? ⟨g, i * 3 + j, none⟩ = some u := by
  rcases h.wrow.2 with ⟨e, e2⟩ | ⟨g, cap, cur, e, h2, h3, h4, h5, h6, h7⟩
  · refine ⟨none, 0, by rw [e, e2], by omega, fun i f hf => ?_⟩
    have := (List.getElem?_eq_some_iff.1 hf).1
    omega
  · refine ⟨_, cap, e, h4, fun i x hx => ⟨g, rfl, by rw [e]; rfl, fun j u hu => ?_⟩⟩
    have hj : j < 3 := by have := (List.getElem?_eq_some_iff.1 hu).1; rwa [RW.three] at this
    have := h.wrow.cells (by rw [e]; rfl) (i * 3 + j) u (by rw [flat_at RW.three _ _ _ _ hx hj]; exact hu)
    rwa [Go.WideShapes.add_plain, Nat.zero_add] at this
theorem RAt.cell (h : RAt lo w r D) (j : Nat) : w.cell? ⟨r, j, none⟩ = D.cells[j]? := by rw [cell_at h.blk]; simp
theorem RAt.free (h : RAt lo w r D) (j : Nat) : w.frozen? ⟨r, j, none⟩ = false := free_at h.blk j
end

end Go.Proofs.YtaabepiddbnggaaGreat.P4
