/-
  Texts of the proof of SaidPlay8b.
-/
import Derived.Test.YtbkngnjkaledlaaGreatMp12
set_option maxRecDepth 100000
namespace Go.Proofs.YtbkngnjkaledlaaGreat.P4
open Go Go.RowKit Go.Lib Go.Maps Go.ChangeMaps Go.MapKept P3
theorem DiskAt.cutted {W w' : World} {d : Nat} {K : Dk} {n : List UInt8} {F : Fl} {sl : Value} {z : Nat} (h : DiskAt W d K) (hm : (n, F) ∈ K.files) (hF : FileAt w' (F.cut sl z)) (hsl : sl.ownBlock = F.sl.ownBlock) (hf : Fr F.foot W w') : Step W d K w' { K with files := (n, F.cut sl z) :: restF K.files n } := by
 have hp := rest_perm h.files.names hm
 have hpa := allW_perm hp
 rw [allW_cons] at hpa
 have hl := hpa.length_eq
 rw [List.length_append] at hl
 have hmany := h.many.1
 have hsub : ∀ x ∈ (F.cut sl z).ws, x ∈ F.ws := fun x hx => (List.mem_filter.1 hx).1
 have hFw : ∀ x ∈ F.ws, x ∈ allW K.files := fun x hx => allW_mem.2 ⟨_, hm, hx⟩
 have htn : ((F.cut sl z).ws.map (·.turn) ++ (allW (restF K.files n)).map (·.turn)).Nodup := by
  have := (hpa.map (·.turn)).nodup_iff.1 h.files.tnd
  rw [List.map_append] at this
  exact this.sublist (List.Sublist.append_right ((List.filter_sublist).map _) _)
 have hfoot : ∀ k, (F.cut sl z).foot k → F.foot k := by
  rintro k (hk | hk | ⟨x, hx, hk⟩)
  ·exact .inl hk
  ·exact .inr (.inl (hsl ▸ hk))
  ·exact .inr (.inr ⟨x, hsub x hx, hk⟩)
 have hlen : (F.cut sl z).ws.length ≤ F.ws.length := List.length_filter_le _ _
 obtain ⟨h1, h2⟩ := h.file hm hF hf rfl (fun k hk => .inl (hfoot k hk)) (F.cut_ok (h.files.ok _ hm) sl z) (fun x hx => h.still x (hFw x (hsub x hx))) (fun x hx => h.turns x (hFw x (hsub x hx))) htn (by omega)
 exact ⟨h1, h2, hf.mono (fun k _ hk => .inr (.inr (.inl ⟨_, hm, hk⟩)))⟩
theorem cut_err {w : World} {d : Nat} (s : ByteArray) (i : Int) (v : Value) (z : Int) (hz : (z != 0) = true) (H : Hid (Calls Tryz.prog 98 #[.pointer (some ⟨d, 0, none⟩), .string s] w fun e w' => e = .returned (.tuple #[v, .int .i64 z]) ∧ Below w.heap.size w w')) :
  Calls Tryz.prog 53 #[.pointer (some ⟨d, 0, none⟩), .string s, .int .i64 i] w fun e w' => e = .returned (.int .i64 z) ∧ Below w.heap.size w w' := by
 go_enter Tryz.func53, Tryz.ntmps53
 go_wp2_with (go_at_call 98; (with_reducible refine H.out.mono ?_); rintro e w' ⟨rfl, hb⟩; have HB := Lib.hid hb; clear hb)
 go_ret
 exact ⟨rfl, HB.out⟩
theorem cut_low {w : World} {d b : Nat} (s : ByteArray) (i : Int) (hi : i < 0) (H : Hid (Calls Tryz.prog 98 #[.pointer (some ⟨d, 0, none⟩), .string s] w fun e w' => e = .returned (.tuple #[.pointer (some ⟨b, 0, none⟩), .int .i64 0]) ∧ Below w.heap.size w w')) :
  Calls Tryz.prog 53 #[.pointer (some ⟨d, 0, none⟩), .string s, .int .i64 i] w fun e w' => e = .returned (.int .i64 15) ∧ Below w.heap.size w w' := by
 go_enter Tryz.func53, Tryz.ntmps53
 go_wp2_with (go_at_call 98; (with_reducible refine H.out.mono ?_); rintro e w' ⟨rfl, hb⟩; have HB := Lib.hid hb; clear hb)
 go_ret
 exact ⟨rfl, HB.out⟩
theorem cut_high {w : World} {d b n : Nat} (s : ByteArray) (i : Int) (hi0 : ¬ i < 0) (hi : (n : Int) < i) (H : Hid (Calls Tryz.prog 98 #[.pointer (some ⟨d, 0, none⟩), .string s] w fun e w' => e = .returned (.tuple #[.pointer (some ⟨b, 0, none⟩), .int .i64 0]) ∧ Below w.heap.size w w'))
  (HS : Hid (∀ W, Below w.heap.size w W → Calls Tryz.prog 93 #[.pointer (some ⟨b, 0, none⟩)] W fun e w' => e = .returned (.int .i64 n) ∧ W = w')) :
  Calls Tryz.prog 53 #[.pointer (some ⟨d, 0, none⟩), .string s, .int .i64 i] w fun e w' => e = .returned (.int .i64 15) ∧ Below w.heap.size w w' := by
 go_enter Tryz.func53, Tryz.ntmps53
 go_wp2_with (first
  | (go_at_call 98; (with_reducible refine H.out.mono ?_); rintro e w' ⟨rfl, hb⟩; have HB := Lib.hid hb; clear hb)
  | (go_at_call 93; (with_reducible refine (HS.out _ HB.out).mono ?_); rintro e w2 ⟨rfl, rfl⟩))
 go_ret
 exact ⟨rfl, HB.out⟩
theorem cut_falls {w : World} {d b n : Nat} {K : Dk} (s : ByteArray) (i : Nat) (hi : i ≤ n) (H : Hid (Calls Tryz.prog 98 #[.pointer (some ⟨d, 0, none⟩), .string s] w fun e w' => e = .returned (.tuple #[.pointer (some ⟨b, 0, none⟩), .int .i64 0]) ∧ Below w.heap.size w w'))
  (HS : Hid (∀ W, Below w.heap.size w W → Calls Tryz.prog 93 #[.pointer (some ⟨b, 0, none⟩)] W fun e w' => e = .returned (.int .i64 n) ∧ W = w'))
  (HC : Hid (∀ W, Below w.heap.size w W → Calls Tryz.prog 97 #[.pointer (some ⟨d, 0, none⟩)] W fun e w' => e = .returned (.int .i64 14) ∧ ∃ n K', Crashed W d K K.keep n K' w')) :
  Calls Tryz.prog 53 #[.pointer (some ⟨d, 0, none⟩), .string s, .int .i64 i] w (FallPost w d K) := by
 have h1 : ¬ ((i : Int) < 0) := by omega
 have h2 : ¬ ((n : Int) < (i : Int)) := by omega
 go_enter Tryz.func53, Tryz.ntmps53
 go_wp2_with (first
  | (go_at_call 98; (with_reducible refine H.out.mono ?_); rintro e w1 ⟨rfl, hb⟩; have HB := Lib.hid hb; clear hb)
  | (go_at_call 93; (with_reducible refine (HS.out _ HB.out).mono ?_); rintro e w2 ⟨rfl, rfl⟩)
  | (go_at_call 97; (with_reducible refine (HC.out _ HB.out).mono ?_); rintro e w2 ⟨rfl, n, K', hcr⟩; have HR := Lib.hid hcr; clear hcr))
 go_ret
 exact ⟨_, n, K', rfl, HB.out, HR.out⟩
theorem cut_done {w : World} {d b n : Nat} (s : ByteArray) (i : Nat) (hi : i ≤ n) (P : World → Prop) (Q : World → Prop) (H : Hid (Calls Tryz.prog 98 #[.pointer (some ⟨d, 0, none⟩), .string s] w fun e w' => e = .returned (.tuple #[.pointer (some ⟨b, 0, none⟩), .int .i64 0]) ∧ Below w.heap.size w w'))
  (HS : Hid (∀ W, Below w.heap.size w W → Calls Tryz.prog 93 #[.pointer (some ⟨b, 0, none⟩)] W fun e w' => e = .returned (.int .i64 n) ∧ W = w'))
  (HC : Hid (∀ W, Below w.heap.size w W → Calls Tryz.prog 97 #[.pointer (some ⟨d, 0, none⟩)] W fun e w' => e = .returned (.int .i64 0) ∧ P w'))
  (HX : Hid (∀ W, P W → Calls Tryz.prog 100 #[.pointer (some ⟨b, 0, none⟩), .int .i64 i] W fun e w' => e = .returned (.tuple #[]) ∧ Q w')) :
  Calls Tryz.prog 53 #[.pointer (some ⟨d, 0, none⟩), .string s, .int .i64 i] w fun e w' => e = .returned (.int .i64 0) ∧ Q w' := by
 have h1 : ¬ ((i : Int) < 0) := by omega
 have h2 : ¬ ((n : Int) < (i : Int)) := by omega
 go_enter Tryz.func53, Tryz.ntmps53
 go_wp2_with (first
  | (go_at_call 98; (with_reducible refine H.out.mono ?_); rintro e w1 ⟨rfl, hb⟩; have HB := Lib.hid hb; clear hb)
  | (go_at_call 93; (with_reducible refine (HS.out _ HB.out).mono ?_); rintro e w2 ⟨rfl, rfl⟩)
  | (go_at_call 97; (with_reducible refine (HC.out _ HB.out).mono ?_); rintro e w2 ⟨rfl, hp⟩; have HP := Lib.hid hp; clear hp)
  | (go_at_call 100; (with_reducible refine (HX.out _ HP.out).mono ?_); rintro e w3 ⟨rfl, hq⟩; have HQ := Lib.hid hq; clear hq))
 go_ret
 exact ⟨rfl, HQ.out⟩
def cutE (K : Dk) (s : ByteArray) (i : Int) : Int :=
 if errF K.on s.size (getF K.files s.data.toList) ≠ 0 then errF K.on s.size (getF K.files s.data.toList)
 else if i < 0 ∨ (sizeN K.files s.data.toList : Int) < i then 15 else 0
inductive CutPost4 (w : World) (d : Nat) (K : Dk) (s : ByteArray) (i : Int) : Ending → World → Prop where
 | err {w'} : cutE K s i ≠ 0 → Below w.heap.size w w' → CutPost4 w d K s i (.returned (.int .i64 (cutE K s i))) w'
 | falls {w1 w' n K'} : cutE K s i = 0 → K.armed = true → ¬ 0 < K.left → Below w.heap.size w w1 → Crashed w1 d K K.keep n K' w' → CutPost4 w d K s i (.returned (.int .i64 14)) w'
 | done {w' F sl} : cutE K s i = 0 → (K.armed = false ∨ 0 < K.left) → getF K.files s.data.toList = some F → Step w d K w' { counted K with files := (s.data.toList, F.cut sl i.toNat) :: restF K.files s.data.toList } → CutPost4 w d K s i (.returned (.int .i64 0)) w'
theorem DiskAt.cut {w : World} {d : Nat} {K : Dk} (h : DiskAt w d K) (s : ByteArray) (i : Int) (hs : s.size ≤ maxLen) (hl : K.left ≤ 9223372036854775807) :
  Calls Tryz.prog 53 #[.pointer (some ⟨d, 0, none⟩), .string s, .int .i64 i] w (CutPost4 w d K s i) := by
 have HF := h.find s hs
 by_cases he : errF K.on s.size (getF K.files s.data.toList) ≠ 0
 ·have e0 : cutE K s i = errF K.on s.size (getF K.files s.data.toList) := by unfold cutE; rw [if_pos he]
  obtain ⟨p, hp⟩ := ptr_shape (if errn K.on s.size = 0 then (getF K.files s.data.toList).map (·.b) else none)
  rw [hp] at HF
  refine (cut_err s i _ _ (by simpa using he) HF).mono ?_
  rintro e w' ⟨rfl, hb⟩
  rw [← e0]
  exact .err (by rw [e0]; exact he) hb
 ·have he : errF K.on s.size (getF K.files s.data.toList) = 0 := Decidable.not_not.1 he
  obtain ⟨h0, F, hF⟩ := errF_zero he
  have hon := errn_on h0
  have he2 := he
  rw [he2, if_pos h0, hF] at HF
  have hm := getF_mem hF
  have hz : sizeN K.files s.data.toList = F.secs.length := by unfold sizeN; rw [hF]
  have hfl := h.files.at' _ hm
  have HS : Hid (∀ W, Below w.heap.size w W → Calls Tryz.prog 93 #[.pointer (some ⟨F.b, 0, none⟩)] W fun e w' => e = .returned (.int .i64 F.secs.length) ∧ W = w') := fun W hW => (hfl.below hW).size
  have e0 : cutE K s i = if i < 0 ∨ (F.secs.length : Int) < i then 15 else 0 := by unfold cutE; rw [if_neg (by simpa using he), hz]
  by_cases hi : i < 0 ∨ (F.secs.length : Int) < i
  ·rw [if_pos hi] at e0
   have hp : ∀ e w', (e = .returned (.int .i64 15) ∧ Below w.heap.size w w') → CutPost4 w d K s i e w' := by
    rintro e w' ⟨rfl, hb⟩
    rw [← e0]
    exact .err (by rw [e0]; decide) hb
   by_cases h1 : i < 0
   ·exact (cut_low s i h1 HF).mono hp
   ·exact (cut_high s i h1 (by omega) HF HS).mono hp
  ·rw [if_neg hi] at e0
   obtain ⟨j, rfl⟩ : ∃ j : Nat, i = (j : Int) := ⟨i.toNat, by omega⟩
   have hj : j ≤ F.secs.length := by omega
   by_cases hk : K.armed = false ∨ 0 < K.left
   ·refine (cut_done (b := F.b) s j hj (fun W => Step w d K W (counted K)) (fun W => ∃ sl, Step w d K W { counted K with files := (s.data.toList, F.cut sl j) :: restF K.files s.data.toList }) HF HS
     (fun W hW => ((h.below hW).count0 hon hl hk).mono fun e w' hp => ⟨hp.1, (Step.below h hW).trans hp.2⟩) (fun W hW => ?_)).mono ?_
    ·have hm2 : (s.data.toList, F) ∈ (counted K).files := by rw [counted_files]; exact hm
     refine ((hW.at'.files.at' _ hm2).cut (hW.at'.files.ok _ hm2) j hj).mono ?_
     rintro e w' ⟨rfl, sl, h1, h2, h3⟩
     have := hW.at'.cutted hm2 h1 h2 h3
     rw [counted_files] at this
     exact ⟨rfl, sl, hW.trans this⟩
    ·rintro e w' ⟨rfl, sl, hst⟩
     exact .done e0 hk hF (by rw [Int.toNat_natCast]; exact hst)
   ·have ha : K.armed = true := by cases hx : K.armed with
     | true => rfl
     | false => exact absurd (.inl hx) hk
    refine (cut_falls (b := F.b) s j hj HF HS (fun W hW => (h.below hW).count14 hon hl ha (fun hx => hk (.inr hx)))).mono ?_
    rintro e w' ⟨w1, n, K', rfl, hb, hc⟩
    exact .falls e0 ha (fun hx => hk (.inr hx)) hb hc
end Go.Proofs.YtbkngnjkaledlaaGreat.P4
namespace Go.Proofs.YtbkngnjkaledlaaGreat.P4
open Go Go.RowKit Go.Lib P3
theorem rd_ext {a b : ByteArray} (h : a.data.toList = b.data.toList) : a = b := by
 have e : ∀ s : ByteArray, (⟨s.data.toList.toArray⟩ : ByteArray) = s := fun s => by simp
 rw [← e a, ← e b, h]
theorem same_true {a b : ByteArray} (h : a = b) : (a.toList == b.toList) = true := by rw [h]; exact beq_self_eq_true _
theorem same_false {a b : ByteArray} (h : a ≠ b) : (a.toList == b.toList) = false := by
 rw [beq_eq_false_iff_ne, ByteArray.toList_eq, ByteArray.toList_eq]
 exact fun e => h (rd_ext e)
theorem flat_length {α : Type} {g : α → List Value} {n : Nat} (hn : ∀ a, (g a).length = n) : ∀ l : List α, (l.flatMap g).length = l.length * n
 | [] => by simp
 | a :: l => by
  rw [List.flatMap_cons, List.length_append, hn, flat_length hn l, List.length_cons, Nat.succ_mul]
  omega
theorem flat_at {α : Type} {g : α → List Value} {n : Nat} (hn : ∀ a, (g a).length = n) : ∀ (l : List α) (i j : Nat) (a : α), l[i]? = some a → j < n → (l.flatMap g)[i * n + j]? = (g a)[j]?
 | [], i, j, a, h, _ => by simp at h
 | b :: l, 0, j, a, h, hj => by
  obtain rfl : b = a := by simpa using h
  rw [List.flatMap_cons, Nat.zero_mul, Nat.zero_add, List.getElem?_append_left (by rw [hn]; exact hj)]
 | b :: l, i + 1, j, a, h, hj => by
  rw [List.flatMap_cons, List.getElem?_append_right (by rw [hn, Nat.succ_mul]; omega), hn]
  rw [show (i + 1) * n + j - n = i * n + j from by rw [Nat.succ_mul]; omega]
  exact flat_at hn l i j a (by simpa using h) hj
theorem flat_set {α : Type} {g : α → List Value} {n : Nat} (hn : ∀ a, (g a).length = n) : ∀ (l : List α) (i j : Nat) (a b : α) (u : Value), l[i]? = some a → j < n → g b = (g a).set j u → (l.set i b).flatMap g = (l.flatMap g).set (i * n + j) u
 | [], i, j, a, b, u, h, _, _ => by simp at h
 | c :: l, 0, j, a, b, u, h, hj, hb => by
  obtain rfl : c = a := by simpa using h
  rw [List.set_cons_zero, List.flatMap_cons, List.flatMap_cons, Nat.zero_mul, Nat.zero_add, List.set_append_left _ _ (by rw [hn]; exact hj), hb]
 | c :: l, i + 1, j, a, b, u, h, hj, hb => by
  rw [List.set_cons_succ, List.flatMap_cons, List.flatMap_cons, List.set_append_right _ _ (by rw [hn, Nat.succ_mul]; omega), hn]
  rw [show (i + 1) * n + j - n = i * n + j from by rw [Nat.succ_mul]; omega]
  rw [flat_set hn l i j a b u (by simpa using h) hj hb]
structure MF where
 name : ByteArray
 id : Nat
 now : List ByteArray
 safe : List ByteArray
 made : Bool
 nv : Value
 sv : Value
def MF.cells (f : MF) : List Value := [.string f.name, .int .i64 f.id, f.nv, f.sv, .bool f.made, .bool false]
structure RW where
 turn : Nat
 file : Nat
 pos : Nat
 data : ByteArray
def RW.cells (x : RW) : List Value := [.int .i64 x.file, .int .i64 x.pos, .string x.data]
theorem MF.six (f : MF) : f.cells.length = 6 := rfl
theorem RW.three (f : RW) : f.cells.length = 3 := rfl
def Txt (w : World) (v : Value) (l : List ByteArray) : Prop :=
 (v = .slice none 0 0 ∧ l = []) ∨ ∃ (b c : Nat) (cur : Array Value), v = .slice (some ⟨b, 0, none⟩) l.length c ∧ l.length ≤ c ∧ c ≤ maxLen ∧ w.heap[b]? = some (.cells cur 9 (0, 0)) ∧ ∀ (i : Nat) (s : ByteArray), l[i]? = some s → cur[i]? = some (.string s)
theorem Txt.fr {w w' : World} {v : Value} {l : List ByteArray} (h : Txt w v l) (k : ∀ b, v.ownBlock = some b → w'.heap[b]? = w.heap[b]?) : Txt w' v l := by
 rcases h with h | ⟨b, c, cur, rfl, h1, h2, h3, h4⟩
 ·exact .inl h
 ·exact .inr ⟨b, c, cur, rfl, h1, h2, by rw [k b rfl]; exact h3, h4⟩
theorem Txt.lt {w : World} {v : Value} {l : List ByteArray} (h : Txt w v l) {b : Nat} (hb : v.ownBlock = some b) : b < w.heap.size ∧ ∃ cur : Array Value, w.heap[b]? = some (.cells cur 9 (0, 0)) := by
 rcases h with ⟨rfl, _⟩ | ⟨b', c, cur, rfl, h1, h2, h3, h4⟩
 ·cases hb
 ·obtain rfl : b' = b := by simpa [Value.ownBlock] using hb
  exact ⟨lt_of_block h3, cur, h3⟩
theorem Txt.below {w w' : World} {v : Value} {l : List ByteArray} (h : Txt w v l) (k : Below w.heap.size w w') : Txt w' v l := h.fr fun _ hb => k.block _ (h.lt hb).1
theorem Txt.shape {w : World} {v : Value} {l : List ByteArray} (h : Txt w v l) : ∃ a c, v = .slice a l.length c ∧ l.length ≤ c ∧ c ≤ maxLen ∧ ∀ (i : Nat) (s : ByteArray), l[i]? = some s → ∃ b, a = some ⟨b, 0, none⟩ ∧ w.cell? ⟨b, i, none⟩ = some (.string s) := by
 rcases h with ⟨rfl, rfl⟩ | ⟨b, c, cur, rfl, h1, h2, h3, h4⟩
 ·exact ⟨none, 0, rfl, Nat.le_refl _, Nat.zero_le _, fun i s h => by simp at h⟩
 ·exact ⟨_, c, rfl, h1, h2, fun i s h => ⟨b, rfl, by rw [cell_at h3]; exact h4 i s h⟩⟩
theorem Txt.take {w : World} {b c : Nat} {l : List ByteArray} (h : Txt w (.slice (some ⟨b, 0, none⟩) l.length c) l) (n : Nat) (hn : n ≤ l.length) : Txt w (.slice (some ⟨b, 0, none⟩) n n) (l.take n) := by
 rcases h with ⟨h, _⟩ | ⟨b', c', cur, h0, h1, h2, h3, h4⟩
 ·cases h
 ·obtain ⟨rfl, rfl⟩ : b = b' ∧ c = c' := by simpa using h0
  have e : (l.take n).length = n := by rw [List.length_take]; omega
  refine .inr ⟨b, n, cur, by rw [e], by omega, by omega, h3, fun i s hs => ?_⟩
  rw [List.getElem?_take] at hs
  split at hs
  ·exact h4 i s hs
  ·cases hs
structure RM where
 lv : Value
 wv : Value
 kv : Value
 fs : List MF
 ws : List RW
 off : Bool
 room : Int
 armed : Bool
 n : Int
 ids : Nat
def RM.cells (D : RM) : List Value := [D.lv, D.wv, .bool D.off, .int .i64 D.room, .bool D.armed, .int .i64 D.n, D.kv, .int .i64 D.ids]
def RM.own (D : RM) (r k : Nat) : Prop := k = r ∨ D.lv.ownBlock = some k ∨ D.wv.ownBlock = some k
def RM.foot (D : RM) (r k : Nat) : Prop := D.own r k ∨ ∃ f ∈ D.fs, f.nv.ownBlock = some k ∨ f.sv.ownBlock = some k
structure RAt (lo : Nat) (w : World) (r : Nat) (D : RM) : Prop where
 blk : w.heap[r]? = some (.cells D.cells.toArray 31 (0, 0))
 lo_ : lo ≤ r
 lrow : w.ownsRow lo 101 6 D.lv D.fs.length (D.fs.flatMap MF.cells)
 wrow : w.ownsRow lo 129 3 D.wv D.ws.length (D.ws.flatMap RW.cells)
 txt : ∀ f ∈ D.fs, Txt w f.nv f.now ∧ Txt w f.sv f.safe
 few : D.fs.length ≤ 60
 few2 : D.ws.length ≤ 9000
 long : ∀ f ∈ D.fs, f.now.length ≤ 4001 ∧ f.safe.length ≤ 4001
theorem owned_at {w : World} {lo e size n g : Nat} {v : Value} {xs : List Value} (h : w.ownsRow lo e size v n xs) (hb : v.ownBlock = some g) : lo ≤ g ∧ ∃ cur : Array Value, w.heap[g]? = some (.cells cur e (0, 0)) := by
 rcases h.2 with ⟨rfl, _⟩ | ⟨g', cap, cur, rfl, h2, h3, _⟩
 ·cases hb
 ·obtain rfl : g' = g := by simpa [Value.ownBlock] using hb
  exact ⟨h2, cur, h3⟩
theorem owned_fr {w w' : World} {lo e size n : Nat} {v : Value} {xs : List Value} (h : w.ownsRow lo e size v n xs) (k : ∀ b, v.ownBlock = some b → w'.heap[b]? = w.heap[b]?) : w'.ownsRow lo e size v n xs := by
 refine ⟨h.1, h.2.imp id fun ⟨g, cap, cur, h1, h2, h3, h4⟩ => ⟨g, cap, cur, h1, h2, ?_, h4⟩⟩
 rw [k g (by rw [h1]; rfl)]
 exact h3
section
variable {lo : Nat} {w w' : World} {r : Nat} {D : RM}
theorem RAt.own_lt (h : RAt lo w r D) {k : Nat} (hk : D.own r k) : lo ≤ k ∧ k < w.heap.size := by
 rcases hk with rfl | hk | hk
 ·exact ⟨h.lo_, lt_of_block h.blk⟩
 ·obtain ⟨h1, cur, h2⟩ := owned_at h.lrow hk
  exact ⟨h1, lt_of_block h2⟩
 ·obtain ⟨h1, cur, h2⟩ := owned_at h.wrow hk
  exact ⟨h1, lt_of_block h2⟩
theorem RAt.foot_lt (h : RAt lo w r D) {k : Nat} (hk : D.foot r k) : k < w.heap.size := by
 rcases hk with hk | ⟨f, hf, hk | hk⟩
 ·exact (h.own_lt hk).2
 ·exact ((h.txt f hf).1.lt hk).1
 ·exact ((h.txt f hf).2.lt hk).1
theorem RAt.fr (h : RAt lo w r D) (k : ∀ b, D.foot r b → w'.heap[b]? = w.heap[b]?) : RAt lo w' r D :=
 ⟨by rw [k r (.inl (.inl rfl))]; exact h.blk, h.lo_, owned_fr h.lrow fun b hb => k b (.inl (.inr (.inl hb))), owned_fr h.wrow fun b hb => k b (.inl (.inr (.inr hb))),
  fun f hf => ⟨(h.txt f hf).1.fr fun b hb => k b (.inr ⟨f, hf, .inl hb⟩), (h.txt f hf).2.fr fun b hb => k b (.inr ⟨f, hf, .inr hb⟩)⟩, h.few, h.few2, h.long⟩
theorem RAt.below (h : RAt lo w r D) (k : Below w.heap.size w w') : RAt lo w' r D := h.fr fun _ hb => k.block _ (h.foot_lt hb)
theorem RAt.frS {S : Nat → Prop} (h : RAt lo w r D) (k : Fr S w w') (hn : ∀ b, D.foot r b → ¬ S b) : RAt lo w' r D := h.fr fun _ hb => k.block _ (h.foot_lt hb) (hn _ hb)
theorem RAt.apart (h : RAt lo w r D) : D.lv.ownBlock ≠ some r ∧ D.wv.ownBlock ≠ some r ∧ (∀ k, D.lv.ownBlock = some k → D.wv.ownBlock ≠ some k) := by
 refine ⟨fun e => ?_, fun e => ?_, fun k e e2 => ?_⟩
 ·obtain ⟨_, cur, h2⟩ := owned_at h.lrow e
  rw [h.blk] at h2
  simp at h2
 ·obtain ⟨_, cur, h2⟩ := owned_at h.wrow e
  rw [h.blk] at h2
  simp at h2
 ·obtain ⟨_, cur, h2⟩ := owned_at h.lrow e
  obtain ⟨_, cur2, h3⟩ := owned_at h.wrow e2
  rw [h2] at h3
  simp at h3
theorem RAt.txt_own (h : RAt lo w r D) {v : Value} {l : List ByteArray} (ht : Txt w v l) {k : Nat} (hk : v.ownBlock = some k) : ¬ D.own r k := by
 obtain ⟨_, cur, e⟩ := ht.lt hk
 rintro (rfl | h2 | h2)
 ·rw [h.blk] at e
  simp at e
 ·obtain ⟨_, cur, h2⟩ := owned_at h.lrow h2
  rw [h2] at e
  simp at e
 ·obtain ⟨_, cur, h2⟩ := owned_at h.wrow h2
  rw [h2] at e
  simp at e
theorem RAt.files (h : RAt lo w r D) : ∃ a c, D.lv = .slice a D.fs.length c ∧ D.fs.length ≤ c ∧ ∀ (i : Nat) (f : MF), D.fs[i]? = some f → ∃ g, a = some ⟨g, 0, none⟩ ∧ D.lv.ownBlock = some g ∧ ∀ (j : Nat) (u : Value), f.cells[j]? = some u → w.cell? ⟨g, i * 6 + j, none⟩ = some u := by
 rcases h.lrow.2 with ⟨e, e2⟩ | ⟨g, cap, cur, e, h2, h3, h4, h5, h6, h7⟩
 ·refine ⟨none, 0, by rw [e, e2], by omega, fun i f hf => ?_⟩
  have := (List.getElem?_eq_some_iff.1 hf).1
  omega
 ·refine ⟨_, cap, e, h4, fun i f hf => ⟨g, rfl, by rw [e]; rfl, fun j u hu => ?_⟩⟩
  have hj : j < 6 := by have := (List.getElem?_eq_some_iff.1 hu).1; rwa [MF.six] at this
  have := h.lrow.cells (by rw [e]; rfl) (i * 6 + j) u (by rw [flat_at MF.six _ _ _ _ hf hj]; exact hu)
  rwa [Go.WideShapes.add_plain, Nat.zero_add] at this
theorem RAt.writes (h : RAt lo w r D) : ∃ a c, D.wv = .slice a D.ws.length c ∧ D.ws.length ≤ c ∧ ∀ (i : Nat) (x : RW), D.ws[i]? = some x → ∃ g, a = some ⟨g, 0, none⟩ ∧ D.wv.ownBlock = some g ∧ ∀ (j : Nat) (u : Value), x.cells[j]? = some u → w.cell? ⟨g, i * 3 + j, none⟩ = some u := by
 rcases h.wrow.2 with ⟨e, e2⟩ | ⟨g, cap, cur, e, h2, h3, h4, h5, h6, h7⟩
 ·refine ⟨none, 0, by rw [e, e2], by omega, fun i f hf => ?_⟩
  have := (List.getElem?_eq_some_iff.1 hf).1
  omega
 ·refine ⟨_, cap, e, h4, fun i x hx => ⟨g, rfl, by rw [e]; rfl, fun j u hu => ?_⟩⟩
  have hj : j < 3 := by have := (List.getElem?_eq_some_iff.1 hu).1; rwa [RW.three] at this
  have := h.wrow.cells (by rw [e]; rfl) (i * 3 + j) u (by rw [flat_at RW.three _ _ _ _ hx hj]; exact hu)
  rwa [Go.WideShapes.add_plain, Nat.zero_add] at this
theorem RAt.cell (h : RAt lo w r D) (j : Nat) : w.cell? ⟨r, j, none⟩ = D.cells[j]? := by rw [cell_at h.blk]; simp
theorem RAt.free (h : RAt lo w r D) (j : Nat) : w.frozen? ⟨r, j, none⟩ = false := free_at h.blk j
end
end Go.Proofs.YtbkngnjkaledlaaGreat.P4
namespace Go.Proofs.YtbkngnjkaledlaaGreat.P4
open Go Go.RowKit Go.Lib P3
def nameOk (s : ByteArray) : Bool := decide (1 ≤ s.size ∧ s.size ≤ 40)
theorem rdName_any (w : World) (s : ByteArray) : Calls Tryz.prog 45 #[.string s] w fun e w' => e = .returned (.bool (nameOk s)) ∧ w = w' := by
 by_cases h1 : 1 ≤ s.size
 ·have b1 : decide (1 ≤ (s.size : Int)) = true := decide_eq_true (by omega)
  have b1' : decide (1 ≤ s.size) = true := decide_eq_true h1
  by_cases h2 : s.size ≤ 40
  ·have b2 : decide ((s.size : Int) ≤ 40) = true := decide_eq_true (by omega)
   have b2' : decide (s.size ≤ 40) = true := decide_eq_true h2
   have e : nameOk s = true := decide_eq_true ⟨h1, h2⟩
   rw [e]
   clear e
   go_enter Tryz.func45, Tryz.ntmps45
   go_wp2
   go_ret
   exact ⟨rfl, rfl⟩
  ·have b2 : decide ((s.size : Int) ≤ 40) = false := decide_eq_false (by omega)
   have b2' : decide (s.size ≤ 40) = false := decide_eq_false h2
   have e : nameOk s = false := decide_eq_false (fun h => h2 h.2)
   rw [e]
   clear e
   go_enter Tryz.func45, Tryz.ntmps45
   go_wp2
   go_ret
   exact ⟨rfl, rfl⟩
 ·have b1 : decide (1 ≤ (s.size : Int)) = false := decide_eq_false (by omega)
  have b1' : decide (1 ≤ s.size) = false := decide_eq_false h1
  have e : nameOk s = false := decide_eq_false (fun h => h1 h.1)
  rw [e]
  clear e
  go_enter Tryz.func45, Tryz.ntmps45
  go_wp2
  go_ret
  exact ⟨rfl, rfl⟩
def atN (l : List MF) (s : ByteArray) : Option Nat := l.findIdx? fun f => decide (f.name = s)
def atI : Option Nat → Int
 | none => -1
 | some i => i
theorem atN_some {l : List MF} {s : ByteArray} {i : Nat} (h : atN l s = some i) : ∃ f, l[i]? = some f ∧ f.name = s := by
 obtain ⟨hi, h1, _⟩ := List.findIdx?_eq_some_iff_getElem.1 h
 exact ⟨l[i], List.getElem?_eq_getElem hi, of_decide_eq_true h1⟩
theorem atN_is {l : List MF} {s : ByteArray} {i : Nat} {f : MF} (hf : l[i]? = some f) (hn : f.name = s) (hlt : ∀ (j : Nat) (g : MF), j < i → l[j]? = some g → g.name ≠ s) : atN l s = some i := by
 obtain ⟨hi, e⟩ := List.getElem?_eq_some_iff.1 hf
 refine List.findIdx?_eq_some_iff_getElem.2 ⟨hi, by rw [e]; exact decide_eq_true hn, fun j hj => ?_⟩
 have := hlt j _ hj (List.getElem?_eq_getElem (by omega))
 simpa using this
theorem atN_none {l : List MF} {s : ByteArray} (h : ∀ (j : Nat) (g : MF), l[j]? = some g → g.name ≠ s) : atN l s = none := by
 refine List.findIdx?_eq_none_iff.2 fun f hf => ?_
 obtain ⟨j, hj⟩ := List.getElem?_of_mem hf
 exact decide_eq_false (h j f hj)
section
variable {lo : Nat} {w : World} {r : Nat} {D : RM}
theorem RAt.own1 (h : RAt lo w r D) (j : Nat) (u : Value) (E : RM) (e1 : E.cells = D.cells.set j u) (e2 : E.lv = D.lv) (e3 : E.wv = D.wv) (e4 : E.fs = D.fs) (e5 : E.ws = D.ws) : RAt lo (w.setCell ⟨r, j, none⟩ u) r E := by
 have ho : ∀ b, b ≠ r → (w.setCell ⟨r, j, none⟩ u).heap[b]? = w.heap[b]? := fun b hb => Below.heap_setCell _ _ _ _ hb
 have hb := h.apart
 have hbl := set_at h.blk j u
 have hx : (D.cells.toArray.setIfInBounds j u) = E.cells.toArray := by rw [e1]; simp
 rw [hx] at hbl
 refine ⟨hbl, h.lo_, ?_, ?_, ?_, by rw [e4]; exact h.few, by rw [e5]; exact h.few2, by rw [e4]; exact h.long⟩
 ·rw [e2, e4]; exact owned_fr h.lrow fun b hbb => ho b (fun e => hb.1 (e ▸ hbb))
 ·rw [e3, e5]; exact owned_fr h.wrow fun b hbb => ho b (fun e => hb.2.1 (e ▸ hbb))
 ·rw [e4]
  intro f hf
  have ht := h.txt f hf
  exact ⟨ht.1.fr fun b hbb => ho b (fun e => h.txt_own ht.1 hbb (.inl e)), ht.2.fr fun b hbb => ho b (fun e => h.txt_own ht.2 hbb (.inl e))⟩
theorem RAt.at_ (h : RAt lo w r D) (s : ByteArray) : Calls Tryz.prog 46 #[.pointer (some ⟨r, 0, none⟩), .string s] w fun e w' => e = .returned (.int .i64 (atI (atN D.fs s))) ∧ w = w' := by
 obtain ⟨a, c, hv, hc, hcell⟩ := h.files
 have c0 := h.cell 0
 have hfew := h.few
 simp only [RM.cells, List.getElem?_cons_zero] at c0
 rw [hv] at c0
 obtain ⟨fs, hfs⟩ : ∃ fs, fs = D.fs := ⟨_, rfl⟩
 rw [← hfs] at c0 hcell hfew ⊢
 have HC := Lib.hid hcell
 clear hcell hv hfs hc h
 go_enter Tryz.func46, Tryz.ntmps46
 go_wp2
 go_loop [5] (fun i => ∃ k : Nat, k ≤ fs.length ∧ i = .int .i64 k ∧ Hid (∀ (j : Nat) (g : MF), j < k → fs[j]? = some g → g.name ≠ s)) (fun i => fs.length - (RowKit.intOf i).toNat)
 case atStart => exact ⟨0, Nat.zero_le _, rfl, fun j _ h => absurd h (Nat.not_lt_zero _)⟩
 case round =>
  obtain ⟨k, hk, rfl, hno⟩ := hrel
  by_cases hlt : k < fs.length
  ·obtain ⟨f, hf⟩ : ∃ f, fs[k]? = some f := ⟨_, List.getElem?_eq_getElem hlt⟩
   obtain ⟨g, rfl, _, hcc⟩ := HC.out k f hf
   have cc : w.cell? ⟨g, k * 6, none⟩ = some (.string f.name) := hcc 0 _ rfl
   have b1 : decide ((k : Int) < (fs.length : Int)) = true := decide_eq_true (by omega)
   have b1' : decide (k < fs.length) = true := decide_eq_true hlt
   have j0 : (0 : Int) ≤ (k : Int) := by omega
   have j1 : (k : Int) < (fs.length : Int) := by omega
   by_cases e : f.name = s
   ·have he := same_true e
    have hat : Hid (atN fs s = some k) := atN_is hf e hno.out
    generalize f.name = nm at cc he
    clear hcc hf e hno
    go_wp2
    go_ret
    exact ⟨by rw [hat.out]; rfl, rfl⟩
   ·have he := same_false e
    have hN : Hid (∀ (j : Nat) (g : MF), j < k + 1 → fs[j]? = some g → g.name ≠ s) := fun j g hj hg => by
     by_cases ej : j = k
     ·subst ej
      rw [hf] at hg
      cases hg
      exact e
     ·exact hno.out j g (by omega) hg
    generalize f.name = nm at cc he
    clear hcc hf e hno
    go_wp2
    go_round
    case rel => exact ⟨k + 1, by omega, by go_num, hN⟩
    case measure => simp [RowKit.intOf]; omega
  ·have b1 : decide ((k : Int) < (fs.length : Int)) = false := decide_eq_false (by omega)
   have b1' : decide (k < fs.length) = false := decide_eq_false hlt
   have hat : Hid (atN fs s = none) := atN_none fun j g hg => hno.out j g (by have := (List.getElem?_eq_some_iff.1 hg).1; omega) hg
   clear hno
   go_wp2
   go_ret
   exact ⟨by rw [hat.out]; rfl, rfl⟩
def RM.fallsB (D : RM) : Bool := D.armed && decide (D.n = 0)
def RM.count (D : RM) : RM := if D.armed = true ∧ D.n ≠ 0 then { D with n := D.n - 1 } else D
theorem RAt.falls (h : RAt lo w r D) (h0 : D.armed = true → 0 ≤ D.n) (h1 : D.n ≤ 9223372036854775807) : Calls Tryz.prog 47 #[.pointer (some ⟨r, 0, none⟩)] w fun e w' =>
  e = .returned (.bool D.fallsB) ∧ RAt lo w' r D.count ∧ Only r w w' := by
 have c4 : w.cell? ⟨r, 4, none⟩ = some (.bool D.armed) := h.cell 4
 have c5 : w.cell? ⟨r, 5, none⟩ = some (.int .i64 D.n) := h.cell 5
 have f5 := h.free 5
 cases ha : D.armed with
 | false =>
  have e1 : D.fallsB = false := by unfold RM.fallsB; rw [ha]; rfl
  have e2 : D.count = D := by unfold RM.count; rw [ha]; simp
  rw [e1, e2]
  rw [ha] at c4
  have HH := Lib.hid h
  clear h ha e1 e2
  go_enter Tryz.func47, Tryz.ntmps47
  go_wp2
  go_ret
  exact ⟨rfl, HH.out, Only.refl _ _⟩
 | true =>
  replace h0 := h0 ha
  by_cases hn : D.n = 0
  ·have e1 : D.fallsB = true := by unfold RM.fallsB; rw [ha, hn]; rfl
   have e2 : D.count = D := by unfold RM.count; rw [if_neg (fun q => q.2 hn)]
   rw [e1, e2]
   rw [ha] at c4
   rw [hn] at c5
   have HH := Lib.hid h
   clear h ha e1 e2 hn
   go_enter Tryz.func47, Tryz.ntmps47
   go_wp2
   go_ret
   exact ⟨rfl, HH.out, Only.refl _ _⟩
  ·have e1 : D.fallsB = false := by unfold RM.fallsB; rw [ha]; simpa using hn
   have e2 : D.count = { D with n := D.n - 1 } := by unfold RM.count; rw [if_pos ⟨ha, hn⟩]
   rw [e1, e2]
   rw [ha] at c4
   have HH := Lib.hid (show RAt lo (w.setCell ⟨r, 5, none⟩ (.int .i64 (D.n - 1))) r { D with n := D.n - 1 } from by
    have h2 := h.own1 5 (.int .i64 (D.n - 1)) { D with n := D.n - 1 } rfl rfl rfl rfl rfl
    exact h2)
   have n1 : (D.n == 0) = false := beq_eq_false_iff_ne.2 hn
   have n2 : 1 ≤ D.n := by omega
   obtain ⟨n, hn'⟩ : ∃ n, n = D.n := ⟨_, rfl⟩
   rw [← hn'] at c5 n1 n2 h1 HH ⊢
   clear h ha e1 e2 hn h0 hn'
   go_enter Tryz.func47, Tryz.ntmps47
   go_wp2
   go_ret
   exact ⟨rfl, HH.out, (Only.refl _ _).setCell _ _⟩
def usedM (l : List MF) : Nat := (l.map fun f => f.now.length).sum
theorem RAt.used (h : RAt lo w r D) : Calls Tryz.prog 77 #[.pointer (some ⟨r, 0, none⟩)] w fun e w' => e = .returned (.int .i64 (usedM D.fs)) ∧ w = w' := by
 obtain ⟨a, c, hv, hc, hcell⟩ := h.files
 have c0 := h.cell 0
 have hfew := h.few
 simp only [RM.cells, List.getElem?_cons_zero] at c0
 rw [hv] at c0
 have hN : ∀ (k : Nat) (f : MF), D.fs[k]? = some f → f.now.length ≤ 4001 ∧ ∃ a c, f.nv = .slice a f.now.length c := fun k f hf => by
  obtain ⟨a, c, e, _⟩ := (h.txt f (List.mem_of_getElem? hf)).1.shape
  exact ⟨(h.long f (List.mem_of_getElem? hf)).1, a, c, e⟩
 obtain ⟨fs, hfs⟩ : ∃ fs, fs = D.fs := ⟨_, rfl⟩
 rw [← hfs] at c0 hcell hfew hN ⊢
 have HC := Lib.hid hcell
 have HN := Lib.hid hN
 clear hcell hv hfs hc h hN
 go_enter Tryz.func77, Tryz.ntmps77
 go_wp2
 go_loop [3, 4] (fun n i => ∃ k : Nat, k ≤ fs.length ∧ i = .int .i64 k ∧ n = .int .i64 (usedM (fs.take k)) ∧ usedM (fs.take k) ≤ 5000 * k) (fun n i => fs.length - (RowKit.intOf i).toNat)
 case atStart => exact ⟨0, Nat.zero_le _, rfl, rfl, Nat.le_refl _⟩
 case round =>
  obtain ⟨k, hk, rfl, rfl, hle⟩ := hrel
  by_cases hlt : k < fs.length
  ·obtain ⟨f, hf⟩ : ∃ f, fs[k]? = some f := ⟨_, List.getElem?_eq_getElem hlt⟩
   obtain ⟨g, rfl, _, hcc⟩ := HC.out k f hf
   obtain ⟨hl, a2, c2, e2⟩ := HN.out k f hf
   have cc : w.cell? ⟨g, k * 6 + 2, none⟩ = some (.slice a2 f.now.length c2) := by rw [← e2]; exact hcc 2 _ rfl
   have b1 : decide ((k : Int) < (fs.length : Int)) = true := decide_eq_true (by omega)
   have b1' : decide (k < fs.length) = true := decide_eq_true hlt
   have j0 : (0 : Int) ≤ (k : Int) := by omega
   have j1 : (k : Int) < (fs.length : Int) := by omega
   have hs : usedM (fs.take (k + 1)) = usedM (fs.take k) + f.now.length := by
    unfold usedM
    rw [List.take_add_one, hf]
    simp
   obtain ⟨u, hu⟩ : ∃ u, u = usedM (fs.take k) := ⟨_, rfl⟩
   obtain ⟨m, hm⟩ : ∃ m, m = f.now.length := ⟨_, rfl⟩
   have HS := Lib.hid hs
   rw [← hu] at hle HS ⊢
   rw [← hm] at hl cc HS
   clear hcc hf e2 hs hu hm
   go_wp2
   go_round
   case rel =>
    refine ⟨k + 1, by omega, by go_num, ?_, ?_⟩
    ·rw [HS.out]; go_num
    ·rw [HS.out]; omega
   case measure => simp [RowKit.intOf]; omega
  ·have b1 : decide ((k : Int) < (fs.length : Int)) = false := decide_eq_false (by omega)
   have b1' : decide (k < fs.length) = false := decide_eq_false hlt
   have e : Hid (usedM (fs.take k) = usedM fs) := by rw [List.take_of_length_le (by omega)]; exact rfl
   obtain ⟨u, hu⟩ : ∃ u, u = usedM (fs.take k) := ⟨_, rfl⟩
   have hu2 : Hid (usedM fs = u) := by rw [← e.out, hu]; exact rfl
   rw [← hu] at hle ⊢
   clear hu e
   go_wp2
   go_ret
   exact ⟨by rw [hu2.out]; rfl, rfl⟩
end
end Go.Proofs.YtbkngnjkaledlaaGreat.P4
