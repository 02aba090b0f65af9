/-
  Texts of the proof of SaidPlay8b.
-/
import Derived.Test.YtbkngnjkaledlaaGreatMp16
namespace Go.Proofs.YtbkngnjkaledlaaGreat.P4
open Go Go.RowKit Go.Lib P3
theorem infoStr9 : (Tryz.prog.info? 9).map (fun i => (i.zero, i.size, i.bytes)) = some (some (.string ⟨#[]⟩), 1, 16) := by kernel_rfl
theorem clamp_some {ks : List Int} {i : Nat} {y : Int} (h : ks[i]? = some y) : kapM ks i = clampI y := by unfold kapM; rw [List.getD_eq_getElem?_getD, h]; rfl
theorem clamp_none {ks : List Int} {i : Nat} (h : ks.length ≤ i) : kapM ks i = 0 := by unfold kapM; rw [List.getD_eq_getElem?_getD, List.getElem?_eq_none h]; rfl
theorem kap_le (ks : List Int) (i : Nat) : kapM ks i ≤ 256 := clamp_le _
theorem strs_one (l : List ByteArray) : ∀ u ∈ l.map Value.string, u.oneCell' = true := by
 intro u hu
 obtain ⟨s, _, rfl⟩ := List.mem_map.1 hu
 rfl
theorem own_keep {w w' : World} {lo e z n : Nat} {v : Value} {xs : List Value} (h : w.ownsRow lo e z v n xs) (hb : Below w.heap.size w w') : w'.ownsRow lo e z v n xs :=
 owned_fr h fun b hbb => by
  obtain ⟨_, cur, e2⟩ := owned_at h hbb
  exact hb.block b (lt_of_block e2)
theorem owns_form {w : World} {base e z n : Nat} {v : Value} {xs : List Value} (h : w.ownsRow base e z v n xs) (hn : 0 < n) : ∃ g cap, v = .slice (some ⟨g, 0, none⟩) n cap ∧ n ≤ cap ∧ base ≤ g ∧ g < w.heap.size := by
 rcases h.2 with ⟨_, e0⟩ | ⟨g, cap, cur, e, h2, h3, h4, _⟩
 ·omega
 ·exact ⟨g, cap, e, h4, h2, lt_of_block h3⟩
theorem own_put {w : World} {lo g n cap : Nat} {l : List ByteArray} (h : w.ownsRow lo 9 1 (.slice (some ⟨g, 0, none⟩) n cap) n (l.map Value.string)) (p : Nat) (v : ByteArray) : ((w.setCell ⟨g, p, none⟩ (.string v)).drew).ownsRow lo 9 1 (.slice (some ⟨g, 0, none⟩) n cap) n ((l.set p v).map Value.string) := by
 rcases h.2 with ⟨e, _⟩ | ⟨g', cap', cur, e, h2, h3, h4, h5, h6, h7⟩
 ·cases e
 ·obtain ⟨rfl, rfl⟩ : g = g' ∧ cap = cap' := by simpa using e
  refine ⟨by rw [List.map_set, List.length_set]; exact h.1, .inr ⟨g, cap, cur.setIfInBounds p (.string v), rfl, h2, (set_at h3 p (.string v) :), h4, h5, by simpa using h6, ?_⟩⟩
  rw [Array.toList_setIfInBounds, List.take_set, h7, List.map_set]
theorem pad_is {S l : List ByteArray} {t : ByteArray} {p : Nat} (h1 : l = S ++ List.replicate (l.length - S.length) zeros) (h2 : S.length ≤ l.length) (h3 : l.length = S.length ∨ l.length ≤ p + 1) (h4 : p < l.length) (ht : l[p]? = some t) (v : ByteArray) : l.set p v = setPad S p v ∧ S.getD p zeros = t := by
 have e : l.length - S.length = p + 1 - S.length := by omega
 rw [e] at h1
 refine ⟨by unfold setPad; rw [← h1], ?_⟩
 rw [List.getD_eq_getElem?_getD]
 rw [h1] at ht
 by_cases hp : p < S.length
 ·rw [List.getElem?_append_left hp] at ht
  rw [ht]; rfl
 ·rw [List.getElem?_append_right (by omega), List.getElem?_replicate] at ht
  rw [List.getElem?_eq_none (by omega)]
  split at ht
  ·exact Option.some.inj ht
  ·cases ht
theorem cells6_new (w : World) (a b c d e f : Value) (t : TypeId) : ∀ (j : Nat) (u : Value), [a, b, c, d, e, f][j]? = some u → (w.alloc (.cells #[a, b, c, d, e, f] t)).cell? ((⟨w.heap.size, 0, none⟩ : Addr).add j) = some u := by
 intro j u hu
 rw [Go.WideShapes.add_plain, Nat.zero_add, cell_at (new_at w _ _)]
 rw [← hu]
 simp
section
variable {lo : Nat} {w wr w' : World} {r kb : Nat} {D E : RM} {bs : List Bool}
theorem CrI.rows {κ : Nat → Nat} {G : Nat → MF → List ByteArray} {K : Nat → MF → Bool} (h : CrI lo w r D kb wr E bs G K) {fa : Option Addr} {fc : Nat} (hv : D.lv = .slice fa D.fs.length fc) : ∀ W, Below wr.heap.size wr W → W.cell? ⟨r, 0, none⟩ = some (.slice fa D.fs.length fc) ∧ W.frozen? ⟨r, 0, none⟩ = false ∧ W.frozen? ⟨r, 1, none⟩ = false ∧ (∃ u, W.cell? ⟨r, 1, none⟩ = some u) ∧
  ∀ (j : Nat) (f : MF), E.fs[j]? = some f → ∃ g b a2 c2 a3 c3, fa = some ⟨g, 0, none⟩ ∧ bs[j]? = some b ∧ f.nv = .slice a2 f.now.length c2 ∧ f.sv = .slice a3 f.safe.length c3 ∧ W.cell? ⟨kb, j, none⟩ = some (.bool b) ∧ W.cell? ⟨g, j * 6, none⟩ = some (.string f.name) ∧ W.cell? ⟨g, j * 6 + 1, none⟩ = some (.int .i64 f.id) ∧ W.cell? ⟨g, j * 6 + 2, none⟩ = some f.nv ∧ W.cell? ⟨g, j * 6 + 3, none⟩ = some f.sv ∧ W.cell? ⟨g, j * 6 + 4, none⟩ = some (.bool f.made) ∧ W.cell? ⟨g, j * 6 + 5, none⟩ = some (.bool false) := by
 intro W hW
 have h2 := h.below hW
 have h1 := h2.st.at'
 have hl : E.lv = .slice fa D.fs.length fc := by rw [h.mid.lv]; exact hv
 obtain ⟨a, c, e1, e2, e3⟩ := h1.files
 rw [h.mid.len, hl] at e1
 obtain ⟨rfl, rfl⟩ : fa = a ∧ fc = c := by simpa using e1
 refine ⟨by rw [← hl]; exact h1.cell 0, h1.free 0, h1.free 1, ⟨_, h1.cell 1⟩, fun j f hf => ?_⟩
 obtain ⟨g, q1, _, q2⟩ := e3 j f hf
 have hj := (List.getElem?_eq_some_iff.1 hf).1
 obtain ⟨b, hb⟩ : ∃ b, bs[j]? = some b := ⟨_, List.getElem?_eq_getElem (by rw [h.len, ← h.mid.len]; exact hj)⟩
 have ht := h1.txt f (List.mem_of_getElem? hf)
 obtain ⟨a2, c2, t2, _⟩ := ht.1.shape
 obtain ⟨a3, c3, t3, _⟩ := ht.2.shape
 refine ⟨g, b, a2, c2, a3, c3, q1, hb, t2, t3, ?_, q2 0 _ rfl, q2 1 _ rfl, q2 2 _ rfl, q2 3 _ rfl, q2 4 _ rfl, q2 5 _ rfl⟩
 rw [cell_at h2.row]
 simp [hb]
theorem CrI.done {κ : Nat → Nat} (h : CrI lo w r D kb wr E bs (fun _ f => safeT κ D.ws D.ws.length f) (fun _ f => keptT κ D.ws D.ws.length f)) {W : World} (hb : Below wr.heap.size wr W) {u : Value} (ho : W.ownsRow wr.heap.size 101 6 u (leftL E.fs bs).length ((leftL E.fs bs).flatMap MF.cells)) :
  ∃ E', RStep lo w r D ((W.setCell ⟨r, 0, none⟩ u).setCell ⟨r, 1, none⟩ (.slice none 0 0)) E' ∧ CrM D E' κ := by
 have h1 := h.st.at'
 have h2 := h1.below hb
 have hlo : lo ≤ wr.heap.size := Nat.le_trans h1.lo_ (Nat.le_of_lt (h1.own_lt (.inl rfl : E.own r r)).2)
 have s1 := h1.setFs (u := u) (xs := leftL E.fs bs) (Fr.of hb) (own_le ho hlo) (fun k hk => .inr (owned_at ho hk).1) (Nat.le_trans (left_len _ _) (by rw [h.mid.len]; have := h1.few; rw [h.mid.len] at this; exact this))
  (fun x hx => by obtain ⟨f, hf, rfl⟩ := left_mem hx; have := h2.txt f hf; exact ⟨this.2, this.2⟩)
  (fun x hx => by obtain ⟨f, hf, rfl⟩ := left_mem hx; have := h1.long f hf; exact ⟨this.2, this.2⟩)
  (fun x hx k hk => by obtain ⟨f, hf, rfl⟩ := left_mem hx; exact .inl (.inr ⟨f, hf, .inr (by rcases hk with q | q <;> exact q)⟩))
 have s2 := s1.at'.setWsG (u := .slice none 0 0) (xs := []) (Fr.refl _ _) (World.ownsRow_nil _ _ _ _) (fun k hk => by cases hk) (Nat.zero_le _)
 refine ⟨_, h.st.trans (s1.trans s2), ?_⟩
 have he := h.mid.eq
 refine ⟨?_, rfl, ?_, ?_, ?_, ?_, ?_, ?_⟩
 ·refine left_core κ D.ws D.fs E.fs bs h.mid.len h.len fun j f hf => ?_
  have h8 := h.mid.at' j f hf
  have h9 := h.bs_ j f hf
  unfold safeT at h8
  unfold keptT at h9
  rw [trips_all (Nat.le_refl _)] at h8 h9
  exact ⟨h8, h9⟩
 ·show E.off = true; rw [he]
 ·show E.armed = false; rw [he]
 ·show E.room = D.room; rw [he]
 ·show E.n = D.n; rw [he]
 ·show E.kv = D.kv; rw [he]
 ·show E.ids = D.ids; rw [he]
theorem CrB.below {κ : Nat → Nat} {i j : Nat} (h : CrB lo w r D κ kb i j wr) (hb : Below wr.heap.size wr w') : CrB lo w r D κ kb i j w' := by
 obtain ⟨E, bs, h⟩ := h
 exact ⟨E, bs, h.below hb⟩
theorem CrB.facts {κ : Nat → Nat} {i j g c : Nat} (hv : D.lv = .slice (some ⟨g, 0, none⟩) D.fs.length c) (h0 : RAt lo w r D) (h : CrB lo w r D κ kb i j wr) {f : MF} (hf : D.fs[j]? = some f) :
  wr.cell? ⟨r, 0, none⟩ = some (.slice (some ⟨g, 0, none⟩) D.fs.length c) ∧ wr.cell? ⟨g, j * 6 + 1, none⟩ = some (.int .i64 f.id) ∧ (∃ b, wr.cell? ⟨kb, j, none⟩ = some (.bool b)) ∧ wr.frozen? ⟨kb, j, none⟩ = false ∧ kb < wr.heap.size ∧
   ∀ X, Below (wr.setCell ⟨kb, j, none⟩ (.bool true)).heap.size (wr.setCell ⟨kb, j, none⟩ (.bool true)) X → ∃ a3 c3, X.cell? ⟨r, 0, none⟩ = some (.slice (some ⟨g, 0, none⟩) D.fs.length c) ∧ X.cell? ⟨g, j * 6 + 3, none⟩ = some (.slice a3 (safeT κ D.ws i f).length c3) ∧ X.frozen? ⟨g, j * 6 + 3, none⟩ = false ∧ (safeT κ D.ws i f).length ≤ c3 ∧ c3 ≤ maxLen ∧
    (∀ A, a3 = some A → ∀ m u, ((safeT κ D.ws i f).map Value.string)[m]? = some u → X.cell? (A.add m) = some u) ∧ (a3 = none → (safeT κ D.ws i f).length = 0 ∧ c3 = 0) := by
 obtain ⟨E, bs, h⟩ := h
 obtain ⟨k0, _, _, k3, k4⟩ := h.cells hv
 obtain ⟨a3, c3, k5, _, _, _, k7⟩ := k4 j f hf
 refine ⟨k0, k5, ⟨_, k7⟩, k3 j, lt_of_block h.row, fun X hX => ?_⟩
 have hm := (h.mark h0 j (List.getElem?_eq_some_iff.1 hf).1).below hX
 obtain ⟨m0, _, m1, _, m4⟩ := hm.cells hv
 obtain ⟨a3, c3, m5, m6, m7, m8, m9⟩ := m4 j f hf
 have e0 : (if j < j then safeT κ D.ws (i + 1) f else safeT κ D.ws i f) = safeT κ D.ws i f := if_neg (Nat.lt_irrefl _)
 rw [e0] at m6 m7 m8
 obtain ⟨a, c', e1, e2, e3, e4⟩ := m8.shape
 obtain ⟨rfl, rfl⟩ : a3 = a ∧ c3 = c' := by simpa using e1
 refine ⟨a3, c3, m0, m6, m1 _, m7, e3, fun A hA m u hu => ?_, fun hn => ?_⟩
 ·rw [List.getElem?_map] at hu
  obtain ⟨s, hs, rfl⟩ := Option.map_eq_some_iff.1 hu
  obtain ⟨b, hb, hc⟩ := e4 m s hs
  rw [hA] at hb
  cases hb
  rw [Go.WideShapes.add_plain, Nat.zero_add]
  exact hc
 ·rcases m8 with ⟨h1, h2⟩ | ⟨b, c', cur, h1, _⟩
  ·rw [h2]
   simp only [Value.slice.injEq] at h1
   exact ⟨rfl, h1.2.2⟩
  ·rw [hn] at h1
   simp at h1
end
end Go.Proofs.YtbkngnjkaledlaaGreat.P4
