/-
  Texts of the proof of SaidPlay8b.
-/
import Derived.Test.YtbkngnjkaledlaaGreatMp11
import Derived.Deep.Slices
import Derived.OpenShut
import Derived.SliceStrings
set_option maxHeartbeats 8000000
set_option maxRecDepth 100000
namespace Go.Proofs.YtbkngnjkaledlaaGreat.P3
open Go Go.RowKit Go.Lib Go.Maps Go.ChangeMaps Go.MapKept
def IntsIn (w : World) (v : Value) (l : List Int) : Prop :=
 ∃ a c, v = .slice a l.length c ∧ l.length ≤ 9223372036854775807 ∧ (0 < l.length → ∃ b off, a = some ⟨b, off, none⟩ ∧ b < w.heap.size ∧ ∀ i, i < l.length → w.cell? ⟨b, off + i, none⟩ = some (.int .i64 (l.getD i 0)))
theorem cellsInt : Tryz.prog.cellsOf 3 = 1 := by kernel_rfl
section
variable {H : Type} {enc : TypeId × Value → H} {w : World} {base : Nat} {sp : Nat → Bool} {held : Bool}
theorem ints_open {n : Nat} {v : Value} {x : DataW H × List MemPlace} (h : DataW.trod enc Tryz.prog w base sp held n 29 [v] = some x) : ∃ l, IntsIn w v l := by
 rcases Go.ChangeShapes.open_ints Tryz.underlying29 Tryz.underlying3 cellsInt h with ⟨hv, _⟩ | ⟨a, len, cap, zs, hv, _, hl, hm, hz, _, hcell, _⟩
 ·simp only [List.cons.injEq, and_true] at hv
  exact ⟨[], none, 0, hv, by simp, fun h => absurd h (Nat.lt_irrefl _)⟩
 ·simp only [List.cons.injEq, and_true] at hv
  have hlen : len ≤ zs.length := by rw [hz]; split <;> omega
  have hm2 : maxLen = 9223372036854775807 := by decide
  refine ⟨zs.take len, some a, cap, by rw [hv, List.length_take, Nat.min_eq_left hlen], by rw [List.length_take]; omega, fun h0 => ?_⟩
  rw [List.length_take, Nat.min_eq_left hlen] at h0
  obtain ⟨b, off, spot⟩ := a
  have hc0 := hcell 0 (by omega)
  have hspot : spot = none := by
   have := World.cell?_spot (w := w) (a := (⟨b, off, spot⟩ : Addr).add 0) hc0
   simpa [Addr.add] using this
  subst hspot
  refine ⟨b, off, rfl, ?_, fun i hi => ?_⟩
  ·rw [Go.WideShapes.add_plain] at hc0
   exact World.block_lt_of_cell? w _ hc0
  ·rw [List.length_take] at hi
   have := hcell i (by omega)
   rw [Go.WideShapes.add_plain] at this
   rw [this]
   congr 2
   rw [List.getD_eq_getElem?_getD, List.getD_eq_getElem?_getD, List.getElem?_take_of_lt (by omega)]
end
theorem IntsIn.below {w w' : World} {v : Value} {l : List Int} (h : IntsIn w v l) (hb : Below w.heap.size w w') : IntsIn w' v l := by
 obtain ⟨a, c, h1, h2, h3⟩ := h
 refine ⟨a, c, h1, h2, fun h0 => ?_⟩
 obtain ⟨b, off, h4, h5, h6⟩ := h3 h0
 exact ⟨b, off, h4, Nat.lt_of_lt_of_le h5 hb.size, fun i hi => by rw [hb.cell (p := ⟨b, off + i, none⟩) h5]; exact h6 i hi⟩
end Go.Proofs.YtbkngnjkaledlaaGreat.P3
namespace Go.Proofs.YtbkngnjkaledlaaGreat.P4
open Go Go.RowKit Go.Lib Go.Maps Go.ChangeMaps Go.MapKept P3
def zerB (n : Nat) : ByteArray := ⟨(List.replicate n (0 : UInt8)).toArray⟩
theorem zerosN_cell (n j : Nat) (h : j < n) : (madeCells #[Value.int .u8 0] n)[j]? = some (.int .u8 0) := by
 simp [madeCells, h, Nat.mod_one]
theorem zerosN_string (w : World) (n : Nat) : (convert 141 9 (.slice (some ⟨w.heap.size, 0, none⟩) n n)).run Tryz.prog (w.alloc (.cells (madeCells #[.int .u8 0] n) 5)) = .ok (.string (zerB n)) (w.alloc (.cells (madeCells #[.int .u8 0] n) 5)) := by
 have h := run_convert_bytes_back (w.alloc (.cells (madeCells #[.int .u8 0] n) 5)) 141 9 5 ⟨w.heap.size, 0, none⟩ n (List.replicate n (0 : UInt8)) Tryz.underlying141 Tryz.underlying5 Tryz.underlying9 (fun j hj => by
  rw [Go.WideShapes.add_plain, Nat.zero_add, cell_at (new_at w _ _), zerosN_cell n j (by simpa using hj)]
  simp)
 rw [List.length_replicate] at h
 exact h
theorem made_rowN (w : World) (n : Nat) (hn : n ≤ 100000) : (Instr.makeSlice 141 (.int .i64 n) (.int .i64 n)).run Tryz.prog w = .ok (.slice (some ⟨w.heap.size, 0, none⟩) n n) (w.alloc (.cells (madeCells #[.int .u8 0] n) 5)) :=
 run_make_row' (P := Tryz.prog) 141 5 (.int .u8 0) 1 Tryz.underlying141 infoByte4 rfl .i64 .i64 n (by omega) (by omega) w
theorem rZeros4 (w : World) (n : Nat) (hn : n ≤ 100000) :
  Calls Tryz.prog 86 #[.int .i64 n] w fun r w' => r = .returned (.string (zerB n)) ∧ Below w.heap.size w w' := by
 have h1 := made_rowN w n hn
 have h2 := zerosN_string w n
 have hB := Lib.hid (below_new w (.cells (madeCells #[.int .u8 0] n) 5))
 generalize w.alloc (.cells (madeCells #[.int .u8 0] n) 5) = w2 at h1 h2 hB
 go_enter Tryz.func86, Tryz.ntmps86
 go_wp2
 go_ret
 exact ⟨rfl, hB.out⟩
def ArmedAt (w : World) (d : Nat) (n : Int) (R : World → Value → Prop) (e : Ending) (w' : World) : Prop :=
 ∃ v' W, e = .returned (.tuple #[]) ∧ R W v' ∧ w' = ((W.setCell ⟨d, 4, none⟩ (.bool true)).setCell ⟨d, 5, none⟩ (.int .i64 n)).setCell ⟨d, 6, none⟩ v'
theorem arm_pos (w : World) (d : Nat) (n : Int) (v : Value) (a b c : Value) (c4 : w.cell? ⟨d, 4, none⟩ = some a) (c5 : w.cell? ⟨d, 5, none⟩ = some b) (c6 : w.cell? ⟨d, 6, none⟩ = some c)
  (f4 : w.frozen? ⟨d, 4, none⟩ = false) (f5 : w.frozen? ⟨d, 5, none⟩ = false) (f6 : w.frozen? ⟨d, 6, none⟩ = false) (hn : 0 ≤ n) (R : World → Value → Prop)
  (HC : Hid (Calls Tryz.prog 104 #[v] (((w.setCell ⟨d, 4, none⟩ (.bool false)).setCell ⟨d, 5, none⟩ (.int .i64 0)).setCell ⟨d, 6, none⟩ (.slice none 0 0)) fun e w' => ∃ p k q, e = .returned (.slice p k q) ∧ R w' (.slice p k q)))
  (HR : Hid (∀ W v', R W v' → (∃ x, W.cell? ⟨d, 4, none⟩ = some x) ∧ (∃ x, W.cell? ⟨d, 5, none⟩ = some x) ∧ (∃ x, W.cell? ⟨d, 6, none⟩ = some x) ∧ W.frozen? ⟨d, 4, none⟩ = false ∧ W.frozen? ⟨d, 5, none⟩ = false ∧ W.frozen? ⟨d, 6, none⟩ = false)) :
  Calls Tryz.prog 62 #[.pointer (some ⟨d, 0, none⟩), .int .i64 n, v] w (ArmedAt w d n R) := by
 go_enter Tryz.func62, Tryz.ntmps62
 go_wp2_with (go_at_call 104; (with_reducible refine HC.out.mono ?_); rintro e w1 ⟨p, k, q, rfl, hr⟩; obtain ⟨⟨x4, g4⟩, ⟨x5, g5⟩, ⟨x6, g6⟩, k4, k5, k6⟩ := HR.out _ _ hr; have HRR := Lib.hid hr; clear hr)
 go_end0
 exact ⟨.slice p k q, _, rfl, HRR.out, rfl⟩
theorem len_own {w : World} {base e n : Nat} {v : Value} {xs : List Value} (h : w.ownsRow base e 1 v n xs) : ∃ p q, v = .slice p n q := by
 rcases h.2 with ⟨rfl, rfl⟩ | ⟨g, cap, cur, rfl, _⟩
 ·exact ⟨none, 0, rfl⟩
 ·exact ⟨_, _, rfl⟩
theorem owns_zero {w : World} {base e z n : Nat} {v : Value} {xs : List Value} (h : w.ownsRow base e z v n xs) : w.ownsRow 0 e z v n xs :=
 ⟨h.1, h.2.imp id (fun ⟨g, cap, cur, e, _, r⟩ => ⟨g, cap, cur, e, Nat.zero_le _, r⟩)⟩
def ArmPost (w : World) (d : Nat) (K : Dk) (n : Int) (ks : List Int) (e : Ending) (w' : World) : Prop :=
 ∃ v', e = .returned (.tuple #[]) ∧ Step w d K w' { K with armed := true, left := n, kv := v', keep := ks }
theorem DiskAt.arm {w : World} {d : Nat} {K : Dk} (h : DiskAt w d K) (n : Int) (hn : 0 ≤ n) (g o c : Nat) (ks : List Int) (hlen : ks.length * 8 ≤ 140737488355328) (hg : g ≠ d)
  (hc : ∀ j, j < ks.length → w.cell? ⟨g, o + j, none⟩ = some (.int .i64 (ks.getD j 0))) :
  Calls Tryz.prog 62 #[.pointer (some ⟨d, 0, none⟩), .int .i64 n, .slice (some ⟨g, o, none⟩) ks.length c] w (ArmPost w d K n ks) := by
 obtain ⟨w3, hw3⟩ : ∃ w3, w3 = ((w.setCell ⟨d, 4, none⟩ (.bool false)).setCell ⟨d, 5, none⟩ (.int .i64 0)).setCell ⟨d, 6, none⟩ (.slice none 0 0) := ⟨_, rfl⟩
 have ho3 : Only d w w3 := by rw [hw3]; exact (((Only.refl d w).setCell _ _).setCell _ _).setCell _ _
 have hs3 : w3.heap.size = w.heap.size := by rw [hw3]; simp [World.setCell]
 have hd := lt_of_block h.blk
 have hb3 : w3.heap[d]? = some (.cells (((K.cells.setIfInBounds 4 (.bool false)).setIfInBounds 5 (.int .i64 0)).setIfInBounds 6 (.slice none 0 0)) 73 (0, 0)) := by
  rw [hw3]; exact set_at (set_at (set_at h.blk 4 _) 5 _) 6 _
 have hcl := Tryz.slices_Clone_int g o ks.length c ks w3 (Nat.le_refl _) hlen (fun j hj => by
  rw [← hc j hj, hw3]
  unfold World.cell?
  rw [Below.heap_setCell _ _ _ _ hg, Below.heap_setCell _ _ _ _ hg, Below.heap_setCell _ _ _ _ hg])
 have HB : ∀ W, Below w3.heap.size w3 W → W.heap[d]? = some (.cells (((K.cells.setIfInBounds 4 (.bool false)).setIfInBounds 5 (.int .i64 0)).setIfInBounds 6 (.slice none 0 0)) 73 (0, 0)) := fun W hW => old_below hb3 hW
 refine (arm_pos w d n _ _ _ _ (cell_at h.blk 4) (cell_at h.blk 5) (cell_at h.blk 6) (free_at h.blk 4) (free_at h.blk 5) (free_at h.blk 6) hn (fun W v' => Below w3.heap.size w3 W ∧ W.ownsRow w3.heap.size 3 1 v' ks.length (ivs ks)) ?_ ?_).mono ?_
 ·rw [← hw3]
  refine hcl.mono ?_
  rintro e W ⟨v', rfl, h1, _, h3⟩
  rw [List.take_length] at h1
  obtain ⟨p, q, rfl⟩ := len_own h1
  exact ⟨p, _, q, rfl, h3, h1⟩
 ·rintro W v' ⟨hW, _⟩
  have hB := HB W hW
  exact ⟨⟨_, cell_at hB 4⟩, ⟨_, cell_at hB 5⟩, ⟨_, cell_at hB 6⟩, free_at hB 4, free_at hB 5, free_at hB 6⟩
 ·rintro e w' ⟨v', W, rfl, ⟨hW, hrow⟩, rfl⟩
  have hB := HB W hW
  have hoW : Only d W (((W.setCell ⟨d, 4, none⟩ (.bool true)).setCell ⟨d, 5, none⟩ (.int .i64 n)).setCell ⟨d, 6, none⟩ v') := (((Only.refl d W).setCell _ _).setCell _ _).setCell _ _
  have ho : Only d w (((W.setCell ⟨d, 4, none⟩ (.bool true)).setCell ⟨d, 5, none⟩ (.int .i64 n)).setCell ⟨d, 6, none⟩ v') := (ho3.trans (.of hW)).trans hoW
  have hlt : ∀ k, v'.ownBlock = some k → w.heap.size ≤ k := fun k hk => by have := (hrow.lt k hk).1; omega
  refine ⟨v', rfl, ⟨h.own ho (set_at (set_at (set_at hB 4 _) 5 _) 6 _) rfl rfl ?_ (Nat.le_refl _) h.many.2, ?_, .only ho (.inl rfl)⟩⟩
  ·exact owns_fr (owns_zero hrow) (Fr.only (S := (· = d)) hoW rfl) (fun k hk e => by have := hlt k hk; omega)
  ·rintro k (hk | hk | hk | hk)
   ·exact .inl (.inl hk)
   ·exact .inl (.inr (.inl hk))
   ·exact .inl (.inr (.inr (.inl hk)))
   ·exact .inr (hlt k hk)
theorem check2_ok (w : World) (d B : Nat) (s t : ByteArray) (c1 : w.cell? ⟨d, 1, none⟩ = some (.bool true)) (b0 : w.cell? ⟨B, 0, none⟩ = some (.string s)) (b1 : w.cell? ⟨B, 1, none⟩ = some (.string t)) (h1 : 1 ≤ s.size) (h2 : s.size ≤ 40) (g1 : 1 ≤ t.size) (g2 : t.size ≤ 40) :
  Calls Tryz.prog 92 #[.pointer (some ⟨d, 0, none⟩), .slice (some ⟨B, 0, none⟩) 2 2] w fun e w' => e = .returned (.int .i64 0) ∧ w = w' := by
 have H := Lib.hid (on_any w d true c1)
 have h3 : ¬ s.size < 1 := by omega
 have h4 : ¬ 40 < s.size := by omega
 have g3 : ¬ t.size < 1 := by omega
 have g4 : ¬ 40 < t.size := by omega
 go_enter Tryz.func92, Tryz.ntmps92
 go_wp2_with (go_at_call 31; (with_reducible refine H.out.mono ?_); rintro e w' ⟨rfl, rfl⟩)
 go_loop [12] (fun i => i = .int .i64 0 ∨ i = .int .i64 1 ∨ i = .int .i64 2) (fun i => (2 - intOf i).toNat)
 case atStart => exact .inl rfl
 case round =>
  rcases hrel with rfl | rfl | rfl
  ·go_wp2
   go_round
   case rel => exact .inr (.inl rfl)
   case measure => simp [intOf]
  ·go_wp2
   go_round
   case rel => exact .inr (.inr rfl)
   case measure => simp [intOf]
  ·go_wp2
   go_ret
   exact ⟨rfl, rfl⟩
def renF (L : Files) (f t : List UInt8) (F : Fl) : Files := (t, F) :: restF (restF L f) t
theorem dir_rest (L : Files) (n : List UInt8) : dir (restF L n) = delL (dir L) n := by
 unfold dir restF delL
 rw [List.filter_map]
 rfl
theorem allW_sub : ∀ {L M : Files}, L.Sublist M → (allW L).Sublist (allW M)
 | _, _, .slnil => List.Sublist.refl _
 | _, _, .cons a h => (allW_sub h).trans (List.sublist_append_right _ _)
 | _, _, .cons_cons a h => List.Sublist.append_left (allW_sub h) _
theorem ren_dir (L : Files) (f t : List UInt8) (F : Fl) : (putL (delL (dir L) f) t F.b).Perm (dir (renF L f t F)) := by
 unfold renF putL
 rw [← dir_rest]
 show (delL (dir (restF L f)) t ++ [(t, F.b)]).Perm ((t, F.b) :: dir (restF (restF L f) t))
 rw [← dir_rest]
 exact List.perm_append_singleton _ _
theorem DiskAt.renamed {w w' : World} {d b : Nat} {K : Dk} {f t : List UInt8} {F : Fl} (h : DiskAt w d K) (hm : (f, F) ∈ K.files) (hb : K.m = some b) (ht : t.length ≤ 40) (hmap : MapAt w' (some b) (putL (delL (dir K.files) f) t F.b)) (ho : Only b w w') :
  Step w d K w' { K with files := renF K.files f t F } := by
 have hp := rest_perm h.files.names hm
 have hf : Fr (fun k => k = b) w w' := .only ho rfl
 have hdb : d ≠ b := fun e => h.mapNe (by rw [hb, e])
 have hs1 := rest_sub K.files f
 have hs2 := rest_sub (restF K.files f) t
 have hsub : ∀ p ∈ restF (restF K.files f) t, p ∈ K.files := fun p hp => hs1.subset (hs2.subset hp)
 have hmem : ∀ p ∈ renF K.files f t F, ∃ q ∈ K.files, q.2 = p.2 := fun p hp => by
  rcases List.mem_cons.1 hp with rfl | hp
  ·exact ⟨_, hm, rfl⟩
  ·exact ⟨p, hsub p hp, rfl⟩
 have hpa := allW_perm hp
 rw [allW_cons] at hpa
 have hwsub : (F.ws ++ allW (restF (restF K.files f) t)).Sublist (F.ws ++ allW (restF K.files f)) := List.Sublist.append_left (allW_sub hs2) _
 have hall : ∀ x ∈ allW (renF K.files f t F), x ∈ allW K.files := fun x hx => hpa.mem_iff.2 (hwsub.subset (by unfold renF at hx; rw [allW_cons] at hx; exact hx))
 have hlen : (allW (renF K.files f t F)).length ≤ (allW K.files).length := by
  unfold renF
  rw [allW_cons, hpa.length_eq]
  exact hwsub.length_le
 have hmany := h.many
 have hmapb : ∃ es cl, w.heap[b]? = some (.map es cl) := by
  rcases h.map with ⟨h1, _⟩ | ⟨b', D, h1, ⟨es, cl, h2, _⟩, _⟩
  ·rw [h1] at hb; cases hb
  ·rw [h1] at hb
   obtain rfl : b' = b := by simpa using hb
   exact ⟨_, _, h2⟩
 have hfb : ∀ p ∈ K.files, ¬ p.2.foot b := fun p hp hk => by
  obtain ⟨c, ty, h1, _⟩ := (h.files.at' p hp).kinds b hk
  obtain ⟨es, cl, h2⟩ := hmapb
  rw [h2] at h1; cases h1
 refine ⟨⟨ho.keep h.blk hdb, owns_fr h.keep hf (fun g hg hk => h.kvfar g hg (.inr (.inl (by rw [hb, hk])))), ?_, ⟨?_, ?_, ?_, ?_, ?_, ?_, ?_⟩, ?_, ?_, ?_⟩, ?_, ?_⟩
 ·show MapAt w' K.m (dir (renF K.files f t F))
  rw [hb]
  exact looks_perm hmap (ren_dir _ _ _ _)
 ·intro p hp
  obtain ⟨q, hq, e⟩ := hmem p hp
  rw [← e]
  exact (h.files.at' q hq).fr hf (fun k hk e => hfb q hq (e ▸ hk))
 ·intro p hp
  obtain ⟨q, hq, e⟩ := hmem p hp
  rw [← e]
  exact h.files.ok q hq
 ·show (t :: (restF (restF K.files f) t).map (·.1)).Nodup
  rw [List.nodup_cons]
  refine ⟨fun hx => ?_, h.files.names.sublist ((hs2.trans hs1).map _)⟩
  obtain ⟨p, hp, e⟩ := List.mem_map.1 hx
  exact rest_ne p hp e
 ·show ((t, F) :: restF (restF K.files f) t).Pairwise _
  rw [List.pairwise_cons]
  refine ⟨fun p hp k hk => ?_, h.files.apart.sublist (hs2.trans hs1)⟩
  exact files_pair h.files.apart hm (hsub p hp) (fun e => rest_ne p (hs2.subset hp) (by rw [← e])) k hk
 ·show (restF (restF K.files f) t).length + 1 ≤ 60
  have h1 := hp.length_eq
  have h2 := hs2.length_le
  have h3 := h.files.few
  simp only [List.length_cons] at h1
  omega
 ·intro p hp
  rcases List.mem_cons.1 hp with rfl | hp
  ·exact ht
  ·exact h.files.long p (hsub p hp)
 ·show ((allW ((t, F) :: restF (restF K.files f) t)).map (·.turn)).Nodup
  rw [allW_cons]
  exact ((hpa.map (·.turn)).nodup_iff.1 h.files.tnd).sublist (hwsub.map _)
 ·exact fun x hx => h.still x (hall x hx)
 ·exact fun x hx => h.turns x (hall x hx)
 ·exact ⟨Nat.le_trans hlen hmany.1, hmany.2⟩
 ·rintro k (hk | hk | ⟨p, hp, hk⟩ | hk)
  ·exact .inl (.inl hk)
  ·exact .inl (.inr (.inl hk))
  ·obtain ⟨q, hq, e⟩ := hmem p hp
   exact .inl (.inr (.inr (.inl ⟨q, hq, by rw [e]; exact hk⟩)))
  ·exact .inl (.inr (.inr (.inr hk)))
 ·exact .only ho (.inr (.inl hb))
theorem DiskAt.renAfter {w : World} {d : Nat} {K : Dk} {F : Fl} (h : DiskAt w d K) (s t : ByteArray) (hm : (s.data.toList, F) ∈ K.files) (hs : s.size ≤ maxLen) (ht : t.size ≤ 40) :
  ∃ b w2, K.m = some b ∧ (Builtin.delete_ #[71, 9] 0 #[.map (some b), .string s]).run Tryz.prog w = .ok (.tuple #[]) w2 ∧ w2.cell? ⟨d, 0, none⟩ = some (.map (some b)) ∧
   ∀ W2, Below w2.heap.size w2 W2 → W2.cell? ⟨d, 0, none⟩ = some (.map (some b)) ∧ ∃ w3, (Instr.mapUpdate 71 (.map (some b)) (.string t) (.pointer (some ⟨F.b, 0, none⟩))).run Tryz.prog W2 = .ok () w3 ∧ Step w d K w3 { K with files := renF K.files s.data.toList t.data.toList F } := by
 obtain ⟨b, hb⟩ : ∃ b, K.m = some b := by
  rcases h.map with ⟨_, h2⟩ | ⟨b, D, h1, _⟩
  ·have h3 : dir K.files = [] := h2
   unfold dir at h3
   rw [List.map_eq_nil_iff] at h3
   rw [h3] at hm; cases hm
  ·exact ⟨b, h1⟩
 have hdn : ((dir K.files).map (·.1)).Nodup := by rw [dir_names]; exact h.files.names
 have hmp := h.map
 rw [hb] at hmp
 obtain ⟨w2, hrun, hm2, ht2, _⟩ := hmp.del hdn hs 0
 have ho2 := turned_only (ht2 b rfl)
 have hdb : d ≠ b := fun e => h.mapNe (by rw [hb, e])
 have hd2 := ho2.keep h.blk hdb
 refine ⟨b, w2, hb, hrun, (cell_at hd2 0).trans (by rw [← hb]; rfl), fun W2 hW => ?_⟩
 have hd3 := old_below hd2 hW
 have hfew : (delL (dir K.files) s.data.toList).length ≤ 1000 := by
  have h1 : (delL (dir K.files) s.data.toList).length ≤ (dir K.files).length := List.length_filter_le _ _
  have h2 : (dir K.files).length = K.files.length := by unfold dir; rw [List.length_map]
  have := h.files.few
  omega
 obtain ⟨w3, hrun3, hm3, ht3⟩ := (hm2.fr (S := fun _ => False) (.of hW) (fun _ _ => id)).put (del_nodup hdn _) hfew (s := t) (by unfold maxLen; omega) F.b
 have ho3 := turned_only ht3
 refine ⟨(cell_at hd3 0).trans (by rw [← hb]; rfl), w3, hrun3, h.renamed hm hb (by rw [Array.length_toList]; exact ht) hm3 ((ho2.trans (.of hW)).trans ho3)⟩
theorem rename_falls {w : World} {d b : Nat} {K : Dk} (s t : ByteArray) (HK : Hid (Calls Tryz.prog 92 #[.pointer (some ⟨d, 0, none⟩), .slice (some ⟨w.heap.size, 0, none⟩) 2 2] (w.alloc (.cells #[.string s, .string t] 9)) fun e w' => e = .returned (.int .i64 0) ∧ w.alloc (.cells #[.string s, .string t] 9) = w'))
  (H : Hid (Calls Tryz.prog 98 #[.pointer (some ⟨d, 0, none⟩), .string s] (w.alloc (.cells #[.string s, .string t] 9)) fun e w' => e = .returned (.tuple #[.pointer (some ⟨b, 0, none⟩), .int .i64 0]) ∧ Below w.heap.size w w'))
  (HC : Hid (∀ W, Below w.heap.size w W → Calls Tryz.prog 97 #[.pointer (some ⟨d, 0, none⟩)] W fun e w' => e = .returned (.int .i64 14) ∧ ∃ n K', Crashed W d K K.keep n K' w')) :
  Calls Tryz.prog 55 #[.pointer (some ⟨d, 0, none⟩), .string s, .string t] w (FallPost w d K) := by
 go_enter Tryz.func55, Tryz.ntmps55
 go_wp2_with (first
  | (go_at_call 92; (with_reducible refine HK.out.mono ?_); rintro e w1 ⟨rfl, rfl⟩)
  | (go_at_call 98; (with_reducible refine H.out.mono ?_); rintro e w1 ⟨rfl, hb⟩; have HB := Lib.hid hb; clear hb)
  | (go_at_call 97; (with_reducible refine (HC.out _ HB.out).mono ?_); rintro e w2 ⟨rfl, n, K', hcr⟩; have HR := Lib.hid hcr; clear hcr))
 go_ret
 exact ⟨_, n, K', rfl, HB.out, HR.out⟩
theorem rename_done {w : World} {d b : Nat} (s t : ByteArray) (hts : t.size ≤ 40) (P : World → Prop) (Q : World → Prop) (HK : Hid (Calls Tryz.prog 92 #[.pointer (some ⟨d, 0, none⟩), .slice (some ⟨w.heap.size, 0, none⟩) 2 2] (w.alloc (.cells #[.string s, .string t] 9)) fun e w' => e = .returned (.int .i64 0) ∧ w.alloc (.cells #[.string s, .string t] 9) = w'))
  (H : Hid (Calls Tryz.prog 98 #[.pointer (some ⟨d, 0, none⟩), .string s] (w.alloc (.cells #[.string s, .string t] 9)) fun e w' => e = .returned (.tuple #[.pointer (some ⟨b, 0, none⟩), .int .i64 0]) ∧ Below w.heap.size w w'))
  (HC : Hid (∀ W, Below w.heap.size w W → Calls Tryz.prog 97 #[.pointer (some ⟨d, 0, none⟩)] W fun e w' => e = .returned (.int .i64 0) ∧ P w'))
  (HP : Hid (∀ W, P W → ∃ m w2, W.cell? ⟨d, 0, none⟩ = some (.map (some m)) ∧ (Builtin.delete_ #[71, 9] 0 #[.map (some m), .string s]).run Tryz.prog W = .ok (.tuple #[]) w2 ∧ w2.cell? ⟨d, 0, none⟩ = some (.map (some m)) ∧
   ∀ W2, Below w2.heap.size w2 W2 → W2.cell? ⟨d, 0, none⟩ = some (.map (some m)) ∧ ∃ w3, (Instr.mapUpdate 71 (.map (some m)) (.string t) (.pointer (some ⟨b, 0, none⟩))).run Tryz.prog W2 = .ok () w3 ∧ Q w3)) :
  Calls Tryz.prog 55 #[.pointer (some ⟨d, 0, none⟩), .string s, .string t] w fun e w' => e = .returned (.int .i64 0) ∧ Q w' := by
 have HCl : Hid (∀ W, Calls Tryz.prog 32 #[.string t] W fun e w' => e = .returned (.string t) ∧ Below W.heap.size W w') := fun W => clone_any t W (by omega)
 go_enter Tryz.func55, Tryz.ntmps55
 go_wp2_with (first
  | (go_at_call 92; (with_reducible refine HK.out.mono ?_); rintro e w1 ⟨rfl, rfl⟩)
  | (go_at_call 98; (with_reducible refine H.out.mono ?_); rintro e w1 ⟨rfl, hb⟩; have HB := Lib.hid hb; clear hb)
  | (go_at_call 97; (with_reducible refine (HC.out _ HB.out).mono ?_); rintro e w2 ⟨rfl, hp⟩; obtain ⟨m, w4, c0, hdel, c1, hnx⟩ := HP.out _ hp; have HX := Lib.hid hnx; clear hnx hp))
 go_region_with ((go_at_call 32; (with_reducible refine (HCl.out _).mono ?_); rintro e w5 ⟨rfl, hb⟩; obtain ⟨c2, w6, hrun, hpost⟩ := HX.out w5 (thenBelow ((Below.refl _ _).drew) hb); have HPo := Lib.hid hpost; clear hpost))
 all_goals
  go_wp2
  go_ret
  exact ⟨rfl, HPo.out⟩
end Go.Proofs.YtbkngnjkaledlaaGreat.P4
