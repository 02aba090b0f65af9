/-
  Texts of the proof of SaidPlay8b.
-/
import Derived.Test.YtbkngnjkaledlaaGreatMp12
set_option maxHeartbeats 8000000
set_option maxRecDepth 100000
namespace Go.Proofs.YtbkngnjkaledlaaGreat.P4
open Go Go.RowKit Go.Lib Go.Maps Go.ChangeMaps Go.MapKept P3
theorem DiskAt.rename {w : World} {d : Nat} {K : Dk} (h : DiskAt w d K) (hon : K.on = true) (hl : K.left ≤ 9223372036854775807) (s t : ByteArray) (h1 : 1 ≤ s.size) (h2 : s.size ≤ 40) (g1 : 1 ≤ t.size) (g2 : t.size ≤ 40) {F : Fl} (hF : getF K.files s.data.toList = some F) :
  Calls Tryz.prog 55 #[.pointer (some ⟨d, 0, none⟩), .string s, .string t] w fun e w' =>
   ((K.armed = false ∨ 0 < K.left) ∧ e = .returned (.int .i64 0) ∧ Step w d K w' { counted K with files := renF K.files s.data.toList t.data.toList F }) ∨
   (K.armed = true ∧ ¬ 0 < K.left ∧ FallPost w d K e w') := by
 have hb := below_new w (.cells #[.string s, .string t] 9)
 have hd2 := h.below hb
 have HK := Lib.hid (check2_ok (w.alloc (.cells #[.string s, .string t] 9)) d w.heap.size s t ((cell_at hd2.blk 1).trans (by rw [← hon]; rfl)) (cell_at (new_at w _ _) 0) (cell_at (new_at w _ _) 1) h1 h2 g1 g2)
 have HF := hd2.find s (by unfold maxLen; omega)
 have he : errF K.on s.size (getF K.files s.data.toList) = 0 := by
  unfold errF
  rw [hon, errn_good h1 h2, if_pos rfl, hF]
 rw [he, hon, errn_good h1 h2, if_pos rfl, hF] at HF
 have HF2 := Lib.hid (HF.mono fun e w' ⟨a, b⟩ => (⟨a, thenBelow hb b⟩ : _ ∧ Below w.heap.size w w'))
 by_cases hk : K.armed = false ∨ 0 < K.left
 ·refine (rename_done (b := F.b) s t g2 (fun W => Step w d K W (counted K)) (fun W => Step w d K W { counted K with files := renF K.files s.data.toList t.data.toList F }) HK HF2
   (fun W hW => ((h.below hW).count0 hon hl hk).mono fun e w' hp => ⟨hp.1, (Step.below h hW).trans hp.2⟩) (fun W hW => ?_)).mono fun e w' ⟨a, b⟩ => .inl ⟨hk, a, b⟩
  have hm2 : (s.data.toList, F) ∈ (counted K).files := by rw [counted_files]; exact getF_mem hF
  obtain ⟨m, w2, e1, e2, e3, e4⟩ := hW.at'.renAfter s t hm2 (by unfold maxLen; omega) g2
  refine ⟨m, w2, (cell_at hW.at'.blk 0).trans (by rw [← e1]; rfl), e2, e3, fun W2 hW2 => ?_⟩
  obtain ⟨f1, w3, f2, f3⟩ := e4 W2 hW2
  rw [counted_files] at f3
  exact ⟨f1, w3, f2, hW.trans f3⟩
 ·have ha : K.armed = true := by cases hx : K.armed with
   | true => rfl
   | false => exact absurd (.inl hx) hk
  exact (rename_falls (b := F.b) s t HK HF2 (fun W hW => (h.below hW).count14 hon hl ha (fun hx => hk (.inr hx)))).mono fun e w' hp => .inr ⟨ha, fun hx => hk (.inr hx), hp⟩
def renA (A : AL) (f t : List UInt8) (F : AF) : AL := (t, F) :: restA (restA A f) t
theorem ren_abs (L : Files) (f t : List UInt8) (F : Fl) : absL (renF L f t F) = renA (absL L) f t F.abs := by
 unfold renF renA
 show (absP (t, F) :: absL (restF (restF L f) t)) = _
 rw [rest_abs, rest_abs]
 rfl
theorem getA_self (n : List UInt8) (F : AF) (B : AL) : getA ((n, F) :: B) n = some F := by simp [getA]
theorem getA_other {n m : List UInt8} (h : m ≠ n) (F : AF) (B : AL) : getA ((n, F) :: B) m = getA B m := by
 unfold getA
 rw [List.find?_cons_of_neg (by simpa using fun e : n = m => h e.symm)]
theorem getA_rest : ∀ (A : AL) {n m : List UInt8}, m ≠ n → getA (restA A n) m = getA A m
 | [], _, _, _ => rfl
 | (k, F) :: r, n, m, h => by
  have ih := getA_rest r h
  unfold restA at ih ⊢
  by_cases hk : k = n
  ·subst hk
   rw [List.filter_cons_of_neg (by simp), ih, getA_other h]
  ·rw [List.filter_cons_of_pos (by simpa using hk)]
   by_cases hm : m = k
   ·subst hm
    rw [getA_self, getA_self]
   ·rw [getA_other hm, getA_other hm, ih]
theorem getA_rest_self : ∀ (A : AL) (n : List UInt8), getA (restA A n) n = none
 | [], _ => rfl
 | (k, F) :: r, n => by
  have ih := getA_rest_self r n
  unfold restA at ih ⊢
  by_cases hk : k = n
  ·rw [List.filter_cons_of_neg (by simpa using hk), ih]
  ·rw [List.filter_cons_of_pos (by simpa using hk), getA_other (fun e => hk e.symm), ih]
end Go.Proofs.YtbkngnjkaledlaaGreat.P4
namespace Go.Proofs.YtbkngnjkaledlaaGreat.P4
open Go Go.RowKit Go.Lib Go.Maps Go.ChangeMaps Go.MapKept P3
theorem check2_bad (w : World) (d B : Nat) (s t : ByteArray) (c1 : w.cell? ⟨d, 1, none⟩ = some (.bool true)) (b0 : w.cell? ⟨B, 0, none⟩ = some (.string s)) (b1 : w.cell? ⟨B, 1, none⟩ = some (.string t)) (h1 : 1 ≤ s.size) (h2 : s.size ≤ 40) (ht : t.size < 1 ∨ 40 < t.size) :
  Calls Tryz.prog 92 #[.pointer (some ⟨d, 0, none⟩), .slice (some ⟨B, 0, none⟩) 2 2] w fun e w' => e = .returned (.int .i64 1) ∧ w = w' := by
 have H := Lib.hid (on_any w d true c1)
 have h3 : ¬ s.size < 1 := by omega
 have h4 : ¬ 40 < s.size := by omega
 rcases ht with ht | ht
 ·go_enter Tryz.func92, Tryz.ntmps92
  go_wp2_with (go_at_call 31; (with_reducible refine H.out.mono ?_); rintro e w' ⟨rfl, rfl⟩)
  go_loop [12] (fun i => i = .int .i64 0 ∨ i = .int .i64 1) (fun i => (2 - intOf i).toNat)
  case atStart => exact .inl rfl
  case round =>
   rcases hrel with rfl | rfl
   ·go_wp2
    go_round
    case rel => exact .inr rfl
    case measure => simp [intOf]
   ·go_wp2
    go_ret
    exact ⟨rfl, rfl⟩
 ·have g3 : ¬ t.size < 1 := by omega
  have g4 : 1 ≤ t.size := by omega
  go_enter Tryz.func92, Tryz.ntmps92
  go_wp2_with (go_at_call 31; (with_reducible refine H.out.mono ?_); rintro e w' ⟨rfl, rfl⟩)
  go_loop [12] (fun i => i = .int .i64 0 ∨ i = .int .i64 1) (fun i => (2 - intOf i).toNat)
  case atStart => exact .inl rfl
  case round =>
   rcases hrel with rfl | rfl
   ·go_wp2
    go_round
    case rel => exact .inr rfl
    case measure => simp [intOf]
   ·go_wp2
    go_ret
    exact ⟨rfl, rfl⟩
def errn2 (on : Bool) (n m : Nat) : Int := if errn on n = 0 then errn on m else errn on n
theorem check2 (w : World) (d B : Nat) (s t : ByteArray) (on : Bool) (c1 : w.cell? ⟨d, 1, none⟩ = some (.bool on)) (b0 : w.cell? ⟨B, 0, none⟩ = some (.string s)) (b1 : w.cell? ⟨B, 1, none⟩ = some (.string t)) :
  Calls Tryz.prog 92 #[.pointer (some ⟨d, 0, none⟩), .slice (some ⟨B, 0, none⟩) 2 2] w fun e w' => e = .returned (.int .i64 (errn2 on s.size t.size)) ∧ w = w' := by
 cases on with
 | false => exact check_off w d _ c1
 | true =>
  have bad : ∀ n, n < 1 ∨ 40 < n → errn true n = 1 := fun n h => by unfold errn; rw [if_neg (by decide), if_pos h]
  have good : ∀ n, ¬ (n < 1 ∨ 40 < n) → errn true n = 0 := fun n h => by unfold errn; rw [if_neg (by decide), if_neg h]
  unfold errn2
  by_cases hs : s.size < 1 ∨ 40 < s.size
  ·rw [bad _ hs, if_neg (by decide)]
   exact check_bad w d B s 2 (by omega) c1 b0 hs
  ·rw [good _ hs, if_pos rfl]
   by_cases ht : t.size < 1 ∨ 40 < t.size
   ·rw [bad _ ht]
    exact check2_bad w d B s t c1 b0 b1 (by omega) (by omega) ht
   ·rw [good _ ht]
    exact check2_ok w d B s t c1 b0 b1 (by omega) (by omega) (by omega) (by omega)
theorem rename_err1 {w : World} {d : Nat} (s t : ByteArray) (z : Int) (hz : (z != 0) = true) (HK : Hid (Calls Tryz.prog 92 #[.pointer (some ⟨d, 0, none⟩), .slice (some ⟨w.heap.size, 0, none⟩) 2 2] (w.alloc (.cells #[.string s, .string t] 9)) fun e w' => e = .returned (.int .i64 z) ∧ w.alloc (.cells #[.string s, .string t] 9) = w')) :
  Calls Tryz.prog 55 #[.pointer (some ⟨d, 0, none⟩), .string s, .string t] w fun e w' => e = .returned (.int .i64 z) ∧ Below w.heap.size w w' := by
 go_enter Tryz.func55, Tryz.ntmps55
 go_wp2_with (go_at_call 92; (with_reducible refine HK.out.mono ?_); rintro e w1 ⟨rfl, rfl⟩)
 go_ret
 exact ⟨rfl, below_new _ _⟩
theorem rename_err2 {w : World} {d : Nat} (s t : ByteArray) (v : Value) (z : Int) (hz : (z != 0) = true) (HK : Hid (Calls Tryz.prog 92 #[.pointer (some ⟨d, 0, none⟩), .slice (some ⟨w.heap.size, 0, none⟩) 2 2] (w.alloc (.cells #[.string s, .string t] 9)) fun e w' => e = .returned (.int .i64 0) ∧ w.alloc (.cells #[.string s, .string t] 9) = w'))
  (H : Hid (Calls Tryz.prog 98 #[.pointer (some ⟨d, 0, none⟩), .string s] (w.alloc (.cells #[.string s, .string t] 9)) fun e w' => e = .returned (.tuple #[v, .int .i64 z]) ∧ Below w.heap.size w w')) :
  Calls Tryz.prog 55 #[.pointer (some ⟨d, 0, none⟩), .string s, .string t] w fun e w' => e = .returned (.int .i64 z) ∧ Below w.heap.size w w' := by
 go_enter Tryz.func55, Tryz.ntmps55
 go_wp2_with (first
  | (go_at_call 92; (with_reducible refine HK.out.mono ?_); rintro e w1 ⟨rfl, rfl⟩)
  | (go_at_call 98; (with_reducible refine H.out.mono ?_); rintro e w1 ⟨rfl, hb⟩; have HB := Lib.hid hb; clear hb))
 go_ret
 exact ⟨rfl, HB.out⟩
def renE (K : Dk) (s t : ByteArray) : Int := if errn2 K.on s.size t.size = 0 then errF K.on s.size (getF K.files s.data.toList) else errn2 K.on s.size t.size
inductive RenPost (w : World) (d : Nat) (K : Dk) (s t : ByteArray) : Ending → World → Prop where
 | err {w'} : renE K s t ≠ 0 → Below w.heap.size w w' → RenPost w d K s t (.returned (.int .i64 (renE K s t))) w'
 | falls {w1 w' n K'} : renE K s t = 0 → K.armed = true → ¬ 0 < K.left → Below w.heap.size w w1 → Crashed w1 d K K.keep n K' w' → RenPost w d K s t (.returned (.int .i64 14)) w'
 | done {w' F} : renE K s t = 0 → (K.armed = false ∨ 0 < K.left) → getF K.files s.data.toList = some F → Step w d K w' { counted K with files := renF K.files s.data.toList t.data.toList F } → RenPost w d K s t (.returned (.int .i64 0)) w'
theorem errn_zero {n : Nat} (h : errn true n = 0) : 1 ≤ n ∧ n ≤ 40 := by
 unfold errn at h
 rw [if_neg (by decide)] at h
 by_cases hn : n < 1 ∨ 40 < n
 ·rw [if_pos hn] at h; cases h
 ·omega
theorem DiskAt.renames {w : World} {d : Nat} {K : Dk} (h : DiskAt w d K) (s t : ByteArray) (hs : s.size ≤ maxLen) (hl : K.left ≤ 9223372036854775807) :
  Calls Tryz.prog 55 #[.pointer (some ⟨d, 0, none⟩), .string s, .string t] w (RenPost w d K s t) := by
 have hb := below_new w (.cells #[.string s, .string t] 9)
 have hd2 := h.below hb
 have HK := Lib.hid (check2 (w.alloc (.cells #[.string s, .string t] 9)) d w.heap.size s t K.on (cell_at hd2.blk 1) (cell_at (new_at w _ _) 0) (cell_at (new_at w _ _) 1))
 by_cases he : errn2 K.on s.size t.size = 0
 ·have hE : renE K s t = errF K.on s.size (getF K.files s.data.toList) := by unfold renE; rw [if_pos he]
  have h0 : errn K.on s.size = 0 := by
   unfold errn2 at he
   by_cases h1 : errn K.on s.size = 0
   ·exact h1
   ·rw [if_neg h1] at he; exact he
  have h1 : errn K.on t.size = 0 := by unfold errn2 at he; rw [if_pos h0] at he; exact he
  have hon := errn_on h0
  rw [hon] at h0 h1
  obtain ⟨a1, a2⟩ := errn_zero h0
  obtain ⟨b1, b2⟩ := errn_zero h1
  by_cases hf : errF K.on s.size (getF K.files s.data.toList) ≠ 0
  ·rw [he] at HK
   have HF := hd2.find s hs
   have HF2 := HF.mono fun e w' ⟨a, b⟩ => (⟨a, thenBelow hb b⟩ : _ ∧ Below w.heap.size w w')
   obtain ⟨p, hp⟩ := ptr_shape (if errn K.on s.size = 0 then (getF K.files s.data.toList).map (·.b) else none)
   rw [hp] at HF2
   refine (rename_err2 s t _ _ (by simpa using hf) HK (Lib.hid HF2)).mono ?_
   rintro e w' ⟨rfl, hb⟩
   rw [← hE]
   exact .err (by rw [hE]; exact hf) hb
  ·have hf : errF K.on s.size (getF K.files s.data.toList) = 0 := Decidable.not_not.1 hf
   obtain ⟨_, F, hF⟩ := errF_zero hf
   refine (h.rename hon hl s t a1 a2 b1 b2 hF).mono ?_
   rintro e w' (⟨hk, rfl, hst⟩ | ⟨ha, hk, w1, n, K', rfl, hb, hc⟩)
   ·exact .done (hE.trans hf) hk hF hst
   ·exact .falls (hE.trans hf) ha hk hb hc
 ·have hE : renE K s t = errn2 K.on s.size t.size := by unfold renE; rw [if_neg he]
  refine (rename_err1 s t _ (by simpa using he) HK).mono ?_
  rintro e w' ⟨rfl, hb⟩
  rw [← hE]
  exact .err (by rw [hE]; exact he) hb
theorem DiskAt.removed {w w' : World} {d b : Nat} {K : Dk} {f : List UInt8} (h : DiskAt w d K) (hb : K.m = some b) (hmap : MapAt w' (some b) (delL (dir K.files) f)) (ho : Only b w w') :
  Step w d K w' { K with files := restF K.files f } := by
 have hf : Fr (fun k => k = b) w w' := .only ho rfl
 have hdb : d ≠ b := fun e => h.mapNe (by rw [hb, e])
 have hs1 := rest_sub K.files f
 have hmem : ∀ p ∈ restF K.files f, p ∈ K.files := fun p hp => hs1.subset hp
 have hwsub := allW_sub hs1
 have hmany := h.many
 have hmapb : ∃ es cl, w.heap[b]? = some (.map es cl) := by
  rcases h.map with ⟨h1, _⟩ | ⟨b', D, h1, ⟨es, cl, h2, _⟩, _⟩
  ·rw [h1] at hb; cases hb
  ·rw [h1] at hb
   obtain rfl : b' = b := by simpa using hb
   exact ⟨_, _, h2⟩
 have hfb : ∀ p ∈ K.files, ¬ p.2.foot b := fun p hp hk => by
  obtain ⟨c, ty, h1, _⟩ := (h.files.at' p hp).kinds b hk
  obtain ⟨es, cl, h2⟩ := hmapb
  rw [h2] at h1; cases h1
 refine ⟨⟨ho.keep h.blk hdb, owns_fr h.keep hf (fun g hg hk => h.kvfar g hg (.inr (.inl (by rw [hb, hk])))), ?_, ⟨?_, ?_, ?_, ?_, ?_, ?_, ?_⟩, ?_, ?_, ?_⟩, ?_, ?_⟩
 ·show MapAt w' K.m (dir (restF K.files f))
  rw [hb, dir_rest]
  exact hmap
 ·intro p hp
  exact (h.files.at' p (hmem p hp)).fr hf (fun k hk e => hfb p (hmem p hp) (e ▸ hk))
 ·exact fun p hp => h.files.ok p (hmem p hp)
 ·exact h.files.names.sublist (hs1.map _)
 ·exact h.files.apart.sublist hs1
 ·show (restF K.files f).length ≤ 60
  have h2 := hs1.length_le
  have h3 := h.files.few
  omega
 ·exact fun p hp => h.files.long p (hmem p hp)
 ·exact h.files.tnd.sublist (hwsub.map _)
 ·exact fun x hx => h.still x (hwsub.subset hx)
 ·exact fun x hx => h.turns x (hwsub.subset hx)
 ·exact ⟨Nat.le_trans hwsub.length_le hmany.1, hmany.2⟩
 ·rintro k (hk | hk | ⟨p, hp, hk⟩ | hk)
  ·exact .inl (.inl hk)
  ·exact .inl (.inr (.inl hk))
  ·exact .inl (.inr (.inr (.inl ⟨p, hmem p hp, hk⟩)))
  ·exact .inl (.inr (.inr (.inr hk)))
 ·exact .only ho (.inr (.inl hb))
theorem DiskAt.remAfter {w : World} {d : Nat} {K : Dk} {F : Fl} (h : DiskAt w d K) (s : ByteArray) (hm : (s.data.toList, F) ∈ K.files) (hs : s.size ≤ maxLen) :
  ∃ b w2, K.m = some b ∧ (Builtin.delete_ #[71, 9] 0 #[.map (some b), .string s]).run Tryz.prog w = .ok (.tuple #[]) w2 ∧ Step w d K w2 { K with files := restF K.files s.data.toList } := by
 obtain ⟨b, hb⟩ : ∃ b, K.m = some b := by
  rcases h.map with ⟨_, h2⟩ | ⟨b, D, h1, _⟩
  ·have h3 : dir K.files = [] := h2
   unfold dir at h3
   rw [List.map_eq_nil_iff] at h3
   rw [h3] at hm; cases hm
  ·exact ⟨b, h1⟩
 have hdn : ((dir K.files).map (·.1)).Nodup := by rw [dir_names]; exact h.files.names
 have hmp := h.map
 rw [hb] at hmp
 obtain ⟨w2, hrun, hm2, ht2, _⟩ := hmp.del hdn hs 0
 exact ⟨b, w2, hb, hrun, h.removed hb hm2 (turned_only (ht2 b rfl))⟩
theorem remove_err {w : World} {d : Nat} (s : ByteArray) (v : Value) (z : Int) (hz : (z != 0) = true) (H : Hid (Calls Tryz.prog 98 #[.pointer (some ⟨d, 0, none⟩), .string s] w fun e w' => e = .returned (.tuple #[v, .int .i64 z]) ∧ Below w.heap.size w w')) :
  Calls Tryz.prog 57 #[.pointer (some ⟨d, 0, none⟩), .string s] w fun e w' => e = .returned (.int .i64 z) ∧ Below w.heap.size w w' := by
 go_enter Tryz.func57, Tryz.ntmps57
 go_wp2_with (go_at_call 98; (with_reducible refine H.out.mono ?_); rintro e w' ⟨rfl, hb⟩; have HB := Lib.hid hb; clear hb)
 go_ret
 exact ⟨rfl, HB.out⟩
theorem remove_falls {w : World} {d b : Nat} {K : Dk} (s : ByteArray) (H : Hid (Calls Tryz.prog 98 #[.pointer (some ⟨d, 0, none⟩), .string s] w fun e w' => e = .returned (.tuple #[.pointer (some ⟨b, 0, none⟩), .int .i64 0]) ∧ Below w.heap.size w w'))
  (HC : Hid (∀ W, Below w.heap.size w W → Calls Tryz.prog 97 #[.pointer (some ⟨d, 0, none⟩)] W fun e w' => e = .returned (.int .i64 14) ∧ ∃ n K', Crashed W d K K.keep n K' w')) :
  Calls Tryz.prog 57 #[.pointer (some ⟨d, 0, none⟩), .string s] w (FallPost w d K) := by
 go_enter Tryz.func57, Tryz.ntmps57
 go_wp2_with (first
  | (go_at_call 98; (with_reducible refine H.out.mono ?_); rintro e w1 ⟨rfl, hb⟩; have HB := Lib.hid hb; clear hb)
  | (go_at_call 97; (with_reducible refine (HC.out _ HB.out).mono ?_); rintro e w2 ⟨rfl, n, K', hcr⟩; have HR := Lib.hid hcr; clear hcr))
 go_ret
 exact ⟨_, n, K', rfl, HB.out, HR.out⟩
theorem remove_done {w : World} {d b : Nat} (s : ByteArray) (P : World → Prop) (Q : World → Prop)
  (H : Hid (Calls Tryz.prog 98 #[.pointer (some ⟨d, 0, none⟩), .string s] w fun e w' => e = .returned (.tuple #[.pointer (some ⟨b, 0, none⟩), .int .i64 0]) ∧ Below w.heap.size w w'))
  (HC : Hid (∀ W, Below w.heap.size w W → Calls Tryz.prog 97 #[.pointer (some ⟨d, 0, none⟩)] W fun e w' => e = .returned (.int .i64 0) ∧ P w'))
  (HP : Hid (∀ W, P W → ∃ m w2, W.cell? ⟨d, 0, none⟩ = some (.map (some m)) ∧ (Builtin.delete_ #[71, 9] 0 #[.map (some m), .string s]).run Tryz.prog W = .ok (.tuple #[]) w2 ∧ Q w2)) :
  Calls Tryz.prog 57 #[.pointer (some ⟨d, 0, none⟩), .string s] w fun e w' => e = .returned (.int .i64 0) ∧ Q w' := by
 go_enter Tryz.func57, Tryz.ntmps57
 go_wp2_with (first
  | (go_at_call 98; (with_reducible refine H.out.mono ?_); rintro e w1 ⟨rfl, hb⟩; have HB := Lib.hid hb; clear hb)
  | (go_at_call 97; (with_reducible refine (HC.out _ HB.out).mono ?_); rintro e w2 ⟨rfl, hp⟩; obtain ⟨m, w4, c0, hdel, hq⟩ := HP.out _ hp; have HQ := Lib.hid hq; clear hq hp))
 go_ret
 exact ⟨rfl, HQ.out⟩
inductive RemPost (w : World) (d : Nat) (K : Dk) (s : ByteArray) : Ending → World → Prop where
 | err {w'} : errF K.on s.size (getF K.files s.data.toList) ≠ 0 → Below w.heap.size w w' → RemPost w d K s (.returned (.int .i64 (errF K.on s.size (getF K.files s.data.toList)))) w'
 | falls {w1 w' n K'} : errF K.on s.size (getF K.files s.data.toList) = 0 → K.armed = true → ¬ 0 < K.left → Below w.heap.size w w1 → Crashed w1 d K K.keep n K' w' → RemPost w d K s (.returned (.int .i64 14)) w'
 | done {w'} : errF K.on s.size (getF K.files s.data.toList) = 0 → (K.armed = false ∨ 0 < K.left) → Step w d K w' { counted K with files := restF K.files s.data.toList } → RemPost w d K s (.returned (.int .i64 0)) w'
theorem DiskAt.remove {w : World} {d : Nat} {K : Dk} (h : DiskAt w d K) (s : ByteArray) (hs : s.size ≤ maxLen) (hl : K.left ≤ 9223372036854775807) :
  Calls Tryz.prog 57 #[.pointer (some ⟨d, 0, none⟩), .string s] w (RemPost w d K s) := by
 have HF := h.find s hs
 by_cases he : errF K.on s.size (getF K.files s.data.toList) ≠ 0
 ·obtain ⟨p, hp⟩ := ptr_shape (if errn K.on s.size = 0 then (getF K.files s.data.toList).map (·.b) else none)
  rw [hp] at HF
  refine (remove_err s _ _ (by simpa using he) HF).mono ?_
  rintro e w' ⟨rfl, hb⟩
  exact .err he hb
 ·have he : errF K.on s.size (getF K.files s.data.toList) = 0 := Decidable.not_not.1 he
  obtain ⟨h0, F, hF⟩ := errF_zero he
  have hon := errn_on h0
  have he2 := he
  rw [he2, if_pos h0, hF] at HF
  by_cases hk : K.armed = false ∨ 0 < K.left
  ·refine (remove_done (b := F.b) s (fun W => Step w d K W (counted K)) (fun W => Step w d K W { counted K with files := restF K.files s.data.toList }) HF
    (fun W hW => ((h.below hW).count0 hon hl hk).mono fun e w' hp => ⟨hp.1, (Step.below h hW).trans hp.2⟩) (fun W hW => ?_)).mono ?_
   ·have hm2 : (s.data.toList, F) ∈ (counted K).files := by rw [counted_files]; exact getF_mem hF
    obtain ⟨m, w2, e1, e2, e3⟩ := hW.at'.remAfter s hm2 hs
    rw [counted_files] at e3
    exact ⟨m, w2, (cell_at hW.at'.blk 0).trans (by rw [← e1]; rfl), e2, hW.trans e3⟩
   ·rintro e w' ⟨rfl, hst⟩
    exact .done he hk hst
  ·have ha : K.armed = true := by cases hx : K.armed with
    | true => rfl
    | false => exact absurd (.inl hx) hk
   refine (remove_falls (b := F.b) s HF (fun W hW => (h.below hW).count14 hon hl ha (fun hx => hk (.inr hx)))).mono ?_
   rintro e w' ⟨w1, n, K', rfl, hb, hc⟩
   exact .falls he ha (fun hx => hk (.inr hx)) hb hc
end Go.Proofs.YtbkngnjkaledlaaGreat.P4
namespace Go.Proofs.YtbkngnjkaledlaaGreat.P4
open Go Go.RowKit Go.Lib Go.Maps Go.ChangeMaps Go.MapKept P3 Go.Sort
def encS (n : List UInt8) : Value := .string ⟨n.toArray⟩
def namesP (p : ByteArray) (L : Files) : List (List UInt8) := (L.map (·.1)).filter (fun n => Lib.hasPrefix n p.data.toList)
def sortN (xs : List (List UInt8)) : List (List UInt8) := xs.mergeSort fun x y => decide (x ≤ y)
theorem sortN_length (xs : List (List UInt8)) : (sortN xs).length = xs.length := (List.mergeSort_perm _ _).length_eq
theorem names_perm {p : ByteArray} {L M : Files} (h : L.Perm M) : (namesP p L).Perm (namesP p M) := (h.map _).filter _
theorem names_cons (p : ByteArray) (n : List UInt8) (F : Fl) (L : Files) : namesP p ((n, F) :: L) = if Lib.hasPrefix n p.data.toList = true then n :: namesP p L else namesP p L := by
 unfold namesP
 rw [List.map_cons, List.filter_cons]
theorem names_le (p : ByteArray) (L : Files) : (namesP p L).length ≤ L.length := by
 have h := List.length_filter_le (fun n => Lib.hasPrefix n p.data.toList) (L.map (·.1))
 rw [List.length_map] at h
 exact h
theorem sort_names {w wr : World} {v : Value} {xs : List (List UInt8)} (hown : wr.ownsRow w.heap.size 9 1 v xs.length (xs.map encS)) (hB : Below w.heap.size w wr) (hl : xs.length ≤ 100) :
  Calls Tryz.prog 112 #[v] wr fun e w' => e = .returned (.tuple #[]) ∧ w'.ownsRow w.heap.size 9 1 v xs.length ((sortN xs).map encS) ∧ Below w.heap.size w w' := by
 by_cases hx : xs = []
 ·subst hx
  obtain ⟨a, cap, rfl⟩ : ∃ a cap, v = .slice a 0 cap := by
   rcases hown.2 with ⟨rfl, _⟩ | ⟨g, cap, cur, rfl, _⟩
   ·exact ⟨_, _, rfl⟩
   ·exact ⟨_, _, rfl⟩
  refine (Any.slices_Sort_string_none Tryz.lays190 a cap wr).mono ?_
  rintro e w' ⟨rfl, rfl⟩
  rw [show sortN [] = [] by simp [sortN]]
  exact ⟨rfl, hown, hB⟩
 ·rcases hown.2 with ⟨_, h0⟩ | ⟨g, cap, cur, rfl, hlo, hg, hcap, hmx, hcs, hct⟩
  ·exact absurd (List.length_eq_zero_iff.1 h0) hx
  have hc : ∀ (j : Nat) (x : List UInt8), xs[j]? = some x → cur[j]? = some (encS x) := by
   intro j x hj
   have hjl := (List.getElem?_eq_some_iff.1 hj).1
   have h1 : (cur.toList.take (xs.length * 1))[j]? = (xs.map encS)[j]? := by rw [hct]
   rw [List.getElem?_take_of_lt (by omega), List.getElem?_map, hj, Array.getElem?_toList] at h1
   exact h1
  have hH : Holds encStr wr g 0 xs.toArray := by
   intro j hj
   have hj2 : j < xs.length := by simpa using hj
   rw [Nat.zero_add]
   refine ⟨?_, free_at hg j⟩
   rw [cell_at hg, hc j _ (List.getElem?_eq_getElem hj2), getElem!_pos xs.toArray j hj]
   simp [encS]
  refine (Tryz.slices_Sort_string g 0 cap xs wr hH (lt_of_block hg) (by omega)).mono ?_
  rintro e w' ⟨rfl, n, os, rfl⟩
  obtain ⟨ms, hms⟩ : ∃ ms, ms = sortN xs := ⟨_, rfl⟩
  have hml : ms.length = xs.length := by rw [hms]; exact sortN_length xs
  have ho : Only g wr (Go.Sort.grow (putRow encStr (Sort.ahead wr n) g 0 ms.toArray) os) := sortWorld_only encStr wr g 0 n ms.toArray os
  have h1 : (putRow encStr (Sort.ahead wr n) g 0 ms.toArray).heap[g]? = some (.cells (putCells encStr 0 ms.toArray cur) 9 (0, 0)) := by
   simp only [putRow, mapBlock, Array.getElem?_modify]
   rw [if_pos trivial]
   have h2 : (Sort.ahead wr n).heap[g]? = some (.cells cur 9 (0, 0)) := hg
   rw [h2]
   rfl
  have h2 := old_below h1 (grow_below _ os)
  change _ ∧ (Go.Sort.grow (putRow encStr (Sort.ahead wr n) g 0 (sortN xs).toArray) os).ownsRow _ _ _ _ _ _ ∧ Below _ _ (Go.Sort.grow (putRow encStr (Sort.ahead wr n) g 0 (sortN xs).toArray) os)
  rw [← hms]
  refine ⟨rfl, ⟨by rw [List.length_map, hml, Nat.mul_one], .inr ⟨g, cap, _, rfl, hlo, h2, hcap, hmx, by unfold putCells; rw [Array.size_mapIdx]; exact hcs, ?_⟩⟩, Only.new hB ho hlo⟩
  apply List.ext_getElem?
  intro j
  by_cases hj : j < xs.length
  ·have hjm : j < ms.toArray.size := by rw [List.size_toArray]; omega
   rw [List.getElem?_take_of_lt (by omega), Array.getElem?_toList]
   unfold putCells
   rw [Array.getElem?_mapIdx, Array.getElem?_eq_getElem (by omega), Option.map_some, if_pos ⟨Nat.zero_le _, by omega⟩, Nat.sub_zero, getElem!_pos ms.toArray j hjm, List.getElem?_map, List.getElem?_eq_getElem (by omega)]
   simp [encS]
  ·rw [List.getElem?_eq_none (by rw [List.length_take]; omega), List.getElem?_eq_none (by rw [List.length_map]; omega)]
theorem infoSt : (Tryz.prog.info? 9).map (fun i => (i.zero, i.size, i.bytes)) = some (some (.string ⟨#[]⟩), 1, 16) := by kernel_rfl
theorem rngO_grown {w w' : World} {m : Option Nat} {r : Nat} {L : Dir} {lf : List UInt8 → Bool} {cnt lo n : Nat} {e : TypeId} {v : Value} {xs : List Value} (h : RngO w m r L lf cnt) (hr : w.ownsRow lo e 1 v n xs) (hg : w.grownBy w' v.ownBlock) : RngO w' m r L lf cnt := by
 rcases h with ⟨h1, h2, h3⟩ | ⟨b, rfl, h⟩
 ·refine .inl ⟨h1, ?_, h3⟩
  have hne : v.ownBlock ≠ some r := by
   intro hk
   rcases hr.2 with ⟨rfl, _⟩ | ⟨g, cap, cur, rfl, _, h6, _⟩
   ·cases hk
   ·obtain rfl : g = r := by simpa [Value.ownBlock] using hk
    rw [h2] at h6; cases h6
  rw [hg.block r (lt_of_block h2) (fun e => hne e.symm)]
  exact h2
 ·exact .inr ⟨b, rfl, rng_grown h hr hg⟩
theorem rngO_ne {w : World} {m : Option Nat} {r : Nat} {L : Dir} {lf : List UInt8 → Bool} {cnt lo n : Nat} {e : TypeId} {v : Value} {xs : List Value} (h : RngO w m r L lf cnt) (hr : w.ownsRow lo e 1 v n xs) : ∀ k, v.ownBlock = some k → k ≠ r := by
 rcases h with ⟨h1, h2, h3⟩ | ⟨b, rfl, h⟩
 ·rintro k hk rfl
  rcases hr.2 with ⟨rfl, _⟩ | ⟨g, cap, cur, rfl, _, h6, _⟩
  ·cases hk
  ·obtain rfl : g = k := by simpa [Value.ownBlock] using hk
   rw [h2] at h6; cases h6
 ·exact fun k hk => (rng_ne h hr k hk).2
def ListPost (w : World) (L : Files) (p : ByteArray) (e : Ending) (w' : World) : Prop :=
 ∃ v xs, e = .returned v ∧ xs.Perm (namesP p L) ∧ w'.ownsRow w.heap.size 9 1 v xs.length ((sortN xs).map encS) ∧ Below w.heap.size w w'
theorem list_off (w : World) (d : Nat) (p : ByteArray) (c1 : w.cell? ⟨d, 1, none⟩ = some (.bool false)) :
  Calls Tryz.prog 74 #[.pointer (some ⟨d, 0, none⟩), .string p] w fun e w' => e = .returned (.slice none 0 0) ∧ w = w' := by
 have H := Lib.hid (on_any w d false c1)
 go_enter Tryz.func74, Tryz.ntmps74
 go_wp2_with (go_at_call 31; (with_reducible refine H.out.mono ?_); rintro e w' ⟨rfl, rfl⟩)
 go_ret
 exact ⟨rfl, rfl⟩
theorem list_any (w : World) (d : Nat) (m : Option Nat) (L : Files) (p : ByteArray) (c0 : w.cell? ⟨d, 0, none⟩ = some (.map m)) (c1 : w.cell? ⟨d, 1, none⟩ = some (.bool true)) (hm : MapAt w m (dir L)) (hn : (L.map (·.1)).Nodup) (hl : L.length ≤ 60) :
  Calls Tryz.prog 74 #[.pointer (some ⟨d, 0, none⟩), .string p] w (ListPost w L p) := by
 obtain ⟨i0, hi, hz0, hz1, hz2⟩ := info_parts infoSt
 have HM := Lib.hid hm
 have HN := Lib.hid hn
 have HLn := Lib.hid hl
 have HOn := Lib.hid (on_any w d true c1)
 have HPre : Hid (∀ s w, Calls Tryz.prog 111 #[.string s, .string p] w fun e w' => e = .returned (.bool (Lib.hasPrefix s.data.toList p.data.toList)) ∧ w = w') := fun s w => (Tryz.strings_HasPrefix s p w).mono fun e w' ⟨a, b⟩ => ⟨a, b.symm⟩
 clear hm hn hl c1
 go_enter Tryz.func74, Tryz.ntmps74
 go_wp2_with (first
  | (go_at_call 31; (with_reducible refine HOn.out.mono ?_); rintro e w' ⟨rfl, rfl⟩)
  | (at_range; refine wpList_range_o rfl _ rfl m (dir L) rfl HM.out ?_; intro w0 hr0 hb0 hs0; clear hs0))
 go_frame
 have HR0 := Lib.hid hr0
 have HB0 := Lib.hid hb0
 have hdl : (dir L).length = L.length := by unfold dir; rw [List.length_map]
 rw [hdl] at HR0
 clear hr0 hb0 c0 HOn hdl
 go_loopg [5, 6] (L.length) (fun q vl vn wr => ∃ (lf : List UInt8 → Bool) (cnt : Nat) (xs : List (List UInt8)), cnt ≤ q ∧ Hid (RngO wr m w.heap.size (dir L) lf cnt) ∧ Hid (xs.Perm (namesP p (doneL L lf))) ∧ Hid (wr.ownsRow w.heap.size 9 1 vl xs.length (xs.map encS)) ∧ Hid (Below w.heap.size w wr))
 case atStart => exact ⟨_, _, [], Nat.le_refl _, HR0.out, by rw [done_none HN.out]; exact List.Perm.refl _, World.ownsRow_nil _ _ _ _, HB0.out⟩
 case round =>
  clear HR0 HB0
  obtain ⟨lf, cnt, xs, hq, hR, hP, hO, hB⟩ := hrel
  have hxl : xs.length ≤ 60 := by
   have h1 := hP.out.length_eq
   have h2 := names_le p (doneL L lf)
   have h3 : (doneL L lf).length ≤ L.length := List.length_filter_le _ _
   have h4 := HLn.out
   omega
  go_wp2_with (at_next; refine wpList_next_o rfl _ rfl m w.heap.size (dir L) lf cnt rfl hR.out ?_ ?_)
  ·intro hno
   have hp : xs.Perm (namesP p L) := by have := hP.out; rw [done_all hno] at this; exact this
   have HS := Lib.hid (sort_names hO.out hB.out (by omega))
   have HP2 := Lib.hid hp
   clear hp hno hB hR hP hO
   go_wp2_with (go_at_call 112; (with_reducible refine HS.out.mono ?_); rintro e w2 ⟨rfl, hys⟩; have HY := Lib.hid hys; clear hys)
   go_ret
   exact ⟨_, xs, rfl, HP2.out, HY.out.1, HY.out.2⟩
  ·intro s fb w1 cnt1 hs hm1 hlf hR1 hlt ho1 hs1 hen
   obtain ⟨F, hFm, rfl⟩ := dir_mem hm1
   have hB1 : Below w.heap.size w w1 := Only.new hB.out ho1 (Nat.le_refl _)
   have hst := names_perm (p := p) (done_step hlf HN.out hFm)
   rw [names_cons] at hst
   have hO1 : w1.ownsRow w.heap.size 9 1 u5 xs.length (xs.map encS) := owns_only hO.out ho1 (rngO_ne hR.out hO.out)
   have HST := Lib.hid hst
   have HR1 := Lib.hid hR1
   have HB1 := Lib.hid hB1
   have HO1 := Lib.hid hO1
   have HPr := Lib.hid (HPre.out s)
   clear hm1 hlf hR1 hs1 hFm hB1 hst hB hR hO hO1
   obtain ⟨B, hBB⟩ : ∃ B, B = Lib.hasPrefix s.data.toList p.data.toList := ⟨_, rfl⟩
   rw [← hBB] at HPr HST
   clear hBB
   cases B with
   | false =>
    have HP2 : Hid (xs.Perm (namesP p (doneL L (fun k => lf k && !(k == s.data.toList))))) := by
     have h1 := HST.out
     rw [if_neg (by decide)] at h1
     exact hP.out.trans h1.symm
    clear HST hP
    go_wp2_with (go_at_call 111; (with_reducible refine (HPr.out _).mono ?_); rintro e w2 ⟨rfl, rfl⟩)
    go_roundg (cnt1)
    case measure => omega
    case rel => exact ⟨_, _, xs, Nat.le_refl _, HR1.out, HP2.out, HO1.out, HB1.out⟩
   | true =>
    have HP2 : Hid ((xs ++ [s.data.toList]).Perm (namesP p (doneL L (fun k => lf k && !(k == s.data.toList))))) := by
     have h1 := HST.out
     rw [if_pos rfl] at h1
     exact (List.perm_append_singleton _ _).trans ((hP.out.cons _).trans h1.symm)
    clear HST hP
    have es : encS s.data.toList = .string s := by simp [encS]
    go_wp2_with (first
     | (go_at_call 111; (with_reducible refine (HPr.out _).mono ?_); rintro e w2 ⟨rfl, rfl⟩)
     | (at_builtin; refine wpList_append_own _ rfl _ _ 99 rfl w.heap.size 9 i0 (.string ⟨#[]⟩) 1 16 Tryz.underlying99 hi hz0 hz1 hz2 rfl (by decide) _ xs.length (xs.map encS) rfl (HO1.out.alloc _) ⟨w1.heap.size, 0, none⟩ 1 1 [.string s] rfl rfl ?c1 ?c2 ?c3 ?c4 ?c5 ?_))
    case c1 => exact World.news_of_block (heap_alloc_new w1 _)
    case c2 => intro u hu; simp at hu; subst hu; rfl
    case c3 => unfold maxLen; omega
    case c4 => omega
    case c5 => have := HB1.out.size; simp; omega
    intro v' w4 hown' hgrow _
    have hB3 : Below w.heap.size w (w1.alloc (.cells #[.string s] 9)) := grow HB1.out _
    have hO3 := World.ownsRow.alloc HO1.out (.cells #[.string s] 9)
    have HB4 : Hid (Below w.heap.size w w4) := below_grown hB3 hO3 hgrow
    have HR4 : Hid (RngO w4 m w.heap.size (dir L) (fun k => lf k && !(k == s.data.toList)) cnt1) := rngO_grown (HR1.out.fr (S := fun _ => False) (.of (below_new _ _)) (fun _ _ => id) id) hO3 hgrow
    have HO4 : Hid (w4.ownsRow w.heap.size 9 1 v' (xs ++ [s.data.toList]).length ((xs ++ [s.data.toList]).map encS)) := by
     rw [List.length_append, List.map_append, List.map_cons, List.map_nil, es]
     exact hown'
    clear hown' hgrow hB3 hO3 HO1 HB1 HR1
    go_wp2
    go_roundg (cnt1)
    case measure => omega
    case rel => exact ⟨_, _, xs ++ [s.data.toList], Nat.le_refl _, HR4.out, HP2.out, HO4.out, HB4.out⟩
theorem DiskAt.list {w : World} {d : Nat} {K : Dk} (h : DiskAt w d K) (hon : K.on = true) (p : ByteArray) :
  Calls Tryz.prog 74 #[.pointer (some ⟨d, 0, none⟩), .string p] w (ListPost w K.files p) :=
 list_any w d K.m K.files p (cell_at h.blk 0) ((cell_at h.blk 1).trans (by rw [← hon]; rfl)) h.map h.files.names h.files.few
end Go.Proofs.YtbkngnjkaledlaaGreat.P4
