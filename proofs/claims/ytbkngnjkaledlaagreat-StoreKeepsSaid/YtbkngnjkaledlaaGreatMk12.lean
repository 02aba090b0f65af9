/-
  Texts of the proof of SaidKeeps8, side by side: Dk10, Or4.
-/
import Derived.Test.YtbkngnjkaledlaaGreatMk04
import Derived.Test.YtbkngnjkaledlaaGreatMk01
import Derived.Test.YtbkngnjkaledlaaGreatMk10
/-
  Package disk: what a crash makes of a file, in plain words. No program. (Disk, part 10.)
-/
namespace Go.Proofs.YtbkngnjkaledlaaGreat.P4
open Go Go.RowKit Go.Lib Go.Proofs.YtbkngnjkaledlaaGreat.P3

/-- a sector of zero bytes -/
def zeros : ByteArray := ⟨(List.replicate 256 (0 : UInt8)).toArray⟩
theorem zeros_size : zeros.size = 256 := by
  show (List.replicate 256 (0 : UInt8)).toArray.size = 256
  rw [List.size_toArray, List.length_replicate]
/-- the first k bytes of d, and the others of s -/
def torn (k : Nat) (d s : ByteArray) : ByteArray := d.extract 0 k ++ s.extract k s.size
theorem torn_size {k : Nat} {d s : ByteArray} (hd : d.size = 256) (hs : s.size = 256) (hk : k ≤ 256) : (torn k d s).size = 256 := by
  unfold torn
  rw [ByteArray.size_append, ByteArray.size_extract, ByteArray.size_extract]
  omega

/-- v at place p; zeros between -/
def setPad (S : List ByteArray) (p : Nat) (v : ByteArray) : List ByteArray := (S ++ List.replicate (p + 1 - S.length) zeros).set p v
/-- one write (kept, sector, bytes) done upon what is safe -/
def keepOne (S : List ByteArray) (x : Nat × Nat × ByteArray) : List ByteArray := if x.1 = 0 then S else setPad S x.2.1 (torn x.1 x.2.2 (S.getD x.2.1 zeros))
/-- all of them, in order -/
def keepAll (S : List ByteArray) (l : List (Nat × Nat × ByteArray)) : List ByteArray := l.foldl keepOne S
theorem keepAll_snoc (S : List ByteArray) (l : List (Nat × Nat × ByteArray)) (x : Nat × Nat × ByteArray) : keepAll S (l ++ [x]) = keepOne (keepAll S l) x := by simp [keepAll]
theorem setPad_length (S : List ByteArray) (p : Nat) (v : ByteArray) : (setPad S p v).length = max S.length (p + 1) := by
  unfold setPad
  rw [List.length_set, List.length_append, List.length_replicate]
  omega
theorem setPad_at (S : List ByteArray) (p : Nat) (v : ByteArray) (i : Nat) : (setPad S p v).getD i zeros = if i = p then v else S.getD i zeros := by
  unfold setPad
  rw [List.getD_eq_getElem?_getD, List.getElem?_set]
  by_cases h : p = i
  · subst h
    rw [if_pos rfl, if_pos rfl, if_pos (by rw [List.length_append, List.length_replicate]; omega)]
    rfl
  · rw [if_neg h, if_neg (fun e => h e.symm), List.getD_eq_getElem?_getD]
    by_cases h2 : i < S.length
    · rw [List.getElem?_append_left h2]
    · rw [List.getElem?_append_right (by omega), List.getElem?_eq_none (l := S) (by omega), List.getElem?_replicate]
      split <;> rfl

/-- a sector is as it is safe -/
def Sec.back (s : Sec) : Sec := ⟨if s.safe.size = 0 then zeros else s.safe, s.safe, s.top⟩
theorem Sec.back_back (s : Sec) : s.back.back = s.back := rfl
/-- k bytes of d are upon it -/
def Sec.tear (k : Nat) (d : ByteArray) (s : Sec) : Sec := ⟨torn k d s.now, s.safe, s.top⟩
/-- what is kept of one write, on a file's sectors -/
def tearOne (S : List Sec) (x : Wr) : List Sec := if x.kept = 0 then S else S.modify x.pos (Sec.tear x.kept x.data)
def sizeOne (n : Nat) (x : Wr) : Nat := if x.kept = 0 then n else max n (x.pos + 1)
def tearAll (S : List Sec) (l : List Wr) : List Sec := l.foldl tearOne S
def sizeAll (n : Nat) (l : List Wr) : Nat := l.foldl sizeOne n
theorem tearAll_snoc (S : List Sec) (l : List Wr) (x : Wr) : tearAll S (l ++ [x]) = tearOne (tearAll S l) x := by simp [tearAll]
theorem sizeAll_snoc (n : Nat) (l : List Wr) (x : Wr) : sizeAll n (l ++ [x]) = sizeOne (sizeAll n l) x := by simp [sizeAll]
theorem tearOne_length (S : List Sec) (x : Wr) : (tearOne S x).length = S.length := by
  unfold tearOne; split <;> simp
theorem tearAll_length (S : List Sec) (l : List Wr) : (tearAll S l).length = S.length := by
  induction l generalizing S with
  | nil => rfl
  | cons x r ih =>
    show (tearAll (tearOne S x) r).length = _
    rw [ih, tearOne_length]

def Wr.trip (x : Wr) : Nat × Nat × ByteArray := (x.kept, x.pos, x.data)
/-- the sectors against the list of what is kept -/
structure Like (S : List Sec) (n : Nat) (C : List ByteArray) : Prop where
  size : n = C.length
  le : C.length ≤ S.length
  now : ∀ i s, S[i]? = some s → s.now = C.getD i zeros
theorem Like.one {S : List Sec} {n : Nat} {C : List ByteArray} (h : Like S n C) (x : Wr) (hp : x.pos < S.length) : Like (tearOne S x) (sizeOne n x) (keepOne C x.trip) := by
  unfold tearOne sizeOne keepOne Wr.trip
  by_cases hk : x.kept = 0
  · simp only [if_pos hk]
    exact h
  · simp only [if_neg hk]
    refine ⟨?_, ?_, fun i s hs => ?_⟩
    · rw [setPad_length, h.size]
    · rw [setPad_length, List.length_modify]; have := h.le; omega
    · rw [setPad_at]
      rw [List.getElem?_modify] at hs
      by_cases e : x.pos = i
      · subst e
        simp only [if_pos] at hs
        obtain ⟨s0, h0, rfl⟩ := Option.map_eq_some_iff.1 hs
        rw [if_pos rfl, ← h.now _ s0 h0]
        rfl
      · simp only [if_neg e] at hs
        rw [if_neg (fun e2 => e e2.symm)]
        exact h.now i s (by simpa using hs)
theorem Like.all {S : List Sec} {n : Nat} {C : List ByteArray} (h : Like S n C) : ∀ (l : List Wr), (∀ x ∈ l, x.pos < S.length) → Like (tearAll S l) (sizeAll n l) (keepAll C (l.map Wr.trip)) := by
  intro l
  induction l generalizing S n C with
  | nil => intro _; exact h
  | cons x r ih =>
    intro hp
    exact ih (h.one x (hp x (by simp))) (fun y hy => by rw [tearOne_length]; exact hp y (List.mem_cons_of_mem _ hy))
theorem Like.take {S : List Sec} {n : Nat} {C : List ByteArray} (h : Like S n C) : (S.map (·.now)).take n = C := by
  have h1 := h.size
  have h2 := h.le
  apply List.ext_getElem?
  intro i
  rw [List.getElem?_take, List.getElem?_map]
  by_cases hi : i < n
  · rw [if_pos hi]
    obtain ⟨s, hs⟩ : ∃ s, S[i]? = some s := ⟨_, List.getElem?_eq_getElem (by omega)⟩
    rw [hs]
    have := h.now i s hs
    rw [List.getD_eq_getElem?_getD, List.getElem?_eq_getElem (by omega), Option.getD_some] at this
    rw [List.getElem?_eq_getElem (by omega), ← this]
    rfl
  · rw [if_neg hi, List.getElem?_eq_none (by omega)]

theorem back_like {F : Fl} (h : FileOk F) : Like (F.secs.map Sec.back) F.ns F.abs.safe := by
  have hns := h.nsle
  refine ⟨?_, ?_, fun i s hs => ?_⟩
  · unfold Fl.abs; simp; omega
  · unfold Fl.abs; simp; omega
  · rw [List.getElem?_map] at hs
    obtain ⟨s0, h0, rfl⟩ := Option.map_eq_some_iff.1 hs
    obtain ⟨a, b⟩ := h.safe i s0 h0
    unfold Fl.abs Sec.back
    simp only
    rw [List.getD_eq_getElem?_getD, List.getElem?_map, List.getElem?_take]
    by_cases hi : i < F.ns
    · rw [if_pos hi, h0, if_neg (by rw [a hi]; decide)]
      rfl
    · rw [if_neg hi, b (by omega)]
      rfl

/-- the file behind a crash, ahead of Sync and Cut -/
def Fl.tear (F : Fl) : Fl := { F with secs := tearAll (F.secs.map Sec.back) F.ws }
def Fl.left (F : Fl) : Nat := sizeAll F.ns F.ws
theorem tear_other {S : List Sec} {i : Nat} : ∀ {l : List Wr}, (∀ x ∈ l, x.pos ≠ i) → (tearAll S l)[i]? = S[i]? := by
  intro l
  induction l generalizing S with
  | nil => intro _; rfl
  | cons x r ih =>
    intro h
    show (tearAll (tearOne S x) r)[i]? = _
    rw [ih (fun y hy => h y (List.mem_cons_of_mem _ hy))]
    unfold tearOne
    split
    · rfl
    · rw [List.getElem?_modify]
      have := h x (by simp)
      simp [this]
theorem tear_rest {i : Nat} {s : Sec} : ∀ {l : List Wr} {S : List Sec}, (tearAll S l)[i]? = some s → ∃ s0, S[i]? = some s0 ∧ s.safe = s0.safe ∧ s.top = s0.top := by
  intro l
  induction l with
  | nil => intro S h; exact ⟨s, h, rfl, rfl⟩
  | cons x r ih =>
    intro S h
    obtain ⟨s1, h1, e1, e2⟩ := ih (S := tearOne S x) h
    unfold tearOne at h1
    split at h1
    · exact ⟨s1, h1, e1, e2⟩
    · rw [List.getElem?_modify] at h1
      by_cases e : x.pos = i
      · subst e
        simp only [if_pos] at h1
        obtain ⟨s0, h0, rfl⟩ := Option.map_eq_some_iff.1 h1
        exact ⟨s0, h0, e1, e2⟩
      · simp only [if_neg e] at h1
        exact ⟨s1, by simpa using h1, e1, e2⟩
theorem tear_now {l : List Wr} (hk : ∀ x ∈ l, x.kept ≤ 256) (hd : ∀ x ∈ l, x.data.size = 256) : ∀ {S : List Sec}, (∀ s ∈ S, s.now.size = 256) → ∀ s ∈ tearAll S l, s.now.size = 256 := by
  induction l with
  | nil => intro S h; exact h
  | cons x r ih =>
    intro S h
    refine ih (fun y hy => hk y (List.mem_cons_of_mem _ hy)) (fun y hy => hd y (List.mem_cons_of_mem _ hy)) (S := tearOne S x) ?_
    intro s hs
    unfold tearOne at hs
    split at hs
    · exact h s hs
    · obtain ⟨i, hi⟩ := List.getElem?_of_mem hs
      rw [List.getElem?_modify] at hi
      by_cases e : x.pos = i
      · subst e
        simp only [if_pos] at hi
        obtain ⟨s0, h0, rfl⟩ := Option.map_eq_some_iff.1 hi
        exact torn_size (hd x (by simp)) (h s0 (List.mem_of_getElem? h0)) (hk x (by simp))
      · simp only [if_neg e] at hi
        exact h s (List.mem_of_getElem? (by simpa using hi))

theorem back_now {F : Fl} (h : FileOk F) : ∀ s ∈ F.secs.map Sec.back, s.now.size = 256 := by
  intro s hs
  obtain ⟨s0, h0, rfl⟩ := List.mem_map.1 hs
  obtain ⟨i, hi⟩ := List.getElem?_of_mem h0
  obtain ⟨a, b⟩ := h.safe i s0 hi
  unfold Sec.back
  simp only
  split
  · exact zeros_size
  · rename_i hne
    by_cases hi2 : i < F.ns
    · exact a hi2
    · rw [b (by omega)] at hne
      exact absurd rfl hne

theorem Fl.tear_ok (F : Fl) (h : FileOk F) (hk : ∀ x ∈ F.ws, x.kept ≤ 256) : FileOk F.tear := by
  have hl : F.tear.secs.length = F.secs.length := by unfold Fl.tear; rw [tearAll_length, List.length_map]
  have hsec : ∀ (k : Nat) (s : Sec), F.tear.secs[k]? = some s → ∃ s0 : Sec, F.secs[k]? = some s0 ∧ s.safe = s0.safe ∧ s.top = s0.top := by
    intro k s hk
    obtain ⟨s1, h1, e1, e2⟩ := tear_rest (S := F.secs.map Sec.back) (l := F.ws) hk
    rw [List.getElem?_map] at h1
    obtain ⟨s0, h0, rfl⟩ := Option.map_eq_some_iff.1 h1
    exact ⟨s0, h0, e1, e2⟩
  refine ⟨?_, h.unders, ?_, h.data, ?_, ?_, ?_, ?_, h.made, ?_, h.turns, h.few⟩
  · intro k s hs
    obtain ⟨s0, h0, _, e⟩ := hsec k s hs
    rw [e]; exact h.tops k s0 h0
  · rw [hl]; exact h.pos
  · exact tear_now hk h.data (back_now h)
  · intro k s hs
    obtain ⟨s0, h0, e, _⟩ := hsec k s hs
    rw [e]; exact h.safe k s0 h0
  · intro k s hs hno
    obtain ⟨s0, h0, e, _⟩ := hsec k s hs
    obtain ⟨c1, c2⟩ := h.clean k s0 h0 hno
    refine ⟨c1, ?_⟩
    have h2 : (tearAll (F.secs.map Sec.back) F.ws)[k]? = some s := hs
    rw [tear_other (l := F.ws) hno, List.getElem?_map, h0] at h2
    obtain rfl := Option.some.inj h2
    unfold Sec.back
    simp only
    rw [if_neg]
    rw [(h.safe k s0 h0).1 c1]; decide
  · rw [hl]; exact h.nsle
  · rw [hl]; exact h.room

theorem size_left {F : Fl} (h : FileOk F) : F.left ≤ F.secs.length ∧ F.left = (keepAll F.abs.safe (F.ws.map Wr.trip)).length := by
  have hL := (back_like h).all F.ws (fun x hx => by rw [List.length_map]; exact h.pos x hx)
  have h1 := hL.size
  have h2 := hL.le
  rw [tearAll_length, List.length_map] at h2
  exact ⟨by unfold Fl.left; omega, h1⟩

/-- a crash, on a file as the document has it (kept, sector, bytes of its writes) -/
def AF.crash (A : AF) (l : List (Nat × Nat × ByteArray)) : AF := ⟨keepAll A.safe l, keepAll A.safe l, true, []⟩
theorem Fl.crash_abs (F : Fl) (h : FileOk F) (sl : Value) : (F.tear.sync.cut sl F.left).abs = F.abs.crash (F.ws.map Wr.trip) := by
  have hL := ((back_like h).all F.ws (fun x hx => by rw [List.length_map]; exact h.pos x hx)).take
  rw [Fl.cut_abs, Fl.sync_abs]
  unfold AF.cut AF.sync AF.crash
  simp only [List.filter_nil, AF.mk.injEq, and_true]
  exact ⟨hL, hL⟩

end Go.Proofs.YtbkngnjkaledlaaGreat.P4

/-
  strings.Clone, strings.Repeat of a zero byte, cmp.Or of two texts.
-/
namespace Go.Proofs.YtbkngnjkaledlaaGreat.P4
open Go Go.RowKit Go.Lib Go.Proofs.YtbkngnjkaledlaaGreat.P3

theorem repeat_zero : ∀ n, Lib.repeatL [(0 : UInt8)] n = List.replicate n 0 := by
  intro n
  induction n with
  | zero => rfl
  | succ n ih =>
    show [0] ++ Lib.repeatL [0] n = _
    rw [ih]
    rfl

theorem repeat_zeros (w : World) : Calls Tryz.prog 91 #[.string ⟨#[0]⟩, .int .i64 256] w fun e w' => e = .returned (.string zeros) ∧ Below w.heap.size w w' := by
  have h := Tryz.strings_Repeat ⟨#[0]⟩ 256 w (by decide) (by decide)
  have e : (⟨(Lib.repeatL (⟨#[0]⟩ : ByteArray).data.toList 256).toArray⟩ : ByteArray) = zeros := by
    unfold zeros
    rw [show (⟨#[0]⟩ : ByteArray).data.toList = [(0 : UInt8)] from rfl, repeat_zero]
  rw [e] at h
  exact h

theorem clone_any (s : ByteArray) (w : World) (hs : s.size ≤ 281474976710656) : Calls Tryz.prog 32 #[.string s] w fun e w' => e = .returned (.string s) ∧ Below w.heap.size w w' := by
  have H := fun w' : World => Lib.hid (Tryz.stringslite_Clone s w' hs)
  go_enter Tryz.func32, Tryz.ntmps32
  go_wp2_with (go_at_call 82; refine (H _).out.mono ?_; rintro e w' ⟨rfl, hb⟩)
  go_ret
  exact ⟨rfl, hb⟩

theorem or_some (w : World) (B : Nat) (a z : ByteArray) (ha : (!a.toList.isEmpty) = true) (c0 : w.cell? ⟨B, 0, none⟩ = some (.string a)) :
    Calls Tryz.prog 118 #[.slice (some ⟨B, 0, none⟩) 2 2] w fun e w' => e = .returned (.string a) ∧ w = w' := by
  go_enter Tryz.func118, Tryz.ntmps118
  go_wp2
  go_loop [8] (fun i => i = .int .i64 0) (fun _ => 0)
  case atStart => rfl
  case round =>
    subst hrel
    go_wp2
    go_ret
    exact ⟨rfl, rfl⟩
theorem or_none (w : World) (B : Nat) (z : ByteArray) (hz : (!z.toList.isEmpty) = true) (c0 : w.cell? ⟨B, 0, none⟩ = some (.string ⟨#[]⟩)) (c1 : w.cell? ⟨B, 1, none⟩ = some (.string z)) :
    Calls Tryz.prog 118 #[.slice (some ⟨B, 0, none⟩) 2 2] w fun e w' => e = .returned (.string z) ∧ w = w' := by
  go_enter Tryz.func118, Tryz.ntmps118
  go_wp2
  go_loop [8] (fun i => i = .int .i64 0 ∨ i = .int .i64 1) (fun i => (1 - intOf i).toNat)
  case atStart => exact .inl rfl
  case round =>
    rcases hrel with rfl | rfl
    · go_wp2
      go_round
      case rel => exact .inr rfl
      case measure => simp [intOf]
    · go_wp2
      go_ret
      exact ⟨rfl, rfl⟩

theorem full_some {a : ByteArray} (h : a.size ≠ 0) : (!a.toList.isEmpty) = true := by
  cases e : a.toList with
  | nil =>
    exfalso
    apply h
    rw [Lib.toList_data] at e
    rw [Lib.size_eq, e]
    rfl
  | cons x r => rfl
theorem or_back (w : World) (B : Nat) (a : ByteArray) (ha : a.size ≠ 0 ∨ a = ⟨#[]⟩) (c0 : w.cell? ⟨B, 0, none⟩ = some (.string a)) (c1 : w.cell? ⟨B, 1, none⟩ = some (.string zeros)) :
    Calls Tryz.prog 118 #[.slice (some ⟨B, 0, none⟩) 2 2] w fun e w' => e = .returned (.string (if a.size = 0 then zeros else a)) ∧ w = w' := by
  rcases ha with ha | rfl
  · rw [if_neg ha]
    exact or_some w B a zeros (full_some ha) c0
  · exact or_none w B zeros (full_some (by rw [zeros_size]; decide)) c0 c1

end Go.Proofs.YtbkngnjkaledlaaGreat.P4
