/-
  Texts of the proof of SaidKeeps8, side by side: Qs0, Mt6.
-/
import Derived.Test.YtbkngnjkaledlaaGreatMk37
import Derived.Test.YtbkngnjkaledlaaGreatMk38
import Derived.Test.YtbkngnjkaledlaaGreatMk30
/-
  The program's store on a disk of one's own, as the document has it, not armed: what a trace of writes leaves. (Store, abstract.)
-/
namespace Go.Proofs.YtbkngnjkaledlaaGreat.P8
open Go Go.RowKit Go.Lib Go.Maps Go.ChangeMaps Go.MapKept Go.Proofs.YtbkngnjkaledlaaGreat.P3 Go.Proofs.YtbkngnjkaledlaaGreat.P4
open Go.Proofs.YtbkngnjkaledlaaGreat.P5 (Pg zer zer_size)

/-- writes one behind the other -/
def runA (n : List UInt8) : AL → Nat → List (Int × ByteArray) → AL
  | A, _, [] => A
  | A, t, x :: l => runA n (writeA A n (t + 1) x.1.toNat x.2) (t + 1) l
/-- each of them may be: m sectors are there -/
def okRun : Nat → List (Int × ByteArray) → Prop
  | _, [] => True
  | m, x :: l => x.2.size = 256 ∧ 0 ≤ x.1 ∧ x.1 ≤ m ∧ x.1 ≤ 4000 ∧ okRun (max m (x.1.toNat + 1)) l
theorem okRun_app {l k : List (Int × ByteArray)} : ∀ {m : Nat}, okRun m (l ++ k) ↔ okRun m l ∧ okRun (endW m l) k := by
  induction l with
  | nil => intro m; simp [okRun, endW]
  | cons x l ih =>
    intro m
    obtain ⟨i, d⟩ := x
    show _ ∧ _ ∧ _ ∧ _ ∧ okRun _ (l ++ k) ↔ (_ ∧ _ ∧ _ ∧ _ ∧ okRun _ l) ∧ okRun (endW _ l) k
    rw [ih]
    simp only [and_assoc]
theorem okRun_zeros (n : Nat) (hn : n ≤ 4000) : ∀ (q m : Nat), n - m = q → okRun m (zerosW (zer 256) m n) := by
  intro q
  induction q with
  | zero => intro m h; rw [zerosW_done (by omega)]; trivial
  | succ q ih =>
    intro m h
    rw [zerosW_next (by omega)]
    refine ⟨zer_size _, by show (0 : Int) ≤ (m : Int); omega, by show (m : Int) ≤ m; omega, by show (m : Int) ≤ 4000; omega, ?_⟩
    show okRun (max m ((m : Int).toNat + 1)) _
    rw [show max m ((m : Int).toNat + 1) = m + 1 by omega]
    exact ih (m + 1) (by omega)
theorem okRun_put : ∀ {l : List Pg} {m : Nat}, (∀ p ∈ l, okPut p) → okRun m (putW m l) := by
  intro l
  induction l with
  | nil => intro m _; trivial
  | cons p l ih =>
    intro m h
    have ho := h p (List.mem_cons_self ..)
    have h1 := ho.2.2
    have h2 := ho.1.2.2.2.1
    show okRun m (zerosW (zer 256) m p.id.toNat ++ (p.id, p.sector) :: putW _ l)
    rw [okRun_app]
    refine ⟨okRun_zeros _ (by omega) _ m rfl, ?_⟩
    rw [endW_zeros _ _ _ m rfl]
    exact ⟨p.sector_size ho.1, by omega, by show p.id ≤ ((max m p.id.toNat : Nat) : Int); omega, by show p.id ≤ 4000; omega, ih fun q hq => h q (List.mem_cons_of_mem _ hq)⟩
theorem getA_write (A : AL) (n : List UInt8) (t i : Nat) (d : ByteArray) : getA (writeA A n t i d) n = some (((getA A n).getD ⟨[], [], false, []⟩).write t i d) := by simp [writeA, getA]
theorem aw_len (F : AF) (t i : Nat) (d : ByteArray) (h : i ≤ F.now.length) : (F.write t i d).now.length = max F.now.length (i + 1) := by
  unfold AF.write
  by_cases e : i = F.now.length
  · simp only [if_pos e, List.length_append, List.length_cons, List.length_nil]; omega
  · simp only [if_neg e, List.length_set]; omega
theorem size_write {A : AL} {n : List UInt8} {t i : Nat} {d : ByteArray} (h : i ≤ sizeA A n) : sizeA (writeA A n t i d) n = max (sizeA A n) (i + 1) := by
  have e : sizeA A n = ((getA A n).getD ⟨[], [], false, []⟩).now.length := by unfold sizeA; cases getA A n <;> rfl
  rw [e] at h ⊢
  unfold sizeA
  rw [getA_write]
  exact aw_len _ _ _ _ h
section
variable {w w' w1 a : World} {b d m t : Nat} {s : ByteArray} {i z : Int} {n : Int} {K K1 K2 : Dk} {l : List (Int × ByteArray)} {A : AL} {on : Bool}
theorem calm_write0 (hK : DiskAt w d K) (hC : P4.Calm K true t) (hA : (absL K.files).Perm A) (h1 : 1 ≤ s.size) (h2 : s.size ≤ 40) (hm : sizeA A s.data.toList = m) (h3 : 0 ≤ i) (h4 : i ≤ m) (h5 : i ≤ 4000) (hl : getA A s.data.toList = none → A.length < 60) : P4.writeE K s i 256 = 0 := by
  have hL : DA w d K A := ⟨hK, hA⟩
  have hlen : K.files.length = A.length := by rw [← hA.length_eq]; simp [absL]
  unfold P4.writeE
  rw [if_neg (by rw [hC.on, errn_good h1 h2]; decide), if_neg (by omega), hL.size, if_neg (by omega), if_neg (fun hx => by rw [hC.full] at hx; exact absurd hx.2 (by decide)),
    if_neg (fun hx => by have := hl ((hL.getNone _).1 hx.1); omega)]
/-- all that a trace leaves -/
theorem WTr.calm (h : WTr d s K l z K2) (h1 : 1 ≤ s.size) (h2 : s.size ≤ 40) : ∀ {A : AL} {t m : Nat}, P4.Calm K true t → (absL K.files).Perm A → sizeA A s.data.toList = m → okRun m l → (getA A s.data.toList = none → A.length < 60) →
    z = 0 ∧ P4.Calm K2 true (t + l.length) ∧ (absL K2.files).Perm (runA s.data.toList A t l) := by
  induction h with
  | nil K => intro A t m hC hA _ _ _; exact ⟨rfl, hC, hA⟩
  | @ok K K1 K2 i data l z w0 w1 hK ht hdm hw rest ih =>
    intro A t m hC hA hm ho hl
    obtain ⟨o1, o2, o3, o4, o5⟩ := ho
    rcases hw with ⟨q1, q2, _⟩ | ⟨_, _, q, _⟩ | ⟨_, _, _, K0, hwr, rfl⟩
    · exact absurd q2.symm q1
    · exact absurd q (by decide)
    · have hsame := hwr.same
      have harm : K0.armed = false := by rw [hsame]; exact hC.armed
      have hc : counted K0 = K0 := by unfold counted; rw [if_neg (by rw [harm]; decide)]
      rw [hc] at ih
      have habs := hwr.abs (A := A) ⟨hK, hA⟩
      rw [hC.turn] at habs
      have hC0 : P4.Calm K0 true (t + 1) := by rw [hsame]; exact ⟨hC.on, hC.room, hC.armed, hC.left, by show K.turn + 1 = _; rw [hC.turn]⟩
      have hi : i.toNat ≤ sizeA A s.data.toList := by rw [hm]; omega
      have r := ih hC0 habs (m := max m (i.toNat + 1)) (by rw [← hm]; exact size_write hi) o5 (fun q => by have q2 := getA_write A s.data.toList (t + 1) i.toNat data; unfold writeA at q2; rw [q2] at q; cases q)
      refine ⟨r.1, ?_, r.2.2⟩
      rw [List.length_cons, show t + (l.length + 1) = t + 1 + l.length by omega]
      exact r.2.1
  | @bad K K1 i data l z w0 w1 hK ht hdm hw hz =>
    intro A t m hC hA hm ho hl
    obtain ⟨o1, o2, o3, o4, o5⟩ := ho
    have e0 := calm_write0 hK hC hA h1 h2 hm o2 o3 o4 hl
    rw [← o1] at e0
    rcases hw with ⟨q1, _, _⟩ | ⟨_, ⟨q, _⟩, _⟩ | ⟨_, _, q, _⟩
    · exact absurd e0 q1
    · rw [hC.armed] at q; cases q
    · exact absurd q hz
/-- the store and its disk, made behind a, as the document has them -/
def QS (on : Bool) (a w : World) (b d t : Nat) (s : ByteArray) (n : Int) (A : AL) : Prop := ∃ K, Lives a w d K A ∧ P4.Calm K on t ∧ SD w b d s n K ∧ a.heap.size ≤ b
theorem QS.below (h : QS on a w b d t s n A) (hb : Below w.heap.size w w') : QS on a w' b d t s n A := by
  obtain ⟨K, h1, h2, h3, h4⟩ := h
  exact ⟨K, h1.below hb, h2, h3.below hb, h4⟩
theorem QS.fr (h : QS on a w b d t s n A) : Below a.heap.size a w := by
  obtain ⟨K, h1, h2, h3, h4⟩ := h
  exact h1.fr
theorem QS.lt (h : QS on a w b d t s n A) : b < w.heap.size := by
  obtain ⟨K, h1, h2, h3, h4⟩ := h
  exact h3.1.lt
theorem QS.qd (h : QS on a w b d t s n A) : QD on a w d t A := by
  obtain ⟨K, h1, h2, h3, h4⟩ := h
  exact ⟨K, h1, h2⟩
theorem QS.open (h : QD true a w d t A) (s : ByteArray) (h1 : 1 ≤ s.size) (h2 : s.size ≤ 40) : Calls Tryz.prog 8 #[.pointer (some ⟨d, 0, none⟩), .string s] w fun e w' => ∃ b, e = .returned (.tuple #[.pointer (some ⟨b, 0, none⟩), .int .i64 0]) ∧ QS true a w' b d t s 0 A := by
  obtain ⟨K, hL, hC⟩ := h
  refine (open_ok hL.da.at' s h1 h2 hC.on).mono ?_
  rintro e w' ⟨b, rfl, q1, q2, q3⟩
  exact ⟨b, rfl, K, hL.below q3, hC, q2, Nat.le_trans hL.fr.size q1⟩
theorem openOff (h : QD false a w d t A) (s : ByteArray) (h1 : 1 ≤ s.size) (h2 : s.size ≤ 40) : Calls Tryz.prog 8 #[.pointer (some ⟨d, 0, none⟩), .string s] w fun e w' => e = .returned (.tuple #[.pointer none, .int .i64 14]) ∧ Below w.heap.size w w' := by
  obtain ⟨K, hL, hC⟩ := h
  exact open_off hL.da.at' s h1 h2 hC.on
theorem QS.szf (hL : Lives a w d K A) (hC : P4.Calm K true t) (h1 : 1 ≤ s.size) (h2 : s.size ≤ 40) : SzF K s (sizeA A s.data.toList) := by
  unfold SzF sizeF
  rw [hC.on, if_pos (errn_good h1 h2), ← hL.da.size]
  unfold sizeN
  cases getF K.files s.data.toList <;> rfl
/-- Put of pages that may be; their list is older than the disk, or younger -/
theorem QS.put {w0 : World} (h : QS true a w0 b d t s n A) (hb0 : Below w0.heap.size w0 w) (h1 : 1 ≤ s.size) (h2 : s.size ≤ 40) {v : Value} {l : List Pg} (hv : PagesIn w v l) (hap : ∀ B off n c, v = .slice (some ⟨B, off, none⟩) n c → B < a.heap.size ∨ w0.heap.size ≤ B) (hok : ∀ p ∈ l, okPut p) (hm : sizeA A s.data.toList = m) (hm2 : m ≤ 5000) (ht : t + (putW m l).length < 8999) (hl : getA A s.data.toList = none → A.length < 60) :
    Calls Tryz.prog 9 #[.pointer (some ⟨b, 0, none⟩), v] w fun e w' => e = .returned (.int .i64 0) ∧ QS true a w' b d (t + (putW m l).length) s n (runA s.data.toList A t (putW m l)) ∧ ∀ k, w0.heap.size ≤ k → k < w.heap.size → w'.heap[k]? = w.heap[k]? := by
  obtain ⟨K, hL0, hC, hS0, hb⟩ := h
  have hL := hL0.below hb0
  have hS := hS0.below hb0
  have hsz := QS.szf hL hC h1 h2
  rw [hm] at hsz
  refine (hS.put hv (fun B off n c e q => by
    have q1 := hL0.foot B q
    have q2 := hL0.da.at'.foot_lt B q
    have q3 := hap B off n c e
    omega) hok hsz hm2 (by unfold maxLen; omega) (by rw [hC.left]; decide) (by rw [hC.turn]; exact ht)).mono ?_
  rintro e w' ⟨z, K2, rfl, hd⟩
  obtain ⟨rfl, q1, q2⟩ := hd.tr.calm h1 h2 hC hL.da.abs hm (okRun_put hok) hl
  exact ⟨rfl, ⟨K2, hL.step hd.st q2, q1, hd.sd, hb⟩, fun k hk1 hk2 => hd.st.fr.block k hk2 (fun q => by have := hL0.da.at'.foot_lt k q; omega)⟩
/-- what Get tells -/
def getQ (A : AL) (n : List UInt8) (id : Int) : Pg × Int :=
  getOf (if id < 0 ∨ (sizeA A n : Int) ≤ id then ⟨#[]⟩ else nowA (getA A n) id.toNat) (if getA A n = none then 8 else if id < 0 ∨ (sizeA A n : Int) ≤ id then 15 else 0) id
theorem getK_Q (hL : Lives a w d K A) (hC : P4.Calm K true t) (h1 : 1 ≤ s.size) (h2 : s.size ≤ 40) (id : Int) : getK K s id = getQ A s.data.toList id := by
  have e1 : errF K.on s.size (getF K.files s.data.toList) = if getA A s.data.toList = none then 8 else 0 := by
    unfold errF
    rw [hC.on, if_pos (errn_good h1 h2)]
    cases hg : getF K.files s.data.toList with
    | none => rw [if_pos ((hL.da.getNone _).1 hg)]
    | some F => rw [if_neg (fun q => by rw [(hL.da.getNone _).2 q] at hg; cases hg)]
  have e2 : P4.readE K s id = if getA A s.data.toList = none then 8 else if id < 0 ∨ (sizeA A s.data.toList : Int) ≤ id then 15 else 0 := by
    unfold P4.readE
    rw [e1, hL.da.size]
    by_cases q : getA A s.data.toList = none
    · rw [if_pos q, if_pos q]; rfl
    · rw [if_neg q, if_neg q]; rfl
  have e3 : readT K s id = if P4.readE K s id ≠ 0 then ⟨#[]⟩ else nowA (getA A s.data.toList) id.toNat := by
    unfold readT
    rw [hL.da.now]
  unfold getK getQ
  rw [e3, e2]
  by_cases q : getA A s.data.toList = none
  · rw [if_pos q, if_pos (by decide)]
    unfold getOf
    rw [if_pos (by decide), if_pos (by decide)]
  · rw [if_neg q]
    by_cases q2 : id < 0 ∨ (sizeA A s.data.toList : Int) ≤ id
    · rw [if_pos q2, if_pos q2, if_pos (by decide)]
    · rw [if_neg q2, if_neg q2, if_neg (by decide)]
theorem QS.get (h : QS true a w b d t s n A) (h1 : 1 ≤ s.size) (h2 : s.size ≤ 40) (id : Int) :
    Calls Tryz.prog 17 #[.pointer (some ⟨b, 0, none⟩), .int .i64 id] w fun e w' => e = .returned (.tuple #[(getQ A s.data.toList id).1.v, .int .i64 (getQ A s.data.toList id).2]) ∧ QS true a w' b d t s (if (getQ A s.data.toList id).2 = 0 then wrap64 (n + 1) else n) A ∧ Only b w w' := by
  obtain ⟨K, hL, hC, hS, hb⟩ := h
  have e := getK_Q hL hC h1 h2 id
  refine (hS.get (by unfold maxLen; omega) id).mono ?_
  rw [e]
  rintro e w' ⟨rfl, q1, q2⟩
  exact ⟨rfl, ⟨K, ⟨⟨q1.2.1, hL.da.abs⟩, hL.foot, Only.new hL.fr q2 hb⟩, hC, q1, hb⟩, q2⟩
theorem QS.size (h : QS true a w b d t s n A) (h1 : 1 ≤ s.size) (h2 : s.size ≤ 40) :
    Calls Tryz.prog 23 #[.pointer (some ⟨b, 0, none⟩)] w fun e w' => e = .returned (.int .i64 (sizeA A s.data.toList : Nat)) ∧ Below w.heap.size w w' := by
  obtain ⟨K, hL, hC, hS, hb⟩ := h
  have hsz : sizeF K.on s.size (getF K.files s.data.toList) = sizeA A s.data.toList := QS.szf hL hC h1 h2
  have H := hS.size (by unfold maxLen; omega)
  rw [hsz] at H
  exact H
theorem QS.name (h : QS on a w b d t s n A) : Calls Tryz.prog 27 #[.pointer (some ⟨b, 0, none⟩)] w fun e w' => e = .returned (.string s) ∧ w = w' := by
  obtain ⟨K, hL, hC, hS, hb⟩ := h
  exact hS.1.name
theorem QS.reads (h : QS on a w b d t s n A) : Calls Tryz.prog 22 #[.pointer (some ⟨b, 0, none⟩)] w fun e w' => e = .returned (.int .i64 n) ∧ w = w' := by
  obtain ⟨K, hL, hC, hS, hb⟩ := h
  exact hS.1.reads
end
end Go.Proofs.YtbkngnjkaledlaaGreat.P8

/-
  Metas in plain words: which may be, the page of one, what a sector's meta is. No program but for the values.
-/
namespace Go.Proofs.YtbkngnjkaledlaaGreat.P6
open Go Go.RowKit Go.Lib Go.Proofs.YtbkngnjkaledlaaGreat.P0 Go.Proofs.YtbkngnjkaledlaaGreat.P2 Go.Proofs.YtbkngnjkaledlaaGreat.P5

/-- a meta as plain data -/
structure Mt where
  tx : Int
  root : Int
  free : Int
  pages : Int
/-- its value -/
def Mt.v (m : Mt) : Value := .agg #[.int .i64 m.tx, .int .i64 m.root, .int .i64 m.free, .int .i64 m.pages]
def Mt.cells (m : Mt) : Array Value := #[.int .i64 m.tx, .int .i64 m.root, .int .i64 m.free, .int .i64 m.pages]
def Mt.zero : Mt := ⟨0, 0, 0, 0⟩
theorem Mt.ext' {m n : Mt} (h1 : m.tx = n.tx) (h2 : m.root = n.root) (h3 : m.free = n.free) (h4 : m.pages = n.pages) : m = n := by
  cases m; cases n; simp only at h1 h2 h3 h4; subst h1 h2 h3 h4; rfl
/-- an id of none, or behind the metas -/
def Leads (i p : Int) : Prop := i = 0 ∨ (2 ≤ i ∧ i < p)
instance (i p : Int) : Decidable (Leads i p) := by unfold Leads; infer_instance
/-- a meta that may be -/
def Mt.ok (m : Mt) : Prop := (1 ≤ m.tx ∧ m.tx ≤ 1099511627776) ∧ (2 ≤ m.pages ∧ m.pages ≤ 4000) ∧ Leads m.root m.pages ∧ Leads m.free m.pages ∧ (m.root = 0 ∨ m.root ≠ m.free)
instance (m : Mt) : Decidable m.ok := by unfold Mt.ok; infer_instance
theorem Mt.ok_range {m : Mt} (h : m.ok) : 1 ≤ m.tx ∧ m.tx ≤ 1099511627776 ∧ 0 ≤ m.root ∧ m.root < 4000 ∧ 0 ≤ m.free ∧ m.free < 4000 ∧ 2 ≤ m.pages ∧ m.pages ≤ 4000 := by
  obtain ⟨⟨h1, h2⟩, ⟨h3, h4⟩, h5, h6, _⟩ := h
  unfold Leads at h5 h6
  omega
/-- the bytes of a page's body that is a meta's -/
def Mt.bytes (m : Mt) : List UInt8 := low 8 m.tx.toNat ++ (low 8 m.root.toNat ++ (low 8 m.free.toNat ++ low 8 m.pages.toNat))
theorem Mt.bytes_length (m : Mt) : m.bytes.length = 32 := by simp only [Mt.bytes, List.length_append, low_length]
/-- the page -/
def Mt.sheet (m : Mt) : Pg := ⟨1, m.tx % 2, m.tx, str m.bytes⟩
theorem Mt.sheet_ok {m : Mt} (h : m.ok) : m.sheet.ok := by
  have := m.ok_range h
  refine ⟨?_, ?_, ?_, ?_, ?_, ?_, ?_⟩ <;> simp only [Mt.sheet, str_size, Mt.bytes_length] <;> omega
def Mt.sector (m : Mt) : ByteArray := m.sheet.sector
theorem Mt.sector_size {m : Mt} (h : m.ok) : m.sector.size = 256 := m.sheet.sector_size (m.sheet_ok h)

/-- a number's eight bytes are read as it was -/
theorem eight_num {x : Int} (h0 : 0 ≤ x) (h1 : x < 9223372036854775808) : wrap64 (num (low 8 x.toNat)) = x := by
  obtain ⟨n, rfl⟩ := Int.eq_ofNat_of_zero_le h0
  have hn : n < 9223372036854775808 := by omega
  rw [Int.toNat_natCast, num_low 8 n (Nat.lt_of_lt_of_le hn (by decide))]
  exact P5.wrap_small hn

/-- four numbers read one behind the other: what is there, and what is told of bytes that lack -/
def g1 (s : ByteArray) : Int × ByteArray × Int := getNum 8 s 0
def g2 (s : ByteArray) : Int × ByteArray × Int := getNum 8 (g1 s).2.1 (g1 s).2.2
def g3 (s : ByteArray) : Int × ByteArray × Int := getNum 8 (g2 s).2.1 (g2 s).2.2
def g4 (s : ByteArray) : Int × ByteArray × Int := getNum 8 (g3 s).2.1 (g3 s).2.2
def got (s : ByteArray) : Mt := ⟨(g1 s).1, (g2 s).1, (g3 s).1, (g4 s).1⟩
/-- the same of a body of 32 bytes, place by place -/
def refM (s : ByteArray) : Mt := ⟨wrap64 (num (s.data.toList.take 8)), wrap64 (num ((s.data.toList.drop 8).take 8)), wrap64 (num ((s.data.toList.drop 16).take 8)), wrap64 (num ((s.data.toList.drop 24).take 8))⟩

theorem from_at6 (b : ByteArray) (n : Nat) : (b.extract n b.size).data.toList = b.data.toList.drop n := by
  rw [Lib.extract_data]
  exact List.take_of_length_le (by rw [List.length_drop, text_len]; exact Nat.le_refl _)
theorem num_at {s : ByteArray} {n : Nat} (h : n ≤ s.size) : getNum n s 0 = (wrap64 (num (s.data.toList.take n)), s.extract n s.size, 0) := by
  unfold getNum
  rw [if_pos rfl, if_pos h]
theorem got_refM {s : ByteArray} (h : s.size = 32) : got s = refM s := by
  have e1 : g1 s = (wrap64 (num (s.data.toList.take 8)), s.extract 8 s.size, 0) := num_at (by omega)
  have z1 : (s.extract 8 s.size).size = 24 := by rw [ByteArray.size_extract]; omega
  have e2 : g2 s = (wrap64 (num ((s.data.toList.drop 8).take 8)), (s.extract 8 s.size).extract 8 24, 0) := by
    unfold g2
    rw [e1]
    simp only
    rw [num_at (by omega), from_at6, z1]
  have z2 : ((s.extract 8 s.size).extract 8 24).size = 16 := by rw [ByteArray.size_extract]; omega
  have l2 : ((s.extract 8 s.size).extract 8 24).data.toList = s.data.toList.drop 16 := by
    rw [← z1, from_at6, from_at6, List.drop_drop]
  have e3 : g3 s = (wrap64 (num ((s.data.toList.drop 16).take 8)), ((s.extract 8 s.size).extract 8 24).extract 8 16, 0) := by
    unfold g3
    rw [e2]
    simp only
    rw [num_at (by omega), l2, z2]
  have z3 : (((s.extract 8 s.size).extract 8 24).extract 8 16).size = 8 := by rw [ByteArray.size_extract]; omega
  have l3 : (((s.extract 8 s.size).extract 8 24).extract 8 16).data.toList = s.data.toList.drop 24 := by
    rw [← z2, from_at6, l2, List.drop_drop]
  have e4 : (g4 s).1 = wrap64 (num ((s.data.toList.drop 24).take 8)) := by
    unfold g4
    rw [e3]
    simp only
    rw [num_at (by omega), l3]
  unfold got refM
  rw [e1, e2, e3, e4]
theorem refM_bytes {m : Mt} (h : m.ok) : refM (str m.bytes) = m := by
  have hr := m.ok_range h
  have l8 : ∀ n, (low 8 n).length = 8 := fun n => low_length 8 n
  have d8 : m.bytes.drop 8 = low 8 m.root.toNat ++ (low 8 m.free.toNat ++ low 8 m.pages.toNat) := List.drop_left' (l8 _)
  have d16 : m.bytes.drop 16 = low 8 m.free.toNat ++ low 8 m.pages.toNat := by
    rw [show 16 = 8 + 8 from rfl, ← List.drop_drop, d8]; exact List.drop_left' (l8 _)
  have d24 : m.bytes.drop 24 = low 8 m.pages.toNat := by
    rw [show 24 = 16 + 8 from rfl, ← List.drop_drop, d16]; exact List.drop_left' (l8 _)
  unfold refM
  rw [str_list, d8, d16, d24]
  apply Mt.ext'
  · show wrap64 (num (List.take 8 m.bytes)) = _
    rw [show List.take 8 m.bytes = low 8 m.tx.toNat from List.take_left' (l8 _)]; exact eight_num (by omega) (by omega)
  · show wrap64 (num (List.take 8 (low 8 m.root.toNat ++ _))) = _
    rw [List.take_left' (l8 _)]; exact eight_num (by omega) (by omega)
  · show wrap64 (num (List.take 8 (low 8 m.free.toNat ++ _))) = _
    rw [List.take_left' (l8 _)]; exact eight_num (by omega) (by omega)
  · show wrap64 (num (List.take 8 (low 8 m.pages.toNat))) = _
    rw [List.take_of_length_le (Nat.le_of_eq (l8 _))]; exact eight_num (by omega) (by omega)
theorem got_bytes {m : Mt} (h : m.ok) : got (str m.bytes) = m := by
  rw [got_refM (by rw [str_size, Mt.bytes_length]), refM_bytes h]

/-- pages are alike, or not -/
instance pgEq (p q : Pg) : Decidable (p = q) :=
  decidable_of_iff (p.k = q.k ∧ p.id = q.id ∧ p.tx = q.tx ∧ p.body = q.body) ⟨fun h => by
    obtain ⟨k, i, t, b⟩ := p
    obtain ⟨k', i', t', b'⟩ := q
    obtain ⟨h1, h2, h3, h4⟩ := h
    simp only at h1 h2 h3 h4
    subst h1 h2 h3 h4
    rfl, fun h => h ▸ ⟨rfl, rfl, rfl, rfl⟩⟩
/-- what a sector's meta is -/
def readM (b : ByteArray) : Mt := if readE b = 0 ∧ (got (readP b).body).ok ∧ readP b = (got (readP b).body).sheet then got (readP b).body else Mt.zero
def readR (b : ByteArray) : Int := if readE b = 0 then (if (got (readP b).body).ok ∧ readP b = (got (readP b).body).sheet then 0 else 6) else readE b
theorem page_there {b : ByteArray} (h : readE b = 0) : (readP b).ok ∧ b = (readP b).sector := by
  unfold readE at h
  by_cases h1 : b.size = 256
  · rw [if_pos h1] at h
    by_cases h2 : nOf b.data.toList ≤ 232 ∧ (Pg.of b).ok ∧ b.extract 0 248 = (Pg.of b).sector.extract 0 248 ∧ b.extract 252 b.size = (Pg.of b).sector.extract 252 (Pg.of b).sector.size
    · rw [if_pos h2] at h
      by_cases h3 : b = (Pg.of b).sector
      · unfold readP
        rw [if_pos ⟨h1, h2.2.1, h3⟩]
        exact ⟨h2.2.1, h3⟩
      · rw [if_neg h3] at h; exact absurd h (by decide)
    · rw [if_neg h2] at h; exact absurd h (by decide)
  · rw [if_neg h1] at h; exact absurd h (by decide)
theorem page_zero {b : ByteArray} (h : readE b ≠ 0) : readP b = Pg.zero := by
  unfold readP
  refine if_neg fun k => h ?_
  have := (read_yes k.2.1).2
  rw [← k.2.2] at this
  exact this
theorem meta_yes {m : Mt} (h : m.ok) : readM m.sector = m ∧ readR m.sector = 0 := by
  obtain ⟨e1, e2⟩ := read_yes (m.sheet_ok h)
  have e3 : (got (readP m.sector).body) = m := by
    show got (readP m.sheet.sector).body = m
    rw [e1]; exact got_bytes h
  have e1' : readP m.sector = m.sheet := e1
  have e2' : readE m.sector = 0 := e2
  unfold readM readR
  rw [e3, e1', e2', if_pos ⟨rfl, h, rfl⟩, if_pos rfl, if_pos ⟨h, rfl⟩]
  exact ⟨rfl, rfl⟩
theorem meta_no {b : ByteArray} (h : ∀ m : Mt, m.ok → b ≠ m.sector) : readM b = Mt.zero ∧ readR b ≠ 0 := by
  have hn : readE b = 0 → ¬ ((got (readP b).body).ok ∧ readP b = (got (readP b).body).sheet) := fun h0 k => by
    refine h _ k.1 ?_
    have := (page_there h0).2
    rw [k.2] at this
    exact this
  unfold readM readR
  constructor
  · exact if_neg fun k => hn k.1 k.2
  · by_cases h0 : readE b = 0
    · rw [if_pos h0, if_neg (hn h0)]; decide
    · rw [if_neg h0]; exact h0
theorem meta_there {b : ByteArray} (h : readR b = 0) : ∃ m : Mt, m.ok ∧ b = m.sector ∧ readM b = m := by
  by_cases k : ∃ m : Mt, m.ok ∧ b = m.sector
  · obtain ⟨m, h1, rfl⟩ := k
    exact ⟨m, h1, rfl, (meta_yes h1).1⟩
  · exact absurd h (meta_no fun m h1 h2 => k ⟨m, h1, h2⟩).2
theorem meta_none {b : ByteArray} (h : readR b ≠ 0) : readM b = Mt.zero := by
  unfold readM
  refine if_neg fun k => h ?_
  unfold readR
  rw [if_pos k.1, if_pos k.2]
theorem msector_inj {m n : Mt} (hm : m.ok) (hn : n.ok) (h : m.sector = n.sector) : m = n := by
  rw [← (meta_yes hm).1, h, (meta_yes hn).1]

/-- the same, as the reference asks it: a body of 32 bytes, its meta that may be, whose sector it is -/
theorem readR_ref (b : ByteArray) (h : readE b = 0) : (readR b = 0 ↔ (readP b).body.size = 32 ∧ (refM (readP b).body).ok ∧ (refM (readP b).body).sector = b) ∧ ((readP b).body.size = 32 ∧ (refM (readP b).body).ok ∧ (refM (readP b).body).sector = b → readM b = refM (readP b).body) := by
  constructor
  · constructor
    · intro h0
      obtain ⟨m, h1, rfl, _⟩ := meta_there h0
      have e1 : readP m.sector = m.sheet := (read_yes (m.sheet_ok h1)).1
      rw [e1]
      have e2 : refM m.sheet.body = m := refM_bytes h1
      rw [e2]
      exact ⟨by show (str m.bytes).size = 32; rw [str_size, Mt.bytes_length], h1, rfl⟩
    · rintro ⟨h1, h2, h3⟩
      rw [← h3]
      exact (meta_yes h2).2
  · rintro ⟨h1, h2, h3⟩
    have := (meta_yes h2).1
    rw [h3] at this
    exact this
theorem readR_six {b : ByteArray} (h : readE b = 0) (h1 : readR b ≠ 0) : readR b = 6 := by
  unfold readR at *
  rw [if_pos h] at *
  by_cases k : (got (readP b).body).ok ∧ readP b = (got (readP b).body).sheet
  · rw [if_pos k] at h1; exact absurd rfl h1
  · rw [if_neg k]

end Go.Proofs.YtbkngnjkaledlaaGreat.P6
