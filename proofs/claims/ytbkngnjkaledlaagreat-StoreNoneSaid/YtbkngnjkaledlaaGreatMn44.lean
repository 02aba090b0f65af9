/-
  Texts of the proof of SaidNone8, side by side: Mt6.
-/
import Derived.Test.YtbkngnjkaledlaaGreatMn33
/-
  Metas in plain words: which may be, the page of one, what a sector's meta is. No program but for the values.
-/
namespace Go.Proofs.YtbkngnjkaledlaaGreat.P6
open Go Go.RowKit Go.Lib Go.Proofs.YtbkngnjkaledlaaGreat.P0 Go.Proofs.YtbkngnjkaledlaaGreat.P2 Go.Proofs.YtbkngnjkaledlaaGreat.P5

/-- a meta as plain data -/
structure Mt where
  tx : Int
  root : Int
  free : Int
  pages : Int
/-- its value -/
def Mt.v (m : Mt) : Value := .agg #[.int .i64 m.tx, .int .i64 m.root, .int .i64 m.free, .int .i64 m.pages]
def Mt.cells (m : Mt) : Array Value := #[.int .i64 m.tx, .int .i64 m.root, .int .i64 m.free, .int .i64 m.pages]
def Mt.zero : Mt := ⟨0, 0, 0, 0⟩
theorem Mt.ext' {m n : Mt} (h1 : m.tx = n.tx) (h2 : m.root = n.root) (h3 : m.free = n.free) (h4 : m.pages = n.pages) : m = n := by
  cases m; cases n; simp only at h1 h2 h3 h4; subst h1 h2 h3 h4; rfl
/-- an id of none, or behind the metas -/
def Leads (i p : Int) : Prop := i = 0 ∨ (2 ≤ i ∧ i < p)
instance (i p : Int) : Decidable (Leads i p) := by unfold Leads; infer_instance
/-- a meta that may be -/
def Mt.ok (m : Mt) : Prop := (1 ≤ m.tx ∧ m.tx ≤ 1099511627776) ∧ (2 ≤ m.pages ∧ m.pages ≤ 4000) ∧ Leads m.root m.pages ∧ Leads m.free m.pages ∧ (m.root = 0 ∨ m.root ≠ m.free)
instance (m : Mt) : Decidable m.ok := by unfold Mt.ok; infer_instance
theorem Mt.ok_range {m : Mt} (h : m.ok) : 1 ≤ m.tx ∧ m.tx ≤ 1099511627776 ∧ 0 ≤ m.root ∧ m.root < 4000 ∧ 0 ≤ m.free ∧ m.free < 4000 ∧ 2 ≤ m.pages ∧ m.pages ≤ 4000 := by
  obtain ⟨⟨h1, h2⟩, ⟨h3, h4⟩, h5, h6, _⟩ := h
  unfold Leads at h5 h6
  omega
/-- the bytes of a page's body that is a meta's -/
def Mt.bytes (m : Mt) : List UInt8 := low 8 m.tx.toNat ++ (low 8 m.root.toNat ++ (low 8 m.free.toNat ++ low 8 m.pages.toNat))
theorem Mt.bytes_length (m : Mt) : m.bytes.length = 32 := by simp only [Mt.bytes, List.length_append, low_length]
/-- the page -/
def Mt.sheet (m : Mt) : Pg := ⟨1, m.tx % 2, m.tx, str m.bytes⟩
theorem Mt.sheet_ok {m : Mt} (h : m.ok) : m.sheet.ok := by
  have := m.ok_range h
  refine ⟨?_, ?_, ?_, ?_, ?_, ?_, ?_⟩ <;> simp only [Mt.sheet, str_size, Mt.bytes_length] <;> omega
def Mt.sector (m : Mt) : ByteArray := m.sheet.sector
theorem Mt.sector_size {m : Mt} (h : m.ok) : m.sector.size = 256 := m.sheet.sector_size (m.sheet_ok h)

/-- a number's eight bytes are read as it was -/
theorem eight_num {x : Int} (h0 : 0 ≤ x) (h1 : x < 9223372036854775808) : wrap64 (num (low 8 x.toNat)) = x := by
  obtain ⟨n, rfl⟩ := Int.eq_ofNat_of_zero_le h0
  have hn : n < 9223372036854775808 := by omega
  rw [Int.toNat_natCast, num_low 8 n (Nat.lt_of_lt_of_le hn (by decide))]
  exact P5.wrap_small hn

/-- four numbers read one behind the other: what is there, and what is told of bytes that lack -/
def g1 (s : ByteArray) : Int × ByteArray × Int := getNum 8 s 0
def g2 (s : ByteArray) : Int × ByteArray × Int := getNum 8 (g1 s).2.1 (g1 s).2.2
def g3 (s : ByteArray) : Int × ByteArray × Int := getNum 8 (g2 s).2.1 (g2 s).2.2
def g4 (s : ByteArray) : Int × ByteArray × Int := getNum 8 (g3 s).2.1 (g3 s).2.2
def got (s : ByteArray) : Mt := ⟨(g1 s).1, (g2 s).1, (g3 s).1, (g4 s).1⟩
/-- the same of a body of 32 bytes, place by place -/
def refM (s : ByteArray) : Mt := ⟨wrap64 (num (s.data.toList.take 8)), wrap64 (num ((s.data.toList.drop 8).take 8)), wrap64 (num ((s.data.toList.drop 16).take 8)), wrap64 (num ((s.data.toList.drop 24).take 8))⟩

theorem from_at6 (b : ByteArray) (n : Nat) : (b.extract n b.size).data.toList = b.data.toList.drop n := by
  rw [Lib.extract_data]
  exact List.take_of_length_le (by rw [List.length_drop, text_len]; exact Nat.le_refl _)
theorem num_at {s : ByteArray} {n : Nat} (h : n ≤ s.size) : getNum n s 0 = (wrap64 (num (s.data.toList.take n)), s.extract n s.size, 0) := by
  unfold getNum
  rw [if_pos rfl, if_pos h]
theorem got_refM {s : ByteArray} (h : s.size = 32) : got s = refM s := by
  have e1 : g1 s = (wrap64 (num (s.data.toList.take 8)), s.extract 8 s.size, 0) := num_at (by omega)
  have z1 : (s.extract 8 s.size).size = 24 := by rw [ByteArray.size_extract]; omega
  have e2 : g2 s = (wrap64 (num ((s.data.toList.drop 8).take 8)), (s.extract 8 s.size).extract 8 24, 0) := by
    unfold g2
    rw [e1]
    simp only
    rw [num_at (by omega), from_at6, z1]
  have z2 : ((s.extract 8 s.size).extract 8 24).size = 16 := by rw [ByteArray.size_extract]; omega
  have l2 : ((s.extract 8 s.size).extract 8 24).data.toList = s.data.toList.drop 16 := by
    rw [← z1, from_at6, from_at6, List.drop_drop]
  have e3 : g3 s = (wrap64 (num ((s.data.toList.drop 16).take 8)), ((s.extract 8 s.size).extract 8 24).extract 8 16, 0) := by
    unfold g3
    rw [e2]
    simp only
    rw [num_at (by omega), l2, z2]
  have z3 : (((s.extract 8 s.size).extract 8 24).extract 8 16).size = 8 := by rw [ByteArray.size_extract]; omega
  have l3 : (((s.extract 8 s.size).extract 8 24).extract 8 16).data.toList = s.data.toList.drop 24 := by
    rw [← z2, from_at6, l2, List.drop_drop]
  have e4 : (g4 s).1 = wrap64 (num ((s.data.toList.drop 24).take 8)) := by
    unfold g4
    rw [e3]
    simp only
    rw [num_at (by omega), l3]
  unfold got refM
  rw [e1, e2, e3, e4]
theorem refM_bytes {m : Mt} (h : m.ok) : refM (str m.bytes) = m := by
  have hr := m.ok_range h
  have l8 : ∀ n, (low 8 n).length = 8 := fun n => low_length 8 n
  have d8 : m.bytes.drop 8 = low 8 m.root.toNat ++ (low 8 m.free.toNat ++ low 8 m.pages.toNat) := List.drop_left' (l8 _)
  have d16 : m.bytes.drop 16 = low 8 m.free.toNat ++ low 8 m.pages.toNat := by
    rw [show 16 = 8 + 8 from rfl, ← List.drop_drop, d8]; exact List.drop_left' (l8 _)
  have d24 : m.bytes.drop 24 = low 8 m.pages.toNat := by
    rw [show 24 = 16 + 8 from rfl, ← List.drop_drop, d16]; exact List.drop_left' (l8 _)
  unfold refM
  rw [str_list, d8, d16, d24]
  apply Mt.ext'
  · show wrap64 (num (List.take 8 m.bytes)) = _
    rw [show List.take 8 m.bytes = low 8 m.tx.toNat from List.take_left' (l8 _)]; exact eight_num (by omega) (by omega)
  · show wrap64 (num (List.take 8 (low 8 m.root.toNat ++ _))) = _
    rw [List.take_left' (l8 _)]; exact eight_num (by omega) (by omega)
  · show wrap64 (num (List.take 8 (low 8 m.free.toNat ++ _))) = _
    rw [List.take_left' (l8 _)]; exact eight_num (by omega) (by omega)
  · show wrap64 (num (List.take 8 (low 8 m.pages.toNat))) = _
    rw [List.take_of_length_le (Nat.le_of_eq (l8 _))]; exact eight_num (by omega) (by omega)
theorem got_bytes {m : Mt} (h : m.ok) : got (str m.bytes) = m := by
  rw [got_refM (by rw [str_size, Mt.bytes_length]), refM_bytes h]

/-- pages are alike, or not -/
instance pgEq (p q : Pg) : Decidable (p = q) :=
  decidable_of_iff (p.k = q.k ∧ p.id = q.id ∧ p.tx = q.tx ∧ p.body = q.body) ⟨fun h => by
    obtain ⟨k, i, t, b⟩ := p
    obtain ⟨k', i', t', b'⟩ := q
    obtain ⟨h1, h2, h3, h4⟩ := h
    simp only at h1 h2 h3 h4
    subst h1 h2 h3 h4
    rfl, fun h => h ▸ ⟨rfl, rfl, rfl, rfl⟩⟩
/-- what a sector's meta is -/
def readM (b : ByteArray) : Mt := if readE b = 0 ∧ (got (readP b).body).ok ∧ readP b = (got (readP b).body).sheet then got (readP b).body else Mt.zero
def readR (b : ByteArray) : Int := if readE b = 0 then (if (got (readP b).body).ok ∧ readP b = (got (readP b).body).sheet then 0 else 6) else readE b
theorem page_there {b : ByteArray} (h : readE b = 0) : (readP b).ok ∧ b = (readP b).sector := by
  unfold readE at h
  by_cases h1 : b.size = 256
  · rw [if_pos h1] at h
    by_cases h2 : nOf b.data.toList ≤ 232 ∧ (Pg.of b).ok ∧ b.extract 0 248 = (Pg.of b).sector.extract 0 248 ∧ b.extract 252 b.size = (Pg.of b).sector.extract 252 (Pg.of b).sector.size
    · rw [if_pos h2] at h
      by_cases h3 : b = (Pg.of b).sector
      · unfold readP
        rw [if_pos ⟨h1, h2.2.1, h3⟩]
        exact ⟨h2.2.1, h3⟩
      · rw [if_neg h3] at h; exact absurd h (by decide)
    · rw [if_neg h2] at h; exact absurd h (by decide)
  · rw [if_neg h1] at h; exact absurd h (by decide)
theorem page_zero {b : ByteArray} (h : readE b ≠ 0) : readP b = Pg.zero := by
  unfold readP
  refine if_neg fun k => h ?_
  have := (read_yes k.2.1).2
  rw [← k.2.2] at this
  exact this
theorem meta_yes {m : Mt} (h : m.ok) : readM m.sector = m ∧ readR m.sector = 0 := by
  obtain ⟨e1, e2⟩ := read_yes (m.sheet_ok h)
  have e3 : (got (readP m.sector).body) = m := by
    show got (readP m.sheet.sector).body = m
    rw [e1]; exact got_bytes h
  have e1' : readP m.sector = m.sheet := e1
  have e2' : readE m.sector = 0 := e2
  unfold readM readR
  rw [e3, e1', e2', if_pos ⟨rfl, h, rfl⟩, if_pos rfl, if_pos ⟨h, rfl⟩]
  exact ⟨rfl, rfl⟩
theorem meta_no {b : ByteArray} (h : ∀ m : Mt, m.ok → b ≠ m.sector) : readM b = Mt.zero ∧ readR b ≠ 0 := by
  have hn : readE b = 0 → ¬ ((got (readP b).body).ok ∧ readP b = (got (readP b).body).sheet) := fun h0 k => by
    refine h _ k.1 ?_
    have := (page_there h0).2
    rw [k.2] at this
    exact this
  unfold readM readR
  constructor
  · exact if_neg fun k => hn k.1 k.2
  · by_cases h0 : readE b = 0
    · rw [if_pos h0, if_neg (hn h0)]; decide
    · rw [if_neg h0]; exact h0
theorem meta_there {b : ByteArray} (h : readR b = 0) : ∃ m : Mt, m.ok ∧ b = m.sector ∧ readM b = m := by
  by_cases k : ∃ m : Mt, m.ok ∧ b = m.sector
  · obtain ⟨m, h1, rfl⟩ := k
    exact ⟨m, h1, rfl, (meta_yes h1).1⟩
  · exact absurd h (meta_no fun m h1 h2 => k ⟨m, h1, h2⟩).2
theorem meta_none {b : ByteArray} (h : readR b ≠ 0) : readM b = Mt.zero := by
  unfold readM
  refine if_neg fun k => h ?_
  unfold readR
  rw [if_pos k.1, if_pos k.2]
theorem msector_inj {m n : Mt} (hm : m.ok) (hn : n.ok) (h : m.sector = n.sector) : m = n := by
  rw [← (meta_yes hm).1, h, (meta_yes hn).1]

/-- the same, as the reference asks it: a body of 32 bytes, its meta that may be, whose sector it is -/
theorem readR_ref (b : ByteArray) (h : readE b = 0) : (readR b = 0 ↔ (readP b).body.size = 32 ∧ (refM (readP b).body).ok ∧ (refM (readP b).body).sector = b) ∧ ((readP b).body.size = 32 ∧ (refM (readP b).body).ok ∧ (refM (readP b).body).sector = b → readM b = refM (readP b).body) := by
  constructor
  · constructor
    · intro h0
      obtain ⟨m, h1, rfl, _⟩ := meta_there h0
      have e1 : readP m.sector = m.sheet := (read_yes (m.sheet_ok h1)).1
      rw [e1]
      have e2 : refM m.sheet.body = m := refM_bytes h1
      rw [e2]
      exact ⟨by show (str m.bytes).size = 32; rw [str_size, Mt.bytes_length], h1, rfl⟩
    · rintro ⟨h1, h2, h3⟩
      rw [← h3]
      exact (meta_yes h2).2
  · rintro ⟨h1, h2, h3⟩
    have := (meta_yes h2).1
    rw [h3] at this
    exact this
theorem readR_six {b : ByteArray} (h : readE b = 0) (h1 : readR b ≠ 0) : readR b = 6 := by
  unfold readR at *
  rw [if_pos h] at *
  by_cases k : (got (readP b).body).ok ∧ readP b = (got (readP b).body).sheet
  · rw [if_pos k] at h1; exact absurd rfl h1
  · rw [if_neg k]

end Go.Proofs.YtbkngnjkaledlaaGreat.P6
