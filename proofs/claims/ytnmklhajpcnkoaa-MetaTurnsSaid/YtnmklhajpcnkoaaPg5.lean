/-
  Pages in sectors, in plain words: a page's sector, what a sector that is torn or changed comes to. No program.
-/
import Derived.Test.YtnmklhajpcnkoaaCrc5
namespace Go.Proofs.Ytnmklhajpcnkoaa.P5
open Go Go.RowKit Go.Lib Go.Proofs.Ytnmklhajpcnkoaa.P0 Go.Proofs.Ytnmklhajpcnkoaa.P2

/-- a page as plain data -/
structure Pg where
  k : Int
  id : Int
  tx : Int
  body : ByteArray
/-- its value -/
def Pg.v (p : Pg) : Value := .agg #[.int .i64 p.k, .int .i64 p.id, .int .i64 p.tx, .string p.body]
def Pg.zero : Pg := ⟨0, 0, 0, ⟨#[]⟩⟩
/-- a page that may be -/
def Pg.ok (p : Pg) : Prop := 1 ≤ p.k ∧ p.k ≤ 5 ∧ 0 ≤ p.id ∧ p.id < 4000 ∧ 0 ≤ p.tx ∧ p.tx ≤ 1099511627776 ∧ p.body.size ≤ 232
instance (p : Pg) : Decidable p.ok := by unfold Pg.ok; infer_instance
/-- the bytes ahead of the sum, of numbers -/
def fore (k n id tx : Nat) (body : List UInt8) : List UInt8 := low 1 k ++ (low 1 n ++ (low 2 id ++ (low 4 tx ++ (low 8 tx ++ (body ++ List.replicate (232 - n) 0)))))
def Pg.fore (p : Pg) : List UInt8 := P5.fore p.k.toNat p.body.size p.id.toNat p.tx.toNat p.body.data.toList
/-- a page's sector as bytes -/
def Pg.laid (p : Pg) : List UInt8 := p.fore ++ (low 4 (crc p.fore) ++ low 4 p.tx.toNat)
def Pg.sector (p : Pg) : ByteArray := str p.laid
theorem fore_length {k n id tx : Nat} {body : List UInt8} (h : body.length = n) (hn : n ≤ 232) : (fore k n id tx body).length = 248 := by
  simp only [P5.fore, List.length_append, low_length, List.length_replicate]
  omega
theorem Pg.fore_len {p : Pg} (h : p.ok) : p.fore.length = 248 := fore_length (text_len _) h.2.2.2.2.2.2
theorem Pg.laid_len {p : Pg} (h : p.ok) : p.laid.length = 256 := by
  simp only [Pg.laid, List.length_append, low_length, p.fore_len h]
theorem Pg.sector_size {p : Pg} (h : p.ok) : p.sector.size = 256 := by rw [Pg.sector, str_size, p.laid_len h]

theorem ofNat_eq {n m : Nat} (h : n % 256 = m % 256) : UInt8.ofNat n = UInt8.ofNat m := by
  apply UInt8.toNat_inj.1
  rw [UInt8.toNat_ofNat', UInt8.toNat_ofNat']
  exact h
theorem ofNat_toNat {n : Nat} (h : n < 256) : (UInt8.ofNat n).toNat = n := by rw [UInt8.toNat_ofNat']; omega
theorem low_mod4 (x : Nat) : low 4 (x % 4294967296) = low 4 x := by
  have hl : ∀ x, low 4 x = [UInt8.ofNat x, UInt8.ofNat (x / 256), UInt8.ofNat (x / 65536), UInt8.ofNat (x / 16777216)] := fun x => by simp [low, List.range, List.range.loop]
  rw [hl, hl]
  simp only [List.cons.injEq, and_true]
  exact ⟨ofNat_eq (by omega), ofNat_eq (by omega), ofNat_eq (by omega), ofNat_eq (by omega)⟩
theorem low4_mod {x y : Nat} (h : low 4 x = low 4 y) : x % 4294967296 = y % 4294967296 := by
  rw [← low_mod4 x, ← low_mod4 y] at h
  exact low4_inj (Nat.mod_lt _ (by decide)) (Nat.mod_lt _ (by decide)) h

/-- a number of bytes, the lowest first -/
def num : List UInt8 → Nat
  | [] => 0
  | c :: r => c.toNat + 256 * num r
theorem num_lt : ∀ xs : List UInt8, num xs < 256 ^ xs.length
  | [] => by simp [num]
  | c :: r => by
    have := num_lt r
    have h1 := c.toNat_lt
    simp only [num, List.length_cons, Nat.pow_succ]
    omega
theorem num_inj : ∀ {a b : List UInt8}, a.length = b.length → num a = num b → a = b
  | [], [], _, _ => rfl
  | [], _ :: _, h, _ => by simp at h
  | _ :: _, [], h, _ => by simp at h
  | c :: r, d :: q, hl, h => by
    have h1 := c.toNat_lt
    have h2 := d.toNat_lt
    simp only [num] at h
    have e : c = d := UInt8.toNat_inj.1 (by omega)
    have e2 : num r = num q := by omega
    rw [e, num_inj (by simpa using hl) e2]
theorem low_step (n v : Nat) : low (n + 1) v = UInt8.ofNat v :: low n (v / 256) := by
  have e : ∀ i, v / 256 / 256 ^ i = v / 256 ^ (i + 1) := fun i => by rw [Nat.div_div_eq_div_mul, Nat.pow_succ, Nat.mul_comm]
  simp only [low, List.range_succ_eq_map, List.map_cons, List.map_map, Nat.pow_zero, Nat.div_one]
  congr 1
  apply List.map_congr_left
  intro i _
  simp only [Function.comp, Nat.succ_eq_add_one, e]
theorem num_low : ∀ (n v : Nat), v < 256 ^ n → num (low n v) = v
  | 0, v, h => by simp at h; subst h; rfl
  | n + 1, v, h => by
    rw [low_step, num, num_low n (v / 256) (by rw [Nat.pow_succ] at h; omega), UInt8.toNat_ofNat']
    omega
theorem low_num : ∀ (a : List UInt8), low a.length (num a) = a
  | [] => rfl
  | c :: r => by
    have h1 := c.toNat_lt
    rw [List.length_cons, low_step, num, show (c.toNat + 256 * num r) / 256 = num r by omega, low_num r]
    congr 1
    apply UInt8.toNat_inj.1
    rw [UInt8.toNat_ofNat']
    omega

/- the sum of four bytes more: a number is turned -/
theorem bit1_xor (u v : Nat) : bit1 (u ^^^ v) = bit1 u ^^^ bit1 v := by
  have h2 : (u ^^^ v) / 2 = u / 2 ^^^ v / 2 := Nat.xor_div_two
  have h1 : (u ^^^ v) % 2 = (u % 2 + v % 2) % 2 := by
    have h3 := @Nat.xor_mod_two_eq_one u v
    rcases Nat.mod_two_eq_zero_or_one (u ^^^ v) with h | h
    · have := fun k => (h3.2 k)
      rcases Nat.mod_two_eq_zero_or_one u with hu | hu <;> rcases Nat.mod_two_eq_zero_or_one v with hv | hv <;> rw [h, hu, hv] <;> rw [h, hu, hv] at h3 <;> simp at h3 ⊢
    · rcases Nat.mod_two_eq_zero_or_one u with hu | hu <;> rcases Nat.mod_two_eq_zero_or_one v with hv | hv <;> rw [h, hu, hv] <;> rw [h, hu, hv] at h3 <;> simp at h3 ⊢
  unfold bit1
  rw [h1, h2]
  rcases Nat.mod_two_eq_zero_or_one u with hu | hu <;> rcases Nat.mod_two_eq_zero_or_one v with hv | hv <;> rw [hu, hv]
  · simp
  · simp [Nat.xor_assoc]
  · simp [Nat.xor_assoc, Nat.xor_comm 2197175160]
  · have : (2197175160 : Nat) ^^^ 2197175160 = 0 := Nat.xor_self _
    simp only [Nat.reduceAdd, Nat.reduceMod, Nat.zero_ne_one, if_false, if_true]
    rw [Nat.xor_assoc, ← Nat.xor_assoc 2197175160, Nat.xor_comm 2197175160 (v / 2), Nat.xor_assoc (v / 2), this, Nat.xor_zero]
theorem bitN_xor (n u v : Nat) : bitN n (u ^^^ v) = bitN n u ^^^ bitN n v := by
  induction n with
  | zero => rfl
  | succ n ih => rw [bitN, bitN, bitN, ih, bit1_xor]
theorem bitN_shift : ∀ n m : Nat, bitN n (2 ^ n * m) = m
  | 0, m => by simp [bitN]
  | n + 1, m => by
    have h := bitN_shift n (2 * m)
    rw [show 2 ^ (n + 1) * m = 2 ^ n * (2 * m) by rw [Nat.pow_succ, Nat.mul_assoc], bitN, h, bit1, if_neg (by omega)]
    omega
theorem bitN_add (a b x : Nat) : bitN (a + b) x = bitN a (bitN b x) := by
  induction a with
  | zero => rw [Nat.zero_add]; rfl
  | succ a ih => rw [show a + 1 + b = (a + b) + 1 by omega, bitN, ih, bitN]
theorem upd_num : ∀ (l : List UInt8) (x : Nat), upd x l = bitN (8 * l.length) (x ^^^ num l)
  | [], x => by simp [upd, num, bitN]
  | c :: r, x => by
    have hc := c.toNat_lt
    have e : num (c :: r) = c.toNat ^^^ 256 * num r := by
      have h1 : (c.toNat ^^^ 256 * num r) % 2 ^ 8 = c.toNat % 2 ^ 8 ^^^ (256 * num r) % 2 ^ 8 := Nat.xor_mod_two_pow
      have h2 : (c.toNat ^^^ 256 * num r) / 2 ^ 8 = c.toNat / 2 ^ 8 ^^^ (256 * num r) / 2 ^ 8 := Nat.xor_div_two_pow
      rw [show (256 * num r) % 2 ^ 8 = 0 by omega, Nat.xor_zero] at h1
      rw [show c.toNat / 2 ^ 8 = 0 by omega, Nat.zero_xor] at h2
      rw [num]
      omega
    have hs := bitN_shift 8 (num r)
    rw [show 2 ^ 8 * num r = 256 * num r by omega] at hs
    rw [upd_cons, upd_num r, List.length_cons, show 8 * (r.length + 1) = 8 * r.length + 8 by omega, bitN_add, e, ← Nat.xor_assoc, bitN_xor 8 (x ^^^ c.toNat), hs]
theorem upd_four {x : Nat} {a b : List UInt8} (hx : x < 4294967296) (hl : a.length = b.length) (h4 : a.length ≤ 4) (h : upd x a = upd x b) : a = b := by
  have hp : ∀ l : List UInt8, l.length ≤ 4 → num l < 4294967296 := fun l h => Nat.lt_of_lt_of_le (num_lt l) (by have : 256 ^ l.length ≤ 256 ^ 4 := Nat.pow_le_pow_right (by decide) h; omega)
  rw [upd_num, upd_num, ← hl] at h
  have ha := hp a h4
  have hb := hp b (by omega)
  exact num_inj hl (xor_cancel_left (bitN_inj (Nat.xor_lt_two_pow (n := 32) hx ha) (Nat.xor_lt_two_pow (n := 32) hx hb) _ h))
/-- two texts of one sum that differ in the first four bytes at most are one -/
theorem crc_four {a b r : List UInt8} (hl : a.length = b.length) (h4 : a.length ≤ 4) (h : crc (a ++ r) = crc (b ++ r)) : a = b := by
  have h := fin_inj h
  rw [upd_append, upd_append] at h
  exact upd_four (by decide) hl h4 (upd_inj (upd_lt (by decide) a) (upd_lt (by decide) b) r h)

end Go.Proofs.Ytnmklhajpcnkoaa.P5
