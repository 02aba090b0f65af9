/-
  Texts of the proof of SaidKeeps8, side by side: Sum5, Crc5, Pg5.
-/
import Derived.Test.YtbkngnjkaledlaaGreatMk25
/-
  The reference's Sum; package sum's tail and Seal, the reference's Seal, by contracts. (SumC and SumD without Open and the statements of chapter 2.)
-/
namespace Go.Proofs.YtbkngnjkaledlaaGreat.P2
open Go Go.RowKit Go.Lib Go.Proofs.YtbkngnjkaledlaaGreat.P0

theorem upd_byte {s : ByteArray} {j x y : Nat} (h : j < s.size) (hy : y = upd x (s.data.toList.take j)) : bitN 8 (y ^^^ s[j].toNat) = upd x (s.data.toList.take (j + 1)) := by
  rw [bytes_take h, upd_snoc, hy]
theorem bit_odd {y : Nat} (h : y % 2 = 1) (hy : y < 4294967296) : bits .xor .u32 ((y : Int) / 2) 2197175160 = (bit1 y : Int) := by
  have e0 : ((y : Int) / 2) = ((y / 2 : Nat) : Int) := by omega
  rw [e0, bit1, if_pos h]
  exact u32_xor_nat (y / 2) 2197175160 (by omega) (by decide)
theorem bit_even {y : Nat} (h : ¬ y % 2 = 1) : ((y : Int) / 2) = (bit1 y : Int) := by
  rw [bit1, if_neg h]; omega

theorem rSum_any (w : World) (s : ByteArray) (hs : s.size ≤ 9223372036854775807) :
    Calls Tryz.prog 126 #[.string s] w fun r w' => r = .returned (.int .u32 (crc s.data.toList)) ∧ w = w' := by
  go_enter Tryz.func126, Tryz.ntmps126
  go_wp2
  go_loop [3, 4] (fun v i => ∃ j x : Nat, j ≤ s.size ∧ i = .int .i64 j ∧ v = .int .u32 (x : Int) ∧ x < 4294967296 ∧ Hid (x = upd 4294967295 (s.data.toList.take j))) (fun _ i => s.size - (RowKit.intOf i).toNat)
  case atStart => exact ⟨0, 4294967295, Nat.zero_le _, rfl, rfl, by decide, rfl⟩
  case round =>
    obtain ⟨j, x, hj, rfl, rfl, hx, hxe⟩ := hrel
    by_cases hjt : j < s.size
    · have hxc := xor_code hx s[j]
      have hzl := xor_byte_lt hx s[j]
      have hU := upd_byte hjt hxe.out
      generalize hz : x ^^^ s[j].toNat = z at hxc hzl hU
      have HU := Lib.hid hU
      clear hz hxe hU
      go_wp2
      go_loop [3, 5] (fun v i => ∃ k y : Nat, k ≤ 8 ∧ i = .int .i64 k ∧ v = .int .u32 (y : Int) ∧ y < 4294967296 ∧ Hid (y = bitN k z)) (fun _ i => 8 - (RowKit.intOf i).toNat)
      case atStart => exact ⟨0, z, by omega, rfl, rfl, hzl, rfl⟩
      case round =>
        obtain ⟨k, y, hk, rfl, rfl, hy, hye⟩ := hrel
        by_cases h8 : k < 8
        · have hl := Lib.hid (bit1_lt hy)
          have hb : Hid (bit1 y = bitN (k + 1) z) := by show _ = _; rw [hye.out]; rfl
          by_cases hodd : y % 2 = 1
          · have h1 := Lib.hid (bit_odd hodd hy)
            have ho : (((y : Int) % 2) == 1) = true := by simp; omega
            clear hodd
            go_wp2
            go_round
            case rel => exact ⟨k + 1, bit1 y, by omega, by go_num, congrArg _ h1.out, hl.out, hb⟩
            case measure => simp [RowKit.intOf]; omega
          · have h1 := Lib.hid (bit_even hodd)
            have ho : (((y : Int) % 2) == 1) = false := by simp; omega
            clear hodd
            go_wp2
            go_round
            case rel => exact ⟨k + 1, bit1 y, by omega, by go_num, congrArg _ h1.out, hl.out, hb⟩
            case measure => simp [RowKit.intOf]; omega
        · have hk8 : k = 8 := by omega
          have hb : Hid (y = upd 4294967295 (s.data.toList.take (j + 1))) := by show _ = _; rw [hye.out, hk8]; exact HU.out
          clear hk8
          go_wp2
          go_round
          case rel => exact ⟨j + 1, y, by omega, by go_num, rfl, hy, hb⟩
          case measure => simp [RowKit.intOf]; omega
    · have hU : Hid (((4294967295 ^^^ x : Nat) : Int) = (crc s.data.toList : Int)) := by
        show _ = _
        rw [hxe.out, List.take_of_length_le (by simp; omega)]; rfl
      have hf := fin_code hx
      go_wp2
      go_ret
      exact ⟨by rw [← hU.out]; rfl, rfl⟩

theorem crc_lt' (l : List UInt8) : crc l < 4294967296 := crc_lt l
/-- four bytes of a row that was just made, as a text -/
theorem four_string (w : World) (x : Nat) :
    (convert 141 9 (.slice (some ⟨w.heap.size, 0, none⟩) 4 4)).run Tryz.prog (w.alloc (.cells #[.int .u8 ((x : Int) % 256), .int .u8 ((x : Int) / 256 % 256), .int .u8 ((x : Int) / 65536 % 256), .int .u8 ((x : Int) / 16777216 % 256)] 5)) =
      .ok (.string (str (low 4 x))) (w.alloc (.cells #[.int .u8 ((x : Int) % 256), .int .u8 ((x : Int) / 256 % 256), .int .u8 ((x : Int) / 65536 % 256), .int .u8 ((x : Int) / 16777216 % 256)] 5)) := by
  have hl : low 4 x = [UInt8.ofNat x, UInt8.ofNat (x / 256), UInt8.ofNat (x / 65536), UInt8.ofNat (x / 16777216)] := by
    simp [low, List.range, List.range.loop]
  have e : ∀ n : Nat, ((n : Int) % 256) = (((UInt8.ofNat n).toNat : Nat) : Int) := fun n => by rw [UInt8.toNat_ofNat']; omega
  rw [hl]
  refine run_convert_bytes_back _ 141 9 5 ⟨w.heap.size, 0, none⟩ 4 [UInt8.ofNat x, UInt8.ofNat (x / 256), UInt8.ofNat (x / 65536), UInt8.ofNat (x / 16777216)] Tryz.underlying141 Tryz.underlying5 Tryz.underlying9 (fun j hj => ?_)
  rw [show (⟨w.heap.size, 0, none⟩ : Addr).add j = ⟨w.heap.size, j, none⟩ by rw [Go.WideShapes.add_plain, Nat.zero_add], cell_at (new_at w _ _)]
  have e1 := e x
  have e2 := e (x / 256)
  have e3 := e (x / 65536)
  have e4 := e (x / 16777216)
  simp only [Int.natCast_ediv, Int.cast_ofNat_Int] at e2 e3 e4
  rw [e1, e2, e3, e4]
  match j, hj with
  | 0, _ => rfl
  | 1, _ => rfl
  | 2, _ => rfl
  | 3, _ => rfl
  | n + 4, h => exact absurd h (by simp)

theorem tail_any (w : World) (s : ByteArray) (hs : s.size ≤ 9223372036854775807) :
    Calls Tryz.prog 150 #[.string s] w fun r w' => r = .returned (.string (str (low 4 (crc s.data.toList)))) ∧ Below w.heap.size w w' := by
  have hT := TextsIn.new w [s] 1 (by simp) (fun i h => by
    obtain rfl : i = 0 := by simpa using h
    exact hs)
  have H := of_any _ _ _ hT
  rw [show allOf [s] = s.data.toList by simp [allOf]] at H
  have hlt := crc_lt' s.data.toList
  generalize crc s.data.toList = x at H hlt
  have HF := four_string (w.alloc (.cells #[.string s] 9)) x
  rw [show (x : Int) / 16777216 % 256 = (x : Int) / 16777216 by omega, show (w.alloc (.cells #[.string s] 9)).heap.size = w.heap.size + 1 by simp] at HF
  generalize str (low 4 x) = z at HF
  have HH := Lib.hid H
  have hB := Lib.hid (((Below.refl _ w).alloc (Nat.le_refl _) (.cells #[.string s] 9)).alloc (by simp) (.cells #[.int .u8 ((x : Int) % 256), .int .u8 ((x : Int) / 256 % 256), .int .u8 ((x : Int) / 65536 % 256), .int .u8 ((x : Int) / 16777216)] 5))
  clear H hT
  go_enter Tryz.func150, Tryz.ntmps150
  go_wp2_with (go_at_call 177; refine HH.out.mono ?_; rintro e w1 ⟨rfl, rfl⟩)
  go_ret
  exact ⟨rfl, hB.out⟩

/-- a text's sum in bytes -/
def tailOf (s : ByteArray) : ByteArray := str (low 4 (crc s.data.toList))
/-- a text with its sum behind it -/
def sealOf (s : ByteArray) : ByteArray := s ++ tailOf s
theorem tail_size (s : ByteArray) : (tailOf s).size = 4 := by rw [tailOf, str_size, low_length]
theorem seal_size (s : ByteArray) : (sealOf s).size = s.size + 4 := by rw [sealOf, size_app, tail_size]

theorem seal_any (w : World) (s : ByteArray) (hs : s.size ≤ 1000000) :
    Calls Tryz.prog 125 #[.string s] w fun r w' => r = .returned (.string (sealOf s)) ∧ Below w.heap.size w w' := by
  have H := Lib.hid (show Calls Tryz.prog 150 #[.string s] w fun r w' => r = .returned (.string (tailOf s)) ∧ Below w.heap.size w w' from tail_any w s (by omega))
  have hz := tail_size s
  have e : sealOf s = s ++ tailOf s := rfl
  rw [e]
  generalize tailOf s = z at H hz
  clear e
  go_enter Tryz.func125, Tryz.ntmps125
  go_wp2_with (go_at_call 150; refine H.out.mono ?_; rintro e w1 ⟨rfl, hb⟩)
  go_ret
  exact ⟨rfl, hb⟩
theorem rSeal_any (w : World) (s : ByteArray) (hs : s.size ≤ 1000000) :
    Calls Tryz.prog 88 #[.string s] w fun r w' => r = .returned (.string (sealOf s)) ∧ Below w.heap.size w w' := by
  have H1 := rSum_any w s (by omega)
  have hlt := crc_lt s.data.toList
  have hz := tail_size s
  have e : sealOf s = s ++ tailOf s := rfl
  rw [e]
  have H2 := rLow_any w (crc s.data.toList) 4 (by omega) (by omega)
  rw [show str (low 4 (crc s.data.toList)) = tailOf s from rfl] at H2
  generalize tailOf s = z at H2 hz
  generalize crc s.data.toList = x at H1 H2 hlt
  have HH1 := Lib.hid H1
  have HH2 := Lib.hid H2
  clear e H1 H2
  go_enter Tryz.func88, Tryz.ntmps88
  go_wp2_with (first
    | (go_at_call 126; refine HH1.out.mono ?_; rintro e w1 ⟨rfl, rfl⟩)
    | (go_at_call 87; refine HH2.out.mono ?_; rintro e w2 ⟨rfl, hb⟩))
  go_ret
  exact ⟨rfl, hb⟩


end Go.Proofs.YtbkngnjkaledlaaGreat.P2

/-
  Check sums as numbers: what a changed byte does. No program. (LawChanged's first part.)
-/
namespace Go.Proofs.YtbkngnjkaledlaaGreat.P2
open Go Go.RowKit Go.Lib Go.Proofs.YtbkngnjkaledlaaGreat.P0

theorem xor_cancel {x y c : Nat} (h : x ^^^ c = y ^^^ c) : x = y := by
  have := congrArg (fun z => z ^^^ c) h
  simpa [Nat.xor_assoc] using this
theorem bit1_top {x : Nat} (h : x < 4294967296) : (bit1 x).testBit 31 = decide (x % 2 = 1) := by
  have hx : (x / 2).testBit 31 = false := Nat.testBit_lt_two_pow (by omega)
  unfold bit1
  by_cases ho : x % 2 = 1
  · rw [if_pos ho, Nat.testBit_xor, hx, decide_eq_true ho]; decide
  · rw [if_neg ho, hx, decide_eq_false ho]
theorem bit1_inj {x y : Nat} (hx : x < 4294967296) (hy : y < 4294967296) (h : bit1 x = bit1 y) : x = y := by
  have e := (bit1_top hx).symm.trans ((congrArg (fun z => Nat.testBit z 31) h).trans (bit1_top hy))
  have hp : x % 2 = 1 ↔ y % 2 = 1 := decide_eq_decide.1 e
  unfold bit1 at h
  by_cases ho : x % 2 = 1
  · rw [if_pos ho, if_pos (hp.1 ho)] at h
    have := xor_cancel h
    omega
  · rw [if_neg ho, if_neg (fun k => ho (hp.2 k))] at h
    omega
theorem bitN_inj {x y : Nat} (hx : x < 4294967296) (hy : y < 4294967296) (n : Nat) (h : bitN n x = bitN n y) : x = y := by
  induction n with
  | zero => exact h
  | succ n ih => exact ih (bit1_inj (bitN_lt hx n) (bitN_lt hy n) h)
theorem upd_inj {x y : Nat} (hx : x < 4294967296) (hy : y < 4294967296) (l : List UInt8) (h : upd x l = upd y l) : x = y := by
  induction l generalizing x y with
  | nil => exact h
  | cons c r ih => exact xor_cancel (bitN_inj (xor_byte_lt hx c) (xor_byte_lt hy c) 8 (ih (bitN_lt (xor_byte_lt hx c) 8) (bitN_lt (xor_byte_lt hy c) 8) h))
theorem upd_cons (x : Nat) (c : UInt8) (l : List UInt8) : upd x (c :: l) = upd (bitN 8 (x ^^^ c.toNat)) l := by rw [upd, upd, List.foldl_cons]
theorem xor_cancel_left {x y c : Nat} (h : c ^^^ x = c ^^^ y) : x = y := by
  rw [Nat.xor_comm c x, Nat.xor_comm c y] at h
  exact xor_cancel h
theorem upd_differs {z : Nat} (hz : z < 4294967296) {p q : List UInt8} {a b : UInt8} (h : a ≠ b) : upd z (p ++ a :: q) ≠ upd z (p ++ b :: q) := by
  intro e
  rw [upd_append, upd_append, upd_cons, upd_cons] at e
  have hp := upd_lt hz p
  generalize upd z p = y at e hp
  have e := bitN_inj (xor_byte_lt hp a) (xor_byte_lt hp b) 8 (upd_inj (bitN_lt (xor_byte_lt hp a) 8) (bitN_lt (xor_byte_lt hp b) 8) q e)
  exact h (UInt8.toNat_inj.1 (xor_cancel_left e))
theorem fin_inj {z : Nat} {a b : List UInt8} (h : 4294967295 ^^^ upd z a = 4294967295 ^^^ upd z b) : upd z a = upd z b := xor_cancel_left h
theorem crc_differs {p q : List UInt8} {a b : UInt8} (h : a ≠ b) : crc (p ++ a :: q) ≠ crc (p ++ b :: q) := fun e =>
  upd_differs (by decide) h (fin_inj e)

theorem low4_inj {x y : Nat} (hx : x < 4294967296) (hy : y < 4294967296) (h : low 4 x = low 4 y) : x = y := by
  have hl : ∀ x, low 4 x = [UInt8.ofNat x, UInt8.ofNat (x / 256), UInt8.ofNat (x / 65536), UInt8.ofNat (x / 16777216)] := fun x => by simp [low, List.range, List.range.loop]
  rw [hl, hl] at h
  simp only [List.cons.injEq, and_true] at h
  obtain ⟨h0, h1, h2, h3⟩ := h
  have e : ∀ {n m : Nat}, UInt8.ofNat n = UInt8.ofNat m → n % 256 = m % 256 := fun {n m} h => by
    have := congrArg UInt8.toNat h
    rwa [UInt8.toNat_ofNat', UInt8.toNat_ofNat'] at this
  have e0 := e h0
  have e1 := e h1
  have e2 := e h2
  have e3 := e h3
  omega
theorem set_differs {l : List UInt8} {q : Nat} (v : UInt8) (h : q < l.length) : ∃ p r, l = p ++ l[q] :: r ∧ l.set q v = p ++ v :: r := by
  refine ⟨l.take q, l.drop (q + 1), ?_, List.set_eq_take_append_cons_drop.trans (if_pos h)⟩
  rw [← List.drop_eq_getElem_cons h, List.take_append_drop]


end Go.Proofs.YtbkngnjkaledlaaGreat.P2

/-
  Pages in sectors, in plain words: a page's sector, what a sector that is torn or changed comes to. No program.
-/
namespace Go.Proofs.YtbkngnjkaledlaaGreat.P5
open Go Go.RowKit Go.Lib Go.Proofs.YtbkngnjkaledlaaGreat.P0 Go.Proofs.YtbkngnjkaledlaaGreat.P2

/-- a page as plain data -/
structure Pg where
  k : Int
  id : Int
  tx : Int
  body : ByteArray
/-- its value -/
def Pg.v (p : Pg) : Value := .agg #[.int .i64 p.k, .int .i64 p.id, .int .i64 p.tx, .string p.body]
def Pg.zero : Pg := ⟨0, 0, 0, ⟨#[]⟩⟩
/-- a page that may be -/
def Pg.ok (p : Pg) : Prop := 1 ≤ p.k ∧ p.k ≤ 5 ∧ 0 ≤ p.id ∧ p.id < 4000 ∧ 0 ≤ p.tx ∧ p.tx ≤ 1099511627776 ∧ p.body.size ≤ 232
instance (p : Pg) : Decidable p.ok := by unfold Pg.ok; infer_instance
/-- the bytes ahead of the sum, of numbers -/
def fore (k n id tx : Nat) (body : List UInt8) : List UInt8 := low 1 k ++ (low 1 n ++ (low 2 id ++ (low 4 tx ++ (low 8 tx ++ (body ++ List.replicate (232 - n) 0)))))
def Pg.fore (p : Pg) : List UInt8 := P5.fore p.k.toNat p.body.size p.id.toNat p.tx.toNat p.body.data.toList
/-- a page's sector as bytes -/
def Pg.laid (p : Pg) : List UInt8 := p.fore ++ (low 4 (crc p.fore) ++ low 4 p.tx.toNat)
def Pg.sector (p : Pg) : ByteArray := str p.laid
theorem fore_length {k n id tx : Nat} {body : List UInt8} (h : body.length = n) (hn : n ≤ 232) : (fore k n id tx body).length = 248 := by
  simp only [P5.fore, List.length_append, low_length, List.length_replicate]
  omega
theorem Pg.fore_len {p : Pg} (h : p.ok) : p.fore.length = 248 := fore_length (text_len _) h.2.2.2.2.2.2
theorem Pg.laid_len {p : Pg} (h : p.ok) : p.laid.length = 256 := by
  simp only [Pg.laid, List.length_append, low_length, p.fore_len h]
theorem Pg.sector_size {p : Pg} (h : p.ok) : p.sector.size = 256 := by rw [Pg.sector, str_size, p.laid_len h]

theorem ofNat_eq {n m : Nat} (h : n % 256 = m % 256) : UInt8.ofNat n = UInt8.ofNat m := by
  apply UInt8.toNat_inj.1
  rw [UInt8.toNat_ofNat', UInt8.toNat_ofNat']
  exact h
theorem ofNat_toNat {n : Nat} (h : n < 256) : (UInt8.ofNat n).toNat = n := by rw [UInt8.toNat_ofNat']; omega
theorem low_mod4 (x : Nat) : low 4 (x % 4294967296) = low 4 x := by
  have hl : ∀ x, low 4 x = [UInt8.ofNat x, UInt8.ofNat (x / 256), UInt8.ofNat (x / 65536), UInt8.ofNat (x / 16777216)] := fun x => by simp [low, List.range, List.range.loop]
  rw [hl, hl]
  simp only [List.cons.injEq, and_true]
  exact ⟨ofNat_eq (by omega), ofNat_eq (by omega), ofNat_eq (by omega), ofNat_eq (by omega)⟩
theorem low4_mod {x y : Nat} (h : low 4 x = low 4 y) : x % 4294967296 = y % 4294967296 := by
  rw [← low_mod4 x, ← low_mod4 y] at h
  exact low4_inj (Nat.mod_lt _ (by decide)) (Nat.mod_lt _ (by decide)) h

/-- a number of bytes, the lowest first -/
def num : List UInt8 → Nat
  | [] => 0
  | c :: r => c.toNat + 256 * num r
theorem num_lt : ∀ xs : List UInt8, num xs < 256 ^ xs.length
  | [] => by simp [num]
  | c :: r => by
    have := num_lt r
    have h1 := c.toNat_lt
    simp only [num, List.length_cons, Nat.pow_succ]
    omega
theorem num_inj : ∀ {a b : List UInt8}, a.length = b.length → num a = num b → a = b
  | [], [], _, _ => rfl
  | [], _ :: _, h, _ => by simp at h
  | _ :: _, [], h, _ => by simp at h
  | c :: r, d :: q, hl, h => by
    have h1 := c.toNat_lt
    have h2 := d.toNat_lt
    simp only [num] at h
    have e : c = d := UInt8.toNat_inj.1 (by omega)
    have e2 : num r = num q := by omega
    rw [e, num_inj (by simpa using hl) e2]
theorem low_step (n v : Nat) : low (n + 1) v = UInt8.ofNat v :: low n (v / 256) := by
  have e : ∀ i, v / 256 / 256 ^ i = v / 256 ^ (i + 1) := fun i => by rw [Nat.div_div_eq_div_mul, Nat.pow_succ, Nat.mul_comm]
  simp only [low, List.range_succ_eq_map, List.map_cons, List.map_map, Nat.pow_zero, Nat.div_one]
  congr 1
  apply List.map_congr_left
  intro i _
  simp only [Function.comp, Nat.succ_eq_add_one, e]
theorem num_low : ∀ (n v : Nat), v < 256 ^ n → num (low n v) = v
  | 0, v, h => by simp at h; subst h; rfl
  | n + 1, v, h => by
    rw [low_step, num, num_low n (v / 256) (by rw [Nat.pow_succ] at h; omega), UInt8.toNat_ofNat']
    omega
theorem low_num : ∀ (a : List UInt8), low a.length (num a) = a
  | [] => rfl
  | c :: r => by
    have h1 := c.toNat_lt
    rw [List.length_cons, low_step, num, show (c.toNat + 256 * num r) / 256 = num r by omega, low_num r]
    congr 1
    apply UInt8.toNat_inj.1
    rw [UInt8.toNat_ofNat']
    omega

/- the sum of four bytes more: a number is turned -/
theorem bit1_xor (u v : Nat) : bit1 (u ^^^ v) = bit1 u ^^^ bit1 v := by
  have h2 : (u ^^^ v) / 2 = u / 2 ^^^ v / 2 := Nat.xor_div_two
  have h1 : (u ^^^ v) % 2 = (u % 2 + v % 2) % 2 := by
    have h3 := @Nat.xor_mod_two_eq_one u v
    rcases Nat.mod_two_eq_zero_or_one (u ^^^ v) with h | h
    · have := fun k => (h3.2 k)
      rcases Nat.mod_two_eq_zero_or_one u with hu | hu <;> rcases Nat.mod_two_eq_zero_or_one v with hv | hv <;> rw [h, hu, hv] <;> rw [h, hu, hv] at h3 <;> simp at h3 ⊢
    · rcases Nat.mod_two_eq_zero_or_one u with hu | hu <;> rcases Nat.mod_two_eq_zero_or_one v with hv | hv <;> rw [h, hu, hv] <;> rw [h, hu, hv] at h3 <;> simp at h3 ⊢
  unfold bit1
  rw [h1, h2]
  rcases Nat.mod_two_eq_zero_or_one u with hu | hu <;> rcases Nat.mod_two_eq_zero_or_one v with hv | hv <;> rw [hu, hv]
  · simp
  · simp [Nat.xor_assoc]
  · simp [Nat.xor_assoc, Nat.xor_comm 2197175160]
  · have : (2197175160 : Nat) ^^^ 2197175160 = 0 := Nat.xor_self _
    simp only [Nat.reduceAdd, Nat.reduceMod, Nat.zero_ne_one, if_false, if_true]
    rw [Nat.xor_assoc, ← Nat.xor_assoc 2197175160, Nat.xor_comm 2197175160 (v / 2), Nat.xor_assoc (v / 2), this, Nat.xor_zero]
theorem bitN_xor (n u v : Nat) : bitN n (u ^^^ v) = bitN n u ^^^ bitN n v := by
  induction n with
  | zero => rfl
  | succ n ih => rw [bitN, bitN, bitN, ih, bit1_xor]
theorem bitN_shift : ∀ n m : Nat, bitN n (2 ^ n * m) = m
  | 0, m => by simp [bitN]
  | n + 1, m => by
    have h := bitN_shift n (2 * m)
    rw [show 2 ^ (n + 1) * m = 2 ^ n * (2 * m) by rw [Nat.pow_succ, Nat.mul_assoc], bitN, h, bit1, if_neg (by omega)]
    omega
theorem bitN_add (a b x : Nat) : bitN (a + b) x = bitN a (bitN b x) := by
  induction a with
  | zero => rw [Nat.zero_add]; rfl
  | succ a ih => rw [show a + 1 + b = (a + b) + 1 by omega, bitN, ih, bitN]
theorem upd_num : ∀ (l : List UInt8) (x : Nat), upd x l = bitN (8 * l.length) (x ^^^ num l)
  | [], x => by simp [upd, num, bitN]
  | c :: r, x => by
    have hc := c.toNat_lt
    have e : num (c :: r) = c.toNat ^^^ 256 * num r := by
      have h1 : (c.toNat ^^^ 256 * num r) % 2 ^ 8 = c.toNat % 2 ^ 8 ^^^ (256 * num r) % 2 ^ 8 := Nat.xor_mod_two_pow
      have h2 : (c.toNat ^^^ 256 * num r) / 2 ^ 8 = c.toNat / 2 ^ 8 ^^^ (256 * num r) / 2 ^ 8 := Nat.xor_div_two_pow
      rw [show (256 * num r) % 2 ^ 8 = 0 by omega, Nat.xor_zero] at h1
      rw [show c.toNat / 2 ^ 8 = 0 by omega, Nat.zero_xor] at h2
      rw [num]
      omega
    have hs := bitN_shift 8 (num r)
    rw [show 2 ^ 8 * num r = 256 * num r by omega] at hs
    rw [upd_cons, upd_num r, List.length_cons, show 8 * (r.length + 1) = 8 * r.length + 8 by omega, bitN_add, e, ← Nat.xor_assoc, bitN_xor 8 (x ^^^ c.toNat), hs]
theorem upd_four {x : Nat} {a b : List UInt8} (hx : x < 4294967296) (hl : a.length = b.length) (h4 : a.length ≤ 4) (h : upd x a = upd x b) : a = b := by
  have hp : ∀ l : List UInt8, l.length ≤ 4 → num l < 4294967296 := fun l h => Nat.lt_of_lt_of_le (num_lt l) (by have : 256 ^ l.length ≤ 256 ^ 4 := Nat.pow_le_pow_right (by decide) h; omega)
  rw [upd_num, upd_num, ← hl] at h
  have ha := hp a h4
  have hb := hp b (by omega)
  exact num_inj hl (xor_cancel_left (bitN_inj (Nat.xor_lt_two_pow (n := 32) hx ha) (Nat.xor_lt_two_pow (n := 32) hx hb) _ h))
/-- two texts of one sum that differ in the first four bytes at most are one -/
theorem crc_four {a b r : List UInt8} (hl : a.length = b.length) (h4 : a.length ≤ 4) (h : crc (a ++ r) = crc (b ++ r)) : a = b := by
  have h := fin_inj h
  rw [upd_append, upd_append] at h
  exact upd_four (by decide) hl h4 (upd_inj (upd_lt (by decide) a) (upd_lt (by decide) b) r h)

end Go.Proofs.YtbkngnjkaledlaaGreat.P5
