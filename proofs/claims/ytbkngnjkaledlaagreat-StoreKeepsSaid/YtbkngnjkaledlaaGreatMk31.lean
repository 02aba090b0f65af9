/-
  Texts of the proof of SaidKeeps8, side by side: Pg8.
-/
import Derived.Test.YtbkngnjkaledlaaGreatMk30
import Derived.Test.YtbkngnjkaledlaaGreatMk10
import Derived.Deep.RegionHeld3
/-
  Package page's Lay, and the reference's LayPage, by contracts.
-/
namespace Go.Proofs.YtbkngnjkaledlaaGreat.P5
open Go Go.RowKit Go.Lib Go.Proofs.YtbkngnjkaledlaaGreat.P0 Go.Proofs.YtbkngnjkaledlaaGreat.P2

/-- zero bytes -/
def zer (n : Nat) : ByteArray := str (List.replicate n 0)
theorem zer_size (n : Nat) : (zer n).size = n := by rw [zer, str_size, List.length_replicate]
theorem repeat_zero : ∀ n, Lib.repeatL [(0 : UInt8)] n = List.replicate n 0 := by
  intro n
  induction n with
  | zero => rfl
  | succ n ih =>
    show [0] ++ Lib.repeatL [0] n = _
    rw [ih]
    rfl
theorem repeat_zer (w : World) (n : Nat) (h : n ≤ 100000) : Calls Tryz.prog 91 #[.string ⟨#[0]⟩, .int .i64 n] w fun e w' => e = .returned (.string (zer n)) ∧ Below w.heap.size w w' := by
  have h := Tryz.strings_Repeat ⟨#[0]⟩ n w (by omega) (by show 1 * n ≤ _; omega)
  have e : (⟨(Lib.repeatL (⟨#[0]⟩ : ByteArray).data.toList n).toArray⟩ : ByteArray) = zer n := by
    unfold zer str
    rw [show (⟨#[0]⟩ : ByteArray).data.toList = [(0 : UInt8)] from rfl, repeat_zero]
  rw [e] at h
  exact h
theorem sClone_any (s : ByteArray) (w : World) (hs : s.size ≤ 281474976710656) : Calls Tryz.prog 32 #[.string s] w fun e w' => e = .returned (.string s) ∧ Below w.heap.size w w' := by
  have H := fun w' : World => Lib.hid (Tryz.stringslite_Clone s w' hs)
  go_enter Tryz.func32, Tryz.ntmps32
  go_wp2_with (go_at_call 82; refine (H _).out.mono ?_; rintro e w' ⟨rfl, hb⟩)
  go_ret
  exact ⟨rfl, hb⟩

/-- the four cells of a page in block a -/
def PCells (w : World) (a : Nat) (p : Pg) : Prop :=
  w.cell? ⟨a, 0, none⟩ = some (.int .i64 p.k) ∧ w.cell? ⟨a, 1, none⟩ = some (.int .i64 p.id) ∧ w.cell? ⟨a, 2, none⟩ = some (.int .i64 p.tx) ∧ w.cell? ⟨a, 3, none⟩ = some (.string p.body)
def Pg.cells (p : Pg) : Array Value := #[.int .i64 p.k, .int .i64 p.id, .int .i64 p.tx, .string p.body]
theorem Pg.pcells {w : World} {a : Nat} {p : Pg} (h : w.heap[a]? = some (.cells p.cells 47 (0, 0))) : PCells w a p :=
  ⟨(cell_at h 0).trans rfl, (cell_at h 1).trans rfl, (cell_at h 2).trans rfl, (cell_at h 3).trans rfl⟩

/-- while a page is laid: the Put in block b holds xs, the page stands in block a -/
structure LSt (w0 : World) (a b : Nat) (p : Pg) (w : World) (xs : List UInt8) : Prop where
  put : PutIs w b xs 0
  page : w.heap[a]? = some (.cells p.cells 47 (0, 0))
  ne : a ≠ b
  below : Below w0.heap.size w0 w
  lo : w0.heap.size ≤ b
theorem LSt.step {w0 : World} {a b : Nat} {p : Pg} {w w' : World} {xs ys : List UInt8} (h : LSt w0 a b p w xs) (k : PutOwn w' b ys 0) (f : Fr b w w') : LSt w0 a b p w' ys :=
  ⟨.inl k, f.keeps a _ _ _ h.page (by decide) h.ne, h.ne, h.below.trans (f.below.mono h.lo), h.lo⟩
theorem LSt.over {w0 : World} {a b : Nat} {p : Pg} {w w' : World} {xs : List UInt8} (h : LSt w0 a b p w xs) (k : Below w.heap.size w w') : LSt w0 a b p w' xs :=
  ⟨h.put.below k, by rw [k.block a (lt_of_block h.page)]; exact h.page, h.ne, thenBelow h.below k, h.lo⟩
theorem LSt.drew {w0 : World} {a b : Nat} {p : Pg} {w : World} {xs : List UInt8} (h : LSt w0 a b p w xs) : LSt w0 a b p w.drew xs :=
  h.over ((Below.refl _ _).drew)
theorem LSt.cells {w0 : World} {a b : Nat} {p : Pg} {w : World} {xs : List UInt8} (h : LSt w0 a b p w xs) : PCells w a p := Pg.pcells h.page

theorem lst_start (w : World) (p : Pg) (w1 : World) (hb : Below (w.alloc (.cells p.cells 47)).heap.size (w.alloc (.cells p.cells 47)) w1) :
    LSt w w.heap.size w1.heap.size p (w1.alloc (.cells #[.slice none 0 0, .pointer none, .int .i64 0] 169)) [] := by
  have h1 : w.heap.size < w1.heap.size := Nat.lt_of_lt_of_le (by simp) hb.size
  have hp : w1.heap[w.heap.size]? = some (.cells p.cells 47 (0, 0)) := by rw [hb.block _ (by simp)]; exact new_at w _ _
  exact ⟨.inr ⟨new_at _ _ _, rfl⟩, by rw [Below.heap_alloc _ _ _ h1]; exact hp, by omega, (thenBelow (below_new w _) hb).alloc (by omega) _, by omega⟩
theorem low_and (x : Nat) (h : x < 9223372036854775808) : bits .and .i64 (x : Int) 4294967295 = ((x % 4294967296 : Nat) : Int) := by
  have hm : (BitVec.ofInt 64 4294967295).toNat = 2 ^ 32 - 1 := by decide
  have key : (BitVec.ofInt 64 (x : Int) &&& BitVec.ofInt 64 4294967295).toNat = ((x : Int) % ((2 ^ 64 : Nat) : Int)).toNat % 2 ^ 32 := by
    rw [BitVec.toNat_and, BitVec.toNat_ofInt, hm, Nat.and_two_pow_sub_one_eq_mod]
  show IntKind.i64.wrap ((BitVec.ofInt 64 (x : Int) &&& BitVec.ofInt 64 4294967295).toNat : Nat) = _
  rw [key, IntKind.wrap_i64]
  omega

/-- the bytes so far -/
def seg1 (k : Nat) : List UInt8 := [] ++ low 1 k
def seg2 (k n : Nat) : List UInt8 := seg1 k ++ low 1 n
def seg3 (k n id : Nat) : List UInt8 := seg2 k n ++ low 2 id
def seg4 (k n id tx : Nat) : List UInt8 := seg3 k n id ++ low 4 (tx % 4294967296)
def seg5 (k n id tx : Nat) : List UInt8 := seg4 k n id tx ++ low 8 tx
def seg6 (k n id tx : Nat) (body : List UInt8) : List UInt8 := seg5 k n id tx ++ body
def seg7 (k n id tx : Nat) (body : List UInt8) : List UInt8 := seg6 k n id tx body ++ (zer (232 - n)).data.toList
theorem seg5_length (k n id tx : Nat) : (seg5 k n id tx).length = 16 := by
  simp only [seg5, seg4, seg3, seg2, seg1, List.length_append, low_length, List.length_nil]
theorem seg7_fore (k n id tx : Nat) (body : List UInt8) : seg7 k n id tx body = fore k n id tx body := by
  simp only [seg7, seg6, seg5, seg4, seg3, seg2, seg1, P5.fore, zer, str_list, low_mod4, List.nil_append, List.append_assoc]

/-- where Lay ends: the sealed bytes, and the Tx once more -/
theorem sector_ends (p : Pg) (h : p.ok) : sealOf (str p.fore) ++ (str p.fore).extract 4 8 = p.sector := by
  obtain ⟨A, M, hA, hM, e1, _⟩ := laid_parts p h
  have e2 : (str p.fore).extract 4 8 = str (low 4 p.tx.toNat) := by
    apply text_ext
    rw [Lib.extract_data, str_list, str_list, e1, List.drop_left' hA, List.take_left' (by rw [low_length])]
  rw [e2]
  apply text_ext
  rw [text_app, str_list, sealOf, text_app, str_list, tailOf, str_list, str_list, Pg.sector, str_list, Pg.laid, List.append_assoc]

set_option maxRecDepth 100000 in
set_option maxHeartbeats 4000000 in
theorem lay_ok (w : World) (p : Pg) (h : p.ok) :
    Calls Tryz.prog 85 #[p.v] w fun r w' => r = .returned (.tuple #[.string p.sector, .int .i64 0]) ∧ Below w.heap.size w w' := by
  have HV := fun w' => Lib.hid (valid_any w' p)
  rw [decide_eq_true h] at HV
  have hE := sector_ends p h
  have hS : (sealOf (str p.fore)).size = 252 := by rw [seal_size, str_size, p.fore_len h]
  have hF : (str p.fore).size = 248 := by rw [str_size, p.fore_len h]
  have HSe := fun w' => Lib.hid (seal_any w' (str p.fore) (by omega))
  have hst := lst_start w p
  obtain ⟨k, id, tx, body⟩ := p
  obtain ⟨h1, h2, h3, h4, h5, h6, h7⟩ := h
  simp only at h1 h2 h3 h4 h5 h6 h7
  obtain ⟨k, rfl⟩ := Int.eq_ofNat_of_zero_le (show 0 ≤ k by omega)
  obtain ⟨id, rfl⟩ := Int.eq_ofNat_of_zero_le h3
  obtain ⟨tx, rfl⟩ := Int.eq_ofNat_of_zero_le h5
  have hA := low_and tx (by omega)
  have hl5 := seg5_length k body.size id tx
  have hz := zer_size (232 - body.size)
  have ptr : ∀ b : Nat, Value = Value := fun _ => rfl
  have L1 := Lib.hid (show ∀ b W, LSt w w.heap.size b ⟨k, id, tx, body⟩ W [] → Calls Tryz.prog 119 #[.pointer (some ⟨b, 0, none⟩), .int .i64 k] W fun r w' => r = .returned (.pointer (some ⟨b, 0, none⟩)) ∧ LSt w w.heap.size b ⟨k, id, tx, body⟩ w' (seg1 k) from
    fun b W hW => (putByte_ok W b _ k (by omega) (by simp) hW.put).mono fun _ _ ⟨a, c, d⟩ => ⟨a, hW.step c d⟩)
  have L2 := Lib.hid (show ∀ b W, LSt w w.heap.size b ⟨k, id, tx, body⟩ W (seg1 k) → Calls Tryz.prog 119 #[.pointer (some ⟨b, 0, none⟩), .int .i64 body.size] W fun r w' => r = .returned (.pointer (some ⟨b, 0, none⟩)) ∧ LSt w w.heap.size b ⟨k, id, tx, body⟩ w' (seg2 k body.size) from
    fun b W hW => (putByte_ok W b _ body.size (by omega) (by simp [seg1, low_length]) hW.put).mono fun _ _ ⟨a, c, d⟩ => ⟨a, hW.step c d⟩)
  have L3 := Lib.hid (show ∀ b W, LSt w w.heap.size b ⟨k, id, tx, body⟩ W (seg2 k body.size) → Calls Tryz.prog 120 #[.pointer (some ⟨b, 0, none⟩), .int .i64 id] W fun r w' => r = .returned (.pointer (some ⟨b, 0, none⟩)) ∧ LSt w w.heap.size b ⟨k, id, tx, body⟩ w' (seg3 k body.size id) from
    fun b W hW => (putHalf_ok W b _ id (by omega) (by simp [seg2, seg1, low_length]) hW.put).mono fun _ _ ⟨a, c, d⟩ => ⟨a, hW.step c d⟩)
  have L4 := Lib.hid (show ∀ b W, LSt w w.heap.size b ⟨k, id, tx, body⟩ W (seg3 k body.size id) → Calls Tryz.prog 121 #[.pointer (some ⟨b, 0, none⟩), .int .i64 (bits .and .i64 (tx : Int) 4294967295)] W fun r w' => r = .returned (.pointer (some ⟨b, 0, none⟩)) ∧ LSt w w.heap.size b ⟨k, id, tx, body⟩ w' (seg4 k body.size id tx) from
    fun b W hW => by
      rw [hA]
      exact (putWord_ok W b _ (tx % 4294967296) (by omega) (by simp [seg3, seg2, seg1, low_length]) hW.put).mono fun _ _ ⟨a, c, d⟩ => ⟨a, hW.step c d⟩)
  have L5 := Lib.hid (show ∀ b W, LSt w w.heap.size b ⟨k, id, tx, body⟩ W (seg4 k body.size id tx) → Calls Tryz.prog 122 #[.pointer (some ⟨b, 0, none⟩), .int .i64 tx] W fun r w' => r = .returned (.pointer (some ⟨b, 0, none⟩)) ∧ LSt w w.heap.size b ⟨k, id, tx, body⟩ w' (seg5 k body.size id tx) from
    fun b W hW => (putInt_ok W b _ tx (by omega) (by simp [seg4, seg3, seg2, seg1, low_length]) hW.put).mono fun _ _ ⟨a, c, d⟩ => ⟨a, hW.step c d⟩)
  have L6 := Lib.hid (show ∀ b W, LSt w w.heap.size b ⟨k, id, tx, body⟩ W (seg5 k body.size id tx) → Calls Tryz.prog 123 #[.pointer (some ⟨b, 0, none⟩), .string body] W fun r w' => r = .returned (.pointer (some ⟨b, 0, none⟩)) ∧ LSt w w.heap.size b ⟨k, id, tx, body⟩ w' (seg6 k body.size id tx body.data.toList) from
    fun b W hW => (raw_ok W b _ body (by omega) hW.put).mono fun _ _ ⟨a, c, d⟩ => ⟨a, hW.step c d⟩)
  have L7 := Lib.hid (show ∀ b W xs, LSt w w.heap.size b ⟨k, id, tx, body⟩ W xs → Calls Tryz.prog 91 #[.string ⟨#[0]⟩, .int .i64 (IntKind.i64.wrap (232 - (body.size : Int)))] W fun r w' => r = .returned (.string (zer (232 - body.size))) ∧ LSt w w.heap.size b ⟨k, id, tx, body⟩ w' xs from
    fun b W xs hW => by
      rw [show IntKind.i64.wrap ((232 : Int) - (body.size : Int)) = ((232 - body.size : Nat) : Int) by rw [IntKind.wrap_i64]; omega]
      exact (repeat_zer W (232 - body.size) (by omega)).mono fun _ _ ⟨a, d⟩ => ⟨a, hW.over d⟩)
  have L8 := Lib.hid (show ∀ b W, LSt w w.heap.size b ⟨k, id, tx, body⟩ W (seg6 k body.size id tx body.data.toList) → Calls Tryz.prog 123 #[.pointer (some ⟨b, 0, none⟩), .string (zer (232 - body.size))] W fun r w' => r = .returned (.pointer (some ⟨b, 0, none⟩)) ∧ LSt w w.heap.size b ⟨k, id, tx, body⟩ w' (seg7 k body.size id tx body.data.toList) from
    fun b W hW => (raw_ok W b _ _ (by rw [seg6, List.length_append, text_len]; omega) hW.put).mono fun _ _ ⟨a, c, d⟩ => ⟨a, hW.step c d⟩)
  have eF : (⟨(seg7 k body.size id tx body.data.toList).toArray⟩ : ByteArray) = str (Pg.mk k id tx body).fore := by rw [seg7_fore]; rfl
  have L9 := Lib.hid (show ∀ b W, LSt w w.heap.size b ⟨k, id, tx, body⟩ W (seg7 k body.size id tx body.data.toList) → Calls Tryz.prog 124 #[.pointer (some ⟨b, 0, none⟩)] W fun r w' => r = .returned (.tuple #[.string (str (Pg.mk k id tx body).fore), .int .i64 0]) ∧ Below w.heap.size w w' from
    fun b W hW => by
      have H := putEnd_ok W b _ hW.put
      rw [eF] at H
      exact H.mono fun _ _ ⟨a, d⟩ => ⟨a, d ▸ hW.below⟩)
  have CE := Lib.hid (show ∀ b W xs, LSt w w.heap.size b ⟨k, id, tx, body⟩ W xs → PCells W w.heap.size ⟨k, id, tx, body⟩ from fun b W xs hW => hW.cells)
  generalize str (Pg.mk k id tx body).fore = F at HSe hE hS hF L9
  generalize sealOf F = G at HSe hE hS
  have HE := Lib.hid hE
  have HST := Lib.hid hst
  generalize (Pg.mk k id tx body).sector = R at hE HE
  clear eF h1 h2 h3 h4 h5 h6 hl5 hst hA hE ptr
  unfold PCells at CE
  unfold Pg.v at *
  generalize zer (232 - body.size) = Z at L7 L8 hz
  go_enter Tryz.func85, Tryz.ntmps85
  go_wp2_with (go_at_call 84; refine (HV _).out.mono ?_; rintro e w1 ⟨rfl, hb1⟩; have st0 := HST.out w1 hb1; have st0d := st0.drew; have q0 := CE.out _ _ _ st0; have q0d := CE.out _ _ _ st0d)
  go_region_held3 (fun w' => w'.cell? ⟨w.heap.size, 0, none⟩ = some (.int .i64 k) ∧ w'.cell? ⟨w.heap.size, 1, none⟩ = some (.int .i64 id) ∧ w'.cell? ⟨w.heap.size, 2, none⟩ = some (.int .i64 tx) ∧ w'.cell? ⟨w.heap.size, 3, none⟩ = some (.string body)) (first | exact q0 | exact q0d | exact CE.out _ _ _ (by assumption))
    ((first
      | (go_at_call 119; (with_reducible refine (L1.out _ _ (by assumption)).mono ?_); rintro e w2 ⟨rfl, st1⟩)
      | (go_at_call 119; (with_reducible refine (L2.out _ _ (by assumption)).mono ?_); rintro e w2 ⟨rfl, st1⟩)
      | (go_at_call 120; (with_reducible refine (L3.out _ _ (by assumption)).mono ?_); rintro e w2 ⟨rfl, st1⟩)
      | (go_at_call 121; (with_reducible refine (L4.out _ _ (by assumption)).mono ?_); rintro e w2 ⟨rfl, st1⟩)
      | (go_at_call 122; (with_reducible refine (L5.out _ _ (by assumption)).mono ?_); rintro e w2 ⟨rfl, st1⟩)))
  go_wp2
  go_region_held3 (fun w' => w'.cell? ⟨w.heap.size, 0, none⟩ = some (.int .i64 k) ∧ w'.cell? ⟨w.heap.size, 1, none⟩ = some (.int .i64 id) ∧ w'.cell? ⟨w.heap.size, 2, none⟩ = some (.int .i64 tx) ∧ w'.cell? ⟨w.heap.size, 3, none⟩ = some (.string body)) (first | exact CE.out _ _ _ (by assumption) | exact CE.out _ _ _ (LSt.drew (by assumption)))
    ((first
      | (go_at_call 123; (with_reducible refine (L6.out _ _ (by first | assumption | exact LSt.drew (by assumption))).mono ?_); rintro e w3 ⟨rfl, st2⟩)
      | (go_at_call 123; (with_reducible refine (L8.out _ _ (by first | assumption | exact LSt.drew (by assumption))).mono ?_); rintro e w3 ⟨rfl, st2⟩)
      | (go_at_call 91; (with_reducible refine (L7.out _ _ _ (by first | assumption | exact LSt.drew (by assumption))).mono ?_); rintro e w3 ⟨rfl, st2⟩)))
  all_goals
    go_wp2_with (go_at_call 124; (with_reducible refine (L9.out _ _ (by assumption)).mono ?_); rintro e w4 ⟨rfl, hb4⟩)
    go_region_held3 (fun _ => True) (trivial) (first | (go_at_call 125; (with_reducible refine (HSe _).out.mono ?_); rintro e w5 ⟨rfl, hb5⟩))
    go_wp2
    go_ret2
    rw [HE.out]
    exact ⟨rfl, thenBelow hb4 (((Below.refl _ _).drew).trans hb5)⟩

end Go.Proofs.YtbkngnjkaledlaaGreat.P5
