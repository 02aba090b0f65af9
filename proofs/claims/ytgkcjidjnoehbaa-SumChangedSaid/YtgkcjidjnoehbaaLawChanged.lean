/-
  P202: a sealed text with one byte changed is refused: the walk of the statement SumChanged.
-/
import Derived.Test.YtgkcjidjnoehbaaSumD
import Derived.Lib.ConvBytes
namespace Go.Proofs.Ytgkcjidjnoehbaa.P2
open Go Go.RowKit Go.Lib Go.Proofs.Ytgkcjidjnoehbaa.P0

theorem xor_cancel {x y c : Nat} (h : x ^^^ c = y ^^^ c) : x = y := by
  have := congrArg (fun z => z ^^^ c) h
  simpa [Nat.xor_assoc] using this
theorem bit1_top {x : Nat} (h : x < 4294967296) : (bit1 x).testBit 31 = decide (x % 2 = 1) := by
  have hx : (x / 2).testBit 31 = false := Nat.testBit_lt_two_pow (by omega)
  unfold bit1
  by_cases ho : x % 2 = 1
  · rw [if_pos ho, Nat.testBit_xor, hx, decide_eq_true ho]; decide
  · rw [if_neg ho, hx, decide_eq_false ho]
theorem bit1_inj {x y : Nat} (hx : x < 4294967296) (hy : y < 4294967296) (h : bit1 x = bit1 y) : x = y := by
  have e := (bit1_top hx).symm.trans ((congrArg (fun z => Nat.testBit z 31) h).trans (bit1_top hy))
  have hp : x % 2 = 1 ↔ y % 2 = 1 := decide_eq_decide.1 e
  unfold bit1 at h
  by_cases ho : x % 2 = 1
  · rw [if_pos ho, if_pos (hp.1 ho)] at h
    have := xor_cancel h
    omega
  · rw [if_neg ho, if_neg (fun k => ho (hp.2 k))] at h
    omega
theorem bitN_inj {x y : Nat} (hx : x < 4294967296) (hy : y < 4294967296) (n : Nat) (h : bitN n x = bitN n y) : x = y := by
  induction n with
  | zero => exact h
  | succ n ih => exact ih (bit1_inj (bitN_lt hx n) (bitN_lt hy n) h)
theorem upd_inj {x y : Nat} (hx : x < 4294967296) (hy : y < 4294967296) (l : List UInt8) (h : upd x l = upd y l) : x = y := by
  induction l generalizing x y with
  | nil => exact h
  | cons c r ih => exact xor_cancel (bitN_inj (xor_byte_lt hx c) (xor_byte_lt hy c) 8 (ih (bitN_lt (xor_byte_lt hx c) 8) (bitN_lt (xor_byte_lt hy c) 8) h))
theorem upd_cons (x : Nat) (c : UInt8) (l : List UInt8) : upd x (c :: l) = upd (bitN 8 (x ^^^ c.toNat)) l := by rw [upd, upd, List.foldl_cons]
theorem xor_cancel_left {x y c : Nat} (h : c ^^^ x = c ^^^ y) : x = y := by
  rw [Nat.xor_comm c x, Nat.xor_comm c y] at h
  exact xor_cancel h
theorem upd_differs {z : Nat} (hz : z < 4294967296) {p q : List UInt8} {a b : UInt8} (h : a ≠ b) : upd z (p ++ a :: q) ≠ upd z (p ++ b :: q) := by
  intro e
  rw [upd_append, upd_append, upd_cons, upd_cons] at e
  have hp := upd_lt hz p
  generalize upd z p = y at e hp
  have e := bitN_inj (xor_byte_lt hp a) (xor_byte_lt hp b) 8 (upd_inj (bitN_lt (xor_byte_lt hp a) 8) (bitN_lt (xor_byte_lt hp b) 8) q e)
  exact h (UInt8.toNat_inj.1 (xor_cancel_left e))
theorem fin_inj {z : Nat} {a b : List UInt8} (h : 4294967295 ^^^ upd z a = 4294967295 ^^^ upd z b) : upd z a = upd z b := xor_cancel_left h
theorem crc_differs {p q : List UInt8} {a b : UInt8} (h : a ≠ b) : crc (p ++ a :: q) ≠ crc (p ++ b :: q) := fun e =>
  upd_differs (by decide) h (fin_inj e)

theorem low4_inj {x y : Nat} (hx : x < 4294967296) (hy : y < 4294967296) (h : low 4 x = low 4 y) : x = y := by
  have hl : ∀ x, low 4 x = [UInt8.ofNat x, UInt8.ofNat (x / 256), UInt8.ofNat (x / 65536), UInt8.ofNat (x / 16777216)] := fun x => by simp [low, List.range, List.range.loop]
  rw [hl, hl] at h
  simp only [List.cons.injEq, and_true] at h
  obtain ⟨h0, h1, h2, h3⟩ := h
  have e : ∀ {n m : Nat}, UInt8.ofNat n = UInt8.ofNat m → n % 256 = m % 256 := fun {n m} h => by
    have := congrArg UInt8.toNat h
    rwa [UInt8.toNat_ofNat', UInt8.toNat_ofNat'] at this
  have e0 := e h0
  have e1 := e h1
  have e2 := e h2
  have e3 := e h3
  omega
theorem set_differs {l : List UInt8} {q : Nat} (v : UInt8) (h : q < l.length) : ∃ p r, l = p ++ l[q] :: r ∧ l.set q v = p ++ v :: r := by
  refine ⟨l.take q, l.drop (q + 1), ?_, List.set_eq_take_append_cons_drop.trans (if_pos h)⟩
  rw [← List.drop_eq_getElem_cons h, List.take_append_drop]

/-- a sealed text with one byte changed is refused -/
theorem changed_no (s : ByteArray) (q : Nat) (v : UInt8) (hq : q < (sealOf s).data.toList.length) (hv : v ≠ (sealOf s).data.toList[q]) :
    openS (str ((sealOf s).data.toList.set q v)) = ⟨#[]⟩ ∧ openE (str ((sealOf s).data.toList.set q v)) = 7 := by
  have hL : (sealOf s).data.toList = s.data.toList ++ low 4 (crc s.data.toList) := by rw [sealOf, text_app, tailOf, str_list]
  generalize (sealOf s).data.toList = L at hq hv hL
  have hn := text_len s
  have hlow := low_length 4 (crc s.data.toList)
  have hlen : L.length = s.size + 4 := by rw [hL, List.length_append, hn, hlow]
  refine open_no (n := s.size) (by rw [str_size, List.length_set, hlen]) fun h => ?_
  have h1 := congrArg (fun b : ByteArray => b.data.toList) h
  simp only [sealOf, text_app, tailOf, str_list, Lib.extract_data, Nat.sub_zero, List.drop_zero] at h1
  by_cases hqn : q < s.size
  · have hq' : q < s.data.toList.length := by omega
    have hc : L.set q v = s.data.toList.set q v ++ low 4 (crc s.data.toList) := by rw [hL, List.set_append_left _ _ hq']
    have ht : (L.set q v).take s.size = s.data.toList.set q v := by rw [hc, List.take_append_of_le_length (by simp), List.take_of_length_le (by simp)]
    rw [ht, hc] at h1
    have h2 := low4_inj (crc_lt _) (crc_lt _) (List.append_cancel_left h1)
    have hv' : v ≠ s.data.toList[q] := by
      have : L[q] = s.data.toList[q] := by simp only [hL, List.getElem_append_left hq']
      rwa [this] at hv
    obtain ⟨p, r, e1, e2⟩ := set_differs v hq'
    rw [e2] at h2
    generalize s.data.toList[q] = a at e1 hv'
    rw [e1] at h2
    exact crc_differs hv' h2
  · have hq' : s.data.toList.length ≤ q := by omega
    have hc : L.set q v = s.data.toList ++ (low 4 (crc s.data.toList)).set (q - s.size) v := by rw [hL, List.set_append_right _ _ hq', hn]
    have ht : (L.set q v).take s.size = s.data.toList := by rw [hc, ← hn, List.take_left]
    rw [ht, hc] at h1
    have h2 := List.append_cancel_left h1
    have h3 : q - s.size < (low 4 (crc s.data.toList)).length := by omega
    have h4 : L[q] = (low 4 (crc s.data.toList))[q - s.size] := by
      simp only [hL, List.getElem_append_right hq', hn]
    rw [h4] at hv
    apply hv
    have : ((low 4 (crc s.data.toList)).set (q - s.size) v)[q - s.size]'(by simpa using h3) = v := by simp
    rw [← this]
    simp only [← h2]

theorem flip_code (a : UInt8) (d : Nat) : bits .xor .u8 (a.toNat : Int) ((d : Int) % 256) = ((a ^^^ UInt8.ofNat d).toNat : Int) := by
  have h := a.toNat_lt
  rw [show ((d : Int) % 256) = ((d % 256 : Nat) : Int) by omega, u8_xor_nat a.toNat (d % 256) (by omega) (by omega), UInt8.toNat_xor, UInt8.toNat_ofNat']
theorem flip_ne (a : UInt8) (d : Nat) (h : d % 256 ≠ 0) : a ^^^ UInt8.ofNat d ≠ a := by
  intro e
  have e := congrArg UInt8.toNat e
  rw [UInt8.toNat_xor, UInt8.toNat_ofNat'] at e
  have e2 : a.toNat ^^^ (d % 2 ^ 8) = a.toNat ^^^ 0 := by rw [e, Nat.xor_zero]
  rw [Nat.xor_comm, Nat.xor_comm a.toNat 0] at e2
  exact h (xor_cancel e2)

/-- what '[]byte(b)' lays, one byte of it turned, as a text -/
theorem bytes_cell (w : World) (b : ByteArray) (q : Nat) (hq : q < b.data.toList.length) : (Lib.bytesWorld w 5 b).cell? ⟨w.heap.size, q, none⟩ = some (.int .u8 (b.data.toList[q].toNat : Int)) := by
  rw [Lib.bytesWorld_cell w 5 b q (by simpa using hq), List.getD_eq_getElem?_getD, List.getElem?_eq_getElem hq]
  rfl
theorem bytes_free (w : World) (b : ByteArray) (q : Nat) (hq : q < b.data.toList.length) : (Lib.bytesWorld w 5 b).frozen? ⟨w.heap.size, q, none⟩ = false := by
  have hz : b.size ≤ (Lib.bytesCells w 5 b).size := by simp [Lib.bytesCells]
  have := text_len b
  simp [World.frozen?, Lib.bytesWorld_at_new]
  omega
theorem bytes_turned (w : World) (b : ByteArray) (q c : Nat) (v : UInt8) (hq : q < b.data.toList.length) :
    (convert 35 9 (.slice (some ⟨w.heap.size, 0, none⟩) b.size c)).run Try.prog ((Lib.bytesWorld w 5 b).setCell ⟨w.heap.size, q, none⟩ (.int .u8 (v.toNat : Int))) =
      .ok (.string (str (b.data.toList.set q v))) ((Lib.bytesWorld w 5 b).setCell ⟨w.heap.size, q, none⟩ (.int .u8 (v.toNat : Int))) := by
  have hz : b.size = (b.data.toList.set q v).length := by rw [List.length_set, text_len]
  rw [hz]
  refine run_convert_bytes_back _ 35 9 5 ⟨w.heap.size, 0, none⟩ c (b.data.toList.set q v) Try.underlying35 Try.underlying5 Try.underlying9 (fun j hj => ?_)
  rw [Go.WideShapes.add_plain, Nat.zero_add]
  have hj' : j < b.data.toList.length := by simpa using hj
  by_cases e : j = q
  · subst e
    rw [List.getElem_set_self]
    exact World.cell?_setCell_same _ _ _ (bytes_cell w b j hq)
  · rw [List.getElem_set_ne (Ne.symm e), World.cell?_setCell_other _ _ _ _ (fun h => e (by simpa using h.symm))]
    exact bytes_cell w b j hj'

theorem changed_skip (w : World) (s : ByteArray) (i d : Int) (h : ¬ (s.size ≤ 1500 ∧ 0 ≤ i ∧ d % 256 ≠ 0)) :
    Calls Try.prog 4 #[.string s, .int .i64 i, .int .i64 d] w fun r w' => r = .returned (.bool true) ∧ Below w.heap.size w w' := by
  have K := fun w' => Lib.hid (alive_any w')
  by_cases h0 : ¬ s.size ≤ 1500
  · have k0 : decide ((1500 : Int) < (s.size : Int)) = true := decide_eq_true (by omega)
    clear h
    go_enter Try.func4, Try.ntmps4
    go_wp2_with (go_at_call 8; refine (K _).out.mono ?_; rintro e w1 ⟨rfl, hb⟩)
    go_ret
    exact ⟨rfl, hb⟩
  have k0 : decide ((1500 : Int) < (s.size : Int)) = false := decide_eq_false (by omega)
  by_cases h1 : i < 0
  · have k1 : decide (i < 0) = true := decide_eq_true h1
    clear h
    go_enter Try.func4, Try.ntmps4
    go_wp2_with (go_at_call 8; refine (K _).out.mono ?_; rintro e w1 ⟨rfl, hb⟩)
    go_ret
    exact ⟨rfl, hb⟩
  have k1 : decide (i < 0) = false := decide_eq_false h1
  have k2 : ((d % 256) == 0) = true := by simp; omega
  clear h
  go_enter Try.func4, Try.ntmps4
  go_wp2_with (go_at_call 8; refine (K _).out.mono ?_; rintro e w1 ⟨rfl, hb⟩)
  go_ret
  exact ⟨rfl, hb⟩

theorem changed_in (w : World) (s : ByteArray) (i : Nat) (d : Int) (hs : s.size ≤ 1500) (hd : d % 256 ≠ 0) :
    Calls Try.prog 4 #[.string s, .int .i64 i, .int .i64 d] w fun r w' => r = .returned (.bool true) ∧ Below w.heap.size w w' := by
  have K := fun w' => Lib.hid (alive_any w')
  obtain ⟨D, hD, hD2⟩ : ∃ D : Nat, d % 256 = (D : Int) ∧ D < 256 := ⟨(d % 256).toNat, by omega, by omega⟩
  have k0 : decide ((1500 : Int) < (s.size : Int)) = false := decide_eq_false (by omega)
  have k1 : decide ((i : Int) < 0) = false := decide_eq_false (by omega)
  have k2 : ((D : Int) == 0) = false := by simp; omega
  have H1 := fun w' => Lib.hid (seal_any w' s (by omega))
  have hz := seal_size s
  obtain ⟨e1, e2⟩ := open_seal s
  have H2a := fun w' => open_any w' (sealOf s) (by omega)
  rw [e1, e2] at H2a
  have H2 := fun w' => Lib.hid (H2a w')
  have c1 := same_true (rfl : s = s)
  have z1 : (((sealOf s).size : Int) != (s.size : Int) + 4) = false := by simp; omega
  -- the byte that is turned
  obtain ⟨q, hq, hq2⟩ : ∃ q : Nat, (i : Int) % ((sealOf s).size : Int) = (q : Int) ∧ q < (sealOf s).size := ⟨i % (sealOf s).size, by omega, Nat.mod_lt _ (by omega)⟩
  have hql : q < (sealOf s).data.toList.length := by rw [text_len]; exact hq2
  have hfl := flip_ne (sealOf s).data.toList[q] D (by omega)
  obtain ⟨n1, n2⟩ := changed_no s q ((sealOf s).data.toList[q] ^^^ UInt8.ofNat D) hql hfl
  have H3a := fun w' => open_any w' (str ((sealOf s).data.toList.set q ((sealOf s).data.toList[q] ^^^ UInt8.ofNat D))) (by rw [str_size, List.length_set, text_len]; omega)
  rw [n1, n2] at H3a
  have m1 := fun w' : World => Lib.run_convert_string_bytes (P := Try.prog) w' 9 35 5 (sealOf s) Try.underlying9 Try.underlying35 Try.underlying5
  have m2 := fun w' : World => bytes_cell w' (sealOf s) q hql
  have m3 := fun w' : World => bytes_free w' (sealOf s) q hql
  have m4 := fun (w' : World) (c : Nat) => bytes_turned w' (sealOf s) q c ((sealOf s).data.toList[q] ^^^ UInt8.ofNat D) hql
  have x1 := flip_code (sealOf s).data.toList[q] D
  rw [show ((D : Int) % 256) = (D : Int) by omega] at x1
  have m5 : ∀ w' : World, Below w'.heap.size w' ((Lib.bytesWorld w' 5 (sealOf s)).setCell ⟨w'.heap.size, q, none⟩ (.int .u8 (((sealOf s).data.toList[q] ^^^ UInt8.ofNat D).toNat : Int))) := fun w' =>
    (show Below w'.heap.size w' (Lib.bytesWorld w' 5 (sealOf s)) from ⟨rfl, rfl, rfl, by rw [Lib.bytesWorld_size]; omega, fun k hk => Lib.bytesWorld_at_old w' _ _ k hk⟩).setCell (Nat.le_refl _) _
  generalize str ((sealOf s).data.toList.set q ((sealOf s).data.toList[q] ^^^ UInt8.ofNat D)) = z at H3a m4
  generalize (sealOf s).data.toList[q] ^^^ UInt8.ofNat D = y at m4 m5 x1
  generalize (sealOf s).data.toList[q] = x at m2 x1
  have i1 : (0 : Int) ≤ (q : Int) := by omega
  have i2 : (q : Int) < ((sealOf s).size : Int) := by omega
  have i3 : ((sealOf s).size : Int) ≠ 0 := by omega
  have H3 := fun w' => Lib.hid (H3a w')
  have M5 := Lib.hid m5
  generalize sealOf s = b at H1 H2 z1 m1 m2 m3 m4 M5 hq i2 i3
  have ce : ((⟨#[]⟩ : ByteArray).toList == (⟨#[]⟩ : ByteArray).toList) = true := by kernel_rfl
  clear e1 e2 n1 n2 hfl hql hq2 hz H2a H3a m5 hD2
  go_enter Try.func4, Try.ntmps4
  go_wp2_with (first
    | (go_at_call 8; refine (K _).out.mono ?_; rintro e w1 ⟨rfl, hb1⟩)
    | (go_at_call 15; refine (H1 _).out.mono ?_; rintro e w2 ⟨rfl, hb2⟩)
    | (go_at_call 10; with_reducible refine (H2 _).out.mono ?_; rintro e w3 ⟨rfl, hb3⟩; have hB := thenBelow (thenBelow hb1 hb2) hb3; have hB2 := thenBelow hB (M5.out w3))
    | (go_at_call 10; with_reducible refine (H3 _).out.mono ?_; rintro e w4 ⟨rfl, hb4⟩))
  go_ret
  exact ⟨rfl, thenBelow hB2 hb4⟩

theorem changed_walk (w : World) (s : ByteArray) (i d : Int) :
    Calls Try.prog 4 #[.string s, .int .i64 i, .int .i64 d] w fun r w' => r = .returned (.bool true) ∧ Below w.heap.size w w' := by
  by_cases h : s.size ≤ 1500 ∧ 0 ≤ i ∧ d % 256 ≠ 0
  · obtain ⟨k, rfl⟩ := Int.eq_ofNat_of_zero_le h.2.1
    exact changed_in w s k d h.1 h.2.2
  · exact changed_skip w s i d h

end Go.Proofs.Ytgkcjidjnoehbaa.P2
