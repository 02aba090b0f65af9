/-
  P501, P502: every page's sector, every bytes' page, or the reason: the walk of the statement PageTells.
-/
import Derived.Test.YtcoaabplhkmpfaaLawBack5
namespace Go.Proofs.Ytcoaabplhkmpfaa.P5
open Go Go.RowKit Go.Lib Go.Proofs.Ytcoaabplhkmpfaa.P0 Go.Proofs.Ytcoaabplhkmpfaa.P2

/-- pages in blocks -/
def PS (w0 w : World) (l : List (Nat × Pg)) : Prop := Below w0.heap.size w0 w ∧ ∀ x ∈ l, w.heap[x.1]? = some (.cells x.2.cells 23 (0, 0))
theorem PS.over {w0 w w' : World} {l : List (Nat × Pg)} (h : PS w0 w l) (k : Below w.heap.size w w') : PS w0 w' l := ⟨thenBelow h.1 k, fun x hx => kept_cells (h.2 x hx) k⟩
theorem PS.overD {w0 w w' : World} {n : Nat} {l : List (Nat × Pg)} (h : PS w0 w l) (k : Below (w.drewN n).heap.size (w.drewN n) w') : PS w0 w' l := h.over ⟨k.os, k.tape, k.output, k.size, k.block⟩
theorem PS.new {w0 w : World} {l : List (Nat × Pg)} (h : PS w0 w l) (p : Pg) : PS w0 (w.alloc (.cells p.cells 23)) ((w.heap.size, p) :: l) :=
  ⟨P0.grow h.1 _, fun x hx => by
    rcases List.mem_cons.1 hx with rfl | hx
    · exact new_page w _
    · exact kept_cells (h.2 x hx) (below_new w _)⟩
theorem PS.start (w : World) (p : Pg) : PS w (w.alloc (.cells p.cells 23)) [(w.heap.size, p)] := (show PS w w [] from ⟨Below.refl _ _, fun x hx => by simp at hx⟩).new p
theorem PS.at {w0 w : World} {l : List (Nat × Pg)} (h : PS w0 w l) {a : Nat} {p : Pg} (hm : (a, p) ∈ l) : PCells w a p := Pg.pcells (h.2 _ hm)

theorem tells_skip (w : World) (p : Pg) (b : ByteArray) (own : Bool) (h : ¬ (p.body.size ≤ 1000 ∧ b.size ≤ 1000)) :
    Calls Try.prog 3 #[p.v, .string b, .bool own] w fun r w' => r = .returned (.bool true) ∧ Below w.heap.size w w' := by
  have K := fun w' => Lib.hid (alive_any5 w')
  have hB : Hid (Below w.heap.size w (w.alloc (.cells p.cells 23))) := below_new w _
  unfold Pg.v Pg.cells at *
  by_cases h1 : p.body.size ≤ 1000
  · have k1 : decide ((1000 : Int) < (p.body.size : Int)) = false := decide_eq_false (by omega)
    have k1' : decide (1000 < p.body.size) = false := decide_eq_false (by omega)
    have k2 : decide ((1000 : Int) < (b.size : Int)) = true := decide_eq_true (by omega)
    have k2' : decide (1000 < b.size) = true := decide_eq_true (by omega)
    clear h h1
    go_enter Try.func3, Try.ntmps3
    go_wp2_with (go_at_call 7; (with_reducible refine (K _).out.mono ?_); rintro e w1 ⟨rfl, hb⟩)
    go_ret
    exact ⟨rfl, thenBelow hB.out hb⟩
  · have k1 : decide ((1000 : Int) < (p.body.size : Int)) = true := decide_eq_true (by omega)
    have k1' : decide (1000 < p.body.size) = true := decide_eq_true (by omega)
    clear h h1
    go_enter Try.func3, Try.ntmps3
    go_wp2_with (go_at_call 7; (with_reducible refine (K _).out.mono ?_); rintro e w1 ⟨rfl, hb⟩)
    go_ret
    exact ⟨rfl, thenBelow hB.out hb⟩

theorem byte_at (b : ByteArray) (h : 0 < b.size) : IntKind.i64.wrap (((b[0]'h).toNat : Nat) : Int) = (kOf b.data.toList : Int) := by
  have hk : (b[0]'h).toNat = kOf b.data.toList := by
    unfold kOf
    rw [List.getD_eq_getElem?_getD, List.getElem?_eq_getElem (by rw [text_len]; omega)]
    rfl
  have := (b[0]'h).toNat_lt
  rw [hk] at this
  rw [hk, IntKind.wrap_i64]
  omega
theorem num_id (b : ByteArray) : IntKind.i64.wrap ((num (b.extract 2 4).data.toList : Nat) : Int) = idOf b.data.toList := by
  rw [show (b.extract 2 4).data.toList = (b.data.toList.drop 2).take 2 from Lib.extract_data ..]
  exact wrap_is _
theorem num_tx (b : ByteArray) : IntKind.i64.wrap ((num (b.extract 8 16).data.toList : Nat) : Int) = txOf b.data.toList := by
  rw [show (b.extract 8 16).data.toList = (b.data.toList.drop 8).take 8 from Lib.extract_data ..]
  exact wrap_is _

/-- a sector that is right but for some bytes -/
def ownB (b : ByteArray) : ByteArray := sealOf ((b ++ zer (256 - b.size)).extract 0 248) ++ (b ++ zer (256 - b.size)).extract 4 8
theorem ownB_size (b : ByteArray) : (ownB b).size = 256 := by
  have z1 : (b ++ zer (256 - b.size)).size = b.size + (256 - b.size) := by rw [size_app, zer_size]
  rw [ownB, size_app, seal_size, ByteArray.size_extract, ByteArray.size_extract]
  omega
set_option maxRecDepth 100000 in
set_option maxHeartbeats 8000000 in
theorem tells_ok_short (w : World) (p : Pg) (b : ByteArray) (h1 : p.body.size ≤ 1000) (h2 : b.size ≤ 1000) (hp : p.ok) (hs : b.size < 16) :
    Calls Try.prog 3 #[p.v, .string b, .bool false] w fun r w' => r = .returned (.bool true) ∧ Below w.heap.size w w' := by
  have K := fun w' => Lib.hid (alive_any5 w')
  have k1 : decide ((1000 : Int) < (p.body.size : Int)) = false := decide_eq_false (by omega)
  have k1' : decide (1000 < p.body.size) = false := decide_eq_false (by omega)
  have k2 : decide ((1000 : Int) < (b.size : Int)) = false := decide_eq_false (by omega)
  have k2' : decide (1000 < b.size) = false := decide_eq_false (by omega)
  have hm : b.size ≤ 1000 := h2
  have L1 := fun W => Lib.hid (lay_ok W p hp)
  have R1 := fun W => Lib.hid (read_any W b)
  have R2 := fun W => Lib.hid (rread_any W b)
  have V1 := fun W => Lib.hid (rValid_any W p)
  have V2 := fun W => Lib.hid (valid_any W p)
  rw [decide_eq_true hp] at V1 V2
  have P1 := fun W => Lib.hid (rLay_ok W p hp)
  have eS := same_true (rfl : p.sector = p.sector)
  have F1 := fun W => Lib.hid (front_short W b hs)
  have g1 : decide ((b.size : Int) < 16) = true := decide_eq_true (by omega)
  have E1 := fun W : World => page_eql W (readP b) (readP b)
  rw [Pg.same_self] at E1
  have HST := Lib.hid (PS.start w p)
  generalize hP : readP b = P at *
  generalize hE : readE b = E at *
  generalize p.sector = S at *
  have CA := Lib.hid (show ∀ W l a q, PS w W l → (a, q) ∈ l → PCells W a q from fun W l a q hW hm => hW.at hm)
  have CB := Lib.hid (show ∀ W l, PS w W l → Below w.heap.size w W from fun W l hW => hW.1)
  have CN := Lib.hid (show ∀ W l, PS w W l → ∀ q : Pg, PS w (W.alloc (.cells q.cells 23)) ((W.heap.size, q) :: l) from fun W l hW q => hW.new q)
  unfold PCells at CA
  unfold Pg.v at *
  unfold Pg.cells at HST CN
  clear h1 h2 hp hP hE
  go_enter Try.func3, Try.ntmps3
  go_wp2_with (first
    | (go_at_call 7; (with_reducible refine (K _).out.mono ?_); rintro e w1 ⟨rfl, hb⟩; have s1 := HST.out.over hb; obtain ⟨a0, a1, a2, a3⟩ := CA.out _ _ w.heap.size p s1 (by simp))
    | (go_at_call 10; (with_reducible refine (L1 _).out.mono ?_); rintro e w2 ⟨rfl, hb⟩; have s2 := s1.over hb)
    | (go_at_call 11; (with_reducible refine (R1 _).out.mono ?_); rintro e w3 ⟨rfl, hb⟩; have s3 := CN.out _ _ (s2.over hb) P)
    | (go_at_call 12; (with_reducible refine (R2 _).out.mono ?_); rintro e w4 ⟨rfl, hb⟩; have s4 := CN.out _ _ (s3.over hb) P; obtain ⟨a0, a1, a2, a3⟩ := CA.out _ _ w.heap.size p s4 (by simp))
    | (go_at_call 13; (with_reducible refine (V1 _).out.mono ?_); rintro e w5 ⟨rfl, hb⟩; have s5 := s4.over hb; obtain ⟨a0, a1, a2, a3⟩ := CA.out _ _ w.heap.size p s5 (by simp))
    | (go_at_call 14; (with_reducible refine (V2 _).out.mono ?_); rintro e w6 ⟨rfl, hb⟩; have s6 := s5.over hb; obtain ⟨a0, a1, a2, a3⟩ := CA.out _ _ w.heap.size p s6 (by simp))
    | (go_at_call 15; (with_reducible refine (P1 _).out.mono ?_); rintro e w7 ⟨rfl, hb⟩; have s7 := s6.over hb)
    | (go_at_call 16; (with_reducible refine (F1 _).out.mono ?_); rintro e w8 ⟨rfl, hb⟩; have s8 := s7.over hb; obtain ⟨c0, c1, c2, c3⟩ := CA.out _ _ w3.heap.size P s8 (by simp); obtain ⟨d0, d1, d2, d3⟩ := CA.out _ _ w4.heap.size P s8 (by simp)))
  go_ret
  exact ⟨rfl, CB.out _ _ s8⟩

set_option maxRecDepth 100000 in
set_option maxHeartbeats 8000000 in
theorem tells_ok_long (w : World) (p : Pg) (b : ByteArray) (h1 : p.body.size ≤ 1000) (h2 : b.size ≤ 1000) (hp : p.ok) (hs : 16 ≤ b.size) :
    Calls Try.prog 3 #[p.v, .string b, .bool false] w fun r w' => r = .returned (.bool true) ∧ Below w.heap.size w w' := by
  have K := fun w' => Lib.hid (alive_any5 w')
  have k1 : decide ((1000 : Int) < (p.body.size : Int)) = false := decide_eq_false (by omega)
  have k1' : decide (1000 < p.body.size) = false := decide_eq_false (by omega)
  have k2 : decide ((1000 : Int) < (b.size : Int)) = false := decide_eq_false (by omega)
  have k2' : decide (1000 < b.size) = false := decide_eq_false (by omega)
  have hm : b.size ≤ 1000 := h2
  have L1 := fun W => Lib.hid (lay_ok W p hp)
  have R1 := fun W => Lib.hid (read_any W b)
  have R2 := fun W => Lib.hid (rread_any W b)
  have V1 := fun W => Lib.hid (rValid_any W p)
  have V2 := fun W => Lib.hid (valid_any W p)
  rw [decide_eq_true hp] at V1 V2
  have P1 := fun W => Lib.hid (rLay_ok W p hp)
  have eS := same_true (rfl : p.sector = p.sector)
  have F1 := fun W => Lib.hid (front_any W b hs (by omega))
  have g1 : decide ((b.size : Int) < 16) = false := decide_eq_false (by omega)
  have g2 : 0 < b.size := by omega
  have g3 := byte_at b g2
  have N1 := fun W => Lib.hid (rNum_any W (b.extract 2 4) (by rw [ByteArray.size_extract]; omega))
  have N2 := fun W => Lib.hid (rNum_any W (b.extract 8 16) (by rw [ByteArray.size_extract]; omega))
  have t1 := num_id b
  have t2 := num_tx b
  have g4 : (4 : Int) ≤ (b.size : Int) := by omega
  have g5 : (16 : Int) ≤ (b.size : Int) := by omega
  have E1 := fun W : World => page_eql W (readP b) (readP b)
  rw [Pg.same_self] at E1
  have HST := Lib.hid (PS.start w p)
  generalize hP : readP b = P at *
  generalize hE : readE b = E at *
  generalize p.sector = S at *
  have CA := Lib.hid (show ∀ W l a q, PS w W l → (a, q) ∈ l → PCells W a q from fun W l a q hW hm => hW.at hm)
  have CB := Lib.hid (show ∀ W l, PS w W l → Below w.heap.size w W from fun W l hW => hW.1)
  have CN := Lib.hid (show ∀ W l, PS w W l → ∀ q : Pg, PS w (W.alloc (.cells q.cells 23)) ((W.heap.size, q) :: l) from fun W l hW q => hW.new q)
  unfold PCells at CA
  unfold Pg.v at *
  unfold Pg.cells at HST CN
  unfold idOf txOf at *
  clear h1 h2 hp hP hE
  go_enter Try.func3, Try.ntmps3
  go_wp2_with (first
    | (go_at_call 7; (with_reducible refine (K _).out.mono ?_); rintro e w1 ⟨rfl, hb⟩; have s1 := HST.out.over hb; obtain ⟨a0, a1, a2, a3⟩ := CA.out _ _ w.heap.size p s1 (by simp))
    | (go_at_call 10; (with_reducible refine (L1 _).out.mono ?_); rintro e w2 ⟨rfl, hb⟩; have s2 := s1.over hb)
    | (go_at_call 11; (with_reducible refine (R1 _).out.mono ?_); rintro e w3 ⟨rfl, hb⟩; have s3 := CN.out _ _ (s2.over hb) P)
    | (go_at_call 12; (with_reducible refine (R2 _).out.mono ?_); rintro e w4 ⟨rfl, hb⟩; have s4 := CN.out _ _ (s3.over hb) P; obtain ⟨a0, a1, a2, a3⟩ := CA.out _ _ w.heap.size p s4 (by simp))
    | (go_at_call 13; (with_reducible refine (V1 _).out.mono ?_); rintro e w5 ⟨rfl, hb⟩; have s5 := s4.over hb; obtain ⟨a0, a1, a2, a3⟩ := CA.out _ _ w.heap.size p s5 (by simp))
    | (go_at_call 14; (with_reducible refine (V2 _).out.mono ?_); rintro e w6 ⟨rfl, hb⟩; have s6 := s5.over hb; obtain ⟨a0, a1, a2, a3⟩ := CA.out _ _ w.heap.size p s6 (by simp))
    | (go_at_call 15; (with_reducible refine (P1 _).out.mono ?_); rintro e w7 ⟨rfl, hb⟩; have s7 := s6.over hb)
    | (go_at_call 16; (with_reducible refine (F1 _).out.mono ?_); rintro e w8 ⟨rfl, hb⟩; have s8 := s7.over hb; obtain ⟨c0, c1, c2, c3⟩ := CA.out _ _ w3.heap.size P s8 (by simp); obtain ⟨d0, d1, d2, d3⟩ := CA.out _ _ w4.heap.size P s8 (by simp))
    | (go_at_call 17; (with_reducible refine (N1 _).out.mono ?_); rintro e w9 ⟨rfl, rfl⟩)
    | (go_at_call 17; (with_reducible refine (N2 _).out.mono ?_); rintro e w9 ⟨rfl, rfl⟩))
  go_ret
  exact ⟨rfl, CB.out _ _ s8⟩

set_option maxRecDepth 100000 in
set_option maxHeartbeats 8000000 in
theorem tells_bad_short (w : World) (p : Pg) (b : ByteArray) (h1 : p.body.size ≤ 1000) (h2 : b.size ≤ 1000) (hp : ¬ p.ok) (hs : b.size < 16) :
    Calls Try.prog 3 #[p.v, .string b, .bool false] w fun r w' => r = .returned (.bool true) ∧ Below w.heap.size w w' := by
  have K := fun w' => Lib.hid (alive_any5 w')
  have k1 : decide ((1000 : Int) < (p.body.size : Int)) = false := decide_eq_false (by omega)
  have k1' : decide (1000 < p.body.size) = false := decide_eq_false (by omega)
  have k2 : decide ((1000 : Int) < (b.size : Int)) = false := decide_eq_false (by omega)
  have k2' : decide (1000 < b.size) = false := decide_eq_false (by omega)
  have hm : b.size ≤ 1000 := h2
  have L1 := fun W => Lib.hid (lay_bad W p hp)
  have R1 := fun W => Lib.hid (read_any W b)
  have R2 := fun W => Lib.hid (rread_any W b)
  have V1 := fun W => Lib.hid (rValid_any W p)
  have V2 := fun W => Lib.hid (valid_any W p)
  rw [decide_eq_false hp] at V1 V2
  have ce : ((⟨#[]⟩ : ByteArray).toList == (⟨#[]⟩ : ByteArray).toList) = true := by kernel_rfl
  have F1 := fun W => Lib.hid (front_short W b hs)
  have g1 : decide ((b.size : Int) < 16) = true := decide_eq_true (by omega)
  have E1 := fun W : World => page_eql W (readP b) (readP b)
  rw [Pg.same_self] at E1
  have HST := Lib.hid (PS.start w p)
  generalize hP : readP b = P at *
  generalize hE : readE b = E at *
  have CA := Lib.hid (show ∀ W l a q, PS w W l → (a, q) ∈ l → PCells W a q from fun W l a q hW hm => hW.at hm)
  have CB := Lib.hid (show ∀ W l, PS w W l → Below w.heap.size w W from fun W l hW => hW.1)
  have CN := Lib.hid (show ∀ W l, PS w W l → ∀ q : Pg, PS w (W.alloc (.cells q.cells 23)) ((W.heap.size, q) :: l) from fun W l hW q => hW.new q)
  unfold PCells at CA
  unfold Pg.v at *
  unfold Pg.cells at HST CN
  clear h1 h2 hp hP hE
  go_enter Try.func3, Try.ntmps3
  go_wp2_with (first
    | (go_at_call 7; (with_reducible refine (K _).out.mono ?_); rintro e w1 ⟨rfl, hb⟩; have s1 := HST.out.over hb; obtain ⟨a0, a1, a2, a3⟩ := CA.out _ _ w.heap.size p s1 (by simp))
    | (go_at_call 10; (with_reducible refine (L1 _).out.mono ?_); rintro e w2 ⟨rfl, hb⟩; have s2 := s1.over hb)
    | (go_at_call 11; (with_reducible refine (R1 _).out.mono ?_); rintro e w3 ⟨rfl, hb⟩; have s3 := CN.out _ _ (s2.over hb) P)
    | (go_at_call 12; (with_reducible refine (R2 _).out.mono ?_); rintro e w4 ⟨rfl, hb⟩; have s4 := CN.out _ _ (s3.over hb) P; obtain ⟨a0, a1, a2, a3⟩ := CA.out _ _ w.heap.size p s4 (by simp))
    | (go_at_call 13; (with_reducible refine (V1 _).out.mono ?_); rintro e w5 ⟨rfl, hb⟩; have s5 := s4.over hb; obtain ⟨a0, a1, a2, a3⟩ := CA.out _ _ w.heap.size p s5 (by simp))
    | (go_at_call 14; (with_reducible refine (V2 _).out.mono ?_); rintro e w6 ⟨rfl, hb⟩; have s6 := s5.over hb; obtain ⟨a0, a1, a2, a3⟩ := CA.out _ _ w.heap.size p s6 (by simp))
    | (go_at_call 16; (with_reducible refine (F1 _).out.mono ?_); rintro e w8 ⟨rfl, hb⟩; have s8 := s6.over hb; obtain ⟨c0, c1, c2, c3⟩ := CA.out _ _ w3.heap.size P s8 (by simp); obtain ⟨d0, d1, d2, d3⟩ := CA.out _ _ w4.heap.size P s8 (by simp)))
  go_ret
  exact ⟨rfl, CB.out _ _ s8⟩

set_option maxRecDepth 100000 in
set_option maxHeartbeats 8000000 in
theorem tells_bad_long (w : World) (p : Pg) (b : ByteArray) (h1 : p.body.size ≤ 1000) (h2 : b.size ≤ 1000) (hp : ¬ p.ok) (hs : 16 ≤ b.size) :
    Calls Try.prog 3 #[p.v, .string b, .bool false] w fun r w' => r = .returned (.bool true) ∧ Below w.heap.size w w' := by
  have K := fun w' => Lib.hid (alive_any5 w')
  have k1 : decide ((1000 : Int) < (p.body.size : Int)) = false := decide_eq_false (by omega)
  have k1' : decide (1000 < p.body.size) = false := decide_eq_false (by omega)
  have k2 : decide ((1000 : Int) < (b.size : Int)) = false := decide_eq_false (by omega)
  have k2' : decide (1000 < b.size) = false := decide_eq_false (by omega)
  have hm : b.size ≤ 1000 := h2
  have L1 := fun W => Lib.hid (lay_bad W p hp)
  have R1 := fun W => Lib.hid (read_any W b)
  have R2 := fun W => Lib.hid (rread_any W b)
  have V1 := fun W => Lib.hid (rValid_any W p)
  have V2 := fun W => Lib.hid (valid_any W p)
  rw [decide_eq_false hp] at V1 V2
  have ce : ((⟨#[]⟩ : ByteArray).toList == (⟨#[]⟩ : ByteArray).toList) = true := by kernel_rfl
  have F1 := fun W => Lib.hid (front_any W b hs (by omega))
  have g1 : decide ((b.size : Int) < 16) = false := decide_eq_false (by omega)
  have g2 : 0 < b.size := by omega
  have g3 := byte_at b g2
  have N1 := fun W => Lib.hid (rNum_any W (b.extract 2 4) (by rw [ByteArray.size_extract]; omega))
  have N2 := fun W => Lib.hid (rNum_any W (b.extract 8 16) (by rw [ByteArray.size_extract]; omega))
  have t1 := num_id b
  have t2 := num_tx b
  have g4 : (4 : Int) ≤ (b.size : Int) := by omega
  have g5 : (16 : Int) ≤ (b.size : Int) := by omega
  have E1 := fun W : World => page_eql W (readP b) (readP b)
  rw [Pg.same_self] at E1
  have HST := Lib.hid (PS.start w p)
  generalize hP : readP b = P at *
  generalize hE : readE b = E at *
  have CA := Lib.hid (show ∀ W l a q, PS w W l → (a, q) ∈ l → PCells W a q from fun W l a q hW hm => hW.at hm)
  have CB := Lib.hid (show ∀ W l, PS w W l → Below w.heap.size w W from fun W l hW => hW.1)
  have CN := Lib.hid (show ∀ W l, PS w W l → ∀ q : Pg, PS w (W.alloc (.cells q.cells 23)) ((W.heap.size, q) :: l) from fun W l hW q => hW.new q)
  unfold PCells at CA
  unfold Pg.v at *
  unfold Pg.cells at HST CN
  unfold idOf txOf at *
  clear h1 h2 hp hP hE
  go_enter Try.func3, Try.ntmps3
  go_wp2_with (first
    | (go_at_call 7; (with_reducible refine (K _).out.mono ?_); rintro e w1 ⟨rfl, hb⟩; have s1 := HST.out.over hb; obtain ⟨a0, a1, a2, a3⟩ := CA.out _ _ w.heap.size p s1 (by simp))
    | (go_at_call 10; (with_reducible refine (L1 _).out.mono ?_); rintro e w2 ⟨rfl, hb⟩; have s2 := s1.over hb)
    | (go_at_call 11; (with_reducible refine (R1 _).out.mono ?_); rintro e w3 ⟨rfl, hb⟩; have s3 := CN.out _ _ (s2.over hb) P)
    | (go_at_call 12; (with_reducible refine (R2 _).out.mono ?_); rintro e w4 ⟨rfl, hb⟩; have s4 := CN.out _ _ (s3.over hb) P; obtain ⟨a0, a1, a2, a3⟩ := CA.out _ _ w.heap.size p s4 (by simp))
    | (go_at_call 13; (with_reducible refine (V1 _).out.mono ?_); rintro e w5 ⟨rfl, hb⟩; have s5 := s4.over hb; obtain ⟨a0, a1, a2, a3⟩ := CA.out _ _ w.heap.size p s5 (by simp))
    | (go_at_call 14; (with_reducible refine (V2 _).out.mono ?_); rintro e w6 ⟨rfl, hb⟩; have s6 := s5.over hb; obtain ⟨a0, a1, a2, a3⟩ := CA.out _ _ w.heap.size p s6 (by simp))
    | (go_at_call 16; (with_reducible refine (F1 _).out.mono ?_); rintro e w8 ⟨rfl, hb⟩; have s8 := s6.over hb; obtain ⟨c0, c1, c2, c3⟩ := CA.out _ _ w3.heap.size P s8 (by simp); obtain ⟨d0, d1, d2, d3⟩ := CA.out _ _ w4.heap.size P s8 (by simp))
    | (go_at_call 17; (with_reducible refine (N1 _).out.mono ?_); rintro e w9 ⟨rfl, rfl⟩)
    | (go_at_call 17; (with_reducible refine (N2 _).out.mono ?_); rintro e w9 ⟨rfl, rfl⟩))
  go_ret
  exact ⟨rfl, CB.out _ _ s8⟩

set_option maxRecDepth 100000 in
set_option maxHeartbeats 8000000 in
theorem tells_ok_own (w : World) (p : Pg) (b : ByteArray) (h1 : p.body.size ≤ 1000) (h2 : b.size ≤ 1000) (hp : p.ok) :
    Calls Try.prog 3 #[p.v, .string b, .bool true] w fun r w' => r = .returned (.bool true) ∧ Below w.heap.size w w' := by
  have K := fun w' => Lib.hid (alive_any5 w')
  have k1 : decide ((1000 : Int) < (p.body.size : Int)) = false := decide_eq_false (by omega)
  have k1' : decide (1000 < p.body.size) = false := decide_eq_false (by omega)
  have k2 : decide ((1000 : Int) < (b.size : Int)) = false := decide_eq_false (by omega)
  have k2' : decide (1000 < b.size) = false := decide_eq_false (by omega)
  have hz := ownB_size b
  have Z1 := fun W => Lib.hid (show Calls Try.prog 8 #[.int .i64 (max (256 - (b.size : Int)) 0)] W fun r w' => r = .returned (.string (zer (256 - b.size))) ∧ Below W.heap.size W w' from by
    rw [show max (256 - (b.size : Int)) 0 = ((256 - b.size : Nat) : Int) by omega]
    exact rZeros_any W (256 - b.size) (by omega))
  have Z2 := fun W => Lib.hid (rSeal_any W ((b ++ zer (256 - b.size)).extract 0 248) (by rw [ByteArray.size_extract]; omega))
  have z0 := zer_size (256 - b.size)
  have z1 : (b ++ zer (256 - b.size)).size = b.size + (256 - b.size) := by rw [size_app, z0]
  have v1 : ¬ 9223372036854775807 < b.size + (256 - b.size) := by omega
  have v1' : ¬ 9223372036854775807 < b.size + (zer (256 - b.size)).size := by omega
  have v2 : (248 : Int) ≤ ((b ++ zer (256 - b.size)).size : Int) := by omega
  have v3 : (8 : Int) ≤ ((b ++ zer (256 - b.size)).size : Int) := by omega
  have z2 : (sealOf ((b ++ zer (256 - b.size)).extract 0 248)).size = 252 := by rw [seal_size, ByteArray.size_extract]; omega
  have v5 : ¬ 9223372036854775807 < 252 + (min 8 (b ++ zer (256 - b.size)).size - 4) := by omega
  have v6 : ¬ 9223372036854775807 < (sealOf ((b ++ zer (256 - b.size)).extract 0 248)).size + ((b ++ zer (256 - b.size)).extract 4 8).size := by rw [ByteArray.size_extract]; omega
  have HO : Hid (sealOf ((b ++ zer (256 - b.size)).extract 0 248) ++ (b ++ zer (256 - b.size)).extract 4 8 = ownB b) := rfl
  generalize ownB b = B at *
  have hs : 16 ≤ B.size := by omega
  have hm : B.size ≤ 1000 := by omega
  have L1 := fun W => Lib.hid (lay_ok W p hp)
  have R1 := fun W => Lib.hid (read_any W B)
  have R2 := fun W => Lib.hid (rread_any W B)
  have V1 := fun W => Lib.hid (rValid_any W p)
  have V2 := fun W => Lib.hid (valid_any W p)
  rw [decide_eq_true hp] at V1 V2
  have P1 := fun W => Lib.hid (rLay_ok W p hp)
  have eS := same_true (rfl : p.sector = p.sector)
  have F1 := fun W => Lib.hid (front_any W B hs (by omega))
  have g1 : decide ((B.size : Int) < 16) = false := decide_eq_false (by omega)
  have g2 : 0 < B.size := by omega
  have g3 := byte_at B g2
  have N1 := fun W => Lib.hid (rNum_any W (B.extract 2 4) (by rw [ByteArray.size_extract]; omega))
  have N2 := fun W => Lib.hid (rNum_any W (B.extract 8 16) (by rw [ByteArray.size_extract]; omega))
  have t1 := num_id B
  have t2 := num_tx B
  have g4 : (4 : Int) ≤ (B.size : Int) := by omega
  have g5 : (16 : Int) ≤ (B.size : Int) := by omega
  have E1 := fun W : World => page_eql W (readP B) (readP B)
  rw [Pg.same_self] at E1
  have HST := Lib.hid (PS.start w p)
  generalize hP : readP B = P at *
  generalize hE : readE B = E at *
  generalize p.sector = S at *
  have CA := Lib.hid (show ∀ W l a q, PS w W l → (a, q) ∈ l → PCells W a q from fun W l a q hW hm => hW.at hm)
  have CB := Lib.hid (show ∀ W l, PS w W l → Below w.heap.size w W from fun W l hW => hW.1)
  have CN := Lib.hid (show ∀ W l, PS w W l → ∀ q : Pg, PS w (W.alloc (.cells q.cells 23)) ((W.heap.size, q) :: l) from fun W l hW q => hW.new q)
  unfold PCells at CA
  unfold Pg.v at *
  unfold Pg.cells at HST CN
  unfold idOf txOf at *
  clear h1 h2 hp hP hE
  go_enter Try.func3, Try.ntmps3
  go_wp2_with (first
    | (go_at_call 7; (with_reducible refine (K _).out.mono ?_); rintro e w1 ⟨rfl, hb⟩; have s1 := HST.out.over hb; obtain ⟨a0, a1, a2, a3⟩ := CA.out _ _ w.heap.size p s1 (by simp))
    | (go_at_call 8; (with_reducible refine (Z1 _).out.mono ?_); rintro e w2 ⟨rfl, hb⟩; have s1 := s1.over hb))
  generalize hC : b ++ zer (256 - b.size) = C at *
  generalize sealOf (C.extract 0 248) = G at *
  clear hC z1 v1 v1' z0 Z1
  go_region_held3 (fun _ => True) (trivial) (first | (go_at_call 9; (with_reducible refine (Z2 _).out.mono ?_); rintro e w2 ⟨rfl, hb⟩; have s1 := s1.overD (n := 1) hb; obtain ⟨a0, a1, a2, a3⟩ := CA.out _ _ w.heap.size p s1 (by simp)))
  rw [HO.out]
  go_wp2_with (first
    | (go_at_call 10; (with_reducible refine (L1 _).out.mono ?_); rintro e w2 ⟨rfl, hb⟩; have s2 := s1.over hb)
    | (go_at_call 11; (with_reducible refine (R1 _).out.mono ?_); rintro e w3 ⟨rfl, hb⟩; have s3 := CN.out _ _ (s2.over hb) P)
    | (go_at_call 12; (with_reducible refine (R2 _).out.mono ?_); rintro e w4 ⟨rfl, hb⟩; have s4 := CN.out _ _ (s3.over hb) P; obtain ⟨a0, a1, a2, a3⟩ := CA.out _ _ w.heap.size p s4 (by simp))
    | (go_at_call 13; (with_reducible refine (V1 _).out.mono ?_); rintro e w5 ⟨rfl, hb⟩; have s5 := s4.over hb; obtain ⟨a0, a1, a2, a3⟩ := CA.out _ _ w.heap.size p s5 (by simp))
    | (go_at_call 14; (with_reducible refine (V2 _).out.mono ?_); rintro e w6 ⟨rfl, hb⟩; have s6 := s5.over hb; obtain ⟨a0, a1, a2, a3⟩ := CA.out _ _ w.heap.size p s6 (by simp))
    | (go_at_call 15; (with_reducible refine (P1 _).out.mono ?_); rintro e w7 ⟨rfl, hb⟩; have s7 := s6.over hb)
    | (go_at_call 16; (with_reducible refine (F1 _).out.mono ?_); rintro e w8 ⟨rfl, hb⟩; have s8 := s7.over hb; obtain ⟨c0, c1, c2, c3⟩ := CA.out _ _ w3.heap.size P s8 (by simp); obtain ⟨d0, d1, d2, d3⟩ := CA.out _ _ w4.heap.size P s8 (by simp))
    | (go_at_call 17; (with_reducible refine (N1 _).out.mono ?_); rintro e w9 ⟨rfl, rfl⟩)
    | (go_at_call 17; (with_reducible refine (N2 _).out.mono ?_); rintro e w9 ⟨rfl, rfl⟩))
  go_ret
  exact ⟨rfl, CB.out _ _ s8⟩

set_option maxRecDepth 100000 in
set_option maxHeartbeats 8000000 in
theorem tells_bad_own (w : World) (p : Pg) (b : ByteArray) (h1 : p.body.size ≤ 1000) (h2 : b.size ≤ 1000) (hp : ¬ p.ok) :
    Calls Try.prog 3 #[p.v, .string b, .bool true] w fun r w' => r = .returned (.bool true) ∧ Below w.heap.size w w' := by
  have K := fun w' => Lib.hid (alive_any5 w')
  have k1 : decide ((1000 : Int) < (p.body.size : Int)) = false := decide_eq_false (by omega)
  have k1' : decide (1000 < p.body.size) = false := decide_eq_false (by omega)
  have k2 : decide ((1000 : Int) < (b.size : Int)) = false := decide_eq_false (by omega)
  have k2' : decide (1000 < b.size) = false := decide_eq_false (by omega)
  have hz := ownB_size b
  have Z1 := fun W => Lib.hid (show Calls Try.prog 8 #[.int .i64 (max (256 - (b.size : Int)) 0)] W fun r w' => r = .returned (.string (zer (256 - b.size))) ∧ Below W.heap.size W w' from by
    rw [show max (256 - (b.size : Int)) 0 = ((256 - b.size : Nat) : Int) by omega]
    exact rZeros_any W (256 - b.size) (by omega))
  have Z2 := fun W => Lib.hid (rSeal_any W ((b ++ zer (256 - b.size)).extract 0 248) (by rw [ByteArray.size_extract]; omega))
  have z0 := zer_size (256 - b.size)
  have z1 : (b ++ zer (256 - b.size)).size = b.size + (256 - b.size) := by rw [size_app, z0]
  have v1 : ¬ 9223372036854775807 < b.size + (256 - b.size) := by omega
  have v1' : ¬ 9223372036854775807 < b.size + (zer (256 - b.size)).size := by omega
  have v2 : (248 : Int) ≤ ((b ++ zer (256 - b.size)).size : Int) := by omega
  have v3 : (8 : Int) ≤ ((b ++ zer (256 - b.size)).size : Int) := by omega
  have z2 : (sealOf ((b ++ zer (256 - b.size)).extract 0 248)).size = 252 := by rw [seal_size, ByteArray.size_extract]; omega
  have v5 : ¬ 9223372036854775807 < 252 + (min 8 (b ++ zer (256 - b.size)).size - 4) := by omega
  have v6 : ¬ 9223372036854775807 < (sealOf ((b ++ zer (256 - b.size)).extract 0 248)).size + ((b ++ zer (256 - b.size)).extract 4 8).size := by rw [ByteArray.size_extract]; omega
  have HO : Hid (sealOf ((b ++ zer (256 - b.size)).extract 0 248) ++ (b ++ zer (256 - b.size)).extract 4 8 = ownB b) := rfl
  generalize ownB b = B at *
  have hs : 16 ≤ B.size := by omega
  have hm : B.size ≤ 1000 := by omega
  have L1 := fun W => Lib.hid (lay_bad W p hp)
  have R1 := fun W => Lib.hid (read_any W B)
  have R2 := fun W => Lib.hid (rread_any W B)
  have V1 := fun W => Lib.hid (rValid_any W p)
  have V2 := fun W => Lib.hid (valid_any W p)
  rw [decide_eq_false hp] at V1 V2
  have ce : ((⟨#[]⟩ : ByteArray).toList == (⟨#[]⟩ : ByteArray).toList) = true := by kernel_rfl
  have F1 := fun W => Lib.hid (front_any W B hs (by omega))
  have g1 : decide ((B.size : Int) < 16) = false := decide_eq_false (by omega)
  have g2 : 0 < B.size := by omega
  have g3 := byte_at B g2
  have N1 := fun W => Lib.hid (rNum_any W (B.extract 2 4) (by rw [ByteArray.size_extract]; omega))
  have N2 := fun W => Lib.hid (rNum_any W (B.extract 8 16) (by rw [ByteArray.size_extract]; omega))
  have t1 := num_id B
  have t2 := num_tx B
  have g4 : (4 : Int) ≤ (B.size : Int) := by omega
  have g5 : (16 : Int) ≤ (B.size : Int) := by omega
  have E1 := fun W : World => page_eql W (readP B) (readP B)
  rw [Pg.same_self] at E1
  have HST := Lib.hid (PS.start w p)
  generalize hP : readP B = P at *
  generalize hE : readE B = E at *
  have CA := Lib.hid (show ∀ W l a q, PS w W l → (a, q) ∈ l → PCells W a q from fun W l a q hW hm => hW.at hm)
  have CB := Lib.hid (show ∀ W l, PS w W l → Below w.heap.size w W from fun W l hW => hW.1)
  have CN := Lib.hid (show ∀ W l, PS w W l → ∀ q : Pg, PS w (W.alloc (.cells q.cells 23)) ((W.heap.size, q) :: l) from fun W l hW q => hW.new q)
  unfold PCells at CA
  unfold Pg.v at *
  unfold Pg.cells at HST CN
  unfold idOf txOf at *
  clear h1 h2 hp hP hE
  go_enter Try.func3, Try.ntmps3
  go_wp2_with (first
    | (go_at_call 7; (with_reducible refine (K _).out.mono ?_); rintro e w1 ⟨rfl, hb⟩; have s1 := HST.out.over hb; obtain ⟨a0, a1, a2, a3⟩ := CA.out _ _ w.heap.size p s1 (by simp))
    | (go_at_call 8; (with_reducible refine (Z1 _).out.mono ?_); rintro e w2 ⟨rfl, hb⟩; have s1 := s1.over hb))
  generalize hC : b ++ zer (256 - b.size) = C at *
  generalize sealOf (C.extract 0 248) = G at *
  clear hC z1 v1 v1' z0 Z1
  go_region_held3 (fun _ => True) (trivial) (first | (go_at_call 9; (with_reducible refine (Z2 _).out.mono ?_); rintro e w2 ⟨rfl, hb⟩; have s1 := s1.overD (n := 1) hb; obtain ⟨a0, a1, a2, a3⟩ := CA.out _ _ w.heap.size p s1 (by simp)))
  rw [HO.out]
  go_wp2_with (first
    | (go_at_call 10; (with_reducible refine (L1 _).out.mono ?_); rintro e w2 ⟨rfl, hb⟩; have s2 := s1.over hb)
    | (go_at_call 11; (with_reducible refine (R1 _).out.mono ?_); rintro e w3 ⟨rfl, hb⟩; have s3 := CN.out _ _ (s2.over hb) P)
    | (go_at_call 12; (with_reducible refine (R2 _).out.mono ?_); rintro e w4 ⟨rfl, hb⟩; have s4 := CN.out _ _ (s3.over hb) P; obtain ⟨a0, a1, a2, a3⟩ := CA.out _ _ w.heap.size p s4 (by simp))
    | (go_at_call 13; (with_reducible refine (V1 _).out.mono ?_); rintro e w5 ⟨rfl, hb⟩; have s5 := s4.over hb; obtain ⟨a0, a1, a2, a3⟩ := CA.out _ _ w.heap.size p s5 (by simp))
    | (go_at_call 14; (with_reducible refine (V2 _).out.mono ?_); rintro e w6 ⟨rfl, hb⟩; have s6 := s5.over hb; obtain ⟨a0, a1, a2, a3⟩ := CA.out _ _ w.heap.size p s6 (by simp))
    | (go_at_call 16; (with_reducible refine (F1 _).out.mono ?_); rintro e w8 ⟨rfl, hb⟩; have s8 := s6.over hb; obtain ⟨c0, c1, c2, c3⟩ := CA.out _ _ w3.heap.size P s8 (by simp); obtain ⟨d0, d1, d2, d3⟩ := CA.out _ _ w4.heap.size P s8 (by simp))
    | (go_at_call 17; (with_reducible refine (N1 _).out.mono ?_); rintro e w9 ⟨rfl, rfl⟩)
    | (go_at_call 17; (with_reducible refine (N2 _).out.mono ?_); rintro e w9 ⟨rfl, rfl⟩))
  go_ret
  exact ⟨rfl, CB.out _ _ s8⟩

theorem tells_walk (w : World) (p : Pg) (b : ByteArray) (own : Bool) :
    Calls Try.prog 3 #[p.v, .string b, .bool own] w fun r w' => r = .returned (.bool true) ∧ Below w.heap.size w w' := by
  by_cases h : p.body.size ≤ 1000 ∧ b.size ≤ 1000
  · obtain ⟨h1, h2⟩ := h
    by_cases hp : p.ok
    · cases own
      · by_cases hs : b.size < 16
        · exact tells_ok_short w p b h1 h2 hp hs
        · exact tells_ok_long w p b h1 h2 hp (by omega)
      · exact tells_ok_own w p b h1 h2 hp
    · cases own
      · by_cases hs : b.size < 16
        · exact tells_bad_short w p b h1 h2 hp hs
        · exact tells_bad_long w p b h1 h2 hp (by omega)
      · exact tells_bad_own w p b h1 h2 hp
  · exact tells_skip w p b own h

end Go.Proofs.Ytcoaabplhkmpfaa.P5
