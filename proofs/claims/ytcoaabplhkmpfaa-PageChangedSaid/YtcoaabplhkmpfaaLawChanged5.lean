/-
  P501: a sector in which one byte is changed is no page: the walk of the statement PageChanged.
-/
import Derived.Test.YtcoaabplhkmpfaaLawBack5
import Derived.Test.YtcoaabplhkmpfaaTurn5
namespace Go.Proofs.Ytcoaabplhkmpfaa.P5
open Go Go.RowKit Go.Lib Go.Proofs.Ytcoaabplhkmpfaa.P0 Go.Proofs.Ytcoaabplhkmpfaa.P2

theorem changed_skip (w : World) (p : Pg) (i d : Int) (h : ¬ (p.body.size ≤ 300 ∧ 0 ≤ i ∧ d % 256 ≠ 0)) :
    Calls Try.prog 5 #[p.v, .int .i64 i, .int .i64 d] w fun r w' => r = .returned (.bool true) ∧ Below w.heap.size w w' := by
  have K := fun w' => Lib.hid (alive_any5 w')
  have hB : Hid (Below w.heap.size w (w.alloc (.cells p.cells 23))) := below_new w _
  unfold Pg.v Pg.cells at *
  by_cases h0 : ¬ p.body.size ≤ 300
  · have k0 : decide ((300 : Int) < (p.body.size : Int)) = true := decide_eq_true (by omega)
    have k0' : decide (300 < p.body.size) = true := decide_eq_true (by omega)
    clear h h0
    go_enter Try.func5, Try.ntmps5
    go_wp2_with (go_at_call 7; (with_reducible refine (K _).out.mono ?_); rintro e w1 ⟨rfl, hb⟩)
    go_ret
    exact ⟨rfl, thenBelow hB.out hb⟩
  have k0 : decide ((300 : Int) < (p.body.size : Int)) = false := decide_eq_false (by omega)
  have k0' : decide (300 < p.body.size) = false := decide_eq_false (by omega)
  by_cases h1 : i < 0
  · have k1 : decide (i < 0) = true := decide_eq_true h1
    clear h h0 h1
    go_enter Try.func5, Try.ntmps5
    go_wp2_with (go_at_call 7; (with_reducible refine (K _).out.mono ?_); rintro e w1 ⟨rfl, hb⟩)
    go_ret
    exact ⟨rfl, thenBelow hB.out hb⟩
  have k1 : decide (i < 0) = false := decide_eq_false h1
  have k2 : ((d % 256) == 0) = true := by simp; omega
  clear h h0 h1
  go_enter Try.func5, Try.ntmps5
  go_wp2_with (go_at_call 7; (with_reducible refine (K _).out.mono ?_); rintro e w1 ⟨rfl, hb⟩)
  go_ret
  exact ⟨rfl, thenBelow hB.out hb⟩

theorem changed_bad (w : World) (p : Pg) (i d : Int) (h0 : p.body.size ≤ 300) (h1 : 0 ≤ i) (h2 : d % 256 ≠ 0) (hp : ¬ p.ok) :
    Calls Try.prog 5 #[p.v, .int .i64 i, .int .i64 d] w fun r w' => r = .returned (.bool true) ∧ Below w.heap.size w w' := by
  have K := fun w' => Lib.hid (alive_any5 w')
  have k0 : decide ((300 : Int) < (p.body.size : Int)) = false := decide_eq_false (by omega)
  have k0' : decide (300 < p.body.size) = false := decide_eq_false (by omega)
  have k1 : decide (i < 0) = false := decide_eq_false (by omega)
  have k2 : ((d % 256) == 0) = false := by simp; omega
  have L1 := fun W => Lib.hid (lay_bad W p hp)
  have HST := Lib.hid (RSt.start w p)
  have CA := Lib.hid (show ∀ W, RSt w w.heap.size p W → PCells W w.heap.size p from fun W hW => Pg.pcells hW.page)
  have CB := Lib.hid (show ∀ W, RSt w w.heap.size p W → Below w.heap.size w W from fun W hW => hW.below)
  have ce : ((⟨#[]⟩ : ByteArray).toList == (⟨#[]⟩ : ByteArray).toList) = true := by kernel_rfl
  unfold PCells at CA
  unfold Pg.v Pg.cells at *
  clear h0 h1 h2 hp
  go_enter Try.func5, Try.ntmps5
  go_wp2_with (first
    | (go_at_call 7; (with_reducible refine (K _).out.mono ?_); rintro e w1 ⟨rfl, hb⟩; have s1 := HST.out.over hb; obtain ⟨a0, a1, a2, a3⟩ := CA.out _ s1)
    | (go_at_call 10; (with_reducible refine (L1 _).out.mono ?_); rintro e w2 ⟨rfl, hb⟩; have s2 := s1.over hb))
  go_ret
  exact ⟨rfl, CB.out _ s2⟩

set_option maxRecDepth 100000 in
set_option maxHeartbeats 4000000 in
theorem changed_in (w : World) (p : Pg) (i : Nat) (d : Int) (h0 : p.body.size ≤ 300) (h2 : d % 256 ≠ 0) (hp : p.ok) :
    Calls Try.prog 5 #[p.v, .int .i64 i, .int .i64 d] w fun r w' => r = .returned (.bool true) ∧ Below w.heap.size w w' := by
  have K := fun w' => Lib.hid (alive_any5 w')
  obtain ⟨D, hD, hD2⟩ : ∃ D : Nat, d % 256 = (D : Int) ∧ D < 256 := ⟨(d % 256).toNat, by omega, by omega⟩
  have k0 : decide ((300 : Int) < (p.body.size : Int)) = false := decide_eq_false (by omega)
  have k0' : decide (300 < p.body.size) = false := decide_eq_false (by omega)
  have k1 : decide ((i : Int) < 0) = false := decide_eq_false (by omega)
  have k2 : ((D : Int) == 0) = false := by simp; omega
  have L1 := fun W => Lib.hid (lay_ok W p hp)
  have HST := Lib.hid (RSt.start w p)
  have CA := Lib.hid (show ∀ W, RSt w w.heap.size p W → PCells W w.heap.size p from fun W hW => Pg.pcells hW.page)
  have CB := Lib.hid (show ∀ W, RSt w w.heap.size p W → Below w.heap.size w W from fun W hW => hW.below)
  have hz := p.sector_size hp
  have hl : p.sector.data.toList = p.laid := str_list _
  -- the byte that is turned
  obtain ⟨q, hq, hq2⟩ : ∃ q : Nat, (i : Int) % 256 = (q : Int) ∧ q < 256 := ⟨i % 256, by omega, Nat.mod_lt _ (by omega)⟩
  have hql : q < p.sector.data.toList.length := by rw [text_len]; omega
  have hfl := flip_ne p.sector.data.toList[q] D (by omega)
  obtain ⟨n1, n2⟩ : readP (str (p.sector.data.toList.set q (p.sector.data.toList[q] ^^^ UInt8.ofNat D))) = Pg.zero ∧ (readE (str (p.sector.data.toList.set q (p.sector.data.toList[q] ^^^ UInt8.ofNat D))) = 6 ∨ readE (str (p.sector.data.toList.set q (p.sector.data.toList[q] ^^^ UInt8.ofNat D))) = 7) := by
    refine read_no (by rw [str_size, List.length_set, text_len, hz]) fun x hx e => ?_
    have e2 := str_inj e
    have hq3 : q < p.laid.length := by rw [← hl]; exact hql
    refine changed_none hp hx (i := q) (c := p.sector.data.toList[q] ^^^ UInt8.ofNat D) hq3 (fun k => hfl ?_) ?_
    · exact k.trans (by simp only [hl])
    · exact e2.symm.trans (congrArg (fun l => List.set l q (p.sector.data.toList[q] ^^^ UInt8.ofNat D)) hl)
  have R1 := fun W => read_any W (str (p.sector.data.toList.set q (p.sector.data.toList[q] ^^^ UInt8.ofNat D)))
  rw [n1] at R1
  have hsh : (p.sector.extract 0 q).size ≠ 256 := by rw [ByteArray.size_extract]; omega
  have R2 := fun W => Lib.hid (read_any W (p.sector.extract 0 q))
  rw [(read_len hsh).1, (read_len hsh).2] at R2
  have E1 := fun W : World => page_eql W Pg.zero Pg.zero
  rw [Pg.same_self] at E1
  have m1 := fun w' : World => Lib.run_convert_string_bytes (P := Try.prog) w' 9 41 5 p.sector Try.underlying9 Try.underlying41 Try.underlying5
  have m2 := fun w' : World => bytes_cell w' p.sector q hql
  have m3 := fun w' : World => bytes_free w' p.sector q hql
  have m4 := fun (w' : World) (c : Nat) => bytes_turned w' p.sector q c (p.sector.data.toList[q] ^^^ UInt8.ofNat D) hql
  have x1 := flip_code p.sector.data.toList[q] D
  rw [show ((D : Int) % 256) = (D : Int) by omega] at x1
  have m5 : ∀ w' : World, Below w'.heap.size w' ((Lib.bytesWorld w' 5 p.sector).setCell ⟨w'.heap.size, q, none⟩ (.int .u8 ((p.sector.data.toList[q] ^^^ UInt8.ofNat D).toNat : Int))) := fun w' =>
    (show Below w'.heap.size w' (Lib.bytesWorld w' 5 p.sector) from ⟨rfl, rfl, rfl, by rw [Lib.bytesWorld_size]; omega, fun k hk => Lib.bytesWorld_at_old w' _ _ k hk⟩).setCell (Nat.le_refl _) _
  obtain ⟨E, hE⟩ : ∃ E : Int, readE (str (p.sector.data.toList.set q (p.sector.data.toList[q] ^^^ UInt8.ofNat D))) = E := ⟨_, rfl⟩
  rw [hE] at n2 R1
  generalize str (p.sector.data.toList.set q (p.sector.data.toList[q] ^^^ UInt8.ofNat D)) = z at R1 m4
  generalize p.sector.data.toList[q] ^^^ UInt8.ofNat D = y at m4 m5 x1
  generalize p.sector.data.toList[q] = x at m2 x1
  have i1 : (0 : Int) ≤ (q : Int) := by omega
  have i2 : (q : Int) < (p.sector.size : Int) := by omega
  have i3 : (q : Int) ≤ (p.sector.size : Int) := by omega
  have z1 : ((p.sector.size : Int) != 256) = false := by simp; omega
  have R1 := fun W => Lib.hid (R1 W)
  have M5 := Lib.hid m5
  generalize p.sector = b at L1 R2 z1 m1 m2 m3 m4 M5 i2 i3
  unfold PCells at CA
  unfold Pg.v Pg.cells at *
  rw [show Pg.zero.k = 0 from rfl, show Pg.zero.id = 0 from rfl, show Pg.zero.tx = 0 from rfl, show Pg.zero.body = ⟨#[]⟩ from rfl] at *
  clear n1 hfl hql hq2 hz hl m5 hD2 hsh h0 h2 hp hE
  rcases n2 with rfl | rfl
  all_goals
    go_enter Try.func5, Try.ntmps5
    go_wp2_with (first
      | (go_at_call 7; (with_reducible refine (K _).out.mono ?_); rintro e w1 ⟨rfl, hb⟩; have s1 := HST.out.over hb; obtain ⟨a0, a1, a2, a3⟩ := CA.out _ s1)
      | (go_at_call 10; (with_reducible refine (L1 _).out.mono ?_); rintro e w2 ⟨rfl, hb⟩; have s2 := s1.over hb; have s2' := s2.over (M5.out w2))
      | (go_at_call 11; (with_reducible refine (R1 _).out.mono ?_); rintro e w3 ⟨rfl, hb⟩; have s3 := s2'.over hb; have n3 := new_page w3 #[.int .i64 0, .int .i64 0, .int .i64 0, .string ⟨#[]⟩]; have s4 := s3.over (below_new w3 (.cells #[.int .i64 0, .int .i64 0, .int .i64 0, .string ⟨#[]⟩] 23)))
      | (go_at_call 11; (with_reducible refine (R2 _).out.mono ?_); rintro e w5 ⟨rfl, hb⟩; have s5 := s4.over hb; obtain ⟨c0, c1, c2, c3⟩ := four (kept_cells (kept_cells n3 hb) (below_new w5 (.cells #[.int .i64 0, .int .i64 0, .int .i64 0, .string ⟨#[]⟩] 23))); have s6 := s5.over (below_new w5 (.cells #[.int .i64 0, .int .i64 0, .int .i64 0, .string ⟨#[]⟩] 23))))
    go_ret
    exact ⟨rfl, CB.out _ s6⟩

theorem changed_walk (w : World) (p : Pg) (i d : Int) :
    Calls Try.prog 5 #[p.v, .int .i64 i, .int .i64 d] w fun r w' => r = .returned (.bool true) ∧ Below w.heap.size w w' := by
  by_cases h : p.body.size ≤ 300 ∧ 0 ≤ i ∧ d % 256 ≠ 0
  · obtain ⟨h0, h1, h2⟩ := h
    by_cases hp : p.ok
    · obtain ⟨k, rfl⟩ := Int.eq_ofNat_of_zero_le h1
      exact changed_in w p k d h0 h2 hp
    · exact changed_bad w p i d h0 h1 h2 hp
  · exact changed_skip w p i d h

end Go.Proofs.Ytcoaabplhkmpfaa.P5
