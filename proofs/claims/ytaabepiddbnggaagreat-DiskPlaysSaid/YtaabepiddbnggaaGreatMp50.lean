/-
  Texts of the proof of SaidPlays, side by side: Sm1, Kd0, Pl0.
-/
import Derived.Test.YtaabepiddbnggaaGreatMp45
import Derived.Deep.RegionHeld3
import Derived.Test.YtaabepiddbnggaaGreatMp46
import Derived.Test.YtaabepiddbnggaaGreatMp47
import Derived.Test.YtaabepiddbnggaaGreatMp48
import Derived.Test.YtaabepiddbnggaaGreatMp49
/-
  The law's Same: both disks tell the same, name by name, sector by sector.
-/
namespace Go.Proofs.YtaabepiddbnggaaGreat.P4
open Go Go.RowKit Go.Lib Go.Maps Go.ChangeMaps Go.MapKept Go.Proofs.YtaabepiddbnggaaGreat.P3

section
variable {a w0 w w' : World} {d r : Nat} {K : Dk} {D : RM} {ks : List Int}
theorem lst_texts {w : World} {lo : Nat} {v : Value} {l : List ByteArray} (h : w.ownsRow lo 9 1 v l.length (l.map Value.string)) (hs : l.length ≤ 100 ∧ ∀ s ∈ l, s.size ≤ 1000) : PB.TextsIn w v l :=
  PB.tRow_texts (lo := lo) (v := v) h (by omega) fun i hi => by have := hs.2 _ (List.getElem_mem hi); omega
theorem Eqv.sizeR_le (h : Eqv K D ks) (hK : DiskAt w d K) (s : ByteArray) : sizeR D s ≤ 4001 := by
  rw [← h.sizeF hK s]
  unfold P4.sizeF
  split
  · cases hg : getF K.files s.data.toList with
    | none => exact Nat.zero_le _
    | some F => exact (hK.files.ok _ (getF_mem hg)).room
  · exact Nat.zero_le _
theorem readR_in {D : RM} {s : ByteArray} {j : Nat} (h : j < sizeR D s) : ∃ t, readR D s j = (t, 0) := by
  by_cases h0 : errR D s = 0
  · obtain ⟨_, _, i, f, hat, hf, _⟩ := errR_zero h0
    rw [sizeR_eq h0, sizeM_some hat hf] at h
    unfold readR
    rw [if_pos h0, hat]
    simp only [Option.bind_some, hf]
    exact ⟨_, if_pos ⟨by omega, by omega⟩⟩
  · unfold sizeR at h
    rw [if_neg h0] at h
    exact absurd h (Nat.not_lt_zero _)
theorem same_self {w : World} {u v : Value} {N : List ByteArray} (h1 : PB.TextsIn w u N) (h2 : PB.TextsIn w v N) : Calls Tryz.prog 13 #[u, v] w fun e w' => e = .returned (.bool true) ∧ Below w.heap.size w w' := by
  have h := PB.sameTexts_any w u v N N h1 h2
  rw [decide_eq_true rfl] at h
  exact h
/-- both disks, and the two lists -/
def SmP (a w0 w : World) (d : Nat) (K : Dk) (r : Nat) (D : RM) (ks : List Int) (u v : Value) (L : List ByteArray) : Prop := Pr a w d K r D ks ∧ PB.TextsIn w u L ∧ PB.TextsIn w v L ∧ Below w0.heap.size w0 w
theorem SmP.pr {u v : Value} {L : List ByteArray} (h : SmP a w0 w d K r D ks u v L) : Pr a w d K r D ks := h.1
theorem SmP.t1 {u v : Value} {L : List ByteArray} (h : SmP a w0 w d K r D ks u v L) : PB.TextsIn w u L := h.2.1
theorem SmP.t2 {u v : Value} {L : List ByteArray} (h : SmP a w0 w d K r D ks u v L) : PB.TextsIn w v L := h.2.2.1
theorem SmP.bel {u v : Value} {L : List ByteArray} (h : SmP a w0 w d K r D ks u v L) : Below w0.heap.size w0 w := h.2.2.2
theorem SmP.over {u v : Value} {L : List ByteArray} (h : SmP a w0 w d K r D ks u v L) (hb : Below w.heap.size w w') : SmP a w0 w' d K r D ks u v L := ⟨h.1.over hb, h.2.1.below hb, h.2.2.1.below hb, PB.thenBelow h.2.2.2 hb⟩
theorem SmP.drew {u v : Value} {L : List ByteArray} (h : SmP a w0 w d K r D ks u v L) : SmP a w0 w.drew d K r D ks u v L := h.over (Below.refl _ _).drew
set_option maxRecDepth 100000 in
set_option maxHeartbeats 4000000 in
theorem same_any (h : Pr a w d K r D ks) (ht : K.turn ≤ 9000) : Calls Tryz.prog 10 #[.pointer (some ⟨d, 0, none⟩), .pointer (some ⟨r, 0, none⟩)] w fun e w' => e = .returned (.bool true) ∧ Below w.heap.size w w' := by
  have hsh := h.lst_short ht ⟨#[]⟩
  have HL1 := Lib.hid (fun W (h : Pr a W d K r D ks) => h.list1 ⟨#[]⟩)
  have HL2 := Lib.hid (fun W (h : Pr a W d K r D ks) => h.list2 ht ⟨#[]⟩)
  generalize lstM D ⟨#[]⟩ = L at hsh HL1 HL2
  have HSh := Lib.hid hsh
  have hlen : L.length ≤ 100 := hsh.1
  have hsz : ∀ s ∈ L, s.size ≤ 1000 := hsh.2
  have HP := Lib.hid h
  have HB0 := Lib.hid (Below.refl w.heap.size w)
  clear hsh
  obtain ⟨off, hoff⟩ : ∃ off, off = D.off := ⟨_, rfl⟩
  obtain ⟨on, hon⟩ : ∃ on, on = K.on := ⟨_, rfl⟩
  have kOn : (on == off) = false := by rw [hon, hoff, h.eqv.on]; cases K.on <;> rfl
  obtain ⟨pw, cw, hwv, _⟩ := h.at2.writes
  have HC : Hid (∀ W, Pr a W d K r D ks → W.cell? ⟨r, 2, none⟩ = some (.bool off) ∧ W.cell? ⟨r, 1, none⟩ = some (.slice pw D.ws.length cw)) := fun W hW => ⟨(hW.at2.cell 2).trans (by rw [hoff]; rfl), (hW.at2.cell 1).trans (by rw [← hwv]; rfl)⟩
  have HOn : Hid (∀ W, Pr a W d K r D ks → Calls Tryz.prog 23 #[.pointer (some ⟨d, 0, none⟩)] W fun e w' => e = .returned (.bool on) ∧ W = w') := fun W hW => on_any W d on ((cell_at hW.at1.blk 1).trans (by rw [hon]; rfl))
  have HU1 : Hid (∀ W, Pr a W d K r D ks → Calls Tryz.prog 44 #[.pointer (some ⟨d, 0, none⟩)] W fun e w' => e = .returned (.int .i64 (usedM D.fs : Nat)) ∧ Below W.heap.size W w') := fun W hW => by rw [← hW.eqv.used]; exact hW.at1.used
  have HU2 : Hid (∀ W, Pr a W d K r D ks → Calls Tryz.prog 45 #[.pointer (some ⟨r, 0, none⟩)] W fun e w' => e = .returned (.int .i64 (usedM D.fs : Nat)) ∧ W = w') := fun W hW => hW.at2.used
  have HD1 : Hid (∀ W, Pr a W d K r D ks → Calls Tryz.prog 46 #[.pointer (some ⟨d, 0, none⟩)] W fun e w' => e = .returned (.int .i64 (D.ws.length : Nat)) ∧ Below W.heap.size W w') := fun W hW => by rw [← hW.eqv.dirty]; exact hW.at1.dirty
  have HZ1 : Hid (∀ W s, Pr a W d K r D ks → s.size ≤ 1000 → Calls Tryz.prog 22 #[.pointer (some ⟨d, 0, none⟩), .string s] W fun e w' => e = .returned (.tuple #[.int .i64 (sizeR D s : Nat), .int .i64 (errR D s)]) ∧ Below W.heap.size W w') := fun W s hW hs => by
    have := hW.at1.sizeOf s (by unfold maxLen; omega)
    rw [hW.eqv.sizeF hW.at1 s, hW.eqv.errF hW.at1 s] at this
    exact this
  have HZ2 : Hid (∀ W s, Pr a W d K r D ks → Calls Tryz.prog 26 #[.pointer (some ⟨r, 0, none⟩), .string s] W fun e w' => e = .returned (.tuple #[.int .i64 (sizeR D s : Nat), .int .i64 (errR D s)]) ∧ Below W.heap.size W w') := fun W s hW => hW.at2.size s
  have HR1 : Hid (∀ W s z, Pr a W d K r D ks → s.size ≤ 1000 → Calls Tryz.prog 21 #[.pointer (some ⟨d, 0, none⟩), .string s, .int .i64 z] W fun e w' => e = .returned (.tuple #[.string (readR D s z).1, .int .i64 (readR D s z).2]) ∧ Below W.heap.size W w') := fun W s z hW hs => by
    have := hW.at1.read s z (by unfold maxLen; omega)
    unfold ReadPost at this
    have e := hW.eqv.read hW.at1 s z
    rw [← e]
    exact this
  have HR2 : Hid (∀ W s z, Pr a W d K r D ks → Calls Tryz.prog 43 #[.pointer (some ⟨r, 0, none⟩), .string s, .int .i64 z] W fun e w' => e = .returned (.tuple #[.string (readR D s z).1, .int .i64 (readR D s z).2]) ∧ Below W.heap.size W w') := fun W s z hW => hW.at2.read s z
  have HN : Hid (∀ s, sizeR D s ≤ 4001) := fun s => h.eqv.sizeR_le h.at1 s
  have HI : Hid (∀ s (j : Nat), j < sizeR D s → ∃ t, readR D s j = (t, 0)) := fun s j hj => readR_in hj
  generalize usedM D.fs = us at HU1 HU2
  generalize D.ws.length = dn at HD1 HC
  have kU : ((us : Int) != (us : Int)) = false := by simp
  have kD : ((dn : Int) != (dn : Int)) = false := by simp
  clear h ht hoff hon hwv
  go_enter Tryz.func10, Tryz.ntmps10
  go_upto_region 2 with (first
    | (go_at_call 11; (with_reducible refine (HL1.out _ HP.out).mono ?_); rintro e w1 ⟨v1, rfl, ho, hb⟩; have HT1 := Lib.hid (lst_texts ho HSh.out); have HP := Lib.hid (HP.out.over hb); have HB0 := Lib.hid (PB.thenBelow HB0.out hb); obtain ⟨a1, c1, rfl⟩ := PB.len_owned ho; clear ho hb)
    | (go_at_call 14; (with_reducible refine (HL2.out _ HP.out).mono ?_); rintro e w2 ⟨v2, rfl, ho, hb⟩; have HT2 := Lib.hid (lst_texts ho HSh.out); obtain ⟨a2, c2, rfl⟩ := PB.len_owned ho; have HS := Lib.hid (show SmP a w w2 d K r D ks (.slice a1 L.length c1) (.slice a2 L.length c2) L from ⟨HP.out.over hb, HT1.out.below hb, HT2.out, PB.thenBelow HB0.out hb⟩); clear ho hb HT1 HT2))
  clear HL1 HL2 HP HB0
  obtain ⟨q2, q1⟩ := HC.out _ HS.out.1
  go_region_held3 (fun W => W.cell? ⟨r, 2, none⟩ = some (.bool off) ∧ W.cell? ⟨r, 1, none⟩ = some (.slice pw dn cw)) (first | exact HC.out _ HS.out.pr | exact HC.out _ HS.out.drew.pr) ((first
    | (go_at_call 23; (with_reducible refine (HOn.out _ (by first | exact HS.out.pr | exact HS.out.drew.pr)).mono ?_); rintro e w3 ⟨rfl, rfl⟩)
    | (go_at_call 44; (with_reducible refine (HU1.out _ (by first | exact HS.out.pr | exact HS.out.drew.pr)).mono ?_); rintro e w3 ⟨rfl, hb⟩; have HS := Lib.hid (show SmP a w w3 d K r D ks (.slice a1 L.length c1) (.slice a2 L.length c2) L from (by first | exact HS.out.over hb | exact HS.out.drew.over hb)); clear hb)
    | (go_at_call 45; (with_reducible refine (HU2.out _ (by first | exact HS.out.pr | exact HS.out.drew.pr)).mono ?_); rintro e w3 ⟨rfl, rfl⟩)
    | (go_at_call 46; (with_reducible refine (HD1.out _ (by first | exact HS.out.pr | exact HS.out.drew.pr)).mono ?_); rintro e w3 ⟨rfl, hb⟩; have HS := Lib.hid (show SmP a w w3 d K r D ks (.slice a1 L.length c1) (.slice a2 L.length c2) L from (by first | exact HS.out.over hb | exact HS.out.drew.over hb)); clear hb)
    | (go_at_call 13; (with_reducible refine (same_self (by first | exact HS.out.t1 | exact HS.out.drew.t1) (by first | exact HS.out.t2 | exact HS.out.drew.t2)).mono ?_); rintro e w3 ⟨rfl, hb⟩; have HS := Lib.hid (show SmP a w w3 d K r D ks (.slice a1 L.length c1) (.slice a2 L.length c2) L from (by first | exact HS.out.over hb | exact HS.out.drew.over hb)); clear hb)))
  clear HC HOn HU1 HU2 HD1 HSh kOn kU kD
  go_wp2
  go_loopw [7] (fun vi wr => ∃ i : Nat, i ≤ L.length ∧ vi = .int .i64 i ∧ Hid (SmP a w wr d K r D ks (.slice a1 L.length c1) (.slice a2 L.length c2) L)) (fun vi _ => L.length - (RowKit.intOf vi).toNat)
  case atStart => exact ⟨0, Nat.zero_le _, rfl, HS⟩
  case round =>
    clear HS
    obtain ⟨i, hi, rfl, HS⟩ := hrel
    by_cases hil : i < L.length
    · obtain ⟨s, hs⟩ : ∃ s, s = L[i] := ⟨_, rfl⟩
      obtain ⟨a', c', e, -, -, -, hcc⟩ := HS.out.t2
      simp only [Value.slice.injEq, true_and] at e
      obtain ⟨rfl, rfl⟩ := e
      obtain ⟨b, off2, rfl, -, -⟩ := hcc (by omega)
      clear hcc
      have HCell : Hid (∀ W, SmP a w W d K r D ks (.slice a1 L.length c1) (.slice (some ⟨b, off2, none⟩) L.length c2) L → W.cell? ⟨b, off2 + i, none⟩ = some (.string s)) := fun W hW => by
        obtain ⟨a', c', e, _, _, _, hcc⟩ := hW.t2
        simp only [Value.slice.injEq, true_and] at e
        obtain ⟨rfl, rfl⟩ := e
        obtain ⟨b', off', e2, _, hc⟩ := hcc (by omega)
        simp only [Option.some.injEq, Addr.mk.injEq, and_true] at e2
        obtain ⟨rfl, rfl⟩ := e2
        rw [hs]
        exact hc i hil
      have q0 := HCell.out wr HS.out
      have hss : s.size ≤ 1000 := hsz s (by rw [hs]; exact List.getElem_mem hil)
      have HZa := Lib.hid (fun W (hW : Pr a W d K r D ks) => HZ1.out W s hW hss)
      have HZb := Lib.hid (fun W (hW : Pr a W d K r D ks) => HZ2.out W s hW)
      have hn0 := HN.out s
      have HI0 := Lib.hid (HI.out s)
      clear hs
      generalize sizeR D s = n0 at HZa HZb hn0 HI0
      generalize errR D s = e0 at HZa HZb
      have k1 : ((n0 : Int) != (n0 : Int)) = false := by simp
      have k2 : ((e0 : Int) != (e0 : Int)) = false := by simp
      have b0 : (0 : Int) ≤ (i : Int) := by omega
      have b1 : (i : Int) < (L.length : Int) := by omega
      go_wp2_with (first
        | (go_at_call 22; go_loud ((with_reducible refine (HZa.out _ HS.out.pr).mono ?_); rintro e w4 ⟨rfl, hb⟩; have HS := Lib.hid (HS.out.over hb); have q1 := HCell.out _ HS.out; clear hb))
        | (go_at_call 26; go_loud ((with_reducible refine (HZb.out _ HS.out.pr).mono ?_); rintro e w5 ⟨rfl, hb⟩; have HS := Lib.hid (HS.out.over hb); clear hb)))
      clear HZa HZb k1 k2 q0
      go_loopw [12] (fun vj wj => ∃ j : Nat, j ≤ n0 ∧ vj = .int .i64 j ∧ Hid (SmP a w wj d K r D ks (.slice a1 L.length c1) (.slice (some ⟨b, off2, none⟩) L.length c2) L)) (fun vj _ => n0 - (RowKit.intOf vj).toNat)
      case atStart => exact ⟨0, Nat.zero_le _, rfl, HS⟩
      case round =>
        clear HS
        obtain ⟨j, hj, rfl, HS⟩ := hrel
        by_cases hjl : j < n0
        · obtain ⟨t, ht⟩ := HI0.out j hjl
          have HRa : Hid (∀ W, Pr a W d K r D ks → Calls Tryz.prog 21 #[.pointer (some ⟨d, 0, none⟩), .string s, .int .i64 j] W fun e w' => e = .returned (.tuple #[.string t, .int .i64 0]) ∧ Below W.heap.size W w') := fun W hW => by
            have h9 := HR1.out W s j hW hss
            rw [ht] at h9
            exact h9
          have HRb : Hid (∀ W, Pr a W d K r D ks → Calls Tryz.prog 43 #[.pointer (some ⟨r, 0, none⟩), .string s, .int .i64 j] W fun e w' => e = .returned (.tuple #[.string t, .int .i64 0]) ∧ Below W.heap.size W w') := fun W hW => by
            have h9 := HR2.out W s j hW
            rw [ht] at h9
            exact h9
          have kt : (t.toList == t.toList) = true := beq_self_eq_true _
          have kj : (j : Int) < (n0 : Int) := by omega
          have p0 := HCell.out _ HS.out
          clear ht
          go_wp2_with (first
            | (go_at_call 21; (with_reducible refine (HRa.out _ HS.out.pr).mono ?_); rintro e w6 ⟨rfl, hb⟩; have HS := Lib.hid (HS.out.over hb); have p1 := HCell.out _ HS.out; clear hb)
            | (go_at_call 43; (with_reducible refine (HRb.out _ HS.out.pr).mono ?_); rintro e w7 ⟨rfl, hb⟩; have HS := Lib.hid (HS.out.over hb); clear hb))
          go_roundw
          case rel => exact ⟨j + 1, by omega, by go_num, HS⟩
          case measure => simp [RowKit.intOf]; omega
        · go_wp2
          go_roundw
          case rel => exact ⟨i + 1, by omega, by go_num, HS⟩
          case measure => simp [RowKit.intOf]; omega
    · go_wp2
      go_ret
      exact ⟨rfl, HS.out.bel⟩
end

end Go.Proofs.YtaabepiddbnggaaGreat.P4

/-
  The book beside both disks: the blocks of the one are of other kinds than those of the others.
-/
namespace Go.Proofs.YtaabepiddbnggaaGreat.P4
open Go Go.RowKit Go.Lib Go.Maps Go.ChangeMaps Go.MapKept Go.Proofs.YtaabepiddbnggaaGreat.P3

/-- of the book's kinds -/
def BkT (e : TypeId) : Prop := e = 9 ∨ e = 51 ∨ e = 44
section
variable {a w w' w1 w2 : World} {d r t u b : Nat} {K T K1 : Dk} {D U D1 : RM} {ks : List Int} {tv cv : Value} {us cs : List Value} {ls ms : List (List ByteArray)} {R : List PB.Row}
theorem Pr.kf (h : Pr a w d K r D ks) {k : Nat} (hk : K.foot d k) {c : Array Value} {e : TypeId} (hc : w.heap[k]? = some (.cells c e (0, 0))) : ¬ BkT e := by
  have key : (∃ es cl, w.heap[k]? = some (.map es cl)) ∨ ∃ c t, w.heap[k]? = some (.cells c t (0, 0)) ∧ (t = 67 ∨ t = 121 ∨ t = 116 ∨ t = 112 ∨ t = 3) := by
    rcases hk with q | q | q | q
    · rcases h.at1.kinds k (.inl q) with e | ⟨c, t, e, ht⟩
      · exact .inl e
      · exact .inr ⟨c, t, e, by rcases ht with q | q | q | q <;> simp [q]⟩
    · rcases h.at1.kinds k (.inr (.inl q)) with e | ⟨c, t, e, ht⟩
      · exact .inl e
      · exact .inr ⟨c, t, e, by rcases ht with q | q | q | q <;> simp [q]⟩
    · rcases h.at1.kinds k (.inr (.inr q)) with e | ⟨c, t, e, ht⟩
      · exact .inl e
      · exact .inr ⟨c, t, e, by rcases ht with q | q | q | q <;> simp [q]⟩
    · obtain ⟨_, cur, e⟩ := owned_at h.at1.keep q
      exact .inr ⟨cur, _, e, by simp⟩
  rcases key with ⟨es, cl, e⟩ | ⟨c', t', e, ht⟩
  · rw [e] at hc; cases hc
  · rw [e] at hc
    simp only [Option.some.injEq, Obj.cells.injEq] at hc
    obtain ⟨_, rfl, _⟩ := hc
    rintro (q | q | q) <;> subst q <;> revert ht <;> decide
theorem Pr.of (h : Pr a w d K r D ks) {k : Nat} (hk : D.own r k) {c : Array Value} {e : TypeId} (hc : w.heap[k]? = some (.cells c e (0, 0))) : ¬ BkT e := by
  have key : ∃ c t, w.heap[k]? = some (.cells c t (0, 0)) ∧ (t = 32 ∨ t = 83 ∨ t = 127) := by
    rcases hk with rfl | q | q
    · exact ⟨_, _, h.at2.blk, .inl rfl⟩
    · obtain ⟨_, cur, e⟩ := owned_at h.at2.lrow q
      exact ⟨cur, _, e, .inr (.inl rfl)⟩
    · obtain ⟨_, cur, e⟩ := owned_at h.at2.wrow q
      exact ⟨cur, _, e, .inr (.inr rfl)⟩
  obtain ⟨c', t', e, ht⟩ := key
  rw [e] at hc
  simp only [Option.some.injEq, Obj.cells.injEq] at hc
  obtain ⟨_, rfl, _⟩ := hc
  rintro (q | q | q) <;> subst q <;> revert ht <;> decide
/-- what the document's disk reads: texts, its own -/
theorem Pr.df (h : Pr a w d K r D ks) {k : Nat} (hk : D.foot r k) {c : Array Value} {e : TypeId} (hc : w.heap[k]? = some (.cells c e (0, 0))) : ¬ (e = 51 ∨ e = 44) := by
  rcases hk with q | ⟨f, hf, q⟩
  · exact fun p => h.of q hc (.inr p)
  · have key : ∃ cur, w.heap[k]? = some (.cells cur 9 (0, 0)) := by
      rcases q with q | q
      · exact ((h.at2.txt f hf).1.lt q).2
      · exact ((h.at2.txt f hf).2.lt q).2
    obtain ⟨c', e'⟩ := key
    rw [e'] at hc
    simp only [Option.some.injEq, Obj.cells.injEq] at hc
    obtain ⟨_, rfl, _⟩ := hc
    decide
theorem bk_kind {x : PB.Row} (hx : x ∈ (PB.bl b (PB.bookCells tv cv) 44 :: PB.vRow tv us :: PB.vRow cv cs :: (PB.rowsOf us ls ++ PB.rowsOf cs ms))) : BkT x.e := by
  have key : ∀ (us : List Value) (ls : List (List ByteArray)), x ∈ PB.rowsOf us ls → x.e = 9 := fun us ls hx => by
    unfold PB.rowsOf at hx
    obtain ⟨i, hi⟩ := List.getElem?_of_mem hx
    rw [List.getElem?_zipWith] at hi
    split at hi
    · cases hi; rfl
    · cases hi
  simp only [List.mem_cons, List.mem_append] at hx
  rcases hx with rfl | rfl | rfl | q | q
  · exact .inr (.inr rfl)
  · exact .inr (.inl rfl)
  · exact .inr (.inl rfl)
  · exact .inl (key _ _ q)
  · exact .inl (key _ _ q)
/-- the book stays where both disks change -/
theorem Bk_keep {b : Nat} (h : PB.Bk a [] b tv cv us cs ls ms w) (hp : Pr a w d K r D ks) (hf : Fr (fun k => K.foot d k ∨ D.own r k) w w') : PB.Bk a [] b tv cv us cs ls ms w' := by
  have hb : Below a.heap.size a w' := Fr.new hp.below hf fun k hk => by
    rcases hk with q | q
    · exact hp.f1 k q
    · exact hp.own_lo k q
  refine ⟨⟨fun x hx => ?_, h.rows.nd, hb⟩, h.ul, h.cl, h.lm, h.few, h.short, h.shortm⟩
  have hown := h.rows.own x hx
  refine owned_fr hown fun g hg => ?_
  obtain ⟨_, cur, hc⟩ := owned_at hown hg
  have ht : BkT x.e := bk_kind (by simpa using hx)
  rw [hf.block g (Array.getElem?_eq_some_iff.1 hc).1 fun q => ?_]
  rcases q with q | q
  · exact hp.kf q hc ht
  · exact hp.of q hc ht
/-- both disks stay where the book changes -/
theorem Pr.keepB (h : Pr a w d K r D ks) (hB : PB.Bk a R b tv cv us cs ls ms w) (hf : PB.FrB (fun k => k = b ∨ tv.ownBlock = some k ∨ cv.ownBlock = some k) w w') (hb : Below a.heap.size a w') : Pr a w' d K r D ks := by
  have hF : Fr (fun k => k = b ∨ tv.ownBlock = some k ∨ cv.ownBlock = some k) w w' := ⟨hf.os, hf.tape, hf.output, hf.size, hf.block⟩
  have hkind : ∀ k, (k = b ∨ tv.ownBlock = some k ∨ cv.ownBlock = some k) → ∃ c e, w.heap[k]? = some (.cells c e (0, 0)) ∧ (e = 51 ∨ e = 44) := fun k hk => by
    rcases hk with rfl | q | q
    · exact ⟨_, _, hB.cells, .inr rfl⟩
    · obtain ⟨_, cur, e⟩ := owned_at hB.tv_ q
      exact ⟨cur, _, e, .inl rfl⟩
    · obtain ⟨_, cur, e⟩ := owned_at hB.cv_ q
      exact ⟨cur, _, e, .inl rfl⟩
  refine ⟨h.at1.fr hF fun k hk q => ?_, h.at2.frS hF fun k hk q => ?_, h.eqv, h.kint, h.f1, h.apart, hb⟩
  · obtain ⟨c, e, hc, ht⟩ := hkind k q
    exact h.kf hk hc (.inr ht)
  · obtain ⟨c, e, hc, ht⟩ := hkind k q
    exact h.df hk hc ht
/-- a pair stays where another one changes -/
def Sep (d : Nat) (K : Dk) (r : Nat) (D : RM) (t : Nat) (T : Dk) (u : Nat) (U : RM) : Prop := ∀ k, (T.foot t k ∨ U.own u k) → ¬ K.foot d k ∧ ¬ D.foot r k
theorem Pr.other (h : Pr a w d K r D ks) (hs : Sep d K r D t T u U) (hf : Fr (fun k => T.foot t k ∨ U.own u k) w w') (hb : Below a.heap.size a w') : Pr a w' d K r D ks :=
  ⟨h.at1.fr hf fun k hk q => (hs k q).1 hk, h.at2.frS hf fun k hk q => (hs k q).2 hk, h.eqv, h.kint, h.f1, h.apart, hb⟩
theorem RAt.lo_le {lo lo' : Nat} (h : RAt lo w r D) (hl : lo' ≤ lo) : RAt lo' w r D :=
  { blk := h.blk, lo_ := Nat.le_trans hl h.lo_, lrow := PB.owns_lo h.lrow hl, wrow := PB.owns_lo h.wrow hl, txt := h.txt, few := h.few, few2 := h.few2, long := h.long }
/-- the same, of twins -/
theorem Eqv.twin (h : Eqv K D ks) (hK : DiskAt w d K) {Z : ZL} {mb : Nat} {kv : Value} (hp : (zS Z).Perm K.files) (htw : ∀ z ∈ Z, Tw z.2.1 z.2.1.ws z.2.2) : Eqv { K with m := some mb, kv := kv, files := zT Z } D ks := by
  refine ⟨?_, h.on, h.room, h.armed, h.left, h.calm, h.nle, h.few, h.inv⟩
  show (absL (zT Z)).Perm (absM D)
  rw [z_abs htw]
  have h1 : (absL (zS Z)).Perm (absM D) := (hp.map absP).trans h.abs
  refine (h1.map _).trans ?_
  have : (absM D).map (fun p => (p.1, p.2.redo)) = absM D := by
    unfold absM absW
    rw [List.map_map]
    refine List.map_congr_left fun f hf => ?_
    show (nmM f.name, (afM D.ws f).redo) = (nmM f.name, afM D.ws f)
    rw [redo_same (A := afM D.ws f) (h.inv.redo f hf)]
  rw [this]
/-- Twin of the program's disk -/
def Tw1P (a w : World) (d : Nat) (K : Dk) (r : Nat) (D : RM) (ks : List Int) (e : Ending) (w' : World) : Prop := ∃ t T, e = .returned (.pointer (some ⟨t, 0, none⟩)) ∧ DiskAt w' t T ∧ Eqv T D ks ∧ T.turn = K.turn ∧ (∀ k, T.foot t k → w.heap.size ≤ k) ∧ Below w.heap.size w w'
theorem Pr.twin1 (h : Pr a w d K r D ks) : Calls Tryz.prog 7 #[.pointer (some ⟨d, 0, none⟩)] w (Tw1P a w d K r D ks) := by
  refine (h.at1.twin (by have := h.eqv.few; omega)).mono ?_
  rintro e w' ⟨t, mb, kv, Z, rfl, hp, htw, hd, hnew, hb⟩
  exact ⟨t, _, rfl, hd, h.eqv.twin h.at1 hp htw, rfl, hnew, hb⟩
/-- both pairs -/
structure Duo (a w : World) (d : Nat) (K : Dk) (r : Nat) (D : RM) (t : Nat) (T : Dk) (u : Nat) (U : RM) (ks : List Int) : Prop where
  p1 : Pr a w d K r D ks
  p2 : Pr a w t T u U ks
  s1 : Sep d K r D t T u U
  s2 : Sep t T u U d K r D
theorem Duo.swap (h : Duo a w d K r D t T u U ks) : Duo a w t T u U d K r D ks := ⟨h.p2, h.p1, h.s2, h.s1⟩
theorem Pr.twin2 (h : Pr a w d K r D ks) {w1 : World} (hd : DiskAt w1 t T) (he : Eqv T D ks) (hnew : ∀ k, T.foot t k → w.heap.size ≤ k) (hb : Below w.heap.size w w1) :
    Calls Tryz.prog 8 #[.pointer (some ⟨r, 0, none⟩)] w1 fun e w' => ∃ u U, e = .returned (.pointer (some ⟨u, 0, none⟩)) ∧ Duo a w' d K r D t T u U ks ∧ Fr (fun _ => False) w1 w' := by
  have h1 := h.over hb
  refine (h1.at2.twin h1.kvs).mono ?_
  rintro e w' ⟨u, lv, wv, rfl, hr, hown, hb2⟩
  have hlt : ∀ k, T.foot t k → k < w1.heap.size := hd.foot_lt
  have hsz : a.heap.size ≤ w.heap.size := h.below.size
  have hsz1 : w.heap.size ≤ w1.heap.size := hb.size
  have hold : ∀ k, D.foot r k → k < w.heap.size := fun k hk => h.at2.foot_lt hk
  have hKold : ∀ k, K.foot d k → k < w.heap.size := fun k hk => h.at1.foot_lt k hk
  have hUf : ∀ k, ({ D with lv := lv, wv := wv } : RM).foot u k → w1.heap.size ≤ k ∨ ∃ f ∈ D.fs, f.nv.ownBlock = some k ∨ f.sv.ownBlock = some k := fun k hk => by
    rcases hk with q | q
    · exact .inl (hown k q)
    · exact .inr q
  refine ⟨u, _, rfl, ⟨h1.over hb2, ⟨hd.below hb2, hr.lo_le (by omega), ?_, h.kint, fun k hk => Nat.le_trans hsz (hnew k hk), fun k hk q => ?_, (h1.over hb2).below⟩, fun k hk => ?_, fun k hk => ?_⟩, Fr.of hb2⟩
  · exact ⟨he.abs, he.on, he.room, he.armed, he.left, he.calm, he.nle, he.few, ⟨he.inv.turns, he.inv.tmax, he.inv.own, he.inv.ids, he.inv.idm, he.inv.idt, he.inv.redo⟩⟩
  · have q1 := hnew k hk
    have q2 := hlt k hk
    rcases hUf k q with e | ⟨f, hf, e⟩
    · omega
    · have := hold k (.inr ⟨f, hf, e⟩)
      omega
  · have hge : w.heap.size ≤ k := by
      rcases hk with q | q
      · exact hnew k q
      · have := hown k q; omega
    exact ⟨fun q => by have := hKold k q; omega, fun q => by have := hold k q; omega⟩
  · have hlt2 : k < w.heap.size := by
      rcases hk with q | q
      · exact hKold k q
      · exact hold k (.inl q)
    refine ⟨fun q => by have := hnew k q; omega, fun q => ?_⟩
    rcases hUf k q with e | ⟨f, hf, e⟩
    · omega
    · rcases hk with p | p
      · exact h.apart k p (.inr ⟨f, hf, e⟩)
      · rcases e with e | e
        · exact h.at2.txt_own (h.at2.txt f hf).1 e p
        · exact h.at2.txt_own (h.at2.txt f hf).2 e p
end

end Go.Proofs.YtaabepiddbnggaaGreat.P4

/-
  DiskPlays: any act on both disks; what a round of the walk has.
-/
namespace Go.Proofs.YtaabepiddbnggaaGreat.P4
open Go Go.RowKit Go.Lib Go.Maps Go.ChangeMaps Go.MapKept Go.Proofs.YtaabepiddbnggaaGreat.P3

section
variable {a w w' w1 w2 : World} {d r t u b : Nat} {K T K1 : Dk} {D U D1 : RM} {ks : List Int}
theorem act_any (h : Pr a w d K r D ks) (ht : K.turn < 8990) (o : OpV) (ho : ActOk a o) (hlen : o.L.length ≤ 10000) :
    Calls Tryz.prog 9 #[.pointer (some ⟨d, 0, none⟩), .pointer (some ⟨r, 0, none⟩), .agg o.cells] w (ActP a w d K r D) := by
  by_cases h1 : o.kind = 1
  · exact act_1 h ht o ho hlen h1
  by_cases h2 : o.kind = 2
  · exact act_2 h ht o ho hlen h2
  by_cases h3 : o.kind = 3
  · exact act_3 h ht o ho hlen h3
  by_cases h4 : o.kind = 4
  · exact act_4 h ht o ho hlen h4
  by_cases h5 : o.kind = 5
  · exact act_5 h ht o ho hlen h5
  by_cases h6 : o.kind = 6
  · exact act_6 h ht o ho hlen h6
  by_cases h7 : o.kind = 7
  · exact act_7 h ht o ho hlen h7
  by_cases h8 : o.kind = 8
  · exact act_8 h ht o ho hlen h8
  by_cases h9 : o.kind = 9
  · exact act_9 h ht o ho hlen h9
  by_cases h10 : o.kind = 10
  · exact act_10 h ht o ho hlen h10
  · exact act_none h ht o ho hlen fun k hk1 hk2 e => by omega

def RM.new (room : Int) : RM := ⟨.slice none 0 0, .slice none 0 0, .slice none 0 0, [], [], false, room, false, 0, 0⟩
/-- what a round has: both disks, i acts done; the book, with at most i lists -/
def PSt (a w : World) (d r b i : Nat) (K : Dk) (D : RM) (ks : List Int) : Prop :=
  Pr a w d K r D ks ∧ K.turn ≤ i ∧ ∃ tv cv us cs ls, ls.length ≤ i ∧ PB.Bk a [] b tv cv us cs ls ls w
theorem plays_new {room : Int} (ha : Below a.heap.size a w) (hb : Below w.heap.size w w1)
    (hn : w1.heap[w.heap.size]? = some (.cells #[.map none, .bool true, .int .i64 room, .int .i64 0, .bool false, .int .i64 0, .slice none 0 0] 67 (0, 0))) :
    PSt a ((w1.alloc (.cells (RM.new room).cells.toArray 32)).alloc (.cells (PB.bookCells (.slice none 0 0) (.slice none 0 0)).toArray 44)) w.heap.size w1.heap.size (w1.heap.size + 1) 0 (Dk.new room) (RM.new room) [] := by
  have hb2 := below_new w1 (.cells (RM.new room).cells.toArray 32)
  have hb3 := below_new (w1.alloc (.cells (RM.new room).cells.toArray 32)) (.cells (PB.bookCells (.slice none 0 0) (.slice none 0 0)).toArray 44)
  have hz2 : (w1.alloc (.cells (RM.new room).cells.toArray 32)).heap.size = w1.heap.size + 1 := by simp
  have hlt : w.heap.size < w1.heap.size := (Array.getElem?_eq_some_iff.1 hn).1
  have hK : ∀ k, (Dk.new room).foot w.heap.size k → k = w.heap.size := fun k hk => by
    rcases hk with rfl | hk | ⟨p, hp, _⟩ | hk
    · rfl
    · cases hk
    · cases hp
    · cases hk
  have hD : ∀ k, (RM.new room).foot w1.heap.size k → k = w1.heap.size := fun k hk => by
    rcases hk with (rfl | hk | hk) | ⟨f, hf, _⟩
    · rfl
    · cases hk
    · cases hk
    · cases hf
  have haw := ha.size
  have hbel := thenBelow ha (thenBelow hb (thenBelow hb2 hb3))
  refine ⟨⟨((new_at_disk hn).below hb2).below hb3, ?_, ?_, ⟨none, 0, rfl, by simp, fun h => absurd h (Nat.lt_irrefl _)⟩, fun k hk => by rw [hK k hk]; exact haw, fun k hk q => by have h1 := hK k hk; have h2 := hD k q; omega, hbel⟩, Nat.le_refl _, .slice none 0 0, .slice none 0 0, [], [], [], Nat.le_refl _, ?_⟩
  · refine RAt.below ?_ hb3
    exact ⟨new_at _ _ _, Nat.le_of_lt (Nat.lt_of_le_of_lt haw hlt), World.ownsRow_nil _ _ _ _, World.ownsRow_nil _ _ _ _, fun f hf => (by cases hf), Nat.zero_le _, Nat.zero_le _, fun f hf => (by cases hf)⟩
  · exact ⟨List.Perm.refl _, rfl, rfl, rfl, fun h => (by cases h), fun _ => ⟨rfl, rfl⟩, (by show (0 : Int) ≤ _; decide), Nat.zero_le _, ⟨List.Pairwise.nil, fun x hx => (by cases hx), fun x hx => (by cases hx), List.nodup_nil, fun x hx => (by cases hx), Nat.le_refl _, fun x hx => (by cases hx)⟩⟩
  · refine ⟨⟨fun x hx => ?_, ?_, hbel⟩, rfl, rfl, rfl, Nat.zero_le _, fun l hl => (by cases hl), fun l hl => (by cases hl)⟩
    · have hx' : x = PB.bl (w1.heap.size + 1) (PB.bookCells (.slice none 0 0) (.slice none 0 0)) 44 ∨ x = PB.vRow (.slice none 0 0) [] ∨ x = PB.vRow (.slice none 0 0) [] := by simpa [PB.rowsOf] using hx
      rcases hx' with rfl | rfl | rfl
      · have h9 := PB.Row.ofBlock (w1.alloc (.cells (RM.new room).cells.toArray 32)) (PB.bookCells (.slice none 0 0) (.slice none 0 0)) 44 (by decide)
        rw [hz2] at h9
        exact PB.owns_lo h9 (by omega)
      · exact World.ownsRow_nil _ _ _ _
      · exact World.ownsRow_nil _ _ _ _
    · simp [PB.rowsOf, PB.vRow, PB.Row.blk, PB.bl, Value.ownBlock, List.filterMap]
/-- an act of the walk -/
theorem PSt.act {i : Nat} (h : PSt a w d r b i K D ks) (hi : i ≤ 60) (o : OpV) (ho : ActOk a o) (hlen : o.L.length ≤ 10000) :
    Calls Tryz.prog 9 #[.pointer (some ⟨d, 0, none⟩), .pointer (some ⟨r, 0, none⟩), .agg o.cells] w fun e w' => e = .returned (.bool true) ∧ ∃ K1 D1 ks1, Pr a w' d K1 r D1 ks1 ∧ K1.turn ≤ i + 1 ∧ ∃ tv cv us cs ls, ls.length ≤ i ∧ PB.Bk a [] b tv cv us cs ls ls w' := by
  obtain ⟨hp, ht, tv, cv, us, cs, ls, hls, hB⟩ := h
  refine (act_any hp (by omega) o ho hlen).mono ?_
  rintro e w' ⟨rfl, K1, D1, ks1, hs⟩
  exact ⟨rfl, K1, D1, ks1, hs.pr, by have := hs.tn; omega, tv, cv, us, cs, ls, hls, Bk_keep hB hp hs.fr⟩
end

end Go.Proofs.YtaabepiddbnggaaGreat.P4
