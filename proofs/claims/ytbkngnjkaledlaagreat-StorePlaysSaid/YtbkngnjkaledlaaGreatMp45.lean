/-
  Texts of the proof of SaidPlay8b.
-/
import Derived.Test.YtbkngnjkaledlaaGreatMp39
import Derived.Test.YtbkngnjkaledlaaGreatMp42
import Derived.Test.YtbkngnjkaledlaaGreatMp43
import Derived.Test.YtbkngnjkaledlaaGreatMp44
import Derived.Lib.SmallJoins
set_option maxHeartbeats 8000000
set_option maxRecDepth 100000
namespace Go.Proofs.YtbkngnjkaledlaaGreat.P4
open Go Go.RowKit Go.Lib Go.Maps Go.ChangeMaps Go.MapKept P3
section
variable {a w0 w w' : World} {d r : Nat} {K : Dk} {D : RM} {ks : List Int}
theorem lst_texts {w : World} {lo : Nat} {v : Value} {l : List ByteArray} (h : w.ownsRow lo 9 1 v l.length (l.map Value.string)) (hs : l.length ≤ 100 ∧ ∀ s ∈ l, s.size ≤ 1000) : PB.TextsIn w v l :=
 PB.tRow_texts (lo := lo) (v := v) h (by omega) fun i hi => by have := hs.2 _ (List.getElem_mem hi); omega
theorem Eqv.sizeR_le (h : Eqv K D ks) (hK : DiskAt w d K) (s : ByteArray) : sizeR D s ≤ 4001 := by
 rw [← h.sizeF hK s]
 unfold P4.sizeF
 split
 ·cases hg : getF K.files s.data.toList with
  | none => exact Nat.zero_le _
  | some F => exact (hK.files.ok _ (getF_mem hg)).room
 ·exact Nat.zero_le _
theorem readR_in {D : RM} {s : ByteArray} {j : Nat} (h : j < sizeR D s) : ∃ t, readR D s j = (t, 0) := by
 by_cases h0 : errR D s = 0
 ·obtain ⟨_, _, i, f, hat, hf, _⟩ := errR_zero h0
  rw [sizeR_eq h0, sizeM_some hat hf] at h
  unfold readR
  rw [if_pos h0, hat]
  simp only [Option.bind_some, hf]
  exact ⟨_, if_pos ⟨by omega, by omega⟩⟩
 ·unfold sizeR at h
  rw [if_neg h0] at h
  exact absurd h (Nat.not_lt_zero _)
theorem same_self {w : World} {u v : Value} {N : List ByteArray} (h1 : PB.TextsIn w u N) (h2 : PB.TextsIn w v N) : Calls Tryz.prog 79 #[u, v] w fun e w' => e = .returned (.bool true) ∧ Below w.heap.size w w' := by
 have h := PB.sameTexts_any w u v N N h1 h2
 rw [decide_eq_true rfl] at h
 exact h
def SmP (a w0 w : World) (d : Nat) (K : Dk) (r : Nat) (D : RM) (ks : List Int) (u v : Value) (L : List ByteArray) : Prop := Pr a w d K r D ks ∧ PB.TextsIn w u L ∧ PB.TextsIn w v L ∧ Below w0.heap.size w0 w
theorem SmP.pr {u v : Value} {L : List ByteArray} (h : SmP a w0 w d K r D ks u v L) : Pr a w d K r D ks := h.1
theorem SmP.t1 {u v : Value} {L : List ByteArray} (h : SmP a w0 w d K r D ks u v L) : PB.TextsIn w u L := h.2.1
theorem SmP.t2 {u v : Value} {L : List ByteArray} (h : SmP a w0 w d K r D ks u v L) : PB.TextsIn w v L := h.2.2.1
theorem SmP.bel {u v : Value} {L : List ByteArray} (h : SmP a w0 w d K r D ks u v L) : Below w0.heap.size w0 w := h.2.2.2
theorem SmP.over {u v : Value} {L : List ByteArray} (h : SmP a w0 w d K r D ks u v L) (hb : Below w.heap.size w w') : SmP a w0 w' d K r D ks u v L := ⟨h.1.over hb, h.2.1.below hb, h.2.2.1.below hb, PB.thenBelow h.2.2.2 hb⟩
theorem SmP.drew {u v : Value} {L : List ByteArray} (h : SmP a w0 w d K r D ks u v L) : SmP a w0 w.drew d K r D ks u v L := h.over (Below.refl _ _).drew
theorem same_any (h : Pr a w d K r D ks) (ht : K.turn ≤ 9000) : Calls Tryz.prog 24 #[.pointer (some ⟨d, 0, none⟩), .pointer (some ⟨r, 0, none⟩)] w fun e w' => e = .returned (.bool true) ∧ Below w.heap.size w w' := by
 have hsh := h.lst_short ht ⟨#[]⟩
 have HL1 := Lib.hid (fun W (h : Pr a W d K r D ks) => h.list1 ⟨#[]⟩)
 have HL2 := Lib.hid (fun W (h : Pr a W d K r D ks) => h.list2 ht ⟨#[]⟩)
 generalize lstM D ⟨#[]⟩ = L at hsh HL1 HL2
 have HSh := Lib.hid hsh
 have hlen : L.length ≤ 100 := hsh.1
 have hsz : ∀ s ∈ L, s.size ≤ 1000 := hsh.2
 have HP := Lib.hid h
 have HB0 := Lib.hid (Below.refl w.heap.size w)
 clear hsh
 obtain ⟨off, hoff⟩ : ∃ off, off = D.off := ⟨_, rfl⟩
 obtain ⟨on, hon⟩ : ∃ on, on = K.on := ⟨_, rfl⟩
 have kOn : (on == off) = false := by rw [hon, hoff, h.eqv.on]; cases K.on <;> rfl
 obtain ⟨pw, cw, hwv, _⟩ := h.at2.writes
 have HC : Hid (∀ W, Pr a W d K r D ks → W.cell? ⟨r, 2, none⟩ = some (.bool off) ∧ W.cell? ⟨r, 1, none⟩ = some (.slice pw D.ws.length cw)) := fun W hW => ⟨(hW.at2.cell 2).trans (by rw [hoff]; rfl), (hW.at2.cell 1).trans (by rw [← hwv]; rfl)⟩
 have HOn : Hid (∀ W, Pr a W d K r D ks → Calls Tryz.prog 31 #[.pointer (some ⟨d, 0, none⟩)] W fun e w' => e = .returned (.bool on) ∧ W = w') := fun W hW => on_any W d on ((cell_at hW.at1.blk 1).trans (by rw [hon]; rfl))
 have HU1 : Hid (∀ W, Pr a W d K r D ks → Calls Tryz.prog 76 #[.pointer (some ⟨d, 0, none⟩)] W fun e w' => e = .returned (.int .i64 (usedM D.fs : Nat)) ∧ Below W.heap.size W w') := fun W hW => by rw [← hW.eqv.used]; exact hW.at1.used
 have HU2 : Hid (∀ W, Pr a W d K r D ks → Calls Tryz.prog 77 #[.pointer (some ⟨r, 0, none⟩)] W fun e w' => e = .returned (.int .i64 (usedM D.fs : Nat)) ∧ W = w') := fun W hW => hW.at2.used
 have HD1 : Hid (∀ W, Pr a W d K r D ks → Calls Tryz.prog 78 #[.pointer (some ⟨d, 0, none⟩)] W fun e w' => e = .returned (.int .i64 (D.ws.length : Nat)) ∧ Below W.heap.size W w') := fun W hW => by rw [← hW.eqv.dirty]; exact hW.at1.dirty
 have HZ1 : Hid (∀ W s, Pr a W d K r D ks → s.size ≤ 1000 → Calls Tryz.prog 73 #[.pointer (some ⟨d, 0, none⟩), .string s] W fun e w' => e = .returned (.tuple #[.int .i64 (sizeR D s : Nat), .int .i64 (errR D s)]) ∧ Below W.heap.size W w') := fun W s hW hs => by
  have := hW.at1.sizeOf s (by unfold maxLen; omega)
  rw [hW.eqv.sizeF hW.at1 s, hW.eqv.errF hW.at1 s] at this
  exact this
 have HZ2 : Hid (∀ W s, Pr a W d K r D ks → Calls Tryz.prog 21 #[.pointer (some ⟨r, 0, none⟩), .string s] W fun e w' => e = .returned (.tuple #[.int .i64 (sizeR D s : Nat), .int .i64 (errR D s)]) ∧ Below W.heap.size W w') := fun W s hW => hW.at2.size s
 have HR1 : Hid (∀ W s z, Pr a W d K r D ks → s.size ≤ 1000 → Calls Tryz.prog 65 #[.pointer (some ⟨d, 0, none⟩), .string s, .int .i64 z] W fun e w' => e = .returned (.tuple #[.string (readR D s z).1, .int .i64 (readR D s z).2]) ∧ Below W.heap.size W w') := fun W s z hW hs => by
  have := hW.at1.read s z (by unfold maxLen; omega)
  unfold ReadPost at this
  have e := hW.eqv.read hW.at1 s z
  rw [← e]
  exact this
 have HR2 : Hid (∀ W s z, Pr a W d K r D ks → Calls Tryz.prog 66 #[.pointer (some ⟨r, 0, none⟩), .string s, .int .i64 z] W fun e w' => e = .returned (.tuple #[.string (readR D s z).1, .int .i64 (readR D s z).2]) ∧ Below W.heap.size W w') := fun W s z hW => hW.at2.read s z
 have HN : Hid (∀ s, sizeR D s ≤ 4001) := fun s => h.eqv.sizeR_le h.at1 s
 have HI : Hid (∀ s (j : Nat), j < sizeR D s → ∃ t, readR D s j = (t, 0)) := fun s j hj => readR_in hj
 generalize usedM D.fs = us at HU1 HU2
 generalize D.ws.length = dn at HD1 HC
 have kU : ((us : Int) != (us : Int)) = false := by simp
 have kD : ((dn : Int) != (dn : Int)) = false := by simp
 clear h ht hoff hon hwv
 go_enter Tryz.func24, Tryz.ntmps24
 go_upto_region 2 with (first
  | (go_at_call 74; (with_reducible refine (HL1.out _ HP.out).mono ?_); rintro e w1 ⟨v1, rfl, ho, hb⟩; have HT1 := Lib.hid (lst_texts ho HSh.out); have HP := Lib.hid (HP.out.over hb); have HB0 := Lib.hid (PB.thenBelow HB0.out hb); obtain ⟨a1, c1, rfl⟩ := PB.len_owned ho; clear ho hb)
  | (go_at_call 75; (with_reducible refine (HL2.out _ HP.out).mono ?_); rintro e w2 ⟨v2, rfl, ho, hb⟩; have HT2 := Lib.hid (lst_texts ho HSh.out); obtain ⟨a2, c2, rfl⟩ := PB.len_owned ho; have HS := Lib.hid (show SmP a w w2 d K r D ks (.slice a1 L.length c1) (.slice a2 L.length c2) L from ⟨HP.out.over hb, HT1.out.below hb, HT2.out, PB.thenBelow HB0.out hb⟩); clear ho hb HT1 HT2))
 clear HL1 HL2 HP HB0
 obtain ⟨q2, q1⟩ := HC.out _ HS.out.1
 go_region_held3 (fun W => W.cell? ⟨r, 2, none⟩ = some (.bool off) ∧ W.cell? ⟨r, 1, none⟩ = some (.slice pw dn cw)) (first | exact HC.out _ HS.out.pr | exact HC.out _ HS.out.drew.pr) ((first
  | (go_at_call 31; (with_reducible refine (HOn.out _ (by first | exact HS.out.pr | exact HS.out.drew.pr)).mono ?_); rintro e w3 ⟨rfl, rfl⟩)
  | (go_at_call 76; (with_reducible refine (HU1.out _ (by first | exact HS.out.pr | exact HS.out.drew.pr)).mono ?_); rintro e w3 ⟨rfl, hb⟩; have HS := Lib.hid (show SmP a w w3 d K r D ks (.slice a1 L.length c1) (.slice a2 L.length c2) L from (by first | exact HS.out.over hb | exact HS.out.drew.over hb)); clear hb)
  | (go_at_call 77; (with_reducible refine (HU2.out _ (by first | exact HS.out.pr | exact HS.out.drew.pr)).mono ?_); rintro e w3 ⟨rfl, rfl⟩)
  | (go_at_call 78; (with_reducible refine (HD1.out _ (by first | exact HS.out.pr | exact HS.out.drew.pr)).mono ?_); rintro e w3 ⟨rfl, hb⟩; have HS := Lib.hid (show SmP a w w3 d K r D ks (.slice a1 L.length c1) (.slice a2 L.length c2) L from (by first | exact HS.out.over hb | exact HS.out.drew.over hb)); clear hb)
  | (go_at_call 79; (with_reducible refine (same_self (by first | exact HS.out.t1 | exact HS.out.drew.t1) (by first | exact HS.out.t2 | exact HS.out.drew.t2)).mono ?_); rintro e w3 ⟨rfl, hb⟩; have HS := Lib.hid (show SmP a w w3 d K r D ks (.slice a1 L.length c1) (.slice a2 L.length c2) L from (by first | exact HS.out.over hb | exact HS.out.drew.over hb)); clear hb)))
 clear HC HOn HU1 HU2 HD1 HSh kOn kU kD
 go_wp2
 go_loopw [7] (fun vi wr => ∃ i : Nat, i ≤ L.length ∧ vi = .int .i64 i ∧ Hid (SmP a w wr d K r D ks (.slice a1 L.length c1) (.slice a2 L.length c2) L)) (fun vi _ => L.length - (RowKit.intOf vi).toNat)
 case atStart => exact ⟨0, Nat.zero_le _, rfl, HS⟩
 case round =>
  clear HS
  obtain ⟨i, hi, rfl, HS⟩ := hrel
  by_cases hil : i < L.length
  ·obtain ⟨s, hs⟩ : ∃ s, s = L[i] := ⟨_, rfl⟩
   obtain ⟨a', c', e, -, -, -, hcc⟩ := HS.out.t2
   simp only [Value.slice.injEq, true_and] at e
   obtain ⟨rfl, rfl⟩ := e
   obtain ⟨b, off2, rfl, -, -⟩ := hcc (by omega)
   clear hcc
   have HCell : Hid (∀ W, SmP a w W d K r D ks (.slice a1 L.length c1) (.slice (some ⟨b, off2, none⟩) L.length c2) L → W.cell? ⟨b, off2 + i, none⟩ = some (.string s)) := fun W hW => by
    obtain ⟨a', c', e, _, _, _, hcc⟩ := hW.t2
    simp only [Value.slice.injEq, true_and] at e
    obtain ⟨rfl, rfl⟩ := e
    obtain ⟨b', off', e2, _, hc⟩ := hcc (by omega)
    simp only [Option.some.injEq, Addr.mk.injEq, and_true] at e2
    obtain ⟨rfl, rfl⟩ := e2
    rw [hs]
    exact hc i hil
   have q0 := HCell.out wr HS.out
   have hss : s.size ≤ 1000 := hsz s (by rw [hs]; exact List.getElem_mem hil)
   have HZa := Lib.hid (fun W (hW : Pr a W d K r D ks) => HZ1.out W s hW hss)
   have HZb := Lib.hid (fun W (hW : Pr a W d K r D ks) => HZ2.out W s hW)
   have hn0 := HN.out s
   have HI0 := Lib.hid (HI.out s)
   clear hs
   generalize sizeR D s = n0 at HZa HZb hn0 HI0
   generalize errR D s = e0 at HZa HZb
   have k1 : ((n0 : Int) != (n0 : Int)) = false := by simp
   have k2 : ((e0 : Int) != (e0 : Int)) = false := by simp
   have b0 : (0 : Int) ≤ (i : Int) := by omega
   have b1 : (i : Int) < (L.length : Int) := by omega
   go_wp2_with (first
    | (go_at_call 73; go_loud ((with_reducible refine (HZa.out _ HS.out.pr).mono ?_); rintro e w4 ⟨rfl, hb⟩; have HS := Lib.hid (HS.out.over hb); have q1 := HCell.out _ HS.out; clear hb))
    | (go_at_call 21; go_loud ((with_reducible refine (HZb.out _ HS.out.pr).mono ?_); rintro e w5 ⟨rfl, hb⟩; have HS := Lib.hid (HS.out.over hb); clear hb)))
   clear HZa HZb k1 k2 q0
   go_loopw [12] (fun vj wj => ∃ j : Nat, j ≤ n0 ∧ vj = .int .i64 j ∧ Hid (SmP a w wj d K r D ks (.slice a1 L.length c1) (.slice (some ⟨b, off2, none⟩) L.length c2) L)) (fun vj _ => n0 - (RowKit.intOf vj).toNat)
   case atStart => exact ⟨0, Nat.zero_le _, rfl, HS⟩
   case round =>
    clear HS
    obtain ⟨j, hj, rfl, HS⟩ := hrel
    by_cases hjl : j < n0
    ·obtain ⟨t, ht⟩ := HI0.out j hjl
     have HRa : Hid (∀ W, Pr a W d K r D ks → Calls Tryz.prog 65 #[.pointer (some ⟨d, 0, none⟩), .string s, .int .i64 j] W fun e w' => e = .returned (.tuple #[.string t, .int .i64 0]) ∧ Below W.heap.size W w') := fun W hW => by
      have h9 := HR1.out W s j hW hss
      rw [ht] at h9
      exact h9
     have HRb : Hid (∀ W, Pr a W d K r D ks → Calls Tryz.prog 66 #[.pointer (some ⟨r, 0, none⟩), .string s, .int .i64 j] W fun e w' => e = .returned (.tuple #[.string t, .int .i64 0]) ∧ Below W.heap.size W w') := fun W hW => by
      have h9 := HR2.out W s j hW
      rw [ht] at h9
      exact h9
     have kt : (t.toList == t.toList) = true := beq_self_eq_true _
     have kj : (j : Int) < (n0 : Int) := by omega
     have p0 := HCell.out _ HS.out
     clear ht
     go_wp2_with (first
      | (go_at_call 65; (with_reducible refine (HRa.out _ HS.out.pr).mono ?_); rintro e w6 ⟨rfl, hb⟩; have HS := Lib.hid (HS.out.over hb); have p1 := HCell.out _ HS.out; clear hb)
      | (go_at_call 66; (with_reducible refine (HRb.out _ HS.out.pr).mono ?_); rintro e w7 ⟨rfl, hb⟩; have HS := Lib.hid (HS.out.over hb); clear hb))
     go_roundw
     case rel => exact ⟨j + 1, by omega, by go_num, HS⟩
     case measure => simp [RowKit.intOf]; omega
    ·go_wp2
     go_roundw
     case rel => exact ⟨i + 1, by omega, by go_num, HS⟩
     case measure => simp [RowKit.intOf]; omega
  ·go_wp2
   go_ret
   exact ⟨rfl, HS.out.bel⟩
end
end Go.Proofs.YtbkngnjkaledlaaGreat.P4
namespace Go.Proofs.YtbkngnjkaledlaaGreat.P8
open Go Go.RowKit Go.Lib Go.Maps Go.ChangeMaps Go.MapKept P3 P4
section
variable {a w w' w1 w2 W : World} {d r b fb m : Nat} {K K1 K2 : Dk} {D D1 : RM} {ks : List Int} {s : ByteArray} {n : Int} {X : List (Nat × Obj)} {z : Int}
theorem SS.stepR {ks' : List Int} (h : SS a w d K r D ks b s n X) (h2 : RStep a.heap.size w r D w1 D1) (h1 : Step w1 d K w2 K1) (he : Eqv K1 D1 ks') (hk : IntsIn a D1.kv ks') : SS a w2 d K1 r D1 ks' b s n X := by
 have hp := h.pr
 have hlK : ∀ k, K.foot d k → k < w.heap.size := hp.at1.foot_lt
 have hsz : w.heap.size ≤ w1.heap.size := h2.fr.size
 have hD1 : ∀ k, D1.foot r k → k < w1.heap.size := fun k hk => h2.at'.foot_lt hk
 have hap : ∀ k, D1.foot r k → ¬ K.foot d k := fun k hk q => by
  rcases h2.foot k hk with e | e
  ·exact hp.apart k q e
  ·have := hlK k q; omega
 have hkeep : ∀ k, k < w.heap.size → ¬ K.foot d k → ¬ D.foot r k → ¬ K1.foot d k ∧ ¬ D1.foot r k := fun k hlt q1 q2 => by
  constructor
  ·intro q
   rcases h1.foot k q with e | e
   ·exact q1 e
   ·omega
  ·intro q
   rcases h2.foot k q with e | e
   ·exact q2 e
   ·omega
 have hstay : ∀ (k : Nat) (o : Obj), w.heap[k]? = some o → ¬ K.foot d k → ¬ D.foot r k → w2.heap[k]? = some o := fun k o ho q1 q2 => h1.fr.keep (h2.fr.keep ho (fun q => q2 (.inl q))) q1
 refine ⟨⟨h1.at', h2.at'.frS h1.fr hap, he, hk, fun k hk => ?_, fun k hk q => ?_, ?_⟩, hstay b _ h.st h.kb h.db, (hkeep b h.st.lt h.kb h.db).1, (hkeep b h.st.lt h.kb h.db).2, h.lo, fun p hp' => ?_⟩
 ·rcases h1.foot k hk with e | e
  ·exact hp.f1 k e
  ·exact Nat.le_trans hp.below.size (Nat.le_trans hsz e)
 ·rcases h1.foot k hk with e | e
  ·exact hap k q e
  ·have := hD1 k q; omega
 ·exact Fr.new (Fr.new hp.below h2.fr hp.own_lo) h1.fr hp.f1
 ·obtain ⟨q1, q2, q3, q4⟩ := h.x p hp'
  have q5 := hkeep p.1 (P3.lt_of_block q1) q2 q3
  exact ⟨hstay _ _ q1 q2 q3, q5.1, q5.2, q4⟩
theorem SS.sync (h : SS a w d K r D ks b s n X) (ht : K.turn < 8990) (hs : s.size ≤ maxLen) :
  Calls Tryz.prog 13 #[.pointer (some ⟨r, 0, none⟩), .string s] w fun e w1 => ∃ z : Int, e = .returned (.int .i64 z) ∧ (∀ p ∈ X, w1.heap[p.1]? = some p.2) ∧ ∀ W, Below w1.heap.size w1 W → Calls Tryz.prog 14 #[.pointer (some ⟨b, 0, none⟩)] W fun e w2 => e = .returned (.int .i64 (if z = 8 then 0 else z)) ∧ ∃ K1 D1, SS a w2 d K1 r D1 ks b s n X ∧ K1.turn ≤ K.turn + 75 := by
 have hp := h.pr
 have he := hp.eqv.errF hp.at1 s
 obtain ⟨s1, s2, s3, s4⟩ := hp.eqv.sizes hp.at1 (by omega)
 refine (hp.at2.sync2 s ks hp.eqv.h0 hp.eqv.nle (fun f hf => (s2 f hf).1) (fun x hx => ⟨(s1 x hx).2.2, by have := (s1 x hx).1; omega⟩) hp.kvs (fun ho W' hW' hF => hp.rcr (by omega) ho hW' ((hp.intsR (fun k hk => (hp.at2.own_lt hk).1) hp.kint).fr hF))).mono ?_
 rintro e w1 hr
 have key : ∀ (z : Int) (D1 : RM), RStep a.heap.size w r D w1 D1 → D1.kv = D.kv →
   ((errR D s ≠ 0 ∧ z = errR D s ∧ D1 = D) ∨ (errR D s = 0 ∧ D.fallsB = true ∧ z = 14 ∧ CrM D D1 (kapM ks)) ∨ (errR D s = 0 ∧ D.fallsB = false ∧ z = 0 ∧ ∃ i f u, atN D.fs s = some i ∧ D.fs[i]? = some f ∧ D1 = D.count.sync i f u)) →
   (∀ p ∈ X, w1.heap[p.1]? = some p.2) ∧ ∀ W, Below w1.heap.size w1 W → Calls Tryz.prog 14 #[.pointer (some ⟨b, 0, none⟩)] W fun e w2 => e = .returned (.int .i64 (if z = 8 then 0 else z)) ∧ ∃ K1 D1, SS a w2 d K1 r D1 ks b s n X ∧ K1.turn ≤ K.turn + 75 := by
  intro z D1 hst hkv hcase
  have hK1 : DiskAt w1 d K := hp.at1.fr hst.fr fun k hk q => hp.apart k hk (.inl q)
  have hS1 : StAt w1 b d s n := h.st.fr hst.fr fun q => h.db (.inl q)
  refine ⟨fun p hp' => hst.fr.keep (h.x p hp').1 (fun q => (h.x p hp').2.2.1 (.inl q)), fun W hW => ?_⟩
  refine (stsync_of (Q := fun x w2 => x = z ∧ ∃ K1 D1, SS a w2 d K1 r D1 ks b s n X ∧ K1.turn ≤ K.turn + 75) (hS1.below hW) ?_).mono ?_
  ·intro W2 hW2
   have hKW := (hK1.below hW).below hW2
   have hb12 : Below w1.heap.size w1 W2 := thenBelow hW hW2
   refine (hKW.sync s hs hp.eqv.leftle).mono ?_
   intro e w2 hq
   have fin : ∀ (x : Int) (K2 : Dk), e = .returned (.int .i64 x) → Step W2 d K w2 K2 → x = z → Eqv K2 D1 ks → K2.turn ≤ K.turn + 75 → ∃ x : Int, e = .returned (.int .i64 x) ∧ StAt w2 b d s n ∧ x = z ∧ ∃ K1 D1, SS a w2 d K1 r D1 ks b s n X ∧ K1.turn ≤ K.turn + 75 := fun x K2 e1 e2 e3 e4 e5 => by
    have q := h.stepR hst ((Step.below hK1 hb12).trans e2) e4 (by rw [hkv]; exact hp.kint)
    exact ⟨x, e1, q.st, e3, K2, D1, q, e5⟩
   cases hq with
   | err h1 h2 =>
    rw [he] at h1
    rcases hcase with ⟨_, rfl, rfl⟩ | ⟨q1, _⟩ | ⟨q1, _⟩
    ·exact fin _ K rfl (Step.below hKW h2) he hp.eqv (by omega)
    ·exact absurd q1 h1
    ·exact absurd q1 h1
   | @falls w0 _ n0 K' h1 h2 h3 h4 h5 =>
    rw [he] at h1
    obtain ⟨hfb, hk⟩ := hp.eqv.fb1 h2 h3
    rw [hk] at h5
    rcases hcase with ⟨q1, _⟩ | ⟨_, _, rfl, hcm⟩ | ⟨_, q2, _⟩
    ·exact absurd h1 q1
    ·exact fin _ K' rfl ((Step.below hKW h4).trans h5.step) rfl (hp.eqv.crash (hKW.below h4) h5 hcm).2 (by rw [h5.eq]; show K.turn ≤ _; omega)
    ·rw [hfb] at q2; cases q2
   | @done _ F h1 h2 h3 h4 =>
    rw [he] at h1
    rcases hcase with ⟨q1, _⟩ | ⟨_, q2, _⟩ | ⟨_, hfb, rfl, i, f, u, hat, hi', rfl⟩
    ·exact absurd h1 q1
    ·rw [hp.eqv.fb0 h2] at q2; cases q2
    ·exact fin _ _ rfl h4 rfl (hp.eqv.sync hp.at1 hfb hat hi' h3) (by show (counted K).turn ≤ _; rw [count_turn]; omega)
  ·rintro e w2 ⟨x, rfl, _, rfl, hfin⟩
   exact ⟨rfl, hfin⟩
 cases hr with
 | err h1 h2 h3 => exact ⟨_, h2, key _ D (RStep.below hp.at2 h3) rfl (.inl ⟨h1, rfl, rfl⟩)⟩
 | falls h1 h2 h3 n0 hc =>
  obtain ⟨E, hs', hcm⟩ := hc.kv
  exact ⟨14, h3, key 14 E hs' hcm.kv (.inr (.inl ⟨h1, h2, rfl, hcm⟩))⟩
 | done h1 h2 h3 i f hat hi' u hs' => exact ⟨0, h3, key 0 _ hs' (count_kv D) (.inr (.inr ⟨h1, h2, rfl, i, f, u, hat, hi', rfl⟩))⟩
theorem act_any8 (h : Pr a w d K r D ks) (ht : K.turn < 8990) (o : OpV) (ho : ActOk a o) (hlen : o.L.length ≤ 10000) :
  Calls Tryz.prog 16 #[.pointer (some ⟨d, 0, none⟩), .pointer (some ⟨r, 0, none⟩), .agg o.cells] w (ActP a w d K r D) := by
 by_cases h1 : o.kind = 1
 ·exact act_1 h ht o ho hlen h1
 by_cases h2 : o.kind = 2
 ·exact act_2 h ht o ho hlen h2
 by_cases h3 : o.kind = 3
 ·exact act_3 h ht o ho hlen h3
 by_cases h4 : o.kind = 4
 ·exact act_4 h ht o ho hlen h4
 by_cases h5 : o.kind = 5
 ·exact act_5 h ht o ho hlen h5
 by_cases h6 : o.kind = 6
 ·exact act_6 h ht o ho hlen h6
 by_cases h7 : o.kind = 7
 ·exact act_7 h ht o ho hlen h7
 by_cases h8 : o.kind = 8
 ·exact act_8 h ht o ho hlen h8
 by_cases h9 : o.kind = 9
 ·exact act_9 h ht o ho hlen h9
 by_cases h10 : o.kind = 10
 ·exact act_10 h ht o ho hlen h10
 ·exact act_none h ht o ho hlen fun k hk1 hk2 e => by omega
def ST (a W : World) (d r b : Nat) (s : ByteArray) (n : Int) (X : List (Nat × Obj)) (t : Nat) : Prop := ∃ K D ks, SS a W d K r D ks b s n X ∧ K.turn ≤ t
theorem ST.over {t : Nat} (h : ST a w d r b s n X t) (hb : Below w.heap.size w w') : ST a w' d r b s n X t := by
 obtain ⟨K, D, ks, h1, h2⟩ := h
 exact ⟨K, D, ks, h1.over hb, h2⟩
theorem ST.below {t : Nat} (h : ST a w d r b s n X t) : Below a.heap.size a w := by
 obtain ⟨K, D, ks, h1, h2⟩ := h
 exact h1.pr.below
theorem ST.sub {t t' : Nat} (h : ST a w d r b s n X t) {Y : List (Nat × Obj)} (hY : ∀ p ∈ Y, p ∈ X) (ht : t ≤ t') : ST a w d r b s n Y t' := by
 obtain ⟨K, D, ks, h1, h2⟩ := h
 exact ⟨K, D, ks, h1.sub hY, by omega⟩
theorem ST.add {t : Nat} (h : ST a w d r b s n X t) (cs : Array Value) (ty : TypeId) : ST a (w.alloc (.cells cs ty)) d r b s n ((w.heap.size, Obj.cells cs ty (0, 0)) :: X) t := by
 obtain ⟨K, D, ks, h1, h2⟩ := h
 exact ⟨K, D, ks, h1.add cs ty, h2⟩
theorem ST.x {t : Nat} (h : ST a w d r b s n X t) : ∀ p ∈ X, w.heap[p.1]? = some p.2 := by
 obtain ⟨K, D, ks, h1, h2⟩ := h
 exact fun p hp => (h1.x p hp).1
theorem ST.act {t : Nat} (h : ST a w d r b s n X t) (ht : t < 8990) (o : OpV) (ho : ActOk a o) (hlen : o.L.length ≤ 10000) :
  Calls Tryz.prog 16 #[.pointer (some ⟨d, 0, none⟩), .pointer (some ⟨r, 0, none⟩), .agg o.cells] w fun e w' => e = .returned (.bool true) ∧ ST a w' d r b s n X (t + 75) := by
 obtain ⟨K, D, ks, h1, h2⟩ := h
 refine (act_any8 h1.pr (by omega) o ho hlen).mono ?_
 rintro e w' ⟨rfl, K1, D1, ks1, hs⟩
 exact ⟨rfl, K1, D1, ks1, h1.pstep hs, by have := hs.tn; omega⟩
abbrev BothT (a : World) (d r b : Nat) (s : ByteArray) (n : Int) (X : List (Nat × Obj)) (t : Nat) (w : World) (f1 f2 : Nat) (a1 a2 : Array Value) : Prop :=
 Calls Tryz.prog f1 a1 w fun e w1 => ∃ z : Int, e = .returned (.int .i64 z) ∧ (∀ p ∈ X, w1.heap[p.1]? = some p.2) ∧ ∀ W, Below w1.heap.size w1 W → Calls Tryz.prog f2 a2 W fun e w2 => e = .returned (.int .i64 z) ∧ ST a w2 d r b s n X t
theorem ST.put {t : Nat} (h : ST a w d r b s n X t) (hf : (fb, Obj.cells #[.pointer (some ⟨r, 0, none⟩), .string s] 38 (0, 0)) ∈ X) (h1 : 1 ≤ s.size) (h2 : s.size ≤ 40) (ht : t ≤ 6000) {v : Value} {l : List P5.Pg} (hv : PagesIn a v l) (hl : ∀ p ∈ l, p.id ≤ 60) (h12 : l.length ≤ 12) :
  BothT a d r b s n X (t + 75) w 9 10 #[.pointer (some ⟨b, 0, none⟩), v] #[.pointer (some ⟨fb, 0, none⟩), v] := by
 obtain ⟨K, D, ks, q1, q2⟩ := h
 refine (q1.put hf h1 h2 (by omega) hv hl h12).mono ?_
 rintro e w1 ⟨z, rfl, hx, hc⟩
 refine ⟨z, rfl, hx, fun W hW => (hc W hW).mono ?_⟩
 rintro e w2 ⟨rfl, K1, D1, hs, htt⟩
 exact ⟨rfl, K1, D1, ks, hs, by omega⟩
theorem ST.setMeta {t : Nat} (h : ST a w d r b s n X t) (hf : (fb, Obj.cells #[.pointer (some ⟨r, 0, none⟩), .string s] 38 (0, 0)) ∈ X) (h1 : 1 ≤ s.size) (h2 : s.size ≤ 40) (ht : t ≤ 6000) (mt : P6.Mt) :
  BothT a d r b s n X (t + 75) w 11 12 #[.pointer (some ⟨b, 0, none⟩), .agg #[.int .i64 mt.tx, .int .i64 mt.root, .int .i64 mt.free, .int .i64 mt.pages]] #[.pointer (some ⟨fb, 0, none⟩), .agg #[.int .i64 mt.tx, .int .i64 mt.root, .int .i64 mt.free, .int .i64 mt.pages]] := by
 obtain ⟨K, D, ks, q1, q2⟩ := h
 refine (q1.setMeta hf h1 h2 (by omega) mt).mono ?_
 rintro e w1 ⟨z, rfl, hx, hc⟩
 refine ⟨z, rfl, hx, fun W hW => (hc W hW).mono ?_⟩
 rintro e w2 ⟨rfl, K1, D1, hs, htt⟩
 exact ⟨rfl, K1, D1, ks, hs, by omega⟩
theorem ST.sync {t : Nat} (h : ST a w d r b s n X t) (ht : t ≤ 6000) (hs : s.size ≤ maxLen) :
  Calls Tryz.prog 13 #[.pointer (some ⟨r, 0, none⟩), .string s] w fun e w1 => ∃ z : Int, e = .returned (.int .i64 z) ∧ (∀ p ∈ X, w1.heap[p.1]? = some p.2) ∧ ∀ W, Below w1.heap.size w1 W → Calls Tryz.prog 14 #[.pointer (some ⟨b, 0, none⟩)] W fun e w2 => e = .returned (.int .i64 (if z = 8 then 0 else z)) ∧ ST a w2 d r b s n X (t + 75) := by
 obtain ⟨K, D, ks, q1, q2⟩ := h
 refine (q1.sync (by omega) hs).mono ?_
 rintro e w1 ⟨z, rfl, hx, hc⟩
 refine ⟨z, rfl, hx, fun W hW => (hc W hW).mono ?_⟩
 rintro e w2 ⟨rfl, K1, D1, hs', htt⟩
 exact ⟨rfl, K1, D1, ks, hs', by omega⟩
end
def RM.new8 (room : Int) : RM := ⟨.slice none 0 0, .slice none 0 0, .slice none 0 0, [], [], false, room, false, 0, 0⟩
theorem pr_new {a w w1 : World} {room : Int} (ha : Below a.heap.size a w) (hb : Below w.heap.size w w1)
  (hn : w1.heap[w.heap.size]? = some (.cells #[.map none, .bool true, .int .i64 room, .int .i64 0, .bool false, .int .i64 0, .slice none 0 0] 73 (0, 0))) :
  Pr a (w1.alloc (.cells (RM.new8 room).cells.toArray 31)) w.heap.size (Dk.new room) w1.heap.size (RM.new8 room) [] := by
 have hb2 := P3.below_new w1 (.cells (RM.new8 room).cells.toArray 31)
 have hlt : w.heap.size < w1.heap.size := (Array.getElem?_eq_some_iff.1 hn).1
 have hK : ∀ k, (Dk.new room).foot w.heap.size k → k = w.heap.size := fun k hk => by
  rcases hk with rfl | hk | ⟨p, hp, _⟩ | hk
  ·rfl
  ·cases hk
  ·cases hp
  ·cases hk
 have hD : ∀ k, (RM.new8 room).foot w1.heap.size k → k = w1.heap.size := fun k hk => by
  rcases hk with (rfl | hk | hk) | ⟨f, hf, _⟩
  ·rfl
  ·cases hk
  ·cases hk
  ·cases hf
 have haw := ha.size
 refine ⟨(new_at_disk hn).below hb2, ?_, ?_, ⟨none, 0, rfl, by simp, fun h => absurd h (Nat.lt_irrefl _)⟩, fun k hk => by rw [hK k hk]; exact haw, fun k hk q => by have h1 := hK k hk; have h2 := hD k q; omega, thenBelow ha (thenBelow hb hb2)⟩
 ·exact ⟨P3.new_at _ _ _, Nat.le_of_lt (Nat.lt_of_le_of_lt haw hlt), World.ownsRow_nil _ _ _ _, World.ownsRow_nil _ _ _ _, fun f hf => (by cases hf), Nat.zero_le _, Nat.zero_le _, fun f hf => (by cases hf)⟩
 ·exact ⟨List.Perm.refl _, rfl, rfl, rfl, fun h => (by cases h), fun _ => ⟨rfl, rfl⟩, (by show (0 : Int) ≤ _; decide), Nat.zero_le _, ⟨List.Pairwise.nil, fun x hx => (by cases hx), fun x hx => (by cases hx), List.nodup_nil, fun x hx => (by cases hx), Nat.le_refl _, fun x hx => (by cases hx)⟩⟩
theorem st_new {a w : World} {d r b : Nat} {room : Int} {s : ByteArray} (hp : Pr a w d (Dk.new room) r (RM.new8 room) []) (hs : StAt w b d s 0) (hk : ¬ (Dk.new room).foot d b) (hd : ¬ (RM.new8 room).foot r b) (hlo : a.heap.size ≤ b) :
  ST a (w.alloc (.cells #[.pointer (some ⟨r, 0, none⟩), .string s] 38)) d r b s 0 [(w.heap.size, Obj.cells #[.pointer (some ⟨r, 0, none⟩), .string s] 38 (0, 0))] 0 := by
 have h0 : SS a w d (Dk.new room) r (RM.new8 room) [] b s 0 [] := ⟨hp, hs, hk, hd, hlo, fun p hp => by cases hp⟩
 exact ⟨Dk.new room, RM.new8 room, [], h0.add _ _, Nat.le_refl _⟩
end Go.Proofs.YtbkngnjkaledlaaGreat.P8
namespace Go.Proofs.YtbkngnjkaledlaaGreat.P8
open Go Go.RowKit Go.Lib Go.WideShapes Go.ChangeShapes Go.ChangeAt
open P5 (Pg)
theorem cellsPage8 : Tryz.prog.cellsOf 47 = 4 := by kernel_rfl
theorem cellsInt8 : Tryz.prog.cellsOf 3 = 1 := by kernel_rfl
theorem cellsStr8 : Tryz.prog.cellsOf 9 = 1 := by kernel_rfl
section
variable {H : Type} {enc : TypeId × Value → H} {w : World} {base : Nat} {sp : Nat → Bool} {held : Bool}
theorem page_cells {n : Nat} {cs : List Value} {x : DataW H × List MemPlace} (h : DataW.trod enc Tryz.prog w base sp held n 47 cs = some x) : ∃ o : Pg, cs = o.cells.toList := by
 obtain ⟨xs, m, _, _, hl, hxl, hf⟩ := DataW.trod_struct Tryz.underlying47 h
 rw [cellsPage8] at hl
 match cs, hl with
 | [c0, c1, c2, c3], _ =>
  have hx : ∀ i, i < 4 → ∃ y, xs[i]? = some y := fun i hi => ⟨_, List.getElem?_eq_getElem (by rw [hxl]; exact hi)⟩
  obtain ⟨y0, e0⟩ := hx 0 (by omega)
  obtain ⟨y1, e1⟩ := hx 1 (by omega)
  obtain ⟨y2, e2⟩ := hx 2 (by omega)
  obtain ⟨y3, e3⟩ := hx 3 (by omega)
  have f0 : DataW.trod enc Tryz.prog w base sp held m 3 (([c0, c1, c2, c3].drop 0).take (Tryz.prog.cellsOf 3)) = some y0 := (hf 0 _ rfl).trans e0
  have f1 : DataW.trod enc Tryz.prog w base sp held m 3 (([c0, c1, c2, c3].drop 1).take (Tryz.prog.cellsOf 3)) = some y1 := (hf 1 _ rfl).trans e1
  have f2 : DataW.trod enc Tryz.prog w base sp held m 3 (([c0, c1, c2, c3].drop 2).take (Tryz.prog.cellsOf 3)) = some y2 := (hf 2 _ rfl).trans e2
  have f3 : DataW.trod enc Tryz.prog w base sp held m 9 (([c0, c1, c2, c3].drop 3).take (Tryz.prog.cellsOf 9)) = some y3 := (hf 3 _ rfl).trans e3
  rw [cellsInt8] at f0 f1 f2
  rw [cellsStr8] at f3
  obtain ⟨k, g0, _, w0⟩ := DataW.trod_int Tryz.underlying3 f0
  obtain ⟨p, g1, _, w1⟩ := DataW.trod_int Tryz.underlying3 f1
  obtain ⟨q, g2, _, w2⟩ := DataW.trod_int Tryz.underlying3 f2
  obtain ⟨t, g3, _, w3⟩ := DataW.trod_string Tryz.underlying9 f3
  obtain rfl : c0 = .int .i64 k := by simpa using g0
  obtain rfl : c1 = .int .i64 p := by simpa using g1
  obtain rfl : c2 = .int .i64 q := by simpa using g2
  obtain rfl : c3 = .string t := by simpa using g3
  exact ⟨⟨k, p, q, t⟩, rfl⟩
theorem pages_open {n : Nat} {v : Value} {x : DataW H × List MemPlace} (h : DataW.trod enc Tryz.prog w base sp held n 39 [v] = some x) : ∃ l, PagesIn w v l := by
 rcases Deep.open_slice Tryz.underlying39 h with ⟨hv, _⟩ | ⟨a, len, cap, m, q, D, Pl, hv, _, hl, hm, hmm, hx, hi⟩
 ·simp only [List.cons.injEq, and_true] at hv
  exact ⟨[], none, 0, hv, by simp, fun h => absurd h (Nat.lt_irrefl _)⟩
 ·simp only [List.cons.injEq, and_true] at hv
  have hlm : len ≤ m := by rw [hmm]; split <;> omega
  have hch : ∀ i, i < len → ∃ o : Pg, (∀ j, j < 4 → w.cell? ((a.add (i * 4)).add j) = o.cells.toList[j]?) := fun i hil => by
   obtain ⟨cs', h1, h2⟩ := hi i (by omega)
   obtain ⟨o, rfl⟩ := page_cells h2
   rw [cellsPage8] at h1
   exact ⟨o, (World.cells?_some h1).2.2⟩
  obtain ⟨f, hf⟩ : ∃ f : Nat → Pg, ∀ i, i < len → (∀ j, j < 4 → w.cell? ((a.add (i * 4)).add j) = (f i).cells.toList[j]?) := by
   refine ⟨fun i => if h : i < len then Classical.choose (hch i h) else Pg.zero, fun i hil => ?_⟩
   simp only [hil, dif_pos]
   exact Classical.choose_spec (hch i hil)
  refine ⟨(List.range len).map f, some a, cap, by rw [hv]; simp, by simp; unfold maxLen at hm; omega, fun h0 => ?_⟩
  have h0' : 0 < len := by simpa using h0
  obtain ⟨b, off, spot⟩ := a
  have hc0 := hf 0 h0' 0 (by omega)
  have hspot : spot = none := by
   have := World.cell?_spot (w := w) (a := ((⟨b, off, spot⟩ : Addr).add (0 * 4)).add 0) hc0
   simpa [Addr.add] using this
  subst hspot
  have hadd : ∀ i j : Nat, ((⟨b, off, none⟩ : Addr).add (i * 4)).add j = ⟨b, off + i * 4 + j, none⟩ := fun i j => by
   rw [Go.WideShapes.add_plain, Go.WideShapes.add_plain]
  refine ⟨b, off, rfl, ?_, fun i o hio => ?_⟩
  ·rw [hadd] at hc0
   exact World.block_lt_of_cell? w _ hc0
  ·have hil : i < len := by have := (List.getElem?_eq_some_iff.1 hio).1; simpa using this
   rw [List.getElem?_map, List.getElem?_range hil] at hio
   obtain rfl : f i = o := by simpa using hio
   intro j u hju
   have hj4 : j < 4 := (List.getElem?_eq_some_iff.1 hju).1
   have h1 := hf i hil j hj4
   rw [hadd, hju] at h1
   exact h1
end
end Go.Proofs.YtbkngnjkaledlaaGreat.P8
namespace Go.Proofs.YtbkngnjkaledlaaGreat.P8
open Go Go.RowKit Go.Lib Go.Maps Go.ChangeMaps Go.MapKept P3 P4
open P5 (Pg)
open P6 (Mt)
structure OpW where
 kind : Int
 A : Int
 la : Option Addr
 lc : Nat
 L : List Pg
 M : Mt
 D : OpV
abbrev OpW.cells (o : OpW) : Array Value := #[.int .i64 o.kind, .int .i64 o.A, .slice o.la o.L.length o.lc, .int .i64 o.M.tx, .int .i64 o.M.root, .int .i64 o.M.free, .int .i64 o.M.pages, .int .i64 o.D.kind, .string o.D.S, .string o.D.T, .int .i64 o.D.A, .int .i64 o.D.B, .bool o.D.own, .slice o.D.a o.D.L.length o.D.c]
theorem cellsOp8 : Tryz.prog.cellsOf 45 = 14 := by kernel_rfl
theorem cellsPages8 : Tryz.prog.cellsOf 39 = 1 := by kernel_rfl
theorem cellsMeta8 : Tryz.prog.cellsOf 41 = 4 := by kernel_rfl
structure OpOk (w : World) (o : OpW) : Prop where
 L : PagesIn w (.slice o.la o.L.length o.lc) o.L
 D : ActOk w o.D
section
variable {H : Type} {enc : TypeId × Value → H} {w : World} {base : Nat} {sp : Nat → Bool} {held : Bool}
theorem meta_cells8 {n : Nat} {cs : List Value} {x : DataW H × List MemPlace} (h : DataW.trod enc Tryz.prog w base sp held n 41 cs = some x) : ∃ o : Mt, cs = o.cells.toList := by
 obtain ⟨xs, m, _, _, hl, hxl, hf⟩ := DataW.trod_struct Tryz.underlying41 h
 rw [cellsMeta8] at hl
 match cs, hl with
 | [c0, c1, c2, c3], _ =>
  have hx : ∀ i, i < 4 → ∃ y, xs[i]? = some y := fun i hi => ⟨_, List.getElem?_eq_getElem (by rw [hxl]; exact hi)⟩
  obtain ⟨y0, e0⟩ := hx 0 (by omega)
  obtain ⟨y1, e1⟩ := hx 1 (by omega)
  obtain ⟨y2, e2⟩ := hx 2 (by omega)
  obtain ⟨y3, e3⟩ := hx 3 (by omega)
  have f0 : DataW.trod enc Tryz.prog w base sp held m 3 (([c0, c1, c2, c3].drop 0).take (Tryz.prog.cellsOf 3)) = some y0 := (hf 0 _ rfl).trans e0
  have f1 : DataW.trod enc Tryz.prog w base sp held m 3 (([c0, c1, c2, c3].drop 1).take (Tryz.prog.cellsOf 3)) = some y1 := (hf 1 _ rfl).trans e1
  have f2 : DataW.trod enc Tryz.prog w base sp held m 3 (([c0, c1, c2, c3].drop 2).take (Tryz.prog.cellsOf 3)) = some y2 := (hf 2 _ rfl).trans e2
  have f3 : DataW.trod enc Tryz.prog w base sp held m 3 (([c0, c1, c2, c3].drop 3).take (Tryz.prog.cellsOf 3)) = some y3 := (hf 3 _ rfl).trans e3
  rw [cellsInt8] at f0 f1 f2 f3
  obtain ⟨k, g0, _, w0⟩ := DataW.trod_int Tryz.underlying3 f0
  obtain ⟨p, g1, _, w1⟩ := DataW.trod_int Tryz.underlying3 f1
  obtain ⟨q, g2, _, w2⟩ := DataW.trod_int Tryz.underlying3 f2
  obtain ⟨t, g3, _, w3⟩ := DataW.trod_int Tryz.underlying3 f3
  obtain rfl : c0 = .int .i64 k := by simpa using g0
  obtain rfl : c1 = .int .i64 p := by simpa using g1
  obtain rfl : c2 = .int .i64 q := by simpa using g2
  obtain rfl : c3 = .int .i64 t := by simpa using g3
  exact ⟨⟨k, p, q, t⟩, rfl⟩
theorem op_open8 {n : Nat} {cs : List Value} {x : DataW H × List MemPlace} (h : DataW.trod enc Tryz.prog w base sp held n 45 cs = some x) : ∃ o : OpW, cs = o.cells.toList ∧ OpOk w o := by
 obtain ⟨xs, m, _, _, hl, hxl, hf⟩ := DataW.trod_struct Tryz.underlying45 h
 rw [cellsOp8] at hl
 match cs, hl with
 | [c0, c1, c2, c3, c4, c5, c6, c7, c8, c9, c10, c11, c12, c13], _ =>
  have hx : ∀ i, i < 5 → ∃ y, xs[i]? = some y := fun i hi => ⟨_, List.getElem?_eq_getElem (by rw [hxl]; exact hi)⟩
  obtain ⟨y0, e0⟩ := hx 0 (by omega)
  obtain ⟨y1, e1⟩ := hx 1 (by omega)
  obtain ⟨y2, e2⟩ := hx 2 (by omega)
  obtain ⟨y3, e3⟩ := hx 3 (by omega)
  obtain ⟨y4, e4⟩ := hx 4 (by omega)
  have f0 : DataW.trod enc Tryz.prog w base sp held m 3 (([c0, c1, c2, c3, c4, c5, c6, c7, c8, c9, c10, c11, c12, c13].drop 0).take (Tryz.prog.cellsOf 3)) = some y0 := (hf 0 _ rfl).trans e0
  have f1 : DataW.trod enc Tryz.prog w base sp held m 3 (([c0, c1, c2, c3, c4, c5, c6, c7, c8, c9, c10, c11, c12, c13].drop 1).take (Tryz.prog.cellsOf 3)) = some y1 := (hf 1 _ rfl).trans e1
  have f2 : DataW.trod enc Tryz.prog w base sp held m 39 (([c0, c1, c2, c3, c4, c5, c6, c7, c8, c9, c10, c11, c12, c13].drop 2).take (Tryz.prog.cellsOf 39)) = some y2 := (hf 2 _ rfl).trans e2
  have f3 : DataW.trod enc Tryz.prog w base sp held m 41 (([c0, c1, c2, c3, c4, c5, c6, c7, c8, c9, c10, c11, c12, c13].drop 3).take (Tryz.prog.cellsOf 41)) = some y3 := (hf 3 _ rfl).trans e3
  have f4 : DataW.trod enc Tryz.prog w base sp held m 43 (([c0, c1, c2, c3, c4, c5, c6, c7, c8, c9, c10, c11, c12, c13].drop 7).take (Tryz.prog.cellsOf 43)) = some y4 := (hf 4 _ rfl).trans e4
  rw [cellsInt8] at f0 f1
  rw [cellsPages8] at f2
  rw [cellsMeta8] at f3
  rw [cellsOp4] at f4
  obtain ⟨k, g0, _, w0⟩ := DataW.trod_int Tryz.underlying3 f0
  obtain ⟨a, g1, _, w1⟩ := DataW.trod_int Tryz.underlying3 f1
  obtain ⟨l, hl2⟩ := pages_open (v := c2) f2
  obtain ⟨M, hM⟩ := meta_cells8 f3
  obtain ⟨D, hD, hok⟩ := act_open f4
  have hM' : [c3, c4, c5, c6] = [Value.int .i64 M.tx, .int .i64 M.root, .int .i64 M.free, .int .i64 M.pages] := hM
  have hD' : [c7, c8, c9, c10, c11, c12, c13] = [Value.int .i64 D.kind, .string D.S, .string D.T, .int .i64 D.A, .int .i64 D.B, .bool D.own, .slice D.a D.L.length D.c] := hD
  simp only [List.cons.injEq, and_true] at hM' hD'
  obtain ⟨rfl, rfl, rfl, rfl⟩ := hM'
  obtain ⟨rfl, rfl, rfl, rfl, rfl, rfl, rfl⟩ := hD'
  obtain rfl : c0 = .int .i64 k := by simpa using g0
  obtain rfl : c1 = .int .i64 a := by simpa using g1
  have hl3 := hl2
  obtain ⟨la, lc, rfl, _⟩ := hl3
  exact ⟨⟨k, a, la, lc, l, M, D⟩, rfl, ⟨hl2, hok⟩⟩
def OpsIn (w : World) (v : Value) (l : List OpW) : Prop :=
 ∃ a c, v = .slice a l.length c ∧ l.length ≤ 9223372036854775807 ∧ (0 < l.length → ∃ b off, a = some ⟨b, off, none⟩ ∧ b < w.heap.size ∧ ∀ i (o : OpW), l[i]? = some o → (∀ j u, o.cells.toList[j]? = some u → w.cell? ⟨b, off + i * 14 + j, none⟩ = some u) ∧ OpOk w o)
theorem ops_open8 {n : Nat} {v : Value} {x : DataW H × List MemPlace} (h : DataW.trod enc Tryz.prog w base sp held n 22 [v] = some x) : ∃ l, OpsIn w v l := by
 rcases Deep.open_slice Tryz.underlying22 h with ⟨hv, _⟩ | ⟨a, len, cap, m, q, D, Pl, hv, _, hl, hm, hmm, hx, hi⟩
 ·simp only [List.cons.injEq, and_true] at hv
  exact ⟨[], none, 0, hv, by simp, fun h => absurd h (Nat.lt_irrefl _)⟩
 ·simp only [List.cons.injEq, and_true] at hv
  have hlm : len ≤ m := by rw [hmm]; split <;> omega
  have hch : ∀ i, i < len → ∃ o : OpW, (∀ j, j < 14 → w.cell? ((a.add (i * 14)).add j) = o.cells.toList[j]?) ∧ OpOk w o := fun i hil => by
   obtain ⟨cs', h1, h2⟩ := hi i (by omega)
   obtain ⟨o, rfl, hd⟩ := op_open8 h2
   rw [cellsOp8] at h1
   exact ⟨o, (World.cells?_some h1).2.2, hd⟩
  obtain ⟨f, hf⟩ : ∃ f : Nat → OpW, ∀ i, i < len → (∀ j, j < 14 → w.cell? ((a.add (i * 14)).add j) = (f i).cells.toList[j]?) ∧ OpOk w (f i) := by
   refine ⟨fun i => if h : i < len then Classical.choose (hch i h) else ⟨0, 0, none, 0, [], Mt.zero, ⟨0, ⟨#[]⟩, ⟨#[]⟩, 0, 0, false, none, 0, []⟩⟩, fun i hil => ?_⟩
   simp only [hil, dif_pos]
   exact Classical.choose_spec (hch i hil)
  refine ⟨(List.range len).map f, some a, cap, by rw [hv]; simp, by simp; unfold maxLen at hm; omega, fun h0 => ?_⟩
  have h0' : 0 < len := by simpa using h0
  obtain ⟨b, off, spot⟩ := a
  have hc0 := (hf 0 h0').1 0 (by omega)
  have hspot : spot = none := by
   have := World.cell?_spot (w := w) (a := ((⟨b, off, spot⟩ : Addr).add (0 * 14)).add 0) hc0
   simpa [Addr.add] using this
  subst hspot
  have hadd : ∀ i j : Nat, ((⟨b, off, none⟩ : Addr).add (i * 14)).add j = ⟨b, off + i * 14 + j, none⟩ := fun i j => by
   rw [Go.WideShapes.add_plain, Go.WideShapes.add_plain]
  refine ⟨b, off, rfl, ?_, fun i o hio => ?_⟩
  ·rw [hadd] at hc0
   exact World.block_lt_of_cell? w _ hc0
  ·have hil : i < len := by have := (List.getElem?_eq_some_iff.1 hio).1; simpa using this
   rw [List.getElem?_map, List.getElem?_range hil] at hio
   obtain rfl : f i = o := by simpa using hio
   refine ⟨fun j u hju => ?_, (hf i hil).2⟩
   have hj14 : j < 14 := (List.getElem?_eq_some_iff.1 hju).1
   have h1 := (hf i hil).1 j hj14
   rw [hadd, hju] at h1
   exact h1
end
end Go.Proofs.YtbkngnjkaledlaaGreat.P8
