/-
  Texts of the proof of SaidPlay8b.
-/
import Derived.Test.YtbkngnjkaledlaaGreatMp46
set_option maxHeartbeats 8000000
set_option maxRecDepth 100000
namespace Go.Proofs.YtbkngnjkaledlaaGreat.P8
open Go Go.RowKit Go.Lib Go.Maps Go.ChangeMaps Go.MapKept P3 P4
open P5 (Pg)
open P6 (Mt)
structure Wait (P : Prop) : Prop where
 out : P
def plays_cut (w : World) (s : ByteArray) (room : Int) (l : List OpW) (c1 : Nat) (id : Int) :
  { P : Prop // Wait P → ∀ (a1 : Option Addr) (hl : OpsIn w (.slice a1 l.length c1) l) (h30 : l.length ≤ 30) (hs1 : 1 ≤ s.size) (hs2 : s.size ≤ 40), Calls Tryz.prog 3 #[.string s, .int .i64 room, .slice a1 l.length c1, .int .i64 id] w fun e w' => e = .returned (.bool true) ∧ Below w.heap.size w w' } := by
 refine ⟨?P, fun hGiven a1 hl h30 hs1 hs2 => ?main⟩
 case main =>
  have HA := Lib.hid (fun w => alive_any8 w)
  have HNw := Lib.hid (fun W => new_disk W room)
  have HPr : Hid (∀ W W1, Below w.heap.size w W → Below W.heap.size W W1 → W1.heap[W.heap.size]? = some (.cells #[.map none, .bool true, .int .i64 room, .int .i64 0, .bool false, .int .i64 0, .slice none 0 0] 73 (0, 0)) → Pr w (W1.alloc (.cells #[.slice none 0 0, .slice none 0 0, .bool false, .int .i64 room, .bool false, .int .i64 0, .slice none 0 0, .int .i64 0] 31)) W.heap.size (Dk.new room) W1.heap.size (RM.new8 room) []) := fun W W1 h1 h2 h3 => pr_new h1 h2 h3
  have HOp : Hid (∀ W d r, Pr w W d (Dk.new room) r (RM.new8 room) [] → Calls Tryz.prog 8 #[.pointer (some ⟨d, 0, none⟩), .string s] W fun e w' => ∃ b, e = .returned (.tuple #[.pointer (some ⟨b, 0, none⟩), .int .i64 0]) ∧ ST w (w'.alloc (.cells #[.pointer (some ⟨r, 0, none⟩), .string s] 38)) d r b s 0 [(w'.heap.size, fObj r s)] 0) := fun W d r h => st_open h hs1 hs2
  have HL : Hid (∀ (i : Nat) (o : OpW), l[i]? = some o → ∃ B off, a1 = some ⟨B, off, none⟩ ∧ OpOk w o ∧ ∀ W, Below w.heap.size w W → ∀ (j : Nat) (u : Value), o.cells.toList[j]? = some u → W.cell? ⟨B, off + i * 14 + j, none⟩ = some u) := fun i o ho => by
   obtain ⟨B, off, c, e, h1, h2⟩ := op_at hl ho
   simp only [Value.slice.injEq, true_and] at e
   exact ⟨B, off, e.1, h1, h2⟩
  have g1 : decide ((s.size : Int) < 1) = false := decide_eq_false (by omega)
  have g2 : decide ((40 : Int) < (s.size : Int)) = false := decide_eq_false (by omega)
  have g3 : decide ((30 : Int) < (l.length : Int)) = false := decide_eq_false (by omega)
  have g4 : decide ((100 : Int) < (s.size : Int)) = false := decide_eq_false (by omega)
  have HS1 := Lib.hid hs1
  have HS2 := Lib.hid hs2
  clear hl
  go_enter Tryz.func3, Tryz.ntmps3
  go_wp2_with (first
   | (go_at_call 6; (with_reducible refine (HA.out _).mono ?_); rintro e w1 ⟨rfl, hb⟩; have HB1 := Lib.hid hb; clear hb)
   | (go_at_call 7; (with_reducible refine (HNw.out _).mono ?_); rintro e w2 ⟨rfl, hb, hn⟩; have HP := Lib.hid (HPr.out _ _ HB1.out hb hn); clear hb hn)
   | (go_at_call 8; (with_reducible refine (HOp.out _ _ _ HP.out).mono ?_); rintro e w3 ⟨b, rfl, hq⟩; have HT := Lib.hid hq; clear hq))
  clear HA HNw HPr HOp HP HB1
  go_loopw [14, 15] (fun vn vi wr => ∃ (i : Nat) (n : Int), i ≤ l.length ∧ 0 ≤ n ∧ n ≤ i ∧ vn = .int .i64 n ∧ vi = .int .i64 i ∧ Hid (ST w wr w1.heap.size w2.heap.size b s n [(w3.heap.size, fObj w2.heap.size s)] (75 * i))) (fun _ vi _ => l.length - (RowKit.intOf vi).toNat)
  case atStart => exact ⟨0, 0, Nat.zero_le _, Int.le_refl _, Int.le_refl _, rfl, rfl, HT⟩
  case round =>
   clear HT
   obtain ⟨i, n, hi, hn0, hni, rfl, rfl, H⟩ := hrel
   by_cases hlt : i < l.length
   ·obtain ⟨o, ho⟩ : ∃ o, l[i]? = some o := ⟨_, List.getElem?_eq_getElem hlt⟩
    obtain ⟨B, off, rfl, hok, hx⟩ := HL.out i o ho
    have HO := Lib.hid hok
    have hcl := hx wr H.out.below
    have c0 : wr.cell? ⟨B, off + i * 14, none⟩ = some (.int .i64 o.kind) := hcl 0 _ rfl
    have c1 : wr.cell? ⟨B, off + i * 14 + 1, none⟩ = some (.int .i64 o.A) := hcl 1 _ rfl
    have c2 : wr.cell? ⟨B, off + i * 14 + 2, none⟩ = some (.slice o.la o.L.length o.lc) := hcl 2 _ rfl
    have c3 : wr.cell? ⟨B, off + i * 14 + 3, none⟩ = some (.int .i64 o.M.tx) := hcl 3 _ rfl
    have c4 : wr.cell? ⟨B, off + i * 14 + 4, none⟩ = some (.int .i64 o.M.root) := hcl 4 _ rfl
    have c5 : wr.cell? ⟨B, off + i * 14 + 5, none⟩ = some (.int .i64 o.M.free) := hcl 5 _ rfl
    have c6 : wr.cell? ⟨B, off + i * 14 + 6, none⟩ = some (.int .i64 o.M.pages) := hcl 6 _ rfl
    have c7 : wr.cell? ⟨B, off + i * 14 + 7, none⟩ = some (.int .i64 o.D.kind) := hcl 7 _ rfl
    have c8 : wr.cell? ⟨B, off + i * 14 + 8, none⟩ = some (.string o.D.S) := hcl 8 _ rfl
    have c9 : wr.cell? ⟨B, off + i * 14 + 9, none⟩ = some (.string o.D.T) := hcl 9 _ rfl
    have c10 : wr.cell? ⟨B, off + i * 14 + 10, none⟩ = some (.int .i64 o.D.A) := hcl 10 _ rfl
    have c11 : wr.cell? ⟨B, off + i * 14 + 11, none⟩ = some (.int .i64 o.D.B) := hcl 11 _ rfl
    have c12 : wr.cell? ⟨B, off + i * 14 + 12, none⟩ = some (.bool o.D.own) := hcl 12 _ rfl
    have c13 : wr.cell? ⟨B, off + i * 14 + 13, none⟩ = some (.slice o.D.a o.D.L.length o.D.c) := hcl 13 _ rfl
    have HS := Lib.hid (H.out.add #[.int .i64 o.kind, .int .i64 o.A, .slice o.la o.L.length o.lc, .int .i64 o.M.tx, .int .i64 o.M.root, .int .i64 o.M.free, .int .i64 o.M.pages, .int .i64 o.D.kind, .string o.D.S, .string o.D.T, .int .i64 o.D.A, .int .i64 o.D.B, .bool o.D.own, .slice o.D.a o.D.L.length o.D.c] 45)
    have HST := Lib.hid (H.out.add #[.int .i64 o.kind, .int .i64 o.A, .slice o.la o.L.length o.lc, .int .i64 o.M.tx, .int .i64 o.M.root, .int .i64 o.M.free, .int .i64 o.M.pages, .int .i64 o.D.kind, .string o.D.S, .string o.D.T, .int .i64 o.D.A, .int .i64 o.D.B, .bool true, .slice o.D.a o.D.L.length o.D.c] 45)
    have HX : Hid (∀ W : World, W.heap[wr.heap.size]? = some (bObj o) → W.cell? ⟨wr.heap.size, 0, none⟩ = some (.int .i64 o.kind) ∧ W.cell? ⟨wr.heap.size, 1, none⟩ = some (.int .i64 o.A) ∧ W.cell? ⟨wr.heap.size, 2, none⟩ = some (.slice o.la o.L.length o.lc) ∧ W.cell? ⟨wr.heap.size, 3, none⟩ = some (.int .i64 o.M.tx) ∧ W.cell? ⟨wr.heap.size, 4, none⟩ = some (.int .i64 o.M.root) ∧ W.cell? ⟨wr.heap.size, 5, none⟩ = some (.int .i64 o.M.free) ∧ W.cell? ⟨wr.heap.size, 6, none⟩ = some (.int .i64 o.M.pages) ∧ W.cell? ⟨wr.heap.size, 7, none⟩ = some (.int .i64 o.D.kind) ∧ W.cell? ⟨wr.heap.size, 8, none⟩ = some (.string o.D.S) ∧ W.cell? ⟨wr.heap.size, 9, none⟩ = some (.string o.D.T) ∧ W.cell? ⟨wr.heap.size, 10, none⟩ = some (.int .i64 o.D.A) ∧ W.cell? ⟨wr.heap.size, 11, none⟩ = some (.int .i64 o.D.B) ∧ W.cell? ⟨wr.heap.size, 12, none⟩ = some (.bool o.D.own) ∧ W.cell? ⟨wr.heap.size, 13, none⟩ = some (.slice o.D.a o.D.L.length o.D.c)) := fun W hW => ⟨box_cell hW 0, box_cell hW 1, box_cell hW 2, box_cell hW 3, box_cell hW 4, box_cell hW 5, box_cell hW 6, box_cell hW 7, box_cell hW 8, box_cell hW 9, box_cell hW 10, box_cell hW 11, box_cell hW 12, box_cell hW 13⟩
    obtain ⟨d0, d1, d2, d3, d4, d5, d6, d7, d8, d9, d10, d11, d12, d13⟩ := HX.out _ (P3.new_at wr _ _)
    have i30 : (i : Int) ≤ 30 := by omega
    have ht6 : 75 * i ≤ 6000 := by omega
    clear hok hx hcl ho
    go_upto_block 2 with fail
    go_cut [17, 18] from 77 to 238 (fun _ _ W' => ST w W' w1.heap.size w2.heap.size b s n [(w3.heap.size, fObj w2.heap.size s)] (75 * (i + 1)))
    case first =>
     rename_i C Q5 K5 A5 Q4 K4 A4 K3 A3 J2 K2 A2 A1
     revert HS1 HS2
     revert Q5 w1 w2 w3 b K5 wr u8 u16 u17 u18 u19 u20 u21 u22 u23 u24 u25 u26 u27 u28 u77 u78 u79 u80 u81 u82 u83 u84 u85 u86 u87 u88 u89 u90 u91 u92 u93 u94 u95 u96 u97 u98 u99 u100 u101 u102 u103 u104 u105 u106 u107 u108 u109 u110 u111 u112 u113 u114 u115 u116 u117 u118 u119 u120 u121 u122 u123 u124 u125 u126 u127 u128 u129 u130 u131 u132 u133 u134 u135 u136 u137 u138 u139 u140 u141 u142 u143 u144 u145 u146 u147 u148 u149 u150 u151 u152 u153 u154 u155 u156 u157 u158 u159 u160 u161 u162 u163 u164 u165 u166 u167 u168 u169 u170 u171 u172 u173 u174 u175 u176 u177 u178 u179 u180 u181 u182 u183 u184 u185 u186 u187 u188 u189 u190 u191 u192 u193 u194 u195 u196 u197 u198 u199 u200 u201 u202 u203 u204 u205 u206 u207 u208 u209 u210 u211 u212 u213 u214 u215 u216 u217 u218 u219 u220 u221 u222 u223 u224 u225 u226 u227 u228 u229 u230 u231 u232 u233 u234 u235 u236 u237 u238 i n o B off Q4 K4 K3 J2 K2
     exact hGiven.out
    case rest =>
     clear hGiven
     clear HS HST HX HO
     obtain ⟨K, D, ks, hs, htt⟩ := hcut
     have hsm : s.size ≤ maxLen := by have := HS2.out; unfold maxLen; omega
     obtain ⟨⟨gP, ge⟩, hG⟩ : ∃ G, G = getR D s id := ⟨_, rfl⟩
     obtain ⟨⟨mM, me⟩, hM⟩ : ∃ M, M = metaR D s := ⟨_, rfl⟩
     obtain ⟨m, hm⟩ : ∃ m, m = sizeR D s := ⟨_, rfl⟩
     obtain ⟨e9, he9⟩ : ∃ e, e = errR D s := ⟨_, rfl⟩
     have HGet : Hid (∀ W X, SS w W w1.heap.size K w2.heap.size D ks b s n X → Calls Tryz.prog 17 #[.pointer (some ⟨b, 0, none⟩), .int .i64 id] W fun e w' => e = .returned (.tuple #[.agg #[.int .i64 gP.k, .int .i64 gP.id, .int .i64 gP.tx, .string gP.body], .int .i64 ge]) ∧ SS w w' w1.heap.size K w2.heap.size D ks b s (if ge = 0 then wrap64 (n + 1) else n) X) := fun W X k => by
      have q := k.get hsm id
      rw [← hG] at q
      exact q
     have HGetR : Hid (∀ W X n, SS w W w1.heap.size K w2.heap.size D ks b s n X → (w3.heap.size, fObj w2.heap.size s) ∈ X → Calls Tryz.prog 18 #[.pointer (some ⟨w3.heap.size, 0, none⟩), .int .i64 id] W fun e w' => e = .returned (.tuple #[.agg #[.int .i64 gP.k, .int .i64 gP.id, .int .i64 gP.tx, .string gP.body], .int .i64 ge]) ∧ Below W.heap.size W w') := fun W X n k hf => by
      have q := (k.file hf).get id
      rw [← hG] at q
      exact q
     have HMeta : Hid (∀ W X n, SS w W w1.heap.size K w2.heap.size D ks b s n X → Calls Tryz.prog 19 #[.pointer (some ⟨b, 0, none⟩)] W fun e w' => e = .returned (.tuple #[.agg #[.int .i64 mM.tx, .int .i64 mM.root, .int .i64 mM.free, .int .i64 mM.pages], .int .i64 me]) ∧ Below W.heap.size W w') := fun W X n k => by
      have q := k.meta_ hsm
      rw [← hM] at q
      exact q
     have HMetaR : Hid (∀ W X n, SS w W w1.heap.size K w2.heap.size D ks b s n X → (w3.heap.size, fObj w2.heap.size s) ∈ X → Calls Tryz.prog 20 #[.pointer (some ⟨w3.heap.size, 0, none⟩)] W fun e w' => e = .returned (.tuple #[.agg #[.int .i64 mM.tx, .int .i64 mM.root, .int .i64 mM.free, .int .i64 mM.pages], .int .i64 me]) ∧ Below W.heap.size W w') := fun W X n k hf => by
      have q := (k.file hf).meta_
      rw [← hM] at q
      exact q
     have HSzR : Hid (∀ W X n, SS w W w1.heap.size K w2.heap.size D ks b s n X → Calls Tryz.prog 21 #[.pointer (some ⟨w2.heap.size, 0, none⟩), .string s] W fun e w' => e = .returned (.tuple #[.int .i64 m, .int .i64 e9]) ∧ Below W.heap.size W w') := fun W X n k => by
      have q := k.pr.at2.size s
      rw [← hm, ← he9] at q
      exact q
     have HSz : Hid (∀ W X n, SS w W w1.heap.size K w2.heap.size D ks b s n X → Calls Tryz.prog 23 #[.pointer (some ⟨b, 0, none⟩)] W fun e w' => e = .returned (.int .i64 m) ∧ Below W.heap.size W w') := fun W X n k => by
      have q := k.size hsm
      rw [← hm] at q
      exact q
     have HSame : Hid (∀ W X n, SS w W w1.heap.size K w2.heap.size D ks b s n X → Calls Tryz.prog 24 #[.pointer (some ⟨w1.heap.size, 0, none⟩), .pointer (some ⟨w2.heap.size, 0, none⟩)] W fun e w' => e = .returned (.bool true) ∧ Below W.heap.size W w') := fun W X n k => same_any k.pr (by omega)
     have HEp : ∀ w, (binOp .neq 47 (.agg #[.int .i64 gP.k, .int .i64 gP.id, .int .i64 gP.tx, .string gP.body]) (.agg #[.int .i64 gP.k, .int .i64 gP.id, .int .i64 gP.tx, .string gP.body])).run Tryz.prog w = .ok (.bool false) w := fun w => by
      have := P6.page_neq w gP gP
      rw [P5.Pg.same_self] at this
      exact this
     have HEm : ∀ w, (binOp .neq 41 (.agg #[.int .i64 mM.tx, .int .i64 mM.root, .int .i64 mM.free, .int .i64 mM.pages]) (.agg #[.int .i64 mM.tx, .int .i64 mM.root, .int .i64 mM.free, .int .i64 mM.pages])).run Tryz.prog w = .ok (.bool false) w := fun w => by
      have := P6.meta_neq w mM mM
      rw [P6.Mt.same_self] at this
      exact this
     have HFin : Hid (∀ W X n', SS w W w1.heap.size K w2.heap.size D ks b s n' X → (w3.heap.size, fObj w2.heap.size s) ∈ X → ST w W w1.heap.size w2.heap.size b s n' [(w3.heap.size, fObj w2.heap.size s)] (75 * (i + 1))) := fun W X n' k hf => ⟨K, D, ks, k.sub (fun p hp => by rw [List.mem_singleton.1 hp]; exact hf), htt⟩
     have Hs := Lib.hid hs
     have v1 : (ge != ge) = false := by simp
     have v2 : (me != me) = false := by simp
     clear hs htt hsm hG hM hm he9
     by_cases hge : ge = 0
     ·subst hge
      have hn1 : wrap64 (n + 1) = n + 1 := by rw [wrap64]; omega
      have v3 : ((n + 1) != (n + 1)) = false := by simp
      have HGet2 : Hid (∀ W X, SS w W w1.heap.size K w2.heap.size D ks b s n X → Calls Tryz.prog 17 #[.pointer (some ⟨b, 0, none⟩), .int .i64 id] W fun e w' => e = .returned (.tuple #[.agg #[.int .i64 gP.k, .int .i64 gP.id, .int .i64 gP.tx, .string gP.body], .int .i64 0]) ∧ SS w w' w1.heap.size K w2.heap.size D ks b s (n + 1) X) := fun W X k => by
       have q := HGet.out W X k
       rw [if_pos rfl, hn1] at q
       exact q
      clear HGet hn1
      go_wp2_with (first
       | (go_at_call 17; (with_reducible refine (HGet2.out _ _ Hs.out).mono ?_); rintro e w4 ⟨rfl, hq⟩; have H1 := Lib.hid (hq.add #[.int .i64 gP.k, .int .i64 gP.id, .int .i64 gP.tx, .string gP.body] 47); clear hq)
       | (go_at_call 18; (with_reducible refine (HGetR.out _ _ _ H1.out mt1).mono ?_); rintro e w5 ⟨rfl, hb⟩; have H2 := Lib.hid ((H1.out.over hb).add #[.int .i64 gP.k, .int .i64 gP.id, .int .i64 gP.tx, .string gP.body] 47); clear hb)
       | (go_at_call 19; (with_reducible refine (HMeta.out _ _ _ H2.out).mono ?_); rintro e w6 ⟨rfl, hb⟩; have H3 := Lib.hid ((H2.out.over hb).add #[.int .i64 mM.tx, .int .i64 mM.root, .int .i64 mM.free, .int .i64 mM.pages] 41); clear hb)
       | (go_at_call 20; (with_reducible refine (HMetaR.out _ _ _ H3.out mt3).mono ?_); rintro e w7 ⟨rfl, hb⟩; have H4 := Lib.hid ((H3.out.over hb).add #[.int .i64 mM.tx, .int .i64 mM.root, .int .i64 mM.free, .int .i64 mM.pages] 41); clear hb)
       | (go_at_call 21; (with_reducible refine (HSzR.out _ _ _ H4.out).mono ?_); rintro e w8 ⟨rfl, hb⟩; have H5 := Lib.hid (H4.out.over hb); obtain ⟨x0, x1, x2, x3⟩ := P6.cells4 (H5.out.x (w4.heap.size, Obj.cells #[.int .i64 gP.k, .int .i64 gP.id, .int .i64 gP.tx, .string gP.body] 47 (0, 0)) mt3).1; obtain ⟨y0, y1, y2, y3⟩ := P6.cells4 (H5.out.x (w5.heap.size, Obj.cells #[.int .i64 gP.k, .int .i64 gP.id, .int .i64 gP.tx, .string gP.body] 47 (0, 0)) mt2).1; obtain ⟨u0, u1, u2, u3⟩ := P6.cells4 (H5.out.x (w6.heap.size, Obj.cells #[.int .i64 mM.tx, .int .i64 mM.root, .int .i64 mM.free, .int .i64 mM.pages] 41 (0, 0)) mt1).1; obtain ⟨t0, t1, t2, t3⟩ := P6.cells4 (H5.out.x (w7.heap.size, Obj.cells #[.int .i64 mM.tx, .int .i64 mM.root, .int .i64 mM.free, .int .i64 mM.pages] 41 (0, 0)) mt0).1; clear hb)
       | (go_at_call 22; (with_reducible refine (H5.out.st.reads).mono ?_); rintro e w9 ⟨rfl, rfl⟩)
       | (go_at_call 23; (with_reducible refine (HSz.out _ _ _ H5.out).mono ?_); rintro e w10 ⟨rfl, hb⟩; have H6 := Lib.hid (H5.out.over hb); clear hb)
       | (go_at_call 24; (with_reducible refine (HSame.out _ _ _ H6.out).mono ?_); rintro e w11 ⟨rfl, hb⟩; have H7 := Lib.hid (H6.out.over hb); clear hb))
      go_roundw
      case rel => exact ⟨i + 1, n + 1, by omega, by omega, by omega, by go_num, by go_num, HFin.out _ _ _ H7.out mt4⟩
      case measure => simp [RowKit.intOf]; omega
     ·have bge : (ge == 0) = false := beq_eq_false_iff_ne.2 hge
      have v3 : (n != n) = false := by simp
      have HGet2 : Hid (∀ W X, SS w W w1.heap.size K w2.heap.size D ks b s n X → Calls Tryz.prog 17 #[.pointer (some ⟨b, 0, none⟩), .int .i64 id] W fun e w' => e = .returned (.tuple #[.agg #[.int .i64 gP.k, .int .i64 gP.id, .int .i64 gP.tx, .string gP.body], .int .i64 ge]) ∧ SS w w' w1.heap.size K w2.heap.size D ks b s n X) := fun W X k => by
       have q := HGet.out W X k
       rw [if_neg hge] at q
       exact q
      clear HGet hge
      go_wp2_with (first
       | (go_at_call 17; (with_reducible refine (HGet2.out _ _ Hs.out).mono ?_); rintro e w4 ⟨rfl, hq⟩; have H1 := Lib.hid (hq.add #[.int .i64 gP.k, .int .i64 gP.id, .int .i64 gP.tx, .string gP.body] 47); clear hq)
       | (go_at_call 18; (with_reducible refine (HGetR.out _ _ _ H1.out mt1).mono ?_); rintro e w5 ⟨rfl, hb⟩; have H2 := Lib.hid ((H1.out.over hb).add #[.int .i64 gP.k, .int .i64 gP.id, .int .i64 gP.tx, .string gP.body] 47); clear hb)
       | (go_at_call 19; (with_reducible refine (HMeta.out _ _ _ H2.out).mono ?_); rintro e w6 ⟨rfl, hb⟩; have H3 := Lib.hid ((H2.out.over hb).add #[.int .i64 mM.tx, .int .i64 mM.root, .int .i64 mM.free, .int .i64 mM.pages] 41); clear hb)
       | (go_at_call 20; (with_reducible refine (HMetaR.out _ _ _ H3.out mt3).mono ?_); rintro e w7 ⟨rfl, hb⟩; have H4 := Lib.hid ((H3.out.over hb).add #[.int .i64 mM.tx, .int .i64 mM.root, .int .i64 mM.free, .int .i64 mM.pages] 41); clear hb)
       | (go_at_call 21; (with_reducible refine (HSzR.out _ _ _ H4.out).mono ?_); rintro e w8 ⟨rfl, hb⟩; have H5 := Lib.hid (H4.out.over hb); obtain ⟨x0, x1, x2, x3⟩ := P6.cells4 (H5.out.x (w4.heap.size, Obj.cells #[.int .i64 gP.k, .int .i64 gP.id, .int .i64 gP.tx, .string gP.body] 47 (0, 0)) mt3).1; obtain ⟨y0, y1, y2, y3⟩ := P6.cells4 (H5.out.x (w5.heap.size, Obj.cells #[.int .i64 gP.k, .int .i64 gP.id, .int .i64 gP.tx, .string gP.body] 47 (0, 0)) mt2).1; obtain ⟨u0, u1, u2, u3⟩ := P6.cells4 (H5.out.x (w6.heap.size, Obj.cells #[.int .i64 mM.tx, .int .i64 mM.root, .int .i64 mM.free, .int .i64 mM.pages] 41 (0, 0)) mt1).1; obtain ⟨t0, t1, t2, t3⟩ := P6.cells4 (H5.out.x (w7.heap.size, Obj.cells #[.int .i64 mM.tx, .int .i64 mM.root, .int .i64 mM.free, .int .i64 mM.pages] 41 (0, 0)) mt0).1; clear hb)
       | (go_at_call 22; (with_reducible refine (H5.out.st.reads).mono ?_); rintro e w9 ⟨rfl, rfl⟩)
       | (go_at_call 23; (with_reducible refine (HSz.out _ _ _ H5.out).mono ?_); rintro e w10 ⟨rfl, hb⟩; have H6 := Lib.hid (H5.out.over hb); clear hb)
       | (go_at_call 24; (with_reducible refine (HSame.out _ _ _ H6.out).mono ?_); rintro e w11 ⟨rfl, hb⟩; have H7 := Lib.hid (H6.out.over hb); clear hb))
      go_roundw
      case rel => exact ⟨i + 1, n, by omega, by omega, by omega, by go_num, by go_num, HFin.out _ _ _ H7.out mt4⟩
      case measure => simp [RowKit.intOf]; omega
   ·have HE := Lib.hid H.out.below
    clear H
    go_wp2
    go_ret
    exact ⟨rfl, HE.out⟩
end Go.Proofs.YtbkngnjkaledlaaGreat.P8
