/-
  Texts of the proof of SaidPlay8b.
-/
import Derived.Test.YtbkngnjkaledlaaGreatMp15
import Derived.Laws.AppendOwnNone
set_option maxHeartbeats 8000000
set_option maxRecDepth 100000
namespace Go.Proofs.YtbkngnjkaledlaaGreat.P4
open Go Go.RowKit Go.Lib P3
section
variable {P : Program} {w : World}
theorem run_app (w : World) (base : Nat) (t ty e : TypeId) (i : TypeInfo) (z : Value) (size bytes : Nat) (ht : P.underlying t = some (.slice e)) (hi : P.info? e = some i) (hz : i.zero = some z)
  (hsize : i.size = size) (hby : i.bytes = bytes) (hzs : z.cells.size = size) (hsz : 0 < size)
  (v : Value) (n : Nat) (xs : List Value) (hown : w.ownsRow base e size v n xs)
  (ad : Option Addr) (m c : Nat) (news : List Value) (hl : news.length = m * size) (hnews : ∀ A, ad = some A → ∀ j u, news[j]? = some u → w.cell? (A.add j) = some u) (hno : ad = none → m = 0 ∧ c = 0) (h1 : ∀ u ∈ news, u.oneCell' = true)
  (h63 : n + m ≤ maxLen) (hbytes : (n + m) * bytes ≤ 140737488355328) (hbase : base ≤ w.heap.size) :
  ∃ p q w', (Builtin.append_ #[t, t] ty #[v, .slice ad m c]).run P w = .ok (.slice p (n + m : Nat) q) w' ∧ w'.ownsRow base e size (.slice p (n + m : Nat) q) (n + m) (xs ++ news) ∧ w.grownBy w' v.ownBlock ∧
   ((Value.slice p (n + m : Nat) q).ownBlock = v.ownBlock ∨ (Value.slice p (n + m : Nat) q).ownBlock = some w.heap.size) := by
 cases ad with
 | none =>
  obtain ⟨rfl, rfl⟩ := hno rfl
  obtain rfl : news = [] := List.eq_nil_of_length_eq_zero (by rw [hl]; simp)
  have hr := run_append_owned_none (P := P) (w := w) base t ty e i size ht hi v n xs hown
  have hv : ∃ p q, v = .slice p n q := by
   rcases hown.2 with ⟨rfl, rfl⟩ | ⟨g, cap, cur, rfl, _⟩ <;> exact ⟨_, _, rfl⟩
  obtain ⟨p, q, rfl⟩ := hv
  exact ⟨p, q, w, hr, by rw [List.append_nil]; exact hown, World.grownBy.refl _ _, .inl rfl⟩
 | some A =>
  obtain ⟨v', w', hr, ho, hg, _, hat⟩ := run_append_own_at (P := P) w base t ty e i z size bytes ht hi hz hsize hby hzs hsz v n xs hown A m c news hl (hnews A rfl) h1 h63 hbytes hbase
  have hv : ∃ p q, v' = .slice p (n + m : Nat) q := by
   rcases ho.2 with ⟨rfl, e0⟩ | ⟨g, cap, cur, rfl, _⟩
   ·rw [e0]; exact ⟨_, _, rfl⟩
   ·exact ⟨_, _, rfl⟩
  obtain ⟨p, q, rfl⟩ := hv
  exact ⟨p, q, w', hr, ho, hg, hat⟩
theorem wpList_app {ops : Array Oper} {rest : List Oper} {o : Oper} {a : Act} {Q : Exit → Act → World → Prop} (hgd : o.guard = none) (s x : Operand) (t : TypeId)
  (ho : o.op = .call { callee := .builtin .append, args := #[s, x], argTypes := #[t, t] })
  (base : Nat) (e : TypeId) (i : TypeInfo) (z : Value) (size bytes : Nat) (ht : P.underlying t = some (.slice e)) (hi : P.info? e = some i) (hz : i.zero = some z)
  (hsize : i.size = size) (hby : i.bytes = bytes) (hzs : z.cells.size = size) (hsz : 0 < size)
  (v : Value) (n : Nat) (xs : List Value) (hs : a.eval s = v) (hown : w.ownsRow base e size v n xs)
  (ad : Option Addr) (m c : Nat) (news : List Value) (hx : a.eval x = .slice ad m c) (hl : news.length = m * size) (hnews : ∀ A, ad = some A → ∀ j u, news[j]? = some u → w.cell? (A.add j) = some u) (hno : ad = none → m = 0 ∧ c = 0) (h1 : ∀ u ∈ news, u.oneCell' = true)
  (h63 : n + m ≤ maxLen) (hbytes : (n + m) * bytes ≤ 140737488355328) (hbase : base ≤ w.heap.size)
  (h : ∀ p q w', w'.ownsRow base e size (.slice p (n + m : Nat) q) (n + m) (xs ++ news) → w.grownBy w' v.ownBlock → ((Value.slice p (n + m : Nat) q).ownBlock = v.ownBlock ∨ (Value.slice p (n + m : Nat) q).ownBlock = some w.heap.size) → wpList P ops Q rest (a.put o.dst (.slice p (n + m : Nat) q)) w') :
  wpList P ops Q (o :: rest) a w := by
 refine wpList_plain hgd fun K hK => ?_
 obtain ⟨p, q, w', hr, h2, h3, h4⟩ := run_app (P := P) w base t o.type e i z size bytes ht hi hz hsize hby hzs hsz v n xs hown ad m c news hl hnews hno h1 h63 hbytes hbase
 unfold Oper.wp execOp
 simp only [ho, resolve, invoke, builtin, Sem.run_bind, Sem.run_pure, Result.andThen_ok, List.map_toArray, List.map_cons, List.map_nil, hs, hx, hr]
 exact hK _ _ (h p q w' h2 h3 h4)
theorem step_app {ops : Array Oper} {o : Oper} {a : Act} {K : Act → World → Prop} {Q : Exit → Act → World → Prop} {E : Prop} (hgd : o.guard = none) (s x : Operand) (t : TypeId)
  (ho : o.op = .call { callee := .builtin .append, args := #[s, x], argTypes := #[t, t] })
  (base : Nat) (e : TypeId) (i : TypeInfo) (z : Value) (size bytes : Nat) (ht : P.underlying t = some (.slice e)) (hi : P.info? e = some i) (hz : i.zero = some z)
  (hsize : i.size = size) (hby : i.bytes = bytes) (hzs : z.cells.size = size) (hsz : 0 < size)
  (v : Value) (n : Nat) (xs : List Value) (hs : a.eval s = v) (hown : w.ownsRow base e size v n xs)
  (ad : Option Addr) (m c : Nat) (news : List Value) (hx : a.eval x = .slice ad m c) (hl : news.length = m * size) (hnews : ∀ A, ad = some A → ∀ j u, news[j]? = some u → w.cell? (A.add j) = some u) (hno : ad = none → m = 0 ∧ c = 0) (h1 : ∀ u ∈ news, u.oneCell' = true)
  (h63 : n + m ≤ maxLen) (hbytes : (n + m) * bytes ≤ 140737488355328) (hbase : base ≤ w.heap.size)
  (h : ∀ p q w', w'.ownsRow base e size (.slice p (n + m : Nat) q) (n + m) (xs ++ news) → w.grownBy w' v.ownBlock → ((Value.slice p (n + m : Nat) q).ownBlock = v.ownBlock ∨ (Value.slice p (n + m : Nat) q).ownBlock = some w.heap.size) → K (a.put o.dst (.slice p (n + m : Nat) q)) w') :
  if Region.wanted o (yielded ops a.tmps) = true then Oper.wp P o a w K Q else E := by
 have hw : Region.wanted o (yielded ops a.tmps) = true := by simp [Region.wanted, hgd]
 rw [if_pos hw]
 obtain ⟨p, q, w', hr, h2, h3, h4⟩ := run_app (P := P) w base t o.type e i z size bytes ht hi hz hsize hby hzs hsz v n xs hown ad m c news hl hnews hno h1 h63 hbytes hbase
 unfold Oper.wp execOp
 simp only [ho, resolve, invoke, builtin, Sem.run_bind, Sem.run_pure, Result.andThen_ok, List.map_toArray, List.map_cons, List.map_nil, hs, hx, hr]
 exact h p q w' h2 h3 h4
end
section
variable {lo : Nat} {w w' w'' : World} {r : Nat} {D E F : RM}
theorem RAt.setFs {u : Value} {xs : List MF} (h : RAt lo w r D) (hfr : Fr (fun k => D.lv.ownBlock = some k) w w') (ho : w'.ownsRow lo 101 6 u xs.length (xs.flatMap MF.cells))
  (hu : ∀ k, u.ownBlock = some k → D.lv.ownBlock = some k ∨ w.heap.size ≤ k) (hl : xs.length ≤ 60) (ht : ∀ f ∈ xs, Txt w' f.nv f.now ∧ Txt w' f.sv f.safe) (hlg : ∀ f ∈ xs, f.now.length ≤ 4001 ∧ f.safe.length ≤ 4001)
  (hf : ∀ f ∈ xs, ∀ k, f.nv.ownBlock = some k ∨ f.sv.ownBlock = some k → D.foot r k ∨ w.heap.size ≤ k) :
  RStep lo w r D (w'.setCell ⟨r, 0, none⟩ u) { D with lv := u, fs := xs } := by
 have hap := h.apart
 have hlt := (h.own_lt (.inl rfl : D.own r r)).2
 have hoth : ∀ b, b ≠ r → (w'.setCell ⟨r, 0, none⟩ u).heap[b]? = w'.heap[b]? := fun b hb => Below.heap_setCell _ _ _ _ hb
 have hblk : w'.heap[r]? = some (.cells D.cells.toArray 31 (0, 0)) := by rw [hfr.block r hlt hap.1]; exact h.blk
 have hbl := set_at hblk 0 u
 have hx : D.cells.toArray.setIfInBounds 0 u = ({ D with lv := u, fs := xs } : RM).cells.toArray := by simp [RM.cells]
 rw [hx] at hbl
 have hur : ∀ k, u.ownBlock = some k → k ≠ r := fun k hk e => by
  rcases hu k hk with q | q
  ·exact hap.1 (e ▸ q)
  ·omega
 have htr : ∀ v l, Txt w' v l → ∀ k, v.ownBlock = some k → k ≠ r := fun v l hv k hk e => by
  obtain ⟨_, cur, e2⟩ := hv.lt hk
  rw [e, hblk] at e2
  simp at e2
 refine ⟨⟨hbl, h.lo_, ?_, ?_, ?_, hl, h.few2, hlg⟩, ?_, ?_, ?_⟩
 ·exact owned_fr ho fun b hbb => hoth b (hur b hbb)
 ·refine owned_fr (owned_fr h.wrow fun b hbb => hfr.block b (h.own_lt (.inr (.inr hbb))).2 (fun e => hap.2.2 b e hbb)) fun b hbb => hoth b (fun e => hap.2.1 (e ▸ hbb))
 ·intro f hf'
  exact ⟨(ht f hf').1.fr fun b hbb => hoth b (htr _ _ (ht f hf').1 b hbb), (ht f hf').2.fr fun b hbb => hoth b (htr _ _ (ht f hf').2 b hbb)⟩
 ·rintro k (hk | hk | hk)
  ·exact .inl (.inl hk)
  ·rcases hu k hk with q | q
   ·exact .inl (.inr (.inl q))
   ·exact .inr q
  ·exact .inl (.inr (.inr hk))
 ·rintro k ((hk | hk | hk) | ⟨f, hf', hk⟩)
  ·exact .inl (.inl (.inl hk))
  ·rcases hu k hk with q | q
   ·exact .inl (.inl (.inr (.inl q)))
   ·exact .inr q
  ·exact .inl (.inl (.inr (.inr hk)))
  ·exact hf f hf' k hk
 ·exact (hfr.mono fun k _ hk => .inr (.inl hk)).trans (.only ((Only.refl r w').setCell 0 u) (.inl rfl))
theorem RAt.setWsG {u : Value} {xs : List RW} (h : RAt lo w r D) (hfr : Fr (fun k => D.wv.ownBlock = some k) w w') (ho : w'.ownsRow lo 129 3 u xs.length (xs.flatMap RW.cells))
  (hu : ∀ k, u.ownBlock = some k → D.wv.ownBlock = some k ∨ w.heap.size ≤ k) (hl : xs.length ≤ 9000) :
  RStep lo w r D (w'.setCell ⟨r, 1, none⟩ u) { D with wv := u, ws := xs } := by
 have hap := h.apart
 have hlt := (h.own_lt (.inl rfl : D.own r r)).2
 have hoth : ∀ b, b ≠ r → (w'.setCell ⟨r, 1, none⟩ u).heap[b]? = w'.heap[b]? := fun b hb => Below.heap_setCell _ _ _ _ hb
 have hblk : w'.heap[r]? = some (.cells D.cells.toArray 31 (0, 0)) := by rw [hfr.block r hlt hap.2.1]; exact h.blk
 have hbl := set_at hblk 1 u
 have hx : D.cells.toArray.setIfInBounds 1 u = ({ D with wv := u, ws := xs } : RM).cells.toArray := by simp [RM.cells]
 rw [hx] at hbl
 have hur : ∀ k, u.ownBlock = some k → k ≠ r := fun k hk e => by
  rcases hu k hk with q | q
  ·exact hap.2.1 (e ▸ q)
  ·omega
 refine ⟨⟨hbl, h.lo_, ?_, ?_, ?_, h.few, hl, h.long⟩, ?_, ?_, ?_⟩
 ·refine owned_fr (owned_fr h.lrow fun b hbb => hfr.block b (h.own_lt (.inr (.inl hbb))).2 (fun e => hap.2.2 b hbb e)) fun b hbb => hoth b (fun e => hap.1 (e ▸ hbb))
 ·exact owned_fr ho fun b hbb => hoth b (hur b hbb)
 ·intro f hf'
  have ht := h.txt f hf'
  have key : ∀ v l, Txt w v l → ∀ k, v.ownBlock = some k → (w'.setCell ⟨r, 1, none⟩ u).heap[k]? = w.heap[k]? := fun v l hv k hk => by
   have hn := h.txt_own hv hk
   rw [hoth k (fun e => hn (.inl e)), hfr.block k (hv.lt hk).1 (fun e => hn (.inr (.inr e)))]
  exact ⟨ht.1.fr fun b hbb => key _ _ ht.1 b hbb, ht.2.fr fun b hbb => key _ _ ht.2 b hbb⟩
 ·rintro k (hk | hk | hk)
  ·exact .inl (.inl hk)
  ·exact .inl (.inr (.inl hk))
  ·rcases hu k hk with q | q
   ·exact .inl (.inr (.inr q))
   ·exact .inr q
 ·rintro k ((hk | hk | hk) | hk)
  ·exact .inl (.inl (.inl hk))
  ·exact .inl (.inl (.inr (.inl hk)))
  ·rcases hu k hk with q | q
   ·exact .inl (.inl (.inr (.inr q)))
   ·exact .inr q
  ·exact .inl (.inr hk)
 ·exact (hfr.mono fun k _ hk => .inr (.inr hk)).trans (.only ((Only.refl r w').setCell 1 u) (.inl rfl))
theorem infoRF : (Tryz.prog.info? 101).map (fun i => (i.zero, i.size, i.bytes)) = some (some (.agg #[.string ⟨#[]⟩, .int .i64 0, .slice none 0 0, .slice none 0 0, .bool false, .bool false]), 6, 80) := by kernel_rfl
theorem fr_grown {S : Nat → Prop} {w w' : World} {o : Option Nat} (h : w.grownBy w' o) (hs : ∀ k, o = some k → S k) : Fr S w w' := ⟨h.os, h.tape, h.output, h.size, fun k hk hn => h.block k hk (fun e => hn (hs k e.symm))⟩
theorem files_one (fs : List MF) (hs : ∀ f ∈ fs, f.nv.oneCell' = true ∧ f.sv.oneCell' = true) : ∀ u ∈ fs.flatMap MF.cells, u.oneCell' = true := by
 intro u hu
 obtain ⟨f, hf, hu⟩ := List.mem_flatMap.1 hu
 have := hs f hf
 simp only [MF.cells, List.mem_cons, List.not_mem_nil, or_false] at hu
 rcases hu with rfl | rfl | rfl | rfl | rfl | rfl
 ·rfl
 ·rfl
 ·exact this.1
 ·exact this.2
 ·rfl
 ·rfl
theorem Txt.one {w : World} {v : Value} {l : List ByteArray} (h : Txt w v l) : v.oneCell' = true := by
 obtain ⟨a, c, rfl, _⟩ := h.shape
 rfl
end
end Go.Proofs.YtbkngnjkaledlaaGreat.P4
namespace Go.Proofs.YtbkngnjkaledlaaGreat.P4
open Go Go.RowKit Go.Lib P3
section
variable {lo : Nat} {w w' w'' : World} {r : Nat} {D E F : RM}
theorem flat_drop {α : Type} {g : α → List Value} {n : Nat} (hn : ∀ a, (g a).length = n) : ∀ (l : List α) (k : Nat), (l.drop k).flatMap g = (l.flatMap g).drop (k * n)
 | l, 0 => by simp
 | [], k + 1 => by simp
 | a :: l, k + 1 => by
  have e1 : (g a).drop ((k + 1) * n) = [] := List.drop_eq_nil_of_le (by rw [hn, Nat.succ_mul]; omega)
  have e2 : (k + 1) * n - (g a).length = k * n := by rw [hn, Nat.succ_mul]; omega
  rw [List.drop_succ_cons, flat_drop hn l k, List.flatMap_cons, List.drop_append, e1, e2, List.nil_append]
theorem flat_take {α : Type} {g : α → List Value} {n : Nat} (hn : ∀ a, (g a).length = n) : ∀ (l : List α) (k : Nat), (l.take k).flatMap g = (l.flatMap g).take (k * n)
 | l, 0 => by simp
 | [], k + 1 => by simp
 | a :: l, k + 1 => by
  have e1 : (g a).take ((k + 1) * n) = g a := List.take_of_length_le (by rw [hn, Nat.succ_mul]; omega)
  have e2 : (k + 1) * n - (g a).length = k * n := by rw [hn, Nat.succ_mul]; omega
  rw [List.take_succ_cons, List.flatMap_cons, flat_take hn l k, List.flatMap_cons, List.take_append, e1, e2]
def RM.fgt (D : RM) (id : Nat) (u : Value) : RM := { D with wv := u, ws := D.ws.filter (keepW id 0) }
def RM.rm (D : RM) (k : Nat) (f : MF) (u v : Value) : RM := { D with lv := v, fs := D.fs.eraseIdx k, wv := u, ws := D.ws.filter (keepW f.id 0) }
theorem RAt.rm (h : RAt lo w r D) (k : Nat) (f : MF) (hf : D.fs[k]? = some f) (hid : f.id ≤ 1000000) (hbig : ∀ x ∈ D.ws, x.file ≤ 1000000 ∧ x.pos ≤ 1000000) :
  Calls Tryz.prog 101 #[.pointer (some ⟨r, 0, none⟩), .int .i64 k] w fun e w' => e = .returned (.tuple #[]) ∧ ∃ u v, RStep lo w r D w' (D.rm k f u v) := by
 obtain ⟨i0, hi, hz0, hz1, hz2⟩ := info_parts infoRF
 obtain ⟨z, hz⟩ : ∃ z, z = Value.agg #[.string ⟨#[]⟩, .int .i64 0, .slice none 0 0, .slice none 0 0, .bool false, .bool false] := ⟨_, rfl⟩
 rw [← hz] at hz0
 have HZ : Hid (z.cells.size = 6) := by rw [hz]; exact rfl
 clear hz
 obtain ⟨a, c, hv, hc, hcell⟩ := h.files
 obtain ⟨g, rfl, hg, hcc⟩ := hcell k f hf
 have hk := (List.getElem?_eq_some_iff.1 hf).1
 have hfew := h.few
 have c0 : w.cell? ⟨r, 0, none⟩ = some (.slice (some ⟨g, 0, none⟩) D.fs.length c) := by rw [← hv]; exact h.cell 0
 have cc : w.cell? ⟨g, k * 6 + 1, none⟩ = some (.int .i64 f.id) := hcc 1 _ rfl
 have hfo := h.forget f.id 0 hid (by decide) hbig
 rw [show ((0 : Nat) : Int) = 0 from rfl] at hfo
 have HFo := Lib.hid hfo
 clear hfo
 have HG : Hid (∀ u w1, RStep lo w r D w1 (D.fgt f.id u) → w1.cell? ⟨r, 0, none⟩ = some (.slice (some ⟨g, 0, none⟩) D.fs.length c) ∧ w1.frozen? ⟨r, 0, none⟩ = false ∧
   (∀ j v, ((D.fs.take k).flatMap MF.cells)[j]? = some v → w1.cell? ((⟨g, 0, none⟩ : Addr).add j) = some v) ∧
   (∀ v ∈ D.fs.flatMap MF.cells, v.oneCell' = true) ∧
   ∀ w2, Below w1.heap.size w1 w2 → w2.cell? ⟨r, 0, none⟩ = some (.slice (some ⟨g, 0, none⟩) D.fs.length c) ∧ w2.frozen? ⟨r, 0, none⟩ = false ∧
    (∀ A, (if c = k + 1 then some (⟨g, 0, none⟩ : Addr) else some ⟨g, (k + 1) * 6, none⟩) = some A → ∀ j v, ((D.fs.drop (k + 1)).flatMap MF.cells)[j]? = some v → w2.cell? (A.add j) = some v) ∧
    ∀ v n, n = D.fs.length - 1 → w2.ownsRow w1.heap.size 101 6 v n ((D.fs.take k).flatMap MF.cells ++ (D.fs.drop (k + 1)).flatMap MF.cells) → RStep lo w r D (w2.setCell ⟨r, 0, none⟩ v) (D.rm k f u v)) := by
  intro u w1 hs
  have h1 := hs.at'
  have hA : ∀ w2, Below w1.heap.size w1 w2 → ∀ (j : Nat) (v : Value), (D.fs.flatMap MF.cells)[j]? = some v → w2.cell? ⟨g, j, none⟩ = some v := fun w2 hb j v hj => by
   have := (h1.below hb).lrow.cells (show D.lv.ownBlock = some g from hg) j v hj
   rwa [Go.WideShapes.add_plain, Nat.zero_add] at this
  refine ⟨by rw [← hv]; exact h1.cell 0, h1.free 0, fun j v hj => ?_, ?_, fun w2 hb => ⟨by rw [← hv]; exact (h1.below hb).cell 0, (h1.below hb).free 0, fun A hA9 j v hj => ?_, fun v n hn ho => ?_⟩⟩
  ·rw [Go.WideShapes.add_plain, Nat.zero_add]
   refine hA w1 (Below.refl _ _) j v ?_
   rw [flat_take MF.six] at hj
   have hlt := (List.getElem?_eq_some_iff.1 hj).1
   rw [List.length_take] at hlt
   rwa [List.getElem?_take_of_lt (by omega)] at hj
  ·exact files_one _ fun f hf => ⟨(h1.txt f hf).1.one, (h1.txt f hf).2.one⟩
  ·have hne : ¬ c = k + 1 := fun e => by
    rw [List.drop_eq_nil_of_le (by omega)] at hj
    simp at hj
   rw [if_neg hne] at hA9
   obtain rfl := Option.some.inj hA9
   rw [Go.WideShapes.add_plain]
   refine hA w2 hb _ v ?_
   rwa [flat_drop MF.six, List.getElem?_drop] at hj
  ·have e1 : D.fs.eraseIdx k = D.fs.take k ++ D.fs.drop (k + 1) := List.eraseIdx_eq_take_drop_succ ..
   have hl1 : (D.fs.eraseIdx k).length = n := by rw [List.length_eraseIdx_of_lt hk, hn]
   have hin : ∀ x ∈ D.fs.eraseIdx k, x ∈ D.fs := fun x hx => List.mem_of_mem_eraseIdx hx
   have h2 := h1.below hb
   have hst := h1.setFs (u := v) (xs := D.fs.eraseIdx k) (Fr.of hb) (by rw [hl1, e1, List.flatMap_append]; exact own_le ho (Nat.le_trans h1.lo_ (Nat.le_of_lt (h1.own_lt (.inl rfl : RM.own _ r r)).2)))
    (fun q hq => .inr (owned_at ho hq).1) (by rw [hl1, hn]; have := h.few; omega) (fun x hx => h2.txt x (hin x hx)) (fun x hx => h.long x (hin x hx)) (fun x hx q hq => .inl (.inr ⟨x, hin x hx, hq⟩))
   exact hs.trans hst
 have n0 : (0 : Int) ≤ (k : Int) := by omega
 have n1 : (k : Int) < (D.fs.length : Int) := by omega
 have n2 : (k : Int) + 1 ≤ (D.fs.length : Int) := by omega
 have n3 : (k : Int) ≤ (c : Int) := by omega
 have n4 : (D.fs.length : Int) ≤ (c : Int) := by omega
 obtain ⟨fs, hfs⟩ : ∃ fs, fs = D.fs := ⟨_, rfl⟩
 have HL1 : Hid (((fs.take k).flatMap MF.cells).length = k * 6) := by rw [flat_length MF.six, List.length_take, hfs]; congr 1; omega
 have HL2 : Hid (((fs.drop (k + 1)).flatMap MF.cells).length = (fs.length - (k + 1)) * 6) := by rw [flat_length MF.six, List.length_drop]; exact rfl
 simp only [← hfs] at c0 hfew hk HG n1 n2 n4 hc
 have wr : IntKind.i64.wrap ((k : Int) + 1) = ((k + 1 : Nat) : Int) := by rw [IntKind.wrap_i64]; omega
 have n5 : (0 : Int) ≤ (k : Int) + 1 := by omega
 clear h hbig hid hcell hcc hv hf hg hfs
 go_enter Tryz.func101, Tryz.ntmps101
 go_upto_region 1 with (go_at_call 49; (with_reducible refine HFo.out.mono ?_); rintro e w1 ⟨rfl, u, hs⟩; obtain ⟨d0, d1, dn, do1, dw⟩ := HG.out u w1 hs; have DN := Lib.hid dn; have DO := Lib.hid do1; have DW := Lib.hid dw; clear hs dn do1 dw)
 go_region_law (first
  | (refine step_app rfl (.const (.slice none 0 0)) (.tmp 20) 27 rfl w1.heap.size 101 i0 z 6 80 Tryz.underlying27 hi hz0 hz1 hz2 HZ.out (by decide) (.slice none 0 0) 0 [] (by rfl) (World.ownsRow_nil _ _ _ _) (some ⟨g, 0, none⟩) k c ((fs.take k).flatMap MF.cells) (by simp [Act.eval, Act.put]) HL1.out (by intro A hA; cases hA; exact DN.out) (by intro q; cases q) (fun u hu => DO.out u (by rw [flat_take MF.six] at hu; exact List.mem_of_mem_take hu)) (by unfold maxLen; omega) (by omega) (Nat.le_refl _) ?_; intro p1 q1 w2 hown2 hgrow2 hat2; have hb2 : Below w1.heap.size w1 w2 := ((Below.refl w1.heap.size w1).drew).trans (Fr.below (fr_grown hgrow2 (by intro k hk; cases hk))); obtain ⟨m0, m1, mn, mr⟩ := DW.out w2 hb2; have MN := Lib.hid mn; have MR := Lib.hid mr; have HB2 := Lib.hid hb2; have HO2 := Lib.hid hown2; clear hown2 hgrow2 hat2 hb2 mn mr)
  | (refine step_app rfl (.tmp 21) (.tmp 28) 27 rfl w1.heap.size 101 i0 z 6 80 Tryz.underlying27 hi hz0 hz1 hz2 HZ.out (by decide) (.slice p1 (0 + k : Nat) q1) (0 + k) ([] ++ (fs.take k).flatMap MF.cells) (by simp [Act.eval, Act.put]) HO2.out (if c = k + 1 then some (⟨g, 0, none⟩ : Addr) else some ⟨g, (k + 1) * 6, none⟩) (fs.length - (k + 1)) (c - (k + 1)) ((fs.drop (k + 1)).flatMap MF.cells) (by simp [Act.eval, Act.put]) HL2.out MN.out (by intro q; split at q <;> cases q) (fun u hu => DO.out u (by rw [flat_drop MF.six] at hu; exact List.mem_of_mem_drop hu)) (by unfold maxLen; omega) (by omega) HB2.out.size ?_; intro p3 q3 w3 hown3 hgrow3 hat3; have hb3 : Below w1.heap.size w1 w3 := Fr.new HB2.out (fr_grown (S := fun q => (Value.slice p1 (0 + k : Nat) q1).ownBlock = some q) hgrow3 (fun q e => e)) (fun q e => (owned_at HO2.out e).1); rw [Nat.zero_add, List.nil_append] at hown3; obtain ⟨y0, y1, yn, yr⟩ := DW.out w3 hb3; have HQ := Lib.hid (yr _ _ (by omega) hown3); clear hown3 hgrow3 hat3 hb3 yn yr))
 all_goals go_wp2
 all_goals (go_end0; exact ⟨rfl, _, _, HQ.out⟩)
end
end Go.Proofs.YtbkngnjkaledlaaGreat.P4
namespace Go.Proofs.YtbkngnjkaledlaaGreat.P4
open Go Go.RowKit Go.Lib P3
theorem trips_succ {κ : Nat → Nat} {ws : List RW} {i : Nat} {x : RW} (h : ws[i]? = some x) (id : Nat) : tripsM κ (ws.take (i + 1)) id = tripsM κ (ws.take i) id ++ (if x.file = id then [(κ i, x.pos, x.data)] else []) := by
 unfold tripsM
 have hi := (List.getElem?_eq_some_iff.1 h).1
 have e : (ws.take (i + 1)).zipIdx = (ws.take i).zipIdx ++ [(x, i)] := by
  rw [List.take_add_one, h, Option.toList_some, List.zipIdx_append, List.length_take, Nat.min_eq_left (by omega)]
  simp
 rw [e, List.filter_append, List.map_append]
 congr 1
 by_cases hx : x.file = id
 ·rw [if_pos hx]; simp [hx]
 ·rw [if_neg hx]; simp [hx]
theorem trips_all {κ : Nat → Nat} {ws : List RW} {n : Nat} (h : ws.length ≤ n) (id : Nat) : tripsM κ (ws.take n) id = tripsM κ ws id := by rw [List.take_of_length_le h]
def safeT (κ : Nat → Nat) (ws : List RW) (i : Nat) (f : MF) : List ByteArray := keepAll f.safe (tripsM κ (ws.take i) f.id)
def keptT (κ : Nat → Nat) (ws : List RW) (i : Nat) (f : MF) : Bool := (tripsM κ (ws.take i) f.id).any fun x => decide (x.1 ≠ 0)
theorem safe_other {κ : Nat → Nat} {ws : List RW} {i : Nat} {x : RW} (h : ws[i]? = some x) {f : MF} (hn : x.file ≠ f.id) : safeT κ ws (i + 1) f = safeT κ ws i f ∧ keptT κ ws (i + 1) f = keptT κ ws i f := by
 unfold safeT keptT
 rw [trips_succ h, if_neg hn, List.append_nil]
 exact ⟨rfl, rfl⟩
theorem safe_zero {κ : Nat → Nat} {ws : List RW} {i : Nat} {x : RW} (h : ws[i]? = some x) (hk : κ i = 0) (f : MF) : safeT κ ws (i + 1) f = safeT κ ws i f ∧ keptT κ ws (i + 1) f = keptT κ ws i f := by
 by_cases hn : x.file = f.id
 ·unfold safeT keptT
  rw [trips_succ h, if_pos hn]
  refine ⟨?_, ?_⟩
  ·rw [keepAll_snoc]; unfold keepOne; rw [if_pos hk]
  ·rw [List.any_append]; simp [hk]
 ·exact safe_other h hn
theorem safe_mine {κ : Nat → Nat} {ws : List RW} {i : Nat} {x : RW} (h : ws[i]? = some x) (hk : κ i ≠ 0) {f : MF} (hn : x.file = f.id) : safeT κ ws (i + 1) f = setPad (safeT κ ws i f) x.pos (torn (κ i) x.data ((safeT κ ws i f).getD x.pos zeros)) ∧ keptT κ ws (i + 1) f = true := by
 unfold safeT keptT
 rw [trips_succ h, if_pos hn]
 refine ⟨?_, ?_⟩
 ·rw [keepAll_snoc]; unfold keepOne; rw [if_neg hk]
 ·rw [List.any_append]; simp [hk]
theorem pad_size {S : List ByteArray} {p : Nat} {v : ByteArray} (h : ∀ s ∈ S, s.size = 256) (hv : v.size = 256) : ∀ s ∈ setPad S p v, s.size = 256 := by
 intro s hs
 unfold setPad at hs
 rcases List.mem_or_eq_of_mem_set hs with hs | rfl
 ·rcases List.mem_append.1 hs with hs | hs
  ·exact h s hs
  ·rw [List.eq_of_mem_replicate hs]; exact zeros_size
 ·exact hv
theorem getD_size {S : List ByteArray} (h : ∀ s ∈ S, s.size = 256) (p : Nat) : (S.getD p zeros).size = 256 := by
 rw [List.getD_eq_getElem?_getD]
 cases e : S[p]? with
 | none => exact zeros_size
 | some s => exact h s (List.mem_of_getElem? e)
theorem safe_size {κ : Nat → Nat} (hκ : ∀ i, κ i ≤ 256) {ws : List RW} (hw : ∀ x ∈ ws, x.pos ≤ 4000 ∧ x.data.size = 256) {f : MF} (hf : (∀ s ∈ f.safe, s.size = 256) ∧ f.safe.length ≤ 4001) : ∀ i, i ≤ ws.length → (∀ s ∈ safeT κ ws i f, s.size = 256) ∧ (safeT κ ws i f).length ≤ 4001
 | 0, _ => hf
 | i + 1, hi => by
  obtain ⟨h1, h2⟩ := safe_size hκ hw hf i (by omega)
  obtain ⟨x, hx⟩ : ∃ x, ws[i]? = some x := ⟨_, List.getElem?_eq_getElem (by omega)⟩
  have hxw := hw x (List.mem_of_getElem? hx)
  by_cases hk : κ i = 0
  ·rw [(safe_zero hx hk f).1]; exact ⟨h1, h2⟩
  ·by_cases hn : x.file = f.id
   ·rw [(safe_mine hx hk hn).1]
    refine ⟨pad_size h1 (torn_size hxw.2 (getD_size h1 _) (hκ i)), ?_⟩
    rw [setPad_length]
    omega
   ·rw [(safe_other hx hn).1]; exact ⟨h1, h2⟩
theorem owns_txt {w : World} {base : Nat} {v : Value} {n : Nat} {l : List ByteArray} (hn : n = l.length) (h : w.ownsRow base 9 1 v n (l.map Value.string)) : Txt w v l := by
 subst hn
 rcases h.2 with ⟨e, e2⟩ | ⟨g, cap, cur, e, h2, h3, h4, h5, h6, h7⟩
 ·exact .inl ⟨e, List.eq_nil_of_length_eq_zero e2⟩
 ·refine .inr ⟨g, cap, cur, e, h4, h5, h3, fun i s hs => ?_⟩
  have h8 : (cur.toList.take (l.length * 1))[i]? = some (.string s) := by rw [h7, List.getElem?_map, hs]; rfl
  have hi := (List.getElem?_eq_some_iff.1 hs).1
  rw [List.getElem?_take_of_lt (by omega)] at h8
  simpa using h8
structure Mid (D E : RM) (G : Nat → MF → List ByteArray) : Prop where
 eq : E = { D with off := true, armed := false, fs := E.fs }
 len : E.fs.length = D.fs.length
 at' : ∀ (j : Nat) (f : MF), D.fs[j]? = some f → ∃ v, E.fs[j]? = some { f with safe := G j f, sv := v }
structure CrI (lo : Nat) (w : World) (r : Nat) (D : RM) (kb : Nat) (wr : World) (E : RM) (bs : List Bool) (G : Nat → MF → List ByteArray) (K : Nat → MF → Bool) : Prop where
 st : RStep lo w r D wr E
 mid : Mid D E G
 kb_ : w.heap.size ≤ kb
 row : wr.heap[kb]? = some (.cells (bs.map Value.bool).toArray 4 (0, 0))
 len : bs.length = D.fs.length
 bs_ : ∀ (j : Nat) (f : MF), D.fs[j]? = some f → bs[j]? = some (K j f)
section
variable {lo : Nat} {w wr w' : World} {r kb : Nat} {D E : RM} {bs : List Bool} {G G' : Nat → MF → List ByteArray} {K K' : Nat → MF → Bool}
theorem Mid.lv (h : Mid D E G) : E.lv = D.lv := by rw [h.eq]
theorem Mid.wv (h : Mid D E G) : E.wv = D.wv := by rw [h.eq]
theorem Mid.ws (h : Mid D E G) : E.ws = D.ws := by rw [h.eq]
theorem Mid.own (h : Mid D E G) (k : Nat) : E.own r k ↔ D.own r k := by unfold RM.own; rw [h.lv, h.wv]
theorem CrI.below (h : CrI lo w r D kb wr E bs G K) (hb : Below wr.heap.size wr w') : CrI lo w r D kb w' E bs G K :=
 ⟨h.st.trans (RStep.below h.st.at' hb), h.mid, h.kb_, by rw [hb.block _ (lt_of_block h.row)]; exact h.row, h.len, h.bs_⟩
theorem CrI.congr (h : CrI lo w r D kb wr E bs G K) (hG : ∀ (j : Nat) (f : MF), D.fs[j]? = some f → G' j f = G j f) (hK : ∀ (j : Nat) (f : MF), D.fs[j]? = some f → K' j f = K j f) : CrI lo w r D kb wr E bs G' K' :=
 ⟨h.st, ⟨h.mid.eq, h.mid.len, fun j f hf => by rw [hG j f hf]; exact h.mid.at' j f hf⟩, h.kb_, h.row, h.len, fun j f hf => by rw [hK j f hf]; exact h.bs_ j f hf⟩
theorem CrI.kbn (h : CrI lo w r D kb wr E bs G K) (h0 : RAt lo w r D) : ∀ k, E.foot r k → k ≠ kb := by
 rintro k (hk | ⟨f, hf, hk⟩) e
 ·have := (h0.own_lt ((h.mid.own k).1 hk)).2
  have := h.kb_
  omega
 ·have ht := h.st.at'.txt f hf
  rcases hk with hk | hk
  ·obtain ⟨_, cur, e2⟩ := ht.1.lt hk
   rw [e, h.row] at e2
   simp at e2
  ·obtain ⟨_, cur, e2⟩ := ht.2.lt hk
   rw [e, h.row] at e2
   simp at e2
theorem CrI.mark (h : CrI lo w r D kb wr E bs G K) (h0 : RAt lo w r D) (j : Nat) (hj : j < D.fs.length) : CrI lo w r D kb (wr.setCell ⟨kb, j, none⟩ (.bool true)) E (bs.set j true) G (fun i f => if i = j then true else K i f) := by
 have ho : Only kb wr (wr.setCell ⟨kb, j, none⟩ (.bool true)) := (Only.refl _ _).setCell _ _
 refine ⟨⟨h.st.at'.frS (Fr.only (S := fun k => k = kb) ho rfl) (fun b hb e => h.kbn h0 b hb e), h.st.own, h.st.foot, fr_onlyNew h.st.fr ho h.kb_⟩, h.mid, h.kb_, ?_, by rw [List.length_set]; exact h.len, fun i f hf => ?_⟩
 ·have := set_at h.row j (.bool true)
  rw [this]
  congr 2
  simp [List.map_set]
 ·rw [List.getElem?_set]
  by_cases e : j = i
  ·subst e
   rw [if_pos rfl, if_pos (by rw [h.len]; exact hj), if_pos rfl]
  ·rw [if_neg e, if_neg (fun q => e q.symm)]
   exact h.bs_ i f hf
theorem CrI.safe (h : CrI lo w r D kb wr E bs G K) (hb : Below wr.heap.size wr w') {j g : Nat} {f : MF} (hf : D.fs[j]? = some f) (hg : D.lv.ownBlock = some g) {u : Value} {S : List ByteArray} (hS : Txt w' u S) (hl : S.length ≤ 4001) (hu : ∀ k, u.ownBlock = some k → wr.heap.size ≤ k) :
  ∃ E', CrI lo w r D kb (w'.setCell ⟨g, j * 6 + 3, none⟩ u) E' bs (fun i f => if i = j then S else G i f) K := by
 obtain ⟨v, hv⟩ := h.mid.at' j f hf
 have hj := (List.getElem?_eq_some_iff.1 hf).1
 have ht := h.st.at'.below hb |>.txt _ (List.mem_of_getElem? hv)
 have hlong := h.st.at'.long _ (List.mem_of_getElem? hv)
 have s1 := h.st.at'.setF (f' := { f with safe := S, sv := u }) (j := 3) (u := u) hb hv (by rw [h.mid.lv]; exact hg) (by decide) rfl ⟨ht.1, hS⟩ ⟨hlong.1, hl⟩
  (fun k hk => by
   rcases hk with hk | hk
   ·exact .inl (.inr ⟨_, List.mem_of_getElem? hv, .inl hk⟩)
   ·exact .inr (hu k hk))
 have hgk : g ≠ kb := fun e => by
  have h1 := h.kb_
  have h2 : E.own r g := .inr (.inl (by rw [h.mid.lv]; exact hg))
  obtain ⟨_, cur, h3⟩ := owned_at h.st.at'.lrow (by rw [h.mid.lv]; exact hg)
  rw [e, h.row] at h3
  simp at h3
 refine ⟨{ E with fs := E.fs.set j { f with safe := S, sv := u } }, h.st.trans s1, ⟨?_, ?_, fun i f2 hf2 => ?_⟩, h.kb_, ?_, h.len, h.bs_⟩
 ·have := h.mid.eq
  generalize E.fs = fs at this ⊢
  rw [this]
 ·show (E.fs.set j _).length = _
  rw [List.length_set]; exact h.mid.len
 ·show ∃ v, (E.fs.set j _)[i]? = _
  rw [List.getElem?_set]
  by_cases e : j = i
  ·subst e
   rw [if_pos rfl, if_pos (by rw [h.mid.len]; exact hj), if_pos rfl]
   rw [hf] at hf2
   cases hf2
   exact ⟨u, rfl⟩
  ·rw [if_neg e, if_neg (fun q => e q.symm)]
   exact h.mid.at' i f2 hf2
 ·rw [Below.heap_setCell _ _ _ _ (fun e => hgk e.symm), hb.block _ (lt_of_block h.row)]
  exact h.row
theorem CrI.cells (h : CrI lo w r D kb wr E bs G K) {g c : Nat} (hv : D.lv = .slice (some ⟨g, 0, none⟩) D.fs.length c) : wr.cell? ⟨r, 0, none⟩ = some (.slice (some ⟨g, 0, none⟩) D.fs.length c) ∧ wr.frozen? ⟨g, 0, none⟩ = false ∧ (∀ j, wr.frozen? ⟨g, j, none⟩ = false) ∧ (∀ j, wr.frozen? ⟨kb, j, none⟩ = false) ∧
  (∀ (j : Nat) (f : MF), D.fs[j]? = some f → ∃ a3 c3, wr.cell? ⟨g, j * 6 + 1, none⟩ = some (.int .i64 f.id) ∧ wr.cell? ⟨g, j * 6 + 3, none⟩ = some (.slice a3 (G j f).length c3) ∧ (G j f).length ≤ c3 ∧ Txt wr (.slice a3 (G j f).length c3) (G j f) ∧ wr.cell? ⟨kb, j, none⟩ = some (.bool (K j f))) := by
 have h1 := h.st.at'
 have hl : E.lv = .slice (some ⟨g, 0, none⟩) D.fs.length c := by rw [h.mid.lv]; exact hv
 have hg : E.lv.ownBlock = some g := by rw [hl]; rfl
 obtain ⟨_, cur, hblk⟩ := owned_at h1.lrow hg
 refine ⟨by rw [← hl]; exact h1.cell 0, free_at hblk 0, free_at hblk, free_at h.row, fun j f hf => ?_⟩
 obtain ⟨v, hv2⟩ := h.mid.at' j f hf
 obtain ⟨a, c', hv3, hc, hcell⟩ := h1.files
 obtain ⟨g', e1, e2, hcc⟩ := hcell j _ hv2
 obtain rfl : g' = g := by rw [hg] at e2; exact (Option.some.inj e2).symm
 have ht := (h1.txt _ (List.mem_of_getElem? hv2)).2
 obtain ⟨a3, c3, e3, h3, _⟩ := ht.shape
 have e3' : v = .slice a3 (G j f).length c3 := e3
 refine ⟨a3, c3, hcc 1 _ rfl, by rw [← e3']; exact hcc 3 _ rfl, h3, by rw [← e3']; exact ht, ?_⟩
 rw [cell_at h.row]
 have := h.bs_ j f hf
 simp [this]
end
end Go.Proofs.YtbkngnjkaledlaaGreat.P4
namespace Go.Proofs.YtbkngnjkaledlaaGreat.P4
open Go Go.RowKit Go.Lib P3
theorem infoB4 : (Tryz.prog.info? 4).map (fun i => (i.zero, i.size, i.bytes)) = some (some (.bool false), 1, 1) := by kernel_rfl
theorem made_bools (w : World) (n : Nat) (hn : n ≤ 100000) : (Instr.makeSlice 138 (.int .i64 n) (.int .i64 n)).run Tryz.prog w = .ok (.slice (some ⟨w.heap.size, 0, none⟩) n n) (w.alloc (.cells (madeCells #[.bool false] n) 4)) :=
 run_make_row' (P := Tryz.prog) 138 4 (.bool false) 1 Tryz.underlying138 infoB4 rfl .i64 .i64 n (by omega) (by omega) w
theorem bools_cells (n : Nat) : madeCells #[.bool false] n = ((List.replicate n false).map Value.bool).toArray := by
 apply Array.ext_getElem?
 intro j
 by_cases h : j < n
 ·simp [madeCells, h, Nat.mod_one]
 ·simp [madeCells, h]
def lostTo (κ : Nat → Nat) (i : Nat) : Nat := (List.range i).countP fun i => decide (κ i < 256)
theorem lost_next (κ : Nat → Nat) (i : Nat) : lostTo κ (i + 1) = lostTo κ i + if κ i < 256 then 1 else 0 := by
 unfold lostTo
 rw [List.range_succ, List.countP_append]
 simp [List.countP_cons]
theorem lost_le (κ : Nat → Nat) (i : Nat) : lostTo κ i ≤ i := by
 unfold lostTo
 exact Nat.le_trans List.countP_le_length (by simp)
def MF.lft (f : MF) : MF := { f with now := f.safe, nv := f.sv, made := true }
def leftL : List MF → List Bool → List MF
 | f :: fs, b :: bs => if (f.made || b) = true then f.lft :: leftL fs bs else leftL fs bs
 | _, _ => []
theorem left_snoc : ∀ {fs : List MF} {bs : List Bool} {f : MF} {b : Bool}, fs.length = bs.length → leftL (fs ++ [f]) (bs ++ [b]) = leftL fs bs ++ if (f.made || b) = true then [f.lft] else []
 | [], [], f, b, _ => by simp [leftL]
 | g :: fs, c :: bs, f, b, h => by
  have hl : fs.length = bs.length := by simpa using h
  have ih := left_snoc (f := f) (b := b) hl
  show (if (g.made || c) = true then g.lft :: leftL (fs ++ [f]) (bs ++ [b]) else leftL (fs ++ [f]) (bs ++ [b])) = (if (g.made || c) = true then g.lft :: leftL fs bs else leftL fs bs) ++ _
  rw [ih]
  split <;> simp
theorem left_len : ∀ (fs : List MF) (bs : List Bool), (leftL fs bs).length ≤ fs.length
 | [], _ => by simp [leftL]
 | f :: fs, [] => by simp [leftL]
 | f :: fs, b :: bs => by
  have := left_len fs bs
  show (if _ then _ else _ : List MF).length ≤ _
  split <;> simp <;> omega
theorem left_mem : ∀ {fs : List MF} {bs : List Bool} {x : MF}, x ∈ leftL fs bs → ∃ f ∈ fs, x = f.lft
 | [], _, x, h => by simp [leftL] at h
 | f :: fs, [], x, h => by simp [leftL] at h
 | f :: fs, b :: bs, x, h => by
  have h' : x ∈ (if (f.made || b) = true then f.lft :: leftL fs bs else leftL fs bs) := h
  split at h'
  ·rcases List.mem_cons.1 h' with rfl | h'
   ·exact ⟨f, by simp, rfl⟩
   ·obtain ⟨g, hg, e⟩ := left_mem h'
    exact ⟨g, by simp [hg], e⟩
  ·obtain ⟨g, hg, e⟩ := left_mem h'
   exact ⟨g, by simp [hg], e⟩
theorem left_core (κ : Nat → Nat) (ws : List RW) : ∀ (ds es : List MF) (bs : List Bool), es.length = ds.length → bs.length = ds.length →
  (∀ (j : Nat) (f : MF), ds[j]? = some f → (∃ v, es[j]? = some { f with safe := keepAll f.safe (tripsM κ ws f.id), sv := v }) ∧ bs[j]? = some ((tripsM κ ws f.id).any fun x => decide (x.1 ≠ 0))) →
  (leftL es bs).map MF.core = (ds.filter fun f => f.stays κ ws).map (MF.left κ ws)
 | [], es, bs, h1, h2, _ => by
  obtain rfl := List.eq_nil_of_length_eq_zero h1
  rfl
 | d :: ds, [], bs, h1, _, _ => by simp at h1
 | d :: ds, e :: es, [], _, h2, _ => by simp at h2
 | d :: ds, e :: es, b :: bs, h1, h2, h => by
  obtain ⟨⟨v, hv⟩, hb⟩ := h 0 d rfl
  have ih := left_core κ ws ds es bs (by simpa using h1) (by simpa using h2) (fun j f hf => by have := h (j + 1) f (by simpa using hf); simpa using this)
  have e1 : e = { d with safe := keepAll d.safe (tripsM κ ws d.id), sv := v } := by simpa using hv
  have e2 : b = (tripsM κ ws d.id).any fun x => decide (x.1 ≠ 0) := by simpa using hb
  have e3 : (e.made || b) = d.stays κ ws := by rw [e1, e2]; rfl
  show ((if _ then _ else _ : List MF)).map MF.core = _
  rw [e3]
  cases hs : d.stays κ ws with
  | true =>
   rw [if_pos rfl, List.filter_cons_of_pos (p := fun f => MF.stays f κ ws) hs, List.map_cons, List.map_cons, ih, e1]
   rfl
  | false =>
   rw [if_neg (by simp), List.filter_cons_of_neg (p := fun f => MF.stays f κ ws) (by simp [hs]), ih]
section
variable {lo : Nat} {w wr w' : World} {r kb : Nat} {D E : RM} {bs : List Bool}
abbrev CrA (lo : Nat) (w : World) (r : Nat) (D : RM) (κ : Nat → Nat) (kb i : Nat) (wr : World) : Prop := ∃ E bs, CrI lo w r D kb wr E bs (fun _ f => safeT κ D.ws i f) (fun _ f => keptT κ D.ws i f)
abbrev CrB (lo : Nat) (w : World) (r : Nat) (D : RM) (κ : Nat → Nat) (kb i j : Nat) (wr : World) : Prop := ∃ E bs, CrI lo w r D kb wr E bs (fun m f => if m < j then safeT κ D.ws (i + 1) f else safeT κ D.ws i f) (fun m f => if m < j then keptT κ D.ws (i + 1) f else keptT κ D.ws i f)
theorem CrA.start {κ : Nat → Nat} {i : Nat} (h : CrA lo w r D κ kb i wr) (hb : Below wr.heap.size wr w') : CrB lo w r D κ kb i 0 w' := by
 obtain ⟨E, bs, h⟩ := h
 exact ⟨E, bs, (h.below hb).congr (fun j f _ => if_neg (Nat.not_lt_zero _)) (fun j f _ => if_neg (Nat.not_lt_zero _))⟩
theorem CrB.done {κ : Nat → Nat} {i j : Nat} (h : CrB lo w r D κ kb i j wr) (hj : D.fs.length ≤ j) : CrA lo w r D κ kb (i + 1) wr := by
 obtain ⟨E, bs, h⟩ := h
 refine ⟨E, bs, h.congr (fun m f hf => ?_) (fun m f hf => ?_)⟩
 ·have := (List.getElem?_eq_some_iff.1 hf).1
  rw [if_pos (by omega)]
 ·have := (List.getElem?_eq_some_iff.1 hf).1
  rw [if_pos (by omega)]
theorem CrA.zero {κ : Nat → Nat} {i : Nat} {x : RW} (h : CrA lo w r D κ kb i wr) (hx : D.ws[i]? = some x) (hk : κ i = 0) (hb : Below wr.heap.size wr w') : CrA lo w r D κ kb (i + 1) w' := by
 obtain ⟨E, bs, h⟩ := h
 exact ⟨E, bs, (h.below hb).congr (fun m f _ => (safe_zero hx hk f).1) (fun m f _ => (safe_zero hx hk f).2)⟩
theorem CrB.other {κ : Nat → Nat} {i j : Nat} {x : RW} {f : MF} (h : CrB lo w r D κ kb i j wr) (hx : D.ws[i]? = some x) (hf : D.fs[j]? = some f) (hn : x.file ≠ f.id) (hb : Below wr.heap.size wr w') : CrB lo w r D κ kb i (j + 1) w' := by
 obtain ⟨E, bs, h⟩ := h
 have key : ∀ (m : Nat) (f2 : MF), D.fs[m]? = some f2 → m = j → f2 = f := fun m f2 h2 e => by rw [e, hf] at h2; exact (Option.some.inj h2).symm
 refine ⟨E, bs, (h.below hb).congr (fun m f2 hf2 => ?_) (fun m f2 hf2 => ?_)⟩
 ·by_cases e : m = j
  ·rw [if_pos (by omega), if_neg (by omega), key m f2 hf2 e, (safe_other hx hn).1]
  ·by_cases e2 : m < j
   ·rw [if_pos (by omega), if_pos e2]
   ·rw [if_neg (by omega), if_neg e2]
 ·by_cases e : m = j
  ·rw [if_pos (by omega), if_neg (by omega), key m f2 hf2 e, (safe_other hx hn).2]
  ·by_cases e2 : m < j
   ·rw [if_pos (by omega), if_pos e2]
   ·rw [if_neg (by omega), if_neg e2]
theorem CrB.mine {κ : Nat → Nat} {i j g : Nat} {x : RW} {f : MF} (h0 : RAt lo w r D) (h : CrB lo w r D κ kb i j wr) (hx : D.ws[i]? = some x) (hk : κ i ≠ 0) (hf : D.fs[j]? = some f) (hn : x.file = f.id) (hg : D.lv.ownBlock = some g) :
  ∀ W u, Below (wr.setCell ⟨kb, j, none⟩ (.bool true)).heap.size (wr.setCell ⟨kb, j, none⟩ (.bool true)) W → Txt W u (setPad (safeT κ D.ws i f) x.pos (torn (κ i) x.data ((safeT κ D.ws i f).getD x.pos zeros))) → (setPad (safeT κ D.ws i f) x.pos (torn (κ i) x.data ((safeT κ D.ws i f).getD x.pos zeros))).length ≤ 4001 → (∀ k, u.ownBlock = some k → wr.heap.size ≤ k) →
   CrB lo w r D κ kb i (j + 1) (W.setCell ⟨g, j * 6 + 3, none⟩ u) := by
 intro W u hb ht hl hu
 obtain ⟨E, bs, h⟩ := h
 have hj := (List.getElem?_eq_some_iff.1 hf).1
 have key : ∀ (m : Nat) (f2 : MF), D.fs[m]? = some f2 → m = j → f2 = f := fun m f2 h2 e => by rw [e, hf] at h2; exact (Option.some.inj h2).symm
 have hm := h.mark h0 j hj
 have hsz : (wr.setCell ⟨kb, j, none⟩ (.bool true)).heap.size = wr.heap.size := by simp [World.setCell]
 obtain ⟨E', h'⟩ := hm.safe hb hf hg ht hl (fun k hk => by rw [hsz]; exact hu k hk)
 refine ⟨E', _, h'.congr (fun m f2 hf2 => ?_) (fun m f2 hf2 => ?_)⟩
 ·by_cases e : m = j
  ·rw [if_pos (by omega), if_pos e, key m f2 hf2 e, (safe_mine hx hk hn).1]
  ·rw [if_neg e]
   by_cases e2 : m < j
   ·rw [if_pos (by omega), if_pos e2]
   ·rw [if_neg (by omega), if_neg e2]
 ·by_cases e : m = j
  ·rw [if_pos (by omega), if_pos e, key m f2 hf2 e, (safe_mine hx hk hn).2]
  ·rw [if_neg e]
   by_cases e2 : m < j
   ·rw [if_pos (by omega), if_pos e2]
   ·rw [if_neg (by omega), if_neg e2]
end
end Go.Proofs.YtbkngnjkaledlaaGreat.P4
