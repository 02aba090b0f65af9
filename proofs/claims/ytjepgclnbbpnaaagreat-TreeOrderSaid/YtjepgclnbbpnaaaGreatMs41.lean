/-
  Texts of the proofs of SaidOrd12.
-/
import Derived.Test.YtjepgclnbbpnaaaGreatMs40
set_option linter.unusedVariables false
set_option linter.unusedSimpArgs false
set_option maxHeartbeats 8000000
set_option maxRecDepth 100000
namespace Go.Proofs.YtjepgclnbbpnaaaGreat.P12
open PK (qqA qqB qqC qqD qqE qqF tk tkS dOne qh)
open Go Go.RowKit Go.Lib PK
open P11 (Pg)
open P9 (It kb kb_trans RightI lowK OwnI cellsI)
theorem guard_idle(q:Addr)(w:World) :
  CallsD Tryz.prog 50 #[.pointer (some q)] .returning w fun e u' w'=>e=.returned (.tuple #[])∧u'=.returning∧w'=w:=by
 refine callsD_of_wpS Tryz.func50 rfl fun c₀ cs hu=>?_
 apply wpS_seq
 apply wpS_region
 simp[wpOpsS,go_sem,recoverD,hu,Tryz.ntmps50,Exit.thenS]
 refine wpS_cond (t:=false) (by simp[Act.eval,Array.replicate]) ?_
 simp only[Bool.false_eq_true,if_false]
 refine wpS_of_wp (wp_skip ?_)
 cases c₀
 simp_all [bodyPostS,results,Tryz.results50]
theorem errno_result{fn:Func}{q:Tmp}(h:fn.results=#[.cell q 32])(tmps:Array Value)(w:World)(a:Nat)(x:Int)(hq:tmps.getD q undef=.pointer (some ⟨a,0,none⟩))(hx:w.heap[a]?=some (.cells #[.int .i64 x] 32 (0,0))) :
  (results fn tmps).run Tryz.prog w=.ok (.int .i64 x) w:=by
 have e0:(results fn tmps).run Tryz.prog w=((asAddr (tmps.getD q undef)).run Tryz.prog w).andThen fun a w₁=>(loadVar 32 a).run Tryz.prog w₁:=by
  simp only[results,h]
  simp[Sem.run_bind,Result.andThen]
 have e1:(asAddr (.pointer (some ⟨a,0,none⟩))).run Tryz.prog w=.ok ⟨a,0,none⟩ w:=rfl
 have hcell:w.cell? ⟨a,0,none⟩=some (.int .i64 x):=by rw[cell_at hx];rfl
 have e3:(loadVar 32 ⟨a,0,none⟩).run Tryz.prog w=.ok (.int .i64 x) w:=by
  simp[go_sem,loadVar,hcell]
 rw[e0,hq,e1,Result.andThen_ok,e3]
theorem guardPut(w:World)(b:Nat)(c1 c2 c3 c4 c5:Value)(y:Int)(Q:World→Prop)(hg:Calls Tryz.prog 32 #[c1,c2,c3,c4,c5] (w.alloc (.cells #[.int .i64 0] 32)) fun e w'=>e=.returned (.int .i64 y)∧w'.heap[w.heap.size]?=some (.cells #[.int .i64 0] 32 (0,0))∧Q w') :
  Calls Tryz.prog 31 #[pgv b,.func (.func 32) #[] #[c1,c2,c3,c4,c5]] w fun e w'=>e=.returned (.int .i64 y)∧∃ w2,Q w2∧w2.heap[w.heap.size]?=some (.cells #[.int .i64 0] 32 (0,0))∧w'=w2.setCell ⟨w.heap.size,0,none⟩ (.int .i64 y):=by
 have hmf:∀ (fn:Fn) (first cap:Array Value) (w:World),(Instr.makeFunc fn first cap).run Tryz.prog w=.ok (.func fn first cap) w:=fun _ _ _ _=>rfl
 have HG:=qh hg
 unfold pgv
 clear hg
 go_enter_defers Tryz.func31,Tryz.ntmps31
 go_wp2_with (first
  | (go_at_call 32;(with_reducible refine HG.out.mono ?_);rintro e w2 ⟨rfl,h1,h2⟩;have c0:=cell_at h1 0;have f0:=free_at h1 0;have H1:=qh h1;have H2:=qh h2;clear h1 h2))
 refine leaves_cons (f:=50) (args:=#[.pointer (some ⟨w.heap.size,0,none⟩)]) (by simp) (by simp[go_sem]) ?_
 refine (guard_idle ⟨w.heap.size,0,none⟩ _).mono ?_
 rintro e u' w'' ⟨rfl,rfl,rfl⟩
 exact⟨_,errno_result rfl _ _ w.heap.size y rfl (P3.set_at H1.out 0 _),rfl,w2,H2.out,H1.out,rfl⟩
theorem guardDelete(w:World)(b:Nat)(c1 c2 c3 c4 c5 c6:Value)(y:Int)(Q:World→Prop)(hg:Calls Tryz.prog 34 #[c1,c2,c3,c4,c5,c6] (w.alloc (.cells #[.int .i64 0] 32)) fun e w'=>e=.returned (.int .i64 y)∧w'.heap[w.heap.size]?=some (.cells #[.int .i64 0] 32 (0,0))∧Q w') :
  Calls Tryz.prog 31 #[pgv b,.func (.func 34) #[] #[c1,c2,c3,c4,c5,c6]] w fun e w'=>e=.returned (.int .i64 y)∧∃ w2,Q w2∧w2.heap[w.heap.size]?=some (.cells #[.int .i64 0] 32 (0,0))∧w'=w2.setCell ⟨w.heap.size,0,none⟩ (.int .i64 y):=by
 have hmf:∀ (fn:Fn) (first cap:Array Value) (w:World),(Instr.makeFunc fn first cap).run Tryz.prog w=.ok (.func fn first cap) w:=fun _ _ _ _=>rfl
 have HG:=qh hg
 unfold pgv
 clear hg
 go_enter_defers Tryz.func31,Tryz.ntmps31
 go_wp2_with (first
  | (go_at_call 34;(with_reducible refine HG.out.mono ?_);rintro e w2 ⟨rfl,h1,h2⟩;have c0:=cell_at h1 0;have f0:=free_at h1 0;have H1:=qh h1;have H2:=qh h2;clear h1 h2))
 refine leaves_cons (f:=50) (args:=#[.pointer (some ⟨w.heap.size,0,none⟩)]) (by simp) (by simp[go_sem]) ?_
 refine (guard_idle ⟨w.heap.size,0,none⟩ _).mono ?_
 rintro e u' w'' ⟨rfl,rfl,rfl⟩
 exact⟨_,errno_result rfl _ _ w.heap.size y rfl (P3.set_at H1.out 0 _),rfl,w2,H2.out,H1.out,rfl⟩
theorem guardItems(w:World)(b:Nat)(c1 c2 c3 c4 c5 c6:Value)(y:Int)(Q:World→Prop)(hg:Calls Tryz.prog 38 #[c1,c2,c3,c4,c5,c6] (w.alloc (.cells #[.int .i64 0] 32)) fun e w'=>e=.returned (.int .i64 y)∧w'.heap[w.heap.size]?=some (.cells #[.int .i64 0] 32 (0,0))∧Q w') :
  Calls Tryz.prog 31 #[pgv b,.func (.func 38) #[] #[c1,c2,c3,c4,c5,c6]] w fun e w'=>e=.returned (.int .i64 y)∧∃ w2,Q w2∧w2.heap[w.heap.size]?=some (.cells #[.int .i64 0] 32 (0,0))∧w'=w2.setCell ⟨w.heap.size,0,none⟩ (.int .i64 y):=by
 have hmf:∀ (fn:Fn) (first cap:Array Value) (w:World),(Instr.makeFunc fn first cap).run Tryz.prog w=.ok (.func fn first cap) w:=fun _ _ _ _=>rfl
 have HG:=qh hg
 unfold pgv
 clear hg
 go_enter_defers Tryz.func31,Tryz.ntmps31
 go_wp2_with (first
  | (go_at_call 38;(with_reducible refine HG.out.mono ?_);rintro e w2 ⟨rfl,h1,h2⟩;have c0:=cell_at h1 0;have f0:=free_at h1 0;have H1:=qh h1;have H2:=qh h2;clear h1 h2))
 refine leaves_cons (f:=50) (args:=#[.pointer (some ⟨w.heap.size,0,none⟩)]) (by simp) (by simp[go_sem]) ?_
 refine (guard_idle ⟨w.heap.size,0,none⟩ _).mono ?_
 rintro e u' w'' ⟨rfl,rfl,rfl⟩
 exact⟨_,errno_result rfl _ _ w.heap.size y rfl (P3.set_at H1.out 0 _),rfl,w2,H2.out,H1.out,rfl⟩
theorem guardCheck(w:World)(b:Nat)(c1 c2:Value)(y:Int)(Q:World→Prop)(hg:Calls Tryz.prog 44 #[c1,c2] (w.alloc (.cells #[.int .i64 0] 32)) fun e w'=>e=.returned (.int .i64 y)∧w'.heap[w.heap.size]?=some (.cells #[.int .i64 0] 32 (0,0))∧Q w') :
  Calls Tryz.prog 31 #[pgv b,.func (.func 44) #[] #[c1,c2]] w fun e w'=>e=.returned (.int .i64 y)∧∃ w2,Q w2∧w2.heap[w.heap.size]?=some (.cells #[.int .i64 0] 32 (0,0))∧w'=w2.setCell ⟨w.heap.size,0,none⟩ (.int .i64 y):=by
 have hmf:∀ (fn:Fn) (first cap:Array Value) (w:World),(Instr.makeFunc fn first cap).run Tryz.prog w=.ok (.func fn first cap) w:=fun _ _ _ _=>rfl
 have HG:=qh hg
 unfold pgv
 clear hg
 go_enter_defers Tryz.func31,Tryz.ntmps31
 go_wp2_with (first
  | (go_at_call 44;(with_reducible refine HG.out.mono ?_);rintro e w2 ⟨rfl,h1,h2⟩;have c0:=cell_at h1 0;have f0:=free_at h1 0;have H1:=qh h1;have H2:=qh h2;clear h1 h2))
 refine leaves_cons (f:=50) (args:=#[.pointer (some ⟨w.heap.size,0,none⟩)]) (by simp) (by simp[go_sem]) ?_
 refine (guard_idle ⟨w.heap.size,0,none⟩ _).mono ?_
 rintro e u' w'' ⟨rfl,rfl,rfl⟩
 exact⟨_,errno_result rfl _ _ w.heap.size y rfl (P3.set_at H1.out 0 _),rfl,w2,H2.out,H1.out,rfl⟩
theorem guardDepth(w:World)(b:Nat)(c1 c2 c3 c4:Value)(y:Int)(Q:World→Prop)(hg:Calls Tryz.prog 46 #[c1,c2,c3,c4] (w.alloc (.cells #[.int .i64 0] 32)) fun e w'=>e=.returned (.int .i64 y)∧w'.heap[w.heap.size]?=some (.cells #[.int .i64 0] 32 (0,0))∧Q w') :
  Calls Tryz.prog 31 #[pgv b,.func (.func 46) #[] #[c1,c2,c3,c4]] w fun e w'=>e=.returned (.int .i64 y)∧∃ w2,Q w2∧w2.heap[w.heap.size]?=some (.cells #[.int .i64 0] 32 (0,0))∧w'=w2.setCell ⟨w.heap.size,0,none⟩ (.int .i64 y):=by
 have hmf:∀ (fn:Fn) (first cap:Array Value) (w:World),(Instr.makeFunc fn first cap).run Tryz.prog w=.ok (.func fn first cap) w:=fun _ _ _ _=>rfl
 have HG:=qh hg
 unfold pgv
 clear hg
 go_enter_defers Tryz.func31,Tryz.ntmps31
 go_wp2_with (first
  | (go_at_call 46;(with_reducible refine HG.out.mono ?_);rintro e w2 ⟨rfl,h1,h2⟩;have c0:=cell_at h1 0;have f0:=free_at h1 0;have H1:=qh h1;have H2:=qh h2;clear h1 h2))
 refine leaves_cons (f:=50) (args:=#[.pointer (some ⟨w.heap.size,0,none⟩)]) (by simp) (by simp[go_sem]) ?_
 refine (guard_idle ⟨w.heap.size,0,none⟩ _).mono ?_
 rintro e u' w'' ⟨rfl,rfl,rfl⟩
 exact⟨_,errno_result rfl _ _ w.heap.size y rfl (P3.set_at H1.out 0 _),rfl,w2,H2.out,H1.out,rfl⟩
theorem guardGet(w:World)(b:Nat)(c1 c2 c3 c4 c5 c6:Value)(y:Int)(Q:World→Prop)(hg:Calls Tryz.prog 48 #[c1,c2,c3,c4,c5,c6] (w.alloc (.cells #[.int .i64 0] 32)) fun e w'=>e=.returned (.int .i64 y)∧w'.heap[w.heap.size]?=some (.cells #[.int .i64 0] 32 (0,0))∧Q w') :
  Calls Tryz.prog 31 #[pgv b,.func (.func 48) #[] #[c1,c2,c3,c4,c5,c6]] w fun e w'=>e=.returned (.int .i64 y)∧∃ w2,Q w2∧w2.heap[w.heap.size]?=some (.cells #[.int .i64 0] 32 (0,0))∧w'=w2.setCell ⟨w.heap.size,0,none⟩ (.int .i64 y):=by
 have hmf:∀ (fn:Fn) (first cap:Array Value) (w:World),(Instr.makeFunc fn first cap).run Tryz.prog w=.ok (.func fn first cap) w:=fun _ _ _ _=>rfl
 have HG:=qh hg
 unfold pgv
 clear hg
 go_enter_defers Tryz.func31,Tryz.ntmps31
 go_wp2_with (first
  | (go_at_call 48;(with_reducible refine HG.out.mono ?_);rintro e w2 ⟨rfl,h1,h2⟩;have c0:=cell_at h1 0;have f0:=free_at h1 0;have H1:=qh h1;have H2:=qh h2;clear h1 h2))
 refine leaves_cons (f:=50) (args:=#[.pointer (some ⟨w.heap.size,0,none⟩)]) (by simp) (by simp[go_sem]) ?_
 refine (guard_idle ⟨w.heap.size,0,none⟩ _).mono ?_
 rintro e u' w'' ⟨rfl,rfl,rfl⟩
 exact⟨_,errno_result rfl _ _ w.heap.size y rfl (P3.set_at H1.out 0 _),rfl,w2,H2.out,H1.out,rfl⟩
end Go.Proofs.YtjepgclnbbpnaaaGreat.P12
namespace Go.Proofs.YtjepgclnbbpnaaaGreat.P12
open Go Go.RowKit Go.Lib PK Go.Maps Go.Shelf Go.Sort
open P11 (Pg)
open P9 (It kb kb_trans RightI lowK OwnI cellsI)
theorem row_slice{w:World}{lo e n m:Nat}{v:Value}{xs:List Value}(h:w.ownsRow lo e n v m xs):∃ a c,v=.slice a m c:=by
 rcases h.2 with ⟨rfl,e1⟩|⟨g,cap,cur,rfl,_⟩
 ·exact⟨none,0,by rw[e1]⟩
 ·exact⟨_,_,rfl⟩
end Go.Proofs.YtjepgclnbbpnaaaGreat.P12
namespace Go.Proofs.YtjepgclnbbpnaaaGreat.P12
open PK (qqA qqB qqC qqD qqE qqF tk tkS dOne qh)
open Go Go.RowKit Go.Lib PK Go.Maps Go.Shelf Go.Sort
open P11 (Pg)
open P9 (It kb kb_trans RightI lowK OwnI cellsI)
theorem depth_cl(W:World)(n1 n2 n3 n4:Nat)(b:Nat)(vl vg:Value)(M:PM)(h:PAt W b vl vg M)(hsz:M.L.length≤100000)(D:Nat)(root:Int)(L:List It)(ids:List Int)(ht:Tree M D root L ids)(hD:D≤12)(hn:ids.Nodup)
  (h1:W.heap[n1]?=some (.cells #[pgv b] 66 (0,0))) (h2:W.heap[n2]?=some (.cells #[.int .i64 root] 3 (0,0))) (h3:W.heap[n3]?=some (.cells #[.int .i64 0] 3 (0,0))) (h4:W.heap[n4]?=some (.cells #[.int .i64 0] 32 (0,0))) :
  Calls Tryz.prog 46 #[.pointer (some ⟨n1,0,none⟩),.pointer (some ⟨n2,0,none⟩),.pointer (some ⟨n3,0,none⟩),.pointer (some ⟨n4,0,none⟩)] W fun e w'=>e=.returned (.int .i64 0)∧∃ w2,Below W.heap.size W w2∧w'=(w2.setCell ⟨n3,0,none⟩ (.int .i64 (D:Nat))).setCell ⟨n4,0,none⟩ (.int .i64 0):=by
 have hne:n4≠n3:=fun e=>by
  rw[e,h3] at h4
  cases h4
 have HI:=qh (tiDepth_any W b vl vg M h hsz D root L ids ht hD hn)
 unfold pgv at HI h1
 have o1:=cell_at h1 0
 have o2:=cell_at h2 0
 simp only[qqD,qqE,qqF] at o1 o2
 have H3:=qh h3
 have H4:=qh h4
 clear h h1 h2 h3 h4 ht hn
 go_enter Tryz.func46,Tryz.ntmps46
 go_wp2_with (first
  | (go_at_call 47;(with_reducible refine HI.out.mono ?_);rintro e w2 ⟨rfl,g2⟩;have c3:=cell_at (P3.old_below H3.out g2) 0;have f3:=free_at (P3.old_below H3.out g2) 0;have d4:=P3.old_set (P3.old_below H4.out g2) (⟨n3,0,none⟩:Addr) hne (.int .i64 (D:Nat));have c4:=cell_at d4 0;have f4:=free_at d4 0;have c5:=cell_at (P3.set_at d4 0 (.int .i64 0)) 0;have HB:=qh g2;clear g2 d4;(try simp only[qqD,qqE,qqF] at c3 c4 c5)))
 go_ret
 exact⟨rfl,w2,HB.out,rfl⟩
theorem int_result{fn:Func}{q u:Tmp}(h:fn.results=#[.cell q 3,.cell u 32])(tmps:Array Value)(w:World)(a b:Nat)(v:Value)(x:Int)(hq:tmps.getD q undef=.pointer (some ⟨a,0,none⟩))(hu:tmps.getD u undef=.pointer (some ⟨b,0,none⟩))
  (hc:w.heap[a]?=some (.cells #[v] 3 (0,0))) (hx:w.heap[b]?=some (.cells #[.int .i64 x] 32 (0,0))) :
  (results fn tmps).run Tryz.prog w=.ok (.tuple #[v,.int .i64 x]) w:=by
 have e0:(results fn tmps).run Tryz.prog w=((asAddr (tmps.getD q undef)).run Tryz.prog w).andThen fun a w₁=>((loadVar 3 a).run Tryz.prog w₁).andThen fun v w₂=>((asAddr (tmps.getD u undef)).run Tryz.prog w₂).andThen fun b w₃=>((loadVar 32 b).run Tryz.prog w₃).andThen fun y w₄=>.ok (.tuple #[v,y]) w₄:=by
  simp only[results,h]
  simp[Sem.run_bind,Result.andThen]
 have e1:(asAddr (.pointer (some ⟨a,0,none⟩))).run Tryz.prog w=.ok ⟨a,0,none⟩ w:=rfl
 have e2:(asAddr (.pointer (some ⟨b,0,none⟩))).run Tryz.prog w=.ok ⟨b,0,none⟩ w:=rfl
 have hc1:w.cell? ⟨a,0,none⟩=some v:=by rw[cell_at hc];rfl
 have hc2:w.cell? ⟨b,0,none⟩=some (.int .i64 x):=by rw[cell_at hx];rfl
 have e3:(loadVar 3 ⟨a,0,none⟩).run Tryz.prog w=.ok v w:=by
  simp[go_sem,loadVar,hc1]
 have e4:(loadVar 32 ⟨b,0,none⟩).run Tryz.prog w=.ok (.int .i64 x) w:=by
  simp[go_sem,loadVar,hc2]
 rw[e0,hq,e1,Result.andThen_ok,e3,Result.andThen_ok,hu,e2,Result.andThen_ok,e4]
 rfl
theorem trDepth_any(w:World)(b:Nat)(vl vg:Value)(M:PM)(h:PAt w b vl vg M)(hsz:M.L.length≤100000)(D:Nat)(root:Int)(L:List It)(ids:List Int)(ht:Tree M D root L ids)(hD:D≤12)(hn:ids.Nodup) :
  Calls Tryz.prog 29 #[pgv b,.int .i64 root] w fun e w'=>e=.returned (.tuple #[.int .i64 (D:Nat),.int .i64 0])∧Below w.heap.size w w':=by
 obtain⟨W1,hW1⟩:∃ W1,W1=w.alloc (.cells #[pgv b] 66):=⟨_,rfl⟩
 obtain⟨W2,hW2⟩:∃ W2,W2=W1.alloc (.cells #[.int .i64 root] 3):=⟨_,rfl⟩
 obtain⟨W3,hW3⟩:∃ W3,W3=W2.alloc (.cells #[.int .i64 0] 3):=⟨_,rfl⟩
 obtain⟨W4,hW4⟩:∃ W4,W4=W3.alloc (.cells #[.int .i64 0] 32):=⟨_,rfl⟩
 have b1:Below w.heap.size w W1:=by rw[hW1];exact below_new _ _
 have b2:Below W1.heap.size W1 W2:=by rw[hW2];exact below_new _ _
 have b3:Below W2.heap.size W2 W3:=by rw[hW3];exact below_new _ _
 have b4:Below W3.heap.size W3 W4:=by rw[hW4];exact below_new _ _
 have r1:W4.heap[w.heap.size]?=some (.cells #[pgv b] 66 (0,0)):=P3.old_below (P3.old_below (P3.old_below (by rw[hW1];exact new_at _ _ _) b2) b3) b4
 have r2:W4.heap[W1.heap.size]?=some (.cells #[.int .i64 root] 3 (0,0)):=P3.old_below (P3.old_below (by rw[hW2];exact new_at _ _ _) b3) b4
 have r3:W4.heap[W2.heap.size]?=some (.cells #[.int .i64 0] 3 (0,0)):=P3.old_below (by rw[hW3];exact new_at _ _ _) b4
 have r4:W4.heap[W3.heap.size]?=some (.cells #[.int .i64 0] 32 (0,0)):=by rw[hW4];exact new_at _ _ _
 have B4:Below w.heap.size w W4:=thenBelow (thenBelow (thenBelow b1 b2) b3) b4
 obtain⟨n3,hn3⟩:∃ n,n=W2.heap.size:=⟨_,rfl⟩
 obtain⟨n4,hn4⟩:∃ n,n=W3.heap.size:=⟨_,rfl⟩
 have z1:=b1.size
 have z2:=b2.size
 have z3:=b3.size
 have hne:n4≠n3:=by
  rw[hn3,hn4,hW3]
  simp
 rw[← hn3] at r3
 rw[← hn4] at r4
 obtain⟨W5,hW5⟩:∃ W5,W5=W4.alloc (.cells #[.int .i64 0] 32):=⟨_,rfl⟩
 have b5:Below W4.heap.size W4 W5:=by rw[hW5];exact below_new _ _
 have B5:=thenBelow B4 b5
 have r5:W5.heap[W4.heap.size]?=some (.cells #[.int .i64 0] 32 (0,0)):=by rw[hW5];exact new_at _ _ _
 have hcl:=depth_cl W5 w.heap.size W1.heap.size n3 n4 b vl vg M (h.below B5) hsz D root L ids ht hD hn (P3.old_below r1 b5) (P3.old_below r2 b5) (P3.old_below r3 b5) (P3.old_below r4 b5)
 have hl3:=lt_of_block r3
 have hl4:=lt_of_block r4
 have hgd:Calls Tryz.prog 31 #[pgv b,.func (.func 46) #[] #[.pointer (some ⟨w.heap.size,0,none⟩),.pointer (some ⟨W1.heap.size,0,none⟩),.pointer (some ⟨n3,0,none⟩),.pointer (some ⟨n4,0,none⟩)]] W4 fun e w'=>e=.returned (.int .i64 0)∧w'.heap[n3]?=some (.cells #[.int .i64 (D:Nat)] 3 (0,0))∧w'.heap[n4]?=some (.cells #[.int .i64 0] 32 (0,0))∧Below w.heap.size w w':=by
  refine (guardDepth W4 b _ _ _ _ 0 (fun w2=>w2.heap[n3]?=some (.cells #[.int .i64 (D:Nat)] 3 (0,0))∧w2.heap[n4]?=some (.cells #[.int .i64 0] 32 (0,0))∧Below w.heap.size w w2) ?_).mono ?_
  ·rw[← hW5]
   refine hcl.mono ?_
   rintro e w' ⟨rfl,w2,g1,rfl⟩
   have k3:=P3.old_below (P3.old_below r3 b5) g1
   have k4:=P3.old_below (P3.old_below r4 b5) g1
   refine⟨rfl,P3.old_set (P3.old_set (P3.old_below r5 g1) _ (by simp;omega) _) _ (by simp;omega) _,P3.old_set (P3.set_at k3 0 _) _ (by simp;omega) _,P3.set_at (P3.old_set k4 _ (by simp;omega) _) 0 _,?_⟩
   ·exact ((thenBelow B5 g1).setCell (p:=⟨n3,0,none⟩) (by show w.heap.size≤n3;omega) _).setCell (p:=⟨n4,0,none⟩) (by show w.heap.size≤n4;omega) _
  ·rintro e w' ⟨rfl,w2,⟨g1,g2,g4⟩,g5,rfl⟩
   refine⟨rfl,P3.old_set g1 _ (by simp;omega) _,P3.old_set g2 _ (by simp;omega) _,?_⟩
   ·exact g4.setCell (p:=⟨W4.heap.size,0,none⟩) (by show w.heap.size≤W4.heap.size;exact B4.size) _
 have HG:=qh hgd
 have hm1:w.heap.size≤n3:=by omega
 have hm2:w.heap.size≤n4:=by omega
 have o1:=cell_at r1 0
 simp only[qqD,qqE,qqF] at o1
 have e1:W1.heap.size=w.heap.size+1:=by rw[hW1];simp
 have e3:n3=w.heap.size+1+1:=by rw[hn3,hW2];simp[e1]
 have e4:n4=w.heap.size+1+1+1:=by rw[hn4,hW3];simp[← hn3,e3]
 have hmf:∀ (fn:Fn) (first cap:Array Value) (w:World),(Instr.makeFunc fn first cap).run Tryz.prog w=.ok (.func fn first cap) w:=fun _ _ _ _=>rfl
 rw[e1] at HG
 unfold pgv at HG o1 hW1 ⊢
 have HE3:=qh e3
 have HE4:=qh e4
 clear h ht hn hcl hgd r1 r2 r3 r4 r5 b1 b2 b3 b4 b5 B4 B5 z1 z2 z3 hl3 hl4 hW5 e1
 go_enter Tryz.func29,Tryz.ntmps29
 go_upto_region 1 with fail
 rw[← hW1,← hW2,← hW3,← hW4]
 rw[← e4,← e3]
 clear e3 e4 hn3 hn4 hW4 hW3 hW2 hW1
 go_upto_region 2 with (go_at_call 31;go_loud ((with_reducible refine HG.out.mono ?_);rintro e w5 ⟨rfl,g1,g2,g4⟩;have c4:=cell_at g2 0;have f4:=free_at g2 0;have K1:=qh g1;have K2:=qh g2;have K4:=qh g4;clear g1 g2 g4;(try simp only[qqD,qqE,qqF] at c4)))
 clear c4 f4 o1
 obtain⟨w6,hw6⟩:∃ w6,w6=w5.setCell ⟨n4,0,none⟩ (.int .i64 0):=⟨_,rfl⟩
 rw[← hw6]
 have q1:w6.heap[n3]?=some (.cells #[.int .i64 (D:Nat)] 3 (0,0)):=by rw[hw6];exact P3.old_set K1.out _ (Ne.symm hne) _
 have q2:w6.heap[n4]?=some (.cells #[.int .i64 0] 32 (0,0)):=by rw[hw6];exact P3.set_at K2.out 0 _
 have q3:P3.Fr (fun j=>j=n3∨j=n4) w5 w6:=by rw[hw6];exact (fr_set _ _ _ _).mono fun _ _ e=>.inr e
 clear hw6
 have p1:=cell_at q1 0
 have p2:=cell_at q2 0
 have p3:=free_at q1 0
 have p4:=free_at q2 0
 simp only[qqD,qqE,qqF] at p1 p2
 have T0:=qh q1
 have T1:=qh q2
 have Q3:=qh q3
 clear q1 q2 q3
 go_region
 obtain⟨w7,hw7⟩:∃ w7,w7=(w6.setCell ⟨n3,0,none⟩ (.int .i64 (D:Nat))).setCell ⟨n4,0,none⟩ (.int .i64 0):=⟨_,rfl⟩
 have u1:w7.heap[n3]?=some (.cells #[.int .i64 (D:Nat)] 3 (0,0)):=by rw[hw7];exact P3.old_set (P3.set_at T0.out 0 _) _ (Ne.symm hne) _
 have u2:w7.heap[n4]?=some (.cells #[.int .i64 0] 32 (0,0)):=by rw[hw7];exact P3.set_at (P3.old_set T1.out _ hne _) 0 _
 have u3:P3.Fr (fun j=>j=n3∨j=n4) w5 w7:=by rw[hw7];exact Q3.out.trans (((fr_set _ _ _ _).mono fun _ _ e=>.inl e).trans ((fr_set _ _ _ _).mono fun _ _ e=>.inr e))
 rw[← hw7]
 clear hw7 p1 p2 p3 p4
 go_wp2
 have hnw:∀ j,(j=n3∨j=n4)→w.heap.size≤j:=fun j hj=>by
  rcases hj with rfl|rfl
  ·exact hm1
  ·exact hm2
 refine bodyPost_ret (int_result rfl _ _ n3 n4 _ 0 rfl rfl u1 u2) rfl ⟨rfl,(P3.Fr.new K4.out u3 hnw).drew⟩
end Go.Proofs.YtjepgclnbbpnaaaGreat.P12
namespace Go.Proofs.YtjepgclnbbpnaaaGreat.P12
open PK (qqA qqB qqC qqD qqE qqF tk tkS dOne qh)
open Go Go.RowKit Go.Lib PK Go.Maps Go.Shelf Go.Sort
open P11 (Pg)
open P9 (It kb kb_trans RightI lowK hasK putI dropI OwnI cellsI)
theorem chd_out{w W w2 w3:World}{b:Nat}{vl vg:Value}{M:PM}{ids:List Int}{L':List It}{c:Nat}{r:Int}{vl' vg':Value}{M':PM}{S:Nat→Prop}(h:Chd W w2 b vl vg M ids L' c r vl' vg' M')(k:Below w.heap.size w W)(f:P3.Fr S w2 w3)(hS:∀ j,S j→w.heap.size≤j∧j < W.heap.size)(hp:∀ j,PS b vl vg j→j < w.heap.size):Chd w w3 b vl vg M ids L' c r vl' vg' M':=by
 refine⟨h.pg.fr f fun j hj hs=>?_,?_,fun j hj=>?_,h.res⟩
 ·have h1:=hS j hs
  rcases h.new j hj with h2|h2
  ·have:=hp j h2
   omega
  ·omega
 ·have f1:P3.Fr (PS b vl vg) w w2:=frThen (P3.Fr.of k) h.fr fun _ _ e=>e
  exact frThen f1 f fun j hj hs=>by have:=(hS j hs).1;omega
 ·rcases h.new j hj with h2|h2
  ·exact .inl h2
  ·exact .inr (Nat.le_trans k.size h2)
theorem PAt.below_size{w:World}{b:Nat}{vl vg:Value}{M:PM}(h:PAt w b vl vg M):∀ j,PS b vl vg j→j < w.heap.size:=fun j hj=>by
 obtain⟨cs,t,e1,_⟩:=h.cells_ hj
 exact lt_of_block e1
theorem put_cl(W:World)(n1 n2 na n3 n4:Nat)(b:Nat)(vl vg:Value)(M:PM)(h:PAt W b vl vg M)(hsz:M.L.length≤3400)(D:Nat)(root:Int)(L:List It)(ids:List Int)(ht:Tree M D root L ids)(hD:D≤12)(hn:ids.Nodup)(hr:∀ x∈ids,2≤x∧x < M.next)(hfr:2≤M.fr)(hgv:M.given.length≤90000)(x:It)(hx:x.ok=true)(hR:RightI L)(hl:(putI L x).length≤250)(hLl:L.length≤250)
  (h1:W.heap[n1]?=some (.cells #[pgv b] 66 (0,0))) (h2:W.heap[n2]?=some (.cells #[.int .i64 root] 3 (0,0))) (ha:W.heap[na]?=some (.cells #[.string x.key,.string x.val,.int .i64 x.kind] 29 (0,0))) (h3:W.heap[n3]?=some (.cells #[.int .i64 0] 3 (0,0))) (h4:W.heap[n4]?=some (.cells #[.int .i64 0] 32 (0,0))) (hp3:¬ PS b vl vg n3) (hp4:¬ PS b vl vg n4) :
  Calls Tryz.prog 32 #[.pointer (some ⟨n1,0,none⟩),.pointer (some ⟨n2,0,none⟩),.pointer (some ⟨na,0,none⟩),.pointer (some ⟨n3,0,none⟩),.pointer (some ⟨n4,0,none⟩)] W fun e w'=>e=.returned (.int .i64 0)∧∃ r vl' vg' M' w2,Chd W w2 b vl vg M ids (putI L x) (gmax true D) r vl' vg' M'∧w'=(w2.setCell ⟨n3,0,none⟩ (.int .i64 r)).setCell ⟨n4,0,none⟩ (.int .i64 0):=by
 have hne:n4≠n3:=fun e=>by
  rw[e,h3] at h4
  cases h4
 have HI:=qh (tiPut_any W b vl vg M h hsz D root L ids ht hD hn hr hfr hgv x hx hR hl hLl)
 unfold pgv at HI h1
 unfold P9.It.v at HI
 have o1:=cell_at h1 0
 have o2:=cell_at h2 0
 have a0:=cell_at ha 0
 have a1:=cell_at ha 1
 have a2:=cell_at ha 2
 simp only[qqD,qqE,qqF] at o1 o2 a0 a1 a2
 have H3:=qh h3
 have H4:=qh h4
 have HP3:=qh hp3
 have HP4:=qh hp4
 clear h h1 h2 ha h3 h4 ht hn hr hR hp3 hp4 hx
 go_enter Tryz.func32,Tryz.ntmps32
 go_wp2_with (first
  | (go_at_call 33;(with_reducible refine HI.out.mono ?_);rintro e w2 ⟨r,vl',vg',M',rfl,g1⟩;have k3:=g1.fr.keep H3.out HP3.out;have c3:=cell_at k3 0;have f3:=free_at k3 0;have d4:=P3.old_set (g1.fr.keep H4.out HP4.out) (⟨n3,0,none⟩:Addr) hne (.int .i64 r);have c4:=cell_at d4 0;have f4:=free_at d4 0;have c5:=cell_at (P3.set_at d4 0 (.int .i64 0)) 0;have HB:=qh g1;clear g1 d4 k3;(try simp only[qqD,qqE,qqF] at c3 c4 c5)))
 go_ret
 exact⟨rfl,r,vl',vg',M',w2,HB.out,rfl⟩
theorem trPut_any(w:World)(b:Nat)(vl vg:Value)(M:PM)(h:PAt w b vl vg M)(hsz:M.L.length≤3400)(D:Nat)(root:Int)(L:List It)(ids:List Int)(ht:Tree M D root L ids)(hD:D≤12)(hn:ids.Nodup)(hr:∀ x∈ids,2≤x∧x < M.next)(hfr:2≤M.fr)(hgv:M.given.length≤90000)(x:It)(hx:x.ok=true)(hR:RightI L)(hl:(putI L x).length≤250)(hLl:L.length≤250) :
  Calls Tryz.prog 11 #[pgv b,.int .i64 root,x.v] w fun e w'=>∃ r vl' vg' M',e=.returned (.tuple #[.int .i64 r,.int .i64 0])∧Chd w w' b vl vg M ids (putI L x) (gmax true D) r vl' vg' M':=by
 obtain⟨W1,hW1⟩:∃ W1,W1=w.alloc (.cells #[pgv b] 66):=⟨_,rfl⟩
 obtain⟨W2,hW2⟩:∃ W2,W2=W1.alloc (.cells #[.int .i64 root] 3):=⟨_,rfl⟩
 obtain⟨Wa,hWa⟩:∃ Wa,Wa=W2.alloc (.cells #[.string x.key,.string x.val,.int .i64 x.kind] 29):=⟨_,rfl⟩
 obtain⟨W3,hW3⟩:∃ W3,W3=Wa.alloc (.cells #[.int .i64 0] 3):=⟨_,rfl⟩
 obtain⟨W4,hW4⟩:∃ W4,W4=W3.alloc (.cells #[.int .i64 0] 32):=⟨_,rfl⟩
 have b1:Below w.heap.size w W1:=by rw[hW1];exact below_new _ _
 have b2:Below W1.heap.size W1 W2:=by rw[hW2];exact below_new _ _
 have ba:Below W2.heap.size W2 Wa:=by rw[hWa];exact below_new _ _
 have b3:Below Wa.heap.size Wa W3:=by rw[hW3];exact below_new _ _
 have b4:Below W3.heap.size W3 W4:=by rw[hW4];exact below_new _ _
 have r1:W4.heap[w.heap.size]?=some (.cells #[pgv b] 66 (0,0)):=P3.old_below (P3.old_below (P3.old_below (P3.old_below (by rw[hW1];exact new_at _ _ _) b2) ba) b3) b4
 have r2:W4.heap[W1.heap.size]?=some (.cells #[.int .i64 root] 3 (0,0)):=P3.old_below (P3.old_below (P3.old_below (by rw[hW2];exact new_at _ _ _) ba) b3) b4
 have ra:W4.heap[W2.heap.size]?=some (.cells #[.string x.key,.string x.val,.int .i64 x.kind] 29 (0,0)):=P3.old_below (P3.old_below (by rw[hWa];exact new_at _ _ _) b3) b4
 have r3:W4.heap[Wa.heap.size]?=some (.cells #[.int .i64 0] 3 (0,0)):=P3.old_below (by rw[hW3];exact new_at _ _ _) b4
 have r4:W4.heap[W3.heap.size]?=some (.cells #[.int .i64 0] 32 (0,0)):=by rw[hW4];exact new_at _ _ _
 have B4:Below w.heap.size w W4:=thenBelow (thenBelow (thenBelow (thenBelow b1 b2) ba) b3) b4
 obtain⟨n3,hn3⟩:∃ n,n=Wa.heap.size:=⟨_,rfl⟩
 obtain⟨n4,hn4⟩:∃ n,n=W3.heap.size:=⟨_,rfl⟩
 have z1:=b1.size
 have z2:=b2.size
 have z3:=b3.size
 have za:=ba.size
 have hne:n4≠n3:=by
  rw[hn3,hn4,hW3]
  simp
 rw[← hn3] at r3
 rw[← hn4] at r4
 obtain⟨W5,hW5⟩:∃ W5,W5=W4.alloc (.cells #[.int .i64 0] 32):=⟨_,rfl⟩
 have b5:Below W4.heap.size W4 W5:=by rw[hW5];exact below_new _ _
 have B5:=thenBelow B4 b5
 have r5:W5.heap[W4.heap.size]?=some (.cells #[.int .i64 0] 32 (0,0)):=by rw[hW5];exact new_at _ _ _
 have hps:=h.below_size
 have hl3:=lt_of_block r3
 have hl4:=lt_of_block r4
 have z5:W5.heap.size=W4.heap.size+1:=by rw[hW5];simp
 have zB:=B4.size
 have hm1:w.heap.size≤n3:=by omega
 have hm2:w.heap.size≤n4:=by omega
 have hcl:=put_cl W5 w.heap.size W1.heap.size W2.heap.size n3 n4 b vl vg M (h.below B5) hsz D root L ids ht hD hn hr hfr hgv x hx hR hl hLl (P3.old_below r1 b5) (P3.old_below r2 b5) (P3.old_below ra b5) (P3.old_below r3 b5) (P3.old_below r4 b5) (fun hp=>by have:=hps _ hp;omega) (fun hp=>by have:=hps _ hp;omega)
 have hgd:Calls Tryz.prog 31 #[pgv b,.func (.func 32) #[] #[.pointer (some ⟨w.heap.size,0,none⟩),.pointer (some ⟨W1.heap.size,0,none⟩),.pointer (some ⟨W2.heap.size,0,none⟩),.pointer (some ⟨n3,0,none⟩),.pointer (some ⟨n4,0,none⟩)]] W4 fun e w'=>e=.returned (.int .i64 0)∧∃ r vl' vg' M' w2,w'.heap[n3]?=some (.cells #[.int .i64 r] 3 (0,0))∧w'.heap[n4]?=some (.cells #[.int .i64 0] 32 (0,0))∧Chd W5 w2 b vl vg M ids (putI L x) (gmax true D) r vl' vg' M'∧P3.Fr (fun j=>w.heap.size≤j∧j < W5.heap.size) w2 w':=by
  refine (guardPut W4 b _ _ _ _ _ 0 (fun w3=>∃ r vl' vg' M' w2,w3.heap[n3]?=some (.cells #[.int .i64 r] 3 (0,0))∧w3.heap[n4]?=some (.cells #[.int .i64 0] 32 (0,0))∧Chd W5 w2 b vl vg M ids (putI L x) (gmax true D) r vl' vg' M'∧P3.Fr (fun j=>w.heap.size≤j∧j < W5.heap.size) w2 w3) ?_).mono ?_
  ·rw[← hW5]
   refine hcl.mono ?_
   rintro e w' ⟨rfl,r,vl',vg',M',w2,g1,rfl⟩
   have k3:=g1.fr.keep (P3.old_below r3 b5) (fun hp=>by have:=hps _ hp;omega)
   have k4:=g1.fr.keep (P3.old_below r4 b5) (fun hp=>by have:=hps _ hp;omega)
   have k5:=g1.fr.keep r5 (fun hp=>by have:=hps _ hp;omega)
   exact⟨rfl,P3.old_set (P3.old_set k5 _ (by simp;omega) _) _ (by simp;omega) _,r,vl',vg',M',w2,P3.old_set (P3.set_at k3 0 _) _ (by simp;omega) _,P3.set_at (P3.old_set k4 _ (by simp;omega) _) 0 _,g1,((fr_set _ _ _ _).mono fun _ _ e=>by omega).trans ((fr_set _ _ _ _).mono fun _ _ e=>by omega)⟩
  ·rintro e w' ⟨rfl,w3,⟨r,vl',vg',M',w2,g1,g2,g3,g4⟩,g5,rfl⟩
   exact⟨rfl,r,vl',vg',M',w2,P3.old_set g1 _ (by simp;omega) _,P3.old_set g2 _ (by simp;omega) _,g3,g4.trans ((fr_set _ _ _ _).mono fun _ _ e=>by omega)⟩
 have HG:=qh hgd
 have HB5:=qh B5
 have HPs:=qh hps
 have HZ5:Hid (n3 < W5.heap.size∧n4 < W5.heap.size):=qh ⟨by omega,by omega⟩
 have o1:=cell_at r1 0
 simp only[qqD,qqE,qqF] at o1
 have e1:W1.heap.size=w.heap.size+1:=by rw[hW1];simp
 have e2:W2.heap.size=w.heap.size+1+1:=by rw[hW2];simp[e1]
 have e3:n3=w.heap.size+1+1+1:=by rw[hn3,hWa];simp[e2]
 have e4:n4=w.heap.size+1+1+1+1:=by rw[hn4,hW3];simp[← hn3,e3]
 have hmf:∀ (fn:Fn) (first cap:Array Value) (w:World),(Instr.makeFunc fn first cap).run Tryz.prog w=.ok (.func fn first cap) w:=fun _ _ _ _=>rfl
 rw[e1,e2] at HG
 unfold pgv at HG o1 hW1 ⊢
 unfold P9.It.v
 have HE3:=qh e3
 have HE4:=qh e4
 clear h ht hn hcl hgd r1 r2 r3 r4 r5 b1 b2 b3 b4 b5 B4 B5 z1 z2 z3 hl3 hl4 hW5 e1 e2 ra ba za zB z5 hps hr hR hx
 go_enter Tryz.func11,Tryz.ntmps11
 go_upto_region 1 with fail
 rw[← hW1,← hW2,← hWa,← hW3,← hW4]
 rw[← e4,← e3]
 clear e3 e4 hn3 hn4 hW4 hW3 hWa hW2 hW1
 go_upto_region 2 with (go_at_call 31;go_loud ((with_reducible refine HG.out.mono ?_);rintro e w5 ⟨rfl,r,vl',vg',M',w2,g1,g2,g3,g4⟩;have K3:=qh g3;have c4:=cell_at g2 0;have f4:=free_at g2 0;have K1:=qh g1;have K2:=qh g2;have K4:=qh g4;clear g1 g2 g3 g4;(try simp only[qqD,qqE,qqF] at c4)))
 clear c4 f4 o1
 obtain⟨w6,hw6⟩:∃ w6,w6=w5.setCell ⟨n4,0,none⟩ (.int .i64 0):=⟨_,rfl⟩
 rw[← hw6]
 have q1:w6.heap[n3]?=some (.cells #[.int .i64 r] 3 (0,0)):=by rw[hw6];exact P3.old_set K1.out _ (Ne.symm hne) _
 have q2:w6.heap[n4]?=some (.cells #[.int .i64 0] 32 (0,0)):=by rw[hw6];exact P3.set_at K2.out 0 _
 have q3:P3.Fr (fun j=>j=n3∨j=n4) w5 w6:=by rw[hw6];exact (fr_set _ _ _ _).mono fun _ _ e=>.inr e
 clear hw6
 have p1:=cell_at q1 0
 have p2:=cell_at q2 0
 have p3:=free_at q1 0
 have p4:=free_at q2 0
 simp only[qqD,qqE,qqF] at p1 p2
 have T0:=qh q1
 have T1:=qh q2
 have Q3:=qh q3
 clear q1 q2 q3
 go_region
 obtain⟨w7,hw7⟩:∃ w7,w7=(w6.setCell ⟨n3,0,none⟩ (.int .i64 r)).setCell ⟨n4,0,none⟩ (.int .i64 0):=⟨_,rfl⟩
 have u1:w7.heap[n3]?=some (.cells #[.int .i64 r] 3 (0,0)):=by rw[hw7];exact P3.old_set (P3.set_at T0.out 0 _) _ (Ne.symm hne) _
 have u2:w7.heap[n4]?=some (.cells #[.int .i64 0] 32 (0,0)):=by rw[hw7];exact P3.set_at (P3.old_set T1.out _ hne _) 0 _
 have u3:P3.Fr (fun j=>j=n3∨j=n4) w5 w7:=by rw[hw7];exact Q3.out.trans (((fr_set _ _ _ _).mono fun _ _ e=>.inl e).trans ((fr_set _ _ _ _).mono fun _ _ e=>.inr e))
 rw[← hw7]
 clear hw7 p1 p2 p3 p4
 go_wp2
 refine bodyPost_ret (int_result rfl _ _ n3 n4 _ 0 rfl rfl u1 u2) rfl ⟨r,vl',vg',M',rfl,?_⟩
 have hz:=HZ5.out
 exact (chd_out K3.out HB5.out (K4.out.trans (u3.mono fun j _ e=>by omega)) (fun j hj=>hj) HPs.out).below ((Below.refl _ w7).drew)
theorem putbad_cl(W:World)(n1 n2 na n3 n4:Nat)(b:Nat)(root:Int)(x:It)(hx:x.ok=false)
  (h1:W.heap[n1]?=some (.cells #[pgv b] 66 (0,0))) (h2:W.heap[n2]?=some (.cells #[.int .i64 root] 3 (0,0))) (ha:W.heap[na]?=some (.cells #[.string x.key,.string x.val,.int .i64 x.kind] 29 (0,0))) (h3:W.heap[n3]?=some (.cells #[.int .i64 0] 3 (0,0))) (h4:W.heap[n4]?=some (.cells #[.int .i64 0] 32 (0,0))) :
  Calls Tryz.prog 32 #[.pointer (some ⟨n1,0,none⟩),.pointer (some ⟨n2,0,none⟩),.pointer (some ⟨na,0,none⟩),.pointer (some ⟨n3,0,none⟩),.pointer (some ⟨n4,0,none⟩)] W fun e w'=>e=.returned (.int .i64 1)∧∃ w2,Below W.heap.size W w2∧w'=(w2.setCell ⟨n3,0,none⟩ (.int .i64 0)).setCell ⟨n4,0,none⟩ (.int .i64 1):=by
 have hne:n4≠n3:=fun e=>by
  rw[e,h3] at h4
  cases h4
 have HI:=qh (tiPut_bad W b root x hx)
 unfold pgv at HI h1
 unfold P9.It.v at HI
 have o1:=cell_at h1 0
 have o2:=cell_at h2 0
 have a0:=cell_at ha 0
 have a1:=cell_at ha 1
 have a2:=cell_at ha 2
 simp only[qqD,qqE,qqF] at o1 o2 a0 a1 a2
 have H3:=qh h3
 have H4:=qh h4
 clear h1 h2 ha h3 h4 hx
 go_enter Tryz.func32,Tryz.ntmps32
 go_wp2_with (first
  | (go_at_call 33;(with_reducible refine HI.out.mono ?_);rintro e w2 ⟨rfl,g1⟩;have k3:=P3.old_below H3.out g1;have c3:=cell_at k3 0;have f3:=free_at k3 0;have d4:=P3.old_set (P3.old_below H4.out g1) (⟨n3,0,none⟩:Addr) hne (.int .i64 0);have c4:=cell_at d4 0;have f4:=free_at d4 0;have c5:=cell_at (P3.set_at d4 0 (.int .i64 1)) 0;have HB:=qh g1;clear g1 d4 k3;(try simp only[qqD,qqE,qqF] at c3 c4 c5)))
 go_ret
 exact⟨rfl,w2,HB.out,rfl⟩
end Go.Proofs.YtjepgclnbbpnaaaGreat.P12
