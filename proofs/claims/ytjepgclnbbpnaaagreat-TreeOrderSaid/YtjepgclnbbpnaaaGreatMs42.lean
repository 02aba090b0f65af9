/-
  Texts of the proofs of SaidOrd12.
-/
import Derived.Test.YtjepgclnbbpnaaaGreatMs41
set_option linter.unusedVariables false
set_option linter.unusedSimpArgs false
set_option maxHeartbeats 8000000
set_option maxRecDepth 100000
namespace Go.Proofs.YtjepgclnbbpnaaaGreat.P12
open PK (qqA qqB qqC qqD qqE qqF tk tkS dOne qh)
open Go Go.RowKit Go.Lib PK Go.Maps Go.Shelf Go.Sort
open P11 (Pg)
open P9 (It kb kb_trans RightI lowK hasK putI dropI OwnI cellsI)
theorem trPut_bad(w:World)(b:Nat)(root:Int)(x:It)(hx:x.ok=false) :
  Calls Tryz.prog 11 #[pgv b,.int .i64 root,x.v] w fun e w'=>e=.returned (.tuple #[.int .i64 0,.int .i64 1])∧Below w.heap.size w w':=by
 obtain⟨W1,hW1⟩:∃ W1,W1=w.alloc (.cells #[pgv b] 66):=⟨_,rfl⟩
 obtain⟨W2,hW2⟩:∃ W2,W2=W1.alloc (.cells #[.int .i64 root] 3):=⟨_,rfl⟩
 obtain⟨Wa,hWa⟩:∃ Wa,Wa=W2.alloc (.cells #[.string x.key,.string x.val,.int .i64 x.kind] 29):=⟨_,rfl⟩
 obtain⟨W3,hW3⟩:∃ W3,W3=Wa.alloc (.cells #[.int .i64 0] 3):=⟨_,rfl⟩
 obtain⟨W4,hW4⟩:∃ W4,W4=W3.alloc (.cells #[.int .i64 0] 32):=⟨_,rfl⟩
 have b1:Below w.heap.size w W1:=by rw[hW1];exact below_new _ _
 have b2:Below W1.heap.size W1 W2:=by rw[hW2];exact below_new _ _
 have ba:Below W2.heap.size W2 Wa:=by rw[hWa];exact below_new _ _
 have b3:Below Wa.heap.size Wa W3:=by rw[hW3];exact below_new _ _
 have b4:Below W3.heap.size W3 W4:=by rw[hW4];exact below_new _ _
 have r1:W4.heap[w.heap.size]?=some (.cells #[pgv b] 66 (0,0)):=P3.old_below (P3.old_below (P3.old_below (P3.old_below (by rw[hW1];exact new_at _ _ _) b2) ba) b3) b4
 have r2:W4.heap[W1.heap.size]?=some (.cells #[.int .i64 root] 3 (0,0)):=P3.old_below (P3.old_below (P3.old_below (by rw[hW2];exact new_at _ _ _) ba) b3) b4
 have ra:W4.heap[W2.heap.size]?=some (.cells #[.string x.key,.string x.val,.int .i64 x.kind] 29 (0,0)):=P3.old_below (P3.old_below (by rw[hWa];exact new_at _ _ _) b3) b4
 have r3:W4.heap[Wa.heap.size]?=some (.cells #[.int .i64 0] 3 (0,0)):=P3.old_below (by rw[hW3];exact new_at _ _ _) b4
 have r4:W4.heap[W3.heap.size]?=some (.cells #[.int .i64 0] 32 (0,0)):=by rw[hW4];exact new_at _ _ _
 have B4:Below w.heap.size w W4:=thenBelow (thenBelow (thenBelow (thenBelow b1 b2) ba) b3) b4
 obtain⟨n3,hn3⟩:∃ n,n=Wa.heap.size:=⟨_,rfl⟩
 obtain⟨n4,hn4⟩:∃ n,n=W3.heap.size:=⟨_,rfl⟩
 have z1:=b1.size
 have z2:=b2.size
 have z3:=b3.size
 have za:=ba.size
 have hne:n4≠n3:=by
  rw[hn3,hn4,hW3]
  simp
 rw[← hn3] at r3
 rw[← hn4] at r4
 obtain⟨W5,hW5⟩:∃ W5,W5=W4.alloc (.cells #[.int .i64 0] 32):=⟨_,rfl⟩
 have b5:Below W4.heap.size W4 W5:=by rw[hW5];exact below_new _ _
 have B5:=thenBelow B4 b5
 have r5:W5.heap[W4.heap.size]?=some (.cells #[.int .i64 0] 32 (0,0)):=by rw[hW5];exact new_at _ _ _
 have hl3:=lt_of_block r3
 have hl4:=lt_of_block r4
 have z5:W5.heap.size=W4.heap.size+1:=by rw[hW5];simp
 have zB:=B4.size
 have hm1:w.heap.size≤n3:=by omega
 have hm2:w.heap.size≤n4:=by omega
 have hcl:=putbad_cl W5 w.heap.size W1.heap.size W2.heap.size n3 n4 b root x hx (P3.old_below r1 b5) (P3.old_below r2 b5) (P3.old_below ra b5) (P3.old_below r3 b5) (P3.old_below r4 b5)
 have hgd:Calls Tryz.prog 31 #[pgv b,.func (.func 32) #[] #[.pointer (some ⟨w.heap.size,0,none⟩),.pointer (some ⟨W1.heap.size,0,none⟩),.pointer (some ⟨W2.heap.size,0,none⟩),.pointer (some ⟨n3,0,none⟩),.pointer (some ⟨n4,0,none⟩)]] W4 fun e w'=>e=.returned (.int .i64 1)∧w'.heap[n3]?=some (.cells #[.int .i64 0] 3 (0,0))∧w'.heap[n4]?=some (.cells #[.int .i64 1] 32 (0,0))∧Below w.heap.size w w':=by
  refine (guardPut W4 b _ _ _ _ _ 1 (fun w3=>w3.heap[n3]?=some (.cells #[.int .i64 0] 3 (0,0))∧w3.heap[n4]?=some (.cells #[.int .i64 1] 32 (0,0))∧Below w.heap.size w w3) ?_).mono ?_
  ·rw[← hW5]
   refine hcl.mono ?_
   rintro e w' ⟨rfl,w2,g1,rfl⟩
   have k3:=P3.old_below (P3.old_below r3 b5) g1
   have k4:=P3.old_below (P3.old_below r4 b5) g1
   have k5:=P3.old_below r5 g1
   exact⟨rfl,P3.old_set (P3.old_set k5 _ (by simp;omega) _) _ (by simp;omega) _,P3.old_set (P3.set_at k3 0 _) _ (by simp;omega) _,P3.set_at (P3.old_set k4 _ (by simp;omega) _) 0 _,((thenBelow B5 g1).setCell (p:=⟨n3,0,none⟩) (by show w.heap.size≤n3;omega) _).setCell (p:=⟨n4,0,none⟩) (by show w.heap.size≤n4;omega) _⟩
  ·rintro e w' ⟨rfl,w3,⟨g1,g2,g4⟩,g5,rfl⟩
   exact⟨rfl,P3.old_set g1 _ (by simp;omega) _,P3.old_set g2 _ (by simp;omega) _,g4.setCell (p:=⟨W4.heap.size,0,none⟩) (by show w.heap.size≤W4.heap.size;exact B4.size) _⟩
 have HG:=qh hgd
 have HZ5:Hid (n3 < W5.heap.size∧n4 < W5.heap.size):=qh ⟨by omega,by omega⟩
 have o1:=cell_at r1 0
 simp only[qqD,qqE,qqF] at o1
 have e1:W1.heap.size=w.heap.size+1:=by rw[hW1];simp
 have e2:W2.heap.size=w.heap.size+1+1:=by rw[hW2];simp[e1]
 have e3:n3=w.heap.size+1+1+1:=by rw[hn3,hWa];simp[e2]
 have e4:n4=w.heap.size+1+1+1+1:=by rw[hn4,hW3];simp[← hn3,e3]
 have hmf:∀ (fn:Fn) (first cap:Array Value) (w:World),(Instr.makeFunc fn first cap).run Tryz.prog w=.ok (.func fn first cap) w:=fun _ _ _ _=>rfl
 rw[e1,e2] at HG
 unfold pgv at HG o1 hW1 ⊢
 unfold P9.It.v
 have HE3:=qh e3
 have HE4:=qh e4
 clear hcl hgd r1 r2 r3 r4 r5 b1 b2 b3 b4 b5 B4 B5 z1 z2 z3 hl3 hl4 hW5 e1 e2 ra ba za zB z5 hx
 go_enter Tryz.func11,Tryz.ntmps11
 go_upto_region 1 with fail
 rw[← hW1,← hW2,← hWa,← hW3,← hW4]
 rw[← e4,← e3]
 clear e3 e4 hn3 hn4 hW4 hW3 hWa hW2 hW1
 go_upto_region 2 with (go_at_call 31;go_loud ((with_reducible refine HG.out.mono ?_);rintro e w5 ⟨rfl,g1,g2,g4⟩;have c4:=cell_at g2 0;have f4:=free_at g2 0;have K1:=qh g1;have K2:=qh g2;have K4:=qh g4;clear g1 g2 g4;(try simp only[qqD,qqE,qqF] at c4)))
 clear c4 f4 o1
 obtain⟨w6,hw6⟩:∃ w6,w6=w5.setCell ⟨n4,0,none⟩ (.int .i64 1):=⟨_,rfl⟩
 rw[← hw6]
 have q1:w6.heap[n3]?=some (.cells #[.int .i64 0] 3 (0,0)):=by rw[hw6];exact P3.old_set K1.out _ (Ne.symm hne) _
 have q2:w6.heap[n4]?=some (.cells #[.int .i64 1] 32 (0,0)):=by rw[hw6];exact P3.set_at K2.out 0 _
 have q3:P3.Fr (fun j=>j=n3∨j=n4) w5 w6:=by rw[hw6];exact (fr_set _ _ _ _).mono fun _ _ e=>.inr e
 clear hw6
 have p1:=cell_at q1 0
 have p2:=cell_at q2 0
 have p3:=free_at q1 0
 have p4:=free_at q2 0
 simp only[qqD,qqE,qqF] at p1 p2
 have T0:=qh q1
 have T1:=qh q2
 have Q3:=qh q3
 clear q1 q2 q3
 go_region
 obtain⟨w7,hw7⟩:∃ w7,w7=(w6.setCell ⟨n3,0,none⟩ (.int .i64 0)).setCell ⟨n4,0,none⟩ (.int .i64 1):=⟨_,rfl⟩
 have u1:w7.heap[n3]?=some (.cells #[.int .i64 0] 3 (0,0)):=by rw[hw7];exact P3.old_set (P3.set_at T0.out 0 _) _ (Ne.symm hne) _
 have u2:w7.heap[n4]?=some (.cells #[.int .i64 1] 32 (0,0)):=by rw[hw7];exact P3.set_at (P3.old_set T1.out _ hne _) 0 _
 have u3:P3.Fr (fun j=>j=n3∨j=n4) w5 w7:=by rw[hw7];exact Q3.out.trans (((fr_set _ _ _ _).mono fun _ _ e=>.inl e).trans ((fr_set _ _ _ _).mono fun _ _ e=>.inr e))
 rw[← hw7]
 clear hw7 p1 p2 p3 p4
 go_wp2
 have hnw:∀ j,(j=n3∨j=n4)→w.heap.size≤j:=fun j hj=>by
  rcases hj with rfl|rfl
  ·exact hm1
  ·exact hm2
 refine bodyPost_ret (int_result rfl _ _ n3 n4 _ 1 rfl rfl u1 u2) rfl ⟨rfl,(P3.Fr.new K4.out u3 hnw).drew⟩
theorem del_cl(W:World)(n1 n2 na n3 n4 n5:Nat)(b:Nat)(vl vg:Value)(M:PM)(h:PAt W b vl vg M)(hsz:M.L.length≤3400)(D:Nat)(root:Int)(L:List It)(ids:List Int)(ht:Tree M D root L ids)(hD:D≤12)(hn:ids.Nodup)(hr:∀ x∈ids,2≤x∧x < M.next)(hfr:2≤M.fr)(hgv:M.given.length≤90000)(key:ByteArray)(hR:RightI L)(hLl:L.length≤250)
  (h1:W.heap[n1]?=some (.cells #[pgv b] 66 (0,0))) (h2:W.heap[n2]?=some (.cells #[.int .i64 root] 3 (0,0))) (ha:W.heap[na]?=some (.cells #[.string key] 9 (0,0))) (h3:W.heap[n3]?=some (.cells #[.int .i64 0] 3 (0,0))) (h4:W.heap[n4]?=some (.cells #[.bool false] 4 (0,0))) (h5:W.heap[n5]?=some (.cells #[.int .i64 0] 32 (0,0))) (hp3:¬ PS b vl vg n3) (hp4:¬ PS b vl vg n4) (hp5:¬ PS b vl vg n5) :
  Calls Tryz.prog 34 #[.pointer (some ⟨n1,0,none⟩),.pointer (some ⟨n2,0,none⟩),.pointer (some ⟨na,0,none⟩),.pointer (some ⟨n3,0,none⟩),.pointer (some ⟨n4,0,none⟩),.pointer (some ⟨n5,0,none⟩)] W fun e w'=>e=.returned (.int .i64 0)∧
   ((hasK L key=false∧∃ w2,Below W.heap.size W w2∧w'=((w2.setCell ⟨n3,0,none⟩ (.int .i64 root)).setCell ⟨n4,0,none⟩ (.bool false)).setCell ⟨n5,0,none⟩ (.int .i64 0))∨
   (hasK L key=true∧∃ r vl' vg' M' w2,Chd W w2 b vl vg M ids (dropI L key) (gmax false D) r vl' vg' M'∧w'=((w2.setCell ⟨n3,0,none⟩ (.int .i64 r)).setCell ⟨n4,0,none⟩ (.bool true)).setCell ⟨n5,0,none⟩ (.int .i64 0))):=by
 have hne:n4≠n3:=fun e=>by
  rw[e,h3] at h4
  cases h4
 have hne5:n5≠n3:=fun e=>by
  rw[e,h3] at h5
  cases h5
 have hne6:n5≠n4:=fun e=>by
  rw[e,h4] at h5
  cases h5
 have hi:Calls Tryz.prog 35 #[pgv b,.int .i64 root,.string key] W fun e w'=>∃ r t,e=.returned (.tuple #[.int .i64 r,.bool t,.int .i64 0])∧P3.Fr (PS b vl vg) W w'∧((hasK L key=false∧r=root∧t=false∧Below W.heap.size W w')∨(hasK L key=true∧t=true∧∃ vl' vg' M',Chd W w' b vl vg M ids (dropI L key) (gmax false D) r vl' vg' M')):=by
  refine (tiDrop_any W b vl vg M h hsz D root L ids ht hD hn hr hfr hgv key hR hLl).mono ?_
  rintro e w' (⟨g1,rfl,g2⟩|⟨g1,r,vl',vg',M',rfl,g2⟩)
  ·exact⟨root,false,rfl,P3.Fr.of g2,.inl ⟨g1,rfl,rfl,g2⟩⟩
  ·exact⟨r,true,rfl,g2.fr,.inr ⟨g1,rfl,vl',vg',M',g2⟩⟩
 have HI:=qh hi
 unfold pgv at HI h1
 have o1:=cell_at h1 0
 have o2:=cell_at h2 0
 have a0:=cell_at ha 0
 simp only[qqD,qqE,qqF] at o1 o2 a0
 have H3:=qh h3
 have H4:=qh h4
 have HP3:=qh hp3
 have HP4:=qh hp4
 have H5:=qh h5
 have HP5:=qh hp5
 clear h h1 h2 ha h3 h4 ht hn hr hR hp3 hp4 h5 hp5 hi
 go_enter Tryz.func34,Tryz.ntmps34
 go_wp2_with (first
  | (go_at_call 35;(with_reducible refine HI.out.mono ?_);rintro e w2 ⟨r,t,rfl,g1,g2⟩;have k3:=g1.keep H3.out HP3.out;have c3:=cell_at k3 0;have f3:=free_at k3 0;have d4:=P3.old_set (g1.keep H4.out HP4.out) (⟨n3,0,none⟩:Addr) hne (.int .i64 r);have c4:=cell_at d4 0;have f4:=free_at d4 0;have d5:=P3.old_set (P3.old_set (g1.keep H5.out HP5.out) (⟨n3,0,none⟩:Addr) hne5 (.int .i64 r)) (⟨n4,0,none⟩:Addr) hne6 (.bool t);have c5:=cell_at d5 0;have f5:=free_at d5 0;have c6:=cell_at (P3.set_at d5 0 (.int .i64 0)) 0;have HB:=qh g2;clear g1 g2 d4 d5 k3;(try simp only[qqD,qqE,qqF] at c3 c4 c5 c6)))
 go_ret
 refine⟨rfl,?_⟩
 rcases HB.out with ⟨q1,rfl,rfl,q2⟩|⟨q1,rfl,vl',vg',M',q2⟩
 ·exact .inl ⟨q1,w2,q2,rfl⟩
 ·exact .inr ⟨q1,r,vl',vg',M',w2,q2,rfl⟩
theorem del_result{fn:Func}{q u z:Tmp}(h:fn.results=#[.cell q 3,.cell z 4,.cell u 32])(tmps:Array Value)(w:World)(a c b:Nat)(v:Int)(t:Bool)(x:Int)(hq:tmps.getD q undef=.pointer (some ⟨a,0,none⟩))(hz:tmps.getD z undef=.pointer (some ⟨c,0,none⟩))(hu:tmps.getD u undef=.pointer (some ⟨b,0,none⟩))
  (hc:w.heap[a]?=some (.cells #[.int .i64 v] 3 (0,0))) (ht:w.heap[c]?=some (.cells #[.bool t] 4 (0,0))) (hx:w.heap[b]?=some (.cells #[.int .i64 x] 32 (0,0))) :
  (results fn tmps).run Tryz.prog w=.ok (.tuple #[.int .i64 v,.bool t,.int .i64 x]) w:=by
 have e0:(results fn tmps).run Tryz.prog w=((asAddr (tmps.getD q undef)).run Tryz.prog w).andThen fun a w₁=>((loadVar 3 a).run Tryz.prog w₁).andThen fun v w₂=>((asAddr (tmps.getD z undef)).run Tryz.prog w₂).andThen fun c w₃=>((loadVar 4 c).run Tryz.prog w₃).andThen fun t w₄=>((asAddr (tmps.getD u undef)).run Tryz.prog w₄).andThen fun b w₅=>((loadVar 32 b).run Tryz.prog w₅).andThen fun y w₆=>.ok (.tuple #[v,t,y]) w₆:=by
  simp only[results,h]
  simp[Sem.run_bind,Result.andThen]
 have e1:∀ a:Nat,(asAddr (.pointer (some ⟨a,0,none⟩))).run Tryz.prog w=.ok ⟨a,0,none⟩ w:=fun _=>rfl
 have hc1:w.cell? ⟨a,0,none⟩=some (.int .i64 v):=by rw[cell_at hc];rfl
 have hc2:w.cell? ⟨b,0,none⟩=some (.int .i64 x):=by rw[cell_at hx];rfl
 have hc3:w.cell? ⟨c,0,none⟩=some (.bool t):=by rw[cell_at ht];rfl
 have e3:(loadVar 3 ⟨a,0,none⟩).run Tryz.prog w=.ok (.int .i64 v) w:=by
  simp[go_sem,loadVar,hc1]
 have e4:(loadVar 32 ⟨b,0,none⟩).run Tryz.prog w=.ok (.int .i64 x) w:=by
  simp[go_sem,loadVar,hc2]
 have e5:(loadVar 4 ⟨c,0,none⟩).run Tryz.prog w=.ok (.bool t) w:=by
  simp[go_sem,loadVar,hc3]
 rw[e0,hq,e1,Result.andThen_ok,e3,Result.andThen_ok,hz,e1,Result.andThen_ok,e5,Result.andThen_ok,hu,e1,Result.andThen_ok,e4]
 rfl
theorem trDelete_any(w:World)(b:Nat)(vl vg:Value)(M:PM)(h:PAt w b vl vg M)(hsz:M.L.length≤3400)(D:Nat)(root:Int)(L:List It)(ids:List Int)(ht:Tree M D root L ids)(hD:D≤12)(hn:ids.Nodup)(hr:∀ x∈ids,2≤x∧x < M.next)(hfr:2≤M.fr)(hgv:M.given.length≤90000)(key:ByteArray)(hR:RightI L)(hLl:L.length≤250) :
  Calls Tryz.prog 14 #[pgv b,.int .i64 root,.string key] w fun e w'=>(hasK L key=false∧e=.returned (.tuple #[.int .i64 root,.bool false,.int .i64 0])∧Below w.heap.size w w')∨
   (hasK L key=true∧∃ r vl' vg' M',e=.returned (.tuple #[.int .i64 r,.bool true,.int .i64 0])∧Chd w w' b vl vg M ids (dropI L key) (gmax false D) r vl' vg' M'):=by
 obtain⟨W1,hW1⟩:∃ W1,W1=w.alloc (.cells #[pgv b] 66):=⟨_,rfl⟩
 obtain⟨W2,hW2⟩:∃ W2,W2=W1.alloc (.cells #[.int .i64 root] 3):=⟨_,rfl⟩
 obtain⟨Wa,hWa⟩:∃ Wa,Wa=W2.alloc (.cells #[.string key] 9):=⟨_,rfl⟩
 obtain⟨W3,hW3⟩:∃ W3,W3=Wa.alloc (.cells #[.int .i64 0] 3):=⟨_,rfl⟩
 obtain⟨Wc,hWc⟩:∃ Wc,Wc=W3.alloc (.cells #[.bool false] 4):=⟨_,rfl⟩
 obtain⟨W4,hW4⟩:∃ W4,W4=Wc.alloc (.cells #[.int .i64 0] 32):=⟨_,rfl⟩
 have b1:Below w.heap.size w W1:=by rw[hW1];exact below_new _ _
 have b2:Below W1.heap.size W1 W2:=by rw[hW2];exact below_new _ _
 have ba:Below W2.heap.size W2 Wa:=by rw[hWa];exact below_new _ _
 have b3:Below Wa.heap.size Wa W3:=by rw[hW3];exact below_new _ _
 have bc:Below W3.heap.size W3 Wc:=by rw[hWc];exact below_new _ _
 have b4:Below Wc.heap.size Wc W4:=by rw[hW4];exact below_new _ _
 have r1:W4.heap[w.heap.size]?=some (.cells #[pgv b] 66 (0,0)):=P3.old_below (P3.old_below (P3.old_below (P3.old_below (P3.old_below (by rw[hW1];exact new_at _ _ _) b2) ba) b3) bc) b4
 have r2:W4.heap[W1.heap.size]?=some (.cells #[.int .i64 root] 3 (0,0)):=P3.old_below (P3.old_below (P3.old_below (P3.old_below (by rw[hW2];exact new_at _ _ _) ba) b3) bc) b4
 have ra:W4.heap[W2.heap.size]?=some (.cells #[.string key] 9 (0,0)):=P3.old_below (P3.old_below (P3.old_below (by rw[hWa];exact new_at _ _ _) b3) bc) b4
 have r3:W4.heap[Wa.heap.size]?=some (.cells #[.int .i64 0] 3 (0,0)):=P3.old_below (P3.old_below (by rw[hW3];exact new_at _ _ _) bc) b4
 have rc:W4.heap[W3.heap.size]?=some (.cells #[.bool false] 4 (0,0)):=P3.old_below (by rw[hWc];exact new_at _ _ _) b4
 have r4:W4.heap[Wc.heap.size]?=some (.cells #[.int .i64 0] 32 (0,0)):=by rw[hW4];exact new_at _ _ _
 have B4:Below w.heap.size w W4:=thenBelow (thenBelow (thenBelow (thenBelow (thenBelow b1 b2) ba) b3) bc) b4
 obtain⟨n3,hn3⟩:∃ n,n=Wa.heap.size:=⟨_,rfl⟩
 obtain⟨nc,hnc⟩:∃ n,n=W3.heap.size:=⟨_,rfl⟩
 obtain⟨n4,hn4⟩:∃ n,n=Wc.heap.size:=⟨_,rfl⟩
 have z1:=b1.size
 have z2:=b2.size
 have za:=ba.size
 have e1:W1.heap.size=w.heap.size+1:=by rw[hW1];simp
 have e2:W2.heap.size=w.heap.size+1+1:=by rw[hW2];simp[e1]
 have e3:n3=w.heap.size+1+1+1:=by rw[hn3,hWa];simp[e2]
 have ec:nc=w.heap.size+1+1+1+1:=by rw[hnc,hW3];simp[← hn3,e3]
 have e4:n4=w.heap.size+1+1+1+1+1:=by rw[hn4,hWc];simp[← hnc,ec]
 rw[← hn3] at r3
 rw[← hnc] at rc
 rw[← hn4] at r4
 obtain⟨W5,hW5⟩:∃ W5,W5=W4.alloc (.cells #[.int .i64 0] 32):=⟨_,rfl⟩
 have b5:Below W4.heap.size W4 W5:=by rw[hW5];exact below_new _ _
 have B5:=thenBelow B4 b5
 have r5:W5.heap[W4.heap.size]?=some (.cells #[.int .i64 0] 32 (0,0)):=by rw[hW5];exact new_at _ _ _
 have hps:=h.below_size
 have hl3:=lt_of_block r3
 have hlc:=lt_of_block rc
 have hl4:=lt_of_block r4
 have z5:W5.heap.size=W4.heap.size+1:=by rw[hW5];simp
 have zB:=B4.size
 have hcl:=del_cl W5 w.heap.size W1.heap.size W2.heap.size n3 nc n4 b vl vg M (h.below B5) hsz D root L ids ht hD hn hr hfr hgv key hR hLl (P3.old_below r1 b5) (P3.old_below r2 b5) (P3.old_below ra b5) (P3.old_below r3 b5) (P3.old_below rc b5) (P3.old_below r4 b5) (fun hp=>by have:=hps _ hp;omega) (fun hp=>by have:=hps _ hp;omega) (fun hp=>by have:=hps _ hp;omega)
 have hgd:Calls Tryz.prog 31 #[pgv b,.func (.func 34) #[] #[.pointer (some ⟨w.heap.size,0,none⟩),.pointer (some ⟨W1.heap.size,0,none⟩),.pointer (some ⟨W2.heap.size,0,none⟩),.pointer (some ⟨n3,0,none⟩),.pointer (some ⟨nc,0,none⟩),.pointer (some ⟨n4,0,none⟩)]] W4 fun e w'=>e=.returned (.int .i64 0)∧∃ r t,w'.heap[n3]?=some (.cells #[.int .i64 r] 3 (0,0))∧w'.heap[nc]?=some (.cells #[.bool t] 4 (0,0))∧w'.heap[n4]?=some (.cells #[.int .i64 0] 32 (0,0))∧
   ∃ w2,P3.Fr (fun j=>w.heap.size≤j∧j < W5.heap.size) w2 w'∧((hasK L key=false∧r=root∧t=false∧Below w.heap.size w w2)∨(hasK L key=true∧t=true∧∃ vl' vg' M',Chd W5 w2 b vl vg M ids (dropI L key) (gmax false D) r vl' vg' M')):=by
  refine (guardDelete W4 b _ _ _ _ _ _ 0 (fun w3=>∃ r t,w3.heap[n3]?=some (.cells #[.int .i64 r] 3 (0,0))∧w3.heap[nc]?=some (.cells #[.bool t] 4 (0,0))∧w3.heap[n4]?=some (.cells #[.int .i64 0] 32 (0,0))∧
   ∃ w2,P3.Fr (fun j=>w.heap.size≤j∧j < W5.heap.size) w2 w3∧((hasK L key=false∧r=root∧t=false∧Below w.heap.size w w2)∨(hasK L key=true∧t=true∧∃ vl' vg' M',Chd W5 w2 b vl vg M ids (dropI L key) (gmax false D) r vl' vg' M'))) ?_).mono ?_
  ·rw[← hW5]
   refine hcl.mono ?_
   have fin:∀ (w2:World) (r:Int) (t:Bool),P3.Fr (PS b vl vg) W5 w2→(((w2.setCell ⟨n3,0,none⟩ (.int .i64 r)).setCell ⟨nc,0,none⟩ (.bool t)).setCell ⟨n4,0,none⟩ (.int .i64 0)).heap[W4.heap.size]?=some (.cells #[.int .i64 0] 32 (0,0))∧(((w2.setCell ⟨n3,0,none⟩ (.int .i64 r)).setCell ⟨nc,0,none⟩ (.bool t)).setCell ⟨n4,0,none⟩ (.int .i64 0)).heap[n3]?=some (.cells #[.int .i64 r] 3 (0,0))∧(((w2.setCell ⟨n3,0,none⟩ (.int .i64 r)).setCell ⟨nc,0,none⟩ (.bool t)).setCell ⟨n4,0,none⟩ (.int .i64 0)).heap[nc]?=some (.cells #[.bool t] 4 (0,0))∧(((w2.setCell ⟨n3,0,none⟩ (.int .i64 r)).setCell ⟨nc,0,none⟩ (.bool t)).setCell ⟨n4,0,none⟩ (.int .i64 0)).heap[n4]?=some (.cells #[.int .i64 0] 32 (0,0))∧P3.Fr (fun j=>w.heap.size≤j∧j < W5.heap.size) w2 (((w2.setCell ⟨n3,0,none⟩ (.int .i64 r)).setCell ⟨nc,0,none⟩ (.bool t)).setCell ⟨n4,0,none⟩ (.int .i64 0)):=fun w2 r t g=>by
    have k3:=g.keep (P3.old_below r3 b5) (fun hp=>by have:=hps _ hp;omega)
    have kc:=g.keep (P3.old_below rc b5) (fun hp=>by have:=hps _ hp;omega)
    have k4:=g.keep (P3.old_below r4 b5) (fun hp=>by have:=hps _ hp;omega)
    have k5:=g.keep r5 (fun hp=>by have:=hps _ hp;omega)
    exact⟨P3.old_set (P3.old_set (P3.old_set k5 _ (by simp;omega) _) _ (by simp;omega) _) _ (by simp;omega) _,P3.old_set (P3.old_set (P3.set_at k3 0 _) _ (by simp;omega) _) _ (by simp;omega) _,P3.old_set (P3.set_at (P3.old_set kc _ (by simp;omega) _) 0 _) _ (by simp;omega) _,P3.set_at (P3.old_set (P3.old_set k4 _ (by simp;omega) _) _ (by simp;omega) _) 0 _,
     (((fr_set _ _ _ _).mono fun _ _ e=>by omega).trans ((fr_set _ _ _ _).mono fun _ _ e=>by omega)).trans ((fr_set _ _ _ _).mono fun _ _ e=>by omega)⟩
   rintro e w' ⟨rfl,⟨q0,w2,g1,rfl⟩|⟨q0,r,vl',vg',M',w2,g1,rfl⟩⟩
   ·obtain⟨f1,f2,f3,f4,f5⟩:=fin w2 root false (P3.Fr.of g1)
    exact⟨rfl,f1,root,false,f2,f3,f4,w2,f5,.inl ⟨q0,rfl,rfl,thenBelow B5 g1⟩⟩
   ·obtain⟨f1,f2,f3,f4,f5⟩:=fin w2 r true g1.fr
    exact⟨rfl,f1,r,true,f2,f3,f4,w2,f5,.inr ⟨q0,rfl,vl',vg',M',g1⟩⟩
  ·rintro e w' ⟨rfl,w3,⟨r,t,g1,g2,g3,w2,g4,g6⟩,g5,rfl⟩
   exact⟨rfl,r,t,P3.old_set g1 _ (by simp;omega) _,P3.old_set g2 _ (by simp;omega) _,P3.old_set g3 _ (by simp;omega) _,w2,g4.trans ((fr_set _ _ _ _).mono fun _ _ e=>by omega),g6⟩
 have HG:=qh hgd
 have hne3:nc≠n3:=by omega
 have hne4:n4≠n3:=by omega
 have hne5:n4≠nc:=by omega
 have HB5:=qh B5
 have HPs:=qh hps
 have HZ5:Hid (n3 < W5.heap.size∧nc < W5.heap.size∧n4 < W5.heap.size∧w.heap.size≤n3∧w.heap.size≤nc∧w.heap.size≤n4):=qh ⟨by omega,by omega,by omega,by omega,by omega,by omega⟩
 have o1:=cell_at r1 0
 simp only[qqD,qqE,qqF] at o1
 have hmf:∀ (fn:Fn) (first cap:Array Value) (w:World),(Instr.makeFunc fn first cap).run Tryz.prog w=.ok (.func fn first cap) w:=fun _ _ _ _=>rfl
 rw[e1,e2] at HG
 unfold pgv at HG o1 hW1 ⊢
 clear h ht hn hcl hgd r1 r2 ra r3 rc r4 r5 b1 b2 ba b3 bc b4 b5 B4 B5 z1 z2 za z5 zB hl3 hlc hl4 hW5 e1 e2 hps hr hR
 go_enter Tryz.func14,Tryz.ntmps14
 go_upto_region 1 with fail
 rw[← hW1,← hW2,← hWa,← hW3,← hWc,← hW4]
 rw[← e4,← ec,← e3]
 clear e3 ec e4 hn3 hnc hn4 hW4 hWc hW3 hWa hW2 hW1
 go_upto_region 2 with (go_at_call 31;(with_reducible refine HG.out.mono ?_);rintro e w5 ⟨rfl,r,t,g1,g2,g3,g4⟩;have c4:=cell_at g3 0;have f4:=free_at g3 0;have K1:=qh g1;have K2:=qh g2;have K3:=qh g3;have K4:=qh g4;clear g1 g2 g3 g4;(try simp only[qqD,qqE,qqF] at c4))
 clear c4 f4 o1
 obtain⟨w6,hw6⟩:∃ w6,w6=w5.setCell ⟨n4,0,none⟩ (.int .i64 0):=⟨_,rfl⟩
 rw[← hw6]
 have q1:w6.heap[n3]?=some (.cells #[.int .i64 r] 3 (0,0)):=by rw[hw6];exact P3.old_set K1.out _ (Ne.symm hne4) _
 have q2:w6.heap[nc]?=some (.cells #[.bool t] 4 (0,0)):=by rw[hw6];exact P3.old_set K2.out _ (Ne.symm hne5) _
 have q3:w6.heap[n4]?=some (.cells #[.int .i64 0] 32 (0,0)):=by rw[hw6];exact P3.set_at K3.out 0 _
 have q4:P3.Fr (fun j=>j=n3∨j=nc∨j=n4) w5 w6:=by rw[hw6];exact (fr_set _ _ _ _).mono fun _ _ e=>.inr (.inr e)
 clear hw6
 have p1:=cell_at q1 0
 have p2:=cell_at q2 0
 have p3:=cell_at q3 0
 have p4:=free_at q1 0
 have p5:=free_at q2 0
 have p6:=free_at q3 0
 simp only[qqD,qqE,qqF] at p1 p2 p3
 have T1:=qh q1
 have T2:=qh q2
 have T3:=qh q3
 have T4:=qh q4
 clear q1 q2 q3 q4
 go_region
 obtain⟨w7,hw7⟩:∃ w7,w7=((w6.setCell ⟨n3,0,none⟩ (.int .i64 r)).setCell ⟨nc,0,none⟩ (.bool t)).setCell ⟨n4,0,none⟩ (.int .i64 0):=⟨_,rfl⟩
 have u1:w7.heap[n3]?=some (.cells #[.int .i64 r] 3 (0,0)):=by rw[hw7];exact P3.old_set (P3.old_set (P3.set_at T1.out 0 _) _ (Ne.symm hne3) _) _ (Ne.symm hne4) _
 have u2:w7.heap[nc]?=some (.cells #[.bool t] 4 (0,0)):=by rw[hw7];exact P3.old_set (P3.set_at (P3.old_set T2.out _ hne3 _) 0 _) _ (Ne.symm hne5) _
 have u3:w7.heap[n4]?=some (.cells #[.int .i64 0] 32 (0,0)):=by rw[hw7];exact P3.set_at (P3.old_set (P3.old_set T3.out _ hne4 _) _ hne5 _) 0 _
 have u4:P3.Fr (fun j=>j=n3∨j=nc∨j=n4) w5 w7:=by rw[hw7];exact T4.out.trans ((((fr_set _ _ _ _).mono fun _ _ e=>.inl e).trans ((fr_set _ _ _ _).mono fun _ _ e=>.inr (.inl e))).trans ((fr_set _ _ _ _).mono fun _ _ e=>.inr (.inr e)))
 rw[← hw7]
 clear hw7 p1 p2 p3 p4 p5 p6
 go_wp2
 have hz:=HZ5.out
 obtain⟨w2,g4,g6⟩:=K4.out
 have hf:P3.Fr (fun j=>w.heap.size≤j∧j < W5.heap.size) w2 w7:=g4.trans (u4.mono fun j _ e=>by omega)
 refine bodyPost_ret (del_result rfl _ _ n3 nc n4 r t 0 rfl rfl rfl u1 u2 u3) rfl ?_
 rcases g6 with ⟨q0,rfl,rfl,q1⟩|⟨q0,rfl,vl',vg',M',q1⟩
 ·exact .inl ⟨q0,rfl,(P3.Fr.new q1 hf fun j hj=>hj.1).drew⟩
 ·exact .inr ⟨q0,r,vl',vg',M',rfl,(chd_out q1 HB5.out hf (fun j hj=>hj) HPs.out).below ((Below.refl _ w7).drew)⟩
end Go.Proofs.YtjepgclnbbpnaaaGreat.P12
namespace Go.Proofs.YtjepgclnbbpnaaaGreat.P12
open PK (qqA qqB qqC qqD qqE qqF tk tkS dOne qh)
open Go Go.RowKit Go.Lib PK
open P11 (Pg)
open P9 (It kb RightI lowK hasK putI dropI putI_right dropI_right putI_len)
theorem act_any(w:World)(b:Nat)(vl vg:Value)(M:PM)(D:Nat)(root:Int)(L:List It)(ids P:List Int)(p q:Nat)(h:PAt w b vl vg M)(t:TrS M D root L ids P p q)(hpq:p+q < 250)(o:Ac) :
  Calls Tryz.prog 18 #[.pointer (some ⟨b,0,none⟩),.int .i64 root,o.v] w fun e w'=>∃ r vl' vg' M' D' i made p' q',e=.returned (.int .i64 r)∧p'+q'≤p+q+1∧Did w w' b vl vg vl' vg' M M' ids P D' r (actL L o) i made p' q':=by
 obtain⟨W1,hW1⟩:∃ W1,W1=w.alloc (.cells #[.int .i64 o.kind,.string o.i.key,.string o.i.val,.int .i64 o.i.kind] 31):=⟨_,rfl⟩
 have b1:Below w.heap.size w W1:=by rw[hW1];exact below_new _ _
 have r1:W1.heap[w.heap.size]?=some (.cells #[.int .i64 o.kind,.string o.i.key,.string o.i.val,.int .i64 o.i.kind] 31 (0,0)):=by rw[hW1];exact new_at _ _ _
 have o0:=cell_at r1 0
 have o1:=cell_at r1 1
 have o2:=cell_at r1 2
 have o3:=cell_at r1 3
 simp only[qqD,qqE,qqF] at o0 o1 o2 o3
 have h1:=h.below b1
 have hls:∀ j,PS b vl vg j→j < w.heap.size:=fun j hj=>by
  obtain⟨cs,t,e1,_⟩:=h.cells_ hj
  exact lt_of_block e1
 have lift:∀ {w':World} {vl' vg':Value} {M':PM} {D':Nat} {r:Int} {L':List It} {i made:List Int} {p' q':Nat},Did W1 w' b vl vg vl' vg' M M' ids P D' r L' i made p' q'→Did w w' b vl vg vl' vg' M M' ids P D' r L' i made p' q':=fun d=>
  ⟨d.pg,frThen (P3.Fr.of b1) d.fr fun _ _ e=>e,fun j hj=>(d.new j hj).imp id fun h9=>Nat.le_trans b1.size h9,d.tr,d.made_,d.next,d.cntL,d.frE,d.old⟩
 have hdp:=t.deep
 have hll:=t.llen
 have hc:=t.cnt
 have hl:=t.len
 by_cases hk:o.kind=2
 ·have hdel:=trDelete_any W1 b vl vg M h1 (by have:=t.szl;omega) D root L ids t.tree (by omega) t.pool.ids_nodup (fun x hx=>t.pool.ids_rng hx) t.pool.fr (by have:=t.gvl;omega) o.i.key t.right (by omega)
  have hD:Calls Tryz.prog 14 #[pgv b,.int .i64 root,.string o.i.key] W1 fun e w'=>∃ bb r vl' vg' M' D' i made p' q',e=.returned (.tuple #[.int .i64 r,.bool bb,.int .i64 0])∧p'+q'≤p+q+1∧Did w w' b vl vg vl' vg' M M' ids P D' r (actL L o) i made p' q':=by
   refine hdel.mono ?_
   have ea:actL L o=dropI L o.i.key:=by unfold actL;rw[if_pos hk]
   rintro e w' (⟨g1,rfl,g2⟩|⟨g1,r,vl',vg',M',rfl,g2⟩)
   ·rw[ea,dropI_miss g1]
    exact⟨false,root,vl,vg,M,D,ids,[],p,q,rfl,by omega,lift (Did.same h1 t g2)⟩
   ·have hlen:=dropI_hit t.right g1
    obtain⟨D',i,made,g3⟩:=Did.of t g2 (dropI_right t.right _) (p':=p) (q':=q+1) (by omega) (by omega) (by unfold gmax;simp;omega)
    rw[ea]
    exact⟨true,r,vl',vg',M',D',i,made,p,q+1,rfl,by omega,lift g3⟩
  have HD:=qh hD
  have k0:(o.kind == 2)=true:=by rw[hk];rfl
  have HK:=qh hk
  unfold pgv at HD
  clear hdel hD h h1 t lift hls b1 r1 hk
  unfold Ac.v
  go_enter Tryz.func18,Tryz.ntmps18
  go_upto_region 1 with fail
  rw[← hW1]
  clear hW1
  go_wp2_with (go_at_call 14;(with_reducible refine HD.out.mono ?_);rintro e w2 ⟨bb,r,vl',vg',M',D',i,made,p',q',rfl,g1,g2⟩;have HG:=qh g2;clear g2)
  go_ret
  exact⟨r,vl',vg',M',D',i,made,p',q',rfl,g1,HG.out⟩
 ·have k0:(o.kind == 2)=false:=beq_false_of_ne hk
  by_cases hok:o.i.ok=true
  ·have hput:=trPut_any W1 b vl vg M h1 (by have:=t.szl;omega) D root L ids t.tree (by omega) t.pool.ids_nodup (fun x hx=>t.pool.ids_rng hx) t.pool.fr (by have:=t.gvl;omega) o.i hok t.right (by have:=putI_len L o.i;omega) (by omega)
   have hP:Calls Tryz.prog 11 #[pgv b,.int .i64 root,o.i.v] W1 fun e w'=>∃ r vl' vg' M' D' i made p' q',e=.returned (.tuple #[.int .i64 r,.int .i64 0])∧p'+q'≤p+q+1∧Did w w' b vl vg vl' vg' M M' ids P D' r (actL L o) i made p' q':=by
    refine hput.mono ?_
    have ea:actL L o=putI L o.i:=by unfold actL;rw[if_neg hk,if_pos hok]
    rintro e w' ⟨r,vl',vg',M',rfl,g2⟩
    obtain⟨D',i,made,g3⟩:=Did.of t g2 (putI_right t.right hok) (p':=p+1) (q':=q) (by omega) (by have:=putI_len L o.i;omega) (by unfold gmax;simp;omega)
    rw[ea]
    exact⟨r,vl',vg',M',D',i,made,p+1,q,rfl,by omega,lift g3⟩
   have HP:=qh hP
   have HK:=qh hk
   unfold pgv It.v at HP
   clear hput hP h h1 t lift hls b1 r1 hk
   unfold Ac.v
   go_enter Tryz.func18,Tryz.ntmps18
   go_upto_region 1 with fail
   rw[← hW1]
   clear hW1
   go_wp2_with (go_at_call 11;(with_reducible refine HP.out.mono ?_);rintro e w2 ⟨r,vl',vg',M',D',i,made,p',q',rfl,g1,g2⟩;have HG:=qh g2;clear g2)
   go_ret
   exact⟨r,vl',vg',M',D',i,made,p',q',rfl,g1,HG.out⟩
  ·have hok':o.i.ok=false:=by simpa using hok
   have HP:=qh (trPut_bad W1 b root o.i hok')
   have ea:actL L o=L:=by unfold actL;rw[if_neg hk,if_neg hok]
   have hS:∀ w',Below W1.heap.size W1 w'→Did w w' b vl vg vl vg M M ids P D root (actL L o) ids [] p q:=fun w' g2=>by
    rw[ea]
    exact lift (Did.same h1 t g2)
   have HS:=qh hS
   have HK:=qh hk
   unfold pgv It.v at HP
   clear hS h h1 t lift hls b1 r1 hk ea
   unfold Ac.v
   go_enter Tryz.func18,Tryz.ntmps18
   go_upto_region 1 with fail
   rw[← hW1]
   clear hW1
   go_wp2_with (go_at_call 11;(with_reducible refine HP.out.mono ?_);rintro e w2 ⟨rfl,g2⟩;have HG:=qh g2;clear g2)
   go_ret
   exact⟨root,vl,vg,M,D,ids,[],p,q,rfl,by omega,HS.out _ HG.out⟩
end Go.Proofs.YtjepgclnbbpnaaaGreat.P12
namespace Go.Proofs.YtjepgclnbbpnaaaGreat.P12
open Go Go.RowKit Go.Lib PK
open P9 (It ItsIn cellsI OwnI RightI lowK lowK_le lowK_ahead lowK_at lowK_eq hasK hasK_iff hasK_not keysI kb kb_eq kb_irr lowK_hit putI dropI cellsI_length cellsI_ok cellsI_at)
def fromI(l:List It)(k:ByteArray)(m:Int):List It:=(l.drop (lowK l k)).take m.toNat
end Go.Proofs.YtjepgclnbbpnaaaGreat.P12
namespace Go.Proofs.YtjepgclnbbpnaaaGreat.P9
open Go Go.RowKit Go.Lib PK
theorem same_its(w:World)(u v:Value)(l:List It)(h1:ItsIn w u l)(h2:ItsIn w v l) :
  Calls Tryz.prog 21 #[u,v] w fun e w'=>e=.returned (.bool true)∧Below w.heap.size w w':=sameItems_same w u v (cellsI l) h1 h2
end Go.Proofs.YtjepgclnbbpnaaaGreat.P9
namespace Go.Proofs.YtjepgclnbbpnaaaGreat.P12
open Go Go.RowKit Go.Lib PK
open P9 (It)
def sameIt(p q:It):Bool:=(p.key.toList == q.key.toList) && (p.val.toList == q.val.toList) && (p.kind == q.kind)
theorem sameIt_self(p:It):sameIt p p=true:=by
 unfold sameIt
 rw[beq_self_eq_true,beq_self_eq_true,beq_self_eq_true]
 rfl
theorem it_stood:Tryz.prog.stoodInHeld 29=false:=by kernel_rfl
theorem it_desc:Tryz.prog.underlying 29=some (.struct (Tryz.prog.fieldsOf 29)):=by
 unfold Program.fieldsOf
 rw[Tryz.underlying29]
theorem it_int(w:World)(cs:Array Value)(j:Nat)(v:Value)(h:cs[j]?=some v):(part 3 cs j).run Tryz.prog w=.ok v w:=by
 simp[part,Sem.run_bind,Tryz.isAgg3,h]
theorem it_str(w:World)(cs:Array Value)(j:Nat)(v:Value)(h:cs[j]?=some v):(part 9 cs j).run Tryz.prog w=.ok v w:=by
 simp[part,Sem.run_bind,Tryz.isAgg9,h]
theorem it_eql(w:World)(p q:It):(binOp .eql 29 p.v q.v).run Tryz.prog w=.ok (.bool (sameIt p q)) w:=by
 unfold It.v
 rw[run_eql_struct,run_equalIn_agg w 9999 _ _ _ it_desc it_stood]
 have ei:∀ (w:World) (a b:Int),(Op.equalIn 9999 3 (.int .i64 a) (.int .i64 b)).run Tryz.prog w=.ok (a == b) w:=fun w a b=>run_equalIn_int w 9998 _ _ _ a b Tryz.underlying3
 have es:∀ (w:World) (a b:ByteArray),(Op.equalIn 9999 9 (.string a) (.string b)).run Tryz.prog w=.ok (a.toList == b.toList) w:=fun w a b=>run_equalIn_string w 9998 _ a b Tryz.underlying9
 have q0:∀ (w:World) (a b c:Value),(part 9 #[a,b,c] 0).run Tryz.prog w=.ok a w:=fun w a b c=>it_str w _ 0 a rfl
 have q1:∀ (w:World) (a b c:Value),(part 9 #[a,b,c] 1).run Tryz.prog w=.ok b w:=fun w a b c=>it_str w _ 1 b rfl
 have q2:∀ (w:World) (a b c:Value),(part 3 #[a,b,c] 2).run Tryz.prog w=.ok c w:=fun w a b c=>it_int w _ 2 c rfl
 simp[Program.fieldsOf,Tryz.underlying29,Op.eqFields,q0,q1,q2,ei,es]
 unfold sameIt
 by_cases h1:p.key.toList=q.key.toList <;> by_cases h2:p.val.toList=q.val.toList <;> by_cases h3:p.kind=q.kind <;> simp[h1,h2,h3]
end Go.Proofs.YtjepgclnbbpnaaaGreat.P12
