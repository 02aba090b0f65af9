/-
  Texts of the proofs of SaidOrd12.
-/
import Derived.Test.YtjepgclnbbpnaaaGreatMs04
set_option linter.unusedVariables false
set_option linter.unusedSimpArgs false
set_option maxHeartbeats 8000000
set_option maxRecDepth 100000
namespace Go.Proofs.YtjepgclnbbpnaaaGreat.P12
open PK (qqA qqB qqC qqD qqE qqF tk tkS dOne qh)
open Go Go.RowKit Go.Lib PK
open P11 (Pg kPages infoEPages cellsP cellsP_length cellsP_ok cellsP_at cellsP_snoc PgsIn owns_pgs)
section
variable {P:Program} {w:World}
theorem wp_app{o:Oper}{a:Act}{K:Act→World→Prop}{Q:Exit→Act→World→Prop}(s x:Operand)(t:TypeId)
  (ho:o.op=.call { callee:=.builtin .append,args:=#[s,x],argTypes:=#[t,t] })
  (base:Nat) (e:TypeId) (i:TypeInfo) (z:Value) (size bytes:Nat) (ht:P.underlying t=some (.slice e)) (hi:P.info? e=some i) (hz:i.zero=some z)
  (hsize:i.size=size) (hby:i.bytes=bytes) (hzs:z.cells.size=size) (hsz:0 < size)
  (v:Value) (n:Nat) (xs:List Value) (hs:a.eval s=v) (hown:w.ownsRow base e size v n xs)
  (ad:Option Addr) (m c:Nat) (news:List Value) (hx:a.eval x=.slice ad m c) (hl:news.length=m*size) (hnews:∀ A,ad=some A→∀ j u,news[j]?=some u→w.cell? (A.add j)=some u) (hno:ad=none→m=0∧c=0) (h1:∀ u∈news,u.oneCell'=true)
  (h63:n+m≤maxLen) (hbytes:(n+m)*bytes≤140737488355328) (hbase:base≤w.heap.size)
  (h:∀ p q w',w'.ownsRow base e size (.slice p (n+m:Nat) q) (n+m) (xs++news)→w.grownBy w' v.ownBlock→((Value.slice p (n+m:Nat) q).ownBlock=v.ownBlock∨(Value.slice p (n+m:Nat) q).ownBlock=some w.heap.size)→K (a.put o.dst (.slice p (n+m:Nat) q)) w') :
  Oper.wp P o a w K Q:=by
 obtain⟨p,q,w',hr,h2,h3,h4⟩:=run_app (P:=P) w base t o.type e i z size bytes ht hi hz hsize hby hzs hsz v n xs hown ad m c news hl hnews hno h1 h63 hbytes hbase
 unfold Oper.wp execOp
 simp only[ho,resolve,invoke,builtin,Sem.run_bind,Sem.run_pure,Result.andThen_ok,List.map_toArray,List.map_cons,List.map_nil,hs,hx,hr]
 exact h p q w' h2 h3 h4
end
theorem do_two{P:Program}{ops:Array Oper}{Q:Exit→Act→World→Prop}{md:Region.Mode}{S:World→Prop}(i j:Nat){oi oj:Oper}{ri rj:List Oper}{fuel:Nat}{listed:Array Bool}{a:Act}{w:World}(h0:ops.toList.drop i=oi::ri)(h1:ops.toList.drop j=oj::rj)
  (hr:Region.ready md ops listed=[i,j]) (hwi:Region.wanted oi (yielded ops a.tmps)=true) (hwj:Region.wanted oj (yielded ops a.tmps)=true)
  (hi:∀ K':Act→World→Prop,Hid (∀ a w,S w→(S w→wpAnyH P md ops Q S fuel (listed.setIfInBounds i true) a w)→K' a w)→Oper.wp P oi a w K' Q)
  (hj:∀ K':Act→World→Prop,Hid (∀ a w,S w→(S w→wpAnyH P md ops Q S fuel (listed.setIfInBounds j true) a w)→K' a w)→Oper.wp P oj a w K' Q):wpAnyH P md ops Q S (fuel+1) listed a w:=
 wpAnyH_ready hr (by simp) (AllReadyH.cons (op_at h0) (fun K' hK=>by rw[if_pos hwi];exact hi K' hK) (AllReadyH.cons (op_at h1) (fun K' hK=>by rw[if_pos hwj];exact hj K' hK) AllReadyH.nil))
theorem PAt.new{w W w3:World}{b:Nat}{vl vl' vg:Value}{M:PM}{p:Pg}(h:PAt w b vl vg M)(k:Below w.heap.size w W)(hown:w3.ownsRow (b+1) 86 4 vl' (M.L.length+1) ((cellsP M.L).flatten++[.int .i64 p.k,.int .i64 p.id,.int .i64 p.tx,.string p.body]))
  (hg:W.grownBy w3 vl.ownBlock) (hat:vl'.ownBlock=vl.ownBlock∨vl'.ownBlock=some W.heap.size) :
  PAt (w3.setCell ⟨b,0,none⟩ vl') b vl' vg { M with L:=M.L++[p] }∧P3.Fr (PS b vl vg) w (w3.setCell ⟨b,0,none⟩ vl')∧(∀ j,vl'.ownBlock=some j→vl.ownBlock=some j∨w.heap.size≤j):=by
 have hW:=h.below k
 have hb:b < W.heap.size:=hW.lt
 have hnb:vl.ownBlock≠some b:=fun e=>by have:=(h.rl.lt b e).1;omega
 have hob:w3.heap[b]?=some (.cells #[vl,.int .i64 M.fr,vg,.bool M.bad,.bool M.twice,.int .i64 (-1)] 44 (0,0)):=(hg.block b hb (fun e=>hnb e.symm)).trans hW.obj
 have hnb':∀ j,vl'.ownBlock=some j→b+1≤j:=fun j e=>(hown.lt j e).1
 have hrg:w3.ownsRow (b+1) 3 1 vg M.given.length (cellsZ M.given):=hW.rg.kept hg (by
  cases e:vg.ownBlock with
  | none=>exact .inl rfl
  | some j=>exact .inr fun q=>h.ne j q.symm e)
 have hdis:∀ j,vl'.ownBlock=some j→vl.ownBlock=some j∨w.heap.size≤j:=fun j e=>by
  rcases hat with q|q
  ·exact .inl (q ▸ e)
  ·rw[q] at e
   cases e
   exact .inr k.size
 refine⟨⟨?_,?_,?_,?_⟩,?_,hdis⟩
 ·rw[set_at hob 0 vl']
  rfl
 ·rw[cellsP_snoc,List.length_append,List.length_singleton]
  exact hown.kept (setCell_grownBy w3 b 0 vl') (by
   cases e:vl'.ownBlock with
   | none=>exact .inl rfl
   | some j=>exact .inr fun q=>by have:=hnb' j e;cases q;omega)
 ·exact hrg.kept (setCell_grownBy w3 b 0 vl') (by
   cases e:vg.ownBlock with
   | none=>exact .inl rfl
   | some j=>exact .inr fun q=>by have:=(h.rg.lt j e).1;cases q;omega)
 ·intro j e1 e2
  rcases hdis j e1 with q|q
  ·exact h.ne j q e2
  ·have:=(h.rg.lt j e2).2
   omega
 ·refine⟨?_,?_,?_,?_,fun j hj hn=>?_⟩
  ·exact (hg.os.trans k.os)
  ·exact (hg.tape.trans k.tape)
  ·exact (hg.output.trans k.output)
  ·have h1:=hg.size
   have h2:=k.size
   simp[World.setCell]
   omega
  ·have hjb:j≠b:=fun e=>hn (.inl e)
   rw[Below.heap_setCell _ _ _ _ hjb,hg.block j (Nat.lt_of_lt_of_le hj k.size) (fun e=>hn (.inr (.inl e.symm)))]
   exact k.block j hj
theorem new_any(w:World)(b:Nat)(vl vg:Value)(M:PM)(p:Pg)(h:PAt w b vl vg M)(hl:M.L.length≤3997) :
  Calls Tryz.prog 181 #[.pointer (some ⟨b,0,none⟩),p.v] w fun e w'=>∃ vl',e=.returned (.tuple #[.int .i64 ((M.L.length:Int)+2),.int .i64 0])∧PAt w' b vl' vg { M with L:=M.L++[⟨p.k,(M.L.length:Int)+2,p.tx,p.body⟩] }∧P3.Fr (PS b vl vg) w w'∧(∀ j,vl'.ownBlock=some j→vl.ownBlock=some j∨w.heap.size≤j):=by
 obtain⟨i0,hi0,hz0,hz1,hz2⟩:=info_parts infoEPages
 have HNw:=qh (fun W w3 vl' p h1 h2 h3 h4=>h.new (W:=W) (w3:=w3) (vl':=vl') (p:=p) h1 h2 h3 h4)
 have HP:=qh h
 have HC:Hid (∀ W,Below w.heap.size w W→W.cell? ⟨b,0,none⟩=some vl∧W.frozen? ⟨b,0,none⟩=false):=fun W hW=>⟨(h.below hW).cells.1,free_at (h.below hW).obj 0⟩
 obtain⟨a,c,rfl⟩:=h.slice
 obtain⟨N,hN⟩:∃ N,N=M.L.length:=⟨_,rfl⟩
 have HN:=qh hN
 rw[← hN] at hl ⊢
 obtain⟨w1,hw1⟩:∃ w1,w1=w.alloc (.cells #[.int .i64 p.k,.int .i64 p.id,.int .i64 p.tx,.string p.body] 86):=⟨_,rfl⟩
 have c0:w1.cell? ⟨b,0,none⟩=some (.slice a N c):=by
  have:=(HC.out w1 (by rw[hw1];exact below_new _ _)).1
  rw[← hN] at this
  exact this
 have hb1:Below w.heap.size w w1:=by rw[hw1];exact below_new _ _
 have hz:w1.heap[w.heap.size]?=some (.cells #[.int .i64 p.k,.int .i64 p.id,.int .i64 p.tx,.string p.body] 86 (0,0)):=by rw[hw1];exact new_at w _ _
 have d0:=cell_at hz 0
 have d1:=cell_at hz 1
 have d2:=cell_at hz 2
 have d3:=cell_at hz 3
 simp only[qqD,qqE,qqF] at d0 d1 d2 d3
 have g1:=free_at hz 1
 have k0:decide ((4000:Int)≤(N:Int)+2)=false:=decide_eq_false (by omega)
 have HB1:=qh hb1
 have hlt:=h.lt
 have hbs:b≠w.heap.size:=by omega
 unfold Pg.v
 have HZ:=qh hz
 clear h hN hb1 hz
 go_enter Tryz.func181,Tryz.ntmps181
 go_upto_region 1 with fail
 rw[← hw1]
 clear hw1
 go_upto_region 4 with fail
 obtain⟨W,hW⟩:∃ W,W=w1.setCell ⟨w.heap.size,1,none⟩ (.int .i64 ((N:Int)+2)):=⟨_,rfl⟩
 rw[← hW]
 have HBW:Hid (Below w.heap.size w W):=by rw[hW];exact HB1.out.setCell (Nat.le_refl _) _
 have HX:Hid (W.heap[w.heap.size]?=some (.cells #[.int .i64 p.k,.int .i64 ((N:Int)+2),.int .i64 p.tx,.string p.body] 86 (0,0))):=by rw[hW];show _=_;rw[set_at HZ.out 1];rfl
 have HS:Hid (∀ W':World,W'.heap[w.heap.size]?=some (.cells #[.int .i64 p.k,.int .i64 ((N:Int)+2),.int .i64 p.tx,.string p.body] 86 (0,0))→W'.cell? ⟨w.heap.size,0,none⟩=some (.int .i64 p.k)∧W'.cell? ⟨w.heap.size,1,none⟩=some (.int .i64 ((N:Int)+2))∧W'.cell? ⟨w.heap.size,2,none⟩=some (.int .i64 p.tx)∧W'.cell? ⟨w.heap.size,3,none⟩=some (.string p.body)):=fun W' h=>⟨cell_at h 0,cell_at h 1,cell_at h 2,cell_at h 3⟩
 have HRow:Hid (∀ W':World,Below w.heap.size w W'→W'.ownsRow (b+1) 86 4 (.slice a N c) N (cellsP M.L).flatten):=fun W' hW'=>by have:=(HP.out.below hW').rl;rw[← HN.out] at this;exact this
 have HNe:Hid ((Value.slice a N c).ownBlock≠some w.heap.size):=fun e=>by have:=((HRow.out w (Below.refl _ _)).lt _ e).2;omega
 have HPb:Hid (∀ W1 w2:World,Below w.heap.size w W1→W1.grownBy w2 (Value.slice a N c).ownBlock→(∃ v,w2.cell? ⟨b,0,none⟩=some v)∧w2.frozen? ⟨b,0,none⟩=false):=fun W1 w2 h1 h2=>by
  have hob:=(h2.block b (HP.out.below h1).lt (fun e=>by have:=((HRow.out w (Below.refl _ _)).lt b e.symm).1;omega)).trans (HP.out.below h1).obj
  exact⟨⟨_,cell_at hob 0⟩,free_at hob 0⟩
 clear hW d0 d1 d2 d3 g1 HZ HB1 HC
 have c0d:W.drew.cell? ⟨b,0,none⟩=some (.slice a N c):=by have:=(HP.out.below (HBW.out.trans ((Below.refl _ _).drew))).cells.1;rw[← HN.out] at this;exact this
 have c0g:∀ o:Obj,(W.alloc o).cell? ⟨b,0,none⟩=some (.slice a N c):=fun o=>by have:=(HP.out.below (HBW.out.alloc HBW.out.size o)).cells.1;rw[← HN.out] at this;exact this
 have c0e:∀ o:Obj,(W.drew.alloc o).cell? ⟨b,0,none⟩=some (.slice a N c):=fun o=>by have:=(HP.out.below ((HBW.out.trans ((Below.refl _ _).drew)).trans ((Below.refl _ _).alloc (by have:=HBW.out.size;exact this) o))).cells.1;rw[← HN.out] at this;exact this
 refine wp_region_held_drew (S:=fun W=>W.cell? ⟨w.heap.size,0,none⟩=some (.int .i64 p.k)∧W.cell? ⟨w.heap.size,1,none⟩=some (.int .i64 ((N:Int)+2))∧W.cell? ⟨w.heap.size,2,none⟩=some (.int .i64 p.tx)∧W.cell? ⟨w.heap.size,3,none⟩=some (.string p.body)) (by kernel_rfl) (HS.out _ HX.out) (fun hHeld=>?_)
 refine tk 0 ?_
 refine tk 1 ?_
 refine tk 2 ?_
 refine tk 3 ?_
 refine tk 5 ?_
 refine do_two 4 6 rfl rfl (by kernel_rfl) (by rfl) (by rfl) (fun K hK=>?_) (fun K hK=>?_)
 ·go_simp
  refine hK.out _ _ (HS.out _ HX.out) (fun hHeld=>?_)
  clear hK K
  try simp only[Act.put,qqA,qqB,qqC]
  refine dOne 6 fun K hK=>?_
  go_simp
  have HBn:Hid (Below w.heap.size w (W.drew.alloc (.cells #[.int .i64 p.k,.int .i64 ((N:Int)+2),.int .i64 p.tx,.string p.body] 86))):=(HBW.out.trans ((Below.refl _ _).drew)).alloc (by have:=HBW.out.size;exact this) _
  have HXn:w.heap.size < (W.drew.alloc (.cells #[.int .i64 p.k,.int .i64 ((N:Int)+2),.int .i64 p.tx,.string p.body] 86)).heap.size∧(W.drew.alloc (.cells #[.int .i64 p.k,.int .i64 ((N:Int)+2),.int .i64 p.tx,.string p.body] 86)).heap[w.heap.size]?=some (.cells #[.int .i64 p.k,.int .i64 ((N:Int)+2),.int .i64 p.tx,.string p.body] 86 (0,0)):=by
   have h1:=lt_of_block HX.out
   exact⟨by simp;omega,(Below.heap_alloc _ _ _ h1).trans HX.out⟩
  refine hK.out _ _ (HS.out _ HXn.2) (fun hHeld=>?_)
  clear hK K
  try simp only[Act.put,qqA,qqB,qqC]
  refine dOne 7 fun K hK=>?_
  refine wp_app (.tmp 20) (.tmp 22) 41 rfl (b+1) 86 i0 (Value.agg #[.int .i64 0,.int .i64 0,.int .i64 0,.string ⟨#[]⟩]) 4 40 Tryz.underlying41 hi0 hz0 hz1 hz2 rfl (by decide) (.slice a N c) N (cellsP M.L).flatten (by first|rfl|simp[Act.eval,Act.put]) (HRow.out _ HBn.out) (some ⟨W.drew.heap.size,0,none⟩) 1 1 [.int .i64 p.k,.int .i64 ((N:Int)+2),.int .i64 p.tx,.string p.body] (by first|rfl|simp[Act.eval,Act.put]) rfl (by intro A hA j u hu;cases hA;exact cells_new W.drew [.int .i64 p.k,.int .i64 ((N:Int)+2),.int .i64 p.tx,.string p.body] 86 j u hu) (by intro e;cases e) (kPages.one _ ⟨_,_,_,_,rfl⟩) (by unfold maxLen;omega) (by omega) (Nat.le_trans (show b+1≤w.heap.size by omega) HBn.out.size) ?_
  intro p1 s1 w2 hown2 hgrow2 hat2
  obtain⟨N1,N2,N3⟩:=HNw.out _ w2 (.slice p1 (N+1) s1) ⟨p.k,(N:Int)+2,p.tx,p.body⟩ HBn.out (by rw[← HN.out];exact hown2) (by rw[← HN.out];exact hgrow2) (by rw[← HN.out];exact hat2)
  have M1:=qh N1
  have M2:=qh N2
  have M3:=qh N3
  have HX2:Hid (w2.heap[w.heap.size]?=some (.cells #[.int .i64 p.k,.int .i64 ((N:Int)+2),.int .i64 p.tx,.string p.body] 86 (0,0))):=(hgrow2.block _ HXn.1 (fun e=>HNe.out e.symm)).trans HXn.2
  have HQ2:=qh (HPb.out _ _ HBn.out hgrow2)
  clear hown2 hgrow2 hat2 N1 N2 N3
  refine hK.out _ _ (HS.out _ HX2.out) (fun hHeld=>?_)
  clear hK K
  try simp only[Act.put,qqA,qqB,qqC]
  refine tk 8 ?_
  refine tk 9 ?_
  refine dOne 10 fun K hK=>?_
  obtain⟨u0,q0⟩:=HQ2.out.1
  have q1:=HQ2.out.2
  go_simp
  have HX3:Hid ((w2.setCell ⟨b,0,none⟩ (.slice p1 (N+1) s1)).heap[w.heap.size]?=some (.cells #[.int .i64 p.k,.int .i64 ((N:Int)+2),.int .i64 p.tx,.string p.body] 86 (0,0))):=(Below.heap_setCell _ _ _ _ (fun e=>hbs e.symm)).trans HX2.out
  refine hK.out _ _ (HS.out _ HX3.out) (fun hHeld=>?_)
  clear hK K
  try simp only[Act.put,qqA,qqB,qqC]
  refine wpAnyH_done (by kernel_rfl) ?_ _
  obtain⟨e0,e1,e2,e3⟩:=hHeld
  go_wp2
  go_ret2
  exact⟨.slice p1 (N+1) s1,rfl,by rw[HN.out];rw[HN.out] at M1;exact M1.out,by have h9:=M2.out;rw[← HN.out] at h9;exact h9,by have h9:=M3.out;rw[← HN.out] at h9;exact h9⟩
 ·go_simp
  have HBn:Hid (Below w.heap.size w (W.drew.alloc (.cells #[.int .i64 p.k,.int .i64 ((N:Int)+2),.int .i64 p.tx,.string p.body] 86))):=(HBW.out.trans ((Below.refl _ _).drew)).alloc (by have:=HBW.out.size;exact this) _
  have HXn:w.heap.size < (W.drew.alloc (.cells #[.int .i64 p.k,.int .i64 ((N:Int)+2),.int .i64 p.tx,.string p.body] 86)).heap.size∧(W.drew.alloc (.cells #[.int .i64 p.k,.int .i64 ((N:Int)+2),.int .i64 p.tx,.string p.body] 86)).heap[w.heap.size]?=some (.cells #[.int .i64 p.k,.int .i64 ((N:Int)+2),.int .i64 p.tx,.string p.body] 86 (0,0)):=by
   have h1:=lt_of_block HX.out
   exact⟨by simp;omega,(Below.heap_alloc _ _ _ h1).trans HX.out⟩
  refine hK.out _ _ (HS.out _ HXn.2) (fun hHeld=>?_)
  clear hK K
  try simp only[Act.put,qqA,qqB,qqC]
  refine dOne 4 fun K hK=>?_
  have c0f:=c0g (.cells #[.int .i64 p.k,.int .i64 ((N:Int)+2),.int .i64 p.tx,.string p.body] 86)
  go_simp
  refine hK.out _ _ (HS.out _ HXn.2) (fun hHeld=>?_)
  clear hK K
  try simp only[Act.put,qqA,qqB,qqC]
  refine dOne 7 fun K hK=>?_
  refine wp_app (.tmp 20) (.tmp 22) 41 rfl (b+1) 86 i0 (Value.agg #[.int .i64 0,.int .i64 0,.int .i64 0,.string ⟨#[]⟩]) 4 40 Tryz.underlying41 hi0 hz0 hz1 hz2 rfl (by decide) (.slice a N c) N (cellsP M.L).flatten (by first|rfl|simp[Act.eval,Act.put]) (HRow.out _ HBn.out) (some ⟨W.drew.heap.size,0,none⟩) 1 1 [.int .i64 p.k,.int .i64 ((N:Int)+2),.int .i64 p.tx,.string p.body] (by first|rfl|simp[Act.eval,Act.put]) rfl (by intro A hA j u hu;cases hA;exact cells_new W.drew [.int .i64 p.k,.int .i64 ((N:Int)+2),.int .i64 p.tx,.string p.body] 86 j u hu) (by intro e;cases e) (kPages.one _ ⟨_,_,_,_,rfl⟩) (by unfold maxLen;omega) (by omega) (Nat.le_trans (show b+1≤w.heap.size by omega) HBn.out.size) ?_
  intro p1 s1 w2 hown2 hgrow2 hat2
  obtain⟨N1,N2,N3⟩:=HNw.out _ w2 (.slice p1 (N+1) s1) ⟨p.k,(N:Int)+2,p.tx,p.body⟩ HBn.out (by rw[← HN.out];exact hown2) (by rw[← HN.out];exact hgrow2) (by rw[← HN.out];exact hat2)
  have M1:=qh N1
  have M2:=qh N2
  have M3:=qh N3
  have HX2:Hid (w2.heap[w.heap.size]?=some (.cells #[.int .i64 p.k,.int .i64 ((N:Int)+2),.int .i64 p.tx,.string p.body] 86 (0,0))):=(hgrow2.block _ HXn.1 (fun e=>HNe.out e.symm)).trans HXn.2
  have HQ2:=qh (HPb.out _ _ HBn.out hgrow2)
  clear hown2 hgrow2 hat2 N1 N2 N3
  refine hK.out _ _ (HS.out _ HX2.out) (fun hHeld=>?_)
  clear hK K
  try simp only[Act.put,qqA,qqB,qqC]
  refine tk 8 ?_
  refine tk 9 ?_
  refine dOne 10 fun K hK=>?_
  obtain⟨u0,q0⟩:=HQ2.out.1
  have q1:=HQ2.out.2
  go_simp
  have HX3:Hid ((w2.setCell ⟨b,0,none⟩ (.slice p1 (N+1) s1)).heap[w.heap.size]?=some (.cells #[.int .i64 p.k,.int .i64 ((N:Int)+2),.int .i64 p.tx,.string p.body] 86 (0,0))):=(Below.heap_setCell _ _ _ _ (fun e=>hbs e.symm)).trans HX2.out
  refine hK.out _ _ (HS.out _ HX3.out) (fun hHeld=>?_)
  clear hK K
  try simp only[Act.put,qqA,qqB,qqC]
  refine wpAnyH_done (by kernel_rfl) ?_ _
  obtain⟨e0,e1,e2,e3⟩:=hHeld
  go_wp2
  go_ret2
  exact⟨.slice p1 (N+1) s1,rfl,by rw[HN.out];rw[HN.out] at M1;exact M1.out,by have h9:=M2.out;rw[← HN.out] at h9;exact h9,by have h9:=M3.out;rw[← HN.out] at h9;exact h9⟩
end Go.Proofs.YtjepgclnbbpnaaaGreat.P12
namespace Go.Proofs.YtjepgclnbbpnaaaGreat.P12
open PK (qqA qqB qqC qqD qqE qqF tk tkS dOne qh)
open Go Go.RowKit Go.Lib PK
open P11 (Pg kPages infoEPages cellsP cellsP_length cellsP_ok cellsP_at cellsP_snoc PgsIn owns_pgs)
theorem cellsP_flat(l:List Pg):(cellsP l).flatten.length=l.length*4:=by rw[(cellsP_ok l).flat,cellsP_length];rfl
theorem cellsP_one(l:List Pg):∀ u∈(cellsP l).flatten,u.oneCell'=true:=(cellsP_ok l).one
theorem fr_then{S:Nat→Prop}{g:Nat}{a w w':World}(h:P3.Fr S a w)(k:P3.Fr (·=g) w w')(hg:a.heap.size≤g):P3.Fr S a w':=
 ⟨k.os.trans h.os,k.tape.trans h.tape,k.output.trans h.output,Nat.le_trans h.size k.size,fun j hj hn=>(k.block j (Nat.lt_of_lt_of_le hj h.size) (by omega)).trans (h.block j hj hn)⟩
theorem cellsP_set{l:List Pg}{k:Nat}(hk:k < l.length)(p:Pg):(cellsP (l.set k p)).flatten=((((cellsP l).flatten.set (k*4) (.int .i64 p.k)).set (k*4+1) (.int .i64 p.id)).set (k*4+2) (.int .i64 p.tx)).set (k*4+3) (.string p.body):=by
 obtain⟨q,hq⟩:∃ q,l[k]?=some q:=⟨_,List.getElem?_eq_getElem hk⟩
 have len4:∀ (m:List Pg),∀ x∈cellsP m,x.length=4:=fun m=>(cellsP_ok m).lens
 have step:∀ (L:List (List Value)) (x:List Value) (j:Nat) (u:Value),(∀ y∈L,y.length=4)→L[k]?=some x→j < 4→L.flatten.set (k*4+j) u=(L.set k (x.set j u)).flatten∧(∀ y∈L.set k (x.set j u),y.length=4)∧(L.set k (x.set j u))[k]?=some (x.set j u):=fun L x j u hL hx hj=>by
  have hkl:=(List.getElem?_eq_some_iff.1 hx).1
  refine⟨(flat_set hL hx hj).symm,fun y hy=>?_,by simp[hkl]⟩
  rcases List.mem_or_eq_of_mem_set hy with hy|rfl
  ·exact hL y hy
  ·rw[List.length_set]
   exact hL x (List.mem_of_getElem? hx)
 obtain⟨a1,a2,a3⟩:=step (cellsP l) q.cells 0 (.int .i64 p.k) (len4 l) (cellsP_at hq) (by omega)
 obtain⟨b1,b2,b3⟩:=step _ _ 1 (.int .i64 p.id) a2 a3 (by omega)
 obtain⟨c1,c2,c3⟩:=step _ _ 2 (.int .i64 p.tx) b2 b3 (by omega)
 obtain⟨d1,d2,d3⟩:=step _ _ 3 (.string p.body) c2 c3 (by omega)
 rw[Nat.add_zero] at a1
 rw[a1,b1,c1,d1]
 congr 1
 unfold cellsP
 rw[List.map_set,List.set_set,List.set_set,List.set_set]
 rfl
theorem PAt.put4{W:World}{b g cap:Nat}{vg:Value}{M:PM}{k:Nat}(p:Pg)(h:PAt W b (.slice (some ⟨g,0,none⟩) M.L.length cap) vg M)(hk:k < M.L.length) :
  PAt ((((W.setCell ⟨g,k*4,none⟩ (.int .i64 p.k)).setCell ⟨g,k*4+1,none⟩ (.int .i64 p.id)).setCell ⟨g,k*4+2,none⟩ (.int .i64 p.tx)).setCell ⟨g,k*4+3,none⟩ (.string p.body)) b (.slice (some ⟨g,0,none⟩) M.L.length cap) vg { M with L:=M.L.set k p }∧
  P3.Fr (·=g) W ((((W.setCell ⟨g,k*4,none⟩ (.int .i64 p.k)).setCell ⟨g,k*4+1,none⟩ (.int .i64 p.id)).setCell ⟨g,k*4+2,none⟩ (.int .i64 p.tx)).setCell ⟨g,k*4+3,none⟩ (.string p.body)):=by
 have hgb:b+1≤g:=(h.rl.lt g rfl).1
 obtain⟨a1,a2⟩:=h.rl.stored (k*4) (.int .i64 p.k)
 obtain⟨b1,b2⟩:=a1.stored (k*4+1) (.int .i64 p.id)
 obtain⟨c1,c2⟩:=b1.stored (k*4+2) (.int .i64 p.tx)
 obtain⟨d1,d2⟩:=c1.stored (k*4+3) (.string p.body)
 rw[← cellsP_set hk p] at d1
 have hF:P3.Fr (·=g) W ((((W.setCell ⟨g,k*4,none⟩ (.int .i64 p.k)).setCell ⟨g,k*4+1,none⟩ (.int .i64 p.id)).setCell ⟨g,k*4+2,none⟩ (.int .i64 p.tx)).setCell ⟨g,k*4+3,none⟩ (.string p.body)):=by
  have one:∀ {A B:World},A.grownBy B (some g)→P3.Fr (·=g) A B:=fun h=>⟨h.os,h.tape,h.output,h.size,fun j hj hn=>h.block j hj (fun e=>hn (Option.some.inj e))⟩
  exact (((one a2).trans (one b2)).trans (one c2)).trans (one d2)
 refine⟨⟨?_,?_,?_,h.ne⟩,hF⟩
 ·rw[hF.block b h.lt (by omega)]
  exact h.obj
 ·show World.ownsRow _ _ _ _ _ (M.L.set k p).length _
  rw[List.length_set]
  exact d1
 ·have kp:∀ {A B:World},A.grownBy B (some g)→A.ownsRow (b+1) 3 1 vg M.given.length (cellsZ M.given)→B.ownsRow (b+1) 3 1 vg M.given.length (cellsZ M.given):=fun hg hr=>hr.kept hg (by
   cases e:vg.ownBlock with
   | none=>exact .inl rfl
   | some j=>exact .inr fun q=>h.ne j q.symm e)
  exact kp d2 (kp c2 (kp b2 (kp a2 h.rg)))
theorem PAt.copied{w w1 w5:World}{b g cap:Nat}{vl vg:Value}{M:PM}(h:PAt w b vl vg M)(k1:Below w.heap.size w w1)(hg:w1.grownBy w5 none)(ho:w5.ownsRow (w.heap.size+1) 86 4 (.slice (some ⟨g,0,none⟩) M.L.length cap) M.L.length (cellsP M.L).flatten) :
  PAt (w5.setCell ⟨b,0,none⟩ (.slice (some ⟨g,0,none⟩) M.L.length cap)) b (.slice (some ⟨g,0,none⟩) M.L.length cap) vg M∧P3.Fr (PS b vl vg) w (w5.setCell ⟨b,0,none⟩ (.slice (some ⟨g,0,none⟩) M.L.length cap))∧w.heap.size < g:=by
 have hgl:w.heap.size+1≤g:=(ho.lt g rfl).1
 have hb:=h.lt
 have hob:=(hg.block b (h.below k1).lt (by simp)).trans (h.below k1).obj
 have hB5:Below w.heap.size w w5:=k1.trans ⟨hg.os,hg.tape,hg.output,hg.size,fun j hj=>hg.block j (Nat.lt_of_lt_of_le hj k1.size) (by simp)⟩
 refine⟨⟨?_,?_,?_,?_⟩,?_,by omega⟩
 ·rw[set_at hob 0]
  rfl
 ·have:=ho.kept (setCell_grownBy w5 b 0 (.slice (some ⟨g,0,none⟩) M.L.length cap)) (.inr fun e=>by have:=Option.some.inj e;simp at this;omega)
  exact owns_lo this (by omega)
 ·have hr:=(h.below hB5).rg
  exact hr.kept (setCell_grownBy w5 b 0 _) (by
   cases e:vg.ownBlock with
   | none=>exact .inl rfl
   | some j=>exact .inr fun q=>by have:=(h.rg.lt j e).1;cases q;omega)
 ·intro j e1 e2
  have:=(h.rg.lt j e2).2
  have e3:g=j:=Option.some.inj e1
  omega
 ·exact P3.Fr.trans (P3.Fr.of hB5) ⟨rfl,rfl,rfl,by simp[World.setCell],fun j hj hn=>Below.heap_setCell _ _ _ _ (fun e=>hn (.inl e))⟩
theorem set_any(w:World)(b:Nat)(vl vg:Value)(M:PM)(p:Pg)(k:Nat)(h:PAt w b vl vg M)(hl:M.L.length≤4000)(hf:2≤M.fr)(hid:p.id=(k:Int)+2)(hk:k < M.L.length)(hm:M.fr≤p.id) :
  Calls Tryz.prog 182 #[.pointer (some ⟨b,0,none⟩),p.v] w fun e w'=>∃ vl',e=.returned (.int .i64 0)∧PAt w' b vl' vg { M with L:=M.L.set k p }∧P3.Fr (PS b vl vg) w w'∧(∀ j,vl'.ownBlock=some j→vl.ownBlock=some j∨w.heap.size≤j):=by
 obtain⟨i0,hi0,hz0,hz1,hz2⟩:=info_parts infoEPages
 obtain⟨pk,pid,ptx,pb⟩:=p
 simp only at hid hm
 subst hid
 obtain⟨w1,hw1⟩:∃ w1,w1=w.alloc (.cells #[.int .i64 pk,.int .i64 ((k:Int)+2),.int .i64 ptx,.string pb] 86):=⟨_,rfl⟩
 have hb1:Below w.heap.size w w1:=by rw[hw1];exact below_new _ _
 obtain⟨c0,c1,c2,c3,c4,c5⟩:=(h.below hb1).cells
 have hz:w1.heap[w.heap.size]?=some (.cells #[.int .i64 pk,.int .i64 ((k:Int)+2),.int .i64 ptx,.string pb] 86 (0,0)):=by rw[hw1];exact new_at w _ _
 have d0:=cell_at hz 0
 have d1:=cell_at hz 1
 have d2:=cell_at hz 2
 have d3:=cell_at hz 3
 simp only[qqD,qqE,qqF] at d0 d1 d2 d3
 obtain⟨a,c,rfl⟩:=h.slice
 have k1:decide ((k:Int)+2 < M.fr)=false:=decide_eq_false (by omega)
 have k2:decide ((M.L.length:Int)≤(k:Int))=false:=decide_eq_false (by omega)
 have k2':decide (M.L.length≤k)=false:=decide_eq_false (by omega)
 have k3:decide ((k:Int)+2 < 2)=false:=decide_eq_false (by omega)
 have k4:IntKind.i64.wrap ((k:Int)+2 - 2)=(k:Int):=by rw[IntKind.wrap_i64];omega
 have k5:(k:Int)+2 - 2=(k:Int):=by omega
 have k8:IntKind.i64.wrap (k:Int)=(k:Int):=by rw[IntKind.wrap_i64];omega
 have k6:(k:Int) < (M.L.length:Int):=by omega
 have k7:(0:Int)≤(k:Int):=by omega
 have hlt:=h.lt
 have hbs:b≠w.heap.size:=by omega
 have HZ:=qh hz
 have HB1:=qh hb1
 have HP:=qh h
 have HI:Hid (∀ W,Below w.heap.size w W→(∀ A,a=some A→∀ (j:Nat) (u:Value),(cellsP M.L).flatten[j]?=some u→W.cell? (A.add j)=some u)∧(a=none→M.L.length=0∧c=0)):=fun W hW=>by
  have h2:=(h.below hW).rl
  refine⟨fun A hA j u hu=>?_,fun e=>?_⟩
  ·subst hA
   have hP:=(h.below hW).pgs (by omega)
   have h':ElemsIn kPages W (.slice (some A) (cellsP M.L).length c) (cellsP M.L):=by rw[cellsP_length];exact hP
   exact h'.flat rfl hu
  ·subst e
   rcases h2.2 with ⟨e1,e2⟩|⟨g,cap,cur,e1,_⟩
   ·simp only[Value.slice.injEq] at e1
    exact⟨e2,e1.2.2⟩
   ·cases e1
 have HF:=qh (cellsP_flat M.L)
 have HO:=qh (cellsP_one M.L)
 have HSt:Hid (∀ W:World,W.heap[w.heap.size]?=some (.cells #[.int .i64 pk,.int .i64 ((k:Int)+2),.int .i64 ptx,.string pb] 86 (0,0))→W.cell? ⟨w.heap.size,0,none⟩=some (.int .i64 pk)∧W.cell? ⟨w.heap.size,1,none⟩=some (.int .i64 ((k:Int)+2))∧W.cell? ⟨w.heap.size,2,none⟩=some (.int .i64 ptx)∧W.cell? ⟨w.heap.size,3,none⟩=some (.string pb)):=fun W h=>⟨cell_at h 0,cell_at h 1,cell_at h 2,cell_at h 3⟩
 unfold Pg.v
 simp only
 clear h hz hb1
 go_enter Tryz.func182,Tryz.ntmps182
 go_upto_region 1 with fail
 rw[← hw1]
 clear hw1
 go_quiet (fail)
 have HBq:Hid (Below w.heap.size w (w1.drewN nq)):=HB1.out.trans ⟨rfl,rfl,rfl,Nat.le_refl _,fun _ _=>rfl⟩
 have HZq:Hid ((w1.drewN nq).heap[w.heap.size]?=some (.cells #[.int .i64 pk,.int .i64 ((k:Int)+2),.int .i64 ptx,.string pb] 86 (0,0))):=HZ.out
 go_upto_region 5 with (at_builtin;refine wpList_app rfl _ _ 41 rfl (w.heap.size+1) 86 i0 (Value.agg #[.int .i64 0,.int .i64 0,.int .i64 0,.string ⟨#[]⟩]) 4 40 Tryz.underlying41 hi0 hz0 hz1 hz2 rfl (by decide) (.slice none 0 0) 0 [] rfl (World.ownsRow_nil _ _ _ _) a M.L.length c (cellsP M.L).flatten (by first|rfl|simp[Act.eval,Act.put]) HF.out (HI.out _ HBq.out).1 (HI.out _ HBq.out).2 HO.out (by unfold maxLen;omega) (by omega) (lt_of_block HZq.out) ?_;intro p5 q5 w5 hown hgrow hat;have HO5:=qh hown;have HG5:=qh hgrow;have q0:w5.cell? ⟨b,0,none⟩=some (.slice a M.L.length c):=cell_at ((hgrow.block b (HP.out.below HBq.out).lt (by simp[Value.ownBlock])).trans (HP.out.below HBq.out).obj) 0;have q1:w5.frozen? ⟨b,0,none⟩=false:=free_at ((hgrow.block b (HP.out.below HBq.out).lt (by simp[Value.ownBlock])).trans (HP.out.below HBq.out).obj) 0;clear hown hgrow hat)
 have hown:=HO5.out
 rw[Nat.zero_add,List.nil_append] at hown
 obtain⟨g,cap,e,hgb,hgl⟩:=hown.form (by omega)
 simp only[Value.slice.injEq] at e
 obtain⟨rfl,-,rfl⟩:=e
 obtain⟨N1,N2,N3⟩:=HP.out.copied HBq.out HG5.out hown
 have HN1:=qh N1
 have HN2:=qh N2
 have HX5:w5.heap[w.heap.size]?=some (.cells #[.int .i64 pk,.int .i64 ((k:Int)+2),.int .i64 ptx,.string pb] 86 (0,0)):=(HG5.out.block _ (lt_of_block HZq.out) (by simp[Value.ownBlock])).trans HZq.out
 have HX6:(w5.setCell ⟨b,0,none⟩ (.slice (some ⟨g,0,none⟩) M.L.length q5)).heap[w.heap.size]?=some (.cells #[.int .i64 pk,.int .i64 ((k:Int)+2),.int .i64 ptx,.string pb] 86 (0,0)):=(Below.heap_setCell _ _ _ _ (fun e=>hbs e.symm)).trans HX5
 obtain⟨W,hW⟩:∃ W,W=w5.setCell ⟨b,0,none⟩ (.slice (some ⟨g,0,none⟩) M.L.length q5):=⟨_,rfl⟩
 rw[← hW] at HN1 HN2 HX6 ⊢
 have HX:=qh HX6
 have HPW:Hid (PAt W b (.slice (some ⟨g,0,none⟩) M.L.length q5) vg M):=HN1.out
 have r0:=HN1.out.cells.1
 obtain⟨q,hq⟩:∃ q,M.L[k]?=some q:=⟨_,List.getElem?_eq_getElem hk⟩
 obtain⟨bq,oq,eq,hcq⟩:=(HN1.out.pgs (by omega)).at_ hq
 simp only[Option.some.injEq,Addr.mk.injEq,and_true] at eq
 obtain⟨rfl,rfl⟩:=eq
 have hdr:Below W.heap.size W W.drew:=(Below.refl _ _).drew
 obtain⟨x0,x1,x2,x3⟩:=hcq _ (Below.refl _ _)
 rw[Nat.zero_add] at x0 x1 x2 x3
 have hog:=HN1.out.rl
 have y0:∀ j,W.frozen? ⟨g,j,none⟩=false:=fun j=>hog.frozenAt j
 have y1:=y0 (k*4)
 have y2:=y0 (k*4+1)
 have y3:=y0 (k*4+2)
 have y4:=y0 (k*4+3)
 clear hW N1 N2 HX5 HX6 hown hog y0 hcq hq q0 q1 c0 c1 c2 c3 c4 c5 d0 d1 d2 d3
 refine wp_region_held_drew (S:=fun W=>W.cell? ⟨b,0,none⟩=some (.slice (some ⟨g,0,none⟩) M.L.length q5)∧W.cell? ⟨w.heap.size,0,none⟩=some (.int .i64 pk)∧W.cell? ⟨w.heap.size,1,none⟩=some (.int .i64 ((k:Int)+2))∧W.cell? ⟨w.heap.size,2,none⟩=some (.int .i64 ptx)∧W.cell? ⟨w.heap.size,3,none⟩=some (.string pb)) (by kernel_rfl) ⟨r0,HSt.out _ HX.out⟩ (fun hHeld=>?_)
 refine tk 0 ?_
 refine tk 1 ?_
 refine tk 2 ?_
 refine tk 3 ?_
 refine tk 4 ?_
 refine tk 5 ?_
 refine tk 6 ?_
 refine tk 7 ?_
 refine tk 8 ?_
 refine dOne 9 fun K hK=>?_
 go_simp
 obtain⟨Z1,Z2⟩:=HPW.out.put4 (k:=k) ⟨pk,(k:Int)+2,ptx,pb⟩ hk
 have HZ1:=qh Z1
 have HZ2:=qh Z2
 simp only at HZ1 HZ2
 clear Z1 Z2
 refine hK.out _ _ ⟨HZ1.out.cells.1,HSt.out _ ((HZ2.out.block _ (lt_of_block HX.out) (by omega)).trans HX.out)⟩ (fun hHeld=>?_)
 clear hK K
 try simp only[Act.put,qqA,qqB,qqC]
 refine wpAnyH_done (by kernel_rfl) ?_ _
 go_wp2
 go_ret
 exact⟨.slice (some ⟨g,0,none⟩) M.L.length q5,rfl,HZ1.out.below ((Below.refl _ _).drew),(fr_then HN2.out HZ2.out (Nat.le_of_lt N3)).trans (P3.Fr.of ((Below.refl _ _).drew)),fun j e=>by have e3:g=j:=Option.some.inj e;right;omega⟩
end Go.Proofs.YtjepgclnbbpnaaaGreat.P12
namespace Go.Proofs.YtjepgclnbbpnaaaGreat.P11
open Go Go.RowKit Go.Lib PK
def kNs:Kd where
 e:=3
 n:=1
 te:=42
 p:=0
 ok:=fun y=>∃ x:Int,y=[.int .i64 x]
 mark:=fun _ _=>[.int .i64 0]
 len:=by rintro _ ⟨x,rfl⟩;rfl
 one:=by
  rintro _ ⟨x,rfl⟩ u hu
  simp only[List.mem_cons,List.not_mem_nil,or_false] at hu
  rcases hu with rfl
  rfl
 mok:=fun _ _=>⟨_,rfl⟩
 pos:=by decide
theorem infoENs:(Tryz.prog.info? 3).map (fun i=>(i.zero,i.size,i.bytes))=some (some (Value.int .i64 0),1,8):=by kernel_rfl
def cellsN(l:List Int):List (List Value):=l.map fun x=>[.int .i64 x]
theorem cellsN_length(l:List Int):(cellsN l).length=l.length:=by simp[cellsN]
theorem cellsN_ok(l:List Int):Oks kNs (cellsN l):=fun x hx=>by
 obtain⟨y,_,rfl⟩:=List.mem_map.1 hx
 exact⟨y,rfl⟩
def NsIn(w:World)(v:Value)(l:List Int):Prop:=ElemsIn kNs w v (cellsN l)
theorem NsIn.slice{w:World}{v:Value}{l:List Int}(h:NsIn w v l):∃ a c,v=.slice a l.length c:=by
 obtain⟨a,c,h,_⟩:=h
 exact⟨a,c,by rw[cellsN_length] at h;exact h⟩
theorem NsIn.at_{w:World}{a:Option Addr}{n c:Nat}{l:List Int}(h:NsIn w (.slice a n c) l){i:Nat}{x:Int}(hi:l[i]?=some x) :
  ∃ b off,a=some ⟨b,off,none⟩∧∀ w',Below w.heap.size w w'→w'.cell? ⟨b,off+i,none⟩=some (.int .i64 x):=by
 obtain⟨a',c',e,_,_,_,hc⟩:=h
 simp only[Value.slice.injEq] at e
 obtain⟨rfl,_,_⟩:=e
 obtain⟨b,off,rfl,hb,hcc⟩:=hc (by rw[cellsN_length];have:=(List.getElem?_eq_some_iff.1 hi).1;omega)
 refine⟨b,off,rfl,fun w' hw=>?_⟩
 have h1:=(hw.cell (p:=⟨b,off+(i*1+0),none⟩) hb).trans (hcc i [.int .i64 x] (by simp[cellsN,hi]) 0 _ rfl)
 rwa[show off+(i*1+0)=off+i by omega] at h1
def OwnN(lo:Nat)(w:World)(v:Value)(l:List Int):Prop:=w.ownsRow lo 3 1 v l.length (cellsN l).flatten∧l.length≤1000000
theorem OwnN.ns{lo:Nat}{w:World}{v:Value}{l:List Int}(h:OwnN lo w v l):NsIn w v l:=by
 refine tRow_elems (κ:=kNs) (lo:=lo) ?_ (by rw[cellsN_length];have:=h.2;omega) (cellsN_ok l)
 show w.ownsRow lo 3 1 v (cellsN l).length (cellsN l).flatten
 rw[cellsN_length]
 exact h.1
end Go.Proofs.YtjepgclnbbpnaaaGreat.P11
