/-
  Texts of the proofs of SaidPlays12.
-/
import Derived.Test.YtjepgclnbbpnaaaGreatMr04
set_option linter.unusedVariables false
set_option linter.unusedSimpArgs false
set_option maxHeartbeats 8000000
set_option maxRecDepth 100000
namespace Go.Proofs.YtjepgclnbbpnaaaGreat.P12
open PK (qqA qqB qqC qqD qqE qqF tk tkS dOne qh)
open Go Go.RowKit Go.Lib PK
open P11 (Pg kPages infoEPages cellsP cellsP_length cellsP_ok cellsP_at cellsP_snoc PgsIn owns_pgs)
theorem cellsP_flat(l:List Pg):(cellsP l).flatten.length=l.length*4:=by rw[(cellsP_ok l).flat,cellsP_length];rfl
theorem cellsP_one(l:List Pg):∀ u∈(cellsP l).flatten,u.oneCell'=true:=(cellsP_ok l).one
theorem fr_then{S:Nat→Prop}{g:Nat}{a w w':World}(h:P3.Fr S a w)(k:P3.Fr (·=g) w w')(hg:a.heap.size≤g):P3.Fr S a w':=
 ⟨k.os.trans h.os,k.tape.trans h.tape,k.output.trans h.output,Nat.le_trans h.size k.size,fun j hj hn=>(k.block j (Nat.lt_of_lt_of_le hj h.size) (by omega)).trans (h.block j hj hn)⟩
theorem cellsP_set{l:List Pg}{k:Nat}(hk:k < l.length)(p:Pg):(cellsP (l.set k p)).flatten=((((cellsP l).flatten.set (k*4) (.int .i64 p.k)).set (k*4+1) (.int .i64 p.id)).set (k*4+2) (.int .i64 p.tx)).set (k*4+3) (.string p.body):=by
 obtain⟨q,hq⟩:∃ q,l[k]?=some q:=⟨_,List.getElem?_eq_getElem hk⟩
 have len4:∀ (m:List Pg),∀ x∈cellsP m,x.length=4:=fun m=>(cellsP_ok m).lens
 have step:∀ (L:List (List Value)) (x:List Value) (j:Nat) (u:Value),(∀ y∈L,y.length=4)→L[k]?=some x→j < 4→L.flatten.set (k*4+j) u=(L.set k (x.set j u)).flatten∧(∀ y∈L.set k (x.set j u),y.length=4)∧(L.set k (x.set j u))[k]?=some (x.set j u):=fun L x j u hL hx hj=>by
  have hkl:=(List.getElem?_eq_some_iff.1 hx).1
  refine⟨(flat_set hL hx hj).symm,fun y hy=>?_,by simp[hkl]⟩
  rcases List.mem_or_eq_of_mem_set hy with hy|rfl
  ·exact hL y hy
  ·rw[List.length_set]
   exact hL x (List.mem_of_getElem? hx)
 obtain⟨a1,a2,a3⟩:=step (cellsP l) q.cells 0 (.int .i64 p.k) (len4 l) (cellsP_at hq) (by omega)
 obtain⟨b1,b2,b3⟩:=step _ _ 1 (.int .i64 p.id) a2 a3 (by omega)
 obtain⟨c1,c2,c3⟩:=step _ _ 2 (.int .i64 p.tx) b2 b3 (by omega)
 obtain⟨d1,d2,d3⟩:=step _ _ 3 (.string p.body) c2 c3 (by omega)
 rw[Nat.add_zero] at a1
 rw[a1,b1,c1,d1]
 congr 1
 unfold cellsP
 rw[List.map_set,List.set_set,List.set_set,List.set_set]
 rfl
theorem PAt.put4{W:World}{b g cap:Nat}{vg:Value}{M:PM}{k:Nat}(p:Pg)(h:PAt W b (.slice (some ⟨g,0,none⟩) M.L.length cap) vg M)(hk:k < M.L.length) :
  PAt ((((W.setCell ⟨g,k*4,none⟩ (.int .i64 p.k)).setCell ⟨g,k*4+1,none⟩ (.int .i64 p.id)).setCell ⟨g,k*4+2,none⟩ (.int .i64 p.tx)).setCell ⟨g,k*4+3,none⟩ (.string p.body)) b (.slice (some ⟨g,0,none⟩) M.L.length cap) vg { M with L:=M.L.set k p }∧
  P3.Fr (·=g) W ((((W.setCell ⟨g,k*4,none⟩ (.int .i64 p.k)).setCell ⟨g,k*4+1,none⟩ (.int .i64 p.id)).setCell ⟨g,k*4+2,none⟩ (.int .i64 p.tx)).setCell ⟨g,k*4+3,none⟩ (.string p.body)):=by
 have hgb:b+1≤g:=(h.rl.lt g rfl).1
 obtain⟨a1,a2⟩:=h.rl.stored (k*4) (.int .i64 p.k)
 obtain⟨b1,b2⟩:=a1.stored (k*4+1) (.int .i64 p.id)
 obtain⟨c1,c2⟩:=b1.stored (k*4+2) (.int .i64 p.tx)
 obtain⟨d1,d2⟩:=c1.stored (k*4+3) (.string p.body)
 rw[← cellsP_set hk p] at d1
 have hF:P3.Fr (·=g) W ((((W.setCell ⟨g,k*4,none⟩ (.int .i64 p.k)).setCell ⟨g,k*4+1,none⟩ (.int .i64 p.id)).setCell ⟨g,k*4+2,none⟩ (.int .i64 p.tx)).setCell ⟨g,k*4+3,none⟩ (.string p.body)):=by
  have one:∀ {A B:World},A.grownBy B (some g)→P3.Fr (·=g) A B:=fun h=>⟨h.os,h.tape,h.output,h.size,fun j hj hn=>h.block j hj (fun e=>hn (Option.some.inj e))⟩
  exact (((one a2).trans (one b2)).trans (one c2)).trans (one d2)
 refine⟨⟨?_,?_,?_,h.ne⟩,hF⟩
 ·rw[hF.block b h.lt (by omega)]
  exact h.obj
 ·show World.ownsRow _ _ _ _ _ (M.L.set k p).length _
  rw[List.length_set]
  exact d1
 ·have kp:∀ {A B:World},A.grownBy B (some g)→A.ownsRow (b+1) 3 1 vg M.given.length (cellsZ M.given)→B.ownsRow (b+1) 3 1 vg M.given.length (cellsZ M.given):=fun hg hr=>hr.kept hg (by
   cases e:vg.ownBlock with
   | none=>exact .inl rfl
   | some j=>exact .inr fun q=>h.ne j q.symm e)
  exact kp d2 (kp c2 (kp b2 (kp a2 h.rg)))
theorem PAt.copied{w w1 w5:World}{b g cap:Nat}{vl vg:Value}{M:PM}(h:PAt w b vl vg M)(k1:Below w.heap.size w w1)(hg:w1.grownBy w5 none)(ho:w5.ownsRow (w.heap.size+1) 86 4 (.slice (some ⟨g,0,none⟩) M.L.length cap) M.L.length (cellsP M.L).flatten) :
  PAt (w5.setCell ⟨b,0,none⟩ (.slice (some ⟨g,0,none⟩) M.L.length cap)) b (.slice (some ⟨g,0,none⟩) M.L.length cap) vg M∧P3.Fr (PS b vl vg) w (w5.setCell ⟨b,0,none⟩ (.slice (some ⟨g,0,none⟩) M.L.length cap))∧w.heap.size < g:=by
 have hgl:w.heap.size+1≤g:=(ho.lt g rfl).1
 have hb:=h.lt
 have hob:=(hg.block b (h.below k1).lt (by simp)).trans (h.below k1).obj
 have hB5:Below w.heap.size w w5:=k1.trans ⟨hg.os,hg.tape,hg.output,hg.size,fun j hj=>hg.block j (Nat.lt_of_lt_of_le hj k1.size) (by simp)⟩
 refine⟨⟨?_,?_,?_,?_⟩,?_,by omega⟩
 ·rw[set_at hob 0]
  rfl
 ·have:=ho.kept (setCell_grownBy w5 b 0 (.slice (some ⟨g,0,none⟩) M.L.length cap)) (.inr fun e=>by have:=Option.some.inj e;simp at this;omega)
  exact owns_lo this (by omega)
 ·have hr:=(h.below hB5).rg
  exact hr.kept (setCell_grownBy w5 b 0 _) (by
   cases e:vg.ownBlock with
   | none=>exact .inl rfl
   | some j=>exact .inr fun q=>by have:=(h.rg.lt j e).1;cases q;omega)
 ·intro j e1 e2
  have:=(h.rg.lt j e2).2
  have e3:g=j:=Option.some.inj e1
  omega
 ·exact P3.Fr.trans (P3.Fr.of hB5) ⟨rfl,rfl,rfl,by simp[World.setCell],fun j hj hn=>Below.heap_setCell _ _ _ _ (fun e=>hn (.inl e))⟩
theorem set_any(w:World)(b:Nat)(vl vg:Value)(M:PM)(p:Pg)(k:Nat)(h:PAt w b vl vg M)(hl:M.L.length≤4000)(hf:2≤M.fr)(hid:p.id=(k:Int)+2)(hk:k < M.L.length)(hm:M.fr≤p.id) :
  Calls Tryz.prog 182 #[.pointer (some ⟨b,0,none⟩),p.v] w fun e w'=>∃ vl',e=.returned (.int .i64 0)∧PAt w' b vl' vg { M with L:=M.L.set k p }∧P3.Fr (PS b vl vg) w w'∧(∀ j,vl'.ownBlock=some j→vl.ownBlock=some j∨w.heap.size≤j):=by
 obtain⟨i0,hi0,hz0,hz1,hz2⟩:=info_parts infoEPages
 obtain⟨pk,pid,ptx,pb⟩:=p
 simp only at hid hm
 subst hid
 obtain⟨w1,hw1⟩:∃ w1,w1=w.alloc (.cells #[.int .i64 pk,.int .i64 ((k:Int)+2),.int .i64 ptx,.string pb] 86):=⟨_,rfl⟩
 have hb1:Below w.heap.size w w1:=by rw[hw1];exact below_new _ _
 obtain⟨c0,c1,c2,c3,c4,c5⟩:=(h.below hb1).cells
 have hz:w1.heap[w.heap.size]?=some (.cells #[.int .i64 pk,.int .i64 ((k:Int)+2),.int .i64 ptx,.string pb] 86 (0,0)):=by rw[hw1];exact new_at w _ _
 have d0:=cell_at hz 0
 have d1:=cell_at hz 1
 have d2:=cell_at hz 2
 have d3:=cell_at hz 3
 simp only[qqD,qqE,qqF] at d0 d1 d2 d3
 obtain⟨a,c,rfl⟩:=h.slice
 have k1:decide ((k:Int)+2 < M.fr)=false:=decide_eq_false (by omega)
 have k2:decide ((M.L.length:Int)≤(k:Int))=false:=decide_eq_false (by omega)
 have k2':decide (M.L.length≤k)=false:=decide_eq_false (by omega)
 have k3:decide ((k:Int)+2 < 2)=false:=decide_eq_false (by omega)
 have k4:IntKind.i64.wrap ((k:Int)+2 - 2)=(k:Int):=by rw[IntKind.wrap_i64];omega
 have k5:(k:Int)+2 - 2=(k:Int):=by omega
 have k8:IntKind.i64.wrap (k:Int)=(k:Int):=by rw[IntKind.wrap_i64];omega
 have k6:(k:Int) < (M.L.length:Int):=by omega
 have k7:(0:Int)≤(k:Int):=by omega
 have hlt:=h.lt
 have hbs:b≠w.heap.size:=by omega
 have HZ:=qh hz
 have HB1:=qh hb1
 have HP:=qh h
 have HI:Hid (∀ W,Below w.heap.size w W→(∀ A,a=some A→∀ (j:Nat) (u:Value),(cellsP M.L).flatten[j]?=some u→W.cell? (A.add j)=some u)∧(a=none→M.L.length=0∧c=0)):=fun W hW=>by
  have h2:=(h.below hW).rl
  refine⟨fun A hA j u hu=>?_,fun e=>?_⟩
  ·subst hA
   have hP:=(h.below hW).pgs (by omega)
   have h':ElemsIn kPages W (.slice (some A) (cellsP M.L).length c) (cellsP M.L):=by rw[cellsP_length];exact hP
   exact h'.flat rfl hu
  ·subst e
   rcases h2.2 with ⟨e1,e2⟩|⟨g,cap,cur,e1,_⟩
   ·simp only[Value.slice.injEq] at e1
    exact⟨e2,e1.2.2⟩
   ·cases e1
 have HF:=qh (cellsP_flat M.L)
 have HO:=qh (cellsP_one M.L)
 have HSt:Hid (∀ W:World,W.heap[w.heap.size]?=some (.cells #[.int .i64 pk,.int .i64 ((k:Int)+2),.int .i64 ptx,.string pb] 86 (0,0))→W.cell? ⟨w.heap.size,0,none⟩=some (.int .i64 pk)∧W.cell? ⟨w.heap.size,1,none⟩=some (.int .i64 ((k:Int)+2))∧W.cell? ⟨w.heap.size,2,none⟩=some (.int .i64 ptx)∧W.cell? ⟨w.heap.size,3,none⟩=some (.string pb)):=fun W h=>⟨cell_at h 0,cell_at h 1,cell_at h 2,cell_at h 3⟩
 unfold Pg.v
 simp only
 clear h hz hb1
 go_enter Tryz.func182,Tryz.ntmps182
 go_upto_region 1 with fail
 rw[← hw1]
 clear hw1
 go_quiet (fail)
 have HBq:Hid (Below w.heap.size w (w1.drewN nq)):=HB1.out.trans ⟨rfl,rfl,rfl,Nat.le_refl _,fun _ _=>rfl⟩
 have HZq:Hid ((w1.drewN nq).heap[w.heap.size]?=some (.cells #[.int .i64 pk,.int .i64 ((k:Int)+2),.int .i64 ptx,.string pb] 86 (0,0))):=HZ.out
 go_upto_region 5 with (at_builtin;refine wpList_app rfl _ _ 41 rfl (w.heap.size+1) 86 i0 (Value.agg #[.int .i64 0,.int .i64 0,.int .i64 0,.string ⟨#[]⟩]) 4 40 Tryz.underlying41 hi0 hz0 hz1 hz2 rfl (by decide) (.slice none 0 0) 0 [] rfl (World.ownsRow_nil _ _ _ _) a M.L.length c (cellsP M.L).flatten (by first|rfl|simp[Act.eval,Act.put]) HF.out (HI.out _ HBq.out).1 (HI.out _ HBq.out).2 HO.out (by unfold maxLen;omega) (by omega) (lt_of_block HZq.out) ?_;intro p5 q5 w5 hown hgrow hat;have HO5:=qh hown;have HG5:=qh hgrow;have q0:w5.cell? ⟨b,0,none⟩=some (.slice a M.L.length c):=cell_at ((hgrow.block b (HP.out.below HBq.out).lt (by simp[Value.ownBlock])).trans (HP.out.below HBq.out).obj) 0;have q1:w5.frozen? ⟨b,0,none⟩=false:=free_at ((hgrow.block b (HP.out.below HBq.out).lt (by simp[Value.ownBlock])).trans (HP.out.below HBq.out).obj) 0;clear hown hgrow hat)
 have hown:=HO5.out
 rw[Nat.zero_add,List.nil_append] at hown
 obtain⟨g,cap,e,hgb,hgl⟩:=hown.form (by omega)
 simp only[Value.slice.injEq] at e
 obtain⟨rfl,-,rfl⟩:=e
 obtain⟨N1,N2,N3⟩:=HP.out.copied HBq.out HG5.out hown
 have HN1:=qh N1
 have HN2:=qh N2
 have HX5:w5.heap[w.heap.size]?=some (.cells #[.int .i64 pk,.int .i64 ((k:Int)+2),.int .i64 ptx,.string pb] 86 (0,0)):=(HG5.out.block _ (lt_of_block HZq.out) (by simp[Value.ownBlock])).trans HZq.out
 have HX6:(w5.setCell ⟨b,0,none⟩ (.slice (some ⟨g,0,none⟩) M.L.length q5)).heap[w.heap.size]?=some (.cells #[.int .i64 pk,.int .i64 ((k:Int)+2),.int .i64 ptx,.string pb] 86 (0,0)):=(Below.heap_setCell _ _ _ _ (fun e=>hbs e.symm)).trans HX5
 obtain⟨W,hW⟩:∃ W,W=w5.setCell ⟨b,0,none⟩ (.slice (some ⟨g,0,none⟩) M.L.length q5):=⟨_,rfl⟩
 rw[← hW] at HN1 HN2 HX6 ⊢
 have HX:=qh HX6
 have HPW:Hid (PAt W b (.slice (some ⟨g,0,none⟩) M.L.length q5) vg M):=HN1.out
 have r0:=HN1.out.cells.1
 obtain⟨q,hq⟩:∃ q,M.L[k]?=some q:=⟨_,List.getElem?_eq_getElem hk⟩
 obtain⟨bq,oq,eq,hcq⟩:=(HN1.out.pgs (by omega)).at_ hq
 simp only[Option.some.injEq,Addr.mk.injEq,and_true] at eq
 obtain⟨rfl,rfl⟩:=eq
 have hdr:Below W.heap.size W W.drew:=(Below.refl _ _).drew
 obtain⟨x0,x1,x2,x3⟩:=hcq _ (Below.refl _ _)
 rw[Nat.zero_add] at x0 x1 x2 x3
 have hog:=HN1.out.rl
 have y0:∀ j,W.frozen? ⟨g,j,none⟩=false:=fun j=>hog.frozenAt j
 have y1:=y0 (k*4)
 have y2:=y0 (k*4+1)
 have y3:=y0 (k*4+2)
 have y4:=y0 (k*4+3)
 clear hW N1 N2 HX5 HX6 hown hog y0 hcq hq q0 q1 c0 c1 c2 c3 c4 c5 d0 d1 d2 d3
 refine wp_region_held_drew (S:=fun W=>W.cell? ⟨b,0,none⟩=some (.slice (some ⟨g,0,none⟩) M.L.length q5)∧W.cell? ⟨w.heap.size,0,none⟩=some (.int .i64 pk)∧W.cell? ⟨w.heap.size,1,none⟩=some (.int .i64 ((k:Int)+2))∧W.cell? ⟨w.heap.size,2,none⟩=some (.int .i64 ptx)∧W.cell? ⟨w.heap.size,3,none⟩=some (.string pb)) (by kernel_rfl) ⟨r0,HSt.out _ HX.out⟩ (fun hHeld=>?_)
 refine tk 0 ?_
 refine tk 1 ?_
 refine tk 2 ?_
 refine tk 3 ?_
 refine tk 4 ?_
 refine tk 5 ?_
 refine tk 6 ?_
 refine tk 7 ?_
 refine tk 8 ?_
 refine dOne 9 fun K hK=>?_
 go_simp
 obtain⟨Z1,Z2⟩:=HPW.out.put4 (k:=k) ⟨pk,(k:Int)+2,ptx,pb⟩ hk
 have HZ1:=qh Z1
 have HZ2:=qh Z2
 simp only at HZ1 HZ2
 clear Z1 Z2
 refine hK.out _ _ ⟨HZ1.out.cells.1,HSt.out _ ((HZ2.out.block _ (lt_of_block HX.out) (by omega)).trans HX.out)⟩ (fun hHeld=>?_)
 clear hK K
 try simp only[Act.put,qqA,qqB,qqC]
 refine wpAnyH_done (by kernel_rfl) ?_ _
 go_wp2
 go_ret
 exact⟨.slice (some ⟨g,0,none⟩) M.L.length q5,rfl,HZ1.out.below ((Below.refl _ _).drew),(fr_then HN2.out HZ2.out (Nat.le_of_lt N3)).trans (P3.Fr.of ((Below.refl _ _).drew)),fun j e=>by have e3:g=j:=Option.some.inj e;right;omega⟩
end Go.Proofs.YtjepgclnbbpnaaaGreat.P12
namespace Go.Proofs.YtjepgclnbbpnaaaGreat.P11
open Go Go.RowKit Go.Lib PK
def kNs:Kd where
 e:=3
 n:=1
 te:=42
 p:=0
 ok:=fun y=>∃ x:Int,y=[.int .i64 x]
 mark:=fun _ _=>[.int .i64 0]
 len:=by rintro _ ⟨x,rfl⟩;rfl
 one:=by
  rintro _ ⟨x,rfl⟩ u hu
  simp only[List.mem_cons,List.not_mem_nil,or_false] at hu
  rcases hu with rfl
  rfl
 mok:=fun _ _=>⟨_,rfl⟩
 pos:=by decide
theorem infoENs:(Tryz.prog.info? 3).map (fun i=>(i.zero,i.size,i.bytes))=some (some (Value.int .i64 0),1,8):=by kernel_rfl
def cellsN(l:List Int):List (List Value):=l.map fun x=>[.int .i64 x]
theorem cellsN_length(l:List Int):(cellsN l).length=l.length:=by simp[cellsN]
theorem cellsN_ok(l:List Int):Oks kNs (cellsN l):=fun x hx=>by
 obtain⟨y,_,rfl⟩:=List.mem_map.1 hx
 exact⟨y,rfl⟩
def NsIn(w:World)(v:Value)(l:List Int):Prop:=ElemsIn kNs w v (cellsN l)
theorem NsIn.slice{w:World}{v:Value}{l:List Int}(h:NsIn w v l):∃ a c,v=.slice a l.length c:=by
 obtain⟨a,c,h,_⟩:=h
 exact⟨a,c,by rw[cellsN_length] at h;exact h⟩
theorem NsIn.at_{w:World}{a:Option Addr}{n c:Nat}{l:List Int}(h:NsIn w (.slice a n c) l){i:Nat}{x:Int}(hi:l[i]?=some x) :
  ∃ b off,a=some ⟨b,off,none⟩∧∀ w',Below w.heap.size w w'→w'.cell? ⟨b,off+i,none⟩=some (.int .i64 x):=by
 obtain⟨a',c',e,_,_,_,hc⟩:=h
 simp only[Value.slice.injEq] at e
 obtain⟨rfl,_,_⟩:=e
 obtain⟨b,off,rfl,hb,hcc⟩:=hc (by rw[cellsN_length];have:=(List.getElem?_eq_some_iff.1 hi).1;omega)
 refine⟨b,off,rfl,fun w' hw=>?_⟩
 have h1:=(hw.cell (p:=⟨b,off+(i*1+0),none⟩) hb).trans (hcc i [.int .i64 x] (by simp[cellsN,hi]) 0 _ rfl)
 rwa[show off+(i*1+0)=off+i by omega] at h1
def OwnN(lo:Nat)(w:World)(v:Value)(l:List Int):Prop:=w.ownsRow lo 3 1 v l.length (cellsN l).flatten∧l.length≤1000000
theorem OwnN.ns{lo:Nat}{w:World}{v:Value}{l:List Int}(h:OwnN lo w v l):NsIn w v l:=by
 refine tRow_elems (κ:=kNs) (lo:=lo) ?_ (by rw[cellsN_length];have:=h.2;omega) (cellsN_ok l)
 show w.ownsRow lo 3 1 v (cellsN l).length (cellsN l).flatten
 rw[cellsN_length]
 exact h.1
end Go.Proofs.YtjepgclnbbpnaaaGreat.P11
namespace Go.Proofs.YtjepgclnbbpnaaaGreat.P12
open PK (qqA qqB qqC qqD qqE qqF tk tkS dOne qh)
open Go Go.RowKit Go.Lib PK
open P11 (Pg kPages infoEPages infoENs cellsP cellsP_length cellsP_ok cellsP_at cellsP_snoc PgsIn owns_pgs NsIn)
theorem PAt.setAt{w:World}{b:Nat}{vl vg:Value}{M:PM}(h:PAt w b vl vg M)(j:Nat)(u:Value):World.ownsRow (w.setCell ⟨b,j,none⟩ u) (b+1) 86 4 vl M.L.length (cellsP M.L).flatten∧World.ownsRow (w.setCell ⟨b,j,none⟩ u) (b+1) 3 1 vg M.given.length (cellsZ M.given)∧P3.Fr (·=b) w (w.setCell ⟨b,j,none⟩ u)∧(w.setCell ⟨b,j,none⟩ u).heap[b]?=some (.cells ((#[vl,.int .i64 M.fr,vg,.bool M.bad,.bool M.twice,.int .i64 (-1)]:Array Value).setIfInBounds j u) 44 (0,0)):=by
 refine⟨h.rl.kept (setCell_grownBy w b j u) ?_,h.rg.kept (setCell_grownBy w b j u) ?_,⟨rfl,rfl,rfl,by simp[World.setCell],fun i hi hn=>Below.heap_setCell _ _ _ _ hn⟩,set_at h.obj j u⟩
 ·cases e:vl.ownBlock with
  | none=>exact .inl rfl
  | some j=>exact .inr fun q=>by have:=(h.rl.lt j e).1;cases q;omega
 ·cases e:vg.ownBlock with
  | none=>exact .inl rfl
  | some j=>exact .inr fun q=>by have:=(h.rg.lt j e).1;cases q;omega
theorem PAt.setTwice{w:World}{b:Nat}{vl vg:Value}{M:PM}(h:PAt w b vl vg M)(t:Bool):PAt (w.setCell ⟨b,4,none⟩ (.bool t)) b vl vg { M with twice:=t }∧P3.Fr (·=b) w (w.setCell ⟨b,4,none⟩ (.bool t)):=by
 obtain⟨h1,h2,h3,h4⟩:=h.setAt 4 (.bool t)
 exact⟨⟨h4,h1,h2,h.ne⟩,h3⟩
def PM.mark(M:PM):PM:={ M with fr:=(M.L.length:Int)+2,given:=[] }
theorem PAt.marked{w:World}{b:Nat}{vl vg:Value}{M:PM}(h:PAt w b vl vg M):PAt ((w.setCell ⟨b,1,none⟩ (.int .i64 ((M.L.length:Int)+2))).setCell ⟨b,2,none⟩ (.slice none 0 0)) b vl (.slice none 0 0) M.mark∧P3.Fr (·=b) w ((w.setCell ⟨b,1,none⟩ (.int .i64 ((M.L.length:Int)+2))).setCell ⟨b,2,none⟩ (.slice none 0 0)):=by
 obtain⟨h1,h2,h3,h4⟩:=h.setAt 1 (.int .i64 ((M.L.length:Int)+2))
 have h':PAt (w.setCell ⟨b,1,none⟩ (.int .i64 ((M.L.length:Int)+2))) b vl vg { M with fr:=(M.L.length:Int)+2 }:=⟨h4,h1,h2,h.ne⟩
 obtain⟨k1,k2,k3,k4⟩:=h'.setAt 2 (.slice none 0 0)
 exact⟨⟨k4,k1,World.ownsRow_nil _ _ _ _,fun j _ e=>by cases e⟩,h3.trans k3⟩
theorem mark_any(w:World)(b:Nat)(vl vg:Value)(M:PM)(h:PAt w b vl vg M)(hl:M.L.length≤1000000) :
  Calls Tryz.prog 16 #[.pointer (some ⟨b,0,none⟩)] w fun e w'=>e=.returned (.tuple #[])∧PAt w' b vl (.slice none 0 0) M.mark∧P3.Fr (·=b) w w':=by
 obtain⟨c0,c1,c2,c3,c4,c5⟩:=h.cells
 have g1:=free_at h.obj 1
 have g2:=free_at h.obj 2
 obtain⟨m1,m2⟩:=h.marked
 have HM1:=qh m1
 have HM2:=qh m2
 have hset:∀ u,(w.setCell ⟨b,1,none⟩ u).cell? ⟨b,2,none⟩=some vg:=fun u=>by rw[cell_at (h.setAt 1 u).2.2.2];rfl
 have hfrz:∀ u,(w.setCell ⟨b,1,none⟩ u).frozen? ⟨b,2,none⟩=false:=fun u=>free_at (h.setAt 1 u).2.2.2 2
 obtain⟨a,c,rfl⟩:=h.slice
 generalize M.L.length=N at *
 have s1:=hset (.int .i64 ((N:Int)+2))
 have s2:=hfrz (.int .i64 ((N:Int)+2))
 clear h m1 m2 hset hfrz
 go_enter Tryz.func16,Tryz.ntmps16
 go_wp2
 go_end0
 exact⟨rfl,HM1.out,HM2.out⟩
def PM.free1(M:PM)(id:Int):PM:={ M with given:=M.given++[id],twice:=M.twice || M.given.any (· == id) }
def PM.free(M:PM)(ids:List Int):PM:=ids.foldl PM.free1 M
theorem PM.free_snoc(M:PM)(l:List Int)(id:Int):M.free (l++[id])=(M.free l).free1 id:=by unfold PM.free;rw[List.foldl_append];rfl
theorem PM.free_len(M:PM)(l:List Int):(M.free l).given=M.given++l:=by
 unfold PM.free
 induction l generalizing M with
 | nil=>simp
 | cons x l ih=>rw[List.foldl_cons,ih];simp[PM.free1]
theorem PM.free_L(M:PM)(l:List Int):(M.free l).L=M.L:=by
 unfold PM.free
 induction l generalizing M with
 | nil=>rfl
 | cons x l ih=>rw[List.foldl_cons,ih];rfl
theorem cellsZ_at{l:List Int}{k:Nat}{x:Int}(h:l[k]?=some x):(cellsZ l)[k]?=some (.int .i64 x):=by simp[cellsZ,h]
theorem PAt.gave{w W w3:World}{b:Nat}{vl vg vg':Value}{M:PM}{id:Int}(h:PAt w b vl vg M)(k:Below w.heap.size w W)(hown:w3.ownsRow (b+1) 3 1 vg' (M.given.length+1) (cellsZ M.given++[.int .i64 id]))
  (hg:W.grownBy w3 vg.ownBlock) (hat:vg'.ownBlock=vg.ownBlock∨vg'.ownBlock=some W.heap.size) :
  PAt (w3.setCell ⟨b,2,none⟩ vg') b vl vg' { M with given:=M.given++[id] }∧P3.Fr (PS b vl vg) w (w3.setCell ⟨b,2,none⟩ vg')∧(∀ j,vg'.ownBlock=some j→vg.ownBlock=some j∨w.heap.size≤j):=by
 have hW:=h.below k
 have hb:b < W.heap.size:=hW.lt
 have hnb:vg.ownBlock≠some b:=fun e=>by have:=(h.rg.lt b e).1;omega
 have hob:w3.heap[b]?=some (.cells #[vl,.int .i64 M.fr,vg,.bool M.bad,.bool M.twice,.int .i64 (-1)] 44 (0,0)):=(hg.block b hb (fun e=>hnb e.symm)).trans hW.obj
 have hnb':∀ j,vg'.ownBlock=some j→b+1≤j:=fun j e=>(hown.lt j e).1
 have hrl:w3.ownsRow (b+1) 86 4 vl M.L.length (cellsP M.L).flatten:=hW.rl.kept hg (by
  cases e:vl.ownBlock with
  | none=>exact .inl rfl
  | some j=>exact .inr fun q=>h.ne j e q.symm)
 have hdis:∀ j,vg'.ownBlock=some j→vg.ownBlock=some j∨w.heap.size≤j:=fun j e=>by
  rcases hat with q|q
  ·exact .inl (q ▸ e)
  ·rw[q] at e
   cases e
   exact .inr k.size
 refine⟨⟨?_,?_,?_,?_⟩,?_,hdis⟩
 ·rw[set_at hob 2 vg']
  rfl
 ·exact hrl.kept (setCell_grownBy w3 b 2 vg') (by
   cases e:vl.ownBlock with
   | none=>exact .inl rfl
   | some j=>exact .inr fun q=>by have:=(h.rl.lt j e).1;cases q;omega)
 ·have e1:cellsZ (M.given++[id])=cellsZ M.given++[.int .i64 id]:=by simp[cellsZ]
  rw[e1,List.length_append,List.length_singleton]
  exact hown.kept (setCell_grownBy w3 b 2 vg') (by
   cases e:vg'.ownBlock with
   | none=>exact .inl rfl
   | some j=>exact .inr fun q=>by have:=hnb' j e;cases q;omega)
 ·intro j e1 e2
  rcases hdis j e2 with q|q
  ·exact h.ne j e1 q
  ·have:=(h.rl.lt j e1).2
   omega
 ·refine⟨?_,?_,?_,?_,fun j hj hn=>?_⟩
  ·exact (hg.os.trans k.os)
  ·exact (hg.tape.trans k.tape)
  ·exact (hg.output.trans k.output)
  ·have h1:=hg.size
   have h2:=k.size
   simp[World.setCell]
   omega
  ·have hjb:j≠b:=fun e=>hn (.inl e)
   rw[Below.heap_setCell _ _ _ _ hjb,hg.block j (Nat.lt_of_lt_of_le hj k.size) (fun e=>hn (.inr (.inr e.symm)))]
   exact k.block j hj
end Go.Proofs.YtjepgclnbbpnaaaGreat.P12
namespace Go.Proofs.YtjepgclnbbpnaaaGreat.P12
open Go Go.RowKit Go.Lib PK
open P11 (Pg)
def PM.push(M:PM)(p:Pg):PM:={ M with L:=M.L++[⟨p.k,(M.L.length:Int)+2,p.tx,p.body⟩] }
def PM.next(M:PM):Int:=(M.L.length:Int)+2
def PM.put(M:PM)(k:Nat)(p:Pg):PM:={ M with L:=M.L.set k p }
theorem PM.get_eq{M M':PM}{j:Int}(h:2≤j→M'.L[(j - 2).toNat]?=M.L[(j - 2).toNat]?):M'.get j=M.get j:=by
 unfold PM.get
 by_cases h2:2≤j
 ·have e:=h h2
  by_cases c:j - 2 < M.L.length
  ·have:(j - 2).toNat < M'.L.length:=by
    rw[List.getElem?_eq_getElem (show (j - 2).toNat < M.L.length by omega)] at e
    exact (List.getElem?_eq_some_iff.1 e).1
   rw[if_pos (show 2≤j∧j - 2 < (M'.L.length:Int) from⟨h2,by omega⟩),if_pos (show 2≤j∧j - 2 < (M.L.length:Int) from⟨h2,c⟩),e]
  ·have:¬ j - 2 < M'.L.length:=fun c2=>by
    rw[List.getElem?_eq_getElem (show (j - 2).toNat < M'.L.length by omega),List.getElem?_eq_none (by omega)] at e
    cases e
   rw[if_neg (fun x=>this x.2),if_neg (fun x=>c x.2)]
 ·rw[if_neg (show ¬ (2≤j∧j - 2 < (M'.L.length:Int)) from fun x=>h2 x.1),if_neg (show ¬ (2≤j∧j - 2 < (M.L.length:Int)) from fun x=>h2 x.1)]
theorem PM.push_old{M:PM}{p:Pg}{j:Int}(h:j < M.next):(M.push p).get j=M.get j:=by
 unfold PM.next at h
 exact PM.get_eq fun h2=>by
  show (M.L++_)[(j - 2).toNat]?=_
  rw[List.getElem?_append_left (by omega)]
theorem PM.push_new(M:PM)(p:Pg):(M.push p).get M.next=(⟨p.k,M.next,p.tx,p.body⟩,0):=by
 refine PM.get_at (M:=M.push p) (k:=M.L.length) ?_
 show (M.L++_)[M.L.length]?=_
 rw[List.getElem?_append_right (Nat.le_refl _),Nat.sub_self]
 rfl
theorem PM.put_other{M:PM}{p:Pg}{k:Nat}{j:Int}(h:j≠(k:Int)+2):(M.put k p).get j=M.get j:=PM.get_eq fun h2=>by
 show (M.L.set k p)[(j - 2).toNat]?=_
 rw[List.getElem?_set_ne (by omega)]
theorem PM.put_self{M:PM}{p:Pg}{k:Nat}(h:k < M.L.length):(M.put k p).get ((k:Int)+2)=(p,0):=by
 refine PM.get_at (M:=M.put k p) (k:=k) ?_
 show (M.L.set k p)[k]?=_
 rw[List.getElem?_set_self h]
theorem PM.free_get(M:PM)(l:List Int)(j:Int):(M.free l).get j=M.get j:=PM.get_eq fun _=>by rw[PM.free_L]
theorem PM.mark_get(M:PM)(j:Int):M.mark.get j=M.get j:=PM.get_eq fun _=>rfl
structure Pool (M:PM) (ids P:List Int):Prop where
 perm:(M.given++ids).Perm P
 nodup:P.Nodup
 rng:∀ j∈P,2≤j∧j < M.next
 twice:M.twice=false
 bad:M.bad=false
 fr:2≤M.fr
theorem Pool.ids_nodup{M:PM}{ids P:List Int}(h:Pool M ids P):ids.Nodup:=(List.nodup_append.1 (h.perm.nodup_iff.2 h.nodup)).2.1
theorem Pool.not_given{M:PM}{ids P:List Int}(h:Pool M ids P){j:Int}(hj:j∈ids):j∉M.given:=fun k=>(List.nodup_append.1 (h.perm.nodup_iff.2 h.nodup)).2.2 j k j hj rfl
theorem Pool.ids_rng{M:PM}{ids P:List Int}(h:Pool M ids P){j:Int}(hj:j∈ids):2≤j∧j < M.next:=h.rng j (h.perm.mem_iff.1 (List.mem_append_right _ hj))
theorem Pool.mark{M:PM}{ids P:List Int}(h:Pool M ids P):Pool M.mark ids ids:=
 { h with perm:=List.Perm.refl _,nodup:=h.ids_nodup,rng:=fun _ hj=>h.ids_rng hj,fr:=by show 2≤(M.L.length:Int)+2;omega }
end Go.Proofs.YtjepgclnbbpnaaaGreat.P12
namespace Go.Proofs.YtjepgclnbbpnaaaGreat.P12
open Go Go.RowKit Go.Lib PK
abbrev pgv(b:Nat):Value:=.iface 25 (.pointer (some ⟨b,0,none⟩))
theorem nGet (a : Addr) (w : World) : (nilAhead 322 25 (.pointer (some a)) "Get").run Tryz.prog w = .ok (some false) w := by kernel_rfl
theorem nNew (a : Addr) (w : World) : (nilAhead 322 25 (.pointer (some a)) "New").run Tryz.prog w = .ok (some false) w := by kernel_rfl
theorem nSet (a : Addr) (w : World) : (nilAhead 322 25 (.pointer (some a)) "Set").run Tryz.prog w = .ok (some false) w := by kernel_rfl
theorem nMine (a : Addr) (w : World) : (nilAhead 322 25 (.pointer (some a)) "Mine").run Tryz.prog w = .ok (some false) w := by kernel_rfl
theorem nFree (a : Addr) (w : World) : (nilAhead 322 25 (.pointer (some a)) "Free").run Tryz.prog w = .ok (some false) w := by kernel_rfl
theorem mGet (a : Addr) (w : World) : (method 322 25 (.pointer (some a)) "Get").run Tryz.prog w = .ok (180, .pointer (some a)) w := by kernel_rfl
theorem mNew (a : Addr) (w : World) : (method 322 25 (.pointer (some a)) "New").run Tryz.prog w = .ok (181, .pointer (some a)) w := by kernel_rfl
theorem mSet (a : Addr) (w : World) : (method 322 25 (.pointer (some a)) "Set").run Tryz.prog w = .ok (182, .pointer (some a)) w := by kernel_rfl
theorem mMine (a : Addr) (w : World) : (method 322 25 (.pointer (some a)) "Mine").run Tryz.prog w = .ok (23, .pointer (some a)) w := by kernel_rfl
theorem mFree (a : Addr) (w : World) : (method 322 25 (.pointer (some a)) "Free").run Tryz.prog w = .ok (179, .pointer (some a)) w := by kernel_rfl
end Go.Proofs.YtjepgclnbbpnaaaGreat.P12
namespace Go.Proofs.YtjepgclnbbpnaaaGreat.P9
open PK (qqA qqB qqC qqD qqE qqF tk tkS dOne qh)
open Go Go.RowKit Go.Lib PK
theorem findC_any(w:World)(x:It)(k:ByteArray):Calls Tryz.prog 78 #[x.v,.string k] w fun e w'=>e=.returned (.int .i64 (cmpK x.key k))∧Below w.heap.size w w':=by
 have HC:=qh (fun W=>Tryz.strings_Compare x.key k W)
 rw[cmpK_eq] at HC
 obtain⟨key,val,kind⟩:=x
 simp only at HC ⊢
 unfold It.v
 simp only
 generalize cmpK key k=c at *
 go_enter Tryz.func78,Tryz.ntmps78
 go_wp2_with (go_at_call 79;(with_reducible refine (HC.out _).mono ?_);rintro e w2 ⟨rfl,rfl⟩)
 go_ret
 exact⟨rfl,below_new w _⟩
theorem search_any(w:World)(v:Value)(l:List It)(k:ByteArray)(h:ItsIn w v l)(hn:l.length≤1000000)(hr:RightI l) :
  Calls Tryz.prog 77 #[v,.string k,.func (.func 78) #[] #[]] w fun e w'=>e=.returned (.tuple #[.int .i64 (lowK l k:Nat),.bool (hasK l k)])∧Below w.heap.size w w':=by
 obtain⟨a,c,rfl⟩:=h.slice
 have HA:=qh (fun (i:Nat) (x:It) (hi:l[i]?=some x)=>h.at_ hi)
 obtain⟨N,hN⟩:∃ N,N=l.length:=⟨_,rfl⟩
 have HG:=qh (fun W x=>findC_any W x k)
 have HN:=qh hN
 have HR:=qh hr
 have hlen:N≤1000000:=by omega
 rw[← hN]
 clear h hN hn hr
 go_enter Tryz.func77,Tryz.ntmps77
 go_wp2
 go_loopw [9,10] (fun vl vh wr=>∃ lo hi:Nat,vl=.int .i64 lo∧vh=.int .i64 hi∧lo≤hi∧hi≤N∧Hid (∀ (j:Nat) (y:It),j < lo→l[j]?=some y→kb y.key k=true)∧Hid (∀ (j:Nat) (y:It),hi≤j→l[j]?=some y→kb y.key k=false)∧Hid (Below w.heap.size w wr)) (fun vl vh _=>(RowKit.intOf vh - RowKit.intOf vl).toNat)
 case atStart=>exact⟨0,N,rfl,rfl,Nat.zero_le _,Nat.le_refl _,fun j y hj=>absurd hj (Nat.not_lt_zero _),fun j y hj hy=>(by have:=(List.getElem?_eq_some_iff.1 hy).1;rw[← HN.out] at this;omega),Below.refl _ _⟩
 case round=>
  obtain⟨lo,hi,rfl,rfl,hlh,hhn,HL,HH,HB⟩:=hrel
  by_cases hlt:lo < hi
  ·obtain⟨x,hx⟩:∃ s,l[(lo+hi) / 2]?=some s:=⟨_,List.getElem?_eq_getElem (by have:=HN.out;omega)⟩
   obtain⟨b,off,rfl,hc⟩:=HA.out _ x hx
   obtain⟨c0,c1,c2⟩:=hc wr HB.out
   have HX:=qh hx
   have hlt2:(lo:Int) < (hi:Int):=by omega
   have hm:(((lo:Int)+(hi:Int)) / 2) < (N:Int):=by omega
   have hm0:0≤(((lo:Int)+(hi:Int)) / 2):=by omega
   have HK:Hid (∀ W,Calls Tryz.prog 78 #[.agg #[.string x.key,.string x.val,.int .i64 x.kind],.string k] W fun e w'=>e=.returned (.int .i64 (cmpK x.key k))∧Below W.heap.size W w'):=fun W=>HG.out W x
   have hcn:=cmpK_neg x.key k
   clear hx hc
   generalize cmpK x.key k=cc at *
   cases hq:kb x.key k with
   | true=>
    rw[hq] at hcn
    have HQ:=qh hq
    clear hq
    go_wp2_with (go_at_call 78;(with_reducible refine (HK.out _).mono ?_);rintro e w2 ⟨rfl,hb⟩)
    go_roundw
    case rel=>
     refine⟨(lo+hi) / 2+1,hi,by rw[show ((lo:Int)+(hi:Int)) / 2+1=(((lo+hi) / 2+1:Nat):Int) by omega],rfl,by omega,hhn,fun j y hj hy=>?_,HH,thenBelow HB.out hb⟩
     by_cases q:j < lo
     ·exact HL.out j y q hy
     ·by_cases q2:j=(lo+hi) / 2
      ·subst q2
       rw[HX.out] at hy
       obtain rfl:=Option.some.inj hy
       exact HQ.out
      ·exact kb_trans (rise_at HR.out hy HX.out (by omega)) HQ.out
    case measure=>simp[RowKit.intOf];omega
   | false=>
    rw[hq] at hcn
    have HQ:=qh hq
    clear hq
    go_wp2_with (go_at_call 78;(with_reducible refine (HK.out _).mono ?_);rintro e w2 ⟨rfl,hb⟩)
    go_roundw
    case rel=>
     refine⟨lo,(lo+hi) / 2,rfl,by rw[show ((lo:Int)+(hi:Int)) / 2=(((lo+hi) / 2:Nat):Int) by omega],by omega,by omega,HL,fun j y hj hy=>?_,thenBelow HB.out hb⟩
     rcases Nat.lt_or_eq_of_le hj with q|q
     ·have h9:=rise_at HR.out HX.out hy q
      cases h8:kb y.key k
      ·rfl
      ·have h7:=HQ.out
       rw[kb_trans h9 h8] at h7
       cases h7
     ·subst q
      rw[HX.out] at hy
      obtain rfl:=Option.some.inj hy
      exact HQ.out
    case measure=>simp[RowKit.intOf];omega
  ·obtain rfl:lo=hi:=by omega
   have hlow:lowK l k=lo:=lowK_eq (fun j y hj hy=>HL.out j y hj hy) (by have:=HN.out;omega) (fun y hy=>HH.out lo y (Nat.le_refl _) hy)
   have HW:=qh hlow
   have hlt2:decide ((lo:Int) < (lo:Int))=false:=decide_eq_false (by omega)
   by_cases hq:lo < N
   ·obtain⟨x,hx⟩:∃ s,l[lo]?=some s:=⟨_,List.getElem?_eq_getElem (by have:=HN.out;omega)⟩
    obtain⟨b,off,rfl,hc⟩:=HA.out _ x hx
    obtain⟨c0,c1,c2⟩:=hc wr HB.out
    have hq2:(lo:Int) < (N:Int):=by omega
    have hmem:Hid ((cmpK x.key k == 0)=hasK l k):=by
     show _=_
     cases hh:hasK l k
     ·cases hz:(cmpK x.key k == 0)
      ·rfl
      ·rw[hasK_not] at hh
       exact absurd (mem_of_low (by rw[hlow];exact hx) ((cmpK_zero _ _).1 hz)) hh
     ·obtain⟨z,hz,hzk⟩:=lowK_hit HR.out (hasK_iff.1 hh)
      rw[hlow,hx] at hz
      obtain rfl:=Option.some.inj hz
      exact (cmpK_zero _ _).2 hzk
    have HK:Hid (∀ W,Calls Tryz.prog 78 #[.agg #[.string x.key,.string x.val,.int .i64 x.kind],.string k] W fun e w'=>e=.returned (.int .i64 (cmpK x.key k))∧Below W.heap.size W w'):=fun W=>HG.out W x
    clear hx hc hlow
    generalize cmpK x.key k=cc at *
    go_wp2_with (go_at_call 78;(with_reducible refine (HK.out _).mono ?_);rintro e w2 ⟨rfl,hb⟩)
    go_ret2
    exact⟨by rw[HW.out,hmem.out];rfl,thenBelow HB.out hb⟩
   ·have hq2:decide ((lo:Int) < (N:Int))=false:=decide_eq_false (by omega)
    have hnm:Hid (hasK l k=false):=by
     show _=_
     rw[hasK_not]
     intro hm
     obtain⟨z,hz,_⟩:=lowK_hit HR.out hm
     have:=(List.getElem?_eq_some_iff.1 hz).1
     rw[hlow,← HN.out] at this
     omega
    obtain rfl:lo=N:=by omega
    clear hq hq2 hlow
    go_wp2
    go_ret2
    exact⟨by rw[HW.out,hnm.out];rfl,HB.out⟩
theorem find_any(w:World)(v:Value)(l:List It)(k:ByteArray)(h:ItsIn w v l)(hn:l.length≤1000000)(hr:RightI l) :
  Calls Tryz.prog 66 #[v,.string k] w fun e w'=>e=.returned (.tuple #[.int .i64 (lowK l k:Nat),.bool (hasK l k)])∧Below w.heap.size w w':=by
 have HS:=qh (search_any w v l k h hn hr)
 generalize lowK l k=n at *
 generalize hasK l k=d at *
 clear h hn hr
 go_enter Tryz.func66,Tryz.ntmps66
 go_wp2_with (go_at_call 77;(with_reducible refine (HS.out).mono ?_);rintro e w2 ⟨rfl,hb⟩;have HB:=qh hb;clear hb)
 go_ret2
 exact⟨rfl,HB.out⟩
end Go.Proofs.YtjepgclnbbpnaaaGreat.P9
