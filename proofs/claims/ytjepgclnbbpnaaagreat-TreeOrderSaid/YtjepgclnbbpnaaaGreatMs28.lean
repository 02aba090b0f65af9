/-
  Texts of the proofs of SaidOrd12.
-/
import Derived.Test.YtjepgclnbbpnaaaGreatMs27
set_option linter.unusedVariables false
set_option linter.unusedSimpArgs false
set_option maxHeartbeats 8000000
set_option maxRecDepth 100000
namespace Go.Proofs.YtjepgclnbbpnaaaGreat.P12
open PK (qqA qqB qqC qqD qqE qqF tk tkS dOne qh)
open Go Go.RowKit Go.Lib PK
open P11 (Pg cellsP PgsIn)
structure Wait (P:Prop):Prop where
 out:P
theorem wait_cut{Q:Prop}(h:{ P:Prop // Wait P→Q })(k:h.1):Q:=h.2 ⟨k⟩
theorem below6{lo:Nat}{a w:World}(h:Below lo a w){b:Nat}(hb:lo≤b)(u0 u1 u2 u3 u4 u5:Value):Below lo a ((((((w.setCell ⟨b,0,none⟩ u0).setCell ⟨b,1,none⟩ u1).setCell ⟨b,2,none⟩ u2).setCell ⟨b,3,none⟩ u3).setCell ⟨b,4,none⟩ u4).setCell ⟨b,5,none⟩ u5):=
 (((((h.setCell (p:=⟨b,0,none⟩) hb u0).setCell (p:=⟨b,1,none⟩) hb u1).setCell (p:=⟨b,2,none⟩) hb u2).setCell (p:=⟨b,3,none⟩) hb u3).setCell (p:=⟨b,4,none⟩) hb u4).setCell (p:=⟨b,5,none⟩) hb u5
def GOut(G:Cg)(l:List P10.It)(B:Nat)(pg:Pg)(nd j:Nd)(olds:List Pg)(at_:Nat):Prop:=
 (j=nd∧olds=[pg]∧at_=B∧(nd.len=0∨nd.least≤nd.len))∨
 (∃ q qk nd' tx,0 < nd.len∧at_+1=B∧l[at_]?=some q∧l[B]?=some qk∧Nb G q.page nd' tx∧nd'.kind=nd.kind∧j=nd'.join nd qk.key∧olds=[⟨nd'.kind,q.page,tx,nd'.body⟩,pg])∨
 (∃ q nd' tx,0 < nd.len∧at_=B∧l[B+1]?=some q∧Nb G q.page nd' tx∧nd'.kind=nd.kind∧j=nd.join nd' q.key∧olds=[pg,⟨nd'.kind,q.page,tx,nd'.body⟩])
def SeenBy(l:List P10.It)(sn':List Int)(o a b:Nat):Prop:=sn'.length≤2∧(∀ x∈sn',∃ (k:Nat) (q:P10.It),l[k]?=some q∧x=q.page)∧(o≤1∨a < b)
theorem SeenBy.nil(l:List P10.It)(a b:Nat):SeenBy l [] 1 a b:=⟨Nat.zero_le _,fun _ h=>(by cases h),.inl (Nat.le_refl _)⟩
def group_cut:{ P:Prop // Wait P→∀ (w:World) (G:Cg) (here above:Sp) (nd:Nd) (vi vk:Value) (l:List P10.It) (B:Nat) (h:CAt w G) (hl:G.M.L.length≤100000) (hn:NdT w none vi vk nd) (hh:NdT w none here.vi here.vk here.nd) (ha:above.nd=.tw l) (hal:NdT w none above.vi above.vk above.nd)
  (hat:above.at_=(B:Int)) (hB:B < l.length) (hll:2≤l.length∧l.length≤1000) (hlen:nd.len≤1000∧nd.sum≤100000∧here.nd.len≤1000) (hsn:G.sn.length≤90000) (hq1:here.nd.len≤nd.len→nd.least≤nd.len) (hq2:232 < 2*(1+nd.sum)→nd.least≤nd.len)
  (HNx:∀ i q,(i+1=B∨i=B+1)→l[i]?=some q→∃ nd' tx,Nb G q.page nd' tx∧nd'.kind=nd.kind)
  (hdist:∀ (i j:Nat) (q r:P10.It),i≠j→l[i]?=some q→l[j]?=some r→q.page≠r.page) (hks:∀ (i:Nat) (q:P10.It),l[i]?=some q→q.key.size≤1000),
  Calls Tryz.prog 84 #[.pointer (some ⟨G.c,0,none⟩),nd.v vi vk,here.v,above.v] w fun e w'=>∃ j ji jk vo olds at_ d sn',e=.returned (.tuple #[Grv j ji jk vo (at_:Nat) d,.int .i64 0])∧SeenBy l sn' olds.length nd.len here.nd.len∧
   GOut G l B here.pg nd j olds at_∧Grp w w' G { G with sn:=G.sn++sn' } j ji jk vo olds }:=by
 refine⟨?PZ,fun hAll w G here above nd vi vk l B h hl hn hh ha hal hat hB hll hlen hsn hq1 hq2 HNx hdist hks=>?body⟩
 case body=>
  have HAe:=qh (fun W (g:NdT W none here.vi here.vk here.nd)=>atEnd_any W none here g (by omega))
  obtain⟨a1,n1,c1,a2,n2,c2,rfl,rfl,_⟩:=hn.lens
  obtain⟨⟨hk0,hid,htx,hbody⟩,hnd,hvi,hvk,hat0⟩:=here
  obtain⟨⟨ak0,aid,atx,abody⟩,and_,avi,avk,aat⟩:=above
  simp only at ha hal hat hh HAe hq1
  subst ha hat
  obtain⟨rfl,hkd⟩:=hal
  obtain⟨b1,m1,d1,b2,m2,d2,rfl,rfl,_⟩:=hh.lens
  obtain⟨ba,ca,rfl⟩:=hkd.its.slice
  obtain⟨q,hq⟩:∃ q,l[B]?=some q:=⟨_,List.getElem?_eq_getElem hB⟩
  obtain⟨kb,koff,rfl,_⟩:=hkd.its.at_ hq
  obtain⟨K,hK⟩:∃ K,K=nd.kind:=⟨_,rfl⟩
  obtain⟨K2,hK2⟩:∃ K,K=hnd.kind:=⟨_,rfl⟩
  obtain⟨ae,hae⟩:∃ b,b=(Sp.mk ⟨hk0,hid,htx,hbody⟩ hnd (.slice b1 m1 d1) (.slice b2 m2 d2) hat0).atEnd:=⟨_,rfl⟩
  unfold Sp.v at HAe
  rw[← hae] at HAe
  simp only at HAe
  rw[← hK2] at HAe
  unfold Sp.v Nd.v
  simp only[show (Nd.tw l).kind=4 from rfl]
  rw[← hK,← hK2]
  obtain⟨X,hX⟩:∃ X,X=(((w.alloc (.cells #[.int .i64 K,.slice a1 n1 c1,.slice a2 n2 c2] 80)).alloc (.cells #[.int .i64 hk0,.int .i64 hid,.int .i64 htx,.string hbody,.int .i64 K2,.slice b1 m1 d1,.slice b2 m2 d2,.int .i64 hat0] 88)).alloc (.cells #[.int .i64 ak0,.int .i64 aid,.int .i64 atx,.string abody,.int .i64 4,.slice none 0 0,.slice (some ⟨kb,koff,none⟩) l.length ca,.int .i64 (B:Int)] 88)).alloc (.cells #[.int .i64 0,.slice none 0 0,.slice none 0 0,.slice none 0 0,.int .i64 0,.bool false] 127):=⟨_,rfl⟩
  have hR:=four_new w #[.int .i64 K,.slice a1 n1 c1,.slice a2 n2 c2] #[.int .i64 hk0,.int .i64 hid,.int .i64 htx,.string hbody,.int .i64 K2,.slice b1 m1 d1,.slice b2 m2 d2,.int .i64 hat0] #[.int .i64 ak0,.int .i64 aid,.int .i64 atx,.string abody,.int .i64 4,.slice none 0 0,.slice (some ⟨kb,koff,none⟩) l.length ca,.int .i64 (B:Int)] #[.int .i64 0,.slice none 0 0,.slice none 0 0,.slice none 0 0,.int .i64 0,.bool false] 80 88 88 127
  rw[← hX] at hR
  have hbX:Below w.heap.size w X:=by rw[hX];exact grow (grow (grow (below_new _ _) _) _) _
  have HR:=qh hR
  have wX:=Went.below h hbX
  have HWX:=qh wX
  have HNd:=qh (hn.keep wX.ft)
  have HHd:=qh (hh.keep wX.ft)
  have HKd:=qh (hkd.keep wX.ft)
  obtain⟨N,hN⟩:∃ n,n=l.length:=⟨_,rfl⟩
  rw[← hN] at hX HR HKd hll hB ⊢
  have HN:=qh hN
  have HX:=qh (Below.refl X.heap.size X)
  have HA:Hid (∀ W,Below X.heap.size X W→Calls Tryz.prog 88 #[.agg #[.int .i64 hk0,.int .i64 hid,.int .i64 htx,.string hbody,.int .i64 K2,.slice b1 m1 d1,.slice b2 m2 d2,.int .i64 hat0]] W fun e w'=>e=.returned (.bool ae)∧Below X.heap.size X w'∧Below W.heap.size W w'):=fun W b=>(HAe.out W (HHd.out.keep (FrT.of b))).mono fun e w' ⟨g1,g2⟩=>⟨g1,thenBelow b g2,g2⟩
  have HSF:Hid (∀ W,Below X.heap.size X W→W.cell? ⟨w.heap.size,0,none⟩=some (.int .i64 K)∧W.cell? ⟨w.heap.size,1,none⟩=some (.slice a1 n1 c1)∧W.cell? ⟨w.heap.size,2,none⟩=some (.slice a2 n2 c2)∧W.cell? ⟨w.heap.size+1,0,none⟩=some (.int .i64 hk0)∧W.cell? ⟨w.heap.size+1,1,none⟩=some (.int .i64 hid)∧W.cell? ⟨w.heap.size+1,2,none⟩=some (.int .i64 htx)∧W.cell? ⟨w.heap.size+1,3,none⟩=some (.string hbody)∧W.cell? ⟨w.heap.size+1,4,none⟩=some (.int .i64 K2)∧W.cell? ⟨w.heap.size+1,5,none⟩=some (.slice b1 m1 d1)∧W.cell? ⟨w.heap.size+1,6,none⟩=some (.slice b2 m2 d2)∧W.cell? ⟨w.heap.size+1,7,none⟩=some (.int .i64 hat0)∧W.cell? ⟨w.heap.size+2,7,none⟩=some (.int .i64 (B:Nat))):=fun W b=>by
   obtain⟨r0,r1,r2,_⟩:=HR.out W b
   exact⟨cell_at r0 0,cell_at r0 1,cell_at r0 2,cell_at r1 0,cell_at r1 1,cell_at r1 2,cell_at r1 3,cell_at r1 4,cell_at r1 5,cell_at r1 6,cell_at r1 7,cell_at r2 7⟩
  have HH:=qh h
  have HKe:=qh hK
  have HK2e:=qh hK2
  have HAeq:=qh hae
  have HNX:=qh HNx
  have HDi:=qh hdist
  have HKs:=qh hks
  have HQ:=qh hq
  have HBl:=qh hB
  have HQ1:=qh hq1
  have HQ2:=qh hq2
  have HLen:=qh hlen
  clear hR hbX wX h hn hkd hh hq hN hae hK hK2 HNx hdist hks hB hq1 hq2 hlen
  go_enter Tryz.func84,Tryz.ntmps84
  go_upto_region 1 with fail
  rw[← hX]
  clear hX
  have HP1:=qh (below_new X (.cells #[.int .i64 hk0,.int .i64 hid,.int .i64 htx,.string hbody] 86))
  have HG1:=qh (below_new X (.cells #[.int .i64 0,.slice none 0 0,.slice none 0 0,.slice none 0 0,.int .i64 0,.bool false] 127))
  have zg1:(X.alloc (.cells #[.int .i64 0,.slice none 0 0,.slice none 0 0,.slice none 0 0,.int .i64 0,.bool false] 127)).heap[X.heap.size]?=some (.cells #[.int .i64 0,.slice none 0 0,.slice none 0 0,.slice none 0 0,.int .i64 0,.bool false] 127 (0,0)):=new_at X _ _
  have zg2:((X.alloc (.cells #[.int .i64 0,.slice none 0 0,.slice none 0 0,.slice none 0 0,.int .i64 0,.bool false] 127)).alloc (.cells #[.int .i64 hk0,.int .i64 hid,.int .i64 htx,.string hbody] 86)).heap[X.heap.size]?=some (.cells #[.int .i64 0,.slice none 0 0,.slice none 0 0,.slice none 0 0,.int .i64 0,.bool false] 127 (0,0)):=P3.old_alloc zg1 (.cells #[.int .i64 hk0,.int .i64 hid,.int .i64 htx,.string hbody] 86)
  have zg3:((X.alloc (.cells #[.int .i64 hk0,.int .i64 hid,.int .i64 htx,.string hbody] 86)).alloc (.cells #[.int .i64 0,.slice none 0 0,.slice none 0 0,.slice none 0 0,.int .i64 0,.bool false] 127)).heap[X.heap.size+1]?=some (.cells #[.int .i64 0,.slice none 0 0,.slice none 0 0,.slice none 0 0,.int .i64 0,.bool false] 127 (0,0)):=by
   have h9:=new_at (X.alloc (.cells #[.int .i64 hk0,.int .i64 hid,.int .i64 htx,.string hbody] 86)) #[.int .i64 0,.slice none 0 0,.slice none 0 0,.slice none 0 0,.int .i64 0,.bool false] 127
   simpa only [World.size_alloc] using h9
  have ZG1:=qh zg1
  have ZG2:=qh zg2
  have ZG3:=qh zg3
  have ZG1d:Hid ((X.alloc (.cells #[.int .i64 0,.slice none 0 0,.slice none 0 0,.slice none 0 0,.int .i64 0,.bool false] 127)).drew.heap[X.heap.size]?=some (.cells #[.int .i64 0,.slice none 0 0,.slice none 0 0,.slice none 0 0,.int .i64 0,.bool false] 127 (0,0))):=zg1
  have ZG2d:Hid (((X.alloc (.cells #[.int .i64 0,.slice none 0 0,.slice none 0 0,.slice none 0 0,.int .i64 0,.bool false] 127)).alloc (.cells #[.int .i64 hk0,.int .i64 hid,.int .i64 htx,.string hbody] 86)).drew.heap[X.heap.size]?=some (.cells #[.int .i64 0,.slice none 0 0,.slice none 0 0,.slice none 0 0,.int .i64 0,.bool false] 127 (0,0))):=zg2
  have ZG3d:Hid (((X.alloc (.cells #[.int .i64 hk0,.int .i64 hid,.int .i64 htx,.string hbody] 86)).alloc (.cells #[.int .i64 0,.slice none 0 0,.slice none 0 0,.slice none 0 0,.int .i64 0,.bool false] 127)).drew.heap[X.heap.size+1]?=some (.cells #[.int .i64 0,.slice none 0 0,.slice none 0 0,.slice none 0 0,.int .i64 0,.bool false] 127 (0,0))):=zg3
  clear zg1 zg2 zg3
  have zp1:(X.alloc (.cells #[.int .i64 hk0,.int .i64 hid,.int .i64 htx,.string hbody] 86)).heap[X.heap.size]?=some (.cells #[.int .i64 hk0,.int .i64 hid,.int .i64 htx,.string hbody] 86 (0,0)):=new_at X _ _
  have zp2:((X.alloc (.cells #[.int .i64 hk0,.int .i64 hid,.int .i64 htx,.string hbody] 86)).alloc (.cells #[.int .i64 0,.slice none 0 0,.slice none 0 0,.slice none 0 0,.int .i64 0,.bool false] 127)).heap[X.heap.size]?=some (.cells #[.int .i64 hk0,.int .i64 hid,.int .i64 htx,.string hbody] 86 (0,0)):=P3.old_alloc zp1 (.cells #[.int .i64 0,.slice none 0 0,.slice none 0 0,.slice none 0 0,.int .i64 0,.bool false] 127)
  have zp3:((X.alloc (.cells #[.int .i64 0,.slice none 0 0,.slice none 0 0,.slice none 0 0,.int .i64 0,.bool false] 127)).alloc (.cells #[.int .i64 hk0,.int .i64 hid,.int .i64 htx,.string hbody] 86)).heap[X.heap.size+1]?=some (.cells #[.int .i64 hk0,.int .i64 hid,.int .i64 htx,.string hbody] 86 (0,0)):=by
   have h9:=new_at (X.alloc (.cells #[.int .i64 0,.slice none 0 0,.slice none 0 0,.slice none 0 0,.int .i64 0,.bool false] 127)) #[.int .i64 hk0,.int .i64 hid,.int .i64 htx,.string hbody] 86
   simpa only [World.size_alloc] using h9
  have ZP1:=qh zp1
  have ZP2:=qh zp2
  have ZP3:=qh zp3
  have ZP1d:Hid ((X.alloc (.cells #[.int .i64 hk0,.int .i64 hid,.int .i64 htx,.string hbody] 86)).drew.heap[X.heap.size]?=some (.cells #[.int .i64 hk0,.int .i64 hid,.int .i64 htx,.string hbody] 86 (0,0))):=zp1
  have ZP2d:Hid (((X.alloc (.cells #[.int .i64 hk0,.int .i64 hid,.int .i64 htx,.string hbody] 86)).alloc (.cells #[.int .i64 0,.slice none 0 0,.slice none 0 0,.slice none 0 0,.int .i64 0,.bool false] 127)).drew.heap[X.heap.size]?=some (.cells #[.int .i64 hk0,.int .i64 hid,.int .i64 htx,.string hbody] 86 (0,0))):=zp2
  have ZP3d:Hid (((X.alloc (.cells #[.int .i64 0,.slice none 0 0,.slice none 0 0,.slice none 0 0,.int .i64 0,.bool false] 127)).alloc (.cells #[.int .i64 hk0,.int .i64 hid,.int .i64 htx,.string hbody] 86)).drew.heap[X.heap.size+1]?=some (.cells #[.int .i64 hk0,.int .i64 hid,.int .i64 htx,.string hbody] 86 (0,0))):=zp3
  clear zp1 zp2 zp3
  refine wait_cut ⟨?PX,fun hGiven=>?main⟩ ?rest
  case main=>
   go_region_held3 (fun W=>W.cell? ⟨w.heap.size,0,none⟩=some (.int .i64 K)∧W.cell? ⟨w.heap.size,1,none⟩=some (.slice a1 n1 c1)∧W.cell? ⟨w.heap.size,2,none⟩=some (.slice a2 n2 c2)∧W.cell? ⟨w.heap.size+1,0,none⟩=some (.int .i64 hk0)∧W.cell? ⟨w.heap.size+1,1,none⟩=some (.int .i64 hid)∧W.cell? ⟨w.heap.size+1,2,none⟩=some (.int .i64 htx)∧W.cell? ⟨w.heap.size+1,3,none⟩=some (.string hbody)∧W.cell? ⟨w.heap.size+1,4,none⟩=some (.int .i64 K2)∧W.cell? ⟨w.heap.size+1,5,none⟩=some (.slice b1 m1 d1)∧W.cell? ⟨w.heap.size+1,6,none⟩=some (.slice b2 m2 d2)∧W.cell? ⟨w.heap.size+1,7,none⟩=some (.int .i64 hat0)∧W.cell? ⟨w.heap.size+2,7,none⟩=some (.int .i64 (B:Nat))) (first|((with_reducible refine HSF.out _ ?_);(repeat (first|(with_reducible exact HX.out)|(with_reducible exact HY1.out)|(with_reducible refine grow ?_ _)|(with_reducible refine Below.drew ?_)|(with_reducible refine Below.setCell ?_ ?_ _)|(show X.heap.size≤_;first|exact Nat.le_refl _|exact Nat.le_succ _|exact HY1.out.size|omega)))))
    ((first
     | (go_at_call 88;(with_reducible refine (HA.out _ (by first|(with_reducible exact HX.out)|(with_reducible exact HX.out.drew)|(with_reducible exact HP1.out)|(with_reducible exact HP1.out.drew))).mono ?_);rintro e w1 ⟨rfl,hy,hz⟩;have HY1:=qh hy;have HZ:=qh hz;clear hy hz)
     | (go_at_call 88;(with_reducible refine (HA.out _ (by first|(with_reducible exact HG1.out)|(with_reducible exact HG1.out.drew)|(with_reducible exact (grow HG1.out (.cells #[.int .i64 hk0,.int .i64 hid,.int .i64 htx,.string hbody] 86)))|(with_reducible exact (grow HG1.out (.cells #[.int .i64 hk0,.int .i64 hid,.int .i64 htx,.string hbody] 86)).drew))).mono ?_);rintro e w1 ⟨rfl,hy,hz⟩;have HY1:=qh hy;have HZ:=qh hz;have z3:w1.heap[X.heap.size]?=some (.cells #[.int .i64 0,.slice none 0 0,.slice none 0 0,.slice none 0 0,.int .i64 0,.bool false] 127 (0,0)):=(by first|(with_reducible exact P3.old_below ZG1.out hz)|(with_reducible exact P3.old_below ZG1d.out hz)|(with_reducible exact P3.old_below ZG2.out hz)|(with_reducible exact P3.old_below ZG2d.out hz));have z4:=P3.old_alloc z3 (.cells #[.int .i64 hk0,.int .i64 hid,.int .i64 htx,.string hbody] 86);have r0:=cell_at z4 0;have r1:=cell_at z4 1;have r2:=cell_at z4 2;have r3:=cell_at z4 3;have r4:=cell_at z4 4;have r5:=cell_at z4 5;simp only[qqD,qqE,qqF] at r0 r1 r2 r3 r4 r5;have g0:=free_at z4 0;have g1:=free_at z4 1;have g2:=free_at z4 2;have g3:=free_at z4 3;have g4:=free_at z4 4;have g5:=free_at z4 5;have HZ4:=qh z4;clear z4;have p0:=cell_at z3 0;have p1:=cell_at z3 1;have p2:=cell_at z3 2;have p3:=cell_at z3 3;have p4:=cell_at z3 4;have p5:=cell_at z3 5;simp only[qqD,qqE,qqF] at p0 p1 p2 p3 p4 p5;have f0:=free_at z3 0;have f1:=free_at z3 1;have f2:=free_at z3 2;have f3:=free_at z3 3;have f4:=free_at z3 4;have f5:=free_at z3 5;have HZ3:=qh z3;clear z3;clear hy hz)
     | (go_at_call 88;(with_reducible refine (HA.out _ (by first|(with_reducible exact (grow HP1.out (.cells #[.int .i64 0,.slice none 0 0,.slice none 0 0,.slice none 0 0,.int .i64 0,.bool false] 127)))|(with_reducible exact (grow HP1.out (.cells #[.int .i64 0,.slice none 0 0,.slice none 0 0,.slice none 0 0,.int .i64 0,.bool false] 127)).drew))).mono ?_);rintro e w1 ⟨rfl,hy,hz⟩;have HY1:=qh hy;have HZ:=qh hz;have z3:w1.heap[X.heap.size+1]?=some (.cells #[.int .i64 0,.slice none 0 0,.slice none 0 0,.slice none 0 0,.int .i64 0,.bool false] 127 (0,0)):=(by first|(with_reducible exact P3.old_below ZG3.out hz)|(with_reducible exact P3.old_below ZG3d.out hz));have p0:=cell_at z3 0;have p1:=cell_at z3 1;have p2:=cell_at z3 2;have p3:=cell_at z3 3;have p4:=cell_at z3 4;have p5:=cell_at z3 5;simp only[qqD,qqE,qqF] at p0 p1 p2 p3 p4 p5;have f0:=free_at z3 0;have f1:=free_at z3 1;have f2:=free_at z3 2;have f3:=free_at z3 3;have f4:=free_at z3 4;have f5:=free_at z3 5;have HZ3:=qh z3;clear z3;clear hy hz)))
   all_goals
    (try clear p0 p1 p2 p3 p4 p5 f0 f1 f2 f3 f4 f5)
    (try clear r0 r1 r2 r3 r4 r5 g0 g1 g2 g3 g4 g5)
    first
     | (obtain⟨W1,hW⟩:∃ W1,W1=(w1.alloc (.cells #[.int .i64 K,.slice a1 n1 c1,.slice a2 n2 c2,.slice (some ⟨X.heap.size,0,none⟩) 1 1,.int .i64 (B:Nat),.bool ae] 127)):=⟨_,rfl⟩
        rw[← hW]
        have u1:Below X.heap.size X W1:=by rw[hW];exact grow HY1.out _
        have u2:W1.heap[X.heap.size]?=some (.cells #[.int .i64 hk0,.int .i64 hid,.int .i64 htx,.string hbody] 86 (0,0)):=by rw[hW];exact P3.old_alloc (by first|(with_reducible exact P3.old_below ZP1.out HZ.out)|(with_reducible exact P3.old_below ZP1d.out HZ.out)) _
        have u3:W1.heap[w1.heap.size]?=some (.cells #[.int .i64 K,.slice a1 n1 c1,.slice a2 n2 c2,.slice (some ⟨X.heap.size,0,none⟩) 1 1,.int .i64 (B:Nat),.bool ae] 127 (0,0)):=by rw[hW];exact new_at _ _ _
        have u4:X.heap.size≤X.heap.size∧X.heap.size≤w1.heap.size∧X.heap.size≠w1.heap.size:=⟨Nat.le_refl _,HY1.out.size,by have:=lt_of_block (by first|(with_reducible exact P3.old_below ZP1.out HZ.out)|(with_reducible exact P3.old_below ZP1d.out HZ.out));omega⟩
        obtain⟨gb,hgb⟩:∃ g,g=w1.heap.size:=⟨_,rfl⟩
        obtain⟨pb,hpb⟩:∃ g,g=X.heap.size:=⟨_,rfl⟩
        have V1:=qh u1
        have V2:Hid (W1.heap[pb]?=some (.cells #[.int .i64 hk0,.int .i64 hid,.int .i64 htx,.string hbody] 86 (0,0))):=by rw[hpb];exact u2
        have V3:Hid (W1.heap[gb]?=some (.cells #[.int .i64 K,.slice a1 n1 c1,.slice a2 n2 c2,.slice (some ⟨pb,0,none⟩) 1 1,.int .i64 (B:Nat),.bool ae] 127 (0,0))):=by rw[hpb,hgb];exact u3
        have V4:Hid (X.heap.size≤pb∧X.heap.size≤gb∧pb≠gb):=by rw[hpb,hgb];exact u4
        (try rw[← hgb])
        (try rw[← hpb])
        clear u1 u2 u3 u4 hW hgb hpb
        (try clear u9)
        have TAG:=qh (show True from trivial))
     | (obtain⟨W1,hW⟩:∃ W1,W1=((w1.alloc (.cells #[.int .i64 hk0,.int .i64 hid,.int .i64 htx,.string hbody] 86)).alloc (.cells #[.int .i64 K,.slice a1 n1 c1,.slice a2 n2 c2,.slice (some ⟨w1.heap.size,0,none⟩) 1 1,.int .i64 (B:Nat),.bool ae] 127)):=⟨_,rfl⟩
        rw[← hW]
        have u1:Below X.heap.size X W1:=by rw[hW];exact grow (grow HY1.out _) _
        have u2:W1.heap[w1.heap.size]?=some (.cells #[.int .i64 hk0,.int .i64 hid,.int .i64 htx,.string hbody] 86 (0,0)):=by rw[hW];exact P3.old_alloc (new_at _ _ _) _
        have u3:W1.heap[w1.heap.size+1]?=some (.cells #[.int .i64 K,.slice a1 n1 c1,.slice a2 n2 c2,.slice (some ⟨w1.heap.size,0,none⟩) 1 1,.int .i64 (B:Nat),.bool ae] 127 (0,0)):=by rw[hW];have h9:=new_at (w1.alloc (.cells #[.int .i64 hk0,.int .i64 hid,.int .i64 htx,.string hbody] 86)) #[.int .i64 K,.slice a1 n1 c1,.slice a2 n2 c2,.slice (some ⟨w1.heap.size,0,none⟩) 1 1,.int .i64 (B:Nat),.bool ae] 127;simpa only [World.size_alloc] using h9
        have u4:X.heap.size≤w1.heap.size∧X.heap.size≤w1.heap.size+1∧w1.heap.size≠w1.heap.size+1:=⟨HY1.out.size,by have:=HY1.out.size;omega,by omega⟩
        obtain⟨gb,hgb⟩:∃ g,g=w1.heap.size+1:=⟨_,rfl⟩
        obtain⟨pb,hpb⟩:∃ g,g=w1.heap.size:=⟨_,rfl⟩
        have V1:=qh u1
        have V2:Hid (W1.heap[pb]?=some (.cells #[.int .i64 hk0,.int .i64 hid,.int .i64 htx,.string hbody] 86 (0,0))):=by rw[hpb];exact u2
        have V3:Hid (W1.heap[gb]?=some (.cells #[.int .i64 K,.slice a1 n1 c1,.slice a2 n2 c2,.slice (some ⟨pb,0,none⟩) 1 1,.int .i64 (B:Nat),.bool ae] 127 (0,0))):=by rw[hpb,hgb];exact u3
        have V4:Hid (X.heap.size≤pb∧X.heap.size≤gb∧pb≠gb):=by rw[hpb,hgb];exact u4
        (try rw[← hgb])
        (try rw[← hpb])
        clear u1 u2 u3 u4 hW hgb hpb
        (try clear u9)
        have TAG:=qh (show True from trivial))
     | (obtain⟨W1,hW⟩:∃ W1,W1=((w1.alloc (.cells #[.int .i64 K,.slice a1 n1 c1,.slice a2 n2 c2,.slice (some ⟨w1.heap.size+1,0,none⟩) 1 1,.int .i64 (B:Nat),.bool ae] 127)).alloc (.cells #[.int .i64 hk0,.int .i64 hid,.int .i64 htx,.string hbody] 86)):=⟨_,rfl⟩
        rw[← hW]
        have u1:Below X.heap.size X W1:=by rw[hW];exact grow (grow HY1.out _) _
        have u2:W1.heap[w1.heap.size+1]?=some (.cells #[.int .i64 hk0,.int .i64 hid,.int .i64 htx,.string hbody] 86 (0,0)):=by rw[hW];have h9:=new_at (w1.alloc (.cells #[.int .i64 K,.slice a1 n1 c1,.slice a2 n2 c2,.slice (some ⟨w1.heap.size+1,0,none⟩) 1 1,.int .i64 (B:Nat),.bool ae] 127)) #[.int .i64 hk0,.int .i64 hid,.int .i64 htx,.string hbody] 86;simpa only [World.size_alloc] using h9
        have u3:W1.heap[w1.heap.size]?=some (.cells #[.int .i64 K,.slice a1 n1 c1,.slice a2 n2 c2,.slice (some ⟨w1.heap.size+1,0,none⟩) 1 1,.int .i64 (B:Nat),.bool ae] 127 (0,0)):=by rw[hW];exact P3.old_alloc (new_at _ _ _) _
        have u4:X.heap.size≤w1.heap.size+1∧X.heap.size≤w1.heap.size∧w1.heap.size+1≠w1.heap.size:=⟨by have:=HY1.out.size;omega,HY1.out.size,by omega⟩
        obtain⟨gb,hgb⟩:∃ g,g=w1.heap.size:=⟨_,rfl⟩
        obtain⟨pb,hpb⟩:∃ g,g=w1.heap.size+1:=⟨_,rfl⟩
        have V1:=qh u1
        have V2:Hid (W1.heap[pb]?=some (.cells #[.int .i64 hk0,.int .i64 hid,.int .i64 htx,.string hbody] 86 (0,0))):=by rw[hpb];exact u2
        have V3:Hid (W1.heap[gb]?=some (.cells #[.int .i64 K,.slice a1 n1 c1,.slice a2 n2 c2,.slice (some ⟨pb,0,none⟩) 1 1,.int .i64 (B:Nat),.bool ae] 127 (0,0))):=by rw[hpb,hgb];exact u3
        have V4:Hid (X.heap.size≤pb∧X.heap.size≤gb∧pb≠gb):=by rw[hpb,hgb];exact u4
        (try rw[← hpb])
        (try rw[← hgb])
        clear u1 u2 u3 u4 hW hgb hpb
        (try clear u9)
        have TAG:=qh (show True from trivial))
     | (obtain⟨W1,hW⟩:∃ W1,W1=(((((((w1.alloc (.cells #[.int .i64 hk0,.int .i64 hid,.int .i64 htx,.string hbody] 86)).setCell ⟨X.heap.size,0,none⟩ (.int .i64 K)).setCell ⟨X.heap.size,1,none⟩ (.slice a1 n1 c1)).setCell ⟨X.heap.size,2,none⟩ (.slice a2 n2 c2)).setCell ⟨X.heap.size,3,none⟩ (.slice (some ⟨w1.heap.size,0,none⟩) 1 1)).setCell ⟨X.heap.size,4,none⟩ (.int .i64 (B:Nat))).setCell ⟨X.heap.size,5,none⟩ (.bool ae)):=⟨_,rfl⟩
        rw[← hW]
        have u9:=put6 HZ4.out (.int .i64 K) (.slice a1 n1 c1) (.slice a2 n2 c2) (.slice (some ⟨w1.heap.size,0,none⟩) 1 1) (.int .i64 (B:Nat)) (.bool ae)
        have u1:Below X.heap.size X W1:=by rw[hW];exact below6 (grow HY1.out _) (Nat.le_refl _) _ _ _ _ _ _
        have u3:W1.heap[X.heap.size]?=some (.cells #[.int .i64 K,.slice a1 n1 c1,.slice a2 n2 c2,.slice (some ⟨w1.heap.size,0,none⟩) 1 1,.int .i64 (B:Nat),.bool ae] 127 (0,0)):=by rw[hW];exact u9.1
        have u4:X.heap.size≤w1.heap.size∧X.heap.size≤X.heap.size∧w1.heap.size≠X.heap.size:=⟨HY1.out.size,Nat.le_refl _,by have:=lt_of_block HZ3.out;omega⟩
        have u2:W1.heap[w1.heap.size]?=some (.cells #[.int .i64 hk0,.int .i64 hid,.int .i64 htx,.string hbody] 86 (0,0)):=by rw[hW];exact u9.2.keep (new_at _ _ _) u4.2.2
        obtain⟨gb,hgb⟩:∃ g,g=X.heap.size:=⟨_,rfl⟩
        obtain⟨pb,hpb⟩:∃ g,g=w1.heap.size:=⟨_,rfl⟩
        have V1:=qh u1
        have V2:Hid (W1.heap[pb]?=some (.cells #[.int .i64 hk0,.int .i64 hid,.int .i64 htx,.string hbody] 86 (0,0))):=by rw[hpb];exact u2
        have V3:Hid (W1.heap[gb]?=some (.cells #[.int .i64 K,.slice a1 n1 c1,.slice a2 n2 c2,.slice (some ⟨pb,0,none⟩) 1 1,.int .i64 (B:Nat),.bool ae] 127 (0,0))):=by rw[hpb,hgb];exact u3
        have V4:Hid (X.heap.size≤pb∧X.heap.size≤gb∧pb≠gb):=by rw[hpb,hgb];exact u4
        (try rw[← hgb])
        (try rw[← hpb])
        clear u1 u2 u3 u4 hW hgb hpb
        (try clear u9)
        have TAG:=qh (show True from trivial))
     | (obtain⟨W1,hW⟩:∃ W1,W1=((((((w1.setCell ⟨X.heap.size+1,0,none⟩ (.int .i64 K)).setCell ⟨X.heap.size+1,1,none⟩ (.slice a1 n1 c1)).setCell ⟨X.heap.size+1,2,none⟩ (.slice a2 n2 c2)).setCell ⟨X.heap.size+1,3,none⟩ (.slice (some ⟨X.heap.size,0,none⟩) 1 1)).setCell ⟨X.heap.size+1,4,none⟩ (.int .i64 (B:Nat))).setCell ⟨X.heap.size+1,5,none⟩ (.bool ae)):=⟨_,rfl⟩
        rw[← hW]
        have u9:=put6 HZ3.out (.int .i64 K) (.slice a1 n1 c1) (.slice a2 n2 c2) (.slice (some ⟨X.heap.size,0,none⟩) 1 1) (.int .i64 (B:Nat)) (.bool ae)
        have u1:Below X.heap.size X W1:=by rw[hW];exact below6 HY1.out (Nat.le_succ _) _ _ _ _ _ _
        have u3:W1.heap[X.heap.size+1]?=some (.cells #[.int .i64 K,.slice a1 n1 c1,.slice a2 n2 c2,.slice (some ⟨X.heap.size,0,none⟩) 1 1,.int .i64 (B:Nat),.bool ae] 127 (0,0)):=by rw[hW];exact u9.1
        have u4:X.heap.size≤X.heap.size∧X.heap.size≤X.heap.size+1∧X.heap.size≠X.heap.size+1:=⟨Nat.le_refl _,Nat.le_succ _,by omega⟩
        have u2:W1.heap[X.heap.size]?=some (.cells #[.int .i64 hk0,.int .i64 hid,.int .i64 htx,.string hbody] 86 (0,0)):=by rw[hW];exact u9.2.keep (by first|(with_reducible exact P3.old_below ZP2.out HZ.out)|(with_reducible exact P3.old_below ZP2d.out HZ.out)) u4.2.2
        obtain⟨gb,hgb⟩:∃ g,g=X.heap.size+1:=⟨_,rfl⟩
        obtain⟨pb,hpb⟩:∃ g,g=X.heap.size:=⟨_,rfl⟩
        have V1:=qh u1
        have V2:Hid (W1.heap[pb]?=some (.cells #[.int .i64 hk0,.int .i64 hid,.int .i64 htx,.string hbody] 86 (0,0))):=by rw[hpb];exact u2
        have V3:Hid (W1.heap[gb]?=some (.cells #[.int .i64 K,.slice a1 n1 c1,.slice a2 n2 c2,.slice (some ⟨pb,0,none⟩) 1 1,.int .i64 (B:Nat),.bool ae] 127 (0,0))):=by rw[hpb,hgb];exact u3
        have V4:Hid (X.heap.size≤pb∧X.heap.size≤gb∧pb≠gb):=by rw[hpb,hgb];exact u4
        (try rw[← hgb])
        (try rw[← hpb])
        clear u1 u2 u3 u4 hW hgb hpb
        (try clear u9)
        have TAG:=qh (show True from trivial))
     | (obtain⟨W1,hW⟩:∃ W1,W1=((((((w1.setCell ⟨X.heap.size,0,none⟩ (.int .i64 K)).setCell ⟨X.heap.size,1,none⟩ (.slice a1 n1 c1)).setCell ⟨X.heap.size,2,none⟩ (.slice a2 n2 c2)).setCell ⟨X.heap.size,3,none⟩ (.slice (some ⟨X.heap.size+1,0,none⟩) 1 1)).setCell ⟨X.heap.size,4,none⟩ (.int .i64 (B:Nat))).setCell ⟨X.heap.size,5,none⟩ (.bool ae)):=⟨_,rfl⟩
        rw[← hW]
        have u9:=put6 HZ3.out (.int .i64 K) (.slice a1 n1 c1) (.slice a2 n2 c2) (.slice (some ⟨X.heap.size+1,0,none⟩) 1 1) (.int .i64 (B:Nat)) (.bool ae)
        have u1:Below X.heap.size X W1:=by rw[hW];exact below6 HY1.out (Nat.le_refl _) _ _ _ _ _ _
        have u3:W1.heap[X.heap.size]?=some (.cells #[.int .i64 K,.slice a1 n1 c1,.slice a2 n2 c2,.slice (some ⟨X.heap.size+1,0,none⟩) 1 1,.int .i64 (B:Nat),.bool ae] 127 (0,0)):=by rw[hW];exact u9.1
        have u4:X.heap.size≤X.heap.size+1∧X.heap.size≤X.heap.size∧X.heap.size+1≠X.heap.size:=⟨Nat.le_succ _,Nat.le_refl _,by omega⟩
        have u2:W1.heap[X.heap.size+1]?=some (.cells #[.int .i64 hk0,.int .i64 hid,.int .i64 htx,.string hbody] 86 (0,0)):=by rw[hW];exact u9.2.keep (by first|(with_reducible exact P3.old_below ZP3.out HZ.out)|(with_reducible exact P3.old_below ZP3d.out HZ.out)) u4.2.2
        obtain⟨gb,hgb⟩:∃ g,g=X.heap.size:=⟨_,rfl⟩
        obtain⟨pb,hpb⟩:∃ g,g=X.heap.size+1:=⟨_,rfl⟩
        have V1:=qh u1
        have V2:Hid (W1.heap[pb]?=some (.cells #[.int .i64 hk0,.int .i64 hid,.int .i64 htx,.string hbody] 86 (0,0))):=by rw[hpb];exact u2
        have V3:Hid (W1.heap[gb]?=some (.cells #[.int .i64 K,.slice a1 n1 c1,.slice a2 n2 c2,.slice (some ⟨pb,0,none⟩) 1 1,.int .i64 (B:Nat),.bool ae] 127 (0,0))):=by rw[hpb,hgb];exact u3
        have V4:Hid (X.heap.size≤pb∧X.heap.size≤gb∧pb≠gb):=by rw[hpb,hgb];exact u4
        (try rw[← hpb])
        (try rw[← hgb])
        clear u1 u2 u3 u4 hW hgb hpb
        (try clear u9)
        have TAG:=qh (show True from trivial))
    clear HZ
    (try clear HZ3)
    (try clear HZ4)
    clear HY1 TAG
    revert V4 V3 V2 V1
    revert W1 gb pb
    exact hGiven.out
  case rest=>
   show ∀ _,_
   intro W1 gb pb V1 V2 V3 V4
   clear HP1 HG1 ZG1 ZG2 ZG3 ZG1d ZG2d ZG3d ZP1 ZP2 ZP3 ZP1d ZP2d ZP3d
   have HW1:=qh (Below.refl W1.heap.size W1)
   obtain⟨n0,hn0⟩:∃ n,n=nd.len:=⟨_,rfl⟩
   obtain⟨h0,hh0⟩:∃ n,n=hnd.len:=⟨_,rfl⟩
   obtain⟨z0,hz0⟩:∃ n,n=1+nd.sum:=⟨_,rfl⟩
   have HN1:=qh (HNd.out.keep (FrT.of V1.out))
   have HH1:=qh (HHd.out.keep (FrT.of V1.out))
   have HC1:Hid (∀ W,Below W1.heap.size W1 W→Calls Tryz.prog 97 #[.agg #[.int .i64 K,.slice a1 n1 c1,.slice a2 n2 c2]] W fun e w'=>e=.returned (.int .i64 (n0:Nat))∧Below W1.heap.size W1 w'):=fun W b=>by
    have h9:=count_any W none _ _ nd (HN1.out.keep (FrT.of b)) (Nat.le_trans HLen.out.1 (by decide))
    unfold Nd.v at h9
    rw[← HKe.out,← hn0] at h9
    exact h9.mono fun e w' ⟨g1,g2⟩=>⟨g1,thenBelow b g2⟩
   have HC2:Hid (∀ W,Below W1.heap.size W1 W→Calls Tryz.prog 97 #[.agg #[.int .i64 K2,.slice b1 m1 d1,.slice b2 m2 d2]] W fun e w'=>e=.returned (.int .i64 (h0:Nat))∧Below W1.heap.size W1 w'):=fun W b=>by
    have h9:=count_any W none _ _ hnd (HH1.out.keep (FrT.of b)) (Nat.le_trans HLen.out.2.2 (by decide))
    unfold Nd.v at h9
    rw[← HK2e.out,← hh0] at h9
    exact h9.mono fun e w' ⟨g1,g2⟩=>⟨g1,thenBelow b g2⟩
   have HC3:Hid (∀ W,Below W1.heap.size W1 W→Calls Tryz.prog 100 #[.agg #[.int .i64 K,.slice a1 n1 c1,.slice a2 n2 c2]] W fun e w'=>e=.returned (.int .i64 (z0:Nat))∧Below W1.heap.size W1 w'):=fun W b=>by
    have h9:=size_any W none _ _ nd (HN1.out.keep (FrT.of b)) (Nat.le_trans HLen.out.2.1 (by decide))
    unfold Nd.v at h9
    rw[← HKe.out,← hz0] at h9
    exact h9.mono fun e w' ⟨g1,g2⟩=>⟨g1,thenBelow b g2⟩
   have HSB:Hid (∀ W,Below W1.heap.size W1 W→W.cell? ⟨w.heap.size,0,none⟩=some (.int .i64 K)∧W.cell? ⟨w.heap.size,1,none⟩=some (.slice a1 n1 c1)∧W.cell? ⟨w.heap.size,2,none⟩=some (.slice a2 n2 c2)∧W.cell? ⟨w.heap.size+1,4,none⟩=some (.int .i64 K2)∧W.cell? ⟨w.heap.size+1,5,none⟩=some (.slice b1 m1 d1)∧W.cell? ⟨w.heap.size+1,6,none⟩=some (.slice b2 m2 d2)):=fun W b=>by
    have bX:Below X.heap.size X W:=V1.out.trans (b.mono V1.out.size)
    obtain⟨r0,r1,_,_⟩:=HR.out W bX
    exact⟨cell_at r0 0,cell_at r0 1,cell_at r0 2,cell_at r1 4,cell_at r1 5,cell_at r1 6⟩
   have hz9:z0≤200000:=by have:=HLen.out.2.1;rw[hz0];omega
   have hw2:IntKind.i64.wrap (2*(z0:Int))=2*(z0:Int):=by
    rw[IntKind.wrap_i64]
    omega
   have HN0:=qh hn0
   have HH0:=qh hh0
   have HZ0:=qh hz0
   clear hn0 hh0 hz0
   have HBx:Hid (∀ W2,Below W1.heap.size W1 W2→W2.heap[gb]?=some (.cells #[.int .i64 K,.slice a1 n1 c1,.slice a2 n2 c2,.slice (some ⟨pb,0,none⟩) 1 1,.int .i64 (B:Nat),.bool ae] 127 (0,0))∧W2.heap[w.heap.size+3]?=some (.cells #[.int .i64 0,.slice none 0 0,.slice none 0 0,.slice none 0 0,.int .i64 0,.bool false] 127 (0,0))):=fun W2 b=>⟨P3.old_below V3.out b,(HR.out W2 (V1.out.trans (b.mono V1.out.size))).2.2.2⟩
   have HFin:Hid (∀ W2,Below W1.heap.size W1 W2→(nd.len=0∨nd.least≤nd.len)→(((((((W2.setCell ⟨w.heap.size+3,0,none⟩ (.int .i64 K)).setCell ⟨w.heap.size+3,1,none⟩ (.slice a1 n1 c1)).setCell ⟨w.heap.size+3,2,none⟩ (.slice a2 n2 c2)).setCell ⟨w.heap.size+3,3,none⟩ (.slice (some ⟨pb,0,none⟩) 1 1)).setCell ⟨w.heap.size+3,4,none⟩ (.int .i64 (B:Nat))).setCell ⟨w.heap.size+3,5,none⟩ (.bool ae))).heap[w.heap.size+3]?=some (.cells #[.int .i64 K,.slice a1 n1 c1,.slice a2 n2 c2,.slice (some ⟨pb,0,none⟩) 1 1,.int .i64 (B:Nat),.bool ae] 127 (0,0))∧GOut G l B ⟨hk0,hid,htx,hbody⟩ nd nd [⟨hk0,hid,htx,hbody⟩] B∧Grp w (((((((W2.setCell ⟨w.heap.size+3,0,none⟩ (.int .i64 K)).setCell ⟨w.heap.size+3,1,none⟩ (.slice a1 n1 c1)).setCell ⟨w.heap.size+3,2,none⟩ (.slice a2 n2 c2)).setCell ⟨w.heap.size+3,3,none⟩ (.slice (some ⟨pb,0,none⟩) 1 1)).setCell ⟨w.heap.size+3,4,none⟩ (.int .i64 (B:Nat))).setCell ⟨w.heap.size+3,5,none⟩ (.bool ae))) G { G with sn:=G.sn++[] } nd (.slice a1 n1 c1) (.slice a2 n2 c2) (.slice (some ⟨pb,0,none⟩) 1 1) [⟨hk0,hid,htx,hbody⟩]):=fun W2 b hle=>by
    have hz:=(HBx.out W2 b).2
    obtain⟨hr,fw⟩:=put6 hz (.int .i64 K) (.slice a1 n1 c1) (.slice a2 n2 c2) (.slice (some ⟨pb,0,none⟩) 1 1) (.int .i64 (B:Nat)) (.bool ae)
    have hRx:w.heap.size+3 < X.heap.size:=lt_of_block (HR.out X HX.out).2.2.2
    have hp6:=fw.keep (P3.old_below V2.out b) (by have:=V4.out.1;omega)
    have hft:=FrT.ofFr (x:=none) fw fun j cs t hj hst e=>by
     subst hj
     rw[hz] at e
     cases e
     rcases hst.1 with h9|h9 <;> cases h9
    have hW2:=(HWX.out.then V1.out).then b
    have eG:({ G with sn:=G.sn++[] }:Cg)=G:=by cases G;simp
    rw[eG]
    refine⟨hr,.inl ⟨rfl,rfl,rfl,hle⟩,(HN1.out.keep (FrT.of b)).keep hft,⟨pgs_one hp6,fun j hj=>?_⟩,?_⟩
    ·have hj':pb=j:=Option.some.inj hj
     subst hj'
     have:=HX.out.size
     exact⟨fun e=>by have h8:=HH.out.lt e;have h7:=V4.out.1;omega,lt_of_block hp6⟩
    ·exact hW2.ext HH.out rfl fw fun j hj=>by
      subst hj
      exact⟨by omega,fun e=>by have:=HH.out.lt e;omega⟩
   by_cases z1:n0=0
   ·have e1:((n0:Int) == 0)=true:=by simp[z1]
    have HZ1:=qh z1
    clear z1
    go_upto_region 2 with fail
    refine wp_region_held_drew (S:=fun W=>W.cell? ⟨w.heap.size,0,none⟩=some (.int .i64 K)∧W.cell? ⟨w.heap.size,1,none⟩=some (.slice a1 n1 c1)∧W.cell? ⟨w.heap.size,2,none⟩=some (.slice a2 n2 c2)∧W.cell? ⟨w.heap.size+1,4,none⟩=some (.int .i64 K2)∧W.cell? ⟨w.heap.size+1,5,none⟩=some (.slice b1 m1 d1)∧W.cell? ⟨w.heap.size+1,6,none⟩=some (.slice b2 m2 d2)) (by kernel_rfl) (HSB.out _ HW1.out.drew) (fun hHeld=>?_)
    refine tk 0 ?_
    refine dOne 1 fun K hK=>?_
    go_simp
    go_at_call 97;(with_reducible refine (HC1.out _ (by first|(with_reducible exact HW1.out.drew)|(with_reducible exact HW1.out))).mono ?_);rintro e w3 ⟨rfl,hy⟩;have HZB:=qh hy;clear hy
    go_wp2_with fail
    refine hK.out _ _ (HSB.out _ HZB.out) (fun hHeld=>?_)
    clear hK K
    try simp only[Act.put,qqA,qqB,qqC]
    refine tk 2 ?_
    refine tk 3 ?_
    refine tkS 4 ?_
    refine tkS 5 ?_
    refine tkS 6 ?_
    refine tkS 7 ?_
    refine tkS 8 ?_
    refine tkS 9 ?_
    refine tk 10 ?_
    refine tk 11 ?_
    refine tkS 12 ?_
    refine tkS 13 ?_
    refine tkS 14 ?_
    refine tkS 15 ?_
    refine tk 16 ?_
    refine wpAnyH_done (by kernel_rfl) ?_ _
    obtain⟨bg,br⟩:=HBx.out _ HZB.out
    have x0:=cell_at bg 0
    have x1:=cell_at bg 1
    have x2:=cell_at bg 2
    have x3:=cell_at bg 3
    have x4:=cell_at bg 4
    have x5:=cell_at bg 5
    have y0:=cell_at br 0
    have y1:=cell_at br 1
    have y2:=cell_at br 2
    have y3:=cell_at br 3
    have y4:=cell_at br 4
    have y5:=cell_at br 5
    have u0:=free_at br 0
    have u1:=free_at br 1
    have u2:=free_at br 2
    have u3:=free_at br 3
    have u4:=free_at br 4
    have u5:=free_at br 5
    simp only[qqD,qqE,qqF] at x0 x1 x2 x3 x4 x5 y0 y1 y2 y3 y4 y5
    clear bg br
    go_wp2
    obtain⟨hr,g1,g2⟩:=HFin.out _ HZB.out (by exact .inl (by rw[← HN0.out];exact HZ1.out))
    refine bodyPost_ret (group_result2 rfl _ _ (w.heap.size+1+1+1) _ rfl hr rfl) rfl ⟨nd,_,_,_,_,B,ae,[],?_,SeenBy.nil _ _ _,g1,g2⟩
    unfold Grv
    rw[← HKe.out]
    rfl
   ·have e1:((n0:Int) == 0)=false:=beq_false_of_ne (by omega)
    have HZ1:=qh z1
    by_cases z2:h0≤n0
    ·have e2:decide ((h0:Int)≤(n0:Int))=true:=decide_eq_true (by omega)
     have e2n:decide (h0≤n0)=true:=decide_eq_true z2
     have HZ2:=qh z2
     clear z1 z2
     go_upto_region 2 with fail
     refine wp_region_held_drew (S:=fun W=>W.cell? ⟨w.heap.size,0,none⟩=some (.int .i64 K)∧W.cell? ⟨w.heap.size,1,none⟩=some (.slice a1 n1 c1)∧W.cell? ⟨w.heap.size,2,none⟩=some (.slice a2 n2 c2)∧W.cell? ⟨w.heap.size+1,4,none⟩=some (.int .i64 K2)∧W.cell? ⟨w.heap.size+1,5,none⟩=some (.slice b1 m1 d1)∧W.cell? ⟨w.heap.size+1,6,none⟩=some (.slice b2 m2 d2)) (by kernel_rfl) (HSB.out _ HW1.out.drew) (fun hHeld=>?_)
     refine tk 0 ?_
     refine dOne 1 fun K hK=>?_
     go_simp
     go_at_call 97;(with_reducible refine (HC1.out _ (by first|(with_reducible exact HW1.out.drew)|(with_reducible exact HW1.out))).mono ?_);rintro e w3 ⟨rfl,hy⟩;have HZB:=qh hy;clear hy
     go_wp2_with fail
     refine hK.out _ _ (HSB.out _ HZB.out) (fun hHeld=>?_)
     clear hK K
     try simp only[Act.put,qqA,qqB,qqC]
     refine tk 2 ?_
     refine tk 3 ?_
     refine tk 4 ?_
     refine tk 6 ?_
     refine tk 7 ?_
     refine dOne 5 fun K hK=>?_
     go_simp
     go_at_call 97;(with_reducible refine (HC1.out _ (by first|(with_reducible exact HZB.out.drew)|(with_reducible exact HZB.out))).mono ?_);rintro e w3 ⟨rfl,hy⟩;have HZB:=qh hy;clear hy
     go_wp2_with fail
     refine hK.out _ _ (HSB.out _ HZB.out) (fun hHeld=>?_)
     clear hK K
     try simp only[Act.put,qqA,qqB,qqC]
     refine dOne 8 fun K hK=>?_
     go_simp
     go_at_call 97;(with_reducible refine (HC2.out _ (by first|(with_reducible exact HZB.out.drew)|(with_reducible exact HZB.out))).mono ?_);rintro e w3 ⟨rfl,hy⟩;have HZB:=qh hy;clear hy
     go_wp2_with fail
     refine hK.out _ _ (HSB.out _ HZB.out) (fun hHeld=>?_)
     clear hK K
     try simp only[Act.put,qqA,qqB,qqC]
     refine tk 9 ?_
     refine tk 10 ?_
     refine tk 11 ?_
     refine tkS 12 ?_
     refine tkS 13 ?_
     refine tkS 14 ?_
     refine tkS 15 ?_
     refine tk 16 ?_
     refine wpAnyH_done (by kernel_rfl) ?_ _
     obtain⟨bg,br⟩:=HBx.out _ HZB.out
     have x0:=cell_at bg 0
     have x1:=cell_at bg 1
     have x2:=cell_at bg 2
     have x3:=cell_at bg 3
     have x4:=cell_at bg 4
     have x5:=cell_at bg 5
     have y0:=cell_at br 0
     have y1:=cell_at br 1
     have y2:=cell_at br 2
     have y3:=cell_at br 3
     have y4:=cell_at br 4
     have y5:=cell_at br 5
     have u0:=free_at br 0
     have u1:=free_at br 1
     have u2:=free_at br 2
     have u3:=free_at br 3
     have u4:=free_at br 4
     have u5:=free_at br 5
     simp only[qqD,qqE,qqF] at x0 x1 x2 x3 x4 x5 y0 y1 y2 y3 y4 y5
     clear bg br
     go_wp2
     obtain⟨hr,g1,g2⟩:=HFin.out _ HZB.out (by exact .inr (HQ1.out (by rw[← HN0.out,← HH0.out];exact HZ2.out)))
     refine bodyPost_ret (group_result2 rfl _ _ (w.heap.size+1+1+1) _ rfl hr rfl) rfl ⟨nd,_,_,_,_,B,ae,[],?_,SeenBy.nil _ _ _,g1,g2⟩
     unfold Grv
     rw[← HKe.out]
     rfl
    ·have e2:decide ((h0:Int)≤(n0:Int))=false:=decide_eq_false (by omega)
     have e2n:decide (h0≤n0)=false:=decide_eq_false z2
     have HZ2:=qh z2
     clear z1 z2
     by_cases z3:232 < 2*z0
     ·have e3:decide (232 < 2*(z0:Int))=true:=decide_eq_true (by omega)
      have HZ3:=qh z3
      clear z3
      go_upto_region 2 with fail
      refine wp_region_held_drew (S:=fun W=>W.cell? ⟨w.heap.size,0,none⟩=some (.int .i64 K)∧W.cell? ⟨w.heap.size,1,none⟩=some (.slice a1 n1 c1)∧W.cell? ⟨w.heap.size,2,none⟩=some (.slice a2 n2 c2)∧W.cell? ⟨w.heap.size+1,4,none⟩=some (.int .i64 K2)∧W.cell? ⟨w.heap.size+1,5,none⟩=some (.slice b1 m1 d1)∧W.cell? ⟨w.heap.size+1,6,none⟩=some (.slice b2 m2 d2)) (by kernel_rfl) (HSB.out _ HW1.out.drew) (fun hHeld=>?_)
      refine tk 0 ?_
      refine dOne 1 fun K hK=>?_
      go_simp
      go_at_call 97;(with_reducible refine (HC1.out _ (by first|(with_reducible exact HW1.out.drew)|(with_reducible exact HW1.out))).mono ?_);rintro e w3 ⟨rfl,hy⟩;have HZB:=qh hy;clear hy
      go_wp2_with fail
      refine hK.out _ _ (HSB.out _ HZB.out) (fun hHeld=>?_)
      clear hK K
      try simp only[Act.put,qqA,qqB,qqC]
      refine tk 2 ?_
      refine tk 3 ?_
      refine tk 4 ?_
      refine tk 6 ?_
      refine tk 7 ?_
      refine dOne 5 fun K hK=>?_
      go_simp
      go_at_call 97;(with_reducible refine (HC1.out _ (by first|(with_reducible exact HZB.out.drew)|(with_reducible exact HZB.out))).mono ?_);rintro e w3 ⟨rfl,hy⟩;have HZB:=qh hy;clear hy
      go_wp2_with fail
      refine hK.out _ _ (HSB.out _ HZB.out) (fun hHeld=>?_)
      clear hK K
      try simp only[Act.put,qqA,qqB,qqC]
      refine dOne 8 fun K hK=>?_
      go_simp
      go_at_call 97;(with_reducible refine (HC2.out _ (by first|(with_reducible exact HZB.out.drew)|(with_reducible exact HZB.out))).mono ?_);rintro e w3 ⟨rfl,hy⟩;have HZB:=qh hy;clear hy
      go_wp2_with fail
      refine hK.out _ _ (HSB.out _ HZB.out) (fun hHeld=>?_)
      clear hK K
      try simp only[Act.put,qqA,qqB,qqC]
      refine tk 9 ?_
      refine tk 10 ?_
      refine tk 11 ?_
      refine tk 12 ?_
      refine dOne 13 fun K hK=>?_
      go_simp
      go_at_call 100;(with_reducible refine (HC3.out _ (by first|(with_reducible exact HZB.out.drew)|(with_reducible exact HZB.out))).mono ?_);rintro e w3 ⟨rfl,hy⟩;have HZB:=qh hy;clear hy
      go_wp2_with fail
      refine hK.out _ _ (HSB.out _ HZB.out) (fun hHeld=>?_)
      clear hK K
      try simp only[Act.put,qqA,qqB,qqC]
      refine tk 14 ?_
      refine tk 15 ?_
      refine tk 16 ?_
      refine wpAnyH_done (by kernel_rfl) ?_ _
      obtain⟨bg,br⟩:=HBx.out _ HZB.out
      have x0:=cell_at bg 0
      have x1:=cell_at bg 1
      have x2:=cell_at bg 2
      have x3:=cell_at bg 3
      have x4:=cell_at bg 4
      have x5:=cell_at bg 5
      have y0:=cell_at br 0
      have y1:=cell_at br 1
      have y2:=cell_at br 2
      have y3:=cell_at br 3
      have y4:=cell_at br 4
      have y5:=cell_at br 5
      have u0:=free_at br 0
      have u1:=free_at br 1
      have u2:=free_at br 2
      have u3:=free_at br 3
      have u4:=free_at br 4
      have u5:=free_at br 5
      simp only[qqD,qqE,qqF] at x0 x1 x2 x3 x4 x5 y0 y1 y2 y3 y4 y5
      clear bg br
      go_wp2
      obtain⟨hr,g1,g2⟩:=HFin.out _ HZB.out (by exact .inr (HQ2.out (by rw[← HZ0.out];exact HZ3.out)))
      refine bodyPost_ret (group_result2 rfl _ _ (w.heap.size+1+1+1) _ rfl hr rfl) rfl ⟨nd,_,_,_,_,B,ae,[],?_,SeenBy.nil _ _ _,g1,g2⟩
      unfold Grv
      rw[← HKe.out]
      rfl
     ·have e3:decide (232 < 2*(z0:Int))=false:=decide_eq_false (by omega)
      have HZ3:=qh z3
      clear z3
      go_upto_region 2 with fail
      refine wp_region_held_drew (S:=fun W=>W.cell? ⟨w.heap.size,0,none⟩=some (.int .i64 K)∧W.cell? ⟨w.heap.size,1,none⟩=some (.slice a1 n1 c1)∧W.cell? ⟨w.heap.size,2,none⟩=some (.slice a2 n2 c2)∧W.cell? ⟨w.heap.size+1,4,none⟩=some (.int .i64 K2)∧W.cell? ⟨w.heap.size+1,5,none⟩=some (.slice b1 m1 d1)∧W.cell? ⟨w.heap.size+1,6,none⟩=some (.slice b2 m2 d2)) (by kernel_rfl) (HSB.out _ HW1.out.drew) (fun hHeld=>?_)
      refine tk 0 ?_
      refine dOne 1 fun K hK=>?_
      go_simp
      go_at_call 97;(with_reducible refine (HC1.out _ (by first|(with_reducible exact HW1.out.drew)|(with_reducible exact HW1.out))).mono ?_);rintro e w3 ⟨rfl,hy⟩;have HZB:=qh hy;clear hy
      go_wp2_with fail
      refine hK.out _ _ (HSB.out _ HZB.out) (fun hHeld=>?_)
      clear hK K
      try simp only[Act.put,qqA,qqB,qqC]
      refine tk 2 ?_
      refine tk 3 ?_
      refine tk 4 ?_
      refine tk 6 ?_
      refine tk 7 ?_
      refine dOne 5 fun K hK=>?_
      go_simp
      go_at_call 97;(with_reducible refine (HC1.out _ (by first|(with_reducible exact HZB.out.drew)|(with_reducible exact HZB.out))).mono ?_);rintro e w3 ⟨rfl,hy⟩;have HZB:=qh hy;clear hy
      go_wp2_with fail
      refine hK.out _ _ (HSB.out _ HZB.out) (fun hHeld=>?_)
      clear hK K
      try simp only[Act.put,qqA,qqB,qqC]
      refine dOne 8 fun K hK=>?_
      go_simp
      go_at_call 97;(with_reducible refine (HC2.out _ (by first|(with_reducible exact HZB.out.drew)|(with_reducible exact HZB.out))).mono ?_);rintro e w3 ⟨rfl,hy⟩;have HZB:=qh hy;clear hy
      go_wp2_with fail
      refine hK.out _ _ (HSB.out _ HZB.out) (fun hHeld=>?_)
      clear hK K
      try simp only[Act.put,qqA,qqB,qqC]
      refine tk 9 ?_
      refine tk 10 ?_
      refine tk 11 ?_
      refine tk 12 ?_
      refine dOne 13 fun K hK=>?_
      go_simp
      go_at_call 100;(with_reducible refine (HC3.out _ (by first|(with_reducible exact HZB.out.drew)|(with_reducible exact HZB.out))).mono ?_);rintro e w3 ⟨rfl,hy⟩;have HZB:=qh hy;clear hy
      go_wp2_with fail
      refine hK.out _ _ (HSB.out _ HZB.out) (fun hHeld=>?_)
      clear hK K
      try simp only[Act.put,qqA,qqB,qqC]
      refine tk 14 ?_
      refine tk 15 ?_
      refine tk 16 ?_
      refine wpAnyH_done (by kernel_rfl) ?_ _
      rename_i R2 R1 R0 Q5 K5 A5 K4 A4 H3 w6 Z6 H2 w5 Z5 H1 w4 Z4 H0
      clear H0 H1 H2 H3 Z4 Z5 Z6 hHeld
      clear w4 w5 w6 R2 R1 R0
      revert w3
      revert w G nd l B a1 n1 c1 a2 n2 c2 hnd hat0 hk0 hid htx hbody ak0 aid atx abody b1 m1 d1 b2 m2 d2 ca q kb koff K K2 ae X N Q5 W1 gb pb n0 h0 z0 K5 K4
      exact hAll.out
end Go.Proofs.YtjepgclnbbpnaaaGreat.P12
