/-
  Texts of the proofs of SaidOrd12.
-/
import Derived.Test.YtjepgclnbbpnaaaGreatMs28
set_option linter.unusedVariables false
set_option linter.unusedSimpArgs false
set_option maxHeartbeats 8000000
set_option maxRecDepth 100000
namespace Go.Proofs.YtjepgclnbbpnaaaGreat.P12
open PK (qqA qqB qqC qqD qqE qqF tk tkS dOne qh)
open Go Go.RowKit Go.Lib PK
open P11 (Pg cellsP PgsIn)
theorem grp_not{w:World}{a:Option Addr}{b n c:Nat}{l:List Pg}{p:Pg}{k0:Int}{s1 s2 s3:Option Addr}{n1 c1 n2 c2 n3 c3:Nat}{u4 u5:Value}{t:TypeId}(h:PgsIn w (.slice a n c) l)(hp:l[0]?=some p)(ha:(Value.slice a n c).ownBlock=some b)
  (hb:w.heap[b]?=some (.cells #[.int .i64 k0,.slice s1 n1 c1,.slice s2 n2 c2,.slice s3 n3 c3,u4,u5] t (0,0))):False:=by
 obtain⟨b',off,rfl,hc⟩:=P11.PgsIn.at_ h hp
 have hb':b'=b:=Option.some.inj ha
 subst hb'
 obtain⟨c0,c1',c2',_⟩:=hc w (Below.refl _ _)
 rw[Nat.zero_mul,Nat.add_zero] at c0 c1' c2'
 rw[cell_at hb] at c0 c1' c2'
 match off,c0,c1',c2' with
 | 0,_,g,_=>simp at g
 | 1,g,_,_=>simp at g
 | 2,g,_,_=>simp at g
 | 3,g,_,_=>simp at g
 | 4,_,_,g=>simp at g
 | 5,_,g,_=>simp at g
 | m+6,g,_,_=>simp at g
theorem GOut.some{G:Cg}{l:List P10.It}{B:Nat}{pg:Pg}{nd j:Nd}{olds:List Pg}{at_:Nat}(h:GOut G l B pg nd j olds at_):∃ p,olds[0]?=some p:=by
 rcases h with ⟨_,rfl,_⟩|⟨_,_,_,_,_,_,_,_,_,_,_,rfl⟩|⟨_,_,_,_,_,_,_,_,_,rfl⟩ <;> exact⟨_,rfl⟩
structure GBx (w wr:World) (A B C D E:Array Value) (ib:Nat):Prop where
 b0:wr.heap[w.heap.size]?=some (.cells A 80 (0,0))
 b1:wr.heap[w.heap.size+1]?=some (.cells B 88 (0,0))
 b2:wr.heap[w.heap.size+2]?=some (.cells C 88 (0,0))
 b3:wr.heap[w.heap.size+3]?=some (.cells D 127 (0,0))
 bi:wr.heap[ib]?=some (.cells E 3 (0,0))
theorem GBx.below{w wr w':World}{A B C D E:Array Value}{ib:Nat}(h:GBx w wr A B C D E ib)(k:Below wr.heap.size wr w'):GBx w w' A B C D E ib:=⟨P3.old_below h.b0 k,P3.old_below h.b1 k,P3.old_below h.b2 k,P3.old_below h.b3 k,P3.old_below h.bi k⟩
theorem GBx.went{w wr w':World}{A B C D E:Array Value}{ib:Nat}{G G':Cg}(h:GBx w wr A B C D E ib)(k:Went wr w' G G')(hs:∀ j,G.S j→j < w.heap.size)(hi:w.heap.size≤ib):GBx w w' A B C D E ib:=
 ⟨(k.box h.b0 fun e=>by have:=hs _ e;omega).1,(k.box h.b1 fun e=>by have:=hs _ e;omega).1,(k.box h.b2 fun e=>by have:=hs _ e;omega).1,(k.box h.b3 fun e=>by have:=hs _ e;omega).1,(k.box h.bi fun e=>by have:=hs _ e;omega).1⟩
structure GNd (wr:World) (a1 b1 a2 b2 ak:Value) (nd hnd:Nd) (l:List P10.It):Prop where
 nd:NdT wr none a1 b1 nd
 hnd:NdT wr none a2 b2 hnd
 kd:KdT wr none ak l
theorem GNd.keep{wr w':World}{a1 b1 a2 b2 ak:Value}{nd hnd:Nd}{l:List P10.It}(h:GNd wr a1 b1 a2 b2 ak nd hnd l)(k:FrT none wr w'):GNd w' a1 b1 a2 b2 ak nd hnd l:=⟨h.nd.keep k,h.hnd.keep k,h.kd.keep k⟩
structure GLp (w wr:World) (G:Cg) (l:List P10.It) (B:Nat) (pg:Pg) (nd:Nd) (bb i:Nat) (j:Nd) (ja jc vo:Value) (olds:List Pg) (at_:Nat) (d:Bool) (sn':List Int):Prop where
 best:wr.heap[bb]?=some (.cells #[.int .i64 j.kind,ja,jc,vo,.int .i64 (at_:Nat),.bool d] 127 (0,0))
 grp:Grp w wr G { G with sn:=G.sn++sn' } j ja jc vo olds
 out:(j=nd∧olds=[pg]∧at_=B∧∀ k,((1≤i∧k+1=B)∨(2≤i∧k=B+1))→k < l.length→nd.least≤nd.len)∨GOut G l B pg nd j olds at_
 seen:∀ x∈sn',∃ k q,l[k]?=some q∧x=q.page∧((1≤i∧k+1=B)∨(2≤i∧k=B+1))
 snl:sn'.length≤i
theorem GLp.skip{w wr:World}{G:Cg}{l:List P10.It}{B:Nat}{pg:Pg}{nd:Nd}{bb i:Nat}{j:Nd}{ja jc vo:Value}{olds:List Pg}{at_:Nat}{d:Bool}{sn':List Int}(h:GLp w wr G l B pg nd bb i j ja jc vo olds at_ d sn')
  (hk:∀ k,((1≤i+1∧k+1=B)∨(2≤i+1∧k=B+1))→k < l.length→(1≤i∧k+1=B)∨(2≤i∧k=B+1)):GLp w wr G l B pg nd bb (i+1) j ja jc vo olds at_ d sn':=by
 refine⟨h.best,h.grp,?_,fun x hx=>?_,Nat.le_succ_of_le h.snl⟩
 ·rcases h.out with ⟨h1,h2,h3,h4⟩|h1
  ·exact .inl ⟨h1,h2,h3,fun k h5 h6=>h4 k (hk k h5 h6) h6⟩
  ·exact .inr h1
 ·obtain⟨k,q,h1,h2,h3⟩:=h.seen x hx
  exact⟨k,q,h1,h2,by omega⟩
theorem GLp.drew{w wr:World}{G:Cg}{l:List P10.It}{B:Nat}{pg:Pg}{nd:Nd}{bb i:Nat}{j:Nd}{ja jc vo:Value}{olds:List Pg}{at_:Nat}{d:Bool}{sn':List Int}(h:GLp w wr G l B pg nd bb i j ja jc vo olds at_ d sn'){w':World}(k:Below wr.heap.size wr w'):GLp w w' G l B pg nd bb i j ja jc vo olds at_ d sn':=
 ⟨P3.old_below h.best k,⟨h.grp.nd.keep (FrT.of k),h.grp.old.went (Went.below h.grp.went.at_ k),h.grp.went.then k⟩,h.out,h.seen,h.snl⟩
theorem set_sum{x q:P10.It}:∀ (l:List P10.It) (i:Nat),l[i]?=some q→P10.sumI (l.set i x)+q.need=P10.sumI l+x.need
 | [],i,h=>by simp at h
 | y::l,0,h=>by
  simp only[List.getElem?_cons_zero,Option.some.injEq] at h
  subst h
  rw[List.set_cons_zero,P10.sumI_cons,P10.sumI_cons]
  omega
 | y::l,i+1,h=>by
  have:=set_sum (x:=x) l i (by simpa using h)
  rw[List.set_cons_succ,P10.sumI_cons,P10.sumI_cons]
  omega
theorem rekey_sum(l:List P10.It)(i:Nat)(k:ByteArray):P10.sumI (rekey l i k)≤P10.sumI l+k.size:=by
 cases h:l[i]? with
 | none=>
  unfold rekey
  rw[h]
  exact Nat.le_add_right _ _
 | some q=>
  rw[rekey_at h]
  have:=set_sum (x:=⟨k,q.page⟩) l i h
  unfold P10.It.need at this
  simp only at this
  omega
theorem join_sum(a b:Nd)(k:ByteArray):(a.join b k).sum≤a.sum+b.sum+k.size:=by
 cases a with
 | lf l=>cases b with
  | lf m=>show P9.sumI (l++m)≤P9.sumI l+P9.sumI m+_;rw[P9.sumI_app];omega
  | tw m=>show P9.sumI l≤P9.sumI l+_+_;omega
 | tw l=>cases b with
  | lf m=>show P10.sumI l≤P10.sumI l+_+_;omega
  | tw m=>
   show P10.sumI (rekey (l++m) l.length k)≤P10.sumI l+P10.sumI m+_
   have:=rekey_sum (l++m) l.length k
   rw[P10.sumI_app] at this
   exact this
theorem GBx.put{w wr w':World}{A B C D E:Array Value}{ib bb:Nat}(h:GBx w wr A B C D E ib)(f:P3.Fr (·=bb) wr w')(h1:w.heap.size+3 < bb)(h2:bb≠ib):GBx w w' A B C D E ib:=
 ⟨f.keep h.b0 (by omega),f.keep h.b1 (by omega),f.keep h.b2 (by omega),f.keep h.b3 (by omega),f.keep h.bi fun e=>h2 e.symm⟩
theorem GLp.stay{w wr w':World}{G G1 G2:Cg}{l:List P10.It}{B:Nat}{pg:Pg}{nd:Nd}{bb i:Nat}{j:Nd}{ja jc vo:Value}{olds:List Pg}{at_:Nat}{d:Bool}{sn':List Int}{x:Int}(h:GLp w wr G l B pg nd bb i j ja jc vo olds at_ d sn')
  (hS:∀ j,G.S j→j < w.heap.size) (hb:w.heap.size≤bb) (e1:G1={ G with sn:=G.sn++sn' }) (e2:G2={ G with sn:=G.sn++(sn'++[x]) }) (k:Went wr w' G1 G2) (hge:nd.least≤nd.len)
  (hx:∃ k q,l[k]?=some q∧x=q.page∧((1≤i+1∧k+1=B)∨(2≤i+1∧k=B+1))):GLp w w' G l B pg nd bb (i+1) j ja jc vo olds at_ d (sn'++[x]):=by
 subst e1 e2
 refine⟨(k.box h.best fun e=>by have:=hS _ (show G.S bb from e);omega).1,⟨h.grp.nd.keep k.ft,h.grp.old.went k,h.grp.went.trans k⟩,?_,fun y hy=>?_,by rw[List.length_append,List.length_singleton];have:=h.snl;omega⟩
 ·rcases h.out with ⟨h1,h2,h3,_⟩|h1
  ·exact .inl ⟨h1,h2,h3,fun _ _ _=>hge⟩
  ·exact .inr h1
 ·rcases List.mem_append.1 hy with hy|hy
  ·obtain⟨k',q,g1,g2,g3⟩:=h.seen y hy
   exact⟨k',q,g1,g2,by omega⟩
  ·rw[List.mem_singleton] at hy
   subst hy
   exact hx
theorem GLp.better{w wr w6 w9 w':World}{G G1 G2:Cg}{l:List P10.It}{B:Nat}{pg:Pg}{nd:Nd}{bb i:Nat}{j j2:Nd}{ja jc vo a b c:Value}{olds olds2:List Pg}{at_ at2:Nat}{d:Bool}{sn':List Int}{x:Int}(h:GLp w wr G l B pg nd bb i j ja jc vo olds at_ d sn')
  (h0:CAt w G) (hS:∀ j,G.S j→j < w.heap.size) (hb:w.heap.size≤bb) (e1:G1={ G with sn:=G.sn++sn' }) (e2:G2={ G with sn:=G.sn++(sn'++[x]) }) (hg:Grp wr w6 G1 G2 j2 a b c olds2) (k:Below w6.heap.size w6 w9) {kj:Int} (hkj:kj=j2.kind)
  (hr:w'.heap[bb]?=some (.cells #[.int .i64 kj,a,b,c,.int .i64 (at2:Nat),.bool false] 127 (0,0))) (f:P3.Fr (·=bb) w9 w') (ho:GOut G l B pg nd j2 olds2 at2)
  (hx:∃ k q,l[k]?=some q∧x=q.page∧((1≤i+1∧k+1=B)∨(2≤i+1∧k=B+1))):GLp w w' G l B pg nd bb (i+1) j2 a b c olds2 at2 false (sn'++[x])∧FrT none w9 w':=by
 subst e1 e2 hkj
 obtain⟨f1,f2,f3,f4,f5,f6,rfl,rfl,_⟩:=h.grp.nd.lens
 obtain⟨oa,oc,rfl⟩:=h.grp.old.pgs.slice
 obtain⟨oa2,oc2,rfl⟩:=hg.old.pgs.slice
 have hn:¬ G.S bb:=fun e=>by have:=hS _ e;omega
 have b9:=P3.old_below (hg.went.box h.best fun e=>hn e).1 k
 have ft:FrT none w9 w':=FrT.ofFr f fun j' cs t hj hst e=>by
  subst hj
  rw[b9] at e
  cases e
  rcases hst.1 with h9|h9 <;> cases h9
 have ho9:=hg.old.went (Went.below hg.went.at_ k)
 have hw9:=(h.grp.went.trans hg.went).then k
 obtain⟨p9,hp9⟩:=ho.some
 refine⟨⟨hr,⟨(hg.nd.keep (FrT.of k)).keep ft,⟨elems_blk ho9.pgs f.size fun j' hj'=>f.block j' (ho9.off j' hj').2 fun e=>?_,fun j' hj'=>⟨(ho9.off j' hj').1,Nat.lt_of_lt_of_le (ho9.off j' hj').2 f.size⟩⟩,hw9.ext h0 rfl f fun k9 hk9=>⟨by omega,fun e=>hn (by rw[← hk9];exact e)⟩⟩,.inr ho,fun y hy=>?_,by rw[List.length_append,List.length_singleton];have:=h.snl;omega⟩,ft⟩
 ·have e':j'=bb:=e
  subst e'
  exact grp_not ho9.pgs hp9 hj' b9
 ·rcases List.mem_append.1 hy with hy|hy
  ·obtain⟨k',q,g1,g2,g3⟩:=h.seen y hy
   exact⟨k',q,g1,g2,by omega⟩
  ·rw[List.mem_singleton] at hy
   subst hy
   exact hx
theorem group_loop:group_cut.1:=by
 intro w
 set_option tactic.hygienic false in intros
 have x0:=cell_at (HBx.out _ HZB.out).1 0
 have x1:=cell_at (HBx.out _ HZB.out).1 1
 have x2:=cell_at (HBx.out _ HZB.out).1 2
 have x3:=cell_at (HBx.out _ HZB.out).1 3
 have x4:=cell_at (HBx.out _ HZB.out).1 4
 have x5:=cell_at (HBx.out _ HZB.out).1 5
 simp only[qqD,qqE,qqF] at x0 x1 x2 x3 x4 x5
 go_upto_region 5 with fail
 clear x0 x1 x2 x3 x4 x5
 obtain⟨W4,hW4⟩:∃ W,W=w3.alloc (.cells #[.int .i64 K,.slice a1 n1 c1,.slice a2 n2 c2,.slice (some ⟨pb,0,none⟩) 1 1,.int .i64 (B:Nat),.bool ae] 127):=⟨_,rfl⟩
 obtain⟨bb,hbb⟩:∃ b,b=w3.heap.size:=⟨_,rfl⟩
 rw[← hW4,← hbb]
 have v4:W4.heap[bb]?=some (.cells #[.int .i64 K,.slice a1 n1 c1,.slice a2 n2 c2,.slice (some ⟨pb,0,none⟩) 1 1,.int .i64 (B:Nat),.bool ae] 127 (0,0)):=by rw[hW4,hbb];exact new_at _ _ _
 have hb4:Below W1.heap.size W1 W4:=by rw[hW4];exact grow HZB.out _
 have hbX:Below X.heap.size X W4:=V1.out.trans (hb4.mono V1.out.size)
 have hge:X.heap.size≤bb:=by rw[hbb];exact Nat.le_trans V1.out.size HZB.out.size
 have r2:=cell_at (HR.out W4 hbX).2.2.1 7
 simp only[qqD,qqE,qqF] at r2
 have hBn:B < 1000:=by have:=HBl.out;omega
 have k1:IntKind.i64.wrap ((B:Int) - 1)=(B:Int) - 1:=by
  rw[IntKind.wrap_i64]
  omega
 have k2:IntKind.i64.wrap ((B:Int)+1)=(B:Int)+1:=by
  rw[IntKind.wrap_i64]
  omega
 have HB4:=qh hb4
 have HBX:=qh hbX
 have HGe:=qh hge
 have V5:=qh v4
 clear hW4 hbb v4 hb4 hbX hge
 go_upto_region 6 with fail
 obtain⟨W5,hW5⟩:∃ W,W=W4.alloc (.cells #[.int .i64 ((B:Int) - 1),.int .i64 ((B:Int)+1)] 3):=⟨_,rfl⟩
 obtain⟨ib,hib⟩:∃ b,b=W4.heap.size:=⟨_,rfl⟩
 have v6:W5.heap[ib]?=some (.cells #[.int .i64 ((B:Int) - 1),.int .i64 ((B:Int)+1)] 3 (0,0)):=by rw[hW5,hib];exact new_at _ _ _
 have hb5:Below W1.heap.size W1 W5:=by rw[hW5];exact grow HB4.out _
 have hbX5:Below X.heap.size X W5:=V1.out.trans (hb5.mono V1.out.size)
 have v5:W5.heap[bb]?=some (.cells #[.int .i64 K,.slice a1 n1 c1,.slice a2 n2 c2,.slice (some ⟨pb,0,none⟩) 1 1,.int .i64 (B:Nat),.bool ae] 127 (0,0)):=by rw[hW5];exact P3.old_alloc V5.out _
 have hib9:w.heap.size≤ib:=by rw[hib];exact Nat.le_trans HWX.out.fr.size HBX.out.size
 have hbi:bb≠ib:=by rw[hib];have:=lt_of_block V5.out;omega
 have hRx:w.heap.size+3 < X.heap.size:=lt_of_block (HR.out X HX.out).2.2.2
 rw[← hW5,← hib]
 have eG:({ G with sn:=G.sn++[] }:Cg)=G:=by cases G;simp
 have g0:GLp w W5 G l B ⟨hk0,hid,htx,hbody⟩ nd bb 0 nd (.slice a1 n1 c1) (.slice a2 n2 c2) (.slice (some ⟨pb,0,none⟩) 1 1) [⟨hk0,hid,htx,hbody⟩] B ae []:=by
  refine⟨by rw[← HKe.out];exact v5,?_,.inl ⟨rfl,rfl,rfl,fun k hk=>by omega⟩,fun x hx=>(by cases hx),Nat.le_refl _⟩
  rw[eG]
  refine⟨HN1.out.keep (FrT.of hb5),⟨pgs_one (P3.old_below V2.out hb5),fun j hj=>?_⟩,(HWX.out.then V1.out).then hb5⟩
  have hj':pb=j:=Option.some.inj hj
  subst hj'
  exact⟨fun e=>by have h8:=HH.out.lt e;have h7:=V4.out.1;omega,lt_of_block (P3.old_below V2.out hb5)⟩
 have G0:=qh g0
 have B0:Hid (GBx w W5 #[.int .i64 K,.slice a1 n1 c1,.slice a2 n2 c2] #[.int .i64 hk0,.int .i64 hid,.int .i64 htx,.string hbody,.int .i64 K2,.slice b1 m1 d1,.slice b2 m2 d2,.int .i64 hat0] #[.int .i64 ak0,.int .i64 aid,.int .i64 atx,.string abody,.int .i64 4,.slice none 0 0,.slice (some ⟨kb,koff,none⟩) N ca,.int .i64 (B:Int)] #[.int .i64 0,.slice none 0 0,.slice none 0 0,.slice none 0 0,.int .i64 0,.bool false] #[.int .i64 ((B:Int) - 1),.int .i64 ((B:Int)+1)] ib):=qh ⟨(HR.out W5 hbX5).1,(HR.out W5 hbX5).2.1,(HR.out W5 hbX5).2.2.1,(HR.out W5 hbX5).2.2.2,v6⟩
 have N0':Hid (GNd W5 (.slice a1 n1 c1) (.slice a2 n2 c2) (.slice b1 m1 d1) (.slice b2 m2 d2) (.slice (some ⟨kb,koff,none⟩) N ca) nd hnd l):=qh ⟨HN1.out.keep (FrT.of hb5),HH1.out.keep (FrT.of hb5),HKd.out.keep (FrT.of hbX5)⟩
 have HIb:=qh hib9
 have HBi:=qh hbi
 have HRx:=qh hRx
 have HSw:Hid (∀ j,G.S j→j < w.heap.size):=qh fun j e=>HH.out.lt e
 clear hW5 hib v6 hb5 hbX5 v5 hib9 hbi hRx eG g0 r2 k1 k2
 go_loopw [52] (fun vi wr=>∃ (i:Nat) (j:Nd) (ja jc vo:Value) (olds:List Pg) (at_:Nat) (d:Bool) (sn':List Int),i≤2∧vi=.int .i64 i∧Hid (GLp w wr G l B ⟨hk0,hid,htx,hbody⟩ nd bb i j ja jc vo olds at_ d sn')∧Hid (GBx w wr #[.int .i64 K,.slice a1 n1 c1,.slice a2 n2 c2] #[.int .i64 hk0,.int .i64 hid,.int .i64 htx,.string hbody,.int .i64 K2,.slice b1 m1 d1,.slice b2 m2 d2,.int .i64 hat0] #[.int .i64 ak0,.int .i64 aid,.int .i64 atx,.string abody,.int .i64 4,.slice none 0 0,.slice (some ⟨kb,koff,none⟩) N ca,.int .i64 (B:Int)] #[.int .i64 0,.slice none 0 0,.slice none 0 0,.slice none 0 0,.int .i64 0,.bool false] #[.int .i64 ((B:Int) - 1),.int .i64 ((B:Int)+1)] ib)∧Hid (GNd wr (.slice a1 n1 c1) (.slice a2 n2 c2) (.slice b1 m1 d1) (.slice b2 m2 d2) (.slice (some ⟨kb,koff,none⟩) N ca) nd hnd l)) (fun vi _=>2 - (RowKit.intOf vi).toNat)
 case atStart=>exact⟨0,nd,_,_,_,_,B,ae,[],by omega,rfl,G0,B0,N0'⟩
 case round=>
  clear G0 B0 N0'
  obtain⟨i,j,ja,jc,vo,olds,at_,d,sn',hi,rfl,HG,HB,HNn⟩:=hrel
  by_cases hlt:i < 2
  ·have xk:=cell_at HB.out.b2 6
   have xi0:=cell_at HB.out.bi 0
   have xi1:=cell_at HB.out.bi 1
   simp only[qqD,qqE,qqF] at xk xi0 xi1
   have hi0:i=0∨i=1:=by omega
   rcases hi0 with rfl|rfl
   ·by_cases hB0:B=0
    ·have e5:decide ((B:Int) - 1 < 0)=true:=decide_eq_true (by omega)
     have e6:(B:Int) - 1 < 0:=by omega
     have HB0:=qh hB0
     clear hB0 hlt hi xi1
     go_upto_region 7 with fail
     go_wp2
     go_roundw
     case rel=>
      have HGn:∀ w',Below wr.heap.size wr w'→Hid (GLp w w' G l B ⟨hk0,hid,htx,hbody⟩ nd bb (0+1) j ja jc vo olds at_ d sn'):=fun w' b=>(HG.out.skip fun k h5 h6=>by have:=HB0.out;omega).drew b
      exact⟨0+1,j,ja,jc,vo,olds,at_,d,sn',by omega,by go_num,HGn _ (by first|exact Below.refl _ _|exact (Below.refl _ _).drew),qh (HB.out.below (by first|exact Below.refl _ _|exact (Below.refl _ _).drew)),qh (HNn.out.keep (FrT.of (by first|exact Below.refl _ _|exact (Below.refl _ _).drew)))⟩
     case measure=>simp[RowKit.intOf]
    ·obtain⟨k,hk⟩:∃ k,B=k+1:=⟨B - 1,by omega⟩
     obtain⟨q9,hq9⟩:∃ q,l[k]?=some q:=⟨_,List.getElem?_eq_getElem (by have:=HN.out;have:=HBl.out;omega)⟩
     obtain⟨nd',tx,hnb,hkd9⟩:=HNX.out k q9 (.inl (by omega)) hq9
     have hs0:sn'=[]:=by
      cases sn' with
      | nil=>rfl
      | cons x xs=>obtain⟨_,_,_,_,h9⟩:=HG.out.seen x (List.mem_cons_self ..);omega
     subst hs0
     have hCA:CAt wr G:=by
      have h9:=HG.out.grp.went.at_
      have eG:({ G with sn:=G.sn++[] }:Cg)=G:=by cases G;simp
      rw[eG] at h9
      exact h9
     have hcall:=both_left wr G ⟨⟨hk0,hid,htx,hbody⟩,hnd,.slice b1 m1 d1,.slice b2 m2 d2,hat0⟩ ⟨⟨ak0,aid,atx,abody⟩,.tw l,.slice none 0 0,.slice (some ⟨kb,koff,none⟩) N ca,(B:Int)⟩ nd nd' (.slice a1 n1 c1) (.slice a2 n2 c2) l k B q9 q tx hCA hl HNn.out.nd HNn.out.hnd rfl ⟨rfl,HNn.out.kd⟩ rfl (by omega) hq9 HQ.out (by rw[← HN.out];exact hll.2) hnb hkd9 (by have:=HLen.out.1;have:=Nd.len_sum nd';have:=hnb.good.sum;omega) (by have:=HZ1.out;have:=HN0.out;omega) (by omega)
     unfold Sp.v Nd.v Grv at hcall
     simp only[show (Nd.tw l).kind=4 from rfl,join_kind] at hcall
     rw[← HKe.out,← HK2e.out,hkd9,← HKe.out] at hcall
     have HCall:=qh hcall
     have e5:decide ((B:Int) - 1 < 0)=false:=decide_eq_false (by omega)
     have e8:¬ ((B:Int) - 1 < 0):=by omega
     have e6:decide ((N:Int)≤(B:Int) - 1)=false:=decide_eq_false (by have:=HBl.out;omega)
     have e9:¬ ((N:Int)≤(B:Int) - 1):=by have:=HBl.out;omega
     have e10:(B:Int) - 1=(k:Int):=by omega
     have hz0:=cell_at HB.out.b0 0
     have hz1:=cell_at HB.out.b0 1
     have hz2:=cell_at HB.out.b0 2
     have hy0:=cell_at HB.out.b1 0
     have hy1:=cell_at HB.out.b1 1
     have hy2:=cell_at HB.out.b1 2
     have hy3:=cell_at HB.out.b1 3
     have hy4:=cell_at HB.out.b1 4
     have hy5:=cell_at HB.out.b1 5
     have hy6:=cell_at HB.out.b1 6
     have hy7:=cell_at HB.out.b1 7
     have hw0:=cell_at HB.out.b2 0
     have hw1:=cell_at HB.out.b2 1
     have hw2':=cell_at HB.out.b2 2
     have hw3:=cell_at HB.out.b2 3
     have hw4:=cell_at HB.out.b2 4
     have hw5:=cell_at HB.out.b2 5
     have hw7:=cell_at HB.out.b2 7
     simp only[qqD,qqE,qqF] at hz0 hz1 hz2 hy0 hy1 hy2 hy3 hy4 hy5 hy6 hy7 hw0 hw1 hw2' hw3 hw4 hw5 hw7
     have HNb:=qh hnb
     have HQ9:=qh hq9
     have HK9:=qh hk
     have HD9:=qh hkd9
     have HCA:=qh hCA
     clear hcall hCA hnb hq9 hk hkd9 hB0 hlt hi xi1
     rw[e10] at e5 e6 e8 e9 xi0
     clear e10
     go_upto_region 10 with (go_at_call 101;(with_reducible refine HCall.out.mono ?_);rintro e w6 ⟨ji,jk,vo9,rfl,hg9⟩;obtain⟨f1,f2,f3,f4,f5,f6,e11,e12,_⟩:=hg9.nd.lens;subst e11 e12;obtain⟨oa9,oc9,e13⟩:=hg9.old.pgs.slice;subst e13;have HG9:=qh hg9;clear hg9)
     obtain⟨W7,hW7⟩:∃ W,W=w6.alloc (.cells #[.int .i64 K,.slice f1 f2 f3,.slice f4 f5 f6,.slice oa9 2 oc9,.int .i64 (k:Nat),.bool false] 127):=⟨_,rfl⟩
     obtain⟨tb,htb⟩:∃ b,b=w6.heap.size:=⟨_,rfl⟩
     rw[← hW7]
     have v7:W7.heap[tb]?=some (.cells #[.int .i64 K,.slice f1 f2 f3,.slice f4 f5 f6,.slice oa9 2 oc9,.int .i64 (k:Nat),.bool false] 127 (0,0)):=by rw[hW7,htb];exact new_at _ _ _
     have hb7:Below w6.heap.size w6 W7:=by rw[hW7];exact below_new _ _
     have b7:=(HB.out.went HG9.out.went HSw.out HIb.out).below hb7
     rw[← htb]
     have t0:=cell_at v7 0
     have t1:=cell_at v7 1
     have t2:=cell_at v7 2
     simp only[qqD,qqE,qqF] at t0 t1 t2
     obtain⟨fb,hfb⟩:∃ b,b=(nd'.join nd q.key).fits:=⟨_,rfl⟩
     have hfit:=fun W (b:Below W7.heap.size W7 W)=>fits_any W none _ _ (nd'.join nd q.key) (HG9.out.nd.keep ((FrT.of hb7).trans (FrT.of b))) (by have:=join_sum nd' nd q.key;have:=HKs.out B q HQ.out;have:=HNb.out.good.sum;have:=HLen.out.2.1;omega)
     unfold Nd.v at hfit
     simp only[join_kind] at hfit
     rw[HD9.out,← HKe.out,← hfb] at hfit
     have HFit:=qh hfit
     have HFb:=qh hfb
     have V7:=qh v7
     have HB7:=qh hb7
     have B7:=qh b7
     have HX7:=qh (Below.refl W7.heap.size W7)
     clear hfit hfb v7 hb7 b7 hW7 htb
     clear hz0 hz1 hz2 hy0 hy1 hy2 hy3 hy4 hy5 hy6 hy7 hw0 hw1 hw2' hw3 hw4 hw5 hw7 xi0 xk
     cases fb
     case true=>
      go_upto_region 13 with (go_at_call 102;(with_reducible refine (HFit.out _ HX7.out).mono ?_);rintro e w8 ⟨rfl,hg8⟩;have HG8:=qh hg8;clear hg8)
      have hv:=P3.old_below V7.out HG8.out
      have b8:=B7.out.below HG8.out
      have x0:=cell_at hv 0
      have x1:=cell_at hv 1
      have x2:=cell_at hv 2
      have x3:=cell_at hv 3
      have x4:=cell_at hv 4
      have x5:=cell_at hv 5
      have y0:=cell_at b8.b3 0
      have y1:=cell_at b8.b3 1
      have y2:=cell_at b8.b3 2
      have y3:=cell_at b8.b3 3
      have y4:=cell_at b8.b3 4
      have y5:=cell_at b8.b3 5
      have u0:=free_at b8.b3 0
      have u1:=free_at b8.b3 1
      have u2:=free_at b8.b3 2
      have u3:=free_at b8.b3 3
      have u4:=free_at b8.b3 4
      have u5:=free_at b8.b3 5
      simp only[qqD,qqE,qqF] at x0 x1 x2 x3 x4 x5 y0 y1 y2 y3 y4 y5
      have HZz:=qh b8.b3
      clear hv b8 t0 t1 t2
      go_wp2
      clear x0 x1 x2 x3 x4 x5 y0 y1 y2 y3 y4 y5 u0 u1 u2 u3 u4 u5
      obtain⟨hr,fw⟩:=put6 HZz.out (.int .i64 K) (.slice f1 f2 f3) (.slice f4 f5 f6) (.slice oa9 2 oc9) (.int .i64 (k:Nat)) (.bool false)
      have hft:=FrT.ofFr (x:=none) fw fun j' cs t hj hst e=>by
       subst hj
       rw[HZz.out] at e
       cases e
       rcases hst.1 with h9|h9 <;> cases h9
      have hb8:=thenBelow HB7.out HG8.out
      have eG:({ G with sn:=G.sn++[] }:Cg)=G:=by cases G;simp
      have hg0:=HG.out.grp.went
      rw[eG] at hg0
      have hgw:=(hg0.trans HG9.out.went).then hb8
      have ho8:=HG9.out.old.went (Went.below HG9.out.went.at_ hb8)
      refine bodyPost_ret (group_result2 rfl _ _ (w.heap.size+1+1+1) _ rfl hr rfl) rfl ⟨nd'.join nd q.key,.slice f1 f2 f3,.slice f4 f5 f6,.slice oa9 2 oc9,[⟨K,q9.page,tx,nd'.body⟩,⟨hk0,hid,htx,hbody⟩],k,false,[q9.page],?_,⟨Nat.succ_le_succ (Nat.zero_le _),fun x hx=>⟨k,q9,HQ9.out,List.mem_singleton.1 hx⟩,.inr (by have:=HZ2.out;have:=HN0.out;have:=HH0.out;show nd.len < hnd.len;omega)⟩,.inr (.inl ⟨q9,q,nd',tx,?_,HK9.out.symm,HQ9.out,HQ.out,HNb.out,HD9.out,rfl,(by rw[HD9.out,← HKe.out])⟩),(HG9.out.nd.keep (FrT.of hb8)).keep hft,?_,?_⟩
      ·unfold Grv
       rw[join_kind,HD9.out,← HKe.out]
       rfl
      ·have:=HZ1.out
       have:=HN0.out
       omega
      ·refine⟨elems_blk ho8.pgs fw.size fun j' hj'=>fw.block j' (ho8.off j' hj').2 fun e=>?_,fun j' hj'=>⟨(ho8.off j' hj').1,Nat.lt_of_lt_of_le (ho8.off j' hj').2 fw.size⟩⟩
       have e':j'=w.heap.size+3:=e
       subst e'
       exact grp_not ho8.pgs (p:=⟨K,q9.page,tx,nd'.body⟩) rfl hj' HZz.out
      ·refine hgw.ext HH.out rfl fw fun k9 hk9=>⟨by omega,fun e=>?_⟩
       have:=HH.out.lt (show G.S k9 from e)
       omega
     case false=>
      go_upto_region 14 with (go_at_call 102;(with_reducible refine (HFit.out _ HX7.out).mono ?_);rintro e w8 ⟨rfl,hg8⟩;have HG8:=qh hg8;clear hg8)
      have HW8:=qh (Below.refl w8.heap.size w8)
      have HN8:=qh (HNn.out.keep (HG9.out.went.ft.trans ((FrT.of HB7.out).trans (FrT.of HG8.out))))
      have HB8:=qh (B7.out.below HG8.out)
      have HS8:Hid (∀ W,Below w8.heap.size w8 W→W.cell? ⟨w.heap.size,0,none⟩=some (.int .i64 K)∧W.cell? ⟨w.heap.size,1,none⟩=some (.slice a1 n1 c1)∧W.cell? ⟨w.heap.size,2,none⟩=some (.slice a2 n2 c2)):=fun W b=>by
       have r:=(HB8.out.below b).b0
       exact⟨cell_at r 0,cell_at r 1,cell_at r 2⟩
      have HC8:Hid (∀ W,Below w8.heap.size w8 W→Calls Tryz.prog 97 #[.agg #[.int .i64 K,.slice a1 n1 c1,.slice a2 n2 c2]] W fun e w'=>e=.returned (.int .i64 (n0:Nat))∧Below w8.heap.size w8 w'):=fun W b=>by
       have h9:=count_any W none _ _ nd (HN8.out.nd.keep (FrT.of b)) (Nat.le_trans HLen.out.1 (by decide))
       unfold Nd.v at h9
       rw[← HKe.out,← HN0.out] at h9
       exact h9.mono fun e w' ⟨g1,g2⟩=>⟨g1,thenBelow b g2⟩
      obtain⟨ls,hls⟩:∃ n,n=nd.least:=⟨_,rfl⟩
      have HD8:Hid (∀ W,Below w8.heap.size w8 W→Calls Tryz.prog 98 #[.agg #[.int .i64 K,.slice a1 n1 c1,.slice a2 n2 c2]] W fun e w'=>e=.returned (.int .i64 (ls:Nat))∧Below w8.heap.size w8 w'):=fun W b=>by
       have h9:=least_any W (.slice a1 n1 c1) (.slice a2 n2 c2) nd
       unfold Nd.v at h9
       rw[← HKe.out,← hls] at h9
       exact h9.mono fun e w' ⟨g1,g2⟩=>⟨g1,thenBelow b g2⟩
      have HLs:=qh hls
      clear hls t0 t1 t2
      go_region_held3 (fun W=>W.cell? ⟨w.heap.size,0,none⟩=some (.int .i64 K)∧W.cell? ⟨w.heap.size,1,none⟩=some (.slice a1 n1 c1)∧W.cell? ⟨w.heap.size,2,none⟩=some (.slice a2 n2 c2)) (first|(with_reducible exact HS8.out _ HW8.out)|(with_reducible exact HS8.out _ HW8.out.drew)|(with_reducible exact HS8.out _ HZ8.out)|(with_reducible exact HS8.out _ HZ8.out.drew))
       ((first
        | (go_at_call 97;(with_reducible refine (HC8.out _ (by first|(with_reducible exact HZ8.out)|(with_reducible exact HZ8.out.drew)|(with_reducible exact HW8.out)|(with_reducible exact HW8.out.drew))).mono ?_);rintro e w9 ⟨rfl,hz⟩;have HZ8:=qh hz;clear hz)
        | (go_at_call 98;(with_reducible refine (HD8.out _ (by first|(with_reducible exact HZ8.out)|(with_reducible exact HZ8.out.drew)|(with_reducible exact HW8.out)|(with_reducible exact HW8.out.drew))).mono ?_);rintro e w9 ⟨rfl,hz⟩;have HZ8:=qh hz;clear hz)))
      all_goals
       have hb9:=thenBelow (thenBelow HB7.out HG8.out) HZ8.out
       have hwb:w.heap.size+3 < bb:=Nat.lt_of_lt_of_le HRx.out HGe.out
       have eG:G=({ G with sn:=G.sn++[] }:Cg):=by cases G;simp
       have HX9:Hid (∃ k' q',l[k']?=some q'∧q9.page=q'.page∧((1≤0+1∧k'+1=B)∨(2≤0+1∧k'=B+1))):=qh ⟨k,q9,HQ9.out,rfl,.inl ⟨by omega,HK9.out.symm⟩⟩
       have HB9:=qh hb9
       have HWb:=qh hwb
       have HEG:=qh eG
       by_cases hlt9:n0 < ls
       ·have e7:decide ((n0:Int) < (ls:Int))=true:=decide_eq_true (by omega)
        have e8':(n0:Int) < (ls:Int):=by omega
        have hv:=P3.old_below V7.out (thenBelow HG8.out HZ8.out)
        have hbb:=P3.old_below (HG9.out.went.box HG.out.best fun e=>by have:=HSw.out _ e;omega).1 hb9
        have x0:=cell_at hv 0
        have x1:=cell_at hv 1
        have x2:=cell_at hv 2
        have x3:=cell_at hv 3
        have x4:=cell_at hv 4
        have x5:=cell_at hv 5
        have y0:=cell_at hbb 0
        have y1:=cell_at hbb 1
        have y2:=cell_at hbb 2
        have y3:=cell_at hbb 3
        have y4:=cell_at hbb 4
        have y5:=cell_at hbb 5
        have u0:=free_at hbb 0
        have u1:=free_at hbb 1
        have u2:=free_at hbb 2
        have u3:=free_at hbb 3
        have u4:=free_at hbb 4
        have u5:=free_at hbb 5
        simp only[qqD,qqE,qqF] at x0 x1 x2 x3 x4 x5 y0 y1 y2 y3 y4 y5
        have HBb:=qh hbb
        clear hv hbb hb9 hwb eG
        go_wp2
        clear x0 x1 x2 x3 x4 x5 y0 y1 y2 y3 y4 y5 u0 u1 u2 u3 u4 u5
        obtain⟨hr,fw⟩:=put6 HBb.out (.int .i64 K) (.slice f1 f2 f3) (.slice f4 f5 f6) (.slice oa9 2 oc9) (.int .i64 (k:Nat)) (.bool false)
        have hkj:K=(nd'.join nd q.key).kind:=by rw[join_kind,HD9.out,← HKe.out]
        have hGo:GOut G l B ⟨hk0,hid,htx,hbody⟩ nd (nd'.join nd q.key) [⟨K,q9.page,tx,nd'.body⟩,⟨hk0,hid,htx,hbody⟩] k:=.inr (.inl ⟨q9,q,nd',tx,(by have:=HZ1.out;have:=HN0.out;omega),HK9.out.symm,HQ9.out,HQ.out,HNb.out,HD9.out,rfl,(by rw[HD9.out,← HKe.out])⟩)
        have hbt:=HG.out.better HH.out HSw.out (by have:=HWb.out;omega) HEG.out rfl HG9.out HB9.out hkj hr fw hGo HX9.out
        have HT9:=qh hbt
        have HF9:=qh fw
        clear hr fw hkj hGo hbt
        go_roundw
        case rel=>
         exact⟨0+1,nd'.join nd q.key,.slice f1 f2 f3,.slice f4 f5 f6,.slice oa9 2 oc9,[⟨K,q9.page,tx,nd'.body⟩,⟨hk0,hid,htx,hbody⟩],k,false,[]++[q9.page],by omega,by go_num,qh HT9.out.1,qh ((HB8.out.below HZ8.out).put HF9.out HWb.out HBi.out),qh ((HN8.out.keep (FrT.of HZ8.out)).keep HT9.out.2)⟩
        case measure=>simp[RowKit.intOf]
       ·have e7:decide ((n0:Int) < (ls:Int))=false:=decide_eq_false (by omega)
        have e8':¬ ((n0:Int) < (ls:Int)):=by omega
        have HT9:=qh (HG.out.stay HSw.out (by omega) eG rfl (HG9.out.went.then hb9) (by have:=HN0.out;have:=HLs.out;omega) HX9.out)
        clear hb9 hwb eG
        go_wp2
        go_roundw
        case rel=>
         exact⟨0+1,j,ja,jc,vo,olds,at_,d,[]++[q9.page],by omega,by go_num,qh HT9.out,qh (HB8.out.below HZ8.out),qh (HN8.out.keep (FrT.of HZ8.out))⟩
        case measure=>simp[RowKit.intOf]
   ·by_cases hB0:N≤B+1
    ·have e5:decide ((B:Int)+1 < 0)=false:=decide_eq_false (by omega)
     have e6:decide ((N:Int)≤(B:Int)+1)=true:=decide_eq_true (by omega)
     have e7:decide (N≤B+1)=true:=decide_eq_true hB0
     have e8:¬ ((B:Int)+1 < 0):=by omega
     have e9:(N:Int)≤(B:Int)+1:=by omega
     have HB0:=qh hB0
     clear hB0 hlt hi xi0
     go_wp2
     go_roundw
     case rel=>
      have HGn:∀ w',Below wr.heap.size wr w'→Hid (GLp w w' G l B ⟨hk0,hid,htx,hbody⟩ nd bb (1+1) j ja jc vo olds at_ d sn'):=fun w' b=>(HG.out.skip fun k h5 h6=>by have:=HB0.out;have:=HN.out;omega).drew b
      exact⟨1+1,j,ja,jc,vo,olds,at_,d,sn',by omega,by go_num,HGn _ (by first|exact Below.refl _ _|exact (Below.refl _ _).drew),qh (HB.out.below (by first|exact Below.refl _ _|exact (Below.refl _ _).drew)),qh (HNn.out.keep (FrT.of (by first|exact Below.refl _ _|exact (Below.refl _ _).drew)))⟩
     case measure=>simp[RowKit.intOf]
    ·obtain⟨k,hk⟩:∃ k,k=B+1:=⟨_,rfl⟩
     obtain⟨q9,hq9⟩:∃ q,l[k]?=some q:=⟨_,List.getElem?_eq_getElem (by have:=HN.out;omega)⟩
     obtain⟨nd',tx,hnb,hkd9⟩:=HNX.out k q9 (.inr hk) hq9
     have hCA:=HG.out.grp.went.at_
     have hsl:=HG.out.snl
     have hnb1:Nb { G with sn:=G.sn++sn' } q9.page nd' tx:=by
      refine⟨hnb.get,hnb.good,fun e=>?_⟩
      rcases List.mem_append.1 e with e|e
      ·exact hnb.new e
      ·obtain⟨k',q',g1,g2,g3⟩:=HG.out.seen _ e
       exact HDi.out k k' q9 q' (by omega) hq9 g1 g2
     have hcall:=both_right wr { G with sn:=G.sn++sn' } ⟨⟨hk0,hid,htx,hbody⟩,hnd,.slice b1 m1 d1,.slice b2 m2 d2,hat0⟩ ⟨⟨ak0,aid,atx,abody⟩,.tw l,.slice none 0 0,.slice (some ⟨kb,koff,none⟩) N ca,(B:Int)⟩ nd nd' (.slice a1 n1 c1) (.slice a2 n2 c2) l k B q9 tx hCA hl HNn.out.nd HNn.out.hnd rfl ⟨rfl,HNn.out.kd⟩ rfl (by omega) hq9 (by rw[← HN.out];exact hll.2) hnb1 hkd9 (by have:=HLen.out.1;have:=Nd.len_sum nd';have:=hnb.good.sum;omega) (by have:=hnb.good.pos;have h9:1≤nd'.least:=(by cases nd' <;> first|exact Nat.le_refl 1|exact Nat.le_succ 1);omega) (by show (G.sn++sn').length≤100000;rw[List.length_append];omega)
     unfold Sp.v Nd.v Grv at hcall
     simp only[show (Nd.tw l).kind=4 from rfl,join_kind] at hcall
     rw[← HKe.out,← HK2e.out,hkd9,← HKe.out] at hcall
     have HCall:=qh hcall
     have e5:decide ((B:Int)+1 < 0)=false:=decide_eq_false (by omega)
     have e8:¬ ((B:Int)+1 < 0):=by omega
     have e6:decide ((N:Int)≤(B:Int)+1)=false:=decide_eq_false (by omega)
     have e7:decide (N≤k)=false:=decide_eq_false (by omega)
     have e9:¬ ((N:Int)≤(B:Int)+1):=by omega
     have e10:(B:Int)+1=(k:Int):=by omega
     have hz0:=cell_at HB.out.b0 0
     have hz1:=cell_at HB.out.b0 1
     have hz2:=cell_at HB.out.b0 2
     have hy0:=cell_at HB.out.b1 0
     have hy1:=cell_at HB.out.b1 1
     have hy2:=cell_at HB.out.b1 2
     have hy3:=cell_at HB.out.b1 3
     have hy4:=cell_at HB.out.b1 4
     have hy5:=cell_at HB.out.b1 5
     have hy6:=cell_at HB.out.b1 6
     have hy7:=cell_at HB.out.b1 7
     have hw0:=cell_at HB.out.b2 0
     have hw1:=cell_at HB.out.b2 1
     have hw2':=cell_at HB.out.b2 2
     have hw3:=cell_at HB.out.b2 3
     have hw4:=cell_at HB.out.b2 4
     have hw5:=cell_at HB.out.b2 5
     have hw7:=cell_at HB.out.b2 7
     simp only[qqD,qqE,qqF] at hz0 hz1 hz2 hy0 hy1 hy2 hy3 hy4 hy5 hy6 hy7 hw0 hw1 hw2' hw3 hw4 hw5 hw7
     have HNb:=qh hnb
     have HQ9:=qh hq9
     have HK9:=qh hk
     have HD9:=qh hkd9
     have HCA:=qh hCA
     clear hcall hCA hnb hnb1 hsl hq9 hk hkd9 hB0 hlt hi xi0
     rw[e10] at e5 e6 e8 e9 xi1
     clear e10
     go_upto_region 10 with (go_at_call 101;(with_reducible refine HCall.out.mono ?_);rintro e w6 ⟨ji,jk,vo9,rfl,hg9⟩;obtain⟨f1,f2,f3,f4,f5,f6,e11,e12,_⟩:=hg9.nd.lens;subst e11 e12;obtain⟨oa9,oc9,e13⟩:=hg9.old.pgs.slice;subst e13;have HG9:=qh hg9;clear hg9)
     obtain⟨W7,hW7⟩:∃ W,W=w6.alloc (.cells #[.int .i64 K,.slice f1 f2 f3,.slice f4 f5 f6,.slice oa9 2 oc9,.int .i64 (B:Nat),.bool false] 127):=⟨_,rfl⟩
     obtain⟨tb,htb⟩:∃ b,b=w6.heap.size:=⟨_,rfl⟩
     rw[← hW7]
     have v7:W7.heap[tb]?=some (.cells #[.int .i64 K,.slice f1 f2 f3,.slice f4 f5 f6,.slice oa9 2 oc9,.int .i64 (B:Nat),.bool false] 127 (0,0)):=by rw[hW7,htb];exact new_at _ _ _
     have hb7:Below w6.heap.size w6 W7:=by rw[hW7];exact below_new _ _
     have b7:=(HB.out.went HG9.out.went (fun j e=>HSw.out j e) HIb.out).below hb7
     rw[← htb]
     have t0:=cell_at v7 0
     have t1:=cell_at v7 1
     have t2:=cell_at v7 2
     simp only[qqD,qqE,qqF] at t0 t1 t2
     obtain⟨fb,hfb⟩:∃ b,b=(nd.join nd' q9.key).fits:=⟨_,rfl⟩
     have hfit:=fun W (b:Below W7.heap.size W7 W)=>fits_any W none _ _ (nd.join nd' q9.key) (HG9.out.nd.keep ((FrT.of hb7).trans (FrT.of b))) (by have:=join_sum nd nd' q9.key;have:=HKs.out k q9 HQ9.out;have:=HNb.out.good.sum;have:=HLen.out.2.1;omega)
     unfold Nd.v at hfit
     simp only[join_kind] at hfit
     rw[← HKe.out,← hfb] at hfit
     have HFit:=qh hfit
     have HFb:=qh hfb
     have V7:=qh v7
     have HB7:=qh hb7
     have B7:=qh b7
     have HX7:=qh (Below.refl W7.heap.size W7)
     clear hfit hfb v7 hb7 b7 hW7 htb
     clear hz0 hz1 hz2 hy0 hy1 hy2 hy3 hy4 hy5 hy6 hy7 hw0 hw1 hw2' hw3 hw4 hw5 hw7 xi1 xk
     cases fb
     case true=>
      go_upto_region 13 with (go_at_call 102;(with_reducible refine (HFit.out _ HX7.out).mono ?_);rintro e w8 ⟨rfl,hg8⟩;have HG8:=qh hg8;clear hg8)
      have hv:=P3.old_below V7.out HG8.out
      have b8:=B7.out.below HG8.out
      have x0:=cell_at hv 0
      have x1:=cell_at hv 1
      have x2:=cell_at hv 2
      have x3:=cell_at hv 3
      have x4:=cell_at hv 4
      have x5:=cell_at hv 5
      have y0:=cell_at b8.b3 0
      have y1:=cell_at b8.b3 1
      have y2:=cell_at b8.b3 2
      have y3:=cell_at b8.b3 3
      have y4:=cell_at b8.b3 4
      have y5:=cell_at b8.b3 5
      have u0:=free_at b8.b3 0
      have u1:=free_at b8.b3 1
      have u2:=free_at b8.b3 2
      have u3:=free_at b8.b3 3
      have u4:=free_at b8.b3 4
      have u5:=free_at b8.b3 5
      simp only[qqD,qqE,qqF] at x0 x1 x2 x3 x4 x5 y0 y1 y2 y3 y4 y5
      have HZz:=qh b8.b3
      clear hv b8 t0 t1 t2
      go_wp2
      clear x0 x1 x2 x3 x4 x5 y0 y1 y2 y3 y4 y5 u0 u1 u2 u3 u4 u5
      obtain⟨hr,fw⟩:=put6 HZz.out (.int .i64 K) (.slice f1 f2 f3) (.slice f4 f5 f6) (.slice oa9 2 oc9) (.int .i64 (B:Nat)) (.bool false)
      have hft:=FrT.ofFr (x:=none) fw fun j' cs t hj hst e=>by
       subst hj
       rw[HZz.out] at e
       cases e
       rcases hst.1 with h9|h9 <;> cases h9
      have hb8:=thenBelow HB7.out HG8.out
      have hgw:Went w w8 G { G with sn:=G.sn++(sn'++[q9.page]) }:=by
       rw[← List.append_assoc]
       exact (HG.out.grp.went.trans HG9.out.went).then hb8
      have ho8:=HG9.out.old.went (Went.below HG9.out.went.at_ hb8)
      refine bodyPost_ret (group_result2 rfl _ _ (w.heap.size+1+1+1) _ rfl hr rfl) rfl ⟨nd.join nd' q9.key,.slice f1 f2 f3,.slice f4 f5 f6,.slice oa9 2 oc9,[⟨hk0,hid,htx,hbody⟩,⟨K,q9.page,tx,nd'.body⟩],B,false,sn'++[q9.page],?_,⟨by rw[List.length_append,List.length_singleton];have:=HG.out.snl;omega,fun x hx=>by
       rcases List.mem_append.1 hx with hx|hx
       ·obtain⟨k',q',g1,g2,_⟩:=HG.out.seen x hx
        exact⟨k',q',g1,g2⟩
       ·exact⟨k,q9,HQ9.out,List.mem_singleton.1 hx⟩,.inr (by have:=HZ2.out;have:=HN0.out;have:=HH0.out;show nd.len < hnd.len;omega)⟩,.inr (.inr ⟨q9,nd',tx,?_,rfl,(by rw[← HK9.out];exact HQ9.out),HNb.out,HD9.out,rfl,(by rw[HD9.out,← HKe.out])⟩),(HG9.out.nd.keep (FrT.of hb8)).keep hft,?_,?_⟩
      ·unfold Grv
       rw[join_kind,← HKe.out]
       rfl
      ·have:=HZ1.out
       have:=HN0.out
       omega
      ·refine⟨elems_blk ho8.pgs fw.size fun j' hj'=>fw.block j' (ho8.off j' hj').2 fun e=>?_,fun j' hj'=>⟨(ho8.off j' hj').1,Nat.lt_of_lt_of_le (ho8.off j' hj').2 fw.size⟩⟩
       have e':j'=w.heap.size+3:=e
       subst e'
       exact grp_not ho8.pgs (p:=⟨hk0,hid,htx,hbody⟩) rfl hj' HZz.out
      ·refine hgw.ext HH.out rfl fw fun k9 hk9=>⟨by omega,fun e=>?_⟩
       have:=HH.out.lt (show G.S k9 from e)
       omega
     case false=>
      go_upto_region 14 with (go_at_call 102;(with_reducible refine (HFit.out _ HX7.out).mono ?_);rintro e w8 ⟨rfl,hg8⟩;have HG8:=qh hg8;clear hg8)
      have HW8:=qh (Below.refl w8.heap.size w8)
      have HN8:=qh (HNn.out.keep (HG9.out.went.ft.trans ((FrT.of HB7.out).trans (FrT.of HG8.out))))
      have HB8:=qh (B7.out.below HG8.out)
      have HS8:Hid (∀ W,Below w8.heap.size w8 W→W.cell? ⟨w.heap.size,0,none⟩=some (.int .i64 K)∧W.cell? ⟨w.heap.size,1,none⟩=some (.slice a1 n1 c1)∧W.cell? ⟨w.heap.size,2,none⟩=some (.slice a2 n2 c2)):=fun W b=>by
       have r:=(HB8.out.below b).b0
       exact⟨cell_at r 0,cell_at r 1,cell_at r 2⟩
      have HC8:Hid (∀ W,Below w8.heap.size w8 W→Calls Tryz.prog 97 #[.agg #[.int .i64 K,.slice a1 n1 c1,.slice a2 n2 c2]] W fun e w'=>e=.returned (.int .i64 (n0:Nat))∧Below w8.heap.size w8 w'):=fun W b=>by
       have h9:=count_any W none _ _ nd (HN8.out.nd.keep (FrT.of b)) (Nat.le_trans HLen.out.1 (by decide))
       unfold Nd.v at h9
       rw[← HKe.out,← HN0.out] at h9
       exact h9.mono fun e w' ⟨g1,g2⟩=>⟨g1,thenBelow b g2⟩
      obtain⟨ls,hls⟩:∃ n,n=nd.least:=⟨_,rfl⟩
      have HD8:Hid (∀ W,Below w8.heap.size w8 W→Calls Tryz.prog 98 #[.agg #[.int .i64 K,.slice a1 n1 c1,.slice a2 n2 c2]] W fun e w'=>e=.returned (.int .i64 (ls:Nat))∧Below w8.heap.size w8 w'):=fun W b=>by
       have h9:=least_any W (.slice a1 n1 c1) (.slice a2 n2 c2) nd
       unfold Nd.v at h9
       rw[← HKe.out,← hls] at h9
       exact h9.mono fun e w' ⟨g1,g2⟩=>⟨g1,thenBelow b g2⟩
      have HLs:=qh hls
      clear hls t0 t1 t2
      go_region_held3 (fun W=>W.cell? ⟨w.heap.size,0,none⟩=some (.int .i64 K)∧W.cell? ⟨w.heap.size,1,none⟩=some (.slice a1 n1 c1)∧W.cell? ⟨w.heap.size,2,none⟩=some (.slice a2 n2 c2)) (first|(with_reducible exact HS8.out _ HW8.out)|(with_reducible exact HS8.out _ HW8.out.drew)|(with_reducible exact HS8.out _ HZ8.out)|(with_reducible exact HS8.out _ HZ8.out.drew))
       ((first
        | (go_at_call 97;(with_reducible refine (HC8.out _ (by first|(with_reducible exact HZ8.out)|(with_reducible exact HZ8.out.drew)|(with_reducible exact HW8.out)|(with_reducible exact HW8.out.drew))).mono ?_);rintro e w9 ⟨rfl,hz⟩;have HZ8:=qh hz;clear hz)
        | (go_at_call 98;(with_reducible refine (HD8.out _ (by first|(with_reducible exact HZ8.out)|(with_reducible exact HZ8.out.drew)|(with_reducible exact HW8.out)|(with_reducible exact HW8.out.drew))).mono ?_);rintro e w9 ⟨rfl,hz⟩;have HZ8:=qh hz;clear hz)))
      all_goals
       have hb9:=thenBelow (thenBelow HB7.out HG8.out) HZ8.out
       have hwb:w.heap.size+3 < bb:=Nat.lt_of_lt_of_le HRx.out HGe.out
       have eG:({ { G with sn:=G.sn++sn' } with sn:=({ G with sn:=G.sn++sn' }:Cg).sn++[q9.page] }:Cg)={ G with sn:=G.sn++(sn'++[q9.page]) }:=by
        show ({ G with sn:=(G.sn++sn')++[q9.page] }:Cg)=_
        rw[List.append_assoc]
       have HX9:Hid (∃ k' q',l[k']?=some q'∧q9.page=q'.page∧((1≤1+1∧k'+1=B)∨(2≤1+1∧k'=B+1))):=qh ⟨k,q9,HQ9.out,rfl,.inr ⟨by omega,HK9.out⟩⟩
       have HB9:=qh hb9
       have HWb:=qh hwb
       have HEG:=qh eG
       by_cases hlt9:n0 < ls
       ·have e7:decide ((n0:Int) < (ls:Int))=true:=decide_eq_true (by omega)
        have e8':(n0:Int) < (ls:Int):=by omega
        have hv:=P3.old_below V7.out (thenBelow HG8.out HZ8.out)
        have hbb:=P3.old_below (HG9.out.went.box HG.out.best fun e=>by have:=HSw.out _ (show G.S bb from e);omega).1 hb9
        have x0:=cell_at hv 0
        have x1:=cell_at hv 1
        have x2:=cell_at hv 2
        have x3:=cell_at hv 3
        have x4:=cell_at hv 4
        have x5:=cell_at hv 5
        have y0:=cell_at hbb 0
        have y1:=cell_at hbb 1
        have y2:=cell_at hbb 2
        have y3:=cell_at hbb 3
        have y4:=cell_at hbb 4
        have y5:=cell_at hbb 5
        have u0:=free_at hbb 0
        have u1:=free_at hbb 1
        have u2:=free_at hbb 2
        have u3:=free_at hbb 3
        have u4:=free_at hbb 4
        have u5:=free_at hbb 5
        simp only[qqD,qqE,qqF] at x0 x1 x2 x3 x4 x5 y0 y1 y2 y3 y4 y5
        have HBb:=qh hbb
        clear hv hbb hb9 hwb eG
        go_wp2
        clear x0 x1 x2 x3 x4 x5 y0 y1 y2 y3 y4 y5 u0 u1 u2 u3 u4 u5
        obtain⟨hr,fw⟩:=put6 HBb.out (.int .i64 K) (.slice f1 f2 f3) (.slice f4 f5 f6) (.slice oa9 2 oc9) (.int .i64 (B:Nat)) (.bool false)
        have hkj:K=(nd.join nd' q9.key).kind:=by rw[join_kind,← HKe.out]
        have hGo:GOut G l B ⟨hk0,hid,htx,hbody⟩ nd (nd.join nd' q9.key) [⟨hk0,hid,htx,hbody⟩,⟨K,q9.page,tx,nd'.body⟩] B:=.inr (.inr ⟨q9,nd',tx,(by have:=HZ1.out;have:=HN0.out;omega),rfl,(by rw[← HK9.out];exact HQ9.out),HNb.out,HD9.out,rfl,(by rw[HD9.out,← HKe.out])⟩)
        have hbt:=HG.out.better HH.out HSw.out (by have:=HWb.out;omega) rfl HEG.out HG9.out HB9.out hkj hr fw hGo HX9.out
        have HT9:=qh hbt
        have HF9:=qh fw
        clear hr fw hkj hGo hbt
        go_roundw
        case rel=>
         exact⟨1+1,nd.join nd' q9.key,.slice f1 f2 f3,.slice f4 f5 f6,.slice oa9 2 oc9,[⟨hk0,hid,htx,hbody⟩,⟨K,q9.page,tx,nd'.body⟩],B,false,sn'++[q9.page],by omega,by go_num,qh HT9.out.1,qh ((HB8.out.below HZ8.out).put HF9.out HWb.out HBi.out),qh ((HN8.out.keep (FrT.of HZ8.out)).keep HT9.out.2)⟩
        case measure=>simp[RowKit.intOf]
       ·have e7:decide ((n0:Int) < (ls:Int))=false:=decide_eq_false (by omega)
        have e8':¬ ((n0:Int) < (ls:Int)):=by omega
        have HT9:=qh (HG.out.stay HSw.out (by omega) rfl eG (HG9.out.went.then hb9) (by have:=HN0.out;have:=HLs.out;omega) HX9.out)
        clear hb9 hwb eG
        go_wp2
        go_roundw
        case rel=>
         exact⟨1+1,j,ja,jc,vo,olds,at_,d,sn'++[q9.page],by omega,by go_num,qh HT9.out,qh (HB8.out.below HZ8.out),qh (HN8.out.keep (FrT.of HZ8.out))⟩
        case measure=>simp[RowKit.intOf]
  ·obtain rfl:i=2:=by omega
   have e1:decide (((2:Nat):Int) < 2)=false:=by decide
   obtain⟨f1,f2,f3,f4,f5,f6,rfl,rfl,_⟩:=HG.out.grp.nd.lens
   obtain⟨oa,oc,rfl⟩:=HG.out.grp.old.pgs.slice
   obtain⟨oN,hoN⟩:∃ n,n=olds.length:=⟨_,rfl⟩
   obtain⟨jk,hjk⟩:∃ k,k=j.kind:=⟨_,rfl⟩
   have hbest:=HG.out.best
   rw[← hoN,← hjk] at hbest
   have hz:=HB.out.b3
   have x0:=cell_at hbest 0
   have x1:=cell_at hbest 1
   have x2:=cell_at hbest 2
   have x3:=cell_at hbest 3
   have x4:=cell_at hbest 4
   have x5:=cell_at hbest 5
   have y0:=cell_at hz 0
   have y1:=cell_at hz 1
   have y2:=cell_at hz 2
   have y3:=cell_at hz 3
   have y4:=cell_at hz 4
   have y5:=cell_at hz 5
   have u0:=free_at hz 0
   have u1:=free_at hz 1
   have u2:=free_at hz 2
   have u3:=free_at hz 3
   have u4:=free_at hz 4
   have u5:=free_at hz 5
   simp only[qqD,qqE,qqF] at x0 x1 x2 x3 x4 x5 y0 y1 y2 y3 y4 y5
   have HZz:=qh hz
   have HO:=qh hoN
   have HJ:=qh hjk
   have HLl:=qh hll
   clear hbest hz hoN hjk hll
   go_wp2
   clear x0 x1 x2 x3 x4 x5 y0 y1 y2 y3 y4 y5 u0 u1 u2 u3 u4 u5
   obtain⟨hr,fw⟩:=put6 HZz.out (.int .i64 jk) (.slice f1 f2 f3) (.slice f4 f5 f6) (.slice oa oN oc) (.int .i64 (at_:Nat)) (.bool d)
   have hft:=FrT.ofFr (x:=none) fw fun j' cs t hj hst e=>by
    subst hj
    rw[HZz.out] at e
    cases e
    rcases hst.1 with h9|h9 <;> cases h9
   have hg:=HG.out.grp
   rw[← HO.out] at hg
   have hnS:∀ k,k=w.heap.size+3→¬ (({ G with sn:=G.sn++sn' }:Cg)).S k:=fun k hk e=>by
    have:=HH.out.lt (show G.S k from e)
    omega
   refine bodyPost_ret (group_result2 rfl _ _ (w.heap.size+1+1+1) _ rfl hr rfl) rfl ⟨j,.slice f1 f2 f3,.slice f4 f5 f6,.slice oa oN oc,olds,at_,d,sn',?_,⟨HG.out.snl,fun x hx=>by
    obtain⟨k',q',g1,g2,_⟩:=HG.out.seen x hx
    exact⟨k',q',g1,g2⟩,.inr (by have:=HZ2.out;have:=HN0.out;have:=HH0.out;show nd.len < hnd.len;omega)⟩,?_,hg.nd.keep hft,?_,?_⟩
   ·unfold Grv
    rw[← HJ.out]
    rfl
   ·rcases HG.out.out with ⟨h1,h2,h3,h4⟩|h1
    ·refine .inl ⟨h1,h2,h3,.inr ?_⟩
     have hN2:=HLl.out.1
     have hNe:=HN.out
     have hBl:=HBl.out
     by_cases hB0:B=0
     ·exact h4 1 (.inr ⟨by omega,by omega⟩) (by omega)
     ·exact h4 (B - 1) (.inl ⟨by omega,by omega⟩) (by omega)
    ·exact h1
   ·refine⟨elems_blk hg.old.pgs fw.size fun j' hj'=>fw.block j' (hg.old.off j' hj').2 fun e=>?_,fun j' hj'=>⟨(hg.old.off j' hj').1,Nat.lt_of_lt_of_le (hg.old.off j' hj').2 fw.size⟩⟩
    obtain⟨p9,hp9⟩:∃ p,olds[0]?=some p:=by
     rcases HG.out.out with ⟨_,h2,_⟩|h2
     ·exact⟨_,by rw[h2];rfl⟩
     ·exact h2.some
    have e':j'=w.heap.size+3:=e
    subst e'
    exact grp_not hg.old.pgs hp9 hj' HZz.out
   ·exact hg.went.ext HH.out rfl fw fun k hk=>⟨by omega,hnS k hk⟩
theorem group_any:∀ (w:World) (G:Cg) (here above:Sp) (nd:Nd) (vi vk:Value) (l:List P10.It) (B:Nat) (h:CAt w G) (hl:G.M.L.length≤100000) (hn:NdT w none vi vk nd) (hh:NdT w none here.vi here.vk here.nd) (ha:above.nd=.tw l) (hal:NdT w none above.vi above.vk above.nd)
  (hat:above.at_=(B:Int)) (hB:B < l.length) (hll:2≤l.length∧l.length≤1000) (hlen:nd.len≤1000∧nd.sum≤100000∧here.nd.len≤1000) (hsn:G.sn.length≤90000) (hq1:here.nd.len≤nd.len→nd.least≤nd.len) (hq2:232 < 2*(1+nd.sum)→nd.least≤nd.len)
  (HNx:∀ i q,(i+1=B∨i=B+1)→l[i]?=some q→∃ nd' tx,Nb G q.page nd' tx∧nd'.kind=nd.kind)
  (hdist:∀ (i j:Nat) (q r:P10.It),i≠j→l[i]?=some q→l[j]?=some r→q.page≠r.page) (hks:∀ (i:Nat) (q:P10.It),l[i]?=some q→q.key.size≤1000),
  Calls Tryz.prog 84 #[.pointer (some ⟨G.c,0,none⟩),nd.v vi vk,here.v,above.v] w fun e w'=>∃ j ji jk vo olds at_ d sn',e=.returned (.tuple #[Grv j ji jk vo (at_:Nat) d,.int .i64 0])∧SeenBy l sn' olds.length nd.len here.nd.len∧
   GOut G l B here.pg nd j olds at_∧Grp w w' G { G with sn:=G.sn++sn' } j ji jk vo olds:=group_cut.2 ⟨group_loop⟩
end Go.Proofs.YtjepgclnbbpnaaaGreat.P12
