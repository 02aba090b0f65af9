/-
  Texts of the proofs of SaidOrd12.
-/
import Derived.Test.YtjepgclnbbpnaaaGreatMs30
set_option linter.unusedVariables false
set_option linter.unusedSimpArgs false
set_option maxHeartbeats 8000000
set_option maxRecDepth 100000
namespace Go.Proofs.YtjepgclnbbpnaaaGreat.P12
open Go Go.RowKit Go.Lib PK
open P11 (Pg)
open P9 (It kb kb_trans RightI)
structure GroupOk (G:Cg) (nd:Nd) (here:Sp) (l:List P10.It) (B:Nat):Prop where
 hl:G.M.L.length≤100000
 hB:B < l.length
 hll:2≤l.length∧l.length≤1000
 hlen:nd.len≤1000∧nd.sum≤100000∧here.nd.len≤1000
 hsn:G.sn.length≤90000
 hq1:here.nd.len≤nd.len→nd.least≤nd.len
 hq2:232 < 2*(1+nd.sum)→nd.least≤nd.len
 hnx:∀ (i:Nat) (q:P10.It),(i+1=B∨i=B+1)→l[i]?=some q→∃ nd' tx,Nb G q.page nd' tx∧nd'.kind=nd.kind
 hdist:∀ (i j:Nat) (q r:P10.It),i≠j→l[i]?=some q→l[j]?=some r→q.page≠r.page
 hks:∀ (i:Nat) (q:P10.It),l[i]?=some q→q.key.size≤1000
theorem head_mem{M:PM}{d:Nat}{id:Int}{l:List It}{i:List Int}(h:TreeAt M d id l i):id∈i:=by
 obtain⟨r,rfl⟩:=h.head
 exact List.mem_cons_self
theorem twig_ok{M:PM}{id:Int}{ks:List P10.It}(h:twigAt M id ks):2≤ks.length∧ks.length≤231∧∀ q∈ks,q.ok=true:=by
 obtain⟨tx,_,h1,h2,h3⟩:=h
 have:=P10.sumI_len1 ks
 exact⟨h3,by omega,(P10.rightI_pair.1 h1).1⟩
theorem key_ok{q:P10.It}(h:q.ok=true):q.key.size≤32:=by
 unfold P10.It.ok at h
 rw[decide_eq_true_eq] at h
 exact h.1
theorem UpO.groupOk{M0:PM}{D:Nat}{root:Int}{key:ByteArray}{ids:List Int}{L':List It}{gr:Bool}{f:Fr}{fs:List Fr}{d:Nat}{id:Int}{la lb:List It}{ia ib:List Int}{lold:List It}{iold:List Int}{l':List It}{i':List Int}{G:Cg}{nd:Nd}{here:Sp}
  (U:UpO M0 D root key ids L' gr (f::fs) d id la lb ia ib lold iold l' ([id]++i') G) (hp:Pend (setsM G.M G.sets) d nd l' i') (hh:HereOk M0 d id here):GroupOk G nd here f.kids f.a.length:=by
 obtain⟨hk,ht,l1,i1,l2,i2,la',lb',ia',ib',ha,hb,r1,r2,hw,e1,e2,e3,e4⟩:=U.way
 have ht:twigAt M0 f.id f.kids:=ht
 obtain⟨t1,t2,t3⟩:=twig_ok ht
 obtain⟨m1,m2,m3,m4⟩:=U.made_len
 have hml:=U.mlen
 have hsz:=U.size
 have hpl:=hp.len
 have hsm:=(hp.sorted U.right_).small
 have hsum:=(hp.sorted U.right_).sum
 have hkd:here.nd.kind=nd.kind:=by rw[hh.kind,hp.kind_d]
 have hnod:=U.nod
 rw[U.idsE,e3,e4] at hnod
 have hhl:here.nd.len≤231:=Nat.le_trans (Nd.len_sum _) hh.good.sum
 rw[List.length_append,List.length_singleton] at m3
 refine⟨by omega,by unfold Fr.kids;simp,⟨t1,by omega⟩,⟨by omega,by omega,by omega⟩,?_,fun h=>?_,fun h=>?_,fun i q hi hq=>?_,fun i j q r hij hi hj=>?_,fun i q hq=>?_⟩
 ·have:=U.snl
  have:=U.deep
  omega
 ·have:=hh.good.pos
  rw[kind_least hkd] at this
  omega
 ·have h1:=(hsm.mono (Nat.zero_le nd.len) (Nat.le_refl _)).2
  rw[Nd.take_all,Nd.take_zero,Nat.sub_zero] at h1
  cases nd with
  | lf l=>
   have h1:(Nd.lf l).sum≤0+(Nd.lf l).len*200:=h1
   show 1≤_
   omega
  | tw l=>
   have h1:(Nd.tw l).sum≤0+(Nd.tw l).len*36:=h1
   show 2≤_
   omega
 ·have hq2:(q∈f.a∨q∈f.b):=by
   unfold Fr.kids at hq
   rcases hi with hi|hi
   ·rw[List.getElem?_append_left (by omega)] at hq
    exact .inl (List.mem_of_getElem? hq)
   ·rw[List.getElem?_append_right (by omega),show i - f.a.length=0+1 by omega,List.getElem?_cons_succ] at hq
    exact .inr (List.mem_of_getElem? hq)
  have hq3:∃ ls is,TreeAt M0 d q.page ls is∧((∀ x∈is,x∈i1)∨∀ x∈is,x∈i2):=by
   rcases hq2 with h|h
   ·obtain⟨ls,is,g1,g2⟩:=ha.mem q h
    exact⟨ls,is,g1,.inl g2⟩
   ·obtain⟨ls,is,g1,g2⟩:=hb.mem q h
    exact⟨ls,is,g1,.inr g2⟩
  obtain⟨ls,is,g1,g2⟩:=hq3
  have hqm:=head_mem g1
  obtain⟨nd',isub,⟨tx,g3,g4⟩,g5,g6⟩:=g1.pend
  have hqi:q.page∈i1∨q.page∈i2:=g2.imp (fun h=>h _ hqm) fun h=>h _ hqm
  have hqn:q.page < M0.next:=(U.rng _ (by rw[U.idsE,e3,e4];rcases hqi with h|h <;> simp[h])).2
  refine⟨nd',tx,⟨by rw[U.oldM _ hqn];exact g3,g4,fun hs=>?_⟩,by rw[g5.kind_d,hp.kind_d]⟩
  have hio:∀ x∈iold,x∉i1∧x∉i2:=fun x hx=>by
   obtain⟨n1,n2,n3⟩:=List.nodup_append.1 hnod
   obtain⟨n4,n5,n6⟩:=List.nodup_append.1 n1
   exact⟨fun h=>n6 x (by simp[h]) x hx rfl,fun h=>n3 x (by simp[hx]) x (by simp[h]) rfl⟩
  rcases U.sn _ hs with h|⟨g,hg,h⟩
  ·exact hqi.elim (hio _ h).1 (hio _ h).2
  ·have hgi:g.id=f.id∨g.id∈ia':=by
    rcases List.mem_cons.1 hg with rfl|hg
    ·exact .inl rfl
    ·exact .inr (hw.path g hg)
   rw[h] at hgi
   obtain⟨n1,n2,n3⟩:=List.nodup_append.1 hnod
   obtain⟨n4,n5,n6⟩:=List.nodup_append.1 n1
   obtain⟨n7,n8,n9⟩:=List.nodup_append.1 n4
   rcases hqi with hq4|hq4
   ·rcases hgi with hg4|hg4
    ·exact (List.nodup_cons.1 n8).1 (by rw[← hg4];exact hq4)
    ·exact n9 _ hg4 q.page (List.mem_cons_of_mem _ hq4) rfl
   ·rcases hgi with hg4|hg4
    ·exact n3 q.page (by rw[hg4];simp) q.page (by simp[hq4]) rfl
    ·exact n3 q.page (by simp[hg4]) q.page (by simp[hq4]) rfl
 ·have hold:=U.old
  rw[← hk] at hold
  have hro:=U.oroom f List.mem_cons_self
  have hks:Kids (TreeAt M0 d) f.kids none (l1++(lold++l2)) (i1++(iold++i2)):=by
   unfold Fr.kids
   exact Kids.app.2 ⟨l1,i1,lold++l2,iold++i2,ha,⟨lold,iold,l2,i2,hold,hro.1,hro.2,hb,rfl,rfl⟩,rfl,rfl⟩
  have hn:(i1++(iold++i2)).Nodup:=by
   refine hnod.sublist ?_
   have e:(ia'++f.id::i1)++iold++(i2++ib')=(ia'++[f.id])++(i1++(iold++i2))++ib':=by simp
   rw[e]
   exact (List.sublist_append_right _ _).trans (List.sublist_append_left _ _)
  exact nodup_at (hks.dist (fun _ _ _ h=>head_mem h) hn) hij hi hj
 ·have:=key_ok (t3 q (List.mem_of_getElem? hq))
  omega
structure Upn (M0:PM) (D:Nat) (root:Int) (key:ByteArray) (ids:List Int) (L':List It) (gr:Bool) (f:Fr) (fs:List Fr) (d:Nat) (G':Cg) (R:List P10.It):Prop where
 st:∀ ch:Bool,(ch=false↔R=f.kids)→∃ la lb ia ib lold iold l' iall,UpO M0 D root key ids L' gr fs d f.id la lb ia ib lold iold l' iall G'∧St (setsM G'.M G'.sets) d f.id (.tw R) ch l' iall
 len:0 < R.length∧R.length≤1000
 grow:gr=true→f.kids.length≤R.length
theorem sew_len(ks ws:List P10.It)(k n:Nat)(key:ByteArray)(h:k+n≤ks.length):(sew ks ws k n key).length=ks.length+ws.length - n:=by
 unfold sew
 rw[List.length_append,List.length_append,rekey_len,List.length_take,List.length_drop]
 omega
theorem sew_ok{ks ws:List P10.It}{k n:Nat}{key:ByteArray}(hk:key.size≤32)(h:∀ q∈ks,q.ok=true)(g:∀ q∈ws,q.ok=true):∀ q∈sew ks ws k n key,q.ok=true:=fun q hq=>by
 unfold sew at hq
 rcases List.mem_append.1 hq with hq|hq
 ·rcases List.mem_append.1 hq with hq|hq
  ·exact h q (List.mem_of_mem_take hq)
  ·exact rekey_ok hk g q hq
 ·exact h q (List.mem_of_mem_drop hq)
theorem UpO.kept{M0:PM}{D:Nat}{root:Int}{key:ByteArray}{ids:List Int}{L':List It}{gr:Bool}{f:Fr}{fs:List Fr}{d:Nat}{id:Int}{la lb:List It}{ia ib:List Int}{lold:List It}{iold:List Int}{l':List It}{i':List Int}{G:Cg}{nd j:Nd}{here:Sp}{olds:List Pg}{at_:Nat}{sn':List Int}
  (U:UpO M0 D root key ids L' gr (f::fs) d id la lb ia ib lold iold l' ([id]++i') G) (hp:Pend (setsM G.M G.sets) d nd l' i') (hh:HereOk M0 d id here) (hg:gr=true→here.nd.len≤nd.len)
  (ho:GOut G f.kids f.a.length here.pg nd j olds at_) (hs:SeenBy f.kids sn' olds.length nd.len here.nd.len) :
  ∃ k0,KidsOk (G.saw sn') f.kids j olds at_ k0∧∀ (ps:List Nd) (vl' vm' vs' vo':Value),PartsOf j ps→
   Upn M0 D root key ids L' gr f fs (d+1) ((G.saw sn').kept vl' vm' vs' vo' (kfold (splitM G.M ps.length olds).1 0 ⟨G.M,G.sets,G.made,[]⟩ ps) (splitM G.M ps.length olds).2)
    (bare key (sew f.kids (kfold (splitM G.M ps.length olds).1 0 ⟨G.M,G.sets,G.made,[]⟩ ps).ws at_ olds.length k0.key)):=by
 obtain⟨hk,ht,l1f,i1f,l2f,i2f,la',lb',ia',ib',ha,hb,r1,r2,hw,e1,e2,e3,e4⟩:=U.way
 have ht:twigAt M0 f.id f.kids:=ht
 obtain⟨t1,t2,t3⟩:=twig_ok ht
 obtain⟨m1,m2,m3,m4⟩:=U.made_len
 have hml:=U.mlen
 have hsz:=U.size
 have hnx:M0.next≤G.M.next:=by
  unfold PM.next
  omega
 have hmem1:∀ x,x∈i1f∨x∈i2f→x∈ia++ib:=fun x hx=>by
  rw[e3,e4]
  rcases hx with h|h <;> simp[h]
 have hmem2:∀ x,x∈ia++ib→x∈ids:=fun x hx=>by
  rw[U.idsE]
  rcases List.mem_append.1 hx with h|h <;> simp[h]
 have hidm:id∈ids:=by
  rw[U.idsE]
  have:=head_mem U.old
  simp[this]
 obtain⟨a,ok,b,k0,l1,i1,lw,ij,l2,i2,gp⟩:=gp_any (F:=setsM G.M G.sets) hk ht ha hb hp hh (fun g hg=>by
  cases List.mem_singleton.1 hg
  exact U.room f List.mem_cons_self) (U.rng id hidm) (fun x hx=>U.fr x (hmem1 x hx)) (fun x hx=>U.oldM x hx) (fun x hx=>U.rng x (hmem2 x (hmem1 x hx))) ho
 have hlw:RightI lw∧lw.length≤250:=by
  have e:L'=(la'++l1)++lw++(l2++lb'):=by
   have h:=gp.lE
   rw[U.new,e1,e2]
   calc la'++l1f++l'++(l2f++lb')=la'++(l1f++l'++l2f)++lb':=by simp
    _=_:=by rw[h];simp
  have h2:=U.llen
  rw[e,List.length_append,List.length_append] at h2
  exact⟨U.right.sub (by rw[e];exact (List.sublist_append_right _ _).trans (List.sublist_append_left _ _)),by omega⟩
 have hjl:=gp.pend.len
 have hil:=gp.il
 rw[List.length_append,List.length_singleton] at m3
 have hroom:G.M.L.length+j.len≤3998:=by omega
 have hsets:G.sets.length≤600*d:=U.setl
 have hdeep:=U.deep
 have hsd:G.sets.length≤7200:=Nat.le_trans hsets (Nat.mul_le_mul_left 600 (show d≤12 by omega))
 have hk0:f.kids[at_]?=some k0:=by
  rw[gp.ks,gp.atE,List.append_assoc,List.getElem?_append_right (Nat.le_refl _),Nat.sub_self,List.getElem?_append_left (by have:=(List.getElem?_eq_some_iff.1 gp.k0E).1;omega)]
  exact gp.k0E
 have hn:at_+olds.length≤f.kids.length:=by
  rw[gp.ks,gp.atE,gp.n,List.length_append,List.length_append]
  omega
 have hap:=U.apart
 rw[e3,e4] at hap
 have hap2:(ia'++[f.id]++(i1++(olds.map (·.id)++ij)++i2)++ib').Nodup:=by
  refine (perm_c fun z=>?_:List.Perm _ ((ia'++f.id::i1f)++([id]++i')++(i2f++ib'))).nodup_iff.2 hap
  have h1:=List.perm_iff_count.1 gp.perm z
  have h2:(ia'++f.id::i1f)=ia'++[f.id]++i1f:=by simp
  rw[h2]
  simp only[List.count_append] at h1 ⊢
  omega
 obtain⟨n1,n2,n3⟩:=List.nodup_append.1 hap2
 obtain⟨n4,n5,n6⟩:=List.nodup_append.1 n1
 obtain⟨n7,n8,n9⟩:=List.nodup_append.1 n5
 obtain⟨q1,q2,q3⟩:=List.nodup_append.1 n7
 obtain⟨q4,q5,q6⟩:=List.nodup_append.1 q2
 have hijx:∀ x∈ij,x < G.M.next:=fun x hx=>by
  have h1:x∈i1f++([id]++i')++i2f:=gp.perm.mem_iff.1 (by simp[hx])
  have h2:x∈i1f∨x∈[id]++i'∨x∈i2f:=by
   rcases List.mem_append.1 h1 with h|h
   ·rcases List.mem_append.1 h with h|h
    ·exact .inl h
    ·exact .inr (.inl h)
   ·exact .inr (.inr h)
  rcases h2 with h|h|h
  ·have:=(U.rng x (hmem2 x (hmem1 x (.inl h)))).2
   omega
  ·have h3:x∈iold++G.made:=U.perm.mem_iff.1 (List.mem_append_left _ h)
   rcases List.mem_append.1 h3 with h3|h3
   ·have:=(U.rng x (by rw[U.idsE];simp[h3])).2
    omega
   ·exact (U.made x h3).2
  ·have:=(U.rng x (hmem2 x (hmem1 x (.inr h)))).2
   omega
 have holds:∀ x,x∈olds.map (·.id)→x=id∨x∈i1f∨x∈i2f:=fun x hx=>by
  obtain⟨p,hpm,rfl⟩:=List.mem_map.1 hx
  exact gp.mem p hpm
 have hk0ok:k0.ok=true:=t3 k0 (List.mem_of_getElem? hk0)
 have hpos:olds.length=1∨0 < j.len:=by
  have h1:=gp.on
  by_cases c:olds.length=1
  ·exact .inl c
  ·exact .inr (gp.jp.2 (by omega))
 refine⟨k0,⟨gp.pend.fine hlw.1 hlw.2 gp.jl,gp.pend.sorted hlw.1,hroom,⟨by show G.sets.length≤9000;omega,by show G.made.length≤9000;omega,by show G.gone.length≤9000;omega,gp.on.2⟩,by show 2≤G.M.fr;rw[U.same.1];exact U.fr2,fun p hpm=>?_,hk0,hn⟩,fun ps vl' vm' vs' vo' hpo=>?_⟩
 ·have h1:=(gp.rg p hpm).2
  unfold PM.next at h1
  omega
 obtain⟨c1,c2⟩:=hpo.count
 obtain⟨iw,nm,kp⟩:=keep_pure (made:=G.made) hpo gp.pend hlw.1 U.rg (gp.rg.mono hnx) q4 gp.okp (fun x hx=>⟨hijx x hx,fun h=>q6 x h x hx rfl⟩) (by omega)
 obtain⟨K,hK⟩:∃ K,K=kfold (splitM G.M ps.length olds).1 0 ⟨G.M,G.sets,G.made,[]⟩ ps:=⟨_,rfl⟩
 obtain⟨gn,hgn⟩:∃ g,g=(splitM G.M ps.length olds).2:=⟨_,rfl⟩
 have hkl:=(kfold_lens (splitM G.M ps.length olds).1 ps 0 ⟨G.M,G.sets,G.made,[]⟩).2.1
 rw[← hK] at kp hkl ⊢
 rw[← hgn] at kp ⊢
 have hfrK:∀ x,x∈i1∨x∈i2→K.F.get x=M0.get x:=fun x hx=>by
  have h1:x∈i1f∨x∈i2f:=hx.imp (gp.s1 x) (gp.s2 x)
  have h2:=hmem1 x h1
  rw[kp.fr x (Int.lt_of_lt_of_le (U.rng x (hmem2 x h2)).2 hnx) fun h=>?_]
  ·exact U.fr x h2
  ·rcases hx with hx|hx
   ·exact q3 x hx x (List.mem_append_left _ h) rfl
   ·exact n9 x (by simp only[List.mem_append];exact .inr (.inl h)) x hx rfl
 have hka:Kids (TreeAt K.F d) a (some k0.key) l1 i1:=gp.ka.map fun q _ _ _ hsub h=>h.frame fun x hx=>hfrK x (.inl (hsub x hx))
 have hkb:Kids (TreeAt K.F d) b none l2 i2:=gp.kb.map fun q _ _ _ hsub h=>h.frame fun x hx=>hfrK x (.inr (hsub x hx))
 have hpw:f.kids.Pairwise (fun x y=>kb x.key y.key=true):=rightO_pair ht.choose_spec.2.1
 rw[gp.ks] at hpw
 have hR:=sew_kids (key:=key) gp.k0E hpw hka kp.kids hkb gp.un gp.ov
 rw[← gp.ks,← gp.atE,← gp.n,← gp.lE] at hR
 have hsl:=sew_len f.kids K.ws at_ olds.length k0.key hn
 have hwl:=kp.len
 have hRl:(bare key (sew f.kids K.ws at_ olds.length k0.key)).length=f.kids.length+ps.length - olds.length:=by rw[bare_len,hsl,hwl]
 have hon:=gp.on
 refine⟨fun ch hch=>?_,⟨?_,?_⟩,fun hgr=>?_⟩
 rotate_left
 ·rw[hRl]
  rcases hpos with h|h
  ·omega
  ·have:=c2 h
   omega
 ·rw[hRl]
  omega
 ·rw[hRl]
  have h1:=hg hgr
  have h2:=hh.good.pos
  have h3:1≤here.nd.least:=by cases here.nd <;> first|exact Nat.le_refl 1|exact Nat.le_succ 1
  have h4:=gp.jp.1
  have h5:=c2 (by omega)
  rcases hs.2.2 with h6|h6 <;> omega
 have hfid:f.id∈ia++ib:=by
  rw[e3]
  simp
 have hfF:∀ x,x∈ia++ib→x∉olds.map (·.id)→K.F.get x=M0.get x:=fun x hx hxo=>by
  rw[kp.fr x (Int.lt_of_lt_of_le (U.rng x (hmem2 x hx)).2 hnx) hxo]
  exact U.fr x hx
 have hfo:∀ x,x∈olds.map (·.id)→x∉ia'++ib'∧x≠f.id:=fun x hx=>by
  have h1:x∈i1++(olds.map (·.id)++ij)++i2:=by
   simp only[List.mem_append]
   exact .inl (.inr (.inl hx))
  refine⟨fun h=>?_,fun h=>n6 f.id (by simp) x h1 h.symm⟩
  rcases List.mem_append.1 h with h|h
  ·exact n6 x (by simp[h]) x h1 rfl
  ·exact n3 x (List.mem_append_right _ h1) x h rfl
 have htK:twigAt K.F f.id f.kids:=by
  obtain⟨tx,g1,g2⟩:=ht
  exact⟨tx,by rw[hfF f.id hfid fun h=>(hfo _ h).2 rfl];exact g1,g2⟩
 obtain⟨e,rfl⟩:∃ e,d=e+1:=⟨d - 1,by have:=U.old.pos;omega⟩
 obtain⟨iold',hU⟩:=U.next (G':=(G.saw sn').kept vl' vm' vs' vo' K gn) (iall':=[f.id]++(i1++iw++i2)) hw ha hb r1 r2 e1 e2 e3 e4 hk ht
  (fun x hx=>by
   show K.F.get x=M0.get x
   refine hfF x ?_ fun h=>(hfo x h).1 hx
   rw[e3,e4]
   rcases List.mem_append.1 hx with h|h <;> simp[h])
  (fun x hx=>by
   show K.M.get x=M0.get x
   rw[kp.old x (Int.lt_of_lt_of_le hx hnx)]
   exact U.oldM x hx)
  (by
   show ([f.id]++(i1++iw++i2)++(G.gone++gn)).Perm (([f.id]++i1f++iold++i2f)++K.made)
   rw[kp.made]
   refine perm_c fun z=>?_
   have h1:=List.perm_iff_count.1 gp.perm z
   have h2:=List.perm_iff_count.1 kp.perm z
   have h3:=List.perm_iff_count.1 U.perm z
   simp only[List.count_append] at h1 h2 h3 ⊢
   omega)
  kp.rg
  (by
   show K.M.L.length=M0.L.length+K.made.length
   rw[kp.made,kp.mlen,List.length_append,hml]
   omega)
  (fun x hx=>by
   have hx:x∈K.made:=hx
   show M0.next≤x∧x < K.M.next
   have hle:G.M.next≤K.M.next:=by
    have:=kp.mlen
    unfold PM.next
    omega
   rw[kp.made] at hx
   rcases List.mem_append.1 hx with h|h
   ·have:=U.made x h
    omega
   ·have:=kp.new x h
    omega)
  (by
   show K.made.Nodup
   rw[kp.made]
   exact List.nodup_append.2 ⟨U.mnod,kp.nod,fun x hx y hy e=>by
    subst e
    have:=(U.made x hx).2
    have:=(kp.new x hy).1
    omega⟩)
  (fun p hpm=>by
   have hpm:p∈K.sets:=hpm
   obtain⟨ss,s1,s2⟩:=kp.sets
   rw[s1] at hpm
   rcases List.mem_append.1 hpm with h|h
   ·exact U.sets p h
   ·obtain⟨⟨q,hq,hqp⟩,hm⟩:=s2 p h
    have h3:=gp.rg q hq
    have h4:=gp.mem q hq
    rw[hqp] at h3 h4
    unfold PM.mine at hm
    rw[Bool.and_eq_true,decide_eq_true_eq] at hm
    refine⟨by rw[← U.same.1];exact hm.1,h3.2,?_⟩
    rcases h4 with h4|h4
    ·rw[h4]
     exact hidm
    ·exact hmem2 _ (hmem1 _ h4))
  (by
   show K.M.fr=_∧K.M.given=_∧K.M.bad=_∧K.M.twice=_
   rw[kp.same.1,kp.same.2.1,kp.same.2.2.1,kp.same.2.2.2]
   exact U.same)
  (by
   show (G.gone++gn).length≤_
   rw[List.length_append]
   have h1:=U.gonel
   have h2:=kp.gnl
   cases hgr:gr with
   | false=>
    rw[hgr] at h1
    simp only[Bool.false_eq_true,if_false] at h1 ⊢
    omega
   | true=>
    rw[hgr] at h1
    have h3:=hg hgr
    simp only[if_true] at h1 ⊢
    rcases hs.2.2 with h6|h6 <;> omega)
  (by
   show K.sets.length≤_
   have h9:K.sets.length≤G.sets.length+ps.length:=hkl
   omega)
  (fun x hx=>by
   have hx:x∈G.sn++sn':=hx
   rcases List.mem_append.1 hx with h|h
   ·exact .inl h
   ·obtain⟨k,q,hq,rfl⟩:=hs.2.1 x h
    have hqm:q∈f.kids:=List.mem_of_getElem? hq
    unfold Fr.kids at hqm
    rcases List.mem_append.1 hqm with hqm|hqm
    ·obtain⟨ls,is,g1,g2⟩:=ha.mem q hqm
     exact .inr (.inl (g2 _ (head_mem g1)))
    ·rcases List.mem_cons.1 hqm with rfl|hqm
     ·rw[hk]
      exact .inr (.inr (.inl (head_mem U.old)))
     ·obtain⟨ls,is,g1,g2⟩:=hb.mem q hqm
      exact .inr (.inr (.inr (g2 _ (head_mem g1)))))
  (by
   show (G.sn++sn').length≤_
   rw[List.length_append]
   have:=U.snl
   have:=hs.1
   omega)
  U.gkey rfl ⟨e,rfl⟩
 refine⟨la',lb',ia',ib',_,iold',_,_,hU,?_⟩
 cases hc:ch with
 | false=>
  have hRf:=hch.1 hc
  rw[hRf] at hR
  exact .inl ⟨rfl,⟨f.kids,i1++iw++i2,htK,hR,rfl⟩⟩
 | true=>
  exact .inr ⟨rfl,i1++iw++i2,rfl,⟨hR,bare_ok (sew_ok (key_ok hk0ok) t3 kp.ok)⟩⟩
end Go.Proofs.YtjepgclnbbpnaaaGreat.P12
namespace Go.Proofs.YtjepgclnbbpnaaaGreat.P12
open PK (qqA qqB qqC qqD qqE qqF tk tkS dOne qh)
open Go Go.RowKit Go.Lib PK
open P9 (It kb hasK lowK)
def Tree(M:PM):Nat→Int→List It→List Int→Prop
 | 0=>fun r l i=>r=0∧l=[]∧i=[]
 | d+1=>fun r l i=>TreeAt M (d+1) r l i
theorem down_zero(w:World)(s:Nat)(key:ByteArray):Calls Tryz.prog 53 #[.pointer (some ⟨s,0,none⟩),.int .i64 0,.string key] w fun e w'=>e=.returned (.int .i64 0)∧w'=w:=by
 go_enter Tryz.func53,Tryz.ntmps53
 go_wp2
 go_loopw [1] (fun vi wr=>vi=.int .i64 0∧wr=w) (fun _ _=>0)
 case atStart=>exact⟨rfl,rfl⟩
 case round=>
  obtain⟨rfl,rfl⟩:=hrel
  go_wp2
  go_ret
  exact⟨rfl,rfl⟩
theorem skItems_nil(w:World)(x:Option Nat)(b s mb:Nat)(vw:Value)(sn:List Int)(h:SkAt w x b s mb vw [] sn):Calls Tryz.prog 57 #[.pointer (some ⟨s,0,none⟩)] w fun e w'=>e=.returned (.slice none 0 0)∧w'=w:=by
 have o1:=cell_at h.obj 1
 obtain⟨a,c,rfl⟩:=h.slice
 simp only[List.getElem?_toArray,List.getElem?_cons_zero,List.getElem?_cons_succ,List.length_nil] at o1
 clear h
 go_enter Tryz.func57,Tryz.ntmps57
 go_wp2
 go_ret
 exact⟨rfl,rfl⟩
theorem SkAt.cells_{w:World}{x:Option Nat}{b s mb:Nat}{a:Option Addr}{n c:Nat}{ps:List Sp}{sn:List Int}(h:SkAt w x b s mb (.slice a n c) ps sn){i:Nat}{p:Sp}(hi:ps[i]?=some p) :
  ∃ g,a=some ⟨g,0,none⟩∧∀ w',Below w.heap.size w w'→∀ (j:Nat) (u:Value),p.cells[j]?=some u→w'.cell? ⟨g,i*8+j,none⟩=some u:=by
 have hlt:=(List.getElem?_eq_some_iff.1 hi).1
 rcases h.row.2 with ⟨e,e2⟩|⟨g,cap,cur,e,_,hg,_,_,hsz,ht⟩
 ·simp only[Value.slice.injEq] at e
  omega
 ·simp only[Value.slice.injEq] at e
  obtain⟨rfl,_,_⟩:=e
  refine⟨g,rfl,fun w' hb j u hu=>?_⟩
  have h1:((ps.map Sp.cells).flatten)[i*8+j]?=some u:=by
   refine flat_at (n:=8) (l:=ps.map Sp.cells) (fun x hx=>?_) (x:=p.cells) (by rw[List.getElem?_map,hi];rfl) hu
   obtain⟨q,_,rfl⟩:=List.mem_map.1 hx
   rfl
  rw[← ht,List.getElem?_take] at h1
  rw[cell_at (P3.old_below hg hb)]
  split at h1
  ·rw[← h1]
   simp
  ·cases h1
theorem skItems_any(w:World)(x:Option Nat)(b s mb:Nat)(vw:Value)(ps:List Sp)(sn:List Int)(p:Sp)(h:SkAt w x b s mb vw (ps++[p]) sn)(hl:ps.length≤100000):Calls Tryz.prog 57 #[.pointer (some ⟨s,0,none⟩)] w fun e w'=>e=.returned p.vi∧Below w.heap.size w w':=by
 have o1:=cell_at h.obj 1
 obtain⟨a,c,rfl⟩:=h.slice
 obtain⟨g,rfl,hc⟩:=h.cells_ (i:=ps.length) (p:=p) (by simp)
 have c5:=hc w (Below.refl _ _) 5 p.vi rfl
 have e1:(ps++[p]).length=ps.length+1:=by simp
 rw[e1] at o1
 simp only[qqD,qqE,qqF] at o1
 obtain⟨N,hN⟩:∃ N,N=ps.length:=⟨_,rfl⟩
 rw[← hN] at o1 c5 hl
 have hw:IntKind.i64.wrap (((N+1:Nat):Int) - 1)=(N:Nat):=by rw[IntKind.wrap_i64];omega
 have hw2:IntKind.i64.wrap (((N:Int)+1) - 1)=(N:Nat):=by rw[IntKind.wrap_i64];omega
 have k1:(((N:Int)+1) == 0)=false:=beq_false_of_ne (by omega)
 have k2:(0:Int)≤(N:Int):=by omega
 have k3:(N:Int) < (N:Int)+1:=by omega
 clear h hc e1 hN
 go_enter Tryz.func57,Tryz.ntmps57
 go_wp2
 go_quiet (fail)
 all_goals
  go_wp2
  go_ret
  exact⟨rfl,P3.below_drewN _ _⟩
end Go.Proofs.YtjepgclnbbpnaaaGreat.P12
namespace Go.Proofs.YtjepgclnbbpnaaaGreat.P12
open Go Go.RowKit Go.Lib PK
open P11 (Pg)
open P9 (It kb kb_trans RightI)
theorem nodup_one(l:List Int)(h:l.length≤1):l.Nodup:=by
 cases l with
 | nil=>exact List.nodup_nil
 | cons x l=>cases l with
  | nil=>exact List.nodup_cons.2 ⟨fun h=>(by cases h),List.nodup_nil⟩
  | cons y l=>rw[List.length_cons,List.length_cons] at h;omega
theorem UpO.stays{M0:PM}{D:Nat}{root:Int}{key:ByteArray}{ids:List Int}{L':List It}{gr:Bool}{f:Fr}{fs:List Fr}{d:Nat}{id:Int}{la lb:List It}{ia ib:List Int}{lold:List It}{iold:List Int}{l':List It}{iall:List Int}{G:Cg}
  (U:UpO M0 D root key ids L' gr (f::fs) d id la lb ia ib lold iold l' iall G) (hp:TreeAt (setsM G.M G.sets) d id l' iall):Upn M0 D root key ids L' gr f fs (d+1) G (bare key f.kids):=by
 obtain⟨hk,ht,l1,i1,l2,i2,la',lb',ia',ib',ha,hb,r1,r2,hw,e1,e2,e3,e4⟩:=U.way
 have ht:twigAt M0 f.id f.kids:=ht
 obtain⟨t1,t2,t3⟩:=twig_ok ht
 have hmem1:∀ x,x∈i1∨x∈i2→x∈ia++ib:=fun x hx=>by
  rw[e3,e4]
  rcases hx with h|h <;> simp[h]
 have hka:Kids (TreeAt (setsM G.M G.sets) d) f.a (some f.k.key) l1 i1:=ha.map fun q _ _ _ hsub h=>h.frame fun x hx=>U.fr x (hmem1 x (.inl (hsub x hx)))
 have hkb:Kids (TreeAt (setsM G.M G.sets) d) f.b none l2 i2:=hb.map fun q _ _ _ hsub h=>h.frame fun x hx=>U.fr x (hmem1 x (.inr (hsub x hx)))
 have hpw:f.kids.Pairwise (fun x y=>kb x.key y.key=true):=rightO_pair ht.choose_spec.2.1
 have hks:f.kids=f.a++[f.k]++f.b:=by simp[Fr.kids]
 rw[hks] at hpw
 have hkw:Kids (TreeAt (setsM G.M G.sets) d) [⟨⟨#[]⟩,id⟩] none l' iall:=⟨l',iall,[],[],hp,over_zero _,Under.none_ _,⟨rfl,rfl⟩,by simp,by simp⟩
 have hro:=U.room f List.mem_cons_self
 have hR:=sew_kids (key:=key) (ok:=[f.k]) rfl hpw hka hkw hkb hro.2 hro.1
 have hse:sew (f.a++[f.k]++f.b) [⟨⟨#[]⟩,id⟩] f.a.length ([f.k]:List P10.It).length f.k.key=f.kids:=by
  unfold sew
  rw[show (f.a++[f.k]++f.b).take f.a.length=f.a by rw[List.append_assoc,List.take_left' rfl],List.drop_left' (by simp),hks]
  have e:rekey [(⟨⟨#[]⟩,id⟩:P10.It)] 0 f.k.key=[f.k]:=by
   show [(⟨f.k.key,id⟩:P10.It)]=[f.k]
   rw[← hk]
  rw[e]
 rw[hse] at hR
 refine⟨fun ch hch=>?_,⟨?_,?_⟩,fun _=>by rw[bare_len];exact Nat.le_refl _⟩
 rotate_left
 ·rw[bare_len]
  omega
 ·rw[bare_len]
  omega
 have htK:twigAt (setsM G.M G.sets) f.id f.kids:=by
  obtain⟨tx,g1,g2⟩:=ht
  exact⟨tx,by rw[U.fr f.id (by rw[e3];simp)];exact g1,g2⟩
 obtain⟨e,rfl⟩:∃ e,d=e+1:=⟨d - 1,by have:=U.old.pos;omega⟩
 have hgl:=U.gonel
 obtain⟨iold',hU⟩:=U.next (G':=G) (iall':=[f.id]++(i1++iall++i2)) hw ha hb r1 r2 e1 e2 e3 e4 hk ht
  (fun x hx=>by
   refine U.fr x ?_
   rw[e3,e4]
   rcases List.mem_append.1 hx with h|h <;> simp[h])
  U.oldM
  (by
   refine perm_c fun z=>?_
   have h3:=List.perm_iff_count.1 U.perm z
   simp only[List.count_append] at h3 ⊢
   omega)
  U.rg U.mlen U.made U.mnod U.sets U.same
  (by cases gr <;> simp only[if_true,if_false,Bool.false_eq_true] at hgl ⊢ <;> omega)
  (by have:=U.setl;omega) (fun x hx=>.inl hx) (by have:=U.snl;omega) U.gkey rfl ⟨e,rfl⟩
 refine⟨la',lb',ia',ib',_,iold',_,_,hU,?_⟩
 cases hc:ch with
 | false=>
  have hRf:=hch.1 hc
  rw[hRf] at hR
  exact .inl ⟨rfl,⟨f.kids,i1++iall++i2,htK,hR,rfl⟩⟩
 | true=>exact .inr ⟨rfl,i1++iall++i2,rfl,⟨hR,bare_ok t3⟩⟩
structure TopC (M0:PM) (ids:List Int) (L':List It) (G:Cg):Prop where
 nod:ids.Nodup
 rng:∀ x∈ids,2≤x∧x < M0.next
 size:M0.L.length≤3400
 right:RightI L'
 llen:L'.length≤250
 rg:RgP G.M G.sets
 mlen:G.M.L.length=M0.L.length+G.made.length
 made:∀ x∈G.made,M0.next≤x∧x < G.M.next
 mnod:G.made.Nodup
 sets:∀ p∈G.sets,M0.fr≤p.id∧p.id < M0.next∧p.id∈ids
 same:G.M.fr=M0.fr∧G.M.given=M0.given∧G.M.bad=M0.bad∧G.M.twice=M0.twice
 fr2:2≤M0.fr
 oldM:∀ x,x < M0.next→G.M.get x=M0.get x
structure TopS (M0:PM) (ids:List Int) (L':List It) (c:Nat) (d:Nat) (nd:Nd) (i':List Int) (olds:List Pg) (G:Cg):Prop where
 co:TopC M0 ids L' G
 pend:Pend (setsM G.M G.sets) d nd L' i'
 perm:(olds.map (·.id)++i'++G.gone).Perm (ids++G.made)
 oldk:∀ p∈olds,p.k=nd.kind∧p.id∈ids
 ol:olds.length≤1
 setl:G.sets.length+600*olds.length≤8000
 gonel:G.gone.length+olds.length≤c
 cl:c≤24
structure TopI (M0:PM) (ids:List Int) (L':List It) (c:Nat) (e:Nat) (ks:List P10.It) (i:List Int) (G:Cg):Prop where
 co:TopC M0 ids L' G
 kids:Kids (TreeAt (setsM G.M G.sets) e) ks none L' i
 ok:∀ q∈ks,q.ok=true
 perm:(i++G.gone).Perm (ids++G.made)
 setl:G.sets.length≤8000
 gonel:G.gone.length≤c
 cl:c≤24
 pos:1≤e
structure KeepOk (G:Cg) (nd:Nd) (olds:List Pg):Prop where
 fine:Fine nd
 sorted:nd.sorted
 room:G.M.L.length+nd.len≤3998
 lens:G.sets.length≤9000∧G.made.length≤9000∧G.gone.length≤9000∧olds.length≤2
 fr:2≤G.M.fr
 ids:∀ p∈olds,p.id≤100000
theorem TopS.ok{M0:PM}{ids:List Int}{L':List It}{c d:Nat}{nd:Nd}{i':List Int}{olds:List Pg}{G:Cg}(T:TopS M0 ids L' c d nd i' olds G)(hm:nd.len=0∨nd.least≤nd.len):KeepOk G nd olds:=by
 have h1:=T.pend.len
 have h2:=T.co.llen
 have h3:=T.co.mlen
 have h4:=T.co.size
 have h5:=T.perm.length_eq
 have h6:=T.gonel
 have h7:=T.cl
 have h8:=T.ol
 have h9:=T.setl
 simp only[List.length_append,List.length_map] at h5
 refine⟨T.pend.fine T.co.right h2 hm,T.pend.sorted T.co.right,by omega,⟨by omega,by omega,by omega,by omega⟩,by rw[T.co.same.1];exact T.co.fr2,fun p hp=>?_⟩
 have h10:=(T.co.rng _ (T.oldk p hp).2).2
 unfold PM.next at h10
 omega
theorem TopS.kept{M0:PM}{ids:List Int}{L':List It}{c d:Nat}{nd:Nd}{i':List Int}{olds:List Pg}{G:Cg}(T:TopS M0 ids L' c d nd i' olds G)(hm:nd.len=0∨nd.least≤nd.len)(ps:List Nd)(vl' vm' vs' vo':Value)(hpo:PartsOf nd ps) :
  ∃ iw,TopI M0 ids L' c d (kfold (splitM G.M ps.length olds).1 0 ⟨G.M,G.sets,G.made,[]⟩ ps).ws iw (G.kept vl' vm' vs' vo' (kfold (splitM G.M ps.length olds).1 0 ⟨G.M,G.sets,G.made,[]⟩ ps) (splitM G.M ps.length olds).2)∧
   (kfold (splitM G.M ps.length olds).1 0 ⟨G.M,G.sets,G.made,[]⟩ ps).ws.length=ps.length:=by
 have hko:=T.ok hm
 obtain⟨c1,c2⟩:=hpo.count
 have hnx:M0.next≤G.M.next:=by
  have:=T.co.mlen
  unfold PM.next
  omega
 have hno:(olds.map (·.id)).Nodup:=nodup_one _ (by rw[List.length_map];exact T.ol)
 have hN:(ids++G.made).Nodup:=List.nodup_append.2 ⟨T.co.nod,T.co.mnod,fun x hx y hy e=>by
  subst e
  have:=(T.co.rng x hx).2
  have:=(T.co.made x hy).1
  omega⟩
 have hap:=T.perm.nodup_iff.2 hN
 obtain⟨n1,n2,n3⟩:=List.nodup_append.1 hap
 obtain⟨n4,n5,n6⟩:=List.nodup_append.1 n1
 obtain⟨iw,nm,kp⟩:=keep_pure (made:=G.made) (olds:=olds) hpo T.pend T.co.right T.co.rg (fun p hp=>by
  have:=T.co.rng _ (T.oldk p hp).2
  omega) hno (fun p hp=>(T.oldk p hp).1) (fun x hx=>⟨by
   have h1:x∈ids++G.made:=T.perm.mem_iff.1 (by simp[hx])
   rcases List.mem_append.1 h1 with h|h
   ·have:=(T.co.rng x h).2
    omega
   ·exact (T.co.made x h).2,fun h=>n6 x h x hx rfl⟩) (by have:=hko.room;omega)
 obtain⟨K,hK⟩:∃ K,K=kfold (splitM G.M ps.length olds).1 0 ⟨G.M,G.sets,G.made,[]⟩ ps:=⟨_,rfl⟩
 obtain⟨gn,hgn⟩:∃ g,g=(splitM G.M ps.length olds).2:=⟨_,rfl⟩
 have hkl:=(kfold_lens (splitM G.M ps.length olds).1 ps 0 ⟨G.M,G.sets,G.made,[]⟩).2.1
 rw[← hK] at kp hkl ⊢
 rw[← hgn] at kp ⊢
 have hle:G.M.next≤K.M.next:=by
  have:=kp.mlen
  unfold PM.next
  omega
 refine⟨iw,⟨⟨T.co.nod,T.co.rng,T.co.size,T.co.right,T.co.llen,kp.rg,?_,fun x hx=>?_,?_,fun p hpm=>?_,?_,T.co.fr2,fun x hx=>(kp.old x (Int.lt_of_lt_of_le hx hnx)).trans (T.co.oldM x hx)⟩,kp.kids,kp.ok,?_,?_,?_,T.cl,?_⟩,kp.len⟩
 ·show K.M.L.length=M0.L.length+K.made.length
  rw[kp.made,kp.mlen,List.length_append,T.co.mlen]
  omega
 ·have hx:x∈K.made:=hx
  show M0.next≤x∧x < K.M.next
  rw[kp.made] at hx
  rcases List.mem_append.1 hx with h|h
  ·have:=T.co.made x h
   omega
  ·have:=kp.new x h
   omega
 ·show K.made.Nodup
  rw[kp.made]
  exact List.nodup_append.2 ⟨T.co.mnod,kp.nod,fun x hx y hy e=>by
   subst e
   have:=(T.co.made x hx).2
   have:=(kp.new x hy).1
   omega⟩
 ·have hpm:p∈K.sets:=hpm
  obtain⟨ss,s1,s2⟩:=kp.sets
  rw[s1] at hpm
  rcases List.mem_append.1 hpm with h|h
  ·exact T.co.sets p h
  ·obtain⟨⟨q,hq,hqp⟩,hm2⟩:=s2 p h
   have h4:=(T.oldk q hq).2
   rw[hqp] at h4
   unfold PM.mine at hm2
   rw[Bool.and_eq_true,decide_eq_true_eq] at hm2
   exact⟨by rw[← T.co.same.1];exact hm2.1,(T.co.rng _ h4).2,h4⟩
 ·show K.M.fr=_∧K.M.given=_∧K.M.bad=_∧K.M.twice=_
  rw[kp.same.1,kp.same.2.1,kp.same.2.2.1,kp.same.2.2.2]
  exact T.co.same
 ·show (iw++(G.gone++gn)).Perm (ids++K.made)
  rw[kp.made]
  refine perm_c fun z=>?_
  have h1:=List.perm_iff_count.1 T.perm z
  have h2:=List.perm_iff_count.1 kp.perm z
  simp only[List.count_append] at h1 h2 ⊢
  omega
 ·show K.sets.length≤8000
  have h9:K.sets.length≤G.sets.length+ps.length:=hkl
  have h1:=T.setl
  have h2:=T.pend.len
  have h3:=T.co.llen
  by_cases h0:olds.length=0
  ·obtain⟨ss,s1,s2⟩:=kp.sets
   have hnil:olds=[]:=List.eq_nil_of_length_eq_zero h0
   cases ss with
   | nil=>
    rw[s1,List.append_nil]
    omega
   | cons p ss=>
    obtain⟨⟨q,hq,_⟩,_⟩:=s2 p List.mem_cons_self
    rw[hnil] at hq
    cases hq
  ·omega
 ·show (G.gone++gn).length≤c
  rw[List.length_append]
  have h1:=kp.gnl
  have h2:=T.gonel
  omega
 ·rcases T.pend.cases with ⟨rfl,_⟩|⟨e,ks,rfl,_⟩ <;> omega
theorem TopI.next{M0:PM}{ids:List Int}{L':List It}{c e:Nat}{ks:List P10.It}{i:List Int}{G:Cg}(T:TopI M0 ids L' c e ks i G):TopS M0 ids L' c (e+1) (.tw ks) i [] G:=by
 obtain⟨e,rfl⟩:∃ x,e=x+1:=⟨e - 1,by have:=T.pos;omega⟩
 exact⟨T.co,⟨T.kids,T.ok⟩,by simpa using T.perm,fun p hp=>(by cases hp),Nat.zero_le _,T.setl,T.gonel,T.cl⟩
structure TopR (M0:PM) (ids:List Int) (L':List It) (c:Nat) (r:Int) (G:Cg):Prop where
 co:TopC M0 ids L' G
 tree:∃ e i,Tree (setsM G.M G.sets) e r L' i∧(i++G.gone).Perm (ids++G.made)
 gonel:G.gone.length≤c
 setl:G.sets.length≤8000
 cl:c≤24
theorem TopI.none{M0:PM}{ids:List Int}{L':List It}{c e:Nat}{i:List Int}{G:Cg}(T:TopI M0 ids L' c e [] i G):TopR M0 ids L' c 0 G:=
 ⟨T.co,⟨0,i,⟨rfl,T.kids.1,T.kids.2⟩,T.perm⟩,T.gonel,T.setl,T.cl⟩
theorem TopI.one{M0:PM}{ids:List Int}{L':List It}{c e:Nat}{q:P10.It}{i:List Int}{G:Cg}(T:TopI M0 ids L' c e [q] i G):TopR M0 ids L' c q.page G:=by
 obtain⟨e,rfl⟩:∃ x,e=x+1:=⟨e - 1,by have:=T.pos;omega⟩
 exact⟨T.co,⟨e+1,i,T.kids.one,T.perm⟩,T.gonel,T.setl,T.cl⟩
theorem TopS.low{M0:PM}{ids:List Int}{L':List It}{c d:Nat}{q:P10.It}{i':List Int}{p:Pg}{G:Cg}(T:TopS M0 ids L' c d (.tw [q]) i' [p] G)(vo':Value):TopR M0 ids L' c q.page { G with vo:=vo',gone:=G.gone++[p.id] }:=by
 rcases T.pend.cases with ⟨_,h,_⟩|⟨e,ks,rfl,h,h1,h2⟩
 ·cases h
 ·cases h
  have h3:=T.gonel
  refine⟨⟨T.co.nod,T.co.rng,T.co.size,T.co.right,T.co.llen,T.co.rg,T.co.mlen,T.co.made,T.co.mnod,T.co.sets,T.co.same,T.co.fr2,T.co.oldM⟩,⟨e+1,i',h1.one,?_⟩,?_,?_,T.cl⟩
  ·show (i'++(G.gone++[p.id])).Perm (ids++G.made)
   refine perm_c fun z=>?_
   have h1:=List.perm_iff_count.1 T.perm z
   have e2:([p]:List Pg).map (·.id)=[p.id]:=rfl
   rw[e2] at h1
   simp only[List.count_append] at h1 ⊢
   omega
  ·show (G.gone++[p.id]).length≤c
   rw[List.length_append,List.length_singleton]
   rw[List.length_singleton] at h3
   omega
  ·have:=T.setl
   show G.sets.length≤8000
   omega
theorem UpO.top{M0:PM}{D:Nat}{root:Int}{key:ByteArray}{ids:List Int}{L':List It}{gr:Bool}{d:Nat}{id:Int}{la lb:List It}{ia ib:List Int}{lold:List It}{iold:List Int}{l':List It}{iall:List Int}{G:Cg}
  (U:UpO M0 D root key ids L' gr [] d id la lb ia ib lold iold l' iall G):d=D∧id=root∧l'=L'∧iold=ids∧TopC M0 ids L' G:=by
 obtain⟨rfl,rfl,rfl,rfl,rfl,rfl⟩:=U.way
 have h1:=U.new
 have h2:=U.idsE
 simp only[List.nil_append,List.append_nil] at h1 h2
 exact⟨rfl,rfl,h1.symm,h2.symm,U.nod,U.rng,U.size,U.right,U.llen,U.rg,U.mlen,U.made,U.mnod,U.sets,U.same,U.fr2,U.oldM⟩
end Go.Proofs.YtjepgclnbbpnaaaGreat.P12
