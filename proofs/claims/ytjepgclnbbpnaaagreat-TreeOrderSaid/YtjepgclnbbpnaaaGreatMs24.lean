/-
  Texts of the proofs of SaidOrd12.
-/
import Derived.Test.YtjepgclnbbpnaaaGreatMs23
set_option linter.unusedVariables false
set_option linter.unusedSimpArgs false
set_option maxRecDepth 100000
namespace Go.Proofs.YtjepgclnbbpnaaaGreat.P12
open Go Go.RowKit Go.Lib PK
open P11 (Pg)
open P9 (It kb kb_trans RightI)
def Pend(F:PM):Nat→Nd→List It→List Int→Prop
 | 1,.lf l0,l,i=>l0=l∧i=[]
 | d+2,.tw ks,l,i=>Kids (TreeAt F (d+1)) ks none l i∧∀ q∈ks,q.ok=true
 | _,_,_,_=>False
theorem Pend.cases{F:PM}{d:Nat}{nd:Nd}{l:List It}{i:List Int}(h:Pend F d nd l i) :
  (d=1∧nd=.lf l∧i=[])∨∃ e ks,d=e+2∧nd=.tw ks∧Kids (TreeAt F (e+1)) ks none l i∧∀ q∈ks,q.ok=true:=by
 match d,nd,h with
 | 1,.lf l0,h=>exact .inl ⟨rfl,by rw[h.1],h.2⟩
 | e+2,.tw ks,h=>exact .inr ⟨e,ks,rfl,rfl,h.1,h.2⟩
theorem Pend.sorted{F:PM}{d:Nat}{nd:Nd}{l:List It}{i:List Int}(h:Pend F d nd l i)(hr:RightI l):nd.sorted:=by
 rcases h.cases with ⟨rfl,rfl,_⟩|⟨e,ks,rfl,rfl,h1,h2⟩
 ·exact hr
 ·exact P10.rightI_pair.2 ⟨h2,h1.rise fun _ _ _ g=>g.ne⟩
theorem Pend.len{F:PM}{d:Nat}{nd:Nd}{l:List It}{i:List Int}(h:Pend F d nd l i):nd.len+i.length≤2*l.length:=by
 rcases h.cases with ⟨rfl,rfl,rfl⟩|⟨e,ks,rfl,rfl,h1,h2⟩
 ·show l.length+0≤_
  omega
 ·have:=h1.pages fun _ _ _ g=>g.pages
  show ks.length+i.length≤_
  omega
theorem Nd.sorted.small{nd:Nd}(h:nd.sorted):nd.small:=fun j hj=>by
 cases nd with
 | lf l=>
  have hj':j < l.length:=hj
  have hx:=List.getElem?_eq_getElem hj'
  have e:=P9.sumI_take hx
  have ok:=(P9.rightI_pair.1 h).1 _ (List.mem_of_getElem? hx)
  unfold P9.It.ok at ok
  rw[decide_eq_true_eq] at ok
  show P9.sumI (l.take j) < P9.sumI (l.take (j+1))∧P9.sumI (l.take (j+1))≤P9.sumI (l.take j)+200
  rw[e]
  unfold P9.It.need
  omega
 | tw l=>
  have hj':j < l.length:=hj
  have hx:=List.getElem?_eq_getElem hj'
  have e:=P10.sumI_take hx
  have ok:=(P10.rightI_pair.1 h).1 _ (List.mem_of_getElem? hx)
  unfold P10.It.ok at ok
  rw[decide_eq_true_eq] at ok
  show P10.sumI (l.take j) < P10.sumI (l.take (j+1))∧P10.sumI (l.take (j+1))≤P10.sumI (l.take j)+36
  rw[e]
  unfold P10.It.need
  omega
theorem Nd.sorted.sum{nd:Nd}(h:nd.sorted):nd.sum≤nd.len*200:=by
 have h1:=(h.small.mono (Nat.zero_le nd.len) (Nat.le_refl _)).2
 rw[Nd.take_all,Nd.take_zero,Nat.sub_zero] at h1
 have h2:nd.cap≤200:=by
  cases nd with
  | lf=>exact Nat.le_refl 200
  | tw=>show 36≤200;decide
 have h3:=Nat.mul_le_mul_left nd.len h2
 omega
theorem Pend.fine{F:PM}{d:Nat}{nd:Nd}{l:List It}{i:List Int}(h:Pend F d nd l i)(hr:RightI l)(hl:l.length≤250)(hm:nd.len=0∨nd.least≤nd.len):Fine nd:=by
 have h1:=(h.sorted hr).sum
 have h2:=h.len
 exact⟨(h.sorted hr).small,by omega,hm⟩
theorem Pend.frame{F F':PM}{d:Nat}{nd:Nd}{l:List It}{i:List Int}(h:Pend F d nd l i)(k:∀ j∈i,F'.get j=F.get j):Pend F' d nd l i:=by
 rcases h.cases with ⟨rfl,rfl,rfl⟩|⟨e,ks,rfl,rfl,h1,h2⟩
 ·exact⟨rfl,rfl⟩
 ·exact⟨h1.map fun q _ l1 i1 hs ht=>ht.frame fun j hj=>k j (hs j hj),h2⟩
theorem TreeAt.pend{M:PM}{d:Nat}{id:Int}{l:List It}{i:List Int}(h:TreeAt M d id l i):∃ nd i',ndAt M id nd∧Pend M d nd l i'∧i=id::i':=by
 match d,h with
 | 1,⟨h1,h2⟩=>exact⟨.lf l,[],h1,⟨rfl,rfl⟩,h2⟩
 | d+2,⟨ks,i',h1,h2,h3⟩=>exact⟨.tw ks,i',h1,⟨h2,(P10.rightI_pair.1 h1.choose_spec.2.1).1⟩,h3⟩
theorem Pend.tree{F:PM}{d:Nat}{nd:Nd}{l:List It}{i:List Int}{t:Int}(h:Pend F d nd l i)(hg:nd.good)(hs:Says F nd t):TreeAt F d t l (t::i):=by
 obtain⟨tx,hs⟩:=hs
 rcases h.cases with ⟨rfl,rfl,rfl⟩|⟨e,ks,rfl,rfl,h1,h2⟩
 ·exact⟨⟨tx,hs,hg⟩,rfl⟩
 ·exact⟨ks,i,⟨tx,hs,hg⟩,h1,rfl⟩
def nextP(ps:List Nd)(hi:Option ByteArray):Option ByteArray:=match ps with
 | []=>hi
 | p::_=>some p.key
def Split(F:PM)(d:Nat):List Nd→Option ByteArray→List It→List Int→Prop
 | [],_,l,i=>l=[]∧i=[]
 | p::ps,hi,l,i=>∃ l1 i1 l2 i2,Pend F d p l1 i1∧Over l1 p.key∧Under l1 (nextP ps hi)∧Split F d ps hi l2 i2∧l=l1++l2∧i=i1++i2
theorem split_lf(F:PM):∀ (ls:List (List It)),RightI ls.flatten→(∀ m∈ls,0 < m.length)→Split F 1 (ls.map .lf) none ls.flatten []
 | [],_,_=>⟨rfl,rfl⟩
 | m :: ls,hr,h=>by
  rw[List.flatten_cons] at hr ⊢
  have h0:=h m List.mem_cons_self
  have hx:=List.getElem?_eq_getElem h0
  refine⟨m,[],ls.flatten,[],⟨rfl,rfl⟩,?_,?_,split_lf F ls (hr.sub (List.sublist_append_right _ _)) fun q hq=>h q (List.mem_cons_of_mem _ hq),rfl,rfl⟩
  ·have o:=over_head (hr.sub (List.sublist_append_left _ _)) hx
   have e:(Nd.lf m).key=m[0].key:=by
    show (m[0]?.map _).getD _=_
    rw[hx]
    rfl
   rw[e]
   exact o
  ·cases ls with
   | nil=>exact Under.none_ _
   | cons n ls=>
    have hn:=h n (List.mem_cons_of_mem _ List.mem_cons_self)
    have hy:=List.getElem?_eq_getElem hn
    have e:(Nd.lf n).key=n[0].key:=by
     show (n[0]?.map _).getD _=_
     rw[hy]
     rfl
    show Under m (some (Nd.lf n).key)
    rw[e]
    refine Under.some_ fun x hx=>?_
    exact (List.pairwise_append.1 (P9.rightI_pair.1 hr).2).2.2 x hx _ (by rw[List.flatten_cons];exact List.mem_append_left _ (List.mem_of_getElem? hy))
theorem split_tw(F:PM)(e:Nat):∀ (ls:List (List P10.It)) (l:List It) (i:List Int),Kids (TreeAt F (e+1)) ls.flatten none l i→ls.flatten.Pairwise (fun x y=>kb x.key y.key=true)→(∀ q∈ls.flatten,q.ok=true)→
  (∀ m∈ls,2≤m.length)→Split F (e+2) (ls.map .tw) none l i
 | [],_,_,h,_,_,_=>h
 | m::ls,l,i,h,hp,hk,hm=>by
  rw[List.flatten_cons] at h hp hk
  obtain⟨la,ia,lb,ib,h1,h2,rfl,rfl⟩:=Kids.app.1 h
  have h0:=hm m List.mem_cons_self
  obtain⟨p1,p2,p3⟩:=List.pairwise_append.1 hp
  refine⟨la,ia,lb,ib,⟨h1.bound (Under.none_ _),fun q hq=>hk q (List.mem_append_left _ hq)⟩,?_,?_,split_tw F e ls lb ib h2 p2 (fun q hq=>hk q (List.mem_append_right _ hq)) fun q hq=>hm q (List.mem_cons_of_mem _ hq),rfl,rfl⟩
  ·cases m with
   | nil=>simp at h0
   | cons q m=>exact h1.over p1
  ·cases ls with
   | nil=>exact Under.none_ _
   | cons n ls=>
    have hn:=hm n (List.mem_cons_of_mem _ List.mem_cons_self)
    cases n with
    | nil=>simp at hn
    | cons q n=>exact Under.some_ (Kids.lows h1 fun x hx=>p3 x hx q (by simp))
theorem parts_split{F:PM}{d:Nat}{nd:Nd}{ps:List Nd}{l:List It}{i:List Int}(hp:PartsOf nd ps)(h:Pend F d nd l i)(hr:RightI l):Split F d ps none l i:=by
 rcases h.cases with ⟨rfl,rfl,rfl⟩|⟨e,ks,rfl,rfl,h1,h2⟩
 ·obtain⟨ls,rfl,rfl,h3⟩:=hp
  exact split_lf F ls hr fun m hm=>(h3 m hm).1
 ·obtain⟨ls,rfl,rfl,h3⟩:=hp
  exact split_tw F e ls l i h1 (h1.rise fun _ _ _ g=>g.ne) h2 fun m hm=>(h3 m hm).1
theorem mkKids_cons(p:Nd)(ps:List Nd)(t:Int)(ts:List Int):mkKids (p::ps) (t::ts)=⟨p.key,t⟩::mkKids ps ts:=rfl
theorem nextK_mk{ps:List Nd}{ts:List Int}(h:ts.length=ps.length)(hi:Option ByteArray):nextK (mkKids ps ts) hi=nextP ps hi:=by
 cases ps with
 | nil=>rfl
 | cons p ps=>cases ts with
  | nil=>simp at h
  | cons t ts=>rfl
theorem split_kids{F:PM}{d:Nat}:∀ {ps:List Nd} {ts:List Int} {hi:Option ByteArray} {l:List It} {i:List Int},Split F d ps hi l i→All2 (Says F) ps ts→(∀ p∈ps,p.good)→
  ∃ iw,Kids (TreeAt F d) (mkKids ps ts) hi l iw∧iw.Perm (ts++i)
 | [],[],_,_,_,h,_,_=>⟨[],⟨h.1,rfl⟩,by rw[h.2];exact List.Perm.refl _⟩
 | p::ps,t::ts,hi,_,_,⟨l1,i1,l2,i2,h1,h2,h3,h4,rfl,rfl⟩,ha,hg=>by
  obtain⟨iw,g1,g2⟩:=split_kids h4 ha.2 fun q hq=>hg q (List.mem_cons_of_mem _ hq)
  have ht:=h1.tree (hg p List.mem_cons_self) ha.1
  refine⟨(t::i1)++iw,?_,?_⟩
  ·rw[mkKids_cons]
   exact⟨l1,t::i1,l2,iw,ht,h2,by rw[nextK_mk ha.2.len.symm];exact h3,g1,rfl,rfl⟩
  ·rw[List.cons_append,List.cons_append]
   refine List.Perm.cons _ ?_
   refine (List.Perm.append_left i1 g2).trans ?_
   rw[← List.append_assoc,← List.append_assoc]
   exact List.Perm.append_right _ List.perm_append_comm
 | [],_::_,_,_,_,_,h,_=>h.elim
 | _::_,[],_,_,_,_,h,_=>h.elim
structure KeepP (M:PM) (sets:List Pg) (made:List Int) (d:Nat) (nd:Nd) (l:List It) (i:List Int) (olds:List Pg) (ps:List Nd) (K:Ks) (gn:List Int) (iw nm:List Int):Prop where
 kids:Kids (TreeAt K.F d) K.ws none l iw
 perm:(iw++gn).Perm (olds.map (·.id)++nm++i)
 made:K.made=made++nm
 mlen:K.M.L.length=M.L.length+nm.length
 new:∀ x∈nm,M.next≤x∧x < K.M.next
 nod:nm.Nodup
 fr:∀ x,x < M.next→x∉olds.map (·.id)→K.F.get x=(setsM M sets).get x
 rg:RgP K.M K.sets
 sets:∃ ss,K.sets=sets++ss∧∀ p∈ss,(∃ q∈olds,q.id=p.id)∧M.mine p.id=true
 same:K.M.fr=M.fr∧K.M.given=M.given∧K.M.bad=M.bad∧K.M.twice=M.twice
 old:∀ x,x < M.next→K.M.get x=M.get x
 ok:∀ q∈K.ws,q.ok=true
 len:K.ws.length=ps.length
 gnl:gn.length≤olds.length
theorem key_small{nd:Nd}(h:nd.good):nd.key.size≤32:=by
 cases nd with
 | lf l=>
  obtain⟨h1,h2,h3⟩:=h
  have hx:=List.getElem?_eq_getElem h3
  have ok:=(P9.rightI_pair.1 h1).1 _ (List.mem_of_getElem? hx)
  unfold P9.It.ok at ok
  rw[decide_eq_true_eq] at ok
  show ((l[0]?.map _).getD _:ByteArray).size≤32
  rw[hx]
  exact ok.2.1
 | tw l=>
  obtain⟨h1,h2,h3⟩:=h
  have hx:=List.getElem?_eq_getElem (show 0 < l.length by omega)
  have ok:=(P10.rightI_pair.1 h1).1 _ (List.mem_of_getElem? hx)
  unfold P10.It.ok at ok
  rw[decide_eq_true_eq] at ok
  show ((l[0]?.map _).getD _:ByteArray).size≤32
  rw[hx]
  exact ok.1
theorem mk_ok{n:Int}(hn:n≤4000):∀ {ps:List Nd} {ts:List Int},(∀ p∈ps,p.good)→(∀ t∈ts,2≤t∧t < n)→∀ q∈mkKids ps ts,q.ok=true
 | [],_,_,_,q,hq=>by cases hq
 | _::_,[],_,_,q,hq=>by cases hq
 | p::ps,t::ts,hg,ht,q,hq=>by
  rw[mkKids_cons] at hq
  rcases List.mem_cons.1 hq with rfl|hq
  ·have h1:=key_small (hg p List.mem_cons_self)
   have h2:=ht t List.mem_cons_self
   unfold P10.It.ok
   rw[decide_eq_true_eq]
   exact⟨h1,h2.1,by show t≤3999;omega⟩
  ·exact mk_ok hn (fun x hx=>hg x (List.mem_cons_of_mem _ hx)) (fun x hx=>ht x (List.mem_cons_of_mem _ hx)) q hq
theorem keep_pure{M:PM}{sets:List Pg}{made:List Int}{d:Nat}{nd:Nd}{l:List It}{i:List Int}{olds:List Pg}{ps:List Nd}(hp:PartsOf nd ps)(h:Pend (setsM M sets) d nd l i)(hr:RightI l)(hrg:RgP M sets)(ho:RgP M olds)(hn:(olds.map (·.id)).Nodup)
  (hk:∀ p∈olds,p.k=nd.kind) (hi:∀ x∈i,x < M.next∧x∉olds.map (·.id)) (hl:M.L.length+ps.length≤3998) :
  ∃ iw nm,KeepP M sets made d nd l i olds ps (kfold (splitM M ps.length olds).1 0 ⟨M,sets,made,[]⟩ ps) (splitM M ps.length olds).2 iw nm:=by
 obtain⟨s1,s2,s3⟩:=splitM_any M ps.length olds
 have s4:=(splitM_len M ps.length olds).2
 obtain⟨mi,hmi⟩:∃ m,m=(splitM M ps.length olds).1:=⟨_,rfl⟩
 obtain⟨gn,hgn⟩:∃ m,m=(splitM M ps.length olds).2:=⟨_,rfl⟩
 rw[← hmi] at s1 s2 s3 ⊢
 rw[← hgn] at s1 s4 ⊢
 have hgood:=parts_good hp (h.sorted hr)
 have hkind:∀ p∈ps,p.kind=nd.kind:=fun p hpp=>by
  cases nd with
  | lf l=>obtain⟨ls,rfl,_⟩:=hp;obtain⟨m,_,rfl⟩:=List.mem_map.1 hpp;rfl
  | tw l=>obtain⟨ls,rfl,_⟩:=hp;obtain⟨m,_,rfl⟩:=List.mem_map.1 hpp;rfl
 have hmn:((mi.drop 0).map (·.id)).Nodup:=by
  rw[List.drop_zero]
  exact (List.nodup_append.1 (s1.nodup_iff.2 hn)).1
 obtain⟨ts,nm,k⟩:=kept_any mi nd.kind ps 0 ⟨M,sets,made,[]⟩ hrg (fun p hpm=>by rw[List.drop_zero] at hpm;exact ho p (s3 p hpm).1) hmn (fun p hpm=>hk p (s3 p hpm).1) hkind
 rw[List.drop_zero] at k
 have hts:ts=mi.map (·.id)++nm:=by
  have e:=k.tse
  rwa[List.take_of_length_le s2] at e
 have hmo:∀ x,x∈mi.map (·.id)→x∈olds.map (·.id):=fun x hx=>s1.mem_iff.1 (List.mem_append_left _ hx)
 have hpend:Pend (kfold mi 0 ⟨M,sets,made,[]⟩ ps).F d nd l i:=h.frame fun j hj=>by
  refine k.fr j (hi j hj).1 fun e=>?_
  rw[hts] at e
  rcases List.mem_append.1 e with e|e
  ·exact (hi j hj).2 (hmo j e)
  ·have:=(k.new j e).1
   have:=(hi j hj).1
   show False
   have h9:M.next≤j:=(k.new j e).1
   omega
 obtain⟨iw,g1,g2⟩:=split_kids (parts_split hp hpend hr) k.says hgood
 have hws:(kfold mi 0 ⟨M,sets,made,[]⟩ ps).ws=mkKids ps ts:=by rw[k.ws];rfl
 have hnx:(kfold mi 0 ⟨M,sets,made,[]⟩ ps).M.next≤4000:=by
  have e1:=k.mlen
  have e2:=k.len
  rw[hts,List.length_append] at e2
  unfold PM.next
  have e3:(kfold mi 0 ⟨M,sets,made,[]⟩ ps).M.L.length=M.L.length+nm.length:=e1
  omega
 refine⟨iw,nm,by rw[hws];exact g1,?_,k.made,k.mlen,k.new,k.nod,fun x hx hxo=>k.fr x hx fun e=>?_,k.rg,?_,k.same,k.old,?_,?_,s4⟩
 ·refine (List.Perm.append_right gn g2).trans ?_
  rw[hts]
  have e1:((mi.map (·.id)++nm)++i++gn).Perm (mi.map (·.id)++gn++(nm++i)):=by
   rw[List.append_assoc,List.append_assoc,List.append_assoc]
   refine List.Perm.append_left _ ?_
   rw[← List.append_assoc]
   exact List.perm_append_comm
  refine e1.trans ?_
  rw[List.append_assoc (olds.map _)]
  exact List.Perm.append_right _ s1
 ·rw[hts] at e
  rcases List.mem_append.1 e with e|e
  ·exact hxo (hmo x e)
  ·have h9:M.next≤x:=(k.new x e).1
   omega
 ·obtain⟨ss,e1,e2⟩:=k.sets
  refine⟨ss,e1,fun p hpp=>?_⟩
  obtain⟨q,hq,e3⟩:=e2 p hpp
  exact⟨⟨q,(s3 q hq).1,e3⟩,by rw[← e3];exact (s3 q hq).2⟩
 ·rw[hws]
  refine mk_ok hnx hgood fun t ht=>?_
  rw[hts] at ht
  rcases List.mem_append.1 ht with ht|ht
  ·obtain⟨q,hq,rfl⟩:=List.mem_map.1 ht
   have h9:=ho q (s3 q hq).1
   have h8:M.next≤(kfold mi 0 ⟨M,sets,made,[]⟩ ps).M.next:=by
    have e1:(kfold mi 0 ⟨M,sets,made,[]⟩ ps).M.L.length=M.L.length+nm.length:=k.mlen
    unfold PM.next
    omega
   omega
  ·have h9:=k.new t ht
   have h8:M.next≤t:=h9.1
   unfold PM.next at h8
   omega
 ·rw[hws]
  unfold mkKids
  rw[List.length_zipWith,k.len,Nat.min_self]
end Go.Proofs.YtjepgclnbbpnaaaGreat.P12
namespace Go.Proofs.YtjepgclnbbpnaaaGreat.P12
open Go Go.RowKit Go.Lib PK
open P11 (Pg cellsP)
def Sp.atEnd(p:Sp):Bool:=match p.nd with
 | .lf l=>decide (p.at_=(l.length:Nat))
 | .tw l=>decide (p.at_=(l.length:Nat) - 1)
theorem atEnd_any(w:World)(x:Option Nat)(p:Sp)(h:NdT w x p.vi p.vk p.nd)(hl:p.nd.len≤1000000):Calls Tryz.prog 88 #[p.v] w fun e w'=>e=.returned (.bool p.atEnd)∧Below w.heap.size w w':=by
 obtain⟨⟨k,id,tx,body⟩,nd,vi,vk,at_⟩:=p
 unfold Sp.v Sp.atEnd
 simp only at h hl ⊢
 cases nd with
 | lf l=>
  obtain⟨h1,rfl⟩:=h
  obtain⟨a,c,rfl⟩:=h1.its.slice
  simp only[Nd.kind]
  generalize l.length=N at *
  clear h1
  go_enter Tryz.func88,Tryz.ntmps88
  go_wp2
  go_ret
  exact⟨by first|rfl|(congr 1),below_new _ _⟩
 | tw l=>
  obtain⟨rfl,h1⟩:=h
  obtain⟨a,c,rfl⟩:=h1.its.slice
  simp only[Nd.kind]
  have hl:l.length≤1000000:=hl
  generalize l.length=N at *
  have hw:IntKind.i64.wrap ((N:Int) - 1)=(N:Int) - 1:=by
   rw[IntKind.wrap_i64]
   omega
  clear h1
  go_enter Tryz.func88,Tryz.ntmps88
  go_wp2
  go_ret
  exact⟨by first|rfl|(congr 1),below_new _ _⟩
def Nd.join:Nd→Nd→ByteArray→Nd
 | .lf a,.lf b,_=>.lf (a++b)
 | .tw a,.tw b,k=>.tw (rekey (a++b) a.length k)
 | x,_,_=>x
theorem join_any(w:World)(x:Option Nat)(n1 n2:Nd)(a1 b1 a2 b2:Value)(key:ByteArray)(h1:NdT w x a1 b1 n1)(h2:NdT w x a2 b2 n2)(hk:n1.kind=n2.kind)(hs:n1.len+n2.len≤1000000)(h0:0 < n2.len)(hx:∀ k,x=some k→k < w.heap.size) :
  Calls Tryz.prog 127 #[n1.v a1 b1,n2.v a2 b2,.string key] w fun e w'=>∃ a b,e=.returned ((n1.join n2 key).v a b)∧NdT w' x a b (n1.join n2 key)∧Below w.heap.size w w':=by
 cases n1 with
 | lf l1=>
  cases n2 with
  | lf l2=>
   obtain⟨g1,rfl⟩:=h1
   obtain⟨g2,rfl⟩:=h2
   refine (join_lf w x a1 a2 l1 l2 key g1 g2 (by rw[List.length_append];exact hs) hx).mono ?_
   rintro e w' ⟨v,rfl,g3,g4⟩
   exact⟨_,_,rfl,⟨g3,rfl⟩,g4⟩
  | tw l2=>cases hk
 | tw l1=>
  cases n2 with
  | lf l2=>cases hk
  | tw l2=>
   obtain⟨rfl,g1⟩:=h1
   obtain⟨rfl,g2⟩:=h2
   refine (join_tw w x b1 b2 l1 l2 key g1 g2 (by rw[List.length_append];exact hs) h0 hx).mono ?_
   rintro e w' ⟨v,rfl,g3,g4⟩
   exact⟨_,_,rfl,⟨rfl,g3⟩,g4⟩
theorem Went.read{w w':World}{G:Cg}(h:CAt w G)(id:Int)(hs:SkAt w' none G.b G.s G.mb G.vw G.ps (G.sn++[id]))(f:P3.Fr (·=G.mb) w w'):Went w w' G { G with sn:=G.sn++[id] }:=by
 have hmb:SS G.s G.mb G.vw G.mb:=.inr (.inr rfl)
 have ft:FrT none w w':=FrT.ofFr f fun k cs t hk hst e=>h.notT none k cs t (by subst hk;exact .inr (.inl hmb)) hst e
 refine⟨⟨h.pg.fr f fun j hj e=>?_,hs,h.ch.fr f fun j hj e=>?_,h.ap⟩,⟨f.os,f.tape,f.output,f.size,fun k hk hn=>f.block k hk fun e=>hn (by rw[e];exact .inr (.inl hmb))⟩,fun k hk=>.inl hk,ft⟩
 ·subst e
  first|exact h.sk.apart h.pg hmb hj|exact h.sk.apart h.pg hj hmb
 ·subst e
  exact h.apart hmb hj
theorem put6{W:World}{b:Nat}{t:TypeId}{c0 c1 c2 c3 c4 c5:Value}(h:W.heap[b]?=some (.cells #[c0,c1,c2,c3,c4,c5] t (0,0)))(u0 u1 u2 u3 u4 u5:Value) :
  ((((((W.setCell ⟨b,0,none⟩ u0).setCell ⟨b,1,none⟩ u1).setCell ⟨b,2,none⟩ u2).setCell ⟨b,3,none⟩ u3).setCell ⟨b,4,none⟩ u4).setCell ⟨b,5,none⟩ u5).heap[b]?=some (.cells #[u0,u1,u2,u3,u4,u5] t (0,0))∧
  P3.Fr (·=b) W ((((((W.setCell ⟨b,0,none⟩ u0).setCell ⟨b,1,none⟩ u1).setCell ⟨b,2,none⟩ u2).setCell ⟨b,3,none⟩ u3).setCell ⟨b,4,none⟩ u4).setCell ⟨b,5,none⟩ u5):=by
 have a0:(W.setCell ⟨b,0,none⟩ u0).heap[b]?=some (.cells #[u0,c1,c2,c3,c4,c5] t (0,0)):=set_at h 0 u0
 have a1:((W.setCell ⟨b,0,none⟩ u0).setCell ⟨b,1,none⟩ u1).heap[b]?=some (.cells #[u0,u1,c2,c3,c4,c5] t (0,0)):=set_at a0 1 u1
 have a2:(((W.setCell ⟨b,0,none⟩ u0).setCell ⟨b,1,none⟩ u1).setCell ⟨b,2,none⟩ u2).heap[b]?=some (.cells #[u0,u1,u2,c3,c4,c5] t (0,0)):=set_at a1 2 u2
 have a3:((((W.setCell ⟨b,0,none⟩ u0).setCell ⟨b,1,none⟩ u1).setCell ⟨b,2,none⟩ u2).setCell ⟨b,3,none⟩ u3).heap[b]?=some (.cells #[u0,u1,u2,u3,c4,c5] t (0,0)):=set_at a2 3 u3
 have a4:(((((W.setCell ⟨b,0,none⟩ u0).setCell ⟨b,1,none⟩ u1).setCell ⟨b,2,none⟩ u2).setCell ⟨b,3,none⟩ u3).setCell ⟨b,4,none⟩ u4).heap[b]?=some (.cells #[u0,u1,u2,u3,u4,c5] t (0,0)):=set_at a3 4 u4
 exact⟨set_at a4 5 u5,(((((fr_set _ b 0 u0).trans (fr_set _ b 1 u1)).trans (fr_set _ b 2 u2)).trans (fr_set _ b 3 u3)).trans (fr_set _ b 4 u4)).trans (fr_set _ b 5 u5)⟩
theorem group_result2{fn:Func}{q u:Tmp}(h:fn.results=#[.cell q 127,.tmp u])(tmps:Array Value)(w:World)(a:Nat)(cs:Array Value)(hq:tmps.getD q undef=.pointer (some ⟨a,0,none⟩))(hc:w.heap[a]?=some (.cells cs 127 (0,0)))(hs:cs.size=6) :
  (results fn tmps).run Tryz.prog w=.ok (.tuple #[.agg cs,tmps.getD u undef]) w:=by
 have hi:(Tryz.prog.info? 127).map (·.size)=some cs.size:=by rw[hs];kernel_rfl
 rw[results_cell_tmp h,hq]
 have e1:(asAddr (.pointer (some ⟨a,0,none⟩))).run Tryz.prog w=.ok ⟨a,0,none⟩ w:=rfl
 rw[e1,Result.andThen_ok,run_loadVar_row (P:=Tryz.prog) w a 127 127 cs (0,0) _ hc Tryz.underlying127 rfl hi]
 rfl
end Go.Proofs.YtjepgclnbbpnaaaGreat.P12
