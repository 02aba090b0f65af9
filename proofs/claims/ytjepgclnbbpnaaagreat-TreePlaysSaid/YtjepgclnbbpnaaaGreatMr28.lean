/-
  Texts of the proofs of SaidPlays12.
-/
import Derived.Test.YtjepgclnbbpnaaaGreatMr27
set_option linter.unusedVariables false
set_option linter.unusedSimpArgs false
namespace Go.Proofs.YtjepgclnbbpnaaaGreat.P12
open Go Go.RowKit Go.Lib PK
open P11 (Pg)
open P9 (It kb kb_trans RightI)
theorem kb_zero(k:ByteArray):kb k ⟨#[]⟩=false:=by
 have h:(⟨#[]⟩:ByteArray).toList=[]:=by first|rfl|decide|simp|(unfold ByteArray.toList ByteArray.toList.loop;rfl)
 unfold kb
 rw[h]
 cases k.toList <;> rfl
theorem over_zero(l:List It):Over l ⟨#[]⟩:=fun _ _=>kb_zero _
def bare(key:ByteArray)(ks:List P10.It):List P10.It:=match ks with
 | []=>[]
 | q::r=>if kb key q.key=true then ⟨⟨#[]⟩,q.page⟩::r else q::r
theorem bare_len(key:ByteArray)(ks:List P10.It):(bare key ks).length=ks.length:=by
 cases ks with
 | nil=>rfl
 | cons q r=>
  unfold bare
  simp only
  split <;> rfl
theorem bare_rekey{key:ByteArray}{ks:List P10.It}{q:P10.It}(h:ks[0]?=some q):bare key ks=if kb key q.key=true then rekey ks 0 ⟨#[]⟩ else ks:=by
 cases ks with
 | nil=>cases h
 | cons x r=>
  cases h
  rfl
theorem bare_ok{key:ByteArray}{ks:List P10.It}(h:∀ q∈ks,q.ok=true):∀ q∈bare key ks,q.ok=true:=by
 cases ks with
 | nil=>exact h
 | cons x r=>
  unfold bare
  simp only
  split
  ·intro q hq
   rcases List.mem_cons.1 hq with rfl|hq
   ·have:=h x List.mem_cons_self
    unfold P10.It.ok at *
    rw[decide_eq_true_eq] at *
    exact⟨Nat.zero_le _,this.2⟩
   ·exact h q (List.mem_cons_of_mem _ hq)
  ·exact h
theorem rekey_ok{ks:List P10.It}{k:ByteArray}(hk:k.size≤32)(h:∀ q∈ks,q.ok=true):∀ q∈rekey ks 0 k,q.ok=true:=by
 cases ks with
 | nil=>exact h
 | cons x r=>
  intro q hq
  have hq':q∈(⟨k,x.page⟩:P10.It)::r:=hq
  rcases List.mem_cons.1 hq' with rfl|hq
  ·have:=h x List.mem_cons_self
   unfold P10.It.ok at *
   rw[decide_eq_true_eq] at *
   exact⟨hk,this.2⟩
  ·exact h q (List.mem_cons_of_mem _ hq)
theorem Kids.first{T:Int→List It→List Int→Prop}{k:P10.It}{ks:List P10.It}{hi:Option ByteArray}{l:List It}{ids:List Int}{key:ByteArray}(h:Kids T (k::ks) hi l ids)(ho:Over l key):Kids T (⟨key,k.page⟩::ks) hi l ids:=by
 obtain⟨l1,i1,l2,i2,h1,h2,h3,h4,rfl,rfl⟩:=h
 exact⟨l1,i1,l2,i2,h1,(Over.app.1 ho).1,h3,h4,rfl,rfl⟩
theorem Kids.rekey0{T:Int→List It→List Int→Prop}{ks:List P10.It}{hi:Option ByteArray}{l:List It}{ids:List Int}{key:ByteArray}(h:Kids T ks hi l ids)(ho:Over l key):Kids T (rekey ks 0 key) hi l ids:=by
 cases ks with
 | nil=>exact h
 | cons k ks=>exact h.first ho
theorem Kids.bare_{T:Int→List It→List Int→Prop}{ks:List P10.It}{hi:Option ByteArray}{l:List It}{ids:List Int}(key:ByteArray)(h:Kids T ks hi l ids):Kids T (bare key ks) hi l ids:=by
 cases ks with
 | nil=>exact h
 | cons k ks=>
  unfold bare
  simp only
  split
  ·exact h.first (over_zero _)
  ·exact h
theorem Kids.mem{T:Int→List It→List Int→Prop}:∀ {ks:List P10.It} {hi:Option ByteArray} {l:List It} {ids:List Int},Kids T ks hi l ids→∀ q∈ks,∃ l1 i1,T q.page l1 i1∧∀ x∈i1,x∈ids
 | [],_,_,_,_,q,hq=>by cases hq
 | k::ks,hi,_,_,⟨l1,i1,l2,i2,h1,h2,h3,h4,rfl,rfl⟩,q,hq=>by
  rcases List.mem_cons.1 hq with rfl|hq
  ·exact⟨l1,i1,h1,fun x hx=>List.mem_append_left _ hx⟩
  ·obtain⟨l3,i3,g1,g2⟩:=Kids.mem h4 q hq
   exact⟨l3,i3,g1,fun x hx=>List.mem_append_right _ (g2 x hx)⟩
theorem Kids.dist{T:Int→List It→List Int→Prop}(hT:∀ id l ids,T id l ids→id∈ids):∀ {ks:List P10.It} {hi:Option ByteArray} {l:List It} {ids:List Int},Kids T ks hi l ids→ids.Nodup→(ks.map (·.page)).Nodup
 | [],_,_,_,_,_=>List.nodup_nil
 | k::ks,hi,_,_,⟨l1,i1,l2,i2,h1,h2,h3,h4,rfl,rfl⟩,hn=>by
  obtain⟨n1,n2,n3⟩:=List.nodup_append.1 hn
  refine List.nodup_cons.2 ⟨fun e=>?_,Kids.dist hT h4 n2⟩
  obtain⟨q,hq,e2⟩:=List.mem_map.1 e
  obtain⟨l3,i3,g1,g2⟩:=h4.mem q hq
  exact n3 _ (hT _ _ _ h1) _ (g2 _ (hT _ _ _ g1)) e2.symm
theorem nodup_at{l:List P10.It}(h:(l.map (·.page)).Nodup){i j:Nat}{q r:P10.It}(hij:i≠j)(hi:l[i]?=some q)(hj:l[j]?=some r):q.page≠r.page:=fun e=>by
 have h1:(l.map (·.page))[i]?=some q.page:=by rw[List.getElem?_map,hi];rfl
 have h2:(l.map (·.page))[j]?=some r.page:=by rw[List.getElem?_map,hj];rfl
 obtain⟨i1,i2⟩:=List.getElem?_eq_some_iff.1 h1
 obtain⟨j1,j2⟩:=List.getElem?_eq_some_iff.1 h2
 have:=List.nodup_iff_pairwise_ne.1 h
 rw[List.pairwise_iff_getElem] at this
 rcases Nat.lt_or_gt_of_ne hij with c|c
 ·exact this i j i1 j1 c (by rw[i2,j2,e])
 ·exact this j i j1 i1 c (by rw[i2,j2,e])
theorem sew_kids{T:Int→List It→List Int→Prop}{a ok b ws:List P10.It}{k0:P10.It}{key:ByteArray}{l1 lw l2:List It}{i1 iw i2:List Int}(h0:ok[0]?=some k0)(hp:(a++ok++b).Pairwise (fun x y=>kb x.key y.key=true))
  (ha:Kids T a (some k0.key) l1 i1) (hw:Kids T ws none lw iw) (hb:Kids T b none l2 i2) (hu:Under lw (nextK b none)) (ho:∀ x∈lw,kb x.key k0.key=false∨(a=[]∧x.key=key)) :
  Kids T (bare key (sew (a++ok++b) ws a.length ok.length k0.key)) none (l1++lw++l2) (i1++iw++i2):=by
 have es:sew (a++ok++b) ws a.length ok.length k0.key=a++rekey ws 0 k0.key++b:=by
  unfold sew
  rw[List.append_assoc a ok b,List.take_left' rfl,← List.append_assoc a ok b,List.drop_left' (by rw[List.length_append])]
 have hk0:k0∈ok:=List.mem_of_getElem? h0
 obtain⟨p1,p2,p3⟩:=List.pairwise_append.1 hp
 obtain⟨p4,p5,p6⟩:=List.pairwise_append.1 p1
 rw[es]
 have hw':=hw.bound hu
 by_cases c:a=[]
 ·subst c
  obtain⟨rfl,rfl⟩:=ha
  rw[List.nil_append,List.nil_append,List.nil_append]
  cases ws with
  | nil=>
   obtain⟨rfl,rfl⟩:=hw
   exact hb.bare_ key
  | cons w r=>
   have e1:rekey (w::r) 0 k0.key=⟨k0.key,w.page⟩::r:=rfl
   rw[e1,List.cons_append]
   by_cases ck:kb key k0.key=true
   ·have e2:bare key ((⟨k0.key,w.page⟩:P10.It)::(r++b))=⟨⟨#[]⟩,w.page⟩::(r++b):=by
     show (if kb key k0.key=true then _ else _)=_
     rw[if_pos ck]
    rw[e2,← List.cons_append]
    exact Kids.app.2 ⟨lw,iw,l2,i2,hw'.first (over_zero _),hb,rfl,rfl⟩
   ·have e2:bare key ((⟨k0.key,w.page⟩:P10.It)::(r++b))=⟨k0.key,w.page⟩::(r++b):=by
     show (if kb key k0.key=true then _ else _)=_
     rw[if_neg ck]
    rw[e2,← List.cons_append]
    refine Kids.app.2 ⟨lw,iw,l2,i2,hw'.first fun x hx=>?_,hb,rfl,rfl⟩
    rcases ho x hx with h|⟨_,h⟩
    ·exact h
    ·rw[h]
     simpa using ck
 ·have hov:Over lw k0.key:=fun x hx=>(ho x hx).resolve_right fun h=>c h.1
  have hl:Lows l1 k0.key:=ha.lows fun q hq=>p6 q hq k0 hk0
  refine Kids.bare_ key (Kids.swap ha (hw'.rekey0 hov) hb ?_)
  cases ws with
  | cons w r=>exact Under.some_ hl
  | nil=>
   show Under l1 (nextK b none)
   cases b with
   | nil=>exact Under.none_ _
   | cons q b=>exact Under.some_ fun x hx=>kb_trans (hl x hx) (p3 k0 (List.mem_append_right _ hk0) q List.mem_cons_self)
theorem Pend.join{F:PM}{d:Nat}{n1 n2:Nd}{l1 l2:List It}{i1 i2:List Int}{key:ByteArray}(h1:Pend F d n1 l1 i1)(h2:Pend F d n2 l2 i2)(hl:Lows l1 key)(ho:Over l2 key)(hk:key.size≤32)(h0:0 < n2.len):Pend F d (n1.join n2 key) (l1++l2) (i1++i2):=by
 rcases h1.cases with ⟨rfl,rfl,rfl⟩|⟨e,ks,rfl,rfl,g1,g2⟩
 ·rcases h2.cases with ⟨_,rfl,rfl⟩|⟨e',ks',e1,_⟩
  ·exact⟨rfl,rfl⟩
  ·omega
 ·rcases h2.cases with ⟨e1,_,_⟩|⟨e',ks',e1,rfl,g3,g4⟩
  ·omega
  ·obtain rfl:e'=e:=by omega
   cases ks' with
   | nil=>exact absurd h0 (by show ¬ 0 < 0;omega)
   | cons q r=>
    have er:rekey (ks++q::r) ks.length key=ks++⟨key,q.page⟩::r:=by
     rw[rekey_at (q:=q) (by simp)]
     simp
    show Kids _ (rekey (ks++q::r) ks.length key) _ _ _∧∀ x∈rekey (ks++q::r) ks.length key,_
    rw[er]
    refine⟨Kids.app.2 ⟨l1,i1,l2,i2,g1.bound (Under.some_ hl),g3.first ho,rfl,rfl⟩,fun x hx=>?_⟩
    rcases List.mem_append.1 hx with hx|hx
    ·exact g2 x hx
    ·exact rekey_ok (ks:=q::r) hk g4 x hx
def RoomK(key:ByteArray)(fs:List Fr)(l:List It):Prop:=∀ f∈fs,(∀ x∈l,kb x.key f.k.key=false∨(f.a=[]∧x.key=key))∧Under l (nextK f.b none)
theorem RoomK.app{key:ByteArray}{fs:List Fr}{a b:List It}(h:RoomK key fs a)(k:RoomK key fs b):RoomK key fs (a++b):=fun f hf=>
 ⟨fun x hx=>(List.mem_append.1 hx).elim ((h f hf).1 x) ((k f hf).1 x),Under.app.2 ⟨(h f hf).2,(k f hf).2⟩⟩
theorem Room.toK{fs:List Fr}{l:List It}(key:ByteArray)(h:Room fs l):RoomK key fs l:=fun f hf=>⟨fun x hx=>.inl ((h f hf).1 x hx),(h f hf).2⟩
structure UpO (M0:PM) (D:Nat) (root:Int) (key:ByteArray) (ids:List Int) (L':List It) (gr:Bool) (fs:List Fr) (d:Nat) (id:Int) (la lb:List It) (ia ib:List Int) (lold:List It) (iold:List Int) (l':List It) (iall:List Int) (G:Cg):Prop where
 way:Way M0 D root fs d id la lb ia ib
 deep:D≤12
 old:TreeAt M0 d id lold iold
 oroom:Room fs lold
 idsE:ids=ia++iold++ib
 nod:ids.Nodup
 rng:∀ x∈ids,2≤x∧x < M0.next
 size:M0.L.length≤3400
 new:L'=la++l'++lb
 right:RightI L'
 llen:L'.length≤250
 room:RoomK key fs l'
 fr:∀ j∈ia++ib,(setsM G.M G.sets).get j=M0.get j
 oldM:∀ x,x < M0.next→G.M.get x=M0.get x
 perm:(iall++G.gone).Perm (iold++G.made)
 rg:RgP G.M G.sets
 mlen:G.M.L.length=M0.L.length+G.made.length
 made:∀ x∈G.made,M0.next≤x∧x < G.M.next
 mnod:G.made.Nodup
 sets:∀ p∈G.sets,M0.fr≤p.id∧p.id < M0.next∧p.id∈ids
 same:G.M.fr=M0.fr∧G.M.given=M0.given∧G.M.bad=M0.bad∧G.M.twice=M0.twice
 fr2:2≤M0.fr
 gonel:G.gone.length≤(if gr then 1 else 2)*(d - 1)
 setl:G.sets.length≤600*d
 sn:∀ x∈G.sn,x∈iold∨∃ f∈fs,f.id=x
 snl:G.sn.length≤20+2*d
 gkey:G.key=key
def St(F:PM)(d:Nat)(id:Int)(nd:Nd)(ch:Bool)(l':List It)(iall:List Int):Prop:=
 (ch=false∧TreeAt F d id l' iall)∨(ch=true∧∃ i',iall=[id]++i'∧Pend F d nd l' i')
structure HereOk (M0:PM) (d:Nat) (id:Int) (p:Sp):Prop where
 get:M0.get id=(p.pg,0)
 id:p.pg.id=id
 k:p.pg.k=p.nd.kind
 good:p.nd.good
 kind:p.nd.kind=if d=1 then 3 else 4
theorem Pend.kind_d{F:PM}{d:Nat}{nd:Nd}{l:List It}{i:List Int}(h:Pend F d nd l i):nd.kind=if d=1 then 3 else 4:=by
 rcases h.cases with ⟨rfl,rfl,_⟩|⟨e,ks,rfl,rfl,_⟩
 ·rfl
 ·rw[if_neg (by omega)]
  rfl
theorem kind_least{a b:Nd}(h:a.kind=b.kind):a.least=b.least:=by
 cases a <;> cases b <;> first|rfl|cases h
theorem join_len{a b:Nd}{k:ByteArray}(h:a.kind=b.kind):(a.join b k).len=a.len+b.len:=by
 cases a with
 | lf l=>cases b with
  | lf m=>exact List.length_append
  | tw m=>cases h
 | tw l=>cases b with
  | lf m=>cases h
  | tw m=>
   show (rekey (l++m) l.length k).length=_
   rw[rekey_len]
   exact List.length_append
theorem body_inj{a b:Nd}(ha:a.good)(hb:b.good)(hk:a.kind=b.kind)(e:a.body=b.body):a=b:=by
 cases a with
 | lf l=>cases b with
  | lf m=>
   have h1:=P9.read_back ha.1 ha.2.1
   have h2:=P9.read_back hb.1 hb.2.1
   have e':P9.layI l=P9.layI m:=e
   rw[e',h2] at h1
   cases h1
   rfl
  | tw m=>cases hk
 | tw l=>cases b with
  | lf m=>cases hk
  | tw m=>
   have h1:=P10.read_back ⟨ha.1,by have:=ha.2.2;omega⟩ ha.2.1
   have h2:=P10.read_back ⟨hb.1,by have:=hb.2.2;omega⟩ hb.2.1
   have e':P10.layI l=P10.layI m:=e
   rw[e',h2] at h1
   cases h1
   rfl
theorem tw_here{M0:PM}{d:Nat}{p:Sp}{f:Fr}(h:StTw M0 p f)(k:twigAt M0 f.id f.kids):HereOk M0 (d+2) f.id p:=by
 obtain⟨h1,h2,h3,h4⟩:=h
 obtain⟨tx,g1,g2⟩:=k
 rw[h4] at g1
 have e:p.pg=⟨4,f.id,tx,P10.layI f.kids⟩:=congrArg Prod.fst g1
 refine⟨h4,h3,?_,?_,?_⟩
 ·rw[h1,e]
  rfl
 ·rw[h1]
  exact g2
 ·rw[h1,if_neg (by omega)]
  rfl
theorem lf_here{M0:PM}{p:Sp}{id:Int}{l:List It}{k:Nat}(h:StLf M0 p id l k)(g:leafAt M0 id l):HereOk M0 1 id p:=by
 obtain⟨h1,h2,h3,h4⟩:=h
 obtain⟨tx,g1,g2⟩:=g
 rw[h4] at g1
 have e:p.pg=⟨3,id,tx,P9.layI l⟩:=congrArg Prod.fst g1
 refine⟨h4,h3,?_,?_,?_⟩
 ·rw[h1,e]
  rfl
 ·rw[h1]
  exact g2
 ·rw[h1]
  rfl
structure Gp (M0 F:PM) (d:Nat) (key:ByteArray) (id:Int) (f:Fr) (l':List It) (i':List Int) (l1f:List It) (i1f:List Int) (l2f:List It) (i2f:List Int) (nd j:Nd) (olds:List Pg) (at_:Nat) (a ok b:List P10.It) (k0:P10.It) (l1:List It) (i1:List Int) (lw:List It) (ij:List Int) (l2:List It) (i2:List Int):Prop where
 ks:f.kids=a++ok++b
 atE:at_=a.length
 n:olds.length=ok.length
 k0E:ok[0]?=some k0
 ka:Kids (TreeAt M0 d) a (some k0.key) l1 i1
 kb:Kids (TreeAt M0 d) b none l2 i2
 pend:Pend F d j lw ij
 lE:l1f++l'++l2f=l1++lw++l2
 perm:(i1++(olds.map (·.id)++ij)++i2).Perm (i1f++([id]++i')++i2f)
 okp:∀ p∈olds,p.k=j.kind
 rg:RgP M0 olds
 mem:∀ p∈olds,p.id=id∨p.id∈i1f∨p.id∈i2f
 ov:∀ x∈lw,P9.kb x.key k0.key=false∨(a=[]∧x.key=key)
 un:Under lw (nextK b none)
 lwm:∀ x∈lw,x∈l1f∨x∈l'∨x∈l2f
 s1:∀ x∈i1,x∈i1f
 s2:∀ x∈i2,x∈i2f
 il:i'.length≤ij.length
 on:1≤olds.length∧olds.length≤2
 jl:j.len=0∨j.least≤j.len
 jp:nd.len≤j.len∧(2≤olds.length→0 < j.len)
theorem un_under{T:Int→List It→List Int→Prop}{q:P10.It}{b:List P10.It}{l:List It}{i:List Int}(h:Kids T (q::b) none l i):∃ l1 i1 l2 i2,T q.page l1 i1∧Over l1 q.key∧Under l1 (nextK b none)∧Kids T b none l2 i2∧l=l1++l2∧i=i1++i2:=h
theorem perm_c{a b:List Int}(h:∀ z,a.count z=b.count z):a.Perm b:=List.perm_iff_count.2 h
theorem gp_any{M0 F:PM}{d:Nat}{key:ByteArray}{id:Int}{f:Fr}{l':List It}{i':List Int}{l1f:List It}{i1f:List Int}{l2f:List It}{i2f:List Int}{nd j:Nd}{olds:List Pg}{at_:Nat}{G:Cg}{here:Sp}
  (hid:f.k.page=id) (ht:twigAt M0 f.id f.kids) (ha:Kids (TreeAt M0 d) f.a (some f.k.key) l1f i1f) (hb:Kids (TreeAt M0 d) f.b none l2f i2f) (hp:Pend F d nd l' i') (hh:HereOk M0 d id here) (hr:RoomK key [f] l') (hid2:2≤id∧id < M0.next)
  (hF:∀ x,x∈i1f∨x∈i2f→F.get x=M0.get x) (hG:∀ x,x < M0.next→G.M.get x=M0.get x) (hrng:∀ x,x∈i1f∨x∈i2f→2≤x∧x < M0.next) (ho:GOut G f.kids f.a.length here.pg nd j olds at_) :
  ∃ a ok b k0 l1 i1 lw ij l2 i2,Gp M0 F d key id f l' i' l1f i1f l2f i2f nd j olds at_ a ok b k0 l1 i1 lw ij l2 i2:=by
 have hpw:=rightO_pair ht.choose_spec.2.1
 obtain⟨hro,hru⟩:=hr f (List.mem_singleton.2 rfl)
 have hkd:here.pg.k=nd.kind:=by rw[hh.k,hh.kind,hp.kind_d]
 have same:∀ {q:P10.It} {ls:List It} {is:List Int} {nd':Nd} {tx:Int},TreeAt M0 d q.page ls is→(∀ x∈is,x∈i1f∨x∈i2f)→Nb G q.page nd' tx→∃ isub,Pend F d nd' ls isub∧is=[q.page]++isub∧2≤q.page∧q.page < M0.next∧nd'.good:=by
  intro q ls is nd' tx hts hsub hnb
  obtain⟨n2,isub,⟨tx2,g1,g2⟩,g3,g4⟩:=hts.pend
  have hq:q.page∈i1f∨q.page∈i2f:=hsub _ (by rw[g4];exact List.mem_cons_self)
  have hrq:=hrng _ hq
  have e:=hnb.get
  rw[hG _ hrq.2,g1] at e
  have e2:(⟨n2.kind,q.page,tx2,n2.body⟩:Pg)=⟨nd'.kind,q.page,tx,nd'.body⟩:=congrArg Prod.fst e
  simp only[Pg.mk.injEq] at e2
  have hn:n2=nd':=body_inj g2 hnb.good e2.1 e2.2.2.2
  subst hn
  exact⟨isub,g3.frame fun x hx=>hF x (hsub x (by rw[g4];exact List.mem_cons_of_mem _ hx)),g4,hrq.1,hrq.2,hnb.good⟩
 rcases ho with ⟨rfl,rfl,rfl,hjl⟩|⟨q,qk,nd',tx,h0,e1,hq,hqk,hnb,hkk,rfl,rfl⟩|⟨q,nd',tx,h0,rfl,hq,hnb,hkk,rfl,rfl⟩
 ·refine⟨f.a,[f.k],f.b,f.k,l1f,i1f,l',i',l2f,i2f,⟨by simp[Fr.kids],rfl,rfl,rfl,ha,hb,hp,rfl,?_,?_,?_,?_,hro,hru,fun x hx=>.inr (.inl hx),fun _ h=>h,fun _ h=>h,Nat.le_refl _,⟨Nat.le_refl _,Nat.le_succ _⟩,hjl,⟨Nat.le_refl _,fun h=>absurd h (by simp)⟩⟩⟩
  ·rw[List.map_cons,List.map_nil,hh.id]
  ·intro p hpm
   cases List.mem_singleton.1 hpm
   exact hkd
  ·intro p hpm
   cases List.mem_singleton.1 hpm
   rw[hh.id]
   exact hid2
  ·intro p hpm
   cases List.mem_singleton.1 hpm
   exact .inl hh.id
 · -- the page ahead
  have hqa:f.a[at_]?=some q:=by
   unfold Fr.kids at hq
   rwa[List.getElem?_append_left (by omega)] at hq
  have hqk':qk=f.k:=by
   unfold Fr.kids at hqk
   rw[List.getElem?_append_right (Nat.le_refl _),Nat.sub_self] at hqk
   simpa using hqk.symm
  subst hqk'
  have hsp:f.a=f.a.take at_++[q]:=by
   have h1:f.a.take (at_+1)=f.a:=List.take_of_length_le (by omega)
   rw[List.take_add_one,hqa] at h1
   exact h1.symm
  obtain⟨a0,hat⟩:∃ a0,a0=f.a.take at_:=⟨_,rfl⟩
  rw[← hat] at hsp
  have hal:at_=a0.length:=by
   rw[hat,List.length_take]
   omega
  rw[hsp] at ha
  obtain⟨l1,i1,ls,is,g1,g2,rfl,rfl⟩:=Kids.app.1 ha
  obtain⟨ls1,is1,ls2,is2,g3,g4,g5,⟨rfl,rfl⟩,rfl,rfl⟩:=g2
  rw[List.append_nil,List.append_nil] at *
  obtain⟨isub,c1,rfl,c2,c3,c4⟩:=same g3 (fun x hx=>.inl (List.mem_append_right _ hx)) hnb
  have hov:Over l' f.k.key:=fun x hx=>(hro x hx).resolve_right fun h=>by
   rw[hsp] at h
   exact absurd h.1 (by simp)
  have hlk:Lows ls1 f.k.key:=g5 f.k.key rfl
  have hqf:P9.kb q.key f.k.key=true:=by
   unfold Fr.kids at hpw
   exact (List.pairwise_append.1 hpw).2.2 q (by rw[hsp];simp) f.k List.mem_cons_self
  have hks:f.k.key.size≤32:=by
   have:=(P10.rightI_pair.1 ht.choose_spec.2.1).1 f.k (by unfold Fr.kids;simp)
   unfold P10.It.ok at this
   rw[decide_eq_true_eq] at this
   exact this.1
  have hj:=c1.join hp hlk hov hks h0
  refine⟨a0,[q,f.k],f.b,q,l1,i1,ls1++l',isub++i',l2f,i2f,⟨by unfold Fr.kids;rw[hsp];simp,hal,rfl,rfl,g1,hb,hj,by simp,?_,?_,?_,?_,fun x hx=>.inl ?_,?_,?_,?_,fun _ h=>h,by rw[List.length_append];omega,⟨Nat.le_succ _,Nat.le_refl _⟩,.inr ?_,?_⟩⟩
  ·rw[List.map_cons,List.map_cons,List.map_nil,hh.id]
   refine perm_c fun z=>?_
   have e2:([q.page,id]:List Int)=[q.page]++[id]:=rfl
   rw[e2]
   simp only[List.count_append]
   omega
  ·intro p hpm
   rw[join_kind]
   rcases List.mem_cons.1 hpm with rfl|hpm
   ·rfl
   ·cases List.mem_singleton.1 hpm
    rw[hkd,hkk]
  ·intro p hpm
   rcases List.mem_cons.1 hpm with rfl|hpm
   ·exact⟨c2,c3⟩
   ·cases List.mem_singleton.1 hpm
    rw[hh.id]
    exact hid2
  ·intro p hpm
   rcases List.mem_cons.1 hpm with rfl|hpm
   ·exact .inr (.inl (by simp))
   ·cases List.mem_singleton.1 hpm
    exact .inl hh.id
  ·rcases List.mem_append.1 hx with hx|hx
   ·exact g4 x hx
   ·exact kb_le (hov x hx) (P9.kb_asym hqf)
  ·refine Under.app.2 ⟨?_,hru⟩
   cases hfb:f.b with
   | nil=>exact Under.none_ _
   | cons r b=>
    refine Under.some_ fun x hx=>kb_trans (hlk x hx) ?_
    unfold Fr.kids at hpw
    have:=(List.pairwise_append.1 hpw).2.1
    rw[hfb] at this
    exact (List.pairwise_cons.1 this).1 r List.mem_cons_self
  ·intro x hx
   rcases List.mem_append.1 hx with hx|hx
   ·exact .inl (List.mem_append_right _ hx)
   ·exact .inr (.inl hx)
  ·exact fun x hx=>List.mem_append_left _ hx
  ·have e1:=c4.pos
   have e2:=join_len (k:=f.k.key) hkk
   have e3:=kind_least (join_kind nd' nd f.k.key)
   omega
  ·have e2:=join_len (k:=f.k.key) hkk
   omega
 · -- the page behind
  have hqb:∃ b0,f.b=q::b0:=by
   unfold Fr.kids at hq
   rw[List.getElem?_append_right (by omega),show f.a.length+1 - f.a.length=1 by omega,List.getElem?_cons_succ] at hq
   cases hfb:f.b with
   | nil=>rw[hfb] at hq;cases hq
   | cons r b=>
    rw[hfb] at hq
    cases hq
    exact⟨b,rfl⟩
  obtain⟨b0,hsp⟩:=hqb
  rw[hsp] at hb hru
  obtain⟨ls,is,l2,i2,g3,g4,g5,g2,rfl,rfl⟩:=un_under hb
  obtain⟨isub,c1,rfl,c2,c3,c4⟩:=same g3 (fun x hx=>.inr (List.mem_append_left _ hx)) hnb
  have hlk:Lows l' q.key:=hru q.key rfl
  have hqf:P9.kb f.k.key q.key=true:=by
   unfold Fr.kids at hpw
   rw[hsp] at hpw
   exact (List.pairwise_cons.1 (List.pairwise_append.1 hpw).2.1).1 q List.mem_cons_self
  have hks:q.key.size≤32:=by
   have:=(P10.rightI_pair.1 ht.choose_spec.2.1).1 q (by unfold Fr.kids;rw[hsp];simp)
   unfold P10.It.ok at this
   rw[decide_eq_true_eq] at this
   exact this.1
  have hpos:0 < nd'.len:=by
   have:=c4.pos
   have:1≤nd'.least:=by cases nd' <;> first|exact Nat.le_refl 1|exact Nat.le_succ 1
   omega
  have hj:=hp.join c1 hlk g4 hks hpos
  refine⟨f.a,[f.k,q],b0,f.k,l1f,i1f,l'++ls,i'++isub,l2,i2,⟨by unfold Fr.kids;rw[hsp];simp,rfl,rfl,rfl,ha,g2,hj,by simp,?_,?_,?_,?_,?_,?_,?_,fun _ h=>h,?_,by rw[List.length_append];omega,⟨Nat.le_succ _,Nat.le_refl _⟩,.inr ?_,?_⟩⟩
  ·rw[List.map_cons,List.map_cons,List.map_nil,hh.id]
   refine perm_c fun z=>?_
   have e2:([id,q.page]:List Int)=[id]++[q.page]:=rfl
   rw[e2]
   simp only[List.count_append]
   omega
  ·intro p hpm
   rw[join_kind]
   rcases List.mem_cons.1 hpm with rfl|hpm
   ·exact hkd
   ·cases List.mem_singleton.1 hpm
    exact hkk
  ·intro p hpm
   rcases List.mem_cons.1 hpm with rfl|hpm
   ·rw[hh.id]
    exact hid2
   ·cases List.mem_singleton.1 hpm
    exact⟨c2,c3⟩
  ·intro p hpm
   rcases List.mem_cons.1 hpm with rfl|hpm
   ·exact .inl hh.id
   ·cases List.mem_singleton.1 hpm
    exact .inr (.inr (by simp))
  ·intro x hx
   rcases List.mem_append.1 hx with hx|hx
   ·exact hro x hx
   ·exact .inl (kb_le (g4 x hx) (P9.kb_asym hqf))
  ·refine Under.app.2 ⟨?_,g5⟩
   cases b0 with
   | nil=>exact Under.none_ _
   | cons r b=>
    refine Under.some_ fun x hx=>kb_trans (hlk x hx) ?_
    unfold Fr.kids at hpw
    rw[hsp] at hpw
    have:=(List.pairwise_cons.1 (List.pairwise_append.1 hpw).2.1).2
    exact (List.pairwise_cons.1 this).1 r List.mem_cons_self
  ·intro x hx
   rcases List.mem_append.1 hx with hx|hx
   ·exact .inr (.inl hx)
   ·exact .inr (.inr (List.mem_append_left _ hx))
  ·exact fun x hx=>List.mem_append_right _ hx
  ·have e1:=c4.pos
   have e2:=join_len (k:=q.key) hkk.symm
   have e3:=kind_least (join_kind nd nd' q.key)
   have e4:=kind_least hkk
   omega
  ·have e2:=join_len (k:=q.key) hkk.symm
   omega
def Cg.saw(G:Cg)(sn':List Int):Cg:={ G with sn:=G.sn++sn' }
def Cg.kept(G:Cg)(vl' vm' vs' vo':Value)(K:Ks)(gn:List Int):Cg:={ G with vl:=vl',vm:=vm',vs:=vs',vo:=vo',M:=K.M,sets:=K.sets,made:=K.made,gone:=G.gone++gn }
structure KidsOk (G:Cg) (ks:List P10.It) (j:Nd) (olds:List Pg) (at_:Nat) (k0:P10.It):Prop where
 fine:Fine j
 sorted:j.sorted
 room:G.M.L.length+j.len≤3998
 lens:G.sets.length≤9000∧G.made.length≤9000∧G.gone.length≤9000∧olds.length≤2
 fr:2≤G.M.fr
 ids:∀ p∈olds,p.id≤100000
 k0:ks[at_]?=some k0
 n:at_+olds.length≤ks.length
theorem UpO.made_len{M0:PM}{D:Nat}{root:Int}{key:ByteArray}{ids:List Int}{L':List It}{gr:Bool}{fs:List Fr}{d:Nat}{id:Int}{la lb:List It}{ia ib:List Int}{lold:List It}{iold:List Int}{l':List It}{iall:List Int}{G:Cg}
  (U:UpO M0 D root key ids L' gr fs d id la lb ia ib lold iold l' iall G):d+fs.length=D∧G.gone.length≤22∧G.made.length≤iall.length+22∧l'.length≤250:=by
 have h1:=U.way.len
 have h2:=U.gonel
 have h3:=U.deep
 have h4:=U.perm.length_eq
 have h5:=U.llen
 have h6:=U.new
 have h7:G.gone.length≤22:=by
  cases gr <;> simp only[if_true,if_false,Bool.false_eq_true] at h2 <;> omega
 rw[List.length_append,List.length_append] at h4
 rw[h6,List.length_append,List.length_append] at h5
 exact⟨h1,h7,by omega,by omega⟩
theorem UpO.apart{M0:PM}{D:Nat}{root:Int}{key:ByteArray}{ids:List Int}{L':List It}{gr:Bool}{fs:List Fr}{d:Nat}{id:Int}{la lb:List It}{ia ib:List Int}{lold:List It}{iold:List Int}{l':List It}{iall:List Int}{G:Cg}
  (U:UpO M0 D root key ids L' gr fs d id la lb ia ib lold iold l' iall G):(ia++iall++ib).Nodup:=by
 have h1:(G.made++ids).Nodup:=List.nodup_append.2 ⟨U.mnod,U.nod,fun x hx y hy e=>by
  subst e
  have:=(U.made x hx).1
  have:=(U.rng x hy).2
  omega⟩
 have e:(G.gone++(ia++iall++ib)).Perm (G.made++ids):=perm_c fun z=>by
  have:=List.perm_iff_count.1 U.perm z
  rw[U.idsE]
  simp only[List.count_append] at this ⊢
  omega
 exact (List.nodup_append.1 (e.nodup_iff.2 h1)).2.1
theorem UpO.right_{M0:PM}{D:Nat}{root:Int}{key:ByteArray}{ids:List Int}{L':List It}{gr:Bool}{fs:List Fr}{d:Nat}{id:Int}{la lb:List It}{ia ib:List Int}{lold:List It}{iold:List Int}{l':List It}{iall:List Int}{G:Cg}
  (U:UpO M0 D root key ids L' gr fs d id la lb ia ib lold iold l' iall G):RightI l':=U.right.sub (by rw[U.new];exact (List.sublist_append_right _ _).trans (List.sublist_append_left _ _))
theorem UpO.next{M0:PM}{D:Nat}{root:Int}{key:ByteArray}{ids:List Int}{L':List It}{gr:Bool}{f:Fr}{fs:List Fr}{d:Nat}{id:Int}{la lb:List It}{ia ib:List Int}{lold:List It}{iold:List Int}{l':List It}{iall:List Int}{G G':Cg}
  (U:UpO M0 D root key ids L' gr (f::fs) d id la lb ia ib lold iold l' iall G)
  {l1:List It} {i1:List Int} {l2:List It} {i2:List Int} {la' lb':List It} {ia' ib':List Int} (hw:Way M0 D root fs (d+1) f.id la' lb' ia' ib') (ha:Kids (TreeAt M0 d) f.a (some f.k.key) l1 i1) (hb:Kids (TreeAt M0 d) f.b none l2 i2) (r1:Room fs l1) (r2:Room fs l2)
  (e1:la=la'++l1) (e2:lb=l2++lb') (e3:ia=ia'++f.id::i1) (e4:ib=i2++ib') (hk:f.k.page=id) (ht:twigAt M0 f.id f.kids)
  {iall':List Int} (hfr:∀ j∈ia'++ib',(setsM G'.M G'.sets).get j=M0.get j) (holdM:∀ x,x < M0.next→G'.M.get x=M0.get x)
  (hperm:(iall'++G'.gone).Perm (([f.id]++i1++iold++i2)++G'.made)) (hrg:RgP G'.M G'.sets) (hml:G'.M.L.length=M0.L.length+G'.made.length) (hmd:∀ x∈G'.made,M0.next≤x∧x < G'.M.next) (hmn:G'.made.Nodup)
  (hset:∀ p∈G'.sets,M0.fr≤p.id∧p.id < M0.next∧p.id∈ids) (hsame:G'.M.fr=M0.fr∧G'.M.given=M0.given∧G'.M.bad=M0.bad∧G'.M.twice=M0.twice) (hgl:G'.gone.length≤(if gr then 1 else 2)*d) (hsl:G'.sets.length≤600*(d+1))
  (hsn:∀ x∈G'.sn,x∈G.sn∨x∈i1∨x∈iold∨x∈i2) (hsnl:G'.sn.length≤20+2*(d+1)) (hkey:G'.key=key) (hl1:(l1++l'++l2:List It)=l1++l'++l2) (hdp:∃ e,d=e+1) :
  ∃ iold',UpO M0 D root key ids L' gr fs (d+1) f.id la' lb' ia' ib' (l1++lold++l2) iold' (l1++l'++l2) iall' G':=by
 obtain⟨e,rfl⟩:=hdp
 have hks:Kids (TreeAt M0 (e+1)) f.kids none (l1++lold++l2) (i1++iold++i2):=by
  have hold:=U.old
  rw[← hk] at hold
  have hro:=U.oroom f List.mem_cons_self
  unfold Fr.kids
  refine Kids.app.2 ⟨l1,i1,lold++l2,iold++i2,ha,⟨lold,iold,l2,i2,hold,hro.1,hro.2,hb,rfl,rfl⟩,by simp,by simp⟩
 refine⟨[f.id]++i1++iold++i2,⟨hw,U.deep,⟨f.kids,i1++iold++i2,ht,hks,by simp⟩,Room.app.2 ⟨Room.app.2 ⟨r1,fun g hg=>U.oroom g (List.mem_cons_of_mem _ hg)⟩,r2⟩,?_,U.nod,U.rng,U.size,?_,U.right,U.llen,?_,hfr,holdM,hperm,hrg,hml,hmd,hmn,hset,hsame,U.fr2,hgl,hsl,?_,hsnl,hkey⟩⟩
 ·rw[U.idsE,e3,e4]
  simp
 ·rw[U.new,e1,e2]
  simp
 ·exact ((r1.toK key).app fun g hg=>U.room g (List.mem_cons_of_mem _ hg)).app (r2.toK key)
 ·intro x hx
  rcases hsn x hx with h|h|h|h
  ·rcases U.sn x h with h|⟨g,hg,rfl⟩
   ·exact .inl (by simp[h])
   ·rcases List.mem_cons.1 hg with rfl|hg
    ·exact .inl (by simp)
    ·exact .inr ⟨g,hg,rfl⟩
  ·exact .inl (by simp[h])
  ·exact .inl (by simp[h])
  ·exact .inl (by simp[h])
end Go.Proofs.YtjepgclnbbpnaaaGreat.P12
