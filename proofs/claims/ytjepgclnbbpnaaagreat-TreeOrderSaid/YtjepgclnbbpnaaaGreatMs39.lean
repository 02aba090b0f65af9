/-
  Texts of the proofs of SaidOrd12.
-/
import Derived.Test.YtjepgclnbbpnaaaGreatMs38
import Derived.Shelf.SlIterI.Nil
import Derived.Shelf.SortM.Plain
import Derived.Shelf.SortM.SortNone
set_option linter.unusedVariables false
set_option linter.unusedSimpArgs false
set_option maxHeartbeats 8000000
set_option maxRecDepth 100000
namespace Go.Proofs.YtjepgclnbbpnaaaGreat.P12
open Go Go.RowKit Go.Lib PK
open P11 (Pg)
open P9 (It kb kb_trans RightI lowK)
theorem turn_way{M:PM}{D:Nat}{root:Int}:∀ {fs:List Fr} {d:Nat} {id:Int} {la lb l:List It} {ia ib i:List Int} {ts:List Sp},Way M D root fs (d+1) id la lb ia ib→TreeAt M (d+1) id l i→Room fs l→All2 (StTw M) ts fs.reverse→
  (turnP ts=([],0)∧lb=[]∧ib=[])∨∃ f fu p ts' e lq iq lb2 ib2,turnP ts=(ts'++[p],f.k.page)∧All2 (StTw M) (ts'++[p]) (f::fu).reverse∧Way M D root (f::fu) (e+1) f.k.page (la++l) lb2 (ia++i) ib2∧TreeAt M (e+1) f.k.page lq iq∧Room (f::fu) lq∧lb=lq++lb2∧ib=iq++ib2
 | [],d,id,la,lb,l,ia,ib,i,ts,hw,ht,hr,ha=>by
  obtain⟨_,_,rfl,rfl,rfl,rfl⟩:=hw
  refine .inl ⟨?_,rfl,rfl⟩
  cases ts with
  | nil=>rfl
  | cons=>exact ha.elim
 | f :: fu,d,id,_,_,l,_,_,i,ts,hw0,ht,hr,ha=>by
  obtain⟨hk,htw,l1,i1,l2,i2,la,lb,ia,ib,h1,h2,h3,h4,hw,rfl,rfl,rfl,rfl⟩:=hw0
  rw[List.reverse_cons] at ha
  obtain⟨ts',p,rfl,ha1,ha2⟩:=ha.snoc
  have r:=Room.cons.1 hr
  have hkl:p.kl=f.kids:=by unfold Sp.kl;rw[ha2.1]
  have hat:(p.at_+1).toNat=f.a.length+1:=by rw[ha2.2.1];omega
  have hidx:f.kids[f.a.length+1]?=f.b[0]?:=by
   unfold Fr.kids
   rw[List.getElem?_append_right (by omega),show f.a.length+1 - f.a.length=0+1 by omega,List.getElem?_cons_succ]
  cases hfb:f.b with
  | nil=>
   rw[hfb] at h2
   obtain⟨rfl,rfl⟩:=h2
   have htp:turnP (ts'++[p])=turnP ts':=by rw[turnP_snoc,hkl,hat,hidx,hfb];rfl
   have H:TreeAt M (d+2) f.id (l1++l) (f.id::(i1++i)):=by
    refine⟨f.a++f.k::f.b,i1++i,htw,?_,rfl⟩
    refine Kids.app.2 ⟨l1,i1,l,i,h1,⟨l,i,[],[],by rw[hk];exact ht,r.1.1,r.1.2,by rw[hfb];exact⟨rfl,rfl⟩,by simp,by simp⟩,rfl,rfl⟩
   rcases turn_way (d:=d+1) hw H (Room.app.2 ⟨h3,r.2⟩) ha1 with ⟨g1,g2,g3⟩|⟨f',fu',p',ts2,e,lq,iq,lb2,ib2,g1,g2,g3,g4,g5,g6,g7⟩
   ·exact .inl ⟨by rw[htp,g1],by rw[g2];rfl,by rw[g3];rfl⟩
   ·refine .inr ⟨f',fu',p',ts2,e,lq,iq,lb2,ib2,by rw[htp,g1],g2,?_,g4,g5,by rw[g6];rfl,by rw[g7];rfl⟩
    have e1:la++l1++l=la++(l1++l):=List.append_assoc _ _ _
    have e2:ia++f.id::i1++i=ia++(f.id::(i1++i)):=by simp
    rw[e1,e2]
    exact g3
  | cons q b=>
   rw[hfb] at h2
   obtain⟨lq,iq,l3,i3,k1,k2,k3,k4,rfl,rfl⟩:=h2
   have htp:turnP (ts'++[p])=(ts'++[p.next],q.page):=by rw[turnP_snoc,hkl,hat,hidx,hfb];rfl
   have hkids:(f.a++[f.k])++q::b=f.a++f.k::f.b:=by rw[hfb];simp
   have r4:=Room.app.1 h4
   refine .inr ⟨⟨f.id,f.a++[f.k],q,b⟩,fu,p.next,ts',d,lq,iq,l3++lb,i3++ib,htp,?_,⟨rfl,?_,l1++l,i1++i,l3,i3,la,lb,ia,ib,?_,k4,Room.app.2 ⟨h3,r.2⟩,r4.2,hw,by simp,rfl,by simp,rfl⟩,k1,Room.cons.2 ⟨⟨k2,k3⟩,r4.1⟩,by simp,by simp⟩
   ·rw[List.reverse_cons]
    refine ha1.app ⟨⟨?_,?_,ha2.2.2.1,ha2.2.2.2⟩,trivial⟩
    ·show p.nd=.tw ((f.a++[f.k])++q::b)
     rw[hkids]
     exact ha2.1
    ·show p.at_+1=((f.a++[f.k]).length:Nat)
     rw[ha2.2.1,List.length_append,List.length_singleton]
     rfl
   ·show twigAt M f.id ((f.a++[f.k])++q::b)
    rw[hkids]
    exact htw
   ·have hu:=r.1.2
    rw[hfb] at hu
    exact Kids.app.2 ⟨l1,i1,l,i,h1,⟨l,i,[],[],by rw[hk];exact ht,r.1.1,hu,⟨rfl,rfl⟩,by simp,by simp⟩,rfl,rfl⟩
theorem Way.below{M:PM}{D e:Nat}{root q:Int}{f0:List Fr}{la0 lb0:List It}{ia0 ib0:List Int}{lq:List It}(h0:Way M D root f0 e q la0 lb0 ia0 ib0)(hr:Room f0 lq):∀ {fs:List Fr} {d:Nat} {id:Int} {la lb l:List It} {ia ib:List Int},Way M e q fs d id la lb ia ib→lq=la++l++lb→
  Way M D root (fs++f0) d id (la0++la) (lb++lb0) (ia0++ia) (ib++ib0)
 | [],d,id,la,lb,l,ia,ib,⟨h1,h2,h3,h4,h5,h6⟩,_=>by
  subst h1 h2 h3 h4 h5 h6
  simpa using h0
 | f::fs,d,id,_,_,l,_,_,⟨hk,htw,l1,i1,l2,i2,la,lb,ia,ib,h1,h2,h3,h4,hw,rfl,rfl,rfl,rfl⟩,e0=>by
  have hw':=Way.below h0 hr (l:=l1++l++l2) hw (by rw[e0];simp)
  have hr0:Room f0 (l1++l++l2):=by
   rw[show (la++l1)++l++(l2++lb)=la++(l1++l++l2)++lb by simp] at e0
   rw[e0] at hr
   exact (Room.app.1 (Room.app.1 hr).1).2
  have r1:=Room.app.1 hr0
  have r2:=Room.app.1 r1.1
  have rap:∀ {m:List It},Room fs m→Room f0 m→Room (fs++f0) m:=fun ha hb g hg=>(List.mem_append.1 hg).elim (ha g) (hb g)
  exact⟨hk,htw,l1,i1,l2,i2,la0++la,lb++lb0,ia0++ia,ib++ib0,h1,h2,rap h3 r2.1,rap h4 r1.2,hw',by simp,by simp,by simp,by simp⟩
theorem lows_zero{l:List It}(h:Lows l ⟨#[]⟩):l=[]:=by
 cases l with
 | nil=>rfl
 | cons x l=>
  have:=h x List.mem_cons_self
  rw[kb_zero] at this
  cases this
theorem Way.first{M:PM}{D:Nat}{root:Int}:∀ {fs:List Fr} {d:Nat} {id:Int} {lb:List It} {ia ib:List Int},Way M D root fs d id [] lb ia ib→ia=pathI fs
 | [],_,_,_,_,_,h=>h.2.2.2.2.1
 | f::fs,d,id,_,_,_,⟨hk,htw,l1,i1,l2,i2,la,lb,ia,ib,h1,h2,h3,h4,hw,e1,rfl,rfl,rfl⟩=>by
  have e2:=List.append_eq_nil_iff.1 e1.symm
  obtain⟨rfl,rfl⟩:=e2
  have hfa:i1=[]:=by
   cases hfa:f.a with
   | nil=>rw[hfa] at h1;exact h1.2
   | cons k a=>
    rw[hfa] at h1
    have:=h1.len (c:=1) fun _ _ _ g=>g.ne
    simp at this
  rw[hfa,Way.first hw]
  unfold pathI
  simp
structure Lf (M:PM) (D:Nat) (root:Int) (L:List It) (ids:List Int) (ps:List Sp) (sn:List Int) (fs:List Fr) (la l' lb:List It) (ia i' ib:List Int) (k:Nat):Prop where
 way:∃ id',Way M D root fs 1 id' la lb ia ib∧TreeAt M 1 id' l' i'
 room:Room fs l'
 lE:L=la++l'++lb
 iE:ids=ia++i'++ib
 st:∃ (ts:List Sp) (pl:Sp),ps=ts++[pl]∧All2 (StTw M) ts fs.reverse∧pl.nd=.lf l'∧pl.at_=(k:Int)
 kl:k≤l'.length
 snm:∀ x∈sn,x∈ia++i'
 snl:sn.length≤ia.length+i'.length
theorem Way.plen{M:PM}{D:Nat}{root:Int}:∀ {fs:List Fr} {d:Nat} {id:Int} {la lb:List It} {ia ib:List Int},Way M D root fs d id la lb ia ib→(pathI fs).length≤ia.length
 | [],_,_,_,_,_,_,_=>Nat.zero_le _
 | f::fs,d,id,_,_,_,_,⟨_,_,l1,i1,l2,i2,la,lb,ia,ib,_,_,_,_,hw,_,_,e,_⟩=>by
  have:=hw.plen
  rw[e]
  unfold pathI at this ⊢
  simp only[List.length_map,List.length_reverse,List.length_cons,List.length_append] at this ⊢
  omega
theorem Lf.start{M:PM}{d:Nat}{root:Int}{key:ByteArray}{L:List It}{ids:List Int}{ts:List Sp}{pl:Sp}{fs:List Fr}{id':Int}{l':List It}{i':List Int}(h:Down M (d+1) root key L ids ts pl fs id' l' i') :
  ∃ la lb ia ib,Lf M (d+1) root L ids (ts++[pl]) (pathI fs++[id']) fs la l' lb ia i' ib (lowK l' key)∧Lows la key∧Highs lb key∧(key=⟨#[]⟩→la=[]∧pathI fs++[id']=ia++i'):=by
 obtain⟨la,lb,ia,ib,hw,ht,hro,e1,e2,h1,h2⟩:=h.dn
 have hi:i'=[id']:=ht.2
 refine⟨la,lb,ia,ib,⟨⟨id',hw,ht⟩,hro,e1,e2,⟨ts,pl,rfl,h.tw,h.lf.1,h.lf.2.1⟩,P9.lowK_le _ _,fun x hx=>?_,by rw[hi,List.length_append];have:=hw.plen;simp only[List.length_singleton];omega⟩,h1,h2,fun hk=>?_⟩
 ·rcases List.mem_append.1 hx with hx|hx
  ·unfold pathI at hx
   obtain⟨f,hf,rfl⟩:=List.mem_map.1 hx
   exact List.mem_append_left _ (hw.path f (List.mem_reverse.1 hf))
  ·rw[hi]
   exact List.mem_append_right _ hx
 ·rw[hk] at h1
  have e:=lows_zero h1
  subst e
  exact⟨rfl,by rw[hw.first,hi]⟩
theorem Lf.next{M:PM}{D:Nat}{root:Int}{L:List It}{ids:List Int}{ps:List Sp}{sn:List Int}{fs:List Fr}{la l' lb:List It}{ia i' ib:List Int}{k:Nat}(h:Lf M D root L ids ps sn fs la l' lb ia i' ib k)(hn:ids.Nodup) :
  (turnP ps=([],0)∧lb=[]∧ib=[])∨∃ ps2 e z lq iq,turnP ps=(ps2,z)∧TreeAt M (e+1) z lq iq∧e+1+ps2.length=D∧iq.Nodup∧(∀ j∈iq,j∉sn)∧
   ∀ {ts:List Sp} {pl:Sp} {f2:List Fr} {id2:Int} {l2:List It} {i2:List Int},Down M (e+1) z ⟨#[]⟩ lq iq ts pl f2 id2 l2 i2→
    ∃ fs3 lb3 ib3 ia3,Lf M D root L ids (ps2++ts++[pl]) (sn++pathI f2++[id2]) fs3 (la++l') l2 lb3 ia3 i2 ib3 0∧lb=l2++lb3∧(sn=ia++i'→sn++pathI f2++[id2]=ia3++i2):=by
 obtain⟨id',hw,ht⟩:=h.way
 obtain⟨ts0,pl0,rfl,ha,hnd,hat⟩:=h.st
 have htp:turnP (ts0++[pl0])=turnP ts0:=by
  rw[turnP_snoc]
  unfold Sp.kl
  rw[hnd]
  rfl
 rw[htp]
 have hne:=h.iE
 rcases turn_way (d:=0) hw ht h.room ha with ⟨g1,g2,g3⟩|⟨f,fu,p,ts',e,lq,iq,lb2,ib2,g1,g2,g3,g4,g5,g6,g7⟩
 ·exact .inl ⟨g1,g2,g3⟩
 ·rw [hne,g7] at hn
  obtain⟨n1,n2,n3⟩:=List.nodup_append.1 hn
  refine .inr ⟨ts'++[p],e,f.k.page,lq,iq,g1,g4,?_,(List.nodup_append.1 n2).1,fun j hj hs=>n3 j (h.snm j hs) j (List.mem_append_left _ hj) rfl,fun {ts pl f2 id2 l2 i2} hd=>?_⟩
  ·have h1:=g3.len
   have h2:=g2.len
   rw[List.length_reverse] at h2
   omega
  ·obtain⟨la2,lb4,ia2,ib4,w1,w2,w3,w4,w5,w6,w7⟩:=hd.dn
   have e0:=lows_zero w6
   subst e0
   have hi2:i2=[id2]:=w2.2
   have hia:=w1.first
   have hl0:lowK l2 ⟨#[]⟩=0:=by
    cases l2 with
    | nil=>rfl
    | cons x l2=>rw[P9.lowK_cons,if_neg (by rw[kb_zero];simp)]
   have hroom:Room (f2++f::fu) l2:=fun g hg=>by
    rcases List.mem_append.1 hg with hg|hg
    ·exact w3 g hg
    ·rw[w4] at g5
     exact (Room.app.1 (Room.app.1 g5).1).2 g hg
   have hway:=Way.below g3 g5 w1 w4
   rw[List.append_nil] at hway
   refine⟨f2++f::fu,lb4++lb2,ib4++ib2,ia++i'++ia2,⟨⟨id2,hway,w2⟩,hroom,?_,?_,⟨ts'++[p]++ts,pl,by simp,?_,hd.lf.1,?_⟩,Nat.zero_le _,?_,by rw[hi2,hia];have:=h.snl;simp only[List.length_append,List.length_singleton];omega⟩,?_,fun hsn=>?_⟩
   ·rw[h.lE,g6,w4]
    simp
   ·rw[hne,g7,w5]
    simp
   ·rw[List.reverse_append]
    exact g2.app hd.tw
   ·rw[hd.lf.2.1,hl0]
   ·intro x hx
    rw[List.append_assoc] at hx
    rcases List.mem_append.1 hx with hx|hx
    ·exact List.mem_append_left _ (List.mem_append_left _ (h.snm x hx))
    ·rw[← hia,← hi2] at hx
     rcases List.mem_append.1 hx with hx|hx
     ·exact List.mem_append_left _ (List.mem_append_right _ hx)
     ·exact List.mem_append_right _ hx
   ·rw[g6,w4]
    simp
   ·rw[hsn,hia,hi2]
theorem has_least{R:Nat→Prop}(n:Nat):R n→∃ m,R m∧∀ k,R k→m≤k:=by
 induction n using Nat.strongRecOn with
 | ind n ih=>
  intro h
  by_cases c:∃ m,m < n∧R m
  ·obtain⟨m,hm,hr⟩:=c
   exact ih m hm hr
  ·exact⟨n,h,fun k hk=>Nat.le_of_not_lt fun hlt=>c ⟨k,hlt,hk⟩⟩
open Classical in
noncomputable def leastN(R:Nat→Prop):Nat:=if h:∃ m,R m∧∀ k,R k→m≤k then Classical.choose h else 0
theorem leastN_spec{R:Nat→Prop}{n:Nat}(h:R n):R (leastN R)∧leastN R≤n:=by
 have h1:=has_least n h
 unfold leastN
 rw[dif_pos h1]
 exact⟨(Classical.choose_spec h1).1,(Classical.choose_spec h1).2 n h⟩
structure Sg where
 ps:List Sp
 sn:List Int
 fs:List Fr
 la:List It
 l':List It
 lb:List It
 ia:List Int
 i':List Int
 ib:List Int
 k:Nat
abbrev Sg.ok(g:Sg)(M:PM)(D:Nat)(root:Int)(L:List It)(ids:List Int):Prop:=Lf M D root L ids g.ps g.sn g.fs g.la g.l' g.lb g.ia g.i' g.ib g.k
structure SeeP (M:PM) (D:Nat) (root:Int) (L:List It) (ids:List Int) (w0:World) (b s mb:Nat) (P P2:World→Option Nat→Sg→Prop) (Q:World→List Int→Prop):Prop where
 stop:∀ (W w2:World) (x:Option Nat) (g:Sg) (vw:Value),P2 W x g→SkAt W x b s mb vw g.ps g.sn→g.ok M D root L ids→g.lb=[]→g.ib=[]→Below w0.heap.size w0 w2→P3.Fr (SS s mb vw) W w2→(∀ j,SS s mb vw j→w0.heap.size≤j)→FrT x W w2→Q w2 g.sn
 next:∀ (W w2:World) (x:Option Nat) (g g2:Sg) (vw:Value),P2 W x g→SkAt W x b s mb vw g.ps g.sn→g.ok M D root L ids→g2.ok M D root L ids→g2.la=g.la++g.l'→g.lb=g2.l'++g2.lb→g2.k=0→(g.sn=g.ia++g.i'→g2.sn=g2.ia++g2.i')→Below w0.heap.size w0 w2→P3.Fr (SS s mb vw) W w2→(∀ j,SS s mb vw j→w0.heap.size≤j)→FrT x W w2→P w2 x g2
inductive LvR (M:PM) (D:Nat) (root:Int) (L:List It) (ids:List Int) (w0:World) (b s mb:Nat) (P:World→Option Nat→Sg→Prop) (Q:World→List Int→Prop) (wr:World):Nat→Prop where
 | at_ {x:Option Nat} {vw:Value} {g:Sg} (hb:Below w0.heap.size w0 wr) (hs:SkAt wr x b s mb vw g.ps g.sn) (hn:∀ j,SS s mb vw j→w0.heap.size≤j) (hg:g.ok M D root L ids) (hp:P wr x g):LvR M D root L ids w0 b s mb P Q wr (g.lb.length+1)
 | end_ {x:Option Nat} {vw:Value} {sn:List Int} (hb:Below w0.heap.size w0 wr) (hs:SkAt wr x b s mb vw [] sn) (hq:Q wr sn):LvR M D root L ids w0 b s mb P Q wr 0
theorem Lf.bounds{M:PM}{D:Nat}{root:Int}{L:List It}{ids:List Int}{ps:List Sp}{sn:List Int}{fs:List Fr}{la l' lb:List It}{ia i' ib:List Int}{k:Nat}(h:Lf M D root L ids ps sn fs la l' lb ia i' ib k):0 < ps.length∧ps.length=D∧(∀ p∈ps,0≤p.at_∧p.at_≤100000∧p.nd.len≤1000)∧l'.length≤231∧0 < l'.length:=by
 obtain⟨id',hw,ht⟩:=h.way
 obtain⟨ts,pl,rfl,ha,hnd,hat⟩:=h.st
 have hl:=ha.len
 rw[List.length_reverse] at hl
 have hwl:=hw.len
 have hkl:=h.kl
 obtain⟨tx,_,h1,h2,h3⟩:=ht.1
 have h4:=P9.sumI_len l'
 refine⟨by simp,by rw[List.length_append,List.length_singleton];omega,fun p hp=>?_,by omega,h3⟩
 rcases List.mem_append.1 hp with hp|hp
 ·obtain⟨i,hi,e⟩:=List.mem_iff_getElem.1 hp
  have hi2:i < fs.reverse.length:=by rw[List.length_reverse];omega
  have hst:=ha.at_ (i:=i) (a:=p) (b:=fs.reverse[i]) (by rw[List.getElem?_eq_getElem hi,e]) (List.getElem?_eq_getElem hi2)
  have htw:=hw.pages _ (List.mem_reverse.1 (List.getElem_mem hi2))
  obtain⟨t1,t2,_⟩:=twig_ok htw
  rw[hst.1,hst.2.1]
  have h9:(fs.reverse[i]).kids.length=(fs.reverse[i]).a.length+((fs.reverse[i]).b.length+1):=by
   unfold Fr.kids
   rw[List.length_append,List.length_cons]
  refine⟨by omega,by omega,?_⟩
  show (fs.reverse[i]).kids.length≤1000
  omega
 ·rw[List.mem_singleton] at hp
  subst hp
  rw[hnd,hat]
  refine⟨by omega,by omega,?_⟩
  show l'.length≤1000
  omega
end Go.Proofs.YtjepgclnbbpnaaaGreat.P12
namespace Go.Proofs.YtjepgclnbbpnaaaGreat.P12
open PK (qqA qqB qqC qqD qqE qqF tk tkS dOne qh)
open Go Go.RowKit Go.Lib PK
open P11 (Pg)
open P9 (It kb kb_trans RightI lowK)
theorem leavesI(w0 w:World)(b s mb:Nat)(vl vg:Value)(M:PM)(h0:PAt w0 b vl vg M)(hb0:Below w0.heap.size w0 w)(hs:SkAt w none b s mb (.slice none 0 0) [] [])(hS:w0.heap.size≤s∧w0.heap.size≤mb)(hsz:M.L.length≤100000)(D:Nat)(root:Int)(L:List It)(ids:List Int)(ht:Tree M D root L ids)(hD:D≤12)(hn:ids.Nodup)(hid:ids.length≤80000)(key:ByteArray)(lb nb:Nat)
  (P P2:World→Option Nat→Sg→Prop) (Q:World→List Int→Prop) (hP:SeeP M D root L ids w0 b s mb P P2 Q)
  (hstart:∀ (w2:World) (g:Sg) (vw:Value),SkAt w none b s mb vw [] []→g.ok M D root L ids→g.k=lowK g.l' key→Lows g.la key→Highs g.lb key→(key=⟨#[]⟩→g.la=[]∧g.sn=g.ia++g.i')→Below w0.heap.size w0 w2→P3.Fr (SS s mb vw) w w2→(∀ j,SS s mb vw j→w0.heap.size≤j)→FrT none w w2→P w2 none g)
  (hnone:D=0→Q w [])
  (hsee:∀ (W:World) (x:Option Nat) (vw:Value) (g:Sg),Below w0.heap.size w0 W→SkAt W x b s mb vw g.ps g.sn→(∀ j,SS s mb vw j→w0.heap.size≤j)→g.ok M D root L ids→P W x g→
   Calls Tryz.prog 60 #[vw,.pointer (some ⟨lb,0,none⟩),.pointer (some ⟨nb,0,none⟩)] W fun e w'=>∃ (bb:Bool) (x':Option Nat),e=.returned (.bool bb)∧Below w0.heap.size w0 w'∧SkAt w' x' b s mb vw g.ps g.sn∧(∀ k,x'=some k→k < w'.heap.size)∧(bb=true→P2 w' x' g)∧(bb=false→Q w' g.sn)) :
  Calls Tryz.prog 59 #[.pointer (some ⟨s,0,none⟩),.int .i64 root,.string key,.func (.func 60) #[] #[.pointer (some ⟨lb,0,none⟩),.pointer (some ⟨nb,0,none⟩)]] w fun e w'=>∃ (x:Option Nat) (vw:Value) (ps:List Sp) (sn:List Int),e=.returned (.int .i64 0)∧Below w0.heap.size w0 w'∧SkAt w' x b s mb vw ps sn∧Q w' sn:=by
 have hdown:Calls Tryz.prog 53 #[.pointer (some ⟨s,0,none⟩),.int .i64 root,.string key] w fun e w'=>e=.returned (.int .i64 0)∧∃ n,LvR M D root L ids w0 b s mb P Q w' n:=by
  cases D with
  | zero=>
   obtain⟨rfl,rfl,rfl⟩:=ht
   refine (down_zero w s key).mono ?_
   rintro e w' ⟨rfl,rfl⟩
   exact⟨rfl,0,.end_ hb0 hs (hnone rfl)⟩
  | succ d=>
   have ht:TreeAt M (d+1) root L ids:=ht
   refine (down_any w none b vl vg M s mb (.slice none 0 0) [] [] (h0.below hb0) hs (by omega) (d+1) root key L ids ht (by simp;omega) hn (fun _ _ f=>by cases f) (by simp) (fun _ e=>by cases e)).mono ?_
   rintro e w' ⟨vw',ts,pl,fs,id',l',i',rfl,g1,g2⟩
   rw[List.nil_append] at g1
   rw[List.nil_append] at g1
   obtain⟨la,lb,ia,ib,k1,k2,k3,k4⟩:=Lf.start g2
   have hnil:∀ j,SS s mb (.slice none 0 0) j→w0.heap.size≤j:=SS_new hS.1 hS.2
   have hbl:=P3.Fr.new hb0 g1.fr hnil
   have hft:FrT none w w':=FrT.ofFr g1.fr hs.notT
   refine⟨rfl,_,.at_ (x:=none) (vw:=vw') (g:=⟨ts++[pl],pathI fs++[id'],fs,la,l',lb,ia,i',ib,lowK l' key⟩) hbl g1.sk (fun j hj=>?_) k1 (hstart w' _ (.slice none 0 0) hs k1 rfl k2 k3 k4 hbl g1.fr hnil hft)⟩
   rcases g1.sub hj with h|h
   ·exact hnil j h
   ·exact Nat.le_trans hb0.size h
 have HDn:=qh hdown
 have HSee:=qh hsee
 have HP:=qh hP
 have H0:=qh h0
 clear hdown hsee hP hstart hnone h0 hs hb0 ht hS
 go_enter Tryz.func59,Tryz.ntmps59
 go_wp2_with (go_at_call 53;(with_reducible refine HDn.out.mono ?_);rintro e w1 ⟨rfl,h9⟩;have HR0:=qh h9;clear h9)
 go_loopw [9] (fun ve wr=>ve=.int .i64 0∧Hid (∃ n,LvR M D root L ids w0 b s mb P Q wr n)) (fun _ wr=>leastN (LvR M D root L ids w0 b s mb P Q wr))
 case atStart=>exact⟨rfl,HR0⟩
 case round=>
  clear HR0
  obtain⟨rfl,HR⟩:=hrel
  obtain⟨n0,hn0⟩:=HR.out
  have hr:=(leastN_spec hn0).1
  obtain⟨n,hnn⟩:∃ n,n=leastN (LvR M D root L ids w0 b s mb P Q wr):=⟨_,rfl⟩
  rw[← hnn] at hr
  have HNn:=qh hnn
  clear HR hn0 n0 hnn
  cases hr with
  | @end_ x vw sn hb hs hq=>
   obtain⟨va,vc,hvw⟩:=hs.slice
   have hvw:vw=.slice va 0 vc:=hvw
   subst hvw
   have o1:=cell_at hs.obj 1
   simp only[qqD,qqE,qqF] at o1
   have HB:=qh hb
   have HSk:=qh hs
   have HQ:=qh hq
   clear hb hs hq
   go_wp2
   go_ret
   exact⟨x,_,_,sn,rfl,HB.out,HSk.out,HQ.out⟩
  | @at_ x vw g hb hs hng hg hp=>
   obtain⟨bd1,bd2,bd3,bd4,bd5⟩:=hg.bounds
   obtain⟨va,vc,hvw⟩:=hs.slice
   obtain⟨m,hm⟩:∃ m,m=g.ps.length:=⟨_,rfl⟩
   rw[← hm] at hvw bd1 bd2
   subst hvw
   have o1:=cell_at hs.obj 1
   simp only[qqD,qqE,qqF] at o1
   have k1:decide ((0:Int) < (m:Int))=true:=decide_eq_true (by omega)
   have k2:(0:Int) < (m:Int):=by omega
   have k3:decide (0 < m)=true:=decide_eq_true bd1
   have HSe:=qh (HSee.out wr x _ g hb hs hng hg hp)
   have HNg:=qh hng
   have HG:=qh hg
   have HM:=qh hm
   have HBd:=qh bd3
   have HBD:=qh bd2
   clear hb hs hng hg hp hm bd3 bd2
   go_upto_region 3 with (go_at_call 60;(with_reducible refine HSe.out.mono ?_);rintro e w2 ⟨bb,x2,rfl,s1,s2,s3,s4,s5⟩;have S1:=qh s1;have S2:=qh s2;have S3:=qh s3;have S4:=qh s4;have S5:=qh s5;clear s1 s2 s3 s4 s5)
   rotate_left
   ·rename_i hbb
    go_ret
    exact⟨x2,_,_,g.sn,rfl,S1.out,S2.out,S5.out (by simpa using hbb)⟩
   ·rename_i hbb
    have htn:=turn_any w2 x2 b s mb (.slice va m vc) g.ps g.sn S2.out (by rw[← HM.out];exact bd1) (by rw[← HM.out];have:=HBD.out;omega) HBd.out
    rcases HG.out.next hn with ⟨t1,t2,t3⟩|⟨ps2,e2,z,lq,iq,t1,t2,t3,t4,t5,t6⟩
    ·rw[t1] at htn
     have hT:Calls Tryz.prog 72 #[.pointer (some ⟨s,0,none⟩)] w2 fun e w'=>e=.returned (.int .i64 0)∧LvR M D root L ids w0 b s mb P Q w' 0:=htn.mono fun e w'=>by
      rintro ⟨vw',rfl,g1,g2,g3,g4⟩
      have hfr:P3.Fr (SS s mb (.slice va m vc)) w2 w':=g2.mono fun j _ e=>e.imp id .inl
      have hbl:=P3.Fr.new S1.out hfr HNg.out
      exact⟨rfl,.end_ hbl g1 (HP.out.stop w2 w' x2 g _ (S4.out hbb) S2.out HG.out t2 t3 hbl hfr HNg.out g4)⟩
     have HT:=qh hT
     clear htn hT
     go_wp2_with (first
      | (go_at_call 72;(with_reducible refine HT.out.mono ?_);rintro e w3 ⟨rfl,h9⟩;have H9:=qh h9;clear h9)
      | (go_at_call 53;(with_reducible refine (down_zero _ s ⟨#[]⟩).mono ?_);rintro e w4 ⟨rfl,rfl⟩))
     go_roundw
     case rel=>exact⟨rfl,qh ⟨0,H9.out⟩⟩
     case measure=>
      rw[← HNn.out]
      have:=(leastN_spec H9.out).2
      omega
    ·rw[t1] at htn
     have hT:Calls Tryz.prog 72 #[.pointer (some ⟨s,0,none⟩)] w2 fun e w'=>e=.returned (.int .i64 z)∧∃ vw',SkAt w' x2 b s mb vw' ps2 g.sn∧P3.Fr (SS s mb (.slice va m vc)) w2 w'∧(∀ j,SS s mb vw' j→SS s mb (.slice va m vc) j)∧FrT x2 w2 w'∧Below w0.heap.size w0 w':=htn.mono fun e w'=>by
      rintro ⟨vw',rfl,g1,g2,g3,g4⟩
      have hfr:P3.Fr (SS s mb (.slice va m vc)) w2 w':=g2.mono fun j _ e=>e.imp id .inl
      exact⟨rfl,vw',g1,hfr,fun j hj=>by
       rcases hj with h|h|h
       ·exact .inl h
       ·exact .inr (.inl (g3 j h))
       ·exact .inr (.inr h),g4,P3.Fr.new S1.out hfr HNg.out⟩
     have hD2:∀ (W:World) (vw':Value),SkAt W x2 b s mb vw' ps2 g.sn→P3.Fr (SS s mb (.slice va m vc)) w2 W→(∀ j,SS s mb vw' j→SS s mb (.slice va m vc) j)→FrT x2 w2 W→Below w0.heap.size w0 W→Calls Tryz.prog 53 #[.pointer (some ⟨s,0,none⟩),.int .i64 z,.string ⟨#[]⟩] W fun e w'=>e=.returned (.int .i64 0)∧∃ n,LvR M D root L ids w0 b s mb P Q w' n∧n < g.lb.length+1:=fun W vw' q1 q2 q3 q4 q5=>by
      refine (down_any W x2 b vl vg M s mb vw' ps2 g.sn (H0.out.below q5) q1 hsz (e2+1) z ⟨#[]⟩ lq iq t2 (by omega) t4 t5 (by
       have h7:=HG.out.snl
       have h8:=HG.out.iE
       rw[h8] at hid
       simp only[List.length_append] at hid
       omega) (fun k hk=>Nat.lt_of_lt_of_le (S3.out k hk) q2.size)).mono ?_
      rintro e w' ⟨vw3,ts,pl,f2,id2,l2,i2,rfl,g1,g2⟩
      obtain⟨fs3,lb3,ib3,ia3,u1,u2,u3⟩:=t6 g2
      have hn2:∀ j,SS s mb vw' j→w0.heap.size≤j:=fun j hj=>HNg.out j (q3 j hj)
      have hbl:=P3.Fr.new q5 g1.fr hn2
      have hfr:P3.Fr (SS s mb (.slice va m vc)) w2 w':=frThen q2 g1.fr fun j _ hj=>q3 j hj
      have hft:FrT x2 w2 w':=q4.trans (FrT.ofFr g1.fr q1.notT)
      have hne:0 < l2.length:=u1.bounds.2.2.2.2
      refine⟨rfl,_,.at_ (x:=x2) (vw:=vw3) (g:=⟨ps2++ts++[pl],g.sn++pathI f2++[id2],fs3,g.la++g.l',l2,lb3,ia3,i2,ib3,0⟩) hbl g1.sk (fun j hj=>?_) u1 (HP.out.next w2 w' x2 g _ _ (S4.out hbb) S2.out HG.out u1 rfl u2 rfl u3 hbl hfr HNg.out hft),?_⟩
      ·rcases g1.sub hj with h|h
       ·exact hn2 j h
       ·exact Nat.le_trans q5.size h
      ·show lb3.length+1 < _
       rw[u2,List.length_append]
       omega
     have HT:=qh hT
     have HD2:=qh hD2
     clear htn hT hD2
     go_wp2_with (first
      | (go_at_call 72;(with_reducible refine HT.out.mono ?_);rintro e w3 ⟨rfl,vw3,h1,h2,h3,h4,h5⟩;have H1:=qh h1;have H2:=qh h2;have H3:=qh h3;have H4:=qh h4;have H5:=qh h5;clear h1 h2 h3 h4 h5)
      | (go_at_call 53;(with_reducible refine (HD2.out _ _ H1.out H2.out H3.out H4.out H5.out).mono ?_);rintro e w4 ⟨rfl,n4,h9,h8⟩;have H9:=qh h9;have H8:=qh h8;clear h9 h8))
     go_roundw
     case rel=>exact⟨rfl,qh ⟨n4,H9.out⟩⟩
     case measure=>
      rw[← HNn.out]
      have:=(leastN_spec H9.out).2
      have:=H8.out
      omega
end Go.Proofs.YtjepgclnbbpnaaaGreat.P12
