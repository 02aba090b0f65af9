/-
  Texts of the proofs of SaidOrd12.
-/
import Derived.Test.YtjepgclnbbpnaaaGreatMs37
set_option linter.unusedVariables false
set_option linter.unusedSimpArgs false
set_option maxHeartbeats 8000000
set_option maxRecDepth 100000
namespace Go.Proofs.YtjepgclnbbpnaaaGreat.P12
open PK (qqA qqB qqC qqD qqE qqF tk tkS dOne qh)
open Go Go.RowKit Go.Lib PK
open P11 (Pg cellsP PgsIn NsIn)
open P9 (It kb kb_trans RightI hasK lowK putI dropI)
theorem tiDrop_any(w:World)(b:Nat)(vl vg:Value)(M:PM)(h:PAt w b vl vg M)(hsz:M.L.length≤3400)(D:Nat)(root:Int)(L:List It)(ids:List Int)(ht:Tree M D root L ids)(hD:D≤12)(hn:ids.Nodup)(hr:∀ x∈ids,2≤x∧x < M.next)(hfr:2≤M.fr)(hgv:M.given.length≤90000)(key:ByteArray)
  (hR:RightI L) (hLl:L.length≤250) :
  Calls Tryz.prog 35 #[pgv b,.int .i64 root,.string key] w fun e w'=>
   (hasK L key=false∧e=.returned (.tuple #[.int .i64 root,.bool false,.int .i64 0])∧Below w.heap.size w w')∨
   (hasK L key=true∧∃ r vl' vg' M',e=.returned (.tuple #[.int .i64 r,.bool true,.int .i64 0])∧Chd w w' b vl vg M ids (dropI L key) (gmax false D) r vl' vg' M'):=by
 have ho:∀ W,Calls Tryz.prog 52 #[pgv b] W fun e w'=>∃ s mb,e=.returned (.pointer (some ⟨s,0,none⟩))∧SkAt w' none b s mb (.slice none 0 0) [] []∧W.heap.size≤s∧W.heap.size≤mb∧Below W.heap.size W w':=fun W=>
  (on_any W none b).mono fun e w' ⟨g1,g2,g3⟩=>⟨W.heap.size+1,W.heap.size,g1,g2,Nat.le_succ _,Nat.le_refl _,g3⟩
 have hd:∀ W s mb,PAt W b vl vg M→SkAt W none b s mb (.slice none 0 0) [] []→_:=fun W s mb k1 k2=>down_all W b s mb vl vg M k1 k2 hsz D root L ids ht hD hn hr hfr key
 have HO:=qh ho
 have HD:=qh hd
 have HP:=qh h
 have HRi:=qh hR
 obtain⟨hb,hhb⟩:∃ x,x=hasK L key:=⟨_,rfl⟩
 rw[← hhb]
 have HHb:=qh hhb
 unfold pgv at HO ⊢
 clear ho hd h hR ht hhb
 go_enter Tryz.func35,Tryz.ntmps35
 go_upto_region 2 with (go_at_call 52;(with_reducible refine (HO.out _).mono ?_);rintro e w2 ⟨s,mb,rfl,g1,g2,g3,g4⟩;have H2:=qh g4;have K2:=qh g1;have HSs:Hid (w.heap.size≤s∧w.heap.size≤mb):=qh ⟨g2,g3⟩;clear g1 g2 g3 g4)
 go_upto_region 5 with (go_at_call 53;(with_reducible refine (HD.out _ s mb (HP.out.below H2.out) K2.out).mono ?_);rintro e w3 ⟨vw,ps,sn,vI,l',rfl,g1,g2⟩;have HDn:=qh g1;have HDs:=qh g2;clear g1 g2)
 have h3:Below w.heap.size w w3:=HDs.out.below H2.out (SS_new HSs.out.1 HSs.out.2)
 have H3:=qh h3
 obtain⟨va,vc,hvI⟩:=HDn.out.it.its.slice
 have hhk:hasK L key=hasK l' key:=by
  obtain⟨la,lb,e,h1,h2⟩:=HDn.out.mid
  rw[e,hasK_mid h1 h2]
 have HIt:Hid (∀ W,Below w3.heap.size w3 W→Calls Tryz.prog 57 #[.pointer (some ⟨s,0,none⟩)] W fun e w'=>e=.returned vI∧Below w3.heap.size w3 w'):=fun W k=>(HDn.out.items W k).mono fun e w' ⟨g1,g2⟩=>⟨g1,thenBelow k g2⟩
 have HDr:Hid (∀ W,Below w3.heap.size w3 W→Calls Tryz.prog 58 #[vI,.string key] W fun e w'=>∃ v' n a c,e=.returned (.tuple #[v',.bool (hasK l' key)])∧v'=.slice a n c∧NdT w' none v' (.slice none 0 0) (.lf (dropI l' key))∧Below w3.heap.size w3 w'):=fun W k=>by
  have hi:=HDn.out.it.keep (FrT.of k)
  refine (P9.drop_any W vI l' key hi.its hi.wide (by have:=HDn.out.len;omega) HDn.out.right).mono ?_
  rintro e w' ⟨v',rfl,g1,g2⟩
  obtain⟨a,c,e9⟩:=g1.its.slice
  exact⟨v',_,a,c,rfl,e9,⟨ItT.own g1 (fun _ e=>by cases e),rfl⟩,thenBelow k g2⟩
 have HX3:=qh (Below.refl w3.heap.size w3)
 rw[hvI] at HIt HDr
 rw[← hhk,← HHb.out] at HDr
 clear hvI hhk h3
 go_upto_region 6 with (first
  | (go_at_call 57;(with_reducible refine (HIt.out _ HX3.out).mono ?_);rintro e w4 ⟨rfl,hz⟩;have HY:=qh hz;clear hz)
  | (go_at_call 58;(with_reducible refine (HDr.out _ HY.out).mono ?_);rintro e w5 ⟨v',n5,a5,c5,rfl,rfl,hz1,hz⟩;have HN5:=qh hz1;have HY:=qh hz;clear hz hz1))
 cases hb
 case false=>
  go_wp2
  go_ret3
  first
   | exact .inl ⟨rfl,rfl,thenBelow H3.out HY.out⟩
   | exact⟨rfl,thenBelow H3.out HY.out⟩
   | exact thenBelow H3.out HY.out
 case true=>
  have hca:=ch_start key (HP.out.below (thenBelow H3.out HY.out)) (HDn.out.sk.below HY.out)
  go_upto_region 9 with fail
  obtain⟨W7,hW7⟩:∃ W,W=w5.alloc (.cells #[.pointer (some ⟨s,0,none⟩),.string key,.slice none 0 0,.slice none 0 0,.slice none 0 0] 76):=⟨_,rfl⟩
  obtain⟨cb,hcb⟩:∃ c,c=w5.heap.size:=⟨_,rfl⟩
  rw[← hW7,← hcb]
  rw[← hW7,← hcb] at hca
  have b7:Below w5.heap.size w5 W7:=by rw[hW7];exact below_new _ _
  have k7:Below w.heap.size w W7:=thenBelow (thenBelow H3.out HY.out) b7
  have HCa:=qh hca
  have K7:=qh k7
  have HN7:=qh (HN5.out.keep (FrT.of b7))
  have HCb:Hid (w.heap.size≤cb):=qh (by rw[hcb];exact (thenBelow H3.out HY.out).size)
  have hup:=HDn.out.up (dropI L key) (dropI l' key) false ⟨b,s,mb,cb,vl,vg,vw,.slice none 0 0,.slice none 0 0,.slice none 0 0,M,ps,sn,key,[],[],[]⟩ (fun la lb e h1 h2=>by rw[e];exact dropI_mid h1 h2 HDn.out.right) (P9.dropI_right HRi.out key) (Nat.le_trans (P9.dropI_len L key) hLl) (fun y hy=>.inl ((P9.mem_dropI HDn.out.right key y).1 hy).1) (fun h=>by cases h) rfl rfl rfl rfl rfl rfl
  have HDo:Hid (∀ W,Below W7.heap.size W7 W→∀ v,NdT W none v (.slice none 0 0) (.lf (dropI l' key))→Calls Tryz.prog 54 #[.pointer (some ⟨cb,0,none⟩),.int .i64 root,.agg #[.int .i64 3,v,.slice none 0 0]] W fun e w'=>∃ r vl' vg' M',e=.returned (.tuple #[.int .i64 r,.int .i64 0])∧Chd w w' b vl vg M ids (dropI L key) (gmax false D) r vl' vg' M'):=fun W k v hv=>by
   refine (do_any W ⟨b,s,mb,cb,vl,vg,vw,.slice none 0 0,.slice none 0 0,.slice none 0 0,M,ps,sn,key,[],[],[]⟩ M D root ids (dropI L key) false (.lf (dropI l' key)) v (.slice none 0 0) (HCa.out.below k) hv HDn.out.pl hup hgv).mono ?_
   rintro e w' ⟨r,vl',vg',M',rfl,g1,g2,g3,g4⟩
   refine⟨r,vl',vg',M',rfl,chd_of (thenBelow K7.out k) (fun j hj=>?_) g1 g2 g3 g4⟩
   rcases hj with hj|hj
   ·rcases hj with hj|hj|hj
    ·rw[hj];exact HSs.out.1
    ·rcases HDs.out.new j hj with h9|h9
     ·cases h9
     ·exact Nat.le_trans H2.out.size h9
    ·rw[hj];exact HSs.out.2
   ·rcases hj with hj|hj|hj|hj
    ·rw[hj];exact HCb.out
    ·cases hj
    ·cases hj
    ·cases hj
  clear hW7 hcb hca b7 k7 hup
  go_wp2_with (first
   | (go_at_call 55;(with_reducible refine (ofItems_any _ _ _ _).mono ?_);rintro e w6 ⟨rfl,hz⟩;have HN8:=qh (HN7.out.keep (FrT.of hz));have HY7:=qh hz;clear hz)
   | (go_at_call 54;(with_reducible refine (HDo.out _ HY7.out _ HN8.out).mono ?_);rintro e w8 ⟨r,vl',vg',M',rfl,hz⟩;have HC:=qh hz;clear hz))
  go_ret3
  first
   | exact .inr ⟨rfl,r,vl',vg',M',rfl,HC.out⟩
   | exact⟨r,vl',vg',M',rfl,HC.out⟩
   | exact⟨r,rfl,vl',vg',M',HC.out⟩
end Go.Proofs.YtjepgclnbbpnaaaGreat.P12
namespace Go.Proofs.YtjepgclnbbpnaaaGreat.P12
open Go Go.RowKit Go.Lib PK
def bitsN(n:Nat):Nat:=if h:n=0 then 0 else bitsN (n / 2)+1
termination_by n
decreasing_by omega
theorem bitsN_zero:bitsN 0=0:=by rw[bitsN];simp
theorem bitsN_pos{n:Nat}(h:0 < n):bitsN n=bitsN (n / 2)+1:=by rw[bitsN,dif_neg (by omega)]
theorem bitsN_le:∀ n:Nat,bitsN n≤n
 | 0=>by rw[bitsN_zero];omega
 | n+1=>by
  rw[bitsN_pos (by omega)]
  have:=bitsN_le ((n+1) / 2)
  omega
theorem bitsN_pow:∀ (k:Nat) {n:Nat},2 ^ k≤n→k+1≤bitsN n
 | 0,n,h=>by
  rw[bitsN_pos (by rw[Nat.pow_zero] at h;omega)]
  omega
 | k+1,n,h=>by
  have h2:2 ^ k≤n / 2:=by rw[Nat.pow_succ] at h;omega
  have:=bitsN_pow k h2
  have h0:0 < n:=Nat.lt_of_lt_of_le (Nat.pow_pos (by omega)) h
  rw[bitsN_pos h0]
  omega
end Go.Proofs.YtjepgclnbbpnaaaGreat.P12
namespace Go.Proofs.YtjepgclnbbpnaaaGreat.P12
open Go Go.RowKit Go.Lib PK
open P11 (Pg)
open P9 (It kb RightI lowK hasK putI dropI putI_right dropI_right putI_len)
theorem right_none:RightI []:=P9.RightI.nil
structure TrS (M:PM) (D:Nat) (root:Int) (L:List It) (ids P:List Int) (p q:Nat):Prop where
 tree:Tree M D root L ids
 pool:Pool M ids P
 right:RightI L
 cnt:p+q≤250
 len:L.length+q≤p
 size:M.L.length≤8*p+16*q+ids.length
 giv:M.given.length≤8*p+16*q
theorem pow_deep{d n:Nat}(h:2 ^ d≤n)(hn:n≤250):d≤7:=by
 by_cases c:d≤7
 ·exact c
 ·have:(2:Nat) ^ 8≤2 ^ d:=Nat.pow_le_pow_right (by omega) (by omega)
  omega
section
variable {M:PM} {D:Nat} {root:Int} {L:List It} {ids P:List Int} {p q:Nat}
theorem TrS.llen(h:TrS M D root L ids P p q):L.length≤250:=by have:=h.cnt;have:=h.len;omega
theorem TrS.deep(h:TrS M D root L ids P p q):D≤8:=by
 cases D with
 | zero=>omega
 | succ d=>
  have ht:TreeAt M (d+1) root L ids:=h.tree
  have:=pow_deep ht.many h.llen
  omega
theorem TrS.idsl(h:TrS M D root L ids P p q):ids.length≤2*L.length:=by
 cases D with
 | zero=>
  obtain⟨_,_,e⟩:=h.tree
  rw[e]
  simp
 | succ d=>
  have ht:TreeAt M (d+1) root L ids:=h.tree
  have:=ht.pages
  omega
theorem TrS.szl(h:TrS M D root L ids P p q):M.L.length≤3000:=by
 have:=h.size
 have:=h.idsl
 have:=h.len
 have:=h.cnt
 omega
theorem TrS.gvl(h:TrS M D root L ids P p q):M.given.length≤3000:=by
 have:=h.giv
 have:=h.len
 have:=h.cnt
 omega
theorem TrS.root0(h:TrS M D root L ids P p q):root=0↔L.length=0:=by
 cases D with
 | zero=>
  obtain⟨e1,e2,_⟩:=h.tree
  rw[e1,e2]
  simp
 | succ d=>
  have ht:TreeAt M (d+1) root L ids:=h.tree
  have h1:=ht.ne
  obtain⟨r,e⟩:=ht.head
  have:=(h.pool.ids_rng (j:=root) (by rw[e];exact List.mem_cons_self)).1
  omega
theorem TrS.deep0(h:TrS M D root L ids P p q):D=0↔L.length=0:=by
 cases D with
 | zero=>
  obtain⟨e1,e2,_⟩:=h.tree
  rw[e2]
  simp
 | succ d=>
  have ht:TreeAt M (d+1) root L ids:=h.tree
  have h1:=ht.ne
  omega
theorem TrS.deepL(h:TrS M D root L ids P p q):2 ^ (D - 1)≤L.length∨D=0:=by
 cases D with
 | zero=>exact .inr rfl
 | succ d=>
  have ht:TreeAt M (d+1) root L ids:=h.tree
  exact .inl ht.many
theorem TrS.start:TrS ⟨[],2,[],false,false⟩ 0 0 [] [] [] 0 0:=
 ⟨⟨rfl,rfl,rfl⟩,⟨List.Perm.refl _,List.nodup_nil,fun _ h=>(by cases h),rfl,rfl,Int.le_refl _⟩,right_none,by omega,by simp,by simp,by simp⟩
theorem TrS.next(h:TrS M D root L ids P p q){L':List It}{c:Nat}{r:Int}{M':PM}(hd:DoR M ids L' c r M')(hr:RightI L'){p' q':Nat}(hc:p'+q'≤250)(hl:L'.length+q'≤p')(hcc:8*p+16*q+c≤8*p'+16*q') :
  ∃ D' i made,TrS M' D' r L' i (P++made) p' q'∧(∀ x∈made,M.next≤x∧x < M'.next)∧M.next≤M'.next∧M'.L.length=M.L.length+made.length:=by
 obtain⟨e,i,gone,made,h1,h2,h3,h4,h5,h6,h7⟩:=hd.tree
 have hlen:=h2.length_eq
 simp only[List.length_append] at hlen
 have hnx:M.next≤M'.next:=by unfold PM.next;omega
 refine⟨e,i,made,⟨h1,⟨?_,?_,?_,?_,?_,?_⟩,hr,hc,hl,?_,?_⟩,h5,hnx,h4⟩
 ·rw[h3,List.append_assoc]
  refine ((List.perm_append_comm.trans h2).append_left M.given).trans ?_
  rw[← List.append_assoc]
  exact h.pool.perm.append_right made
 ·refine List.nodup_append.2 ⟨h.pool.nodup,h6,fun a ha b hb e=>?_⟩
  have:=(h.pool.rng a ha).2
  have:=(h5 b hb).1
  omega
 ·intro j hj
  rcases List.mem_append.1 hj with hj|hj
  ·have:=h.pool.rng j hj
   omega
  ·have h9:=h5 j hj
   have:2≤M.next:=by unfold PM.next;omega
   omega
 ·exact hd.twice h.pool.twice fun x hx=>⟨fun k=>h.pool.not_given k hx,(h.pool.rng x (h.pool.perm.mem_iff.1 (List.mem_append_left _ hx))).2⟩
 ·rw[hd.bad];exact h.pool.bad
 ·rw[hd.fr];exact h.pool.fr
 ·have:=h.size
  omega
 ·have:=h.giv
  rw[h3,List.length_append]
  omega
end
structure Ac where
 kind:Int
 i:It
def Ac.v(o:Ac):Value:=.agg #[.int .i64 o.kind,.string o.i.key,.string o.i.val,.int .i64 o.i.kind]
def actL(L:List It)(o:Ac):List It:=if o.kind=2 then dropI L o.i.key else if o.i.ok=true then putI L o.i else L
theorem dropI_miss{l:List It}{k:ByteArray}(h:hasK l k=false):dropI l k=l:=by unfold dropI;rw[if_neg (by rw[h];simp)]
theorem dropI_hit{l:List It}{k:ByteArray}(hr:RightI l)(h:hasK l k=true):(dropI l k).length+1=l.length:=by
 obtain⟨x,hx,_⟩:=P9.lowK_hit hr (P9.hasK_iff.1 h)
 have hlt:=(List.getElem?_eq_some_iff.1 hx).1
 unfold dropI
 rw[if_pos h,List.length_append,List.length_take,List.length_drop]
 omega
structure Did (w w':World) (b:Nat) (vl vg vl' vg':Value) (M M':PM) (ids P:List Int) (D':Nat) (r:Int) (L':List It) (i made:List Int) (p' q':Nat):Prop where
 pg:PAt w' b vl' vg' M'
 fr:P3.Fr (PS b vl vg) w w'
 new:∀ j,PS b vl' vg' j→PS b vl vg j∨w.heap.size≤j
 tr:TrS M' D' r L' i (P++made) p' q'
 made_:∀ x∈made,M.next≤x∧x < M'.next
 next:M.next≤M'.next
 cntL:M'.L.length=M.L.length+made.length
 frE:M'.fr=M.fr
 old:∀ x,x < M.next→(x < M.fr∨x∉ids)→M'.get x=M.get x
theorem Did.same{w w':World}{b:Nat}{vl vg:Value}{M:PM}{D:Nat}{root:Int}{L:List It}{ids P:List Int}{p q:Nat}(h:PAt w b vl vg M)(t:TrS M D root L ids P p q)(hb:Below w.heap.size w w'):Did w w' b vl vg vl vg M M ids P D root L ids [] p q:=
 ⟨h.below hb,P3.Fr.of hb,fun _ hj=>.inl hj,by rw[List.append_nil];exact t,fun _ hx=>(by cases hx),Int.le_refl _,rfl,rfl,fun _ _ _=>rfl⟩
theorem Did.of{w w':World}{b:Nat}{vl vg vl' vg':Value}{M M':PM}{D:Nat}{root r:Int}{L L':List It}{ids P:List Int}{p q c p' q':Nat}(t:TrS M D root L ids P p q)(h:Chd w w' b vl vg M ids L' c r vl' vg' M')(hr:RightI L')(hc:p'+q'≤250)(hl:L'.length+q'≤p')(hcc:8*p+16*q+c≤8*p'+16*q') :
  ∃ D' i made,Did w w' b vl vg vl' vg' M M' ids P D' r L' i made p' q':=by
 obtain⟨D',i,made,h1,h2,h3,h4⟩:=t.next h.res hr hc hl hcc
 exact⟨D',i,made,h.pg,h.fr,h.new,h1,h2,h3,h4,h.res.fr,h.res.old⟩
end Go.Proofs.YtjepgclnbbpnaaaGreat.P12
namespace Go.Proofs.YtjepgclnbbpnaaaGreat.P12
open PK (qqA qqB qqC qqD qqE qqF tk tkS dOne qh)
open Go Go.RowKit Go.Lib PK
open P11 (Pg)
open P9 (It kb kb_trans RightI)
def Sp.next(p:Sp):Sp:={ p with at_:=p.at_+1 }
def Sp.kl(p:Sp):List P10.It:=match p.nd with
 | .lf _=>[]
 | .tw l=>l
def turnR:List Sp→List Sp×Int
 | []=>([],0)
 | p::r=>match p.kl[(p.at_+1).toNat]? with
  | some q=>(r.reverse++[p.next],q.page)
  | none=>turnR r
def turnP(ps:List Sp):List Sp×Int:=turnR ps.reverse
theorem turnP_snoc(ps:List Sp)(p:Sp):turnP (ps++[p])=match p.kl[(p.at_+1).toNat]? with
  | some q=>(ps++[p.next],q.page)
  | none=>turnP ps:=by
 unfold turnP
 rw[List.reverse_append,List.reverse_cons,List.reverse_nil,List.nil_append,List.singleton_append]
 show (match p.kl[(p.at_+1).toNat]? with|some q=>(ps.reverse.reverse++[p.next],q.page)|none=>turnR ps.reverse)=_
 rw[List.reverse_reverse]
theorem NdT.kids{w:World}{x:Option Nat}{p:Sp}(h:NdT w x p.vi p.vk p.nd):KdT w x p.vk p.kl:=by
 unfold Sp.kl
 cases hn:p.nd with
 | lf l=>
  rw[hn] at h
  rw[h.2]
  exact KdT.nil _ _
 | tw l=>
  rw[hn] at h
  exact h.2
theorem row_cut{w:World}{lo e size n m cap g:Nat}{xs ys:List Value}(h:w.ownsRow lo e size (.slice (some ⟨g,0,none⟩) n cap) n (xs++ys))(hx:xs.length=m*size)(hm:m≤n):w.ownsRow lo e size (.slice (some ⟨g,0,none⟩) m cap) m xs:=by
 refine⟨hx,.inr ?_⟩
 rcases h.2 with ⟨e1,_⟩|⟨g',cap',cur,e1,h1,h2,h3,h4,h5,h6⟩
 ·cases e1
 ·simp only[Value.slice.injEq,Option.some.injEq,Addr.mk.injEq,and_true,true_and] at e1
  obtain⟨rfl,rfl⟩:=e1
  refine⟨g,cap,cur,rfl,h1,h2,by omega,h4,h5,?_⟩
  have h7:(cur.toList.take (n*size)).take (m*size)=xs:=by rw[h6,← hx,List.take_left' rfl]
  rwa[List.take_take,Nat.min_eq_left (Nat.mul_le_mul_right size hm)] at h7
theorem sp_len(ps:List Sp):(ps.map Sp.cells).flatten.length=ps.length*8:=by
 have:=flat_len (n:=8) (l:=ps.map Sp.cells) fun x hx=>by
  obtain⟨q,_,rfl⟩:=List.mem_map.1 hx
  rfl
 rwa[List.length_map] at this
structure TrL (w wr:World) (x:Option Nat) (b s mb g wc:Nat) (ps:List Sp) (sn:List Int) (n k:Nat):Prop where
 obj:wr.heap[s]?=some (.cells #[pgv b,.slice (some ⟨g,0,none⟩) n wc,.map (some mb)] 97 (0,0))
 row:wr.ownsRow 0 88 8 (.slice (some ⟨g,0,none⟩) k wc) k ((ps.take k).map Sp.cells).flatten
 fr:P3.Fr (fun j=>j=s∨j=g) w wr
 eq:turnP ps=turnP (ps.take k)
theorem sk_new{w wr:World}{x:Option Nat}{b s mb g wc:Nat}{ps ps':List Sp}{sn:List Int}{n k:Nat}{vw':Value}(h:SkAt w x b s mb (.slice (some ⟨g,0,none⟩) n wc) ps sn)(f:P3.Fr (fun j=>j=s∨j=g) w wr)(o:wr.heap[s]?=some (.cells #[pgv b,vw',.map (some mb)] 97 (0,0)))
  (r:wr.ownsRow 0 88 8 vw' ps'.length (ps'.map Sp.cells).flatten) (hp:∀ p∈ps',∃ q∈ps,q.nd=p.nd∧q.vi=p.vi∧q.vk=p.vk):SkAt wr x b s mb vw' ps' sn∧FrT x w wr:=by
 have ft:FrT x w wr:=FrT.ofFr f fun k cs t hk hs e=>by
  rcases hk with rfl|rfl
  ·exact h.notT (y:=x) k cs t (.inl rfl) hs e
  ·exact h.notT (y:=x) k cs t (.inr (.inl rfl)) hs e
 refine⟨⟨o,r,fun p hpp=>?_,h.seen.fr f fun e=>?_⟩,ft⟩
 ·obtain⟨q,hq,e1,e2,e3⟩:=hp p hpp
  rw[← e1,← e2,← e3]
  exact (h.nd q hq).keep ft
 ·rcases e with e|e
  ·exact h.s_mb e.symm
  ·exact h.row_mb (j:=g) rfl e.symm
theorem row_cell{w:World}{lo e g n cap:Nat}{ps:List Sp}(h:w.ownsRow lo e 8 (.slice (some ⟨g,0,none⟩) n cap) n (ps.map Sp.cells).flatten){i:Nat}{p:Sp}(hi:ps[i]?=some p) :
  (∃ cur,w.heap[g]?=some (.cells cur e (0,0)))∧∀ (j:Nat) (u:Value),p.cells[j]?=some u→w.cell? ⟨g,i*8+j,none⟩=some u:=by
 rcases h.2 with ⟨e1,_⟩|⟨g',cap',cur,e1,h1,h2,h3,h4,h5,h6⟩
 ·cases e1
 ·simp only[Value.slice.injEq,Option.some.injEq,Addr.mk.injEq,and_true,true_and] at e1
  obtain⟨rfl,rfl⟩:=e1
  refine⟨⟨cur,h2⟩,fun j u hu=>?_⟩
  have h7:((ps.map Sp.cells).flatten)[i*8+j]?=some u:=by
   refine flat_at (n:=8) (l:=ps.map Sp.cells) (fun x hx=>?_) (x:=p.cells) (by rw[List.getElem?_map,hi];rfl) hu
   obtain⟨q,_,rfl⟩:=List.mem_map.1 hx
   rfl
  rw[← h6,List.getElem?_take] at h7
  rw[cell_at h2]
  split at h7
  ·rw[← h7]
   simp
  ·cases h7
theorem row_next{w:World}{lo e g cap j:Nat}{ps:List Sp}{p:Sp}(h:w.ownsRow lo e 8 (.slice (some ⟨g,0,none⟩) (j+1) cap) (j+1) ((ps.take (j+1)).map Sp.cells).flatten)(hp:ps[j]?=some p) :
  (w.setCell ⟨g,j*8+7,none⟩ (.int .i64 (p.at_+1))).ownsRow lo e 8 (.slice (some ⟨g,0,none⟩) (j+1) cap) (j+1) ((ps.take j++[p.next]).map Sp.cells).flatten:=by
 have hl:=(List.getElem?_eq_some_iff.1 hp).1
 have e1:ps.take (j+1)=ps.take j++[p]:=by rw[List.take_add_one,hp];rfl
 have h1:=(h.stored (j*8+7) (.int .i64 (p.at_+1))).1
 have h2:=flat_set (n:=8) (l:=(ps.take (j+1)).map Sp.cells) (fun y hy=>by
  obtain⟨q,_,rfl⟩:=List.mem_map.1 hy
  rfl) (i:=j) (j:=7) (x:=p.cells) (u:=.int .i64 (p.at_+1)) (by rw[e1,List.map_append,List.getElem?_append_right (by rw[List.length_map,List.length_take];omega),List.length_map,List.length_take,Nat.min_eq_left (by omega),Nat.sub_self];rfl) (by omega)
 rw[← h2,e1,List.map_append,List.set_append_right _ _ (by rw[List.length_map,List.length_take];omega)] at h1
 rw[List.length_map,List.length_take,Nat.min_eq_left (by omega),Nat.sub_self] at h1
 rw[List.map_append]
 exact h1
theorem turn_any(w:World)(x:Option Nat)(b s mb:Nat)(vw:Value)(ps:List Sp)(sn:List Int)(h:SkAt w x b s mb vw ps sn)(hps:0 < ps.length)(hl:ps.length≤12)(hat:∀ p∈ps,0≤p.at_∧p.at_≤100000∧p.nd.len≤1000) :
  Calls Tryz.prog 72 #[.pointer (some ⟨s,0,none⟩)] w fun e w'=>∃ vw',e=.returned (.int .i64 (turnP ps).2)∧SkAt w' x b s mb vw' (turnP ps).1 sn∧P3.Fr (fun j=>j=s∨vw.ownBlock=some j) w w'∧(∀ j,vw'.ownBlock=some j→vw.ownBlock=some j)∧FrT x w w':=by
 obtain⟨p0,hp0⟩:∃ p,ps[0]?=some p:=⟨_,List.getElem?_eq_getElem hps⟩
 obtain⟨a,wc,rfl⟩:=h.slice
 obtain⟨g,rfl,_⟩:=h.cells_ hp0
 obtain⟨n,hn⟩:∃ n,n=ps.length:=⟨_,rfl⟩
 rw[← hn] at h hps hl
 have hgs:g≠s:=h.row_s rfl
 have o1:=cell_at h.obj 1
 simp only[qqD,qqE,qqF] at o1
 have hcap:n≤wc:=by
  rcases h.row.2 with ⟨e,_⟩|⟨g9,cap9,cur9,e,_,_,h5,_⟩
  ·simp at e
  ·simp only[Value.slice.injEq] at e
   obtain⟨_,e4,e5⟩:=e
   omega
 have T0:Hid (TrL w w x b s mb g wc ps sn n n):=qh ⟨h.obj,by rw[hn,List.take_length];have:=h.row;rw[hn] at this;exact this,P3.Fr.refl _ _,by rw[hn,List.take_length]⟩
 have k0:IntKind.i64.wrap ((n:Int) - 1)=((n - 1:Nat):Int):=by
  rw[IntKind.wrap_i64]
  omega
 obtain⟨n1,hn1⟩:∃ m,n=m+1:=⟨n - 1,by omega⟩
 have k1:IntKind.i64.wrap ((n:Int) - 1)=(n1:Int):=by rw[k0];omega
 have HH:=qh h
 have HN:=qh hn
 have HN1:=qh hn1
 have HA:=qh hat
 have HGs:=qh hgs
 clear k0 h hp0 hn hn1 hgs hat
 go_enter Tryz.func72,Tryz.ntmps72
 go_wp2
 clear k1 o1
 go_loopw [3] (fun vi wr=>∃ k:Nat,k≤n∧((k=0∧vi=.int .i64 (-1))∨∃ j,k=j+1∧vi=.int .i64 (j:Nat))∧Hid (TrL w wr x b s mb g wc ps sn n k)) (fun vi _=>(RowKit.intOf vi+1).toNat)
 case atStart=>exact⟨n,Nat.le_refl _,.inr ⟨n1,HN1.out,rfl⟩,T0⟩
 case round=>
  clear T0
  obtain⟨k,hk,hcase,HT⟩:=hrel
  rcases hcase with ⟨rfl,rfl⟩|⟨j,rfl,rfl⟩
  ·have o1:=cell_at HT.out.obj 1
   have f1:=free_at HT.out.obj 1
   simp only[qqD,qqE,qqF] at o1
   go_wp2
   go_ret
   have hob:=set_at HT.out.obj 1 (.slice none 0 0)
   have hf:P3.Fr (fun j=>j=s∨j=g) w (wr.setCell ⟨s,1,none⟩ (.slice none 0 0)):=HT.out.fr.trans ((fr_set wr s 1 _).mono fun _ _ e=>.inl e)
   have e0:turnP ps=([],0):=by rw[HT.out.eq];rfl
   rw[e0]
   obtain⟨g1,g2⟩:=sk_new (ps':=[]) (vw':=.slice none 0 0) (n:=n) (k:=0) HH.out hf hob (World.ownsRow_nil _ _ _ _) fun p hp=>by cases hp
   exact⟨.slice none 0 0,rfl,g1,hf.mono fun j _ e=>e.imp id (fun e2=>by rw[e2];rfl),(fun j e=>by cases e),g2⟩
  ·obtain⟨p,hp⟩:∃ p,ps[j]?=some p:=⟨_,List.getElem?_eq_getElem (by have:=HN.out;omega)⟩
   obtain⟨zi,hzi⟩:∃ z:Nat,p.at_+1=(z:Int):=⟨(p.at_+1).toNat,by have:=(HA.out p (List.mem_of_getElem? hp)).1;omega⟩
   have hta:(ps.take (j+1))[j]?=some p:=by rw[List.getElem?_take,if_pos (Nat.lt_succ_self j)];exact hp
   obtain⟨⟨cur,hcu⟩,hce⟩:=row_cell HT.out.row hta
   have hnd:=HH.out.nd p (List.mem_of_getElem? hp)
   have ftw:FrT x w wr:=FrT.ofFr HT.out.fr fun k cs t hk hs e=>by
    rcases hk with rfl|rfl
    ·exact HH.out.notT (y:=x) k cs t (.inl rfl) hs e
    ·exact HH.out.notT (y:=x) k cs t (.inr (.inl rfl)) hs e
   have hkd:=hnd.kids
   obtain⟨ka,kc,hvk⟩:=hkd.its.slice
   obtain⟨kn,hkn⟩:∃ m,m=p.kl.length:=⟨_,rfl⟩
   rw[← hkn] at hvk
   have c6:=hce 6 _ rfl
   have c7:=hce 7 _ rfl
   rw[hvk] at c6
   have f7:=free_at hcu (j*8+7)
   have o1:=cell_at HT.out.obj 1
   simp only[qqD,qqE,qqF] at o1
   have hw1:IntKind.i64.wrap (p.at_+1)=(zi:Int):=by
    rw[hzi,IntKind.wrap_i64]
    have:=(HA.out p (List.mem_of_getElem? hp)).2.1
    omega
   obtain⟨j1,hj1⟩:∃ m,m=j+1:=⟨_,rfl⟩
   have hw2:IntKind.i64.wrap ((j:Int)+1)=(j1:Int):=by
    rw[IntKind.wrap_i64]
    omega
   have l1:(0:Int)≤(j:Int):=by omega
   have l2:(j:Int) < (n:Int):=by omega
   have l3:j1≤wc:=by omega
   have l4:(j1:Int)≤(wc:Int):=by omega
   have l5:(0:Int)≤(j1:Int):=by omega
   have HKd:=qh hkd
   have HP:=qh hp
   have HZi:=qh hzi
   have HKn:=qh hkn
   have HJ1:=qh hj1
   have HVk:=qh hvk
   have HCu:=qh hcu
   have HR5:=qh (row_next HT.out.row hp)
   clear hta hnd ftw hkd hvk hkn hce hcu hzi hj1 hp
   go_upto_region 6 with fail
   obtain⟨W5,hW5⟩:∃ W,W=wr.setCell ⟨g,j*8+7,none⟩ (.int .i64 (zi:Int)):=⟨_,rfl⟩
   rw[← hW5]
   have hr5:W5.ownsRow 0 88 8 (.slice (some ⟨g,0,none⟩) (j+1) wc) (j+1) ((ps.take j++[p.next]).map Sp.cells).flatten:=by rw[hW5,← HZi.out];exact HR5.out
   have hf5:P3.Fr (fun j=>j=s∨j=g) w W5:=by rw[hW5];exact HT.out.fr.trans ((fr_set wr g _ _).mono fun _ _ e=>.inr e)
   have ho5:W5.heap[s]?=some (.cells #[pgv b,.slice (some ⟨g,0,none⟩) n wc,.map (some mb)] 97 (0,0)):=by rw[hW5];exact P3.old_set HT.out.obj _ (fun e=>HGs.out e.symm) _
   obtain⟨_,hc5⟩:=row_cell (ps:=ps.take j++[p.next]) (i:=j) (p:=p.next) hr5 (by rw[List.getElem?_append_right (by rw[List.length_take];omega),List.length_take,Nat.min_eq_left (by have:=(List.getElem?_eq_some_iff.1 HP.out).1;omega),Nat.sub_self];rfl)
   have d6:=hc5 6 _ rfl
   have d7:=hc5 7 _ rfl
   have e6:p.next.vk=.slice ka kn kc:=HVk.out
   have e7:p.next.at_=(zi:Int):=HZi.out
   rw[e6] at d6
   rw[e7] at d7
   have HR5':=qh hr5
   have HF5:=qh hf5
   have HO5:=qh ho5
   have HC5:=qh hc5
   clear c6 c7 f7 o1 hw1 hW5 hr5 hf5 ho5 hc5 e6 e7
   by_cases hlt:zi < kn
   ·have k1:decide ((zi:Int) < (kn:Int))=true:=decide_eq_true (by omega)
    have k2:(zi:Int) < (kn:Int):=by omega
    have k3:(0:Int)≤(zi:Int):=by omega
    go_quiet (fail)
    obtain⟨W6,hW6⟩:∃ W,W=W5.drewN nq:=⟨_,rfl⟩
    have hb6:Below W5.heap.size W5 W6:=by rw[hW6];exact P3.below_drewN W5 _
    rw[← hW6]
    have HB6:=qh hb6
    have o6:=P3.old_below HO5.out hb6
    have HO6:=qh o6
    have q1:=cell_at o6 1
    have z1:=free_at o6 1
    simp only[qqD,qqE,qqF] at q1
    clear hW6 o6 hb6 d6 d7
    go_upto_region 8 with fail
    clear q1 z1
    obtain⟨W7,hW7⟩:∃ W,W=W6.setCell ⟨s,1,none⟩ (.slice (some ⟨g,0,none⟩) j1 wc):=⟨_,rfl⟩
    rw[← hW7]
    have ho7:W7.heap[s]?=some (.cells #[pgv b,.slice (some ⟨g,0,none⟩) j1 wc,.map (some mb)] 97 (0,0)):=by rw[hW7];exact set_at HO6.out 1 _
    have hf7:P3.Fr (fun j=>j=s∨j=g) w W7:=by rw[hW7];exact (HF5.out.trans (P3.Fr.of HB6.out)).trans ((fr_set W6 s _ _).mono fun _ _ e=>.inl e)
    have hlen7:(ps.take j++[p.next]).length=j1:=by rw[List.length_append,List.length_take,List.length_singleton,HJ1.out];have:=(List.getElem?_eq_some_iff.1 HP.out).1;omega
    have hr7:W7.ownsRow 0 88 8 (.slice (some ⟨g,0,none⟩) j1 wc) (ps.take j++[p.next]).length ((ps.take j++[p.next]).map Sp.cells).flatten:=by
     rw[hlen7,hW7,HJ1.out]
     exact owns_fr (owns_below HR5'.out HB6.out) (fr_set W6 s _ _) fun j hj e=>HGs.out (by rw[← e];exact Option.some.inj hj)
    obtain⟨hsk7,hft7⟩:=sk_new (ps':=ps.take j++[p.next]) (n:=n) (k:=0) HH.out hf7 ho7 hr7 fun p' hp'=>by
     rcases List.mem_append.1 hp' with h9|h9
     ·exact⟨p',List.mem_of_mem_take h9,rfl,rfl,rfl⟩
     ·rw[List.mem_singleton] at h9
      exact⟨p,List.mem_of_getElem? HP.out,by rw[h9];rfl,by rw[h9];rfl,by rw[h9];rfl⟩
    obtain⟨q,hq⟩:∃ q,p.kl[zi]?=some q:=⟨_,List.getElem?_eq_getElem (by have:=HKn.out;omega)⟩
    have hkd7:=HKd.out.keep hft7
    rw[HVk.out] at hkd7
    obtain⟨kb,ko,hka,hcc⟩:=hkd7.its.at_ hq
    subst hka
    have hpg:=(hcc _ (Below.refl _ _)).2
    obtain⟨_,hc7⟩:=row_cell (ps:=ps.take j++[p.next]) (i:=j) (p:=p.next) (lo:=0) (e:=88) (n:=j1) (cap:=wc) (g:=g) (w:=W7) (by rw[← hlen7];rw[hlen7];rw[hlen7] at hr7;exact hr7) (by rw[List.getElem?_append_right (by rw[List.length_take];omega),List.length_take,Nat.min_eq_left (by have:=(List.getElem?_eq_some_iff.1 HP.out).1;omega),Nat.sub_self];rfl)
    have d6:=hc7 6 _ rfl
    have d7:=hc7 7 _ rfl
    have e6:p.next.vk=.slice (some ⟨kb,ko,none⟩) kn kc:=HVk.out
    have e7:p.next.at_=(zi:Int):=HZi.out
    rw[e6] at d6
    rw[e7] at d7
    have htp:turnP ps=(ps.take j++[p.next],q.page):=by
     rw[HT.out.eq,show ps.take (j+1)=ps.take j++[p] by rw[List.take_add_one,HP.out];rfl,turnP_snoc,show (p.at_+1).toNat=zi by rw[HZi.out];rfl,hq]
    have HSk7:=qh hsk7
    have HFt7:=qh hft7
    have HF7:=qh hf7
    have HTp:=qh htp
    clear hW7 ho7 hf7 hlen7 hr7 hsk7 hft7 hq hkd7 hcc hc7 e6 e7 htp
    go_quiet (fail)
    all_goals
     go_wp2
     go_ret
     rw[HTp.out]
     exact⟨.slice (some ⟨g,0,none⟩) j1 wc,rfl,HSk7.out.below (P3.below_drewN W7 _),(HF7.out.trans (P3.Fr.of (P3.below_drewN W7 _))).mono fun j _ e=>e.imp id (fun e2=>by rw[e2];rfl),(fun j e=>e),HFt7.out.trans (FrT.of (P3.below_drewN W7 _))⟩
   ·have k1:decide ((zi:Int) < (kn:Int))=false:=decide_eq_false (by omega)
    have k2:¬ ((zi:Int) < (kn:Int)):=by omega
    go_quiet (fail)
    obtain⟨W6,hW6⟩:∃ W,W=W5.drewN nq:=⟨_,rfl⟩
    have hb6:Below W5.heap.size W5 W6:=by rw[hW6];exact P3.below_drewN W5 _
    rw[← hW6]
    have hTL:TrL w W6 x b s mb g wc ps sn n j:=by
     refine⟨P3.old_below HO5.out hb6,?_,HF5.out.trans (P3.Fr.of hb6),?_⟩
     ·have h9:=owns_below HR5'.out hb6
      rw[List.map_append,List.flatten_append] at h9
      refine row_cut h9 ?_ (Nat.le_succ j)
      rw[sp_len,List.length_take,Nat.min_eq_left (by have:=(List.getElem?_eq_some_iff.1 HP.out).1;omega)]
     ·rw[HT.out.eq,show ps.take (j+1)=ps.take j++[p] by rw[List.take_add_one,HP.out];rfl,turnP_snoc,show (p.at_+1).toNat=zi by rw[HZi.out];rfl,List.getElem?_eq_none (by have:=HKn.out;omega)]
    have HTL:=qh hTL
    clear hW6 hb6 hTL d6 d7
    rcases Nat.eq_zero_or_pos j with hj0|hj0
    ·subst hj0
     have w3:IntKind.i64.wrap (((0:Nat):Int) - 1)=-1:=by decide
     have w4:IntKind.i64.wrap ((0:Int) - 1)=-1:=by decide
     go_wp2
     go_roundw
     case rel=>exact⟨0,Nat.zero_le _,.inl ⟨rfl,by first|rfl|(go_num)⟩,HTL⟩
     case measure=>first|decide|simp[RowKit.intOf]
    ·obtain⟨j2,rfl⟩:∃ m,j=m+1:=⟨j - 1,by omega⟩
     have w3:IntKind.i64.wrap (((j2+1:Nat):Int) - 1)=(j2:Int):=by
      rw[IntKind.wrap_i64]
      omega
     go_wp2
     go_roundw
     case rel=>exact⟨j2+1,by omega,.inr ⟨j2,rfl,by first|rfl|(rw[w3])|go_num⟩,HTL⟩
     case measure=>simp[RowKit.intOf];omega
end Go.Proofs.YtjepgclnbbpnaaaGreat.P12
