/-
  Texts of the proofs of SaidOrd12.
-/
import Derived.Test.YtjepgclnbbpnaaaGreatMs46
set_option linter.unusedVariables false
set_option linter.unusedSimpArgs false
set_option maxHeartbeats 8000000
namespace Go.Proofs.YtjepgclnbbpnaaaGreat.P7
open Go Go.RowKit Go.Lib PK
def IL(w:World)(v:Value)(l:List Int):Prop:=
 ∃ a c,v=.slice a l.length c∧(a=none→c=0)∧l.length≤9223372036854775807∧(0 < l.length→∃ b off,a=some ⟨b,off,none⟩∧b < w.heap.size∧∀ (i:Nat) (x:Int),l[i]?=some x→w.cell? ⟨b,off+i,none⟩=some (.int .i64 x))
theorem IL.nil(w:World):IL w (.slice none 0 0) []:=⟨none,0,rfl,fun _=>rfl,by simp,fun h=>absurd h (Nat.lt_irrefl _)⟩
end Go.Proofs.YtjepgclnbbpnaaaGreat.P7
namespace Go.Proofs.YtjepgclnbbpnaaaGreat.P12
open Go Go.RowKit Go.Lib PK
open P11 (Pg)
open P9 (It kb RightI lowK hasK putI dropI)
open P7 (IL)
def Live(w0:World)(b:Nat)(root:Int)(L:List It)(k:Nat)(w:World):Prop:=
 ∃ vl vg M D ids P p q,PAt w b vl vg M∧TrS M D root L ids P p q∧p+q≤k∧(∀ j,PS b vl vg j→w0.heap.size≤j)∧Below w0.heap.size w0 w∧P.length=M.L.length
end Go.Proofs.YtjepgclnbbpnaaaGreat.P12
namespace Go.Proofs.YtjepgclnbbpnaaaGreat.P12
open Go Go.RowKit Go.Lib PK
open P11 (Pg)
open P9 (It ItsIn kb RightI lowK hasK putI dropI)
theorem Live.right{w0:World}{b:Nat}{root:Int}{L:List It}{k:Nat}{w:World}(h:Live w0 b root L k w):RightI L:=by
 obtain⟨_,_,_,_,_,_,_,_,_,t,_⟩:=h
 exact t.right
theorem Live.llen{w0:World}{b:Nat}{root:Int}{L:List It}{k:Nat}{w:World}(h:Live w0 b root L k w):L.length≤250:=by
 obtain⟨_,_,_,_,_,_,_,_,_,t,_⟩:=h
 exact t.llen
theorem Live.check{w0:World}{b:Nat}{root:Int}{L:List It}{k:Nat}{w:World}(h:Live w0 b root L k w):Calls Tryz.prog 28 #[pgv b,.int .i64 root] w fun e w'=>e=.returned (.int .i64 0)∧Below w.heap.size w w':=by
 obtain⟨vl,vg,M,D,ids,P,p,q,h1,t,_⟩:=h
 exact trCheck_any w b vl vg M h1 (by have:=t.szl;omega) D root L ids t.tree (by have:=t.deep;omega) t.pool.ids_nodup (by have:=t.idsl;have:=t.llen;omega)
theorem Live.items{w0:World}{b:Nat}{root:Int}{L:List It}{k:Nat}{w:World}(h:Live w0 b root L k w):Calls Tryz.prog 19 #[pgv b,.int .i64 root,.string ⟨#[]⟩,.int .i64 1000] w fun e w'=>∃ v,e=.returned (.tuple #[v,.int .i64 0])∧P9.OwnI w.heap.size w' v L∧Below w.heap.size w w':=by
 have hl:=h.llen
 obtain⟨vl,vg,M,D,ids,P,p,q,h1,t,_⟩:=h
 have:=trItems_any w b vl vg M h1 (by have:=t.szl;omega) D root L ids t.tree (by have:=t.deep;omega) t.pool.ids_nodup (by have:=t.idsl;have:=t.llen;omega) (by omega) ⟨#[]⟩ 1000 (by omega)
 have e:(L.drop (lowK L ⟨#[]⟩)).take (1000:Int).toNat=L:=fromI_all (l:=L) (m:=1000) (by omega)
 rwa[e] at this
end Go.Proofs.YtjepgclnbbpnaaaGreat.P12
namespace Go.Proofs.YtjepgclnbbpnaaaGreat.P12
open Go Go.RowKit Go.Lib PK
open P9 (It kb kb_irr kb_trans kb_asym RightI lowK hasK putI dropI keysI)
open Classical in
noncomputable def onceF(acc:List It)(x:It):List It:=if x.ok=true∧x.key∉keysI acc then acc++[x] else acc
noncomputable def onceL(l:List It):List It:=l.foldl onceF []
theorem onceL_next{l:List It}{k:Nat}{x:It}(h:l[k]?=some x):onceL (l.take (k+1))=onceF (onceL (l.take k)) x:=by
 unfold onceL
 rw[List.take_add_one,h,List.foldl_append]
 rfl
def Uniq(m:List It):Prop:=(∀ x∈m,x.ok=true)∧(keysI m).Nodup
theorem Uniq.nil:Uniq []:=⟨fun _ h=>(by cases h),List.nodup_nil⟩
theorem Uniq.once{acc:List It}(h:Uniq acc)(x:It):Uniq (onceF acc x):=by
 unfold onceF
 by_cases c:x.ok=true∧x.key∉keysI acc
 ·rw[if_pos c]
  refine⟨fun y hy=>?_,?_⟩
  ·rcases List.mem_append.1 hy with hy|hy
   ·exact h.1 y hy
   ·rw[List.mem_singleton] at hy
    rw[hy]
    exact c.1
  ·show (List.map _ (acc++[x])).Nodup
   rw[List.map_append]
   refine List.nodup_append.2 ⟨h.2,by simp,fun a ha b hb e=>?_⟩
   simp at hb
   subst hb
   subst e
   exact c.2 ha
 ·rw[if_neg c]
  exact h
theorem once_uniq(l:List It):Uniq (onceL l):=by
 unfold onceL
 suffices H:∀ (l acc:List It),Uniq acc→Uniq (l.foldl onceF acc) from H l [] Uniq.nil
 intro l
 induction l with
 | nil=>exact fun acc h=>h
 | cons x l ih=>exact fun acc h=>ih _ (h.once x)
theorem once_len(l:List It):(onceL l).length≤l.length:=by
 unfold onceL
 suffices H:∀ (l acc:List It),(l.foldl onceF acc).length≤acc.length+l.length by simpa using H l []
 intro l
 induction l with
 | nil=>exact fun acc=>Nat.le_refl _
 | cons x l ih=>
  intro acc
  refine Nat.le_trans (ih (onceF acc x)) ?_
  unfold onceF
  rw[List.length_cons]
  by_cases c:x.ok=true∧x.key∉keysI acc
  ·rw[if_pos c,List.length_append,List.length_singleton];omega
  ·rw[if_neg c];omega
theorem Uniq.perm{m m':List It}(h:Uniq m)(p:m'.Perm m):Uniq m':=
 ⟨fun x hx=>h.1 x (p.mem_iff.1 hx),(List.Perm.map _ p).nodup_iff.2 h.2⟩
theorem Uniq.inj{m:List It}(h:Uniq m){x y:It}(hx:x∈m)(hy:y∈m)(e:x.key=y.key):x=y:=by
 obtain⟨i,hi,rfl⟩:=List.mem_iff_getElem.1 hx
 obtain⟨j,hj,rfl⟩:=List.mem_iff_getElem.1 hy
 have hn:=List.nodup_iff_pairwise_ne.1 h.2
 by_cases c:i=j
 ·subst c
  rfl
 ·have hk:∀ a (ha:a < m.length),(keysI m)[a]'(by unfold keysI;simpa using ha)=(m[a]).key:=fun a ha=>by unfold keysI;simp
  rcases Nat.lt_or_gt_of_ne c with c|c
  ·exact (List.pairwise_iff_getElem.1 hn i j (by unfold keysI;simpa using hi) (by unfold keysI;simpa using hj) c (by rw[hk i hi,hk j hj];exact e)).elim
  ·exact (List.pairwise_iff_getElem.1 hn j i (by unfold keysI;simpa using hj) (by unfold keysI;simpa using hi) c (by rw[hk i hi,hk j hj];exact e.symm)).elim
def Holds(m:List It)(k:Nat)(L:List It):Prop:=∀ y,y∈L↔y∈m.take k
theorem Holds.nil(m:List It):Holds m 0 []:=fun y=>by simp
theorem Holds.next{m:List It}{k:Nat}{L:List It}(h:Holds m k L)(u:Uniq m)(hr:RightI L){x:It}(hx:m[k]?=some x):Holds m (k+1) (actL L ⟨1,x⟩):=fun y=>by
 have hxm:=List.mem_of_getElem? hx
 have e:actL L ⟨1,x⟩=putI L x:=by
  unfold actL
  rw[if_neg (show ¬ ((1:Int)=2) by decide),if_pos (u.1 x hxm)]
 rw[e,P9.mem_putI hr x y,h y,List.take_add_one,hx]
 simp only[Option.toList_some,List.mem_append,List.mem_singleton]
 constructor
 ·rintro (h1|⟨h1,_⟩)
  ·exact .inr h1
  ·exact .inl h1
 ·rintro (h1|h1)
  ·by_cases c:y.key=x.key
   ·exact .inl (u.inj (List.mem_of_mem_take h1) hxm c)
   ·exact .inr ⟨h1,c⟩
  ·exact .inl h1
theorem Holds.again{m:List It}{k:Nat}{L:List It}(h:Holds m (k+1) L)(u:Uniq m)(hr:RightI L){x:It}(hx:m[k]?=some x):Holds m (k+1) (actL L ⟨1,x⟩):=fun y=>by
 have hxm:=List.mem_of_getElem? hx
 have e:actL L ⟨1,x⟩=putI L x:=by
  unfold actL
  rw[if_neg (show ¬ ((1:Int)=2) by decide),if_pos (u.1 x hxm)]
 have hxt:x∈m.take (k+1):=by rw[List.take_add_one,hx];simp
 rw[e,P9.mem_putI hr x y,h y]
 constructor
 ·rintro (h1|⟨h1,_⟩)
  ·rw[h1];exact hxt
  ·exact h1
 ·intro h1
  by_cases c:y.key=x.key
  ·exact .inl (u.inj (List.mem_of_mem_take h1) hxm c)
  ·exact .inr ⟨h1,c⟩
theorem right_nodup{L:List It}(h:RightI L):L.Nodup:=by
 have:=(P9.rightI_pair.1 h).2
 refine List.nodup_iff_pairwise_ne.2 (this.imp fun {a b} hab e=>?_)
 rw[e,kb_irr] at hab
 cases hab
theorem right_ext{L L':List It}(h:RightI L)(h':RightI L')(e:∀ y,y∈L↔y∈L'):L=L':=by
 have p:L.Perm L':=(List.perm_ext_iff_of_nodup (right_nodup h) (right_nodup h')).2 e
 refine List.Perm.eq_of_pairwise ?_ (P9.rightI_pair.1 h).2 (P9.rightI_pair.1 h').2 p
 intro a b _ _ h1 h2
 rw[kb_asym h1] at h2
 cases h2
theorem Holds.len{m:List It}{L:List It}(h:Holds m m.length L)(u:Uniq m)(hr:RightI L):L.length=m.length:=by
 have hm:m.Nodup:=by
  have:=List.nodup_iff_pairwise_ne.1 u.2
  refine List.nodup_iff_pairwise_ne.2 ((List.pairwise_map.1 this).imp fun {a b} hab e=>hab (by rw[e]))
 exact ((List.perm_ext_iff_of_nodup (right_nodup hr) hm).2 fun y=>by rw[h y,List.take_length]).length_eq
end Go.Proofs.YtjepgclnbbpnaaaGreat.P12
namespace Go.Proofs.YtjepgclnbbpnaaaGreat.P12
open Go Go.RowKit Go.Lib PK
open P11 (Pg)
open P9 (It ItsIn OwnI kb RightI lowK hasK putI dropI)
def KqT(w w':World):Prop:=w.heap.size≤w'.heap.size∧∀ (j:Nat) (cs:Array Value) (t:TypeId),(t≠44∧t≠86∧t≠3)→w.heap[j]?=some (.cells cs t (0,0))→w'.heap[j]?=some (.cells cs t (0,0))
theorem KqT.ofFr{w w':World}{b:Nat}{vl vg:Value}{M:PM}(hp:PAt w b vl vg M)(h:P3.Fr (PS b vl vg) w w'):KqT w w':=⟨h.size,fun j cs t ht e=>h.keep e fun hj=>by
 obtain⟨cs',t',e',h9⟩:=hp.cells_ hj
 rw[e] at e'
 cases e'
 rcases h9 with h9|h9|h9
 ·exact ht.1 h9
 ·exact ht.2.1 h9
 ·exact ht.2.2 h9⟩
theorem KqT.own{w w':World}(h:KqT w w'){lo:Nat}{v:Value}{l:List It}(k:OwnI lo w v l):OwnI lo w' v l:=by
 refine⟨⟨k.1.1,?_⟩,k.2⟩
 rcases k.1.2 with h2|⟨g,cap,cur,e,h3,h4,h5⟩
 ·exact .inl h2
 ·exact .inr ⟨g,cap,cur,e,h3,h.2 _ _ _ ⟨by decide,by decide,by decide⟩ h4,h5⟩
structure OneT (w0:World) (a:Nat) (r:Int) (L:List It) (k:Nat) (w:World) (vl vg:Value):Prop where
 at_:∃ M D ids P p q,PAt w a vl vg M∧TrS M D r L ids P p q∧p+q≤k∧P.length=M.L.length
 new:∀ j,PS a vl vg j→w0.heap.size≤j
def Two(w0:World)(a b:Nat)(ra rb:Int)(La Lb:List It)(ka kb:Nat)(w:World):Prop:=
 ∃ vl vg vl2 vg2,OneT w0 a ra La ka w vl vg∧OneT w0 b rb Lb kb w vl2 vg2∧(∀ j,PS a vl vg j→¬ PS b vl2 vg2 j)∧Below w0.heap.size w0 w
section
variable {w0:World} {a b:Nat} {ra rb:Int} {La Lb:List It} {ka kb:Nat} {w:World}
theorem Two.bel(h:Two w0 a b ra rb La Lb ka kb w):Below w0.heap.size w0 w:=by
 obtain⟨_,_,_,_,_,_,_,h⟩:=h
 exact h
theorem Two.swap(h:Two w0 a b ra rb La Lb ka kb w):Two w0 b a rb ra Lb La kb ka w:=by
 obtain⟨vl,vg,vl2,vg2,h1,h2,h3,h4⟩:=h
 exact⟨vl2,vg2,vl,vg,h2,h1,fun j hj hk=>h3 j hk hj,h4⟩
theorem OneT.over{vl vg:Value}{w':World}(h:OneT w0 a ra La ka w vl vg)(hb:Below w.heap.size w w'):OneT w0 a ra La ka w' vl vg:=by
 obtain⟨⟨M,D,ids,P,p,q,h1,h2⟩,h3⟩:=h
 exact⟨⟨M,D,ids,P,p,q,h1.below hb,h2⟩,h3⟩
theorem Two.over{w':World}(h:Two w0 a b ra rb La Lb ka kb w)(hb:Below w.heap.size w w'):Two w0 a b ra rb La Lb ka kb w':=by
 obtain⟨vl,vg,vl2,vg2,h1,h2,h3,h4⟩:=h
 exact⟨vl,vg,vl2,vg2,h1.over hb,h2.over hb,h3,thenBelow h4 hb⟩
theorem Two.live(h:Two w0 a b ra rb La Lb ka kb w):Live w0 a ra La ka w:=by
 obtain⟨vl,vg,vl2,vg2,⟨⟨M,D,ids,P,p,q,h1,h2,h3,h5⟩,h6⟩,_,_,h4⟩:=h
 exact⟨vl,vg,M,D,ids,P,p,q,h1,h2,h3,h6,h4,h5⟩
theorem Two.act(h:Two w0 a b ra rb La Lb ka kb w)(hk:ka < 250)(o:Ac) :
  Calls Tryz.prog 18 #[.pointer (some ⟨a,0,none⟩),.int .i64 ra,o.v] w fun e w'=>∃ r,e=.returned (.int .i64 r)∧Two w0 a b r rb (actL La o) Lb (ka+1) kb w'∧KqT w w':=by
 obtain⟨vl,vg,vl2,vg2,⟨⟨M,D,ids,P,p,q,h1,t,h3,h5⟩,h6⟩,⟨⟨M2,D2,ids2,P2,p2,q2,k1,k2⟩,k3⟩,h7,h4⟩:=h
 refine (act_any w a vl vg M D ra La ids P p q h1 t (by omega) o).mono ?_
 rintro e w' ⟨r,vl',vg',M',D',i,made,p',q',rfl,g1,g2⟩
 have hlt:∀ j,PS b vl2 vg2 j→j < w.heap.size:=fun j hj=>by
  obtain⟨cs,t,e1,_⟩:=k1.cells_ hj
  exact lt_of_block e1
 refine⟨r,rfl,⟨vl',vg',vl2,vg2,⟨⟨M',D',i,P++made,p',q',g2.pg,g2.tr,by omega,by rw[List.length_append,h5,g2.cntL]⟩,fun j hj=>?_⟩,⟨⟨M2,D2,ids2,P2,p2,q2,k1.fr g2.fr fun j hj hs=>h7 j hs hj,k2⟩,k3⟩,fun j hj hk=>?_,P3.Fr.new h4 g2.fr h6⟩,KqT.ofFr h1 g2.fr⟩
 ·rcases g2.new j hj with h9|h9
  ·exact h6 j h9
  ·exact Nat.le_trans h4.size h9
 ·rcases g2.new j hj with h9|h9
  ·exact h7 j h9 hk
  ·have:=hlt j hk
   omega
theorem Two.start(h1:PAt w a (.slice none 0 0) (.slice none 0 0) ⟨[],2,[],false,false⟩)(h2:PAt w b (.slice none 0 0) (.slice none 0 0) ⟨[],2,[],false,false⟩)(hne:a≠b)(ha:w0.heap.size≤a)(hb:w0.heap.size≤b)(hB:Below w0.heap.size w0 w):Two w0 a b 0 0 [] [] 0 0 w:=by
 have hps:∀ {c j:Nat},PS c (.slice none 0 0) (.slice none 0 0) j→j=c:=fun hj=>by
  rcases hj with hj|hj|hj
  ·exact hj
  ·cases hj
  ·cases hj
 exact⟨_,_,_,_,⟨⟨_,_,_,_,_,_,h1,TrS.start,Nat.le_refl _,rfl⟩,fun j hj=>by rw[hps hj];exact ha⟩,⟨⟨_,_,_,_,_,_,h2,TrS.start,Nat.le_refl _,rfl⟩,fun j hj=>by rw[hps hj];exact hb⟩,fun j hj hk=>hne (by rw[← hps hj,hps hk]),hB⟩
end
end Go.Proofs.YtjepgclnbbpnaaaGreat.P12
namespace Go.Proofs.YtjepgclnbbpnaaaGreat.P9
open Go Go.RowKit Go.Lib PK
theorem valid12_any(w:World)(x:It) :
  Calls Tryz.prog 12 #[x.v] w fun r w'=>r=.returned (.bool x.ok)∧Below w.heap.size w w':=by
 obtain⟨key,val,kind⟩:=x
 by_cases h0:1≤key.size
 ·by_cases h1:key.size≤32
  ·by_cases h2:0≤kind
   ·by_cases h3:kind≤2
    ·by_cases h4:val.size≤96
     ·have e:It.ok ⟨key,val,kind⟩=true:=decide_eq_true ⟨h0,h1,h2,h3,h4⟩
      rw[e]
      clear e
      have b0x:decide ((1:Int)≤(key.size:Int))=true:=decide_eq_true (by omega)
      have b0y:decide (1≤key.size)=true:=decide_eq_true (by omega)
      have b0z:decide (0 < key.size)=true:=decide_eq_true (by omega)
      have b1x:decide ((key.size:Int)≤32)=true:=decide_eq_true (by omega)
      have b1y:decide (key.size≤32)=true:=decide_eq_true (by omega)
      have b2x:decide ((0:Int)≤kind)=true:=decide_eq_true (by omega)
      have b3x:decide (kind≤(2:Int))=true:=decide_eq_true (by omega)
      have b4x:decide ((val.size:Int)≤96)=true:=decide_eq_true (by omega)
      have b4y:decide (val.size≤96)=true:=decide_eq_true (by omega)
      clear h0 h1 h2 h3 h4
      unfold It.v
      go_enter Tryz.func12,Tryz.ntmps12
      go_wp2
      go_ret
      exact⟨rfl,below_new _ _⟩
     ·have e:It.ok ⟨key,val,kind⟩=false:=decide_eq_false (fun h=>h4 (h.2.2.2.2))
      rw[e]
      clear e
      have b0x:decide ((1:Int)≤(key.size:Int))=true:=decide_eq_true (by omega)
      have b0y:decide (1≤key.size)=true:=decide_eq_true (by omega)
      have b0z:decide (0 < key.size)=true:=decide_eq_true (by omega)
      have b1x:decide ((key.size:Int)≤32)=true:=decide_eq_true (by omega)
      have b1y:decide (key.size≤32)=true:=decide_eq_true (by omega)
      have b2x:decide ((0:Int)≤kind)=true:=decide_eq_true (by omega)
      have b3x:decide (kind≤(2:Int))=true:=decide_eq_true (by omega)
      have b4x:decide ((val.size:Int)≤96)=false:=decide_eq_false (by omega)
      have b4y:decide (val.size≤96)=false:=decide_eq_false (by omega)
      clear h0 h1 h2 h3 h4
      unfold It.v
      go_enter Tryz.func12,Tryz.ntmps12
      go_wp2
      go_ret
      exact⟨rfl,below_new _ _⟩
    ·have e:It.ok ⟨key,val,kind⟩=false:=decide_eq_false (fun h=>h3 (h.2.2.2.1))
     rw[e]
     clear e
     have b0x:decide ((1:Int)≤(key.size:Int))=true:=decide_eq_true (by omega)
     have b0y:decide (1≤key.size)=true:=decide_eq_true (by omega)
     have b0z:decide (0 < key.size)=true:=decide_eq_true (by omega)
     have b1x:decide ((key.size:Int)≤32)=true:=decide_eq_true (by omega)
     have b1y:decide (key.size≤32)=true:=decide_eq_true (by omega)
     have b2x:decide ((0:Int)≤kind)=true:=decide_eq_true (by omega)
     have b3x:decide (kind≤(2:Int))=false:=decide_eq_false (by omega)
     clear h0 h1 h2 h3
     unfold It.v
     go_enter Tryz.func12,Tryz.ntmps12
     go_wp2
     go_ret
     exact⟨rfl,below_new _ _⟩
   ·have e:It.ok ⟨key,val,kind⟩=false:=decide_eq_false (fun h=>h2 (h.2.2.1))
    rw[e]
    clear e
    have b0x:decide ((1:Int)≤(key.size:Int))=true:=decide_eq_true (by omega)
    have b0y:decide (1≤key.size)=true:=decide_eq_true (by omega)
    have b0z:decide (0 < key.size)=true:=decide_eq_true (by omega)
    have b1x:decide ((key.size:Int)≤32)=true:=decide_eq_true (by omega)
    have b1y:decide (key.size≤32)=true:=decide_eq_true (by omega)
    have b2x:decide ((0:Int)≤kind)=false:=decide_eq_false (by omega)
    clear h0 h1 h2
    unfold It.v
    go_enter Tryz.func12,Tryz.ntmps12
    go_wp2
    go_ret
    exact⟨rfl,below_new _ _⟩
  ·have e:It.ok ⟨key,val,kind⟩=false:=decide_eq_false (fun h=>h1 (h.2.1))
   rw[e]
   clear e
   have b0x:decide ((1:Int)≤(key.size:Int))=true:=decide_eq_true (by omega)
   have b0y:decide (1≤key.size)=true:=decide_eq_true (by omega)
   have b0z:decide (0 < key.size)=true:=decide_eq_true (by omega)
   have b1x:decide ((key.size:Int)≤32)=false:=decide_eq_false (by omega)
   have b1y:decide (key.size≤32)=false:=decide_eq_false (by omega)
   clear h0 h1
   unfold It.v
   go_enter Tryz.func12,Tryz.ntmps12
   go_wp2
   go_ret
   exact⟨rfl,below_new _ _⟩
 ·have e:It.ok ⟨key,val,kind⟩=false:=decide_eq_false (fun h=>h0 (h.1))
  rw[e]
  clear e
  have b0x:decide ((1:Int)≤(key.size:Int))=false:=decide_eq_false (by omega)
  have b0y:decide (1≤key.size)=false:=decide_eq_false (by omega)
  have b0z:decide (0 < key.size)=false:=decide_eq_false (by omega)
  clear h0
  unfold It.v
  go_enter Tryz.func12,Tryz.ntmps12
  go_wp2
  go_ret
  exact⟨rfl,below_new _ _⟩
end Go.Proofs.YtjepgclnbbpnaaaGreat.P9
