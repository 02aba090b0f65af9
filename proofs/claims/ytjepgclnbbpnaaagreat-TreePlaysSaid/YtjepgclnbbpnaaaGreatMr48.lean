/-
  Texts of the proofs of SaidPlays12.
-/
import Derived.Test.YtjepgclnbbpnaaaGreatMr47
set_option linter.unusedVariables false
set_option linter.unusedSimpArgs false
set_option maxHeartbeats 8000000
set_option maxRecDepth 100000
namespace Go.Proofs.YtjepgclnbbpnaaaGreat.P12
open Go Go.RowKit Go.Lib PK
open P11 (Pg)
open P9 (It ItsIn OwnI kb RightI lowK hasK putI dropI putI_right dropI_right putI_len)
def KpT(w w':World):Prop:=w.heap.size≤w'.heap.size∧∀ (j:Nat) (cs:Array Value) (t:TypeId),(t≠44∧t≠86∧t≠3)→w.heap[j]?=some (.cells cs t (0,0))→w'.heap[j]?=some (.cells cs t (0,0))
theorem KpT.of{w w':World}(h:Below w.heap.size w w'):KpT w w':=⟨h.size,fun _ _ _ _ e=>P3.old_below e h⟩
theorem KpT.ofFr{w w':World}{b:Nat}{vl vg:Value}{M:PM}(hp:PAt w b vl vg M)(h:P3.Fr (PS b vl vg) w w'):KpT w w':=⟨h.size,fun j cs t ht e=>h.keep e fun hj=>by
 obtain⟨cs',t',e',h9⟩:=hp.cells_ hj
 rw[e] at e'
 cases e'
 rcases h9 with h9|h9|h9
 ·exact ht.1 h9
 ·exact ht.2.1 h9
 ·exact ht.2.2 h9⟩
theorem KpT.trans{w w' w2:World}(h:KpT w w')(k:KpT w' w2):KpT w w2:=⟨Nat.le_trans h.1 k.1,fun j cs t ht e=>k.2 j cs t ht (h.2 j cs t ht e)⟩
theorem KpT.frT{w w':World}(h:KpT w w'):FrT none w w':=⟨h.1,fun j cs t hs e=>h.2 j cs t (by
 rcases hs.1 with h9|h9 <;> rw[h9] <;> decide) e⟩
def Play(w0:World)(b:Nat)(root:Int)(L:List It)(k:Nat)(w:World):Prop:=
 ∃ vl vg M D ids P p q,PAt w b vl vg M∧TrS M D root L ids P p q∧p+q≤k∧(∀ j,PS b vl vg j→w0.heap.size≤j)∧Below w0.heap.size w0 w
section
variable {w0:World} {b:Nat} {root:Int} {L:List It} {k:Nat} {w:World}
theorem Play.bel(h:Play w0 b root L k w):Below w0.heap.size w0 w:=by
 obtain⟨_,_,_,_,_,_,_,_,_,_,_,_,h⟩:=h
 exact h
theorem Play.right(h:Play w0 b root L k w):RightI L:=by
 obtain⟨_,_,_,_,_,_,_,_,_,t,_⟩:=h
 exact t.right
theorem Play.llen(h:Play w0 b root L k w):L.length≤250:=by
 obtain⟨_,_,_,_,_,_,_,_,_,t,_⟩:=h
 exact t.llen
theorem Play.over{w':World}(h:Play w0 b root L k w)(hb:Below w.heap.size w w'):Play w0 b root L k w':=by
 obtain⟨vl,vg,M,D,ids,P,p,q,h1,h2,h3,h4,h5⟩:=h
 exact⟨vl,vg,M,D,ids,P,p,q,h1.below hb,h2,h3,h4,thenBelow h5 hb⟩
theorem Play.later{k':Nat}(h:Play w0 b root L k w)(hk:k≤k'):Play w0 b root L k' w:=by
 obtain⟨vl,vg,M,D,ids,P,p,q,h1,h2,h3,h4,h5⟩:=h
 exact⟨vl,vg,M,D,ids,P,p,q,h1,h2,by omega,h4,h5⟩
theorem Play.fresh{w':World}(h:PAt w' b (.slice none 0 0) (.slice none 0 0) ⟨[],2,[],false,false⟩)(hb:w0.heap.size≤b)(hB:Below w0.heap.size w0 w'):Play w0 b 0 [] 0 w':=by
 obtain⟨vl,vg,M,D,ids,P,p,q,h1,h2,h3,h4,h5,_⟩:=Live.fresh (w0:=w0) h hb hB
 exact⟨vl,vg,M,D,ids,P,p,q,h1,h2,h3,h4,h5⟩
theorem Play.put(h:Play w0 b root L k w)(hk:k < 250)(x:It)(hx:x.ok=true) :
  Calls Tryz.prog 11 #[pgv b,.int .i64 root,x.v] w fun e w'=>∃ r,e=.returned (.tuple #[.int .i64 r,.int .i64 0])∧Play w0 b r (putI L x) (k+1) w'∧KpT w w':=by
 obtain⟨vl,vg,M,D,ids,P,p,q,h1,t,h3,h4,h5⟩:=h
 have hdp:=t.deep
 have hll:=t.llen
 have hc:=t.cnt
 have hl:=t.len
 refine (trPut_any w b vl vg M h1 (by have:=t.szl;omega) D root L ids t.tree (by omega) t.pool.ids_nodup (fun x hx=>t.pool.ids_rng hx) t.pool.fr (by have:=t.gvl;omega) x hx t.right (by have:=putI_len L x;omega) (by omega)).mono ?_
 rintro e w' ⟨r,vl',vg',M',rfl,g2⟩
 obtain⟨D',i,made,g3⟩:=Did.of t g2 (putI_right t.right hx) (p':=p+1) (q':=q) (by omega) (by have:=putI_len L x;omega) (by unfold gmax;simp;omega)
 refine⟨r,rfl,⟨vl',vg',M',D',i,P++made,p+1,q,g3.pg,g3.tr,by omega,fun j hj=>?_,P3.Fr.new h5 g3.fr h4⟩,KpT.ofFr h1 g3.fr⟩
 rcases g3.new j hj with h9|h9
 ·exact h4 j h9
 ·exact Nat.le_trans h5.size h9
theorem Play.del(h:Play w0 b root L k w)(hk:k < 250)(key:ByteArray) :
  Calls Tryz.prog 14 #[pgv b,.int .i64 root,.string key] w fun e w'=>∃ r,e=.returned (.tuple #[.int .i64 r,.bool (hasK L key),.int .i64 0])∧(hasK L key=false→r=root)∧Play w0 b r (dropI L key) (k+1) w'∧KpT w w':=by
 obtain⟨vl,vg,M,D,ids,P,p,q,h1,t,h3,h4,h5⟩:=h
 have hdp:=t.deep
 have hll:=t.llen
 have hc:=t.cnt
 have hl:=t.len
 refine (trDelete_any w b vl vg M h1 (by have:=t.szl;omega) D root L ids t.tree (by omega) t.pool.ids_nodup (fun x hx=>t.pool.ids_rng hx) t.pool.fr (by have:=t.gvl;omega) key t.right (by omega)).mono ?_
 rintro e w' (⟨g1,rfl,g2⟩|⟨g1,r,vl',vg',M',rfl,g2⟩)
 ·rw[dropI_miss g1,g1]
  exact⟨root,rfl,fun _=>rfl,⟨vl,vg,M,D,ids,P,p,q,h1.below g2,t,by omega,h4,thenBelow h5 g2⟩,KpT.of g2⟩
 ·have hlen:=dropI_hit t.right g1
  obtain⟨D',i,made,g3⟩:=Did.of t g2 (dropI_right t.right _) (p':=p) (q':=q+1) (by omega) (by omega) (by unfold gmax;simp;omega)
  rw[g1]
  refine⟨r,rfl,fun h9=>(by cases h9),⟨vl',vg',M',D',i,P++made,p,q+1,g3.pg,g3.tr,by omega,fun j hj=>?_,P3.Fr.new h5 g3.fr h4⟩,KpT.ofFr h1 g3.fr⟩
  rcases g3.new j hj with h9|h9
  ·exact h4 j h9
  ·exact Nat.le_trans h5.size h9
theorem Play.mark(h:Play w0 b root L k w):Calls Tryz.prog 16 #[.pointer (some ⟨b,0,none⟩)] w fun e w'=>e=.returned (.tuple #[])∧Play w0 b root L k w'∧KpT w w':=by
 obtain⟨vl,vg,M,D,ids,P,p,q,h1,t,h3,h4,h5⟩:=h
 refine (mark_any w b vl vg M h1 (by have:=t.szl;omega)).mono ?_
 rintro e w' ⟨rfl,g1,g2⟩
 have hf:P3.Fr (PS b vl vg) w w':=g2.mono fun _ _ e=>.inl e
 refine⟨rfl,⟨vl,_,M.mark,D,ids,ids,p,q,g1,t.mark,h3,fun j hj=>?_,P3.Fr.new h5 hf h4⟩,KpT.ofFr h1 hf⟩
 rcases hj with h9|h9|h9
 ·exact h4 j (.inl h9)
 ·exact h4 j (.inr (.inl h9))
 ·cases h9
theorem Play.same(h:Play w0 b root L k w){v:Value}(hv:ItT w none v L)(key:ByteArray)(hk:key.size≤100)(most:Int) :
  Calls Tryz.prog 17 #[.pointer (some ⟨b,0,none⟩),.int .i64 root,v,.string key,.int .i64 most] w fun e w'=>e=.returned (.bool true)∧Below w.heap.size w w':=by
 have hl:=h.llen
 obtain⟨vl,vg,M,D,ids,P,p,q,h1,t,h3,h4,h5⟩:=h
 by_cases hc:hasK L key=true
 ·obtain⟨x,hx,_⟩:=P9.lowK_hit t.right (P9.hasK_iff.1 hc)
  exact same_any w b root L key most D x v (t.tells h1 key x (fun _=>hx) (fun e=>by rw[hc] at e;cases e)) hv.its hv.wide (by omega) (by omega) t.right
 ·exact same_any w b root L key most D ⟨⟨#[]⟩,⟨#[]⟩,0⟩ v (t.tells h1 key _ (fun e=>(hc e).elim) (fun _=>rfl)) hv.its hv.wide (by omega) (by omega) t.right
theorem Play.flags(h:Play w0 b root L k w):w.cell? ⟨b,3,none⟩=some (.bool false)∧w.cell? ⟨b,4,none⟩=some (.bool false):=by
 obtain⟨vl,vg,M,D,ids,P,p,q,h1,t,h3,h4,h5⟩:=h
 have:=h1.cells
 rw[t.pool.bad,t.pool.twice] at this
 exact⟨this.2.2.2.1,this.2.2.2.2.1⟩
end
theorem ItT.nil_(w:World):ItT w none (.slice none 0 0) []:=ItT.own (P9.OwnI.nil 0 w) fun _ e=>by cases e
theorem put_list(w:World)(v:Value)(L:List It)(x:It)(h:ItT w none v L)(hl:L.length≤250)(hr:RightI L) :
  Calls Tryz.prog 13 #[v,x.v] w fun e w'=>∃ v',e=.returned v'∧ItT w' none v' (putI L x)∧Below w.heap.size w w':=by
 refine (put_any w v L x h.its h.wide h.plain (by omega) hr).mono ?_
 rintro e w' ⟨v',rfl,h1,h2⟩
 exact⟨v',rfl,ItT.own h1 (fun _ e=>by cases e),h2⟩
theorem drop_list(w:World)(v:Value)(L:List It)(key:ByteArray)(h:ItT w none v L)(hl:L.length≤250)(hr:RightI L) :
  Calls Tryz.prog 15 #[v,.string key] w fun e w'=>∃ v',e=.returned (.tuple #[v',.bool (hasK L key)])∧ItT w' none v' (dropI L key)∧Below w.heap.size w w':=by
 refine (dropL_any w v L key h.its h.wide (by omega) hr).mono ?_
 rintro e w' ⟨u,rfl,h1,h2⟩
 rcases h1 with ⟨rfl,h3⟩|h3
 ·rw[h3]
  exact⟨_,rfl,h.keep (FrT.of h2),h2⟩
 ·exact⟨u,rfl,ItT.own h3 (fun _ e=>by cases e),h2⟩
end Go.Proofs.YtjepgclnbbpnaaaGreat.P12
namespace Go.Proofs.YtjepgclnbbpnaaaGreat.P9
open Go Go.RowKit Go.Lib PK
theorem valid12_any(w:World)(x:It) :
  Calls Tryz.prog 12 #[x.v] w fun r w'=>r=.returned (.bool x.ok)∧Below w.heap.size w w':=by
 obtain⟨key,val,kind⟩:=x
 by_cases h0:1≤key.size
 ·by_cases h1:key.size≤32
  ·by_cases h2:0≤kind
   ·by_cases h3:kind≤2
    ·by_cases h4:val.size≤96
     ·have e:It.ok ⟨key,val,kind⟩=true:=decide_eq_true ⟨h0,h1,h2,h3,h4⟩
      rw[e]
      clear e
      have b0x:decide ((1:Int)≤(key.size:Int))=true:=decide_eq_true (by omega)
      have b0y:decide (1≤key.size)=true:=decide_eq_true (by omega)
      have b0z:decide (0 < key.size)=true:=decide_eq_true (by omega)
      have b1x:decide ((key.size:Int)≤32)=true:=decide_eq_true (by omega)
      have b1y:decide (key.size≤32)=true:=decide_eq_true (by omega)
      have b2x:decide ((0:Int)≤kind)=true:=decide_eq_true (by omega)
      have b3x:decide (kind≤(2:Int))=true:=decide_eq_true (by omega)
      have b4x:decide ((val.size:Int)≤96)=true:=decide_eq_true (by omega)
      have b4y:decide (val.size≤96)=true:=decide_eq_true (by omega)
      clear h0 h1 h2 h3 h4
      unfold It.v
      go_enter Tryz.func12,Tryz.ntmps12
      go_wp2
      go_ret
      exact⟨rfl,below_new _ _⟩
     ·have e:It.ok ⟨key,val,kind⟩=false:=decide_eq_false (fun h=>h4 (h.2.2.2.2))
      rw[e]
      clear e
      have b0x:decide ((1:Int)≤(key.size:Int))=true:=decide_eq_true (by omega)
      have b0y:decide (1≤key.size)=true:=decide_eq_true (by omega)
      have b0z:decide (0 < key.size)=true:=decide_eq_true (by omega)
      have b1x:decide ((key.size:Int)≤32)=true:=decide_eq_true (by omega)
      have b1y:decide (key.size≤32)=true:=decide_eq_true (by omega)
      have b2x:decide ((0:Int)≤kind)=true:=decide_eq_true (by omega)
      have b3x:decide (kind≤(2:Int))=true:=decide_eq_true (by omega)
      have b4x:decide ((val.size:Int)≤96)=false:=decide_eq_false (by omega)
      have b4y:decide (val.size≤96)=false:=decide_eq_false (by omega)
      clear h0 h1 h2 h3 h4
      unfold It.v
      go_enter Tryz.func12,Tryz.ntmps12
      go_wp2
      go_ret
      exact⟨rfl,below_new _ _⟩
    ·have e:It.ok ⟨key,val,kind⟩=false:=decide_eq_false (fun h=>h3 (h.2.2.2.1))
     rw[e]
     clear e
     have b0x:decide ((1:Int)≤(key.size:Int))=true:=decide_eq_true (by omega)
     have b0y:decide (1≤key.size)=true:=decide_eq_true (by omega)
     have b0z:decide (0 < key.size)=true:=decide_eq_true (by omega)
     have b1x:decide ((key.size:Int)≤32)=true:=decide_eq_true (by omega)
     have b1y:decide (key.size≤32)=true:=decide_eq_true (by omega)
     have b2x:decide ((0:Int)≤kind)=true:=decide_eq_true (by omega)
     have b3x:decide (kind≤(2:Int))=false:=decide_eq_false (by omega)
     clear h0 h1 h2 h3
     unfold It.v
     go_enter Tryz.func12,Tryz.ntmps12
     go_wp2
     go_ret
     exact⟨rfl,below_new _ _⟩
   ·have e:It.ok ⟨key,val,kind⟩=false:=decide_eq_false (fun h=>h2 (h.2.2.1))
    rw[e]
    clear e
    have b0x:decide ((1:Int)≤(key.size:Int))=true:=decide_eq_true (by omega)
    have b0y:decide (1≤key.size)=true:=decide_eq_true (by omega)
    have b0z:decide (0 < key.size)=true:=decide_eq_true (by omega)
    have b1x:decide ((key.size:Int)≤32)=true:=decide_eq_true (by omega)
    have b1y:decide (key.size≤32)=true:=decide_eq_true (by omega)
    have b2x:decide ((0:Int)≤kind)=false:=decide_eq_false (by omega)
    clear h0 h1 h2
    unfold It.v
    go_enter Tryz.func12,Tryz.ntmps12
    go_wp2
    go_ret
    exact⟨rfl,below_new _ _⟩
  ·have e:It.ok ⟨key,val,kind⟩=false:=decide_eq_false (fun h=>h1 (h.2.1))
   rw[e]
   clear e
   have b0x:decide ((1:Int)≤(key.size:Int))=true:=decide_eq_true (by omega)
   have b0y:decide (1≤key.size)=true:=decide_eq_true (by omega)
   have b0z:decide (0 < key.size)=true:=decide_eq_true (by omega)
   have b1x:decide ((key.size:Int)≤32)=false:=decide_eq_false (by omega)
   have b1y:decide (key.size≤32)=false:=decide_eq_false (by omega)
   clear h0 h1
   unfold It.v
   go_enter Tryz.func12,Tryz.ntmps12
   go_wp2
   go_ret
   exact⟨rfl,below_new _ _⟩
 ·have e:It.ok ⟨key,val,kind⟩=false:=decide_eq_false (fun h=>h0 (h.1))
  rw[e]
  clear e
  have b0x:decide ((1:Int)≤(key.size:Int))=false:=decide_eq_false (by omega)
  have b0y:decide (1≤key.size)=false:=decide_eq_false (by omega)
  have b0z:decide (0 < key.size)=false:=decide_eq_false (by omega)
  clear h0
  unfold It.v
  go_enter Tryz.func12,Tryz.ntmps12
  go_wp2
  go_ret
  exact⟨rfl,below_new _ _⟩
end Go.Proofs.YtjepgclnbbpnaaaGreat.P9
namespace Go.Proofs.YtjepgclnbbpnaaaGreat.P12
open PK (qqA qqB qqC qqD qqE qqF tk tkS dOne qh)
open Go Go.RowKit Go.Lib PK
open P11 (Pg)
open P9 (It ItsIn OwnI kb RightI lowK hasK putI dropI)
theorem plays_walk (w:World) (v:Value) (l:List Ac) (hA:AcsIn w v l) (key:ByteArray) (most:Int) :
  Calls Tryz.prog 3 #[v,.string key,.int .i64 most] w fun e w'=>e=.returned (.bool true)∧Below w.heap.size w w':=by
 have HAl:=qh (fun w=>alive_any w)
 have HLi:=qh (light12_any w v l hA)
 obtain⟨a,c,rfl⟩:=hA.slice
 have HA:=qh hA
 have hlen:=hA.len
 clear hA
 obtain⟨n1,hn1⟩:∃ n,n=l.length:=⟨_,rfl⟩
 rw[← hn1] at hlen HLi ⊢
 have HN1:=qh hn1
 clear hn1
 go_enter Tryz.func3,Tryz.ntmps3
 go_upto_region 1 with fail
 go_cut [30] from 19 to 30 (fun v W=>∃ b,v=.bool b∧Hid (b=false→n1≤250∧key.size≤100)∧Hid (Below w.heap.size w W))
 case first=>
  obtain⟨d6,hd6⟩:∃ d,d=decide (key.size≤100):=⟨_,rfl⟩
  have b6:decide ((100:Int) < (key.size:Int))=!d6:=by
   rw[hd6]
   by_cases q:key.size≤100
   ·rw[decide_eq_true q];exact decide_eq_false (by omega)
   ·rw[decide_eq_false q];exact decide_eq_true (by omega)
  have b6':decide (100 < key.size)=!d6:=by
   rw[hd6]
   by_cases q:key.size≤100
   ·rw[decide_eq_true q];exact decide_eq_false (by omega)
   ·rw[decide_eq_false q];exact decide_eq_true (by omega)
  have H6:Hid (d6=true→key.size≤100):=fun h=>by rw[hd6] at h;exact of_decide_eq_true h
  clear hd6
  cases d6
  all_goals
   simp only[Bool.not_true,Bool.not_false] at b6 b6'
   go_wp2_with (first
    | (go_at_call 8;(with_reducible refine HLi.out.mono ?_);rintro e w2 ⟨⟨b1,rfl,h1⟩,hb⟩;have H1:=qh h1;have HB2:=qh hb;clear h1 hb)
    | (go_at_call 9;(with_reducible refine (HAl.out _).mono ?_);rintro e w4 ⟨rfl,hb⟩;have HB4:=qh (thenBelow HB2.out hb);clear hb))
  all_goals
   go_meet
   first
    | exact⟨true,rfl,qh (fun h=>by cases h),HB2⟩
    | exact⟨false,rfl,qh (fun _=>⟨by have:=H1.out (by first|assumption|rfl);have:=HN1.out;omega,H6.out (by trivial)⟩),HB4⟩
 case rest=>
  obtain⟨b,rfl,hOk,hB⟩:=hcut
  cases b with
  | true=>
   go_wp2_with (go_at_call 9;(with_reducible refine (HAl.out _).mono ?_);rintro e w5 ⟨rfl,hb⟩;have HB5:=qh (thenBelow hB.out hb);clear hb)
   go_ret
   exact⟨rfl,HB5.out⟩
  | false =>
   obtain⟨hl250,hk100⟩:=hOk.out rfl
   clear HLi HAl hOk
   go_upto_region 7 with (go_at_call 10;(with_reducible refine (fresh_any _).mono ?_);rintro e w1 ⟨rfl,h1,hb⟩;have HL0:=qh (Play.fresh h1 hB.out.size (thenBelow hB.out hb));clear h1 hb)
   obtain⟨b,hb⟩:∃ b,b=wc.heap.size:=⟨_,rfl⟩
   rw[← hb] at HL0 ⊢
   clear hb hB
   have HK:=qh hk100
   clear hk100
   go_loopw [8,9,10] (fun vh vr vi wr=>∃ (k:Nat) (r:Int) (ha:Option Addr) (hn hc:Nat),k≤n1∧vi=.int .i64 k∧vr=.int .i64 r∧vh=.slice ha hn hc∧Hid (∃ L,Play w b r L k wr∧ItT wr none (.slice ha hn hc) L)) (fun _ _ vi _=>n1 - (RowKit.intOf vi).toNat)
   case atStart=>exact⟨0,0,none,0,0,Nat.zero_le _,rfl,rfl,rfl,qh ⟨_,HL0.out,ItT.nil_ _⟩⟩
   case round=>
    clear HL0
    obtain⟨k,r,ha,hn,hc,hk,rfl,rfl,rfl,HL⟩:=hrel
    by_cases hlt:k < n1
    ·obtain⟨o,ho⟩:∃ o,l[k]?=some o:=⟨_,List.getElem?_eq_getElem (by have:=HN1.out;omega)⟩
     have hA:=HA.out
     rw[← HN1.out] at hA
     obtain⟨g,off,rfl,hcc⟩:=hA.at_ ho
     obtain⟨L,hL,hV⟩:=HL.out
     obtain⟨c0,c1,c2,c3⟩:=hcc wr hL.bel
     have k1:decide ((k:Int) < (n1:Int))=true:=decide_eq_true (by omega)
     have k2:(k:Int) < (n1:Int):=by omega
     have k3:(0:Int)≤(k:Int):=by omega
     obtain⟨W1,hW1⟩:∃ W1,W1=wr.alloc (.cells #[.int .i64 o.kind,.string o.i.key,.string o.i.val,.int .i64 o.i.kind] 31):=⟨_,rfl⟩
     have b1:Below wr.heap.size wr W1:=by rw[hW1];exact below_new _ _
     have r1:W1.heap[wr.heap.size]?=some (.cells #[.int .i64 o.kind,.string o.i.key,.string o.i.val,.int .i64 o.i.kind] 31 (0,0)):=by rw[hW1];exact new_at _ _ _
     have HBx:Hid (∀ W,KpT W1 W→W.cell? ⟨wr.heap.size,0,none⟩=some (.int .i64 o.kind)∧W.cell? ⟨wr.heap.size,1,none⟩=some (.string o.i.key)∧W.cell? ⟨wr.heap.size,2,none⟩=some (.string o.i.val)∧W.cell? ⟨wr.heap.size,3,none⟩=some (.int .i64 o.i.kind)):=qh (fun W hW=>by
      have:=hW.2 _ _ _ ⟨by decide,by decide,by decide⟩ r1
      exact⟨by rw[cell_at this];rfl,by rw[cell_at this];rfl,by rw[cell_at this];rfl,by rw[cell_at this];rfl⟩)
     obtain⟨o0,o1,o2,o3⟩:=HBx.out W1 (KpT.of (Below.refl _ _))
     have hP1:=hL.over b1
     have hV1:=hV.keep (FrT.of b1)
     have hR:=hL.right
     have hLl:=hL.llen
     clear hcc ho hA HL hL hV b1 r1
     by_cases hk1:o.kind=1
     ·have q1:(o.kind == 1)=true:=by rw[hk1];rfl
      by_cases hok:o.i.ok=true
      ·have HPut:=qh (hP1.put (by omega) o.i hok)
       have HVal:=qh (fun W=>P9.valid12_any W o.i)
       rw[hok] at HVal
       unfold It.v at HVal
       have HV1:=qh hV1
       have HLaw:Hid (∀ W,ItT W none (.slice ha hn hc) L→Calls Tryz.prog 13 #[.slice ha hn hc,o.i.v] W fun e w'=>∃ va vn vc,e=.returned (.slice va vn vc)∧ItT w' none (.slice va vn vc) (putI L o.i)∧Below W.heap.size W w'):=qh (fun W h=>(put_list W _ L o.i h hLl hR).mono fun e w' ⟨v',e1,e2,e3⟩=>by
        obtain⟨va,vc,e9⟩:=e2.its.slice
        rw[e9] at e1 e2
        exact⟨va,_,vc,e1,e2,e3⟩)
       have HSm:Hid (∀ W r2 va vn vc,Play w b r2 (putI L o.i) (k+1) W→ItT W none (.slice va vn vc) (putI L o.i)→Calls Tryz.prog 17 #[.pointer (some ⟨b,0,none⟩),.int .i64 r2,.slice va vn vc,.string key,.int .i64 most] W fun e w'=>e=.returned (.bool true)∧Below W.heap.size W w'):=qh (fun W r2 va vn vc h1 h2=>h1.same h2 key HK.out most)
       unfold pgv It.v at HPut
       unfold It.v at HLaw
       clear hP1 hV1 hR hok hk1
       go_upto_region 10 with fail
       rw[← hW1]
       clear hW1 c0 c1 c2 c3
       go_upto_region 26 with (first
        | (go_at_call 11;(with_reducible refine HPut.out.mono ?_);rintro e w2 ⟨r2,rfl,h2,h3⟩;have HL2:=qh h2;have HV2:=qh (HV1.out.keep h3.frT);have HK2:=qh h3;obtain⟨o0,o1,o2,o3⟩:=HBx.out w2 h3;clear h2 h3)
        | (go_at_call 12;(with_reducible refine (HVal.out _).mono ?_);rintro e w3 ⟨rfl,hb⟩;have HL3:=qh (HL2.out.over hb);have HV3:=qh (HV2.out.keep (FrT.of hb));obtain⟨o0,o1,o2,o3⟩:=HBx.out w3 (HK2.out.trans (KpT.of hb));clear hb)
        | (go_at_call 13;(with_reducible refine (HLaw.out _ HV3.out).mono ?_);rintro e w4 ⟨va,vn,vc,rfl,h4,hb⟩;have HV4:=qh h4;have HL4:=qh (HL3.out.over hb);clear h4 hb))
       obtain⟨y3,y4⟩:=HL4.out.flags
       go_wp2_with (go_at_call 17;(with_reducible refine (HSm.out _ _ _ _ _ HL4.out HV4.out).mono ?_);rintro e w5 ⟨rfl,hb⟩;have HL5:=qh (HL4.out.over hb);have HV5:=qh (HV4.out.keep (FrT.of hb));clear hb)
       all_goals
        refine⟨?_,by simp[RowKit.intOf];omega⟩
        first
         | exact⟨k+1,r2,va,vn,vc,by omega,by simp,rfl,rfl,qh ⟨_,HL5.out,HV5.out⟩⟩
         | exact⟨k+1,r2,va,vn,vc,by omega,by simp,rfl,rfl,qh ⟨_,HL4.out,HV4.out⟩⟩
      ·have hok':o.i.ok=false:=by simpa using hok
       have HPut:=qh (trPut_bad W1 b r o.i hok')
       have HVal:=qh (fun W=>P9.valid12_any W o.i)
       rw[hok'] at HVal
       unfold It.v at HVal
       have HL1:=qh hP1
       have HV1:=qh hV1
       unfold pgv It.v at HPut
       clear hP1 hV1 hR hok hok' hk1
       go_upto_region 10 with fail
       rw[← hW1]
       clear hW1 c0 c1 c2 c3
       go_wp2_with (first
        | (go_at_call 11;(with_reducible refine HPut.out.mono ?_);rintro e w2 ⟨rfl,hb⟩;have HL2:=qh (HL1.out.over hb);have HV2:=qh (HV1.out.keep (FrT.of hb));have HB2:=qh hb;obtain⟨o0,o1,o2,o3⟩:=HBx.out w2 (KpT.of hb);clear hb)
        | (go_at_call 12;(with_reducible refine (HVal.out _).mono ?_);rintro e w3 ⟨rfl,hb⟩;have HL3:=qh (HL2.out.over hb);have HV3:=qh (HV2.out.keep (FrT.of hb));clear hb))
       all_goals
        refine⟨?_,by simp[RowKit.intOf];omega⟩
        exact⟨k+1,r,ha,hn,hc,by omega,by simp,rfl,rfl,qh ⟨_,HL3.out.later (by omega),HV3.out⟩⟩
     ·by_cases hk2:o.kind=2
      ·have q1:(o.kind == 1)=false:=beq_false_of_ne hk1
       have q2:(o.kind == 2)=true:=by rw[hk2];rfl
       have HDel:=qh (hP1.del (by omega) o.i.key)
       have HV1:=qh hV1
       have HLaw:Hid (∀ W,ItT W none (.slice ha hn hc) L→Calls Tryz.prog 15 #[.slice ha hn hc,.string o.i.key] W fun e w'=>∃ va vn vc,e=.returned (.tuple #[.slice va vn vc,.bool (hasK L o.i.key)])∧ItT w' none (.slice va vn vc) (dropI L o.i.key)∧Below W.heap.size W w'):=qh (fun W h=>(drop_list W _ L o.i.key h hLl hR).mono fun e w' ⟨v',e1,e2,e3⟩=>by
        obtain⟨va,vc,e9⟩:=e2.its.slice
        rw[e9] at e1 e2
        exact⟨va,_,vc,e1,e2,e3⟩)
       have HSm:Hid (∀ W r2 va vn vc,Play w b r2 (dropI L o.i.key) (k+1) W→ItT W none (.slice va vn vc) (dropI L o.i.key)→Calls Tryz.prog 17 #[.pointer (some ⟨b,0,none⟩),.int .i64 r2,.slice va vn vc,.string key,.int .i64 most] W fun e w'=>e=.returned (.bool true)∧Below W.heap.size W w'):=qh (fun W r2 va vn vc h1 h2=>h1.same h2 key HK.out most)
       obtain⟨L2,hL2⟩:∃ L2,L2=dropI L o.i.key:=⟨_,rfl⟩
       obtain⟨bb,hbb⟩:∃ bb,bb=hasK L o.i.key:=⟨_,rfl⟩
       rw[← hL2,← hbb] at HDel HLaw
       rw[← hL2] at HSm
       unfold pgv at HDel
       clear hP1 hV1 hR hk1 hk2 hL2 hbb
       cases bb
       all_goals
        go_upto_region 10 with fail
        rw[← hW1]
        clear hW1 c0 c1 c2 c3
        go_upto_region 26 with (first
         | (go_at_call 14;(with_reducible refine HDel.out.mono ?_);rintro e w2 ⟨r2,rfl,hr2,h2,h3⟩;have HL2:=qh h2;have HV2:=qh (HV1.out.keep h3.frT);obtain⟨o0,o1,o2,o3⟩:=HBx.out w2 h3;(first|(obtain rfl:=hr2 rfl)|clear hr2);clear h2 h3)
         | (go_at_call 15;(with_reducible refine (HLaw.out _ HV2.out).mono ?_);rintro e w4 ⟨va,vn,vc,rfl,h4,hb⟩;have HV4:=qh h4;have HL4:=qh (HL2.out.over hb);clear h4 hb))
        obtain⟨y3,y4⟩:=HL4.out.flags
        go_wp2_with (go_at_call 17;(with_reducible refine (HSm.out _ _ _ _ _ HL4.out HV4.out).mono ?_);rintro e w5 ⟨rfl,hb⟩;have HL5:=qh (HL4.out.over hb);have HV5:=qh (HV4.out.keep (FrT.of hb));clear hb)
        all_goals
         refine⟨?_,by simp[RowKit.intOf];omega⟩
         first
          | exact⟨k+1,_,va,vn,vc,by omega,by simp,rfl,rfl,qh ⟨_,HL5.out,HV5.out⟩⟩
          | exact⟨k+1,_,va,vn,vc,by omega,by simp,rfl,rfl,qh ⟨_,HL4.out,HV4.out⟩⟩
      ·have q1:(o.kind == 1)=false:=beq_false_of_ne hk1
       have q2:(o.kind == 2)=false:=beq_false_of_ne hk2
       have HMk:=qh hP1.mark
       have HV1:=qh hV1
       have HSm:Hid (∀ W,Play w b r L k W→ItT W none (.slice ha hn hc) L→Calls Tryz.prog 17 #[.pointer (some ⟨b,0,none⟩),.int .i64 r,.slice ha hn hc,.string key,.int .i64 most] W fun e w'=>e=.returned (.bool true)∧Below W.heap.size W w'):=qh (fun W h1 h2=>h1.same h2 key HK.out most)
       clear hP1 hV1 hR hk1 hk2
       go_upto_region 10 with fail
       rw[← hW1]
       clear hW1 c0 c1 c2 c3
       go_upto_region 26 with (go_at_call 16;(with_reducible refine HMk.out.mono ?_);rintro e w2 ⟨rfl,h2,h3⟩;have HL2:=qh h2;have HV2:=qh (HV1.out.keep h3.frT);clear h2 h3)
       obtain⟨y3,y4⟩:=HL2.out.flags
       go_wp2_with (go_at_call 17;(with_reducible refine (HSm.out _ HL2.out HV2.out).mono ?_);rintro e w5 ⟨rfl,hb⟩;have HL5:=qh (HL2.out.over hb);have HV5:=qh (HV2.out.keep (FrT.of hb));clear hb)
       all_goals
        refine⟨?_,by simp[RowKit.intOf];omega⟩
        first
         | exact⟨k+1,r,ha,hn,hc,by omega,by simp,rfl,rfl,qh ⟨_,HL5.out.later (by omega),HV5.out⟩⟩
         | exact⟨k+1,r,ha,hn,hc,by omega,by simp,rfl,rfl,qh ⟨_,HL2.out.later (by omega),HV2.out⟩⟩
    ·obtain rfl:k=n1:=by omega
     have k1:decide ((k:Int) < (k:Int))=false:=decide_eq_false (by omega)
     obtain⟨L,hL,hV⟩:=HL.out
     have HSm:=qh (hL.same hV key HK.out most)
     have HBe:=qh hL.bel
     clear hL hV HL
     go_wp2_with (go_at_call 17;(with_reducible refine HSm.out.mono ?_);rintro e w5 ⟨rfl,hb⟩;have HB5:=qh (thenBelow HBe.out hb);clear hb)
     go_ret
     exact⟨rfl,HB5.out⟩
end Go.Proofs.YtjepgclnbbpnaaaGreat.P12
