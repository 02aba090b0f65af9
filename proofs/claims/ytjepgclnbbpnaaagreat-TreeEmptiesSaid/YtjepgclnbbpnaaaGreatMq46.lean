/-
  Texts of the proofs of SaidDrops12, SaidEmpt12, SaidOlds12.
-/
import Derived.Test.YtjepgclnbbpnaaaGreatMq44
set_option linter.unusedVariables false
set_option linter.unusedSimpArgs false
set_option maxHeartbeats 8000000
set_option maxRecDepth 100000
namespace Go.Proofs.YtjepgclnbbpnaaaGreat.P12
open PK (qqA qqB qqC qqD qqE qqF tk tkS dOne qh)
open Go Go.RowKit Go.Lib PK
open P11 (Pg)
open P9 (It ItsIn ItsA kb RightI lowK hasK putI dropI)
def Left(m:List It)(k:Nat)(L:List It):Prop:=∀ y∈L,∃ j x,k≤j∧m[j]?=some x∧x.key=y.key
theorem Left.next{m:List It}{k:Nat}{L:List It}(h:Left m k L)(hr:RightI L){x:It}(hx:m[k]?=some x):Left m (k+1) (actL L ⟨2,x⟩):=fun y hy=>by
 obtain⟨h1,h2⟩:=mem_actL_del hr hy
 obtain⟨j,z,h3,h4,h5⟩:=h y h1
 refine⟨j,z,?_,h4,h5⟩
 by_cases e:j=k
 ·subst e
  rw[hx] at h4
  cases h4
  exact (h2 h5.symm).elim
 ·omega
theorem Left.none{m:List It}{L:List It}(h:Left m m.length L):L=[]:=by
 cases L with
 | nil=>rfl
 | cons y L=>
  obtain⟨j,x,h1,h2,_⟩:=h y List.mem_cons_self
  have:=(List.getElem?_eq_some_iff.1 h2).1
  omega
theorem empties_walk (w:World) (v:Value) (l:List It) (hIW:ItsA w v l) (back:Bool) :
  Calls Tryz.prog 7 #[v,.bool back] w fun e w'=>e=.returned (.bool true)∧Below w.heap.size w w':=by
 obtain⟨hI,-⟩:=hIW
 have HAl:=qh (fun w=>alive_any w)
 have HR:=qh room2_
 obtain⟨a,c,rfl⟩:=hI.slice
 have HA:=qh (fun (i:Nat) (x:It) (hi:l[i]?=some x)=>hI.at_ hi)
 have hlen:=hI.len
 clear hI
 go_enter Tryz.func7,Tryz.ntmps7
 go_upto_region 1 with fail
 go_cut [20] from 14 to 20 (fun v W=>∃ b,v=.bool b∧Hid (b=false→l.length≤80)∧Hid (Below w.heap.size w W))
 case first=>
  by_cases h80:l.length≤80
  ·have b6:decide ((80:Int) < (l.length:Int))=false:=decide_eq_false (by omega)
   have b6':decide (80 < l.length)=false:=decide_eq_false (by omega)
   go_wp2_with (go_at_call 9;(with_reducible refine (HAl.out _).mono ?_);rintro e w4 ⟨rfl,hb⟩;have HB4:=qh hb;clear hb)
   go_meet
   exact⟨false,rfl,qh (fun _=>h80),HB4⟩
  ·have b6:decide ((80:Int) < (l.length:Int))=true:=decide_eq_true (by omega)
   have b6':decide (80 < l.length)=true:=decide_eq_true (by omega)
   go_wp2
   go_meet
   exact⟨true,rfl,qh (fun h=>by cases h),Below.refl _ _⟩
 case rest =>
  obtain⟨b,rfl,hOk,hB⟩:=hcut
  cases b with
  | true=>
   go_wp2_with (go_at_call 9;(with_reducible refine (HAl.out _).mono ?_);rintro e w5 ⟨rfl,hb⟩;have HB5:=qh (thenBelow hB.out hb);clear hb)
   go_ret
   exact⟨rfl,HB5.out⟩
  | false =>
   have hl80:=hOk.out rfl
   clear HAl hOk
   go_upto_region 5 with fail
   go_loopw [5,6] (fun vr vi wr=>∃ (k:Nat) (x:Int),k≤l.length∧vi=.int .i64 k∧vr=.int .i64 x∧x≤20000∧Hid (Below w.heap.size w wr)) (fun _ vi _=>l.length - (RowKit.intOf vi).toNat)
   case atStart=>exact⟨0,10000,Nat.zero_le _,rfl,rfl,by decide,hB⟩
   case round=>
    clear hB
    obtain⟨k,x,hk,rfl,rfl,hx,hB⟩:=hrel
    by_cases h3:0≤x
    ·have i3:decide (0≤x)=true:=decide_eq_true h3
     have i3n:decide (x < 0)=false:=decide_eq_false (by omega)
     by_cases h1:k < l.length
     ·have i1:decide ((k:Int) < (l.length:Int))=true:=decide_eq_true (by omega)
      have i1':decide (k < l.length)=true:=decide_eq_true h1
      obtain⟨o,ho⟩:∃ o,l[k]?=some o:=⟨_,List.getElem?_eq_getElem h1⟩
      obtain⟨b,off,rfl,hcc⟩:=HA.out k o ho
      have HXc:Hid (∀ W,Below w.heap.size w W→W.cell? ⟨b,off+k*3,none⟩=some (.string o.key)∧W.cell? ⟨b,off+k*3+1,none⟩=some (.string o.val)):=fun W hW=>⟨(hcc W hW).1,(hcc W hW).2.1⟩
      have HR2:Hid (∀ W,Below (wr.alloc (.cells #[.int .i64 (o.key.size:Nat),.int .i64 (o.val.size:Nat)] 3)).heap.size (wr.alloc (.cells #[.int .i64 (o.key.size:Nat),.int .i64 (o.val.size:Nat)] 3)) W→Calls Tryz.prog 27 #[.int .i64 x,.slice (some ⟨wr.heap.size,0,none⟩) 2 2] W fun e w'=>
        (∃ q,e=.returned (.int .i64 q)∧q≤20000)∧W=w'):=fun W hW=>HR.out wr W x (o.key.size:Nat) (o.val.size:Nat) hW hx (by omega) (by omega)
      have b0:(0:Int)≤(k:Int):=by omega
      have b1:(k:Int) < (l.length:Int):=by omega
      obtain⟨s,hs⟩:∃ s,s=o.key:=⟨_,rfl⟩
      obtain⟨t,ht⟩:∃ t,t=o.val:=⟨_,rfl⟩
      rw[← hs,← ht] at HR2 HXc
      have HG:=qh (fun (z1 z2:Int)=>grow hB.out (.cells #[.int .i64 z1,.int .i64 z2] 3))
      have HGd:=qh (fun (z1 z2:Int)=>grow (thenBelow hB.out (Below.refl _ _).drew) (.cells #[.int .i64 z1,.int .i64 z2] 3))
      clear hcc ho hs ht HR HA
      go_upto_region 7 with fail
      go_region_held3 (fun W=>W.cell? ⟨b,off+k*3,none⟩=some (.string s)∧W.cell? ⟨b,off+k*3+1,none⟩=some (.string t)) (first|exact HXc.out _ (thenBelow hB.out (Below.refl _ _).drew)|exact HXc.out _ hB.out|exact HXc.out _ (HG.out _ _)|exact HXc.out _ (HGd.out _ _)|exact HXc.out _ (thenBelow (HG.out _ _) (Below.refl _ _).drew)) ((first|(go_at_call 27;(with_reducible refine (HR2.out _ (by first|exact (Below.refl _ _).drew|exact Below.refl _ _)).mono ?_);rintro e w2 ⟨⟨q,rfl,hq1⟩,rfl⟩;have HQ1:=qh hq1;clear hq1)))
      all_goals
       go_wp2
       go_roundw
       case rel=>exact⟨k+1,q,by omega,by go_num,rfl,HQ1.out,by first|exact HG.out _ _|exact HGd.out _ _|exact thenBelow (HG.out _ _) (Below.refl _ _).drew⟩
       case measure=>simp[RowKit.intOf];omega
     ·obtain rfl:k=l.length:=by omega
      have i1:decide ((l.length:Int) < (l.length:Int))=false:=decide_eq_false (by omega)
      have i1':decide (l.length < l.length)=false:=decide_eq_false h1
      clear HR h1 hk
      go_upto_region 13 with (go_at_call 10;(with_reducible refine (fresh_any _).mono ?_);rintro e w1 ⟨rfl,h1,hb⟩;have HL0:=qh (Live.fresh h1 hB.out.size (thenBelow hB.out hb));clear h1 hb)
      obtain⟨b,hb⟩:∃ b,b=wr.heap.size:=⟨_,rfl⟩
      rw[← hb] at HL0 ⊢
      clear hb hB
      have s0:Hid (∃ L,Live w b 0 L 0 w1∧∀ y∈L,y∈l):=qh ⟨_,HL0.out,fun y hy=>by cases hy⟩
      clear HL0
      go_loopw [8,9] (fun vr vi wr=>∃ (k:Nat) (r:Int),k≤l.length∧vi=.int .i64 k∧vr=.int .i64 r∧Hid (∃ L,Live w b r L k wr∧∀ y∈L,y∈l)) (fun _ vi _=>l.length - (RowKit.intOf vi).toNat)
      case atStart=>exact⟨0,0,Nat.zero_le _,rfl,rfl,s0⟩
      case round=>
       clear s0 i1 i1'
       obtain⟨k,r,hk,rfl,rfl,HL⟩:=hrel
       by_cases hlt:k < l.length
       ·obtain⟨o,ho⟩:∃ o,l[k]?=some o:=⟨_,List.getElem?_eq_getElem hlt⟩
        obtain⟨g,off,rfl,hc⟩:=HA.out k o ho
        obtain⟨L0,hL0,hm0⟩:=HL.out
        obtain⟨c0,c1,c2⟩:=hc _ hL0.bel
        have k1:decide ((k:Int) < (l.length:Int))=true:=decide_eq_true (by omega)
        have k2:(k:Int) < (l.length:Int):=by omega
        have k3:(0:Int)≤(k:Int):=by omega
        have HAc:=qh (hL0.act (by omega) ⟨1,o⟩)
        have HM:Hid (∀ y∈actL L0 ⟨1,o⟩,y∈l):=qh (fun y hy=>by
         rcases mem_actL_put hL0.right hy with rfl|h9
         ·exact List.mem_of_getElem? ho
         ·exact hm0 y h9)
        unfold Ac.v at HAc
        clear hc ho hL0 hm0 HL
        go_wp2_with (go_at_call 18;(with_reducible refine HAc.out.mono ?_);rintro e w2 ⟨r2,rfl,h2⟩;have HL2:=qh h2;clear h2)
        go_roundw
        case rel=>exact⟨k+1,r2,by omega,by go_num,rfl,qh ⟨_,HL2.out,HM.out⟩⟩
        case measure=>simp[RowKit.intOf];omega
       ·obtain rfl:k=l.length:=by omega
        have k1:decide ((l.length:Int) < (l.length:Int))=false:=decide_eq_false (by omega)
        obtain⟨m,hm⟩:∃ m,m=if back=true then l.reverse else l:=⟨_,rfl⟩
        have hml:m.length=l.length:=by rw[hm];split <;> simp
        have s1:Hid (∃ L,Live w b r L (l.length+0) wr∧Left m 0 L):=qh (by
         obtain⟨L0,h0,h1⟩:=HL.out
         refine⟨L0,h0,fun y hy=>?_⟩
         have hy:y∈m:=by rw[hm];split <;> simp[h1 y hy]
         obtain⟨j,hj⟩:=List.mem_iff_getElem?.1 hy
         exact⟨j,y,Nat.zero_le _,hj,rfl⟩)
        have HMd:=qh hm
        have HMl:=qh hml
        clear HL hm hml hk hlt
        go_upto_region 17 with fail
        go_loopw [8,10] (fun vr vi wr=>∃ (k:Nat) (r:Int),k≤l.length∧vi=.int .i64 k∧vr=.int .i64 r∧Hid (∃ L,Live w b r L (l.length+k) wr∧Left m k L)) (fun _ vi _=>l.length - (RowKit.intOf vi).toNat)
        case atStart=>exact⟨0,r,Nat.zero_le _,rfl,rfl,s1⟩
        case round=>
         clear s1 k1
         obtain⟨k,r,hk,rfl,rfl,HL⟩:=hrel
         by_cases hlt:k < l.length
         ·obtain⟨o,ho⟩:∃ o,m[k]?=some o:=⟨_,List.getElem?_eq_getElem (by rw[HMl.out];exact hlt)⟩
          obtain⟨i,hi,hix⟩:∃ i,l[i]?=some o∧i=if back=true then l.length - 1 - k else k:=by
           rw[HMd.out] at ho
           cases back with
           | false=>exact⟨k,by simpa using ho,rfl⟩
           | true=>
            refine⟨l.length - 1 - k,?_,rfl⟩
            have ho:l.reverse[k]?=some o:=ho
            rwa[List.getElem?_reverse hlt] at ho
          obtain⟨g,off,rfl,hc⟩:=HA.out i o hi
          obtain⟨L0,hL0,hm0⟩:=HL.out
          obtain⟨c0,c1,c2⟩:=hc _ hL0.bel
          have k1:decide ((k:Int) < (l.length:Int))=true:=decide_eq_true (by omega)
          have k2:(i:Int) < (l.length:Int):=by have:=(List.getElem?_eq_some_iff.1 hi).1;omega
          have k3:(0:Int)≤(i:Int):=by omega
          have HAc:=qh (hL0.act (by omega) ⟨2,o⟩)
          have HM:=qh (hm0.next hL0.right ho)
          unfold Ac.v at HAc
          have HCk:Hid (∀ (W:World) (r2:Int),Live w b r2 (actL L0 ⟨2,o⟩) (l.length+k+1) W→Calls Tryz.prog 28 #[pgv b,.int .i64 r2] W fun e w'=>e=.returned (.int .i64 0)∧Below W.heap.size W w'):=qh (fun W r2 h=>h.check)
          unfold pgv at HCk
          clear hc ho hL0 hm0 HL hi
          cases back with
          | false=>
           obtain rfl:i=k:=hix
           go_wp2_with (first
            | (go_at_call 18;(with_reducible refine HAc.out.mono ?_);rintro e w2 ⟨r2,rfl,h2⟩;have HL2:=qh h2;clear h2)
            | (go_at_call 28;(with_reducible refine (HCk.out _ _ HL2.out).mono ?_);rintro e w3 ⟨rfl,hb⟩;have HL3:=qh (HL2.out.over hb);clear hb))
           go_roundw
           case rel=>exact⟨i+1,r2,by omega,by go_num,rfl,qh ⟨_,HL3.out,HM.out⟩⟩
           case measure=>simp[RowKit.intOf];omega
          | true=>
           replace hix:i=l.length - 1 - k:=hix
           have hw1:IntKind.i64.wrap ((l.length:Int) - 1)=(l.length:Int) - 1:=by rw[IntKind.wrap_i64];omega
           have hw2:IntKind.i64.wrap ((l.length:Int) - 1 - (k:Int))=(i:Int):=by rw[IntKind.wrap_i64];omega
           clear hix
           go_wp2_with (first
            | (go_at_call 18;(with_reducible refine HAc.out.mono ?_);rintro e w2 ⟨r2,rfl,h2⟩;have HL2:=qh h2;clear h2)
            | (go_at_call 28;(with_reducible refine (HCk.out _ _ HL2.out).mono ?_);rintro e w3 ⟨rfl,hb⟩;have HL3:=qh (HL2.out.over hb);clear hb))
           go_roundw
           case rel=>exact⟨k+1,r2,by omega,by go_num,rfl,qh ⟨_,HL3.out,HM.out⟩⟩
           case measure=>simp[RowKit.intOf];omega
         ·obtain rfl:k=l.length:=by omega
          have k1:decide ((l.length:Int) < (l.length:Int))=false:=decide_eq_false (by omega)
          obtain⟨L9,hL9,hm9⟩:=HL.out
          obtain rfl:L9=[]:=by rw[← HMl.out] at hm9;exact hm9.none
          obtain⟨vl,vg,M,D,ids,P,p,q,h1,t,hpq,h4,h5,h6⟩:=hL9
          obtain rfl:r=0:=t.root0.2 rfl
          have hids:ids=[]:=List.eq_nil_of_length_eq_zero (by have:=t.idsl;rw[List.length_nil] at this;omega)
          have HIds:=qh (trIds_any wr b vl vg M h1 (by have:=t.szl;omega) D 0 _ ids t.tree (by have:=t.deep;omega) t.pool.ids_nodup (by rw[hids];simp))
          have hcnt:=t.pool.count
          have hbad:=t.pool.bad
          have htw:=t.pool.twice
          rw[h6,hids] at hcnt
          have hg:M.given.length=M.L.length:=by simpa using hcnt
          have hml:M.L.length≤3000:=t.szl
          rw[hids] at HIds
          obtain⟨n,hn⟩:∃ n,n=M.L.length:=⟨_,rfl⟩
          obtain⟨va,vc,hvl⟩:∃ va vc,vl=.slice va n vc:=by
           obtain⟨a9,c9,e⟩:=h1.slice
           exact⟨a9,c9,by rw[e,← hn]⟩
          obtain⟨ga,gc,hvg⟩:∃ ga gc,vg=.slice ga n gc:=by
           obtain⟨a9,c9,e⟩:=h1.gslice
           exact⟨a9,c9,by rw[e,hg,← hn]⟩
          have HCs:Hid (∀ W,Below wr.heap.size wr W→W.cell? ⟨b,0,none⟩=some (.slice va n vc)∧W.cell? ⟨b,2,none⟩=some (.slice ga n gc)∧W.cell? ⟨b,3,none⟩=some (.bool false)∧W.cell? ⟨b,4,none⟩=some (.bool false)):=qh (fun W hW=>by
           have:=(h1.below hW).cells
           rw[hbad,htw,hvl,hvg] at this
           exact⟨this.1,this.2.2.1,this.2.2.2.1,this.2.2.2.2.1⟩)
          have H5:=qh h5
          unfold pgv at HIds
          clear hn hvl hvg hg hml hcnt hbad htw hids h1 t hpq h4 h5 h6 hm9 HL
          go_upto_region 26 with (go_at_call 20;(with_reducible refine HIds.out.mono ?_);rintro e w2 ⟨v2,rfl,h2,hb⟩;obtain⟨a2,c2,rfl⟩:=row_slice h2;have HB2:=qh hb;clear h2 hb)
          obtain⟨x0,x2,x3,x4⟩:=HCs.out _ HB2.out
          have HB9:=qh (thenBelow H5.out HB2.out)
          go_quiet (fail)
          all_goals
           go_wp2
           go_ret
           exact⟨rfl,HB9.out.trans ((below_drewN_ _ _).mono HB9.out.size)⟩
    ·have i3:decide (0≤x)=false:=decide_eq_false h3
     have i3n:decide (x < 0)=true:=decide_eq_true (by omega)
     by_cases h1:k < l.length
     ·have i1:decide ((k:Int) < (l.length:Int))=true:=decide_eq_true (by omega)
      have i1':decide (k < l.length)=true:=decide_eq_true h1
      go_wp2
      go_ret
      exact⟨rfl,hB.out⟩
     ·obtain rfl:k=l.length:=by omega
      have i1:decide ((l.length:Int) < (l.length:Int))=false:=decide_eq_false (by omega)
      have i1':decide (l.length < l.length)=false:=decide_eq_false h1
      go_wp2
      go_ret
      exact⟨rfl,hB.out⟩
end Go.Proofs.YtjepgclnbbpnaaaGreat.P12
