/-
  Texts of the proofs of SaidDrops12, SaidEmpt12, SaidOlds12.
-/
import Derived.Test.YtjepgclnbbpnaaaGreatMq44
set_option linter.unusedVariables false
set_option linter.unusedSimpArgs false
set_option maxHeartbeats 8000000
set_option maxRecDepth 100000
namespace Go.Proofs.YtjepgclnbbpnaaaGreat.P12
open Go Go.RowKit Go.Lib PK
open P11 (Pg)
open P9 (It ItsIn kb RightI lowK hasK putI dropI)
structure OldS (w0 wM:World) (S:Nat→Prop) (b:Nat) (M1:PM) (ids1:List Int) (k:Nat) (w:World) (vl vg:Value) (M:PM) (D:Nat) (now:Int) (L:List It) (ids P:List Int) (p q:Nat) (mk:List Int):Prop where
 pg:PAt w b vl vg M
 tr:TrS M D now L ids P p q
 cnt:p+q≤k
 ps:∀ j,PS b vl vg j→S j∨wM.heap.size≤j
 fr:P3.Fr S wM w
 bel:Below w0.heap.size w0 w
 old:∀ x,x < M1.next→M.get x=M1.get x
 frE:M.fr=M1.next
 next:M1.next≤M.next
 pool:P=ids1++mk
 mk_:∀ x∈mk,M1.next≤x
def OldsT(w0 wM:World)(S:Nat→Prop)(b:Nat)(M1:PM)(ids1:List Int)(now:Int)(k:Nat)(w:World):Prop:=
 ∃ vl vg M D L ids P p q mk,OldS w0 wM S b M1 ids1 k w vl vg M D now L ids P p q mk
theorem OldsT.bel{w0 wM:World}{S:Nat→Prop}{b:Nat}{M1:PM}{ids1:List Int}{now:Int}{k:Nat}{w:World}(h:OldsT w0 wM S b M1 ids1 now k w):Below w0.heap.size w0 w:=by
 obtain⟨_,_,_,_,_,_,_,_,_,_,h⟩:=h
 exact h.bel
theorem OldsT.act{w0 wM:World}{S:Nat→Prop}{b:Nat}{M1:PM}{ids1:List Int}{now:Int}{k:Nat}{w:World}(h:OldsT w0 wM S b M1 ids1 now k w)(hS:∀ j,S j→w0.heap.size≤j)(hM:w0.heap.size≤wM.heap.size)(hk:k < 250)(o:Ac) :
  Calls Tryz.prog 18 #[.pointer (some ⟨b,0,none⟩),.int .i64 now,o.v] w fun e w'=>∃ r,e=.returned (.int .i64 r)∧OldsT w0 wM S b M1 ids1 r (k+1) w':=by
 obtain⟨vl,vg,M,D,L,ids,P,p,q,mk,h⟩:=h
 refine (act_any w b vl vg M D now L ids P p q h.pg h.tr (by have:=h.cnt;omega) o).mono ?_
 rintro e w' ⟨r,vl',vg',M',D',i,made,p',q',rfl,g1,g2⟩
 have hps:∀ j,PS b vl vg j→w0.heap.size≤j:=fun j hj=>by
  rcases h.ps j hj with h9|h9
  ·exact hS j h9
  ·omega
 refine⟨r,rfl,vl',vg',M',D',_,i,P++made,p',q',mk++made,g2.pg,g2.tr,by have:=h.cnt;omega,fun j hj=>?_,?_,P3.Fr.new h.bel g2.fr hps,fun x hx=>?_,?_,?_,?_,fun x hx=>?_⟩
 ·rcases g2.new j hj with h9|h9
  ·exact h.ps j h9
  ·exact .inr (Nat.le_trans h.fr.size h9)
 ·refine frThen h.fr g2.fr fun j hj ht=>?_
  rcases h.ps j ht with h9|h9
  ·exact h9
  ·omega
 ·have h1:=h.next
  rw[g2.old x (by omega) (.inl (by rw[h.frE];exact hx)),h.old x hx]
 ·rw[g2.frE];exact h.frE
 ·exact Int.le_trans h.next g2.next
 ·rw[h.pool,List.append_assoc]
 ·rcases List.mem_append.1 hx with hx|hx
  ·exact h.mk_ x hx
  ·exact Int.le_trans h.next (g2.made_ x hx).1
theorem OldsT.start{w0 wM w:World}{b:Nat}{vl vg:Value}{M1:PM}{D:Nat}{root:Int}{L:List It}{ids P:List Int}{p q k:Nat}(t:TrS M1 D root L ids P p q)(hk:p+q≤k)(hp:PAt w b vl (.slice none 0 0) M1.mark)(hf:P3.Fr (·=b) wM w)(hb:Below w0.heap.size w0 w) :
  OldsT w0 wM (PS b vl vg) b M1 ids root k w:=
 ⟨_,_,_,_,_,_,_,_,_,[],hp,t.mark,hk,fun j hj=>.inl (by
  rcases hj with h|h|h
  ·exact .inl h
  ·exact .inr (.inl h)
  ·cases h),hf.mono fun _ _ e=>.inl e,hb,fun x _=>PM.mark_get _ x,rfl,Int.le_refl _,(List.append_nil _).symm,fun _ h=>(by cases h)⟩
theorem in_same{w:World}{v:Value}{l:List Int}(h:P7.IL w v l)(x:Int)(n:Nat):Calls Tryz.prog 22 #[v,.int .i64 x] (w.drewN n) fun e w'=>e=.returned (.bool (decide (x∈l)))∧w'=w.drewN n:=
 (P7.in_any (w.drewN n) v l x (h.below (P3.below_drewN w n))).mono fun _ _ ⟨a,b⟩=>⟨a,b.symm⟩
theorem mine_same(w:World)(b:Nat)(vl vg:Value)(M:PM)(id:Int)(h:PAt w b vl vg M)(hid:id≤1000000)(h1:M.fr≤id)(h2:2≤M.fr)(h3:id < M.next) :
  Calls Tryz.prog 23 #[.pointer (some ⟨b,0,none⟩),.int .i64 id] w fun e w'=>e=.returned (.bool true)∧w'=w:=by
 obtain⟨c0,c1,c2,c3,c4,c5⟩:=h.cells
 obtain⟨a,c,rfl⟩:=h.slice
 unfold PM.next at h3
 generalize M.L.length=N at *
 generalize M.fr=F at *
 clear h c2 c3 c4 c5
 have k1:decide (F≤id)=true:=decide_eq_true h1
 have k2:decide ((2:Int)≤id)=true:=decide_eq_true (by omega)
 have hw:IntKind.i64.wrap (id - 2)=id - 2:=by rw[IntKind.wrap_i64];omega
 have k3:decide (id - 2 < (N:Int))=true:=decide_eq_true (by omega)
 clear h1 h2 h3
 go_enter Tryz.func23,Tryz.ntmps23
 go_wp2
 go_ret
 exact⟨rfl,rfl⟩
theorem row_on{S:Nat→Prop}{w w':World}{lo e n m:Nat}{v:Value}{xs:List Value}(h:w.ownsRow lo e n v m xs)(f:P3.Fr S w w')(hS:∀ j,S j→j < lo):w'.ownsRow lo e n v m xs:=
 owns_fr h f fun j hj hs=>by
  have:=(h.lt j hj).1
  have:=hS j hs
  omega
end Go.Proofs.YtjepgclnbbpnaaaGreat.P12
namespace Go.Proofs.YtjepgclnbbpnaaaGreat.P12
open PK (qqA qqB qqC qqD qqE qqF tk tkS dOne qh)
open Go Go.RowKit Go.Lib PK
open P11 (Pg)
open P9 (It ItsIn OwnI kb RightI lowK hasK putI dropI)
open P7 (IL)
theorem olds_walk (w:World) (v:Value) (l:List Ac) (hA:AcsIn w v l) (v':Value) (l':List Ac) (hA':AcsIn w v' l') :
  Calls Tryz.prog 4 #[v,v'] w fun e w'=>e=.returned (.bool true)∧Below w.heap.size w w':=by
 have HAl:=qh (fun w=>alive_any w)
 have HLi:=qh (light12_any w v l hA)
 have HLi':=qh (fun W (hW:Below w.heap.size w W)=>light12_any W v' l' (hA'.below hW))
 obtain⟨a,c,rfl⟩:=hA.slice
 obtain⟨a',c',rfl⟩:=hA'.slice
 have HA:=qh hA
 have HA':=qh hA'
 have hlen:=hA.len
 have hlen':=hA'.len
 clear hA hA'
 obtain⟨n1,hn1⟩:∃ n,n=l.length:=⟨_,rfl⟩
 obtain⟨n2,hn2⟩:∃ n,n=l'.length:=⟨_,rfl⟩
 rw[← hn1] at hlen HLi ⊢
 rw[← hn2] at hlen' HLi' ⊢
 have HN1:=qh hn1
 have HN2:=qh hn2
 clear hn1 hn2
 go_enter Tryz.func4,Tryz.ntmps4
 go_upto_region 1 with fail
 go_cut [40] from 21 to 40 (fun v W=>∃ b,v=.bool b∧Hid (b=false→n1+n2≤250)∧Hid (Below w.heap.size w W))
 case first=>
  by_cases hs:n1≤250∧n2≤250
  ·have hw:IntKind.i64.wrap ((n1:Int)+(n2:Int))=((n1+n2:Nat):Int):=by rw[IntKind.wrap_i64];omega
   obtain⟨d6,hd6⟩:∃ d,d=decide (n1+n2≤250):=⟨_,rfl⟩
   have b6:decide ((250:Int) < ((n1+n2:Nat):Int))=!d6:=by
    rw[hd6]
    by_cases q:n1+n2≤250
    ·rw[decide_eq_true q];exact decide_eq_false (by omega)
    ·rw[decide_eq_false q];exact decide_eq_true (by omega)
   have b6':decide (250 < n1+n2)=!d6:=by
    rw[hd6]
    by_cases q:n1+n2≤250
    ·rw[decide_eq_true q];exact decide_eq_false (by omega)
    ·rw[decide_eq_false q];exact decide_eq_true (by omega)
   have b6'':decide ((250:Int) < (n1:Int)+(n2:Int))=!d6:=by rw[← b6];congr 1
   have H6:Hid (d6=true→n1+n2≤250):=fun h=>by rw[hd6] at h;exact of_decide_eq_true h
   clear hd6
   cases d6
   all_goals
    simp only[Bool.not_true,Bool.not_false] at b6 b6' b6''
    go_wp2_with (first
     | (go_at_call 8;(with_reducible refine HLi.out.mono ?_);rintro e w2 ⟨⟨b1,rfl,h1⟩,hb⟩;have H1:=qh h1;have HB2:=qh hb;clear h1 hb)
     | (go_at_call 8;(with_reducible refine (HLi'.out _ HB2.out).mono ?_);rintro e w3 ⟨⟨b2,rfl,h1⟩,hb⟩;have HB3:=qh (thenBelow HB2.out hb);clear h1 hb)
     | (go_at_call 9;(with_reducible refine (HAl.out _).mono ?_);rintro e w4 ⟨rfl,hb⟩;have HB4:=qh (thenBelow HB3.out hb);clear hb))
   all_goals
    go_meet
    first
     | exact⟨true,rfl,qh (fun h=>by cases h),HB2⟩
     | exact⟨true,rfl,qh (fun h=>by cases h),HB3⟩
     | exact⟨false,rfl,qh (fun _=>H6.out (by trivial)),HB4⟩
  ·by_cases h1:n1≤250
   ·have h2:¬ n2≤250:=fun h2=>hs ⟨h1,h2⟩
    have HF:Hid (∀ W,Below w.heap.size w W→Calls Tryz.prog 8 #[.slice a' n2 c'] W fun e w'=>e=.returned (.bool false)∧Below W.heap.size W w'):=qh (fun W hW=>(HLi'.out W hW).mono fun e w' ⟨⟨b,e1,e2⟩,e3⟩=>⟨by
     cases b with
     | false=>exact e1
     | true=>have:=e2 rfl;have:=HN2.out;omega,e3⟩)
    clear hs h1 h2
    go_wp2_with (first
     | (go_at_call 8;(with_reducible refine HLi.out.mono ?_);rintro e w2 ⟨⟨b1,rfl,h1⟩,hb⟩;have HB2:=qh hb;clear h1 hb)
     | (go_at_call 8;(with_reducible refine (HF.out _ HB2.out).mono ?_);rintro e w3 ⟨rfl,hb⟩;have HB3:=qh (thenBelow HB2.out hb);clear hb))
    all_goals
     go_meet
     first
      | exact⟨true,rfl,qh (fun h=>by cases h),HB2⟩
      | exact⟨true,rfl,qh (fun h=>by cases h),HB3⟩
   ·have HF:Hid (Calls Tryz.prog 8 #[.slice a n1 c] w fun e w'=>e=.returned (.bool false)∧Below w.heap.size w w'):=qh (HLi.out.mono fun e w' ⟨⟨b,e1,e2⟩,e3⟩=>⟨by
     cases b with
     | false=>exact e1
     | true=>have:=e2 rfl;have:=HN1.out;omega,e3⟩)
    clear hs h1
    go_wp2_with (go_at_call 8;(with_reducible refine HF.out.mono ?_);rintro e w2 ⟨rfl,hb⟩;have HB2:=qh hb;clear hb)
    go_meet
    exact⟨true,rfl,qh (fun h=>by cases h),HB2⟩
 case rest =>
  obtain⟨b,rfl,hOk,hB⟩:=hcut
  cases b with
  | true=>
   go_wp2_with (go_at_call 9;(with_reducible refine (HAl.out _).mono ?_);rintro e w5 ⟨rfl,hb⟩;have HB5:=qh (thenBelow hB.out hb);clear hb)
   go_ret
   exact⟨rfl,HB5.out⟩
  | false =>
   have hl250:=hOk.out rfl
   clear HLi HLi' HAl hOk
   go_upto_region 6 with (go_at_call 10;(with_reducible refine (fresh_any _).mono ?_);rintro e w1 ⟨rfl,h1,hb⟩;have HL0:=qh (Live.fresh h1 hB.out.size (thenBelow hB.out hb));clear h1 hb)
   obtain⟨b,hb⟩:∃ b,b=wc.heap.size:=⟨_,rfl⟩
   rw[← hb] at HL0 ⊢
   clear hb hB
   go_loopw [6,7] (fun vr vi wr=>∃ (k:Nat) (r:Int),k≤n1∧vi=.int .i64 k∧vr=.int .i64 r∧Hid (∃ L,Live w b r L k wr)) (fun _ vi _=>n1 - (RowKit.intOf vi).toNat)
   case atStart=>exact⟨0,0,Nat.zero_le _,rfl,rfl,qh ⟨_,HL0.out⟩⟩
   case round =>
    clear HL0
    obtain⟨k,r,hk,rfl,rfl,HL⟩:=hrel
    by_cases hlt:k < n1
    ·obtain⟨o,ho⟩:∃ o,l[k]?=some o:=⟨_,List.getElem?_eq_getElem (by have:=HN1.out;omega)⟩
     have hA:=HA.out
     rw[← HN1.out] at hA
     obtain⟨g,off,rfl,hc⟩:=hA.at_ ho
     obtain⟨L0,hL0⟩:=HL.out
     obtain⟨c0,c1,c2,c3⟩:=hc wr hL0.bel
     have k1:decide ((k:Int) < (n1:Int))=true:=decide_eq_true (by omega)
     have k2:(k:Int) < (n1:Int):=by omega
     have k3:(0:Int)≤(k:Int):=by omega
     have HAc:=qh (hL0.act (by omega) o)
     unfold Ac.v at HAc
     clear hc ho hA hL0 HL
     go_wp2_with (go_at_call 18;(with_reducible refine HAc.out.mono ?_);rintro e w2 ⟨r2,rfl,h2⟩;have HL2:=qh h2;clear h2)
     go_roundw
     case rel=>exact⟨k+1,r2,by omega,by go_num,rfl,qh ⟨_,HL2.out⟩⟩
     case measure=>simp[RowKit.intOf];omega
    ·obtain rfl:k=n1:=by omega
     have k1:decide ((k:Int) < (k:Int))=false:=decide_eq_false (by omega)
     obtain⟨L1,hL1⟩:=HL.out
     obtain⟨vl,vg,M,D,ids,P,p,q,h1,t,hpq,h4,h5,-⟩:=hL1
     have hps:∀ j,PS b vl vg j→j < wr.heap.size:=fun j hj=>by
      obtain⟨cs,t,e9,_⟩:=h1.cells_ hj
      exact lt_of_block e9
     have HIt:=qh (trItems_any wr b vl vg M h1 (by have:=t.szl;omega) D r L1 ids t.tree (by have:=t.deep;omega) t.pool.ids_nodup (by have:=t.idsl;have:=t.llen;omega) (by have:=t.llen;omega) ⟨#[]⟩ 1000 (by omega))
     have e1000:(L1.drop (lowK L1 ⟨#[]⟩)).take (1000:Int).toNat=L1:=fromI_all (l:=L1) (m:=1000) (by have:=t.llen;omega)
     rw[e1000] at HIt
     have HId:Hid (∀ W,Below wr.heap.size wr W→Calls Tryz.prog 20 #[pgv b,.int .i64 r] W fun e w'=>∃ v,e=.returned (.tuple #[v,.int .i64 0])∧w'.ownsRow W.heap.size 3 1 v ids.length ((sortZ ids).map encZ)∧Below W.heap.size W w'):=qh (fun W hW=>trIds_any W b vl vg M (h1.below hW) (by have:=t.szl;omega) D r L1 ids t.tree (by have:=t.deep;omega) t.pool.ids_nodup (by have:=t.idsl;have:=t.llen;omega))
     have HMk:Hid (∀ W,Below wr.heap.size wr W→Calls Tryz.prog 16 #[.pointer (some ⟨b,0,none⟩)] W fun e w'=>e=.returned (.tuple #[])∧PAt w' b vl (.slice none 0 0) M.mark∧P3.Fr (·=b) W w'):=qh (fun W hW=>mark_any W b vl vg M (h1.below hW) (by have:=t.szl;omega))
     have HT:=qh t
     have H4:=qh h4
     have H5:=qh h5
     have HPq:=qh hpq
     have HPs:=qh hps
     unfold pgv at HIt HId
     clear h1 t hpq h4 h5 hps HL hlt hk e1000
     go_upto_region 14 with (first
      | (go_at_call 19;(with_reducible refine HIt.out.mono ?_);rintro e w2 ⟨v2,rfl,h2,hb⟩;have HAll:=qh h2;obtain⟨a2,c2,rfl⟩:=h2.its.slice;have HB2:=qh hb;clear h2 hb)
      | (go_at_call 20;(with_reducible refine (HId.out _ HB2.out).mono ?_);rintro e w3 ⟨v3,rfl,h3,hb⟩;have HOld:=qh h3;obtain⟨a3,c3,rfl⟩:=row_slice h3;have HB3:=qh (thenBelow HB2.out hb);have HAll3:=qh (HAll.out.below hb);clear h3 hb)
      | (go_at_call 16;(with_reducible refine (HMk.out _ HB3.out).mono ?_);rintro e w4 ⟨rfl,h4,hf⟩;have HP4:=qh h4;have HF4:=qh hf;clear h4 hf))
     have hB4:Below w.heap.size w w4:=P3.Fr.new (thenBelow H5.out HB3.out) HF4.out fun j e=>by have e:j=b:=e;rw[e];exact H4.out b (.inl rfl)
     have HS0:Hid (OldsT w w3 (PS b vl vg) b M ids r k w4):=qh (OldsT.start HT.out HPq.out HP4.out HF4.out hB4)
     obtain⟨W0,hW0⟩:∃ W0,W0=wr:=⟨_,rfl⟩
     rw[← hW0] at HPs HAll HAll3 HB2 HB3 H5
     clear hW0
     have hM3:w.heap.size≤w3.heap.size:=(thenBelow H5.out HB3.out).size
     clear hB4 HP4 HF4 k1
     go_loopw [12,13] (fun vr vi wr2=>∃ (k2:Nat) (r2:Int),k2≤n2∧vi=.int .i64 k2∧vr=.int .i64 r2∧Hid (OldsT w w3 (PS b vl vg) b M ids r2 (k+k2) wr2)) (fun _ vi _=>n2 - (RowKit.intOf vi).toNat)
     case atStart=>exact⟨0,r,Nat.zero_le _,rfl,rfl,HS0⟩
     case round=>
      clear HS0
      obtain⟨k2,r2,hk,rfl,rfl,HL⟩:=hrel
      by_cases hlt:k2 < n2
      ·obtain⟨o,ho⟩:∃ o,l'[k2]?=some o:=⟨_,List.getElem?_eq_getElem (by have:=HN2.out;omega)⟩
       have hA:=HA'.out
       rw[← HN2.out] at hA
       obtain⟨g,off,rfl,hc⟩:=hA.at_ ho
       obtain⟨c0,c1,c2,c3⟩:=hc _ HL.out.bel
       have k1:decide ((k2:Int) < (n2:Int))=true:=decide_eq_true (by omega)
       have k3:(k2:Int) < (n2:Int):=by omega
       have k4:(0:Int)≤(k2:Int):=by omega
       have HAc:=qh (HL.out.act H4.out hM3 (by omega) o)
       unfold Ac.v at HAc
       clear hc ho hA
       go_wp2_with (go_at_call 18;(with_reducible refine HAc.out.mono ?_);rintro e w6 ⟨r3,rfl,h2⟩;have HL2:=qh h2;clear h2)
       go_roundw
       case rel=>exact⟨k2+1,r3,by omega,by go_num,rfl,HL2⟩
       case measure=>simp[RowKit.intOf];omega
      ·obtain rfl:k2=n2:=by omega
       have k1:decide ((k2:Int) < (k2:Int))=false:=decide_eq_false (by omega)
       obtain⟨vl2,vg2,M2,D2,L2,ids2,P2,p2,q2,mk,hO⟩:=HL.out
       have hnd:=HT.out.pool.ids_nodup
       have hnd2:=hO.tr.pool.ids_nodup
       have hidl:ids.length≤500:=by have:=HT.out.idsl;have:=HT.out.llen;omega
       have hidl2:ids2.length≤500:=by have:=hO.tr.idsl;have:=hO.tr.llen;omega
       have HItA:=qh (trItems_any wr b vl2 vg2 M2 hO.pg (by have:=hO.tr.szl;omega) D r L1 ids (HT.out.tree.frame fun j hj=>hO.old j (HT.out.pool.ids_rng hj).2) (by have:=HT.out.deep;omega) hnd (by omega) (by have:=HT.out.llen;omega) ⟨#[]⟩ 1000 (by omega))
       have e1000:(L1.drop (lowK L1 ⟨#[]⟩)).take (1000:Int).toNat=L1:=fromI_all (l:=L1) (m:=1000) (by have:=HT.out.llen;omega)
       rw[e1000] at HItA
       have HIdA:Hid (∀ W,Below wr.heap.size wr W→Calls Tryz.prog 20 #[pgv b,.int .i64 r2] W fun e w'=>∃ v,e=.returned (.tuple #[v,.int .i64 0])∧w'.ownsRow W.heap.size 3 1 v ids2.length ((sortZ ids2).map encZ)∧Below W.heap.size W w'):=qh (fun W hW=>trIds_any W b vl2 vg2 M2 (hO.pg.below hW) (by have:=hO.tr.szl;omega) D2 r2 L2 ids2 hO.tr.tree (by have:=hO.tr.deep;omega) hnd2 (by omega))
       have hsm:∀ j,PS b vl vg j→j < W0.heap.size:=HPs.out
       have hAll:ItsIn wr (.slice a2 L1.length c2) L1:=P9.OwnI.its (lo:=W0.heap.size) ⟨row_on HAll3.out.1 hO.fr hsm,HAll3.out.2⟩
       have hOldR:=row_on HOld.out hO.fr fun j hj=>Nat.lt_of_lt_of_le (hsm j hj) HB2.out.size
       obtain⟨n3,hn3⟩:∃ n,n=ids.length:=⟨_,rfl⟩
       obtain⟨Z1,hZ1⟩:∃ Z,Z=sortZ ids:=⟨_,rfl⟩
       have hz1:Z1.length=n3:=by rw[hZ1,hn3];exact sortZ_len ids
       have hILo:IL wr (.slice a3 n3 c3) Z1:=il_row (lo:=w2.heap.size) (by rw[hz1,hZ1,hn3];exact hOldR) (by omega)
       obtain⟨ng,hng⟩:∃ n,n=M2.given.length:=⟨_,rfl⟩
       obtain⟨ga,gc,hvg⟩:∃ ga gc,vg2=.slice ga ng gc:=by
        obtain⟨ga,gc,e⟩:=hO.pg.gslice
        exact⟨ga,gc,by rw[e,hng]⟩
       have hgl:=hO.tr.gvl
       have hng3:ng≤3000:=by rw[hng];exact hgl
       have hILg:IL wr (.slice ga ng gc) M2.given:=by have:=il_row hO.pg.rg (by omega);rwa[hvg] at this
       have HCs:Hid (∀ W,Below wr.heap.size wr W→W.cell? ⟨b,2,none⟩=some (.slice ga ng gc)∧W.cell? ⟨b,3,none⟩=some (.bool false)∧W.cell? ⟨b,4,none⟩=some (.bool false)):=qh (fun W hW=>by
        have:=(hO.pg.below hW).cells
        rw[hO.tr.pool.bad,hO.tr.pool.twice,hvg] at this
        exact⟨this.2.2.1,this.2.2.2.1,this.2.2.2.2.1⟩)
       have hei:∀ x∈Z1,(decide (x∈sortZ ids2))=!(decide (x∈M2.given)):=fun x hx=>by
        have hx1:x∈P2:=by rw[hO.pool];exact List.mem_append_left _ (by rw[hZ1] at hx;exact (List.mergeSort_perm ids _).mem_iff.1 hx)
        have h9:=hO.tr.pool.either hx1
        have h8:x∈sortZ ids2↔x∈ids2:=(List.mergeSort_perm ids2 _).mem_iff
        by_cases hc:x∈M2.given
        ·rw[decide_eq_true hc,decide_eq_false (fun h=>(h9.1 (h8.1 h)) hc)];rfl
        ·rw[decide_eq_false hc,decide_eq_true (h8.2 (h9.2 hc))];rfl
       have hgn:∀ x∈M2.given,decide (x∈sortZ ids2)=false:=fun x hx=>decide_eq_false fun h=>(hO.tr.pool.not_given ((List.mergeSort_perm ids2 _).mem_iff.1 h)) hx
       have hnw:∀ x∈sortZ ids2,x∈Z1∨(M2.fr≤x∧x < M2.next∧x≤1000000):=fun x hx=>by
        have hx2:=(List.mergeSort_perm ids2 _).mem_iff.1 hx
        have hx3:x∈P2:=hO.tr.pool.perm.mem_iff.1 (List.mem_append_right _ hx2)
        rw[hO.pool] at hx3
        rcases List.mem_append.1 hx3 with h9|h9
        ·left
         rw[hZ1]
         exact (List.mergeSort_perm ids _).mem_iff.2 h9
        ·right
         have h8:=(hO.tr.pool.ids_rng hx2).2
         have h7:=hO.tr.szl
         refine⟨by rw[hO.frE];exact hO.mk_ x h9,h8,?_⟩
         unfold PM.next at h8
         omega
       obtain⟨n7,hn7⟩:∃ n,n=ids2.length:=⟨_,rfl⟩
       obtain⟨Z2,hZ2⟩:∃ Z,Z=sortZ ids2:=⟨_,rfl⟩
       have hz2:Z2.length=n7:=by rw[hZ2,hn7];exact sortZ_len ids2
       have hzs:Z2.Pairwise (fun x y=>x < y):=by rw[hZ2];exact sortZ_strict hnd2
       have hfr2:=hO.tr.pool.fr
       have HPg:=qh hO.pg
       have H9:=qh hO.bel
       rw[← hZ2] at hei hgn hnw HIdA
       rw[← hn7] at HIdA hidl2
       rw[← hn3] at hidl
       rw[← hn3]
       have HAl:=qh hAll
       have HILo:=qh hILo
       have HILg:=qh hILg
       have HZ1:=qh hz1
       have HZ2:=qh hz2
       have HZs:=qh hzs
       have HEi:=qh hei
       have HGn:=qh hgn
       have HNw:=qh hnw
       have HNg:=qh hng
       have HF2:=qh hfr2
       unfold pgv at HItA HIdA
       clear hO hnd hnd2 e1000 hsm hAll hOldR hn3 hZ1 hz1 hILo hng hvg hILg hei hgn hnw hn7 hZ2 hz2 hzs hfr2 HL hk hlt HAll HAll3 HOld HPs HB2 HB3 HIt HId HMk hM3
       go_upto_region 19 with (first
        | (go_at_call 19;(with_reducible refine HItA.out.mono ?_);rintro e w5 ⟨v5,rfl,h5,hb⟩;have HAg:=qh h5.its;obtain⟨a5,c5,rfl⟩:=h5.its.slice;have HB5:=qh hb;clear h5 hb)
        | (go_at_call 20;(with_reducible refine (HIdA.out _ HB5.out).mono ?_);rintro e w6 ⟨v6,rfl,h6,hb⟩;obtain⟨a6,c6,rfl⟩:=row_slice h6;have HNew:=qh h6;have HB6:=qh (thenBelow HB5.out hb);have HAg6:=qh (HAg.out.below hb);clear h6 hb))
       obtain⟨x2,x3,x4⟩:=HCs.out _ HB6.out
       have HSm:=qh (P9.same_its w6 _ _ L1 (HAl.out.below HB6.out) HAg6.out)
       obtain⟨N1,hN1⟩:∃ n,n=L1.length:=⟨_,rfl⟩
       rw[← hN1] at HSm ⊢
       clear hN1
       have HN6:Hid (IL w6 (.slice a6 n7 c6) Z2):=qh (il_row (lo:=w5.heap.size) (by rw[HZ2.out];exact HNew.out) (by rw[HZ2.out];omega))
       go_upto_region 22 with (go_at_call 21;(with_reducible refine HSm.out.mono ?_);rintro e w8 ⟨rfl,hb⟩;have HB8:=qh (thenBelow HB6.out hb);have HN8:=qh (HN6.out.below hb);clear hb)
       obtain⟨y2,y3,y4⟩:=HCs.out _ HB8.out
       clear x2 x3 x4 HSm HAg HAg6 HNew HB5 HB6 HItA HIdA HAl
       go_loopw [18] (fun vi wr3=>∃ i:Nat,i≤n3∧vi=.int .i64 i∧Hid (Below w8.heap.size w8 wr3)) (fun vi _=>n3 - (RowKit.intOf vi).toNat)
       case atStart=>exact⟨0,Nat.zero_le _,rfl,Below.refl _ _⟩
       case round=>
        clear y2 y3 y4
        obtain⟨i,hi,rfl,HB⟩:=hrel
        have HBw:=qh (thenBelow HB8.out HB.out)
        obtain⟨y2,y3,y4⟩:=HCs.out _ HBw.out
        by_cases hlt:i < n3
        ·obtain⟨x,hx⟩:∃ x,Z1[i]?=some x:=⟨_,List.getElem?_eq_getElem (by rw[HZ1.out];exact hlt)⟩
         obtain⟨ga',gc',e9,_,_,hil⟩:=HILo.out
         obtain⟨gb,go,hgo,hgb,hgc⟩:=hil (by rw[HZ1.out];omega)
         simp only[Value.slice.injEq] at e9
         obtain⟨e91,-,-⟩:=e9
         rw[hgo] at e91
         subst e91
         have x5:=(HBw.out.cell (p:=⟨gb,go+i,none⟩) hgb).trans (hgc i x hx)
         have k1':decide ((i:Int) < (n3:Int))=true:=decide_eq_true (by omega)
         have k2':(i:Int) < (n3:Int):=by omega
         have k3':(0:Int)≤(i:Int):=by omega
         have he:=HEi.out x (List.mem_of_getElem? hx)
         obtain⟨e1,he1⟩:∃ e1,decide (x∈M2.given)=e1:=⟨_,rfl⟩
         have HI1:=qh (fun n=>in_same (HN8.out.below HB.out) x n)
         have HI2:=qh (fun n=>in_same (HILg.out.below HBw.out) x n)
         rw[he1] at he
         rw[he] at HI1
         rw[he1] at HI2
         clear he he1 hx hgc hil hgo
         cases e1
         all_goals
          go_upto_region 24 with fail
          go_quiet ((first|(go_at_call 22;with_reducible exact Calls.quiet_of_same (HI1.out _))|(go_at_call 22;with_reducible exact Calls.quiet_of_same (HI2.out _))))
          go_wp2
          go_roundw
          case rel=>exact⟨i+1,by omega,by go_num,qh (HB.out.trans ((below_drewN_ _ _).mono HB.out.size))⟩
          case measure=>simp[RowKit.intOf];omega
        ·obtain rfl:i=n3:=by omega
         have k1':decide ((i:Int) < (i:Int))=false:=decide_eq_false (by omega)
         have HB0:=qh HB.out
         clear HB HBw y3 y4
         go_upto_region 27 with fail
         go_loopw [19] (fun vi wr4=>∃ i:Nat,i≤ng∧vi=.int .i64 i∧Hid (Below w8.heap.size w8 wr4)) (fun vi _=>ng - (RowKit.intOf vi).toNat)
         case atStart=>exact⟨0,Nat.zero_le _,rfl,HB0⟩
         case round=>
          clear HB0 y2 k1'
          rename_i wr9
          obtain⟨j,hj,rfl,HB⟩:=hrel
          have HBw:=qh (thenBelow HB8.out HB.out)
          obtain⟨y2,y3,y4⟩:=HCs.out _ HBw.out
          by_cases hlt:j < ng
          ·obtain⟨x,hx⟩:∃ x,M2.given[j]?=some x:=⟨_,List.getElem?_eq_getElem (by have:=HNg.out;omega)⟩
           obtain⟨ga',gc',e9,_,_,hil⟩:=HILg.out
           obtain⟨gb,go,hgo,hgb,hgc⟩:=hil (by have:=HNg.out;omega)
           simp only[Value.slice.injEq] at e9
           obtain⟨e91,-,-⟩:=e9
           rw[hgo] at e91
           subst e91
           have x5:=(HBw.out.cell (p:=⟨gb,go+j,none⟩) hgb).trans (hgc j x hx)
           have k1':decide ((j:Int) < (ng:Int))=true:=decide_eq_true (by omega)
           have k2':(j:Int) < (ng:Int):=by omega
           have k3':(0:Int)≤(j:Int):=by omega
           have he:=HGn.out x (List.mem_of_getElem? hx)
           have HI1:=qh (P7.in_any _ _ _ x (HN8.out.below HB.out))
           rw[he] at HI1
           clear he hx hgc hil hgo
           go_wp2_with (go_at_call 22;(with_reducible refine HI1.out.mono ?_);rintro e w9 ⟨rfl,rfl⟩)
           go_roundw
           case rel=>exact⟨j+1,by omega,by go_num,HB⟩
           case measure=>simp[RowKit.intOf];omega
          ·obtain rfl:j=ng:=by omega
           have k1':decide ((j:Int) < (j:Int))=false:=decide_eq_false (by omega)
           have HB0:=qh HB.out
           clear HB HBw y3 y4
           go_upto_region 32 with fail
           go_loopw [20] (fun vi wr5=>∃ i:Nat,i≤n7∧vi=.int .i64 i∧Hid (Below w8.heap.size w8 wr5)) (fun vi _=>n7 - (RowKit.intOf vi).toNat)
           case atStart=>exact⟨0,Nat.zero_le _,rfl,HB0⟩
           case round=>
            clear HB0 y2 k1'
            obtain⟨m,hm,rfl,HB⟩:=hrel
            have HBw:=qh (thenBelow HB8.out HB.out)
            by_cases hlt:m < n7
            ·obtain⟨x,hx⟩:∃ x,Z2[m]?=some x:=⟨_,List.getElem?_eq_getElem (by rw[HZ2.out];exact hlt)⟩
             obtain⟨ga',gc',e9,_,_,hil⟩:=HN8.out
             obtain⟨gb,go,hgo,hgb,hgc⟩:=hil (by rw[HZ2.out];omega)
             simp only[Value.slice.injEq] at e9
             obtain⟨e91,-,-⟩:=e9
             rw[hgo] at e91
             subst e91
             have x5:=(HB.out.cell (p:=⟨gb,go+m,none⟩) hgb).trans (hgc m x hx)
             have k1':decide ((m:Int) < (n7:Int))=true:=decide_eq_true (by omega)
             have k2':(m:Int) < (n7:Int):=by omega
             have k3':(0:Int)≤(m:Int):=by omega
             have HI1:=qh (fun n=>in_same (HILo.out.below HBw.out) x n)
             have HMi:Hid (x∉Z1→∀ n,Calls Tryz.prog 23 #[.pointer (some ⟨b,0,none⟩),.int .i64 x] (World.drewN wr n) fun e w'=>e=.returned (.bool true)∧w'=World.drewN wr n):=qh (fun hn n=>by
              rcases HNw.out x (List.mem_of_getElem? hx) with h9|⟨h7,h8,h6⟩
              ·exact (hn h9).elim
              ·exact mine_same _ b vl2 vg2 M2 x ((HPg.out.below HBw.out).below (below_drewN_ _ _)) h6 h7 HF2.out h8)
             by_cases h0:m=0
             ·have d0:decide ((0:Int) < (m:Int))=false:=decide_eq_false (by omega)
              have d0':decide (0 < m)=false:=decide_eq_false (by omega)
              clear hgc hil hgo hx
              by_cases hin:x∈Z1
              ·rw[decide_eq_true hin] at HI1
               clear hin h0
               go_upto_region 34 with fail
               go_quiet ((go_at_call 22;with_reducible exact Calls.quiet_of_same (HI1.out _)))
               go_wp2
               go_roundw
               case rel=>exact⟨m+1,by omega,by go_num,qh (HB.out.trans ((below_drewN_ _ _).mono HB.out.size))⟩
               case measure=>simp[RowKit.intOf];omega
              ·rw[decide_eq_false hin] at HI1
               have HMi2:=qh (HMi.out hin)
               clear hin h0
               go_upto_region 34 with fail
               go_quiet ((first|(go_at_call 22;with_reducible exact Calls.quiet_of_same (HI1.out _))|(go_at_call 23;with_reducible exact Calls.quiet_of_same (HMi2.out _))))
               go_wp2
               go_roundw
               case rel=>exact⟨m+1,by omega,by go_num,qh (HB.out.trans ((below_drewN_ _ _).mono HB.out.size))⟩
               case measure=>simp[RowKit.intOf];omega
             ·obtain⟨m',hm'⟩:∃ m',m=m'+1:=⟨m - 1,by omega⟩
              obtain⟨y,hy⟩:∃ y,Z2[m']?=some y:=⟨_,List.getElem?_eq_getElem (by rw[HZ2.out];omega)⟩
              have x6:=(HB.out.cell (p:=⟨gb,go+m',none⟩) hgb).trans (hgc m' y hy)
              have hyx:y < x:=by
               obtain⟨h1,e1⟩:=List.getElem?_eq_some_iff.1 hy
               obtain⟨h2,e2⟩:=List.getElem?_eq_some_iff.1 hx
               have:=List.pairwise_iff_getElem.1 HZs.out m' m h1 h2 (by omega)
               rw[e1,e2] at this
               exact this
              have d0:decide ((0:Int) < (m:Int))=true:=decide_eq_true (by omega)
              have d0':decide (0 < m)=true:=decide_eq_true (by omega)
              have d1:decide (x≤y)=false:=decide_eq_false (by omega)
              have hwm:IntKind.i64.wrap ((m:Int) - 1)=(m':Int):=by rw[IntKind.wrap_i64];omega
              have q2:(m':Int) < (n7:Int):=by omega
              have q3:(0:Int)≤(m':Int):=by omega
              clear hgc hil hgo hx hy hyx hm'
              by_cases hin:x∈Z1
              ·rw[decide_eq_true hin] at HI1
               clear hin h0
               go_upto_region 34 with fail
               go_quiet ((go_at_call 22;with_reducible exact Calls.quiet_of_same (HI1.out _)))
               go_wp2
               go_roundw
               case rel=>exact⟨m+1,by omega,by go_num,qh (HB.out.trans ((below_drewN_ _ _).mono HB.out.size))⟩
               case measure=>simp[RowKit.intOf];omega
              ·rw[decide_eq_false hin] at HI1
               have HMi2:=qh (HMi.out hin)
               clear hin h0
               go_upto_region 34 with fail
               go_quiet ((first|(go_at_call 22;with_reducible exact Calls.quiet_of_same (HI1.out _))|(go_at_call 23;with_reducible exact Calls.quiet_of_same (HMi2.out _))))
               go_wp2
               go_roundw
               case rel=>exact⟨m+1,by omega,by go_num,qh (HB.out.trans ((below_drewN_ _ _).mono HB.out.size))⟩
               case measure=>simp[RowKit.intOf];omega
            ·obtain rfl:m=n7:=by omega
             have k1':decide ((m:Int) < (m:Int))=false:=decide_eq_false (by omega)
             go_wp2
             go_ret
             exact⟨rfl,thenBelow H9.out HBw.out⟩
end Go.Proofs.YtjepgclnbbpnaaaGreat.P12
