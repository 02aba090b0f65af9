/-
  Texts of the proofs of SaidOrd12.
-/
import Derived.Test.YtjepgclnbbpnaaaGreatMs47
set_option linter.unusedVariables false
set_option linter.unusedSimpArgs false
set_option maxHeartbeats 8000000
set_option maxRecDepth 100000
namespace Go.Proofs.YtjepgclnbbpnaaaGreat.P12
open PK (qqA qqB qqC qqD qqE qqF tk tkS dOne qh)
open Go Go.RowKit Go.Lib PK
open P11 (Pg)
open P9 (It ItsIn ItsA OwnI kb RightI lowK hasK putI dropI keysI cellsI)
theorem once_step{acc:List It}{x:It}{t:Bool}(h:t=true↔x.ok=false∨x.key∈keysI acc):onceF acc x=if t=true then acc else acc++[x]:=by
 unfold onceF
 cases t with
 | true=>
  rw[if_neg,if_pos rfl]
  rintro ⟨h1,h2⟩
  rcases h.1 rfl with h3|h3
  ·rw[h1] at h3
   cases h3
  ·exact h2 h3
 | false=>
  rw[if_pos,if_neg (by simp)]
  refine⟨?_,fun h2=>?_⟩
  ·cases e:x.ok with
   | true=>rfl
   | false=>cases h.2 (.inl e)
  ·cases h.2 (.inr h2)
theorem once_in{acc:List It}{x y:It}{j:Nat}{t:Bool}(hy:acc[j]?=some y)(h:t=true↔x.ok=false∨x.key∈keysI (acc.take j)):(t || decide (y.key=x.key))=true↔x.ok=false∨x.key∈keysI (acc.take (j+1)):=by
 have e:keysI (acc.take (j+1))=keysI (acc.take j)++[y.key]:=by
  rw[List.take_add_one,hy]
  show List.map _ _=_
  rw[List.map_append]
  rfl
 rw[e,List.mem_append,List.mem_singleton,Bool.or_eq_true,h,decide_eq_true_iff]
 constructor
 ·rintro ((h1|h1)|h1)
  ·exact .inl h1
  ·exact .inr (.inl h1)
  ·exact .inr (.inr h1.symm)
 ·rintro (h1|h1|h1)
  ·exact .inl (.inl h1)
  ·exact .inl (.inr h1)
  ·exact .inr h1.symm
theorem key_ne{a b:ByteArray}(h:a≠b):(a.toList == b.toList)=false:=by
 cases e:(a.toList == b.toList)
 ·rfl
 ·exfalso
  have e2:=eq_of_beq e
  rw[ByteArray.toList_eq,ByteArray.toList_eq] at e2
  exact h (by cases a;cases b;simp only[ByteArray.mk.injEq];exact Array.toList_inj.1 e2)
theorem own_snoc{lo:Nat}{w:World}{v:Value}{l:List It}{x:It}(h:w.ownsRow lo 29 3 v (l.length+1) ((cellsI l).flatten++[.string x.key,.string x.val,.int .i64 x.kind]))(hl:l.length+1≤1000000):OwnI lo w v (l++[x]):=by
 refine⟨?_,by rw[List.length_append,List.length_singleton];exact hl⟩
 rw[List.length_append,List.length_singleton]
 have e:(cellsI (l++[x])).flatten=(cellsI l).flatten++[.string x.key,.string x.val,.int .i64 x.kind]:=by simp[cellsI,P9.It.cells]
 rw[e]
 exact h
theorem turn_in(z:Int)(n:Nat)(h0:0 < n)(hn:n≤80):∃ X:Nat,X < n∧(wrap64 (z.tmod (n:Int)+(n:Int))).tmod (n:Int)=(X:Int):=by
 have hb:-(n:Int) < z.tmod (n:Int)∧z.tmod (n:Int) < (n:Int):=by
  refine⟨?_,Int.tmod_lt_of_pos z (by omega)⟩
  by_cases hz:0≤z
  ·have:=Int.tmod_nonneg (n:Int) hz
   omega
  ·have h1:=Int.tmod_lt_of_pos (-z) (b:=(n:Int)) (by omega)
   rw[Int.neg_tmod] at h1
   omega
 rw[show wrap64 (z.tmod (n:Int)+(n:Int))=z.tmod (n:Int)+(n:Int) by unfold wrap64;omega,Int.tmod_eq_emod_of_nonneg (by omega)]
 have h1:=Int.emod_nonneg (z.tmod (n:Int)+(n:Int)) (show (n:Int)≠0 by omega)
 have h2:=Int.emod_lt_of_pos (z.tmod (n:Int)+(n:Int)) (show (0:Int) < (n:Int) by omega)
 exact⟨((z.tmod (n:Int)+(n:Int)) % (n:Int)).toNat,by omega,by omega⟩
theorem own_news{lo:Nat}{w:World}{g n cap:Nat}{m:List It}(h:OwnI lo w (.slice (some ⟨g,0,none⟩) n cap) m):∀ (j:Nat) (u:Value),(cellsI m).flatten[j]?=some u→w.cell? ((⟨g,0,none⟩:Addr).add j)=some u:=fun j u hu=>by
 obtain rfl:n=m.length:=by
  obtain⟨_,_,e⟩:=h.its.slice
  simp only[Value.slice.injEq] at e
  exact e.2.1
 have hj:j < m.length*3:=by
  have h1:=(List.getElem?_eq_some_iff.1 hu).1
  have h2:=h.1.1
  omega
 have h9:=h.1.cellAt j hj
 rw[hu] at h9
 rw[Go.WideShapes.add_plain,Nat.zero_add]
 exact h9
theorem own_ones(m:List It):∀ u∈(cellsI m).flatten,u.oneCell'=true:=fun u hu=>by
 obtain⟨c,hc,h⟩:=List.mem_flatten.1 hu
 obtain⟨x,_,rfl⟩:=List.mem_map.1 hc
 simp only[P9.It.cells,List.mem_cons,List.not_mem_nil,or_false] at h
 rcases h with rfl|rfl|rfl <;> rfl
theorem own_put{lo:Nat}{w:World}{g n cap:Nat}{m:List It}(h:OwnI lo w (.slice (some ⟨g,0,none⟩) n cap) m)(hn:m.length=n){X:Nat}(hX:X < m.length)(y:It) :
  OwnI lo (w.setCells g (X*3) y.cells) (.slice (some ⟨g,0,none⟩) n cap) (m.set X y)∧P3.Fr (·=g) w (w.setCells g (X*3) y.cells):=by
 subst hn
 obtain⟨a1,a2⟩:=h.1.stored (X*3) (.string y.key)
 obtain⟨b1,b2⟩:=a1.stored (X*3+1) (.string y.val)
 obtain⟨c1,c2⟩:=b1.stored (X*3+2) (.int .i64 y.kind)
 have f:∀ {x z:World},x.grownBy z (some g)→P3.Fr (·=g) x z:=fun k=>⟨k.os,k.tape,k.output,k.size,fun j hj hn=>k.block j hj fun e=>hn (Option.some.inj e)⟩
 refine⟨⟨?_,by rw[List.length_set];exact h.2⟩,((f a2).trans (f b2)).trans (f c2)⟩
 have e:(cellsI (m.set X y)).flatten=(((cellsI m).flatten.set (X*3) (.string y.key)).set (X*3+1) (.string y.val)).set (X*3+2) (.int .i64 y.kind):=by
  show (List.map P9.It.cells (m.set X y)).flatten=_
  rw[List.map_set]
  exact flat_put (n:=3) (fun x hx=>by obtain⟨z,_,rfl⟩:=List.mem_map.1 hx;rfl) (by rw[List.length_map];exact hX) rfl
 rw[e,List.length_set]
 exact c1
theorem own_swap{lo:Nat}{w:World}{g n cap:Nat}{m:List It}(h:OwnI lo w (.slice (some ⟨g,0,none⟩) n cap) m)(hn:m.length=n){X Y:Nat}{x y:It}(hX:m[X]?=some x)(hY:m[Y]?=some y) :
  ∃ m',OwnI lo ((w.setCells g (X*3) y.cells).setCells g (Y*3) x.cells).drew (.slice (some ⟨g,0,none⟩) n cap) m'∧m'.Perm m∧P3.Fr (·=g) w ((w.setCells g (X*3) y.cells).setCells g (Y*3) x.cells).drew:=by
 obtain⟨hx,rfl⟩:=List.getElem?_eq_some_iff.1 hX
 obtain⟨hy,rfl⟩:=List.getElem?_eq_some_iff.1 hY
 obtain⟨h1,h2⟩:=own_put h hn hx m[Y]
 obtain⟨h3,h4⟩:=own_put h1 (by rw[List.length_set];exact hn) (X:=Y) (by rw[List.length_set];exact hy) m[X]
 have hd:=fun (W:World)=>(Below.refl W.heap.size W).drew
 exact⟨_,h3.below (hd _),List.set_set_perm hx hy,(h2.trans h4).trans (P3.Fr.of (hd _))⟩
section
variable {w0:World} {a b:Nat} {ra rb:Int} {La Lb:List It} {ka kb:Nat} {w:World}
theorem Two.grown(h:Two w0 a b ra rb La Lb ka kb w){w':World}{v:Value}{l:List It}(k:OwnI w0.heap.size w v l)(g:w.grownBy w' v.ownBlock):Two w0 a b ra rb La Lb ka kb w':=by
 have f:P3.Fr (fun j=>v.ownBlock=some j) w w':=⟨g.os,g.tape,g.output,g.size,fun j hj hn=>g.block j hj fun e=>hn e.symm⟩
 have hd:∀ {c:Nat} {vl vg:Value} {M:PM},PAt w c vl vg M→∀ j,PS c vl vg j→¬ (v.ownBlock=some j):=fun hp j hj e=>by
  obtain⟨cs,t,e1,h9⟩:=hp.cells_ hj
  rcases k.1.2 with ⟨e2,_⟩|⟨g',cap,cur,rfl,_,hg,_⟩
  ·rw[e2] at e
   cases e
  ·cases e
   rw[hg] at e1
   cases e1
   rcases h9 with h9|h9|h9 <;> exact absurd h9 (by decide)
 obtain⟨vl,vg,vl2,vg2,⟨⟨M,D,ids,P,p,q,h1,t,h3,h5⟩,h6⟩,⟨⟨M2,D2,ids2,P2,p2,q2,k1,t2,k3,k5⟩,k6⟩,h7,h4⟩:=h
 exact⟨vl,vg,vl2,vg2,⟨⟨M,D,ids,P,p,q,h1.fr f (hd h1),t,h3,h5⟩,h6⟩,⟨⟨M2,D2,ids2,P2,p2,q2,k1.fr f (hd k1),t2,k3,k5⟩,k6⟩,h7,P3.Fr.new h4 f fun j hj=>(k.1.lt j hj).1⟩
end
theorem order_walk (w:World) (v:Value) (l:List It) (hIW:ItsA w v l) (vo:Value) (od:List Int) (hOd:P7.IL w vo od) :
  Calls Tryz.prog 6 #[v,vo] w fun e w'=>e=.returned (.bool true)∧Below w.heap.size w w':=by
 obtain⟨hI,-⟩:=hIW
 have HAl:=qh (fun w=>alive_any w)
 have HR:=qh room2_
 have HV:=qh (fun W x=>P9.valid12_any W x)
 obtain⟨i0,hi0,hz0,hz1,hz2⟩:=info_parts infoEItems
 obtain⟨a,c,rfl⟩:=hI.slice
 have HA:=qh (fun (i:Nat) (x:It) (hi:l[i]?=some x)=>hI.at_ hi)
 have hlen:=hI.len
 obtain⟨oa,oc,rfl,_,hol,hoc⟩:=hOd
 have HOC:=qh hoc
 clear hI hoc
 go_enter Tryz.func6,Tryz.ntmps6
 go_upto_region 1 with fail
 go_cut [35] from 24 to 35 (fun v W=>∃ b,v=.bool b∧Hid (b=false→l.length≤80∧od.length≤80)∧Hid (Below w.heap.size w W))
 case first=>
  by_cases h80:l.length≤80
  ·have b6:decide ((80:Int) < (l.length:Int))=false:=decide_eq_false (by omega)
   have b6':decide (80 < l.length)=false:=decide_eq_false (by omega)
   by_cases h81:od.length≤80
   ·have b7:decide ((80:Int) < (od.length:Int))=false:=decide_eq_false (by omega)
    have b7':decide (80 < od.length)=false:=decide_eq_false (by omega)
    go_wp2_with (go_at_call 9;(with_reducible refine (HAl.out _).mono ?_);rintro e w4 ⟨rfl,hb⟩;have HB4:=qh hb;clear hb)
    go_meet
    exact⟨false,rfl,qh (fun _=>⟨h80,h81⟩),HB4⟩
   ·have b7:decide ((80:Int) < (od.length:Int))=true:=decide_eq_true (by omega)
    have b7':decide (80 < od.length)=true:=decide_eq_true (by omega)
    go_wp2
    go_meet
    exact⟨true,rfl,qh (fun h=>by cases h),Below.refl _ _⟩
  ·have b6:decide ((80:Int) < (l.length:Int))=true:=decide_eq_true (by omega)
   have b6':decide (80 < l.length)=true:=decide_eq_true (by omega)
   go_wp2
   go_meet
   exact⟨true,rfl,qh (fun h=>by cases h),Below.refl _ _⟩
 case rest =>
  obtain⟨b,rfl,hOk,hB⟩:=hcut
  cases b with
  | true=>
   go_wp2_with (go_at_call 9;(with_reducible refine (HAl.out _).mono ?_);rintro e w5 ⟨rfl,hb⟩;have HB5:=qh (thenBelow hB.out hb);clear hb)
   go_ret
   exact⟨rfl,HB5.out⟩
  | false =>
   obtain⟨hl80,ho80⟩:=hOk.out rfl
   clear HAl hOk
   go_upto_region 5 with fail
   go_loopw [5,6] (fun vr vi wr=>∃ (k:Nat) (x:Int),k≤l.length∧vi=.int .i64 k∧vr=.int .i64 x∧x≤20000∧Hid (Below w.heap.size w wr)) (fun _ vi _=>l.length - (RowKit.intOf vi).toNat)
   case atStart=>exact⟨0,10000,Nat.zero_le _,rfl,rfl,by decide,hB⟩
   case round =>
    clear hB
    obtain⟨k,x,hk,rfl,rfl,hx,hB⟩:=hrel
    by_cases h3:0≤x
    ·have i3 : decide (0≤x)=true:=decide_eq_true h3
     have i3n:decide (x < 0)=false:=decide_eq_false (by omega)
     by_cases h1:k < l.length
     ·have i1:decide ((k:Int) < (l.length:Int))=true:=decide_eq_true (by omega)
      have i1':decide (k < l.length)=true:=decide_eq_true h1
      obtain⟨o,ho⟩:∃ o,l[k]?=some o:=⟨_,List.getElem?_eq_getElem h1⟩
      obtain⟨b,off,rfl,hcc⟩:=HA.out k o ho
      have HXc:Hid (∀ W,Below w.heap.size w W→W.cell? ⟨b,off+k*3,none⟩=some (.string o.key)∧W.cell? ⟨b,off+k*3+1,none⟩=some (.string o.val)):=fun W hW=>⟨(hcc W hW).1,(hcc W hW).2.1⟩
      have HR2:Hid (∀ W,Below (wr.alloc (.cells #[.int .i64 (o.key.size:Nat),.int .i64 (o.val.size:Nat)] 3)).heap.size (wr.alloc (.cells #[.int .i64 (o.key.size:Nat),.int .i64 (o.val.size:Nat)] 3)) W→Calls Tryz.prog 27 #[.int .i64 x,.slice (some ⟨wr.heap.size,0,none⟩) 2 2] W fun e w'=>
        (∃ q,e=.returned (.int .i64 q)∧q≤20000)∧W=w'):=fun W hW=>HR.out wr W x (o.key.size:Nat) (o.val.size:Nat) hW hx (by omega) (by omega)
      have b0:(0:Int)≤(k:Int):=by omega
      have b1:(k:Int) < (l.length:Int):=by omega
      obtain⟨s,hs⟩:∃ s,s=o.key:=⟨_,rfl⟩
      obtain⟨t,ht⟩:∃ t,t=o.val:=⟨_,rfl⟩
      rw[← hs,← ht] at HR2 HXc
      have HG:=qh (fun (z1 z2:Int)=>grow hB.out (.cells #[.int .i64 z1,.int .i64 z2] 3))
      have HGd:=qh (fun (z1 z2:Int)=>grow (thenBelow hB.out (Below.refl _ _).drew) (.cells #[.int .i64 z1,.int .i64 z2] 3))
      clear hcc ho hs ht HR HA HV HOC hi0 hz0 hz1 hz2
      go_upto_region 7 with fail
      go_region_held3 (fun W=>W.cell? ⟨b,off+k*3,none⟩=some (.string s)∧W.cell? ⟨b,off+k*3+1,none⟩=some (.string t)) (first|exact HXc.out _ (thenBelow hB.out (Below.refl _ _).drew)|exact HXc.out _ hB.out|exact HXc.out _ (HG.out _ _)|exact HXc.out _ (HGd.out _ _)|exact HXc.out _ (thenBelow (HG.out _ _) (Below.refl _ _).drew)) ((first|(go_at_call 27;(with_reducible refine (HR2.out _ (by first|exact (Below.refl _ _).drew|exact Below.refl _ _)).mono ?_);rintro e w2 ⟨⟨q,rfl,hq1⟩,rfl⟩;have HQ1:=qh hq1;clear hq1)))
      all_goals
       go_wp2
       go_roundw
       case rel=>exact⟨k+1,q,by omega,by go_num,rfl,HQ1.out,by first|exact HG.out _ _|exact HGd.out _ _|exact thenBelow (HG.out _ _) (Below.refl _ _).drew⟩
       case measure=>simp[RowKit.intOf];omega
     ·obtain rfl:k=l.length:=by omega
      have i1:decide ((l.length:Int) < (l.length:Int))=false:=decide_eq_false (by omega)
      have i1':decide (l.length < l.length)=false:=decide_eq_false h1
      clear HR h1 hk
      go_upto_region 11 with (first
       | (go_at_call 10;(with_reducible refine (fresh_any wr).mono ?_);rintro e w1 ⟨rfl,h1,hb⟩;have HF1:=qh h1;have HB1:=qh hb;clear h1 hb)
       | (go_at_call 10;(with_reducible refine (fresh_any w1).mono ?_);rintro e w2 ⟨rfl,h1,hb⟩;have HF2:=qh h1;have HB2:=qh hb;clear h1 hb))
      have s0:Hid (Two w wr.heap.size w1.heap.size 0 0 [] [] 0 0 w2):=qh (Two.start (HF1.out.below HB2.out) HF2.out (by
       obtain⟨h9,_⟩:=HF1.out
       have:=lt_of_block h9
       omega) hB.out.size (Nat.le_trans hB.out.size HB1.out.size) (thenBelow (thenBelow hB.out HB1.out) HB2.out))
      obtain⟨p,hp⟩:∃ b,b=wr.heap.size:=⟨_,rfl⟩
      obtain⟨q,hq⟩:∃ b,b=w1.heap.size:=⟨_,rfl⟩
      rw[← hp,← hq] at s0 ⊢
      clear hp hq HF1 HF2 HB1 HB2 hB
      go_upto_region 14 with fail
      go_loopw [11,12] (fun vo vi wr=>∃ (k no co:Nat) (ao:Option Addr),k≤l.length∧vi=.int .i64 k∧vo=.slice ao no co∧no≤80∧Hid (OwnI w.heap.size wr (.slice ao no co) (onceL (l.take k))∧no=(onceL (l.take k)).length)∧Hid (Two w p q 0 0 [] [] 0 0 wr)) (fun _ vi _=>l.length - (RowKit.intOf vi).toNat)
      case atStart=>exact⟨0,0,0,none,Nat.zero_le _,rfl,rfl,Nat.zero_le _,qh ⟨OwnI.nil _ _,rfl⟩,s0⟩
      case round=>
       clear s0 i1 i1'
       obtain⟨k,no,co,ao,hk,rfl,rfl,hno,HO,HT⟩:=hrel
       by_cases hlt:k < l.length
       ·have k1:decide ((k:Int) < (l.length:Int))=true:=decide_eq_true (by omega)
        have k2:(k:Int) < (l.length:Int):=by omega
        have k3:(0:Int)≤(k:Int):=by omega
        obtain⟨o,ho⟩:∃ o,l[k]?=some o:=⟨_,List.getElem?_eq_getElem hlt⟩
        obtain⟨g,off,rfl,hc⟩:=HA.out k o ho
        obtain⟨c0,c1,c2⟩:=hc _ HT.out.bel
        have HC:Hid (∀ W,Below w.heap.size w W→W.cell? ⟨g,off+k*3,none⟩=some (.string o.key)∧W.cell? ⟨g,off+k*3+1,none⟩=some (.string o.val)∧W.cell? ⟨g,off+k*3+2,none⟩=some (.int .i64 o.kind)):=hc
        have HVo:=qh (HV.out wr o)
        unfold P9.It.v at HVo
        have HN:=qh (fun (t:Bool)=>once_step (acc:=onceL (l.take k)) (x:=o) (t:=t))
        have HN2:Hid (onceL (l.take (k+1))=onceF (onceL (l.take k)) o):=qh (onceL_next ho)
        clear hc ho
        go_upto_region 17 with (go_at_call 12;(with_reducible refine HVo.out.mono ?_);rintro e w1 ⟨rfl,hb⟩;have HB1:=qh hb;clear hb)
        clear c0 c1 c2
        have s1:Hid ((!o.ok)=true↔o.ok=false∨o.key∈keysI ((onceL (l.take k)).take 0)):=qh (by cases o.ok <;> simp[keysI])
        have HO1:Hid (OwnI w.heap.size w1 (.slice ao no co) (onceL (l.take k))∧no=(onceL (l.take k)).length):=qh ⟨HO.out.1.below HB1.out,HO.out.2⟩
        have HT1:=qh (HT.out.over HB1.out)
        obtain⟨t0,ht0⟩:∃ t,t=!o.ok:=⟨_,rfl⟩
        rw[← ht0] at s1 ⊢
        clear ht0 HO HT HB1 HVo
        go_upto_region 18 with fail
        go_loopw [13,14] (fun vt vj wr=>∃ (j:Nat) (t:Bool),j≤no∧vj=.int .i64 j∧vt=.bool t∧Hid (t=true↔o.ok=false∨o.key∈keysI ((onceL (l.take k)).take j))∧Hid (Below w1.heap.size w1 wr)) (fun _ vj _=>no - (RowKit.intOf vj).toNat)
        case atStart=>exact⟨0,t0,Nat.zero_le _,rfl,rfl,s1,Below.refl _ _⟩
        case round=>
         clear s1
         obtain⟨j,t,hj,rfl,rfl,HS,HB⟩:=hrel
         by_cases hjl:j < no
         ·have j1:decide ((j:Int) < (no:Int))=true:=decide_eq_true (by omega)
          have j2:(j:Int) < (no:Int):=by omega
          have j3:(0:Int)≤(j:Int):=by omega
          obtain⟨y,hy⟩:∃ y,(onceL (l.take k))[j]?=some y:=⟨_,List.getElem?_eq_getElem (by have:=HO1.out.2;omega)⟩
          obtain⟨g2,off2,rfl,hc2⟩:=HO1.out.1.its.at_ hy
          obtain⟨d0,_,_⟩:=hc2 _ HB.out
          obtain⟨c0,_,_⟩:=HC.out _ (thenBelow HT1.out.bel HB.out)
          have HI:=qh (once_in hy HS.out)
          clear hc2 hy HS
          cases t with
          | true=>
           go_upto_region 20 with fail
           go_quiet (fail)
           all_goals
            go_wp2
            go_roundw
            case rel=>exact⟨j+1,true,by omega,by go_num,rfl,HI.out,thenBelow HB.out (P3.below_drewN _ _)⟩
            case measure=>simp[RowKit.intOf];omega
          | false=>
           by_cases e:y.key=o.key
           ·have e1:(y.key.toList == o.key.toList)=true:=by rw[e];exact beq_self_eq_true _
            have HI2:Hid ((true:Bool)=true↔o.ok=false∨o.key∈keysI ((onceL (l.take k)).take (j+1))):=qh (by have h9:=HI.out;rw[decide_eq_true e] at h9;exact h9)
            clear HI e
            go_upto_region 20 with fail
            go_quiet (fail)
            all_goals
             go_wp2
             go_roundw
             case rel=>exact⟨j+1,true,by omega,by go_num,rfl,HI2.out,thenBelow HB.out (P3.below_drewN _ _)⟩
             case measure=>simp[RowKit.intOf];omega
           ·have e1:(y.key.toList == o.key.toList)=false:=key_ne e
            have HI2:Hid ((false:Bool)=true↔o.ok=false∨o.key∈keysI ((onceL (l.take k)).take (j+1))):=qh (by have h9:=HI.out;rw[decide_eq_false e] at h9;exact h9)
            clear HI e
            go_upto_region 20 with fail
            go_quiet (fail)
            all_goals
             go_wp2
             go_roundw
             case rel=>exact⟨j+1,false,by omega,by go_num,rfl,HI2.out,thenBelow HB.out (P3.below_drewN _ _)⟩
             case measure=>simp[RowKit.intOf];omega
         ·obtain rfl:j=no:=by omega
          have j1:decide ((j:Int) < (j:Int))=false:=decide_eq_false (by omega)
          obtain⟨c0,c1,c2⟩:=HC.out _ (thenBelow HT1.out.bel HB.out)
          have HF:Hid (onceL (l.take (k+1))=if t=true then onceL (l.take k) else onceL (l.take k)++[o]):=qh (by
           have h9:=HS.out
           rw[HO1.out.2,List.take_length] at h9
           rw[HN2.out]
           exact HN.out _ h9)
          clear HS HN HN2
          cases t with
          | true=>
           go_wp2
           go_roundw
           case rel=>exact⟨k+1,j,co,ao,by omega,by go_num,rfl,hno,qh (by
            have h9:=HF.out
            rw[if_pos rfl] at h9
            rw[h9]
            exact⟨HO1.out.1.below HB.out,HO1.out.2⟩),qh (HT1.out.over HB.out)⟩
           case measure=>simp[RowKit.intOf];omega
          | false=>
           have HOw:=qh (HO1.out.1.below HB.out)
           have HTw:=qh (HT1.out.over HB.out)
           have HL:=qh HO1.out.2
           have hF9:Hid (onceL (l.take (k+1))=onceL (l.take k)++[o]):=qh (by have h9:=HF.out;rw[if_neg (by simp)] at h9;exact h9)
           have HK:=qh (once_len (l.take k))
           clear HF HO1 HT1 HB HA
           go_wp2_with (at_builtin;refine wpList_append_own _ rfl _ _ 27 rfl w.heap.size 29 i0 _ 3 40 Tryz.underlying27 hi0 hz0 hz1 hz2 rfl (by decide) _ _ _ rfl (HOw.out.1.alloc _) ⟨wr.heap.size,0,none⟩ 1 1 [.string o.key,.string o.val,.int .i64 o.kind] rfl rfl ?c1 ?c2 ?c3 ?c4 ?c5 ?_)
           case c1=>exact cells_new _ [.string o.key,.string o.val,.int .i64 o.kind] _
           case c2=>intro u hu;simp at hu;rcases hu with rfl|rfl|rfl <;> rfl
           case c3=>have:=HL.out;unfold maxLen;omega
           case c4=>have:=HL.out;omega
           case c5=>have:=HTw.out.bel.size;simp;omega
           intro v' w2 hown hgrow _
           have HT2:=qh ((HTw.out.over (below_new _ (.cells #[.string o.key,.string o.val,.int .i64 o.kind] 29))).grown (HOw.out.below (below_new _ _)) hgrow)
           have HO2:Hid (OwnI w.heap.size w2 v' (onceL (l.take (k+1)))):=qh (by
            rw[hF9.out]
            have h9:=HL.out
            have h8:(onceL (l.take k)).length+1≤1000000:=by omega
            exact own_snoc hown h8)
           have HL2:Hid (j+1=(onceL (l.take (k+1))).length):=qh (by rw[hF9.out,List.length_append,List.length_singleton,← HL.out])
           have hj80:j+1≤80:=by
            have h9:=once_len (l.take (k+1))
            rw[List.length_take] at h9
            have:=HL2.out
            omega
           obtain⟨a',c',hv'⟩:=HO2.out.its.slice
           rw[← HL2.out] at hv'
           subst hv'
           clear hown hgrow HOw HTw HL HK hF9
           go_wp2
           go_roundw
           case rel=>exact⟨k+1,j+1,c',a',by omega,by go_num,rfl,hj80,qh ⟨HO2.out,HL2.out⟩,HT2⟩
           case measure=>simp[RowKit.intOf];omega
       ·obtain rfl:k=l.length:=by omega
        have k1:decide ((l.length:Int) < (l.length:Int))=false:=decide_eq_false (by omega)
        obtain⟨P,hP⟩:∃ P,P=onceL l:=⟨_,rfl⟩
        have HO2:Hid (OwnI w.heap.size wr (.slice ao no co) P):=qh (by have h9:=HO.out.1;rw[List.take_length] at h9;rw[hP];exact h9)
        have HL:Hid (no=P.length):=qh (by have h9:=HO.out.2;rw[List.take_length] at h9;rw[hP];exact h9)
        have HU:Hid (Uniq P):=qh (by rw[hP];exact once_uniq l)
        clear hP HO hlt hk
        clear HV HA
        go_upto_region 23 with fail
        go_cut [15] from 107 to 108 (fun v W=>∃ (am:Option Addr) (cm:Nat),v=.slice am no cm∧Hid (OwnI wr.heap.size W (.slice am no cm) P)∧Hid (Below wr.heap.size wr W))
        case first=>
         cases ao with
         | none=>
          obtain⟨rfl,rfl,hP⟩:no=0∧co=0∧P=[]:=by
           rcases HO2.out.1.2 with ⟨e,_⟩|⟨_,_,_,e,_⟩
           ·simp only[Value.slice.injEq,true_and] at e
            exact⟨e.1,e.2,List.eq_nil_of_length_eq_zero (by rw[← HL.out];exact e.1)⟩
           ·simp only[Value.slice.injEq] at e
            cases e.1
          go_wp2_with (at_builtin;refine wpList_append_own_none rfl _ _ 27 rfl w.heap.size 29 i0 3 Tryz.underlying27 hi0 _ 0 [] rfl (World.ownsRow_nil _ _ _ _) rfl ?_)
          go_meet
          exact⟨none,0,rfl,qh (by rw[hP];exact OwnI.nil _ _),Below.refl _ _⟩
         | some A=>
          obtain⟨g,hg⟩:∃ g,A=⟨g,0,none⟩:=by
           rcases HO2.out.1.2 with ⟨e,_⟩|⟨g,_,_,e,_⟩
           ·simp only[Value.slice.injEq] at e
            cases e.1
           ·simp only[Value.slice.injEq,Option.some.injEq] at e
            exact⟨g,e.1⟩
          subst hg
          go_wp2_with (at_builtin;refine wpList_append_own _ rfl _ _ 27 rfl wr.heap.size 29 i0 _ 3 40 Tryz.underlying27 hi0 hz0 hz1 hz2 rfl (by decide) _ 0 [] rfl (World.ownsRow_nil _ _ _ _) ⟨g,0,none⟩ no co (cellsI P).flatten rfl ?c0 ?c1 ?c2 ?c3 ?c4 (Nat.le_refl _) ?_)
          case c0=>rw[HO2.out.1.1,HL.out]
          case c1=>exact own_news HO2.out
          case c2=>exact own_ones P
          case c3=>unfold maxLen;omega
          case c4=>omega
          intro v' w2 hown hgrow _
          have HB2:Hid (Below wr.heap.size wr w2):=qh ((Below.refl _ wr).grown hgrow (Nat.le_refl _) (fun z hz=>by cases hz))
          have HO3:Hid (OwnI wr.heap.size w2 v' P):=qh (by
           rw[HL.out] at hown
           exact⟨hown,by rw[← HL.out];omega⟩)
          obtain⟨a',c',hv'⟩:=HO3.out.its.slice
          rw[← HL.out] at hv'
          subst hv'
          clear hown hgrow
          go_wp2
          go_meet
          exact⟨a',c',rfl,HO3,HB2⟩
        case rest=>
         obtain⟨am,cm,rfl,HM,HBm⟩:=hcut
         obtain⟨wo,hwo⟩:∃ x,x=wr:=⟨_,rfl⟩
         rw[← hwo] at HO2 HT HM HBm
         clear hwo
         have s2:=HM
         have s3:=HBm
         clear HM HBm
         go_upto_region 25 with fail
         go_loopw [16] (fun vi wv=>∃ (i:Nat) (m:List It),i≤80∧vi=.int .i64 i∧Hid (OwnI wo.heap.size wv (.slice am no cm) m∧m.Perm P)∧Hid (Below wo.heap.size wo wv)) (fun vi _=>od.length - (RowKit.intOf vi).toNat)
         case atStart=>exact⟨0,P,Nat.zero_le _,rfl,qh ⟨s2.out,List.Perm.refl _⟩,s3⟩
         case round=>
          clear s2 s3
          obtain⟨i,m,hi,rfl,HM,HBm⟩:=hrel
          have hw:IntKind.i64.wrap ((i:Int)+1)=(i:Int)+1:=by rw[IntKind.wrap_i64];omega
          by_cases hgo:i+1 < od.length∧0 < no
          ·obtain⟨hi1,hn0⟩:=hgo
           have j1:decide ((i:Int)+1 < (od.length:Int))=true:=decide_eq_true (by omega)
           have j2:decide ((0:Int) < (no:Int))=true:=decide_eq_true (by omega)
           have j2':decide (0 < no)=true:=decide_eq_true hn0
           obtain⟨ob,ooff,rfl,hob,hoc⟩:=HOC.out (by omega)
           obtain⟨z1,hz1'⟩:∃ x,od[i]?=some x:=⟨_,List.getElem?_eq_getElem (by omega)⟩
           obtain⟨z2,hz2'⟩:∃ x,od[i+1]?=some x:=⟨_,List.getElem?_eq_getElem hi1⟩
           have HBw:Hid (Below w.heap.size w wr):=qh (HT.out.bel.trans (HBm.out.mono HT.out.bel.size))
           have d1:wr.cell? ⟨ob,ooff+i,none⟩=some (.int .i64 z1):=(HBw.out.cell (p:=⟨ob,ooff+i,none⟩) hob).trans (hoc i z1 hz1')
           have d2:wr.cell? ⟨ob,ooff+(i+1),none⟩=some (.int .i64 z2):=(HBw.out.cell (p:=⟨ob,ooff+(i+1),none⟩) hob).trans (hoc (i+1) z2 hz2')
           have j3:(0:Int)≤(i:Int):=by omega
           have j4:(i:Int) < (od.length:Int):=by omega
           have j5:(i:Int)+1 < (od.length:Int):=by omega
           have j6:(0:Int)≤(i:Int)+1:=by omega
           have j7:(no:Int)≠0:=by omega
           clear hoc hz1' hz2'
           go_upto_region 27 with fail
           go_quiet (fail)
           go_upto_region 28 with fail
           obtain⟨X,hX,hXe⟩:=turn_in z1 no hn0 hno
           obtain⟨Y,hY,hYe⟩:=turn_in z2 no hn0 hno
           rw[hXe,hYe]
           clear hXe hYe d1 d2 j1 j3 j4 j5 j6
           have hml:m.length=no:=by rw[HM.out.2.length_eq,HL.out]
           obtain⟨g,rfl⟩:∃ g,am=some ⟨g,0,none⟩:=by
            rcases HM.out.1.1.2 with ⟨e,_⟩|⟨g,_,_,e,_⟩
            ·simp only[Value.slice.injEq] at e
             omega
            ·simp only[Value.slice.injEq] at e
             exact⟨g,e.1⟩
           obtain⟨x,hx⟩:∃ x,m[X]?=some x:=⟨_,List.getElem?_eq_getElem (by omega)⟩
           obtain⟨y,hy⟩:∃ y,m[Y]?=some y:=⟨_,List.getElem?_eq_getElem (by omega)⟩
           have HS:=qh (fun nq=>own_swap (HM.out.1.below (P3.below_drewN wr nq)) hml hx hy)
           have hge:wo.heap.size≤g:=(HM.out.1.1.lt g rfl).1
           obtain⟨gx,ox,ex,hcx⟩:=HM.out.1.its.at_ hx
           obtain⟨gy,oy,ey,hcy⟩:=HM.out.1.its.at_ hy
           simp only[Option.some.injEq,Addr.mk.injEq,and_true] at ex ey
           obtain⟨rfl,rfl⟩:=ex
           obtain⟨rfl,rfl⟩:=ey
           obtain⟨x0,x1,x2⟩:=hcx _ (P3.below_drewN wr nq)
           obtain⟨y0,y1,y2⟩:=hcy _ (P3.below_drewN wr nq)
           rw[Nat.zero_add] at x0 x1 x2 y0 y1 y2
           have HFz:Hid (∀ j:Nat,(wr.drewN nq).frozen? ⟨g,j,none⟩=false):=qh (fun j=>by have h9:=(HM.out.1.below (P3.below_drewN wr nq)).1;rw[hml] at h9;exact h9.frozenAt j)
           have fx0:=HFz.out (X*3)
           have fx1:=HFz.out (X*3+1)
           have fx2:=HFz.out (X*3+2)
           have fy0:=HFz.out (Y*3)
           have fy1:=HFz.out (Y*3+1)
           have fy2:=HFz.out (Y*3+2)
           have k1:(0:Int)≤(X:Int):=by omega
           have k2:(X:Int) < (no:Int):=by omega
           have k3:(0:Int)≤(Y:Int):=by omega
           have k4:(Y:Int) < (no:Int):=by omega
           have HW:=qh (HBm.out.trans (b:=wr) (by exact⟨rfl,rfl,rfl,Nat.le_refl _,fun _ _=>rfl⟩))
           have HSn:=qh (HS.out nq)
           obtain⟨W,hW⟩:∃ W,W=wr.drewN nq:=⟨_,rfl⟩
           rw[← hW] at HSn x0 x1 x2 y0 y1 y2 fx0 fx1 fx2 fy0 fy1 fy2 ⊢
           have HB5:Hid (Below wo.heap.size wo W):=qh (HBm.out.trans (by rw[hW];exact (P3.below_drewN wr nq).mono HBm.out.size))
           have HMp:=qh HM.out.2
           clear hW HS HFz hcx hcy HW HM HBw hob
           by_cases hXY:X=Y
           ·subst hXY
            go_region
            obtain rfl:x=y:=by rw[hx] at hy;exact Option.some.inj hy
            obtain⟨m',n1,n2,n3⟩:=HSn.out
            have HB6:Hid (Below wo.heap.size wo ((W.setCells g (X*3) x.cells).setCells g (X*3) x.cells).drew):=qh (P3.Fr.new HB5.out n3 fun j hj=>by rw[hj];exact hge)
            have HO6:=qh n1
            have HP6:Hid (m'.Perm P):=qh (n2.trans HMp.out)
            clear n1 n2 n3 HSn HB5 x0 x1 x2 y0 y1 y2 fx0 fx1 fx2 fy0 fy1 fy2 k3 k4 hx hy
            go_wp2
            go_roundw
            case rel=>exact⟨i+1,m',by omega,by go_num,qh ⟨HO6.out,HP6.out⟩,HB6⟩
            case measure=>simp[RowKit.intOf];omega
           ·have hYX:¬ Y=X:=fun e=>hXY e.symm
            go_region
            obtain⟨m',n1,n2,n3⟩:=HSn.out
            have HB6:Hid (Below wo.heap.size wo ((W.setCells g (X*3) y.cells).setCells g (Y*3) x.cells).drew):=qh (P3.Fr.new HB5.out n3 fun j hj=>by rw[hj];exact hge)
            have HO6:=qh n1
            have HP6:Hid (m'.Perm P):=qh (n2.trans HMp.out)
            clear n1 n2 n3 HSn HB5 x0 x1 x2 y0 y1 y2 fx0 fx1 fx2 fy0 fy1 fy2 k3 k4 hx hy
            go_wp2
            go_roundw
            case rel=>exact⟨i+1,m',by omega,by go_num,qh ⟨HO6.out,HP6.out⟩,HB6⟩
            case measure=>simp[RowKit.intOf];omega
          ·have hml:m.length=no:=by rw[HM.out.2.length_eq,HL.out]
           have HO3:Hid (OwnI w.heap.size wr (.slice ao no co) P):=qh ((HO2.out.below (w':=wo) (Below.refl _ _)).below HBm.out)
           have HM3:Hid (OwnI w.heap.size wr (.slice am no cm) m):=qh (HM.out.1.lo_ HT.out.bel.size)
           have HT3:=qh (HT.out.over HBm.out)
           have HPm:=qh HM.out.2
           have HUm:=qh (HU.out.perm HM.out.2)
           have hHl:Hid (m.length=no∧P.length=no):=qh ⟨hml,HL.out.symm⟩
           have s4:Hid (∃ La Lb ka kb,Two w p q 0 0 La Lb ka kb wr∧ka≤0∧kb≤2*0∧Holds P 0 La∧Holds m 0 Lb):=qh ⟨[],[],0,0,HT3.out,Nat.le_refl _,Nat.le_refl _,Holds.nil _,Holds.nil _⟩
           clear HO2 HT HM HBm HL hml HT3 HOC
           have hst:decide ((i:Int)+1 < (od.length:Int))=false∨(decide ((i:Int)+1 < (od.length:Int))=true∧decide ((0:Int) < (no:Int))=false∧decide (0 < no)=false):=by
            by_cases h1:(i:Int)+1 < (od.length:Int)
            ·exact .inr ⟨decide_eq_true h1,decide_eq_false (by omega),decide_eq_false (by omega)⟩
            ·exact .inl (decide_eq_false h1)
           clear hgo
           rcases hst with j1|⟨j1,j2,j2'⟩
           all_goals
            go_upto_region 30 with fail
            clear j1 hw hi
            go_loopw [9,10,19] (fun va vb vi wr=>∃ (i:Nat) (ra rb:Int),i≤no∧vi=.int .i64 i∧va=.int .i64 ra∧vb=.int .i64 rb∧Hid (∃ La Lb ka kb,Two w p q ra rb La Lb ka kb wr∧ka≤i∧kb≤2*i∧Holds P i La∧Holds m i Lb)∧Hid (OwnI w.heap.size wr (.slice ao no co) P)∧Hid (OwnI w.heap.size wr (.slice am no cm) m)) (fun _ _ vi _=>no - (RowKit.intOf vi).toNat)
            case atStart=>exact⟨0,0,0,Nat.zero_le _,rfl,rfl,rfl,s4,HO3,HM3⟩
            case round=>
             clear s4 HO3 HM3
             obtain⟨i,ra,rb,hi,rfl,rfl,rfl,HL,HO,HM⟩:=hrel
             by_cases hin:i < no
             ·obtain⟨x,hx⟩:∃ x,P[i]?=some x:=⟨_,List.getElem?_eq_getElem (by rw[hHl.out.2];exact hin)⟩
              obtain⟨y,hy⟩:∃ y,m[i]?=some y:=⟨_,List.getElem?_eq_getElem (by rw[hHl.out.1];exact hin)⟩
              obtain⟨La,Lb,ka,kb,hT,h1,h2,h3,h4⟩:=HL.out
              obtain⟨b1,o1,rfl,hc⟩:=HO.out.its.at_ hx
              obtain⟨c0,c1,c2⟩:=hc wr (Below.refl _ _)
              have i1:decide ((i:Int) < (no:Int))=true:=decide_eq_true (by omega)
              have i2:(i:Int) < (no:Int):=by omega
              have i3:(0:Int)≤(i:Int):=by omega
              have HAc:=qh (hT.act (by omega) ⟨1,x⟩)
              unfold Ac.v at HAc
              have HHa:=qh (h3.next HU.out hT.live.right hx)
              have HHb:=qh h4
              have Hka:=qh (show ka+1≤i+1 by omega)
              have Hkb:=qh h2
              have HX:=qh hx
              have HY:=qh hy
              clear hc hx hy hT h1 h2 h3 h4 HL
              go_upto_region 33 with (go_at_call 18;(with_reducible refine HAc.out.mono ?_);rintro e w2 ⟨r2,rfl,h2,h3⟩;have HT2:=qh h2;have HO2:=qh (h3.own HO.out);have HM2:=qh (h3.own HM.out);clear h2 h3)
              clear c0 c1 c2 HAc HO HM
              obtain⟨b2,o2,rfl,hc⟩:=HM2.out.its.at_ HY.out
              obtain⟨c0,c1,c2⟩:=hc w2 (Below.refl _ _)
              have HAc:=qh (HT2.out.swap.act (by have:=Hkb.out;omega) ⟨1,y⟩)
              unfold Ac.v at HAc
              have HHb2:=qh (HHb.out.next HUm.out HT2.out.swap.live.right HY.out)
              clear hc
              go_upto_region 34 with (go_at_call 18;(with_reducible refine HAc.out.mono ?_);rintro e w3 ⟨r3,rfl,h2,h3⟩;have HT3:=qh h2;have HO3:=qh (h3.own HO2.out);have HM3:=qh (h3.own HM2.out);clear h2 h3)
              clear c0 c1 c2 HAc HO2 HM2
              obtain⟨b3,o3,e3,hc⟩:=HM3.out.its.at_ HY.out
              simp only[Option.some.injEq,Addr.mk.injEq,and_true] at e3
              obtain⟨rfl,rfl⟩:=e3
              obtain⟨c0,c1,c2⟩:=hc w3 (Below.refl _ _)
              have HAc:=qh (HT3.out.act (by have:=Hkb.out;omega) ⟨1,y⟩)
              unfold Ac.v at HAc
              have HHb3:=qh (HHb2.out.again HUm.out HT3.out.live.right HY.out)
              clear hc
              go_wp2_with (go_at_call 18;(with_reducible refine HAc.out.mono ?_);rintro e w4 ⟨r4,rfl,h2,h3⟩;have HT4:=qh h2;have HO4:=qh (h3.own HO3.out);have HM4:=qh (h3.own HM3.out);clear h2 h3)
              ·go_roundw
               case rel=>exact⟨i+1,r2,r4,by omega,by go_num,rfl,rfl,qh ⟨_,_,_,_,HT4.out.swap,Hka.out,by have:=Hkb.out;omega,HHa.out,HHb3.out⟩,HO4,HM4⟩
               case measure=>simp[RowKit.intOf];omega
              ·go_roundw
               case rel=>exact⟨i+1,r2,r3,by omega,by go_num,rfl,rfl,qh ⟨_,_,_,_,HT3.out.swap,Hka.out,by have:=Hkb.out;omega,HHa.out,HHb2.out⟩,HO3,HM3⟩
               case measure=>simp[RowKit.intOf];omega
             ·obtain rfl:i=no:=by omega
              have i1:decide ((i:Int) < (i:Int))=false:=decide_eq_false (by omega)
              obtain⟨La,Lb,ka,kb,hT,_,_,h3,h4⟩:=HL.out
              obtain⟨rfl,hLl⟩:La=Lb∧La.length=i:=by
               have e1:La=Lb:=right_ext hT.live.right hT.swap.live.right fun y=>by
                rw[h3 y,h4 y,← hHl.out.2,List.take_length,hHl.out.2,← hHl.out.1,List.take_length]
                exact HPm.out.mem_iff.symm
               refine⟨e1,?_⟩
               rw[← hHl.out.2] at h3
               rw[h3.len HU.out hT.live.right]
               exact hHl.out.2
              have HT:=qh hT
              have HI1:=qh hT.live.items
              have HI2:Hid (∀ W,Below wr.heap.size wr W→Calls Tryz.prog 19 #[pgv q,.int .i64 rb,.string ⟨#[]⟩,.int .i64 1000] W fun e w'=>∃ v,e=.returned (.tuple #[v,.int .i64 0])∧OwnI W.heap.size w' v La∧Below W.heap.size W w'):=qh (fun W hb=>(hT.over hb).swap.live.items)
              have HC1:Hid (∀ W,Below wr.heap.size wr W→Calls Tryz.prog 28 #[pgv p,.int .i64 ra] W fun e w'=>e=.returned (.int .i64 0)∧Below W.heap.size W w'):=qh (fun W hb=>(hT.over hb).live.check)
              have HC2:Hid (∀ W,Below wr.heap.size wr W→Calls Tryz.prog 28 #[pgv q,.int .i64 rb] W fun e w'=>e=.returned (.int .i64 0)∧Below W.heap.size W w'):=qh (fun W hb=>(hT.over hb).swap.live.check)
              unfold pgv at HI1 HI2 HC1 HC2
              have HLl:=qh hLl
              clear hT h3 h4 hLl HL HO HM hin HPm HUm hHl HU
              go_upto_region 37 with (go_at_call 19;(with_reducible refine HI1.out.mono ?_);rintro e w1 ⟨v1,rfl,h1,hb⟩;have HX1:=qh h1;have HB1:=qh hb;clear h1 hb)
              go_upto_region 38 with (go_at_call 19;(with_reducible refine (HI2.out _ HB1.out).mono ?_);rintro e w2 ⟨v2,rfl,h1,hb⟩;have HX2:=qh h1;have HB2:=qh hb;clear h1 hb)
              have HS:=qh (P9.same_its w2 v1 v2 La (HX1.out.its.below HB2.out) HX2.out.its)
              obtain⟨a1,d1,e1⟩:=HX1.out.its.slice
              rw[HLl.out] at e1
              subst e1
              have HB3:=qh (thenBelow HB1.out HB2.out)
              clear HX1 HX2 HB1 HB2
              go_wp2_with (first
               | (go_at_call 21;(with_reducible refine HS.out.mono ?_);rintro e w3 ⟨rfl,hb⟩;have HB4:=qh (thenBelow HB3.out hb);clear hb)
               | (go_at_call 28;(with_reducible refine (HC1.out _ HB4.out).mono ?_);rintro e w4 ⟨rfl,hb⟩;have HB5:=qh (thenBelow HB4.out hb);clear hb)
               | (go_at_call 28;(with_reducible refine (HC2.out _ HB5.out).mono ?_);rintro e w5 ⟨rfl,hb⟩;have HB6:=qh (thenBelow HB5.out hb);clear hb))
              go_ret
              exact⟨rfl,thenBelow HT.out.bel HB6.out⟩
    ·have i3:decide (0≤x)=false:=decide_eq_false h3
     have i3n:decide (x < 0)=true:=decide_eq_true (by omega)
     by_cases h1:k < l.length
     ·have i1:decide ((k:Int) < (l.length:Int))=true:=decide_eq_true (by omega)
      have i1':decide (k < l.length)=true:=decide_eq_true h1
      go_wp2
      go_ret
      exact⟨rfl,hB.out⟩
     ·obtain rfl:k=l.length:=by omega
      have i1:decide ((l.length:Int) < (l.length:Int))=false:=decide_eq_false (by omega)
      have i1':decide (l.length < l.length)=false:=decide_eq_false h1
      go_wp2
      go_ret
      exact⟨rfl,hB.out⟩
end Go.Proofs.YtjepgclnbbpnaaaGreat.P12
