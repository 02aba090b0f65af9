/-
  Texts of the proofs of SaidOrd12.
-/
import Derived.Test.YtjepgclnbbpnaaaGreatMs03
import Derived.Test.YtjepgclnbbpnaaaGreatMs07
set_option linter.unusedVariables false
set_option linter.unusedSimpArgs false
set_option maxHeartbeats 8000000
set_option maxRecDepth 100000
namespace Go.Proofs.YtjepgclnbbpnaaaGreat.P10
open PK (qqA qqB qqC qqD qqE qqF tk tkS dOne qh)
open Go Go.RowKit Go.Lib PK
theorem valid_any(w:World)(x:It) :
  Calls Tryz.prog 160 #[x.v] w fun r w'=>r=.returned (.bool x.ok)∧Below w.heap.size w w':=by
 obtain⟨key,page⟩:=x
 by_cases h0:key.size≤32
 ·by_cases h1:2≤page
  ·by_cases h2:page≤3999
   ·have e:It.ok ⟨key,page⟩=true:=decide_eq_true ⟨h0,h1,h2⟩
    rw[e]
    clear e
    have b0x:decide ((key.size:Int)≤32)=true:=decide_eq_true (by omega)
    have b0y:decide (key.size≤32)=true:=decide_eq_true (by omega)
    have b1x:decide ((2:Int)≤page)=true:=decide_eq_true (by omega)
    have b1y:decide (page ≥ (2:Int))=true:=decide_eq_true (by omega)
    have b2x:decide (page < (4000:Int))=true:=decide_eq_true (by omega)
    clear h0 h1 h2
    unfold It.v
    go_enter Tryz.func160,Tryz.ntmps160
    go_wp2
    go_ret
    exact⟨rfl,below_new _ _⟩
   ·have e:It.ok ⟨key,page⟩=false:=decide_eq_false (fun h=>h2 (h.2.2))
    rw[e]
    clear e
    have b0x:decide ((key.size:Int)≤32)=true:=decide_eq_true (by omega)
    have b0y:decide (key.size≤32)=true:=decide_eq_true (by omega)
    have b1x:decide ((2:Int)≤page)=true:=decide_eq_true (by omega)
    have b1y:decide (page ≥ (2:Int))=true:=decide_eq_true (by omega)
    have b2x:decide (page < (4000:Int))=false:=decide_eq_false (by omega)
    clear h0 h1 h2
    unfold It.v
    go_enter Tryz.func160,Tryz.ntmps160
    go_wp2
    go_ret
    exact⟨rfl,below_new _ _⟩
  ·have e:It.ok ⟨key,page⟩=false:=decide_eq_false (fun h=>h1 (h.2.1))
   rw[e]
   clear e
   have b0x:decide ((key.size:Int)≤32)=true:=decide_eq_true (by omega)
   have b0y:decide (key.size≤32)=true:=decide_eq_true (by omega)
   have b1x:decide ((2:Int)≤page)=false:=decide_eq_false (by omega)
   have b1y:decide (page ≥ (2:Int))=false:=decide_eq_false (by omega)
   clear h0 h1
   unfold It.v
   go_enter Tryz.func160,Tryz.ntmps160
   go_wp2
   go_ret
   exact⟨rfl,below_new _ _⟩
 ·have e:It.ok ⟨key,page⟩=false:=decide_eq_false (fun h=>h0 (h.1))
  rw[e]
  clear e
  have b0x:decide ((key.size:Int)≤32)=false:=decide_eq_false (by omega)
  have b0y:decide (key.size≤32)=false:=decide_eq_false (by omega)
  clear h0
  unfold It.v
  go_enter Tryz.func160,Tryz.ntmps160
  go_wp2
  go_ret
  exact⟨rfl,below_new _ _⟩
theorem need_any(w:World)(x:It)(h:x.need≤1000000) :
  Calls Tryz.prog 153 #[x.v] w fun r w'=>r=.returned (.int .i64 (x.need:Nat))∧Below w.heap.size w w':=by
 obtain⟨key,page⟩:=x
 unfold It.need at *
 simp only at h ⊢
 have h1:4+key.size≤1000000:=by omega
 unfold It.v
 go_enter Tryz.func153,Tryz.ntmps153
 go_wp2
 go_ret
 exact⟨by first|rfl|simp,below_new _ _⟩
theorem need_le{l:List It}{i:Nat}{x:It}(h:l[i]?=some x):x.need≤sumI l:=by
 have h1:=sumI_take h
 have h2:=sumI_le (l:=l) (i+1)
 omega
theorem size_any(w:World)(v:Value)(l:List It)(h:ItsIn w v l)(hs:sumI l≤1000000) :
  Calls Tryz.prog 126 #[v] w fun e w'=>e=.returned (.int .i64 ((1+sumI l:Nat):Int))∧Below w.heap.size w w':=by
 obtain⟨a,c,rfl⟩:=h.slice
 have hl:=h.len
 have HA:=qh (fun (i:Nat) (x:It) (hi:l[i]?=some x)=>h.at_ hi)
 have HN:=qh (fun W x hx=>need_any W x hx)
 have HS:=qh hs
 clear h hs
 go_enter Tryz.func126,Tryz.ntmps126
 go_wp2
 go_loopw [3,8] (fun vn vi wr=>∃ i:Nat,i≤l.length∧vn=.int .i64 ((1+sumI (l.take i):Nat):Int)∧vi=.int .i64 i∧Hid (Below w.heap.size w wr)) (fun _ vi _=>l.length - (RowKit.intOf vi).toNat)
 case atStart=>exact⟨0,Nat.zero_le _,rfl,rfl,Below.refl _ _⟩
 case round=>
  obtain⟨i,hi,rfl,rfl,HB⟩:=hrel
  by_cases hlt:i < l.length
  ·obtain⟨x,hx⟩:∃ x,l[i]?=some x:=⟨_,List.getElem?_eq_getElem hlt⟩
   obtain⟨b,off,rfl,hc⟩:=HA.out i x hx
   obtain⟨c0,c1⟩:=hc wr HB.out
   have k1:decide ((i:Int) < (l.length:Int))=true:=decide_eq_true (by omega)
   have k2:(i:Int) < (l.length:Int):=by omega
   have k3:(0:Int)≤(i:Int):=by omega
   have hn1:x.need≤1000000:=Nat.le_trans (need_le hx) HS.out
   have HNx:Hid (∀ W,Calls Tryz.prog 153 #[.agg #[.string x.key,.int .i64 x.page]] W fun r w'=>r=.returned (.int .i64 (x.need:Nat))∧Below W.heap.size W w'):=fun W=>HN.out W x hn1
   have hn:((1+sumI (l.take i):Nat):Int)+(x.need:Int)=((1+sumI (l.take (i+1)):Nat):Int):=by rw[sumI_take hx];omega
   have HNn:=qh hn
   have hb:1+sumI (l.take i)+x.need≤2000000:=by
    have:=sumI_le (l:=l) (i+1)
    rw[sumI_take hx] at this
    have:=HS.out
    omega
   generalize 1+sumI (l.take i)=m at *
   generalize x.need=nd at *
   clear hc hx hn HN
   go_wp2_with (go_at_call 153;(with_reducible refine (HNx.out _).mono ?_);rintro e w2 ⟨rfl,hb2⟩;have HB2:=qh (thenBelow (grow HB.out _) hb2);clear hb2)
   go_roundw
   case rel=>exact⟨i+1,by omega,by first|(rw[← HNn.out];done)|(rw[← HNn.out];go_num),by go_num,HB2⟩
   case measure=>simp[RowKit.intOf];omega
  ·have e:i=l.length:=by omega
   subst e
   have k1:decide ((l.length:Int) < (l.length:Int))=false:=decide_eq_false (by omega)
   rw[List.take_length]
   go_wp2
   go_ret
   exact⟨rfl,HB.out⟩
theorem ordered_any(w:World)(v:Value)(l:List It)(h:ItsIn w v l) :
  Calls Tryz.prog 150 #[v] w fun e w'=>(∃ b,e=.returned (.bool b)∧(b=true↔RightO l))∧Below w.heap.size w w':=by
 obtain⟨a,c,rfl⟩:=h.slice
 have hl:=h.len
 have HA:=qh (fun (i:Nat) (x:It) (hi:l[i]?=some x)=>h.at_ hi)
 have HV:=qh (fun (W:World) (x:It)=>valid_any W x)
 clear h
 go_enter Tryz.func150,Tryz.ntmps150
 go_wp2
 go_loopw [7] (fun vi wr=>∃ i:Nat,i≤l.length∧vi=.int .i64 i∧Hid (RightTo l i)∧Hid (Below w.heap.size w wr)) (fun vi _=>l.length - (RowKit.intOf vi).toNat)
 case atStart=>exact⟨0,Nat.zero_le _,rfl,RightTo.zero l,Below.refl _ _⟩
 case round=>
  obtain⟨i,hi,rfl,HR,HB⟩:=hrel
  by_cases hlt:i < l.length
  ·obtain⟨x,hx⟩:∃ x,l[i]?=some x:=⟨_,List.getElem?_eq_getElem hlt⟩
   obtain⟨b,off,rfl,hc⟩:=HA.out i x hx
   have HX:=qh hx
   obtain⟨c0,c1⟩:=hc wr HB.out
   have HA2:Hid (∀ (j:Nat) (z:It),l[j]?=some z→∃ b' off',some (⟨b,off,none⟩:Addr)=some ⟨b',off',none⟩∧∀ w',Below w.heap.size w w'→w'.cell? ⟨b',off'+j*2,none⟩=some (.string z.key)∧w'.cell? ⟨b',off'+j*2+1,none⟩=some (.int .i64 z.page)):=HA
   have HC:Hid (∀ W,Below (wr.alloc (.cells #[.string x.key,.int .i64 x.page] 106)).heap.size (wr.alloc (.cells #[.string x.key,.int .i64 x.page] 106)) W→W.cell? ⟨wr.heap.size,0,none⟩=some (.string x.key)∧W.cell? ⟨wr.heap.size,1,none⟩=some (.int .i64 x.page)):=fun W hW=>
    ⟨(hW.cell (p:=⟨wr.heap.size,0,none⟩) (by simp)).trans (by rw[cell_at (new_at wr _ _)];rfl),(hW.cell (p:=⟨wr.heap.size,1,none⟩) (by simp)).trans (by rw[cell_at (new_at wr _ _)];rfl)⟩
   have k1:decide ((i:Int) < (l.length:Int))=true:=decide_eq_true (by omega)
   have k2:(i:Int) < (l.length:Int):=by omega
   have k3:(0:Int)≤(i:Int):=by omega
   clear hc hx
   by_cases hok:x.ok=true
   ·have HV1:Hid (∀ W,Calls Tryz.prog 160 #[.agg #[.string x.key,.int .i64 x.page]] W fun r w'=>r=.returned (.bool true)∧Below W.heap.size W w'):=fun W=>by
     have:=HV.out W x
     rwa[hok] at this
    have HOK:=qh hok
    clear hok HA HV
    by_cases h0:i=0
    ·have k4:decide ((0:Int) < (i:Int))=false:=decide_eq_false (by omega)
     have k5:decide (0 < i)=false:=decide_eq_false (by omega)
     have HR1:=qh (HR.out.next HX.out HOK.out (fun m y e=>by omega))
     clear h0 HA2
     go_upto_region 4 with fail
     refine wp_region_held_drew (S:=fun W=>W.cell? ⟨wr.heap.size,0,none⟩=some (.string x.key)∧W.cell? ⟨wr.heap.size,1,none⟩=some (.int .i64 x.page)) (by kernel_rfl) (HC.out _ (Below.refl _ _).drew) (fun hHeld=>?_)
     refine tk 0 ?_
     refine dOne 1 fun K hK=>?_
     go_simp
     go_at_call 160;(with_reducible refine (HV1.out _).mono ?_);rintro e w1 ⟨rfl,hb⟩;have HB0:=qh (thenBelow (a:=wr.alloc (.cells #[.string x.key,.int .i64 x.page] 106)) (Below.refl _ _).drew hb);have HB1:=qh (thenBelow (grow HB.out _) HB0.out);clear hb
     go_wp2_with fail
     refine hK.out _ _ (HC.out _ HB0.out) (fun hHeld=>?_)
     clear hK K
     try simp only[Act.put,qqA,qqB,qqC]
     refine tk 2 ?_
     refine tk 3 ?_
     refine tk 4 ?_
     refine tk 5 ?_
     refine tk 6 ?_
     refine tkS 7 ?_
     refine tkS 8 ?_
     refine tkS 9 ?_
     refine tkS 10 ?_
     refine tkS 11 ?_
     refine tkS 12 ?_
     refine tkS 13 ?_
     refine tkS 14 ?_
     refine tkS 15 ?_
     refine tk 16 ?_
     refine tk 17 ?_
     refine wpAnyH_done (by kernel_rfl) ?_ _
     go_wp2
     go_roundw
     case rel=>exact⟨i+1,by omega,by go_num,HR1,HB1⟩
     case measure=>simp[RowKit.intOf];omega
    ·obtain⟨m,rfl⟩:∃ m,i=m+1:=⟨i - 1,by omega⟩
     obtain⟨y,hy⟩:∃ y,l[m]?=some y:=⟨_,List.getElem?_eq_getElem (by omega)⟩
     have HD:Hid (∀ W,Below (wr.alloc (.cells #[.string x.key,.int .i64 x.page] 106)).heap.size (wr.alloc (.cells #[.string x.key,.int .i64 x.page] 106)) W→W.cell? ⟨b,off+m*2,none⟩=some (.string y.key)∧W.cell? ⟨wr.heap.size,0,none⟩=some (.string x.key)∧W.cell? ⟨wr.heap.size,1,none⟩=some (.int .i64 x.page)):=fun W hW=>by
      obtain⟨b',off',e,hh⟩:=HA2.out m y hy
      simp only[Option.some.injEq,Addr.mk.injEq,and_true] at e
      obtain⟨rfl,rfl⟩:=e
      exact⟨(hh W (thenBelow (grow HB.out _) hW)).1,HC.out W hW⟩
     have k4:decide ((0:Int) < ((m+1:Nat):Int))=true:=decide_eq_true (by omega)
     have k5:decide (0 < m+1)=true:=decide_eq_true (by omega)
     have k6:((m+1:Nat):Int) - 1=(m:Int):=by omega
     have k7:(m:Int)+1 - 1=(m:Int):=by omega
     have k8:(m:Int) < (l.length:Int):=by omega
     have k9:(0:Int)≤(m:Int):=by omega
     have k14:(m:Int)≤9223372036854775806:=by omega
     have k15:m < l.length:=by omega
     have k16:IntKind.i64.wrap (m:Int)=(m:Int):=by rw[IntKind.wrap_i64];omega
     have k10:(m:Int)+1 < (l.length:Int):=by omega
     have k11:(0:Int)≤(m:Int)+1:=by omega
     have k12:decide ((0:Int) < (m:Int)+1)=true:=decide_eq_true (by omega)
     have k13:decide ((m:Int)+1 < (l.length:Int))=true:=decide_eq_true (by omega)
     have HY:=qh hy
     clear h0 hy
     cases hkb:kb y.key x.key with
     | true=>
      have hb1:Op.bytesLess y.key.toList x.key.toList=true:=hkb
      have HR1:=qh (HR.out.next HX.out HOK.out (fun q z e hz=>by
       obtain rfl:m=q:=by omega
       rw[HY.out] at hz
       obtain rfl:y=z:=by simpa using hz
       exact hkb))
      clear hkb HA2
      go_upto_region 4 with fail
      refine wp_region_held_drew (S:=fun W=>W.cell? ⟨b,off+m*2,none⟩=some (.string y.key)∧W.cell? ⟨wr.heap.size,0,none⟩=some (.string x.key)∧W.cell? ⟨wr.heap.size,1,none⟩=some (.int .i64 x.page)) (by kernel_rfl) (HD.out _ (Below.refl _ _).drew) (fun hHeld=>?_)
      refine tk 0 ?_
      refine dOne 1 fun K hK=>?_
      go_simp
      go_at_call 160;(with_reducible refine (HV1.out _).mono ?_);rintro e w1 ⟨rfl,hb⟩;have HB0:=qh (thenBelow (a:=wr.alloc (.cells #[.string x.key,.int .i64 x.page] 106)) (Below.refl _ _).drew hb);have HB1:=qh (thenBelow (grow HB.out _) HB0.out);clear hb
      go_wp2_with fail
      refine hK.out _ _ (HD.out _ HB0.out) (fun hHeld=>?_)
      clear hK K
      try simp only[Act.put,qqA,qqB,qqC]
      refine tk 2 ?_
      refine tk 3 ?_
      refine tk 4 ?_
      refine tk 5 ?_
      refine tk 6 ?_
      refine tk 7 ?_
      refine tk 8 ?_
      refine tk 9 ?_
      refine tk 10 ?_
      refine tk 11 ?_
      refine tk 12 ?_
      refine tk 13 ?_
      refine tk 14 ?_
      refine tk 15 ?_
      refine tk 16 ?_
      refine tk 17 ?_
      refine wpAnyH_done (by kernel_rfl) ?_ _
      go_wp2
      go_roundw
      case rel=>exact⟨m+1+1,by omega,by go_num,HR1,HB1⟩
      case measure=>simp[RowKit.intOf];omega
     | false=>
      have hb1:Op.bytesLess y.key.toList x.key.toList=false:=hkb
      have HNO:=qh (RightO.not_kb HY.out HX.out hkb)
      clear hkb HA2
      go_upto_region 4 with fail
      refine wp_region_held_drew (S:=fun W=>W.cell? ⟨b,off+m*2,none⟩=some (.string y.key)∧W.cell? ⟨wr.heap.size,0,none⟩=some (.string x.key)∧W.cell? ⟨wr.heap.size,1,none⟩=some (.int .i64 x.page)) (by kernel_rfl) (HD.out _ (Below.refl _ _).drew) (fun hHeld=>?_)
      refine tk 0 ?_
      refine dOne 1 fun K hK=>?_
      go_simp
      go_at_call 160;(with_reducible refine (HV1.out _).mono ?_);rintro e w1 ⟨rfl,hb⟩;have HB0:=qh (thenBelow (a:=wr.alloc (.cells #[.string x.key,.int .i64 x.page] 106)) (Below.refl _ _).drew hb);have HB1:=qh (thenBelow (grow HB.out _) HB0.out);clear hb
      go_wp2_with fail
      refine hK.out _ _ (HD.out _ HB0.out) (fun hHeld=>?_)
      clear hK K
      try simp only[Act.put,qqA,qqB,qqC]
      refine tk 2 ?_
      refine tk 3 ?_
      refine tk 4 ?_
      refine tk 5 ?_
      refine tk 6 ?_
      refine tk 7 ?_
      refine tk 8 ?_
      refine tk 9 ?_
      refine tk 10 ?_
      refine tk 11 ?_
      refine tk 12 ?_
      refine tk 13 ?_
      refine tk 14 ?_
      refine tk 15 ?_
      refine tk 16 ?_
      refine tk 17 ?_
      refine wpAnyH_done (by kernel_rfl) ?_ _
      go_wp2
      go_ret
      exact⟨⟨_,rfl,(fun h=>by cases h),fun h=>absurd h HNO.out⟩,HB1.out⟩
   ·have HV1:Hid (∀ W,Calls Tryz.prog 160 #[.agg #[.string x.key,.int .i64 x.page]] W fun r w'=>r=.returned (.bool false)∧Below W.heap.size W w'):=fun W=>by
     have:=HV.out W x
     rwa[Bool.eq_false_iff.2 hok] at this
    have HNO:=qh (RightO.not_ok HX.out (Bool.eq_false_iff.2 hok))
    clear hok HA HA2 HV
    go_upto_region 4 with fail
    refine wp_region_held_drew (S:=fun W=>W.cell? ⟨wr.heap.size,0,none⟩=some (.string x.key)∧W.cell? ⟨wr.heap.size,1,none⟩=some (.int .i64 x.page)) (by kernel_rfl) (HC.out _ (Below.refl _ _).drew) (fun hHeld=>?_)
    refine tk 0 ?_
    refine dOne 1 fun K hK=>?_
    go_simp
    go_at_call 160;(with_reducible refine (HV1.out _).mono ?_);rintro e w1 ⟨rfl,hb⟩;have HB0:=qh (thenBelow (a:=wr.alloc (.cells #[.string x.key,.int .i64 x.page] 106)) (Below.refl _ _).drew hb);have HB1:=qh (thenBelow (grow HB.out _) HB0.out);clear hb
    go_wp2_with fail
    refine hK.out _ _ (HC.out _ HB0.out) (fun hHeld=>?_)
    clear hK K
    try simp only[Act.put,qqA,qqB,qqC]
    refine tk 2 ?_
    refine tk 3 ?_
    refine tkS 4 ?_
    refine tkS 5 ?_
    refine tkS 6 ?_
    refine tkS 7 ?_
    refine tkS 8 ?_
    refine tkS 9 ?_
    refine tkS 10 ?_
    refine tkS 11 ?_
    refine tkS 12 ?_
    refine tkS 13 ?_
    refine tkS 14 ?_
    refine tkS 15 ?_
    refine tkS 16 ?_
    refine tk 17 ?_
    refine wpAnyH_done (by kernel_rfl) ?_ _
    go_wp2
    go_ret
    exact⟨⟨_,rfl,(fun h=>by cases h),fun h=>absurd h HNO.out⟩,HB1.out⟩
  ·have e:i=l.length:=by omega
   subst e
   have k1:decide ((l.length:Int) < (l.length:Int))=false:=decide_eq_false (by omega)
   clear hlt
   go_wp2
   go_ret
   exact⟨⟨_,rfl,(fun _=>HR.out),fun _=>rfl⟩,HB.out⟩
end Go.Proofs.YtjepgclnbbpnaaaGreat.P10
namespace Go.Proofs.YtjepgclnbbpnaaaGreat.P10
open PK (qqA qqB qqC qqD qqE qqF tk tkS dOne qh)
open Go Go.RowKit Go.Lib PK
open P0 (low str str_size low_length size_app text_ext text_app str_list)
open PP (PutIs PutOwn PutNew stepN stepN_fits putByte_any putHalf_any putText_any putEnd_ok Fr)
structure LS (w0:World) (B:Nat) (xs:List UInt8) (w:World):Prop where
 put:PutIs w B xs 0
 lo:w0.heap.size≤B
 below:Below w0.heap.size w0 w
structure LX (w0:World) (B X:Nat) (x:It) (xs:List UInt8) (w:World):Prop where
 s:LS w0 B xs w
 it:w.heap[X]?=some (.cells #[.string x.key,.int .i64 x.page] 106 (0,0))
 ne:X≠B
theorem LS.over{w0 w w':World}{B:Nat}{xs:List UInt8}(h:LS w0 B xs w)(k:Below w.heap.size w w'):LS w0 B xs w':=⟨h.put.below k,h.lo,thenBelow h.below k⟩
theorem LS.item{w0 w:World}{B:Nat}{xs:List UInt8}(h:LS w0 B xs w)(x:It):LX w0 B w.heap.size x xs (w.alloc (.cells #[.string x.key,.int .i64 x.page] 106)):=
 ⟨h.over (below_new _ _),new_at w _ _,by have:=h.put.lt;omega⟩
theorem LX.call{w0 w w':World}{B X:Nat}{x:It}{xs ys:List UInt8}(h:LX w0 B X x xs w)(hp:PutIs w' B ys 0)(hf:Fr B w w'):LX w0 B X x ys w':=
 ⟨⟨hp,h.s.lo,h.s.below.trans (hf.below.mono h.s.lo)⟩,hf.keeps X _ _ _ h.it (by decide) h.ne,h.ne⟩
theorem LX.over{w0 w w':World}{B X:Nat}{x:It}{xs:List UInt8}(h:LX w0 B X x xs w)(k:Below w.heap.size w w'):LX w0 B X x xs w':=
 ⟨h.s.over k,by rw[k.block X (lt_of_block h.it)];exact h.it,h.ne⟩
theorem LX.cells{w0 w:World}{B X:Nat}{x:It}{xs:List UInt8}(h:LX w0 B X x xs w):w.cell? ⟨X,0,none⟩=some (.string x.key)∧w.cell? ⟨X,1,none⟩=some (.int .i64 x.page):=
 ⟨cell_at h.it 0,cell_at h.it 1⟩
theorem ls_start(w0 W:World)(n:Nat)(hn:n < 256)(hb:Below w0.heap.size w0 W) :
  Calls Tryz.prog 147 #[.pointer (some ⟨W.heap.size,0,none⟩),.int .i64 n] (W.alloc (.cells #[.slice none 0 0,.pointer none,.int .i64 0] 191)) fun r w'=>r=.returned (.pointer (some ⟨W.heap.size,0,none⟩))∧LS w0 W.heap.size (low 1 n) w':=by
 refine (putByte_any _ W.heap.size [] n 0 (by omega) (by simp) (.inr ⟨new_at W _ _,rfl⟩)).mono fun r w' ⟨h1,h2,h3⟩=>⟨h1,?_,hb.size,?_⟩
 ·rw[stepN_fits (by omega) (by omega)] at h2
  exact h2
 ·exact (grow hb _).trans (h3.below.mono hb.size)
theorem lx_half{w0 W:World}{B X:Nat}{x:It}{xs:List UInt8}(k:Nat)(hk:k < 4000)(hx:xs.length≤100000)(h:LX w0 B X x xs W) :
  Calls Tryz.prog 151 #[.pointer (some ⟨B,0,none⟩),.int .i64 k] W fun r w'=>r=.returned (.pointer (some ⟨B,0,none⟩))∧LX w0 B X x (xs++low 2 k) w':=by
 refine (putHalf_any W B xs k 0 (by omega) (by omega) h.s.put).mono fun r w' ⟨h1,h2,h3⟩=>⟨h1,?_⟩
 rw[stepN_fits (by omega) (by omega)] at h2
 exact h.call h2 h3
theorem lx_text{w0 W:World}{B X:Nat}{x:It}{xs:List UInt8}(s:ByteArray)(hs:s.size≤65535)(hx:xs.length≤100000)(h:LX w0 B X x xs W) :
  Calls Tryz.prog 148 #[.pointer (some ⟨B,0,none⟩),.string s] W fun r w'=>r=.returned (.pointer (some ⟨B,0,none⟩))∧LX w0 B X x (xs++(low 2 s.size++s.data.toList)) w':=by
 refine (putText_any W B xs 0 s (by omega) h.s.put).mono fun r w' ⟨h1,h2,h3⟩=>⟨h1,?_⟩
 have e:PP.stepT s.data.toList xs 0=(xs++(low 2 s.size++s.data.toList),0):=by
  unfold PP.stepT
  rw[if_pos rfl,P0.text_len,if_pos hs]
 rw[e] at h2
 exact h.call h2 h3
theorem ls_end{w0 W:World}{B:Nat}{s:ByteArray}(h:LS w0 B s.data.toList W) :
  Calls Tryz.prog 149 #[.pointer (some ⟨B,0,none⟩)] W fun r w'=>r=.returned (.tuple #[.string s,.int .i64 0])∧Below w0.heap.size w0 w':=by
 have H:=putEnd_ok W B _ h.put
 rw[show (⟨s.data.toList.toArray⟩:ByteArray)=s from P0.str_eq s] at H
 exact H.mono fun _ _ ⟨a,d⟩=>⟨a,d ▸ h.below⟩
theorem layOn_list{l:List It}{i:Nat}{x:It}(h:l[i]?=some x)(s:ByteArray):(layOn s (l.take (i+1))).data.toList=(layOn s (l.take i)).data.toList++low 2 x.page.toNat++(low 2 x.key.size++x.key.data.toList):=by
 rw[layOn_take h,text_app,text_app,str_list,textB,text_app,str_list]
theorem lay_ok(w:World)(v:Value)(l:List It)(h:ItsIn w v l)(hr:RightI l)(hs:1+sumI l≤232) :
  Calls Tryz.prog 124 #[v] w fun e w'=>e=.returned (.tuple #[.string (layI l),.int .i64 0])∧Below w.heap.size w w':=by
 obtain⟨a,c,rfl⟩:=h.slice
 have hne:=hr.2
 have e1:((l.length:Int) == 0)=false:=beq_eq_false_iff_ne.2 (by omega)
 have e2:(l.length == 0)=false:=beq_eq_false_iff_ne.2 (by omega)
 have hl:=sumI_len l
 have HR:=qh (fun W (hb:Below w.heap.size w W)=>ordered_any W _ l (h.below hb))
 have HZ:=qh (fun W (hb:Below w.heap.size w W)=>size_any W _ l (h.below hb) (by omega))
 have HA:=qh (fun (i:Nat) (x:It) (hi:l[i]?=some x)=>h.at_ hi)
 have HRI:=qh hr
 have HSu:=qh hs
 have HP:Hid (∀ W,Below w.heap.size w W→Calls Tryz.prog 147 #[.pointer (some ⟨W.heap.size,0,none⟩),.int .i64 l.length] (W.alloc (.cells #[.slice none 0 0,.pointer none,.int .i64 0] 191)) fun r w'=>r=.returned (.pointer (some ⟨W.heap.size,0,none⟩))∧LS w W.heap.size (low 1 l.length) w'):=fun W hW=>ls_start w W l.length (by omega) hW
 have HE:=qh (fun (W:World) (B:Nat) (s:ByteArray) (hS:LS w B s.data.toList W)=>ls_end hS)
 have hl2:l.length≤60:=by omega
 have k1:decide ((232:Int) < ((1+sumI l:Nat):Int))=false:=decide_eq_false (by omega)
 have k1':decide ((232:Int) < 1+(sumI l:Int))=false:=decide_eq_false (by omega)
 have k1'':decide (232 < 1+sumI l)=false:=decide_eq_false (by omega)
 clear h hr hs hl
 go_enter Tryz.func124,Tryz.ntmps124
 go_wp2_with (first
  | (go_at_call 150;(with_reducible refine (HR.out _ (Below.refl _ _)).mono ?_);rintro e w1 ⟨⟨bb,rfl,hbb⟩,hb⟩;obtain rfl:bb=true:=hbb.2 HRI.out.1;have HB1:=qh hb;clear hb hbb)
  | (go_at_call 126;(with_reducible refine (HZ.out _ HB1.out).mono ?_);rintro e w2 ⟨rfl,hb⟩;have HB2:=qh (thenBelow HB1.out hb);clear hb)
  | (go_at_call 147;(with_reducible refine (HP.out _ HB2.out).mono ?_);rintro e w3 ⟨rfl,h3⟩;have HS3:=qh h3;clear h3))
 obtain⟨B,hB⟩:∃ B,B=w2.heap.size:=⟨_,rfl⟩
 rw[← hB] at HS3 ⊢
 clear hB HB1 HB2
 go_loopw [25] (fun vi wr=>∃ i:Nat,i≤l.length∧vi=.int .i64 i∧Hid (LS w B (layOn (str (low 1 l.length)) (l.take i)).data.toList wr)) (fun vi _=>l.length - (RowKit.intOf vi).toNat)
 case atStart=>exact⟨0,Nat.zero_le _,rfl,by rw[show (layOn (str (low 1 l.length)) (l.take 0)).data.toList=low 1 l.length from str_list _];exact HS3⟩
 case round=>
  clear HS3
  obtain⟨i,hi,rfl,HS⟩:=hrel
  by_cases hlt:i < l.length
  ·obtain⟨x,hx⟩:∃ x,l[i]?=some x:=⟨_,List.getElem?_eq_getElem hlt⟩
   obtain⟨b,off,rfl,hc⟩:=HA.out i x hx
   obtain⟨c0,c1⟩:=hc wr HS.out.below
   have hok:=HRI.out.1.1 i x hlt hx
   have hsm:=layOn_list hx (str (low 1 l.length))
   have hsz:=layOn_size (str (low 1 l.length)) (l.take i)
   have hle:=sumI_le (l:=l) i
   have hsu:=HSu.out
   rw[str_size,low_length] at hsz
   have hxs:(layOn (str (low 1 l.length)) (l.take i)).data.toList.length≤232:=by rw[P0.text_len];omega
   obtain⟨key,page⟩:=x
   unfold It.ok at hok
   obtain⟨o2,o3,o4⟩:=of_decide_eq_true hok
   simp only at o2 o3 o4
   obtain⟨kn,rfl⟩:=Int.eq_ofNat_of_zero_le (show 0≤page by omega)
   simp only[Int.toNat_natCast] at hsm
   obtain⟨xs,hxe⟩:∃ xs,xs=(layOn (str (low 1 l.length)) (l.take i)).data.toList:=⟨_,rfl⟩
   rw[← hxe] at HS hsm hxs
   have hky:key.data.toList.length=key.size:=P0.text_len key
   have HX0:=qh (HS.out.item ⟨key,kn⟩)
   have HX0d:=qh (HX0.out.over (Below.refl _ _).drew)
   have HM:=qh hsm
   have HK1:Hid (∀ W X,LX w B X ⟨key,kn⟩ xs W→Calls Tryz.prog 151 #[.pointer (some ⟨B,0,none⟩),.int .i64 kn] W fun r w'=>r=.returned (.pointer (some ⟨B,0,none⟩))∧LX w B X ⟨key,kn⟩ (xs++low 2 kn) w'):=fun W X hX=>lx_half kn (by omega) (by omega) hX
   have HK2:Hid (∀ W X,LX w B X ⟨key,kn⟩ (xs++low 2 kn) W→Calls Tryz.prog 148 #[.pointer (some ⟨B,0,none⟩),.string key] W fun r w'=>r=.returned (.pointer (some ⟨B,0,none⟩))∧LX w B X ⟨key,kn⟩ (xs++low 2 kn++(low 2 key.size++key.data.toList)) w'):=fun W X hX=>lx_text key (by omega) (by rw[List.length_append,low_length];omega) hX
   have HCc:Hid (∀ W X ys,LX w B X ⟨key,kn⟩ ys W→W.cell? ⟨X,0,none⟩=some (.string key)∧W.cell? ⟨X,1,none⟩=some (.int .i64 kn)):=fun W X ys hX=>hX.cells
   generalize xs++low 2 kn++(low 2 key.size++key.data.toList)=y2 at *
   generalize xs++low 2 kn=y1 at *
   have k5:decide ((i:Int) < (l.length:Int))=true:=decide_eq_true (by omega)
   have k6:(i:Int) < (l.length:Int):=by omega
   have k7:(0:Int)≤(i:Int):=by omega
   clear hc hx hok hsm hsz HR HZ HA hle hsu o2 o3 o4 hxe hxs hky
   go_upto_region 10 with fail
   go_region_held3 (fun W=>W.cell? ⟨wr.heap.size,0,none⟩=some (.string key)∧W.cell? ⟨wr.heap.size,1,none⟩=some (.int .i64 kn)) (first|exact HCc.out _ _ _ HX0d.out|exact HCc.out _ _ _ HX0.out|exact HCc.out _ _ _ HX1.out|exact HCc.out _ _ _ HX2.out) ((first
    | (go_at_call 151;(with_reducible refine (HK1.out _ _ (by first|exact HX0d.out|exact HX0.out)).mono ?_);rintro e w5 ⟨rfl,h5⟩;have HX1:=qh h5;clear h5)
    | (go_at_call 148;(with_reducible refine (HK2.out _ _ HX1.out).mono ?_);rintro e w6 ⟨rfl,h6⟩;have HX2:=qh h6;clear h6)))
   all_goals
    go_wp2
    go_roundw
    case rel=>exact⟨i+1,by omega,by go_num,by rw[HM.out];exact HX2.out.s⟩
    case measure=>simp[RowKit.intOf];omega
  ·have e:i=l.length:=by omega
   subst e
   have k5:decide ((l.length:Int) < (l.length:Int))=false:=decide_eq_false (by omega)
   have HF:Hid (LS w B (layI l).data.toList wr):=by
    have:=HS.out
    rw[List.take_length] at this
    exact this
   clear HR HZ HA HS
   go_wp2_with (go_at_call 149;(with_reducible refine (HE.out _ _ _ HF.out).mono ?_);rintro e w5 ⟨rfl,hb⟩;have HB5:=qh hb;clear hb)
   go_ret2
   exact⟨rfl,HB5.out⟩
theorem lay_bad(w:World)(v:Value)(l:List It)(h:ItsIn w v l)(hr:¬ RightI l) :
  Calls Tryz.prog 124 #[v] w fun e w'=>e=.returned (.tuple #[.string ⟨#[]⟩,.int .i64 1])∧Below w.heap.size w w':=by
 have HR:=qh (ordered_any w _ l h)
 have hlen:=h.len
 obtain⟨a,c,rfl⟩:=h.slice
 by_cases h0:l.length=0
 ·have e1:((l.length:Int) == 0)=true:=by simp[h0]
  have e2:(l.length == 0)=true:=by simp[h0]
  clear h hr h0
  go_enter Tryz.func124,Tryz.ntmps124
  go_wp2
  go_ret2
  exact⟨rfl,by first|exact Below.refl _ _|exact (Below.refl _ _).drew⟩
 ·have HRI:Hid (¬ RightO l):=fun q=>hr ⟨q,by omega⟩
  have e1:((l.length:Int) == 0)=false:=beq_eq_false_iff_ne.2 (by omega)
  have e2:(l.length == 0)=false:=beq_eq_false_iff_ne.2 h0
  clear h hr h0
  go_enter Tryz.func124,Tryz.ntmps124
  go_wp2_with (go_at_call 150;(with_reducible refine (HR.out).mono ?_);rintro e w1 ⟨⟨bb,rfl,hbb⟩,hb⟩;obtain rfl:bb=false:=(Bool.eq_false_iff.2 fun q=>HRI.out (hbb.1 q));have HB1:=qh hb;clear hb hbb)
  go_ret2
  exact⟨rfl,HB1.out⟩
theorem lay_long(w:World)(v:Value)(l:List It)(h:ItsIn w v l)(hr:RightI l)(hs:232 < 1+sumI l)(hm:sumI l≤1000000) :
  Calls Tryz.prog 124 #[v] w fun e w'=>e=.returned (.tuple #[.string ⟨#[]⟩,.int .i64 2])∧Below w.heap.size w w':=by
 have HR:=qh (ordered_any w _ l h)
 have HZ:=qh (fun W (hb:Below w.heap.size w W)=>size_any W _ l (h.below hb) hm)
 have HRI:=qh hr
 have k1:decide ((232:Int) < ((1+sumI l:Nat):Int))=true:=decide_eq_true (by omega)
 have k1':decide ((232:Int) < 1+(sumI l:Int))=true:=decide_eq_true (by omega)
 have k1'':decide (232 < 1+sumI l)=true:=decide_eq_true (by omega)
 have hne:=hr.2
 have e1:((l.length:Int) == 0)=false:=beq_eq_false_iff_ne.2 (by omega)
 have e2:(l.length == 0)=false:=beq_eq_false_iff_ne.2 (by omega)
 obtain⟨a,c,rfl⟩:=h.slice
 clear h hr hs hm
 go_enter Tryz.func124,Tryz.ntmps124
 go_wp2_with (first
  | (go_at_call 150;(with_reducible refine (HR.out).mono ?_);rintro e w1 ⟨⟨bb,rfl,hbb⟩,hb⟩;obtain rfl:bb=true:=hbb.2 HRI.out.1;have HB1:=qh hb;clear hb hbb)
  | (go_at_call 126;(with_reducible refine (HZ.out _ HB1.out).mono ?_);rintro e w2 ⟨rfl,hb⟩;have HB2:=qh (thenBelow HB1.out hb);clear hb))
 go_ret2
 exact⟨rfl,HB2.out⟩
theorem lay_any(w:World)(v:Value)(l:List It)(h:ItsIn w v l)(hm:sumI l≤1000000) :
  Calls Tryz.prog 124 #[v] w fun e w'=>e=.returned (.tuple #[.string (layR l).1,.int .i64 (layR l).2])∧Below w.heap.size w w':=by
 unfold layR
 by_cases hr:RightI l
 ·rw[if_pos hr]
  by_cases hs:1+sumI l≤232
  ·rw[if_pos hs];exact lay_ok w v l h hr hs
  ·rw[if_neg hs];exact lay_long w v l h hr (by omega) hm
 ·rw[if_neg hr];exact lay_bad w v l h hr
end Go.Proofs.YtjepgclnbbpnaaaGreat.P10
