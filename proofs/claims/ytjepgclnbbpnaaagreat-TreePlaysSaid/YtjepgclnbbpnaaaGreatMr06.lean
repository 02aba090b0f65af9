/-
  Texts of the proofs of SaidPlays12.
-/
import Derived.Test.YtjepgclnbbpnaaaGreatMr02
set_option linter.unusedVariables false
set_option linter.unusedSimpArgs false
set_option maxHeartbeats 8000000
set_option maxRecDepth 100000
namespace Go.Proofs.YtjepgclnbbpnaaaGreat.P9
open PK (qqA qqB qqC qqD qqE qqF tk tkS dOne qh)
open Go Go.RowKit Go.Lib PK
theorem valid_any(w:World)(x:It) :
  Calls Tryz.prog 51 #[x.v] w fun r w'=>r=.returned (.bool x.ok)∧Below w.heap.size w w':=by
 obtain⟨key,val,kind⟩:=x
 by_cases hk:kind=0∨kind=1∨kind=2
 ·obtain⟨d0,e0⟩:∃ d,decide (1≤key.size)=d:=⟨_,rfl⟩
  obtain⟨d1,e1⟩:∃ d,decide (key.size≤32)=d:=⟨_,rfl⟩
  obtain⟨d2,e2⟩:∃ d,decide (val.size≤96)=d:=⟨_,rfl⟩
  have e:It.ok ⟨key,val,kind⟩=(d0 && d1 && d2):=by
   subst e0 e1 e2
   unfold It.ok
   rw[Bool.eq_iff_iff]
   simp only[decide_eq_true_eq,Bool.and_eq_true]
   omega
  have b0x:decide ((1:Int)≤(key.size:Int))=d0:=by rw[← e0];exact decide_eq_decide.2 (by omega)
  have b0z:decide (0 < key.size)=d0:=by rw[← e0];exact decide_eq_decide.2 (by omega)
  have b1x:decide ((key.size:Int)≤32)=d1:=by rw[← e1];exact decide_eq_decide.2 (by omega)
  have b2x:decide ((val.size:Int)≤96)=d2:=by rw[← e2];exact decide_eq_decide.2 (by omega)
  rw[e]
  clear e
  rcases hk with rfl|rfl|rfl <;> cases d0 <;> cases d1 <;> cases d2
  all_goals
   unfold It.v
   go_enter Tryz.func51,Tryz.ntmps51
   go_wp2
   go_ret
   exact⟨rfl,below_new _ _⟩
 ·have e:It.ok ⟨key,val,kind⟩=false:=decide_eq_false (fun h=>hk (by simp only at h;omega))
  have k0:(kind == 0)=false:=by simp;omega
  have k1:(kind == 1)=false:=by simp;omega
  have k2:(kind == 2)=false:=by simp;omega
  rw[e]
  clear e hk
  unfold It.v
  go_enter Tryz.func51,Tryz.ntmps51
  go_wp2
  go_ret
  exact⟨rfl,below_new _ _⟩
theorem need_any(w:World)(x:It)(h:x.need≤1000000) :
  Calls Tryz.prog 152 #[x.v] w fun r w'=>r=.returned (.int .i64 (x.need:Nat))∧Below w.heap.size w w':=by
 obtain⟨key,val,kind⟩:=x
 unfold It.need at *
 simp only at h ⊢
 have h1:5+key.size≤1000000:=by omega
 unfold It.v
 go_enter Tryz.func152,Tryz.ntmps152
 go_wp2
 go_ret
 exact⟨by first|rfl|simp,below_new _ _⟩
theorem need_le{l:List It}{i:Nat}{x:It}(h:l[i]?=some x):x.need≤sumI l:=by
 have h1:=sumI_take h
 have h2:=sumI_le (l:=l) (i+1)
 omega
theorem size_any(w:World)(v:Value)(l:List It)(h:ItsIn w v l)(hs:sumI l≤1000000) :
  Calls Tryz.prog 125 #[v] w fun e w'=>e=.returned (.int .i64 ((1+sumI l:Nat):Int))∧Below w.heap.size w w':=by
 obtain⟨a,c,rfl⟩:=h.slice
 have hl:=h.len
 have HA:=qh (fun (i:Nat) (x:It) (hi:l[i]?=some x)=>h.at_ hi)
 have HN:=qh (fun W x hx=>need_any W x hx)
 have HS:=qh hs
 clear h hs
 go_enter Tryz.func125,Tryz.ntmps125
 go_wp2
 go_loopw [3,8] (fun vn vi wr=>∃ i:Nat,i≤l.length∧vn=.int .i64 ((1+sumI (l.take i):Nat):Int)∧vi=.int .i64 i∧Hid (Below w.heap.size w wr)) (fun _ vi _=>l.length - (RowKit.intOf vi).toNat)
 case atStart=>exact⟨0,Nat.zero_le _,rfl,rfl,Below.refl _ _⟩
 case round=>
  obtain⟨i,hi,rfl,rfl,HB⟩:=hrel
  by_cases hlt:i < l.length
  ·obtain⟨x,hx⟩:∃ x,l[i]?=some x:=⟨_,List.getElem?_eq_getElem hlt⟩
   obtain⟨b,off,rfl,hc⟩:=HA.out i x hx
   obtain⟨c0,c1,c2⟩:=hc wr HB.out
   have k1:decide ((i:Int) < (l.length:Int))=true:=decide_eq_true (by omega)
   have k2:(i:Int) < (l.length:Int):=by omega
   have k3:(0:Int)≤(i:Int):=by omega
   have hn1:x.need≤1000000:=Nat.le_trans (need_le hx) HS.out
   have HNx:Hid (∀ W,Calls Tryz.prog 152 #[.agg #[.string x.key,.string x.val,.int .i64 x.kind]] W fun r w'=>r=.returned (.int .i64 (x.need:Nat))∧Below W.heap.size W w'):=fun W=>HN.out W x hn1
   have hn:((1+sumI (l.take i):Nat):Int)+(x.need:Int)=((1+sumI (l.take (i+1)):Nat):Int):=by rw[sumI_take hx];omega
   have HNn:=qh hn
   have hb:1+sumI (l.take i)+x.need≤2000000:=by
    have:=sumI_le (l:=l) (i+1)
    rw[sumI_take hx] at this
    have:=HS.out
    omega
   generalize 1+sumI (l.take i)=m at *
   generalize x.need=nd at *
   clear hc hx hn HN
   go_wp2_with (go_at_call 152;(with_reducible refine (HNx.out _).mono ?_);rintro e w2 ⟨rfl,hb2⟩;have HB2:=qh (thenBelow (grow HB.out _) hb2);clear hb2)
   go_roundw
   case rel=>exact⟨i+1,by omega,by first|(rw[← HNn.out];done)|(rw[← HNn.out];go_num),by go_num,HB2⟩
   case measure=>simp[RowKit.intOf];omega
  ·have e:i=l.length:=by omega
   subst e
   have k1:decide ((l.length:Int) < (l.length:Int))=false:=decide_eq_false (by omega)
   rw[List.take_length]
   go_wp2
   go_ret
   exact⟨rfl,HB.out⟩
theorem ordered_any(w:World)(v:Value)(l:List It)(h:ItsIn w v l) :
  Calls Tryz.prog 146 #[v] w fun e w'=>(∃ b,e=.returned (.bool b)∧(b=true↔RightI l))∧Below w.heap.size w w':=by
 obtain⟨a,c,rfl⟩:=h.slice
 have hl:=h.len
 have HA:=qh (fun (i:Nat) (x:It) (hi:l[i]?=some x)=>h.at_ hi)
 have HV:=qh (fun (W:World) (x:It)=>valid_any W x)
 clear h
 go_enter Tryz.func146,Tryz.ntmps146
 go_wp2
 go_loopw [7] (fun vi wr=>∃ i:Nat,i≤l.length∧vi=.int .i64 i∧Hid (RightTo l i)∧Hid (Below w.heap.size w wr)) (fun vi _=>l.length - (RowKit.intOf vi).toNat)
 case atStart=>exact⟨0,Nat.zero_le _,rfl,RightTo.zero l,Below.refl _ _⟩
 case round=>
  obtain⟨i,hi,rfl,HR,HB⟩:=hrel
  by_cases hlt:i < l.length
  ·obtain⟨x,hx⟩:∃ x,l[i]?=some x:=⟨_,List.getElem?_eq_getElem hlt⟩
   obtain⟨b,off,rfl,hc⟩:=HA.out i x hx
   have HX:=qh hx
   obtain⟨c0,c1,c2⟩:=hc wr HB.out
   have HA2:Hid (∀ (j:Nat) (z:It),l[j]?=some z→∃ b' off',some (⟨b,off,none⟩:Addr)=some ⟨b',off',none⟩∧∀ w',Below w.heap.size w w'→w'.cell? ⟨b',off'+j*3,none⟩=some (.string z.key)∧w'.cell? ⟨b',off'+j*3+1,none⟩=some (.string z.val)∧w'.cell? ⟨b',off'+j*3+2,none⟩=some (.int .i64 z.kind)):=HA
   have HC:Hid (∀ W,Below (wr.alloc (.cells #[.string x.key,.string x.val,.int .i64 x.kind] 29)).heap.size (wr.alloc (.cells #[.string x.key,.string x.val,.int .i64 x.kind] 29)) W→W.cell? ⟨wr.heap.size,0,none⟩=some (.string x.key)∧W.cell? ⟨wr.heap.size,1,none⟩=some (.string x.val)∧W.cell? ⟨wr.heap.size,2,none⟩=some (.int .i64 x.kind)):=fun W hW=>
    ⟨(hW.cell (p:=⟨wr.heap.size,0,none⟩) (by simp)).trans (by rw[cell_at (new_at wr _ _)];rfl),(hW.cell (p:=⟨wr.heap.size,1,none⟩) (by simp)).trans (by rw[cell_at (new_at wr _ _)];rfl),(hW.cell (p:=⟨wr.heap.size,2,none⟩) (by simp)).trans (by rw[cell_at (new_at wr _ _)];rfl)⟩
   have k1:decide ((i:Int) < (l.length:Int))=true:=decide_eq_true (by omega)
   have k2:(i:Int) < (l.length:Int):=by omega
   have k3:(0:Int)≤(i:Int):=by omega
   clear hc hx
   by_cases hok:x.ok=true
   ·have HV1:Hid (∀ W,Calls Tryz.prog 51 #[.agg #[.string x.key,.string x.val,.int .i64 x.kind]] W fun r w'=>r=.returned (.bool true)∧Below W.heap.size W w'):=fun W=>by
     have:=HV.out W x
     rwa[hok] at this
    have HOK:=qh hok
    clear hok HA HV
    by_cases h0:i=0
    ·have k4:decide ((0:Int) < (i:Int))=false:=decide_eq_false (by omega)
     have k5:decide (0 < i)=false:=decide_eq_false (by omega)
     have HR1:=qh (HR.out.next HX.out HOK.out (fun m y e=>by omega))
     clear h0 HA2
     go_upto_region 4 with fail
     refine wp_region_held_drew (S:=fun W=>W.cell? ⟨wr.heap.size,0,none⟩=some (.string x.key)∧W.cell? ⟨wr.heap.size,1,none⟩=some (.string x.val)∧W.cell? ⟨wr.heap.size,2,none⟩=some (.int .i64 x.kind)) (by kernel_rfl) (HC.out _ (Below.refl _ _).drew) (fun hHeld=>?_)
     refine tk 0 ?_
     refine dOne 1 fun K hK=>?_
     go_simp
     go_at_call 51;(with_reducible refine (HV1.out _).mono ?_);rintro e w1 ⟨rfl,hb⟩;have HB0:=qh (thenBelow (a:=wr.alloc (.cells #[.string x.key,.string x.val,.int .i64 x.kind] 29)) (Below.refl _ _).drew hb);have HB1:=qh (thenBelow (grow HB.out _) HB0.out);clear hb
     go_wp2_with fail
     refine hK.out _ _ (HC.out _ HB0.out) (fun hHeld=>?_)
     clear hK K
     try simp only[Act.put,qqA,qqB,qqC]
     refine tk 2 ?_
     refine tk 3 ?_
     refine tk 4 ?_
     refine tk 5 ?_
     refine tk 6 ?_
     refine tkS 7 ?_
     refine tkS 8 ?_
     refine tkS 9 ?_
     refine tkS 10 ?_
     refine tkS 11 ?_
     refine tkS 12 ?_
     refine tkS 13 ?_
     refine tkS 14 ?_
     refine tkS 15 ?_
     refine tk 16 ?_
     refine tk 17 ?_
     refine wpAnyH_done (by kernel_rfl) ?_ _
     go_wp2
     go_roundw
     case rel=>exact⟨i+1,by omega,by go_num,HR1,HB1⟩
     case measure=>simp[RowKit.intOf];omega
    ·obtain⟨m,rfl⟩:∃ m,i=m+1:=⟨i - 1,by omega⟩
     obtain⟨y,hy⟩:∃ y,l[m]?=some y:=⟨_,List.getElem?_eq_getElem (by omega)⟩
     have HD:Hid (∀ W,Below (wr.alloc (.cells #[.string x.key,.string x.val,.int .i64 x.kind] 29)).heap.size (wr.alloc (.cells #[.string x.key,.string x.val,.int .i64 x.kind] 29)) W→W.cell? ⟨b,off+m*3,none⟩=some (.string y.key)∧W.cell? ⟨wr.heap.size,0,none⟩=some (.string x.key)∧W.cell? ⟨wr.heap.size,1,none⟩=some (.string x.val)∧W.cell? ⟨wr.heap.size,2,none⟩=some (.int .i64 x.kind)):=fun W hW=>by
      obtain⟨b',off',e,hh⟩:=HA2.out m y hy
      simp only[Option.some.injEq,Addr.mk.injEq,and_true] at e
      obtain⟨rfl,rfl⟩:=e
      exact⟨(hh W (thenBelow (grow HB.out _) hW)).1,HC.out W hW⟩
     have k4:decide ((0:Int) < ((m+1:Nat):Int))=true:=decide_eq_true (by omega)
     have k5:decide (0 < m+1)=true:=decide_eq_true (by omega)
     have k6:((m+1:Nat):Int) - 1=(m:Int):=by omega
     have k7:(m:Int)+1 - 1=(m:Int):=by omega
     have k8:(m:Int) < (l.length:Int):=by omega
     have k9:(0:Int)≤(m:Int):=by omega
     have k14:(m:Int)≤9223372036854775806:=by omega
     have k15:m < l.length:=by omega
     have k16:IntKind.i64.wrap (m:Int)=(m:Int):=by rw[IntKind.wrap_i64];omega
     have k10:(m:Int)+1 < (l.length:Int):=by omega
     have k11:(0:Int)≤(m:Int)+1:=by omega
     have k12:decide ((0:Int) < (m:Int)+1)=true:=decide_eq_true (by omega)
     have k13:decide ((m:Int)+1 < (l.length:Int))=true:=decide_eq_true (by omega)
     have HY:=qh hy
     clear h0 hy
     cases hkb:kb y.key x.key with
     | true=>
      have hb1:Op.bytesLess y.key.toList x.key.toList=true:=hkb
      have HR1:=qh (HR.out.next HX.out HOK.out (fun q z e hz=>by
       obtain rfl:m=q:=by omega
       rw[HY.out] at hz
       obtain rfl:y=z:=by simpa using hz
       exact hkb))
      clear hkb HA2
      go_upto_region 4 with fail
      refine wp_region_held_drew (S:=fun W=>W.cell? ⟨b,off+m*3,none⟩=some (.string y.key)∧W.cell? ⟨wr.heap.size,0,none⟩=some (.string x.key)∧W.cell? ⟨wr.heap.size,1,none⟩=some (.string x.val)∧W.cell? ⟨wr.heap.size,2,none⟩=some (.int .i64 x.kind)) (by kernel_rfl) (HD.out _ (Below.refl _ _).drew) (fun hHeld=>?_)
      refine tk 0 ?_
      refine dOne 1 fun K hK=>?_
      go_simp
      go_at_call 51;(with_reducible refine (HV1.out _).mono ?_);rintro e w1 ⟨rfl,hb⟩;have HB0:=qh (thenBelow (a:=wr.alloc (.cells #[.string x.key,.string x.val,.int .i64 x.kind] 29)) (Below.refl _ _).drew hb);have HB1:=qh (thenBelow (grow HB.out _) HB0.out);clear hb
      go_wp2_with fail
      refine hK.out _ _ (HD.out _ HB0.out) (fun hHeld=>?_)
      clear hK K
      try simp only[Act.put,qqA,qqB,qqC]
      refine tk 2 ?_
      refine tk 3 ?_
      refine tk 4 ?_
      refine tk 5 ?_
      refine tk 6 ?_
      refine tk 7 ?_
      refine tk 8 ?_
      refine tk 9 ?_
      refine tk 10 ?_
      refine tk 11 ?_
      refine tk 12 ?_
      refine tk 13 ?_
      refine tk 14 ?_
      refine tk 15 ?_
      refine tk 16 ?_
      refine tk 17 ?_
      refine wpAnyH_done (by kernel_rfl) ?_ _
      go_wp2
      go_roundw
      case rel=>exact⟨m+1+1,by omega,by go_num,HR1,HB1⟩
      case measure=>simp[RowKit.intOf];omega
     | false=>
      have hb1:Op.bytesLess y.key.toList x.key.toList=false:=hkb
      have HNO:=qh (RightI.not_kb HY.out HX.out hkb)
      clear hkb HA2
      go_upto_region 4 with fail
      refine wp_region_held_drew (S:=fun W=>W.cell? ⟨b,off+m*3,none⟩=some (.string y.key)∧W.cell? ⟨wr.heap.size,0,none⟩=some (.string x.key)∧W.cell? ⟨wr.heap.size,1,none⟩=some (.string x.val)∧W.cell? ⟨wr.heap.size,2,none⟩=some (.int .i64 x.kind)) (by kernel_rfl) (HD.out _ (Below.refl _ _).drew) (fun hHeld=>?_)
      refine tk 0 ?_
      refine dOne 1 fun K hK=>?_
      go_simp
      go_at_call 51;(with_reducible refine (HV1.out _).mono ?_);rintro e w1 ⟨rfl,hb⟩;have HB0:=qh (thenBelow (a:=wr.alloc (.cells #[.string x.key,.string x.val,.int .i64 x.kind] 29)) (Below.refl _ _).drew hb);have HB1:=qh (thenBelow (grow HB.out _) HB0.out);clear hb
      go_wp2_with fail
      refine hK.out _ _ (HD.out _ HB0.out) (fun hHeld=>?_)
      clear hK K
      try simp only[Act.put,qqA,qqB,qqC]
      refine tk 2 ?_
      refine tk 3 ?_
      refine tk 4 ?_
      refine tk 5 ?_
      refine tk 6 ?_
      refine tk 7 ?_
      refine tk 8 ?_
      refine tk 9 ?_
      refine tk 10 ?_
      refine tk 11 ?_
      refine tk 12 ?_
      refine tk 13 ?_
      refine tk 14 ?_
      refine tk 15 ?_
      refine tk 16 ?_
      refine tk 17 ?_
      refine wpAnyH_done (by kernel_rfl) ?_ _
      go_wp2
      go_ret
      exact⟨⟨_,rfl,(fun h=>by cases h),fun h=>absurd h HNO.out⟩,HB1.out⟩
   ·have HV1:Hid (∀ W,Calls Tryz.prog 51 #[.agg #[.string x.key,.string x.val,.int .i64 x.kind]] W fun r w'=>r=.returned (.bool false)∧Below W.heap.size W w'):=fun W=>by
     have:=HV.out W x
     rwa[Bool.eq_false_iff.2 hok] at this
    have HNO:=qh (RightI.not_ok HX.out (Bool.eq_false_iff.2 hok))
    clear hok HA HA2 HV
    go_upto_region 4 with fail
    refine wp_region_held_drew (S:=fun W=>W.cell? ⟨wr.heap.size,0,none⟩=some (.string x.key)∧W.cell? ⟨wr.heap.size,1,none⟩=some (.string x.val)∧W.cell? ⟨wr.heap.size,2,none⟩=some (.int .i64 x.kind)) (by kernel_rfl) (HC.out _ (Below.refl _ _).drew) (fun hHeld=>?_)
    refine tk 0 ?_
    refine dOne 1 fun K hK=>?_
    go_simp
    go_at_call 51;(with_reducible refine (HV1.out _).mono ?_);rintro e w1 ⟨rfl,hb⟩;have HB0:=qh (thenBelow (a:=wr.alloc (.cells #[.string x.key,.string x.val,.int .i64 x.kind] 29)) (Below.refl _ _).drew hb);have HB1:=qh (thenBelow (grow HB.out _) HB0.out);clear hb
    go_wp2_with fail
    refine hK.out _ _ (HC.out _ HB0.out) (fun hHeld=>?_)
    clear hK K
    try simp only[Act.put,qqA,qqB,qqC]
    refine tk 2 ?_
    refine tk 3 ?_
    refine tkS 4 ?_
    refine tkS 5 ?_
    refine tkS 6 ?_
    refine tkS 7 ?_
    refine tkS 8 ?_
    refine tkS 9 ?_
    refine tkS 10 ?_
    refine tkS 11 ?_
    refine tkS 12 ?_
    refine tkS 13 ?_
    refine tkS 14 ?_
    refine tkS 15 ?_
    refine tkS 16 ?_
    refine tk 17 ?_
    refine wpAnyH_done (by kernel_rfl) ?_ _
    go_wp2
    go_ret
    exact⟨⟨_,rfl,(fun h=>by cases h),fun h=>absurd h HNO.out⟩,HB1.out⟩
  ·have e:i=l.length:=by omega
   subst e
   have k1:decide ((l.length:Int) < (l.length:Int))=false:=decide_eq_false (by omega)
   clear hlt
   go_wp2
   go_ret
   exact⟨⟨_,rfl,(fun _=>HR.out),fun _=>rfl⟩,HB.out⟩
end Go.Proofs.YtjepgclnbbpnaaaGreat.P9
namespace Go.Proofs.YtjepgclnbbpnaaaGreat.PP
open PK (qqA qqB qqC qqD qqE qqF tk tkS dOne qh)
open Go Go.RowKit Go.Lib P0
def PutOwn(w:World)(b:Nat)(xs:List UInt8)(bad:Int):Prop:=
 ∃ v,w.heap[b]?=some (.cells #[v,.pointer (some ⟨b,0,none⟩),.int .i64 bad] 191 (0,0))∧w.ownsRow (b+1) 5 1 v xs.length (cells xs)
def PutNew(w:World)(b:Nat)(bad:Int):Prop:=
 w.heap[b]?=some (.cells #[.slice none 0 0,.pointer none,.int .i64 bad] 191 (0,0))
def PutIs(w:World)(b:Nat)(xs:List UInt8)(bad:Int):Prop:=
 PutOwn w b xs bad∨(PutNew w b bad∧xs=[])
theorem PutOwn.lt{w:World}{b:Nat}{xs:List UInt8}{bad:Int}(h:PutOwn w b xs bad):b < w.heap.size:=by
 obtain⟨v,hb,_⟩:=h;exact lt_of_block hb
theorem PutIs.lt{w:World}{b:Nat}{xs:List UInt8}{bad:Int}(h:PutIs w b xs bad):b < w.heap.size:=by
 rcases h with h|⟨h,_⟩
 ·exact h.lt
 ·exact lt_of_block h
theorem PutOwn.below{w w':World}{b:Nat}{xs:List UInt8}{bad:Int}(h:PutOwn w b xs bad)(hb:Below w.heap.size w w'):PutOwn w' b xs bad:=by
 have hl:=h.lt
 obtain⟨v,h1,h2⟩:=h
 exact⟨v,by rw[hb.block b hl];exact h1,owns_below h2 hb⟩
theorem PutIs.below{w w':World}{b:Nat}{xs:List UInt8}{bad:Int}(h:PutIs w b xs bad)(hb:Below w.heap.size w w'):PutIs w' b xs bad:=by
 rcases h with h|⟨h,e⟩
 ·exact .inl (h.below hb)
 ·exact .inr ⟨by unfold PutNew at *;rw[hb.block b (lt_of_block h)];exact h,e⟩
structure Fr (b:Nat) (w w':World):Prop where
 below:Below b w w'
 keeps:∀ (k:Nat) (c:Array Value) (t:TypeId) (f:Nat×Nat),w.heap[k]?=some (.cells c t f)→t≠5→k≠b→w'.heap[k]?=some (.cells c t f)
theorem Fr.refl(b:Nat)(w:World):Fr b w w:=⟨Below.refl _ _,fun _ _ _ _ h _ _=>h⟩
theorem Fr.trans{b:Nat}{a w w':World}(h:Fr b a w)(k:Fr b w w'):Fr b a w':=
 ⟨h.below.trans k.below,fun i c t f h1 h2 h3=>k.keeps i c t f (h.keeps i c t f h1 h2 h3) h2 h3⟩
theorem Fr.setCell{b:Nat}{a w:World}(h:Fr b a w)(j:Nat)(u:Value):Fr b a (w.setCell ⟨b,j,none⟩ u):=
 h.trans ⟨(Below.refl b w).setCell (Nat.le_refl _) u,fun i c t f h1 _ h3=>by rw[Below.heap_setCell _ _ _ _ h3];exact h1⟩
theorem Fr.alloc{b:Nat}{a w:World}(h:Fr b a w)(hb:b≤w.heap.size)(o:Obj):Fr b a (w.alloc o):=
 h.trans ⟨(Below.refl b w).alloc hb o,fun i c t f h1 _ _=>by rw[Below.heap_alloc _ _ _ (lt_of_block h1)];exact h1⟩
theorem Fr.grown{b base n:Nat}{a w w':World}{v:Value}{xs:List Value}(h:Fr b a w)(hlt:b < w.heap.size)(h2:w.ownsRow base 5 1 v n xs)(hbase:b < base)(hg:w.grownBy w' v.ownBlock):Fr b a w':=by
 refine h.trans ⟨(Below.refl b w).grown hg (Nat.le_of_lt hlt) (fun k hk=>by have:=(h2.lt k hk).1;omega),fun i c t f h1 h3 _=>?_⟩
 rw[hg.block i (lt_of_block h1) (fun e=>?_)]
 ·exact h1
 ·rcases h2.2 with ⟨rfl,_⟩|⟨g,cap,cur,rfl,_,hgg,_⟩
  ·simp[Value.ownBlock] at e
  ·simp[Value.ownBlock] at e
   subst e
   rw[hgg] at h1
   simp only[Option.some.injEq,Obj.cells.injEq] at h1
   exact h3 h1.2.1.symm
theorem run_neq_nil_ptr{P:Program}(w:World){tp te:TypeId}(a:Addr)(hp:P.underlying tp=some (.pointer te)) :
  (binOp .neq tp (.pointer none) (.pointer (some a))).run P w=.ok (.bool true) w:=by
 have h:∀ d:Nat,(Op.equalIn (d+1) tp (.pointer none) (.pointer (some a))).run P w=.ok false w:=fun d=>by
  simp[Op.equalIn,run_underlying hp]
 simp only[binOp]
 simp[Op.equal,Op.maxDepth,h 9999]
theorem infoPut:(Tryz.prog.info? 191).isSome=true:=by kernel_rfl
theorem fail_first(w:World)(b:Nat)(xs:List UInt8)(e:Int)(h:PutIs w b xs 0) :
  Calls Tryz.prog 158 #[.pointer (some ⟨b,0,none⟩),.int .i64 e] w fun r w'=>r=.returned (.pointer (some ⟨b,0,none⟩))∧PutIs w' b xs e∧Fr b w w':=by
 obtain⟨c,hc,hd,hp⟩:∃ c:Array Value,w.heap[b]?=some (.cells c 191 (0,0))∧c[2]?=some (.int .i64 0)∧PutIs (w.setCell ⟨b,2,none⟩ (.int .i64 e)) b xs e:=by
  rcases h with ⟨v,h1,h2⟩|⟨h,rfl⟩
  ·exact⟨_,h1,rfl,.inl ⟨v,by rw[set_at h1];rfl,ownsRow_setCell_below h2 (by simp) _⟩⟩
  ·exact⟨_,h,rfl,.inr ⟨by unfold PutNew at *;rw[set_at h];rfl,rfl⟩⟩
 have hcell:w.cell? ⟨b,2,none⟩=some (.int .i64 0):=by rw[cell_at hc];exact hd
 have hfr:w.frozen? ⟨b,2,none⟩=false:=free_at hc 2
 have hB:Fr b w (w.setCell ⟨b,2,none⟩ (.int .i64 e)):=(Fr.refl b w).setCell _ _
 clear hc hd h
 go_enter Tryz.func158,Tryz.ntmps158
 go_wp2
 go_ret
 exact⟨rfl,hp,hB⟩
theorem fail_later(w:World)(b:Nat)(xs:List UInt8)(e bad:Int)(h:PutIs w b xs bad)(hbad:bad≠0) :
  Calls Tryz.prog 158 #[.pointer (some ⟨b,0,none⟩),.int .i64 e] w fun r w'=>r=.returned (.pointer (some ⟨b,0,none⟩))∧w=w':=by
 have hcell:w.cell? ⟨b,2,none⟩=some (.int .i64 bad):=by
  rcases h with ⟨v,h1,h2⟩|⟨h,rfl⟩
  ·rw[cell_at h1];rfl
  ·rw[cell_at h];rfl
 clear h
 have hb:(bad == 0)=false:=by simpa using hbad
 go_enter Tryz.func158,Tryz.ntmps158
 go_wp2
 go_ret
 exact⟨rfl,rfl⟩
theorem ready_bad(w:World)(b:Nat)(xs:List UInt8)(bad:Int)(h:PutIs w b xs bad)(hbad:bad≠0) :
  Calls Tryz.prog 162 #[.pointer (some ⟨b,0,none⟩)] w fun r w'=>r=.returned (.bool false)∧w=w':=by
 have hcell:w.cell? ⟨b,2,none⟩=some (.int .i64 bad):=by
  rcases h with ⟨v,h1,h2⟩|⟨h,rfl⟩
  ·rw[cell_at h1];rfl
  ·rw[cell_at h];rfl
 clear h
 have hb:(bad != 0)=true:=by simpa using hbad
 go_enter Tryz.func162,Tryz.ntmps162
 go_wp2
 go_ret
 exact⟨rfl,rfl⟩
theorem clone_nil(w:World) :
  Calls Tryz.prog 163 #[.slice none 0 0] w fun r w'=>r=.returned (.slice none 0 0)∧w=w':=by
 have k:=Lib.run_eql_slice_nil (P:=Tryz.prog) w 188 5 none 0 0 0 0 Tryz.underlying188
 go_enter Tryz.func163,Tryz.ntmps163
 go_wp2
 go_ret
 exact⟨rfl,rfl⟩
theorem ready_ok(w:World)(b:Nat)(xs:List UInt8)(h:PutIs w b xs 0) :
  Calls Tryz.prog 162 #[.pointer (some ⟨b,0,none⟩)] w fun r w'=>r=.returned (.bool true)∧PutOwn w' b xs 0∧Fr b w w':=by
 rcases h with h|⟨h,rfl⟩
 ·have ho:=h
  obtain⟨v,h1,h2⟩:=h
  have c1:w.cell? ⟨b,1,none⟩=some (.pointer (some ⟨b,0,none⟩)):=by rw[cell_at h1];rfl
  have c2:w.cell? ⟨b,2,none⟩=some (.int .i64 0):=by rw[cell_at h1];rfl
  clear h1 h2
  obtain⟨j,hj⟩:=Option.isSome_iff_exists.1 infoPut
  have k:=run_neq_ptr_same w ⟨b,0,none⟩ Tryz.underlying189 hj
  clear hj
  go_enter Tryz.func162,Tryz.ntmps162
  go_wp2
  go_ret
  exact⟨rfl,ho,Fr.refl _ _⟩
 ·have c0:w.cell? ⟨b,0,none⟩=some (.slice none 0 0):=by rw[cell_at h];rfl
  have c1:w.cell? ⟨b,1,none⟩=some (.pointer none):=by rw[cell_at h];rfl
  have c2:w.cell? ⟨b,2,none⟩=some (.int .i64 0):=by rw[cell_at h];rfl
  have f0:w.frozen? ⟨b,0,none⟩=false:=free_at h 0
  have f1:w.frozen? ⟨b,1,none⟩=false:=free_at h 1
  have s0:=set_at h 0 (.slice none 0 0)
  have s1:=set_at s0 1 (.pointer (some ⟨b,0,none⟩))
  have f1':(w.setCell ⟨b,0,none⟩ (.slice none 0 0)).frozen? ⟨b,1,none⟩=false:=free_at s0 1
  have c1':(w.setCell ⟨b,0,none⟩ (.slice none 0 0)).cell? ⟨b,1,none⟩=some (.pointer none):=by rw[cell_at s0];rfl
  have ho:PutOwn ((w.setCell ⟨b,0,none⟩ (.slice none 0 0)).setCell ⟨b,1,none⟩ (.pointer (some ⟨b,0,none⟩))) b [] 0:=⟨.slice none 0 0,by rw[s1];rfl,World.ownsRow_nil _ _ _ _⟩
  have hB:Fr b w ((w.setCell ⟨b,0,none⟩ (.slice none 0 0)).setCell ⟨b,1,none⟩ (.pointer (some ⟨b,0,none⟩))):=((Fr.refl b w).setCell _ _).setCell _ _
  clear h s0 s1
  have k:=run_neq_nil_ptr (P:=Tryz.prog) w ⟨b,0,none⟩ Tryz.underlying189
  go_enter Tryz.func162,Tryz.ntmps162
  go_wp2_with (go_at_call 163;refine (clone_nil _).mono ?_;rintro e w' ⟨rfl,rfl⟩)
  go_ret
  exact⟨rfl,ho,hB⟩
theorem put_block{wr w':World}{b base e:Nat}{v:Value}{n:Nat}{xs:List Value}{c:Obj}(h1:wr.heap[b]?=some c)(h2:wr.ownsRow base e 1 v n xs)(hbase:b < base)(hg:wr.grownBy w' v.ownBlock):w'.heap[b]?=some c:=by
 rw[hg.block b (Array.getElem?_eq_some_iff.1 h1).1 (fun e=>by have:=(h2.lt b e.symm).1;omega)];exact h1
theorem put_stored{w:World}{b:Nat}{v v':Value}{bad:Int}{ys:List UInt8}(h1:w.heap[b]?=some (.cells #[v,.pointer (some ⟨b,0,none⟩),.int .i64 bad] 191 (0,0)))(h2:w.ownsRow (b+1) 5 1 v' ys.length (cells ys)) :
  PutOwn (w.setCell ⟨b,0,none⟩ v') b ys bad:=⟨v',by rw[set_at h1];rfl,ownsRow_setCell_below h2 (by simp) _⟩
theorem number_bad(w:World)(b:Nat)(xs:List UInt8)(bad:Int)(n:Int)(size:Int)(h:PutIs w b xs bad)(hbad:bad≠0) :
  Calls Tryz.prog 161 #[.pointer (some ⟨b,0,none⟩),.int .u64 n,.int .i64 size] w fun r w'=>r=.returned (.pointer (some ⟨b,0,none⟩))∧w=w':=by
 go_enter Tryz.func161,Tryz.ntmps161
 go_wp2_with (go_at_call 162;refine (ready_bad _ b xs bad h hbad).mono ?_;rintro e w' ⟨rfl,rfl⟩)
 go_ret
 exact⟨rfl,rfl⟩
theorem number_ok(w:World)(b:Nat)(xs:List UInt8)(n size:Nat)(hn:n < 18446744073709551616)(hs:size≤8)(hx:xs.length≤140737488355000)(h:PutIs w b xs 0) :
  Calls Tryz.prog 161 #[.pointer (some ⟨b,0,none⟩),.int .u64 n,.int .i64 size] w fun r w'=>r=.returned (.pointer (some ⟨b,0,none⟩))∧PutOwn w' b (xs++low size n) 0∧Fr b w w':=by
 obtain⟨i0,hi,hz0,hz1,hz2⟩:=info_parts infoByte
 go_enter Tryz.func161,Tryz.ntmps161
 go_wp2_with (go_at_call 162;refine (ready_ok _ b xs h).mono ?_;rintro e w1 ⟨rfl,ho,hb⟩)
 go_loopw [1,10] (fun v i wr=>∃ k x:Nat,k≤size∧i=.int .i64 k∧v=.int .u64 (x:Int)∧Hid (x=n / 256 ^ k)∧x < 18446744073709551616∧PutOwn wr b (xs++low k n) 0∧Fr b w wr) (fun _ i _=>size - (intOf i).toNat)
 case atStart=>exact⟨0,n,Nat.zero_le _,rfl,rfl,(by simp:n=n / 256 ^ 0),hn,by simpa [low_zero] using ho,hb⟩
 case round=>
  obtain⟨k,x,hk,rfl,rfl,hxe,hxl,hown,hbel⟩:=hrel
  have hlt:=hown.lt
  obtain⟨v,h1,h2⟩:=hown
  have hll:(xs++low k n).length≤140737488355100:=by simp[low_length];omega
  have H1:=qh h1
  have c0:wr.cell? ⟨b,0,none⟩=some v:=by rw[cell_at h1];rfl
  clear h1
  by_cases hks:k < size
  ·go_wp2_with (at_builtin;refine wpList_append_own _ rfl _ _ 188 rfl (b+1) 5 i0 (.int .u8 0) 1 1 Tryz.underlying188 hi hz0 hz1 hz2 rfl (by decide) _ _ _ rfl (h2.alloc _) ⟨wr.heap.size,0,none⟩ 1 1 [.int .u8 ((x:Int) % 256)] rfl rfl ?c1 ?c2 ?c3 ?c4 ?c5 ?_)
   case c1=>exact cell_one_new _ _ _
   case c2=>intro u hu;simp at hu;subst hu;rfl
   case c3=>unfold maxLen;omega
   case c4=>omega
   case c5=>simp;omega
   intro v' w2 hown' hgrow _
   obtain⟨sa,sn,sc,rfl⟩:=owns_shape hown'
   have ha1:=(show (wr.alloc (.cells #[.int .u8 ((x:Int) % 256)] 5)).heap[b]?=_ from (Below.heap_alloc wr _ b hlt).trans H1.out)
   have hblk:=put_block ha1 (h2.alloc _) (by omega) hgrow
   have hb2:Fr b w w2:=(hbel.alloc (by omega) _).grown (by simp;omega) (h2.alloc _) (by omega) hgrow
   have hys:w2.ownsRow (b+1) 5 1 (.slice sa sn sc) (xs++low (k+1) n).length (cells (xs++low (k+1) n)):=by
    have e1:xs++low (k+1) n=(xs++low k n)++[UInt8.ofNat x]:=by rw[low_succ,hxe.out,List.append_assoc]
    rw[e1,cells_snoc,List.length_append,List.length_append];exact hown'
   have hst:=put_stored hblk hys
   have c0':w2.cell? ⟨b,0,none⟩=some v:=by rw[cell_at hblk];rfl
   have f0':w2.frozen? ⟨b,0,none⟩=false:=free_at hblk 0
   have hb3:Fr b w (w2.setCell ⟨b,0,none⟩ (.slice sa sn sc)):=hb2.setCell _ _
   have hxe':Hid (x / 256=n / 256 ^ (k+1)):=div_step hxe.out
   have hx8:x / 256 < 18446744073709551616:=by omega
   clear ha1 hblk hb2 hys hown' hgrow c0 h2 hll
   go_wp2
   go_roundw
   case rel=>exact⟨k+1,x / 256,by omega,by go_num,by go_num,hxe',hx8,hst,hb3⟩
   case measure=>simp[intOf];omega
  ·go_wp2
   go_ret
   obtain rfl:k=size:=by omega
   exact⟨rfl,⟨v,H1.out,h2⟩,hbel⟩
def stepN(n:Nat)(v:Int)(xs:List UInt8)(bad:Int):List UInt8×Int:=
 if bad=0 then (if 0≤v∧v < 256 ^ n then (xs++low n v.toNat,0) else (xs,1)) else (xs,bad)
theorem stepN_bad{n:Nat}{v:Int}{xs:List UInt8}{bad:Int}(h:bad≠0):stepN n v xs bad=(xs,bad):=by simp[stepN,h]
theorem stepN_fits{n:Nat}{v:Int}{xs:List UInt8}(h0:0≤v)(h1:v < 256 ^ n):stepN n v xs 0=(xs++low n v.toNat,0):=by simp[stepN,h0,h1]
theorem stepN_not{n:Nat}{v:Int}{xs:List UInt8}(h:¬ (0≤v∧v < 256 ^ n)):stepN n v xs 0=(xs,1):=by simp only[stepN,if_neg h,if_true]
theorem narrow_neg(w:World)(b:Nat)(xs:List UInt8)(v s:Int)(hv:v < 0)(h:PutIs w b xs 0) :
  Calls Tryz.prog 157 #[.pointer (some ⟨b,0,none⟩),.int .i64 v,.int .i64 s] w fun r w'=>r=.returned (.pointer (some ⟨b,0,none⟩))∧PutIs w' b xs 1∧Fr b w w':=by
 go_enter Tryz.func157,Tryz.ntmps157
 go_wp2_with (go_at_call 158;refine (fail_first _ b xs 1 h).mono ?_;rintro e w' ⟨rfl,h1,h2⟩)
 go_ret
 exact⟨rfl,h1,h2⟩
theorem narrow_neg_bad(w:World)(b:Nat)(xs:List UInt8)(bad v s:Int)(hv:v < 0)(hbad:bad≠0)(h:PutIs w b xs bad) :
  Calls Tryz.prog 157 #[.pointer (some ⟨b,0,none⟩),.int .i64 v,.int .i64 s] w fun r w'=>r=.returned (.pointer (some ⟨b,0,none⟩))∧w=w':=by
 go_enter Tryz.func157,Tryz.ntmps157
 go_wp2_with (go_at_call 158;refine (fail_later _ b xs 1 bad h hbad).mono ?_;rintro e w' ⟨rfl,rfl⟩)
 go_ret
 exact⟨rfl,rfl⟩
theorem narrow_fits_1(w:World)(b:Nat)(xs:List UInt8)(v:Nat)(hv:v < 256)(hx:xs.length≤140737488355000)(h:PutIs w b xs 0) :
  Calls Tryz.prog 157 #[.pointer (some ⟨b,0,none⟩),.int .i64 v,.int .i64 1] w fun r w'=>r=.returned (.pointer (some ⟨b,0,none⟩))∧PutOwn w' b (xs++low 1 v) 0∧Fr b w w':=by
 have k1:(((v:Int) / 256) != 0)=false:=by simp;omega
 have k2:decide ((v:Int) < 0)=false:=by simp
 go_enter Tryz.func157,Tryz.ntmps157
 go_wp2_with (go_at_call 161;refine (number_ok _ b xs v 1 (by omega) (by omega) hx h).mono ?_;rintro e w' ⟨rfl,h1,h2⟩)
 go_ret
 exact⟨rfl,h1,h2⟩
theorem narrow_over_1(w:World)(b:Nat)(xs:List UInt8)(v:Nat)(hv:¬ v < 256)(hv2:v < 9223372036854775808)(h:PutIs w b xs 0) :
  Calls Tryz.prog 157 #[.pointer (some ⟨b,0,none⟩),.int .i64 v,.int .i64 1] w fun r w'=>r=.returned (.pointer (some ⟨b,0,none⟩))∧PutIs w' b xs 1∧Fr b w w':=by
 have k1:(((v:Int) / 256) != 0)=true:=by simp;omega
 have k2:decide ((v:Int) < 0)=false:=by simp
 clear hv2
 go_enter Tryz.func157,Tryz.ntmps157
 go_wp2_with (go_at_call 158;refine (fail_first _ b xs 1 h).mono ?_;rintro e w' ⟨rfl,h1,h2⟩)
 go_ret
 exact⟨rfl,h1,h2⟩
theorem narrow_bad_1(w:World)(b:Nat)(xs:List UInt8)(v:Nat)(bad:Int)(hbad:bad≠0)(h:PutIs w b xs bad) :
  Calls Tryz.prog 157 #[.pointer (some ⟨b,0,none⟩),.int .i64 v,.int .i64 1] w fun r w'=>r=.returned (.pointer (some ⟨b,0,none⟩))∧w=w':=by
 have k2:decide ((v:Int) < 0)=false:=by simp
 by_cases hv:v < 256
 ·have k1:(((v:Int) / 256) != 0)=false:=by simp;omega
  go_enter Tryz.func157,Tryz.ntmps157
  go_wp2_with (go_at_call 161;refine (number_bad _ b xs bad _ _ h hbad).mono ?_;rintro e w' ⟨rfl,rfl⟩)
  go_ret
  exact⟨rfl,rfl⟩
 ·have k1:(((v:Int) / 256) != 0)=true:=by simp;omega
  go_enter Tryz.func157,Tryz.ntmps157
  go_wp2_with (go_at_call 158;refine (fail_later _ b xs 1 bad h hbad).mono ?_;rintro e w' ⟨rfl,rfl⟩)
  go_ret
  exact⟨rfl,rfl⟩
theorem narrow_1(w:World)(b:Nat)(xs:List UInt8)(v bad:Int)(hv:v < 9223372036854775808)(hx:xs.length≤140737488355000)(h:PutIs w b xs bad) :
  Calls Tryz.prog 157 #[.pointer (some ⟨b,0,none⟩),.int .i64 v,.int .i64 1] w fun r w'=>r=.returned (.pointer (some ⟨b,0,none⟩))∧PutIs w' b (stepN 1 v xs bad).1 (stepN 1 v xs bad).2∧Fr b w w':=by
 by_cases hbad:bad=0
 ·subst hbad
  by_cases h0:0≤v
  ·obtain⟨n,rfl⟩:=Int.eq_ofNat_of_zero_le h0
   by_cases hn:n < 256
   ·rw[stepN_fits h0 (by omega)]
    exact (narrow_fits_1 w b xs n hn hx h).mono fun _ _ ⟨a,c,d⟩=>⟨a,.inl c,d⟩
   ·rw[stepN_not (by omega)]
    exact narrow_over_1 w b xs n hn (by omega) h
  ·rw[stepN_not (by omega)]
   exact narrow_neg w b xs v 1 (by omega) h
 ·rw[stepN_bad hbad]
  by_cases h0:0≤v
  ·obtain⟨n,rfl⟩:=Int.eq_ofNat_of_zero_le h0
   exact (narrow_bad_1 w b xs n bad hbad h).mono fun _ _ ⟨a,c⟩=>⟨a,c ▸ h,c ▸ Fr.refl _ _⟩
  ·exact (narrow_neg_bad w b xs bad v 1 (by omega) hbad h).mono fun _ _ ⟨a,c⟩=>⟨a,c ▸ h,c ▸ Fr.refl _ _⟩
theorem narrow_fits_2(w:World)(b:Nat)(xs:List UInt8)(v:Nat)(hv:v < 65536)(hx:xs.length≤140737488355000)(h:PutIs w b xs 0) :
  Calls Tryz.prog 157 #[.pointer (some ⟨b,0,none⟩),.int .i64 v,.int .i64 2] w fun r w'=>r=.returned (.pointer (some ⟨b,0,none⟩))∧PutOwn w' b (xs++low 2 v) 0∧Fr b w w':=by
 have k1:(((v:Int) / 65536) != 0)=false:=by simp;omega
 have k2:decide ((v:Int) < 0)=false:=by simp
 go_enter Tryz.func157,Tryz.ntmps157
 go_wp2_with (go_at_call 161;refine (number_ok _ b xs v 2 (by omega) (by omega) hx h).mono ?_;rintro e w' ⟨rfl,h1,h2⟩)
 go_ret
 exact⟨rfl,h1,h2⟩
theorem narrow_over_2(w:World)(b:Nat)(xs:List UInt8)(v:Nat)(hv:¬ v < 65536)(hv2:v < 9223372036854775808)(h:PutIs w b xs 0) :
  Calls Tryz.prog 157 #[.pointer (some ⟨b,0,none⟩),.int .i64 v,.int .i64 2] w fun r w'=>r=.returned (.pointer (some ⟨b,0,none⟩))∧PutIs w' b xs 1∧Fr b w w':=by
 have k1:(((v:Int) / 65536) != 0)=true:=by simp;omega
 have k2:decide ((v:Int) < 0)=false:=by simp
 clear hv2
 go_enter Tryz.func157,Tryz.ntmps157
 go_wp2_with (go_at_call 158;refine (fail_first _ b xs 1 h).mono ?_;rintro e w' ⟨rfl,h1,h2⟩)
 go_ret
 exact⟨rfl,h1,h2⟩
theorem narrow_bad_2(w:World)(b:Nat)(xs:List UInt8)(v:Nat)(bad:Int)(hbad:bad≠0)(h:PutIs w b xs bad) :
  Calls Tryz.prog 157 #[.pointer (some ⟨b,0,none⟩),.int .i64 v,.int .i64 2] w fun r w'=>r=.returned (.pointer (some ⟨b,0,none⟩))∧w=w':=by
 have k2:decide ((v:Int) < 0)=false:=by simp
 by_cases hv:v < 65536
 ·have k1:(((v:Int) / 65536) != 0)=false:=by simp;omega
  go_enter Tryz.func157,Tryz.ntmps157
  go_wp2_with (go_at_call 161;refine (number_bad _ b xs bad _ _ h hbad).mono ?_;rintro e w' ⟨rfl,rfl⟩)
  go_ret
  exact⟨rfl,rfl⟩
 ·have k1:(((v:Int) / 65536) != 0)=true:=by simp;omega
  go_enter Tryz.func157,Tryz.ntmps157
  go_wp2_with (go_at_call 158;refine (fail_later _ b xs 1 bad h hbad).mono ?_;rintro e w' ⟨rfl,rfl⟩)
  go_ret
  exact⟨rfl,rfl⟩
theorem narrow_2(w:World)(b:Nat)(xs:List UInt8)(v bad:Int)(hv:v < 9223372036854775808)(hx:xs.length≤140737488355000)(h:PutIs w b xs bad) :
  Calls Tryz.prog 157 #[.pointer (some ⟨b,0,none⟩),.int .i64 v,.int .i64 2] w fun r w'=>r=.returned (.pointer (some ⟨b,0,none⟩))∧PutIs w' b (stepN 2 v xs bad).1 (stepN 2 v xs bad).2∧Fr b w w':=by
 by_cases hbad:bad=0
 ·subst hbad
  by_cases h0:0≤v
  ·obtain⟨n,rfl⟩:=Int.eq_ofNat_of_zero_le h0
   by_cases hn:n < 65536
   ·rw[stepN_fits h0 (by omega)]
    exact (narrow_fits_2 w b xs n hn hx h).mono fun _ _ ⟨a,c,d⟩=>⟨a,.inl c,d⟩
   ·rw[stepN_not (by omega)]
    exact narrow_over_2 w b xs n hn (by omega) h
  ·rw[stepN_not (by omega)]
   exact narrow_neg w b xs v 2 (by omega) h
 ·rw[stepN_bad hbad]
  by_cases h0:0≤v
  ·obtain⟨n,rfl⟩:=Int.eq_ofNat_of_zero_le h0
   exact (narrow_bad_2 w b xs n bad hbad h).mono fun _ _ ⟨a,c⟩=>⟨a,c ▸ h,c ▸ Fr.refl _ _⟩
  ·exact (narrow_neg_bad w b xs bad v 2 (by omega) hbad h).mono fun _ _ ⟨a,c⟩=>⟨a,c ▸ h,c ▸ Fr.refl _ _⟩
def stepR(ys:List UInt8)(xs:List UInt8)(bad:Int):List UInt8×Int:=if bad=0 then (xs++ys,0) else (xs,bad)
def stepT(ys:List UInt8)(xs:List UInt8)(bad:Int):List UInt8×Int:=
 if bad=0 then (if ys.length≤65535 then (xs++(low 2 ys.length++ys),0) else (xs,2)) else (xs,bad)
theorem put_bad_cell{w:World}{b:Nat}{xs:List UInt8}{bad:Int}(h:PutIs w b xs bad):w.cell? ⟨b,2,none⟩=some (.int .i64 bad):=by
 rcases h with ⟨v,h1,h2⟩|⟨h,rfl⟩
 ·rw[cell_at h1];rfl
 ·rw[cell_at h];rfl
end Go.Proofs.YtjepgclnbbpnaaaGreat.PP
namespace Go.Proofs.YtjepgclnbbpnaaaGreat.PP
open Go Go.RowKit Go.Lib P0
theorem putByte_any(w:World)(b:Nat)(xs:List UInt8)(v bad:Int)(hv:v < 9223372036854775808)(hx:xs.length≤140737488355000)(h:PutIs w b xs bad) :
  Calls Tryz.prog 147 #[.pointer (some ⟨b,0,none⟩),.int .i64 v] w fun r w'=>r=.returned (.pointer (some ⟨b,0,none⟩))∧PutIs w' b (stepN 1 v xs bad).1 (stepN 1 v xs bad).2∧Fr b w w':=by
 have H:=narrow_1 w b xs v bad hv hx h
 clear hv
 go_enter Tryz.func147,Tryz.ntmps147
 go_wp2_with (go_at_call 157;refine H.mono ?_;rintro e w' ⟨rfl,h1,h2⟩)
 go_ret
 exact⟨rfl,h1,h2⟩
end Go.Proofs.YtjepgclnbbpnaaaGreat.PP
