/-
  Texts of the proofs of SaidOrd12.
-/
import Derived.Test.YtjepgclnbbpnaaaGreatMs10
set_option linter.unusedVariables false
set_option linter.unusedSimpArgs false
set_option maxHeartbeats 8000000
set_option maxRecDepth 100000
namespace Go.Proofs.YtjepgclnbbpnaaaGreat.P9
open PK (qqA qqB qqC qqD qqE qqF tk tkS dOne qh)
open Go Go.RowKit Go.Lib PK
theorem join3(W:World)(x:It)(s1 s3:Value)(L1 L3:List It)(h1:ItsIn W s1 L1)(h3:ItsIn W s3 L3)(hs:L1.length+L3.length≤900000) :
  Calls Tryz.prog 70 #[.slice (some ⟨W.heap.size+1,0,none⟩) 3 3] ((W.alloc (.cells #[.string x.key,.string x.val,.int .i64 x.kind] 29)).alloc (.cells #[s1,.slice (some ⟨W.heap.size,0,none⟩) 1 1,s3] 27)) fun e w'=>∃ v,e=.returned v∧OwnI W.heap.size w' v (L1++[x]++L3)∧Below W.heap.size W w':=by
 obtain⟨W1,hW1⟩:∃ W1,W1=W.alloc (.cells #[.string x.key,.string x.val,.int .i64 x.kind] 29):=⟨_,rfl⟩
 rw[← hW1]
 obtain⟨W2,hW2⟩:∃ W2,W2=W1.alloc (.cells #[s1,.slice (some ⟨W.heap.size,0,none⟩) 1 1,s3] 27):=⟨_,rfl⟩
 rw[← hW2]
 have hsz:W1.heap.size=W.heap.size+1:=by rw[hW1];simp
 have hsz2:W2.heap.size=W.heap.size+2:=by rw[hW2];simp[hsz]
 have hB1:Below W.heap.size W W1:=by rw[hW1];exact below_new _ _
 have hB2:Below W1.heap.size W1 W2:=by rw[hW2];exact below_new _ _
 have hB:Below W.heap.size W W2:=thenBelow hB1 hB2
 have hrow:W2.heap[W.heap.size+1]?=some (.cells #[s1,.slice (some ⟨W.heap.size,0,none⟩) 1 1,s3] 27 (0,0)):=by
  rw[hW2,← hsz];exact new_at W1 _ _
 have hit:OwnI W.heap.size W1 (.slice (some ⟨W.heap.size,0,none⟩) 1 1) [x]:=by
  refine⟨?_,by simp⟩
  rw[hW1]
  exact⟨rfl,.inr ⟨W.heap.size,1,_,rfl,Nat.le_refl _,new_at W _ _,Nat.le_refl _,by unfold maxLen;omega,rfl,rfl⟩⟩
 refine (concat_any W2 (W.heap.size+1) 3 3 [s1,.slice (some ⟨W.heap.size,0,none⟩) 1 1,s3] [L1,[x],L3] (by omega) (by omega) rfl rfl
  (fun i u hu=>by rw[cell_at hrow];simpa using hu)
  (fun i u L hu hL=>by
   match i,hu,hL with
   | 0,hu,hL=>
    obtain rfl:s1=u:=by simpa using hu
    obtain rfl:L1=L:=by simpa using hL
    exact h1.below hB
   | 1,hu,hL=>
    obtain rfl:Value.slice (some ⟨W.heap.size,0,none⟩) 1 1=u:=by simpa using hu
    obtain rfl:[x]=L:=by simpa using hL
    exact hit.its.below hB2
   | 2,hu,hL=>
    obtain rfl:s3=u:=by simpa using hu
    obtain rfl:L3=L:=by simpa using hL
    exact h3.below hB
   | i+3,hu,_=>simp at hu)
  (by simp only[List.flatten_cons,List.flatten_nil,List.length_append,List.length_singleton,List.length_nil];omega)).mono ?_
 rintro e w' ⟨v,rfl,h4,h5⟩
 refine⟨v,rfl,?_,thenBelow hB h5⟩
 have e:([L1,[x],L3]:List (List It)).flatten=L1++[x]++L3:=by simp
 rw[e] at h4
 exact h4.lo_ hB.size
theorem join3d(W:World)(x:It)(s1 s3:Value)(L1 L3:List It)(h1:ItsIn W s1 L1)(h3:ItsIn W s3 L3)(hs:L1.length+L3.length≤900000) :
  Calls Tryz.prog 70 #[.slice (some ⟨W.heap.size+1,0,none⟩) 3 3] ((W.alloc (.cells #[.string x.key,.string x.val,.int .i64 x.kind] 29)).alloc (.cells #[s1,.slice (some ⟨W.heap.size,0,none⟩) 1 1,s3] 27)).drew fun e w'=>∃ v,e=.returned v∧OwnI W.heap.size w' v (L1++[x]++L3)∧Below W.heap.size W w':=by
 have hd:Below W.heap.size W W.drew:=(Below.refl _ W).drew
 refine (join3 W.drew x s1 s3 L1 L3 (h1.below hd) (h3.below hd) hs).mono ?_
 rintro e w' ⟨v,rfl,h4,h5⟩
 exact⟨v,rfl,h4,thenBelow hd h5⟩
theorem join2(W:World)(s1 s3:Value)(L1 L3:List It)(h1:ItsIn W s1 L1)(h3:ItsIn W s3 L3)(hs:L1.length+L3.length≤900000) :
  Calls Tryz.prog 70 #[.slice (some ⟨W.heap.size,0,none⟩) 2 2] (W.alloc (.cells #[s1,s3] 27)) fun e w'=>∃ v,e=.returned v∧OwnI W.heap.size w' v (L1++L3)∧Below W.heap.size W w':=by
 obtain⟨W2,hW2⟩:∃ W2,W2=W.alloc (.cells #[s1,s3] 27):=⟨_,rfl⟩
 have hB:Below W.heap.size W W2:=by rw[hW2];exact below_new _ _
 have hsz2:W2.heap.size=W.heap.size+1:=by rw[hW2];simp
 have hrow:W2.heap[W.heap.size]?=some (.cells #[s1,s3] 27 (0,0)):=by
  rw[hW2];exact new_at W _ _
 rw[← hW2]
 refine (concat_any W2 W.heap.size 2 2 [s1,s3] [L1,L3] (by omega) (by omega) rfl rfl
  (fun i u hu=>by rw[cell_at hrow];simpa using hu)
  (fun i u L hu hL=>by
   match i,hu,hL with
   | 0,hu,hL=>
    obtain rfl:s1=u:=by simpa using hu
    obtain rfl:L1=L:=by simpa using hL
    exact h1.below hB
   | 1,hu,hL=>
    obtain rfl:s3=u:=by simpa using hu
    obtain rfl:L3=L:=by simpa using hL
    exact h3.below hB
   | i+2,hu,_=>simp at hu)
  (by simp only[List.flatten_cons,List.flatten_nil,List.length_append,List.length_nil];omega)).mono ?_
 rintro e w' ⟨v,rfl,h4,h5⟩
 refine⟨v,rfl,?_,thenBelow hB h5⟩
 have e:([L1,L3]:List (List It)).flatten=L1++L3:=by simp
 rw[e] at h4
 exact h4.lo_ hB.size
theorem ItsIn.drop_end{w:World}{a:Option Addr}{c n:Nat}{l:List It}(h:ItsIn w (.slice a l.length c) l)(hn:l.length=n)(c':Nat)(hc:a=none→c'=0):ItsIn w (.slice a 0 c') (l.drop n):=by
 subst hn
 rw[List.drop_length]
 obtain⟨a',c2,e,h1,_⟩:=h
 simp only[Value.slice.injEq] at e
 obtain⟨rfl,_,rfl⟩:=e
 exact⟨_,c',rfl,hc,by simp[cellsI],cellsI_ok _,fun h=>absurd h (by simp[cellsI])⟩
theorem put_moved(w:World)(b off c:Nat)(l:List It)(x:It)(h:ItsIn w (.slice (some ⟨b,off,none⟩) l.length c) l)(hc:l.length≤c)(hm:c≤9223372036854775807)(hn:l.length≤800000)(hr:RightI l)(hh:hasK l x.key=false)(hcn:c≠lowK l x.key) :
  Calls Tryz.prog 56 #[.slice (some ⟨b,off,none⟩) l.length c,x.v] w fun e w'=>∃ v',e=.returned v'∧OwnI w.heap.size w' v' (putI l x)∧Below w.heap.size w w':=by
 have HF:=qh (fun W (hW:Below w.heap.size w W)=>find_any W _ l x.key (h.below hW) (by first|omega|(subst hl;simp)) hr)
 have hle:=lowK_le l x.key
 have HP:Hid (putI l x=l.take (lowK l x.key)++[x]++l.drop (lowK l x.key)):=by
  show putI l x=_
  unfold putI
  rw[if_neg (by rw[hh];simp)]
 have hI1:=h.take hle
 have hI3:=h.drop hle (c - lowK l x.key)
 have HJ:Hid (∀ W,Below w.heap.size w W→Calls Tryz.prog 70 #[.slice (some ⟨W.heap.size+1,0,none⟩) 3 3] ((W.alloc (.cells #[.string x.key,.string x.val,.int .i64 x.kind] 29)).alloc (.cells #[.slice (some ⟨b,off,none⟩) (lowK l x.key) c,.slice (some ⟨W.heap.size,0,none⟩) 1 1,.slice (some ⟨b,off+lowK l x.key*3,none⟩) (l.length - lowK l x.key:Nat) (c - lowK l x.key:Nat)] 27)).drew fun e w'=>∃ v,e=.returned v∧OwnI W.heap.size w' v (l.take (lowK l x.key)++[x]++l.drop (lowK l x.key))∧Below W.heap.size W w'):=fun W hW=>
  join3d W x _ _ _ _ (hI1.below hW) (hI3.below hW) (by rw[List.length_take,List.length_drop];omega)
 rw[hh] at HF
 obtain⟨A,hA⟩:∃ A,A=lowK l x.key:=⟨_,rfl⟩
 rw[← hA] at HF HP HJ hle hcn
 obtain⟨N,hN⟩:∃ N,N=l.length:=⟨_,rfl⟩
 rw[← hN] at hle hc hn
 try rw[← hN]
 try rw[← hN] at HF
 try rw[← hN] at HJ
 have HB0:Hid (Below w.heap.size w (w.alloc (.cells #[.string x.key,.string x.val,.int .i64 x.kind] 29))):=below_new _ _
 have HC:Hid (∀ W,Below (w.alloc (.cells #[.string x.key,.string x.val,.int .i64 x.kind] 29)).heap.size (w.alloc (.cells #[.string x.key,.string x.val,.int .i64 x.kind] 29)) W→W.cell? ⟨w.heap.size,0,none⟩=some (.string x.key)∧W.cell? ⟨w.heap.size,1,none⟩=some (.string x.val)∧W.cell? ⟨w.heap.size,2,none⟩=some (.int .i64 x.kind)):=fun W hW=>
  ⟨(hW.cell (p:=⟨w.heap.size,0,none⟩) (by simp)).trans (by rw[cell_at (new_at w _ _)];rfl),(hW.cell (p:=⟨w.heap.size,1,none⟩) (by simp)).trans (by rw[cell_at (new_at w _ _)];rfl),(hW.cell (p:=⟨w.heap.size,2,none⟩) (by simp)).trans (by rw[cell_at (new_at w _ _)];rfl)⟩
 unfold It.v
 have k1:(A:Int)≤(N:Int):=by omega
 have k2:(0:Int)≤(A:Int):=by omega
 have k3:(A:Int)≤(c:Int):=by omega
 have k4:(N:Int)≤(c:Int):=by omega
 clear hA hN h hr hh hI1 hI3
 go_enter Tryz.func56,Tryz.ntmps56
 go_upto_region 5 with (go_at_call 66;(with_reducible refine (HF.out _ HB0.out).mono ?_);rintro e w1 ⟨rfl,hb⟩;have HB1:=qh hb;have HB1d:=qh (thenBelow HB1.out (Below.refl _ _).drew);have HW1:=qh (thenBelow HB0.out HB1.out);clear hb)
 go_region_held3 (fun W=>W.cell? ⟨w.heap.size,0,none⟩=some (.string x.key)∧W.cell? ⟨w.heap.size,1,none⟩=some (.string x.val)∧W.cell? ⟨w.heap.size,2,none⟩=some (.int .i64 x.kind)) (first|exact HC.out _ HB1d.out|exact HC.out _ HB1.out|exact HC.out _ (grow HB1d.out _)|exact HC.out _ (grow HB1.out _)|exact HC.out _ (grow (grow HB1d.out _) _)|exact HC.out _ (thenBelow (grow HB1.out _) (Below.refl _ _).drew)|exact HC.out _ (thenBelow (grow (grow HB1.out _) _) (Below.refl _ _).drew)|exact HC.out _ HB2.out) ((go_at_call 70;(with_reducible refine (HJ.out _ HW1.out).mono ?_);rintro e w2 ⟨v2,rfl,h2,hb⟩;have HO2:=qh (h2.lo_ HW1.out.size);have HB2:=qh (thenBelow HB1.out hb);clear h2 hb))
 all_goals
  go_wp2
  go_ret
  exact⟨_,rfl,by rw[HP.out];exact HO2.out,thenBelow HB0.out HB2.out⟩
theorem put_end(w:World)(b off c:Nat)(l:List It)(x:It)(h:ItsIn w (.slice (some ⟨b,off,none⟩) l.length c) l)(hc:l.length≤c)(hm:c≤9223372036854775807)(hn:l.length≤800000)(hr:RightI l)(hh:hasK l x.key=false)(hcn:c=lowK l x.key) :
  Calls Tryz.prog 56 #[.slice (some ⟨b,off,none⟩) l.length c,x.v] w fun e w'=>∃ v',e=.returned v'∧OwnI w.heap.size w' v' (putI l x)∧Below w.heap.size w w':=by
 have HF:=qh (fun W (hW:Below w.heap.size w W)=>find_any W _ l x.key (h.below hW) (by first|omega|(subst hl;simp)) hr)
 have hle:=lowK_le l x.key
 have HP:Hid (putI l x=l.take (lowK l x.key)++[x]++l.drop (lowK l x.key)):=by
  show putI l x=_
  unfold putI
  rw[if_neg (by rw[hh];simp)]
 have hI1:=h.take hle
 have hI3:=h.drop_end (n:=lowK l x.key) (by omega) 0 (fun _=>rfl)
 have HJ:Hid (∀ W,Below w.heap.size w W→Calls Tryz.prog 70 #[.slice (some ⟨W.heap.size+1,0,none⟩) 3 3] ((W.alloc (.cells #[.string x.key,.string x.val,.int .i64 x.kind] 29)).alloc (.cells #[.slice (some ⟨b,off,none⟩) (lowK l x.key) c,.slice (some ⟨W.heap.size,0,none⟩) 1 1,.slice (some ⟨b,off,none⟩) 0 0] 27)).drew fun e w'=>∃ v,e=.returned v∧OwnI W.heap.size w' v (l.take (lowK l x.key)++[x]++l.drop (lowK l x.key))∧Below W.heap.size W w'):=fun W hW=>
  join3d W x _ _ _ _ (hI1.below hW) (hI3.below hW) (by rw[List.length_take,List.length_drop];omega)
 rw[hh] at HF
 obtain⟨A,hA⟩:∃ A,A=lowK l x.key:=⟨_,rfl⟩
 rw[← hA] at HF HP HJ hle hcn
 obtain⟨N,hN⟩:∃ N,N=l.length:=⟨_,rfl⟩
 rw[← hN] at hle hc hn
 try rw[← hN]
 try rw[← hN] at HF
 try rw[← hN] at HJ
 have HB0:Hid (Below w.heap.size w (w.alloc (.cells #[.string x.key,.string x.val,.int .i64 x.kind] 29))):=below_new _ _
 have HC:Hid (∀ W,Below (w.alloc (.cells #[.string x.key,.string x.val,.int .i64 x.kind] 29)).heap.size (w.alloc (.cells #[.string x.key,.string x.val,.int .i64 x.kind] 29)) W→W.cell? ⟨w.heap.size,0,none⟩=some (.string x.key)∧W.cell? ⟨w.heap.size,1,none⟩=some (.string x.val)∧W.cell? ⟨w.heap.size,2,none⟩=some (.int .i64 x.kind)):=fun W hW=>
  ⟨(hW.cell (p:=⟨w.heap.size,0,none⟩) (by simp)).trans (by rw[cell_at (new_at w _ _)];rfl),(hW.cell (p:=⟨w.heap.size,1,none⟩) (by simp)).trans (by rw[cell_at (new_at w _ _)];rfl),(hW.cell (p:=⟨w.heap.size,2,none⟩) (by simp)).trans (by rw[cell_at (new_at w _ _)];rfl)⟩
 unfold It.v
 have k1:(A:Int)≤(N:Int):=by omega
 have k2:(0:Int)≤(A:Int):=by omega
 have k3:(A:Int)≤(c:Int):=by omega
 have k4:(N:Int)≤(c:Int):=by omega
 obtain rfl:N=A:=by omega
 subst hcn
 clear hA hN h hr hh hI1 hI3
 go_enter Tryz.func56,Tryz.ntmps56
 go_upto_region 5 with (go_at_call 66;(with_reducible refine (HF.out _ HB0.out).mono ?_);rintro e w1 ⟨rfl,hb⟩;have HB1:=qh hb;have HB1d:=qh (thenBelow HB1.out (Below.refl _ _).drew);have HW1:=qh (thenBelow HB0.out HB1.out);clear hb)
 go_region_held3 (fun W=>W.cell? ⟨w.heap.size,0,none⟩=some (.string x.key)∧W.cell? ⟨w.heap.size,1,none⟩=some (.string x.val)∧W.cell? ⟨w.heap.size,2,none⟩=some (.int .i64 x.kind)) (first|exact HC.out _ HB1d.out|exact HC.out _ HB1.out|exact HC.out _ (grow HB1d.out _)|exact HC.out _ (grow HB1.out _)|exact HC.out _ (grow (grow HB1d.out _) _)|exact HC.out _ (thenBelow (grow HB1.out _) (Below.refl _ _).drew)|exact HC.out _ (thenBelow (grow (grow HB1.out _) _) (Below.refl _ _).drew)|exact HC.out _ HB2.out) ((go_at_call 70;(with_reducible refine (HJ.out _ HW1.out).mono ?_);rintro e w2 ⟨v2,rfl,h2,hb⟩;have HO2:=qh (h2.lo_ HW1.out.size);have HB2:=qh (thenBelow HB1.out hb);clear h2 hb))
 all_goals
  go_wp2
  go_ret
  exact⟨_,rfl,by rw[HP.out];exact HO2.out,thenBelow HB0.out HB2.out⟩
theorem put_over(w:World)(b off c:Nat)(l:List It)(x:It)(h:ItsIn w (.slice (some ⟨b,off,none⟩) l.length c) l)(hc:l.length≤c)(hm:c≤9223372036854775807)(hn:l.length≤800000)(hr:RightI l)(hh:hasK l x.key=true)(hcn:c≠lowK l x.key+1) :
  Calls Tryz.prog 56 #[.slice (some ⟨b,off,none⟩) l.length c,x.v] w fun e w'=>∃ v',e=.returned v'∧OwnI w.heap.size w' v' (putI l x)∧Below w.heap.size w w':=by
 have HF:=qh (fun W (hW:Below w.heap.size w W)=>find_any W _ l x.key (h.below hW) (by first|omega|(subst hl;simp)) hr)
 have hle:=lowK_le l x.key
 have HP:Hid (putI l x=l.take (lowK l x.key)++[x]++l.drop (lowK l x.key+1)):=by
  show putI l x=_
  unfold putI
  rw[if_pos hh]
 have hlt:lowK l x.key < l.length:=by
  obtain⟨z,hz,_⟩:=lowK_hit hr (hasK_iff.1 hh)
  exact (List.getElem?_eq_some_iff.1 hz).1
 have hI1:=h.take hle
 have hI3:=h.drop (n:=lowK l x.key+1) hlt (c - lowK l x.key - 1)
 rw[show off+(lowK l x.key+1)*3=off+lowK l x.key*3+3 by omega,show l.length - (lowK l x.key+1)=l.length - lowK l x.key - 1 by omega] at hI3
 have HJ:Hid (∀ W,Below w.heap.size w W→Calls Tryz.prog 70 #[.slice (some ⟨W.heap.size+1,0,none⟩) 3 3] ((W.alloc (.cells #[.string x.key,.string x.val,.int .i64 x.kind] 29)).alloc (.cells #[.slice (some ⟨b,off,none⟩) (lowK l x.key) c,.slice (some ⟨W.heap.size,0,none⟩) 1 1,.slice (some ⟨b,off+lowK l x.key*3+3,none⟩) (l.length - lowK l x.key - 1:Nat) (c - lowK l x.key - 1:Nat)] 27)).drew fun e w'=>∃ v,e=.returned v∧OwnI W.heap.size w' v (l.take (lowK l x.key)++[x]++l.drop (lowK l x.key+1))∧Below W.heap.size W w'):=fun W hW=>
  join3d W x _ _ _ _ (hI1.below hW) (hI3.below hW) (by rw[List.length_take,List.length_drop];omega)
 rw[hh] at HF
 obtain⟨A,hA⟩:∃ A,A=lowK l x.key:=⟨_,rfl⟩
 rw[← hA] at HF HP HJ hle hcn hlt
 obtain⟨N,hN⟩:∃ N,N=l.length:=⟨_,rfl⟩
 rw[← hN] at hle hc hn hlt
 try rw[← hN]
 try rw[← hN] at HF
 try rw[← hN] at HJ
 have HB0:Hid (Below w.heap.size w (w.alloc (.cells #[.string x.key,.string x.val,.int .i64 x.kind] 29))):=below_new _ _
 have HC:Hid (∀ W,Below (w.alloc (.cells #[.string x.key,.string x.val,.int .i64 x.kind] 29)).heap.size (w.alloc (.cells #[.string x.key,.string x.val,.int .i64 x.kind] 29)) W→W.cell? ⟨w.heap.size,0,none⟩=some (.string x.key)∧W.cell? ⟨w.heap.size,1,none⟩=some (.string x.val)∧W.cell? ⟨w.heap.size,2,none⟩=some (.int .i64 x.kind)):=fun W hW=>
  ⟨(hW.cell (p:=⟨w.heap.size,0,none⟩) (by simp)).trans (by rw[cell_at (new_at w _ _)];rfl),(hW.cell (p:=⟨w.heap.size,1,none⟩) (by simp)).trans (by rw[cell_at (new_at w _ _)];rfl),(hW.cell (p:=⟨w.heap.size,2,none⟩) (by simp)).trans (by rw[cell_at (new_at w _ _)];rfl)⟩
 unfold It.v
 have k1:(A:Int)≤(N:Int):=by omega
 have k2:(0:Int)≤(A:Int):=by omega
 have k3:(A:Int)≤(c:Int):=by omega
 have k4:(N:Int)≤(c:Int):=by omega
 have k5:(1:Int)≤((N - A:Nat):Int):=by omega
 have k6:((N - A:Nat):Int)≤((c - A:Nat):Int):=by omega
 have k7:c≠A:=by omega
 have k8:c - A≠1:=by omega
 clear hA hN h hr hh hI1 hI3
 go_enter Tryz.func56,Tryz.ntmps56
 go_upto_region 5 with (go_at_call 66;(with_reducible refine (HF.out _ HB0.out).mono ?_);rintro e w1 ⟨rfl,hb⟩;have HB1:=qh hb;have HB1d:=qh (thenBelow HB1.out (Below.refl _ _).drew);have HW1:=qh (thenBelow HB0.out HB1.out);clear hb)
 go_region_held3 (fun W=>W.cell? ⟨w.heap.size,0,none⟩=some (.string x.key)∧W.cell? ⟨w.heap.size,1,none⟩=some (.string x.val)∧W.cell? ⟨w.heap.size,2,none⟩=some (.int .i64 x.kind)) (first|exact HC.out _ HB1d.out|exact HC.out _ HB1.out|exact HC.out _ (grow HB1d.out _)|exact HC.out _ (grow HB1.out _)|exact HC.out _ (grow (grow HB1d.out _) _)|exact HC.out _ (thenBelow (grow HB1.out _) (Below.refl _ _).drew)|exact HC.out _ (thenBelow (grow (grow HB1.out _) _) (Below.refl _ _).drew)|exact HC.out _ HB2.out) ((go_at_call 70;(with_reducible refine (HJ.out _ HW1.out).mono ?_);rintro e w2 ⟨v2,rfl,h2,hb⟩;have HO2:=qh (h2.lo_ HW1.out.size);have HB2:=qh (thenBelow HB1.out hb);clear h2 hb))
 all_goals
  go_wp2
  go_ret
  exact⟨_,rfl,by rw[HP.out];exact HO2.out,thenBelow HB0.out HB2.out⟩
theorem put_last(w:World)(b off c:Nat)(l:List It)(x:It)(h:ItsIn w (.slice (some ⟨b,off,none⟩) l.length c) l)(hc:l.length≤c)(hm:c≤9223372036854775807)(hn:l.length≤800000)(hr:RightI l)(hh:hasK l x.key=true)(hcn:c=lowK l x.key+1) :
  Calls Tryz.prog 56 #[.slice (some ⟨b,off,none⟩) l.length c,x.v] w fun e w'=>∃ v',e=.returned v'∧OwnI w.heap.size w' v' (putI l x)∧Below w.heap.size w w':=by
 have HF:=qh (fun W (hW:Below w.heap.size w W)=>find_any W _ l x.key (h.below hW) (by first|omega|(subst hl;simp)) hr)
 have hle:=lowK_le l x.key
 have HP:Hid (putI l x=l.take (lowK l x.key)++[x]++l.drop (lowK l x.key+1)):=by
  show putI l x=_
  unfold putI
  rw[if_pos hh]
 have hlt:lowK l x.key < l.length:=by
  obtain⟨z,hz,_⟩:=lowK_hit hr (hasK_iff.1 hh)
  exact (List.getElem?_eq_some_iff.1 hz).1
 have hI1:=h.take hle
 have hI3:ItsIn w (.slice (some ⟨b,off+lowK l x.key*3,none⟩) 0 0) (l.drop (lowK l x.key+1)):=by
  rw[List.drop_of_length_le (by omega)]
  exact⟨_,0,rfl,fun _=>rfl,by simp[cellsI],cellsI_ok _,fun h=>absurd h (by simp[cellsI])⟩
 have HJ:Hid (∀ W,Below w.heap.size w W→Calls Tryz.prog 70 #[.slice (some ⟨W.heap.size+1,0,none⟩) 3 3] ((W.alloc (.cells #[.string x.key,.string x.val,.int .i64 x.kind] 29)).alloc (.cells #[.slice (some ⟨b,off,none⟩) (lowK l x.key) c,.slice (some ⟨W.heap.size,0,none⟩) 1 1,.slice (some ⟨b,off+lowK l x.key*3,none⟩) 0 0] 27)).drew fun e w'=>∃ v,e=.returned v∧OwnI W.heap.size w' v (l.take (lowK l x.key)++[x]++l.drop (lowK l x.key+1))∧Below W.heap.size W w'):=fun W hW=>
  join3d W x _ _ _ _ (hI1.below hW) (hI3.below hW) (by rw[List.length_take,List.length_drop];omega)
 rw[hh] at HF
 obtain⟨A,hA⟩:∃ A,A=lowK l x.key:=⟨_,rfl⟩
 rw[← hA] at HF HP HJ hle hcn hlt
 obtain⟨N,hN⟩:∃ N,N=l.length:=⟨_,rfl⟩
 rw[← hN] at hle hc hn hlt
 try rw[← hN]
 try rw[← hN] at HF
 try rw[← hN] at HJ
 have HB0:Hid (Below w.heap.size w (w.alloc (.cells #[.string x.key,.string x.val,.int .i64 x.kind] 29))):=below_new _ _
 have HC:Hid (∀ W,Below (w.alloc (.cells #[.string x.key,.string x.val,.int .i64 x.kind] 29)).heap.size (w.alloc (.cells #[.string x.key,.string x.val,.int .i64 x.kind] 29)) W→W.cell? ⟨w.heap.size,0,none⟩=some (.string x.key)∧W.cell? ⟨w.heap.size,1,none⟩=some (.string x.val)∧W.cell? ⟨w.heap.size,2,none⟩=some (.int .i64 x.kind)):=fun W hW=>
  ⟨(hW.cell (p:=⟨w.heap.size,0,none⟩) (by simp)).trans (by rw[cell_at (new_at w _ _)];rfl),(hW.cell (p:=⟨w.heap.size,1,none⟩) (by simp)).trans (by rw[cell_at (new_at w _ _)];rfl),(hW.cell (p:=⟨w.heap.size,2,none⟩) (by simp)).trans (by rw[cell_at (new_at w _ _)];rfl)⟩
 unfold It.v
 have k1:(A:Int)≤(N:Int):=by omega
 have k2:(0:Int)≤(A:Int):=by omega
 have k3:(A:Int)≤(c:Int):=by omega
 have k4:(N:Int)≤(c:Int):=by omega
 have k5:N - A=1:=by omega
 have k6:c - A=1:=by omega
 have k7:c≠A:=by omega
 clear hcn hlt
 clear hA hN h hr hh hI1 hI3
 go_enter Tryz.func56,Tryz.ntmps56
 go_upto_region 5 with (go_at_call 66;(with_reducible refine (HF.out _ HB0.out).mono ?_);rintro e w1 ⟨rfl,hb⟩;have HB1:=qh hb;have HB1d:=qh (thenBelow HB1.out (Below.refl _ _).drew);have HW1:=qh (thenBelow HB0.out HB1.out);clear hb)
 go_region_held3 (fun W=>W.cell? ⟨w.heap.size,0,none⟩=some (.string x.key)∧W.cell? ⟨w.heap.size,1,none⟩=some (.string x.val)∧W.cell? ⟨w.heap.size,2,none⟩=some (.int .i64 x.kind)) (first|exact HC.out _ HB1d.out|exact HC.out _ HB1.out|exact HC.out _ (grow HB1d.out _)|exact HC.out _ (grow HB1.out _)|exact HC.out _ (grow (grow HB1d.out _) _)|exact HC.out _ (thenBelow (grow HB1.out _) (Below.refl _ _).drew)|exact HC.out _ (thenBelow (grow (grow HB1.out _) _) (Below.refl _ _).drew)|exact HC.out _ HB2.out) ((go_at_call 70;(with_reducible refine (HJ.out _ HW1.out).mono ?_);rintro e w2 ⟨v2,rfl,h2,hb⟩;have HO2:=qh (h2.lo_ HW1.out.size);have HB2:=qh (thenBelow HB1.out hb);clear h2 hb))
 all_goals
  go_wp2
  go_ret
  exact⟨_,rfl,by rw[HP.out];exact HO2.out,thenBelow HB0.out HB2.out⟩
theorem put_nil(w:World)(l:List It)(x:It)(h:ItsIn w (.slice none 0 0) l)(hl:l=[])(hr:RightI l)(hh:hasK l x.key=false) :
  Calls Tryz.prog 56 #[.slice none 0 0,x.v] w fun e w'=>∃ v',e=.returned v'∧OwnI w.heap.size w' v' (putI l x)∧Below w.heap.size w w':=by
 have HF:=qh (fun W (hW:Below w.heap.size w W)=>find_any W _ l x.key (h.below hW) (by first|omega|(subst hl;simp)) hr)
 have hle:=lowK_le l x.key
 have HP:Hid (putI l x=l.take (lowK l x.key)++[x]++l.drop (lowK l x.key)):=by
  show putI l x=_
  unfold putI
  rw[if_neg (by rw[hh];simp)]
 have h0:lowK l x.key=0:=by subst hl;rfl
 have hn:l.length≤0:=by subst hl;exact Nat.le_refl _
 have hI1:ItsIn w (.slice none 0 0) (l.take (lowK l x.key)):=by subst hl;rw[h0];exact h
 have hI3:ItsIn w (.slice none 0 0) (l.drop (lowK l x.key)):=by subst hl;rw[h0];exact h
 have HJ:Hid (∀ W,Below w.heap.size w W→Calls Tryz.prog 70 #[.slice (some ⟨W.heap.size+1,0,none⟩) 3 3] ((W.alloc (.cells #[.string x.key,.string x.val,.int .i64 x.kind] 29)).alloc (.cells #[.slice none 0 0,.slice (some ⟨W.heap.size,0,none⟩) 1 1,.slice none 0 0] 27)).drew fun e w'=>∃ v,e=.returned v∧OwnI W.heap.size w' v (l.take (lowK l x.key)++[x]++l.drop (lowK l x.key))∧Below W.heap.size W w'):=fun W hW=>
  join3d W x _ _ _ _ (hI1.below hW) (hI3.below hW) (by rw[List.length_take,List.length_drop];omega)
 rw[hh] at HF
 obtain⟨A,hA⟩:∃ A,A=lowK l x.key:=⟨_,rfl⟩
 rw[← hA] at HF HP HJ hle h0
 obtain⟨N,hN⟩:∃ N,N=l.length:=⟨_,rfl⟩
 rw[← hN] at hle hn
 try rw[← hN]
 try rw[← hN] at HF
 try rw[← hN] at HJ
 have HB0:Hid (Below w.heap.size w (w.alloc (.cells #[.string x.key,.string x.val,.int .i64 x.kind] 29))):=below_new _ _
 have HC:Hid (∀ W,Below (w.alloc (.cells #[.string x.key,.string x.val,.int .i64 x.kind] 29)).heap.size (w.alloc (.cells #[.string x.key,.string x.val,.int .i64 x.kind] 29)) W→W.cell? ⟨w.heap.size,0,none⟩=some (.string x.key)∧W.cell? ⟨w.heap.size,1,none⟩=some (.string x.val)∧W.cell? ⟨w.heap.size,2,none⟩=some (.int .i64 x.kind)):=fun W hW=>
  ⟨(hW.cell (p:=⟨w.heap.size,0,none⟩) (by simp)).trans (by rw[cell_at (new_at w _ _)];rfl),(hW.cell (p:=⟨w.heap.size,1,none⟩) (by simp)).trans (by rw[cell_at (new_at w _ _)];rfl),(hW.cell (p:=⟨w.heap.size,2,none⟩) (by simp)).trans (by rw[cell_at (new_at w _ _)];rfl)⟩
 unfold It.v
 obtain rfl:A=0:=by omega
 clear h0 hn hle hl
 clear hA hN h hr hh hI1 hI3
 go_enter Tryz.func56,Tryz.ntmps56
 go_upto_region 5 with (go_at_call 66;(with_reducible refine (HF.out _ HB0.out).mono ?_);rintro e w1 ⟨rfl,hb⟩;have HB1:=qh hb;have HB1d:=qh (thenBelow HB1.out (Below.refl _ _).drew);have HW1:=qh (thenBelow HB0.out HB1.out);clear hb)
 go_region_held3 (fun W=>W.cell? ⟨w.heap.size,0,none⟩=some (.string x.key)∧W.cell? ⟨w.heap.size,1,none⟩=some (.string x.val)∧W.cell? ⟨w.heap.size,2,none⟩=some (.int .i64 x.kind)) (first|exact HC.out _ HB1d.out|exact HC.out _ HB1.out|exact HC.out _ (grow HB1d.out _)|exact HC.out _ (grow HB1.out _)|exact HC.out _ (grow (grow HB1d.out _) _)|exact HC.out _ (thenBelow (grow HB1.out _) (Below.refl _ _).drew)|exact HC.out _ (thenBelow (grow (grow HB1.out _) _) (Below.refl _ _).drew)|exact HC.out _ HB2.out) ((go_at_call 70;(with_reducible refine (HJ.out _ HW1.out).mono ?_);rintro e w2 ⟨v2,rfl,h2,hb⟩;have HO2:=qh (h2.lo_ HW1.out.size);have HB2:=qh (thenBelow HB1.out hb);clear h2 hb))
 all_goals
  go_wp2
  go_ret
  exact⟨_,rfl,by rw[HP.out];exact HO2.out,thenBelow HB0.out HB2.out⟩
theorem ItsIn.nil_{w:World}{a:Option Addr}{n c:Nat}{l:List It}(h:ItsIn w (.slice a n c) l)(ha:a=none):a=none∧n=0∧c=0∧l=[]:=by
 have hl:=h.slice
 obtain⟨h1,h2⟩:=h.news.2 ha
 obtain⟨_,_,e⟩:=hl
 simp only[Value.slice.injEq] at e
 exact⟨ha,by omega,h2,List.eq_nil_of_length_eq_zero h1⟩
theorem ItsIn.addr{w:World}{A:Addr}{n c:Nat}{l:List It}(h:ItsIn w (.slice (some A) n c) l)(h0:0 < l.length):∃ b off,A=⟨b,off,none⟩:=by
 obtain⟨x,hx⟩:∃ x,l[0]?=some x:=⟨_,List.getElem?_eq_getElem h0⟩
 obtain⟨b,off,e,_⟩:=h.at_ hx
 exact⟨b,off,Option.some.inj e⟩
def Wide(v:Value):Prop:=∃ a n c,v=.slice a n c∧n≤c∧c≤9223372036854775807
def Plain(v:Value):Prop:=∀ A n c,v=.slice (some A) n c→∃ b off,A=⟨b,off,none⟩
theorem OwnI.wide{lo:Nat}{w:World}{v:Value}{l:List It}(h:OwnI lo w v l):Wide v:=by
 rcases h.1.2 with ⟨rfl,e⟩|⟨g,cap,cur,rfl,_,_,h4,h5,_⟩
 ·exact⟨none,0,0,rfl,Nat.le_refl _,by omega⟩
 ·unfold maxLen at h5
  exact⟨_,_,_,rfl,h4,by omega⟩
theorem OwnI.plain{lo:Nat}{w:World}{v:Value}{l:List It}(h:OwnI lo w v l):Plain v:=by
 rcases h.1.2 with ⟨rfl,e⟩|⟨g,cap,cur,rfl,_⟩
 ·intro A n c e
  cases e
 ·intro A n c e
  cases e
  exact⟨g,0,rfl⟩
theorem put_any(w:World)(v:Value)(l:List It)(x:It)(h:ItsIn w v l)(hw:Wide v)(hp:Plain v)(hn:l.length≤800000)(hr:RightI l) :
  Calls Tryz.prog 56 #[v,x.v] w fun e w'=>∃ v',e=.returned v'∧OwnI w.heap.size w' v' (putI l x)∧Below w.heap.size w w':=by
 obtain⟨a,n,c,rfl,hc,hm⟩:=hw
 cases a with
 | none=>
  obtain⟨_,rfl,rfl,rfl⟩:=h.nil_ rfl
  exact put_nil w [] x h rfl hr rfl
 | some A=>
  obtain⟨b,off,rfl⟩:=hp A n c rfl
  obtain rfl:n=l.length:=by
   obtain⟨_,_,e⟩:=h.slice
   simp only[Value.slice.injEq] at e
   exact e.2.1
  cases hh:hasK l x.key with
  | false=>
   by_cases hcn:c=lowK l x.key
   ·exact put_end w b off c l x h hc hm hn hr hh hcn
   ·exact put_moved w b off c l x h hc hm hn hr hh hcn
  | true=>
   by_cases hcn:c=lowK l x.key+1
   ·exact put_last w b off c l x h hc hm hn hr hh hcn
   ·exact put_over w b off c l x h hc hm hn hr hh hcn
theorem join2d(W:World)(s1 s3:Value)(L1 L3:List It)(h1:ItsIn W s1 L1)(h3:ItsIn W s3 L3)(hs:L1.length+L3.length≤900000) :
  Calls Tryz.prog 70 #[.slice (some ⟨W.heap.size,0,none⟩) 2 2] (W.alloc (.cells #[s1,s3] 27)).drew fun e w'=>∃ v,e=.returned v∧OwnI W.heap.size w' v (L1++L3)∧Below W.heap.size W w':=by
 have hd:Below W.heap.size W W.drew:=(Below.refl _ W).drew
 refine (join2 W.drew s1 s3 L1 L3 (h1.below hd) (h3.below hd) hs).mono ?_
 rintro e w' ⟨v,rfl,h4,h5⟩
 exact⟨v,rfl,h4,thenBelow hd h5⟩
theorem drop_not(w:World)(v:Value)(l:List It)(k:ByteArray)(h:ItsIn w v l)(hn:l.length≤800000)(hr:RightI l)(hh:hasK l k=false) :
  Calls Tryz.prog 58 #[v,.string k] w fun e w'=>∃ v',e=.returned (.tuple #[v',.bool (hasK l k)])∧OwnI w.heap.size w' v' (dropI l k)∧Below w.heap.size w w':=by
 have HF:=qh (find_any w v l k h (by omega) hr)
 have HCl:=qh (fun W (hW:Below w.heap.size w W)=>cloneI_any W v l (h.below hW) (by omega))
 have HD:Hid (dropI l k=l):=by
  show dropI l k=l
  unfold dropI
  rw[if_neg (by rw[hh];simp)]
 rw[hh] at HF ⊢
 generalize lowK l k=A at *
 obtain⟨a,c,rfl⟩:=h.slice
 clear h hr hh hn
 go_enter Tryz.func58,Tryz.ntmps58
 go_wp2_with (first
  | (go_at_call 66;(with_reducible refine (HF.out).mono ?_);rintro e w1 ⟨rfl,hb⟩;have HB1:=qh hb;clear hb)
  | (go_at_call 71;(with_reducible refine (HCl.out _ HB1.out).mono ?_);rintro e w2 ⟨v2,rfl,h2,hb⟩;have HO2:=qh (h2.lo_ HB1.out.size);have HB2:=qh (thenBelow HB1.out hb);clear h2 hb))
 go_ret2
 exact⟨_,rfl,by rw[HD.out];exact HO2.out,HB2.out⟩
theorem drop_in(w:World)(b off c:Nat)(l:List It)(k:ByteArray)(h:ItsIn w (.slice (some ⟨b,off,none⟩) l.length c) l)(hc:l.length≤c)(hm:c≤9223372036854775807)(hn:l.length≤800000)(hr:RightI l)(hh:hasK l k=true)(hcn:c≠lowK l k+1) :
  Calls Tryz.prog 58 #[.slice (some ⟨b,off,none⟩) l.length c,.string k] w fun e w'=>∃ v',e=.returned (.tuple #[v',.bool (hasK l k)])∧OwnI w.heap.size w' v' (dropI l k)∧Below w.heap.size w w':=by
 have HF:=qh (find_any w _ l k h (by omega) hr)
 have hlt:lowK l k < l.length:=by
  obtain⟨z,hz,_⟩:=lowK_hit hr (hasK_iff.1 hh)
  exact (List.getElem?_eq_some_iff.1 hz).1
 have HD:Hid (dropI l k=l.take (lowK l k)++l.drop (lowK l k+1)):=by
  show dropI l k=_
  unfold dropI
  rw[if_pos hh]
 have hI1:=h.take (n:=lowK l k) (by omega)
 have hI3:=h.drop (n:=lowK l k+1) hlt (c - (lowK l k+1))
 have HJ:Hid (∀ W,Below w.heap.size w W→Calls Tryz.prog 70 #[.slice (some ⟨W.heap.size,0,none⟩) 2 2] (W.alloc (.cells #[.slice (some ⟨b,off,none⟩) (lowK l k) c,.slice (some ⟨b,off+(lowK l k+1)*3,none⟩) (l.length - (lowK l k+1):Nat) (c - (lowK l k+1):Nat)] 27)).drew fun e w'=>∃ v,e=.returned v∧OwnI W.heap.size w' v (l.take (lowK l k)++l.drop (lowK l k+1))∧Below W.heap.size W w'):=fun W hW=>
  join2d W _ _ _ _ (hI1.below hW) (hI3.below hW) (by rw[List.length_take,List.length_drop];omega)
 rw[hh] at HF ⊢
 obtain⟨A,hA⟩:∃ A,A=lowK l k:=⟨_,rfl⟩
 rw[← hA] at HF HD HJ hcn hlt
 obtain⟨N,hN⟩:∃ N,N=l.length:=⟨_,rfl⟩
 rw[← hN] at HF hlt hc hn ⊢
 try rw[← hN] at HJ
 have k1:(A:Int)≤(N:Int):=by omega
 have k2:(0:Int)≤(A:Int):=by omega
 have k3:(A:Int)≤(c:Int):=by omega
 have k4:(N:Int)≤(c:Int):=by omega
 have k5:(A:Int)+1≤(N:Int):=by omega
 have k6:(0:Int)≤(A:Int)+1:=by omega
 have k7:((A:Int)+1).toNat=A+1:=by omega
 have k8:IntKind.i64.wrap ((A:Int)+1)=(A:Int)+1:=by rw[IntKind.wrap_i64];omega
 clear hA hN h hr hh hI1 hI3 hlt
 go_enter Tryz.func58,Tryz.ntmps58
 go_upto_region 4 with (go_at_call 66;(with_reducible refine (HF.out).mono ?_);rintro e w1 ⟨rfl,hb⟩;have HB1:=qh hb;clear hb)
 go_region_held3 (fun _=>True) (trivial) ((go_at_call 70;(with_reducible refine (HJ.out _ HB1.out).mono ?_);rintro e w2 ⟨v2,rfl,h2,hb⟩;have HO2:=qh (h2.lo_ HB1.out.size);have HB2:=qh (thenBelow HB1.out hb);clear h2 hb))
 all_goals
  go_wp2
  go_ret2
  exact⟨_,rfl,by rw[HD.out];exact HO2.out,HB2.out⟩
theorem drop_last(w:World)(b off c:Nat)(l:List It)(k:ByteArray)(h:ItsIn w (.slice (some ⟨b,off,none⟩) l.length c) l)(hc:l.length≤c)(hm:c≤9223372036854775807)(hn:l.length≤800000)(hr:RightI l)(hh:hasK l k=true)(hcn:c=lowK l k+1) :
  Calls Tryz.prog 58 #[.slice (some ⟨b,off,none⟩) l.length c,.string k] w fun e w'=>∃ v',e=.returned (.tuple #[v',.bool (hasK l k)])∧OwnI w.heap.size w' v' (dropI l k)∧Below w.heap.size w w':=by
 have HF:=qh (find_any w _ l k h (by omega) hr)
 have hlt:lowK l k < l.length:=by
  obtain⟨z,hz,_⟩:=lowK_hit hr (hasK_iff.1 hh)
  exact (List.getElem?_eq_some_iff.1 hz).1
 have HD:Hid (dropI l k=l.take (lowK l k)++l.drop (lowK l k+1)):=by
  show dropI l k=_
  unfold dropI
  rw[if_pos hh]
 have hI1:=h.take (n:=lowK l k) (by omega)
 have hI3:=h.drop_end (n:=lowK l k+1) (by omega) 0 (fun _=>rfl)
 have HJ:Hid (∀ W,Below w.heap.size w W→Calls Tryz.prog 70 #[.slice (some ⟨W.heap.size,0,none⟩) 2 2] (W.alloc (.cells #[.slice (some ⟨b,off,none⟩) (lowK l k) c,.slice (some ⟨b,off,none⟩) 0 0] 27)).drew fun e w'=>∃ v,e=.returned v∧OwnI W.heap.size w' v (l.take (lowK l k)++l.drop (lowK l k+1))∧Below W.heap.size W w'):=fun W hW=>
  join2d W _ _ _ _ (hI1.below hW) (hI3.below hW) (by rw[List.length_take,List.length_drop];omega)
 rw[hh] at HF ⊢
 obtain⟨A,hA⟩:∃ A,A=lowK l k:=⟨_,rfl⟩
 rw[← hA] at HF HD HJ hcn hlt
 obtain⟨N,hN⟩:∃ N,N=l.length:=⟨_,rfl⟩
 rw[← hN] at HF hlt hc hn ⊢
 try rw[← hN] at HJ
 have k1:(A:Int)≤(N:Int):=by omega
 have k2:(0:Int)≤(A:Int):=by omega
 have k3:(A:Int)≤(c:Int):=by omega
 have k4:(N:Int)≤(c:Int):=by omega
 have k5:(A:Int)+1≤(N:Int):=by omega
 have k6:(0:Int)≤(A:Int)+1:=by omega
 have k8:IntKind.i64.wrap ((A:Int)+1)=(A:Int)+1:=by rw[IntKind.wrap_i64];omega
 have k9:N - c=0:=by omega
 have k7:((A:Int)+1).toNat=c:=by omega
 clear hcn
 clear hA hN h hr hh hI1 hI3 hlt
 go_enter Tryz.func58,Tryz.ntmps58
 go_upto_region 4 with (go_at_call 66;(with_reducible refine (HF.out).mono ?_);rintro e w1 ⟨rfl,hb⟩;have HB1:=qh hb;clear hb)
 go_region_held3 (fun _=>True) (trivial) ((go_at_call 70;(with_reducible refine (HJ.out _ HB1.out).mono ?_);rintro e w2 ⟨v2,rfl,h2,hb⟩;have HO2:=qh (h2.lo_ HB1.out.size);have HB2:=qh (thenBelow HB1.out hb);clear h2 hb))
 all_goals
  go_wp2
  go_ret2
  exact⟨_,rfl,by rw[HD.out];exact HO2.out,HB2.out⟩
theorem drop_any(w:World)(v:Value)(l:List It)(k:ByteArray)(h:ItsIn w v l)(hw:Wide v)(hn:l.length≤800000)(hr:RightI l) :
  Calls Tryz.prog 58 #[v,.string k] w fun e w'=>∃ v',e=.returned (.tuple #[v',.bool (hasK l k)])∧OwnI w.heap.size w' v' (dropI l k)∧Below w.heap.size w w':=by
 cases hh:hasK l k with
 | false=>
  have:=drop_not w v l k h hn hr hh
  rwa[hh] at this
 | true=>
  obtain⟨a,n,c,rfl,hc,hm⟩:=hw
  have h0:0 < l.length:=by
   obtain⟨z,hz,_⟩:=lowK_hit hr (hasK_iff.1 hh)
   have:=(List.getElem?_eq_some_iff.1 hz).1
   omega
  cases a with
  | none=>
   obtain⟨_,_,_,rfl⟩:=h.nil_ rfl
   exact absurd h0 (Nat.lt_irrefl _)
  | some A=>
   obtain⟨b,off,rfl⟩:=h.addr h0
   obtain rfl:n=l.length:=by
    obtain⟨_,_,e⟩:=h.slice
    simp only[Value.slice.injEq] at e
    exact e.2.1
   rw[← hh]
   by_cases hcn:c=lowK l k+1
   ·exact drop_last w b off c l k h hc hm hn hr hh hcn
   ·exact drop_in w b off c l k h hc hm hn hr hh hcn
end Go.Proofs.YtjepgclnbbpnaaaGreat.P9
