/-
  Texts of the proofs of SaidOrd12.
-/
import Derived.Test.YtjepgclnbbpnaaaGreatMs18
set_option linter.unusedVariables false
set_option linter.unusedSimpArgs false
set_option maxHeartbeats 8000000
set_option maxRecDepth 100000
namespace Go.Proofs.YtjepgclnbbpnaaaGreat.P12
open PK (qqA qqB qqC qqD qqE qqF tk tkS dOne qh)
open Go Go.RowKit Go.Lib PK
theorem fin3{w W:World}(x:Option Nat){rb:Nat}{a b c:Value}(hb:Below w.heap.size w W)(hr:W.heap[rb]?=some (.cells #[a,b,c] 80 (0,0)))(hle:w.heap.size≤rb)(u0 u1 u2:Value) :
  (((W.setCell ⟨rb,0,none⟩ u0).setCell ⟨rb,1,none⟩ u1).setCell ⟨rb,2,none⟩ u2).heap[rb]?=some (.cells #[u0,u1,u2] 80 (0,0))∧Below w.heap.size w (((W.setCell ⟨rb,0,none⟩ u0).setCell ⟨rb,1,none⟩ u1).setCell ⟨rb,2,none⟩ u2)∧FrT x W (((W.setCell ⟨rb,0,none⟩ u0).setCell ⟨rb,1,none⟩ u1).setCell ⟨rb,2,none⟩ u2):=by
 refine⟨(r5_set hr u0 u1 u2).1,((hb.setCell (p:=⟨rb,0,none⟩) hle u0).setCell (p:=⟨rb,1,none⟩) hle u1).setCell (p:=⟨rb,2,none⟩) hle u2,FrT.ofFr (((fr_set _ rb 0 u0).trans (fr_set _ rb 1 u1)).trans (fr_set _ rb 2 u2)) fun k cs t hk hs e=>?_⟩
 rw[hk,hr] at e
 cases e
 rcases hs.1 with h9|h9 <;> cases h9
theorem jn_items(W:World)(s1 s2:Value)(L1 L2:List P9.It)(h1:P9.ItsIn W s1 L1)(h2:P9.ItsIn W s2 L2)(hs:(L1++L2).length≤1000000) :
  Calls Tryz.prog 70 #[.slice (some ⟨W.heap.size,0,none⟩) 2 2] (W.alloc (.cells #[s1,s2] 27)) fun e w'=>∃ v,e=.returned v∧P9.OwnI W.heap.size w' v (L1++L2)∧Below W.heap.size W w':=by
 have hb:=below_new W (.cells #[s1,s2] 27)
 refine (P9.concat_any (W.alloc (.cells #[s1,s2] 27)) W.heap.size 2 2 [s1,s2] [L1,L2] (by simp) (by omega) rfl rfl (fun i u hu=>?_) (fun i u L hu hL=>?_) (by simpa using hs)).mono ?_
 ·rw[cell_at (new_at W _ _),List.getElem?_toArray]
  exact hu
 ·match i,hu,hL with
  | 0,hu,hL=>
   cases hu
   cases hL
   exact h1.below hb
  | 1,hu,hL=>
   cases hu
   cases hL
   exact h2.below hb
  | n+2,hu,hL=>simp at hu
 ·rintro e w' ⟨v,rfl,g1,g2⟩
  exact⟨v,rfl,by simpa using g1.lo_ hb.size,thenBelow hb g2⟩
theorem jn_kids(W:World)(s1 s2:Value)(L1 L2:List P10.It)(h1:P10.ItsIn W s1 L1)(h2:P10.ItsIn W s2 L2)(hs:(L1++L2).length≤1000000) :
  Calls Tryz.prog 104 #[.slice (some ⟨W.heap.size,0,none⟩) 2 2] (W.alloc (.cells #[s1,s2] 78)) fun e w'=>∃ v,e=.returned v∧P10.OwnI W.heap.size w' v (L1++L2)∧Below W.heap.size W w':=by
 have hb:=below_new W (.cells #[s1,s2] 78)
 refine (P10.concat_any (W.alloc (.cells #[s1,s2] 78)) W.heap.size 2 2 [s1,s2] [L1,L2] (by simp) (by omega) rfl rfl (fun i u hu=>?_) (fun i u L hu hL=>?_) (by simpa using hs)).mono ?_
 ·rw[cell_at (new_at W _ _),List.getElem?_toArray]
  exact hu
 ·match i,hu,hL with
  | 0,hu,hL=>
   cases hu
   cases hL
   exact h1.below hb
  | 1,hu,hL=>
   cases hu
   cases hL
   exact h2.below hb
  | n+2,hu,hL=>simp at hu
 ·rintro e w' ⟨v,rfl,g1,g2⟩
  exact⟨v,rfl,by simpa using g1.lo_ hb.size,thenBelow hb g2⟩
theorem join_lf(w:World)(x:Option Nat)(v1 v2:Value)(l1 l2:List P9.It)(key:ByteArray)(h1:ItT w x v1 l1)(h2:ItT w x v2 l2)(hs:(l1++l2).length≤1000000)(hx:∀ k,x=some k→k < w.heap.size) :
  Calls Tryz.prog 127 #[(Nd.lf l1).v v1 (.slice none 0 0),(Nd.lf l2).v v2 (.slice none 0 0),.string key] w fun e w'=>∃ v,e=.returned ((Nd.lf (l1++l2)).v v (.slice none 0 0))∧ItT w' x v (l1++l2)∧Below w.heap.size w w':=by
 obtain⟨a,c,rfl⟩:=h1.its.slice
 obtain⟨a',c',rfl⟩:=h2.its.slice
 unfold Nd.v
 simp only[Nd.kind]
 obtain⟨X,hX⟩:∃ X,X=((w.alloc (.cells #[.int .i64 3,.slice a l1.length c,.slice none 0 0] 80)).alloc (.cells #[.int .i64 3,.slice a' l2.length c',.slice none 0 0] 80)).alloc (.cells #[.int .i64 0,.slice none 0 0,.slice none 0 0] 80):=⟨_,rfl⟩
 have hR:=three_new w #[.int .i64 3,.slice a l1.length c,.slice none 0 0] #[.int .i64 3,.slice a' l2.length c',.slice none 0 0] #[.int .i64 0,.slice none 0 0,.slice none 0 0] 80 80 80
 rw[← hX] at hR
 have hbX:Below w.heap.size w X:=by rw[hX];exact grow (grow (below_new _ _) _) _
 have HR:=qh hR
 have HBX:=qh hbX
 have HJ:=qh (fun W (k:Below X.heap.size X W)=>jn_items W _ _ l1 l2 (h1.its.below (thenBelow hbX k)) (h2.its.below (thenBelow hbX k)) hs)
 have HXX:=qh (Below.refl X.heap.size X)
 obtain⟨r0,r1,r2⟩:=hR X (Below.refl _ _)
 have q0:=cell_at r0 0
 have q1:=cell_at r0 1
 have q4:=cell_at r1 1
 simp only[qqD,qqE,qqF] at q0 q1 q4
 have HHx:=qh hx
 clear hR hbX h1 h2 r0 r1 r2
 go_enter Tryz.func127,Tryz.ntmps127
 go_upto_region 1 with fail
 rw[← hX]
 clear hX
 go_wp2_with (first
  | (go_at_call 70;(with_reducible refine (HJ.out _ HXX.out).mono ?_);rintro e w4 ⟨v,rfl,h4,h5⟩;have H4:=qh h4;have H5:=qh h5;obtain⟨a9,c9,e9⟩:=h4.its.slice;subst e9;clear h4 h5)
  | (go_at_call 55;(with_reducible refine (ofItems_any _ _ _ _).mono ?_);rintro e w5 ⟨rfl,h5⟩;have H6:=qh h5;have H7:=qh (thenBelow H5.out h5);obtain⟨_,_,p2⟩:=HR.out _ H7.out;have z0:=cell_at p2 0;have z1:=cell_at p2 1;have z2:=cell_at p2 2;have f0:=free_at p2 0;have f1:=free_at p2 1;have f2:=free_at p2 2;simp only[qqD,qqE,qqF] at z0 z1 z2;clear h5 p2))
 obtain⟨_,_,p2⟩:=HR.out _ H7.out
 have hbz:=HBX.out.trans (H7.out.mono HBX.out.size)
 obtain⟨g1,g2,g3⟩:=fin3 x hbz p2 (by omega) (.int .i64 3) (.slice a9 (l1.length+l2.length) c9) (.slice none 0 0)
 refine bodyPost_ret (node_result rfl _ _ (w.heap.size+1+1) _ rfl g1 rfl) rfl ⟨_,rfl,?_,g2⟩
 have h9:=H4.out
 rw[List.length_append] at h9
 exact ((ItT.own h9 fun k hk=>Nat.lt_of_lt_of_le (HHx.out k hk) HBX.out.size).keep (FrT.of H6.out)).keep g3
def rekey(l:List P10.It)(i:Nat)(k:ByteArray):List P10.It:=match l[i]? with
 | some q=>l.set i ⟨k,q.page⟩
 | none=>l
theorem rekey_at{l:List P10.It}{i:Nat}{q:P10.It}(h:l[i]?=some q)(k:ByteArray):rekey l i k=l.set i ⟨k,q.page⟩:=by
 unfold rekey
 rw[h]
theorem rekey_len(l:List P10.It)(i:Nat)(k:ByteArray):(rekey l i k).length=l.length:=by
 unfold rekey
 cases l[i]? <;> simp
theorem rekey_cells{l:List P10.It}{i:Nat}{q:P10.It}(h:l[i]?=some q)(k:ByteArray):(P10.cellsI (rekey l i k)).flatten=(P10.cellsI l).flatten.set (i*2) (.string k):=by
 rw[rekey_at h]
 have e:=flat_set (n:=2) (l:=P10.cellsI l) (fun y hy=>by
  unfold P10.cellsI at hy
  obtain⟨z,_,rfl⟩:=List.mem_map.1 hy
  rfl) (i:=i) (j:=0) (x:=q.cells) (u:=.string k) (P10.cellsI_at h) (by omega)
 rw[Nat.add_zero] at e
 rw[← e]
 congr 1
 unfold P10.cellsI
 rw[List.map_set]
 rfl
theorem rekey_own{lo:Nat}{w:World}{g c:Nat}{l:List P10.It}(h:P10.OwnI lo w (.slice (some ⟨g,0,none⟩) l.length c) l){i:Nat}{q:P10.It}(hi:l[i]?=some q)(k:ByteArray) :
  P10.OwnI lo (w.setCell ⟨g,i*2,none⟩ (.string k)) (.slice (some ⟨g,0,none⟩) l.length c) (rekey l i k):=by
 refine⟨?_,by rw[rekey_len];exact h.2⟩
 rw[rekey_cells hi,rekey_len]
 exact (h.1.stored (i*2) (.string k)).1
theorem own_cell{lo:Nat}{w:World}{v:Value}{l:List P10.It}(h:P10.OwnI lo w v l){i:Nat}{q:P10.It}(hi:l[i]?=some q):∃ g c,v=.slice (some ⟨g,0,none⟩) l.length c∧lo≤g∧w.cell? ⟨g,i*2,none⟩=some (.string q.key)∧w.cell? ⟨g,i*2+1,none⟩=some (.int .i64 q.page)∧(∀ j,w.frozen? ⟨g,j,none⟩=false)∧∃ cs,w.heap[g]?=some (.cells cs 106 (0,0)):=by
 have hlt:=(List.getElem?_eq_some_iff.1 hi).1
 have hk:=h.its
 rcases h.1.2 with ⟨_,e⟩|⟨g,cap,cur,rfl,hb,hg,_⟩
 ·omega
 ·obtain⟨b2,off,e,hc⟩:=hk.at_ hi
  simp only[Option.some.injEq,Addr.mk.injEq,and_true] at e
  obtain⟨rfl,rfl⟩:=e
  obtain⟨c0,c1⟩:=hc w (Below.refl _ _)
  rw[Nat.zero_add] at c0 c1
  exact⟨g,cap,rfl,hb,c0,c1,fun j=>free_at hg j,cur,hg⟩
theorem join_tw(w:World)(x:Option Nat)(v1 v2:Value)(l1 l2:List P10.It)(key:ByteArray)(h1:KdT w x v1 l1)(h2:KdT w x v2 l2)(hs:(l1++l2).length≤1000000)(h0:0 < l2.length)(hx:∀ k,x=some k→k < w.heap.size) :
  Calls Tryz.prog 127 #[(Nd.tw l1).v (.slice none 0 0) v1,(Nd.tw l2).v (.slice none 0 0) v2,.string key] w fun e w'=>∃ v,e=.returned ((Nd.tw (rekey (l1++l2) l1.length key)).v (.slice none 0 0) v)∧KdT w' x v (rekey (l1++l2) l1.length key)∧Below w.heap.size w w':=by
 obtain⟨a,c,rfl⟩:=h1.its.slice
 obtain⟨a',c',rfl⟩:=h2.its.slice
 unfold Nd.v
 simp only[Nd.kind]
 obtain⟨X,hX⟩:∃ X,X=((w.alloc (.cells #[.int .i64 4,.slice none 0 0,.slice a l1.length c] 80)).alloc (.cells #[.int .i64 4,.slice none 0 0,.slice a' l2.length c'] 80)).alloc (.cells #[.int .i64 0,.slice none 0 0,.slice none 0 0] 80):=⟨_,rfl⟩
 have hR:=three_new w #[.int .i64 4,.slice none 0 0,.slice a l1.length c] #[.int .i64 4,.slice none 0 0,.slice a' l2.length c'] #[.int .i64 0,.slice none 0 0,.slice none 0 0] 80 80 80
 rw[← hX] at hR
 have hbX:Below w.heap.size w X:=by rw[hX];exact grow (grow (below_new _ _) _) _
 have HR:=qh hR
 have HBX:=qh hbX
 have HJ:=qh (fun W (k:Below X.heap.size X W)=>jn_kids W _ _ l1 l2 (h1.its.below (thenBelow hbX k)) (h2.its.below (thenBelow hbX k)) hs)
 have HXX:=qh (Below.refl X.heap.size X)
 obtain⟨r0,r1,r2⟩:=hR X (Below.refl _ _)
 have q0:=cell_at r0 0
 have q1:=cell_at r0 2
 have q4:=cell_at r1 2
 simp only[qqD,qqE,qqF] at q0 q1 q4
 have HHx:=qh hx
 obtain⟨q,hq⟩:∃ q,(l1++l2)[l1.length]?=some q:=⟨_,List.getElem?_eq_getElem (by rw[List.length_append];omega)⟩
 have HQ:=qh hq
 have HLs:=qh (show l1.length < (l1++l2).length by rw[List.length_append];omega)
 obtain⟨L,hL⟩:∃ L,L=l1++l2:=⟨_,rfl⟩
 rw[← hL] at HJ HQ HLs hs ⊢
 obtain⟨K,hK⟩:∃ K,K=l1.length:=⟨_,rfl⟩
 rw[← hK] at HQ HLs hX HR q1 ⊢
 have j1:(0:Int)≤(K:Int):=by omega
 have j2:(K:Int) < (L.length:Int):=by have:=HLs.out;omega
 obtain⟨N,hN⟩:∃ N,N=L.length:=⟨_,rfl⟩
 rw[← hN] at j2
 have HN:=qh hN
 have HK:=qh hK
 rw[← hK] at HJ
 clear hR hbX h1 h2 r0 r1 r2 hq hL hK hN
 go_enter Tryz.func127,Tryz.ntmps127
 go_upto_region 1 with fail
 rw[← hX]
 clear hX
 go_upto_region 4 with (go_at_call 104;(with_reducible refine (HJ.out _ HXX.out).mono ?_);rintro e w4 ⟨v,rfl,h4,h5⟩;have H4:=qh h4;have H5:=qh h5;clear h4 h5)
 obtain⟨g,c9,e9,hgx,y0,_,y2,cs9,y3⟩:=own_cell H4.out HQ.out
 subst e9
 have HGx:=qh hgx
 have HO:=qh (rekey_own H4.out HQ.out key)
 rw[← HN.out] at HO ⊢
 have y4:=y2 (K*2)
 obtain⟨_,_,p2⟩:=HR.out _ H5.out
 have p1:=(HR.out _ H5.out).1
 have y5:=cell_at p1 2
 simp only[qqD,qqE,qqF] at y5
 have hne:w.heap.size+2≠g:=fun e=>by
  rw[← e,p2] at y3
  cases y3
 have HP2:Hid (∀ W,Below (w4.setCell ⟨g,K*2,none⟩ (.string key)).heap.size (w4.setCell ⟨g,K*2,none⟩ (.string key)) W→W.heap[w.heap.size+2]?=some (.cells #[.int .i64 0,.slice none 0 0,.slice none 0 0] 80 (0,0))):=fun W b=>P3.old_below (P3.old_set p2 ⟨g,K*2,none⟩ hne _) b
 have H5s:Hid (Below X.heap.size X (w4.setCell ⟨g,K*2,none⟩ (.string key))):=H5.out.setCell (p:=⟨g,K*2,none⟩) hgx _
 clear y2 y3 p1 p2 hgx
 go_wp2_with (first
  | (go_at_call 86;(with_reducible refine (ofKids_any _ _ _ _).mono ?_);rintro e w5 ⟨rfl,h5⟩;have H6:=qh h5;have H7:=qh (thenBelow H5s.out h5);have p2:=HP2.out _ h5;have z0:=cell_at p2 0;have z1:=cell_at p2 1;have z2:=cell_at p2 2;have f0:=free_at p2 0;have f1:=free_at p2 1;have f2:=free_at p2 2;simp only[qqD,qqE,qqF] at z0 z1 z2;clear h5 p2))
 have p2:=HP2.out _ H6.out
 have hbz:=HBX.out.trans (H7.out.mono HBX.out.size)
 obtain⟨g1,g2,g3⟩:=fin3 x hbz p2 (by omega) (.int .i64 4) (.slice none 0 0) (.slice (some ⟨g,0,none⟩) N c9)
 refine bodyPost_ret (node_result rfl _ _ (w.heap.size+1+1) _ rfl g1 rfl) rfl ⟨_,rfl,?_,g2⟩
 exact ((KdT.own HO.out fun k hk=>Nat.lt_of_lt_of_le (HHx.out k hk) HBX.out.size).keep (FrT.of H6.out)).keep g3
end Go.Proofs.YtjepgclnbbpnaaaGreat.P12
