/-
  Texts of the proofs of SaidPlays12.
-/
import Derived.Test.YtjepgclnbbpnaaaGreatMr12
set_option linter.unusedVariables false
set_option linter.unusedSimpArgs false
set_option maxHeartbeats 8000000
set_option maxRecDepth 100000
namespace Go.Proofs.YtjepgclnbbpnaaaGreat.P12
open PK (qqA qqB qqC qqD qqE qqF tk tkS dOne qh)
open Go Go.RowKit Go.Lib PK
open P11 (Pg)
open P9 (Wide Plain)
theorem node_result{fn:Func}{q:Tmp}(h:fn.results=#[.cell q 80])(tmps:Array Value)(w:World)(a:Nat)(cs:Array Value)(hq:tmps.getD q undef=.pointer (some ⟨a,0,none⟩))(hc:w.heap[a]?=some (.cells cs 80 (0,0)))(hs:cs.size=3) :
  (results fn tmps).run Tryz.prog w=.ok (.agg cs) w:=by
 have hi:(Tryz.prog.info? 80).map (·.size)=some cs.size:=by rw[hs];kernel_rfl
 exact results_cell_row h tmps w a 80 cs (0,0) _ hq hc Tryz.underlying80 rfl hi
theorem ofItems_any(w:World)(a:Option Addr)(n c:Nat):Calls Tryz.prog 55 #[.slice a n c] w fun e w'=>e=.returned (.agg #[.int .i64 3,.slice a n c,.slice none 0 0])∧Below w.heap.size w w':=by
 go_enter Tryz.func55,Tryz.ntmps55
 go_wp2
 exact bodyPost_ret (node_result rfl _ _ w.heap.size _ rfl (new_at _ _ _) rfl) rfl ⟨rfl,below_new _ _⟩
theorem ofKids_any(w:World)(a:Option Addr)(n c:Nat):Calls Tryz.prog 86 #[.slice a n c] w fun e w'=>e=.returned (.agg #[.int .i64 4,.slice none 0 0,.slice a n c])∧Below w.heap.size w w':=by
 go_enter Tryz.func86,Tryz.ntmps86
 go_wp2
 exact bodyPost_ret (node_result rfl _ _ w.heap.size _ rfl (new_at _ _ _) rfl) rfl ⟨rfl,below_new _ _⟩
theorem count_any(w:World)(x:Option Nat)(vi vk:Value)(nd:Nd)(h:NdT w x vi vk nd)(hl:nd.len≤1000000):Calls Tryz.prog 97 #[nd.v vi vk] w fun e w'=>e=.returned (.int .i64 (nd.len:Nat))∧Below w.heap.size w w':=by
 obtain⟨a,n,c,a',n',c',rfl,rfl,e,e1,e2,e3⟩:=h.lens
 have hw:IntKind.i64.wrap ((n:Int)+(n':Int))=(nd.len:Nat):=by rw[IntKind.wrap_i64];omega
 clear h
 unfold Nd.v
 go_enter Tryz.func97,Tryz.ntmps97
 go_wp2
 go_ret
 exact⟨rfl,below_new _ _⟩
theorem least_any(w:World)(vi vk:Value)(nd:Nd):Calls Tryz.prog 98 #[nd.v vi vk] w fun e w'=>e=.returned (.int .i64 (nd.least:Nat))∧Below w.heap.size w w':=by
 cases nd
 all_goals
  unfold Nd.v Nd.kind Nd.least
  go_enter Tryz.func98,Tryz.ntmps98
  go_wp2
  go_ret
  exact⟨rfl,below_new _ _⟩
theorem size_any(w:World)(x:Option Nat)(vi vk:Value)(nd:Nd)(h:NdT w x vi vk nd)(hs:nd.sum≤1000000):Calls Tryz.prog 100 #[nd.v vi vk] w fun e w'=>e=.returned (.int .i64 ((1+nd.sum:Nat):Int))∧Below w.heap.size w w':=by
 cases nd with
 | lf l=>
  obtain⟨h1,rfl⟩:=h
  have HS:=qh (fun W (b:Below w.heap.size w W)=>P9.size_any W vi l (h1.its.below b) hs)
  obtain⟨a,c,rfl⟩:=h1.its.slice
  unfold Nd.v Nd.kind Nd.sum
  clear h1 hs
  go_enter Tryz.func100,Tryz.ntmps100
  go_wp2_with (go_at_call 125;(with_reducible refine (HS.out _ (below_new _ _)).mono ?_);rintro e w1 ⟨rfl,hb⟩)
  go_ret
  exact⟨rfl,thenBelow (below_new _ _) hb⟩
 | tw l=>
  obtain⟨rfl,h1⟩:=h
  have HS:=qh (fun W (b:Below w.heap.size w W)=>P10.size_any W vk l (h1.its.below b) hs)
  obtain⟨a,c,rfl⟩:=h1.its.slice
  unfold Nd.v Nd.kind Nd.sum
  clear h1 hs
  go_enter Tryz.func100,Tryz.ntmps100
  go_wp2_with (go_at_call 126;(with_reducible refine (HS.out _ (below_new _ _)).mono ?_);rintro e w1 ⟨rfl,hb⟩)
  go_ret
  exact⟨rfl,thenBelow (below_new _ _) hb⟩
def Nd.fits(nd:Nd):Bool:=decide (1+nd.sum≤232)
theorem fits_any(w:World)(x:Option Nat)(vi vk:Value)(nd:Nd)(h:NdT w x vi vk nd)(hs:nd.sum≤1000000):Calls Tryz.prog 102 #[nd.v vi vk] w fun e w'=>e=.returned (.bool nd.fits)∧Below w.heap.size w w':=by
 have HS:=qh (fun W (b:Below w.heap.size w W)=>size_any W x vi vk nd (h.keep (FrT.of b)) hs)
 have hf:decide (((1+nd.sum:Nat):Int)≤232)=nd.fits:=by
  unfold Nd.fits
  exact decide_eq_decide.2 (by omega)
 obtain⟨a,n,c,a',n',c',rfl,rfl,_⟩:=h.lens
 unfold Nd.v at HS ⊢
 generalize ((1+nd.sum:Nat):Int)=N at *
 generalize nd.fits=B at *
 generalize nd.kind=K at *
 clear h hs
 go_enter Tryz.func102,Tryz.ntmps102
 go_wp2_with (go_at_call 100;(with_reducible refine (HS.out _ (below_new _ _)).mono ?_);rintro e w1 ⟨rfl,hb⟩)
 go_ret
 exact⟨by rw[← hf];rfl,thenBelow (below_new _ _) hb⟩
def Nd.key:Nd→ByteArray
 | .lf l=>(l[0]?.map (·.key)).getD ⟨#[]⟩
 | .tw l=>(l[0]?.map (·.key)).getD ⟨#[]⟩
theorem key_any(w:World)(x:Option Nat)(vi vk:Value)(nd:Nd)(h:NdT w x vi vk nd)(hn:0 < nd.len):Calls Tryz.prog 132 #[nd.v vi vk] w fun e w'=>e=.returned (.string nd.key)∧Below w.heap.size w w':=by
 cases nd with
 | lf l=>
  obtain⟨h1,rfl⟩:=h
  have hn:0 < l.length:=hn
  obtain⟨y,hy⟩:∃ y,l[0]?=some y:=⟨_,List.getElem?_eq_getElem hn⟩
  have hk0:(Nd.lf l).key=y.key:=by simp[Nd.key,hy]
  have HK:=qh hk0
  clear hk0
  obtain⟨a,c,rfl⟩:=h1.its.slice
  obtain⟨b,off,rfl,hc⟩:=h1.its.at_ hy
  have c0:=(hc _ (below_new w (.cells #[.int .i64 3,.slice (some ⟨b,off,none⟩) l.length c,.slice none 0 0] 80))).1
  rw[Nat.zero_mul,Nat.add_zero] at c0
  unfold Nd.v
  simp only[Nd.kind]
  generalize l.length=N at *
  clear h1 hc hy
  go_enter Tryz.func132,Tryz.ntmps132
  go_wp2
  go_ret
  exact⟨by rw[HK.out];rfl,below_new _ _⟩
 | tw l=>
  obtain⟨rfl,h1⟩:=h
  have hn:0 < l.length:=hn
  obtain⟨y,hy⟩:∃ y,l[0]?=some y:=⟨_,List.getElem?_eq_getElem hn⟩
  have hk0:(Nd.tw l).key=y.key:=by simp[Nd.key,hy]
  have HK:=qh hk0
  clear hk0
  obtain⟨a,c,rfl⟩:=h1.its.slice
  obtain⟨b,off,rfl,hc⟩:=h1.its.at_ hy
  have c0:=(hc _ (below_new w (.cells #[.int .i64 4,.slice none 0 0,.slice (some ⟨b,off,none⟩) l.length c] 80))).1
  rw[Nat.zero_mul,Nat.add_zero] at c0
  unfold Nd.v
  simp only[Nd.kind]
  generalize l.length=N at *
  clear h1 hc hy
  go_enter Tryz.func132,Tryz.ntmps132
  go_wp2
  go_ret
  exact⟨by rw[HK.out];rfl,below_new _ _⟩
noncomputable def Nd.lay:Nd→ByteArray×Int
 | .lf l=>P9.layR l
 | .tw l=>P10.layR l
theorem lay_any(w:World)(x:Option Nat)(vi vk:Value)(nd:Nd)(h:NdT w x vi vk nd)(hs:nd.sum≤1000000):Calls Tryz.prog 129 #[nd.v vi vk] w fun e w'=>e=.returned (.tuple #[.string nd.lay.1,.int .i64 nd.lay.2])∧Below w.heap.size w w':=by
 cases nd with
 | lf l=>
  obtain⟨h1,rfl⟩:=h
  have HS:=qh (fun W (b:Below w.heap.size w W)=>P9.lay_any W vi l (h1.its.below b) hs)
  obtain⟨a,c,rfl⟩:=h1.its.slice
  unfold Nd.v Nd.kind Nd.lay
  clear h1 hs
  go_enter Tryz.func129,Tryz.ntmps129
  go_wp2_with (go_at_call 122;(with_reducible refine (HS.out _ (below_new _ _)).mono ?_);rintro e w1 ⟨rfl,hb⟩)
  go_ret2
  exact⟨rfl,thenBelow (below_new _ _) hb⟩
 | tw l=>
  obtain⟨rfl,h1⟩:=h
  have HS:=qh (fun W (b:Below w.heap.size w W)=>P10.lay_any W vk l (h1.its.below b) hs)
  obtain⟨a,c,rfl⟩:=h1.its.slice
  unfold Nd.v Nd.kind Nd.lay
  clear h1 hs
  go_enter Tryz.func129,Tryz.ntmps129
  go_wp2_with (go_at_call 124;(with_reducible refine (HS.out _ (below_new _ _)).mono ?_);rintro e w1 ⟨rfl,hb⟩)
  go_ret2
  exact⟨rfl,thenBelow (below_new _ _) hb⟩
theorem node_result2{fn:Func}{q u:Tmp}(h:fn.results=#[.cell q 80,.tmp u])(tmps:Array Value)(w:World)(a:Nat)(cs:Array Value)(hq:tmps.getD q undef=.pointer (some ⟨a,0,none⟩))(hc:w.heap[a]?=some (.cells cs 80 (0,0)))(hs:cs.size=3) :
  (results fn tmps).run Tryz.prog w=.ok (.tuple #[.agg cs,tmps.getD u undef]) w:=by
 have hi:(Tryz.prog.info? 80).map (·.size)=some cs.size:=by rw[hs];kernel_rfl
 rw[results_cell_tmp h,hq]
 have e1:(asAddr (.pointer (some ⟨a,0,none⟩))).run Tryz.prog w=.ok ⟨a,0,none⟩ w:=rfl
 rw[e1,Result.andThen_ok,run_loadVar_row (P:=Tryz.prog) w a 80 80 cs (0,0) _ hc Tryz.underlying80 rfl hi]
 rfl
theorem two_new{w w2:World}{A B:Array Value}{s t:TypeId}(hb:Below ((w.alloc (.cells A s)).alloc (.cells B t)).heap.size ((w.alloc (.cells A s)).alloc (.cells B t)) w2) :
  w2.heap[w.heap.size]?=some (.cells A s (0,0))∧w2.heap[w.heap.size+1]?=some (.cells B t (0,0)):=by
 constructor
 ·rw[hb.block w.heap.size (by simp;omega),Lib.alloc_old _ _ _ (by simp)]
  exact new_at w A s
 ·have e:w.heap.size+1=(w.alloc (.cells A s)).heap.size:=by simp
  rw[hb.block (w.heap.size+1) (by simp),e]
  exact new_at _ B t
theorem r5_set{w:World}{b:Nat}{a c d:Value}{t:TypeId}(h:w.heap[b]?=some (.cells #[a,c,d] t (0,0)))(u0 u1 u2:Value) :
  (((w.setCell ⟨b,0,none⟩ u0).setCell ⟨b,1,none⟩ u1).setCell ⟨b,2,none⟩ u2).heap[b]?=some (.cells #[u0,u1,u2] t (0,0))∧True:=
 ⟨set_at (set_at (set_at h 0 u0) 1 u1) 2 u2,trivial⟩
theorem row_set1{w:World}{lo e n m b:Nat}{v:Value}{xs:List Value}(h:w.ownsRow lo e n v m xs)(hb:b < lo)(j:Nat)(u:Value):World.ownsRow (w.setCell ⟨b,j,none⟩ u) lo e n v m xs:=
 h.kept (setCell_grownBy w b j u) (by
  cases e:v.ownBlock with
  | none=>exact .inl rfl
  | some k=>exact .inr fun q=>by have:=(h.lt k e).1;cases q;omega)
theorem row_set3{w:World}{lo e n m b:Nat}{v:Value}{xs:List Value}(h:w.ownsRow lo e n v m xs)(hb:b < lo)(u0 u1 u2:Value):World.ownsRow (((w.setCell ⟨b,0,none⟩ u0).setCell ⟨b,1,none⟩ u1).setCell ⟨b,2,none⟩ u2) lo e n v m xs:=
 row_set1 (row_set1 (row_set1 h hb 0 u0) hb 1 u1) hb 2 u2
theorem read_leaf(w:World)(id tx:Int)(body:ByteArray)(l:List P9.It)(hb:body.size≤100000)(hr:P9.readP body=(l,0))(hn:0 < l.length) :
  Calls Tryz.prog 80 #[.agg #[.int .i64 3,.int .i64 id,.int .i64 tx,.string body]] w fun e w'=>∃ v,e=.returned (.tuple #[.agg #[.int .i64 3,v,.slice none 0 0],.bool true])∧P9.OwnI w.heap.size w' v l∧Below w.heap.size w w':=by
 have HR:=qh (fun W=>P9.read_any W body hb)
 rw[hr] at HR
 have hcnt:∀ (W:World) (v:Value),P9.OwnI w.heap.size W v l→Calls Tryz.prog 97 #[(Nd.lf l).v v (.slice none 0 0)] W fun e w'=>e=.returned (.int .i64 (l.length:Nat))∧Below W.heap.size W w':=fun W v h=>count_any W none v _ (.lf l) ⟨ItT.own h (fun _ e=>by cases e),rfl⟩ h.2
 have hlst:∀ (W:World) (v:Value),Calls Tryz.prog 98 #[(Nd.lf l).v v (.slice none 0 0)] W fun e w'=>e=.returned (.int .i64 1)∧Below W.heap.size W w':=fun W v=>least_any W v _ (.lf l)
 unfold Nd.v Nd.kind at hcnt hlst
 have HC:=qh hcnt
 have HL:=qh hlst
 have k1:decide ((1:Int)≤((l.length:Nat):Int))=true:=decide_eq_true (by omega)
 clear hr hcnt hlst
 obtain⟨N,hN⟩:∃ N,N=l.length:=⟨_,rfl⟩
 rw[← hN] at k1 HC
 have HN:=qh hN
 clear hN hn
 go_enter Tryz.func80,Tryz.ntmps80
 go_upto_region 5 with (first
  | (go_at_call 96;(with_reducible refine (HR.out _).mono ?_);rintro e w2 ⟨v,rfl,ho,hb2⟩;have HO:=qh ho;have HB:=qh hb2;obtain⟨a,c,rfl⟩:=ho.its.slice;clear ho hb2;rw[← HN.out])
  | (go_at_call 55;(with_reducible refine (ofItems_any _ _ _ _).mono ?_);rintro e w3 ⟨rfl,hb3⟩;have HB3:=qh hb3;clear hb3))
 rw[← HN.out] at HO
 have X1:Hid (Below w.heap.size w w2):=thenBelow (grow (below_new w _) _) HB.out
 have XR:Hid (w2.heap[w.heap.size+1]?=some (.cells #[.int .i64 0,.slice none 0 0,.slice none 0 0] 80 (0,0))):=(two_new HB.out).2
 obtain⟨X,hX⟩:∃ X,X=w3.alloc (.cells #[.int .i64 3,.slice a N c,.slice none 0 0] 80):=⟨_,rfl⟩
 obtain⟨g,hg⟩:∃ g,g=w3.heap.size:=⟨_,rfl⟩
 have hgc:X.heap[g]?=some (.cells #[.int .i64 3,.slice a N c,.slice none 0 0] 80 (0,0)):=by rw[hX,hg];exact new_at _ _ _
 have hbX:Below w2.heap.size w2 X:=by rw[hX];exact thenBelow HB3.out (below_new _ _)
 rw[← hX,← hg]
 clear hX hg HB3
 have hgl:=lt_of_block hgc
 have hg2:w.heap.size+1≠g:=fun e=>by
  subst e
  rw[hbX.block _ (lt_of_block XR.out),XR.out] at hgc
  cases hgc
 have hs0:∀ W,Below X.heap.size X W→W.cell? ⟨g,0,none⟩=some (.int .i64 3)∧W.cell? ⟨g,1,none⟩=some (.slice a N c)∧W.cell? ⟨g,2,none⟩=some (.slice none 0 0):=fun W b=>by
  have:=P3.old_below hgc b
  exact⟨cell_at this 0,cell_at this 1,cell_at this 2⟩
 have HS0:=qh hs0
 have HS1:Hid (∀ W u0 u1 u2,Below X.heap.size X W→(((W.setCell ⟨w.heap.size+1,0,none⟩ u0).setCell ⟨w.heap.size+1,1,none⟩ u1).setCell ⟨w.heap.size+1,2,none⟩ u2).cell? ⟨g,0,none⟩=some (.int .i64 3)∧(((W.setCell ⟨w.heap.size+1,0,none⟩ u0).setCell ⟨w.heap.size+1,1,none⟩ u1).setCell ⟨w.heap.size+1,2,none⟩ u2).cell? ⟨g,1,none⟩=some (.slice a N c)∧(((W.setCell ⟨w.heap.size+1,0,none⟩ u0).setCell ⟨w.heap.size+1,1,none⟩ u1).setCell ⟨w.heap.size+1,2,none⟩ u2).cell? ⟨g,2,none⟩=some (.slice none 0 0)):=fun W u0 u1 u2 b=>by
  have:=P3.old_set (P3.old_set (P3.old_set (P3.old_below hgc b) ⟨w.heap.size+1,0,none⟩ (Ne.symm hg2) u0) ⟨w.heap.size+1,1,none⟩ (Ne.symm hg2) u1) ⟨w.heap.size+1,2,none⟩ (Ne.symm hg2) u2
  exact⟨cell_at this 0,cell_at this 1,cell_at this 2⟩
 have HC2:Hid (∀ W,Below X.heap.size X W→Calls Tryz.prog 97 #[.agg #[.int .i64 3,.slice a N c,.slice none 0 0]] W fun e w'=>e=.returned (.int .i64 N)∧Below W.heap.size W w'):=fun W b=>HC.out W _ ((HO.out.below (hbX.trans (b.mono hbX.size))).lo_ (by simp;omega))
 have HR0:=qh (fun W (b:Below X.heap.size X W)=>P3.old_below (P3.old_below XR.out hbX) b)
 have HXR:=qh (Below.refl X.heap.size X)
 clear hs0 hgc hgl
 go_region_held3 (fun W=>W.cell? ⟨g,0,none⟩=some (.int .i64 3)∧W.cell? ⟨g,1,none⟩=some (.slice a N c)∧W.cell? ⟨g,2,none⟩=some (.slice none 0 0)) (first|exact HS0.out _ HXR.out|exact HS0.out _ HXR.out.drew|exact HS0.out _ HB4.out|exact HS0.out _ HB5.out|exact HS1.out _ _ _ _ HB5.out)
  ((first
   | (go_at_call 97;(with_reducible refine (HC2.out _ (by first|exact HXR.out|exact HXR.out.drew)).mono ?_);rintro e w4 ⟨rfl,hb4⟩;have HB4:Hid (Below X.heap.size X w4):=(by first|exact HXR.out.trans hb4|exact HXR.out.drew.trans hb4);clear hb4)
   | (go_at_call 98;(with_reducible refine (HL.out _ _).mono ?_);rintro e w5 ⟨rfl,hb5⟩;have HB5:Hid (Below X.heap.size X w5):=thenBelow HB4.out hb5;have r5:=HR0.out _ HB5.out;have f0:=cell_at r5 0;have f1:=cell_at r5 1;have f2:=cell_at r5 2;have e0:=free_at r5 0;have e1:=free_at r5 1;have e2:=free_at r5 2;clear hb5 r5)))
 have HF:=qh (r5_set (HR0.out _ HB5.out) (.int .i64 3) (.slice a N c) (.slice none 0 0))
 have HO5:=qh (HO.out.below (hbX.trans (HB5.out.mono hbX.size)))
 have HBz:=qh (X1.out.trans ((hbX.trans (HB5.out.mono hbX.size)).mono X1.out.size))
 clear f0 f1 f2 e0 e1 e2
 go_wp2
 refine bodyPost_ret (node_result2 rfl _ _ (w.heap.size+1) _ rfl HF.out.1 rfl) rfl ⟨_,rfl,?_,?_⟩
 ·refine⟨?_,HO5.out.2⟩
  have hk:=HO5.out.1
  rw[← HN.out] at hk ⊢
  refine owns_lo (row_set3 hk ?_ _ _ _) (by simp;omega)
  simp
 ·exact ((HBz.out.setCell (p:=⟨w.heap.size+1,0,none⟩) (Nat.le_succ _) _).setCell (p:=⟨w.heap.size+1,1,none⟩) (Nat.le_succ _) _).setCell (p:=⟨w.heap.size+1,2,none⟩) (Nat.le_succ _) _
theorem read_kids(w:World)(id tx:Int)(body:ByteArray)(l:List P10.It)(hb:body.size≤100000)(hr:P10.readP body=(l,0))(hn:2≤l.length) :
  Calls Tryz.prog 80 #[.agg #[.int .i64 4,.int .i64 id,.int .i64 tx,.string body]] w fun e w'=>∃ v,e=.returned (.tuple #[.agg #[.int .i64 4,.slice none 0 0,v],.bool true])∧P10.OwnI w.heap.size w' v l∧Below w.heap.size w w':=by
 have HR:=qh (fun W=>P10.read_any W body hb)
 rw[hr] at HR
 have hcnt:∀ (W:World) (v:Value),P10.OwnI w.heap.size W v l→Calls Tryz.prog 97 #[(Nd.tw l).v (.slice none 0 0) v] W fun e w'=>e=.returned (.int .i64 (l.length:Nat))∧Below W.heap.size W w':=fun W v h=>count_any W none _ v (.tw l) ⟨rfl,KdT.own h (fun _ e=>by cases e)⟩ h.2
 have hlst:∀ (W:World) (v:Value),Calls Tryz.prog 98 #[(Nd.tw l).v (.slice none 0 0) v] W fun e w'=>e=.returned (.int .i64 2)∧Below W.heap.size W w':=fun W v=>least_any W _ v (.tw l)
 unfold Nd.v Nd.kind at hcnt hlst
 have HC:=qh hcnt
 have HL:=qh hlst
 have k1:decide ((2:Int)≤((l.length:Nat):Int))=true:=decide_eq_true (by omega)
 clear hr hcnt hlst
 obtain⟨N,hN⟩:∃ N,N=l.length:=⟨_,rfl⟩
 rw[← hN] at k1 HC
 have HN:=qh hN
 clear hN hn
 go_enter Tryz.func80,Tryz.ntmps80
 go_upto_region 9 with (first
  | (go_at_call 99;(with_reducible refine (HR.out _).mono ?_);rintro e w2 ⟨v,rfl,ho,hb2⟩;have HO:=qh ho;have HB:=qh hb2;obtain⟨a,c,rfl⟩:=ho.its.slice;clear ho hb2;rw[← HN.out])
  | (go_at_call 86;(with_reducible refine (ofKids_any _ _ _ _).mono ?_);rintro e w3 ⟨rfl,hb3⟩;have HB3:=qh hb3;clear hb3))
 rw[← HN.out] at HO
 have X1:Hid (Below w.heap.size w w2):=thenBelow (grow (below_new w _) _) HB.out
 have XR:Hid (w2.heap[w.heap.size+1]?=some (.cells #[.int .i64 0,.slice none 0 0,.slice none 0 0] 80 (0,0))):=(two_new HB.out).2
 obtain⟨X,hX⟩:∃ X,X=w3.alloc (.cells #[.int .i64 4,.slice none 0 0,.slice a N c] 80):=⟨_,rfl⟩
 obtain⟨g,hg⟩:∃ g,g=w3.heap.size:=⟨_,rfl⟩
 have hgc:X.heap[g]?=some (.cells #[.int .i64 4,.slice none 0 0,.slice a N c] 80 (0,0)):=by rw[hX,hg];exact new_at _ _ _
 have hbX:Below w2.heap.size w2 X:=by rw[hX];exact thenBelow HB3.out (below_new _ _)
 rw[← hX,← hg]
 clear hX hg HB3
 have hgl:=lt_of_block hgc
 have hg2:w.heap.size+1≠g:=fun e=>by
  subst e
  rw[hbX.block _ (lt_of_block XR.out),XR.out] at hgc
  cases hgc
 have hs0:∀ W,Below X.heap.size X W→W.cell? ⟨g,0,none⟩=some (.int .i64 4)∧W.cell? ⟨g,1,none⟩=some (.slice none 0 0)∧W.cell? ⟨g,2,none⟩=some (.slice a N c):=fun W b=>by
  have:=P3.old_below hgc b
  exact⟨cell_at this 0,cell_at this 1,cell_at this 2⟩
 have HS0:=qh hs0
 have HS1:Hid (∀ W u0 u1 u2,Below X.heap.size X W→(((W.setCell ⟨w.heap.size+1,0,none⟩ u0).setCell ⟨w.heap.size+1,1,none⟩ u1).setCell ⟨w.heap.size+1,2,none⟩ u2).cell? ⟨g,0,none⟩=some (.int .i64 4)∧(((W.setCell ⟨w.heap.size+1,0,none⟩ u0).setCell ⟨w.heap.size+1,1,none⟩ u1).setCell ⟨w.heap.size+1,2,none⟩ u2).cell? ⟨g,1,none⟩=some (.slice none 0 0)∧(((W.setCell ⟨w.heap.size+1,0,none⟩ u0).setCell ⟨w.heap.size+1,1,none⟩ u1).setCell ⟨w.heap.size+1,2,none⟩ u2).cell? ⟨g,2,none⟩=some (.slice a N c)):=fun W u0 u1 u2 b=>by
  have:=P3.old_set (P3.old_set (P3.old_set (P3.old_below hgc b) ⟨w.heap.size+1,0,none⟩ (Ne.symm hg2) u0) ⟨w.heap.size+1,1,none⟩ (Ne.symm hg2) u1) ⟨w.heap.size+1,2,none⟩ (Ne.symm hg2) u2
  exact⟨cell_at this 0,cell_at this 1,cell_at this 2⟩
 have HC2:Hid (∀ W,Below X.heap.size X W→Calls Tryz.prog 97 #[.agg #[.int .i64 4,.slice none 0 0,.slice a N c]] W fun e w'=>e=.returned (.int .i64 N)∧Below W.heap.size W w'):=fun W b=>HC.out W _ ((HO.out.below (hbX.trans (b.mono hbX.size))).lo_ (by simp;omega))
 have HR0:=qh (fun W (b:Below X.heap.size X W)=>P3.old_below (P3.old_below XR.out hbX) b)
 have HXR:=qh (Below.refl X.heap.size X)
 clear hs0 hgc hgl
 go_region_held3 (fun W=>W.cell? ⟨g,0,none⟩=some (.int .i64 4)∧W.cell? ⟨g,1,none⟩=some (.slice none 0 0)∧W.cell? ⟨g,2,none⟩=some (.slice a N c)) (first|exact HS0.out _ HXR.out|exact HS0.out _ HXR.out.drew|exact HS0.out _ HB4.out|exact HS0.out _ HB5.out|exact HS1.out _ _ _ _ HB5.out)
  ((first
   | (go_at_call 97;(with_reducible refine (HC2.out _ (by first|exact HXR.out|exact HXR.out.drew)).mono ?_);rintro e w4 ⟨rfl,hb4⟩;have HB4:Hid (Below X.heap.size X w4):=(by first|exact HXR.out.trans hb4|exact HXR.out.drew.trans hb4);clear hb4)
   | (go_at_call 98;(with_reducible refine (HL.out _ _).mono ?_);rintro e w5 ⟨rfl,hb5⟩;have HB5:Hid (Below X.heap.size X w5):=thenBelow HB4.out hb5;have r5:=HR0.out _ HB5.out;have f0:=cell_at r5 0;have f1:=cell_at r5 1;have f2:=cell_at r5 2;have e0:=free_at r5 0;have e1:=free_at r5 1;have e2:=free_at r5 2;clear hb5 r5)))
 have HF:=qh (r5_set (HR0.out _ HB5.out) (.int .i64 4) (.slice none 0 0) (.slice a N c))
 have HO5:=qh (HO.out.below (hbX.trans (HB5.out.mono hbX.size)))
 have HBz:=qh (X1.out.trans ((hbX.trans (HB5.out.mono hbX.size)).mono X1.out.size))
 clear f0 f1 f2 e0 e1 e2
 go_wp2
 refine bodyPost_ret (node_result2 rfl _ _ (w.heap.size+1) _ rfl HF.out.1 rfl) rfl ⟨_,rfl,?_,?_⟩
 ·refine⟨?_,HO5.out.2⟩
  have hk:=HO5.out.1
  rw[← HN.out] at hk ⊢
  refine owns_lo (row_set3 hk ?_ _ _ _) (by simp;omega)
  simp
 ·exact ((HBz.out.setCell (p:=⟨w.heap.size+1,0,none⟩) (Nat.le_succ _) _).setCell (p:=⟨w.heap.size+1,1,none⟩) (Nat.le_succ _) _).setCell (p:=⟨w.heap.size+1,2,none⟩) (Nat.le_succ _) _
end Go.Proofs.YtjepgclnbbpnaaaGreat.P12
namespace Go.Proofs.YtjepgclnbbpnaaaGreat.P12
open Go Go.RowKit Go.Lib PK Go.Maps
open P11 (Pg)
open P9 (Wide Plain)
theorem owns_fr{S:Nat→Prop}{w w':World}{lo e n m:Nat}{v:Value}{xs:List Value}(h:w.ownsRow lo e n v m xs)(k:P3.Fr S w w')(hn:∀ j,v.ownBlock=some j→¬ S j):w'.ownsRow lo e n v m xs:=by
 refine⟨h.1,?_⟩
 rcases h.2 with h2|⟨g,cap,cur,rfl,h3,h4,h5⟩
 ·exact .inl h2
 ·exact .inr ⟨g,cap,cur,rfl,h3,by rw[k.block g (lt_of_block h4) (hn g rfl)];exact h4,h5⟩
theorem PAt.fr{S:Nat→Prop}{w w':World}{b:Nat}{vl vg:Value}{M:PM}(h:PAt w b vl vg M)(k:P3.Fr S w w')(hn:∀ j,PS b vl vg j→¬ S j):PAt w' b vl vg M:=
 ⟨k.keep h.obj (hn _ (.inl rfl)),owns_fr h.rl k fun j e=>hn j (.inr (.inl e)),owns_fr h.rg k fun j e=>hn j (.inr (.inr e)),h.ne⟩
theorem PAt.cells_{w:World}{b:Nat}{vl vg:Value}{M:PM}(h:PAt w b vl vg M){j:Nat}(hj:PS b vl vg j):∃ cs t,w.heap[j]?=some (.cells cs t (0,0))∧(t=44∨t=86∨t=3):=by
 rcases hj with rfl|hj|hj
 ·exact⟨_,_,h.obj,.inl rfl⟩
 ·rcases h.rl.2 with ⟨e,_⟩|⟨g,cap,cur,rfl,_,hg,_⟩
  ·rw[e] at hj;cases hj
  ·cases hj;exact⟨_,_,hg,.inr (.inl rfl)⟩
 ·rcases h.rg.2 with ⟨e,_⟩|⟨g,cap,cur,rfl,_,hg,_⟩
  ·rw[e] at hj;cases hj
  ·cases hj;exact⟨_,_,hg,.inr (.inr rfl)⟩
theorem PAt.notT{w:World}{b:Nat}{vl vg:Value}{M:PM}(h:PAt w b vl vg M)(x:Option Nat):NotT x w (PS b vl vg):=fun k cs t hk hs e=>by
 obtain⟨cs',t',e',ht⟩:=h.cells_ hk
 rw[e] at e'
 cases e'
 rcases hs.1 with rfl|rfl <;> rcases ht with ht|ht|ht <;> cases ht
structure Sp where
 pg:Pg
 nd:Nd
 vi:Value
 vk:Value
 at_:Int
def Sp.cells(p:Sp):List Value:=[.int .i64 p.pg.k,.int .i64 p.pg.id,.int .i64 p.pg.tx,.string p.pg.body,.int .i64 p.nd.kind,p.vi,p.vk,.int .i64 p.at_]
def Sp.v(p:Sp):Value:=.agg #[.int .i64 p.pg.k,.int .i64 p.pg.id,.int .i64 p.pg.tx,.string p.pg.body,.int .i64 p.nd.kind,p.vi,p.vk,.int .i64 p.at_]
def SeenAt(w:World)(mb:Nat)(sn:List Int):Prop:=w.ownsMap Tryz.prog 3 (unitElem (H:=Unit)) mb sn.length (setOf (.agg []) (sn.map fun x=>Lit.int .i64 x))
structure SkAt (w:World) (x:Option Nat) (b s mb:Nat) (vw:Value) (ps:List Sp) (sn:List Int):Prop where
 obj:w.heap[s]?=some (.cells #[pgv b,vw,.map (some mb)] 97 (0,0))
 row:w.ownsRow 0 88 8 vw ps.length (ps.map Sp.cells).flatten
 nd:∀ p∈ps,NdT w x p.vi p.vk p.nd
 seen:SeenAt w mb sn
def SS(s mb:Nat)(vw:Value)(k:Nat):Prop:=k=s∨vw.ownBlock=some k∨k=mb
theorem SeenAt.fr{S:Nat→Prop}{w w':World}{mb:Nat}{sn:List Int}(h:SeenAt w mb sn)(k:P3.Fr S w w')(hn:¬ S mb):SeenAt w' mb sn:=by
 obtain⟨es,clock,h1,h2⟩:=h
 exact⟨es,clock,k.keep h1 hn,h2⟩
theorem SkAt.fr{S:Nat→Prop}{w w':World}{x:Option Nat}{b s mb:Nat}{vw:Value}{ps:List Sp}{sn:List Int}(h:SkAt w x b s mb vw ps sn)(k:P3.Fr S w w')(kt:FrT x w w')(hn:∀ j,SS s mb vw j→¬ S j):SkAt w' x b s mb vw ps sn:=
 ⟨k.keep h.obj (hn _ (.inl rfl)),owns_fr h.row k fun j e=>hn j (.inr (.inl e)),fun p hp=>(h.nd p hp).keep kt,h.seen.fr k (hn _ (.inr (.inr rfl)))⟩
theorem SkAt.below{w w':World}{x:Option Nat}{b s mb:Nat}{vw:Value}{ps:List Sp}{sn:List Int}(h:SkAt w x b s mb vw ps sn)(k:Below w.heap.size w w'):SkAt w' x b s mb vw ps sn:=
 h.fr (P3.Fr.of (S:=fun _=>False) k) (FrT.of k) fun _ _ f=>f
theorem SkAt.kinds{w:World}{x:Option Nat}{b s mb:Nat}{vw:Value}{ps:List Sp}{sn:List Int}(h:SkAt w x b s mb vw ps sn){j:Nat}(hj:SS s mb vw j):(∃ cs t,w.heap[j]?=some (.cells cs t (0,0))∧(t=97∨t=88))∨∃ es c,w.heap[j]?=some (.map es c):=by
 rcases hj with rfl|hj|rfl
 ·exact .inl ⟨_,_,h.obj,.inl rfl⟩
 ·rcases h.row.2 with ⟨e,_⟩|⟨g,cap,cur,rfl,_,hg,_⟩
  ·rw[e] at hj;cases hj
  ·cases hj;exact .inl ⟨_,_,hg,.inr rfl⟩
 ·obtain⟨es,c,h1,_⟩:=h.seen
  exact .inr ⟨es,c,h1⟩
theorem SkAt.notT{w:World}{x y:Option Nat}{b s mb:Nat}{vw:Value}{ps:List Sp}{sn:List Int}(h:SkAt w x b s mb vw ps sn):NotT y w (SS s mb vw):=fun k cs t hk hs e=>by
 rcases h.kinds hk with ⟨cs',t',e',ht⟩|⟨es,c,e'⟩
 ·rw[e] at e'
  cases e'
  rcases hs.1 with rfl|rfl <;> rcases ht with ht|ht <;> cases ht
 ·rw[e] at e'
  cases e'
theorem SkAt.apart{w:World}{x:Option Nat}{b s mb:Nat}{vw:Value}{ps:List Sp}{sn:List Int}{b':Nat}{vl vg:Value}{M:PM}(h:SkAt w x b s mb vw ps sn)(hp:PAt w b' vl vg M){j:Nat}(h1:SS s mb vw j)(h2:PS b' vl vg j):False:=by
 obtain⟨cs,t,e,ht⟩:=hp.cells_ h2
 rcases h.kinds h1 with ⟨cs',t',e',ht'⟩|⟨es,c,e'⟩
 ·rw[e] at e'
  cases e'
  rcases ht with rfl|rfl|rfl <;> rcases ht' with ht'|ht' <;> cases ht'
 ·rw[e] at e'
  cases e'
theorem SkAt.lt{w:World}{x:Option Nat}{b s mb:Nat}{vw:Value}{ps:List Sp}{sn:List Int}(h:SkAt w x b s mb vw ps sn){j:Nat}(hj:SS s mb vw j):j < w.heap.size:=by
 rcases h.kinds hj with ⟨_,_,e,_⟩|⟨_,_,e⟩ <;> exact lt_of_block e
theorem SkAt.slice{w:World}{x:Option Nat}{b s mb:Nat}{vw:Value}{ps:List Sp}{sn:List Int}(h:SkAt w x b s mb vw ps sn):∃ a c,vw=.slice a ps.length c:=by
 rcases h.row.2 with ⟨rfl,e⟩|⟨g,cap,cur,rfl,_⟩
 ·exact⟨none,0,by rw[e]⟩
 ·exact⟨_,_,rfl⟩
theorem SkAt.row_mb{w:World}{x:Option Nat}{b s mb:Nat}{vw:Value}{ps:List Sp}{sn:List Int}(h:SkAt w x b s mb vw ps sn){j:Nat}(hj:vw.ownBlock=some j):j≠mb:=fun q=>by
 obtain⟨es,cc,h1,_⟩:=h.seen
 rcases h.row.2 with ⟨e2,_⟩|⟨gg,_,_,rfl,_,hg,_⟩
 ·rw[e2] at hj;cases hj
 ·cases hj
  rw[show gg=mb from q,h1] at hg
  cases hg
theorem SkAt.row_s{w:World}{x:Option Nat}{b s mb:Nat}{vw:Value}{ps:List Sp}{sn:List Int}(h:SkAt w x b s mb vw ps sn){j:Nat}(hj:vw.ownBlock=some j):j≠s:=fun q=>by
 have h1:=h.obj
 rcases h.row.2 with ⟨e2,_⟩|⟨gg,_,_,rfl,_,hg,_⟩
 ·rw[e2] at hj;cases hj
 ·cases hj
  rw[show gg=s from q,h1] at hg
  cases hg
theorem SkAt.s_mb{w:World}{x:Option Nat}{b s mb:Nat}{vw:Value}{ps:List Sp}{sn:List Int}(h:SkAt w x b s mb vw ps sn):s≠mb:=fun q=>by
 obtain⟨es,cc,h1,_⟩:=h.seen
 have h2:=h.obj
 rw[q,h1] at h2
 cases h2
theorem int_key{z:Int}(h1:-9223372036854775808≤z)(h2:z≤9223372036854775807):keyOf Tryz.prog 3 (.int .i64 z)=some (.int .i64 z):=keyOf_int_mk Tryz.underlying3 (Go.WalkArith.wf_i64 (by omega))
theorem seen_has(sn:List Int)(id:Int):Maps.has (setOf (H:=Unit) (.agg []) (sn.map fun x=>Lit.int .i64 x)) (.int .i64 id)=sn.contains id:=by
 rw[has_setOf _ _ _ (by intro y hy;obtain⟨z,_,rfl⟩:=List.mem_map.1 hy;trivial)]
 induction sn with
 | nil=>rfl
 | cons y sn ih=>
  rw[List.map_cons,List.any_cons,ih,List.contains_cons]
  congr 1
  by_cases e:y=id
  ·subst e
   simp[Lit.sameKey]
  ·have e2:(id == y)=false:=beq_false_of_ne fun q=>e q.symm
   rw[e2]
   simp[Lit.sameKey,e]
theorem on_any(w:World)(x:Option Nat)(b:Nat):Calls Tryz.prog 52 #[pgv b] w fun e w'=>e=.returned (.pointer (some ⟨w.heap.size+1,0,none⟩))∧SkAt w' x b (w.heap.size+1) w.heap.size (.slice none 0 0) [] []∧Below w.heap.size w w':=by
 have hmm:=@run_makeMap Tryz.prog
 unfold pgv
 go_enter Tryz.func52,Tryz.ntmps52
 go_wp2
 go_ret
 have h1:((w.alloc (.map #[] 0)).alloc (.cells #[pgv b,.slice none 0 0,.map (some w.heap.size)] 97)).heap[w.heap.size+1]?=some (.cells #[pgv b,.slice none 0 0,.map (some w.heap.size)] 97 (0,0)):=by
  have:=new_at (w.alloc (.map #[] 0)) #[pgv b,.slice none 0 0,.map (some w.heap.size)] 97
  simpa using this
 exact⟨rfl,⟨h1,World.ownsRow_nil _ _ _ _,fun _ h=>(List.not_mem_nil h).elim,(World.ownsMap_made w _ _ _).alloc _⟩,grow (below_new _ _) _⟩
end Go.Proofs.YtjepgclnbbpnaaaGreat.P12
