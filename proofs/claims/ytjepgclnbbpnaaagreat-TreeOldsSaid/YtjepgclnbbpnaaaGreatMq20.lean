/-
  Texts of the proofs of SaidDrops12, SaidEmpt12, SaidOlds12.
-/
import Derived.Test.YtjepgclnbbpnaaaGreatMq19
set_option linter.unusedVariables false
set_option linter.unusedSimpArgs false
set_option maxHeartbeats 8000000
set_option maxRecDepth 100000
namespace Go.Proofs.YtjepgclnbbpnaaaGreat.P12
open PK (qqA qqB qqC qqD qqE qqF tk tkS dOne qh)
open Go Go.RowKit Go.Lib PK
open P11 (Pg cellsP)
theorem cat3(W W':World)(s1 s2 s3:Value)(L1 L2 L3:List P10.It)(hw:Below (W.alloc (.cells #[s1,s2,s3] 78)).heap.size (W.alloc (.cells #[s1,s2,s3] 78)) W')(h1:P10.ItsIn W s1 L1)(h2:P10.ItsIn W s2 L2)(h3:P10.ItsIn W s3 L3)(hs:(L1++L2++L3).length≤1000000) :
  Calls Tryz.prog 104 #[.slice (some ⟨W.heap.size,0,none⟩) 3 3] W' fun e w'=>∃ v,e=.returned v∧P10.OwnI W.heap.size w' v (L1++L2++L3)∧Below W.heap.size W w':=by
 have hb:=thenBelow (below_new W (.cells #[s1,s2,s3] 78)) hw
 have hr:=P3.old_below (new_at W #[s1,s2,s3] 78) hw
 refine (P10.concat_any W' W.heap.size 3 3 [s1,s2,s3] [L1,L2,L3] (lt_of_block hr) (by omega) rfl rfl (fun i u hu=>?_) (fun i u L hu hL=>?_) (by simpa using hs)).mono ?_
 ·rw[cell_at hr,List.getElem?_toArray]
  exact hu
 ·match i,hu,hL with
  | 0,hu,hL=>
   cases hu
   cases hL
   exact h1.below hb
  | 1,hu,hL=>
   cases hu
   cases hL
   exact h2.below hb
  | 2,hu,hL=>
   cases hu
   cases hL
   exact h3.below hb
  | n+3,hu,hL=>simp at hu
 ·rintro e w' ⟨v,rfl,g1,g2⟩
  exact⟨v,rfl,by simpa using g1.lo_ hb.size,thenBelow hb g2⟩
def sew(ks ws:List P10.It)(k n:Nat)(key:ByteArray):List P10.It:=ks.take k++rekey ws 0 key++ks.drop (k+n)
structure Sewn (w w':World) (G:Cg) (nd:Nd) (olds:List Pg) (ks:List P10.It) (k:Nat) (key:ByteArray) (v':Value) (ps:List Nd) (vl' vm' vs' vo':Value):Prop where
 parts:PartsOf nd ps
 own:P10.OwnI w.heap.size w' v' (sew ks (kfold (splitM G.M ps.length olds).1 0 ⟨G.M,G.sets,G.made,[]⟩ ps).ws k olds.length key)
 went:Went w w' G { G with vl:=vl',vm:=vm',vs:=vs',vo:=vo',M:=(kfold (splitM G.M ps.length olds).1 0 ⟨G.M,G.sets,G.made,[]⟩ ps).M,sets:=(kfold (splitM G.M ps.length olds).1 0 ⟨G.M,G.sets,G.made,[]⟩ ps).sets,made:=(kfold (splitM G.M ps.length olds).1 0 ⟨G.M,G.sets,G.made,[]⟩ ps).made,gone:=G.gone++(splitM G.M ps.length olds).2 }
theorem kd_drop_end{w:World}{a:Option Addr}{c n:Nat}{l:List P10.It}(h:P10.ItsIn w (.slice a l.length c) l)(hn:l.length=n)(c':Nat)(hc:a=none→c'=0):P10.ItsIn w (.slice a 0 c') (l.drop n):=by
 subst hn
 rw[List.drop_length]
 obtain⟨a',c2,e,h1,_⟩:=h
 simp only[Value.slice.injEq] at e
 obtain⟨rfl,_,rfl⟩:=e
 exact⟨_,c',rfl,hc,by simp[P10.cellsI],P10.cellsI_ok _,fun h=>absurd h (by simp[P10.cellsI])⟩
theorem kids_any(w:World)(G:Cg)(nd:Nd)(vi vk v:Value)(olds:List Pg)(k:Nat)(d:Bool)(v0:Value)(ks:List P10.It)(q:P10.It)(h:CAt w G)(hn:NdT w none vi vk nd)(ho:OldIn w G v olds)(hf:Fine nd)(hs:nd.sorted)(hr:G.M.L.length+nd.len≤3998)(hb:G.sets.length≤9000∧G.made.length≤9000∧G.gone.length≤9000∧olds.length≤2)(hfr:2≤G.M.fr)(hid:∀ p∈olds,p.id≤100000)
  (hk:KdT w none v0 ks) (hq:ks[k]?=some q) (hkn:k+olds.length≤ks.length) (hkl:ks.length≤1000) :
  Calls Tryz.prog 85 #[.pointer (some ⟨G.c,0,none⟩),Grv nd vi vk v (k:Nat) d,v0] w fun e w'=>∃ v' ps vl' vm' vs' vo',e=.returned (.tuple #[v',.int .i64 0])∧Sewn w w' G nd olds ks k q.key v' ps vl' vm' vs' vo':=by
 obtain⟨a,n,c,a',n',c',rfl,rfl,_⟩:=hn.lens
 obtain⟨oa,oc,rfl⟩:=ho.pgs.slice
 have hlt:=(List.getElem?_eq_some_iff.1 hq).1
 obtain⟨W,hW⟩:∃ W,W=w.alloc (.cells #[.int .i64 nd.kind,.slice a n c,.slice a' n' c',.slice oa olds.length oc,.int .i64 (k:Nat),.bool d] 127):=⟨_,rfl⟩
 have b0:Below w.heap.size w W:=by rw[hW];exact below_new _ _
 have r0:W.heap[w.heap.size]?=some (.cells #[.int .i64 nd.kind,.slice a n c,.slice a' n' c',.slice oa olds.length oc,.int .i64 (k:Nat),.bool d] 127 (0,0)):=by rw[hW];exact new_at _ _ _
 have wt0:=Went.below h b0
 have hkp:=keep_any W G nd (.slice a n c) (.slice a' n' c') (.slice oa olds.length oc) olds (k:Nat) d wt0.at_ (hn.keep (FrT.of b0)) (ho.went wt0) hf hs hr hb hfr hid
 unfold Grv at hkp ⊢
 have HKp:=qh hkp
 have HW0:=qh wt0
 have HR0:=qh r0
 have hnS:¬ G.S w.heap.size:=fun e=>by have:=h.lt e;omega
 have HnS:=qh hnS
 have HKd:=qh hk
 have HCA:=qh h
 have HQ:=qh hq
 have q0:=cell_at r0 0
 have q1:=cell_at r0 1
 have q2:=cell_at r0 2
 have q3:=cell_at r0 3
 have q4:=cell_at r0 4
 have q5:=cell_at r0 5
 simp only[qqD,qqE,qqF] at q0 q1 q2 q3 q4 q5
 have HB0:=qh b0
 have Hb:=qh hb
 have HRm:=qh hr
 obtain⟨oN,hoN⟩:∃ n,n=olds.length:=⟨_,rfl⟩
 have HoN:=qh hoN
 rw[← hoN] at hkn HR0 q3 hW
 rw[← hoN] at HKp
 clear h hn ho hf hs hr hid hk hq b0 r0 wt0 hkp hnS
 go_enter Tryz.func85,Tryz.ntmps85
 go_upto_region 1 with fail
 rw[← hoN,← hW]
 clear hW hoN
 go_upto_region 4 with (go_at_call 103;(with_reducible refine HKp.out.mono ?_);rintro e w1 ⟨v',ps,vl',vm',vs',vo',rfl,h1⟩;have H1:=qh h1;clear h1)
 obtain⟨K,hK⟩:∃ K,K=kfold (splitM G.M ps.length olds).1 0 ⟨G.M,G.sets,G.made,[]⟩ ps:=⟨_,rfl⟩
 obtain⟨G',hG'⟩:∃ G':Cg,G'={ G with vl:=vl',vm:=vm',vs:=vs',vo:=vo',M:=K.M,sets:=K.sets,made:=K.made,gone:=G.gone++(splitM G.M ps.length olds).2 }:=⟨_,rfl⟩
 have hO1:=H1.out.own
 have hW1:=H1.out.went
 have hPa:=qh H1.out.parts
 rw[← hK] at hO1 hW1
 rw[← hG'] at hW1
 have hps:G'.ps=G.ps:=by rw[hG']
 obtain⟨hr1,hn1⟩:=hW1.box HR0.out HnS.out
 have hR1:=qh hr1
 have hN1:=qh hn1
 have HO1:=qh hO1
 have HW1:=qh (HW0.out.trans hW1)
 have HGe:=qh hG'
 have HKe:=qh hK
 have HPs:=qh hps
 clear hO1 hW1 hr1 hn1 hG' hK hps H1 q0 q1 q2 q3 q4 q5
 obtain⟨ws,hws⟩:∃ ws,ws=K.ws:=⟨_,rfl⟩
 rw[← hws] at HO1
 have HWs:=qh hws
 clear hws
 obtain⟨b0,off,c0,rfl,hc0,hc1⟩:∃ b0 off c0,v0=.slice (some ⟨b0,off,none⟩) ks.length c0∧ks.length≤c0∧c0≤9223372036854775807:=by
  obtain⟨a0,n0,c0,rfl,hc,hm⟩:=HKd.out.wide
  have h9:=HKd.out.its
  obtain rfl:n0=ks.length:=by
   obtain⟨_,_,e⟩:=h9.slice
   simp only[Value.slice.injEq] at e
   exact e.2.1
  obtain⟨b,off,rfl,_⟩:=h9.at_ HQ.out
  exact⟨b,off,c0,rfl,hc,hm⟩
 obtain⟨N0,hN0⟩:∃ n,n=ks.length:=⟨_,rfl⟩
 rw[← hN0]
 rw[← hN0] at hlt hkn hkl hc0 HKd
 have HN0:=qh hN0
 clear hN0
 have j1:(0:Int)≤(k:Int):=by omega
 have j2:(k:Int) < (N0:Int):=by omega
 have j3:(k:Int)≤(c0:Int):=by omega
 obtain⟨m,hm⟩:∃ m,m=k+oN:=⟨_,rfl⟩
 have j4:IntKind.i64.wrap ((k:Int)+(oN:Int))=(m:Int):=by
  rw[IntKind.wrap_i64]
  omega
 have hwl:=HO1.out.its
 obtain⟨aw,cw,rfl⟩:=hwl.slice
 obtain⟨Nw,hNw⟩:∃ n,n=ws.length:=⟨_,rfl⟩
 rw[← hNw]
 rw[← hNw] at HO1
 have HNw:=qh hNw
 have hlw:ws.length≤100000:=by
  have h1:=(kfold_lens (splitM G.M ps.length olds).1 ps 0 ⟨G.M,G.sets,G.made,[]⟩).2.2.2
  have h2:=hPa.out.count.1
  have h3:=HRm.out
  rw[← HKe.out,← HWs.out] at h1
  simp only[List.length_nil] at h1
  omega
 have HLw:=qh hlw
 clear hwl hNw hlw
 have HFin:Hid (∀ (w2 w4:World) (v4:Value),Went w w2 G G'→Below w2.heap.size w2 w4→P10.OwnI w2.heap.size w4 v4 (sew ks ws k oN q.key)→∃ ps' vl9 vm9 vs9 vo9,Sewn w w4 G nd olds ks k q.key v4 ps' vl9 vm9 vs9 vo9):=fun w2 w4 v4 a1 a2 a3=>by
  refine⟨ps,vl',vm',vs',vo',hPa.out,?_,?_⟩
  ·rw[← HKe.out,← HWs.out,← HoN.out]
   exact a3.lo_ a1.fr.size
  ·rw[← HKe.out,← HGe.out]
   exact a1.then a2
 have HRun:Hid (∀ w2:World,Went w w2 G G'→w2.heap[w.heap.size]?=some (.cells #[.int .i64 nd.kind,.slice a n c,.slice a' n' c',.slice oa oN oc,.int .i64 (k:Nat),.bool d] 127 (0,0))→P10.ItsIn w2 (.slice aw Nw cw) (rekey ws 0 q.key)→
   (∀ W,Below w2.heap.size w2 W→W.cell? ⟨w.heap.size,3,none⟩=some (.slice oa oN oc)∧W.cell? ⟨w.heap.size,4,none⟩=some (.int .i64 (k:Nat)))∧
   (∀ s3:Value,P10.ItsIn w2 s3 (ks.drop (k+oN))→∀ W,Below w2.heap.size w2 W→∀ W',Below (W.alloc (.cells #[.slice (some ⟨b0,off,none⟩) k c0,.slice aw Nw cw,s3] 78)).heap.size (W.alloc (.cells #[.slice (some ⟨b0,off,none⟩) k c0,.slice aw Nw cw,s3] 78)) W'→Calls Tryz.prog 104 #[.slice (some ⟨W.heap.size,0,none⟩) 3 3] W' fun e w'=>∃ v,e=.returned v∧P10.OwnI W.heap.size w' v (sew ks ws k oN q.key)∧Below W.heap.size W w')):=fun w2 a1 a2 a3=>by
  refine⟨fun W b=>?_,fun s3 h3 W b W' b'=>?_⟩
  ·have r:=P3.old_below a2 b
   exact⟨cell_at r 3,cell_at r 4⟩
  ·have h1:=((HKd.out.keep a1.ft).its)
   rw[HN0.out] at h1
   have h2:=h1.take (n:=k) (by have:=HN0.out;omega)
   refine cat3 W W' _ _ _ _ _ _ b' (h2.below b) (a3.below b) (h3.below b) ?_
   have:=HN0.out
   have:=HO1.out.2
   have h8:=HLw.out
   simp only[List.length_append,List.length_take,List.length_drop,rekey_len]
   omega
 clear HKp HKe HoN
 by_cases hz:Nw=0
 case' pos=>
  subst hz
  obtain⟨w2,hw2⟩:∃ w2,w2=w1:=⟨_,rfl⟩
  have hI2:P10.ItsIn w2 (.slice aw 0 cw) (rekey ws 0 q.key):=by
   have e:ws=[]:=List.eq_nil_of_length_eq_zero HNw.out.symm
   have e2:rekey ws 0 q.key=ws:=by rw[e];rfl
   rw[e2,hw2]
   exact HO1.out.its
  have hW2:Went w w2 G G':=by rw[hw2];exact HW1.out
  have hR2:w2.heap[w.heap.size]?=some (.cells #[.int .i64 nd.kind,.slice a n c,.slice a' n' c',.slice oa oN oc,.int .i64 (k:Nat),.bool d] 127 (0,0)):=by rw[hw2];exact hR1.out
  go_upto_region 6 with fail
  rw[← hw2]
  clear hw2
 case' neg=>
  obtain⟨z,hz0⟩:∃ z,ws[0]?=some z:=⟨_,List.getElem?_eq_getElem (by have:=HNw.out;omega)⟩
  obtain⟨g,c9,e9,hgx,y0,y1,y2,cs9,y3⟩:=own_cell HO1.out hz0
  simp only[Value.slice.injEq] at e9
  obtain⟨rfl,e99,rfl⟩:=e9
  clear e99
  have y4:=y2 0
  have hr1:=hR1.out
  have q4:=cell_at hr1 4
  simp only[qqD,qqE,qqF] at q4
  have hk1:=(HKd.out.keep HW1.out.ft).its
  obtain⟨b9,off9,e9,hx9⟩:=hk1.at_ HQ.out
  simp only[Option.some.injEq,Addr.mk.injEq,and_true] at e9
  obtain⟨rfl,rfl⟩:=e9
  have x0:=(hx9 _ (Below.refl _ _)).1
  obtain⟨w2,hw2⟩:∃ w2,w2=w1.setCell ⟨g,0,none⟩ (.string q.key):=⟨_,rfl⟩
  have hne:w.heap.size≠g:=fun e=>by
   rw[e,y3] at hr1
   cases hr1
  have hR2:w2.heap[w.heap.size]?=some (.cells #[.int .i64 nd.kind,.slice a n c,.slice a' n' c',.slice oa oN oc,.int .i64 (k:Nat),.bool d] 127 (0,0)):=by
   rw[hw2]
   exact P3.old_set hr1 ⟨g,0,none⟩ hne _
  have hI2:P10.ItsIn w2 (.slice (some ⟨g,0,none⟩) Nw cw) (rekey ws 0 q.key):=by
   have h9:=HO1.out
   rw[HNw.out] at h9 ⊢
   have:=rekey_own h9 hz0 q.key
   rw[Nat.zero_mul,← hw2] at this
   exact this.its
  have hW2:Went w w2 G G':=by
   rw[hw2]
   refine HW1.out.ext HCA.out HPs.out (fr_set _ g 0 _) fun j hj=>?_
   subst hj
   exact⟨by have:=HB0.out.size;omega,fun e=>HW1.out.at_.notT none _ _ _ e ⟨.inr rfl,by simp⟩ y3⟩
  rw[Nat.zero_mul] at y0
  clear hr1 hk1 hx9 hne y2 y3
  go_upto_region 6 with fail
  rw[← hw2]
  clear hw2
 all_goals
  obtain⟨hcc,hjj⟩:=HRun.out w2 hW2 hR2 hI2
  have HCc:=qh hcc
  have HX:=qh (Below.refl w2.heap.size w2)
  have HW2:=qh hW2
  rw[← hm] at hjj
  have k2:(k:Int)≤(N0:Int):=by omega
  have k3:(m:Int)≤(N0:Int):=by omega
  have k4:(0:Int)≤(m:Int):=by omega
  have k6:k≤N0:=by omega
  have k7:m≤c0:=by omega
  have k8:k≤c0:=by omega
  have k9:m≤N0:=by omega
  have HM:=qh hm
  clear hm
  by_cases hcn:c0=m
  case' pos=>
   have HJ:=qh (hjj (.slice (some ⟨b0,off,none⟩) 0 0) (by
    have h9:=(HKd.out.keep HW2.out.ft).its
    have h8:=HN0.out
    rw[h8] at h9
    exact kd_drop_end h9 (by omega) 0 (fun e=>by cases e)))
   subst hcn
   have k5:(c0 == c0)=true:=by simp
  case' neg=>
   have HJ:=qh (hjj (.slice (some ⟨b0,off+m*2,none⟩) (N0 - m) (c0 - m)) (by
    have h9:=(HKd.out.keep HW2.out.ft)
    have h8:=HN0.out
    rw[h8] at h9 ⊢
    exact (h9.drop (n:=m) (by omega)).its))
   have k5:(c0 == m)=false:=by simp[hcn]
  all_goals
   clear hcc hjj HRun hW2 hR2 hI2
   go_region_held3 (fun W=>W.cell? ⟨w.heap.size,3,none⟩=some (.slice oa oN oc)∧W.cell? ⟨w.heap.size,4,none⟩=some (.int .i64 (k:Nat))) (first|(with_reducible exact HCc.out _ HX.out)|(with_reducible exact HCc.out _ HX.out.drew)|(with_reducible exact HCc.out _ (grow HX.out _))|(with_reducible exact HCc.out _ (grow HX.out.drew _))|(with_reducible exact HCc.out _ (grow HX.out _).drew)|(with_reducible exact HCc.out _ (grow HX.out.drew _).drew)|(with_reducible exact HCc.out _ HB4.out))
    ((first
     | (go_at_call 104;(with_reducible refine (HJ.out _ (by first|(with_reducible exact HX.out)|(with_reducible exact HX.out.drew)) _ (by first|(with_reducible exact Below.refl _ _)|(with_reducible exact (Below.refl _ _).drew))).mono ?_);rintro e w4 ⟨v4,rfl,ho4,hb4⟩;have HO4:=qh ho4;have HB4:Hid (Below w2.heap.size w2 w4):=(by first|exact hb4|exact HX.out.drew.trans hb4);clear ho4 hb4)))
   all_goals
    go_wp2
    go_ret2
    obtain⟨ps',vl9,vm9,vs9,vo9,hf⟩:=HFin.out _ _ _ HW2.out HB4.out (HO4.out.lo_ (by first|(with_reducible exact HX.out.size)|(with_reducible exact HX.out.drew.size)))
    exact⟨_,ps',vl9,vm9,vs9,vo9,rfl,hf⟩
end Go.Proofs.YtjepgclnbbpnaaaGreat.P12
namespace Go.Proofs.YtjepgclnbbpnaaaGreat.P12
open Go Go.RowKit Go.Lib PK
open P11 (Pg)
open P9 (kb kb_trans)
def setsM(M:PM)(sets:List Pg):PM:=sets.foldl (fun M p=>M.put (p.id - 2).toNat p) M
def RgP(M:PM)(ps:List Pg):Prop:=∀ p∈ps,2≤p.id∧p.id < M.next
theorem RgP.app{M:PM}{a b:List Pg}(h:RgP M a)(k:RgP M b):RgP M (a++b):=fun p hp=>(List.mem_append.1 hp).elim (h p) (k p)
theorem RgP.mono{M M':PM}{a:List Pg}(h:RgP M a)(k:M.next≤M'.next):RgP M' a:=fun p hp=>⟨(h p hp).1,by have:=(h p hp).2;omega⟩
theorem put_next(M:PM)(k:Nat)(p:Pg):(M.put k p).next=M.next:=by
 unfold PM.next PM.put
 simp
theorem push_next(M:PM)(p:Pg):(M.push p).next=M.next+1:=by
 show ((M.L++_).length:Int)+2=(M.L.length:Int)+2+1
 rw[List.length_append,List.length_singleton]
 omega
theorem setsM_snoc(M:PM)(s:List Pg)(p:Pg):setsM M (s++[p])=(setsM M s).put (p.id - 2).toNat p:=by
 unfold setsM
 rw[List.foldl_append]
 rfl
theorem setsM_len:∀ (s:List Pg) (M:PM),(setsM M s).L.length=M.L.length
 | [],_=>rfl
 | p::s,M=>by
  show (setsM (M.put (p.id - 2).toNat p) s).L.length=_
  rw[setsM_len s]
  show (M.L.set _ _).length=_
  rw[List.length_set]
theorem setsM_next(M:PM)(s:List Pg):(setsM M s).next=M.next:=by
 unfold PM.next
 rw[setsM_len]
theorem setsM_same:∀ (s:List Pg) (M:PM),(setsM M s).fr=M.fr∧(setsM M s).given=M.given∧(setsM M s).bad=M.bad∧(setsM M s).twice=M.twice
 | [],_=>⟨rfl,rfl,rfl,rfl⟩
 | p::s,M=>setsM_same s (M.put (p.id - 2).toNat p)
theorem put_push{M:PM}{k:Nat}{p q:Pg}(h:k < M.L.length):(M.push q).put k p=(M.put k p).push q:=by
 unfold PM.push PM.put
 simp only[List.length_set]
 rw[List.set_append_left _ _ h]
theorem setsM_push{q:Pg}:∀ {s:List Pg} {M:PM},RgP M s→setsM (M.push q) s=(setsM M s).push q
 | [],_,_=>rfl
 | p::s,M,h=>by
  have hp:=h p List.mem_cons_self
  have hk:(p.id - 2).toNat < M.L.length:=by
   have h2:=hp.2
   unfold PM.next at h2
   omega
  show setsM ((M.push q).put (p.id - 2).toNat p) s=(setsM (M.put (p.id - 2).toNat p) s).push q
  rw[put_push hk]
  exact setsM_push fun x hx=>by
   rw[put_next]
   exact h x (List.mem_cons_of_mem _ hx)
theorem put_get{M:PM}{p:Pg}{j:Int}(hp:2≤p.id)(hj:j≠p.id):(M.put (p.id - 2).toNat p).get j=M.get j:=PM.put_other (by omega)
theorem put_get_self{M:PM}{p:Pg}(hp:2≤p.id∧p.id < M.next):(M.put (p.id - 2).toNat p).get p.id=(p,0):=by
 have h2:=hp.2
 unfold PM.next at h2
 have h:=PM.put_self (M:=M) (p:=p) (k:=(p.id - 2).toNat) (by omega)
 rwa[show (((p.id - 2).toNat:Nat):Int)+2=p.id by omega] at h
def Ks.F(a:Ks):PM:=setsM a.M a.sets
def Says(F:PM)(nd:Nd)(t:Int):Prop:=∃ tx,F.get t=(⟨nd.kind,t,tx,nd.body⟩,0)
def mkKids(ps:List Nd)(ts:List Int):List P10.It:=List.zipWith (fun p t=>⟨p.key,t⟩) ps ts
structure Kept (a K:Ks) (mi:List Pg) (ps:List Nd) (ts nm:List Int):Prop where
 tse:ts=(mi.take ps.length).map (·.id)++nm
 len:ts.length=ps.length
 ws:K.ws=a.ws++mkKids ps ts
 made:K.made=a.made++nm
 mlen:K.M.L.length=a.M.L.length+nm.length
 new:∀ x∈nm,a.M.next≤x∧x < K.M.next
 nod:nm.Nodup
 fr:∀ x,x < a.M.next→x∉ts→K.F.get x=a.F.get x
 says:All2 (Says K.F) ps ts
 rg:RgP K.M K.sets
 sets:∃ ss,K.sets=a.sets++ss∧∀ p∈ss,∃ q∈mi,q.id=p.id
 same:K.M.fr=a.M.fr∧K.M.given=a.M.given∧K.M.bad=a.M.bad∧K.M.twice=a.M.twice
 old:∀ x,x < a.M.next→K.M.get x=a.M.get x
theorem kept_any(mi:List Pg)(kd:Int):∀ (ps:List Nd) (j:Nat) (a:Ks),RgP a.M a.sets→RgP a.M (mi.drop j)→((mi.drop j).map (·.id)).Nodup→(∀ p∈mi,p.k=kd)→(∀ p∈ps,p.kind=kd)→
  ∃ ts nm,Kept a (kfold mi j a ps) (mi.drop j) ps ts nm
 | [],j,a,h1,_,_,_,_=>⟨[],[],⟨by simp,rfl,by show a.ws=_;simp[mkKids],by show a.made=_;simp,rfl,fun _ h=>(by cases h),List.nodup_nil,fun _ _ _=>rfl,trivial,h1,⟨[],by show a.sets=_;simp,fun _ h=>(by cases h)⟩,⟨rfl,rfl,rfl,rfl⟩,fun _ _=>rfl⟩⟩
 | nd::ps,j,a,h1,h2,h3,h4,h5=>by
  have hdd:(mi.drop j).drop 1=mi.drop (j+1):=by rw[List.drop_drop]
  show ∃ ts nm,Kept a (kfold mi (j+1) (kst mi a j nd) ps) (mi.drop j) (nd::ps) ts nm
  have hk1:=h5 nd List.mem_cons_self
  have h5':∀ p∈ps,p.kind=kd:=fun p hp=>h5 p (List.mem_cons_of_mem _ hp)
  cases hm:mi[j]? with
  | some p=>
   have hpm:p∈mi:=List.mem_of_getElem? hm
   have hd:mi.drop j=p::mi.drop (j+1):=by
    have hlt:=(List.getElem?_eq_some_iff.1 hm)
    rw[List.drop_eq_getElem_cons hlt.1,hlt.2]
   rw[hd] at h2 h3 ⊢
   have hp:=h2 p List.mem_cons_self
   obtain⟨b,hb⟩:∃ b,b=kst mi a j nd:=⟨_,rfl⟩
   have eM:b.M=a.M:=by rw[hb];unfold kst;rw[hm]
   have eS:b.sets=a.sets++[⟨p.k,p.id,p.tx,nd.body⟩]:=by rw[hb];unfold kst;rw[hm]
   have eW:b.ws=a.ws++[⟨nd.key,p.id⟩]:=by rw[hb];unfold kst;rw[hm]
   have eD:b.made=a.made:=by rw[hb];unfold kst;rw[hm]
   have eF:b.F=a.F.put (p.id - 2).toNat ⟨p.k,p.id,p.tx,nd.body⟩:=by
    unfold Ks.F
    rw[eM,eS,setsM_snoc]
   have hr:RgP b.M b.sets:=by
    rw[eM,eS]
    exact h1.app fun q hq=>by
     cases List.mem_singleton.1 hq
     exact hp
   obtain⟨ts,nm,k⟩:=kept_any mi kd ps (j+1) b hr (fun q hq=>by rw[eM];exact h2 q (List.mem_cons_of_mem _ hq)) (List.nodup_cons.1 h3).2 h4 h5'
   rw[← hb]
   have hpt:p.id∉ts:=fun e=>by
    rw[k.tse] at e
    rcases List.mem_append.1 e with e|e
    ·obtain⟨q,hq,e2⟩:=List.mem_map.1 e
     exact (List.nodup_cons.1 h3).1 (List.mem_map.2 ⟨q,List.mem_of_mem_take hq,e2⟩)
    ·have:=(k.new _ e).1
     rw[eM] at this
     omega
   have hn:p.id < b.M.next:=by rw[eM];exact hp.2
   have hself:b.F.get p.id=(⟨p.k,p.id,p.tx,nd.body⟩,0):=by
    rw[eF]
    refine put_get_self (p:=⟨p.k,p.id,p.tx,nd.body⟩) ⟨hp.1,?_⟩
    unfold Ks.F
    rw[setsM_next]
    exact hp.2
   refine⟨p.id::ts,nm,?_,?_,?_,?_,?_,?_,k.nod,?_,⟨⟨p.tx,?_⟩,k.says⟩,k.rg,?_,?_,?_⟩
   ·rw[k.tse]
    simp
   ·rw[List.length_cons,List.length_cons,k.len]
   ·rw[k.ws,eW]
    simp[mkKids]
   ·rw[k.made,eD]
   ·rw[k.mlen,eM]
   ·intro x hx
    have:=k.new x hx
    rwa[eM] at this
   ·intro x hx hxt
    have e1:=k.fr x (by rw[eM];exact hx) fun e=>hxt (List.mem_cons_of_mem _ e)
    rw[e1,eF]
    exact put_get (p:=⟨p.k,p.id,p.tx,nd.body⟩) hp.1 fun e=>hxt (by rw[e];exact List.mem_cons_self)
   ·rw[k.fr p.id hn hpt,hself,h4 p hpm,hk1]
   ·obtain⟨ss,e1,e2⟩:=k.sets
    refine⟨⟨p.k,p.id,p.tx,nd.body⟩::ss,by rw[e1,eS];simp,fun q hq=>?_⟩
    rcases List.mem_cons.1 hq with rfl|hq
    ·exact⟨p,List.mem_cons_self,rfl⟩
    ·obtain⟨r,hr1,hr2⟩:=e2 q hq
     exact⟨r,List.mem_cons_of_mem _ hr1,hr2⟩
   ·rw[k.same.1,k.same.2.1,k.same.2.2.1,k.same.2.2.2,eM]
    exact⟨rfl,rfl,rfl,rfl⟩
   ·intro x hx
    rw[k.old x (by rw[eM];exact hx),eM]
  | none=>
   have hjl:mi.length≤j:=List.getElem?_eq_none_iff.1 hm
   have hd:mi.drop j=[]:=List.drop_eq_nil_of_le hjl
   have hd1:mi.drop (j+1)=[]:=List.drop_eq_nil_of_le (by omega)
   rw[hd]
   obtain⟨b,hb⟩:∃ b,b=kst mi a j nd:=⟨_,rfl⟩
   have eM:b.M=a.M.push ⟨nd.kind,0,0,nd.body⟩:=by rw[hb];unfold kst;rw[hm]
   have eS:b.sets=a.sets:=by rw[hb];unfold kst;rw[hm]
   have eW:b.ws=a.ws++[⟨nd.key,a.M.next⟩]:=by rw[hb];unfold kst;rw[hm]
   have eD:b.made=a.made++[a.M.next]:=by rw[hb];unfold kst;rw[hm]
   have eN:b.M.next=a.M.next+1:=by rw[eM,push_next]
   have eF:b.F=a.F.push ⟨nd.kind,0,0,nd.body⟩:=by
    unfold Ks.F
    rw[eM,eS,setsM_push h1]
   have hr:RgP b.M b.sets:=by
    rw[eS]
    exact h1.mono (by rw[eN];omega)
   obtain⟨ts,nm,k⟩:=kept_any mi kd ps (j+1) b hr (by rw[hd1];exact fun _ h=>by cases h) (by rw[hd1];exact List.nodup_nil) h4 h5'
   rw[hd1] at k
   rw[← hb]
   have hts:ts=nm:=by rw[k.tse];simp
   have hnt:a.M.next∉ts:=fun e=>by
    rw[hts] at e
    have:=(k.new _ e).1
    omega
   have hself:b.F.get a.M.next=(⟨nd.kind,a.M.next,0,nd.body⟩,0):=by
    have h:=PM.push_new a.F ⟨nd.kind,0,0,nd.body⟩
    rw[eF]
    have e:a.F.next=a.M.next:=setsM_next _ _
    rwa[e] at h
   have hlt:a.M.next < (kfold mi (j+1) b ps).M.next:=by
    have h:=k.mlen
    have h2:=eN
    unfold PM.next at h2 ⊢
    omega
   refine⟨a.M.next::ts,a.M.next::nm,?_,?_,?_,?_,?_,?_,?_,?_,⟨⟨0,?_⟩,k.says⟩,k.rg,?_,?_,?_⟩
   ·rw[hts]
    simp
   ·rw[List.length_cons,List.length_cons,k.len]
   ·rw[k.ws,eW]
    simp[mkKids]
   ·rw[k.made,eD]
    simp
   ·have h:=k.mlen
    have h2:=eN
    unfold PM.next at h2
    rw[List.length_cons]
    omega
   ·intro x hx
    rcases List.mem_cons.1 hx with rfl|hx
    ·exact⟨Int.le_refl _,hlt⟩
    ·have:=k.new x hx
     omega
   ·refine List.nodup_cons.2 ⟨fun e=>?_,k.nod⟩
    have:=(k.new _ e).1
    omega
   ·intro x hx hxt
    have e1:=k.fr x (by omega) fun e=>hxt (List.mem_cons_of_mem _ e)
    rw[e1,eF]
    exact PM.push_old (by rw[show a.F.next=a.M.next from setsM_next _ _];exact hx)
   ·rw[k.fr a.M.next (by omega) hnt,hself]
   ·obtain⟨ss,e1,e2⟩:=k.sets
    exact⟨ss,by rw[e1,eS],e2⟩
   ·have h:=k.same
    rw[eM] at h
    exact h
   ·intro x hx
    rw[k.old x (by omega),eM]
    exact PM.push_old hx
theorem spl_any(M:PM)(n:Nat):∀ (l:List Pg) (a:List Pg×List Int),a.1.length≤n→((l.foldl (spl M n) a).1.map (·.id)++(l.foldl (spl M n) a).2).Perm (a.1.map (·.id)++a.2++l.map (·.id))∧(l.foldl (spl M n) a).1.length≤n∧
  (∀ p∈(l.foldl (spl M n) a).1,p∈a.1∨p∈l∧M.mine p.id=true)
 | [],a,h=>⟨by simp,h,fun p hp=>.inl hp⟩
 | q :: l,a,h=>by
  have hl:(spl M n a q).1.length≤n:=by
   unfold spl
   split
   ·rename_i c
    rw[List.length_append,List.length_singleton]
    omega
   ·exact h
  obtain⟨h1,h2,h3⟩:=spl_any M n l (spl M n a q) hl
  refine⟨h1.trans ?_,h2,fun p hp=>?_⟩
  ·unfold spl
   split
   ·simp only[List.map_append,List.map_cons,List.map_nil,List.append_assoc,List.singleton_append]
    refine List.Perm.append_left _ ?_
    exact List.perm_middle.symm
   ·simp only[List.map_cons,List.append_assoc,List.singleton_append]
    exact List.Perm.refl _
  ·rcases h3 p hp with h4|⟨h4,h5⟩
   ·unfold spl at h4
    split at h4
    ·rename_i c
     rcases List.mem_append.1 h4 with h4|h4
     ·exact .inl h4
     ·cases List.mem_singleton.1 h4
      exact .inr ⟨List.mem_cons_self,c.2⟩
    ·exact .inl h4
   ·exact .inr ⟨List.mem_cons_of_mem _ h4,h5⟩
theorem splitM_any(M:PM)(n:Nat)(l:List Pg):((splitM M n l).1.map (·.id)++(splitM M n l).2).Perm (l.map (·.id))∧(splitM M n l).1.length≤n∧∀ p∈(splitM M n l).1,p∈l∧M.mine p.id=true:=by
 obtain⟨h1,h2,h3⟩:=spl_any M n l ([],[]) (Nat.zero_le _)
 refine⟨by unfold splitM;simpa using h1,h2,fun p hp=>?_⟩
 rcases h3 p hp with h|h
 ·cases h
 ·exact h
end Go.Proofs.YtjepgclnbbpnaaaGreat.P12
namespace Go.Proofs.YtjepgclnbbpnaaaGreat.P12
open Go Go.RowKit Go.Lib PK
open P11 (Pg)
open P9 (It kb kb_trans RightI)
def Pend(F:PM):Nat→Nd→List It→List Int→Prop
 | 1,.lf l0,l,i=>l0=l∧i=[]
 | d+2,.tw ks,l,i=>Kids (TreeAt F (d+1)) ks none l i∧∀ q∈ks,q.ok=true
 | _,_,_,_=>False
theorem Pend.cases{F:PM}{d:Nat}{nd:Nd}{l:List It}{i:List Int}(h:Pend F d nd l i) :
  (d=1∧nd=.lf l∧i=[])∨∃ e ks,d=e+2∧nd=.tw ks∧Kids (TreeAt F (e+1)) ks none l i∧∀ q∈ks,q.ok=true:=by
 match d,nd,h with
 | 1,.lf l0,h=>exact .inl ⟨rfl,by rw[h.1],h.2⟩
 | e+2,.tw ks,h=>exact .inr ⟨e,ks,rfl,rfl,h.1,h.2⟩
theorem Pend.sorted{F:PM}{d:Nat}{nd:Nd}{l:List It}{i:List Int}(h:Pend F d nd l i)(hr:RightI l):nd.sorted:=by
 rcases h.cases with ⟨rfl,rfl,_⟩|⟨e,ks,rfl,rfl,h1,h2⟩
 ·exact hr
 ·exact P10.rightI_pair.2 ⟨h2,h1.rise fun _ _ _ g=>g.ne⟩
theorem Pend.len{F:PM}{d:Nat}{nd:Nd}{l:List It}{i:List Int}(h:Pend F d nd l i):nd.len+i.length≤2*l.length:=by
 rcases h.cases with ⟨rfl,rfl,rfl⟩|⟨e,ks,rfl,rfl,h1,h2⟩
 ·show l.length+0≤_
  omega
 ·have:=h1.pages fun _ _ _ g=>g.pages
  show ks.length+i.length≤_
  omega
theorem Nd.sorted.small{nd:Nd}(h:nd.sorted):nd.small:=fun j hj=>by
 cases nd with
 | lf l=>
  have hj':j < l.length:=hj
  have hx:=List.getElem?_eq_getElem hj'
  have e:=P9.sumI_take hx
  have ok:=(P9.rightI_pair.1 h).1 _ (List.mem_of_getElem? hx)
  unfold P9.It.ok at ok
  rw[decide_eq_true_eq] at ok
  show P9.sumI (l.take j) < P9.sumI (l.take (j+1))∧P9.sumI (l.take (j+1))≤P9.sumI (l.take j)+200
  rw[e]
  unfold P9.It.need
  omega
 | tw l=>
  have hj':j < l.length:=hj
  have hx:=List.getElem?_eq_getElem hj'
  have e:=P10.sumI_take hx
  have ok:=(P10.rightI_pair.1 h).1 _ (List.mem_of_getElem? hx)
  unfold P10.It.ok at ok
  rw[decide_eq_true_eq] at ok
  show P10.sumI (l.take j) < P10.sumI (l.take (j+1))∧P10.sumI (l.take (j+1))≤P10.sumI (l.take j)+36
  rw[e]
  unfold P10.It.need
  omega
theorem Nd.sorted.sum{nd:Nd}(h:nd.sorted):nd.sum≤nd.len*200:=by
 have h1:=(h.small.mono (Nat.zero_le nd.len) (Nat.le_refl _)).2
 rw[Nd.take_all,Nd.take_zero,Nat.sub_zero] at h1
 have h2:nd.cap≤200:=by
  cases nd with
  | lf=>exact Nat.le_refl 200
  | tw=>show 36≤200;decide
 have h3:=Nat.mul_le_mul_left nd.len h2
 omega
theorem Pend.fine{F:PM}{d:Nat}{nd:Nd}{l:List It}{i:List Int}(h:Pend F d nd l i)(hr:RightI l)(hl:l.length≤250)(hm:nd.len=0∨nd.least≤nd.len):Fine nd:=by
 have h1:=(h.sorted hr).sum
 have h2:=h.len
 exact⟨(h.sorted hr).small,by omega,hm⟩
theorem Pend.frame{F F':PM}{d:Nat}{nd:Nd}{l:List It}{i:List Int}(h:Pend F d nd l i)(k:∀ j∈i,F'.get j=F.get j):Pend F' d nd l i:=by
 rcases h.cases with ⟨rfl,rfl,rfl⟩|⟨e,ks,rfl,rfl,h1,h2⟩
 ·exact⟨rfl,rfl⟩
 ·exact⟨h1.map fun q _ l1 i1 hs ht=>ht.frame fun j hj=>k j (hs j hj),h2⟩
theorem TreeAt.pend{M:PM}{d:Nat}{id:Int}{l:List It}{i:List Int}(h:TreeAt M d id l i):∃ nd i',ndAt M id nd∧Pend M d nd l i'∧i=id::i':=by
 match d,h with
 | 1,⟨h1,h2⟩=>exact⟨.lf l,[],h1,⟨rfl,rfl⟩,h2⟩
 | d+2,⟨ks,i',h1,h2,h3⟩=>exact⟨.tw ks,i',h1,⟨h2,(P10.rightI_pair.1 h1.choose_spec.2.1).1⟩,h3⟩
theorem Pend.tree{F:PM}{d:Nat}{nd:Nd}{l:List It}{i:List Int}{t:Int}(h:Pend F d nd l i)(hg:nd.good)(hs:Says F nd t):TreeAt F d t l (t::i):=by
 obtain⟨tx,hs⟩:=hs
 rcases h.cases with ⟨rfl,rfl,rfl⟩|⟨e,ks,rfl,rfl,h1,h2⟩
 ·exact⟨⟨tx,hs,hg⟩,rfl⟩
 ·exact⟨ks,i,⟨tx,hs,hg⟩,h1,rfl⟩
def nextP(ps:List Nd)(hi:Option ByteArray):Option ByteArray:=match ps with
 | []=>hi
 | p::_=>some p.key
def Split(F:PM)(d:Nat):List Nd→Option ByteArray→List It→List Int→Prop
 | [],_,l,i=>l=[]∧i=[]
 | p::ps,hi,l,i=>∃ l1 i1 l2 i2,Pend F d p l1 i1∧Over l1 p.key∧Under l1 (nextP ps hi)∧Split F d ps hi l2 i2∧l=l1++l2∧i=i1++i2
theorem split_lf(F:PM):∀ (ls:List (List It)),RightI ls.flatten→(∀ m∈ls,0 < m.length)→Split F 1 (ls.map .lf) none ls.flatten []
 | [],_,_=>⟨rfl,rfl⟩
 | m :: ls,hr,h=>by
  rw[List.flatten_cons] at hr ⊢
  have h0:=h m List.mem_cons_self
  have hx:=List.getElem?_eq_getElem h0
  refine⟨m,[],ls.flatten,[],⟨rfl,rfl⟩,?_,?_,split_lf F ls (hr.sub (List.sublist_append_right _ _)) fun q hq=>h q (List.mem_cons_of_mem _ hq),rfl,rfl⟩
  ·have o:=over_head (hr.sub (List.sublist_append_left _ _)) hx
   have e:(Nd.lf m).key=m[0].key:=by
    show (m[0]?.map _).getD _=_
    rw[hx]
    rfl
   rw[e]
   exact o
  ·cases ls with
   | nil=>exact Under.none_ _
   | cons n ls=>
    have hn:=h n (List.mem_cons_of_mem _ List.mem_cons_self)
    have hy:=List.getElem?_eq_getElem hn
    have e:(Nd.lf n).key=n[0].key:=by
     show (n[0]?.map _).getD _=_
     rw[hy]
     rfl
    show Under m (some (Nd.lf n).key)
    rw[e]
    refine Under.some_ fun x hx=>?_
    exact (List.pairwise_append.1 (P9.rightI_pair.1 hr).2).2.2 x hx _ (by rw[List.flatten_cons];exact List.mem_append_left _ (List.mem_of_getElem? hy))
theorem split_tw(F:PM)(e:Nat):∀ (ls:List (List P10.It)) (l:List It) (i:List Int),Kids (TreeAt F (e+1)) ls.flatten none l i→ls.flatten.Pairwise (fun x y=>kb x.key y.key=true)→(∀ q∈ls.flatten,q.ok=true)→
  (∀ m∈ls,2≤m.length)→Split F (e+2) (ls.map .tw) none l i
 | [],_,_,h,_,_,_=>h
 | m::ls,l,i,h,hp,hk,hm=>by
  rw[List.flatten_cons] at h hp hk
  obtain⟨la,ia,lb,ib,h1,h2,rfl,rfl⟩:=Kids.app.1 h
  have h0:=hm m List.mem_cons_self
  obtain⟨p1,p2,p3⟩:=List.pairwise_append.1 hp
  refine⟨la,ia,lb,ib,⟨h1.bound (Under.none_ _),fun q hq=>hk q (List.mem_append_left _ hq)⟩,?_,?_,split_tw F e ls lb ib h2 p2 (fun q hq=>hk q (List.mem_append_right _ hq)) fun q hq=>hm q (List.mem_cons_of_mem _ hq),rfl,rfl⟩
  ·cases m with
   | nil=>simp at h0
   | cons q m=>exact h1.over p1
  ·cases ls with
   | nil=>exact Under.none_ _
   | cons n ls=>
    have hn:=hm n (List.mem_cons_of_mem _ List.mem_cons_self)
    cases n with
    | nil=>simp at hn
    | cons q n=>exact Under.some_ (Kids.lows h1 fun x hx=>p3 x hx q (by simp))
theorem parts_split{F:PM}{d:Nat}{nd:Nd}{ps:List Nd}{l:List It}{i:List Int}(hp:PartsOf nd ps)(h:Pend F d nd l i)(hr:RightI l):Split F d ps none l i:=by
 rcases h.cases with ⟨rfl,rfl,rfl⟩|⟨e,ks,rfl,rfl,h1,h2⟩
 ·obtain⟨ls,rfl,rfl,h3⟩:=hp
  exact split_lf F ls hr fun m hm=>(h3 m hm).1
 ·obtain⟨ls,rfl,rfl,h3⟩:=hp
  exact split_tw F e ls l i h1 (h1.rise fun _ _ _ g=>g.ne) h2 fun m hm=>(h3 m hm).1
theorem mkKids_cons(p:Nd)(ps:List Nd)(t:Int)(ts:List Int):mkKids (p::ps) (t::ts)=⟨p.key,t⟩::mkKids ps ts:=rfl
theorem nextK_mk{ps:List Nd}{ts:List Int}(h:ts.length=ps.length)(hi:Option ByteArray):nextK (mkKids ps ts) hi=nextP ps hi:=by
 cases ps with
 | nil=>rfl
 | cons p ps=>cases ts with
  | nil=>simp at h
  | cons t ts=>rfl
theorem split_kids{F:PM}{d:Nat}:∀ {ps:List Nd} {ts:List Int} {hi:Option ByteArray} {l:List It} {i:List Int},Split F d ps hi l i→All2 (Says F) ps ts→(∀ p∈ps,p.good)→
  ∃ iw,Kids (TreeAt F d) (mkKids ps ts) hi l iw∧iw.Perm (ts++i)
 | [],[],_,_,_,h,_,_=>⟨[],⟨h.1,rfl⟩,by rw[h.2];exact List.Perm.refl _⟩
 | p::ps,t::ts,hi,_,_,⟨l1,i1,l2,i2,h1,h2,h3,h4,rfl,rfl⟩,ha,hg=>by
  obtain⟨iw,g1,g2⟩:=split_kids h4 ha.2 fun q hq=>hg q (List.mem_cons_of_mem _ hq)
  have ht:=h1.tree (hg p List.mem_cons_self) ha.1
  refine⟨(t::i1)++iw,?_,?_⟩
  ·rw[mkKids_cons]
   exact⟨l1,t::i1,l2,iw,ht,h2,by rw[nextK_mk ha.2.len.symm];exact h3,g1,rfl,rfl⟩
  ·rw[List.cons_append,List.cons_append]
   refine List.Perm.cons _ ?_
   refine (List.Perm.append_left i1 g2).trans ?_
   rw[← List.append_assoc,← List.append_assoc]
   exact List.Perm.append_right _ List.perm_append_comm
 | [],_::_,_,_,_,_,h,_=>h.elim
 | _::_,[],_,_,_,_,h,_=>h.elim
structure KeepP (M:PM) (sets:List Pg) (made:List Int) (d:Nat) (nd:Nd) (l:List It) (i:List Int) (olds:List Pg) (ps:List Nd) (K:Ks) (gn:List Int) (iw nm:List Int):Prop where
 kids:Kids (TreeAt K.F d) K.ws none l iw
 perm:(iw++gn).Perm (olds.map (·.id)++nm++i)
 made:K.made=made++nm
 mlen:K.M.L.length=M.L.length+nm.length
 new:∀ x∈nm,M.next≤x∧x < K.M.next
 nod:nm.Nodup
 fr:∀ x,x < M.next→x∉olds.map (·.id)→K.F.get x=(setsM M sets).get x
 rg:RgP K.M K.sets
 sets:∃ ss,K.sets=sets++ss∧∀ p∈ss,(∃ q∈olds,q.id=p.id)∧M.mine p.id=true
 same:K.M.fr=M.fr∧K.M.given=M.given∧K.M.bad=M.bad∧K.M.twice=M.twice
 old:∀ x,x < M.next→K.M.get x=M.get x
 ok:∀ q∈K.ws,q.ok=true
 len:K.ws.length=ps.length
 gnl:gn.length≤olds.length
theorem key_small{nd:Nd}(h:nd.good):nd.key.size≤32:=by
 cases nd with
 | lf l=>
  obtain⟨h1,h2,h3⟩:=h
  have hx:=List.getElem?_eq_getElem h3
  have ok:=(P9.rightI_pair.1 h1).1 _ (List.mem_of_getElem? hx)
  unfold P9.It.ok at ok
  rw[decide_eq_true_eq] at ok
  show ((l[0]?.map _).getD _:ByteArray).size≤32
  rw[hx]
  exact ok.2.1
 | tw l=>
  obtain⟨h1,h2,h3⟩:=h
  have hx:=List.getElem?_eq_getElem (show 0 < l.length by omega)
  have ok:=(P10.rightI_pair.1 h1).1 _ (List.mem_of_getElem? hx)
  unfold P10.It.ok at ok
  rw[decide_eq_true_eq] at ok
  show ((l[0]?.map _).getD _:ByteArray).size≤32
  rw[hx]
  exact ok.1
theorem mk_ok{n:Int}(hn:n≤4000):∀ {ps:List Nd} {ts:List Int},(∀ p∈ps,p.good)→(∀ t∈ts,2≤t∧t < n)→∀ q∈mkKids ps ts,q.ok=true
 | [],_,_,_,q,hq=>by cases hq
 | _::_,[],_,_,q,hq=>by cases hq
 | p::ps,t::ts,hg,ht,q,hq=>by
  rw[mkKids_cons] at hq
  rcases List.mem_cons.1 hq with rfl|hq
  ·have h1:=key_small (hg p List.mem_cons_self)
   have h2:=ht t List.mem_cons_self
   unfold P10.It.ok
   rw[decide_eq_true_eq]
   exact⟨h1,h2.1,by show t≤3999;omega⟩
  ·exact mk_ok hn (fun x hx=>hg x (List.mem_cons_of_mem _ hx)) (fun x hx=>ht x (List.mem_cons_of_mem _ hx)) q hq
theorem keep_pure{M:PM}{sets:List Pg}{made:List Int}{d:Nat}{nd:Nd}{l:List It}{i:List Int}{olds:List Pg}{ps:List Nd}(hp:PartsOf nd ps)(h:Pend (setsM M sets) d nd l i)(hr:RightI l)(hrg:RgP M sets)(ho:RgP M olds)(hn:(olds.map (·.id)).Nodup)
  (hk:∀ p∈olds,p.k=nd.kind) (hi:∀ x∈i,x < M.next∧x∉olds.map (·.id)) (hl:M.L.length+ps.length≤3998) :
  ∃ iw nm,KeepP M sets made d nd l i olds ps (kfold (splitM M ps.length olds).1 0 ⟨M,sets,made,[]⟩ ps) (splitM M ps.length olds).2 iw nm:=by
 obtain⟨s1,s2,s3⟩:=splitM_any M ps.length olds
 have s4:=(splitM_len M ps.length olds).2
 obtain⟨mi,hmi⟩:∃ m,m=(splitM M ps.length olds).1:=⟨_,rfl⟩
 obtain⟨gn,hgn⟩:∃ m,m=(splitM M ps.length olds).2:=⟨_,rfl⟩
 rw[← hmi] at s1 s2 s3 ⊢
 rw[← hgn] at s1 s4 ⊢
 have hgood:=parts_good hp (h.sorted hr)
 have hkind:∀ p∈ps,p.kind=nd.kind:=fun p hpp=>by
  cases nd with
  | lf l=>obtain⟨ls,rfl,_⟩:=hp;obtain⟨m,_,rfl⟩:=List.mem_map.1 hpp;rfl
  | tw l=>obtain⟨ls,rfl,_⟩:=hp;obtain⟨m,_,rfl⟩:=List.mem_map.1 hpp;rfl
 have hmn:((mi.drop 0).map (·.id)).Nodup:=by
  rw[List.drop_zero]
  exact (List.nodup_append.1 (s1.nodup_iff.2 hn)).1
 obtain⟨ts,nm,k⟩:=kept_any mi nd.kind ps 0 ⟨M,sets,made,[]⟩ hrg (fun p hpm=>by rw[List.drop_zero] at hpm;exact ho p (s3 p hpm).1) hmn (fun p hpm=>hk p (s3 p hpm).1) hkind
 rw[List.drop_zero] at k
 have hts:ts=mi.map (·.id)++nm:=by
  have e:=k.tse
  rwa[List.take_of_length_le s2] at e
 have hmo:∀ x,x∈mi.map (·.id)→x∈olds.map (·.id):=fun x hx=>s1.mem_iff.1 (List.mem_append_left _ hx)
 have hpend:Pend (kfold mi 0 ⟨M,sets,made,[]⟩ ps).F d nd l i:=h.frame fun j hj=>by
  refine k.fr j (hi j hj).1 fun e=>?_
  rw[hts] at e
  rcases List.mem_append.1 e with e|e
  ·exact (hi j hj).2 (hmo j e)
  ·have:=(k.new j e).1
   have:=(hi j hj).1
   show False
   have h9:M.next≤j:=(k.new j e).1
   omega
 obtain⟨iw,g1,g2⟩:=split_kids (parts_split hp hpend hr) k.says hgood
 have hws:(kfold mi 0 ⟨M,sets,made,[]⟩ ps).ws=mkKids ps ts:=by rw[k.ws];rfl
 have hnx:(kfold mi 0 ⟨M,sets,made,[]⟩ ps).M.next≤4000:=by
  have e1:=k.mlen
  have e2:=k.len
  rw[hts,List.length_append] at e2
  unfold PM.next
  have e3:(kfold mi 0 ⟨M,sets,made,[]⟩ ps).M.L.length=M.L.length+nm.length:=e1
  omega
 refine⟨iw,nm,by rw[hws];exact g1,?_,k.made,k.mlen,k.new,k.nod,fun x hx hxo=>k.fr x hx fun e=>?_,k.rg,?_,k.same,k.old,?_,?_,s4⟩
 ·refine (List.Perm.append_right gn g2).trans ?_
  rw[hts]
  have e1:((mi.map (·.id)++nm)++i++gn).Perm (mi.map (·.id)++gn++(nm++i)):=by
   rw[List.append_assoc,List.append_assoc,List.append_assoc]
   refine List.Perm.append_left _ ?_
   rw[← List.append_assoc]
   exact List.perm_append_comm
  refine e1.trans ?_
  rw[List.append_assoc (olds.map _)]
  exact List.Perm.append_right _ s1
 ·rw[hts] at e
  rcases List.mem_append.1 e with e|e
  ·exact hxo (hmo x e)
  ·have h9:M.next≤x:=(k.new x e).1
   omega
 ·obtain⟨ss,e1,e2⟩:=k.sets
  refine⟨ss,e1,fun p hpp=>?_⟩
  obtain⟨q,hq,e3⟩:=e2 p hpp
  exact⟨⟨q,(s3 q hq).1,e3⟩,by rw[← e3];exact (s3 q hq).2⟩
 ·rw[hws]
  refine mk_ok hnx hgood fun t ht=>?_
  rw[hts] at ht
  rcases List.mem_append.1 ht with ht|ht
  ·obtain⟨q,hq,rfl⟩:=List.mem_map.1 ht
   have h9:=ho q (s3 q hq).1
   have h8:M.next≤(kfold mi 0 ⟨M,sets,made,[]⟩ ps).M.next:=by
    have e1:(kfold mi 0 ⟨M,sets,made,[]⟩ ps).M.L.length=M.L.length+nm.length:=k.mlen
    unfold PM.next
    omega
   omega
  ·have h9:=k.new t ht
   have h8:M.next≤t:=h9.1
   unfold PM.next at h8
   omega
 ·rw[hws]
  unfold mkKids
  rw[List.length_zipWith,k.len,Nat.min_self]
end Go.Proofs.YtjepgclnbbpnaaaGreat.P12
