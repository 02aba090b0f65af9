/-
  Texts of the proofs of SaidOrd12.
-/
import Derived.Test.YtjepgclnbbpnaaaGreatMs22
set_option linter.unusedVariables false
set_option linter.unusedSimpArgs false
set_option maxHeartbeats 8000000
set_option maxRecDepth 100000
namespace Go.Proofs.YtjepgclnbbpnaaaGreat.P12
open PK (qqA qqB qqC qqD qqE qqF tk tkS dOne qh)
open Go Go.RowKit Go.Lib PK
open P11 (Pg cellsP)
theorem cat3(W W':World)(s1 s2 s3:Value)(L1 L2 L3:List P10.It)(hw:Below (W.alloc (.cells #[s1,s2,s3] 78)).heap.size (W.alloc (.cells #[s1,s2,s3] 78)) W')(h1:P10.ItsIn W s1 L1)(h2:P10.ItsIn W s2 L2)(h3:P10.ItsIn W s3 L3)(hs:(L1++L2++L3).length≤1000000) :
  Calls Tryz.prog 104 #[.slice (some ⟨W.heap.size,0,none⟩) 3 3] W' fun e w'=>∃ v,e=.returned v∧P10.OwnI W.heap.size w' v (L1++L2++L3)∧Below W.heap.size W w':=by
 have hb:=thenBelow (below_new W (.cells #[s1,s2,s3] 78)) hw
 have hr:=P3.old_below (new_at W #[s1,s2,s3] 78) hw
 refine (P10.concat_any W' W.heap.size 3 3 [s1,s2,s3] [L1,L2,L3] (lt_of_block hr) (by omega) rfl rfl (fun i u hu=>?_) (fun i u L hu hL=>?_) (by simpa using hs)).mono ?_
 ·rw[cell_at hr,List.getElem?_toArray]
  exact hu
 ·match i,hu,hL with
  | 0,hu,hL=>
   cases hu
   cases hL
   exact h1.below hb
  | 1,hu,hL=>
   cases hu
   cases hL
   exact h2.below hb
  | 2,hu,hL=>
   cases hu
   cases hL
   exact h3.below hb
  | n+3,hu,hL=>simp at hu
 ·rintro e w' ⟨v,rfl,g1,g2⟩
  exact⟨v,rfl,by simpa using g1.lo_ hb.size,thenBelow hb g2⟩
def sew(ks ws:List P10.It)(k n:Nat)(key:ByteArray):List P10.It:=ks.take k++rekey ws 0 key++ks.drop (k+n)
structure Sewn (w w':World) (G:Cg) (nd:Nd) (olds:List Pg) (ks:List P10.It) (k:Nat) (key:ByteArray) (v':Value) (ps:List Nd) (vl' vm' vs' vo':Value):Prop where
 parts:PartsOf nd ps
 own:P10.OwnI w.heap.size w' v' (sew ks (kfold (splitM G.M ps.length olds).1 0 ⟨G.M,G.sets,G.made,[]⟩ ps).ws k olds.length key)
 went:Went w w' G { G with vl:=vl',vm:=vm',vs:=vs',vo:=vo',M:=(kfold (splitM G.M ps.length olds).1 0 ⟨G.M,G.sets,G.made,[]⟩ ps).M,sets:=(kfold (splitM G.M ps.length olds).1 0 ⟨G.M,G.sets,G.made,[]⟩ ps).sets,made:=(kfold (splitM G.M ps.length olds).1 0 ⟨G.M,G.sets,G.made,[]⟩ ps).made,gone:=G.gone++(splitM G.M ps.length olds).2 }
theorem kd_drop_end{w:World}{a:Option Addr}{c n:Nat}{l:List P10.It}(h:P10.ItsIn w (.slice a l.length c) l)(hn:l.length=n)(c':Nat)(hc:a=none→c'=0):P10.ItsIn w (.slice a 0 c') (l.drop n):=by
 subst hn
 rw[List.drop_length]
 obtain⟨a',c2,e,h1,_⟩:=h
 simp only[Value.slice.injEq] at e
 obtain⟨rfl,_,rfl⟩:=e
 exact⟨_,c',rfl,hc,by simp[P10.cellsI],P10.cellsI_ok _,fun h=>absurd h (by simp[P10.cellsI])⟩
theorem kids_any(w:World)(G:Cg)(nd:Nd)(vi vk v:Value)(olds:List Pg)(k:Nat)(d:Bool)(v0:Value)(ks:List P10.It)(q:P10.It)(h:CAt w G)(hn:NdT w none vi vk nd)(ho:OldIn w G v olds)(hf:Fine nd)(hs:nd.sorted)(hr:G.M.L.length+nd.len≤3998)(hb:G.sets.length≤9000∧G.made.length≤9000∧G.gone.length≤9000∧olds.length≤2)(hfr:2≤G.M.fr)(hid:∀ p∈olds,p.id≤100000)
  (hk:KdT w none v0 ks) (hq:ks[k]?=some q) (hkn:k+olds.length≤ks.length) (hkl:ks.length≤1000) :
  Calls Tryz.prog 85 #[.pointer (some ⟨G.c,0,none⟩),Grv nd vi vk v (k:Nat) d,v0] w fun e w'=>∃ v' ps vl' vm' vs' vo',e=.returned (.tuple #[v',.int .i64 0])∧Sewn w w' G nd olds ks k q.key v' ps vl' vm' vs' vo':=by
 obtain⟨a,n,c,a',n',c',rfl,rfl,_⟩:=hn.lens
 obtain⟨oa,oc,rfl⟩:=ho.pgs.slice
 have hlt:=(List.getElem?_eq_some_iff.1 hq).1
 obtain⟨W,hW⟩:∃ W,W=w.alloc (.cells #[.int .i64 nd.kind,.slice a n c,.slice a' n' c',.slice oa olds.length oc,.int .i64 (k:Nat),.bool d] 127):=⟨_,rfl⟩
 have b0:Below w.heap.size w W:=by rw[hW];exact below_new _ _
 have r0:W.heap[w.heap.size]?=some (.cells #[.int .i64 nd.kind,.slice a n c,.slice a' n' c',.slice oa olds.length oc,.int .i64 (k:Nat),.bool d] 127 (0,0)):=by rw[hW];exact new_at _ _ _
 have wt0:=Went.below h b0
 have hkp:=keep_any W G nd (.slice a n c) (.slice a' n' c') (.slice oa olds.length oc) olds (k:Nat) d wt0.at_ (hn.keep (FrT.of b0)) (ho.went wt0) hf hs hr hb hfr hid
 unfold Grv at hkp ⊢
 have HKp:=qh hkp
 have HW0:=qh wt0
 have HR0:=qh r0
 have hnS:¬ G.S w.heap.size:=fun e=>by have:=h.lt e;omega
 have HnS:=qh hnS
 have HKd:=qh hk
 have HCA:=qh h
 have HQ:=qh hq
 have q0:=cell_at r0 0
 have q1:=cell_at r0 1
 have q2:=cell_at r0 2
 have q3:=cell_at r0 3
 have q4:=cell_at r0 4
 have q5:=cell_at r0 5
 simp only[qqD,qqE,qqF] at q0 q1 q2 q3 q4 q5
 have HB0:=qh b0
 have Hb:=qh hb
 have HRm:=qh hr
 obtain⟨oN,hoN⟩:∃ n,n=olds.length:=⟨_,rfl⟩
 have HoN:=qh hoN
 rw[← hoN] at hkn HR0 q3 hW
 rw[← hoN] at HKp
 clear h hn ho hf hs hr hid hk hq b0 r0 wt0 hkp hnS
 go_enter Tryz.func85,Tryz.ntmps85
 go_upto_region 1 with fail
 rw[← hoN,← hW]
 clear hW hoN
 go_upto_region 4 with (go_at_call 103;(with_reducible refine HKp.out.mono ?_);rintro e w1 ⟨v',ps,vl',vm',vs',vo',rfl,h1⟩;have H1:=qh h1;clear h1)
 obtain⟨K,hK⟩:∃ K,K=kfold (splitM G.M ps.length olds).1 0 ⟨G.M,G.sets,G.made,[]⟩ ps:=⟨_,rfl⟩
 obtain⟨G',hG'⟩:∃ G':Cg,G'={ G with vl:=vl',vm:=vm',vs:=vs',vo:=vo',M:=K.M,sets:=K.sets,made:=K.made,gone:=G.gone++(splitM G.M ps.length olds).2 }:=⟨_,rfl⟩
 have hO1:=H1.out.own
 have hW1:=H1.out.went
 have hPa:=qh H1.out.parts
 rw[← hK] at hO1 hW1
 rw[← hG'] at hW1
 have hps:G'.ps=G.ps:=by rw[hG']
 obtain⟨hr1,hn1⟩:=hW1.box HR0.out HnS.out
 have hR1:=qh hr1
 have hN1:=qh hn1
 have HO1:=qh hO1
 have HW1:=qh (HW0.out.trans hW1)
 have HGe:=qh hG'
 have HKe:=qh hK
 have HPs:=qh hps
 clear hO1 hW1 hr1 hn1 hG' hK hps H1 q0 q1 q2 q3 q4 q5
 obtain⟨ws,hws⟩:∃ ws,ws=K.ws:=⟨_,rfl⟩
 rw[← hws] at HO1
 have HWs:=qh hws
 clear hws
 obtain⟨b0,off,c0,rfl,hc0,hc1⟩:∃ b0 off c0,v0=.slice (some ⟨b0,off,none⟩) ks.length c0∧ks.length≤c0∧c0≤9223372036854775807:=by
  obtain⟨a0,n0,c0,rfl,hc,hm⟩:=HKd.out.wide
  have h9:=HKd.out.its
  obtain rfl:n0=ks.length:=by
   obtain⟨_,_,e⟩:=h9.slice
   simp only[Value.slice.injEq] at e
   exact e.2.1
  obtain⟨b,off,rfl,_⟩:=h9.at_ HQ.out
  exact⟨b,off,c0,rfl,hc,hm⟩
 obtain⟨N0,hN0⟩:∃ n,n=ks.length:=⟨_,rfl⟩
 rw[← hN0]
 rw[← hN0] at hlt hkn hkl hc0 HKd
 have HN0:=qh hN0
 clear hN0
 have j1:(0:Int)≤(k:Int):=by omega
 have j2:(k:Int) < (N0:Int):=by omega
 have j3:(k:Int)≤(c0:Int):=by omega
 obtain⟨m,hm⟩:∃ m,m=k+oN:=⟨_,rfl⟩
 have j4:IntKind.i64.wrap ((k:Int)+(oN:Int))=(m:Int):=by
  rw[IntKind.wrap_i64]
  omega
 have hwl:=HO1.out.its
 obtain⟨aw,cw,rfl⟩:=hwl.slice
 obtain⟨Nw,hNw⟩:∃ n,n=ws.length:=⟨_,rfl⟩
 rw[← hNw]
 rw[← hNw] at HO1
 have HNw:=qh hNw
 have hlw:ws.length≤100000:=by
  have h1:=(kfold_lens (splitM G.M ps.length olds).1 ps 0 ⟨G.M,G.sets,G.made,[]⟩).2.2.2
  have h2:=hPa.out.count.1
  have h3:=HRm.out
  rw[← HKe.out,← HWs.out] at h1
  simp only[List.length_nil] at h1
  omega
 have HLw:=qh hlw
 clear hwl hNw hlw
 have HFin:Hid (∀ (w2 w4:World) (v4:Value),Went w w2 G G'→Below w2.heap.size w2 w4→P10.OwnI w2.heap.size w4 v4 (sew ks ws k oN q.key)→∃ ps' vl9 vm9 vs9 vo9,Sewn w w4 G nd olds ks k q.key v4 ps' vl9 vm9 vs9 vo9):=fun w2 w4 v4 a1 a2 a3=>by
  refine⟨ps,vl',vm',vs',vo',hPa.out,?_,?_⟩
  ·rw[← HKe.out,← HWs.out,← HoN.out]
   exact a3.lo_ a1.fr.size
  ·rw[← HKe.out,← HGe.out]
   exact a1.then a2
 have HRun:Hid (∀ w2:World,Went w w2 G G'→w2.heap[w.heap.size]?=some (.cells #[.int .i64 nd.kind,.slice a n c,.slice a' n' c',.slice oa oN oc,.int .i64 (k:Nat),.bool d] 127 (0,0))→P10.ItsIn w2 (.slice aw Nw cw) (rekey ws 0 q.key)→
   (∀ W,Below w2.heap.size w2 W→W.cell? ⟨w.heap.size,3,none⟩=some (.slice oa oN oc)∧W.cell? ⟨w.heap.size,4,none⟩=some (.int .i64 (k:Nat)))∧
   (∀ s3:Value,P10.ItsIn w2 s3 (ks.drop (k+oN))→∀ W,Below w2.heap.size w2 W→∀ W',Below (W.alloc (.cells #[.slice (some ⟨b0,off,none⟩) k c0,.slice aw Nw cw,s3] 78)).heap.size (W.alloc (.cells #[.slice (some ⟨b0,off,none⟩) k c0,.slice aw Nw cw,s3] 78)) W'→Calls Tryz.prog 104 #[.slice (some ⟨W.heap.size,0,none⟩) 3 3] W' fun e w'=>∃ v,e=.returned v∧P10.OwnI W.heap.size w' v (sew ks ws k oN q.key)∧Below W.heap.size W w')):=fun w2 a1 a2 a3=>by
  refine⟨fun W b=>?_,fun s3 h3 W b W' b'=>?_⟩
  ·have r:=P3.old_below a2 b
   exact⟨cell_at r 3,cell_at r 4⟩
  ·have h1:=((HKd.out.keep a1.ft).its)
   rw[HN0.out] at h1
   have h2:=h1.take (n:=k) (by have:=HN0.out;omega)
   refine cat3 W W' _ _ _ _ _ _ b' (h2.below b) (a3.below b) (h3.below b) ?_
   have:=HN0.out
   have:=HO1.out.2
   have h8:=HLw.out
   simp only[List.length_append,List.length_take,List.length_drop,rekey_len]
   omega
 clear HKp HKe HoN
 by_cases hz:Nw=0
 case' pos=>
  subst hz
  obtain⟨w2,hw2⟩:∃ w2,w2=w1:=⟨_,rfl⟩
  have hI2:P10.ItsIn w2 (.slice aw 0 cw) (rekey ws 0 q.key):=by
   have e:ws=[]:=List.eq_nil_of_length_eq_zero HNw.out.symm
   have e2:rekey ws 0 q.key=ws:=by rw[e];rfl
   rw[e2,hw2]
   exact HO1.out.its
  have hW2:Went w w2 G G':=by rw[hw2];exact HW1.out
  have hR2:w2.heap[w.heap.size]?=some (.cells #[.int .i64 nd.kind,.slice a n c,.slice a' n' c',.slice oa oN oc,.int .i64 (k:Nat),.bool d] 127 (0,0)):=by rw[hw2];exact hR1.out
  go_upto_region 6 with fail
  rw[← hw2]
  clear hw2
 case' neg=>
  obtain⟨z,hz0⟩:∃ z,ws[0]?=some z:=⟨_,List.getElem?_eq_getElem (by have:=HNw.out;omega)⟩
  obtain⟨g,c9,e9,hgx,y0,y1,y2,cs9,y3⟩:=own_cell HO1.out hz0
  simp only[Value.slice.injEq] at e9
  obtain⟨rfl,e99,rfl⟩:=e9
  clear e99
  have y4:=y2 0
  have hr1:=hR1.out
  have q4:=cell_at hr1 4
  simp only[qqD,qqE,qqF] at q4
  have hk1:=(HKd.out.keep HW1.out.ft).its
  obtain⟨b9,off9,e9,hx9⟩:=hk1.at_ HQ.out
  simp only[Option.some.injEq,Addr.mk.injEq,and_true] at e9
  obtain⟨rfl,rfl⟩:=e9
  have x0:=(hx9 _ (Below.refl _ _)).1
  obtain⟨w2,hw2⟩:∃ w2,w2=w1.setCell ⟨g,0,none⟩ (.string q.key):=⟨_,rfl⟩
  have hne:w.heap.size≠g:=fun e=>by
   rw[e,y3] at hr1
   cases hr1
  have hR2:w2.heap[w.heap.size]?=some (.cells #[.int .i64 nd.kind,.slice a n c,.slice a' n' c',.slice oa oN oc,.int .i64 (k:Nat),.bool d] 127 (0,0)):=by
   rw[hw2]
   exact P3.old_set hr1 ⟨g,0,none⟩ hne _
  have hI2:P10.ItsIn w2 (.slice (some ⟨g,0,none⟩) Nw cw) (rekey ws 0 q.key):=by
   have h9:=HO1.out
   rw[HNw.out] at h9 ⊢
   have:=rekey_own h9 hz0 q.key
   rw[Nat.zero_mul,← hw2] at this
   exact this.its
  have hW2:Went w w2 G G':=by
   rw[hw2]
   refine HW1.out.ext HCA.out HPs.out (fr_set _ g 0 _) fun j hj=>?_
   subst hj
   exact⟨by have:=HB0.out.size;omega,fun e=>HW1.out.at_.notT none _ _ _ e ⟨.inr rfl,by simp⟩ y3⟩
  rw[Nat.zero_mul] at y0
  clear hr1 hk1 hx9 hne y2 y3
  go_upto_region 6 with fail
  rw[← hw2]
  clear hw2
 all_goals
  obtain⟨hcc,hjj⟩:=HRun.out w2 hW2 hR2 hI2
  have HCc:=qh hcc
  have HX:=qh (Below.refl w2.heap.size w2)
  have HW2:=qh hW2
  rw[← hm] at hjj
  have k2:(k:Int)≤(N0:Int):=by omega
  have k3:(m:Int)≤(N0:Int):=by omega
  have k4:(0:Int)≤(m:Int):=by omega
  have k6:k≤N0:=by omega
  have k7:m≤c0:=by omega
  have k8:k≤c0:=by omega
  have k9:m≤N0:=by omega
  have HM:=qh hm
  clear hm
  by_cases hcn:c0=m
  case' pos=>
   have HJ:=qh (hjj (.slice (some ⟨b0,off,none⟩) 0 0) (by
    have h9:=(HKd.out.keep HW2.out.ft).its
    have h8:=HN0.out
    rw[h8] at h9
    exact kd_drop_end h9 (by omega) 0 (fun e=>by cases e)))
   subst hcn
   have k5:(c0 == c0)=true:=by simp
  case' neg=>
   have HJ:=qh (hjj (.slice (some ⟨b0,off+m*2,none⟩) (N0 - m) (c0 - m)) (by
    have h9:=(HKd.out.keep HW2.out.ft)
    have h8:=HN0.out
    rw[h8] at h9 ⊢
    exact (h9.drop (n:=m) (by omega)).its))
   have k5:(c0 == m)=false:=by simp[hcn]
  all_goals
   clear hcc hjj HRun hW2 hR2 hI2
   go_region_held3 (fun W=>W.cell? ⟨w.heap.size,3,none⟩=some (.slice oa oN oc)∧W.cell? ⟨w.heap.size,4,none⟩=some (.int .i64 (k:Nat))) (first|(with_reducible exact HCc.out _ HX.out)|(with_reducible exact HCc.out _ HX.out.drew)|(with_reducible exact HCc.out _ (grow HX.out _))|(with_reducible exact HCc.out _ (grow HX.out.drew _))|(with_reducible exact HCc.out _ (grow HX.out _).drew)|(with_reducible exact HCc.out _ (grow HX.out.drew _).drew)|(with_reducible exact HCc.out _ HB4.out))
    ((first
     | (go_at_call 104;(with_reducible refine (HJ.out _ (by first|(with_reducible exact HX.out)|(with_reducible exact HX.out.drew)) _ (by first|(with_reducible exact Below.refl _ _)|(with_reducible exact (Below.refl _ _).drew))).mono ?_);rintro e w4 ⟨v4,rfl,ho4,hb4⟩;have HO4:=qh ho4;have HB4:Hid (Below w2.heap.size w2 w4):=(by first|exact hb4|exact HX.out.drew.trans hb4);clear ho4 hb4)))
   all_goals
    go_wp2
    go_ret2
    obtain⟨ps',vl9,vm9,vs9,vo9,hf⟩:=HFin.out _ _ _ HW2.out HB4.out (HO4.out.lo_ (by first|(with_reducible exact HX.out.size)|(with_reducible exact HX.out.drew.size)))
    exact⟨_,ps',vl9,vm9,vs9,vo9,rfl,hf⟩
end Go.Proofs.YtjepgclnbbpnaaaGreat.P12
namespace Go.Proofs.YtjepgclnbbpnaaaGreat.P12
open Go Go.RowKit Go.Lib PK
open P11 (Pg)
open P9 (kb kb_trans)
def setsM(M:PM)(sets:List Pg):PM:=sets.foldl (fun M p=>M.put (p.id - 2).toNat p) M
def RgP(M:PM)(ps:List Pg):Prop:=∀ p∈ps,2≤p.id∧p.id < M.next
theorem RgP.app{M:PM}{a b:List Pg}(h:RgP M a)(k:RgP M b):RgP M (a++b):=fun p hp=>(List.mem_append.1 hp).elim (h p) (k p)
theorem RgP.mono{M M':PM}{a:List Pg}(h:RgP M a)(k:M.next≤M'.next):RgP M' a:=fun p hp=>⟨(h p hp).1,by have:=(h p hp).2;omega⟩
theorem put_next(M:PM)(k:Nat)(p:Pg):(M.put k p).next=M.next:=by
 unfold PM.next PM.put
 simp
theorem push_next(M:PM)(p:Pg):(M.push p).next=M.next+1:=by
 show ((M.L++_).length:Int)+2=(M.L.length:Int)+2+1
 rw[List.length_append,List.length_singleton]
 omega
theorem setsM_snoc(M:PM)(s:List Pg)(p:Pg):setsM M (s++[p])=(setsM M s).put (p.id - 2).toNat p:=by
 unfold setsM
 rw[List.foldl_append]
 rfl
theorem setsM_len:∀ (s:List Pg) (M:PM),(setsM M s).L.length=M.L.length
 | [],_=>rfl
 | p::s,M=>by
  show (setsM (M.put (p.id - 2).toNat p) s).L.length=_
  rw[setsM_len s]
  show (M.L.set _ _).length=_
  rw[List.length_set]
theorem setsM_next(M:PM)(s:List Pg):(setsM M s).next=M.next:=by
 unfold PM.next
 rw[setsM_len]
theorem setsM_same:∀ (s:List Pg) (M:PM),(setsM M s).fr=M.fr∧(setsM M s).given=M.given∧(setsM M s).bad=M.bad∧(setsM M s).twice=M.twice
 | [],_=>⟨rfl,rfl,rfl,rfl⟩
 | p::s,M=>setsM_same s (M.put (p.id - 2).toNat p)
theorem put_push{M:PM}{k:Nat}{p q:Pg}(h:k < M.L.length):(M.push q).put k p=(M.put k p).push q:=by
 unfold PM.push PM.put
 simp only[List.length_set]
 rw[List.set_append_left _ _ h]
theorem setsM_push{q:Pg}:∀ {s:List Pg} {M:PM},RgP M s→setsM (M.push q) s=(setsM M s).push q
 | [],_,_=>rfl
 | p::s,M,h=>by
  have hp:=h p List.mem_cons_self
  have hk:(p.id - 2).toNat < M.L.length:=by
   have h2:=hp.2
   unfold PM.next at h2
   omega
  show setsM ((M.push q).put (p.id - 2).toNat p) s=(setsM (M.put (p.id - 2).toNat p) s).push q
  rw[put_push hk]
  exact setsM_push fun x hx=>by
   rw[put_next]
   exact h x (List.mem_cons_of_mem _ hx)
theorem put_get{M:PM}{p:Pg}{j:Int}(hp:2≤p.id)(hj:j≠p.id):(M.put (p.id - 2).toNat p).get j=M.get j:=PM.put_other (by omega)
theorem put_get_self{M:PM}{p:Pg}(hp:2≤p.id∧p.id < M.next):(M.put (p.id - 2).toNat p).get p.id=(p,0):=by
 have h2:=hp.2
 unfold PM.next at h2
 have h:=PM.put_self (M:=M) (p:=p) (k:=(p.id - 2).toNat) (by omega)
 rwa[show (((p.id - 2).toNat:Nat):Int)+2=p.id by omega] at h
def Ks.F(a:Ks):PM:=setsM a.M a.sets
def Says(F:PM)(nd:Nd)(t:Int):Prop:=∃ tx,F.get t=(⟨nd.kind,t,tx,nd.body⟩,0)
def mkKids(ps:List Nd)(ts:List Int):List P10.It:=List.zipWith (fun p t=>⟨p.key,t⟩) ps ts
structure Kept (a K:Ks) (mi:List Pg) (ps:List Nd) (ts nm:List Int):Prop where
 tse:ts=(mi.take ps.length).map (·.id)++nm
 len:ts.length=ps.length
 ws:K.ws=a.ws++mkKids ps ts
 made:K.made=a.made++nm
 mlen:K.M.L.length=a.M.L.length+nm.length
 new:∀ x∈nm,a.M.next≤x∧x < K.M.next
 nod:nm.Nodup
 fr:∀ x,x < a.M.next→x∉ts→K.F.get x=a.F.get x
 says:All2 (Says K.F) ps ts
 rg:RgP K.M K.sets
 sets:∃ ss,K.sets=a.sets++ss∧∀ p∈ss,∃ q∈mi,q.id=p.id
 same:K.M.fr=a.M.fr∧K.M.given=a.M.given∧K.M.bad=a.M.bad∧K.M.twice=a.M.twice
 old:∀ x,x < a.M.next→K.M.get x=a.M.get x
theorem kept_any(mi:List Pg)(kd:Int):∀ (ps:List Nd) (j:Nat) (a:Ks),RgP a.M a.sets→RgP a.M (mi.drop j)→((mi.drop j).map (·.id)).Nodup→(∀ p∈mi,p.k=kd)→(∀ p∈ps,p.kind=kd)→
  ∃ ts nm,Kept a (kfold mi j a ps) (mi.drop j) ps ts nm
 | [],j,a,h1,_,_,_,_=>⟨[],[],⟨by simp,rfl,by show a.ws=_;simp[mkKids],by show a.made=_;simp,rfl,fun _ h=>(by cases h),List.nodup_nil,fun _ _ _=>rfl,trivial,h1,⟨[],by show a.sets=_;simp,fun _ h=>(by cases h)⟩,⟨rfl,rfl,rfl,rfl⟩,fun _ _=>rfl⟩⟩
 | nd::ps,j,a,h1,h2,h3,h4,h5=>by
  have hdd:(mi.drop j).drop 1=mi.drop (j+1):=by rw[List.drop_drop]
  show ∃ ts nm,Kept a (kfold mi (j+1) (kst mi a j nd) ps) (mi.drop j) (nd::ps) ts nm
  have hk1:=h5 nd List.mem_cons_self
  have h5':∀ p∈ps,p.kind=kd:=fun p hp=>h5 p (List.mem_cons_of_mem _ hp)
  cases hm:mi[j]? with
  | some p=>
   have hpm:p∈mi:=List.mem_of_getElem? hm
   have hd:mi.drop j=p::mi.drop (j+1):=by
    have hlt:=(List.getElem?_eq_some_iff.1 hm)
    rw[List.drop_eq_getElem_cons hlt.1,hlt.2]
   rw[hd] at h2 h3 ⊢
   have hp:=h2 p List.mem_cons_self
   obtain⟨b,hb⟩:∃ b,b=kst mi a j nd:=⟨_,rfl⟩
   have eM:b.M=a.M:=by rw[hb];unfold kst;rw[hm]
   have eS:b.sets=a.sets++[⟨p.k,p.id,p.tx,nd.body⟩]:=by rw[hb];unfold kst;rw[hm]
   have eW:b.ws=a.ws++[⟨nd.key,p.id⟩]:=by rw[hb];unfold kst;rw[hm]
   have eD:b.made=a.made:=by rw[hb];unfold kst;rw[hm]
   have eF:b.F=a.F.put (p.id - 2).toNat ⟨p.k,p.id,p.tx,nd.body⟩:=by
    unfold Ks.F
    rw[eM,eS,setsM_snoc]
   have hr:RgP b.M b.sets:=by
    rw[eM,eS]
    exact h1.app fun q hq=>by
     cases List.mem_singleton.1 hq
     exact hp
   obtain⟨ts,nm,k⟩:=kept_any mi kd ps (j+1) b hr (fun q hq=>by rw[eM];exact h2 q (List.mem_cons_of_mem _ hq)) (List.nodup_cons.1 h3).2 h4 h5'
   rw[← hb]
   have hpt:p.id∉ts:=fun e=>by
    rw[k.tse] at e
    rcases List.mem_append.1 e with e|e
    ·obtain⟨q,hq,e2⟩:=List.mem_map.1 e
     exact (List.nodup_cons.1 h3).1 (List.mem_map.2 ⟨q,List.mem_of_mem_take hq,e2⟩)
    ·have:=(k.new _ e).1
     rw[eM] at this
     omega
   have hn:p.id < b.M.next:=by rw[eM];exact hp.2
   have hself:b.F.get p.id=(⟨p.k,p.id,p.tx,nd.body⟩,0):=by
    rw[eF]
    refine put_get_self (p:=⟨p.k,p.id,p.tx,nd.body⟩) ⟨hp.1,?_⟩
    unfold Ks.F
    rw[setsM_next]
    exact hp.2
   refine⟨p.id::ts,nm,?_,?_,?_,?_,?_,?_,k.nod,?_,⟨⟨p.tx,?_⟩,k.says⟩,k.rg,?_,?_,?_⟩
   ·rw[k.tse]
    simp
   ·rw[List.length_cons,List.length_cons,k.len]
   ·rw[k.ws,eW]
    simp[mkKids]
   ·rw[k.made,eD]
   ·rw[k.mlen,eM]
   ·intro x hx
    have:=k.new x hx
    rwa[eM] at this
   ·intro x hx hxt
    have e1:=k.fr x (by rw[eM];exact hx) fun e=>hxt (List.mem_cons_of_mem _ e)
    rw[e1,eF]
    exact put_get (p:=⟨p.k,p.id,p.tx,nd.body⟩) hp.1 fun e=>hxt (by rw[e];exact List.mem_cons_self)
   ·rw[k.fr p.id hn hpt,hself,h4 p hpm,hk1]
   ·obtain⟨ss,e1,e2⟩:=k.sets
    refine⟨⟨p.k,p.id,p.tx,nd.body⟩::ss,by rw[e1,eS];simp,fun q hq=>?_⟩
    rcases List.mem_cons.1 hq with rfl|hq
    ·exact⟨p,List.mem_cons_self,rfl⟩
    ·obtain⟨r,hr1,hr2⟩:=e2 q hq
     exact⟨r,List.mem_cons_of_mem _ hr1,hr2⟩
   ·rw[k.same.1,k.same.2.1,k.same.2.2.1,k.same.2.2.2,eM]
    exact⟨rfl,rfl,rfl,rfl⟩
   ·intro x hx
    rw[k.old x (by rw[eM];exact hx),eM]
  | none=>
   have hjl:mi.length≤j:=List.getElem?_eq_none_iff.1 hm
   have hd:mi.drop j=[]:=List.drop_eq_nil_of_le hjl
   have hd1:mi.drop (j+1)=[]:=List.drop_eq_nil_of_le (by omega)
   rw[hd]
   obtain⟨b,hb⟩:∃ b,b=kst mi a j nd:=⟨_,rfl⟩
   have eM:b.M=a.M.push ⟨nd.kind,0,0,nd.body⟩:=by rw[hb];unfold kst;rw[hm]
   have eS:b.sets=a.sets:=by rw[hb];unfold kst;rw[hm]
   have eW:b.ws=a.ws++[⟨nd.key,a.M.next⟩]:=by rw[hb];unfold kst;rw[hm]
   have eD:b.made=a.made++[a.M.next]:=by rw[hb];unfold kst;rw[hm]
   have eN:b.M.next=a.M.next+1:=by rw[eM,push_next]
   have eF:b.F=a.F.push ⟨nd.kind,0,0,nd.body⟩:=by
    unfold Ks.F
    rw[eM,eS,setsM_push h1]
   have hr:RgP b.M b.sets:=by
    rw[eS]
    exact h1.mono (by rw[eN];omega)
   obtain⟨ts,nm,k⟩:=kept_any mi kd ps (j+1) b hr (by rw[hd1];exact fun _ h=>by cases h) (by rw[hd1];exact List.nodup_nil) h4 h5'
   rw[hd1] at k
   rw[← hb]
   have hts:ts=nm:=by rw[k.tse];simp
   have hnt:a.M.next∉ts:=fun e=>by
    rw[hts] at e
    have:=(k.new _ e).1
    omega
   have hself:b.F.get a.M.next=(⟨nd.kind,a.M.next,0,nd.body⟩,0):=by
    have h:=PM.push_new a.F ⟨nd.kind,0,0,nd.body⟩
    rw[eF]
    have e:a.F.next=a.M.next:=setsM_next _ _
    rwa[e] at h
   have hlt:a.M.next < (kfold mi (j+1) b ps).M.next:=by
    have h:=k.mlen
    have h2:=eN
    unfold PM.next at h2 ⊢
    omega
   refine⟨a.M.next::ts,a.M.next::nm,?_,?_,?_,?_,?_,?_,?_,?_,⟨⟨0,?_⟩,k.says⟩,k.rg,?_,?_,?_⟩
   ·rw[hts]
    simp
   ·rw[List.length_cons,List.length_cons,k.len]
   ·rw[k.ws,eW]
    simp[mkKids]
   ·rw[k.made,eD]
    simp
   ·have h:=k.mlen
    have h2:=eN
    unfold PM.next at h2
    rw[List.length_cons]
    omega
   ·intro x hx
    rcases List.mem_cons.1 hx with rfl|hx
    ·exact⟨Int.le_refl _,hlt⟩
    ·have:=k.new x hx
     omega
   ·refine List.nodup_cons.2 ⟨fun e=>?_,k.nod⟩
    have:=(k.new _ e).1
    omega
   ·intro x hx hxt
    have e1:=k.fr x (by omega) fun e=>hxt (List.mem_cons_of_mem _ e)
    rw[e1,eF]
    exact PM.push_old (by rw[show a.F.next=a.M.next from setsM_next _ _];exact hx)
   ·rw[k.fr a.M.next (by omega) hnt,hself]
   ·obtain⟨ss,e1,e2⟩:=k.sets
    exact⟨ss,by rw[e1,eS],e2⟩
   ·have h:=k.same
    rw[eM] at h
    exact h
   ·intro x hx
    rw[k.old x (by omega),eM]
    exact PM.push_old hx
theorem spl_any(M:PM)(n:Nat):∀ (l:List Pg) (a:List Pg×List Int),a.1.length≤n→((l.foldl (spl M n) a).1.map (·.id)++(l.foldl (spl M n) a).2).Perm (a.1.map (·.id)++a.2++l.map (·.id))∧(l.foldl (spl M n) a).1.length≤n∧
  (∀ p∈(l.foldl (spl M n) a).1,p∈a.1∨p∈l∧M.mine p.id=true)
 | [],a,h=>⟨by simp,h,fun p hp=>.inl hp⟩
 | q :: l,a,h=>by
  have hl:(spl M n a q).1.length≤n:=by
   unfold spl
   split
   ·rename_i c
    rw[List.length_append,List.length_singleton]
    omega
   ·exact h
  obtain⟨h1,h2,h3⟩:=spl_any M n l (spl M n a q) hl
  refine⟨h1.trans ?_,h2,fun p hp=>?_⟩
  ·unfold spl
   split
   ·simp only[List.map_append,List.map_cons,List.map_nil,List.append_assoc,List.singleton_append]
    refine List.Perm.append_left _ ?_
    exact List.perm_middle.symm
   ·simp only[List.map_cons,List.append_assoc,List.singleton_append]
    exact List.Perm.refl _
  ·rcases h3 p hp with h4|⟨h4,h5⟩
   ·unfold spl at h4
    split at h4
    ·rename_i c
     rcases List.mem_append.1 h4 with h4|h4
     ·exact .inl h4
     ·cases List.mem_singleton.1 h4
      exact .inr ⟨List.mem_cons_self,c.2⟩
    ·exact .inl h4
   ·exact .inr ⟨List.mem_cons_of_mem _ h4,h5⟩
theorem splitM_any(M:PM)(n:Nat)(l:List Pg):((splitM M n l).1.map (·.id)++(splitM M n l).2).Perm (l.map (·.id))∧(splitM M n l).1.length≤n∧∀ p∈(splitM M n l).1,p∈l∧M.mine p.id=true:=by
 obtain⟨h1,h2,h3⟩:=spl_any M n l ([],[]) (Nat.zero_le _)
 refine⟨by unfold splitM;simpa using h1,h2,fun p hp=>?_⟩
 rcases h3 p hp with h|h
 ·cases h
 ·exact h
end Go.Proofs.YtjepgclnbbpnaaaGreat.P12
