/-
  Texts of the proofs of SaidOrd12.
-/
import Derived.Test.YtjepgclnbbpnaaaGreatMs20
import Derived.Test.YtjepgclnbbpnaaaGreatMs21
set_option linter.unusedVariables false
set_option linter.unusedSimpArgs false
set_option maxHeartbeats 8000000
set_option maxRecDepth 100000
namespace Go.Proofs.YtjepgclnbbpnaaaGreat.P12
open PK (qqA qqB qqC qqD qqE qqF tk tkS dOne qh)
open Go Go.RowKit Go.Lib PK
open P11 (Pg cellsP PgsIn infoEPages cellsP_snoc)
theorem own_up{w:World}{lo lo' e n m:Nat}{v:Value}{xs:List Value}(h:w.ownsRow lo e n v m xs)(k:∀ j,v.ownBlock=some j→lo'≤j):w.ownsRow lo' e n v m xs:=by
 refine⟨h.1,?_⟩
 rcases h.2 with h2|⟨g,cap,cur,rfl,_,h4⟩
 ·exact .inl h2
 ·exact .inr ⟨g,cap,cur,rfl,k g rfl,h4⟩
structure RowOff (w wr:World) (G:Cg) (e n:Nat) (v:Value) (m:Nat) (xs:List Value):Prop where
 own:wr.ownsRow 0 e n v m xs
 off:∀ k,v.ownBlock=some k→w.heap.size≤k∧¬ G.S k
theorem RowOff.nil(w wr:World)(G:Cg)(e n:Nat):RowOff w wr G e n (.slice none 0 0) 0 []:=⟨World.ownsRow_nil _ _ _ _,fun k e=>by cases e⟩
theorem RowOff.went{w wr w2:World}{G G':Cg}{e n m:Nat}{v:Value}{xs:List Value}(h:RowOff w wr G e n v m xs)(k:Went wr w2 G G'):RowOff w w2 G' e n v m xs:=by
 refine⟨owns_fr h.own k.fr fun j hj=>(h.off j hj).2,fun j hj=>⟨(h.off j hj).1,fun e2=>?_⟩⟩
 rcases k.new j e2 with e3|e3
 ·exact (h.off j hj).2 e3
 ·have:=(h.own.lt j hj).2
  omega
theorem RowOff.push{w wr w2:World}{G:Cg}{e n m:Nat}{v v':Value}{xs cs:List Value}(h:RowOff w wr G e n v m xs)(hc:CAt wr G)(hb:w.heap.size≤wr.heap.size)(ha:AppD wr w2 0 e n v v' m xs cs):RowOff w w2 G e n v' (m+1) (xs++cs):=
 ⟨ha.own,fun k hk=>by
  rcases ha.new hk with e2|e2
  ·exact h.off k e2
  ·exact⟨by omega,fun e3=>by have:=hc.lt e3;omega⟩⟩
theorem RowOff.slice{w wr:World}{G:Cg}{e n m:Nat}{v:Value}{xs:List Value}(h:RowOff w wr G e n v m xs):∃ a c,v=.slice a m c:=by
 rcases h.own.2 with ⟨rfl,e⟩|⟨g,cap,cur,rfl,_⟩
 ·exact⟨none,0,by rw[e]⟩
 ·exact⟨_,_,rfl⟩
theorem RowOff.beside{S:Nat→Prop}{w wr w2:World}{G:Cg}{e n m:Nat}{v:Value}{xs:List Value}(h:RowOff w wr G e n v m xs)(f:P3.Fr S wr w2)(k:∀ j,v.ownBlock=some j→¬ S j):RowOff w w2 G e n v m xs:=⟨owns_fr h.own f k,h.off⟩
structure Keeps (w w':World) (G:Cg) (nd:Nd) (olds:List Pg) (v':Value) (ps:List Nd) (vl' vm' vs' vo':Value):Prop where
 parts:PartsOf nd ps
 own:P10.OwnI w.heap.size w' v' (kfold (splitM G.M ps.length olds).1 0 ⟨G.M,G.sets,G.made,[]⟩ ps).ws
 went:Went w w' G { G with vl:=vl',vm:=vm',vs:=vs',vo:=vo',M:=(kfold (splitM G.M ps.length olds).1 0 ⟨G.M,G.sets,G.made,[]⟩ ps).M,sets:=(kfold (splitM G.M ps.length olds).1 0 ⟨G.M,G.sets,G.made,[]⟩ ps).sets,made:=(kfold (splitM G.M ps.length olds).1 0 ⟨G.M,G.sets,G.made,[]⟩ ps).made,gone:=G.gone++(splitM G.M ps.length olds).2 }
def Grv(nd:Nd)(vi vk v:Value)(at_:Int)(d:Bool):Value:=.agg #[.int .i64 nd.kind,vi,vk,v,.int .i64 at_,.bool d]
structure Lp1 (w1 wr:World) (G:Cg) (n:Nat) (olds:List Pg) (i:Nat) (vm vo':Value):Prop where
 went:Went w1 wr G { G with vo:=vo',gone:=G.gone++(splitM G.M n (olds.take i)).2 }
 mine:RowOff w1 wr { G with vo:=vo',gone:=G.gone++(splitM G.M n (olds.take i)).2 } 86 4 vm (splitM G.M n (olds.take i)).1.length (cellsP (splitM G.M n (olds.take i)).1).flatten
noncomputable def Kat(mi:List Pg)(G:Cg)(ps:List Nd)(j:Nat):Ks:=kfold mi 0 ⟨G.M,G.sets,G.made,[]⟩ (ps.take j)
def G2(G:Cg)(vo':Value)(gn:List Int)(vl' vm' vs':Value)(K:Ks):Cg:={ G with vl:=vl',vm:=vm',vs:=vs',vo:=vo',M:=K.M,sets:=K.sets,made:=K.made,gone:=gn }
structure Lp2 (w1 wr:World) (G:Cg) (vo':Value) (gn:List Int) (mi:List Pg) (ps:List Nd) (j:Nat) (vmi vk vl' vm' vs':Value):Prop where
 went:Went w1 wr G (G2 G vo' gn vl' vm' vs' (Kat mi G ps j))
 mine:RowOff w1 wr (G2 G vo' gn vl' vm' vs' (Kat mi G ps j)) 86 4 vmi mi.length (cellsP mi).flatten
 kids:RowOff w1 wr (G2 G vo' gn vl' vm' vs' (Kat mi G ps j)) 106 2 vk (Kat mi G ps j).ws.length (P10.cellsI (Kat mi G ps j).ws).flatten
theorem keep_any (w:World) (G:Cg) (nd:Nd) (vi vk v:Value) (olds:List Pg) (at_:Int) (d:Bool) (h:CAt w G) (hn:NdT w none vi vk nd) (ho:OldIn w G v olds) (hf:Fine nd) (hs:nd.sorted) (hr:G.M.L.length+nd.len≤3998) (hb:G.sets.length≤9000∧G.made.length≤9000∧G.gone.length≤9000∧olds.length≤2) (hfr:2≤G.M.fr) (hid:∀ p∈olds,p.id≤100000) :
  Calls Tryz.prog 103 #[.pointer (some ⟨G.c,0,none⟩),Grv nd vi vk v at_ d] w fun e w'=>∃ v' ps vl' vm' vs' vo',e=.returned (.tuple #[v',.int .i64 0])∧Keeps w w' G nd olds v' ps vl' vm' vs' vo':=by
 obtain⟨i0,hi0,hz0,hz1,hz2⟩:=info_parts infoEPages
 obtain⟨j0,hj0,hy0,hy1,hy2⟩:=info_parts infoENs12
 obtain⟨a,n,c,a',n',c',rfl,rfl,_⟩:=hn.lens
 obtain⟨oa,oc,rfl⟩:=ho.pgs.slice
 obtain⟨W,hW⟩:∃ W,W=w.alloc (.cells #[.int .i64 nd.kind,.slice a n c,.slice a' n' c',.slice oa olds.length oc,.int .i64 at_,.bool d] 127):=⟨_,rfl⟩
 have b0:Below w.heap.size w W:=by rw[hW];exact below_new _ _
 have r0:W.heap[w.heap.size]?=some (.cells #[.int .i64 nd.kind,.slice a n c,.slice a' n' c',.slice oa olds.length oc,.int .i64 at_,.bool d] 127 (0,0)):=by rw[hW];exact new_at _ _ _
 have HPt:=qh (parts_any nd.len W none _ _ nd d (Nat.le_refl _) (hn.keep (FrT.of b0)) hf)
 unfold Nd.v at HPt
 have B0:=qh (Went.below h b0)
 have HR0:=qh (fun W2 (k:Below W.heap.size W W2)=>P3.old_below r0 k)
 have q0:=cell_at r0 0
 have q1:=cell_at r0 1
 have q2:=cell_at r0 2
 have q5:=cell_at r0 5
 simp only[qqD,qqE,qqF] at q0 q1 q2 q5
 unfold Grv
 have HO:=qh ho
 have HSo:=qh hs
 have HBd:=qh hb
 have HRm:=qh hr
 have HId:=qh hid
 clear h hn ho hf hs b0 r0 hid
 go_enter Tryz.func103,Tryz.ntmps103
 go_upto_region 1 with fail
 rw[← hW]
 clear hW
 go_upto_region 3 with (go_at_call 128;(with_reducible refine HPt.out.mono ?_);rintro e w1 ⟨vp,qs,rfl,h1,h2,h3⟩;have H1:=qh h1;have H2:=qh h2;have H3:=qh h3;obtain⟨pa,pc,e9⟩:=h1.slice;subst e9;clear h1 h2 h3)
 have WT1:=qh (B0.out.then H3.out)
 have p3:=cell_at (HR0.out _ H3.out) 3
 simp only[qqD,qqE,qqF] at p3
 have HO1:=qh (HO.out.went WT1.out)
 have hqn:qs.length≤nd.len:=by have:=H2.out.count.1;rwa[List.length_map] at this
 obtain⟨Q,hQ⟩:∃ Q,Q=qs.length:=⟨_,rfl⟩
 have HQ:=qh hQ
 have HA0:Hid (Lp1 w1 w1 G Q olds 0 (.slice none 0 0) G.vo):=by
  have e:splitM G.M Q (olds.take 0)=([],[]):=rfl
  refine qh (⟨?_,?_⟩:Lp1 w1 w1 G Q olds 0 (.slice none 0 0) G.vo)
  ·rw[e,List.append_nil]
   exact Went.refl WT1.out.at_
  ·rw[e]
   exact RowOff.nil _ _ _ _ _
 rw[← hQ] at hqn ⊢
 clear q0 q1 q2 q5 hQ
 go_wp2
 go_loopw [7,24] (fun vm vi wr=>∃ (i:Nat) (vo':Value),i≤olds.length∧vi=.int .i64 i∧Hid (Lp1 w1 wr G Q olds i vm vo')) (fun _ vi _=>olds.length - (RowKit.intOf vi).toNat)
 case atStart=>exact⟨0,G.vo,Nat.zero_le _,rfl,HA0⟩
 case round=>
  clear HA0
  obtain⟨i,vo',hi,rfl,HS⟩:=hrel
  by_cases hlt:i < olds.length
  ·obtain⟨p,hp⟩:∃ p,olds[i]?=some p:=⟨_,List.getElem?_eq_getElem hlt⟩
   have hoo:=(HO1.out.went HS.out.went).pgs
   obtain⟨bo,oo,e9,hcc⟩:=hoo.at_ hp
   subst e9
   obtain⟨c0,c1,c2,c3⟩:=hcc _ (Below.refl _ _)
   have k1:decide ((i:Int) < (olds.length:Int))=true:=decide_eq_true (by omega)
   have k2:(i:Int) < (olds.length:Int):=by omega
   have k3:(0:Int)≤(i:Int):=by omega
   have hstep:splitM G.M Q (olds.take (i+1))=spl G.M Q (splitM G.M Q (olds.take i)) p:=by
    rw[List.take_add_one,hp]
    exact splitM_snoc _ _ _ _
   have HSt:=qh hstep
   have hsl:=splitM_len G.M Q (olds.take i)
   rw[List.length_take] at hsl
   have hpid:=HId.out p (List.mem_of_getElem? hp)
   obtain⟨mi,hmi⟩:∃ m,m=(splitM G.M Q (olds.take i)).1:=⟨_,rfl⟩
   obtain⟨gs,hgs⟩:∃ g,g=(splitM G.M Q (olds.take i)).2:=⟨_,rfl⟩
   have HMiE:=qh hmi
   have HGsE:=qh hgs
   rw[← hmi,← hgs] at hsl
   have hmine:=HS.out.mine
   have hwent:=HS.out.went
   rw[← hmi,← hgs] at hmine
   rw[← hgs] at hwent
   have HMn:=qh hmine
   have HWe:=qh hwent
   obtain⟨ma,mc,e8⟩:=hmine.slice
   subst e8
   obtain⟨mn,hmn⟩:∃ n,n=mi.length:=⟨_,rfl⟩
   have HMn2:=qh hmn
   have HGl:Hid ((G.gone++gs).length≤100000):=by
    have h9:=HBd.out
    exact (by rw[List.length_append];omega:(G.gone++gs).length≤100000)
   have hml:mn≤2:=by have h9:=HBd.out;omega
   obtain⟨W3,hW3⟩:∃ W3,W3=wr.alloc (.cells #[.int .i64 p.k,.int .i64 p.id,.int .i64 p.tx,.string p.body] 86):=⟨_,rfl⟩
   have b3:Below wr.heap.size wr W3:=by rw[hW3];exact below_new _ _
   have hp3:W3.heap[wr.heap.size]?=some (.cells #[.int .i64 p.k,.int .i64 p.id,.int .i64 p.tx,.string p.body] 86 (0,0)):=by rw[hW3];exact new_at _ _ _
   have HB3:=qh b3
   have HP3:=qh hp3
   rw[← hmn]
   clear hstep hp hoo hcc hmi hgs hsl hmine hwent HS hmn
   go_upto_region 6 with fail
   rw[← hW3]
   clear hW3 c0 c1 c2 c3
   by_cases hlq:mn < Q
   ·have kq:decide ((mn:Int) < (Q:Int))=true:=decide_eq_true (by omega)
    have HSm:Hid (∀ W,Below W3.heap.size W3 W→W.cell? ⟨G.c,0,none⟩=some (.pointer (some ⟨G.s,0,none⟩))∧W.cell? ⟨G.s,0,none⟩=some (.iface 25 (.pointer (some ⟨G.b,0,none⟩)))∧W.cell? ⟨wr.heap.size,1,none⟩=some (.int .i64 p.id)):=fun W k=>by
     have h9:=(HWe.out.then (thenBelow HB3.out k)).at_
     exact⟨cell_at h9.ch.obj 0,cell_at h9.sk.obj 0,cell_at (P3.old_below HP3.out k) 1⟩
    have HMine:Hid (∀ W,Below W3.heap.size W3 W→Calls Tryz.prog 23 #[.pointer (some ⟨G.b,0,none⟩),.int .i64 p.id] W fun e w'=>e=.returned (.bool (G.M.mine p.id))∧Below W.heap.size W w'):=fun W k=>by
     have h9:=(HWe.out.then (thenBelow HB3.out k)).at_
     exact mine_any W G.b G.vl G.vg G.M p.id h9.pg (by have:=HRm.out;omega) hfr (by omega)
    have HX3:=qh (Below.refl W3.heap.size W3)
    have n9:=nMine
    have m9:=mMine
    obtain⟨B,hB⟩:∃ B,B=G.M.mine p.id:=⟨_,rfl⟩
    rw[← hB] at HMine
    have HBe:=qh hB
    clear hB
    go_region_held3 (fun W=>W.cell? ⟨G.c,0,none⟩=some (.pointer (some ⟨G.s,0,none⟩))∧W.cell? ⟨G.s,0,none⟩=some (.iface 25 (.pointer (some ⟨G.b,0,none⟩)))∧W.cell? ⟨wr.heap.size,1,none⟩=some (.int .i64 p.id)) (first|(with_reducible exact HSm.out _ HX3.out)|(with_reducible exact HSm.out _ HX3.out.drew)|(with_reducible exact HSm.out _ HZ.out))
     ((first|(go_at_call 23;(with_reducible refine (HMine.out _ (by first|(with_reducible exact HX3.out.drew)|(with_reducible exact HX3.out))).mono ?_);rintro e wz ⟨rfl,hz9⟩;have HZ:Hid (Below W3.heap.size W3 wz):=(by first|exact HX3.out.drew.trans hz9|exact hz9);clear hz9)))
    clear n9 m9
    cases B
    case false=>
     have HNo:Hid (¬ (mi.length < Q∧G.M.mine p.id=true)):=fun h9=>by rw[← HBe.out] at h9;exact absurd h9.2 (by simp)
     go_upto_region 8 with fail
     have HelW:=qh (P3.old_below HP3.out HZ.out)
     have wz0:=HWe.out.then (thenBelow HB3.out HZ.out)
     have HWz:=qh wz0
     have hwl:=HWe.out.at_
     have HneO:Hid (vo'.ownBlock≠some G.c):=fun e=>by
      obtain⟨cs,e2⟩:=row_kind HWz.out.at_.ch.ro e
      rw[HWz.out.at_.ch.obj] at e2
      cases e2
     have HneE:Hid (vo'.ownBlock≠some wr.heap.size):=fun e=>by
      have:=hwl.lt (.inr (.inr (.inr (.inr (.inr e)))))
      omega
     have hoe:G.c≠wr.heap.size:=by
      have:G.c < wr.heap.size:=hwl.lt (.inr (.inr (.inl rfl)))
      omega
     have hrow:=wz0.at_.ch.ro
     have hob:=wz0.at_.ch.obj
     obtain⟨va,vc,e9⟩:∃ a c,vo'=.slice a (G.gone++gs).length c:=by
      rcases hrow.2 with ⟨e,e2⟩|⟨g9,cap9,cur9,e,_⟩
      ·exact⟨none,0,by rw[show vo'=_ from e,show (G.gone++gs).length=0 from e2]⟩
      ·exact⟨_,_,e⟩
     subst e9
     obtain⟨Gn,hGn⟩:∃ n,n=(G.gone++gs).length:=⟨_,rfl⟩
     have HGn:=qh hGn
     rw[← hGn] at HneO HneE
     have hob2:wz.heap[G.c]?=some (.cells #[.pointer (some ⟨G.s,0,none⟩),.string G.key,G.vm,G.vs,.slice va Gn vc] 76 (0,0)):=by rw[hGn];exact hob
     have HobW:=qh hob2
     have hrow2:wz.ownsRow 0 3 1 (.slice va Gn vc) Gn (cellsZ (G.gone++gs)):=by rw[hGn];exact hrow
     have HRowW:=qh hrow2
     have hgl:Gn≤100000:=by rw[hGn];exact HGl.out
     have HNs:Hid (splitM G.M Q (olds.take (i+1))=(mi,gs++[p.id])):=by
      show _=_
      rw[HSt.out,show splitM G.M Q (olds.take i)=(mi,gs) by rw[HMiE.out,HGsE.out]]
      unfold spl
      rw[if_neg HNo.out]
     clear wz0 hob hrow hGn hob2 hrow2 hwl
     have hel0:=HelW.out
     have hob0:=HobW.out
     have eWd:wz.drew.heap[wr.heap.size]?=some (.cells #[.int .i64 p.k,.int .i64 p.id,.int .i64 p.tx,.string p.body] 86 (0,0)):=hel0
     have oWd:wz.drew.heap[G.c]?=some (.cells #[.pointer (some ⟨G.s,0,none⟩),.string G.key,G.vm,G.vs,.slice va Gn vc] 76 (0,0)):=hob0
     have eWn:(wz.drew.alloc (.cells #[.int .i64 p.id] 3)).heap[wr.heap.size]?=some (.cells #[.int .i64 p.k,.int .i64 p.id,.int .i64 p.tx,.string p.body] 86 (0,0)):=P3.old_alloc eWd _
     have oWn:(wz.drew.alloc (.cells #[.int .i64 p.id] 3)).heap[G.c]?=some (.cells #[.pointer (some ⟨G.s,0,none⟩),.string G.key,G.vm,G.vs,.slice va Gn vc] 76 (0,0)):=P3.old_alloc oWd _
     have HeWn:=qh eWn
     have HoWn:=qh oWn
     have HeWd:=qh eWd
     have cA1:=cell_at oWd 4
     have cA2:=cell_at oWn 4
     have cA3:=cell_at (P3.old_alloc hob0 (.cells #[.int .i64 p.id] 3)) 4
     simp only[qqD,qqE,qqF] at cA1 cA2 cA3
     clear hel0 hob0 eWd oWd eWn oWn
     refine wp_region_held_drew (S:=(fun W'=>W'.cell? ⟨wr.heap.size,1,none⟩=some (.int .i64 p.id))) (by kernel_rfl) (cell_at HeWd.out 1) (fun hHeld=>?_)
     refine tk 0 ?_
     refine tk 1 ?_
     refine tk 2 ?_
     refine tk 3 ?_
     refine tk 5 ?_
     refine tk 6 ?_
     refine do_two 4 7 rfl rfl (by kernel_rfl) (by rfl) (by rfl) (fun K hK=>?_) (fun K hK=>?_)
     ·go_simp
      refine hK.out _ _ (cell_at HeWd.out 1) (fun hHeld=>?_)
      clear hK K
      try simp only[Act.put,qqA,qqB,qqC]
      refine dOne 7 fun K hK=>?_
      go_simp
      refine hK.out _ _ (cell_at HeWn.out 1) (fun hHeld=>?_)
      clear hK K
      try simp only[Act.put,qqA,qqB,qqC]
      refine dOne 8 fun K hK=>?_
      refine wp_app (.tmp 53) (.tmp 56) 42 rfl 0 3 j0 (Value.int .i64 0) 1 8 Tryz.underlying42 hj0 hy0 hy1 hy2 rfl (by decide) (.slice va Gn vc) Gn (cellsZ (G.gone++gs)) (by first|rfl|simp[Act.eval,Act.put]) (owns_below HRowW.out ((Below.refl _ _).drew.alloc (Nat.le_refl _) _)) (some ⟨wz.drew.heap.size,0,none⟩) 1 1 [.int .i64 p.id] (by first|rfl|simp[Act.eval,Act.put]) rfl (by intro X hX j u hu;cases hX;exact cells_new wz.drew [.int .i64 p.id] 3 j u hu) (fun e=>by cases e) (by intro u hu;simp only[List.mem_cons,List.not_mem_nil,or_false] at hu;first|(rcases hu with rfl|rfl|rfl|rfl|rfl|rfl|rfl|rfl <;> rfl)|(rcases hu with rfl|rfl|rfl|rfl <;> rfl)|(rcases hu with rfl|rfl <;> rfl)|(cases hu;rfl)) (by unfold maxLen;omega) (by omega) (by simp) ?_
      intro p1 s1 w2 hown2 hgrow2 hat2
      have HAD:Hid (AppD wz w2 0 3 1 (.slice va Gn vc) (.slice p1 (Gn+1:Nat) s1) Gn (cellsZ (G.gone++gs)) [.int .i64 p.id]):=⟨hown2,hgrow2,hat2⟩
      have e2:w2.heap[wr.heap.size]?=some (.cells #[.int .i64 p.k,.int .i64 p.id,.int .i64 p.tx,.string p.body] 86 (0,0)):=(hgrow2.block _ (lt_of_block HeWn.out) (fun e=>HneE.out e.symm)).trans HeWn.out
      have o2:w2.heap[G.c]?=some (.cells #[.pointer (some ⟨G.s,0,none⟩),.string G.key,G.vm,G.vs,.slice va Gn vc] 76 (0,0)):=(hgrow2.block _ (lt_of_block HoWn.out) (fun e=>HneO.out e.symm)).trans HoWn.out
      have He2:=qh e2
      have Ho2:=qh o2
      clear hown2 hgrow2 hat2 e2 o2
      refine hK.out _ _ (cell_at He2.out 1) (fun hHeld=>?_)
      clear hK K
      try simp only[Act.put,qqA,qqB,qqC]
      refine tk 9 ?_
      refine tk 10 ?_
      refine dOne 11 fun K hK=>?_
      have q0:=cell_at Ho2.out 4
      simp only[qqD,qqE,qqF] at q0
      have q1:=free_at Ho2.out 4
      go_simp
      have e3:=P3.old_set He2.out (⟨G.c,4,none⟩:Addr) (Ne.symm hoe) (.slice p1 (Gn+1) s1)
      have He3:=qh e3
      clear e3
      refine hK.out _ _ (cell_at He3.out 1) (fun hHeld=>?_)
      clear hK K
      try simp only[Act.put,qqA,qqB,qqC]
      refine wpAnyH_done (by kernel_rfl) ?_ _
      clear q0 q1 cA1 cA2 cA3 hHeld
      have had:=HAD.out
      rw[HGn.out] at had
      have hgo:=HWz.out.at_.pushGone p.id had
      have hw2:=HWz.out.trans hgo
      have hm2:=(HMn.out.went (Went.below HWe.out.at_ (thenBelow HB3.out HZ.out))).went hgo
      rw[← HGn.out] at hw2 hm2
      have HW2:=qh hw2
      have HM2:=qh hm2
      clear had hgo hw2 hm2
      go_wp2
      go_roundw
      case rel=>
       refine⟨i+1,.slice p1 (Gn+1:Nat) s1,by omega,by go_num,qh (⟨?_,?_⟩:Lp1 _ _ _ _ _ _ _ _)⟩
       ·rw[HNs.out]
        have h9:=HW2.out
        simp only[List.append_assoc] at h9
        exact h9
       ·rw[HNs.out]
        have h9:=HM2.out
        simp only[List.append_assoc] at h9
        rw[HMn2.out]
        exact h9
      case measure=>simp[RowKit.intOf];omega
     ·go_simp
      refine hK.out _ _ (cell_at HeWn.out 1) (fun hHeld=>?_)
      clear hK K
      try simp only[Act.put,qqA,qqB,qqC]
      refine dOne 4 fun K hK=>?_
      go_simp
      refine hK.out _ _ (cell_at HeWn.out 1) (fun hHeld=>?_)
      clear hK K
      try simp only[Act.put,qqA,qqB,qqC]
      refine dOne 8 fun K hK=>?_
      refine wp_app (.tmp 53) (.tmp 56) 42 rfl 0 3 j0 (Value.int .i64 0) 1 8 Tryz.underlying42 hj0 hy0 hy1 hy2 rfl (by decide) (.slice va Gn vc) Gn (cellsZ (G.gone++gs)) (by first|rfl|simp[Act.eval,Act.put]) (owns_below HRowW.out ((Below.refl _ _).drew.alloc (Nat.le_refl _) _)) (some ⟨wz.drew.heap.size,0,none⟩) 1 1 [.int .i64 p.id] (by first|rfl|simp[Act.eval,Act.put]) rfl (by intro X hX j u hu;cases hX;exact cells_new wz.drew [.int .i64 p.id] 3 j u hu) (fun e=>by cases e) (by intro u hu;simp only[List.mem_cons,List.not_mem_nil,or_false] at hu;first|(rcases hu with rfl|rfl|rfl|rfl|rfl|rfl|rfl|rfl <;> rfl)|(rcases hu with rfl|rfl|rfl|rfl <;> rfl)|(rcases hu with rfl|rfl <;> rfl)|(cases hu;rfl)) (by unfold maxLen;omega) (by omega) (by simp) ?_
      intro p1 s1 w2 hown2 hgrow2 hat2
      have HAD:Hid (AppD wz w2 0 3 1 (.slice va Gn vc) (.slice p1 (Gn+1:Nat) s1) Gn (cellsZ (G.gone++gs)) [.int .i64 p.id]):=⟨hown2,hgrow2,hat2⟩
      have e2:w2.heap[wr.heap.size]?=some (.cells #[.int .i64 p.k,.int .i64 p.id,.int .i64 p.tx,.string p.body] 86 (0,0)):=(hgrow2.block _ (lt_of_block HeWn.out) (fun e=>HneE.out e.symm)).trans HeWn.out
      have o2:w2.heap[G.c]?=some (.cells #[.pointer (some ⟨G.s,0,none⟩),.string G.key,G.vm,G.vs,.slice va Gn vc] 76 (0,0)):=(hgrow2.block _ (lt_of_block HoWn.out) (fun e=>HneO.out e.symm)).trans HoWn.out
      have He2:=qh e2
      have Ho2:=qh o2
      clear hown2 hgrow2 hat2 e2 o2
      refine hK.out _ _ (cell_at He2.out 1) (fun hHeld=>?_)
      clear hK K
      try simp only[Act.put,qqA,qqB,qqC]
      refine tk 9 ?_
      refine tk 10 ?_
      refine dOne 11 fun K hK=>?_
      have q0:=cell_at Ho2.out 4
      simp only[qqD,qqE,qqF] at q0
      have q1:=free_at Ho2.out 4
      go_simp
      have e3:=P3.old_set He2.out (⟨G.c,4,none⟩:Addr) (Ne.symm hoe) (.slice p1 (Gn+1) s1)
      have He3:=qh e3
      clear e3
      refine hK.out _ _ (cell_at He3.out 1) (fun hHeld=>?_)
      clear hK K
      try simp only[Act.put,qqA,qqB,qqC]
      refine wpAnyH_done (by kernel_rfl) ?_ _
      clear q0 q1 cA1 cA2 cA3 hHeld
      have had:=HAD.out
      rw[HGn.out] at had
      have hgo:=HWz.out.at_.pushGone p.id had
      have hw2:=HWz.out.trans hgo
      have hm2:=(HMn.out.went (Went.below HWe.out.at_ (thenBelow HB3.out HZ.out))).went hgo
      rw[← HGn.out] at hw2 hm2
      have HW2:=qh hw2
      have HM2:=qh hm2
      clear had hgo hw2 hm2
      go_wp2
      go_roundw
      case rel=>
       refine⟨i+1,.slice p1 (Gn+1:Nat) s1,by omega,by go_num,qh (⟨?_,?_⟩:Lp1 _ _ _ _ _ _ _ _)⟩
       ·rw[HNs.out]
        have h9:=HW2.out
        simp only[List.append_assoc] at h9
        exact h9
       ·rw[HNs.out]
        have h9:=HM2.out
        simp only[List.append_assoc] at h9
        rw[HMn2.out]
        exact h9
      case measure=>simp[RowKit.intOf];omega
    case true=>
     have hyes:mi.length < Q∧G.M.mine p.id=true:=⟨by have:=HMn2.out;omega,HBe.out.symm⟩
     have HNs:Hid (splitM G.M Q (olds.take (i+1))=(mi++[p],gs)):=by
      show _=_
      rw[HSt.out,show splitM G.M Q (olds.take i)=(mi,gs) by rw[HMiE.out,HGsE.out]]
      unfold spl
      rw[if_pos hyes]
     have wz0:=HWe.out.then (thenBelow HB3.out HZ.out)
     have hmz:=HMn.out.went (Went.below HWe.out.at_ (thenBelow HB3.out HZ.out))
     rw[← HMn2.out] at hmz
     have HWz:=qh wz0
     have HMz:=qh hmz
     have e3:=P3.old_below HP3.out HZ.out
     have d0:=cell_at e3 0
     have d1:=cell_at e3 1
     have d2:=cell_at e3 2
     have d3:=cell_at e3 3
     simp only[qqD,qqE,qqF] at d0 d1 d2 d3
     clear wz0 hmz hyes e3
     go_wp2_with (first
      | (at_builtin;refine wpList_append_own_at _ rfl _ _ 41 rfl 0 86 i0 (Value.agg #[.int .i64 0,.int .i64 0,.int .i64 0,.string ⟨#[]⟩]) 4 40 Tryz.underlying41 hi0 hz0 hz1 hz2 rfl (by decide) _ mn (cellsP mi).flatten rfl (HMz.out.own.alloc _) ⟨wz.heap.size,0,none⟩ 1 1 [.int .i64 p.k,.int .i64 p.id,.int .i64 p.tx,.string p.body] rfl rfl ?c1 ?c2 ?c3 ?c4 (Nat.zero_le _) ?_))
     case c1=>first|exact fun j u hu=>cells_new wz _ 86 j u hu|(simpa using cells_new wz [.int .i64 p.k,.int .i64 p.id,.int .i64 p.tx,.string p.body] 86)
     case c2=>
      intro u hu
      simp only[List.mem_cons,List.not_mem_nil,or_false] at hu
      rcases hu with rfl|rfl|rfl|rfl <;> rfl
     case c3=>unfold maxLen;omega
     case c4=>omega
     intro v' w6 hown' hgrow _ hat6
     have had:AppD wz w6 0 86 4 (.slice ma mn mc) v' mn (cellsP mi).flatten [.int .i64 p.k,.int .i64 p.id,.int .i64 p.tx,.string p.body]:=AppD.plain hown' hgrow (by simpa using hat6)
     have hw2:=HWz.out.ext WT1.out.at_ rfl had.fr fun k hk=>⟨(HMz.out.off k hk).1,(HMz.out.off k hk).2⟩
     have hm2:=HMz.out.push HWz.out.at_ HWz.out.fr.size had
     have HW2:=qh hw2
     have HM2:=qh hm2
     clear hown' hgrow hat6 had hw2 hm2 d0 d1 d2 d3
     go_wp2
     go_roundw
     case rel=>
      refine⟨i+1,vo',by omega,by go_num,qh (⟨?_,?_⟩:Lp1 _ _ _ _ _ _ _ _)⟩
      ·rw[HNs.out]
       exact HW2.out
      ·rw[HNs.out]
       have h9:=HM2.out
       have e9:(cellsP (mi++[p])).flatten=(cellsP mi).flatten++[.int .i64 p.k,.int .i64 p.id,.int .i64 p.tx,.string p.body]:=cellsP_snoc mi p
       show RowOff _ _ _ _ _ _ (mi++[p]).length (cellsP (mi++[p])).flatten
       rw[e9,List.length_append,← HMn2.out]
       exact h9
     case measure=>simp[RowKit.intOf];omega
   ·have kq:decide ((mn:Int) < (Q:Int))=false:=decide_eq_false (by omega)
    have HNo:Hid (¬ (mi.length < Q∧G.M.mine p.id=true)):=fun h9=>by have:=HMn2.out;omega
    go_quiet (fail)
    all_goals
     obtain⟨wz,hwz⟩:∃ wz,wz=W3.drewN nq:=⟨_,rfl⟩
     have HZ:Hid (Below W3.heap.size W3 wz):=by rw[hwz];exact P3.below_drewN W3 _
     rw[← hwz]
     clear hwz
     go_upto_region 8 with fail
     have HelW:=qh (P3.old_below HP3.out HZ.out)
     have wz0:=HWe.out.then (thenBelow HB3.out HZ.out)
     have HWz:=qh wz0
     have hwl:=HWe.out.at_
     have HneO:Hid (vo'.ownBlock≠some G.c):=fun e=>by
      obtain⟨cs,e2⟩:=row_kind HWz.out.at_.ch.ro e
      rw[HWz.out.at_.ch.obj] at e2
      cases e2
     have HneE:Hid (vo'.ownBlock≠some wr.heap.size):=fun e=>by
      have:=hwl.lt (.inr (.inr (.inr (.inr (.inr e)))))
      omega
     have hoe:G.c≠wr.heap.size:=by
      have:G.c < wr.heap.size:=hwl.lt (.inr (.inr (.inl rfl)))
      omega
     have hrow:=wz0.at_.ch.ro
     have hob:=wz0.at_.ch.obj
     obtain⟨va,vc,e9⟩:∃ a c,vo'=.slice a (G.gone++gs).length c:=by
      rcases hrow.2 with ⟨e,e2⟩|⟨g9,cap9,cur9,e,_⟩
      ·exact⟨none,0,by rw[show vo'=_ from e,show (G.gone++gs).length=0 from e2]⟩
      ·exact⟨_,_,e⟩
     subst e9
     obtain⟨Gn,hGn⟩:∃ n,n=(G.gone++gs).length:=⟨_,rfl⟩
     have HGn:=qh hGn
     rw[← hGn] at HneO HneE
     have hob2:wz.heap[G.c]?=some (.cells #[.pointer (some ⟨G.s,0,none⟩),.string G.key,G.vm,G.vs,.slice va Gn vc] 76 (0,0)):=by rw[hGn];exact hob
     have HobW:=qh hob2
     have hrow2:wz.ownsRow 0 3 1 (.slice va Gn vc) Gn (cellsZ (G.gone++gs)):=by rw[hGn];exact hrow
     have HRowW:=qh hrow2
     have hgl:Gn≤100000:=by rw[hGn];exact HGl.out
     have HNs:Hid (splitM G.M Q (olds.take (i+1))=(mi,gs++[p.id])):=by
      show _=_
      rw[HSt.out,show splitM G.M Q (olds.take i)=(mi,gs) by rw[HMiE.out,HGsE.out]]
      unfold spl
      rw[if_neg HNo.out]
     clear wz0 hob hrow hGn hob2 hrow2 hwl
     have hel0:=HelW.out
     have hob0:=HobW.out
     have eWd:wz.drew.heap[wr.heap.size]?=some (.cells #[.int .i64 p.k,.int .i64 p.id,.int .i64 p.tx,.string p.body] 86 (0,0)):=hel0
     have oWd:wz.drew.heap[G.c]?=some (.cells #[.pointer (some ⟨G.s,0,none⟩),.string G.key,G.vm,G.vs,.slice va Gn vc] 76 (0,0)):=hob0
     have eWn:(wz.drew.alloc (.cells #[.int .i64 p.id] 3)).heap[wr.heap.size]?=some (.cells #[.int .i64 p.k,.int .i64 p.id,.int .i64 p.tx,.string p.body] 86 (0,0)):=P3.old_alloc eWd _
     have oWn:(wz.drew.alloc (.cells #[.int .i64 p.id] 3)).heap[G.c]?=some (.cells #[.pointer (some ⟨G.s,0,none⟩),.string G.key,G.vm,G.vs,.slice va Gn vc] 76 (0,0)):=P3.old_alloc oWd _
     have HeWn:=qh eWn
     have HoWn:=qh oWn
     have HeWd:=qh eWd
     have cA1:=cell_at oWd 4
     have cA2:=cell_at oWn 4
     have cA3:=cell_at (P3.old_alloc hob0 (.cells #[.int .i64 p.id] 3)) 4
     simp only[qqD,qqE,qqF] at cA1 cA2 cA3
     clear hel0 hob0 eWd oWd eWn oWn
     refine wp_region_held_drew (S:=(fun W'=>W'.cell? ⟨wr.heap.size,1,none⟩=some (.int .i64 p.id))) (by kernel_rfl) (cell_at HeWd.out 1) (fun hHeld=>?_)
     refine tk 0 ?_
     refine tk 1 ?_
     refine tk 2 ?_
     refine tk 3 ?_
     refine tk 5 ?_
     refine tk 6 ?_
     refine do_two 4 7 rfl rfl (by kernel_rfl) (by rfl) (by rfl) (fun K hK=>?_) (fun K hK=>?_)
     ·go_simp
      refine hK.out _ _ (cell_at HeWd.out 1) (fun hHeld=>?_)
      clear hK K
      try simp only[Act.put,qqA,qqB,qqC]
      refine dOne 7 fun K hK=>?_
      go_simp
      refine hK.out _ _ (cell_at HeWn.out 1) (fun hHeld=>?_)
      clear hK K
      try simp only[Act.put,qqA,qqB,qqC]
      refine dOne 8 fun K hK=>?_
      refine wp_app (.tmp 53) (.tmp 56) 42 rfl 0 3 j0 (Value.int .i64 0) 1 8 Tryz.underlying42 hj0 hy0 hy1 hy2 rfl (by decide) (.slice va Gn vc) Gn (cellsZ (G.gone++gs)) (by first|rfl|simp[Act.eval,Act.put]) (owns_below HRowW.out ((Below.refl _ _).drew.alloc (Nat.le_refl _) _)) (some ⟨wz.drew.heap.size,0,none⟩) 1 1 [.int .i64 p.id] (by first|rfl|simp[Act.eval,Act.put]) rfl (by intro X hX j u hu;cases hX;exact cells_new wz.drew [.int .i64 p.id] 3 j u hu) (fun e=>by cases e) (by intro u hu;simp only[List.mem_cons,List.not_mem_nil,or_false] at hu;first|(rcases hu with rfl|rfl|rfl|rfl|rfl|rfl|rfl|rfl <;> rfl)|(rcases hu with rfl|rfl|rfl|rfl <;> rfl)|(rcases hu with rfl|rfl <;> rfl)|(cases hu;rfl)) (by unfold maxLen;omega) (by omega) (by simp) ?_
      intro p1 s1 w2 hown2 hgrow2 hat2
      have HAD:Hid (AppD wz w2 0 3 1 (.slice va Gn vc) (.slice p1 (Gn+1:Nat) s1) Gn (cellsZ (G.gone++gs)) [.int .i64 p.id]):=⟨hown2,hgrow2,hat2⟩
      have e2:w2.heap[wr.heap.size]?=some (.cells #[.int .i64 p.k,.int .i64 p.id,.int .i64 p.tx,.string p.body] 86 (0,0)):=(hgrow2.block _ (lt_of_block HeWn.out) (fun e=>HneE.out e.symm)).trans HeWn.out
      have o2:w2.heap[G.c]?=some (.cells #[.pointer (some ⟨G.s,0,none⟩),.string G.key,G.vm,G.vs,.slice va Gn vc] 76 (0,0)):=(hgrow2.block _ (lt_of_block HoWn.out) (fun e=>HneO.out e.symm)).trans HoWn.out
      have He2:=qh e2
      have Ho2:=qh o2
      clear hown2 hgrow2 hat2 e2 o2
      refine hK.out _ _ (cell_at He2.out 1) (fun hHeld=>?_)
      clear hK K
      try simp only[Act.put,qqA,qqB,qqC]
      refine tk 9 ?_
      refine tk 10 ?_
      refine dOne 11 fun K hK=>?_
      have q0:=cell_at Ho2.out 4
      simp only[qqD,qqE,qqF] at q0
      have q1:=free_at Ho2.out 4
      go_simp
      have e3:=P3.old_set He2.out (⟨G.c,4,none⟩:Addr) (Ne.symm hoe) (.slice p1 (Gn+1) s1)
      have He3:=qh e3
      clear e3
      refine hK.out _ _ (cell_at He3.out 1) (fun hHeld=>?_)
      clear hK K
      try simp only[Act.put,qqA,qqB,qqC]
      refine wpAnyH_done (by kernel_rfl) ?_ _
      clear q0 q1 cA1 cA2 cA3 hHeld
      have had:=HAD.out
      rw[HGn.out] at had
      have hgo:=HWz.out.at_.pushGone p.id had
      have hw2:=HWz.out.trans hgo
      have hm2:=(HMn.out.went (Went.below HWe.out.at_ (thenBelow HB3.out HZ.out))).went hgo
      rw[← HGn.out] at hw2 hm2
      have HW2:=qh hw2
      have HM2:=qh hm2
      clear had hgo hw2 hm2
      go_wp2
      go_roundw
      case rel=>
       refine⟨i+1,.slice p1 (Gn+1:Nat) s1,by omega,by go_num,qh (⟨?_,?_⟩:Lp1 _ _ _ _ _ _ _ _)⟩
       ·rw[HNs.out]
        have h9:=HW2.out
        simp only[List.append_assoc] at h9
        exact h9
       ·rw[HNs.out]
        have h9:=HM2.out
        simp only[List.append_assoc] at h9
        rw[HMn2.out]
        exact h9
      case measure=>simp[RowKit.intOf];omega
     ·go_simp
      refine hK.out _ _ (cell_at HeWn.out 1) (fun hHeld=>?_)
      clear hK K
      try simp only[Act.put,qqA,qqB,qqC]
      refine dOne 4 fun K hK=>?_
      go_simp
      refine hK.out _ _ (cell_at HeWn.out 1) (fun hHeld=>?_)
      clear hK K
      try simp only[Act.put,qqA,qqB,qqC]
      refine dOne 8 fun K hK=>?_
      refine wp_app (.tmp 53) (.tmp 56) 42 rfl 0 3 j0 (Value.int .i64 0) 1 8 Tryz.underlying42 hj0 hy0 hy1 hy2 rfl (by decide) (.slice va Gn vc) Gn (cellsZ (G.gone++gs)) (by first|rfl|simp[Act.eval,Act.put]) (owns_below HRowW.out ((Below.refl _ _).drew.alloc (Nat.le_refl _) _)) (some ⟨wz.drew.heap.size,0,none⟩) 1 1 [.int .i64 p.id] (by first|rfl|simp[Act.eval,Act.put]) rfl (by intro X hX j u hu;cases hX;exact cells_new wz.drew [.int .i64 p.id] 3 j u hu) (fun e=>by cases e) (by intro u hu;simp only[List.mem_cons,List.not_mem_nil,or_false] at hu;first|(rcases hu with rfl|rfl|rfl|rfl|rfl|rfl|rfl|rfl <;> rfl)|(rcases hu with rfl|rfl|rfl|rfl <;> rfl)|(rcases hu with rfl|rfl <;> rfl)|(cases hu;rfl)) (by unfold maxLen;omega) (by omega) (by simp) ?_
      intro p1 s1 w2 hown2 hgrow2 hat2
      have HAD:Hid (AppD wz w2 0 3 1 (.slice va Gn vc) (.slice p1 (Gn+1:Nat) s1) Gn (cellsZ (G.gone++gs)) [.int .i64 p.id]):=⟨hown2,hgrow2,hat2⟩
      have e2:w2.heap[wr.heap.size]?=some (.cells #[.int .i64 p.k,.int .i64 p.id,.int .i64 p.tx,.string p.body] 86 (0,0)):=(hgrow2.block _ (lt_of_block HeWn.out) (fun e=>HneE.out e.symm)).trans HeWn.out
      have o2:w2.heap[G.c]?=some (.cells #[.pointer (some ⟨G.s,0,none⟩),.string G.key,G.vm,G.vs,.slice va Gn vc] 76 (0,0)):=(hgrow2.block _ (lt_of_block HoWn.out) (fun e=>HneO.out e.symm)).trans HoWn.out
      have He2:=qh e2
      have Ho2:=qh o2
      clear hown2 hgrow2 hat2 e2 o2
      refine hK.out _ _ (cell_at He2.out 1) (fun hHeld=>?_)
      clear hK K
      try simp only[Act.put,qqA,qqB,qqC]
      refine tk 9 ?_
      refine tk 10 ?_
      refine dOne 11 fun K hK=>?_
      have q0:=cell_at Ho2.out 4
      simp only[qqD,qqE,qqF] at q0
      have q1:=free_at Ho2.out 4
      go_simp
      have e3:=P3.old_set He2.out (⟨G.c,4,none⟩:Addr) (Ne.symm hoe) (.slice p1 (Gn+1) s1)
      have He3:=qh e3
      clear e3
      refine hK.out _ _ (cell_at He3.out 1) (fun hHeld=>?_)
      clear hK K
      try simp only[Act.put,qqA,qqB,qqC]
      refine wpAnyH_done (by kernel_rfl) ?_ _
      clear q0 q1 cA1 cA2 cA3 hHeld
      have had:=HAD.out
      rw[HGn.out] at had
      have hgo:=HWz.out.at_.pushGone p.id had
      have hw2:=HWz.out.trans hgo
      have hm2:=(HMn.out.went (Went.below HWe.out.at_ (thenBelow HB3.out HZ.out))).went hgo
      rw[← HGn.out] at hw2 hm2
      have HW2:=qh hw2
      have HM2:=qh hm2
      clear had hgo hw2 hm2
      go_wp2
      go_roundw
      case rel=>
       refine⟨i+1,.slice p1 (Gn+1:Nat) s1,by omega,by go_num,qh (⟨?_,?_⟩:Lp1 _ _ _ _ _ _ _ _)⟩
       ·rw[HNs.out]
        have h9:=HW2.out
        simp only[List.append_assoc] at h9
        exact h9
       ·rw[HNs.out]
        have h9:=HM2.out
        simp only[List.append_assoc] at h9
        rw[HMn2.out]
        exact h9
      case measure=>simp[RowKit.intOf];omega
  ·obtain rfl:i=olds.length:=by omega
   have k1:decide ((olds.length:Int) < (olds.length:Int))=false:=decide_eq_false (by omega)
   have htl0:olds.take olds.length=olds:=List.take_length
   obtain⟨wa,hwa⟩:∃ x,x=wr:=⟨_,rfl⟩
   subst hwa
   obtain⟨mi,hmi⟩:∃ m,m=(splitM G.M Q olds).1:=⟨_,rfl⟩
   obtain⟨gs,hgs⟩:∃ g,g=(splitM G.M Q olds).2:=⟨_,rfl⟩
   have HMiE:=qh hmi
   have HGsE:=qh hgs
   have hsl:=splitM_len G.M Q olds
   rw[← hmi,← hgs] at hsl
   have hmine:=HS.out.mine
   have hwent:=HS.out.went
   rw[htl0] at hmine hwent
   rw[← hmi,← hgs] at hmine
   rw[← hgs] at hwent
   have HMn:=qh hmine
   have HWe:=qh hwent
   obtain⟨ma,mc,e8⟩:=hmine.slice
   subst e8
   obtain⟨mn,hmn⟩:∃ n,n=mi.length:=⟨_,rfl⟩
   have HMn2:=qh hmn
   have hml:mn≤2:=by have h9:=HBd.out;omega
   have HL0:Hid (Lp2 w1 wa G vo' (G.gone++gs) mi (qs.map (·.nd)) 0 (.slice ma mi.length mc) (.slice none 0 0) G.vl G.vm G.vs):=qh ⟨HWe.out,HMn.out,RowOff.nil _ _ _ _ _⟩
   rw[← hmn] at HL0 ⊢
   have HPs:=qh (parts_good H2.out HSo.out)
   clear hmi hgs hsl hmine hwent HS hmn HMn HWe
   go_wp2
   go_loopw [10,63] (fun vk vj wx=>∃ (j:Nat) (vl' vm' vs':Value),j≤Q∧vj=.int .i64 j∧Hid (Lp2 w1 wx G vo' (G.gone++gs) mi (qs.map (·.nd)) j (.slice ma mn mc) vk vl' vm' vs')) (fun _ vj _=>Q - (RowKit.intOf vj).toNat)
   case atStart=>exact⟨0,G.vl,G.vm,G.vs,Nat.zero_le _,rfl,HL0⟩
   case round=>
    clear HL0
    obtain⟨j,vl',vm',vs',hj,rfl,HL⟩:=hrel
    by_cases hjq:j < Q
    ·obtain⟨q,hq⟩:∃ q,qs[j]?=some q:=⟨_,List.getElem?_eq_getElem (by rw[← HQ.out];exact hjq)⟩
     obtain⟨gq,c9,e9,hgq1,hgq2,hgq3⟩:=H1.out.form (by rw[← HQ.out];omega)
     rw[← HQ.out] at e9
     simp only[Value.slice.injEq,true_and] at e9
     obtain⟨e9,e10⟩:=e9
     subst e9 e10
     obtain⟨cur,hcur⟩:=row_kind H1.out.own (show Value.ownBlock (.slice (some ⟨gq,0,none⟩) qs.length pc)=some gq from rfl)
     have hnS:¬ G.S gq:=fun e=>by have:=B0.out.at_.lt e;omega
     obtain⟨hbx,hbS⟩:=HL.out.went.box hcur hnS
     have hcells:∀ (k:Nat) (u:Value),((qs.map Nv.cells).flatten)[k]?=some u→wr.cell? ⟨gq,k,none⟩=some u:=fun k u hu=>by
      have h8:=hgq3 w1 (Below.refl _ _) k u hu
      rw[Go.WideShapes.add_plain,Nat.zero_add] at h8
      rw[cell_at hcur] at h8
      rw[cell_at hbx]
      exact h8
     have hfl:∀ (x:Nat) (u:Value),q.cells[x]?=some u→((qs.map Nv.cells).flatten)[j*3+x]?=some u:=fun x u hu=>flat_at (n:=3) (l:=qs.map Nv.cells) (fun y hy=>by
      obtain⟨z,_,rfl⟩:=List.mem_map.1 hy
      rfl) (x:=q.cells) (by rw[List.getElem?_map,hq];rfl) hu
     have c0:=hcells _ _ (hfl 0 _ rfl)
     have c1:=hcells _ _ (hfl 1 _ rfl)
     have c2:=hcells _ _ (hfl 2 _ rfl)
     have hqm:=List.mem_of_getElem? hq
     have hgood:=HPs.out q.nd (List.mem_map.2 ⟨q,hqm,rfl⟩)
     have hndq:=(H1.out.nd q hqm).keep HL.out.went.ft
     have hpq:(qs.map (·.nd))[j]?=some q.nd:=by rw[List.getElem?_map,hq];rfl
     have htk:(qs.map (·.nd)).take (j+1)=(qs.map (·.nd)).take j++[q.nd]:=by rw[List.take_add_one,hpq];rfl
     have htl:((qs.map (·.nd)).take j).length=j:=by rw[List.length_take,List.length_map,← HQ.out];omega
     have hkf:Kat mi G (qs.map (·.nd)) (j+1)=kst mi (Kat mi G (qs.map (·.nd)) j) j q.nd:=by
      unfold Kat
      rw[htk,kfold_snoc,htl,Nat.zero_add]
     have HKf:=qh hkf
     have hlens:=kfold_lens mi ((qs.map (·.nd)).take j) 0 ⟨G.M,G.sets,G.made,[]⟩
     rw[htl] at hlens
     obtain⟨qn,qi,qk⟩:=q
     simp only[Nat.add_zero] at c0 c1 c2
     simp only at hgood hndq HKf
     obtain⟨a1,n1,c1',a2,n2,c2',rfl,rfl,_⟩:=hndq.lens
     have j1:decide ((j:Int) < (Q:Int))=true:=decide_eq_true (by omega)
     have j2:(j:Int) < (Q:Int):=by omega
     have j3:(0:Int)≤(j:Int):=by omega
     clear hcells hfl hbx hcur hnS hbS hpq htk htl hkf hq hgq1 hgq2 hgq3
     have hsum:=hgood.sum
     have hpos:=hgood.pos
     have hlen:=qn.len_sum
     obtain⟨K,hK⟩:∃ K,K=Kat mi G (qs.map (·.nd)) j:=⟨_,rfl⟩
     have hln2:K.M.L.length≤G.M.L.length+j∧K.sets.length≤G.sets.length+j∧K.made.length≤G.made.length+j∧K.ws.length=j:=by
      rw[hK]
      refine⟨hlens.1,hlens.2.1,hlens.2.2.1,?_⟩
      have h9:=hlens.2.2.2
      simp only[List.length_nil,Nat.zero_add] at h9
      exact h9
     have hwe:=HL.out.went
     have hmi2:=HL.out.mine
     have hki2:=HL.out.kids
     rw[← hK] at hwe hmi2 hki2 HKf
     have HWe2:=qh hwe
     have HMi2:=qh hmi2
     have HKi2:=qh hki2
     obtain⟨W3,hW3⟩:∃ W3,W3=wr.alloc (.cells #[.int .i64 qn.kind,.slice a1 n1 c1',.slice a2 n2 c2'] 80):=⟨_,rfl⟩
     have b3:Below wr.heap.size wr W3:=by rw[hW3];exact below_new _ _
     have hp3:W3.heap[wr.heap.size]?=some (.cells #[.int .i64 qn.kind,.slice a1 n1 c1',.slice a2 n2 c2'] 80 (0,0)):=by rw[hW3];exact new_at _ _ _
     have HB3:=qh b3
     have HP3:=qh hp3
     have HND:=qh hndq
     have HGd:=qh hgood
     have HLn:=qh hln2
     have hlay:=lay_any W3 none _ _ qn (hndq.keep (FrT.of b3)) (by omega)
     rw[good_lay hgood] at hlay
     unfold Nd.v at hlay
     have HLy:=qh hlay
     have t0:=cell_at hp3 0
     have t1:=cell_at hp3 1
     have t2:=cell_at hp3 2
     simp only[qqD,qqE,qqF] at t0 t1 t2
     obtain⟨Kd,hKd⟩:∃ k,k=qn.kind:=⟨_,rfl⟩
     have HKd:=qh hKd
     rw[← hKd] at t0 HLy HP3 hW3 c0
     clear hlens hK HL hwe hmi2 hki2 hndq hgood hlay b3 hp3 hKd
     go_upto_region 14 with fail
     rw[← hW3]
     clear hW3 c0 c1 c2
     go_upto_region 18 with (go_at_call 129;(with_reducible refine HLy.out.mono ?_);rintro e w4 ⟨rfl,h4⟩;have H4:=qh h4;clear h4)
     have HB4:=qh (P3.old_below HP3.out H4.out)
     have wt4:=HWe2.out.then (thenBelow HB3.out H4.out)
     have HW4:=qh wt4
     have HM4:=qh (HMi2.out.went (Went.below HWe2.out.at_ (thenBelow HB3.out H4.out)))
     have HK4:=qh (HKi2.out.went (Went.below HWe2.out.at_ (thenBelow HB3.out H4.out)))
     have HN4:=qh ((HND.out.keep (FrT.of HB3.out)).keep (FrT.of H4.out))
     have hnB:¬ (G2 G vo' (G.gone++gs) vl' vm' vs' K).S wr.heap.size:=fun e=>by have:=HWe2.out.at_.lt e;omega
     have HnB:=qh hnB
     clear wt4 hnB t0 t1 t2
     cases hmj:mi[j]? with
     | some p=>
      have hjm:j < mn:=by have:=(List.getElem?_eq_some_iff.1 hmj).1;have:=HMn2.out;omega
      have m1:decide ((j:Int) < (mn:Int))=true:=decide_eq_true (by omega)
      have m2:(j:Int) < (mn:Int):=by omega
      have hpin:=P11.owns_pgs HM4.out.own (by have:=HMn2.out;omega)
      obtain⟨bm,om,e9,hcm⟩:=hpin.at_ hmj
      subst e9
      obtain⟨x0,x1,x2,x3⟩:=hcm _ (Below.refl _ _)
      have hag:=again_any w4 (G2 G vo' (G.gone++gs) vl' vm' vs' K) p qn.body HW4.out.at_ (by show K.sets.length≤_;have h9:=HLn.out.2.1;have h8:=HBd.out;have h7:=HRm.out;omega)
      unfold P11.Pg.v G2 at hag
      simp only at hag
      have HAg:=qh hag
      have HKs2:Hid (Kat mi G (qs.map (·.nd)) (j+1)={ K with sets:=K.sets++[⟨p.k,p.id,p.tx,qn.body⟩],ws:=K.ws++[⟨qn.key,p.id⟩] }):=by
       show _=_
       rw[HKf.out]
       unfold kst
       rw[hmj]
      clear hpin hcm hag hmj
      go_upto_region 23 with (go_at_call 130;(with_reducible refine HAg.out.mono ?_);rintro e w5 ⟨v5,rfl,h5⟩;have H5:=qh h5;clear h5)
      clear x0 x1 x2 x3
      have h5t:Went w4 w5 (G2 G vo' (G.gone++gs) vl' vm' vs' K) (G2 G vo' (G.gone++gs) vl' vm' v5 { K with sets:=K.sets++[⟨p.k,p.id,p.tx,qn.body⟩] }):=H5.out
      obtain⟨Id,hId⟩:∃ i,i=p.id:=⟨_,rfl⟩
      obtain⟨K2,hK2⟩:∃ K2,K2=({ K with sets:=K.sets++[⟨p.k,p.id,p.tx,qn.body⟩] }:Ks):=⟨_,rfl⟩
      have HKs3:Hid (Kat mi G (qs.map (·.nd)) (j+1)={ K2 with ws:=K2.ws++[⟨qn.key,Id⟩] }):=by
       show _=_
       rw[HKs2.out,hK2,hId]
      have hKw:K2.ws=K.ws:=by rw[hK2]
      rw[← hK2] at h5t
      rw[← hId]
      obtain⟨vl2,vm2,vs2,e7,e8,e9⟩:∃ a b c,a=vl'∧b=vm'∧c=v5:=⟨_,_,_,rfl,rfl,rfl⟩
      have h5u:Went w4 w5 (G2 G vo' (G.gone++gs) vl' vm' vs' K) (G2 G vo' (G.gone++gs) vl2 vm2 vs2 K2):=by rw[e7,e8,e9];exact h5t
      clear hId hK2 h5t HKs2 H5 e7 e8 e9
      have HU:=qh h5u
      have HKw:=qh hKw
      have hb5:=(h5u.box HB4.out HnB.out).1
      have x0:=cell_at hb5 0
      have x1:=cell_at hb5 1
      have x2:=cell_at hb5 2
      simp only[qqD,qqE,qqF] at x0 x1 x2
      have hky:=key_any w5 none _ _ qn (HN4.out.keep h5u.ft) (by have h9:=qn.least_or;omega)
      unfold Nd.v at hky
      rw[← HKd.out] at hky
      have HKy:=qh hky
      have hk5:=HK4.out.went h5u
      rw[← hKw] at hk5
      have HK5:=qh hk5
      have HM5:=qh (HM4.out.went h5u)
      have HW5:=qh (HW4.out.trans h5u)
      obtain⟨ka,kc,e9⟩:=hk5.slice
      subst e9
      obtain⟨wn,hwn⟩:∃ n,n=K2.ws.length:=⟨_,rfl⟩
      have HWn:=qh hwn
      have hwl:wn≤4000:=by rw[hwn,hKw];have h9:=HLn.out.2.2.2;have h7:=HRm.out;omega
      rw[← hwn] at HK5 ⊢
      obtain⟨ky,hky2⟩:∃ k,k=qn.key:=⟨_,rfl⟩
      have HKy2:=qh hky2
      rw[← hky2] at HKy
      obtain⟨l0,hl0,hl1,hl2,hl3⟩:=info_parts infoEKids
      clear h5u hb5 hky hk5 hwn hKw hky2
      go_wp2_with (first
       | (go_at_call 132;(with_reducible refine HKy.out.mono ?_);rintro e w6 ⟨rfl,h6⟩;have H6:=qh h6;have HK6:=qh (HK5.out.went (Went.below HW5.out.at_ h6));have HM6:=qh (HM5.out.went (Went.below HW5.out.at_ h6));have HW6:=qh (HW5.out.then h6);clear h6)
       | (at_builtin;refine wpList_append_own_at _ rfl _ _ 78 rfl 0 106 l0 (Value.agg #[.string ⟨#[]⟩,.int .i64 0]) 2 24 Tryz.underlying78 hl0 hl1 hl2 hl3 rfl (by decide) _ wn (P10.cellsI K2.ws).flatten rfl (HK6.out.own.alloc _) ⟨w6.heap.size,0,none⟩ 1 1 [.string ky,.int .i64 Id] rfl rfl ?c1 ?c2 ?c3 ?c4 (Nat.zero_le _) ?_))
      case c1=>first|exact fun j u hu=>cells_new w6 _ 106 j u hu|(simpa using cells_new w6 [.string ky,.int .i64 Id] 106)
      case c2=>
       intro u hu
       simp only[List.mem_cons,List.not_mem_nil,or_false] at hu
       rcases hu with rfl|rfl <;> rfl
      case c3=>unfold maxLen;omega
      case c4=>omega
      intro v' w7 hown' hgrow _ hat7
      have had:AppD w6 w7 0 106 2 (.slice ka wn kc) v' wn (P10.cellsI K2.ws).flatten [.string ky,.int .i64 Id]:=AppD.plain hown' hgrow (by simpa using hat7)
      have hsz:w1.heap.size≤w6.heap.size:=HW6.out.fr.size
      have hw7:=HW6.out.ext WT1.out.at_ rfl had.fr fun k hk=>⟨(HK6.out.off k hk).1,(HK6.out.off k hk).2⟩
      have hk7:=HK6.out.push HW6.out.at_ hsz had
      have hm7:=HM6.out.beside had.fr fun k hk e=>by
       obtain⟨cs,e1⟩:=row_kind HM6.out.own hk
       obtain⟨cs',e2⟩:=row_kind HK6.out.own e
       rw[e1] at e2
       cases e2
      have HW7:=qh hw7
      have HK7:=qh hk7
      have HM7:=qh hm7
      clear hown' hgrow hat7 had hsz hw7 hk7 hm7 x0 x1 x2
      go_wp2
      go_roundw
      case rel=>
       refine⟨j+1,vl2,vm2,vs2,by omega,by go_num,qh (⟨?_,?_,?_⟩:Lp2 _ _ _ _ _ _ _ _ _ _ _ _ _)⟩
       ·rw[HKs3.out]
        exact HW7.out
       ·rw[HKs3.out]
        exact HM7.out
       ·rw[HKs3.out]
        have h9:=HK7.out
        have e9:(P10.cellsI (K2.ws++[(⟨qn.key,Id⟩:P10.It)])).flatten=(P10.cellsI K2.ws).flatten++[.string ky,.int .i64 Id]:=by rw[HKy2.out];simp[P10.cellsI,P10.It.cells]
        show RowOff _ _ _ _ _ _ (K2.ws++[(⟨qn.key,Id⟩:P10.It)]).length (P10.cellsI (K2.ws++[(⟨qn.key,Id⟩:P10.It)])).flatten
        rw[e9,List.length_append,← HWn.out]
        exact h9
      case measure=>simp[RowKit.intOf];omega
     | none=>
      have hjm:¬ j < mn:=fun h9=>by
       have:=HMn2.out
       rw[List.getElem?_eq_getElem (by omega)] at hmj
       cases hmj
      have m1:decide ((j:Int) < (mn:Int))=false:=decide_eq_false (by omega)
      have b0:=cell_at HB4.out 0
      simp only[qqD,qqE] at b0
      have htk:=take_any w4 (G2 G vo' (G.gone++gs) vl' vm' vs' K) Kd qn.body HW4.out.at_ (by show K.M.L.length≤_;have h9:=HLn.out.1;have h7:=HRm.out;omega) (by show K.made.length≤_;have h9:=HLn.out.2.2.1;have h8:=HBd.out;have h7:=HRm.out;omega)
      unfold G2 at htk
      simp only at htk
      have HTk:=qh htk
      have HKs2:Hid (Kat mi G (qs.map (·.nd)) (j+1)={ K with M:=K.M.push ⟨Kd,0,0,qn.body⟩,made:=K.made++[K.M.next],ws:=K.ws++[⟨qn.key,K.M.next⟩] }):=by
       show _=_
       rw[HKf.out,HKd.out]
       unfold kst
       rw[hmj]
      clear htk hmj
      go_upto_region 23 with (go_at_call 131;(with_reducible refine HTk.out.mono ?_);rintro e w5 ⟨vl5,vm5,rfl,h5⟩;have H5:=qh h5;clear h5)
      clear b0
      have h5t:Went w4 w5 (G2 G vo' (G.gone++gs) vl' vm' vs' K) (G2 G vo' (G.gone++gs) vl5 vm5 vs' { K with M:=K.M.push ⟨Kd,0,0,qn.body⟩,made:=K.made++[K.M.next] }):=H5.out
      obtain⟨Id,hId⟩:∃ i,i=K.M.next:=⟨_,rfl⟩
      obtain⟨K2,hK2⟩:∃ K2,K2=({ K with M:=K.M.push ⟨Kd,0,0,qn.body⟩,made:=K.made++[K.M.next] }:Ks):=⟨_,rfl⟩
      have HKs3:Hid (Kat mi G (qs.map (·.nd)) (j+1)={ K2 with ws:=K2.ws++[⟨qn.key,Id⟩] }):=by
       show _=_
       rw[HKs2.out,hK2,hId]
      have hKw:K2.ws=K.ws:=by rw[hK2]
      have hnx:(G2 G vo' (G.gone++gs) vl' vm' vs' K).M.next=Id:=hId.symm
      rw[← hK2] at h5t
      rw[show K.M.next=Id from hId.symm]
      obtain⟨vl2,vm2,vs2,e7,e8,e9⟩:∃ a b c,a=vl5∧b=vm5∧c=vs':=⟨_,_,_,rfl,rfl,rfl⟩
      have h5u:Went w4 w5 (G2 G vo' (G.gone++gs) vl' vm' vs' K) (G2 G vo' (G.gone++gs) vl2 vm2 vs2 K2):=by rw[e7,e8,e9];exact h5t
      clear hId hK2 h5t HKs2 H5 e7 e8 e9 hnx
      have HU:=qh h5u
      have HKw:=qh hKw
      have hb5:=(h5u.box HB4.out HnB.out).1
      have x0:=cell_at hb5 0
      have x1:=cell_at hb5 1
      have x2:=cell_at hb5 2
      simp only[qqD,qqE,qqF] at x0 x1 x2
      have hky:=key_any w5 none _ _ qn (HN4.out.keep h5u.ft) (by have h9:=qn.least_or;omega)
      unfold Nd.v at hky
      rw[← HKd.out] at hky
      have HKy:=qh hky
      have hk5:=HK4.out.went h5u
      rw[← hKw] at hk5
      have HK5:=qh hk5
      have HM5:=qh (HM4.out.went h5u)
      have HW5:=qh (HW4.out.trans h5u)
      obtain⟨ka,kc,e9⟩:=hk5.slice
      subst e9
      obtain⟨wn,hwn⟩:∃ n,n=K2.ws.length:=⟨_,rfl⟩
      have HWn:=qh hwn
      have hwl:wn≤4000:=by rw[hwn,hKw];have h9:=HLn.out.2.2.2;have h7:=HRm.out;omega
      rw[← hwn] at HK5 ⊢
      obtain⟨ky,hky2⟩:∃ k,k=qn.key:=⟨_,rfl⟩
      have HKy2:=qh hky2
      rw[← hky2] at HKy
      obtain⟨l0,hl0,hl1,hl2,hl3⟩:=info_parts infoEKids
      clear h5u hb5 hky hk5 hwn hKw hky2
      go_wp2_with (first
       | (go_at_call 132;(with_reducible refine HKy.out.mono ?_);rintro e w6 ⟨rfl,h6⟩;have H6:=qh h6;have HK6:=qh (HK5.out.went (Went.below HW5.out.at_ h6));have HM6:=qh (HM5.out.went (Went.below HW5.out.at_ h6));have HW6:=qh (HW5.out.then h6);clear h6)
       | (at_builtin;refine wpList_append_own_at _ rfl _ _ 78 rfl 0 106 l0 (Value.agg #[.string ⟨#[]⟩,.int .i64 0]) 2 24 Tryz.underlying78 hl0 hl1 hl2 hl3 rfl (by decide) _ wn (P10.cellsI K2.ws).flatten rfl (HK6.out.own.alloc _) ⟨w6.heap.size,0,none⟩ 1 1 [.string ky,.int .i64 Id] rfl rfl ?c1 ?c2 ?c3 ?c4 (Nat.zero_le _) ?_))
      case c1=>first|exact fun j u hu=>cells_new w6 _ 106 j u hu|(simpa using cells_new w6 [.string ky,.int .i64 Id] 106)
      case c2=>
       intro u hu
       simp only[List.mem_cons,List.not_mem_nil,or_false] at hu
       rcases hu with rfl|rfl <;> rfl
      case c3=>unfold maxLen;omega
      case c4=>omega
      intro v' w7 hown' hgrow _ hat7
      have had:AppD w6 w7 0 106 2 (.slice ka wn kc) v' wn (P10.cellsI K2.ws).flatten [.string ky,.int .i64 Id]:=AppD.plain hown' hgrow (by simpa using hat7)
      have hsz:w1.heap.size≤w6.heap.size:=HW6.out.fr.size
      have hw7:=HW6.out.ext WT1.out.at_ rfl had.fr fun k hk=>⟨(HK6.out.off k hk).1,(HK6.out.off k hk).2⟩
      have hk7:=HK6.out.push HW6.out.at_ hsz had
      have hm7:=HM6.out.beside had.fr fun k hk e=>by
       obtain⟨cs,e1⟩:=row_kind HM6.out.own hk
       obtain⟨cs',e2⟩:=row_kind HK6.out.own e
       rw[e1] at e2
       cases e2
      have HW7:=qh hw7
      have HK7:=qh hk7
      have HM7:=qh hm7
      clear hown' hgrow hat7 had hsz hw7 hk7 hm7 x0 x1 x2
      go_wp2
      go_roundw
      case rel=>
       refine⟨j+1,vl2,vm2,vs2,by omega,by go_num,qh (⟨?_,?_,?_⟩:Lp2 _ _ _ _ _ _ _ _ _ _ _ _ _)⟩
       ·rw[HKs3.out]
        exact HW7.out
       ·rw[HKs3.out]
        exact HM7.out
       ·rw[HKs3.out]
        have h9:=HK7.out
        have e9:(P10.cellsI (K2.ws++[(⟨qn.key,Id⟩:P10.It)])).flatten=(P10.cellsI K2.ws).flatten++[.string ky,.int .i64 Id]:=by rw[HKy2.out];simp[P10.cellsI,P10.It.cells]
        show RowOff _ _ _ _ _ _ (K2.ws++[(⟨qn.key,Id⟩:P10.It)]).length (P10.cellsI (K2.ws++[(⟨qn.key,Id⟩:P10.It)])).flatten
        rw[e9,List.length_append,← HWn.out]
        exact h9
      case measure=>simp[RowKit.intOf];omega
    ·obtain rfl:j=Q:=by omega
     have j1:decide ((j:Int) < (j:Int))=false:=decide_eq_false (by omega)
     have htk:(qs.map (·.nd)).take j=qs.map (·.nd):=List.take_of_length_le (by rw[List.length_map,← HQ.out];omega)
     have hps:(qs.map (·.nd)).length=j:=by rw[List.length_map];exact HQ.out.symm
     have hkl:=kfold_lens mi (qs.map (·.nd)) 0 ⟨G.M,G.sets,G.made,[]⟩
     have hwe:=WT1.out.trans HL.out.went
     have hki:=HL.out.kids
     have hka:Kat mi G (qs.map (·.nd)) j=kfold (splitM G.M (qs.map (·.nd)).length olds).1 0 ⟨G.M,G.sets,G.made,[]⟩ (qs.map (·.nd)):=by
      unfold Kat
      rw[htk,HMiE.out,hps]
     have hws:(Kat mi G (qs.map (·.nd)) j).ws.length≤4000:=by
      unfold Kat
      rw[htk,hkl.2.2.2,hps]
      have h7:=HRm.out
      simp only[List.length_nil,Nat.zero_add]
      omega
     have HWe:=qh hwe
     have HKi:=qh hki
     have HKa:=qh hka
     have HWs:=qh hws
     have HPs2:=qh hps
     obtain⟨ka,kc,e9⟩:=hki.slice
     subst e9
     clear htk hps hkl hwe hki hka hws HL
     go_wp2
     go_ret2
     refine⟨_,rfl,qs.map (·.nd),vl',vm',vs',vo',⟨H2.out,?_,?_⟩⟩
     ·rw[← HKa.out]
      exact⟨own_up HKi.out.own fun k hk=>Nat.le_trans WT1.out.fr.size (HKi.out.off k hk).1,Nat.le_trans HWs.out (by omega)⟩
     ·rw[← HKa.out,HPs2.out,← HGsE.out]
      exact HWe.out
end Go.Proofs.YtjepgclnbbpnaaaGreat.P12
