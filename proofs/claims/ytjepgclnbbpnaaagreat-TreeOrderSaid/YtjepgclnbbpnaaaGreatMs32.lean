/-
  Texts of the proofs of SaidOrd12.
-/
import Derived.Test.YtjepgclnbbpnaaaGreatMs31
set_option linter.unusedVariables false
set_option linter.unusedSimpArgs false
set_option maxHeartbeats 8000000
set_option maxRecDepth 100000
namespace Go.Proofs.YtjepgclnbbpnaaaGreat.P12
open PK (qqA qqB qqC qqD qqE qqF tk tkS dOne qh)
open Go Go.RowKit Go.Lib PK
open P11 (Pg cellsP PgsIn)
open P9 (It kb kb_trans RightI)
structure SameG (G G':Cg):Prop where
 b:G'.b=G.b
 s:G'.s=G.s
 c:G'.c=G.c
 mb:G'.mb=G.mb
 vw:G'.vw=G.vw
 ps:G'.ps=G.ps
 key:G'.key=G.key
theorem SameG.refl(G:Cg):SameG G G:=⟨rfl,rfl,rfl,rfl,rfl,rfl,rfl⟩
theorem SameG.trans{G G' G2:Cg}(h:SameG G G')(k:SameG G' G2):SameG G G2:=⟨k.b.trans h.b,k.s.trans h.s,k.c.trans h.c,k.mb.trans h.mb,k.vw.trans h.vw,k.ps.trans h.ps,k.key.trans h.key⟩
theorem SameG.kept(G:Cg)(vl' vm' vs' vo':Value)(K:Ks)(gn:List Int):SameG G (G.kept vl' vm' vs' vo' K gn):=⟨rfl,rfl,rfl,rfl,rfl,rfl,rfl⟩
theorem SameG.saw(G:Cg)(sn':List Int):SameG G (G.saw sn'):=⟨rfl,rfl,rfl,rfl,rfl,rfl,rfl⟩
theorem top_low(w:World)(G:Cg)(M0:PM)(ids:List Int)(L':List It)(c d:Nat)(q:P10.It)(i':List Int)(p:Pg)(vk vo:Value)(at_:Int)(dd:Bool)(h:CAt w G)(hn:KdT w none vk [q])(ho:OldIn w G vo [p])(T:TopS M0 ids L' c d (.tw [q]) i' [p] G) :
  Calls Tryz.prog 89 #[.pointer (some ⟨G.c,0,none⟩),Grv (.tw [q]) (.slice none 0 0) vk vo at_ dd] w fun e w'=>∃ r G',e=.returned (.tuple #[.int .i64 r,.int .i64 0])∧Went w w' G G'∧SameG G G'∧TopR M0 ids L' c r G':=by
 obtain⟨j0,hj0,hy0,hy1,hy2⟩:=info_parts infoENs12
 obtain⟨ka,kc,hvk⟩:=hn.its.slice
 have hvk:vk=.slice ka 1 kc:=hvk
 subst hvk
 obtain⟨kb,ko,rfl,_⟩:=hn.its.at_ (i:=0) (x:=q) rfl
 obtain⟨oa,oc,hvo⟩:=ho.pgs.slice
 have hvo:vo=.slice oa 1 oc:=hvo
 subst hvo
 obtain⟨pb,po,rfl,hpc⟩:=ho.pgs.at_ (i:=0) (x:=p) rfl
 obtain⟨W,hW⟩:∃ W,W=w.alloc (.cells #[.int .i64 4,.slice none 0 0,.slice (some ⟨kb,ko,none⟩) 1 kc,.slice (some ⟨pb,po,none⟩) 1 oc,.int .i64 at_,.bool dd] 127):=⟨_,rfl⟩
 have b0:Below w.heap.size w W:=by rw[hW];exact below_new _ _
 have r0:W.heap[w.heap.size]?=some (.cells #[.int .i64 4,.slice none 0 0,.slice (some ⟨kb,ko,none⟩) 1 kc,.slice (some ⟨pb,po,none⟩) 1 oc,.int .i64 at_,.bool dd] 127 (0,0)):=by rw[hW];exact new_at _ _ _
 have HB0:=qh b0
 have HR0:=qh r0
 have HT:=qh T
 have HH:=qh h
 have HKd:=qh hn
 have hof:=ho.off pb rfl
 have HOf:=qh hof
 have HPc:=qh hpc
 have HSt:Hid (∀ W',Below W.heap.size W W'→W'.cell? ⟨w.heap.size,0,none⟩=some (.int .i64 4)∧W'.cell? ⟨w.heap.size,1,none⟩=some (.slice none 0 0)∧W'.cell? ⟨w.heap.size,2,none⟩=some (.slice (some ⟨kb,ko,none⟩) 1 kc)):=fun W' k=>by
  have r1:=P3.old_below HR0.out k
  exact⟨cell_at r1 0,cell_at r1 1,cell_at r1 2⟩
 have HC:Hid (∀ W',Below W.heap.size W W'→Calls Tryz.prog 97 #[.agg #[.int .i64 4,.slice none 0 0,.slice (some ⟨kb,ko,none⟩) 1 kc]] W' fun e w'=>e=.returned (.int .i64 (1:Nat))∧Below W.heap.size W w'):=fun W' k=>by
  have h9:=count_any W' none (.slice none 0 0) (.slice (some ⟨kb,ko,none⟩) 1 kc) (.tw [q]) ⟨rfl,HKd.out.keep ((FrT.of HB0.out).trans (FrT.of k))⟩ (Nat.le_of_ble_eq_true rfl)
  exact h9.mono fun e w' ⟨g1,g2⟩=>⟨g1,thenBelow k g2⟩
 have HL:Hid (∀ W',Below W.heap.size W W'→Calls Tryz.prog 98 #[.agg #[.int .i64 4,.slice none 0 0,.slice (some ⟨kb,ko,none⟩) 1 kc]] W' fun e w'=>e=.returned (.int .i64 (2:Nat))∧Below W.heap.size W w'):=fun W' k=>by
  have h9:=least_any W' (.slice none 0 0) (.slice (some ⟨kb,ko,none⟩) 1 kc) (.tw [q])
  exact h9.mono fun e w' ⟨g1,g2⟩=>⟨g1,thenBelow k g2⟩
 have HX:Hid (Below W.heap.size W W):=qh (Below.refl W.heap.size W)
 unfold Grv
 have ek:(Nd.tw [q]).kind=4:=rfl
 rw[ek]
 clear h hn ho T hof hpc b0 r0 ek
 go_enter Tryz.func89,Tryz.ntmps89
 go_upto_region 1 with fail
 rw[← hW]
 clear hW
 go_region_held3 (fun W'=>W'.cell? ⟨w.heap.size,0,none⟩=some (.int .i64 4)∧W'.cell? ⟨w.heap.size,1,none⟩=some (.slice none 0 0)∧W'.cell? ⟨w.heap.size,2,none⟩=some (.slice (some ⟨kb,ko,none⟩) 1 kc)) (first|(with_reducible exact HSt.out _ HX.out)|(with_reducible exact HSt.out _ HX.out.drew)|(with_reducible exact HSt.out _ HZ.out)|(with_reducible exact HSt.out _ HZ.out.drew))
  ((first
   | (go_at_call 97;(with_reducible refine (HC.out _ (by first|(with_reducible exact HZ.out)|(with_reducible exact HZ.out.drew)|(with_reducible exact HX.out)|(with_reducible exact HX.out.drew))).mono ?_);rintro e wz ⟨rfl,hz⟩;have HZ:=qh hz;clear hz)
   | (go_at_call 98;(with_reducible refine (HL.out _ (by first|(with_reducible exact HZ.out)|(with_reducible exact HZ.out.drew)|(with_reducible exact HX.out)|(with_reducible exact HX.out.drew))).mono ?_);rintro e wz ⟨rfl,hz⟩;have HZ:=qh hz;clear hz)))
 all_goals
  go_upto_region 2 with fail
  have wz0:=Went.below HH.out (thenBelow HB0.out HZ.out)
  have HWz:=qh wz0
  have hcl:=HH.out.lt (.inr (.inr (.inl rfl)))
  have HneO:Hid (G.vo.ownBlock≠some G.c):=fun e=>by
   obtain⟨cs,e2⟩:=row_kind HWz.out.at_.ch.ro e
   rw[HWz.out.at_.ch.obj] at e2
   cases e2
  have HneE:Hid (G.vo.ownBlock≠some w.heap.size):=fun e=>by
   have:=HH.out.lt (.inr (.inr (.inr (.inr (.inr e)))))
   omega
  have HneX:Hid (G.vo.ownBlock≠some pb):=fun e=>HOf.out.1 (.inr (.inr (.inr (.inr (.inr e)))))
  have hoe:G.c≠w.heap.size:=by omega
  have hox:G.c≠pb:=fun e=>HOf.out.1 (by rw[← e];exact .inr (.inr (.inl rfl)))
  have hrow:=wz0.at_.ch.ro
  have hob:=wz0.at_.ch.obj
  obtain⟨va,vc,e9⟩:∃ a c,G.vo=.slice a G.gone.length c:=by
   rcases hrow.2 with ⟨e,e2⟩|⟨g9,cap9,cur9,e,_⟩
   ·exact⟨none,0,by rw[show G.vo=_ from e,show G.gone.length=0 from e2]⟩
   ·exact⟨_,_,e⟩
  have HVo:=qh e9
  obtain⟨N,hN⟩:∃ n,n=G.gone.length:=⟨_,rfl⟩
  have HN:=qh hN
  rw[e9,← hN] at HneO HneE HneX hob hrow
  have HobW:=qh hob
  have HRowW:=qh hrow
  have HelW:=qh (P3.old_below HR0.out HZ.out)
  have hgl:N≤100000:=by have h1:=HT.out.gonel;have h2:=HT.out.cl;omega
  have hpl:pb < wz.heap.size:=Nat.lt_of_lt_of_le HOf.out.2 (thenBelow HB0.out HZ.out).size
  obtain⟨O,hO⟩:∃ O,wz.heap[pb]?=some O:=⟨_,Array.getElem?_eq_getElem hpl⟩
  have HxW:=qh hO
  have HXc:Hid (∀ W':World,W'.heap[pb]?=some O→W'.cell? ⟨pb,po+1,none⟩=some (.int .i64 p.id)):=fun W' hW'=>by
   have h1:=(HPc.out _ (thenBelow HB0.out HZ.out)).2.1
   rw[Nat.zero_mul,Nat.add_zero] at h1
   exact (World.cell?_of_block (a:=⟨pb,po+1,none⟩) (hW'.trans HxW.out.symm)).trans h1
  clear wz0 hcl e9 hN hrow hob hpl hO
  have hel0:=HelW.out
  have hob0:=HobW.out
  have eWd:wz.drew.heap[w.heap.size]?=some (.cells #[.int .i64 4,.slice none 0 0,.slice (some ⟨kb,ko,none⟩) 1 kc,.slice (some ⟨pb,po,none⟩) 1 oc,.int .i64 at_,.bool dd] 127 (0,0)):=hel0
  have oWd:wz.drew.heap[G.c]?=some (.cells #[.pointer (some ⟨G.s,0,none⟩),.string G.key,G.vm,G.vs,.slice va N vc] 76 (0,0)):=hob0
  have eWn:(wz.drew.alloc (.cells #[.int .i64 p.id] 3)).heap[w.heap.size]?=some (.cells #[.int .i64 4,.slice none 0 0,.slice (some ⟨kb,ko,none⟩) 1 kc,.slice (some ⟨pb,po,none⟩) 1 oc,.int .i64 at_,.bool dd] 127 (0,0)):=P3.old_alloc eWd _
  have oWn:(wz.drew.alloc (.cells #[.int .i64 p.id] 3)).heap[G.c]?=some (.cells #[.pointer (some ⟨G.s,0,none⟩),.string G.key,G.vm,G.vs,.slice va N vc] 76 (0,0)):=P3.old_alloc oWd _
  have HeWn:=qh eWn
  have HoWn:=qh oWn
  have HeWd:=qh eWd
  have cA1:=cell_at oWd 4
  have cA2:=cell_at oWn 4
  have cA3:=cell_at (P3.old_alloc hob0 (.cells #[.int .i64 p.id] 3)) 4
  simp only[qqD,qqE,qqF] at cA1 cA2 cA3
  clear hel0 hob0 eWd oWd eWn oWn
  have xW0:=HxW.out
  have xWd:wz.drew.heap[pb]?=some O:=xW0
  have xWn:(wz.drew.alloc (.cells #[.int .i64 p.id] 3)).heap[pb]?=some O:=P3.old_alloc xWd _
  have HxWd:=qh xWd
  have HxWn:=qh xWn
  clear xW0 xWd xWn
  refine wp_region_held_drew (S:=(fun W'=>W'.cell? ⟨w.heap.size,3,none⟩=some (.slice (some ⟨pb,po,none⟩) 1 oc)∧W'.cell? ⟨pb,po+1,none⟩=some (.int .i64 p.id))) (by kernel_rfl) ⟨cell_at HeWd.out 3,HXc.out _ HxWd.out⟩ (fun hHeld=>?_)
  refine tk 0 ?_
  refine tk 1 ?_
  refine tk 2 ?_
  refine tk 3 ?_
  refine tk 5 ?_
  refine tk 6 ?_
  refine tk 7 ?_
  refine tk 8 ?_
  refine tk 9 ?_
  refine do_two 4 10 rfl rfl (by kernel_rfl) (by rfl) (by rfl) (fun K hK=>?_) (fun K hK=>?_)
  ·go_simp
   refine hK.out _ _ ⟨cell_at HeWd.out 3,HXc.out _ HxWd.out⟩ (fun hHeld=>?_)
   clear hK K
   try simp only[Act.put,qqA,qqB,qqC]
   refine dOne 10 fun K hK=>?_
   go_simp
   refine hK.out _ _ ⟨cell_at HeWn.out 3,HXc.out _ HxWn.out⟩ (fun hHeld=>?_)
   clear hK K
   try simp only[Act.put,qqA,qqB,qqC]
   refine dOne 11 fun K hK=>?_
   refine wp_app (.tmp 25) (.tmp 31) 42 rfl 0 3 j0 (Value.int .i64 0) 1 8 Tryz.underlying42 hj0 hy0 hy1 hy2 rfl (by decide) (.slice va N vc) N (cellsZ G.gone) (by first|rfl|simp[Act.eval,Act.put]) (owns_below HRowW.out ((Below.refl _ _).drew.alloc (Nat.le_refl _) _)) (some ⟨wz.drew.heap.size,0,none⟩) 1 1 [.int .i64 p.id] (by first|rfl|simp[Act.eval,Act.put]) rfl (by intro X hX j u hu;cases hX;exact cells_new wz.drew [.int .i64 p.id] 3 j u hu) (fun e=>by cases e) (by intro u hu;simp only[List.mem_cons,List.not_mem_nil,or_false] at hu;first|(rcases hu with rfl|rfl|rfl|rfl|rfl|rfl|rfl|rfl <;> rfl)|(rcases hu with rfl|rfl|rfl|rfl <;> rfl)|(rcases hu with rfl|rfl <;> rfl)|(cases hu;rfl)) (by unfold maxLen;omega) (by omega) (by simp) ?_
   intro p1 s1 w2 hown2 hgrow2 hat2
   have HAD:Hid (AppD wz w2 0 3 1 (.slice va N vc) (.slice p1 (N+1:Nat) s1) N (cellsZ G.gone) [.int .i64 p.id]):=⟨hown2,hgrow2,hat2⟩
   have e2:w2.heap[w.heap.size]?=some (.cells #[.int .i64 4,.slice none 0 0,.slice (some ⟨kb,ko,none⟩) 1 kc,.slice (some ⟨pb,po,none⟩) 1 oc,.int .i64 at_,.bool dd] 127 (0,0)):=(hgrow2.block _ (lt_of_block HeWn.out) (fun e=>HneE.out e.symm)).trans HeWn.out
   have o2:w2.heap[G.c]?=some (.cells #[.pointer (some ⟨G.s,0,none⟩),.string G.key,G.vm,G.vs,.slice va N vc] 76 (0,0)):=(hgrow2.block _ (lt_of_block HoWn.out) (fun e=>HneO.out e.symm)).trans HoWn.out
   have He2:=qh e2
   have Ho2:=qh o2
   have x2:w2.heap[pb]?=some O:=(hgrow2.block _ (lt_of_block HxWn.out) (fun e=>HneX.out e.symm)).trans HxWn.out
   have Hx2:=qh x2
   clear x2
   clear hown2 hgrow2 hat2 e2 o2
   refine hK.out _ _ ⟨cell_at He2.out 3,HXc.out _ Hx2.out⟩ (fun hHeld=>?_)
   clear hK K
   try simp only[Act.put,qqA,qqB,qqC]
   refine tk 12 ?_
   refine tk 13 ?_
   refine dOne 14 fun K hK=>?_
   have q0:=cell_at Ho2.out 4
   simp only[qqD,qqE,qqF] at q0
   have q1:=free_at Ho2.out 4
   go_simp
   have e3:=P3.old_set He2.out (⟨G.c,4,none⟩:Addr) (Ne.symm hoe) (.slice p1 (N+1) s1)
   have He3:=qh e3
   clear e3
   have x3:=P3.old_set Hx2.out (⟨G.c,4,none⟩:Addr) (Ne.symm hox) (.slice p1 (N+1) s1)
   have Hx3:=qh x3
   clear x3
   refine hK.out _ _ ⟨cell_at He3.out 3,HXc.out _ Hx3.out⟩ (fun hHeld=>?_)
   clear hK K
   try simp only[Act.put,qqA,qqB,qqC]
   refine wpAnyH_done (by kernel_rfl) ?_ _
   clear q0 q1 cA1 cA2 cA3 hHeld
   have had:=HAD.out
   rw[HN.out,← HVo.out] at had
   have hgo:=HWz.out.at_.pushGone p.id had
   have hw2:=HWz.out.trans hgo
   have hbx:=(hgo.box HelW.out fun e=>by have:=HH.out.lt e;omega).1
   have hkd:=(HKd.out.keep HWz.out.ft).keep hgo.ft
   rw[← HN.out] at hw2 hbx hkd
   have HW2:=qh hw2
   obtain⟨_,_,e8,hkc⟩:=hkd.its.at_ (i:=0) (x:=q) rfl
   simp only[Option.some.injEq,Addr.mk.injEq,and_true] at e8
   obtain⟨rfl,rfl⟩:=e8
   have hk1:=(hkc _ (Below.refl _ _)).2
   rw[Nat.zero_mul,Nat.add_zero] at hk1
   have hk2:=cell_at hbx 2
   simp only[qqD,qqE,qqF] at hk2
   clear had hgo hw2 hbx hkd hkc
   go_wp2
   go_ret2
   exact⟨q.page,_,rfl,HW2.out,⟨rfl,rfl,rfl,rfl,rfl,rfl,rfl⟩,HT.out.low _⟩
  ·go_simp
   refine hK.out _ _ ⟨cell_at HeWn.out 3,HXc.out _ HxWn.out⟩ (fun hHeld=>?_)
   clear hK K
   try simp only[Act.put,qqA,qqB,qqC]
   refine dOne 4 fun K hK=>?_
   go_simp
   refine hK.out _ _ ⟨cell_at HeWn.out 3,HXc.out _ HxWn.out⟩ (fun hHeld=>?_)
   clear hK K
   try simp only[Act.put,qqA,qqB,qqC]
   refine dOne 11 fun K hK=>?_
   refine wp_app (.tmp 25) (.tmp 31) 42 rfl 0 3 j0 (Value.int .i64 0) 1 8 Tryz.underlying42 hj0 hy0 hy1 hy2 rfl (by decide) (.slice va N vc) N (cellsZ G.gone) (by first|rfl|simp[Act.eval,Act.put]) (owns_below HRowW.out ((Below.refl _ _).drew.alloc (Nat.le_refl _) _)) (some ⟨wz.drew.heap.size,0,none⟩) 1 1 [.int .i64 p.id] (by first|rfl|simp[Act.eval,Act.put]) rfl (by intro X hX j u hu;cases hX;exact cells_new wz.drew [.int .i64 p.id] 3 j u hu) (fun e=>by cases e) (by intro u hu;simp only[List.mem_cons,List.not_mem_nil,or_false] at hu;first|(rcases hu with rfl|rfl|rfl|rfl|rfl|rfl|rfl|rfl <;> rfl)|(rcases hu with rfl|rfl|rfl|rfl <;> rfl)|(rcases hu with rfl|rfl <;> rfl)|(cases hu;rfl)) (by unfold maxLen;omega) (by omega) (by simp) ?_
   intro p1 s1 w2 hown2 hgrow2 hat2
   have HAD:Hid (AppD wz w2 0 3 1 (.slice va N vc) (.slice p1 (N+1:Nat) s1) N (cellsZ G.gone) [.int .i64 p.id]):=⟨hown2,hgrow2,hat2⟩
   have e2:w2.heap[w.heap.size]?=some (.cells #[.int .i64 4,.slice none 0 0,.slice (some ⟨kb,ko,none⟩) 1 kc,.slice (some ⟨pb,po,none⟩) 1 oc,.int .i64 at_,.bool dd] 127 (0,0)):=(hgrow2.block _ (lt_of_block HeWn.out) (fun e=>HneE.out e.symm)).trans HeWn.out
   have o2:w2.heap[G.c]?=some (.cells #[.pointer (some ⟨G.s,0,none⟩),.string G.key,G.vm,G.vs,.slice va N vc] 76 (0,0)):=(hgrow2.block _ (lt_of_block HoWn.out) (fun e=>HneO.out e.symm)).trans HoWn.out
   have He2:=qh e2
   have Ho2:=qh o2
   have x2:w2.heap[pb]?=some O:=(hgrow2.block _ (lt_of_block HxWn.out) (fun e=>HneX.out e.symm)).trans HxWn.out
   have Hx2:=qh x2
   clear x2
   clear hown2 hgrow2 hat2 e2 o2
   refine hK.out _ _ ⟨cell_at He2.out 3,HXc.out _ Hx2.out⟩ (fun hHeld=>?_)
   clear hK K
   try simp only[Act.put,qqA,qqB,qqC]
   refine tk 12 ?_
   refine tk 13 ?_
   refine dOne 14 fun K hK=>?_
   have q0:=cell_at Ho2.out 4
   simp only[qqD,qqE,qqF] at q0
   have q1:=free_at Ho2.out 4
   go_simp
   have e3:=P3.old_set He2.out (⟨G.c,4,none⟩:Addr) (Ne.symm hoe) (.slice p1 (N+1) s1)
   have He3:=qh e3
   clear e3
   have x3:=P3.old_set Hx2.out (⟨G.c,4,none⟩:Addr) (Ne.symm hox) (.slice p1 (N+1) s1)
   have Hx3:=qh x3
   clear x3
   refine hK.out _ _ ⟨cell_at He3.out 3,HXc.out _ Hx3.out⟩ (fun hHeld=>?_)
   clear hK K
   try simp only[Act.put,qqA,qqB,qqC]
   refine wpAnyH_done (by kernel_rfl) ?_ _
   clear q0 q1 cA1 cA2 cA3 hHeld
   have had:=HAD.out
   rw[HN.out,← HVo.out] at had
   have hgo:=HWz.out.at_.pushGone p.id had
   have hw2:=HWz.out.trans hgo
   have hbx:=(hgo.box HelW.out fun e=>by have:=HH.out.lt e;omega).1
   have hkd:=(HKd.out.keep HWz.out.ft).keep hgo.ft
   rw[← HN.out] at hw2 hbx hkd
   have HW2:=qh hw2
   obtain⟨_,_,e8,hkc⟩:=hkd.its.at_ (i:=0) (x:=q) rfl
   simp only[Option.some.injEq,Addr.mk.injEq,and_true] at e8
   obtain⟨rfl,rfl⟩:=e8
   have hk1:=(hkc _ (Below.refl _ _)).2
   rw[Nat.zero_mul,Nat.add_zero] at hk1
   have hk2:=cell_at hbx 2
   simp only[qqD,qqE,qqF] at hk2
   clear had hgo hw2 hbx hkd hkc
   go_wp2
   go_ret2
   exact⟨q.page,_,rfl,HW2.out,⟨rfl,rfl,rfl,rfl,rfl,rfl,rfl⟩,HT.out.low _⟩
def slLen:Value→Nat
 | .slice _ n _=>n
 | _=>0
theorem flat_half{α:Type}:∀ {ls:List (List α)},(∀ m∈ls,2≤m.length)→2*ls.length≤ls.flatten.length
 | [],_=>Nat.le_refl _
 | m::ls,h=>by
  have h1:=flat_half (ls:=ls) fun x hx=>h x (List.mem_cons_of_mem _ hx)
  have h2:=h m List.mem_cons_self
  rw[List.flatten_cons,List.length_append,List.length_cons]
  omega
theorem parts_half{ks:List P10.It}{ps:List Nd}(h:PartsOf (.tw ks) ps):2*ps.length≤ks.length:=by
 obtain⟨ls,rfl,rfl,h2⟩:=h
 rw[List.length_map]
 exact flat_half fun m hm=>(h2 m hm).1
structure TLp (w wr:World) (M0:PM) (ids:List Int) (L':List It) (c:Nat) (G:Cg) (v:Value) (ks:List P10.It) (G':Cg) (e:Nat) (i:List Int):Prop where
 went:Went w wr G G'
 same:SameG G G'
 kd:KdT wr none v ks
 top:TopI M0 ids L' c e ks i G'
theorem TLp.keep{w wr:World}{M0:PM}{ids:List Int}{L':List It}{c:Nat}{G:Cg}{v:Value}{ks:List P10.It}{G':Cg}{e:Nat}{i:List Int}(h:TLp w wr M0 ids L' c G v ks G' e i)(hl:1 < ks.length)(W:World)(k:Below wr.heap.size wr W) :
  Calls Tryz.prog 103 #[.pointer (some ⟨G'.c,0,none⟩),.agg #[.int .i64 4,.slice none 0 0,v,.slice none 0 0,.int .i64 0,.bool false]] W fun x w'=>∃ v2 n a cp ks2 G2 i2,x=.returned (.tuple #[v2,.int .i64 0])∧v2=.slice a n cp∧n=ks2.length∧n < ks.length∧G2.c=G'.c∧TLp w w' M0 ids L' c G v2 ks2 G2 (e+1) i2:=by
 have hT:=h.top.next
 have hm:(Nd.tw ks).len=0∨(Nd.tw ks).least≤(Nd.tw ks).len:=.inr hl
 have ho:=hT.ok hm
 have hw:=h.went.then k
 refine (keep_any W G' (.tw ks) (.slice none 0 0) v (.slice none 0 0) [] 0 false hw.at_ ⟨rfl,h.kd.keep (FrT.of k)⟩ (OldIn.nil _ _) ho.fine ho.sorted ho.room ho.lens ho.fr ho.ids).mono ?_
 rintro x w' ⟨v2,ps,vl',vm',vs',vo',rfl,hk⟩
 obtain⟨iw,h1,h2⟩:=hT.kept hm ps vl' vm' vs' vo' hk.parts
 obtain⟨a,cp,hv⟩:=hk.own.its.slice
 have h3:=parts_half hk.parts
 exact⟨v2,_,a,cp,_,G'.kept vl' vm' vs' vo' (kfold (splitM G'.M ps.length []).1 0 ⟨G'.M,G'.sets,G'.made,[]⟩ ps) (splitM G'.M ps.length []).2,iw,rfl,hv,rfl,by omega,rfl,⟨hw.trans hk.went,h.same.trans (SameG.kept _ _ _ _ _ _ _),KdT.own hk.own (fun _ e=>by cases e),h1⟩⟩
theorem top_keep (w:World) (G:Cg) (M0:PM) (ids:List Int) (L':List It) (c d:Nat) (nd:Nd) (i':List Int) (olds:List Pg) (vi vk vo:Value) (at_:Int) (dd:Bool) (h:CAt w G) (hn:NdT w none vi vk nd) (ho:OldIn w G vo olds) (T:TopS M0 ids L' c d nd i' olds G)
  (hm:nd.len=0∨nd.least≤nd.len) (hz:nd.kind=4→nd.least≤nd.len) :
  Calls Tryz.prog 89 #[.pointer (some ⟨G.c,0,none⟩),Grv nd vi vk vo at_ dd] w fun e w'=>∃ r G',e=.returned (.tuple #[.int .i64 r,.int .i64 0])∧Went w w' G G'∧SameG G G'∧TopR M0 ids L' c r G':=by
 obtain⟨a1,n1,c1,a2,n2,c2,rfl,rfl,_⟩:=hn.lens
 obtain⟨oa,oc,rfl⟩:=ho.pgs.slice
 obtain⟨oN,hoN⟩:∃ n,n=olds.length:=⟨_,rfl⟩
 obtain⟨K,hK⟩:∃ k,k=nd.kind:=⟨_,rfl⟩
 obtain⟨W,hW⟩:∃ W,W=w.alloc (.cells #[.int .i64 nd.kind,.slice a1 n1 c1,.slice a2 n2 c2,.slice oa olds.length oc,.int .i64 at_,.bool dd] 127):=⟨_,rfl⟩
 have b0:Below w.heap.size w W:=by rw[hW];exact below_new _ _
 have r0:W.heap[w.heap.size]?=some (.cells #[.int .i64 nd.kind,.slice a1 n1 c1,.slice a2 n2 c2,.slice oa olds.length oc,.int .i64 at_,.bool dd] 127 (0,0)):=by rw[hW];exact new_at _ _ _
 have hko:=T.ok hm
 have hkp:∀ W',Below w.heap.size w W'→Calls Tryz.prog 103 #[.pointer (some ⟨G.c,0,none⟩),.agg #[.int .i64 nd.kind,.slice a1 n1 c1,.slice a2 n2 c2,.slice oa olds.length oc,.int .i64 at_,.bool dd]] W' fun x w'=>∃ v2 n a cp ks2 G2 e2 i2,x=.returned (.tuple #[v2,.int .i64 0])∧v2=.slice a n cp∧n=ks2.length∧G2.c=G.c∧TLp w w' M0 ids L' c G v2 ks2 G2 e2 i2:=fun W' k=>by
  have hw:=Went.below h k
  refine (keep_any W' G nd (.slice a1 n1 c1) (.slice a2 n2 c2) (.slice oa olds.length oc) olds at_ dd hw.at_ (hn.keep (FrT.of k)) (ho.went hw) hko.fine hko.sorted hko.room hko.lens hko.fr hko.ids).mono ?_
  rintro x w' ⟨v2,ps,vl',vm',vs',vo',rfl,hk⟩
  obtain⟨iw,h1,h2⟩:=T.kept hm ps vl' vm' vs' vo' hk.parts
  obtain⟨a,cp,hv⟩:=hk.own.its.slice
  exact⟨v2,_,a,cp,_,G.kept vl' vm' vs' vo' (kfold (splitM G.M ps.length olds).1 0 ⟨G.M,G.sets,G.made,[]⟩ ps) (splitM G.M ps.length olds).2,d,iw,rfl,hv,rfl,rfl,⟨hw.trans hk.went,SameG.kept _ _ _ _ _ _ _,KdT.own hk.own (fun _ e=>by cases e),h1⟩⟩
 have hct:∀ W',Below W.heap.size W W'→Calls Tryz.prog 97 #[.agg #[.int .i64 nd.kind,.slice a1 n1 c1,.slice a2 n2 c2]] W' fun e w'=>e=.returned (.int .i64 (nd.len:Nat))∧Below W.heap.size W w':=fun W' k=>by
  have h9:=count_any W' none (.slice a1 n1 c1) (.slice a2 n2 c2) nd (hn.keep ((FrT.of b0).trans (FrT.of k))) (by have:=hko.room;omega)
  exact h9.mono fun e w' ⟨g1,g2⟩=>⟨g1,thenBelow k g2⟩
 have hlt:∀ W',Below W.heap.size W W'→Calls Tryz.prog 98 #[.agg #[.int .i64 nd.kind,.slice a1 n1 c1,.slice a2 n2 c2]] W' fun e w'=>e=.returned (.int .i64 (nd.least:Nat))∧Below W.heap.size W w':=fun W' k=>by
  have h9:=least_any W' (.slice a1 n1 c1) (.slice a2 n2 c2) nd
  exact h9.mono fun e w' ⟨g1,g2⟩=>⟨g1,thenBelow k g2⟩
 obtain⟨n0,hn0⟩:∃ n,n=nd.len:=⟨_,rfl⟩
 obtain⟨ls,hls⟩:∃ n,n=nd.least:=⟨_,rfl⟩
 have hk34:K=3∨K=4:=by rw[hK];cases nd <;> simp[Nd.kind]
 unfold Grv
 rw[← hK,← hoN] at hkp hW r0
 rw[← hK] at hct hlt hz
 rw[← hn0] at hct hz
 rw[← hls] at hlt hz
 rw[← hK,← hoN]
 have HKp:=qh hkp
 have HCt:=qh hct
 have HLt:=qh hlt
 have HB0:=qh b0
 have HR0:=qh r0
 have HX:Hid (Below W.heap.size W W):=qh (Below.refl W.heap.size W)
 have HSt:Hid (∀ W',Below W.heap.size W W'→W'.cell? ⟨w.heap.size,0,none⟩=some (.int .i64 K)∧W'.cell? ⟨w.heap.size,1,none⟩=some (.slice a1 n1 c1)∧W'.cell? ⟨w.heap.size,2,none⟩=some (.slice a2 n2 c2)):=fun W' k=>by
  have r1:=P3.old_below HR0.out k
  exact⟨cell_at r1 0,cell_at r1 1,cell_at r1 2⟩
 clear hkp hct hlt hn0 hls hK hoN h hn ho T hm hko b0 r0
 rcases hk34 with rfl|rfl
 ·clear hz
  go_enter Tryz.func89,Tryz.ntmps89
  go_upto_region 1 with fail
  rw[← hW]
  clear hW
  have x0:=cell_at HR0.out 0
  simp only[qqD,qqE,qqF] at x0
  go_quiet (fail)
  clear x0
  obtain⟨wz,hwz⟩:∃ wz,wz=W.drewN nq:=⟨_,rfl⟩
  have HZ:Hid (Below W.heap.size W wz):=by rw[hwz];exact P3.below_drewN W _
  rw[← hwz]
  clear hwz
  have hr2:=P3.old_below HR0.out HZ.out
  have p0:=cell_at hr2 0
  have p1:=cell_at hr2 1
  have p2:=cell_at hr2 2
  have p3:=cell_at hr2 3
  have p4:=cell_at hr2 4
  have p5:=cell_at hr2 5
  simp only[qqD,qqE,qqF] at p0 p1 p2 p3 p4 p5
  clear hr2
  go_upto_region 5 with (go_at_call 103;(with_reducible refine (HKp.out _ (thenBelow HB0.out HZ.out)).mono ?_);rintro x wk ⟨v2,n2',a3,cp,ks2,G2,e2,i2,rfl,rfl,hn2,hgc,hl2⟩;have HL2:=qh hl2;have HN2:=qh hn2;have HGc:=qh hgc;clear hl2 hn2 hgc)
  clear p0 p1 p2 p3 p4 p5
  go_loopw [6,7] (fun vk ve wr=>∃ (n:Nat) (a:Option Addr) (cp:Nat) (ks:List P10.It) (G':Cg) (e:Nat) (i:List Int),vk=.slice a n cp∧ve=.int .i64 0∧Hid (n=ks.length)∧Hid (G'.c=G.c)∧Hid (TLp w wr M0 ids L' c G (.slice a n cp) ks G' e i)) (fun vk _ _=>slLen vk)
  case atStart=>exact⟨_,_,_,ks2,G2,e2,i2,rfl,rfl,HN2,HGc,HL2⟩
  case round=>
   clear HL2 HN2 HGc
   obtain⟨n,a,cp,ks,G',e,i,rfl,rfl,HN3,HG3,HL3⟩:=hrel
   by_cases h1:1 < n
   ·have k1:decide ((1:Int) < (n:Int))=true:=decide_eq_true (by omega)
    have k2:(1:Int) < (n:Int):=by omega
    have k3:decide (1 < n)=true:=decide_eq_true h1
    have hkk:=fun W' (k:Below wr.heap.size wr W')=>HL3.out.keep (by rw[← HN3.out];exact h1) W' k
    rw[HG3.out] at hkk
    have HKk:=qh hkk
    clear hkk h1
    go_wp2_with (first
     | (go_at_call 86;(with_reducible refine (ofKids_any _ _ _ _).mono ?_);rintro x w5 ⟨rfl,hb5⟩;have HB5:=qh hb5;clear hb5)
     | (go_at_call 103;(with_reducible refine (HKk.out _ (by first|exact HB5.out|exact Below.refl _ _)).mono ?_);rintro x w6 ⟨v3,n3,a3,cp3,ks3,G3,i3,rfl,rfl,hn3,hlt3,hgc3,hl3⟩;have HN4:=qh hn3;have HL4:=qh hl3;have HG4:=qh hgc3;have HLt4:=qh hlt3;clear hl3 hn3 hgc3 hlt3))
    go_roundw
    case rel=>exact⟨n3,a3,cp3,ks3,G3,e+1,i3,rfl,rfl,HN4,HG4,HL4⟩
    case measure=>
     show n3 < n
     have:=HLt4.out
     have:=HN3.out
     omega
   ·have k1:decide ((1:Int) < (n:Int))=false:=decide_eq_false (by omega)
    have k2:¬ ((1:Int) < (n:Int)):=by omega
    have k3:decide (1 < n)=false:=decide_eq_false h1
    have hks:=HN3.out
    cases ks with
    | nil=>
     obtain rfl:n=0:=hks
     have HR:=qh HL3.out.top.none
     have HWn:=qh HL3.out.went
     have HSm:=qh HL3.out.same
     clear HL3
     go_wp2
     go_ret2
     first
      | exact⟨0,G',rfl,HWn.out,HSm.out,HR.out⟩
      | exact⟨0,rfl,G',HWn.out,HSm.out,HR.out⟩
      | exact⟨0,G',rfl,HWn.out.then (Below.refl _ _).drew,HSm.out,HR.out⟩
      | exact⟨0,rfl,G',HWn.out.then (Below.refl _ _).drew,HSm.out,HR.out⟩
    | cons q r=>
     cases r with
     | cons _ _=>simp only[List.length_cons] at hks;omega
     | nil=>
      obtain rfl:n=1:=hks
      have HR:=qh HL3.out.top.one
      have HWn:=qh HL3.out.went
      have HSm:=qh HL3.out.same
      obtain⟨kb,ko,rfl,hc⟩:=HL3.out.kd.its.at_ (i:=0) (x:=q) rfl
      have c1':=(hc _ (Below.refl _ _)).2
      rw[Nat.zero_mul,Nat.add_zero] at c1'
      clear hc HL3
      go_wp2
      go_ret2
      first
       | exact⟨q.page,G',rfl,HWn.out,HSm.out,HR.out⟩
       | exact⟨q.page,rfl,G',HWn.out,HSm.out,HR.out⟩
       | exact⟨q.page,G',rfl,HWn.out.then (Below.refl _ _).drew,HSm.out,HR.out⟩
       | exact⟨q.page,rfl,G',HWn.out.then (Below.refl _ _).drew,HSm.out,HR.out⟩
 ·have hz:=hz rfl
  have e7:decide ((n0:Int) < (ls:Int))=false:=decide_eq_false (by omega)
  have e8:¬ ((n0:Int) < (ls:Int)):=by omega
  clear hz
  go_enter Tryz.func89,Tryz.ntmps89
  go_upto_region 1 with fail
  rw[← hW]
  clear hW
  go_region_held3 (fun W'=>W'.cell? ⟨w.heap.size,0,none⟩=some (.int .i64 4)∧W'.cell? ⟨w.heap.size,1,none⟩=some (.slice a1 n1 c1)∧W'.cell? ⟨w.heap.size,2,none⟩=some (.slice a2 n2 c2)) (first|(with_reducible exact HSt.out _ HX.out)|(with_reducible exact HSt.out _ HX.out.drew)|(with_reducible exact HSt.out _ HZ.out)|(with_reducible exact HSt.out _ HZ.out.drew))
   ((first
    | (go_at_call 97;(with_reducible refine (HCt.out _ (by first|(with_reducible exact HZ.out)|(with_reducible exact HZ.out.drew)|(with_reducible exact HX.out)|(with_reducible exact HX.out.drew))).mono ?_);rintro e wz ⟨rfl,hz⟩;have HZ:=qh hz;clear hz)
    | (go_at_call 98;(with_reducible refine (HLt.out _ (by first|(with_reducible exact HZ.out)|(with_reducible exact HZ.out.drew)|(with_reducible exact HX.out)|(with_reducible exact HX.out.drew))).mono ?_);rintro e wz ⟨rfl,hz⟩;have HZ:=qh hz;clear hz)))
  all_goals
   have hr2:=P3.old_below HR0.out HZ.out
   have p0:=cell_at hr2 0
   have p1:=cell_at hr2 1
   have p2:=cell_at hr2 2
   have p3:=cell_at hr2 3
   have p4:=cell_at hr2 4
   have p5:=cell_at hr2 5
   simp only[qqD,qqE,qqF] at p0 p1 p2 p3 p4 p5
   clear hr2
   go_upto_region 5 with (go_at_call 103;(with_reducible refine (HKp.out _ (thenBelow HB0.out HZ.out)).mono ?_);rintro x wk ⟨v2,n2',a3,cp,ks2,G2,e2,i2,rfl,rfl,hn2,hgc,hl2⟩;have HL2:=qh hl2;have HN2:=qh hn2;have HGc:=qh hgc;clear hl2 hn2 hgc)
   clear p0 p1 p2 p3 p4 p5
   go_loopw [6,7] (fun vk ve wr=>∃ (n:Nat) (a:Option Addr) (cp:Nat) (ks:List P10.It) (G':Cg) (e:Nat) (i:List Int),vk=.slice a n cp∧ve=.int .i64 0∧Hid (n=ks.length)∧Hid (G'.c=G.c)∧Hid (TLp w wr M0 ids L' c G (.slice a n cp) ks G' e i)) (fun vk _ _=>slLen vk)
   case atStart=>exact⟨_,_,_,ks2,G2,e2,i2,rfl,rfl,HN2,HGc,HL2⟩
   case round=>
    clear HL2 HN2 HGc
    obtain⟨n,a,cp,ks,G',e,i,rfl,rfl,HN3,HG3,HL3⟩:=hrel
    by_cases h1:1 < n
    ·have k1:decide ((1:Int) < (n:Int))=true:=decide_eq_true (by omega)
     have k2:(1:Int) < (n:Int):=by omega
     have k3:decide (1 < n)=true:=decide_eq_true h1
     have hkk:=fun W' (k:Below wr.heap.size wr W')=>HL3.out.keep (by rw[← HN3.out];exact h1) W' k
     rw[HG3.out] at hkk
     have HKk:=qh hkk
     clear hkk h1
     go_wp2_with (first
      | (go_at_call 86;(with_reducible refine (ofKids_any _ _ _ _).mono ?_);rintro x w5 ⟨rfl,hb5⟩;have HB5:=qh hb5;clear hb5)
      | (go_at_call 103;(with_reducible refine (HKk.out _ (by first|exact HB5.out|exact Below.refl _ _)).mono ?_);rintro x w6 ⟨v3,n3,a3,cp3,ks3,G3,i3,rfl,rfl,hn3,hlt3,hgc3,hl3⟩;have HN4:=qh hn3;have HL4:=qh hl3;have HG4:=qh hgc3;have HLt4:=qh hlt3;clear hl3 hn3 hgc3 hlt3))
     go_roundw
     case rel=>exact⟨n3,a3,cp3,ks3,G3,e+1,i3,rfl,rfl,HN4,HG4,HL4⟩
     case measure=>
      show n3 < n
      have:=HLt4.out
      have:=HN3.out
      omega
    ·have k1:decide ((1:Int) < (n:Int))=false:=decide_eq_false (by omega)
     have k2:¬ ((1:Int) < (n:Int)):=by omega
     have k3:decide (1 < n)=false:=decide_eq_false h1
     have hks:=HN3.out
     cases ks with
     | nil=>
      obtain rfl:n=0:=hks
      have HR:=qh HL3.out.top.none
      have HWn:=qh HL3.out.went
      have HSm:=qh HL3.out.same
      clear HL3
      go_wp2
      go_ret2
      first
       | exact⟨0,G',rfl,HWn.out,HSm.out,HR.out⟩
       | exact⟨0,rfl,G',HWn.out,HSm.out,HR.out⟩
       | exact⟨0,G',rfl,HWn.out.then (Below.refl _ _).drew,HSm.out,HR.out⟩
       | exact⟨0,rfl,G',HWn.out.then (Below.refl _ _).drew,HSm.out,HR.out⟩
     | cons q r=>
      cases r with
      | cons _ _=>simp only[List.length_cons] at hks;omega
      | nil=>
       obtain rfl:n=1:=hks
       have HR:=qh HL3.out.top.one
       have HWn:=qh HL3.out.went
       have HSm:=qh HL3.out.same
       obtain⟨kb,ko,rfl,hc⟩:=HL3.out.kd.its.at_ (i:=0) (x:=q) rfl
       have c1':=(hc _ (Below.refl _ _)).2
       rw[Nat.zero_mul,Nat.add_zero] at c1'
       clear hc HL3
       go_wp2
       go_ret2
       first
        | exact⟨q.page,G',rfl,HWn.out,HSm.out,HR.out⟩
        | exact⟨q.page,rfl,G',HWn.out,HSm.out,HR.out⟩
        | exact⟨q.page,G',rfl,HWn.out.then (Below.refl _ _).drew,HSm.out,HR.out⟩
        | exact⟨q.page,rfl,G',HWn.out.then (Below.refl _ _).drew,HSm.out,HR.out⟩
theorem top_any(w:World)(G:Cg)(M0:PM)(ids:List Int)(L':List It)(c d:Nat)(nd:Nd)(i':List Int)(olds:List Pg)(vi vk vo:Value)(at_:Int)(dd:Bool)(h:CAt w G)(hn:NdT w none vi vk nd)(ho:OldIn w G vo olds)(T:TopS M0 ids L' c d nd i' olds G)
  (hz:nd.kind=4→0 < nd.len∧olds.length=1) :
  Calls Tryz.prog 89 #[.pointer (some ⟨G.c,0,none⟩),Grv nd vi vk vo at_ dd] w fun e w'=>∃ r G',e=.returned (.tuple #[.int .i64 r,.int .i64 0])∧Went w w' G G'∧SameG G G'∧TopR M0 ids L' c r G':=by
 cases nd with
 | lf l=>
  refine top_keep w G M0 ids L' c d (.lf l) i' olds vi vk vo at_ dd h hn ho T ?_ (fun h=>by cases h)
  show l.length=0∨1≤l.length
  omega
 | tw ks=>
  obtain⟨h1,h2⟩:=hz rfl
  by_cases hk:2≤ks.length
  ·exact top_keep w G M0 ids L' c d (.tw ks) i' olds vi vk vo at_ dd h hn ho T (.inr hk) fun _=>hk
  ·have h1:0 < ks.length:=h1
   obtain⟨q,rfl⟩:∃ q,ks=[q]:=by
    match ks,h1,hk with
    | [q],_,_=>exact⟨q,rfl⟩
    | _::_::_,_,hk=>exact absurd (by simp) hk
   obtain⟨p,rfl⟩:∃ p,olds=[p]:=by
    match olds,h2 with
    | [p],_=>exact⟨p,rfl⟩
   obtain⟨rfl,hkd⟩:=hn
   exact top_low w G M0 ids L' c d q i' p vk vo at_ dd h hkd ho T
end Go.Proofs.YtjepgclnbbpnaaaGreat.P12
