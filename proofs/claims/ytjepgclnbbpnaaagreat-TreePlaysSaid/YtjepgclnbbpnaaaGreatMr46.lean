/-
  Texts of the proofs of SaidPlays12.
-/
import Derived.Test.YtjepgclnbbpnaaaGreatMr45
set_option linter.unusedVariables false
set_option linter.unusedSimpArgs false
set_option maxHeartbeats 8000000
set_option maxRecDepth 100000
namespace Go.Proofs.YtjepgclnbbpnaaaGreat.P12
open PK (qqA qqB qqC qqD qqE qqF tk tkS dOne qh)
open Go Go.RowKit Go.Lib PK
open P9 (It ItsIn cellsI OwnI RightI lowK lowK_le lowK_ahead lowK_at lowK_eq hasK hasK_iff hasK_not keysI kb kb_eq kb_irr lowK_hit putI dropI cellsI_length cellsI_ok cellsI_at rise_at mem_of_low)
theorem put_end(w:World)(b off c:Nat)(l:List It)(x:It)(h:ItsIn w (.slice (some ⟨b,off,none⟩) l.length c) l)(hc:l.length≤c)(hm:c≤9223372036854775807)(hl:l.length≤800000)(hr:RightI l)(hh:hasK l x.key=false)(hcn:c=lowK l x.key) :
  Calls Tryz.prog 13 #[.slice (some ⟨b,off,none⟩) l.length c,x.v] w fun e w'=>∃ v',e=.returned v'∧OwnI w.heap.size w' v' (putI l x)∧Below w.heap.size w w':=by
 obtain⟨i0,hi0,hz0,hz1,hz2⟩:=info_parts infoEItems
 have HA:=qh (fun (i:Nat) (y:It) (hi:l[i]?=some y)=>h.at_ hi)
 have HAh:=qh (fun j y=>lowK_ahead (l:=l) (k:=x.key) (j:=j) (y:=y))
 have hle:=lowK_le l x.key
 have HAt:=qh (fun y=>lowK_at (l:=l) (k:=x.key) (y:=y))
 have HNo:Hid (∀ y,l[lowK l x.key]?=some y→y.key≠x.key):=fun y hy e=>by
  rw[hasK_not] at hh
  exact hh (mem_of_low hy e)
 have HP:Hid (putI l x=l.take (lowK l x.key)++[x]++l.drop (lowK l x.key)):=by
  show putI l x=_
  unfold putI
  rw[if_neg (by rw[hh];simp)]
 obtain⟨A,hA⟩:∃ A,A=lowK l x.key:=⟨_,rfl⟩
 rw[← hA] at HAh hle HAt HP hcn HNo
 have HJn:Hid (Joins w l (some ⟨b,off,none⟩) c A (some ⟨b,off,none⟩) 0 0 (A)):=Joins.of hle (h.take hle) (its_drop_end h (n:=A) (by omega) 0 (fun _=>rfl))
 have HO1:=qh (its_one (l.take A))
 have HO3:=qh (its_one (l.drop (A)))
 obtain⟨w1,hw1⟩:∃ w1,w1=w.alloc (.cells #[.string x.key,.string x.val,.int .i64 x.kind] 29):=⟨_,rfl⟩
 have HB1:Hid (Below w.heap.size w w1):=by rw[hw1];exact below_new _ _
 have HZ:Hid (w1.heap[w.heap.size]?=some (.cells #[.string x.key,.string x.val,.int .i64 x.kind] 29 (0,0))):=by rw[hw1];exact new_at w _ _
 have HXb:Hid (∀ W:World,W.heap[w.heap.size]?=some (.cells #[.string x.key,.string x.val,.int .i64 x.kind] 29 (0,0))→W.cell? ⟨w.heap.size,0,none⟩=some (.string x.key)∧W.cell? ⟨w.heap.size,1,none⟩=some (.string x.val)∧W.cell? ⟨w.heap.size,2,none⟩=some (.int .i64 x.kind)):=fun W h=>⟨cell_at h 0,cell_at h 1,cell_at h 2⟩
 unfold P9.It.v
 clear h hr hh hA
 go_enter Tryz.func13,Tryz.ntmps13
 go_upto_region 1 with fail
 rw[← hw1]
 clear hw1
 go_wp2
 go_loopw [5] (fun vk wr=>∃ j:Nat,j≤A∧vk=.int .i64 j∧Hid (Below w1.heap.size w1 wr)) (fun vk _=>A - (RowKit.intOf vk).toNat)
 case atStart=>exact⟨0,Nat.zero_le _,rfl,Below.refl _ _⟩
 case round=>
  obtain⟨j,hj,rfl,HB⟩:=hrel
  have HBw:=qh (HB1.out.trans (HB.out.mono HB1.out.size))
  obtain⟨d0,d1,d2⟩:=HXb.out wr ((HB.out.block _ (lt_of_block HZ.out)).trans HZ.out)
  by_cases hlt:j < l.length
  ·obtain⟨y,hy⟩:∃ y,l[j]?=some y:=⟨_,List.getElem?_eq_getElem hlt⟩
   obtain⟨b',off',e,hcc⟩:=HA.out j y hy
   simp only[Option.some.injEq,Addr.mk.injEq,and_true] at e
   obtain⟨rfl,rfl⟩:=e
   obtain⟨c0,c1,c2⟩:=hcc wr HBw.out
   have k1:decide ((j:Int) < (l.length:Int))=true:=decide_eq_true (by omega)
   have k2:(j:Int) < (l.length:Int):=by omega
   have k3:(0:Int)≤(j:Int):=by omega
   by_cases hq:j < A
   ·have k4:Op.bytesLess y.key.toList x.key.toList=true:=HAh.out j y hq hy
    clear hcc hy
    go_upto_region 2 with fail
    go_quiet (fail)
    go_wp2
    go_roundw
    case rel=>exact⟨j+1,by omega,by go_num,thenBelow HB.out (drewN_below9 _ _)⟩
    case measure=>simp[RowKit.intOf];omega
   ·exfalso
    omega
  ·obtain rfl:j=A:=by omega
   have k1:decide ((j:Int) < (l.length:Int))=false:=decide_eq_false (by omega)
   subst hcn
   have s9:(c:Int)≤(c:Int):=by omega
   have s8:l.length - c=0:=by omega
   have s1:(c:Int)≤(c:Int):=by omega
   have s2:(c:Int)≤(l.length:Int):=by omega
   have s3:(l.length:Int)≤(c:Int):=by omega
   go_upto_region 2 with fail
   go_quiet (fail)
   obtain⟨n1,hn1⟩:∃ n,n=nq:=⟨_,rfl⟩
   rw[← hn1]
   clear hn1
   go_upto_region 5 with fail
   go_quiet (fail)
   go_upto_region 7 with fail
   have HBv:Hid (Below w.heap.size w ((wr.drewN n1).drewN nq)):=HBw.out.trans ⟨rfl,rfl,rfl,Nat.le_refl _,fun _ _=>rfl⟩
   have hxv:((wr.drewN n1).drewN nq).drew.heap[w.heap.size]?=some (.cells #[.string x.key,.string x.val,.int .i64 x.kind] 29 (0,0)):=(HB.out.block _ (lt_of_block HZ.out)).trans HZ.out
   obtain⟨V,hV⟩:∃ V,V=(wr.drewN n1).drewN nq:=⟨_,rfl⟩
   rw[← hV] at HBv hxv ⊢
   clear hV
   clear d0 d1 d2 HB HBw
   have HFin:Hid (∀ (w5:World) (v:Value),w5.ownsRow (w.heap.size+1) 29 3 v (c+1+(0)) ((cellsI (l.take c)).flatten++[.string x.key,.string x.val,.int .i64 x.kind]++(cellsI (l.drop (c))).flatten)→OwnI w.heap.size w5 v (putI l x)):=fun w5 v h=>by
    have e1:(cellsI (putI l x)).flatten=(cellsI (l.take c)).flatten++[.string x.key,.string x.val,.int .i64 x.kind]++(cellsI (l.drop (c))).flatten:=by rw[HP.out,its_app,its_app];simp[cellsI,P9.It.cells]
    have e2:(putI l x).length=c+1+(0):=by rw[HP.out];simp only[List.length_append,List.length_take,List.length_drop,List.length_singleton];omega
    refine⟨?_,by rw[e2];omega⟩
    rw[e1,e2]
    exact owns_lo h (by omega)
   refine wp_region_held_drew (S:=(fun W=>W.cell? ⟨w.heap.size,0,none⟩=some (.string x.key)∧W.cell? ⟨w.heap.size,1,none⟩=some (.string x.val)∧W.cell? ⟨w.heap.size,2,none⟩=some (.int .i64 x.kind))) (by kernel_rfl) (HXb.out _ hxv) (fun hHeld=>?_)
   refine tk 0 ?_
   refine tk 1 ?_
   refine tk 2 ?_
   refine tk 4 ?_
   refine tk 7 ?_
   refine do_two9 3 5 rfl rfl (by kernel_rfl) (by rfl) (by rfl) (fun K hK=>?_) (fun K hK=>?_)
   ·refine wp_app9 (.const (.slice none 0 0)) (.tmp 46) 27 rfl (w.heap.size+1) 29 i0 (Value.agg #[.string ⟨#[]⟩,.string ⟨#[]⟩,.int .i64 0]) 3 40 Tryz.underlying27 hi0 hz0 hz1 hz2 rfl (by decide) (.slice none 0 0) 0 [] (by rfl) (World.ownsRow_nil _ _ _ _) (some ⟨b,off,none⟩) c c (cellsI (l.take c)).flatten (by first|rfl|simp[Act.eval,Act.put]) HJn.out.f1 (HJn.out.n1 _ (HBv.out.trans (Below.refl _ _).drew)).1 (HJn.out.n1 _ (HBv.out.trans (Below.refl _ _).drew)).2 HO1.out (by unfold maxLen;omega) (by omega) (lt_of_block hxv) ?_
    intro p1 s1 w2 hown2 hgrow2 hat2
    rw[Nat.zero_add,List.nil_append] at hown2
    rw[Nat.zero_add]
    have HO2:=qh hown2
    have HB2:Hid (Below w.heap.size w w2):=((HBv.out.trans (Below.refl _ _).drew)).trans ⟨hgrow2.os,hgrow2.tape,hgrow2.output,hgrow2.size,fun q hq=>hgrow2.block q (Nat.lt_of_lt_of_le hq ((HBv.out.trans (Below.refl _ _).drew)).size) (by simp[Value.ownBlock])⟩
    have hx2:w2.heap[w.heap.size]?=some (.cells #[.string x.key,.string x.val,.int .i64 x.kind] 29 (0,0)):=(hgrow2.block _ (lt_of_block hxv) (by simp[Value.ownBlock])).trans hxv
    clear hown2 hgrow2 hat2
    refine hK.out _ _ (HXb.out _ hx2) (fun hHeld=>?_)
    clear hK K
    try simp only[Act.put,qqA,qqB,qqC]
    refine dOne 5 fun K hK=>?_
    go_simp
    have hx3:(w2.alloc (.cells #[.string x.key,.string x.val,.int .i64 x.kind] 29)).heap[w.heap.size]?=some (.cells #[.string x.key,.string x.val,.int .i64 x.kind] 29 (0,0)):=(Below.heap_alloc _ _ _ (lt_of_block hx2)).trans hx2
    refine hK.out _ _ (HXb.out _ hx3) (fun hHeld=>?_)
    clear hK K
    try simp only[Act.put,qqA,qqB,qqC]
    refine dOne 6 fun K hK=>?_
    refine wp_app9 (.tmp 47) (.tmp 49) 27 rfl (w.heap.size+1) 29 i0 (Value.agg #[.string ⟨#[]⟩,.string ⟨#[]⟩,.int .i64 0]) 3 40 Tryz.underlying27 hi0 hz0 hz1 hz2 rfl (by decide) (.slice p1 c s1) c (cellsI (l.take c)).flatten (by first|rfl|simp[Act.eval,Act.put]) (owns_below HO2.out (below_new _ _)) (some ⟨w2.heap.size,0,none⟩) 1 1 [.string x.key,.string x.val,.int .i64 x.kind] (by first|rfl|simp[Act.eval,Act.put]) rfl (by intro X hX j u hu;cases hX;exact cells_new w2 [.string x.key,.string x.val,.int .i64 x.kind] 29 j u hu) (fun e=>by cases e) (kItems.one _ ⟨_,_,_,rfl⟩) (by unfold maxLen;omega) (by omega) (lt_of_block hx3) ?_
    intro p4 s4 w4 hown4 hgrow4 hat4
    have HB4:Hid (Below w.heap.size w w4):=((HB2.out.trans ((below_new w2 (.cells #[.string x.key,.string x.val,.int .i64 x.kind] 29)).mono HB2.out.size))).grown hgrow4 ((HB2.out.trans ((below_new w2 (.cells #[.string x.key,.string x.val,.int .i64 x.kind] 29)).mono HB2.out.size))).size (fun q hq=>by have:=(HO2.out.lt q hq).1;omega)
    have hx4:w4.heap[w.heap.size]?=some (.cells #[.string x.key,.string x.val,.int .i64 x.kind] 29 (0,0)):=(hgrow4.block _ (lt_of_block hx3) (fun e=>by have:=(HO2.out.lt _ e.symm).1;omega)).trans hx3
    have HO4:Hid (w4.ownsRow (w.heap.size+1) 29 3 (.slice p4 (c+1:Nat) s4) (c+1) ((cellsI (l.take c)).flatten++[.string x.key,.string x.val,.int .i64 x.kind])):=hown4
    clear hown4 hgrow4 hat4
    refine hK.out _ _ (HXb.out _ hx4) (fun hHeld=>?_)
    clear hK K
    try simp only[Act.put,qqA,qqB,qqC]
    refine dOne 8 fun K hK=>?_
    refine wp_app9 (.tmp 50) (.tmp 51) 27 rfl (w.heap.size+1) 29 i0 (Value.agg #[.string ⟨#[]⟩,.string ⟨#[]⟩,.int .i64 0]) 3 40 Tryz.underlying27 hi0 hz0 hz1 hz2 rfl (by decide) (.slice p4 (c+1:Nat) s4) (c+1) ((cellsI (l.take c)).flatten++[.string x.key,.string x.val,.int .i64 x.kind]) (by first|rfl|simp[Act.eval,Act.put]) HO4.out (some ⟨b,off,none⟩) (0) (0) (cellsI (l.drop (c))).flatten (by first|rfl|simp[Act.eval,Act.put]) HJn.out.f3 (HJn.out.n3 _ HB4.out).1 (HJn.out.n3 _ HB4.out).2 HO3.out (by unfold maxLen;omega) (by omega) (lt_of_block hx4) ?_
    intro p5 s5 w5 hown5 hgrow5 hat5
    have HB5:Hid (Below w.heap.size w w5):=HB4.out.grown hgrow5 HB4.out.size (fun q hq=>by have:=(HO4.out.lt q hq).1;omega)
    have hx5:w5.heap[w.heap.size]?=some (.cells #[.string x.key,.string x.val,.int .i64 x.kind] 29 (0,0)):=(hgrow5.block _ (lt_of_block hx4) (fun e=>by have:=(HO4.out.lt _ e.symm).1;omega)).trans hx4
    have HO5:Hid (OwnI w.heap.size w5 (.slice p5 (c+1+(0):Nat) s5) (putI l x)):=HFin.out w5 _ hown5
    clear hown5 hgrow5 hat5
    refine hK.out _ _ (HXb.out _ hx5) (fun hHeld=>?_)
    clear hK K
    try simp only[Act.put,qqA,qqB,qqC]
    refine tk 9 ?_
    refine wpAnyH_done (by kernel_rfl) ?_ _
    go_wp2
    go_ret
    exact⟨_,rfl,HO5.out,HB5.out⟩
   ·go_simp
    have hx3:(V.drew.alloc (.cells #[.string x.key,.string x.val,.int .i64 x.kind] 29)).heap[w.heap.size]?=some (.cells #[.string x.key,.string x.val,.int .i64 x.kind] 29 (0,0)):=(Below.heap_alloc _ _ _ (lt_of_block hxv)).trans hxv
    have HBx:Hid (Below w.heap.size w (V.drew.alloc (.cells #[.string x.key,.string x.val,.int .i64 x.kind] 29))):=(HBv.out.trans (Below.refl _ _).drew).alloc (Nat.le_of_lt (lt_of_block hxv)) _
    refine hK.out _ _ (HXb.out _ hx3) (fun hHeld=>?_)
    clear hK K
    try simp only[Act.put,qqA,qqB,qqC]
    refine dOne 3 fun K hK=>?_
    refine wp_app9 (.const (.slice none 0 0)) (.tmp 46) 27 rfl (w.heap.size+1) 29 i0 (Value.agg #[.string ⟨#[]⟩,.string ⟨#[]⟩,.int .i64 0]) 3 40 Tryz.underlying27 hi0 hz0 hz1 hz2 rfl (by decide) (.slice none 0 0) 0 [] (by rfl) (World.ownsRow_nil _ _ _ _) (some ⟨b,off,none⟩) c c (cellsI (l.take c)).flatten (by first|rfl|simp[Act.eval,Act.put]) HJn.out.f1 (HJn.out.n1 _ HBx.out).1 (HJn.out.n1 _ HBx.out).2 HO1.out (by unfold maxLen;omega) (by omega) (lt_of_block hx3) ?_
    intro p1 s1 w2 hown2 hgrow2 hat2
    rw[Nat.zero_add,List.nil_append] at hown2
    rw[Nat.zero_add]
    have HO2:=qh hown2
    have HB2:Hid (Below w.heap.size w w2):=(HBx.out).trans ⟨hgrow2.os,hgrow2.tape,hgrow2.output,hgrow2.size,fun q hq=>hgrow2.block q (Nat.lt_of_lt_of_le hq (HBx.out).size) (by simp[Value.ownBlock])⟩
    have hx2:w2.heap[w.heap.size]?=some (.cells #[.string x.key,.string x.val,.int .i64 x.kind] 29 (0,0)):=(hgrow2.block _ (lt_of_block hx3) (by simp[Value.ownBlock])).trans hx3
    have HCx:Hid (∀ (j:Nat) (u:Value),([.string x.key,.string x.val,.int .i64 x.kind]:List Value)[j]?=some u→w2.cell? ((⟨V.heap.size,0,none⟩:Addr).add j)=some u):=fun j u hu=>by
     have h9:=cells_new V.drew [.string x.key,.string x.val,.int .i64 x.kind] 29 j u hu
     rw[Go.WideShapes.add_plain,Nat.zero_add] at h9 ⊢
     exact (World.cell?_of_block (hgrow2.block _ (by show V.heap.size < (V.drew.alloc (.cells #[.string x.key,.string x.val,.int .i64 x.kind] 29)).heap.size;simp) (by simp[Value.ownBlock]))).trans h9
    clear hown2 hgrow2 hat2
    refine hK.out _ _ (HXb.out _ hx2) (fun hHeld=>?_)
    clear hK K
    try simp only[Act.put,qqA,qqB,qqC]
    refine dOne 6 fun K hK=>?_
    refine wp_app9 (.tmp 47) (.tmp 49) 27 rfl (w.heap.size+1) 29 i0 (Value.agg #[.string ⟨#[]⟩,.string ⟨#[]⟩,.int .i64 0]) 3 40 Tryz.underlying27 hi0 hz0 hz1 hz2 rfl (by decide) (.slice p1 c s1) c (cellsI (l.take c)).flatten (by first|rfl|simp[Act.eval,Act.put]) HO2.out (some ⟨V.heap.size,0,none⟩) 1 1 [.string x.key,.string x.val,.int .i64 x.kind] (by first|rfl|simp[Act.eval,Act.put]) rfl (by intro X hX j u hu;cases hX;exact HCx.out j u hu) (fun e=>by cases e) (kItems.one _ ⟨_,_,_,rfl⟩) (by unfold maxLen;omega) (by omega) (lt_of_block hx2) ?_
    intro p4 s4 w4 hown4 hgrow4 hat4
    have HB4:Hid (Below w.heap.size w w4):=(HB2.out).grown hgrow4 (HB2.out).size (fun q hq=>by have:=(HO2.out.lt q hq).1;omega)
    have hx4:w4.heap[w.heap.size]?=some (.cells #[.string x.key,.string x.val,.int .i64 x.kind] 29 (0,0)):=(hgrow4.block _ (lt_of_block hx2) (fun e=>by have:=(HO2.out.lt _ e.symm).1;omega)).trans hx2
    have HO4:Hid (w4.ownsRow (w.heap.size+1) 29 3 (.slice p4 (c+1:Nat) s4) (c+1) ((cellsI (l.take c)).flatten++[.string x.key,.string x.val,.int .i64 x.kind])):=hown4
    clear hown4 hgrow4 hat4
    refine hK.out _ _ (HXb.out _ hx4) (fun hHeld=>?_)
    clear hK K
    try simp only[Act.put,qqA,qqB,qqC]
    refine dOne 8 fun K hK=>?_
    refine wp_app9 (.tmp 50) (.tmp 51) 27 rfl (w.heap.size+1) 29 i0 (Value.agg #[.string ⟨#[]⟩,.string ⟨#[]⟩,.int .i64 0]) 3 40 Tryz.underlying27 hi0 hz0 hz1 hz2 rfl (by decide) (.slice p4 (c+1:Nat) s4) (c+1) ((cellsI (l.take c)).flatten++[.string x.key,.string x.val,.int .i64 x.kind]) (by first|rfl|simp[Act.eval,Act.put]) HO4.out (some ⟨b,off,none⟩) (0) (0) (cellsI (l.drop (c))).flatten (by first|rfl|simp[Act.eval,Act.put]) HJn.out.f3 (HJn.out.n3 _ HB4.out).1 (HJn.out.n3 _ HB4.out).2 HO3.out (by unfold maxLen;omega) (by omega) (lt_of_block hx4) ?_
    intro p5 s5 w5 hown5 hgrow5 hat5
    have HB5:Hid (Below w.heap.size w w5):=HB4.out.grown hgrow5 HB4.out.size (fun q hq=>by have:=(HO4.out.lt q hq).1;omega)
    have hx5:w5.heap[w.heap.size]?=some (.cells #[.string x.key,.string x.val,.int .i64 x.kind] 29 (0,0)):=(hgrow5.block _ (lt_of_block hx4) (fun e=>by have:=(HO4.out.lt _ e.symm).1;omega)).trans hx4
    have HO5:Hid (OwnI w.heap.size w5 (.slice p5 (c+1+(0):Nat) s5) (putI l x)):=HFin.out w5 _ hown5
    clear hown5 hgrow5 hat5
    refine hK.out _ _ (HXb.out _ hx5) (fun hHeld=>?_)
    clear hK K
    try simp only[Act.put,qqA,qqB,qqC]
    refine tk 9 ?_
    refine wpAnyH_done (by kernel_rfl) ?_ _
    go_wp2
    go_ret
    exact⟨_,rfl,HO5.out,HB5.out⟩
theorem put_hit(w:World)(b off c:Nat)(l:List It)(x:It)(h:ItsIn w (.slice (some ⟨b,off,none⟩) l.length c) l)(hc:l.length≤c)(hm:c≤9223372036854775807)(hl:l.length≤800000)(hr:RightI l)(hh:hasK l x.key=true)(hcn:c≠lowK l x.key+1) :
  Calls Tryz.prog 13 #[.slice (some ⟨b,off,none⟩) l.length c,x.v] w fun e w'=>∃ v',e=.returned v'∧OwnI w.heap.size w' v' (putI l x)∧Below w.heap.size w w':=by
 obtain⟨i0,hi0,hz0,hz1,hz2⟩:=info_parts infoEItems
 have HA:=qh (fun (i:Nat) (y:It) (hi:l[i]?=some y)=>h.at_ hi)
 have HAh:=qh (fun j y=>lowK_ahead (l:=l) (k:=x.key) (j:=j) (y:=y))
 have hle:=lowK_le l x.key
 have HAt:=qh (fun y=>lowK_at (l:=l) (k:=x.key) (y:=y))
 have HYes:Hid (∀ y,l[lowK l x.key]?=some y→y.key=x.key):=fun y hy=>by
  obtain⟨z,hz,hk⟩:=lowK_hit hr (hasK_iff.1 hh)
  rw[hz] at hy
  obtain rfl:=Option.some.inj hy
  exact hk
 have hlt0:lowK l x.key < l.length:=by
  obtain⟨z,hz,hk⟩:=lowK_hit hr (hasK_iff.1 hh)
  exact (List.getElem?_eq_some_iff.1 hz).1
 have HP:Hid (putI l x=l.take (lowK l x.key)++[x]++l.drop (lowK l x.key+1)):=by
  show putI l x=_
  unfold putI
  rw[if_pos hh]
 obtain⟨A,hA⟩:∃ A,A=lowK l x.key:=⟨_,rfl⟩
 rw[← hA] at HAh hle HAt HP hcn HYes hlt0
 have HJn:Hid (Joins w l (some ⟨b,off,none⟩) c A (some ⟨b,off+(A+1)*3,none⟩) (l.length - (A+1)) (c - (A+1)) (A+1)):=Joins.of hle (h.take hle) (h.drop (n:=A+1) (by omega) (c - (A+1)))
 have HO1:=qh (its_one (l.take A))
 have HO3:=qh (its_one (l.drop (A+1)))
 obtain⟨w1,hw1⟩:∃ w1,w1=w.alloc (.cells #[.string x.key,.string x.val,.int .i64 x.kind] 29):=⟨_,rfl⟩
 have HB1:Hid (Below w.heap.size w w1):=by rw[hw1];exact below_new _ _
 have HZ:Hid (w1.heap[w.heap.size]?=some (.cells #[.string x.key,.string x.val,.int .i64 x.kind] 29 (0,0))):=by rw[hw1];exact new_at w _ _
 have HXb:Hid (∀ W:World,W.heap[w.heap.size]?=some (.cells #[.string x.key,.string x.val,.int .i64 x.kind] 29 (0,0))→W.cell? ⟨w.heap.size,0,none⟩=some (.string x.key)∧W.cell? ⟨w.heap.size,1,none⟩=some (.string x.val)∧W.cell? ⟨w.heap.size,2,none⟩=some (.int .i64 x.kind)):=fun W h=>⟨cell_at h 0,cell_at h 1,cell_at h 2⟩
 unfold P9.It.v
 clear h hr hh hA
 go_enter Tryz.func13,Tryz.ntmps13
 go_upto_region 1 with fail
 rw[← hw1]
 clear hw1
 go_wp2
 go_loopw [5] (fun vk wr=>∃ j:Nat,j≤A∧vk=.int .i64 j∧Hid (Below w1.heap.size w1 wr)) (fun vk _=>A - (RowKit.intOf vk).toNat)
 case atStart=>exact⟨0,Nat.zero_le _,rfl,Below.refl _ _⟩
 case round=>
  obtain⟨j,hj,rfl,HB⟩:=hrel
  have HBw:=qh (HB1.out.trans (HB.out.mono HB1.out.size))
  obtain⟨d0,d1,d2⟩:=HXb.out wr ((HB.out.block _ (lt_of_block HZ.out)).trans HZ.out)
  by_cases hlt:j < l.length
  ·obtain⟨y,hy⟩:∃ y,l[j]?=some y:=⟨_,List.getElem?_eq_getElem hlt⟩
   obtain⟨b',off',e,hcc⟩:=HA.out j y hy
   simp only[Option.some.injEq,Addr.mk.injEq,and_true] at e
   obtain⟨rfl,rfl⟩:=e
   obtain⟨c0,c1,c2⟩:=hcc wr HBw.out
   have k1:decide ((j:Int) < (l.length:Int))=true:=decide_eq_true (by omega)
   have k2:(j:Int) < (l.length:Int):=by omega
   have k3:(0:Int)≤(j:Int):=by omega
   by_cases hq:j < A
   ·have k4:Op.bytesLess y.key.toList x.key.toList=true:=HAh.out j y hq hy
    clear hcc hy
    go_upto_region 2 with fail
    go_quiet (fail)
    go_wp2
    go_roundw
    case rel=>exact⟨j+1,by omega,by go_num,thenBelow HB.out (drewN_below9 _ _)⟩
    case measure=>simp[RowKit.intOf];omega
   ·obtain rfl:j=A:=by omega
    have k4:Op.bytesLess y.key.toList x.key.toList=false:=HAt.out y hy
    have k5:(y.key.toList == x.key.toList)=true:=text_eq (HYes.out y hy)
    have s1:(j:Int)≤(c:Int):=by omega
    have s2:(j:Int)≤(l.length:Int):=by omega
    have s3:(l.length:Int)≤(c:Int):=by omega
    have s4:(j:Int)+1≤(l.length:Int):=by omega
    have s5:(0:Int)≤(j:Int)+1:=by omega
    have s6:IntKind.i64.wrap ((j:Int)+1)=(j:Int)+1:=by rw[IntKind.wrap_i64];omega
    have s7:((j:Int)+1).toNat=j+1:=by omega
    clear hcc hy hq
    go_upto_region 2 with fail
    go_quiet (fail)
    obtain⟨n1,hn1⟩:∃ n,n=nq:=⟨_,rfl⟩
    rw[← hn1]
    clear hn1
    go_upto_region 5 with fail
    go_quiet (fail)
    go_upto_region 7 with fail
    have HBv:Hid (Below w.heap.size w (wr.drewN (n1+nq))):=HBw.out.trans ⟨rfl,rfl,rfl,Nat.le_refl _,fun _ _=>rfl⟩
    have hxv:(wr.drewN (n1+nq)).drew.heap[w.heap.size]?=some (.cells #[.string x.key,.string x.val,.int .i64 x.kind] 29 (0,0)):=(HB.out.block _ (lt_of_block HZ.out)).trans HZ.out
    obtain⟨V,hV⟩:∃ V,V=wr.drewN (n1+nq):=⟨_,rfl⟩
    rw[← hV] at HBv hxv ⊢
    clear hV
    clear c0 c1 c2 d0 d1 d2 HB HBw
    have HFin:Hid (∀ (w5:World) (v:Value),w5.ownsRow (w.heap.size+1) 29 3 v (j+1+(l.length - (j+1))) ((cellsI (l.take j)).flatten++[.string x.key,.string x.val,.int .i64 x.kind]++(cellsI (l.drop (j+1))).flatten)→OwnI w.heap.size w5 v (putI l x)):=fun w5 v h=>by
     have e1:(cellsI (putI l x)).flatten=(cellsI (l.take j)).flatten++[.string x.key,.string x.val,.int .i64 x.kind]++(cellsI (l.drop (j+1))).flatten:=by rw[HP.out,its_app,its_app];simp[cellsI,P9.It.cells]
     have e2:(putI l x).length=j+1+(l.length - (j+1)):=by rw[HP.out];simp only[List.length_append,List.length_take,List.length_drop,List.length_singleton];omega
     refine⟨?_,by rw[e2];omega⟩
     rw[e1,e2]
     exact owns_lo h (by omega)
    refine wp_region_held_drew (S:=(fun W=>W.cell? ⟨w.heap.size,0,none⟩=some (.string x.key)∧W.cell? ⟨w.heap.size,1,none⟩=some (.string x.val)∧W.cell? ⟨w.heap.size,2,none⟩=some (.int .i64 x.kind))) (by kernel_rfl) (HXb.out _ hxv) (fun hHeld=>?_)
    refine tk 0 ?_
    refine tk 1 ?_
    refine tk 2 ?_
    refine tk 4 ?_
    refine tk 7 ?_
    refine do_two9 3 5 rfl rfl (by kernel_rfl) (by rfl) (by rfl) (fun K hK=>?_) (fun K hK=>?_)
    ·refine wp_app9 (.const (.slice none 0 0)) (.tmp 46) 27 rfl (w.heap.size+1) 29 i0 (Value.agg #[.string ⟨#[]⟩,.string ⟨#[]⟩,.int .i64 0]) 3 40 Tryz.underlying27 hi0 hz0 hz1 hz2 rfl (by decide) (.slice none 0 0) 0 [] (by rfl) (World.ownsRow_nil _ _ _ _) (some ⟨b,off,none⟩) j c (cellsI (l.take j)).flatten (by first|rfl|simp[Act.eval,Act.put]) HJn.out.f1 (HJn.out.n1 _ (HBv.out.trans (Below.refl _ _).drew)).1 (HJn.out.n1 _ (HBv.out.trans (Below.refl _ _).drew)).2 HO1.out (by unfold maxLen;omega) (by omega) (lt_of_block hxv) ?_
     intro p1 s1 w2 hown2 hgrow2 hat2
     rw[Nat.zero_add,List.nil_append] at hown2
     rw[Nat.zero_add]
     have HO2:=qh hown2
     have HB2:Hid (Below w.heap.size w w2):=((HBv.out.trans (Below.refl _ _).drew)).trans ⟨hgrow2.os,hgrow2.tape,hgrow2.output,hgrow2.size,fun q hq=>hgrow2.block q (Nat.lt_of_lt_of_le hq ((HBv.out.trans (Below.refl _ _).drew)).size) (by simp[Value.ownBlock])⟩
     have hx2:w2.heap[w.heap.size]?=some (.cells #[.string x.key,.string x.val,.int .i64 x.kind] 29 (0,0)):=(hgrow2.block _ (lt_of_block hxv) (by simp[Value.ownBlock])).trans hxv
     clear hown2 hgrow2 hat2
     refine hK.out _ _ (HXb.out _ hx2) (fun hHeld=>?_)
     clear hK K
     try simp only[Act.put,qqA,qqB,qqC]
     refine dOne 5 fun K hK=>?_
     go_simp
     have hx3:(w2.alloc (.cells #[.string x.key,.string x.val,.int .i64 x.kind] 29)).heap[w.heap.size]?=some (.cells #[.string x.key,.string x.val,.int .i64 x.kind] 29 (0,0)):=(Below.heap_alloc _ _ _ (lt_of_block hx2)).trans hx2
     refine hK.out _ _ (HXb.out _ hx3) (fun hHeld=>?_)
     clear hK K
     try simp only[Act.put,qqA,qqB,qqC]
     refine dOne 6 fun K hK=>?_
     refine wp_app9 (.tmp 47) (.tmp 49) 27 rfl (w.heap.size+1) 29 i0 (Value.agg #[.string ⟨#[]⟩,.string ⟨#[]⟩,.int .i64 0]) 3 40 Tryz.underlying27 hi0 hz0 hz1 hz2 rfl (by decide) (.slice p1 j s1) j (cellsI (l.take j)).flatten (by first|rfl|simp[Act.eval,Act.put]) (owns_below HO2.out (below_new _ _)) (some ⟨w2.heap.size,0,none⟩) 1 1 [.string x.key,.string x.val,.int .i64 x.kind] (by first|rfl|simp[Act.eval,Act.put]) rfl (by intro X hX j u hu;cases hX;exact cells_new w2 [.string x.key,.string x.val,.int .i64 x.kind] 29 j u hu) (fun e=>by cases e) (kItems.one _ ⟨_,_,_,rfl⟩) (by unfold maxLen;omega) (by omega) (lt_of_block hx3) ?_
     intro p4 s4 w4 hown4 hgrow4 hat4
     have HB4:Hid (Below w.heap.size w w4):=((HB2.out.trans ((below_new w2 (.cells #[.string x.key,.string x.val,.int .i64 x.kind] 29)).mono HB2.out.size))).grown hgrow4 ((HB2.out.trans ((below_new w2 (.cells #[.string x.key,.string x.val,.int .i64 x.kind] 29)).mono HB2.out.size))).size (fun q hq=>by have:=(HO2.out.lt q hq).1;omega)
     have hx4:w4.heap[w.heap.size]?=some (.cells #[.string x.key,.string x.val,.int .i64 x.kind] 29 (0,0)):=(hgrow4.block _ (lt_of_block hx3) (fun e=>by have:=(HO2.out.lt _ e.symm).1;omega)).trans hx3
     have HO4:Hid (w4.ownsRow (w.heap.size+1) 29 3 (.slice p4 (j+1:Nat) s4) (j+1) ((cellsI (l.take j)).flatten++[.string x.key,.string x.val,.int .i64 x.kind])):=hown4
     clear hown4 hgrow4 hat4
     refine hK.out _ _ (HXb.out _ hx4) (fun hHeld=>?_)
     clear hK K
     try simp only[Act.put,qqA,qqB,qqC]
     refine dOne 8 fun K hK=>?_
     refine wp_app9 (.tmp 50) (.tmp 51) 27 rfl (w.heap.size+1) 29 i0 (Value.agg #[.string ⟨#[]⟩,.string ⟨#[]⟩,.int .i64 0]) 3 40 Tryz.underlying27 hi0 hz0 hz1 hz2 rfl (by decide) (.slice p4 (j+1:Nat) s4) (j+1) ((cellsI (l.take j)).flatten++[.string x.key,.string x.val,.int .i64 x.kind]) (by first|rfl|simp[Act.eval,Act.put]) HO4.out (some ⟨b,off+(j+1)*3,none⟩) (l.length - (j+1)) (c - (j+1)) (cellsI (l.drop (j+1))).flatten (by first|rfl|simp[Act.eval,Act.put]) HJn.out.f3 (HJn.out.n3 _ HB4.out).1 (HJn.out.n3 _ HB4.out).2 HO3.out (by unfold maxLen;omega) (by omega) (lt_of_block hx4) ?_
     intro p5 s5 w5 hown5 hgrow5 hat5
     have HB5:Hid (Below w.heap.size w w5):=HB4.out.grown hgrow5 HB4.out.size (fun q hq=>by have:=(HO4.out.lt q hq).1;omega)
     have hx5:w5.heap[w.heap.size]?=some (.cells #[.string x.key,.string x.val,.int .i64 x.kind] 29 (0,0)):=(hgrow5.block _ (lt_of_block hx4) (fun e=>by have:=(HO4.out.lt _ e.symm).1;omega)).trans hx4
     have HO5:Hid (OwnI w.heap.size w5 (.slice p5 (j+1+(l.length - (j+1)):Nat) s5) (putI l x)):=HFin.out w5 _ hown5
     clear hown5 hgrow5 hat5
     refine hK.out _ _ (HXb.out _ hx5) (fun hHeld=>?_)
     clear hK K
     try simp only[Act.put,qqA,qqB,qqC]
     refine tk 9 ?_
     refine wpAnyH_done (by kernel_rfl) ?_ _
     go_wp2
     go_ret
     exact⟨_,rfl,HO5.out,HB5.out⟩
    ·go_simp
     have hx3:(V.drew.alloc (.cells #[.string x.key,.string x.val,.int .i64 x.kind] 29)).heap[w.heap.size]?=some (.cells #[.string x.key,.string x.val,.int .i64 x.kind] 29 (0,0)):=(Below.heap_alloc _ _ _ (lt_of_block hxv)).trans hxv
     have HBx:Hid (Below w.heap.size w (V.drew.alloc (.cells #[.string x.key,.string x.val,.int .i64 x.kind] 29))):=(HBv.out.trans (Below.refl _ _).drew).alloc (Nat.le_of_lt (lt_of_block hxv)) _
     refine hK.out _ _ (HXb.out _ hx3) (fun hHeld=>?_)
     clear hK K
     try simp only[Act.put,qqA,qqB,qqC]
     refine dOne 3 fun K hK=>?_
     refine wp_app9 (.const (.slice none 0 0)) (.tmp 46) 27 rfl (w.heap.size+1) 29 i0 (Value.agg #[.string ⟨#[]⟩,.string ⟨#[]⟩,.int .i64 0]) 3 40 Tryz.underlying27 hi0 hz0 hz1 hz2 rfl (by decide) (.slice none 0 0) 0 [] (by rfl) (World.ownsRow_nil _ _ _ _) (some ⟨b,off,none⟩) j c (cellsI (l.take j)).flatten (by first|rfl|simp[Act.eval,Act.put]) HJn.out.f1 (HJn.out.n1 _ HBx.out).1 (HJn.out.n1 _ HBx.out).2 HO1.out (by unfold maxLen;omega) (by omega) (lt_of_block hx3) ?_
     intro p1 s1 w2 hown2 hgrow2 hat2
     rw[Nat.zero_add,List.nil_append] at hown2
     rw[Nat.zero_add]
     have HO2:=qh hown2
     have HB2:Hid (Below w.heap.size w w2):=(HBx.out).trans ⟨hgrow2.os,hgrow2.tape,hgrow2.output,hgrow2.size,fun q hq=>hgrow2.block q (Nat.lt_of_lt_of_le hq (HBx.out).size) (by simp[Value.ownBlock])⟩
     have hx2:w2.heap[w.heap.size]?=some (.cells #[.string x.key,.string x.val,.int .i64 x.kind] 29 (0,0)):=(hgrow2.block _ (lt_of_block hx3) (by simp[Value.ownBlock])).trans hx3
     have HCx:Hid (∀ (j:Nat) (u:Value),([.string x.key,.string x.val,.int .i64 x.kind]:List Value)[j]?=some u→w2.cell? ((⟨V.heap.size,0,none⟩:Addr).add j)=some u):=fun j u hu=>by
      have h9:=cells_new V.drew [.string x.key,.string x.val,.int .i64 x.kind] 29 j u hu
      rw[Go.WideShapes.add_plain,Nat.zero_add] at h9 ⊢
      exact (World.cell?_of_block (hgrow2.block _ (by show V.heap.size < (V.drew.alloc (.cells #[.string x.key,.string x.val,.int .i64 x.kind] 29)).heap.size;simp) (by simp[Value.ownBlock]))).trans h9
     clear hown2 hgrow2 hat2
     refine hK.out _ _ (HXb.out _ hx2) (fun hHeld=>?_)
     clear hK K
     try simp only[Act.put,qqA,qqB,qqC]
     refine dOne 6 fun K hK=>?_
     refine wp_app9 (.tmp 47) (.tmp 49) 27 rfl (w.heap.size+1) 29 i0 (Value.agg #[.string ⟨#[]⟩,.string ⟨#[]⟩,.int .i64 0]) 3 40 Tryz.underlying27 hi0 hz0 hz1 hz2 rfl (by decide) (.slice p1 j s1) j (cellsI (l.take j)).flatten (by first|rfl|simp[Act.eval,Act.put]) HO2.out (some ⟨V.heap.size,0,none⟩) 1 1 [.string x.key,.string x.val,.int .i64 x.kind] (by first|rfl|simp[Act.eval,Act.put]) rfl (by intro X hX j u hu;cases hX;exact HCx.out j u hu) (fun e=>by cases e) (kItems.one _ ⟨_,_,_,rfl⟩) (by unfold maxLen;omega) (by omega) (lt_of_block hx2) ?_
     intro p4 s4 w4 hown4 hgrow4 hat4
     have HB4:Hid (Below w.heap.size w w4):=(HB2.out).grown hgrow4 (HB2.out).size (fun q hq=>by have:=(HO2.out.lt q hq).1;omega)
     have hx4:w4.heap[w.heap.size]?=some (.cells #[.string x.key,.string x.val,.int .i64 x.kind] 29 (0,0)):=(hgrow4.block _ (lt_of_block hx2) (fun e=>by have:=(HO2.out.lt _ e.symm).1;omega)).trans hx2
     have HO4:Hid (w4.ownsRow (w.heap.size+1) 29 3 (.slice p4 (j+1:Nat) s4) (j+1) ((cellsI (l.take j)).flatten++[.string x.key,.string x.val,.int .i64 x.kind])):=hown4
     clear hown4 hgrow4 hat4
     refine hK.out _ _ (HXb.out _ hx4) (fun hHeld=>?_)
     clear hK K
     try simp only[Act.put,qqA,qqB,qqC]
     refine dOne 8 fun K hK=>?_
     refine wp_app9 (.tmp 50) (.tmp 51) 27 rfl (w.heap.size+1) 29 i0 (Value.agg #[.string ⟨#[]⟩,.string ⟨#[]⟩,.int .i64 0]) 3 40 Tryz.underlying27 hi0 hz0 hz1 hz2 rfl (by decide) (.slice p4 (j+1:Nat) s4) (j+1) ((cellsI (l.take j)).flatten++[.string x.key,.string x.val,.int .i64 x.kind]) (by first|rfl|simp[Act.eval,Act.put]) HO4.out (some ⟨b,off+(j+1)*3,none⟩) (l.length - (j+1)) (c - (j+1)) (cellsI (l.drop (j+1))).flatten (by first|rfl|simp[Act.eval,Act.put]) HJn.out.f3 (HJn.out.n3 _ HB4.out).1 (HJn.out.n3 _ HB4.out).2 HO3.out (by unfold maxLen;omega) (by omega) (lt_of_block hx4) ?_
     intro p5 s5 w5 hown5 hgrow5 hat5
     have HB5:Hid (Below w.heap.size w w5):=HB4.out.grown hgrow5 HB4.out.size (fun q hq=>by have:=(HO4.out.lt q hq).1;omega)
     have hx5:w5.heap[w.heap.size]?=some (.cells #[.string x.key,.string x.val,.int .i64 x.kind] 29 (0,0)):=(hgrow5.block _ (lt_of_block hx4) (fun e=>by have:=(HO4.out.lt _ e.symm).1;omega)).trans hx4
     have HO5:Hid (OwnI w.heap.size w5 (.slice p5 (j+1+(l.length - (j+1)):Nat) s5) (putI l x)):=HFin.out w5 _ hown5
     clear hown5 hgrow5 hat5
     refine hK.out _ _ (HXb.out _ hx5) (fun hHeld=>?_)
     clear hK K
     try simp only[Act.put,qqA,qqB,qqC]
     refine tk 9 ?_
     refine wpAnyH_done (by kernel_rfl) ?_ _
     go_wp2
     go_ret
     exact⟨_,rfl,HO5.out,HB5.out⟩
  ·exfalso
   omega
end Go.Proofs.YtjepgclnbbpnaaaGreat.P12
