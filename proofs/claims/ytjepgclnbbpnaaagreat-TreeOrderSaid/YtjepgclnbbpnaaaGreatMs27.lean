/-
  Texts of the proofs of SaidOrd12.
-/
import Derived.Test.YtjepgclnbbpnaaaGreatMs26
set_option linter.unusedVariables false
set_option linter.unusedSimpArgs false
set_option maxHeartbeats 8000000
set_option maxRecDepth 100000
namespace Go.Proofs.YtjepgclnbbpnaaaGreat.P12
open PK (qqA qqB qqC qqD qqE qqF tk tkS dOne qh)
open Go Go.RowKit Go.Lib PK
open P11 (Pg kPages infoEPages infoENs cellsP cellsP_length cellsP_ok cellsP_at cellsP_snoc PgsIn owns_pgs NsIn)
structure FrS (w:World) (b:Nat) (vl vg vg':Value) (M:PM) (wr:World):Prop where
 pa:PAt wr b vl vg' M
 fr:P3.Fr (PS b vl vg) w wr
 own:∀ j,vg'.ownBlock=some j→vg.ownBlock=some j∨w.heap.size≤j
theorem FrS.over{w wr w':World}{b:Nat}{vl vg vg':Value}{M:PM}(h:FrS w b vl vg vg' M wr)(k:Below wr.heap.size wr w'):FrS w b vl vg vg' M w':=⟨h.pa.below k,h.fr.trans (P3.Fr.of k),h.own⟩
theorem FrS.twice{w wr:World}{b:Nat}{vl vg vg':Value}{M:PM}(h:FrS w b vl vg vg' M wr)(t:Bool):FrS w b vl vg vg' { M with twice:=t } (wr.setCell ⟨b,4,none⟩ (.bool t)):=by
 obtain⟨h1,h2⟩:=h.pa.setTwice t
 exact⟨h1,h.fr.trans (h2.mono fun j _ e=>.inl e),h.own⟩
theorem FrS.gave{w wr W w3:World}{b:Nat}{vl vg vg' v2:Value}{M:PM}{id:Int}(h:FrS w b vl vg vg' M wr)(k:Below wr.heap.size wr W)(hown:w3.ownsRow (b+1) 3 1 v2 (M.given.length+1) (cellsZ M.given++[.int .i64 id]))
  (hg:W.grownBy w3 vg'.ownBlock) (hat:v2.ownBlock=vg'.ownBlock∨v2.ownBlock=some W.heap.size):FrS w b vl vg v2 { M with given:=M.given++[id] } (w3.setCell ⟨b,2,none⟩ v2):=by
 obtain⟨h1,h2,h3⟩:=h.pa.gave k hown hg hat
 refine⟨h1,⟨h2.os.trans h.fr.os,h2.tape.trans h.fr.tape,h2.output.trans h.fr.output,Nat.le_trans h.fr.size h2.size,fun j hj hn=>?_⟩,fun j e=>?_⟩
 ·refine (h2.block j (Nat.lt_of_lt_of_le hj h.fr.size) fun q=>hn ?_).trans (h.fr.block j hj hn)
  rcases q with q|q|q
  ·exact .inl q
  ·exact .inr (.inl q)
  ·rcases h.own j q with r|r
   ·exact .inr (.inr r)
   ·omega
 ·rcases h3 j e with q|q
  ·exact h.own j q
  ·exact .inr (Nat.le_trans h.fr.size q)
theorem free_any(w:World)(b:Nat)(vl vg v:Value)(M:PM)(ids:List Int)(h:PAt w b vl vg M)(hv:∀ w',P3.Fr (PS b vl vg) w w'→NsIn w' v ids)(hl:M.given.length+ids.length≤100000) :
  Calls Tryz.prog 179 #[.pointer (some ⟨b,0,none⟩),v] w fun e w'=>∃ vg',e=.returned (.tuple #[])∧FrS w b vl vg vg' (M.free ids) w':=by
 obtain⟨i0,hi0,hz0,hz1,hz2⟩:=info_parts infoENs
 obtain⟨a,c,rfl⟩:=(hv w (P3.Fr.refl _ _)).slice
 have HV:=qh hv
 have H0:Hid (FrS w b vl vg vg (M.free (ids.take 0)) w):=⟨h,P3.Fr.refl _ _,fun j e=>.inl e⟩
 have HL:=qh hl
 clear h hv hl
 go_enter Tryz.func179,Tryz.ntmps179
 go_wp2
 go_loopw [4] (fun vi wr=>∃ (i:Nat) (vg':Value),i≤ids.length∧vi=.int .i64 i∧Hid (FrS w b vl vg vg' (M.free (ids.take i)) wr)) (fun vi _=>ids.length - (RowKit.intOf vi).toNat)
 case atStart=>exact⟨0,vg,Nat.zero_le _,rfl,H0⟩
 case round=>
  clear H0
  obtain⟨i,vg',hi,rfl,HS⟩:=hrel
  by_cases hlt:i < ids.length
  ·obtain⟨id,hid⟩:∃ id,ids[i]?=some id:=⟨_,List.getElem?_eq_getElem hlt⟩
   have k1:decide ((i:Int) < (ids.length:Int))=true:=decide_eq_true (by omega)
   have k2:(i:Int) < (ids.length:Int):=by omega
   have k3:(0:Int)≤(i:Int):=by omega
   have HId:=qh hid
   obtain⟨bi,oi,rfl,-⟩:=(HV.out wr HS.out.fr).at_ hid
   have HC:Hid (∀ W,P3.Fr (PS b vl vg) w W→W.cell? ⟨bi,oi+i,none⟩=some (.int .i64 id)):=fun W hW=>by
    obtain⟨b2,o2,e,hc⟩:=(HV.out W hW).at_ HId.out
    simp only[Option.some.injEq,Addr.mk.injEq,and_true] at e
    obtain⟨rfl,rfl⟩:=e
    exact hc W (Below.refl _ _)
   have HNx:Hid (M.free (ids.take (i+1))=(M.free (ids.take i)).free1 id):=by
    show _=_
    rw[List.take_add_one,HId.out]
    exact PM.free_snoc _ _ _
   have HGl:Hid ((M.free (ids.take i)).given.length≤100000):=by
    show _≤_
    rw[PM.free_len,List.length_append,List.length_take]
    have:=HL.out
    omega
   obtain⟨M1,hM1⟩:∃ M1,M1=M.free (ids.take i):=⟨_,rfl⟩
   rw[← hM1] at HS HNx HGl
   obtain⟨ga,gc,rfl⟩:=HS.out.pa.gslice
   have HS0:Hid (FrS w b vl vg (.slice ga M1.given.length gc) { M1 with twice:=M1.twice || (M1.given.take 0).any (· == id) } wr):=by
    have:=HS.out
    show FrS _ _ _ _ _ _ _
    simpa using this
   have hgl:M1.given.length≤100000:=HGl.out
   have hil:ids.length≤100000:=by have:=HL.out;omega
   clear hid hM1 HS
   go_wp2
   go_loopw [5] (fun vk wx=>∃ k:Nat,k≤M1.given.length∧vk=.int .i64 k∧Hid (FrS w b vl vg (.slice ga M1.given.length gc) { M1 with twice:=M1.twice || (M1.given.take k).any (· == id) } wx)) (fun vk _=>M1.given.length - (RowKit.intOf vk).toNat)
   case atStart=>exact⟨0,Nat.zero_le _,rfl,HS0⟩
   case round=>
    clear HS0
    obtain⟨k,hk,rfl,HS⟩:=hrel
    obtain⟨c0,c1,c2,c3,c4,c5⟩:=HS.out.pa.cells
    by_cases hkl:k < M1.given.length
    ·obtain⟨x,hx⟩:∃ x,M1.given[k]?=some x:=⟨_,List.getElem?_eq_getElem hkl⟩
     have HTk:Hid ((M1.twice || (M1.given.take (k+1)).any (· == id))=((M1.twice || (M1.given.take k).any (· == id)) || (x == id))):=by
      show _=_
      rw[List.take_add_one,hx]
      simp[Bool.or_assoc]
     have HGc:Hid (∃ g,ga=some ⟨g,0,none⟩∧∀ W t,FrS w b vl vg (.slice ga M1.given.length gc) { M1 with twice:=t } W→W.cell? ⟨g,k,none⟩=some (.int .i64 x)):=by
      obtain⟨g,cap,e,-,-⟩:=HS.out.pa.rg.form (by show 0 < M1.given.length;omega)
      simp only[Value.slice.injEq] at e
      obtain⟨rfl,-,rfl⟩:=e
      exact⟨g,rfl,fun W t hW=>by rw[World.ownsRow.cellAt (h:=hW.pa.rg) k (by show k < M1.given.length*1;omega)];exact cellsZ_at hx⟩
     obtain⟨g,rfl,hgc⟩:=HGc.out
     have HG2:=qh hgc
     have q1:decide ((k:Int) < (M1.given.length:Int))=true:=decide_eq_true (by omega)
     have q2:(k:Int) < (M1.given.length:Int):=by omega
     have q3:(0:Int)≤(k:Int):=by omega
     clear hx hgc HGc
     obtain⟨T,hT⟩:∃ T,T=(M1.twice || (M1.given.take k).any (· == id)):=⟨_,rfl⟩
     rw[← hT] at HS HTk
     have c4':wr.cell? ⟨b,4,none⟩=some (.bool T):=by rw[hT];exact c4
     have f4:=free_at HS.out.pa.obj 4
     have HSd:Hid (FrS w b vl vg (.slice (some ⟨g,0,none⟩) M1.given.length gc) { M1 with twice:=T } wr.drew):=HS.out.over ((Below.refl _ _).drew)
     have r1:=HG2.out _ _ HSd.out
     have r2:=HC.out _ HSd.out.fr
     have r3:=HSd.out.pa.cells.2.2.1
     clear hT c0 c1 c3 c4 c5
     go_upto_region 6 with fail
     cases T with
     | true=>
      refine wp_region_held_drew (S:=(fun W=>W.cell? ⟨b,2,none⟩=some (.slice (some ⟨g,0,none⟩) M1.given.length gc)∧W.cell? ⟨g,k,none⟩=some (.int .i64 x)∧W.cell? ⟨bi,oi+i,none⟩=some (.int .i64 id))) (by kernel_rfl) ⟨r3,r1,r2⟩ (fun hHeld=>?_)
      refine tk 0 ?_
      refine tk 1 ?_
      refine tk 2 ?_
      refine tk 3 ?_
      refine dOne 4 fun K hK=>?_
      go_simp
      refine hK.out _ _ ⟨r3,r1,r2⟩ (fun hHeld=>?_)
      clear hK K
      try simp only[Act.put,qqA,qqB,qqC]
      refine tk 5 ?_
      refine tkS 6 ?_
      refine tkS 7 ?_
      refine tkS 8 ?_
      refine tkS 9 ?_
      refine tkS 10 ?_
      refine tkS 11 ?_
      refine tkS 12 ?_
      refine tkS 13 ?_
      refine tkS 14 ?_
      refine tkS 15 ?_
      refine tkS 16 ?_
      refine tkS 17 ?_
      refine tk 18 ?_
      refine tk 19 ?_
      refine tk 20 ?_
      refine dOne 21 fun K hK=>?_
      have HSn:Hid (FrS w b vl vg (.slice (some ⟨g,0,none⟩) M1.given.length gc) { M1 with twice:=true } (wr.drew.setCell ⟨b,4,none⟩ (.bool true))):=HSd.out.twice true
      go_simp
      refine hK.out _ _ ⟨HSn.out.pa.cells.2.2.1,HG2.out _ _ HSn.out,HC.out _ HSn.out.fr⟩ (fun hHeld=>?_)
      clear hK K
      try simp only[Act.put,qqA,qqB,qqC]
      refine wpAnyH_done (by kernel_rfl) ?_ _
      go_wp2
      go_roundw
      case rel=>exact⟨k+1,by omega,by go_num,by rw[HTk.out];exact HSn⟩
      case measure=>simp[RowKit.intOf];omega
     | false=>
      refine wp_region_held_drew (S:=(fun W=>W.cell? ⟨b,2,none⟩=some (.slice (some ⟨g,0,none⟩) M1.given.length gc)∧W.cell? ⟨g,k,none⟩=some (.int .i64 x)∧W.cell? ⟨bi,oi+i,none⟩=some (.int .i64 id))) (by kernel_rfl) ⟨r3,r1,r2⟩ (fun hHeld=>?_)
      refine tk 0 ?_
      refine tk 1 ?_
      refine tk 2 ?_
      refine tk 3 ?_
      refine dOne 4 fun K hK=>?_
      go_simp
      refine hK.out _ _ ⟨r3,r1,r2⟩ (fun hHeld=>?_)
      clear hK K
      try simp only[Act.put,qqA,qqB,qqC]
      refine tk 5 ?_
      refine tk 6 ?_
      refine tk 7 ?_
      refine tk 8 ?_
      refine tk 9 ?_
      refine tk 10 ?_
      refine tk 11 ?_
      refine tk 12 ?_
      refine tk 13 ?_
      refine tk 14 ?_
      refine tk 15 ?_
      refine tk 16 ?_
      refine tk 17 ?_
      refine tk 18 ?_
      refine tk 19 ?_
      refine tk 20 ?_
      refine dOne 21 fun K hK=>?_
      have HSn:Hid (FrS w b vl vg (.slice (some ⟨g,0,none⟩) M1.given.length gc) { M1 with twice:=(x == id) } (wr.drew.setCell ⟨b,4,none⟩ (.bool (x == id)))):=HSd.out.twice (x == id)
      go_simp
      refine hK.out _ _ ⟨HSn.out.pa.cells.2.2.1,HG2.out _ _ HSn.out,HC.out _ HSn.out.fr⟩ (fun hHeld=>?_)
      clear hK K
      try simp only[Act.put,qqA,qqB,qqC]
      refine wpAnyH_done (by kernel_rfl) ?_ _
      go_wp2
      go_roundw
      case rel=>exact⟨k+1,by omega,by go_num,by rw[HTk.out];rw[Bool.false_or];exact HSn⟩
      case measure=>simp[RowKit.intOf];omega
    ·have e9:k=M1.given.length:=by omega
     subst e9
     have q1:decide ((M1.given.length:Int) < (M1.given.length:Int))=false:=decide_eq_false (by omega)
     have HF1:Hid (M1.free1 id={ { M1 with twice:=M1.twice || (M1.given.take M1.given.length).any (· == id) } with given:=M1.given++[id] }):=by
      show _=_
      rw[List.take_length]
      rfl
     obtain⟨T,hT⟩:∃ T,T=(M1.twice || (M1.given.take M1.given.length).any (· == id)):=⟨_,rfl⟩
     rw[← hT] at HS HF1
     have HSd:Hid (FrS w b vl vg (.slice ga M1.given.length gc) { M1 with twice:=T } wr.drew):=HS.out.over ((Below.refl _ _).drew)
     have r2:=HC.out _ HSd.out.fr
     have c2d:=HSd.out.pa.cells.2.2.1
     have c2e:∀ o:Obj,(wr.alloc o).cell? ⟨b,2,none⟩=some (.slice ga M1.given.length gc):=fun o=>(HS.out.over (below_new _ o)).pa.cells.2.2.1
     have HSn:Hid (FrS w b vl vg (.slice ga M1.given.length gc) { M1 with twice:=T } (wr.drew.alloc (.cells #[.int .i64 id] 3))):=HSd.out.over (below_new _ _)
     have r4:=HC.out _ HSn.out.fr
     clear hT c0 c1 c3 c4 c5
     go_upto_region 7 with fail
     refine wp_region_held_drew (S:=fun W=>W.cell? ⟨bi,oi+i,none⟩=some (.int .i64 id)) (by kernel_rfl) r2 (fun hHeld=>?_)
     refine tk 0 ?_
     refine tk 1 ?_
     refine tk 2 ?_
     refine tk 3 ?_
     refine tk 5 ?_
     refine tk 6 ?_
     refine tk 7 ?_
     refine tk 8 ?_
     refine do_two 4 9 rfl rfl (by kernel_rfl) (by rfl) (by rfl) (fun K hK=>?_) (fun K hK=>?_)
     ·go_simp
      refine hK.out _ _ r2 (fun hHeld=>?_)
      clear hK K
      try simp only[Act.put,qqA,qqB,qqC]
      refine dOne 9 fun K hK=>?_
      go_simp
      refine hK.out _ _ r4 (fun hHeld=>?_)
      clear hK K
      try simp only[Act.put,qqA,qqB,qqC]
      refine dOne 10 fun K hK=>?_
      refine wp_app (.tmp 46) (.tmp 51) 42 rfl (b+1) 3 i0 (.int .i64 0) 1 8 Tryz.underlying42 hi0 hz0 hz1 hz2 rfl (by decide) (.slice ga M1.given.length gc) M1.given.length (cellsZ M1.given) (by first|rfl|simp[Act.eval,Act.put]) HSn.out.pa.rg (some ⟨wr.drew.heap.size,0,none⟩) 1 1 [.int .i64 id] (by first|rfl|simp[Act.eval,Act.put]) rfl (by intro A hA j u hu;cases hA;exact cells_new wr.drew [.int .i64 id] 3 j u hu) (by intro e;cases e) (by intro u hu;simp at hu;subst hu;rfl) (by have:=HGl.out;unfold maxLen;omega) (by have:=HGl.out;omega) (by have:=HSn.out.pa.lt;exact this) ?_
      intro p1 s1 w2 hown2 hgrow2 hat2
      have HSg:Hid (FrS w b vl vg (.slice p1 (M1.given.length+1:Nat) s1) (M1.free1 id) (w2.setCell ⟨b,2,none⟩ (.slice p1 (M1.given.length+1:Nat) s1))):=by rw[HF1.out];exact HSd.out.gave (below_new _ _) hown2 hgrow2 hat2
      have hbg:w2.heap[b]?=some (.cells #[vl,.int .i64 M1.fr,.slice ga M1.given.length gc,.bool M1.bad,.bool T,.int .i64 (-1)] 44 (0,0)):=(hgrow2.block b HSn.out.pa.lt (fun e=>by have:=(HSn.out.pa.rg.lt b e.symm).1;omega)).trans HSn.out.pa.obj
      have q4:=cell_at hbg 2
      have q5:=free_at hbg 2
      simp only[qqD,qqE,qqF] at q4
      have r5:w2.cell? ⟨bi,oi+i,none⟩=some (.int .i64 id):=by
       refine HC.out w2 ⟨hgrow2.os.trans HSn.out.fr.os,hgrow2.tape.trans HSn.out.fr.tape,hgrow2.output.trans HSn.out.fr.output,Nat.le_trans HSn.out.fr.size hgrow2.size,fun j hj hn=>?_⟩
       refine (hgrow2.block j (Nat.lt_of_lt_of_le hj HSn.out.fr.size) fun q=>?_).trans (HSn.out.fr.block j hj hn)
       rcases HSn.out.own j q.symm with r|r
       ·exact hn (.inr (.inr r))
       ·omega
      clear hown2 hgrow2 hat2 hbg
      refine hK.out _ _ r5 (fun hHeld=>?_)
      clear hK K
      try simp only[Act.put,qqA,qqB,qqC]
      refine tk 11 ?_
      refine tk 12 ?_
      refine dOne 13 fun K hK=>?_
      go_simp
      refine hK.out _ _ (HC.out _ HSg.out.fr) (fun hHeld=>?_)
      clear hK K
      try simp only[Act.put,qqA,qqB,qqC]
      refine wpAnyH_done (by kernel_rfl) ?_ _
      go_wp2
      go_roundw
      case rel=>exact⟨i+1,_,by omega,by go_num,by rw[HNx.out];exact HSg⟩
      case measure=>simp[RowKit.intOf];omega
     ·go_simp
      refine hK.out _ _ r4 (fun hHeld=>?_)
      clear hK K
      try simp only[Act.put,qqA,qqB,qqC]
      refine dOne 4 fun K hK=>?_
      have c2f:=c2e (.cells #[.int .i64 id] 3)
      go_simp
      refine hK.out _ _ r4 (fun hHeld=>?_)
      clear hK K
      try simp only[Act.put,qqA,qqB,qqC]
      refine dOne 10 fun K hK=>?_
      refine wp_app (.tmp 46) (.tmp 51) 42 rfl (b+1) 3 i0 (.int .i64 0) 1 8 Tryz.underlying42 hi0 hz0 hz1 hz2 rfl (by decide) (.slice ga M1.given.length gc) M1.given.length (cellsZ M1.given) (by first|rfl|simp[Act.eval,Act.put]) HSn.out.pa.rg (some ⟨wr.drew.heap.size,0,none⟩) 1 1 [.int .i64 id] (by first|rfl|simp[Act.eval,Act.put]) rfl (by intro A hA j u hu;cases hA;exact cells_new wr.drew [.int .i64 id] 3 j u hu) (by intro e;cases e) (by intro u hu;simp at hu;subst hu;rfl) (by have:=HGl.out;unfold maxLen;omega) (by have:=HGl.out;omega) (by have:=HSn.out.pa.lt;exact this) ?_
      intro p1 s1 w2 hown2 hgrow2 hat2
      have HSg:Hid (FrS w b vl vg (.slice p1 (M1.given.length+1:Nat) s1) (M1.free1 id) (w2.setCell ⟨b,2,none⟩ (.slice p1 (M1.given.length+1:Nat) s1))):=by rw[HF1.out];exact HSd.out.gave (below_new _ _) hown2 hgrow2 hat2
      have hbg:w2.heap[b]?=some (.cells #[vl,.int .i64 M1.fr,.slice ga M1.given.length gc,.bool M1.bad,.bool T,.int .i64 (-1)] 44 (0,0)):=(hgrow2.block b HSn.out.pa.lt (fun e=>by have:=(HSn.out.pa.rg.lt b e.symm).1;omega)).trans HSn.out.pa.obj
      have q4:=cell_at hbg 2
      have q5:=free_at hbg 2
      simp only[qqD,qqE,qqF] at q4
      have r5:w2.cell? ⟨bi,oi+i,none⟩=some (.int .i64 id):=by
       refine HC.out w2 ⟨hgrow2.os.trans HSn.out.fr.os,hgrow2.tape.trans HSn.out.fr.tape,hgrow2.output.trans HSn.out.fr.output,Nat.le_trans HSn.out.fr.size hgrow2.size,fun j hj hn=>?_⟩
       refine (hgrow2.block j (Nat.lt_of_lt_of_le hj HSn.out.fr.size) fun q=>?_).trans (HSn.out.fr.block j hj hn)
       rcases HSn.out.own j q.symm with r|r
       ·exact hn (.inr (.inr r))
       ·omega
      clear hown2 hgrow2 hat2 hbg
      refine hK.out _ _ r5 (fun hHeld=>?_)
      clear hK K
      try simp only[Act.put,qqA,qqB,qqC]
      refine tk 11 ?_
      refine tk 12 ?_
      refine dOne 13 fun K hK=>?_
      go_simp
      refine hK.out _ _ (HC.out _ HSg.out.fr) (fun hHeld=>?_)
      clear hK K
      try simp only[Act.put,qqA,qqB,qqC]
      refine wpAnyH_done (by kernel_rfl) ?_ _
      go_wp2
      go_roundw
      case rel=>exact⟨i+1,_,by omega,by go_num,by rw[HNx.out];exact HSg⟩
      case measure=>simp[RowKit.intOf];omega
  ·have e8:i=ids.length:=by omega
   subst e8
   have k1:decide ((ids.length:Int) < (ids.length:Int))=false:=decide_eq_false (by omega)
   rw[List.take_length] at HS
   go_wp2
   go_end0
   exact⟨vg',rfl,HS.out⟩
end Go.Proofs.YtjepgclnbbpnaaaGreat.P12
namespace Go.Proofs.YtjepgclnbbpnaaaGreat.P12
open PK (qqA qqB qqC qqD qqE qqF tk tkS dOne qh)
open Go Go.RowKit Go.Lib PK
open P11 (Pg cellsP PgsIn NsIn)
theorem tiFree_any(w:World)(b:Nat)(vl vg v:Value)(M:PM)(ids:List Int)(h:PAt w b vl vg M)(hv:∀ w',P3.Fr (PS b vl vg) w w'→NsIn w' v ids)(hl:M.given.length+ids.length≤100000) :
  Calls Tryz.prog 43 #[pgv b,v] w fun e w'=>∃ vg',e=.returned (.tuple #[])∧FrS w b vl vg vg' (M.free ids) w':=by
 obtain⟨a,c,rfl⟩:=(hv w (P3.Fr.refl _ _)).slice
 have n1:=nFree
 have m1:=mFree
 have HF:=qh (fun W (k:Below w.heap.size w W)=>free_any W b vl vg (.slice a ids.length c) M ids (h.below k) (fun w' f=>hv w' (frThen (P3.Fr.of k) f fun _ _ e=>e)) hl)
 have HH:=qh h
 have HX:=qh (Below.refl w.heap.size w)
 unfold pgv
 by_cases h0:ids=[]
 ·subst h0
  clear h hv hl
  simp only[List.length_nil]
  go_enter Tryz.func43,Tryz.ntmps43
  go_wp2
  go_end0
  exact⟨vg,rfl,HH.out,P3.Fr.refl _ _,fun j e=>.inl e⟩
 ·have hp:0 < ids.length:=Nat.pos_of_ne_zero fun e=>h0 (List.length_eq_zero_iff.1 e)
  obtain⟨N,hN⟩:∃ N,N=ids.length:=⟨_,rfl⟩
  rw[← hN] at hp HF
  rw[← hN]
  clear h hv hl h0 hN
  go_enter Tryz.func43,Tryz.ntmps43
  go_wp2_with (go_at_call 179;(with_reducible refine (HF.out _ HX.out).mono ?_);rintro e w1 ⟨vg',rfl,h1⟩;have H1:=qh h1;clear h1)
  go_end0
  exact⟨vg',rfl,H1.out⟩
def sameKd(p q:P10.It):Bool:=(p.key.toList == q.key.toList) && (p.page == q.page)
theorem sameKd_iff(p q:P10.It):sameKd p q=true↔p=q:=by
 unfold sameKd
 rw[Bool.and_eq_true,beq_iff_eq,beq_iff_eq]
 constructor
 ·rintro ⟨h1,h2⟩
  obtain⟨k,g⟩:=p
  obtain⟨k',g'⟩:=q
  simp only at h1 h2
  have:k=k':=by
   have e:k.data=k'.data:=by
    apply Array.ext'
    simpa [ByteArray.toList_eq] using h1
   cases k;cases k'
   cases e
   rfl
  subst this h2
  rfl
 ·rintro rfl
  exact⟨rfl,rfl⟩
theorem kd_stood:Tryz.prog.stoodInHeld 106=false:=by kernel_rfl
theorem kd_desc:Tryz.prog.underlying 106=some (.struct (Tryz.prog.fieldsOf 106)):=by
 unfold Program.fieldsOf
 rw[Tryz.underlying106]
theorem kd_int(w:World)(cs:Array Value)(j:Nat)(v:Value)(h:cs[j]?=some v):(part 3 cs j).run Tryz.prog w=.ok v w:=by
 simp[part,Sem.run_bind,Tryz.isAgg3,h]
theorem kd_str(w:World)(cs:Array Value)(j:Nat)(v:Value)(h:cs[j]?=some v):(part 9 cs j).run Tryz.prog w=.ok v w:=by
 simp[part,Sem.run_bind,Tryz.isAgg9,h]
theorem kd_eql(w:World)(p q:P10.It):(binOp .eql 106 p.v q.v).run Tryz.prog w=.ok (.bool (sameKd p q)) w:=by
 unfold P10.It.v
 rw[run_eql_struct,run_equalIn_agg w 9999 _ _ _ kd_desc kd_stood]
 have ei:∀ (w:World) (a b:Int),(Op.equalIn 9999 3 (.int .i64 a) (.int .i64 b)).run Tryz.prog w=.ok (a == b) w:=fun w a b=>run_equalIn_int w 9998 _ _ _ a b Tryz.underlying3
 have es:∀ (w:World) (a b:ByteArray),(Op.equalIn 9999 9 (.string a) (.string b)).run Tryz.prog w=.ok (a.toList == b.toList) w:=fun w a b=>run_equalIn_string w 9998 _ a b Tryz.underlying9
 have q0:∀ (w:World) (a b:Value),(part 9 #[a,b] 0).run Tryz.prog w=.ok a w:=fun w a b=>kd_str w _ 0 a rfl
 have q1:∀ (w:World) (a b:Value),(part 3 #[a,b] 1).run Tryz.prog w=.ok b w:=fun w a b=>kd_int w _ 1 b rfl
 simp[Program.fieldsOf,Tryz.underlying106,Op.eqFields,q0,q1,ei,es]
 unfold sameKd
 by_cases h1:p.key.toList=q.key.toList <;> by_cases h3:p.page=q.page <;> simp[h1,h3]
theorem kd_neq(w:World)(p q:P10.It):(binOp .neq 106 p.v q.v).run Tryz.prog w=.ok (.bool (!sameKd p q)) w:=by
 have h:=kd_eql w p q
 unfold P10.It.v at *
 rw[run_eql_struct] at h
 rw[run_neq_struct]
 cases e:(Op.equalIn 10000 106 (.agg #[.string p.key,.int .i64 p.page]) (.agg #[.string q.key,.int .i64 q.page])).run Tryz.prog w with
 | ok b w'=>rw[e] at h;simp only[Result.andThen_ok] at h ⊢;cases h;rfl
 | _=>rw[e] at h;cases h
theorem sameKd_refl(p:P10.It):sameKd p p=true:=(sameKd_iff p p).2 rfl
theorem equal_any(w:World)(x:Option Nat)(v1 v2:Value)(l1 l2:List P10.It)(h1:KdT w x v1 l1)(h2:KdT w x v2 l2)(hl:l1.length≤1000000)(hl2:l2.length≤1000000) :
  Calls Tryz.prog 87 #[v1,v2] w fun e w'=>∃ r:Bool,e=.returned (.bool r)∧(r=true↔l1=l2)∧Below w.heap.size w w':=by
 obtain⟨a1,c1,rfl⟩:=h1.its.slice
 obtain⟨a2,c2,rfl⟩:=h2.its.slice
 have H1:=qh h1.its
 have H2:=qh h2.its
 have HX:=qh (Below.refl w.heap.size w)
 have HNq:=qh kd_neq
 obtain⟨N1,hN1⟩:∃ n,n=l1.length:=⟨_,rfl⟩
 obtain⟨N2,hN2⟩:∃ n,n=l2.length:=⟨_,rfl⟩
 rw[← hN1,← hN2]
 have HN1:=qh hN1
 have HN2:=qh hN2
 by_cases hne:N1=N2
 ·subst hne
  have H0:Hid (∀ j,j < 0→l1[j]?=l2[j]?):=fun j hj=>absurd hj (Nat.not_lt_zero _)
  have hl3:N1≤1000000:=by omega
  clear h1 h2 hN1 hN2 hl hl2
  go_enter Tryz.func87,Tryz.ntmps87
  go_upto_region 4 with fail
  go_loopw [13] (fun vi wr=>∃ (i:Nat),i≤N1∧vi=.int .i64 i∧Hid (Below w.heap.size w wr)∧Hid (∀ j,j < i→l1[j]?=l2[j]?)) (fun vi _=>N1 - (RowKit.intOf vi).toNat)
  case atStart=>exact⟨0,Nat.zero_le _,rfl,HX,H0⟩
  case round=>
   clear H0
   obtain⟨i,hi,rfl,HB,HE⟩:=hrel
   by_cases hlt:i < N1
   ·obtain⟨p,hp⟩:∃ p,l1[i]?=some p:=⟨_,List.getElem?_eq_getElem (by have:=HN1.out;omega)⟩
    obtain⟨q,hq⟩:∃ q,l2[i]?=some q:=⟨_,List.getElem?_eq_getElem (by have:=HN2.out;omega)⟩
    have k1:decide ((i:Int) < (N1:Int))=true:=decide_eq_true (by omega)
    have k2:(i:Int) < (N1:Int):=by omega
    have k3:(0:Int)≤(i:Int):=by omega
    obtain⟨b1,o1,rfl,hc1⟩:=H1.out.at_ hp
    obtain⟨b2,o2,rfl,hc2⟩:=H2.out.at_ hq
    obtain⟨x0,x1⟩:=hc1 _ HB.out
    obtain⟨y0,y1⟩:=hc2 _ HB.out
    have hk9:=fun W=>HNq.out W p q
    simp only[P10.It.v] at hk9
    have HP:=qh hp
    have HQ:=qh hq
    clear hc1 hc2 hp hq
    cases hsm:sameKd p q
    ·rw[hsm] at hk9
     have HSm:=qh hsm
     clear hsm
     simp only[Bool.not_false] at hk9
     go_upto_region 6 with fail
     go_region
     go_wp2
     go_ret
     refine⟨false,rfl,⟨fun e=>(by cases e),fun e=>?_⟩,HB.out.drew⟩
     exfalso
     have h9:=HP.out
     rw[e,HQ.out] at h9
     cases h9
     have:=HSm.out
     rw[sameKd_refl] at this
     cases this
    ·rw[hsm] at hk9
     have HSm:=qh hsm
     clear hsm
     simp only[Bool.not_true] at hk9
     go_upto_region 6 with fail
     go_region
     go_wp2
     go_roundw
     case rel=>
      refine⟨i+1,by omega,by go_num,qh HB.out.drew,fun j hj=>?_⟩
      by_cases e:j < i
      ·exact HE.out j e
      ·have:j=i:=by omega
       subst this
       rw[HP.out,HQ.out,(sameKd_iff p q).1 HSm.out]
     case measure=>simp[RowKit.intOf];omega
   ·have e8:i=N1:=by omega
    subst e8
    have k1:decide ((i:Int) < (i:Int))=false:=decide_eq_false (by omega)
    go_wp2
    go_ret
    refine⟨true,rfl,⟨fun _=>?_,fun _=>rfl⟩,HB.out⟩
    apply List.ext_getElem?
    intro j
    by_cases e:j < i
    ·exact HE.out j e
    ·rw[List.getElem?_eq_none (by have:=HN1.out;omega),List.getElem?_eq_none (by have:=HN2.out;omega)]
 ·have h9:¬ ((N1:Int)=(N2:Int)):=by omega
  have h8:((N1:Int) == (N2:Int))=false:=beq_false_of_ne h9
  have HNe:Hid (l1≠l2):=fun e=>by
   have g1:=HN1.out
   have g2:=HN2.out
   rw[e] at g1
   omega
  clear h1 h2 hN1 hN2 hl hl2
  go_enter Tryz.func87,Tryz.ntmps87
  go_wp2
  go_ret
  exact⟨false,rfl,⟨fun e=>(by cases e),fun e=>(HNe.out e).elim⟩,HX.out⟩
end Go.Proofs.YtjepgclnbbpnaaaGreat.P12
