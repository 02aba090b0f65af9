/-
  Texts of the proofs of SaidPlays12.
-/
import Derived.Test.YtjepgclnbbpnaaaGreatMr43
set_option linter.unusedVariables false
set_option linter.unusedSimpArgs false
set_option maxHeartbeats 8000000
set_option maxRecDepth 100000
namespace Go.Proofs.YtjepgclnbbpnaaaGreat.P12
open Go Go.RowKit Go.Lib PK
open P11 (Pg)
open P9 (It kb RightI lowK hasK putI dropI)
def Live(w0:World)(b:Nat)(root:Int)(L:List It)(k:Nat)(w:World):Prop:=
 ∃ vl vg M D ids P p q,PAt w b vl vg M∧TrS M D root L ids P p q∧p+q≤k∧(∀ j,PS b vl vg j→w0.heap.size≤j)∧Below w0.heap.size w0 w∧P.length=M.L.length
theorem Live.fresh{w0 w':World}{b:Nat}(h:PAt w' b (.slice none 0 0) (.slice none 0 0) ⟨[],2,[],false,false⟩)(hb:w0.heap.size≤b)(hB:Below w0.heap.size w0 w'):Live w0 b 0 [] 0 w':=
 have hn:∀ j,PS b (.slice none 0 0) (.slice none 0 0) j→w0.heap.size≤j:=fun j hj=>by
  rcases hj with rfl|hj|hj
  ·exact hb
  ·cases hj
  ·cases hj
 ⟨_,_,_,_,_,_,_,_,h,TrS.start,Nat.le_refl _,hn,hB,rfl⟩
end Go.Proofs.YtjepgclnbbpnaaaGreat.P12
namespace Go.Proofs.YtjepgclnbbpnaaaGreat.P12
open PK (qqA qqB qqC qqD qqE qqF tk tkS dOne qh)
open Go Go.RowKit Go.Lib PK
open P9 (It ItsIn cellsI OwnI RightI lowK lowK_le lowK_ahead lowK_at lowK_eq hasK hasK_iff hasK_not keysI kb kb_eq kb_irr lowK_hit putI dropI cellsI_length cellsI_ok cellsI_at rise_at)
section
variable {P:Program} {w:World}
theorem wp_app9{o:Oper}{a:Act}{K:Act→World→Prop}{Q:Exit→Act→World→Prop}(s x:Operand)(t:TypeId)
  (ho:o.op=.call { callee:=.builtin .append,args:=#[s,x],argTypes:=#[t,t] })
  (base:Nat) (e:TypeId) (i:TypeInfo) (z:Value) (size bytes:Nat) (ht:P.underlying t=some (.slice e)) (hi:P.info? e=some i) (hz:i.zero=some z)
  (hsize:i.size=size) (hby:i.bytes=bytes) (hzs:z.cells.size=size) (hsz:0 < size)
  (v:Value) (n:Nat) (xs:List Value) (hs:a.eval s=v) (hown:w.ownsRow base e size v n xs)
  (ad:Option Addr) (m c:Nat) (news:List Value) (hx:a.eval x=.slice ad m c) (hl:news.length=m*size) (hnews:∀ A,ad=some A→∀ j u,news[j]?=some u→w.cell? (A.add j)=some u) (hno:ad=none→m=0∧c=0) (h1:∀ u∈news,u.oneCell'=true)
  (h63:n+m≤maxLen) (hbytes:(n+m)*bytes≤140737488355328) (hbase:base≤w.heap.size)
  (h:∀ p q w',w'.ownsRow base e size (.slice p (n+m:Nat) q) (n+m) (xs++news)→w.grownBy w' v.ownBlock→((Value.slice p (n+m:Nat) q).ownBlock=v.ownBlock∨(Value.slice p (n+m:Nat) q).ownBlock=some w.heap.size)→K (a.put o.dst (.slice p (n+m:Nat) q)) w') :
  Oper.wp P o a w K Q:=by
 obtain⟨p,q,w',hr,h2,h3,h4⟩:=run_app (P:=P) w base t o.type e i z size bytes ht hi hz hsize hby hzs hsz v n xs hown ad m c news hl hnews hno h1 h63 hbytes hbase
 unfold Oper.wp execOp
 simp only[ho,resolve,invoke,builtin,Sem.run_bind,Sem.run_pure,Result.andThen_ok,List.map_toArray,List.map_cons,List.map_nil,hs,hx,hr]
 exact h p q w' h2 h3 h4
end
theorem do_two9{P:Program}{ops:Array Oper}{Q:Exit→Act→World→Prop}{md:Region.Mode}{S:World→Prop}(i j:Nat){oi oj:Oper}{ri rj:List Oper}{fuel:Nat}{listed:Array Bool}{a:Act}{w:World}(h0:ops.toList.drop i=oi::ri)(h1:ops.toList.drop j=oj::rj)
  (hr:Region.ready md ops listed=[i,j]) (hwi:Region.wanted oi (yielded ops a.tmps)=true) (hwj:Region.wanted oj (yielded ops a.tmps)=true)
  (hi:∀ K':Act→World→Prop,Hid (∀ a w,S w→(S w→wpAnyH P md ops Q S fuel (listed.setIfInBounds i true) a w)→K' a w)→Oper.wp P oi a w K' Q)
  (hj:∀ K':Act→World→Prop,Hid (∀ a w,S w→(S w→wpAnyH P md ops Q S fuel (listed.setIfInBounds j true) a w)→K' a w)→Oper.wp P oj a w K' Q):wpAnyH P md ops Q S (fuel+1) listed a w:=
 wpAnyH_ready hr (by simp) (AllReadyH.cons (op_at h0) (fun K' hK=>by rw[if_pos hwi];exact hi K' hK) (AllReadyH.cons (op_at h1) (fun K' hK=>by rw[if_pos hwj];exact hj K' hK) AllReadyH.nil))
theorem text_eq{a b:ByteArray}(h:a=b):(a.toList == b.toList)=true:=by rw[h];exact beq_self_eq_true _
theorem text_ne{a b:ByteArray}(h:a≠b):(a.toList == b.toList)=false:=by
 cases e:(a.toList == b.toList)
 ·rfl
 ·exfalso
  have e2:=eq_of_beq e
  rw[ByteArray.toList_eq,ByteArray.toList_eq] at e2
  exact h (by cases a;cases b;simp only[ByteArray.mk.injEq];exact Array.toList_inj.1 e2)
theorem low_here{l:List It}(hr:RightI l){k:ByteArray}{j:Nat}{x:It}(hx:l[j]?=some x)(hk:x.key=k):lowK l k=j:=by
 refine lowK_eq (fun i y hi hy=>?_) (Nat.le_of_lt (List.getElem?_eq_some_iff.1 hx).1) (fun y hy=>?_)
 ·rw[← hk];exact rise_at hr hy hx hi
 ·rw[hx] at hy
  obtain rfl:=Option.some.inj hy
  rw[hk]
  exact kb_irr _
theorem drop_some(w:World)(b off c:Nat)(l:List It)(k:ByteArray)(h:ItsIn w (.slice (some ⟨b,off,none⟩) l.length c) l)(hc:l.length≤c)(hm:c≤9223372036854775807)(hl:l.length≤800000)(hr:RightI l) :
  Calls Tryz.prog 15 #[.slice (some ⟨b,off,none⟩) l.length c,.string k] w fun e w'=>∃ v,e=.returned (.tuple #[v,.bool (hasK l k)])∧((v=.slice (some ⟨b,off,none⟩) l.length c∧dropI l k=l)∨OwnI w.heap.size w' v (dropI l k))∧Below w.heap.size w w':=by
 obtain⟨i0,hi0,hz0,hz1,hz2⟩:=info_parts infoEItems
 have HA:=qh (fun (i:Nat) (x:It) (hi:l[i]?=some x)=>h.at_ hi)
 have HI:=qh h
 have HR:=qh hr
 have HHit:Hid (∀ (j:Nat) (x:It),l[j]?=some x→x.key=k→hasK l k=true∧dropI l k=l.take j++l.drop (j+1)):=fun j x hx hk=>by
  have h1:hasK l k=true:=hasK_iff.2 (List.mem_map.2 ⟨x,List.mem_of_getElem? hx,hk⟩)
  refine⟨h1,?_⟩
  unfold dropI
  rw[if_pos h1,low_here HR.out hx hk]
 have HMis:Hid ((∀ (j:Nat) (x:It),l[j]?=some x→x.key≠k)→hasK l k=false∧dropI l k=l):=fun hn=>by
  have h1:hasK l k=false:=hasK_not.2 (fun q=>by
   obtain⟨x,hx,e⟩:=List.mem_map.1 q
   obtain⟨j,hj,rfl⟩:=List.mem_iff_getElem.1 hx
   exact hn j _ (List.getElem?_eq_getElem hj) e)
  refine⟨h1,?_⟩
  unfold dropI
  rw[if_neg (by rw[h1];simp)]
 clear h hr
 go_enter Tryz.func15,Tryz.ntmps15
 go_wp2
 go_loop [6] (fun vk=>∃ j:Nat,j≤l.length∧vk=.int .i64 j∧Hid (∀ (i:Nat) (x:It),i < j→l[i]?=some x→x.key≠k)) (fun vk=>l.length - (RowKit.intOf vk).toNat)
 case atStart=>exact⟨0,Nat.zero_le _,rfl,fun i x hi=>absurd hi (Nat.not_lt_zero _)⟩
 case round=>
  obtain⟨j,hj,rfl,HJ⟩:=hrel
  by_cases hlt:j < l.length
  ·obtain⟨x,hx⟩:∃ x,l[j]?=some x:=⟨_,List.getElem?_eq_getElem hlt⟩
   obtain⟨b',off',e,hcc⟩:=HA.out j x hx
   simp only[Option.some.injEq,Addr.mk.injEq,and_true] at e
   obtain⟨rfl,rfl⟩:=e
   obtain⟨c0,c1,c2⟩:=hcc w (Below.refl _ _)
   have k1:decide ((j:Int) < (l.length:Int))=true:=decide_eq_true (by omega)
   have k2:(j:Int) < (l.length:Int):=by omega
   have k3:(0:Int)≤(j:Int):=by omega
   by_cases hk:x.key=k
   ·have m1:=text_eq hk
    obtain⟨g1,g2⟩:=HHit.out j x hx hk
    have HG:=qh g1
    have HD:=qh g2
    have q1:(j:Int)≤(l.length:Int):=by omega
    have q2:(l.length:Int)≤(c:Int):=by omega
    have q3:(j:Int)≤(c:Int):=by omega
    have q4:(j:Int)+1≤(l.length:Int):=by omega
    have q5:(0:Int)≤(j:Int)+1:=by omega
    have q6:IntKind.i64.wrap ((j:Int)+1)=(j:Int)+1:=by rw[IntKind.wrap_i64];omega
    clear hk hcc hx g1 g2 HHit HMis
    by_cases hcn:c=j+1
    ·subst hcn
     have s9:(j:Int)≤(j:Int)+1:=by omega
     have hI3:ItsIn w (.slice (some ⟨b,off,none⟩) 0 0) (l.drop (j+1)):=its_drop_end HI.out (n:=j+1) (by omega) 0 (fun _=>rfl)
     have t0:l.length - (j+1)=0:=by omega
     have t1:((j:Int)+1).toNat=j+1:=by omega
     have HN1:=qh (its_news (HI.out.take (n:=j) (by omega)))
     have HN3:=qh (its_news hI3)
     have HF1:Hid ((cellsI (l.take j)).flatten.length=j*3):=by show _=_;rw[its_flat,List.length_take,Nat.min_eq_left (by omega)]
     have HF3:Hid ((cellsI (l.drop (j+1))).flatten.length=(l.length - (j+1))*3):=by show _=_;rw[its_flat,List.length_drop]
     have HO1:=qh (its_one (l.take j))
     have HO3:=qh (its_one (l.drop (j+1)))
     have HI3:=qh hI3
     clear hI3
     go_upto_region 5 with fail
     refine wp_region_held_drew (S:=fun _=>True) (by kernel_rfl) trivial (fun hHeld=>?_)
     refine tk 0 ?_
     refine tk 1 ?_
     refine tk 2 ?_
     refine tk 4 ?_
     refine tk 5 ?_
     refine tk 6 ?_
     refine tk 7 ?_
     refine dOne 3 fun K hK=>?_
     refine wp_app9 (.const (.slice none 0 0)) (.tmp 22) 27 rfl w.heap.size 29 i0 (Value.agg #[.string ⟨#[]⟩,.string ⟨#[]⟩,.int .i64 0]) 3 40 Tryz.underlying27 hi0 hz0 hz1 hz2 rfl (by decide) (.slice none 0 0) 0 [] (by rfl) (World.ownsRow_nil _ _ _ _) (some ⟨b,off,none⟩) j (j+1) (cellsI (l.take j)).flatten (by first|rfl|simp[Act.eval,Act.put]) HF1.out HN1.out.1 (fun e=>by cases e) HO1.out (by unfold maxLen;omega) (by omega) (Nat.le_refl _) ?_
     intro p1 s1 w2 hown2 hgrow2 hat2
     rw[Nat.zero_add,List.nil_append] at hown2
     rw[Nat.zero_add]
     have HO2:=qh hown2
     have HB2:Hid (Below w.heap.size w w2):=(Below.refl _ w).drew.trans ⟨hgrow2.os,hgrow2.tape,hgrow2.output,hgrow2.size,fun q hq=>hgrow2.block q hq (by simp[Value.ownBlock])⟩
     have HN3b:Hid (∀ A,some (⟨b,off,none⟩:Addr)=some A→∀ (q:Nat) (u:Value),(cellsI (l.drop (j+1))).flatten[q]?=some u→w2.cell? (A.add q)=some u):=(its_news (ItsIn.below HI3.out HB2.out)).1
     clear hown2 hgrow2 hat2
     refine hK.out _ _ trivial (fun hHeld=>?_)
     clear hK K
     try simp only[Act.put,qqA,qqB,qqC]
     refine dOne 8 fun K hK=>?_
     refine wp_app9 (.tmp 23) (.tmp 27) 27 rfl w.heap.size 29 i0 (Value.agg #[.string ⟨#[]⟩,.string ⟨#[]⟩,.int .i64 0]) 3 40 Tryz.underlying27 hi0 hz0 hz1 hz2 rfl (by decide) (.slice p1 j s1) j (cellsI (l.take j)).flatten (by first|rfl|simp[Act.eval,Act.put]) HO2.out (some ⟨b,off,none⟩) 0 0 (cellsI (l.drop (j+1))).flatten (by first|rfl|simp[Act.eval,Act.put]) (by rw[HF3.out];omega) HN3b.out (fun e=>by cases e) HO3.out (by unfold maxLen;omega) (by omega) HB2.out.size ?_
     intro p3 s3 w3 hown3 hgrow3 hat3
     rw[← its_app] at hown3
     have HO4:Hid (OwnI w.heap.size w3 (.slice p3 (j+0:Nat) s3) (l.take j++l.drop (j+1))):=⟨by rw[List.length_append,List.length_take,List.length_drop,Nat.min_eq_left (by omega)];rw[show l.length - (j+1)=0 by omega];exact hown3,by rw[List.length_append,List.length_take,List.length_drop];omega⟩
     have HB3:Hid (Below w.heap.size w w3):=HB2.out.grown hgrow3 HB2.out.size (fun q hq=>(HO2.out.lt q hq).1)
     clear hown3 hgrow3 hat3
     refine hK.out _ _ trivial (fun hHeld=>?_)
     clear hK K
     try simp only[Act.put,qqA,qqB,qqC]
     refine tk 9 ?_
     refine tk 10 ?_
     refine wpAnyH_done (by kernel_rfl) ?_ _
     go_wp2
     go_ret2
     exact⟨_,by rw[HG.out];rfl,.inr (by rw[HD.out];exact HO4.out),HB3.out⟩
    ·have hI3:ItsIn w (.slice (some ⟨b,off+(j+1)*3,none⟩) (l.length - (j+1):Nat) (c - (j+1):Nat)) (l.drop (j+1)):=HI.out.drop (n:=j+1) hlt (c - (j+1))
     have t1:((j:Int)+1).toNat=j+1:=by omega
     have t2:¬ c=j+1:=hcn
     have t3:c≠j+1:=hcn
     have HN1:=qh (its_news (HI.out.take (n:=j) (by omega)))
     have HN3:=qh (its_news hI3)
     have HF1:Hid ((cellsI (l.take j)).flatten.length=j*3):=by show _=_;rw[its_flat,List.length_take,Nat.min_eq_left (by omega)]
     have HF3:Hid ((cellsI (l.drop (j+1))).flatten.length=(l.length - (j+1))*3):=by show _=_;rw[its_flat,List.length_drop]
     have HO1:=qh (its_one (l.take j))
     have HO3:=qh (its_one (l.drop (j+1)))
     have HI3:=qh hI3
     clear hI3
     go_upto_region 5 with fail
     refine wp_region_held_drew (S:=fun _=>True) (by kernel_rfl) trivial (fun hHeld=>?_)
     refine tk 0 ?_
     refine tk 1 ?_
     refine tk 2 ?_
     refine tk 4 ?_
     refine tk 5 ?_
     refine tk 6 ?_
     refine tk 7 ?_
     refine dOne 3 fun K hK=>?_
     refine wp_app9 (.const (.slice none 0 0)) (.tmp 22) 27 rfl w.heap.size 29 i0 (Value.agg #[.string ⟨#[]⟩,.string ⟨#[]⟩,.int .i64 0]) 3 40 Tryz.underlying27 hi0 hz0 hz1 hz2 rfl (by decide) (.slice none 0 0) 0 [] (by rfl) (World.ownsRow_nil _ _ _ _) (some ⟨b,off,none⟩) j c (cellsI (l.take j)).flatten (by first|rfl|simp[Act.eval,Act.put]) HF1.out HN1.out.1 (fun e=>by cases e) HO1.out (by unfold maxLen;omega) (by omega) (Nat.le_refl _) ?_
     intro p1 s1 w2 hown2 hgrow2 hat2
     rw[Nat.zero_add,List.nil_append] at hown2
     rw[Nat.zero_add]
     have HO2:=qh hown2
     have HB2:Hid (Below w.heap.size w w2):=(Below.refl _ w).drew.trans ⟨hgrow2.os,hgrow2.tape,hgrow2.output,hgrow2.size,fun q hq=>hgrow2.block q hq (by simp[Value.ownBlock])⟩
     have HN3b:Hid (∀ A,some (⟨b,off+(j+1)*3,none⟩:Addr)=some A→∀ (q:Nat) (u:Value),(cellsI (l.drop (j+1))).flatten[q]?=some u→w2.cell? (A.add q)=some u):=(its_news (ItsIn.below HI3.out HB2.out)).1
     clear hown2 hgrow2 hat2
     refine hK.out _ _ trivial (fun hHeld=>?_)
     clear hK K
     try simp only[Act.put,qqA,qqB,qqC]
     refine dOne 8 fun K hK=>?_
     refine wp_app9 (.tmp 23) (.tmp 27) 27 rfl w.heap.size 29 i0 (Value.agg #[.string ⟨#[]⟩,.string ⟨#[]⟩,.int .i64 0]) 3 40 Tryz.underlying27 hi0 hz0 hz1 hz2 rfl (by decide) (.slice p1 j s1) j (cellsI (l.take j)).flatten (by first|rfl|simp[Act.eval,Act.put]) HO2.out (some ⟨b,off+(j+1)*3,none⟩) (l.length - (j+1)) (c - (j+1)) (cellsI (l.drop (j+1))).flatten (by first|rfl|simp[Act.eval,Act.put]) (by rw[HF3.out]) HN3b.out (fun e=>by cases e) HO3.out (by unfold maxLen;omega) (by omega) HB2.out.size ?_
     intro p3 s3 w3 hown3 hgrow3 hat3
     rw[← its_app] at hown3
     have HO4:Hid (OwnI w.heap.size w3 (.slice p3 (j+(l.length - (j+1)):Nat) s3) (l.take j++l.drop (j+1))):=⟨by rw[List.length_append,List.length_take,List.length_drop,Nat.min_eq_left (by omega)];exact hown3,by rw[List.length_append,List.length_take,List.length_drop];omega⟩
     have HB3:Hid (Below w.heap.size w w3):=HB2.out.grown hgrow3 HB2.out.size (fun q hq=>(HO2.out.lt q hq).1)
     clear hown3 hgrow3 hat3
     refine hK.out _ _ trivial (fun hHeld=>?_)
     clear hK K
     try simp only[Act.put,qqA,qqB,qqC]
     refine tk 9 ?_
     refine tk 10 ?_
     refine wpAnyH_done (by kernel_rfl) ?_ _
     go_wp2
     go_ret2
     exact⟨_,by rw[HG.out];rfl,.inr (by rw[HD.out];exact HO4.out),HB3.out⟩
   ·have m1:=text_ne hk
    have HJ2:Hid (∀ (i:Nat) (y:It),i < j+1→l[i]?=some y→y.key≠k):=fun i y hi hy=>by
     by_cases q:i < j
     ·exact HJ.out i y q hy
     ·rw[show i=j by omega,hx] at hy
      obtain rfl:=Option.some.inj hy
      exact hk
    clear hk hcc hx
    go_wp2
    go_round
    case rel=>exact⟨j+1,by omega,by go_num,HJ2⟩
    case measure=>simp[RowKit.intOf];omega
  ·have e9:j=l.length:=by omega
   subst e9
   have k1:decide ((l.length:Int) < (l.length:Int))=false:=decide_eq_false (by omega)
   obtain⟨g1,g2⟩:=HMis.out (fun i x hx=>HJ.out i x (List.getElem?_eq_some_iff.1 hx).1 hx)
   have HG:=qh g1
   have HD:=qh g2
   clear g1 g2 HHit HMis
   go_wp2
   go_ret2
   exact⟨_,by rw[HG.out];rfl,.inl ⟨rfl,HD.out⟩,Below.refl _ _⟩
theorem drop_none(w:World)(k:ByteArray) :
  Calls Tryz.prog 15 #[.slice none 0 0,.string k] w fun e w'=>e=.returned (.tuple #[.slice none 0 0,.bool false])∧w=w':=by
 go_enter Tryz.func15,Tryz.ntmps15
 go_wp2
 refine wp_loop_rounds 1 ?_
 rw[rounds_succ]
 go_wp2
 go_ret2
 exact⟨rfl,rfl⟩
theorem drop_empty(w:World)(A:Addr)(c:Nat)(k:ByteArray) :
  Calls Tryz.prog 15 #[.slice (some A) 0 c,.string k] w fun e w'=>e=.returned (.tuple #[.slice (some A) 0 c,.bool false])∧w=w':=by
 go_enter Tryz.func15,Tryz.ntmps15
 go_wp2
 refine wp_loop_rounds 1 ?_
 rw[rounds_succ]
 go_wp2
 go_ret2
 exact⟨rfl,rfl⟩
theorem dropL_any(w:World)(v:Value)(l:List It)(k:ByteArray)(h:ItsIn w v l)(hw:∃ a n c,v=.slice a n c∧n≤c∧c≤9223372036854775807)(hl:l.length≤800000)(hr:RightI l) :
  Calls Tryz.prog 15 #[v,.string k] w fun e w'=>∃ u,e=.returned (.tuple #[u,.bool (hasK l k)])∧((u=v∧dropI l k=l)∨OwnI w.heap.size w' u (dropI l k))∧Below w.heap.size w w':=by
 obtain⟨a,n,c,rfl,hc,hm⟩:=hw
 cases a with
 | none=>
  obtain⟨_,rfl,rfl,rfl⟩:=its_nil h rfl
  refine (drop_none w k).mono ?_
  rintro e w' ⟨rfl,rfl⟩
  exact⟨_,rfl,.inl ⟨rfl,rfl⟩,Below.refl _ _⟩
 | some A=>
  obtain rfl:n=l.length:=by
   obtain⟨_,_,e⟩:=h.slice
   simp only[Value.slice.injEq] at e
   exact e.2.1
  by_cases h0:l=[]
  ·subst h0
   refine (drop_empty w A c k).mono ?_
   rintro e w' ⟨rfl,rfl⟩
   exact⟨_,rfl,.inl ⟨rfl,rfl⟩,Below.refl _ _⟩
  ·obtain⟨b,off,rfl⟩:=its_addr h (List.length_pos_iff.2 h0)
   exact drop_some w b off c l k h hc hm hl hr
end Go.Proofs.YtjepgclnbbpnaaaGreat.P12
