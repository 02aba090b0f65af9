/-
  Texts of the proofs of SaidOrd12.
-/
import Derived.Test.YtjepgclnbbpnaaaGreatMs19
set_option linter.unusedVariables false
set_option linter.unusedSimpArgs false
set_option maxHeartbeats 8000000
set_option maxRecDepth 100000
namespace Go.Proofs.YtjepgclnbbpnaaaGreat.P12
open PK (qqA qqB qqC qqD qqE qqF tk tkS dOne qh)
open Go Go.RowKit Go.Lib PK
theorem Nd.take_least(nd:Nd)(k:Nat):(nd.take k).least=nd.least:=by cases nd <;> rfl
theorem Nd.drop_least(nd:Nd)(k:Nat):(nd.drop k).least=nd.least:=by cases nd <;> rfl
theorem Fine.take{nd:Nd}(h:Fine nd){k:Nat}(hk:k≤nd.len)(hl:nd.least≤k):Fine (nd.take k):=
 ⟨h.small.take hk,by have:=nd.sum_cut k;have:=h.sum;omega,.inr (by rw[Nd.take_least,Nd.take_len _ _ hk];exact hl)⟩
theorem Fine.drop{nd:Nd}(h:Fine nd){k:Nat}(hk:k≤nd.len)(hl:nd.least≤nd.len - k):Fine (nd.drop k):=
 ⟨h.small.drop hk,by have:=nd.sum_cut k;have:=h.sum;omega,.inr (by rw[Nd.drop_least,Nd.drop_len];exact hl)⟩
theorem frT_row{x:Option Nat}{w w':World}{lo n m:Nat}{v:Value}{xs:List Value}(h:w.ownsRow lo 80 n v m xs)(hg:w.grownBy w' v.ownBlock):FrT x w w':=⟨hg.size,fun k cs t hs e=>by
 rw[hg.block k (lt_of_block e) fun e2=>?_]
 ·exact e
 ·rcases h.2 with ⟨e3,_⟩|⟨g,cap,cur,e3,_,h4,_⟩
  ·rw[e3] at e2
   cases e2
  ·rw[e3] at e2
   cases e2
   rw[h4] at e
   cases e
   rcases hs.1 with h9|h9 <;> cases h9⟩
theorem Nd.least_or(nd:Nd):nd.least=1∨nd.least=2:=by cases nd <;> simp[Nd.least]
theorem parts_great(N:Nat)(ih:∀ (w:World) (x:Option Nat) (vi vk:Value) (nd:Nd) (d:Bool),nd.len≤N→NdT w x vi vk nd→Fine nd→Calls Tryz.prog 128 #[nd.v vi vk,.bool d] w fun e w'=>∃ v qs,e=.returned v∧NdsIn w.heap.size w' x v qs∧PartsOf nd (qs.map (·.nd))∧Below w.heap.size w w')
  (w:World) (x:Option Nat) (vi vk:Value) (nd:Nd) (d:Bool) (hN:nd.len≤N+1) (h:NdT w x vi vk nd) (hf:Fine nd) (hs:¬ 1+nd.sum≤232) :
  Calls Tryz.prog 128 #[nd.v vi vk,.bool d] w fun e w'=>∃ v qs,e=.returned v∧NdsIn w.heap.size w' x v qs∧PartsOf nd (qs.map (·.nd))∧Below w.heap.size w w':=by
 obtain⟨i0,hi0,hz0,hz1,hz2⟩:=info_parts infoENode
 have hln:=nd.len_sum
 have hmany:=hf.small.many hs
 have hlo:=nd.least_or
 have HF:=qh hf
 have HIh:=qh ih
 obtain⟨W1,hW1⟩:∃ W1,W1=w.alloc (.cells #[.int .i64 nd.kind,vi,vk] 80):=⟨_,rfl⟩
 have b1:Below w.heap.size w W1:=by rw[hW1];exact below_new _ _
 have r1:W1.heap[w.heap.size]?=some (.cells #[.int .i64 nd.kind,vi,vk] 80 (0,0)):=by rw[hW1];exact new_at _ _ _
 have HB1:=qh b1
 have HR1:=qh (fun W (k:Below W1.heap.size W1 W)=>P3.old_below r1 k)
 have HFt:=qh (fun W (k:Below W1.heap.size W1 W)=>fits_any W x vi vk nd (h.keep (FrT.of (thenBelow b1 k))) (by have:=hf.sum;omega))
 have HCn:=qh (fun W (k:Below W1.heap.size W1 W)=>count_any W x vi vk nd (h.keep (FrT.of (thenBelow b1 k))) (by have:=hf.sum;omega))
 have HLs:=qh (fun W=>least_any W vi vk nd)
 have HMd:=qh (fun W (k:Below W1.heap.size W1 W)=>middle_any W x vi vk nd (h.keep (FrT.of (thenBelow b1 k))) hf.sum (by omega))
 have HCut:=qh (fun W (k:Below W1.heap.size W1 W) K (h1:0 < K) (h2:K < nd.len)=>cut_any W x vi vk nd K (h.keep (FrT.of (thenBelow b1 k))) h1 h2)
 have q:=HR1.out W1 (Below.refl _ _)
 have q0:=cell_at q 0
 have q1:=cell_at q 1
 have q2:=cell_at q 2
 simp only[qqD,qqE,qqF] at q0 q1 q2
 have HX1:=qh (Below.refl W1.heap.size W1)
 have hfit:nd.fits=false:=decide_eq_false hs
 rw[hfit] at HFt
 obtain⟨a,n,c,a',n',c',rfl,rfl,_⟩:=h.lens
 unfold Nd.v at HFt HCn HCut HMd HLs ⊢
 simp only[Nd.take_kind,Nd.drop_kind] at HCut
 have HSt:Hid (∀ W,Below W1.heap.size W1 W→W.cell? ⟨w.heap.size,0,none⟩=some (.int .i64 nd.kind)∧W.cell? ⟨w.heap.size,1,none⟩=some (.slice a n c)∧W.cell? ⟨w.heap.size,2,none⟩=some (.slice a' n' c')):=fun W k=>⟨cell_at (P3.old_below r1 k) 0,cell_at (P3.old_below r1 k) 1,cell_at (P3.old_below r1 k) 2⟩
 obtain⟨Kd,hKd⟩:∃ k,k=nd.kind:=⟨_,rfl⟩
 have HKd:=qh hKd
 rw[← hKd] at HFt HCn HCut HMd HLs HR1 q0 hW1 HSt ⊢
 have HS:=qh hs
 have HNN:=qh hN
 have HMn:=qh hmany
 have k0:(((nd.len:Nat):Int) == 0)=false:=beq_false_of_ne (by omega)
 have hkl:IntKind.i64.wrap ((nd.len:Int) - (nd.least:Int))=((nd.len - nd.least:Nat):Int):=by
  have:=hf.sum
  rw[IntKind.wrap_i64]
  omega
 have HGd:Hid (∀ b m,Best nd nd.len b m→0 < b∧b < nd.len∧nd.least≤b∧nd.least≤nd.len - b):=fun b m hb=>hb.good hf.small hs
 clear h b1 r1 q hKd hf hs hN hmany hlo
 have HLo:=qh (nd.least_or)
 have HKK:Hid (0 < nd.len - nd.least∧nd.len - nd.least < nd.len∧nd.least≤nd.len - nd.least∧nd.least≤nd.len - (nd.len - nd.least)):=by
  have h1:=HMn.out.1
  have h2:=HMn.out.2
  rcases HLo.out with h3|h3
  ·rw[h3] at h1 ⊢
   exact (by omega:0 < nd.len - 1∧nd.len - 1 < nd.len∧1≤nd.len - 1∧1≤nd.len - (nd.len - 1))
  ·have h4:=h2 h3
   rw[h3] at h1 ⊢
   exact (by omega:0 < nd.len - 2∧nd.len - 2 < nd.len∧2≤nd.len - 2∧2≤nd.len - (nd.len - 2))
 generalize hLn:nd.len=Ln at *
 have HLn:=qh hLn
 generalize hLs:nd.least=Ls at *
 have HLs2:=qh hLs
 clear hLn hLs
 cases d
 case false=>
  go_enter Tryz.func128,Tryz.ntmps128
  go_upto_region 1 with fail
  rw[← hW1]
  clear hW1
  go_upto_region 8 with (first
   | (go_at_call 97;(with_reducible refine (HCn.out _ HX1.out).mono ?_);rintro e w2 ⟨rfl,h2⟩;have H2:=qh h2;have p:=HR1.out _ h2;have p0:=cell_at p 0;have p1:=cell_at p 1;have p2:=cell_at p 2;simp only[qqD,qqE,qqF] at p0 p1 p2;clear h2 p)
   | (go_at_call 102;(with_reducible refine (HFt.out _ H2.out).mono ?_);rintro e w3 ⟨rfl,h3⟩;have H3:=qh (thenBelow H2.out h3);have p:=HR1.out _ H3.out;have p0:=cell_at p 0;have p1:=cell_at p 1;have p2:=cell_at p 2;simp only[qqD,qqE,qqF] at p0 p1 p2;clear h3 p)
   | (go_at_call 154;(with_reducible refine (HMd.out _ H3.out).mono ?_);rintro e w9 ⟨K,m,rfl,hbest,h9⟩;have HB9:=qh (thenBelow H3.out h9);have HK:=qh (HGd.out K m hbest);clear h9 hbest))
  have hcut:=HCut.out w9 HB9.out K HK.out.1 HK.out.2.1
  have HCu:=qh hcut
  obtain⟨y0,y1,y2⟩:=HSt.out _ HB9.out
  clear hcut
  go_upto_region 9 with (go_at_call 155;(with_reducible refine HCu.out.mono ?_);rintro e w4 ⟨v1,j1,v2,j2,rfl,h4,h5,h6⟩;have H4:=qh h4;have H5:=qh h5;have H6:=qh (thenBelow HB9.out h6);obtain⟨a1,n1,c1,a2,n2,c2,rfl,rfl,_⟩:=h4.lens;obtain⟨a3,n3,c3,a4,n4,c4,rfl,rfl,_⟩:=h5.lens;clear h4 h5 h6)
  obtain⟨g,hg⟩:∃ g,g=w4.heap.size:=⟨_,rfl⟩
  obtain⟨X,hX⟩:∃ X,X=(w4.alloc (.cells #[.int .i64 Kd,.slice a1 n1 c1,.slice a2 n2 c2] 80)).alloc (.cells #[.int .i64 Kd,.slice a3 n3 c3,.slice a4 n4 c4] 80):=⟨_,rfl⟩
  have bX:Below w4.heap.size w4 X:=by rw[hX];exact grow (below_new _ _) _
  have hT:=two_new (w:=w4) (A:=#[.int .i64 Kd,.slice a1 n1 c1,.slice a2 n2 c2]) (B:=#[.int .i64 Kd,.slice a3 n3 c3,.slice a4 n4 c4]) (s:=80) (t:=80) (Below.refl _ _)
  rw[← hX,← hg] at hT
  obtain⟨hT1,hT2⟩:=hT
  rw[← hX,← hg]
  clear hX hg y0 y1 y2
  have hTl:=lt_of_block hT2
  have HSx:Hid (∀ W,Below X.heap.size X W→W.cell? ⟨g,0,none⟩=some (.int .i64 Kd)∧W.cell? ⟨g,1,none⟩=some (.slice a1 n1 c1)∧W.cell? ⟨g,2,none⟩=some (.slice a2 n2 c2)∧W.cell? ⟨g+1,0,none⟩=some (.int .i64 Kd)∧W.cell? ⟨g+1,1,none⟩=some (.slice a3 n3 c3)∧W.cell? ⟨g+1,2,none⟩=some (.slice a4 n4 c4)):=fun W b=>by
   have z1:=P3.old_below hT1 b
   have z2:=P3.old_below hT2 b
   exact⟨cell_at z1 0,cell_at z1 1,cell_at z1 2,cell_at z2 0,cell_at z2 1,cell_at z2 2⟩
  have HXX:=qh (Below.refl X.heap.size X)
  have HBX:Hid (Below w.heap.size w X):=thenBelow (thenBelow HB1.out H6.out) bX
  have hkl2:K≤nd.len:=by rw[HLn.out];have:=HK.out.2.1;omega
  have hf1:Fine (nd.take K):=HF.out.take hkl2 (by rw[HLs2.out];exact HK.out.2.2.1)
  have hf2:Fine (nd.drop K):=HF.out.drop hkl2 (by rw[HLs2.out,HLn.out];exact HK.out.2.2.2)
  have HP1:Hid (∀ W,Below X.heap.size X W→Calls Tryz.prog 128 #[.agg #[.int .i64 Kd,.slice a1 n1 c1,.slice a2 n2 c2],.bool false] W fun e w'=>∃ v qs,e=.returned v∧NdsIn W.heap.size w' x v qs∧PartsOf (nd.take K) (qs.map (·.nd))∧Below W.heap.size W w'):=fun W b=>by
   have:=HIh.out W x (.slice a1 n1 c1) (.slice a2 n2 c2) (nd.take K) false (by rw[Nd.take_len _ _ hkl2];have:=HK.out.2.1;have:=HNN.out;omega) (H4.out.keep (FrT.of (thenBelow bX b))) hf1
   unfold Nd.v at this
   rw[Nd.take_kind,← HKd.out] at this
   exact this
  have HP2:Hid (∀ W,Below X.heap.size X W→Calls Tryz.prog 128 #[.agg #[.int .i64 Kd,.slice a3 n3 c3,.slice a4 n4 c4],.bool false] W fun e w'=>∃ v qs,e=.returned v∧NdsIn W.heap.size w' x v qs∧PartsOf (nd.drop K) (qs.map (·.nd))∧Below W.heap.size W w'):=fun W b=>by
   have:=HIh.out W x (.slice a3 n3 c3) (.slice a4 n4 c4) (nd.drop K) false (by rw[Nd.drop_len,HLn.out];have:=HK.out.1;have:=HNN.out;omega) (H5.out.keep (FrT.of (thenBelow bX b))) hf2
   unfold Nd.v at this
   rw[Nd.drop_kind,← HKd.out] at this
   exact this
  have HQ1:Hid (∀ qs:List Nv,PartsOf (nd.take K) (qs.map (·.nd))→qs.length≤100000):=fun qs h=>by
   have h1:=h.count.1
   rw[List.length_map,Nd.take_len _ _ hkl2] at h1
   have:=nd.len_sum
   have:=HF.out.sum
   omega
  have HQ2:Hid (∀ qs:List Nv,PartsOf (nd.drop K) (qs.map (·.nd))→qs.length≤100000∧0 < qs.length):=fun qs h=>by
   have h1:=h.count
   rw[List.length_map,Nd.drop_len,HLn.out] at h1
   have:=nd.len_sum
   have:=HF.out.sum
   have:=HLn.out
   have:=HK.out.2.1
   exact⟨by omega,h1.2 (by omega)⟩
  have HGr:Hid (∀ (W wz:World) (v:Value),Below X.heap.size X W→(∀ k,v.ownBlock=some k→X.heap.size≤k)→W.grownBy wz v.ownBlock→Below X.heap.size X wz):=fun W wz v b hv k=>b.grown k b.size fun j hj=>hv j hj
  clear hT1 hT2 bX hkl2 hf1 hf2
  go_region_held3 (fun W=>W.cell? ⟨g,0,none⟩=some (.int .i64 Kd)∧W.cell? ⟨g,1,none⟩=some (.slice a1 n1 c1)∧W.cell? ⟨g,2,none⟩=some (.slice a2 n2 c2)∧W.cell? ⟨g+1,0,none⟩=some (.int .i64 Kd)∧W.cell? ⟨g+1,1,none⟩=some (.slice a3 n3 c3)∧W.cell? ⟨g+1,2,none⟩=some (.slice a4 n4 c4)) (first|(with_reducible exact HSx.out _ HBz.out)|(with_reducible exact HSx.out _ HXX.out)|(with_reducible exact HSx.out _ HXX.out.drew)|(with_reducible exact HSx.out _ HBf.out)|(with_reducible exact HSx.out _ HBy.out))
   ((first
    | (go_at_call 128;(with_reducible refine (HP1.out _ (by first|(with_reducible exact HBy.out)|(with_reducible exact HXX.out.drew)|(with_reducible exact HXX.out))).mono ?_);rintro e wy ⟨vf,qf,rfl,k1,k2,k3⟩;have HV1:Hid (NdsIn X.heap.size wy x vf qf):=(by first|exact k1.lo_ HBy.out.size|exact k1.lo_ HXX.out.drew.size|exact k1);have HPf:=qh k2;have HBf:Hid (Below X.heap.size X wy):=(by first|exact thenBelow HBy.out k3|exact thenBelow HXX.out.drew k3|exact k3);(try (have HV2:=qh (HV2.out.below k3)));obtain⟨fa,fc,e9⟩:=k1.slice;subst e9;(try (have HBy:=HBf));clear k1 k2 k3)
    | (go_at_call 128;(with_reducible refine (HP2.out _ (by first|(with_reducible exact HBf.out)|(with_reducible exact HXX.out.drew)|(with_reducible exact HXX.out))).mono ?_);rintro e wy ⟨vb,qb,rfl,k1,k2,k3⟩;have HV2:Hid (NdsIn X.heap.size wy x vb qb):=(by first|exact k1.lo_ HBf.out.size|exact k1.lo_ HXX.out.drew.size|exact k1);have HPb:=qh k2;have HBy:Hid (Below X.heap.size X wy):=(by first|exact thenBelow HBf.out k3|exact thenBelow HXX.out.drew k3|exact k3);(try (have HV1:=qh (HV1.out.below k3)));obtain⟨bg,bc,e9,_⟩:=k1.form (HQ2.out _ k2).2;subst e9;(try (have HBf:=HBy));clear k1 k2 k3)
    | (refine step_append_lies _ (by rfl) (.tmp 32) (.tmp 34) 170 (by rfl) X.heap.size 80 i0 (Value.agg #[.int .i64 0,.slice none 0 0,.slice none 0 0]) 3 56 Tryz.underlying170 hi0 hz0 hz1 hz2 (by rfl) (by omega) _ qf.length _ (by rfl) HV1.out.own ⟨bg,0,none⟩ qb.length bc (qb.map Nv.cells).flatten (by rfl) (nv_len qb) (fun j u hu=>by
      obtain⟨g9,c9,e9,_,_,h9⟩:=HV2.out.form (HQ2.out _ HPb.out).2
      simp only[Value.slice.injEq,Option.some.injEq,Addr.mk.injEq,and_true] at e9
      obtain⟨rfl,_⟩:=e9
      exact h9 _ (Below.refl _ _) j u hu) HV2.out.one (HQ2.out _ HPb.out).2 (by have:=HQ1.out _ HPf.out;have:=(HQ2.out _ HPb.out).1;unfold maxLen;omega) (by have:=HQ1.out _ HPf.out;have:=(HQ2.out _ HPb.out).1;omega) (by first|exact HBf.out.size|exact HBy.out.size) _ rfl ?_;intro gg cap wz hown hgrow hat hlt;have HBz:Hid (Below X.heap.size X wz):=HGr.out _ _ _ (by first|(with_reducible exact HBf.out)|(with_reducible exact HBy.out)) (fun k hk=>(HV1.out.own.lt k hk).1) hgrow;have HOw:=qh hown;have HGw:=qh hgrow;clear hown hgrow hat hlt)))
  all_goals
   go_wp2
   go_ret
   have hft:=frT_row (x:=x) HV1.out.own HGw.out
   have hcat:=HPf.out.two HPb.out
   rw[← List.map_append] at hcat
   refine⟨_,qf++qb,rfl,⟨?_,fun q hq=>?_⟩,hcat,thenBelow HBX.out HBz.out⟩
   ·rw[List.length_append,List.map_append,List.flatten_append]
    exact owns_lo HOw.out HBX.out.size
   ·rcases List.mem_append.1 hq with hq|hq
    ·exact (HV1.out.nd q hq).keep hft
    ·exact (HV2.out.nd q hq).keep hft
 case true=>
  obtain⟨K,hKdef⟩:∃ K,K=Ln - Ls:=⟨_,rfl⟩
  rw[← hKdef] at hkl HKK
  have HK:=HKK
  clear hKdef HKK
  go_enter Tryz.func128,Tryz.ntmps128
  go_upto_region 1 with fail
  rw[← hW1]
  clear hW1
  go_upto_region 7 with (first
   | (go_at_call 97;(with_reducible refine (HCn.out _ HX1.out).mono ?_);rintro e w2 ⟨rfl,h2⟩;have H2:=qh h2;have p:=HR1.out _ h2;have p0:=cell_at p 0;have p1:=cell_at p 1;have p2:=cell_at p 2;simp only[qqD,qqE,qqF] at p0 p1 p2;clear h2 p)
   | (go_at_call 102;(with_reducible refine (HFt.out _ H2.out).mono ?_);rintro e w3 ⟨rfl,h3⟩;have H3:=qh (thenBelow H2.out h3);have p:=HR1.out _ H3.out;have p0:=cell_at p 0;have p1:=cell_at p 1;have p2:=cell_at p 2;simp only[qqD,qqE,qqF] at p0 p1 p2;clear h3 p)
   | (go_at_call 154;(with_reducible refine (HMd.out _ H3.out).mono ?_);rintro e w8 ⟨bb,m,rfl,hbest,h9⟩;have HB8:=qh (thenBelow H3.out h9);clear h9 hbest))
  clear q0 q1 q2 p0 p1 p2
  go_region_held3 (fun W=>W.cell? ⟨w.heap.size,0,none⟩=some (.int .i64 Kd)∧W.cell? ⟨w.heap.size,1,none⟩=some (.slice a n c)∧W.cell? ⟨w.heap.size,2,none⟩=some (.slice a' n' c')) (first|(with_reducible exact HSt.out _ HB8.out)|(with_reducible exact HSt.out _ HB8.out.drew)|(with_reducible exact HSt.out _ HB9.out))
   ((first
    | (go_at_call 97;(with_reducible refine (HCn.out _ (by first|(with_reducible exact HB9.out)|(with_reducible exact HB8.out.drew)|(with_reducible exact HB8.out))).mono ?_);rintro e w9 ⟨rfl,h9⟩;have HB9:Hid (Below W1.heap.size W1 w9):=(by first|exact thenBelow HB9.out h9|exact thenBelow HB8.out.drew h9|exact thenBelow HB8.out h9);clear h9)
    | (go_at_call 98;(with_reducible refine (HLs.out _).mono ?_);rintro e w9 ⟨rfl,h9⟩;have HB9:Hid (Below W1.heap.size W1 w9):=(by first|exact thenBelow HB9.out h9|exact thenBelow HB8.out.drew h9|exact thenBelow HB8.out h9);clear h9)))
  all_goals
   go_upto_region 8 with fail
   have hcut:=HCut.out w9 HB9.out K HK.out.1 HK.out.2.1
   have HCu:=qh hcut
   obtain⟨y0,y1,y2⟩:=HSt.out _ HB9.out
   clear hcut
   go_upto_region 9 with (go_at_call 155;(with_reducible refine HCu.out.mono ?_);rintro e w4 ⟨v1,j1,v2,j2,rfl,h4,h5,h6⟩;have H4:=qh h4;have H5:=qh h5;have H6:=qh (thenBelow HB9.out h6);obtain⟨a1,n1,c1,a2,n2,c2,rfl,rfl,_⟩:=h4.lens;obtain⟨a3,n3,c3,a4,n4,c4,rfl,rfl,_⟩:=h5.lens;clear h4 h5 h6)
   obtain⟨g,hg⟩:∃ g,g=w4.heap.size:=⟨_,rfl⟩
   obtain⟨X,hX⟩:∃ X,X=(w4.alloc (.cells #[.int .i64 Kd,.slice a1 n1 c1,.slice a2 n2 c2] 80)).alloc (.cells #[.int .i64 Kd,.slice a3 n3 c3,.slice a4 n4 c4] 80):=⟨_,rfl⟩
   have bX:Below w4.heap.size w4 X:=by rw[hX];exact grow (below_new _ _) _
   have hT:=two_new (w:=w4) (A:=#[.int .i64 Kd,.slice a1 n1 c1,.slice a2 n2 c2]) (B:=#[.int .i64 Kd,.slice a3 n3 c3,.slice a4 n4 c4]) (s:=80) (t:=80) (Below.refl _ _)
   rw[← hX,← hg] at hT
   obtain⟨hT1,hT2⟩:=hT
   rw[← hX,← hg]
   clear hX hg y0 y1 y2
   have hTl:=lt_of_block hT2
   have HSx:Hid (∀ W,Below X.heap.size X W→W.cell? ⟨g,0,none⟩=some (.int .i64 Kd)∧W.cell? ⟨g,1,none⟩=some (.slice a1 n1 c1)∧W.cell? ⟨g,2,none⟩=some (.slice a2 n2 c2)∧W.cell? ⟨g+1,0,none⟩=some (.int .i64 Kd)∧W.cell? ⟨g+1,1,none⟩=some (.slice a3 n3 c3)∧W.cell? ⟨g+1,2,none⟩=some (.slice a4 n4 c4)):=fun W b=>by
    have z1:=P3.old_below hT1 b
    have z2:=P3.old_below hT2 b
    exact⟨cell_at z1 0,cell_at z1 1,cell_at z1 2,cell_at z2 0,cell_at z2 1,cell_at z2 2⟩
   have HXX:=qh (Below.refl X.heap.size X)
   have HBX:Hid (Below w.heap.size w X):=thenBelow (thenBelow HB1.out H6.out) bX
   have hkl2:K≤nd.len:=by rw[HLn.out];have:=HK.out.2.1;omega
   have hf1:Fine (nd.take K):=HF.out.take hkl2 (by rw[HLs2.out];exact HK.out.2.2.1)
   have hf2:Fine (nd.drop K):=HF.out.drop hkl2 (by rw[HLs2.out,HLn.out];exact HK.out.2.2.2)
   have HP1:Hid (∀ W,Below X.heap.size X W→Calls Tryz.prog 128 #[.agg #[.int .i64 Kd,.slice a1 n1 c1,.slice a2 n2 c2],.bool false] W fun e w'=>∃ v qs,e=.returned v∧NdsIn W.heap.size w' x v qs∧PartsOf (nd.take K) (qs.map (·.nd))∧Below W.heap.size W w'):=fun W b=>by
    have:=HIh.out W x (.slice a1 n1 c1) (.slice a2 n2 c2) (nd.take K) false (by rw[Nd.take_len _ _ hkl2];have:=HK.out.2.1;have:=HNN.out;omega) (H4.out.keep (FrT.of (thenBelow bX b))) hf1
    unfold Nd.v at this
    rw[Nd.take_kind,← HKd.out] at this
    exact this
   have HP2:Hid (∀ W,Below X.heap.size X W→Calls Tryz.prog 128 #[.agg #[.int .i64 Kd,.slice a3 n3 c3,.slice a4 n4 c4],.bool false] W fun e w'=>∃ v qs,e=.returned v∧NdsIn W.heap.size w' x v qs∧PartsOf (nd.drop K) (qs.map (·.nd))∧Below W.heap.size W w'):=fun W b=>by
    have:=HIh.out W x (.slice a3 n3 c3) (.slice a4 n4 c4) (nd.drop K) false (by rw[Nd.drop_len,HLn.out];have:=HK.out.1;have:=HNN.out;omega) (H5.out.keep (FrT.of (thenBelow bX b))) hf2
    unfold Nd.v at this
    rw[Nd.drop_kind,← HKd.out] at this
    exact this
   have HQ1:Hid (∀ qs:List Nv,PartsOf (nd.take K) (qs.map (·.nd))→qs.length≤100000):=fun qs h=>by
    have h1:=h.count.1
    rw[List.length_map,Nd.take_len _ _ hkl2] at h1
    have:=nd.len_sum
    have:=HF.out.sum
    omega
   have HQ2:Hid (∀ qs:List Nv,PartsOf (nd.drop K) (qs.map (·.nd))→qs.length≤100000∧0 < qs.length):=fun qs h=>by
    have h1:=h.count
    rw[List.length_map,Nd.drop_len,HLn.out] at h1
    have:=nd.len_sum
    have:=HF.out.sum
    have:=HLn.out
    have:=HK.out.2.1
    exact⟨by omega,h1.2 (by omega)⟩
   have HGr:Hid (∀ (W wz:World) (v:Value),Below X.heap.size X W→(∀ k,v.ownBlock=some k→X.heap.size≤k)→W.grownBy wz v.ownBlock→Below X.heap.size X wz):=fun W wz v b hv k=>b.grown k b.size fun j hj=>hv j hj
   clear hT1 hT2 bX hkl2 hf1 hf2
   go_region_held3 (fun W=>W.cell? ⟨g,0,none⟩=some (.int .i64 Kd)∧W.cell? ⟨g,1,none⟩=some (.slice a1 n1 c1)∧W.cell? ⟨g,2,none⟩=some (.slice a2 n2 c2)∧W.cell? ⟨g+1,0,none⟩=some (.int .i64 Kd)∧W.cell? ⟨g+1,1,none⟩=some (.slice a3 n3 c3)∧W.cell? ⟨g+1,2,none⟩=some (.slice a4 n4 c4)) (first|(with_reducible exact HSx.out _ HBz.out)|(with_reducible exact HSx.out _ HXX.out)|(with_reducible exact HSx.out _ HXX.out.drew)|(with_reducible exact HSx.out _ HBf.out)|(with_reducible exact HSx.out _ HBy.out))
    ((first
     | (go_at_call 128;(with_reducible refine (HP1.out _ (by first|(with_reducible exact HBy.out)|(with_reducible exact HXX.out.drew)|(with_reducible exact HXX.out))).mono ?_);rintro e wy ⟨vf,qf,rfl,k1,k2,k3⟩;have HV1:Hid (NdsIn X.heap.size wy x vf qf):=(by first|exact k1.lo_ HBy.out.size|exact k1.lo_ HXX.out.drew.size|exact k1);have HPf:=qh k2;have HBf:Hid (Below X.heap.size X wy):=(by first|exact thenBelow HBy.out k3|exact thenBelow HXX.out.drew k3|exact k3);(try (have HV2:=qh (HV2.out.below k3)));obtain⟨fa,fc,e9⟩:=k1.slice;subst e9;(try (have HBy:=HBf));clear k1 k2 k3)
     | (go_at_call 128;(with_reducible refine (HP2.out _ (by first|(with_reducible exact HBf.out)|(with_reducible exact HXX.out.drew)|(with_reducible exact HXX.out))).mono ?_);rintro e wy ⟨vb,qb,rfl,k1,k2,k3⟩;have HV2:Hid (NdsIn X.heap.size wy x vb qb):=(by first|exact k1.lo_ HBf.out.size|exact k1.lo_ HXX.out.drew.size|exact k1);have HPb:=qh k2;have HBy:Hid (Below X.heap.size X wy):=(by first|exact thenBelow HBf.out k3|exact thenBelow HXX.out.drew k3|exact k3);(try (have HV1:=qh (HV1.out.below k3)));obtain⟨bg,bc,e9,_⟩:=k1.form (HQ2.out _ k2).2;subst e9;(try (have HBf:=HBy));clear k1 k2 k3)
     | (refine step_append_lies _ (by rfl) (.tmp 32) (.tmp 34) 170 (by rfl) X.heap.size 80 i0 (Value.agg #[.int .i64 0,.slice none 0 0,.slice none 0 0]) 3 56 Tryz.underlying170 hi0 hz0 hz1 hz2 (by rfl) (by omega) _ qf.length _ (by rfl) HV1.out.own ⟨bg,0,none⟩ qb.length bc (qb.map Nv.cells).flatten (by rfl) (nv_len qb) (fun j u hu=>by
       obtain⟨g9,c9,e9,_,_,h9⟩:=HV2.out.form (HQ2.out _ HPb.out).2
       simp only[Value.slice.injEq,Option.some.injEq,Addr.mk.injEq,and_true] at e9
       obtain⟨rfl,_⟩:=e9
       exact h9 _ (Below.refl _ _) j u hu) HV2.out.one (HQ2.out _ HPb.out).2 (by have:=HQ1.out _ HPf.out;have:=(HQ2.out _ HPb.out).1;unfold maxLen;omega) (by have:=HQ1.out _ HPf.out;have:=(HQ2.out _ HPb.out).1;omega) (by first|exact HBf.out.size|exact HBy.out.size) _ rfl ?_;intro gg cap wz hown hgrow hat hlt;have HBz:Hid (Below X.heap.size X wz):=HGr.out _ _ _ (by first|(with_reducible exact HBf.out)|(with_reducible exact HBy.out)) (fun k hk=>(HV1.out.own.lt k hk).1) hgrow;have HOw:=qh hown;have HGw:=qh hgrow;clear hown hgrow hat hlt)))
   all_goals
    go_wp2
    go_ret
    have hft:=frT_row (x:=x) HV1.out.own HGw.out
    have hcat:=HPf.out.two HPb.out
    rw[← List.map_append] at hcat
    refine⟨_,qf++qb,rfl,⟨?_,fun q hq=>?_⟩,hcat,thenBelow HBX.out HBz.out⟩
    ·rw[List.length_append,List.map_append,List.flatten_append]
     exact owns_lo HOw.out HBX.out.size
    ·rcases List.mem_append.1 hq with hq|hq
     ·exact (HV1.out.nd q hq).keep hft
     ·exact (HV2.out.nd q hq).keep hft
theorem parts_any:∀ (N:Nat) (w:World) (x:Option Nat) (vi vk:Value) (nd:Nd) (d:Bool),nd.len≤N→NdT w x vi vk nd→Fine nd→Calls Tryz.prog 128 #[nd.v vi vk,.bool d] w fun e w'=>∃ v qs,e=.returned v∧NdsIn w.heap.size w' x v qs∧PartsOf nd (qs.map (·.nd))∧Below w.heap.size w w'
 | 0,w,x,vi,vk,nd,d,hN,h,hf=>parts_small w x vi vk nd d h hf (.inl (by omega))
 | N+1,w,x,vi,vk,nd,d,hN,h,hf=>by
  by_cases hs:1+nd.sum≤232
  ·exact parts_small w x vi vk nd d h hf (.inr hs)
  ·exact parts_great N (parts_any N) w x vi vk nd d hN h hf hs
end Go.Proofs.YtjepgclnbbpnaaaGreat.P12
namespace Go.Proofs.YtjepgclnbbpnaaaGreat.P12
open Go Go.RowKit Go.Lib PK
open P11 (Pg cellsP PgsIn)
theorem Went.ext{S:Nat→Prop}{w wr w':World}{G G':Cg}(h:Went w wr G G')(h0:CAt w G)(e:G'.ps=G.ps)(f:P3.Fr S wr w')(hS:∀ k,S k→w.heap.size≤k∧¬ G'.S k):Went w w' G G':=by
 have ft:FrT none w w':=⟨Nat.le_trans h.ft.size f.size,fun k cs t hs hk=>by
  have h1:=h.ft.blk k cs t hs hk
  have h2:=lt_of_block hk
  rw[f.block k (lt_of_block h1) fun e2=>by have:=(hS k e2).1;omega]
  exact h1⟩
 refine⟨⟨h.at_.pg.fr f fun j hj e2=>(hS j e2).2 (.inl hj),⟨f.keep h.at_.sk.obj fun e2=>(hS _ e2).2 (.inr (.inl (.inl rfl))),owns_fr h.at_.sk.row f fun j hj e2=>(hS j e2).2 (.inr (.inl (.inr (.inl hj)))),fun p hp=>?_,h.at_.sk.seen.fr f fun e2=>(hS _ e2).2 (.inr (.inl (.inr (.inr rfl))))⟩,
  h.at_.ch.fr f fun j hj e2=>(hS j e2).2 (.inr (.inr hj)),h.at_.ap⟩,⟨f.os.trans h.fr.os,f.tape.trans h.fr.tape,f.output.trans h.fr.output,Nat.le_trans h.fr.size f.size,fun k hk hn=>?_⟩,h.new,ft⟩
 ·rw[e] at hp
  exact (h0.sk.nd p hp).keep ft
 ·rw[f.block k (Nat.lt_of_lt_of_le hk h.fr.size) fun e2=>by have:=(hS k e2).1;omega]
  exact h.fr.block k hk hn
structure OldIn (w:World) (G:Cg) (v:Value) (l:List Pg):Prop where
 pgs:PgsIn w v l
 off:∀ k,v.ownBlock=some k→¬ G.S k∧k < w.heap.size
theorem OldIn.went{w w':World}{G G':Cg}{v:Value}{l:List Pg}(h:OldIn w G v l)(k:Went w w' G G'):OldIn w' G' v l:=by
 refine⟨elems_blk h.pgs k.fr.size fun j hj=>k.fr.block j (h.off j hj).2 (h.off j hj).1,fun j hj=>?_⟩
 obtain⟨h1,h2⟩:=h.off j hj
 refine⟨fun e=>?_,Nat.lt_of_lt_of_le h2 k.fr.size⟩
 rcases k.new j e with e2|e2
 ·exact h1 e2
 ·omega
theorem OldIn.nil(w:World)(G:Cg):OldIn w G (.slice none 0 0) []:=⟨(P11.OwnP.nil 0 w).pgs,fun k e=>by cases e⟩
def spl(M:PM)(n:Nat)(a:List Pg×List Int)(p:Pg):List Pg×List Int:=if a.1.length < n∧M.mine p.id=true then (a.1++[p],a.2) else (a.1,a.2++[p.id])
def splitM(M:PM)(n:Nat)(l:List Pg):List Pg×List Int:=l.foldl (spl M n) ([],[])
theorem splitM_snoc(M:PM)(n:Nat)(l:List Pg)(p:Pg):splitM M n (l++[p])=spl M n (splitM M n l) p:=by
 unfold splitM
 rw[List.foldl_append]
 rfl
theorem spl_len(M:PM)(n:Nat):∀ (l:List Pg) (a:List Pg×List Int),(l.foldl (spl M n) a).1.length≤a.1.length+l.length∧(l.foldl (spl M n) a).2.length≤a.2.length+l.length
 | [],a=>⟨Nat.le_refl _,Nat.le_refl _⟩
 | p::l,a=>by
  obtain⟨h1,h2⟩:=spl_len M n l (spl M n a p)
  have h3:(spl M n a p).1.length≤a.1.length+1∧(spl M n a p).2.length≤a.2.length+1:=by
   unfold spl
   split
   ·simp
   ·simp
  rw[List.foldl_cons,List.length_cons]
  omega
theorem splitM_len(M:PM)(n:Nat)(l:List Pg):(splitM M n l).1.length≤l.length∧(splitM M n l).2.length≤l.length:=by
 have:=spl_len M n l ([],[])
 simp only[List.length_nil] at this
 unfold splitM
 omega
structure Ks where
 M:PM
 sets:List Pg
 made:List Int
 ws:List P10.It
noncomputable def kst(mine:List Pg)(a:Ks)(j:Nat)(nd:Nd):Ks:=match mine[j]? with
 | some p=>{ a with sets:=a.sets++[⟨p.k,p.id,p.tx,nd.body⟩],ws:=a.ws++[⟨nd.key,p.id⟩] }
 | none=>{ a with M:=a.M.push ⟨nd.kind,0,0,nd.body⟩,made:=a.made++[a.M.next],ws:=a.ws++[⟨nd.key,a.M.next⟩] }
noncomputable def kfold(mine:List Pg):Nat→Ks→List Nd→Ks
 | _,a,[]=>a
 | j,a,nd::ps=>kfold mine (j+1) (kst mine a j nd) ps
theorem kfold_snoc(mine:List Pg):∀ (ps:List Nd) (j:Nat) (a:Ks) (nd:Nd),kfold mine j a (ps++[nd])=kst mine (kfold mine j a ps) (j+ps.length) nd
 | [],j,a,nd=>rfl
 | q::ps,j,a,nd=>by
  rw[List.cons_append]
  show kfold mine (j+1) (kst mine a j q) (ps++[nd])=kst mine (kfold mine (j+1) (kst mine a j q) ps) (j+(ps.length+1)) nd
  rw[kfold_snoc mine ps,Nat.add_assoc,Nat.add_comm 1]
theorem kst_lens(mine:List Pg)(a:Ks)(j:Nat)(nd:Nd):(kst mine a j nd).M.L.length≤a.M.L.length+1∧(kst mine a j nd).sets.length≤a.sets.length+1∧(kst mine a j nd).made.length≤a.made.length+1∧(kst mine a j nd).ws.length=a.ws.length+1:=by
 unfold kst
 cases mine[j]? with
 | some p=>exact⟨Nat.le_succ _,by simp,Nat.le_succ _,by simp⟩
 | none=>exact⟨by show (a.M.L++[_]).length≤_;simp,Nat.le_succ _,by simp,by simp⟩
theorem kfold_lens(mine:List Pg):∀ (ps:List Nd) (j:Nat) (a:Ks),(kfold mine j a ps).M.L.length≤a.M.L.length+ps.length∧(kfold mine j a ps).sets.length≤a.sets.length+ps.length∧(kfold mine j a ps).made.length≤a.made.length+ps.length∧(kfold mine j a ps).ws.length=a.ws.length+ps.length
 | [],j,a=>⟨Nat.le_refl _,Nat.le_refl _,Nat.le_refl _,rfl⟩
 | nd::ps,j,a=>by
  obtain⟨h1,h2,h3,h4⟩:=kst_lens mine a j nd
  obtain⟨g1,g2,g3,g4⟩:=kfold_lens mine ps (j+1) (kst mine a j nd)
  rw[List.length_cons]
  show (kfold mine (j+1) (kst mine a j nd) ps).M.L.length≤_∧(kfold mine (j+1) (kst mine a j nd) ps).sets.length≤_∧(kfold mine (j+1) (kst mine a j nd) ps).made.length≤_∧(kfold mine (j+1) (kst mine a j nd) ps).ws.length=_
  omega
def Nd.sorted:Nd→Prop
 | .lf l=>P9.RightI l
 | .tw l=>P10.RightO l
theorem parts_good{nd:Nd}{ps:List Nd}(h:PartsOf nd ps)(hs:nd.sorted):∀ p∈ps,p.good:=fun p hp=>by
 cases nd with
 | lf l=>
  obtain⟨ls,rfl,h1,h2⟩:=h
  obtain⟨m,hm,rfl⟩:=List.mem_map.1 hp
  obtain⟨h3,h4⟩:=h2 m hm
  refine⟨?_,h4,h3⟩
  have:List.Sublist m l:=by rw[← h1];exact List.sublist_flatten_of_mem hm
  exact P9.RightI.sub hs this
 | tw l=>
  obtain⟨ls,rfl,h1,h2⟩:=h
  obtain⟨m,hm,rfl⟩:=List.mem_map.1 hp
  obtain⟨h3,h4⟩:=h2 m hm
  refine⟨?_,h4,h3⟩
  have:List.Sublist m l:=by rw[← h1];exact List.sublist_flatten_of_mem hm
  exact P10.RightO.sub hs this
theorem good_lay{nd:Nd}(h:nd.good):nd.lay=(nd.body,0):=by
 cases nd with
 | lf l=>
  show P9.layR l=_
  unfold P9.layR
  rw[if_pos h.1,if_pos h.2.1]
  rfl
 | tw l=>
  show P10.layR l=_
  unfold P10.layR
  rw[if_pos (show P10.RightI l from⟨h.1,by have:=h.2.2;omega⟩),if_pos h.2.1]
  rfl
end Go.Proofs.YtjepgclnbbpnaaaGreat.P12
