/-
  Texts of the proofs of SaidOrd12.
-/
import Derived.Test.YtjepgclnbbpnaaaGreatMs18
set_option linter.unusedVariables false
set_option linter.unusedSimpArgs false
set_option maxHeartbeats 8000000
set_option maxRecDepth 100000
namespace Go.Proofs.YtjepgclnbbpnaaaGreat.P12
open Go Go.RowKit Go.Lib PK
def Nd.cap:Nd→Nat
 | .lf _=>200
 | .tw _=>36
def Nd.small(nd:Nd):Prop:=∀ j,j < nd.len→(nd.take j).sum < (nd.take (j+1)).sum∧(nd.take (j+1)).sum≤(nd.take j).sum+nd.cap
def PartsOf:Nd→List Nd→Prop
 | .lf l,ps=>∃ ls:List (List P9.It),ps=ls.map .lf∧ls.flatten=l∧∀ m∈ls,0 < m.length∧1+P9.sumI m≤232
 | .tw l,ps=>∃ ls:List (List P10.It),ps=ls.map .tw∧ls.flatten=l∧∀ m∈ls,2≤m.length∧1+P10.sumI m≤232
theorem Nd.take_all(nd:Nd):nd.take nd.len=nd:=by
 cases nd with
 | lf l=>show Nd.lf (l.take l.length)=_;rw[List.take_length]
 | tw l=>show Nd.tw (l.take l.length)=_;rw[List.take_length]
theorem Nd.take_zero(nd:Nd):(nd.take 0).sum=0:=by cases nd <;> rfl
theorem Nd.take_take(nd:Nd)(j k:Nat)(h:j≤k):(nd.take k).take j=nd.take j:=by
 cases nd with
 | lf l=>show Nd.lf ((l.take k).take j)=Nd.lf (l.take j);rw[List.take_take,Nat.min_eq_left h]
 | tw l=>show Nd.tw ((l.take k).take j)=Nd.tw (l.take j);rw[List.take_take,Nat.min_eq_left h]
theorem Nd.drop_take(nd:Nd)(j k:Nat)(h:k≤nd.len):((nd.drop k).take j).sum+(nd.take k).sum=(nd.take (k+j)).sum:=by
 cases nd with
 | lf l=>
  show P9.sumI ((l.drop k).take j)+P9.sumI (l.take k)=P9.sumI (l.take (k+j))
  rw[List.take_add,P9.sumI_app,Nat.add_comm]
 | tw l=>
  show P10.sumI ((l.drop k).take j)+P10.sumI (l.take k)=P10.sumI (l.take (k+j))
  rw[List.take_add,P10.sumI_app,Nat.add_comm]
theorem Nd.small.take{nd:Nd}(h:nd.small){k:Nat}(hk:k≤nd.len):(nd.take k).small:=fun j hj=>by
 rw[Nd.take_len _ _ hk] at hj
 have e:(nd.take k).cap=nd.cap:=by cases nd <;> rfl
 rw[Nd.take_take _ _ _ (by omega),Nd.take_take _ _ _ (by omega),e]
 exact h j (by omega)
theorem Nd.small.drop{nd:Nd}(h:nd.small){k:Nat}(hk:k≤nd.len):(nd.drop k).small:=fun j hj=>by
 rw[Nd.drop_len] at hj
 have e:(nd.drop k).cap=nd.cap:=by cases nd <;> rfl
 rw[e]
 have h1:=nd.drop_take j k hk
 have h2:=nd.drop_take (j+1) k hk
 have h3:=h (k+j) (by omega)
 rw[Nat.add_assoc] at h3
 omega
theorem Nd.small.mono{nd:Nd}(h:nd.small):∀ {i j:Nat},i≤j→j≤nd.len→(nd.take i).sum+(j - i)≤(nd.take j).sum∧(nd.take j).sum≤(nd.take i).sum+(j - i)*nd.cap:=fun {i j} hij hj=>by
 obtain⟨d,rfl⟩:∃ d,j=i+d:=⟨j - i,by omega⟩
 rw[Nat.add_sub_cancel_left]
 clear hij
 induction d with
 | zero=>simp
 | succ d ih=>
  obtain⟨h1,h2⟩:=ih (by omega)
  obtain⟨h3,h4⟩:=h (i+d) (by omega)
  rw[show i+(d+1)=i+d+1 from rfl,Nat.succ_mul]
  omega
theorem Nd.ms_eq(nd:Nd)(j:Nat):nd.ms j=max (1+(nd.take j).sum) (1+(nd.sum - (nd.take j).sum)):=by
 have:=nd.sum_cut j
 unfold Nd.ms
 congr 2
 omega
theorem Nd.small.sum{nd:Nd}(h:nd.small){j:Nat}(hj:j≤nd.len):(nd.take j).sum+(nd.len - j)≤nd.sum∧nd.sum≤(nd.take j).sum+(nd.len - j)*nd.cap:=by
 have:=h.mono hj (Nat.le_refl _)
 rwa[Nd.take_all] at this
theorem Nd.small.many{nd:Nd}(h:nd.small)(hf:¬ 1+nd.sum≤232):nd.least+1≤nd.len∧(nd.least=2→7≤nd.len):=by
 have h0:=h.sum (Nat.zero_le _)
 rw[Nd.take_zero] at h0
 cases nd with
 | lf l=>
  have hc:(Nd.lf l).cap=200:=rfl
  have hl:(Nd.lf l).least=1:=rfl
  rw[hc] at h0
  omega
 | tw l=>
  have hc:(Nd.tw l).cap=36:=rfl
  have hl:(Nd.tw l).least=2:=rfl
  rw[hc] at h0
  omega
theorem Best.good {nd : Nd} (h : nd.small) (hf:¬ 1+nd.sum≤232) {b m:Nat} (hb:Best nd nd.len b m):0 < b∧b < nd.len∧nd.least≤b∧nd.least≤nd.len - b:=by
 obtain⟨hm1,hm2⟩:=h.many hf
 have e0:=Nd.take_zero nd
 have s1:=h.mono (i:=0) (j:=1) (by omega) (by omega)
 have z1:=h.sum (j:=1) (by omega)
 have l1 := hb.least 1 (Nat.le_refl _) (by have:1≤nd.least:=by cases nd <;> simp[Nd.least]
                                           omega)
 rw[Nd.ms_eq] at l1
 have hleast:nd.least=1∨nd.least=2:=by cases nd <;> simp[Nd.least]
 have hb0:b≠0:=fun e=>by
  have:=hb.zero e
  rcases hleast with e1|e1 <;> omega
 have hat:=hb.at_ hb0
 have hlt:=hb.lt
 refine⟨by omega,hlt,?_⟩
 rcases hleast with e1|e1
 ·omega
 ·have h7:=hm2 e1
  have hc:nd.cap=36:=by
   cases nd with
   | lf l=>cases e1
   | tw l=>rfl
  rw[hc] at s1 z1
  rw[Nd.ms_eq] at hat
  have s2:=h.mono (i:=1) (j:=2) (by omega) (by omega)
  rw[hc] at s2
  have l2:=hb.least 2 (by omega) (by omega)
  rw[Nd.ms_eq] at l2
  have l3:=hb.least (nd.len - 2) (by omega) (by omega)
  rw[Nd.ms_eq] at l3
  have s3:=h.mono (i:=nd.len - 2) (j:=nd.len - 1) (by omega) (by omega)
  have z3:=h.sum (j:=nd.len - 1) (by omega)
  have z2:=h.sum (j:=nd.len - 2) (by omega)
  rw[hc] at s3 z3 z2
  have e3:nd.len - 1 - (nd.len - 2)=1:=by omega
  have e4:nd.len - (nd.len - 1)=1:=by omega
  have e5:nd.len - (nd.len - 2)=2:=by omega
  rw[e3] at s3
  rw[e4] at z3
  rw[e5] at z2
  have hb1:b≠1:=fun e=>by
   rw[e] at hat
   omega
  have hb2:b≠nd.len - 1:=fun e=>by
   rw[e] at hat
   omega
  omega
theorem PartsOf.nil{nd:Nd}(h:nd.len=0):PartsOf nd []:=by
 cases nd with
 | lf l=>exact⟨[],rfl,by have:l.length=0:=h;rw[List.length_eq_zero_iff.1 this];rfl,fun _ h=>(List.not_mem_nil h).elim⟩
 | tw l=>exact⟨[],rfl,by have:l.length=0:=h;rw[List.length_eq_zero_iff.1 this];rfl,fun _ h=>(List.not_mem_nil h).elim⟩
theorem PartsOf.one{nd:Nd}(h:nd.least≤nd.len)(hf:1+nd.sum≤232):PartsOf nd [nd]:=by
 cases nd with
 | lf l=>exact⟨[l],rfl,by simp,fun m hm=>by cases List.mem_singleton.1 hm;exact⟨h,hf⟩⟩
 | tw l=>exact⟨[l],rfl,by simp,fun m hm=>by cases List.mem_singleton.1 hm;exact⟨h,hf⟩⟩
theorem PartsOf.two{nd:Nd}{k:Nat}{ps qs:List Nd}(h:PartsOf (nd.take k) ps)(g:PartsOf (nd.drop k) qs):PartsOf nd (ps++qs):=by
 cases nd with
 | lf l=>
  obtain⟨a,rfl,h1,h2⟩:=h
  obtain⟨b,rfl,g1,g2⟩:=g
  exact⟨a++b,by rw[List.map_append],by rw[List.flatten_append,h1,g1,List.take_append_drop],fun m hm=>(List.mem_append.1 hm).elim (h2 m) (g2 m)⟩
 | tw l=>
  obtain⟨a,rfl,h1,h2⟩:=h
  obtain⟨b,rfl,g1,g2⟩:=g
  exact⟨a++b,by rw[List.map_append],by rw[List.flatten_append,h1,g1,List.take_append_drop],fun m hm=>(List.mem_append.1 hm).elim (h2 m) (g2 m)⟩
theorem flat_count{α:Type}:∀ {ls:List (List α)},(∀ m∈ls,0 < m.length)→ls.length≤ls.flatten.length
 | [],_=>Nat.le_refl _
 | m::ls,h=>by
  have:=flat_count (ls:=ls) fun q hq=>h q (List.mem_cons_of_mem _ hq)
  have:=h m List.mem_cons_self
  rw[List.flatten_cons,List.length_append,List.length_cons]
  omega
theorem PartsOf.count{nd:Nd}{ps:List Nd}(h:PartsOf nd ps):ps.length≤nd.len∧(0 < nd.len→0 < ps.length):=by
 cases nd with
 | lf l=>
  obtain⟨a,rfl,rfl,h2⟩:=h
  rw[List.length_map]
  refine⟨flat_count fun m hm=>(h2 m hm).1,fun h0=>?_⟩
  cases a with
  | nil=>exact absurd h0 (by simp[Nd.len])
  | cons=>simp
 | tw l=>
  obtain⟨a,rfl,rfl,h2⟩:=h
  rw[List.length_map]
  refine⟨flat_count fun m hm=>by have:=(h2 m hm).1;omega,fun h0=>?_⟩
  cases a with
  | nil=>exact absurd h0 (by simp[Nd.len])
  | cons=>simp
end Go.Proofs.YtjepgclnbbpnaaaGreat.P12
namespace Go.Proofs.YtjepgclnbbpnaaaGreat.P12
open PK (qqA qqB qqC qqD qqE qqF tk tkS dOne qh)
open Go Go.RowKit Go.Lib PK
theorem infoENode:(Tryz.prog.info? 80).map (fun i=>(i.zero,i.size,i.bytes))=some (some (Value.agg #[.int .i64 0,.slice none 0 0,.slice none 0 0]),3,56):=by kernel_rfl
structure Nv where
 nd:Nd
 vi:Value
 vk:Value
def Nv.cells(q:Nv):List Value:=[.int .i64 q.nd.kind,q.vi,q.vk]
structure NdsIn (lo:Nat) (w:World) (x:Option Nat) (v:Value) (qs:List Nv):Prop where
 own:w.ownsRow lo 80 3 v qs.length (qs.map Nv.cells).flatten
 nd:∀ q∈qs,NdT w x q.vi q.vk q.nd
theorem NdsIn.below{lo:Nat}{w w':World}{x:Option Nat}{v:Value}{qs:List Nv}(h:NdsIn lo w x v qs)(k:Below w.heap.size w w'):NdsIn lo w' x v qs:=⟨owns_below h.own k,fun q hq=>(h.nd q hq).keep (FrT.of k)⟩
theorem NdsIn.lo_{lo lo':Nat}{w:World}{x:Option Nat}{v:Value}{qs:List Nv}(h:NdsIn lo w x v qs)(k:lo'≤lo):NdsIn lo' w x v qs:=⟨owns_lo h.own k,h.nd⟩
theorem NdsIn.slice{lo:Nat}{w:World}{x:Option Nat}{v:Value}{qs:List Nv}(h:NdsIn lo w x v qs):∃ a c,v=.slice a qs.length c:=by
 rcases h.own.2 with ⟨rfl,e⟩|⟨g,cap,cur,rfl,_⟩
 ·exact⟨none,0,by rw[e]⟩
 ·exact⟨_,_,rfl⟩
theorem NdsIn.form{lo:Nat}{w:World}{x:Option Nat}{v:Value}{qs:List Nv}(h:NdsIn lo w x v qs)(h0:0 < qs.length):∃ g c,v=.slice (some ⟨g,0,none⟩) qs.length c∧lo≤g∧g < w.heap.size∧
  ∀ W,Below w.heap.size w W→∀ (j:Nat) (u:Value),((qs.map Nv.cells).flatten)[j]?=some u→W.cell? ((⟨g,0,none⟩:Addr).add j)=some u:=by
 rcases h.own.2 with ⟨_,e⟩|⟨g,cap,cur,rfl,hb,hg,_,_,_,ht⟩
 ·omega
 ·refine⟨g,cap,rfl,hb,lt_of_block hg,fun W k j u hu=>?_⟩
  rw[Go.WideShapes.add_plain,Nat.zero_add,cell_at (P3.old_below hg k)]
  rw[← ht,List.getElem?_take] at hu
  split at hu
  ·rw[← hu]
   simp
  ·cases hu
theorem nv_one(qs:List Nv):∀ u∈(qs.map Nv.cells).flatten,(∀ q∈qs,q.vi.oneCell'=true∧q.vk.oneCell'=true)→u.oneCell'=true:=fun u hu h=>by
 obtain⟨x,hx,hu⟩:=List.mem_flatten.1 hu
 obtain⟨q,hq,rfl⟩:=List.mem_map.1 hx
 simp only[Nv.cells,List.mem_cons,List.not_mem_nil,or_false] at hu
 rcases hu with rfl|rfl|rfl
 ·rfl
 ·exact (h q hq).1
 ·exact (h q hq).2
theorem NdT.one{w:World}{x:Option Nat}{vi vk:Value}{nd:Nd}(h:NdT w x vi vk nd):vi.oneCell'=true∧vk.oneCell'=true:=by
 obtain⟨a,n,c,a',n',c',rfl,rfl,_⟩:=h.lens
 exact⟨rfl,rfl⟩
theorem NdsIn.one{lo:Nat}{w:World}{x:Option Nat}{v:Value}{qs:List Nv}(h:NdsIn lo w x v qs):∀ u∈(qs.map Nv.cells).flatten,u.oneCell'=true:=fun u hu=>nv_one qs u hu fun q hq=>(h.nd q hq).one
theorem nv_len(qs:List Nv):(qs.map Nv.cells).flatten.length=qs.length*3:=by
 have:=flat_len (n:=3) (l:=qs.map Nv.cells) fun x hx=>by
  obtain⟨q,_,rfl⟩:=List.mem_map.1 hx
  rfl
 rwa[List.length_map] at this
structure Fine (nd:Nd):Prop where
 small:nd.small
 sum:nd.sum≤100000
 least:nd.len=0∨nd.least≤nd.len
theorem parts_small(w:World)(x:Option Nat)(vi vk:Value)(nd:Nd)(d:Bool)(h:NdT w x vi vk nd)(hf:Fine nd)(hs:nd.len=0∨1+nd.sum≤232) :
  Calls Tryz.prog 128 #[nd.v vi vk,.bool d] w fun e w'=>∃ v qs,e=.returned v∧NdsIn w.heap.size w' x v qs∧PartsOf nd (qs.map (·.nd))∧Below w.heap.size w w':=by
 have hln:=nd.len_sum
 have HF:=qh hf
 obtain⟨W1,hW1⟩:∃ W1,W1=w.alloc (.cells #[.int .i64 nd.kind,vi,vk] 80):=⟨_,rfl⟩
 have b1:Below w.heap.size w W1:=by rw[hW1];exact below_new _ _
 have r1:W1.heap[w.heap.size]?=some (.cells #[.int .i64 nd.kind,vi,vk] 80 (0,0)):=by rw[hW1];exact new_at _ _ _
 have HB1:=qh b1
 have HR1:=qh (fun W (k:Below W1.heap.size W1 W)=>P3.old_below r1 k)
 have HN:=qh (fun W (k:Below W1.heap.size W1 W)=>h.keep (FrT.of (thenBelow b1 k)))
 have HFt:=qh (fun W (k:Below W1.heap.size W1 W)=>fits_any W x vi vk nd (h.keep (FrT.of (thenBelow b1 k))) (by have:=hf.sum;omega))
 have HCn:=qh (fun W (k:Below W1.heap.size W1 W)=>count_any W x vi vk nd (h.keep (FrT.of (thenBelow b1 k))) (by have:=hf.sum;omega))
 have q:=HR1.out W1 (Below.refl _ _)
 have q0:=cell_at q 0
 have q1:=cell_at q 1
 have q2:=cell_at q 2
 simp only[qqD,qqE,qqF] at q0 q1 q2
 have HX1:=qh (Below.refl W1.heap.size W1)
 obtain⟨a,n,c,a',n',c',rfl,rfl,_⟩:=h.lens
 unfold Nd.v at HFt HCn ⊢
 obtain⟨Kd,hKd⟩:∃ k,k=nd.kind:=⟨_,rfl⟩
 have HKd:=qh hKd
 rw[← hKd] at HFt HCn HR1 q0 hW1 ⊢
 have HS:=qh hs
 clear h b1 r1 q hKd hf
 by_cases h0:nd.len=0
 ·have k0:((nd.len:Nat):Int)=0:=by omega
  rw[k0] at HCn
  have HP:=qh (PartsOf.nil h0)
  go_enter Tryz.func128,Tryz.ntmps128
  go_upto_region 1 with fail
  rw[← hW1]
  clear hW1
  go_wp2_with (go_at_call 97;(with_reducible refine (HCn.out _ HX1.out).mono ?_);rintro e w2 ⟨rfl,h2⟩;have H2:=qh h2;clear h2)
  go_ret
  exact⟨_,[],rfl,⟨World.ownsRow_nil _ _ _ _,fun _ h=>(List.not_mem_nil h).elim⟩,HP.out,thenBelow HB1.out H2.out⟩
 ·have hfit:nd.fits=true:=by
   unfold Nd.fits
   have:=HS.out
   exact decide_eq_true (by omega)
  have HP:=qh (PartsOf.one (by have:=HF.out.least;omega) (by have:=HS.out;omega):PartsOf nd [nd])
  have k0:(((nd.len:Nat):Int) == 0)=false:=beq_false_of_ne (by omega)
  rw[hfit] at HFt
  generalize nd.len=Ln at *
  go_enter Tryz.func128,Tryz.ntmps128
  go_upto_region 1 with fail
  rw[← hW1]
  clear hW1
  go_wp2_with (first
   | (go_at_call 97;(with_reducible refine (HCn.out _ HX1.out).mono ?_);rintro e w2 ⟨rfl,h2⟩;have H2:=qh h2;have p:=HR1.out _ h2;have p0:=cell_at p 0;have p1:=cell_at p 1;have p2:=cell_at p 2;simp only[qqD,qqE,qqF] at p0 p1 p2;clear h2 p)
   | (go_at_call 102;(with_reducible refine (HFt.out _ H2.out).mono ?_);rintro e w3 ⟨rfl,h3⟩;have H3:=qh (thenBelow H2.out h3);have p:=HR1.out _ H3.out;have p0:=cell_at p 0;have p1:=cell_at p 1;have p2:=cell_at p 2;simp only[qqD,qqE,qqF] at p0 p1 p2;clear h3 p))
  go_ret
  have hbz:Below w3.heap.size w3 (w3.alloc (.cells #[.int .i64 Kd,.slice a n c,.slice a' n' c'] 80)):=below_new _ _
  refine⟨_,[⟨nd,.slice a n c,.slice a' n' c'⟩],rfl,⟨⟨by simp[Nv.cells],.inr ⟨w3.heap.size,1,_,rfl,?_,new_at _ _ _,Nat.le_refl _,by decide,rfl,?_⟩⟩,fun q hq=>?_⟩,HP.out,thenBelow (thenBelow HB1.out H3.out) hbz⟩
  ·exact (thenBelow HB1.out H3.out).size
  ·rw[HKd.out];rfl
  ·cases List.mem_singleton.1 hq
   exact HN.out _ (thenBelow H3.out hbz)
end Go.Proofs.YtjepgclnbbpnaaaGreat.P12
