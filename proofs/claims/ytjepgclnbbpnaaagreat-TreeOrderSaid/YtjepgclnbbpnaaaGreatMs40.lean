/-
  Texts of the proofs of SaidOrd12.
-/
import Derived.Test.YtjepgclnbbpnaaaGreatMs39
set_option linter.unusedVariables false
set_option linter.unusedSimpArgs false
set_option maxHeartbeats 8000000
set_option maxRecDepth 100000
namespace Go.Proofs.YtjepgclnbbpnaaaGreat.P12
open PK (qqA qqB qqC qqD qqE qqF tk tkS dOne qh)
open Go Go.RowKit Go.Lib PK
open P11 (Pg)
open P9 (It kb kb_trans RightI lowK OwnI cellsI)
section
variable {P:Program} {w:World}
theorem step_app{ops:Array Oper}{o:Oper}{a:Act}{K:Act→World→Prop}{Q:Exit→Act→World→Prop}{E:Prop}(hgd:o.guard=none)(s x:Operand)(t:TypeId)
  (ho:o.op=.call { callee:=.builtin .append,args:=#[s,x],argTypes:=#[t,t] })
  (base:Nat) (e:TypeId) (i:TypeInfo) (z:Value) (size bytes:Nat) (ht:P.underlying t=some (.slice e)) (hi:P.info? e=some i) (hz:i.zero=some z)
  (hsize:i.size=size) (hby:i.bytes=bytes) (hzs:z.cells.size=size) (hsz:0 < size)
  (v:Value) (n:Nat) (xs:List Value) (hs:a.eval s=v) (hown:w.ownsRow base e size v n xs)
  (ad:Option Addr) (m c:Nat) (news:List Value) (hx:a.eval x=.slice ad m c) (hl:news.length=m*size) (hnews:∀ A,ad=some A→∀ j u,news[j]?=some u→w.cell? (A.add j)=some u) (hno:ad=none→m=0∧c=0) (h1:∀ u∈news,u.oneCell'=true)
  (h63:n+m≤maxLen) (hbytes:(n+m)*bytes≤140737488355328) (hbase:base≤w.heap.size)
  (h:∀ p q w',w'.ownsRow base e size (.slice p (n+m:Nat) q) (n+m) (xs++news)→w.grownBy w' v.ownBlock→((Value.slice p (n+m:Nat) q).ownBlock=v.ownBlock∨(Value.slice p (n+m:Nat) q).ownBlock=some w.heap.size)→K (a.put o.dst (.slice p (n+m:Nat) q)) w') :
  if Region.wanted o (yielded ops a.tmps)=true then Oper.wp P o a w K Q else E:=by
 have hw:Region.wanted o (yielded ops a.tmps)=true:=by simp[Region.wanted,hgd]
 rw[if_pos hw]
 exact wp_app s x t ho base e i z size bytes ht hi hz hsize hby hzs hsz v n xs hs hown ad m c news hx hl hnews hno h1 h63 hbytes hbase h
end
theorem infoItem:(Tryz.prog.info? 29).map (fun i=>(i.zero,i.size,i.bytes))=some (some (Value.agg #[.string ⟨#[]⟩,.string ⟨#[]⟩,.int .i64 0]),3,40):=by kernel_rfl
theorem col_mid{W w3 w4:World}{lb lo:Nat}{v:Value}{acc:List It}(hlb:W.heap[lb]?=some (.cells #[v] 27 (0,0)))(ho:OwnI lo W v acc)(hb:Below W.heap.size W w3)(hgrow:w3.grownBy w4 v.ownBlock):w4.heap[lb]?=some (.cells #[v] 27 (0,0)):=by
 have hvl:v.ownBlock≠some lb:=fun e=>by
  rcases ho.1.2 with ⟨rfl,_⟩|⟨g',cap',cur,rfl,_,hg,_⟩
  ·cases e
  ·simp only[Value.ownBlock,Option.some.injEq] at e
   subst e
   rw[hlb] at hg
   cases hg
 have h3:w3.heap[lb]?=some (.cells #[v] 27 (0,0)):=P3.old_below hlb hb
 exact (hgrow.block _ (lt_of_block h3) (fun e=>hvl e.symm)).trans h3
theorem col_nb{W:World}{nb lo:Nat}{v:Value}{acc:List It}{m:Int}(hnb:W.heap[nb]?=some (.cells #[.int .i64 m] 3 (0,0)))(ho:OwnI lo W v acc){lb:Nat}(hlb:W.heap[lb]?=some (.cells #[v] 27 (0,0))):¬ (nb=lb∨v.ownBlock=some nb):=by
 rintro (rfl|e)
 ·rw[hlb] at hnb
  cases hnb
 ·rcases ho.1.2 with ⟨rfl,_⟩|⟨g',cap',cur,rfl,_,hg,_⟩
  ·cases e
  ·simp only[Value.ownBlock,Option.some.injEq] at e
   subst e
   rw[hnb] at hg
   cases hg
theorem col_end{W w3 w4:World}{lb lo A r:Nat}{v v':Value}{acc add:List It}(hlb:W.heap[lb]?=some (.cells #[v] 27 (0,0)))(ho:OwnI lo W v acc)(hb:Below W.heap.size W w3)(hgrow:w3.grownBy w4 v.ownBlock)(hA:A=acc.length)(hr:add.length=r)(hl:A+r≤1000000)
  (hown:w4.ownsRow lo 29 3 v' (A+r) ((cellsI acc).flatten++(cellsI add).flatten)) (hat:v'.ownBlock=v.ownBlock∨v'.ownBlock=some w3.heap.size) :
  (w4.setCell ⟨lb,0,none⟩ v').heap[lb]?=some (.cells #[v'] 27 (0,0))∧OwnI lo (w4.setCell ⟨lb,0,none⟩ v') v' (acc++add)∧
  P3.Fr (fun j=>j=lb∨v.ownBlock=some j) W (w4.setCell ⟨lb,0,none⟩ v')∧(v'.ownBlock=v.ownBlock∨∀ j,v'.ownBlock=some j→W.heap.size≤j):=by
 have hll:=lt_of_block hlb
 have hvl:v.ownBlock≠some lb:=fun e=>by
  rcases ho.1.2 with ⟨rfl,_⟩|⟨g',cap',cur,rfl,_,hg,_⟩
  ·cases e
  ·simp only[Value.ownBlock,Option.some.injEq] at e
   subst e
   rw[hlb] at hg
   cases hg
 have hgl:v'.ownBlock≠some lb:=by
  rcases hat with h|h
  ·rw[h]
   exact hvl
  ·rw[h]
   have:=hb.size
   intro e
   cases e
   omega
 have h3:w3.heap[lb]?=some (.cells #[v] 27 (0,0)):=P3.old_below hlb hb
 have h4:w4.heap[lb]?=some (.cells #[v] 27 (0,0)):=(hgrow.block _ (lt_of_block h3) (fun e=>hvl e.symm)).trans h3
 have f4:P3.Fr (fun j=>j=lb∨v.ownBlock=some j) w3 w4:=⟨hgrow.os,hgrow.tape,hgrow.output,hgrow.size,fun k hk hn=>hgrow.block k hk fun e=>hn (.inr e.symm)⟩
 have f5:=fr_set w4 lb 0 v'
 refine⟨P3.set_at h4 0 _,⟨?_,by rw[List.length_append,← hA,hr];exact hl⟩,((P3.Fr.of hb).trans f4).trans (f5.mono fun _ _ e=>.inl e),?_⟩
 ·have:=owns_fr hown f5 fun j e=>by
   exact fun e9=>hgl (by rw[e,e9])
  rw[List.length_append,← hA,hr]
  unfold cellsI at this ⊢
  rw[List.map_append,List.flatten_append]
  exact this
 ·rcases hat with h|h
  ·exact .inl h
  ·right
   intro j e
   rw[h] at e
   cases e
   exact hb.size
theorem items1_any(W:World)(x:Option Nat)(b s mb:Nat)(vw:Value)(ts:List Sp)(p:Sp)(sn:List Int)(sk:SkAt W x b s mb vw (ts++[p]) sn)(hts:ts.length≤12)(l':List It)(hnd:p.nd=.lf l')(k:Nat)(hat:p.at_=(k:Int))(hk:k≤l'.length)(hl':l'.length≤231∧0 < l'.length)
  (lb nb lo:Nat) (v:Value) (acc:List It) (most:Int) (hlb:W.heap[lb]?=some (.cells #[v] 27 (0,0))) (hnb:W.heap[nb]?=some (.cells #[.int .i64 most] 3 (0,0))) (ho:OwnI lo W v acc) (hlo:lo≤W.heap.size) (hacc:(acc.length:Int) < most) (hmost:most≤9223372036854775807) (hal:acc.length≤100000) :
  Calls Tryz.prog 60 #[vw,.pointer (some ⟨lb,0,none⟩),.pointer (some ⟨nb,0,none⟩)] W fun e w'=>∃ v' acc',acc'=acc++(l'.drop k).take (most.toNat - acc.length)∧e=.returned (.bool (decide ((acc'.length:Int) < most)))∧w'.heap[lb]?=some (.cells #[v'] 27 (0,0))∧OwnI lo w' v' acc'∧P3.Fr (fun j=>j=lb∨v.ownBlock=some j) W w'∧(v'.ownBlock=v.ownBlock∨∀ j,v'.ownBlock=some j→W.heap.size≤j):=by
 obtain⟨a,c,rfl⟩:=sk.slice
 obtain⟨g,rfl,hc⟩:=sk.cells_ (i:=ts.length) (p:=p) (by simp)
 have c0:=hc W (Below.refl _ _) 0 _ rfl
 have c1:=hc W (Below.refl _ _) 1 _ rfl
 have c2:=hc W (Below.refl _ _) 2 _ rfl
 have c3:=hc W (Below.refl _ _) 3 _ rfl
 have c4:=hc W (Below.refl _ _) 4 _ rfl
 have c5:=hc W (Below.refl _ _) 5 _ rfl
 have c6:=hc W (Below.refl _ _) 6 _ rfl
 have c7:=hc W (Below.refl _ _) 7 _ rfl
 have hnt:=sk.nd p (by simp)
 rw[hnd] at hnt c4
 rw[hat] at c7
 have e1:(ts++[p]).length=ts.length+1:=by simp
 rw[e1]
 obtain⟨N,hN⟩:∃ N,N=ts.length:=⟨_,rfl⟩
 rw[← hN] at c0 c1 c2 c3 c4 c5 c6 c7 hts ⊢
 have hw:IntKind.i64.wrap (((N+1:Nat):Int) - 1)=(N:Nat):=by rw[IntKind.wrap_i64];omega
 have hw2:IntKind.i64.wrap (((N:Int)+1) - 1)=(N:Nat):=by rw[IntKind.wrap_i64];omega
 have k2:(0:Int)≤(N:Int):=by omega
 have k3:(N:Int) < (N:Int)+1:=by omega
 obtain⟨va,vc,hvi⟩:=hnt.1.its.slice
 have hitp:ItT W x p.vi l':=hnt.1
 rw[hvi] at c5 hitp
 obtain⟨A0,hA0⟩:∃ A0,va=some A0:=by
  cases va with
  | none=>have:=hitp.its.nil_ rfl;omega
  | some A0=>exact⟨A0,rfl⟩
 subst hA0
 obtain⟨ib,io,rfl⟩:=hitp.plain _ _ _ rfl
 obtain⟨n,hn⟩:∃ n,n=l'.length:=⟨_,rfl⟩
 have hwd:n≤vc∧vc≤9223372036854775807:=by
  obtain⟨a9,n9,c9,e9,q1,q2⟩:=hitp.wide
  simp only[Value.slice.injEq] at e9
  omega
 rw[← hn] at c5 hk hl'
 obtain⟨K,hK⟩:∃ K:Int,K=p.nd.kind:=⟨_,rfl⟩
 obtain⟨vk,hvk⟩:∃ vk,vk=p.vk:=⟨_,rfl⟩
 have hk4:(Nd.lf l').kind=3:=rfl
 rw[hk4] at c4
 rw[← hvk] at c6
 have hvk1:vk=.slice none 0 0:=by rw[hvk];exact hnt.2
 rw[hvk1] at c6
 obtain⟨q0,q1,q2,qb,z0,z1,z2,z3⟩:∃ (q0 q1 q2:Int) (qb:ByteArray),q0=p.pg.k∧q1=p.pg.id∧q2=p.pg.tx∧qb=p.pg.body:=⟨_,_,_,_,rfl,rfl,rfl,rfl⟩
 rw[← z0,Nat.add_zero] at c0
 rw[← z1] at c1
 rw[← z2] at c2
 rw[← z3] at c3
 have s1:(0:Int)≤(k:Int):=by omega
 have s2:(k:Int)≤(n:Int):=by omega
 have s3:(n:Int)≤(vc:Int):=by omega
 have HIt:=qh hitp
 have HSk:=qh sk
 have HO:=qh ho
 have HLb:=qh hlb
 have HNb:=qh hnb
 have HN:=qh hn
 clear z0 z1 z2 z3 hvk hvk1 hK hk4 hvi hnt hitp sk ho hlb hnb hn hc e1 hnd hat hN
 go_enter Tryz.func60,Tryz.ntmps60
 go_upto_region 2 with fail
 obtain⟨W3,hW3⟩:∃ W3,W3=W.alloc (.cells #[.int .i64 q0,.int .i64 q1,.int .i64 q2,.string qb,.int .i64 3,.slice (some ⟨ib,io,none⟩) n vc,.slice none 0 0,.int .i64 (k:Nat)] 88):=⟨_,rfl⟩
 have b3:Below W.heap.size W W3:=by rw[hW3];exact below_new _ _
 have r3:W3.heap[W.heap.size]?=some (.cells #[.int .i64 q0,.int .i64 q1,.int .i64 q2,.string qb,.int .i64 3,.slice (some ⟨ib,io,none⟩) n vc,.slice none 0 0,.int .i64 (k:Nat)] 88 (0,0)):=by rw[hW3];exact new_at _ _ _
 have z3:W3.heap.size=W.heap.size+1:=by rw[hW3];simp
 rw[← hW3]
 clear hW3
 have f5:=cell_at r3 5
 have f7:=cell_at r3 7
 simp only[qqD,qqE,qqF] at f5 f7
 have d1:=cell_at (P3.old_below HLb.out b3) 0
 have d2:=cell_at (P3.old_below HNb.out b3) 0
 have d3:=free_at (P3.old_below HLb.out b3) 0
 simp only[qqD,qqE,qqF] at d1 d2
 have B3:=qh b3
 have Z3:=qh z3
 clear b3 r3 z3 c0 c1 c2 c3 c4 c5 c6 c7 hw hw2 k2 k3
 obtain⟨M,rfl⟩:∃ M:Nat,most=(M:Int):=⟨most.toNat,by omega⟩
 obtain⟨A,hA⟩:∃ A,A=acc.length:=⟨_,rfl⟩
 rw[← hA] at hacc hal
 obtain⟨va2,vc2,hv⟩:∃ a c,v=.slice a A c:=by
  obtain⟨a9,c9,e9⟩:=HO.out.its.slice
  exact⟨a9,c9,by rw[hA];exact e9⟩
 rw[hv] at d1
 obtain⟨D,hD⟩:∃ D,D=M - A:=⟨_,rfl⟩
 have hwD:IntKind.i64.wrap ((M:Int) - (A:Int))=(D:Int):=by rw[IntKind.wrap_i64];omega
 have HAc:=qh hA
 have HV:=qh hv
 have HDm:=qh hD
 have hD0:0 < D:=by omega
 clear hA hv hD
 obtain⟨i0,hi0,hi1⟩:=Option.map_eq_some_iff.1 infoItem
 simp only[Prod.mk.injEq] at hi1
 obtain⟨hz0,hz1,hz2⟩:=hi1
 obtain⟨u,hu⟩:∃ u,n=k+u:=⟨n - k,by omega⟩
 have hu2:n - k=u:=by omega
 obtain⟨c3,hc3⟩:∃ c3,vc - k=c3:=⟨_,rfl⟩
 have huc:u≤c3:=by omega
 obtain⟨r,hr⟩:∃ r,r=min u D:=⟨_,rfl⟩
 have r1:min ((u:Nat):Int) (D:Int)=(r:Int):=by omega
 have r2:(0:Int)≤(r:Int):=by omega
 have r3:(r:Int)≤(c3:Int):=by omega
 have hru:r≤u:=by omega
 have hrD:r≤D:=by omega
 have HR:=qh hr
 clear hr
 have hln:((cellsI ((l'.drop k).take r)).flatten).length=r*3:=by
  have h9:=flat_len (n:=3) (l:=cellsI ((l'.drop k).take r)) fun x hx=>by
   obtain⟨q,_,rfl⟩:=List.mem_map.1 hx
   rfl
  unfold cellsI at h9 ⊢
  rw[h9,List.length_map,List.length_take,List.length_drop,← HN.out,hu2,Nat.min_eq_left hru]
 have HRow:Hid (W3.drew.ownsRow lo 29 3 (.slice va2 A vc2) A (cellsI acc).flatten):=qh (by have:=owns_below HO.out.1 B3.out;rw[← HAc.out,HV.out] at this;exact this)
 have HOne:Hid (∀ y∈(cellsI ((l'.drop k).take r)).flatten,y.oneCell'=true):=qh (P9.cellsI_one _)
 have HLn:=qh hln
 have HL2:Hid (((l'.drop k).take r).length=r):=qh (by rw[List.length_take,List.length_drop,← HN.out,hu2,Nat.min_eq_left hru])
 clear hln
 by_cases hck:vc=k
 ·obtain rfl:u=0:=by omega
  obtain rfl:r=0:=by omega
  obtain rfl:c3=0:=by omega
  have r4:min (0:Int) (D:Int)=0:=by omega
  clear r1 r2 r3
  have k3:(k:Int)≤(vc:Int):=by omega
  have k7:k≤vc:=by omega
  obtain⟨o1,ho1⟩:∃ o,o=io:=⟨_,rfl⟩
  have HNw:Hid (∀ A1,some (⟨ib,o1,none⟩:Addr)=some A1→∀ (j:Nat) (y:Value),(cellsI ((l'.drop k).take 0)).flatten[j]?=some y→W3.drew.cell? (A1.add j)=some y):=qh (by
   intro A1 hA1 j y hy
   cases hA1
   rw[List.take_zero] at hy
   cases hy)
  go_upto_region 3 with fail
  rw[← ho1]
  clear f5 f7 s1 s2 s3 ho1 hck
  go_region_law (refine step_app rfl (.tmp 19) (.tmp 28) 27 rfl lo 29 i0 (.agg #[.string ⟨#[]⟩,.string ⟨#[]⟩,.int .i64 0]) 3 40 Tryz.underlying27 hi0 hz0 hz1 hz2 rfl (by decide) (.slice va2 A vc2) A (cellsI acc).flatten rfl HRow.out (some ⟨ib,o1,none⟩) 0 0 (cellsI ((l'.drop k).take 0)).flatten rfl HLn.out HNw.out (fun e=>by cases e) HOne.out (by unfold maxLen;omega) (by omega) (by have:=B3.out.size;exact Nat.le_trans hlo this) ?_;intro p4 q4 w4 hown4 hgrow4 hat4;have o4:=col_mid HLb.out HO.out B3.out.drew (by rw[HV.out];exact hgrow4);have j0:=cell_at o4 0;have j1:=free_at o4 0;have HE:=qh (col_end HLb.out HO.out B3.out.drew (by rw[HV.out];exact hgrow4) HAc.out (r:=0) (v':=.slice p4 A q4) (add:=(l'.drop k).take 0) (HL2.out) (by omega) hown4 (by rw[HV.out];exact hat4));clear o4 hown4 hgrow4 hat4)
  all_goals
   obtain⟨E1,E2,E3,E4⟩:=HE.out
   have g1:=cell_at E1 0
   have g2:=cell_at (E3.keep HNb.out (col_nb HNb.out HO.out HLb.out)) 0
   simp only[qqD,qqE,qqF] at g1 g2
   have HE2:=qh E2
   have HE3:=qh E3
   have HE4:=qh E4
   have HE1:=qh E1
   clear E1 E2 E3 E4 HE
   go_wp2
   go_ret
   refine⟨_,_,?_,?_,HE1.out,HE2.out,HE3.out,HE4.out⟩
   ·rw[List.drop_of_length_le (by rw[← HN.out];omega),List.take_nil,List.take_nil]
   ·have hlt:((acc++(l'.drop k).take 0).length:Int) < (M:Int):=by
     rw[List.take_zero,List.append_nil,← HAc.out]
     exact hacc
    rw[decide_eq_true hlt]
    rfl
 ·have k3:(k:Int)≤(vc:Int):=by omega
  have k5:(vc == k)=false:=beq_false_of_ne hck
  have k7:k≤vc:=by omega
  obtain⟨o1,ho1⟩:∃ o,o=io+k*3:=⟨_,rfl⟩
  have HNw:Hid (∀ A1,some (⟨ib,o1,none⟩:Addr)=some A1→∀ (j:Nat) (y:Value),(cellsI ((l'.drop k).take r)).flatten[j]?=some y→W3.drew.cell? (A1.add j)=some y):=qh (by
   intro A1 hA1 j y hy
   cases hA1
   have hit:=HIt.out.drop (n:=k) (by rw[← HN.out];omega)
   rw[← HN.out,hu2,hc3,← ho1] at hit
   have hl9:u=(l'.drop k).length:=by rw[List.length_drop,← HN.out,hu2]
   rw[hl9] at hit
   exact (((hit.take (n:=r) (by omega)).keep (FrT.of B3.out)).its.news.1 _ rfl) j y hy)
  go_upto_region 3 with fail
  rw[← ho1]
  clear f5 f7 s1 s2 s3 ho1 hck
  go_region_law (refine step_app rfl (.tmp 19) (.tmp 28) 27 rfl lo 29 i0 (.agg #[.string ⟨#[]⟩,.string ⟨#[]⟩,.int .i64 0]) 3 40 Tryz.underlying27 hi0 hz0 hz1 hz2 rfl (by decide) (.slice va2 A vc2) A (cellsI acc).flatten rfl HRow.out (some ⟨ib,o1,none⟩) r c3 (cellsI ((l'.drop k).take r)).flatten rfl HLn.out HNw.out (fun e=>by cases e) HOne.out (by unfold maxLen;omega) (by omega) (by have:=B3.out.size;exact Nat.le_trans hlo this) ?_;intro p4 q4 w4 hown4 hgrow4 hat4;have o4:=col_mid HLb.out HO.out B3.out.drew (by rw[HV.out];exact hgrow4);have j0:=cell_at o4 0;have j1:=free_at o4 0;have HE:=qh (col_end HLb.out HO.out B3.out.drew (by rw[HV.out];exact hgrow4) HAc.out (r:=r) (add:=(l'.drop k).take r) (HL2.out) (by omega) hown4 (by rw[HV.out];exact hat4));clear o4 hown4 hgrow4 hat4)
  all_goals
   obtain⟨E1,E2,E3,E4⟩:=HE.out
   have g1:=cell_at E1 0
   have g2:=cell_at (E3.keep HNb.out (col_nb HNb.out HO.out HLb.out)) 0
   simp only[qqD,qqE,qqF] at g1 g2
   have HE2:=qh E2
   have HE3:=qh E3
   have HE4:=qh E4
   have HE1:=qh E1
   clear E1 E2 E3 E4 HE
   go_wp2
   go_ret
   refine⟨_,_,?_,?_,HE1.out,HE2.out,HE3.out,HE4.out⟩
   ·rw[Int.toNat_natCast,← HAc.out,← HDm.out]
    congr 1
    rw[List.take_eq_take_iff,List.length_drop,← HN.out,hu2,HR.out]
    omega
   ·have hle:((acc++(l'.drop k).take r).length:Int)=(A:Int)+(r:Int):=by
     rw[List.length_append,HL2.out,← HAc.out]
     omega
    rw[hle]
    rfl
end Go.Proofs.YtjepgclnbbpnaaaGreat.P12
namespace Go.Proofs.YtjepgclnbbpnaaaGreat.P12
open Go Go.RowKit Go.Lib PK
open P11 (Pg)
open P9 (It kb kb_trans RightI lowK OwnI cellsI)
theorem NdT.move{w w':World}{x y:Option Nat}{vi vk:Value}(kt:FrT x w w')(hy:∀ k,y=some k→x=some k∨w.heap.size≤k):∀ {nd:Nd},NdT w x vi vk nd→NdT w' y vi vk nd
 | .lf _,h=>⟨⟨(h.1.keep kt).its,h.1.wide,h.1.plain,fun k hk=>by
   obtain⟨h1,cs,h2⟩:=h.1.ty k hk
   refine⟨fun e=>?_,((h.1.keep kt).ty k hk).2⟩
   rcases hy k e with e2|e2
   ·exact h1 e2
   ·have:=lt_of_block h2
    omega⟩,h.2⟩
 | .tw _,h=>⟨h.1,(h.2.keep kt).its,h.2.wide,h.2.plain,fun k hk=>by
   obtain⟨h1,cs,h2⟩:=h.2.ty k hk
   refine⟨fun e=>?_,((h.2.keep kt).ty k hk).2⟩
   rcases hy k e with e2|e2
   ·exact h1 e2
   ·have:=lt_of_block h2
    omega⟩
theorem SkAt.move{S:Nat→Prop}{w w':World}{x y:Option Nat}{b s mb:Nat}{vw:Value}{ps:List Sp}{sn:List Int}(h:SkAt w x b s mb vw ps sn)(k:P3.Fr S w w')(kt:FrT x w w')(hn:∀ j,SS s mb vw j→¬ S j)(hy:∀ k,y=some k→x=some k∨w.heap.size≤k):SkAt w' y b s mb vw ps sn:=
 ⟨k.keep h.obj (hn _ (.inl rfl)),owns_fr h.row k fun j e=>hn j (.inr (.inl e)),fun p hp=>(h.nd p hp).move kt hy,h.seen.fr k (hn _ (.inr (.inr rfl)))⟩
theorem SkAt.notS{w:World}{x:Option Nat}{b s mb:Nat}{vw:Value}{ps:List Sp}{sn:List Int}(h:SkAt w x b s mb vw ps sn){k:Nat}{cs:Array Value}{t:TypeId}(hk:w.heap[k]?=some (.cells cs t (0,0)))(ht:t≠97∧t≠88):¬ SS s mb vw k:=fun hS=>by
 rcases h.kinds hS with ⟨cs',t',e',h1|h1⟩|⟨es,c,e'⟩
 ·rw[hk] at e'
  cases e'
  exact ht.1 h1
 ·rw[hk] at e'
  cases e'
  exact ht.2 h1
 ·rw[hk] at e'
  cases e'
structure ColP (lo lb nb m:Nat) (W:World) (x:Option Nat) (acc:List It):Prop where
 box:∃ v,W.heap[lb]?=some (.cells #[v] 27 (0,0))∧OwnI lo W v acc∧x=v.ownBlock
 most:W.heap[nb]?=some (.cells #[.int .i64 (m:Int)] 3 (0,0))
theorem own_item{lo:Nat}{W:World}{v:Value}{acc:List It}(h:OwnI lo W v acc){k:Nat}(hk:v.ownBlock=some k):lo≤k∧∃ cs,W.heap[k]?=some (.cells cs 29 (0,0)):=by
 rcases h.1.2 with ⟨rfl,_⟩|⟨g',cap',cur,rfl,h1,hg,_⟩
 ·cases hk
 ·simp only[Value.ownBlock,Option.some.injEq] at hk
  subst hk
  exact⟨h1,_,hg⟩
theorem ColP.keep{lo lb nb m:Nat}{W w2:World}{x y:Option Nat}{acc:List It}{b s mb:Nat}{vw:Value}{ps:List Sp}{sn:List Int}(h:ColP lo lb nb m W x acc)(sk:SkAt W y b s mb vw ps sn)(f:P3.Fr (SS s mb vw) W w2):ColP lo lb nb m w2 x acc:=by
 obtain⟨⟨v,h1,h2,h3⟩,h4⟩:=h
 refine⟨⟨v,f.keep h1 (sk.notS h1 ⟨by decide,by decide⟩),⟨owns_fr h2.1 f fun j e=>?_,h2.2⟩,h3⟩,f.keep h4 (sk.notS h4 ⟨by decide,by decide⟩)⟩
 obtain⟨_,cs,h5⟩:=own_item h2 e
 exact sk.notS h5 ⟨by decide,by decide⟩
theorem take_on{la l':List It}{k0 m:Nat}(h:((la.drop k0).take m).length < m):((la++l').drop k0).take m=(la.drop k0).take m++(l'.drop (k0 - la.length)).take (m - ((la.drop k0).take m).length):=by
 rw[List.drop_append,List.take_append]
 rw[List.length_take] at h ⊢
 rw[Nat.min_eq_right (by omega)]
theorem take_full{a b:List It}{k0 m:Nat}(h:¬ (((a.drop k0).take m).length < m)):((a++b).drop k0).take m=(a.drop k0).take m:=by
 rw[List.drop_append,List.take_append]
 rw[List.length_take] at h
 rw[show m - (a.drop k0).length=0 by omega,List.take_zero,List.append_nil]
theorem leaves_items(w0 w:World)(b s mb:Nat)(vl vg:Value)(M:PM)(h0:PAt w0 b vl vg M)(hb0:Below w0.heap.size w0 w)(hs:SkAt w none b s mb (.slice none 0 0) [] [])(hS:w0.heap.size≤s∧w0.heap.size≤mb)(hsz:M.L.length≤100000)(D:Nat)(root:Int)(L:List It)(ids:List Int)(ht:Tree M D root L ids)(hD:D≤12)(hn:ids.Nodup)(hid:ids.length≤80000)(key:ByteArray)(hLl:L.length≤100000)
  (lb nb m:Nat) (hlb:w.heap[lb]?=some (.cells #[.slice none 0 0] 27 (0,0))) (hnb:w.heap[nb]?=some (.cells #[.int .i64 (m:Int)] 3 (0,0))) (hlo:w0.heap.size≤lb) (hm:0 < m) (hm2:(m:Int)≤9223372036854775807) :
  Calls Tryz.prog 59 #[.pointer (some ⟨s,0,none⟩),.int .i64 root,.string key,.func (.func 60) #[] #[.pointer (some ⟨lb,0,none⟩),.pointer (some ⟨nb,0,none⟩)]] w fun e w'=>∃ v,e=.returned (.int .i64 0)∧Below w0.heap.size w0 w'∧w'.heap[lb]?=some (.cells #[v] 27 (0,0))∧OwnI w0.heap.size w' v ((L.drop (lowK L key)).take m):=by
 obtain⟨k0,hk0⟩:∃ k,k=lowK L key:=⟨_,rfl⟩
 rw[← hk0]
 refine (leavesI w0 w b s mb vl vg M h0 hb0 hs hS hsz D root L ids ht hD hn hid key lb nb
  (fun W x g=>ColP w0.heap.size lb nb m W x ((g.la.drop k0).take m)∧((g.la.drop k0).take m).length < m∧g.k=k0 - g.la.length)
  (fun W x g=>ColP w0.heap.size lb nb m W x (((g.la++g.l').drop k0).take m)∧(((g.la++g.l').drop k0).take m).length < m∧k0≤(g.la++g.l').length)
  (fun W _=>∃ x,ColP w0.heap.size lb nb m W x ((L.drop k0).take m)) ⟨?_,?_⟩ ?_ ?_ ?_).mono ?_
 ·intro W w2 x g vw h1 hsk h2 h3 h4 _ hf _ _
  refine⟨x,?_⟩
  have hL:=h2.lE
  rw[h3,List.append_nil] at hL
  rw[hL]
  exact h1.1.keep hsk hf
 ·intro W w2 x g g2 vw h1 hsk h2 h3 h4 h5 h6 h7 _ hf _ _
  rw[h4]
  exact⟨h1.1.keep hsk hf,h1.2.1,by rw[h6];have:=h1.2.2;omega⟩
 ·intro w2 g vw hsk h1 h2 h3 h4 h5 _ hf _ _
  have hk:k0=g.la.length+lowK g.l' key:=by rw[hk0,h1.lE];exact lowK_mid h3 h4 _
  have hnil:g.la.drop k0=[]:=List.drop_of_length_le (by omega)
  rw[hnil,List.take_nil]
  refine⟨ColP.keep ⟨⟨_,hlb,OwnI.nil _ _,rfl⟩,hnb⟩ hsk hf,hm,by rw[h2];omega⟩
 ·intro e
  subst e
  have hL:L=[]:=ht.2.1
  rw[hL,List.drop_nil,List.take_nil]
  exact⟨none,⟨_,hlb,OwnI.nil _ _,rfl⟩,hnb⟩
 ·intro W x vw g hb hsk hnn hg hp
  obtain⟨ts,p,hps,_,hnd,hat⟩:=hg.st
  obtain⟨b1,b2,_,b4,b5⟩:=hg.bounds
  obtain⟨⟨v,q1,q2,q3⟩,q4⟩:=hp.1
  have hsk2:=hsk
  rw[hps] at hsk2 b2
  have htl:ts.length≤12:=by
   rw[List.length_append,List.length_singleton] at b2
   omega
  have hal:((g.la.drop k0).take m).length≤100000:=by
   have hL:=congrArg List.length hg.lE
   simp only[List.length_append,List.length_take,List.length_drop] at hL ⊢
   omega
  refine (items1_any W x b s mb vw ts p g.sn hsk2 htl g.l' hnd g.k hat hg.kl ⟨b4,b5⟩ lb nb w0.heap.size v _ m q1 q4 q2 hb.size (by have:=hp.2.1;omega) hm2 hal).mono ?_
  rintro e w' ⟨v',acc',ha,rfl,e1,e2,e3,e4⟩
  have hac:acc'=((g.la++g.l').drop k0).take m:=by
   rw[ha,take_on hp.2.1,hp.2.2,Int.toNat_natCast]
  have hSn:∀ j,SS s mb vw j→¬ (j=lb∨v.ownBlock=some j):=fun j hj=>by
   rintro (rfl|e)
   ·exact hsk.notS q1 ⟨by decide,by decide⟩ hj
   ·obtain⟨_,cs,h5⟩:=own_item q2 e
    exact hsk.notS h5 ⟨by decide,by decide⟩ hj
  have hft:FrT x W w':=FrT.ofFr e3 fun k cs t hk hst e=>by
   rcases hk with rfl|hk
   ·rw[q1] at e
    cases e
    rcases hst.1 with h|h <;> cases h
   ·exact hst.2 (by rw[q3];exact hk)
  have hnew:∀ j,(j=lb∨v.ownBlock=some j)→w0.heap.size≤j:=fun j hj=>by
   rcases hj with rfl|hj
   ·exact hlo
   ·exact (own_item q2 hj).1
  have hy:∀ k,v'.ownBlock=some k→x=some k∨W.heap.size≤k:=fun k hk=>by
   rcases e4 with h|h
   ·exact .inl (by rw[q3,← h];exact hk)
   ·exact .inr (h k hk)
  have hcol:ColP w0.heap.size lb nb m w' v'.ownBlock acc':=⟨⟨v',e1,e2,rfl⟩,e3.keep q4 (col_nb q4 q2 q1)⟩
  rw[hac] at hcol
  refine⟨_,v'.ownBlock,rfl,P3.Fr.new hb e3 hnew,hsk.move e3 hft hSn hy,fun k hk=>?_,fun hbb=>?_,fun hbb=>?_⟩
  ·obtain⟨_,cs,h5⟩:=own_item e2 hk
   exact lt_of_block h5
  ·have hlt:=of_decide_eq_true hbb
   rw[hac] at hlt
   refine⟨hcol,by omega,?_⟩
   have:=hg.kl
   have:=hp.2.2
   rw[List.length_append]
   omega
  ·have hlt:=of_decide_eq_false hbb
   rw[hac] at hlt
   refine⟨v'.ownBlock,?_⟩
   rw[hg.lE,take_full (by omega)]
   exact hcol
 ·rintro e w' ⟨x,vw,ps,sn,rfl,h1,_,x2,⟨v,h3,h4,_⟩,_⟩
  exact⟨v,rfl,h1,h3,h4⟩
end Go.Proofs.YtjepgclnbbpnaaaGreat.P12
namespace Go.Proofs.YtjepgclnbbpnaaaGreat.P12
open PK (qqA qqB qqC qqD qqE qqF tk tkS dOne qh)
open Go Go.RowKit Go.Lib PK
open P11 (Pg)
open P9 (It kb kb_trans RightI lowK OwnI cellsI)
theorem tiItems_any(w:World)(b:Nat)(vl vg:Value)(M:PM)(h:PAt w b vl vg M)(hsz:M.L.length≤100000)(D:Nat)(root:Int)(L:List It)(ids:List Int)(ht:Tree M D root L ids)(hD:D≤12)(hn:ids.Nodup)(hid:ids.length≤80000)(hLl:L.length≤100000)(key:ByteArray)(most:Int)(hmost:most≤9223372036854775807) :
  Calls Tryz.prog 39 #[pgv b,.int .i64 root,.string key,.int .i64 most] w fun e w'=>∃ v,e=.returned (.tuple #[v,.int .i64 0])∧OwnI w.heap.size w' v ((L.drop (lowK L key)).take most.toNat)∧Below w.heap.size w w':=by
 have ho:∀ W,Calls Tryz.prog 52 #[pgv b] W fun e w'=>∃ s mb,e=.returned (.pointer (some ⟨s,0,none⟩))∧SkAt w' none b s mb (.slice none 0 0) [] []∧W.heap.size≤s∧W.heap.size≤mb∧Below W.heap.size W w':=fun W=>
  (on_any W none b).mono fun e w' ⟨g1,g2,g3⟩=>⟨W.heap.size+1,W.heap.size,g1,g2,Nat.le_succ _,Nat.le_refl _,g3⟩
 by_cases hlt:most < 1
 ·unfold pgv
  clear ho h ht hn
  have h0:most.toNat=0:=by omega
  rw[h0]
  obtain⟨W1,hW1⟩:∃ W1,W1=w.alloc (.cells #[.int .i64 most] 3):=⟨_,rfl⟩
  have b1:Below w.heap.size w W1:=by rw[hW1];exact below_new _ _
  go_enter Tryz.func39,Tryz.ntmps39
  go_wp2
  go_ret2
  rw[← hW1]
  exact⟨_,rfl,OwnI.nil _ _,b1⟩
 ·obtain⟨m,rfl⟩:∃ m:Nat,most=(m:Int):=⟨most.toNat,by omega⟩
  rw[Int.toNat_natCast]
  have hm:0 < m:=by omega
  have hl:∀ (W:World) (s mb lb nb:Nat),Below w.heap.size w W→SkAt W none b s mb (.slice none 0 0) [] []→w.heap.size≤s∧w.heap.size≤mb→W.heap[lb]?=some (.cells #[.slice none 0 0] 27 (0,0))→W.heap[nb]?=some (.cells #[.int .i64 (m:Int)] 3 (0,0))→w.heap.size≤lb→_:=fun W s mb lb nb k1 k2 k3 k4 k5 k6=>leaves_items w W b s mb vl vg M h k1 k2 k3 hsz D root L ids ht hD hn hid key hLl lb nb m k4 k5 k6 hm hmost
  have HO:=qh ho
  have HL:=qh hl
  unfold pgv at HO ⊢
  clear ho hl h ht hn
  obtain⟨W1,hW1⟩:∃ W1,W1=w.alloc (.cells #[.int .i64 (m:Int)] 3):=⟨_,rfl⟩
  have b1:Below w.heap.size w W1:=by rw[hW1];exact below_new _ _
  have r1:W1.heap[w.heap.size]?=some (.cells #[.int .i64 (m:Int)] 3 (0,0)):=by rw[hW1];exact new_at _ _ _
  obtain⟨W2,hW2⟩:∃ W2,W2=W1.alloc (.cells #[.slice none 0 0] 27):=⟨_,rfl⟩
  have b2:Below W1.heap.size W1 W2:=by rw[hW2];exact below_new _ _
  have r2:W2.heap[W1.heap.size]?=some (.cells #[.slice none 0 0] 27 (0,0)):=by rw[hW2];exact new_at _ _ _
  have HW1:=qh hW1
  have B1:=qh b1
  have B2:=qh (thenBelow b1 b2)
  have R1:=qh (P3.old_below r1 b2)
  have R2:=qh r2
  have o1:=cell_at r1 0
  simp only[qqD,qqE,qqF] at o1
  clear b1 r1 b2 r2
  go_enter Tryz.func39,Tryz.ntmps39
  go_upto_region 1 with fail
  rw[← hW1]
  clear hW1
  go_upto_region 4 with fail
  rw[← hW2]
  clear hW2 o1
  go_upto_region 5 with (first
   | (go_at_call 52;(with_reducible refine (HO.out _).mono ?_);rintro e w3 ⟨s,mb,rfl,g1,g2,g3,g4⟩;have H3:=qh g4;have K3:=qh g1;have HSs:Hid (W2.heap.size≤s∧W2.heap.size≤mb):=qh ⟨g2,g3⟩;clear g1 g2 g3 g4)
   | (go_at_call 59;(with_reducible refine (HL.out _ s mb _ _ (thenBelow B2.out H3.out) K3.out ⟨Nat.le_trans B2.out.size HSs.out.1,Nat.le_trans B2.out.size HSs.out.2⟩ (P3.old_below R2.out H3.out) (P3.old_below R1.out H3.out) B1.out.size).mono ?_);rintro e w4 ⟨v,rfl,g1,g2,g3⟩;have H4:=qh g1;have K4:=qh g2;have V4:=qh g3;clear g1 g2 g3))
  have o4:=cell_at K4.out 0
  simp only[qqD,qqE,qqF] at o4
  go_wp2
  go_ret2
  exact⟨v,rfl,V4.out,H4.out⟩
end Go.Proofs.YtjepgclnbbpnaaaGreat.P12
