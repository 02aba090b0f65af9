/-
  Texts of the proofs of SaidPlays12.
-/
import Derived.Test.YtjepgclnbbpnaaaGreatMr33
set_option linter.unusedVariables false
set_option linter.unusedSimpArgs false
set_option maxHeartbeats 8000000
set_option maxRecDepth 100000
namespace Go.Proofs.YtjepgclnbbpnaaaGreat.P12
open PK (qqA qqB qqC qqD qqE qqF tk tkS dOne qh)
open Go Go.RowKit Go.Lib PK
open P11 (Pg cellsP PgsIn NsIn)
open P9 (It kb kb_trans RightI)
theorem setsM_other{j:Int}:∀ {s:List Pg} {M:PM},RgP M s→(∀ p∈s,p.id≠j)→(setsM M s).get j=M.get j
 | [],_,_,_=>rfl
 | p::s,M,h,k=>by
  show (setsM (M.put (p.id - 2).toNat p) s).get j=_
  rw[setsM_other (s:=s) (fun x hx=>by rw[put_next];exact h x (List.mem_cons_of_mem _ hx)) fun x hx=>k x (List.mem_cons_of_mem _ hx)]
  exact put_get (h p List.mem_cons_self).1 fun e=>k p List.mem_cons_self e.symm
theorem cellsN_flat:∀ l:List Int,(P11.cellsN l).flatten=cellsZ l
 | []=>rfl
 | x::l=>by
  show [Value.int .i64 x]++(P11.cellsN l).flatten=.int .i64 x::cellsZ l
  rw[cellsN_flat l]
  rfl
theorem OwnN_ns{lo:Nat}{w:World}{v:Value}{l:List Int}(h:w.ownsRow lo 3 1 v l.length (cellsZ l))(hl:l.length≤1000000):NsIn w v l:=P11.OwnN.ns (lo:=lo) ⟨by rw[cellsN_flat];exact h,hl⟩
structure DoR (M0:PM) (ids:List Int) (L':List It) (c:Nat) (r:Int) (M':PM):Prop where
 tree:∃ e i gone made,Tree M' e r L' i∧(i++gone).Perm (ids++made)∧M'.given=M0.given++gone∧M'.L.length=M0.L.length+made.length∧(∀ x∈made,M0.next≤x∧x < M'.next)∧made.Nodup∧gone.length≤c
 fr:M'.fr=M0.fr
 bad:M'.bad=M0.bad
 twice:M0.twice=false→(∀ x∈M0.given,x∉ids∧x < M0.next)→M'.twice=false
 old:∀ x,x < M0.next→(x < M0.fr∨x∉ids)→M'.get x=M0.get x
theorem free_twice:∀ (l:List Int) (M:PM),M.twice=false→l.Nodup→(∀ x∈M.given,x∉l)→(M.free l).twice=false
 | [],_,h,_,_=>h
 | j::l,M,h,hn,hg=>by
  obtain⟨n1,n2⟩:=List.nodup_cons.1 hn
  refine free_twice l (M.free1 j) ?_ n2 fun x hx=>?_
  ·show (M.twice || M.given.any (· == j))=false
   rw[h,Bool.false_or,List.any_eq_false]
   intro x hx e
   rw[beq_iff_eq] at e
   exact hg x hx (by rw[e];exact List.mem_cons_self)
  ·have hx:x∈M.given++[j]:=hx
   rcases List.mem_append.1 hx with hx|hx
   ·exact fun e=>hg x hx (List.mem_cons_of_mem _ e)
   ·rw[List.mem_singleton] at hx
    rw[hx]
    exact n1
theorem free_given:∀ (l:List Int) (M:PM),(M.free l).given=M.given++l
 | [],M=>(List.append_nil _).symm
 | j::l,M=>by
  show ((M.free1 j).free l).given=_
  rw[free_given l]
  show (M.given++[j])++l=_
  simp
theorem free_bf:∀ (l:List Int) (M:PM),(M.free l).bad=M.bad∧(M.free l).fr=M.fr
 | [],_=>⟨rfl,rfl⟩
 | j::l,M=>free_bf l (M.free1 j)
theorem Tree.frame{M M':PM}{d:Nat}{r:Int}{l:List It}{i:List Int}(h:Tree M d r l i)(k:∀ j∈i,M'.get j=M.get j):Tree M' d r l i:=by
 cases d with
 | zero=>exact h
 | succ d=>exact TreeAt.frame h k
theorem TopR.done{M0:PM}{ids:List Int}{L':List It}{c:Nat}{r:Int}{G:Cg}(h:TopR M0 ids L' c r G):DoR M0 ids L' c r ((setsM G.M G.sets).free G.gone):=by
 obtain⟨e,i,h1,h2⟩:=h.tree
 have hs:=setsM_same G.sets G.M
 have hN:(ids++G.made).Nodup:=List.nodup_append.2 ⟨h.co.nod,h.co.mnod,fun x hx y hy e=>by
  subst e
  have:=(h.co.rng x hx).2
  have:=(h.co.made x hy).1
  omega⟩
 have hnod:=List.nodup_append.1 (h2.nodup_iff.2 hN)
 have hlen:((setsM G.M G.sets).free G.gone).L.length=G.M.L.length:=by rw[PM.free_L,setsM_len]
 refine⟨⟨e,i,G.gone,G.made,h1.frame fun j _=>PM.free_get _ _ _,h2,?_,?_,fun x hx=>?_,h.co.mnod,h.gonel⟩,?_,?_,fun ht hg=>?_,fun x hx hxo=>?_⟩
 ·rw[free_given,hs.2.1,h.co.same.2.1]
 ·rw[hlen]
  exact h.co.mlen
 ·have:=h.co.made x hx
  unfold PM.next at this ⊢
  rw[hlen]
  exact this
 ·rw[(free_bf _ _).2,hs.1,h.co.same.1]
 ·rw[(free_bf _ _).1,hs.2.2.1,h.co.same.2.2.1]
 ·refine free_twice _ _ (by rw[hs.2.2.2,h.co.same.2.2.2];exact ht) hnod.2.1 fun x hx hxg=>?_
  rw[hs.2.1,h.co.same.2.1] at hx
  have h3:x∈ids++G.made:=h2.mem_iff.1 (List.mem_append_right _ hxg)
  rcases List.mem_append.1 h3 with h3|h3
  ·exact (hg x hx).1 h3
  ·have:=(hg x hx).2
   have:=(h.co.made x h3).1
   omega
 ·rw[PM.free_get,setsM_other h.co.rg,h.co.oldM x hx]
  intro p hp e
  have h3:=h.co.sets p hp
  rw[e] at h3
  rcases hxo with hxo|hxo
  ·omega
  ·exact hxo h3.2.2
theorem TopR.len{M0:PM}{ids:List Int}{L':List It}{c:Nat}{r:Int}{G:Cg}(h:TopR M0 ids L' c r G):G.M.L.length≤4000:=by
 obtain⟨e,i,h1,h2⟩:=h.tree
 have h3:=h2.length_eq
 have h4:=h.co.mlen
 have h5:=h.co.size
 have h6:=h.gonel
 have h7:=h.cl
 have h8:=h.co.llen
 simp only[List.length_append] at h3
 have h9:i.length≤500:=by
  cases e with
  | zero=>rw[h1.2.2];simp
  | succ e=>
   have:=TreeAt.pages (h1:TreeAt _ (e+1) r L' i)
   omega
 omega
theorem do_any(w:World)(G0:Cg)(M0:PM)(D:Nat)(root:Int)(ids:List Int)(L':List It)(gr:Bool)(nd:Nd)(vi vk:Value)(h:CAt w G0)(hn:NdT w none vi vk nd)(hl:G0.ps.length≤12)(hU:UpL M0 D root G0.key ids L' gr G0.ps G0.ps.length G0 nd true)(hgv:M0.given.length≤90000) :
  Calls Tryz.prog 54 #[.pointer (some ⟨G0.c,0,none⟩),.int .i64 root,nd.v vi vk] w fun e w'=>∃ r vl' vg' M',e=.returned (.tuple #[.int .i64 r,.int .i64 0])∧PAt w' G0.b vl' vg' M'∧P3.Fr G0.S w w'∧(∀ j,PS G0.b vl' vg' j→G0.S j∨w.heap.size≤j)∧DoR M0 ids L' (gmax gr D) r M':=by
 obtain⟨X,hX⟩:∃ X,X=w.alloc (.cells #[.int .i64 nd.kind,vi,vk] 80):=⟨_,rfl⟩
 have b0:Below w.heap.size w X:=by rw[hX];exact below_new _ _
 have r0:X.heap[w.heap.size]?=some (.cells #[.int .i64 nd.kind,vi,vk] 80 (0,0)):=by rw[hX];exact new_at _ _ _
 have hup:=up_any X G0 M0 D root ids L' gr nd vi vk (h.below b0) (hn.keep (FrT.of b0)) hl hU
 obtain⟨a1,n1,c1,a2,n2,c2,rfl,rfl,_⟩:=hn.lens
 obtain⟨K,hK⟩:∃ K,K=nd.kind:=⟨_,rfl⟩
 unfold Nd.v at hup ⊢
 rw[← hK] at hX r0 hup ⊢
 have HUp:=qh hup
 have HB0:=qh b0
 have HH:=qh h
 have x0:=cell_at r0 0
 have x1:=cell_at r0 1
 have x2:=cell_at r0 2
 simp only[qqD,qqE,qqF] at x0 x1 x2
 clear hup b0 h hn hU r0 hK
 go_enter Tryz.func54,Tryz.ntmps54
 go_upto_region 1 with fail
 rw[← hX]
 clear hX
 go_upto_region 5 with (go_at_call 69;(with_reducible refine HUp.out.mono ?_);rintro e w1 ⟨r,G',rfl,g1,g2,g3⟩;have HWn:=qh ((Went.below HH.out HB0.out).trans g1);have HSm:=qh g2;have HTr:=qh g3;clear g1 g2 g3)
 clear x0 x1 x2
 have c3:=cell_at HWn.out.at_.ch.obj 3
 rw[HSm.out.c] at c3
 simp only[qqD,qqE,qqF] at c3
 obtain⟨N,hN⟩:∃ N,N=G'.sets.length:=⟨_,rfl⟩
 obtain⟨va,vc,hvs⟩:∃ a c,G'.vs=.slice a N c:=by
  rcases HWn.out.at_.ch.rs.2 with ⟨e,e2⟩|⟨g,cap,cur,e,_⟩
  ·exact⟨none,0,by rw[e,hN,e2]⟩
  ·exact⟨_,_,by rw[hN];exact e⟩
 rw[hvs] at c3
 have HVs:=qh hvs
 have HN:=qh hN
 have hNl:N≤8000:=by rw[hN];exact HTr.out.setl
 have A0:Hid (∃ vl',Went w w1 G0 { G' with vl:=vl',M:=setsM G'.M (G'.sets.take 0) }):=qh ⟨G'.vl,HWn.out⟩
 clear hvs hN
 go_wp2
 clear c3
 go_loopw [40] (fun vi wr=>∃ i:Nat,vi=.int .i64 i∧i≤N∧Hid (∃ vl',Went w wr G0 { G' with vl:=vl',M:=setsM G'.M (G'.sets.take i) })) (fun vi _=>N - (RowKit.intOf vi).toNat)
 case atStart=>exact⟨0,rfl,Nat.zero_le _,A0⟩
 case round=>
  clear A0
  obtain⟨i,rfl,hi,HS⟩:=hrel
  obtain⟨vl',hw⟩:=HS.out
  have hcx:=hw.at_
  by_cases h1:i < N
  ·have k1:decide ((i:Int) < (N:Int))=true:=decide_eq_true (by omega)
   have k2:(i:Int) < (N:Int):=by omega
   have k3:(0:Int)≤(i:Int):=by omega
   obtain⟨p,hp⟩:∃ p,G'.sets[i]?=some p:=⟨_,List.getElem?_eq_getElem (by have:=HN.out;omega)⟩
   have hrow:=hcx.ch.rs
   have hpg:=P11.owns_pgs hrow (by show G'.sets.length≤1000000;have:=HN.out;omega)
   have hpg:PgsIn wr G'.vs G'.sets:=hpg
   rw[HVs.out] at hpg
   obtain⟨bo,oo,e9,hcc⟩:=hpg.at_ hp
   subst e9
   obtain⟨c0,c1',c2',c3⟩:=hcc _ (Below.refl _ _)
   have hpm:=List.mem_of_getElem? hp
   have hset:=HTr.out.co.sets p hpm
   have hrg:=HTr.out.co.rg p hpm
   have hfr2:=HTr.out.co.fr2
   have htk:G'.sets.take (i+1)=G'.sets.take i++[p]:=by rw[List.take_add_one,hp];rfl
   have hM:setsM G'.M (G'.sets.take (i+1))=(setsM G'.M (G'.sets.take i)).put (p.id - 2).toNat p:=by rw[htk,setsM_snoc]
   obtain⟨W3,hW3⟩:∃ W3,W3=wr.alloc (.cells #[.int .i64 p.k,.int .i64 p.id,.int .i64 p.tx,.string p.body] 86):=⟨_,rfl⟩
   have b3:Below wr.heap.size wr W3:=by rw[hW3];exact below_new _ _
   have hp3:W3.heap[wr.heap.size]?=some (.cells #[.int .i64 p.k,.int .i64 p.id,.int .i64 p.tx,.string p.body] 86 (0,0)):=by rw[hW3];exact new_at _ _ _
   have HB3:=qh b3
   have HP3:=qh hp3
   have HWr:=qh hw
   have hset2:∀ W,Below W3.heap.size W3 W→Calls Tryz.prog 182 #[.pointer (some ⟨G0.b,0,none⟩),.agg #[.int .i64 p.k,.int .i64 p.id,.int .i64 p.tx,.string p.body]] W fun e w'=>∃ vl2,e=.returned (.int .i64 0)∧Went w w' G0 { G' with vl:=vl2,M:=setsM G'.M (G'.sets.take (i+1)) }∧w'.heap[wr.heap.size]?=some (.cells #[.int .i64 p.k,.int .i64 p.id,.int .i64 p.tx,.string p.body] 86 (0,0)):=fun W k=>by
    have hwk:=HWr.out.then (thenBelow HB3.out k)
    have hs9:=setsM_same (G'.sets.take i) G'.M
    have hln:=setsM_len (G'.sets.take i) G'.M
    have hnx:=hrg.2
    unfold PM.next at hnx
    have h9:=set_any W G'.b vl' G'.vg (setsM G'.M (G'.sets.take i)) p (p.id - 2).toNat hwk.at_.pg (by rw[hln];exact HTr.out.len) (by rw[hs9.1,HTr.out.co.same.1];exact hfr2) (by omega) (by rw[hln];omega) (by rw[hs9.1,HTr.out.co.same.1];exact hset.1)
    rw[HSm.out.b] at h9
    refine h9.mono ?_
    rintro e w' ⟨vl2,rfl,g1,g2,g3⟩
    have hwp:=hwk.at_.pages (w':=w') (vl':=vl2) (vg':=G'.vg) (M':=setsM G'.M (G'.sets.take (i+1))) (by rw[hM];show PAt w' G'.b _ _ _;rw[HSm.out.b];exact g1) (by show P3.Fr (PS G'.b vl' G'.vg) W w';rw[HSm.out.b];exact g2) fun j hj=>by
     rcases hj with hj|hj|hj
     ·exact .inl (.inl hj)
     ·exact (g3 j hj).imp (fun h=>.inr (.inl h)) fun h=>h
     ·exact .inl (.inr (.inr hj))
    refine⟨vl2,rfl,hwk.trans hwp,(hwp.box (P3.old_below HP3.out k) fun e=>?_).1⟩
    have h7:=HWr.out.at_.lt e
    omega
   have HSet:=qh hset2
   have hst:∀ (W:World) (Gi:Cg),Went w W G0 Gi→Gi.c=G'.c→Gi.s=G'.s→Gi.b=G'.b→W.heap[wr.heap.size]?=some (.cells #[.int .i64 p.k,.int .i64 p.id,.int .i64 p.tx,.string p.body] 86 (0,0))→W.cell? ⟨G0.c,0,none⟩=some (.pointer (some ⟨G0.s,0,none⟩))∧W.cell? ⟨G0.s,0,none⟩=some (.iface 25 (.pointer (some ⟨G0.b,0,none⟩)))∧W.cell? ⟨wr.heap.size,0,none⟩=some (.int .i64 p.k)∧W.cell? ⟨wr.heap.size,1,none⟩=some (.int .i64 p.id)∧W.cell? ⟨wr.heap.size,2,none⟩=some (.int .i64 p.tx)∧W.cell? ⟨wr.heap.size,3,none⟩=some (.string p.body):=fun W Gi k e1 e2 e3 hb=>by
    have h1:=cell_at k.at_.ch.obj 0
    have h2:=cell_at k.at_.sk.obj 0
    simp only[qqD,qqE,qqF] at h1 h2
    rw[e1,e2,HSm.out.c,HSm.out.s] at h1
    rw[e2,e3,HSm.out.s,HSm.out.b] at h2
    exact⟨h1,h2,cell_at hb 0,cell_at hb 1,cell_at hb 2,cell_at hb 3⟩
   have HS0:Hid (∀ W,Below W3.heap.size W3 W→W.cell? ⟨G0.c,0,none⟩=some (.pointer (some ⟨G0.s,0,none⟩))∧W.cell? ⟨G0.s,0,none⟩=some (.iface 25 (.pointer (some ⟨G0.b,0,none⟩)))∧W.cell? ⟨wr.heap.size,0,none⟩=some (.int .i64 p.k)∧W.cell? ⟨wr.heap.size,1,none⟩=some (.int .i64 p.id)∧W.cell? ⟨wr.heap.size,2,none⟩=some (.int .i64 p.tx)∧W.cell? ⟨wr.heap.size,3,none⟩=some (.string p.body)):=fun W k=>hst W _ (HWr.out.then (thenBelow HB3.out k)) rfl rfl rfl (P3.old_below HP3.out k)
   have HSt9:=qh hst
   have HX3:=qh (Below.refl W3.heap.size W3)
   have n9:=nSet
   have m9:=mSet
   clear hrow hpg hcc hp hset hrg hM htk hset2 hst b3 hp3 hw hcx HS hpm hfr2
   go_upto_region 8 with fail
   rw[← hW3]
   clear hW3 c0 c1' c2' c3
   go_region_held3 (fun W=>W.cell? ⟨G0.c,0,none⟩=some (.pointer (some ⟨G0.s,0,none⟩))∧W.cell? ⟨G0.s,0,none⟩=some (.iface 25 (.pointer (some ⟨G0.b,0,none⟩)))∧W.cell? ⟨wr.heap.size,0,none⟩=some (.int .i64 p.k)∧W.cell? ⟨wr.heap.size,1,none⟩=some (.int .i64 p.id)∧W.cell? ⟨wr.heap.size,2,none⟩=some (.int .i64 p.tx)∧W.cell? ⟨wr.heap.size,3,none⟩=some (.string p.body)) (first|(with_reducible exact HS0.out _ HX3.out)|(with_reducible exact HS0.out _ HX3.out.drew)|(with_reducible exact HZs.out)|(with_reducible exact HZd.out))
    ((go_at_call 182;(with_reducible refine (HSet.out _ (by first|(with_reducible exact HX3.out)|(with_reducible exact HX3.out.drew))).mono ?_);rintro e w5 ⟨vl2,rfl,hz1,hz2⟩;have HZ1:=qh hz1;have HZs:=qh (HSt9.out w5 _ hz1 rfl rfl rfl hz2);have HZd:=qh (HSt9.out w5.drew _ (hz1.then (Below.refl _ _).drew) rfl rfl rfl hz2);clear hz1 hz2))
   all_goals
    clear n9 m9
    go_wp2
    go_roundw
    case rel=>exact⟨i+1,by go_num,by omega,qh ⟨vl2,by first|exact HZ1.out|exact HZ1.out.then (Below.refl _ _).drew⟩⟩
    case measure=>simp[RowKit.intOf];omega
  ·have k1:decide ((i:Int) < (N:Int))=false:=decide_eq_false (by omega)
   have k2:¬ ((i:Int) < (N:Int)):=by omega
   have e9:G'.sets.take i=G'.sets:=List.take_of_length_le (by have:=HN.out;omega)
   rw[e9] at hw hcx
   have HWr:=qh hw
   clear hw hcx HS e9
   have HFr:Hid (∀ W,Below wr.heap.size wr W→Calls Tryz.prog 43 #[pgv G0.b,G'.vo] W fun e w'=>∃ vg',e=.returned (.tuple #[])∧FrS W G0.b vl' G'.vg vg' ((setsM G'.M G'.sets).free G'.gone) w'):=fun W k=>by
    have hc:=(HWr.out.then k).at_
    have hp:=hc.pg
    have h9:=tiFree_any W G'.b vl' G'.vg G'.vo (setsM G'.M G'.sets) G'.gone hp (fun w' f=>?_) ?_
    ·rw[HSm.out.b] at h9
     exact h9
    ·exact OwnN_ns (owns_fr hc.ch.ro f fun j hj e=>hc.ap j (.inr (.inr (.inr hj))) e) (by have:=HTr.out.gonel;have:=HTr.out.cl;omega)
    ·rw[(setsM_same _ _).2.1,HTr.out.co.same.2.1]
     have:=HTr.out.gonel
     have:=HTr.out.cl
     omega
   have HSt:Hid (∀ W,Below wr.heap.size wr W→W.cell? ⟨G0.c,0,none⟩=some (.pointer (some ⟨G0.s,0,none⟩))∧W.cell? ⟨G0.s,0,none⟩=some (pgv G0.b)∧W.cell? ⟨G0.c,4,none⟩=some G'.vo):=fun W k=>by
    have hc:=(HWr.out.then k).at_
    have h1:=cell_at hc.ch.obj 0
    have h2:=cell_at hc.sk.obj 0
    have h3:=cell_at hc.ch.obj 4
    simp only[qqD,qqE,qqF] at h1 h2 h3
    rw[HSm.out.c] at h1 h3
    rw[HSm.out.s] at h1 h2
    rw[HSm.out.b] at h2
    exact⟨h1,h2,h3⟩
   have HX:=qh (Below.refl wr.heap.size wr)
   obtain⟨ga,gc,hvo⟩:∃ a c,G'.vo=.slice a G'.gone.length c:=by
    rcases HWr.out.at_.ch.ro.2 with ⟨e,e2⟩|⟨g,cap,cur,e,_⟩
    ·exact⟨none,0,by rw[show G'.vo=_ from e,show G'.gone.length=0 from e2]⟩
    ·exact⟨_,_,e⟩
   obtain⟨gn,hgn⟩:∃ n,n=G'.gone.length:=⟨_,rfl⟩
   rw[hvo,← hgn] at HFr HSt
   have HEnd:Hid (∀ (W w2 w3:World) (vg':Value),Below wr.heap.size wr W→FrS W G0.b vl' G'.vg vg' ((setsM G'.M G'.sets).free G'.gone) w2→Below w2.heap.size w2 w3→PAt w3 G0.b vl' vg' ((setsM G'.M G'.sets).free G'.gone)∧P3.Fr G0.S w w3∧(∀ j,PS G0.b vl' vg' j→G0.S j∨w.heap.size≤j)):=fun W w2 w3 vg' k f k3=>by
    have hwk:=HWr.out.then k
    have hwp:=hwk.at_.pages (w':=w2) (vl':=vl') (vg':=vg') (M':=(setsM G'.M G'.sets).free G'.gone) (by show PAt w2 G'.b _ _ _;rw[HSm.out.b];exact f.pa) (by show P3.Fr (PS G'.b vl' G'.vg) W w2;rw[HSm.out.b];exact f.fr) fun j hj=>by
     rcases hj with hj|hj|hj
     ·exact .inl (.inl hj)
     ·exact .inl (.inr (.inl hj))
     ·exact (f.own j hj).imp (fun h=>.inr (.inr h)) fun h=>h
    have hwa:=(hwk.trans hwp).then k3
    refine⟨?_,hwa.fr,fun j hj=>hwa.new j (.inl ?_)⟩
    ·have h9:=hwa.at_.pg
     have h9:PAt w3 G'.b vl' vg' ((setsM G'.M G'.sets).free G'.gone):=h9
     rwa[HSm.out.b] at h9
    ·show PS G'.b vl' vg' j
     rw[HSm.out.b]
     exact hj
   have HSg:∀ (W:World),Below wr.heap.size wr W→∀ (w2:World) (vg':Value),FrS W G0.b vl' G'.vg vg' ((setsM G'.M G'.sets).free G'.gone) w2→Hid (w2.cell? ⟨G0.c,0,none⟩=some (.pointer (some ⟨G0.s,0,none⟩))∧w2.cell? ⟨G0.s,0,none⟩=some (.iface 25 (.pointer (some ⟨G0.b,0,none⟩)))∧w2.cell? ⟨G0.c,4,none⟩=some (.slice ga gn gc)):=fun W k w2 vg' f=>by
    have hc:=(HWr.out.then k).at_
    have h1:=cell_at (f.fr.keep hc.ch.obj fun e=>hc.ap _ (.inl rfl) (by rw[← HSm.out.b] at e;exact e)) 0
    have h3:=cell_at (f.fr.keep hc.ch.obj fun e=>hc.ap _ (.inl rfl) (by rw[← HSm.out.b] at e;exact e)) 4
    have h2:=cell_at (f.fr.keep hc.sk.obj fun e=>hc.sk.apart hc.pg (.inl rfl) (by rw[← HSm.out.b] at e;exact e)) 0
    simp only[qqD,qqE,qqF] at h1 h2 h3
    rw[HSm.out.c] at h1 h3
    rw[HSm.out.s] at h1 h2
    rw[HSm.out.b] at h2
    rw[hvo,← hgn] at h3
    exact qh ⟨h1,h2,h3⟩
   have HSg1:=qh (HSg wr.drew (Below.refl _ _).drew)
   have HSg:=qh (HSg wr (Below.refl _ _))
   clear hvo hgn
   go_upto_region 12 with fail
   clear k1 k2
   unfold pgv at HFr HSt
   go_region_held3 (fun W=>W.cell? ⟨G0.c,0,none⟩=some (.pointer (some ⟨G0.s,0,none⟩))∧W.cell? ⟨G0.s,0,none⟩=some (.iface 25 (.pointer (some ⟨G0.b,0,none⟩)))∧W.cell? ⟨G0.c,4,none⟩=some (.slice ga gn gc)) (first|(with_reducible exact HSt.out _ HX.out)|(with_reducible exact HSt.out _ HX.out.drew)|(with_reducible exact HZs.out)|(with_reducible exact HZd.out))
    ((go_at_call 43;(with_reducible refine (HFr.out _ (by first|(with_reducible exact HX.out)|(with_reducible exact HX.out.drew))).mono ?_);rintro e w5 ⟨vg',rfl,hz1⟩;have HZ1:=qh hz1;have HZs:=(by first|exact HSg.out w5 vg' hz1|exact HSg1.out w5 vg' hz1);have HZd:=(by first|exact HSg.out w5.drew vg' ⟨hz1.pa.below (Below.refl _ _).drew,hz1.fr.trans (P3.Fr.of (Below.refl _ _).drew),hz1.own⟩|exact HSg1.out w5.drew vg' ⟨hz1.pa.below (Below.refl _ _).drew,hz1.fr.trans (P3.Fr.of (Below.refl _ _).drew),hz1.own⟩);clear hz1))
   all_goals
    have HDn:=qh HTr.out.done
    go_wp2
    go_ret2
    first
     | exact⟨r,vl',vg',_,rfl,(HEnd.out _ _ _ vg' (by first|exact Below.refl _ _|exact (Below.refl _ _).drew) HZ1.out (by first|exact Below.refl _ _|exact (Below.refl _ _).drew)).1,(HEnd.out _ _ _ vg' (by first|exact Below.refl _ _|exact (Below.refl _ _).drew) HZ1.out (by first|exact Below.refl _ _|exact (Below.refl _ _).drew)).2.1,(HEnd.out _ _ _ vg' (by first|exact Below.refl _ _|exact (Below.refl _ _).drew) HZ1.out (by first|exact Below.refl _ _|exact (Below.refl _ _).drew)).2.2,HDn.out⟩
end Go.Proofs.YtjepgclnbbpnaaaGreat.P12
namespace Go.Proofs.YtjepgclnbbpnaaaGreat.P12
open Go Go.RowKit Go.Lib PK
open P11 (Pg cellsP PgsIn NsIn)
open P9 (It kb kb_trans RightI)
theorem up_start{M:PM}{d:Nat}{root:Int}{key:ByteArray}{L L':List It}{ids:List Int}{ts:List Sp}{pl:Sp}{fs:List Fr}{id':Int}{l':List It}{i':List Int}{gr:Bool}{G:Cg}{l2:List It}(h:Down M (d+1) root key L ids ts pl fs id' l' i')(hd:d+1≤12)(hn:ids.Nodup)(hr:∀ x∈ids,2≤x∧x < M.next)
  (hsz:M.L.length≤3400) (hfr:2≤M.fr) (hL:∀ la lb,L=la++l'++lb→Lows la key→Highs lb key→L'=la++l2++lb) (hR:RightI L') (hll:L'.length≤250) (hsub:∀ x∈l2,x∈l'∨x.key=key) (hgr:gr=true→l'.length≤l2.length)
  (gM:G.M=M) (gs:G.sets=[]) (gm:G.made=[]) (gg:G.gone=[]) (gn:G.sn=pathI fs++[id']) (gk:G.key=key):UpL M (d+1) root key ids L' gr (ts++[pl]) (ts++[pl]).length G (.lf l2) true:=by
 have hlen:=h.tw.len
 have hdl:=h.dn.len
 rw[List.length_reverse] at hlen
 obtain⟨la,lb,ia,ib,hw,ht,hro,e1,e2,h1,h2⟩:=h.dn
 have hi:i'=[id']:=ht.2
 have hU:UpO M (d+1) root key ids L' gr fs 1 id' la lb ia ib l' i' l2 ([id']++[]) G:=by
  refine⟨hw,hd,ht,hro,e2,hn,hr,hsz,hL la lb e1 h1 h2,hR,hll,fun f hf=>⟨fun x hx=>?_,?_⟩,fun j _=>by rw[gM,gs];rfl,fun x _=>by rw[gM],?_,?_,?_,?_,?_,?_,?_,hfr,?_,?_,fun x hx=>?_,?_,gk⟩
  ·rcases hsub x hx with h3|h3
   ·exact .inl ((hro f hf).1 x h3)
   ·rcases (h.by_ f hf).1 with h4|h4
    ·exact .inr ⟨h4,h3⟩
    ·rw[h3]
     exact .inl h4
  ·intro k hk x hx
   rcases hsub x hx with h3|h3
   ·exact (hro f hf).2 k hk x h3
   ·cases hfb:f.b with
    | nil=>rw[hfb] at hk;cases hk
    | cons q b=>
     rw[hfb] at hk
     cases hk
     rw[h3]
     exact (h.by_ f hf).2 q (by rw[hfb];exact List.mem_cons_self)
  ·rw[gg,gm,hi]
   exact List.Perm.refl _
  ·rw[gs]
   exact fun p hp=>by cases hp
  ·rw[gM,gm]
   rfl
  ·rw[gm]
   exact fun x hx=>by cases hx
  ·rw[gm]
   exact List.nodup_nil
  ·rw[gs]
   exact fun p hp=>by cases hp
  ·rw[gM]
   exact⟨rfl,rfl,rfl,rfl⟩
  ·rw[gg]
   exact Nat.zero_le _
  ·rw[gs]
   exact Nat.zero_le _
  ·rw[gn] at hx
   rcases List.mem_append.1 hx with hx|hx
   ·unfold pathI at hx
    obtain⟨f,hf,rfl⟩:=List.mem_map.1 hx
    exact .inr ⟨f,List.mem_reverse.1 hf,rfl⟩
   ·rw[hi]
    exact .inl hx
  ·rw[gn]
   unfold pathI
   simp only[List.length_append,List.length_map,List.length_reverse,List.length_singleton]
   omega
 have hup:=UpL.way (ps:=ts++[pl]) (nd:=.lf l2) (ch:=true) (here:=pl) hU (.inr ⟨rfl,[],rfl,rfl,rfl⟩) (by rw[← hlen,List.getElem?_append_right (Nat.le_refl _),Nat.sub_self];rfl) (lf_here h.lf ht.1) (by rw[← hlen,List.take_left' rfl];exact h.tw)
  (fun hg _=>by
   rw[h.lf.1]
   exact hgr hg) (fun h4=>by cases h4)
 rw[List.length_append,List.length_singleton,hlen]
 exact hup
theorem up_none{M:PM}{L':List It}{gr:Bool}{G:Cg}(hsz:M.L.length≤3400)(hfr:2≤M.fr)(hR:RightI L')(hll:L'.length≤250)
  (gM:G.M=M) (gs:G.sets=[]) (gm:G.made=[]) (gg:G.gone=[]) (root:Int) (key:ByteArray):UpL M 0 root key [] L' gr [] 0 G (.lf L') true:=by
 refine .low (d:=1) ⟨⟨List.nodup_nil,fun x hx=>(by cases hx),hsz,hR,hll,?_,?_,?_,?_,?_,?_,hfr,fun x _=>by rw[gM]⟩,⟨rfl,rfl⟩,?_,fun p hp=>(by cases hp),Nat.zero_le _,?_,?_,?_⟩ rfl
 ·rw[gs]
  exact fun p hp=>by cases hp
 ·rw[gM,gm]
  rfl
 ·rw[gm]
  exact fun x hx=>by cases hx
 ·rw[gm]
  exact List.nodup_nil
 ·rw[gs]
  exact fun p hp=>by cases hp
 ·rw[gM]
  exact⟨rfl,rfl,rfl,rfl⟩
 ·rw[gg,gm]
  exact List.Perm.refl _
 ·rw[gs]
  exact Nat.zero_le _
 ·rw[gg]
  exact Nat.zero_le _
 ·show _*0≤24
  omega
theorem ch_start{w:World}{b s mb:Nat}{vl vg vw:Value}{M:PM}{ps:List Sp}{sn:List Int}(key:ByteArray)(hp:PAt w b vl vg M)(hs:SkAt w none b s mb vw ps sn) :
  CAt (w.alloc (.cells #[.pointer (some ⟨s,0,none⟩),.string key,.slice none 0 0,.slice none 0 0,.slice none 0 0] 76)) ⟨b,s,mb,w.heap.size,vl,vg,vw,.slice none 0 0,.slice none 0 0,.slice none 0 0,M,ps,sn,key,[],[],[]⟩:=by
 have b0:=below_new w (.cells #[.pointer (some ⟨s,0,none⟩),.string key,.slice none 0 0,.slice none 0 0,.slice none 0 0] 76)
 refine⟨hp.below b0,hs.below b0,⟨new_at _ _ _,World.ownsRow_nil _ _ _ _,World.ownsRow_nil _ _ _ _,World.ownsRow_nil _ _ _ _,fun k e=>by cases e⟩,fun k hk hk2=>?_⟩
 have hkb:k < w.heap.size:=by
  obtain⟨cs,t,e,_⟩:=hp.cells_ hk2
  exact lt_of_block e
 rcases hk with rfl|hk|hk|hk
 ·exact Nat.lt_irrefl _ hkb
 ·cases hk
 ·cases hk
 ·cases hk
end Go.Proofs.YtjepgclnbbpnaaaGreat.P12
namespace Go.Proofs.YtjepgclnbbpnaaaGreat.P12
open PK (qqA qqB qqC qqD qqE qqF tk tkS dOne qh)
open Go Go.RowKit Go.Lib PK
open P9 (It kb hasK lowK)
theorem item_result3{fn:Func}{q u v:Tmp}(h:fn.results=#[.cell q 29,.tmp u,.tmp v])(tmps:Array Value)(w:World)(a:Nat)(cs:Array Value)(hq:tmps.getD q undef=.pointer (some ⟨a,0,none⟩))(hc:w.heap[a]?=some (.cells cs 29 (0,0)))(hs:cs.size=3) :
  (results fn tmps).run Tryz.prog w=.ok (.tuple #[.agg cs,tmps.getD u undef,tmps.getD v undef]) w:=by
 have hi:(Tryz.prog.info? 29).map (·.size)=some cs.size:=by rw[hs];kernel_rfl
 have e0:(results fn tmps).run Tryz.prog w=((asAddr (tmps.getD q undef)).run Tryz.prog w).andThen fun a w₁=>((loadVar 29 a).run Tryz.prog w₁).andThen fun x w₂=>.ok (.tuple #[x,tmps.getD u undef,tmps.getD v undef]) w₂:=by
  simp only[results,h]
  simp[Sem.run_bind,Result.andThen]
 have e1:(asAddr (.pointer (some ⟨a,0,none⟩))).run Tryz.prog w=.ok ⟨a,0,none⟩ w:=rfl
 rw[e0,hq,e1,Result.andThen_ok,run_loadVar_row (P:=Tryz.prog) w a 29 29 cs (0,0) _ hc Tryz.underlying29 rfl hi]
 rfl
theorem DnS.below{a w w':World}{x:Option Nat}{b s mb:Nat}{vw vw':Value}{ps':List Sp}{sn':List Int}(h:DnS w w' x b s mb vw vw' ps' sn')(k:Below a.heap.size a w)(hs:∀ j,SS s mb vw j→a.heap.size≤j):Below a.heap.size a w':=P3.Fr.new k h.fr hs
theorem SS_new{a:World}{s mb:Nat}(h1:a.heap.size≤s)(h2:a.heap.size≤mb):∀ j,SS s mb (.slice none 0 0) j→a.heap.size≤j:=fun j hj=>by
 rcases hj with rfl|hj|rfl
 ·exact h1
 ·cases hj
 ·exact h2
theorem tiDepth_any(w:World)(b:Nat)(vl vg:Value)(M:PM)(h:PAt w b vl vg M)(hl:M.L.length≤100000)(D:Nat)(root:Int)(L:List It)(ids:List Int)(ht:Tree M D root L ids)(hD:D≤12)(hn:ids.Nodup) :
  Calls Tryz.prog 47 #[pgv b,.int .i64 root] w fun e w'=>e=.returned (.tuple #[.int .i64 D,.int .i64 0])∧Below w.heap.size w w':=by
 have HP:=qh h
 cases D with
 | zero=>
  obtain⟨rfl,rfl,rfl⟩:=ht
  have HO:=qh (on_any w none b)
  have HD:=qh (fun W=>down_zero W (w.heap.size+1) ⟨#[]⟩)
  unfold pgv at HO ⊢
  clear h
  go_enter Tryz.func47,Tryz.ntmps47
  go_wp2_with (first
   | (go_at_call 52;(with_reducible refine HO.out.mono ?_);rintro e w1 ⟨rfl,h1,h2⟩;have H1:=qh h1;have H2:=qh h2;have o1:=cell_at h1.obj 1;simp only[qqD,qqE,qqF] at o1;clear h1 h2)
   | (go_at_call 53;(with_reducible refine (HD.out _).mono ?_);rintro e w2 ⟨rfl,rfl⟩))
  go_ret2
  exact⟨rfl,H2.out⟩
 | succ d=>
  have ht:TreeAt M (d+1) root L ids:=ht
  have HT:=qh ht
  have HO:=qh (on_any w none b)
  have HD:=qh (fun W (h1:SkAt W none b (w.heap.size+1) w.heap.size (.slice none 0 0) [] []) (h2:Below w.heap.size w W)=>down_any W none b vl vg M (w.heap.size+1) w.heap.size (.slice none 0 0) [] [] (h.below h2) h1 hl (d+1) root ⟨#[]⟩ L ids ht (by simp;omega) hn (fun _ _ f=>by cases f) (by simp) (fun _ e=>by cases e))
  unfold pgv at HO ⊢
  clear h ht
  go_enter Tryz.func47,Tryz.ntmps47
  go_wp2_with (first
   | (go_at_call 52;(with_reducible refine HO.out.mono ?_);rintro e w1 ⟨rfl,h1,h2⟩;have H1:=qh h1;have H2:=qh h2;clear h1 h2)
   | (go_at_call 53;(with_reducible refine (HD.out _ H1.out H2.out).mono ?_);rintro e w2 ⟨vw',ts,pl,fs,id',l',i',rfl,h3,h4⟩;have H3:=qh h3;have H4:=qh h4;obtain⟨a,c,e9⟩:=h3.sk.slice;subst e9;have o2:=cell_at h3.sk.obj 1;simp only[qqD,qqE,qqF] at o2;clear h3 h4))
  go_ret2
  have e9:=H4.out.dn.len
  have e8:=H4.out.tw.len
  rw[List.length_reverse] at e8
  exact⟨by rw[show ((d+1:Nat):Int)=(ts.length:Int)+1 by omega];rfl,H3.out.below H2.out (SS_new (Nat.le_succ _) (Nat.le_refl _))⟩
theorem tiGet_any(w:World)(b:Nat)(vl vg:Value)(M:PM)(h:PAt w b vl vg M)(hl:M.L.length≤100000)(D:Nat)(root:Int)(L:List It)(ids:List Int)(ht:Tree M D root L ids)(hD:D≤12)(hn:ids.Nodup)(key:ByteArray)(x:It)
  (h1:hasK L key=true→L[lowK L key]?=some x) (h2:hasK L key=false→x=⟨⟨#[]⟩,⟨#[]⟩,0⟩) :
  Calls Tryz.prog 49 #[pgv b,.int .i64 root,.string key] w fun e w'=>e=.returned (.tuple #[x.v,.bool (hasK L key),.int .i64 0])∧Below w.heap.size w w':=by
 obtain⟨W0,hW0⟩:∃ W0,W0=w.alloc (.cells #[.string ⟨#[]⟩,.string ⟨#[]⟩,.int .i64 0] 29):=⟨_,rfl⟩
 have b0:Below w.heap.size w W0:=by rw[hW0];exact below_new _ _
 have r0:W0.heap[w.heap.size]?=some (.cells #[.string ⟨#[]⟩,.string ⟨#[]⟩,.int .i64 0] 29 (0,0)):=by rw[hW0];exact new_at _ _ _
 have HP:=qh (h.below b0)
 have B0:=qh b0
 have HO:=qh (on_any W0 none b)
 obtain⟨kx,vx,qx⟩:=x
 cases D with
 | zero=>
  obtain⟨rfl,rfl,rfl⟩:=ht
  have hx:=h2 rfl
  cases hx
  have HD:=qh (fun W=>down_zero W (W0.heap.size+1) key)
  have HI:=qh (fun W (k:SkAt W none b (W0.heap.size+1) W0.heap.size (.slice none 0 0) [] [])=>skItems_nil W none b (W0.heap.size+1) W0.heap.size (.slice none 0 0) [] k)
  have HF:=qh (fun W=>P9.find_any W (.slice none 0 0) [] key (P9.OwnI.nil 0 W).its (by simp) P9.RightI.nil)
  have hk0:hasK [] key=false:=rfl
  have hl0:lowK [] key=0:=rfl
  rw[hk0,hl0] at HF
  rw[hk0]
  unfold pgv at HO ⊢
  have HR0:=qh (fun W (k:Below W0.heap.size W0 W)=>P3.old_below r0 k)
  clear h h1 h2 r0 b0
  go_enter Tryz.func49,Tryz.ntmps49
  go_upto_region 1 with fail
  rw[← hW0]
  clear hW0
  go_wp2_with (first
   | (go_at_call 52;(with_reducible refine HO.out.mono ?_);rintro e w1 ⟨rfl,h1,h2⟩;have H1:=qh h1;have H2:=qh h2;clear h1 h2)
   | (go_at_call 53;(with_reducible refine (HD.out _).mono ?_);rintro e w2 ⟨rfl,rfl⟩)
   | (go_at_call 57;(with_reducible refine (HI.out _ H1.out).mono ?_);rintro e w3 ⟨rfl,rfl⟩)
   | (go_at_call 66;(with_reducible refine (HF.out _).mono ?_);rintro e w4 ⟨rfl,h4⟩;have H4:=qh (thenBelow H2.out h4);have hr4:=HR0.out _ H4.out;have q0:=cell_at hr4 0;have q1:=cell_at hr4 1;have q2:=cell_at hr4 2;have f0:=free_at hr4 0;have f1:=free_at hr4 1;have f2:=free_at hr4 2;simp only[qqD,qqE,qqF] at q0 q1 q2;clear h4 hr4))
  have hr4:=HR0.out _ H4.out
  have hs:=r5_set hr4 (.string ⟨#[]⟩) (.string ⟨#[]⟩) (.int .i64 0)
  refine bodyPost_ret (item_result3 rfl _ _ w.heap.size _ rfl hs.1 rfl) rfl ⟨rfl,?_⟩
  exact (((thenBelow B0.out H4.out).setCell (p:=⟨w.heap.size,0,none⟩) (Nat.le_refl _) _).setCell (p:=⟨w.heap.size,1,none⟩) (Nat.le_refl _) _).setCell (p:=⟨w.heap.size,2,none⟩) (Nat.le_refl _) _
 | succ d=>
  have ht:TreeAt M (d+1) root L ids:=ht
  have HD:=qh (fun W (h1:SkAt W none b (W0.heap.size+1) W0.heap.size (.slice none 0 0) [] []) (h2:Below W0.heap.size W0 W)=>down_any W none b vl vg M (W0.heap.size+1) W0.heap.size (.slice none 0 0) [] [] (HP.out.below h2) h1 hl (d+1) root key L ids ht (by simp;omega) hn (fun _ _ f=>by cases f) (by simp) (fun _ e=>by cases e))
  have HI:=qh (fun W vw' ts pl sn (k:SkAt W none b (W0.heap.size+1) W0.heap.size vw' (ts++[pl]) sn) (h9:ts.length≤100000)=>skItems_any W none b (W0.heap.size+1) W0.heap.size vw' ts sn pl k h9)
  have HR0:=qh (fun W (k:P3.Fr (SS (W0.heap.size+1) W0.heap.size (.slice none 0 0)) W0 W)=>k.keep r0 (fun e=>by
   have h9:=lt_of_block r0
   rcases e with e|e|e
   ·omega
   ·cases e
   ·omega))
  have HX1:=qh h1
  have HX2:=qh h2
  unfold pgv at HO ⊢
  clear h h1 h2 r0 b0 ht
  go_enter Tryz.func49,Tryz.ntmps49
  go_upto_region 1 with fail
  rw[← hW0]
  clear hW0
  go_upto_region 6 with (first
   | (go_at_call 52;(with_reducible refine HO.out.mono ?_);rintro e w1 ⟨rfl,h1,h2⟩;have H1:=qh h1;have H2:=qh h2;clear h1 h2)
   | (go_at_call 53;(with_reducible refine (HD.out _ H1.out H2.out).mono ?_);rintro e w2 ⟨vw',ts,pl,fs,id',l',i',rfl,h3,h4⟩;have H3:=qh h3;have H4:=qh h4;have h5:=HI.out _ vw' ts pl _ h3.sk (by have e9:=h4.dn.len;have e8:=h4.tw.len;rw[List.length_reverse] at e8;omega);have H5:=qh h5;clear h3 h4 h5)
   | (go_at_call 57;(with_reducible refine H5.out.mono ?_);rintro e w3 ⟨rfl,h6⟩;have H6:=qh h6;clear h6))
  have hnd:NdT w2 none pl.vi pl.vk (.lf l'):=by
   have:=H3.out.sk.nd pl (by simp)
   rw[H4.out.lf.1] at this
   exact this
  have hr:=H4.out.dn.tree.right
  obtain⟨la,lb,ia,ib,hw,htr,hroom,hL,hI,hlow,hhi⟩:=H4.out.dn
  have hkk:hasK L key=hasK l' key:=by rw[hL,hasK_mid hlow hhi]
  have hll:lowK L key=la.length+lowK l' key:=by rw[hL,lowK_mid hlow hhi]
  have hit:hasK l' key=true→l'[lowK l' key]?=some ⟨kx,vx,qx⟩:=fun e9=>by
   have h9:=HX1.out (by rw[hkk];exact e9)
   have h8:=low_hit_lt hr e9
   rw[hll,hL,List.append_assoc,List.getElem?_append_right (by omega),Nat.add_sub_cancel_left,List.getElem?_append_left (by omega)] at h9
   exact h9
  have hno:=HX2.out
  rw[hkk] at hno
  have HKk:=qh hkk
  have HF:=qh (fun W (k:Below w2.heap.size w2 W)=>P9.find_any W pl.vi l' key ((hnd.1.keep (FrT.of k)).its) (by have h9:=htr.1;obtain⟨_,_,_,h9,_⟩:=h9;have:=P9.sumI_len l';omega) hr)
  have HND:=qh hnd.1
  obtain⟨a,c,e9⟩:=hnd.1.its.slice
  rw[e9] at HF HND ⊢
  have HIt:=qh hit
  have HNo:=qh hno
  have B3:Hid (Below w.heap.size w w3):=thenBelow (thenBelow B0.out (H3.out.below H2.out (SS_new (Nat.le_succ _) (Nat.le_refl _)))) H6.out
  have hr2:=HR0.out _ (frThen (P3.Fr.of H2.out) H3.out.fr fun _ _ f=>f)
  have HR3:=qh (fun W (k:Below w2.heap.size w2 W)=>P3.old_below hr2 k)
  have Hlen:Hid (lowK l' key≤l'.length∧(hasK l' key=true→lowK l' key < l'.length)∧l'.length≤1000):=⟨P9.lowK_le _ _,fun e=>by have:=low_hit_lt hr e;omega,by have h9:=htr.1;obtain⟨_,_,_,h9,_⟩:=h9;have:=P9.sumI_len l';omega⟩
  clear hnd hr hw htr hroom hL hI hlow hhi hkk hll hit hno e9 hr2
  generalize hasK l' key=B at *
  generalize lowK l' key=K at *
  obtain⟨hle,hlt,hsm⟩:=Hlen.out
  clear Hlen
  cases B with
  | false=>
   have hx:=HNo.out rfl
   cases hx
   generalize l'.length=N at *
   go_wp2_with (first
    | (go_at_call 66;(with_reducible refine (HF.out _ H6.out).mono ?_);rintro e w4 ⟨rfl,h4⟩;have H7:=qh h4;have hr4:=HR3.out _ (thenBelow H6.out h4);have q0:=cell_at hr4 0;have q1:=cell_at hr4 1;have q2:=cell_at hr4 2;have f0:=free_at hr4 0;have f1:=free_at hr4 1;have f2:=free_at hr4 2;simp only[qqD,qqE,qqF] at q0 q1 q2;clear h4 hr4))
   have hr4:=HR3.out _ (thenBelow H6.out H7.out)
   have hs:=r5_set hr4 (.string ⟨#[]⟩) (.string ⟨#[]⟩) (.int .i64 0)
   refine bodyPost_ret (item_result3 rfl _ _ w.heap.size _ rfl hs.1 rfl) rfl ⟨by rw[HKk.out];rfl,?_⟩
   exact (((thenBelow B3.out H7.out).setCell (p:=⟨w.heap.size,0,none⟩) (Nat.le_refl _) _).setCell (p:=⟨w.heap.size,1,none⟩) (Nat.le_refl _) _).setCell (p:=⟨w.heap.size,2,none⟩) (Nat.le_refl _) _
  | true=>
   have hx:=HIt.out rfl
   have hlt:=hlt rfl
   obtain⟨bk,off,e9,hcc⟩:=HND.out.its.at_ hx
   subst e9
   have HC:=qh hcc
   have k1:(0:Int)≤(K:Int):=by omega
   have k2:(K:Int) < (l'.length:Int):=by omega
   clear hcc hx
   generalize l'.length=N at *
   go_wp2_with (first
    | (go_at_call 66;(with_reducible refine (HF.out _ H6.out).mono ?_);rintro e w4 ⟨rfl,h4⟩;have H7:=qh h4;have hr4:=HR3.out _ (thenBelow H6.out h4);have q0:=cell_at hr4 0;have q1:=cell_at hr4 1;have q2:=cell_at hr4 2;have f0:=free_at hr4 0;have f1:=free_at hr4 1;have f2:=free_at hr4 2;simp only[qqD,qqE,qqF] at q0 q1 q2;obtain⟨z0,z1,z2⟩:=HC.out _ (thenBelow H6.out h4);clear h4 hr4))
   have hr4:=HR3.out _ (thenBelow H6.out H7.out)
   have hs:=r5_set hr4 (.string kx) (.string vx) (.int .i64 qx)
   refine bodyPost_ret (item_result3 rfl _ _ w.heap.size _ rfl hs.1 rfl) rfl ⟨by rw[HKk.out];rfl,?_⟩
   exact (((thenBelow B3.out H7.out).setCell (p:=⟨w.heap.size,0,none⟩) (Nat.le_refl _) _).setCell (p:=⟨w.heap.size,1,none⟩) (Nat.le_refl _) _).setCell (p:=⟨w.heap.size,2,none⟩) (Nat.le_refl _) _
end Go.Proofs.YtjepgclnbbpnaaaGreat.P12
