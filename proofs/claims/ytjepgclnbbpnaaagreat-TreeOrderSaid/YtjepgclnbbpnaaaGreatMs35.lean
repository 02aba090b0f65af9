/-
  Texts of the proofs of SaidOrd12.
-/
import Derived.Test.YtjepgclnbbpnaaaGreatMs34
set_option linter.unusedVariables false
set_option linter.unusedSimpArgs false
set_option maxHeartbeats 8000000
set_option maxRecDepth 100000
namespace Go.Proofs.YtjepgclnbbpnaaaGreat.P12
open PK (qqA qqB qqC qqD qqE qqF tk tkS dOne qh)
open Go Go.RowKit Go.Lib PK
open P11 (Pg cellsP PgsIn)
open P9 (It kb kb_trans RightI)
theorem calls_ptr3{P:Program}{f c c':Nat}{a1 a2 a3:Value}{w:World}{Q:Ending→World→Prop}(e:c'=c)(h:Calls P f #[.pointer (some ⟨c,0,none⟩),a1,a2,a3] w Q):Calls P f #[.pointer (some ⟨c',0,none⟩),a1,a2,a3] w Q:=by
 subst e
 exact h
theorem calls_ptr2{P:Program}{f c c':Nat}{a1 a2:Value}{w:World}{Q:Ending→World→Prop}(e:c'=c)(h:Calls P f #[.pointer (some ⟨c,0,none⟩),a1,a2] w Q):Calls P f #[.pointer (some ⟨c',0,none⟩),a1,a2] w Q:=by
 subst e
 exact h
theorem FrT.past{x:Option Nat}{a w w':World}{g:Nat}(h:FrT x a w)(f:P3.Fr (·=g) w w')(hg:a.heap.size≤g):FrT x a w':=
 ⟨Nat.le_trans h.size f.size,fun k cs t hs hk=>f.keep (h.blk k cs t hs hk) fun e=>by have:=lt_of_block hk;omega⟩
theorem up_round:up_cut.1:=by
 intro w
 set_option tactic.hygienic false in intros
 obtain⟨k,hk⟩:∃ k,m=k+2:=⟨m - 2,by omega⟩
 have hup:=HU.out.up
 rw[hk] at hup
 obtain⟨here,above,ks,B,S⟩:=hup.step
 clear hup
 obtain⟨⟨hk0,hid,htx,hbody⟩,hnd,hvi,hvk,hat0⟩:=here
 obtain⟨⟨ak0,aid,atx,abody⟩,and_,avi,avk,aat⟩:=above
 obtain rfl:and_=.tw ks:=S.ndE
 obtain rfl:aat=(B:Int):=S.at_
 have hsk:=HU.out.went.at_.sk
 rw[HU.out.same.vw,HU.out.same.ps,HVw.out] at hsk
 obtain⟨g,hwa,hch⟩:=hsk.cells_ S.hh
 subst hwa
 obtain⟨g',hwa,hca⟩:=hsk.cells_ S.ha
 obtain rfl:g=g':=by
  simp only[Option.some.injEq,Addr.mk.injEq,and_true] at hwa
  exact hwa
 have hnt:=hsk.nd _ (List.mem_of_getElem? S.hh)
 have hat:=hsk.nd _ (List.mem_of_getElem? S.ha)
 simp only at hnt hat
 obtain⟨b1,m1,e1,b2,m2,e2,rfl,rfl,_⟩:=hnt.lens
 obtain⟨rfl,hkd⟩:=hat
 obtain⟨ka,kc,rfl⟩:=hkd.its.slice
 obtain⟨q0,hq0⟩:∃ q,ks[0]?=some q:=⟨_,List.getElem?_eq_getElem (by have:=S.ln.1;omega)⟩
 obtain⟨kb0,koff,rfl,_⟩:=hkd.its.at_ hq0
 obtain⟨n,hn⟩:∃ n,n=ks.length:=⟨_,rfl⟩
 obtain⟨K2,hK2⟩:∃ K,K=hnd.kind:=⟨_,rfl⟩
 obtain⟨p1,hp1⟩:∃ p,p=k+1:=⟨_,rfl⟩
 have hcap:p1≤wc:=by
  have h9:=(List.getElem?_eq_some_iff.1 S.hh).1
  rcases hsk.row.2 with ⟨e,_⟩|⟨g9,cap9,cur9,e,_,_,h5,_⟩
  ·simp at e
  ·simp only[Value.slice.injEq] at e
   obtain⟨_,e4,e5⟩:=e
   omega
 have hcap2:(p1:Int)≤(wc:Int):=by omega
 have kw1:IntKind.i64.wrap ((m:Int) - 1)=(p1:Int):=by
  rw[IntKind.wrap_i64]
  omega
 have kw2:IntKind.i64.wrap ((m:Int) - 2)=(k:Int):=by
  rw[IntKind.wrap_i64]
  omega
 have l1:(0:Int)≤(p1:Int):=by omega
 have l2:(p1:Int) < (m:Int):=by omega
 have l3:(0:Int)≤(k:Int):=by omega
 have l4:(k:Int) < (m:Int):=by omega
 have HCs:Hid (∀ W,Below wr.heap.size wr W→W.cell? ⟨g,p1*8,none⟩=some (.int .i64 hk0)∧W.cell? ⟨g,p1*8+1,none⟩=some (.int .i64 hid)∧W.cell? ⟨g,p1*8+2,none⟩=some (.int .i64 htx)∧W.cell? ⟨g,p1*8+3,none⟩=some (.string hbody)∧W.cell? ⟨g,p1*8+4,none⟩=some (.int .i64 K2)∧W.cell? ⟨g,p1*8+5,none⟩=some (.slice b1 m1 e1)∧W.cell? ⟨g,p1*8+6,none⟩=some (.slice b2 m2 e2)∧W.cell? ⟨g,p1*8+7,none⟩=some (.int .i64 hat0)∧
   W.cell? ⟨g,k*8,none⟩=some (.int .i64 ak0)∧W.cell? ⟨g,k*8+1,none⟩=some (.int .i64 aid)∧W.cell? ⟨g,k*8+2,none⟩=some (.int .i64 atx)∧W.cell? ⟨g,k*8+3,none⟩=some (.string abody)∧W.cell? ⟨g,k*8+4,none⟩=some (.int .i64 4)∧W.cell? ⟨g,k*8+5,none⟩=some (.slice none 0 0)∧W.cell? ⟨g,k*8+6,none⟩=some (.slice (some ⟨kb0,koff,none⟩) n kc)∧W.cell? ⟨g,k*8+7,none⟩=some (.int .i64 (B:Int))):=fun W b=>by
  rw[hp1,hK2,hn]
  exact⟨hch W b 0 _ rfl,hch W b 1 _ rfl,hch W b 2 _ rfl,hch W b 3 _ rfl,hch W b 4 _ rfl,hch W b 5 _ rfl,hch W b 6 _ rfl,hch W b 7 _ rfl,hca W b 0 _ rfl,hca W b 1 _ rfl,hca W b 2 _ rfl,hca W b 3 _ rfl,hca W b 4 _ rfl,hca W b 5 _ rfl,hca W b 6 _ rfl,hca W b 7 _ rfl⟩
 have HX:=qh (Below.refl wr.heap.size wr)
 have HS:=qh S
 have HNt:=qh hnt
 have HKd:Hid (KdT wr none (.slice (some ⟨kb0,koff,none⟩) n kc) ks):=qh (by rw[hn];exact hkd)
 have HNn:=qh hn
 have HK2:=qh hK2
 have HQ0:=qh hq0
 have HP1:=qh hp1
 have HKk:=qh hk
 have k1:decide ((1:Int) < (m:Int))=true:=decide_eq_true (by omega)
 have k2:(1:Int) < (m:Int):=by omega
 have k3:decide (1 < m)=true:=decide_eq_true h1
 clear hsk hch hca hwa hnt hkd hn hK2 hq0 hp1 hk S h1
 go_upto_region 4 with fail
 clear k1 k2 k3
 refine wait_cut ⟨?PX,fun hGiven=>?main⟩ ?rest
 case main=>
  go_region_held3 (fun W=>W.cell? ⟨g,p1*8,none⟩=some (.int .i64 hk0)∧W.cell? ⟨g,p1*8+1,none⟩=some (.int .i64 hid)∧W.cell? ⟨g,p1*8+2,none⟩=some (.int .i64 htx)∧W.cell? ⟨g,p1*8+3,none⟩=some (.string hbody)∧W.cell? ⟨g,p1*8+4,none⟩=some (.int .i64 K2)∧W.cell? ⟨g,p1*8+5,none⟩=some (.slice b1 m1 e1)∧W.cell? ⟨g,p1*8+6,none⟩=some (.slice b2 m2 e2)∧W.cell? ⟨g,p1*8+7,none⟩=some (.int .i64 hat0)∧ W.cell? ⟨g,k*8,none⟩=some (.int .i64 ak0)∧W.cell? ⟨g,k*8+1,none⟩=some (.int .i64 aid)∧W.cell? ⟨g,k*8+2,none⟩=some (.int .i64 atx)∧W.cell? ⟨g,k*8+3,none⟩=some (.string abody)∧W.cell? ⟨g,k*8+4,none⟩=some (.int .i64 4)∧W.cell? ⟨g,k*8+5,none⟩=some (.slice none 0 0)∧W.cell? ⟨g,k*8+6,none⟩=some (.slice (some ⟨kb0,koff,none⟩) n kc)∧W.cell? ⟨g,k*8+7,none⟩=some (.int .i64 (B:Int))) (first|((with_reducible refine HCs.out _ ?_);(repeat (first|(with_reducible exact HX.out)|(with_reducible refine grow ?_ _)|(with_reducible refine Below.drew ?_)|(with_reducible refine Below.setCell ?_ ?_ _)|(show wr.heap.size≤_;first|exact Nat.le_refl _|exact Nat.le_succ _|omega)))))
   (fail)
  all_goals
   first
   | (obtain⟨W1,hW⟩:∃ W1,W1=((wr.alloc (.cells #[.int .i64 hk0,.int .i64 hid,.int .i64 htx,.string hbody,.int .i64 K2,.slice b1 m1 e1,.slice b2 m2 e2,.int .i64 hat0] 88)).alloc (.cells #[.int .i64 ak0,.int .i64 aid,.int .i64 atx,.string abody,.int .i64 4,.slice none 0 0,.slice (some ⟨kb0,koff,none⟩) n kc,.int .i64 (B:Int)] 88)).drew:=⟨_,rfl⟩
      rw[← hW]
      have u1:Below wr.heap.size wr W1:=by rw[hW];exact (grow (below_new wr _) _).drew
      have u0:((wr.alloc (.cells #[.int .i64 hk0,.int .i64 hid,.int .i64 htx,.string hbody,.int .i64 K2,.slice b1 m1 e1,.slice b2 m2 e2,.int .i64 hat0] 88)).alloc (.cells #[.int .i64 ak0,.int .i64 aid,.int .i64 atx,.string abody,.int .i64 4,.slice none 0 0,.slice (some ⟨kb0,koff,none⟩) n kc,.int .i64 (B:Int)] 88)).heap[wr.heap.size]?=some (.cells #[.int .i64 hk0,.int .i64 hid,.int .i64 htx,.string hbody,.int .i64 K2,.slice b1 m1 e1,.slice b2 m2 e2,.int .i64 hat0] 88 (0,0)):=P3.old_alloc (new_at wr _ _) _
      have u9:((wr.alloc (.cells #[.int .i64 hk0,.int .i64 hid,.int .i64 htx,.string hbody,.int .i64 K2,.slice b1 m1 e1,.slice b2 m2 e2,.int .i64 hat0] 88)).alloc (.cells #[.int .i64 ak0,.int .i64 aid,.int .i64 atx,.string abody,.int .i64 4,.slice none 0 0,.slice (some ⟨kb0,koff,none⟩) n kc,.int .i64 (B:Int)] 88)).heap[wr.heap.size+1]?=some (.cells #[.int .i64 ak0,.int .i64 aid,.int .i64 atx,.string abody,.int .i64 4,.slice none 0 0,.slice (some ⟨kb0,koff,none⟩) n kc,.int .i64 (B:Int)] 88 (0,0)):=by
       have h9:=new_at (wr.alloc (.cells #[.int .i64 hk0,.int .i64 hid,.int .i64 htx,.string hbody,.int .i64 K2,.slice b1 m1 e1,.slice b2 m2 e2,.int .i64 hat0] 88)) #[.int .i64 ak0,.int .i64 aid,.int .i64 atx,.string abody,.int .i64 4,.slice none 0 0,.slice (some ⟨kb0,koff,none⟩) n kc,.int .i64 (B:Int)] 88
       simpa only [World.size_alloc] using h9
      have u2:W1.heap[wr.heap.size]?=some (.cells #[.int .i64 hk0,.int .i64 hid,.int .i64 htx,.string hbody,.int .i64 K2,.slice b1 m1 e1,.slice b2 m2 e2,.int .i64 hat0] 88 (0,0)):=by rw[hW];exact u0
      have u3:W1.heap[wr.heap.size+1]?=some (.cells #[.int .i64 ak0,.int .i64 aid,.int .i64 atx,.string abody,.int .i64 4,.slice none 0 0,.slice (some ⟨kb0,koff,none⟩) n kc,.int .i64 (B:Int)] 88 (0,0)):=by rw[hW];exact u9
      obtain⟨hb,hhb⟩:∃ g,g=wr.heap.size:=⟨_,rfl⟩
      obtain⟨ab,hab⟩:∃ g,g=wr.heap.size+1:=⟨_,rfl⟩
      have V1:=qh u1
      have V2:Hid (W1.heap[hb]?=some (.cells #[.int .i64 hk0,.int .i64 hid,.int .i64 htx,.string hbody,.int .i64 K2,.slice b1 m1 e1,.slice b2 m2 e2,.int .i64 hat0] 88 (0,0))):=by rw[hhb];exact u2
      have V3:Hid (W1.heap[ab]?=some (.cells #[.int .i64 ak0,.int .i64 aid,.int .i64 atx,.string abody,.int .i64 4,.slice none 0 0,.slice (some ⟨kb0,koff,none⟩) n kc,.int .i64 (B:Int)] 88 (0,0))):=by rw[hab];exact u3
      have V4:Hid (wr.heap.size≤hb∧wr.heap.size≤ab∧hb≠ab):=by rw[hhb,hab];exact qh ⟨by omega,by omega,by omega⟩
      (try rw[← hab])
      (try rw[← hhb])
      clear u0 u1 u2 u3 u9 hW hhb hab
      revert V1 V2 V3 V4
      revert W1 hb ab
      exact hGiven.out)
   | (obtain⟨W1,hW⟩:∃ W1,W1=((wr.alloc (.cells #[.int .i64 ak0,.int .i64 aid,.int .i64 atx,.string abody,.int .i64 4,.slice none 0 0,.slice (some ⟨kb0,koff,none⟩) n kc,.int .i64 (B:Int)] 88)).alloc (.cells #[.int .i64 hk0,.int .i64 hid,.int .i64 htx,.string hbody,.int .i64 K2,.slice b1 m1 e1,.slice b2 m2 e2,.int .i64 hat0] 88)).drew:=⟨_,rfl⟩
      rw[← hW]
      have u1:Below wr.heap.size wr W1:=by rw[hW];exact (grow (below_new wr _) _).drew
      have u0:((wr.alloc (.cells #[.int .i64 ak0,.int .i64 aid,.int .i64 atx,.string abody,.int .i64 4,.slice none 0 0,.slice (some ⟨kb0,koff,none⟩) n kc,.int .i64 (B:Int)] 88)).alloc (.cells #[.int .i64 hk0,.int .i64 hid,.int .i64 htx,.string hbody,.int .i64 K2,.slice b1 m1 e1,.slice b2 m2 e2,.int .i64 hat0] 88)).heap[wr.heap.size]?=some (.cells #[.int .i64 ak0,.int .i64 aid,.int .i64 atx,.string abody,.int .i64 4,.slice none 0 0,.slice (some ⟨kb0,koff,none⟩) n kc,.int .i64 (B:Int)] 88 (0,0)):=P3.old_alloc (new_at wr _ _) _
      have u9:((wr.alloc (.cells #[.int .i64 ak0,.int .i64 aid,.int .i64 atx,.string abody,.int .i64 4,.slice none 0 0,.slice (some ⟨kb0,koff,none⟩) n kc,.int .i64 (B:Int)] 88)).alloc (.cells #[.int .i64 hk0,.int .i64 hid,.int .i64 htx,.string hbody,.int .i64 K2,.slice b1 m1 e1,.slice b2 m2 e2,.int .i64 hat0] 88)).heap[wr.heap.size+1]?=some (.cells #[.int .i64 hk0,.int .i64 hid,.int .i64 htx,.string hbody,.int .i64 K2,.slice b1 m1 e1,.slice b2 m2 e2,.int .i64 hat0] 88 (0,0)):=by
       have h9:=new_at (wr.alloc (.cells #[.int .i64 ak0,.int .i64 aid,.int .i64 atx,.string abody,.int .i64 4,.slice none 0 0,.slice (some ⟨kb0,koff,none⟩) n kc,.int .i64 (B:Int)] 88)) #[.int .i64 hk0,.int .i64 hid,.int .i64 htx,.string hbody,.int .i64 K2,.slice b1 m1 e1,.slice b2 m2 e2,.int .i64 hat0] 88
       simpa only [World.size_alloc] using h9
      have u2:W1.heap[wr.heap.size+1]?=some (.cells #[.int .i64 hk0,.int .i64 hid,.int .i64 htx,.string hbody,.int .i64 K2,.slice b1 m1 e1,.slice b2 m2 e2,.int .i64 hat0] 88 (0,0)):=by rw[hW];exact u9
      have u3:W1.heap[wr.heap.size]?=some (.cells #[.int .i64 ak0,.int .i64 aid,.int .i64 atx,.string abody,.int .i64 4,.slice none 0 0,.slice (some ⟨kb0,koff,none⟩) n kc,.int .i64 (B:Int)] 88 (0,0)):=by rw[hW];exact u0
      obtain⟨hb,hhb⟩:∃ g,g=wr.heap.size+1:=⟨_,rfl⟩
      obtain⟨ab,hab⟩:∃ g,g=wr.heap.size:=⟨_,rfl⟩
      have V1:=qh u1
      have V2:Hid (W1.heap[hb]?=some (.cells #[.int .i64 hk0,.int .i64 hid,.int .i64 htx,.string hbody,.int .i64 K2,.slice b1 m1 e1,.slice b2 m2 e2,.int .i64 hat0] 88 (0,0))):=by rw[hhb];exact u2
      have V3:Hid (W1.heap[ab]?=some (.cells #[.int .i64 ak0,.int .i64 aid,.int .i64 atx,.string abody,.int .i64 4,.slice none 0 0,.slice (some ⟨kb0,koff,none⟩) n kc,.int .i64 (B:Int)] 88 (0,0))):=by rw[hab];exact u3
      have V4:Hid (wr.heap.size≤hb∧wr.heap.size≤ab∧hb≠ab):=by rw[hhb,hab];exact qh ⟨by omega,by omega,by omega⟩
      (try rw[← hhb])
      (try rw[← hab])
      clear u0 u1 u2 u3 u9 hW hhb hab
      revert V1 V2 V3 V4
      revert W1 hb ab
      exact hGiven.out)
 case rest=>
  intro W1 hb ab V1 V2 V3 V4
  have HU1:=qh (HU.out.below V1.out)
  have a6:=cell_at V3.out 6
  simp only[qqD,qqE,qqF] at a6
  have HCl:=qh (P10.cloneI_any W1 (.slice (some ⟨kb0,koff,none⟩) n kc) ks (HKd.out.keep (FrT.of V1.out)).its (by have:=HS.out.ln.2;omega))
  obtain⟨f1,f2,f3,f4,f5,f6,hvi9,hvk9,_⟩:=HU.out.ndt.lens
  subst hvi9 hvk9
  obtain⟨K9,hK9⟩:∃ K,K=nd9.kind:=⟨_,rfl⟩
  have HK9:=qh hK9
  have HNb1:Hid (W1.heap[w.heap.size]?=some (.cells #[.int .i64 K9,.slice f1 f2 f3,.slice f4 f5 f6] 80 (0,0))):=qh (by rw[hK9];exact HU1.out.box)
  clear hK9
  go_upto_region 6 with (go_at_call 83;(with_reducible refine HCl.out.mono ?_);rintro e w2 ⟨vc,rfl,hco,hcb⟩;obtain⟨g5,c5,hvc,_⟩:=own_cell hco HQ0.out;rw[← HNn.out] at hvc;subst hvc;have HCo:=qh hco;have HCb:=qh hcb;clear hco hcb)
  clear a6
  cases ch
  case false=>
   have HW5:Hid (Went w w2 G0 G):=qh (HU1.out.went.then HCb.out)
   have HS5:Hid (SameG G0 G):=qh HU.out.same
   obtain⟨R0,hR0⟩:∃ l,l=ks:=⟨_,rfl⟩
   have HO5:Hid (P10.OwnI W1.heap.size w2 (.slice (some ⟨g5,0,none⟩) n c5) R0):=qh (by rw[hR0];exact HCo.out)
   have HR0:Hid (R0[0]?=some q0):=qh (by rw[hR0];exact HQ0.out)
   have HN5:Hid (n=R0.length):=qh (by rw[hR0];exact HNn.out)
   have HLo:Hid (wr.heap.size≤W1.heap.size):=qh V1.out.size
   have HA5:Hid (w2.heap[ab]?=some (.cells #[.int .i64 ak0,.int .i64 aid,.int .i64 atx,.string abody,.int .i64 4,.slice none 0 0,.slice (some ⟨kb0,koff,none⟩) n kc,.int .i64 (B:Int)] 88 (0,0))):=qh (P3.old_below V3.out HCb.out)
   have HN5b:Hid (w2.heap[w.heap.size]?=some (.cells #[.int .i64 K9,.slice f1 f2 f3,.slice f4 f5 f6] 80 (0,0))):=qh (P3.old_below HNb1.out HCb.out)
   have HUq:Hid (∀ ch':Bool,(ch'=false↔bare G0.key R0=ks)→UpL M0 D root G0.key ids L' gr G0.ps (k+1) G (.tw (bare G0.key R0)) ch'):=qh (by rw[hR0];exact HS.out.same rfl)
   have HRl:Hid (0 < R0.length∧R0.length≤1000):=qh (by rw[hR0];have:=HS.out.ln;omega)
   have HT5:Hid (FrT none wr w2):=qh ((FrT.of V1.out).trans (FrT.of HCb.out))
   clear hR0
   go_upto_region 13 with fail
   have hky:=cell_at HW5.out.at_.ch.obj 1
   rw[HS5.out.c,HS5.out.key] at hky
   obtain⟨cs5,hg5⟩:=own_block HO5.out
   have hgc:cs5[0]?=some (.string q0.key):=by
    obtain⟨g9,c9,e9,_,h9⟩:=own_cell HO5.out HR0.out
    simp only[Value.slice.injEq,Option.some.injEq,Addr.mk.injEq,and_true] at e9
    obtain⟨rfl,_,_⟩:=e9
    have h8:=h9.1
    rw[Nat.zero_mul,cell_at hg5 0] at h8
    exact h8
   have hc5:=cell_at hg5 0
   rw[hgc] at hc5
   have HG5:=qh hg5
   have HGc:=qh hgc
   have HNa:Hid (ab≠g5):=fun e=>by
    have h9:=HA5.out
    rw[e,HG5.out] at h9
    cases h9
   have HNg:Hid (w.heap.size≠g5):=fun e=>by
    have h9:=HN5b.out
    rw[e,HG5.out] at h9
    cases h9
   have HNe:Hid (ab≠w.heap.size):=fun e=>by
    have h9:=HA5.out
    rw[e,HN5b.out] at h9
    cases h9
   have hn0:decide ((0:Int) < (n:Int))=true:=decide_eq_true (by have:=HN5.out;have:=HRl.out.1;omega)
   have hn1:(0:Int) < (n:Int):=by have:=HN5.out;have:=HRl.out.1;omega
   have hn2:0 < n:=by have:=HN5.out;have:=HRl.out.1;omega
   clear hg5 hgc
   by_cases hkb:kb G0.key q0.key=true
   ·have hAE:Op.bytesLess q0.key.toList G0.key.toList=false∧(q0.key.toList == G0.key.toList)=false:=by
     have h9:=P10.kb_gtr q0.key G0.key
     rw[show P10.kb G0.key q0.key=true from hkb] at h9
     simpa using h9
    obtain⟨hA,hE⟩:=hAE
    go_quiet (fail)
    clear hky hc5
    obtain⟨W6,hW6⟩:∃ W,W=w2.drewN nq:=⟨_,rfl⟩
    rw[← hW6]
    have hb6:Below w2.heap.size w2 W6:=by rw[hW6];exact P3.below_drewN w2 _
    have HW6:=qh (HW5.out.then hb6)
    have HO6:Hid (P10.OwnI W1.heap.size W6 (.slice (some ⟨g5,0,none⟩) n c5) R0):=qh ⟨owns_below HO5.out.1 hb6,HO5.out.2⟩
    have HA6:=qh (P3.old_below HA5.out hb6)
    have HN6:=qh (P3.old_below HN5b.out hb6)
    have HG6b:=qh (P3.old_below HG5.out hb6)
    have HG6:Hid (∃ cs,W6.heap[g5]?=some (.cells cs 106 (0,0))):=qh ⟨cs5,HG6b.out⟩
    have HT6:=qh (HT5.out.trans (FrT.of hb6))
    clear hW6 hb6
    have hc6:=cell_at HG6b.out 0
    have hfz:=free_at HG6b.out 0
    rw[HGc.out] at hc6
    go_upto_region 15 with fail
    clear hc6 hfz
    obtain⟨W7,hW7⟩:∃ W,W=W6.setCell ⟨g5,0,none⟩ (.string ⟨#[]⟩):=⟨_,rfl⟩
    rw[← hW7]
    clear hA hE
    have h7f:P3.Fr (·=g5) W6 W7:=by rw[hW7];exact fr_set _ _ _ _
    have h7o:P10.OwnI W1.heap.size W7 (.slice (some ⟨g5,0,none⟩) n c5) (rekey R0 0 ⟨#[]⟩):=by
     have h9:=HO6.out
     rw[HN5.out] at h9
     have h8:=rekey_own h9 HR0.out ⟨#[]⟩
     rw[Nat.zero_mul] at h8
     rw[hW7,HN5.out]
     exact h8
    have hab7:=h7f.keep HA6.out HNa.out
    have hnb7:=h7f.keep HN6.out HNg.out
    have ft7:FrT none wr W7:=FrT.past HT6.out h7f (Nat.le_trans HLo.out (h7o.1.lt g5 rfl).1)
    have HF6:=qh h7f
    have HO7:=qh h7o
    have HT7:=qh ft7
    have HUp:Hid (∀ ch':Bool,(ch'=false↔(rekey R0 0 ⟨#[]⟩)=ks)→UpL M0 D root G0.key ids L' gr G0.ps (k+1) G (.tw (rekey R0 0 ⟨#[]⟩)) ch'):=by
     have h9:=HUq.out
     rw[bare_rekey HR0.out,if_pos hkb] at h9
     exact qh h9
    have HEq:Hid (∀ W,Below W7.heap.size W7 W→Calls Tryz.prog 87 #[(.slice (some ⟨g5,0,none⟩) n c5),(.slice (some ⟨kb0,koff,none⟩) n kc)] W fun e w'=>∃ r:Bool,e=.returned (.bool r)∧(r=true↔(rekey R0 0 ⟨#[]⟩)=ks)∧Below W.heap.size W w'):=fun W b=>equal_any W none (.slice (some ⟨g5,0,none⟩) n c5) (.slice (some ⟨kb0,koff,none⟩) n kc) (rekey R0 0 ⟨#[]⟩) ks ((KdT.own HO7.out fun _ e=>by cases e).keep (FrT.of b)) (HKd.out.keep (HT7.out.trans (FrT.of b))) (by rw[rekey_len];have:=HRl.out.2;omega) (by have:=HS.out.ln.2;omega)
    have HAd:Hid (W7.drew.heap[ab]?=some (.cells #[.int .i64 ak0,.int .i64 aid,.int .i64 atx,.string abody,.int .i64 4,.slice none 0 0,.slice (some ⟨kb0,koff,none⟩) n kc,.int .i64 (B:Int)] 88 (0,0))):=qh hab7
    have HNd7:Hid (W7.drew.heap[w.heap.size]?=some (.cells #[.int .i64 K9,.slice f1 f2 f3,.slice f4 f5 f6] 80 (0,0))):=qh hnb7
    have HBd:Hid (Below W7.heap.size W7 W7.drew):=qh (Below.refl _ _).drew
    clear hW7 h7f h7o hab7 hnb7 ft7 hkb
    refine wp_region_held_drew (S:=fun W'=>W'.cell? ⟨ab,6,none⟩=some (.slice (some ⟨kb0,koff,none⟩) n kc)) (by kernel_rfl) (cell_at HAd.out 6) (fun hHeld=>?_)
    refine tk 0 ?_
    refine tk 2 ?_
    refine tk 3 ?_
    refine tk 4 ?_
    refine tk 5 ?_
    refine dOne 1 fun K hK=>?_
    go_simp
    go_at_call 86;(with_reducible refine (ofKids_any _ _ _ _).mono ?_);rintro e w8 ⟨rfl,hz⟩;have HZ1:=qh hz;clear hz
    go_wp2_with fail
    refine hK.out _ _ (cell_at (P3.old_below HAd.out HZ1.out) 6) (fun hHeld=>?_)
    clear hK K
    try simp only[Act.put,qqA,qqB,qqC]
    refine dOne 6 fun K hK=>?_
    go_simp
    go_at_call 87;(with_reducible refine (HEq.out _ (thenBelow HBd.out HZ1.out)).mono ?_);rintro e w9 ⟨r,rfl,hr,hz⟩;have HRr:=qh hr;have HZ:=qh hz;clear hz hr
    go_wp2_with fail
    refine hK.out _ _ (cell_at (P3.old_below (P3.old_below HAd.out HZ1.out) HZ.out) 6) (fun hHeld=>?_)
    clear hK K
    try simp only[Act.put,qqA,qqB,qqC]
    refine tk 7 ?_
    have hnb8:=(P3.old_below (P3.old_below HNd7.out HZ1.out) HZ.out)
    have y0:=cell_at hnb8 0
    have y1:=cell_at hnb8 1
    have y2:=cell_at hnb8 2
    have z0:=free_at hnb8 0
    have z1:=free_at hnb8 1
    have z2:=free_at hnb8 2
    simp only[qqD,qqE,qqF] at y0 y1 y2
    have HN8:=qh hnb8
    have HA8:=qh (P3.old_below (P3.old_below HAd.out HZ1.out) HZ.out)
    have HB8:=qh (thenBelow (thenBelow HBd.out HZ1.out) HZ.out)
    clear hnb8
    refine dOne 8 fun K hK=>?_
    go_simp
    refine hK.out _ _ (cell_at (P3.old_set (P3.old_set (P3.old_set HA8.out (⟨w.heap.size,0,none⟩:Addr) HNe.out (.int .i64 4)) (⟨w.heap.size,1,none⟩:Addr) HNe.out (.slice none 0 0)) (⟨w.heap.size,2,none⟩:Addr) HNe.out (.slice (some ⟨g5,0,none⟩) n c5)) 6) (fun hHeld=>?_)
    clear hK K
    try simp only[Act.put,qqA,qqB,qqC]
    refine tk 9 ?_
    refine wpAnyH_done (by kernel_rfl) ?_ _
    clear y0 y1 y2 z0 z1 z2 hHeld
    have hch:(!r)=false↔(rekey R0 0 ⟨#[]⟩)=ks:=by rw[Bool.not_eq_false'];exact HRr.out
    have HFn:=qh (up_tail HH.out HW6.out HS5.out (HUp.out (!r) hch) HO7.out (Nat.le_trans HU.out.went.fr.size HLo.out) HF6.out HG6.out HB8.out _ _ _ HN8.out)
    clear hch
    go_wp2
    go_roundw
    case rel=>exact⟨p1,G,.tw (rekey R0 0 ⟨#[]⟩),_,_,!r,rfl,rfl,by have:=HP1.out;have:=HKk.out;omega,by rw[HP1.out];exact HFn⟩
    case measure=>show p1 < m;have:=HP1.out;have:=HKk.out;omega
   ·have hAE:Op.bytesLess q0.key.toList G0.key.toList=true∨(q0.key.toList == G0.key.toList)=true:=by
     have h9:=P10.kb_gtr q0.key G0.key
     rw[show P10.kb G0.key q0.key=false from Bool.eq_false_iff.2 hkb] at h9
     cases hA:Op.bytesLess q0.key.toList G0.key.toList with
     | true=>exact .inl rfl
     | false=>
      rw[hA] at h9
      exact .inr (by simpa using h9)
    rcases hAE with hA|hA
    all_goals
     go_quiet (fail)
     clear hky hc5
     obtain⟨W6,hW6⟩:∃ W,W=w2.drewN nq:=⟨_,rfl⟩
     rw[← hW6]
     have hb6:Below w2.heap.size w2 W6:=by rw[hW6];exact P3.below_drewN w2 _
     have HW6:=qh (HW5.out.then hb6)
     have HO6:Hid (P10.OwnI W1.heap.size W6 (.slice (some ⟨g5,0,none⟩) n c5) R0):=qh ⟨owns_below HO5.out.1 hb6,HO5.out.2⟩
     have HA6:=qh (P3.old_below HA5.out hb6)
     have HN6:=qh (P3.old_below HN5b.out hb6)
     have HG6b:=qh (P3.old_below HG5.out hb6)
     have HG6:Hid (∃ cs,W6.heap[g5]?=some (.cells cs 106 (0,0))):=qh ⟨cs5,HG6b.out⟩
     have HT6:=qh (HT5.out.trans (FrT.of hb6))
     clear hW6 hb6
     go_upto_region 15 with fail
     obtain⟨W7,hW7⟩:∃ W,W=W6:=⟨_,rfl⟩
     rw[← hW7]
     clear hA
     have h7f:P3.Fr (·=g5) W6 W7:=by rw[hW7];exact P3.Fr.refl _ _
     have h7o:P10.OwnI W1.heap.size W7 (.slice (some ⟨g5,0,none⟩) n c5) R0:=by rw[hW7];exact HO6.out
     have hab7:=h7f.keep HA6.out HNa.out
     have hnb7:=h7f.keep HN6.out HNg.out
     have ft7:FrT none wr W7:=FrT.past HT6.out h7f (Nat.le_trans HLo.out (h7o.1.lt g5 rfl).1)
     have HF6:=qh h7f
     have HO7:=qh h7o
     have HT7:=qh ft7
     have HUp:Hid (∀ ch':Bool,(ch'=false↔R0=ks)→UpL M0 D root G0.key ids L' gr G0.ps (k+1) G (.tw R0) ch'):=by
      have h9:=HUq.out
      rw[bare_rekey HR0.out,if_neg hkb] at h9
      exact qh h9
     have HEq:Hid (∀ W,Below W7.heap.size W7 W→Calls Tryz.prog 87 #[(.slice (some ⟨g5,0,none⟩) n c5),(.slice (some ⟨kb0,koff,none⟩) n kc)] W fun e w'=>∃ r:Bool,e=.returned (.bool r)∧(r=true↔R0=ks)∧Below W.heap.size W w'):=fun W b=>equal_any W none (.slice (some ⟨g5,0,none⟩) n c5) (.slice (some ⟨kb0,koff,none⟩) n kc) R0 ks ((KdT.own HO7.out fun _ e=>by cases e).keep (FrT.of b)) (HKd.out.keep (HT7.out.trans (FrT.of b))) (by have:=HRl.out.2;omega) (by have:=HS.out.ln.2;omega)
     have HAd:Hid (W7.drew.heap[ab]?=some (.cells #[.int .i64 ak0,.int .i64 aid,.int .i64 atx,.string abody,.int .i64 4,.slice none 0 0,.slice (some ⟨kb0,koff,none⟩) n kc,.int .i64 (B:Int)] 88 (0,0))):=qh hab7
     have HNd7:Hid (W7.drew.heap[w.heap.size]?=some (.cells #[.int .i64 K9,.slice f1 f2 f3,.slice f4 f5 f6] 80 (0,0))):=qh hnb7
     have HBd:Hid (Below W7.heap.size W7 W7.drew):=qh (Below.refl _ _).drew
     clear hW7 h7f h7o hab7 hnb7 ft7 hkb
     refine wp_region_held_drew (S:=fun W'=>W'.cell? ⟨ab,6,none⟩=some (.slice (some ⟨kb0,koff,none⟩) n kc)) (by kernel_rfl) (cell_at HAd.out 6) (fun hHeld=>?_)
     refine tk 0 ?_
     refine tk 2 ?_
     refine tk 3 ?_
     refine tk 4 ?_
     refine tk 5 ?_
     refine dOne 1 fun K hK=>?_
     go_simp
     go_at_call 86;(with_reducible refine (ofKids_any _ _ _ _).mono ?_);rintro e w8 ⟨rfl,hz⟩;have HZ1:=qh hz;clear hz
     go_wp2_with fail
     refine hK.out _ _ (cell_at (P3.old_below HAd.out HZ1.out) 6) (fun hHeld=>?_)
     clear hK K
     try simp only[Act.put,qqA,qqB,qqC]
     refine dOne 6 fun K hK=>?_
     go_simp
     go_at_call 87;(with_reducible refine (HEq.out _ (thenBelow HBd.out HZ1.out)).mono ?_);rintro e w9 ⟨r,rfl,hr,hz⟩;have HRr:=qh hr;have HZ:=qh hz;clear hz hr
     go_wp2_with fail
     refine hK.out _ _ (cell_at (P3.old_below (P3.old_below HAd.out HZ1.out) HZ.out) 6) (fun hHeld=>?_)
     clear hK K
     try simp only[Act.put,qqA,qqB,qqC]
     refine tk 7 ?_
     have hnb8:=(P3.old_below (P3.old_below HNd7.out HZ1.out) HZ.out)
     have y0:=cell_at hnb8 0
     have y1:=cell_at hnb8 1
     have y2:=cell_at hnb8 2
     have z0:=free_at hnb8 0
     have z1:=free_at hnb8 1
     have z2:=free_at hnb8 2
     simp only[qqD,qqE,qqF] at y0 y1 y2
     have HN8:=qh hnb8
     have HA8:=qh (P3.old_below (P3.old_below HAd.out HZ1.out) HZ.out)
     have HB8:=qh (thenBelow (thenBelow HBd.out HZ1.out) HZ.out)
     clear hnb8
     refine dOne 8 fun K hK=>?_
     go_simp
     refine hK.out _ _ (cell_at (P3.old_set (P3.old_set (P3.old_set HA8.out (⟨w.heap.size,0,none⟩:Addr) HNe.out (.int .i64 4)) (⟨w.heap.size,1,none⟩:Addr) HNe.out (.slice none 0 0)) (⟨w.heap.size,2,none⟩:Addr) HNe.out (.slice (some ⟨g5,0,none⟩) n c5)) 6) (fun hHeld=>?_)
     clear hK K
     try simp only[Act.put,qqA,qqB,qqC]
     refine tk 9 ?_
     refine wpAnyH_done (by kernel_rfl) ?_ _
     clear y0 y1 y2 z0 z1 z2 hHeld
     have hch:(!r)=false↔R0=ks:=by rw[Bool.not_eq_false'];exact HRr.out
     have HFn:=qh (up_tail HH.out HW6.out HS5.out (HUp.out (!r) hch) HO7.out (Nat.le_trans HU.out.went.fr.size HLo.out) HF6.out HG6.out HB8.out _ _ _ HN8.out)
     clear hch
     go_wp2
     go_roundw
     case rel=>exact⟨p1,G,.tw R0,_,_,!r,rfl,rfl,by have:=HP1.out;have:=HKk.out;omega,by rw[HP1.out];exact HFn⟩
     case measure=>show p1 < m;have:=HP1.out;have:=HKk.out;omega
  case true=>
   have gok:=HS.out.grp rfl
   have hw2:=(HU1.out.went.then HCb.out)
   have hca:=hw2.at_
   have wrt:Went wr w2 G G:=(Went.below HU.out.went.at_ V1.out).then HCb.out
   have hg:=group_any w2 G ⟨⟨hk0,hid,htx,hbody⟩,hnd,.slice b1 m1 e1,.slice b2 m2 e2,hat0⟩ ⟨⟨ak0,aid,atx,abody⟩,.tw ks,.slice none 0 0,.slice (some ⟨kb0,koff,none⟩) n kc,(B:Int)⟩ nd9 (.slice f1 f2 f3) (.slice f4 f5 f6) ks B hca gok.hl (HU1.out.ndt.keep (FrT.of HCb.out)) (HNt.out.keep wrt.ft) rfl ⟨rfl,HKd.out.keep wrt.ft⟩ rfl gok.hB gok.hll gok.hlen gok.hsn gok.hq1 gok.hq2 gok.hnx gok.hdist gok.hks
   unfold Sp.v Nd.v Grv at hg
   simp only[show (Nd.tw ks).kind=4 from rfl] at hg
   rw[← HK9.out,← HK2.out] at hg
   have HGr:=qh (calls_ptr3 HU.out.same.c.symm hg)
   have HWrt:=qh wrt
   have HW2:=qh hw2
   have hx2:=P3.old_below HNb1.out HCb.out
   have hh2:=P3.old_below V2.out HCb.out
   have ha2:=P3.old_below V3.out HCb.out
   have x0:=cell_at hx2 0
   have x1:=cell_at hx2 1
   have x2:=cell_at hx2 2
   have s0:=cell_at hh2 0
   have s1:=cell_at hh2 1
   have s2:=cell_at hh2 2
   have s3:=cell_at hh2 3
   have s4:=cell_at hh2 4
   have s5:=cell_at hh2 5
   have s6:=cell_at hh2 6
   have s7:=cell_at hh2 7
   have t0:=cell_at ha2 0
   have t1:=cell_at ha2 1
   have t2:=cell_at ha2 2
   have t3:=cell_at ha2 3
   have t4:=cell_at ha2 4
   have t5:=cell_at ha2 5
   have t6:=cell_at ha2 6
   have t7:=cell_at ha2 7
   simp only[qqD,qqE,qqF] at x0 x1 x2 s0 s1 s2 s3 s4 s5 s6 s7 t0 t1 t2 t3 t4 t5 t6 t7
   have HX2:=qh hx2
   have HA2:=qh ha2
   have HnA:Hid (¬ G.S ab):=fun e=>by have:=HU.out.went.at_.lt e;have:=V4.out.2.1;omega
   have HnN:Hid (¬ G.S w.heap.size):=HU.out.went.at_.not_node HU.out.box
   clear gok hw2 hca wrt hg hx2 hh2 ha2
   go_upto_region 8 with (go_at_call 84;(with_reducible refine HGr.out.mono ?_);rintro e w3 ⟨j,ji,jk,vo,olds,at_,d,sn',rfl,hsb,hgo,hgrp⟩;obtain⟨j1,j2,j3,j4,j5,j6,hji,hjk,_⟩:=hgrp.nd.lens;subst hji hjk;obtain⟨oa,oc,hov⟩:=hgrp.old.pgs.slice;subst hov;have HSb:=qh hsb;have HGo:=qh hgo;have HGp:=qh hgrp;clear hsb hgo hgrp)
   clear x0 x1 x2 s0 s1 s2 s3 s4 s5 s6 s7 t0 t1 t2 t3 t4 t5 t6 t7
   obtain⟨oN,hoN⟩:∃ n,n=olds.length:=⟨_,rfl⟩
   obtain⟨JK,hJK⟩:∃ n,n=j.kind:=⟨_,rfl⟩
   rw[← hoN,← hJK]
   obtain⟨W3,hW3⟩:∃ W,W=w3.alloc (.cells #[.int .i64 JK,.slice j1 j2 j3,.slice j4 j5 j6,.slice oa oN oc,.int .i64 (at_:Nat),.bool d] 127):=⟨_,rfl⟩
   obtain⟨gb,hgb⟩:∃ g,g=w3.heap.size:=⟨_,rfl⟩
   rw[← hW3,← hgb]
   have hb3:Below w3.heap.size w3 W3:=by rw[hW3];exact below_new _ _
   have hr3:W3.heap[gb]?=some (.cells #[.int .i64 JK,.slice j1 j2 j3,.slice j4 j5 j6,.slice oa oN oc,.int .i64 (at_:Nat),.bool d] 127 (0,0)):=by rw[hW3,hgb];exact new_at _ _ _
   obtain⟨k0,hkok,hkept⟩:=HS.out.kept rfl j olds at_ sn' HGo.out HSb.out
   have hw3:Went w2 W3 G (G.saw sn'):=HGp.out.went.then hb3
   have hold:OldIn W3 (G.saw sn') (.slice oa olds.length oc) olds:=HGp.out.old.went (Went.below HGp.out.went.at_ hb3)
   have hkk:=kids_any W3 (G.saw sn') j (.slice j1 j2 j3) (.slice j4 j5 j6) (.slice oa olds.length oc) olds at_ d (.slice (some ⟨kb0,koff,none⟩) n kc) ks k0 hw3.at_ (HGp.out.nd.keep (FrT.of hb3)) hold hkok.fine hkok.sorted hkok.room hkok.lens hkok.fr hkok.ids (HKd.out.keep (HWrt.out.ft.trans hw3.ft)) hkok.k0 hkok.n (by have:=HS.out.ln.2;omega)
   unfold Grv at hkk
   rw[← hoN,← hJK] at hkk
   have HKk2:=qh (calls_ptr2 (show G0.c=(G.saw sn').c from HU.out.same.c.symm) hkk)
   have HKp:=qh hkept
   have HW3:=qh hw3
   have ha3:=(hw3.box HA2.out HnA.out).1
   have hn3:=(hw3.box HX2.out HnN.out).1
   have a6:=cell_at ha3 6
   have y0:=cell_at hr3 0
   have y1:=cell_at hr3 1
   have y2:=cell_at hr3 2
   have y3:=cell_at hr3 3
   have y4:=cell_at hr3 4
   have y5:=cell_at hr3 5
   simp only[qqD,qqE,qqF] at a6 y0 y1 y2 y3 y4 y5
   clear hW3 hgb hb3 hr3 hkok hkept hw3 hold hkk hoN hJK ha3 hn3
   go_upto_region 13 with (go_at_call 85;(with_reducible refine HKk2.out.mono ?_);rintro e w5 ⟨v5,qs,vl',vm',vs',vo',rfl,hsw⟩;obtain⟨R0,hR0,hRl,hUq⟩:=HKp.out qs vl' vm' vs' vo' hsw.parts;obtain⟨r0,hr0⟩:∃ q,R0[0]?=some q:=⟨_,List.getElem?_eq_getElem hRl.1⟩;have hso:P10.OwnI W3.heap.size w5 v5 R0:=(by rw[hR0];exact hsw.own);obtain⟨g5,c5,hv5,_⟩:=own_cell hso hr0;subst hv5;have HSw:=qh hsw;have HUq0:=qh hUq;have HRl:=qh hRl;have HR0:=qh hr0;have HSo:=qh hso;clear hsw hR0 hRl hUq hr0 hso)
   clear a6 y0 y1 y2 y3 y4 y5
   obtain⟨n5,hn5⟩:∃ n,n=R0.length:=⟨_,rfl⟩
   obtain⟨G5,hG5⟩:∃ G5,G5=(G.saw sn').kept vl' vm' vs' vo' (kfold (splitM G.M qs.length olds).1 0 ⟨G.M,G.sets,G.made,[]⟩ qs) (splitM G.M qs.length olds).2:=⟨_,rfl⟩
   rw[← hn5]
   have hw5:Went w2 w5 G G5:=by rw[hG5];exact HW3.out.trans HSw.out.went
   have HW5:Hid (Went w w5 G0 G5):=qh (HW2.out.trans hw5)
   have HS5:Hid (SameG G0 G5):=qh (by rw[hG5];exact (HU.out.same.trans (SameG.saw G sn')).trans (SameG.kept _ _ _ _ _ _ _))
   have HO5:Hid (P10.OwnI W3.heap.size w5 (.slice (some ⟨g5,0,none⟩) n5 c5) R0):=qh (by rw[hn5];exact HSo.out)
   have HLo:Hid (wr.heap.size≤W3.heap.size):=qh (Nat.le_trans HWrt.out.fr.size HW3.out.fr.size)
   have HA5:Hid (w5.heap[ab]?=some (.cells #[.int .i64 ak0,.int .i64 aid,.int .i64 atx,.string abody,.int .i64 4,.slice none 0 0,.slice (some ⟨kb0,koff,none⟩) n kc,.int .i64 (B:Int)] 88 (0,0))):=qh (hw5.box HA2.out HnA.out).1
   have HN5b:Hid (w5.heap[w.heap.size]?=some (.cells #[.int .i64 K9,.slice f1 f2 f3,.slice f4 f5 f6] 80 (0,0))):=qh (hw5.box HX2.out HnN.out).1
   have HUq:Hid (∀ ch':Bool,(ch'=false↔bare G0.key R0=ks)→UpL M0 D root G0.key ids L' gr G0.ps (k+1) G5 (.tw (bare G0.key R0)) ch'):=qh (by rw[hG5];exact HUq0.out)
   have HN5:Hid (n5=R0.length):=qh hn5
   have HT5:Hid (FrT none wr w5):=qh (HWrt.out.ft.trans hw5.ft)
   clear hn5 hG5 hw5
   have hky:=cell_at HW5.out.at_.ch.obj 1
   rw[HS5.out.c,HS5.out.key] at hky
   obtain⟨cs5,hg5⟩:=own_block HO5.out
   have hgc:cs5[0]?=some (.string r0.key):=by
    obtain⟨g9,c9,e9,_,h9⟩:=own_cell HO5.out HR0.out
    simp only[Value.slice.injEq,Option.some.injEq,Addr.mk.injEq,and_true] at e9
    obtain⟨rfl,_,_⟩:=e9
    have h8:=h9.1
    rw[Nat.zero_mul,cell_at hg5 0] at h8
    exact h8
   have hc5:=cell_at hg5 0
   rw[hgc] at hc5
   have HG5:=qh hg5
   have HGc:=qh hgc
   have HNa:Hid (ab≠g5):=fun e=>by
    have h9:=HA5.out
    rw[e,HG5.out] at h9
    cases h9
   have HNg:Hid (w.heap.size≠g5):=fun e=>by
    have h9:=HN5b.out
    rw[e,HG5.out] at h9
    cases h9
   have HNe:Hid (ab≠w.heap.size):=fun e=>by
    have h9:=HA5.out
    rw[e,HN5b.out] at h9
    cases h9
   have hn0:decide ((0:Int) < (n5:Int))=true:=decide_eq_true (by have:=HN5.out;have:=HRl.out.1;omega)
   have hn1:(0:Int) < (n5:Int):=by have:=HN5.out;have:=HRl.out.1;omega
   have hn2:0 < n5:=by have:=HN5.out;have:=HRl.out.1;omega
   clear hg5 hgc
   by_cases hkb:kb G0.key r0.key=true
   ·have hAE:Op.bytesLess r0.key.toList G0.key.toList=false∧(r0.key.toList == G0.key.toList)=false:=by
     have h9:=P10.kb_gtr r0.key G0.key
     rw[show P10.kb G0.key r0.key=true from hkb] at h9
     simpa using h9
    obtain⟨hA,hE⟩:=hAE
    go_quiet (fail)
    clear hky hc5
    obtain⟨W6,hW6⟩:∃ W,W=w5.drewN nq:=⟨_,rfl⟩
    rw[← hW6]
    have hb6:Below w5.heap.size w5 W6:=by rw[hW6];exact P3.below_drewN w5 _
    have HW6:=qh (HW5.out.then hb6)
    have HO6:Hid (P10.OwnI W3.heap.size W6 (.slice (some ⟨g5,0,none⟩) n5 c5) R0):=qh ⟨owns_below HO5.out.1 hb6,HO5.out.2⟩
    have HA6:=qh (P3.old_below HA5.out hb6)
    have HN6:=qh (P3.old_below HN5b.out hb6)
    have HG6b:=qh (P3.old_below HG5.out hb6)
    have HG6:Hid (∃ cs,W6.heap[g5]?=some (.cells cs 106 (0,0))):=qh ⟨cs5,HG6b.out⟩
    have HT6:=qh (HT5.out.trans (FrT.of hb6))
    clear hW6 hb6
    have hc6:=cell_at HG6b.out 0
    have hfz:=free_at HG6b.out 0
    rw[HGc.out] at hc6
    go_upto_region 15 with fail
    clear hc6 hfz
    obtain⟨W7,hW7⟩:∃ W,W=W6.setCell ⟨g5,0,none⟩ (.string ⟨#[]⟩):=⟨_,rfl⟩
    rw[← hW7]
    clear hA hE
    have h7f:P3.Fr (·=g5) W6 W7:=by rw[hW7];exact fr_set _ _ _ _
    have h7o:P10.OwnI W3.heap.size W7 (.slice (some ⟨g5,0,none⟩) n5 c5) (rekey R0 0 ⟨#[]⟩):=by
     have h9:=HO6.out
     rw[HN5.out] at h9
     have h8:=rekey_own h9 HR0.out ⟨#[]⟩
     rw[Nat.zero_mul] at h8
     rw[hW7,HN5.out]
     exact h8
    have hab7:=h7f.keep HA6.out HNa.out
    have hnb7:=h7f.keep HN6.out HNg.out
    have ft7:FrT none wr W7:=FrT.past HT6.out h7f (Nat.le_trans HLo.out (h7o.1.lt g5 rfl).1)
    have HF6:=qh h7f
    have HO7:=qh h7o
    have HT7:=qh ft7
    have HUp:Hid (∀ ch':Bool,(ch'=false↔(rekey R0 0 ⟨#[]⟩)=ks)→UpL M0 D root G0.key ids L' gr G0.ps (k+1) G5 (.tw (rekey R0 0 ⟨#[]⟩)) ch'):=by
     have h9:=HUq.out
     rw[bare_rekey HR0.out,if_pos hkb] at h9
     exact qh h9
    have HEq:Hid (∀ W,Below W7.heap.size W7 W→Calls Tryz.prog 87 #[(.slice (some ⟨g5,0,none⟩) n5 c5),(.slice (some ⟨kb0,koff,none⟩) n kc)] W fun e w'=>∃ r:Bool,e=.returned (.bool r)∧(r=true↔(rekey R0 0 ⟨#[]⟩)=ks)∧Below W.heap.size W w'):=fun W b=>equal_any W none (.slice (some ⟨g5,0,none⟩) n5 c5) (.slice (some ⟨kb0,koff,none⟩) n kc) (rekey R0 0 ⟨#[]⟩) ks ((KdT.own HO7.out fun _ e=>by cases e).keep (FrT.of b)) (HKd.out.keep (HT7.out.trans (FrT.of b))) (by rw[rekey_len];have:=HRl.out.2;omega) (by have:=HS.out.ln.2;omega)
    have HAd:Hid (W7.drew.heap[ab]?=some (.cells #[.int .i64 ak0,.int .i64 aid,.int .i64 atx,.string abody,.int .i64 4,.slice none 0 0,.slice (some ⟨kb0,koff,none⟩) n kc,.int .i64 (B:Int)] 88 (0,0))):=qh hab7
    have HNd7:Hid (W7.drew.heap[w.heap.size]?=some (.cells #[.int .i64 K9,.slice f1 f2 f3,.slice f4 f5 f6] 80 (0,0))):=qh hnb7
    have HBd:Hid (Below W7.heap.size W7 W7.drew):=qh (Below.refl _ _).drew
    clear hW7 h7f h7o hab7 hnb7 ft7 hkb
    refine wp_region_held_drew (S:=fun W'=>W'.cell? ⟨ab,6,none⟩=some (.slice (some ⟨kb0,koff,none⟩) n kc)) (by kernel_rfl) (cell_at HAd.out 6) (fun hHeld=>?_)
    refine tk 0 ?_
    refine tk 2 ?_
    refine tk 3 ?_
    refine tk 4 ?_
    refine tk 5 ?_
    refine dOne 1 fun K hK=>?_
    go_simp
    go_at_call 86;(with_reducible refine (ofKids_any _ _ _ _).mono ?_);rintro e w8 ⟨rfl,hz⟩;have HZ1:=qh hz;clear hz
    go_wp2_with fail
    refine hK.out _ _ (cell_at (P3.old_below HAd.out HZ1.out) 6) (fun hHeld=>?_)
    clear hK K
    try simp only[Act.put,qqA,qqB,qqC]
    refine dOne 6 fun K hK=>?_
    go_simp
    go_at_call 87;(with_reducible refine (HEq.out _ (thenBelow HBd.out HZ1.out)).mono ?_);rintro e w9 ⟨r,rfl,hr,hz⟩;have HRr:=qh hr;have HZ:=qh hz;clear hz hr
    go_wp2_with fail
    refine hK.out _ _ (cell_at (P3.old_below (P3.old_below HAd.out HZ1.out) HZ.out) 6) (fun hHeld=>?_)
    clear hK K
    try simp only[Act.put,qqA,qqB,qqC]
    refine tk 7 ?_
    have hnb8:=(P3.old_below (P3.old_below HNd7.out HZ1.out) HZ.out)
    have y0:=cell_at hnb8 0
    have y1:=cell_at hnb8 1
    have y2:=cell_at hnb8 2
    have z0:=free_at hnb8 0
    have z1:=free_at hnb8 1
    have z2:=free_at hnb8 2
    simp only[qqD,qqE,qqF] at y0 y1 y2
    have HN8:=qh hnb8
    have HA8:=qh (P3.old_below (P3.old_below HAd.out HZ1.out) HZ.out)
    have HB8:=qh (thenBelow (thenBelow HBd.out HZ1.out) HZ.out)
    clear hnb8
    refine dOne 8 fun K hK=>?_
    go_simp
    refine hK.out _ _ (cell_at (P3.old_set (P3.old_set (P3.old_set HA8.out (⟨w.heap.size,0,none⟩:Addr) HNe.out (.int .i64 4)) (⟨w.heap.size,1,none⟩:Addr) HNe.out (.slice none 0 0)) (⟨w.heap.size,2,none⟩:Addr) HNe.out (.slice (some ⟨g5,0,none⟩) n5 c5)) 6) (fun hHeld=>?_)
    clear hK K
    try simp only[Act.put,qqA,qqB,qqC]
    refine tk 9 ?_
    refine wpAnyH_done (by kernel_rfl) ?_ _
    clear y0 y1 y2 z0 z1 z2 hHeld
    have hch:(!r)=false↔(rekey R0 0 ⟨#[]⟩)=ks:=by rw[Bool.not_eq_false'];exact HRr.out
    have HFn:=qh (up_tail HH.out HW6.out HS5.out (HUp.out (!r) hch) HO7.out (Nat.le_trans HU.out.went.fr.size HLo.out) HF6.out HG6.out HB8.out _ _ _ HN8.out)
    clear hch
    go_wp2
    go_roundw
    case rel=>exact⟨p1,G5,.tw (rekey R0 0 ⟨#[]⟩),_,_,!r,rfl,rfl,by have:=HP1.out;have:=HKk.out;omega,by rw[HP1.out];exact HFn⟩
    case measure=>show p1 < m;have:=HP1.out;have:=HKk.out;omega
   ·have hAE:Op.bytesLess r0.key.toList G0.key.toList=true∨(r0.key.toList == G0.key.toList)=true:=by
     have h9:=P10.kb_gtr r0.key G0.key
     rw[show P10.kb G0.key r0.key=false from Bool.eq_false_iff.2 hkb] at h9
     cases hA:Op.bytesLess r0.key.toList G0.key.toList with
     | true=>exact .inl rfl
     | false=>
      rw[hA] at h9
      exact .inr (by simpa using h9)
    rcases hAE with hA|hA
    all_goals
     go_quiet (fail)
     clear hky hc5
     obtain⟨W6,hW6⟩:∃ W,W=w5.drewN nq:=⟨_,rfl⟩
     rw[← hW6]
     have hb6:Below w5.heap.size w5 W6:=by rw[hW6];exact P3.below_drewN w5 _
     have HW6:=qh (HW5.out.then hb6)
     have HO6:Hid (P10.OwnI W3.heap.size W6 (.slice (some ⟨g5,0,none⟩) n5 c5) R0):=qh ⟨owns_below HO5.out.1 hb6,HO5.out.2⟩
     have HA6:=qh (P3.old_below HA5.out hb6)
     have HN6:=qh (P3.old_below HN5b.out hb6)
     have HG6b:=qh (P3.old_below HG5.out hb6)
     have HG6:Hid (∃ cs,W6.heap[g5]?=some (.cells cs 106 (0,0))):=qh ⟨cs5,HG6b.out⟩
     have HT6:=qh (HT5.out.trans (FrT.of hb6))
     clear hW6 hb6
     go_upto_region 15 with fail
     obtain⟨W7,hW7⟩:∃ W,W=W6:=⟨_,rfl⟩
     rw[← hW7]
     clear hA
     have h7f:P3.Fr (·=g5) W6 W7:=by rw[hW7];exact P3.Fr.refl _ _
     have h7o:P10.OwnI W3.heap.size W7 (.slice (some ⟨g5,0,none⟩) n5 c5) R0:=by rw[hW7];exact HO6.out
     have hab7:=h7f.keep HA6.out HNa.out
     have hnb7:=h7f.keep HN6.out HNg.out
     have ft7:FrT none wr W7:=FrT.past HT6.out h7f (Nat.le_trans HLo.out (h7o.1.lt g5 rfl).1)
     have HF6:=qh h7f
     have HO7:=qh h7o
     have HT7:=qh ft7
     have HUp:Hid (∀ ch':Bool,(ch'=false↔R0=ks)→UpL M0 D root G0.key ids L' gr G0.ps (k+1) G5 (.tw R0) ch'):=by
      have h9:=HUq.out
      rw[bare_rekey HR0.out,if_neg hkb] at h9
      exact qh h9
     have HEq:Hid (∀ W,Below W7.heap.size W7 W→Calls Tryz.prog 87 #[(.slice (some ⟨g5,0,none⟩) n5 c5),(.slice (some ⟨kb0,koff,none⟩) n kc)] W fun e w'=>∃ r:Bool,e=.returned (.bool r)∧(r=true↔R0=ks)∧Below W.heap.size W w'):=fun W b=>equal_any W none (.slice (some ⟨g5,0,none⟩) n5 c5) (.slice (some ⟨kb0,koff,none⟩) n kc) R0 ks ((KdT.own HO7.out fun _ e=>by cases e).keep (FrT.of b)) (HKd.out.keep (HT7.out.trans (FrT.of b))) (by have:=HRl.out.2;omega) (by have:=HS.out.ln.2;omega)
     have HAd:Hid (W7.drew.heap[ab]?=some (.cells #[.int .i64 ak0,.int .i64 aid,.int .i64 atx,.string abody,.int .i64 4,.slice none 0 0,.slice (some ⟨kb0,koff,none⟩) n kc,.int .i64 (B:Int)] 88 (0,0))):=qh hab7
     have HNd7:Hid (W7.drew.heap[w.heap.size]?=some (.cells #[.int .i64 K9,.slice f1 f2 f3,.slice f4 f5 f6] 80 (0,0))):=qh hnb7
     have HBd:Hid (Below W7.heap.size W7 W7.drew):=qh (Below.refl _ _).drew
     clear hW7 h7f h7o hab7 hnb7 ft7 hkb
     refine wp_region_held_drew (S:=fun W'=>W'.cell? ⟨ab,6,none⟩=some (.slice (some ⟨kb0,koff,none⟩) n kc)) (by kernel_rfl) (cell_at HAd.out 6) (fun hHeld=>?_)
     refine tk 0 ?_
     refine tk 2 ?_
     refine tk 3 ?_
     refine tk 4 ?_
     refine tk 5 ?_
     refine dOne 1 fun K hK=>?_
     go_simp
     go_at_call 86;(with_reducible refine (ofKids_any _ _ _ _).mono ?_);rintro e w8 ⟨rfl,hz⟩;have HZ1:=qh hz;clear hz
     go_wp2_with fail
     refine hK.out _ _ (cell_at (P3.old_below HAd.out HZ1.out) 6) (fun hHeld=>?_)
     clear hK K
     try simp only[Act.put,qqA,qqB,qqC]
     refine dOne 6 fun K hK=>?_
     go_simp
     go_at_call 87;(with_reducible refine (HEq.out _ (thenBelow HBd.out HZ1.out)).mono ?_);rintro e w9 ⟨r,rfl,hr,hz⟩;have HRr:=qh hr;have HZ:=qh hz;clear hz hr
     go_wp2_with fail
     refine hK.out _ _ (cell_at (P3.old_below (P3.old_below HAd.out HZ1.out) HZ.out) 6) (fun hHeld=>?_)
     clear hK K
     try simp only[Act.put,qqA,qqB,qqC]
     refine tk 7 ?_
     have hnb8:=(P3.old_below (P3.old_below HNd7.out HZ1.out) HZ.out)
     have y0:=cell_at hnb8 0
     have y1:=cell_at hnb8 1
     have y2:=cell_at hnb8 2
     have z0:=free_at hnb8 0
     have z1:=free_at hnb8 1
     have z2:=free_at hnb8 2
     simp only[qqD,qqE,qqF] at y0 y1 y2
     have HN8:=qh hnb8
     have HA8:=qh (P3.old_below (P3.old_below HAd.out HZ1.out) HZ.out)
     have HB8:=qh (thenBelow (thenBelow HBd.out HZ1.out) HZ.out)
     clear hnb8
     refine dOne 8 fun K hK=>?_
     go_simp
     refine hK.out _ _ (cell_at (P3.old_set (P3.old_set (P3.old_set HA8.out (⟨w.heap.size,0,none⟩:Addr) HNe.out (.int .i64 4)) (⟨w.heap.size,1,none⟩:Addr) HNe.out (.slice none 0 0)) (⟨w.heap.size,2,none⟩:Addr) HNe.out (.slice (some ⟨g5,0,none⟩) n5 c5)) 6) (fun hHeld=>?_)
     clear hK K
     try simp only[Act.put,qqA,qqB,qqC]
     refine tk 9 ?_
     refine wpAnyH_done (by kernel_rfl) ?_ _
     clear y0 y1 y2 z0 z1 z2 hHeld
     have hch:(!r)=false↔R0=ks:=by rw[Bool.not_eq_false'];exact HRr.out
     have HFn:=qh (up_tail HH.out HW6.out HS5.out (HUp.out (!r) hch) HO7.out (Nat.le_trans HU.out.went.fr.size HLo.out) HF6.out HG6.out HB8.out _ _ _ HN8.out)
     clear hch
     go_wp2
     go_roundw
     case rel=>exact⟨p1,G5,.tw R0,_,_,!r,rfl,rfl,by have:=HP1.out;have:=HKk.out;omega,by rw[HP1.out];exact HFn⟩
     case measure=>show p1 < m;have:=HP1.out;have:=HKk.out;omega
theorem up_any:∀ (w:World) (G0:Cg) (M0:PM) (D:Nat) (root:Int) (ids:List Int) (L':List It) (gr:Bool) (nd:Nd) (vi vk:Value) (h:CAt w G0) (hn:NdT w none vi vk nd) (hl:G0.ps.length≤12) (hU:UpL M0 D root G0.key ids L' gr G0.ps G0.ps.length G0 nd true),
  Calls Tryz.prog 69 #[.pointer (some ⟨G0.c,0,none⟩),.int .i64 root,nd.v vi vk] w fun e w'=>∃ r G',e=.returned (.tuple #[.int .i64 r,.int .i64 0])∧Went w w' G0 G'∧SameG G0 G'∧TopR M0 ids L' (gmax gr D) r G':=up_cut.2 ⟨up_round⟩
end Go.Proofs.YtjepgclnbbpnaaaGreat.P12
