/-
  Texts of the proofs of SaidOrd12.
-/
import Derived.Test.YtjepgclnbbpnaaaGreatMs33
set_option linter.unusedVariables false
set_option linter.unusedSimpArgs false
set_option maxHeartbeats 8000000
set_option maxRecDepth 100000
namespace Go.Proofs.YtjepgclnbbpnaaaGreat.P12
open PK (qqA qqB qqC qqD qqE qqF tk tkS dOne qh)
open Go Go.RowKit Go.Lib PK
open P11 (Pg cellsP PgsIn)
open P9 (It kb kb_trans RightI)
structure UpR (w wr:World) (G0:Cg) (M0:PM) (D:Nat) (root:Int) (ids:List Int) (L':List It) (gr:Bool) (m:Nat) (G:Cg) (nd:Nd) (vi vk:Value) (ch:Bool):Prop where
 went:Went w wr G0 G
 same:SameG G0 G
 up:UpL M0 D root G0.key ids L' gr G0.ps m G nd ch
 ndt:NdT wr none vi vk nd
 box:wr.heap[w.heap.size]?=some (.cells #[.int .i64 nd.kind,vi,vk] 80 (0,0))
theorem UpR.below{w wr:World}{G0:Cg}{M0:PM}{D:Nat}{root:Int}{ids:List Int}{L':List It}{gr:Bool}{m:Nat}{G:Cg}{nd:Nd}{vi vk:Value}{ch:Bool}(h:UpR w wr G0 M0 D root ids L' gr m G nd vi vk ch){W:World}(k:Below wr.heap.size wr W):UpR w W G0 M0 D root ids L' gr m G nd vi vk ch:=
 ⟨h.went.then k,h.same,h.up,h.ndt.keep (FrT.of k),P3.old_below h.box k⟩
structure UpT (w wr:World) (G0:Cg) (M0:PM) (D:Nat) (ids:List Int) (L':List It) (gr:Bool) (G:Cg) (gb:Nat) (K9:Int) (vi vk vo:Value) (ae:Bool):Prop where
 went:Went w wr G0 G
 same:SameG G0 G
 box:wr.heap[gb]?=some (.cells #[.int .i64 K9,vi,vk,vo,.int .i64 0,.bool ae] 127 (0,0))
 top:∃ nd d i' olds,nd.kind=K9∧NdT wr none vi vk nd∧OldIn wr G vo olds∧TopS M0 ids L' (gmax gr D) d nd i' olds G∧(nd.kind=4→0 < nd.len∧olds.length=1)
theorem UpT.call{w wr:World}{G0:Cg}{M0:PM}{D:Nat}{ids:List Int}{L':List It}{gr:Bool}{G:Cg}{gb:Nat}{K9:Int}{vi vk vo:Value}{ae:Bool}(h:UpT w wr G0 M0 D ids L' gr G gb K9 vi vk vo ae){W:World}(k:Below wr.heap.size wr W) :
  Calls Tryz.prog 89 #[.pointer (some ⟨G0.c,0,none⟩),.agg #[.int .i64 K9,vi,vk,vo,.int .i64 0,.bool ae]] W fun e w'=>∃ r G',e=.returned (.tuple #[.int .i64 r,.int .i64 0])∧Went w w' G0 G'∧SameG G0 G'∧TopR M0 ids L' (gmax gr D) r G':=by
 obtain⟨nd,d,i',olds,rfl,h1,h2,h3,h4⟩:=h.top
 have hw:=h.went.then k
 have hc:=top_any W G M0 ids L' (gmax gr D) d nd i' olds vi vk vo 0 ae hw.at_ (h1.keep (FrT.of k)) (h2.went (Went.below h.went.at_ k)) h3 h4
 rw[h.same.c] at hc
 refine hc.mono ?_
 rintro e w' ⟨r,G',rfl,g1,g2,g3⟩
 exact⟨r,G',rfl,hw.trans g1,h.same.trans g2,g3⟩
theorem UpT.slice{w wr:World}{G0:Cg}{M0:PM}{D:Nat}{ids:List Int}{L':List It}{gr:Bool}{G:Cg}{gb:Nat}{K9:Int}{vi vk vo:Value}{ae:Bool}(h:UpT w wr G0 M0 D ids L' gr G gb K9 vi vk vo ae):∃ a n c,vo=.slice a n c:=by
 obtain⟨nd,d,i',olds,_,h1,h2,_⟩:=h.top
 obtain⟨a,c,e⟩:=h2.pgs.slice
 exact⟨a,_,c,e⟩
def up_cut:{ P:Prop // Wait P→∀ (w:World) (G0:Cg) (M0:PM) (D:Nat) (root:Int) (ids:List Int) (L':List It) (gr:Bool) (nd:Nd) (vi vk:Value) (h:CAt w G0) (hn:NdT w none vi vk nd) (hl:G0.ps.length≤12) (hU:UpL M0 D root G0.key ids L' gr G0.ps G0.ps.length G0 nd true),
  Calls Tryz.prog 69 #[.pointer (some ⟨G0.c,0,none⟩),.int .i64 root,nd.v vi vk] w fun e w'=>∃ r G',e=.returned (.tuple #[.int .i64 r,.int .i64 0])∧Went w w' G0 G'∧SameG G0 G'∧TopR M0 ids L' (gmax gr D) r G' }:=by
 refine⟨?PZ,fun hAll w G0 M0 D root ids L' gr nd vi vk h hn hl hU=>?body⟩
 case body=>
  obtain⟨wa,wc,hvw⟩:=h.sk.slice
  obtain⟨X,hX⟩:∃ X,X=w.alloc (.cells #[.int .i64 nd.kind,vi,vk] 80):=⟨_,rfl⟩
  have b0:Below w.heap.size w X:=by rw[hX];exact below_new _ _
  have r0:X.heap[w.heap.size]?=some (.cells #[.int .i64 nd.kind,vi,vk] 80 (0,0)):=by rw[hX];exact new_at _ _ _
  have U0:Hid (UpR w X G0 M0 D root ids L' gr G0.ps.length G0 nd vi vk true):=qh ⟨Went.below h b0,SameG.refl _,hU,hn.keep (FrT.of b0),r0⟩
  have hx:=h.below b0
  have c0:=cell_at hx.ch.obj 0
  have c1:=cell_at hx.sk.obj 1
  simp only[qqD,qqE,qqF] at c0 c1
  rw[hvw] at c1
  have HVw:=qh hvw
  have HH:=qh h
  obtain⟨N,hN⟩:∃ n,n=G0.ps.length:=⟨_,rfl⟩
  rw[← hN] at c1 hl U0 HVw
  have HN:=qh hN
  obtain⟨a1,n1,d1,a2,n2,d2,rfl,rfl,_⟩:=hn.lens
  obtain⟨K,hK⟩:∃ K,K=nd.kind:=⟨_,rfl⟩
  unfold Nd.v
  rw[← hK] at hX ⊢
  clear hvw b0 r0 hx hN hK h hn hU
  go_enter Tryz.func69,Tryz.ntmps69
  go_upto_region 1 with fail
  rw[← hX]
  clear hX
  go_wp2
  clear c0 c1
  go_loopw [8,9] (fun vway vch wr=>∃ (m:Nat) (G:Cg) (nd:Nd) (vi vk:Value) (ch:Bool),vway=.slice wa m wc∧vch=.bool ch∧m≤12∧Hid (UpR w wr G0 M0 D root ids L' gr m G nd vi vk ch)) (fun vway _ _=>slLen vway)
  case atStart=>exact⟨N,G0,nd,_,_,true,rfl,rfl,hl,U0⟩
  case round=>
   clear U0
   obtain⟨m,G,nd9,vi,vk,ch,rfl,rfl,hm,HU⟩:=hrel
   by_cases h1:1 < m
   ·rename_i R5 Q5 K5 A5
    clear R5
    revert wr w G0 M0 D root ids L' gr nd wa wc X N a1 n1 d1 a2 n2 d2 K Q5 K5 u6 u7 u10 u11 u12 u13 u14 u25 u26 u27 u28 u29 u30 u31 u32 u33 u34 u35 u36 u37 u38 u39 u40 u41 u42 u43 u44 u45 u46 u47 u48 u49 u50 u51 u52 u53 u54 u55 u56 u57 u58 u59 u60 u61 u62 u63 u64 u65 u66 u67 u68 u69 u70 u71 u72 u73 u74 u75 u76 u77 u78 u79 u80 u81 u82 u83 u84 u85 u86 u87 u88 u89 u90 u91 u92 m G nd9 vi vk ch
    exact hAll.out
   ·have k1:decide ((1:Int) < (m:Int))=false:=decide_eq_false (by omega)
    have k2:¬ ((1:Int) < (m:Int)):=by omega
    have k3:decide (1 < m)=false:=decide_eq_false h1
    cases ch
    case false=>
     have HR:=qh (HU.out.up.stay (by omega))
     have HWn:=qh HU.out.went
     have HSm:=qh HU.out.same
     clear HU
     go_wp2
     go_ret2
     first
      | exact⟨root,G,rfl,HWn.out,HSm.out,HR.out⟩
      | exact⟨root,rfl,G,HWn.out,HSm.out,HR.out⟩
    case true=>
     obtain⟨f1,f2,f3,f4,f5,f6,rfl,rfl,_⟩:=HU.out.ndt.lens
     obtain⟨K9,hK9⟩:∃ K,K=nd9.kind:=⟨_,rfl⟩
     have hb:=HU.out.box
     rw[← hK9] at hb
     have x0:=cell_at hb 0
     have x1:=cell_at hb 1
     have x2:=cell_at hb 2
     simp only[qqD,qqE,qqF] at x0 x1 x2
     have HK9:=qh hK9
     clear hb hK9
     obtain⟨hp4,htop⟩:=HU.out.up.top (by omega)
     have hgb:Below wr.heap.size wr (wr.alloc (.cells #[.int .i64 K9,.slice f1 f2 f3,.slice f4 f5 f6,.slice none 0 0,.int .i64 0,.bool false] 127)):=below_new _ _
     have hgn:(wr.alloc (.cells #[.int .i64 K9,.slice f1 f2 f3,.slice f4 f5 f6,.slice none 0 0,.int .i64 0,.bool false] 127)).heap[wr.heap.size]?=some (.cells #[.int .i64 K9,.slice f1 f2 f3,.slice f4 f5 f6,.slice none 0 0,.int .i64 0,.bool false] 127 (0,0)):=new_at _ _ _
     go_upto_region 19 with fail
     obtain⟨W1,hW1⟩:∃ W1,W1=wr.alloc (.cells #[.int .i64 K9,.slice f1 f2 f3,.slice f4 f5 f6,.slice none 0 0,.int .i64 0,.bool false] 127):=⟨_,rfl⟩
     obtain⟨gb,hgbe⟩:∃ g,g=wr.heap.size:=⟨_,rfl⟩
     rw[← hW1,← hgbe]
     rw[← hW1] at hgb hgn
     rw[← hgbe] at hgn
     have hgw:w.heap.size < gb:=by rw[hgbe];exact lt_of_block HU.out.box
     have HGw:=qh hgw
     have HGb:=qh hgbe
     have HB1:=qh hgb
     have HG1:=qh hgn
     have HTop:=qh htop
     have HP4:=qh hp4
     clear hW1 hgbe hgb hgn htop hp4 x0 x1 x2 hgw
     rcases (show m=0∨m=1 by omega) with rfl|rfl
     ·have hT:Hid (UpT w W1 G0 M0 D ids L' gr G gb K9 (.slice f1 f2 f3) (.slice f4 f5 f6) (.slice none 0 0) false):=by
       rcases HTop.out with ⟨_,hk3,d,T⟩|⟨h9,_⟩
       ·refine⟨HU.out.went.then HB1.out,HU.out.same,HG1.out,nd9,d,[],[],HK9.out.symm,HU.out.ndt.keep (FrT.of HB1.out),OldIn.nil _ _,T,fun h4=>?_⟩
        rw[hk3] at h4
        cases h4
       ·omega
      go_wp2
      go_loopw [100] (fun vi wr2=>vi=.int .i64 0∧wr2=W1) (fun _ _=>0)
      case atStart=>exact⟨rfl,rfl⟩
      case round=>
       obtain⟨rfl,rfl⟩:=hrel
       have y0:=cell_at HG1.out 0
       have y1:=cell_at HG1.out 1
       have y2:=cell_at HG1.out 2
       have y3:=cell_at HG1.out 3
       have y4:=cell_at HG1.out 4
       have y5:=cell_at HG1.out 5
       simp only[qqD,qqE,qqF] at y0 y1 y2 y3 y4 y5
       go_wp2_with (go_at_call 89;(with_reducible refine (hT.out.call (Below.refl _ _)).mono ?_);rintro e w6 ⟨r,G',rfl,g1,g2,g3⟩;have HWn:=qh g1;have HSm:=qh g2;have HR:=qh g3;clear g1 g2 g3)
       go_ret2
       first
        | exact⟨r,G',rfl,HWn.out,HSm.out,HR.out⟩
        | exact⟨r,rfl,G',HWn.out,HSm.out,HR.out⟩
     ·obtain⟨here,i',hps,hhl,T⟩:∃ here i',G0.ps[0]?=some here∧here.nd.len≤1000∧TopS M0 ids L' (gmax gr D) D nd9 i' [here.pg] G:=by
       rcases HTop.out with ⟨h9,_⟩|⟨_,h9⟩
       ·omega
       ·exact h9
      have HT9:=qh T
      clear HTop
      obtain⟨⟨hk,hid,htx,hbody⟩,hnd,hvi,hvk,hat⟩:=here
      have hsk:=(HU.out.went.then HB1.out).at_.sk
      rw[HU.out.same.vw,HU.out.same.ps,HVw.out] at hsk
      obtain⟨g,hwa,hcs⟩:=hsk.cells_ hps
      subst hwa
      have hnt:=hsk.nd _ (List.mem_of_getElem? hps)
      simp only at hnt hhl
      obtain⟨b1,m1,e1,b2,m2,e2,rfl,rfl,_⟩:=hnt.lens
      obtain⟨K2,hK2⟩:∃ K,K=hnd.kind:=⟨_,rfl⟩
      have hcs0:=hcs W1 (Below.refl _ _)
      have s0:=hcs0 0 _ rfl
      have s1:=hcs0 1 _ rfl
      have s2:=hcs0 2 _ rfl
      have s3:=hcs0 3 _ rfl
      have s4:=hcs0 4 _ rfl
      have s5:=hcs0 5 _ rfl
      have s6:=hcs0 6 _ rfl
      have s7:=hcs0 7 _ rfl
      simp only[Nat.zero_mul,Nat.zero_add] at s0 s1 s2 s3 s4 s5 s6 s7
      rw[← hK2] at s4
      have HHl:=qh hhl
      have HNt:=qh hnt
      have HK2:=qh hK2
      clear hsk hcs hcs0 hnt hK2 hhl
      go_wp2
      go_loopw [100] (fun vi wr2=>(vi=.int .i64 0∧wr2=W1)∨False∨(vi=.int .i64 1∧Hid (∃ vo ae,UpT w wr2 G0 M0 D ids L' gr G gb K9 (.slice f1 f2 f3) (.slice f4 f5 f6) vo ae))) (fun vi _=>1 - (RowKit.intOf vi).toNat)
      case atStart=>exact .inl ⟨rfl,rfl⟩
      case round=>
       rcases hrel with ⟨rfl,hw9⟩|hF|⟨rfl,hT⟩
       ·have hw9:=hw9.symm
        subst hw9
        go_upto_region 22 with fail
        obtain⟨W2,hW2⟩:∃ W2,W2=W1.alloc (.cells #[.int .i64 hk,.int .i64 hid,.int .i64 htx,.string hbody,.int .i64 K2,.slice b1 m1 e1,.slice b2 m2 e2,.int .i64 hat] 88):=⟨_,rfl⟩
        obtain⟨sb,hsb⟩:∃ b,b=W1.heap.size:=⟨_,rfl⟩
        rw[← hW2,← hsb]
        have hb2:Below W1.heap.size W1 W2:=by rw[hW2];exact below_new _ _
        have hs2:W2.heap[sb]?=some (.cells #[.int .i64 hk,.int .i64 hid,.int .i64 htx,.string hbody,.int .i64 K2,.slice b1 m1 e1,.slice b2 m2 e2,.int .i64 hat] 88 (0,0)):=by rw[hW2,hsb];exact new_at _ _ _
        have hne:gb≠sb:=by rw[hsb];have:=lt_of_block HG1.out;omega
        obtain⟨ae,hae⟩:∃ b,b=(Sp.mk ⟨hk,hid,htx,hbody⟩ hnd (.slice b1 m1 e1) (.slice b2 m2 e2) hat).atEnd:=⟨_,rfl⟩
        have HNe:=qh hne
        have HB2:=qh hb2
        have HA:Hid (∀ W,Below W2.heap.size W2 W→Calls Tryz.prog 88 #[.agg #[.int .i64 hk,.int .i64 hid,.int .i64 htx,.string hbody,.int .i64 K2,.slice b1 m1 e1,.slice b2 m2 e2,.int .i64 hat]] W fun e w'=>e=.returned (.bool ae)∧Below W.heap.size W w'):=fun W k=>by
         have h9:=atEnd_any W none (Sp.mk ⟨hk,hid,htx,hbody⟩ hnd (.slice b1 m1 e1) (.slice b2 m2 e2) hat) (HNt.out.keep ((FrT.of HB2.out).trans (FrT.of k))) (Nat.le_trans HHl.out (by decide))
         unfold Sp.v at h9
         simp only at h9
         rw[← hae,← HK2.out] at h9
         exact h9
        have HFin:Hid (∀ (W:World) (pb:Nat),Below W2.heap.size W2 W→W.heap[gb]?=some (.cells #[.int .i64 K9,.slice f1 f2 f3,.slice f4 f5 f6,.slice none 0 0,.int .i64 0,.bool false] 127 (0,0))→W.heap[pb]?=some (.cells #[.int .i64 hk,.int .i64 hid,.int .i64 htx,.string hbody] 86 (0,0))→W2.heap.size≤pb→∃ vo ae',UpT w ((W.setCell ⟨gb,3,none⟩ (.slice (some ⟨pb,0,none⟩) 1 1)).setCell ⟨gb,5,none⟩ (.bool ae)) G0 M0 D ids L' gr G gb K9 (.slice f1 f2 f3) (.slice f4 f5 f6) vo ae'):=fun W pb k hg hp hpb=>by
         have hgw:=HGw.out
         have k1:Below W1.heap.size W1 W:=thenBelow HB2.out k
         have hw1:=((HU.out.went.then HB1.out).then k1)
         have r1:=set_at hg 3 (.slice (some ⟨pb,0,none⟩) 1 1)
         have r2:=set_at r1 5 (.bool ae)
         have f1':P3.Fr (·=gb) W ((W.setCell ⟨gb,3,none⟩ (.slice (some ⟨pb,0,none⟩) 1 1)).setCell ⟨gb,5,none⟩ (.bool ae)):=(fr_set W gb 3 _).trans (fr_set _ gb 5 _)
         have hnG:¬ G.S gb:=fun e=>by have:=HU.out.went.at_.lt e;have:=HGb.out;omega
         have hpg:gb≠pb:=fun e=>by
          subst e
          rw[hg] at hp
          cases hp
         have hw2:=hw1.ext HH.out HU.out.same.ps f1' (fun k9 hk9=>⟨by omega,by rw[hk9];exact hnG⟩)
         have hnt2:NdT W none (.slice f1 f2 f3) (.slice f4 f5 f6) nd9:=(HU.out.ndt.keep (FrT.of HB1.out)).keep (FrT.of k1)
         have ft:FrT none W ((W.setCell ⟨gb,3,none⟩ (.slice (some ⟨pb,0,none⟩) 1 1)).setCell ⟨gb,5,none⟩ (.bool ae)):=FrT.ofFr f1' fun j' cs t hj hst e=>by
          subst hj
          rw[hg] at e
          cases e
          rcases hst.1 with h9|h9 <;> cases h9
         refine⟨_,_,hw2,HU.out.same,r2,nd9,D,i',[⟨hk,hid,htx,hbody⟩],HK9.out.symm,hnt2.keep ft,⟨pgs_one (p:=⟨hk,hid,htx,hbody⟩) (f1'.keep hp hpg.symm),fun j' hj'=>?_⟩,HT9.out,fun h4=>⟨HP4.out h4,rfl⟩⟩
         have hj2:pb=j':=Option.some.inj hj'
         subst hj2
         refine⟨fun e=>?_,lt_of_block (f1'.keep hp hpg.symm)⟩
         have h8:=HU.out.went.at_.lt e
         have h7:=HB1.out.size
         have h6:=HB2.out.size
         omega
        have HSd:Hid (W2.drew.heap[sb]?=some (.cells #[.int .i64 hk,.int .i64 hid,.int .i64 htx,.string hbody,.int .i64 K2,.slice b1 m1 e1,.slice b2 m2 e2,.int .i64 hat] 88 (0,0))):=qh hs2
        have HGd:Hid (W2.drew.heap[gb]?=some (.cells #[.int .i64 K9,.slice f1 f2 f3,.slice f4 f5 f6,.slice none 0 0,.int .i64 0,.bool false] 127 (0,0))):=qh (P3.old_below HG1.out HB2.out.drew)
        have HBd:Hid (Below W2.heap.size W2 W2.drew):=qh (Below.refl _ _).drew
        have HSn:Hid ((W2.drew.alloc (.cells #[.int .i64 hk,.int .i64 hid,.int .i64 htx,.string hbody] 86)).heap[sb]?=some (.cells #[.int .i64 hk,.int .i64 hid,.int .i64 htx,.string hbody,.int .i64 K2,.slice b1 m1 e1,.slice b2 m2 e2,.int .i64 hat] 88 (0,0))):=qh (P3.old_alloc HSd.out _)
        have HGn:Hid ((W2.drew.alloc (.cells #[.int .i64 hk,.int .i64 hid,.int .i64 htx,.string hbody] 86)).heap[gb]?=some (.cells #[.int .i64 K9,.slice f1 f2 f3,.slice f4 f5 f6,.slice none 0 0,.int .i64 0,.bool false] 127 (0,0))):=qh (P3.old_alloc HGd.out _)
        have HBn:Hid (Below W2.heap.size W2 (W2.drew.alloc (.cells #[.int .i64 hk,.int .i64 hid,.int .i64 htx,.string hbody] 86))):=qh (grow HBd.out _)
        have HBm:Hid (Below W2.heap.size W2 (W2.alloc (.cells #[.int .i64 hk,.int .i64 hid,.int .i64 htx,.string hbody] 86)).drew):=qh (below_new W2 _).drew
        have HPn:Hid ((W2.drew.alloc (.cells #[.int .i64 hk,.int .i64 hid,.int .i64 htx,.string hbody] 86)).heap[W2.heap.size]?=some (.cells #[.int .i64 hk,.int .i64 hid,.int .i64 htx,.string hbody] 86 (0,0))):=qh (new_at W2.drew #[.int .i64 hk,.int .i64 hid,.int .i64 htx,.string hbody] 86)
        clear hW2 hsb hb2 hs2 hne hae s0 s1 s2 s3 s4 s5 s6 s7
        refine wp_region_held_drew (S:=(fun W'=>W'.cell? ⟨sb,0,none⟩=some (.int .i64 hk)∧W'.cell? ⟨sb,1,none⟩=some (.int .i64 hid)∧W'.cell? ⟨sb,2,none⟩=some (.int .i64 htx)∧W'.cell? ⟨sb,3,none⟩=some (.string hbody)∧W'.cell? ⟨sb,4,none⟩=some (.int .i64 K2)∧W'.cell? ⟨sb,5,none⟩=some (.slice b1 m1 e1)∧W'.cell? ⟨sb,6,none⟩=some (.slice b2 m2 e2)∧W'.cell? ⟨sb,7,none⟩=some (.int .i64 hat))) (by kernel_rfl) ⟨cell_at HSd.out 0,cell_at HSd.out 1,cell_at HSd.out 2,cell_at HSd.out 3,cell_at HSd.out 4,cell_at HSd.out 5,cell_at HSd.out 6,cell_at HSd.out 7⟩ (fun hHeld=>?_)
        refine tk 0 ?_
        refine tk 1 ?_
        refine tk 3 ?_
        refine do_two 2 4 rfl rfl (by kernel_rfl) (by rfl) (by rfl) (fun K hK=>?_) (fun K hK=>?_)
        ·go_simp
         refine hK.out _ _ ⟨cell_at HSn.out 0,cell_at HSn.out 1,cell_at HSn.out 2,cell_at HSn.out 3,cell_at HSn.out 4,cell_at HSn.out 5,cell_at HSn.out 6,cell_at HSn.out 7⟩ (fun hHeld=>?_)
         clear hK K
         try simp only[Act.put,qqA,qqB,qqC]
         refine tk 5 ?_
         refine dOne 4 fun K hK=>?_
         go_simp
         go_at_call 88;(with_reducible refine (HA.out _ (by first|(with_reducible exact HBn.out)|(with_reducible exact HBm.out))).mono ?_);rintro e w5 ⟨rfl,hz⟩;have HZ:=qh hz;clear hz
         go_wp2_with fail
         refine hK.out _ _ ⟨cell_at (P3.old_below HSn.out HZ.out) 0,cell_at (P3.old_below HSn.out HZ.out) 1,cell_at (P3.old_below HSn.out HZ.out) 2,cell_at (P3.old_below HSn.out HZ.out) 3,cell_at (P3.old_below HSn.out HZ.out) 4,cell_at (P3.old_below HSn.out HZ.out) 5,cell_at (P3.old_below HSn.out HZ.out) 6,cell_at (P3.old_below HSn.out HZ.out) 7⟩ (fun hHeld=>?_)
         clear hK K
         try simp only[Act.put,qqA,qqB,qqC]
         have gh:=(P3.old_below HGn.out HZ.out)
         have q0:=cell_at gh 3
         have q1:=free_at gh 3
         have q2:=cell_at gh 5
         have q3:=free_at gh 5
         simp only[qqD,qqE,qqF] at q0 q2
         have HGh:=qh gh
         have HSh:=qh (P3.old_below HSn.out HZ.out)
         have HPh:=qh (P3.old_below HPn.out HZ.out)
         have HBl:=qh (thenBelow HBn.out HZ.out)
         clear gh
         refine dOne 6 fun K hK=>?_
         go_simp
         refine hK.out _ _ ⟨cell_at (P3.old_set HSh.out (⟨gb,3,none⟩:Addr) HNe.out.symm (.slice (some ⟨W2.heap.size,0,none⟩) 1 1)) 0,cell_at (P3.old_set HSh.out (⟨gb,3,none⟩:Addr) HNe.out.symm (.slice (some ⟨W2.heap.size,0,none⟩) 1 1)) 1,cell_at (P3.old_set HSh.out (⟨gb,3,none⟩:Addr) HNe.out.symm (.slice (some ⟨W2.heap.size,0,none⟩) 1 1)) 2,cell_at (P3.old_set HSh.out (⟨gb,3,none⟩:Addr) HNe.out.symm (.slice (some ⟨W2.heap.size,0,none⟩) 1 1)) 3,cell_at (P3.old_set HSh.out (⟨gb,3,none⟩:Addr) HNe.out.symm (.slice (some ⟨W2.heap.size,0,none⟩) 1 1)) 4,cell_at (P3.old_set HSh.out (⟨gb,3,none⟩:Addr) HNe.out.symm (.slice (some ⟨W2.heap.size,0,none⟩) 1 1)) 5,cell_at (P3.old_set HSh.out (⟨gb,3,none⟩:Addr) HNe.out.symm (.slice (some ⟨W2.heap.size,0,none⟩) 1 1)) 6,cell_at (P3.old_set HSh.out (⟨gb,3,none⟩:Addr) HNe.out.symm (.slice (some ⟨W2.heap.size,0,none⟩) 1 1)) 7⟩ (fun hHeld=>?_)
         clear hK K
         try simp only[Act.put,qqA,qqB,qqC]
         have q4:=cell_at (set_at HGh.out 3 (.slice (some ⟨W2.heap.size,0,none⟩) 1 1)) 5
         have q5:=free_at (set_at HGh.out 3 (.slice (some ⟨W2.heap.size,0,none⟩) 1 1)) 5
         (try simp only[qqD,qqE,qqF] at q4)
         refine tk 7 ?_
         refine dOne 8 fun K hK=>?_
         go_simp
         refine hK.out _ _ ⟨cell_at (P3.old_set (P3.old_set HSh.out (⟨gb,3,none⟩:Addr) HNe.out.symm (.slice (some ⟨W2.heap.size,0,none⟩) 1 1)) (⟨gb,5,none⟩:Addr) HNe.out.symm (.bool ae)) 0,cell_at (P3.old_set (P3.old_set HSh.out (⟨gb,3,none⟩:Addr) HNe.out.symm (.slice (some ⟨W2.heap.size,0,none⟩) 1 1)) (⟨gb,5,none⟩:Addr) HNe.out.symm (.bool ae)) 1,cell_at (P3.old_set (P3.old_set HSh.out (⟨gb,3,none⟩:Addr) HNe.out.symm (.slice (some ⟨W2.heap.size,0,none⟩) 1 1)) (⟨gb,5,none⟩:Addr) HNe.out.symm (.bool ae)) 2,cell_at (P3.old_set (P3.old_set HSh.out (⟨gb,3,none⟩:Addr) HNe.out.symm (.slice (some ⟨W2.heap.size,0,none⟩) 1 1)) (⟨gb,5,none⟩:Addr) HNe.out.symm (.bool ae)) 3,cell_at (P3.old_set (P3.old_set HSh.out (⟨gb,3,none⟩:Addr) HNe.out.symm (.slice (some ⟨W2.heap.size,0,none⟩) 1 1)) (⟨gb,5,none⟩:Addr) HNe.out.symm (.bool ae)) 4,cell_at (P3.old_set (P3.old_set HSh.out (⟨gb,3,none⟩:Addr) HNe.out.symm (.slice (some ⟨W2.heap.size,0,none⟩) 1 1)) (⟨gb,5,none⟩:Addr) HNe.out.symm (.bool ae)) 5,cell_at (P3.old_set (P3.old_set HSh.out (⟨gb,3,none⟩:Addr) HNe.out.symm (.slice (some ⟨W2.heap.size,0,none⟩) 1 1)) (⟨gb,5,none⟩:Addr) HNe.out.symm (.bool ae)) 6,cell_at (P3.old_set (P3.old_set HSh.out (⟨gb,3,none⟩:Addr) HNe.out.symm (.slice (some ⟨W2.heap.size,0,none⟩) 1 1)) (⟨gb,5,none⟩:Addr) HNe.out.symm (.bool ae)) 7⟩ (fun hHeld=>?_)
         clear hK K
         try simp only[Act.put,qqA,qqB,qqC]
         refine wpAnyH_done (by kernel_rfl) ?_ _
         clear q0 q1 q2 q3 q4 q5 hHeld
         have hfin:=HFin.out _ _ HBl.out HGh.out HPh.out (by first|exact Nat.le_refl _|exact (thenBelow HBd.out HZ.out).size)
         have HFn:=qh hfin
         clear hfin
         go_wp2
         go_roundw
         case rel=>exact .inr (.inr ⟨by go_num,HFn⟩)
         case measure=>first|decide|simp[RowKit.intOf]
        ·go_simp
         go_at_call 88;(with_reducible refine (HA.out _ HBd.out).mono ?_);rintro e w5 ⟨rfl,hz⟩;have HZ:=qh hz;clear hz
         go_wp2_with fail
         refine hK.out _ _ ⟨cell_at (P3.old_below HSd.out HZ.out) 0,cell_at (P3.old_below HSd.out HZ.out) 1,cell_at (P3.old_below HSd.out HZ.out) 2,cell_at (P3.old_below HSd.out HZ.out) 3,cell_at (P3.old_below HSd.out HZ.out) 4,cell_at (P3.old_below HSd.out HZ.out) 5,cell_at (P3.old_below HSd.out HZ.out) 6,cell_at (P3.old_below HSd.out HZ.out) 7⟩ (fun hHeld=>?_)
         clear hK K
         try simp only[Act.put,qqA,qqB,qqC]
         refine dOne 2 fun K hK=>?_
         go_simp
         refine hK.out _ _ ⟨cell_at (P3.old_alloc (P3.old_below HSd.out HZ.out) (.cells #[.int .i64 hk,.int .i64 hid,.int .i64 htx,.string hbody] 86)) 0,cell_at (P3.old_alloc (P3.old_below HSd.out HZ.out) (.cells #[.int .i64 hk,.int .i64 hid,.int .i64 htx,.string hbody] 86)) 1,cell_at (P3.old_alloc (P3.old_below HSd.out HZ.out) (.cells #[.int .i64 hk,.int .i64 hid,.int .i64 htx,.string hbody] 86)) 2,cell_at (P3.old_alloc (P3.old_below HSd.out HZ.out) (.cells #[.int .i64 hk,.int .i64 hid,.int .i64 htx,.string hbody] 86)) 3,cell_at (P3.old_alloc (P3.old_below HSd.out HZ.out) (.cells #[.int .i64 hk,.int .i64 hid,.int .i64 htx,.string hbody] 86)) 4,cell_at (P3.old_alloc (P3.old_below HSd.out HZ.out) (.cells #[.int .i64 hk,.int .i64 hid,.int .i64 htx,.string hbody] 86)) 5,cell_at (P3.old_alloc (P3.old_below HSd.out HZ.out) (.cells #[.int .i64 hk,.int .i64 hid,.int .i64 htx,.string hbody] 86)) 6,cell_at (P3.old_alloc (P3.old_below HSd.out HZ.out) (.cells #[.int .i64 hk,.int .i64 hid,.int .i64 htx,.string hbody] 86)) 7⟩ (fun hHeld=>?_)
         clear hK K
         try simp only[Act.put,qqA,qqB,qqC]
         refine tk 5 ?_
         have gh:=(P3.old_alloc (P3.old_below HGd.out HZ.out) (.cells #[.int .i64 hk,.int .i64 hid,.int .i64 htx,.string hbody] 86))
         have q0:=cell_at gh 3
         have q1:=free_at gh 3
         have q2:=cell_at gh 5
         have q3:=free_at gh 5
         simp only[qqD,qqE,qqF] at q0 q2
         have HGh:=qh gh
         have HSh:=qh (P3.old_alloc (P3.old_below HSd.out HZ.out) (.cells #[.int .i64 hk,.int .i64 hid,.int .i64 htx,.string hbody] 86))
         have HPh:=qh (new_at w5 #[.int .i64 hk,.int .i64 hid,.int .i64 htx,.string hbody] 86)
         have HBl:=qh (grow (thenBelow HBd.out HZ.out) (.cells #[.int .i64 hk,.int .i64 hid,.int .i64 htx,.string hbody] 86))
         clear gh
         refine dOne 6 fun K hK=>?_
         go_simp
         refine hK.out _ _ ⟨cell_at (P3.old_set HSh.out (⟨gb,3,none⟩:Addr) HNe.out.symm (.slice (some ⟨w5.heap.size,0,none⟩) 1 1)) 0,cell_at (P3.old_set HSh.out (⟨gb,3,none⟩:Addr) HNe.out.symm (.slice (some ⟨w5.heap.size,0,none⟩) 1 1)) 1,cell_at (P3.old_set HSh.out (⟨gb,3,none⟩:Addr) HNe.out.symm (.slice (some ⟨w5.heap.size,0,none⟩) 1 1)) 2,cell_at (P3.old_set HSh.out (⟨gb,3,none⟩:Addr) HNe.out.symm (.slice (some ⟨w5.heap.size,0,none⟩) 1 1)) 3,cell_at (P3.old_set HSh.out (⟨gb,3,none⟩:Addr) HNe.out.symm (.slice (some ⟨w5.heap.size,0,none⟩) 1 1)) 4,cell_at (P3.old_set HSh.out (⟨gb,3,none⟩:Addr) HNe.out.symm (.slice (some ⟨w5.heap.size,0,none⟩) 1 1)) 5,cell_at (P3.old_set HSh.out (⟨gb,3,none⟩:Addr) HNe.out.symm (.slice (some ⟨w5.heap.size,0,none⟩) 1 1)) 6,cell_at (P3.old_set HSh.out (⟨gb,3,none⟩:Addr) HNe.out.symm (.slice (some ⟨w5.heap.size,0,none⟩) 1 1)) 7⟩ (fun hHeld=>?_)
         clear hK K
         try simp only[Act.put,qqA,qqB,qqC]
         have q4:=cell_at (set_at HGh.out 3 (.slice (some ⟨w5.heap.size,0,none⟩) 1 1)) 5
         have q5:=free_at (set_at HGh.out 3 (.slice (some ⟨w5.heap.size,0,none⟩) 1 1)) 5
         (try simp only[qqD,qqE,qqF] at q4)
         refine tk 7 ?_
         refine dOne 8 fun K hK=>?_
         go_simp
         refine hK.out _ _ ⟨cell_at (P3.old_set (P3.old_set HSh.out (⟨gb,3,none⟩:Addr) HNe.out.symm (.slice (some ⟨w5.heap.size,0,none⟩) 1 1)) (⟨gb,5,none⟩:Addr) HNe.out.symm (.bool ae)) 0,cell_at (P3.old_set (P3.old_set HSh.out (⟨gb,3,none⟩:Addr) HNe.out.symm (.slice (some ⟨w5.heap.size,0,none⟩) 1 1)) (⟨gb,5,none⟩:Addr) HNe.out.symm (.bool ae)) 1,cell_at (P3.old_set (P3.old_set HSh.out (⟨gb,3,none⟩:Addr) HNe.out.symm (.slice (some ⟨w5.heap.size,0,none⟩) 1 1)) (⟨gb,5,none⟩:Addr) HNe.out.symm (.bool ae)) 2,cell_at (P3.old_set (P3.old_set HSh.out (⟨gb,3,none⟩:Addr) HNe.out.symm (.slice (some ⟨w5.heap.size,0,none⟩) 1 1)) (⟨gb,5,none⟩:Addr) HNe.out.symm (.bool ae)) 3,cell_at (P3.old_set (P3.old_set HSh.out (⟨gb,3,none⟩:Addr) HNe.out.symm (.slice (some ⟨w5.heap.size,0,none⟩) 1 1)) (⟨gb,5,none⟩:Addr) HNe.out.symm (.bool ae)) 4,cell_at (P3.old_set (P3.old_set HSh.out (⟨gb,3,none⟩:Addr) HNe.out.symm (.slice (some ⟨w5.heap.size,0,none⟩) 1 1)) (⟨gb,5,none⟩:Addr) HNe.out.symm (.bool ae)) 5,cell_at (P3.old_set (P3.old_set HSh.out (⟨gb,3,none⟩:Addr) HNe.out.symm (.slice (some ⟨w5.heap.size,0,none⟩) 1 1)) (⟨gb,5,none⟩:Addr) HNe.out.symm (.bool ae)) 6,cell_at (P3.old_set (P3.old_set HSh.out (⟨gb,3,none⟩:Addr) HNe.out.symm (.slice (some ⟨w5.heap.size,0,none⟩) 1 1)) (⟨gb,5,none⟩:Addr) HNe.out.symm (.bool ae)) 7⟩ (fun hHeld=>?_)
         clear hK K
         try simp only[Act.put,qqA,qqB,qqC]
         refine wpAnyH_done (by kernel_rfl) ?_ _
         clear q0 q1 q2 q3 q4 q5 hHeld
         have hfin:=HFin.out _ _ HBl.out HGh.out HPh.out (by first|exact Nat.le_refl _|exact (thenBelow HBd.out HZ.out).size)
         have HFn:=qh hfin
         clear hfin
         go_wp2
         go_roundw
         case rel=>exact .inr (.inr ⟨by go_num,HFn⟩)
         case measure=>first|decide|simp[RowKit.intOf]
       ·exact hF.elim
       ·obtain⟨vo,ae,hT⟩:=hT.out
        obtain⟨o1,o2,o3,rfl⟩:=hT.slice
        have HT:=qh hT
        have y0:=cell_at hT.box 0
        have y1:=cell_at hT.box 1
        have y2:=cell_at hT.box 2
        have y3:=cell_at hT.box 3
        have y4:=cell_at hT.box 4
        have y5:=cell_at hT.box 5
        simp only[qqD,qqE,qqF] at y0 y1 y2 y3 y4 y5
        clear hT s0 s1 s2 s3 s4 s5 s6 s7
        go_wp2_with (go_at_call 89;(with_reducible refine (HT.out.call (Below.refl _ _)).mono ?_);rintro e w6 ⟨r,G',rfl,g1,g2,g3⟩;have HWn:=qh g1;have HSm:=qh g2;have HR:=qh g3;clear g1 g2 g3)
        go_ret2
        first
         | exact⟨r,G',rfl,HWn.out,HSm.out,HR.out⟩
         | exact⟨r,rfl,G',HWn.out,HSm.out,HR.out⟩
end Go.Proofs.YtjepgclnbbpnaaaGreat.P12
namespace Go.Proofs.YtjepgclnbbpnaaaGreat.P12
open Go Go.RowKit Go.Lib PK
open P11 (Pg cellsP PgsIn)
open P9 (It kb kb_trans RightI)
theorem CAt.not_node{w:World}{G:Cg}(h:CAt w G){b:Nat}{cs:Array Value}(hb:w.heap[b]?=some (.cells cs 80 (0,0))):¬ G.S b:=fun hk=>by
 rcases hk with hk|hk|hk
 ·obtain⟨cs',t,e,ht⟩:=h.pg.cells_ hk
  rw[hb] at e
  cases e
  rcases ht with ht|ht|ht <;> cases ht
 ·rcases h.sk.kinds hk with ⟨cs',t,e,ht⟩|⟨es,c,e⟩
  ·rw[hb] at e
   cases e
   rcases ht with ht|ht <;> cases ht
  ·rw[hb] at e
   cases e
 ·obtain⟨cs',t,e,ht⟩:=h.ch.kinds hk
  rw[hb] at e
  cases e
  rcases ht with ht|ht|ht <;> cases ht
theorem own_block{lo:Nat}{w:World}{g n c:Nat}{l:List P10.It}(h:P10.OwnI lo w (.slice (some ⟨g,0,none⟩) n c) l):∃ cs,w.heap[g]?=some (.cells cs 106 (0,0)):=row_kind h.1 rfl
theorem CAt.not_kid{w:World}{G:Cg}(h:CAt w G){b:Nat}{cs:Array Value}(hb:w.heap[b]?=some (.cells cs 106 (0,0))):¬ G.S b:=fun hk=>h.notT none b cs 106 hk ⟨.inr rfl,by simp⟩ hb
theorem up_tail{w W5 W6 W7:World}{G0 G5:Cg}{M0:PM}{D:Nat}{root:Int}{ids:List Int}{L':List It}{gr:Bool}{m lo g5 n5 c5:Nat}{R:List P10.It}{ch':Bool}(h0:CAt w G0)(hw:Went w W5 G0 G5)(hs:SameG G0 G5)(hup:UpL M0 D root G0.key ids L' gr G0.ps m G5 (.tw R) ch')
  (hown:P10.OwnI lo W6 (.slice (some ⟨g5,0,none⟩) n5 c5) R) (hlo:w.heap.size≤lo) (f6:P3.Fr (·=g5) W5 W6) (hg5:∃ cs,W5.heap[g5]?=some (.cells cs 106 (0,0))) (k:Below W6.heap.size W6 W7) (c0 c1 c2:Value) (hnb:W7.heap[w.heap.size]?=some (.cells #[c0,c1,c2] 80 (0,0))) :
  UpR w (((W7.setCell ⟨w.heap.size,0,none⟩ (.int .i64 4)).setCell ⟨w.heap.size,1,none⟩ (.slice none 0 0)).setCell ⟨w.heap.size,2,none⟩ (.slice (some ⟨g5,0,none⟩) n5 c5)) G0 M0 D root ids L' gr m G5 (.tw R) (.slice none 0 0) (.slice (some ⟨g5,0,none⟩) n5 c5) ch':=by
 obtain⟨cs5,hg5⟩:=hg5
 have hgl:w.heap.size≤g5:=Nat.le_trans hlo (hown.1.lt g5 rfl).1
 have hw6:=hw.ext h0 hs.ps f6 fun j hj=>⟨by omega,by rw[hj];exact hw.at_.not_kid hg5⟩
 have hw7:=hw6.then k
 have f7:P3.Fr (·=w.heap.size) W7 (((W7.setCell ⟨w.heap.size,0,none⟩ (.int .i64 4)).setCell ⟨w.heap.size,1,none⟩ (.slice none 0 0)).setCell ⟨w.heap.size,2,none⟩ (.slice (some ⟨g5,0,none⟩) n5 c5)):=((fr_set W7 _ 0 _).trans (fr_set _ _ 1 _)).trans (fr_set _ _ 2 _)
 have hw8:=hw7.ext h0 hs.ps f7 fun j hj=>⟨by omega,by rw[hj];exact hw7.at_.not_node hnb⟩
 have hbx:=set_at (set_at (set_at hnb 0 (.int .i64 4)) 1 (.slice none 0 0)) 2 (.slice (some ⟨g5,0,none⟩) n5 c5)
 obtain⟨cs7,hk7⟩:=own_block (owns_below hown.1 k |> fun h=>(⟨h,hown.2⟩:P10.OwnI lo W7 (.slice (some ⟨g5,0,none⟩) n5 c5) R))
 have hne:g5≠w.heap.size:=fun e=>by
  rw[e,hnb] at hk7
  cases hk7
 have ho8:P10.OwnI lo (((W7.setCell ⟨w.heap.size,0,none⟩ (.int .i64 4)).setCell ⟨w.heap.size,1,none⟩ (.slice none 0 0)).setCell ⟨w.heap.size,2,none⟩ (.slice (some ⟨g5,0,none⟩) n5 c5)) (.slice (some ⟨g5,0,none⟩) n5 c5) R:=
  ⟨owns_fr (owns_below hown.1 k) f7 fun j hj e=>hne (by rw[← e];exact Option.some.inj hj),hown.2⟩
 exact⟨hw8,hs,hup,⟨rfl,KdT.own ho8 fun _ e=>by cases e⟩,hbx⟩
end Go.Proofs.YtjepgclnbbpnaaaGreat.P12
