/-
  Texts of the proofs of SaidPlays12.
-/
import Derived.Test.YtjepgclnbbpnaaaGreatMr30
set_option linter.unusedVariables false
set_option linter.unusedSimpArgs false
set_option maxHeartbeats 8000000
set_option maxRecDepth 100000
namespace Go.Proofs.YtjepgclnbbpnaaaGreat.P12
open Go Go.RowKit Go.Lib PK
open P11 (Pg cellsP PgsIn)
open P9 (It kb kb_trans RightI)
def gmax(gr:Bool)(D:Nat):Nat:=(if gr then 1 else 2)*D
inductive UpL (M0:PM) (D:Nat) (root:Int) (key:ByteArray) (ids:List Int) (L':List It) (gr:Bool) (ps:List Sp):Nat→Cg→Nd→Bool→Prop where
 | low {G:Cg} {nd:Nd} {d:Nat} (T:TopS M0 ids L' (gmax gr D) d nd [] [] G) (hk:nd.kind=3):UpL M0 D root key ids L' gr ps 0 G nd true
 | way {G:Cg} {nd:Nd} {ch:Bool} {fs:List Fr} {d:Nat} {id:Int} {la lb:List It} {ia ib:List Int} {lold:List It} {iold:List Int} {l':List It} {iall:List Int} {here:Sp} (U:UpO M0 D root key ids L' gr fs d id la lb ia ib lold iold l' iall G)
   (S:St (setsM G.M G.sets) d id nd ch l' iall) (hh:ps[fs.length]?=some here) (ho:HereOk M0 d id here) (ha:All2 (StTw M0) (ps.take fs.length) fs.reverse) (hg:gr=true→ch=true→here.nd.len≤nd.len) (hp:nd.kind=4→0 < nd.len):UpL M0 D root key ids L' gr ps (fs.length+1) G nd ch
structure UpS (M0:PM) (D:Nat) (root:Int) (key:ByteArray) (ids:List Int) (L':List It) (gr:Bool) (ps:List Sp) (m:Nat) (G:Cg) (nd:Nd) (ch:Bool) (here above:Sp) (ks:List P10.It) (B:Nat):Prop where
 hh:ps[m+1]?=some here
 ha:ps[m]?=some above
 ndE:above.nd=.tw ks
 at_:above.at_=(B:Int)
 ln:2≤ks.length∧ks.length≤231
 same:ch=false→∀ ch':Bool,(ch'=false↔bare key ks=ks)→UpL M0 D root key ids L' gr ps (m+1) G (.tw (bare key ks)) ch'
 grp:ch=true→GroupOk G nd here ks B
 kept:ch=true→∀ (j:Nd) (olds:List Pg) (at_:Nat) (sn':List Int),GOut G ks B here.pg nd j olds at_→SeenBy ks sn' olds.length nd.len here.nd.len→
  ∃ k0,KidsOk (G.saw sn') ks j olds at_ k0∧∀ (qs:List Nd) (vl' vm' vs' vo':Value),PartsOf j qs→∃ R0,R0=sew ks (kfold (splitM G.M qs.length olds).1 0 ⟨G.M,G.sets,G.made,[]⟩ qs).ws at_ olds.length k0.key∧(0 < R0.length∧R0.length≤1000)∧
   ∀ ch':Bool,(ch'=false↔bare key R0=ks)→UpL M0 D root key ids L' gr ps (m+1) ((G.saw sn').kept vl' vm' vs' vo' (kfold (splitM G.M qs.length olds).1 0 ⟨G.M,G.sets,G.made,[]⟩ qs) (splitM G.M qs.length olds).2) (.tw (bare key R0)) ch'
theorem upn_up{M0:PM}{D:Nat}{root:Int}{key:ByteArray}{ids:List Int}{L':List It}{gr:Bool}{f:Fr}{fs:List Fr}{d:Nat}{G':Cg}{R:List P10.It}{ps:List Sp}{p:Sp}(h:Upn M0 D root key ids L' gr f fs (d+2) G' R)(hp:StTw M0 p f)(ht:twigAt M0 f.id f.kids)(hi:ps[fs.length]?=some p)
  (ha:All2 (StTw M0) (ps.take fs.length) fs.reverse) (ch:Bool) (hc:ch=false↔R=f.kids):UpL M0 D root key ids L' gr ps (fs.length+1) G' (.tw R) ch:=by
 obtain⟨la,lb,ia,ib,lold,iold,l',iall,h1,h2⟩:=h.st ch hc
 refine .way h1 h2 hi (tw_here hp ht) ha (fun hg _=>?_) fun _=>h.len.1
 rw[hp.1]
 exact h.grow hg
theorem UpL.step{M0:PM}{D:Nat}{root:Int}{key:ByteArray}{ids:List Int}{L':List It}{gr:Bool}{ps:List Sp}{m:Nat}{G:Cg}{nd:Nd}{ch:Bool}(h:UpL M0 D root key ids L' gr ps (m+2) G nd ch):∃ here above ks B,UpS M0 D root key ids L' gr ps m G nd ch here above ks B:=by
 obtain⟨n,hn⟩:∃ n,n=m+2:=⟨_,rfl⟩
 rw[← hn] at h
 cases h with
 | low T hk=>omega
 | @way _ _ _ fs d id la lb ia ib lold iold l' iall here U S hh ho ha hg hp=>
  cases fs with
  | nil=>simp at hn
  | cons f fs=>
   obtain rfl:m=fs.length:=by rw[List.length_cons] at hn;omega
   rw[List.reverse_cons] at ha
   obtain⟨ps',p,e1,e2,e3⟩:=ha.snoc
   have hl:=e2.len
   rw[List.length_reverse] at hl
   have hpi:ps[fs.length]?=some p:=by
    have h1:(ps.take (f::fs).length)[fs.length]?=some p:=by
     rw[e1,List.getElem?_append_right (by omega),hl,Nat.sub_self]
     rfl
    rwa[List.getElem?_take,if_pos (by simp)] at h1
   have htk:ps.take fs.length=ps':=by
    have h1:(ps.take (f::fs).length).take fs.length=ps':=by rw[e1,← hl,List.take_left' rfl]
    rwa[List.take_take,Nat.min_eq_left (by simp)] at h1
   rw[← htk] at e2
   have ht:twigAt M0 f.id f.kids:=U.way.2.1
   obtain⟨t1,t2,_⟩:=twig_ok ht
   obtain⟨e,rfl⟩:∃ e,d=e+1:=⟨d - 1,by have:=U.old.pos;omega⟩
   refine⟨here,p,f.kids,f.a.length,⟨hh,hpi,e3.1,e3.2.1,⟨t1,t2⟩,fun hc ch' hch=>?_,fun hc=>?_,fun hc j olds at_ sn' hgo hsb=>?_⟩⟩
   ·rcases S with ⟨_,hS⟩|⟨hS,_⟩
    ·exact upn_up (U.stays hS) e3 ht hpi e2 ch' hch
    ·rw[hc] at hS
     cases hS
   ·rcases S with ⟨hS,_⟩|⟨_,i',rfl,hS⟩
    ·rw[hc] at hS
     cases hS
    ·exact U.groupOk hS ho
   ·rcases S with ⟨hS,_⟩|⟨_,i',rfl,hS⟩
    ·rw[hc] at hS
     cases hS
    ·obtain⟨k0,g1,g2⟩:=U.kept hS ho (fun h=>hg h hc) hgo hsb
     refine⟨k0,g1,fun qs vl' vm' vs' vo' hq=>?_⟩
     have g3:=g2 qs vl' vm' vs' vo' hq
     refine⟨_,rfl,?_,fun ch' hch=>upn_up g3 e3 ht hpi e2 ch' hch⟩
     have g4:=g3.len
     rw[bare_len] at g4
     exact g4
theorem UpL.stay{M0:PM}{D:Nat}{root:Int}{key:ByteArray}{ids:List Int}{L':List It}{gr:Bool}{ps:List Sp}{m:Nat}{G:Cg}{nd:Nd}(h:UpL M0 D root key ids L' gr ps m G nd false)(hm:m≤1):TopR M0 ids L' (gmax gr D) root G:=by
 cases h with
 | @way _ _ _ fs d id la lb ia ib lold iold l' iall here U S hh ho ha hg hp=>
  obtain rfl:fs=[]:=List.eq_nil_of_length_eq_zero (by omega)
  have hdp:=U.deep
  have hgl:=U.gonel
  have hsl:=U.setl
  have hpm:=U.perm
  obtain⟨rfl,rfl,rfl,rfl,hC⟩:=U.top
  rcases S with ⟨_,hS⟩|⟨hS,_⟩
  ·obtain⟨e,rfl⟩:∃ e,d=e+1:=⟨d - 1,by have:=U.old.pos;omega⟩
   refine⟨hC,⟨e+1,iall,hS,hpm⟩,?_,by omega,?_⟩
   ·unfold gmax
    cases gr <;> simp only[if_true,if_false,Bool.false_eq_true] at hgl ⊢ <;> omega
   ·unfold gmax
    cases gr <;> simp only[if_true,if_false,Bool.false_eq_true] <;> omega
  ·cases hS
theorem UpL.top{M0:PM}{D:Nat}{root:Int}{key:ByteArray}{ids:List Int}{L':List It}{gr:Bool}{ps:List Sp}{m:Nat}{G:Cg}{nd:Nd}(h:UpL M0 D root key ids L' gr ps m G nd true)(hm:m≤1) :
  (nd.kind=4→0 < nd.len)∧((m=0∧nd.kind=3∧∃ d,TopS M0 ids L' (gmax gr D) d nd [] [] G)∨(m=1∧∃ here i',ps[0]?=some here∧here.nd.len≤1000∧TopS M0 ids L' (gmax gr D) D nd i' [here.pg] G)):=by
 cases h with
 | low T hk=>exact⟨fun h=>(by rw[hk] at h;cases h),.inl ⟨rfl,hk,_,T⟩⟩
 | @way _ _ _ fs d id la lb ia ib lold iold l' iall here U S hh ho ha hg hp=>
  obtain rfl:fs=[]:=List.eq_nil_of_length_eq_zero (by omega)
  have hdp:=U.deep
  have hgl:=U.gonel
  have hsl:=U.setl
  have hpm:=U.perm
  have hpos:=U.old.pos
  have hold:=U.old
  obtain⟨rfl,rfl,rfl,rfl,hC⟩:=U.top
  rcases S with ⟨hS,_⟩|⟨_,i',rfl,hS⟩
  ·cases hS
  ·have hl2:here.nd.len≤231:=Nat.le_trans (Nd.len_sum _) ho.good.sum
   refine⟨hp,.inr ⟨rfl,here,i',hh,by omega,⟨hC,hS,?_,?_,Nat.le_refl _,?_,?_,?_⟩⟩⟩
   ·rw[List.map_cons,List.map_nil,ho.id]
    exact hpm
   ·intro p hpp
    cases List.mem_singleton.1 hpp
    exact⟨by rw[ho.k,ho.kind,hS.kind_d],by rw[ho.id];exact head_mem hold⟩
   ·show G.sets.length+600*1≤8000
    have:=Nat.mul_le_mul_left 600 hdp
    omega
   ·show G.gone.length+1≤gmax gr d
    unfold gmax
    cases gr <;> simp only[if_true,if_false,Bool.false_eq_true] at hgl ⊢ <;> omega
   ·unfold gmax
    cases gr <;> simp only[if_true,if_false,Bool.false_eq_true] <;> omega
end Go.Proofs.YtjepgclnbbpnaaaGreat.P12
namespace Go.Proofs.YtjepgclnbbpnaaaGreat.P12
open PK (qqA qqB qqC qqD qqE qqF tk tkS dOne qh)
open Go Go.RowKit Go.Lib PK
open P11 (Pg cellsP PgsIn)
open P9 (It kb kb_trans RightI)
structure UpR (w wr:World) (G0:Cg) (M0:PM) (D:Nat) (root:Int) (ids:List Int) (L':List It) (gr:Bool) (m:Nat) (G:Cg) (nd:Nd) (vi vk:Value) (ch:Bool):Prop where
 went:Went w wr G0 G
 same:SameG G0 G
 up:UpL M0 D root G0.key ids L' gr G0.ps m G nd ch
 ndt:NdT wr none vi vk nd
 box:wr.heap[w.heap.size]?=some (.cells #[.int .i64 nd.kind,vi,vk] 80 (0,0))
theorem UpR.below{w wr:World}{G0:Cg}{M0:PM}{D:Nat}{root:Int}{ids:List Int}{L':List It}{gr:Bool}{m:Nat}{G:Cg}{nd:Nd}{vi vk:Value}{ch:Bool}(h:UpR w wr G0 M0 D root ids L' gr m G nd vi vk ch){W:World}(k:Below wr.heap.size wr W):UpR w W G0 M0 D root ids L' gr m G nd vi vk ch:=
 ⟨h.went.then k,h.same,h.up,h.ndt.keep (FrT.of k),P3.old_below h.box k⟩
structure UpT (w wr:World) (G0:Cg) (M0:PM) (D:Nat) (ids:List Int) (L':List It) (gr:Bool) (G:Cg) (gb:Nat) (K9:Int) (vi vk vo:Value) (ae:Bool):Prop where
 went:Went w wr G0 G
 same:SameG G0 G
 box:wr.heap[gb]?=some (.cells #[.int .i64 K9,vi,vk,vo,.int .i64 0,.bool ae] 127 (0,0))
 top:∃ nd d i' olds,nd.kind=K9∧NdT wr none vi vk nd∧OldIn wr G vo olds∧TopS M0 ids L' (gmax gr D) d nd i' olds G∧(nd.kind=4→0 < nd.len∧olds.length=1)
theorem UpT.call{w wr:World}{G0:Cg}{M0:PM}{D:Nat}{ids:List Int}{L':List It}{gr:Bool}{G:Cg}{gb:Nat}{K9:Int}{vi vk vo:Value}{ae:Bool}(h:UpT w wr G0 M0 D ids L' gr G gb K9 vi vk vo ae){W:World}(k:Below wr.heap.size wr W) :
  Calls Tryz.prog 89 #[.pointer (some ⟨G0.c,0,none⟩),.agg #[.int .i64 K9,vi,vk,vo,.int .i64 0,.bool ae]] W fun e w'=>∃ r G',e=.returned (.tuple #[.int .i64 r,.int .i64 0])∧Went w w' G0 G'∧SameG G0 G'∧TopR M0 ids L' (gmax gr D) r G':=by
 obtain⟨nd,d,i',olds,rfl,h1,h2,h3,h4⟩:=h.top
 have hw:=h.went.then k
 have hc:=top_any W G M0 ids L' (gmax gr D) d nd i' olds vi vk vo 0 ae hw.at_ (h1.keep (FrT.of k)) (h2.went (Went.below h.went.at_ k)) h3 h4
 rw[h.same.c] at hc
 refine hc.mono ?_
 rintro e w' ⟨r,G',rfl,g1,g2,g3⟩
 exact⟨r,G',rfl,hw.trans g1,h.same.trans g2,g3⟩
theorem UpT.slice{w wr:World}{G0:Cg}{M0:PM}{D:Nat}{ids:List Int}{L':List It}{gr:Bool}{G:Cg}{gb:Nat}{K9:Int}{vi vk vo:Value}{ae:Bool}(h:UpT w wr G0 M0 D ids L' gr G gb K9 vi vk vo ae):∃ a n c,vo=.slice a n c:=by
 obtain⟨nd,d,i',olds,_,h1,h2,_⟩:=h.top
 obtain⟨a,c,e⟩:=h2.pgs.slice
 exact⟨a,_,c,e⟩
def up_cut:{ P:Prop // Wait P→∀ (w:World) (G0:Cg) (M0:PM) (D:Nat) (root:Int) (ids:List Int) (L':List It) (gr:Bool) (nd:Nd) (vi vk:Value) (h:CAt w G0) (hn:NdT w none vi vk nd) (hl:G0.ps.length≤12) (hU:UpL M0 D root G0.key ids L' gr G0.ps G0.ps.length G0 nd true),
  Calls Tryz.prog 69 #[.pointer (some ⟨G0.c,0,none⟩),.int .i64 root,nd.v vi vk] w fun e w'=>∃ r G',e=.returned (.tuple #[.int .i64 r,.int .i64 0])∧Went w w' G0 G'∧SameG G0 G'∧TopR M0 ids L' (gmax gr D) r G' }:=by
 refine⟨?PZ,fun hAll w G0 M0 D root ids L' gr nd vi vk h hn hl hU=>?body⟩
 case body=>
  obtain⟨wa,wc,hvw⟩:=h.sk.slice
  obtain⟨X,hX⟩:∃ X,X=w.alloc (.cells #[.int .i64 nd.kind,vi,vk] 80):=⟨_,rfl⟩
  have b0:Below w.heap.size w X:=by rw[hX];exact below_new _ _
  have r0:X.heap[w.heap.size]?=some (.cells #[.int .i64 nd.kind,vi,vk] 80 (0,0)):=by rw[hX];exact new_at _ _ _
  have U0:Hid (UpR w X G0 M0 D root ids L' gr G0.ps.length G0 nd vi vk true):=qh ⟨Went.below h b0,SameG.refl _,hU,hn.keep (FrT.of b0),r0⟩
  have hx:=h.below b0
  have c0:=cell_at hx.ch.obj 0
  have c1:=cell_at hx.sk.obj 1
  simp only[qqD,qqE,qqF] at c0 c1
  rw[hvw] at c1
  have HVw:=qh hvw
  have HH:=qh h
  obtain⟨N,hN⟩:∃ n,n=G0.ps.length:=⟨_,rfl⟩
  rw[← hN] at c1 hl U0 HVw
  have HN:=qh hN
  obtain⟨a1,n1,d1,a2,n2,d2,rfl,rfl,_⟩:=hn.lens
  obtain⟨K,hK⟩:∃ K,K=nd.kind:=⟨_,rfl⟩
  unfold Nd.v
  rw[← hK] at hX ⊢
  clear hvw b0 r0 hx hN hK h hn hU
  go_enter Tryz.func69,Tryz.ntmps69
  go_upto_region 1 with fail
  rw[← hX]
  clear hX
  go_wp2
  clear c0 c1
  go_loopw [8,9] (fun vway vch wr=>∃ (m:Nat) (G:Cg) (nd:Nd) (vi vk:Value) (ch:Bool),vway=.slice wa m wc∧vch=.bool ch∧m≤12∧Hid (UpR w wr G0 M0 D root ids L' gr m G nd vi vk ch)) (fun vway _ _=>slLen vway)
  case atStart=>exact⟨N,G0,nd,_,_,true,rfl,rfl,hl,U0⟩
  case round=>
   clear U0
   obtain⟨m,G,nd9,vi,vk,ch,rfl,rfl,hm,HU⟩:=hrel
   by_cases h1:1 < m
   ·rename_i R5 Q5 K5 A5
    clear R5
    revert wr w G0 M0 D root ids L' gr nd wa wc X N a1 n1 d1 a2 n2 d2 K Q5 K5 u6 u7 u10 u11 u12 u13 u14 u25 u26 u27 u28 u29 u30 u31 u32 u33 u34 u35 u36 u37 u38 u39 u40 u41 u42 u43 u44 u45 u46 u47 u48 u49 u50 u51 u52 u53 u54 u55 u56 u57 u58 u59 u60 u61 u62 u63 u64 u65 u66 u67 u68 u69 u70 u71 u72 u73 u74 u75 u76 u77 u78 u79 u80 u81 u82 u83 u84 u85 u86 u87 u88 u89 u90 u91 u92 m G nd9 vi vk ch
    exact hAll.out
   ·have k1:decide ((1:Int) < (m:Int))=false:=decide_eq_false (by omega)
    have k2:¬ ((1:Int) < (m:Int)):=by omega
    have k3:decide (1 < m)=false:=decide_eq_false h1
    cases ch
    case false=>
     have HR:=qh (HU.out.up.stay (by omega))
     have HWn:=qh HU.out.went
     have HSm:=qh HU.out.same
     clear HU
     go_wp2
     go_ret2
     first
      | exact⟨root,G,rfl,HWn.out,HSm.out,HR.out⟩
      | exact⟨root,rfl,G,HWn.out,HSm.out,HR.out⟩
    case true=>
     obtain⟨f1,f2,f3,f4,f5,f6,rfl,rfl,_⟩:=HU.out.ndt.lens
     obtain⟨K9,hK9⟩:∃ K,K=nd9.kind:=⟨_,rfl⟩
     have hb:=HU.out.box
     rw[← hK9] at hb
     have x0:=cell_at hb 0
     have x1:=cell_at hb 1
     have x2:=cell_at hb 2
     simp only[qqD,qqE,qqF] at x0 x1 x2
     have HK9:=qh hK9
     clear hb hK9
     obtain⟨hp4,htop⟩:=HU.out.up.top (by omega)
     have hgb:Below wr.heap.size wr (wr.alloc (.cells #[.int .i64 K9,.slice f1 f2 f3,.slice f4 f5 f6,.slice none 0 0,.int .i64 0,.bool false] 127)):=below_new _ _
     have hgn:(wr.alloc (.cells #[.int .i64 K9,.slice f1 f2 f3,.slice f4 f5 f6,.slice none 0 0,.int .i64 0,.bool false] 127)).heap[wr.heap.size]?=some (.cells #[.int .i64 K9,.slice f1 f2 f3,.slice f4 f5 f6,.slice none 0 0,.int .i64 0,.bool false] 127 (0,0)):=new_at _ _ _
     go_upto_region 19 with fail
     obtain⟨W1,hW1⟩:∃ W1,W1=wr.alloc (.cells #[.int .i64 K9,.slice f1 f2 f3,.slice f4 f5 f6,.slice none 0 0,.int .i64 0,.bool false] 127):=⟨_,rfl⟩
     obtain⟨gb,hgbe⟩:∃ g,g=wr.heap.size:=⟨_,rfl⟩
     rw[← hW1,← hgbe]
     rw[← hW1] at hgb hgn
     rw[← hgbe] at hgn
     have hgw:w.heap.size < gb:=by rw[hgbe];exact lt_of_block HU.out.box
     have HGw:=qh hgw
     have HGb:=qh hgbe
     have HB1:=qh hgb
     have HG1:=qh hgn
     have HTop:=qh htop
     have HP4:=qh hp4
     clear hW1 hgbe hgb hgn htop hp4 x0 x1 x2 hgw
     rcases (show m=0∨m=1 by omega) with rfl|rfl
     ·have hT:Hid (UpT w W1 G0 M0 D ids L' gr G gb K9 (.slice f1 f2 f3) (.slice f4 f5 f6) (.slice none 0 0) false):=by
       rcases HTop.out with ⟨_,hk3,d,T⟩|⟨h9,_⟩
       ·refine⟨HU.out.went.then HB1.out,HU.out.same,HG1.out,nd9,d,[],[],HK9.out.symm,HU.out.ndt.keep (FrT.of HB1.out),OldIn.nil _ _,T,fun h4=>?_⟩
        rw[hk3] at h4
        cases h4
       ·omega
      go_wp2
      go_loopw [100] (fun vi wr2=>vi=.int .i64 0∧wr2=W1) (fun _ _=>0)
      case atStart=>exact⟨rfl,rfl⟩
      case round=>
       obtain⟨rfl,rfl⟩:=hrel
       have y0:=cell_at HG1.out 0
       have y1:=cell_at HG1.out 1
       have y2:=cell_at HG1.out 2
       have y3:=cell_at HG1.out 3
       have y4:=cell_at HG1.out 4
       have y5:=cell_at HG1.out 5
       simp only[qqD,qqE,qqF] at y0 y1 y2 y3 y4 y5
       go_wp2_with (go_at_call 89;(with_reducible refine (hT.out.call (Below.refl _ _)).mono ?_);rintro e w6 ⟨r,G',rfl,g1,g2,g3⟩;have HWn:=qh g1;have HSm:=qh g2;have HR:=qh g3;clear g1 g2 g3)
       go_ret2
       first
        | exact⟨r,G',rfl,HWn.out,HSm.out,HR.out⟩
        | exact⟨r,rfl,G',HWn.out,HSm.out,HR.out⟩
     ·obtain⟨here,i',hps,hhl,T⟩:∃ here i',G0.ps[0]?=some here∧here.nd.len≤1000∧TopS M0 ids L' (gmax gr D) D nd9 i' [here.pg] G:=by
       rcases HTop.out with ⟨h9,_⟩|⟨_,h9⟩
       ·omega
       ·exact h9
      have HT9:=qh T
      clear HTop
      obtain⟨⟨hk,hid,htx,hbody⟩,hnd,hvi,hvk,hat⟩:=here
      have hsk:=(HU.out.went.then HB1.out).at_.sk
      rw[HU.out.same.vw,HU.out.same.ps,HVw.out] at hsk
      obtain⟨g,hwa,hcs⟩:=hsk.cells_ hps
      subst hwa
      have hnt:=hsk.nd _ (List.mem_of_getElem? hps)
      simp only at hnt hhl
      obtain⟨b1,m1,e1,b2,m2,e2,rfl,rfl,_⟩:=hnt.lens
      obtain⟨K2,hK2⟩:∃ K,K=hnd.kind:=⟨_,rfl⟩
      have hcs0:=hcs W1 (Below.refl _ _)
      have s0:=hcs0 0 _ rfl
      have s1:=hcs0 1 _ rfl
      have s2:=hcs0 2 _ rfl
      have s3:=hcs0 3 _ rfl
      have s4:=hcs0 4 _ rfl
      have s5:=hcs0 5 _ rfl
      have s6:=hcs0 6 _ rfl
      have s7:=hcs0 7 _ rfl
      simp only[Nat.zero_mul,Nat.zero_add] at s0 s1 s2 s3 s4 s5 s6 s7
      rw[← hK2] at s4
      have HHl:=qh hhl
      have HNt:=qh hnt
      have HK2:=qh hK2
      clear hsk hcs hcs0 hnt hK2 hhl
      go_wp2
      go_loopw [100] (fun vi wr2=>(vi=.int .i64 0∧wr2=W1)∨False∨(vi=.int .i64 1∧Hid (∃ vo ae,UpT w wr2 G0 M0 D ids L' gr G gb K9 (.slice f1 f2 f3) (.slice f4 f5 f6) vo ae))) (fun vi _=>1 - (RowKit.intOf vi).toNat)
      case atStart=>exact .inl ⟨rfl,rfl⟩
      case round=>
       rcases hrel with ⟨rfl,hw9⟩|hF|⟨rfl,hT⟩
       ·have hw9:=hw9.symm
        subst hw9
        go_upto_region 22 with fail
        obtain⟨W2,hW2⟩:∃ W2,W2=W1.alloc (.cells #[.int .i64 hk,.int .i64 hid,.int .i64 htx,.string hbody,.int .i64 K2,.slice b1 m1 e1,.slice b2 m2 e2,.int .i64 hat] 88):=⟨_,rfl⟩
        obtain⟨sb,hsb⟩:∃ b,b=W1.heap.size:=⟨_,rfl⟩
        rw[← hW2,← hsb]
        have hb2:Below W1.heap.size W1 W2:=by rw[hW2];exact below_new _ _
        have hs2:W2.heap[sb]?=some (.cells #[.int .i64 hk,.int .i64 hid,.int .i64 htx,.string hbody,.int .i64 K2,.slice b1 m1 e1,.slice b2 m2 e2,.int .i64 hat] 88 (0,0)):=by rw[hW2,hsb];exact new_at _ _ _
        have hne:gb≠sb:=by rw[hsb];have:=lt_of_block HG1.out;omega
        obtain⟨ae,hae⟩:∃ b,b=(Sp.mk ⟨hk,hid,htx,hbody⟩ hnd (.slice b1 m1 e1) (.slice b2 m2 e2) hat).atEnd:=⟨_,rfl⟩
        have HNe:=qh hne
        have HB2:=qh hb2
        have HA:Hid (∀ W,Below W2.heap.size W2 W→Calls Tryz.prog 88 #[.agg #[.int .i64 hk,.int .i64 hid,.int .i64 htx,.string hbody,.int .i64 K2,.slice b1 m1 e1,.slice b2 m2 e2,.int .i64 hat]] W fun e w'=>e=.returned (.bool ae)∧Below W.heap.size W w'):=fun W k=>by
         have h9:=atEnd_any W none (Sp.mk ⟨hk,hid,htx,hbody⟩ hnd (.slice b1 m1 e1) (.slice b2 m2 e2) hat) (HNt.out.keep ((FrT.of HB2.out).trans (FrT.of k))) (Nat.le_trans HHl.out (by decide))
         unfold Sp.v at h9
         simp only at h9
         rw[← hae,← HK2.out] at h9
         exact h9
        have HFin:Hid (∀ (W:World) (pb:Nat),Below W2.heap.size W2 W→W.heap[gb]?=some (.cells #[.int .i64 K9,.slice f1 f2 f3,.slice f4 f5 f6,.slice none 0 0,.int .i64 0,.bool false] 127 (0,0))→W.heap[pb]?=some (.cells #[.int .i64 hk,.int .i64 hid,.int .i64 htx,.string hbody] 86 (0,0))→W2.heap.size≤pb→∃ vo ae',UpT w ((W.setCell ⟨gb,3,none⟩ (.slice (some ⟨pb,0,none⟩) 1 1)).setCell ⟨gb,5,none⟩ (.bool ae)) G0 M0 D ids L' gr G gb K9 (.slice f1 f2 f3) (.slice f4 f5 f6) vo ae'):=fun W pb k hg hp hpb=>by
         have hgw:=HGw.out
         have k1:Below W1.heap.size W1 W:=thenBelow HB2.out k
         have hw1:=((HU.out.went.then HB1.out).then k1)
         have r1:=set_at hg 3 (.slice (some ⟨pb,0,none⟩) 1 1)
         have r2:=set_at r1 5 (.bool ae)
         have f1':P3.Fr (·=gb) W ((W.setCell ⟨gb,3,none⟩ (.slice (some ⟨pb,0,none⟩) 1 1)).setCell ⟨gb,5,none⟩ (.bool ae)):=(fr_set W gb 3 _).trans (fr_set _ gb 5 _)
         have hnG:¬ G.S gb:=fun e=>by have:=HU.out.went.at_.lt e;have:=HGb.out;omega
         have hpg:gb≠pb:=fun e=>by
          subst e
          rw[hg] at hp
          cases hp
         have hw2:=hw1.ext HH.out HU.out.same.ps f1' (fun k9 hk9=>⟨by omega,by rw[hk9];exact hnG⟩)
         have hnt2:NdT W none (.slice f1 f2 f3) (.slice f4 f5 f6) nd9:=(HU.out.ndt.keep (FrT.of HB1.out)).keep (FrT.of k1)
         have ft:FrT none W ((W.setCell ⟨gb,3,none⟩ (.slice (some ⟨pb,0,none⟩) 1 1)).setCell ⟨gb,5,none⟩ (.bool ae)):=FrT.ofFr f1' fun j' cs t hj hst e=>by
          subst hj
          rw[hg] at e
          cases e
          rcases hst.1 with h9|h9 <;> cases h9
         refine⟨_,_,hw2,HU.out.same,r2,nd9,D,i',[⟨hk,hid,htx,hbody⟩],HK9.out.symm,hnt2.keep ft,⟨pgs_one (p:=⟨hk,hid,htx,hbody⟩) (f1'.keep hp hpg.symm),fun j' hj'=>?_⟩,HT9.out,fun h4=>⟨HP4.out h4,rfl⟩⟩
         have hj2:pb=j':=Option.some.inj hj'
         subst hj2
         refine⟨fun e=>?_,lt_of_block (f1'.keep hp hpg.symm)⟩
         have h8:=HU.out.went.at_.lt e
         have h7:=HB1.out.size
         have h6:=HB2.out.size
         omega
        have HSd:Hid (W2.drew.heap[sb]?=some (.cells #[.int .i64 hk,.int .i64 hid,.int .i64 htx,.string hbody,.int .i64 K2,.slice b1 m1 e1,.slice b2 m2 e2,.int .i64 hat] 88 (0,0))):=qh hs2
        have HGd:Hid (W2.drew.heap[gb]?=some (.cells #[.int .i64 K9,.slice f1 f2 f3,.slice f4 f5 f6,.slice none 0 0,.int .i64 0,.bool false] 127 (0,0))):=qh (P3.old_below HG1.out HB2.out.drew)
        have HBd:Hid (Below W2.heap.size W2 W2.drew):=qh (Below.refl _ _).drew
        have HSn:Hid ((W2.drew.alloc (.cells #[.int .i64 hk,.int .i64 hid,.int .i64 htx,.string hbody] 86)).heap[sb]?=some (.cells #[.int .i64 hk,.int .i64 hid,.int .i64 htx,.string hbody,.int .i64 K2,.slice b1 m1 e1,.slice b2 m2 e2,.int .i64 hat] 88 (0,0))):=qh (P3.old_alloc HSd.out _)
        have HGn:Hid ((W2.drew.alloc (.cells #[.int .i64 hk,.int .i64 hid,.int .i64 htx,.string hbody] 86)).heap[gb]?=some (.cells #[.int .i64 K9,.slice f1 f2 f3,.slice f4 f5 f6,.slice none 0 0,.int .i64 0,.bool false] 127 (0,0))):=qh (P3.old_alloc HGd.out _)
        have HBn:Hid (Below W2.heap.size W2 (W2.drew.alloc (.cells #[.int .i64 hk,.int .i64 hid,.int .i64 htx,.string hbody] 86))):=qh (grow HBd.out _)
        have HBm:Hid (Below W2.heap.size W2 (W2.alloc (.cells #[.int .i64 hk,.int .i64 hid,.int .i64 htx,.string hbody] 86)).drew):=qh (below_new W2 _).drew
        have HPn:Hid ((W2.drew.alloc (.cells #[.int .i64 hk,.int .i64 hid,.int .i64 htx,.string hbody] 86)).heap[W2.heap.size]?=some (.cells #[.int .i64 hk,.int .i64 hid,.int .i64 htx,.string hbody] 86 (0,0))):=qh (new_at W2.drew #[.int .i64 hk,.int .i64 hid,.int .i64 htx,.string hbody] 86)
        clear hW2 hsb hb2 hs2 hne hae s0 s1 s2 s3 s4 s5 s6 s7
        refine wp_region_held_drew (S:=(fun W'=>W'.cell? ⟨sb,0,none⟩=some (.int .i64 hk)∧W'.cell? ⟨sb,1,none⟩=some (.int .i64 hid)∧W'.cell? ⟨sb,2,none⟩=some (.int .i64 htx)∧W'.cell? ⟨sb,3,none⟩=some (.string hbody)∧W'.cell? ⟨sb,4,none⟩=some (.int .i64 K2)∧W'.cell? ⟨sb,5,none⟩=some (.slice b1 m1 e1)∧W'.cell? ⟨sb,6,none⟩=some (.slice b2 m2 e2)∧W'.cell? ⟨sb,7,none⟩=some (.int .i64 hat))) (by kernel_rfl) ⟨cell_at HSd.out 0,cell_at HSd.out 1,cell_at HSd.out 2,cell_at HSd.out 3,cell_at HSd.out 4,cell_at HSd.out 5,cell_at HSd.out 6,cell_at HSd.out 7⟩ (fun hHeld=>?_)
        refine tk 0 ?_
        refine tk 1 ?_
        refine tk 3 ?_
        refine do_two 2 4 rfl rfl (by kernel_rfl) (by rfl) (by rfl) (fun K hK=>?_) (fun K hK=>?_)
        ·go_simp
         refine hK.out _ _ ⟨cell_at HSn.out 0,cell_at HSn.out 1,cell_at HSn.out 2,cell_at HSn.out 3,cell_at HSn.out 4,cell_at HSn.out 5,cell_at HSn.out 6,cell_at HSn.out 7⟩ (fun hHeld=>?_)
         clear hK K
         try simp only[Act.put,qqA,qqB,qqC]
         refine tk 5 ?_
         refine dOne 4 fun K hK=>?_
         go_simp
         go_at_call 88;(with_reducible refine (HA.out _ (by first|(with_reducible exact HBn.out)|(with_reducible exact HBm.out))).mono ?_);rintro e w5 ⟨rfl,hz⟩;have HZ:=qh hz;clear hz
         go_wp2_with fail
         refine hK.out _ _ ⟨cell_at (P3.old_below HSn.out HZ.out) 0,cell_at (P3.old_below HSn.out HZ.out) 1,cell_at (P3.old_below HSn.out HZ.out) 2,cell_at (P3.old_below HSn.out HZ.out) 3,cell_at (P3.old_below HSn.out HZ.out) 4,cell_at (P3.old_below HSn.out HZ.out) 5,cell_at (P3.old_below HSn.out HZ.out) 6,cell_at (P3.old_below HSn.out HZ.out) 7⟩ (fun hHeld=>?_)
         clear hK K
         try simp only[Act.put,qqA,qqB,qqC]
         have gh:=(P3.old_below HGn.out HZ.out)
         have q0:=cell_at gh 3
         have q1:=free_at gh 3
         have q2:=cell_at gh 5
         have q3:=free_at gh 5
         simp only[qqD,qqE,qqF] at q0 q2
         have HGh:=qh gh
         have HSh:=qh (P3.old_below HSn.out HZ.out)
         have HPh:=qh (P3.old_below HPn.out HZ.out)
         have HBl:=qh (thenBelow HBn.out HZ.out)
         clear gh
         refine dOne 6 fun K hK=>?_
         go_simp
         refine hK.out _ _ ⟨cell_at (P3.old_set HSh.out (⟨gb,3,none⟩:Addr) HNe.out.symm (.slice (some ⟨W2.heap.size,0,none⟩) 1 1)) 0,cell_at (P3.old_set HSh.out (⟨gb,3,none⟩:Addr) HNe.out.symm (.slice (some ⟨W2.heap.size,0,none⟩) 1 1)) 1,cell_at (P3.old_set HSh.out (⟨gb,3,none⟩:Addr) HNe.out.symm (.slice (some ⟨W2.heap.size,0,none⟩) 1 1)) 2,cell_at (P3.old_set HSh.out (⟨gb,3,none⟩:Addr) HNe.out.symm (.slice (some ⟨W2.heap.size,0,none⟩) 1 1)) 3,cell_at (P3.old_set HSh.out (⟨gb,3,none⟩:Addr) HNe.out.symm (.slice (some ⟨W2.heap.size,0,none⟩) 1 1)) 4,cell_at (P3.old_set HSh.out (⟨gb,3,none⟩:Addr) HNe.out.symm (.slice (some ⟨W2.heap.size,0,none⟩) 1 1)) 5,cell_at (P3.old_set HSh.out (⟨gb,3,none⟩:Addr) HNe.out.symm (.slice (some ⟨W2.heap.size,0,none⟩) 1 1)) 6,cell_at (P3.old_set HSh.out (⟨gb,3,none⟩:Addr) HNe.out.symm (.slice (some ⟨W2.heap.size,0,none⟩) 1 1)) 7⟩ (fun hHeld=>?_)
         clear hK K
         try simp only[Act.put,qqA,qqB,qqC]
         have q4:=cell_at (set_at HGh.out 3 (.slice (some ⟨W2.heap.size,0,none⟩) 1 1)) 5
         have q5:=free_at (set_at HGh.out 3 (.slice (some ⟨W2.heap.size,0,none⟩) 1 1)) 5
         (try simp only[qqD,qqE,qqF] at q4)
         refine tk 7 ?_
         refine dOne 8 fun K hK=>?_
         go_simp
         refine hK.out _ _ ⟨cell_at (P3.old_set (P3.old_set HSh.out (⟨gb,3,none⟩:Addr) HNe.out.symm (.slice (some ⟨W2.heap.size,0,none⟩) 1 1)) (⟨gb,5,none⟩:Addr) HNe.out.symm (.bool ae)) 0,cell_at (P3.old_set (P3.old_set HSh.out (⟨gb,3,none⟩:Addr) HNe.out.symm (.slice (some ⟨W2.heap.size,0,none⟩) 1 1)) (⟨gb,5,none⟩:Addr) HNe.out.symm (.bool ae)) 1,cell_at (P3.old_set (P3.old_set HSh.out (⟨gb,3,none⟩:Addr) HNe.out.symm (.slice (some ⟨W2.heap.size,0,none⟩) 1 1)) (⟨gb,5,none⟩:Addr) HNe.out.symm (.bool ae)) 2,cell_at (P3.old_set (P3.old_set HSh.out (⟨gb,3,none⟩:Addr) HNe.out.symm (.slice (some ⟨W2.heap.size,0,none⟩) 1 1)) (⟨gb,5,none⟩:Addr) HNe.out.symm (.bool ae)) 3,cell_at (P3.old_set (P3.old_set HSh.out (⟨gb,3,none⟩:Addr) HNe.out.symm (.slice (some ⟨W2.heap.size,0,none⟩) 1 1)) (⟨gb,5,none⟩:Addr) HNe.out.symm (.bool ae)) 4,cell_at (P3.old_set (P3.old_set HSh.out (⟨gb,3,none⟩:Addr) HNe.out.symm (.slice (some ⟨W2.heap.size,0,none⟩) 1 1)) (⟨gb,5,none⟩:Addr) HNe.out.symm (.bool ae)) 5,cell_at (P3.old_set (P3.old_set HSh.out (⟨gb,3,none⟩:Addr) HNe.out.symm (.slice (some ⟨W2.heap.size,0,none⟩) 1 1)) (⟨gb,5,none⟩:Addr) HNe.out.symm (.bool ae)) 6,cell_at (P3.old_set (P3.old_set HSh.out (⟨gb,3,none⟩:Addr) HNe.out.symm (.slice (some ⟨W2.heap.size,0,none⟩) 1 1)) (⟨gb,5,none⟩:Addr) HNe.out.symm (.bool ae)) 7⟩ (fun hHeld=>?_)
         clear hK K
         try simp only[Act.put,qqA,qqB,qqC]
         refine wpAnyH_done (by kernel_rfl) ?_ _
         clear q0 q1 q2 q3 q4 q5 hHeld
         have hfin:=HFin.out _ _ HBl.out HGh.out HPh.out (by first|exact Nat.le_refl _|exact (thenBelow HBd.out HZ.out).size)
         have HFn:=qh hfin
         clear hfin
         go_wp2
         go_roundw
         case rel=>exact .inr (.inr ⟨by go_num,HFn⟩)
         case measure=>first|decide|simp[RowKit.intOf]
        ·go_simp
         go_at_call 88;(with_reducible refine (HA.out _ HBd.out).mono ?_);rintro e w5 ⟨rfl,hz⟩;have HZ:=qh hz;clear hz
         go_wp2_with fail
         refine hK.out _ _ ⟨cell_at (P3.old_below HSd.out HZ.out) 0,cell_at (P3.old_below HSd.out HZ.out) 1,cell_at (P3.old_below HSd.out HZ.out) 2,cell_at (P3.old_below HSd.out HZ.out) 3,cell_at (P3.old_below HSd.out HZ.out) 4,cell_at (P3.old_below HSd.out HZ.out) 5,cell_at (P3.old_below HSd.out HZ.out) 6,cell_at (P3.old_below HSd.out HZ.out) 7⟩ (fun hHeld=>?_)
         clear hK K
         try simp only[Act.put,qqA,qqB,qqC]
         refine dOne 2 fun K hK=>?_
         go_simp
         refine hK.out _ _ ⟨cell_at (P3.old_alloc (P3.old_below HSd.out HZ.out) (.cells #[.int .i64 hk,.int .i64 hid,.int .i64 htx,.string hbody] 86)) 0,cell_at (P3.old_alloc (P3.old_below HSd.out HZ.out) (.cells #[.int .i64 hk,.int .i64 hid,.int .i64 htx,.string hbody] 86)) 1,cell_at (P3.old_alloc (P3.old_below HSd.out HZ.out) (.cells #[.int .i64 hk,.int .i64 hid,.int .i64 htx,.string hbody] 86)) 2,cell_at (P3.old_alloc (P3.old_below HSd.out HZ.out) (.cells #[.int .i64 hk,.int .i64 hid,.int .i64 htx,.string hbody] 86)) 3,cell_at (P3.old_alloc (P3.old_below HSd.out HZ.out) (.cells #[.int .i64 hk,.int .i64 hid,.int .i64 htx,.string hbody] 86)) 4,cell_at (P3.old_alloc (P3.old_below HSd.out HZ.out) (.cells #[.int .i64 hk,.int .i64 hid,.int .i64 htx,.string hbody] 86)) 5,cell_at (P3.old_alloc (P3.old_below HSd.out HZ.out) (.cells #[.int .i64 hk,.int .i64 hid,.int .i64 htx,.string hbody] 86)) 6,cell_at (P3.old_alloc (P3.old_below HSd.out HZ.out) (.cells #[.int .i64 hk,.int .i64 hid,.int .i64 htx,.string hbody] 86)) 7⟩ (fun hHeld=>?_)
         clear hK K
         try simp only[Act.put,qqA,qqB,qqC]
         refine tk 5 ?_
         have gh:=(P3.old_alloc (P3.old_below HGd.out HZ.out) (.cells #[.int .i64 hk,.int .i64 hid,.int .i64 htx,.string hbody] 86))
         have q0:=cell_at gh 3
         have q1:=free_at gh 3
         have q2:=cell_at gh 5
         have q3:=free_at gh 5
         simp only[qqD,qqE,qqF] at q0 q2
         have HGh:=qh gh
         have HSh:=qh (P3.old_alloc (P3.old_below HSd.out HZ.out) (.cells #[.int .i64 hk,.int .i64 hid,.int .i64 htx,.string hbody] 86))
         have HPh:=qh (new_at w5 #[.int .i64 hk,.int .i64 hid,.int .i64 htx,.string hbody] 86)
         have HBl:=qh (grow (thenBelow HBd.out HZ.out) (.cells #[.int .i64 hk,.int .i64 hid,.int .i64 htx,.string hbody] 86))
         clear gh
         refine dOne 6 fun K hK=>?_
         go_simp
         refine hK.out _ _ ⟨cell_at (P3.old_set HSh.out (⟨gb,3,none⟩:Addr) HNe.out.symm (.slice (some ⟨w5.heap.size,0,none⟩) 1 1)) 0,cell_at (P3.old_set HSh.out (⟨gb,3,none⟩:Addr) HNe.out.symm (.slice (some ⟨w5.heap.size,0,none⟩) 1 1)) 1,cell_at (P3.old_set HSh.out (⟨gb,3,none⟩:Addr) HNe.out.symm (.slice (some ⟨w5.heap.size,0,none⟩) 1 1)) 2,cell_at (P3.old_set HSh.out (⟨gb,3,none⟩:Addr) HNe.out.symm (.slice (some ⟨w5.heap.size,0,none⟩) 1 1)) 3,cell_at (P3.old_set HSh.out (⟨gb,3,none⟩:Addr) HNe.out.symm (.slice (some ⟨w5.heap.size,0,none⟩) 1 1)) 4,cell_at (P3.old_set HSh.out (⟨gb,3,none⟩:Addr) HNe.out.symm (.slice (some ⟨w5.heap.size,0,none⟩) 1 1)) 5,cell_at (P3.old_set HSh.out (⟨gb,3,none⟩:Addr) HNe.out.symm (.slice (some ⟨w5.heap.size,0,none⟩) 1 1)) 6,cell_at (P3.old_set HSh.out (⟨gb,3,none⟩:Addr) HNe.out.symm (.slice (some ⟨w5.heap.size,0,none⟩) 1 1)) 7⟩ (fun hHeld=>?_)
         clear hK K
         try simp only[Act.put,qqA,qqB,qqC]
         have q4:=cell_at (set_at HGh.out 3 (.slice (some ⟨w5.heap.size,0,none⟩) 1 1)) 5
         have q5:=free_at (set_at HGh.out 3 (.slice (some ⟨w5.heap.size,0,none⟩) 1 1)) 5
         (try simp only[qqD,qqE,qqF] at q4)
         refine tk 7 ?_
         refine dOne 8 fun K hK=>?_
         go_simp
         refine hK.out _ _ ⟨cell_at (P3.old_set (P3.old_set HSh.out (⟨gb,3,none⟩:Addr) HNe.out.symm (.slice (some ⟨w5.heap.size,0,none⟩) 1 1)) (⟨gb,5,none⟩:Addr) HNe.out.symm (.bool ae)) 0,cell_at (P3.old_set (P3.old_set HSh.out (⟨gb,3,none⟩:Addr) HNe.out.symm (.slice (some ⟨w5.heap.size,0,none⟩) 1 1)) (⟨gb,5,none⟩:Addr) HNe.out.symm (.bool ae)) 1,cell_at (P3.old_set (P3.old_set HSh.out (⟨gb,3,none⟩:Addr) HNe.out.symm (.slice (some ⟨w5.heap.size,0,none⟩) 1 1)) (⟨gb,5,none⟩:Addr) HNe.out.symm (.bool ae)) 2,cell_at (P3.old_set (P3.old_set HSh.out (⟨gb,3,none⟩:Addr) HNe.out.symm (.slice (some ⟨w5.heap.size,0,none⟩) 1 1)) (⟨gb,5,none⟩:Addr) HNe.out.symm (.bool ae)) 3,cell_at (P3.old_set (P3.old_set HSh.out (⟨gb,3,none⟩:Addr) HNe.out.symm (.slice (some ⟨w5.heap.size,0,none⟩) 1 1)) (⟨gb,5,none⟩:Addr) HNe.out.symm (.bool ae)) 4,cell_at (P3.old_set (P3.old_set HSh.out (⟨gb,3,none⟩:Addr) HNe.out.symm (.slice (some ⟨w5.heap.size,0,none⟩) 1 1)) (⟨gb,5,none⟩:Addr) HNe.out.symm (.bool ae)) 5,cell_at (P3.old_set (P3.old_set HSh.out (⟨gb,3,none⟩:Addr) HNe.out.symm (.slice (some ⟨w5.heap.size,0,none⟩) 1 1)) (⟨gb,5,none⟩:Addr) HNe.out.symm (.bool ae)) 6,cell_at (P3.old_set (P3.old_set HSh.out (⟨gb,3,none⟩:Addr) HNe.out.symm (.slice (some ⟨w5.heap.size,0,none⟩) 1 1)) (⟨gb,5,none⟩:Addr) HNe.out.symm (.bool ae)) 7⟩ (fun hHeld=>?_)
         clear hK K
         try simp only[Act.put,qqA,qqB,qqC]
         refine wpAnyH_done (by kernel_rfl) ?_ _
         clear q0 q1 q2 q3 q4 q5 hHeld
         have hfin:=HFin.out _ _ HBl.out HGh.out HPh.out (by first|exact Nat.le_refl _|exact (thenBelow HBd.out HZ.out).size)
         have HFn:=qh hfin
         clear hfin
         go_wp2
         go_roundw
         case rel=>exact .inr (.inr ⟨by go_num,HFn⟩)
         case measure=>first|decide|simp[RowKit.intOf]
       ·exact hF.elim
       ·obtain⟨vo,ae,hT⟩:=hT.out
        obtain⟨o1,o2,o3,rfl⟩:=hT.slice
        have HT:=qh hT
        have y0:=cell_at hT.box 0
        have y1:=cell_at hT.box 1
        have y2:=cell_at hT.box 2
        have y3:=cell_at hT.box 3
        have y4:=cell_at hT.box 4
        have y5:=cell_at hT.box 5
        simp only[qqD,qqE,qqF] at y0 y1 y2 y3 y4 y5
        clear hT s0 s1 s2 s3 s4 s5 s6 s7
        go_wp2_with (go_at_call 89;(with_reducible refine (HT.out.call (Below.refl _ _)).mono ?_);rintro e w6 ⟨r,G',rfl,g1,g2,g3⟩;have HWn:=qh g1;have HSm:=qh g2;have HR:=qh g3;clear g1 g2 g3)
        go_ret2
        first
         | exact⟨r,G',rfl,HWn.out,HSm.out,HR.out⟩
         | exact⟨r,rfl,G',HWn.out,HSm.out,HR.out⟩
end Go.Proofs.YtjepgclnbbpnaaaGreat.P12
