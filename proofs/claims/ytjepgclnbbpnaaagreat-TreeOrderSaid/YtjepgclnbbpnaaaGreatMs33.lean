/-
  Texts of the proofs of SaidOrd12.
-/
import Derived.Test.YtjepgclnbbpnaaaGreatMs32
set_option linter.unusedVariables false
set_option linter.unusedSimpArgs false
namespace Go.Proofs.YtjepgclnbbpnaaaGreat.P12
open Go Go.RowKit Go.Lib PK
open P11 (Pg cellsP PgsIn)
open P9 (It kb kb_trans RightI)
def gmax(gr:Bool)(D:Nat):Nat:=(if gr then 1 else 2)*D
inductive UpL (M0:PM) (D:Nat) (root:Int) (key:ByteArray) (ids:List Int) (L':List It) (gr:Bool) (ps:List Sp):Nat→Cg→Nd→Bool→Prop where
 | low {G:Cg} {nd:Nd} {d:Nat} (T:TopS M0 ids L' (gmax gr D) d nd [] [] G) (hk:nd.kind=3):UpL M0 D root key ids L' gr ps 0 G nd true
 | way {G:Cg} {nd:Nd} {ch:Bool} {fs:List Fr} {d:Nat} {id:Int} {la lb:List It} {ia ib:List Int} {lold:List It} {iold:List Int} {l':List It} {iall:List Int} {here:Sp} (U:UpO M0 D root key ids L' gr fs d id la lb ia ib lold iold l' iall G)
   (S:St (setsM G.M G.sets) d id nd ch l' iall) (hh:ps[fs.length]?=some here) (ho:HereOk M0 d id here) (ha:All2 (StTw M0) (ps.take fs.length) fs.reverse) (hg:gr=true→ch=true→here.nd.len≤nd.len) (hp:nd.kind=4→0 < nd.len):UpL M0 D root key ids L' gr ps (fs.length+1) G nd ch
structure UpS (M0:PM) (D:Nat) (root:Int) (key:ByteArray) (ids:List Int) (L':List It) (gr:Bool) (ps:List Sp) (m:Nat) (G:Cg) (nd:Nd) (ch:Bool) (here above:Sp) (ks:List P10.It) (B:Nat):Prop where
 hh:ps[m+1]?=some here
 ha:ps[m]?=some above
 ndE:above.nd=.tw ks
 at_:above.at_=(B:Int)
 ln:2≤ks.length∧ks.length≤231
 same:ch=false→∀ ch':Bool,(ch'=false↔bare key ks=ks)→UpL M0 D root key ids L' gr ps (m+1) G (.tw (bare key ks)) ch'
 grp:ch=true→GroupOk G nd here ks B
 kept:ch=true→∀ (j:Nd) (olds:List Pg) (at_:Nat) (sn':List Int),GOut G ks B here.pg nd j olds at_→SeenBy ks sn' olds.length nd.len here.nd.len→
  ∃ k0,KidsOk (G.saw sn') ks j olds at_ k0∧∀ (qs:List Nd) (vl' vm' vs' vo':Value),PartsOf j qs→∃ R0,R0=sew ks (kfold (splitM G.M qs.length olds).1 0 ⟨G.M,G.sets,G.made,[]⟩ qs).ws at_ olds.length k0.key∧(0 < R0.length∧R0.length≤1000)∧
   ∀ ch':Bool,(ch'=false↔bare key R0=ks)→UpL M0 D root key ids L' gr ps (m+1) ((G.saw sn').kept vl' vm' vs' vo' (kfold (splitM G.M qs.length olds).1 0 ⟨G.M,G.sets,G.made,[]⟩ qs) (splitM G.M qs.length olds).2) (.tw (bare key R0)) ch'
theorem upn_up{M0:PM}{D:Nat}{root:Int}{key:ByteArray}{ids:List Int}{L':List It}{gr:Bool}{f:Fr}{fs:List Fr}{d:Nat}{G':Cg}{R:List P10.It}{ps:List Sp}{p:Sp}(h:Upn M0 D root key ids L' gr f fs (d+2) G' R)(hp:StTw M0 p f)(ht:twigAt M0 f.id f.kids)(hi:ps[fs.length]?=some p)
  (ha:All2 (StTw M0) (ps.take fs.length) fs.reverse) (ch:Bool) (hc:ch=false↔R=f.kids):UpL M0 D root key ids L' gr ps (fs.length+1) G' (.tw R) ch:=by
 obtain⟨la,lb,ia,ib,lold,iold,l',iall,h1,h2⟩:=h.st ch hc
 refine .way h1 h2 hi (tw_here hp ht) ha (fun hg _=>?_) fun _=>h.len.1
 rw[hp.1]
 exact h.grow hg
theorem UpL.step{M0:PM}{D:Nat}{root:Int}{key:ByteArray}{ids:List Int}{L':List It}{gr:Bool}{ps:List Sp}{m:Nat}{G:Cg}{nd:Nd}{ch:Bool}(h:UpL M0 D root key ids L' gr ps (m+2) G nd ch):∃ here above ks B,UpS M0 D root key ids L' gr ps m G nd ch here above ks B:=by
 obtain⟨n,hn⟩:∃ n,n=m+2:=⟨_,rfl⟩
 rw[← hn] at h
 cases h with
 | low T hk=>omega
 | @way _ _ _ fs d id la lb ia ib lold iold l' iall here U S hh ho ha hg hp=>
  cases fs with
  | nil=>simp at hn
  | cons f fs=>
   obtain rfl:m=fs.length:=by rw[List.length_cons] at hn;omega
   rw[List.reverse_cons] at ha
   obtain⟨ps',p,e1,e2,e3⟩:=ha.snoc
   have hl:=e2.len
   rw[List.length_reverse] at hl
   have hpi:ps[fs.length]?=some p:=by
    have h1:(ps.take (f::fs).length)[fs.length]?=some p:=by
     rw[e1,List.getElem?_append_right (by omega),hl,Nat.sub_self]
     rfl
    rwa[List.getElem?_take,if_pos (by simp)] at h1
   have htk:ps.take fs.length=ps':=by
    have h1:(ps.take (f::fs).length).take fs.length=ps':=by rw[e1,← hl,List.take_left' rfl]
    rwa[List.take_take,Nat.min_eq_left (by simp)] at h1
   rw[← htk] at e2
   have ht:twigAt M0 f.id f.kids:=U.way.2.1
   obtain⟨t1,t2,_⟩:=twig_ok ht
   obtain⟨e,rfl⟩:∃ e,d=e+1:=⟨d - 1,by have:=U.old.pos;omega⟩
   refine⟨here,p,f.kids,f.a.length,⟨hh,hpi,e3.1,e3.2.1,⟨t1,t2⟩,fun hc ch' hch=>?_,fun hc=>?_,fun hc j olds at_ sn' hgo hsb=>?_⟩⟩
   ·rcases S with ⟨_,hS⟩|⟨hS,_⟩
    ·exact upn_up (U.stays hS) e3 ht hpi e2 ch' hch
    ·rw[hc] at hS
     cases hS
   ·rcases S with ⟨hS,_⟩|⟨_,i',rfl,hS⟩
    ·rw[hc] at hS
     cases hS
    ·exact U.groupOk hS ho
   ·rcases S with ⟨hS,_⟩|⟨_,i',rfl,hS⟩
    ·rw[hc] at hS
     cases hS
    ·obtain⟨k0,g1,g2⟩:=U.kept hS ho (fun h=>hg h hc) hgo hsb
     refine⟨k0,g1,fun qs vl' vm' vs' vo' hq=>?_⟩
     have g3:=g2 qs vl' vm' vs' vo' hq
     refine⟨_,rfl,?_,fun ch' hch=>upn_up g3 e3 ht hpi e2 ch' hch⟩
     have g4:=g3.len
     rw[bare_len] at g4
     exact g4
theorem UpL.stay{M0:PM}{D:Nat}{root:Int}{key:ByteArray}{ids:List Int}{L':List It}{gr:Bool}{ps:List Sp}{m:Nat}{G:Cg}{nd:Nd}(h:UpL M0 D root key ids L' gr ps m G nd false)(hm:m≤1):TopR M0 ids L' (gmax gr D) root G:=by
 cases h with
 | @way _ _ _ fs d id la lb ia ib lold iold l' iall here U S hh ho ha hg hp=>
  obtain rfl:fs=[]:=List.eq_nil_of_length_eq_zero (by omega)
  have hdp:=U.deep
  have hgl:=U.gonel
  have hsl:=U.setl
  have hpm:=U.perm
  obtain⟨rfl,rfl,rfl,rfl,hC⟩:=U.top
  rcases S with ⟨_,hS⟩|⟨hS,_⟩
  ·obtain⟨e,rfl⟩:∃ e,d=e+1:=⟨d - 1,by have:=U.old.pos;omega⟩
   refine⟨hC,⟨e+1,iall,hS,hpm⟩,?_,by omega,?_⟩
   ·unfold gmax
    cases gr <;> simp only[if_true,if_false,Bool.false_eq_true] at hgl ⊢ <;> omega
   ·unfold gmax
    cases gr <;> simp only[if_true,if_false,Bool.false_eq_true] <;> omega
  ·cases hS
theorem UpL.top{M0:PM}{D:Nat}{root:Int}{key:ByteArray}{ids:List Int}{L':List It}{gr:Bool}{ps:List Sp}{m:Nat}{G:Cg}{nd:Nd}(h:UpL M0 D root key ids L' gr ps m G nd true)(hm:m≤1) :
  (nd.kind=4→0 < nd.len)∧((m=0∧nd.kind=3∧∃ d,TopS M0 ids L' (gmax gr D) d nd [] [] G)∨(m=1∧∃ here i',ps[0]?=some here∧here.nd.len≤1000∧TopS M0 ids L' (gmax gr D) D nd i' [here.pg] G)):=by
 cases h with
 | low T hk=>exact⟨fun h=>(by rw[hk] at h;cases h),.inl ⟨rfl,hk,_,T⟩⟩
 | @way _ _ _ fs d id la lb ia ib lold iold l' iall here U S hh ho ha hg hp=>
  obtain rfl:fs=[]:=List.eq_nil_of_length_eq_zero (by omega)
  have hdp:=U.deep
  have hgl:=U.gonel
  have hsl:=U.setl
  have hpm:=U.perm
  have hpos:=U.old.pos
  have hold:=U.old
  obtain⟨rfl,rfl,rfl,rfl,hC⟩:=U.top
  rcases S with ⟨hS,_⟩|⟨_,i',rfl,hS⟩
  ·cases hS
  ·have hl2:here.nd.len≤231:=Nat.le_trans (Nd.len_sum _) ho.good.sum
   refine⟨hp,.inr ⟨rfl,here,i',hh,by omega,⟨hC,hS,?_,?_,Nat.le_refl _,?_,?_,?_⟩⟩⟩
   ·rw[List.map_cons,List.map_nil,ho.id]
    exact hpm
   ·intro p hpp
    cases List.mem_singleton.1 hpp
    exact⟨by rw[ho.k,ho.kind,hS.kind_d],by rw[ho.id];exact head_mem hold⟩
   ·show G.sets.length+600*1≤8000
    have:=Nat.mul_le_mul_left 600 hdp
    omega
   ·show G.gone.length+1≤gmax gr d
    unfold gmax
    cases gr <;> simp only[if_true,if_false,Bool.false_eq_true] at hgl ⊢ <;> omega
   ·unfold gmax
    cases gr <;> simp only[if_true,if_false,Bool.false_eq_true] <;> omega
end Go.Proofs.YtjepgclnbbpnaaaGreat.P12
