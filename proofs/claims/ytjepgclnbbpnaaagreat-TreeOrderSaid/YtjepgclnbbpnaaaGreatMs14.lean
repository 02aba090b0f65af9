/-
  Texts of the proofs of SaidOrd12.
-/
import Derived.Test.YtjepgclnbbpnaaaGreatMs11
import Derived.Test.YtjepgclnbbpnaaaGreatMs13
set_option linter.unusedVariables false
set_option linter.unusedSimpArgs false
set_option maxHeartbeats 8000000
set_option maxRecDepth 100000
namespace Go.Proofs.YtjepgclnbbpnaaaGreat.P12
open Go Go.RowKit Go.Lib PK
open P11 (Pg)
open P9 (Wide Plain)
inductive Nd where
 | lf (l:List P9.It)
 | tw (l:List P10.It)
def Nd.kind:Nd→Int
 | .lf _=>3
 | .tw _=>4
def Nd.len:Nd→Nat
 | .lf l=>l.length
 | .tw l=>l.length
def Nd.sum:Nd→Nat
 | .lf l=>P9.sumI l
 | .tw l=>P10.sumI l
def Nd.least:Nd→Nat
 | .lf _=>1
 | .tw _=>2
def Still(x:Option Nat)(k:Nat)(t:TypeId):Prop:=(t=29∨t=106)∧x≠some k
def Typed(w:World)(x:Option Nat)(t:TypeId)(v:Value):Prop:=∀ k,v.ownBlock=some k→x≠some k∧∃ cs,w.heap[k]?=some (.cells cs t (0,0))
structure ItT (w:World) (x:Option Nat) (v:Value) (l:List P9.It):Prop where
 its:P9.ItsIn w v l
 wide:Wide v
 plain:Plain v
 ty:Typed w x 29 v
structure KdT (w:World) (x:Option Nat) (v:Value) (l:List P10.It):Prop where
 its:P10.ItsIn w v l
 wide:Wide v
 plain:Plain v
 ty:Typed w x 106 v
def NdT(w:World)(x:Option Nat)(vi vk:Value):Nd→Prop
 | .lf l=>ItT w x vi l∧vk=.slice none 0 0
 | .tw l=>vi=.slice none 0 0∧KdT w x vk l
structure FrT (x:Option Nat) (w w':World):Prop where
 size:w.heap.size≤w'.heap.size
 blk:∀ (k:Nat) (cs:Array Value) (t:TypeId),Still x k t→w.heap[k]?=some (.cells cs t (0,0))→w'.heap[k]?=some (.cells cs t (0,0))
theorem FrT.refl(x:Option Nat)(w:World):FrT x w w:=⟨Nat.le_refl _,fun _ _ _ _ h=>h⟩
theorem FrT.trans{x:Option Nat}{a w w':World}(h:FrT x a w)(k:FrT x w w'):FrT x a w':=⟨Nat.le_trans h.size k.size,fun j cs t s e=>k.blk j cs t s (h.blk j cs t s e)⟩
theorem FrT.of{x:Option Nat}{w w':World}(h:Below w.heap.size w w'):FrT x w w':=⟨h.size,fun k cs t _ e=>by rw[h.block k (lt_of_block e)];exact e⟩
def NotT(x:Option Nat)(w:World)(S:Nat→Prop):Prop:=∀ (k:Nat) (cs:Array Value) (t:TypeId),S k→Still x k t→w.heap[k]?=some (.cells cs t (0,0))→False
theorem FrT.ofFr{x:Option Nat}{S:Nat→Prop}{w w':World}(h:P3.Fr S w w')(k:NotT x w S):FrT x w w':=⟨h.size,fun j cs t s e=>by
 rw[h.block j (lt_of_block e) fun hs=>k j cs t hs s e]
 exact e⟩
theorem elems_blk{κ:Kd}{w w':World}{v:Value}{l:List (List Value)}(h:ElemsIn κ w v l)(hs:w.heap.size≤w'.heap.size)(k:∀ j,v.ownBlock=some j→w'.heap[j]?=w.heap[j]?):ElemsIn κ w' v l:=by
 obtain⟨a,c,h1,hn,hl,hz,h2⟩:=h
 refine⟨a,c,h1,hn,hl,hz,fun h0=>?_⟩
 obtain⟨b,off,h3,h4,h5⟩:=h2 h0
 refine⟨b,off,h3,Nat.lt_of_lt_of_le h4 hs,fun i x hi j u hj=>?_⟩
 have e:=k b (by rw[h1,h3];rfl)
 rw[World.cell?_of_block (w:=w) (w':=w') (a:=⟨b,off+(i*κ.n+j),none⟩) e]
 exact h5 i x hi j u hj
theorem Typed.keep{w w':World}{x:Option Nat}{t:TypeId}{v:Value}(h:Typed w x t v)(ht:t=29∨t=106)(k:FrT x w w'):Typed w' x t v:=fun j hj=>by
 obtain⟨h1,cs,h2⟩:=h j hj
 exact⟨h1,cs,k.blk j cs t ⟨ht,h1⟩ h2⟩
theorem Typed.same{w w':World}{x:Option Nat}{t:TypeId}{v:Value}(h:Typed w x t v)(ht:t=29∨t=106)(k:FrT x w w'):∀ j,v.ownBlock=some j→w'.heap[j]?=w.heap[j]?:=fun j hj=>by
 obtain⟨h1,cs,h2⟩:=h j hj
 rw[k.blk j cs t ⟨ht,h1⟩ h2,h2]
theorem ItT.keep{w w':World}{x:Option Nat}{v:Value}{l:List P9.It}(h:ItT w x v l)(k:FrT x w w'):ItT w' x v l:=
 ⟨elems_blk h.its k.size (h.ty.same (.inl rfl) k),h.wide,h.plain,h.ty.keep (.inl rfl) k⟩
theorem KdT.keep{w w':World}{x:Option Nat}{v:Value}{l:List P10.It}(h:KdT w x v l)(k:FrT x w w'):KdT w' x v l:=
 ⟨elems_blk h.its k.size (h.ty.same (.inr rfl) k),h.wide,h.plain,h.ty.keep (.inr rfl) k⟩
theorem NdT.keep{w w':World}{x:Option Nat}{vi vk:Value}:∀ {nd:Nd},NdT w x vi vk nd→FrT x w w'→NdT w' x vi vk nd
 | .lf _,h,k=>⟨h.1.keep k,h.2⟩
 | .tw _,h,k=>⟨h.1,h.2.keep k⟩
theorem Typed.nil(w:World)(x:Option Nat)(t:TypeId):Typed w x t (.slice none 0 0):=fun k e=>by cases e
theorem plain_nil:Plain (.slice none 0 0):=fun A n c e=>by cases e
theorem wide_nil:Wide (.slice none 0 0):=⟨none,0,0,rfl,Nat.le_refl _,by omega⟩
theorem ItT.nil(w:World)(x:Option Nat):ItT w x (.slice none 0 0) []:=⟨(P9.OwnI.nil 0 w).its,wide_nil,plain_nil,Typed.nil _ _ _⟩
theorem KdT.nil(w:World)(x:Option Nat):KdT w x (.slice none 0 0) []:=⟨(P10.OwnI.nil 0 w).its,wide_nil,plain_nil,Typed.nil _ _ _⟩
theorem row_typed{w:World}{x:Option Nat}{lo e n m:Nat}{v:Value}{xs:List Value}(h:w.ownsRow lo e n v m xs)(hx:∀ k,x=some k→k < lo):Typed w x e v:=fun k hk=>by
 have h1:=h.lt k hk
 rcases h.2 with ⟨rfl,_⟩|⟨g,cap,cur,rfl,_,hg,_⟩
 ·cases hk
 ·cases hk
  refine⟨fun e2=>?_,cur,hg⟩
  have:=hx _ e2
  omega
theorem ownK_wide{lo:Nat}{w:World}{v:Value}{l:List P10.It}(h:P10.OwnI lo w v l):Wide v:=by
 rcases h.1.2 with ⟨rfl,e⟩|⟨g,cap,cur,rfl,_,_,h4,h5,_⟩
 ·exact⟨none,0,0,rfl,Nat.le_refl _,by omega⟩
 ·unfold maxLen at h5
  exact⟨_,_,_,rfl,h4,by omega⟩
theorem ownK_plain{lo:Nat}{w:World}{v:Value}{l:List P10.It}(h:P10.OwnI lo w v l):Plain v:=by
 rcases h.1.2 with ⟨rfl,e⟩|⟨g,cap,cur,rfl,_⟩
 ·intro A n c e
  cases e
 ·intro A n c e
  simp only[Value.slice.injEq,Option.some.injEq] at e
  exact⟨g,0,e.1.symm⟩
theorem ItT.own{lo:Nat}{w:World}{x:Option Nat}{v:Value}{l:List P9.It}(h:P9.OwnI lo w v l)(hx:∀ k,x=some k→k < lo):ItT w x v l:=⟨h.its,h.wide,h.plain,row_typed h.1 hx⟩
theorem KdT.own{lo:Nat}{w:World}{x:Option Nat}{v:Value}{l:List P10.It}(h:P10.OwnI lo w v l)(hx:∀ k,x=some k→k < lo):KdT w x v l:=⟨h.its,ownK_wide h,ownK_plain h,row_typed h.1 hx⟩
theorem NdT.lens{w:World}{x:Option Nat}{vi vk:Value}{nd:Nd}(h:NdT w x vi vk nd):∃ a n c a' n' c',vi=.slice a n c∧vk=.slice a' n' c'∧n+n'=nd.len∧n≤9223372036854775807∧n'≤9223372036854775807∧(n=0∨n'=0):=by
 cases nd with
 | lf l=>
  obtain⟨a,c,e⟩:=h.1.its.slice
  have:=h.1.its.len
  exact⟨a,_,c,none,0,0,e,h.2,by simp[Nd.len],this,by omega,.inr rfl⟩
 | tw l=>
  obtain⟨a,c,e⟩:=h.2.its.slice
  have:=h.2.its.len
  exact⟨none,0,0,a,_,c,h.1,e,by simp[Nd.len],by omega,this,.inl rfl⟩
def Nd.v(nd:Nd)(vi vk:Value):Value:=.agg #[.int .i64 nd.kind,vi,vk]
end Go.Proofs.YtjepgclnbbpnaaaGreat.P12
namespace Go.Proofs.YtjepgclnbbpnaaaGreat.P12
open PK (qqA qqB qqC qqD qqE qqF tk tkS dOne qh)
open Go Go.RowKit Go.Lib PK
open P11 (Pg)
open P9 (Wide Plain)
theorem node_result{fn:Func}{q:Tmp}(h:fn.results=#[.cell q 80])(tmps:Array Value)(w:World)(a:Nat)(cs:Array Value)(hq:tmps.getD q undef=.pointer (some ⟨a,0,none⟩))(hc:w.heap[a]?=some (.cells cs 80 (0,0)))(hs:cs.size=3) :
  (results fn tmps).run Tryz.prog w=.ok (.agg cs) w:=by
 have hi:(Tryz.prog.info? 80).map (·.size)=some cs.size:=by rw[hs];kernel_rfl
 exact results_cell_row h tmps w a 80 cs (0,0) _ hq hc Tryz.underlying80 rfl hi
theorem ofItems_any(w:World)(a:Option Addr)(n c:Nat):Calls Tryz.prog 55 #[.slice a n c] w fun e w'=>e=.returned (.agg #[.int .i64 3,.slice a n c,.slice none 0 0])∧Below w.heap.size w w':=by
 go_enter Tryz.func55,Tryz.ntmps55
 go_wp2
 exact bodyPost_ret (node_result rfl _ _ w.heap.size _ rfl (new_at _ _ _) rfl) rfl ⟨rfl,below_new _ _⟩
theorem ofKids_any(w:World)(a:Option Addr)(n c:Nat):Calls Tryz.prog 86 #[.slice a n c] w fun e w'=>e=.returned (.agg #[.int .i64 4,.slice none 0 0,.slice a n c])∧Below w.heap.size w w':=by
 go_enter Tryz.func86,Tryz.ntmps86
 go_wp2
 exact bodyPost_ret (node_result rfl _ _ w.heap.size _ rfl (new_at _ _ _) rfl) rfl ⟨rfl,below_new _ _⟩
theorem count_any(w:World)(x:Option Nat)(vi vk:Value)(nd:Nd)(h:NdT w x vi vk nd)(hl:nd.len≤1000000):Calls Tryz.prog 97 #[nd.v vi vk] w fun e w'=>e=.returned (.int .i64 (nd.len:Nat))∧Below w.heap.size w w':=by
 obtain⟨a,n,c,a',n',c',rfl,rfl,e,e1,e2,e3⟩:=h.lens
 have hw:IntKind.i64.wrap ((n:Int)+(n':Int))=(nd.len:Nat):=by rw[IntKind.wrap_i64];omega
 clear h
 unfold Nd.v
 go_enter Tryz.func97,Tryz.ntmps97
 go_wp2
 go_ret
 exact⟨rfl,below_new _ _⟩
theorem least_any(w:World)(vi vk:Value)(nd:Nd):Calls Tryz.prog 98 #[nd.v vi vk] w fun e w'=>e=.returned (.int .i64 (nd.least:Nat))∧Below w.heap.size w w':=by
 cases nd
 all_goals
  unfold Nd.v Nd.kind Nd.least
  go_enter Tryz.func98,Tryz.ntmps98
  go_wp2
  go_ret
  exact⟨rfl,below_new _ _⟩
theorem size_any(w:World)(x:Option Nat)(vi vk:Value)(nd:Nd)(h:NdT w x vi vk nd)(hs:nd.sum≤1000000):Calls Tryz.prog 100 #[nd.v vi vk] w fun e w'=>e=.returned (.int .i64 ((1+nd.sum:Nat):Int))∧Below w.heap.size w w':=by
 cases nd with
 | lf l=>
  obtain⟨h1,rfl⟩:=h
  have HS:=qh (fun W (b:Below w.heap.size w W)=>P9.size_any W vi l (h1.its.below b) hs)
  obtain⟨a,c,rfl⟩:=h1.its.slice
  unfold Nd.v Nd.kind Nd.sum
  clear h1 hs
  go_enter Tryz.func100,Tryz.ntmps100
  go_wp2_with (go_at_call 125;(with_reducible refine (HS.out _ (below_new _ _)).mono ?_);rintro e w1 ⟨rfl,hb⟩)
  go_ret
  exact⟨rfl,thenBelow (below_new _ _) hb⟩
 | tw l=>
  obtain⟨rfl,h1⟩:=h
  have HS:=qh (fun W (b:Below w.heap.size w W)=>P10.size_any W vk l (h1.its.below b) hs)
  obtain⟨a,c,rfl⟩:=h1.its.slice
  unfold Nd.v Nd.kind Nd.sum
  clear h1 hs
  go_enter Tryz.func100,Tryz.ntmps100
  go_wp2_with (go_at_call 126;(with_reducible refine (HS.out _ (below_new _ _)).mono ?_);rintro e w1 ⟨rfl,hb⟩)
  go_ret
  exact⟨rfl,thenBelow (below_new _ _) hb⟩
def Nd.fits(nd:Nd):Bool:=decide (1+nd.sum≤232)
theorem fits_any(w:World)(x:Option Nat)(vi vk:Value)(nd:Nd)(h:NdT w x vi vk nd)(hs:nd.sum≤1000000):Calls Tryz.prog 102 #[nd.v vi vk] w fun e w'=>e=.returned (.bool nd.fits)∧Below w.heap.size w w':=by
 have HS:=qh (fun W (b:Below w.heap.size w W)=>size_any W x vi vk nd (h.keep (FrT.of b)) hs)
 have hf:decide (((1+nd.sum:Nat):Int)≤232)=nd.fits:=by
  unfold Nd.fits
  exact decide_eq_decide.2 (by omega)
 obtain⟨a,n,c,a',n',c',rfl,rfl,_⟩:=h.lens
 unfold Nd.v at HS ⊢
 generalize ((1+nd.sum:Nat):Int)=N at *
 generalize nd.fits=B at *
 generalize nd.kind=K at *
 clear h hs
 go_enter Tryz.func102,Tryz.ntmps102
 go_wp2_with (go_at_call 100;(with_reducible refine (HS.out _ (below_new _ _)).mono ?_);rintro e w1 ⟨rfl,hb⟩)
 go_ret
 exact⟨by rw[← hf];rfl,thenBelow (below_new _ _) hb⟩
def Nd.key:Nd→ByteArray
 | .lf l=>(l[0]?.map (·.key)).getD ⟨#[]⟩
 | .tw l=>(l[0]?.map (·.key)).getD ⟨#[]⟩
theorem key_any(w:World)(x:Option Nat)(vi vk:Value)(nd:Nd)(h:NdT w x vi vk nd)(hn:0 < nd.len):Calls Tryz.prog 132 #[nd.v vi vk] w fun e w'=>e=.returned (.string nd.key)∧Below w.heap.size w w':=by
 cases nd with
 | lf l=>
  obtain⟨h1,rfl⟩:=h
  have hn:0 < l.length:=hn
  obtain⟨y,hy⟩:∃ y,l[0]?=some y:=⟨_,List.getElem?_eq_getElem hn⟩
  have hk0:(Nd.lf l).key=y.key:=by simp[Nd.key,hy]
  have HK:=qh hk0
  clear hk0
  obtain⟨a,c,rfl⟩:=h1.its.slice
  obtain⟨b,off,rfl,hc⟩:=h1.its.at_ hy
  have c0:=(hc _ (below_new w (.cells #[.int .i64 3,.slice (some ⟨b,off,none⟩) l.length c,.slice none 0 0] 80))).1
  rw[Nat.zero_mul,Nat.add_zero] at c0
  unfold Nd.v
  simp only[Nd.kind]
  generalize l.length=N at *
  clear h1 hc hy
  go_enter Tryz.func132,Tryz.ntmps132
  go_wp2
  go_ret
  exact⟨by rw[HK.out];rfl,below_new _ _⟩
 | tw l=>
  obtain⟨rfl,h1⟩:=h
  have hn:0 < l.length:=hn
  obtain⟨y,hy⟩:∃ y,l[0]?=some y:=⟨_,List.getElem?_eq_getElem hn⟩
  have hk0:(Nd.tw l).key=y.key:=by simp[Nd.key,hy]
  have HK:=qh hk0
  clear hk0
  obtain⟨a,c,rfl⟩:=h1.its.slice
  obtain⟨b,off,rfl,hc⟩:=h1.its.at_ hy
  have c0:=(hc _ (below_new w (.cells #[.int .i64 4,.slice none 0 0,.slice (some ⟨b,off,none⟩) l.length c] 80))).1
  rw[Nat.zero_mul,Nat.add_zero] at c0
  unfold Nd.v
  simp only[Nd.kind]
  generalize l.length=N at *
  clear h1 hc hy
  go_enter Tryz.func132,Tryz.ntmps132
  go_wp2
  go_ret
  exact⟨by rw[HK.out];rfl,below_new _ _⟩
noncomputable def Nd.lay:Nd→ByteArray×Int
 | .lf l=>P9.layR l
 | .tw l=>P10.layR l
theorem lay_any(w:World)(x:Option Nat)(vi vk:Value)(nd:Nd)(h:NdT w x vi vk nd)(hs:nd.sum≤1000000):Calls Tryz.prog 129 #[nd.v vi vk] w fun e w'=>e=.returned (.tuple #[.string nd.lay.1,.int .i64 nd.lay.2])∧Below w.heap.size w w':=by
 cases nd with
 | lf l=>
  obtain⟨h1,rfl⟩:=h
  have HS:=qh (fun W (b:Below w.heap.size w W)=>P9.lay_any W vi l (h1.its.below b) hs)
  obtain⟨a,c,rfl⟩:=h1.its.slice
  unfold Nd.v Nd.kind Nd.lay
  clear h1 hs
  go_enter Tryz.func129,Tryz.ntmps129
  go_wp2_with (go_at_call 122;(with_reducible refine (HS.out _ (below_new _ _)).mono ?_);rintro e w1 ⟨rfl,hb⟩)
  go_ret2
  exact⟨rfl,thenBelow (below_new _ _) hb⟩
 | tw l=>
  obtain⟨rfl,h1⟩:=h
  have HS:=qh (fun W (b:Below w.heap.size w W)=>P10.lay_any W vk l (h1.its.below b) hs)
  obtain⟨a,c,rfl⟩:=h1.its.slice
  unfold Nd.v Nd.kind Nd.lay
  clear h1 hs
  go_enter Tryz.func129,Tryz.ntmps129
  go_wp2_with (go_at_call 124;(with_reducible refine (HS.out _ (below_new _ _)).mono ?_);rintro e w1 ⟨rfl,hb⟩)
  go_ret2
  exact⟨rfl,thenBelow (below_new _ _) hb⟩
theorem node_result2{fn:Func}{q u:Tmp}(h:fn.results=#[.cell q 80,.tmp u])(tmps:Array Value)(w:World)(a:Nat)(cs:Array Value)(hq:tmps.getD q undef=.pointer (some ⟨a,0,none⟩))(hc:w.heap[a]?=some (.cells cs 80 (0,0)))(hs:cs.size=3) :
  (results fn tmps).run Tryz.prog w=.ok (.tuple #[.agg cs,tmps.getD u undef]) w:=by
 have hi:(Tryz.prog.info? 80).map (·.size)=some cs.size:=by rw[hs];kernel_rfl
 rw[results_cell_tmp h,hq]
 have e1:(asAddr (.pointer (some ⟨a,0,none⟩))).run Tryz.prog w=.ok ⟨a,0,none⟩ w:=rfl
 rw[e1,Result.andThen_ok,run_loadVar_row (P:=Tryz.prog) w a 80 80 cs (0,0) _ hc Tryz.underlying80 rfl hi]
 rfl
theorem two_new{w w2:World}{A B:Array Value}{s t:TypeId}(hb:Below ((w.alloc (.cells A s)).alloc (.cells B t)).heap.size ((w.alloc (.cells A s)).alloc (.cells B t)) w2) :
  w2.heap[w.heap.size]?=some (.cells A s (0,0))∧w2.heap[w.heap.size+1]?=some (.cells B t (0,0)):=by
 constructor
 ·rw[hb.block w.heap.size (by simp;omega),Lib.alloc_old _ _ _ (by simp)]
  exact new_at w A s
 ·have e:w.heap.size+1=(w.alloc (.cells A s)).heap.size:=by simp
  rw[hb.block (w.heap.size+1) (by simp),e]
  exact new_at _ B t
theorem r5_set{w:World}{b:Nat}{a c d:Value}{t:TypeId}(h:w.heap[b]?=some (.cells #[a,c,d] t (0,0)))(u0 u1 u2:Value) :
  (((w.setCell ⟨b,0,none⟩ u0).setCell ⟨b,1,none⟩ u1).setCell ⟨b,2,none⟩ u2).heap[b]?=some (.cells #[u0,u1,u2] t (0,0))∧True:=
 ⟨set_at (set_at (set_at h 0 u0) 1 u1) 2 u2,trivial⟩
theorem row_set1{w:World}{lo e n m b:Nat}{v:Value}{xs:List Value}(h:w.ownsRow lo e n v m xs)(hb:b < lo)(j:Nat)(u:Value):World.ownsRow (w.setCell ⟨b,j,none⟩ u) lo e n v m xs:=
 h.kept (setCell_grownBy w b j u) (by
  cases e:v.ownBlock with
  | none=>exact .inl rfl
  | some k=>exact .inr fun q=>by have:=(h.lt k e).1;cases q;omega)
theorem row_set3{w:World}{lo e n m b:Nat}{v:Value}{xs:List Value}(h:w.ownsRow lo e n v m xs)(hb:b < lo)(u0 u1 u2:Value):World.ownsRow (((w.setCell ⟨b,0,none⟩ u0).setCell ⟨b,1,none⟩ u1).setCell ⟨b,2,none⟩ u2) lo e n v m xs:=
 row_set1 (row_set1 (row_set1 h hb 0 u0) hb 1 u1) hb 2 u2
theorem read_leaf(w:World)(id tx:Int)(body:ByteArray)(l:List P9.It)(hb:body.size≤100000)(hr:P9.readP body=(l,0))(hn:0 < l.length) :
  Calls Tryz.prog 80 #[.agg #[.int .i64 3,.int .i64 id,.int .i64 tx,.string body]] w fun e w'=>∃ v,e=.returned (.tuple #[.agg #[.int .i64 3,v,.slice none 0 0],.bool true])∧P9.OwnI w.heap.size w' v l∧Below w.heap.size w w':=by
 have HR:=qh (fun W=>P9.read_any W body hb)
 rw[hr] at HR
 have hcnt:∀ (W:World) (v:Value),P9.OwnI w.heap.size W v l→Calls Tryz.prog 97 #[(Nd.lf l).v v (.slice none 0 0)] W fun e w'=>e=.returned (.int .i64 (l.length:Nat))∧Below W.heap.size W w':=fun W v h=>count_any W none v _ (.lf l) ⟨ItT.own h (fun _ e=>by cases e),rfl⟩ h.2
 have hlst:∀ (W:World) (v:Value),Calls Tryz.prog 98 #[(Nd.lf l).v v (.slice none 0 0)] W fun e w'=>e=.returned (.int .i64 1)∧Below W.heap.size W w':=fun W v=>least_any W v _ (.lf l)
 unfold Nd.v Nd.kind at hcnt hlst
 have HC:=qh hcnt
 have HL:=qh hlst
 have k1:decide ((1:Int)≤((l.length:Nat):Int))=true:=decide_eq_true (by omega)
 clear hr hcnt hlst
 obtain⟨N,hN⟩:∃ N,N=l.length:=⟨_,rfl⟩
 rw[← hN] at k1 HC
 have HN:=qh hN
 clear hN hn
 go_enter Tryz.func80,Tryz.ntmps80
 go_upto_region 5 with (first
  | (go_at_call 96;(with_reducible refine (HR.out _).mono ?_);rintro e w2 ⟨v,rfl,ho,hb2⟩;have HO:=qh ho;have HB:=qh hb2;obtain⟨a,c,rfl⟩:=ho.its.slice;clear ho hb2;rw[← HN.out])
  | (go_at_call 55;(with_reducible refine (ofItems_any _ _ _ _).mono ?_);rintro e w3 ⟨rfl,hb3⟩;have HB3:=qh hb3;clear hb3))
 rw[← HN.out] at HO
 have X1:Hid (Below w.heap.size w w2):=thenBelow (grow (below_new w _) _) HB.out
 have XR:Hid (w2.heap[w.heap.size+1]?=some (.cells #[.int .i64 0,.slice none 0 0,.slice none 0 0] 80 (0,0))):=(two_new HB.out).2
 obtain⟨X,hX⟩:∃ X,X=w3.alloc (.cells #[.int .i64 3,.slice a N c,.slice none 0 0] 80):=⟨_,rfl⟩
 obtain⟨g,hg⟩:∃ g,g=w3.heap.size:=⟨_,rfl⟩
 have hgc:X.heap[g]?=some (.cells #[.int .i64 3,.slice a N c,.slice none 0 0] 80 (0,0)):=by rw[hX,hg];exact new_at _ _ _
 have hbX:Below w2.heap.size w2 X:=by rw[hX];exact thenBelow HB3.out (below_new _ _)
 rw[← hX,← hg]
 clear hX hg HB3
 have hgl:=lt_of_block hgc
 have hg2:w.heap.size+1≠g:=fun e=>by
  subst e
  rw[hbX.block _ (lt_of_block XR.out),XR.out] at hgc
  cases hgc
 have hs0:∀ W,Below X.heap.size X W→W.cell? ⟨g,0,none⟩=some (.int .i64 3)∧W.cell? ⟨g,1,none⟩=some (.slice a N c)∧W.cell? ⟨g,2,none⟩=some (.slice none 0 0):=fun W b=>by
  have:=P3.old_below hgc b
  exact⟨cell_at this 0,cell_at this 1,cell_at this 2⟩
 have HS0:=qh hs0
 have HS1:Hid (∀ W u0 u1 u2,Below X.heap.size X W→(((W.setCell ⟨w.heap.size+1,0,none⟩ u0).setCell ⟨w.heap.size+1,1,none⟩ u1).setCell ⟨w.heap.size+1,2,none⟩ u2).cell? ⟨g,0,none⟩=some (.int .i64 3)∧(((W.setCell ⟨w.heap.size+1,0,none⟩ u0).setCell ⟨w.heap.size+1,1,none⟩ u1).setCell ⟨w.heap.size+1,2,none⟩ u2).cell? ⟨g,1,none⟩=some (.slice a N c)∧(((W.setCell ⟨w.heap.size+1,0,none⟩ u0).setCell ⟨w.heap.size+1,1,none⟩ u1).setCell ⟨w.heap.size+1,2,none⟩ u2).cell? ⟨g,2,none⟩=some (.slice none 0 0)):=fun W u0 u1 u2 b=>by
  have:=P3.old_set (P3.old_set (P3.old_set (P3.old_below hgc b) ⟨w.heap.size+1,0,none⟩ (Ne.symm hg2) u0) ⟨w.heap.size+1,1,none⟩ (Ne.symm hg2) u1) ⟨w.heap.size+1,2,none⟩ (Ne.symm hg2) u2
  exact⟨cell_at this 0,cell_at this 1,cell_at this 2⟩
 have HC2:Hid (∀ W,Below X.heap.size X W→Calls Tryz.prog 97 #[.agg #[.int .i64 3,.slice a N c,.slice none 0 0]] W fun e w'=>e=.returned (.int .i64 N)∧Below W.heap.size W w'):=fun W b=>HC.out W _ ((HO.out.below (hbX.trans (b.mono hbX.size))).lo_ (by simp;omega))
 have HR0:=qh (fun W (b:Below X.heap.size X W)=>P3.old_below (P3.old_below XR.out hbX) b)
 have HXR:=qh (Below.refl X.heap.size X)
 clear hs0 hgc hgl
 go_region_held3 (fun W=>W.cell? ⟨g,0,none⟩=some (.int .i64 3)∧W.cell? ⟨g,1,none⟩=some (.slice a N c)∧W.cell? ⟨g,2,none⟩=some (.slice none 0 0)) (first|exact HS0.out _ HXR.out|exact HS0.out _ HXR.out.drew|exact HS0.out _ HB4.out|exact HS0.out _ HB5.out|exact HS1.out _ _ _ _ HB5.out)
  ((first
   | (go_at_call 97;(with_reducible refine (HC2.out _ (by first|exact HXR.out|exact HXR.out.drew)).mono ?_);rintro e w4 ⟨rfl,hb4⟩;have HB4:Hid (Below X.heap.size X w4):=(by first|exact HXR.out.trans hb4|exact HXR.out.drew.trans hb4);clear hb4)
   | (go_at_call 98;(with_reducible refine (HL.out _ _).mono ?_);rintro e w5 ⟨rfl,hb5⟩;have HB5:Hid (Below X.heap.size X w5):=thenBelow HB4.out hb5;have r5:=HR0.out _ HB5.out;have f0:=cell_at r5 0;have f1:=cell_at r5 1;have f2:=cell_at r5 2;have e0:=free_at r5 0;have e1:=free_at r5 1;have e2:=free_at r5 2;clear hb5 r5)))
 have HF:=qh (r5_set (HR0.out _ HB5.out) (.int .i64 3) (.slice a N c) (.slice none 0 0))
 have HO5:=qh (HO.out.below (hbX.trans (HB5.out.mono hbX.size)))
 have HBz:=qh (X1.out.trans ((hbX.trans (HB5.out.mono hbX.size)).mono X1.out.size))
 clear f0 f1 f2 e0 e1 e2
 go_wp2
 refine bodyPost_ret (node_result2 rfl _ _ (w.heap.size+1) _ rfl HF.out.1 rfl) rfl ⟨_,rfl,?_,?_⟩
 ·refine⟨?_,HO5.out.2⟩
  have hk:=HO5.out.1
  rw[← HN.out] at hk ⊢
  refine owns_lo (row_set3 hk ?_ _ _ _) (by simp;omega)
  simp
 ·exact ((HBz.out.setCell (p:=⟨w.heap.size+1,0,none⟩) (Nat.le_succ _) _).setCell (p:=⟨w.heap.size+1,1,none⟩) (Nat.le_succ _) _).setCell (p:=⟨w.heap.size+1,2,none⟩) (Nat.le_succ _) _
theorem read_kids(w:World)(id tx:Int)(body:ByteArray)(l:List P10.It)(hb:body.size≤100000)(hr:P10.readP body=(l,0))(hn:2≤l.length) :
  Calls Tryz.prog 80 #[.agg #[.int .i64 4,.int .i64 id,.int .i64 tx,.string body]] w fun e w'=>∃ v,e=.returned (.tuple #[.agg #[.int .i64 4,.slice none 0 0,v],.bool true])∧P10.OwnI w.heap.size w' v l∧Below w.heap.size w w':=by
 have HR:=qh (fun W=>P10.read_any W body hb)
 rw[hr] at HR
 have hcnt:∀ (W:World) (v:Value),P10.OwnI w.heap.size W v l→Calls Tryz.prog 97 #[(Nd.tw l).v (.slice none 0 0) v] W fun e w'=>e=.returned (.int .i64 (l.length:Nat))∧Below W.heap.size W w':=fun W v h=>count_any W none _ v (.tw l) ⟨rfl,KdT.own h (fun _ e=>by cases e)⟩ h.2
 have hlst:∀ (W:World) (v:Value),Calls Tryz.prog 98 #[(Nd.tw l).v (.slice none 0 0) v] W fun e w'=>e=.returned (.int .i64 2)∧Below W.heap.size W w':=fun W v=>least_any W _ v (.tw l)
 unfold Nd.v Nd.kind at hcnt hlst
 have HC:=qh hcnt
 have HL:=qh hlst
 have k1:decide ((2:Int)≤((l.length:Nat):Int))=true:=decide_eq_true (by omega)
 clear hr hcnt hlst
 obtain⟨N,hN⟩:∃ N,N=l.length:=⟨_,rfl⟩
 rw[← hN] at k1 HC
 have HN:=qh hN
 clear hN hn
 go_enter Tryz.func80,Tryz.ntmps80
 go_upto_region 9 with (first
  | (go_at_call 99;(with_reducible refine (HR.out _).mono ?_);rintro e w2 ⟨v,rfl,ho,hb2⟩;have HO:=qh ho;have HB:=qh hb2;obtain⟨a,c,rfl⟩:=ho.its.slice;clear ho hb2;rw[← HN.out])
  | (go_at_call 86;(with_reducible refine (ofKids_any _ _ _ _).mono ?_);rintro e w3 ⟨rfl,hb3⟩;have HB3:=qh hb3;clear hb3))
 rw[← HN.out] at HO
 have X1:Hid (Below w.heap.size w w2):=thenBelow (grow (below_new w _) _) HB.out
 have XR:Hid (w2.heap[w.heap.size+1]?=some (.cells #[.int .i64 0,.slice none 0 0,.slice none 0 0] 80 (0,0))):=(two_new HB.out).2
 obtain⟨X,hX⟩:∃ X,X=w3.alloc (.cells #[.int .i64 4,.slice none 0 0,.slice a N c] 80):=⟨_,rfl⟩
 obtain⟨g,hg⟩:∃ g,g=w3.heap.size:=⟨_,rfl⟩
 have hgc:X.heap[g]?=some (.cells #[.int .i64 4,.slice none 0 0,.slice a N c] 80 (0,0)):=by rw[hX,hg];exact new_at _ _ _
 have hbX:Below w2.heap.size w2 X:=by rw[hX];exact thenBelow HB3.out (below_new _ _)
 rw[← hX,← hg]
 clear hX hg HB3
 have hgl:=lt_of_block hgc
 have hg2:w.heap.size+1≠g:=fun e=>by
  subst e
  rw[hbX.block _ (lt_of_block XR.out),XR.out] at hgc
  cases hgc
 have hs0:∀ W,Below X.heap.size X W→W.cell? ⟨g,0,none⟩=some (.int .i64 4)∧W.cell? ⟨g,1,none⟩=some (.slice none 0 0)∧W.cell? ⟨g,2,none⟩=some (.slice a N c):=fun W b=>by
  have:=P3.old_below hgc b
  exact⟨cell_at this 0,cell_at this 1,cell_at this 2⟩
 have HS0:=qh hs0
 have HS1:Hid (∀ W u0 u1 u2,Below X.heap.size X W→(((W.setCell ⟨w.heap.size+1,0,none⟩ u0).setCell ⟨w.heap.size+1,1,none⟩ u1).setCell ⟨w.heap.size+1,2,none⟩ u2).cell? ⟨g,0,none⟩=some (.int .i64 4)∧(((W.setCell ⟨w.heap.size+1,0,none⟩ u0).setCell ⟨w.heap.size+1,1,none⟩ u1).setCell ⟨w.heap.size+1,2,none⟩ u2).cell? ⟨g,1,none⟩=some (.slice none 0 0)∧(((W.setCell ⟨w.heap.size+1,0,none⟩ u0).setCell ⟨w.heap.size+1,1,none⟩ u1).setCell ⟨w.heap.size+1,2,none⟩ u2).cell? ⟨g,2,none⟩=some (.slice a N c)):=fun W u0 u1 u2 b=>by
  have:=P3.old_set (P3.old_set (P3.old_set (P3.old_below hgc b) ⟨w.heap.size+1,0,none⟩ (Ne.symm hg2) u0) ⟨w.heap.size+1,1,none⟩ (Ne.symm hg2) u1) ⟨w.heap.size+1,2,none⟩ (Ne.symm hg2) u2
  exact⟨cell_at this 0,cell_at this 1,cell_at this 2⟩
 have HC2:Hid (∀ W,Below X.heap.size X W→Calls Tryz.prog 97 #[.agg #[.int .i64 4,.slice none 0 0,.slice a N c]] W fun e w'=>e=.returned (.int .i64 N)∧Below W.heap.size W w'):=fun W b=>HC.out W _ ((HO.out.below (hbX.trans (b.mono hbX.size))).lo_ (by simp;omega))
 have HR0:=qh (fun W (b:Below X.heap.size X W)=>P3.old_below (P3.old_below XR.out hbX) b)
 have HXR:=qh (Below.refl X.heap.size X)
 clear hs0 hgc hgl
 go_region_held3 (fun W=>W.cell? ⟨g,0,none⟩=some (.int .i64 4)∧W.cell? ⟨g,1,none⟩=some (.slice none 0 0)∧W.cell? ⟨g,2,none⟩=some (.slice a N c)) (first|exact HS0.out _ HXR.out|exact HS0.out _ HXR.out.drew|exact HS0.out _ HB4.out|exact HS0.out _ HB5.out|exact HS1.out _ _ _ _ HB5.out)
  ((first
   | (go_at_call 97;(with_reducible refine (HC2.out _ (by first|exact HXR.out|exact HXR.out.drew)).mono ?_);rintro e w4 ⟨rfl,hb4⟩;have HB4:Hid (Below X.heap.size X w4):=(by first|exact HXR.out.trans hb4|exact HXR.out.drew.trans hb4);clear hb4)
   | (go_at_call 98;(with_reducible refine (HL.out _ _).mono ?_);rintro e w5 ⟨rfl,hb5⟩;have HB5:Hid (Below X.heap.size X w5):=thenBelow HB4.out hb5;have r5:=HR0.out _ HB5.out;have f0:=cell_at r5 0;have f1:=cell_at r5 1;have f2:=cell_at r5 2;have e0:=free_at r5 0;have e1:=free_at r5 1;have e2:=free_at r5 2;clear hb5 r5)))
 have HF:=qh (r5_set (HR0.out _ HB5.out) (.int .i64 4) (.slice none 0 0) (.slice a N c))
 have HO5:=qh (HO.out.below (hbX.trans (HB5.out.mono hbX.size)))
 have HBz:=qh (X1.out.trans ((hbX.trans (HB5.out.mono hbX.size)).mono X1.out.size))
 clear f0 f1 f2 e0 e1 e2
 go_wp2
 refine bodyPost_ret (node_result2 rfl _ _ (w.heap.size+1) _ rfl HF.out.1 rfl) rfl ⟨_,rfl,?_,?_⟩
 ·refine⟨?_,HO5.out.2⟩
  have hk:=HO5.out.1
  rw[← HN.out] at hk ⊢
  refine owns_lo (row_set3 hk ?_ _ _ _) (by simp;omega)
  simp
 ·exact ((HBz.out.setCell (p:=⟨w.heap.size+1,0,none⟩) (Nat.le_succ _) _).setCell (p:=⟨w.heap.size+1,1,none⟩) (Nat.le_succ _) _).setCell (p:=⟨w.heap.size+1,2,none⟩) (Nat.le_succ _) _
end Go.Proofs.YtjepgclnbbpnaaaGreat.P12
