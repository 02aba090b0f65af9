/-
  Texts of the proofs of SaidOrd12.
-/
import Derived.Test.YtjepgclnbbpnaaaGreatMs14
set_option linter.unusedVariables false
set_option linter.unusedSimpArgs false
set_option maxHeartbeats 8000000
set_option maxRecDepth 100000
namespace Go.Proofs.YtjepgclnbbpnaaaGreat.P12
open Go Go.RowKit Go.Lib PK Go.Maps
open P11 (Pg)
open P9 (Wide Plain)
theorem owns_fr{S:Nat→Prop}{w w':World}{lo e n m:Nat}{v:Value}{xs:List Value}(h:w.ownsRow lo e n v m xs)(k:P3.Fr S w w')(hn:∀ j,v.ownBlock=some j→¬ S j):w'.ownsRow lo e n v m xs:=by
 refine⟨h.1,?_⟩
 rcases h.2 with h2|⟨g,cap,cur,rfl,h3,h4,h5⟩
 ·exact .inl h2
 ·exact .inr ⟨g,cap,cur,rfl,h3,by rw[k.block g (lt_of_block h4) (hn g rfl)];exact h4,h5⟩
theorem PAt.fr{S:Nat→Prop}{w w':World}{b:Nat}{vl vg:Value}{M:PM}(h:PAt w b vl vg M)(k:P3.Fr S w w')(hn:∀ j,PS b vl vg j→¬ S j):PAt w' b vl vg M:=
 ⟨k.keep h.obj (hn _ (.inl rfl)),owns_fr h.rl k fun j e=>hn j (.inr (.inl e)),owns_fr h.rg k fun j e=>hn j (.inr (.inr e)),h.ne⟩
theorem PAt.cells_{w:World}{b:Nat}{vl vg:Value}{M:PM}(h:PAt w b vl vg M){j:Nat}(hj:PS b vl vg j):∃ cs t,w.heap[j]?=some (.cells cs t (0,0))∧(t=44∨t=86∨t=3):=by
 rcases hj with rfl|hj|hj
 ·exact⟨_,_,h.obj,.inl rfl⟩
 ·rcases h.rl.2 with ⟨e,_⟩|⟨g,cap,cur,rfl,_,hg,_⟩
  ·rw[e] at hj;cases hj
  ·cases hj;exact⟨_,_,hg,.inr (.inl rfl)⟩
 ·rcases h.rg.2 with ⟨e,_⟩|⟨g,cap,cur,rfl,_,hg,_⟩
  ·rw[e] at hj;cases hj
  ·cases hj;exact⟨_,_,hg,.inr (.inr rfl)⟩
theorem PAt.notT{w:World}{b:Nat}{vl vg:Value}{M:PM}(h:PAt w b vl vg M)(x:Option Nat):NotT x w (PS b vl vg):=fun k cs t hk hs e=>by
 obtain⟨cs',t',e',ht⟩:=h.cells_ hk
 rw[e] at e'
 cases e'
 rcases hs.1 with rfl|rfl <;> rcases ht with ht|ht|ht <;> cases ht
structure Sp where
 pg:Pg
 nd:Nd
 vi:Value
 vk:Value
 at_:Int
def Sp.cells(p:Sp):List Value:=[.int .i64 p.pg.k,.int .i64 p.pg.id,.int .i64 p.pg.tx,.string p.pg.body,.int .i64 p.nd.kind,p.vi,p.vk,.int .i64 p.at_]
def Sp.v(p:Sp):Value:=.agg #[.int .i64 p.pg.k,.int .i64 p.pg.id,.int .i64 p.pg.tx,.string p.pg.body,.int .i64 p.nd.kind,p.vi,p.vk,.int .i64 p.at_]
def SeenAt(w:World)(mb:Nat)(sn:List Int):Prop:=w.ownsMap Tryz.prog 3 (unitElem (H:=Unit)) mb sn.length (setOf (.agg []) (sn.map fun x=>Lit.int .i64 x))
structure SkAt (w:World) (x:Option Nat) (b s mb:Nat) (vw:Value) (ps:List Sp) (sn:List Int):Prop where
 obj:w.heap[s]?=some (.cells #[pgv b,vw,.map (some mb)] 97 (0,0))
 row:w.ownsRow 0 88 8 vw ps.length (ps.map Sp.cells).flatten
 nd:∀ p∈ps,NdT w x p.vi p.vk p.nd
 seen:SeenAt w mb sn
def SS(s mb:Nat)(vw:Value)(k:Nat):Prop:=k=s∨vw.ownBlock=some k∨k=mb
theorem SeenAt.fr{S:Nat→Prop}{w w':World}{mb:Nat}{sn:List Int}(h:SeenAt w mb sn)(k:P3.Fr S w w')(hn:¬ S mb):SeenAt w' mb sn:=by
 obtain⟨es,clock,h1,h2⟩:=h
 exact⟨es,clock,k.keep h1 hn,h2⟩
theorem SkAt.fr{S:Nat→Prop}{w w':World}{x:Option Nat}{b s mb:Nat}{vw:Value}{ps:List Sp}{sn:List Int}(h:SkAt w x b s mb vw ps sn)(k:P3.Fr S w w')(kt:FrT x w w')(hn:∀ j,SS s mb vw j→¬ S j):SkAt w' x b s mb vw ps sn:=
 ⟨k.keep h.obj (hn _ (.inl rfl)),owns_fr h.row k fun j e=>hn j (.inr (.inl e)),fun p hp=>(h.nd p hp).keep kt,h.seen.fr k (hn _ (.inr (.inr rfl)))⟩
theorem SkAt.below{w w':World}{x:Option Nat}{b s mb:Nat}{vw:Value}{ps:List Sp}{sn:List Int}(h:SkAt w x b s mb vw ps sn)(k:Below w.heap.size w w'):SkAt w' x b s mb vw ps sn:=
 h.fr (P3.Fr.of (S:=fun _=>False) k) (FrT.of k) fun _ _ f=>f
theorem SkAt.kinds{w:World}{x:Option Nat}{b s mb:Nat}{vw:Value}{ps:List Sp}{sn:List Int}(h:SkAt w x b s mb vw ps sn){j:Nat}(hj:SS s mb vw j):(∃ cs t,w.heap[j]?=some (.cells cs t (0,0))∧(t=97∨t=88))∨∃ es c,w.heap[j]?=some (.map es c):=by
 rcases hj with rfl|hj|rfl
 ·exact .inl ⟨_,_,h.obj,.inl rfl⟩
 ·rcases h.row.2 with ⟨e,_⟩|⟨g,cap,cur,rfl,_,hg,_⟩
  ·rw[e] at hj;cases hj
  ·cases hj;exact .inl ⟨_,_,hg,.inr rfl⟩
 ·obtain⟨es,c,h1,_⟩:=h.seen
  exact .inr ⟨es,c,h1⟩
theorem SkAt.notT{w:World}{x y:Option Nat}{b s mb:Nat}{vw:Value}{ps:List Sp}{sn:List Int}(h:SkAt w x b s mb vw ps sn):NotT y w (SS s mb vw):=fun k cs t hk hs e=>by
 rcases h.kinds hk with ⟨cs',t',e',ht⟩|⟨es,c,e'⟩
 ·rw[e] at e'
  cases e'
  rcases hs.1 with rfl|rfl <;> rcases ht with ht|ht <;> cases ht
 ·rw[e] at e'
  cases e'
theorem SkAt.apart{w:World}{x:Option Nat}{b s mb:Nat}{vw:Value}{ps:List Sp}{sn:List Int}{b':Nat}{vl vg:Value}{M:PM}(h:SkAt w x b s mb vw ps sn)(hp:PAt w b' vl vg M){j:Nat}(h1:SS s mb vw j)(h2:PS b' vl vg j):False:=by
 obtain⟨cs,t,e,ht⟩:=hp.cells_ h2
 rcases h.kinds h1 with ⟨cs',t',e',ht'⟩|⟨es,c,e'⟩
 ·rw[e] at e'
  cases e'
  rcases ht with rfl|rfl|rfl <;> rcases ht' with ht'|ht' <;> cases ht'
 ·rw[e] at e'
  cases e'
theorem SkAt.lt{w:World}{x:Option Nat}{b s mb:Nat}{vw:Value}{ps:List Sp}{sn:List Int}(h:SkAt w x b s mb vw ps sn){j:Nat}(hj:SS s mb vw j):j < w.heap.size:=by
 rcases h.kinds hj with ⟨_,_,e,_⟩|⟨_,_,e⟩ <;> exact lt_of_block e
theorem SkAt.slice{w:World}{x:Option Nat}{b s mb:Nat}{vw:Value}{ps:List Sp}{sn:List Int}(h:SkAt w x b s mb vw ps sn):∃ a c,vw=.slice a ps.length c:=by
 rcases h.row.2 with ⟨rfl,e⟩|⟨g,cap,cur,rfl,_⟩
 ·exact⟨none,0,by rw[e]⟩
 ·exact⟨_,_,rfl⟩
theorem SkAt.row_mb{w:World}{x:Option Nat}{b s mb:Nat}{vw:Value}{ps:List Sp}{sn:List Int}(h:SkAt w x b s mb vw ps sn){j:Nat}(hj:vw.ownBlock=some j):j≠mb:=fun q=>by
 obtain⟨es,cc,h1,_⟩:=h.seen
 rcases h.row.2 with ⟨e2,_⟩|⟨gg,_,_,rfl,_,hg,_⟩
 ·rw[e2] at hj;cases hj
 ·cases hj
  rw[show gg=mb from q,h1] at hg
  cases hg
theorem SkAt.row_s{w:World}{x:Option Nat}{b s mb:Nat}{vw:Value}{ps:List Sp}{sn:List Int}(h:SkAt w x b s mb vw ps sn){j:Nat}(hj:vw.ownBlock=some j):j≠s:=fun q=>by
 have h1:=h.obj
 rcases h.row.2 with ⟨e2,_⟩|⟨gg,_,_,rfl,_,hg,_⟩
 ·rw[e2] at hj;cases hj
 ·cases hj
  rw[show gg=s from q,h1] at hg
  cases hg
theorem SkAt.s_mb{w:World}{x:Option Nat}{b s mb:Nat}{vw:Value}{ps:List Sp}{sn:List Int}(h:SkAt w x b s mb vw ps sn):s≠mb:=fun q=>by
 obtain⟨es,cc,h1,_⟩:=h.seen
 have h2:=h.obj
 rw[q,h1] at h2
 cases h2
theorem int_key{z:Int}(h1:-9223372036854775808≤z)(h2:z≤9223372036854775807):keyOf Tryz.prog 3 (.int .i64 z)=some (.int .i64 z):=keyOf_int_mk Tryz.underlying3 (Go.WalkArith.wf_i64 (by omega))
theorem seen_has(sn:List Int)(id:Int):Maps.has (setOf (H:=Unit) (.agg []) (sn.map fun x=>Lit.int .i64 x)) (.int .i64 id)=sn.contains id:=by
 rw[has_setOf _ _ _ (by intro y hy;obtain⟨z,_,rfl⟩:=List.mem_map.1 hy;trivial)]
 induction sn with
 | nil=>rfl
 | cons y sn ih=>
  rw[List.map_cons,List.any_cons,ih,List.contains_cons]
  congr 1
  by_cases e:y=id
  ·subst e
   simp[Lit.sameKey]
  ·have e2:(id == y)=false:=beq_false_of_ne fun q=>e q.symm
   rw[e2]
   simp[Lit.sameKey,e]
theorem on_any(w:World)(x:Option Nat)(b:Nat):Calls Tryz.prog 52 #[pgv b] w fun e w'=>e=.returned (.pointer (some ⟨w.heap.size+1,0,none⟩))∧SkAt w' x b (w.heap.size+1) w.heap.size (.slice none 0 0) [] []∧Below w.heap.size w w':=by
 have hmm:=@run_makeMap Tryz.prog
 unfold pgv
 go_enter Tryz.func52,Tryz.ntmps52
 go_wp2
 go_ret
 have h1:((w.alloc (.map #[] 0)).alloc (.cells #[pgv b,.slice none 0 0,.map (some w.heap.size)] 97)).heap[w.heap.size+1]?=some (.cells #[pgv b,.slice none 0 0,.map (some w.heap.size)] 97 (0,0)):=by
  have:=new_at (w.alloc (.map #[] 0)) #[pgv b,.slice none 0 0,.map (some w.heap.size)] 97
  simpa using this
 exact⟨rfl,⟨h1,World.ownsRow_nil _ _ _ _,fun _ h=>(List.not_mem_nil h).elim,(World.ownsMap_made w _ _ _).alloc _⟩,grow (below_new _ _) _⟩
end Go.Proofs.YtjepgclnbbpnaaaGreat.P12
namespace Go.Proofs.YtjepgclnbbpnaaaGreat.P12
open PK (qqA qqB qqC qqD qqE qqF tk tkS dOne qh)
open Go Go.RowKit Go.Lib PK Go.Maps
open P11 (Pg)
theorem PM.get_in{M:PM}{id:Int}(h:(M.get id).2=0):2≤id∧id - 2 < M.L.length:=by
 unfold PM.get at h
 by_cases c:2≤id∧id - 2 < M.L.length
 ·exact c
 ·rw[if_neg c] at h
  cases h
noncomputable def Nd.body:Nd→ByteArray
 | .lf l=>P9.layI l
 | .tw l=>P10.layI l
def Nd.good:Nd→Prop
 | .lf l=>P9.RightI l∧1+P9.sumI l≤232∧0 < l.length
 | .tw l=>P10.RightO l∧1+P10.sumI l≤232∧2≤l.length
def ndAt(M:PM)(id:Int)(nd:Nd):Prop:=∃ tx,M.get id=(⟨nd.kind,id,tx,nd.body⟩,0)∧nd.good
theorem Nd.good.sum{nd:Nd}(h:nd.good):nd.sum≤231:=by
 cases nd with
 | lf l=>have:=h.2.1;show P9.sumI l≤231;omega
 | tw l=>have:=h.2.1;show P10.sumI l≤231;omega
theorem Nd.len_sum(nd:Nd):nd.len≤nd.sum:=by
 cases nd with
 | lf l=>have:=P9.sumI_len l;show l.length≤P9.sumI l;omega
 | tw l=>have:=P10.sumI_len l;show l.length≤P10.sumI l;omega
theorem Nd.good.pos{nd:Nd}(h:nd.good):nd.least≤nd.len:=by
 cases nd with
 | lf l=>exact h.2.2
 | tw l=>exact h.2.2
theorem Nd.good.bsize{nd:Nd}(h:nd.good):nd.body.size≤232:=by
 cases nd with
 | lf l=>have:=h.2.1;show (P9.layI l).size≤232;rw[P9.layI_size];omega
 | tw l=>have:=h.2.1;show (P10.layI l).size≤232;rw[P10.layI_size];omega
theorem read_any(w:World)(x:Option Nat)(id tx:Int)(nd:Nd)(h:nd.good)(hx:∀ k,x=some k→k < w.heap.size) :
  Calls Tryz.prog 80 #[.agg #[.int .i64 nd.kind,.int .i64 id,.int .i64 tx,.string nd.body]] w fun e w'=>∃ vi vk,e=.returned (.tuple #[.agg #[.int .i64 nd.kind,vi,vk],.bool true])∧NdT w' x vi vk nd∧Below w.heap.size w w':=by
 have hs:=h.bsize
 cases nd with
 | lf l=>
  refine (read_leaf w id tx (P9.layI l) l (by show (Nd.lf l).body.size≤_;omega) (P9.read_back h.1 h.2.1) h.2.2).mono ?_
  rintro e w' ⟨v,rfl,h1,h2⟩
  exact⟨_,_,rfl,⟨ItT.own h1 hx,rfl⟩,h2⟩
 | tw l=>
  refine (read_kids w id tx (P10.layI l) l (by show (Nd.tw l).body.size≤_;omega) (P10.read_back ⟨h.1,by have:=h.2.2;omega⟩ h.2.1) h.2.2).mono ?_
  rintro e w' ⟨v,rfl,h1,h2⟩
  exact⟨_,_,rfl,⟨rfl,KdT.own h1 hx⟩,h2⟩
theorem step_result2{fn:Func}{q u:Tmp}(h:fn.results=#[.cell q 88,.tmp u])(tmps:Array Value)(w:World)(a:Nat)(cs:Array Value)(hq:tmps.getD q undef=.pointer (some ⟨a,0,none⟩))(hc:w.heap[a]?=some (.cells cs 88 (0,0)))(hs:cs.size=8) :
  (results fn tmps).run Tryz.prog w=.ok (.tuple #[.agg cs,tmps.getD u undef]) w:=by
 have hi:(Tryz.prog.info? 88).map (·.size)=some cs.size:=by rw[hs];kernel_rfl
 rw[results_cell_tmp h,hq]
 have e1:(asAddr (.pointer (some ⟨a,0,none⟩))).run Tryz.prog w=.ok ⟨a,0,none⟩ w:=rfl
 rw[e1,Result.andThen_ok,run_loadVar_row (P:=Tryz.prog) w a 88 88 cs (0,0) _ hc Tryz.underlying88 rfl hi]
 rfl
theorem fr_set(w:World)(b j:Nat)(u:Value):P3.Fr (·=b) w (w.setCell ⟨b,j,none⟩ u):=⟨rfl,rfl,rfl,by simp[World.setCell],fun k _ hk=>Below.heap_setCell _ _ _ _ hk⟩
theorem put8{w:World}{b:Nat}{a0 a1 a2 a3 a4 a5 a6 a7:Value}{t:TypeId}(h:w.heap[b]?=some (.cells #[a0,a1,a2,a3,a4,a5,a6,a7] t (0,0)))(u0 u1 u2 u3 u4 u5 u6 u7:Value) :
  ((((((((w.setCell ⟨b,0,none⟩ u0).setCell ⟨b,1,none⟩ u1).setCell ⟨b,2,none⟩ u2).setCell ⟨b,3,none⟩ u3).setCell ⟨b,4,none⟩ u4).setCell ⟨b,5,none⟩ u5).setCell ⟨b,6,none⟩ u6).setCell ⟨b,7,none⟩ u7).heap[b]?=some (.cells #[u0,u1,u2,u3,u4,u5,u6,u7] t (0,0))∧
  P3.Fr (·=b) w ((((((((w.setCell ⟨b,0,none⟩ u0).setCell ⟨b,1,none⟩ u1).setCell ⟨b,2,none⟩ u2).setCell ⟨b,3,none⟩ u3).setCell ⟨b,4,none⟩ u4).setCell ⟨b,5,none⟩ u5).setCell ⟨b,6,none⟩ u6).setCell ⟨b,7,none⟩ u7):=
 by
  have h0:(w.setCell ⟨b,0,none⟩ u0).heap[b]?=some (.cells #[u0,a1,a2,a3,a4,a5,a6,a7] t (0,0)):=set_at h 0 u0
  have h1:((w.setCell ⟨b,0,none⟩ u0).setCell ⟨b,1,none⟩ u1).heap[b]?=some (.cells #[u0,u1,a2,a3,a4,a5,a6,a7] t (0,0)):=set_at h0 1 u1
  have h2:(((w.setCell ⟨b,0,none⟩ u0).setCell ⟨b,1,none⟩ u1).setCell ⟨b,2,none⟩ u2).heap[b]?=some (.cells #[u0,u1,u2,a3,a4,a5,a6,a7] t (0,0)):=set_at h1 2 u2
  have h3:((((w.setCell ⟨b,0,none⟩ u0).setCell ⟨b,1,none⟩ u1).setCell ⟨b,2,none⟩ u2).setCell ⟨b,3,none⟩ u3).heap[b]?=some (.cells #[u0,u1,u2,u3,a4,a5,a6,a7] t (0,0)):=set_at h2 3 u3
  have h4:(((((w.setCell ⟨b,0,none⟩ u0).setCell ⟨b,1,none⟩ u1).setCell ⟨b,2,none⟩ u2).setCell ⟨b,3,none⟩ u3).setCell ⟨b,4,none⟩ u4).heap[b]?=some (.cells #[u0,u1,u2,u3,u4,a5,a6,a7] t (0,0)):=set_at h3 4 u4
  have h5:((((((w.setCell ⟨b,0,none⟩ u0).setCell ⟨b,1,none⟩ u1).setCell ⟨b,2,none⟩ u2).setCell ⟨b,3,none⟩ u3).setCell ⟨b,4,none⟩ u4).setCell ⟨b,5,none⟩ u5).heap[b]?=some (.cells #[u0,u1,u2,u3,u4,u5,a6,a7] t (0,0)):=set_at h4 5 u5
  have h6:(((((((w.setCell ⟨b,0,none⟩ u0).setCell ⟨b,1,none⟩ u1).setCell ⟨b,2,none⟩ u2).setCell ⟨b,3,none⟩ u3).setCell ⟨b,4,none⟩ u4).setCell ⟨b,5,none⟩ u5).setCell ⟨b,6,none⟩ u6).heap[b]?=some (.cells #[u0,u1,u2,u3,u4,u5,u6,a7] t (0,0)):=set_at h5 6 u6
  have h7:((((((((w.setCell ⟨b,0,none⟩ u0).setCell ⟨b,1,none⟩ u1).setCell ⟨b,2,none⟩ u2).setCell ⟨b,3,none⟩ u3).setCell ⟨b,4,none⟩ u4).setCell ⟨b,5,none⟩ u5).setCell ⟨b,6,none⟩ u6).setCell ⟨b,7,none⟩ u7).heap[b]?=some (.cells #[u0,u1,u2,u3,u4,u5,u6,u7] t (0,0)):=set_at h6 7 u7
  exact⟨h7,(((((((fr_set _ _ _ _).trans (fr_set _ _ _ _)).trans (fr_set _ _ _ _)).trans (fr_set _ _ _ _)).trans (fr_set _ _ _ _)).trans (fr_set _ _ _ _)).trans (fr_set _ _ _ _)).trans (fr_set _ _ _ _)⟩
theorem zeroUnit(w:World):(zeroValue 95).run Tryz.prog w=.ok (.agg #[]) w:=by kernel_rfl
theorem skRead_any(w:World)(x:Option Nat)(b:Nat)(vl vg:Value)(M:PM)(s mb:Nat)(vw:Value)(ps:List Sp)(sn:List Int)(h:PAt w b vl vg M)(hs:SkAt w x b s mb vw ps sn)(hl:M.L.length≤100000)(id:Int)(nd:Nd)(tx:Int)
  (hg:M.get id=(⟨nd.kind,id,tx,nd.body⟩,0)) (hn:nd.good) (hid:id∉sn) (hsn:sn.length≤100000) (hx:∀ k,x=some k→k < w.heap.size) :
  Calls Tryz.prog 67 #[.pointer (some ⟨s,0,none⟩),.int .i64 id] w fun e w'=>∃ vi vk,e=.returned (.tuple #[(Sp.mk ⟨nd.kind,id,tx,nd.body⟩ nd vi vk 0).v,.int .i64 0])∧NdT w' x vi vk nd∧SkAt w' x b s mb vw ps (sn++[id])∧P3.Fr (·=mb) w w':=by
 have hi:=PM.get_in (M:=M) (id:=id) (by rw[hg])
 have hkey:=int_key (z:=id) (by omega) (by omega)
 have HM:=qh hs.seen
 have HG:=qh (fun W (p:PAt W b vl vg M)=>get_any W b vl vg M id p (by omega) (by omega))
 rw[hg] at HG
 simp only[P11.Pg.v] at HG
 have HR:=qh (fun W (b:w.heap.size≤W.heap.size)=>read_any W x id tx nd hn (fun k e=>Nat.lt_of_lt_of_le (hx k e) b))
 have hc0:Maps.has (setOf (H:=Unit) (.agg []) (sn.map fun x=>Lit.int .i64 x)) (.int .i64 id)=false:=by rw[seen_has];simpa using hid
 have HK:=qh hs
 have HP:=qh h
 have n1:=nGet
 have m1:=mGet
 obtain⟨W1,hW1⟩:∃ W1,W1=w.alloc (.cells #[.int .i64 0,.int .i64 0,.int .i64 0,.string ⟨#[]⟩,.int .i64 0,.slice none 0 0,.slice none 0 0,.int .i64 0] 88):=⟨_,rfl⟩
 have b1:Below w.heap.size w W1:=by rw[hW1];exact below_new _ _
 have z1:W1.heap.size=w.heap.size+1:=by rw[hW1];simp
 have r1:W1.heap[w.heap.size]?=some (.cells #[.int .i64 0,.int .i64 0,.int .i64 0,.string ⟨#[]⟩,.int .i64 0,.slice none 0 0,.slice none 0 0,.int .i64 0] 88 (0,0)):=by rw[hW1];exact new_at _ _ _
 obtain⟨W2,hW2⟩:∃ W2,W2=W1.alloc (.cells #[] 95):=⟨_,rfl⟩
 have b2:Below W1.heap.size W1 W2:=by rw[hW2];exact below_new _ _
 have HB2:Hid (Below w.heap.size w W2):=thenBelow b1 b2
 have HR1:=qh (P3.old_below r1 b2)
 have o1:=cell_at (P3.old_below hs.obj b1) 2
 have o2:=cell_at (P3.old_below hs.obj HB2.out) 2
 simp only[qqD,qqE,qqF] at o1 o2
 have hB2:=HB2.out
 have HM1:=qh (hs.seen.fr (S:=fun _=>False) (P3.Fr.of b1) fun f=>f)
 have HM2:=qh (hs.seen.fr (S:=fun _=>False) (P3.Fr.of hB2) fun f=>f)
 have HZ:Hid (W1.heap.size=w.heap.size+1∧W2.heap.size=w.heap.size+2):=⟨z1,by rw[hW2,Go.World.size_alloc,z1]⟩
 clear h hs hg b1 z1 r1 b2 hB2
 go_enter Tryz.func67,Tryz.ntmps67
 go_upto_region 1 with fail
 rw[← hW1]
 clear hW1
 go_upto_region 4 with (first
  | (at_lookup;refine wpList_lookup_own_unit _ rfl _ _ 94 rfl 3 95 (int_keyed Tryz.underlying3) Tryz.underlying94 (zeroUnit _) mb sn.length _ rfl HM1.out _ _ rfl hkey ?_))
 rw[← hW2]
 clear hW2
 go_upto_region 5 with (first
  | (at_mapUpdate;refine wpList_mapUpdate_own _ rfl _ _ _ 94 rfl 3 95 (int_keyed Tryz.underlying3) Tryz.underlying94 (unitElem (H:=Unit)) mb sn.length _ rfl HM2.out (by unfold maxLen;omega) _ _ _ rfl rfl hkey _ [] unitElem_mk ?_;intro w3 hown3 hgrow3))
 have f3:P3.Fr (·=mb) W2 w3:=⟨hgrow3.os,hgrow3.tape,hgrow3.output,hgrow3.size,fun k hk hn=>hgrow3.block k hk fun e=>hn (by cases e;rfl)⟩
 have F3:Hid (P3.Fr (·=mb) w w3):=(P3.Fr.of HB2.out).trans f3
 have hsz:=HK.out.lt (.inr (.inr rfl))
 have P3_:Hid (PAt w3 b vl vg M):=HP.out.fr F3.out fun j hj e=>HK.out.apart HP.out (.inr (.inr e)) hj
 have hns:s≠mb:=fun e=>by
  obtain⟨es,c,h1,_⟩:=HK.out.seen
  have h2:=HK.out.obj
  rw[e,h1] at h2
  cases h2
 have o3:=F3.out.keep HK.out.obj hns
 have HS3:=qh o3
 have q0:=cell_at o3 0
 simp only[qqD,qqE] at q0
 have R3:=qh (f3.keep HR1.out (show ¬ (w.heap.size=mb) by omega))
 have HT3:Hid (FrT x w w3):=FrT.ofFr F3.out fun k cs t hk hs e=>HK.out.notT k cs t (.inr (.inr hk)) hs e
 have HN3:Hid (SeenAt w3 mb (sn++[id])):=by
  unfold SeenAt
  rw[List.map_append,List.map_cons,List.map_nil,setOf_snoc,List.length_append]
  exact hown3
 have Z3:Hid (w.heap.size+2≤w3.heap.size):=by
  have:=hgrow3.size
  have:=HZ.out
  exact (by omega:w.heap.size+2≤w3.heap.size)
 clear f3 hown3 hgrow3 o3 o1 o2 hsz HM HM1 HM2
 unfold pgv at q0
 go_upto_region 8 with (go_at_call 180;(with_reducible refine (HG.out _ P3_.out).mono ?_);rintro e w4 ⟨rfl,hb4⟩;have HB4:=qh hb4;clear hb4)
 obtain⟨W5,hW5⟩:∃ W5,W5=w4.alloc (.cells #[.int .i64 nd.kind,.int .i64 id,.int .i64 tx,.string nd.body] 86):=⟨_,rfl⟩
 obtain⟨pb,hpb⟩:∃ pb,pb=w4.heap.size:=⟨_,rfl⟩
 have hP5:W5.heap[pb]?=some (.cells #[.int .i64 nd.kind,.int .i64 id,.int .i64 tx,.string nd.body] 86 (0,0)):=by rw[hW5,hpb];exact new_at _ _ _
 have b5:Below w3.heap.size w3 W5:=by rw[hW5];exact thenBelow HB4.out (below_new _ _)
 have hp3:w3.heap.size≤pb:=by rw[hpb];exact HB4.out.size
 rw[← hW5,← hpb]
 clear hW5 hpb HB4
 have HP5:=qh hP5
 have B5:=qh b5
 have L5:Hid (w.heap.size≤W5.heap.size):=Nat.le_trans (by have:=Z3.out;omega:w.heap.size≤w3.heap.size) b5.size
 have q5:=cell_at hP5 0
 have q6:=cell_at hP5 1
 have q7:=cell_at hP5 2
 have q8:=cell_at hP5 3
 simp only[qqD,qqE,qqF] at q5 q6 q7 q8
 clear hP5 b5
 go_upto_region 11 with (go_at_call 80;(with_reducible refine (HR.out _ L5.out).mono ?_);rintro e w6 ⟨vi,vk,rfl,hnd,hb6⟩;have HB6:=qh hb6;have HND:=qh hnd;obtain⟨a,n,c,a',n',c',rfl,rfl,_⟩:=hnd.lens;clear hb6 hnd)
 obtain⟨nb,hnb⟩:∃ nb,nb=w6.heap.size:=⟨_,rfl⟩
 obtain⟨W7,hW7⟩:∃ W7,W7=w6.alloc (.cells #[.int .i64 nd.kind,.slice a n c,.slice a' n' c'] 80):=⟨_,rfl⟩
 have hN7:W7.heap[nb]?=some (.cells #[.int .i64 nd.kind,.slice a n c,.slice a' n' c'] 80 (0,0)):=by rw[hW7,hnb];exact new_at _ _ _
 have b7:Below W5.heap.size W5 W7:=by rw[hW7];exact thenBelow HB6.out (below_new _ _)
 have bn:Below w6.heap.size w6 W7:=by rw[hW7];exact below_new _ _
 rw[← hW7,← hnb]
 clear hW7 hnb
 have hP7:=P3.old_below HP5.out b7
 have g1:=cell_at hP7 1
 have g2:=free_at hP7 1
 simp only[qqD,qqE,qqF] at g1
 have hpn:pb≠nb:=fun e=>by
  rw[e,hN7] at hP7
  cases hP7
 go_upto_region 12 with fail
 obtain⟨W8,hW8⟩:∃ W8,W8=W7.setCell ⟨pb,1,none⟩ (.int .i64 id):=⟨_,rfl⟩
 have hP8:W8.heap[pb]?=some (.cells #[.int .i64 nd.kind,.int .i64 id,.int .i64 tx,.string nd.body] 86 (0,0)):=by rw[hW8];exact set_at hP7 1 _
 have hN8:W8.heap[nb]?=some (.cells #[.int .i64 nd.kind,.slice a n c,.slice a' n' c'] 80 (0,0)):=by rw[hW8];exact P3.old_set hN7 _ (Ne.symm hpn) _
 have f8:Below w3.heap.size w3 W8:=by rw[hW8];exact (B5.out.trans (b7.mono B5.out.size)).setCell hp3 _
 have bn8:Below w6.heap.size w6 W7:=bn
 have hnd8:NdT W8 x (.slice a n c) (.slice a' n' c') nd:=by
  rw[hW8]
  refine (HND.out.keep (FrT.of bn)).keep (FrT.ofFr (S:=(·=pb)) ⟨rfl,rfl,rfl,by simp[World.setCell],fun k _ hk=>Below.heap_setCell _ _ _ _ hk⟩ fun k cs t hk hs e=>?_)
  rw[hk,hP7] at e
  cases e
  rcases hs.1 with h9|h9 <;> cases h9
 rw[← hW8]
 clear hW8 g1 g2 hP7 hN7 b7 bn bn8 q5 q6 q7 q8 q0
 have t0:=cell_at hP8 0
 have t1:=cell_at hP8 1
 have t2:=cell_at hP8 2
 have t3:=cell_at hP8 3
 have u0:=cell_at hN8 0
 have u1:=cell_at hN8 1
 have u2:=cell_at hN8 2
 simp only[qqD,qqE,qqF] at t0 t1 t2 t3 u0 u1 u2
 have hR8:=P3.old_below R3.out f8
 have v0:=cell_at hR8 0
 have v1:=cell_at hR8 1
 have v2:=cell_at hR8 2
 have v3:=cell_at hR8 3
 have v4:=cell_at hR8 4
 have v5:=cell_at hR8 5
 have v6:=cell_at hR8 6
 have v7:=cell_at hR8 7
 simp only[qqD,qqE,qqF] at v0 v1 v2 v3 v4 v5 v6 v7
 have z0:=free_at hR8 0
 have z1:=free_at hR8 1
 have z2:=free_at hR8 2
 have z3:=free_at hR8 3
 have z4:=free_at hR8 4
 have z5:=free_at hR8 5
 have z6:=free_at hR8 6
 have z7:=free_at hR8 7
 have HR8:=qh hR8
 have HND8:=qh hnd8
 have F8:=qh f8
 clear hP8 hN8 hR8 hnd8 f8
 go_wp2
 have hput:=put8 HR8.out (.int .i64 nd.kind) (.int .i64 id) (.int .i64 tx) (.string nd.body) (.int .i64 nd.kind) (.slice a n c) (.slice a' n' c') (.int .i64 0)
 clear t0 t1 t2 t3 u0 u1 u2 v0 v1 v2 v3 v4 v5 v6 v7 z0 z1 z2 z3 z4 z5 z6 z7
 obtain⟨W9,hW9⟩:∃ W9,W9=((((((((W8.setCell ⟨w.heap.size,0,none⟩ (.int .i64 nd.kind)).setCell ⟨w.heap.size,1,none⟩ (.int .i64 id)).setCell ⟨w.heap.size,2,none⟩ (.int .i64 tx)).setCell ⟨w.heap.size,3,none⟩ (.string nd.body)).setCell ⟨w.heap.size,4,none⟩ (.int .i64 nd.kind)).setCell ⟨w.heap.size,5,none⟩ (.slice a n c)).setCell ⟨w.heap.size,6,none⟩ (.slice a' n' c')).setCell ⟨w.heap.size,7,none⟩ (.int .i64 0)):=⟨_,rfl⟩
 rw[← hW9] at hput ⊢
 clear hW9
 obtain⟨hr9,f9⟩:=hput
 have ft9:FrT x W8 W9:=FrT.ofFr f9 fun k cs t hk hs e=>by
  rw[hk,HR8.out] at e
  cases e
  rcases hs.1 with h9|h9 <;> cases h9
 have sk3:SkAt w3 x b s mb vw ps (sn++[id]):=⟨HS3.out,owns_fr HK.out.row F3.out fun j e q=>HK.out.row_mb e q,fun p hp=>(HK.out.nd p hp).keep HT3.out,HN3.out⟩
 refine bodyPost_ret (step_result2 rfl _ _ w.heap.size _ rfl hr9 rfl) rfl ⟨_,_,rfl,HND8.out.keep ft9,?_,?_⟩
 ·refine (sk3.below F8.out).fr f9 ft9 fun j hj e=>?_
  have:=HK.out.lt hj
  omega
 ·refine⟨f9.os.trans (F8.out.os.trans F3.out.os),f9.tape.trans (F8.out.tape.trans F3.out.tape),f9.output.trans (F8.out.output.trans F3.out.output),Nat.le_trans F3.out.size (Nat.le_trans F8.out.size f9.size),fun k hk hn=>?_⟩
  rw[f9.block k (Nat.lt_of_lt_of_le hk (Nat.le_trans F3.out.size F8.out.size)) (by omega),F8.out.block k (Nat.lt_of_lt_of_le hk F3.out.size),F3.out.block k hk hn]
end Go.Proofs.YtjepgclnbbpnaaaGreat.P12
namespace Go.Proofs.YtjepgclnbbpnaaaGreat.P12
open Go Go.RowKit Go.Lib PK
structure AppD (W w2:World) (base e n:Nat) (v v':Value) (N:Nat) (xs cs:List Value):Prop where
 own:w2.ownsRow base e n v' (N+1) (xs++cs)
 grow:(W.drew.alloc (.cells cs.toArray e)).grownBy w2 v.ownBlock
 at_:v'.ownBlock=v.ownBlock∨v'.ownBlock=some (W.drew.alloc (.cells cs.toArray e)).heap.size
theorem AppD.size{W w2:World}{base e n:Nat}{v v':Value}{N:Nat}{xs cs:List Value}(h:AppD W w2 base e n v v' N xs cs):W.heap.size < w2.heap.size:=by
 have:=h.grow.size
 simp at this
 omega
theorem AppD.fr{W w2:World}{base e n:Nat}{v v':Value}{N:Nat}{xs cs:List Value}(h:AppD W w2 base e n v v' N xs cs):P3.Fr (fun k=>v.ownBlock=some k) W w2:=
 ⟨h.grow.os,h.grow.tape,h.grow.output,Nat.le_of_lt h.size,fun k hk hn=>by
  rw[h.grow.block k (by simp;omega) fun e=>hn e.symm]
  exact Below.heap_alloc _ _ k hk⟩
theorem AppD.new{W w2:World}{base e n:Nat}{v v':Value}{N:Nat}{xs cs:List Value}(h:AppD W w2 base e n v v' N xs cs){k:Nat}(hk:v'.ownBlock=some k):v.ownBlock=some k∨W.heap.size≤k:=by
 rcases h.at_ with e|e
 ·exact .inl (e ▸ hk)
 ·rw[e] at hk
  cases hk
  refine .inr ?_
  simp
end Go.Proofs.YtjepgclnbbpnaaaGreat.P12
namespace Go.Proofs.YtjepgclnbbpnaaaGreat.P12
open Go Go.RowKit Go.Lib PK
open P9 (It kb)
def All2{α β:Type}(R:α→β→Prop):List α→List β→Prop
 | [],[]=>True
 | x::xs,y::ys=>R x y∧All2 R xs ys
 | _,_=>False
theorem All2.len{α β:Type}{R:α→β→Prop}:∀ {l:List α} {m:List β},All2 R l m→l.length=m.length
 | [],[],_=>rfl
 | _::_,_::_,h=>by rw[List.length_cons,List.length_cons,h.2.len]
 | [],_::_,h=>h.elim
 | _::_,[],h=>h.elim
theorem All2.app{α β:Type}{R:α→β→Prop}:∀ {l l':List α} {m m':List β},All2 R l m→All2 R l' m'→All2 R (l++l') (m++m')
 | [],_,[],_,_,k=>k
 | _::_,_,_::_,_,h,k=>⟨h.1,h.2.app k⟩
 | [],_,_::_,_,h,_=>h.elim
 | _::_,_,[],_,h,_=>h.elim
theorem All2.at_{α β:Type}{R:α→β→Prop}:∀ {l:List α} {m:List β},All2 R l m→∀ {i:Nat} {a:α} {b:β},l[i]?=some a→m[i]?=some b→R a b
 | [],[],_,i,a,b,h1,_=>by simp at h1
 | _::_,_::_,h,0,a,b,h1,h2=>by
  simp only[List.getElem?_cons_zero,Option.some.injEq] at h1 h2
  subst h1 h2
  exact h.1
 | _::_,_::_,h,i+1,a,b,h1,h2=>h.2.at_ (by simpa using h1) (by simpa using h2)
 | [],_::_,h,_,_,_,_,_=>h.elim
 | _::_,[],h,_,_,_,_,_=>h.elim
theorem All2.snoc{α β:Type}{R:α→β→Prop}:∀ {l:List α} {m:List β} {b:β},All2 R l (m++[b])→∃ l' a,l=l'++[a]∧All2 R l' m∧R a b
 | [],[],_,h=>h.elim
 | [a],[],_,h=>⟨[],a,rfl,trivial,h.1⟩
 | _::_::_,[],_,h=>h.2.elim
 | [],_::_,_,h=>h.elim
 | x::l,y::m,b,h=>by
  obtain⟨l',a,rfl,h1,h2⟩:=All2.snoc (l:=l) (m:=m) h.2
  exact⟨x::l',a,rfl,⟨h.1,h1⟩,h2⟩
def Fr.kids(f:Fr):List P10.It:=f.a++f.k::f.b
def StTw(M:PM)(p:Sp)(f:Fr):Prop:=p.nd=.tw f.kids∧p.at_=(f.a.length:Nat)∧p.pg.id=f.id∧M.get f.id=(p.pg,0)
def StLf(M:PM)(p:Sp)(id:Int)(l:List It)(k:Nat):Prop:=p.nd=.lf l∧p.at_=(k:Nat)∧p.pg.id=id∧M.get id=(p.pg,0)
def Byk(fs:List Fr)(key:ByteArray):Prop:=∀ f∈fs,(f.a=[]∨kb key f.k.key=false)∧∀ q∈f.b,kb key q.key=true
theorem Way.path{M:PM}{D:Nat}{root:Int}:∀ {fs:List Fr} {d:Nat} {id:Int} {la lb:List It} {ia ib:List Int},Way M D root fs d id la lb ia ib→∀ f∈fs,f.id∈ia
 | [],_,_,_,_,_,_,_,f,hf=>(List.not_mem_nil hf).elim
 | g::fs,d,id,_,_,_,_,⟨_,_,l1,i1,l2,i2,la,lb,ia,ib,_,_,_,_,hw,_,_,e,_⟩,f,hf=>by
  rw[e]
  rcases List.mem_cons.1 hf with rfl|hf
  ·exact List.mem_append_right _ List.mem_cons_self
  ·exact List.mem_append_left _ (hw.path f hf)
theorem Way.pages{M:PM}{D:Nat}{root:Int}:∀ {fs:List Fr} {d:Nat} {id:Int} {la lb:List It} {ia ib:List Int},Way M D root fs d id la lb ia ib→∀ f∈fs,twigAt M f.id f.kids
 | [],_,_,_,_,_,_,_,f,hf=>(List.not_mem_nil hf).elim
 | g::fs,d,id,_,_,_,_,⟨_,h,l1,i1,l2,i2,la,lb,ia,ib,_,_,_,_,hw,_⟩,f,hf=>by
  rcases List.mem_cons.1 hf with rfl|hf
  ·exact h
  ·exact hw.pages f hf
theorem Dn.fresh{M:PM}{D:Nat}{root:Int}{key:ByteArray}{L:List It}{ids:List Int}{fs:List Fr}{d:Nat}{id:Int}{l:List It}{i:List Int}(h:Dn M D root key L ids fs d id l i)(hn:ids.Nodup) :
  id∈ids∧∀ f∈fs,f.id≠id:=by
 obtain⟨la,lb,ia,ib,hw,ht,hr,_,hi,_,_⟩:=h
 obtain⟨r,rfl⟩:=ht.head
 obtain⟨_,_,_,h1,_⟩:=Dn_ids hi hn
 refine⟨by rw[hi];simp,fun f hf e=>?_⟩
 exact (h1 f.id (hw.path f hf)).1 (by rw[e];exact List.mem_cons_self)
theorem Dn.tree{M:PM}{D:Nat}{root:Int}{key:ByteArray}{L:List It}{ids:List Int}{fs:List Fr}{d:Nat}{id:Int}{l:List It}{i:List Int}(h:Dn M D root key L ids fs d id l i):TreeAt M d id l i:=by
 obtain⟨_,_,_,_,_,ht,_⟩:=h
 exact ht
theorem Dn.step'{M:PM}{D:Nat}{root:Int}{key:ByteArray}{L:List It}{ids:List Int}{fs:List Fr}{d:Nat}{id:Int}{l:List It}{i:List Int}(h:Dn M D root key L ids fs (d+2) id l i) :
  ∃ a k b,twigAt M id (a++k::b)∧P10.findK (a++k::b) key=(a.length:Nat)∧((a=[]∨kb key k.key=false)∧∀ q∈b,kb key q.key=true)∧∃ l1 i1,Dn M D root key L ids (⟨id,a,k,b⟩::fs) (d+1) k.page l1 i1:=by
 obtain⟨la,lb,ia,ib,hw,⟨ks,is,ht,hs,rfl⟩,hr,rfl,rfl,h1,h2⟩:=h
 obtain⟨a,k,b,rfl,hf,ha,hb⟩:=find_split ht.choose_spec.2.1 ht.choose_spec.2.2.2 key
 obtain⟨l1,i1,l2,l3,i2,i3,w1,w2,w3,rfl,rfl,w4,w5⟩:=hw.down ht hs hr h1 h2 ha hb
 exact⟨a,k,b,ht,hf,⟨ha,hb⟩,l1,i1,_,_,_,_,w1,w2,w3,by simp only[List.append_assoc],by simp only[List.append_assoc,List.cons_append],w4,w5⟩
structure Down (M:PM) (d:Nat) (id:Int) (key:ByteArray) (l:List It) (i:List Int) (ts:List Sp) (pl:Sp) (fs:List Fr) (id':Int) (l':List It) (i':List Int):Prop where
 dn:Dn M d id key l i fs 1 id' l' i'
 tw:All2 (StTw M) ts fs.reverse
 lf:StLf M pl id' l' (P9.lowK l' key)
 by_:Byk fs key
structure Going (M:PM) (d:Nat) (id:Int) (key:ByteArray) (l:List It) (i:List Int) (ts:List Sp) (fs:List Fr) (e:Nat) (id':Int) (l':List It) (i':List Int):Prop where
 dn:Dn M d id key l i fs (e+1) id' l' i'
 tw:All2 (StTw M) ts fs.reverse
 by_:Byk fs key
theorem Going.start{M:PM}{d:Nat}{id:Int}(key:ByteArray){l:List It}{i:List Int}(h:TreeAt M (d+1) id l i):Going M (d+1) id key l i [] [] d id l i:=⟨Dn.start key h,trivial,fun _ h=>(List.not_mem_nil h).elim⟩
theorem Going.len{M:PM}{d:Nat}{id:Int}{key:ByteArray}{l:List It}{i:List Int}{ts:List Sp}{fs:List Fr}{e:Nat}{id':Int}{l':List It}{i':List Int}(h:Going M d id key l i ts fs e id' l' i'):e+1+ts.length=d:=by
 have:=h.dn.len
 have:=h.tw.len
 rw[List.length_reverse] at this
 omega
def pathI(fs:List Fr):List Int:=fs.reverse.map (·.id)
theorem Going.twig{M:PM}{d:Nat}{id:Int}{key:ByteArray}{l:List It}{i:List Int}{ts:List Sp}{fs:List Fr}{e:Nat}{id':Int}{l':List It}{i':List Int}(h:Going M d id key l i ts fs (e+1) id' l' i') :
  ∃ (a:List P10.It) (k:P10.It) (b:List P10.It),twigAt M id' (a++k::b)∧P10.findK (a++k::b) key=(a.length:Nat)∧∀ p:Sp,StTw M p ⟨id',a,k,b⟩→∃ l1 i1,Going M d id key l i (ts++[p]) (⟨id',a,k,b⟩::fs) e k.page l1 i1:=by
 obtain⟨a,k,b,h1,h2,h3,l1,i1,h4⟩:=h.dn.step'
 refine⟨a,k,b,h1,h2,fun p hp=>⟨l1,i1,h4,?_,fun f hf=>?_⟩⟩
 ·rw[List.reverse_cons]
  exact h.tw.app ⟨hp,trivial⟩
 ·rcases List.mem_cons.1 hf with rfl|hf
  ·exact h3
  ·exact h.by_ f hf
theorem Going.leaf{M:PM}{d:Nat}{id:Int}{key:ByteArray}{l:List It}{i:List Int}{ts:List Sp}{fs:List Fr}{id':Int}{l':List It}{i':List Int}(h:Going M d id key l i ts fs 0 id' l' i'){p:Sp}(hp:StLf M p id' l' (P9.lowK l' key)) :
  Down M d id key l i ts p fs id' l' i':=⟨h.dn,h.tw,hp,h.by_⟩
theorem infoEStep:(Tryz.prog.info? 88).map (fun i=>(i.zero,i.size,i.bytes))=some (some (Value.agg #[.int .i64 0,.int .i64 0,.int .i64 0,.string ⟨#[]⟩,.int .i64 0,.slice none 0 0,.slice none 0 0,.int .i64 0]),8,104):=by kernel_rfl
theorem SkAt.push{W w2:World}{x:Option Nat}{b s mb:Nat}{vw v':Value}{ps:List Sp}{sn:List Int}(h:SkAt W x b s mb vw ps sn)(p:Sp)(hp:NdT W x p.vi p.vk p.nd)
  (ha:AppD W w2 0 88 8 vw v' ps.length (ps.map Sp.cells).flatten p.cells) :
  SkAt (w2.setCell ⟨s,1,none⟩ v') x b s mb v' (ps++[p]) sn∧P3.Fr (SS s mb vw) W (w2.setCell ⟨s,1,none⟩ v')∧FrT x W (w2.setCell ⟨s,1,none⟩ v'):=by
 have f1:P3.Fr (SS s mb vw) W w2:=ha.fr.mono fun k _ hk=>.inr (.inl hk)
 have f2:P3.Fr (SS s mb vw) W (w2.setCell ⟨s,1,none⟩ v'):=f1.trans ((fr_set w2 s 1 v').mono fun k _ hk=>.inl hk)
 have ft:FrT x W (w2.setCell ⟨s,1,none⟩ v'):=FrT.ofFr f2 h.notT
 have o2:=ha.fr.keep h.obj fun e=>h.row_s e rfl
 have hs:s < W.heap.size:=h.lt (.inl rfl)
 have hn:∀ j,v'.ownBlock=some j→j≠s:=fun j hj e=>by
  rcases ha.new hj with e2|e2
  ·exact h.row_s e2 e
  ·omega
 refine⟨⟨?_,?_,?_,?_⟩,f2,ft⟩
 ·rw[set_at o2 1]
  rfl
 ·have hr:=ha.own
  rw[List.map_append,List.flatten_append,List.map_cons,List.map_nil,List.flatten_cons,List.flatten_nil,List.append_nil,List.length_append,List.length_singleton]
  exact owns_fr hr (fr_set w2 s 1 v') fun j hj e=>hn j hj e
 ·intro q hq
  rcases List.mem_append.1 hq with hq|hq
  ·exact (h.nd q hq).keep ft
  ·cases List.mem_singleton.1 hq
   exact hp.keep ft
 ·have h1:SeenAt w2 mb sn:=h.seen.fr ha.fr fun e=>h.row_mb e rfl
  exact h1.fr (fr_set w2 s 1 v') fun e=>h.s_mb e.symm
end Go.Proofs.YtjepgclnbbpnaaaGreat.P12
