/-
  Texts of the proofs of SaidOrd12.
-/
import Derived.Test.YtjepgclnbbpnaaaGreatMs16
set_option linter.unusedVariables false
set_option linter.unusedSimpArgs false
set_option maxHeartbeats 8000000
set_option maxRecDepth 100000
namespace Go.Proofs.YtjepgclnbbpnaaaGreat.P12
open Go Go.RowKit Go.Lib PK
open P11 (Pg cellsP infoEPages cellsP_snoc)
def CS(c:Nat)(vm vs vo:Value)(k:Nat):Prop:=k=c∨vm.ownBlock=some k∨vs.ownBlock=some k∨vo.ownBlock=some k
structure ChAt (w:World) (s c:Nat) (key:ByteArray) (vm vs vo:Value) (made:List Int) (sets:List Pg) (gone:List Int):Prop where
 obj:w.heap[c]?=some (.cells #[.pointer (some ⟨s,0,none⟩),.string key,vm,vs,vo] 76 (0,0))
 rm:w.ownsRow 0 3 1 vm made.length (cellsZ made)
 rs:w.ownsRow 0 86 4 vs sets.length (cellsP sets).flatten
 ro:w.ownsRow 0 3 1 vo gone.length (cellsZ gone)
 ne:∀ k,vm.ownBlock=some k→vo.ownBlock≠some k
structure Cg where
 b:Nat
 s:Nat
 mb:Nat
 c:Nat
 vl:Value
 vg:Value
 vw:Value
 vm:Value
 vs:Value
 vo:Value
 M:PM
 ps:List Sp
 sn:List Int
 key:ByteArray
 made:List Int
 sets:List Pg
 gone:List Int
structure CAt (w:World) (G:Cg):Prop where
 pg:PAt w G.b G.vl G.vg G.M
 sk:SkAt w none G.b G.s G.mb G.vw G.ps G.sn
 ch:ChAt w G.s G.c G.key G.vm G.vs G.vo G.made G.sets G.gone
 ap:∀ k,CS G.c G.vm G.vs G.vo k→¬ PS G.b G.vl G.vg k
def Cg.S(G:Cg)(k:Nat):Prop:=PS G.b G.vl G.vg k∨SS G.s G.mb G.vw k∨CS G.c G.vm G.vs G.vo k
theorem row_kind{w:World}{lo e n m:Nat}{v:Value}{xs:List Value}(h:w.ownsRow lo e n v m xs){k:Nat}(hk:v.ownBlock=some k):∃ cs,w.heap[k]?=some (.cells cs e (0,0)):=by
 rcases h.2 with ⟨rfl,_⟩|⟨g,cap,cur,rfl,_,hg,_⟩
 ·cases hk
 ·cases hk
  exact⟨_,hg⟩
theorem ChAt.kinds{w:World}{s c:Nat}{key:ByteArray}{vm vs vo:Value}{made:List Int}{sets:List Pg}{gone:List Int}(h:ChAt w s c key vm vs vo made sets gone){k:Nat}(hk:CS c vm vs vo k) :
  ∃ cs t,w.heap[k]?=some (.cells cs t (0,0))∧(t=76∨t=3∨t=86):=by
 rcases hk with rfl|hk|hk|hk
 ·exact⟨_,_,h.obj,.inl rfl⟩
 ·obtain⟨cs,e⟩:=row_kind h.rm hk
  exact⟨cs,_,e,.inr (.inl rfl)⟩
 ·obtain⟨cs,e⟩:=row_kind h.rs hk
  exact⟨cs,_,e,.inr (.inr rfl)⟩
 ·obtain⟨cs,e⟩:=row_kind h.ro hk
  exact⟨cs,_,e,.inr (.inl rfl)⟩
theorem ChAt.fr{S:Nat→Prop}{w w':World}{s c:Nat}{key:ByteArray}{vm vs vo:Value}{made:List Int}{sets:List Pg}{gone:List Int}(h:ChAt w s c key vm vs vo made sets gone)(k:P3.Fr S w w')(hn:∀ j,CS c vm vs vo j→¬ S j):ChAt w' s c key vm vs vo made sets gone:=
 ⟨k.keep h.obj (hn _ (.inl rfl)),owns_fr h.rm k fun j e=>hn j (.inr (.inl e)),owns_fr h.rs k fun j e=>hn j (.inr (.inr (.inl e))),owns_fr h.ro k fun j e=>hn j (.inr (.inr (.inr e))),h.ne⟩
theorem CAt.apart{w:World}{G:Cg}(h:CAt w G){k:Nat}(h1:SS G.s G.mb G.vw k)(h2:CS G.c G.vm G.vs G.vo k):False:=by
 obtain⟨cs,t,e,ht⟩:=h.ch.kinds h2
 rcases h.sk.kinds h1 with ⟨cs',t',e',ht'⟩|⟨es,c,e'⟩
 ·rw[e] at e'
  cases e'
  rcases ht with rfl|rfl|rfl <;> rcases ht' with ht'|ht' <;> cases ht'
 ·rw[e] at e'
  cases e'
theorem CAt.lt{w:World}{G:Cg}(h:CAt w G){k:Nat}(hk:G.S k):k < w.heap.size:=by
 rcases hk with hk|hk|hk
 ·obtain⟨_,_,e,_⟩:=h.pg.cells_ hk
  exact lt_of_block e
 ·exact h.sk.lt hk
 ·obtain⟨_,_,e,_⟩:=h.ch.kinds hk
  exact lt_of_block e
theorem CAt.notT{w:World}{G:Cg}(h:CAt w G)(x:Option Nat):NotT x w G.S:=fun k cs t hk hs e=>by
 rcases hk with hk|hk|hk
 ·exact h.pg.notT x k cs t hk hs e
 ·exact h.sk.notT k cs t hk hs e
 ·obtain⟨cs',t',e',ht⟩:=h.ch.kinds hk
  rw[e] at e'
  cases e'
  rcases hs.1 with rfl|rfl <;> rcases ht with ht|ht|ht <;> cases ht
theorem CAt.over{S:Nat→Prop}{w w':World}{G:Cg}(h:CAt w G)(k:P3.Fr S w w')(kt:FrT none w w')(hn:∀ j,G.S j→¬ S j):CAt w' G:=
 ⟨h.pg.fr k fun j e=>hn j (.inl e),h.sk.fr k kt fun j e=>hn j (.inr (.inl e)),h.ch.fr k fun j e=>hn j (.inr (.inr e)),h.ap⟩
theorem CAt.below{w w':World}{G:Cg}(h:CAt w G)(k:Below w.heap.size w w'):CAt w' G:=h.over (P3.Fr.of (S:=fun _=>False) k) (FrT.of k) fun _ _ f=>f
structure Went (w w':World) (G G':Cg):Prop where
 at_:CAt w' G'
 fr:P3.Fr G.S w w'
 new:∀ k,G'.S k→G.S k∨w.heap.size≤k
 ft:FrT none w w'
theorem Went.refl{w:World}{G:Cg}(h:CAt w G):Went w w G G:=⟨h,P3.Fr.refl _ _,fun _ k=>.inl k,FrT.refl _ _⟩
theorem Went.trans{w w' w2:World}{G G' G2:Cg}(h:Went w w' G G')(k:Went w' w2 G' G2):Went w w2 G G2:=by
 refine⟨k.at_,frThen h.fr k.fr fun j hj hs=>?_,fun j hs=>?_,h.ft.trans k.ft⟩
 ·rcases h.new j hs with h1|h1
  ·exact h1
  ·omega
 ·rcases k.new j hs with h1|h1
  ·exact h.new j h1
  ·exact .inr (Nat.le_trans h.fr.size h1)
theorem Went.below{w w':World}{G:Cg}(h:CAt w G)(k:Below w.heap.size w w'):Went w w' G G:=⟨h.below k,P3.Fr.of k,fun _ e=>.inl e,FrT.of k⟩
theorem Went.then{w w' w2:World}{G G':Cg}(h:Went w w' G G')(k:Below w'.heap.size w' w2):Went w w2 G G':=h.trans (Went.below h.at_ k)
theorem Went.box{w w':World}{G G':Cg}(h:Went w w' G G'){k:Nat}{o:Obj}(hk:w.heap[k]?=some o)(hn:¬ G.S k):w'.heap[k]?=some o∧¬ G'.S k:=by
 refine⟨h.fr.keep hk hn,fun e=>?_⟩
 rcases h.new k e with h1|h1
 ·exact hn h1
 ·have:=lt_of_block hk
  omega
theorem infoENs12:(Tryz.prog.info? 3).map (fun i=>(i.zero,i.size,i.bytes))=some (some (Value.int .i64 0),1,8):=by kernel_rfl
theorem CAt.pushSet{W w2:World}{G:Cg}{v':Value}(h:CAt W G)(p:Pg)(ha:AppD W w2 0 86 4 G.vs v' G.sets.length (cellsP G.sets).flatten p.cells) :
  Went W (w2.setCell ⟨G.c,3,none⟩ v') G { G with vs:=v',sets:=G.sets++[p] }:=by
 have hcl:G.c < W.heap.size:=h.lt (.inr (.inr (.inl rfl)))
 have hkc:∀ k,G.vs.ownBlock=some k→k≠G.c:=fun k hk e=>by
  obtain⟨cs,e2⟩:=row_kind h.ch.rs hk
  rw[e,h.ch.obj] at e2
  cases e2
 have hkm:∀ k,G.vs.ownBlock=some k→G.vm.ownBlock≠some k:=fun k hk e=>by
  obtain⟨cs,e2⟩:=row_kind h.ch.rs hk
  obtain⟨cs',e3⟩:=row_kind h.ch.rm e
  rw[e2] at e3
  cases e3
 have hko:∀ k,G.vs.ownBlock=some k→G.vo.ownBlock≠some k:=fun k hk e=>by
  obtain⟨cs,e2⟩:=row_kind h.ch.rs hk
  obtain⟨cs',e3⟩:=row_kind h.ch.ro e
  rw[e2] at e3
  cases e3
 have hcm:∀ k,G.vm.ownBlock=some k→k≠G.c:=fun k hk e=>by
  obtain⟨cs,e2⟩:=row_kind h.ch.rm hk
  rw[e,h.ch.obj] at e2
  cases e2
 have hco:∀ k,G.vo.ownBlock=some k→k≠G.c:=fun k hk e=>by
  obtain⟨cs,e2⟩:=row_kind h.ch.ro hk
  rw[e,h.ch.obj] at e2
  cases e2
 have f1:P3.Fr (fun k=>k=G.c∨G.vs.ownBlock=some k) W (w2.setCell ⟨G.c,3,none⟩ v'):=(ha.fr.mono fun k _ hk=>.inr hk).trans ((fr_set w2 G.c 3 v').mono fun k _ hk=>.inl hk)
 have f2:P3.Fr G.S W (w2.setCell ⟨G.c,3,none⟩ v'):=f1.mono fun k _ hk=>by
  rcases hk with rfl|hk
  ·exact .inr (.inr (.inl rfl))
  ·exact .inr (.inr (.inr (.inr (.inl hk))))
 have ft:=FrT.ofFr f2 (h.notT none)
 have hcs:∀ k,(k=G.c∨G.vs.ownBlock=some k)→CS G.c G.vm G.vs G.vo k:=fun k hk=>hk.elim .inl fun e=>.inr (.inr (.inl e))
 have hob:(w2.setCell ⟨G.c,3,none⟩ v').heap[G.c]?=some (.cells #[.pointer (some ⟨G.s,0,none⟩),.string G.key,G.vm,v',G.vo] 76 (0,0)):=by
  rw[set_at (ha.fr.keep h.ch.obj fun e=>hkc _ e rfl) 3]
  rfl
 refine⟨⟨h.pg.fr f1 fun j hj e=>h.ap j (hcs j e) hj,h.sk.fr f1 ft fun j hj e=>h.apart hj (hcs j e),⟨hob,owns_fr h.ch.rm f1 fun j hj e=>?_,?_,owns_fr h.ch.ro f1 fun j hj e=>?_,h.ch.ne⟩,fun k hk hp=>?_⟩,f2,fun k hk=>?_,ft⟩
 ·rcases e with e|e
  ·exact hcm j hj e
  ·exact hkm j e hj
 ·have hr:=ha.own
  rw[List.length_append,List.length_singleton]
  have e:(cellsP (G.sets++[p])).flatten=(cellsP G.sets).flatten++p.cells:=by simp[cellsP]
  rw[e]
  refine owns_fr hr (fr_set w2 G.c 3 v') fun j hj e2=>?_
  rcases ha.new hj with e3|e3
  ·exact hkc j e3 e2
  ·omega
 ·rcases e with e|e
  ·exact hco j hj e
  ·exact hko j e hj
 ·rcases hk with rfl|hk|hk|hk
  ·exact h.ap _ (.inl rfl) hp
  ·exact h.ap _ (.inr (.inl hk)) hp
  ·rcases ha.new hk with e3|e3
   ·exact h.ap _ (.inr (.inr (.inl e3))) hp
   ·have:=h.lt (.inl hp)
    omega
  ·exact h.ap _ (.inr (.inr (.inr hk))) hp
 ·rcases hk with hk|hk|rfl|hk|hk|hk
  ·exact .inl (.inl hk)
  ·exact .inl (.inr (.inl hk))
  ·exact .inl (.inr (.inr (.inl rfl)))
  ·exact .inl (.inr (.inr (.inr (.inl hk))))
  ·exact (ha.new hk).imp (fun e=>.inr (.inr (.inr (.inr (.inl e))))) fun e=>e
  ·exact .inl (.inr (.inr (.inr (.inr (.inr hk)))))
theorem CAt.pushGone{W w2:World}{G:Cg}{v':Value}(h:CAt W G)(z:Int)(ha:AppD W w2 0 3 1 G.vo v' G.gone.length (cellsZ G.gone) [.int .i64 z]) :
  Went W (w2.setCell ⟨G.c,4,none⟩ v') G { G with vo:=v',gone:=G.gone++[z] }:=by
 have hcl:G.c < W.heap.size:=h.lt (.inr (.inr (.inl rfl)))
 have hkc:∀ k,G.vo.ownBlock=some k→k≠G.c:=fun k hk e=>by
  obtain⟨cs,e2⟩:=row_kind h.ch.ro hk
  rw[e,h.ch.obj] at e2
  cases e2
 have hkm:∀ k,G.vo.ownBlock=some k→G.vs.ownBlock≠some k:=fun k hk e=>by
  obtain⟨cs,e2⟩:=row_kind h.ch.ro hk
  obtain⟨cs',e3⟩:=row_kind h.ch.rs e
  rw[e2] at e3
  cases e3
 have hcm:∀ k,G.vm.ownBlock=some k→k≠G.c:=fun k hk e=>by
  obtain⟨cs,e2⟩:=row_kind h.ch.rm hk
  rw[e,h.ch.obj] at e2
  cases e2
 have hcs':∀ k,G.vs.ownBlock=some k→k≠G.c:=fun k hk e=>by
  obtain⟨cs,e2⟩:=row_kind h.ch.rs hk
  rw[e,h.ch.obj] at e2
  cases e2
 have f1:P3.Fr (fun k=>k=G.c∨G.vo.ownBlock=some k) W (w2.setCell ⟨G.c,4,none⟩ v'):=(ha.fr.mono fun k _ hk=>.inr hk).trans ((fr_set w2 G.c 4 v').mono fun k _ hk=>.inl hk)
 have f2:P3.Fr G.S W (w2.setCell ⟨G.c,4,none⟩ v'):=f1.mono fun k _ hk=>by
  rcases hk with rfl|hk
  ·exact .inr (.inr (.inl rfl))
  ·exact .inr (.inr (.inr (.inr (.inr hk))))
 have ft:=FrT.ofFr f2 (h.notT none)
 have hcs:∀ k,(k=G.c∨G.vo.ownBlock=some k)→CS G.c G.vm G.vs G.vo k:=fun k hk=>hk.elim .inl fun e=>.inr (.inr (.inr e))
 have hob:(w2.setCell ⟨G.c,4,none⟩ v').heap[G.c]?=some (.cells #[.pointer (some ⟨G.s,0,none⟩),.string G.key,G.vm,G.vs,v'] 76 (0,0)):=by
  rw[set_at (ha.fr.keep h.ch.obj fun e=>hkc _ e rfl) 4]
  rfl
 refine⟨⟨h.pg.fr f1 fun j hj e=>h.ap j (hcs j e) hj,h.sk.fr f1 ft fun j hj e=>h.apart hj (hcs j e),⟨hob,owns_fr h.ch.rm f1 fun j hj e=>?_,owns_fr h.ch.rs f1 fun j hj e=>?_,?_,fun k hk e=>?_⟩,fun k hk hp=>?_⟩,f2,fun k hk=>?_,ft⟩
 ·rcases e with e|e
  ·exact hcm j hj e
  ·exact h.ch.ne j hj e
 ·rcases e with e|e
  ·exact hcs' j hj e
  ·exact hkm j e hj
 ·have hr:=ha.own
  rw[List.length_append,List.length_singleton]
  have e:cellsZ (G.gone++[z])=cellsZ G.gone++[.int .i64 z]:=by simp[cellsZ]
  rw[e]
  refine owns_fr hr (fr_set w2 G.c 4 v') fun j hj e2=>?_
  rcases ha.new hj with e3|e3
  ·exact hkc j e3 e2
  ·omega
 ·rcases ha.new e with e3|e3
  ·exact h.ch.ne k hk e3
  ·have:=h.lt (.inr (.inr (.inr (.inl hk))))
   omega
 ·rcases hk with rfl|hk|hk|hk
  ·exact h.ap _ (.inl rfl) hp
  ·exact h.ap _ (.inr (.inl hk)) hp
  ·exact h.ap _ (.inr (.inr (.inl hk))) hp
  ·rcases ha.new hk with e3|e3
   ·exact h.ap _ (.inr (.inr (.inr e3))) hp
   ·have:=h.lt (.inl hp)
    omega
 ·rcases hk with hk|hk|rfl|hk|hk|hk
  ·exact .inl (.inl hk)
  ·exact .inl (.inr (.inl hk))
  ·exact .inl (.inr (.inr (.inl rfl)))
  ·exact .inl (.inr (.inr (.inr (.inl hk))))
  ·exact .inl (.inr (.inr (.inr (.inr (.inl hk)))))
  ·exact (ha.new hk).imp (fun e=>.inr (.inr (.inr (.inr (.inr e))))) fun e=>e
end Go.Proofs.YtjepgclnbbpnaaaGreat.P12
namespace Go.Proofs.YtjepgclnbbpnaaaGreat.P12
open PK (qqA qqB qqC qqD qqE qqF tk tkS dOne qh)
open Go Go.RowKit Go.Lib PK
open P11 (Pg cellsP infoEPages cellsP_snoc)
theorem CAt.pushMade{W w2:World}{G:Cg}{v':Value}(h:CAt W G)(z:Int)(ha:AppD W w2 0 3 1 G.vm v' G.made.length (cellsZ G.made) [.int .i64 z]) :
  Went W (w2.setCell ⟨G.c,2,none⟩ v') G { G with vm:=v',made:=G.made++[z] }:=by
 have hcl:G.c < W.heap.size:=h.lt (.inr (.inr (.inl rfl)))
 have hkc:∀ k,G.vm.ownBlock=some k→k≠G.c:=fun k hk e=>by
  obtain⟨cs,e2⟩:=row_kind h.ch.rm hk
  rw[e,h.ch.obj] at e2
  cases e2
 have hkm:∀ k,G.vm.ownBlock=some k→G.vs.ownBlock≠some k:=fun k hk e=>by
  obtain⟨cs,e2⟩:=row_kind h.ch.rm hk
  obtain⟨cs',e3⟩:=row_kind h.ch.rs e
  rw[e2] at e3
  cases e3
 have hcm:∀ k,G.vo.ownBlock=some k→k≠G.c:=fun k hk e=>by
  obtain⟨cs,e2⟩:=row_kind h.ch.ro hk
  rw[e,h.ch.obj] at e2
  cases e2
 have hcs':∀ k,G.vs.ownBlock=some k→k≠G.c:=fun k hk e=>by
  obtain⟨cs,e2⟩:=row_kind h.ch.rs hk
  rw[e,h.ch.obj] at e2
  cases e2
 have f1:P3.Fr (fun k=>k=G.c∨G.vm.ownBlock=some k) W (w2.setCell ⟨G.c,2,none⟩ v'):=(ha.fr.mono fun k _ hk=>.inr hk).trans ((fr_set w2 G.c 2 v').mono fun k _ hk=>.inl hk)
 have f2:P3.Fr G.S W (w2.setCell ⟨G.c,2,none⟩ v'):=f1.mono fun k _ hk=>by
  rcases hk with rfl|hk
  ·exact .inr (.inr (.inl rfl))
  ·exact .inr (.inr (.inr (.inl hk)))
 have ft:=FrT.ofFr f2 (h.notT none)
 have hcs:∀ k,(k=G.c∨G.vm.ownBlock=some k)→CS G.c G.vm G.vs G.vo k:=fun k hk=>hk.elim .inl fun e=>.inr (.inl e)
 have hob:(w2.setCell ⟨G.c,2,none⟩ v').heap[G.c]?=some (.cells #[.pointer (some ⟨G.s,0,none⟩),.string G.key,v',G.vs,G.vo] 76 (0,0)):=by
  rw[set_at (ha.fr.keep h.ch.obj fun e=>hkc _ e rfl) 2]
  rfl
 refine⟨⟨h.pg.fr f1 fun j hj e=>h.ap j (hcs j e) hj,h.sk.fr f1 ft fun j hj e=>h.apart hj (hcs j e),⟨hob,?_,owns_fr h.ch.rs f1 fun j hj e=>?_,owns_fr h.ch.ro f1 fun j hj e=>?_,fun k hk e=>?_⟩,fun k hk hp=>?_⟩,f2,fun k hk=>?_,ft⟩
 ·have hr:=ha.own
  rw[List.length_append,List.length_singleton]
  have e:cellsZ (G.made++[z])=cellsZ G.made++[.int .i64 z]:=by simp[cellsZ]
  rw[e]
  refine owns_fr hr (fr_set w2 G.c 2 v') fun j hj e2=>?_
  rcases ha.new hj with e3|e3
  ·exact hkc j e3 e2
  ·omega
 ·rcases e with e|e
  ·exact hcs' j hj e
  ·exact hkm j e hj
 ·rcases e with e|e
  ·exact hcm j hj e
  ·exact h.ch.ne j e hj
 ·rcases ha.new hk with e3|e3
  ·exact h.ch.ne k e3 e
  ·have:=h.lt (.inr (.inr (.inr (.inr (.inr e)))))
   omega
 ·rcases hk with rfl|hk|hk|hk
  ·exact h.ap _ (.inl rfl) hp
  ·rcases ha.new hk with e3|e3
   ·exact h.ap _ (.inr (.inl e3)) hp
   ·have:=h.lt (.inl hp)
    omega
  ·exact h.ap _ (.inr (.inr (.inl hk))) hp
  ·exact h.ap _ (.inr (.inr (.inr hk))) hp
 ·rcases hk with hk|hk|rfl|hk|hk|hk
  ·exact .inl (.inl hk)
  ·exact .inl (.inr (.inl hk))
  ·exact .inl (.inr (.inr (.inl rfl)))
  ·exact (ha.new hk).imp (fun e=>.inr (.inr (.inr (.inl e)))) fun e=>e
  ·exact .inl (.inr (.inr (.inr (.inr (.inl hk)))))
  ·exact .inl (.inr (.inr (.inr (.inr (.inr hk)))))
theorem CAt.pages{w w':World}{G:Cg}{vl' vg':Value}{M':PM}(h:CAt w G)(hp:PAt w' G.b vl' vg' M')(f:P3.Fr (PS G.b G.vl G.vg) w w')(hn:∀ k,PS G.b vl' vg' k→PS G.b G.vl G.vg k∨w.heap.size≤k) :
  Went w w' G { G with vl:=vl',vg:=vg',M:=M' }:=by
 have ft:=FrT.ofFr f (h.pg.notT none)
 refine⟨⟨hp,h.sk.fr f ft fun j hj e=>h.sk.apart h.pg hj e,h.ch.fr f fun j hj e=>h.ap j hj e,fun k hk e=>?_⟩,f.mono fun k _ e=>.inl e,fun k hk=>?_,ft⟩
 ·rcases hn k e with e2|e2
  ·exact h.ap k hk e2
  ·have:=h.lt (.inr (.inr hk))
   omega
 ·rcases hk with hk|hk
  ·exact (hn k hk).imp .inl fun e=>e
  ·exact .inl (.inr hk)
theorem AppD.plain{W w2:World}{base e n:Nat}{v v':Value}{N:Nat}{xs cs:List Value}(h1:w2.ownsRow base e n v' (N+1) (xs++cs))(h2:(W.alloc (.cells cs.toArray e)).grownBy w2 v.ownBlock)(h3:v'.ownBlock=v.ownBlock∨v'.ownBlock=some (W.alloc (.cells cs.toArray e)).heap.size) :
  AppD W w2 base e n v v' N xs cs:=⟨h1,⟨h2.os,h2.tape,h2.output,h2.size,h2.block⟩,h3⟩
theorem again_any(w:World)(G:Cg)(p:Pg)(body:ByteArray)(h:CAt w G)(hl:G.sets.length≤100000) :
  Calls Tryz.prog 130 #[.pointer (some ⟨G.c,0,none⟩),p.v,.string body] w fun e w'=>∃ v',e=.returned (.int .i64 p.id)∧Went w w' G { G with vs:=v',sets:=G.sets++[⟨p.k,p.id,p.tx,body⟩] }:=by
 obtain⟨i0,hi0,hz0,hz1,hz2⟩:=info_parts infoEPages
 obtain⟨pk,pid,ptx,pb⟩:=p
 obtain⟨W,hW⟩:∃ W,W=w.alloc (.cells #[.int .i64 pk,.int .i64 pid,.int .i64 ptx,.string body] 86):=⟨_,rfl⟩
 have b0:Below w.heap.size w W:=by rw[hW];exact below_new _ _
 have r0:W.heap[w.heap.size]?=some (.cells #[.int .i64 pk,.int .i64 pid,.int .i64 ptx,.string body] 86 (0,0)):=by rw[hW];exact new_at _ _ _
 have hc:=h.below b0
 have HW:=qh hc
 have B0:=qh (Went.below h b0)
 have HobW:=qh hc.ch.obj
 have HelW:=qh r0
 have hcl:=h.lt (.inr (.inr (.inl rfl)))
 have hoe:G.c≠w.heap.size:=by omega
 have HneO:Hid (G.vs.ownBlock≠some G.c):=fun e=>by
  obtain⟨cs,e2⟩:=row_kind h.ch.rs e
  rw[h.ch.obj] at e2
  cases e2
 have HneE:Hid (G.vs.ownBlock≠some w.heap.size):=fun e=>by
  have:=h.lt (.inr (.inr (.inr (.inr (.inl e)))))
  omega
 have hrow:=hc.ch.rs
 obtain⟨va,vc,hvs⟩:∃ a c,G.vs=.slice a G.sets.length c:=by
  rcases hrow.2 with ⟨e,e2⟩|⟨g,cap,cur,e,_⟩
  ·exact⟨none,0,by rw[e,e2]⟩
  ·exact⟨_,_,e⟩
 have HVs:=qh hvs
 rw[hvs] at hrow
 have HRowW:=qh hrow
 rw[hvs] at HobW HneO HneE
 obtain⟨N,hN⟩:∃ N,N=G.sets.length:=⟨_,rfl⟩
 have HN:=qh hN
 rw[← hN] at HRowW HobW HneO HneE hl
 unfold Pg.v
 clear h hc b0 r0 hrow hvs hN hcl
 go_enter Tryz.func130,Tryz.ntmps130
 go_upto_region 2 with fail
 rw[← hW]
 clear hW
 have hel0:=HelW.out
 have hob0:=HobW.out
 have eWd:W.drew.heap[w.heap.size]?=some (.cells #[.int .i64 pk,.int .i64 pid,.int .i64 ptx,.string body] 86 (0,0)):=hel0
 have oWd:W.drew.heap[G.c]?=some (.cells #[.pointer (some ⟨G.s,0,none⟩),.string G.key,G.vm,.slice va N vc,G.vo] 76 (0,0)):=hob0
 have eWn:(W.drew.alloc (.cells #[.int .i64 pk,.int .i64 pid,.int .i64 ptx,.string body] 86)).heap[w.heap.size]?=some (.cells #[.int .i64 pk,.int .i64 pid,.int .i64 ptx,.string body] 86 (0,0)):=P3.old_alloc eWd _
 have oWn:(W.drew.alloc (.cells #[.int .i64 pk,.int .i64 pid,.int .i64 ptx,.string body] 86)).heap[G.c]?=some (.cells #[.pointer (some ⟨G.s,0,none⟩),.string G.key,G.vm,.slice va N vc,G.vo] 76 (0,0)):=P3.old_alloc oWd _
 have HeWn:=qh eWn
 have HoWn:=qh oWn
 have HeWd:=qh eWd
 have cA1:=cell_at oWd 3
 have cA2:=cell_at oWn 3
 have cA3:=cell_at (P3.old_alloc hob0 (.cells #[.int .i64 pk,.int .i64 pid,.int .i64 ptx,.string body] 86)) 3
 simp only[qqD,qqE,qqF] at cA1 cA2 cA3
 clear hel0 hob0 eWd oWd eWn oWn
 refine wp_region_held_drew (S:=(fun W'=>W'.cell? ⟨w.heap.size,0,none⟩=some (.int .i64 pk)∧W'.cell? ⟨w.heap.size,1,none⟩=some (.int .i64 pid)∧W'.cell? ⟨w.heap.size,2,none⟩=some (.int .i64 ptx)∧W'.cell? ⟨w.heap.size,3,none⟩=some (.string body))) (by kernel_rfl) ⟨cell_at HeWd.out 0,cell_at HeWd.out 1,cell_at HeWd.out 2,cell_at HeWd.out 3⟩ (fun hHeld=>?_)
 refine tk 0 ?_
 refine tk 1 ?_
 refine tk 2 ?_
 refine tk 3 ?_
 refine tk 5 ?_
 refine do_two 4 6 rfl rfl (by kernel_rfl) (by rfl) (by rfl) (fun K hK=>?_) (fun K hK=>?_)
 ·go_simp
  refine hK.out _ _ ⟨cell_at HeWd.out 0,cell_at HeWd.out 1,cell_at HeWd.out 2,cell_at HeWd.out 3⟩ (fun hHeld=>?_)
  clear hK K
  try simp only[Act.put,qqA,qqB,qqC]
  refine dOne 6 fun K hK=>?_
  go_simp
  refine hK.out _ _ ⟨cell_at HeWn.out 0,cell_at HeWn.out 1,cell_at HeWn.out 2,cell_at HeWn.out 3⟩ (fun hHeld=>?_)
  clear hK K
  try simp only[Act.put,qqA,qqB,qqC]
  refine dOne 7 fun K hK=>?_
  refine wp_app (.tmp 13) (.tmp 15) 41 rfl 0 86 i0 (Value.agg #[.int .i64 0,.int .i64 0,.int .i64 0,.string ⟨#[]⟩]) 4 40 Tryz.underlying41 hi0 hz0 hz1 hz2 rfl (by decide) (.slice va N vc) N (cellsP G.sets).flatten (by first|rfl|simp[Act.eval,Act.put]) (owns_below HRowW.out ((Below.refl _ _).drew.alloc (Nat.le_refl _) _)) (some ⟨W.drew.heap.size,0,none⟩) 1 1 [.int .i64 pk,.int .i64 pid,.int .i64 ptx,.string body] (by first|rfl|simp[Act.eval,Act.put]) rfl (by intro X hX j u hu;cases hX;exact cells_new W.drew [.int .i64 pk,.int .i64 pid,.int .i64 ptx,.string body] 86 j u hu) (fun e=>by cases e) (by intro u hu;simp only[List.mem_cons,List.not_mem_nil,or_false] at hu;first|(rcases hu with rfl|rfl|rfl|rfl|rfl|rfl|rfl|rfl <;> rfl)|(rcases hu with rfl|rfl|rfl|rfl <;> rfl)|(rcases hu with rfl|rfl <;> rfl)|(cases hu;rfl)) (by unfold maxLen;omega) (by omega) (by simp) ?_
  intro p1 s1 w2 hown2 hgrow2 hat2
  have HAD:Hid (AppD W w2 0 86 4 (.slice va N vc) (.slice p1 (N+1:Nat) s1) N (cellsP G.sets).flatten [.int .i64 pk,.int .i64 pid,.int .i64 ptx,.string body]):=⟨hown2,hgrow2,hat2⟩
  have e2:w2.heap[w.heap.size]?=some (.cells #[.int .i64 pk,.int .i64 pid,.int .i64 ptx,.string body] 86 (0,0)):=(hgrow2.block _ (lt_of_block HeWn.out) (fun e=>HneE.out e.symm)).trans HeWn.out
  have o2:w2.heap[G.c]?=some (.cells #[.pointer (some ⟨G.s,0,none⟩),.string G.key,G.vm,.slice va N vc,G.vo] 76 (0,0)):=(hgrow2.block _ (lt_of_block HoWn.out) (fun e=>HneO.out e.symm)).trans HoWn.out
  have He2:=qh e2
  have Ho2:=qh o2
  clear hown2 hgrow2 hat2 e2 o2
  refine hK.out _ _ ⟨cell_at He2.out 0,cell_at He2.out 1,cell_at He2.out 2,cell_at He2.out 3⟩ (fun hHeld=>?_)
  clear hK K
  try simp only[Act.put,qqA,qqB,qqC]
  refine tk 8 ?_
  refine tk 9 ?_
  refine dOne 10 fun K hK=>?_
  have q0:=cell_at Ho2.out 3
  simp only[qqD,qqE,qqF] at q0
  have q1:=free_at Ho2.out 3
  go_simp
  have e3:=P3.old_set He2.out (⟨G.c,3,none⟩:Addr) (Ne.symm hoe) (.slice p1 (N+1) s1)
  have He3:=qh e3
  clear e3
  refine hK.out _ _ ⟨cell_at He3.out 0,cell_at He3.out 1,cell_at He3.out 2,cell_at He3.out 3⟩ (fun hHeld=>?_)
  clear hK K
  try simp only[Act.put,qqA,qqB,qqC]
  refine wpAnyH_done (by kernel_rfl) ?_ _
  clear q0 q1 cA1 cA2 cA3 hHeld
  have e9:=cell_at He3.out 1
  simp only[qqD,qqE,qqF] at e9
  have had:=HAD.out
  rw[HN.out,← HVs.out] at had
  have hgo:=HW.out.pushSet ⟨pk,pid,ptx,body⟩ had
  have HGo:=qh (B0.out.trans hgo)
  clear had hgo
  go_wp2
  go_ret
  refine⟨.slice p1 (G.sets.length+1:Nat) s1,rfl,?_⟩
  have h9:=HGo.out
  rw[← HN.out] at h9 ⊢
  exact h9
 ·go_simp
  refine hK.out _ _ ⟨cell_at HeWn.out 0,cell_at HeWn.out 1,cell_at HeWn.out 2,cell_at HeWn.out 3⟩ (fun hHeld=>?_)
  clear hK K
  try simp only[Act.put,qqA,qqB,qqC]
  refine dOne 4 fun K hK=>?_
  go_simp
  refine hK.out _ _ ⟨cell_at HeWn.out 0,cell_at HeWn.out 1,cell_at HeWn.out 2,cell_at HeWn.out 3⟩ (fun hHeld=>?_)
  clear hK K
  try simp only[Act.put,qqA,qqB,qqC]
  refine dOne 7 fun K hK=>?_
  refine wp_app (.tmp 13) (.tmp 15) 41 rfl 0 86 i0 (Value.agg #[.int .i64 0,.int .i64 0,.int .i64 0,.string ⟨#[]⟩]) 4 40 Tryz.underlying41 hi0 hz0 hz1 hz2 rfl (by decide) (.slice va N vc) N (cellsP G.sets).flatten (by first|rfl|simp[Act.eval,Act.put]) (owns_below HRowW.out ((Below.refl _ _).drew.alloc (Nat.le_refl _) _)) (some ⟨W.drew.heap.size,0,none⟩) 1 1 [.int .i64 pk,.int .i64 pid,.int .i64 ptx,.string body] (by first|rfl|simp[Act.eval,Act.put]) rfl (by intro X hX j u hu;cases hX;exact cells_new W.drew [.int .i64 pk,.int .i64 pid,.int .i64 ptx,.string body] 86 j u hu) (fun e=>by cases e) (by intro u hu;simp only[List.mem_cons,List.not_mem_nil,or_false] at hu;first|(rcases hu with rfl|rfl|rfl|rfl|rfl|rfl|rfl|rfl <;> rfl)|(rcases hu with rfl|rfl|rfl|rfl <;> rfl)|(rcases hu with rfl|rfl <;> rfl)|(cases hu;rfl)) (by unfold maxLen;omega) (by omega) (by simp) ?_
  intro p1 s1 w2 hown2 hgrow2 hat2
  have HAD:Hid (AppD W w2 0 86 4 (.slice va N vc) (.slice p1 (N+1:Nat) s1) N (cellsP G.sets).flatten [.int .i64 pk,.int .i64 pid,.int .i64 ptx,.string body]):=⟨hown2,hgrow2,hat2⟩
  have e2:w2.heap[w.heap.size]?=some (.cells #[.int .i64 pk,.int .i64 pid,.int .i64 ptx,.string body] 86 (0,0)):=(hgrow2.block _ (lt_of_block HeWn.out) (fun e=>HneE.out e.symm)).trans HeWn.out
  have o2:w2.heap[G.c]?=some (.cells #[.pointer (some ⟨G.s,0,none⟩),.string G.key,G.vm,.slice va N vc,G.vo] 76 (0,0)):=(hgrow2.block _ (lt_of_block HoWn.out) (fun e=>HneO.out e.symm)).trans HoWn.out
  have He2:=qh e2
  have Ho2:=qh o2
  clear hown2 hgrow2 hat2 e2 o2
  refine hK.out _ _ ⟨cell_at He2.out 0,cell_at He2.out 1,cell_at He2.out 2,cell_at He2.out 3⟩ (fun hHeld=>?_)
  clear hK K
  try simp only[Act.put,qqA,qqB,qqC]
  refine tk 8 ?_
  refine tk 9 ?_
  refine dOne 10 fun K hK=>?_
  have q0:=cell_at Ho2.out 3
  simp only[qqD,qqE,qqF] at q0
  have q1:=free_at Ho2.out 3
  go_simp
  have e3:=P3.old_set He2.out (⟨G.c,3,none⟩:Addr) (Ne.symm hoe) (.slice p1 (N+1) s1)
  have He3:=qh e3
  clear e3
  refine hK.out _ _ ⟨cell_at He3.out 0,cell_at He3.out 1,cell_at He3.out 2,cell_at He3.out 3⟩ (fun hHeld=>?_)
  clear hK K
  try simp only[Act.put,qqA,qqB,qqC]
  refine wpAnyH_done (by kernel_rfl) ?_ _
  clear q0 q1 cA1 cA2 cA3 hHeld
  have e9:=cell_at He3.out 1
  simp only[qqD,qqE,qqF] at e9
  have had:=HAD.out
  rw[HN.out,← HVs.out] at had
  have hgo:=HW.out.pushSet ⟨pk,pid,ptx,body⟩ had
  have HGo:=qh (B0.out.trans hgo)
  clear had hgo
  go_wp2
  go_ret
  refine⟨.slice p1 (G.sets.length+1:Nat) s1,rfl,?_⟩
  have h9:=HGo.out
  rw[← HN.out] at h9 ⊢
  exact h9
end Go.Proofs.YtjepgclnbbpnaaaGreat.P12
namespace Go.Proofs.YtjepgclnbbpnaaaGreat.P12
open PK (qqA qqB qqC qqD qqE qqF tk tkS dOne qh)
open Go Go.RowKit Go.Lib PK
open P11 (Pg)
theorem take_any(w:World)(G:Cg)(kind:Int)(body:ByteArray)(h:CAt w G)(hl:G.M.L.length≤3997)(hm:G.made.length≤100000) :
  Calls Tryz.prog 131 #[.pointer (some ⟨G.c,0,none⟩),.int .i64 kind,.string body] w fun e w'=>∃ vl' vm',e=.returned (.tuple #[.int .i64 G.M.next,.int .i64 0])∧Went w w' G { G with vl:=vl',vm:=vm',M:=G.M.push ⟨kind,0,0,body⟩,made:=G.made++[G.M.next] }:=by
 obtain⟨i0,hi0,hz0,hz1,hz2⟩:=info_parts infoENs12
 have HNew:=qh (new_any w G.b G.vl G.vg G.M ⟨kind,0,0,body⟩ h.pg hl)
 have H:=qh h
 have n1:=nNew
 have m1:=mNew
 have c0:=cell_at h.ch.obj 0
 have s0:=cell_at h.sk.obj 0
 simp only[qqD,qqE] at c0 s0
 unfold P11.Pg.v at HNew
 unfold pgv at s0
 have HM:=qh hm
 clear h
 go_enter Tryz.func131,Tryz.ntmps131
 go_upto_region 4 with (go_at_call 181;(with_reducible refine HNew.out.mono ?_);rintro e w1 ⟨vl',rfl,h1,h2,h3⟩;have H1:=qh h1;have H2:=qh h2;have H3:=qh h3;clear h1 h2 h3)
 have wt:=H.out.pages H1.out H2.out (fun k hk=>by
  rcases hk with rfl|hk|hk
  ·exact .inl (.inl rfl)
  ·exact (H3.out k hk).imp (fun e=>.inr (.inl e)) fun e=>e
  ·exact .inl (.inr (.inr hk)))
 have WT:=qh wt
 have c2:=cell_at wt.at_.ch.obj 2
 have f2:=free_at wt.at_.ch.obj 2
 simp only[qqD,qqE,qqF] at c2
 obtain⟨va,vc,hvm⟩:∃ a c,G.vm=.slice a G.made.length c:=by
  rcases wt.at_.ch.rm.2 with ⟨e,e2⟩|⟨g,cap,cur,e,_⟩
  ·exact⟨none,0,by rw[show G.vm=_ from e,show G.made.length=0 from e2]⟩
  ·exact⟨_,_,e⟩
 rw[hvm] at c2
 have HVm:=qh hvm
 obtain⟨N,hN⟩:∃ N,N=G.made.length:=⟨_,rfl⟩
 have HN:=qh hN
 rw[← hN] at c2 hm
 have hrow:w1.ownsRow 0 3 1 (.slice va N vc) N (cellsZ G.made):=by
  have:=wt.at_.ch.rm
  rw[hN,← hvm]
  exact this
 have HR:=qh hrow
 have hcl:=wt.at_.lt (.inr (.inr (.inl rfl)))
 have HOb:Hid (∀ w2:World,(w1.alloc (.cells #[.int .i64 G.M.next] 3)).grownBy w2 (Value.slice va N vc).ownBlock→w2.heap[G.c]?=some (.cells #[.pointer (some ⟨G.s,0,none⟩),.string G.key,G.vm,G.vs,G.vo] 76 (0,0))):=fun w2 hg=>by
  rw[hg.block G.c (by simp;exact Nat.lt_succ_of_lt hcl) fun e=>?_]
  ·exact P3.old_alloc wt.at_.ch.obj _
  ·obtain⟨cs,e2⟩:=row_kind HR.out e.symm
   rw[wt.at_.ch.obj] at e2
   cases e2
 have hnx:((G.M.L.length:Int)+2)=G.M.next:=rfl
 rw[hnx]
 obtain⟨Nx,hNx⟩:∃ n,n=G.M.next:=⟨_,rfl⟩
 have HNx:=qh hNx
 rw[← hNx] at HOb ⊢
 clear c0 s0 wt hvm hN hrow hcl hnx hNx
 go_wp2_with (first
  | (at_builtin;refine wpList_append_own_at _ rfl _ _ 42 rfl 0 3 i0 (Value.int .i64 0) 1 8 Tryz.underlying42 hi0 hz0 hz1 hz2 rfl (by decide) _ N (cellsZ G.made) rfl (HR.out.alloc _) ⟨w1.heap.size,0,none⟩ 1 1 [.int .i64 Nx] rfl rfl (cell_one_new _ _ _) ?c2 ?c3 ?c4 (Nat.zero_le _) ?_))
 case c2=>first|rfl|(intro u hu;cases hu with|head=>rfl|tail _ h=>cases h)
 case c3=>unfold maxLen;omega
 case c4=>omega
 intro v' w6 hown' hgrow _ hat6
 have had:AppD w1 w6 0 3 1 (.slice va N vc) v' N (cellsZ G.made) [.int .i64 Nx]:=AppD.plain hown' hgrow (by simpa using hat6)
 have HAD:=qh had
 have o6:=HOb.out w6 hgrow
 have d2:=cell_at o6 2
 have g2:=free_at o6 2
 simp only[qqD,qqE,qqF] at d2
 clear hown' hgrow hat6 had o6
 obtain⟨pa,pc,hpv⟩:∃ a c,v'=.slice a (N+1) c:=by
  rcases HAD.out.own.2 with ⟨_,e⟩|⟨g,cap,cur,e,_⟩
  ·omega
  ·exact⟨_,_,e⟩
 subst hpv
 go_wp2
 go_ret2
 have h9:=HAD.out
 rw[HN.out,← HVm.out] at h9
 have h8:=WT.out.at_.pushMade Nx h9
 refine⟨vl',.slice pa (N+1) pc,by rw[← HNx.out];rfl,?_⟩
 have h7:=WT.out.trans h8
 rw[← HN.out,HNx.out] at h7
 exact h7
end Go.Proofs.YtjepgclnbbpnaaaGreat.P12
namespace Go.Proofs.YtjepgclnbbpnaaaGreat.P10
open Go Go.RowKit Go.Lib PK
theorem ItsIn.take{w:World}{a:Option Addr}{c:Nat}{l:List It}(h:ItsIn w (.slice a l.length c) l){n:Nat}(hn:n≤l.length):ItsIn w (.slice a n c) (l.take n):=by
 obtain⟨a',c',e,h1,h2,h3,h4⟩:=h
 simp only[Value.slice.injEq] at e
 obtain⟨rfl,_,rfl⟩:=e
 rw[cellsI_length] at h2 h4
 have hl:(l.take n).length=n:=by rw[List.length_take];omega
 refine⟨a,c,by rw[cellsI_length,hl],h1,by rw[cellsI_length,hl];omega,cellsI_ok _,fun h0=>?_⟩
 rw[cellsI_length,hl] at h0
 obtain⟨b,off,h5,h6,h7⟩:=h4 (by omega)
 refine⟨b,off,h5,h6,fun i x hi j u hu=>h7 i x ?_ j u hu⟩
 unfold cellsI at hi ⊢
 rw[List.map_take,List.getElem?_take] at hi
 split at hi
 ·exact hi
 ·cases hi
theorem ItsIn.drop{w:World}{b off c:Nat}{l:List It}(h:ItsIn w (.slice (some ⟨b,off,none⟩) l.length c) l){n:Nat}(hn:n≤l.length)(c':Nat):ItsIn w (.slice (some ⟨b,off+n*2,none⟩) (l.length - n) c') (l.drop n):=by
 obtain⟨a',c',e,h1,h2,h3,h4⟩:=h
 simp only[Value.slice.injEq] at e
 obtain⟨rfl,_,rfl⟩:=e
 rw[cellsI_length] at h2 h4
 have hl:(l.drop n).length=l.length - n:=by rw[List.length_drop]
 refine⟨_,_,by rw[cellsI_length,hl],(fun q=>by cases q),by rw[cellsI_length,hl];omega,cellsI_ok _,fun h0=>?_⟩
 rw[cellsI_length,hl] at h0
 obtain⟨b',off',h5,h6,h7⟩:=h4 (by omega)
 simp only[Option.some.injEq,Addr.mk.injEq,and_true] at h5
 obtain⟨rfl,rfl⟩:=h5
 refine⟨b,off+n*2,rfl,h6,fun i x hi j u hu=>?_⟩
 have:=h7 (n+i) x (by
  unfold cellsI at hi ⊢
  rw[List.map_drop,List.getElem?_drop] at hi
  exact hi) j u hu
 rwa[show off+((n+i)*kKids.n+j)=off+n*2+(i*kKids.n+j) by show off+((n+i)*2+j)=off+n*2+(i*2+j);omega] at this
theorem sumI_len1(l:List It):l.length≤sumI l:=by
 induction l with
 | nil=>exact Nat.le_refl _
 | cons x l ih=>rw[sumI_cons,List.length_cons];unfold It.need;omega
end Go.Proofs.YtjepgclnbbpnaaaGreat.P10
