/-
  Texts of the proofs of SaidDrops12, SaidEmpt12, SaidOlds12.
-/
import Derived.Test.YtjepgclnbbpnaaaGreatMq39
set_option linter.unusedVariables false
set_option linter.unusedSimpArgs false
set_option maxHeartbeats 8000000
set_option maxRecDepth 100000
namespace Go.Proofs.YtjepgclnbbpnaaaGreat.P12
open PK (qqA qqB qqC qqD qqE qqF tk tkS dOne qh)
open Go Go.RowKit Go.Shelf Go.Lib PK
open P9 (kb)
attribute [local go_sem] Oper.semAt_some
def Sp.kkey(p:Sp):ByteArray:=match p.nd with
 | .lf _=>⟨#[]⟩
 | .tw l=>match l[p.at_.toNat]? with
  | some k=>k.key
  | none=>⟨#[]⟩
def OkP(last first:ByteArray)(ps:List Sp)(l:List (Fin ps.length)):Prop:=
 ∀ (k:Nat) (x:Fin ps.length),l[k]?=some x→kb first (ps[x.1]).kkey=false∧(0 < (ps[x.1]).at_→(∀ (j:Nat) (y:Fin ps.length),j < k→l[j]?=some y→(ps[y.1]).at_≤0)→kb last (ps[x.1]).kkey=true)
def tOf(ps:List Sp)(l:List (Fin ps.length)):Bool:=l.any fun x=>decide (0 < (ps[x.1]).at_)
def KidAt(n₀:Nat)(w:World)(p:Sp):Prop:=∃ (g o m c a:Nat) (pg:Int),p.vi=.slice none 0 0∧p.vk=.slice (some ⟨g,o,none⟩) m c∧p.at_=(a:Int)∧a < m∧m≤1000∧m≤c∧
 ∀ W',Below n₀ w W'→W'.cell? ⟨g,o+a*2,none⟩=some (.string p.kkey)∧W'.cell? ⟨g,o+a*2+1,none⟩=some (.int .i64 pg)
theorem bool_result{fn:Func}{q:Tmp}(h:fn.results=#[.cell q 4])(tmps:Array Value)(w:World)(a:Nat)(v:Value)(hq:tmps.getD q undef=.pointer (some ⟨a,0,none⟩))(hc:Boxed w a 4 v) :
  (results fn tmps).run Tryz.prog w=.ok v w:=by
 have e0:(results fn tmps).run Tryz.prog w=((asAddr (tmps.getD q undef)).run Tryz.prog w).andThen fun a w₁=>(loadVar 4 a).run Tryz.prog w₁:=by
  simp only[results,h]
  simp[Sem.run_bind,Result.andThen]
 have e1:(asAddr (.pointer (some ⟨a,0,none⟩))).run Tryz.prog w=.ok ⟨a,0,none⟩ w:=rfl
 have hc1:=hc.cell
 rw[e0,hq,e1,Result.andThen_ok]
 simp[go_sem,loadVar,hc1]
theorem tOf_snoc(ps:List Sp)(l:List (Fin ps.length))(x:Fin ps.length):tOf ps (l++[x])=(tOf ps l || decide (0 < (ps[x.1]).at_)):=by simp[tOf]
theorem tOf_at{ps:List Sp}{l:List (Fin ps.length)}(h:tOf ps l=false){j:Nat}{y:Fin ps.length}(hy:l[j]?=some y):(ps[y.1]).at_≤0:=by
 have:=(List.any_eq_false.1 h) y (List.mem_of_getElem? hy)
 simpa using this
theorem kb_gt(a k:ByteArray):kb k a=!(Op.bytesLess a.toList k.toList || a.toList == k.toList):=(P10.kb_gtr a k).symm
theorem okp_last{last first:ByteArray}{ps:List Sp}{l:List (Fin ps.length)}{x:Fin ps.length}(h:OkP last first ps (l++[x])):kb first (ps[x.1]).kkey=false∧(0 < (ps[x.1]).at_→tOf ps l=false→kb last (ps[x.1]).kkey=true):=by
 obtain⟨h1,h2⟩:=h l.length x (by simp)
 refine⟨h1,fun h0 ht=>h2 h0 fun j y hj hy=>?_⟩
 rw[List.getElem?_append_left hj] at hy
 exact tOf_at ht hy
def BtI(w:World)(last first:ByteArray)(ps:List Sp)(pre:List (Fin ps.length))(W:World):Prop:=
 ((Boxed W (w.heap.size+1+1+1) 4 (.bool (tOf ps pre))∧Boxed W w.heap.size 9 (.string last))∧(Boxed W (w.heap.size+1) 9 (.string first)∧Boxed W (w.heap.size+1+1) 4 (.bool false)))∧(Below w.heap.size w W∧w.heap.size+5≤W.heap.size)
theorem btI_next{w W:World}{last first:ByteArray}{ps:List Sp}{pre:List (Fin ps.length)}(h:BtI w last first ps pre W)(x:Fin ps.length)(v:Bool)(o:Obj)(hv:tOf ps (pre++[x])=v)(B:Nat)(u:Value) :
  KeepsFrom B W ((W.alloc o).setCell ⟨w.heap.size+1+1+1,0,none⟩ (.bool v))∧KpB w.heap.size (w.heap.size+1+1+1+1) (.cells #[u] 84 (0,0)) W ((W.alloc o).setCell ⟨w.heap.size+1+1+1,0,none⟩ (.bool v))∧BtI w last first ps (pre++[x]) ((W.alloc o).setCell ⟨w.heap.size+1+1+1,0,none⟩ (.bool v)):=by
 obtain⟨⟨⟨c3,c0⟩,c1,c2⟩,hB,hZ⟩:=h
 have hBW:Below w.heap.size W ((W.alloc o).setCell ⟨w.heap.size+1+1+1,0,none⟩ (.bool v)):=((Below.refl _ W).alloc hB.size _).setCell (p:=⟨w.heap.size+1+1+1,0,none⟩) (by simp;omega) _
 refine⟨((KeepsOthers.alloc _ _).trans (KeepsOthers.setCell _ _ _)).from _,⟨hBW,fun e=>?_⟩,⟨⟨?_,(c0.alloc _).other (by omega) _⟩,(c1.alloc _).other (by omega) _,(c2.alloc _).other (by omega) _⟩,hB.trans hBW,by have:=hBW.size;omega⟩
 ·exact ((show Boxed _ _ _ _ from e).alloc _).other (by omega) _
 ·rw[hv]
  exact (c3.alloc _).set _
theorem btI_own(w:World)(last first:ByteArray)(ps:List Sp)(B:Nat)(hB:w.heap.size≤B):OwnFrom B (BtI w last first ps):=
 OwnFrom.and (OwnFrom.and (OwnFrom.and (Own.from (boxed_own _ _ _) _) (Own.from (boxed_own _ _ _) _)) (OwnFrom.and (Own.from (boxed_own _ _ _) _) (Own.from (boxed_own _ _ _) _))) (OwnFrom.and (ownFrom_below (Nat.le_refl _) hB) fun _ _ _ _ hs hg _=>Nat.le_trans hs hg.size)
theorem between_any(w:World)(g cap:Nat)(ps:List Sp)(N:Nat)(hN:N=ps.length)(hps:N≤12)(hcap:N≤cap)(last first:ByteArray)
  (hc:∀ W',Below w.heap.size w W'→∀ (i:Nat) (p:Sp),ps[i]?=some p→∀ (j:Nat) (u:Value),p.cells[j]?=some u→W'.cell? ⟨g,i*8+j,none⟩=some u)
  (hk:∀ p∈ps,KidAt w.heap.size w p) (hok:OkP last first ps (backN ps.length)) :
  Calls Tryz.prog 65 #[.slice (some ⟨g,0,none⟩) N cap,.string last,.string first] w fun e w'=>e=.returned (.bool true)∧Below w.heap.size w w':=by
 have HN:=qh hN
 have HC:=qh hc
 have HK:=qh hk
 have HOk:=qh hok
 clear hN hc hk hok
 refine (callsIn_wide (n:=8)).1 ?_
 have hF:∀ k,Fence.wide.fn k:=fun _=>trivial
 have hro:Fence.wide.round=none:=rfl
 refine callsIn_of_wp_marks Tryz.func65 rfl (hF _) ?_ hro
 simp only[Tryz.ntmps65,List.size_toArray,List.length_cons,List.length_nil,Nat.reduceAdd,Nat.reduceSub,Array.replicate_succ,Array.replicate_zero,List.push_toArray,List.append_toArray,List.nil_append,List.cons_append]
 gi_wp2_with (gi_at_call 76;refine (callsIn_wide.2 (backward_any _ _ _ _)).mono ?_;rintro e w' ⟨rfl,rfl⟩)
 obtain⟨W0,hW0⟩:∃ W0,W0=(((((w.alloc (Obj.cells #[Value.string last] 9)).alloc (Obj.cells #[Value.string first] 9)).alloc (Obj.cells #[Value.bool false] 4)).alloc (Obj.cells #[Value.bool false] 4)).alloc (Obj.cells #[Value.slice (some { block:=g,off:=0 }) N cap] 84)):=⟨_,rfl⟩
 have b0:=((((Boxed.new w 9 (.string last)).alloc (Obj.cells #[Value.string first] 9)).alloc (Obj.cells #[Value.bool false] 4)).alloc (Obj.cells #[Value.bool false] 4)).alloc (Obj.cells #[Value.slice (some { block:=g,off:=0 }) N cap] 84)
 have b1:=(((Boxed.new (w.alloc (Obj.cells #[Value.string last] 9)) 9 (.string first)).alloc (Obj.cells #[Value.bool false] 4)).alloc (Obj.cells #[Value.bool false] 4)).alloc (Obj.cells #[Value.slice (some { block:=g,off:=0 }) N cap] 84)
 have b2:=((Boxed.new ((w.alloc (Obj.cells #[Value.string last] 9)).alloc (Obj.cells #[Value.string first] 9)) 4 (.bool false)).alloc (Obj.cells #[Value.bool false] 4)).alloc (Obj.cells #[Value.slice (some { block:=g,off:=0 }) N cap] 84)
 have b3:=(Boxed.new (((w.alloc (Obj.cells #[Value.string last] 9)).alloc (Obj.cells #[Value.string first] 9)).alloc (Obj.cells #[Value.bool false] 4)) 4 (.bool false)).alloc (Obj.cells #[Value.slice (some { block:=g,off:=0 }) N cap] 84)
 have b4:=Boxed.new ((((w.alloc (Obj.cells #[Value.string last] 9)).alloc (Obj.cells #[Value.string first] 9)).alloc (Obj.cells #[Value.bool false] 4)).alloc (Obj.cells #[Value.bool false] 4)) 84 (Value.slice (some { block:=g,off:=0 }) N cap)
 simp only[World.size_alloc] at b1 b2 b3 b4
 have hsz:W0.heap.size=w.heap.size+5:=by rw[hW0];simp
 have hB0:Below w.heap.size w W0:=by
  rw[hW0]
  exact (((((Below.refl _ w).alloc (Nat.le_refl _) _).alloc (by simp) _).alloc (by simp;omega) _).alloc (by simp;omega) _).alloc (by simp;omega) _
 rw[← hW0] at b0 b1 b2 b3 b4 ⊢
 clear hW0
 refine wpIn_rangeFunc_ownH hro (by omega) (gf:=94) (lb:=#[.pointer (some ⟨w.heap.size+1+1+1+1,0,none⟩)]) rfl (hF _) (enters_of Tryz.func94 (by kernel_rfl) rfl)
  (back_stops Fence.wide 7 (hF _) hro (by omega) (w.heap.size+1+1+1+1) w.heap.size g cap ps N HN.out hps hcap W0 (by omega) b4 (fun W' h=>HC.out W' (hB0.trans h))) kpB_t (kpB_b (by omega) (by omega)) (Below.refl _ _) (fun _=>rfl)
  (BtI w last first ps)
  (fun _ pre _=>¬ OkP last first ps pre)
  (btI_own _ _ _ _ _ (by omega))
  (fun _ _ _ _ _ hs _ _=>hs)
  ⟨⟨⟨b3,b0⟩,b1,b2⟩,hB0,by omega⟩
  (fun x a' W=>∃ Bx,w.heap.size+1+1+1+1 < Bx∧W.heap[Bx]?=some (.cells (ps[x.1]).cells.toArray 88 (0,0))∧a'={ tmps:=#[Value.slice (some ⟨g,0,none⟩) N cap,Value.string last,Value.string first,undef,Value.pointer (some ⟨w.heap.size,0,none⟩),Value.pointer (some ⟨w.heap.size+1,0,none⟩),Value.pointer (some ⟨w.heap.size+1+1,0,none⟩),Value.pointer (some ⟨w.heap.size+1+1+1,0,none⟩),undef,Value.pointer (some ⟨Bx,0,none⟩),undef,Value.slice (some ⟨g,0,none⟩) N cap,Value.func (Fn.func 94) #[] #[Value.pointer (some ⟨w.heap.size+1+1+1+1,0,none⟩)],Value.int .i64 (x.1:Int),(ps[x.1]).v,undef,undef,undef,undef,undef,undef,undef,undef,undef,undef,undef,undef,undef,undef,undef,undef,undef,undef,undef,undef,undef,undef,undef,undef,undef,undef,undef,undef,undef,undef,undef,undef],defers:=[] })
  (fun x a' _ X Y row hs hg hr=>by
   obtain⟨Bx,h1,h2,h3⟩:=hs
   exact⟨Bx,h1,(hg.block Bx (lt_of_block h2) (fun e=>by
    obtain⟨_,o,ho,hco⟩:=hr Bx e.symm
    rw[h2] at ho
    cases ho
    cases hco)).trans h2,h3⟩)
  ?assign ?body ?done ?stop
 case assign=>
  rintro l pre x W K ⟨⟨⟨c3,c0⟩,c1,c2⟩,hB,hZ⟩ hK
  obtain⟨p,hp⟩:∃ p,p=ps[x.1]:=⟨_,rfl⟩
  have HP:=qh hp
  rw[← hp] at hK ⊢
  obtain⟨kg,ko,m,c,a,pg,e0,e1,e2,_⟩:=HK.out p (by rw[hp];exact List.getElem_mem _)
  simp only[Sp.v,Sp.cells,e0,e1,e2] at hK ⊢
  clear hp e0 e1 e2
  gi_wp2
  refine hK _ _ ((KeepsOthers.alloc _ _).from _) ⟨(Below.refl _ W).alloc hB.size _,fun e=>((show Boxed _ _ _ _ from e).alloc _)⟩ ⟨⟨⟨c3.alloc _,c0.alloc _⟩,c1.alloc _,c2.alloc _⟩,hB.alloc hB.size _,by simp;omega⟩ ⟨W.heap.size,by omega,new_at _ _ _,rfl⟩
 case body=>
  rintro l pre x a' W hl ⟨r,hr⟩ ⟨⟨⟨c3,c0⟩,c1,c2⟩,hB,hZ⟩ ⟨Bx,hBx,bX,rfl⟩ hlt
  obtain⟨p,hp⟩:∃ p,p=ps[x.1]:=⟨_,rfl⟩
  have HP:=qh hp
  rw[← hp] at bX ⊢
  obtain⟨kg,ko,m,c,a,pg,e0,e1,e2,e3,e4,e5,e6⟩:=HK.out p (by rw[hp];exact List.getElem_mem _)
  obtain⟨q0,q1⟩:=e6 W hB
  simp only[Sp.v,e0,e1,e2]
  simp only[Sp.cells,e0,e1,e2] at bX
  have s2:=cell_at bX 6
  have s7:=cell_at bX 7
  simp only[qqD,qqE,qqF] at s2 s7
  have z0:=(c0.alloc (.cells #[.string p.kkey,.int .i64 pg] 106)).cell
  have z1:=(c1.alloc (.cells #[.string p.kkey,.int .i64 pg] 106)).cell
  have z2:=(c2.alloc (.cells #[.string p.kkey,.int .i64 pg] 106)).cell
  have z2f:=(c2.alloc (.cells #[.string p.kkey,.int .i64 pg] 106)).frozen
  have z3:=(c3.alloc (.cells #[.string p.kkey,.int .i64 pg] 106)).cell
  have z3f:=(c3.alloc (.cells #[.string p.kkey,.int .i64 pg] 106)).frozen
  have s77:=cell_at ((World.grownBy_alloc W (.cells #[.string p.kkey,.int .i64 pg] 106) none).block Bx (lt_of_block bX) (by simp) |>.trans bX) 7
  simp only[qqD,qqE,qqF] at s77
  have k2:(0:Int)≤(a:Int):=by omega
  have k3:(a:Int) < (m:Int):=by omega
  have HE:=qh (And.intro e1 e2)
  clear hp e6 e0 e1 e2 bX
  have HI:Hid (BtI w last first ps pre W):=qh ⟨⟨⟨c3,c0⟩,c1,c2⟩,hB,hZ⟩
  gi_wp2
  all_goals (first
   | (refine⟨((KeepsOthers.alloc _ _).trans (KeepsOthers.setCell _ _ _)).from _,fun hall=>?_⟩
      obtain⟨q1,q2⟩:=okp_last hall
      rw[← HP.out,kb_gt] at q1 q2
      rw[HE.out.2] at q2
      simp_all)
   | (refine btI_next HI.out x _ _ ?_ _ _
      rw[tOf_snoc,← HP.out,HE.out.2]
      simp_all)
   | (exfalso;simp_all;done))
 case done=>
  rintro D ys W hD rfl ⟨⟨⟨c3,c0⟩,c1,c2⟩,hB,hZ⟩ hK
  have z2:=c2.cell
  have z2f:=c2.frozen
  gi_wp2
  have hK2:(W.setCell ⟨w.heap.size+1+1,0,none⟩ (Value.bool true)).heap[D]?=some (.deferred (some [])):=(KeepsOthers.setCell _ _ _).same D _ hK rfl
  have c5:Boxed ((W.setCell ⟨w.heap.size+1+1,0,none⟩ (Value.bool true)).putObj D (.deferred none)) (w.heap.size+1+1) 4 (.bool true):=(c2.set _).kept (grownBy_putObj' _ D _) (by intro e;cases e;omega)
  refine⟨by simp,.inl ⟨_,_,rfl,run_takeDeferred hK2,?_⟩⟩
  exact⟨_,bool_result rfl _ _ _ _ rfl c5,rfl,(hB.setCell (p:=⟨w.heap.size+1+1,0,none⟩) (by simp;omega) _).trans (belowK_b (w:=w) (Nat.le_refl _) _ D _ _ (by omega) hK2 rfl rfl)⟩
 case stop=>
  rintro D c pre W hD hp hno hK
  refine (hno fun k x hx=>?_).elim
  obtain⟨t,ht⟩:=hp
  have hx2:∀ {j:Nat} {y:Fin ps.length},pre[j]?=some y→(backN ps.length)[j]?=some y:=fun {j y} h=>by
   rw[← ht,List.getElem?_append_left (List.getElem?_eq_some_iff.1 h).1]
   exact h
  obtain⟨g1,g2⟩:=HOk.out k x (hx2 hx)
  refine⟨g1,fun h0 hj=>g2 h0 fun j y hjk hy=>hj j y hjk ?_⟩
  rw[← ht,List.getElem?_append_left (by have:=(List.getElem?_eq_some_iff.1 hx).1;omega)] at hy
  exact hy
end Go.Proofs.YtjepgclnbbpnaaaGreat.P12
namespace Go.Proofs.YtjepgclnbbpnaaaGreat.P12
open PK (qqA qqB qqC qqD qqE qqF tk tkS dOne qh)
open Go Go.RowKit Go.Lib PK
open P11 (Pg)
open P9 (It kb kb_trans RightI lowK OwnI cellsI)
theorem ne_of_kind{w:World}{i j:Nat}{cs ds:Array Value}{t u:TypeId}(h:w.heap[i]?=some (.cells cs t (0,0)))(k:w.heap[j]?=some (.cells ds u (0,0)))(hne:t≠u):¬ i=j:=fun e=>by
 subst e
 rw[h] at k
 cases k
 exact hne rfl
theorem check1_any(W:World)(x:Option Nat)(b s mb:Nat)(vw:Value)(ts:List Sp)(p:Sp)(sn:List Int)(sk:SkAt W x b s mb vw (ts++[p]) sn)(hts:ts.length≤12)(l':List It)(hnd:p.nd=.lf l')(hl':l'.length≤231)(x0 xl:It)(hx0:l'[0]?=some x0)(hxl:l'[l'.length - 1]?=some xl)
  (b1 b2 b3:Nat) (d:Int) (last:ByteArray) (t:Bool) (h1:W.heap[b1]?=some (.cells #[.int .i64 d] 3 (0,0))) (h2:W.heap[b2]?=some (.cells #[.string last] 9 (0,0))) (h3:W.heap[b3]?=some (.cells #[.bool t] 4 (0,0))) (hd:d=0∨d=((ts.length+1:Nat):Int))
  (hbt:∀ W',Below W.heap.size W W'→∀ (g c:Nat),ts.length≤c→(∀ W'',Below W'.heap.size W' W''→∀ (i:Nat) (p:Sp),ts[i]?=some p→∀ (j:Nat) (u:Value),p.cells[j]?=some u→W''.cell? ⟨g,i*8+j,none⟩=some u)→Calls Tryz.prog 65 #[.slice (some ⟨g,0,none⟩) ts.length c,.string last,.string x0.key] W' fun e w'=>e=.returned (.bool true)∧Below W'.heap.size W' w') :
  Calls Tryz.prog 64 #[vw,.pointer (some ⟨b1,0,none⟩),.pointer (some ⟨b2,0,none⟩),.pointer (some ⟨b3,0,none⟩)] W fun e w'=>e=.returned (.bool true)∧w'.heap[b1]?=some (.cells #[.int .i64 ((ts.length+1:Nat):Int)] 3 (0,0))∧w'.heap[b2]?=some (.cells #[.string xl.key] 9 (0,0))∧w'.heap[b3]?=some (.cells #[.bool true] 4 (0,0))∧P3.Fr (fun j=>j=b1∨j=b2∨j=b3) W w':=by
 obtain⟨a,c,rfl⟩:=sk.slice
 obtain⟨g,rfl,hc⟩:=sk.cells_ (i:=ts.length) (p:=p) (by simp)
 have c0:=hc W (Below.refl _ _) 0 _ rfl
 have c5:=hc W (Below.refl _ _) 5 _ rfl
 have hnt:=sk.nd p (by simp)
 rw[hnd] at hnt
 have e1:(ts++[p]).length=ts.length+1:=by simp
 have hcap:ts.length+1≤c:=by
  rcases sk.row.2 with ⟨e,_⟩|⟨g9,cap9,cur9,e,_,_,h5,_⟩
  ·simp at e
  ·simp only[Value.slice.injEq] at e
   obtain⟨_,e4,e5⟩:=e
   rw[e1] at h5
   omega
 have hcs:∀ W'',Below W.heap.size W W''→∀ (i:Nat) (q:Sp),ts[i]?=some q→∀ (j:Nat) (u:Value),q.cells[j]?=some u→W''.cell? ⟨g,i*8+j,none⟩=some u:=fun W'' hW i q hi j u hu=>by
  obtain⟨g2,e2,hc2⟩:=sk.cells_ (i:=i) (p:=q) (by rw[List.getElem?_append_left (List.getElem?_eq_some_iff.1 hi).1];exact hi)
  cases e2
  exact hc2 W'' hW j u hu
 rw[e1]
 obtain⟨N,hN⟩:∃ N,N=ts.length:=⟨_,rfl⟩
 rw[← hN] at c0 c5 hts hcap hbt hd ⊢
 have hw:IntKind.i64.wrap (((N+1:Nat):Int) - 1)=(N:Nat):=by rw[IntKind.wrap_i64];omega
 have hw2:IntKind.i64.wrap (((N:Int)+1) - 1)=(N:Nat):=by rw[IntKind.wrap_i64];omega
 have k2:(0:Int)≤(N:Int):=by omega
 have k3:(N:Int) < (N:Int)+1:=by omega
 have k4:(N:Int)≤(c:Int):=by omega
 have hitp:ItT W x p.vi l':=hnt.1
 obtain⟨va,vc,hvi⟩:=hnt.1.its.slice
 rw[hvi] at c5 hitp
 obtain⟨A0,hA0⟩:∃ A0,va=some A0:=by
  cases va with
  | none=>have h9:=(hitp.its.nil_ rfl).2.2.2;rw[h9] at hx0;simp at hx0
  | some A0=>exact⟨A0,rfl⟩
 subst hA0
 obtain⟨ib,io,rfl⟩:=hitp.plain _ _ _ rfl
 obtain⟨n,hn⟩:∃ n,n=l'.length:=⟨_,rfl⟩
 rw[← hn] at c5 hl'
 have HIt:=qh hitp
 have HN:=qh hn
 have HSk:=qh sk
 have H1:=qh h1
 have H2:=qh h2
 have H3:=qh h3
 have HBt:=qh hbt
 have HCs:=qh hcs
 have HX0:=qh hx0
 have HXl:=qh hxl
 clear hvi hnt hitp sk h1 h2 h3 hn hc e1 hnd hN hbt hcs hx0 hxl c0
 go_enter Tryz.func64,Tryz.ntmps64
 go_upto_region 1 with fail
 go_region
 obtain⟨W1,hW1⟩:∃ W1,W1=W.drew:=⟨_,rfl⟩
 have B1:Below W.heap.size W W1:=by rw[hW1];exact (Below.refl _ _).drew
 rw[← hW1]
 clear hW1
 have B1d:Below W.heap.size W W1.drew:=B1.drew
 have HB0:=qh B1d
 have HSS:Hid (∀ W',P3.Fr (·=b3) W W'→W'.cell? ⟨b1,0,none⟩=some (.int .i64 d)∧W'.cell? ⟨b2,0,none⟩=some (.string last)∧W'.cell? ⟨ib,io,none⟩=some (.string x0.key)):=qh (fun W' hf=>by
  have ft:FrT x W W':=FrT.ofFr hf fun k cs t9 hk hst e=>by
   have hk:k=b3:=hk
   subst hk
   rw[H3.out] at e
   cases e
   rcases hst.1 with h|h <;> cases h
  obtain⟨b9,o9,e9,h9⟩:=(HIt.out.keep ft).its.at_ HX0.out
  cases e9
  refine⟨?_,?_,?_⟩
  ·rw[cell_at (hf.keep H1.out (ne_of_kind H1.out H3.out (by decide)))];rfl
  ·rw[cell_at (hf.keep H2.out (ne_of_kind H2.out H3.out (by decide)))];rfl
  ·have:=(h9 W' (Below.refl _ _)).1
   rwa[Nat.zero_mul,Nat.add_zero] at this)
 have HLast:Hid (∀ W',P3.Fr (fun j=>j=b1∨j=b2∨j=b3) W W'→W'.cell? ⟨ib,io+(n - 1)*3,none⟩=some (.string xl.key)):=qh (fun W' hf=>by
  have ft:FrT x W W':=FrT.ofFr hf fun k cs t9 hk hst e=>by
   rcases hk with rfl|rfl|rfl
   ·rw[H1.out] at e
    cases e
    rcases hst.1 with h|h <;> cases h
   ·rw[H2.out] at e
    cases e
    rcases hst.1 with h|h <;> cases h
   ·rw[H3.out] at e
    cases e
    rcases hst.1 with h|h <;> cases h
  obtain⟨b9,o9,e9,h9⟩:=(HIt.out.keep ft).its.at_ HXl.out
  cases e9
  have:=(h9 W' (Below.refl _ _)).1
  rwa[← HN.out] at this)
 have HFr:Hid (∀ W':World,Below W.heap.size W W'→P3.Fr (·=b3) W W'):=qh (fun W' h=>P3.Fr.of h)
 have HCl:Hid (∀ W',Below W.heap.size W W'→W'.cell? ⟨b3,0,none⟩=some (.bool t)∧W'.frozen? ⟨b3,0,none⟩=false):=qh (fun W' h=>by
  have h9:=P3.old_below H3.out h
  exact⟨by rw[cell_at h9];rfl,free_at h9 0⟩)
 have HB9:=qh (HBt.out W1.drew B1d g c (by omega) (fun W'' h=>HCs.out W'' (B1d.trans (h.mono B1d.size))))
 have n0:(0:Int) < (n:Int):=by
  have:=(List.getElem?_eq_some_iff.1 HX0.out).1
  have:=HN.out
  omega
 have n1:0 < n:=by omega
 clear hw hw2 k3 c5
 rcases hd with rfl|hd
 ·clear k4
  go_upto_region 2 with fail
  refine wp_region_held_drew (S:=fun W9:World=>W9.cell? ⟨b1,0,none⟩=some (.int .i64 0)∧W9.cell? ⟨b2,0,none⟩=some (.string last)∧W9.cell? ⟨ib,io,none⟩=some (.string x0.key)) (by kernel_rfl) (HSS.out _ (HFr.out _ B1d)) (fun hHeld=>?_)
  refine tk 0 ?_
  refine tk 1 ?_
  refine tk 2 ?_
  refine tkS 3 ?_
  refine tkS 4 ?_
  refine tkS 5 ?_
  refine tkS 6 ?_
  refine tk 7 ?_
  refine tk 8 ?_
  refine tk 9 ?_
  refine tk 10 ?_
  refine tk 11 ?_
  refine tk 12 ?_
  refine tk 13 ?_
  refine tk 14 ?_
  refine dOne 15 fun K hK=>?_
  go_simp
  go_at_call 65;(with_reducible refine HB9.out.mono ?_);rintro e w1 ⟨rfl,hb⟩;have HB1:=qh (thenBelow HB0.out hb);clear hb
  go_wp2_with fail
  refine hK.out _ _ (HSS.out _ (HFr.out _ HB1.out)) (fun hHeld=>?_)
  clear hK K
  try simp only[Act.put,qqA,qqB,qqC]
  refine tk 16 ?_
  refine dOne 17 fun K hK=>?_
  obtain⟨z3,z3f⟩:=HCl.out _ HB1.out
  go_simp
  have HF4:Hid (P3.Fr (·=b3) W (w1.setCell ⟨b3,0,none⟩ (.bool true))):=qh ((HFr.out _ HB1.out).trans (fr_set _ _ _ _))
  have HR4:Hid ((w1.setCell ⟨b3,0,none⟩ (.bool true)).heap[b3]?=some (.cells #[.bool true] 4 (0,0))):=qh (set_at (P3.old_below H3.out HB1.out) 0 _)
  refine hK.out _ _ (HSS.out _ HF4.out) (fun hHeld=>?_)
  clear hK K z3 z3f
  try simp only[Act.put,qqA,qqB,qqC]
  refine wpAnyH_done (by kernel_rfl) ?_ _
  generalize w1.setCell ⟨b3,0,none⟩ (.bool true)=W4 at *
  have HF5:=qh (HF4.out.trans (P3.Fr.of (S:=(·=b3)) (Below.refl W4.heap.size W4).drew))
  have HR5:Hid (W4.drew.heap[b3]?=some (.cells #[.bool true] 4 (0,0))):=qh HR4.out
  have HF6:Hid (P3.Fr (fun j=>j=b1∨j=b2∨j=b3) W W4.drew):=qh (HF5.out.mono fun _ _ e=>.inr (.inr e))
  have r1:=HF5.out.keep H1.out (ne_of_kind H1.out H3.out (by decide))
  have r2:=HF5.out.keep H2.out (ne_of_kind H2.out H3.out (by decide))
  obtain⟨m,hm⟩:∃ m,m=n - 1:=⟨_,rfl⟩
  rw[← hm] at HLast
  have hwm:IntKind.i64.wrap ((n:Int) - 1)=(m:Int):=by rw[IntKind.wrap_i64];omega
  have m0:(0:Int)≤(m:Int):=by omega
  have m1:(m:Int) < (n:Int):=by omega
  have hN9:(N:Int)+1=((N+1:Nat):Int):=by omega
  have R1:=qh r1
  have R2:=qh r2
  have HN9:=qh hN9
  clear r1 r2 hm hHeld hN9
  go_upto_region 3 with fail
  refine wp_region_held_drew (S:=fun W9:World=>W9.cell? ⟨ib,io+m*3,none⟩=some (.string xl.key)) (by kernel_rfl) (HLast.out _ HF6.out) (fun hHeld=>?_)
  refine tk 0 ?_
  refine tk 1 ?_
  refine tk 2 ?_
  refine tk 3 ?_
  refine tk 4 ?_
  refine tk 5 ?_
  refine tk 6 ?_
  refine tk 7 ?_
  refine tk 8 ?_
  refine dOne 9 fun K hK=>?_
  have q1:=cell_at R1.out 0
  have q1f:=free_at R1.out 0
  simp only[qqD,qqE,qqF] at q1
  go_simp
  have F7:P3.Fr (fun j=>j=b1∨j=b2∨j=b3) W ((W4.setCell ⟨b1,0,none⟩ (.int .i64 ((N:Int)+1))).drew):=HF6.out.trans ((fr_set W4.drew b1 0 (.int .i64 ((N:Int)+1))).mono fun _ _ e=>.inl e)
  have R7:Hid (((W4.setCell ⟨b1,0,none⟩ (.int .i64 ((N:Int)+1))).drew).heap[b1]?=some (.cells #[.int .i64 ((N:Int)+1)] 3 (0,0))):=qh (set_at R1.out 0 (.int .i64 ((N:Int)+1)))
  have S7:Hid (((W4.setCell ⟨b1,0,none⟩ (.int .i64 ((N:Int)+1))).drew).heap[b2]?=some (.cells #[.string last] 9 (0,0))):=qh ((fr_set W4.drew b1 0 (.int .i64 ((N:Int)+1))).keep R2.out (fun e=>ne_of_kind H1.out H2.out (by decide) e.symm))
  have U7:Hid (((W4.setCell ⟨b1,0,none⟩ (.int .i64 ((N:Int)+1))).drew).heap[b3]?=some (.cells #[.bool true] 4 (0,0))):=qh ((fr_set W4.drew b1 0 (.int .i64 ((N:Int)+1))).keep HR5.out (fun e=>ne_of_kind H1.out H3.out (by decide) e.symm))
  have HF7:=qh F7
  refine hK.out _ _ (HLast.out _ F7) (fun hHeld=>?_)
  clear hK K q1 q1f F7
  try simp only[Act.put,qqA,qqB,qqC]
  generalize ((W4.setCell ⟨b1,0,none⟩ (.int .i64 ((N:Int)+1))).drew)=W7 at *
  refine dOne 10 fun K hK=>?_
  have q2:=cell_at S7.out 0
  have q2f:=free_at S7.out 0
  simp only[qqD,qqE,qqF] at q2
  go_simp
  have F8:=HF7.out.trans ((fr_set W7 b2 0 (.string xl.key)).mono fun _ _ e=>.inr (.inl e))
  have HF8:=qh F8
  have R8:=qh ((fr_set W7 b2 0 (.string xl.key)).keep R7.out (ne_of_kind H1.out H2.out (by decide)))
  have S8:=qh (set_at S7.out 0 (.string xl.key))
  have u8:=(fr_set W7 b2 0 (.string xl.key)).keep U7.out (fun e=>ne_of_kind H2.out H3.out (by decide) e.symm)
  refine hK.out _ _ (HLast.out _ F8) (fun hHeld=>?_)
  clear hK K q2 q2f F8
  try simp only[Act.put,qqA,qqB,qqC]
  generalize W7.setCell ⟨b2,0,none⟩ (.string xl.key)=W8 at *
  refine wpAnyH_done (by kernel_rfl) ?_ _
  have q3:=cell_at u8 0
  simp only[qqD,qqE,qqF] at q3
  have HU:=qh u8
  clear u8 hHeld
  go_wp2
  go_ret
  refine⟨rfl,?_,S8.out,HU.out,HF8.out⟩
  rw[← HN9.out]
  exact R8.out
 ·have hd2:d=(N:Int)+1:=by omega
  subst hd2
  have k6:((N:Int)+1 == 0)=false:=beq_false_of_ne (by omega)
  have k7:¬ ((N:Int)+1=0):=by omega
  clear hd k4
  go_upto_region 2 with fail
  refine wp_region_held_drew (S:=fun W9:World=>W9.cell? ⟨b1,0,none⟩=some (.int .i64 ((N:Int)+1))∧W9.cell? ⟨b2,0,none⟩=some (.string last)∧W9.cell? ⟨ib,io,none⟩=some (.string x0.key)) (by kernel_rfl) (HSS.out _ (HFr.out _ B1d)) (fun hHeld=>?_)
  refine tk 0 ?_
  refine tk 1 ?_
  refine tk 2 ?_
  refine tk 3 ?_
  refine tk 4 ?_
  refine tk 5 ?_
  refine tk 6 ?_
  refine tk 7 ?_
  refine tk 8 ?_
  refine tk 9 ?_
  refine tk 10 ?_
  refine tk 11 ?_
  refine tk 12 ?_
  refine tk 13 ?_
  refine tk 14 ?_
  refine dOne 15 fun K hK=>?_
  go_simp
  go_at_call 65;(with_reducible refine HB9.out.mono ?_);rintro e w1 ⟨rfl,hb⟩;have HB1:=qh (thenBelow HB0.out hb);clear hb
  go_wp2_with fail
  refine hK.out _ _ (HSS.out _ (HFr.out _ HB1.out)) (fun hHeld=>?_)
  clear hK K
  try simp only[Act.put,qqA,qqB,qqC]
  refine tk 16 ?_
  refine dOne 17 fun K hK=>?_
  obtain⟨z3,z3f⟩:=HCl.out _ HB1.out
  go_simp
  have HF4:Hid (P3.Fr (·=b3) W (w1.setCell ⟨b3,0,none⟩ (.bool true))):=qh ((HFr.out _ HB1.out).trans (fr_set _ _ _ _))
  have HR4:Hid ((w1.setCell ⟨b3,0,none⟩ (.bool true)).heap[b3]?=some (.cells #[.bool true] 4 (0,0))):=qh (set_at (P3.old_below H3.out HB1.out) 0 _)
  refine hK.out _ _ (HSS.out _ HF4.out) (fun hHeld=>?_)
  clear hK K z3 z3f
  try simp only[Act.put,qqA,qqB,qqC]
  refine wpAnyH_done (by kernel_rfl) ?_ _
  generalize w1.setCell ⟨b3,0,none⟩ (.bool true)=W4 at *
  have HF5:=qh (HF4.out.trans (P3.Fr.of (S:=(·=b3)) (Below.refl W4.heap.size W4).drew))
  have HR5:Hid (W4.drew.heap[b3]?=some (.cells #[.bool true] 4 (0,0))):=qh HR4.out
  have HF6:Hid (P3.Fr (fun j=>j=b1∨j=b2∨j=b3) W W4.drew):=qh (HF5.out.mono fun _ _ e=>.inr (.inr e))
  have r1:=HF5.out.keep H1.out (ne_of_kind H1.out H3.out (by decide))
  have r2:=HF5.out.keep H2.out (ne_of_kind H2.out H3.out (by decide))
  obtain⟨m,hm⟩:∃ m,m=n - 1:=⟨_,rfl⟩
  rw[← hm] at HLast
  have hwm:IntKind.i64.wrap ((n:Int) - 1)=(m:Int):=by rw[IntKind.wrap_i64];omega
  have m0:(0:Int)≤(m:Int):=by omega
  have m1:(m:Int) < (n:Int):=by omega
  have hN9:(N:Int)+1=((N+1:Nat):Int):=by omega
  have R1:=qh r1
  have R2:=qh r2
  have HN9:=qh hN9
  clear r1 r2 hm hHeld hN9
  go_upto_region 3 with fail
  refine wp_region_held_drew (S:=fun W9:World=>W9.cell? ⟨ib,io+m*3,none⟩=some (.string xl.key)) (by kernel_rfl) (HLast.out _ HF6.out) (fun hHeld=>?_)
  refine tk 0 ?_
  refine tk 1 ?_
  refine tk 2 ?_
  refine tk 3 ?_
  refine tk 4 ?_
  refine tk 5 ?_
  refine tk 6 ?_
  refine tk 7 ?_
  refine tk 8 ?_
  refine dOne 9 fun K hK=>?_
  have q1:=cell_at R1.out 0
  have q1f:=free_at R1.out 0
  simp only[qqD,qqE,qqF] at q1
  go_simp
  have F7:P3.Fr (fun j=>j=b1∨j=b2∨j=b3) W ((W4.setCell ⟨b1,0,none⟩ (.int .i64 ((N:Int)+1))).drew):=HF6.out.trans ((fr_set W4.drew b1 0 (.int .i64 ((N:Int)+1))).mono fun _ _ e=>.inl e)
  have R7:Hid (((W4.setCell ⟨b1,0,none⟩ (.int .i64 ((N:Int)+1))).drew).heap[b1]?=some (.cells #[.int .i64 ((N:Int)+1)] 3 (0,0))):=qh (set_at R1.out 0 (.int .i64 ((N:Int)+1)))
  have S7:Hid (((W4.setCell ⟨b1,0,none⟩ (.int .i64 ((N:Int)+1))).drew).heap[b2]?=some (.cells #[.string last] 9 (0,0))):=qh ((fr_set W4.drew b1 0 (.int .i64 ((N:Int)+1))).keep R2.out (fun e=>ne_of_kind H1.out H2.out (by decide) e.symm))
  have U7:Hid (((W4.setCell ⟨b1,0,none⟩ (.int .i64 ((N:Int)+1))).drew).heap[b3]?=some (.cells #[.bool true] 4 (0,0))):=qh ((fr_set W4.drew b1 0 (.int .i64 ((N:Int)+1))).keep HR5.out (fun e=>ne_of_kind H1.out H3.out (by decide) e.symm))
  have HF7:=qh F7
  refine hK.out _ _ (HLast.out _ F7) (fun hHeld=>?_)
  clear hK K q1 q1f F7
  try simp only[Act.put,qqA,qqB,qqC]
  generalize ((W4.setCell ⟨b1,0,none⟩ (.int .i64 ((N:Int)+1))).drew)=W7 at *
  refine dOne 10 fun K hK=>?_
  have q2:=cell_at S7.out 0
  have q2f:=free_at S7.out 0
  simp only[qqD,qqE,qqF] at q2
  go_simp
  have F8:=HF7.out.trans ((fr_set W7 b2 0 (.string xl.key)).mono fun _ _ e=>.inr (.inl e))
  have HF8:=qh F8
  have R8:=qh ((fr_set W7 b2 0 (.string xl.key)).keep R7.out (ne_of_kind H1.out H2.out (by decide)))
  have S8:=qh (set_at S7.out 0 (.string xl.key))
  have u8:=(fr_set W7 b2 0 (.string xl.key)).keep U7.out (fun e=>ne_of_kind H2.out H3.out (by decide) e.symm)
  refine hK.out _ _ (HLast.out _ F8) (fun hHeld=>?_)
  clear hK K q2 q2f F8
  try simp only[Act.put,qqA,qqB,qqC]
  generalize W7.setCell ⟨b2,0,none⟩ (.string xl.key)=W8 at *
  refine wpAnyH_done (by kernel_rfl) ?_ _
  have q3:=cell_at u8 0
  simp only[qqD,qqE,qqF] at q3
  have HU:=qh u8
  clear u8 hHeld
  go_wp2
  go_ret
  refine⟨rfl,?_,S8.out,HU.out,HF8.out⟩
  rw[← HN9.out]
  exact R8.out
end Go.Proofs.YtjepgclnbbpnaaaGreat.P12
namespace Go.Proofs.YtjepgclnbbpnaaaGreat.P12
open PK (qqA qqB qqC qqD qqE qqF tk tkS dOne qh)
open Go Go.RowKit Go.Lib PK
open P11 (Pg)
open P9 (It kb kb_trans RightI lowK)
theorem leavesC(w0 w:World)(b s mb:Nat)(vl vg:Value)(M:PM)(h0:PAt w0 b vl vg M)(hb0:Below w0.heap.size w0 w)(hs:SkAt w none b s mb (.slice none 0 0) [] [])(hS:w0.heap.size≤s∧w0.heap.size≤mb)(hsz:M.L.length≤100000)(D:Nat)(root:Int)(L:List It)(ids:List Int)(ht:Tree M D root L ids)(hD:D≤12)(hn:ids.Nodup)(hid:ids.length≤80000)(key:ByteArray)(c1 c2 c3:Nat)
  (P P2:World→Option Nat→Sg→Prop) (Q:World→List Int→Prop) (hP:SeeP M D root L ids w0 b s mb P P2 Q)
  (hstart:∀ (w2:World) (g:Sg) (vw:Value),SkAt w none b s mb vw [] []→g.ok M D root L ids→g.k=lowK g.l' key→Lows g.la key→Highs g.lb key→(key=⟨#[]⟩→g.la=[]∧g.sn=g.ia++g.i')→Below w0.heap.size w0 w2→P3.Fr (SS s mb vw) w w2→(∀ j,SS s mb vw j→w0.heap.size≤j)→FrT none w w2→P w2 none g)
  (hnone:D=0→Q w [])
  (hsee:∀ (W:World) (x:Option Nat) (vw:Value) (g:Sg),Below w0.heap.size w0 W→SkAt W x b s mb vw g.ps g.sn→(∀ j,SS s mb vw j→w0.heap.size≤j)→g.ok M D root L ids→P W x g→
   Calls Tryz.prog 64 #[vw,.pointer (some ⟨c1,0,none⟩),.pointer (some ⟨c2,0,none⟩),.pointer (some ⟨c3,0,none⟩)] W fun e w'=>∃ (bb:Bool) (x':Option Nat),e=.returned (.bool bb)∧Below w0.heap.size w0 w'∧SkAt w' x' b s mb vw g.ps g.sn∧(∀ k,x'=some k→k < w'.heap.size)∧(bb=true→P2 w' x' g)∧(bb=false→Q w' g.sn)) :
  Calls Tryz.prog 59 #[.pointer (some ⟨s,0,none⟩),.int .i64 root,.string key,.func (.func 64) #[] #[.pointer (some ⟨c1,0,none⟩),.pointer (some ⟨c2,0,none⟩),.pointer (some ⟨c3,0,none⟩)]] w fun e w'=>∃ (x:Option Nat) (vw:Value) (ps:List Sp) (sn:List Int),e=.returned (.int .i64 0)∧Below w0.heap.size w0 w'∧SkAt w' x b s mb vw ps sn∧Q w' sn:=by
 have hdown:Calls Tryz.prog 53 #[.pointer (some ⟨s,0,none⟩),.int .i64 root,.string key] w fun e w'=>e=.returned (.int .i64 0)∧∃ n,LvR M D root L ids w0 b s mb P Q w' n:=by
  cases D with
  | zero=>
   obtain⟨rfl,rfl,rfl⟩:=ht
   refine (down_zero w s key).mono ?_
   rintro e w' ⟨rfl,rfl⟩
   exact⟨rfl,0,.end_ hb0 hs (hnone rfl)⟩
  | succ d=>
   have ht:TreeAt M (d+1) root L ids:=ht
   refine (down_any w none b vl vg M s mb (.slice none 0 0) [] [] (h0.below hb0) hs (by omega) (d+1) root key L ids ht (by simp;omega) hn (fun _ _ f=>by cases f) (by simp) (fun _ e=>by cases e)).mono ?_
   rintro e w' ⟨vw',ts,pl,fs,id',l',i',rfl,g1,g2⟩
   rw[List.nil_append] at g1
   rw[List.nil_append] at g1
   obtain⟨la,lb,ia,ib,k1,k2,k3,k4⟩:=Lf.start g2
   have hnil:∀ j,SS s mb (.slice none 0 0) j→w0.heap.size≤j:=SS_new hS.1 hS.2
   have hbl:=P3.Fr.new hb0 g1.fr hnil
   have hft:FrT none w w':=FrT.ofFr g1.fr hs.notT
   refine⟨rfl,_,.at_ (x:=none) (vw:=vw') (g:=⟨ts++[pl],pathI fs++[id'],fs,la,l',lb,ia,i',ib,lowK l' key⟩) hbl g1.sk (fun j hj=>?_) k1 (hstart w' _ (.slice none 0 0) hs k1 rfl k2 k3 k4 hbl g1.fr hnil hft)⟩
   rcases g1.sub hj with h|h
   ·exact hnil j h
   ·exact Nat.le_trans hb0.size h
 have HDn:=qh hdown
 have HSee:=qh hsee
 have HP:=qh hP
 have H0:=qh h0
 clear hdown hsee hP hstart hnone h0 hs hb0 ht hS
 go_enter Tryz.func59,Tryz.ntmps59
 go_wp2_with (go_at_call 53;(with_reducible refine HDn.out.mono ?_);rintro e w1 ⟨rfl,h9⟩;have HR0:=qh h9;clear h9)
 go_loopw [9] (fun ve wr=>ve=.int .i64 0∧Hid (∃ n,LvR M D root L ids w0 b s mb P Q wr n)) (fun _ wr=>leastN (LvR M D root L ids w0 b s mb P Q wr))
 case atStart=>exact⟨rfl,HR0⟩
 case round=>
  clear HR0
  obtain⟨rfl,HR⟩:=hrel
  obtain⟨n0,hn0⟩:=HR.out
  have hr:=(leastN_spec hn0).1
  obtain⟨n,hnn⟩:∃ n,n=leastN (LvR M D root L ids w0 b s mb P Q wr):=⟨_,rfl⟩
  rw[← hnn] at hr
  have HNn:=qh hnn
  clear HR hn0 n0 hnn
  cases hr with
  | @end_ x vw sn hb hs hq=>
   obtain⟨va,vc,hvw⟩:=hs.slice
   have hvw:vw=.slice va 0 vc:=hvw
   subst hvw
   have o1:=cell_at hs.obj 1
   simp only[qqD,qqE,qqF] at o1
   have HB:=qh hb
   have HSk:=qh hs
   have HQ:=qh hq
   clear hb hs hq
   go_wp2
   go_ret
   exact⟨x,_,_,sn,rfl,HB.out,HSk.out,HQ.out⟩
  | @at_ x vw g hb hs hng hg hp=>
   obtain⟨bd1,bd2,bd3,bd4,bd5⟩:=hg.bounds
   obtain⟨va,vc,hvw⟩:=hs.slice
   obtain⟨m,hm⟩:∃ m,m=g.ps.length:=⟨_,rfl⟩
   rw[← hm] at hvw bd1 bd2
   subst hvw
   have o1:=cell_at hs.obj 1
   simp only[qqD,qqE,qqF] at o1
   have k1:decide ((0:Int) < (m:Int))=true:=decide_eq_true (by omega)
   have k2:(0:Int) < (m:Int):=by omega
   have k3:decide (0 < m)=true:=decide_eq_true bd1
   have HSe:=qh (HSee.out wr x _ g hb hs hng hg hp)
   have HNg:=qh hng
   have HG:=qh hg
   have HM:=qh hm
   have HBd:=qh bd3
   have HBD:=qh bd2
   clear hb hs hng hg hp hm bd3 bd2
   go_upto_region 3 with (go_at_call 64;(with_reducible refine HSe.out.mono ?_);rintro e w2 ⟨bb,x2,rfl,s1,s2,s3,s4,s5⟩;have S1:=qh s1;have S2:=qh s2;have S3:=qh s3;have S4:=qh s4;have S5:=qh s5;clear s1 s2 s3 s4 s5)
   rotate_left
   ·rename_i hbb
    go_ret
    exact⟨x2,_,_,g.sn,rfl,S1.out,S2.out,S5.out (by simpa using hbb)⟩
   ·rename_i hbb
    have htn:=turn_any w2 x2 b s mb (.slice va m vc) g.ps g.sn S2.out (by rw[← HM.out];exact bd1) (by rw[← HM.out];have:=HBD.out;omega) HBd.out
    rcases HG.out.next hn with ⟨t1,t2,t3⟩|⟨ps2,e2,z,lq,iq,t1,t2,t3,t4,t5,t6⟩
    ·rw[t1] at htn
     have hT:Calls Tryz.prog 72 #[.pointer (some ⟨s,0,none⟩)] w2 fun e w'=>e=.returned (.int .i64 0)∧LvR M D root L ids w0 b s mb P Q w' 0:=htn.mono fun e w'=>by
      rintro ⟨vw',rfl,g1,g2,g3,g4⟩
      have hfr:P3.Fr (SS s mb (.slice va m vc)) w2 w':=g2.mono fun j _ e=>e.imp id .inl
      have hbl:=P3.Fr.new S1.out hfr HNg.out
      exact⟨rfl,.end_ hbl g1 (HP.out.stop w2 w' x2 g _ (S4.out hbb) S2.out HG.out t2 t3 hbl hfr HNg.out g4)⟩
     have HT:=qh hT
     clear htn hT
     go_wp2_with (first
      | (go_at_call 72;(with_reducible refine HT.out.mono ?_);rintro e w3 ⟨rfl,h9⟩;have H9:=qh h9;clear h9)
      | (go_at_call 53;(with_reducible refine (down_zero _ s ⟨#[]⟩).mono ?_);rintro e w4 ⟨rfl,rfl⟩))
     go_roundw
     case rel=>exact⟨rfl,qh ⟨0,H9.out⟩⟩
     case measure=>
      rw[← HNn.out]
      have:=(leastN_spec H9.out).2
      omega
    ·rw[t1] at htn
     have hT:Calls Tryz.prog 72 #[.pointer (some ⟨s,0,none⟩)] w2 fun e w'=>e=.returned (.int .i64 z)∧∃ vw',SkAt w' x2 b s mb vw' ps2 g.sn∧P3.Fr (SS s mb (.slice va m vc)) w2 w'∧(∀ j,SS s mb vw' j→SS s mb (.slice va m vc) j)∧FrT x2 w2 w'∧Below w0.heap.size w0 w':=htn.mono fun e w'=>by
      rintro ⟨vw',rfl,g1,g2,g3,g4⟩
      have hfr:P3.Fr (SS s mb (.slice va m vc)) w2 w':=g2.mono fun j _ e=>e.imp id .inl
      exact⟨rfl,vw',g1,hfr,fun j hj=>by
       rcases hj with h|h|h
       ·exact .inl h
       ·exact .inr (.inl (g3 j h))
       ·exact .inr (.inr h),g4,P3.Fr.new S1.out hfr HNg.out⟩
     have hD2:∀ (W:World) (vw':Value),SkAt W x2 b s mb vw' ps2 g.sn→P3.Fr (SS s mb (.slice va m vc)) w2 W→(∀ j,SS s mb vw' j→SS s mb (.slice va m vc) j)→FrT x2 w2 W→Below w0.heap.size w0 W→Calls Tryz.prog 53 #[.pointer (some ⟨s,0,none⟩),.int .i64 z,.string ⟨#[]⟩] W fun e w'=>e=.returned (.int .i64 0)∧∃ n,LvR M D root L ids w0 b s mb P Q w' n∧n < g.lb.length+1:=fun W vw' q1 q2 q3 q4 q5=>by
      refine (down_any W x2 b vl vg M s mb vw' ps2 g.sn (H0.out.below q5) q1 hsz (e2+1) z ⟨#[]⟩ lq iq t2 (by omega) t4 t5 (by
       have h7:=HG.out.snl
       have h8:=HG.out.iE
       rw[h8] at hid
       simp only[List.length_append] at hid
       omega) (fun k hk=>Nat.lt_of_lt_of_le (S3.out k hk) q2.size)).mono ?_
      rintro e w' ⟨vw3,ts,pl,f2,id2,l2,i2,rfl,g1,g2⟩
      obtain⟨fs3,lb3,ib3,ia3,u1,u2,u3⟩:=t6 g2
      have hn2:∀ j,SS s mb vw' j→w0.heap.size≤j:=fun j hj=>HNg.out j (q3 j hj)
      have hbl:=P3.Fr.new q5 g1.fr hn2
      have hfr:P3.Fr (SS s mb (.slice va m vc)) w2 w':=frThen q2 g1.fr fun j _ hj=>q3 j hj
      have hft:FrT x2 w2 w':=q4.trans (FrT.ofFr g1.fr q1.notT)
      have hne:0 < l2.length:=u1.bounds.2.2.2.2
      refine⟨rfl,_,.at_ (x:=x2) (vw:=vw3) (g:=⟨ps2++ts++[pl],g.sn++pathI f2++[id2],fs3,g.la++g.l',l2,lb3,ia3,i2,ib3,0⟩) hbl g1.sk (fun j hj=>?_) u1 (HP.out.next w2 w' x2 g _ _ (S4.out hbb) S2.out HG.out u1 rfl u2 rfl u3 hbl hfr HNg.out hft),?_⟩
      ·rcases g1.sub hj with h|h
       ·exact hn2 j h
       ·exact Nat.le_trans q5.size h
      ·show lb3.length+1 < _
       rw[u2,List.length_append]
       omega
     have HT:=qh hT
     have HD2:=qh hD2
     clear htn hT hD2
     go_wp2_with (first
      | (go_at_call 72;(with_reducible refine HT.out.mono ?_);rintro e w3 ⟨rfl,vw3,h1,h2,h3,h4,h5⟩;have H1:=qh h1;have H2:=qh h2;have H3:=qh h3;have H4:=qh h4;have H5:=qh h5;clear h1 h2 h3 h4 h5)
      | (go_at_call 53;(with_reducible refine (HD2.out _ _ H1.out H2.out H3.out H4.out H5.out).mono ?_);rintro e w4 ⟨rfl,n4,h9,h8⟩;have H9:=qh h9;have H8:=qh h8;clear h9 h8))
     go_roundw
     case rel=>exact⟨rfl,qh ⟨n4,H9.out⟩⟩
     case measure=>
      rw[← HNn.out]
      have:=(leastN_spec H9.out).2
      have:=H8.out
      omega
end Go.Proofs.YtjepgclnbbpnaaaGreat.P12
