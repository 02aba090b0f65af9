/-
  Texts of the proofs of SaidOrd12.
-/
import Derived.Test.YtjepgclnbbpnaaaGreatRows
import Derived.BigQuiet
import Derived.Deep.OwnRows
import Derived.WalkSpells
import Derived.Lib.BufSteps
import Derived.Lib.Hide
import Derived.Lib.BufferRead
import Derived.Deep.RegionHeld3
import Derived.Deep.AppendLies
import Derived.Deep.DeepAppendRoom
import Derived.Deep.CutRange
set_option linter.unusedVariables false
set_option linter.unusedSimpArgs false
set_option maxHeartbeats 8000000
set_option maxRecDepth 100000
namespace Go.Proofs.YtjepgclnbbpnaaaGreat.PK
open Go Go.RowKit Go.Lib
theorem owns_below{w w':World}{base e size:Nat}{v:Value}{n:Nat}{xs:List Value}(h:w.ownsRow base e size v n xs)(hb:Below w.heap.size w w'):w'.ownsRow base e size v n xs:=
 h.kept (row:=none) ⟨hb.os,hb.tape,hb.output,hb.size,fun k hk _=>hb.block k hk⟩ (by cases hv:v.ownBlock <;> simp)
theorem owns_shape{w:World}{base e size n:Nat}{v:Value}{xs:List Value}(h:w.ownsRow base e size v n xs):∃ a k c,v=.slice a k c:=by
 rcases h.2 with ⟨rfl,_⟩|⟨g,cap,cur,rfl,_⟩
 ·exact⟨_,_,_,rfl⟩
 ·exact⟨_,_,_,rfl⟩
theorem cell_at{w:World}{b:Nat}{c:Array Value}{t:TypeId}(h:w.heap[b]?=some (.cells c t (0,0)))(j:Nat):w.cell? ⟨b,j,none⟩=c[j]?:=by
 simp[World.cell?,h]
theorem free_at{w:World}{b:Nat}{c:Array Value}{t:TypeId}(h:w.heap[b]?=some (.cells c t (0,0)))(j:Nat):w.frozen? ⟨b,j,none⟩=false:=by
 simp[World.frozen?,h]
theorem set_at{w:World}{b:Nat}{c:Array Value}{t:TypeId}(h:w.heap[b]?=some (.cells c t (0,0)))(j:Nat)(u:Value):(w.setCell ⟨b,j,none⟩ u).heap[b]?=some (.cells (c.setIfInBounds j u) t (0,0)):=by
 simp only[World.setCell,Array.getElem?_modify];rw[h];rfl
theorem new_at(w:World)(c:Array Value)(t:TypeId):(w.alloc (.cells c t)).heap[w.heap.size]?=some (.cells c t (0,0)):=heap_alloc_new w _
theorem below_new(w:World)(o:Obj):Below w.heap.size w (w.alloc o):=(Below.refl _ w).alloc (Nat.le_refl _) o
theorem grow{a w:World}(h:Below a.heap.size a w)(o:Obj):Below a.heap.size a (w.alloc o):=h.alloc h.size o
theorem thenBelow{a w w':World}(h:Below a.heap.size a w)(k:Below w.heap.size w w'):Below a.heap.size a w':=h.trans (k.mono h.size)
structure Row where
 v:Value
 e:TypeId
 size:Nat
 n:Nat
 xs:List Value
def Row.blk(r:Row):Option Nat:=r.v.ownBlock
def Row.At(w:World)(lo:Nat)(r:Row):Prop:=w.ownsRow lo r.e r.size r.v r.n r.xs
theorem owns_lo{w:World}{b b' e size:Nat}{v:Value}{n:Nat}{xs:List Value}(h:w.ownsRow b e size v n xs)(hb:b'≤b):w.ownsRow b' e size v n xs:=
 ⟨h.1,h.2.imp id fun ⟨g,cap,cur,h1,h2,h3⟩=>⟨g,cap,cur,h1,Nat.le_trans hb h2,h3⟩⟩
theorem setCell_grownBy(w:World)(g j:Nat)(u:Value):w.grownBy (w.setCell ⟨g,j,none⟩ u) (some g):=
 ⟨rfl,rfl,rfl,by simp,fun k _ hne=>Below.heap_setCell _ _ _ _ (fun e=>hne (congrArg some e))⟩
theorem Row.At.cell{w:World}{lo:Nat}{x:Row}(h:x.At w lo){g:Nat}(hb:x.blk=some g){j:Nat}{u:Value}(hu:x.xs[j]?=some u):w.cell? ⟨g,j,none⟩=some u:=by
 have:=h.cells hb j u hu
 rwa[Go.WideShapes.add_plain,Nat.zero_add] at this
theorem Row.At.slice{w:World}{lo:Nat}{x:Row}(h:x.At w lo):(x.v=.slice none 0 0∧x.n=0∧x.xs=[])∨∃ g cap,x.v=.slice (some ⟨g,0,none⟩) x.n cap∧x.blk=some g∧x.n≤cap∧cap≤maxLen:=by
 obtain⟨h0,h⟩:=h
 rcases h with ⟨e,h⟩|⟨g',cap,cur,h1,_,_,h4,h5,_⟩
 ·refine .inl ⟨e,h,?_⟩
  rw[h,Nat.zero_mul] at h0
  exact List.eq_nil_of_length_eq_zero h0
 ·exact .inr ⟨g',cap,h1,by unfold Row.blk;rw[h1];rfl,h4,h5⟩
theorem op_at{ops:Array Oper}{i:Nat}{o:Oper}{rest:List Oper}(h:ops.toList.drop i=o::rest):ops[i]?=some o:=by
 have:=congrArg List.head? h
 rw[List.head?_drop] at this
 simpa using this
section
variable {P:Program} {ops:Array Oper} {Q:Exit→Act→World→Prop} {md:Region.Mode} {S:World→Prop}
theorem take_w(i:Nat){oi:Oper}{rest:List Oper}{v:Value}{fuel:Nat}{listed:Array Bool}{a:Act}{w:World}(h0:ops.toList.drop i=oi::rest)
  (hs:Region.noSelect ops=true) (hf:Region.free md ops listed i=true) (hr:(Region.ready md ops listed).contains i=true)
  (hQ:∀ c a w,Q (.panic c) (a.put oi.dst v) w→Q (.panic c) a w) (hw:Region.wanted oi (yielded ops a.tmps)=true) (hv:∀ w,S w→(execOp a.eval oi).run P w=.ok (.value v) w) (hS:S w)
  (h:wpAnyH P md ops Q S fuel (listed.setIfInBounds i true) (a.put oi.dst v) w):wpAnyH P md ops Q S (fuel+1) listed a w:=
 wpAnyH_take (op_at h0) hs hf hr hQ (.inl ⟨hw,hv⟩) hS h
theorem take_s(i:Nat){oi:Oper}{rest:List Oper}{fuel:Nat}{listed:Array Bool}{a:Act}{w:World}(h0:ops.toList.drop i=oi::rest)
  (hs:Region.noSelect ops=true) (hf:Region.free md ops listed i=true) (hr:(Region.ready md ops listed).contains i=true)
  (hQ:∀ c a w,Q (.panic c) (a.put oi.dst undef) w→Q (.panic c) a w) (hw:Region.wanted oi (yielded ops a.tmps)=false) (hS:S w)
  (h:wpAnyH P md ops Q S fuel (listed.setIfInBounds i true) (a.put oi.dst undef) w):wpAnyH P md ops Q S (fuel+1) listed a w:=
 wpAnyH_take (op_at h0) hs hf hr hQ (.inr ⟨hw,rfl⟩) hS h
theorem do_one(i:Nat){o:Oper}{rest:List Oper}{fuel:Nat}{listed:Array Bool}{a:Act}{w:World}(h0:ops.toList.drop i=o::rest)
  (hr:Region.ready md ops listed=[i]) (hw:Region.wanted o (yielded ops a.tmps)=true)
  (h:∀ K':Act→World→Prop,Hid (∀ a w,S w→(S w→wpAnyH P md ops Q S fuel (listed.setIfInBounds i true) a w)→K' a w)→Oper.wp P o a w K' Q):wpAnyH P md ops Q S (fuel+1) listed a w:=
 wpAnyH_ready hr (by simp) (AllReadyH.cons (op_at h0) (fun K' hK=>by rw[if_pos hw];exact h K' hK) AllReadyH.nil)
end
end Go.Proofs.YtjepgclnbbpnaaaGreat.PK
namespace Go.Proofs.YtjepgclnbbpnaaaGreat.PK
open Go Go.RowKit Go.Lib

theorem qqA{α:Type}(xs:List α)(i:Nat)(x:α):xs.toArray.setIfInBounds i x=(xs.set i x).toArray:=by simp
theorem qqB{α:Type}(a:α)(l:List α)(b:α):(a::l).set 0 b=b::l:=rfl
theorem qqC{α:Type}(a:α)(l:List α)(i:Nat)(b:α):(a::l).set (i+1) b=a::l.set i b:=rfl
theorem qqD{α:Type}(xs:List α)(i:Nat):xs.toArray[i]?=xs[i]?:=by simp
theorem qqE{α:Type}(a:α)(l:List α):(a::l)[0]?=some a:=rfl
theorem qqF{α:Type}(a:α)(l:List α)(i:Nat):(a::l)[i+1]?=l[i]?:=rfl
theorem qh{p:Prop}(h:p):Hid p:=Lib.hid h
section
variable {P:Program} {ops:Array Oper} {Q:Exit→Act→World→Prop} {md:Region.Mode} {S:World→Prop}
theorem tk(i:Nat){oi:Oper}{rest:List Oper}{v:Value}{fuel:Nat}{listed:Array Bool}{a a':Act}{w:World}(h:wpAnyH P md ops Q S fuel (listed.setIfInBounds i true) a' w)(h0:ops.toList.drop i=oi::rest:=by exact rfl)
  (hs:Region.noSelect ops=true:=by kernel_rfl) (hf:Region.free md ops listed i=true:=by kernel_rfl) (hr:(Region.ready md ops listed).contains i=true:=by kernel_rfl)
  (hw:Region.wanted oi (yielded ops a.tmps)=true:=by rfl) (hv:∀ w,S w→(execOp a.eval oi).run P w=.ok (.value v) w:=by (intro w hSw;(try dsimp only at hSw);go_simp;try with_reducible rfl))
  (hp:a.put oi.dst v=a':=by (simp only[Act.put,qqA,qqB,qqC];try with_reducible rfl)) (hQ:∀ c a w,Q (.panic c) (a.put oi.dst v) w→Q (.panic c) a w:=by exact fun _ _ _ h=>h) (hS:S w:=by assumption):wpAnyH P md ops Q S (fuel+1) listed a w:=
 take_w i h0 hs hf hr hQ hw hv hS (by rw[hp];exact h)
theorem tkS(i:Nat){oi:Oper}{rest:List Oper}{fuel:Nat}{listed:Array Bool}{a a':Act}{w:World}(h:wpAnyH P md ops Q S fuel (listed.setIfInBounds i true) a' w)(h0:ops.toList.drop i=oi::rest:=by exact rfl)
  (hs:Region.noSelect ops=true:=by kernel_rfl) (hf:Region.free md ops listed i=true:=by kernel_rfl) (hr:(Region.ready md ops listed).contains i=true:=by kernel_rfl)
  (hw:Region.wanted oi (yielded ops a.tmps)=false:=by rfl) (hp:a.put oi.dst undef=a':=by (simp only[Act.put,qqA,qqB,qqC];try with_reducible rfl)) (hQ:∀ c a w,Q (.panic c) (a.put oi.dst undef) w→Q (.panic c) a w:=by exact fun _ _ _ h=>h) (hS:S w:=by assumption):wpAnyH P md ops Q S (fuel+1) listed a w:=
 take_s i h0 hs hf hr hQ hw hS (by rw[hp];exact h)
theorem dOne(i:Nat){o:Oper}{rest:List Oper}{fuel:Nat}{listed:Array Bool}{a:Act}{w:World}
  (h:∀ K':Act→World→Prop,Hid (∀ a w,S w→(S w→wpAnyH P md ops Q S fuel (listed.setIfInBounds i true) a w)→K' a w)→Oper.wp P o a w K' Q) (h0:ops.toList.drop i=o::rest:=by exact rfl)
  (hr:Region.ready md ops listed=[i]:=by kernel_rfl) (hw:Region.wanted o (yielded ops a.tmps)=true:=by rfl):wpAnyH P md ops Q S (fuel+1) listed a w:=do_one i h0 hr hw h
end
end Go.Proofs.YtjepgclnbbpnaaaGreat.PK
namespace Go.Proofs.YtjepgclnbbpnaaaGreat.PK
open Go Go.RowKit Go.Lib
structure Kd where
 e:TypeId
 n:Nat
 te:TypeId
 p:Nat
 ok:List Value→Prop
 mark:Nat→Nat→List Value
 len:∀ x,ok x→x.length=n
 one:∀ x,ok x→∀ u∈x,u.oneCell'=true
 mok:∀ i k,ok (mark i k)
 pos:0 < n
theorem flat_len{n:Nat}:∀ {l:List (List Value)},(∀ x∈l,x.length=n)→l.flatten.length=l.length*n
 | [],_=>by simp
 | x::l,h=>by
  rw[List.flatten_cons,List.length_append,h x List.mem_cons_self,flat_len (fun y hy=>h y (List.mem_cons_of_mem _ hy)),List.length_cons,Nat.succ_mul,Nat.add_comm]
theorem flat_at{n:Nat}:∀ {l:List (List Value)},(∀ x∈l,x.length=n)→∀ {i j:Nat} {x:List Value} {u:Value},l[i]?=some x→x[j]?=some u→l.flatten[i*n+j]?=some u
 | [],_,i,j,x,u,hi,_=>by simp at hi
 | y::l,h,0,j,x,u,hi,hj=>by
  obtain rfl:y=x:=by simpa using hi
  rw[List.flatten_cons,Nat.zero_mul,Nat.zero_add,List.getElem?_append_left (List.getElem?_eq_some_iff.1 hj).1]
  exact hj
 | y::l,h,i+1,j,x,u,hi,hj=>by
  have hy:=h y List.mem_cons_self
  have ih:=flat_at (fun z hz=>h z (List.mem_cons_of_mem _ hz)) (i:=i) (j:=j) (x:=x) (u:=u) (by simpa using hi) hj
  rw[List.flatten_cons,List.getElem?_append_right (by rw[hy,Nat.succ_mul];omega),hy,show (i+1)*n+j - n=i*n+j by rw[Nat.succ_mul];omega]
  exact ih
theorem flat_set{n:Nat}:∀ {l:List (List Value)},(∀ x∈l,x.length=n)→∀ {i j:Nat} {x:List Value} {u:Value},l[i]?=some x→j < n→(l.set i (x.set j u)).flatten=l.flatten.set (i*n+j) u
 | [],_,i,j,x,u,hi,_=>by simp at hi
 | y::l,h,0,j,x,u,hi,hj=>by
  obtain rfl:y=x:=by simpa using hi
  have hy:=h y List.mem_cons_self
  rw[List.set_cons_zero,List.flatten_cons,List.flatten_cons,Nat.zero_mul,Nat.zero_add,List.set_append_left _ _ (by omega)]
 | y::l,h,i+1,j,x,u,hi,hj=>by
  have hy:=h y List.mem_cons_self
  have ih:=flat_set (fun z hz=>h z (List.mem_cons_of_mem _ hz)) (i:=i) (j:=j) (x:=x) (u:=u) (by simpa using hi) hj
  rw[List.set_cons_succ,List.flatten_cons,List.flatten_cons,ih,List.set_append_right _ _ (by rw[hy,Nat.succ_mul];omega),hy,show (i+1)*n+j - n=i*n+j by rw[Nat.succ_mul];omega]
theorem flat_split{n:Nat}:∀ {l:List (List Value)},(∀ x∈l,x.length=n)→∀ {J:Nat} {u:Value},l.flatten[J]?=some u→∃ i j x,l[i]?=some x∧x[j]?=some u∧J=i*n+j
 | [],_,J,u,h=>by simp at h
 | y::l,h,J,u,hJ=>by
  have hy:=h y List.mem_cons_self
  rw[List.flatten_cons] at hJ
  by_cases hlt:J < y.length
  ·rw[List.getElem?_append_left hlt] at hJ
   exact⟨0,J,y,rfl,hJ,by omega⟩
  ·rw[List.getElem?_append_right (by omega)] at hJ
   obtain⟨i,j,x,h1,h2,h3⟩:=flat_split (fun z hz=>h z (List.mem_cons_of_mem _ hz)) hJ
   exact⟨i+1,j,x,by simpa using h1,h2,by rw[Nat.succ_mul];omega⟩
theorem cells_new(w:World)(cs:List Value)(e:TypeId):∀ (j:Nat) (u:Value),cs[j]?=some u→(w.alloc (.cells cs.toArray e)).cell? ((⟨w.heap.size,0,none⟩:Addr).add j)=some u:=fun j u hu=>by
 rw[Go.WideShapes.add_plain,Nat.zero_add,cell_at (new_at w _ _),List.getElem?_toArray]
 exact hu
section
variable (κ:Kd)
def Oks(l:List (List Value)):Prop:=∀ x∈l,κ.ok x
variable {κ}
theorem Oks.lens{l:List (List Value)}(h:Oks κ l):∀ x∈l,x.length=κ.n:=fun x hx=>κ.len x (h x hx)
theorem Oks.flat{l:List (List Value)}(h:Oks κ l):l.flatten.length=l.length*κ.n:=flat_len h.lens
theorem Oks.one{l:List (List Value)}(h:Oks κ l):∀ u∈l.flatten,u.oneCell'=true:=fun u hu=>by
 obtain⟨x,hx,hu⟩:=List.mem_flatten.1 hu
 exact κ.one x (h x hx) u hu
theorem Oks.nil:Oks κ []:=fun x hx=>by cases hx
variable (κ)
def ElemsIn(w:World)(v:Value)(l:List (List Value)):Prop:=
 ∃ a c,v=.slice a l.length c∧(a=none→c=0)∧l.length≤9223372036854775807∧Oks κ l∧(0 < l.length→∃ b off,a=some ⟨b,off,none⟩∧b < w.heap.size∧∀ (i:Nat) (x:List Value),l[i]?=some x→∀ (j:Nat) (u:Value),x[j]?=some u→w.cell? ⟨b,off+(i*κ.n+j),none⟩=some u)
variable {κ}
theorem ElemsIn.nil(w:World):ElemsIn κ w (.slice none 0 0) []:=⟨none,0,rfl,fun _=>rfl,by simp,Oks.nil,fun h=>absurd h (Nat.lt_irrefl _)⟩
theorem ElemsIn.below{w w':World}{v:Value}{l:List (List Value)}(h:ElemsIn κ w v l)(hb:Below w.heap.size w w'):ElemsIn κ w' v l:=by
 obtain⟨a,c,h1,hn,hl,hz,h2⟩:=h
 refine⟨a,c,h1,hn,hl,hz,fun h0=>?_⟩
 obtain⟨b,off,h3,h4,h5⟩:=h2 h0
 exact⟨b,off,h3,Nat.lt_of_lt_of_le h4 hb.size,fun i x hi j u hj=>by rw[hb.cell (p:=⟨b,off+(i*κ.n+j),none⟩) h4];exact h5 i x hi j u hj⟩
theorem ElemsIn.flat{w:World}{a:Option Addr}{c:Nat}{l:List (List Value)}(h:ElemsIn κ w (.slice a l.length c) l){A:Addr}(ha:a=some A){J:Nat}{u:Value}(hu:l.flatten[J]?=some u):w.cell? (A.add J)=some u:=by
 obtain⟨a',c',e,_,_,hk,hc⟩:=h
 simp only[Value.slice.injEq,true_and] at e
 obtain⟨rfl,_⟩:=e
 obtain⟨i,j,x,h1,h2,rfl⟩:=flat_split hk.lens hu
 obtain⟨b,off,e,_,hcc⟩:=hc (by have:=(List.getElem?_eq_some_iff.1 h1).1;omega)
 rw[ha] at e
 obtain rfl:A=⟨b,off,none⟩:=by simpa using e
 rw[Go.WideShapes.add_plain]
 exact hcc i x h1 j u h2
variable (κ)
def tRow(v:Value)(l:List (List Value)):Row:=⟨v,κ.e,κ.n,l.length,l.flatten⟩
variable {κ}
theorem tRow_elems{w:World}{lo:Nat}{v:Value}{l:List (List Value)}(h:(tRow κ v l).At w lo)(hl:l.length≤9223372036854775807)(hk:Oks κ l):ElemsIn κ w v l:=by
 rcases h.slice with ⟨e,h1,_⟩|⟨g,cap,e,hb,_⟩
 ·have e1:v=.slice none 0 0:=e
  have h2:l.length=0:=h1
  obtain rfl:=List.eq_nil_of_length_eq_zero h2
  rw[e1]
  exact ElemsIn.nil w
 ·have e1:v=.slice (some ⟨g,0,none⟩) l.length cap:=e
  refine⟨_,cap,e1,(fun q=>by cases q),hl,hk,fun _=>⟨g,0,rfl,(h.lt g hb).2,fun i x hi j u hj=>?_⟩⟩
  rw[Nat.zero_add]
  exact h.cell hb (flat_at hk.lens hi hj)
variable (κ)
variable {κ}
variable (κ)
variable {κ}
variable (κ)
variable {κ}
end
end Go.Proofs.YtjepgclnbbpnaaaGreat.PK
namespace Go.Proofs.YtjepgclnbbpnaaaGreat.P11
open Go Go.RowKit Go.Lib PK
def kPages:Kd where
 e:=86
 n:=4
 te:=41
 p:=0
 ok:=fun y=>∃ (k i t:Int) (s:ByteArray),y=[.int .i64 k,.int .i64 i,.int .i64 t,.string s]
 mark:=fun _ _=>[.int .i64 0,.int .i64 0,.int .i64 0,.string ⟨#[]⟩]
 len:=by rintro _ ⟨k,i,t,s,rfl⟩;rfl
 one:=by
  rintro _ ⟨k,i,t,s,rfl⟩ u hu
  simp only[List.mem_cons,List.not_mem_nil,or_false] at hu
  rcases hu with rfl|rfl|rfl|rfl <;> rfl
 mok:=fun _ _=>⟨_,_,_,_,rfl⟩
 pos:=by decide
theorem infoEPages:(Tryz.prog.info? 86).map (fun i=>(i.zero,i.size,i.bytes))=some (some (Value.agg #[.int .i64 0,.int .i64 0,.int .i64 0,.string ⟨#[]⟩]),4,40):=by kernel_rfl
structure Pg where
 k:Int
 id:Int
 tx:Int
 body:ByteArray
def Pg.v(p:Pg):Value:=.agg #[.int .i64 p.k,.int .i64 p.id,.int .i64 p.tx,.string p.body]
def Pg.zero:Pg:=⟨0,0,0,⟨#[]⟩⟩
def Pg.cells(x:Pg):List Value:=[.int .i64 x.k,.int .i64 x.id,.int .i64 x.tx,.string x.body]
def Pg.ok(p:Pg):Prop:=1≤p.k∧p.k≤5∧0≤p.id∧p.id < 4000∧0≤p.tx∧p.tx≤1099511627776∧p.body.size≤232
instance (p:Pg):Decidable p.ok:=by unfold Pg.ok;infer_instance
def cellsP(l:List Pg):List (List Value):=l.map Pg.cells
theorem Pg.okc(x:Pg):kPages.ok x.cells:=⟨_,_,_,_,rfl⟩
theorem cellsP_length(l:List Pg):(cellsP l).length=l.length:=by simp[cellsP]
theorem cellsP_ok(l:List Pg):Oks kPages (cellsP l):=fun x hx=>by
 obtain⟨y,_,rfl⟩:=List.mem_map.1 hx
 exact y.okc
theorem cellsP_at{l:List Pg}{i:Nat}{x:Pg}(h:l[i]?=some x):(cellsP l)[i]?=some x.cells:=by simp[cellsP,h]
theorem cellsP_snoc(l:List Pg)(c:Pg):(cellsP (l++[c])).flatten=(cellsP l).flatten++[.int .i64 c.k,.int .i64 c.id,.int .i64 c.tx,.string c.body]:=by
 simp[cellsP,Pg.cells]
def PgsIn(w:World)(v:Value)(l:List Pg):Prop:=ElemsIn kPages w v (cellsP l)
theorem PgsIn.slice{w:World}{v:Value}{l:List Pg}(h:PgsIn w v l):∃ a c,v=.slice a l.length c:=by
 obtain⟨a,c,h,_⟩:=h
 exact⟨a,c,by rw[cellsP_length] at h;exact h⟩
theorem PgsIn.at_{w:World}{a:Option Addr}{n c:Nat}{l:List Pg}(h:PgsIn w (.slice a n c) l){i:Nat}{x:Pg}(hi:l[i]?=some x) :
  ∃ b off,a=some ⟨b,off,none⟩∧∀ w',Below w.heap.size w w'→w'.cell? ⟨b,off+i*4,none⟩=some (.int .i64 x.k)∧w'.cell? ⟨b,off+i*4+1,none⟩=some (.int .i64 x.id)∧w'.cell? ⟨b,off+i*4+2,none⟩=some (.int .i64 x.tx)∧w'.cell? ⟨b,off+i*4+3,none⟩=some (.string x.body):=by
 obtain⟨a',c',e,_,_,_,hc⟩:=h
 simp only[Value.slice.injEq] at e
 obtain⟨rfl,_,_⟩:=e
 obtain⟨b,off,rfl,hb,hcc⟩:=hc (by rw[cellsP_length];have:=(List.getElem?_eq_some_iff.1 hi).1;omega)
 refine⟨b,off,rfl,fun w' hw=>?_⟩
 have k:∀ (j:Nat) (u:Value),x.cells[j]?=some u→w'.cell? ⟨b,off+(i*4+j),none⟩=some u:=fun j u hu=>(hw.cell (p:=⟨b,off+(i*4+j),none⟩) hb).trans (hcc i _ (cellsP_at hi) j u hu)
 have k1:=k 1 _ rfl
 have k2:=k 2 _ rfl
 have k3:=k 3 _ rfl
 rw[show off+(i*4+1)=off+i*4+1 by omega] at k1
 rw[show off+(i*4+2)=off+i*4+2 by omega] at k2
 rw[show off+(i*4+3)=off+i*4+3 by omega] at k3
 exact⟨k 0 _ rfl,k1,k2,k3⟩
theorem owns_pgs{w:World}{lo:Nat}{v:Value}{l:List Pg}(h:w.ownsRow lo 86 4 v l.length (cellsP l).flatten)(hl:l.length≤1000000):PgsIn w v l:=by
 refine tRow_elems (κ:=kPages) (lo:=lo) ?_ (by rw[cellsP_length];omega) (cellsP_ok l)
 show w.ownsRow lo 86 4 v (cellsP l).length (cellsP l).flatten
 rw[cellsP_length]
 exact h
def OwnP(lo:Nat)(w:World)(v:Value)(l:List Pg):Prop:=w.ownsRow lo 86 4 v l.length (cellsP l).flatten∧l.length≤1000000
theorem OwnP.pgs{lo:Nat}{w:World}{v:Value}{l:List Pg}(h:OwnP lo w v l):PgsIn w v l:=owns_pgs h.1 h.2
theorem OwnP.nil(lo:Nat)(w:World):OwnP lo w (.slice none 0 0) []:=⟨World.ownsRow_nil _ _ _ _,Nat.zero_le _⟩
end Go.Proofs.YtjepgclnbbpnaaaGreat.P11
namespace Go.Proofs.YtjepgclnbbpnaaaGreat.P3
open Go Go.RowKit Go.Lib
theorem lt_of_block{w:World}{b:Nat}{o:Obj}(h:w.heap[b]?=some o):b < w.heap.size:=(Array.getElem?_eq_some_iff.1 h).1
theorem set_at{w:World}{b:Nat}{c:Array Value}{t:TypeId}(h:w.heap[b]?=some (.cells c t (0,0)))(j:Nat)(u:Value):(w.setCell ⟨b,j,none⟩ u).heap[b]?=some (.cells (c.setIfInBounds j u) t (0,0)):=by
 simp only[World.setCell,Array.getElem?_modify];rw[h];rfl
theorem old_alloc{w:World}{b:Nat}{x:Obj}(h:w.heap[b]?=some x)(o:Obj):(w.alloc o).heap[b]?=some x:=by
 rw[Below.heap_alloc _ _ _ (lt_of_block h)];exact h
theorem old_set{w:World}{b:Nat}{x:Obj}(h:w.heap[b]?=some x)(a:Addr)(ha:b≠a.block)(u:Value):(w.setCell a u).heap[b]?=some x:=by
 rw[Below.heap_setCell _ _ _ _ ha];exact h
theorem old_below{w w':World}{b:Nat}{x:Obj}(h:w.heap[b]?=some x)(hb:Below w.heap.size w w'):w'.heap[b]?=some x:=by
 rw[hb.block b (lt_of_block h)];exact h
theorem below_drewN(w:World)(n:Nat):Below w.heap.size w (w.drewN n):=by
 induction n generalizing w with
 | zero=>exact Below.refl _ _
 | succ n ih=>first|exact (ih w).drew|exact ((Below.refl _ w).drew).trans (ih w.drew)
structure Fr (S:Nat→Prop) (w w':World):Prop where
 os:w'.os=w.os
 tape:w'.tape=w.tape
 output:w'.output=w.output
 size:w.heap.size≤w'.heap.size
 block:∀ k,k < w.heap.size→¬ S k→w'.heap[k]?=w.heap[k]?
theorem Fr.refl(S:Nat→Prop)(w:World):Fr S w w:=⟨rfl,rfl,rfl,Nat.le_refl _,fun _ _ _=>rfl⟩
theorem Fr.trans{S:Nat→Prop}{a w w':World}(h:Fr S a w)(k:Fr S w w'):Fr S a w':=
 ⟨k.os.trans h.os,k.tape.trans h.tape,k.output.trans h.output,Nat.le_trans h.size k.size,fun i hi hb=>(k.block i (Nat.lt_of_lt_of_le hi h.size) hb).trans (h.block i hi hb)⟩
theorem Fr.mono{S T:Nat→Prop}{w w':World}(h:Fr S w w')(hs:∀ k,k < w.heap.size→S k→T k):Fr T w w':=
 ⟨h.os,h.tape,h.output,h.size,fun k hk hn=>h.block k hk (fun hs'=>hn (hs k hk hs'))⟩
theorem Fr.of{S:Nat→Prop}{w w':World}(h:Below w.heap.size w w'):Fr S w w':=⟨h.os,h.tape,h.output,h.size,fun k hk _=>h.block k hk⟩
theorem Fr.keep{S:Nat→Prop}{k:Nat}{w w':World}{x:Obj}(h:Fr S w w')(hx:w.heap[k]?=some x)(hk:¬ S k):w'.heap[k]?=some x:=by
 rw[h.block k (lt_of_block hx) hk];exact hx
theorem Fr.new{S:Nat→Prop}{a w w':World}(h:Below a.heap.size a w)(k:Fr S w w')(hb:∀ i,S i→a.heap.size≤i):Below a.heap.size a w':=
 h.trans ⟨k.os,k.tape,k.output,k.size,fun i hi=>k.block i (Nat.lt_of_lt_of_le hi h.size) (fun hs=>by have:=hb i hs;omega)⟩
end Go.Proofs.YtjepgclnbbpnaaaGreat.P3
namespace Go.Proofs.YtjepgclnbbpnaaaGreat.P12
open PK (qqA qqB qqC qqD qqE qqF tk tkS dOne qh)
open Go Go.RowKit Go.Lib PK
open P11 (Pg kPages infoEPages cellsP cellsP_length cellsP_ok cellsP_at cellsP_snoc PgsIn owns_pgs)
structure PM where
 L:List Pg
 fr:Int
 given:List Int
 bad:Bool
 twice:Bool
def cellsZ(l:List Int):List Value:=l.map fun x=>.int .i64 x
structure PAt (w:World) (b:Nat) (vl vg:Value) (M:PM):Prop where
 obj:w.heap[b]?=some (.cells #[vl,.int .i64 M.fr,vg,.bool M.bad,.bool M.twice,.int .i64 (-1)] 44 (0,0))
 rl:w.ownsRow (b+1) 86 4 vl M.L.length (cellsP M.L).flatten
 rg:w.ownsRow (b+1) 3 1 vg M.given.length (cellsZ M.given)
 ne:∀ k,vl.ownBlock=some k→vg.ownBlock=some k→False
def PS(b:Nat)(vl vg:Value)(k:Nat):Prop:=k=b∨vl.ownBlock=some k∨vg.ownBlock=some k
theorem PAt.lt{w:World}{b:Nat}{vl vg:Value}{M:PM}(h:PAt w b vl vg M):b < w.heap.size:=lt_of_block h.obj
theorem PAt.below{w w':World}{b:Nat}{vl vg:Value}{M:PM}(h:PAt w b vl vg M)(k:Below w.heap.size w w'):PAt w' b vl vg M:=
 ⟨by rw[k.block b h.lt];exact h.obj,owns_below h.rl k,owns_below h.rg k,h.ne⟩
theorem PAt.slice{w:World}{b:Nat}{vl vg:Value}{M:PM}(h:PAt w b vl vg M):∃ a c,vl=.slice a M.L.length c:=by
 rcases h.rl.2 with ⟨rfl,e⟩|⟨g,cap,cur,rfl,_⟩
 ·exact⟨none,0,by rw[e]⟩
 ·exact⟨_,_,rfl⟩
theorem PAt.gslice{w:World}{b:Nat}{vl vg:Value}{M:PM}(h:PAt w b vl vg M):∃ a c,vg=.slice a M.given.length c:=by
 rcases h.rg.2 with ⟨rfl,e⟩|⟨g,cap,cur,rfl,_⟩
 ·exact⟨none,0,by rw[e]⟩
 ·exact⟨_,_,rfl⟩
def PM.get(M:PM)(id:Int):Pg×Int:=if 2≤id∧id - 2 < M.L.length then (M.L[(id - 2).toNat]?.getD Pg.zero,0) else (Pg.zero,8)
def PM.mine(M:PM)(id:Int):Bool:=decide (M.fr≤id) && decide (id - 2 < M.L.length)
theorem PM.get_at{M:PM}{k:Nat}{p:Pg}(h:M.L[k]?=some p):M.get ((k:Int)+2)=(p,0):=by
 have hk:=(List.getElem?_eq_some_iff.1 h).1
 unfold PM.get
 rw[if_pos ⟨by omega,by omega⟩,show ((k:Int)+2 - 2).toNat=k by omega,h]
 rfl
theorem page_result{fn:Func}{q u:Tmp}(h:fn.results=#[.cell q 86,.tmp u])(tmps:Array Value)(w:World)(a:Nat)(cs:Array Value)(hq:tmps.getD q undef=.pointer (some ⟨a,0,none⟩))(hc:w.heap[a]?=some (.cells cs 86 (0,0)))(hs:cs.size=4) :
  (results fn tmps).run Tryz.prog w=.ok (.tuple #[.agg cs,tmps.getD u undef]) w:=by
 have hi:(Tryz.prog.info? 86).map (·.size)=some cs.size:=by rw[hs];kernel_rfl
 rw[results_cell_tmp h,hq]
 have e1:(asAddr (.pointer (some ⟨a,0,none⟩))).run Tryz.prog w=.ok ⟨a,0,none⟩ w:=rfl
 rw[e1,Result.andThen_ok,run_loadVar_row (P:=Tryz.prog) w a 86 86 cs (0,0) _ hc Tryz.underlying86 rfl hi]
 rfl
theorem PAt.cells{w:World}{b:Nat}{vl vg:Value}{M:PM}(h:PAt w b vl vg M):w.cell? ⟨b,0,none⟩=some vl∧w.cell? ⟨b,1,none⟩=some (.int .i64 M.fr)∧w.cell? ⟨b,2,none⟩=some vg∧w.cell? ⟨b,3,none⟩=some (.bool M.bad)∧w.cell? ⟨b,4,none⟩=some (.bool M.twice)∧w.cell? ⟨b,5,none⟩=some (.int .i64 (-1)):=
 ⟨cell_at h.obj 0,cell_at h.obj 1,cell_at h.obj 2,cell_at h.obj 3,cell_at h.obj 4,cell_at h.obj 5⟩
theorem PAt.pgs{w:World}{b:Nat}{vl vg:Value}{M:PM}(h:PAt w b vl vg M)(hl:M.L.length≤1000000):PgsIn w vl M.L:=owns_pgs h.rl hl
theorem fresh_any(w:World):Calls Tryz.prog 10 #[] w fun e w'=>e=.returned (.pointer (some ⟨w.heap.size,0,none⟩))∧PAt w' w.heap.size (.slice none 0 0) (.slice none 0 0) ⟨[],2,[],false,false⟩∧Below w.heap.size w w':=by
 have HP:Hid (PAt (w.alloc (.cells #[.slice none 0 0,.int .i64 2,.slice none 0 0,.bool false,.bool false,.int .i64 (-1)] 44)) w.heap.size (.slice none 0 0) (.slice none 0 0) ⟨[],2,[],false,false⟩):=
  ⟨new_at w _ _,World.ownsRow_nil _ _ _ _,World.ownsRow_nil _ _ _ _,fun k e _=>by cases e⟩
 go_enter Tryz.func10,Tryz.ntmps10
 go_wp2
 go_ret
 exact⟨rfl,HP.out,below_new _ _⟩
theorem mine_any(w:World)(b:Nat)(vl vg:Value)(M:PM)(id:Int)(h:PAt w b vl vg M)(hl:M.L.length≤1000000)(hf:2≤M.fr)(hid:id≤1000000) :
  Calls Tryz.prog 23 #[.pointer (some ⟨b,0,none⟩),.int .i64 id] w fun e w'=>e=.returned (.bool (M.mine id))∧Below w.heap.size w w':=by
 obtain⟨c0,c1,c2,c3,c4,c5⟩:=h.cells
 obtain⟨a,c,rfl⟩:=h.slice
 unfold PM.mine
 generalize M.L.length=N at *
 generalize M.fr=F at *
 clear h c2 c3 c4 c5
 by_cases h1:F≤id
 ·have k1:decide (F≤id)=true:=decide_eq_true h1
  have k2:decide ((2:Int)≤id)=true:=decide_eq_true (by omega)
  have hw:IntKind.i64.wrap (id - 2)=id - 2:=by rw[IntKind.wrap_i64];omega
  obtain⟨d3,h3⟩:∃ d,decide (id - 2 < (N:Int))=d:=⟨_,rfl⟩
  rw[k1,h3]
  clear h1
  cases d3
  all_goals
   go_enter Tryz.func23,Tryz.ntmps23
   go_wp2
   go_ret
   exact⟨rfl,Below.refl _ _⟩
 ·have k1:decide (F≤id)=false:=decide_eq_false h1
  rw[k1]
  clear h1
  go_enter Tryz.func23,Tryz.ntmps23
  go_wp2
  go_ret
  exact⟨rfl,Below.refl _ _⟩
theorem get_any(w:World)(b:Nat)(vl vg:Value)(M:PM)(id:Int)(h:PAt w b vl vg M)(hl:M.L.length≤1000000)(hid:id≤1000000) :
  Calls Tryz.prog 180 #[.pointer (some ⟨b,0,none⟩),.int .i64 id] w fun e w'=>e=.returned (.tuple #[(M.get id).1.v,.int .i64 (M.get id).2])∧Below w.heap.size w w':=by
 obtain⟨w1,hw1⟩:∃ w1,w1=w.alloc (.cells #[.int .i64 0,.int .i64 0,.int .i64 0,.string ⟨#[]⟩] 86):=⟨_,rfl⟩
 have hb:Below w.heap.size w w1:=by rw[hw1];exact below_new _ _
 obtain⟨c0,c1,c2,c3,c4,c5⟩:=(h.below hb).cells
 have hP:=(h.below hb).pgs hl
 have HB:=qh hb
 have hz:(w1.heap[w.heap.size]?)=some (.cells #[.int .i64 0,.int .i64 0,.int .i64 0,.string ⟨#[]⟩] 86 (0,0)):=by rw[hw1];exact new_at w _ _
 have f0:=cell_at hz 0
 have f1:=cell_at hz 1
 have f2:=cell_at hz 2
 have f3:=cell_at hz 3
 simp only[qqD,qqE,qqF] at f0 f1 f2 f3
 have g0:=free_at hz 0
 have g1:=free_at hz 1
 have g2:=free_at hz 2
 have g3:=free_at hz 3
 have HST:Hid (∀ a b c d:Value,((((w1.setCell ⟨w.heap.size,0,none⟩ a).setCell ⟨w.heap.size,1,none⟩ b).setCell ⟨w.heap.size,2,none⟩ c).setCell ⟨w.heap.size,3,none⟩ d).heap[w.heap.size]?=some (.cells #[a,b,c,d] 86 (0,0))∧Below w.heap.size w ((((w1.setCell ⟨w.heap.size,0,none⟩ a).setCell ⟨w.heap.size,1,none⟩ b).setCell ⟨w.heap.size,2,none⟩ c).setCell ⟨w.heap.size,3,none⟩ d)):=fun a b c d=>
  ⟨set_at (set_at (set_at (set_at hz 0 a) 1 b) 2 c) 3 d,(((hb.setCell (Nat.le_refl _) a).setCell (Nat.le_refl _) b).setCell (Nat.le_refl _) c).setCell (Nat.le_refl _) d⟩
 obtain⟨a,c,rfl⟩:=h.slice
 by_cases h1:2≤id
 ·have k1:decide (id < 2)=false:=decide_eq_false (by omega)
  have hw:IntKind.i64.wrap (id - 2)=id - 2:=by rw[IntKind.wrap_i64];omega
  by_cases h2:id - 2 < M.L.length
  ·obtain⟨k,hk⟩:=Int.eq_ofNat_of_zero_le (show 0≤id - 2 by omega)
   obtain⟨p,hp⟩:∃ p,M.L[k]?=some p:=⟨_,List.getElem?_eq_getElem (by omega)⟩
   have HE:Hid (M.get id=(p,0)):=by
    have:=M.get_at hp
    rwa[show (k:Int)+2=id by omega] at this
   obtain⟨b2,off,rfl,hc⟩:=hP.at_ hp
   obtain⟨d0,d1,d2,d3⟩:=hc _ (Below.refl _ _)
   have k2:decide ((M.L.length:Int)≤id - 2)=false:=decide_eq_false (by omega)
   have k3:id - 2 < (M.L.length:Int):=h2
   have k4:(0:Int)≤id - 2:=by omega
   have k5:(id - 2).toNat=k:=by omega
   generalize M.L.length=N at *
   clear hP hp hc hk h hb hz h1 h2 c1 c2 c3 c4
   go_enter Tryz.func180,Tryz.ntmps180
   go_upto_region 1 with fail
   rw[← hw1]
   clear hw1
   go_wp2
   exact bodyPost_ret (page_result rfl _ _ w.heap.size _ rfl (HST.out _ _ _ _).1 rfl) rfl ⟨by rw[HE.out];rfl,(HST.out _ _ _ _).2⟩
  ·have HE:Hid (M.get id=(Pg.zero,8)):=if_neg (fun q=>h2 q.2)
   have k2:decide ((M.L.length:Int)≤id - 2)=true:=decide_eq_true (by omega)
   generalize M.L.length=N at *
   clear hP h hb hz h1 h2 c1 c2 c3 c4
   go_enter Tryz.func180,Tryz.ntmps180
   go_upto_region 1 with fail
   rw[← hw1]
   clear hw1
   go_wp2
   exact bodyPost_ret (page_result rfl _ _ w.heap.size _ rfl (HST.out _ _ _ _).1 rfl) rfl ⟨by rw[HE.out];rfl,(HST.out _ _ _ _).2⟩
 ·have HE:Hid (M.get id=(Pg.zero,8)):=if_neg (fun q=>h1 q.1)
  have k1:decide (id < 2)=true:=decide_eq_true (by omega)
  generalize M.L.length=N at *
  clear hP h hb hz h1 c1 c2 c3 c4
  go_enter Tryz.func180,Tryz.ntmps180
  go_upto_region 1 with fail
  rw[← hw1]
  clear hw1
  go_wp2
  exact bodyPost_ret (page_result rfl _ _ w.heap.size _ rfl (HST.out _ _ _ _).1 rfl) rfl ⟨by rw[HE.out];rfl,(HST.out _ _ _ _).2⟩
end Go.Proofs.YtjepgclnbbpnaaaGreat.P12
namespace Go.Proofs.YtjepgclnbbpnaaaGreat.PK
open Go Go.RowKit Go.Lib
def setL:List Value→Nat→List Value→List Value
 | xs,_,[]=>xs
 | xs,o,v::r=>setL (xs.set o v) (o+1) r
theorem setL_eq:∀ (vs xs:List Value) (o:Nat),o+vs.length≤xs.length→setL xs o vs=xs.take o++vs++xs.drop (o+vs.length)
 | [],xs,o,_=>by simp[setL]
 | v :: r,xs,o,h=>by
  have h0:o < xs.length:=by simp at h;omega
  rw[setL,setL_eq r (xs.set o v) (o+1) (by rw[List.length_set];simp at h;omega)]
  have e1:(xs.set o v).take (o+1)=xs.take o++[v]:=by
   apply List.ext_getElem?
   intro j
   by_cases hj:j < o
   ·rw[List.getElem?_take_of_lt (by omega),List.getElem?_set_ne (by omega),List.getElem?_append_left (by rw[List.length_take];omega),List.getElem?_take_of_lt hj]
   ·by_cases hj2:j=o
    ·subst hj2
     rw[List.getElem?_take_of_lt (by omega),List.getElem?_set_self h0,List.getElem?_append_right (by rw[List.length_take];omega),List.length_take,show j - min j xs.length=0 by omega]
     rfl
    ·rw[List.getElem?_eq_none (by rw[List.length_take,List.length_set];omega),List.getElem?_eq_none (by rw[List.length_append,List.length_take];simp;omega)]
  have e2:(xs.set o v).drop (o+1+r.length)=xs.drop (o+(v::r).length):=by
   rw[List.drop_set_of_lt (by omega)]
   congr 1
   simp
   omega
  rw[e1,e2]
  simp
theorem flat_put{n:Nat}:∀ {l:List (List Value)},(∀ x∈l,x.length=n)→∀ {i:Nat} {y:List Value},i < l.length→y.length=n→(l.set i y).flatten=setL l.flatten (i*n) y
 | [],_,i,y,hi,_=>by simp at hi
 | x::l,h,0,y,hi,hy=>by
  have hx:=h x List.mem_cons_self
  rw[List.set_cons_zero,setL_eq _ _ _ (by rw[List.flatten_cons,List.length_append];omega),List.flatten_cons,List.flatten_cons,Nat.zero_mul,List.take_zero,List.nil_append,Nat.zero_add,hy,← hx,List.drop_left]
 | x::l,h,i+1,y,hi,hy=>by
  have hx:=h x List.mem_cons_self
  have hl:=fun z hz=>h z (List.mem_cons_of_mem x hz)
  have hi':i < l.length:=by simpa using hi
  have hfl:l.flatten.length=l.length*n:=flat_len hl
  have hle:i*n+n≤l.length*n:=by rw[← Nat.succ_mul];exact Nat.mul_le_mul_right _ hi'
  rw[List.set_cons_succ,List.flatten_cons,flat_put hl hi' hy,setL_eq _ _ _ (by omega),setL_eq _ _ _ (by rw[List.flatten_cons,List.length_append,Nat.succ_mul];omega),List.flatten_cons]
  rw[List.take_append,List.drop_append,hx,show (i+1)*n - n=i*n by rw[Nat.succ_mul];omega,show x.take ((i+1)*n)=x from List.take_of_length_le (by rw[hx,Nat.succ_mul];omega),show x.drop ((i+1)*n+y.length)=[] from List.drop_of_length_le (by rw[hx,Nat.succ_mul];omega),show (i+1)*n+y.length - n=i*n+y.length by rw[Nat.succ_mul];omega]
  simp
section
variable (κ:Kd)
variable {κ}
variable {w0 w w':World} {R:List Row} {b:Nat} {bs:List Value} {tv cv:Value} {us cs:List Value} {ls ms:List (List (List Value))}
end
section
variable (κ:Kd)
variable {κ}
variable {w0 w w':World} {i:Nat} {u:Value} {n0:Nat} {Rest:List Row} {cur:Value} {m:Nat}
variable (κ)
variable {κ}
variable {ov ov' tv:Value} {gs us:List Value} {X D:List Row} {ns:List Nat} {n:Nat}
variable (κ)
variable {κ}
end
end Go.Proofs.YtjepgclnbbpnaaaGreat.PK
