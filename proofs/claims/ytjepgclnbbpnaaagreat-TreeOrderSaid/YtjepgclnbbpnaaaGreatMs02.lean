/-
  Texts of the proofs of SaidOrd12.
-/
import Derived.Test.YtjepgclnbbpnaaaGreatMs01
import Derived.Laws.Cover1
import Derived.Lib.Bytealg
set_option linter.unusedVariables false
set_option linter.unusedSimpArgs false
set_option maxRecDepth 100000
namespace Go.Proofs.YtjepgclnbbpnaaaGreat.PK
open Go Go.RowKit Go.Lib
def kItems:Kd where
 e:=29
 n:=3
 te:=27
 p:=4
 ok:=fun y=>∃ (s:ByteArray) (t:ByteArray) (x:Int),y=[.string s,.string t,.int .i64 x]
 mark:=fun i k=>[.string ⟨#[]⟩,.string ⟨#[]⟩,.int .i64 (-1000*(i:Int) - (k:Int) - 1)]
 len:=by rintro _ ⟨s,t,x,rfl⟩;rfl
 one:=by
  rintro _ ⟨s,t,x,rfl⟩ u hu
  simp only[List.mem_cons,List.not_mem_nil,or_false] at hu
  rcases hu with rfl|rfl|rfl <;> rfl
 mok:=fun i k=>⟨_,_,_,rfl⟩
 pos:=by decide
theorem infoEItems:(Tryz.prog.info? 29).map (fun i=>(i.zero,i.size,i.bytes))=some (some (Value.agg #[.string ⟨#[]⟩,.string ⟨#[]⟩,.int .i64 0]),3,40):=by kernel_rfl
theorem sameItems_same(w:World)(u v:Value)(l:List (List Value))(h1:ElemsIn kItems w u l)(h2:ElemsIn kItems w v l) :
  Calls Tryz.prog 21 #[u,v] w fun e w'=>e=.returned (.bool true)∧Below w.heap.size w w':=by
 obtain⟨a,c,rfl,_,hl,hok,hc⟩:=h1
 obtain⟨a2,c2,rfl,_,_,_,hc2⟩:=h2
 go_enter Tryz.func21,Tryz.ntmps21
 go_wp2
 go_loopw [5] (fun i wr=>∃ k q:Nat,k≤l.length∧i=.int .i64 k∧wr=w.drewN q) (fun i _=>l.length - (RowKit.intOf i).toNat)
 case atStart=>exact⟨0,0,Nat.zero_le _,rfl,rfl⟩
 case round=>
  obtain⟨k,q,hk,rfl,rfl⟩:=hrel
  by_cases hlt:k < l.length
  ·obtain⟨b,off,rfl,hb,hcc⟩:=hc (by omega)
   obtain⟨b2,off2,rfl,hb2,hcc2⟩:=hc2 (by omega)
   obtain⟨y,hy⟩:∃ y,l[k]?=some y:=⟨_,List.getElem?_eq_getElem hlt⟩
   obtain⟨s,t,x,rfl⟩:=hok y (List.mem_of_getElem? hy)
   have c0:w.cell? ⟨b,off+k*3,none⟩=some (.string s):=by
    have h9:=hcc k _ hy 0 _ rfl
    rwa[show off+(k*kItems.n+0)=off+k*3 by show off+(k*3+0)=off+k*3;omega] at h9
   have d0:w.cell? ⟨b2,off2+k*3,none⟩=some (.string s):=by
    have h9:=hcc2 k _ hy 0 _ rfl
    rwa[show off2+(k*kItems.n+0)=off2+k*3 by show off2+(k*3+0)=off2+k*3;omega] at h9
   have c1:w.cell? ⟨b,off+k*3+1,none⟩=some (.string t):=by
    have h9:=hcc k _ hy 1 _ rfl
    rwa[show off+(k*kItems.n+1)=off+k*3+1 by show off+(k*3+1)=off+k*3+1;omega] at h9
   have d1:w.cell? ⟨b2,off2+k*3+1,none⟩=some (.string t):=by
    have h9:=hcc2 k _ hy 1 _ rfl
    rwa[show off2+(k*kItems.n+1)=off2+k*3+1 by show off2+(k*3+1)=off2+k*3+1;omega] at h9
   have c2:w.cell? ⟨b,off+k*3+2,none⟩=some (.int .i64 x):=by
    have h9:=hcc k _ hy 2 _ rfl
    rwa[show off+(k*kItems.n+2)=off+k*3+2 by show off+(k*3+2)=off+k*3+2;omega] at h9
   have d2:w.cell? ⟨b2,off2+k*3+2,none⟩=some (.int .i64 x):=by
    have h9:=hcc2 k _ hy 2 _ rfl
    rwa[show off2+(k*kItems.n+2)=off2+k*3+2 by show off2+(k*3+2)=off2+k*3+2;omega] at h9
   have kk:(k:Int) < (l.length:Int):=by omega
   have kk0:(0:Int)≤(k:Int):=by omega
   have e0:(s.toList == s.toList)=true:=beq_self_eq_true _
   have e1:(t.toList == t.toList)=true:=beq_self_eq_true _
   have e2:(x == x)=true:=beq_self_eq_true _
   clear hcc hcc2 hc hc2 hy hok
   go_wp2
   go_quiet (fail)
   go_wp2
   go_roundw
   case rel=>exact⟨k+1,_,by omega,by go_num,rfl⟩
   case measure=>simp[RowKit.intOf];omega
  ·clear hc hc2 hok
   go_wp2
   go_ret
   exact⟨rfl,⟨rfl,rfl,rfl,Nat.le_refl _,fun _ _=>rfl⟩⟩
end Go.Proofs.YtjepgclnbbpnaaaGreat.PK
namespace Go.Proofs.YtjepgclnbbpnaaaGreat.P9
open Go Go.RowKit Go.Lib PK
structure It where
 key:ByteArray
 val:ByteArray
 kind:Int
def It.cells(x:It):List Value:=[.string x.key,.string x.val,.int .i64 x.kind]
def It.v(x:It):Value:=.agg #[.string x.key,.string x.val,.int .i64 x.kind]
def It.need(x:It):Nat:=5+x.key.size+x.val.size
def It.ok(x:It):Bool:=decide (1≤x.key.size∧x.key.size≤32∧0≤x.kind∧x.kind≤2∧x.val.size≤96)
def sumI(l:List It):Nat:=(l.map It.need).sum
def cellsI(l:List It):List (List Value):=l.map It.cells
theorem It.okc(x:It):kItems.ok x.cells:=⟨_,_,_,rfl⟩
theorem cellsI_length(l:List It):(cellsI l).length=l.length:=by simp[cellsI]
theorem cellsI_ok(l:List It):Oks kItems (cellsI l):=fun x hx=>by
 obtain⟨y,_,rfl⟩:=List.mem_map.1 hx
 exact y.okc
theorem cellsI_at{l:List It}{i:Nat}{x:It}(h:l[i]?=some x):(cellsI l)[i]?=some x.cells:=by simp[cellsI,h]
def ItsIn(w:World)(v:Value)(l:List It):Prop:=ElemsIn kItems w v (cellsI l)
theorem ItsIn.below{w w':World}{v:Value}{l:List It}(h:ItsIn w v l)(hb:Below w.heap.size w w'):ItsIn w' v l:=ElemsIn.below h hb
theorem ItsIn.slice{w:World}{v:Value}{l:List It}(h:ItsIn w v l):∃ a c,v=.slice a l.length c:=by
 obtain⟨a,c,h,_⟩:=h
 exact⟨a,c,by rw[cellsI_length] at h;exact h⟩
theorem ItsIn.len{w:World}{v:Value}{l:List It}(h:ItsIn w v l):l.length≤9223372036854775807:=by
 obtain⟨a,c,_,_,h,_⟩:=h
 rwa[cellsI_length] at h
theorem ItsIn.at_{w:World}{a:Option Addr}{n c:Nat}{l:List It}(h:ItsIn w (.slice a n c) l){i:Nat}{x:It}(hi:l[i]?=some x) :
  ∃ b off,a=some ⟨b,off,none⟩∧∀ w',Below w.heap.size w w'→w'.cell? ⟨b,off+i*3,none⟩=some (.string x.key)∧w'.cell? ⟨b,off+i*3+1,none⟩=some (.string x.val)∧w'.cell? ⟨b,off+i*3+2,none⟩=some (.int .i64 x.kind):=by
 obtain⟨a',c',e,_,_,_,hc⟩:=h
 simp only[Value.slice.injEq] at e
 obtain⟨rfl,_,_⟩:=e
 obtain⟨b,off,rfl,hb,hcc⟩:=hc (by rw[cellsI_length];have:=(List.getElem?_eq_some_iff.1 hi).1;omega)
 refine⟨b,off,rfl,fun w' hw=>?_⟩
 have k:∀ (j:Nat) (u:Value),x.cells[j]?=some u→w'.cell? ⟨b,off+(i*3+j),none⟩=some u:=fun j u hu=>(hw.cell (p:=⟨b,off+(i*3+j),none⟩) hb).trans (hcc i _ (cellsI_at hi) j u hu)
 refine⟨k 0 _ rfl,?_,?_⟩
 ·have:=k 1 _ rfl
  rwa[show off+(i*3+1)=off+i*3+1 by omega] at this
 ·have:=k 2 _ rfl
  rwa[show off+(i*3+2)=off+i*3+2 by omega] at this
theorem sumI_nil:sumI []=0:=rfl
theorem sumI_cons(x:It)(l:List It):sumI (x::l)=x.need+sumI l:=by simp[sumI]
theorem sumI_app(l m:List It):sumI (l++m)=sumI l+sumI m:=by simp[sumI]
theorem sumI_take{l:List It}{i:Nat}{x:It}(h:l[i]?=some x):sumI (l.take (i+1))=sumI (l.take i)+x.need:=by
 rw[List.take_add_one,h,sumI_app]
 simp[sumI]
theorem sumI_le{l:List It}(i:Nat):sumI (l.take i)≤sumI l:=by
 conv=>rhs;rw[← List.take_append_drop i l,sumI_app]
 exact Nat.le_add_right _ _
theorem owns_itsP{w:World}{lo:Nat}{v:Value}{l:List It}(h:w.ownsRow lo 29 3 v l.length (cellsI l).flatten)(hl:l.length≤1000000):ItsIn w v l:=by
 refine tRow_elems (κ:=kItems) (lo:=lo) ?_ (by rw[cellsI_length];omega) (cellsI_ok l)
 show w.ownsRow lo 29 3 v (cellsI l).length (cellsI l).flatten
 rw[cellsI_length]
 exact h
def OwnI(lo:Nat)(w:World)(v:Value)(l:List It):Prop:=w.ownsRow lo 29 3 v l.length (cellsI l).flatten∧l.length≤1000000
theorem OwnI.its{lo:Nat}{w:World}{v:Value}{l:List It}(h:OwnI lo w v l):ItsIn w v l:=owns_itsP h.1 h.2
theorem OwnI.below{lo:Nat}{w w':World}{v:Value}{l:List It}(h:OwnI lo w v l)(k:Below w.heap.size w w'):OwnI lo w' v l:=⟨owns_below h.1 k,h.2⟩
theorem OwnI.nil(lo:Nat)(w:World):OwnI lo w (.slice none 0 0) []:=⟨World.ownsRow_nil _ _ _ _,Nat.zero_le _⟩
theorem OwnI.lo_{lo lo':Nat}{w:World}{v:Value}{l:List It}(h:OwnI lo w v l)(k:lo'≤lo):OwnI lo' w v l:=⟨owns_lo h.1 k,h.2⟩
def kb(a b:ByteArray):Bool:=Op.bytesLess a.toList b.toList
def RightTo(l:List It)(n:Nat):Prop:=
 (∀ (i:Nat) (x:It),i < n→l[i]?=some x→x.ok=true)∧∀ (i:Nat) (x y:It),i+1 < n→l[i]?=some x→l[i+1]?=some y→kb x.key y.key=true
def RightI(l:List It):Prop:=RightTo l l.length
theorem RightTo.zero(l:List It):RightTo l 0:=⟨fun i x h=>absurd h (Nat.not_lt_zero _),fun i x y h=>absurd h (Nat.not_lt_zero _)⟩
theorem RightTo.next{l:List It}{n:Nat}{x:It}(h:RightTo l n)(hx:l[n]?=some x)(hok:x.ok=true)(hk:∀ m y,n=m+1→l[m]?=some y→kb y.key x.key=true):RightTo l (n+1):=by
 refine⟨fun i y hi hy=>?_,fun i y z hi hy hz=>?_⟩
 ·by_cases e:i=n
  ·subst e
   rw[hx] at hy
   obtain rfl:x=y:=by simpa using hy
   exact hok
  ·exact h.1 i y (by omega) hy
 ·by_cases e:i+1=n
  ·subst e
   rw[hx] at hz
   obtain rfl:x=z:=by simpa using hz
   exact hk i y rfl hy
  ·exact h.2 i y z (by omega) hy hz
theorem RightI.not_ok{l:List It}{i:Nat}{x:It}(hi:l[i]?=some x)(h:x.ok=false):¬ RightI l:=fun k=>by
 have:=k.1 i x (List.getElem?_eq_some_iff.1 hi).1 hi
 rw[h] at this
 cases this
theorem RightI.not_kb{l:List It}{i:Nat}{x y:It}(hi:l[i]?=some x)(hj:l[i+1]?=some y)(h:kb x.key y.key=false):¬ RightI l:=fun k=>by
 have:=k.2 i x y (List.getElem?_eq_some_iff.1 hj).1 hi hj
 rw[h] at this
 cases this
theorem u8_lt{a b:UInt8}:a < b↔a.toNat < b.toNat:=UInt8.lt_iff_toNat_lt
theorem u8_eq{a b:UInt8}:a=b↔a.toNat=b.toNat:=UInt8.toNat_inj.symm
theorem bl_cons(a b:UInt8)(x y:List UInt8):Op.bytesLess (a::x) (b::y)=(decide (a < b) || (a == b && Op.bytesLess x y)):=by rw[Op.bytesLess]
theorem bl_irr:∀ x:List UInt8,Op.bytesLess x x=false
 | []=>by simp[Op.bytesLess]
 | a::x=>by
  rw[bl_cons,bl_irr x]
  simp
theorem bl_trans:∀ {x y z:List UInt8},Op.bytesLess x y=true→Op.bytesLess y z=true→Op.bytesLess x z=true
 | x,y,[],_,h2=>by simp[Op.bytesLess] at h2
 | [],y,c::z,_,_=>by simp[Op.bytesLess]
 | a::x,[],c::z,h1,_=>by simp[Op.bytesLess] at h1
 | a::x,b::y,c::z,h1,h2=>by
  rw[bl_cons] at h1 h2 ⊢
  simp only[Bool.or_eq_true,decide_eq_true_eq,Bool.and_eq_true,beq_iff_eq] at h1 h2 ⊢
  rcases h1 with h1|⟨rfl,h1⟩
  ·rcases h2 with h2|⟨rfl,h2⟩
   ·left
    rw[u8_lt] at *
    omega
   ·exact .inl h1
  ·rcases h2 with h2|⟨rfl,h2⟩
   ·exact .inl h2
   ·exact .inr ⟨rfl,bl_trans h1 h2⟩
theorem bl_tri:∀ {x y:List UInt8},Op.bytesLess x y=false→Op.bytesLess y x=false→x=y
 | [],[],_,_=>rfl
 | [],b::y,h1,_=>by simp[Op.bytesLess] at h1
 | a::x,[],_,h2=>by simp[Op.bytesLess] at h2
 | a::x,b::y,h1,h2=>by
  rw[bl_cons] at h1 h2
  simp only[Bool.or_eq_false_iff,decide_eq_false_iff_not,Bool.and_eq_false_iff,beq_eq_false_iff_ne] at h1 h2
  have hab:a=b:=by
   rw[u8_eq]
   have:=h1.1
   have:=h2.1
   rw[u8_lt] at *
   omega
  subst hab
  have q1:Op.bytesLess x y=false:=by
   rcases h1.2 with h|h
   ·exact absurd rfl h
   ·exact h
  have q2:Op.bytesLess y x=false:=by
   rcases h2.2 with h|h
   ·exact absurd rfl h
   ·exact h
  rw[bl_tri q1 q2]
theorem cmp_bl:∀ (x y:List UInt8),Lib.compareBytes x y=if Op.bytesLess x y=true then -1 else if Op.bytesLess y x=true then 1 else 0
 | [],[]=>by simp[Lib.compareBytes,Op.bytesLess]
 | [],b::y=>by simp[Lib.compareBytes,Op.bytesLess]
 | a::x,[]=>by simp[Lib.compareBytes,Op.bytesLess]
 | a::x,b::y=>by
  rw[Lib.compareBytes,bl_cons,bl_cons,cmp_bl x y]
  by_cases h1:a < b
  ·rw[if_pos h1];simp[h1]
  ·by_cases h2:b < a
   ·have h3:¬ a=b:=by rw[u8_eq];rw[u8_lt] at h2;omega
    rw[if_neg h1,if_pos h2];simp[h1,h2,h3]
   ·have h3:a=b:=by rw[u8_eq];rw[u8_lt] at h1 h2;omega
    subst h3
    rw[if_neg h1,if_neg h2];simp
theorem kb_eq(a b:ByteArray):kb a b=Op.bytesLess a.data.toList b.data.toList:=by unfold kb;rw[ByteArray.toList_eq,ByteArray.toList_eq]
theorem kb_irr(a:ByteArray):kb a a=false:=bl_irr _
theorem kb_trans{a b c:ByteArray}(h:kb a b=true)(k:kb b c=true):kb a c=true:=bl_trans h k
theorem ba_ext{a b:ByteArray}(h:a.data.toList=b.data.toList):a=b:=by
 cases a;cases b
 simp only[ByteArray.mk.injEq]
 exact Array.toList_inj.1 h
theorem kb_tri{a b:ByteArray}(h:kb a b=false)(k:kb b a=false):a=b:=by
 rw[kb_eq] at h k
 exact ba_ext (bl_tri h k)
theorem kb_ne{a b:ByteArray}(h:kb a b=true):a≠b:=fun e=>by rw[e,kb_irr] at h;cases h
theorem kb_asym{a b:ByteArray}(h:kb a b=true):kb b a=false:=by
 cases k:kb b a
 ·rfl
 ·have:=kb_trans h k
  rw[kb_irr] at this
  cases this
def cmpK(a b:ByteArray):Int:=if kb a b=true then -1 else if kb b a=true then 1 else 0
theorem cmpK_eq(a b:ByteArray):Lib.compareBytes a.data.toList b.data.toList=cmpK a b:=by
 unfold cmpK
 rw[cmp_bl,kb_eq,kb_eq]
theorem cmpK_neg(a b:ByteArray):decide (cmpK a b < 0)=kb a b:=by
 unfold cmpK
 cases h:kb a b
 ·cases k:kb b a <;> simp
 ·simp
theorem cmpK_zero(a b:ByteArray):(cmpK a b == 0)=true↔a=b:=by
 unfold cmpK
 cases h:kb a b
 ·cases k:kb b a
  ·have:=kb_tri h k
   simp[this]
  ·have:a≠b:=fun e=>by rw[e,kb_irr] at k;cases k
   simp[this]
 ·have:=kb_ne h
  simp[this]
theorem rise_at{l:List It}(h:RightI l){i j:Nat}{x y:It}(hi:l[i]?=some x)(hj:l[j]?=some y)(hij:i < j):kb x.key y.key=true:=by
 obtain⟨d,rfl⟩:∃ d,j=i+1+d:=⟨j - (i+1),by omega⟩
 induction d generalizing y with
 | zero=>exact h.2 i x y (List.getElem?_eq_some_iff.1 hj).1 hi hj
 | succ d ih=>
  have hlt:=(List.getElem?_eq_some_iff.1 hj).1
  obtain⟨z,hz⟩:∃ z,l[i+1+d]?=some z:=⟨_,List.getElem?_eq_getElem (by omega)⟩
  exact kb_trans (ih hz (by omega)) (h.2 (i+1+d) z y (by omega) hz hj)
theorem rightI_of{l:List It}(h1:∀ x∈l,x.ok=true)(h2:∀ (i j:Nat) (x y:It),i < j→l[i]?=some x→l[j]?=some y→kb x.key y.key=true):RightI l:=
 ⟨fun i x _ hi=>h1 x (List.mem_of_getElem? hi),fun i x y _ hi hj=>h2 i (i+1) x y (by omega) hi hj⟩
theorem rightI_pair{l:List It}:RightI l↔(∀ x∈l,x.ok=true)∧l.Pairwise (fun x y=>kb x.key y.key=true):=by
 constructor
 ·intro h
  refine⟨fun x hx=>?_,List.pairwise_iff_getElem.2 fun i j hi hj hij=>?_⟩
  ·obtain⟨i,hi,rfl⟩:=List.mem_iff_getElem.1 hx
   exact h.1 i _ hi (List.getElem?_eq_getElem hi)
  ·exact rise_at h (List.getElem?_eq_getElem hi) (List.getElem?_eq_getElem hj) hij
 ·rintro ⟨h1,h2⟩
  refine rightI_of h1 fun i j x y hij hi hj=>?_
  obtain⟨hi',rfl⟩:=List.getElem?_eq_some_iff.1 hi
  obtain⟨hj',rfl⟩:=List.getElem?_eq_some_iff.1 hj
  exact List.pairwise_iff_getElem.1 h2 i j hi' hj' hij
theorem RightI.sub{l k:List It}(h:RightI l)(p:k.Sublist l):RightI k:=by
 rw[rightI_pair] at h ⊢
 exact⟨fun x hx=>h.1 x (p.subset hx),h.2.sublist p⟩
theorem RightI.nil:RightI []:=rightI_pair.2 ⟨fun _ h=>(List.not_mem_nil h).elim,List.Pairwise.nil⟩
def keysI(l:List It):List ByteArray:=l.map It.key
def hasK(l:List It)(k:ByteArray):Bool:=l.any (fun x=>cmpK x.key k == 0)
theorem hasK_iff{l:List It}{k:ByteArray}:hasK l k=true↔k∈keysI l:=by
 unfold hasK keysI
 rw[List.any_eq_true,List.mem_map]
 exact⟨fun ⟨x,h1,h2⟩=>⟨x,h1,(cmpK_zero _ _).1 h2⟩,fun ⟨x,h1,h2⟩=>⟨x,h1,(cmpK_zero _ _).2 h2⟩⟩
theorem hasK_not{l:List It}{k:ByteArray}:hasK l k=false↔¬ k∈keysI l:=by
 rw[← hasK_iff]
 cases hasK l k <;> simp
def lowK(l:List It)(k:ByteArray):Nat:=(l.takeWhile (fun x=>kb x.key k)).length
theorem lowK_le(l:List It)(k:ByteArray):lowK l k≤l.length:=by
 unfold lowK
 have:=(List.takeWhile_sublist (l:=l) (fun x=>kb x.key k)).length_le
 exact this
theorem lowK_cons(x:It)(l:List It)(k:ByteArray):lowK (x::l) k=if kb x.key k=true then lowK l k+1 else 0:=by
 unfold lowK
 rw[List.takeWhile_cons]
 split <;> simp
theorem lowK_eq:∀ {l:List It} {k:ByteArray} {n:Nat},(∀ (j:Nat) (y:It),j < n→l[j]?=some y→kb y.key k=true)→n≤l.length→(∀ y,l[n]?=some y→kb y.key k=false)→lowK l k=n
 | [],k,n,_,h,_=>by
  have:n=0:=by simpa using h
  subst this
  rfl
 | x::l,k,0,_,_,h=>by
  rw[lowK_cons,h x rfl]
  simp
 | x::l,k,n+1,h1,h2,h3=>by
  rw[lowK_cons,if_pos (h1 0 x (by omega) rfl),lowK_eq (n:=n) (fun j y hj hy=>h1 (j+1) y (by omega) (by simpa using hy)) (by simpa using h2) (fun y hy=>h3 y (by simpa using hy))]
theorem lowK_ahead:∀ {l:List It} {k:ByteArray} {j:Nat} {y:It},j < lowK l k→l[j]?=some y→kb y.key k=true
 | [],k,j,y,h,hy=>by simp at hy
 | x::l,k,j,y,h,hy=>by
  rw[lowK_cons] at h
  by_cases hk:kb x.key k=true
  ·rw[if_pos hk] at h
   match j,hy with
   | 0,hy=>
    obtain rfl:x=y:=by simpa using hy
    exact hk
   | j+1,hy=>exact lowK_ahead (l:=l) (k:=k) (j:=j) (by omega) (by simpa using hy)
  ·rw[if_neg hk] at h
   omega
theorem lowK_at:∀ {l:List It} {k:ByteArray} {y:It},l[lowK l k]?=some y→kb y.key k=false
 | [],k,y,hy=>by simp at hy
 | x::l,k,y,hy=>by
  rw[lowK_cons] at hy
  by_cases hk:kb x.key k=true
  ·rw[if_pos hk] at hy
   exact lowK_at (by simpa using hy)
  ·rw[if_neg hk] at hy
   obtain rfl:x=y:=by simpa using hy
   exact Bool.eq_false_iff.2 hk
theorem lowK_hit{l:List It}(h:RightI l){k:ByteArray}(hk:k∈keysI l):∃ x,l[lowK l k]?=some x∧x.key=k:=by
 unfold keysI at hk
 obtain⟨x,hx,rfl⟩:=List.mem_map.1 hk
 obtain⟨i,hi,rfl⟩:=List.mem_iff_getElem.1 hx
 have hi':=List.getElem?_eq_getElem hi
 have e:lowK l l[i].key=i:=lowK_eq (fun j y hj hy=>rise_at h hy hi' hj) (by omega) (fun y hy=>by
  rw[hi'] at hy
  obtain rfl:=Option.some.inj hy
  exact kb_irr _)
 exact⟨l[i],by rw[e];exact hi',rfl⟩
theorem mem_of_low{l:List It}{k:ByteArray}{x:It}(h:l[lowK l k]?=some x)(hx:x.key=k):k∈keysI l:=by
 rw[← hx]
 exact List.mem_map.2 ⟨x,List.mem_of_getElem? h,rfl⟩
theorem lowK_behind{l:List It}(h:RightI l){k:ByteArray}{j:Nat}{y:It}(hj:lowK l k≤j)(hy:l[j]?=some y):kb y.key k=false:=by
 rcases Nat.lt_or_eq_of_le hj with q|q
 ·obtain⟨z,hz⟩:∃ z,l[lowK l k]?=some z:=⟨_,List.getElem?_eq_getElem (by have:=(List.getElem?_eq_some_iff.1 hy).1;omega)⟩
  have h1:=rise_at h hz hy q
  have h2:=lowK_at hz
  cases h3:kb y.key k
  ·rfl
  ·rw[kb_trans h1 h3] at h2
   cases h2
 ·subst q
  exact lowK_at hy
def putI(l:List It)(x:It):List It:=l.take (lowK l x.key)++[x]++l.drop (if hasK l x.key=true then lowK l x.key+1 else lowK l x.key)
def dropI(l:List It)(k:ByteArray):List It:=if hasK l k=true then l.take (lowK l k)++l.drop (lowK l k+1) else l
theorem dropI_sub(l:List It)(k:ByteArray):(dropI l k).Sublist l:=by
 unfold dropI
 by_cases h:hasK l k=true
 ·rw[if_pos h]
  conv=>rhs;rw[← List.take_append_drop (lowK l k) l]
  exact List.Sublist.append (List.Sublist.refl _) (List.drop_sublist_drop_left l (by omega))
 ·rw[if_neg h]
  exact List.Sublist.refl _
theorem dropI_right{l:List It}(h:RightI l)(k:ByteArray):RightI (dropI l k):=h.sub (dropI_sub l k)
theorem mem_take_low{l:List It}{k:ByteArray}{x:It}(h:x∈l.take (lowK l k)):kb x.key k=true:=by
 obtain⟨i,hi,rfl⟩:=List.mem_iff_getElem.1 h
 rw[List.length_take] at hi
 exact lowK_ahead (l:=l) (j:=i) (by omega) (by rw[List.getElem_take];exact List.getElem?_eq_getElem (by omega))
theorem mem_drop_low{l:List It}(hr:RightI l){k:ByteArray}{x:It}(h:x∈l.drop (if hasK l k=true then lowK l k+1 else lowK l k)):kb k x.key=true:=by
 obtain⟨i,hi,rfl⟩:=List.mem_iff_getElem.1 h
 rw[List.getElem_drop]
 rw[List.length_drop] at hi
 generalize hq:(if hasK l k=true then lowK l k+1 else lowK l k)=q at *
 have hx:l[q+i]?=some l[q+i]:=List.getElem?_eq_getElem (by omega)
 by_cases hk:hasK l k=true
 ·rw[if_pos hk] at hq
  obtain⟨z,hz,hzk⟩:=lowK_hit hr (hasK_iff.1 hk)
  have:=rise_at hr hz hx (by omega)
  rwa[hzk] at this
 ·rw[if_neg hk] at hq
  have h1:=lowK_behind hr (k:=k) (by omega) hx
  cases h2:kb k l[q+i].key
  ·exact absurd (hasK_iff.2 (List.mem_map.2 ⟨_,List.getElem_mem _,kb_tri h1 h2⟩)) hk
  ·rfl
theorem putI_right{l:List It}(h:RightI l){x:It}(hx:x.ok=true):RightI (putI l x):=by
 have h':=rightI_pair.1 h
 unfold putI
 rw[rightI_pair]
 refine⟨fun y hy=>?_,?_⟩
 ·rcases List.mem_append.1 hy with hy|hy
  ·rcases List.mem_append.1 hy with hy|hy
   ·exact h'.1 y (List.mem_of_mem_take hy)
   ·obtain rfl:=List.mem_singleton.1 hy
    exact hx
  ·exact h'.1 y (List.mem_of_mem_drop hy)
 ·rw[List.pairwise_append,List.pairwise_append]
  refine⟨⟨h'.2.sublist (List.take_sublist _ _),List.pairwise_singleton _ _,fun a ha b hb=>?_⟩,h'.2.sublist (List.drop_sublist _ _),fun a ha b hb=>?_⟩
  ·obtain rfl:=List.mem_singleton.1 hb
   exact mem_take_low ha
  ·have hb':=mem_drop_low h hb
   rcases List.mem_append.1 ha with ha|ha
   ·exact kb_trans (mem_take_low ha) hb'
   ·obtain rfl:=List.mem_singleton.1 ha
    exact hb'
theorem mem_split{l:List It}(hr:RightI l)(k:ByteArray)(y:It):y∈l↔y∈l.take (lowK l k)∨(y∈l∧y.key=k)∨y∈l.drop (if hasK l k=true then lowK l k+1 else lowK l k):=by
 constructor
 ·intro hy
  have e:y∈l.take (lowK l k)++l.drop (lowK l k):=by rw[List.take_append_drop];exact hy
  rcases List.mem_append.1 e with h|h
  ·exact .inl h
  ·by_cases hk:hasK l k=true
   ·obtain⟨z,hz,hzk⟩:=lowK_hit hr (hasK_iff.1 hk)
    have hlt:=(List.getElem?_eq_some_iff.1 hz).1
    rw[List.drop_eq_getElem_cons hlt] at h
    rcases List.mem_cons.1 h with h|h
    ·refine .inr (.inl ⟨hy,?_⟩)
     rw[List.getElem?_eq_getElem hlt] at hz
     rw[h,Option.some.inj hz,hzk]
    ·right;right
     rw[if_pos hk]
     exact h
   ·right;right
    rw[if_neg hk]
    exact h
 ·rintro (h|⟨h,_⟩|h)
  ·exact List.mem_of_mem_take h
  ·exact h
  ·exact List.mem_of_mem_drop h
theorem mem_putI{l:List It}(hr:RightI l)(x y:It):y∈putI l x↔y=x∨(y∈l∧y.key≠x.key):=by
 unfold putI
 rw[List.mem_append,List.mem_append,List.mem_singleton]
 constructor
 ·rintro ((h|h)|h)
  ·exact .inr ⟨List.mem_of_mem_take h,kb_ne (mem_take_low h)⟩
  ·exact .inl h
  ·exact .inr ⟨List.mem_of_mem_drop h,fun e=>kb_ne (mem_drop_low hr h) e.symm⟩
 ·rintro (h|⟨h,hk⟩)
  ·exact .inl (.inr h)
  ·rcases (mem_split hr x.key y).1 h with h|⟨_,h⟩|h
   ·exact .inl (.inl h)
   ·exact absurd h hk
   ·exact .inr h
theorem mem_dropI{l:List It}(hr:RightI l)(k:ByteArray)(y:It):y∈dropI l k↔y∈l∧y.key≠k:=by
 unfold dropI
 by_cases hk:hasK l k=true
 ·rw[if_pos hk,List.mem_append]
  have e:(if hasK l k=true then lowK l k+1 else lowK l k)=lowK l k+1:=if_pos hk
  constructor
  ·rintro (h|h)
   ·exact⟨List.mem_of_mem_take h,kb_ne (mem_take_low h)⟩
   ·exact⟨List.mem_of_mem_drop h,fun q=>kb_ne (mem_drop_low hr (by rw[e];exact h)) q.symm⟩
  ·rintro ⟨h,hn⟩
   rcases (mem_split hr k y).1 h with h|⟨_,h⟩|h
   ·exact .inl h
   ·exact absurd h hn
   ·rw[e] at h
    exact .inr h
 ·rw[if_neg hk]
  exact⟨fun h=>⟨h,fun e=>hk (hasK_iff.2 (List.mem_map.2 ⟨y,h,e⟩))⟩,fun h=>h.1⟩
theorem putI_len(l:List It)(x:It):(putI l x).length≤l.length+1:=by
 unfold putI
 simp only[List.length_append,List.length_take,List.length_drop,List.length_singleton]
 split <;> omega
theorem dropI_len(l:List It)(k:ByteArray):(dropI l k).length≤l.length:=(dropI_sub l k).length_le
end Go.Proofs.YtjepgclnbbpnaaaGreat.P9
namespace Go.Proofs.YtjepgclnbbpnaaaGreat.P12
open Go Go.RowKit Go.Lib
open P9
def Lows(l:List It)(k:ByteArray):Prop:=∀ x∈l,kb x.key k=true
def Highs(l:List It)(k:ByteArray):Prop:=∀ x∈l,kb k x.key=true
theorem lowK_app{a:List It}{k:ByteArray}(h:Lows a k)(m:List It):lowK (a++m) k=a.length+lowK m k:=by
 induction a with
 | nil=>simp
 | cons x a ih=>
  rw[List.cons_append,lowK_cons,if_pos (h x List.mem_cons_self),ih fun y hy=>h y (List.mem_cons_of_mem _ hy),List.length_cons]
  omega
theorem lowK_high{b:List It}{k:ByteArray}(h:Highs b k):lowK b k=0:=by
 cases b with
 | nil=>rfl
 | cons x b=>rw[lowK_cons,if_neg (by rw[kb_asym (h x List.mem_cons_self)];simp)]
theorem lowK_front{b:List It}{k:ByteArray}(h:Highs b k)(m:List It):lowK (m++b) k=lowK m k:=by
 induction m with
 | nil=>rw[List.nil_append,lowK_high h];rfl
 | cons x m ih=>rw[List.cons_append,lowK_cons,lowK_cons,ih]
theorem lowK_mid{a b:List It}{k:ByteArray}(h:Lows a k)(g:Highs b k)(m:List It):lowK (a++m++b) k=a.length+lowK m k:=by
 rw[List.append_assoc,lowK_app h,lowK_front g]
theorem hasK_app(a b:List It)(k:ByteArray):hasK (a++b) k=(hasK a k || hasK b k):=by simp[hasK,List.any_append]
theorem hasK_low{a:List It}{k:ByteArray}(h:Lows a k):hasK a k=false:=hasK_not.2 fun hk=>by
 obtain⟨x,hx,rfl⟩:=List.mem_map.1 hk
 exact absurd rfl (kb_ne (h x hx))
theorem hasK_high{b:List It}{k:ByteArray}(h:Highs b k):hasK b k=false:=hasK_not.2 fun hk=>by
 obtain⟨x,hx,rfl⟩:=List.mem_map.1 hk
 exact absurd rfl (kb_ne (h x hx))
theorem hasK_mid{a b:List It}{k:ByteArray}(h:Lows a k)(g:Highs b k)(m:List It):hasK (a++m++b) k=hasK m k:=by
 rw[hasK_app,hasK_app,hasK_low h,hasK_high g]
 simp
theorem take_mid(a m b:List It){n:Nat}(h:n≤m.length):(a++m++b).take (a.length+n)=a++m.take n:=by
 rw[List.append_assoc,List.take_length_add_append,List.take_append_of_le_length h]
theorem drop_mid(a m b:List It){n:Nat}(h:n≤m.length):(a++m++b).drop (a.length+n)=m.drop n++b:=by
 rw[List.append_assoc,List.drop_length_add_append,List.drop_append_of_le_length h]
theorem low_hit_lt{m:List It}(hr:RightI m){k:ByteArray}(h:hasK m k=true):lowK m k+1≤m.length:=by
 obtain⟨x,hx,_⟩:=lowK_hit hr (hasK_iff.1 h)
 exact (List.getElem?_eq_some_iff.1 hx).1
theorem putI_mid{a b:List It}{x:It}(h:Lows a x.key)(g:Highs b x.key){m:List It}(hr:RightI m):putI (a++m++b) x=a++putI m x++b:=by
 unfold putI
 rw[lowK_mid h g,hasK_mid h g,take_mid _ _ _ (lowK_le _ _)]
 have e:(if hasK m x.key=true then a.length+lowK m x.key+1 else a.length+lowK m x.key)=a.length+(if hasK m x.key=true then lowK m x.key+1 else lowK m x.key):=by split <;> omega
 rw[e,drop_mid _ _ _ (by
  split
  case isTrue hk=>exact low_hit_lt hr hk
  case isFalse=>exact lowK_le _ _)]
 simp only[List.append_assoc]
theorem dropI_mid{a b:List It}{k:ByteArray}(h:Lows a k)(g:Highs b k){m:List It}(hr:RightI m):dropI (a++m++b) k=a++dropI m k++b:=by
 unfold dropI
 rw[hasK_mid h g]
 by_cases hk:hasK m k=true
 ·rw[if_pos hk,if_pos hk,lowK_mid h g,take_mid _ _ _ (lowK_le _ _),Nat.add_assoc,drop_mid _ _ _ (low_hit_lt hr hk)]
  simp only[List.append_assoc]
 ·rw[if_neg hk,if_neg hk]
theorem Lows.mono{l:List It}{k k':ByteArray}(h:Lows l k)(g:kb k' k=false):Lows l k':=fun x hx=>by
 by_cases e:kb k k'=true
 ·exact kb_trans (h x hx) e
 ·have:=kb_tri (by simpa using e) g
  rw[← this]
  exact h x hx
theorem Highs.of{l:List It}{k k':ByteArray}(h:∀ x∈l,kb x.key k'=false)(g:kb k k'=true):Highs l k:=fun x hx=>by
 by_cases e:kb k' x.key=true
 ·exact kb_trans g e
 ·rw[← kb_tri (a:=k') (b:=x.key) (by simpa using e) (h x hx)]
  exact g
theorem Lows.nil(k:ByteArray):Lows [] k:=fun _ h=>(List.not_mem_nil h).elim
theorem Highs.nil(k:ByteArray):Highs [] k:=fun _ h=>(List.not_mem_nil h).elim
theorem Lows.app{a b:List It}{k:ByteArray}(h:Lows a k)(g:Lows b k):Lows (a++b) k:=fun x hx=>(List.mem_append.1 hx).elim (h x) (g x)
theorem Highs.app{a b:List It}{k:ByteArray}(h:Highs a k)(g:Highs b k):Highs (a++b) k:=fun x hx=>(List.mem_append.1 hx).elim (h x) (g x)
end Go.Proofs.YtjepgclnbbpnaaaGreat.P12
namespace Go.Proofs.YtjepgclnbbpnaaaGreat.P0
open Go Go.RowKit Go.Lib
def low(n v:Nat):List UInt8:=(List.range n).map fun i=>UInt8.ofNat (v / 256 ^ i)
theorem low_succ(n v:Nat):low (n+1) v=low n v++[UInt8.ofNat (v / 256 ^ n)]:=by
 simp[low,List.range_succ]
theorem low_length(n v:Nat):(low n v).length=n:=by simp[low]
theorem low_zero(v:Nat):low 0 v=[]:=rfl
def cells(xs:List UInt8):List Value:=xs.map fun c=>Value.int .u8 c.toNat
theorem cells_length(xs:List UInt8):(cells xs).length=xs.length:=by simp[cells]
theorem cells_append(a b:List UInt8):cells (a++b)=cells a++cells b:=by simp[cells]
theorem cells_snoc(xs:List UInt8)(x:Nat):cells (xs++[UInt8.ofNat x])=cells xs++[.int .u8 ((x:Int) % 256)]:=by
 simp[cells]
def str(l:List UInt8):ByteArray:=⟨l.toArray⟩
theorem str_size(l:List UInt8):(str l).size=l.length:=by simp[str,ByteArray.size]
theorem str_list(l:List UInt8):(str l).data.toList=l:=by simp[str]
theorem str_eq(s:ByteArray):str s.data.toList=s:=by simp[str]
theorem text_ext{a b:ByteArray}(h:a.data.toList=b.data.toList):a=b:=by rw[← str_eq a,← str_eq b,h]
theorem text_app(a b:ByteArray):(a++b).data.toList=a.data.toList++b.data.toList:=by simp[ByteArray.data_append]
theorem text_len(s:ByteArray):s.data.toList.length=s.size:=by simp
theorem size_app(a b:ByteArray):(a++b).size=a.size+b.size:=ByteArray.size_append ..
theorem same_true{a b:ByteArray}(h:a=b):(a.toList == b.toList)=true:=by rw[h];exact beq_self_eq_true _
theorem same_false{a b:ByteArray}(h:a≠b):(a.toList == b.toList)=false:=by
 rw[beq_eq_false_iff_ne,ByteArray.toList_eq,ByteArray.toList_eq]
 exact fun e=>h (text_ext e)
theorem owns_below{w w':World}{base e size:Nat}{v:Value}{n:Nat}{xs:List Value}(h:w.ownsRow base e size v n xs)(hb:Below w.heap.size w w'):w'.ownsRow base e size v n xs:=
 h.kept (row:=none) ⟨hb.os,hb.tape,hb.output,hb.size,fun k hk _=>hb.block k hk⟩ (by cases hv:v.ownBlock <;> simp)
theorem owns_shape{w:World}{base e size n:Nat}{v:Value}{xs:List Value}(h:w.ownsRow base e size v n xs):∃ a k c,v=.slice a k c:=by
 rcases h.2 with ⟨rfl,_⟩|⟨g,cap,cur,rfl,_⟩
 ·exact⟨_,_,_,rfl⟩
 ·exact⟨_,_,_,rfl⟩
theorem cell_at{w:World}{b:Nat}{c:Array Value}{t:TypeId}(h:w.heap[b]?=some (.cells c t (0,0)))(j:Nat):w.cell? ⟨b,j,none⟩=c[j]?:=by
 simp[World.cell?,h]
theorem free_at{w:World}{b:Nat}{c:Array Value}{t:TypeId}(h:w.heap[b]?=some (.cells c t (0,0)))(j:Nat):w.frozen? ⟨b,j,none⟩=false:=by
 simp[World.frozen?,h]
theorem set_at{w:World}{b:Nat}{c:Array Value}{t:TypeId}(h:w.heap[b]?=some (.cells c t (0,0)))(j:Nat)(u:Value):(w.setCell ⟨b,j,none⟩ u).heap[b]?=some (.cells (c.setIfInBounds j u) t (0,0)):=by
 simp only[World.setCell,Array.getElem?_modify];rw[h];rfl
theorem new_at(w:World)(c:Array Value)(t:TypeId):(w.alloc (.cells c t)).heap[w.heap.size]?=some (.cells c t (0,0)):=heap_alloc_new w _
theorem infoByte:(Tryz.prog.info? 5).map (fun i=>(i.zero,i.size,i.bytes))=some (some (.int .u8 0),1,1):=by kernel_rfl
theorem div_step{x n k:Nat}(h:x=n / 256 ^ k):x / 256=n / 256 ^ (k+1):=by
 rw[h,Nat.div_div_eq_div_mul,Nat.pow_succ]
theorem run_owned_string(w:World){base n:Nat}{v:Value}{xs:List UInt8}(h:w.ownsRow base 5 1 v n (cells xs)) :
  (convert 188 9 v).run Tryz.prog w=.ok (.string ⟨xs.toArray⟩) w:=by
 have hn:n=xs.length:=by have:=h.1;simp[cells_length] at this;omega
 subst hn
 rcases h.2 with ⟨rfl,e⟩|⟨g,cap,cur,rfl,_,hg,_,_,_,ht⟩
 ·obtain rfl:xs=[]:=List.eq_nil_of_length_eq_zero e
  exact run_convert_nil_bytes w 188 9 5 0 Tryz.underlying188 Tryz.underlying5 Tryz.underlying9
 ·rw[Nat.mul_one] at ht
  exact run_convert_bytes_back w 188 9 5 ⟨g,0,none⟩ cap xs Tryz.underlying188 Tryz.underlying5 Tryz.underlying9 (bytes_of_row hg ht)
end Go.Proofs.YtjepgclnbbpnaaaGreat.P0
namespace Go.Proofs.YtjepgclnbbpnaaaGreat.P9
open Go Go.RowKit Go.Lib PK
open P0 (low str str_size low_length size_app text_ext text_app str_list)
def textB(s:ByteArray):ByteArray:=str (low 2 s.size)++s
theorem textB_size(s:ByteArray):(textB s).size=2+s.size:=by rw[textB,size_app,str_size,low_length]
def layOn(s:ByteArray)(l:List It):ByteArray:=l.foldl (fun s x=>s++str (low 1 x.kind.toNat)++textB x.key++textB x.val) s
theorem layOn_snoc(s:ByteArray)(l:List It)(x:It):layOn s (l++[x])=layOn s l++str (low 1 x.kind.toNat)++textB x.key++textB x.val:=by simp[layOn]
theorem layOn_take{l:List It}{i:Nat}{x:It}(h:l[i]?=some x)(s:ByteArray):layOn s (l.take (i+1))=layOn s (l.take i)++str (low 1 x.kind.toNat)++textB x.key++textB x.val:=by
 rw[List.take_add_one,h]
 exact layOn_snoc s _ x
theorem layOn_size(s:ByteArray)(l:List It):(layOn s l).size=s.size+sumI l:=by
 induction l generalizing s with
 | nil=>rfl
 | cons x l ih=>
  show (layOn _ l).size=_
  rw[ih,size_app,size_app,size_app,textB_size,textB_size,str_size,low_length,sumI_cons]
  unfold It.need
  omega
def layI(l:List It):ByteArray:=layOn (str (low 1 l.length)) l
theorem layI_size(l:List It):(layI l).size=1+sumI l:=by rw[layI,layOn_size,str_size,low_length]
theorem sumI_len(l:List It):5*l.length≤sumI l:=by
 induction l with
 | nil=>exact Nat.le_refl _
 | cons x l ih=>rw[sumI_cons,List.length_cons];unfold It.need;omega
open Classical in
noncomputable def layR(l:List It):ByteArray×Int:=if RightI l then (if 1+sumI l≤232 then (layI l,0) else (⟨#[]⟩,2)) else (⟨#[]⟩,1)
end Go.Proofs.YtjepgclnbbpnaaaGreat.P9
