/-
  Texts of the proofs of SaidOrd12.
-/
import Derived.Test.YtjepgclnbbpnaaaGreatMs02
import Derived.Shelf.Small.Strs
import Derived.Shelf.Strconv.Clone
set_option linter.unusedVariables false
set_option linter.unusedSimpArgs false
namespace Go.Proofs.YtjepgclnbbpnaaaGreat.PK
open Go Go.RowKit Go.Lib
def kKids:Kd where
 e:=106
 n:=2
 te:=78
 p:=6
 ok:=fun y=>∃ (s:ByteArray) (x:Int),y=[.string s,.int .i64 x]
 mark:=fun i k=>[.string ⟨#[]⟩,.int .i64 (-1000*(i:Int) - (k:Int) - 1)]
 len:=by rintro _ ⟨s,x,rfl⟩;rfl
 one:=by
  rintro _ ⟨s,x,rfl⟩ u hu
  simp only[List.mem_cons,List.not_mem_nil,or_false] at hu
  rcases hu with rfl|rfl <;> rfl
 mok:=fun i k=>⟨_,_,rfl⟩
 pos:=by decide
theorem infoEKids:(Tryz.prog.info? 106).map (fun i=>(i.zero,i.size,i.bytes))=some (some (Value.agg #[.string ⟨#[]⟩,.int .i64 0]),2,24):=by kernel_rfl
end Go.Proofs.YtjepgclnbbpnaaaGreat.PK
namespace Go.Proofs.YtjepgclnbbpnaaaGreat.P10
open Go Go.RowKit Go.Lib PK
structure It where
 key:ByteArray
 page:Int
def It.cells(x:It):List Value:=[.string x.key,.int .i64 x.page]
def It.v(x:It):Value:=.agg #[.string x.key,.int .i64 x.page]
def It.need(x:It):Nat:=4+x.key.size
def It.ok(x:It):Bool:=decide (x.key.size≤32∧2≤x.page∧x.page≤3999)
def sumI(l:List It):Nat:=(l.map It.need).sum
def cellsI(l:List It):List (List Value):=l.map It.cells
theorem It.okc(x:It):kKids.ok x.cells:=⟨_,_,rfl⟩
theorem cellsI_length(l:List It):(cellsI l).length=l.length:=by simp[cellsI]
theorem cellsI_ok(l:List It):Oks kKids (cellsI l):=fun x hx=>by
 obtain⟨y,_,rfl⟩:=List.mem_map.1 hx
 exact y.okc
theorem cellsI_at{l:List It}{i:Nat}{x:It}(h:l[i]?=some x):(cellsI l)[i]?=some x.cells:=by simp[cellsI,h]
def ItsIn(w:World)(v:Value)(l:List It):Prop:=ElemsIn kKids w v (cellsI l)
theorem ItsIn.below{w w':World}{v:Value}{l:List It}(h:ItsIn w v l)(hb:Below w.heap.size w w'):ItsIn w' v l:=ElemsIn.below h hb
theorem ItsIn.slice{w:World}{v:Value}{l:List It}(h:ItsIn w v l):∃ a c,v=.slice a l.length c:=by
 obtain⟨a,c,h,_⟩:=h
 exact⟨a,c,by rw[cellsI_length] at h;exact h⟩
theorem ItsIn.len{w:World}{v:Value}{l:List It}(h:ItsIn w v l):l.length≤9223372036854775807:=by
 obtain⟨a,c,_,_,h,_⟩:=h
 rwa[cellsI_length] at h
theorem ItsIn.at_{w:World}{a:Option Addr}{n c:Nat}{l:List It}(h:ItsIn w (.slice a n c) l){i:Nat}{x:It}(hi:l[i]?=some x) :
  ∃ b off,a=some ⟨b,off,none⟩∧∀ w',Below w.heap.size w w'→w'.cell? ⟨b,off+i*2,none⟩=some (.string x.key)∧w'.cell? ⟨b,off+i*2+1,none⟩=some (.int .i64 x.page):=by
 obtain⟨a',c',e,_,_,_,hc⟩:=h
 simp only[Value.slice.injEq] at e
 obtain⟨rfl,_,_⟩:=e
 obtain⟨b,off,rfl,hb,hcc⟩:=hc (by rw[cellsI_length];have:=(List.getElem?_eq_some_iff.1 hi).1;omega)
 refine⟨b,off,rfl,fun w' hw=>?_⟩
 have k:∀ (j:Nat) (u:Value),x.cells[j]?=some u→w'.cell? ⟨b,off+(i*2+j),none⟩=some u:=fun j u hu=>(hw.cell (p:=⟨b,off+(i*2+j),none⟩) hb).trans (hcc i _ (cellsI_at hi) j u hu)
 refine⟨k 0 _ rfl,?_⟩
 have:=k 1 _ rfl
 rwa[show off+(i*2+1)=off+i*2+1 by omega] at this
theorem sumI_nil:sumI []=0:=rfl
theorem sumI_cons(x:It)(l:List It):sumI (x::l)=x.need+sumI l:=by simp[sumI]
theorem sumI_app(l m:List It):sumI (l++m)=sumI l+sumI m:=by simp[sumI]
theorem sumI_take{l:List It}{i:Nat}{x:It}(h:l[i]?=some x):sumI (l.take (i+1))=sumI (l.take i)+x.need:=by
 rw[List.take_add_one,h,sumI_app]
 simp[sumI]
theorem sumI_le{l:List It}(i:Nat):sumI (l.take i)≤sumI l:=by
 conv=>rhs;rw[← List.take_append_drop i l,sumI_app]
 exact Nat.le_add_right _ _
theorem owns_itsP{w:World}{lo:Nat}{v:Value}{l:List It}(h:w.ownsRow lo 106 2 v l.length (cellsI l).flatten)(hl:l.length≤1000000):ItsIn w v l:=by
 refine tRow_elems (κ:=kKids) (lo:=lo) ?_ (by rw[cellsI_length];omega) (cellsI_ok l)
 show w.ownsRow lo 106 2 v (cellsI l).length (cellsI l).flatten
 rw[cellsI_length]
 exact h
def OwnI(lo:Nat)(w:World)(v:Value)(l:List It):Prop:=w.ownsRow lo 106 2 v l.length (cellsI l).flatten∧l.length≤1000000
theorem OwnI.its{lo:Nat}{w:World}{v:Value}{l:List It}(h:OwnI lo w v l):ItsIn w v l:=owns_itsP h.1 h.2
theorem OwnI.below{lo:Nat}{w w':World}{v:Value}{l:List It}(h:OwnI lo w v l)(k:Below w.heap.size w w'):OwnI lo w' v l:=⟨owns_below h.1 k,h.2⟩
theorem OwnI.nil(lo:Nat)(w:World):OwnI lo w (.slice none 0 0) []:=⟨World.ownsRow_nil _ _ _ _,Nat.zero_le _⟩
theorem OwnI.lo_{lo lo':Nat}{w:World}{v:Value}{l:List It}(h:OwnI lo w v l)(k:lo'≤lo):OwnI lo' w v l:=⟨owns_lo h.1 k,h.2⟩
def kb(a b:ByteArray):Bool:=Op.bytesLess a.toList b.toList
def RightTo(l:List It)(n:Nat):Prop:=
 (∀ (i:Nat) (x:It),i < n→l[i]?=some x→x.ok=true)∧∀ (i:Nat) (x y:It),i+1 < n→l[i]?=some x→l[i+1]?=some y→kb x.key y.key=true
def RightO(l:List It):Prop:=RightTo l l.length
def RightI(l:List It):Prop:=RightO l∧0 < l.length
theorem RightTo.zero(l:List It):RightTo l 0:=⟨fun i x h=>absurd h (Nat.not_lt_zero _),fun i x y h=>absurd h (Nat.not_lt_zero _)⟩
theorem RightTo.next{l:List It}{n:Nat}{x:It}(h:RightTo l n)(hx:l[n]?=some x)(hok:x.ok=true)(hk:∀ m y,n=m+1→l[m]?=some y→kb y.key x.key=true):RightTo l (n+1):=by
 refine⟨fun i y hi hy=>?_,fun i y z hi hy hz=>?_⟩
 ·by_cases e:i=n
  ·subst e
   rw[hx] at hy
   obtain rfl:x=y:=by simpa using hy
   exact hok
  ·exact h.1 i y (by omega) hy
 ·by_cases e:i+1=n
  ·subst e
   rw[hx] at hz
   obtain rfl:x=z:=by simpa using hz
   exact hk i y rfl hy
  ·exact h.2 i y z (by omega) hy hz
theorem RightO.not_ok{l:List It}{i:Nat}{x:It}(hi:l[i]?=some x)(h:x.ok=false):¬ RightO l:=fun k=>by
 have:=k.1 i x (List.getElem?_eq_some_iff.1 hi).1 hi
 rw[h] at this
 cases this
theorem RightO.not_kb{l:List It}{i:Nat}{x y:It}(hi:l[i]?=some x)(hj:l[i+1]?=some y)(h:kb x.key y.key=false):¬ RightO l:=fun k=>by
 have:=k.2 i x y (List.getElem?_eq_some_iff.1 hj).1 hi hj
 rw[h] at this
 cases this
theorem u8_lt{a b:UInt8}:a < b↔a.toNat < b.toNat:=UInt8.lt_iff_toNat_lt
theorem u8_eq{a b:UInt8}:a=b↔a.toNat=b.toNat:=UInt8.toNat_inj.symm
theorem bl_cons(a b:UInt8)(x y:List UInt8):Op.bytesLess (a::x) (b::y)=(decide (a < b) || (a == b && Op.bytesLess x y)):=by rw[Op.bytesLess]
theorem bl_irr:∀ x:List UInt8,Op.bytesLess x x=false
 | []=>by simp[Op.bytesLess]
 | a::x=>by
  rw[bl_cons,bl_irr x]
  simp
theorem bl_trans:∀ {x y z:List UInt8},Op.bytesLess x y=true→Op.bytesLess y z=true→Op.bytesLess x z=true
 | x,y,[],_,h2=>by simp[Op.bytesLess] at h2
 | [],y,c::z,_,_=>by simp[Op.bytesLess]
 | a::x,[],c::z,h1,_=>by simp[Op.bytesLess] at h1
 | a::x,b::y,c::z,h1,h2=>by
  rw[bl_cons] at h1 h2 ⊢
  simp only[Bool.or_eq_true,decide_eq_true_eq,Bool.and_eq_true,beq_iff_eq] at h1 h2 ⊢
  rcases h1 with h1|⟨rfl,h1⟩
  ·rcases h2 with h2|⟨rfl,h2⟩
   ·left
    rw[u8_lt] at *
    omega
   ·exact .inl h1
  ·rcases h2 with h2|⟨rfl,h2⟩
   ·exact .inl h2
   ·exact .inr ⟨rfl,bl_trans h1 h2⟩
theorem bl_tri:∀ {x y:List UInt8},Op.bytesLess x y=false→Op.bytesLess y x=false→x=y
 | [],[],_,_=>rfl
 | [],b::y,h1,_=>by simp[Op.bytesLess] at h1
 | a::x,[],_,h2=>by simp[Op.bytesLess] at h2
 | a::x,b::y,h1,h2=>by
  rw[bl_cons] at h1 h2
  simp only[Bool.or_eq_false_iff,decide_eq_false_iff_not,Bool.and_eq_false_iff,beq_eq_false_iff_ne] at h1 h2
  have hab:a=b:=by
   rw[u8_eq]
   have:=h1.1
   have:=h2.1
   rw[u8_lt] at *
   omega
  subst hab
  have q1:Op.bytesLess x y=false:=by
   rcases h1.2 with h|h
   ·exact absurd rfl h
   ·exact h
  have q2:Op.bytesLess y x=false:=by
   rcases h2.2 with h|h
   ·exact absurd rfl h
   ·exact h
  rw[bl_tri q1 q2]
theorem kb_eq(a b:ByteArray):kb a b=Op.bytesLess a.data.toList b.data.toList:=by unfold kb;rw[ByteArray.toList_eq,ByteArray.toList_eq]
theorem kb_irr(a:ByteArray):kb a a=false:=bl_irr _
theorem kb_trans{a b c:ByteArray}(h:kb a b=true)(k:kb b c=true):kb a c=true:=bl_trans h k
theorem ba_ext{a b:ByteArray}(h:a.data.toList=b.data.toList):a=b:=by
 cases a;cases b
 simp only[ByteArray.mk.injEq]
 exact Array.toList_inj.1 h
theorem kb_tri{a b:ByteArray}(h:kb a b=false)(k:kb b a=false):a=b:=by
 rw[kb_eq] at h k
 exact ba_ext (bl_tri h k)
theorem kb_ne{a b:ByteArray}(h:kb a b=true):a≠b:=fun e=>by rw[e,kb_irr] at h;cases h
theorem kb_asym{a b:ByteArray}(h:kb a b=true):kb b a=false:=by
 cases k:kb b a
 ·rfl
 ·have:=kb_trans h k
  rw[kb_irr] at this
  cases this
def cmpK(a b:ByteArray):Int:=if kb a b=true then -1 else if kb b a=true then 1 else 0
theorem cmpK_zero(a b:ByteArray):(cmpK a b == 0)=true↔a=b:=by
 unfold cmpK
 cases h:kb a b
 ·cases k:kb b a
  ·have:=kb_tri h k
   simp[this]
  ·have:a≠b:=fun e=>by rw[e,kb_irr] at k;cases k
   simp[this]
 ·have:=kb_ne h
  simp[this]
theorem rise_at{l:List It}(h:RightO l){i j:Nat}{x y:It}(hi:l[i]?=some x)(hj:l[j]?=some y)(hij:i < j):kb x.key y.key=true:=by
 obtain⟨d,rfl⟩:∃ d,j=i+1+d:=⟨j - (i+1),by omega⟩
 induction d generalizing y with
 | zero=>exact h.2 i x y (List.getElem?_eq_some_iff.1 hj).1 hi hj
 | succ d ih=>
  have hlt:=(List.getElem?_eq_some_iff.1 hj).1
  obtain⟨z,hz⟩:∃ z,l[i+1+d]?=some z:=⟨_,List.getElem?_eq_getElem (by omega)⟩
  exact kb_trans (ih hz (by omega)) (h.2 (i+1+d) z y (by omega) hz hj)
theorem rightI_of{l:List It}(h1:∀ x∈l,x.ok=true)(h2:∀ (i j:Nat) (x y:It),i < j→l[i]?=some x→l[j]?=some y→kb x.key y.key=true):RightO l:=
 ⟨fun i x _ hi=>h1 x (List.mem_of_getElem? hi),fun i x y _ hi hj=>h2 i (i+1) x y (by omega) hi hj⟩
theorem rightI_pair{l:List It}:RightO l↔(∀ x∈l,x.ok=true)∧l.Pairwise (fun x y=>kb x.key y.key=true):=by
 constructor
 ·intro h
  refine⟨fun x hx=>?_,List.pairwise_iff_getElem.2 fun i j hi hj hij=>?_⟩
  ·obtain⟨i,hi,rfl⟩:=List.mem_iff_getElem.1 hx
   exact h.1 i _ hi (List.getElem?_eq_getElem hi)
  ·exact rise_at h (List.getElem?_eq_getElem hi) (List.getElem?_eq_getElem hj) hij
 ·rintro ⟨h1,h2⟩
  refine rightI_of h1 fun i j x y hij hi hj=>?_
  obtain⟨hi',rfl⟩:=List.getElem?_eq_some_iff.1 hi
  obtain⟨hj',rfl⟩:=List.getElem?_eq_some_iff.1 hj
  exact List.pairwise_iff_getElem.1 h2 i j hi' hj' hij
theorem RightO.sub{l k:List It}(h:RightO l)(p:k.Sublist l):RightO k:=by
 rw[rightI_pair] at h ⊢
 exact⟨fun x hx=>h.1 x (p.subset hx),h.2.sublist p⟩
def keysI(l:List It):List ByteArray:=l.map It.key
def hasK(l:List It)(k:ByteArray):Bool:=l.any (fun x=>cmpK x.key k == 0)
theorem hasK_iff{l:List It}{k:ByteArray}:hasK l k=true↔k∈keysI l:=by
 unfold hasK keysI
 rw[List.any_eq_true,List.mem_map]
 exact⟨fun ⟨x,h1,h2⟩=>⟨x,h1,(cmpK_zero _ _).1 h2⟩,fun ⟨x,h1,h2⟩=>⟨x,h1,(cmpK_zero _ _).2 h2⟩⟩
theorem hasK_not{l:List It}{k:ByteArray}:hasK l k=false↔¬ k∈keysI l:=by
 rw[← hasK_iff]
 cases hasK l k <;> simp
def lowK(l:List It)(k:ByteArray):Nat:=(l.takeWhile (fun x=>kb x.key k)).length
theorem lowK_le(l:List It)(k:ByteArray):lowK l k≤l.length:=by
 unfold lowK
 have:=(List.takeWhile_sublist (l:=l) (fun x=>kb x.key k)).length_le
 exact this
theorem lowK_cons(x:It)(l:List It)(k:ByteArray):lowK (x::l) k=if kb x.key k=true then lowK l k+1 else 0:=by
 unfold lowK
 rw[List.takeWhile_cons]
 split <;> simp
theorem lowK_eq:∀ {l:List It} {k:ByteArray} {n:Nat},(∀ (j:Nat) (y:It),j < n→l[j]?=some y→kb y.key k=true)→n≤l.length→(∀ y,l[n]?=some y→kb y.key k=false)→lowK l k=n
 | [],k,n,_,h,_=>by
  have:n=0:=by simpa using h
  subst this
  rfl
 | x::l,k,0,_,_,h=>by
  rw[lowK_cons,h x rfl]
  simp
 | x::l,k,n+1,h1,h2,h3=>by
  rw[lowK_cons,if_pos (h1 0 x (by omega) rfl),lowK_eq (n:=n) (fun j y hj hy=>h1 (j+1) y (by omega) (by simpa using hy)) (by simpa using h2) (fun y hy=>h3 y (by simpa using hy))]
theorem lowK_ahead:∀ {l:List It} {k:ByteArray} {j:Nat} {y:It},j < lowK l k→l[j]?=some y→kb y.key k=true
 | [],k,j,y,h,hy=>by simp at hy
 | x::l,k,j,y,h,hy=>by
  rw[lowK_cons] at h
  by_cases hk:kb x.key k=true
  ·rw[if_pos hk] at h
   match j,hy with
   | 0,hy=>
    obtain rfl:x=y:=by simpa using hy
    exact hk
   | j+1,hy=>exact lowK_ahead (l:=l) (k:=k) (j:=j) (by omega) (by simpa using hy)
  ·rw[if_neg hk] at h
   omega
theorem lowK_at:∀ {l:List It} {k:ByteArray} {y:It},l[lowK l k]?=some y→kb y.key k=false
 | [],k,y,hy=>by simp at hy
 | x::l,k,y,hy=>by
  rw[lowK_cons] at hy
  by_cases hk:kb x.key k=true
  ·rw[if_pos hk] at hy
   exact lowK_at (by simpa using hy)
  ·rw[if_neg hk] at hy
   obtain rfl:x=y:=by simpa using hy
   exact Bool.eq_false_iff.2 hk
theorem lowK_hit{l:List It}(h:RightO l){k:ByteArray}(hk:k∈keysI l):∃ x,l[lowK l k]?=some x∧x.key=k:=by
 unfold keysI at hk
 obtain⟨x,hx,rfl⟩:=List.mem_map.1 hk
 obtain⟨i,hi,rfl⟩:=List.mem_iff_getElem.1 hx
 have hi':=List.getElem?_eq_getElem hi
 have e:lowK l l[i].key=i:=lowK_eq (fun j y hj hy=>rise_at h hy hi' hj) (by omega) (fun y hy=>by
  rw[hi'] at hy
  obtain rfl:=Option.some.inj hy
  exact kb_irr _)
 exact⟨l[i],by rw[e];exact hi',rfl⟩
theorem lowK_behind{l:List It}(h:RightO l){k:ByteArray}{j:Nat}{y:It}(hj:lowK l k≤j)(hy:l[j]?=some y):kb y.key k=false:=by
 rcases Nat.lt_or_eq_of_le hj with q|q
 ·obtain⟨z,hz⟩:∃ z,l[lowK l k]?=some z:=⟨_,List.getElem?_eq_getElem (by have:=(List.getElem?_eq_some_iff.1 hy).1;omega)⟩
  have h1:=rise_at h hz hy q
  have h2:=lowK_at hz
  cases h3:kb y.key k
  ·rfl
  ·rw[kb_trans h1 h3] at h2
   cases h2
 ·subst q
  exact lowK_at hy
theorem mem_drop_low{l:List It}(hr:RightO l){k:ByteArray}{x:It}(h:x∈l.drop (if hasK l k=true then lowK l k+1 else lowK l k)):kb k x.key=true:=by
 obtain⟨i,hi,rfl⟩:=List.mem_iff_getElem.1 h
 rw[List.getElem_drop]
 rw[List.length_drop] at hi
 generalize hq:(if hasK l k=true then lowK l k+1 else lowK l k)=q at *
 have hx:l[q+i]?=some l[q+i]:=List.getElem?_eq_getElem (by omega)
 by_cases hk:hasK l k=true
 ·rw[if_pos hk] at hq
  obtain⟨z,hz,hzk⟩:=lowK_hit hr (hasK_iff.1 hk)
  have:=rise_at hr hz hx (by omega)
  rwa[hzk] at this
 ·rw[if_neg hk] at hq
  have h1:=lowK_behind hr (k:=k) (by omega) hx
  cases h2:kb k l[q+i].key
  ·exact absurd (hasK_iff.2 (List.mem_map.2 ⟨_,List.getElem_mem _,kb_tri h1 h2⟩)) hk
  ·rfl
end Go.Proofs.YtjepgclnbbpnaaaGreat.P10
namespace Go.Proofs.YtjepgclnbbpnaaaGreat.P10
open Go Go.RowKit Go.Lib PK
open P0 (low str str_size low_length size_app text_ext text_app str_list)
def textB(s:ByteArray):ByteArray:=str (low 2 s.size)++s
theorem textB_size(s:ByteArray):(textB s).size=2+s.size:=by rw[textB,size_app,str_size,low_length]
def layOn(s:ByteArray)(l:List It):ByteArray:=l.foldl (fun s x=>s++str (low 2 x.page.toNat)++textB x.key) s
theorem layOn_snoc(s:ByteArray)(l:List It)(x:It):layOn s (l++[x])=layOn s l++str (low 2 x.page.toNat)++textB x.key:=by simp[layOn]
theorem layOn_take{l:List It}{i:Nat}{x:It}(h:l[i]?=some x)(s:ByteArray):layOn s (l.take (i+1))=layOn s (l.take i)++str (low 2 x.page.toNat)++textB x.key:=by
 rw[List.take_add_one,h]
 exact layOn_snoc s _ x
theorem layOn_size(s:ByteArray)(l:List It):(layOn s l).size=s.size+sumI l:=by
 induction l generalizing s with
 | nil=>rfl
 | cons x l ih=>
  show (layOn _ l).size=_
  rw[ih,size_app,size_app,textB_size,str_size,low_length,sumI_cons]
  unfold It.need
  omega
def layI(l:List It):ByteArray:=layOn (str (low 1 l.length)) l
theorem layI_size(l:List It):(layI l).size=1+sumI l:=by rw[layI,layOn_size,str_size,low_length]
theorem sumI_len(l:List It):4*l.length≤sumI l:=by
 induction l with
 | nil=>exact Nat.le_refl _
 | cons x l ih=>rw[sumI_cons,List.length_cons];unfold It.need;omega
open Classical in
noncomputable def layR(l:List It):ByteArray×Int:=if RightI l then (if 1+sumI l≤232 then (layI l,0) else (⟨#[]⟩,2)) else (⟨#[]⟩,1)
end Go.Proofs.YtjepgclnbbpnaaaGreat.P10
namespace Go.Proofs.YtjepgclnbbpnaaaGreat.P12
open Go Go.RowKit Go.Lib PK
open P11 (Pg)
open P9 (It kb kb_trans kb_irr kb_asym)
def leafAt(M:PM)(id:Int)(l:List It):Prop:=∃ tx,M.get id=(⟨3,id,tx,P9.layI l⟩,0)∧P9.RightI l∧1+P9.sumI l≤232∧0 < l.length
def twigAt(M:PM)(id:Int)(ks:List P10.It):Prop:=∃ tx,M.get id=(⟨4,id,tx,P10.layI ks⟩,0)∧P10.RightO ks∧1+P10.sumI ks≤232∧2≤ks.length
def nextK(ks:List P10.It)(hi:Option ByteArray):Option ByteArray:=match ks with
 | []=>hi
 | k::_=>some k.key
def Under(l:List It)(hi:Option ByteArray):Prop:=∀ h,hi=some h→Lows l h
def Over(l:List It)(k:ByteArray):Prop:=∀ x∈l,kb x.key k=false
def Kids(T:Int→List It→List Int→Prop):List P10.It→Option ByteArray→List It→List Int→Prop
 | [],_,l,ids=>l=[]∧ids=[]
 | k::ks,hi,l,ids=>∃ l1 i1 l2 i2,T k.page l1 i1∧Over l1 k.key∧Under l1 (nextK ks hi)∧Kids T ks hi l2 i2∧l=l1++l2∧ids=i1++i2
def TreeAt(M:PM):Nat→Int→List It→List Int→Prop
 | 0=>fun _ _ _=>False
 | 1=>fun id l ids=>leafAt M id l∧ids=[id]
 | d+2=>fun id l ids=>∃ ks i,twigAt M id ks∧Kids (TreeAt M (d+1)) ks none l i∧ids=id::i
theorem kb_le{x k q:ByteArray}(h:kb x k=false)(g:kb k q=false):kb x q=false:=by
 by_cases c:kb x q=true
 ·by_cases e:kb q k=true
  ·rw[kb_trans c e] at h
   cases h
  ·rw[P9.kb_tri (by simpa using e) g] at c
   rw[h] at c
   cases c
 ·simpa using c
theorem nextK_app(a b:List P10.It)(hi:Option ByteArray):nextK (a++b) hi=nextK a (nextK b hi):=by cases a <;> rfl
theorem Under.none_(l:List It):Under l none:=fun _ h=>by cases h
theorem Under.some_{l:List It}{k:ByteArray}(h:Lows l k):Under l (some k):=fun _ e=>by cases e;exact h
theorem Under.left{a b:List It}{hi:Option ByteArray}(h:Under (a++b) hi):Under a hi:=fun k e x hx=>h k e x (List.mem_append_left _ hx)
theorem Under.right{a b:List It}{hi:Option ByteArray}(h:Under (a++b) hi):Under b hi:=fun k e x hx=>h k e x (List.mem_append_right _ hx)
theorem Kids.app{T:Int→List It→List Int→Prop}:∀ {a b:List P10.It} {hi:Option ByteArray} {l:List It} {ids:List Int},
  Kids T (a++b) hi l ids↔∃ la ia lb ib,Kids T a (nextK b hi) la ia∧Kids T b hi lb ib∧l=la++lb∧ids=ia++ib
 | [],b,hi,l,ids=>by
  constructor
  ·exact fun h=>⟨[],[],l,ids,⟨rfl,rfl⟩,h,rfl,rfl⟩
  ·rintro ⟨la,ia,lb,ib,⟨rfl,rfl⟩,h,rfl,rfl⟩
   exact h
 | k::a,b,hi,l,ids=>by
  constructor
  ·rintro ⟨l1,i1,l2,i2,h1,h2,h3,h4,rfl,rfl⟩
   obtain⟨la,ia,lb,ib,g1,g2,rfl,rfl⟩:=Kids.app.1 h4
   exact⟨l1++la,i1++ia,lb,ib,⟨l1,i1,la,ia,h1,h2,by rw[← nextK_app];exact h3,g1,rfl,rfl⟩,g2,by rw[List.append_assoc],by rw[List.append_assoc]⟩
  ·rintro ⟨_,_,lb,ib,⟨l1,i1,l2,i2,h1,h2,h3,h4,rfl,rfl⟩,g,rfl,rfl⟩
   exact⟨l1,i1,l2++lb,i2++ib,h1,h2,by rw[List.append_eq,nextK_app];exact h3,Kids.app.2 ⟨l2,i2,lb,ib,h4,g,rfl,rfl⟩,by rw[List.append_assoc],by rw[List.append_assoc]⟩
theorem Kids.map{T T':Int→List It→List Int→Prop}:∀ {ks:List P10.It} {hi:Option ByteArray} {l:List It} {ids:List Int},Kids T ks hi l ids→
  (∀ k∈ks,∀ l1 i1,(∀ j∈i1,j∈ids)→T k.page l1 i1→T' k.page l1 i1)→Kids T' ks hi l ids
 | [],_,_,_,h,_=>h
 | k::ks,hi,l,ids,⟨l1,i1,l2,i2,h1,h2,h3,h4,h5,h6⟩,g=>
  ⟨l1,i1,l2,i2,g k List.mem_cons_self l1 i1 (fun j hj=>by rw[h6];exact List.mem_append_left _ hj) h1,h2,h3,
   Kids.map h4 fun q hq l3 i3 hs=>g q (List.mem_cons_of_mem _ hq) l3 i3 fun j hj=>by rw[h6];exact List.mem_append_right _ (hs j hj),h5,h6⟩
theorem Kids.bound{T:Int→List It→List Int→Prop}:∀ {ks:List P10.It} {hi hi':Option ByteArray} {l:List It} {ids:List Int},Kids T ks hi l ids→Under l hi'→Kids T ks hi' l ids
 | [],_,_,_,_,h,_=>h
 | k::ks,hi,hi',l,ids,⟨l1,i1,l2,i2,h1,h2,h3,h4,h5,h6⟩,g=>by
  subst h5
  refine⟨l1,i1,l2,i2,h1,h2,?_,Kids.bound h4 g.right,rfl,h6⟩
  cases ks with
  | nil=>exact g.left
  | cons q ks=>exact h3
theorem Kids.over{T:Int→List It→List Int→Prop}:∀ {ks:List P10.It} {k:P10.It} {hi:Option ByteArray} {l:List It} {ids:List Int},Kids T (k::ks) hi l ids→
  (k::ks).Pairwise (fun x y=>kb x.key y.key=true)→Over l k.key
 | ks,k,hi,_,_,⟨l1,i1,l2,i2,h1,h2,h3,h4,rfl,_⟩,g=>fun x hx=>(List.mem_append.1 hx).elim (h2 x) fun hx=>by
  cases ks with
  | nil=>rw[h4.1] at hx;cases hx
  | cons q ks=>
   have e:=Kids.over h4 (List.pairwise_cons.1 g).2 x hx
   have hk:=(List.pairwise_cons.1 g).1 q List.mem_cons_self
   by_cases c:kb x.key k.key=true
   ·rw[kb_trans c hk] at e
    cases e
   ·simpa using c
theorem Kids.right{T:Int→List It→List Int→Prop}(hT:∀ id l ids,T id l ids→P9.RightI l):∀ {ks:List P10.It} {hi:Option ByteArray} {l:List It} {ids:List Int},Kids T ks hi l ids→
  ks.Pairwise (fun x y=>kb x.key y.key=true)→P9.RightI l
 | [],_,_,_,⟨h,_⟩,_=>by rw[h];exact P9.RightI.nil
 | k::ks,hi,_,_,⟨l1,i1,l2,i2,h1,h2,h3,h4,rfl,_⟩,g=>by
  have r1:=hT _ _ _ h1
  have r2:=Kids.right hT h4 (List.pairwise_cons.1 g).2
  cases ks with
  | nil=>rw[h4.1,List.append_nil];exact r1
  | cons q ks=>
   have o:=Kids.over h4 (List.pairwise_cons.1 g).2
   rw[P9.rightI_pair] at r1 r2 ⊢
   exact⟨fun x hx=>(List.mem_append.1 hx).elim (r1.1 x) (r2.1 x),List.pairwise_append.2 ⟨r1.2,r2.2,fun x hx y hy=>Highs.of o (h3 q.key rfl x hx) y hy⟩⟩
theorem Kids.len{T:Int→List It→List Int→Prop}{c:Nat}(hT:∀ id l ids,T id l ids→c≤l.length):∀ {ks:List P10.It} {hi:Option ByteArray} {l:List It} {ids:List Int},Kids T ks hi l ids→ks.length*c≤l.length
 | [],_,_,_,⟨h,_⟩=>by simp
 | k::ks,hi,_,_,⟨l1,i1,l2,i2,h1,h2,h3,h4,rfl,_⟩=>by
  have r1:=hT _ _ _ h1
  have r2:=Kids.len hT h4
  rw[List.length_append,List.length_cons,Nat.succ_mul]
  omega
theorem Kids.lows{T:Int→List It→List Int→Prop}:∀ {ks:List P10.It} {h:ByteArray} {l:List It} {ids:List Int},Kids T ks (some h) l ids→(∀ q∈ks,kb q.key h=true)→Lows l h
 | [],h,_,_,⟨e,_⟩,_=>by rw[e];exact Lows.nil _
 | k::ks,h,_,_,⟨l1,i1,l2,i2,h1,h2,h3,h4,rfl,_⟩,g=>by
  refine Lows.app ?_ (Kids.lows h4 fun q hq=>g q (List.mem_cons_of_mem _ hq))
  cases ks with
  | nil=>exact h3 h rfl
  | cons q ks=>exact fun x hx=>kb_trans (h3 q.key rfl x hx) (g q (List.mem_cons_of_mem _ List.mem_cons_self))
theorem Kids.way{T:Int→List It→List Int→Prop}{a b:List P10.It}{k:P10.It}{hi:Option ByteArray}{l:List It}{ids:List Int}{key:ByteArray}(h:Kids T (a++k::b) hi l ids)
  (hp:(a++k::b).Pairwise (fun x y=>kb x.key y.key=true)) (ha:a=[]∨kb key k.key=false) (hb:∀ q∈b,kb key q.key=true) :
  ∃ la ia l1 i1 lb ib,Kids T a (some k.key) la ia∧T k.page l1 i1∧Over l1 k.key∧Under l1 (nextK b hi)∧Kids T b hi lb ib∧l=la++l1++lb∧ids=ia++i1++ib∧Lows la key∧Highs lb key:=by
 obtain⟨la,ia,_,_,h1,⟨l1,i1,lb,ib,h2,h3,h4,h5,rfl,rfl⟩,rfl,rfl⟩:=Kids.app.1 h
 refine⟨la,ia,l1,i1,lb,ib,h1,h2,h3,h4,h5,by rw[List.append_assoc],by rw[List.append_assoc],?_,?_⟩
 ·rcases ha with rfl|ha
  ·rw[h1.1]
   exact Lows.nil _
  ·refine (Kids.lows h1 fun q hq=>?_).mono ha
   exact (List.pairwise_append.1 hp).2.2 q hq k List.mem_cons_self
 ·cases b with
  | nil=>rw[h5.1];exact Highs.nil _
  | cons q b=>
   have hq:=(List.pairwise_cons.1 (List.pairwise_append.1 hp).2.1).2
   exact Highs.of (Kids.over h5 hq) (hb q List.mem_cons_self)
theorem rightO_pair{ks:List P10.It}(h:P10.RightO ks):ks.Pairwise (fun x y=>kb x.key y.key=true):=(P10.rightI_pair.1 h).2
theorem TreeAt.pos{M:PM}:∀ {d:Nat} {id:Int} {l:List It} {ids:List Int},TreeAt M d id l ids→1≤d
 | 0,_,_,_,h=>h.elim
 | _+1,_,_,_,_=>by omega
theorem TreeAt.head{M:PM}:∀ {d:Nat} {id:Int} {l:List It} {ids:List Int},TreeAt M d id l ids→∃ r,ids=id::r
 | 0,_,_,_,h=>h.elim
 | 1,_,_,_,h=>⟨[],h.2⟩
 | _+2,_,_,_,⟨_,_,_,_,h⟩=>⟨_,h⟩
theorem TreeAt.frame{M M':PM}:∀ {d:Nat} {id:Int} {l:List It} {ids:List Int},TreeAt M d id l ids→(∀ j∈ids,M'.get j=M.get j)→TreeAt M' d id l ids
 | 0,_,_,_,h,_=>h.elim
 | 1,id,l,ids,⟨⟨tx,h1,h2⟩,h3⟩,k=>⟨⟨tx,by rw[k id (by rw[h3];simp)];exact h1,h2⟩,h3⟩
 | d+2,id,l,ids,⟨ks,i,⟨tx,h1,h2⟩,h3,h4⟩,k=>
  ⟨ks,i,⟨tx,by rw[k id (by rw[h4];simp)];exact h1,h2⟩,h3.map fun q _ l1 i1 hs ht=>TreeAt.frame ht fun j hj=>k j (by rw[h4];exact List.mem_cons_of_mem _ (hs j hj)),h4⟩
theorem TreeAt.right{M:PM}:∀ {d:Nat} {id:Int} {l:List It} {ids:List Int},TreeAt M d id l ids→P9.RightI l
 | 0,_,_,_,h=>h.elim
 | 1,_,_,_,⟨⟨_,_,h,_⟩,_⟩=>h
 | d+2,_,_,_,⟨_,_,⟨_,_,h,_⟩,h3,_⟩=>h3.right (fun _ _ _ g=>g.right) (rightO_pair h)
theorem TreeAt.many{M:PM}:∀ {d:Nat} {id:Int} {l:List It} {ids:List Int},TreeAt M (d+1) id l ids→2 ^ d≤l.length
 | 0,_,_,_,⟨⟨_,_,_,_,h⟩,_⟩=>h
 | d+1,_,_,_,⟨ks,_,⟨_,_,_,_,h2⟩,h3,_⟩=>by
  have h:=h3.len (c:=2 ^ d) fun _ _ _ g=>g.many
  have h7:2*2 ^ d≤ks.length*2 ^ d:=Nat.mul_le_mul_right _ h2
  rw[Nat.pow_succ]
  omega
theorem Kids.pages{T:Int→List It→List Int→Prop}(hT:∀ id l ids,T id l ids→ids.length+1≤2*l.length):∀ {ks:List P10.It} {hi:Option ByteArray} {l:List It} {ids:List Int},Kids T ks hi l ids→
  ids.length+ks.length≤2*l.length
 | [],_,_,_,⟨h,g⟩=>by simp[h,g]
 | k::ks,hi,_,_,⟨l1,i1,l2,i2,h1,h2,h3,h4,rfl,rfl⟩=>by
  have r1:=hT _ _ _ h1
  have r2:=Kids.pages hT h4
  simp only[List.length_append,List.length_cons]
  omega
theorem TreeAt.pages{M:PM}:∀ {d:Nat} {id:Int} {l:List It} {ids:List Int},TreeAt M d id l ids→ids.length+1≤2*l.length
 | 0,_,_,_,h=>h.elim
 | 1,_,_,_,⟨⟨_,_,_,_,h⟩,e⟩=>by rw[e];simp only[List.length_singleton];omega
 | d+2,_,_,_,⟨ks,_,⟨_,_,_,_,h2⟩,h3,h4⟩=>by
  have:=h3.pages fun _ _ _ g=>g.pages
  rw[h4,List.length_cons]
  omega
theorem TreeAt.ne{M:PM}{d:Nat}{id:Int}{l:List It}{ids:List Int}(h:TreeAt M d id l ids):0 < l.length:=by
 obtain _|d:=d
 ·exact h.elim
 ·exact Nat.lt_of_lt_of_le (Nat.two_pow_pos d) h.many
structure Fr where
 id:Int
 a:List P10.It
 k:P10.It
 b:List P10.It
def Room(fs:List Fr)(l:List It):Prop:=∀ f∈fs,Over l f.k.key∧Under l (nextK f.b none)
theorem Room.nil_(l:List It):Room [] l:=fun _ h=>by cases h
theorem Over.app{a b:List It}{k:ByteArray}:Over (a++b) k↔Over a k∧Over b k:=
 ⟨fun h=>⟨fun x hx=>h x (List.mem_append_left _ hx),fun x hx=>h x (List.mem_append_right _ hx)⟩,fun h x hx=>(List.mem_append.1 hx).elim (h.1 x) (h.2 x)⟩
theorem Under.app{a b:List It}{k:Option ByteArray}:Under (a++b) k↔Under a k∧Under b k:=⟨fun h=>⟨h.left,h.right⟩,fun h q e=>(h.1 q e).app (h.2 q e)⟩
theorem Room.app{fs:List Fr}{a b:List It}:Room fs (a++b)↔Room fs a∧Room fs b:=
 ⟨fun h=>⟨fun f hf=>⟨(Over.app.1 (h f hf).1).1,(h f hf).2.left⟩,fun f hf=>⟨(Over.app.1 (h f hf).1).2,(h f hf).2.right⟩⟩,
  fun h f hf=>⟨Over.app.2 ⟨(h.1 f hf).1,(h.2 f hf).1⟩,Under.app.2 ⟨(h.1 f hf).2,(h.2 f hf).2⟩⟩⟩
theorem Room.cons{f:Fr}{fs:List Fr}{l:List It}:Room (f::fs) l↔(Over l f.k.key∧Under l (nextK f.b none))∧Room fs l:=by
 simp only[Room,List.mem_cons,forall_eq_or_imp]
def Way(M:PM)(D:Nat)(root:Int):List Fr→Nat→Int→List It→List It→List Int→List Int→Prop
 | [],d,id,la,lb,ia,ib=>d=D∧id=root∧la=[]∧lb=[]∧ia=[]∧ib=[]
 | f::fs,d,id,la,lb,ia,ib=>f.k.page=id∧twigAt M f.id (f.a++f.k::f.b)∧∃ l1 i1 l2 i2 la' lb' ia' ib',
   Kids (TreeAt M d) f.a (some f.k.key) l1 i1∧Kids (TreeAt M d) f.b none l2 i2∧Room fs l1∧Room fs l2∧Way M D root fs (d+1) f.id la' lb' ia' ib'∧
   la=la'++l1∧lb=l2++lb'∧ia=ia'++f.id::i1∧ib=i2++ib'
theorem Way.len{M:PM}{D:Nat}{root:Int}:∀ {fs:List Fr} {d:Nat} {id:Int} {la lb:List It} {ia ib:List Int},Way M D root fs d id la lb ia ib→d+fs.length=D
 | [],_,_,_,_,_,_,h=>by rw[h.1];rfl
 | f::fs,d,_,_,_,_,_,⟨_,_,_,_,_,_,_,_,_,_,_,_,_,_,h,_⟩=>by
  have:=Way.len h
  simp only[List.length_cons]
  omega
theorem Way.start(M:PM)(D:Nat)(root:Int):Way M D root [] D root [] [] [] []:=⟨rfl,rfl,rfl,rfl,rfl,rfl⟩
theorem Way.down{M:PM}{D:Nat}{root:Int}{fs:List Fr}{d:Nat}{id:Int}{la lb l:List It}{ia ib i:List Int}{key:ByteArray}{a b:List P10.It}{k:P10.It}(h:Way M D root fs (d+1) id la lb ia ib)
  (ht:twigAt M id (a++k::b)) (hs:Kids (TreeAt M d) (a++k::b) none l i) (hr:Room fs l) (hka:Lows la key) (hkb:Highs lb key) (ha:a=[]∨kb key k.key=false) (hb:∀ q∈b,kb key q.key=true) :
  ∃ l1 i1 l2 l3 i2 i3,Way M D root (⟨id,a,k,b⟩::fs) d k.page (la++l2) (l3++lb) (ia++id::i2) (i3++ib)∧TreeAt M d k.page l1 i1∧Room (⟨id,a,k,b⟩::fs) l1∧
   l=l2++l1++l3∧i=i2++i1++i3∧Lows (la++l2) key∧Highs (l3++lb) key:=by
 obtain⟨l2,i2,l1,i1,l3,i3,h1,h2,h3,h4,h5,rfl,rfl,h6,h7⟩:=hs.way (rightO_pair ht.choose_spec.2.1) ha hb
 have r1:=Room.app.1 hr
 have r2:=Room.app.1 r1.1
 exact⟨l1,i1,l2,l3,i2,i3,⟨rfl,ht,l2,i2,l3,i3,la,lb,ia,ib,h1,h5,r2.1,r1.2,h,rfl,rfl,rfl,rfl⟩,h2,Room.cons.2 ⟨⟨h3,h4⟩,r2.2⟩,rfl,rfl,hka.app h6,h7.app hkb⟩
theorem Kids.swap{T:Int→List It→List Int→Prop}{a w b:List P10.It}{ba hi:Option ByteArray}{la lw lb:List It}{ia iw ib:List Int}(ha:Kids T a ba la ia)(hw:Kids T w (nextK b hi) lw iw)(hb:Kids T b hi lb ib)
  (hu:Under la (nextK (w++b) hi)):Kids T (a++w++b) hi (la++lw++lb) (ia++iw++ib):=by
 rw[List.append_assoc,List.append_assoc,List.append_assoc]
 exact Kids.app.2 ⟨la,ia,lw++lb,iw++ib,ha.bound hu,Kids.app.2 ⟨lw,iw,lb,ib,hw,hb,rfl,rfl⟩,rfl,rfl⟩
end Go.Proofs.YtjepgclnbbpnaaaGreat.P12
namespace Go.Proofs
open Go.Shelf
def Tryz.lays106_ren:Go.Shelf.Ren:=⟨fun|106=>79|213=>95|265=>116|n=>n,fun|9=>9|3=>3|n=>n,fun|n=>n⟩
theorem Tryz.lays106:Go.Proofs.Lays.n106 Tryz.prog Tryz.lays106_ren:={
 mixed:=by kernel_rfl
 f106:=Tryz.func79.trans (congrArg some (by kernel_rfl))
 f213:=Tryz.func95.trans (congrArg some (by kernel_rfl))
 f265:=Tryz.func116.trans (congrArg some (by kernel_rfl))
 t3:=Tryz.underlying3
 a3:=Tryz.isAgg3
 z3:=Tryz.sizeOf3
 v3:=Tryz.zeroValue3
 t9:=Tryz.underlying9
 a9:=Tryz.isAgg9
 z9:=Tryz.sizeOf9
 v9:=Tryz.zeroValue9 }
open Go.RowKit in
theorem Tryz.strings_Compare(a b:ByteArray)(w:World) :
  Calls Tryz.prog 79 #[.string a,.string b] w fun e w'=>e=.returned (.int .i64 (Lib.compareBytes a.data.toList b.data.toList))∧w'=w:=Any.strings_Compare Tryz.lays106 a b w
def Tryz.laysM316_ren:Go.Shelf.Ren:=⟨fun|316=>140|n=>n,fun|9=>9|3=>3|4=>4|37=>188|0=>0|127=>203|5=>5|n=>n,fun|n=>n⟩
theorem Tryz.laysM316:Go.Proofs.LaysM.n316 Tryz.prog Tryz.laysM316_ren:={
 mixed:=by kernel_rfl
 f316:=Tryz.func140.trans (congrArg some (by kernel_rfl))
 t0:=Tryz.underlying0
 a0:=Tryz.isAgg0
 z0:=Tryz.sizeOf0
 v0:=Tryz.zeroValue0
 t3:=Tryz.underlying3
 a3:=Tryz.isAgg3
 z3:=Tryz.sizeOf3
 v3:=Tryz.zeroValue3
 t4:=Tryz.underlying4
 a4:=Tryz.isAgg4
 z4:=Tryz.sizeOf4
 v4:=Tryz.zeroValue4
 t9:=Tryz.underlying9
 a9:=Tryz.isAgg9
 z9:=Tryz.sizeOf9
 v9:=Tryz.zeroValue9
 t37:=Tryz.underlying188
 a37:=Tryz.isAgg188
 z37:=Tryz.sizeOf188
 v37:=Tryz.zeroValue188
 t127:=Tryz.underlying203
 a127:=Tryz.isAgg203
 z127:=Tryz.sizeOf203
 v127:=Tryz.zeroValue203
 t5:=Tryz.underlying5
 a5:=Tryz.isAgg5
 z5:=Tryz.sizeOf5
 v5:=Tryz.zeroValue5
 i0:=by kernel_rfl
 i3:=by kernel_rfl
 i4:=by kernel_rfl
 i5:=by kernel_rfl
 i9:=by kernel_rfl
 i37:=by kernel_rfl
 i127:=by kernel_rfl }
open Go.RowKit in
theorem Tryz.stringslite_Clone(s:ByteArray)(w:World)(hlim:s.size≤281474976710656) :
  Calls Tryz.prog 140 #[.string s] w fun e w'=>e=.returned (.string s)∧Below w.heap.size w w':=Any.stringslite_Clone Tryz.laysM316 s w hlim
end Go.Proofs
