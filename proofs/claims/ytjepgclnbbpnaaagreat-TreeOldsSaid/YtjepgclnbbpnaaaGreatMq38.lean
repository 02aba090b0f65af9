/-
  Texts of the proofs of SaidDrops12, SaidEmpt12, SaidOlds12.
-/
import Derived.Test.YtjepgclnbbpnaaaGreatMq32
set_option linter.unusedVariables false
set_option linter.unusedSimpArgs false
set_option maxHeartbeats 8000000
set_option maxRecDepth 100000
namespace Go.Proofs.YtjepgclnbbpnaaaGreat.P12
open PK (qqA qqB qqC qqD qqE qqF tk tkS dOne qh)
open Go Go.RowKit Go.Lib PK
open P9 (It ItsIn cellsI OwnI RightI lowK lowK_le lowK_ahead lowK_at lowK_eq hasK hasK_iff hasK_not keysI kb kb_eq kb_irr lowK_hit putI dropI cellsI_length cellsI_ok cellsI_at)
theorem its_news{w:World}{a:Option Addr}{n c:Nat}{l:List It}(h:ItsIn w (.slice a n c) l):(∀ A,a=some A→∀ (j:Nat) (u:Value),(cellsI l).flatten[j]?=some u→w.cell? (A.add j)=some u)∧(a=none→l.length=0∧c=0):=by
 refine⟨fun A hA j u hu=>?_,fun hn=>?_⟩
 ·subst hA
  obtain rfl:n=l.length:=by
   obtain⟨_,_,e⟩:=h.slice
   simp only[Value.slice.injEq] at e
   exact e.2.1
  have h':ElemsIn kItems w (.slice (some A) (cellsI l).length c) (cellsI l):=by rw[cellsI_length];exact h
  exact h'.flat rfl hu
 ·obtain⟨a',c',e,h1,h2,_,h3⟩:=h
  simp only[Value.slice.injEq] at e
  obtain⟨rfl,_,rfl⟩:=e
  refine⟨?_,h1 hn⟩
  rw[cellsI_length] at h3
  refine Nat.eq_zero_of_not_pos fun h0=>?_
  obtain⟨g,off,e2,_⟩:=h3 h0
  rw[hn] at e2
  cases e2
theorem its_flat(l:List It):(cellsI l).flatten.length=l.length*3:=by rw[(cellsI_ok l).flat,cellsI_length];rfl
theorem its_app(l m:List It):(cellsI (l++m)).flatten=(cellsI l).flatten++(cellsI m).flatten:=by simp[cellsI]
theorem its_one(l:List It):∀ u∈(cellsI l).flatten,u.oneCell'=true:=(cellsI_ok l).one
theorem its_drop_end{w:World}{a:Option Addr}{c n:Nat}{l:List It}(h:ItsIn w (.slice a l.length c) l)(hn:l.length=n)(c':Nat)(hc:a=none→c'=0):ItsIn w (.slice a 0 c') (l.drop n):=by
 subst hn
 rw[List.drop_length]
 obtain⟨a',c2,e,h1,_⟩:=h
 simp only[Value.slice.injEq] at e
 obtain⟨rfl,_,rfl⟩:=e
 exact⟨_,c',rfl,hc,by simp[cellsI],cellsI_ok _,fun h=>absurd h (by simp[cellsI])⟩
theorem its_nil{w:World}{a:Option Addr}{n c:Nat}{l:List It}(h:ItsIn w (.slice a n c) l)(ha:a=none):a=none∧n=0∧c=0∧l=[]:=by
 have hl:=h.slice
 obtain⟨h1,h2⟩:=(its_news h).2 ha
 obtain⟨_,_,e⟩:=hl
 simp only[Value.slice.injEq] at e
 exact⟨ha,by omega,h2,List.eq_nil_of_length_eq_zero h1⟩
theorem its_addr{w:World}{A:Addr}{n c:Nat}{l:List It}(h:ItsIn w (.slice (some A) n c) l)(h0:0 < l.length):∃ b off,A=⟨b,off,none⟩:=by
 obtain⟨x,hx⟩:∃ x,l[0]?=some x:=⟨_,List.getElem?_eq_getElem h0⟩
 obtain⟨b,off,e,_⟩:=h.at_ hx
 exact⟨b,off,Option.some.inj e⟩
theorem its_front{w:World}{a:Option Addr}{c:Nat}{l:List It}(h:ItsIn w (.slice a l.length c) l){n:Nat}(hn:n≤l.length){v:Value}{m:List It}(hv:v=.slice a n c)(hm:m=l.take n):ItsIn w v m:=by
 subst hv hm
 exact h.take hn
theorem its_none{w:World}{A:Addr}{c:Nat}:ItsIn w (.slice (some A) 0 c) []:=⟨_,c,rfl,(fun e=>by cases e),by simp[cellsI],cellsI_ok _,fun h=>absurd h (by simp[cellsI])⟩
theorem its_none0{w:World}{A:Addr}{n c:Nat}(h:n=0):ItsIn w (.slice (some A) n c) []:=by subst h;exact its_none
def fromI(l:List It)(k:ByteArray)(m:Int):List It:=(l.drop (lowK l k)).take m.toNat
theorem from_some(w:World)(a:Option Addr)(c:Nat)(l:List It)(k:ByteArray)(m:Int)(hna:a≠none)(h:ItsIn w (.slice a l.length c) l)(hc:l.length≤c)(hm:c≤9223372036854775807)(hl:l.length≤1000000)(hmm:m≤1000000) :
  Calls Tryz.prog 36 #[.slice a l.length c,.string k,.int .i64 m] w fun e w'=>∃ v,e=.returned v∧ItsIn w' v (fromI l k m)∧Below w.heap.size w w':=by
 have HA:=qh (fun (i:Nat) (x:It) (hi:l[i]?=some x)=>h.at_ hi)
 have HI:=qh h
 have HNa:=qh hna
 have HAh:=qh (fun j y=>lowK_ahead (l:=l) (k:=k) (j:=j) (y:=y))
 have hle:=lowK_le l k
 have HAt:=qh (fun y=>lowK_at (l:=l) (k:=k) (y:=y))
 obtain⟨A,hA⟩:∃ A,A=lowK l k:=⟨_,rfl⟩
 unfold fromI
 rw[← hA] at HAh hle HAt ⊢
 clear h hA hna
 go_enter Tryz.func36,Tryz.ntmps36
 go_wp2
 go_loop [7] (fun vk=>∃ j:Nat,j≤A∧vk=.int .i64 j) (fun vk=>A - (RowKit.intOf vk).toNat)
 case atStart=>exact⟨0,Nat.zero_le _,rfl⟩
 case round=>
  obtain⟨j,hj,rfl⟩:=hrel
  by_cases hlt:j < l.length
  ·obtain⟨x,hx⟩:∃ x,l[j]?=some x:=⟨_,List.getElem?_eq_getElem hlt⟩
   obtain⟨b,off,rfl,hcc⟩:=HA.out j x hx
   obtain⟨c0,c1,c2⟩:=hcc w (Below.refl _ _)
   have k1:decide ((j:Int) < (l.length:Int))=true:=decide_eq_true (by omega)
   have k2:(j:Int) < (l.length:Int):=by omega
   have k3:(0:Int)≤(j:Int):=by omega
   by_cases hq:j < A
   ·have k4:Op.bytesLess x.key.toList k.toList=true:=HAh.out j x hq hx
    clear hcc hx
    go_wp2
    go_round
    case rel=>exact⟨j+1,by omega,by go_num⟩
    case measure=>simp[RowKit.intOf];omega
   ·obtain rfl:j=A:=by omega
    have k4:Op.bytesLess x.key.toList k.toList=false:=HAt.out x hx
    clear hcc hx hq
    have hjc:j≠c:=by omega
    have hI:=HI.out.drop (n:=j) (by omega) (c - j)
    have s1:(j:Int)≤(c:Int):=by omega
    have s2:(j:Int)≤(l.length:Int):=by omega
    have s3:(l.length:Int)≤(c:Int):=by omega
    have hdl:(l.drop j).length=l.length - j:=by rw[List.length_drop]
    rw[← hdl] at hI
    have HR:Hid (∀ (E:Nat) (v:Value),v=.slice (some ⟨b,off+j*3,none⟩) E (c - j)→E=min m.toNat (l.length - j)→ItsIn w v ((l.drop j).take m.toNat)):=fun E v hv hE=>by
     refine its_front hI (n:=E) (by rw[hdl];omega) hv ?_
     by_cases q:m.toNat≤l.length - j
     ·rw[hE,Nat.min_eq_left q]
     ·rw[hE,Nat.min_eq_right (by omega),List.take_of_length_le (by rw[hdl];omega),List.take_of_length_le (by rw[hdl];omega)]
    clear hI hdl
    go_wp2
    all_goals go_ret
    all_goals refine⟨_,rfl,HR.out _ _ rfl ?_,Below.refl _ _⟩
    all_goals omega
  ·have e9:j=A:=by omega
   subst e9
   have e8:j=l.length:=by omega
   have k1:decide ((j:Int) < (l.length:Int))=false:=decide_eq_false (by omega)
   have s1:(j:Int)≤(c:Int):=by omega
   have s2:(l.length:Int)≤(j:Int):=by omega
   have s3:(l.length:Int)≤(c:Int):=by omega
   have s4:(j:Int)≤(l.length:Int):=by omega
   have HE:Hid ((l.drop j).take m.toNat=[]):=by show _=_;rw[List.drop_of_length_le (by omega)];simp
   obtain⟨B,rfl⟩:∃ B,a=some B:=by
    cases a with
    | none=>exact absurd rfl HNa.out
    | some B=>exact⟨B,rfl⟩
   go_wp2
   all_goals go_ret
   all_goals exact⟨_,rfl,by first|(rw[HE.out];exact its_none)|(simp;exact its_none)|(simp;refine its_none0 ?_;omega),Below.refl _ _⟩
theorem from_none(w:World)(k:ByteArray)(m:Int)(hmm:m≤1000000) :
  Calls Tryz.prog 36 #[.slice none 0 0,.string k,.int .i64 m] w fun e w'=>e=.returned (.slice none 0 0)∧w=w':=by
 go_enter Tryz.func36,Tryz.ntmps36
 go_wp2
 refine wp_loop_rounds 1 ?_
 rw[rounds_succ]
 go_wp2
 all_goals go_ret
 all_goals first|exact⟨rfl,rfl⟩|exact⟨by show Ending.returned (.slice none (min 0 (max m 0)).toNat 0)=_;rw[show (min 0 (max m 0)).toNat=0 by omega],rfl⟩
theorem from_any(w:World)(v:Value)(l:List It)(k:ByteArray)(m:Int)(h:ItsIn w v l)(hw:∃ a n c,v=.slice a n c∧n≤c∧c≤9223372036854775807)(hl:l.length≤1000000)(hmm:m≤1000000) :
  Calls Tryz.prog 36 #[v,.string k,.int .i64 m] w fun e w'=>∃ v,e=.returned v∧ItsIn w' v (fromI l k m)∧Below w.heap.size w w':=by
 obtain⟨a,n,c,rfl,hc,hm⟩:=hw
 cases a with
 | none=>
  obtain⟨_,rfl,rfl,rfl⟩:=its_nil h rfl
  refine (from_none w k m hmm).mono ?_
  rintro e w' ⟨rfl,rfl⟩
  refine⟨_,rfl,?_,Below.refl _ _⟩
  have e:fromI [] k m=[]:=by unfold fromI;simp
  rw[e]
  exact h
 | some A=>
  obtain rfl:n=l.length:=by
   obtain⟨_,_,e⟩:=h.slice
   simp only[Value.slice.injEq] at e
   exact e.2.1
  exact from_some w (some A) c l k m (fun e=>by cases e) h hc hm hl hmm
end Go.Proofs.YtjepgclnbbpnaaaGreat.P12
namespace Go.Proofs.YtjepgclnbbpnaaaGreat.P9
open Go Go.RowKit Go.Lib PK
theorem same_its(w:World)(u v:Value)(l:List It)(h1:ItsIn w u l)(h2:ItsIn w v l) :
  Calls Tryz.prog 21 #[u,v] w fun e w'=>e=.returned (.bool true)∧Below w.heap.size w w':=sameItems_same w u v (cellsI l) h1 h2
end Go.Proofs.YtjepgclnbbpnaaaGreat.P9
namespace Go.Proofs.YtjepgclnbbpnaaaGreat.P12
open Go Go.RowKit Go.Lib PK
open P9 (It)
def sameIt(p q:It):Bool:=(p.key.toList == q.key.toList) && (p.val.toList == q.val.toList) && (p.kind == q.kind)
theorem sameIt_self(p:It):sameIt p p=true:=by
 unfold sameIt
 rw[beq_self_eq_true,beq_self_eq_true,beq_self_eq_true]
 rfl
theorem it_stood:Tryz.prog.stoodInHeld 29=false:=by kernel_rfl
theorem it_desc:Tryz.prog.underlying 29=some (.struct (Tryz.prog.fieldsOf 29)):=by
 unfold Program.fieldsOf
 rw[Tryz.underlying29]
theorem it_int(w:World)(cs:Array Value)(j:Nat)(v:Value)(h:cs[j]?=some v):(part 3 cs j).run Tryz.prog w=.ok v w:=by
 simp[part,Sem.run_bind,Tryz.isAgg3,h]
theorem it_str(w:World)(cs:Array Value)(j:Nat)(v:Value)(h:cs[j]?=some v):(part 9 cs j).run Tryz.prog w=.ok v w:=by
 simp[part,Sem.run_bind,Tryz.isAgg9,h]
theorem it_eql(w:World)(p q:It):(binOp .eql 29 p.v q.v).run Tryz.prog w=.ok (.bool (sameIt p q)) w:=by
 unfold It.v
 rw[run_eql_struct,run_equalIn_agg w 9999 _ _ _ it_desc it_stood]
 have ei:∀ (w:World) (a b:Int),(Op.equalIn 9999 3 (.int .i64 a) (.int .i64 b)).run Tryz.prog w=.ok (a == b) w:=fun w a b=>run_equalIn_int w 9998 _ _ _ a b Tryz.underlying3
 have es:∀ (w:World) (a b:ByteArray),(Op.equalIn 9999 9 (.string a) (.string b)).run Tryz.prog w=.ok (a.toList == b.toList) w:=fun w a b=>run_equalIn_string w 9998 _ a b Tryz.underlying9
 have q0:∀ (w:World) (a b c:Value),(part 9 #[a,b,c] 0).run Tryz.prog w=.ok a w:=fun w a b c=>it_str w _ 0 a rfl
 have q1:∀ (w:World) (a b c:Value),(part 9 #[a,b,c] 1).run Tryz.prog w=.ok b w:=fun w a b c=>it_str w _ 1 b rfl
 have q2:∀ (w:World) (a b c:Value),(part 3 #[a,b,c] 2).run Tryz.prog w=.ok c w:=fun w a b c=>it_int w _ 2 c rfl
 simp[Program.fieldsOf,Tryz.underlying29,Op.eqFields,q0,q1,q2,ei,es]
 unfold sameIt
 by_cases h1:p.key.toList=q.key.toList <;> by_cases h2:p.val.toList=q.val.toList <;> by_cases h3:p.kind=q.kind <;> simp[h1,h2,h3]
theorem it_neq(w:World)(p q:It):(binOp .neq 29 p.v q.v).run Tryz.prog w=.ok (.bool (!sameIt p q)) w:=by
 have h:=it_eql w p q
 unfold It.v at *
 rw[run_eql_struct] at h
 rw[run_neq_struct]
 cases e:(Op.equalIn 10000 29 (.agg #[.string p.key,.string p.val,.int .i64 p.kind]) (.agg #[.string q.key,.string q.val,.int .i64 q.kind])).run Tryz.prog w with
 | ok b w'=>rw[e] at h;simp only[Result.andThen_ok] at h ⊢;cases h;rfl
 | _=>rw[e] at h;cases h
end Go.Proofs.YtjepgclnbbpnaaaGreat.P12
namespace Go.Proofs.YtjepgclnbbpnaaaGreat.P12
open PK (qqA qqB qqC qqD qqE qqF tk tkS dOne qh)
open Go Go.RowKit Go.Lib PK
open P9 (It kb ItsIn lowK hasK)
theorem kb_empty(k:ByteArray):kb k ⟨#[]⟩=false:=by
 rw[P9.kb_eq]
 cases h:k.data.toList with
 | nil=>simp[Op.bytesLess]
 | cons a l=>simp[Op.bytesLess]
theorem fromI_all{l:List It}{m:Int}(h:(l.length:Int)≤m):fromI l ⟨#[]⟩ m=l:=by
 unfold fromI
 have:lowK l ⟨#[]⟩=0:=P9.lowK_eq (fun j y h=>absurd h (Nat.not_lt_zero _)) (Nat.zero_le _) (fun y _=>kb_empty _)
 rw[this,List.drop_zero,List.take_of_length_le (by omega)]
structure Tells (w:World) (b:Nat) (root:Int) (l:List It) (key:ByteArray) (n:Nat) (x:It):Prop where
 items:∀ W,Below w.heap.size w W→∀ (k:ByteArray) (m:Int),k.size≤1000→m≤1000→Calls Tryz.prog 19 #[pgv b,.int .i64 root,.string k,.int .i64 m] W fun e w'=>∃ v,e=.returned (.tuple #[v,.int .i64 0])∧ItsIn w' v (fromI l k m)∧Below W.heap.size W w'
 depth:∀ W,Below w.heap.size w W→Calls Tryz.prog 29 #[pgv b,.int .i64 root] W fun e w'=>e=.returned (.tuple #[.int .i64 n,.int .i64 0])∧Below W.heap.size W w'
 get:∀ W,Below w.heap.size w W→Calls Tryz.prog 30 #[pgv b,.int .i64 root,.string key] W fun e w'=>e=.returned (.tuple #[x.v,.bool (hasK l key),.int .i64 0])∧Below W.heap.size W w'
 check:∀ W,Below w.heap.size w W→Calls Tryz.prog 28 #[pgv b,.int .i64 root] W fun e w'=>e=.returned (.int .i64 0)∧Below W.heap.size W w'
 root0:root=0↔l.length=0
 n0:n=0↔l.length=0
 nle:n≤bitsN l.length+1
 hit:hasK l key=true→l[lowK l key]?=some x
 no:hasK l key=false→x=⟨⟨#[]⟩,⟨#[]⟩,0⟩
theorem same_any(w:World)(b:Nat)(root:Int)(l:List It)(key:ByteArray)(most:Int)(n:Nat)(x:It)(v:Value)(h:Tells w b root l key n x)(hv:ItsIn w v l)(hw:∃ a n c,v=.slice a n c∧n≤c∧c≤9223372036854775807)(hl:l.length≤1000)(hk:key.size≤1000)(hr:P9.RightI l) :
  Calls Tryz.prog 17 #[.pointer (some ⟨b,0,none⟩),.int .i64 root,v,.string key,.int .i64 most] w fun e w'=>e=.returned (.bool true)∧Below w.heap.size w w':=by
 obtain⟨a,c,rfl⟩:=hv.slice
 have HT:=qh h
 have HI1:=qh (fun W hb=>h.items W hb ⟨#[]⟩ 1000 (show (0:Nat)≤1000 by omega) (by omega))
 rw[fromI_all (by omega)] at HI1
 have HI2:=qh (fun W hb m hm=>h.items W hb key m hk hm)
 have HF1:=qh (fun W (hb:Below w.heap.size w W)=>from_any W _ l key 1 (hv.below hb) hw (by omega) (by omega))
 have HF2:=qh (fun W (hb:Below w.heap.size w W) m (hm:m≤1000)=>from_any W _ l key m (hv.below hb) hw (by omega) (by omega))
 have HV:=qh hv
 by_cases hc:hasK l key=true
 ·have hx:=h.hit hc
  have hfx:fromI l key 1=[x]:=by
   obtain⟨hlt,e⟩:=List.getElem?_eq_some_iff.1 hx
   unfold fromI
   rw[List.drop_eq_getElem_cons hlt,e]
   rfl
  have hxk:x.key=key:=by
   obtain⟨y,hy,e⟩:=P9.lowK_hit hr (P9.hasK_iff.1 hc)
   rw[hx] at hy
   cases hy
   exact e
  rw[hfx] at HF1
  have HG:=qh h.get
  rw[hc] at HG
  simp only[It.v] at HG
  have hln:l.length≠0:=fun e=>by
   rw[List.length_eq_zero_iff.1 e] at hx
   cases hx
  have kl0:((l.length:Int) == 0)=false:=beq_false_of_ne (by omega)
  have kn0:((n:Int) == 0)=false:=beq_false_of_ne (fun e=>hln (HT.out.n0.1 (by omega)))
  have kr0:(root == 0)=false:=beq_false_of_ne (fun e=>hln (HT.out.root0.1 e))
  have HBt:=qh (fun W=>bits_any W l.length (by omega))
  obtain⟨B,hB⟩:∃ B,B=bitsN l.length:=⟨_,rfl⟩
  have hB1:n≤B+1:=by rw[hB];exact HT.out.nle
  have hB2:B≤1000000:=by rw[hB];have:=bitsN_le l.length;omega
  rw[← hB] at HBt
  have kb0:decide ((n:Int)≤(B:Int)+1)=true:=decide_eq_true (by omega)
  clear hB
  have hneq:=fun W=>it_neq W x x
  clear h hv hw hfx hx
  rw[sameIt_self] at hneq
  simp only[It.v,hxk,Bool.not_true] at hneq
  by_cases hm:1000 < most
  all_goals
   go_enter Tryz.func17,Tryz.ntmps17
   go_wp2_with (first
    | (go_at_call 19;have H:=HI1.out _ (Below.refl _ w);(with_reducible refine H.mono ?_);rintro e w1 ⟨v1,rfl,h1,b1⟩;have V1:=qh h1;have B1:=qh b1;obtain⟨a1,c1,rfl⟩:=h1.slice;clear h1 b1 H)
    | (go_at_call 19;(with_reducible refine (HI2.out _ B1.out _ ?hm).mono ?_);(case hm=>omega);rintro e w2 ⟨v2,rfl,h2,b2⟩;have V2:=qh h2;have B2:=qh (thenBelow B1.out b2);have R1:=qh b2;have R2:=qh (Below.refl w2.heap.size w2);clear h2 b2)
    | (go_at_call 29;have H:=HT.out.depth _ B2.out;(with_reducible refine H.mono ?_);rintro e w3 ⟨rfl,b3⟩;have B3:=qh (thenBelow B2.out b3);replace R1:=qh (thenBelow R1.out b3);replace R2:=qh (thenBelow R2.out b3);clear b3 H)
    | (go_at_call 30;have H:=HG.out _ B3.out;(with_reducible refine H.mono ?_);rintro e w4 ⟨rfl,b4⟩;have B4:=qh (thenBelow B3.out b4);replace R1:=qh (thenBelow R1.out b4);replace R2:=qh (thenBelow R2.out b4);clear b4 H)
    | (go_at_call 36;go_must ((with_reducible refine (HF1.out _ (thenBelow B4.out (below_new w4 _))).mono ?_);rintro e w5 ⟨v5,rfl,h5,b5⟩;have B5:=qh (thenBelow (thenBelow B4.out (below_new w4 _)) b5);replace R1:=qh (thenBelow (thenBelow R1.out (below_new w4 _)) b5);replace R2:=qh (thenBelow (thenBelow R2.out (below_new w4 _)) b5);obtain⟨a5,c5,rfl⟩:=h5.slice;obtain⟨g5,off5,rfl,hc5⟩:=h5.at_ (i:=0) (x:=x) rfl;have hf5:=(b5.block w4.heap.size (by simp)).trans (new_at w4 _ _); have f0:=cell_at hf5 0;have f1:=cell_at hf5 1;have f2:=cell_at hf5 2;simp only[qqD,qqE,qqF] at f0 f1 f2;clear hf5;obtain⟨q1,q2,q3⟩:=hc5 _ (Below.refl _ _);rw[hxk] at q1;simp only[Nat.zero_mul,Nat.add_zero] at q1 q2 q3;clear h5 b5 hc5)))
   all_goals go_region
   all_goals
    replace B5:=qh B5.out.drew
    replace R1:=qh R1.out.drew
    replace R2:=qh R2.out.drew
    go_wp2_with (first
     | (go_at_call 21;(with_reducible refine (P9.same_its _ _ _ l (V1.out.below R1.out) (HV.out.below B5.out)).mono ?_);rintro e w6 ⟨rfl,b6⟩;have B6:=qh (thenBelow B5.out b6);have R6:=qh (thenBelow R2.out b6);clear b6)
     | (go_at_call 36;(with_reducible refine (HF2.out _ B6.out _ ?hm).mono ?_);(case hm=>omega);rintro e w7 ⟨v7,rfl,h7,b7⟩;have V7:=qh h7;have B7:=qh (thenBelow B6.out b7);have R7:=qh (thenBelow R6.out b7);clear h7 b7)
     | (go_at_call 21;(with_reducible refine (P9.same_its _ _ _ _ (V2.out.below R7.out) V7.out).mono ?_);rintro e w8 ⟨rfl,b8⟩;have B8:=qh (thenBelow B7.out b8);clear b8)
     | (go_at_call 28;(with_reducible refine (HT.out.check _ B8.out).mono ?_);rintro e w9 ⟨rfl,b9⟩;have B9:=qh (thenBelow B8.out b9);clear b9)
     | (go_at_call 37;(with_reducible refine (HBt.out _).mono ?_);rintro e w10 ⟨rfl,rfl⟩))
    go_ret
    exact⟨rfl,B9.out⟩
 ·have hc':hasK l key=false:=by simpa using hc
  have HG:=qh h.get
  rw[hc',h.no hc'] at HG
  simp only[It.v] at HG
  have HBt:=qh (fun W=>bits_any W l.length (by omega))
  obtain⟨B,hB⟩:∃ B,B=bitsN l.length:=⟨_,rfl⟩
  have hB1:n≤B+1:=by rw[hB];exact HT.out.nle
  have hB2:B≤1000000:=by rw[hB];have:=bitsN_le l.length;omega
  rw[← hB] at HBt
  have kb0:decide ((n:Int)≤(B:Int)+1)=true:=decide_eq_true (by omega)
  clear hB
  have hneq:=fun W=>it_neq W (⟨⟨#[]⟩,⟨#[]⟩,0⟩:It) ⟨⟨#[]⟩,⟨#[]⟩,0⟩
  rw[sameIt_self] at hneq
  simp only[It.v,Bool.not_true] at hneq
  obtain⟨e0,kl0,kn0,kr0⟩:∃ e0:Bool,((l.length:Int) == 0)=e0∧((n:Int) == 0)=e0∧(root == 0)=e0:=by
   by_cases e:l.length=0
   ·exact⟨true,by simp[e],by simp[HT.out.n0.2 e],by simp[HT.out.root0.2 e]⟩
   ·exact⟨false,beq_false_of_ne (by omega),beq_false_of_ne (fun q=>e (HT.out.n0.1 (by omega))),beq_false_of_ne (fun q=>e (HT.out.root0.1 q))⟩
  by_cases hlt:lowK l key < l.length
  ·obtain⟨y,hy⟩:∃ y,l[lowK l key]?=some y:=⟨_,List.getElem?_eq_getElem hlt⟩
   have hfy:fromI l key 1=[y]:=by
    obtain⟨hlt,e⟩:=List.getElem?_eq_some_iff.1 hy
    unfold fromI
    rw[List.drop_eq_getElem_cons hlt,e]
    rfl
   have hyk:y.key≠key:=fun e=>P9.hasK_not.1 hc' (P9.mem_of_low hy e)
   have ky:(y.key.toList == key.toList)=false:=beq_false_of_ne (fun e=>hyk (by
    have:=P9.ba_ext (a:=y.key) (b:=key) (by rw[← ByteArray.toList_eq,← ByteArray.toList_eq];exact e)
    exact this))
   rw[hfy] at HF1
   clear h hv hw hfy hy
   cases e0
   all_goals
    by_cases hm:1000 < most
    all_goals
     go_enter Tryz.func17,Tryz.ntmps17
     go_wp2_with (first
      | (go_at_call 19;have H:=HI1.out _ (Below.refl _ w);(with_reducible refine H.mono ?_);rintro e w1 ⟨v1,rfl,h1,b1⟩;have V1:=qh h1;have B1:=qh b1;obtain⟨a1,c1,rfl⟩:=h1.slice;clear h1 b1 H)
      | (go_at_call 19;(with_reducible refine (HI2.out _ B1.out _ ?hm).mono ?_);(case hm=>omega);rintro e w2 ⟨v2,rfl,h2,b2⟩;have V2:=qh h2;have B2:=qh (thenBelow B1.out b2);have R1:=qh b2;have R2:=qh (Below.refl w2.heap.size w2);clear h2 b2)
      | (go_at_call 29;have H:=HT.out.depth _ B2.out;(with_reducible refine H.mono ?_);rintro e w3 ⟨rfl,b3⟩;have B3:=qh (thenBelow B2.out b3);replace R1:=qh (thenBelow R1.out b3);replace R2:=qh (thenBelow R2.out b3);clear b3 H)
      | (go_at_call 30;have H:=HG.out _ B3.out;(with_reducible refine H.mono ?_);rintro e w4 ⟨rfl,b4⟩;have B4:=qh (thenBelow B3.out b4);replace R1:=qh (thenBelow R1.out b4);replace R2:=qh (thenBelow R2.out b4);clear b4 H)
      | (go_at_call 36;go_must ((with_reducible refine (HF1.out _ (thenBelow B4.out (below_new w4 _))).mono ?_);rintro e w5 ⟨v5,rfl,h5,b5⟩;have B5:=qh (thenBelow (thenBelow B4.out (below_new w4 _)) b5);replace R1:=qh (thenBelow (thenBelow R1.out (below_new w4 _)) b5);replace R2:=qh (thenBelow (thenBelow R2.out (below_new w4 _)) b5);obtain⟨a5,c5,rfl⟩:=h5.slice;obtain⟨g5,off5,rfl,hc5⟩:=h5.at_ (i:=0) (x:=y) rfl;have hf5:=(b5.block w4.heap.size (by simp)).trans (new_at w4 _ _); have f0:=cell_at hf5 0;have f1:=cell_at hf5 1;have f2:=cell_at hf5 2;simp only[qqD,qqE,qqF] at f0 f1 f2;clear hf5;obtain⟨q1,q2,q3⟩:=hc5 _ (Below.refl _ _);simp only[Nat.zero_mul,Nat.add_zero] at q1 q2 q3;clear h5 b5 hc5)))
     all_goals go_region
     all_goals
      replace B5:=qh B5.out.drew
      replace R1:=qh R1.out.drew
      replace R2:=qh R2.out.drew
      go_wp2_with (first
       | (go_at_call 21;(with_reducible refine (P9.same_its _ _ _ l (V1.out.below R1.out) (HV.out.below B5.out)).mono ?_);rintro e w6 ⟨rfl,b6⟩;have B6:=qh (thenBelow B5.out b6);have R6:=qh (thenBelow R2.out b6);clear b6)
       | (go_at_call 36;(with_reducible refine (HF2.out _ B6.out _ ?hm).mono ?_);(case hm=>omega);rintro e w7 ⟨v7,rfl,h7,b7⟩;have V7:=qh h7;have B7:=qh (thenBelow B6.out b7);have R7:=qh (thenBelow R6.out b7);clear h7 b7)
       | (go_at_call 21;(with_reducible refine (P9.same_its _ _ _ _ (V2.out.below R7.out) V7.out).mono ?_);rintro e w8 ⟨rfl,b8⟩;have B8:=qh (thenBelow B7.out b8);clear b8)
       | (go_at_call 28;(with_reducible refine (HT.out.check _ B8.out).mono ?_);rintro e w9 ⟨rfl,b9⟩;have B9:=qh (thenBelow B8.out b9);clear b9)
       | (go_at_call 37;(with_reducible refine (HBt.out _).mono ?_);rintro e w10 ⟨rfl,rfl⟩))
      go_ret
      exact⟨rfl,B9.out⟩
  ·have hf0:fromI l key 1=[]:=by
    unfold fromI
    rw[List.drop_eq_nil_of_le (by omega)]
    rfl
   rw[hf0] at HF1
   clear h hv hw hf0
   cases e0
   all_goals
    by_cases hm:1000 < most
    all_goals
     go_enter Tryz.func17,Tryz.ntmps17
     go_wp2_with (first
      | (go_at_call 19;have H:=HI1.out _ (Below.refl _ w);(with_reducible refine H.mono ?_);rintro e w1 ⟨v1,rfl,h1,b1⟩;have V1:=qh h1;have B1:=qh b1;obtain⟨a1,c1,rfl⟩:=h1.slice;clear h1 b1 H)
      | (go_at_call 19;(with_reducible refine (HI2.out _ B1.out _ ?hm).mono ?_);(case hm=>omega);rintro e w2 ⟨v2,rfl,h2,b2⟩;have V2:=qh h2;have B2:=qh (thenBelow B1.out b2);have R1:=qh b2;have R2:=qh (Below.refl w2.heap.size w2);clear h2 b2)
      | (go_at_call 29;have H:=HT.out.depth _ B2.out;(with_reducible refine H.mono ?_);rintro e w3 ⟨rfl,b3⟩;have B3:=qh (thenBelow B2.out b3);replace R1:=qh (thenBelow R1.out b3);replace R2:=qh (thenBelow R2.out b3);clear b3 H)
      | (go_at_call 30;have H:=HG.out _ B3.out;(with_reducible refine H.mono ?_);rintro e w4 ⟨rfl,b4⟩;have B4:=qh (thenBelow B3.out b4);replace R1:=qh (thenBelow R1.out b4);replace R2:=qh (thenBelow R2.out b4);clear b4 H)
      | (go_at_call 36;go_must ((with_reducible refine (HF1.out _ (thenBelow B4.out (below_new w4 _))).mono ?_);rintro e w5 ⟨v5,rfl,h5,b5⟩;have B5:=qh (thenBelow (thenBelow B4.out (below_new w4 _)) b5);replace R1:=qh (thenBelow (thenBelow R1.out (below_new w4 _)) b5);replace R2:=qh (thenBelow (thenBelow R2.out (below_new w4 _)) b5);obtain⟨a5,c5,rfl⟩:=h5.slice;have hf5:=(b5.block w4.heap.size (by simp)).trans (new_at w4 _ _); have f0:=cell_at hf5 0;have f1:=cell_at hf5 1;have f2:=cell_at hf5 2;simp only[qqD,qqE,qqF] at f0 f1 f2;clear hf5;clear h5 b5)))
     all_goals go_region
     all_goals
      replace B5:=qh B5.out.drew
      replace R1:=qh R1.out.drew
      replace R2:=qh R2.out.drew
      go_wp2_with (first
       | (go_at_call 21;(with_reducible refine (P9.same_its _ _ _ l (V1.out.below R1.out) (HV.out.below B5.out)).mono ?_);rintro e w6 ⟨rfl,b6⟩;have B6:=qh (thenBelow B5.out b6);have R6:=qh (thenBelow R2.out b6);clear b6)
       | (go_at_call 36;(with_reducible refine (HF2.out _ B6.out _ ?hm).mono ?_);(case hm=>omega);rintro e w7 ⟨v7,rfl,h7,b7⟩;have V7:=qh h7;have B7:=qh (thenBelow B6.out b7);have R7:=qh (thenBelow R6.out b7);clear h7 b7)
       | (go_at_call 21;(with_reducible refine (P9.same_its _ _ _ _ (V2.out.below R7.out) V7.out).mono ?_);rintro e w8 ⟨rfl,b8⟩;have B8:=qh (thenBelow B7.out b8);clear b8)
       | (go_at_call 28;(with_reducible refine (HT.out.check _ B8.out).mono ?_);rintro e w9 ⟨rfl,b9⟩;have B9:=qh (thenBelow B8.out b9);clear b9)
       | (go_at_call 37;(with_reducible refine (HBt.out _).mono ?_);rintro e w10 ⟨rfl,rfl⟩))
      go_ret
      exact⟨rfl,B9.out⟩
end Go.Proofs.YtjepgclnbbpnaaaGreat.P12
