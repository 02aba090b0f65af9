/-
  Texts of the proofs of SaidPlays12.
-/
import Derived.Test.YtjepgclnbbpnaaaGreatMr39
set_option linter.unusedVariables false
set_option linter.unusedSimpArgs false
set_option maxHeartbeats 8000000
set_option maxRecDepth 100000
namespace Go.Proofs.YtjepgclnbbpnaaaGreat.P12
open Go Go.RowKit Go.Lib PK
open P9 (It)
def sameIt(p q:It):Bool:=(p.key.toList == q.key.toList) && (p.val.toList == q.val.toList) && (p.kind == q.kind)
theorem sameIt_self(p:It):sameIt p p=true:=by
 unfold sameIt
 rw[beq_self_eq_true,beq_self_eq_true,beq_self_eq_true]
 rfl
theorem it_stood:Tryz.prog.stoodInHeld 29=false:=by kernel_rfl
theorem it_desc:Tryz.prog.underlying 29=some (.struct (Tryz.prog.fieldsOf 29)):=by
 unfold Program.fieldsOf
 rw[Tryz.underlying29]
theorem it_int(w:World)(cs:Array Value)(j:Nat)(v:Value)(h:cs[j]?=some v):(part 3 cs j).run Tryz.prog w=.ok v w:=by
 simp[part,Sem.run_bind,Tryz.isAgg3,h]
theorem it_str(w:World)(cs:Array Value)(j:Nat)(v:Value)(h:cs[j]?=some v):(part 9 cs j).run Tryz.prog w=.ok v w:=by
 simp[part,Sem.run_bind,Tryz.isAgg9,h]
theorem it_eql(w:World)(p q:It):(binOp .eql 29 p.v q.v).run Tryz.prog w=.ok (.bool (sameIt p q)) w:=by
 unfold It.v
 rw[run_eql_struct,run_equalIn_agg w 9999 _ _ _ it_desc it_stood]
 have ei:∀ (w:World) (a b:Int),(Op.equalIn 9999 3 (.int .i64 a) (.int .i64 b)).run Tryz.prog w=.ok (a == b) w:=fun w a b=>run_equalIn_int w 9998 _ _ _ a b Tryz.underlying3
 have es:∀ (w:World) (a b:ByteArray),(Op.equalIn 9999 9 (.string a) (.string b)).run Tryz.prog w=.ok (a.toList == b.toList) w:=fun w a b=>run_equalIn_string w 9998 _ a b Tryz.underlying9
 have q0:∀ (w:World) (a b c:Value),(part 9 #[a,b,c] 0).run Tryz.prog w=.ok a w:=fun w a b c=>it_str w _ 0 a rfl
 have q1:∀ (w:World) (a b c:Value),(part 9 #[a,b,c] 1).run Tryz.prog w=.ok b w:=fun w a b c=>it_str w _ 1 b rfl
 have q2:∀ (w:World) (a b c:Value),(part 3 #[a,b,c] 2).run Tryz.prog w=.ok c w:=fun w a b c=>it_int w _ 2 c rfl
 simp[Program.fieldsOf,Tryz.underlying29,Op.eqFields,q0,q1,q2,ei,es]
 unfold sameIt
 by_cases h1:p.key.toList=q.key.toList <;> by_cases h2:p.val.toList=q.val.toList <;> by_cases h3:p.kind=q.kind <;> simp[h1,h2,h3]
theorem it_neq(w:World)(p q:It):(binOp .neq 29 p.v q.v).run Tryz.prog w=.ok (.bool (!sameIt p q)) w:=by
 have h:=it_eql w p q
 unfold It.v at *
 rw[run_eql_struct] at h
 rw[run_neq_struct]
 cases e:(Op.equalIn 10000 29 (.agg #[.string p.key,.string p.val,.int .i64 p.kind]) (.agg #[.string q.key,.string q.val,.int .i64 q.kind])).run Tryz.prog w with
 | ok b w'=>rw[e] at h;simp only[Result.andThen_ok] at h ⊢;cases h;rfl
 | _=>rw[e] at h;cases h
end Go.Proofs.YtjepgclnbbpnaaaGreat.P12
namespace Go.Proofs.YtjepgclnbbpnaaaGreat.P12
open PK (qqA qqB qqC qqD qqE qqF tk tkS dOne qh)
open Go Go.RowKit Go.Lib PK
open P9 (It kb ItsIn lowK hasK)
theorem kb_empty(k:ByteArray):kb k ⟨#[]⟩=false:=by
 rw[P9.kb_eq]
 cases h:k.data.toList with
 | nil=>simp[Op.bytesLess]
 | cons a l=>simp[Op.bytesLess]
theorem fromI_all{l:List It}{m:Int}(h:(l.length:Int)≤m):fromI l ⟨#[]⟩ m=l:=by
 unfold fromI
 have:lowK l ⟨#[]⟩=0:=P9.lowK_eq (fun j y h=>absurd h (Nat.not_lt_zero _)) (Nat.zero_le _) (fun y _=>kb_empty _)
 rw[this,List.drop_zero,List.take_of_length_le (by omega)]
structure Tells (w:World) (b:Nat) (root:Int) (l:List It) (key:ByteArray) (n:Nat) (x:It):Prop where
 items:∀ W,Below w.heap.size w W→∀ (k:ByteArray) (m:Int),k.size≤1000→m≤1000→Calls Tryz.prog 19 #[pgv b,.int .i64 root,.string k,.int .i64 m] W fun e w'=>∃ v,e=.returned (.tuple #[v,.int .i64 0])∧ItsIn w' v (fromI l k m)∧Below W.heap.size W w'
 depth:∀ W,Below w.heap.size w W→Calls Tryz.prog 29 #[pgv b,.int .i64 root] W fun e w'=>e=.returned (.tuple #[.int .i64 n,.int .i64 0])∧Below W.heap.size W w'
 get:∀ W,Below w.heap.size w W→Calls Tryz.prog 30 #[pgv b,.int .i64 root,.string key] W fun e w'=>e=.returned (.tuple #[x.v,.bool (hasK l key),.int .i64 0])∧Below W.heap.size W w'
 check:∀ W,Below w.heap.size w W→Calls Tryz.prog 28 #[pgv b,.int .i64 root] W fun e w'=>e=.returned (.int .i64 0)∧Below W.heap.size W w'
 root0:root=0↔l.length=0
 n0:n=0↔l.length=0
 nle:n≤bitsN l.length+1
 hit:hasK l key=true→l[lowK l key]?=some x
 no:hasK l key=false→x=⟨⟨#[]⟩,⟨#[]⟩,0⟩
theorem same_any(w:World)(b:Nat)(root:Int)(l:List It)(key:ByteArray)(most:Int)(n:Nat)(x:It)(v:Value)(h:Tells w b root l key n x)(hv:ItsIn w v l)(hw:∃ a n c,v=.slice a n c∧n≤c∧c≤9223372036854775807)(hl:l.length≤1000)(hk:key.size≤1000)(hr:P9.RightI l) :
  Calls Tryz.prog 17 #[.pointer (some ⟨b,0,none⟩),.int .i64 root,v,.string key,.int .i64 most] w fun e w'=>e=.returned (.bool true)∧Below w.heap.size w w':=by
 obtain⟨a,c,rfl⟩:=hv.slice
 have HT:=qh h
 have HI1:=qh (fun W hb=>h.items W hb ⟨#[]⟩ 1000 (show (0:Nat)≤1000 by omega) (by omega))
 rw[fromI_all (by omega)] at HI1
 have HI2:=qh (fun W hb m hm=>h.items W hb key m hk hm)
 have HF1:=qh (fun W (hb:Below w.heap.size w W)=>from_any W _ l key 1 (hv.below hb) hw (by omega) (by omega))
 have HF2:=qh (fun W (hb:Below w.heap.size w W) m (hm:m≤1000)=>from_any W _ l key m (hv.below hb) hw (by omega) (by omega))
 have HV:=qh hv
 by_cases hc:hasK l key=true
 ·have hx:=h.hit hc
  have hfx:fromI l key 1=[x]:=by
   obtain⟨hlt,e⟩:=List.getElem?_eq_some_iff.1 hx
   unfold fromI
   rw[List.drop_eq_getElem_cons hlt,e]
   rfl
  have hxk:x.key=key:=by
   obtain⟨y,hy,e⟩:=P9.lowK_hit hr (P9.hasK_iff.1 hc)
   rw[hx] at hy
   cases hy
   exact e
  rw[hfx] at HF1
  have HG:=qh h.get
  rw[hc] at HG
  simp only[It.v] at HG
  have hln:l.length≠0:=fun e=>by
   rw[List.length_eq_zero_iff.1 e] at hx
   cases hx
  have kl0:((l.length:Int) == 0)=false:=beq_false_of_ne (by omega)
  have kn0:((n:Int) == 0)=false:=beq_false_of_ne (fun e=>hln (HT.out.n0.1 (by omega)))
  have kr0:(root == 0)=false:=beq_false_of_ne (fun e=>hln (HT.out.root0.1 e))
  have HBt:=qh (fun W=>bits_any W l.length (by omega))
  obtain⟨B,hB⟩:∃ B,B=bitsN l.length:=⟨_,rfl⟩
  have hB1:n≤B+1:=by rw[hB];exact HT.out.nle
  have hB2:B≤1000000:=by rw[hB];have:=bitsN_le l.length;omega
  rw[← hB] at HBt
  have kb0:decide ((n:Int)≤(B:Int)+1)=true:=decide_eq_true (by omega)
  clear hB
  have hneq:=fun W=>it_neq W x x
  clear h hv hw hfx hx
  rw[sameIt_self] at hneq
  simp only[It.v,hxk,Bool.not_true] at hneq
  by_cases hm:1000 < most
  all_goals
   go_enter Tryz.func17,Tryz.ntmps17
   go_wp2_with (first
    | (go_at_call 19;have H:=HI1.out _ (Below.refl _ w);(with_reducible refine H.mono ?_);rintro e w1 ⟨v1,rfl,h1,b1⟩;have V1:=qh h1;have B1:=qh b1;obtain⟨a1,c1,rfl⟩:=h1.slice;clear h1 b1 H)
    | (go_at_call 19;(with_reducible refine (HI2.out _ B1.out _ ?hm).mono ?_);(case hm=>omega);rintro e w2 ⟨v2,rfl,h2,b2⟩;have V2:=qh h2;have B2:=qh (thenBelow B1.out b2);have R1:=qh b2;have R2:=qh (Below.refl w2.heap.size w2);clear h2 b2)
    | (go_at_call 29;have H:=HT.out.depth _ B2.out;(with_reducible refine H.mono ?_);rintro e w3 ⟨rfl,b3⟩;have B3:=qh (thenBelow B2.out b3);replace R1:=qh (thenBelow R1.out b3);replace R2:=qh (thenBelow R2.out b3);clear b3 H)
    | (go_at_call 30;have H:=HG.out _ B3.out;(with_reducible refine H.mono ?_);rintro e w4 ⟨rfl,b4⟩;have B4:=qh (thenBelow B3.out b4);replace R1:=qh (thenBelow R1.out b4);replace R2:=qh (thenBelow R2.out b4);clear b4 H)
    | (go_at_call 36;go_must ((with_reducible refine (HF1.out _ (thenBelow B4.out (below_new w4 _))).mono ?_);rintro e w5 ⟨v5,rfl,h5,b5⟩;have B5:=qh (thenBelow (thenBelow B4.out (below_new w4 _)) b5);replace R1:=qh (thenBelow (thenBelow R1.out (below_new w4 _)) b5);replace R2:=qh (thenBelow (thenBelow R2.out (below_new w4 _)) b5);obtain⟨a5,c5,rfl⟩:=h5.slice;obtain⟨g5,off5,rfl,hc5⟩:=h5.at_ (i:=0) (x:=x) rfl;have hf5:=(b5.block w4.heap.size (by simp)).trans (new_at w4 _ _); have f0:=cell_at hf5 0;have f1:=cell_at hf5 1;have f2:=cell_at hf5 2;simp only[qqD,qqE,qqF] at f0 f1 f2;clear hf5;obtain⟨q1,q2,q3⟩:=hc5 _ (Below.refl _ _);rw[hxk] at q1;simp only[Nat.zero_mul,Nat.add_zero] at q1 q2 q3;clear h5 b5 hc5)))
   all_goals go_region
   all_goals
    replace B5:=qh B5.out.drew
    replace R1:=qh R1.out.drew
    replace R2:=qh R2.out.drew
    go_wp2_with (first
     | (go_at_call 21;(with_reducible refine (P9.same_its _ _ _ l (V1.out.below R1.out) (HV.out.below B5.out)).mono ?_);rintro e w6 ⟨rfl,b6⟩;have B6:=qh (thenBelow B5.out b6);have R6:=qh (thenBelow R2.out b6);clear b6)
     | (go_at_call 36;(with_reducible refine (HF2.out _ B6.out _ ?hm).mono ?_);(case hm=>omega);rintro e w7 ⟨v7,rfl,h7,b7⟩;have V7:=qh h7;have B7:=qh (thenBelow B6.out b7);have R7:=qh (thenBelow R6.out b7);clear h7 b7)
     | (go_at_call 21;(with_reducible refine (P9.same_its _ _ _ _ (V2.out.below R7.out) V7.out).mono ?_);rintro e w8 ⟨rfl,b8⟩;have B8:=qh (thenBelow B7.out b8);clear b8)
     | (go_at_call 28;(with_reducible refine (HT.out.check _ B8.out).mono ?_);rintro e w9 ⟨rfl,b9⟩;have B9:=qh (thenBelow B8.out b9);clear b9)
     | (go_at_call 37;(with_reducible refine (HBt.out _).mono ?_);rintro e w10 ⟨rfl,rfl⟩))
    go_ret
    exact⟨rfl,B9.out⟩
 ·have hc':hasK l key=false:=by simpa using hc
  have HG:=qh h.get
  rw[hc',h.no hc'] at HG
  simp only[It.v] at HG
  have HBt:=qh (fun W=>bits_any W l.length (by omega))
  obtain⟨B,hB⟩:∃ B,B=bitsN l.length:=⟨_,rfl⟩
  have hB1:n≤B+1:=by rw[hB];exact HT.out.nle
  have hB2:B≤1000000:=by rw[hB];have:=bitsN_le l.length;omega
  rw[← hB] at HBt
  have kb0:decide ((n:Int)≤(B:Int)+1)=true:=decide_eq_true (by omega)
  clear hB
  have hneq:=fun W=>it_neq W (⟨⟨#[]⟩,⟨#[]⟩,0⟩:It) ⟨⟨#[]⟩,⟨#[]⟩,0⟩
  rw[sameIt_self] at hneq
  simp only[It.v,Bool.not_true] at hneq
  obtain⟨e0,kl0,kn0,kr0⟩:∃ e0:Bool,((l.length:Int) == 0)=e0∧((n:Int) == 0)=e0∧(root == 0)=e0:=by
   by_cases e:l.length=0
   ·exact⟨true,by simp[e],by simp[HT.out.n0.2 e],by simp[HT.out.root0.2 e]⟩
   ·exact⟨false,beq_false_of_ne (by omega),beq_false_of_ne (fun q=>e (HT.out.n0.1 (by omega))),beq_false_of_ne (fun q=>e (HT.out.root0.1 q))⟩
  by_cases hlt:lowK l key < l.length
  ·obtain⟨y,hy⟩:∃ y,l[lowK l key]?=some y:=⟨_,List.getElem?_eq_getElem hlt⟩
   have hfy:fromI l key 1=[y]:=by
    obtain⟨hlt,e⟩:=List.getElem?_eq_some_iff.1 hy
    unfold fromI
    rw[List.drop_eq_getElem_cons hlt,e]
    rfl
   have hyk:y.key≠key:=fun e=>P9.hasK_not.1 hc' (P9.mem_of_low hy e)
   have ky:(y.key.toList == key.toList)=false:=beq_false_of_ne (fun e=>hyk (by
    have:=P9.ba_ext (a:=y.key) (b:=key) (by rw[← ByteArray.toList_eq,← ByteArray.toList_eq];exact e)
    exact this))
   rw[hfy] at HF1
   clear h hv hw hfy hy
   cases e0
   all_goals
    by_cases hm:1000 < most
    all_goals
     go_enter Tryz.func17,Tryz.ntmps17
     go_wp2_with (first
      | (go_at_call 19;have H:=HI1.out _ (Below.refl _ w);(with_reducible refine H.mono ?_);rintro e w1 ⟨v1,rfl,h1,b1⟩;have V1:=qh h1;have B1:=qh b1;obtain⟨a1,c1,rfl⟩:=h1.slice;clear h1 b1 H)
      | (go_at_call 19;(with_reducible refine (HI2.out _ B1.out _ ?hm).mono ?_);(case hm=>omega);rintro e w2 ⟨v2,rfl,h2,b2⟩;have V2:=qh h2;have B2:=qh (thenBelow B1.out b2);have R1:=qh b2;have R2:=qh (Below.refl w2.heap.size w2);clear h2 b2)
      | (go_at_call 29;have H:=HT.out.depth _ B2.out;(with_reducible refine H.mono ?_);rintro e w3 ⟨rfl,b3⟩;have B3:=qh (thenBelow B2.out b3);replace R1:=qh (thenBelow R1.out b3);replace R2:=qh (thenBelow R2.out b3);clear b3 H)
      | (go_at_call 30;have H:=HG.out _ B3.out;(with_reducible refine H.mono ?_);rintro e w4 ⟨rfl,b4⟩;have B4:=qh (thenBelow B3.out b4);replace R1:=qh (thenBelow R1.out b4);replace R2:=qh (thenBelow R2.out b4);clear b4 H)
      | (go_at_call 36;go_must ((with_reducible refine (HF1.out _ (thenBelow B4.out (below_new w4 _))).mono ?_);rintro e w5 ⟨v5,rfl,h5,b5⟩;have B5:=qh (thenBelow (thenBelow B4.out (below_new w4 _)) b5);replace R1:=qh (thenBelow (thenBelow R1.out (below_new w4 _)) b5);replace R2:=qh (thenBelow (thenBelow R2.out (below_new w4 _)) b5);obtain⟨a5,c5,rfl⟩:=h5.slice;obtain⟨g5,off5,rfl,hc5⟩:=h5.at_ (i:=0) (x:=y) rfl;have hf5:=(b5.block w4.heap.size (by simp)).trans (new_at w4 _ _); have f0:=cell_at hf5 0;have f1:=cell_at hf5 1;have f2:=cell_at hf5 2;simp only[qqD,qqE,qqF] at f0 f1 f2;clear hf5;obtain⟨q1,q2,q3⟩:=hc5 _ (Below.refl _ _);simp only[Nat.zero_mul,Nat.add_zero] at q1 q2 q3;clear h5 b5 hc5)))
     all_goals go_region
     all_goals
      replace B5:=qh B5.out.drew
      replace R1:=qh R1.out.drew
      replace R2:=qh R2.out.drew
      go_wp2_with (first
       | (go_at_call 21;(with_reducible refine (P9.same_its _ _ _ l (V1.out.below R1.out) (HV.out.below B5.out)).mono ?_);rintro e w6 ⟨rfl,b6⟩;have B6:=qh (thenBelow B5.out b6);have R6:=qh (thenBelow R2.out b6);clear b6)
       | (go_at_call 36;(with_reducible refine (HF2.out _ B6.out _ ?hm).mono ?_);(case hm=>omega);rintro e w7 ⟨v7,rfl,h7,b7⟩;have V7:=qh h7;have B7:=qh (thenBelow B6.out b7);have R7:=qh (thenBelow R6.out b7);clear h7 b7)
       | (go_at_call 21;(with_reducible refine (P9.same_its _ _ _ _ (V2.out.below R7.out) V7.out).mono ?_);rintro e w8 ⟨rfl,b8⟩;have B8:=qh (thenBelow B7.out b8);clear b8)
       | (go_at_call 28;(with_reducible refine (HT.out.check _ B8.out).mono ?_);rintro e w9 ⟨rfl,b9⟩;have B9:=qh (thenBelow B8.out b9);clear b9)
       | (go_at_call 37;(with_reducible refine (HBt.out _).mono ?_);rintro e w10 ⟨rfl,rfl⟩))
      go_ret
      exact⟨rfl,B9.out⟩
  ·have hf0:fromI l key 1=[]:=by
    unfold fromI
    rw[List.drop_eq_nil_of_le (by omega)]
    rfl
   rw[hf0] at HF1
   clear h hv hw hf0
   cases e0
   all_goals
    by_cases hm:1000 < most
    all_goals
     go_enter Tryz.func17,Tryz.ntmps17
     go_wp2_with (first
      | (go_at_call 19;have H:=HI1.out _ (Below.refl _ w);(with_reducible refine H.mono ?_);rintro e w1 ⟨v1,rfl,h1,b1⟩;have V1:=qh h1;have B1:=qh b1;obtain⟨a1,c1,rfl⟩:=h1.slice;clear h1 b1 H)
      | (go_at_call 19;(with_reducible refine (HI2.out _ B1.out _ ?hm).mono ?_);(case hm=>omega);rintro e w2 ⟨v2,rfl,h2,b2⟩;have V2:=qh h2;have B2:=qh (thenBelow B1.out b2);have R1:=qh b2;have R2:=qh (Below.refl w2.heap.size w2);clear h2 b2)
      | (go_at_call 29;have H:=HT.out.depth _ B2.out;(with_reducible refine H.mono ?_);rintro e w3 ⟨rfl,b3⟩;have B3:=qh (thenBelow B2.out b3);replace R1:=qh (thenBelow R1.out b3);replace R2:=qh (thenBelow R2.out b3);clear b3 H)
      | (go_at_call 30;have H:=HG.out _ B3.out;(with_reducible refine H.mono ?_);rintro e w4 ⟨rfl,b4⟩;have B4:=qh (thenBelow B3.out b4);replace R1:=qh (thenBelow R1.out b4);replace R2:=qh (thenBelow R2.out b4);clear b4 H)
      | (go_at_call 36;go_must ((with_reducible refine (HF1.out _ (thenBelow B4.out (below_new w4 _))).mono ?_);rintro e w5 ⟨v5,rfl,h5,b5⟩;have B5:=qh (thenBelow (thenBelow B4.out (below_new w4 _)) b5);replace R1:=qh (thenBelow (thenBelow R1.out (below_new w4 _)) b5);replace R2:=qh (thenBelow (thenBelow R2.out (below_new w4 _)) b5);obtain⟨a5,c5,rfl⟩:=h5.slice;have hf5:=(b5.block w4.heap.size (by simp)).trans (new_at w4 _ _); have f0:=cell_at hf5 0;have f1:=cell_at hf5 1;have f2:=cell_at hf5 2;simp only[qqD,qqE,qqF] at f0 f1 f2;clear hf5;clear h5 b5)))
     all_goals go_region
     all_goals
      replace B5:=qh B5.out.drew
      replace R1:=qh R1.out.drew
      replace R2:=qh R2.out.drew
      go_wp2_with (first
       | (go_at_call 21;(with_reducible refine (P9.same_its _ _ _ l (V1.out.below R1.out) (HV.out.below B5.out)).mono ?_);rintro e w6 ⟨rfl,b6⟩;have B6:=qh (thenBelow B5.out b6);have R6:=qh (thenBelow R2.out b6);clear b6)
       | (go_at_call 36;(with_reducible refine (HF2.out _ B6.out _ ?hm).mono ?_);(case hm=>omega);rintro e w7 ⟨v7,rfl,h7,b7⟩;have V7:=qh h7;have B7:=qh (thenBelow B6.out b7);have R7:=qh (thenBelow R6.out b7);clear h7 b7)
       | (go_at_call 21;(with_reducible refine (P9.same_its _ _ _ _ (V2.out.below R7.out) V7.out).mono ?_);rintro e w8 ⟨rfl,b8⟩;have B8:=qh (thenBelow B7.out b8);clear b8)
       | (go_at_call 28;(with_reducible refine (HT.out.check _ B8.out).mono ?_);rintro e w9 ⟨rfl,b9⟩;have B9:=qh (thenBelow B8.out b9);clear b9)
       | (go_at_call 37;(with_reducible refine (HBt.out _).mono ?_);rintro e w10 ⟨rfl,rfl⟩))
      go_ret
      exact⟨rfl,B9.out⟩
end Go.Proofs.YtjepgclnbbpnaaaGreat.P12
namespace Go.Proofs.YtjepgclnbbpnaaaGreat.P12
open PK (qqA qqB qqC qqD qqE qqF tk tkS dOne qh)
open Go Go.RowKit Go.Lib PK Go.Maps Go.Shelf Go.Sort
open P11 (Pg)
open P9 (It kb kb_trans RightI lowK OwnI cellsI)
theorem items_cl(W:World)(n1 n2 na nb n3 n4:Nat)(b:Nat)(vl vg:Value)(M:PM)(h:PAt W b vl vg M)(hsz:M.L.length≤100000)(D:Nat)(root:Int)(L:List It)(ids:List Int)(ht:Tree M D root L ids)(hD:D≤12)(hn:ids.Nodup)(hid:ids.length≤80000)(hLl:L.length≤100000)(key:ByteArray)(most:Int)(hmost:most≤9223372036854775807)
  (h1:W.heap[n1]?=some (.cells #[pgv b] 66 (0,0))) (h2:W.heap[n2]?=some (.cells #[.int .i64 root] 3 (0,0))) (ha:W.heap[na]?=some (.cells #[.string key] 9 (0,0))) (hb:W.heap[nb]?=some (.cells #[.int .i64 most] 3 (0,0))) (h3:W.heap[n3]?=some (.cells #[.slice none 0 0] 27 (0,0))) (h4:W.heap[n4]?=some (.cells #[.int .i64 0] 32 (0,0))) :
  Calls Tryz.prog 38 #[.pointer (some ⟨n1,0,none⟩),.pointer (some ⟨n2,0,none⟩),.pointer (some ⟨na,0,none⟩),.pointer (some ⟨nb,0,none⟩),.pointer (some ⟨n3,0,none⟩),.pointer (some ⟨n4,0,none⟩)] W fun e w'=>e=.returned (.int .i64 0)∧∃ v w2,Below W.heap.size W w2∧OwnI W.heap.size w2 v ((L.drop (lowK L key)).take most.toNat)∧w'=(w2.setCell ⟨n3,0,none⟩ v).setCell ⟨n4,0,none⟩ (.int .i64 0):=by
 obtain⟨A,hA⟩:∃ A,A=(L.drop (lowK L key)).take most.toNat:=⟨_,rfl⟩
 rw[← hA]
 have hne:n4≠n3:=fun e=>by
  rw[e,h3] at h4
  cases h4
 have HI:=qh (tiItems_any W b vl vg M h hsz D root L ids ht hD hn hid hLl key most hmost)
 rw[← hA] at HI
 clear hA
 unfold pgv at HI h1
 have o1:=cell_at h1 0
 have o2:=cell_at h2 0
 have oa:=cell_at ha 0
 have ob:=cell_at hb 0
 simp only[qqD,qqE,qqF] at o1 o2 oa ob
 have H3:=qh h3
 have H4:=qh h4
 clear h h1 h2 ha hb h3 h4 ht hn
 go_enter Tryz.func38,Tryz.ntmps38
 go_wp2_with (first
  | (go_at_call 39;(with_reducible refine HI.out.mono ?_);rintro e w2 ⟨v,rfl,g1,g2⟩;obtain⟨va,vc,rfl⟩:=row_slice g1.1;have c3:=cell_at (P3.old_below H3.out g2) 0;have f3:=free_at (P3.old_below H3.out g2) 0;have d4:=P3.old_set (P3.old_below H4.out g2) (⟨n3,0,none⟩:Addr) hne (.slice va A.length vc);have c4:=cell_at d4 0;have f4:=free_at d4 0;have c5:=cell_at (P3.set_at d4 0 (.int .i64 0)) 0;have HR:=qh g1;have HB:=qh g2;clear g1 g2 d4;(try simp only[qqD,qqE,qqF] at c3 c4 c5)))
 go_ret
 exact⟨rfl,_,w2,HB.out,HR.out,rfl⟩
theorem items_result{fn:Func}{q u:Tmp}(h:fn.results=#[.cell q 27,.cell u 32])(tmps:Array Value)(w:World)(a b:Nat)(v:Value)(x:Int)(hq:tmps.getD q undef=.pointer (some ⟨a,0,none⟩))(hu:tmps.getD u undef=.pointer (some ⟨b,0,none⟩))
  (hc:w.heap[a]?=some (.cells #[v] 27 (0,0))) (hx:w.heap[b]?=some (.cells #[.int .i64 x] 32 (0,0))) :
  (results fn tmps).run Tryz.prog w=.ok (.tuple #[v,.int .i64 x]) w:=by
 have e0:(results fn tmps).run Tryz.prog w=((asAddr (tmps.getD q undef)).run Tryz.prog w).andThen fun a w₁=>((loadVar 27 a).run Tryz.prog w₁).andThen fun v w₂=>((asAddr (tmps.getD u undef)).run Tryz.prog w₂).andThen fun b w₃=>((loadVar 32 b).run Tryz.prog w₃).andThen fun y w₄=>.ok (.tuple #[v,y]) w₄:=by
  simp only[results,h]
  simp[Sem.run_bind,Result.andThen]
 have e1:(asAddr (.pointer (some ⟨a,0,none⟩))).run Tryz.prog w=.ok ⟨a,0,none⟩ w:=rfl
 have e2:(asAddr (.pointer (some ⟨b,0,none⟩))).run Tryz.prog w=.ok ⟨b,0,none⟩ w:=rfl
 have hc1:w.cell? ⟨a,0,none⟩=some v:=by rw[cell_at hc];rfl
 have hc2:w.cell? ⟨b,0,none⟩=some (.int .i64 x):=by rw[cell_at hx];rfl
 have e3:(loadVar 27 ⟨a,0,none⟩).run Tryz.prog w=.ok v w:=by
  simp[go_sem,loadVar,hc1]
 have e4:(loadVar 32 ⟨b,0,none⟩).run Tryz.prog w=.ok (.int .i64 x) w:=by
  simp[go_sem,loadVar,hc2]
 rw[e0,hq,e1,Result.andThen_ok,e3,Result.andThen_ok,hu,e2,Result.andThen_ok,e4]
 rfl
theorem trItems_any(w:World)(b:Nat)(vl vg:Value)(M:PM)(h:PAt w b vl vg M)(hsz:M.L.length≤100000)(D:Nat)(root:Int)(L:List It)(ids:List Int)(ht:Tree M D root L ids)(hD:D≤12)(hn:ids.Nodup)(hid:ids.length≤80000)(hLl:L.length≤100000)(key:ByteArray)(most:Int)(hmost:most≤9223372036854775807) :
  Calls Tryz.prog 19 #[pgv b,.int .i64 root,.string key,.int .i64 most] w fun e w'=>∃ v,e=.returned (.tuple #[v,.int .i64 0])∧OwnI w.heap.size w' v ((L.drop (lowK L key)).take most.toNat)∧Below w.heap.size w w':=by
 obtain⟨A,hA⟩:∃ A,A=(L.drop (lowK L key)).take most.toNat:=⟨_,rfl⟩
 rw[← hA]
 obtain⟨W1,hW1⟩:∃ W1,W1=w.alloc (.cells #[pgv b] 66):=⟨_,rfl⟩
 obtain⟨W2,hW2⟩:∃ W2,W2=W1.alloc (.cells #[.int .i64 root] 3):=⟨_,rfl⟩
 obtain⟨Wa,hWa⟩:∃ Wa,Wa=W2.alloc (.cells #[.string key] 9):=⟨_,rfl⟩
 obtain⟨Wb,hWb⟩:∃ Wb,Wb=Wa.alloc (.cells #[.int .i64 most] 3):=⟨_,rfl⟩
 obtain⟨W3,hW3⟩:∃ W3,W3=Wb.alloc (.cells #[.slice none 0 0] 27):=⟨_,rfl⟩
 obtain⟨W4,hW4⟩:∃ W4,W4=W3.alloc (.cells #[.int .i64 0] 32):=⟨_,rfl⟩
 have b1:Below w.heap.size w W1:=by rw[hW1];exact below_new _ _
 have b2:Below W1.heap.size W1 W2:=by rw[hW2];exact below_new _ _
 have ba:Below W2.heap.size W2 Wa:=by rw[hWa];exact below_new _ _
 have bb:Below Wa.heap.size Wa Wb:=by rw[hWb];exact below_new _ _
 have b3:Below Wb.heap.size Wb W3:=by rw[hW3];exact below_new _ _
 have b4:Below W3.heap.size W3 W4:=by rw[hW4];exact below_new _ _
 have r1:W4.heap[w.heap.size]?=some (.cells #[pgv b] 66 (0,0)):=P3.old_below (P3.old_below (P3.old_below (P3.old_below (P3.old_below (by rw[hW1];exact new_at _ _ _) b2) ba) bb) b3) b4
 have r2:W4.heap[W1.heap.size]?=some (.cells #[.int .i64 root] 3 (0,0)):=P3.old_below (P3.old_below (P3.old_below (P3.old_below (by rw[hW2];exact new_at _ _ _) ba) bb) b3) b4
 have ra:W4.heap[W2.heap.size]?=some (.cells #[.string key] 9 (0,0)):=P3.old_below (P3.old_below (P3.old_below (by rw[hWa];exact new_at _ _ _) bb) b3) b4
 have rb:W4.heap[Wa.heap.size]?=some (.cells #[.int .i64 most] 3 (0,0)):=P3.old_below (P3.old_below (by rw[hWb];exact new_at _ _ _) b3) b4
 have r3:W4.heap[Wb.heap.size]?=some (.cells #[.slice none 0 0] 27 (0,0)):=P3.old_below (by rw[hW3];exact new_at _ _ _) b4
 have r4:W4.heap[W3.heap.size]?=some (.cells #[.int .i64 0] 32 (0,0)):=by rw[hW4];exact new_at _ _ _
 have B4:Below w.heap.size w W4:=thenBelow (thenBelow (thenBelow (thenBelow (thenBelow b1 b2) ba) bb) b3) b4
 obtain⟨n3,hn3⟩:∃ n,n=Wb.heap.size:=⟨_,rfl⟩
 obtain⟨n4,hn4⟩:∃ n,n=W3.heap.size:=⟨_,rfl⟩
 have z1:=b1.size
 have z2:=b2.size
 have z3:=b3.size
 have za:=ba.size
 have zb:=bb.size
 have hne:n4≠n3:=by
  rw[hn3,hn4,hW3]
  simp
 rw[← hn3] at r3
 rw[← hn4] at r4
 obtain⟨W5,hW5⟩:∃ W5,W5=W4.alloc (.cells #[.int .i64 0] 32):=⟨_,rfl⟩
 have b5:Below W4.heap.size W4 W5:=by rw[hW5];exact below_new _ _
 have B5:=thenBelow B4 b5
 have r5:W5.heap[W4.heap.size]?=some (.cells #[.int .i64 0] 32 (0,0)):=by rw[hW5];exact new_at _ _ _
 have hcl:=items_cl W5 w.heap.size W1.heap.size W2.heap.size Wa.heap.size n3 n4 b vl vg M (h.below B5) hsz D root L ids ht hD hn hid hLl key most hmost (P3.old_below r1 b5) (P3.old_below r2 b5) (P3.old_below ra b5) (P3.old_below rb b5) (P3.old_below r3 b5) (P3.old_below r4 b5)
 rw[← hA] at hcl
 clear hA
 have hl3:=lt_of_block r3
 have hl4:=lt_of_block r4
 have hgd:Calls Tryz.prog 31 #[pgv b,.func (.func 38) #[] #[.pointer (some ⟨w.heap.size,0,none⟩),.pointer (some ⟨W1.heap.size,0,none⟩),.pointer (some ⟨W2.heap.size,0,none⟩),.pointer (some ⟨Wa.heap.size,0,none⟩),.pointer (some ⟨n3,0,none⟩),.pointer (some ⟨n4,0,none⟩)]] W4 fun e w'=>e=.returned (.int .i64 0)∧∃ v,w'.heap[n3]?=some (.cells #[v] 27 (0,0))∧w'.heap[n4]?=some (.cells #[.int .i64 0] 32 (0,0))∧OwnI w.heap.size w' v A∧Below w.heap.size w w':=by
  refine (guardItems W4 b _ _ _ _ _ _ 0 (fun w2=>∃ v,w2.heap[n3]?=some (.cells #[v] 27 (0,0))∧w2.heap[n4]?=some (.cells #[.int .i64 0] 32 (0,0))∧OwnI W5.heap.size w2 v A∧Below w.heap.size w w2) ?_).mono ?_
  ·rw[← hW5]
   refine hcl.mono ?_
   rintro e w' ⟨rfl,v,w2,g1,g2,rfl⟩
   have k3:=P3.old_below (P3.old_below r3 b5) g1
   have k4:=P3.old_below (P3.old_below r4 b5) g1
   refine⟨rfl,P3.old_set (P3.old_set (P3.old_below r5 g1) _ (by simp;omega) _) _ (by simp;omega) _,v,P3.old_set (P3.set_at k3 0 v) _ (by simp;omega) _,P3.set_at (P3.old_set k4 _ (by simp;omega) _) 0 _,?_,?_⟩
   ·have f:=(fr_set w2 n3 0 v).mono (T:=fun j=>j=n3∨j=n4) fun _ _ e=>.inl e
    have f2:=f.trans ((fr_set (w2.setCell ⟨n3,0,none⟩ v) n4 0 (.int .i64 0)).mono fun _ _ e=>.inr e)
    refine⟨owns_fr g2.1 f2 fun j e=>?_,g2.2⟩
    have:=g2.1.lt j e
    rcases g2.1.2 with ⟨rfl,_⟩|⟨g,cap,cur,rfl,q1,_⟩
    ·cases e
    ·simp only[Value.ownBlock,Option.some.injEq] at e
     have:=b5.size
     omega
   ·exact ((thenBelow B5 g1).setCell (p:=⟨n3,0,none⟩) (by show w.heap.size≤n3;omega) _).setCell (p:=⟨n4,0,none⟩) (by show w.heap.size≤n4;omega) _
  ·rintro e w' ⟨rfl,w2,⟨v,g1,g2,g3,g4⟩,g5,rfl⟩
   refine⟨rfl,v,P3.old_set g1 _ (by simp;omega) _,P3.old_set g2 _ (by simp;omega) _,?_,?_⟩
   ·refine⟨ownsRow_base_a (owns_fr g3.1 (fr_set w2 W4.heap.size 0 (.int .i64 0)) fun j e=>?_) B5.size,g3.2⟩
    rcases g3.1.2 with ⟨rfl,_⟩|⟨g,cap,cur,rfl,q1,_⟩
    ·cases e
    ·simp only[Value.ownBlock,Option.some.injEq] at e
     have:W5.heap.size=W4.heap.size+1:=by rw[hW5];simp
     omega
   ·exact g4.setCell (p:=⟨W4.heap.size,0,none⟩) (by show w.heap.size≤W4.heap.size;exact B4.size) _
 have HG:=qh hgd
 have hm1:w.heap.size≤n3:=by omega
 have hm2:w.heap.size≤n4:=by omega
 have o1:=cell_at r1 0
 simp only[qqD,qqE,qqF] at o1
 have e1:W1.heap.size=w.heap.size+1:=by rw[hW1];simp
 have e2:W2.heap.size=w.heap.size+1+1:=by rw[hW2];simp[e1]
 have ea:Wa.heap.size=w.heap.size+1+1+1:=by rw[hWa];simp[e2]
 have e3:n3=w.heap.size+1+1+1+1:=by rw[hn3,hWb];simp[ea]
 have e4:n4=w.heap.size+1+1+1+1+1:=by rw[hn4,hW3];simp[← hn3,e3]
 have hmf:∀ (fn:Fn) (first cap:Array Value) (w:World),(Instr.makeFunc fn first cap).run Tryz.prog w=.ok (.func fn first cap) w:=fun _ _ _ _=>rfl
 rw[e1,e2,ea] at HG
 unfold pgv at HG o1 hW1 ⊢
 have HE3:=qh e3
 have HE4:=qh e4
 clear h ht hn hcl hgd r1 r2 r3 r4 r5 b1 b2 b3 b4 b5 B4 B5 z1 z2 z3 hl3 hl4 hW5 e1 e2 ea ra rb ba bb za zb
 go_enter Tryz.func19,Tryz.ntmps19
 go_upto_region 1 with fail
 rw[← hW1,← hW2,← hWa,← hWb,← hW3,← hW4]
 rw[← e4,← e3]
 clear e3 e4 hn3 hn4 hW4 hW3 hWb hWa hW2 hW1
 go_upto_region 2 with (go_at_call 31;go_loud ((with_reducible refine HG.out.mono ?_);rintro e w5 ⟨rfl,v,g1,g2,g3,g4⟩;obtain⟨va,vc,rfl⟩:=row_slice g3.1;have c4:=cell_at g2 0;have f4:=free_at g2 0;have K1:=qh g1;have K2:=qh g2;have K3:=qh g3;have K4:=qh g4;clear g1 g2 g3 g4;(try simp only[qqD,qqE,qqF] at c4)))
 clear c4 f4 o1
 obtain⟨w6,hw6⟩:∃ w6,w6=w5.setCell ⟨n4,0,none⟩ (.int .i64 0):=⟨_,rfl⟩
 rw[← hw6]
 have q1:w6.heap[n3]?=some (.cells #[.slice va A.length vc] 27 (0,0)):=by rw[hw6];exact P3.old_set K1.out _ (Ne.symm hne) _
 have q2:w6.heap[n4]?=some (.cells #[.int .i64 0] 32 (0,0)):=by rw[hw6];exact P3.set_at K2.out 0 _
 have q3:P3.Fr (fun j=>j=n3∨j=n4) w5 w6:=by rw[hw6];exact (fr_set _ _ _ _).mono fun _ _ e=>.inr e
 clear hw6
 have p1:=cell_at q1 0
 have p2:=cell_at q2 0
 have p3:=free_at q1 0
 have p4:=free_at q2 0
 simp only[qqD,qqE,qqF] at p1 p2
 have T0:=qh q1
 have T1:=qh q2
 have Q3:=qh q3
 clear q1 q2 q3
 go_region
 obtain⟨w7,hw7⟩:∃ w7,w7=(w6.setCell ⟨n3,0,none⟩ (.slice va A.length vc)).setCell ⟨n4,0,none⟩ (.int .i64 0):=⟨_,rfl⟩
 have u1:w7.heap[n3]?=some (.cells #[.slice va A.length vc] 27 (0,0)):=by rw[hw7];exact P3.old_set (P3.set_at T0.out 0 _) _ (Ne.symm hne) _
 have u2:w7.heap[n4]?=some (.cells #[.int .i64 0] 32 (0,0)):=by rw[hw7];exact P3.set_at (P3.old_set T1.out _ hne _) 0 _
 have u3:P3.Fr (fun j=>j=n3∨j=n4) w5 w7:=by rw[hw7];exact Q3.out.trans (((fr_set _ _ _ _).mono fun _ _ e=>.inl e).trans ((fr_set _ _ _ _).mono fun _ _ e=>.inr e))
 rw[← hw7]
 clear hw7 p1 p2 p3 p4
 go_wp2
 have hnw:∀ j,(j=n3∨j=n4)→w.heap.size≤j:=fun j hj=>by
  rcases hj with rfl|rfl
  ·exact hm1
  ·exact hm2
 refine bodyPost_ret (items_result rfl _ _ n3 n4 _ 0 rfl rfl u1 u2) rfl ⟨_,rfl,?_,(P3.Fr.new K4.out u3 hnw).drew⟩
 have hr:OwnI w.heap.size w7 (.slice va A.length vc) A:=by
  refine⟨owns_fr K3.out.1 u3 fun j e hj=>?_,K3.out.2⟩
  rcases K3.out.1.2 with ⟨e1,_⟩|⟨g,cap,cur,e1,_,hg,_⟩
  ·rw[e1] at e
   cases e
  ·rw[e1] at e
   simp only[Value.ownBlock,Option.some.injEq] at e
   subst e
   rcases hj with rfl|rfl
   ·rw[K1.out] at hg
    cases hg
   ·rw[K2.out] at hg
    cases hg
 exact hr
end Go.Proofs.YtjepgclnbbpnaaaGreat.P12
namespace Go.Proofs.YtjepgclnbbpnaaaGreat.P12
open PK (qqA qqB qqC qqD qqE qqF tk tkS dOne qh)
open Go Go.RowKit Go.Lib PK Go.Maps Go.Shelf Go.Sort
open P11 (Pg)
open P9 (It kb kb_trans RightI lowK hasK putI dropI OwnI cellsI)
theorem get_cl(W:World)(n1 n2 na n3 n4 n5:Nat)(b:Nat)(vl vg:Value)(M:PM)(h:PAt W b vl vg M)(hsz:M.L.length≤100000)(D:Nat)(root:Int)(L:List It)(ids:List Int)(ht:Tree M D root L ids)(hD:D≤12)(hn:ids.Nodup)(key:ByteArray)(x:It)(hx1:hasK L key=true→L[lowK L key]?=some x)(hx2:hasK L key=false→x=⟨⟨#[]⟩,⟨#[]⟩,0⟩)
  (h1:W.heap[n1]?=some (.cells #[pgv b] 66 (0,0))) (h2:W.heap[n2]?=some (.cells #[.int .i64 root] 3 (0,0))) (ha:W.heap[na]?=some (.cells #[.string key] 9 (0,0))) (h3:W.heap[n3]?=some (.cells #[.string ⟨#[]⟩,.string ⟨#[]⟩,.int .i64 0] 29 (0,0))) (h4:W.heap[n4]?=some (.cells #[.bool false] 4 (0,0))) (h5:W.heap[n5]?=some (.cells #[.int .i64 0] 32 (0,0))) :
  Calls Tryz.prog 48 #[.pointer (some ⟨n1,0,none⟩),.pointer (some ⟨n2,0,none⟩),.pointer (some ⟨na,0,none⟩),.pointer (some ⟨n3,0,none⟩),.pointer (some ⟨n4,0,none⟩),.pointer (some ⟨n5,0,none⟩)] W fun e w'=>e=.returned (.int .i64 0)∧∃ w2,Below W.heap.size W w2∧w'=(((((w2.setCell ⟨n3,0,none⟩ (.string x.key)).setCell ⟨n3,1,none⟩ (.string x.val)).setCell ⟨n3,2,none⟩ (.int .i64 x.kind)).setCell ⟨n4,0,none⟩ (.bool (hasK L key))).setCell ⟨n5,0,none⟩ (.int .i64 0)):=by
 have hne:n4≠n3:=fun e=>by
  rw[e,h3] at h4
  cases h4
 have hne5:n5≠n3:=fun e=>by
  rw[e,h3] at h5
  cases h5
 have hne6:n5≠n4:=fun e=>by
  rw[e,h4] at h5
  cases h5
 have HI:=qh (tiGet_any W b vl vg M h hsz D root L ids ht hD hn key x hx1 hx2)
 obtain⟨t,ht9⟩:∃ t,t=hasK L key:=⟨_,rfl⟩
 rw[← ht9] at HI ⊢
 unfold pgv at HI h1
 unfold P9.It.v at HI
 have o1:=cell_at h1 0
 have o2:=cell_at h2 0
 have a0:=cell_at ha 0
 simp only[qqD,qqE,qqF] at o1 o2 a0
 have H3:=qh h3
 have H4:=qh h4
 have H5:=qh h5
 clear h h1 h2 ha h3 h4 h5 ht hn hx1 hx2 ht9
 go_enter Tryz.func48,Tryz.ntmps48
 go_wp2_with (first
  | (go_at_call 49;(with_reducible refine HI.out.mono ?_);rintro e w2 ⟨rfl,g1⟩;have k3:=P3.old_below H3.out g1;have c3:=cell_at k3 0;have c31:=cell_at k3 1;have c32:=cell_at k3 2;have f3:=free_at k3 0;have f31:=free_at k3 1;have f32:=free_at k3 2;have d4:=P3.old_set (P3.old_set (P3.old_set (P3.old_below H4.out g1) (⟨n3,0,none⟩:Addr) hne (.string x.key)) (⟨n3,1,none⟩:Addr) hne (.string x.val)) (⟨n3,2,none⟩:Addr) hne (.int .i64 x.kind);have c4:=cell_at d4 0;have f4:=free_at d4 0;have d5:=P3.old_set (P3.old_set (P3.old_set (P3.old_set (P3.old_below H5.out g1) (⟨n3,0,none⟩:Addr) hne5 (.string x.key)) (⟨n3,1,none⟩:Addr) hne5 (.string x.val)) (⟨n3,2,none⟩:Addr) hne5 (.int .i64 x.kind)) (⟨n4,0,none⟩:Addr) hne6 (.bool t);have c5:=cell_at d5 0;have f5:=free_at d5 0;have c6:=cell_at (P3.set_at d5 0 (.int .i64 0)) 0;have HB:=qh g1;clear g1 d4 d5 k3;(try simp only[qqD,qqE,qqF] at c3 c31 c32 c4 c5 c6)))
 go_ret
 exact⟨rfl,w2,HB.out,rfl⟩
end Go.Proofs.YtjepgclnbbpnaaaGreat.P12
