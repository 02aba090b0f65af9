/-
  Texts of the proofs of SaidDrops12, SaidEmpt12, SaidOlds12.
-/
import Derived.Test.YtjepgclnbbpnaaaGreatMq42
set_option linter.unusedVariables false
set_option linter.unusedSimpArgs false
set_option maxHeartbeats 8000000
set_option maxRecDepth 100000
namespace Go.Proofs.YtjepgclnbbpnaaaGreat.P7
open PK (qqA qqB qqC qqD qqE qqF tk tkS dOne qh)
open Go Go.RowKit Go.Lib PK
def lowN(l:List Int)(x:Int):Nat:=(l.takeWhile fun y=>decide (y < x)).length
def putS(l:List Int)(x:Int):List Int:=if l[lowN l x]?=some x then l else l.take (lowN l x)++[x]++l.drop (lowN l x)
theorem low_eq:∀ {l:List Int} {x:Int} {k:Nat},(∀ (j:Nat) (y:Int),j < k→l[j]?=some y→y < x)→k≤l.length→(∀ y,l[k]?=some y→¬ y < x)→lowN l x=k
 | [],x,k,_,hk,_=>by
  have:k=0:=by simpa using hk
  subst this
  rfl
 | z::l,x,0,_,_,h2=>by
  have h:=h2 z rfl
  unfold lowN
  rw[List.takeWhile_cons_of_neg (by simpa using h)]
  rfl
 | z::l,x,k+1,h1,hk,h2=>by
  have hz:=h1 0 z (by omega) rfl
  have ih:=low_eq (l:=l) (x:=x) (k:=k) (fun j y hj hy=>h1 (j+1) y (by omega) (by simpa using hy)) (by simpa using hk) (fun y hy=>h2 y (by simpa using hy))
  unfold lowN at ih ⊢
  rw[List.takeWhile_cons_of_pos (by simpa using hz),List.length_cons,ih]
def PutP(w:World)(v:Value)(l:List Int)(x:Int)(e:Ending)(w':World):Prop:=∃ u,e=.returned u∧((u=v∧putS l x=l)∨(iRow u (putS l x)).At w' w.heap.size)∧Below w.heap.size w w'
theorem put_some(w:World)(g q:Nat)(l:List Int)(x:Int)(hg:g < w.heap.size)(hq:l.length≤q)(hlq:q≤9223372036854775807)(hc:∀ (i:Nat) (y:Int),l[i]?=some y→w.cell? ⟨g,i,none⟩=some (.int .i64 y))(hl:l.length≤100000) :
  Calls Tryz.prog 25 #[.slice (some ⟨g,0,none⟩) l.length q,.int .i64 x] w (PutP w (.slice (some ⟨g,0,none⟩) l.length q) l x):=by
 obtain⟨i1,hi1,hy0',hy1,hy2⟩:=info_parts infoI7
 have HC:=qh hc
 have HGc:Hid (∀ (k:Nat),k≤l.length→∀ X,Below w.heap.size w X→(∀ A,some (⟨g,0,none⟩:Addr)=some A→∀ (j:Nat) (u:Value),((l.take k).map (Value.int .i64))[j]?=some u→X.cell? (A.add j)=some u)∧(∀ A,(if q=k then some (⟨g,0,none⟩:Addr) else some ⟨g,k,none⟩)=some A→∀ (j:Nat) (u:Value),((l.drop k).map (Value.int .i64))[j]?=some u→X.cell? (A.add j)=some u)):=fun k hk X hX=>by
  have key:∀ (j:Nat) (u:Value),(l.map (Value.int .i64))[j]?=some u→X.cell? ⟨g,j,none⟩=some u:=fun j u hj=>by
   rw[List.getElem?_map] at hj
   obtain⟨y,hy,rfl⟩:=Option.map_eq_some_iff.1 hj
   rw[hX.cell (p:=⟨g,j,none⟩) hg]
   exact hc j y hy
  refine⟨fun A hA j u hu=>?_,fun A hA j u hu=>?_⟩
  ·cases hA
   rw[Go.WideShapes.add_plain,Nat.zero_add]
   refine key j u ?_
   rw[List.map_take] at hu
   have hj:=(List.getElem?_eq_some_iff.1 hu).1
   rw[List.length_take] at hj
   rwa[List.getElem?_take_of_lt (by omega)] at hu
  ·have hj:=(List.getElem?_eq_some_iff.1 hu).1
   rw[List.length_map,List.length_drop] at hj
   rw[if_neg (by omega)] at hA
   obtain rfl:=Option.some.inj hA
   rw[Go.WideShapes.add_plain]
   refine key _ u ?_
   rwa[List.map_drop,List.getElem?_drop] at hu
 have HG:=qh hg
 clear hc
 go_enter Tryz.func25,Tryz.ntmps25
 go_wp2
 go_loop [5] (fun i=>∃ k:Nat,k≤l.length∧i=.int .i64 k∧Hid (∀ (j:Nat) (y:Int),j < k→l[j]?=some y→y < x)) (fun i=>l.length - (RowKit.intOf i).toNat)
 case atStart=>exact⟨0,Nat.zero_le _,rfl,fun j y hj=>absurd hj (Nat.not_lt_zero _)⟩
 case round=>
  obtain⟨k,hk,rfl,HLt⟩:=hrel
  have t0:(0:Int)≤(k:Int):=by omega
  have t1:(k:Int)≤(l.length:Int):=by omega
  have HbA:Hid (Below w.heap.size w ((w.alloc (.cells #[.int .i64 x] 3)).drew)):=(below_new _ _).drew
  have HbB:Hid (Below w.heap.size w w.drew):=(Below.refl _ _).drew
  have HGk:=qh (HGc.out k hk)
  have q1:(l.length:Int)≤(q:Int):=by omega
  have q2:k≤q:=by omega
  have q3:l.length≤q:=hq
  by_cases hkl:k < l.length
  ·obtain⟨y,hy⟩:∃ y,l[k]?=some y:=⟨_,List.getElem?_eq_getElem hkl⟩
   have cy:=HC.out k y hy
   have HY:=qh hy
   have d1:decide ((k:Int) < (l.length:Int))=true:=decide_eq_true (by omega)
   have d1':decide (k < l.length)=true:=decide_eq_true hkl
   have d2:(k:Int) < (l.length:Int):=by omega
   clear hy
   by_cases hb:y < x
   ·have d3:decide (y < x)=true:=decide_eq_true hb
    have HLt2:Hid (∀ (j:Nat) (z:Int),j < k+1→l[j]?=some z→z < x):=fun j z hj hz=>by
     by_cases e:j=k
     ·subst e
      rw[HY.out] at hz
      cases hz
      exact hb
     ·exact HLt.out j z (by omega) hz
    clear hb
    go_wp2
    go_round
    case rel=>exact⟨k+1,by omega,by go_num,HLt2⟩
    case measure=>simp[RowKit.intOf];omega
   ·have d3:decide (y < x)=false:=decide_eq_false hb
    have HLow:Hid (lowN l x=k):=low_eq HLt.out hk fun z hz=>by rw[HY.out] at hz;cases hz;exact hb
    clear hb
    by_cases he:y=x
    ·have d4:(y == x)=true:=beq_iff_eq.2 he
     have HP:Hid (putS l x=l):=by show putS l x=l;unfold putS;rw[HLow.out,HY.out,he,if_pos rfl]
     clear he
     go_wp2
     go_ret
     exact⟨_,rfl,.inl ⟨rfl,HP.out⟩,Below.refl _ _⟩
    ·have d4:(y == x)=false:=beq_eq_false_iff_ne.2 he
     have HP:Hid (putS l x=l.take k++[x]++l.drop k):=by show putS l x=_;unfold putS;rw[HLow.out,HY.out,if_neg (fun e=>he (Option.some.inj e))]
     clear he
     go_wp2
     go_region_law (first
      | (refine step_app rfl (.const (.slice none 0 0)) (.tmp 35) 42 rfl w.heap.size 3 i1 (.int .i64 0) 1 8 Tryz.underlying42 hi1 hy0' hy1 hy2 rfl (by decide) (.slice none 0 0) 0 [] (by rfl) (World.ownsRow_nil _ _ _ _) (some ⟨g,0,none⟩) k q ((l.take k).map (Value.int .i64)) (by simp[Act.eval,Act.put]) (by simp;try omega) (HGk.out _ HbA.out).1 (by intro e;cases e) (ints_one _) (by unfold maxLen;omega) (by omega) HbA.out.size ?_;intro p1 s1 w2 hown2 hgrow2 hat2;have HB2:Hid (Below w.heap.size w w2):=grown_below HbA.out hgrow2 (by intro k hk;cases hk);have HS2:Hid (w2.cell? ⟨w.heap.size,0,none⟩=some (.int .i64 x)):=(by show w2.cell? _=_;rw[(heap_ext ((Below.refl _ _).grown hgrow2 (Nat.le_refl _) (by intro k hk;cases hk) |>.block w.heap.size (by simp)) 0).1];simp);have HO2:Hid (w2.ownsRow w.heap.size 3 1 (.slice p1 k s1) k ((l.take k).map (Value.int .i64))):=(by rw[Nat.zero_add,List.nil_append] at hown2;exact hown2);clear hown2 hgrow2 hat2)
      | (refine step_app rfl (.const (.slice none 0 0)) (.tmp 35) 42 rfl w.heap.size 3 i1 (.int .i64 0) 1 8 Tryz.underlying42 hi1 hy0' hy1 hy2 rfl (by decide) (.slice none 0 0) 0 [] (by rfl) (World.ownsRow_nil _ _ _ _) (some ⟨g,0,none⟩) k q ((l.take k).map (Value.int .i64)) (by simp[Act.eval,Act.put]) (by simp;try omega) (HGk.out _ HbB.out).1 (by intro e;cases e) (ints_one _) (by unfold maxLen;omega) (by omega) HbB.out.size ?_;intro p1 s1 w2 hown2 hgrow2 hat2;have HB2:Hid (Below w.heap.size w w2):=grown_below HbB.out hgrow2 (by intro k hk;cases hk);have HO2:Hid (w2.ownsRow w.heap.size 3 1 (.slice p1 k s1) k ((l.take k).map (Value.int .i64))):=(by rw[Nat.zero_add,List.nil_append] at hown2;exact hown2);clear hown2 hgrow2 hat2)
      | (refine step_app rfl (.tmp 36) (.tmp 38) 42 rfl w.heap.size 3 i1 (.int .i64 0) 1 8 Tryz.underlying42 hi1 hy0' hy1 hy2 rfl (by decide) (.slice p1 k s1) k ((l.take k).map (Value.int .i64)) (by simp[Act.eval,Act.put]) HO2.out (some ⟨w.heap.size,0,none⟩) 1 1 [.int .i64 x] (by simp[Act.eval,Act.put]) rfl (by intro A hA j u hu;cases hA;cases j with|zero=>(simp at hu;subst hu;rw[Go.WideShapes.add_plain];exact HS2.out)|succ j=>simp at hu) (by intro e;cases e) (by intro u hu;simp at hu;subst hu;rfl) (by unfold maxLen;omega) (by omega) HB2.out.size ?_;intro p2 s2 w3 hown3 hgrow3 hat3;have HB3:Hid (Below w.heap.size w w3):=grown_below HB2.out hgrow3 (fun z e=>(owned_at HO2.out e).1);have HO3:=qh hown3;clear hown3 hgrow3 hat3)
      | (refine step_app rfl (.tmp 36) (.tmp 38) 42 rfl w.heap.size 3 i1 (.int .i64 0) 1 8 Tryz.underlying42 hi1 hy0' hy1 hy2 rfl (by decide) (.slice p1 k s1) k ((l.take k).map (Value.int .i64)) (by simp[Act.eval,Act.put]) (owns_below HO2.out (below_new _ _)) (some ⟨w2.heap.size,0,none⟩) 1 1 [.int .i64 x] (by simp[Act.eval,Act.put]) rfl (by intro A hA;cases hA;exact cell_one_new _ _ _) (by intro e;cases e) (by intro u hu;simp at hu;subst hu;rfl) (by unfold maxLen;omega) (by omega) (thenBelow HB2.out (below_new _ _)).size ?_;intro p2 s2 w3 hown3 hgrow3 hat3;have HB3:Hid (Below w.heap.size w w3):=grown_below (thenBelow HB2.out (below_new _ _)) hgrow3 (fun z e=>(owned_at HO2.out e).1);have HO3:=qh hown3;clear hown3 hgrow3 hat3)
      | (refine step_app rfl (.tmp 39) (.tmp 42) 42 rfl w.heap.size 3 i1 (.int .i64 0) 1 8 Tryz.underlying42 hi1 hy0' hy1 hy2 rfl (by decide) (.slice p2 (k+1) s2) (k+1) ((l.take k).map (Value.int .i64)++[.int .i64 x]) (by simp[Act.eval,Act.put]) HO3.out (if q=k then some (⟨g,0,none⟩:Addr) else some ⟨g,k,none⟩) (l.length - k) (q - k) ((l.drop k).map (Value.int .i64)) (by simp[Act.eval,Act.put]) (by simp) (HGk.out _ HB3.out).2 (by intro e;split at e <;> cases e) (ints_one _) (by unfold maxLen;omega) (by omega) HB3.out.size ?_;intro p5 s5 w4 hown4 hgrow4 hat4;have HB4:Hid (Below w.heap.size w w4):=grown_below HB3.out hgrow4 (fun z e=>(owned_at HO3.out e).1);have HO4:=qh hown4;clear hown4 hgrow4 hat4))
     all_goals
      go_wp2
      go_ret
      refine⟨_,rfl,.inr (iRow_owns.2 ?_),HB4.out⟩
      rw[HP.out]
      have hlen:(l.take k++[x]++l.drop k).length=k+1+(l.length - k):=by simp;try omega
      rw[hlen,List.map_append,List.map_append]
      exact HO4.out
  ·have d1:decide ((k:Int) < (l.length:Int))=false:=decide_eq_false (by omega)
   have d1':decide (k < l.length)=false:=decide_eq_false hkl
   have hyn:l[k]?=none:=List.getElem?_eq_none (by omega)
   have HLow:Hid (lowN l x=k):=low_eq HLt.out hk fun z hz=>by rw[hyn] at hz;cases hz
   have HP:Hid (putS l x=l.take k++[x]++l.drop k):=by show putS l x=_;unfold putS;rw[HLow.out,hyn,if_neg (by simp)]
   clear hyn
   go_wp2
   go_region_law (first
    | (refine step_app rfl (.const (.slice none 0 0)) (.tmp 35) 42 rfl w.heap.size 3 i1 (.int .i64 0) 1 8 Tryz.underlying42 hi1 hy0' hy1 hy2 rfl (by decide) (.slice none 0 0) 0 [] (by rfl) (World.ownsRow_nil _ _ _ _) (some ⟨g,0,none⟩) k q ((l.take k).map (Value.int .i64)) (by simp[Act.eval,Act.put]) (by simp;try omega) (HGk.out _ HbA.out).1 (by intro e;cases e) (ints_one _) (by unfold maxLen;omega) (by omega) HbA.out.size ?_;intro p1 s1 w2 hown2 hgrow2 hat2;have HB2:Hid (Below w.heap.size w w2):=grown_below HbA.out hgrow2 (by intro k hk;cases hk);have HS2:Hid (w2.cell? ⟨w.heap.size,0,none⟩=some (.int .i64 x)):=(by show w2.cell? _=_;rw[(heap_ext ((Below.refl _ _).grown hgrow2 (Nat.le_refl _) (by intro k hk;cases hk) |>.block w.heap.size (by simp)) 0).1];simp);have HO2:Hid (w2.ownsRow w.heap.size 3 1 (.slice p1 k s1) k ((l.take k).map (Value.int .i64))):=(by rw[Nat.zero_add,List.nil_append] at hown2;exact hown2);clear hown2 hgrow2 hat2)
    | (refine step_app rfl (.const (.slice none 0 0)) (.tmp 35) 42 rfl w.heap.size 3 i1 (.int .i64 0) 1 8 Tryz.underlying42 hi1 hy0' hy1 hy2 rfl (by decide) (.slice none 0 0) 0 [] (by rfl) (World.ownsRow_nil _ _ _ _) (some ⟨g,0,none⟩) k q ((l.take k).map (Value.int .i64)) (by simp[Act.eval,Act.put]) (by simp;try omega) (HGk.out _ HbB.out).1 (by intro e;cases e) (ints_one _) (by unfold maxLen;omega) (by omega) HbB.out.size ?_;intro p1 s1 w2 hown2 hgrow2 hat2;have HB2:Hid (Below w.heap.size w w2):=grown_below HbB.out hgrow2 (by intro k hk;cases hk);have HO2:Hid (w2.ownsRow w.heap.size 3 1 (.slice p1 k s1) k ((l.take k).map (Value.int .i64))):=(by rw[Nat.zero_add,List.nil_append] at hown2;exact hown2);clear hown2 hgrow2 hat2)
    | (refine step_app rfl (.tmp 36) (.tmp 38) 42 rfl w.heap.size 3 i1 (.int .i64 0) 1 8 Tryz.underlying42 hi1 hy0' hy1 hy2 rfl (by decide) (.slice p1 k s1) k ((l.take k).map (Value.int .i64)) (by simp[Act.eval,Act.put]) HO2.out (some ⟨w.heap.size,0,none⟩) 1 1 [.int .i64 x] (by simp[Act.eval,Act.put]) rfl (by intro A hA j u hu;cases hA;cases j with|zero=>(simp at hu;subst hu;rw[Go.WideShapes.add_plain];exact HS2.out)|succ j=>simp at hu) (by intro e;cases e) (by intro u hu;simp at hu;subst hu;rfl) (by unfold maxLen;omega) (by omega) HB2.out.size ?_;intro p2 s2 w3 hown3 hgrow3 hat3;have HB3:Hid (Below w.heap.size w w3):=grown_below HB2.out hgrow3 (fun z e=>(owned_at HO2.out e).1);have HO3:=qh hown3;clear hown3 hgrow3 hat3)
    | (refine step_app rfl (.tmp 36) (.tmp 38) 42 rfl w.heap.size 3 i1 (.int .i64 0) 1 8 Tryz.underlying42 hi1 hy0' hy1 hy2 rfl (by decide) (.slice p1 k s1) k ((l.take k).map (Value.int .i64)) (by simp[Act.eval,Act.put]) (owns_below HO2.out (below_new _ _)) (some ⟨w2.heap.size,0,none⟩) 1 1 [.int .i64 x] (by simp[Act.eval,Act.put]) rfl (by intro A hA;cases hA;exact cell_one_new _ _ _) (by intro e;cases e) (by intro u hu;simp at hu;subst hu;rfl) (by unfold maxLen;omega) (by omega) (thenBelow HB2.out (below_new _ _)).size ?_;intro p2 s2 w3 hown3 hgrow3 hat3;have HB3:Hid (Below w.heap.size w w3):=grown_below (thenBelow HB2.out (below_new _ _)) hgrow3 (fun z e=>(owned_at HO2.out e).1);have HO3:=qh hown3;clear hown3 hgrow3 hat3)
    | (refine step_app rfl (.tmp 39) (.tmp 42) 42 rfl w.heap.size 3 i1 (.int .i64 0) 1 8 Tryz.underlying42 hi1 hy0' hy1 hy2 rfl (by decide) (.slice p2 (k+1) s2) (k+1) ((l.take k).map (Value.int .i64)++[.int .i64 x]) (by simp[Act.eval,Act.put]) HO3.out (if q=k then some (⟨g,0,none⟩:Addr) else some ⟨g,k,none⟩) (l.length - k) (q - k) ((l.drop k).map (Value.int .i64)) (by simp[Act.eval,Act.put]) (by simp) (HGk.out _ HB3.out).2 (by intro e;split at e <;> cases e) (ints_one _) (by unfold maxLen;omega) (by omega) HB3.out.size ?_;intro p5 s5 w4 hown4 hgrow4 hat4;have HB4:Hid (Below w.heap.size w w4):=grown_below HB3.out hgrow4 (fun z e=>(owned_at HO3.out e).1);have HO4:=qh hown4;clear hown4 hgrow4 hat4))
   all_goals go_wp2
   all_goals
    go_ret
    refine⟨_,rfl,.inr (iRow_owns.2 ?_),HB4.out⟩
    rw[HP.out]
    have hlen:(l.take k++[x]++l.drop k).length=k+1+(l.length - k):=by simp;try omega
    rw[hlen,List.map_append,List.map_append]
    exact HO4.out
theorem put_nil(w:World)(x:Int):Calls Tryz.prog 25 #[.slice none 0 0,.int .i64 x] w (PutP w (.slice none 0 0) [] x):=by
 obtain⟨i1,hi1,hy0',hy1,hy2⟩:=info_parts infoI7
 have HbA:Hid (Below w.heap.size w ((w.alloc (.cells #[.int .i64 x] 3)).drew)):=(below_new _ _).drew
 have HbB:Hid (Below w.heap.size w w.drew):=(Below.refl _ _).drew
 go_enter Tryz.func25,Tryz.ntmps25
 go_wp2
 refine wp_loop_rounds 1 ?_
 rw[rounds_succ]
 go_wp2
 go_region_law (first
  | (refine step_app rfl (.const (.slice none 0 0)) (.tmp 35) 42 rfl w.heap.size 3 i1 (.int .i64 0) 1 8 Tryz.underlying42 hi1 hy0' hy1 hy2 rfl (by decide) (.slice none 0 0) 0 [] (by rfl) (World.ownsRow_nil _ _ _ _) none 0 0 ((([]:List Int).take 0).map (Value.int .i64)) (by simp[Act.eval,Act.put]) (by simp;try omega) (by intro A hA;cases hA) (fun _=>⟨rfl,rfl⟩) (ints_one _) (by unfold maxLen;omega) (by omega) HbA.out.size ?_;intro p1 s1 w2 hown2 hgrow2 hat2;have HB2:Hid (Below w.heap.size w w2):=grown_below HbA.out hgrow2 (by intro k hk;cases hk);have HS2:Hid (w2.cell? ⟨w.heap.size,0,none⟩=some (.int .i64 x)):=(by show w2.cell? _=_;rw[(heap_ext ((Below.refl _ _).grown hgrow2 (Nat.le_refl _) (by intro k hk;cases hk) |>.block w.heap.size (by simp)) 0).1];simp);have HO2:Hid (w2.ownsRow w.heap.size 3 1 (.slice p1 0 s1) 0 ((([]:List Int).take 0).map (Value.int .i64))):=(by rw[Nat.zero_add,List.nil_append] at hown2;exact hown2);clear hown2 hgrow2 hat2)
  | (refine step_app rfl (.const (.slice none 0 0)) (.tmp 35) 42 rfl w.heap.size 3 i1 (.int .i64 0) 1 8 Tryz.underlying42 hi1 hy0' hy1 hy2 rfl (by decide) (.slice none 0 0) 0 [] (by rfl) (World.ownsRow_nil _ _ _ _) none 0 0 ((([]:List Int).take 0).map (Value.int .i64)) (by simp[Act.eval,Act.put]) (by simp;try omega) (by intro A hA;cases hA) (fun _=>⟨rfl,rfl⟩) (ints_one _) (by unfold maxLen;omega) (by omega) HbB.out.size ?_;intro p1 s1 w2 hown2 hgrow2 hat2;have HB2:Hid (Below w.heap.size w w2):=grown_below HbB.out hgrow2 (by intro k hk;cases hk);have HO2:Hid (w2.ownsRow w.heap.size 3 1 (.slice p1 0 s1) 0 ((([]:List Int).take 0).map (Value.int .i64))):=(by rw[Nat.zero_add,List.nil_append] at hown2;exact hown2);clear hown2 hgrow2 hat2)
  | (refine step_app rfl (.tmp 36) (.tmp 38) 42 rfl w.heap.size 3 i1 (.int .i64 0) 1 8 Tryz.underlying42 hi1 hy0' hy1 hy2 rfl (by decide) (.slice p1 0 s1) 0 ((([]:List Int).take 0).map (Value.int .i64)) (by simp[Act.eval,Act.put]) HO2.out (some ⟨w.heap.size,0,none⟩) 1 1 [.int .i64 x] (by simp[Act.eval,Act.put]) rfl (by intro A hA j u hu;cases hA;cases j with|zero=>(simp at hu;subst hu;rw[Go.WideShapes.add_plain];exact HS2.out)|succ j=>simp at hu) (by intro e;cases e) (by intro u hu;simp at hu;subst hu;rfl) (by unfold maxLen;omega) (by omega) HB2.out.size ?_;intro p2 s2 w3 hown3 hgrow3 hat3;have HB3:Hid (Below w.heap.size w w3):=grown_below HB2.out hgrow3 (fun z e=>(owned_at HO2.out e).1);have HO3:=qh hown3;clear hown3 hgrow3 hat3)
  | (refine step_app rfl (.tmp 36) (.tmp 38) 42 rfl w.heap.size 3 i1 (.int .i64 0) 1 8 Tryz.underlying42 hi1 hy0' hy1 hy2 rfl (by decide) (.slice p1 0 s1) 0 ((([]:List Int).take 0).map (Value.int .i64)) (by simp[Act.eval,Act.put]) (owns_below HO2.out (below_new _ _)) (some ⟨w2.heap.size,0,none⟩) 1 1 [.int .i64 x] (by simp[Act.eval,Act.put]) rfl (by intro A hA;cases hA;exact cell_one_new _ _ _) (by intro e;cases e) (by intro u hu;simp at hu;subst hu;rfl) (by unfold maxLen;omega) (by omega) (thenBelow HB2.out (below_new _ _)).size ?_;intro p2 s2 w3 hown3 hgrow3 hat3;have HB3:Hid (Below w.heap.size w w3):=grown_below (thenBelow HB2.out (below_new _ _)) hgrow3 (fun z e=>(owned_at HO2.out e).1);have HO3:=qh hown3;clear hown3 hgrow3 hat3)
  | (refine step_app rfl (.tmp 39) (.tmp 42) 42 rfl w.heap.size 3 i1 (.int .i64 0) 1 8 Tryz.underlying42 hi1 hy0' hy1 hy2 rfl (by decide) (.slice p2 (0+1) s2) (0+1) ((([]:List Int).take 0).map (Value.int .i64)++[.int .i64 x]) (by simp[Act.eval,Act.put]) HO3.out none 0 0 ((([]:List Int).drop 0).map (Value.int .i64)) (by simp[Act.eval,Act.put]) (by simp) (by intro A hA;cases hA) (fun _=>⟨rfl,rfl⟩) (ints_one _) (by unfold maxLen;omega) (by omega) HB3.out.size ?_;intro p5 s5 w4 hown4 hgrow4 hat4;have HB4:Hid (Below w.heap.size w w4):=grown_below HB3.out hgrow4 (fun z e=>(owned_at HO3.out e).1);have HO4:=qh hown4;clear hown4 hgrow4 hat4))
 all_goals go_wp2
 all_goals
  go_ret
  refine⟨_,rfl,.inr (iRow_owns.2 ?_),HB4.out⟩
  exact HO4.out
theorem put_any(w:World)(lo:Nat)(v:Value)(l:List Int)(x:Int)(h:(iRow v l).At w lo)(hl:l.length≤100000):Calls Tryz.prog 25 #[v,.int .i64 x] w (PutP w v l x):=by
 have h':=iRow_owns.1 h
 rcases h'.2 with ⟨rfl,h0⟩|⟨g,cap,cur,rfl,hlo,hg,hcap,hm,_⟩
 ·obtain rfl:=List.eq_nil_of_length_eq_zero h0
  exact put_nil w x
 ·refine put_some w g cap l x (lt_of_block hg) hcap (by unfold maxLen at hm;omega) (fun i y hi=>?_) hl
  have:=h'.cells (show (Value.slice (some ⟨g,0,none⟩) l.length cap).ownBlock=some g from rfl) i (.int .i64 y) (by rw[List.getElem?_map,hi];rfl)
  rwa[Go.WideShapes.add_plain,Nat.zero_add] at this
theorem put_row(w:World)(lo:Nat)(v:Value)(l:List Int)(x:Int)(h:(iRow v l).At w lo)(hlo:lo≤w.heap.size)(hl:l.length≤100000):Calls Tryz.prog 25 #[v,.int .i64 x] w fun e w'=>∃ u,e=.returned u∧(iRow u (putS l x)).At w' lo∧Below w.heap.size w w':=by
 refine (put_any w lo v l x h hl).mono ?_
 rintro e w' ⟨u,rfl,hu,hb⟩
 refine⟨u,rfl,?_,hb⟩
 rcases hu with ⟨rfl,e⟩|hu
 ·rw[e]
  exact owns_below h hb
 ·exact owns_lo hu hlo
end Go.Proofs.YtjepgclnbbpnaaaGreat.P7
namespace Go.Proofs.YtjepgclnbbpnaaaGreat.P12
open Go Go.RowKit Go.Lib PK
open P11 (Pg)
open P9 (It kb RightI lowK hasK putI dropI)
open P7 (IL iRow iRow_owns iRow_il putS lowN)
def Live(w0:World)(b:Nat)(root:Int)(L:List It)(k:Nat)(w:World):Prop:=
 ∃ vl vg M D ids P p q,PAt w b vl vg M∧TrS M D root L ids P p q∧p+q≤k∧(∀ j,PS b vl vg j→w0.heap.size≤j)∧Below w0.heap.size w0 w∧P.length=M.L.length
theorem Live.bel{w0:World}{b:Nat}{root:Int}{L:List It}{k:Nat}{w:World}(h:Live w0 b root L k w):Below w0.heap.size w0 w:=by
 obtain⟨_,_,_,_,_,_,_,_,_,_,_,_,h,_⟩:=h
 exact h
theorem Live.over{w0:World}{b:Nat}{root:Int}{L:List It}{k:Nat}{w w':World}(h:Live w0 b root L k w)(hb:Below w.heap.size w w'):Live w0 b root L k w':=by
 obtain⟨vl,vg,M,D,ids,P,p,q,h1,h2,h3,h4,h5,h6⟩:=h
 exact⟨vl,vg,M,D,ids,P,p,q,h1.below hb,h2,h3,h4,thenBelow h5 hb,h6⟩
theorem Live.fresh{w0 w':World}{b:Nat}(h:PAt w' b (.slice none 0 0) (.slice none 0 0) ⟨[],2,[],false,false⟩)(hb:w0.heap.size≤b)(hB:Below w0.heap.size w0 w'):Live w0 b 0 [] 0 w':=
 have hn:∀ j,PS b (.slice none 0 0) (.slice none 0 0) j→w0.heap.size≤j:=fun j hj=>by
  rcases hj with rfl|hj|hj
  ·exact hb
  ·cases hj
  ·cases hj
 ⟨_,_,_,_,_,_,_,_,h,TrS.start,Nat.le_refl _,hn,hB,rfl⟩
theorem Live.act{w0:World}{b:Nat}{root:Int}{L:List It}{k:Nat}{w:World}(h:Live w0 b root L k w)(hk:k < 250)(o:Ac) :
  Calls Tryz.prog 18 #[.pointer (some ⟨b,0,none⟩),.int .i64 root,o.v] w fun e w'=>∃ r,e=.returned (.int .i64 r)∧Live w0 b r (actL L o) (k+1) w':=by
 obtain⟨vl,vg,M,D,ids,P,p,q,h1,h2,h3,h4,h5,h6⟩:=h
 refine (act_any w b vl vg M D root L ids P p q h1 h2 (by omega) o).mono ?_
 rintro e w' ⟨r,vl',vg',M',D',i,made,p',q',rfl,g1,g2⟩
 refine⟨r,rfl,vl',vg',M',D',i,P++made,p',q',g2.pg,g2.tr,by omega,fun j hj=>?_,P3.Fr.new h5 g2.fr h4,by rw[List.length_append,h6,g2.cntL]⟩
 rcases g2.new j hj with h9|h9
 ·exact h4 j h9
 ·exact Nat.le_trans h5.size h9
def actsL(l:List Ac):List It:=l.foldl actL []
theorem actsL_next{l:List Ac}{k:Nat}{o:Ac}(h:l[k]?=some o):actsL (l.take (k+1))=actL (actsL (l.take k)) o:=by
 unfold actsL
 rw[List.take_add_one,h,List.foldl_append]
 rfl
def PM.emptied(M:PM):PM:={ M with given:=[] }
theorem PAt.emptied{w:World}{b:Nat}{vl vg:Value}{M:PM}(h:PAt w b vl vg M):PAt (w.setCell ⟨b,2,none⟩ (.slice none 0 0)) b vl (.slice none 0 0) M.emptied∧P3.Fr (·=b) w (w.setCell ⟨b,2,none⟩ (.slice none 0 0)):=by
 obtain⟨k1,k2,k3,k4⟩:=h.setAt 2 (.slice none 0 0)
 exact⟨⟨k4,k1,World.ownsRow_nil _ _ _ _,fun j _ e=>by cases e⟩,k3⟩
theorem Pool.emptied{M:PM}{ids P:List Int}(h:Pool M ids P):Pool M.emptied ids ids:=
 { h with perm:=List.Perm.refl _,nodup:=h.ids_nodup,rng:=fun _ hj=>h.ids_rng hj }
theorem Pool.all{M:PM}{ids P:List Int}(h:Pool M ids P):Pool (M.emptied.free (sortZ ids)) [] ids:=by
 refine Pool.free (l:=sortZ ids) ?_
 rw[List.append_nil]
 exact h.emptied.same (List.mergeSort_perm _ _)
theorem sortZ_strict{ids:List Int}(h:ids.Nodup):(sortZ ids).Pairwise (fun x y=>x < y):=by
 have h1:=sortZ_sorted ids
 have h2:(sortZ ids).Nodup:=((List.mergeSort_perm _ _).nodup_iff).2 h
 have h3:=List.Pairwise.and h1 h2
 exact h3.imp fun ⟨a,b⟩=>by omega
theorem putS_rise{l:List Int}(h:l.Pairwise (fun x y=>x < y)){k:Nat}{x:Int}(hx:l[k]?=some x):putS (l.take k) x=l.take (k+1):=by
 have hk:=(List.getElem?_eq_some_iff.1 hx).1
 have hlow:lowN (l.take k) x=(l.take k).length:=by
  refine P7.low_eq (fun j y hj hy=>?_) (Nat.le_refl _) (fun y hy=>?_)
  ·rw[List.length_take] at hj
   rw[List.getElem?_take,if_pos (by omega)] at hy
   obtain⟨hk2,rfl⟩:=List.getElem?_eq_some_iff.1 hx
   obtain⟨hj2,rfl⟩:=List.getElem?_eq_some_iff.1 hy
   exact List.pairwise_iff_getElem.1 h j k hj2 hk2 (by omega)
  ·rw[List.getElem?_eq_none (Nat.le_refl _)] at hy
   cases hy
 unfold putS
 rw[hlow,List.getElem?_eq_none (Nat.le_refl _),if_neg (by simp),List.take_length,List.drop_length,List.append_nil,List.take_add_one,hx]
 rfl
theorem il_row{w:World}{lo:Nat}{v:Value}{l:List Int}(h:w.ownsRow lo 3 1 v l.length (cellsZ l))(hl:l.length≤1000000):IL w v l:=
 iRow_il (lo:=lo) (iRow_owns.2 h) (by omega)
end Go.Proofs.YtjepgclnbbpnaaaGreat.P12
