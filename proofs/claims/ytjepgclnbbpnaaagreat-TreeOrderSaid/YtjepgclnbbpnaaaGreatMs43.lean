/-
  Texts of the proofs of SaidOrd12.
-/
import Derived.Test.YtjepgclnbbpnaaaGreatMs42
set_option linter.unusedVariables false
set_option linter.unusedSimpArgs false
set_option maxHeartbeats 8000000
set_option maxRecDepth 100000
namespace Go.Proofs.YtjepgclnbbpnaaaGreat.P12
open Go Go.RowKit Go.Lib PK
open P9 (It kb ItsIn lowK hasK)
theorem kb_empty(k:ByteArray):kb k ⟨#[]⟩=false:=by
 rw[P9.kb_eq]
 cases h:k.data.toList with
 | nil=>simp[Op.bytesLess]
 | cons a l=>simp[Op.bytesLess]
theorem fromI_all{l:List It}{m:Int}(h:(l.length:Int)≤m):fromI l ⟨#[]⟩ m=l:=by
 unfold fromI
 have:lowK l ⟨#[]⟩=0:=P9.lowK_eq (fun j y h=>absurd h (Nat.not_lt_zero _)) (Nat.zero_le _) (fun y _=>kb_empty _)
 rw[this,List.drop_zero,List.take_of_length_le (by omega)]
structure Tells (w:World) (b:Nat) (root:Int) (l:List It) (key:ByteArray) (n:Nat) (x:It):Prop where
 items:∀ W,Below w.heap.size w W→∀ (k:ByteArray) (m:Int),k.size≤1000→m≤1000→Calls Tryz.prog 19 #[pgv b,.int .i64 root,.string k,.int .i64 m] W fun e w'=>∃ v,e=.returned (.tuple #[v,.int .i64 0])∧ItsIn w' v (fromI l k m)∧Below W.heap.size W w'
 depth:∀ W,Below w.heap.size w W→Calls Tryz.prog 29 #[pgv b,.int .i64 root] W fun e w'=>e=.returned (.tuple #[.int .i64 n,.int .i64 0])∧Below W.heap.size W w'
 get:∀ W,Below w.heap.size w W→Calls Tryz.prog 30 #[pgv b,.int .i64 root,.string key] W fun e w'=>e=.returned (.tuple #[x.v,.bool (hasK l key),.int .i64 0])∧Below W.heap.size W w'
 check:∀ W,Below w.heap.size w W→Calls Tryz.prog 28 #[pgv b,.int .i64 root] W fun e w'=>e=.returned (.int .i64 0)∧Below W.heap.size W w'
 root0:root=0↔l.length=0
 n0:n=0↔l.length=0
 nle:n≤bitsN l.length+1
 hit:hasK l key=true→l[lowK l key]?=some x
 no:hasK l key=false→x=⟨⟨#[]⟩,⟨#[]⟩,0⟩
end Go.Proofs.YtjepgclnbbpnaaaGreat.P12
namespace Go.Proofs.YtjepgclnbbpnaaaGreat.P12
open PK (qqA qqB qqC qqD qqE qqF tk tkS dOne qh)
open Go Go.RowKit Go.Lib PK Go.Maps Go.Shelf Go.Sort
open P11 (Pg)
open P9 (It kb kb_trans RightI lowK OwnI cellsI)
theorem items_cl(W:World)(n1 n2 na nb n3 n4:Nat)(b:Nat)(vl vg:Value)(M:PM)(h:PAt W b vl vg M)(hsz:M.L.length≤100000)(D:Nat)(root:Int)(L:List It)(ids:List Int)(ht:Tree M D root L ids)(hD:D≤12)(hn:ids.Nodup)(hid:ids.length≤80000)(hLl:L.length≤100000)(key:ByteArray)(most:Int)(hmost:most≤9223372036854775807)
  (h1:W.heap[n1]?=some (.cells #[pgv b] 66 (0,0))) (h2:W.heap[n2]?=some (.cells #[.int .i64 root] 3 (0,0))) (ha:W.heap[na]?=some (.cells #[.string key] 9 (0,0))) (hb:W.heap[nb]?=some (.cells #[.int .i64 most] 3 (0,0))) (h3:W.heap[n3]?=some (.cells #[.slice none 0 0] 27 (0,0))) (h4:W.heap[n4]?=some (.cells #[.int .i64 0] 32 (0,0))) :
  Calls Tryz.prog 38 #[.pointer (some ⟨n1,0,none⟩),.pointer (some ⟨n2,0,none⟩),.pointer (some ⟨na,0,none⟩),.pointer (some ⟨nb,0,none⟩),.pointer (some ⟨n3,0,none⟩),.pointer (some ⟨n4,0,none⟩)] W fun e w'=>e=.returned (.int .i64 0)∧∃ v w2,Below W.heap.size W w2∧OwnI W.heap.size w2 v ((L.drop (lowK L key)).take most.toNat)∧w'=(w2.setCell ⟨n3,0,none⟩ v).setCell ⟨n4,0,none⟩ (.int .i64 0):=by
 obtain⟨A,hA⟩:∃ A,A=(L.drop (lowK L key)).take most.toNat:=⟨_,rfl⟩
 rw[← hA]
 have hne:n4≠n3:=fun e=>by
  rw[e,h3] at h4
  cases h4
 have HI:=qh (tiItems_any W b vl vg M h hsz D root L ids ht hD hn hid hLl key most hmost)
 rw[← hA] at HI
 clear hA
 unfold pgv at HI h1
 have o1:=cell_at h1 0
 have o2:=cell_at h2 0
 have oa:=cell_at ha 0
 have ob:=cell_at hb 0
 simp only[qqD,qqE,qqF] at o1 o2 oa ob
 have H3:=qh h3
 have H4:=qh h4
 clear h h1 h2 ha hb h3 h4 ht hn
 go_enter Tryz.func38,Tryz.ntmps38
 go_wp2_with (first
  | (go_at_call 39;(with_reducible refine HI.out.mono ?_);rintro e w2 ⟨v,rfl,g1,g2⟩;obtain⟨va,vc,rfl⟩:=row_slice g1.1;have c3:=cell_at (P3.old_below H3.out g2) 0;have f3:=free_at (P3.old_below H3.out g2) 0;have d4:=P3.old_set (P3.old_below H4.out g2) (⟨n3,0,none⟩:Addr) hne (.slice va A.length vc);have c4:=cell_at d4 0;have f4:=free_at d4 0;have c5:=cell_at (P3.set_at d4 0 (.int .i64 0)) 0;have HR:=qh g1;have HB:=qh g2;clear g1 g2 d4;(try simp only[qqD,qqE,qqF] at c3 c4 c5)))
 go_ret
 exact⟨rfl,_,w2,HB.out,HR.out,rfl⟩
theorem items_result{fn:Func}{q u:Tmp}(h:fn.results=#[.cell q 27,.cell u 32])(tmps:Array Value)(w:World)(a b:Nat)(v:Value)(x:Int)(hq:tmps.getD q undef=.pointer (some ⟨a,0,none⟩))(hu:tmps.getD u undef=.pointer (some ⟨b,0,none⟩))
  (hc:w.heap[a]?=some (.cells #[v] 27 (0,0))) (hx:w.heap[b]?=some (.cells #[.int .i64 x] 32 (0,0))) :
  (results fn tmps).run Tryz.prog w=.ok (.tuple #[v,.int .i64 x]) w:=by
 have e0:(results fn tmps).run Tryz.prog w=((asAddr (tmps.getD q undef)).run Tryz.prog w).andThen fun a w₁=>((loadVar 27 a).run Tryz.prog w₁).andThen fun v w₂=>((asAddr (tmps.getD u undef)).run Tryz.prog w₂).andThen fun b w₃=>((loadVar 32 b).run Tryz.prog w₃).andThen fun y w₄=>.ok (.tuple #[v,y]) w₄:=by
  simp only[results,h]
  simp[Sem.run_bind,Result.andThen]
 have e1:(asAddr (.pointer (some ⟨a,0,none⟩))).run Tryz.prog w=.ok ⟨a,0,none⟩ w:=rfl
 have e2:(asAddr (.pointer (some ⟨b,0,none⟩))).run Tryz.prog w=.ok ⟨b,0,none⟩ w:=rfl
 have hc1:w.cell? ⟨a,0,none⟩=some v:=by rw[cell_at hc];rfl
 have hc2:w.cell? ⟨b,0,none⟩=some (.int .i64 x):=by rw[cell_at hx];rfl
 have e3:(loadVar 27 ⟨a,0,none⟩).run Tryz.prog w=.ok v w:=by
  simp[go_sem,loadVar,hc1]
 have e4:(loadVar 32 ⟨b,0,none⟩).run Tryz.prog w=.ok (.int .i64 x) w:=by
  simp[go_sem,loadVar,hc2]
 rw[e0,hq,e1,Result.andThen_ok,e3,Result.andThen_ok,hu,e2,Result.andThen_ok,e4]
 rfl
theorem trItems_any(w:World)(b:Nat)(vl vg:Value)(M:PM)(h:PAt w b vl vg M)(hsz:M.L.length≤100000)(D:Nat)(root:Int)(L:List It)(ids:List Int)(ht:Tree M D root L ids)(hD:D≤12)(hn:ids.Nodup)(hid:ids.length≤80000)(hLl:L.length≤100000)(key:ByteArray)(most:Int)(hmost:most≤9223372036854775807) :
  Calls Tryz.prog 19 #[pgv b,.int .i64 root,.string key,.int .i64 most] w fun e w'=>∃ v,e=.returned (.tuple #[v,.int .i64 0])∧OwnI w.heap.size w' v ((L.drop (lowK L key)).take most.toNat)∧Below w.heap.size w w':=by
 obtain⟨A,hA⟩:∃ A,A=(L.drop (lowK L key)).take most.toNat:=⟨_,rfl⟩
 rw[← hA]
 obtain⟨W1,hW1⟩:∃ W1,W1=w.alloc (.cells #[pgv b] 66):=⟨_,rfl⟩
 obtain⟨W2,hW2⟩:∃ W2,W2=W1.alloc (.cells #[.int .i64 root] 3):=⟨_,rfl⟩
 obtain⟨Wa,hWa⟩:∃ Wa,Wa=W2.alloc (.cells #[.string key] 9):=⟨_,rfl⟩
 obtain⟨Wb,hWb⟩:∃ Wb,Wb=Wa.alloc (.cells #[.int .i64 most] 3):=⟨_,rfl⟩
 obtain⟨W3,hW3⟩:∃ W3,W3=Wb.alloc (.cells #[.slice none 0 0] 27):=⟨_,rfl⟩
 obtain⟨W4,hW4⟩:∃ W4,W4=W3.alloc (.cells #[.int .i64 0] 32):=⟨_,rfl⟩
 have b1:Below w.heap.size w W1:=by rw[hW1];exact below_new _ _
 have b2:Below W1.heap.size W1 W2:=by rw[hW2];exact below_new _ _
 have ba:Below W2.heap.size W2 Wa:=by rw[hWa];exact below_new _ _
 have bb:Below Wa.heap.size Wa Wb:=by rw[hWb];exact below_new _ _
 have b3:Below Wb.heap.size Wb W3:=by rw[hW3];exact below_new _ _
 have b4:Below W3.heap.size W3 W4:=by rw[hW4];exact below_new _ _
 have r1:W4.heap[w.heap.size]?=some (.cells #[pgv b] 66 (0,0)):=P3.old_below (P3.old_below (P3.old_below (P3.old_below (P3.old_below (by rw[hW1];exact new_at _ _ _) b2) ba) bb) b3) b4
 have r2:W4.heap[W1.heap.size]?=some (.cells #[.int .i64 root] 3 (0,0)):=P3.old_below (P3.old_below (P3.old_below (P3.old_below (by rw[hW2];exact new_at _ _ _) ba) bb) b3) b4
 have ra:W4.heap[W2.heap.size]?=some (.cells #[.string key] 9 (0,0)):=P3.old_below (P3.old_below (P3.old_below (by rw[hWa];exact new_at _ _ _) bb) b3) b4
 have rb:W4.heap[Wa.heap.size]?=some (.cells #[.int .i64 most] 3 (0,0)):=P3.old_below (P3.old_below (by rw[hWb];exact new_at _ _ _) b3) b4
 have r3:W4.heap[Wb.heap.size]?=some (.cells #[.slice none 0 0] 27 (0,0)):=P3.old_below (by rw[hW3];exact new_at _ _ _) b4
 have r4:W4.heap[W3.heap.size]?=some (.cells #[.int .i64 0] 32 (0,0)):=by rw[hW4];exact new_at _ _ _
 have B4:Below w.heap.size w W4:=thenBelow (thenBelow (thenBelow (thenBelow (thenBelow b1 b2) ba) bb) b3) b4
 obtain⟨n3,hn3⟩:∃ n,n=Wb.heap.size:=⟨_,rfl⟩
 obtain⟨n4,hn4⟩:∃ n,n=W3.heap.size:=⟨_,rfl⟩
 have z1:=b1.size
 have z2:=b2.size
 have z3:=b3.size
 have za:=ba.size
 have zb:=bb.size
 have hne:n4≠n3:=by
  rw[hn3,hn4,hW3]
  simp
 rw[← hn3] at r3
 rw[← hn4] at r4
 obtain⟨W5,hW5⟩:∃ W5,W5=W4.alloc (.cells #[.int .i64 0] 32):=⟨_,rfl⟩
 have b5:Below W4.heap.size W4 W5:=by rw[hW5];exact below_new _ _
 have B5:=thenBelow B4 b5
 have r5:W5.heap[W4.heap.size]?=some (.cells #[.int .i64 0] 32 (0,0)):=by rw[hW5];exact new_at _ _ _
 have hcl:=items_cl W5 w.heap.size W1.heap.size W2.heap.size Wa.heap.size n3 n4 b vl vg M (h.below B5) hsz D root L ids ht hD hn hid hLl key most hmost (P3.old_below r1 b5) (P3.old_below r2 b5) (P3.old_below ra b5) (P3.old_below rb b5) (P3.old_below r3 b5) (P3.old_below r4 b5)
 rw[← hA] at hcl
 clear hA
 have hl3:=lt_of_block r3
 have hl4:=lt_of_block r4
 have hgd:Calls Tryz.prog 31 #[pgv b,.func (.func 38) #[] #[.pointer (some ⟨w.heap.size,0,none⟩),.pointer (some ⟨W1.heap.size,0,none⟩),.pointer (some ⟨W2.heap.size,0,none⟩),.pointer (some ⟨Wa.heap.size,0,none⟩),.pointer (some ⟨n3,0,none⟩),.pointer (some ⟨n4,0,none⟩)]] W4 fun e w'=>e=.returned (.int .i64 0)∧∃ v,w'.heap[n3]?=some (.cells #[v] 27 (0,0))∧w'.heap[n4]?=some (.cells #[.int .i64 0] 32 (0,0))∧OwnI w.heap.size w' v A∧Below w.heap.size w w':=by
  refine (guardItems W4 b _ _ _ _ _ _ 0 (fun w2=>∃ v,w2.heap[n3]?=some (.cells #[v] 27 (0,0))∧w2.heap[n4]?=some (.cells #[.int .i64 0] 32 (0,0))∧OwnI W5.heap.size w2 v A∧Below w.heap.size w w2) ?_).mono ?_
  ·rw[← hW5]
   refine hcl.mono ?_
   rintro e w' ⟨rfl,v,w2,g1,g2,rfl⟩
   have k3:=P3.old_below (P3.old_below r3 b5) g1
   have k4:=P3.old_below (P3.old_below r4 b5) g1
   refine⟨rfl,P3.old_set (P3.old_set (P3.old_below r5 g1) _ (by simp;omega) _) _ (by simp;omega) _,v,P3.old_set (P3.set_at k3 0 v) _ (by simp;omega) _,P3.set_at (P3.old_set k4 _ (by simp;omega) _) 0 _,?_,?_⟩
   ·have f:=(fr_set w2 n3 0 v).mono (T:=fun j=>j=n3∨j=n4) fun _ _ e=>.inl e
    have f2:=f.trans ((fr_set (w2.setCell ⟨n3,0,none⟩ v) n4 0 (.int .i64 0)).mono fun _ _ e=>.inr e)
    refine⟨owns_fr g2.1 f2 fun j e=>?_,g2.2⟩
    have:=g2.1.lt j e
    rcases g2.1.2 with ⟨rfl,_⟩|⟨g,cap,cur,rfl,q1,_⟩
    ·cases e
    ·simp only[Value.ownBlock,Option.some.injEq] at e
     have:=b5.size
     omega
   ·exact ((thenBelow B5 g1).setCell (p:=⟨n3,0,none⟩) (by show w.heap.size≤n3;omega) _).setCell (p:=⟨n4,0,none⟩) (by show w.heap.size≤n4;omega) _
  ·rintro e w' ⟨rfl,w2,⟨v,g1,g2,g3,g4⟩,g5,rfl⟩
   refine⟨rfl,v,P3.old_set g1 _ (by simp;omega) _,P3.old_set g2 _ (by simp;omega) _,?_,?_⟩
   ·refine⟨ownsRow_base_a (owns_fr g3.1 (fr_set w2 W4.heap.size 0 (.int .i64 0)) fun j e=>?_) B5.size,g3.2⟩
    rcases g3.1.2 with ⟨rfl,_⟩|⟨g,cap,cur,rfl,q1,_⟩
    ·cases e
    ·simp only[Value.ownBlock,Option.some.injEq] at e
     have:W5.heap.size=W4.heap.size+1:=by rw[hW5];simp
     omega
   ·exact g4.setCell (p:=⟨W4.heap.size,0,none⟩) (by show w.heap.size≤W4.heap.size;exact B4.size) _
 have HG:=qh hgd
 have hm1:w.heap.size≤n3:=by omega
 have hm2:w.heap.size≤n4:=by omega
 have o1:=cell_at r1 0
 simp only[qqD,qqE,qqF] at o1
 have e1:W1.heap.size=w.heap.size+1:=by rw[hW1];simp
 have e2:W2.heap.size=w.heap.size+1+1:=by rw[hW2];simp[e1]
 have ea:Wa.heap.size=w.heap.size+1+1+1:=by rw[hWa];simp[e2]
 have e3:n3=w.heap.size+1+1+1+1:=by rw[hn3,hWb];simp[ea]
 have e4:n4=w.heap.size+1+1+1+1+1:=by rw[hn4,hW3];simp[← hn3,e3]
 have hmf:∀ (fn:Fn) (first cap:Array Value) (w:World),(Instr.makeFunc fn first cap).run Tryz.prog w=.ok (.func fn first cap) w:=fun _ _ _ _=>rfl
 rw[e1,e2,ea] at HG
 unfold pgv at HG o1 hW1 ⊢
 have HE3:=qh e3
 have HE4:=qh e4
 clear h ht hn hcl hgd r1 r2 r3 r4 r5 b1 b2 b3 b4 b5 B4 B5 z1 z2 z3 hl3 hl4 hW5 e1 e2 ea ra rb ba bb za zb
 go_enter Tryz.func19,Tryz.ntmps19
 go_upto_region 1 with fail
 rw[← hW1,← hW2,← hWa,← hWb,← hW3,← hW4]
 rw[← e4,← e3]
 clear e3 e4 hn3 hn4 hW4 hW3 hWb hWa hW2 hW1
 go_upto_region 2 with (go_at_call 31;go_loud ((with_reducible refine HG.out.mono ?_);rintro e w5 ⟨rfl,v,g1,g2,g3,g4⟩;obtain⟨va,vc,rfl⟩:=row_slice g3.1;have c4:=cell_at g2 0;have f4:=free_at g2 0;have K1:=qh g1;have K2:=qh g2;have K3:=qh g3;have K4:=qh g4;clear g1 g2 g3 g4;(try simp only[qqD,qqE,qqF] at c4)))
 clear c4 f4 o1
 obtain⟨w6,hw6⟩:∃ w6,w6=w5.setCell ⟨n4,0,none⟩ (.int .i64 0):=⟨_,rfl⟩
 rw[← hw6]
 have q1:w6.heap[n3]?=some (.cells #[.slice va A.length vc] 27 (0,0)):=by rw[hw6];exact P3.old_set K1.out _ (Ne.symm hne) _
 have q2:w6.heap[n4]?=some (.cells #[.int .i64 0] 32 (0,0)):=by rw[hw6];exact P3.set_at K2.out 0 _
 have q3:P3.Fr (fun j=>j=n3∨j=n4) w5 w6:=by rw[hw6];exact (fr_set _ _ _ _).mono fun _ _ e=>.inr e
 clear hw6
 have p1:=cell_at q1 0
 have p2:=cell_at q2 0
 have p3:=free_at q1 0
 have p4:=free_at q2 0
 simp only[qqD,qqE,qqF] at p1 p2
 have T0:=qh q1
 have T1:=qh q2
 have Q3:=qh q3
 clear q1 q2 q3
 go_region
 obtain⟨w7,hw7⟩:∃ w7,w7=(w6.setCell ⟨n3,0,none⟩ (.slice va A.length vc)).setCell ⟨n4,0,none⟩ (.int .i64 0):=⟨_,rfl⟩
 have u1:w7.heap[n3]?=some (.cells #[.slice va A.length vc] 27 (0,0)):=by rw[hw7];exact P3.old_set (P3.set_at T0.out 0 _) _ (Ne.symm hne) _
 have u2:w7.heap[n4]?=some (.cells #[.int .i64 0] 32 (0,0)):=by rw[hw7];exact P3.set_at (P3.old_set T1.out _ hne _) 0 _
 have u3:P3.Fr (fun j=>j=n3∨j=n4) w5 w7:=by rw[hw7];exact Q3.out.trans (((fr_set _ _ _ _).mono fun _ _ e=>.inl e).trans ((fr_set _ _ _ _).mono fun _ _ e=>.inr e))
 rw[← hw7]
 clear hw7 p1 p2 p3 p4
 go_wp2
 have hnw:∀ j,(j=n3∨j=n4)→w.heap.size≤j:=fun j hj=>by
  rcases hj with rfl|rfl
  ·exact hm1
  ·exact hm2
 refine bodyPost_ret (items_result rfl _ _ n3 n4 _ 0 rfl rfl u1 u2) rfl ⟨_,rfl,?_,(P3.Fr.new K4.out u3 hnw).drew⟩
 have hr:OwnI w.heap.size w7 (.slice va A.length vc) A:=by
  refine⟨owns_fr K3.out.1 u3 fun j e hj=>?_,K3.out.2⟩
  rcases K3.out.1.2 with ⟨e1,_⟩|⟨g,cap,cur,e1,_,hg,_⟩
  ·rw[e1] at e
   cases e
  ·rw[e1] at e
   simp only[Value.ownBlock,Option.some.injEq] at e
   subst e
   rcases hj with rfl|rfl
   ·rw[K1.out] at hg
    cases hg
   ·rw[K2.out] at hg
    cases hg
 exact hr
end Go.Proofs.YtjepgclnbbpnaaaGreat.P12
namespace Go.Proofs.YtjepgclnbbpnaaaGreat.P12
open PK (qqA qqB qqC qqD qqE qqF tk tkS dOne qh)
open Go Go.RowKit Go.Lib PK Go.Maps Go.Shelf Go.Sort
open P11 (Pg)
open P9 (It kb kb_trans RightI lowK hasK putI dropI OwnI cellsI)
theorem get_cl(W:World)(n1 n2 na n3 n4 n5:Nat)(b:Nat)(vl vg:Value)(M:PM)(h:PAt W b vl vg M)(hsz:M.L.length≤100000)(D:Nat)(root:Int)(L:List It)(ids:List Int)(ht:Tree M D root L ids)(hD:D≤12)(hn:ids.Nodup)(key:ByteArray)(x:It)(hx1:hasK L key=true→L[lowK L key]?=some x)(hx2:hasK L key=false→x=⟨⟨#[]⟩,⟨#[]⟩,0⟩)
  (h1:W.heap[n1]?=some (.cells #[pgv b] 66 (0,0))) (h2:W.heap[n2]?=some (.cells #[.int .i64 root] 3 (0,0))) (ha:W.heap[na]?=some (.cells #[.string key] 9 (0,0))) (h3:W.heap[n3]?=some (.cells #[.string ⟨#[]⟩,.string ⟨#[]⟩,.int .i64 0] 29 (0,0))) (h4:W.heap[n4]?=some (.cells #[.bool false] 4 (0,0))) (h5:W.heap[n5]?=some (.cells #[.int .i64 0] 32 (0,0))) :
  Calls Tryz.prog 48 #[.pointer (some ⟨n1,0,none⟩),.pointer (some ⟨n2,0,none⟩),.pointer (some ⟨na,0,none⟩),.pointer (some ⟨n3,0,none⟩),.pointer (some ⟨n4,0,none⟩),.pointer (some ⟨n5,0,none⟩)] W fun e w'=>e=.returned (.int .i64 0)∧∃ w2,Below W.heap.size W w2∧w'=(((((w2.setCell ⟨n3,0,none⟩ (.string x.key)).setCell ⟨n3,1,none⟩ (.string x.val)).setCell ⟨n3,2,none⟩ (.int .i64 x.kind)).setCell ⟨n4,0,none⟩ (.bool (hasK L key))).setCell ⟨n5,0,none⟩ (.int .i64 0)):=by
 have hne:n4≠n3:=fun e=>by
  rw[e,h3] at h4
  cases h4
 have hne5:n5≠n3:=fun e=>by
  rw[e,h3] at h5
  cases h5
 have hne6:n5≠n4:=fun e=>by
  rw[e,h4] at h5
  cases h5
 have HI:=qh (tiGet_any W b vl vg M h hsz D root L ids ht hD hn key x hx1 hx2)
 obtain⟨t,ht9⟩:∃ t,t=hasK L key:=⟨_,rfl⟩
 rw[← ht9] at HI ⊢
 unfold pgv at HI h1
 unfold P9.It.v at HI
 have o1:=cell_at h1 0
 have o2:=cell_at h2 0
 have a0:=cell_at ha 0
 simp only[qqD,qqE,qqF] at o1 o2 a0
 have H3:=qh h3
 have H4:=qh h4
 have H5:=qh h5
 clear h h1 h2 ha h3 h4 h5 ht hn hx1 hx2 ht9
 go_enter Tryz.func48,Tryz.ntmps48
 go_wp2_with (first
  | (go_at_call 49;(with_reducible refine HI.out.mono ?_);rintro e w2 ⟨rfl,g1⟩;have k3:=P3.old_below H3.out g1;have c3:=cell_at k3 0;have c31:=cell_at k3 1;have c32:=cell_at k3 2;have f3:=free_at k3 0;have f31:=free_at k3 1;have f32:=free_at k3 2;have d4:=P3.old_set (P3.old_set (P3.old_set (P3.old_below H4.out g1) (⟨n3,0,none⟩:Addr) hne (.string x.key)) (⟨n3,1,none⟩:Addr) hne (.string x.val)) (⟨n3,2,none⟩:Addr) hne (.int .i64 x.kind);have c4:=cell_at d4 0;have f4:=free_at d4 0;have d5:=P3.old_set (P3.old_set (P3.old_set (P3.old_set (P3.old_below H5.out g1) (⟨n3,0,none⟩:Addr) hne5 (.string x.key)) (⟨n3,1,none⟩:Addr) hne5 (.string x.val)) (⟨n3,2,none⟩:Addr) hne5 (.int .i64 x.kind)) (⟨n4,0,none⟩:Addr) hne6 (.bool t);have c5:=cell_at d5 0;have f5:=free_at d5 0;have c6:=cell_at (P3.set_at d5 0 (.int .i64 0)) 0;have HB:=qh g1;clear g1 d4 d5 k3;(try simp only[qqD,qqE,qqF] at c3 c31 c32 c4 c5 c6)))
 go_ret
 exact⟨rfl,w2,HB.out,rfl⟩
theorem get_result{fn:Func}{q u z:Tmp}(h:fn.results=#[.cell q 29,.cell z 4,.cell u 32])(tmps:Array Value)(w:World)(a c b:Nat)(cs:Array Value)(t:Bool)(x:Int)(hq:tmps.getD q undef=.pointer (some ⟨a,0,none⟩))(hz:tmps.getD z undef=.pointer (some ⟨c,0,none⟩))(hu:tmps.getD u undef=.pointer (some ⟨b,0,none⟩))
  (hc:w.heap[a]?=some (.cells cs 29 (0,0))) (hs:cs.size=3) (ht:w.heap[c]?=some (.cells #[.bool t] 4 (0,0))) (hx:w.heap[b]?=some (.cells #[.int .i64 x] 32 (0,0))) :
  (results fn tmps).run Tryz.prog w=.ok (.tuple #[.agg cs,.bool t,.int .i64 x]) w:=by
 have hi:(Tryz.prog.info? 29).map (·.size)=some cs.size:=by rw[hs];kernel_rfl
 have e0:(results fn tmps).run Tryz.prog w=((asAddr (tmps.getD q undef)).run Tryz.prog w).andThen fun a w₁=>((loadVar 29 a).run Tryz.prog w₁).andThen fun v w₂=>((asAddr (tmps.getD z undef)).run Tryz.prog w₂).andThen fun c w₃=>((loadVar 4 c).run Tryz.prog w₃).andThen fun t w₄=>((asAddr (tmps.getD u undef)).run Tryz.prog w₄).andThen fun b w₅=>((loadVar 32 b).run Tryz.prog w₅).andThen fun y w₆=>.ok (.tuple #[v,t,y]) w₆:=by
  simp only[results,h]
  simp[Sem.run_bind,Result.andThen]
 have e1:∀ a:Nat,(asAddr (.pointer (some ⟨a,0,none⟩))).run Tryz.prog w=.ok ⟨a,0,none⟩ w:=fun _=>rfl
 have hc2:w.cell? ⟨b,0,none⟩=some (.int .i64 x):=by rw[cell_at hx];rfl
 have hc3:w.cell? ⟨c,0,none⟩=some (.bool t):=by rw[cell_at ht];rfl
 have e4:(loadVar 32 ⟨b,0,none⟩).run Tryz.prog w=.ok (.int .i64 x) w:=by
  simp[go_sem,loadVar,hc2]
 have e5:(loadVar 4 ⟨c,0,none⟩).run Tryz.prog w=.ok (.bool t) w:=by
  simp[go_sem,loadVar,hc3]
 rw[e0,hq,e1,Result.andThen_ok,run_loadVar_row (P:=Tryz.prog) w a 29 29 cs (0,0) _ hc Tryz.underlying29 rfl hi,Result.andThen_ok,hz,e1,Result.andThen_ok,e5,Result.andThen_ok,hu,e1,Result.andThen_ok,e4]
 rfl
def World.setIt(w:World)(n:Nat)(x:It):World:=((w.setCell ⟨n,0,none⟩ (.string x.key)).setCell ⟨n,1,none⟩ (.string x.val)).setCell ⟨n,2,none⟩ (.int .i64 x.kind)
theorem setIt_at{w:World}{n:Nat}{a0 a1 a2:Value}{t:TypeId}(h:w.heap[n]?=some (.cells #[a0,a1,a2] t (0,0)))(x:It):(World.setIt w n x).heap[n]?=some (.cells #[.string x.key,.string x.val,.int .i64 x.kind] t (0,0)):=by
 have h0:(w.setCell ⟨n,0,none⟩ (.string x.key)).heap[n]?=some (.cells #[.string x.key,a1,a2] t (0,0)):=P3.set_at h 0 _
 have h1:((w.setCell ⟨n,0,none⟩ (.string x.key)).setCell ⟨n,1,none⟩ (.string x.val)).heap[n]?=some (.cells #[.string x.key,.string x.val,a2] t (0,0)):=P3.set_at h0 1 _
 exact P3.set_at h1 2 _
theorem setIt_old{w:World}{n k:Nat}{o:Obj}(h:w.heap[k]?=some o)(hk:k≠n)(x:It):(World.setIt w n x).heap[k]?=some o:=
 P3.old_set (P3.old_set (P3.old_set h (⟨n,0,none⟩:Addr) hk _) (⟨n,1,none⟩:Addr) hk _) (⟨n,2,none⟩:Addr) hk _
theorem setIt_fr(w:World)(n:Nat)(x:It):P3.Fr (·=n) w (World.setIt w n x):=((fr_set _ _ _ _).trans (fr_set _ _ _ _)).trans (fr_set _ _ _ _)
theorem trGet_any(w:World)(b:Nat)(vl vg:Value)(M:PM)(h:PAt w b vl vg M)(hsz:M.L.length≤100000)(D:Nat)(root:Int)(L:List It)(ids:List Int)(ht:Tree M D root L ids)(hD:D≤12)(hn:ids.Nodup)(key:ByteArray)(x:It)(hx1:hasK L key=true→L[lowK L key]?=some x)(hx2:hasK L key=false→x=⟨⟨#[]⟩,⟨#[]⟩,0⟩) :
  Calls Tryz.prog 30 #[pgv b,.int .i64 root,.string key] w fun e w'=>e=.returned (.tuple #[x.v,.bool (hasK L key),.int .i64 0])∧Below w.heap.size w w':=by
 obtain⟨W1,hW1⟩:∃ W1,W1=w.alloc (.cells #[pgv b] 66):=⟨_,rfl⟩
 obtain⟨W2,hW2⟩:∃ W2,W2=W1.alloc (.cells #[.int .i64 root] 3):=⟨_,rfl⟩
 obtain⟨Wa,hWa⟩:∃ Wa,Wa=W2.alloc (.cells #[.string key] 9):=⟨_,rfl⟩
 obtain⟨W3,hW3⟩:∃ W3,W3=Wa.alloc (.cells #[.string ⟨#[]⟩,.string ⟨#[]⟩,.int .i64 0] 29):=⟨_,rfl⟩
 obtain⟨Wc,hWc⟩:∃ Wc,Wc=W3.alloc (.cells #[.bool false] 4):=⟨_,rfl⟩
 obtain⟨W4,hW4⟩:∃ W4,W4=Wc.alloc (.cells #[.int .i64 0] 32):=⟨_,rfl⟩
 have b1:Below w.heap.size w W1:=by rw[hW1];exact below_new _ _
 have b2:Below W1.heap.size W1 W2:=by rw[hW2];exact below_new _ _
 have ba:Below W2.heap.size W2 Wa:=by rw[hWa];exact below_new _ _
 have b3:Below Wa.heap.size Wa W3:=by rw[hW3];exact below_new _ _
 have bc:Below W3.heap.size W3 Wc:=by rw[hWc];exact below_new _ _
 have b4:Below Wc.heap.size Wc W4:=by rw[hW4];exact below_new _ _
 have r1:W4.heap[w.heap.size]?=some (.cells #[pgv b] 66 (0,0)):=P3.old_below (P3.old_below (P3.old_below (P3.old_below (P3.old_below (by rw[hW1];exact new_at _ _ _) b2) ba) b3) bc) b4
 have r2:W4.heap[W1.heap.size]?=some (.cells #[.int .i64 root] 3 (0,0)):=P3.old_below (P3.old_below (P3.old_below (P3.old_below (by rw[hW2];exact new_at _ _ _) ba) b3) bc) b4
 have ra:W4.heap[W2.heap.size]?=some (.cells #[.string key] 9 (0,0)):=P3.old_below (P3.old_below (P3.old_below (by rw[hWa];exact new_at _ _ _) b3) bc) b4
 have r3:W4.heap[Wa.heap.size]?=some (.cells #[.string ⟨#[]⟩,.string ⟨#[]⟩,.int .i64 0] 29 (0,0)):=P3.old_below (P3.old_below (by rw[hW3];exact new_at _ _ _) bc) b4
 have rc:W4.heap[W3.heap.size]?=some (.cells #[.bool false] 4 (0,0)):=P3.old_below (by rw[hWc];exact new_at _ _ _) b4
 have r4:W4.heap[Wc.heap.size]?=some (.cells #[.int .i64 0] 32 (0,0)):=by rw[hW4];exact new_at _ _ _
 have B4:Below w.heap.size w W4:=thenBelow (thenBelow (thenBelow (thenBelow (thenBelow b1 b2) ba) b3) bc) b4
 obtain⟨n3,hn3⟩:∃ n,n=Wa.heap.size:=⟨_,rfl⟩
 obtain⟨nc,hnc⟩:∃ n,n=W3.heap.size:=⟨_,rfl⟩
 obtain⟨n4,hn4⟩:∃ n,n=Wc.heap.size:=⟨_,rfl⟩
 have z1:=b1.size
 have z2:=b2.size
 have za:=ba.size
 have e1:W1.heap.size=w.heap.size+1:=by rw[hW1];simp
 have e2:W2.heap.size=w.heap.size+1+1:=by rw[hW2];simp[e1]
 have e3:n3=w.heap.size+1+1+1:=by rw[hn3,hWa];simp[e2]
 have ec:nc=w.heap.size+1+1+1+1:=by rw[hnc,hW3];simp[← hn3,e3]
 have e4:n4=w.heap.size+1+1+1+1+1:=by rw[hn4,hWc];simp[← hnc,ec]
 rw[← hn3] at r3
 rw[← hnc] at rc
 rw[← hn4] at r4
 obtain⟨W5,hW5⟩:∃ W5,W5=W4.alloc (.cells #[.int .i64 0] 32):=⟨_,rfl⟩
 have b5:Below W4.heap.size W4 W5:=by rw[hW5];exact below_new _ _
 have B5:=thenBelow B4 b5
 have r5:W5.heap[W4.heap.size]?=some (.cells #[.int .i64 0] 32 (0,0)):=by rw[hW5];exact new_at _ _ _
 have hps:=h.below_size
 have hl3:=lt_of_block r3
 have hlc:=lt_of_block rc
 have hl4:=lt_of_block r4
 have z5:W5.heap.size=W4.heap.size+1:=by rw[hW5];simp
 have zB:=B4.size
 have hcl:=get_cl W5 w.heap.size W1.heap.size W2.heap.size n3 nc n4 b vl vg M (h.below B5) hsz D root L ids ht hD hn key x hx1 hx2 (P3.old_below r1 b5) (P3.old_below r2 b5) (P3.old_below ra b5) (P3.old_below r3 b5) (P3.old_below rc b5) (P3.old_below r4 b5)
 have hgd:Calls Tryz.prog 31 #[pgv b,.func (.func 48) #[] #[.pointer (some ⟨w.heap.size,0,none⟩),.pointer (some ⟨W1.heap.size,0,none⟩),.pointer (some ⟨W2.heap.size,0,none⟩),.pointer (some ⟨n3,0,none⟩),.pointer (some ⟨nc,0,none⟩),.pointer (some ⟨n4,0,none⟩)]] W4 fun e w'=>e=.returned (.int .i64 0)∧w'.heap[n3]?=some (.cells #[.string x.key,.string x.val,.int .i64 x.kind] 29 (0,0))∧w'.heap[nc]?=some (.cells #[.bool (hasK L key)] 4 (0,0))∧w'.heap[n4]?=some (.cells #[.int .i64 0] 32 (0,0))∧Below w.heap.size w w':=by
  refine (guardGet W4 b _ _ _ _ _ _ 0 (fun w3=>w3.heap[n3]?=some (.cells #[.string x.key,.string x.val,.int .i64 x.kind] 29 (0,0))∧w3.heap[nc]?=some (.cells #[.bool (hasK L key)] 4 (0,0))∧w3.heap[n4]?=some (.cells #[.int .i64 0] 32 (0,0))∧Below w.heap.size w w3) ?_).mono ?_
  ·rw[← hW5]
   refine hcl.mono ?_
   rintro e w' ⟨rfl,w2,g,rfl⟩
   have k3:=P3.old_below (P3.old_below r3 b5) g
   have kc:=P3.old_below (P3.old_below rc b5) g
   have k4:=P3.old_below (P3.old_below r4 b5) g
   have k5:=P3.old_below r5 g
   have q:=setIt_at k3 x
   exact⟨rfl,P3.old_set (P3.old_set (setIt_old k5 (by omega) x) _ (by simp;omega) _) _ (by simp;omega) _,P3.old_set (P3.old_set q _ (by simp;omega) _) _ (by simp;omega) _,P3.old_set (P3.set_at (setIt_old kc (by omega) x) 0 _) _ (by simp;omega) _,P3.set_at (P3.old_set (setIt_old k4 (by omega) x) _ (by simp;omega) _) 0 _,
    P3.Fr.new (thenBelow B5 g) (S:=fun j=>j=n3∨j=nc∨j=n4) ((((setIt_fr w2 n3 x).mono fun _ _ e=>.inl e).trans ((fr_set _ _ _ _).mono fun _ _ e=>.inr (.inl e))).trans ((fr_set _ _ _ _).mono fun _ _ e=>.inr (.inr e))) fun j hj=>by omega⟩
  ·rintro e w' ⟨rfl,w3,⟨g1,g2,g3,g4⟩,g5,rfl⟩
   exact⟨rfl,P3.old_set g1 _ (by simp;omega) _,P3.old_set g2 _ (by simp;omega) _,P3.old_set g3 _ (by simp;omega) _,g4.setCell (p:=⟨W4.heap.size,0,none⟩) (by show w.heap.size≤W4.heap.size;exact B4.size) _⟩
 obtain⟨t,ht9⟩:∃ t,t=hasK L key:=⟨_,rfl⟩
 rw[← ht9] at hgd ⊢
 have HG:=qh hgd
 have hne3:nc≠n3:=by omega
 have hne4:n4≠n3:=by omega
 have hne5:n4≠nc:=by omega
 have HB5:=qh B5
 have HPs:=qh hps
 have HZ5:Hid (n3 < W5.heap.size∧nc < W5.heap.size∧n4 < W5.heap.size∧w.heap.size≤n3∧w.heap.size≤nc∧w.heap.size≤n4):=qh ⟨by omega,by omega,by omega,by omega,by omega,by omega⟩
 have o1:=cell_at r1 0
 simp only[qqD,qqE,qqF] at o1
 have hmf:∀ (fn:Fn) (first cap:Array Value) (w:World),(Instr.makeFunc fn first cap).run Tryz.prog w=.ok (.func fn first cap) w:=fun _ _ _ _=>rfl
 rw[e1,e2] at HG
 unfold pgv at HG o1 hW1 ⊢
 unfold P9.It.v
 clear h ht hn hcl hgd r1 r2 ra r3 rc r4 r5 b1 b2 ba b3 bc b4 b5 B4 B5 z1 z2 za z5 zB hl3 hlc hl4 hW5 e1 e2 hps hx1 hx2 ht9
 go_enter Tryz.func30,Tryz.ntmps30
 go_upto_region 1 with fail
 rw[← hW1,← hW2,← hWa,← hW3,← hWc,← hW4]
 rw[← e4,← ec,← e3]
 clear e3 ec e4 hn3 hnc hn4 hW4 hWc hW3 hWa hW2 hW1
 go_upto_region 2 with (go_at_call 31;(with_reducible refine HG.out.mono ?_);rintro e w5 ⟨rfl,g1,g2,g3,g4⟩;have c4:=cell_at g3 0;have f4:=free_at g3 0;have K1:=qh g1;have K2:=qh g2;have K3:=qh g3;have K4:=qh g4;clear g1 g2 g3 g4;(try simp only[qqD,qqE,qqF] at c4))
 clear c4 f4 o1
 obtain⟨w6,hw6⟩:∃ w6,w6=w5.setCell ⟨n4,0,none⟩ (.int .i64 0):=⟨_,rfl⟩
 rw[← hw6]
 have q1:w6.heap[n3]?=some (.cells #[.string x.key,.string x.val,.int .i64 x.kind] 29 (0,0)):=by rw[hw6];exact P3.old_set K1.out _ (Ne.symm hne4) _
 have q2:w6.heap[nc]?=some (.cells #[.bool t] 4 (0,0)):=by rw[hw6];exact P3.old_set K2.out _ (Ne.symm hne5) _
 have q3:w6.heap[n4]?=some (.cells #[.int .i64 0] 32 (0,0)):=by rw[hw6];exact P3.set_at K3.out 0 _
 have q4:P3.Fr (fun j=>j=n3∨j=nc∨j=n4) w5 w6:=by rw[hw6];exact (fr_set _ _ _ _).mono fun _ _ e=>.inr (.inr e)
 clear hw6
 have p1:=cell_at q1 0
 have p11:=cell_at q1 1
 have p12:=cell_at q1 2
 have p41:=free_at q1 1
 have p42:=free_at q1 2
 have p2:=cell_at q2 0
 have p3:=cell_at q3 0
 have p4:=free_at q1 0
 have p5:=free_at q2 0
 have p6:=free_at q3 0
 simp only[qqD,qqE,qqF] at p1 p11 p12 p2 p3
 have T1:=qh q1
 have T2:=qh q2
 have T3:=qh q3
 have T4:=qh q4
 clear q1 q2 q3 q4
 go_region
 obtain⟨w7,hw7⟩:∃ w7,w7=((World.setIt w6 n3 x).setCell ⟨nc,0,none⟩ (.bool t)).setCell ⟨n4,0,none⟩ (.int .i64 0):=⟨_,rfl⟩
 have u1:w7.heap[n3]?=some (.cells #[.string x.key,.string x.val,.int .i64 x.kind] 29 (0,0)):=by rw[hw7];exact P3.old_set (P3.old_set (setIt_at T1.out x) _ (Ne.symm hne3) _) _ (Ne.symm hne4) _
 have u2:w7.heap[nc]?=some (.cells #[.bool t] 4 (0,0)):=by rw[hw7];exact P3.old_set (P3.set_at (setIt_old T2.out hne3 x) 0 _) _ (Ne.symm hne5) _
 have u3:w7.heap[n4]?=some (.cells #[.int .i64 0] 32 (0,0)):=by rw[hw7];exact P3.set_at (P3.old_set (setIt_old T3.out hne4 x) _ hne5 _) 0 _
 have u4:P3.Fr (fun j=>j=n3∨j=nc∨j=n4) w5 w7:=by rw[hw7];exact T4.out.trans ((((setIt_fr _ _ _).mono fun _ _ e=>.inl e).trans ((fr_set _ _ _ _).mono fun _ _ e=>.inr (.inl e))).trans ((fr_set _ _ _ _).mono fun _ _ e=>.inr (.inr e)))
 unfold World.setIt at hw7
 rw[← hw7]
 clear hw7 p11 p12 p41 p42 p1 p2 p3 p4 p5 p6
 go_wp2
 have hz:=HZ5.out
 refine bodyPost_ret (get_result rfl _ _ n3 nc n4 _ t 0 rfl rfl rfl u1 rfl u2 u3) rfl ⟨rfl,?_⟩
 exact (P3.Fr.new K4.out u4 fun j hj=>by omega).drew
end Go.Proofs.YtjepgclnbbpnaaaGreat.P12
