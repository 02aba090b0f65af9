/-
  Texts of the proofs of SaidDrops12, SaidEmpt12, SaidOlds12.
-/
import Derived.Test.YtjepgclnbbpnaaaGreatMq41
set_option linter.unusedVariables false
set_option linter.unusedSimpArgs false
set_option maxHeartbeats 8000000
set_option maxRecDepth 100000
namespace Go.Proofs.YtjepgclnbbpnaaaGreat.P12
open PK (qqA qqB qqC qqD qqE qqF tk tkS dOne qh)
open Go Go.RowKit Go.Lib PK
open P9 (It IntsL roomOf room_any)
theorem room2_(w W:World)(r x y:Int)(hW:Below (w.alloc (.cells #[.int .i64 x,.int .i64 y] 3)).heap.size (w.alloc (.cells #[.int .i64 x,.int .i64 y] 3)) W)(hr:r≤20000)(hx:0≤x)(hy:0≤y) :
  Calls Tryz.prog 27 #[.int .i64 r,.slice (some ⟨w.heap.size,0,none⟩) 2 2] W fun e w'=>
   (∃ q,e=.returned (.int .i64 q)∧q≤20000)∧W=w':=by
 have hI:IntsL (w.alloc (.cells #[.int .i64 x,.int .i64 y] 3)) (.slice (some ⟨w.heap.size,0,none⟩) 2 2) [x,y]:=by
  refine⟨_,2,rfl,by simp,fun _=>⟨w.heap.size,0,rfl,by simp,fun i hi=>?_⟩⟩
  rw[Nat.zero_add,cell_at (new_at w _ _)]
  match i,hi with
  | 0,_=>rfl
  | 1,_=>rfl
 refine (room_any W r _ [x,y] (hI.below hW) (by omega) (fun i hi=>?_)).mono ?_
 ·match i,hi with
  | 0,_=>exact hx
  | 1,_=>exact hy
 ·rintro e w' ⟨rfl,rfl⟩
  refine⟨⟨_,rfl,?_⟩,rfl⟩
  simp only[roomOf]
  split <;> (try split) <;> omega
def LightP(w:World)(l:List Ac)(e:Ending)(w':World):Prop:=(∃ b,e=.returned (.bool b)∧(b=true→l.length≤250))∧Below w.heap.size w w'
theorem light12_any(w:World)(v:Value)(l:List Ac)(h:AcsIn w v l) :
  Calls Tryz.prog 8 #[v] w (LightP w l):=by
 obtain⟨a,c,rfl⟩:=h.slice
 have hl:=h.len
 have HR:=qh room2_
 have HA:=qh (fun (i:Nat) (x:Ac) (hi:l[i]?=some x)=>h.at_ hi)
 clear h
 go_enter Tryz.func8,Tryz.ntmps8
 go_wp2
 go_loopw [3,4] (fun vr vi wr=>∃ (k:Nat) (x:Int),k≤l.length∧vi=.int .i64 k∧vr=.int .i64 x∧x≤20000∧Hid (Below w.heap.size w wr)) (fun _ vi _=>l.length - (RowKit.intOf vi).toNat)
 case atStart=>exact⟨0,20000,Nat.zero_le _,rfl,rfl,by decide,Below.refl _ _⟩
 case round=>
  obtain⟨k,x,hk,rfl,rfl,hx,hB⟩:=hrel
  by_cases h1:k < l.length
  ·have i1:decide ((k:Int) < (l.length:Int))=true:=decide_eq_true (by omega)
   have i1':decide (k < l.length)=true:=decide_eq_true h1
   by_cases h2:k < 500
   ·have i2:decide ((k:Int) < 500)=true:=decide_eq_true (by omega)
    have i2':decide (k < 500)=true:=decide_eq_true h2
    by_cases h3:0≤x
    ·have i3:decide (0≤x)=true:=decide_eq_true h3
     obtain⟨o,ho⟩:∃ o,l[k]?=some o:=⟨_,List.getElem?_eq_getElem h1⟩
     obtain⟨b,off,rfl,hcc⟩:=HA.out k o ho
     have HXc:Hid (∀ W,Below w.heap.size w W→W.cell? ⟨b,off+k*4+1,none⟩=some (.string o.i.key)∧W.cell? ⟨b,off+k*4+2,none⟩=some (.string o.i.val)):=fun W hW=>⟨(hcc W hW).2.1,(hcc W hW).2.2.1⟩
     have HR2:Hid (∀ W,Below (wr.alloc (.cells #[.int .i64 (o.i.key.size:Nat),.int .i64 (o.i.val.size:Nat)] 3)).heap.size (wr.alloc (.cells #[.int .i64 (o.i.key.size:Nat),.int .i64 (o.i.val.size:Nat)] 3)) W→Calls Tryz.prog 27 #[.int .i64 x,.slice (some ⟨wr.heap.size,0,none⟩) 2 2] W fun e w'=>
       (∃ q,e=.returned (.int .i64 q)∧q≤20000)∧W=w'):=fun W hW=>HR.out wr W x (o.i.key.size:Nat) (o.i.val.size:Nat) hW hx (by omega) (by omega)
     have b0:(0:Int)≤(k:Int):=by omega
     have b1:(k:Int) < (l.length:Int):=by omega
     obtain⟨s,hs⟩:∃ s,s=o.i.key:=⟨_,rfl⟩
     obtain⟨t,ht⟩:∃ t,t=o.i.val:=⟨_,rfl⟩
     rw[← hs,← ht] at HR2 HXc
     have HG:=qh (fun (z1 z2:Int)=>grow hB.out (.cells #[.int .i64 z1,.int .i64 z2] 3))
     have HGd:=qh (fun (z1 z2:Int)=>grow (thenBelow hB.out (Below.refl _ _).drew) (.cells #[.int .i64 z1,.int .i64 z2] 3))
     clear hcc ho hs ht HR HA
     go_wp2
     go_region_held3 (fun W=>W.cell? ⟨b,off+k*4+1,none⟩=some (.string s)∧W.cell? ⟨b,off+k*4+2,none⟩=some (.string t)) (first|exact HXc.out _ (thenBelow hB.out (Below.refl _ _).drew)|exact HXc.out _ hB.out|exact HXc.out _ (HG.out _ _)|exact HXc.out _ (HGd.out _ _)|exact HXc.out _ (thenBelow (HG.out _ _) (Below.refl _ _).drew)) ((first|(go_at_call 27;(with_reducible refine (HR2.out _ (by first|exact (Below.refl _ _).drew|exact Below.refl _ _)).mono ?_);rintro e w2 ⟨⟨q,rfl,hq1⟩,rfl⟩;have HQ1:=qh hq1;clear hq1)))
     all_goals
      go_wp2
      go_roundw
      case rel=>exact⟨k+1,q,by omega,by go_num,rfl,HQ1.out,by first|exact HG.out _ _|exact HGd.out _ _|exact thenBelow (HG.out _ _) (Below.refl _ _).drew⟩
      case measure=>simp[RowKit.intOf];omega
    ·have i3:decide (0≤x)=false:=decide_eq_false h3
     by_cases h4:l.length≤250
     ·have i4:decide ((l.length:Int)≤250)=true:=decide_eq_true (by omega)
      have i4':decide (l.length≤250)=true:=decide_eq_true h4
      go_wp2
      go_ret
      exact⟨⟨false,rfl,fun h=>by cases h⟩,hB.out⟩
     ·have i4:decide ((l.length:Int)≤250)=false:=decide_eq_false (by omega)
      have i4':decide (l.length≤250)=false:=decide_eq_false h4
      go_wp2
      go_ret
      exact⟨⟨false,rfl,fun h=>by cases h⟩,hB.out⟩
   ·have i2:decide ((k:Int) < 500)=false:=decide_eq_false (by omega)
    have i2':decide (k < 500)=false:=decide_eq_false h2
    have i4:decide ((l.length:Int)≤250)=false:=decide_eq_false (by omega)
    have i4':decide (l.length≤250)=false:=decide_eq_false (by omega)
    go_wp2
    go_ret
    exact⟨⟨false,rfl,fun h=>by cases h⟩,hB.out⟩
  ·have e9:k=l.length:=by omega
   subst e9
   have i1:decide ((l.length:Int) < (l.length:Int))=false:=decide_eq_false (by omega)
   have i1':decide (l.length < l.length)=false:=decide_eq_false h1
   by_cases h4:l.length≤250
   ·have i4:decide ((l.length:Int)≤250)=true:=decide_eq_true (by omega)
    have i4':decide (l.length≤250)=true:=decide_eq_true h4
    by_cases h3:0≤x
    ·have i3:decide (0≤x)=true:=decide_eq_true h3
     go_wp2
     go_ret
     exact⟨⟨_,rfl,fun _=>h4⟩,hB.out⟩
    ·have i3:decide (0≤x)=false:=decide_eq_false h3
     go_wp2
     go_ret
     exact⟨⟨false,rfl,fun h=>by cases h⟩,hB.out⟩
   ·have i4:decide ((l.length:Int)≤250)=false:=decide_eq_false (by omega)
    have i4':decide (l.length≤250)=false:=decide_eq_false h4
    go_wp2
    go_ret
    exact⟨⟨false,rfl,fun h=>by cases h⟩,hB.out⟩
end Go.Proofs.YtjepgclnbbpnaaaGreat.P12
namespace Go.Proofs.YtjepgclnbbpnaaaGreat.P12
open PK (qqA qqB qqC qqD qqE qqF tk tkS dOne qh)
open Go Go.RowKit Go.Lib PK Go.Maps Go.Shelf Go.Sort
open P11 (Pg)
open P9 (It kb kb_trans RightI lowK OwnI cellsI)
theorem ints_result{fn:Func}{q u:Tmp}(h:fn.results=#[.cell q 42,.cell u 32])(tmps:Array Value)(w:World)(a b:Nat)(v:Value)(x:Int)(hq:tmps.getD q undef=.pointer (some ⟨a,0,none⟩))(hu:tmps.getD u undef=.pointer (some ⟨b,0,none⟩))
  (hc:w.heap[a]?=some (.cells #[v] 42 (0,0))) (hx:w.heap[b]?=some (.cells #[.int .i64 x] 32 (0,0))) :
  (results fn tmps).run Tryz.prog w=.ok (.tuple #[v,.int .i64 x]) w:=by
 have e0:(results fn tmps).run Tryz.prog w=((asAddr (tmps.getD q undef)).run Tryz.prog w).andThen fun a w₁=>((loadVar 42 a).run Tryz.prog w₁).andThen fun v w₂=>((asAddr (tmps.getD u undef)).run Tryz.prog w₂).andThen fun b w₃=>((loadVar 32 b).run Tryz.prog w₃).andThen fun y w₄=>.ok (.tuple #[v,y]) w₄:=by
  simp only[results,h]
  simp[Sem.run_bind,Result.andThen]
 have e1:(asAddr (.pointer (some ⟨a,0,none⟩))).run Tryz.prog w=.ok ⟨a,0,none⟩ w:=rfl
 have e2:(asAddr (.pointer (some ⟨b,0,none⟩))).run Tryz.prog w=.ok ⟨b,0,none⟩ w:=rfl
 have hc1:w.cell? ⟨a,0,none⟩=some v:=by rw[cell_at hc];rfl
 have hc2:w.cell? ⟨b,0,none⟩=some (.int .i64 x):=by rw[cell_at hx];rfl
 have e3:(loadVar 42 ⟨a,0,none⟩).run Tryz.prog w=.ok v w:=by
  simp[go_sem,loadVar,hc1]
 have e4:(loadVar 32 ⟨b,0,none⟩).run Tryz.prog w=.ok (.int .i64 x) w:=by
  simp[go_sem,loadVar,hc2]
 rw[e0,hq,e1,Result.andThen_ok,e3,Result.andThen_ok,hu,e2,Result.andThen_ok,e4]
 rfl
theorem trIds_any(w:World)(b:Nat)(vl vg:Value)(M:PM)(h:PAt w b vl vg M)(hsz:M.L.length≤100000)(D:Nat)(root:Int)(L:List It)(ids:List Int)(ht:Tree M D root L ids)(hD:D≤12)(hn:ids.Nodup)(hid:ids.length≤80000) :
  Calls Tryz.prog 20 #[pgv b,.int .i64 root] w fun e w'=>∃ v,e=.returned (.tuple #[v,.int .i64 0])∧w'.ownsRow w.heap.size 3 1 v ids.length ((sortZ ids).map encZ)∧Below w.heap.size w w':=by
 obtain⟨W1,hW1⟩:∃ W1,W1=w.alloc (.cells #[pgv b] 66):=⟨_,rfl⟩
 obtain⟨W2,hW2⟩:∃ W2,W2=W1.alloc (.cells #[.int .i64 root] 3):=⟨_,rfl⟩
 obtain⟨W3,hW3⟩:∃ W3,W3=W2.alloc (.cells #[.slice none 0 0] 42):=⟨_,rfl⟩
 obtain⟨W4,hW4⟩:∃ W4,W4=W3.alloc (.cells #[.int .i64 0] 32):=⟨_,rfl⟩
 have b1:Below w.heap.size w W1:=by rw[hW1];exact below_new _ _
 have b2:Below W1.heap.size W1 W2:=by rw[hW2];exact below_new _ _
 have b3:Below W2.heap.size W2 W3:=by rw[hW3];exact below_new _ _
 have b4:Below W3.heap.size W3 W4:=by rw[hW4];exact below_new _ _
 have r1:W4.heap[w.heap.size]?=some (.cells #[pgv b] 66 (0,0)):=P3.old_below (P3.old_below (P3.old_below (by rw[hW1];exact new_at _ _ _) b2) b3) b4
 have r2:W4.heap[W1.heap.size]?=some (.cells #[.int .i64 root] 3 (0,0)):=P3.old_below (P3.old_below (by rw[hW2];exact new_at _ _ _) b3) b4
 have r3:W4.heap[W2.heap.size]?=some (.cells #[.slice none 0 0] 42 (0,0)):=P3.old_below (by rw[hW3];exact new_at _ _ _) b4
 have r4:W4.heap[W3.heap.size]?=some (.cells #[.int .i64 0] 32 (0,0)):=by rw[hW4];exact new_at _ _ _
 have B4:Below w.heap.size w W4:=thenBelow (thenBelow (thenBelow b1 b2) b3) b4
 obtain⟨n3,hn3⟩:∃ n,n=W2.heap.size:=⟨_,rfl⟩
 obtain⟨n4,hn4⟩:∃ n,n=W3.heap.size:=⟨_,rfl⟩
 have z1:=b1.size
 have z2:=b2.size
 have z3:=b3.size
 have hne:n4≠n3:=by
  rw[hn3,hn4,hW3]
  simp
 rw[← hn3] at r3
 rw[← hn4] at r4
 obtain⟨W5,hW5⟩:∃ W5,W5=W4.alloc (.cells #[.int .i64 0] 32):=⟨_,rfl⟩
 have b5:Below W4.heap.size W4 W5:=by rw[hW5];exact below_new _ _
 have B5:=thenBelow B4 b5
 have r5:W5.heap[W4.heap.size]?=some (.cells #[.int .i64 0] 32 (0,0)):=by rw[hW5];exact new_at _ _ _
 have hcl:=ids_cl W5 w.heap.size W1.heap.size n3 n4 b vl vg M (h.below B5) hsz D root L ids ht hD hn hid (P3.old_below r1 b5) (P3.old_below r2 b5) (P3.old_below r3 b5) (P3.old_below r4 b5)
 have hl3:=lt_of_block r3
 have hl4:=lt_of_block r4
 have hgd:Calls Tryz.prog 31 #[pgv b,.func (.func 40) #[] #[.pointer (some ⟨w.heap.size,0,none⟩),.pointer (some ⟨W1.heap.size,0,none⟩),.pointer (some ⟨n3,0,none⟩),.pointer (some ⟨n4,0,none⟩)]] W4 fun e w'=>e=.returned (.int .i64 0)∧∃ v,w'.heap[n3]?=some (.cells #[v] 42 (0,0))∧w'.heap[n4]?=some (.cells #[.int .i64 0] 32 (0,0))∧w'.ownsRow w.heap.size 3 1 v ids.length ((sortZ ids).map encZ)∧Below w.heap.size w w':=by
  refine (guardIds W4 b _ _ _ _ 0 (fun w2=>∃ v,w2.heap[n3]?=some (.cells #[v] 42 (0,0))∧w2.heap[n4]?=some (.cells #[.int .i64 0] 32 (0,0))∧w2.ownsRow W5.heap.size 3 1 v ids.length ((sortZ ids).map encZ)∧Below w.heap.size w w2) ?_).mono ?_
  ·rw[← hW5]
   refine hcl.mono ?_
   rintro e w' ⟨rfl,v,w2,g1,g2,rfl⟩
   have k3:=P3.old_below (P3.old_below r3 b5) g1
   have k4:=P3.old_below (P3.old_below r4 b5) g1
   refine⟨rfl,P3.old_set (P3.old_set (P3.old_below r5 g1) _ (by simp;omega) _) _ (by simp;omega) _,v,P3.old_set (P3.set_at k3 0 v) _ (by simp;omega) _,P3.set_at (P3.old_set k4 _ (by simp;omega) _) 0 _,?_,?_⟩
   ·have f:=(fr_set w2 n3 0 v).mono (T:=fun j=>j=n3∨j=n4) fun _ _ e=>.inl e
    have f2:=f.trans ((fr_set (w2.setCell ⟨n3,0,none⟩ v) n4 0 (.int .i64 0)).mono fun _ _ e=>.inr e)
    refine owns_fr g2 f2 fun j e=>?_
    have:=g2.lt j e
    rcases g2.2 with ⟨rfl,_⟩|⟨g,cap,cur,rfl,q1,_⟩
    ·cases e
    ·simp only[Value.ownBlock,Option.some.injEq] at e
     have:=b5.size
     omega
   ·exact ((thenBelow B5 g1).setCell (p:=⟨n3,0,none⟩) (by show w.heap.size≤n3;omega) _).setCell (p:=⟨n4,0,none⟩) (by show w.heap.size≤n4;omega) _
  ·rintro e w' ⟨rfl,w2,⟨v,g1,g2,g3,g4⟩,g5,rfl⟩
   refine⟨rfl,v,P3.old_set g1 _ (by simp;omega) _,P3.old_set g2 _ (by simp;omega) _,?_,?_⟩
   ·refine ownsRow_base_a (owns_fr g3 (fr_set w2 W4.heap.size 0 (.int .i64 0)) fun j e=>?_) B5.size
    rcases g3.2 with ⟨rfl,_⟩|⟨g,cap,cur,rfl,q1,_⟩
    ·cases e
    ·simp only[Value.ownBlock,Option.some.injEq] at e
     have:W5.heap.size=W4.heap.size+1:=by rw[hW5];simp
     omega
   ·exact g4.setCell (p:=⟨W4.heap.size,0,none⟩) (by show w.heap.size≤W4.heap.size;exact B4.size) _
 have HG:=qh hgd
 have hm1:w.heap.size≤n3:=by omega
 have hm2:w.heap.size≤n4:=by omega
 have o1:=cell_at r1 0
 simp only[qqD,qqE,qqF] at o1
 have e1:W1.heap.size=w.heap.size+1:=by rw[hW1];simp
 have e3:n3=w.heap.size+1+1:=by rw[hn3,hW2];simp[e1]
 have e4:n4=w.heap.size+1+1+1:=by rw[hn4,hW3];simp[← hn3,e3]
 have hmf:∀ (fn:Fn) (first cap:Array Value) (w:World),(Instr.makeFunc fn first cap).run Tryz.prog w=.ok (.func fn first cap) w:=fun _ _ _ _=>rfl
 rw[e1] at HG
 unfold pgv at HG o1 hW1 ⊢
 have HE3:=qh e3
 have HE4:=qh e4
 clear h ht hn hcl hgd r1 r2 r3 r4 r5 b1 b2 b3 b4 b5 B4 B5 z1 z2 z3 hl3 hl4 hW5 e1
 go_enter Tryz.func20,Tryz.ntmps20
 go_upto_region 1 with fail
 rw[← hW1,← hW2,← hW3,← hW4]
 rw[← e4,← e3]
 clear e3 e4 hn3 hn4 hW4 hW3 hW2 hW1
 go_upto_region 2 with (go_at_call 31;go_loud ((with_reducible refine HG.out.mono ?_);rintro e w5 ⟨rfl,v,g1,g2,g3,g4⟩;obtain⟨va,vc,rfl⟩:=row_slice g3;have c4:=cell_at g2 0;have f4:=free_at g2 0;have K1:=qh g1;have K2:=qh g2;have K3:=qh g3;have K4:=qh g4;clear g1 g2 g3 g4;(try simp only[qqD,qqE,qqF] at c4)))
 clear c4 f4 o1
 obtain⟨w6,hw6⟩:∃ w6,w6=w5.setCell ⟨n4,0,none⟩ (.int .i64 0):=⟨_,rfl⟩
 rw[← hw6]
 have q1:w6.heap[n3]?=some (.cells #[.slice va ids.length vc] 42 (0,0)):=by rw[hw6];exact P3.old_set K1.out _ (Ne.symm hne) _
 have q2:w6.heap[n4]?=some (.cells #[.int .i64 0] 32 (0,0)):=by rw[hw6];exact P3.set_at K2.out 0 _
 have q3:P3.Fr (fun j=>j=n3∨j=n4) w5 w6:=by rw[hw6];exact (fr_set _ _ _ _).mono fun _ _ e=>.inr e
 clear hw6
 have p1:=cell_at q1 0
 have p2:=cell_at q2 0
 have p3:=free_at q1 0
 have p4:=free_at q2 0
 simp only[qqD,qqE,qqF] at p1 p2
 have T0:=qh q1
 have T1:=qh q2
 have Q3:=qh q3
 clear q1 q2 q3
 go_region
 obtain⟨w7,hw7⟩:∃ w7,w7=(w6.setCell ⟨n3,0,none⟩ (.slice va ids.length vc)).setCell ⟨n4,0,none⟩ (.int .i64 0):=⟨_,rfl⟩
 have u1:w7.heap[n3]?=some (.cells #[.slice va ids.length vc] 42 (0,0)):=by rw[hw7];exact P3.old_set (P3.set_at T0.out 0 _) _ (Ne.symm hne) _
 have u2:w7.heap[n4]?=some (.cells #[.int .i64 0] 32 (0,0)):=by rw[hw7];exact P3.set_at (P3.old_set T1.out _ hne _) 0 _
 have u3:P3.Fr (fun j=>j=n3∨j=n4) w5 w7:=by rw[hw7];exact Q3.out.trans (((fr_set _ _ _ _).mono fun _ _ e=>.inl e).trans ((fr_set _ _ _ _).mono fun _ _ e=>.inr e))
 rw[← hw7]
 clear hw7 p1 p2 p3 p4
 go_wp2
 have hnw:∀ j,(j=n3∨j=n4)→w.heap.size≤j:=fun j hj=>by
  rcases hj with rfl|rfl
  ·exact hm1
  ·exact hm2
 refine bodyPost_ret (ints_result rfl _ _ n3 n4 _ 0 rfl rfl u1 u2) rfl ⟨_,rfl,?_,(P3.Fr.new K4.out u3 hnw).drew⟩
 have hr:w7.ownsRow w.heap.size 3 1 (.slice va ids.length vc) ids.length ((sortZ ids).map encZ):=by
  refine owns_fr K3.out u3 fun j e hj=>?_
  rcases K3.out.2 with ⟨e1,_⟩|⟨g,cap,cur,e1,_,hg,_⟩
  ·rw[e1] at e
   cases e
  ·rw[e1] at e
   simp only[Value.ownBlock,Option.some.injEq] at e
   subst e
   rcases hj with rfl|rfl
   ·rw[K1.out] at hg
    cases hg
   ·rw[K2.out] at hg
    cases hg
 exact hr
end Go.Proofs.YtjepgclnbbpnaaaGreat.P12
namespace Go.Proofs.YtjepgclnbbpnaaaGreat.PK
open Go Go.RowKit Go.Lib
def kInts:Kd where
 e:=3
 n:=1
 te:=42
 p:=2
 ok:=fun y=>∃ (x:Int),y=[.int .i64 x]
 mark:=fun i k=>[.int .i64 (-1000000*(i:Int) - (k:Int) - 7)]
 len:=by rintro _ ⟨x,rfl⟩;rfl
 one:=by
  rintro _ ⟨x,rfl⟩ u hu
  simp only[List.mem_cons,List.not_mem_nil,or_false] at hu
  subst hu
  rfl
 mok:=fun i k=>⟨_,rfl⟩
 pos:=by decide
theorem sameInts_same(w:World)(u v:Value)(l:List (List Value))(h1:ElemsIn kInts w u l)(h2:ElemsIn kInts w v l) :
  Calls Tryz.prog 26 #[u,v] w fun e w'=>e=.returned (.bool true)∧Below w.heap.size w w':=by
 obtain⟨a,c,rfl,_,hl,hok,hc⟩:=h1
 obtain⟨a2,c2,rfl,_,_,_,hc2⟩:=h2
 go_enter Tryz.func26,Tryz.ntmps26
 go_wp2
 go_loopw [5] (fun i wr=>∃ k q:Nat,k≤l.length∧i=.int .i64 k∧wr=w.drewN q) (fun i _=>l.length - (RowKit.intOf i).toNat)
 case atStart=>exact⟨0,0,Nat.zero_le _,rfl,rfl⟩
 case round=>
  obtain⟨k,q,hk,rfl,rfl⟩:=hrel
  by_cases hlt:k < l.length
  ·obtain⟨b,off,rfl,hb,hcc⟩:=hc (by omega)
   obtain⟨b2,off2,rfl,hb2,hcc2⟩:=hc2 (by omega)
   obtain⟨y,hy⟩:∃ y,l[k]?=some y:=⟨_,List.getElem?_eq_getElem hlt⟩
   obtain⟨x,rfl⟩:=hok y (List.mem_of_getElem? hy)
   have c0:w.cell? ⟨b,off+k,none⟩=some (.int .i64 x):=by
    have h9:=hcc k _ hy 0 _ rfl
    rwa[show off+(k*kInts.n+0)=off+k by show off+(k*1+0)=off+k;omega] at h9
   have d0:w.cell? ⟨b2,off2+k,none⟩=some (.int .i64 x):=by
    have h9:=hcc2 k _ hy 0 _ rfl
    rwa[show off2+(k*kInts.n+0)=off2+k by show off2+(k*1+0)=off2+k;omega] at h9
   have kk:(k:Int) < (l.length:Int):=by omega
   have kk0:(0:Int)≤(k:Int):=by omega
   have e0:(x == x)=true:=beq_self_eq_true _
   clear hcc hcc2 hc hc2 hy hok
   go_wp2
   go_quiet (fail)
   go_wp2
   go_roundw
   case rel=>exact⟨k+1,_,by omega,by go_num,rfl⟩
   case measure=>simp[RowKit.intOf];omega
  ·clear hc hc2 hok
   go_wp2
   go_ret
   exact⟨rfl,⟨rfl,rfl,rfl,Nat.le_refl _,fun _ _=>rfl⟩⟩
end Go.Proofs.YtjepgclnbbpnaaaGreat.PK
namespace Go.Proofs.YtjepgclnbbpnaaaGreat.P7
open PK (qqA qqB qqC qqD qqE qqF tk tkS dOne qh)
open Go Go.RowKit Go.Lib PK
def il(l:List Int):List (List Value):=l.map fun x=>[.int .i64 x]
theorem il_length(l:List Int):(il l).length=l.length:=by simp[il]
theorem il_ok(l:List Int):Oks kInts (il l):=fun x hx=>by
 obtain⟨z,_,rfl⟩:=List.mem_map.1 hx
 exact⟨z,rfl⟩
theorem il_flat(l:List Int):(il l).flatten=l.map (Value.int .i64):=by
 induction l with
 | nil=>rfl
 | cons x l ih=>
  show [Value.int .i64 x]++(il l).flatten=_
  rw[ih];rfl
theorem ints_one(l:List Int):∀ u∈l.map (Value.int .i64),u.oneCell'=true:=fun u hu=>by
 obtain⟨x,_,rfl⟩:=List.mem_map.1 hu
 rfl
def IL(w:World)(v:Value)(l:List Int):Prop:=
 ∃ a c,v=.slice a l.length c∧(a=none→c=0)∧l.length≤9223372036854775807∧(0 < l.length→∃ b off,a=some ⟨b,off,none⟩∧b < w.heap.size∧∀ (i:Nat) (x:Int),l[i]?=some x→w.cell? ⟨b,off+i,none⟩=some (.int .i64 x))
theorem IL.nil(w:World):IL w (.slice none 0 0) []:=⟨none,0,rfl,fun _=>rfl,by simp,fun h=>absurd h (Nat.lt_irrefl _)⟩
theorem IL.below{w w':World}{v:Value}{l:List Int}(h:IL w v l)(hb:Below w.heap.size w w'):IL w' v l:=by
 obtain⟨a,c,h1,hn,hl,h2⟩:=h
 refine⟨a,c,h1,hn,hl,fun h0=>?_⟩
 obtain⟨b,off,h3,h4,h5⟩:=h2 h0
 exact⟨b,off,h3,Nat.lt_of_lt_of_le h4 hb.size,fun i x hi=>by rw[hb.cell (p:=⟨b,off+i,none⟩) h4];exact h5 i x hi⟩
theorem IL.elems{w:World}{v:Value}{l:List Int}(h:IL w v l):ElemsIn kInts w v (il l):=by
 obtain⟨a,c,h1,hn,hl,h2⟩:=h
 refine⟨a,c,by rw[il_length];exact h1,hn,by rw[il_length];exact hl,il_ok l,fun h0=>?_⟩
 rw[il_length] at h0
 obtain⟨b,off,h3,h4,h5⟩:=h2 h0
 refine⟨b,off,h3,h4,fun i x hi j u hj=>?_⟩
 unfold il at hi
 rw[List.getElem?_map] at hi
 obtain⟨z,hz,rfl⟩:=Option.map_eq_some_iff.1 hi
 have hj0:j=0:=by have:=(List.getElem?_eq_some_iff.1 hj).1;simpa using this
 subst hj0
 obtain rfl:Value.int .i64 z=u:=by simpa using hj
 rw[show off+(i*kInts.n+0)=off+i by show off+(i*1+0)=off+i;omega]
 exact h5 i z hz
abbrev iRow(v:Value)(l:List Int):Row:=tRow kInts v (il l)
theorem iRow_owns{w:World}{lo:Nat}{v:Value}{l:List Int}:(iRow v l).At w lo↔w.ownsRow lo 3 1 v l.length (l.map (Value.int .i64)):=by
 unfold Row.At iRow tRow
 rw[il_length,il_flat]
 exact Iff.rfl
theorem iRow_il{w:World}{lo:Nat}{v:Value}{l:List Int}(h:(iRow v l).At w lo)(hl:l.length≤9223372036854775807):IL w v l:=by
 have h':=iRow_owns.1 h
 rcases h'.2 with ⟨rfl,h0⟩|⟨g,cap,cur,rfl,hlo,hg,_⟩
 ·obtain rfl:=List.eq_nil_of_length_eq_zero h0
  exact IL.nil w
 ·refine⟨_,cap,rfl,(fun e=>by cases e),hl,fun _=>⟨g,0,rfl,lt_of_block hg,fun i x hi=>?_⟩⟩
  rw[Nat.zero_add]
  have:=h'.cells (show (Value.slice (some ⟨g,0,none⟩) l.length cap).ownBlock=some g from rfl) i (.int .i64 x) (by rw[List.getElem?_map,hi];rfl)
  rwa[Go.WideShapes.add_plain,Nat.zero_add] at this
theorem not_take{l:List Int}{k:Nat}{x y:Int}(h:x∉l.take k)(hy:l[k]?=some y)(hne:y≠x):x∉l.take (k+1):=by
 rw[List.take_add_one,hy]
 intro hm
 rcases List.mem_append.1 hm with q|q
 ·exact h q
 ·simp at q;exact hne q.symm
theorem in_any(w:World)(v:Value)(l:List Int)(x:Int)(h:IL w v l) :
  Calls Tryz.prog 22 #[v,.int .i64 x] w fun e w'=>e=.returned (.bool (decide (x∈l)))∧w=w':=by
 obtain⟨d,hd⟩:∃ d,d=decide (x∈l):=⟨_,rfl⟩
 rw[← hd]
 obtain⟨a,c,rfl,_,hl,hc⟩:=h
 have HD:=qh hd
 clear hd
 go_enter Tryz.func22,Tryz.ntmps22
 go_wp2
 go_loop [5] (fun i=>∃ k:Nat,k≤l.length∧i=.int .i64 k∧Hid (x∉l.take k)) (fun i=>l.length - (RowKit.intOf i).toNat)
 case atStart=>exact⟨0,Nat.zero_le _,rfl,by show x∉l.take 0;simp⟩
 case round=>
  obtain⟨k,hk,rfl,hN⟩:=hrel
  by_cases hlt:k < l.length
  ·obtain⟨b,off,rfl,hb,hcc⟩:=hc (by omega)
   obtain⟨y,hy⟩:∃ y,l[k]?=some y:=⟨_,List.getElem?_eq_getElem hlt⟩
   have hcell:=hcc k y hy
   have HY:=qh hy
   have kk:(k:Int) < (l.length:Int):=by omega
   have kk0:(0:Int)≤(k:Int):=by omega
   clear hcc hc hy
   by_cases e:y=x
   ·have he:(y == x)=true:=beq_iff_eq.2 e
    have hdt:Hid (d=true):=HD.out.trans (decide_eq_true (e ▸ List.mem_of_getElem? HY.out))
    clear e
    go_wp2
    go_ret
    exact⟨by rw[hdt.out];rfl,rfl⟩
   ·have he:(y == x)=false:=beq_eq_false_iff_ne.2 e
    have hN2:Hid (x∉l.take (k+1)):=not_take hN.out HY.out e
    clear e
    go_wp2
    go_round
    case rel=>exact⟨k+1,by omega,by go_num,hN2⟩
    case measure=>simp[RowKit.intOf];omega
  ·have hdf:Hid (d=false):=HD.out.trans (decide_eq_false (by have:=hN.out;rwa[List.take_of_length_le (by omega)] at this))
   clear hc hN
   go_wp2
   go_ret
   exact⟨by rw[hdf.out];rfl,rfl⟩
theorem infoI7:(Tryz.prog.info? 3).map (fun i=>(i.zero,i.size,i.bytes))=some (some (.int .i64 0),1,8):=by kernel_rfl
end Go.Proofs.YtjepgclnbbpnaaaGreat.P7
