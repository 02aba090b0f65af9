/-
  Texts of the proofs of SaidDrops12, SaidEmpt12, SaidOlds12.
-/
import Derived.Test.YtjepgclnbbpnaaaGreatMq43
set_option linter.unusedVariables false
set_option linter.unusedSimpArgs false
set_option maxHeartbeats 8000000
set_option maxRecDepth 100000
namespace Go.Proofs.YtjepgclnbbpnaaaGreat.P12
open PK (qqA qqB qqC qqD qqE qqF tk tkS dOne qh)
open Go Go.RowKit Go.Lib PK Go.Maps Go.Shelf Go.Sort
open P11 (Pg)
open P9 (It kb kb_trans RightI lowK OwnI cellsI)
theorem drop_cl(W:World)(n1 n2:Nat)(b:Nat)(vl vg:Value)(M:PM)(h:PAt W b vl vg M)(hsz:M.L.length≤100000)(D:Nat)(root:Int)(L:List It)(ids:List Int)(ht:Tree M D root L ids)(hD:D≤12)(hn:ids.Nodup)(hid:ids.length≤80000)(hgv:M.given.length+ids.length≤100000)
  (h1:W.heap[n1]?=some (.cells #[pgv b] 66 (0,0))) (h2:W.heap[n2]?=some (.cells #[.int .i64 root] 3 (0,0))) :
  Calls Tryz.prog 42 #[.pointer (some ⟨n1,0,none⟩),.pointer (some ⟨n2,0,none⟩)] W fun e w'=>e=.returned (.int .i64 0)∧∃ w2 vg',Below W.heap.size W w2∧FrS w2 b vl vg vg' (M.free (sortZ ids)) w':=by
 have HI:=qh (tiIds_any W b vl vg M h hsz D root L ids ht hD hn hid)
 have hf:∀ w2 v,Below W.heap.size W w2→w2.ownsRow W.heap.size 3 1 v ids.length ((sortZ ids).map encZ)→Calls Tryz.prog 43 #[pgv b,v] w2 fun e w'=>∃ vg',e=.returned (.tuple #[])∧FrS w2 b vl vg vg' (M.free (sortZ ids)) w':=fun w2 v k1 k2=>by
  refine tiFree_any w2 b vl vg v M (sortZ ids) (h.below k1) (fun w' f=>?_) (by rw[sortZ_len];exact hgv)
  have hr:w2.ownsRow W.heap.size 3 1 v (sortZ ids).length (cellsZ (sortZ ids)):=by rw[sortZ_len];exact k2
  refine OwnN_ns (lo:=W.heap.size) (owns_fr hr f fun j e hp=>?_) (by rw[sortZ_len];omega)
  obtain⟨cs,t,e1,_⟩:=h.cells_ hp
  have:=lt_of_block e1
  rcases hr.2 with ⟨rfl,_⟩|⟨g,cap,cur,rfl,q1,_⟩
  ·cases e
  ·simp only[Value.ownBlock,Option.some.injEq] at e
   omega
 have HF:=qh hf
 unfold pgv at HI h1 HF
 have o1:=cell_at h1 0
 have o2:=cell_at h2 0
 simp only[qqD,qqE,qqF] at o1 o2
 have H1:=qh h1
 clear h h1 h2 ht hn hf
 go_enter Tryz.func42,Tryz.ntmps42
 go_wp2_with (first
  | (go_at_call 41;(with_reducible refine HI.out.mono ?_);rintro e w2 ⟨v,rfl,g1,g2⟩;have HR:=qh g1;obtain⟨va,vc,rfl⟩:=row_slice g1;have c3:=cell_at (P3.old_below H1.out g2) 0;have HB:=qh g2;clear g1 g2;(try simp only[qqD,qqE,qqF] at c3))
  | (go_at_call 43;(with_reducible refine (HF.out _ _ HB.out HR.out).mono ?_);rintro e w3 ⟨vg',rfl,g1⟩;have HS:=qh g1;clear g1))
 go_ret
 exact⟨rfl,w2,vg',HB.out,HS.out⟩
theorem trDrop_any(w:World)(b:Nat)(vl vg:Value)(M:PM)(h:PAt w b vl vg M)(hsz:M.L.length≤100000)(D:Nat)(root:Int)(L:List It)(ids:List Int)(ht:Tree M D root L ids)(hD:D≤12)(hn:ids.Nodup)(hid:ids.length≤80000)(hgv:M.given.length+ids.length≤100000) :
  Calls Tryz.prog 24 #[pgv b,.int .i64 root] w fun e w'=>e=.returned (.int .i64 0)∧∃ vg',FrS w b vl vg vg' (M.free (sortZ ids)) w':=by
 obtain⟨W1,hW1⟩:∃ W1,W1=w.alloc (.cells #[pgv b] 66):=⟨_,rfl⟩
 obtain⟨W2,hW2⟩:∃ W2,W2=W1.alloc (.cells #[.int .i64 root] 3):=⟨_,rfl⟩
 have b1:Below w.heap.size w W1:=by rw[hW1];exact below_new _ _
 have b2:Below W1.heap.size W1 W2:=by rw[hW2];exact below_new _ _
 have r1:W2.heap[w.heap.size]?=some (.cells #[pgv b] 66 (0,0)):=P3.old_below (by rw[hW1];exact new_at _ _ _) b2
 have r2:W2.heap[W1.heap.size]?=some (.cells #[.int .i64 root] 3 (0,0)):=by rw[hW2];exact new_at _ _ _
 have B2:Below w.heap.size w W2:=thenBelow b1 b2
 obtain⟨W5,hW5⟩:∃ W5,W5=W2.alloc (.cells #[.int .i64 0] 32):=⟨_,rfl⟩
 have b5:Below W2.heap.size W2 W5:=by rw[hW5];exact below_new _ _
 have B5:=thenBelow B2 b5
 have r5:W5.heap[W2.heap.size]?=some (.cells #[.int .i64 0] 32 (0,0)):=by rw[hW5];exact new_at _ _ _
 have z5:W5.heap.size=W2.heap.size+1:=by rw[hW5];simp
 have zB:=B2.size
 have hps:∀ j,PS b vl vg j→j < w.heap.size:=fun j hj=>by
  obtain⟨cs,t,e1,_⟩:=h.cells_ hj
  exact lt_of_block e1
 have hcl:=drop_cl W5 w.heap.size W1.heap.size b vl vg M (h.below B5) hsz D root L ids ht hD hn hid hgv (P3.old_below r1 b5) (P3.old_below r2 b5)
 have hgd:Calls Tryz.prog 31 #[pgv b,.func (.func 42) #[] #[.pointer (some ⟨w.heap.size,0,none⟩),.pointer (some ⟨W1.heap.size,0,none⟩)]] W2 fun e w'=>e=.returned (.int .i64 0)∧∃ vg',FrS w b vl vg vg' (M.free (sortZ ids)) w':=by
  refine (guardDrop W2 b _ _ 0 (fun w3=>∃ w2 vg',Below W5.heap.size W5 w2∧FrS w2 b vl vg vg' (M.free (sortZ ids)) w3) ?_).mono ?_
  ·rw[← hW5]
   refine hcl.mono ?_
   rintro e w' ⟨rfl,w2,vg',g1,g2⟩
   refine⟨rfl,g2.fr.keep (P3.old_below r5 g1) (fun hp=>?_),w2,vg',g1,g2⟩
   have:=hps _ hp
   omega
  ·rintro e w' ⟨rfl,w3,⟨w2,vg',g1,g2⟩,g5,rfl⟩
   have hb:Below w.heap.size w w2:=thenBelow B5 g1
   have hz:=g1.size
   have hnp:∀ j,PS b vl vg' j→¬ (j=W2.heap.size):=fun j hj e=>by
    rcases hj with hj|hj|hj
    ·have:=hps j (.inl hj)
     omega
    ·have:=hps j (.inr (.inl hj))
     omega
    ·rcases g2.own j hj with h9|h9
     ·have:=hps j (.inr (.inr h9))
      omega
     ·omega
   refine⟨rfl,vg',g2.pa.fr (fr_set w3 W2.heap.size 0 (.int .i64 0)) hnp,?_,fun j hj=>?_⟩
   ·have f1:P3.Fr (PS b vl vg) w w3:=frThen (P3.Fr.of hb) g2.fr fun _ _ e=>e
    exact frThen f1 (fr_set w3 W2.heap.size 0 (.int .i64 0)) fun j hj e=>by omega
   ·rcases g2.own j hj with h9|h9
    ·exact .inl h9
    ·exact .inr (Nat.le_trans hb.size h9)
 have HG:=qh hgd
 have o1:=cell_at r1 0
 simp only[qqD,qqE,qqF] at o1
 have e1:W1.heap.size=w.heap.size+1:=by rw[hW1];simp
 have hmf:∀ (fn:Fn) (first cap:Array Value) (w:World),(Instr.makeFunc fn first cap).run Tryz.prog w=.ok (.func fn first cap) w:=fun _ _ _ _=>rfl
 rw[e1] at HG
 unfold pgv at HG o1 hW1 ⊢
 clear h ht hn hcl hgd r1 r2 r5 b1 b2 b5 B2 B5 z5 zB hps hW5 e1
 go_enter Tryz.func24,Tryz.ntmps24
 go_upto_region 1 with fail
 rw[← hW1,← hW2]
 clear hW1 hW2
 go_wp2_with (go_at_call 31;(with_reducible refine HG.out.mono ?_);rintro e w5 ⟨rfl,vg',g1⟩;have K1:=qh g1;clear g1)
 go_ret
 exact⟨rfl,vg',K1.out⟩
end Go.Proofs.YtjepgclnbbpnaaaGreat.P12
namespace Go.Proofs.YtjepgclnbbpnaaaGreat.P12
open PK (qqA qqB qqC qqD qqE qqF tk tkS dOne qh)
open Go Go.RowKit Go.Lib PK
open P11 (Pg)
open P9 (It kb RightI lowK hasK putI dropI)
open P7 (IL iRow iRow_owns iRow_il putS lowN)
theorem drops_walk (w:World) (v:Value) (l:List Ac) (hA:AcsIn w v l) :
  Calls Tryz.prog 5 #[v] w fun e w'=>e=.returned (.bool true)∧Below w.heap.size w w':=by
 have HAl:=qh (fun w=>alive_any w)
 have HLi:=qh (light12_any w v l hA)
 obtain⟨a,c,rfl⟩:=hA.slice
 have HA:=qh hA
 have hlen:=hA.len
 clear hA
 go_enter Tryz.func5,Tryz.ntmps5
 go_upto_region 1 with fail
 go_cut [17] from 11 to 17 (fun v W=>∃ b,v=.bool b∧Hid (b=false→l.length≤250)∧Hid (Below w.heap.size w W))
 case first=>
  go_wp2_with (first
   | (go_at_call 8;(with_reducible refine HLi.out.mono ?_);rintro e w2 ⟨⟨b1,rfl,h1⟩,hb⟩;have H1:=qh h1;have HB2:=qh hb;clear h1 hb)
   | (go_at_call 9;(with_reducible refine (HAl.out _).mono ?_);rintro e w4 ⟨rfl,hb⟩;have HB4:=qh (thenBelow HB2.out hb);clear hb))
  all_goals
   go_meet
   first
    | exact⟨true,rfl,qh (fun h=>by cases h),HB2⟩
    | exact⟨false,rfl,qh (fun _=>H1.out (by assumption)),HB4⟩
    | exact⟨false,rfl,qh (fun _=>H1.out rfl),HB4⟩
 case rest=>
  obtain⟨b,rfl,hOk,hB⟩:=hcut
  cases b with
  | true=>
   go_wp2_with (go_at_call 9;(with_reducible refine (HAl.out _).mono ?_);rintro e w5 ⟨rfl,hb⟩;have HB5:=qh (thenBelow hB.out hb);clear hb)
   go_ret
   exact⟨rfl,HB5.out⟩
  | false=>
   have hl250:=hOk.out rfl
   clear HLi HAl hOk
   go_upto_region 6 with (go_at_call 10;(with_reducible refine (fresh_any _).mono ?_);rintro e w1 ⟨rfl,h1,hb⟩;have HL0:=qh (Live.fresh h1 hB.out.size (thenBelow hB.out hb));clear h1 hb)
   obtain⟨b,hb⟩:∃ b,b=wc.heap.size:=⟨_,rfl⟩
   rw[← hb] at HL0 ⊢
   clear hb hB
   go_loopw [4,5] (fun vr vi wr=>∃ (k:Nat) (r:Int),k≤l.length∧vi=.int .i64 k∧vr=.int .i64 r∧Hid (Live w b r (actsL (l.take k)) k wr)) (fun _ vi _=>l.length - (RowKit.intOf vi).toNat)
   case atStart=>exact⟨0,0,Nat.zero_le _,rfl,rfl,HL0⟩
   case round=>
    clear HL0
    obtain⟨k,r,hk,rfl,rfl,HL⟩:=hrel
    by_cases hlt:k < l.length
    ·obtain⟨o,ho⟩:∃ o,l[k]?=some o:=⟨_,List.getElem?_eq_getElem hlt⟩
     obtain⟨g,off,rfl,hc⟩:=HA.out.at_ ho
     obtain⟨c0,c1,c2,c3⟩:=hc wr HL.out.bel
     have k1:decide ((k:Int) < (l.length:Int))=true:=decide_eq_true (by omega)
     have k2:(k:Int) < (l.length:Int):=by omega
     have k3:(0:Int)≤(k:Int):=by omega
     have HN:=qh (actsL_next ho)
     have HAc:=qh (HL.out.act (by omega) o)
     unfold Ac.v at HAc
     clear hc ho
     go_wp2_with (go_at_call 18;(with_reducible refine HAc.out.mono ?_);rintro e w2 ⟨r2,rfl,h2⟩;have HL2:=qh h2;clear h2)
     go_roundw
     case rel=>exact⟨k+1,r2,by omega,by go_num,rfl,by rw[HN.out];exact HL2⟩
     case measure=>simp[RowKit.intOf];omega
    ·obtain rfl:k=l.length:=by omega
     have k1:decide ((l.length:Int) < (l.length:Int))=false:=decide_eq_false (by omega)
     have hL9:=HL.out
     obtain⟨vl,vg,M,D,ids,P,p,q,h1,t,hpq,h4,h5,-⟩:=hL9
     have hnd:=t.pool.ids_nodup
     have hidl:ids.length≤500:=by have:=t.idsl;have:=t.llen;omega
     have HIds:=qh (trIds_any wr b vl vg M h1 (by have:=t.szl;omega) D r _ ids t.tree (by have:=t.deep;omega) hnd (by omega))
     have HP1:=qh h1
     have HT:=qh t
     have H4:=qh h4
     have H5:=qh h5
     unfold pgv at HIds
     clear h1 t h4 h5 HL hpq
     go_upto_region 10 with (go_at_call 20;(with_reducible refine HIds.out.mono ?_);rintro e w2 ⟨v2,rfl,h2,hb⟩;have HRow:=qh h2;obtain⟨a2,c2,rfl⟩:=row_slice h2;have HB2:=qh hb;clear h2 hb)
     obtain⟨Z,hZ⟩:∃ Z,Z=sortZ ids:=⟨_,rfl⟩
     obtain⟨n,hn⟩:∃ n,n=ids.length:=⟨_,rfl⟩
     have hZl:Z.length=n:=by rw[hZ,hn];exact sortZ_len ids
     have hZs:Z.Pairwise (fun x y=>x < y):=by rw[hZ];exact sortZ_strict hnd
     rw[← hn] at hidl ⊢
     have p2:=HP1.out.below HB2.out
     obtain⟨e1,f1⟩:=p2.emptied
     have x2:=p2.cells.2.2.1
     have x2f:=free_at p2.obj 2
     have HRow2:Hid (w2.ownsRow wr.heap.size 3 1 (.slice a2 n c2) n (cellsZ Z)):=qh (by have:=HRow.out;rw[← hn,← hZ] at this;exact this)
     obtain⟨W3,hW3⟩:∃ W3,W3=w2.setCell ⟨b,2,none⟩ (.slice none 0 0):=⟨_,rfl⟩
     rw[← hW3] at e1 f1
     have hps:∀ j,PS b vl vg j→j < wr.heap.size:=fun j hj=>by
      obtain⟨cs,t,e9,_⟩:=HP1.out.cells_ hj
      exact lt_of_block e9
     have hrn:∀ {W W':World} {S:Nat→Prop},P3.Fr S W W'→(∀ j,S j→j < wr.heap.size∨w2.heap.size≤j∧False)→W.ownsRow wr.heap.size 3 1 (.slice a2 n c2) n (cellsZ Z)→W'.ownsRow wr.heap.size 3 1 (.slice a2 n c2) n (cellsZ Z):=fun f hS h=>owns_fr h f fun j e hj=>by
      have:=(h.lt j e).1
      rcases hS j hj with h9|h9
      ·omega
      ·exact h9.2
     have HRow3:=qh (hrn f1 (fun j e=>.inl (by have e:j=b:=e;rw[e];exact hps b (.inl rfl))) HRow2.out)
     have HDr:=qh (trDrop_any W3 b vl (.slice none 0 0) M.emptied e1 (by show M.L.length≤100000;have:=HT.out.szl;omega) D r _ ids (HT.out.tree.frame fun j _=>PM.get_eq fun _=>rfl) (by have:=HT.out.deep;omega) hnd (by omega) (by show 0+ids.length≤100000;omega))
     have HPl:=qh HT.out.pool.all
     rw[← hZ] at HDr HPl
     have HF1:=qh f1
     have hB3:Below w.heap.size w W3:=by rw[hW3];exact (thenBelow H5.out HB2.out).setCell (p:=⟨b,2,none⟩) (H4.out b (.inl rfl)) _
     have HB3:=qh hB3
     unfold pgv at HDr
     have HHps:=qh hps
     have HHrn:=qh (fun (W W':World) (S:Nat→Prop) (f:P3.Fr S W W') (hS:∀ j,S j→j < wr.heap.size∨W3.heap.size≤j∧False) h=>owns_fr (w:=W) (w':=W') (S:=S) (lo:=wr.heap.size) (e:=3) (n:=1) (m:=n) (v:=.slice a2 n c2) (xs:=cellsZ Z) h f fun j e hj=>by
      have:=(h.lt j e).1
      rcases hS j hj with h9|h9
      ·omega
      ·exact h9.2)
     have HZs:=qh hZs
     have HZl:=qh hZl
     clear p2 e1 f1 hps hrn hZ hn hZl hZs hB3 HIds HRow
     go_upto_region 11 with fail
     rw[← hW3]
     clear hW3 x2 x2f
     go_upto_region 14 with (go_at_call 24;(with_reducible refine HDr.out.mono ?_);rintro e w4 ⟨rfl,vg',h4⟩;have HS4:=qh h4;clear h4)
     obtain⟨M4,hM4⟩:∃ M4,M4=M.emptied.free Z:=⟨_,rfl⟩
     have hg4:M4.given=Z:=by rw[hM4,PM.free_len];rfl
     have HP4:=HS4.out.pa
     have hPl:=HPl.out
     rw[← hM4] at HP4 hPl
     have hns:∀ j,PS b vl (.slice none 0 0) j→j < wr.heap.size∧w.heap.size≤j:=fun j hj=>by
      rcases hj with hj|hj|hj
      ·exact⟨HHps.out j (.inl hj),H4.out j (.inl hj)⟩
      ·exact⟨HHps.out j (.inr (.inl hj)),H4.out j (.inr (.inl hj))⟩
      ·cases hj
     have HB4:=qh (P3.Fr.new HB3.out HS4.out.fr fun j hj=>(hns j hj).2)
     have HRow4:=qh (HHrn.out W3 w4 _ HS4.out.fr (fun j hj=>.inl (hns j hj).1) HRow3.out)
     obtain⟨ga,gc,hvg⟩:∃ ga gc,vg'=.slice ga n gc:=by
      obtain⟨ga,gc,e⟩:=HP4.gslice
      exact⟨ga,gc,by rw[e,hg4,HZl.out]⟩
     rw[hvg] at HP4
     have HIl:Hid (IL w4 (.slice ga n gc) Z):=qh (by have:=il_row HP4.rg (by rw[hg4,HZl.out];omega);rwa[hg4] at this)
     have HCs:Hid (∀ W,Below w4.heap.size w4 W→W.cell? ⟨b,2,none⟩=some (.slice ga n gc)∧W.cell? ⟨b,3,none⟩=some (.bool false)∧W.cell? ⟨b,4,none⟩=some (.bool false)):=qh (fun W hW=>by
      have:=(HP4.below hW).cells
      rw[hPl.bad,hPl.twice] at this
      exact⟨this.2.2.1,this.2.2.2.1,this.2.2.2.2.1⟩)
     obtain⟨W0h,hW0h⟩:∃ n,n=wr.heap.size:=⟨_,rfl⟩
     rw[← hW0h] at HRow4
     clear hW0h hM4 hg4 HP4 hPl hns hvg HS4 HRow3 HHrn HDr HPl HF1 HRow2 HB3 HHps HP1 HT H4 H5 HB2 hnd HA k1 hlt hk
     have s0:(iRow (.slice none 0 0) (Z.take 0)).At w4 w4.heap.size:=iRow_owns.2 (World.ownsRow_nil _ _ _ _)
     have HS0:=qh s0
     clear s0
     go_loopw [9,10] (fun vu vi wr=>∃ (k:Nat) (ua:Option Addr) (uc:Nat),k≤n∧vi=.int .i64 k∧vu=.slice ua k uc∧Hid ((iRow (.slice ua k uc) (Z.take k)).At wr w4.heap.size)∧Hid (Below w4.heap.size w4 wr)) (fun _ vi _=>n - (RowKit.intOf vi).toNat)
     case atStart=>exact⟨0,none,0,Nat.zero_le _,rfl,rfl,HS0,Below.refl _ _⟩
     case round=>
      clear HS0
      obtain⟨k,ua,uc,hk,rfl,rfl,HU,HB⟩:=hrel
      obtain⟨x2,x3,x4⟩:=HCs.out _ HB.out
      by_cases hlt:k < n
      ·obtain⟨x,hx⟩:∃ x,Z[k]?=some x:=⟨_,List.getElem?_eq_getElem (by rw[HZl.out];exact hlt)⟩
       obtain⟨ga',gc',e9,_,_,hil⟩:=HIl.out
       obtain⟨gb,go,rfl,hgb,hgc⟩:=hil (by rw[HZl.out];omega)
       simp only[Value.slice.injEq] at e9
       obtain⟨rfl,-,-⟩:=e9
       have x5:wr.cell? ⟨gb,go+k,none⟩=some (.int .i64 x):=(HB.out.cell (p:=⟨gb,go+k,none⟩) hgb).trans (hgc k x hx)
       have k1:decide ((k:Int) < (n:Int))=true:=decide_eq_true (by omega)
       have k2:(k:Int) < (n:Int):=by omega
       have k3:(0:Int)≤(k:Int):=by omega
       have HPu:Hid (Calls Tryz.prog 25 #[.slice ua k uc,.int .i64 x] wr fun e w'=>∃ va vc,e=.returned (.slice va (k+1:Nat) vc)∧(iRow (.slice va (k+1:Nat) vc) (Z.take (k+1))).At w' w4.heap.size∧Below wr.heap.size wr w'):=qh (by
        refine (P7.put_row wr w4.heap.size _ (Z.take k) x HU.out HB.out.size (by rw[List.length_take];omega)).mono ?_
        rintro e w' ⟨u,rfl,g1,g2⟩
        rw[putS_rise HZs.out hx] at g1
        obtain⟨va,vc,rfl⟩:=row_slice (iRow_owns.1 g1)
        have hlk:(Z.take (k+1)).length=k+1:=by rw[List.length_take,HZl.out];omega
        rw[hlk] at g1 ⊢
        exact⟨va,vc,rfl,g1,g2⟩)
       clear hx hgc hil
       go_wp2_with (go_at_call 25;(with_reducible refine HPu.out.mono ?_);rintro e w6 ⟨va,vc,rfl,g1,hb⟩;have HU2:=qh g1;have HB6:=qh (thenBelow HB.out hb);clear g1 hb)
       go_roundw
       case rel=>exact⟨k+1,va,vc,by omega,by go_num,rfl,HU2,HB6⟩
       case measure=>simp[RowKit.intOf];omega
      ·obtain rfl:k=n:=by omega
       have k1:decide ((k:Int) < (k:Int))=false:=decide_eq_false (by omega)
       have HSm:Hid (Calls Tryz.prog 26 #[.slice ua k uc,.slice a2 k c2] wr fun e w'=>e=.returned (.bool true)∧Below wr.heap.size wr w'):=qh (by
        have h1:=HU.out
        rw[List.take_of_length_le (by rw[HZl.out];omega)] at h1
        have h2:=iRow_il h1 (by rw[HZl.out];omega)
        have h3:IL w4 (.slice a2 k c2) Z:=il_row (lo:=W0h) (by rw[HZl.out];exact HRow4.out) (by rw[HZl.out];omega)
        exact PK.sameInts_same wr _ _ (P7.il Z) h2.elems (h3.below HB.out).elems)
       go_wp2_with (go_at_call 26;(with_reducible refine HSm.out.mono ?_);rintro e w6 ⟨rfl,hb⟩;have HB6:=qh (thenBelow HB4.out (thenBelow HB.out hb));clear hb)
       go_ret
       exact⟨rfl,HB6.out⟩
end Go.Proofs.YtjepgclnbbpnaaaGreat.P12
