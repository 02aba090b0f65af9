/-
  Texts of the proofs of SaidPlays12.
-/
import Derived.Test.YtjepgclnbbpnaaaGreatMr42
import Derived.Lib.SmallJoins
set_option linter.unusedVariables false
set_option linter.unusedSimpArgs false
set_option maxHeartbeats 8000000
set_option maxRecDepth 100000
namespace Go.Proofs.YtjepgclnbbpnaaaGreat.P12
open PK (qqA qqB qqC qqD qqE qqF tk tkS dOne qh)
open Go Go.RowKit Go.Lib PK
open P11 (Pg)
open P9 (It kb kb_trans RightI lowK OwnI cellsI)
theorem tiCheck_any(w:World)(b:Nat)(vl vg:Value)(M:PM)(h:PAt w b vl vg M)(hsz:M.L.length≤100000)(D:Nat)(root:Int)(L:List It)(ids:List Int)(ht:Tree M D root L ids)(hD:D≤12)(hn:ids.Nodup)(hid:ids.length≤80000) :
  Calls Tryz.prog 45 #[pgv b,.int .i64 root] w fun e w'=>e=.returned (.int .i64 0)∧Below w.heap.size w w':=by
 have ho:∀ W,Calls Tryz.prog 52 #[pgv b] W fun e w'=>∃ s mb,e=.returned (.pointer (some ⟨s,0,none⟩))∧SkAt w' none b s mb (.slice none 0 0) [] []∧W.heap.size≤s∧W.heap.size≤mb∧Below W.heap.size W w':=fun W=>
  (on_any W none b).mono fun e w' ⟨g1,g2,g3⟩=>⟨W.heap.size+1,W.heap.size,g1,g2,Nat.le_succ _,Nat.le_refl _,g3⟩
 have hl:∀ (W:World) (s mb b1 b2 b3:Nat),Below w.heap.size w W→SkAt W none b s mb (.slice none 0 0) [] []→w.heap.size≤s∧w.heap.size≤mb→W.heap[b1]?=some (.cells #[.int .i64 0] 3 (0,0))→W.heap[b2]?=some (.cells #[.string ⟨#[]⟩] 9 (0,0))→W.heap[b3]?=some (.cells #[.bool true] 4 (0,0))→(w.heap.size≤b1∧w.heap.size≤b2∧w.heap.size≤b3)→_:=fun W s mb b1 b2 b3 k1 k2 k3 k4 k5 k6 k7=>leaves_check w W b s mb vl vg M h k1 k2 k3 hsz D root L ids ht hD hn hid b1 b2 b3 k4 k5 k6 k7
 have HO:=qh ho
 have HL:=qh hl
 unfold pgv at HO ⊢
 clear ho hl h ht hn
 obtain⟨W3,hW3⟩:∃ W3,W3=((w.alloc (.cells #[.int .i64 0] 3)).alloc (.cells #[.string ⟨#[]⟩] 9)).alloc (.cells #[.bool true] 4):=⟨_,rfl⟩
 have B3:Below w.heap.size w W3:=by rw[hW3];exact thenBelow (thenBelow (below_new _ _) (below_new _ _)) (below_new _ _)
 have r1:W3.heap[w.heap.size]?=some (.cells #[.int .i64 0] 3 (0,0)):=by rw[hW3];exact P3.old_below (P3.old_below (new_at _ _ _) (below_new _ _)) (below_new _ _)
 have r2:W3.heap[w.heap.size+1]?=some (.cells #[.string ⟨#[]⟩] 9 (0,0)):=by
  rw[hW3]
  have:=P3.old_below (new_at (w.alloc (.cells #[.int .i64 0] 3)) #[.string ⟨#[]⟩] 9) (below_new _ (.cells #[.bool true] 4))
  simpa using this
 have r3:W3.heap[w.heap.size+1+1]?=some (.cells #[.bool true] 4 (0,0)):=by
  rw[hW3]
  have:=new_at ((w.alloc (.cells #[.int .i64 0] 3)).alloc (.cells #[.string ⟨#[]⟩] 9)) #[.bool true] 4
  simpa using this
 have hmf:∀ (fn:Fn) (first cap:Array Value) (w:World),(Instr.makeFunc fn first cap).run Tryz.prog w=.ok (.func fn first cap) w:=fun _ _ _ _=>rfl
 have HB:=qh B3
 have R1:=qh r1
 have R2:=qh r2
 have R3:=qh r3
 clear B3 r1 r2 r3
 go_enter Tryz.func45,Tryz.ntmps45
 go_upto_region 2 with fail
 rw[← hW3]
 clear hW3
 go_upto_region 3 with (first
  | (go_at_call 52;(with_reducible refine (HO.out _).mono ?_);rintro e w3 ⟨s,mb,rfl,g1,g2,g3,g4⟩;have H3:=qh g4;have K3:=qh g1;have HSs:Hid (W3.heap.size≤s∧W3.heap.size≤mb):=qh ⟨g2,g3⟩;clear g1 g2 g3 g4)
  | (go_at_call 59;(with_reducible refine (HL.out _ s mb _ _ _ (thenBelow HB.out H3.out) K3.out ⟨Nat.le_trans HB.out.size HSs.out.1,Nat.le_trans HB.out.size HSs.out.2⟩ (P3.old_below R1.out H3.out) (P3.old_below R2.out H3.out) (P3.old_below R3.out H3.out) ⟨Nat.le_refl _,by omega,by omega⟩).mono ?_);rintro e w4 ⟨rfl,g1,g2⟩;have H4:=qh g1;have V4:=qh g2;clear g1 g2))
 have o4:=cell_at V4.out 0
 simp only[qqD,qqE,qqF] at o4
 go_wp2
 go_ret
 exact⟨rfl,H4.out⟩
theorem check_cl(W:World)(n1 n2:Nat)(b:Nat)(vl vg:Value)(M:PM)(h:PAt W b vl vg M)(hsz:M.L.length≤100000)(D:Nat)(root:Int)(L:List It)(ids:List Int)(ht:Tree M D root L ids)(hD:D≤12)(hn:ids.Nodup)(hid:ids.length≤80000)
  (h1:W.heap[n1]?=some (.cells #[pgv b] 66 (0,0))) (h2:W.heap[n2]?=some (.cells #[.int .i64 root] 3 (0,0))) :
  Calls Tryz.prog 44 #[.pointer (some ⟨n1,0,none⟩),.pointer (some ⟨n2,0,none⟩)] W fun e w'=>e=.returned (.int .i64 0)∧Below W.heap.size W w':=by
 have HI:=qh (tiCheck_any W b vl vg M h hsz D root L ids ht hD hn hid)
 unfold pgv at HI h1
 have o1:=cell_at h1 0
 have o2:=cell_at h2 0
 simp only[qqD,qqE,qqF] at o1 o2
 clear h h1 h2 ht hn
 go_enter Tryz.func44,Tryz.ntmps44
 go_wp2_with (go_at_call 45;(with_reducible refine HI.out.mono ?_);rintro e w2 ⟨rfl,g2⟩;have HB:=qh g2;clear g2)
 go_ret
 exact⟨rfl,HB.out⟩
theorem trCheck_any(w:World)(b:Nat)(vl vg:Value)(M:PM)(h:PAt w b vl vg M)(hsz:M.L.length≤100000)(D:Nat)(root:Int)(L:List It)(ids:List Int)(ht:Tree M D root L ids)(hD:D≤12)(hn:ids.Nodup)(hid:ids.length≤80000) :
  Calls Tryz.prog 28 #[pgv b,.int .i64 root] w fun e w'=>e=.returned (.int .i64 0)∧Below w.heap.size w w':=by
 obtain⟨W1,hW1⟩:∃ W1,W1=w.alloc (.cells #[pgv b] 66):=⟨_,rfl⟩
 obtain⟨W2,hW2⟩:∃ W2,W2=W1.alloc (.cells #[.int .i64 root] 3):=⟨_,rfl⟩
 have b1:Below w.heap.size w W1:=by rw[hW1];exact below_new _ _
 have b2:Below W1.heap.size W1 W2:=by rw[hW2];exact below_new _ _
 have r1:W2.heap[w.heap.size]?=some (.cells #[pgv b] 66 (0,0)):=P3.old_below (by rw[hW1];exact new_at _ _ _) b2
 have r2:W2.heap[W1.heap.size]?=some (.cells #[.int .i64 root] 3 (0,0)):=by rw[hW2];exact new_at _ _ _
 have B2:Below w.heap.size w W2:=thenBelow b1 b2
 obtain⟨W5,hW5⟩:∃ W5,W5=W2.alloc (.cells #[.int .i64 0] 32):=⟨_,rfl⟩
 have b5:Below W2.heap.size W2 W5:=by rw[hW5];exact below_new _ _
 have B5:=thenBelow B2 b5
 have r5:W5.heap[W2.heap.size]?=some (.cells #[.int .i64 0] 32 (0,0)):=by rw[hW5];exact new_at _ _ _
 have zB:=B2.size
 have hcl:=check_cl W5 w.heap.size W1.heap.size b vl vg M (h.below B5) hsz D root L ids ht hD hn hid (P3.old_below r1 b5) (P3.old_below r2 b5)
 have hgd:Calls Tryz.prog 31 #[pgv b,.func (.func 44) #[] #[.pointer (some ⟨w.heap.size,0,none⟩),.pointer (some ⟨W1.heap.size,0,none⟩)]] W2 fun e w'=>e=.returned (.int .i64 0)∧Below w.heap.size w w':=by
  refine (guardCheck W2 b _ _ 0 (fun w3=>Below W5.heap.size W5 w3) ?_).mono ?_
  ·rw[← hW5]
   refine hcl.mono ?_
   rintro e w' ⟨rfl,g1⟩
   exact⟨rfl,P3.old_below r5 g1,g1⟩
  ·rintro e w' ⟨rfl,w3,g1,g5,rfl⟩
   exact⟨rfl,(thenBelow B5 g1).setCell (p:=⟨W2.heap.size,0,none⟩) zB _⟩
 have HG:=qh hgd
 have o1:=cell_at r1 0
 simp only[qqD,qqE,qqF] at o1
 have e1:W1.heap.size=w.heap.size+1:=by rw[hW1];simp
 have hmf:∀ (fn:Fn) (first cap:Array Value) (w:World),(Instr.makeFunc fn first cap).run Tryz.prog w=.ok (.func fn first cap) w:=fun _ _ _ _=>rfl
 rw[e1] at HG
 unfold pgv at HG o1 hW1 ⊢
 clear h ht hn hcl hgd r1 r2 r5 b1 b2 b5 B2 B5 zB hW5 e1
 go_enter Tryz.func28,Tryz.ntmps28
 go_upto_region 1 with fail
 rw[← hW1,← hW2]
 clear hW1 hW2
 go_wp2_with (go_at_call 31;(with_reducible refine HG.out.mono ?_);rintro e w5 ⟨rfl,g1⟩;have K1:=qh g1;clear g1)
 go_ret
 exact⟨rfl,K1.out⟩
end Go.Proofs.YtjepgclnbbpnaaaGreat.P12
namespace Go.Proofs.YtjepgclnbbpnaaaGreat.P12
open PK (qqA qqB qqC qqD qqE qqF tk tkS dOne qh)
open Go Go.RowKit Go.Lib PK
open P11 (Pg)
open P9 (It ItsIn kb RightI lowK hasK putI dropI putI_right dropI_right putI_len)
theorem TrS.tells{w:World}{b:Nat}{vl vg:Value}{M:PM}{D:Nat}{root:Int}{L:List It}{ids P:List Int}{p q:Nat}(h:PAt w b vl vg M)(t:TrS M D root L ids P p q)(key:ByteArray)(x:It)(hx1:hasK L key=true→L[lowK L key]?=some x)(hx2:hasK L key=false→x=⟨⟨#[]⟩,⟨#[]⟩,0⟩):Tells w b root L key D x where
 items W hb k m hk hm:=by
  refine (trItems_any W b vl vg M (h.below hb) (by have:=t.szl;omega) D root L ids t.tree (by have:=t.deep;omega) t.pool.ids_nodup (by have:=t.idsl;have:=t.llen;omega) (by have:=t.llen;omega) k m (by omega)).mono ?_
  rintro e w' ⟨v,rfl,h1,h2⟩
  exact⟨v,rfl,h1.its,h2⟩
 depth W hb:=trDepth_any W b vl vg M (h.below hb) (by have:=t.szl;omega) D root L ids t.tree (by have:=t.deep;omega) t.pool.ids_nodup
 get W hb:=trGet_any W b vl vg M (h.below hb) (by have:=t.szl;omega) D root L ids t.tree (by have:=t.deep;omega) t.pool.ids_nodup key x hx1 hx2
 check W hb:=trCheck_any W b vl vg M (h.below hb) (by have:=t.szl;omega) D root L ids t.tree (by have:=t.deep;omega) t.pool.ids_nodup (by have:=t.idsl;have:=t.llen;omega)
 root0:=t.root0
 n0:=t.deep0
 nle:=by
  rcases t.deepL with h9|h9
  ·have:=bitsN_pow _ h9
   omega
  ·omega
 hit:=hx1
 no:=hx2
def x1:It:=⟨⟨#[97]⟩,⟨#[49]⟩,0⟩
theorem x1_ok:x1.ok=true:=by decide
theorem x1_put:putI [] x1=[x1]:=by unfold putI;simp[lowK,hasK]
theorem x1_has:hasK [x1] ⟨#[97]⟩=true:=P9.hasK_iff.2 (by simp[P9.keysI,x1])
theorem x1_low:lowK [x1] ⟨#[97]⟩=0:=by
 unfold lowK
 rw[List.takeWhile_cons_of_neg (by rw[show x1.key=⟨#[97]⟩ from rfl,P9.kb_irr];simp)]
 rfl
theorem alive_any(w:World):Calls Tryz.prog 9 #[] w fun e w'=>e=.returned (.bool true)∧Below w.heap.size w w':=by
 have hP:∀ W,PAt W w.heap.size (.slice none 0 0) (.slice none 0 0) ⟨[],2,[],false,false⟩→Below w.heap.size w W→Calls Tryz.prog 11 #[pgv w.heap.size,.int .i64 0,.agg #[.string ⟨#[97]⟩,.string ⟨#[49]⟩,.int .i64 0]] W fun e w'=>∃ r,e=.returned (.tuple #[.int .i64 r,.int .i64 0])∧Tells w' w.heap.size r [x1] ⟨#[97]⟩ 1 x1∧Below w.heap.size w w':=fun W h hb=>by
  have t:=TrS.start
  refine (trPut_any W _ _ _ _ h (by simp) 0 0 [] [] t.tree (by omega) List.nodup_nil (fun x hx=>(by cases hx)) (by decide) (by simp) x1 x1_ok t.right (by rw[x1_put];simp) (by simp)).mono ?_
  rintro e w' ⟨r,vl',vg',M',rfl,g2⟩
  rw[x1_put] at g2
  obtain⟨D',i,made,g3⟩:=Did.of t g2 (by have:=putI_right t.right x1_ok;rwa[x1_put] at this) (p':=1) (q':=0) (by omega) (by simp) (by unfold gmax;omega)
  have t3:=g3.tr
  have hD:D'=1:=by
   have h0:=t3.deep0
   have h1:=t3.deepL
   have:D'≠0:=fun e=>by have:=h0.1 e;simp at this
   rcases h1 with h1|h1
   ·have:D' - 1+1≤bitsN 1:=bitsN_pow _ h1
    have e1:bitsN 1≤1:=bitsN_le 1
    omega
   ·omega
  subst hD
  refine⟨r,rfl,t3.tells g3.pg ⟨#[97]⟩ x1 (fun _=>by rw[x1_low];rfl) (fun e=>by rw[x1_has] at e;cases e),?_⟩
  refine P3.Fr.new hb g3.fr fun j hj=>?_
  rcases hj with rfl|hj|hj
  ·exact Nat.le_refl _
  ·cases hj
  ·cases hj
 have HP:=qh hP
 unfold pgv at HP
 clear hP
 have he:=fun W=>it_eql W x1 x1
 rw[sameIt_self] at he
 unfold It.v x1 at he
 go_enter Tryz.func9,Tryz.ntmps9
 go_upto_region 6 with (first
  | (go_at_call 10;(with_reducible refine (fresh_any _).mono ?_);rintro e w1 ⟨rfl,h1,hb⟩;have H1:=qh h1;have HB1:=qh hb;clear h1 hb)
  | (go_at_call 11;(with_reducible refine (HP.out _ H1.out HB1.out).mono ?_);rintro e w2 ⟨r,rfl,h2,hb⟩;have HT:=qh h2;have HB2:=qh hb;have HI:=qh (h2.items w2 (Below.refl _ _) ⟨#[]⟩ 10 (by decide) (by decide));clear h2 hb;rw[fromI_all (by decide)] at HI;unfold pgv at HI)
  | (go_at_call 19;(with_reducible refine HI.out.mono ?_);rintro e w3 ⟨v3,rfl,h3,hb⟩;have HV:=qh h3;have HB3:=qh hb;have HDp:=qh (HT.out.depth w3 hb);obtain⟨a3,c3,rfl⟩:=h3.slice;clear h3 hb;unfold pgv at HDp)
  | (go_at_call 29;(with_reducible refine HDp.out.mono ?_);rintro e w4 ⟨rfl,hb⟩;have HB4:=qh (thenBelow HB3.out hb);have HV4:=qh (HV.out.below hb);have HGt:=qh (HT.out.get w4 HB4.out);rw[x1_has] at HGt;unfold pgv It.v x1 at HGt;clear hb)
  | (go_at_call 30;(with_reducible refine HGt.out.mono ?_);rintro e w5 ⟨rfl,hb⟩;have HB5:=qh (thenBelow HB4.out hb);have HV5:=qh (HV4.out.below hb);clear hb))
 obtain⟨W6,hW6⟩:∃ W6,W6=w5.alloc (.cells #[.string ⟨#[97]⟩,.string ⟨#[49]⟩,.int .i64 0] 29):=⟨_,rfl⟩
 have b6:Below w5.heap.size w5 W6:=by rw[hW6];exact below_new _ _
 have r6:W6.heap[w5.heap.size]?=some (.cells #[.string ⟨#[97]⟩,.string ⟨#[49]⟩,.int .i64 0] 29 (0,0)):=by rw[hW6];exact new_at _ _ _
 rw[← hW6]
 clear hW6
 obtain⟨gg,go,rfl,hcc⟩:=HV5.out.at_ (i:=0) (x:=x1) rfl
 have HX:Hid (∀ W,Below W6.heap.size W6 W→W.cell? ⟨w5.heap.size,0,none⟩=some (.string ⟨#[97]⟩)∧W.cell? ⟨w5.heap.size,1,none⟩=some (.string ⟨#[49]⟩)∧W.cell? ⟨w5.heap.size,2,none⟩=some (.int .i64 0)∧W.cell? ⟨gg,go,none⟩=some (.string ⟨#[97]⟩)∧W.cell? ⟨gg,go+1,none⟩=some (.string ⟨#[49]⟩)∧W.cell? ⟨gg,go+2,none⟩=some (.int .i64 0)):=qh (fun W hb=>by
  have r7:=P3.old_below r6 hb
  obtain⟨q0,q1,q2⟩:=hcc W (b6.trans (hb.mono b6.size))
  rw[Nat.zero_mul,Nat.add_zero] at q0 q1 q2
  exact⟨by rw[cell_at r7];rfl,by rw[cell_at r7];rfl,by rw[cell_at r7];rfl,q0,q1,q2⟩)
 have HB6:=qh (thenBelow HB5.out b6)
 have HBd:=qh (Below.refl W6.heap.size W6).drew
 have HCk:=qh (HT.out.check W6.drew HB6.out.drew)
 have HBr:=qh (thenBelow HB2.out HB6.out.drew)
 unfold pgv at HCk
 clear r6 b6 hcc HI HDp HGt HP
 go_region_held3 (fun W=>W.cell? ⟨w5.heap.size,0,none⟩=some (.string ⟨#[97]⟩)∧W.cell? ⟨w5.heap.size,1,none⟩=some (.string ⟨#[49]⟩)∧W.cell? ⟨w5.heap.size,2,none⟩=some (.int .i64 0)∧W.cell? ⟨gg,go,none⟩=some (.string ⟨#[97]⟩)∧W.cell? ⟨gg,go+1,none⟩=some (.string ⟨#[49]⟩)∧W.cell? ⟨gg,go+2,none⟩=some (.int .i64 0)) (first|(with_reducible exact HX.out _ HBd.out)|(with_reducible exact HX.out _ (Below.refl _ _))|(with_reducible exact HX.out _ HB7.out)) ((go_at_call 28;(with_reducible refine HCk.out.mono ?_);rintro e w7 ⟨rfl,hb⟩;have HB7:=qh (thenBelow HBd.out hb);have HBe:=qh (thenBelow HBr.out hb);clear hb))
 all_goals
  go_wp2
  go_ret
  exact⟨rfl,HBe.out⟩
end Go.Proofs.YtjepgclnbbpnaaaGreat.P12
namespace Go.Proofs.YtjepgclnbbpnaaaGreat.P9
open Go Go.RowKit Go.Lib Go.WideShapes Go.ChangeShapes Go.ChangeAt PK
theorem cellsItem9:Tryz.prog.cellsOf 29=3:=by kernel_rfl
theorem cellsInt9:Tryz.prog.cellsOf 3=1:=by kernel_rfl
theorem cellsStr9:Tryz.prog.cellsOf 9=1:=by kernel_rfl
section
variable {H:Type} {enc:TypeId×Value→H} {w:World} {base:Nat} {sp:Nat→Bool} {held:Bool}
theorem item_cells{n:Nat}{cs:List Value}{x:DataW H×List MemPlace}(h:DataW.trod enc Tryz.prog w base sp held n 29 cs=some x):∃ o:It,cs=o.cells:=by
 obtain⟨xs,m,_,_,hl,hxl,hf⟩:=DataW.trod_struct Tryz.underlying29 h
 rw[cellsItem9] at hl
 match cs,hl with
 | [c0,c1,c2],_=>
  have hx:∀ i,i < 3→∃ y,xs[i]?=some y:=fun i hi=>⟨_,List.getElem?_eq_getElem (by rw[hxl];exact hi)⟩
  obtain⟨y0,e0⟩:=hx 0 (by omega)
  obtain⟨y1,e1⟩:=hx 1 (by omega)
  obtain⟨y2,e2⟩:=hx 2 (by omega)
  have f0:DataW.trod enc Tryz.prog w base sp held m 9 (([c0,c1,c2].drop 0).take (Tryz.prog.cellsOf 9))=some y0:=(hf 0 _ rfl).trans e0
  have f1:DataW.trod enc Tryz.prog w base sp held m 9 (([c0,c1,c2].drop 1).take (Tryz.prog.cellsOf 9))=some y1:=(hf 1 _ rfl).trans e1
  have f2:DataW.trod enc Tryz.prog w base sp held m 3 (([c0,c1,c2].drop 2).take (Tryz.prog.cellsOf 3))=some y2:=(hf 2 _ rfl).trans e2
  rw[cellsStr9] at f0 f1
  rw[cellsInt9] at f2
  obtain⟨s,g0,_,w0⟩:=DataW.trod_string Tryz.underlying9 f0
  obtain⟨t,g1,_,w1⟩:=DataW.trod_string Tryz.underlying9 f1
  obtain⟨k,g2,_,w2⟩:=DataW.trod_int Tryz.underlying3 f2
  obtain rfl:c0=.string s:=by simpa using g0
  obtain rfl:c1=.string t:=by simpa using g1
  obtain rfl:c2=.int .i64 k:=by simpa using g2
  exact⟨⟨s,t,k⟩,rfl⟩
end
end Go.Proofs.YtjepgclnbbpnaaaGreat.P9
namespace Go.Proofs.YtjepgclnbbpnaaaGreat.P12
open Go Go.RowKit Go.Lib Go.WideShapes Go.ChangeShapes Go.ChangeAt PK
open P9 (It item_cells cellsItem9 cellsInt9)
theorem cellsOp12:Tryz.prog.cellsOf 31=4:=by kernel_rfl
def AcsIn(w:World)(v:Value)(l:List Ac):Prop:=
 ∃ a c,v=.slice a l.length c∧l.length≤9223372036854775807∧(0 < l.length→∃ b off,a=some ⟨b,off,none⟩∧b < w.heap.size∧∀ i (o:Ac),l[i]?=some o→∀ j u,o.cells[j]?=some u→w.cell? ⟨b,off+i*4+j,none⟩=some u)
theorem AcsIn.slice{w:World}{v:Value}{l:List Ac}(h:AcsIn w v l):∃ a c,v=.slice a l.length c:=by
 obtain⟨a,c,h1,_⟩:=h
 exact⟨a,c,h1⟩
theorem AcsIn.len{w:World}{v:Value}{l:List Ac}(h:AcsIn w v l):l.length≤9223372036854775807:=by
 obtain⟨a,c,_,h1,_⟩:=h
 exact h1
theorem AcsIn.at_{w:World}{a:Option Addr}{n c:Nat}{l:List Ac}(h:AcsIn w (.slice a n c) l){i:Nat}{o:Ac}(hi:l[i]?=some o) :
  ∃ b off,a=some ⟨b,off,none⟩∧∀ w',Below w.heap.size w w'→w'.cell? ⟨b,off+i*4,none⟩=some (.int .i64 o.kind)∧w'.cell? ⟨b,off+i*4+1,none⟩=some (.string o.i.key)∧w'.cell? ⟨b,off+i*4+2,none⟩=some (.string o.i.val)∧w'.cell? ⟨b,off+i*4+3,none⟩=some (.int .i64 o.i.kind):=by
 obtain⟨a',c',e,_,h2⟩:=h
 simp only[Value.slice.injEq] at e
 obtain⟨rfl,_,_⟩:=e
 obtain⟨b,off,rfl,hb,hcc⟩:=h2 (by have:=(List.getElem?_eq_some_iff.1 hi).1;omega)
 refine⟨b,off,rfl,fun w' hw=>?_⟩
 have k:∀ (j:Nat) (u:Value),o.cells[j]?=some u→w'.cell? ⟨b,off+i*4+j,none⟩=some u:=fun j u hu=>(hw.cell (p:=⟨b,off+i*4+j,none⟩) hb).trans (hcc i o hi j u hu)
 exact⟨k 0 _ rfl,k 1 _ rfl,k 2 _ rfl,k 3 _ rfl⟩
section
variable {H:Type} {enc:TypeId×Value→H} {w:World} {base:Nat} {sp:Nat→Bool} {held:Bool}
theorem ac_cells{n:Nat}{cs:List Value}{x:DataW H×List MemPlace}(h:DataW.trod enc Tryz.prog w base sp held n 31 cs=some x):∃ o:Ac,cs=o.cells:=by
 obtain⟨xs,m,_,_,hl,hxl,hf⟩:=DataW.trod_struct Tryz.underlying31 h
 rw[cellsOp12] at hl
 match cs,hl with
 | [c0,c1,c2,c3],_=>
  have hx:∀ i,i < 2→∃ y,xs[i]?=some y:=fun i hi=>⟨_,List.getElem?_eq_getElem (by rw[hxl];exact hi)⟩
  obtain⟨y0,e0⟩:=hx 0 (by omega)
  obtain⟨y1,e1⟩:=hx 1 (by omega)
  have f0:DataW.trod enc Tryz.prog w base sp held m 3 (([c0,c1,c2,c3].drop 0).take (Tryz.prog.cellsOf 3))=some y0:=(hf 0 _ rfl).trans e0
  have f1:DataW.trod enc Tryz.prog w base sp held m 29 (([c0,c1,c2,c3].drop 1).take (Tryz.prog.cellsOf 29))=some y1:=(hf 1 _ rfl).trans e1
  rw[cellsInt9] at f0
  rw[cellsItem9] at f1
  obtain⟨k,g0,_,w0⟩:=DataW.trod_int Tryz.underlying3 f0
  obtain⟨i,hi⟩:=item_cells f1
  have hi':[c1,c2,c3]=[Value.string i.key,.string i.val,.int .i64 i.kind]:=hi
  simp only[List.cons.injEq,and_true] at hi'
  obtain⟨rfl,rfl,rfl⟩:=hi'
  obtain rfl:c0=.int .i64 k:=by simpa using g0
  exact⟨⟨k,i⟩,rfl⟩
theorem acs_open{n:Nat}{v:Value}{x:DataW H×List MemPlace}(h:DataW.trod enc Tryz.prog w base sp held n 22 [v]=some x):∃ l,AcsIn w v l:=by
 rcases Deep.open_slice Tryz.underlying22 h with ⟨hv,_⟩|⟨a,len,cap,m,q,D,Pl,hv,_,hl,hm,hmm,hx,hi⟩
 ·simp only[List.cons.injEq,and_true] at hv
  exact⟨[],none,0,hv,by simp,fun h=>absurd h (Nat.lt_irrefl _)⟩
 ·simp only[List.cons.injEq,and_true] at hv
  have hlm:len≤m:=by rw[hmm];split <;> omega
  have hch:∀ i,i < len→∃ o:Ac,(∀ j,j < 4→w.cell? ((a.add (i*4)).add j)=o.cells[j]?):=fun i hil=>by
   obtain⟨cs',h1,h2⟩:=hi i (by omega)
   obtain⟨o,rfl⟩:=ac_cells h2
   rw[cellsOp12] at h1
   exact⟨o,(World.cells?_some h1).2.2⟩
  obtain⟨f,hf⟩:∃ f:Nat→Ac,∀ i,i < len→(∀ j,j < 4→w.cell? ((a.add (i*4)).add j)=(f i).cells[j]?):=by
   refine⟨fun i=>if h:i < len then Classical.choose (hch i h) else ⟨0,⟨⟨#[]⟩,⟨#[]⟩,0⟩⟩,fun i hil=>?_⟩
   simp only[hil,dif_pos]
   exact Classical.choose_spec (hch i hil)
  refine⟨(List.range len).map f,some a,cap,by rw[hv];simp,by simp;unfold maxLen at hm;omega,fun h0=>?_⟩
  have h0':0 < len:=by simpa using h0
  obtain⟨b,off,spot⟩:=a
  have hc0:=hf 0 h0' 0 (by omega)
  have hspot:spot=none:=by
   have:=World.cell?_spot (w:=w) (a:=((⟨b,off,spot⟩:Addr).add (0*4)).add 0) hc0
   simpa [Addr.add] using this
  subst hspot
  have hadd:∀ i j:Nat,((⟨b,off,none⟩:Addr).add (i*4)).add j=⟨b,off+i*4+j,none⟩:=fun i j=>by
   rw[Go.WideShapes.add_plain,Go.WideShapes.add_plain]
  refine⟨b,off,rfl,?_,fun i o hio j u hju=>?_⟩
  ·rw[hadd] at hc0
   exact World.block_lt_of_cell? w _ hc0
  ·have hil:i < len:=by have:=(List.getElem?_eq_some_iff.1 hio).1;simpa using this
   rw[List.getElem?_map,List.getElem?_range hil] at hio
   obtain rfl:f i=o:=by simpa using hio
   have hj4:j < 4:=(List.getElem?_eq_some_iff.1 hju).1
   have h1:=hf i hil j hj4
   rw[hadd,hju] at h1
   exact h1
end
end Go.Proofs.YtjepgclnbbpnaaaGreat.P12
namespace Go.Proofs.YtjepgclnbbpnaaaGreat.P9
open Go Go.RowKit Go.Lib PK
def IntsL(w:World)(v:Value)(l:List Int):Prop:=
 ∃ a c,v=.slice a l.length c∧l.length≤9223372036854775807∧(0 < l.length→∃ b off,a=some ⟨b,off,none⟩∧b < w.heap.size∧∀ i,i < l.length→w.cell? ⟨b,off+i,none⟩=some (.int .i64 (l.getD i 0)))
theorem IntsL.below{w w':World}{v:Value}{l:List Int}(h:IntsL w v l)(hb:Below w.heap.size w w'):IntsL w' v l:=by
 obtain⟨a,c,h1,h2,h3⟩:=h
 refine⟨a,c,h1,h2,fun h0=>?_⟩
 obtain⟨b,off,h4,h5,h6⟩:=h3 h0
 exact⟨b,off,h4,Nat.lt_of_lt_of_le h5 hb.size,fun i hi=>(hb.cell (p:=⟨b,off+i,none⟩) h5).trans (h6 i hi)⟩
def roomOf:Int→List Int→Int
 | r,[]=>r
 | r,x::l=>if r < 0∨r < x then -1 else roomOf (r - x) l
theorem roomOf_drop{r:Int}{l:List Int}{k:Nat}(h:k < l.length):roomOf r (l.drop k)=if r < 0∨r < l[k] then -1 else roomOf (r - l[k]) (l.drop (k+1)):=by
 rw[List.drop_eq_getElem_cons h];rfl
theorem room_any(w:World)(r:Int)(v:Value)(l:List Int)(h:IntsL w v l)(hr:r≤9223372036854775807)(hp:∀ i (h:i < l.length),0≤l[i]) :
  Calls Tryz.prog 27 #[.int .i64 r,v] w fun e w'=>e=.returned (.int .i64 (roomOf r l))∧w=w':=by
 obtain⟨a,c,rfl,hl,hc⟩:=h
 go_enter Tryz.func27,Tryz.ntmps27
 go_wp2
 go_loop [0,5] (fun q i=>∃ (k:Nat) (x:Int),k≤l.length∧i=.int .i64 k∧q=.int .i64 x∧x≤9223372036854775807∧Hid (roomOf r l=roomOf x (l.drop k))) (fun _ i=>l.length - (RowKit.intOf i).toNat)
 case atStart=>exact⟨0,r,Nat.zero_le _,rfl,rfl,hr,rfl⟩
 case round=>
  obtain⟨k,x,hk,rfl,rfl,hx,hxe⟩:=hrel
  by_cases hlt:k < l.length
  ·obtain⟨b,off,rfl,hb,hcc⟩:=hc (by omega)
   have hcell:=hcc k hlt
   rw[show l.getD k 0=l[k] by rw[List.getD_eq_getElem?_getD,List.getElem?_eq_getElem hlt];rfl] at hcell
   have hpos:=hp k hlt
   have hD:=hxe.out.trans (roomOf_drop hlt)
   generalize l[k]=y at hcell hD hpos
   clear hcc hc hp hxe
   by_cases h0:x < 0
   ·have hR:Hid (roomOf r l=-1):=hD.trans (if_pos (.inl h0))
    have k0:decide (x < 0)=true:=decide_eq_true h0
    clear hD
    go_wp2
    go_ret
    exact⟨by rw[hR.out];rfl,rfl⟩
   ·have k0:decide (x < 0)=false:=decide_eq_false h0
    by_cases h1:x < y
    ·have hR:Hid (roomOf r l=-1):=hD.trans (if_pos (.inr h1))
     have k1:decide (x < y)=true:=decide_eq_true h1
     clear hD
     go_wp2
     go_ret
     exact⟨by rw[hR.out];rfl,rfl⟩
    ·have hR:Hid (roomOf r l=roomOf (x - y) (l.drop (k+1))):=hD.trans (if_neg (by omega))
     have k1:decide (x < y)=false:=decide_eq_false h1
     clear hD
     go_wp2
     go_round
     case rel=>exact⟨k+1,x - y,by omega,by go_num,by go_num,by omega,hR⟩
     case measure=>simp[RowKit.intOf];omega
  ·have hR:Hid (roomOf r l=x):=by
    show _=_
    rw[hxe.out,List.drop_eq_nil_of_le (by omega)];rfl
   go_wp2
   go_ret
   exact⟨by rw[hR.out];rfl,rfl⟩
end Go.Proofs.YtjepgclnbbpnaaaGreat.P9
namespace Go.Proofs.YtjepgclnbbpnaaaGreat.P12
open PK (qqA qqB qqC qqD qqE qqF tk tkS dOne qh)
open Go Go.RowKit Go.Lib PK
open P9 (It IntsL roomOf room_any)
theorem room2_(w W:World)(r x y:Int)(hW:Below (w.alloc (.cells #[.int .i64 x,.int .i64 y] 3)).heap.size (w.alloc (.cells #[.int .i64 x,.int .i64 y] 3)) W)(hr:r≤20000)(hx:0≤x)(hy:0≤y) :
  Calls Tryz.prog 27 #[.int .i64 r,.slice (some ⟨w.heap.size,0,none⟩) 2 2] W fun e w'=>
   (∃ q,e=.returned (.int .i64 q)∧q≤20000)∧W=w':=by
 have hI:IntsL (w.alloc (.cells #[.int .i64 x,.int .i64 y] 3)) (.slice (some ⟨w.heap.size,0,none⟩) 2 2) [x,y]:=by
  refine⟨_,2,rfl,by simp,fun _=>⟨w.heap.size,0,rfl,by simp,fun i hi=>?_⟩⟩
  rw[Nat.zero_add,cell_at (new_at w _ _)]
  match i,hi with
  | 0,_=>rfl
  | 1,_=>rfl
 refine (room_any W r _ [x,y] (hI.below hW) (by omega) (fun i hi=>?_)).mono ?_
 ·match i,hi with
  | 0,_=>exact hx
  | 1,_=>exact hy
 ·rintro e w' ⟨rfl,rfl⟩
  refine⟨⟨_,rfl,?_⟩,rfl⟩
  simp only[roomOf]
  split <;> (try split) <;> omega
def LightP(w:World)(l:List Ac)(e:Ending)(w':World):Prop:=(∃ b,e=.returned (.bool b)∧(b=true→l.length≤250))∧Below w.heap.size w w'
theorem light12_any(w:World)(v:Value)(l:List Ac)(h:AcsIn w v l) :
  Calls Tryz.prog 8 #[v] w (LightP w l):=by
 obtain⟨a,c,rfl⟩:=h.slice
 have hl:=h.len
 have HR:=qh room2_
 have HA:=qh (fun (i:Nat) (x:Ac) (hi:l[i]?=some x)=>h.at_ hi)
 clear h
 go_enter Tryz.func8,Tryz.ntmps8
 go_wp2
 go_loopw [3,4] (fun vr vi wr=>∃ (k:Nat) (x:Int),k≤l.length∧vi=.int .i64 k∧vr=.int .i64 x∧x≤20000∧Hid (Below w.heap.size w wr)) (fun _ vi _=>l.length - (RowKit.intOf vi).toNat)
 case atStart=>exact⟨0,20000,Nat.zero_le _,rfl,rfl,by decide,Below.refl _ _⟩
 case round=>
  obtain⟨k,x,hk,rfl,rfl,hx,hB⟩:=hrel
  by_cases h1:k < l.length
  ·have i1:decide ((k:Int) < (l.length:Int))=true:=decide_eq_true (by omega)
   have i1':decide (k < l.length)=true:=decide_eq_true h1
   by_cases h2:k < 500
   ·have i2:decide ((k:Int) < 500)=true:=decide_eq_true (by omega)
    have i2':decide (k < 500)=true:=decide_eq_true h2
    by_cases h3:0≤x
    ·have i3:decide (0≤x)=true:=decide_eq_true h3
     obtain⟨o,ho⟩:∃ o,l[k]?=some o:=⟨_,List.getElem?_eq_getElem h1⟩
     obtain⟨b,off,rfl,hcc⟩:=HA.out k o ho
     have HXc:Hid (∀ W,Below w.heap.size w W→W.cell? ⟨b,off+k*4+1,none⟩=some (.string o.i.key)∧W.cell? ⟨b,off+k*4+2,none⟩=some (.string o.i.val)):=fun W hW=>⟨(hcc W hW).2.1,(hcc W hW).2.2.1⟩
     have HR2:Hid (∀ W,Below (wr.alloc (.cells #[.int .i64 (o.i.key.size:Nat),.int .i64 (o.i.val.size:Nat)] 3)).heap.size (wr.alloc (.cells #[.int .i64 (o.i.key.size:Nat),.int .i64 (o.i.val.size:Nat)] 3)) W→Calls Tryz.prog 27 #[.int .i64 x,.slice (some ⟨wr.heap.size,0,none⟩) 2 2] W fun e w'=>
       (∃ q,e=.returned (.int .i64 q)∧q≤20000)∧W=w'):=fun W hW=>HR.out wr W x (o.i.key.size:Nat) (o.i.val.size:Nat) hW hx (by omega) (by omega)
     have b0:(0:Int)≤(k:Int):=by omega
     have b1:(k:Int) < (l.length:Int):=by omega
     obtain⟨s,hs⟩:∃ s,s=o.i.key:=⟨_,rfl⟩
     obtain⟨t,ht⟩:∃ t,t=o.i.val:=⟨_,rfl⟩
     rw[← hs,← ht] at HR2 HXc
     have HG:=qh (fun (z1 z2:Int)=>grow hB.out (.cells #[.int .i64 z1,.int .i64 z2] 3))
     have HGd:=qh (fun (z1 z2:Int)=>grow (thenBelow hB.out (Below.refl _ _).drew) (.cells #[.int .i64 z1,.int .i64 z2] 3))
     clear hcc ho hs ht HR HA
     go_wp2
     go_region_held3 (fun W=>W.cell? ⟨b,off+k*4+1,none⟩=some (.string s)∧W.cell? ⟨b,off+k*4+2,none⟩=some (.string t)) (first|exact HXc.out _ (thenBelow hB.out (Below.refl _ _).drew)|exact HXc.out _ hB.out|exact HXc.out _ (HG.out _ _)|exact HXc.out _ (HGd.out _ _)|exact HXc.out _ (thenBelow (HG.out _ _) (Below.refl _ _).drew)) ((first|(go_at_call 27;(with_reducible refine (HR2.out _ (by first|exact (Below.refl _ _).drew|exact Below.refl _ _)).mono ?_);rintro e w2 ⟨⟨q,rfl,hq1⟩,rfl⟩;have HQ1:=qh hq1;clear hq1)))
     all_goals
      go_wp2
      go_roundw
      case rel=>exact⟨k+1,q,by omega,by go_num,rfl,HQ1.out,by first|exact HG.out _ _|exact HGd.out _ _|exact thenBelow (HG.out _ _) (Below.refl _ _).drew⟩
      case measure=>simp[RowKit.intOf];omega
    ·have i3:decide (0≤x)=false:=decide_eq_false h3
     by_cases h4:l.length≤250
     ·have i4:decide ((l.length:Int)≤250)=true:=decide_eq_true (by omega)
      have i4':decide (l.length≤250)=true:=decide_eq_true h4
      go_wp2
      go_ret
      exact⟨⟨false,rfl,fun h=>by cases h⟩,hB.out⟩
     ·have i4:decide ((l.length:Int)≤250)=false:=decide_eq_false (by omega)
      have i4':decide (l.length≤250)=false:=decide_eq_false h4
      go_wp2
      go_ret
      exact⟨⟨false,rfl,fun h=>by cases h⟩,hB.out⟩
   ·have i2:decide ((k:Int) < 500)=false:=decide_eq_false (by omega)
    have i2':decide (k < 500)=false:=decide_eq_false h2
    have i4:decide ((l.length:Int)≤250)=false:=decide_eq_false (by omega)
    have i4':decide (l.length≤250)=false:=decide_eq_false (by omega)
    go_wp2
    go_ret
    exact⟨⟨false,rfl,fun h=>by cases h⟩,hB.out⟩
  ·have e9:k=l.length:=by omega
   subst e9
   have i1:decide ((l.length:Int) < (l.length:Int))=false:=decide_eq_false (by omega)
   have i1':decide (l.length < l.length)=false:=decide_eq_false h1
   by_cases h4:l.length≤250
   ·have i4:decide ((l.length:Int)≤250)=true:=decide_eq_true (by omega)
    have i4':decide (l.length≤250)=true:=decide_eq_true h4
    by_cases h3:0≤x
    ·have i3:decide (0≤x)=true:=decide_eq_true h3
     go_wp2
     go_ret
     exact⟨⟨_,rfl,fun _=>h4⟩,hB.out⟩
    ·have i3:decide (0≤x)=false:=decide_eq_false h3
     go_wp2
     go_ret
     exact⟨⟨false,rfl,fun h=>by cases h⟩,hB.out⟩
   ·have i4:decide ((l.length:Int)≤250)=false:=decide_eq_false (by omega)
    have i4':decide (l.length≤250)=false:=decide_eq_false h4
    go_wp2
    go_ret
    exact⟨⟨false,rfl,fun h=>by cases h⟩,hB.out⟩
end Go.Proofs.YtjepgclnbbpnaaaGreat.P12
