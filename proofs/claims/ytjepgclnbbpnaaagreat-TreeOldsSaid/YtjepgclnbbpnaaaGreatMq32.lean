/-
  Texts of the proofs of SaidDrops12, SaidEmpt12, SaidOlds12.
-/
import Derived.Test.YtjepgclnbbpnaaaGreatMq31
set_option linter.unusedVariables false
set_option linter.unusedSimpArgs false
set_option maxHeartbeats 8000000
set_option maxRecDepth 100000
namespace Go.Proofs.YtjepgclnbbpnaaaGreat.P12
open Go Go.RowKit Go.Lib PK
open P11 (Pg cellsP PgsIn NsIn)
open P9 (It kb kb_trans RightI hasK lowK putI dropI)
structure Dnd (M:PM) (D:Nat) (root:Int) (key:ByteArray) (L:List It) (ids:List Int) (w2:World) (b s mb:Nat) (vw:Value) (ps:List Sp) (sn:List Int) (vI:Value) (l':List It):Prop where
 sk:SkAt w2 none b s mb vw ps sn
 it:ItT w2 none vI l'
 items:∀ W,Below w2.heap.size w2 W→Calls Tryz.prog 57 #[.pointer (some ⟨s,0,none⟩)] W fun e w'=>e=.returned vI∧Below W.heap.size W w'
 pl:ps.length≤12
 right:RightI l'
 len:l'.length≤L.length
 mid:∃ la lb,L=la++l'++lb∧Lows la key∧Highs lb key
 up:∀ (L' l2:List It) (gr:Bool) (G:Cg),(∀ la lb,L=la++l'++lb→Lows la key→Highs lb key→L'=la++l2++lb)→RightI L'→L'.length≤250→(∀ x∈l2,x∈l'∨x.key=key)→(gr=true→l'.length≤l2.length)→
  G.M=M→G.sets=[]→G.made=[]→G.gone=[]→G.sn=sn→G.key=key→UpL M D root key ids L' gr ps ps.length G (.lf l2) true
theorem down_all(w:World)(b s mb:Nat)(vl vg:Value)(M:PM)(h:PAt w b vl vg M)(hs:SkAt w none b s mb (.slice none 0 0) [] [])(hsz:M.L.length≤3400)(D:Nat)(root:Int)(L:List It)(ids:List Int)(ht:Tree M D root L ids)(hD:D≤12)(hn:ids.Nodup)(hr:∀ x∈ids,2≤x∧x < M.next)(hfr:2≤M.fr)(key:ByteArray) :
  Calls Tryz.prog 53 #[.pointer (some ⟨s,0,none⟩),.int .i64 root,.string key] w fun e w'=>∃ vw ps sn vI l',e=.returned (.int .i64 0)∧Dnd M D root key L ids w' b s mb vw ps sn vI l'∧DnS w w' none b s mb (.slice none 0 0) vw ps sn:=by
 cases D with
 | zero=>
  obtain⟨rfl,rfl,rfl⟩:=ht
  refine (down_zero w s key).mono ?_
  rintro e w' ⟨rfl,rfl⟩
  refine⟨.slice none 0 0,[],[],.slice none 0 0,[],rfl,⟨hs,ItT.nil _ _,fun W k=>(skItems_nil W none b s mb (.slice none 0 0) [] (hs.below k)).mono fun e w2 ⟨g1,g2⟩=>⟨g1,by rw[g2];exact Below.refl _ _⟩,Nat.zero_le _,P9.RightI.nil,Nat.le_refl _,⟨[],[],rfl,Lows.nil _,Highs.nil _⟩,?_⟩,⟨hs,P3.Fr.refl _ _,fun j e=>.inl e⟩⟩
  intro L' l2 gr G h1 h2 h3 _ _ g1 g2 g3 g4 _ _
  have e:L'=l2:=by simpa using h1 [] [] rfl (Lows.nil _) (Highs.nil _)
  subst e
  exact up_none hsz hfr h2 h3 g1 g2 g3 g4 _ _
 | succ d=>
  have ht:TreeAt M (d+1) root L ids:=ht
  refine (down_any w none b vl vg M s mb (.slice none 0 0) [] [] h hs (by omega) (d+1) root key L ids ht (by simp;omega) hn (fun _ _ f=>by cases f) (by simp) (fun _ e=>by cases e)).mono ?_
  rintro e w' ⟨vw',ts,pl,fs,id',l',i',rfl,g1,g2⟩
  rw[List.nil_append] at g1
  rw[List.nil_append] at g1
  have hdl:=g2.dn.len
  have htl:=g2.tw.len
  rw[List.length_reverse] at htl
  obtain⟨la,lb,ia,ib,hw,htr,hroom,hL,hI,hlow,hhi⟩:=g2.dn
  have hnd:NdT w' none pl.vi pl.vk (.lf l'):=by
   have:=g1.sk.nd pl (by simp)
   rw[g2.lf.1] at this
   exact this
  refine⟨vw',ts++[pl],pathI fs++[id'],pl.vi,l',rfl,⟨g1.sk,hnd.1,fun W k=>skItems_any W none b s mb vw' ts _ pl (g1.sk.below k) (by omega),?_,htr.right,?_,⟨la,lb,hL,hlow,hhi⟩,?_⟩,g1⟩
  ·rw[List.length_append,List.length_singleton]
   omega
  ·rw[hL,List.length_append,List.length_append]
   omega
  ·intro L' l2 gr G h1 h2 h3 h4 h5 e1 e2 e3 e4 e5 e6
   exact up_start g2 hD hn hr hsz hfr h1 h2 h3 h4 h5 e1 e2 e3 e4 e5 e6
theorem putI_grow(l:List It)(x:It):l.length≤(putI l x).length:=by
 have h:=P9.lowK_le l x.key
 unfold P9.putI
 simp only[List.length_append,List.length_take,List.length_drop,List.length_singleton]
 split <;> omega
end Go.Proofs.YtjepgclnbbpnaaaGreat.P12
namespace Go.Proofs.YtjepgclnbbpnaaaGreat.P12
open PK (qqA qqB qqC qqD qqE qqF tk tkS dOne qh)
open Go Go.RowKit Go.Lib PK
open P11 (Pg cellsP PgsIn NsIn)
open P9 (It kb kb_trans RightI hasK lowK putI dropI)
structure Chd (w w':World) (b:Nat) (vl vg:Value) (M:PM) (ids:List Int) (L':List It) (c:Nat) (r:Int) (vl' vg':Value) (M':PM):Prop where
 pg:PAt w' b vl' vg' M'
 fr:P3.Fr (PS b vl vg) w w'
 new:∀ j,PS b vl' vg' j→PS b vl vg j∨w.heap.size≤j
 res:DoR M ids L' c r M'
theorem Chd.below{w w' w2:World}{b:Nat}{vl vg:Value}{M:PM}{ids:List Int}{L':List It}{c:Nat}{r:Int}{vl' vg':Value}{M':PM}(h:Chd w w' b vl vg M ids L' c r vl' vg' M')(k:Below w'.heap.size w' w2):Chd w w2 b vl vg M ids L' c r vl' vg' M':=
 ⟨h.pg.below k,h.fr.trans (P3.Fr.of k),h.new,h.res⟩
theorem chd_of{w W w':World}{G0:Cg}{vl' vg':Value}{M' M:PM}{ids:List Int}{L':List It}{c:Nat}{r:Int}(k:Below w.heap.size w W)(hS:∀ j,SS G0.s G0.mb G0.vw j∨CS G0.c G0.vm G0.vs G0.vo j→w.heap.size≤j)(h1:PAt w' G0.b vl' vg' M')(h2:P3.Fr G0.S W w')(h3:∀ j,PS G0.b vl' vg' j→G0.S j∨W.heap.size≤j)
  (h4:DoR M ids L' c r M'):Chd w w' G0.b G0.vl G0.vg M ids L' c r vl' vg' M':=by
 refine⟨h1,frThen (P3.Fr.of k) h2 fun j hj hs=>?_,fun j hj=>?_,h4⟩
 ·rcases hs with hs|hs
  ·exact hs
  ·have:=hS j hs
   omega
 ·rcases h3 j hj with h5|h5
  ·rcases h5 with h5|h5
   ·exact .inl h5
   ·exact .inr (hS j h5)
  ·exact .inr (Nat.le_trans k.size h5)
theorem tiPut_bad(w:World)(b:Nat)(root:Int)(x:It)(hx:x.ok=false):Calls Tryz.prog 33 #[pgv b,.int .i64 root,x.v] w fun e w'=>e=.returned (.tuple #[.int .i64 0,.int .i64 1])∧Below w.heap.size w w':=by
 have hv:=fun W=>P9.valid_any W x
 rw[hx] at hv
 obtain⟨kx,vx,qx⟩:=x
 unfold P9.It.v at hv ⊢
 have HV:=qh hv
 have r0:=fun W (k:Below (w.alloc (.cells #[.string kx,.string vx,.int .i64 qx] 29)).heap.size (w.alloc (.cells #[.string kx,.string vx,.int .i64 qx] 29)) W)=>P3.old_below (new_at w #[.string kx,.string vx,.int .i64 qx] 29) k
 have HR:=qh r0
 have h9:=r0 _ (Below.refl _ _)
 have x0:=cell_at h9 0
 have x1:=cell_at h9 1
 have x2:=cell_at h9 2
 simp only[qqD,qqE,qqF] at x0 x1 x2
 unfold pgv
 clear r0 h9 hv hx
 go_enter Tryz.func33,Tryz.ntmps33
 go_wp2_with (go_at_call 51;(with_reducible refine (HV.out _).mono ?_);rintro e w2 ⟨rfl,hz⟩;have HZ:=qh hz;clear hz)
 go_ret2
 exact⟨rfl,thenBelow (below_new w _) HZ.out⟩
theorem tiPut_any(w:World)(b:Nat)(vl vg:Value)(M:PM)(h:PAt w b vl vg M)(hsz:M.L.length≤3400)(D:Nat)(root:Int)(L:List It)(ids:List Int)(ht:Tree M D root L ids)(hD:D≤12)(hn:ids.Nodup)(hr:∀ x∈ids,2≤x∧x < M.next)(hfr:2≤M.fr)(hgv:M.given.length≤90000)(x:It)(hx:x.ok=true)
  (hR:RightI L) (hl:(putI L x).length≤250) (hLl:L.length≤250) :
  Calls Tryz.prog 33 #[pgv b,.int .i64 root,x.v] w fun e w'=>∃ r vl' vg' M',e=.returned (.tuple #[.int .i64 r,.int .i64 0])∧Chd w w' b vl vg M ids (putI L x) (gmax true D) r vl' vg' M':=by
 have hv:=fun W=>P9.valid_any W x
 rw[hx] at hv
 obtain⟨W0,hW0⟩:∃ W0,W0=w.alloc (.cells #[.string x.key,.string x.val,.int .i64 x.kind] 29):=⟨_,rfl⟩
 have b0:Below w.heap.size w W0:=by rw[hW0];exact below_new _ _
 have r0:W0.heap[w.heap.size]?=some (.cells #[.string x.key,.string x.val,.int .i64 x.kind] 29 (0,0)):=by rw[hW0];exact new_at _ _ _
 have ho:∀ W,Calls Tryz.prog 52 #[pgv b] W fun e w'=>∃ s mb,e=.returned (.pointer (some ⟨s,0,none⟩))∧SkAt w' none b s mb (.slice none 0 0) [] []∧W.heap.size≤s∧W.heap.size≤mb∧Below W.heap.size W w':=fun W=>
  (on_any W none b).mono fun e w' ⟨g1,g2,g3⟩=>⟨W.heap.size+1,W.heap.size,g1,g2,Nat.le_succ _,Nat.le_refl _,g3⟩
 have hd:∀ W s mb,PAt W b vl vg M→SkAt W none b s mb (.slice none 0 0) [] []→_:=fun W s mb k1 k2=>down_all W b s mb vl vg M k1 k2 hsz D root L ids ht hD hn hr hfr x.key
 have HV:=qh hv
 have HO:=qh ho
 have HD:=qh hd
 have HP:=qh h
 have B0:=qh b0
 have R0:=qh r0
 have HRi:=qh hR
 have HL:=qh hl
 have HX:=qh hx
 obtain⟨kx,vx,qx⟩:=x
 have x0:=cell_at r0 0
 have x1:=cell_at r0 1
 have x2:=cell_at r0 2
 simp only[qqD,qqE,qqF] at x0 x1 x2
 unfold P9.It.v at HV ⊢
 unfold pgv at HO ⊢
 clear hv ho hd h b0 r0 hR hl hx ht
 go_enter Tryz.func33,Tryz.ntmps33
 go_upto_region 1 with fail
 rw[← hW0]
 clear hW0
 go_upto_region 4 with (first
  | (go_at_call 51;(with_reducible refine (HV.out _).mono ?_);rintro e w1 ⟨rfl,hz⟩;have H1:=qh (thenBelow B0.out hz);have Z1:=qh hz;clear hz)
  | (go_at_call 52;(with_reducible refine (HO.out _).mono ?_);rintro e w2 ⟨s,mb,rfl,g1,g2,g3,g4⟩;have H2:=qh (thenBelow H1.out g4);have Z2:=qh (thenBelow Z1.out g4);have K2:=qh g1;have HSs:Hid (w.heap.size≤s∧w.heap.size≤mb):=qh ⟨Nat.le_trans H1.out.size g2,Nat.le_trans H1.out.size g3⟩;have HS0:Hid (W0.heap.size≤s∧W0.heap.size≤mb):=qh ⟨Nat.le_trans Z1.out.size g2,Nat.le_trans Z1.out.size g3⟩;clear g1 g2 g3 g4))
 have r2:=P3.old_below R0.out Z2.out
 have R2:=qh r2
 have y0:=cell_at r2 0
 simp only[qqD,qqE,qqF] at y0
 clear r2 x0 x1 x2
 go_upto_region 7 with (go_at_call 53;(with_reducible refine (HD.out _ s mb (HP.out.below H2.out) K2.out).mono ?_);rintro e w3 ⟨vw,ps,sn,vI,l',rfl,g1,g2⟩;have HDn:=qh g1;have HDs:=qh g2;clear g1 g2)
 have h3:Below w.heap.size w w3:=HDs.out.below H2.out (SS_new HSs.out.1 HSs.out.2)
 have z3:Below W0.heap.size W0 w3:=HDs.out.below Z2.out (SS_new HS0.out.1 HS0.out.2)
 have r3:=P3.old_below R0.out z3
 have hca:=ch_start kx (HP.out.below h3) HDn.out.sk
 have H3:=qh h3
 have Z3:=qh z3
 have R3:=qh r3
 have v0:=cell_at r3 0
 simp only[qqD,qqE,qqF] at v0
 clear y0
 go_upto_region 8 with fail
 clear v0 r3
 obtain⟨W7,hW7⟩:∃ W,W=w3.alloc (.cells #[.pointer (some ⟨s,0,none⟩),.string kx,.slice none 0 0,.slice none 0 0,.slice none 0 0] 76):=⟨_,rfl⟩
 obtain⟨cb,hcb⟩:∃ c,c=w3.heap.size:=⟨_,rfl⟩
 rw[← hW7,← hcb]
 rw[← hW7,← hcb] at hca
 have b7:Below w3.heap.size w3 W7:=by rw[hW7];exact below_new _ _
 have HCa:=qh hca
 have B7:=qh b7
 have HCb:Hid (w.heap.size≤cb):=qh (by rw[hcb];exact h3.size)
 have r7:=P3.old_below R3.out b7
 have R7:=qh r7
 have HSt:Hid (∀ W,Below W7.heap.size W7 W→W.cell? ⟨w.heap.size,0,none⟩=some (.string kx)∧W.cell? ⟨w.heap.size,1,none⟩=some (.string vx)∧W.cell? ⟨w.heap.size,2,none⟩=some (.int .i64 qx)):=fun W k=>by
  have h9:=P3.old_below R7.out k
  exact⟨cell_at h9 0,cell_at h9 1,cell_at h9 2⟩
 obtain⟨va,vc,hvI⟩:=HDn.out.it.its.slice
 have HIt:Hid (∀ W,Below W7.heap.size W7 W→Calls Tryz.prog 57 #[.pointer (some ⟨s,0,none⟩)] W fun e w'=>e=.returned vI∧Below W7.heap.size W7 w'):=fun W k=>(HDn.out.items W (thenBelow B7.out k)).mono fun e w' ⟨g1,g2⟩=>⟨g1,thenBelow k g2⟩
 have HPt:Hid (∀ W,Below W7.heap.size W7 W→Calls Tryz.prog 56 #[vI,.agg #[.string kx,.string vx,.int .i64 qx]] W fun e w'=>∃ v' n a c,e=.returned v'∧v'=.slice a n c∧NdT w' none v' (.slice none 0 0) (.lf (putI l' ⟨kx,vx,qx⟩))∧Below W7.heap.size W7 w'):=fun W k=>by
  have hi:=HDn.out.it.keep ((FrT.of B7.out).trans (FrT.of k))
  refine (P9.put_any W vI l' ⟨kx,vx,qx⟩ hi.its hi.wide hi.plain (by have:=HDn.out.len;omega) HDn.out.right).mono ?_
  rintro e w' ⟨v',rfl,g1,g2⟩
  obtain⟨a,c,e9⟩:=g1.its.slice
  exact⟨v',_,a,c,rfl,e9,⟨ItT.own g1 (fun _ e=>by cases e),rfl⟩,thenBelow k g2⟩
 have hup:=HDn.out.up (putI L ⟨kx,vx,qx⟩) (putI l' ⟨kx,vx,qx⟩) true ⟨b,s,mb,cb,vl,vg,vw,.slice none 0 0,.slice none 0 0,.slice none 0 0,M,ps,sn,kx,[],[],[]⟩ (fun la lb e h1 h2=>by rw[e];exact putI_mid h1 h2 HDn.out.right) (P9.putI_right HRi.out HX.out) HL.out (fun y hy=>by
  rcases (P9.mem_putI HDn.out.right ⟨kx,vx,qx⟩ y).1 hy with h9|h9
  ·exact .inr (by rw[h9])
  ·exact .inl h9.1) (fun _=>putI_grow _ _) rfl rfl rfl rfl rfl rfl
 have HDo:Hid (∀ W,Below W7.heap.size W7 W→∀ v,NdT W none v (.slice none 0 0) (.lf (putI l' ⟨kx,vx,qx⟩))→Calls Tryz.prog 54 #[.pointer (some ⟨cb,0,none⟩),.int .i64 root,.agg #[.int .i64 3,v,.slice none 0 0]] W fun e w'=>∃ r vl' vg' M',e=.returned (.tuple #[.int .i64 r,.int .i64 0])∧Chd w w' b vl vg M ids (putI L ⟨kx,vx,qx⟩) (gmax true D) r vl' vg' M'∧w'.heap[w.heap.size]?=some (.cells #[.string kx,.string vx,.int .i64 qx] 29 (0,0))):=fun W k v hv=>by
  refine (do_any W ⟨b,s,mb,cb,vl,vg,vw,.slice none 0 0,.slice none 0 0,.slice none 0 0,M,ps,sn,kx,[],[],[]⟩ M D root ids (putI L ⟨kx,vx,qx⟩) true (.lf (putI l' ⟨kx,vx,qx⟩)) v (.slice none 0 0) (HCa.out.below k) hv HDn.out.pl hup hgv).mono ?_
  rintro e w' ⟨r,vl',vg',M',rfl,g1,g2,g3,g4⟩
  refine⟨r,vl',vg',M',rfl,chd_of (thenBelow (thenBelow H3.out B7.out) k) (fun j hj=>?_) g1 g2 g3 g4,g2.keep (P3.old_below R7.out k) fun e=>(HCa.out.below k).notT none _ _ _ e ⟨.inl rfl,by simp⟩ (P3.old_below R7.out k)⟩
  rcases hj with hj|hj
  ·rcases hj with hj|hj|hj
   ·rw[hj];exact HSs.out.1
   ·rcases HDs.out.new j hj with h9|h9
    ·cases h9
    ·exact Nat.le_trans H2.out.size h9
   ·rw[hj];exact HSs.out.2
  ·rcases hj with hj|hj|hj|hj
   ·rw[hj];exact HCb.out
   ·cases hj
   ·cases hj
   ·cases hj
 have HX7:=qh (Below.refl W7.heap.size W7)
 rw[hvI] at HIt HPt
 clear hW7 hcb hca b7 r7 hup hvI
 go_region_held3 (fun W=>W.cell? ⟨w.heap.size,0,none⟩=some (.string kx)∧W.cell? ⟨w.heap.size,1,none⟩=some (.string vx)∧W.cell? ⟨w.heap.size,2,none⟩=some (.int .i64 qx)) (first|(with_reducible exact HSt.out _ HX7.out)|(with_reducible exact HSt.out _ HX7.out.drew)|(with_reducible exact HSt.out _ HY.out)|(with_reducible exact HSt.out _ HY.out.drew)|(with_reducible exact HZs.out)|(with_reducible exact HZd.out))
  ((first
   | (go_at_call 57;(with_reducible refine (HIt.out _ (by first|(with_reducible exact HX7.out)|(with_reducible exact HX7.out.drew))).mono ?_);rintro e w4 ⟨rfl,hz⟩;have HY:=qh hz;clear hz)
   | (go_at_call 56;(with_reducible refine (HPt.out _ (by first|(with_reducible exact HY.out)|(with_reducible exact HY.out.drew))).mono ?_);rintro e w5 ⟨v',n5,a5,c5,rfl,rfl,hz1,hz⟩;have HN5:=qh hz1;have HY:=qh hz;clear hz hz1)
   | (go_at_call 55;(with_reducible refine (ofItems_any _ _ _ _).mono ?_);rintro e w6 ⟨rfl,hz⟩;have HN6:=qh (HN5.out.keep (by first|exact FrT.of hz|exact FrT.trans (FrT.of (Below.refl _ _).drew) (FrT.of hz)));have HY:Hid (Below W7.heap.size W7 w6):=(by first|exact qh (thenBelow HY.out hz)|exact qh (thenBelow HY.out.drew hz));clear hz)
   | (go_at_call 54;(with_reducible refine (HDo.out _ (by first|(with_reducible exact HY.out)|(with_reducible exact HY.out.drew)) _ (by first|(with_reducible exact HN6.out)|exact HN6.out.keep (FrT.of (Below.refl _ _).drew))).mono ?_);rintro e w8 ⟨r,vl',vg',M',rfl,hz,hbx⟩;have HC:=qh hz;have HZs:Hid (w8.cell? ⟨w.heap.size,0,none⟩=some (.string kx)∧w8.cell? ⟨w.heap.size,1,none⟩=some (.string vx)∧w8.cell? ⟨w.heap.size,2,none⟩=some (.int .i64 qx)):=qh ⟨cell_at hbx 0,cell_at hbx 1,cell_at hbx 2⟩;have HZd:Hid (w8.drew.cell? ⟨w.heap.size,0,none⟩=some (.string kx)∧w8.drew.cell? ⟨w.heap.size,1,none⟩=some (.string vx)∧w8.drew.cell? ⟨w.heap.size,2,none⟩=some (.int .i64 qx)):=qh ⟨cell_at hbx 0,cell_at hbx 1,cell_at hbx 2⟩;clear hz hbx)))
 all_goals
  go_wp2
  go_ret2
  first
   | exact⟨r,vl',vg',M',rfl,HC.out⟩
   | exact⟨r,vl',vg',M',rfl,HC.out.below (Below.refl _ _).drew⟩
   | exact⟨r,rfl,vl',vg',M',HC.out⟩
   | exact⟨r,rfl,vl',vg',M',HC.out.below (Below.refl _ _).drew⟩
theorem tiDrop_any(w:World)(b:Nat)(vl vg:Value)(M:PM)(h:PAt w b vl vg M)(hsz:M.L.length≤3400)(D:Nat)(root:Int)(L:List It)(ids:List Int)(ht:Tree M D root L ids)(hD:D≤12)(hn:ids.Nodup)(hr:∀ x∈ids,2≤x∧x < M.next)(hfr:2≤M.fr)(hgv:M.given.length≤90000)(key:ByteArray)
  (hR:RightI L) (hLl:L.length≤250) :
  Calls Tryz.prog 35 #[pgv b,.int .i64 root,.string key] w fun e w'=>
   (hasK L key=false∧e=.returned (.tuple #[.int .i64 root,.bool false,.int .i64 0])∧Below w.heap.size w w')∨
   (hasK L key=true∧∃ r vl' vg' M',e=.returned (.tuple #[.int .i64 r,.bool true,.int .i64 0])∧Chd w w' b vl vg M ids (dropI L key) (gmax false D) r vl' vg' M'):=by
 have ho:∀ W,Calls Tryz.prog 52 #[pgv b] W fun e w'=>∃ s mb,e=.returned (.pointer (some ⟨s,0,none⟩))∧SkAt w' none b s mb (.slice none 0 0) [] []∧W.heap.size≤s∧W.heap.size≤mb∧Below W.heap.size W w':=fun W=>
  (on_any W none b).mono fun e w' ⟨g1,g2,g3⟩=>⟨W.heap.size+1,W.heap.size,g1,g2,Nat.le_succ _,Nat.le_refl _,g3⟩
 have hd:∀ W s mb,PAt W b vl vg M→SkAt W none b s mb (.slice none 0 0) [] []→_:=fun W s mb k1 k2=>down_all W b s mb vl vg M k1 k2 hsz D root L ids ht hD hn hr hfr key
 have HO:=qh ho
 have HD:=qh hd
 have HP:=qh h
 have HRi:=qh hR
 obtain⟨hb,hhb⟩:∃ x,x=hasK L key:=⟨_,rfl⟩
 rw[← hhb]
 have HHb:=qh hhb
 unfold pgv at HO ⊢
 clear ho hd h hR ht hhb
 go_enter Tryz.func35,Tryz.ntmps35
 go_upto_region 2 with (go_at_call 52;(with_reducible refine (HO.out _).mono ?_);rintro e w2 ⟨s,mb,rfl,g1,g2,g3,g4⟩;have H2:=qh g4;have K2:=qh g1;have HSs:Hid (w.heap.size≤s∧w.heap.size≤mb):=qh ⟨g2,g3⟩;clear g1 g2 g3 g4)
 go_upto_region 5 with (go_at_call 53;(with_reducible refine (HD.out _ s mb (HP.out.below H2.out) K2.out).mono ?_);rintro e w3 ⟨vw,ps,sn,vI,l',rfl,g1,g2⟩;have HDn:=qh g1;have HDs:=qh g2;clear g1 g2)
 have h3:Below w.heap.size w w3:=HDs.out.below H2.out (SS_new HSs.out.1 HSs.out.2)
 have H3:=qh h3
 obtain⟨va,vc,hvI⟩:=HDn.out.it.its.slice
 have hhk:hasK L key=hasK l' key:=by
  obtain⟨la,lb,e,h1,h2⟩:=HDn.out.mid
  rw[e,hasK_mid h1 h2]
 have HIt:Hid (∀ W,Below w3.heap.size w3 W→Calls Tryz.prog 57 #[.pointer (some ⟨s,0,none⟩)] W fun e w'=>e=.returned vI∧Below w3.heap.size w3 w'):=fun W k=>(HDn.out.items W k).mono fun e w' ⟨g1,g2⟩=>⟨g1,thenBelow k g2⟩
 have HDr:Hid (∀ W,Below w3.heap.size w3 W→Calls Tryz.prog 58 #[vI,.string key] W fun e w'=>∃ v' n a c,e=.returned (.tuple #[v',.bool (hasK l' key)])∧v'=.slice a n c∧NdT w' none v' (.slice none 0 0) (.lf (dropI l' key))∧Below w3.heap.size w3 w'):=fun W k=>by
  have hi:=HDn.out.it.keep (FrT.of k)
  refine (P9.drop_any W vI l' key hi.its hi.wide (by have:=HDn.out.len;omega) HDn.out.right).mono ?_
  rintro e w' ⟨v',rfl,g1,g2⟩
  obtain⟨a,c,e9⟩:=g1.its.slice
  exact⟨v',_,a,c,rfl,e9,⟨ItT.own g1 (fun _ e=>by cases e),rfl⟩,thenBelow k g2⟩
 have HX3:=qh (Below.refl w3.heap.size w3)
 rw[hvI] at HIt HDr
 rw[← hhk,← HHb.out] at HDr
 clear hvI hhk h3
 go_upto_region 6 with (first
  | (go_at_call 57;(with_reducible refine (HIt.out _ HX3.out).mono ?_);rintro e w4 ⟨rfl,hz⟩;have HY:=qh hz;clear hz)
  | (go_at_call 58;(with_reducible refine (HDr.out _ HY.out).mono ?_);rintro e w5 ⟨v',n5,a5,c5,rfl,rfl,hz1,hz⟩;have HN5:=qh hz1;have HY:=qh hz;clear hz hz1))
 cases hb
 case false=>
  go_wp2
  go_ret3
  first
   | exact .inl ⟨rfl,rfl,thenBelow H3.out HY.out⟩
   | exact⟨rfl,thenBelow H3.out HY.out⟩
   | exact thenBelow H3.out HY.out
 case true=>
  have hca:=ch_start key (HP.out.below (thenBelow H3.out HY.out)) (HDn.out.sk.below HY.out)
  go_upto_region 9 with fail
  obtain⟨W7,hW7⟩:∃ W,W=w5.alloc (.cells #[.pointer (some ⟨s,0,none⟩),.string key,.slice none 0 0,.slice none 0 0,.slice none 0 0] 76):=⟨_,rfl⟩
  obtain⟨cb,hcb⟩:∃ c,c=w5.heap.size:=⟨_,rfl⟩
  rw[← hW7,← hcb]
  rw[← hW7,← hcb] at hca
  have b7:Below w5.heap.size w5 W7:=by rw[hW7];exact below_new _ _
  have k7:Below w.heap.size w W7:=thenBelow (thenBelow H3.out HY.out) b7
  have HCa:=qh hca
  have K7:=qh k7
  have HN7:=qh (HN5.out.keep (FrT.of b7))
  have HCb:Hid (w.heap.size≤cb):=qh (by rw[hcb];exact (thenBelow H3.out HY.out).size)
  have hup:=HDn.out.up (dropI L key) (dropI l' key) false ⟨b,s,mb,cb,vl,vg,vw,.slice none 0 0,.slice none 0 0,.slice none 0 0,M,ps,sn,key,[],[],[]⟩ (fun la lb e h1 h2=>by rw[e];exact dropI_mid h1 h2 HDn.out.right) (P9.dropI_right HRi.out key) (Nat.le_trans (P9.dropI_len L key) hLl) (fun y hy=>.inl ((P9.mem_dropI HDn.out.right key y).1 hy).1) (fun h=>by cases h) rfl rfl rfl rfl rfl rfl
  have HDo:Hid (∀ W,Below W7.heap.size W7 W→∀ v,NdT W none v (.slice none 0 0) (.lf (dropI l' key))→Calls Tryz.prog 54 #[.pointer (some ⟨cb,0,none⟩),.int .i64 root,.agg #[.int .i64 3,v,.slice none 0 0]] W fun e w'=>∃ r vl' vg' M',e=.returned (.tuple #[.int .i64 r,.int .i64 0])∧Chd w w' b vl vg M ids (dropI L key) (gmax false D) r vl' vg' M'):=fun W k v hv=>by
   refine (do_any W ⟨b,s,mb,cb,vl,vg,vw,.slice none 0 0,.slice none 0 0,.slice none 0 0,M,ps,sn,key,[],[],[]⟩ M D root ids (dropI L key) false (.lf (dropI l' key)) v (.slice none 0 0) (HCa.out.below k) hv HDn.out.pl hup hgv).mono ?_
   rintro e w' ⟨r,vl',vg',M',rfl,g1,g2,g3,g4⟩
   refine⟨r,vl',vg',M',rfl,chd_of (thenBelow K7.out k) (fun j hj=>?_) g1 g2 g3 g4⟩
   rcases hj with hj|hj
   ·rcases hj with hj|hj|hj
    ·rw[hj];exact HSs.out.1
    ·rcases HDs.out.new j hj with h9|h9
     ·cases h9
     ·exact Nat.le_trans H2.out.size h9
    ·rw[hj];exact HSs.out.2
   ·rcases hj with hj|hj|hj|hj
    ·rw[hj];exact HCb.out
    ·cases hj
    ·cases hj
    ·cases hj
  clear hW7 hcb hca b7 k7 hup
  go_wp2_with (first
   | (go_at_call 55;(with_reducible refine (ofItems_any _ _ _ _).mono ?_);rintro e w6 ⟨rfl,hz⟩;have HN8:=qh (HN7.out.keep (FrT.of hz));have HY7:=qh hz;clear hz)
   | (go_at_call 54;(with_reducible refine (HDo.out _ HY7.out _ HN8.out).mono ?_);rintro e w8 ⟨r,vl',vg',M',rfl,hz⟩;have HC:=qh hz;clear hz))
  go_ret3
  first
   | exact .inr ⟨rfl,r,vl',vg',M',rfl,HC.out⟩
   | exact⟨r,vl',vg',M',rfl,HC.out⟩
   | exact⟨r,rfl,vl',vg',M',HC.out⟩
end Go.Proofs.YtjepgclnbbpnaaaGreat.P12
namespace Go.Proofs.YtjepgclnbbpnaaaGreat.P12
open PK (qqA qqB qqC qqD qqE qqF tk tkS dOne qh)
open Go Go.RowKit Go.Lib PK
def bitsN(n:Nat):Nat:=if h:n=0 then 0 else bitsN (n / 2)+1
termination_by n
decreasing_by omega
theorem bitsN_zero:bitsN 0=0:=by rw[bitsN];simp
theorem bitsN_pos{n:Nat}(h:0 < n):bitsN n=bitsN (n / 2)+1:=by rw[bitsN,dif_neg (by omega)]
theorem bitsN_le:∀ n:Nat,bitsN n≤n
 | 0=>by rw[bitsN_zero];omega
 | n+1=>by
  rw[bitsN_pos (by omega)]
  have:=bitsN_le ((n+1) / 2)
  omega
theorem bitsN_pow:∀ (k:Nat) {n:Nat},2 ^ k≤n→k+1≤bitsN n
 | 0,n,h=>by
  rw[bitsN_pos (by rw[Nat.pow_zero] at h;omega)]
  omega
 | k+1,n,h=>by
  have h2:2 ^ k≤n / 2:=by rw[Nat.pow_succ] at h;omega
  have:=bitsN_pow k h2
  have h0:0 < n:=Nat.lt_of_lt_of_le (Nat.pow_pos (by omega)) h
  rw[bitsN_pos h0]
  omega
theorem bits_any(w:World)(n:Nat)(hn:n≤1000000):Calls Tryz.prog 37 #[.int .i64 n] w fun e w'=>e=.returned (.int .i64 (bitsN n:Nat))∧w=w':=by
 have HB:=qh (bitsN_le n)
 go_enter Tryz.func37,Tryz.ntmps37
 go_wp2
 go_loop [0,3] (fun vn vk=>∃ m k:Nat,vn=.int .i64 m∧vk=.int .i64 k∧m≤n∧Hid (k+bitsN m=bitsN n)) (fun vn _=>(RowKit.intOf vn).toNat)
 case atStart=>exact⟨n,0,rfl,rfl,Nat.le_refl _,by show _=_;omega⟩
 case round=>
  obtain⟨m,k,rfl,rfl,hm,HK⟩:=hrel
  by_cases h0:0 < m
  ·have k1:decide ((0:Int) < (m:Int))=true:=decide_eq_true (by omega)
   have k2:decide (0 < m)=true:=decide_eq_true h0
   have hk:k≤1000000:=by have:=HK.out;have:=HB.out;omega
   have HK2:Hid (k+1+bitsN (m / 2)=bitsN n):=by
    have:=HK.out
    rw[bitsN_pos h0] at this
    show _=_
    omega
   go_wp2
   go_round
   case rel=>exact⟨m / 2,k+1,by go_num,by go_num,by omega,HK2⟩
   case measure=>simp[RowKit.intOf];omega
  ·have e:m=0:=by omega
   subst e
   have k1:decide ((0:Int) < ((0:Nat):Int))=false:=by simp
   have HE:Hid (k=bitsN n):=by have:=HK.out;rw[bitsN_zero] at this;exact this
   go_wp2
   go_ret
   exact⟨by rw[← HE.out];rfl,rfl⟩
end Go.Proofs.YtjepgclnbbpnaaaGreat.P12
namespace Go.Proofs.YtjepgclnbbpnaaaGreat.P12
open Go Go.RowKit Go.Lib PK
open P11 (Pg)
open P9 (It kb RightI lowK hasK putI dropI putI_right dropI_right putI_len)
theorem right_none:RightI []:=P9.RightI.nil
structure TrS (M:PM) (D:Nat) (root:Int) (L:List It) (ids P:List Int) (p q:Nat):Prop where
 tree:Tree M D root L ids
 pool:Pool M ids P
 right:RightI L
 cnt:p+q≤250
 len:L.length+q≤p
 size:M.L.length≤8*p+16*q+ids.length
 giv:M.given.length≤8*p+16*q
theorem pow_deep{d n:Nat}(h:2 ^ d≤n)(hn:n≤250):d≤7:=by
 by_cases c:d≤7
 ·exact c
 ·have:(2:Nat) ^ 8≤2 ^ d:=Nat.pow_le_pow_right (by omega) (by omega)
  omega
section
variable {M:PM} {D:Nat} {root:Int} {L:List It} {ids P:List Int} {p q:Nat}
theorem TrS.llen(h:TrS M D root L ids P p q):L.length≤250:=by have:=h.cnt;have:=h.len;omega
theorem TrS.deep(h:TrS M D root L ids P p q):D≤8:=by
 cases D with
 | zero=>omega
 | succ d=>
  have ht:TreeAt M (d+1) root L ids:=h.tree
  have:=pow_deep ht.many h.llen
  omega
theorem TrS.idsl(h:TrS M D root L ids P p q):ids.length≤2*L.length:=by
 cases D with
 | zero=>
  obtain⟨_,_,e⟩:=h.tree
  rw[e]
  simp
 | succ d=>
  have ht:TreeAt M (d+1) root L ids:=h.tree
  have:=ht.pages
  omega
theorem TrS.szl(h:TrS M D root L ids P p q):M.L.length≤3000:=by
 have:=h.size
 have:=h.idsl
 have:=h.len
 have:=h.cnt
 omega
theorem TrS.gvl(h:TrS M D root L ids P p q):M.given.length≤3000:=by
 have:=h.giv
 have:=h.len
 have:=h.cnt
 omega
theorem TrS.root0(h:TrS M D root L ids P p q):root=0↔L.length=0:=by
 cases D with
 | zero=>
  obtain⟨e1,e2,_⟩:=h.tree
  rw[e1,e2]
  simp
 | succ d=>
  have ht:TreeAt M (d+1) root L ids:=h.tree
  have h1:=ht.ne
  obtain⟨r,e⟩:=ht.head
  have:=(h.pool.ids_rng (j:=root) (by rw[e];exact List.mem_cons_self)).1
  omega
theorem TrS.deep0(h:TrS M D root L ids P p q):D=0↔L.length=0:=by
 cases D with
 | zero=>
  obtain⟨e1,e2,_⟩:=h.tree
  rw[e2]
  simp
 | succ d=>
  have ht:TreeAt M (d+1) root L ids:=h.tree
  have h1:=ht.ne
  omega
theorem TrS.deepL(h:TrS M D root L ids P p q):2 ^ (D - 1)≤L.length∨D=0:=by
 cases D with
 | zero=>exact .inr rfl
 | succ d=>
  have ht:TreeAt M (d+1) root L ids:=h.tree
  exact .inl ht.many
theorem TrS.start:TrS ⟨[],2,[],false,false⟩ 0 0 [] [] [] 0 0:=
 ⟨⟨rfl,rfl,rfl⟩,⟨List.Perm.refl _,List.nodup_nil,fun _ h=>(by cases h),rfl,rfl,Int.le_refl _⟩,right_none,by omega,by simp,by simp,by simp⟩
theorem TrS.mark(h:TrS M D root L ids P p q):TrS M.mark D root L ids ids p q:=
 ⟨h.tree.frame fun j _=>PM.mark_get M j,h.pool.mark,h.right,h.cnt,h.len,h.size,Nat.zero_le _⟩
theorem TrS.next(h:TrS M D root L ids P p q){L':List It}{c:Nat}{r:Int}{M':PM}(hd:DoR M ids L' c r M')(hr:RightI L'){p' q':Nat}(hc:p'+q'≤250)(hl:L'.length+q'≤p')(hcc:8*p+16*q+c≤8*p'+16*q') :
  ∃ D' i made,TrS M' D' r L' i (P++made) p' q'∧(∀ x∈made,M.next≤x∧x < M'.next)∧M.next≤M'.next∧M'.L.length=M.L.length+made.length:=by
 obtain⟨e,i,gone,made,h1,h2,h3,h4,h5,h6,h7⟩:=hd.tree
 have hlen:=h2.length_eq
 simp only[List.length_append] at hlen
 have hnx:M.next≤M'.next:=by unfold PM.next;omega
 refine⟨e,i,made,⟨h1,⟨?_,?_,?_,?_,?_,?_⟩,hr,hc,hl,?_,?_⟩,h5,hnx,h4⟩
 ·rw[h3,List.append_assoc]
  refine ((List.perm_append_comm.trans h2).append_left M.given).trans ?_
  rw[← List.append_assoc]
  exact h.pool.perm.append_right made
 ·refine List.nodup_append.2 ⟨h.pool.nodup,h6,fun a ha b hb e=>?_⟩
  have:=(h.pool.rng a ha).2
  have:=(h5 b hb).1
  omega
 ·intro j hj
  rcases List.mem_append.1 hj with hj|hj
  ·have:=h.pool.rng j hj
   omega
  ·have h9:=h5 j hj
   have:2≤M.next:=by unfold PM.next;omega
   omega
 ·exact hd.twice h.pool.twice fun x hx=>⟨fun k=>h.pool.not_given k hx,(h.pool.rng x (h.pool.perm.mem_iff.1 (List.mem_append_left _ hx))).2⟩
 ·rw[hd.bad];exact h.pool.bad
 ·rw[hd.fr];exact h.pool.fr
 ·have:=h.size
  omega
 ·have:=h.giv
  rw[h3,List.length_append]
  omega
end
structure Ac where
 kind:Int
 i:It
def Ac.cells(o:Ac):List Value:=[.int .i64 o.kind,.string o.i.key,.string o.i.val,.int .i64 o.i.kind]
def Ac.v(o:Ac):Value:=.agg #[.int .i64 o.kind,.string o.i.key,.string o.i.val,.int .i64 o.i.kind]
def actL(L:List It)(o:Ac):List It:=if o.kind=2 then dropI L o.i.key else if o.i.ok=true then putI L o.i else L
theorem dropI_miss{l:List It}{k:ByteArray}(h:hasK l k=false):dropI l k=l:=by unfold dropI;rw[if_neg (by rw[h];simp)]
theorem dropI_hit{l:List It}{k:ByteArray}(hr:RightI l)(h:hasK l k=true):(dropI l k).length+1=l.length:=by
 obtain⟨x,hx,_⟩:=P9.lowK_hit hr (P9.hasK_iff.1 h)
 have hlt:=(List.getElem?_eq_some_iff.1 hx).1
 unfold dropI
 rw[if_pos h,List.length_append,List.length_take,List.length_drop]
 omega
structure Did (w w':World) (b:Nat) (vl vg vl' vg':Value) (M M':PM) (ids P:List Int) (D':Nat) (r:Int) (L':List It) (i made:List Int) (p' q':Nat):Prop where
 pg:PAt w' b vl' vg' M'
 fr:P3.Fr (PS b vl vg) w w'
 new:∀ j,PS b vl' vg' j→PS b vl vg j∨w.heap.size≤j
 tr:TrS M' D' r L' i (P++made) p' q'
 made_:∀ x∈made,M.next≤x∧x < M'.next
 next:M.next≤M'.next
 cntL:M'.L.length=M.L.length+made.length
 frE:M'.fr=M.fr
 old:∀ x,x < M.next→(x < M.fr∨x∉ids)→M'.get x=M.get x
theorem Did.same{w w':World}{b:Nat}{vl vg:Value}{M:PM}{D:Nat}{root:Int}{L:List It}{ids P:List Int}{p q:Nat}(h:PAt w b vl vg M)(t:TrS M D root L ids P p q)(hb:Below w.heap.size w w'):Did w w' b vl vg vl vg M M ids P D root L ids [] p q:=
 ⟨h.below hb,P3.Fr.of hb,fun _ hj=>.inl hj,by rw[List.append_nil];exact t,fun _ hx=>(by cases hx),Int.le_refl _,rfl,rfl,fun _ _ _=>rfl⟩
theorem Did.of{w w':World}{b:Nat}{vl vg vl' vg':Value}{M M':PM}{D:Nat}{root r:Int}{L L':List It}{ids P:List Int}{p q c p' q':Nat}(t:TrS M D root L ids P p q)(h:Chd w w' b vl vg M ids L' c r vl' vg' M')(hr:RightI L')(hc:p'+q'≤250)(hl:L'.length+q'≤p')(hcc:8*p+16*q+c≤8*p'+16*q') :
  ∃ D' i made,Did w w' b vl vg vl' vg' M M' ids P D' r L' i made p' q':=by
 obtain⟨D',i,made,h1,h2,h3,h4⟩:=t.next h.res hr hc hl hcc
 exact⟨D',i,made,h.pg,h.fr,h.new,h1,h2,h3,h4,h.res.fr,h.res.old⟩
end Go.Proofs.YtjepgclnbbpnaaaGreat.P12
