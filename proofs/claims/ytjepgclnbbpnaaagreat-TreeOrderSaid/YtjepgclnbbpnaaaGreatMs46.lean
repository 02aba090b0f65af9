/-
  Texts of the proofs of SaidOrd12.
-/
import Derived.Test.YtjepgclnbbpnaaaGreatMs45
import Derived.Test.YtjepgclnbbpnaaaGreatMs43
import Derived.Lib.SmallJoins
set_option linter.unusedVariables false
set_option linter.unusedSimpArgs false
set_option maxHeartbeats 8000000
set_option maxRecDepth 100000
namespace Go.Proofs.YtjepgclnbbpnaaaGreat.P12
open Go Go.RowKit Go.Lib PK
open P11 (Pg)
open P9 (It kb kb_trans RightI lowK OwnI cellsI)
theorem ne_last{α:Type}{l:List α}(h:0 < l.length):∃ l0 x,l=l0++[x]:=by
 have hne:l≠[]:=fun e=>by rw[e] at h;exact absurd h (Nat.lt_irrefl _)
 exact⟨l.dropLast,l.getLast hne,(List.dropLast_concat_getLast hne).symm⟩
theorem Kids.lastx{T:Int→List It→List Int→Prop}(hT:∀ id l ids,T id l ids→0 < l.length):∀ {ks:List P10.It} {h:ByteArray} {l:List It} {ids:List Int},ks≠[]→Kids T ks (some h) l ids→∃ l0 x,l=l0++[x]∧kb x.key h=true
 | [],_,_,_,hne,_=>(hne rfl).elim
 | [k],h,_,_,_,⟨l1,i1,l2,i2,h1,_,h3,h4,rfl,rfl⟩=>by
  obtain⟨rfl,rfl⟩:=h4
  obtain⟨l0,x,rfl⟩:=ne_last (hT _ _ _ h1)
  exact⟨l0,x,by rw[List.append_nil],h3 h (show nextK [] (some h)=some h from rfl) x (by simp)⟩
 | k::k2::ks,h,_,_,_,⟨l1,i1,l2,i2,h1,_,h3,h4,rfl,rfl⟩=>by
  obtain⟨l0,x,rfl,hx⟩:=Kids.lastx hT (by simp) h4
  exact⟨l1++l0,x,by rw[List.append_assoc],hx⟩
theorem Way.last{M:PM}{D:Nat}{root:Int}:∀ {fs:List Fr} {d:Nat} {id:Int} {la lb:List It} {ia ib:List Int},Way M D root fs d id la lb ia ib→∀ (k:Nat) (f:Fr),fs[k]?=some f→f.a≠[]→(∀ j g,j < k→fs[j]?=some g→g.a=[])→∃ la0 x,la=la0++[x]∧kb x.key f.k.key=true
 | [],_,_,_,_,_,_,_,k,f,hf,_,_=>by simp at hf
 | f0::fs,d,id,_,_,_,_,⟨hk,htw,l1,i1,l2,i2,la,lb,ia,ib,h1,h2,h3,h4,hw,rfl,rfl,rfl,rfl⟩,k,f,hf,hne,hall=>by
  cases k with
  | zero=>
   simp at hf
   subst hf
   obtain⟨l0,x,rfl,hx⟩:=Kids.lastx (fun _ _ _ g=>TreeAt.ne g) hne h1
   exact⟨la++l0,x,by rw[List.append_assoc],hx⟩
  | succ k=>
   have ha:f0.a=[]:=hall 0 f0 (by omega) rfl
   rw[ha] at h1
   obtain⟨rfl,_⟩:=h1
   rw[List.append_nil]
   rw[List.getElem?_cons_succ] at hf
   exact Way.last hw k f hf hne fun j g hj hg=>hall (j+1) g (by omega) (by rw[List.getElem?_cons_succ];exact hg)
theorem Lf.okp{M:PM}{D:Nat}{root:Int}{L:List It}{ids:List Int}{ps:List Sp}{sn:List Int}{fs:List Fr}{la l' lb:List It}{ia i' ib:List Int}{k:Nat}(h:Lf M D root L ids ps sn fs la l' lb ia i' ib k){ts:List Sp}(ha:All2 (StTw M) ts fs.reverse){x0:It}(hx0:l'[0]?=some x0){last:ByteArray}(hlast:∀ la0 x,la=la0++[x]→last=x.key):OkP last x0.key ts (backN ts.length):=by
 have hlen:=ha.len
 rw[List.length_reverse] at hlen
 have hst:∀ j (hj:j < ts.length),∃ f,fs[j]?=some f∧StTw M (ts[ts.length - 1 - j]'(by omega)) f:=fun j hj=>by
  have hj2:j < fs.length:=by omega
  refine⟨fs[j],List.getElem?_eq_getElem hj2,?_⟩
  refine ha.at_ (i:=ts.length - 1 - j) (List.getElem?_eq_getElem (by omega)) ?_
  rw[List.getElem?_reverse (by omega),List.getElem?_eq_getElem (by omega)]
  congr 2
  omega
 have hkk:∀ {p:Sp} {f:Fr},StTw M p f→p.kkey=f.k.key:=fun {p f} s=>by
  unfold Sp.kkey
  rw[s.1]
  simp only[]
  have e1:p.at_.toNat=f.a.length:=by rw[s.2.1];omega
  have e2:f.kids[f.a.length]?=some f.k:=by unfold Fr.kids;simp
  rw[e1,e2]
 intro k x hx
 have hkl:k < ts.length:=by
  have:=(List.getElem?_eq_some_iff.1 hx).1
  rwa[backN_len] at this
 rw[backN_at hkl] at hx
 simp only[Option.some.injEq] at hx
 subst hx
 obtain⟨f,hf,hs⟩:=hst k hkl
 have hfm:=List.mem_of_getElem? hf
 rw[hkk hs]
 refine⟨(h.room f hfm).1 x0 (List.mem_of_getElem? hx0),fun h0 hall=>?_⟩
 have hne:f.a≠[]:=fun e=>by
  rw[hs.2.1,e] at h0
  simp at h0
 obtain⟨id',hw,_⟩:=h.way
 obtain⟨la0,y,e,hy⟩:=hw.last k f hf hne fun j g hj hg=>by
  obtain⟨f2,hf2,hs2⟩:=hst j (by omega)
  rw[hg] at hf2
  cases hf2
  have:=hall j _ hj (backN_at (by omega))
  rw[hs2.2.1] at this
  exact List.eq_nil_of_length_eq_zero (by omega)
 rw[hlast la0 y e]
 exact hy
theorem KidAt.below{n₀:Nat}{w w':World}{p:Sp}(h:KidAt n₀ w p)(hb:Below n₀ w w')(hn:n₀≤w'.heap.size):KidAt w'.heap.size w' p:=by
 obtain⟨g,o,m,c,a,pg,e0,e1,e2,e3,e4,e5,e6⟩:=h
 exact⟨g,o,m,c,a,pg,e0,e1,e2,e3,e4,e5,fun W' hW=>e6 W' (hb.trans (hW.mono hn))⟩
theorem kid_at{M:PM}{W:World}{x:Option Nat}{p:Sp}{f:Fr}(h:NdT W x p.vi p.vk p.nd)(hs:StTw M p f)(hl:p.nd.len≤1000):KidAt W.heap.size W p:=by
 obtain⟨s1,s2,_⟩:=hs
 have hkk:p.kkey=f.k.key:=by
  unfold Sp.kkey
  rw[s1]
  simp only[]
  have e1:p.at_.toNat=f.a.length:=by rw[s2];omega
  have e2:f.kids[f.a.length]?=some f.k:=by unfold Fr.kids;simp
  rw[e1,e2]
 rw[s1] at h hl
 have hl:f.kids.length≤1000:=hl
 obtain⟨h1,h2⟩:=h
 obtain⟨va,vc,e⟩:=h2.its.slice
 have hit:=h2.its
 rw[e] at hit
 have e2:f.kids[f.a.length]?=some f.k:=by unfold Fr.kids;simp
 obtain⟨g,o,rfl,hc⟩:=hit.at_ e2
 refine⟨g,o,f.kids.length,vc,f.a.length,f.k.page,h1,e,s2,by unfold Fr.kids;simp,hl,?_,fun W' hW=>?_⟩
 ·obtain⟨a9,n9,c9,e9,q1,q2⟩:=h2.wide
  rw[e] at e9
  simp only[Value.slice.injEq] at e9
  omega
 ·rw[hkk]
  exact hc W' hW
theorem leaves_check(w0 w:World)(b s mb:Nat)(vl vg:Value)(M:PM)(h0:PAt w0 b vl vg M)(hb0:Below w0.heap.size w0 w)(hs:SkAt w none b s mb (.slice none 0 0) [] [])(hS:w0.heap.size≤s∧w0.heap.size≤mb)(hsz:M.L.length≤100000)(D:Nat)(root:Int)(L:List It)(ids:List Int)(ht:Tree M D root L ids)(hD:D≤12)(hn:ids.Nodup)(hid:ids.length≤80000)
  (b1 b2 b3:Nat) (h1:w.heap[b1]?=some (.cells #[.int .i64 0] 3 (0,0))) (h2:w.heap[b2]?=some (.cells #[.string ⟨#[]⟩] 9 (0,0))) (h3:w.heap[b3]?=some (.cells #[.bool true] 4 (0,0))) (hB:w0.heap.size≤b1∧w0.heap.size≤b2∧w0.heap.size≤b3) :
  Calls Tryz.prog 59 #[.pointer (some ⟨s,0,none⟩),.int .i64 root,.string ⟨#[]⟩,.func (.func 64) #[] #[.pointer (some ⟨b1,0,none⟩),.pointer (some ⟨b2,0,none⟩),.pointer (some ⟨b3,0,none⟩)]] w fun e w'=>e=.returned (.int .i64 0)∧Below w0.heap.size w0 w'∧w'.heap[b3]?=some (.cells #[.bool true] 4 (0,0)):=by
 refine (leavesC w0 w b s mb vl vg M h0 hb0 hs hS hsz D root L ids ht hD hn hid ⟨#[]⟩ b1 b2 b3
  (fun W x g=>x=none∧W.heap[b3]?=some (.cells #[.bool true] 4 (0,0))∧∃ (d:Int) (last:ByteArray),W.heap[b1]?=some (.cells #[.int .i64 d] 3 (0,0))∧(d=0∨d=(D:Int))∧W.heap[b2]?=some (.cells #[.string last] 9 (0,0))∧∀ la0 y,g.la=la0++[y]→last=y.key)
  (fun W x g=>x=none∧W.heap[b3]?=some (.cells #[.bool true] 4 (0,0))∧∃ (d:Int) (last:ByteArray),W.heap[b1]?=some (.cells #[.int .i64 d] 3 (0,0))∧(d=0∨d=(D:Int))∧W.heap[b2]?=some (.cells #[.string last] 9 (0,0))∧∀ la0 y,g.la++g.l'=la0++[y]→last=y.key)
  (fun W _=>W.heap[b3]?=some (.cells #[.bool true] 4 (0,0))) ⟨?_,?_⟩ ?_ ?_ ?_).mono ?_
 ·intro W w2 x g vw h1 hsk h2 h3 h4 _ hf _ _
  exact hf.keep h1.2.1 (hsk.notS h1.2.1 ⟨by decide,by decide⟩)
 ·intro W w2 x g g2 vw h1 hsk h2 h3 h4 h5 h6 h7 _ hf _ _
  obtain⟨rfl,q3,d,last,q1,q4,q2,q5⟩:=h1
  refine⟨rfl,hf.keep q3 (hsk.notS q3 ⟨by decide,by decide⟩),d,last,hf.keep q1 (hsk.notS q1 ⟨by decide,by decide⟩),q4,hf.keep q2 (hsk.notS q2 ⟨by decide,by decide⟩),?_⟩
  rw[h4]
  exact q5
 ·intro w2 g vw hsk g1 g2 g3 g4 g5 _ hf _ _
  refine⟨rfl,hf.keep h3 (hsk.notS h3 ⟨by decide,by decide⟩),0,⟨#[]⟩,hf.keep h1 (hsk.notS h1 ⟨by decide,by decide⟩),.inl rfl,hf.keep h2 (hsk.notS h2 ⟨by decide,by decide⟩),fun la0 y e=>?_⟩
  rw[(g5 rfl).1] at e
  simp at e
 ·exact fun _=>h3
 ·intro W x vw g hb hsk hnn hg hp
  obtain⟨rfl,q3,d,last,q1,q4,q2,q5⟩:=hp
  obtain⟨ts,p,hps,ha,hnd,hat⟩:=hg.st
  obtain⟨b1',b2',b3',b4',b5'⟩:=hg.bounds
  have hsk2:=hsk
  rw[hps] at hsk2 b2' b3'
  have htl:ts.length+1=D:=by rw[← b2'];simp
  obtain⟨x0,hx0⟩:∃ x,g.l'[0]?=some x:=⟨_,List.getElem?_eq_getElem b5'⟩
  obtain⟨l0,xl,hl0⟩:=ne_last b5'
  have hxl:g.l'[g.l'.length - 1]?=some xl:=by rw[hl0];simp
  refine (check1_any W none b s mb vw ts p g.sn hsk2 (by omega) g.l' hnd b4' x0 xl hx0 hxl b1 b2 b3 d last true q1 q2 q3 (by rw[htl];exact q4) (fun W' hW gg c hc hcs=>?_)).mono ?_
  ·refine between_any W' gg c ts ts.length rfl (by omega) hc last x0.key hcs (fun q hq=>?_) (hg.okp ha hx0 q5)
   obtain⟨i,hi,e⟩:=List.mem_iff_getElem.1 hq
   have hi2:i < g.fs.reverse.length:=by rw[← ha.len];exact hi
   have hst:=ha.at_ (i:=i) (a:=q) (b:=g.fs.reverse[i]) (by rw[List.getElem?_eq_getElem hi,e]) (List.getElem?_eq_getElem hi2)
   exact (kid_at (hsk2.nd q (List.mem_append_left _ hq)) hst (b3' q (List.mem_append_left _ hq)).2.2).below hW hW.size
  ·rintro e w' ⟨rfl,r1,r2,r3,r4⟩
   have hSn:∀ j,SS s mb vw j→¬ (j=b1∨j=b2∨j=b3):=fun j hj=>by
    rintro (rfl|rfl|rfl)
    ·exact hsk.notS q1 ⟨by decide,by decide⟩ hj
    ·exact hsk.notS q2 ⟨by decide,by decide⟩ hj
    ·exact hsk.notS q3 ⟨by decide,by decide⟩ hj
   have hft:FrT none W w':=FrT.ofFr r4 fun k cs t hk hst e=>by
    rcases hk with rfl|rfl|rfl
    ·rw[q1] at e
     cases e
     rcases hst.1 with h|h <;> cases h
    ·rw[q2] at e
     cases e
     rcases hst.1 with h|h <;> cases h
    ·rw[q3] at e
     cases e
     rcases hst.1 with h|h <;> cases h
   have hnew:∀ j,(j=b1∨j=b2∨j=b3)→w0.heap.size≤j:=by
    rintro j (rfl|rfl|rfl)
    ·exact hB.1
    ·exact hB.2.1
    ·exact hB.2.2
   refine⟨true,none,rfl,P3.Fr.new hb r4 hnew,hsk.fr r4 hft hSn,fun k hk=>(by cases hk),fun _=>⟨rfl,r3,_,_,r1,.inr (by rw[htl]),r2,fun la0 y e=>?_⟩,fun h=>(by cases h)⟩
   rw[hl0,← List.append_assoc] at e
   have e2:=(List.append_inj' e rfl).2
   simp only[List.cons.injEq,and_true] at e2
   rw[e2]
 ·rintro e w' ⟨x,vw,ps,sn,rfl,r1,_,r3⟩
  exact⟨rfl,r1,r3⟩
end Go.Proofs.YtjepgclnbbpnaaaGreat.P12
namespace Go.Proofs.YtjepgclnbbpnaaaGreat.P12
open PK (qqA qqB qqC qqD qqE qqF tk tkS dOne qh)
open Go Go.RowKit Go.Lib PK
open P11 (Pg)
open P9 (It kb kb_trans RightI lowK OwnI cellsI)
theorem tiCheck_any(w:World)(b:Nat)(vl vg:Value)(M:PM)(h:PAt w b vl vg M)(hsz:M.L.length≤100000)(D:Nat)(root:Int)(L:List It)(ids:List Int)(ht:Tree M D root L ids)(hD:D≤12)(hn:ids.Nodup)(hid:ids.length≤80000) :
  Calls Tryz.prog 45 #[pgv b,.int .i64 root] w fun e w'=>e=.returned (.int .i64 0)∧Below w.heap.size w w':=by
 have ho:∀ W,Calls Tryz.prog 52 #[pgv b] W fun e w'=>∃ s mb,e=.returned (.pointer (some ⟨s,0,none⟩))∧SkAt w' none b s mb (.slice none 0 0) [] []∧W.heap.size≤s∧W.heap.size≤mb∧Below W.heap.size W w':=fun W=>
  (on_any W none b).mono fun e w' ⟨g1,g2,g3⟩=>⟨W.heap.size+1,W.heap.size,g1,g2,Nat.le_succ _,Nat.le_refl _,g3⟩
 have hl:∀ (W:World) (s mb b1 b2 b3:Nat),Below w.heap.size w W→SkAt W none b s mb (.slice none 0 0) [] []→w.heap.size≤s∧w.heap.size≤mb→W.heap[b1]?=some (.cells #[.int .i64 0] 3 (0,0))→W.heap[b2]?=some (.cells #[.string ⟨#[]⟩] 9 (0,0))→W.heap[b3]?=some (.cells #[.bool true] 4 (0,0))→(w.heap.size≤b1∧w.heap.size≤b2∧w.heap.size≤b3)→_:=fun W s mb b1 b2 b3 k1 k2 k3 k4 k5 k6 k7=>leaves_check w W b s mb vl vg M h k1 k2 k3 hsz D root L ids ht hD hn hid b1 b2 b3 k4 k5 k6 k7
 have HO:=qh ho
 have HL:=qh hl
 unfold pgv at HO ⊢
 clear ho hl h ht hn
 obtain⟨W3,hW3⟩:∃ W3,W3=((w.alloc (.cells #[.int .i64 0] 3)).alloc (.cells #[.string ⟨#[]⟩] 9)).alloc (.cells #[.bool true] 4):=⟨_,rfl⟩
 have B3:Below w.heap.size w W3:=by rw[hW3];exact thenBelow (thenBelow (below_new _ _) (below_new _ _)) (below_new _ _)
 have r1:W3.heap[w.heap.size]?=some (.cells #[.int .i64 0] 3 (0,0)):=by rw[hW3];exact P3.old_below (P3.old_below (new_at _ _ _) (below_new _ _)) (below_new _ _)
 have r2:W3.heap[w.heap.size+1]?=some (.cells #[.string ⟨#[]⟩] 9 (0,0)):=by
  rw[hW3]
  have:=P3.old_below (new_at (w.alloc (.cells #[.int .i64 0] 3)) #[.string ⟨#[]⟩] 9) (below_new _ (.cells #[.bool true] 4))
  simpa using this
 have r3:W3.heap[w.heap.size+1+1]?=some (.cells #[.bool true] 4 (0,0)):=by
  rw[hW3]
  have:=new_at ((w.alloc (.cells #[.int .i64 0] 3)).alloc (.cells #[.string ⟨#[]⟩] 9)) #[.bool true] 4
  simpa using this
 have hmf:∀ (fn:Fn) (first cap:Array Value) (w:World),(Instr.makeFunc fn first cap).run Tryz.prog w=.ok (.func fn first cap) w:=fun _ _ _ _=>rfl
 have HB:=qh B3
 have R1:=qh r1
 have R2:=qh r2
 have R3:=qh r3
 clear B3 r1 r2 r3
 go_enter Tryz.func45,Tryz.ntmps45
 go_upto_region 2 with fail
 rw[← hW3]
 clear hW3
 go_upto_region 3 with (first
  | (go_at_call 52;(with_reducible refine (HO.out _).mono ?_);rintro e w3 ⟨s,mb,rfl,g1,g2,g3,g4⟩;have H3:=qh g4;have K3:=qh g1;have HSs:Hid (W3.heap.size≤s∧W3.heap.size≤mb):=qh ⟨g2,g3⟩;clear g1 g2 g3 g4)
  | (go_at_call 59;(with_reducible refine (HL.out _ s mb _ _ _ (thenBelow HB.out H3.out) K3.out ⟨Nat.le_trans HB.out.size HSs.out.1,Nat.le_trans HB.out.size HSs.out.2⟩ (P3.old_below R1.out H3.out) (P3.old_below R2.out H3.out) (P3.old_below R3.out H3.out) ⟨Nat.le_refl _,by omega,by omega⟩).mono ?_);rintro e w4 ⟨rfl,g1,g2⟩;have H4:=qh g1;have V4:=qh g2;clear g1 g2))
 have o4:=cell_at V4.out 0
 simp only[qqD,qqE,qqF] at o4
 go_wp2
 go_ret
 exact⟨rfl,H4.out⟩
theorem check_cl(W:World)(n1 n2:Nat)(b:Nat)(vl vg:Value)(M:PM)(h:PAt W b vl vg M)(hsz:M.L.length≤100000)(D:Nat)(root:Int)(L:List It)(ids:List Int)(ht:Tree M D root L ids)(hD:D≤12)(hn:ids.Nodup)(hid:ids.length≤80000)
  (h1:W.heap[n1]?=some (.cells #[pgv b] 66 (0,0))) (h2:W.heap[n2]?=some (.cells #[.int .i64 root] 3 (0,0))) :
  Calls Tryz.prog 44 #[.pointer (some ⟨n1,0,none⟩),.pointer (some ⟨n2,0,none⟩)] W fun e w'=>e=.returned (.int .i64 0)∧Below W.heap.size W w':=by
 have HI:=qh (tiCheck_any W b vl vg M h hsz D root L ids ht hD hn hid)
 unfold pgv at HI h1
 have o1:=cell_at h1 0
 have o2:=cell_at h2 0
 simp only[qqD,qqE,qqF] at o1 o2
 clear h h1 h2 ht hn
 go_enter Tryz.func44,Tryz.ntmps44
 go_wp2_with (go_at_call 45;(with_reducible refine HI.out.mono ?_);rintro e w2 ⟨rfl,g2⟩;have HB:=qh g2;clear g2)
 go_ret
 exact⟨rfl,HB.out⟩
theorem trCheck_any(w:World)(b:Nat)(vl vg:Value)(M:PM)(h:PAt w b vl vg M)(hsz:M.L.length≤100000)(D:Nat)(root:Int)(L:List It)(ids:List Int)(ht:Tree M D root L ids)(hD:D≤12)(hn:ids.Nodup)(hid:ids.length≤80000) :
  Calls Tryz.prog 28 #[pgv b,.int .i64 root] w fun e w'=>e=.returned (.int .i64 0)∧Below w.heap.size w w':=by
 obtain⟨W1,hW1⟩:∃ W1,W1=w.alloc (.cells #[pgv b] 66):=⟨_,rfl⟩
 obtain⟨W2,hW2⟩:∃ W2,W2=W1.alloc (.cells #[.int .i64 root] 3):=⟨_,rfl⟩
 have b1:Below w.heap.size w W1:=by rw[hW1];exact below_new _ _
 have b2:Below W1.heap.size W1 W2:=by rw[hW2];exact below_new _ _
 have r1:W2.heap[w.heap.size]?=some (.cells #[pgv b] 66 (0,0)):=P3.old_below (by rw[hW1];exact new_at _ _ _) b2
 have r2:W2.heap[W1.heap.size]?=some (.cells #[.int .i64 root] 3 (0,0)):=by rw[hW2];exact new_at _ _ _
 have B2:Below w.heap.size w W2:=thenBelow b1 b2
 obtain⟨W5,hW5⟩:∃ W5,W5=W2.alloc (.cells #[.int .i64 0] 32):=⟨_,rfl⟩
 have b5:Below W2.heap.size W2 W5:=by rw[hW5];exact below_new _ _
 have B5:=thenBelow B2 b5
 have r5:W5.heap[W2.heap.size]?=some (.cells #[.int .i64 0] 32 (0,0)):=by rw[hW5];exact new_at _ _ _
 have zB:=B2.size
 have hcl:=check_cl W5 w.heap.size W1.heap.size b vl vg M (h.below B5) hsz D root L ids ht hD hn hid (P3.old_below r1 b5) (P3.old_below r2 b5)
 have hgd:Calls Tryz.prog 31 #[pgv b,.func (.func 44) #[] #[.pointer (some ⟨w.heap.size,0,none⟩),.pointer (some ⟨W1.heap.size,0,none⟩)]] W2 fun e w'=>e=.returned (.int .i64 0)∧Below w.heap.size w w':=by
  refine (guardCheck W2 b _ _ 0 (fun w3=>Below W5.heap.size W5 w3) ?_).mono ?_
  ·rw[← hW5]
   refine hcl.mono ?_
   rintro e w' ⟨rfl,g1⟩
   exact⟨rfl,P3.old_below r5 g1,g1⟩
  ·rintro e w' ⟨rfl,w3,g1,g5,rfl⟩
   exact⟨rfl,(thenBelow B5 g1).setCell (p:=⟨W2.heap.size,0,none⟩) zB _⟩
 have HG:=qh hgd
 have o1:=cell_at r1 0
 simp only[qqD,qqE,qqF] at o1
 have e1:W1.heap.size=w.heap.size+1:=by rw[hW1];simp
 have hmf:∀ (fn:Fn) (first cap:Array Value) (w:World),(Instr.makeFunc fn first cap).run Tryz.prog w=.ok (.func fn first cap) w:=fun _ _ _ _=>rfl
 rw[e1] at HG
 unfold pgv at HG o1 hW1 ⊢
 clear h ht hn hcl hgd r1 r2 r5 b1 b2 b5 B2 B5 zB hW5 e1
 go_enter Tryz.func28,Tryz.ntmps28
 go_upto_region 1 with fail
 rw[← hW1,← hW2]
 clear hW1 hW2
 go_wp2_with (go_at_call 31;(with_reducible refine HG.out.mono ?_);rintro e w5 ⟨rfl,g1⟩;have K1:=qh g1;clear g1)
 go_ret
 exact⟨rfl,K1.out⟩
end Go.Proofs.YtjepgclnbbpnaaaGreat.P12
namespace Go.Proofs.YtjepgclnbbpnaaaGreat.P12
open PK (qqA qqB qqC qqD qqE qqF tk tkS dOne qh)
open Go Go.RowKit Go.Lib PK
open P11 (Pg)
open P9 (It ItsIn kb RightI lowK hasK putI dropI putI_right dropI_right putI_len)
theorem TrS.tells{w:World}{b:Nat}{vl vg:Value}{M:PM}{D:Nat}{root:Int}{L:List It}{ids P:List Int}{p q:Nat}(h:PAt w b vl vg M)(t:TrS M D root L ids P p q)(key:ByteArray)(x:It)(hx1:hasK L key=true→L[lowK L key]?=some x)(hx2:hasK L key=false→x=⟨⟨#[]⟩,⟨#[]⟩,0⟩):Tells w b root L key D x where
 items W hb k m hk hm:=by
  refine (trItems_any W b vl vg M (h.below hb) (by have:=t.szl;omega) D root L ids t.tree (by have:=t.deep;omega) t.pool.ids_nodup (by have:=t.idsl;have:=t.llen;omega) (by have:=t.llen;omega) k m (by omega)).mono ?_
  rintro e w' ⟨v,rfl,h1,h2⟩
  exact⟨v,rfl,h1.its,h2⟩
 depth W hb:=trDepth_any W b vl vg M (h.below hb) (by have:=t.szl;omega) D root L ids t.tree (by have:=t.deep;omega) t.pool.ids_nodup
 get W hb:=trGet_any W b vl vg M (h.below hb) (by have:=t.szl;omega) D root L ids t.tree (by have:=t.deep;omega) t.pool.ids_nodup key x hx1 hx2
 check W hb:=trCheck_any W b vl vg M (h.below hb) (by have:=t.szl;omega) D root L ids t.tree (by have:=t.deep;omega) t.pool.ids_nodup (by have:=t.idsl;have:=t.llen;omega)
 root0:=t.root0
 n0:=t.deep0
 nle:=by
  rcases t.deepL with h9|h9
  ·have:=bitsN_pow _ h9
   omega
  ·omega
 hit:=hx1
 no:=hx2
def x1:It:=⟨⟨#[97]⟩,⟨#[49]⟩,0⟩
theorem x1_ok:x1.ok=true:=by decide
theorem x1_put:putI [] x1=[x1]:=by unfold putI;simp[lowK,hasK]
theorem x1_has:hasK [x1] ⟨#[97]⟩=true:=P9.hasK_iff.2 (by simp[P9.keysI,x1])
theorem x1_low:lowK [x1] ⟨#[97]⟩=0:=by
 unfold lowK
 rw[List.takeWhile_cons_of_neg (by rw[show x1.key=⟨#[97]⟩ from rfl,P9.kb_irr];simp)]
 rfl
theorem alive_any(w:World):Calls Tryz.prog 9 #[] w fun e w'=>e=.returned (.bool true)∧Below w.heap.size w w':=by
 have hP:∀ W,PAt W w.heap.size (.slice none 0 0) (.slice none 0 0) ⟨[],2,[],false,false⟩→Below w.heap.size w W→Calls Tryz.prog 11 #[pgv w.heap.size,.int .i64 0,.agg #[.string ⟨#[97]⟩,.string ⟨#[49]⟩,.int .i64 0]] W fun e w'=>∃ r,e=.returned (.tuple #[.int .i64 r,.int .i64 0])∧Tells w' w.heap.size r [x1] ⟨#[97]⟩ 1 x1∧Below w.heap.size w w':=fun W h hb=>by
  have t:=TrS.start
  refine (trPut_any W _ _ _ _ h (by simp) 0 0 [] [] t.tree (by omega) List.nodup_nil (fun x hx=>(by cases hx)) (by decide) (by simp) x1 x1_ok t.right (by rw[x1_put];simp) (by simp)).mono ?_
  rintro e w' ⟨r,vl',vg',M',rfl,g2⟩
  rw[x1_put] at g2
  obtain⟨D',i,made,g3⟩:=Did.of t g2 (by have:=putI_right t.right x1_ok;rwa[x1_put] at this) (p':=1) (q':=0) (by omega) (by simp) (by unfold gmax;omega)
  have t3:=g3.tr
  have hD:D'=1:=by
   have h0:=t3.deep0
   have h1:=t3.deepL
   have:D'≠0:=fun e=>by have:=h0.1 e;simp at this
   rcases h1 with h1|h1
   ·have:D' - 1+1≤bitsN 1:=bitsN_pow _ h1
    have e1:bitsN 1≤1:=bitsN_le 1
    omega
   ·omega
  subst hD
  refine⟨r,rfl,t3.tells g3.pg ⟨#[97]⟩ x1 (fun _=>by rw[x1_low];rfl) (fun e=>by rw[x1_has] at e;cases e),?_⟩
  refine P3.Fr.new hb g3.fr fun j hj=>?_
  rcases hj with rfl|hj|hj
  ·exact Nat.le_refl _
  ·cases hj
  ·cases hj
 have HP:=qh hP
 unfold pgv at HP
 clear hP
 have he:=fun W=>it_eql W x1 x1
 rw[sameIt_self] at he
 unfold It.v x1 at he
 go_enter Tryz.func9,Tryz.ntmps9
 go_upto_region 6 with (first
  | (go_at_call 10;(with_reducible refine (fresh_any _).mono ?_);rintro e w1 ⟨rfl,h1,hb⟩;have H1:=qh h1;have HB1:=qh hb;clear h1 hb)
  | (go_at_call 11;(with_reducible refine (HP.out _ H1.out HB1.out).mono ?_);rintro e w2 ⟨r,rfl,h2,hb⟩;have HT:=qh h2;have HB2:=qh hb;have HI:=qh (h2.items w2 (Below.refl _ _) ⟨#[]⟩ 10 (by decide) (by decide));clear h2 hb;rw[fromI_all (by decide)] at HI;unfold pgv at HI)
  | (go_at_call 19;(with_reducible refine HI.out.mono ?_);rintro e w3 ⟨v3,rfl,h3,hb⟩;have HV:=qh h3;have HB3:=qh hb;have HDp:=qh (HT.out.depth w3 hb);obtain⟨a3,c3,rfl⟩:=h3.slice;clear h3 hb;unfold pgv at HDp)
  | (go_at_call 29;(with_reducible refine HDp.out.mono ?_);rintro e w4 ⟨rfl,hb⟩;have HB4:=qh (thenBelow HB3.out hb);have HV4:=qh (HV.out.below hb);have HGt:=qh (HT.out.get w4 HB4.out);rw[x1_has] at HGt;unfold pgv It.v x1 at HGt;clear hb)
  | (go_at_call 30;(with_reducible refine HGt.out.mono ?_);rintro e w5 ⟨rfl,hb⟩;have HB5:=qh (thenBelow HB4.out hb);have HV5:=qh (HV4.out.below hb);clear hb))
 obtain⟨W6,hW6⟩:∃ W6,W6=w5.alloc (.cells #[.string ⟨#[97]⟩,.string ⟨#[49]⟩,.int .i64 0] 29):=⟨_,rfl⟩
 have b6:Below w5.heap.size w5 W6:=by rw[hW6];exact below_new _ _
 have r6:W6.heap[w5.heap.size]?=some (.cells #[.string ⟨#[97]⟩,.string ⟨#[49]⟩,.int .i64 0] 29 (0,0)):=by rw[hW6];exact new_at _ _ _
 rw[← hW6]
 clear hW6
 obtain⟨gg,go,rfl,hcc⟩:=HV5.out.at_ (i:=0) (x:=x1) rfl
 have HX:Hid (∀ W,Below W6.heap.size W6 W→W.cell? ⟨w5.heap.size,0,none⟩=some (.string ⟨#[97]⟩)∧W.cell? ⟨w5.heap.size,1,none⟩=some (.string ⟨#[49]⟩)∧W.cell? ⟨w5.heap.size,2,none⟩=some (.int .i64 0)∧W.cell? ⟨gg,go,none⟩=some (.string ⟨#[97]⟩)∧W.cell? ⟨gg,go+1,none⟩=some (.string ⟨#[49]⟩)∧W.cell? ⟨gg,go+2,none⟩=some (.int .i64 0)):=qh (fun W hb=>by
  have r7:=P3.old_below r6 hb
  obtain⟨q0,q1,q2⟩:=hcc W (b6.trans (hb.mono b6.size))
  rw[Nat.zero_mul,Nat.add_zero] at q0 q1 q2
  exact⟨by rw[cell_at r7];rfl,by rw[cell_at r7];rfl,by rw[cell_at r7];rfl,q0,q1,q2⟩)
 have HB6:=qh (thenBelow HB5.out b6)
 have HBd:=qh (Below.refl W6.heap.size W6).drew
 have HCk:=qh (HT.out.check W6.drew HB6.out.drew)
 have HBr:=qh (thenBelow HB2.out HB6.out.drew)
 unfold pgv at HCk
 clear r6 b6 hcc HI HDp HGt HP
 go_region_held3 (fun W=>W.cell? ⟨w5.heap.size,0,none⟩=some (.string ⟨#[97]⟩)∧W.cell? ⟨w5.heap.size,1,none⟩=some (.string ⟨#[49]⟩)∧W.cell? ⟨w5.heap.size,2,none⟩=some (.int .i64 0)∧W.cell? ⟨gg,go,none⟩=some (.string ⟨#[97]⟩)∧W.cell? ⟨gg,go+1,none⟩=some (.string ⟨#[49]⟩)∧W.cell? ⟨gg,go+2,none⟩=some (.int .i64 0)) (first|(with_reducible exact HX.out _ HBd.out)|(with_reducible exact HX.out _ (Below.refl _ _))|(with_reducible exact HX.out _ HB7.out)) ((go_at_call 28;(with_reducible refine HCk.out.mono ?_);rintro e w7 ⟨rfl,hb⟩;have HB7:=qh (thenBelow HBd.out hb);have HBe:=qh (thenBelow HBr.out hb);clear hb))
 all_goals
  go_wp2
  go_ret
  exact⟨rfl,HBe.out⟩
end Go.Proofs.YtjepgclnbbpnaaaGreat.P12
namespace Go.Proofs.YtjepgclnbbpnaaaGreat.P9
open Go Go.RowKit Go.Lib Go.WideShapes Go.ChangeShapes Go.ChangeAt PK
theorem cellsItem9:Tryz.prog.cellsOf 29=3:=by kernel_rfl
theorem cellsInt9:Tryz.prog.cellsOf 3=1:=by kernel_rfl
theorem cellsStr9:Tryz.prog.cellsOf 9=1:=by kernel_rfl
def ItsA(w:World)(v:Value)(l:List It):Prop:=ItsIn w v l∧Wide v
section
variable {H:Type} {enc:TypeId×Value→H} {w:World} {base:Nat} {sp:Nat→Bool} {held:Bool}
theorem item_cells{n:Nat}{cs:List Value}{x:DataW H×List MemPlace}(h:DataW.trod enc Tryz.prog w base sp held n 29 cs=some x):∃ o:It,cs=o.cells:=by
 obtain⟨xs,m,_,_,hl,hxl,hf⟩:=DataW.trod_struct Tryz.underlying29 h
 rw[cellsItem9] at hl
 match cs,hl with
 | [c0,c1,c2],_=>
  have hx:∀ i,i < 3→∃ y,xs[i]?=some y:=fun i hi=>⟨_,List.getElem?_eq_getElem (by rw[hxl];exact hi)⟩
  obtain⟨y0,e0⟩:=hx 0 (by omega)
  obtain⟨y1,e1⟩:=hx 1 (by omega)
  obtain⟨y2,e2⟩:=hx 2 (by omega)
  have f0:DataW.trod enc Tryz.prog w base sp held m 9 (([c0,c1,c2].drop 0).take (Tryz.prog.cellsOf 9))=some y0:=(hf 0 _ rfl).trans e0
  have f1:DataW.trod enc Tryz.prog w base sp held m 9 (([c0,c1,c2].drop 1).take (Tryz.prog.cellsOf 9))=some y1:=(hf 1 _ rfl).trans e1
  have f2:DataW.trod enc Tryz.prog w base sp held m 3 (([c0,c1,c2].drop 2).take (Tryz.prog.cellsOf 3))=some y2:=(hf 2 _ rfl).trans e2
  rw[cellsStr9] at f0 f1
  rw[cellsInt9] at f2
  obtain⟨s,g0,_,w0⟩:=DataW.trod_string Tryz.underlying9 f0
  obtain⟨t,g1,_,w1⟩:=DataW.trod_string Tryz.underlying9 f1
  obtain⟨k,g2,_,w2⟩:=DataW.trod_int Tryz.underlying3 f2
  obtain rfl:c0=.string s:=by simpa using g0
  obtain rfl:c1=.string t:=by simpa using g1
  obtain rfl:c2=.int .i64 k:=by simpa using g2
  exact⟨⟨s,t,k⟩,rfl⟩
theorem items_open{n:Nat}{v:Value}{x:DataW H×List MemPlace}(h:DataW.trod enc Tryz.prog w base sp held n 27 [v]=some x):∃ l,ItsA w v l:=by
 rcases Deep.open_slice Tryz.underlying27 h with ⟨hv,_⟩|⟨a,len,cap,m,q,D,Pl,hv,_,hl,hm,hmm,hx,hi⟩
 ·simp only[List.cons.injEq,and_true] at hv
  exact⟨[],⟨none,0,hv,fun _=>rfl,by simp[cellsI],cellsI_ok _,fun h=>absurd h (by simp[cellsI])⟩,none,0,0,hv,Nat.le_refl _,by omega⟩
 ·simp only[List.cons.injEq,and_true] at hv
  have hlm:len≤m:=by rw[hmm];split <;> omega
  unfold maxLen at hm
  have hch:∀ i,i < len→∃ o:It,(∀ j,j < 3→w.cell? ((a.add (i*3)).add j)=o.cells[j]?):=fun i hil=>by
   obtain⟨cs',h1,h2⟩:=hi i (by omega)
   obtain⟨o,rfl⟩:=item_cells h2
   rw[cellsItem9] at h1
   exact⟨o,(World.cells?_some h1).2.2⟩
  obtain⟨f,hf⟩:∃ f:Nat→It,∀ i,i < len→(∀ j,j < 3→w.cell? ((a.add (i*3)).add j)=(f i).cells[j]?):=by
   refine⟨fun i=>if h:i < len then Classical.choose (hch i h) else ⟨⟨#[]⟩,⟨#[]⟩,0⟩,fun i hil=>?_⟩
   simp only[hil,dif_pos]
   exact Classical.choose_spec (hch i hil)
  refine⟨(List.range len).map f,⟨some a,cap,by rw[hv,cellsI_length];simp,(fun e=>by cases e),by rw[cellsI_length];simp;omega,cellsI_ok _,fun h0=>?_⟩,some a,len,cap,hv,hl,by omega⟩
  have h0':0 < len:=by
   rw[cellsI_length] at h0
   simpa using h0
  obtain⟨b,off,spot⟩:=a
  have hc0:=hf 0 h0' 0 (by omega)
  have hspot:spot=none:=by
   have:=World.cell?_spot (w:=w) (a:=((⟨b,off,spot⟩:Addr).add (0*3)).add 0) hc0
   simpa [Addr.add] using this
  subst hspot
  have hadd:∀ i j:Nat,((⟨b,off,none⟩:Addr).add (i*3)).add j=⟨b,off+i*3+j,none⟩:=fun i j=>by
   rw[Go.WideShapes.add_plain,Go.WideShapes.add_plain]
  refine⟨b,off,rfl,?_,fun i y hy j u hju=>?_⟩
  ·rw[hadd] at hc0
   exact World.block_lt_of_cell? w _ hc0
  ·unfold cellsI at hy
   rw[List.map_map,List.getElem?_map] at hy
   obtain⟨i',hi',rfl⟩:=Option.map_eq_some_iff.1 hy
   have hil:i < len:=by have:=(List.getElem?_eq_some_iff.1 hi').1;simpa using this
   rw[List.getElem?_range hil] at hi'
   obtain rfl:i=i':=Option.some.inj hi'
   have hj4:j < 3:=(List.getElem?_eq_some_iff.1 hju).1
   have h1:=hf i hil j hj4
   rw[hadd] at h1
   show w.cell? ⟨b,off+(i*3+j),none⟩=some u
   rw[show off+(i*3+j)=off+i*3+j by omega,h1]
   exact hju
end
end Go.Proofs.YtjepgclnbbpnaaaGreat.P9
namespace Go.Proofs.YtjepgclnbbpnaaaGreat.P12
open Go Go.RowKit Go.Lib Go.WideShapes Go.ChangeShapes Go.ChangeAt PK
open P9 (It item_cells cellsItem9 cellsInt9)
section
variable {H:Type} {enc:TypeId×Value→H} {w:World} {base:Nat} {sp:Nat→Bool} {held:Bool}
end
end Go.Proofs.YtjepgclnbbpnaaaGreat.P12
namespace Go.Proofs.YtjepgclnbbpnaaaGreat.P9
open Go Go.RowKit Go.Lib PK
def IntsL(w:World)(v:Value)(l:List Int):Prop:=
 ∃ a c,v=.slice a l.length c∧l.length≤9223372036854775807∧(0 < l.length→∃ b off,a=some ⟨b,off,none⟩∧b < w.heap.size∧∀ i,i < l.length→w.cell? ⟨b,off+i,none⟩=some (.int .i64 (l.getD i 0)))
theorem IntsL.below{w w':World}{v:Value}{l:List Int}(h:IntsL w v l)(hb:Below w.heap.size w w'):IntsL w' v l:=by
 obtain⟨a,c,h1,h2,h3⟩:=h
 refine⟨a,c,h1,h2,fun h0=>?_⟩
 obtain⟨b,off,h4,h5,h6⟩:=h3 h0
 exact⟨b,off,h4,Nat.lt_of_lt_of_le h5 hb.size,fun i hi=>(hb.cell (p:=⟨b,off+i,none⟩) h5).trans (h6 i hi)⟩
def roomOf:Int→List Int→Int
 | r,[]=>r
 | r,x::l=>if r < 0∨r < x then -1 else roomOf (r - x) l
theorem roomOf_drop{r:Int}{l:List Int}{k:Nat}(h:k < l.length):roomOf r (l.drop k)=if r < 0∨r < l[k] then -1 else roomOf (r - l[k]) (l.drop (k+1)):=by
 rw[List.drop_eq_getElem_cons h];rfl
theorem room_any(w:World)(r:Int)(v:Value)(l:List Int)(h:IntsL w v l)(hr:r≤9223372036854775807)(hp:∀ i (h:i < l.length),0≤l[i]) :
  Calls Tryz.prog 27 #[.int .i64 r,v] w fun e w'=>e=.returned (.int .i64 (roomOf r l))∧w=w':=by
 obtain⟨a,c,rfl,hl,hc⟩:=h
 go_enter Tryz.func27,Tryz.ntmps27
 go_wp2
 go_loop [0,5] (fun q i=>∃ (k:Nat) (x:Int),k≤l.length∧i=.int .i64 k∧q=.int .i64 x∧x≤9223372036854775807∧Hid (roomOf r l=roomOf x (l.drop k))) (fun _ i=>l.length - (RowKit.intOf i).toNat)
 case atStart=>exact⟨0,r,Nat.zero_le _,rfl,rfl,hr,rfl⟩
 case round=>
  obtain⟨k,x,hk,rfl,rfl,hx,hxe⟩:=hrel
  by_cases hlt:k < l.length
  ·obtain⟨b,off,rfl,hb,hcc⟩:=hc (by omega)
   have hcell:=hcc k hlt
   rw[show l.getD k 0=l[k] by rw[List.getD_eq_getElem?_getD,List.getElem?_eq_getElem hlt];rfl] at hcell
   have hpos:=hp k hlt
   have hD:=hxe.out.trans (roomOf_drop hlt)
   generalize l[k]=y at hcell hD hpos
   clear hcc hc hp hxe
   by_cases h0:x < 0
   ·have hR:Hid (roomOf r l=-1):=hD.trans (if_pos (.inl h0))
    have k0:decide (x < 0)=true:=decide_eq_true h0
    clear hD
    go_wp2
    go_ret
    exact⟨by rw[hR.out];rfl,rfl⟩
   ·have k0:decide (x < 0)=false:=decide_eq_false h0
    by_cases h1:x < y
    ·have hR:Hid (roomOf r l=-1):=hD.trans (if_pos (.inr h1))
     have k1:decide (x < y)=true:=decide_eq_true h1
     clear hD
     go_wp2
     go_ret
     exact⟨by rw[hR.out];rfl,rfl⟩
    ·have hR:Hid (roomOf r l=roomOf (x - y) (l.drop (k+1))):=hD.trans (if_neg (by omega))
     have k1:decide (x < y)=false:=decide_eq_false h1
     clear hD
     go_wp2
     go_round
     case rel=>exact⟨k+1,x - y,by omega,by go_num,by go_num,by omega,hR⟩
     case measure=>simp[RowKit.intOf];omega
  ·have hR:Hid (roomOf r l=x):=by
    show _=_
    rw[hxe.out,List.drop_eq_nil_of_le (by omega)];rfl
   go_wp2
   go_ret
   exact⟨by rw[hR.out];rfl,rfl⟩
end Go.Proofs.YtjepgclnbbpnaaaGreat.P9
namespace Go.Proofs.YtjepgclnbbpnaaaGreat.P12
open Go Go.RowKit Go.Lib PK
open P9 (It IntsL roomOf room_any)
theorem room2_(w W:World)(r x y:Int)(hW:Below (w.alloc (.cells #[.int .i64 x,.int .i64 y] 3)).heap.size (w.alloc (.cells #[.int .i64 x,.int .i64 y] 3)) W)(hr:r≤20000)(hx:0≤x)(hy:0≤y) :
  Calls Tryz.prog 27 #[.int .i64 r,.slice (some ⟨w.heap.size,0,none⟩) 2 2] W fun e w'=>
   (∃ q,e=.returned (.int .i64 q)∧q≤20000)∧W=w':=by
 have hI:IntsL (w.alloc (.cells #[.int .i64 x,.int .i64 y] 3)) (.slice (some ⟨w.heap.size,0,none⟩) 2 2) [x,y]:=by
  refine⟨_,2,rfl,by simp,fun _=>⟨w.heap.size,0,rfl,by simp,fun i hi=>?_⟩⟩
  rw[Nat.zero_add,cell_at (new_at w _ _)]
  match i,hi with
  | 0,_=>rfl
  | 1,_=>rfl
 refine (room_any W r _ [x,y] (hI.below hW) (by omega) (fun i hi=>?_)).mono ?_
 ·match i,hi with
  | 0,_=>exact hx
  | 1,_=>exact hy
 ·rintro e w' ⟨rfl,rfl⟩
  refine⟨⟨_,rfl,?_⟩,rfl⟩
  simp only[roomOf]
  split <;> (try split) <;> omega
end Go.Proofs.YtjepgclnbbpnaaaGreat.P12
