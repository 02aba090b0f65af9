/-
  Texts of the proofs of SaidOrd12.
-/
import Derived.Test.YtjepgclnbbpnaaaGreatMs36
set_option linter.unusedVariables false
set_option linter.unusedSimpArgs false
set_option maxHeartbeats 8000000
set_option maxRecDepth 100000
namespace Go.Proofs.YtjepgclnbbpnaaaGreat.P12
open PK (qqA qqB qqC qqD qqE qqF tk tkS dOne qh)
open Go Go.RowKit Go.Lib PK
open P9 (It kb hasK lowK)
theorem item_result3{fn:Func}{q u v:Tmp}(h:fn.results=#[.cell q 29,.tmp u,.tmp v])(tmps:Array Value)(w:World)(a:Nat)(cs:Array Value)(hq:tmps.getD q undef=.pointer (some ⟨a,0,none⟩))(hc:w.heap[a]?=some (.cells cs 29 (0,0)))(hs:cs.size=3) :
  (results fn tmps).run Tryz.prog w=.ok (.tuple #[.agg cs,tmps.getD u undef,tmps.getD v undef]) w:=by
 have hi:(Tryz.prog.info? 29).map (·.size)=some cs.size:=by rw[hs];kernel_rfl
 have e0:(results fn tmps).run Tryz.prog w=((asAddr (tmps.getD q undef)).run Tryz.prog w).andThen fun a w₁=>((loadVar 29 a).run Tryz.prog w₁).andThen fun x w₂=>.ok (.tuple #[x,tmps.getD u undef,tmps.getD v undef]) w₂:=by
  simp only[results,h]
  simp[Sem.run_bind,Result.andThen]
 have e1:(asAddr (.pointer (some ⟨a,0,none⟩))).run Tryz.prog w=.ok ⟨a,0,none⟩ w:=rfl
 rw[e0,hq,e1,Result.andThen_ok,run_loadVar_row (P:=Tryz.prog) w a 29 29 cs (0,0) _ hc Tryz.underlying29 rfl hi]
 rfl
theorem DnS.below{a w w':World}{x:Option Nat}{b s mb:Nat}{vw vw':Value}{ps':List Sp}{sn':List Int}(h:DnS w w' x b s mb vw vw' ps' sn')(k:Below a.heap.size a w)(hs:∀ j,SS s mb vw j→a.heap.size≤j):Below a.heap.size a w':=P3.Fr.new k h.fr hs
theorem SS_new{a:World}{s mb:Nat}(h1:a.heap.size≤s)(h2:a.heap.size≤mb):∀ j,SS s mb (.slice none 0 0) j→a.heap.size≤j:=fun j hj=>by
 rcases hj with rfl|hj|rfl
 ·exact h1
 ·cases hj
 ·exact h2
theorem tiDepth_any(w:World)(b:Nat)(vl vg:Value)(M:PM)(h:PAt w b vl vg M)(hl:M.L.length≤100000)(D:Nat)(root:Int)(L:List It)(ids:List Int)(ht:Tree M D root L ids)(hD:D≤12)(hn:ids.Nodup) :
  Calls Tryz.prog 47 #[pgv b,.int .i64 root] w fun e w'=>e=.returned (.tuple #[.int .i64 D,.int .i64 0])∧Below w.heap.size w w':=by
 have HP:=qh h
 cases D with
 | zero=>
  obtain⟨rfl,rfl,rfl⟩:=ht
  have HO:=qh (on_any w none b)
  have HD:=qh (fun W=>down_zero W (w.heap.size+1) ⟨#[]⟩)
  unfold pgv at HO ⊢
  clear h
  go_enter Tryz.func47,Tryz.ntmps47
  go_wp2_with (first
   | (go_at_call 52;(with_reducible refine HO.out.mono ?_);rintro e w1 ⟨rfl,h1,h2⟩;have H1:=qh h1;have H2:=qh h2;have o1:=cell_at h1.obj 1;simp only[qqD,qqE,qqF] at o1;clear h1 h2)
   | (go_at_call 53;(with_reducible refine (HD.out _).mono ?_);rintro e w2 ⟨rfl,rfl⟩))
  go_ret2
  exact⟨rfl,H2.out⟩
 | succ d=>
  have ht:TreeAt M (d+1) root L ids:=ht
  have HT:=qh ht
  have HO:=qh (on_any w none b)
  have HD:=qh (fun W (h1:SkAt W none b (w.heap.size+1) w.heap.size (.slice none 0 0) [] []) (h2:Below w.heap.size w W)=>down_any W none b vl vg M (w.heap.size+1) w.heap.size (.slice none 0 0) [] [] (h.below h2) h1 hl (d+1) root ⟨#[]⟩ L ids ht (by simp;omega) hn (fun _ _ f=>by cases f) (by simp) (fun _ e=>by cases e))
  unfold pgv at HO ⊢
  clear h ht
  go_enter Tryz.func47,Tryz.ntmps47
  go_wp2_with (first
   | (go_at_call 52;(with_reducible refine HO.out.mono ?_);rintro e w1 ⟨rfl,h1,h2⟩;have H1:=qh h1;have H2:=qh h2;clear h1 h2)
   | (go_at_call 53;(with_reducible refine (HD.out _ H1.out H2.out).mono ?_);rintro e w2 ⟨vw',ts,pl,fs,id',l',i',rfl,h3,h4⟩;have H3:=qh h3;have H4:=qh h4;obtain⟨a,c,e9⟩:=h3.sk.slice;subst e9;have o2:=cell_at h3.sk.obj 1;simp only[qqD,qqE,qqF] at o2;clear h3 h4))
  go_ret2
  have e9:=H4.out.dn.len
  have e8:=H4.out.tw.len
  rw[List.length_reverse] at e8
  exact⟨by rw[show ((d+1:Nat):Int)=(ts.length:Int)+1 by omega];rfl,H3.out.below H2.out (SS_new (Nat.le_succ _) (Nat.le_refl _))⟩
theorem tiGet_any(w:World)(b:Nat)(vl vg:Value)(M:PM)(h:PAt w b vl vg M)(hl:M.L.length≤100000)(D:Nat)(root:Int)(L:List It)(ids:List Int)(ht:Tree M D root L ids)(hD:D≤12)(hn:ids.Nodup)(key:ByteArray)(x:It)
  (h1:hasK L key=true→L[lowK L key]?=some x) (h2:hasK L key=false→x=⟨⟨#[]⟩,⟨#[]⟩,0⟩) :
  Calls Tryz.prog 49 #[pgv b,.int .i64 root,.string key] w fun e w'=>e=.returned (.tuple #[x.v,.bool (hasK L key),.int .i64 0])∧Below w.heap.size w w':=by
 obtain⟨W0,hW0⟩:∃ W0,W0=w.alloc (.cells #[.string ⟨#[]⟩,.string ⟨#[]⟩,.int .i64 0] 29):=⟨_,rfl⟩
 have b0:Below w.heap.size w W0:=by rw[hW0];exact below_new _ _
 have r0:W0.heap[w.heap.size]?=some (.cells #[.string ⟨#[]⟩,.string ⟨#[]⟩,.int .i64 0] 29 (0,0)):=by rw[hW0];exact new_at _ _ _
 have HP:=qh (h.below b0)
 have B0:=qh b0
 have HO:=qh (on_any W0 none b)
 obtain⟨kx,vx,qx⟩:=x
 cases D with
 | zero=>
  obtain⟨rfl,rfl,rfl⟩:=ht
  have hx:=h2 rfl
  cases hx
  have HD:=qh (fun W=>down_zero W (W0.heap.size+1) key)
  have HI:=qh (fun W (k:SkAt W none b (W0.heap.size+1) W0.heap.size (.slice none 0 0) [] [])=>skItems_nil W none b (W0.heap.size+1) W0.heap.size (.slice none 0 0) [] k)
  have HF:=qh (fun W=>P9.find_any W (.slice none 0 0) [] key (P9.OwnI.nil 0 W).its (by simp) P9.RightI.nil)
  have hk0:hasK [] key=false:=rfl
  have hl0:lowK [] key=0:=rfl
  rw[hk0,hl0] at HF
  rw[hk0]
  unfold pgv at HO ⊢
  have HR0:=qh (fun W (k:Below W0.heap.size W0 W)=>P3.old_below r0 k)
  clear h h1 h2 r0 b0
  go_enter Tryz.func49,Tryz.ntmps49
  go_upto_region 1 with fail
  rw[← hW0]
  clear hW0
  go_wp2_with (first
   | (go_at_call 52;(with_reducible refine HO.out.mono ?_);rintro e w1 ⟨rfl,h1,h2⟩;have H1:=qh h1;have H2:=qh h2;clear h1 h2)
   | (go_at_call 53;(with_reducible refine (HD.out _).mono ?_);rintro e w2 ⟨rfl,rfl⟩)
   | (go_at_call 57;(with_reducible refine (HI.out _ H1.out).mono ?_);rintro e w3 ⟨rfl,rfl⟩)
   | (go_at_call 66;(with_reducible refine (HF.out _).mono ?_);rintro e w4 ⟨rfl,h4⟩;have H4:=qh (thenBelow H2.out h4);have hr4:=HR0.out _ H4.out;have q0:=cell_at hr4 0;have q1:=cell_at hr4 1;have q2:=cell_at hr4 2;have f0:=free_at hr4 0;have f1:=free_at hr4 1;have f2:=free_at hr4 2;simp only[qqD,qqE,qqF] at q0 q1 q2;clear h4 hr4))
  have hr4:=HR0.out _ H4.out
  have hs:=r5_set hr4 (.string ⟨#[]⟩) (.string ⟨#[]⟩) (.int .i64 0)
  refine bodyPost_ret (item_result3 rfl _ _ w.heap.size _ rfl hs.1 rfl) rfl ⟨rfl,?_⟩
  exact (((thenBelow B0.out H4.out).setCell (p:=⟨w.heap.size,0,none⟩) (Nat.le_refl _) _).setCell (p:=⟨w.heap.size,1,none⟩) (Nat.le_refl _) _).setCell (p:=⟨w.heap.size,2,none⟩) (Nat.le_refl _) _
 | succ d=>
  have ht:TreeAt M (d+1) root L ids:=ht
  have HD:=qh (fun W (h1:SkAt W none b (W0.heap.size+1) W0.heap.size (.slice none 0 0) [] []) (h2:Below W0.heap.size W0 W)=>down_any W none b vl vg M (W0.heap.size+1) W0.heap.size (.slice none 0 0) [] [] (HP.out.below h2) h1 hl (d+1) root key L ids ht (by simp;omega) hn (fun _ _ f=>by cases f) (by simp) (fun _ e=>by cases e))
  have HI:=qh (fun W vw' ts pl sn (k:SkAt W none b (W0.heap.size+1) W0.heap.size vw' (ts++[pl]) sn) (h9:ts.length≤100000)=>skItems_any W none b (W0.heap.size+1) W0.heap.size vw' ts sn pl k h9)
  have HR0:=qh (fun W (k:P3.Fr (SS (W0.heap.size+1) W0.heap.size (.slice none 0 0)) W0 W)=>k.keep r0 (fun e=>by
   have h9:=lt_of_block r0
   rcases e with e|e|e
   ·omega
   ·cases e
   ·omega))
  have HX1:=qh h1
  have HX2:=qh h2
  unfold pgv at HO ⊢
  clear h h1 h2 r0 b0 ht
  go_enter Tryz.func49,Tryz.ntmps49
  go_upto_region 1 with fail
  rw[← hW0]
  clear hW0
  go_upto_region 6 with (first
   | (go_at_call 52;(with_reducible refine HO.out.mono ?_);rintro e w1 ⟨rfl,h1,h2⟩;have H1:=qh h1;have H2:=qh h2;clear h1 h2)
   | (go_at_call 53;(with_reducible refine (HD.out _ H1.out H2.out).mono ?_);rintro e w2 ⟨vw',ts,pl,fs,id',l',i',rfl,h3,h4⟩;have H3:=qh h3;have H4:=qh h4;have h5:=HI.out _ vw' ts pl _ h3.sk (by have e9:=h4.dn.len;have e8:=h4.tw.len;rw[List.length_reverse] at e8;omega);have H5:=qh h5;clear h3 h4 h5)
   | (go_at_call 57;(with_reducible refine H5.out.mono ?_);rintro e w3 ⟨rfl,h6⟩;have H6:=qh h6;clear h6))
  have hnd:NdT w2 none pl.vi pl.vk (.lf l'):=by
   have:=H3.out.sk.nd pl (by simp)
   rw[H4.out.lf.1] at this
   exact this
  have hr:=H4.out.dn.tree.right
  obtain⟨la,lb,ia,ib,hw,htr,hroom,hL,hI,hlow,hhi⟩:=H4.out.dn
  have hkk:hasK L key=hasK l' key:=by rw[hL,hasK_mid hlow hhi]
  have hll:lowK L key=la.length+lowK l' key:=by rw[hL,lowK_mid hlow hhi]
  have hit:hasK l' key=true→l'[lowK l' key]?=some ⟨kx,vx,qx⟩:=fun e9=>by
   have h9:=HX1.out (by rw[hkk];exact e9)
   have h8:=low_hit_lt hr e9
   rw[hll,hL,List.append_assoc,List.getElem?_append_right (by omega),Nat.add_sub_cancel_left,List.getElem?_append_left (by omega)] at h9
   exact h9
  have hno:=HX2.out
  rw[hkk] at hno
  have HKk:=qh hkk
  have HF:=qh (fun W (k:Below w2.heap.size w2 W)=>P9.find_any W pl.vi l' key ((hnd.1.keep (FrT.of k)).its) (by have h9:=htr.1;obtain⟨_,_,_,h9,_⟩:=h9;have:=P9.sumI_len l';omega) hr)
  have HND:=qh hnd.1
  obtain⟨a,c,e9⟩:=hnd.1.its.slice
  rw[e9] at HF HND ⊢
  have HIt:=qh hit
  have HNo:=qh hno
  have B3:Hid (Below w.heap.size w w3):=thenBelow (thenBelow B0.out (H3.out.below H2.out (SS_new (Nat.le_succ _) (Nat.le_refl _)))) H6.out
  have hr2:=HR0.out _ (frThen (P3.Fr.of H2.out) H3.out.fr fun _ _ f=>f)
  have HR3:=qh (fun W (k:Below w2.heap.size w2 W)=>P3.old_below hr2 k)
  have Hlen:Hid (lowK l' key≤l'.length∧(hasK l' key=true→lowK l' key < l'.length)∧l'.length≤1000):=⟨P9.lowK_le _ _,fun e=>by have:=low_hit_lt hr e;omega,by have h9:=htr.1;obtain⟨_,_,_,h9,_⟩:=h9;have:=P9.sumI_len l';omega⟩
  clear hnd hr hw htr hroom hL hI hlow hhi hkk hll hit hno e9 hr2
  generalize hasK l' key=B at *
  generalize lowK l' key=K at *
  obtain⟨hle,hlt,hsm⟩:=Hlen.out
  clear Hlen
  cases B with
  | false=>
   have hx:=HNo.out rfl
   cases hx
   generalize l'.length=N at *
   go_wp2_with (first
    | (go_at_call 66;(with_reducible refine (HF.out _ H6.out).mono ?_);rintro e w4 ⟨rfl,h4⟩;have H7:=qh h4;have hr4:=HR3.out _ (thenBelow H6.out h4);have q0:=cell_at hr4 0;have q1:=cell_at hr4 1;have q2:=cell_at hr4 2;have f0:=free_at hr4 0;have f1:=free_at hr4 1;have f2:=free_at hr4 2;simp only[qqD,qqE,qqF] at q0 q1 q2;clear h4 hr4))
   have hr4:=HR3.out _ (thenBelow H6.out H7.out)
   have hs:=r5_set hr4 (.string ⟨#[]⟩) (.string ⟨#[]⟩) (.int .i64 0)
   refine bodyPost_ret (item_result3 rfl _ _ w.heap.size _ rfl hs.1 rfl) rfl ⟨by rw[HKk.out];rfl,?_⟩
   exact (((thenBelow B3.out H7.out).setCell (p:=⟨w.heap.size,0,none⟩) (Nat.le_refl _) _).setCell (p:=⟨w.heap.size,1,none⟩) (Nat.le_refl _) _).setCell (p:=⟨w.heap.size,2,none⟩) (Nat.le_refl _) _
  | true=>
   have hx:=HIt.out rfl
   have hlt:=hlt rfl
   obtain⟨bk,off,e9,hcc⟩:=HND.out.its.at_ hx
   subst e9
   have HC:=qh hcc
   have k1:(0:Int)≤(K:Int):=by omega
   have k2:(K:Int) < (l'.length:Int):=by omega
   clear hcc hx
   generalize l'.length=N at *
   go_wp2_with (first
    | (go_at_call 66;(with_reducible refine (HF.out _ H6.out).mono ?_);rintro e w4 ⟨rfl,h4⟩;have H7:=qh h4;have hr4:=HR3.out _ (thenBelow H6.out h4);have q0:=cell_at hr4 0;have q1:=cell_at hr4 1;have q2:=cell_at hr4 2;have f0:=free_at hr4 0;have f1:=free_at hr4 1;have f2:=free_at hr4 2;simp only[qqD,qqE,qqF] at q0 q1 q2;obtain⟨z0,z1,z2⟩:=HC.out _ (thenBelow H6.out h4);clear h4 hr4))
   have hr4:=HR3.out _ (thenBelow H6.out H7.out)
   have hs:=r5_set hr4 (.string kx) (.string vx) (.int .i64 qx)
   refine bodyPost_ret (item_result3 rfl _ _ w.heap.size _ rfl hs.1 rfl) rfl ⟨by rw[HKk.out];rfl,?_⟩
   exact (((thenBelow B3.out H7.out).setCell (p:=⟨w.heap.size,0,none⟩) (Nat.le_refl _) _).setCell (p:=⟨w.heap.size,1,none⟩) (Nat.le_refl _) _).setCell (p:=⟨w.heap.size,2,none⟩) (Nat.le_refl _) _
end Go.Proofs.YtjepgclnbbpnaaaGreat.P12
namespace Go.Proofs.YtjepgclnbbpnaaaGreat.P12
open Go Go.RowKit Go.Lib PK
open P11 (Pg cellsP PgsIn NsIn)
open P9 (It kb kb_trans RightI hasK lowK putI dropI)
structure Dnd (M:PM) (D:Nat) (root:Int) (key:ByteArray) (L:List It) (ids:List Int) (w2:World) (b s mb:Nat) (vw:Value) (ps:List Sp) (sn:List Int) (vI:Value) (l':List It):Prop where
 sk:SkAt w2 none b s mb vw ps sn
 it:ItT w2 none vI l'
 items:∀ W,Below w2.heap.size w2 W→Calls Tryz.prog 57 #[.pointer (some ⟨s,0,none⟩)] W fun e w'=>e=.returned vI∧Below W.heap.size W w'
 pl:ps.length≤12
 right:RightI l'
 len:l'.length≤L.length
 mid:∃ la lb,L=la++l'++lb∧Lows la key∧Highs lb key
 up:∀ (L' l2:List It) (gr:Bool) (G:Cg),(∀ la lb,L=la++l'++lb→Lows la key→Highs lb key→L'=la++l2++lb)→RightI L'→L'.length≤250→(∀ x∈l2,x∈l'∨x.key=key)→(gr=true→l'.length≤l2.length)→
  G.M=M→G.sets=[]→G.made=[]→G.gone=[]→G.sn=sn→G.key=key→UpL M D root key ids L' gr ps ps.length G (.lf l2) true
theorem down_all(w:World)(b s mb:Nat)(vl vg:Value)(M:PM)(h:PAt w b vl vg M)(hs:SkAt w none b s mb (.slice none 0 0) [] [])(hsz:M.L.length≤3400)(D:Nat)(root:Int)(L:List It)(ids:List Int)(ht:Tree M D root L ids)(hD:D≤12)(hn:ids.Nodup)(hr:∀ x∈ids,2≤x∧x < M.next)(hfr:2≤M.fr)(key:ByteArray) :
  Calls Tryz.prog 53 #[.pointer (some ⟨s,0,none⟩),.int .i64 root,.string key] w fun e w'=>∃ vw ps sn vI l',e=.returned (.int .i64 0)∧Dnd M D root key L ids w' b s mb vw ps sn vI l'∧DnS w w' none b s mb (.slice none 0 0) vw ps sn:=by
 cases D with
 | zero=>
  obtain⟨rfl,rfl,rfl⟩:=ht
  refine (down_zero w s key).mono ?_
  rintro e w' ⟨rfl,rfl⟩
  refine⟨.slice none 0 0,[],[],.slice none 0 0,[],rfl,⟨hs,ItT.nil _ _,fun W k=>(skItems_nil W none b s mb (.slice none 0 0) [] (hs.below k)).mono fun e w2 ⟨g1,g2⟩=>⟨g1,by rw[g2];exact Below.refl _ _⟩,Nat.zero_le _,P9.RightI.nil,Nat.le_refl _,⟨[],[],rfl,Lows.nil _,Highs.nil _⟩,?_⟩,⟨hs,P3.Fr.refl _ _,fun j e=>.inl e⟩⟩
  intro L' l2 gr G h1 h2 h3 _ _ g1 g2 g3 g4 _ _
  have e:L'=l2:=by simpa using h1 [] [] rfl (Lows.nil _) (Highs.nil _)
  subst e
  exact up_none hsz hfr h2 h3 g1 g2 g3 g4 _ _
 | succ d=>
  have ht:TreeAt M (d+1) root L ids:=ht
  refine (down_any w none b vl vg M s mb (.slice none 0 0) [] [] h hs (by omega) (d+1) root key L ids ht (by simp;omega) hn (fun _ _ f=>by cases f) (by simp) (fun _ e=>by cases e)).mono ?_
  rintro e w' ⟨vw',ts,pl,fs,id',l',i',rfl,g1,g2⟩
  rw[List.nil_append] at g1
  rw[List.nil_append] at g1
  have hdl:=g2.dn.len
  have htl:=g2.tw.len
  rw[List.length_reverse] at htl
  obtain⟨la,lb,ia,ib,hw,htr,hroom,hL,hI,hlow,hhi⟩:=g2.dn
  have hnd:NdT w' none pl.vi pl.vk (.lf l'):=by
   have:=g1.sk.nd pl (by simp)
   rw[g2.lf.1] at this
   exact this
  refine⟨vw',ts++[pl],pathI fs++[id'],pl.vi,l',rfl,⟨g1.sk,hnd.1,fun W k=>skItems_any W none b s mb vw' ts _ pl (g1.sk.below k) (by omega),?_,htr.right,?_,⟨la,lb,hL,hlow,hhi⟩,?_⟩,g1⟩
  ·rw[List.length_append,List.length_singleton]
   omega
  ·rw[hL,List.length_append,List.length_append]
   omega
  ·intro L' l2 gr G h1 h2 h3 h4 h5 e1 e2 e3 e4 e5 e6
   exact up_start g2 hD hn hr hsz hfr h1 h2 h3 h4 h5 e1 e2 e3 e4 e5 e6
theorem putI_grow(l:List It)(x:It):l.length≤(putI l x).length:=by
 have h:=P9.lowK_le l x.key
 unfold P9.putI
 simp only[List.length_append,List.length_take,List.length_drop,List.length_singleton]
 split <;> omega
end Go.Proofs.YtjepgclnbbpnaaaGreat.P12
namespace Go.Proofs.YtjepgclnbbpnaaaGreat.P12
open PK (qqA qqB qqC qqD qqE qqF tk tkS dOne qh)
open Go Go.RowKit Go.Lib PK
open P11 (Pg cellsP PgsIn NsIn)
open P9 (It kb kb_trans RightI hasK lowK putI dropI)
structure Chd (w w':World) (b:Nat) (vl vg:Value) (M:PM) (ids:List Int) (L':List It) (c:Nat) (r:Int) (vl' vg':Value) (M':PM):Prop where
 pg:PAt w' b vl' vg' M'
 fr:P3.Fr (PS b vl vg) w w'
 new:∀ j,PS b vl' vg' j→PS b vl vg j∨w.heap.size≤j
 res:DoR M ids L' c r M'
theorem Chd.below{w w' w2:World}{b:Nat}{vl vg:Value}{M:PM}{ids:List Int}{L':List It}{c:Nat}{r:Int}{vl' vg':Value}{M':PM}(h:Chd w w' b vl vg M ids L' c r vl' vg' M')(k:Below w'.heap.size w' w2):Chd w w2 b vl vg M ids L' c r vl' vg' M':=
 ⟨h.pg.below k,h.fr.trans (P3.Fr.of k),h.new,h.res⟩
theorem chd_of{w W w':World}{G0:Cg}{vl' vg':Value}{M' M:PM}{ids:List Int}{L':List It}{c:Nat}{r:Int}(k:Below w.heap.size w W)(hS:∀ j,SS G0.s G0.mb G0.vw j∨CS G0.c G0.vm G0.vs G0.vo j→w.heap.size≤j)(h1:PAt w' G0.b vl' vg' M')(h2:P3.Fr G0.S W w')(h3:∀ j,PS G0.b vl' vg' j→G0.S j∨W.heap.size≤j)
  (h4:DoR M ids L' c r M'):Chd w w' G0.b G0.vl G0.vg M ids L' c r vl' vg' M':=by
 refine⟨h1,frThen (P3.Fr.of k) h2 fun j hj hs=>?_,fun j hj=>?_,h4⟩
 ·rcases hs with hs|hs
  ·exact hs
  ·have:=hS j hs
   omega
 ·rcases h3 j hj with h5|h5
  ·rcases h5 with h5|h5
   ·exact .inl h5
   ·exact .inr (hS j h5)
  ·exact .inr (Nat.le_trans k.size h5)
theorem tiPut_bad(w:World)(b:Nat)(root:Int)(x:It)(hx:x.ok=false):Calls Tryz.prog 33 #[pgv b,.int .i64 root,x.v] w fun e w'=>e=.returned (.tuple #[.int .i64 0,.int .i64 1])∧Below w.heap.size w w':=by
 have hv:=fun W=>P9.valid_any W x
 rw[hx] at hv
 obtain⟨kx,vx,qx⟩:=x
 unfold P9.It.v at hv ⊢
 have HV:=qh hv
 have r0:=fun W (k:Below (w.alloc (.cells #[.string kx,.string vx,.int .i64 qx] 29)).heap.size (w.alloc (.cells #[.string kx,.string vx,.int .i64 qx] 29)) W)=>P3.old_below (new_at w #[.string kx,.string vx,.int .i64 qx] 29) k
 have HR:=qh r0
 have h9:=r0 _ (Below.refl _ _)
 have x0:=cell_at h9 0
 have x1:=cell_at h9 1
 have x2:=cell_at h9 2
 simp only[qqD,qqE,qqF] at x0 x1 x2
 unfold pgv
 clear r0 h9 hv hx
 go_enter Tryz.func33,Tryz.ntmps33
 go_wp2_with (go_at_call 51;(with_reducible refine (HV.out _).mono ?_);rintro e w2 ⟨rfl,hz⟩;have HZ:=qh hz;clear hz)
 go_ret2
 exact⟨rfl,thenBelow (below_new w _) HZ.out⟩
theorem tiPut_any(w:World)(b:Nat)(vl vg:Value)(M:PM)(h:PAt w b vl vg M)(hsz:M.L.length≤3400)(D:Nat)(root:Int)(L:List It)(ids:List Int)(ht:Tree M D root L ids)(hD:D≤12)(hn:ids.Nodup)(hr:∀ x∈ids,2≤x∧x < M.next)(hfr:2≤M.fr)(hgv:M.given.length≤90000)(x:It)(hx:x.ok=true)
  (hR:RightI L) (hl:(putI L x).length≤250) (hLl:L.length≤250) :
  Calls Tryz.prog 33 #[pgv b,.int .i64 root,x.v] w fun e w'=>∃ r vl' vg' M',e=.returned (.tuple #[.int .i64 r,.int .i64 0])∧Chd w w' b vl vg M ids (putI L x) (gmax true D) r vl' vg' M':=by
 have hv:=fun W=>P9.valid_any W x
 rw[hx] at hv
 obtain⟨W0,hW0⟩:∃ W0,W0=w.alloc (.cells #[.string x.key,.string x.val,.int .i64 x.kind] 29):=⟨_,rfl⟩
 have b0:Below w.heap.size w W0:=by rw[hW0];exact below_new _ _
 have r0:W0.heap[w.heap.size]?=some (.cells #[.string x.key,.string x.val,.int .i64 x.kind] 29 (0,0)):=by rw[hW0];exact new_at _ _ _
 have ho:∀ W,Calls Tryz.prog 52 #[pgv b] W fun e w'=>∃ s mb,e=.returned (.pointer (some ⟨s,0,none⟩))∧SkAt w' none b s mb (.slice none 0 0) [] []∧W.heap.size≤s∧W.heap.size≤mb∧Below W.heap.size W w':=fun W=>
  (on_any W none b).mono fun e w' ⟨g1,g2,g3⟩=>⟨W.heap.size+1,W.heap.size,g1,g2,Nat.le_succ _,Nat.le_refl _,g3⟩
 have hd:∀ W s mb,PAt W b vl vg M→SkAt W none b s mb (.slice none 0 0) [] []→_:=fun W s mb k1 k2=>down_all W b s mb vl vg M k1 k2 hsz D root L ids ht hD hn hr hfr x.key
 have HV:=qh hv
 have HO:=qh ho
 have HD:=qh hd
 have HP:=qh h
 have B0:=qh b0
 have R0:=qh r0
 have HRi:=qh hR
 have HL:=qh hl
 have HX:=qh hx
 obtain⟨kx,vx,qx⟩:=x
 have x0:=cell_at r0 0
 have x1:=cell_at r0 1
 have x2:=cell_at r0 2
 simp only[qqD,qqE,qqF] at x0 x1 x2
 unfold P9.It.v at HV ⊢
 unfold pgv at HO ⊢
 clear hv ho hd h b0 r0 hR hl hx ht
 go_enter Tryz.func33,Tryz.ntmps33
 go_upto_region 1 with fail
 rw[← hW0]
 clear hW0
 go_upto_region 4 with (first
  | (go_at_call 51;(with_reducible refine (HV.out _).mono ?_);rintro e w1 ⟨rfl,hz⟩;have H1:=qh (thenBelow B0.out hz);have Z1:=qh hz;clear hz)
  | (go_at_call 52;(with_reducible refine (HO.out _).mono ?_);rintro e w2 ⟨s,mb,rfl,g1,g2,g3,g4⟩;have H2:=qh (thenBelow H1.out g4);have Z2:=qh (thenBelow Z1.out g4);have K2:=qh g1;have HSs:Hid (w.heap.size≤s∧w.heap.size≤mb):=qh ⟨Nat.le_trans H1.out.size g2,Nat.le_trans H1.out.size g3⟩;have HS0:Hid (W0.heap.size≤s∧W0.heap.size≤mb):=qh ⟨Nat.le_trans Z1.out.size g2,Nat.le_trans Z1.out.size g3⟩;clear g1 g2 g3 g4))
 have r2:=P3.old_below R0.out Z2.out
 have R2:=qh r2
 have y0:=cell_at r2 0
 simp only[qqD,qqE,qqF] at y0
 clear r2 x0 x1 x2
 go_upto_region 7 with (go_at_call 53;(with_reducible refine (HD.out _ s mb (HP.out.below H2.out) K2.out).mono ?_);rintro e w3 ⟨vw,ps,sn,vI,l',rfl,g1,g2⟩;have HDn:=qh g1;have HDs:=qh g2;clear g1 g2)
 have h3:Below w.heap.size w w3:=HDs.out.below H2.out (SS_new HSs.out.1 HSs.out.2)
 have z3:Below W0.heap.size W0 w3:=HDs.out.below Z2.out (SS_new HS0.out.1 HS0.out.2)
 have r3:=P3.old_below R0.out z3
 have hca:=ch_start kx (HP.out.below h3) HDn.out.sk
 have H3:=qh h3
 have Z3:=qh z3
 have R3:=qh r3
 have v0:=cell_at r3 0
 simp only[qqD,qqE,qqF] at v0
 clear y0
 go_upto_region 8 with fail
 clear v0 r3
 obtain⟨W7,hW7⟩:∃ W,W=w3.alloc (.cells #[.pointer (some ⟨s,0,none⟩),.string kx,.slice none 0 0,.slice none 0 0,.slice none 0 0] 76):=⟨_,rfl⟩
 obtain⟨cb,hcb⟩:∃ c,c=w3.heap.size:=⟨_,rfl⟩
 rw[← hW7,← hcb]
 rw[← hW7,← hcb] at hca
 have b7:Below w3.heap.size w3 W7:=by rw[hW7];exact below_new _ _
 have HCa:=qh hca
 have B7:=qh b7
 have HCb:Hid (w.heap.size≤cb):=qh (by rw[hcb];exact h3.size)
 have r7:=P3.old_below R3.out b7
 have R7:=qh r7
 have HSt:Hid (∀ W,Below W7.heap.size W7 W→W.cell? ⟨w.heap.size,0,none⟩=some (.string kx)∧W.cell? ⟨w.heap.size,1,none⟩=some (.string vx)∧W.cell? ⟨w.heap.size,2,none⟩=some (.int .i64 qx)):=fun W k=>by
  have h9:=P3.old_below R7.out k
  exact⟨cell_at h9 0,cell_at h9 1,cell_at h9 2⟩
 obtain⟨va,vc,hvI⟩:=HDn.out.it.its.slice
 have HIt:Hid (∀ W,Below W7.heap.size W7 W→Calls Tryz.prog 57 #[.pointer (some ⟨s,0,none⟩)] W fun e w'=>e=.returned vI∧Below W7.heap.size W7 w'):=fun W k=>(HDn.out.items W (thenBelow B7.out k)).mono fun e w' ⟨g1,g2⟩=>⟨g1,thenBelow k g2⟩
 have HPt:Hid (∀ W,Below W7.heap.size W7 W→Calls Tryz.prog 56 #[vI,.agg #[.string kx,.string vx,.int .i64 qx]] W fun e w'=>∃ v' n a c,e=.returned v'∧v'=.slice a n c∧NdT w' none v' (.slice none 0 0) (.lf (putI l' ⟨kx,vx,qx⟩))∧Below W7.heap.size W7 w'):=fun W k=>by
  have hi:=HDn.out.it.keep ((FrT.of B7.out).trans (FrT.of k))
  refine (P9.put_any W vI l' ⟨kx,vx,qx⟩ hi.its hi.wide hi.plain (by have:=HDn.out.len;omega) HDn.out.right).mono ?_
  rintro e w' ⟨v',rfl,g1,g2⟩
  obtain⟨a,c,e9⟩:=g1.its.slice
  exact⟨v',_,a,c,rfl,e9,⟨ItT.own g1 (fun _ e=>by cases e),rfl⟩,thenBelow k g2⟩
 have hup:=HDn.out.up (putI L ⟨kx,vx,qx⟩) (putI l' ⟨kx,vx,qx⟩) true ⟨b,s,mb,cb,vl,vg,vw,.slice none 0 0,.slice none 0 0,.slice none 0 0,M,ps,sn,kx,[],[],[]⟩ (fun la lb e h1 h2=>by rw[e];exact putI_mid h1 h2 HDn.out.right) (P9.putI_right HRi.out HX.out) HL.out (fun y hy=>by
  rcases (P9.mem_putI HDn.out.right ⟨kx,vx,qx⟩ y).1 hy with h9|h9
  ·exact .inr (by rw[h9])
  ·exact .inl h9.1) (fun _=>putI_grow _ _) rfl rfl rfl rfl rfl rfl
 have HDo:Hid (∀ W,Below W7.heap.size W7 W→∀ v,NdT W none v (.slice none 0 0) (.lf (putI l' ⟨kx,vx,qx⟩))→Calls Tryz.prog 54 #[.pointer (some ⟨cb,0,none⟩),.int .i64 root,.agg #[.int .i64 3,v,.slice none 0 0]] W fun e w'=>∃ r vl' vg' M',e=.returned (.tuple #[.int .i64 r,.int .i64 0])∧Chd w w' b vl vg M ids (putI L ⟨kx,vx,qx⟩) (gmax true D) r vl' vg' M'∧w'.heap[w.heap.size]?=some (.cells #[.string kx,.string vx,.int .i64 qx] 29 (0,0))):=fun W k v hv=>by
  refine (do_any W ⟨b,s,mb,cb,vl,vg,vw,.slice none 0 0,.slice none 0 0,.slice none 0 0,M,ps,sn,kx,[],[],[]⟩ M D root ids (putI L ⟨kx,vx,qx⟩) true (.lf (putI l' ⟨kx,vx,qx⟩)) v (.slice none 0 0) (HCa.out.below k) hv HDn.out.pl hup hgv).mono ?_
  rintro e w' ⟨r,vl',vg',M',rfl,g1,g2,g3,g4⟩
  refine⟨r,vl',vg',M',rfl,chd_of (thenBelow (thenBelow H3.out B7.out) k) (fun j hj=>?_) g1 g2 g3 g4,g2.keep (P3.old_below R7.out k) fun e=>(HCa.out.below k).notT none _ _ _ e ⟨.inl rfl,by simp⟩ (P3.old_below R7.out k)⟩
  rcases hj with hj|hj
  ·rcases hj with hj|hj|hj
   ·rw[hj];exact HSs.out.1
   ·rcases HDs.out.new j hj with h9|h9
    ·cases h9
    ·exact Nat.le_trans H2.out.size h9
   ·rw[hj];exact HSs.out.2
  ·rcases hj with hj|hj|hj|hj
   ·rw[hj];exact HCb.out
   ·cases hj
   ·cases hj
   ·cases hj
 have HX7:=qh (Below.refl W7.heap.size W7)
 rw[hvI] at HIt HPt
 clear hW7 hcb hca b7 r7 hup hvI
 go_region_held3 (fun W=>W.cell? ⟨w.heap.size,0,none⟩=some (.string kx)∧W.cell? ⟨w.heap.size,1,none⟩=some (.string vx)∧W.cell? ⟨w.heap.size,2,none⟩=some (.int .i64 qx)) (first|(with_reducible exact HSt.out _ HX7.out)|(with_reducible exact HSt.out _ HX7.out.drew)|(with_reducible exact HSt.out _ HY.out)|(with_reducible exact HSt.out _ HY.out.drew)|(with_reducible exact HZs.out)|(with_reducible exact HZd.out))
  ((first
   | (go_at_call 57;(with_reducible refine (HIt.out _ (by first|(with_reducible exact HX7.out)|(with_reducible exact HX7.out.drew))).mono ?_);rintro e w4 ⟨rfl,hz⟩;have HY:=qh hz;clear hz)
   | (go_at_call 56;(with_reducible refine (HPt.out _ (by first|(with_reducible exact HY.out)|(with_reducible exact HY.out.drew))).mono ?_);rintro e w5 ⟨v',n5,a5,c5,rfl,rfl,hz1,hz⟩;have HN5:=qh hz1;have HY:=qh hz;clear hz hz1)
   | (go_at_call 55;(with_reducible refine (ofItems_any _ _ _ _).mono ?_);rintro e w6 ⟨rfl,hz⟩;have HN6:=qh (HN5.out.keep (by first|exact FrT.of hz|exact FrT.trans (FrT.of (Below.refl _ _).drew) (FrT.of hz)));have HY:Hid (Below W7.heap.size W7 w6):=(by first|exact qh (thenBelow HY.out hz)|exact qh (thenBelow HY.out.drew hz));clear hz)
   | (go_at_call 54;(with_reducible refine (HDo.out _ (by first|(with_reducible exact HY.out)|(with_reducible exact HY.out.drew)) _ (by first|(with_reducible exact HN6.out)|exact HN6.out.keep (FrT.of (Below.refl _ _).drew))).mono ?_);rintro e w8 ⟨r,vl',vg',M',rfl,hz,hbx⟩;have HC:=qh hz;have HZs:Hid (w8.cell? ⟨w.heap.size,0,none⟩=some (.string kx)∧w8.cell? ⟨w.heap.size,1,none⟩=some (.string vx)∧w8.cell? ⟨w.heap.size,2,none⟩=some (.int .i64 qx)):=qh ⟨cell_at hbx 0,cell_at hbx 1,cell_at hbx 2⟩;have HZd:Hid (w8.drew.cell? ⟨w.heap.size,0,none⟩=some (.string kx)∧w8.drew.cell? ⟨w.heap.size,1,none⟩=some (.string vx)∧w8.drew.cell? ⟨w.heap.size,2,none⟩=some (.int .i64 qx)):=qh ⟨cell_at hbx 0,cell_at hbx 1,cell_at hbx 2⟩;clear hz hbx)))
 all_goals
  go_wp2
  go_ret2
  first
   | exact⟨r,vl',vg',M',rfl,HC.out⟩
   | exact⟨r,vl',vg',M',rfl,HC.out.below (Below.refl _ _).drew⟩
   | exact⟨r,rfl,vl',vg',M',HC.out⟩
   | exact⟨r,rfl,vl',vg',M',HC.out.below (Below.refl _ _).drew⟩
end Go.Proofs.YtjepgclnbbpnaaaGreat.P12
