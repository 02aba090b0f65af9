/-
  Texts of the proofs of SaidDrops12, SaidEmpt12, SaidOlds12.
-/
import Derived.Test.YtjepgclnbbpnaaaGreatMq33
import Derived.Shelf.SlIterI.Nil
import Derived.Shelf.SortM.Plain
import Derived.Shelf.SortM.SortNone
set_option linter.unusedVariables false
set_option linter.unusedSimpArgs false
set_option maxHeartbeats 8000000
set_option maxRecDepth 100000
namespace Go.Proofs.YtjepgclnbbpnaaaGreat.P12
open PK (qqA qqB qqC qqD qqE qqF tk tkS dOne qh)
open Go Go.RowKit Go.Lib PK
open P11 (Pg)
open P9 (It kb kb_trans RightI lowK)
theorem has_least{R:Nat→Prop}(n:Nat):R n→∃ m,R m∧∀ k,R k→m≤k:=by
 induction n using Nat.strongRecOn with
 | ind n ih=>
  intro h
  by_cases c:∃ m,m < n∧R m
  ·obtain⟨m,hm,hr⟩:=c
   exact ih m hm hr
  ·exact⟨n,h,fun k hk=>Nat.le_of_not_lt fun hlt=>c ⟨k,hlt,hk⟩⟩
open Classical in
noncomputable def leastN(R:Nat→Prop):Nat:=if h:∃ m,R m∧∀ k,R k→m≤k then Classical.choose h else 0
theorem leastN_spec{R:Nat→Prop}{n:Nat}(h:R n):R (leastN R)∧leastN R≤n:=by
 have h1:=has_least n h
 unfold leastN
 rw[dif_pos h1]
 exact⟨(Classical.choose_spec h1).1,(Classical.choose_spec h1).2 n h⟩
structure Sg where
 ps:List Sp
 sn:List Int
 fs:List Fr
 la:List It
 l':List It
 lb:List It
 ia:List Int
 i':List Int
 ib:List Int
 k:Nat
abbrev Sg.ok(g:Sg)(M:PM)(D:Nat)(root:Int)(L:List It)(ids:List Int):Prop:=Lf M D root L ids g.ps g.sn g.fs g.la g.l' g.lb g.ia g.i' g.ib g.k
structure SeeP (M:PM) (D:Nat) (root:Int) (L:List It) (ids:List Int) (w0:World) (b s mb:Nat) (P P2:World→Option Nat→Sg→Prop) (Q:World→List Int→Prop):Prop where
 stop:∀ (W w2:World) (x:Option Nat) (g:Sg) (vw:Value),P2 W x g→SkAt W x b s mb vw g.ps g.sn→g.ok M D root L ids→g.lb=[]→g.ib=[]→Below w0.heap.size w0 w2→P3.Fr (SS s mb vw) W w2→(∀ j,SS s mb vw j→w0.heap.size≤j)→FrT x W w2→Q w2 g.sn
 next:∀ (W w2:World) (x:Option Nat) (g g2:Sg) (vw:Value),P2 W x g→SkAt W x b s mb vw g.ps g.sn→g.ok M D root L ids→g2.ok M D root L ids→g2.la=g.la++g.l'→g.lb=g2.l'++g2.lb→g2.k=0→(g.sn=g.ia++g.i'→g2.sn=g2.ia++g2.i')→Below w0.heap.size w0 w2→P3.Fr (SS s mb vw) W w2→(∀ j,SS s mb vw j→w0.heap.size≤j)→FrT x W w2→P w2 x g2
inductive LvR (M:PM) (D:Nat) (root:Int) (L:List It) (ids:List Int) (w0:World) (b s mb:Nat) (P:World→Option Nat→Sg→Prop) (Q:World→List Int→Prop) (wr:World):Nat→Prop where
 | at_ {x:Option Nat} {vw:Value} {g:Sg} (hb:Below w0.heap.size w0 wr) (hs:SkAt wr x b s mb vw g.ps g.sn) (hn:∀ j,SS s mb vw j→w0.heap.size≤j) (hg:g.ok M D root L ids) (hp:P wr x g):LvR M D root L ids w0 b s mb P Q wr (g.lb.length+1)
 | end_ {x:Option Nat} {vw:Value} {sn:List Int} (hb:Below w0.heap.size w0 wr) (hs:SkAt wr x b s mb vw [] sn) (hq:Q wr sn):LvR M D root L ids w0 b s mb P Q wr 0
theorem Lf.bounds{M:PM}{D:Nat}{root:Int}{L:List It}{ids:List Int}{ps:List Sp}{sn:List Int}{fs:List Fr}{la l' lb:List It}{ia i' ib:List Int}{k:Nat}(h:Lf M D root L ids ps sn fs la l' lb ia i' ib k):0 < ps.length∧ps.length=D∧(∀ p∈ps,0≤p.at_∧p.at_≤100000∧p.nd.len≤1000)∧l'.length≤231∧0 < l'.length:=by
 obtain⟨id',hw,ht⟩:=h.way
 obtain⟨ts,pl,rfl,ha,hnd,hat⟩:=h.st
 have hl:=ha.len
 rw[List.length_reverse] at hl
 have hwl:=hw.len
 have hkl:=h.kl
 obtain⟨tx,_,h1,h2,h3⟩:=ht.1
 have h4:=P9.sumI_len l'
 refine⟨by simp,by rw[List.length_append,List.length_singleton];omega,fun p hp=>?_,by omega,h3⟩
 rcases List.mem_append.1 hp with hp|hp
 ·obtain⟨i,hi,e⟩:=List.mem_iff_getElem.1 hp
  have hi2:i < fs.reverse.length:=by rw[List.length_reverse];omega
  have hst:=ha.at_ (i:=i) (a:=p) (b:=fs.reverse[i]) (by rw[List.getElem?_eq_getElem hi,e]) (List.getElem?_eq_getElem hi2)
  have htw:=hw.pages _ (List.mem_reverse.1 (List.getElem_mem hi2))
  obtain⟨t1,t2,_⟩:=twig_ok htw
  rw[hst.1,hst.2.1]
  have h9:(fs.reverse[i]).kids.length=(fs.reverse[i]).a.length+((fs.reverse[i]).b.length+1):=by
   unfold Fr.kids
   rw[List.length_append,List.length_cons]
  refine⟨by omega,by omega,?_⟩
  show (fs.reverse[i]).kids.length≤1000
  omega
 ·rw[List.mem_singleton] at hp
  subst hp
  rw[hnd,hat]
  refine⟨by omega,by omega,?_⟩
  show l'.length≤1000
  omega
theorem leavesJ(w0 w:World)(b s mb:Nat)(vl vg:Value)(M:PM)(h0:PAt w0 b vl vg M)(hb0:Below w0.heap.size w0 w)(hs:SkAt w none b s mb (.slice none 0 0) [] [])(hS:w0.heap.size≤s∧w0.heap.size≤mb)(hsz:M.L.length≤100000)(D:Nat)(root:Int)(L:List It)(ids:List Int)(ht:Tree M D root L ids)(hD:D≤12)(hn:ids.Nodup)(hid:ids.length≤80000)(key:ByteArray)
  (P P2:World→Option Nat→Sg→Prop) (Q:World→List Int→Prop) (hP:SeeP M D root L ids w0 b s mb P P2 Q)
  (hstart:∀ (w2:World) (g:Sg) (vw:Value),SkAt w none b s mb vw [] []→g.ok M D root L ids→g.k=lowK g.l' key→Lows g.la key→Highs g.lb key→(key=⟨#[]⟩→g.la=[]∧g.sn=g.ia++g.i')→Below w0.heap.size w0 w2→P3.Fr (SS s mb vw) w w2→(∀ j,SS s mb vw j→w0.heap.size≤j)→FrT none w w2→P w2 none g)
  (hnone:D=0→Q w [])
  (hsee:∀ (W:World) (x:Option Nat) (vw:Value) (g:Sg),Below w0.heap.size w0 W→SkAt W x b s mb vw g.ps g.sn→(∀ j,SS s mb vw j→w0.heap.size≤j)→g.ok M D root L ids→P W x g→
   Calls Tryz.prog 61 #[vw] W fun e w'=>∃ (bb:Bool) (x':Option Nat),e=.returned (.bool bb)∧Below w0.heap.size w0 w'∧SkAt w' x' b s mb vw g.ps g.sn∧(∀ k,x'=some k→k < w'.heap.size)∧(bb=true→P2 w' x' g)∧(bb=false→Q w' g.sn)) :
  Calls Tryz.prog 59 #[.pointer (some ⟨s,0,none⟩),.int .i64 root,.string key,.func (.func 61) #[] #[]] w fun e w'=>∃ (x:Option Nat) (vw:Value) (ps:List Sp) (sn:List Int),e=.returned (.int .i64 0)∧Below w0.heap.size w0 w'∧SkAt w' x b s mb vw ps sn∧Q w' sn:=by
 have hdown:Calls Tryz.prog 53 #[.pointer (some ⟨s,0,none⟩),.int .i64 root,.string key] w fun e w'=>e=.returned (.int .i64 0)∧∃ n,LvR M D root L ids w0 b s mb P Q w' n:=by
  cases D with
  | zero=>
   obtain⟨rfl,rfl,rfl⟩:=ht
   refine (down_zero w s key).mono ?_
   rintro e w' ⟨rfl,rfl⟩
   exact⟨rfl,0,.end_ hb0 hs (hnone rfl)⟩
  | succ d=>
   have ht:TreeAt M (d+1) root L ids:=ht
   refine (down_any w none b vl vg M s mb (.slice none 0 0) [] [] (h0.below hb0) hs (by omega) (d+1) root key L ids ht (by simp;omega) hn (fun _ _ f=>by cases f) (by simp) (fun _ e=>by cases e)).mono ?_
   rintro e w' ⟨vw',ts,pl,fs,id',l',i',rfl,g1,g2⟩
   rw[List.nil_append] at g1
   rw[List.nil_append] at g1
   obtain⟨la,lb,ia,ib,k1,k2,k3,k4⟩:=Lf.start g2
   have hnil:∀ j,SS s mb (.slice none 0 0) j→w0.heap.size≤j:=SS_new hS.1 hS.2
   have hbl:=P3.Fr.new hb0 g1.fr hnil
   have hft:FrT none w w':=FrT.ofFr g1.fr hs.notT
   refine⟨rfl,_,.at_ (x:=none) (vw:=vw') (g:=⟨ts++[pl],pathI fs++[id'],fs,la,l',lb,ia,i',ib,lowK l' key⟩) hbl g1.sk (fun j hj=>?_) k1 (hstart w' _ (.slice none 0 0) hs k1 rfl k2 k3 k4 hbl g1.fr hnil hft)⟩
   rcases g1.sub hj with h|h
   ·exact hnil j h
   ·exact Nat.le_trans hb0.size h
 have HDn:=qh hdown
 have HSee:=qh hsee
 have HP:=qh hP
 have H0:=qh h0
 clear hdown hsee hP hstart hnone h0 hs hb0 ht hS
 go_enter Tryz.func59,Tryz.ntmps59
 go_wp2_with (go_at_call 53;(with_reducible refine HDn.out.mono ?_);rintro e w1 ⟨rfl,h9⟩;have HR0:=qh h9;clear h9)
 go_loopw [9] (fun ve wr=>ve=.int .i64 0∧Hid (∃ n,LvR M D root L ids w0 b s mb P Q wr n)) (fun _ wr=>leastN (LvR M D root L ids w0 b s mb P Q wr))
 case atStart=>exact⟨rfl,HR0⟩
 case round=>
  clear HR0
  obtain⟨rfl,HR⟩:=hrel
  obtain⟨n0,hn0⟩:=HR.out
  have hr:=(leastN_spec hn0).1
  obtain⟨n,hnn⟩:∃ n,n=leastN (LvR M D root L ids w0 b s mb P Q wr):=⟨_,rfl⟩
  rw[← hnn] at hr
  have HNn:=qh hnn
  clear HR hn0 n0 hnn
  cases hr with
  | @end_ x vw sn hb hs hq=>
   obtain⟨va,vc,hvw⟩:=hs.slice
   have hvw:vw=.slice va 0 vc:=hvw
   subst hvw
   have o1:=cell_at hs.obj 1
   simp only[qqD,qqE,qqF] at o1
   have HB:=qh hb
   have HSk:=qh hs
   have HQ:=qh hq
   clear hb hs hq
   go_wp2
   go_ret
   exact⟨x,_,_,sn,rfl,HB.out,HSk.out,HQ.out⟩
  | @at_ x vw g hb hs hng hg hp=>
   obtain⟨bd1,bd2,bd3,bd4,bd5⟩:=hg.bounds
   obtain⟨va,vc,hvw⟩:=hs.slice
   obtain⟨m,hm⟩:∃ m,m=g.ps.length:=⟨_,rfl⟩
   rw[← hm] at hvw bd1 bd2
   subst hvw
   have o1:=cell_at hs.obj 1
   simp only[qqD,qqE,qqF] at o1
   have k1:decide ((0:Int) < (m:Int))=true:=decide_eq_true (by omega)
   have k2:(0:Int) < (m:Int):=by omega
   have k3:decide (0 < m)=true:=decide_eq_true bd1
   have HSe:=qh (HSee.out wr x _ g hb hs hng hg hp)
   have HNg:=qh hng
   have HG:=qh hg
   have HM:=qh hm
   have HBd:=qh bd3
   have HBD:=qh bd2
   clear hb hs hng hg hp hm bd3 bd2
   go_upto_region 3 with (go_at_call 61;(with_reducible refine HSe.out.mono ?_);rintro e w2 ⟨bb,x2,rfl,s1,s2,s3,s4,s5⟩;have S1:=qh s1;have S2:=qh s2;have S3:=qh s3;have S4:=qh s4;have S5:=qh s5;clear s1 s2 s3 s4 s5)
   rotate_left
   ·rename_i hbb
    go_ret
    exact⟨x2,_,_,g.sn,rfl,S1.out,S2.out,S5.out (by simpa using hbb)⟩
   ·rename_i hbb
    have htn:=turn_any w2 x2 b s mb (.slice va m vc) g.ps g.sn S2.out (by rw[← HM.out];exact bd1) (by rw[← HM.out];have:=HBD.out;omega) HBd.out
    rcases HG.out.next hn with ⟨t1,t2,t3⟩|⟨ps2,e2,z,lq,iq,t1,t2,t3,t4,t5,t6⟩
    ·rw[t1] at htn
     have hT:Calls Tryz.prog 72 #[.pointer (some ⟨s,0,none⟩)] w2 fun e w'=>e=.returned (.int .i64 0)∧LvR M D root L ids w0 b s mb P Q w' 0:=htn.mono fun e w'=>by
      rintro ⟨vw',rfl,g1,g2,g3,g4⟩
      have hfr:P3.Fr (SS s mb (.slice va m vc)) w2 w':=g2.mono fun j _ e=>e.imp id .inl
      have hbl:=P3.Fr.new S1.out hfr HNg.out
      exact⟨rfl,.end_ hbl g1 (HP.out.stop w2 w' x2 g _ (S4.out hbb) S2.out HG.out t2 t3 hbl hfr HNg.out g4)⟩
     have HT:=qh hT
     clear htn hT
     go_wp2_with (first
      | (go_at_call 72;(with_reducible refine HT.out.mono ?_);rintro e w3 ⟨rfl,h9⟩;have H9:=qh h9;clear h9)
      | (go_at_call 53;(with_reducible refine (down_zero _ s ⟨#[]⟩).mono ?_);rintro e w4 ⟨rfl,rfl⟩))
     go_roundw
     case rel=>exact⟨rfl,qh ⟨0,H9.out⟩⟩
     case measure=>
      rw[← HNn.out]
      have:=(leastN_spec H9.out).2
      omega
    ·rw[t1] at htn
     have hT:Calls Tryz.prog 72 #[.pointer (some ⟨s,0,none⟩)] w2 fun e w'=>e=.returned (.int .i64 z)∧∃ vw',SkAt w' x2 b s mb vw' ps2 g.sn∧P3.Fr (SS s mb (.slice va m vc)) w2 w'∧(∀ j,SS s mb vw' j→SS s mb (.slice va m vc) j)∧FrT x2 w2 w'∧Below w0.heap.size w0 w':=htn.mono fun e w'=>by
      rintro ⟨vw',rfl,g1,g2,g3,g4⟩
      have hfr:P3.Fr (SS s mb (.slice va m vc)) w2 w':=g2.mono fun j _ e=>e.imp id .inl
      exact⟨rfl,vw',g1,hfr,fun j hj=>by
       rcases hj with h|h|h
       ·exact .inl h
       ·exact .inr (.inl (g3 j h))
       ·exact .inr (.inr h),g4,P3.Fr.new S1.out hfr HNg.out⟩
     have hD2:∀ (W:World) (vw':Value),SkAt W x2 b s mb vw' ps2 g.sn→P3.Fr (SS s mb (.slice va m vc)) w2 W→(∀ j,SS s mb vw' j→SS s mb (.slice va m vc) j)→FrT x2 w2 W→Below w0.heap.size w0 W→Calls Tryz.prog 53 #[.pointer (some ⟨s,0,none⟩),.int .i64 z,.string ⟨#[]⟩] W fun e w'=>e=.returned (.int .i64 0)∧∃ n,LvR M D root L ids w0 b s mb P Q w' n∧n < g.lb.length+1:=fun W vw' q1 q2 q3 q4 q5=>by
      refine (down_any W x2 b vl vg M s mb vw' ps2 g.sn (H0.out.below q5) q1 hsz (e2+1) z ⟨#[]⟩ lq iq t2 (by omega) t4 t5 (by
       have h7:=HG.out.snl
       have h8:=HG.out.iE
       rw[h8] at hid
       simp only[List.length_append] at hid
       omega) (fun k hk=>Nat.lt_of_lt_of_le (S3.out k hk) q2.size)).mono ?_
      rintro e w' ⟨vw3,ts,pl,f2,id2,l2,i2,rfl,g1,g2⟩
      obtain⟨fs3,lb3,ib3,ia3,u1,u2,u3⟩:=t6 g2
      have hn2:∀ j,SS s mb vw' j→w0.heap.size≤j:=fun j hj=>HNg.out j (q3 j hj)
      have hbl:=P3.Fr.new q5 g1.fr hn2
      have hfr:P3.Fr (SS s mb (.slice va m vc)) w2 w':=frThen q2 g1.fr fun j _ hj=>q3 j hj
      have hft:FrT x2 w2 w':=q4.trans (FrT.ofFr g1.fr q1.notT)
      have hne:0 < l2.length:=u1.bounds.2.2.2.2
      refine⟨rfl,_,.at_ (x:=x2) (vw:=vw3) (g:=⟨ps2++ts++[pl],g.sn++pathI f2++[id2],fs3,g.la++g.l',l2,lb3,ia3,i2,ib3,0⟩) hbl g1.sk (fun j hj=>?_) u1 (HP.out.next w2 w' x2 g _ _ (S4.out hbb) S2.out HG.out u1 rfl u2 rfl u3 hbl hfr HNg.out hft),?_⟩
      ·rcases g1.sub hj with h|h
       ·exact hn2 j h
       ·exact Nat.le_trans q5.size h
      ·show lb3.length+1 < _
       rw[u2,List.length_append]
       omega
     have HT:=qh hT
     have HD2:=qh hD2
     clear htn hT hD2
     go_wp2_with (first
      | (go_at_call 72;(with_reducible refine HT.out.mono ?_);rintro e w3 ⟨rfl,vw3,h1,h2,h3,h4,h5⟩;have H1:=qh h1;have H2:=qh h2;have H3:=qh h3;have H4:=qh h4;have H5:=qh h5;clear h1 h2 h3 h4 h5)
      | (go_at_call 53;(with_reducible refine (HD2.out _ _ H1.out H2.out H3.out H4.out H5.out).mono ?_);rintro e w4 ⟨rfl,n4,h9,h8⟩;have H9:=qh h9;have H8:=qh h8;clear h9 h8))
     go_roundw
     case rel=>exact⟨rfl,qh ⟨n4,H9.out⟩⟩
     case measure=>
      rw[← HNn.out]
      have:=(leastN_spec H9.out).2
      have:=H8.out
      omega
end Go.Proofs.YtjepgclnbbpnaaaGreat.P12
namespace Go.Proofs.YtjepgclnbbpnaaaGreat.P12
open Go Go.RowKit Go.Lib PK
open P11 (Pg)
open P9 (It kb kb_trans RightI lowK)
theorem ids1_any(W:World)(v:Value):Calls Tryz.prog 61 #[v] W fun e w'=>e=.returned (.bool true)∧Below W.heap.size W w':=by
 go_enter Tryz.func61,Tryz.ntmps61
 go_wp2
 go_ret
 exact⟨rfl,Below.refl _ _⟩
theorem leaves_ids(w0 w:World)(b s mb:Nat)(vl vg:Value)(M:PM)(h0:PAt w0 b vl vg M)(hb0:Below w0.heap.size w0 w)(hs:SkAt w none b s mb (.slice none 0 0) [] [])(hS:w0.heap.size≤s∧w0.heap.size≤mb)(hsz:M.L.length≤100000)(D:Nat)(root:Int)(L:List It)(ids:List Int)(ht:Tree M D root L ids)(hD:D≤12)(hn:ids.Nodup)(hid:ids.length≤80000) :
  Calls Tryz.prog 59 #[.pointer (some ⟨s,0,none⟩),.int .i64 root,.string ⟨#[]⟩,.func (.func 61) #[] #[]] w fun e w'=>∃ (x:Option Nat) (vw:Value) (ps:List Sp),e=.returned (.int .i64 0)∧Below w0.heap.size w0 w'∧SkAt w' x b s mb vw ps ids:=by
 have hids:D=0→ids=[]:=fun e=>by
  subst e
  exact ht.2.2
 refine (leavesJ w0 w b s mb vl vg M h0 hb0 hs hS hsz D root L ids ht hD hn hid ⟨#[]⟩ (fun _ x g=>x=none∧g.sn=g.ia++g.i') (fun _ x g=>x=none∧g.sn=g.ia++g.i') (fun _ sn=>sn=ids) ⟨?_,?_⟩ ?_ ?_ ?_).mono ?_
 ·intro W w2 x g vw h1 _ h2 h3 h4 _ _ _ _
  rw[h1.2,h2.iE,h4,List.append_nil]
 ·intro W w2 x g g2 vw h1 _ h2 h3 h4 h5 h6 h7 _ _ _ _
  exact⟨h1.1,h7 h1.2⟩
 ·intro w2 g vw _ h1 h2 h3 h4 h5 _ _ _ _
  exact⟨rfl,(h5 rfl).2⟩
 ·intro e
  exact (hids e).symm
 ·intro W x vw g hb hsk hnn hg hp
  refine (ids1_any W vw).mono ?_
  rintro e w' ⟨rfl,h1⟩
  exact⟨true,x,rfl,thenBelow hb h1,hsk.below h1,fun k hk=>(by rw[hp.1] at hk;cases hk),fun _=>hp,fun h=>by cases h⟩
 ·rintro e w' ⟨x,vw,ps,sn,rfl,h1,h2,h3⟩
  subst h3
  exact⟨x,vw,ps,rfl,h1,h2⟩
end Go.Proofs.YtjepgclnbbpnaaaGreat.P12
namespace Go.Proofs
open Go.Shelf
def Tryz.keysA_ren:Go.Shelf.Ren:=⟨fun|7=>63|10=>75|n=>n,fun|23=>94|26=>3|3=>95|28=>92|0=>0|27=>91|33=>54|4=>4|n=>n,fun|n=>n⟩
theorem Tryz.keysA:Go.Proofs.SlLaysZI.n7 Tryz.prog Tryz.keysA_ren:={
 mixed:=by kernel_rfl
 f7:=⟨Tryz.f63.name,by decide,Tryz.func63.trans (congrArg some (by kernel_rfl))⟩
 f10:=⟨Tryz.f75.name,by decide,Tryz.func75.trans (congrArg some (by kernel_rfl))⟩
 t0:=Tryz.underlying0
 a0:=Tryz.isAgg0
 z0:=Tryz.sizeOf0
 v0:=Tryz.zeroValue0
 t4:=Tryz.underlying4
 a4:=Tryz.isAgg4
 z4:=Tryz.sizeOf4
 v4:=Tryz.zeroValue4
 t23:=Tryz.underlying94
 a23:=Tryz.isAgg94
 z23:=Tryz.sizeOf94
 v23:=Tryz.zeroValue94
 t26:=Tryz.underlying3
 a26:=Tryz.isAgg3
 z26:=Tryz.sizeOf3
 v26:=Tryz.zeroValue3
 t27:=Tryz.underlying91
 a27:=Tryz.isAgg91
 z27:=Tryz.sizeOf91
 v27:=Tryz.zeroValue91
 t28:=Tryz.underlying92
 a28:=Tryz.isAgg92
 z28:=Tryz.sizeOf92
 v28:=Tryz.zeroValue92
 t33:=Tryz.underlying54
 a33:=Tryz.isAgg54
 z33:=Tryz.sizeOf54
 v33:=Tryz.zeroValue54 }
def Tryz.sortedA_ren:Go.Shelf.Ren:=⟨fun|6=>62|8=>73|9=>74|11=>91|13=>93|12=>92|23=>114|24=>115|14=>105|15=>106|16=>107|17=>108|18=>109|19=>110|20=>111|21=>112|22=>113|25=>134|26=>135|27=>136|28=>137|29=>138|30=>139|31=>156|n=>n,fun|26=>3|28=>92|24=>42|0=>0|3=>3|37=>141|48=>157|50=>159|4=>4|40=>150|39=>149|45=>100|5=>5|9=>9|51=>177|55=>181|57=>200|58=>201|33=>54|n=>n,fun|n=>n⟩
theorem Tryz.sortedA:Go.Proofs.SlLaysZI.n6 Tryz.prog Tryz.sortedA_ren:={
 mixed:=by kernel_rfl
 f6:=⟨Tryz.f62.name,by decide,Tryz.func62.trans (congrArg some (by kernel_rfl))⟩
 f8:=⟨Tryz.f73.name,by decide,Tryz.func73.trans (congrArg some (by kernel_rfl))⟩
 f11:=⟨Tryz.f91.name,by decide,Tryz.func91.trans (congrArg some (by kernel_rfl))⟩
 t0:=Tryz.underlying0
 a0:=Tryz.isAgg0
 z0:=Tryz.sizeOf0
 v0:=Tryz.zeroValue0
 t24:=Tryz.underlying42
 a24:=Tryz.isAgg42
 z24:=Tryz.sizeOf42
 v24:=Tryz.zeroValue42
 t26:=Tryz.underlying3
 a26:=Tryz.isAgg3
 z26:=Tryz.sizeOf3
 v26:=Tryz.zeroValue3
 t28:=Tryz.underlying92
 a28:=Tryz.isAgg92
 z28:=Tryz.sizeOf92
 v28:=Tryz.zeroValue92
 i26:=by kernel_rfl }
def Tryz.sortA_ren:Go.Shelf.Ren:=⟨fun|5=>74|8=>93|7=>92|19=>114|20=>115|10=>105|11=>106|12=>107|13=>108|14=>109|15=>110|16=>111|17=>112|18=>113|30=>134|31=>135|32=>136|33=>137|34=>138|35=>139|40=>156|n=>n,fun|23=>42|25=>3|3=>3|32=>141|22=>42|0=>0|44=>157|46=>159|4=>4|36=>150|35=>149|41=>100|5=>5|9=>9|53=>177|57=>181|63=>200|64=>201|n=>n,fun|n=>n⟩
theorem Tryz.sortA:Go.Proofs.SlLaysM.n5 Tryz.prog Tryz.sortA_ren:={
 mixed:=by kernel_rfl
 f5:=⟨Tryz.f74.name,by decide,Tryz.func74.trans (congrArg some (by kernel_rfl))⟩
 f7:=⟨Tryz.f92.name,by decide,Tryz.func92.trans (congrArg some (by kernel_rfl))⟩
 f8:=Tryz.func93.trans (congrArg some (by kernel_rfl))
 f10:=⟨Tryz.f105.name,by decide,Tryz.func105.trans (congrArg some (by kernel_rfl))⟩
 f11:=⟨Tryz.f106.name,by decide,Tryz.func106.trans (congrArg some (by kernel_rfl))⟩
 f12:=⟨Tryz.f107.name,by decide,Tryz.func107.trans (congrArg some (by kernel_rfl))⟩
 f13:=⟨Tryz.f108.name,by decide,Tryz.func108.trans (congrArg some (by kernel_rfl))⟩
 f14:=⟨Tryz.f109.name,by decide,Tryz.func109.trans (congrArg some (by kernel_rfl))⟩
 f15:=⟨Tryz.f110.name,by decide,Tryz.func110.trans (congrArg some (by kernel_rfl))⟩
 f16:=⟨Tryz.f111.name,by decide,Tryz.func111.trans (congrArg some (by kernel_rfl))⟩
 f17:=⟨Tryz.f112.name,by decide,Tryz.func112.trans (congrArg some (by kernel_rfl))⟩
 f18:=⟨Tryz.f113.name,by decide,Tryz.func113.trans (congrArg some (by kernel_rfl))⟩
 f19:=Tryz.func114.trans (congrArg some (by kernel_rfl))
 f20:=Tryz.func115.trans (congrArg some (by kernel_rfl))
 f30:=⟨Tryz.f134.name,by decide,Tryz.func134.trans (congrArg some (by kernel_rfl))⟩
 f31:=Tryz.func135.trans (congrArg some (by kernel_rfl))
 f32:=Tryz.func136.trans (congrArg some (by kernel_rfl))
 f33:=⟨Tryz.f137.name,by decide,Tryz.func137.trans (congrArg some (by kernel_rfl))⟩
 f34:=⟨Tryz.f138.name,by decide,Tryz.func138.trans (congrArg some (by kernel_rfl))⟩
 f35:=⟨Tryz.f139.name,by decide,Tryz.func139.trans (congrArg some (by kernel_rfl))⟩
 f40:=⟨Tryz.f156.name,by decide,Tryz.func156.trans (congrArg some (by kernel_rfl))⟩
 t0:=Tryz.underlying0
 a0:=Tryz.isAgg0
 z0:=Tryz.sizeOf0
 v0:=Tryz.zeroValue0
 t3:=Tryz.underlying3
 a3:=Tryz.isAgg3
 z3:=Tryz.sizeOf3
 v3:=Tryz.zeroValue3
 t4:=Tryz.underlying4
 a4:=Tryz.isAgg4
 z4:=Tryz.sizeOf4
 v4:=Tryz.zeroValue4
 t5:=Tryz.underlying5
 a5:=Tryz.isAgg5
 z5:=Tryz.sizeOf5
 v5:=Tryz.zeroValue5
 t9:=Tryz.underlying9
 a9:=Tryz.isAgg9
 z9:=Tryz.sizeOf9
 v9:=Tryz.zeroValue9
 t22:=Tryz.underlying42
 a22:=Tryz.isAgg42
 z22:=Tryz.sizeOf42
 v22:=Tryz.zeroValue42
 t23:=Tryz.underlying42
 a23:=Tryz.isAgg42
 z23:=Tryz.sizeOf42
 v23:=Tryz.zeroValue42
 t25:=Tryz.underlying3
 a25:=Tryz.isAgg3
 z25:=Tryz.sizeOf3
 v25:=Tryz.zeroValue3
 t32:=Tryz.underlying141
 a32:=Tryz.isAgg141
 z32:=Tryz.sizeOf141
 v32:=Tryz.zeroValue141
 t35:=Tryz.underlying149
 a35:=Tryz.isAgg149
 z35:=Tryz.sizeOf149
 v35:=Tryz.zeroValue149
 t36:=Tryz.underlying150
 a36:=Tryz.isAgg150
 z36:=Tryz.sizeOf150
 v36:=Tryz.zeroValue150
 t41:=Tryz.underlying100
 a41:=Tryz.isAgg100
 z41:=Tryz.sizeOf100
 v41:=Tryz.zeroValue100
 t44:=Tryz.underlying157
 a44:=Tryz.isAgg157
 z44:=Tryz.sizeOf157
 v44:=Tryz.zeroValue157
 t46:=Tryz.underlying159
 a46:=Tryz.isAgg159
 z46:=Tryz.sizeOf159
 v46:=Tryz.zeroValue159
 t53:=Tryz.underlying177
 a53:=Tryz.isAgg177
 z53:=Tryz.sizeOf177
 v53:=Tryz.zeroValue177
 t57:=Tryz.underlying181
 a57:=Tryz.isAgg181
 z57:=Tryz.sizeOf181
 v57:=Tryz.zeroValue181
 t63:=Tryz.underlying200
 a63:=Tryz.isAgg200
 z63:=Tryz.sizeOf200
 v63:=Tryz.zeroValue200
 t64:=Tryz.underlying201
 a64:=Tryz.isAgg201
 z64:=Tryz.sizeOf201
 v64:=Tryz.zeroValue201 }
end Go.Proofs
namespace Go.Proofs.YtjepgclnbbpnaaaGreat.P12
open PK (qqA qqB qqC qqD qqE qqF tk tkS dOne qh)
open Go Go.RowKit Go.Lib PK Go.Maps Go.Shelf Go.Sort
open P11 (Pg)
open P9 (It kb kb_trans RightI lowK)
theorem Tryz.sortsA(m:Nat):AnyZI.SortsIn Tryz.prog Tryz.sortedA_ren Fence.wide m:=
 ⟨fun blk off cap ss W hH hblk hsz=>callsIn_wide.2 (AnyM.slices_Sort_int Tryz.sortA blk off cap ss W hH hblk hsz),
  fun p cap W=>callsIn_wide.2 (AnyM.slices_Sort_int_none Tryz.sortA p cap W)⟩
def sortZ(l:List Int):List Int:=l.mergeSort (fun x y=>decide (x≤y))
theorem seen_perm{w:World}{mb:Nat}{sn:List Int}(h:SeenAt w mb sn)(hn:sn.Nodup):sn.Perm (intKeys (setOf (H:=Unit) (.agg []) (sn.map fun x=>Lit.int .i64 x))):=by
 refine CollectedI.perm (left:=fun _=>false) ⟨hn,fun x=>?_⟩ h ?_ Tryz.underlying3 (fun _=>rfl)
 ·rw[seen_has]
  simp
 ·exact int_keyed Tryz.underlying3
theorem int_sorted:∀ {l m:List Int},l.Perm m→l.Pairwise (fun x y=>x≤y)→m.Pairwise (fun x y=>x≤y)→l=m
 | [],m,hp,_,_=>hp.nil_eq
 | x :: r,m,hp,hl,hm=>by
  cases m with
  | nil=>exact absurd hp.symm.nil_eq (by simp)
  | cons y s=>
   rw[List.pairwise_cons] at hl hm
   have h1:x=y:=by
    rcases List.mem_cons.1 (hp.mem_iff.1 List.mem_cons_self) with e|hx
    ·exact e
    ·rcases List.mem_cons.1 (hp.symm.mem_iff.1 (List.mem_cons_self (a:=y) (l:=s))) with e|hy
     ·exact e.symm
     ·exact Int.le_antisymm (hl.1 y hy) (hm.1 x hx)
   subst h1
   rw[int_sorted (hp.cons_inv) hl.2 hm.2]
theorem sortZ_sorted(xs:List Int):(sortZ xs).Pairwise (fun x y=>x≤y):=by
 have h:=List.pairwise_mergeSort (le:=fun x y:Int=>decide (x≤y)) (fun a b c h1 h2=>by
  simp only[decide_eq_true_eq] at *
  exact Int.le_trans h1 h2) (fun a b=>by
  simp only[Bool.or_eq_true,decide_eq_true_eq]
  exact Int.le_total a b) xs
 exact h.imp (fun h=>by simpa using h)
theorem sortZ_perm{xs ys:List Int}(h:xs.Perm ys):sortZ xs=sortZ ys:=
 int_sorted (((List.mergeSort_perm _ _).trans h).trans (List.mergeSort_perm _ _).symm) (sortZ_sorted xs) (sortZ_sorted ys)
theorem sortZ_len(xs:List Int):(sortZ xs).length=xs.length:=(List.mergeSort_perm _ _).length_eq
theorem keys_call(mb:Option Nat)(W:World):Calls Tryz.prog 63 #[.map mb] W fun e w'=>e=.returned (.func (.func 75) #[] #[.pointer (some ⟨W.heap.size,0,none⟩)])∧w'=W.alloc (.cells #[.map mb] 94):=
 callsIn_wide.1 (AnyZI.keys_in Tryz.keysA Fence.wide 5 trivial rfl mb W)
theorem sorted_call(W:World)(mb:Nat)(sn:List Int)(h:SeenAt W mb sn)(hn:sn.Nodup)(hl:sn.length≤1000000) :
  Calls Tryz.prog 62 #[.func (.func 75) #[] #[.pointer (some ⟨W.heap.size,0,none⟩)]] (W.alloc (.cells #[.map (some mb)] 94)) fun e w'=>∃ v,e=.returned v∧w'.ownsRow W.heap.size 3 1 v sn.length ((sortZ sn).map encZ)∧Below W.heap.size W w':=by
 have hbl:=h.lt
 have hsz:=h.size_le
 have hmx:Maps.size (setOf (H:=Unit) (.agg []) (sn.map fun x=>Lit.int .i64 x))≤maxLen:=by
  unfold maxLen
  omega
 have hseq:SeqGives Fence.wide 2 Tryz.prog 75 #[.pointer (some ⟨W.heap.size,0,none⟩)] encZ (fun ss=>ss.Perm (intKeys (setOf (H:=Unit) (.agg []) (sn.map fun x=>Lit.int .i64 x)))) (Maps.size (setOf (H:=Unit) (.agg []) (sn.map fun x=>Lit.int .i64 x))) (W.alloc (.cells #[.map (some mb)] 94)):=
  AnyZI.keys_gives (ρ:=Tryz.keysA_ren) { Tryz.keysA with } Fence.wide _ trivial rfl (by omega) W.heap.size mb sn.length _ (R:=unitElem) _ (by simp) (by simp) (by
   obtain⟨es,clock,hb,Ft,hs,hD⟩:=h
   exact⟨es,clock,(Below.heap_alloc _ _ mb hbl).trans hb,Ft,hs,hD⟩)
 have HE1:∀ args w,(callFunc 74 args).run Tryz.prog w=.ok (.enter 74 args) w:=enters_of Tryz.func74 (by kernel_rfl) rfl
 have HE2:∀ args w,(callFunc 75 args).run Tryz.prog w=.ok (.enter 75 args) w:=enters_of Tryz.func75 (by kernel_rfl) rfl
 have cS:=AnyZI.sorted_in Tryz.sortedA Fence.wide 5 trivial trivial trivial trivial rfl (by omega) (Tryz.sortsA _) HE1 75 #[.pointer (some ⟨W.heap.size,0,none⟩)] trivial HE2 _ _ hmx (by omega) _ hseq
 change CallsIn _ _ Tryz.prog 62 _ _ _ at cS
 refine (callsIn_wide.1 cS).mono ?_
 rintro e w' ⟨v,ss,rfl,hS,hrow,_,hb⟩
 have hp:ss.Perm sn:=hS.trans (seen_perm h hn).symm
 have hz:ss.mergeSort (fun x y=>decide (x≤y))=sortZ sn:=sortZ_perm hp
 rw[hz,hp.length_eq] at hrow
 exact⟨v,rfl,ownsRow_base_a hrow (by simp),((Below.refl _ W).alloc (Nat.le_refl _) _).trans (hb.mono (by simp))⟩
theorem tiIds_any(w:World)(b:Nat)(vl vg:Value)(M:PM)(h:PAt w b vl vg M)(hsz:M.L.length≤100000)(D:Nat)(root:Int)(L:List It)(ids:List Int)(ht:Tree M D root L ids)(hD:D≤12)(hn:ids.Nodup)(hid:ids.length≤80000) :
  Calls Tryz.prog 41 #[pgv b,.int .i64 root] w fun e w'=>∃ v,e=.returned (.tuple #[v,.int .i64 0])∧w'.ownsRow w.heap.size 3 1 v ids.length ((sortZ ids).map encZ)∧Below w.heap.size w w':=by
 have ho:∀ W,Calls Tryz.prog 52 #[pgv b] W fun e w'=>∃ s mb,e=.returned (.pointer (some ⟨s,0,none⟩))∧SkAt w' none b s mb (.slice none 0 0) [] []∧W.heap.size≤s∧W.heap.size≤mb∧Below W.heap.size W w':=fun W=>
  (on_any W none b).mono fun e w' ⟨g1,g2,g3⟩=>⟨W.heap.size+1,W.heap.size,g1,g2,Nat.le_succ _,Nat.le_refl _,g3⟩
 have hl:∀ W s mb,Below w.heap.size w W→SkAt W none b s mb (.slice none 0 0) [] []→w.heap.size≤s∧w.heap.size≤mb→_:=fun W s mb k1 k2 k3=>leaves_ids w W b s mb vl vg M h k1 k2 k3 hsz D root L ids ht hD hn hid
 have HO:=qh ho
 have HL:=qh hl
 have HN:=qh hn
 have HId:=qh hid
 unfold pgv at HO ⊢
 clear ho hl h ht hn
 go_enter Tryz.func41,Tryz.ntmps41
 go_upto_region 2 with (go_at_call 52;(with_reducible refine (HO.out _).mono ?_);rintro e w2 ⟨s,mb,rfl,g1,g2,g3,g4⟩;have H2:=qh g4;have K2:=qh g1;have HSs:Hid (w.heap.size≤s∧w.heap.size≤mb):=qh ⟨g2,g3⟩;clear g1 g2 g3 g4)
 go_upto_region 5 with (go_at_call 59;(with_reducible refine (HL.out _ s mb H2.out K2.out HSs.out).mono ?_);rintro e w3 ⟨x,vw,ps,rfl,g1,g2⟩;have H3:=qh g1;have K3:=qh g2;clear g1 g2)
 obtain⟨n,hn,hns⟩:∃ n,ids.length=n∧n=ids.length:=⟨_,rfl,rfl⟩
 have hw3:w3.cell? ⟨s,2,none⟩=some (.map (some mb)):=by
  rw[cell_at K3.out.obj]
  rfl
 have HK:Hid (∀ W,Calls Tryz.prog 63 #[.map (some mb)] W fun e w'=>e=.returned (.func (.func 75) #[] #[.pointer (some ⟨W.heap.size,0,none⟩)])∧w'=W.alloc (.cells #[.map (some mb)] 94)):=qh (keys_call _)
 have HS:=qh (sorted_call w3 mb ids K3.out.seen HN.out (by omega))
 go_wp2_with (first
  | (go_at_call 63;(with_reducible refine (HK.out _).mono ?_);rintro e w4 ⟨rfl,rfl⟩)
  | (go_at_call 62;(with_reducible refine (HS.out).mono ?_);rintro e w5 ⟨v,rfl,g1,g2⟩;have HR:=qh g1;have H5:=qh g2;clear g1 g2))
 go_ret2
 exact⟨v,rfl,ownsRow_base_a HR.out H3.out.size,thenBelow H3.out H5.out⟩
end Go.Proofs.YtjepgclnbbpnaaaGreat.P12
namespace Go.Proofs.YtjepgclnbbpnaaaGreat.P12
open PK (qqA qqB qqC qqD qqE qqF tk tkS dOne qh)
open Go Go.RowKit Go.Lib PK
open P11 (Pg)
open P9 (It kb kb_trans RightI lowK)
theorem leavesI(w0 w:World)(b s mb:Nat)(vl vg:Value)(M:PM)(h0:PAt w0 b vl vg M)(hb0:Below w0.heap.size w0 w)(hs:SkAt w none b s mb (.slice none 0 0) [] [])(hS:w0.heap.size≤s∧w0.heap.size≤mb)(hsz:M.L.length≤100000)(D:Nat)(root:Int)(L:List It)(ids:List Int)(ht:Tree M D root L ids)(hD:D≤12)(hn:ids.Nodup)(hid:ids.length≤80000)(key:ByteArray)(lb nb:Nat)
  (P P2:World→Option Nat→Sg→Prop) (Q:World→List Int→Prop) (hP:SeeP M D root L ids w0 b s mb P P2 Q)
  (hstart:∀ (w2:World) (g:Sg) (vw:Value),SkAt w none b s mb vw [] []→g.ok M D root L ids→g.k=lowK g.l' key→Lows g.la key→Highs g.lb key→(key=⟨#[]⟩→g.la=[]∧g.sn=g.ia++g.i')→Below w0.heap.size w0 w2→P3.Fr (SS s mb vw) w w2→(∀ j,SS s mb vw j→w0.heap.size≤j)→FrT none w w2→P w2 none g)
  (hnone:D=0→Q w [])
  (hsee:∀ (W:World) (x:Option Nat) (vw:Value) (g:Sg),Below w0.heap.size w0 W→SkAt W x b s mb vw g.ps g.sn→(∀ j,SS s mb vw j→w0.heap.size≤j)→g.ok M D root L ids→P W x g→
   Calls Tryz.prog 60 #[vw,.pointer (some ⟨lb,0,none⟩),.pointer (some ⟨nb,0,none⟩)] W fun e w'=>∃ (bb:Bool) (x':Option Nat),e=.returned (.bool bb)∧Below w0.heap.size w0 w'∧SkAt w' x' b s mb vw g.ps g.sn∧(∀ k,x'=some k→k < w'.heap.size)∧(bb=true→P2 w' x' g)∧(bb=false→Q w' g.sn)) :
  Calls Tryz.prog 59 #[.pointer (some ⟨s,0,none⟩),.int .i64 root,.string key,.func (.func 60) #[] #[.pointer (some ⟨lb,0,none⟩),.pointer (some ⟨nb,0,none⟩)]] w fun e w'=>∃ (x:Option Nat) (vw:Value) (ps:List Sp) (sn:List Int),e=.returned (.int .i64 0)∧Below w0.heap.size w0 w'∧SkAt w' x b s mb vw ps sn∧Q w' sn:=by
 have hdown:Calls Tryz.prog 53 #[.pointer (some ⟨s,0,none⟩),.int .i64 root,.string key] w fun e w'=>e=.returned (.int .i64 0)∧∃ n,LvR M D root L ids w0 b s mb P Q w' n:=by
  cases D with
  | zero=>
   obtain⟨rfl,rfl,rfl⟩:=ht
   refine (down_zero w s key).mono ?_
   rintro e w' ⟨rfl,rfl⟩
   exact⟨rfl,0,.end_ hb0 hs (hnone rfl)⟩
  | succ d=>
   have ht:TreeAt M (d+1) root L ids:=ht
   refine (down_any w none b vl vg M s mb (.slice none 0 0) [] [] (h0.below hb0) hs (by omega) (d+1) root key L ids ht (by simp;omega) hn (fun _ _ f=>by cases f) (by simp) (fun _ e=>by cases e)).mono ?_
   rintro e w' ⟨vw',ts,pl,fs,id',l',i',rfl,g1,g2⟩
   rw[List.nil_append] at g1
   rw[List.nil_append] at g1
   obtain⟨la,lb,ia,ib,k1,k2,k3,k4⟩:=Lf.start g2
   have hnil:∀ j,SS s mb (.slice none 0 0) j→w0.heap.size≤j:=SS_new hS.1 hS.2
   have hbl:=P3.Fr.new hb0 g1.fr hnil
   have hft:FrT none w w':=FrT.ofFr g1.fr hs.notT
   refine⟨rfl,_,.at_ (x:=none) (vw:=vw') (g:=⟨ts++[pl],pathI fs++[id'],fs,la,l',lb,ia,i',ib,lowK l' key⟩) hbl g1.sk (fun j hj=>?_) k1 (hstart w' _ (.slice none 0 0) hs k1 rfl k2 k3 k4 hbl g1.fr hnil hft)⟩
   rcases g1.sub hj with h|h
   ·exact hnil j h
   ·exact Nat.le_trans hb0.size h
 have HDn:=qh hdown
 have HSee:=qh hsee
 have HP:=qh hP
 have H0:=qh h0
 clear hdown hsee hP hstart hnone h0 hs hb0 ht hS
 go_enter Tryz.func59,Tryz.ntmps59
 go_wp2_with (go_at_call 53;(with_reducible refine HDn.out.mono ?_);rintro e w1 ⟨rfl,h9⟩;have HR0:=qh h9;clear h9)
 go_loopw [9] (fun ve wr=>ve=.int .i64 0∧Hid (∃ n,LvR M D root L ids w0 b s mb P Q wr n)) (fun _ wr=>leastN (LvR M D root L ids w0 b s mb P Q wr))
 case atStart=>exact⟨rfl,HR0⟩
 case round=>
  clear HR0
  obtain⟨rfl,HR⟩:=hrel
  obtain⟨n0,hn0⟩:=HR.out
  have hr:=(leastN_spec hn0).1
  obtain⟨n,hnn⟩:∃ n,n=leastN (LvR M D root L ids w0 b s mb P Q wr):=⟨_,rfl⟩
  rw[← hnn] at hr
  have HNn:=qh hnn
  clear HR hn0 n0 hnn
  cases hr with
  | @end_ x vw sn hb hs hq=>
   obtain⟨va,vc,hvw⟩:=hs.slice
   have hvw:vw=.slice va 0 vc:=hvw
   subst hvw
   have o1:=cell_at hs.obj 1
   simp only[qqD,qqE,qqF] at o1
   have HB:=qh hb
   have HSk:=qh hs
   have HQ:=qh hq
   clear hb hs hq
   go_wp2
   go_ret
   exact⟨x,_,_,sn,rfl,HB.out,HSk.out,HQ.out⟩
  | @at_ x vw g hb hs hng hg hp=>
   obtain⟨bd1,bd2,bd3,bd4,bd5⟩:=hg.bounds
   obtain⟨va,vc,hvw⟩:=hs.slice
   obtain⟨m,hm⟩:∃ m,m=g.ps.length:=⟨_,rfl⟩
   rw[← hm] at hvw bd1 bd2
   subst hvw
   have o1:=cell_at hs.obj 1
   simp only[qqD,qqE,qqF] at o1
   have k1:decide ((0:Int) < (m:Int))=true:=decide_eq_true (by omega)
   have k2:(0:Int) < (m:Int):=by omega
   have k3:decide (0 < m)=true:=decide_eq_true bd1
   have HSe:=qh (HSee.out wr x _ g hb hs hng hg hp)
   have HNg:=qh hng
   have HG:=qh hg
   have HM:=qh hm
   have HBd:=qh bd3
   have HBD:=qh bd2
   clear hb hs hng hg hp hm bd3 bd2
   go_upto_region 3 with (go_at_call 60;(with_reducible refine HSe.out.mono ?_);rintro e w2 ⟨bb,x2,rfl,s1,s2,s3,s4,s5⟩;have S1:=qh s1;have S2:=qh s2;have S3:=qh s3;have S4:=qh s4;have S5:=qh s5;clear s1 s2 s3 s4 s5)
   rotate_left
   ·rename_i hbb
    go_ret
    exact⟨x2,_,_,g.sn,rfl,S1.out,S2.out,S5.out (by simpa using hbb)⟩
   ·rename_i hbb
    have htn:=turn_any w2 x2 b s mb (.slice va m vc) g.ps g.sn S2.out (by rw[← HM.out];exact bd1) (by rw[← HM.out];have:=HBD.out;omega) HBd.out
    rcases HG.out.next hn with ⟨t1,t2,t3⟩|⟨ps2,e2,z,lq,iq,t1,t2,t3,t4,t5,t6⟩
    ·rw[t1] at htn
     have hT:Calls Tryz.prog 72 #[.pointer (some ⟨s,0,none⟩)] w2 fun e w'=>e=.returned (.int .i64 0)∧LvR M D root L ids w0 b s mb P Q w' 0:=htn.mono fun e w'=>by
      rintro ⟨vw',rfl,g1,g2,g3,g4⟩
      have hfr:P3.Fr (SS s mb (.slice va m vc)) w2 w':=g2.mono fun j _ e=>e.imp id .inl
      have hbl:=P3.Fr.new S1.out hfr HNg.out
      exact⟨rfl,.end_ hbl g1 (HP.out.stop w2 w' x2 g _ (S4.out hbb) S2.out HG.out t2 t3 hbl hfr HNg.out g4)⟩
     have HT:=qh hT
     clear htn hT
     go_wp2_with (first
      | (go_at_call 72;(with_reducible refine HT.out.mono ?_);rintro e w3 ⟨rfl,h9⟩;have H9:=qh h9;clear h9)
      | (go_at_call 53;(with_reducible refine (down_zero _ s ⟨#[]⟩).mono ?_);rintro e w4 ⟨rfl,rfl⟩))
     go_roundw
     case rel=>exact⟨rfl,qh ⟨0,H9.out⟩⟩
     case measure=>
      rw[← HNn.out]
      have:=(leastN_spec H9.out).2
      omega
    ·rw[t1] at htn
     have hT:Calls Tryz.prog 72 #[.pointer (some ⟨s,0,none⟩)] w2 fun e w'=>e=.returned (.int .i64 z)∧∃ vw',SkAt w' x2 b s mb vw' ps2 g.sn∧P3.Fr (SS s mb (.slice va m vc)) w2 w'∧(∀ j,SS s mb vw' j→SS s mb (.slice va m vc) j)∧FrT x2 w2 w'∧Below w0.heap.size w0 w':=htn.mono fun e w'=>by
      rintro ⟨vw',rfl,g1,g2,g3,g4⟩
      have hfr:P3.Fr (SS s mb (.slice va m vc)) w2 w':=g2.mono fun j _ e=>e.imp id .inl
      exact⟨rfl,vw',g1,hfr,fun j hj=>by
       rcases hj with h|h|h
       ·exact .inl h
       ·exact .inr (.inl (g3 j h))
       ·exact .inr (.inr h),g4,P3.Fr.new S1.out hfr HNg.out⟩
     have hD2:∀ (W:World) (vw':Value),SkAt W x2 b s mb vw' ps2 g.sn→P3.Fr (SS s mb (.slice va m vc)) w2 W→(∀ j,SS s mb vw' j→SS s mb (.slice va m vc) j)→FrT x2 w2 W→Below w0.heap.size w0 W→Calls Tryz.prog 53 #[.pointer (some ⟨s,0,none⟩),.int .i64 z,.string ⟨#[]⟩] W fun e w'=>e=.returned (.int .i64 0)∧∃ n,LvR M D root L ids w0 b s mb P Q w' n∧n < g.lb.length+1:=fun W vw' q1 q2 q3 q4 q5=>by
      refine (down_any W x2 b vl vg M s mb vw' ps2 g.sn (H0.out.below q5) q1 hsz (e2+1) z ⟨#[]⟩ lq iq t2 (by omega) t4 t5 (by
       have h7:=HG.out.snl
       have h8:=HG.out.iE
       rw[h8] at hid
       simp only[List.length_append] at hid
       omega) (fun k hk=>Nat.lt_of_lt_of_le (S3.out k hk) q2.size)).mono ?_
      rintro e w' ⟨vw3,ts,pl,f2,id2,l2,i2,rfl,g1,g2⟩
      obtain⟨fs3,lb3,ib3,ia3,u1,u2,u3⟩:=t6 g2
      have hn2:∀ j,SS s mb vw' j→w0.heap.size≤j:=fun j hj=>HNg.out j (q3 j hj)
      have hbl:=P3.Fr.new q5 g1.fr hn2
      have hfr:P3.Fr (SS s mb (.slice va m vc)) w2 w':=frThen q2 g1.fr fun j _ hj=>q3 j hj
      have hft:FrT x2 w2 w':=q4.trans (FrT.ofFr g1.fr q1.notT)
      have hne:0 < l2.length:=u1.bounds.2.2.2.2
      refine⟨rfl,_,.at_ (x:=x2) (vw:=vw3) (g:=⟨ps2++ts++[pl],g.sn++pathI f2++[id2],fs3,g.la++g.l',l2,lb3,ia3,i2,ib3,0⟩) hbl g1.sk (fun j hj=>?_) u1 (HP.out.next w2 w' x2 g _ _ (S4.out hbb) S2.out HG.out u1 rfl u2 rfl u3 hbl hfr HNg.out hft),?_⟩
      ·rcases g1.sub hj with h|h
       ·exact hn2 j h
       ·exact Nat.le_trans q5.size h
      ·show lb3.length+1 < _
       rw[u2,List.length_append]
       omega
     have HT:=qh hT
     have HD2:=qh hD2
     clear htn hT hD2
     go_wp2_with (first
      | (go_at_call 72;(with_reducible refine HT.out.mono ?_);rintro e w3 ⟨rfl,vw3,h1,h2,h3,h4,h5⟩;have H1:=qh h1;have H2:=qh h2;have H3:=qh h3;have H4:=qh h4;have H5:=qh h5;clear h1 h2 h3 h4 h5)
      | (go_at_call 53;(with_reducible refine (HD2.out _ _ H1.out H2.out H3.out H4.out H5.out).mono ?_);rintro e w4 ⟨rfl,n4,h9,h8⟩;have H9:=qh h9;have H8:=qh h8;clear h9 h8))
     go_roundw
     case rel=>exact⟨rfl,qh ⟨n4,H9.out⟩⟩
     case measure=>
      rw[← HNn.out]
      have:=(leastN_spec H9.out).2
      have:=H8.out
      omega
end Go.Proofs.YtjepgclnbbpnaaaGreat.P12
