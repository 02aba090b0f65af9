/-
  Texts of the proofs of SaidOrd12.
-/
import Derived.Test.YtjepgclnbbpnaaaGreatMs24
set_option linter.unusedVariables false
set_option linter.unusedSimpArgs false
set_option maxHeartbeats 8000000
set_option maxRecDepth 100000
namespace Go.Proofs.YtjepgclnbbpnaaaGreat.P12
open PK (qqA qqB qqC qqD qqE qqF tk tkS dOne qh)
open Go Go.RowKit Go.Lib PK
open P11 (Pg cellsP PgsIn)
theorem frB{S:Nat→Prop}{a w w':World}(h:P3.Fr S a w)(k:Below w.heap.size w w'):P3.Fr S a w':=frThen h (P3.Fr.of (S:=fun _=>False) k) fun _ _ f=>f.elim
theorem fr1{S:Nat→Prop}{a w:World}(h:P3.Fr S a w){b j:Nat}(hb:a.heap.size≤b)(u:Value):P3.Fr S a (w.setCell ⟨b,j,none⟩ u):=
 ⟨h.os,h.tape,h.output,by simpa [World.setCell] using h.size,fun k hk hn=>by rw[Below.heap_setCell _ _ _ _ (by show k≠b;omega)];exact h.block k hk hn⟩
theorem fr8{S:Nat→Prop}{a w:World}(h:P3.Fr S a w)(u0 u1 u2 u3 u4 u5 u6 u7:Value):P3.Fr S a ((((((((w.setCell ⟨a.heap.size,0,none⟩ u0).setCell ⟨a.heap.size,1,none⟩ u1).setCell ⟨a.heap.size,2,none⟩ u2).setCell ⟨a.heap.size,3,none⟩ u3).setCell ⟨a.heap.size,4,none⟩ u4).setCell ⟨a.heap.size,5,none⟩ u5).setCell ⟨a.heap.size,6,none⟩ u6).setCell ⟨a.heap.size,7,none⟩ u7):=
 fr1 (fr1 (fr1 (fr1 (fr1 (fr1 (fr1 (fr1 h (Nat.le_refl _) u0) (Nat.le_refl _) u1) (Nat.le_refl _) u2) (Nat.le_refl _) u3) (Nat.le_refl _) u4) (Nat.le_refl _) u5) (Nat.le_refl _) u6) (Nat.le_refl _) u7
theorem join_kind(a b:Nd)(k:ByteArray):(a.join b k).kind=a.kind:=by
 cases a <;> cases b <;> rfl
theorem fr6{S:Nat→Prop}{a w:World}{b:Nat}(h:P3.Fr S a w)(hb:S b)(u0 u1 u2 u3 u4 u5:Value):P3.Fr S a ((((((w.setCell ⟨b,0,none⟩ u0).setCell ⟨b,1,none⟩ u1).setCell ⟨b,2,none⟩ u2).setCell ⟨b,3,none⟩ u3).setCell ⟨b,4,none⟩ u4).setCell ⟨b,5,none⟩ u5):=by
 have g:∀ (w:World) (j:Nat) (u:Value),P3.Fr S a w→P3.Fr S a (w.setCell ⟨b,j,none⟩ u):=fun w j u k=>
  frThen k (fr_set w b j u) fun j' hj e=>by subst e;exact hb
 exact g _ _ _ (g _ _ _ (g _ _ _ (g _ _ _ (g _ _ _ (g _ _ _ h)))))
theorem four_new(w:World)(A B C D:Array Value)(r s t u:TypeId):∀ W,Below ((((w.alloc (.cells A r)).alloc (.cells B s)).alloc (.cells C t)).alloc (.cells D u)).heap.size ((((w.alloc (.cells A r)).alloc (.cells B s)).alloc (.cells C t)).alloc (.cells D u)) W→
  W.heap[w.heap.size]?=some (.cells A r (0,0))∧W.heap[w.heap.size+1]?=some (.cells B s (0,0))∧W.heap[w.heap.size+2]?=some (.cells C t (0,0))∧W.heap[w.heap.size+3]?=some (.cells D u (0,0)):=fun W hb=>by
 obtain⟨h1,h2,h3⟩:=three_new w A B C r s t _ (Below.refl _ _)
 have e:w.heap.size+3=(((w.alloc (.cells A r)).alloc (.cells B s)).alloc (.cells C t)).heap.size:=by simp
 refine⟨P3.old_below (P3.old_alloc h1 _) hb,P3.old_below (P3.old_alloc h2 _) hb,P3.old_below (P3.old_alloc h3 _) hb,?_⟩
 rw[hb.block _ (by simp),e]
 exact new_at _ D u
theorem pgs_one{w:World}{X:Nat}{p:Pg}(h:w.heap[X]?=some (.cells #[.int .i64 p.k,.int .i64 p.id,.int .i64 p.tx,.string p.body] 86 (0,0))):PgsIn w (.slice (some ⟨X,0,none⟩) 1 1) [p]:=by
 refine⟨_,1,rfl,(fun e=>by cases e),(by simp[P11.cellsP_length]),P11.cellsP_ok _,fun _=>⟨X,0,rfl,lt_of_block h,fun i x hx j u hu=>?_⟩⟩
 match i,hx with
 | 0,hx=>
  cases hx
  rw[cell_at h,List.getElem?_toArray]
  match j,hu with
  | 0,hu=>exact hu
  | 1,hu=>exact hu
  | 2,hu=>exact hu
  | 3,hu=>exact hu
  | n+4,hu=>simp[Pg.cells] at hu
 | n+1,hx=>simp[cellsP] at hx
theorem pgs_two{w:World}{X:Nat}{p q:Pg}(h:w.heap[X]?=some (.cells #[.int .i64 p.k,.int .i64 p.id,.int .i64 p.tx,.string p.body,.int .i64 q.k,.int .i64 q.id,.int .i64 q.tx,.string q.body] 86 (0,0))):PgsIn w (.slice (some ⟨X,0,none⟩) 2 2) [p,q]:=by
 refine⟨_,2,rfl,(fun e=>by cases e),(by simp[P11.cellsP_length]),P11.cellsP_ok _,fun _=>⟨X,0,rfl,lt_of_block h,fun i x hx j u hu=>?_⟩⟩
 match i,hx with
 | 0,hx=>
  cases hx
  rw[cell_at h,List.getElem?_toArray]
  match j,hu with
  | 0,hu=>exact hu
  | 1,hu=>exact hu
  | 2,hu=>exact hu
  | 3,hu=>exact hu
  | n+4,hu=>simp[Pg.cells] at hu
 | 1,hx=>
  cases hx
  rw[cell_at h,List.getElem?_toArray]
  match j,hu with
  | 0,hu=>exact hu
  | 1,hu=>exact hu
  | 2,hu=>exact hu
  | 3,hu=>exact hu
  | n+4,hu=>simp[Pg.cells] at hu
 | n+2,hx=>simp[cellsP] at hx
structure Nb (G:Cg) (id:Int) (nd:Nd) (tx:Int):Prop where
 get:G.M.get id=(⟨nd.kind,id,tx,nd.body⟩,0)
 good:nd.good
 new:id∉G.sn
structure Grp (w w':World) (G G':Cg) (j:Nd) (vi vk vo:Value) (olds:List Pg):Prop where
 nd:NdT w' none vi vk j
 old:OldIn w' G' vo olds
 went:Went w w' G G'
theorem both_left(w:World)(G:Cg)(here above:Sp)(nd nd':Nd)(vi vk:Value)(l:List P10.It)(k B:Nat)(q qk:P10.It)(tx:Int)(h:CAt w G)(hl:G.M.L.length≤100000)(hn:NdT w none vi vk nd)(hh:NdT w none here.vi here.vk here.nd)(ha:above.nd=.tw l)(hal:NdT w none above.vi above.vk above.nd)
  (hat:above.at_=(B:Int)) (hkB:k < B) (hq:l[k]?=some q) (hqk:l[B]?=some qk) (hll:l.length≤1000) (hnb:Nb G q.page nd' tx) (hk:nd'.kind=nd.kind) (hs:nd'.len+nd.len≤1000000) (h0:0 < nd.len) (hsn:G.sn.length≤100000) :
  Calls Tryz.prog 101 #[.pointer (some ⟨G.c,0,none⟩),nd.v vi vk,here.v,above.v,.int .i64 (k:Nat)] w fun e w'=>∃ ji jk vo,e=.returned (.tuple #[Grv (nd'.join nd qk.key) ji jk vo (k:Nat) false,.int .i64 0])∧
   Grp w w' G { G with sn:=G.sn++[q.page] } (nd'.join nd qk.key) ji jk vo [⟨nd'.kind,q.page,tx,nd'.body⟩,here.pg]:=by
 obtain⟨a1,n1,c1,a2,n2,c2,rfl,rfl,_⟩:=hn.lens
 obtain⟨⟨hk0,hid,htx,hbody⟩,hnd,hvi,hvk,hat0⟩:=here
 obtain⟨⟨ak0,aid,atx,abody⟩,and_,avi,avk,aat⟩:=above
 simp only at ha hal hat hh
 subst ha hat
 obtain⟨rfl,hkd⟩:=hal
 obtain⟨b1,m1,d1,b2,m2,d2,rfl,rfl,_⟩:=hh.lens
 obtain⟨ba,ca,rfl⟩:=hkd.its.slice
 obtain⟨kb,koff,rfl,_⟩:=hkd.its.at_ hq
 obtain⟨K,hK⟩:∃ K,K=nd.kind:=⟨_,rfl⟩
 have hK2:nd'.kind=K:=by rw[hK,hk]
 have hK3:(nd'.join nd qk.key).kind=K:=by rw[join_kind,hK2]
 have HK2:=qh hK2
 have HKn:=qh hK
 have HJo:=qh (fun W (a:Value) (b:Value) (c:Value) (d:Value) (g1:NdT W none a b nd') (g2:NdT W none c d nd)=>join_any W none nd' nd a b c d qk.key g1 g2 hk hs h0 (fun _ e=>by cases e))
 unfold Nd.v at HJo
 rw[hK2,← hK,hK3] at HJo
 unfold Sp.v Nd.v Grv
 simp only[show (Nd.tw l).kind=4 from rfl]
 rw[hK3,← hK]
 obtain⟨X,hX⟩:∃ X,X=(((w.alloc (.cells #[.int .i64 K,.slice a1 n1 c1,.slice a2 n2 c2] 80)).alloc (.cells #[.int .i64 hk0,.int .i64 hid,.int .i64 htx,.string hbody,.int .i64 hnd.kind,.slice b1 m1 d1,.slice b2 m2 d2,.int .i64 hat0] 88)).alloc (.cells #[.int .i64 ak0,.int .i64 aid,.int .i64 atx,.string abody,.int .i64 4,.slice none 0 0,.slice (some ⟨kb,koff,none⟩) l.length ca,.int .i64 (B:Int)] 88)).alloc (.cells #[.int .i64 0,.slice none 0 0,.slice none 0 0,.slice none 0 0,.int .i64 0,.bool false] 127):=⟨_,rfl⟩
 have hR:=four_new w #[.int .i64 K,.slice a1 n1 c1,.slice a2 n2 c2] #[.int .i64 hk0,.int .i64 hid,.int .i64 htx,.string hbody,.int .i64 hnd.kind,.slice b1 m1 d1,.slice b2 m2 d2,.int .i64 hat0] #[.int .i64 ak0,.int .i64 aid,.int .i64 atx,.string abody,.int .i64 4,.slice none 0 0,.slice (some ⟨kb,koff,none⟩) l.length ca,.int .i64 (B:Int)] #[.int .i64 0,.slice none 0 0,.slice none 0 0,.slice none 0 0,.int .i64 0,.bool false] 80 88 88 127
 rw[← hX] at hR
 have hbX:Below w.heap.size w X:=by rw[hX];exact grow (grow (grow (below_new _ _) _) _) _
 have HR:=qh hR
 have wX:=Went.below h hbX
 have HWX:=qh wX
 have HNd:=qh (hn.keep wX.ft)
 have HKd:=qh (hkd.keep wX.ft)
 have hcx:=wX.at_.ch.obj
 have HRd:=qh (fun W (b:Below X.heap.size X W)=>by
  have h9:=skRead_any W none G.b G.vl G.vg G.M G.s G.mb G.vw G.ps G.sn (wX.at_.pg.below b) (wX.at_.sk.below b) hl q.page nd' tx hnb.get hnb.good hnb.new hsn (fun _ e=>by cases e)
  simp only[Sp.v] at h9
  rw[hK2] at h9
  exact h9)
 have HSF:Hid (∀ W,P3.Fr (·=G.mb) X W→W.cell? ⟨G.c,0,none⟩=some (.pointer (some ⟨G.s,0,none⟩))∧W.cell? ⟨kb,koff+k*2+1,none⟩=some (.int .i64 q.page)):=fun W f=>by
  refine⟨cell_at (f.keep hcx fun e=>wX.at_.apart (.inr (.inr e)) (.inl rfl)) 0,?_⟩
  have ft:FrT none X W:=FrT.ofFr f fun j cs t hj hst e=>wX.at_.notT none j cs t (by subst hj;exact .inr (.inl (.inr (.inr rfl)))) hst e
  obtain⟨_,_,e,hc⟩:=(HKd.out.keep ft).its.at_ hq
  simp only[Option.some.injEq,Addr.mk.injEq,and_true] at e
  obtain⟨rfl,rfl⟩:=e
  exact (hc W (Below.refl _ _)).2
 have HX:=qh (Below.refl X.heap.size X)
 have HQ:=qh hq
 have HQk:=qh hqk
 have hlt:=(List.getElem?_eq_some_iff.1 hqk).1
 obtain⟨N,hN⟩:∃ n,n=l.length:=⟨_,rfl⟩
 rw[← hN] at hX HR HKd hll hlt ⊢
 have HN:=qh hN
 have j1:(0:Int)≤(k:Int):=by omega
 have j2:(k:Int) < (N:Int):=by omega
 have j3:(k:Int) < (B:Int):=by omega
 have j4:(B:Int) < (N:Int):=by omega
 have j5:(0:Int)≤(B:Int):=by omega
 obtain⟨_,_,r2,_⟩:=HR.out X HX.out
 have q2:=cell_at r2 6
 simp only[qqD,qqE,qqF] at q2
 have HNb:=qh hnb
 have HH:=qh h
 have HKi:=qh hk
 have HS:=qh hs
 have H0:=qh h0
 clear hK hK2 hK3
 clear hR hbX wX hcx h hn hkd hh hq hqk hN hnb hk hs h0 r2
 go_enter Tryz.func101,Tryz.ntmps101
 go_upto_region 1 with fail
 rw[← hX]
 clear hX
 go_upto_region 2 with fail
 clear q2
 have HFX:=qh (P3.Fr.refl (·=G.mb) X)
 have HFd:Hid (P3.Fr (·=G.mb) X X.drew):=qh (P3.Fr.of (S:=(·=G.mb)) HX.out.drew)
 have HBa:Hid (Below X.heap.size X (X.alloc (.cells #[.int .i64 0,.int .i64 0,.int .i64 0,.string ⟨#[]⟩,.int .i64 0,.slice none 0 0,.slice none 0 0,.int .i64 0] 88))):=qh (below_new X (.cells #[.int .i64 0,.int .i64 0,.int .i64 0,.string ⟨#[]⟩,.int .i64 0,.slice none 0 0,.slice none 0 0,.int .i64 0] 88))
 have HBb:Hid (Below X.heap.size X (X.alloc (.cells #[.int .i64 0,.int .i64 0,.int .i64 0,.string ⟨#[]⟩,.int .i64 0,.slice none 0 0,.slice none 0 0,.int .i64 0] 88)).drew):=qh (below_new X (.cells #[.int .i64 0,.int .i64 0,.int .i64 0,.string ⟨#[]⟩,.int .i64 0,.slice none 0 0,.slice none 0 0,.int .i64 0] 88)).drew
 have HFa:Hid (P3.Fr (·=G.mb) X (X.alloc (.cells #[.int .i64 0,.int .i64 0,.int .i64 0,.string ⟨#[]⟩,.int .i64 0,.slice none 0 0,.slice none 0 0,.int .i64 0] 88))):=qh (P3.Fr.of (S:=(·=G.mb)) HBa.out)
 have HFb:Hid (P3.Fr (·=G.mb) X (X.alloc (.cells #[.int .i64 0,.int .i64 0,.int .i64 0,.string ⟨#[]⟩,.int .i64 0,.slice none 0 0,.slice none 0 0,.int .i64 0] 88)).drew):=qh (P3.Fr.of (S:=(·=G.mb)) HBb.out)
 have hmbX:G.mb < X.heap.size:=HWX.out.at_.lt (.inr (.inl (.inr (.inr rfl))))
 have HMx:=qh hmbX
 clear hmbX
 go_region_held3 (fun W=>W.cell? ⟨G.c,0,none⟩=some (.pointer (some ⟨G.s,0,none⟩))∧W.cell? ⟨kb,koff+k*2+1,none⟩=some (.int .i64 q.page)) (first|(with_reducible exact HSF.out _ HFX.out)|(with_reducible exact HSF.out _ HFd.out)|(with_reducible exact HSF.out _ HFa.out)|(with_reducible exact HSF.out _ HFb.out)|(with_reducible exact HSF.out _ HY3.out)|(with_reducible exact HSF.out _ (fr8 HY3.out _ _ _ _ _ _ _ _))|(with_reducible exact HSF.out _ (frB HY3.out (below_new _ _))))
  ((first
   | (go_at_call 67;(with_reducible refine (HRd.out _ (by first|(with_reducible exact HX.out)|(with_reducible exact HX.out.drew))).mono ?_);rintro e w2 ⟨vi',vk',rfl,hy1,hy2,hy3⟩;obtain⟨e1,m3,d3,e2,m4,d4,e9,e8,_⟩:=hy1.lens;subst e9 e8;have HY1:=qh hy1;have HY2:=qh hy2;have HY3:=qh (show P3.Fr (·=G.mb) X w2 from (by first|(with_reducible exact hy3)|(with_reducible exact frThen HFd.out hy3 (fun _ _ f=>f))));clear hy1 hy2 hy3)
   | (go_at_call 67;(with_reducible refine (HRd.out _ (by first|(with_reducible exact HBa.out)|(with_reducible exact HBb.out))).mono ?_);rintro e w2 ⟨vi',vk',rfl,hy1,hy2,hy3⟩;obtain⟨e1,m3,d3,e2,m4,d4,e9,e8,_⟩:=hy1.lens;subst e9 e8;have HY1:=qh hy1;have HY2:=qh hy2;have HY3:=qh (show P3.Fr (·=G.mb) X w2 from (by first|(with_reducible exact frThen HFa.out hy3 (fun _ _ f=>f))|(with_reducible exact frThen HFb.out hy3 (fun _ _ f=>f))));have hz8:w2.heap[X.heap.size]?=some (.cells #[.int .i64 0,.int .i64 0,.int .i64 0,.string ⟨#[]⟩,.int .i64 0,.slice none 0 0,.slice none 0 0,.int .i64 0] 88 (0,0)):=hy3.keep (new_at X _ _) (by have:=HMx.out;omega);have HZ8:=qh hz8;have p0:=cell_at hz8 0;have p1:=cell_at hz8 1;have p2:=cell_at hz8 2;have p3:=cell_at hz8 3;have p4:=cell_at hz8 4;have p5:=cell_at hz8 5;have p6:=cell_at hz8 6;have p7:=cell_at hz8 7;simp only[qqD,qqE,qqF] at p0 p1 p2 p3 p4 p5 p6 p7;have f0:=free_at hz8 0;have f1:=free_at hz8 1;have f2:=free_at hz8 2;have f3:=free_at hz8 3;have f4:=free_at hz8 4;have f5:=free_at hz8 5;have f6:=free_at hz8 6;have f7:=free_at hz8 7;clear hy1 hy2 hy3 hz8)))
 all_goals
  first
   | (obtain⟨W3,hW3⟩:∃ W3,W3=((((((((w2.setCell ⟨X.heap.size,0,none⟩ (.int .i64 K)).setCell ⟨X.heap.size,1,none⟩ (.int .i64 q.page)).setCell ⟨X.heap.size,2,none⟩ (.int .i64 tx)).setCell ⟨X.heap.size,3,none⟩ (.string nd'.body)).setCell ⟨X.heap.size,4,none⟩ (.int .i64 K)).setCell ⟨X.heap.size,5,none⟩ (.slice e1 m3 d3)).setCell ⟨X.heap.size,6,none⟩ (.slice e2 m4 d4)).setCell ⟨X.heap.size,7,none⟩ (.int .i64 0)):=⟨_,rfl⟩
      rw[← hW3]
      obtain⟨nb,hnb⟩:∃ nb,nb=X.heap.size:=⟨_,rfl⟩
      rw[← hnb]
      have hge:X.heap.size≤nb:=by omega
      obtain⟨hB3,fw⟩:=put8 HZ8.out (.int .i64 K) (.int .i64 q.page) (.int .i64 tx) (.string nd'.body) (.int .i64 K) (.slice e1 m3 d3) (.slice e2 m4 d4) (.int .i64 0)
      rw[← hW3] at hB3 fw
      have hF3:P3.Fr (·=G.mb) X W3:=by rw[hW3];exact fr8 HY3.out _ _ _ _ _ _ _ _
      have hft:FrT none w2 W3:=FrT.ofFr fw fun k cs t hk hs e=>by
       rw[hk,HZ8.out] at e
       cases e
       rcases hs.1 with h9|h9 <;> cases h9
      have hS3:=HY2.out.fr fw hft (fun j hj e=>by have:=HWX.out.at_.lt (.inr (.inl hj));omega)
      rw[← hnb] at hB3
      clear p0 p1 p2 p3 p4 p5 p6 p7 f0 f1 f2 f3 f4 f5 f6 f7
      clear hW3 hnb fw)
   | (obtain⟨W3,hW3⟩:∃ W3,W3=w2.alloc (.cells #[.int .i64 K,.int .i64 q.page,.int .i64 tx,.string nd'.body,.int .i64 K,.slice e1 m3 d3,.slice e2 m4 d4,.int .i64 0] 88):=⟨_,rfl⟩
      rw[← hW3]
      obtain⟨nb,hnb⟩:∃ nb,nb=w2.heap.size:=⟨_,rfl⟩
      rw[← hnb]
      have hge:X.heap.size≤nb:=by rw[hnb];exact HY3.out.size
      have hbw:Below w2.heap.size w2 W3:=by rw[hW3];exact below_new _ _
      have hB3:W3.heap[nb]?=some (.cells #[.int .i64 K,.int .i64 q.page,.int .i64 tx,.string nd'.body,.int .i64 K,.slice e1 m3 d3,.slice e2 m4 d4,.int .i64 0] 88 (0,0)):=by rw[hW3,hnb];exact new_at _ _ _
      have hF3:P3.Fr (·=G.mb) X W3:=frB HY3.out hbw
      have hft:FrT none w2 W3:=FrT.of hbw
      have hS3:=HY2.out.below hbw
      clear hW3 hnb hbw)
  have hW3:=Went.read HWX.out.at_ q.page hS3 hF3
  have HN3:=qh (HY1.out.keep hft)
  have HM3:=qh (HNd.out.keep hW3.ft)
  have HKd3:=qh (HKd.out.keep hW3.ft)
  have HW3:=qh (HWX.out.trans hW3)
  have hmw:G.mb < w.heap.size:=HH.out.lt (.inr (.inl (.inr (.inr rfl))))
  obtain⟨r0,r1,r2,r3⟩:=HR.out X HX.out
  have s0:=hF3.keep r0 (by omega)
  have s1:=hF3.keep r1 (by omega)
  have s2:=hF3.keep r2 (by omega)
  have s3:=hF3.keep r3 (by omega)
  have HS0:=qh s0
  have HS1:=qh s1
  have HS2:=qh s2
  have HS3:=qh s3
  have HB3:=qh hB3
  have HF3:=qh hF3
  have HGe:=qh hge
  have t4:=cell_at hB3 4
  have u0:=cell_at s0 0
  have u7:=cell_at s2 7
  simp only[qqD,qqE,qqF] at t4 u0 u7
  clear r0 r1 r2 r3 s0 s1 s2 s3 hB3 hW3 hft hS3 hF3 hge hmw HSF HFX HFd HBa HBb HFa HFb HRd HY1 HY2 HY3
  go_upto_region 8 with fail
  clear t4 u0 u7
  have HSG:Hid (∀ W,P3.Fr (·=w.heap.size+3) W3 W→W.cell? ⟨nb,0,none⟩=some (.int .i64 K)∧W.cell? ⟨nb,1,none⟩=some (.int .i64 q.page)∧W.cell? ⟨nb,2,none⟩=some (.int .i64 tx)∧W.cell? ⟨nb,3,none⟩=some (.string nd'.body)∧W.cell? ⟨nb,4,none⟩=some (.int .i64 K)∧W.cell? ⟨nb,5,none⟩=some (.slice e1 m3 d3)∧W.cell? ⟨nb,6,none⟩=some (.slice e2 m4 d4)∧W.cell? ⟨w.heap.size,0,none⟩=some (.int .i64 K)∧W.cell? ⟨w.heap.size,1,none⟩=some (.slice a1 n1 c1)∧W.cell? ⟨w.heap.size,2,none⟩=some (.slice a2 n2 c2)∧W.cell? ⟨w.heap.size+1,0,none⟩=some (.int .i64 hk0)∧W.cell? ⟨w.heap.size+1,1,none⟩=some (.int .i64 hid)∧W.cell? ⟨w.heap.size+1,2,none⟩=some (.int .i64 htx)∧W.cell? ⟨w.heap.size+1,3,none⟩=some (.string hbody)∧W.cell? ⟨w.heap.size+2,7,none⟩=some (.int .i64 (B:Nat))∧W.cell? ⟨kb,koff+B*2,none⟩=some (.string qk.key)):=fun W f=>by
   have r0:=f.keep HS0.out (by simp)
   have r1:=f.keep HS1.out (by simp)
   have r2:=f.keep HS2.out (by simp)
   have hXs:w.heap.size+3 < X.heap.size:=lt_of_block (HR.out X HX.out).2.2.2
   have rb:=f.keep HB3.out (by have:=HGe.out;omega)
   have ft:FrT none W3 W:=FrT.ofFr f fun j cs t hj hst e=>by
    subst hj
    rw[HS3.out] at e
    cases e
    rcases hst.1 with h9|h9 <;> cases h9
   have hk9:=(HKd3.out.keep ft).its
   obtain⟨_,_,e,hc⟩:=hk9.at_ HQk.out
   simp only[Option.some.injEq,Addr.mk.injEq,and_true] at e
   obtain⟨rfl,rfl⟩:=e
   exact⟨cell_at rb 0,cell_at rb 1,cell_at rb 2,cell_at rb 3,cell_at rb 4,cell_at rb 5,cell_at rb 6,cell_at r0 0,cell_at r0 1,cell_at r0 2,cell_at r1 0,cell_at r1 1,cell_at r1 2,cell_at r1 3,cell_at r2 7,(hc W (Below.refl _ _)).1⟩
  have HJ3:Hid (∀ W,Below W3.heap.size W3 W→Calls Tryz.prog 127 #[.agg #[.int .i64 K,.slice e1 m3 d3,.slice e2 m4 d4],.agg #[.int .i64 K,.slice a1 n1 c1,.slice a2 n2 c2],.string qk.key] W fun e w'=>∃ a b,e=.returned (.agg #[.int .i64 K,a,b])∧NdT w' none a b (nd'.join nd qk.key)∧Below W.heap.size W w'):=fun W b=>HJo.out W _ _ _ _ (HN3.out.keep (FrT.of b)) (HM3.out.keep (FrT.of b))
  have HA1:=qh (Below.refl W3.heap.size W3)
  have HA2:=qh (below_new W3 (.cells #[.int .i64 K,.int .i64 q.page,.int .i64 tx,.string nd'.body,.int .i64 hk0,.int .i64 hid,.int .i64 htx,.string hbody] 86))
  have HA3:Hid (Below W3.heap.size W3 W3.drew):=qh HA1.out.drew
  have HA4:Hid (Below W3.heap.size W3 (W3.alloc (.cells #[.int .i64 K,.int .i64 q.page,.int .i64 tx,.string nd'.body,.int .i64 hk0,.int .i64 hid,.int .i64 htx,.string hbody] 86)).drew):=qh HA2.out.drew
  have HF1:=qh (P3.Fr.of (S:=(·=w.heap.size+3)) HA1.out)
  have HF2:=qh (P3.Fr.of (S:=(·=w.heap.size+3)) HA2.out)
  have HF3':Hid (P3.Fr (·=w.heap.size+3) W3 W3.drew):=qh (P3.Fr.of (S:=(·=w.heap.size+3)) HA3.out)
  have HF4:Hid (P3.Fr (·=w.heap.size+3) W3 (W3.alloc (.cells #[.int .i64 K,.int .i64 q.page,.int .i64 tx,.string nd'.body,.int .i64 hk0,.int .i64 hid,.int .i64 htx,.string hbody] 86)).drew):=qh (P3.Fr.of (S:=(·=w.heap.size+3)) HA4.out)
  go_region_held3 (fun W=>W.cell? ⟨nb,0,none⟩=some (.int .i64 K)∧W.cell? ⟨nb,1,none⟩=some (.int .i64 q.page)∧W.cell? ⟨nb,2,none⟩=some (.int .i64 tx)∧W.cell? ⟨nb,3,none⟩=some (.string nd'.body)∧W.cell? ⟨nb,4,none⟩=some (.int .i64 K)∧W.cell? ⟨nb,5,none⟩=some (.slice e1 m3 d3)∧W.cell? ⟨nb,6,none⟩=some (.slice e2 m4 d4)∧W.cell? ⟨w.heap.size,0,none⟩=some (.int .i64 K)∧W.cell? ⟨w.heap.size,1,none⟩=some (.slice a1 n1 c1)∧W.cell? ⟨w.heap.size,2,none⟩=some (.slice a2 n2 c2)∧W.cell? ⟨w.heap.size+1,0,none⟩=some (.int .i64 hk0)∧W.cell? ⟨w.heap.size+1,1,none⟩=some (.int .i64 hid)∧W.cell? ⟨w.heap.size+1,2,none⟩=some (.int .i64 htx)∧W.cell? ⟨w.heap.size+1,3,none⟩=some (.string hbody)∧W.cell? ⟨w.heap.size+2,7,none⟩=some (.int .i64 (B:Nat))∧W.cell? ⟨kb,koff+B*2,none⟩=some (.string qk.key)) (first|(with_reducible exact HSG.out _ HF1.out)|(with_reducible exact HSG.out _ HF2.out)|(with_reducible exact HSG.out _ HF3'.out)|(with_reducible exact HSG.out _ HF4.out)|(with_reducible exact HSG.out _ HY5.out)|(with_reducible exact HSG.out _ HY6.out)|(with_reducible exact HSG.out _ (fr6 HY5.out rfl _ _ _ _ _ _))|(with_reducible exact HSG.out _ (fr6 HY6.out rfl _ _ _ _ _ _)))
   ((first
    | (go_at_call 127;(with_reducible refine (HJ3.out _ (by first|(with_reducible exact HA1.out)|(with_reducible exact HA3.out))).mono ?_);rintro e w4 ⟨ja,jb,rfl,hy1,hy2⟩;obtain⟨e5,m5,d5,e6,m6,d6,e9,e8,_⟩:=hy1.lens;subst e9 e8;have HY1:=qh hy1;have HY2:=qh (show Below W3.heap.size W3 w4 from (by first|(with_reducible exact hy2)|(with_reducible exact thenBelow HA3.out hy2)));have HY5:=qh (P3.Fr.of (S:=(·=w.heap.size+3)) HY2.out);have HY6:=qh (P3.Fr.of (S:=(·=w.heap.size+3)) (grow HY2.out (.cells #[.int .i64 K,.int .i64 q.page,.int .i64 tx,.string nd'.body,.int .i64 hk0,.int .i64 hid,.int .i64 htx,.string hbody] 86)));have z3:=P3.old_alloc (P3.old_below HS3.out HY2.out) (.cells #[.int .i64 K,.int .i64 q.page,.int .i64 tx,.string nd'.body,.int .i64 hk0,.int .i64 hid,.int .i64 htx,.string hbody] 86);have HZ3:=qh z3;have HZP:Hid ((w4.alloc (.cells #[.int .i64 K,.int .i64 q.page,.int .i64 tx,.string nd'.body,.int .i64 hk0,.int .i64 hid,.int .i64 htx,.string hbody] 86)).heap[w4.heap.size]?=some (.cells #[.int .i64 K,.int .i64 q.page,.int .i64 tx,.string nd'.body,.int .i64 hk0,.int .i64 hid,.int .i64 htx,.string hbody] 86 (0,0))):=qh (new_at w4 _ _);have p0:=cell_at z3 0;have p1:=cell_at z3 1;have p2:=cell_at z3 2;have p3:=cell_at z3 3;have p4:=cell_at z3 4;have p5:=cell_at z3 5;simp only[qqD,qqE,qqF] at p0 p1 p2 p3 p4 p5;have f0:=free_at z3 0;have f1:=free_at z3 1;have f2:=free_at z3 2;have f3:=free_at z3 3;have f4:=free_at z3 4;have f5:=free_at z3 5;clear hy1 hy2 z3)
    | (go_at_call 127;(with_reducible refine (HJ3.out _ (by first|(with_reducible exact HA2.out)|(with_reducible exact HA4.out))).mono ?_);rintro e w4 ⟨ja,jb,rfl,hy1,hy2⟩;obtain⟨e5,m5,d5,e6,m6,d6,e9,e8,_⟩:=hy1.lens;subst e9 e8;have HY1:=qh hy1;have hy3:=(show Below (W3.alloc (.cells #[.int .i64 K,.int .i64 q.page,.int .i64 tx,.string nd'.body,.int .i64 hk0,.int .i64 hid,.int .i64 htx,.string hbody] 86)).heap.size (W3.alloc (.cells #[.int .i64 K,.int .i64 q.page,.int .i64 tx,.string nd'.body,.int .i64 hk0,.int .i64 hid,.int .i64 htx,.string hbody] 86)) w4 from (by first|(with_reducible exact hy2)|(with_reducible exact thenBelow (Below.refl _ _).drew hy2)));have HY2:=qh (thenBelow HA2.out hy3);have HY5:=qh (P3.Fr.of (S:=(·=w.heap.size+3)) HY2.out);have HY6:=qh (P3.Fr.of (S:=(·=w.heap.size+3)) (grow HY2.out (.cells #[.int .i64 K,.int .i64 q.page,.int .i64 tx,.string nd'.body,.int .i64 hk0,.int .i64 hid,.int .i64 htx,.string hbody] 86)));have z3:=P3.old_below HS3.out HY2.out;have HZ3:=qh z3;have HZP:Hid (w4.heap[W3.heap.size]?=some (.cells #[.int .i64 K,.int .i64 q.page,.int .i64 tx,.string nd'.body,.int .i64 hk0,.int .i64 hid,.int .i64 htx,.string hbody] 86 (0,0))):=qh (P3.old_below (new_at W3 _ _) hy3);have p0:=cell_at z3 0;have p1:=cell_at z3 1;have p2:=cell_at z3 2;have p3:=cell_at z3 3;have p4:=cell_at z3 4;have p5:=cell_at z3 5;simp only[qqD,qqE,qqF] at p0 p1 p2 p3 p4 p5;have f0:=free_at z3 0;have f1:=free_at z3 1;have f2:=free_at z3 2;have f3:=free_at z3 3;have f4:=free_at z3 4;have f5:=free_at z3 5;clear hy1 hy2 hy3 z3)))
  all_goals
   clear p0 p1 p2 p3 p4 p5 f0 f1 f2 f3 f4 f5
   go_wp2
   have hfin:∀ (W5:World) (pb:Nat),Below W3.heap.size W3 W5→W3.heap.size≤pb→W5.heap[pb]?=some (.cells #[.int .i64 K,.int .i64 q.page,.int .i64 tx,.string nd'.body,.int .i64 hk0,.int .i64 hid,.int .i64 htx,.string hbody] 86 (0,0))→NdT W5 none (.slice e5 m5 d5) (.slice e6 m6 d6) (nd'.join nd qk.key)→W5.heap[w.heap.size+3]?=some (.cells #[.int .i64 0,.slice none 0 0,.slice none 0 0,.slice none 0 0,.int .i64 0,.bool false] 127 (0,0))→
     (((((((W5.setCell ⟨w.heap.size+3,0,none⟩ (.int .i64 K)).setCell ⟨w.heap.size+3,1,none⟩ (.slice e5 m5 d5)).setCell ⟨w.heap.size+3,2,none⟩ (.slice e6 m6 d6)).setCell ⟨w.heap.size+3,3,none⟩ (.slice (some ⟨pb,0,none⟩) 2 2)).setCell ⟨w.heap.size+3,4,none⟩ (.int .i64 (k:Nat))).setCell ⟨w.heap.size+3,5,none⟩ (.bool false))).heap[w.heap.size+3]?=some (.cells #[.int .i64 K,.slice e5 m5 d5,.slice e6 m6 d6,.slice (some ⟨pb,0,none⟩) 2 2,.int .i64 (k:Nat),.bool false] 127 (0,0))∧
     Grp w (((((((W5.setCell ⟨w.heap.size+3,0,none⟩ (.int .i64 K)).setCell ⟨w.heap.size+3,1,none⟩ (.slice e5 m5 d5)).setCell ⟨w.heap.size+3,2,none⟩ (.slice e6 m6 d6)).setCell ⟨w.heap.size+3,3,none⟩ (.slice (some ⟨pb,0,none⟩) 2 2)).setCell ⟨w.heap.size+3,4,none⟩ (.int .i64 (k:Nat))).setCell ⟨w.heap.size+3,5,none⟩ (.bool false))) G { G with sn:=G.sn++[q.page] } (nd'.join nd qk.key) (.slice e5 m5 d5) (.slice e6 m6 d6) (.slice (some ⟨pb,0,none⟩) 2 2) [⟨K,q.page,tx,nd'.body⟩,⟨hk0,hid,htx,hbody⟩]:=fun W5 pb a1 a2 a3 a4 a5=>by
    obtain⟨hr,fw⟩:=put6 a5 (.int .i64 K) (.slice e5 m5 d5) (.slice e6 m6 d6) (.slice (some ⟨pb,0,none⟩) 2 2) (.int .i64 (k:Nat)) (.bool false)
    have hRlt:w.heap.size+3 < W3.heap.size:=lt_of_block HS3.out
    have hp6:=fw.keep a3 (by omega)
    have hft:=FrT.ofFr (x:=none) fw fun j cs t hj hst e=>by
     subst hj
     rw[a5] at e
     cases e
     rcases hst.1 with h9|h9 <;> cases h9
    refine⟨hr,a4.keep hft,⟨pgs_two hp6,fun j hj=>?_⟩,?_⟩
    ·have hj':pb=j:=Option.some.inj hj
     subst hj'
     exact⟨fun e=>by have:=HW3.out.at_.lt e;omega,lt_of_block hp6⟩
    ·exact HW3.out.ext HH.out rfl (frThen (P3.Fr.of (S:=(·=w.heap.size+3)) a1) fw fun _ _ e=>e) fun j hj=>by
      subst hj
      exact⟨by omega,fun e=>by have:=HH.out.lt (show G.S _ from e);omega⟩
   first
    | (have hzp:(w4.alloc (.cells #[.int .i64 K,.int .i64 q.page,.int .i64 tx,.string nd'.body,.int .i64 hk0,.int .i64 hid,.int .i64 htx,.string hbody] 86)).heap[w4.heap.size]?=some (.cells #[.int .i64 K,.int .i64 q.page,.int .i64 tx,.string nd'.body,.int .i64 hk0,.int .i64 hid,.int .i64 htx,.string hbody] 86 (0,0)):=(by with_reducible exact HZP.out)
       have hz3:(w4.alloc (.cells #[.int .i64 K,.int .i64 q.page,.int .i64 tx,.string nd'.body,.int .i64 hk0,.int .i64 hid,.int .i64 htx,.string hbody] 86)).heap[w.heap.size+3]?=some (.cells #[.int .i64 0,.slice none 0 0,.slice none 0 0,.slice none 0 0,.int .i64 0,.bool false] 127 (0,0)):=(by with_reducible exact HZ3.out)
       obtain⟨hr,hg⟩:=hfin (w4.alloc (.cells #[.int .i64 K,.int .i64 q.page,.int .i64 tx,.string nd'.body,.int .i64 hk0,.int .i64 hid,.int .i64 htx,.string hbody] 86)) w4.heap.size (grow HY2.out _) HY2.out.size hzp (HY1.out.keep (FrT.of (below_new _ _))) hz3
       refine bodyPost_ret (group_result2 rfl _ _ (w.heap.size+1+1+1) _ rfl hr rfl) rfl ⟨_,_,_,rfl,?_⟩
       rw[HK2.out]
       exact hg)
    | (have hzp:w4.heap[W3.heap.size]?=some (.cells #[.int .i64 K,.int .i64 q.page,.int .i64 tx,.string nd'.body,.int .i64 hk0,.int .i64 hid,.int .i64 htx,.string hbody] 86 (0,0)):=(by with_reducible exact HZP.out)
       have hz3:w4.heap[w.heap.size+3]?=some (.cells #[.int .i64 0,.slice none 0 0,.slice none 0 0,.slice none 0 0,.int .i64 0,.bool false] 127 (0,0)):=(by with_reducible exact HZ3.out)
       obtain⟨hr,hg⟩:=hfin w4 W3.heap.size HY2.out (Nat.le_refl _) hzp HY1.out hz3
       refine bodyPost_ret (group_result2 rfl _ _ (w.heap.size+1+1+1) _ rfl hr rfl) rfl ⟨_,_,_,rfl,?_⟩
       rw[HK2.out]
       exact hg)
end Go.Proofs.YtjepgclnbbpnaaaGreat.P12
