/-
  Texts of the proofs of SaidOrd12.
-/
import Derived.Test.YtjepgclnbbpnaaaGreatMs09
import Derived.Lib.AppendZerosOnto
set_option linter.unusedVariables false
set_option linter.unusedSimpArgs false
set_option maxHeartbeats 8000000
set_option maxRecDepth 100000
namespace Go.Proofs.YtjepgclnbbpnaaaGreat.P9
open PK (qqA qqB qqC qqD qqE qqF tk tkS dOne qh)
open Go Go.RowKit Go.Lib PK
theorem grow0_any(w:World):Calls Tryz.prog 90 #[.slice none 0 0,.int .i64 0] w fun e w'=>e=.returned (.slice none 0 0)∧w=w':=by
 go_enter Tryz.func90,Tryz.ntmps90
 go_wp2
 go_ret
 exact⟨rfl,rfl⟩
theorem growI_any(w:World)(n:Nat)(hn:n≤1000000) :
  Calls Tryz.prog 90 #[.slice none 0 0,.int .i64 n] w fun e w'=>∃ v,e=.returned v∧w'.ownsRow w.heap.size 29 3 v 0 []∧Below w.heap.size w w':=by
 by_cases h0:n=0
 ·subst h0
  refine (grow0_any w).mono ?_
  rintro e w' ⟨rfl,rfl⟩
  exact⟨_,rfl,World.ownsRow_nil _ _ _ _,Below.refl _ _⟩
 ·obtain⟨i0,hi0,hz0,hzs,hzb⟩:=info_parts infoEItems
  obtain⟨G,hG⟩:∃ G,G=grownCap w n 0 29:=⟨_,rfl⟩
  obtain⟨z0,hz9⟩:∃ z,z=Value.agg #[.string ⟨#[]⟩,.string ⟨#[]⟩,.int .i64 0]:=⟨_,rfl⟩
  have hzc:z0.cells.size=3:=by rw[hz9];exact rfl
  rw[← hz9] at hz0
  obtain⟨ROW,hROW⟩:∃ ROW:Array Value,ROW=([]:List Value).toArray++Builtin.zeroCells z0.cells n++Builtin.zeroCells z0.cells (G - n):=⟨_,rfl⟩
  have hrz:∀ ty,(Builtin.append_ #[27,3] ty #[.slice none 0 0,.int .i64 (n:Int)]).run Tryz.prog w =
    .ok (.slice (some ⟨w.heap.size,0,none⟩) n G) (w.drew.alloc (.cells ROW 29)):=fun ty=>by
   have h:=Lib.run_append_grow_zeros w 27 3 ty 29 i0 _ .i64 .i64 Tryz.underlying27 Tryz.underlying3 hi0 hz0 none 0 0 [] (run_firstCells_none w.drew i0.size 0 0 0) n (by omega) (by omega) (by omega) (by omega) (by rw[hzb];omega) (by rw[hzb];exact growslice_fits (by omega) (by omega))
   rw[Nat.zero_add,← hG,← hROW] at h
   exact h
  have hGn:n≤G:=by rw[hG];exact grownCap_ge w _ _ _
  have hG63:G≤maxLen:=by rw[hG];exact grownCap_le_maxLen w n 0 29 (by unfold maxLen;omega)
  have hRl:ROW.size=G*3:=by
   rw[hROW]
   simp only[Array.size_append,List.size_toArray,size_zeroCells,hzc,List.length_nil]
   omega
  have hO:(w.drew.alloc (.cells ROW 29)).ownsRow w.heap.size 29 3 (.slice (some ⟨w.heap.size,0,none⟩) 0 G) 0 []:=⟨rfl,.inr ⟨w.heap.size,G,ROW,rfl,Nat.le_refl _,new_at w.drew _ _,Nat.zero_le _,hG63,hRl,by simp⟩⟩
  have HO:=qh hO
  have HB:Hid (Below w.heap.size w (w.drew.alloc (.cells ROW 29))):=(Below.refl _ w).drew.alloc (Nat.le_refl _) _
  have k1:decide ((n:Int) < 0)=false:=decide_eq_false (by omega)
  have k2:decide ((0:Int) < (n:Int))=true:=decide_eq_true (by omega)
  have k3:decide (0 < n)=true:=decide_eq_true (by omega)
  have k4:(0:Int)≤(G:Int):=by omega
  clear hROW hG hRl hO hG63 hi0 hz0 hzs hzb hz9 hzc
  go_enter Tryz.func90,Tryz.ntmps90
  go_wp2_with (at_builtin;refine Lib.wpList_append_run _ rfl _ _ _ _ rfl _ _ rfl rfl _ _ (hrz _) ?_)
  go_ret
  exact⟨_,rfl,HO.out,HB.out⟩
theorem ItsIn.news{w:World}{a:Option Addr}{n c:Nat}{l:List It}(h:ItsIn w (.slice a n c) l):(∀ A,a=some A→∀ (j:Nat) (u:Value),(cellsI l).flatten[j]?=some u→w.cell? (A.add j)=some u)∧(a=none→l.length=0∧c=0):=by
 refine⟨fun A hA j u hu=>?_,fun hn=>?_⟩
 ·subst hA
  obtain rfl:n=l.length:=by
   obtain⟨_,_,e⟩:=h.slice
   simp only[Value.slice.injEq] at e
   exact e.2.1
  have h':ElemsIn kItems w (.slice (some A) (cellsI l).length c) (cellsI l):=by rw[cellsI_length];exact h
  exact h'.flat rfl hu
 ·obtain⟨a',c',e,h1,h2,_,h3⟩:=h
  simp only[Value.slice.injEq] at e
  obtain⟨rfl,_,rfl⟩:=e
  refine⟨?_,h1 hn⟩
  rw[cellsI_length] at h3
  refine Nat.eq_zero_of_not_pos fun h0=>?_
  obtain⟨g,off,e2,_⟩:=h3 h0
  rw[hn] at e2
  cases e2
theorem cellsI_flat(l:List It):(cellsI l).flatten.length=l.length*3:=by rw[(cellsI_ok l).flat,cellsI_length];rfl
theorem cellsI_app(l m:List It):(cellsI (l++m)).flatten=(cellsI l).flatten++(cellsI m).flatten:=by simp[cellsI]
theorem cellsI_one(l:List It):∀ u∈(cellsI l).flatten,u.oneCell'=true:=(cellsI_ok l).one
theorem concat_any(w:World)(X m cap:Nat)(vs:List Value)(Ls:List (List It))(hX:X < w.heap.size)(hm:m≤10)(hv:vs.length=m)(hl:Ls.length=m)
  (hc:∀ (i:Nat) (u:Value),vs[i]?=some u→w.cell? ⟨X,i,none⟩=some u) (hI:∀ (i:Nat) (u:Value) (L:List It),vs[i]?=some u→Ls[i]?=some L→ItsIn w u L) (hs:Ls.flatten.length≤1000000) :
  Calls Tryz.prog 70 #[.slice (some ⟨X,0,none⟩) m cap] w fun e w'=>∃ v,e=.returned v∧OwnI w.heap.size w' v Ls.flatten∧Below w.heap.size w w':=by
 obtain⟨i0,hi0,hz0,hz1,hz2⟩:=info_parts infoEItems
 have HE:Hid (∀ i,i < m→∃ a n c L,vs[i]?=some (.slice a n c)∧Ls[i]?=some L∧n=L.length∧(∀ W,Below w.heap.size w W→W.cell? ⟨X,i,none⟩=some (.slice a n c))∧∀ W,Below w.heap.size w W→ItsIn W (.slice a n c) L):=fun i hi=>by
  have h1:vs[i]?=some vs[i]:=List.getElem?_eq_getElem (by omega)
  have h2:Ls[i]?=some Ls[i]:=List.getElem?_eq_getElem (by omega)
  have h3:=hI i _ _ h1 h2
  obtain⟨a,c,h4⟩:=h3.slice
  rw[h4] at h1 h3
  exact⟨a,Ls[i].length,c,Ls[i],h1,h2,rfl,fun W hW=>(hW.cell (p:=⟨X,i,none⟩) hX).trans (hc i _ h1),fun W hW=>h3.below hW⟩
 have HG:=qh (fun W n hn=>growI_any W n hn)
 have hpre:∀ i,(Ls.take i).flatten.length≤1000000:=fun i=>by
  refine Nat.le_trans ?_ hs
  conv=>rhs;rw[← List.take_append_drop i Ls,List.flatten_append,List.length_append]
  omega
 have HPr:=qh hpre
 have htk:∀ (i:Nat) (L:List It),Ls[i]?=some L→(Ls.take (i+1)).flatten=(Ls.take i).flatten++L:=fun i L h=>by rw[List.take_add_one,h];simp
 have HTk:=qh htk
 have HAll:Hid ((Ls.take m).flatten=Ls.flatten):=by rw[← hl];show (Ls.take Ls.length).flatten=_;rw[List.take_length]
 have HSz:=qh hs
 clear hc hI hs hv hl hpre htk
 go_enter Tryz.func70,Tryz.ntmps70
 go_wp2
 go_loop [3,11] (fun vn vi=>∃ i n:Nat,i≤m∧vi=.int .i64 i∧vn=.int .i64 n∧Hid (n=(Ls.take i).flatten.length)∧n≤1000000) (fun _ vi=>m - (RowKit.intOf vi).toNat)
 case atStart=>exact⟨0,0,Nat.zero_le _,rfl,rfl,(by simp:0=(Ls.take 0).flatten.length),Nat.zero_le _⟩
 case round=>
  obtain⟨i,n,hi,rfl,rfl,HN,hn⟩:=hrel
  by_cases hlt:i < m
  ·obtain⟨a,k,c,L,-,hL,hk,hcell,-⟩:=HE.out i hlt
   have c0:=hcell w (Below.refl _ _)
   have k1:decide ((i:Int) < (m:Int))=true:=decide_eq_true (by omega)
   have k1':decide (i < m)=true:=decide_eq_true hlt
   have k2:(i:Int) < (m:Int):=by omega
   have k3:(0:Int)≤(i:Int):=by omega
   have HN2:Hid (n+k=(Ls.take (i+1)).flatten.length):=by
    show n+k=_
    rw[HTk.out i L hL,List.length_append,HN.out,hk]
   have hb:n+k≤1000000:=by rw[HN2.out];exact HPr.out _
   have k4:decide ((n:Int)+(k:Int) < 0)=false:=decide_eq_false (by omega)
   have k4':decide (((n+k:Nat):Int) < 0)=false:=decide_eq_false (by omega)
   clear hcell hL hk
   go_wp2
   go_round
   case rel=>exact⟨i+1,n+k,by omega,by go_num,by go_num,HN2,hb⟩
   case measure=>simp[RowKit.intOf];omega
  ·have e:i=m:=by omega
   subst e
   have k1:decide ((i:Int) < (i:Int))=false:=decide_eq_false (by omega)
   have k1':decide (i < i)=false:=decide_eq_false (by omega)
   clear hlt hi
   go_wp2_with (go_at_call 90;(with_reducible refine (HG.out _ n hn).mono ?_);rintro e w1 ⟨v1,rfl,h1,hb⟩;have HO1:=qh h1;have HB1:=qh hb;clear h1 hb)
   go_loopw [6,27] (fun vs vi wr=>∃ j p:Nat,j≤i∧vi=.int .i64 j∧Hid (p=(Ls.take j).flatten.length)∧p≤1000000∧Hid (wr.ownsRow w.heap.size 29 3 vs p (cellsI (Ls.take j).flatten).flatten)∧Hid (Below w.heap.size w wr)) (fun _ vi _=>i - (RowKit.intOf vi).toNat)
   case atStart=>exact⟨0,0,Nat.zero_le _,rfl,(by simp:0=(Ls.take 0).flatten.length),Nat.zero_le _,HO1,HB1⟩
   case round=>
    clear HO1 HB1
    obtain⟨j,p,hj,rfl,HP,hp,HO,HB⟩:=hrel
    by_cases hlt:j < i
    ·obtain⟨a,k,c,L,-,hL,hk,hcell,hin⟩:=HE.out j hlt
     have c0:=hcell wr HB.out
     have HIn:=hin wr HB.out
     have HNw:=qh HIn.news
     have j1:decide ((j:Int) < (i:Int))=true:=decide_eq_true (by omega)
     have j1':decide (j < i)=true:=decide_eq_true hlt
     have j2:(j:Int) < (i:Int):=by omega
     have j3:(0:Int)≤(j:Int):=by omega
     have HN2:Hid (p+k=(Ls.take (j+1)).flatten.length):=by
      show p+k=_
      rw[HTk.out j L hL,List.length_append,HP.out,hk]
     have hb:p+k≤1000000:=by rw[HN2.out];exact HPr.out _
     have HKl:Hid (k=L.length):=hk
     have HTj:=qh (HTk.out j L hL)
     clear hcell hL hk hin HIn
     obtain⟨va,vn,vc,rfl⟩:=owns_shape HO.out
     go_wp2_with (at_builtin;refine wpList_app rfl _ _ 27 rfl w.heap.size 29 i0 (Value.agg #[.string ⟨#[]⟩,.string ⟨#[]⟩,.int .i64 0]) 3 40 Tryz.underlying27 hi0 hz0 hz1 hz2 rfl (by decide) (.slice va vn vc) p (cellsI (Ls.take j).flatten).flatten rfl HO.out a k c (cellsI L).flatten rfl (by rw[cellsI_flat,HKl.out]) HNw.out.1 (fun q=>⟨HKl.out.trans (HNw.out.2 q).1,(HNw.out.2 q).2⟩) (cellsI_one L) (by unfold maxLen;omega) (by omega) HB.out.size ?_;intro p2 q2 w2 hown hgrow hat;have HB2:Hid (Below w.heap.size w w2):=HB.out.grown hgrow HB.out.size (fun g hg=>(owned_at HO.out hg).1);have HO2:=qh hown;clear hown hgrow hat)
     go_roundw
     case rel=>exact⟨j+1,p+k,by omega,by go_num,HN2,hb,by rw[HTj.out,cellsI_app];exact HO2,HB2⟩
     case measure=>simp[RowKit.intOf];omega
    ·have e:j=i:=by omega
     subst e
     have j1:decide ((j:Int) < (j:Int))=false:=decide_eq_false (by omega)
     have j1':decide (j < j)=false:=decide_eq_false (by omega)
     clear hlt hj
     go_wp2
     go_ret
     refine⟨_,rfl,⟨?_,HSz.out⟩,HB.out⟩
     have h1:=HO.out
     rw[HAll.out] at h1
     rw[show Ls.flatten.length=p from by rw[HP.out,HAll.out]]
     exact h1
theorem cloneI_any(w:World)(v:Value)(l:List It)(h:ItsIn w v l)(hl:l.length≤1000000) :
  Calls Tryz.prog 71 #[v] w fun e w'=>∃ v',e=.returned v'∧OwnI w.heap.size w' v' l∧Below w.heap.size w w':=by
 obtain⟨i0,hi0,hz0,hz1,hz2⟩:=info_parts infoEItems
 obtain⟨z0,hz9⟩:∃ z,z=Value.agg #[.string ⟨#[]⟩,.string ⟨#[]⟩,.int .i64 0]:=⟨_,rfl⟩
 rw[← hz9] at hz0
 have hzc:z0.cells.size=3:=by rw[hz9];exact rfl
 clear hz9
 have q66:∀ (w:World) (a:Option Addr) (n c n' c':Nat),(binOp .eql 27 (.slice a n c) (.slice none n' c')).run Tryz.prog w=.ok (.bool a.isNone) w:=fun w a n c n' c'=>Lib.run_eql_slice_nil w _ _ a n c n' c' Tryz.underlying27
 obtain⟨a,c,rfl⟩:=h.slice
 have hnw:=(h.below (below_new w (.cells #[] 29))).news
 cases a with
 | none=>
  obtain⟨h0,rfl⟩:=hnw.2 rfl
  obtain rfl:=List.eq_nil_of_length_eq_zero h0
  clear h hnw h0
  go_enter Tryz.func71,Tryz.ntmps71
  go_wp2
  go_ret
  exact⟨_,rfl,OwnI.nil _ _,Below.refl _ _⟩
 | some A=>
  have HC:=qh (hnw.1 A rfl)
  have HO:Hid ((w.alloc (.cells #[] 29)).ownsRow w.heap.size 29 3 (.slice (some ⟨w.heap.size,0,none⟩) 0 0) 0 []):=⟨rfl,.inr ⟨w.heap.size,0,#[],rfl,Nat.le_refl _,new_at w #[] _,Nat.le_refl _,by unfold maxLen;omega,rfl,rfl⟩⟩
  have HL:=qh (cellsI_flat l)
  have HO1:=qh (cellsI_one l)
  obtain⟨N,hN⟩:∃ N,N=l.length:=⟨_,rfl⟩
  have HN:=qh hN
  rw[← hN] at hl ⊢
  have HLl:=qh hl
  clear h hN hnw
  go_enter Tryz.func71,Tryz.ntmps71
  go_wp2_with (at_builtin;refine wpList_append_own _ rfl _ _ 27 rfl w.heap.size 29 i0 z0 3 40 Tryz.underlying27 hi0 hz0 hz1 hz2 hzc (by decide) _ 0 [] rfl HO.out A N c (cellsI l).flatten rfl (by rw[HL.out,HN.out]) HC.out HO1.out (by unfold maxLen;omega) (by omega) (by simp) ?_;intro v' w2 hown' hgrow _)
  have H1:=qh hown'
  have H2:=qh (show Below w.heap.size w w2 from (below_new w _).grown hgrow (by simp) (fun z hz=>by cases hz;exact Nat.le_refl _))
  clear hown' hgrow
  go_wp2
  go_ret
  refine⟨_,rfl,⟨?_,by rw[← HN.out];exact HLl.out⟩,H2.out⟩
  have h9:=H1.out
  rw[Nat.zero_add,List.nil_append,HN.out] at h9
  exact h9
end Go.Proofs.YtjepgclnbbpnaaaGreat.P9
namespace Go.Proofs.YtjepgclnbbpnaaaGreat.P9
open Go Go.RowKit Go.Lib PK
theorem ItsIn.take{w:World}{a:Option Addr}{c:Nat}{l:List It}(h:ItsIn w (.slice a l.length c) l){n:Nat}(hn:n≤l.length):ItsIn w (.slice a n c) (l.take n):=by
 obtain⟨a',c',e,h1,h2,h3,h4⟩:=h
 simp only[Value.slice.injEq] at e
 obtain⟨rfl,_,rfl⟩:=e
 rw[cellsI_length] at h2 h4
 have hl:(l.take n).length=n:=by rw[List.length_take];omega
 refine⟨a,c,by rw[cellsI_length,hl],h1,by rw[cellsI_length,hl];omega,cellsI_ok _,fun h0=>?_⟩
 rw[cellsI_length,hl] at h0
 obtain⟨b,off,h5,h6,h7⟩:=h4 (by omega)
 refine⟨b,off,h5,h6,fun i x hi j u hu=>h7 i x ?_ j u hu⟩
 unfold cellsI at hi ⊢
 rw[List.map_take,List.getElem?_take] at hi
 split at hi
 ·exact hi
 ·cases hi
theorem ItsIn.drop{w:World}{b off c:Nat}{l:List It}(h:ItsIn w (.slice (some ⟨b,off,none⟩) l.length c) l){n:Nat}(hn:n≤l.length)(c':Nat):ItsIn w (.slice (some ⟨b,off+n*3,none⟩) (l.length - n) c') (l.drop n):=by
 obtain⟨a',c',e,h1,h2,h3,h4⟩:=h
 simp only[Value.slice.injEq] at e
 obtain⟨rfl,_,rfl⟩:=e
 rw[cellsI_length] at h2 h4
 have hl:(l.drop n).length=l.length - n:=by rw[List.length_drop]
 refine⟨_,_,by rw[cellsI_length,hl],(fun q=>by cases q),by rw[cellsI_length,hl];omega,cellsI_ok _,fun h0=>?_⟩
 rw[cellsI_length,hl] at h0
 obtain⟨b',off',h5,h6,h7⟩:=h4 (by omega)
 simp only[Option.some.injEq,Addr.mk.injEq,and_true] at h5
 obtain⟨rfl,rfl⟩:=h5
 refine⟨b,off+n*3,rfl,h6,fun i x hi j u hu=>?_⟩
 have:=h7 (n+i) x (by
  unfold cellsI at hi ⊢
  rw[List.map_drop,List.getElem?_drop] at hi
  exact hi) j u hu
 rwa[show off+((n+i)*kItems.n+j)=off+n*3+(i*kItems.n+j) by show off+((n+i)*3+j)=off+n*3+(i*3+j);omega] at this
end Go.Proofs.YtjepgclnbbpnaaaGreat.P9
