/-
  Texts of the proofs of SaidOrd12.
-/
import Derived.Test.YtjepgclnbbpnaaaGreatMs12
import Derived.Test.YtjepgclnbbpnaaaGreatMs09
import Derived.Lib.AppendZerosOnto
set_option linter.unusedVariables false
set_option linter.unusedSimpArgs false
set_option maxHeartbeats 8000000
set_option maxRecDepth 100000
namespace Go.Proofs.YtjepgclnbbpnaaaGreat.P10
open Go Go.RowKit Go.Lib PK
open P0 (low str str_size low_length size_app text_ext text_app str_list str_eq text_len)
open PP (getNum getTxt getStr getFin getNum_low getTxt_of num_lt)
def stepP(s:ByteArray×Int×List It):ByteArray×Int×List It:=
 let k:=getNum 2 s.1 s.2.1
 let y:=getTxt k.2.1 k.2.2
 (y.2.1,y.2.2,s.2.2++[⟨y.1,k.1⟩])
def runP(s:ByteArray×Int×List It):Nat→ByteArray×Int×List It
 | 0=>s
 | j+1=>stepP (runP s j)
theorem runP_shift(s:ByteArray×Int×List It):∀ j,runP (stepP s) j=runP s (j+1)
 | 0=>rfl
 | j+1=>congrArg stepP (runP_shift s j)
theorem runP_len(s:ByteArray×Int×List It):∀ j,(runP s j).2.2.length=s.2.2.length+j
 | 0=>rfl
 | j+1=>by
  show ((runP s j).2.2++[_]).length=_
  rw[List.length_append,runP_len s j]
  rfl
theorem getStr_left{n:Int}{B:ByteArray}{e:Int}(h:(getStr n B e).2.2=0):e=0∧(getStr n B e).1.size+(getStr n B e).2.1.size=B.size∧(getStr n B e).1.size=n.toNat:=by
 unfold PP.getStr at h ⊢
 by_cases he:e=0
 ·rw[if_pos he] at h ⊢
  by_cases hn:n < 0
  ·rw[if_pos hn] at h;cases h
  ·rw[if_neg hn] at h ⊢
   by_cases hk:n≤B.size
   ·rw[if_pos hk]
    refine⟨he,?_,?_⟩
    ·simp only[ByteArray.size_extract];omega
    ·simp only[ByteArray.size_extract];omega
   ·rw[if_neg hk] at h;cases h
 ·rw[if_neg he] at h
  exact absurd h he
theorem getNum_left{n:Nat}{B:ByteArray}{e:Int}(h:(getNum n B e).2.2=0):e=0∧n+(getNum n B e).2.1.size=B.size:=by
 unfold PP.getNum at h ⊢
 by_cases he:e=0
 ·rw[if_pos he] at h ⊢
  by_cases hk:n≤B.size
  ·rw[if_pos hk]
   refine⟨he,?_⟩
   simp only[ByteArray.size_extract];omega
  ·rw[if_neg hk] at h;cases h
 ·rw[if_neg he] at h
  exact absurd h he
theorem getTxt_left{B:ByteArray}{e:Int}(h:(getTxt B e).2.2=0):e=0∧2+(getTxt B e).1.size+(getTxt B e).2.1.size=B.size:=by
 obtain⟨h1,h2,h3⟩:=getStr_left (n:=(getNum 2 B e).1) h
 obtain⟨h4,h5⟩:=getNum_left h1
 refine⟨h4,?_⟩
 have e1:(getTxt B e).1=(getStr (getNum 2 B e).1 (getNum 2 B e).2.1 (getNum 2 B e).2.2).1:=rfl
 have e2:(getTxt B e).2.1=(getStr (getNum 2 B e).1 (getNum 2 B e).2.1 (getNum 2 B e).2.2).2.1:=rfl
 rw[e1,e2]
 omega
theorem stepP_left{s:ByteArray×Int×List It}(h:(stepP s).2.1=0):s.2.1=0∧sumI (stepP s).2.2+(stepP s).1.size=sumI s.2.2+s.1.size:=by
 obtain⟨h3,h4⟩:=getTxt_left (show (getTxt (getNum 2 s.1 s.2.1).2.1 (getNum 2 s.1 s.2.1).2.2).2.2=0 from h)
 obtain⟨h5,h6⟩:=getNum_left h3
 refine⟨h5,?_⟩
 unfold stepP
 simp only[sumI_app,sumI_cons,sumI_nil,It.need]
 omega
theorem runP_left{s:ByteArray×Int×List It}:∀ {j:Nat},(runP s j).2.1=0→s.2.1=0∧sumI (runP s j).2.2+(runP s j).1.size=sumI s.2.2+s.1.size
 | 0,h=>⟨h,rfl⟩
 | j+1,h=>by
  obtain⟨h1,h2⟩:=stepP_left h
  obtain⟨h3,h4⟩:=runP_left h1
  exact⟨h3,by rw[← h4];exact h2⟩
def allP(b:ByteArray):ByteArray×Int×List It:=runP ((getNum 1 b 0).2.1,(getNum 1 b 0).2.2,[]) (getNum 1 b 0).1.toNat
open Classical in
noncomputable def readP(b:ByteArray):List It×Int:=
 if getFin (allP b).1 (allP b).2.1=0 then (if (layR (allP b).2.2).2=0∧(layR (allP b).2.2).1=b then ((allP b).2.2,0) else ([],6)) else ([],getFin (allP b).1 (allP b).2.1)
theorem getFin_zero{s:ByteArray}{e:Int}(h:getFin s e=0):s.size=0∧e=0:=by
 unfold PP.getFin at h
 by_cases hs:0 < s.size
 ·rw[if_pos hs] at h;cases h
 ·rw[if_neg hs] at h;exact⟨by omega,h⟩
theorem allP_sum{b:ByteArray}(h:getFin (allP b).1 (allP b).2.1=0):sumI (allP b).2.2≤b.size:=by
 obtain⟨h2,h3⟩:=runP_left (s:=((getNum 1 b 0).2.1,(getNum 1 b 0).2.2,[])) (j:=(getNum 1 b 0).1.toNat) (getFin_zero h).2
 obtain⟨_,h5⟩:=getNum_left h2
 have e1:(allP b).2.2=(runP ((getNum 1 b 0).2.1,(getNum 1 b 0).2.2,[]) (getNum 1 b 0).1.toNat).2.2:=rfl
 rw[e1]
 simp only[sumI_nil] at h3
 omega
theorem gnum1_range(s:ByteArray)(e:Int):0≤(getNum 1 s e).1∧(getNum 1 s e).1≤255:=by
 unfold PP.getNum
 by_cases he:e=0
 ·rw[if_pos he]
  by_cases hk:1≤s.size
  ·rw[if_pos hk]
   have h2:=num_lt (s.data.toList.take 1)
   have h3:256 ^ (s.data.toList.take 1).length≤256 ^ 1:=Nat.pow_le_pow_right (by omega) (by simp only[List.length_take];omega)
   have e2:=PP.wrap_small (PP.num (s.data.toList.take 1)) (by omega)
   simp only[e2]
   omega
  ·rw[if_neg hk];simp
 ·rw[if_neg he];simp
def bytesI(x:It):List UInt8:=low 2 x.page.toNat++(low 2 x.key.size++x.key.data.toList)
def tailB:List It→List UInt8
 | []=>[]
 | x::l=>bytesI x++tailB l
theorem layOn_tail(s:ByteArray)(l:List It):(layOn s l).data.toList=s.data.toList++tailB l:=by
 induction l generalizing s with
 | nil=>simp[layOn,tailB]
 | cons x l ih=>
  have e:layOn s (x::l)=layOn (s++str (low 2 x.page.toNat)++textB x.key) l:=rfl
  rw[e,ih,text_app,text_app,str_list,textB,text_app,str_list,tailB,bytesI]
  simp only[List.append_assoc]
theorem layI_str(l:List It):layI l=str (low 1 l.length++tailB l):=by
 apply text_ext
 rw[str_list,layI,layOn_tail,str_list]
theorem step_back{x:It}(hx:x.ok=true)(T:List UInt8)(acc:List It):stepP (str (bytesI x++T),0,acc)=(str T,0,acc++[x]):=by
 obtain⟨key,page⟩:=x
 unfold It.ok at hx
 obtain⟨o2,o3,o4⟩:=of_decide_eq_true hx
 simp only at o2 o3 o4
 obtain⟨kn,rfl⟩:=Int.eq_ofNat_of_zero_le (show 0≤page by omega)
 have e1:getNum 2 (str (bytesI ⟨key,kn⟩++T)) 0=((kn:Int),str (low 2 key.size++(key.data.toList++T)),0):=by
  have:=getNum_low 2 kn (low 2 key.size++(key.data.toList++T)) (by omega)
  rw[PP.wrap_small kn (by omega)] at this
  rw[← this]
  simp only[bytesI,List.append_assoc,Int.toNat_natCast]
 have e2:getTxt (str (low 2 key.size++(key.data.toList++T))) 0=(key,str T,0):=by
  have:=getTxt_of key.data.toList T (by rw[text_len];omega)
  rw[text_len,str_eq] at this
  exact this
 unfold stepP
 simp only[e1,e2]
theorem run_back:∀ (l:List It) (acc:List It) (T:List UInt8),(∀ x∈l,x.ok=true)→runP (str (tailB l++T),0,acc) l.length=(str T,0,acc++l)
 | [],acc,T,_=>by simp[runP,tailB]
 | x::l,acc,T,h=>by
  rw[List.length_cons,← runP_shift,tailB,List.append_assoc,step_back (h x List.mem_cons_self),run_back l _ T (fun y hy=>h y (List.mem_cons_of_mem _ hy)),List.append_assoc]
  rfl
theorem RightO.ok{l:List It}(h:RightO l){x:It}(hx:x∈l):x.ok=true:=by
 obtain⟨i,hi,rfl⟩:=List.mem_iff_getElem.1 hx
 exact h.1 i _ hi (List.getElem?_eq_getElem hi)
theorem read_back{l:List It}(hr:RightI l)(hs:1+sumI l≤232):readP (layI l)=(l,0):=by
 have hl:=sumI_len l
 have hn:getNum 1 (layI l) 0=((l.length:Int),str (tailB l),0):=by
  have:=getNum_low 1 l.length (tailB l) (by omega)
  rw[PP.wrap_small l.length (by omega)] at this
  rw[layI_str,this]
 have ha:allP (layI l)=(⟨#[]⟩,0,l):=by
  unfold allP
  rw[hn]
  have:=run_back l [] [] (fun x hx=>hr.1.ok hx)
  rw[List.append_nil] at this
  show runP (str (tailB l),0,[]) ((l.length:Int)).toNat=_
  rw[Int.toNat_natCast,this,List.nil_append]
  rfl
 have hL:layR l=(layI l,0):=by
  unfold layR
  rw[if_pos hr,if_pos hs]
 unfold readP
 rw[ha]
 have hf:getFin (⟨#[]⟩:ByteArray) 0=0:=rfl
 simp only[hf,hL]
 simp
end Go.Proofs.YtjepgclnbbpnaaaGreat.P10
namespace Go.Proofs.YtjepgclnbbpnaaaGreat.P10
open PK (qqA qqB qqC qqD qqE qqF tk tkS dOne qh)
open Go Go.RowKit Go.Lib PK
open P0 (low str str_size low_length size_app text_ext text_app str_list same_true same_false)
open PP (GetAt getNum getTxt getStr getFin Fr getFrom_any getByte_any getHalf_any getText_any getEnd_any)
theorem sClone_any(w:World)(s:ByteArray)(hs:s.size≤281474976710656):Calls Tryz.prog 118 #[.string s] w fun e w'=>e=.returned (.string s)∧Below w.heap.size w w':=by
 have H:=fun w':World=>qh (Tryz.stringslite_Clone s w' hs)
 go_enter Tryz.func118,Tryz.ntmps118
 go_wp2_with (go_at_call 140;refine (H _).out.mono ?_;rintro e w' ⟨rfl,hb⟩)
 go_ret
 exact⟨rfl,hb⟩
theorem owns_frP{G base n:Nat}{wr w':World}{v:Value}{xs:List Value}(h:wr.ownsRow base 106 2 v n xs)(hb:G < base)(hf:Fr G wr w'):w'.ownsRow base 106 2 v n xs:=by
 refine⟨h.1,h.2.imp id fun ⟨g,cap,cur,h1,h2,h3,h4⟩=>⟨g,cap,cur,h1,h2,hf.keeps g _ _ _ h3 (by decide) (by omega),h4⟩⟩
theorem getTxt_small(s:ByteArray)(e:Int):(getTxt s e).1.size≤65535:=by
 have hn:(getNum 2 s e).1≤65535:=by
  unfold PP.getNum
  by_cases he:e=0
  ·rw[if_pos he]
   by_cases hk:2≤s.size
   ·rw[if_pos hk]
    have h2:=PP.num_lt (s.data.toList.take 2)
    have h3:256 ^ (s.data.toList.take 2).length≤256 ^ 2:=Nat.pow_le_pow_right (by omega) (by simp only[List.length_take];omega)
    have e2:=PP.wrap_small (PP.num (s.data.toList.take 2)) (by omega)
    simp only[e2]
    omega
   ·rw[if_neg hk];simp
  ·rw[if_neg he];simp
 unfold PP.getTxt
 generalize getNum 2 s e=q at *
 obtain⟨n,B,f⟩:=q
 simp only at hn ⊢
 unfold PP.getStr
 have h0:(⟨#[]⟩:ByteArray).size=0:=rfl
 by_cases hf:f=0
 ·rw[if_pos hf]
  by_cases hm:n < 0
  ·rw[if_pos hm];simp only;omega
  ·rw[if_neg hm]
   by_cases hk:n≤B.size
   ·rw[if_pos hk]
    simp only[ByteArray.size_extract]
    omega
   ·rw[if_neg hk];simp only;omega
 ·rw[if_neg hf];simp only;omega
structure PdS (w:World) (G:Nat) (s:ByteArray) (e:Int) (v:Value) (l:List It) (wr:World):Prop where
 g:GetAt wr G s e
 row:wr.ownsRow (G+1) 106 2 v l.length (cellsI l).flatten
 lo:w.heap.size≤G
 below:Below w.heap.size w wr
theorem PdS.lt{w wr:World}{G:Nat}{s:ByteArray}{e:Int}{v:Value}{l:List It}(h:PdS w G s e v l wr):G < wr.heap.size:=lt_of_block h.g
theorem PdS.call{w wr w':World}{G:Nat}{s s':ByteArray}{e e':Int}{v:Value}{l:List It}(h:PdS w G s e v l wr)(hg:GetAt w' G s' e')(hf:Fr G wr w'):PdS w G s' e' v l w':=
 ⟨hg,owns_frP h.row (Nat.lt_succ_self _) hf,h.lo,h.below.trans (hf.below.mono h.lo)⟩
theorem PdS.over{w wr w':World}{G:Nat}{s:ByteArray}{e:Int}{v:Value}{l:List It}(h:PdS w G s e v l wr)(k:Below wr.heap.size wr w'):PdS w G s e v l w':=
 ⟨(k.block G h.lt).trans h.g,owns_below h.row k,h.lo,thenBelow h.below k⟩
theorem cellsI_snoc2(l:List It)(c:It):(cellsI (l++[c])).flatten=(cellsI l).flatten++[.string c.key,.int .i64 c.page]:=by
 simp[cellsI,It.cells]
theorem PdS.grown{w wr w':World}{G:Nat}{s:ByteArray}{e:Int}{v v':Value}{l:List It}(h:PdS w G s e v l wr)(c:It)(hown:w'.ownsRow (G+1) 106 2 v' (l.length+1) ((cellsI l).flatten++[.string c.key,.int .i64 c.page]))(hg:wr.grownBy w' v.ownBlock):PdS w G s e v' (l++[c]) w':=by
 refine⟨?_,?_,h.lo,h.below.grown hg h.below.size (fun k hk=>?_)⟩
 ·exact (hg.block G h.lt (fun e=>by have:=(h.row.lt G e.symm).1;omega)).trans h.g
 ·rw[cellsI_snoc2,List.length_append,List.length_singleton]
  exact hown
 ·have:=(h.row.lt k hk).1
  have:=h.lo
  omega
theorem read_any(w:World)(b:ByteArray)(hb:b.size≤100000) :
  Calls Tryz.prog 99 #[.string b] w fun e w'=>∃ v,e=.returned (.tuple #[v,.int .i64 (readP b).2])∧OwnI w.heap.size w' v (readP b).1∧Below w.heap.size w w':=by
 obtain⟨i0,hi0,hz0,hz1,hz2⟩:=info_parts infoEKids
 have HCl:=qh (fun W s h=>sClone_any W s h)
 have HF:=qh (fun W=>getFrom_any W b)
 have HN:=qh (fun W G s e (h:GetAt W G s e)=>getByte_any W G s e h)
 have HN2:=qh (fun W G s e (h:GetAt W G s e)=>getHalf_any W G s e h)
 have HT:=qh (fun W G s e (h:GetAt W G s e)=>getText_any W G s e h)
 have HE:=qh (fun W G s e (h:GetAt W G s e)=>getEnd_any W G s e h)
 obtain⟨n1,n2⟩:=gnum1_range b 0
 obtain⟨n,hn⟩:∃ n,n=(getNum 1 b 0).1.toNat:=⟨_,rfl⟩
 have hn1:(getNum 1 b 0).1=(n:Int):=by omega
 have hn2:n≤255:=by omega
 have HAl:Hid (allP b=runP ((getNum 1 b 0).2.1,(getNum 1 b 0).2.2,[]) n):=by rw[hn];rfl
 have HN0:=qh (fun W G (h:GetAt W G b 0)=>getByte_any W G b 0 h)
 rw[hn1] at HN0
 clear hn hn1 n1 n2
 go_enter Tryz.func99,Tryz.ntmps99
 go_wp2_with (first
  | (go_at_call 117;(with_reducible refine (HF.out _).mono ?_);rintro e w2 ⟨rfl,hg,hbl,-⟩;have HG2:=qh hg;have HB2:=qh hbl;clear hg hbl)
  | (go_at_call 119;(with_reducible refine (HN0.out _ _ HG2.out).mono ?_);rintro e w3 ⟨rfl,hg,hf⟩;have S0:=qh (⟨hg,World.ownsRow_nil _ _ _ _,Nat.le_refl _,HB2.out.trans hf.below⟩:PdS w w.heap.size (getNum 1 b 0).2.1 (getNum 1 b 0).2.2 (.slice none 0 0) [] w3);clear hg hf))
 obtain⟨G,hG⟩:∃ G,G=w.heap.size:=⟨_,rfl⟩
 rw[← hG] at S0 ⊢
 obtain⟨B0,hB0⟩:∃ B0,B0=(getNum 1 b 0).2.1:=⟨_,rfl⟩
 obtain⟨e0,he0⟩:∃ e0,e0=(getNum 1 b 0).2.2:=⟨_,rfl⟩
 rw[← hB0,← he0] at S0 HAl
 have HGl:Hid (w.heap.size=G):=hG.symm
 clear HN0 HB2 HG2 hB0 he0 hG
 go_loopw [5,13] (fun vl vi wr=>∃ i:Nat,i≤n∧vi=.int .i64 i∧Hid (PdS w G (runP (B0,e0,[]) i).1 (runP (B0,e0,[]) i).2.1 vl (runP (B0,e0,[]) i).2.2 wr)) (fun _ vi _=>n - (RowKit.intOf vi).toNat)
 case atStart=>exact⟨0,Nat.zero_le _,rfl,S0⟩
 case round=>
  clear S0
  obtain⟨i,hi,rfl,H⟩:=hrel
  have hLl:=runP_len (B0,e0,[]) i
  obtain⟨⟨s,e,L⟩,hS⟩:∃ s,s=runP (B0,e0,[]) i:=⟨_,rfl⟩
  rw[← hS] at H hLl
  simp only[List.length_nil,Nat.zero_add] at H hLl
  replace hLl:L.length≤i:=Nat.le_of_eq hLl
  have HS:=qh hS
  clear hS
  by_cases hlt:i < n
  ·have k1:decide ((i:Int) < (n:Int))=true:=decide_eq_true (by omega)
   have k1':decide (i < n)=true:=decide_eq_true hlt
   have HSt:Hid (runP (B0,e0,[]) (i+1)=stepP (s,e,L)):=by
    show stepP (runP (B0,e0,[]) i)=_
    rw[HS.out]
   have HNk:=qh (HN2.out _ _ _ _ H.out.g)
   obtain⟨⟨k,s1,e1⟩,hk⟩:∃ q,q=getNum 2 s e:=⟨_,rfl⟩
   rw[← hk] at HNk
   simp only at HNk
   obtain⟨⟨x,s2,e2⟩,hx⟩:∃ q,q=getTxt s1 e1:=⟨_,rfl⟩
   have HCx:Hid (∀ W,Calls Tryz.prog 118 #[.string x] W fun e w'=>e=.returned (.string x)∧Below W.heap.size W w'):=fun W=>HCl.out W x (by
    have:=getTxt_small s1 e1
    rw[← hx] at this
    simp only at this
    omega)
   have HFn:Hid (runP (B0,e0,[]) (i+1)=(s2,e2,L++[⟨x,k⟩])):=by
    show runP (B0,e0,[]) (i+1)=(s2,e2,L++[⟨x,k⟩])
    rw[HSt.out]
    unfold stepP
    simp only[← hk,← hx]
   have HT1:Hid (∀ W,GetAt W G s1 e1→Calls Tryz.prog 120 #[.pointer (some ⟨G,0,none⟩)] W fun r w'=>r=.returned (.string x)∧GetAt w' G s2 e2∧Fr G W w'):=fun W h=>by
    have:=HT.out W _ _ _ h
    rw[← hx] at this
    exact this
   clear hk hx HSt HT HN HN2 HE HCl
   have hLb:L.length≤255:=by omega
   obtain⟨va,vn,vc,rfl⟩:=owns_shape H.out.row
   go_wp2_with (first
    | (go_at_call 123;(with_reducible refine (HNk.out).mono ?_);rintro e w2 ⟨rfl,hg,hf⟩;have X1:=qh (H.out.call hg hf);clear hg hf)
    | (go_at_call 120;(with_reducible refine (HT1.out _ X1.out.g).mono ?_);rintro e w4 ⟨rfl,hg,hf⟩;have X3:=qh (X1.out.call hg hf);clear hg hf)
    | (go_at_call 118;(with_reducible refine (HCx.out _).mono ?_);rintro e w5 ⟨rfl,hb5⟩;have X5:=qh (X3.out.over hb5);clear hb5)
    | (at_builtin;refine wpList_append_own _ rfl _ _ 78 rfl (G+1) 106 i0 (Value.agg #[.string ⟨#[]⟩,.int .i64 0]) 2 24 Tryz.underlying78 hi0 hz0 hz1 hz2 rfl (by decide) _ L.length (cellsI L).flatten rfl (X5.out.row.alloc _) ⟨w5.heap.size,0,none⟩ 1 1 [.string x,.int .i64 k] rfl rfl ?c1 ?c2 ?c3 ?c4 ?c5 ?_))
   case c1=>simpa using cells_new w5 [.string x,.int .i64 k] 106
   case c2=>exact kKids.one _ ⟨_,_,rfl⟩
   case c3=>unfold maxLen;omega
   case c4=>omega
   case c5=>have:=X5.out.lt;simp;omega
   intro v' w6 hown' hgrow _
   have S5:=qh ((X5.out.over (below_new _ _)).grown ⟨x,k⟩ hown' hgrow)
   clear hown' hgrow
   go_wp2
   go_roundw
   case rel=>exact⟨i+1,by omega,by go_num,by rw[HFn.out];exact S5⟩
   case measure=>simp[RowKit.intOf];omega
  ·have e9:i=n:=by omega
   subst e9
   have k1:decide ((i:Int) < (i:Int))=false:=decide_eq_false (by omega)
   have HAn:Hid (allP b=(s,e,L)):=by
    show allP b=(s,e,L)
    rw[HAl.out,← HS.out]
   have hLb:L.length≤255:=by omega
   clear HS HAl HN HN2 HT HCl
   obtain⟨va,vn,vc,rfl⟩:=owns_shape H.out.row
   have HEn:=qh (HE.out _ _ _ _ H.out.g)
   have HOw:Hid (∀ W',Fr G wr W'→OwnI w.heap.size W' (.slice va vn vc) L):=fun W' hf=>⟨owns_lo (owns_frP H.out.row (Nat.lt_succ_self _) hf) (by have:=H.out.lo;omega),by omega⟩
   have HBl:Hid (∀ W',Fr G wr W'→Below w.heap.size w W'):=fun W' hf=>H.out.below.trans (hf.below.mono H.out.lo)
   clear HE
   by_cases hf0:getFin s e=0
   ·have hsum:sumI L≤1000000:=by
     have h9:=allP_sum (b:=b) (by rw[HAn.out];exact hf0)
     rw[HAn.out] at h9
     exact Nat.le_trans h9 (by omega)
    rw[hf0] at HEn
    have HLy:Hid (∀ W,ItsIn W (.slice va vn vc) L→Calls Tryz.prog 124 #[.slice va vn vc] W fun e w'=>e=.returned (.tuple #[.string (layR L).1,.int .i64 (layR L).2])∧Below W.heap.size W w'):=fun W h=>lay_any W _ L h hsum
    obtain⟨⟨S,f⟩,hly⟩:∃ s,s=layR L:=⟨_,rfl⟩
    have HRR:readP b=if f=0∧S=b then (L,0) else ([],6):=by
     unfold readP
     rw[HAn.out]
     simp only
     rw[if_pos hf0,← hly]
    rw[← hly] at HLy
    simp only at HLy
    clear hly hf0 hsum
    by_cases hf:f=0
    ·have m1:(f != 0)=false:=by simp[hf]
     by_cases hS:S=b
     ·have m2:(b.toList == S.toList)=true:=same_true hS.symm
      have HRd:=qh (HRR.trans (if_pos ⟨hf,hS⟩))
      clear hf hS HRR
      go_wp2_with (first
       | (go_at_call 121;(with_reducible refine (HEn.out).mono ?_);rintro e w6 ⟨rfl,hf6⟩;have I6:=qh (HOw.out _ hf6);have B6:=qh (HBl.out _ hf6);clear hf6)
       | (go_at_call 124;(with_reducible refine (HLy.out _ I6.out.its).mono ?_);rintro e w7 ⟨rfl,hb7⟩;have I7:=qh (I6.out.below hb7);have B7:=qh (thenBelow B6.out hb7);clear hb7))
      go_ret2
      exact⟨_,by rw[HRd.out];rfl,by rw[HRd.out];exact I7.out,B7.out⟩
     ·have m2:(b.toList == S.toList)=false:=same_false (fun q=>hS q.symm)
      have HRd:=qh (HRR.trans (if_neg (fun h=>hS h.2)))
      clear hf hS HRR
      go_wp2_with (first
       | (go_at_call 121;(with_reducible refine (HEn.out).mono ?_);rintro e w6 ⟨rfl,hf6⟩;have I6:=qh (HOw.out _ hf6);have B6:=qh (HBl.out _ hf6);clear hf6)
       | (go_at_call 124;(with_reducible refine (HLy.out _ I6.out.its).mono ?_);rintro e w7 ⟨rfl,hb7⟩;have B7:=qh (thenBelow B6.out hb7);clear hb7))
      go_ret2
      exact⟨_,by rw[HRd.out];rfl,by rw[HRd.out];exact OwnI.nil _ _,B7.out⟩
    ·have m1:(f != 0)=true:=by simpa using hf
     have HRd:=qh (HRR.trans (if_neg (fun h=>hf h.1)))
     clear hf HRR
     go_wp2_with (first
      | (go_at_call 121;(with_reducible refine (HEn.out).mono ?_);rintro e w6 ⟨rfl,hf6⟩;have I6:=qh (HOw.out _ hf6);have B6:=qh (HBl.out _ hf6);clear hf6)
      | (go_at_call 124;(with_reducible refine (HLy.out _ I6.out.its).mono ?_);rintro e w7 ⟨rfl,hb7⟩;have B7:=qh (thenBelow B6.out hb7);clear hb7))
     go_ret2
     exact⟨_,by rw[HRd.out];rfl,by rw[HRd.out];exact OwnI.nil _ _,B7.out⟩
   ·have HRR:readP b=([],getFin s e):=by
     unfold readP
     rw[HAn.out]
     simp only
     rw[if_neg hf0]
    have m1:(getFin s e != 0)=true:=by simpa using hf0
    obtain⟨F,hF⟩:∃ F,F=getFin s e:=⟨_,rfl⟩
    rw[← hF] at HEn m1 HRR
    have HRd:=qh HRR
    clear hF HRR hf0
    go_wp2_with (go_at_call 121;(with_reducible refine (HEn.out).mono ?_);rintro e w6 ⟨rfl,hf6⟩;have B6:=qh (HBl.out _ hf6);clear hf6)
    go_ret2
    exact⟨_,by rw[HRd.out];rfl,by rw[HRd.out];exact OwnI.nil _ _,B6.out⟩
end Go.Proofs.YtjepgclnbbpnaaaGreat.P10
namespace Go.Proofs.YtjepgclnbbpnaaaGreat.P10
open PK (qqA qqB qqC qqD qqE qqF tk tkS dOne qh)
open Go Go.RowKit Go.Lib PK
theorem grow0_any(w:World):Calls Tryz.prog 133 #[.slice none 0 0,.int .i64 0] w fun e w'=>e=.returned (.slice none 0 0)∧w=w':=by
 go_enter Tryz.func133,Tryz.ntmps133
 go_wp2
 go_ret
 exact⟨rfl,rfl⟩
theorem growI_any(w:World)(n:Nat)(hn:n≤1000000) :
  Calls Tryz.prog 133 #[.slice none 0 0,.int .i64 n] w fun e w'=>∃ v,e=.returned v∧w'.ownsRow w.heap.size 106 2 v 0 []∧Below w.heap.size w w':=by
 by_cases h0:n=0
 ·subst h0
  refine (grow0_any w).mono ?_
  rintro e w' ⟨rfl,rfl⟩
  exact⟨_,rfl,World.ownsRow_nil _ _ _ _,Below.refl _ _⟩
 ·obtain⟨i0,hi0,hz0,hzs,hzb⟩:=info_parts infoEKids
  obtain⟨G,hG⟩:∃ G,G=grownCap w n 0 106:=⟨_,rfl⟩
  obtain⟨z0,hz9⟩:∃ z,z=Value.agg #[.string ⟨#[]⟩,.int .i64 0]:=⟨_,rfl⟩
  have hzc:z0.cells.size=2:=by rw[hz9];exact rfl
  rw[← hz9] at hz0
  obtain⟨ROW,hROW⟩:∃ ROW:Array Value,ROW=([]:List Value).toArray++Builtin.zeroCells z0.cells n++Builtin.zeroCells z0.cells (G - n):=⟨_,rfl⟩
  have hrz:∀ ty,(Builtin.append_ #[78,3] ty #[.slice none 0 0,.int .i64 (n:Int)]).run Tryz.prog w =
    .ok (.slice (some ⟨w.heap.size,0,none⟩) n G) (w.drew.alloc (.cells ROW 106)):=fun ty=>by
   have h:=Lib.run_append_grow_zeros w 78 3 ty 106 i0 _ .i64 .i64 Tryz.underlying78 Tryz.underlying3 hi0 hz0 none 0 0 [] (run_firstCells_none w.drew i0.size 0 0 0) n (by omega) (by omega) (by omega) (by omega) (by rw[hzb];omega) (by rw[hzb];exact growslice_fits (by omega) (by omega))
   rw[Nat.zero_add,← hG,← hROW] at h
   exact h
  have hGn:n≤G:=by rw[hG];exact grownCap_ge w _ _ _
  have hG63:G≤maxLen:=by rw[hG];exact grownCap_le_maxLen w n 0 106 (by unfold maxLen;omega)
  have hRl:ROW.size=G*2:=by
   rw[hROW]
   simp only[Array.size_append,List.size_toArray,size_zeroCells,hzc,List.length_nil]
   omega
  have hO:(w.drew.alloc (.cells ROW 106)).ownsRow w.heap.size 106 2 (.slice (some ⟨w.heap.size,0,none⟩) 0 G) 0 []:=⟨rfl,.inr ⟨w.heap.size,G,ROW,rfl,Nat.le_refl _,new_at w.drew _ _,Nat.zero_le _,hG63,hRl,by simp⟩⟩
  have HO:=qh hO
  have HB:Hid (Below w.heap.size w (w.drew.alloc (.cells ROW 106))):=(Below.refl _ w).drew.alloc (Nat.le_refl _) _
  have k1:decide ((n:Int) < 0)=false:=decide_eq_false (by omega)
  have k2:decide ((0:Int) < (n:Int))=true:=decide_eq_true (by omega)
  have k3:decide (0 < n)=true:=decide_eq_true (by omega)
  have k4:(0:Int)≤(G:Int):=by omega
  clear hROW hG hRl hO hG63 hi0 hz0 hzs hzb hz9 hzc
  go_enter Tryz.func133,Tryz.ntmps133
  go_wp2_with (at_builtin;refine Lib.wpList_append_run _ rfl _ _ _ _ rfl _ _ rfl rfl _ _ (hrz _) ?_)
  go_ret
  exact⟨_,rfl,HO.out,HB.out⟩
theorem ItsIn.news{w:World}{a:Option Addr}{n c:Nat}{l:List It}(h:ItsIn w (.slice a n c) l):(∀ A,a=some A→∀ (j:Nat) (u:Value),(cellsI l).flatten[j]?=some u→w.cell? (A.add j)=some u)∧(a=none→l.length=0∧c=0):=by
 refine⟨fun A hA j u hu=>?_,fun hn=>?_⟩
 ·subst hA
  obtain rfl:n=l.length:=by
   obtain⟨_,_,e⟩:=h.slice
   simp only[Value.slice.injEq] at e
   exact e.2.1
  have h':ElemsIn kKids w (.slice (some A) (cellsI l).length c) (cellsI l):=by rw[cellsI_length];exact h
  exact h'.flat rfl hu
 ·obtain⟨a',c',e,h1,h2,_,h3⟩:=h
  simp only[Value.slice.injEq] at e
  obtain⟨rfl,_,rfl⟩:=e
  refine⟨?_,h1 hn⟩
  rw[cellsI_length] at h3
  refine Nat.eq_zero_of_not_pos fun h0=>?_
  obtain⟨g,off,e2,_⟩:=h3 h0
  rw[hn] at e2
  cases e2
theorem cellsI_flat(l:List It):(cellsI l).flatten.length=l.length*2:=by rw[(cellsI_ok l).flat,cellsI_length];rfl
theorem cellsI_app(l m:List It):(cellsI (l++m)).flatten=(cellsI l).flatten++(cellsI m).flatten:=by simp[cellsI]
theorem cellsI_one(l:List It):∀ u∈(cellsI l).flatten,u.oneCell'=true:=(cellsI_ok l).one
theorem concat_any(w:World)(X m cap:Nat)(vs:List Value)(Ls:List (List It))(hX:X < w.heap.size)(hm:m≤10)(hv:vs.length=m)(hl:Ls.length=m)
  (hc:∀ (i:Nat) (u:Value),vs[i]?=some u→w.cell? ⟨X,i,none⟩=some u) (hI:∀ (i:Nat) (u:Value) (L:List It),vs[i]?=some u→Ls[i]?=some L→ItsIn w u L) (hs:Ls.flatten.length≤1000000) :
  Calls Tryz.prog 104 #[.slice (some ⟨X,0,none⟩) m cap] w fun e w'=>∃ v,e=.returned v∧OwnI w.heap.size w' v Ls.flatten∧Below w.heap.size w w':=by
 obtain⟨i0,hi0,hz0,hz1,hz2⟩:=info_parts infoEKids
 have HE:Hid (∀ i,i < m→∃ a n c L,vs[i]?=some (.slice a n c)∧Ls[i]?=some L∧n=L.length∧(∀ W,Below w.heap.size w W→W.cell? ⟨X,i,none⟩=some (.slice a n c))∧∀ W,Below w.heap.size w W→ItsIn W (.slice a n c) L):=fun i hi=>by
  have h1:vs[i]?=some vs[i]:=List.getElem?_eq_getElem (by omega)
  have h2:Ls[i]?=some Ls[i]:=List.getElem?_eq_getElem (by omega)
  have h3:=hI i _ _ h1 h2
  obtain⟨a,c,h4⟩:=h3.slice
  rw[h4] at h1 h3
  exact⟨a,Ls[i].length,c,Ls[i],h1,h2,rfl,fun W hW=>(hW.cell (p:=⟨X,i,none⟩) hX).trans (hc i _ h1),fun W hW=>h3.below hW⟩
 have HG:=qh (fun W n hn=>growI_any W n hn)
 have hpre:∀ i,(Ls.take i).flatten.length≤1000000:=fun i=>by
  refine Nat.le_trans ?_ hs
  conv=>rhs;rw[← List.take_append_drop i Ls,List.flatten_append,List.length_append]
  omega
 have HPr:=qh hpre
 have htk:∀ (i:Nat) (L:List It),Ls[i]?=some L→(Ls.take (i+1)).flatten=(Ls.take i).flatten++L:=fun i L h=>by rw[List.take_add_one,h];simp
 have HTk:=qh htk
 have HAll:Hid ((Ls.take m).flatten=Ls.flatten):=by rw[← hl];show (Ls.take Ls.length).flatten=_;rw[List.take_length]
 have HSz:=qh hs
 clear hc hI hs hv hl hpre htk
 go_enter Tryz.func104,Tryz.ntmps104
 go_wp2
 go_loop [3,11] (fun vn vi=>∃ i n:Nat,i≤m∧vi=.int .i64 i∧vn=.int .i64 n∧Hid (n=(Ls.take i).flatten.length)∧n≤1000000) (fun _ vi=>m - (RowKit.intOf vi).toNat)
 case atStart=>exact⟨0,0,Nat.zero_le _,rfl,rfl,(by simp:0=(Ls.take 0).flatten.length),Nat.zero_le _⟩
 case round=>
  obtain⟨i,n,hi,rfl,rfl,HN,hn⟩:=hrel
  by_cases hlt:i < m
  ·obtain⟨a,k,c,L,-,hL,hk,hcell,-⟩:=HE.out i hlt
   have c0:=hcell w (Below.refl _ _)
   have k1:decide ((i:Int) < (m:Int))=true:=decide_eq_true (by omega)
   have k1':decide (i < m)=true:=decide_eq_true hlt
   have k2:(i:Int) < (m:Int):=by omega
   have k3:(0:Int)≤(i:Int):=by omega
   have HN2:Hid (n+k=(Ls.take (i+1)).flatten.length):=by
    show n+k=_
    rw[HTk.out i L hL,List.length_append,HN.out,hk]
   have hb:n+k≤1000000:=by rw[HN2.out];exact HPr.out _
   have k4:decide ((n:Int)+(k:Int) < 0)=false:=decide_eq_false (by omega)
   have k4':decide (((n+k:Nat):Int) < 0)=false:=decide_eq_false (by omega)
   clear hcell hL hk
   go_wp2
   go_round
   case rel=>exact⟨i+1,n+k,by omega,by go_num,by go_num,HN2,hb⟩
   case measure=>simp[RowKit.intOf];omega
  ·have e:i=m:=by omega
   subst e
   have k1:decide ((i:Int) < (i:Int))=false:=decide_eq_false (by omega)
   have k1':decide (i < i)=false:=decide_eq_false (by omega)
   clear hlt hi
   go_wp2_with (go_at_call 133;(with_reducible refine (HG.out _ n hn).mono ?_);rintro e w1 ⟨v1,rfl,h1,hb⟩;have HO1:=qh h1;have HB1:=qh hb;clear h1 hb)
   go_loopw [6,27] (fun vs vi wr=>∃ j p:Nat,j≤i∧vi=.int .i64 j∧Hid (p=(Ls.take j).flatten.length)∧p≤1000000∧Hid (wr.ownsRow w.heap.size 106 2 vs p (cellsI (Ls.take j).flatten).flatten)∧Hid (Below w.heap.size w wr)) (fun _ vi _=>i - (RowKit.intOf vi).toNat)
   case atStart=>exact⟨0,0,Nat.zero_le _,rfl,(by simp:0=(Ls.take 0).flatten.length),Nat.zero_le _,HO1,HB1⟩
   case round=>
    clear HO1 HB1
    obtain⟨j,p,hj,rfl,HP,hp,HO,HB⟩:=hrel
    by_cases hlt:j < i
    ·obtain⟨a,k,c,L,-,hL,hk,hcell,hin⟩:=HE.out j hlt
     have c0:=hcell wr HB.out
     have HIn:=hin wr HB.out
     have HNw:=qh HIn.news
     have j1:decide ((j:Int) < (i:Int))=true:=decide_eq_true (by omega)
     have j1':decide (j < i)=true:=decide_eq_true hlt
     have j2:(j:Int) < (i:Int):=by omega
     have j3:(0:Int)≤(j:Int):=by omega
     have HN2:Hid (p+k=(Ls.take (j+1)).flatten.length):=by
      show p+k=_
      rw[HTk.out j L hL,List.length_append,HP.out,hk]
     have hb:p+k≤1000000:=by rw[HN2.out];exact HPr.out _
     have HKl:Hid (k=L.length):=hk
     have HTj:=qh (HTk.out j L hL)
     clear hcell hL hk hin HIn
     obtain⟨va,vn,vc,rfl⟩:=owns_shape HO.out
     go_wp2_with (at_builtin;refine wpList_app rfl _ _ 78 rfl w.heap.size 106 i0 (Value.agg #[.string ⟨#[]⟩,.int .i64 0]) 2 24 Tryz.underlying78 hi0 hz0 hz1 hz2 rfl (by decide) (.slice va vn vc) p (cellsI (Ls.take j).flatten).flatten rfl HO.out a k c (cellsI L).flatten rfl (by rw[cellsI_flat,HKl.out]) HNw.out.1 (fun q=>⟨HKl.out.trans (HNw.out.2 q).1,(HNw.out.2 q).2⟩) (cellsI_one L) (by unfold maxLen;omega) (by omega) HB.out.size ?_;intro p2 q2 w2 hown hgrow hat;have HB2:Hid (Below w.heap.size w w2):=HB.out.grown hgrow HB.out.size (fun g hg=>(owned_at HO.out hg).1);have HO2:=qh hown;clear hown hgrow hat)
     go_roundw
     case rel=>exact⟨j+1,p+k,by omega,by go_num,HN2,hb,by rw[HTj.out,cellsI_app];exact HO2,HB2⟩
     case measure=>simp[RowKit.intOf];omega
    ·have e:j=i:=by omega
     subst e
     have j1:decide ((j:Int) < (j:Int))=false:=decide_eq_false (by omega)
     have j1':decide (j < j)=false:=decide_eq_false (by omega)
     clear hlt hj
     go_wp2
     go_ret
     refine⟨_,rfl,⟨?_,HSz.out⟩,HB.out⟩
     have h1:=HO.out
     rw[HAll.out] at h1
     rw[show Ls.flatten.length=p from by rw[HP.out,HAll.out]]
     exact h1
theorem cloneI_any(w:World)(v:Value)(l:List It)(h:ItsIn w v l)(hl:l.length≤1000000) :
  Calls Tryz.prog 83 #[v] w fun e w'=>∃ v',e=.returned v'∧OwnI w.heap.size w' v' l∧Below w.heap.size w w':=by
 obtain⟨i0,hi0,hz0,hz1,hz2⟩:=info_parts infoEKids
 obtain⟨z0,hz9⟩:∃ z,z=Value.agg #[.string ⟨#[]⟩,.int .i64 0]:=⟨_,rfl⟩
 rw[← hz9] at hz0
 have hzc:z0.cells.size=2:=by rw[hz9];exact rfl
 clear hz9
 have q66:∀ (w:World) (a:Option Addr) (n c n' c':Nat),(binOp .eql 78 (.slice a n c) (.slice none n' c')).run Tryz.prog w=.ok (.bool a.isNone) w:=fun w a n c n' c'=>Lib.run_eql_slice_nil w _ _ a n c n' c' Tryz.underlying78
 obtain⟨a,c,rfl⟩:=h.slice
 have hnw:=(h.below (below_new w (.cells #[] 106))).news
 cases a with
 | none=>
  obtain⟨h0,rfl⟩:=hnw.2 rfl
  obtain rfl:=List.eq_nil_of_length_eq_zero h0
  clear h hnw h0
  go_enter Tryz.func83,Tryz.ntmps83
  go_wp2
  go_ret
  exact⟨_,rfl,OwnI.nil _ _,Below.refl _ _⟩
 | some A=>
  have HC:=qh (hnw.1 A rfl)
  have HO:Hid ((w.alloc (.cells #[] 106)).ownsRow w.heap.size 106 2 (.slice (some ⟨w.heap.size,0,none⟩) 0 0) 0 []):=⟨rfl,.inr ⟨w.heap.size,0,#[],rfl,Nat.le_refl _,new_at w #[] _,Nat.le_refl _,by unfold maxLen;omega,rfl,rfl⟩⟩
  have HL:=qh (cellsI_flat l)
  have HO1:=qh (cellsI_one l)
  obtain⟨N,hN⟩:∃ N,N=l.length:=⟨_,rfl⟩
  have HN:=qh hN
  rw[← hN] at hl ⊢
  have HLl:=qh hl
  clear h hN hnw
  go_enter Tryz.func83,Tryz.ntmps83
  go_wp2_with (at_builtin;refine wpList_append_own _ rfl _ _ 78 rfl w.heap.size 106 i0 z0 2 24 Tryz.underlying78 hi0 hz0 hz1 hz2 hzc (by decide) _ 0 [] rfl HO.out A N c (cellsI l).flatten rfl (by rw[HL.out,HN.out]) HC.out HO1.out (by unfold maxLen;omega) (by omega) (by simp) ?_;intro v' w2 hown' hgrow _)
  have H1:=qh hown'
  have H2:=qh (show Below w.heap.size w w2 from (below_new w _).grown hgrow (by simp) (fun z hz=>by cases hz;exact Nat.le_refl _))
  clear hown' hgrow
  go_wp2
  go_ret
  refine⟨_,rfl,⟨?_,by rw[← HN.out];exact HLl.out⟩,H2.out⟩
  have h9:=H1.out
  rw[Nat.zero_add,List.nil_append,HN.out] at h9
  exact h9
end Go.Proofs.YtjepgclnbbpnaaaGreat.P10
