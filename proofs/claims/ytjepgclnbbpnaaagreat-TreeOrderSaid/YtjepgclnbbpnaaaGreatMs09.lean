/-
  Texts of the proofs of SaidOrd12.
-/
import Derived.Test.YtjepgclnbbpnaaaGreatMs08
set_option linter.unusedVariables false
set_option linter.unusedSimpArgs false
set_option maxHeartbeats 8000000
set_option maxRecDepth 100000
namespace Go.Proofs.YtjepgclnbbpnaaaGreat.P9
open Go Go.RowKit Go.Lib PK
open P0 (low str str_size low_length size_app text_ext text_app str_list str_eq text_len)
open PP (getNum getTxt getStr getFin getNum_low getTxt_of num_lt)
def stepP(s:ByteArray×Int×List It):ByteArray×Int×List It:=
 let k:=getNum 1 s.1 s.2.1
 let y:=getTxt k.2.1 k.2.2
 let z:=getTxt y.2.1 y.2.2
 (z.2.1,z.2.2,s.2.2++[⟨y.1,z.1,k.1⟩])
def runP(s:ByteArray×Int×List It):Nat→ByteArray×Int×List It
 | 0=>s
 | j+1=>stepP (runP s j)
theorem runP_shift(s:ByteArray×Int×List It):∀ j,runP (stepP s) j=runP s (j+1)
 | 0=>rfl
 | j+1=>congrArg stepP (runP_shift s j)
theorem runP_len(s:ByteArray×Int×List It):∀ j,(runP s j).2.2.length=s.2.2.length+j
 | 0=>rfl
 | j+1=>by
  show ((runP s j).2.2++[_]).length=_
  rw[List.length_append,runP_len s j]
  rfl
theorem getStr_left{n:Int}{B:ByteArray}{e:Int}(h:(getStr n B e).2.2=0):e=0∧(getStr n B e).1.size+(getStr n B e).2.1.size=B.size∧(getStr n B e).1.size=n.toNat:=by
 unfold PP.getStr at h ⊢
 by_cases he:e=0
 ·rw[if_pos he] at h ⊢
  by_cases hn:n < 0
  ·rw[if_pos hn] at h;cases h
  ·rw[if_neg hn] at h ⊢
   by_cases hk:n≤B.size
   ·rw[if_pos hk]
    refine⟨he,?_,?_⟩
    ·simp only[ByteArray.size_extract];omega
    ·simp only[ByteArray.size_extract];omega
   ·rw[if_neg hk] at h;cases h
 ·rw[if_neg he] at h
  exact absurd h he
theorem getNum_left{n:Nat}{B:ByteArray}{e:Int}(h:(getNum n B e).2.2=0):e=0∧n+(getNum n B e).2.1.size=B.size:=by
 unfold PP.getNum at h ⊢
 by_cases he:e=0
 ·rw[if_pos he] at h ⊢
  by_cases hk:n≤B.size
  ·rw[if_pos hk]
   refine⟨he,?_⟩
   simp only[ByteArray.size_extract];omega
  ·rw[if_neg hk] at h;cases h
 ·rw[if_neg he] at h
  exact absurd h he
theorem getTxt_left{B:ByteArray}{e:Int}(h:(getTxt B e).2.2=0):e=0∧2+(getTxt B e).1.size+(getTxt B e).2.1.size=B.size:=by
 obtain⟨h1,h2,h3⟩:=getStr_left (n:=(getNum 2 B e).1) h
 obtain⟨h4,h5⟩:=getNum_left h1
 refine⟨h4,?_⟩
 have e1:(getTxt B e).1=(getStr (getNum 2 B e).1 (getNum 2 B e).2.1 (getNum 2 B e).2.2).1:=rfl
 have e2:(getTxt B e).2.1=(getStr (getNum 2 B e).1 (getNum 2 B e).2.1 (getNum 2 B e).2.2).2.1:=rfl
 rw[e1,e2]
 omega
theorem stepP_left{s:ByteArray×Int×List It}(h:(stepP s).2.1=0):s.2.1=0∧sumI (stepP s).2.2+(stepP s).1.size=sumI s.2.2+s.1.size:=by
 obtain⟨h1,h2⟩:=getTxt_left (show (getTxt (getTxt (getNum 1 s.1 s.2.1).2.1 (getNum 1 s.1 s.2.1).2.2).2.1 (getTxt (getNum 1 s.1 s.2.1).2.1 (getNum 1 s.1 s.2.1).2.2).2.2).2.2=0 from h)
 obtain⟨h3,h4⟩:=getTxt_left h1
 obtain⟨h5,h6⟩:=getNum_left h3
 refine⟨h5,?_⟩
 unfold stepP
 simp only[sumI_app,sumI_cons,sumI_nil,It.need]
 omega
theorem runP_left{s:ByteArray×Int×List It}:∀ {j:Nat},(runP s j).2.1=0→s.2.1=0∧sumI (runP s j).2.2+(runP s j).1.size=sumI s.2.2+s.1.size
 | 0,h=>⟨h,rfl⟩
 | j+1,h=>by
  obtain⟨h1,h2⟩:=stepP_left h
  obtain⟨h3,h4⟩:=runP_left h1
  exact⟨h3,by rw[← h4];exact h2⟩
def allP(b:ByteArray):ByteArray×Int×List It:=runP ((getNum 1 b 0).2.1,(getNum 1 b 0).2.2,[]) (getNum 1 b 0).1.toNat
open Classical in
noncomputable def readP(b:ByteArray):List It×Int:=
 if getFin (allP b).1 (allP b).2.1=0 then (if (layR (allP b).2.2).2=0∧(layR (allP b).2.2).1=b then ((allP b).2.2,0) else ([],6)) else ([],getFin (allP b).1 (allP b).2.1)
theorem getFin_zero{s:ByteArray}{e:Int}(h:getFin s e=0):s.size=0∧e=0:=by
 unfold PP.getFin at h
 by_cases hs:0 < s.size
 ·rw[if_pos hs] at h;cases h
 ·rw[if_neg hs] at h;exact⟨by omega,h⟩
theorem allP_sum{b:ByteArray}(h:getFin (allP b).1 (allP b).2.1=0):sumI (allP b).2.2≤b.size:=by
 obtain⟨h2,h3⟩:=runP_left (s:=((getNum 1 b 0).2.1,(getNum 1 b 0).2.2,[])) (j:=(getNum 1 b 0).1.toNat) (getFin_zero h).2
 obtain⟨_,h5⟩:=getNum_left h2
 have e1:(allP b).2.2=(runP ((getNum 1 b 0).2.1,(getNum 1 b 0).2.2,[]) (getNum 1 b 0).1.toNat).2.2:=rfl
 rw[e1]
 simp only[sumI_nil] at h3
 omega
theorem gnum1_range(s:ByteArray)(e:Int):0≤(getNum 1 s e).1∧(getNum 1 s e).1≤255:=by
 unfold PP.getNum
 by_cases he:e=0
 ·rw[if_pos he]
  by_cases hk:1≤s.size
  ·rw[if_pos hk]
   have h2:=num_lt (s.data.toList.take 1)
   have h3:256 ^ (s.data.toList.take 1).length≤256 ^ 1:=Nat.pow_le_pow_right (by omega) (by simp only[List.length_take];omega)
   have e2:=PP.wrap_small (PP.num (s.data.toList.take 1)) (by omega)
   simp only[e2]
   omega
  ·rw[if_neg hk];simp
 ·rw[if_neg he];simp
def bytesI(x:It):List UInt8:=low 1 x.kind.toNat++(low 2 x.key.size++x.key.data.toList)++(low 2 x.val.size++x.val.data.toList)
def tailB:List It→List UInt8
 | []=>[]
 | x::l=>bytesI x++tailB l
theorem layOn_tail(s:ByteArray)(l:List It):(layOn s l).data.toList=s.data.toList++tailB l:=by
 induction l generalizing s with
 | nil=>simp[layOn,tailB]
 | cons x l ih=>
  have e:layOn s (x::l)=layOn (s++str (low 1 x.kind.toNat)++textB x.key++textB x.val) l:=rfl
  rw[e,ih,text_app,text_app,text_app,str_list,textB,textB,text_app,text_app,str_list,str_list,tailB,bytesI]
  simp only[List.append_assoc]
theorem layI_str(l:List It):layI l=str (low 1 l.length++tailB l):=by
 apply text_ext
 rw[str_list,layI,layOn_tail,str_list]
theorem step_back{x:It}(hx:x.ok=true)(T:List UInt8)(acc:List It):stepP (str (bytesI x++T),0,acc)=(str T,0,acc++[x]):=by
 obtain⟨key,val,kind⟩:=x
 unfold It.ok at hx
 obtain⟨o1,o2,o3,o4,o5⟩:=of_decide_eq_true hx
 simp only at o1 o2 o3 o4 o5
 obtain⟨kn,rfl⟩:=Int.eq_ofNat_of_zero_le o3
 have e1:getNum 1 (str (bytesI ⟨key,val,kn⟩++T)) 0=((kn:Int),str ((low 2 key.size++(key.data.toList++(low 2 val.size++(val.data.toList++T))))),0):=by
  have:=getNum_low 1 kn (low 2 key.size++(key.data.toList++(low 2 val.size++(val.data.toList++T)))) (by omega)
  rw[PP.wrap_small kn (by omega)] at this
  rw[← this]
  simp only[bytesI,List.append_assoc,Int.toNat_natCast]
 have e2:getTxt (str ((low 2 key.size++(key.data.toList++(low 2 val.size++(val.data.toList++T)))))) 0=(key,str (low 2 val.size++(val.data.toList++T)),0):=by
  have:=getTxt_of key.data.toList (low 2 val.size++(val.data.toList++T)) (by rw[text_len];omega)
  rw[text_len,str_eq] at this
  exact this
 have e3:getTxt (str (low 2 val.size++(val.data.toList++T))) 0=(val,str T,0):=by
  have:=getTxt_of val.data.toList T (by rw[text_len];omega)
  rw[text_len,str_eq] at this
  exact this
 unfold stepP
 simp only[e1,e2,e3]
theorem run_back:∀ (l:List It) (acc:List It) (T:List UInt8),(∀ x∈l,x.ok=true)→runP (str (tailB l++T),0,acc) l.length=(str T,0,acc++l)
 | [],acc,T,_=>by simp[runP,tailB]
 | x::l,acc,T,h=>by
  rw[List.length_cons,← runP_shift,tailB,List.append_assoc,step_back (h x List.mem_cons_self),run_back l _ T (fun y hy=>h y (List.mem_cons_of_mem _ hy)),List.append_assoc]
  rfl
theorem RightI.ok{l:List It}(h:RightI l){x:It}(hx:x∈l):x.ok=true:=by
 obtain⟨i,hi,rfl⟩:=List.mem_iff_getElem.1 hx
 exact h.1 i _ hi (List.getElem?_eq_getElem hi)
theorem read_back{l:List It}(hr:RightI l)(hs:1+sumI l≤232):readP (layI l)=(l,0):=by
 have hl:=sumI_len l
 have hn:getNum 1 (layI l) 0=((l.length:Int),str (tailB l),0):=by
  have:=getNum_low 1 l.length (tailB l) (by omega)
  rw[PP.wrap_small l.length (by omega)] at this
  rw[layI_str,this]
 have ha:allP (layI l)=(⟨#[]⟩,0,l):=by
  unfold allP
  rw[hn]
  have:=run_back l [] [] (fun x hx=>hr.ok hx)
  rw[List.append_nil] at this
  show runP (str (tailB l),0,[]) ((l.length:Int)).toNat=_
  rw[Int.toNat_natCast,this,List.nil_append]
  rfl
 have hL:layR l=(layI l,0):=by
  unfold layR
  rw[if_pos hr,if_pos hs]
 unfold readP
 rw[ha]
 have hf:getFin (⟨#[]⟩:ByteArray) 0=0:=rfl
 simp only[hf,hL]
 simp
end Go.Proofs.YtjepgclnbbpnaaaGreat.P9
namespace Go.Proofs.YtjepgclnbbpnaaaGreat.PP
open PK (qqA qqB qqC qqD qqE qqF tk tkS dOne qh)
open Go Go.RowKit Go.Lib P0
theorem getFrom_any(w:World)(s:ByteArray) :
  Calls Tryz.prog 117 #[.string s] w fun r w'=>r=.returned (.pointer (some ⟨w.heap.size,0,none⟩))∧GetAt w' w.heap.size s 0∧Below w.heap.size w w'∧w'.heap.size=w.heap.size+1:=by
 have h:GetAt (w.alloc (.cells #[.string s,.int .i64 0] 184)) w.heap.size s 0:=new_at w _ _
 have hB:Below w.heap.size w (w.alloc (.cells #[.string s,.int .i64 0] 184)):=(Below.refl _ w).alloc (Nat.le_refl _) _
 have hz:(w.alloc (.cells #[.string s,.int .i64 0] 184)).heap.size=w.heap.size+1:=by simp
 have H:=qh (And.intro h (And.intro hB hz))
 clear h hB hz
 go_enter Tryz.func117,Tryz.ntmps117
 go_wp2
 go_ret
 exact⟨rfl,H.out⟩
theorem getByte_any(w:World)(b:Nat)(s:ByteArray)(bad:Int)(h:GetAt w b s bad) :
  Calls Tryz.prog 119 #[.pointer (some ⟨b,0,none⟩)] w fun r w'=>r=.returned (.int .i64 (getNum 1 s bad).1)∧GetAt w' b (getNum 1 s bad).2.1 (getNum 1 s bad).2.2∧Fr b w w':=by
 have H:=qh (getNumber_any w b s bad 1 (by omega) h)
 clear h
 go_enter Tryz.func119,Tryz.ntmps119
 go_wp2_with (go_at_call 141;refine H.out.mono ?_;rintro e w' ⟨rfl,h1,h2⟩)
 go_ret
 exact⟨rfl,h1,h2⟩
theorem getHalf_any(w:World)(b:Nat)(s:ByteArray)(bad:Int)(h:GetAt w b s bad) :
  Calls Tryz.prog 123 #[.pointer (some ⟨b,0,none⟩)] w fun r w'=>r=.returned (.int .i64 (getNum 2 s bad).1)∧GetAt w' b (getNum 2 s bad).2.1 (getNum 2 s bad).2.2∧Fr b w w':=by
 have H:=qh (getNumber_any w b s bad 2 (by omega) h)
 clear h
 go_enter Tryz.func123,Tryz.ntmps123
 go_wp2_with (go_at_call 141;refine H.out.mono ?_;rintro e w' ⟨rfl,h1,h2⟩)
 go_ret
 exact⟨rfl,h1,h2⟩
theorem getText_any(w:World)(b:Nat)(s:ByteArray)(bad:Int)(h:GetAt w b s bad) :
  Calls Tryz.prog 120 #[.pointer (some ⟨b,0,none⟩)] w fun r w'=>r=.returned (.string (getTxt s bad).1)∧GetAt w' b (getTxt s bad).2.1 (getTxt s bad).2.2∧Fr b w w':=by
 unfold getTxt
 have H:=qh (getHalf_any w b s bad h)
 generalize getNum 2 s bad=q at *
 clear h
 go_enter Tryz.func120,Tryz.ntmps120
 go_wp2_with (first|(go_at_call 123;refine H.out.mono ?_;rintro e w' ⟨rfl,h1,h2⟩)|(go_at_call 142;refine (getRaw_any _ b q.2.1 q.2.2 q.1 h1).mono ?_;rintro e w2 ⟨rfl,h3,h4⟩))
 go_ret
 exact⟨rfl,h3,h2.trans h4⟩
end Go.Proofs.YtjepgclnbbpnaaaGreat.PP
namespace Go.Proofs.YtjepgclnbbpnaaaGreat.PP
open Go Go.RowKit Go.Lib P0
theorem getLeft_any(w:World)(b:Nat)(s:ByteArray)(bad:Int)(h:GetAt w b s bad) :
  Calls Tryz.prog 143 #[.pointer (some ⟨b,0,none⟩)] w fun r w'=>r=.returned (.int .i64 s.size)∧w=w':=by
 have c0:=h.c0
 clear h
 go_enter Tryz.func143,Tryz.ntmps143
 go_wp2
 go_ret
 exact⟨rfl,rfl⟩
end Go.Proofs.YtjepgclnbbpnaaaGreat.PP
namespace Go.Proofs.YtjepgclnbbpnaaaGreat.PP
open PK (qqA qqB qqC qqD qqE qqF tk tkS dOne qh)
open Go Go.RowKit Go.Lib P0
theorem getEnd_any(w:World)(b:Nat)(s:ByteArray)(bad:Int)(h:GetAt w b s bad) :
  Calls Tryz.prog 121 #[.pointer (some ⟨b,0,none⟩)] w fun r w'=>r=.returned (.int .i64 (getFin s bad))∧Fr b w w':=by
 unfold getFin
 have H1:=qh (getLeft_any w b s bad h)
 by_cases hs:0 < s.size
 ·rw[if_pos hs]
  have k:decide ((0:Int) < (s.size:Int))=true:=by simpa using hs
  have k2:decide (0 < s.size)=true:=by simpa using hs
  have H2:=qh (getFail_any w b s bad 6 h)
  clear h hs
  go_enter Tryz.func121,Tryz.ntmps121
  go_wp2_with (first|(go_at_call 143;refine H1.out.mono ?_;rintro e w' ⟨rfl,rfl⟩)|(go_at_call 144;refine H2.out.mono ?_;rintro e w2 ⟨rfl,h3,h4⟩)|(go_at_call 145;refine (getBad_any _ b _ 6 h3).mono ?_;rintro e w3 ⟨rfl,rfl⟩))
  go_ret
  exact⟨rfl,h4⟩
 ·rw[if_neg hs]
  have k:decide ((0:Int) < (s.size:Int))=false:=decide_eq_false (by omega)
  have k2:decide (0 < s.size)=false:=decide_eq_false hs
  have H2:=qh (getBad_any w b s bad h)
  clear h hs
  go_enter Tryz.func121,Tryz.ntmps121
  go_wp2_with (first|(go_at_call 143;refine H1.out.mono ?_;rintro e w' ⟨rfl,rfl⟩)|(go_at_call 145;refine H2.out.mono ?_;rintro e w3 ⟨rfl,rfl⟩))
  go_ret
  exact⟨rfl,Fr.refl _ _⟩
end Go.Proofs.YtjepgclnbbpnaaaGreat.PP
namespace Go.Proofs.YtjepgclnbbpnaaaGreat.P9
open PK (qqA qqB qqC qqD qqE qqF tk tkS dOne qh)
open Go Go.RowKit Go.Lib PK
open P0 (low str str_size low_length size_app text_ext text_app str_list same_true same_false)
open PP (GetAt getNum getTxt getStr getFin Fr getFrom_any getByte_any getText_any getEnd_any)
theorem sClone_any(w:World)(s:ByteArray)(hs:s.size≤281474976710656):Calls Tryz.prog 118 #[.string s] w fun e w'=>e=.returned (.string s)∧Below w.heap.size w w':=by
 have H:=fun w':World=>qh (Tryz.stringslite_Clone s w' hs)
 go_enter Tryz.func118,Tryz.ntmps118
 go_wp2_with (go_at_call 140;refine (H _).out.mono ?_;rintro e w' ⟨rfl,hb⟩)
 go_ret
 exact⟨rfl,hb⟩
theorem owns_frP{G base n:Nat}{wr w':World}{v:Value}{xs:List Value}(h:wr.ownsRow base 29 3 v n xs)(hb:G < base)(hf:Fr G wr w'):w'.ownsRow base 29 3 v n xs:=by
 refine⟨h.1,h.2.imp id fun ⟨g,cap,cur,h1,h2,h3,h4⟩=>⟨g,cap,cur,h1,h2,hf.keeps g _ _ _ h3 (by decide) (by omega),h4⟩⟩
structure PdS (w:World) (G:Nat) (s:ByteArray) (e:Int) (v:Value) (l:List It) (wr:World):Prop where
 g:GetAt wr G s e
 row:wr.ownsRow (G+1) 29 3 v l.length (cellsI l).flatten
 lo:w.heap.size≤G
 below:Below w.heap.size w wr
theorem PdS.lt{w wr:World}{G:Nat}{s:ByteArray}{e:Int}{v:Value}{l:List It}(h:PdS w G s e v l wr):G < wr.heap.size:=lt_of_block h.g
theorem PdS.call{w wr w':World}{G:Nat}{s s':ByteArray}{e e':Int}{v:Value}{l:List It}(h:PdS w G s e v l wr)(hg:GetAt w' G s' e')(hf:Fr G wr w'):PdS w G s' e' v l w':=
 ⟨hg,owns_frP h.row (Nat.lt_succ_self _) hf,h.lo,h.below.trans (hf.below.mono h.lo)⟩
theorem PdS.over{w wr w':World}{G:Nat}{s:ByteArray}{e:Int}{v:Value}{l:List It}(h:PdS w G s e v l wr)(k:Below wr.heap.size wr w'):PdS w G s e v l w':=
 ⟨(k.block G h.lt).trans h.g,owns_below h.row k,h.lo,thenBelow h.below k⟩
theorem cellsI_snoc2(l:List It)(c:It):(cellsI (l++[c])).flatten=(cellsI l).flatten++[.string c.key,.string c.val,.int .i64 c.kind]:=by
 simp[cellsI,It.cells]
theorem PdS.grown{w wr w':World}{G:Nat}{s:ByteArray}{e:Int}{v v':Value}{l:List It}(h:PdS w G s e v l wr)(c:It)(hown:w'.ownsRow (G+1) 29 3 v' (l.length+1) ((cellsI l).flatten++[.string c.key,.string c.val,.int .i64 c.kind]))(hg:wr.grownBy w' v.ownBlock):PdS w G s e v' (l++[c]) w':=by
 refine⟨?_,?_,h.lo,h.below.grown hg h.below.size (fun k hk=>?_)⟩
 ·exact (hg.block G h.lt (fun e=>by have:=(h.row.lt G e.symm).1;omega)).trans h.g
 ·rw[cellsI_snoc2,List.length_append,List.length_singleton]
  exact hown
 ·have:=(h.row.lt k hk).1
  have:=h.lo
  omega
theorem read_any(w:World)(b:ByteArray)(hb:b.size≤100000) :
  Calls Tryz.prog 96 #[.string b] w fun e w'=>∃ v,e=.returned (.tuple #[v,.int .i64 (readP b).2])∧OwnI w.heap.size w' v (readP b).1∧Below w.heap.size w w':=by
 obtain⟨i0,hi0,hz0,hz1,hz2⟩:=info_parts infoEItems
 have HCl:=qh (sClone_any w b (by omega))
 have HF:=qh (fun W=>getFrom_any W b)
 have HN:=qh (fun W G s e (h:GetAt W G s e)=>getByte_any W G s e h)
 have HT:=qh (fun W G s e (h:GetAt W G s e)=>getText_any W G s e h)
 have HE:=qh (fun W G s e (h:GetAt W G s e)=>getEnd_any W G s e h)
 obtain⟨n1,n2⟩:=gnum1_range b 0
 obtain⟨n,hn⟩:∃ n,n=(getNum 1 b 0).1.toNat:=⟨_,rfl⟩
 have hn1:(getNum 1 b 0).1=(n:Int):=by omega
 have hn2:n≤255:=by omega
 have HAl:Hid (allP b=runP ((getNum 1 b 0).2.1,(getNum 1 b 0).2.2,[]) n):=by rw[hn];rfl
 have HN0:=qh (fun W G (h:GetAt W G b 0)=>getByte_any W G b 0 h)
 rw[hn1] at HN0
 clear hn hn1 n1 n2
 go_enter Tryz.func96,Tryz.ntmps96
 go_wp2_with (first
  | (go_at_call 118;(with_reducible refine (HCl.out).mono ?_);rintro e w1 ⟨rfl,hbl⟩;have HB1:=qh hbl;clear hbl)
  | (go_at_call 117;(with_reducible refine (HF.out _).mono ?_);rintro e w2 ⟨rfl,hg,hbl,-⟩;have HG2:=qh hg;have HB2:=qh (thenBelow HB1.out hbl);clear hg hbl)
  | (go_at_call 119;(with_reducible refine (HN0.out _ _ HG2.out).mono ?_);rintro e w3 ⟨rfl,hg,hf⟩;have S0:=qh (⟨hg,World.ownsRow_nil _ _ _ _,HB1.out.size,HB2.out.trans (hf.below.mono HB1.out.size)⟩:PdS w w1.heap.size (getNum 1 b 0).2.1 (getNum 1 b 0).2.2 (.slice none 0 0) [] w3);clear hg hf))
 obtain⟨G,hG⟩:∃ G,G=w1.heap.size:=⟨_,rfl⟩
 rw[← hG] at S0 ⊢
 obtain⟨B0,hB0⟩:∃ B0,B0=(getNum 1 b 0).2.1:=⟨_,rfl⟩
 obtain⟨e0,he0⟩:∃ e0,e0=(getNum 1 b 0).2.2:=⟨_,rfl⟩
 rw[← hB0,← he0] at S0 HAl
 clear HN0 HB1 HB2 HG2 hB0 he0 hG
 go_loopw [5,14] (fun vl vi wr=>∃ i:Nat,i≤n∧vi=.int .i64 i∧Hid (PdS w G (runP (B0,e0,[]) i).1 (runP (B0,e0,[]) i).2.1 vl (runP (B0,e0,[]) i).2.2 wr)) (fun _ vi _=>n - (RowKit.intOf vi).toNat)
 case atStart=>exact⟨0,Nat.zero_le _,rfl,S0⟩
 case round=>
  clear S0
  obtain⟨i,hi,rfl,H⟩:=hrel
  have hLl:=runP_len (B0,e0,[]) i
  obtain⟨⟨s,e,L⟩,hS⟩:∃ s,s=runP (B0,e0,[]) i:=⟨_,rfl⟩
  rw[← hS] at H hLl
  simp only[List.length_nil,Nat.zero_add] at H hLl
  replace hLl:L.length≤i:=Nat.le_of_eq hLl
  have HS:=qh hS
  clear hS
  by_cases hlt:i < n
  ·have k1:decide ((i:Int) < (n:Int))=true:=decide_eq_true (by omega)
   have k1':decide (i < n)=true:=decide_eq_true hlt
   have HSt:Hid (runP (B0,e0,[]) (i+1)=stepP (s,e,L)):=by
    show stepP (runP (B0,e0,[]) i)=_
    rw[HS.out]
   have HNk:=qh (HN.out _ _ _ _ H.out.g)
   obtain⟨⟨k,s1,e1⟩,hk⟩:∃ q,q=getNum 1 s e:=⟨_,rfl⟩
   rw[← hk] at HNk
   simp only at HNk
   obtain⟨⟨x,s2,e2⟩,hx⟩:∃ q,q=getTxt s1 e1:=⟨_,rfl⟩
   obtain⟨⟨y,s3,e3⟩,hy⟩:∃ q,q=getTxt s2 e2:=⟨_,rfl⟩
   have HFn:Hid (runP (B0,e0,[]) (i+1)=(s3,e3,L++[⟨x,y,k⟩])):=by
    show runP (B0,e0,[]) (i+1)=(s3,e3,L++[⟨x,y,k⟩])
    rw[HSt.out]
    unfold stepP
    simp only[← hk,← hx,← hy]
   have HT1:Hid (∀ W,GetAt W G s1 e1→Calls Tryz.prog 120 #[.pointer (some ⟨G,0,none⟩)] W fun r w'=>r=.returned (.string x)∧GetAt w' G s2 e2∧Fr G W w'):=fun W h=>by
    have:=HT.out W _ _ _ h
    rw[← hx] at this
    exact this
   have HT2:Hid (∀ W,GetAt W G s2 e2→Calls Tryz.prog 120 #[.pointer (some ⟨G,0,none⟩)] W fun r w'=>r=.returned (.string y)∧GetAt w' G s3 e3∧Fr G W w'):=fun W h=>by
    have:=HT.out W _ _ _ h
    rw[← hy] at this
    exact this
   clear hk hx hy HSt HT HN HE
   have hLb:L.length≤255:=by omega
   obtain⟨va,vn,vc,rfl⟩:=owns_shape H.out.row
   go_wp2_with (first
    | (go_at_call 119;(with_reducible refine (HNk.out).mono ?_);rintro e w2 ⟨rfl,hg,hf⟩;have X1:=qh (H.out.call hg hf);clear hg hf)
    | (go_at_call 120;(with_reducible refine (HT1.out _ X1.out.g).mono ?_);rintro e w3 ⟨rfl,hg,hf⟩;have X2:=qh (X1.out.call hg hf);clear hg hf)
    | (go_at_call 120;(with_reducible refine (HT2.out _ X2.out.g).mono ?_);rintro e w4 ⟨rfl,hg,hf⟩;have X3:=qh (X2.out.call hg hf);clear hg hf)
    | (at_builtin;refine wpList_append_own _ rfl _ _ 27 rfl (G+1) 29 i0 (Value.agg #[.string ⟨#[]⟩,.string ⟨#[]⟩,.int .i64 0]) 3 40 Tryz.underlying27 hi0 hz0 hz1 hz2 rfl (by decide) _ L.length (cellsI L).flatten rfl (X3.out.row.alloc _) ⟨w4.heap.size,0,none⟩ 1 1 [.string x,.string y,.int .i64 k] rfl rfl ?c1 ?c2 ?c3 ?c4 ?c5 ?_))
   case c1=>simpa using cells_new w4 [.string x,.string y,.int .i64 k] 29
   case c2=>exact kItems.one _ ⟨_,_,_,rfl⟩
   case c3=>unfold maxLen;omega
   case c4=>omega
   case c5=>have:=X3.out.lt;simp;omega
   intro v' w5 hown' hgrow _
   have S5:=qh ((X3.out.over (below_new _ _)).grown ⟨x,y,k⟩ hown' hgrow)
   clear hown' hgrow
   go_wp2
   go_roundw
   case rel=>exact⟨i+1,by omega,by go_num,by rw[HFn.out];exact S5⟩
   case measure=>simp[RowKit.intOf];omega
  ·have e9:i=n:=by omega
   subst e9
   have k1:decide ((i:Int) < (i:Int))=false:=decide_eq_false (by omega)
   have HAn:Hid (allP b=(s,e,L)):=by
    show allP b=(s,e,L)
    rw[HAl.out,← HS.out]
   have hLb:L.length≤255:=by omega
   clear HS HAl HN HT
   obtain⟨va,vn,vc,rfl⟩:=owns_shape H.out.row
   have HEn:=qh (HE.out _ _ _ _ H.out.g)
   have HOw:Hid (∀ W',Fr G wr W'→OwnI w.heap.size W' (.slice va vn vc) L):=fun W' hf=>⟨owns_lo (owns_frP H.out.row (Nat.lt_succ_self _) hf) (by have:=H.out.lo;omega),by omega⟩
   have HBl:Hid (∀ W',Fr G wr W'→Below w.heap.size w W'):=fun W' hf=>H.out.below.trans (hf.below.mono H.out.lo)
   clear HE
   by_cases hf0:getFin s e=0
   ·have hsum:sumI L≤1000000:=by
     have h9:=allP_sum (b:=b) (by rw[HAn.out];exact hf0)
     rw[HAn.out] at h9
     exact Nat.le_trans h9 (by omega)
    rw[hf0] at HEn
    have HLy:Hid (∀ W,ItsIn W (.slice va vn vc) L→Calls Tryz.prog 122 #[.slice va vn vc] W fun e w'=>e=.returned (.tuple #[.string (layR L).1,.int .i64 (layR L).2])∧Below W.heap.size W w'):=fun W h=>lay_any W _ L h hsum
    obtain⟨⟨S,f⟩,hly⟩:∃ s,s=layR L:=⟨_,rfl⟩
    have HRR:readP b=if f=0∧S=b then (L,0) else ([],6):=by
     unfold readP
     rw[HAn.out]
     simp only
     rw[if_pos hf0,← hly]
    rw[← hly] at HLy
    simp only at HLy
    clear hly hf0 hsum
    by_cases hf:f=0
    ·have m1:(f != 0)=false:=by simp[hf]
     by_cases hS:S=b
     ·have m2:(b.toList == S.toList)=true:=same_true hS.symm
      have HRd:=qh (HRR.trans (if_pos ⟨hf,hS⟩))
      clear hf hS HRR
      go_wp2_with (first
       | (go_at_call 121;(with_reducible refine (HEn.out).mono ?_);rintro e w6 ⟨rfl,hf6⟩;have I6:=qh (HOw.out _ hf6);have B6:=qh (HBl.out _ hf6);clear hf6)
       | (go_at_call 122;(with_reducible refine (HLy.out _ I6.out.its).mono ?_);rintro e w7 ⟨rfl,hb7⟩;have I7:=qh (I6.out.below hb7);have B7:=qh (thenBelow B6.out hb7);clear hb7))
      go_ret2
      exact⟨_,by rw[HRd.out];rfl,by rw[HRd.out];exact I7.out,B7.out⟩
     ·have m2:(b.toList == S.toList)=false:=same_false (fun q=>hS q.symm)
      have HRd:=qh (HRR.trans (if_neg (fun h=>hS h.2)))
      clear hf hS HRR
      go_wp2_with (first
       | (go_at_call 121;(with_reducible refine (HEn.out).mono ?_);rintro e w6 ⟨rfl,hf6⟩;have I6:=qh (HOw.out _ hf6);have B6:=qh (HBl.out _ hf6);clear hf6)
       | (go_at_call 122;(with_reducible refine (HLy.out _ I6.out.its).mono ?_);rintro e w7 ⟨rfl,hb7⟩;have B7:=qh (thenBelow B6.out hb7);clear hb7))
      go_ret2
      exact⟨_,by rw[HRd.out];rfl,by rw[HRd.out];exact OwnI.nil _ _,B7.out⟩
    ·have m1:(f != 0)=true:=by simpa using hf
     have HRd:=qh (HRR.trans (if_neg (fun h=>hf h.1)))
     clear hf HRR
     go_wp2_with (first
      | (go_at_call 121;(with_reducible refine (HEn.out).mono ?_);rintro e w6 ⟨rfl,hf6⟩;have I6:=qh (HOw.out _ hf6);have B6:=qh (HBl.out _ hf6);clear hf6)
      | (go_at_call 122;(with_reducible refine (HLy.out _ I6.out.its).mono ?_);rintro e w7 ⟨rfl,hb7⟩;have B7:=qh (thenBelow B6.out hb7);clear hb7))
     go_ret2
     exact⟨_,by rw[HRd.out];rfl,by rw[HRd.out];exact OwnI.nil _ _,B7.out⟩
   ·have HRR:readP b=([],getFin s e):=by
     unfold readP
     rw[HAn.out]
     simp only
     rw[if_neg hf0]
    have m1:(getFin s e != 0)=true:=by simpa using hf0
    obtain⟨F,hF⟩:∃ F,F=getFin s e:=⟨_,rfl⟩
    rw[← hF] at HEn m1 HRR
    have HRd:=qh HRR
    clear hF HRR hf0
    go_wp2_with (go_at_call 121;(with_reducible refine (HEn.out).mono ?_);rintro e w6 ⟨rfl,hf6⟩;have B6:=qh (HBl.out _ hf6);clear hf6)
    go_ret2
    exact⟨_,by rw[HRd.out];rfl,by rw[HRd.out];exact OwnI.nil _ _,B6.out⟩
end Go.Proofs.YtjepgclnbbpnaaaGreat.P9
