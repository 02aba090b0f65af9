/-
  Texts of the proofs of SaidOrd12.
-/
import Derived.Test.YtjepgclnbbpnaaaGreatMs06
import Derived.Test.YtjepgclnbbpnaaaGreatMs07
set_option linter.unusedVariables false
set_option linter.unusedSimpArgs false
set_option maxHeartbeats 8000000
set_option maxRecDepth 100000
namespace Go.Proofs.YtjepgclnbbpnaaaGreat.P9
open PK (qqA qqB qqC qqD qqE qqF tk tkS dOne qh)
open Go Go.RowKit Go.Lib PK
open P0 (low str str_size low_length size_app text_ext text_app str_list)
open PP (PutIs PutOwn PutNew stepN stepN_fits putByte_any putText_any putEnd_ok Fr)
structure LS (w0:World) (B:Nat) (xs:List UInt8) (w:World):Prop where
 put:PutIs w B xs 0
 lo:w0.heap.size≤B
 below:Below w0.heap.size w0 w
structure LX (w0:World) (B X:Nat) (x:It) (xs:List UInt8) (w:World):Prop where
 s:LS w0 B xs w
 it:w.heap[X]?=some (.cells #[.string x.key,.string x.val,.int .i64 x.kind] 29 (0,0))
 ne:X≠B
theorem LS.over{w0 w w':World}{B:Nat}{xs:List UInt8}(h:LS w0 B xs w)(k:Below w.heap.size w w'):LS w0 B xs w':=⟨h.put.below k,h.lo,thenBelow h.below k⟩
theorem LS.item{w0 w:World}{B:Nat}{xs:List UInt8}(h:LS w0 B xs w)(x:It):LX w0 B w.heap.size x xs (w.alloc (.cells #[.string x.key,.string x.val,.int .i64 x.kind] 29)):=
 ⟨h.over (below_new _ _),new_at w _ _,by have:=h.put.lt;omega⟩
theorem LX.call{w0 w w':World}{B X:Nat}{x:It}{xs ys:List UInt8}(h:LX w0 B X x xs w)(hp:PutIs w' B ys 0)(hf:Fr B w w'):LX w0 B X x ys w':=
 ⟨⟨hp,h.s.lo,h.s.below.trans (hf.below.mono h.s.lo)⟩,hf.keeps X _ _ _ h.it (by decide) h.ne,h.ne⟩
theorem LX.over{w0 w w':World}{B X:Nat}{x:It}{xs:List UInt8}(h:LX w0 B X x xs w)(k:Below w.heap.size w w'):LX w0 B X x xs w':=
 ⟨h.s.over k,by rw[k.block X (lt_of_block h.it)];exact h.it,h.ne⟩
theorem LX.cells{w0 w:World}{B X:Nat}{x:It}{xs:List UInt8}(h:LX w0 B X x xs w):w.cell? ⟨X,0,none⟩=some (.string x.key)∧w.cell? ⟨X,1,none⟩=some (.string x.val)∧w.cell? ⟨X,2,none⟩=some (.int .i64 x.kind):=
 ⟨cell_at h.it 0,cell_at h.it 1,cell_at h.it 2⟩
theorem ls_start(w0 W:World)(n:Nat)(hn:n < 256)(hb:Below w0.heap.size w0 W) :
  Calls Tryz.prog 147 #[.pointer (some ⟨W.heap.size,0,none⟩),.int .i64 n] (W.alloc (.cells #[.slice none 0 0,.pointer none,.int .i64 0] 191)) fun r w'=>r=.returned (.pointer (some ⟨W.heap.size,0,none⟩))∧LS w0 W.heap.size (low 1 n) w':=by
 refine (putByte_any _ W.heap.size [] n 0 (by omega) (by simp) (.inr ⟨new_at W _ _,rfl⟩)).mono fun r w' ⟨h1,h2,h3⟩=>⟨h1,?_,hb.size,?_⟩
 ·rw[stepN_fits (by omega) (by omega)] at h2
  exact h2
 ·exact (grow hb _).trans (h3.below.mono hb.size)
theorem lx_byte{w0 W:World}{B X:Nat}{x:It}{xs:List UInt8}(k:Nat)(hk:k < 256)(hx:xs.length≤100000)(h:LX w0 B X x xs W) :
  Calls Tryz.prog 147 #[.pointer (some ⟨B,0,none⟩),.int .i64 k] W fun r w'=>r=.returned (.pointer (some ⟨B,0,none⟩))∧LX w0 B X x (xs++low 1 k) w':=by
 refine (putByte_any W B xs k 0 (by omega) (by omega) h.s.put).mono fun r w' ⟨h1,h2,h3⟩=>⟨h1,?_⟩
 rw[stepN_fits (by omega) (by omega)] at h2
 exact h.call h2 h3
theorem lx_text{w0 W:World}{B X:Nat}{x:It}{xs:List UInt8}(s:ByteArray)(hs:s.size≤65535)(hx:xs.length≤100000)(h:LX w0 B X x xs W) :
  Calls Tryz.prog 148 #[.pointer (some ⟨B,0,none⟩),.string s] W fun r w'=>r=.returned (.pointer (some ⟨B,0,none⟩))∧LX w0 B X x (xs++(low 2 s.size++s.data.toList)) w':=by
 refine (putText_any W B xs 0 s (by omega) h.s.put).mono fun r w' ⟨h1,h2,h3⟩=>⟨h1,?_⟩
 have e:PP.stepT s.data.toList xs 0=(xs++(low 2 s.size++s.data.toList),0):=by
  unfold PP.stepT
  rw[if_pos rfl,P0.text_len,if_pos hs]
 rw[e] at h2
 exact h.call h2 h3
theorem ls_end{w0 W:World}{B:Nat}{s:ByteArray}(h:LS w0 B s.data.toList W) :
  Calls Tryz.prog 149 #[.pointer (some ⟨B,0,none⟩)] W fun r w'=>r=.returned (.tuple #[.string s,.int .i64 0])∧Below w0.heap.size w0 w':=by
 have H:=putEnd_ok W B _ h.put
 rw[show (⟨s.data.toList.toArray⟩:ByteArray)=s from P0.str_eq s] at H
 exact H.mono fun _ _ ⟨a,d⟩=>⟨a,d ▸ h.below⟩
theorem layOn_list{l:List It}{i:Nat}{x:It}(h:l[i]?=some x)(s:ByteArray):(layOn s (l.take (i+1))).data.toList=(layOn s (l.take i)).data.toList++low 1 x.kind.toNat++(low 2 x.key.size++x.key.data.toList)++(low 2 x.val.size++x.val.data.toList):=by
 rw[layOn_take h,text_app,text_app,text_app,str_list,textB,textB,text_app,text_app,str_list,str_list]
theorem lay_ok(w:World)(v:Value)(l:List It)(h:ItsIn w v l)(hr:RightI l)(hs:1+sumI l≤232) :
  Calls Tryz.prog 122 #[v] w fun e w'=>e=.returned (.tuple #[.string (layI l),.int .i64 0])∧Below w.heap.size w w':=by
 obtain⟨a,c,rfl⟩:=h.slice
 have hl:=sumI_len l
 have HR:=qh (fun W (hb:Below w.heap.size w W)=>ordered_any W _ l (h.below hb))
 have HZ:=qh (fun W (hb:Below w.heap.size w W)=>size_any W _ l (h.below hb) (by omega))
 have HA:=qh (fun (i:Nat) (x:It) (hi:l[i]?=some x)=>h.at_ hi)
 have HRI:=qh hr
 have HSu:=qh hs
 have HP:Hid (∀ W,Below w.heap.size w W→Calls Tryz.prog 147 #[.pointer (some ⟨W.heap.size,0,none⟩),.int .i64 l.length] (W.alloc (.cells #[.slice none 0 0,.pointer none,.int .i64 0] 191)) fun r w'=>r=.returned (.pointer (some ⟨W.heap.size,0,none⟩))∧LS w W.heap.size (low 1 l.length) w'):=fun W hW=>ls_start w W l.length (by omega) hW
 have HE:=qh (fun (W:World) (B:Nat) (s:ByteArray) (hS:LS w B s.data.toList W)=>ls_end hS)
 have hl2:l.length≤60:=by omega
 have k1:decide ((232:Int) < ((1+sumI l:Nat):Int))=false:=decide_eq_false (by omega)
 have k1':decide ((232:Int) < 1+(sumI l:Int))=false:=decide_eq_false (by omega)
 have k1'':decide (232 < 1+sumI l)=false:=decide_eq_false (by omega)
 clear h hr hs hl
 go_enter Tryz.func122,Tryz.ntmps122
 go_wp2_with (first
  | (go_at_call 146;(with_reducible refine (HR.out _ (Below.refl _ _)).mono ?_);rintro e w1 ⟨⟨bb,rfl,hbb⟩,hb⟩;obtain rfl:bb=true:=hbb.2 HRI.out;have HB1:=qh hb;clear hb hbb)
  | (go_at_call 125;(with_reducible refine (HZ.out _ HB1.out).mono ?_);rintro e w2 ⟨rfl,hb⟩;have HB2:=qh (thenBelow HB1.out hb);clear hb)
  | (go_at_call 147;(with_reducible refine (HP.out _ HB2.out).mono ?_);rintro e w3 ⟨rfl,h3⟩;have HS3:=qh h3;clear h3))
 obtain⟨B,hB⟩:∃ B,B=w2.heap.size:=⟨_,rfl⟩
 rw[← hB] at HS3 ⊢
 clear hB HB1 HB2
 go_loopw [20] (fun vi wr=>∃ i:Nat,i≤l.length∧vi=.int .i64 i∧Hid (LS w B (layOn (str (low 1 l.length)) (l.take i)).data.toList wr)) (fun vi _=>l.length - (RowKit.intOf vi).toNat)
 case atStart=>exact⟨0,Nat.zero_le _,rfl,by rw[show (layOn (str (low 1 l.length)) (l.take 0)).data.toList=low 1 l.length from str_list _];exact HS3⟩
 case round=>
  clear HS3
  obtain⟨i,hi,rfl,HS⟩:=hrel
  by_cases hlt:i < l.length
  ·obtain⟨x,hx⟩:∃ x,l[i]?=some x:=⟨_,List.getElem?_eq_getElem hlt⟩
   obtain⟨b,off,rfl,hc⟩:=HA.out i x hx
   obtain⟨c0,c1,c2⟩:=hc wr HS.out.below
   have hok:=HRI.out.1 i x hlt hx
   have hsm:=layOn_list hx (str (low 1 l.length))
   have hsz:=layOn_size (str (low 1 l.length)) (l.take i)
   have hle:=sumI_le (l:=l) i
   have hsu:=HSu.out
   rw[str_size,low_length] at hsz
   have hxs:(layOn (str (low 1 l.length)) (l.take i)).data.toList.length≤232:=by rw[P0.text_len];omega
   obtain⟨key,val,kind⟩:=x
   unfold It.ok at hok
   obtain⟨o1,o2,o3,o4,o5⟩:=of_decide_eq_true hok
   simp only at o1 o2 o3 o4 o5
   obtain⟨kn,rfl⟩:=Int.eq_ofNat_of_zero_le o3
   simp only[Int.toNat_natCast] at hsm
   obtain⟨xs,hxe⟩:∃ xs,xs=(layOn (str (low 1 l.length)) (l.take i)).data.toList:=⟨_,rfl⟩
   rw[← hxe] at HS hsm hxs
   have hky:key.data.toList.length=key.size:=P0.text_len key
   have HX0:=qh (HS.out.item ⟨key,val,kn⟩)
   have HX0d:=qh (HX0.out.over (Below.refl _ _).drew)
   have HM:=qh hsm
   have HK1:Hid (∀ W X,LX w B X ⟨key,val,kn⟩ xs W→Calls Tryz.prog 147 #[.pointer (some ⟨B,0,none⟩),.int .i64 kn] W fun r w'=>r=.returned (.pointer (some ⟨B,0,none⟩))∧LX w B X ⟨key,val,kn⟩ (xs++low 1 kn) w'):=fun W X hX=>lx_byte kn (by omega) (by omega) hX
   have HK2:Hid (∀ W X,LX w B X ⟨key,val,kn⟩ (xs++low 1 kn) W→Calls Tryz.prog 148 #[.pointer (some ⟨B,0,none⟩),.string key] W fun r w'=>r=.returned (.pointer (some ⟨B,0,none⟩))∧LX w B X ⟨key,val,kn⟩ (xs++low 1 kn++(low 2 key.size++key.data.toList)) w'):=fun W X hX=>lx_text key (by omega) (by rw[List.length_append,low_length];omega) hX
   have HK3:Hid (∀ W X,LX w B X ⟨key,val,kn⟩ (xs++low 1 kn++(low 2 key.size++key.data.toList)) W→Calls Tryz.prog 148 #[.pointer (some ⟨B,0,none⟩),.string val] W fun r w'=>r=.returned (.pointer (some ⟨B,0,none⟩))∧LX w B X ⟨key,val,kn⟩ (xs++low 1 kn++(low 2 key.size++key.data.toList)++(low 2 val.size++val.data.toList)) w'):=fun W X hX=>lx_text val (by omega) (by simp only[List.length_append,low_length];omega) hX
   have HCc:Hid (∀ W X ys,LX w B X ⟨key,val,kn⟩ ys W→W.cell? ⟨X,0,none⟩=some (.string key)∧W.cell? ⟨X,1,none⟩=some (.string val)∧W.cell? ⟨X,2,none⟩=some (.int .i64 kn)):=fun W X ys hX=>hX.cells
   generalize xs++low 1 kn++(low 2 key.size++key.data.toList)++(low 2 val.size++val.data.toList)=y3 at *
   generalize xs++low 1 kn++(low 2 key.size++key.data.toList)=y2 at *
   generalize xs++low 1 kn=y1 at *
   have k5:decide ((i:Int) < (l.length:Int))=true:=decide_eq_true (by omega)
   have k6:(i:Int) < (l.length:Int):=by omega
   have k7:(0:Int)≤(i:Int):=by omega
   clear hc hx hok hsm hsz HR HZ HA hle hsu o1 o2 o3 o4 o5 hxe hxs hky
   go_upto_region 10 with fail
   go_region_held3 (fun W=>W.cell? ⟨wr.heap.size,0,none⟩=some (.string key)∧W.cell? ⟨wr.heap.size,1,none⟩=some (.string val)∧W.cell? ⟨wr.heap.size,2,none⟩=some (.int .i64 kn)) (first|exact HCc.out _ _ _ HX0d.out|exact HCc.out _ _ _ HX0.out|exact HCc.out _ _ _ HX1.out|exact HCc.out _ _ _ HX2.out|exact HCc.out _ _ _ HX3.out) ((first
    | (go_at_call 147;(with_reducible refine (HK1.out _ _ (by first|exact HX0d.out|exact HX0.out)).mono ?_);rintro e w5 ⟨rfl,h5⟩;have HX1:=qh h5;clear h5)
    | (go_at_call 148;(with_reducible refine (HK2.out _ _ HX1.out).mono ?_);rintro e w6 ⟨rfl,h6⟩;have HX2:=qh h6;clear h6)
    | (go_at_call 148;(with_reducible refine (HK3.out _ _ HX2.out).mono ?_);rintro e w7 ⟨rfl,h7⟩;have HX3:=qh h7;clear h7)))
   all_goals
    go_wp2
    go_roundw
    case rel=>exact⟨i+1,by omega,by go_num,by rw[HM.out];exact HX3.out.s⟩
    case measure=>simp[RowKit.intOf];omega
  ·have e:i=l.length:=by omega
   subst e
   have k5:decide ((l.length:Int) < (l.length:Int))=false:=decide_eq_false (by omega)
   have HF:Hid (LS w B (layI l).data.toList wr):=by
    have:=HS.out
    rw[List.take_length] at this
    exact this
   clear HR HZ HA HS
   go_wp2_with (go_at_call 149;(with_reducible refine (HE.out _ _ _ HF.out).mono ?_);rintro e w5 ⟨rfl,hb⟩;have HB5:=qh hb;clear hb)
   go_ret2
   exact⟨rfl,HB5.out⟩
theorem lay_bad(w:World)(v:Value)(l:List It)(h:ItsIn w v l)(hr:¬ RightI l) :
  Calls Tryz.prog 122 #[v] w fun e w'=>e=.returned (.tuple #[.string ⟨#[]⟩,.int .i64 1])∧Below w.heap.size w w':=by
 have HR:=qh (ordered_any w _ l h)
 have HRI:=qh hr
 clear h hr
 go_enter Tryz.func122,Tryz.ntmps122
 go_wp2_with (go_at_call 146;(with_reducible refine (HR.out).mono ?_);rintro e w1 ⟨⟨bb,rfl,hbb⟩,hb⟩;obtain rfl:bb=false:=(Bool.eq_false_iff.2 fun q=>HRI.out (hbb.1 q));have HB1:=qh hb;clear hb hbb)
 go_ret2
 exact⟨rfl,HB1.out⟩
theorem lay_long(w:World)(v:Value)(l:List It)(h:ItsIn w v l)(hr:RightI l)(hs:232 < 1+sumI l)(hm:sumI l≤1000000) :
  Calls Tryz.prog 122 #[v] w fun e w'=>e=.returned (.tuple #[.string ⟨#[]⟩,.int .i64 2])∧Below w.heap.size w w':=by
 have HR:=qh (ordered_any w _ l h)
 have HZ:=qh (fun W (hb:Below w.heap.size w W)=>size_any W _ l (h.below hb) hm)
 have HRI:=qh hr
 have k1:decide ((232:Int) < ((1+sumI l:Nat):Int))=true:=decide_eq_true (by omega)
 have k1':decide ((232:Int) < 1+(sumI l:Int))=true:=decide_eq_true (by omega)
 have k1'':decide (232 < 1+sumI l)=true:=decide_eq_true (by omega)
 obtain⟨a,c,rfl⟩:=h.slice
 clear h hr hs hm
 go_enter Tryz.func122,Tryz.ntmps122
 go_wp2_with (first
  | (go_at_call 146;(with_reducible refine (HR.out).mono ?_);rintro e w1 ⟨⟨bb,rfl,hbb⟩,hb⟩;obtain rfl:bb=true:=hbb.2 HRI.out;have HB1:=qh hb;clear hb hbb)
  | (go_at_call 125;(with_reducible refine (HZ.out _ HB1.out).mono ?_);rintro e w2 ⟨rfl,hb⟩;have HB2:=qh (thenBelow HB1.out hb);clear hb))
 go_ret2
 exact⟨rfl,HB2.out⟩
theorem lay_any(w:World)(v:Value)(l:List It)(h:ItsIn w v l)(hm:sumI l≤1000000) :
  Calls Tryz.prog 122 #[v] w fun e w'=>e=.returned (.tuple #[.string (layR l).1,.int .i64 (layR l).2])∧Below w.heap.size w w':=by
 unfold layR
 by_cases hr:RightI l
 ·rw[if_pos hr]
  by_cases hs:1+sumI l≤232
  ·rw[if_pos hs];exact lay_ok w v l h hr hs
  ·rw[if_neg hs];exact lay_long w v l h hr (by omega) hm
 ·rw[if_neg hr];exact lay_bad w v l h hr
end Go.Proofs.YtjepgclnbbpnaaaGreat.P9
namespace Go.Proofs.YtjepgclnbbpnaaaGreat.PP
open PK (qqA qqB qqC qqD qqE qqF tk tkS dOne qh)
open Go Go.RowKit Go.Lib P0
def GetAt(w:World)(b:Nat)(s:ByteArray)(bad:Int):Prop:=w.heap[b]?=some (.cells #[.string s,.int .i64 bad] 184 (0,0))
theorem GetAt.c0{w:World}{b:Nat}{s:ByteArray}{bad:Int}(h:GetAt w b s bad):w.cell? ⟨b,0,none⟩=some (.string s):=by unfold GetAt at h;rw[cell_at h];rfl
theorem GetAt.c1{w:World}{b:Nat}{s:ByteArray}{bad:Int}(h:GetAt w b s bad):w.cell? ⟨b,1,none⟩=some (.int .i64 bad):=by unfold GetAt at h;rw[cell_at h];rfl
theorem GetAt.f{w:World}{b:Nat}{s:ByteArray}{bad:Int}(h:GetAt w b s bad)(j:Nat):w.frozen? ⟨b,j,none⟩=false:=free_at h j
theorem GetAt.set0{w:World}{b:Nat}{s:ByteArray}{bad:Int}(h:GetAt w b s bad)(t:ByteArray):GetAt (w.setCell ⟨b,0,none⟩ (.string t)) b t bad:=by unfold GetAt at *;rw[set_at h];rfl
theorem GetAt.set1{w:World}{b:Nat}{s:ByteArray}{bad:Int}(h:GetAt w b s bad)(e:Int):GetAt (w.setCell ⟨b,1,none⟩ (.int .i64 e)) b s e:=by unfold GetAt at *;rw[set_at h];rfl
theorem getBad_any(w:World)(b:Nat)(s:ByteArray)(bad:Int)(h:GetAt w b s bad) :
  Calls Tryz.prog 145 #[.pointer (some ⟨b,0,none⟩)] w fun r w'=>r=.returned (.int .i64 bad)∧w=w':=by
 have c1:=h.c1
 clear h
 go_enter Tryz.func145,Tryz.ntmps145
 go_wp2
 go_ret
 exact⟨rfl,rfl⟩
theorem getFail_any(w:World)(b:Nat)(s:ByteArray)(bad e:Int)(h:GetAt w b s bad) :
  Calls Tryz.prog 144 #[.pointer (some ⟨b,0,none⟩),.int .i64 e] w fun r w'=>r=.returned (.tuple #[])∧GetAt w' b ⟨#[]⟩ e∧Fr b w w':=by
 have c0:=h.c0
 have f0:=h.f 0
 have g1:=h.set0 ⟨#[]⟩
 have c1:=g1.c1
 have f1:=g1.f 1
 have g2:=g1.set1 e
 have hB:Fr b w ((w.setCell ⟨b,0,none⟩ (.string ⟨#[]⟩)).setCell ⟨b,1,none⟩ (.int .i64 e)):=((Fr.refl b w).setCell _ _).setCell _ _
 clear h g1
 go_enter Tryz.func144,Tryz.ntmps144
 go_wp2
 go_end0
 exact⟨rfl,g2,hB⟩
theorem getRaw_bad(w:World)(b:Nat)(s:ByteArray)(bad n:Int)(hbad:bad≠0)(h:GetAt w b s bad) :
  Calls Tryz.prog 142 #[.pointer (some ⟨b,0,none⟩),.int .i64 n] w fun r w'=>r=.returned (.string ⟨#[]⟩)∧w=w':=by
 have k:(bad != 0)=true:=by simpa using hbad
 go_enter Tryz.func142,Tryz.ntmps142
 go_wp2_with (go_at_call 145;refine (getBad_any _ b s bad h).mono ?_;rintro e w' ⟨rfl,rfl⟩)
 go_ret
 exact⟨rfl,rfl⟩
theorem getRaw_neg(w:World)(b:Nat)(s:ByteArray)(n:Int)(hn:n < 0)(h:GetAt w b s 0) :
  Calls Tryz.prog 142 #[.pointer (some ⟨b,0,none⟩),.int .i64 n] w fun r w'=>r=.returned (.string ⟨#[]⟩)∧GetAt w' b ⟨#[]⟩ 1∧Fr b w w':=by
 have k:decide (n < 0)=true:=by simpa using hn
 go_enter Tryz.func142,Tryz.ntmps142
 go_wp2_with (first|(go_at_call 145;refine (getBad_any _ b s 0 h).mono ?_;rintro e w' ⟨rfl,rfl⟩)|(go_at_call 144;refine (getFail_any _ b s 0 1 h).mono ?_;rintro e w' ⟨rfl,h1,h2⟩))
 go_ret
 exact⟨rfl,h1,h2⟩
theorem getRaw_over(w:World)(b:Nat)(s:ByteArray)(n:Nat)(hn:s.size < n)(h:GetAt w b s 0) :
  Calls Tryz.prog 142 #[.pointer (some ⟨b,0,none⟩),.int .i64 n] w fun r w'=>r=.returned (.string ⟨#[]⟩)∧GetAt w' b ⟨#[]⟩ 5∧Fr b w w':=by
 have k:decide ((n:Int) < 0)=false:=by simp
 have k2:decide (s.size < n)=true:=by simpa using hn
 have k3:decide ((s.size:Int) < (n:Int))=true:=by simpa using hn
 have c0:=h.c0
 go_enter Tryz.func142,Tryz.ntmps142
 go_wp2_with (first|(go_at_call 145;refine (getBad_any _ b s 0 h).mono ?_;rintro e w' ⟨rfl,rfl⟩)|(go_at_call 144;refine (getFail_any _ b s 0 5 h).mono ?_;rintro e w' ⟨rfl,h1,h2⟩))
 go_ret
 exact⟨rfl,h1,h2⟩
theorem getRaw_ok(w:World)(b:Nat)(s:ByteArray)(n:Nat)(hn:n≤s.size)(h:GetAt w b s 0) :
  Calls Tryz.prog 142 #[.pointer (some ⟨b,0,none⟩),.int .i64 n] w fun r w'=>r=.returned (.string (s.extract 0 n))∧GetAt w' b (s.extract n s.size) 0∧Fr b w w':=by
 have k:decide ((n:Int) < 0)=false:=by simp
 have k2:decide (s.size < n)=false:=by simpa using hn
 have k3:decide ((s.size:Int) < (n:Int))=false:=by simpa using hn
 have c0:=h.c0
 have f0:=h.f 0
 have g1:=h.set0 (s.extract n s.size)
 have hB:Fr b w (w.setCell ⟨b,0,none⟩ (.string (s.extract n s.size))):=((Fr.refl b w).setCell _ _)
 go_enter Tryz.func142,Tryz.ntmps142
 go_wp2_with (first|(go_at_call 145;refine (getBad_any _ b s 0 h).mono ?_;rintro e w' ⟨rfl,rfl⟩))
 go_ret
 exact⟨rfl,g1,hB⟩
def num:List UInt8→Nat
 | []=>0
 | c::r=>c.toNat+256*num r
theorem num_lt:∀ xs:List UInt8,num xs < 256 ^ xs.length
 | []=>by simp[num]
 | c::r=>by
  have:=num_lt r
  have h1:=c.toNat_lt
  simp only[num,List.length_cons,Nat.pow_succ]
  omega
theorem num_snoc(xs:List UInt8)(c:UInt8):num (xs++[c])=num xs+c.toNat*256 ^ xs.length:=by
 induction xs with
 | nil=>simp[num]
 | cons a r ih=>simp only[List.cons_append,num,ih,List.length_cons,Nat.pow_succ,Nat.mul_add,← Nat.add_assoc];rw[show 256*(c.toNat*256 ^ r.length)=c.toNat*(256 ^ r.length*256) by rw[Nat.mul_left_comm,Nat.mul_comm 256]]
theorem take_snoc(s:ByteArray)(k:Nat)(h:k < s.size):s.data.toList.take (k+1)=s.data.toList.take k++[s[k]]:=by
 rw[List.take_succ_eq_append_getElem (by simpa using h)];rfl
theorem or_step(A c k:Nat)(hA:A < 256 ^ k)(hc:c < 256)(hk:k < 8) :
  bits .or .u64 (A:Int) (IntKind.u64.wrap (IntKind.u64.wrap (c:Int)*2 ^ (8*k)))=((A+c*256 ^ k:Nat):Int):=by
 have e:256 ^ k=2 ^ (8*k):=by rw[Nat.pow_mul]
 have h1:256 ^ k*256≤18446744073709551616:=by
  have:256 ^ (k+1)≤256 ^ 8:=Nat.pow_le_pow_right (by omega) (by omega)
  rw[Nat.pow_succ] at this;omega
 have h2:c*256 ^ k < 18446744073709551616:=by
  have:c*256 ^ k≤255*256 ^ k:=Nat.mul_le_mul_right _ (by omega)
  have:0 < 256 ^ k:=Nat.pow_pos (by omega)
  omega
 have w1:IntKind.u64.wrap (c:Int)=(c:Int):=by rw[IntKind.wrap_u64];omega
 have w2:(c:Int)*2 ^ (8*k)=((c*256 ^ k:Nat):Int):=by rw[e];simp
 have w3:IntKind.u64.wrap ((c*256 ^ k:Nat):Int)=((c*256 ^ k:Nat):Int):=by rw[IntKind.wrap_u64];omega
 rw[w1,w2,w3,u64_or_nat _ _ (by omega) h2]
 have h3:=Nat.shiftLeft_add_eq_or_of_lt (i:=8*k) (b:=A) (by rw[← e];exact hA) c
 rw[Nat.shiftLeft_eq,← e] at h3
 rw[Nat.or_comm,← h3,Nat.add_comm]
theorem num_take_lt(xs:List UInt8)(k:Nat)(hk:k≤xs.length):num (xs.take k) < 256 ^ k:=by
 have:=num_lt (xs.take k)
 rwa[List.length_take,Nat.min_eq_left hk] at this
theorem or_num(t:ByteArray)(k:Nat)(h:k < t.size)(h8:k < 8) :
  bits .or .u64 ((num (t.data.toList.take k):Nat):Int) (IntKind.u64.wrap (IntKind.u64.wrap ((t[k].toNat:Nat):Int)*2 ^ (8*k)))=((num (t.data.toList.take (k+1)):Nat):Int):=by
 have hl:k≤t.data.toList.length:=by simp only[Array.length_toList];exact Nat.le_of_lt h
 rw[or_step _ _ _ (num_take_lt _ _ hl) t[k].toNat_lt h8,take_snoc t k h,num_snoc,List.length_take,Nat.min_eq_left hl]
theorem getNumber_loop(w:World)(b:Nat)(s:ByteArray)(n:Nat)(hn:n≤s.size)(h8:n≤8)(h:GetAt w b s 0) :
  Calls Tryz.prog 141 #[.pointer (some ⟨b,0,none⟩),.int .i64 n] w fun r w'=>r=.returned (.int .i64 (wrap64 (num (s.data.toList.take n))))∧GetAt w' b (s.extract n s.size) 0∧Fr b w w':=by
 obtain⟨t,ht⟩:∃ t,t=s.extract 0 n:=⟨_,rfl⟩
 have hts:t.size=n:=by rw[ht,ByteArray.size_extract];omega
 have H:=getRaw_ok w b s n hn h
 rw[← ht] at H
 have htl:s.data.toList.take n=t.data.toList:=by rw[ht];simp[ByteArray.data_extract]
 rw[htl]
 clear htl ht hn
 have HH:=qh H
 clear H h
 go_enter Tryz.func141,Tryz.ntmps141
 go_wp2_with (go_at_call 142;refine HH.out.mono ?_;rintro e w' ⟨rfl,h1,h2⟩)
 go_loop [6,7,13] (fun v j i=>∃ k:Nat,k≤n∧i=.int .i64 k∧v=.int .u64 (num (t.data.toList.take k):Nat)) (fun _ _ i=>n - (RowKit.intOf i).toNat)
 case atStart=>exact⟨0,Nat.zero_le _,rfl,rfl⟩
 case round=>
  obtain⟨k,hk,rfl,rfl⟩:=hrel
  by_cases hlt:k < n
  ·have hor:=qh (or_num t k (by omega) (by omega))
   go_wp2
   refine⟨⟨k+1,by omega,by go_num,congrArg _ hor.out⟩,by simp[RowKit.intOf];omega⟩
  ·obtain rfl:k=n:=by omega
   have e:t.data.toList.take k=t.data.toList:=List.take_of_length_le (by rw[← hts];simp)
   have E:=qh e
   clear e
   go_wp2
   go_ret
   refine⟨?_,h1,h2⟩
   rw[E.out]
   rfl
def getNum(n:Nat)(s:ByteArray)(bad:Int):Int×ByteArray×Int:=
 if bad=0 then (if n≤s.size then (wrap64 (num (s.data.toList.take n)),s.extract n s.size,0) else (0,⟨#[]⟩,5)) else (0,s,bad)
theorem getNumber_none(w:World)(b:Nat)(s':ByteArray)(bad':Int)(n:Nat)
  (H:Calls Tryz.prog 142 #[.pointer (some ⟨b,0,none⟩),.int .i64 n] w fun r w'=>r=.returned (.string ⟨#[]⟩)∧GetAt w' b s' bad'∧Fr b w w') :
  Calls Tryz.prog 141 #[.pointer (some ⟨b,0,none⟩),.int .i64 n] w fun r w'=>r=.returned (.int .i64 0)∧GetAt w' b s' bad'∧Fr b w w':=by
 have HH:=qh H
 clear H
 go_enter Tryz.func141,Tryz.ntmps141
 go_wp2_with (go_at_call 142;refine HH.out.mono ?_;rintro e w' ⟨rfl,h1,h2⟩)
 refine wp_loop_rounds 1 ?_
 rw[rounds_succ]
 go_wp2
 go_ret
 exact⟨rfl,h1,h2⟩
theorem getNumber_any(w:World)(b:Nat)(s:ByteArray)(bad:Int)(n:Nat)(h8:n≤8)(h:GetAt w b s bad) :
  Calls Tryz.prog 141 #[.pointer (some ⟨b,0,none⟩),.int .i64 n] w fun r w'=>r=.returned (.int .i64 (getNum n s bad).1)∧GetAt w' b (getNum n s bad).2.1 (getNum n s bad).2.2∧Fr b w w':=by
 unfold getNum
 by_cases hbad:bad=0
 ·subst hbad
  rw[if_pos rfl]
  by_cases hn:n≤s.size
  ·rw[if_pos hn]
   exact getNumber_loop w b s n hn h8 h
  ·rw[if_neg hn]
   exact getNumber_none w b _ 5 n (getRaw_over w b s n (by omega) h)
 ·rw[if_neg hbad]
  exact getNumber_none w b _ bad n ((getRaw_bad w b s bad n hbad h).mono fun _ _ ⟨a,c⟩=>⟨a,c ▸ h,c ▸ Fr.refl _ _⟩)
def getStr(n:Int)(s:ByteArray)(bad:Int):ByteArray×ByteArray×Int:=
 if bad=0 then (if n < 0 then (⟨#[]⟩,⟨#[]⟩,1) else if n≤s.size then (s.extract 0 n.toNat,s.extract n.toNat s.size,0) else (⟨#[]⟩,⟨#[]⟩,5)) else (⟨#[]⟩,s,bad)
theorem getRaw_any(w:World)(b:Nat)(s:ByteArray)(bad n:Int)(h:GetAt w b s bad) :
  Calls Tryz.prog 142 #[.pointer (some ⟨b,0,none⟩),.int .i64 n] w fun r w'=>r=.returned (.string (getStr n s bad).1)∧GetAt w' b (getStr n s bad).2.1 (getStr n s bad).2.2∧Fr b w w':=by
 unfold getStr
 by_cases hbad:bad=0
 ·subst hbad
  rw[if_pos rfl]
  by_cases hn:n < 0
  ·rw[if_pos hn]
   exact getRaw_neg w b s n hn h
  ·obtain⟨k,rfl⟩:=Int.eq_ofNat_of_zero_le (show 0≤n by omega)
   rw[if_neg hn]
   by_cases hk:k≤s.size
   ·rw[if_pos (by omega)]
    exact getRaw_ok w b s k hk h
   ·rw[if_neg (by omega)]
    exact getRaw_over w b s k (by omega) h
 ·rw[if_neg hbad]
  exact (getRaw_bad w b s bad n hbad h).mono fun _ _ ⟨a,c⟩=>⟨a,c ▸ h,c ▸ Fr.refl _ _⟩
def getTxt(s:ByteArray)(bad:Int):ByteArray×ByteArray×Int:=getStr (getNum 2 s bad).1 (getNum 2 s bad).2.1 (getNum 2 s bad).2.2
def getFin(s:ByteArray)(bad:Int):Int:=if 0 < s.size then 6 else bad
end Go.Proofs.YtjepgclnbbpnaaaGreat.PP
namespace Go.Proofs.YtjepgclnbbpnaaaGreat.PP
open Go Go.RowKit Go.Lib P0
theorem num_append(a b:List UInt8):num (a++b)=num a+256 ^ a.length*num b:=by
 induction a with
 | nil=>simp[num]
 | cons c r ih=>
  simp only[List.cons_append,num,ih,List.length_cons,Nat.pow_succ,Nat.mul_add,← Nat.add_assoc]
  rw[Nat.mul_comm (256 ^ r.length) 256,Nat.mul_assoc]
theorem num_low(n v:Nat):num (low n v)=v % 256 ^ n:=by
 induction n with
 | zero=>simp[low,num,Nat.mod_one]
 | succ n ih=>
  rw[low_succ,num_append,ih,low_length]
  have e:num [UInt8.ofNat (v / 256 ^ n)]=v / 256 ^ n % 256:=by
   simp[num,UInt8.toNat_ofNat']
  rw[e,Nat.pow_succ,Nat.mod_mul]
theorem num_low_fits{n v:Nat}(h:v < 256 ^ n):num (low n v)=v:=by rw[num_low,Nat.mod_eq_of_lt h]
theorem str_cut(l:List UInt8)(i j:Nat):(str l).extract i j=str ((l.take j).drop i):=by
 apply ByteArray.ext
 apply Array.toList_inj.1
 rw[Lib.extract_data,str_list,str_list,List.take_drop]
 by_cases h:i≤j
 ·rw[Nat.add_sub_cancel' h]
 ·rw[show j - i=0 by omega,Nat.add_zero,List.drop_eq_nil_of_le (by simp;omega),List.drop_eq_nil_of_le (by simp;omega)]
theorem str_front(a r:List UInt8):(str (a++r)).extract 0 a.length=str a:=by
 rw[str_cut];simp
theorem str_behind(a r:List UInt8):(str (a++r)).extract a.length (str (a++r)).size=str r:=by
 rw[str_cut,str_size,List.take_of_length_le (Nat.le_refl _),List.drop_left]
theorem getNum_of(a r:List UInt8):getNum a.length (str (a++r)) 0=(wrap64 (num a),str r,0):=by
 unfold getNum
 rw[if_pos rfl,if_pos (by rw[str_size];simp),str_behind,str_list,List.take_left]
theorem getNum_low(n v:Nat)(r:List UInt8)(h:v < 256 ^ n):getNum n (str (low n v++r)) 0=(wrap64 v,str r,0):=by
 have e:=getNum_of (low n v) r
 rwa[low_length,num_low_fits h] at e
theorem getStr_of(a r:List UInt8):getStr (a.length:Nat) (str (a++r)) 0=(str a,str r,0):=by
 unfold getStr
 rw[if_pos rfl,if_neg (by omega),if_pos (by rw[str_size];simp;omega)]
 simp only[Int.toNat_natCast]
 rw[str_front,str_behind]
theorem wrap_small(n:Nat)(h:n < 9223372036854775808):wrap64 (n:Int)=n:=by unfold wrap64;omega
theorem getTxt_of(a r:List UInt8)(h:a.length≤65535):getTxt (str (low 2 a.length++(a++r))) 0=(str a,str r,0):=by
 unfold getTxt
 rw[getNum_low 2 a.length (a++r) (by omega)]
 simp only
 rw[wrap_small _ (by omega),getStr_of]
end Go.Proofs.YtjepgclnbbpnaaaGreat.PP
