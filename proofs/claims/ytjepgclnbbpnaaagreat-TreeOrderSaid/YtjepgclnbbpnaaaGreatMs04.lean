/-
  Texts of the proofs of SaidOrd12.
-/
import Derived.Test.YtjepgclnbbpnaaaGreatMs03
import Derived.Laws.AppendOwnNone
set_option linter.unusedVariables false
set_option linter.unusedSimpArgs false
set_option maxHeartbeats 8000000
set_option maxRecDepth 100000
namespace Go.Proofs.YtjepgclnbbpnaaaGreat.P10
open PK (qqA qqB qqC qqD qqE qqF tk tkS dOne qh)
open Go Go.RowKit Go.Lib PK
def upK(l:List It)(k:ByteArray):Nat:=if hasK l k=true then lowK l k+1 else lowK l k
theorem upK_le{l:List It}(hr:RightO l)(k:ByteArray):upK l k≤l.length:=by
 unfold upK
 cases hd:hasK l k with
 | true=>
  obtain⟨z,hz,_⟩:=lowK_hit hr (hasK_iff.1 hd)
  have:=(List.getElem?_eq_some_iff.1 hz).1
  rw[if_pos rfl]
  omega
 | false=>rw[if_neg (by simp)];exact lowK_le l k
theorem upK_eq{l:List It}(hr:RightO l){k:ByteArray}{n:Nat}(h1:∀ (j:Nat) (y:It),j < n→l[j]?=some y→kb k y.key=false)(hn:n≤l.length)(h2:∀ y,l[n]?=some y→kb k y.key=true):upK l k=n:=by
 unfold upK
 cases hd:hasK l k with
 | true=>
  rw[if_pos rfl]
  obtain⟨z,hz,hzk⟩:=lowK_hit hr (hasK_iff.1 hd)
  rcases Nat.lt_trichotomy (lowK l k) n with q|q|q
  ·by_cases e:lowK l k+1=n
   ·exact e
   ·obtain⟨y,hy⟩:∃ y,l[lowK l k+1]?=some y:=⟨_,List.getElem?_eq_getElem (by omega)⟩
    have h3:=rise_at hr hz hy (by omega)
    rw[hzk,h1 _ y (by omega) hy] at h3
    cases h3
  ·have h3:=h2 z (by rw[← q];exact hz)
   rw[hzk,kb_irr] at h3
   cases h3
  ·obtain⟨y,hy⟩:∃ y,l[n]?=some y:=⟨_,List.getElem?_eq_getElem (by have:=(List.getElem?_eq_some_iff.1 hz).1;omega)⟩
   have h3:=rise_at hr hy hz q
   rw[hzk,kb_asym (h2 y hy)] at h3
   cases h3
 | false=>
  rw[if_neg (by simp)]
  refine lowK_eq (fun j y hj hy=>?_) hn (fun y hy=>kb_asym (h2 y hy))
  have hne:y.key≠k:=fun e=>by
   rw[hasK_not] at hd
   exact hd (List.mem_map.2 ⟨y,List.mem_of_getElem? hy,e⟩)
  cases hq:kb y.key k with
  | true=>rfl
  | false=>exact absurd (kb_tri hq (h1 j y hj hy)) hne
theorem kb_gtr(a k:ByteArray):(!(Op.bytesLess a.toList k.toList || a.toList == k.toList))=kb k a:=by
 show (!(kb a k || a.toList == k.toList))=kb k a
 cases h:kb k a with
 | true=>
  have h1:=kb_asym h
  have h2:(a.toList == k.toList)=false:=beq_eq_false_iff_ne.2 fun e=>by
   rw[ByteArray.toList_eq,ByteArray.toList_eq] at e
   rw[ba_ext e,kb_irr] at h
   cases h
  rw[h1,h2]
  rfl
 | false=>
  cases h1:kb a k with
  | true=>rfl
  | false=>
   rw[kb_tri h h1]
   simp
theorem findC_any(w:World)(bl bk b off n c:Nat)(x:It)(k:ByteArray)(i:Nat)(hi:i < n)
  (hl:w.cell? ⟨bl,0,none⟩=some (.slice (some ⟨b,off,none⟩) n c)) (hk:w.cell? ⟨bk,0,none⟩=some (.string k)) (c0:w.cell? ⟨b,off+i*2,none⟩=some (.string x.key)) :
  Calls Tryz.prog 82 #[.int .i64 i,.pointer (some ⟨bl,0,none⟩),.pointer (some ⟨bk,0,none⟩)] w fun e w'=>e=.returned (.bool (kb k x.key))∧Below w.heap.size w w':=by
 rw[← kb_gtr x.key k]
 generalize x.key=a at *
 have hin:(i:Int) < (n:Int):=by omega
 have hi0:(0:Int)≤(i:Int):=by omega
 go_enter Tryz.func82,Tryz.ntmps82
 go_wp2
 go_region
 all_goals go_wp2
 all_goals go_ret
 all_goals exact⟨by first|rfl|simp,(Below.refl _ _).drew⟩
theorem search_any (w:World) (bl bk:Nat) (a:Option Addr) (c:Nat) (l:List It) (k:ByteArray) (h:ItsIn w (.slice a l.length c) l) (hn:l.length≤1000000) (hr:RightO l)
  (hl:w.cell? ⟨bl,0,none⟩=some (.slice a l.length c)) (hk:w.cell? ⟨bk,0,none⟩=some (.string k)) (hbl:bl < w.heap.size) (hbk:bk < w.heap.size) :
  Calls Tryz.prog 81 #[.int .i64 l.length,.func (.func 82) #[] #[.pointer (some ⟨bl,0,none⟩),.pointer (some ⟨bk,0,none⟩)]] w fun e w'=>e=.returned (.int .i64 (upK l k:Nat))∧Below w.heap.size w w':=by
 have HA:=qh (fun (i:Nat) (x:It) (hi:l[i]?=some x)=>h.at_ hi)
 obtain⟨N,hN⟩:∃ N,N=l.length:=⟨_,rfl⟩
 have HG:Hid (∀ (W:World),Below w.heap.size w W→∀ (i:Nat) (x:It),l[i]?=some x→Calls Tryz.prog 82 #[.int .i64 i,.pointer (some ⟨bl,0,none⟩),.pointer (some ⟨bk,0,none⟩)] W fun e w'=>e=.returned (.bool (kb k x.key))∧Below W.heap.size W w'):=fun W hW i x hx=>by
  obtain⟨b,off,rfl,hc⟩:=h.at_ hx
  exact findC_any W bl bk b off l.length c x k i (List.getElem?_eq_some_iff.1 hx).1 ((hW.cell (p:=⟨bl,0,none⟩) hbl).trans hl) ((hW.cell (p:=⟨bk,0,none⟩) hbk).trans hk) (hc W hW).1
 have HN:=qh hN
 have HR:=qh hr
 have hlen:N≤1000000:=by omega
 rw[← hN]
 clear h hN hn hr hl hk hbl hbk HA
 go_enter Tryz.func81,Tryz.ntmps81
 go_wp2
 go_loopw [5,6] (fun vl vh wr=>∃ lo hi:Nat,vl=.int .i64 lo∧vh=.int .i64 hi∧lo≤hi∧hi≤N∧Hid (∀ (j:Nat) (y:It),j < lo→l[j]?=some y→kb k y.key=false)∧Hid (∀ (j:Nat) (y:It),hi≤j→l[j]?=some y→kb k y.key=true)∧Hid (Below w.heap.size w wr)) (fun vl vh _=>(RowKit.intOf vh - RowKit.intOf vl).toNat)
 case atStart=>exact⟨0,N,rfl,rfl,Nat.zero_le _,Nat.le_refl _,fun j y hj=>absurd hj (Nat.not_lt_zero _),fun j y hj hy=>(by have:=(List.getElem?_eq_some_iff.1 hy).1;rw[← HN.out] at this;omega),Below.refl _ _⟩
 case round=>
  obtain⟨lo,hi,rfl,rfl,hlh,hhn,HL,HH,HB⟩:=hrel
  by_cases hlt:lo < hi
  ·obtain⟨x,hx⟩:∃ s,l[(lo+hi) / 2]?=some s:=⟨_,List.getElem?_eq_getElem (by have:=HN.out;omega)⟩
   have HX:=qh hx
   have hlt2:(lo:Int) < (hi:Int):=by omega
   have HK:=HG.out wr HB.out _ x hx
   rw[show (((lo+hi) / 2:Nat):Int)=((lo:Int)+(hi:Int)) / 2 by omega] at HK
   have HK:=qh HK
   clear hx
   cases hq:kb k x.key with
   | true=>
    rw[hq] at HK
    have HQ:=qh hq
    clear hq
    go_wp2_with (go_at_call 82;(with_reducible refine (HK.out).mono ?_);rintro e w2 ⟨rfl,hb⟩)
    go_roundw
    case rel=>
     refine⟨lo,(lo+hi) / 2,rfl,by rw[show ((lo:Int)+(hi:Int)) / 2=(((lo+hi) / 2:Nat):Int) by omega],by omega,by omega,HL,fun j y hj hy=>?_,thenBelow HB.out hb⟩
     rcases Nat.lt_or_eq_of_le hj with q|q
     ·exact kb_trans HQ.out (rise_at HR.out HX.out hy q)
     ·subst q
      rw[HX.out] at hy
      obtain rfl:=Option.some.inj hy
      exact HQ.out
    case measure=>simp[RowKit.intOf];omega
   | false=>
    rw[hq] at HK
    have HQ:=qh hq
    clear hq
    go_wp2_with (go_at_call 82;(with_reducible refine (HK.out).mono ?_);rintro e w2 ⟨rfl,hb⟩)
    go_roundw
    case rel=>
     refine⟨(lo+hi) / 2+1,hi,by rw[show ((lo:Int)+(hi:Int)) / 2+1=(((lo+hi) / 2+1:Nat):Int) by omega],rfl,by omega,hhn,fun j y hj hy=>?_,HH,thenBelow HB.out hb⟩
     by_cases q:j < lo
     ·exact HL.out j y q hy
     ·by_cases q2:j=(lo+hi) / 2
      ·subst q2
       rw[HX.out] at hy
       obtain rfl:=Option.some.inj hy
       exact HQ.out
      ·have h9:=rise_at HR.out hy HX.out (by omega)
       cases h8:kb k y.key with
       | false=>rfl
       | true=>
        have h7:=HQ.out
        rw[kb_trans h8 h9] at h7
        cases h7
    case measure=>simp[RowKit.intOf];omega
  ·obtain rfl:lo=hi:=by omega
   have hlow:upK l k=lo:=upK_eq HR.out (fun j y hj hy=>HL.out j y hj hy) (by have:=HN.out;omega) (fun y hy=>HH.out lo y (Nat.le_refl _) hy)
   have HW:=qh hlow
   have hlt2:decide ((lo:Int) < (lo:Int))=false:=decide_eq_false (by omega)
   clear hlow
   go_wp2
   go_ret
   exact⟨by rw[HW.out];rfl,HB.out⟩
def findK(l:List It)(k:ByteArray):Int:=if l.length=0 then -1 else if hasK l k=true then (lowK l k:Nat) else if lowK l k=0 then 0 else ((lowK l k:Nat):Int) - 1
theorem find_any(w:World)(v:Value)(l:List It)(k:ByteArray)(h:ItsIn w v l)(hn:l.length≤1000000)(hr:RightO l) :
  Calls Tryz.prog 68 #[v,.string k] w fun e w'=>e=.returned (.int .i64 (findK l k))∧Below w.heap.size w w':=by
 have hle:=upK_le hr k
 obtain⟨a,c,rfl⟩:=h.slice
 by_cases h0:l.length=0
 ·have e:findK l k=-1:=by unfold findK;rw[if_pos h0]
  rw[e,h0]
  have HB:=qh (show Below w.heap.size w ((w.alloc (.cells #[.slice a 0 c] 78)).alloc (.cells #[.string k] 9)) from grow (below_new w _) _)
  clear h hn hr h0 hle e
  go_enter Tryz.func68,Tryz.ntmps68
  go_wp2
  go_ret
  exact⟨by first|rfl|simp,HB.out⟩
 ·have HB:=qh (show Below w.heap.size w ((w.alloc (.cells #[.slice a l.length c] 78)).alloc (.cells #[.string k] 9)) from grow (below_new w _) _)
  have HS:=qh (search_any ((w.alloc (.cells #[.slice a l.length c] 78)).alloc (.cells #[.string k] 9)) w.heap.size (w.heap.size+1) a c l k (h.below HB.out) hn hr
   (((below_new (w.alloc (.cells #[.slice a l.length c] 78)) (.cells #[.string k] 9)).cell (p:=⟨w.heap.size,0,none⟩) (by simp)).trans (by rw[cell_at (new_at w _ _)];rfl))
   (by
    have q:=cell_at (new_at (w.alloc (.cells #[.slice a l.length c] 78)) #[.string k] 9) 0
    rw[World.size_alloc] at q
    rw[q]
    rfl)
   (by simp;omega) (by simp))
  have e1:((l.length:Int) == 0)=false:=beq_eq_false_iff_ne.2 (by omega)
  have e2:(l.length == 0)=false:=beq_eq_false_iff_ne.2 h0
  have e:findK l k=max ((upK l k:Nat) - 1:Int) 0:=by
   unfold findK upK
   rw[if_neg h0]
   cases hd:hasK l k with
   | true=>simp
   | false=>
    simp only[if_neg (Bool.false_ne_true),Bool.false_eq_true,if_false]
    split <;> omega
  rw[e]
  have hu:upK l k≤1000000:=by omega
  generalize upK l k=n at *
  have k3:IntKind.i64.wrap ((n:Int) - 1)=(n:Int) - 1:=by rw[IntKind.wrap_i64];omega
  clear h hn hr h0 hle e
  go_enter Tryz.func68,Tryz.ntmps68
  go_wp2_with (go_at_call 81;(with_reducible refine (HS.out).mono ?_);rintro e w2 ⟨rfl,hb⟩;have HB2:=qh (thenBelow HB.out hb);clear hb)
  go_ret
  exact⟨by first|rfl|(rw[k3];done)|simp,HB2.out⟩
end Go.Proofs.YtjepgclnbbpnaaaGreat.P10
namespace Go.Proofs.YtjepgclnbbpnaaaGreat.P12
open Go Go.RowKit Go.Lib PK
open P9 (It kb)
def Dn(M:PM)(D:Nat)(root:Int)(key:ByteArray)(L:List It)(ids:List Int)(fs:List Fr)(d:Nat)(id:Int)(l:List It)(i:List Int):Prop:=
 ∃ la lb ia ib,Way M D root fs d id la lb ia ib∧TreeAt M d id l i∧Room fs l∧L=la++l++lb∧ids=ia++i++ib∧Lows la key∧Highs lb key
theorem Dn.start{M:PM}{D:Nat}{root:Int}(key:ByteArray){L:List It}{ids:List Int}(h:TreeAt M D root L ids):Dn M D root key L ids [] D root L ids:=
 ⟨[],[],[],[],Way.start M D root,h,Room.nil_ _,by simp,by simp,Lows.nil _,Highs.nil _⟩
theorem find_split{ks:List P10.It}(hr:P10.RightO ks)(hn:2≤ks.length)(key:ByteArray) :
  ∃ a k b,ks=a++k::b∧P10.findK ks key=(a.length:Nat)∧(a=[]∨kb key k.key=false)∧∀ q∈b,kb key q.key=true:=by
 obtain⟨j,hj,hjl,h1,h2⟩:∃ j:Nat,P10.findK ks key=(j:Nat)∧j < ks.length∧(j=0∨∀ q,ks[j]?=some q→kb key q.key=false)∧∀ q∈ks.drop (j+1),kb key q.key=true:=by
  unfold P10.findK
  rw[if_neg (by omega)]
  have hd:=fun q=>P10.mem_drop_low hr (k:=key) (x:=q)
  have hle:=P10.lowK_le ks key
  by_cases hk:P10.hasK ks key=true
  ·rw[if_pos hk] at hd ⊢
   obtain⟨x,hx,e⟩:=P10.lowK_hit hr (P10.hasK_iff.1 hk)
   refine⟨P10.lowK ks key,rfl,(List.getElem?_eq_some_iff.1 hx).1,.inr fun q hq=>?_,fun q hq=>hd q hq⟩
   rw[hx] at hq
   cases hq
   rw[e]
   exact P9.kb_irr key
  ·rw[if_neg hk] at hd ⊢
   by_cases h0:P10.lowK ks key=0
   ·rw[if_pos h0]
    exact⟨0,rfl,by omega,.inl rfl,fun q hq=>hd q (by rw[h0];exact List.mem_of_mem_drop hq)⟩
   ·rw[if_neg h0]
    refine⟨P10.lowK ks key - 1,by omega,by omega,.inr fun q hq=>?_,fun q hq=>hd q (by rwa[show P10.lowK ks key - 1+1=P10.lowK ks key by omega] at hq)⟩
    exact P9.kb_asym (P10.lowK_ahead (k:=key) (by omega) hq)
 refine⟨ks.take j,ks[j],ks.drop (j+1),?_,by rw[hj,List.length_take,Nat.min_eq_left (by omega)],?_,h2⟩
 ·rw[← List.drop_eq_getElem_cons hjl,List.take_append_drop]
 ·rcases h1 with rfl|h1
  ·exact .inl rfl
  ·exact .inr (h1 _ (List.getElem?_eq_getElem hjl))
theorem Dn.len{M:PM}{D:Nat}{root:Int}{key:ByteArray}{L:List It}{ids:List Int}{fs:List Fr}{d:Nat}{id:Int}{l:List It}{i:List Int}(h:Dn M D root key L ids fs d id l i):d+fs.length=D:=by
 obtain⟨_,_,_,_,hw,_⟩:=h
 exact hw.len
end Go.Proofs.YtjepgclnbbpnaaaGreat.P12
namespace Go.Proofs.YtjepgclnbbpnaaaGreat.P12
open Go Go.RowKit Go.Lib PK
open P9 (It kb kb_trans)
theorem Kids.rise{T:Int→List It→List Int→Prop}(hT:∀ id l ids,T id l ids→0 < l.length):∀ {ks:List P10.It} {hi:Option ByteArray} {l:List It} {ids:List Int},Kids T ks hi l ids→
  ks.Pairwise (fun x y=>kb x.key y.key=true)
 | [],_,_,_,_=>List.Pairwise.nil
 | k :: ks,hi,_,_,⟨l1,i1,l2,i2,h1,h2,h3,h4,rfl,_⟩=>by
  have r:=Kids.rise hT h4
  cases ks with
  | nil=>exact List.pairwise_singleton _ _
  | cons q ks=>
   have hq:kb k.key q.key=true:=by
    obtain⟨x,hx⟩:∃ x,x∈l1:=⟨_,List.getElem_mem (hT _ _ _ h1)⟩
    have e1:=h2 x hx
    have e2:=h3 q.key rfl x hx
    by_cases c:kb k.key q.key=true
    ·exact c
    ·have:=kb_le e1 (by simpa using c)
     rw[e2] at this
     cases this
   refine List.pairwise_cons.2 ⟨fun y hy=>?_,r⟩
   rcases List.mem_cons.1 hy with rfl|hy
   ·exact hq
   ·exact kb_trans hq ((List.pairwise_cons.1 r).1 y hy)
theorem Kids.one{T:Int→List It→List Int→Prop}{q:P10.It}{hi:Option ByteArray}{l:List It}{i:List Int}(h:Kids T [q] hi l i):T q.page l i:=by
 obtain⟨l1,i1,l2,i2,h1,_,_,⟨rfl,rfl⟩,rfl,rfl⟩:=h
 simpa using h1
theorem over_head{l:List It}(hr:P9.RightI l){x:It}(hx:l[0]?=some x):Over l x.key:=fun y hy=>by
 cases l with
 | nil=>cases hy
 | cons z l=>
  cases hx
  rcases List.mem_cons.1 hy with rfl|hy
  ·exact P9.kb_irr _
  ·exact P9.kb_asym ((List.pairwise_cons.1 (P9.rightI_pair.1 hr).2).1 y hy)
theorem Dn_ids{ia i ib ids:List Int}(h:ids=ia++i++ib)(hn:ids.Nodup):ia.Nodup∧i.Nodup∧ib.Nodup∧(∀ j∈ia,j∉i∧j∉ib)∧∀ j∈i,j∉ib:=by
 subst h
 obtain⟨h1,h2,h3⟩:=List.nodup_append.1 hn
 obtain⟨h4,h5,h6⟩:=List.nodup_append.1 h1
 exact⟨h4,h5,h2,fun j hj=>⟨fun hi=>h6 j hj j hi rfl,fun hb=>h3 j (List.mem_append_left _ hj) j hb rfl⟩,fun j hj hb=>h3 j (List.mem_append_right _ hj) j hb rfl⟩
end Go.Proofs.YtjepgclnbbpnaaaGreat.P12
namespace Go.Proofs.YtjepgclnbbpnaaaGreat.PK
open Go Go.RowKit Go.Lib
section
variable {P:Program} {w:World}
theorem run_app(w:World)(base:Nat)(t ty e:TypeId)(i:TypeInfo)(z:Value)(size bytes:Nat)(ht:P.underlying t=some (.slice e))(hi:P.info? e=some i)(hz:i.zero=some z)
  (hsize:i.size=size) (hby:i.bytes=bytes) (hzs:z.cells.size=size) (hsz:0 < size)
  (v:Value) (n:Nat) (xs:List Value) (hown:w.ownsRow base e size v n xs)
  (ad:Option Addr) (m c:Nat) (news:List Value) (hl:news.length=m*size) (hnews:∀ A,ad=some A→∀ j u,news[j]?=some u→w.cell? (A.add j)=some u) (hno:ad=none→m=0∧c=0) (h1:∀ u∈news,u.oneCell'=true)
  (h63:n+m≤maxLen) (hbytes:(n+m)*bytes≤140737488355328) (hbase:base≤w.heap.size) :
  ∃ p q w',(Builtin.append_ #[t,t] ty #[v,.slice ad m c]).run P w=.ok (.slice p (n+m:Nat) q) w'∧w'.ownsRow base e size (.slice p (n+m:Nat) q) (n+m) (xs++news)∧w.grownBy w' v.ownBlock∧
   ((Value.slice p (n+m:Nat) q).ownBlock=v.ownBlock∨(Value.slice p (n+m:Nat) q).ownBlock=some w.heap.size):=by
 cases ad with
 | none=>
  obtain⟨rfl,rfl⟩:=hno rfl
  obtain rfl:news=[]:=List.eq_nil_of_length_eq_zero (by rw[hl];simp)
  have hr:=run_append_owned_none (P:=P) (w:=w) base t ty e i size ht hi v n xs hown
  have hv:∃ p q,v=.slice p n q:=by
   rcases hown.2 with ⟨rfl,rfl⟩|⟨g,cap,cur,rfl,_⟩ <;> exact⟨_,_,rfl⟩
  obtain⟨p,q,rfl⟩:=hv
  exact⟨p,q,w,hr,by rw[List.append_nil];exact hown,World.grownBy.refl _ _,.inl rfl⟩
 | some A=>
  obtain⟨v',w',hr,ho,hg,_,hat⟩:=run_append_own_at (P:=P) w base t ty e i z size bytes ht hi hz hsize hby hzs hsz v n xs hown A m c news hl (hnews A rfl) h1 h63 hbytes hbase
  have hv:∃ p q,v'=.slice p (n+m:Nat) q:=by
   rcases ho.2 with ⟨rfl,e0⟩|⟨g,cap,cur,rfl,_⟩
   ·rw[e0];exact⟨_,_,rfl⟩
   ·exact⟨_,_,rfl⟩
  obtain⟨p,q,rfl⟩:=hv
  exact⟨p,q,w',hr,ho,hg,hat⟩
theorem wpList_app{ops:Array Oper}{rest:List Oper}{o:Oper}{a:Act}{Q:Exit→Act→World→Prop}(hgd:o.guard=none)(s x:Operand)(t:TypeId)
  (ho:o.op=.call { callee:=.builtin .append,args:=#[s,x],argTypes:=#[t,t] })
  (base:Nat) (e:TypeId) (i:TypeInfo) (z:Value) (size bytes:Nat) (ht:P.underlying t=some (.slice e)) (hi:P.info? e=some i) (hz:i.zero=some z)
  (hsize:i.size=size) (hby:i.bytes=bytes) (hzs:z.cells.size=size) (hsz:0 < size)
  (v:Value) (n:Nat) (xs:List Value) (hs:a.eval s=v) (hown:w.ownsRow base e size v n xs)
  (ad:Option Addr) (m c:Nat) (news:List Value) (hx:a.eval x=.slice ad m c) (hl:news.length=m*size) (hnews:∀ A,ad=some A→∀ j u,news[j]?=some u→w.cell? (A.add j)=some u) (hno:ad=none→m=0∧c=0) (h1:∀ u∈news,u.oneCell'=true)
  (h63:n+m≤maxLen) (hbytes:(n+m)*bytes≤140737488355328) (hbase:base≤w.heap.size)
  (h:∀ p q w',w'.ownsRow base e size (.slice p (n+m:Nat) q) (n+m) (xs++news)→w.grownBy w' v.ownBlock→((Value.slice p (n+m:Nat) q).ownBlock=v.ownBlock∨(Value.slice p (n+m:Nat) q).ownBlock=some w.heap.size)→wpList P ops Q rest (a.put o.dst (.slice p (n+m:Nat) q)) w') :
  wpList P ops Q (o::rest) a w:=by
 refine wpList_plain hgd fun K hK=>?_
 obtain⟨p,q,w',hr,h2,h3,h4⟩:=run_app (P:=P) w base t o.type e i z size bytes ht hi hz hsize hby hzs hsz v n xs hown ad m c news hl hnews hno h1 h63 hbytes hbase
 unfold Oper.wp execOp
 simp only[ho,resolve,invoke,builtin,Sem.run_bind,Sem.run_pure,Result.andThen_ok,List.map_toArray,List.map_cons,List.map_nil,hs,hx,hr]
 exact hK _ _ (h p q w' h2 h3 h4)
end
theorem owned_at{w:World}{lo e size n g:Nat}{v:Value}{xs:List Value}(h:w.ownsRow lo e size v n xs)(hb:v.ownBlock=some g):lo≤g∧∃ cur:Array Value,w.heap[g]?=some (.cells cur e (0,0)):=by
 rcases h.2 with ⟨rfl,_⟩|⟨g',cap,cur,rfl,h1,h2,_⟩
 ·cases hb
 ·obtain rfl:g'=g:=by simpa [Value.ownBlock] using hb
  exact⟨h1,cur,h2⟩
end Go.Proofs.YtjepgclnbbpnaaaGreat.PK
