/-
  Texts of the proofs of SaidOrd12.
-/
import Derived.Test.YtjepgclnbbpnaaaGreatMs05
set_option linter.unusedVariables false
set_option linter.unusedSimpArgs false
set_option maxHeartbeats 8000000
set_option maxRecDepth 100000
namespace Go.Proofs.YtjepgclnbbpnaaaGreat.P12
open Go Go.RowKit Go.Lib PK
open P11 (Pg kPages infoEPages infoENs cellsP cellsP_length cellsP_ok cellsP_at cellsP_snoc PgsIn owns_pgs NsIn)
theorem PAt.setAt{w:World}{b:Nat}{vl vg:Value}{M:PM}(h:PAt w b vl vg M)(j:Nat)(u:Value):World.ownsRow (w.setCell ⟨b,j,none⟩ u) (b+1) 86 4 vl M.L.length (cellsP M.L).flatten∧World.ownsRow (w.setCell ⟨b,j,none⟩ u) (b+1) 3 1 vg M.given.length (cellsZ M.given)∧P3.Fr (·=b) w (w.setCell ⟨b,j,none⟩ u)∧(w.setCell ⟨b,j,none⟩ u).heap[b]?=some (.cells ((#[vl,.int .i64 M.fr,vg,.bool M.bad,.bool M.twice,.int .i64 (-1)]:Array Value).setIfInBounds j u) 44 (0,0)):=by
 refine⟨h.rl.kept (setCell_grownBy w b j u) ?_,h.rg.kept (setCell_grownBy w b j u) ?_,⟨rfl,rfl,rfl,by simp[World.setCell],fun i hi hn=>Below.heap_setCell _ _ _ _ hn⟩,set_at h.obj j u⟩
 ·cases e:vl.ownBlock with
  | none=>exact .inl rfl
  | some j=>exact .inr fun q=>by have:=(h.rl.lt j e).1;cases q;omega
 ·cases e:vg.ownBlock with
  | none=>exact .inl rfl
  | some j=>exact .inr fun q=>by have:=(h.rg.lt j e).1;cases q;omega
theorem PAt.setTwice{w:World}{b:Nat}{vl vg:Value}{M:PM}(h:PAt w b vl vg M)(t:Bool):PAt (w.setCell ⟨b,4,none⟩ (.bool t)) b vl vg { M with twice:=t }∧P3.Fr (·=b) w (w.setCell ⟨b,4,none⟩ (.bool t)):=by
 obtain⟨h1,h2,h3,h4⟩:=h.setAt 4 (.bool t)
 exact⟨⟨h4,h1,h2,h.ne⟩,h3⟩
def PM.free1(M:PM)(id:Int):PM:={ M with given:=M.given++[id],twice:=M.twice || M.given.any (· == id) }
def PM.free(M:PM)(ids:List Int):PM:=ids.foldl PM.free1 M
theorem PM.free_snoc(M:PM)(l:List Int)(id:Int):M.free (l++[id])=(M.free l).free1 id:=by unfold PM.free;rw[List.foldl_append];rfl
theorem PM.free_len(M:PM)(l:List Int):(M.free l).given=M.given++l:=by
 unfold PM.free
 induction l generalizing M with
 | nil=>simp
 | cons x l ih=>rw[List.foldl_cons,ih];simp[PM.free1]
theorem PM.free_L(M:PM)(l:List Int):(M.free l).L=M.L:=by
 unfold PM.free
 induction l generalizing M with
 | nil=>rfl
 | cons x l ih=>rw[List.foldl_cons,ih];rfl
theorem cellsZ_at{l:List Int}{k:Nat}{x:Int}(h:l[k]?=some x):(cellsZ l)[k]?=some (.int .i64 x):=by simp[cellsZ,h]
theorem PAt.gave{w W w3:World}{b:Nat}{vl vg vg':Value}{M:PM}{id:Int}(h:PAt w b vl vg M)(k:Below w.heap.size w W)(hown:w3.ownsRow (b+1) 3 1 vg' (M.given.length+1) (cellsZ M.given++[.int .i64 id]))
  (hg:W.grownBy w3 vg.ownBlock) (hat:vg'.ownBlock=vg.ownBlock∨vg'.ownBlock=some W.heap.size) :
  PAt (w3.setCell ⟨b,2,none⟩ vg') b vl vg' { M with given:=M.given++[id] }∧P3.Fr (PS b vl vg) w (w3.setCell ⟨b,2,none⟩ vg')∧(∀ j,vg'.ownBlock=some j→vg.ownBlock=some j∨w.heap.size≤j):=by
 have hW:=h.below k
 have hb:b < W.heap.size:=hW.lt
 have hnb:vg.ownBlock≠some b:=fun e=>by have:=(h.rg.lt b e).1;omega
 have hob:w3.heap[b]?=some (.cells #[vl,.int .i64 M.fr,vg,.bool M.bad,.bool M.twice,.int .i64 (-1)] 44 (0,0)):=(hg.block b hb (fun e=>hnb e.symm)).trans hW.obj
 have hnb':∀ j,vg'.ownBlock=some j→b+1≤j:=fun j e=>(hown.lt j e).1
 have hrl:w3.ownsRow (b+1) 86 4 vl M.L.length (cellsP M.L).flatten:=hW.rl.kept hg (by
  cases e:vl.ownBlock with
  | none=>exact .inl rfl
  | some j=>exact .inr fun q=>h.ne j e q.symm)
 have hdis:∀ j,vg'.ownBlock=some j→vg.ownBlock=some j∨w.heap.size≤j:=fun j e=>by
  rcases hat with q|q
  ·exact .inl (q ▸ e)
  ·rw[q] at e
   cases e
   exact .inr k.size
 refine⟨⟨?_,?_,?_,?_⟩,?_,hdis⟩
 ·rw[set_at hob 2 vg']
  rfl
 ·exact hrl.kept (setCell_grownBy w3 b 2 vg') (by
   cases e:vl.ownBlock with
   | none=>exact .inl rfl
   | some j=>exact .inr fun q=>by have:=(h.rl.lt j e).1;cases q;omega)
 ·have e1:cellsZ (M.given++[id])=cellsZ M.given++[.int .i64 id]:=by simp[cellsZ]
  rw[e1,List.length_append,List.length_singleton]
  exact hown.kept (setCell_grownBy w3 b 2 vg') (by
   cases e:vg'.ownBlock with
   | none=>exact .inl rfl
   | some j=>exact .inr fun q=>by have:=hnb' j e;cases q;omega)
 ·intro j e1 e2
  rcases hdis j e2 with q|q
  ·exact h.ne j e1 q
  ·have:=(h.rl.lt j e1).2
   omega
 ·refine⟨?_,?_,?_,?_,fun j hj hn=>?_⟩
  ·exact (hg.os.trans k.os)
  ·exact (hg.tape.trans k.tape)
  ·exact (hg.output.trans k.output)
  ·have h1:=hg.size
   have h2:=k.size
   simp[World.setCell]
   omega
  ·have hjb:j≠b:=fun e=>hn (.inl e)
   rw[Below.heap_setCell _ _ _ _ hjb,hg.block j (Nat.lt_of_lt_of_le hj k.size) (fun e=>hn (.inr (.inr e.symm)))]
   exact k.block j hj
end Go.Proofs.YtjepgclnbbpnaaaGreat.P12
namespace Go.Proofs.YtjepgclnbbpnaaaGreat.P12
open Go Go.RowKit Go.Lib PK
open P11 (Pg)
def PM.push(M:PM)(p:Pg):PM:={ M with L:=M.L++[⟨p.k,(M.L.length:Int)+2,p.tx,p.body⟩] }
def PM.next(M:PM):Int:=(M.L.length:Int)+2
def PM.put(M:PM)(k:Nat)(p:Pg):PM:={ M with L:=M.L.set k p }
theorem PM.get_eq{M M':PM}{j:Int}(h:2≤j→M'.L[(j - 2).toNat]?=M.L[(j - 2).toNat]?):M'.get j=M.get j:=by
 unfold PM.get
 by_cases h2:2≤j
 ·have e:=h h2
  by_cases c:j - 2 < M.L.length
  ·have:(j - 2).toNat < M'.L.length:=by
    rw[List.getElem?_eq_getElem (show (j - 2).toNat < M.L.length by omega)] at e
    exact (List.getElem?_eq_some_iff.1 e).1
   rw[if_pos (show 2≤j∧j - 2 < (M'.L.length:Int) from⟨h2,by omega⟩),if_pos (show 2≤j∧j - 2 < (M.L.length:Int) from⟨h2,c⟩),e]
  ·have:¬ j - 2 < M'.L.length:=fun c2=>by
    rw[List.getElem?_eq_getElem (show (j - 2).toNat < M'.L.length by omega),List.getElem?_eq_none (by omega)] at e
    cases e
   rw[if_neg (fun x=>this x.2),if_neg (fun x=>c x.2)]
 ·rw[if_neg (show ¬ (2≤j∧j - 2 < (M'.L.length:Int)) from fun x=>h2 x.1),if_neg (show ¬ (2≤j∧j - 2 < (M.L.length:Int)) from fun x=>h2 x.1)]
theorem PM.push_old{M:PM}{p:Pg}{j:Int}(h:j < M.next):(M.push p).get j=M.get j:=by
 unfold PM.next at h
 exact PM.get_eq fun h2=>by
  show (M.L++_)[(j - 2).toNat]?=_
  rw[List.getElem?_append_left (by omega)]
theorem PM.push_new(M:PM)(p:Pg):(M.push p).get M.next=(⟨p.k,M.next,p.tx,p.body⟩,0):=by
 refine PM.get_at (M:=M.push p) (k:=M.L.length) ?_
 show (M.L++_)[M.L.length]?=_
 rw[List.getElem?_append_right (Nat.le_refl _),Nat.sub_self]
 rfl
theorem PM.put_other{M:PM}{p:Pg}{k:Nat}{j:Int}(h:j≠(k:Int)+2):(M.put k p).get j=M.get j:=PM.get_eq fun h2=>by
 show (M.L.set k p)[(j - 2).toNat]?=_
 rw[List.getElem?_set_ne (by omega)]
theorem PM.put_self{M:PM}{p:Pg}{k:Nat}(h:k < M.L.length):(M.put k p).get ((k:Int)+2)=(p,0):=by
 refine PM.get_at (M:=M.put k p) (k:=k) ?_
 show (M.L.set k p)[k]?=_
 rw[List.getElem?_set_self h]
theorem PM.free_get(M:PM)(l:List Int)(j:Int):(M.free l).get j=M.get j:=PM.get_eq fun _=>by rw[PM.free_L]
structure Pool (M:PM) (ids P:List Int):Prop where
 perm:(M.given++ids).Perm P
 nodup:P.Nodup
 rng:∀ j∈P,2≤j∧j < M.next
 twice:M.twice=false
 bad:M.bad=false
 fr:2≤M.fr
theorem Pool.ids_nodup{M:PM}{ids P:List Int}(h:Pool M ids P):ids.Nodup:=(List.nodup_append.1 (h.perm.nodup_iff.2 h.nodup)).2.1
theorem Pool.not_given{M:PM}{ids P:List Int}(h:Pool M ids P){j:Int}(hj:j∈ids):j∉M.given:=fun k=>(List.nodup_append.1 (h.perm.nodup_iff.2 h.nodup)).2.2 j k j hj rfl
theorem Pool.ids_rng{M:PM}{ids P:List Int}(h:Pool M ids P){j:Int}(hj:j∈ids):2≤j∧j < M.next:=h.rng j (h.perm.mem_iff.1 (List.mem_append_right _ hj))
end Go.Proofs.YtjepgclnbbpnaaaGreat.P12
namespace Go.Proofs.YtjepgclnbbpnaaaGreat.P12
open Go Go.RowKit Go.Lib PK
abbrev pgv(b:Nat):Value:=.iface 25 (.pointer (some ⟨b,0,none⟩))
theorem nGet (a : Addr) (w : World) : (nilAhead 322 25 (.pointer (some a)) "Get").run Tryz.prog w = .ok (some false) w := by kernel_rfl
theorem nNew (a : Addr) (w : World) : (nilAhead 322 25 (.pointer (some a)) "New").run Tryz.prog w = .ok (some false) w := by kernel_rfl
theorem nSet (a : Addr) (w : World) : (nilAhead 322 25 (.pointer (some a)) "Set").run Tryz.prog w = .ok (some false) w := by kernel_rfl
theorem nMine (a : Addr) (w : World) : (nilAhead 322 25 (.pointer (some a)) "Mine").run Tryz.prog w = .ok (some false) w := by kernel_rfl
theorem nFree (a : Addr) (w : World) : (nilAhead 322 25 (.pointer (some a)) "Free").run Tryz.prog w = .ok (some false) w := by kernel_rfl
theorem mGet (a : Addr) (w : World) : (method 322 25 (.pointer (some a)) "Get").run Tryz.prog w = .ok (180, .pointer (some a)) w := by kernel_rfl
theorem mNew (a : Addr) (w : World) : (method 322 25 (.pointer (some a)) "New").run Tryz.prog w = .ok (181, .pointer (some a)) w := by kernel_rfl
theorem mSet (a : Addr) (w : World) : (method 322 25 (.pointer (some a)) "Set").run Tryz.prog w = .ok (182, .pointer (some a)) w := by kernel_rfl
theorem mMine (a : Addr) (w : World) : (method 322 25 (.pointer (some a)) "Mine").run Tryz.prog w = .ok (23, .pointer (some a)) w := by kernel_rfl
theorem mFree (a : Addr) (w : World) : (method 322 25 (.pointer (some a)) "Free").run Tryz.prog w = .ok (179, .pointer (some a)) w := by kernel_rfl
end Go.Proofs.YtjepgclnbbpnaaaGreat.P12
namespace Go.Proofs.YtjepgclnbbpnaaaGreat.P9
open PK (qqA qqB qqC qqD qqE qqF tk tkS dOne qh)
open Go Go.RowKit Go.Lib PK
theorem findC_any(w:World)(x:It)(k:ByteArray):Calls Tryz.prog 78 #[x.v,.string k] w fun e w'=>e=.returned (.int .i64 (cmpK x.key k))∧Below w.heap.size w w':=by
 have HC:=qh (fun W=>Tryz.strings_Compare x.key k W)
 rw[cmpK_eq] at HC
 obtain⟨key,val,kind⟩:=x
 simp only at HC ⊢
 unfold It.v
 simp only
 generalize cmpK key k=c at *
 go_enter Tryz.func78,Tryz.ntmps78
 go_wp2_with (go_at_call 79;(with_reducible refine (HC.out _).mono ?_);rintro e w2 ⟨rfl,rfl⟩)
 go_ret
 exact⟨rfl,below_new w _⟩
theorem search_any(w:World)(v:Value)(l:List It)(k:ByteArray)(h:ItsIn w v l)(hn:l.length≤1000000)(hr:RightI l) :
  Calls Tryz.prog 77 #[v,.string k,.func (.func 78) #[] #[]] w fun e w'=>e=.returned (.tuple #[.int .i64 (lowK l k:Nat),.bool (hasK l k)])∧Below w.heap.size w w':=by
 obtain⟨a,c,rfl⟩:=h.slice
 have HA:=qh (fun (i:Nat) (x:It) (hi:l[i]?=some x)=>h.at_ hi)
 obtain⟨N,hN⟩:∃ N,N=l.length:=⟨_,rfl⟩
 have HG:=qh (fun W x=>findC_any W x k)
 have HN:=qh hN
 have HR:=qh hr
 have hlen:N≤1000000:=by omega
 rw[← hN]
 clear h hN hn hr
 go_enter Tryz.func77,Tryz.ntmps77
 go_wp2
 go_loopw [9,10] (fun vl vh wr=>∃ lo hi:Nat,vl=.int .i64 lo∧vh=.int .i64 hi∧lo≤hi∧hi≤N∧Hid (∀ (j:Nat) (y:It),j < lo→l[j]?=some y→kb y.key k=true)∧Hid (∀ (j:Nat) (y:It),hi≤j→l[j]?=some y→kb y.key k=false)∧Hid (Below w.heap.size w wr)) (fun vl vh _=>(RowKit.intOf vh - RowKit.intOf vl).toNat)
 case atStart=>exact⟨0,N,rfl,rfl,Nat.zero_le _,Nat.le_refl _,fun j y hj=>absurd hj (Nat.not_lt_zero _),fun j y hj hy=>(by have:=(List.getElem?_eq_some_iff.1 hy).1;rw[← HN.out] at this;omega),Below.refl _ _⟩
 case round=>
  obtain⟨lo,hi,rfl,rfl,hlh,hhn,HL,HH,HB⟩:=hrel
  by_cases hlt:lo < hi
  ·obtain⟨x,hx⟩:∃ s,l[(lo+hi) / 2]?=some s:=⟨_,List.getElem?_eq_getElem (by have:=HN.out;omega)⟩
   obtain⟨b,off,rfl,hc⟩:=HA.out _ x hx
   obtain⟨c0,c1,c2⟩:=hc wr HB.out
   have HX:=qh hx
   have hlt2:(lo:Int) < (hi:Int):=by omega
   have hm:(((lo:Int)+(hi:Int)) / 2) < (N:Int):=by omega
   have hm0:0≤(((lo:Int)+(hi:Int)) / 2):=by omega
   have HK:Hid (∀ W,Calls Tryz.prog 78 #[.agg #[.string x.key,.string x.val,.int .i64 x.kind],.string k] W fun e w'=>e=.returned (.int .i64 (cmpK x.key k))∧Below W.heap.size W w'):=fun W=>HG.out W x
   have hcn:=cmpK_neg x.key k
   clear hx hc
   generalize cmpK x.key k=cc at *
   cases hq:kb x.key k with
   | true=>
    rw[hq] at hcn
    have HQ:=qh hq
    clear hq
    go_wp2_with (go_at_call 78;(with_reducible refine (HK.out _).mono ?_);rintro e w2 ⟨rfl,hb⟩)
    go_roundw
    case rel=>
     refine⟨(lo+hi) / 2+1,hi,by rw[show ((lo:Int)+(hi:Int)) / 2+1=(((lo+hi) / 2+1:Nat):Int) by omega],rfl,by omega,hhn,fun j y hj hy=>?_,HH,thenBelow HB.out hb⟩
     by_cases q:j < lo
     ·exact HL.out j y q hy
     ·by_cases q2:j=(lo+hi) / 2
      ·subst q2
       rw[HX.out] at hy
       obtain rfl:=Option.some.inj hy
       exact HQ.out
      ·exact kb_trans (rise_at HR.out hy HX.out (by omega)) HQ.out
    case measure=>simp[RowKit.intOf];omega
   | false=>
    rw[hq] at hcn
    have HQ:=qh hq
    clear hq
    go_wp2_with (go_at_call 78;(with_reducible refine (HK.out _).mono ?_);rintro e w2 ⟨rfl,hb⟩)
    go_roundw
    case rel=>
     refine⟨lo,(lo+hi) / 2,rfl,by rw[show ((lo:Int)+(hi:Int)) / 2=(((lo+hi) / 2:Nat):Int) by omega],by omega,by omega,HL,fun j y hj hy=>?_,thenBelow HB.out hb⟩
     rcases Nat.lt_or_eq_of_le hj with q|q
     ·have h9:=rise_at HR.out HX.out hy q
      cases h8:kb y.key k
      ·rfl
      ·have h7:=HQ.out
       rw[kb_trans h9 h8] at h7
       cases h7
     ·subst q
      rw[HX.out] at hy
      obtain rfl:=Option.some.inj hy
      exact HQ.out
    case measure=>simp[RowKit.intOf];omega
  ·obtain rfl:lo=hi:=by omega
   have hlow:lowK l k=lo:=lowK_eq (fun j y hj hy=>HL.out j y hj hy) (by have:=HN.out;omega) (fun y hy=>HH.out lo y (Nat.le_refl _) hy)
   have HW:=qh hlow
   have hlt2:decide ((lo:Int) < (lo:Int))=false:=decide_eq_false (by omega)
   by_cases hq:lo < N
   ·obtain⟨x,hx⟩:∃ s,l[lo]?=some s:=⟨_,List.getElem?_eq_getElem (by have:=HN.out;omega)⟩
    obtain⟨b,off,rfl,hc⟩:=HA.out _ x hx
    obtain⟨c0,c1,c2⟩:=hc wr HB.out
    have hq2:(lo:Int) < (N:Int):=by omega
    have hmem:Hid ((cmpK x.key k == 0)=hasK l k):=by
     show _=_
     cases hh:hasK l k
     ·cases hz:(cmpK x.key k == 0)
      ·rfl
      ·rw[hasK_not] at hh
       exact absurd (mem_of_low (by rw[hlow];exact hx) ((cmpK_zero _ _).1 hz)) hh
     ·obtain⟨z,hz,hzk⟩:=lowK_hit HR.out (hasK_iff.1 hh)
      rw[hlow,hx] at hz
      obtain rfl:=Option.some.inj hz
      exact (cmpK_zero _ _).2 hzk
    have HK:Hid (∀ W,Calls Tryz.prog 78 #[.agg #[.string x.key,.string x.val,.int .i64 x.kind],.string k] W fun e w'=>e=.returned (.int .i64 (cmpK x.key k))∧Below W.heap.size W w'):=fun W=>HG.out W x
    clear hx hc hlow
    generalize cmpK x.key k=cc at *
    go_wp2_with (go_at_call 78;(with_reducible refine (HK.out _).mono ?_);rintro e w2 ⟨rfl,hb⟩)
    go_ret2
    exact⟨by rw[HW.out,hmem.out];rfl,thenBelow HB.out hb⟩
   ·have hq2:decide ((lo:Int) < (N:Int))=false:=decide_eq_false (by omega)
    have hnm:Hid (hasK l k=false):=by
     show _=_
     rw[hasK_not]
     intro hm
     obtain⟨z,hz,_⟩:=lowK_hit HR.out hm
     have:=(List.getElem?_eq_some_iff.1 hz).1
     rw[hlow,← HN.out] at this
     omega
    obtain rfl:lo=N:=by omega
    clear hq hq2 hlow
    go_wp2
    go_ret2
    exact⟨by rw[HW.out,hnm.out];rfl,HB.out⟩
theorem find_any(w:World)(v:Value)(l:List It)(k:ByteArray)(h:ItsIn w v l)(hn:l.length≤1000000)(hr:RightI l) :
  Calls Tryz.prog 66 #[v,.string k] w fun e w'=>e=.returned (.tuple #[.int .i64 (lowK l k:Nat),.bool (hasK l k)])∧Below w.heap.size w w':=by
 have HS:=qh (search_any w v l k h hn hr)
 generalize lowK l k=n at *
 generalize hasK l k=d at *
 clear h hn hr
 go_enter Tryz.func66,Tryz.ntmps66
 go_wp2_with (go_at_call 77;(with_reducible refine (HS.out).mono ?_);rintro e w2 ⟨rfl,hb⟩;have HB:=qh hb;clear hb)
 go_ret2
 exact⟨rfl,HB.out⟩
theorem valid_any(w:World)(x:It) :
  Calls Tryz.prog 51 #[x.v] w fun r w'=>r=.returned (.bool x.ok)∧Below w.heap.size w w':=by
 obtain⟨key,val,kind⟩:=x
 by_cases hk:kind=0∨kind=1∨kind=2
 ·obtain⟨d0,e0⟩:∃ d,decide (1≤key.size)=d:=⟨_,rfl⟩
  obtain⟨d1,e1⟩:∃ d,decide (key.size≤32)=d:=⟨_,rfl⟩
  obtain⟨d2,e2⟩:∃ d,decide (val.size≤96)=d:=⟨_,rfl⟩
  have e:It.ok ⟨key,val,kind⟩=(d0 && d1 && d2):=by
   subst e0 e1 e2
   unfold It.ok
   rw[Bool.eq_iff_iff]
   simp only[decide_eq_true_eq,Bool.and_eq_true]
   omega
  have b0x:decide ((1:Int)≤(key.size:Int))=d0:=by rw[← e0];exact decide_eq_decide.2 (by omega)
  have b0z:decide (0 < key.size)=d0:=by rw[← e0];exact decide_eq_decide.2 (by omega)
  have b1x:decide ((key.size:Int)≤32)=d1:=by rw[← e1];exact decide_eq_decide.2 (by omega)
  have b2x:decide ((val.size:Int)≤96)=d2:=by rw[← e2];exact decide_eq_decide.2 (by omega)
  rw[e]
  clear e
  rcases hk with rfl|rfl|rfl <;> cases d0 <;> cases d1 <;> cases d2
  all_goals
   unfold It.v
   go_enter Tryz.func51,Tryz.ntmps51
   go_wp2
   go_ret
   exact⟨rfl,below_new _ _⟩
 ·have e:It.ok ⟨key,val,kind⟩=false:=decide_eq_false (fun h=>hk (by simp only at h;omega))
  have k0:(kind == 0)=false:=by simp;omega
  have k1:(kind == 1)=false:=by simp;omega
  have k2:(kind == 2)=false:=by simp;omega
  rw[e]
  clear e hk
  unfold It.v
  go_enter Tryz.func51,Tryz.ntmps51
  go_wp2
  go_ret
  exact⟨rfl,below_new _ _⟩
theorem need_any(w:World)(x:It)(h:x.need≤1000000) :
  Calls Tryz.prog 152 #[x.v] w fun r w'=>r=.returned (.int .i64 (x.need:Nat))∧Below w.heap.size w w':=by
 obtain⟨key,val,kind⟩:=x
 unfold It.need at *
 simp only at h ⊢
 have h1:5+key.size≤1000000:=by omega
 unfold It.v
 go_enter Tryz.func152,Tryz.ntmps152
 go_wp2
 go_ret
 exact⟨by first|rfl|simp,below_new _ _⟩
theorem need_le{l:List It}{i:Nat}{x:It}(h:l[i]?=some x):x.need≤sumI l:=by
 have h1:=sumI_take h
 have h2:=sumI_le (l:=l) (i+1)
 omega
theorem size_any(w:World)(v:Value)(l:List It)(h:ItsIn w v l)(hs:sumI l≤1000000) :
  Calls Tryz.prog 125 #[v] w fun e w'=>e=.returned (.int .i64 ((1+sumI l:Nat):Int))∧Below w.heap.size w w':=by
 obtain⟨a,c,rfl⟩:=h.slice
 have hl:=h.len
 have HA:=qh (fun (i:Nat) (x:It) (hi:l[i]?=some x)=>h.at_ hi)
 have HN:=qh (fun W x hx=>need_any W x hx)
 have HS:=qh hs
 clear h hs
 go_enter Tryz.func125,Tryz.ntmps125
 go_wp2
 go_loopw [3,8] (fun vn vi wr=>∃ i:Nat,i≤l.length∧vn=.int .i64 ((1+sumI (l.take i):Nat):Int)∧vi=.int .i64 i∧Hid (Below w.heap.size w wr)) (fun _ vi _=>l.length - (RowKit.intOf vi).toNat)
 case atStart=>exact⟨0,Nat.zero_le _,rfl,rfl,Below.refl _ _⟩
 case round=>
  obtain⟨i,hi,rfl,rfl,HB⟩:=hrel
  by_cases hlt:i < l.length
  ·obtain⟨x,hx⟩:∃ x,l[i]?=some x:=⟨_,List.getElem?_eq_getElem hlt⟩
   obtain⟨b,off,rfl,hc⟩:=HA.out i x hx
   obtain⟨c0,c1,c2⟩:=hc wr HB.out
   have k1:decide ((i:Int) < (l.length:Int))=true:=decide_eq_true (by omega)
   have k2:(i:Int) < (l.length:Int):=by omega
   have k3:(0:Int)≤(i:Int):=by omega
   have hn1:x.need≤1000000:=Nat.le_trans (need_le hx) HS.out
   have HNx:Hid (∀ W,Calls Tryz.prog 152 #[.agg #[.string x.key,.string x.val,.int .i64 x.kind]] W fun r w'=>r=.returned (.int .i64 (x.need:Nat))∧Below W.heap.size W w'):=fun W=>HN.out W x hn1
   have hn:((1+sumI (l.take i):Nat):Int)+(x.need:Int)=((1+sumI (l.take (i+1)):Nat):Int):=by rw[sumI_take hx];omega
   have HNn:=qh hn
   have hb:1+sumI (l.take i)+x.need≤2000000:=by
    have:=sumI_le (l:=l) (i+1)
    rw[sumI_take hx] at this
    have:=HS.out
    omega
   generalize 1+sumI (l.take i)=m at *
   generalize x.need=nd at *
   clear hc hx hn HN
   go_wp2_with (go_at_call 152;(with_reducible refine (HNx.out _).mono ?_);rintro e w2 ⟨rfl,hb2⟩;have HB2:=qh (thenBelow (grow HB.out _) hb2);clear hb2)
   go_roundw
   case rel=>exact⟨i+1,by omega,by first|(rw[← HNn.out];done)|(rw[← HNn.out];go_num),by go_num,HB2⟩
   case measure=>simp[RowKit.intOf];omega
  ·have e:i=l.length:=by omega
   subst e
   have k1:decide ((l.length:Int) < (l.length:Int))=false:=decide_eq_false (by omega)
   rw[List.take_length]
   go_wp2
   go_ret
   exact⟨rfl,HB.out⟩
theorem ordered_any(w:World)(v:Value)(l:List It)(h:ItsIn w v l) :
  Calls Tryz.prog 146 #[v] w fun e w'=>(∃ b,e=.returned (.bool b)∧(b=true↔RightI l))∧Below w.heap.size w w':=by
 obtain⟨a,c,rfl⟩:=h.slice
 have hl:=h.len
 have HA:=qh (fun (i:Nat) (x:It) (hi:l[i]?=some x)=>h.at_ hi)
 have HV:=qh (fun (W:World) (x:It)=>valid_any W x)
 clear h
 go_enter Tryz.func146,Tryz.ntmps146
 go_wp2
 go_loopw [7] (fun vi wr=>∃ i:Nat,i≤l.length∧vi=.int .i64 i∧Hid (RightTo l i)∧Hid (Below w.heap.size w wr)) (fun vi _=>l.length - (RowKit.intOf vi).toNat)
 case atStart=>exact⟨0,Nat.zero_le _,rfl,RightTo.zero l,Below.refl _ _⟩
 case round=>
  obtain⟨i,hi,rfl,HR,HB⟩:=hrel
  by_cases hlt:i < l.length
  ·obtain⟨x,hx⟩:∃ x,l[i]?=some x:=⟨_,List.getElem?_eq_getElem hlt⟩
   obtain⟨b,off,rfl,hc⟩:=HA.out i x hx
   have HX:=qh hx
   obtain⟨c0,c1,c2⟩:=hc wr HB.out
   have HA2:Hid (∀ (j:Nat) (z:It),l[j]?=some z→∃ b' off',some (⟨b,off,none⟩:Addr)=some ⟨b',off',none⟩∧∀ w',Below w.heap.size w w'→w'.cell? ⟨b',off'+j*3,none⟩=some (.string z.key)∧w'.cell? ⟨b',off'+j*3+1,none⟩=some (.string z.val)∧w'.cell? ⟨b',off'+j*3+2,none⟩=some (.int .i64 z.kind)):=HA
   have HC:Hid (∀ W,Below (wr.alloc (.cells #[.string x.key,.string x.val,.int .i64 x.kind] 29)).heap.size (wr.alloc (.cells #[.string x.key,.string x.val,.int .i64 x.kind] 29)) W→W.cell? ⟨wr.heap.size,0,none⟩=some (.string x.key)∧W.cell? ⟨wr.heap.size,1,none⟩=some (.string x.val)∧W.cell? ⟨wr.heap.size,2,none⟩=some (.int .i64 x.kind)):=fun W hW=>
    ⟨(hW.cell (p:=⟨wr.heap.size,0,none⟩) (by simp)).trans (by rw[cell_at (new_at wr _ _)];rfl),(hW.cell (p:=⟨wr.heap.size,1,none⟩) (by simp)).trans (by rw[cell_at (new_at wr _ _)];rfl),(hW.cell (p:=⟨wr.heap.size,2,none⟩) (by simp)).trans (by rw[cell_at (new_at wr _ _)];rfl)⟩
   have k1:decide ((i:Int) < (l.length:Int))=true:=decide_eq_true (by omega)
   have k2:(i:Int) < (l.length:Int):=by omega
   have k3:(0:Int)≤(i:Int):=by omega
   clear hc hx
   by_cases hok:x.ok=true
   ·have HV1:Hid (∀ W,Calls Tryz.prog 51 #[.agg #[.string x.key,.string x.val,.int .i64 x.kind]] W fun r w'=>r=.returned (.bool true)∧Below W.heap.size W w'):=fun W=>by
     have:=HV.out W x
     rwa[hok] at this
    have HOK:=qh hok
    clear hok HA HV
    by_cases h0:i=0
    ·have k4:decide ((0:Int) < (i:Int))=false:=decide_eq_false (by omega)
     have k5:decide (0 < i)=false:=decide_eq_false (by omega)
     have HR1:=qh (HR.out.next HX.out HOK.out (fun m y e=>by omega))
     clear h0 HA2
     go_upto_region 4 with fail
     refine wp_region_held_drew (S:=fun W=>W.cell? ⟨wr.heap.size,0,none⟩=some (.string x.key)∧W.cell? ⟨wr.heap.size,1,none⟩=some (.string x.val)∧W.cell? ⟨wr.heap.size,2,none⟩=some (.int .i64 x.kind)) (by kernel_rfl) (HC.out _ (Below.refl _ _).drew) (fun hHeld=>?_)
     refine tk 0 ?_
     refine dOne 1 fun K hK=>?_
     go_simp
     go_at_call 51;(with_reducible refine (HV1.out _).mono ?_);rintro e w1 ⟨rfl,hb⟩;have HB0:=qh (thenBelow (a:=wr.alloc (.cells #[.string x.key,.string x.val,.int .i64 x.kind] 29)) (Below.refl _ _).drew hb);have HB1:=qh (thenBelow (grow HB.out _) HB0.out);clear hb
     go_wp2_with fail
     refine hK.out _ _ (HC.out _ HB0.out) (fun hHeld=>?_)
     clear hK K
     try simp only[Act.put,qqA,qqB,qqC]
     refine tk 2 ?_
     refine tk 3 ?_
     refine tk 4 ?_
     refine tk 5 ?_
     refine tk 6 ?_
     refine tkS 7 ?_
     refine tkS 8 ?_
     refine tkS 9 ?_
     refine tkS 10 ?_
     refine tkS 11 ?_
     refine tkS 12 ?_
     refine tkS 13 ?_
     refine tkS 14 ?_
     refine tkS 15 ?_
     refine tk 16 ?_
     refine tk 17 ?_
     refine wpAnyH_done (by kernel_rfl) ?_ _
     go_wp2
     go_roundw
     case rel=>exact⟨i+1,by omega,by go_num,HR1,HB1⟩
     case measure=>simp[RowKit.intOf];omega
    ·obtain⟨m,rfl⟩:∃ m,i=m+1:=⟨i - 1,by omega⟩
     obtain⟨y,hy⟩:∃ y,l[m]?=some y:=⟨_,List.getElem?_eq_getElem (by omega)⟩
     have HD:Hid (∀ W,Below (wr.alloc (.cells #[.string x.key,.string x.val,.int .i64 x.kind] 29)).heap.size (wr.alloc (.cells #[.string x.key,.string x.val,.int .i64 x.kind] 29)) W→W.cell? ⟨b,off+m*3,none⟩=some (.string y.key)∧W.cell? ⟨wr.heap.size,0,none⟩=some (.string x.key)∧W.cell? ⟨wr.heap.size,1,none⟩=some (.string x.val)∧W.cell? ⟨wr.heap.size,2,none⟩=some (.int .i64 x.kind)):=fun W hW=>by
      obtain⟨b',off',e,hh⟩:=HA2.out m y hy
      simp only[Option.some.injEq,Addr.mk.injEq,and_true] at e
      obtain⟨rfl,rfl⟩:=e
      exact⟨(hh W (thenBelow (grow HB.out _) hW)).1,HC.out W hW⟩
     have k4:decide ((0:Int) < ((m+1:Nat):Int))=true:=decide_eq_true (by omega)
     have k5:decide (0 < m+1)=true:=decide_eq_true (by omega)
     have k6:((m+1:Nat):Int) - 1=(m:Int):=by omega
     have k7:(m:Int)+1 - 1=(m:Int):=by omega
     have k8:(m:Int) < (l.length:Int):=by omega
     have k9:(0:Int)≤(m:Int):=by omega
     have k14:(m:Int)≤9223372036854775806:=by omega
     have k15:m < l.length:=by omega
     have k16:IntKind.i64.wrap (m:Int)=(m:Int):=by rw[IntKind.wrap_i64];omega
     have k10:(m:Int)+1 < (l.length:Int):=by omega
     have k11:(0:Int)≤(m:Int)+1:=by omega
     have k12:decide ((0:Int) < (m:Int)+1)=true:=decide_eq_true (by omega)
     have k13:decide ((m:Int)+1 < (l.length:Int))=true:=decide_eq_true (by omega)
     have HY:=qh hy
     clear h0 hy
     cases hkb:kb y.key x.key with
     | true=>
      have hb1:Op.bytesLess y.key.toList x.key.toList=true:=hkb
      have HR1:=qh (HR.out.next HX.out HOK.out (fun q z e hz=>by
       obtain rfl:m=q:=by omega
       rw[HY.out] at hz
       obtain rfl:y=z:=by simpa using hz
       exact hkb))
      clear hkb HA2
      go_upto_region 4 with fail
      refine wp_region_held_drew (S:=fun W=>W.cell? ⟨b,off+m*3,none⟩=some (.string y.key)∧W.cell? ⟨wr.heap.size,0,none⟩=some (.string x.key)∧W.cell? ⟨wr.heap.size,1,none⟩=some (.string x.val)∧W.cell? ⟨wr.heap.size,2,none⟩=some (.int .i64 x.kind)) (by kernel_rfl) (HD.out _ (Below.refl _ _).drew) (fun hHeld=>?_)
      refine tk 0 ?_
      refine dOne 1 fun K hK=>?_
      go_simp
      go_at_call 51;(with_reducible refine (HV1.out _).mono ?_);rintro e w1 ⟨rfl,hb⟩;have HB0:=qh (thenBelow (a:=wr.alloc (.cells #[.string x.key,.string x.val,.int .i64 x.kind] 29)) (Below.refl _ _).drew hb);have HB1:=qh (thenBelow (grow HB.out _) HB0.out);clear hb
      go_wp2_with fail
      refine hK.out _ _ (HD.out _ HB0.out) (fun hHeld=>?_)
      clear hK K
      try simp only[Act.put,qqA,qqB,qqC]
      refine tk 2 ?_
      refine tk 3 ?_
      refine tk 4 ?_
      refine tk 5 ?_
      refine tk 6 ?_
      refine tk 7 ?_
      refine tk 8 ?_
      refine tk 9 ?_
      refine tk 10 ?_
      refine tk 11 ?_
      refine tk 12 ?_
      refine tk 13 ?_
      refine tk 14 ?_
      refine tk 15 ?_
      refine tk 16 ?_
      refine tk 17 ?_
      refine wpAnyH_done (by kernel_rfl) ?_ _
      go_wp2
      go_roundw
      case rel=>exact⟨m+1+1,by omega,by go_num,HR1,HB1⟩
      case measure=>simp[RowKit.intOf];omega
     | false=>
      have hb1:Op.bytesLess y.key.toList x.key.toList=false:=hkb
      have HNO:=qh (RightI.not_kb HY.out HX.out hkb)
      clear hkb HA2
      go_upto_region 4 with fail
      refine wp_region_held_drew (S:=fun W=>W.cell? ⟨b,off+m*3,none⟩=some (.string y.key)∧W.cell? ⟨wr.heap.size,0,none⟩=some (.string x.key)∧W.cell? ⟨wr.heap.size,1,none⟩=some (.string x.val)∧W.cell? ⟨wr.heap.size,2,none⟩=some (.int .i64 x.kind)) (by kernel_rfl) (HD.out _ (Below.refl _ _).drew) (fun hHeld=>?_)
      refine tk 0 ?_
      refine dOne 1 fun K hK=>?_
      go_simp
      go_at_call 51;(with_reducible refine (HV1.out _).mono ?_);rintro e w1 ⟨rfl,hb⟩;have HB0:=qh (thenBelow (a:=wr.alloc (.cells #[.string x.key,.string x.val,.int .i64 x.kind] 29)) (Below.refl _ _).drew hb);have HB1:=qh (thenBelow (grow HB.out _) HB0.out);clear hb
      go_wp2_with fail
      refine hK.out _ _ (HD.out _ HB0.out) (fun hHeld=>?_)
      clear hK K
      try simp only[Act.put,qqA,qqB,qqC]
      refine tk 2 ?_
      refine tk 3 ?_
      refine tk 4 ?_
      refine tk 5 ?_
      refine tk 6 ?_
      refine tk 7 ?_
      refine tk 8 ?_
      refine tk 9 ?_
      refine tk 10 ?_
      refine tk 11 ?_
      refine tk 12 ?_
      refine tk 13 ?_
      refine tk 14 ?_
      refine tk 15 ?_
      refine tk 16 ?_
      refine tk 17 ?_
      refine wpAnyH_done (by kernel_rfl) ?_ _
      go_wp2
      go_ret
      exact⟨⟨_,rfl,(fun h=>by cases h),fun h=>absurd h HNO.out⟩,HB1.out⟩
   ·have HV1:Hid (∀ W,Calls Tryz.prog 51 #[.agg #[.string x.key,.string x.val,.int .i64 x.kind]] W fun r w'=>r=.returned (.bool false)∧Below W.heap.size W w'):=fun W=>by
     have:=HV.out W x
     rwa[Bool.eq_false_iff.2 hok] at this
    have HNO:=qh (RightI.not_ok HX.out (Bool.eq_false_iff.2 hok))
    clear hok HA HA2 HV
    go_upto_region 4 with fail
    refine wp_region_held_drew (S:=fun W=>W.cell? ⟨wr.heap.size,0,none⟩=some (.string x.key)∧W.cell? ⟨wr.heap.size,1,none⟩=some (.string x.val)∧W.cell? ⟨wr.heap.size,2,none⟩=some (.int .i64 x.kind)) (by kernel_rfl) (HC.out _ (Below.refl _ _).drew) (fun hHeld=>?_)
    refine tk 0 ?_
    refine dOne 1 fun K hK=>?_
    go_simp
    go_at_call 51;(with_reducible refine (HV1.out _).mono ?_);rintro e w1 ⟨rfl,hb⟩;have HB0:=qh (thenBelow (a:=wr.alloc (.cells #[.string x.key,.string x.val,.int .i64 x.kind] 29)) (Below.refl _ _).drew hb);have HB1:=qh (thenBelow (grow HB.out _) HB0.out);clear hb
    go_wp2_with fail
    refine hK.out _ _ (HC.out _ HB0.out) (fun hHeld=>?_)
    clear hK K
    try simp only[Act.put,qqA,qqB,qqC]
    refine tk 2 ?_
    refine tk 3 ?_
    refine tkS 4 ?_
    refine tkS 5 ?_
    refine tkS 6 ?_
    refine tkS 7 ?_
    refine tkS 8 ?_
    refine tkS 9 ?_
    refine tkS 10 ?_
    refine tkS 11 ?_
    refine tkS 12 ?_
    refine tkS 13 ?_
    refine tkS 14 ?_
    refine tkS 15 ?_
    refine tkS 16 ?_
    refine tk 17 ?_
    refine wpAnyH_done (by kernel_rfl) ?_ _
    go_wp2
    go_ret
    exact⟨⟨_,rfl,(fun h=>by cases h),fun h=>absurd h HNO.out⟩,HB1.out⟩
  ·have e:i=l.length:=by omega
   subst e
   have k1:decide ((l.length:Int) < (l.length:Int))=false:=decide_eq_false (by omega)
   clear hlt
   go_wp2
   go_ret
   exact⟨⟨_,rfl,(fun _=>HR.out),fun _=>rfl⟩,HB.out⟩
end Go.Proofs.YtjepgclnbbpnaaaGreat.P9
