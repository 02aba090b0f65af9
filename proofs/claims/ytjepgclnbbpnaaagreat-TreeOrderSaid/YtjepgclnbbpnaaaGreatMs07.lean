/-
  Texts of the proofs of SaidOrd12.
-/
import Derived.Test.YtjepgclnbbpnaaaGreatMs02
set_option linter.unusedVariables false
set_option linter.unusedSimpArgs false
namespace Go.Proofs.YtjepgclnbbpnaaaGreat.PP
open PK (qqA qqB qqC qqD qqE qqF tk tkS dOne qh)
open Go Go.RowKit Go.Lib P0
def PutOwn(w:World)(b:Nat)(xs:List UInt8)(bad:Int):Prop:=
 ∃ v,w.heap[b]?=some (.cells #[v,.pointer (some ⟨b,0,none⟩),.int .i64 bad] 191 (0,0))∧w.ownsRow (b+1) 5 1 v xs.length (cells xs)
def PutNew(w:World)(b:Nat)(bad:Int):Prop:=
 w.heap[b]?=some (.cells #[.slice none 0 0,.pointer none,.int .i64 bad] 191 (0,0))
def PutIs(w:World)(b:Nat)(xs:List UInt8)(bad:Int):Prop:=
 PutOwn w b xs bad∨(PutNew w b bad∧xs=[])
theorem PutOwn.lt{w:World}{b:Nat}{xs:List UInt8}{bad:Int}(h:PutOwn w b xs bad):b < w.heap.size:=by
 obtain⟨v,hb,_⟩:=h;exact lt_of_block hb
theorem PutIs.lt{w:World}{b:Nat}{xs:List UInt8}{bad:Int}(h:PutIs w b xs bad):b < w.heap.size:=by
 rcases h with h|⟨h,_⟩
 ·exact h.lt
 ·exact lt_of_block h
theorem PutOwn.below{w w':World}{b:Nat}{xs:List UInt8}{bad:Int}(h:PutOwn w b xs bad)(hb:Below w.heap.size w w'):PutOwn w' b xs bad:=by
 have hl:=h.lt
 obtain⟨v,h1,h2⟩:=h
 exact⟨v,by rw[hb.block b hl];exact h1,owns_below h2 hb⟩
theorem PutIs.below{w w':World}{b:Nat}{xs:List UInt8}{bad:Int}(h:PutIs w b xs bad)(hb:Below w.heap.size w w'):PutIs w' b xs bad:=by
 rcases h with h|⟨h,e⟩
 ·exact .inl (h.below hb)
 ·exact .inr ⟨by unfold PutNew at *;rw[hb.block b (lt_of_block h)];exact h,e⟩
structure Fr (b:Nat) (w w':World):Prop where
 below:Below b w w'
 keeps:∀ (k:Nat) (c:Array Value) (t:TypeId) (f:Nat×Nat),w.heap[k]?=some (.cells c t f)→t≠5→k≠b→w'.heap[k]?=some (.cells c t f)
theorem Fr.refl(b:Nat)(w:World):Fr b w w:=⟨Below.refl _ _,fun _ _ _ _ h _ _=>h⟩
theorem Fr.trans{b:Nat}{a w w':World}(h:Fr b a w)(k:Fr b w w'):Fr b a w':=
 ⟨h.below.trans k.below,fun i c t f h1 h2 h3=>k.keeps i c t f (h.keeps i c t f h1 h2 h3) h2 h3⟩
theorem Fr.setCell{b:Nat}{a w:World}(h:Fr b a w)(j:Nat)(u:Value):Fr b a (w.setCell ⟨b,j,none⟩ u):=
 h.trans ⟨(Below.refl b w).setCell (Nat.le_refl _) u,fun i c t f h1 _ h3=>by rw[Below.heap_setCell _ _ _ _ h3];exact h1⟩
theorem Fr.alloc{b:Nat}{a w:World}(h:Fr b a w)(hb:b≤w.heap.size)(o:Obj):Fr b a (w.alloc o):=
 h.trans ⟨(Below.refl b w).alloc hb o,fun i c t f h1 _ _=>by rw[Below.heap_alloc _ _ _ (lt_of_block h1)];exact h1⟩
theorem Fr.grown{b base n:Nat}{a w w':World}{v:Value}{xs:List Value}(h:Fr b a w)(hlt:b < w.heap.size)(h2:w.ownsRow base 5 1 v n xs)(hbase:b < base)(hg:w.grownBy w' v.ownBlock):Fr b a w':=by
 refine h.trans ⟨(Below.refl b w).grown hg (Nat.le_of_lt hlt) (fun k hk=>by have:=(h2.lt k hk).1;omega),fun i c t f h1 h3 _=>?_⟩
 rw[hg.block i (lt_of_block h1) (fun e=>?_)]
 ·exact h1
 ·rcases h2.2 with ⟨rfl,_⟩|⟨g,cap,cur,rfl,_,hgg,_⟩
  ·simp[Value.ownBlock] at e
  ·simp[Value.ownBlock] at e
   subst e
   rw[hgg] at h1
   simp only[Option.some.injEq,Obj.cells.injEq] at h1
   exact h3 h1.2.1.symm
theorem run_neq_nil_ptr{P:Program}(w:World){tp te:TypeId}(a:Addr)(hp:P.underlying tp=some (.pointer te)) :
  (binOp .neq tp (.pointer none) (.pointer (some a))).run P w=.ok (.bool true) w:=by
 have h:∀ d:Nat,(Op.equalIn (d+1) tp (.pointer none) (.pointer (some a))).run P w=.ok false w:=fun d=>by
  simp[Op.equalIn,run_underlying hp]
 simp only[binOp]
 simp[Op.equal,Op.maxDepth,h 9999]
theorem infoPut:(Tryz.prog.info? 191).isSome=true:=by kernel_rfl
theorem fail_first(w:World)(b:Nat)(xs:List UInt8)(e:Int)(h:PutIs w b xs 0) :
  Calls Tryz.prog 158 #[.pointer (some ⟨b,0,none⟩),.int .i64 e] w fun r w'=>r=.returned (.pointer (some ⟨b,0,none⟩))∧PutIs w' b xs e∧Fr b w w':=by
 obtain⟨c,hc,hd,hp⟩:∃ c:Array Value,w.heap[b]?=some (.cells c 191 (0,0))∧c[2]?=some (.int .i64 0)∧PutIs (w.setCell ⟨b,2,none⟩ (.int .i64 e)) b xs e:=by
  rcases h with ⟨v,h1,h2⟩|⟨h,rfl⟩
  ·exact⟨_,h1,rfl,.inl ⟨v,by rw[set_at h1];rfl,ownsRow_setCell_below h2 (by simp) _⟩⟩
  ·exact⟨_,h,rfl,.inr ⟨by unfold PutNew at *;rw[set_at h];rfl,rfl⟩⟩
 have hcell:w.cell? ⟨b,2,none⟩=some (.int .i64 0):=by rw[cell_at hc];exact hd
 have hfr:w.frozen? ⟨b,2,none⟩=false:=free_at hc 2
 have hB:Fr b w (w.setCell ⟨b,2,none⟩ (.int .i64 e)):=(Fr.refl b w).setCell _ _
 clear hc hd h
 go_enter Tryz.func158,Tryz.ntmps158
 go_wp2
 go_ret
 exact⟨rfl,hp,hB⟩
theorem fail_later(w:World)(b:Nat)(xs:List UInt8)(e bad:Int)(h:PutIs w b xs bad)(hbad:bad≠0) :
  Calls Tryz.prog 158 #[.pointer (some ⟨b,0,none⟩),.int .i64 e] w fun r w'=>r=.returned (.pointer (some ⟨b,0,none⟩))∧w=w':=by
 have hcell:w.cell? ⟨b,2,none⟩=some (.int .i64 bad):=by
  rcases h with ⟨v,h1,h2⟩|⟨h,rfl⟩
  ·rw[cell_at h1];rfl
  ·rw[cell_at h];rfl
 clear h
 have hb:(bad == 0)=false:=by simpa using hbad
 go_enter Tryz.func158,Tryz.ntmps158
 go_wp2
 go_ret
 exact⟨rfl,rfl⟩
theorem ready_bad(w:World)(b:Nat)(xs:List UInt8)(bad:Int)(h:PutIs w b xs bad)(hbad:bad≠0) :
  Calls Tryz.prog 162 #[.pointer (some ⟨b,0,none⟩)] w fun r w'=>r=.returned (.bool false)∧w=w':=by
 have hcell:w.cell? ⟨b,2,none⟩=some (.int .i64 bad):=by
  rcases h with ⟨v,h1,h2⟩|⟨h,rfl⟩
  ·rw[cell_at h1];rfl
  ·rw[cell_at h];rfl
 clear h
 have hb:(bad != 0)=true:=by simpa using hbad
 go_enter Tryz.func162,Tryz.ntmps162
 go_wp2
 go_ret
 exact⟨rfl,rfl⟩
theorem clone_nil(w:World) :
  Calls Tryz.prog 163 #[.slice none 0 0] w fun r w'=>r=.returned (.slice none 0 0)∧w=w':=by
 have k:=Lib.run_eql_slice_nil (P:=Tryz.prog) w 188 5 none 0 0 0 0 Tryz.underlying188
 go_enter Tryz.func163,Tryz.ntmps163
 go_wp2
 go_ret
 exact⟨rfl,rfl⟩
theorem ready_ok(w:World)(b:Nat)(xs:List UInt8)(h:PutIs w b xs 0) :
  Calls Tryz.prog 162 #[.pointer (some ⟨b,0,none⟩)] w fun r w'=>r=.returned (.bool true)∧PutOwn w' b xs 0∧Fr b w w':=by
 rcases h with h|⟨h,rfl⟩
 ·have ho:=h
  obtain⟨v,h1,h2⟩:=h
  have c1:w.cell? ⟨b,1,none⟩=some (.pointer (some ⟨b,0,none⟩)):=by rw[cell_at h1];rfl
  have c2:w.cell? ⟨b,2,none⟩=some (.int .i64 0):=by rw[cell_at h1];rfl
  clear h1 h2
  obtain⟨j,hj⟩:=Option.isSome_iff_exists.1 infoPut
  have k:=run_neq_ptr_same w ⟨b,0,none⟩ Tryz.underlying189 hj
  clear hj
  go_enter Tryz.func162,Tryz.ntmps162
  go_wp2
  go_ret
  exact⟨rfl,ho,Fr.refl _ _⟩
 ·have c0:w.cell? ⟨b,0,none⟩=some (.slice none 0 0):=by rw[cell_at h];rfl
  have c1:w.cell? ⟨b,1,none⟩=some (.pointer none):=by rw[cell_at h];rfl
  have c2:w.cell? ⟨b,2,none⟩=some (.int .i64 0):=by rw[cell_at h];rfl
  have f0:w.frozen? ⟨b,0,none⟩=false:=free_at h 0
  have f1:w.frozen? ⟨b,1,none⟩=false:=free_at h 1
  have s0:=set_at h 0 (.slice none 0 0)
  have s1:=set_at s0 1 (.pointer (some ⟨b,0,none⟩))
  have f1':(w.setCell ⟨b,0,none⟩ (.slice none 0 0)).frozen? ⟨b,1,none⟩=false:=free_at s0 1
  have c1':(w.setCell ⟨b,0,none⟩ (.slice none 0 0)).cell? ⟨b,1,none⟩=some (.pointer none):=by rw[cell_at s0];rfl
  have ho:PutOwn ((w.setCell ⟨b,0,none⟩ (.slice none 0 0)).setCell ⟨b,1,none⟩ (.pointer (some ⟨b,0,none⟩))) b [] 0:=⟨.slice none 0 0,by rw[s1];rfl,World.ownsRow_nil _ _ _ _⟩
  have hB:Fr b w ((w.setCell ⟨b,0,none⟩ (.slice none 0 0)).setCell ⟨b,1,none⟩ (.pointer (some ⟨b,0,none⟩))):=((Fr.refl b w).setCell _ _).setCell _ _
  clear h s0 s1
  have k:=run_neq_nil_ptr (P:=Tryz.prog) w ⟨b,0,none⟩ Tryz.underlying189
  go_enter Tryz.func162,Tryz.ntmps162
  go_wp2_with (go_at_call 163;refine (clone_nil _).mono ?_;rintro e w' ⟨rfl,rfl⟩)
  go_ret
  exact⟨rfl,ho,hB⟩
theorem put_block{wr w':World}{b base e:Nat}{v:Value}{n:Nat}{xs:List Value}{c:Obj}(h1:wr.heap[b]?=some c)(h2:wr.ownsRow base e 1 v n xs)(hbase:b < base)(hg:wr.grownBy w' v.ownBlock):w'.heap[b]?=some c:=by
 rw[hg.block b (Array.getElem?_eq_some_iff.1 h1).1 (fun e=>by have:=(h2.lt b e.symm).1;omega)];exact h1
theorem put_stored{w:World}{b:Nat}{v v':Value}{bad:Int}{ys:List UInt8}(h1:w.heap[b]?=some (.cells #[v,.pointer (some ⟨b,0,none⟩),.int .i64 bad] 191 (0,0)))(h2:w.ownsRow (b+1) 5 1 v' ys.length (cells ys)) :
  PutOwn (w.setCell ⟨b,0,none⟩ v') b ys bad:=⟨v',by rw[set_at h1];rfl,ownsRow_setCell_below h2 (by simp) _⟩
theorem number_bad(w:World)(b:Nat)(xs:List UInt8)(bad:Int)(n:Int)(size:Int)(h:PutIs w b xs bad)(hbad:bad≠0) :
  Calls Tryz.prog 161 #[.pointer (some ⟨b,0,none⟩),.int .u64 n,.int .i64 size] w fun r w'=>r=.returned (.pointer (some ⟨b,0,none⟩))∧w=w':=by
 go_enter Tryz.func161,Tryz.ntmps161
 go_wp2_with (go_at_call 162;refine (ready_bad _ b xs bad h hbad).mono ?_;rintro e w' ⟨rfl,rfl⟩)
 go_ret
 exact⟨rfl,rfl⟩
theorem number_ok(w:World)(b:Nat)(xs:List UInt8)(n size:Nat)(hn:n < 18446744073709551616)(hs:size≤8)(hx:xs.length≤140737488355000)(h:PutIs w b xs 0) :
  Calls Tryz.prog 161 #[.pointer (some ⟨b,0,none⟩),.int .u64 n,.int .i64 size] w fun r w'=>r=.returned (.pointer (some ⟨b,0,none⟩))∧PutOwn w' b (xs++low size n) 0∧Fr b w w':=by
 obtain⟨i0,hi,hz0,hz1,hz2⟩:=info_parts infoByte
 go_enter Tryz.func161,Tryz.ntmps161
 go_wp2_with (go_at_call 162;refine (ready_ok _ b xs h).mono ?_;rintro e w1 ⟨rfl,ho,hb⟩)
 go_loopw [1,10] (fun v i wr=>∃ k x:Nat,k≤size∧i=.int .i64 k∧v=.int .u64 (x:Int)∧Hid (x=n / 256 ^ k)∧x < 18446744073709551616∧PutOwn wr b (xs++low k n) 0∧Fr b w wr) (fun _ i _=>size - (RowKit.intOf i).toNat)
 case atStart=>exact⟨0,n,Nat.zero_le _,rfl,rfl,(by simp:n=n / 256 ^ 0),hn,by simpa [low_zero] using ho,hb⟩
 case round=>
  obtain⟨k,x,hk,rfl,rfl,hxe,hxl,hown,hbel⟩:=hrel
  have hlt:=hown.lt
  obtain⟨v,h1,h2⟩:=hown
  have hll:(xs++low k n).length≤140737488355100:=by simp[low_length];omega
  have H1:=qh h1
  have c0:wr.cell? ⟨b,0,none⟩=some v:=by rw[cell_at h1];rfl
  clear h1
  by_cases hks:k < size
  ·go_wp2_with (at_builtin;refine wpList_append_own _ rfl _ _ 188 rfl (b+1) 5 i0 (.int .u8 0) 1 1 Tryz.underlying188 hi hz0 hz1 hz2 rfl (by decide) _ _ _ rfl (h2.alloc _) ⟨wr.heap.size,0,none⟩ 1 1 [.int .u8 ((x:Int) % 256)] rfl rfl ?c1 ?c2 ?c3 ?c4 ?c5 ?_)
   case c1=>exact cell_one_new _ _ _
   case c2=>intro u hu;simp at hu;subst hu;rfl
   case c3=>unfold maxLen;omega
   case c4=>omega
   case c5=>simp;omega
   intro v' w2 hown' hgrow _
   obtain⟨sa,sn,sc,rfl⟩:=owns_shape hown'
   have ha1:=(show (wr.alloc (.cells #[.int .u8 ((x:Int) % 256)] 5)).heap[b]?=_ from (Below.heap_alloc wr _ b hlt).trans H1.out)
   have hblk:=put_block ha1 (h2.alloc _) (by omega) hgrow
   have hb2:Fr b w w2:=(hbel.alloc (by omega) _).grown (by simp;omega) (h2.alloc _) (by omega) hgrow
   have hys:w2.ownsRow (b+1) 5 1 (.slice sa sn sc) (xs++low (k+1) n).length (cells (xs++low (k+1) n)):=by
    have e1:xs++low (k+1) n=(xs++low k n)++[UInt8.ofNat x]:=by rw[low_succ,hxe.out,List.append_assoc]
    rw[e1,cells_snoc,List.length_append,List.length_append];exact hown'
   have hst:=put_stored hblk hys
   have c0':w2.cell? ⟨b,0,none⟩=some v:=by rw[cell_at hblk];rfl
   have f0':w2.frozen? ⟨b,0,none⟩=false:=free_at hblk 0
   have hb3:Fr b w (w2.setCell ⟨b,0,none⟩ (.slice sa sn sc)):=hb2.setCell _ _
   have hxe':Hid (x / 256=n / 256 ^ (k+1)):=div_step hxe.out
   have hx8:x / 256 < 18446744073709551616:=by omega
   clear ha1 hblk hb2 hys hown' hgrow c0 h2 hll
   go_wp2
   go_roundw
   case rel=>exact⟨k+1,x / 256,by omega,by go_num,by go_num,hxe',hx8,hst,hb3⟩
   case measure=>simp[RowKit.intOf];omega
  ·go_wp2
   go_ret
   obtain rfl:k=size:=by omega
   exact⟨rfl,⟨v,H1.out,h2⟩,hbel⟩
def stepN(n:Nat)(v:Int)(xs:List UInt8)(bad:Int):List UInt8×Int:=
 if bad=0 then (if 0≤v∧v < 256 ^ n then (xs++low n v.toNat,0) else (xs,1)) else (xs,bad)
theorem stepN_bad{n:Nat}{v:Int}{xs:List UInt8}{bad:Int}(h:bad≠0):stepN n v xs bad=(xs,bad):=by simp[stepN,h]
theorem stepN_fits{n:Nat}{v:Int}{xs:List UInt8}(h0:0≤v)(h1:v < 256 ^ n):stepN n v xs 0=(xs++low n v.toNat,0):=by simp[stepN,h0,h1]
theorem stepN_not{n:Nat}{v:Int}{xs:List UInt8}(h:¬ (0≤v∧v < 256 ^ n)):stepN n v xs 0=(xs,1):=by simp only[stepN,if_neg h,if_true]
theorem narrow_neg(w:World)(b:Nat)(xs:List UInt8)(v s:Int)(hv:v < 0)(h:PutIs w b xs 0) :
  Calls Tryz.prog 157 #[.pointer (some ⟨b,0,none⟩),.int .i64 v,.int .i64 s] w fun r w'=>r=.returned (.pointer (some ⟨b,0,none⟩))∧PutIs w' b xs 1∧Fr b w w':=by
 go_enter Tryz.func157,Tryz.ntmps157
 go_wp2_with (go_at_call 158;refine (fail_first _ b xs 1 h).mono ?_;rintro e w' ⟨rfl,h1,h2⟩)
 go_ret
 exact⟨rfl,h1,h2⟩
theorem narrow_neg_bad(w:World)(b:Nat)(xs:List UInt8)(bad v s:Int)(hv:v < 0)(hbad:bad≠0)(h:PutIs w b xs bad) :
  Calls Tryz.prog 157 #[.pointer (some ⟨b,0,none⟩),.int .i64 v,.int .i64 s] w fun r w'=>r=.returned (.pointer (some ⟨b,0,none⟩))∧w=w':=by
 go_enter Tryz.func157,Tryz.ntmps157
 go_wp2_with (go_at_call 158;refine (fail_later _ b xs 1 bad h hbad).mono ?_;rintro e w' ⟨rfl,rfl⟩)
 go_ret
 exact⟨rfl,rfl⟩
theorem narrow_fits_1(w:World)(b:Nat)(xs:List UInt8)(v:Nat)(hv:v < 256)(hx:xs.length≤140737488355000)(h:PutIs w b xs 0) :
  Calls Tryz.prog 157 #[.pointer (some ⟨b,0,none⟩),.int .i64 v,.int .i64 1] w fun r w'=>r=.returned (.pointer (some ⟨b,0,none⟩))∧PutOwn w' b (xs++low 1 v) 0∧Fr b w w':=by
 have k1:(((v:Int) / 256) != 0)=false:=by simp;omega
 have k2:decide ((v:Int) < 0)=false:=by simp
 go_enter Tryz.func157,Tryz.ntmps157
 go_wp2_with (go_at_call 161;refine (number_ok _ b xs v 1 (by omega) (by omega) hx h).mono ?_;rintro e w' ⟨rfl,h1,h2⟩)
 go_ret
 exact⟨rfl,h1,h2⟩
theorem narrow_over_1(w:World)(b:Nat)(xs:List UInt8)(v:Nat)(hv:¬ v < 256)(hv2:v < 9223372036854775808)(h:PutIs w b xs 0) :
  Calls Tryz.prog 157 #[.pointer (some ⟨b,0,none⟩),.int .i64 v,.int .i64 1] w fun r w'=>r=.returned (.pointer (some ⟨b,0,none⟩))∧PutIs w' b xs 1∧Fr b w w':=by
 have k1:(((v:Int) / 256) != 0)=true:=by simp;omega
 have k2:decide ((v:Int) < 0)=false:=by simp
 clear hv2
 go_enter Tryz.func157,Tryz.ntmps157
 go_wp2_with (go_at_call 158;refine (fail_first _ b xs 1 h).mono ?_;rintro e w' ⟨rfl,h1,h2⟩)
 go_ret
 exact⟨rfl,h1,h2⟩
theorem narrow_bad_1(w:World)(b:Nat)(xs:List UInt8)(v:Nat)(bad:Int)(hbad:bad≠0)(h:PutIs w b xs bad) :
  Calls Tryz.prog 157 #[.pointer (some ⟨b,0,none⟩),.int .i64 v,.int .i64 1] w fun r w'=>r=.returned (.pointer (some ⟨b,0,none⟩))∧w=w':=by
 have k2:decide ((v:Int) < 0)=false:=by simp
 by_cases hv:v < 256
 ·have k1:(((v:Int) / 256) != 0)=false:=by simp;omega
  go_enter Tryz.func157,Tryz.ntmps157
  go_wp2_with (go_at_call 161;refine (number_bad _ b xs bad _ _ h hbad).mono ?_;rintro e w' ⟨rfl,rfl⟩)
  go_ret
  exact⟨rfl,rfl⟩
 ·have k1:(((v:Int) / 256) != 0)=true:=by simp;omega
  go_enter Tryz.func157,Tryz.ntmps157
  go_wp2_with (go_at_call 158;refine (fail_later _ b xs 1 bad h hbad).mono ?_;rintro e w' ⟨rfl,rfl⟩)
  go_ret
  exact⟨rfl,rfl⟩
theorem narrow_1(w:World)(b:Nat)(xs:List UInt8)(v bad:Int)(hv:v < 9223372036854775808)(hx:xs.length≤140737488355000)(h:PutIs w b xs bad) :
  Calls Tryz.prog 157 #[.pointer (some ⟨b,0,none⟩),.int .i64 v,.int .i64 1] w fun r w'=>r=.returned (.pointer (some ⟨b,0,none⟩))∧PutIs w' b (stepN 1 v xs bad).1 (stepN 1 v xs bad).2∧Fr b w w':=by
 by_cases hbad:bad=0
 ·subst hbad
  by_cases h0:0≤v
  ·obtain⟨n,rfl⟩:=Int.eq_ofNat_of_zero_le h0
   by_cases hn:n < 256
   ·rw[stepN_fits h0 (by omega)]
    exact (narrow_fits_1 w b xs n hn hx h).mono fun _ _ ⟨a,c,d⟩=>⟨a,.inl c,d⟩
   ·rw[stepN_not (by omega)]
    exact narrow_over_1 w b xs n hn (by omega) h
  ·rw[stepN_not (by omega)]
   exact narrow_neg w b xs v 1 (by omega) h
 ·rw[stepN_bad hbad]
  by_cases h0:0≤v
  ·obtain⟨n,rfl⟩:=Int.eq_ofNat_of_zero_le h0
   exact (narrow_bad_1 w b xs n bad hbad h).mono fun _ _ ⟨a,c⟩=>⟨a,c ▸ h,c ▸ Fr.refl _ _⟩
  ·exact (narrow_neg_bad w b xs bad v 1 (by omega) hbad h).mono fun _ _ ⟨a,c⟩=>⟨a,c ▸ h,c ▸ Fr.refl _ _⟩
theorem narrow_fits_2(w:World)(b:Nat)(xs:List UInt8)(v:Nat)(hv:v < 65536)(hx:xs.length≤140737488355000)(h:PutIs w b xs 0) :
  Calls Tryz.prog 157 #[.pointer (some ⟨b,0,none⟩),.int .i64 v,.int .i64 2] w fun r w'=>r=.returned (.pointer (some ⟨b,0,none⟩))∧PutOwn w' b (xs++low 2 v) 0∧Fr b w w':=by
 have k1:(((v:Int) / 65536) != 0)=false:=by simp;omega
 have k2:decide ((v:Int) < 0)=false:=by simp
 go_enter Tryz.func157,Tryz.ntmps157
 go_wp2_with (go_at_call 161;refine (number_ok _ b xs v 2 (by omega) (by omega) hx h).mono ?_;rintro e w' ⟨rfl,h1,h2⟩)
 go_ret
 exact⟨rfl,h1,h2⟩
theorem narrow_over_2(w:World)(b:Nat)(xs:List UInt8)(v:Nat)(hv:¬ v < 65536)(hv2:v < 9223372036854775808)(h:PutIs w b xs 0) :
  Calls Tryz.prog 157 #[.pointer (some ⟨b,0,none⟩),.int .i64 v,.int .i64 2] w fun r w'=>r=.returned (.pointer (some ⟨b,0,none⟩))∧PutIs w' b xs 1∧Fr b w w':=by
 have k1:(((v:Int) / 65536) != 0)=true:=by simp;omega
 have k2:decide ((v:Int) < 0)=false:=by simp
 clear hv2
 go_enter Tryz.func157,Tryz.ntmps157
 go_wp2_with (go_at_call 158;refine (fail_first _ b xs 1 h).mono ?_;rintro e w' ⟨rfl,h1,h2⟩)
 go_ret
 exact⟨rfl,h1,h2⟩
theorem narrow_bad_2(w:World)(b:Nat)(xs:List UInt8)(v:Nat)(bad:Int)(hbad:bad≠0)(h:PutIs w b xs bad) :
  Calls Tryz.prog 157 #[.pointer (some ⟨b,0,none⟩),.int .i64 v,.int .i64 2] w fun r w'=>r=.returned (.pointer (some ⟨b,0,none⟩))∧w=w':=by
 have k2:decide ((v:Int) < 0)=false:=by simp
 by_cases hv:v < 65536
 ·have k1:(((v:Int) / 65536) != 0)=false:=by simp;omega
  go_enter Tryz.func157,Tryz.ntmps157
  go_wp2_with (go_at_call 161;refine (number_bad _ b xs bad _ _ h hbad).mono ?_;rintro e w' ⟨rfl,rfl⟩)
  go_ret
  exact⟨rfl,rfl⟩
 ·have k1:(((v:Int) / 65536) != 0)=true:=by simp;omega
  go_enter Tryz.func157,Tryz.ntmps157
  go_wp2_with (go_at_call 158;refine (fail_later _ b xs 1 bad h hbad).mono ?_;rintro e w' ⟨rfl,rfl⟩)
  go_ret
  exact⟨rfl,rfl⟩
theorem narrow_2(w:World)(b:Nat)(xs:List UInt8)(v bad:Int)(hv:v < 9223372036854775808)(hx:xs.length≤140737488355000)(h:PutIs w b xs bad) :
  Calls Tryz.prog 157 #[.pointer (some ⟨b,0,none⟩),.int .i64 v,.int .i64 2] w fun r w'=>r=.returned (.pointer (some ⟨b,0,none⟩))∧PutIs w' b (stepN 2 v xs bad).1 (stepN 2 v xs bad).2∧Fr b w w':=by
 by_cases hbad:bad=0
 ·subst hbad
  by_cases h0:0≤v
  ·obtain⟨n,rfl⟩:=Int.eq_ofNat_of_zero_le h0
   by_cases hn:n < 65536
   ·rw[stepN_fits h0 (by omega)]
    exact (narrow_fits_2 w b xs n hn hx h).mono fun _ _ ⟨a,c,d⟩=>⟨a,.inl c,d⟩
   ·rw[stepN_not (by omega)]
    exact narrow_over_2 w b xs n hn (by omega) h
  ·rw[stepN_not (by omega)]
   exact narrow_neg w b xs v 2 (by omega) h
 ·rw[stepN_bad hbad]
  by_cases h0:0≤v
  ·obtain⟨n,rfl⟩:=Int.eq_ofNat_of_zero_le h0
   exact (narrow_bad_2 w b xs n bad hbad h).mono fun _ _ ⟨a,c⟩=>⟨a,c ▸ h,c ▸ Fr.refl _ _⟩
  ·exact (narrow_neg_bad w b xs bad v 2 (by omega) hbad h).mono fun _ _ ⟨a,c⟩=>⟨a,c ▸ h,c ▸ Fr.refl _ _⟩
def stepR(ys:List UInt8)(xs:List UInt8)(bad:Int):List UInt8×Int:=if bad=0 then (xs++ys,0) else (xs,bad)
def stepT(ys:List UInt8)(xs:List UInt8)(bad:Int):List UInt8×Int:=
 if bad=0 then (if ys.length≤65535 then (xs++(low 2 ys.length++ys),0) else (xs,2)) else (xs,bad)
theorem put_bad_cell{w:World}{b:Nat}{xs:List UInt8}{bad:Int}(h:PutIs w b xs bad):w.cell? ⟨b,2,none⟩=some (.int .i64 bad):=by
 rcases h with ⟨v,h1,h2⟩|⟨h,rfl⟩
 ·rw[cell_at h1];rfl
 ·rw[cell_at h];rfl
end Go.Proofs.YtjepgclnbbpnaaaGreat.PP
namespace Go.Proofs.YtjepgclnbbpnaaaGreat.PP
open Go Go.RowKit Go.Lib P0
theorem putByte_any(w:World)(b:Nat)(xs:List UInt8)(v bad:Int)(hv:v < 9223372036854775808)(hx:xs.length≤140737488355000)(h:PutIs w b xs bad) :
  Calls Tryz.prog 147 #[.pointer (some ⟨b,0,none⟩),.int .i64 v] w fun r w'=>r=.returned (.pointer (some ⟨b,0,none⟩))∧PutIs w' b (stepN 1 v xs bad).1 (stepN 1 v xs bad).2∧Fr b w w':=by
 have H:=narrow_1 w b xs v bad hv hx h
 clear hv
 go_enter Tryz.func147,Tryz.ntmps147
 go_wp2_with (go_at_call 157;refine H.mono ?_;rintro e w' ⟨rfl,h1,h2⟩)
 go_ret
 exact⟨rfl,h1,h2⟩
theorem putHalf_any(w:World)(b:Nat)(xs:List UInt8)(v bad:Int)(hv:v < 9223372036854775808)(hx:xs.length≤140737488355000)(h:PutIs w b xs bad) :
  Calls Tryz.prog 151 #[.pointer (some ⟨b,0,none⟩),.int .i64 v] w fun r w'=>r=.returned (.pointer (some ⟨b,0,none⟩))∧PutIs w' b (stepN 2 v xs bad).1 (stepN 2 v xs bad).2∧Fr b w w':=by
 have H:=narrow_2 w b xs v bad hv hx h
 clear hv
 go_enter Tryz.func151,Tryz.ntmps151
 go_wp2_with (go_at_call 157;refine H.mono ?_;rintro e w' ⟨rfl,h1,h2⟩)
 go_ret
 exact⟨rfl,h1,h2⟩
end Go.Proofs.YtjepgclnbbpnaaaGreat.PP
namespace Go.Proofs.YtjepgclnbbpnaaaGreat.PP
open PK (qqA qqB qqC qqD qqE qqF tk tkS dOne qh)
open Go Go.RowKit Go.Lib P0
theorem raw_bad(w:World)(b:Nat)(xs:List UInt8)(bad:Int)(s:ByteArray)(h:PutIs w b xs bad)(hbad:bad≠0) :
  Calls Tryz.prog 159 #[.pointer (some ⟨b,0,none⟩),.string s] w fun r w'=>r=.returned (.pointer (some ⟨b,0,none⟩))∧w=w':=by
 go_enter Tryz.func159,Tryz.ntmps159
 go_wp2_with (go_at_call 162;refine (ready_bad _ b xs bad h hbad).mono ?_;rintro e w' ⟨rfl,rfl⟩)
 go_ret
 exact⟨rfl,rfl⟩
theorem raw_ok(w:World)(b:Nat)(xs:List UInt8)(s:ByteArray)(hx:xs.length+s.size≤140737488355000)(h:PutIs w b xs 0) :
  Calls Tryz.prog 159 #[.pointer (some ⟨b,0,none⟩),.string s] w fun r w'=>r=.returned (.pointer (some ⟨b,0,none⟩))∧PutOwn w' b (xs++s.data.toList) 0∧Fr b w w':=by
 obtain⟨i0,hi,hz0,hz1,hz2⟩:=info_parts infoByte
 go_enter Tryz.func159,Tryz.ntmps159
 go_wp2_with (first|(go_at_call 162;refine (ready_ok _ b xs h).mono ?_;rintro e w1 ⟨rfl,ho,hb⟩;have hlt:=ho.lt;obtain⟨v,h1,h2⟩:=ho;have c0:w1.cell? ⟨b,0,none⟩=some v:=(by rw[cell_at h1];rfl);have H1:=qh h1;clear h1)|(at_builtin;go_must (refine wpList_append_own_string _ rfl (.tmp 11) (.tmp 12) 188 9 rfl (b+1) 5 i0 Tryz.underlying188 Tryz.underlying9 hi hz0 hz1 hz2 _ _ _ rfl h2 s rfl ?c1 ?c2 ?c3 ?_)))
 case c1=>unfold maxLen;omega
 case c2=>omega
 case c3=>omega
 intro v' w2 hown' hgrow _
 obtain⟨sa,sn,sc,rfl⟩:=owns_shape hown'
 have hblk:=put_block H1.out h2 (by omega) hgrow
 have hb2:Fr b w w2:=hb.grown hlt h2 (by omega) hgrow
 have hys:w2.ownsRow (b+1) 5 1 (.slice sa sn sc) (xs++s.data.toList).length (cells (xs++s.data.toList)):=by
  rw[cells_append,List.length_append];exact hown'
 have hst:=put_stored hblk hys
 have c0':w2.cell? ⟨b,0,none⟩=some v:=by rw[cell_at hblk];rfl
 have f0':w2.frozen? ⟨b,0,none⟩=false:=free_at hblk 0
 have hb3:Fr b w (w2.setCell ⟨b,0,none⟩ (.slice sa sn sc)):=hb2.setCell _ _
 clear hblk hb2 hys hown' hgrow c0 h2
 go_wp2
 go_ret
 exact⟨rfl,hst,hb3⟩
theorem putRaw_any(w:World)(b:Nat)(xs:List UInt8)(bad:Int)(s:ByteArray)(hx:xs.length+s.size≤140737488355000)(h:PutIs w b xs bad) :
  Calls Tryz.prog 159 #[.pointer (some ⟨b,0,none⟩),.string s] w fun r w'=>r=.returned (.pointer (some ⟨b,0,none⟩))∧PutIs w' b (stepR s.data.toList xs bad).1 (stepR s.data.toList xs bad).2∧Fr b w w':=by
 by_cases hbad:bad=0
 ·subst hbad
  exact (raw_ok w b xs s hx h).mono fun _ _ ⟨a,c,d⟩=>⟨a,.inl (by simpa [stepR] using c),d⟩
 ·exact (raw_bad w b xs bad s h hbad).mono fun _ _ ⟨a,c⟩=>⟨a,by simp only[stepR,if_neg hbad];exact c ▸ h,c ▸ Fr.refl _ _⟩
theorem text_long(w:World)(b:Nat)(xs:List UInt8)(bad:Int)(s:ByteArray)(hs:¬ s.size≤65535)(h:PutIs w b xs bad) :
  Calls Tryz.prog 148 #[.pointer (some ⟨b,0,none⟩),.string s] w fun r w'=>r=.returned (.pointer (some ⟨b,0,none⟩))∧PutIs w' b (stepT s.data.toList xs bad).1 (stepT s.data.toList xs bad).2∧Fr b w w':=by
 have H:Calls Tryz.prog 158 #[.pointer (some ⟨b,0,none⟩),.int .i64 2] w fun r w'=>r=.returned (.pointer (some ⟨b,0,none⟩))∧PutIs w' b (stepT s.data.toList xs bad).1 (stepT s.data.toList xs bad).2∧Fr b w w':=by
  by_cases hbad:bad=0
  ·subst hbad
   refine (fail_first w b xs 2 h).mono fun _ _ ⟨a,c,d⟩=>⟨a,?_,d⟩
   simp only[stepT,if_true,Array.length_toList]
   rw[if_neg (show ¬ s.data.size≤65535 from hs)];exact c
  ·exact (fail_later w b xs 2 bad h hbad).mono fun _ _ ⟨a,c⟩=>⟨a,by simp only[stepT,if_neg hbad];exact c ▸ h,c ▸ Fr.refl _ _⟩
 have k1:decide ((65535:Int) < (s.size:Int))=true:=by simp;omega
 go_enter Tryz.func148,Tryz.ntmps148
 go_wp2_with (go_at_call 158;refine H.mono ?_;rintro e w' ⟨rfl,h1,h2⟩)
 go_ret
 exact⟨rfl,h1,h2⟩
theorem text_short(w:World)(b:Nat)(xs:List UInt8)(bad:Int)(s:ByteArray)(hs:s.size≤65535)(hx:xs.length+s.size+2≤140737488355000)(h:PutIs w b xs bad) :
  Calls Tryz.prog 148 #[.pointer (some ⟨b,0,none⟩),.string s] w fun r w'=>r=.returned (.pointer (some ⟨b,0,none⟩))∧PutIs w' b (stepT s.data.toList xs bad).1 (stepT s.data.toList xs bad).2∧Fr b w w':=by
 have hl:s.data.size=s.size:=rfl
 have e1:stepN 2 (s.size:Int) xs bad=(if bad=0 then (xs++low 2 s.size,0) else (xs,bad)):=by
  by_cases hbad:bad=0
  ·subst hbad;rw[stepN_fits (by omega) (by omega)];simp
  ·rw[stepN_bad hbad,if_neg hbad]
 have e2:stepR s.data.toList (stepN 2 (s.size:Int) xs bad).1 (stepN 2 (s.size:Int) xs bad).2=stepT s.data.toList xs bad:=by
  rw[e1]
  by_cases hbad:bad=0
  ·subst hbad;simp[stepR,stepT,hl,hs]
  ·simp[stepR,stepT,hbad]
 have e3:(stepN 2 (s.size:Int) xs bad).1.length≤xs.length+2:=by
  rw[e1];split <;> simp[low_length]
 have H1:=qh (putHalf_any w b xs (s.size:Int) bad (by omega) (by omega) h)
 have H2a:(∀ w',PutIs w' b (stepN 2 (s.size:Int) xs bad).1 (stepN 2 (s.size:Int) xs bad).2→Calls Tryz.prog 159 #[.pointer (some ⟨b,0,none⟩),.string s] w' fun r w''=>r=.returned (.pointer (some ⟨b,0,none⟩))∧PutIs w'' b (stepT s.data.toList xs bad).1 (stepT s.data.toList xs bad).2∧Fr b w' w''):=
  fun w' hp=>by rw[← e2];exact putRaw_any w' b _ _ s (by omega) hp
 have H2:=qh H2a
 clear e1 e2 e3 hl H2a
 have k1:decide ((65535:Int) < (s.size:Int))=false:=by simp;omega
 go_enter Tryz.func148,Tryz.ntmps148
 go_wp2_with (first|(go_at_call 151;refine H1.out.mono ?_;rintro e w1 ⟨rfl,h1,h2⟩)|(go_at_call 159;refine (H2.out _ h1).mono ?_;rintro e w2 ⟨rfl,h3,h4⟩))
 go_ret
 exact⟨rfl,h3,h2.trans h4⟩
theorem putText_any(w:World)(b:Nat)(xs:List UInt8)(bad:Int)(s:ByteArray)(hx:xs.length+s.size+2≤140737488355000)(h:PutIs w b xs bad) :
  Calls Tryz.prog 148 #[.pointer (some ⟨b,0,none⟩),.string s] w fun r w'=>r=.returned (.pointer (some ⟨b,0,none⟩))∧PutIs w' b (stepT s.data.toList xs bad).1 (stepT s.data.toList xs bad).2∧Fr b w w':=by
 by_cases hs:s.size≤65535
 ·exact text_short w b xs bad s hs hx h
 ·exact text_long w b xs bad s hs h
end Go.Proofs.YtjepgclnbbpnaaaGreat.PP
namespace Go.Proofs.YtjepgclnbbpnaaaGreat.PP
open Go Go.RowKit Go.Lib P0
theorem putEnd_ok(w:World)(b:Nat)(xs:List UInt8)(h:PutIs w b xs 0) :
  Calls Tryz.prog 149 #[.pointer (some ⟨b,0,none⟩)] w fun r w'=>r=.returned (.tuple #[.string ⟨xs.toArray⟩,.int .i64 0])∧w=w':=by
 have c2:=put_bad_cell h
 obtain⟨v,c0,hr⟩:∃ v,w.cell? ⟨b,0,none⟩=some v∧(convert 188 9 v).run Tryz.prog w=.ok (.string ⟨xs.toArray⟩) w:=by
  rcases h with ⟨v,h1,h2⟩|⟨h,rfl⟩
  ·exact⟨v,by rw[cell_at h1];rfl,run_owned_string w h2⟩
  ·exact⟨_,by rw[cell_at h];rfl,run_owned_string (base:=0) (n:=0) w (World.ownsRow_nil w 0 5 1)⟩
 clear h
 go_enter Tryz.func149,Tryz.ntmps149
 go_wp2
 go_ret2
 exact⟨rfl,rfl⟩
end Go.Proofs.YtjepgclnbbpnaaaGreat.PP
