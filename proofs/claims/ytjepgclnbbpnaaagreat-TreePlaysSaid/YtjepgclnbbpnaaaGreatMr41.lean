/-
  Texts of the proofs of SaidPlays12.
-/
import Derived.Test.YtjepgclnbbpnaaaGreatMr40
import Derived.RangeFuncNested
set_option linter.unusedVariables false
set_option linter.unusedSimpArgs false
set_option maxHeartbeats 8000000
set_option maxRecDepth 100000
namespace Go.Proofs.YtjepgclnbbpnaaaGreat.P12
open PK (qqA qqB qqC qqD qqE qqF tk tkS dOne qh)
open Go Go.RowKit Go.Lib PK Go.Maps Go.Shelf Go.Sort
open P11 (Pg)
open P9 (It kb kb_trans RightI lowK hasK putI dropI OwnI cellsI)
theorem get_result{fn:Func}{q u z:Tmp}(h:fn.results=#[.cell q 29,.cell z 4,.cell u 32])(tmps:Array Value)(w:World)(a c b:Nat)(cs:Array Value)(t:Bool)(x:Int)(hq:tmps.getD q undef=.pointer (some ⟨a,0,none⟩))(hz:tmps.getD z undef=.pointer (some ⟨c,0,none⟩))(hu:tmps.getD u undef=.pointer (some ⟨b,0,none⟩))
  (hc:w.heap[a]?=some (.cells cs 29 (0,0))) (hs:cs.size=3) (ht:w.heap[c]?=some (.cells #[.bool t] 4 (0,0))) (hx:w.heap[b]?=some (.cells #[.int .i64 x] 32 (0,0))) :
  (results fn tmps).run Tryz.prog w=.ok (.tuple #[.agg cs,.bool t,.int .i64 x]) w:=by
 have hi:(Tryz.prog.info? 29).map (·.size)=some cs.size:=by rw[hs];kernel_rfl
 have e0:(results fn tmps).run Tryz.prog w=((asAddr (tmps.getD q undef)).run Tryz.prog w).andThen fun a w₁=>((loadVar 29 a).run Tryz.prog w₁).andThen fun v w₂=>((asAddr (tmps.getD z undef)).run Tryz.prog w₂).andThen fun c w₃=>((loadVar 4 c).run Tryz.prog w₃).andThen fun t w₄=>((asAddr (tmps.getD u undef)).run Tryz.prog w₄).andThen fun b w₅=>((loadVar 32 b).run Tryz.prog w₅).andThen fun y w₆=>.ok (.tuple #[v,t,y]) w₆:=by
  simp only[results,h]
  simp[Sem.run_bind,Result.andThen]
 have e1:∀ a:Nat,(asAddr (.pointer (some ⟨a,0,none⟩))).run Tryz.prog w=.ok ⟨a,0,none⟩ w:=fun _=>rfl
 have hc2:w.cell? ⟨b,0,none⟩=some (.int .i64 x):=by rw[cell_at hx];rfl
 have hc3:w.cell? ⟨c,0,none⟩=some (.bool t):=by rw[cell_at ht];rfl
 have e4:(loadVar 32 ⟨b,0,none⟩).run Tryz.prog w=.ok (.int .i64 x) w:=by
  simp[go_sem,loadVar,hc2]
 have e5:(loadVar 4 ⟨c,0,none⟩).run Tryz.prog w=.ok (.bool t) w:=by
  simp[go_sem,loadVar,hc3]
 rw[e0,hq,e1,Result.andThen_ok,run_loadVar_row (P:=Tryz.prog) w a 29 29 cs (0,0) _ hc Tryz.underlying29 rfl hi,Result.andThen_ok,hz,e1,Result.andThen_ok,e5,Result.andThen_ok,hu,e1,Result.andThen_ok,e4]
 rfl
def World.setIt(w:World)(n:Nat)(x:It):World:=((w.setCell ⟨n,0,none⟩ (.string x.key)).setCell ⟨n,1,none⟩ (.string x.val)).setCell ⟨n,2,none⟩ (.int .i64 x.kind)
theorem setIt_at{w:World}{n:Nat}{a0 a1 a2:Value}{t:TypeId}(h:w.heap[n]?=some (.cells #[a0,a1,a2] t (0,0)))(x:It):(World.setIt w n x).heap[n]?=some (.cells #[.string x.key,.string x.val,.int .i64 x.kind] t (0,0)):=by
 have h0:(w.setCell ⟨n,0,none⟩ (.string x.key)).heap[n]?=some (.cells #[.string x.key,a1,a2] t (0,0)):=P3.set_at h 0 _
 have h1:((w.setCell ⟨n,0,none⟩ (.string x.key)).setCell ⟨n,1,none⟩ (.string x.val)).heap[n]?=some (.cells #[.string x.key,.string x.val,a2] t (0,0)):=P3.set_at h0 1 _
 exact P3.set_at h1 2 _
theorem setIt_old{w:World}{n k:Nat}{o:Obj}(h:w.heap[k]?=some o)(hk:k≠n)(x:It):(World.setIt w n x).heap[k]?=some o:=
 P3.old_set (P3.old_set (P3.old_set h (⟨n,0,none⟩:Addr) hk _) (⟨n,1,none⟩:Addr) hk _) (⟨n,2,none⟩:Addr) hk _
theorem setIt_fr(w:World)(n:Nat)(x:It):P3.Fr (·=n) w (World.setIt w n x):=((fr_set _ _ _ _).trans (fr_set _ _ _ _)).trans (fr_set _ _ _ _)
theorem trGet_any(w:World)(b:Nat)(vl vg:Value)(M:PM)(h:PAt w b vl vg M)(hsz:M.L.length≤100000)(D:Nat)(root:Int)(L:List It)(ids:List Int)(ht:Tree M D root L ids)(hD:D≤12)(hn:ids.Nodup)(key:ByteArray)(x:It)(hx1:hasK L key=true→L[lowK L key]?=some x)(hx2:hasK L key=false→x=⟨⟨#[]⟩,⟨#[]⟩,0⟩) :
  Calls Tryz.prog 30 #[pgv b,.int .i64 root,.string key] w fun e w'=>e=.returned (.tuple #[x.v,.bool (hasK L key),.int .i64 0])∧Below w.heap.size w w':=by
 obtain⟨W1,hW1⟩:∃ W1,W1=w.alloc (.cells #[pgv b] 66):=⟨_,rfl⟩
 obtain⟨W2,hW2⟩:∃ W2,W2=W1.alloc (.cells #[.int .i64 root] 3):=⟨_,rfl⟩
 obtain⟨Wa,hWa⟩:∃ Wa,Wa=W2.alloc (.cells #[.string key] 9):=⟨_,rfl⟩
 obtain⟨W3,hW3⟩:∃ W3,W3=Wa.alloc (.cells #[.string ⟨#[]⟩,.string ⟨#[]⟩,.int .i64 0] 29):=⟨_,rfl⟩
 obtain⟨Wc,hWc⟩:∃ Wc,Wc=W3.alloc (.cells #[.bool false] 4):=⟨_,rfl⟩
 obtain⟨W4,hW4⟩:∃ W4,W4=Wc.alloc (.cells #[.int .i64 0] 32):=⟨_,rfl⟩
 have b1:Below w.heap.size w W1:=by rw[hW1];exact below_new _ _
 have b2:Below W1.heap.size W1 W2:=by rw[hW2];exact below_new _ _
 have ba:Below W2.heap.size W2 Wa:=by rw[hWa];exact below_new _ _
 have b3:Below Wa.heap.size Wa W3:=by rw[hW3];exact below_new _ _
 have bc:Below W3.heap.size W3 Wc:=by rw[hWc];exact below_new _ _
 have b4:Below Wc.heap.size Wc W4:=by rw[hW4];exact below_new _ _
 have r1:W4.heap[w.heap.size]?=some (.cells #[pgv b] 66 (0,0)):=P3.old_below (P3.old_below (P3.old_below (P3.old_below (P3.old_below (by rw[hW1];exact new_at _ _ _) b2) ba) b3) bc) b4
 have r2:W4.heap[W1.heap.size]?=some (.cells #[.int .i64 root] 3 (0,0)):=P3.old_below (P3.old_below (P3.old_below (P3.old_below (by rw[hW2];exact new_at _ _ _) ba) b3) bc) b4
 have ra:W4.heap[W2.heap.size]?=some (.cells #[.string key] 9 (0,0)):=P3.old_below (P3.old_below (P3.old_below (by rw[hWa];exact new_at _ _ _) b3) bc) b4
 have r3:W4.heap[Wa.heap.size]?=some (.cells #[.string ⟨#[]⟩,.string ⟨#[]⟩,.int .i64 0] 29 (0,0)):=P3.old_below (P3.old_below (by rw[hW3];exact new_at _ _ _) bc) b4
 have rc:W4.heap[W3.heap.size]?=some (.cells #[.bool false] 4 (0,0)):=P3.old_below (by rw[hWc];exact new_at _ _ _) b4
 have r4:W4.heap[Wc.heap.size]?=some (.cells #[.int .i64 0] 32 (0,0)):=by rw[hW4];exact new_at _ _ _
 have B4:Below w.heap.size w W4:=thenBelow (thenBelow (thenBelow (thenBelow (thenBelow b1 b2) ba) b3) bc) b4
 obtain⟨n3,hn3⟩:∃ n,n=Wa.heap.size:=⟨_,rfl⟩
 obtain⟨nc,hnc⟩:∃ n,n=W3.heap.size:=⟨_,rfl⟩
 obtain⟨n4,hn4⟩:∃ n,n=Wc.heap.size:=⟨_,rfl⟩
 have z1:=b1.size
 have z2:=b2.size
 have za:=ba.size
 have e1:W1.heap.size=w.heap.size+1:=by rw[hW1];simp
 have e2:W2.heap.size=w.heap.size+1+1:=by rw[hW2];simp[e1]
 have e3:n3=w.heap.size+1+1+1:=by rw[hn3,hWa];simp[e2]
 have ec:nc=w.heap.size+1+1+1+1:=by rw[hnc,hW3];simp[← hn3,e3]
 have e4:n4=w.heap.size+1+1+1+1+1:=by rw[hn4,hWc];simp[← hnc,ec]
 rw[← hn3] at r3
 rw[← hnc] at rc
 rw[← hn4] at r4
 obtain⟨W5,hW5⟩:∃ W5,W5=W4.alloc (.cells #[.int .i64 0] 32):=⟨_,rfl⟩
 have b5:Below W4.heap.size W4 W5:=by rw[hW5];exact below_new _ _
 have B5:=thenBelow B4 b5
 have r5:W5.heap[W4.heap.size]?=some (.cells #[.int .i64 0] 32 (0,0)):=by rw[hW5];exact new_at _ _ _
 have hps:=h.below_size
 have hl3:=lt_of_block r3
 have hlc:=lt_of_block rc
 have hl4:=lt_of_block r4
 have z5:W5.heap.size=W4.heap.size+1:=by rw[hW5];simp
 have zB:=B4.size
 have hcl:=get_cl W5 w.heap.size W1.heap.size W2.heap.size n3 nc n4 b vl vg M (h.below B5) hsz D root L ids ht hD hn key x hx1 hx2 (P3.old_below r1 b5) (P3.old_below r2 b5) (P3.old_below ra b5) (P3.old_below r3 b5) (P3.old_below rc b5) (P3.old_below r4 b5)
 have hgd:Calls Tryz.prog 31 #[pgv b,.func (.func 48) #[] #[.pointer (some ⟨w.heap.size,0,none⟩),.pointer (some ⟨W1.heap.size,0,none⟩),.pointer (some ⟨W2.heap.size,0,none⟩),.pointer (some ⟨n3,0,none⟩),.pointer (some ⟨nc,0,none⟩),.pointer (some ⟨n4,0,none⟩)]] W4 fun e w'=>e=.returned (.int .i64 0)∧w'.heap[n3]?=some (.cells #[.string x.key,.string x.val,.int .i64 x.kind] 29 (0,0))∧w'.heap[nc]?=some (.cells #[.bool (hasK L key)] 4 (0,0))∧w'.heap[n4]?=some (.cells #[.int .i64 0] 32 (0,0))∧Below w.heap.size w w':=by
  refine (guardGet W4 b _ _ _ _ _ _ 0 (fun w3=>w3.heap[n3]?=some (.cells #[.string x.key,.string x.val,.int .i64 x.kind] 29 (0,0))∧w3.heap[nc]?=some (.cells #[.bool (hasK L key)] 4 (0,0))∧w3.heap[n4]?=some (.cells #[.int .i64 0] 32 (0,0))∧Below w.heap.size w w3) ?_).mono ?_
  ·rw[← hW5]
   refine hcl.mono ?_
   rintro e w' ⟨rfl,w2,g,rfl⟩
   have k3:=P3.old_below (P3.old_below r3 b5) g
   have kc:=P3.old_below (P3.old_below rc b5) g
   have k4:=P3.old_below (P3.old_below r4 b5) g
   have k5:=P3.old_below r5 g
   have q:=setIt_at k3 x
   exact⟨rfl,P3.old_set (P3.old_set (setIt_old k5 (by omega) x) _ (by simp;omega) _) _ (by simp;omega) _,P3.old_set (P3.old_set q _ (by simp;omega) _) _ (by simp;omega) _,P3.old_set (P3.set_at (setIt_old kc (by omega) x) 0 _) _ (by simp;omega) _,P3.set_at (P3.old_set (setIt_old k4 (by omega) x) _ (by simp;omega) _) 0 _,
    P3.Fr.new (thenBelow B5 g) (S:=fun j=>j=n3∨j=nc∨j=n4) ((((setIt_fr w2 n3 x).mono fun _ _ e=>.inl e).trans ((fr_set _ _ _ _).mono fun _ _ e=>.inr (.inl e))).trans ((fr_set _ _ _ _).mono fun _ _ e=>.inr (.inr e))) fun j hj=>by omega⟩
  ·rintro e w' ⟨rfl,w3,⟨g1,g2,g3,g4⟩,g5,rfl⟩
   exact⟨rfl,P3.old_set g1 _ (by simp;omega) _,P3.old_set g2 _ (by simp;omega) _,P3.old_set g3 _ (by simp;omega) _,g4.setCell (p:=⟨W4.heap.size,0,none⟩) (by show w.heap.size≤W4.heap.size;exact B4.size) _⟩
 obtain⟨t,ht9⟩:∃ t,t=hasK L key:=⟨_,rfl⟩
 rw[← ht9] at hgd ⊢
 have HG:=qh hgd
 have hne3:nc≠n3:=by omega
 have hne4:n4≠n3:=by omega
 have hne5:n4≠nc:=by omega
 have HB5:=qh B5
 have HPs:=qh hps
 have HZ5:Hid (n3 < W5.heap.size∧nc < W5.heap.size∧n4 < W5.heap.size∧w.heap.size≤n3∧w.heap.size≤nc∧w.heap.size≤n4):=qh ⟨by omega,by omega,by omega,by omega,by omega,by omega⟩
 have o1:=cell_at r1 0
 simp only[qqD,qqE,qqF] at o1
 have hmf:∀ (fn:Fn) (first cap:Array Value) (w:World),(Instr.makeFunc fn first cap).run Tryz.prog w=.ok (.func fn first cap) w:=fun _ _ _ _=>rfl
 rw[e1,e2] at HG
 unfold pgv at HG o1 hW1 ⊢
 unfold P9.It.v
 clear h ht hn hcl hgd r1 r2 ra r3 rc r4 r5 b1 b2 ba b3 bc b4 b5 B4 B5 z1 z2 za z5 zB hl3 hlc hl4 hW5 e1 e2 hps hx1 hx2 ht9
 go_enter Tryz.func30,Tryz.ntmps30
 go_upto_region 1 with fail
 rw[← hW1,← hW2,← hWa,← hW3,← hWc,← hW4]
 rw[← e4,← ec,← e3]
 clear e3 ec e4 hn3 hnc hn4 hW4 hWc hW3 hWa hW2 hW1
 go_upto_region 2 with (go_at_call 31;(with_reducible refine HG.out.mono ?_);rintro e w5 ⟨rfl,g1,g2,g3,g4⟩;have c4:=cell_at g3 0;have f4:=free_at g3 0;have K1:=qh g1;have K2:=qh g2;have K3:=qh g3;have K4:=qh g4;clear g1 g2 g3 g4;(try simp only[qqD,qqE,qqF] at c4))
 clear c4 f4 o1
 obtain⟨w6,hw6⟩:∃ w6,w6=w5.setCell ⟨n4,0,none⟩ (.int .i64 0):=⟨_,rfl⟩
 rw[← hw6]
 have q1:w6.heap[n3]?=some (.cells #[.string x.key,.string x.val,.int .i64 x.kind] 29 (0,0)):=by rw[hw6];exact P3.old_set K1.out _ (Ne.symm hne4) _
 have q2:w6.heap[nc]?=some (.cells #[.bool t] 4 (0,0)):=by rw[hw6];exact P3.old_set K2.out _ (Ne.symm hne5) _
 have q3:w6.heap[n4]?=some (.cells #[.int .i64 0] 32 (0,0)):=by rw[hw6];exact P3.set_at K3.out 0 _
 have q4:P3.Fr (fun j=>j=n3∨j=nc∨j=n4) w5 w6:=by rw[hw6];exact (fr_set _ _ _ _).mono fun _ _ e=>.inr (.inr e)
 clear hw6
 have p1:=cell_at q1 0
 have p11:=cell_at q1 1
 have p12:=cell_at q1 2
 have p41:=free_at q1 1
 have p42:=free_at q1 2
 have p2:=cell_at q2 0
 have p3:=cell_at q3 0
 have p4:=free_at q1 0
 have p5:=free_at q2 0
 have p6:=free_at q3 0
 simp only[qqD,qqE,qqF] at p1 p11 p12 p2 p3
 have T1:=qh q1
 have T2:=qh q2
 have T3:=qh q3
 have T4:=qh q4
 clear q1 q2 q3 q4
 go_region
 obtain⟨w7,hw7⟩:∃ w7,w7=((World.setIt w6 n3 x).setCell ⟨nc,0,none⟩ (.bool t)).setCell ⟨n4,0,none⟩ (.int .i64 0):=⟨_,rfl⟩
 have u1:w7.heap[n3]?=some (.cells #[.string x.key,.string x.val,.int .i64 x.kind] 29 (0,0)):=by rw[hw7];exact P3.old_set (P3.old_set (setIt_at T1.out x) _ (Ne.symm hne3) _) _ (Ne.symm hne4) _
 have u2:w7.heap[nc]?=some (.cells #[.bool t] 4 (0,0)):=by rw[hw7];exact P3.old_set (P3.set_at (setIt_old T2.out hne3 x) 0 _) _ (Ne.symm hne5) _
 have u3:w7.heap[n4]?=some (.cells #[.int .i64 0] 32 (0,0)):=by rw[hw7];exact P3.set_at (P3.old_set (setIt_old T3.out hne4 x) _ hne5 _) 0 _
 have u4:P3.Fr (fun j=>j=n3∨j=nc∨j=n4) w5 w7:=by rw[hw7];exact T4.out.trans ((((setIt_fr _ _ _).mono fun _ _ e=>.inl e).trans ((fr_set _ _ _ _).mono fun _ _ e=>.inr (.inl e))).trans ((fr_set _ _ _ _).mono fun _ _ e=>.inr (.inr e)))
 unfold World.setIt at hw7
 rw[← hw7]
 clear hw7 p11 p12 p41 p42 p1 p2 p3 p4 p5 p6
 go_wp2
 have hz:=HZ5.out
 refine bodyPost_ret (get_result rfl _ _ n3 nc n4 _ t 0 rfl rfl rfl u1 rfl u2 u3) rfl ⟨rfl,?_⟩
 exact (P3.Fr.new K4.out u4 fun j hj=>by omega).drew
end Go.Proofs.YtjepgclnbbpnaaaGreat.P12
namespace Go.Proofs.YtjepgclnbbpnaaaGreat.P12
open PK (qqA qqB qqC qqD qqE qqF tk tkS dOne qh)
open Go Go.RowKit Go.Shelf Go.Lib PK
attribute [local go_sem] Oper.semAt_some
def KpB(n₀ Bs:Nat)(o:Obj)(A B:World):Prop:=Below n₀ A B∧(A.heap[Bs]?=some o→B.heap[Bs]?=some o)
theorem kpB_t{n₀ Bs:Nat}{o:Obj}{A B C:World}(h:KpB n₀ Bs o A B)(k:KpB n₀ Bs o B C):KpB n₀ Bs o A C:=⟨h.1.trans k.1,fun e=>k.2 (h.2 e)⟩
theorem kpB_b{n₀ Bs:Nat}{o:Obj}{w:World}(hn:n₀≤w.heap.size)(hB:Bs < w.heap.size)(W:World)(l:Nat)(o1 o2:Obj)(hl:w.heap.size≤l)(h:W.heap[l]?=some o1)(hc:o1.isCells=false)(hk:o1.isWalk=false):KpB n₀ Bs o W (W.putObj l o2):=
 ⟨belowK_b hn W l o1 o2 hl h hc hk,fun e=>by rw[World.putObj_heap_other (by omega)];exact e⟩
def backN(n:Nat):List (Fin n):=(List.finRange n).reverse
theorem backN_len(n:Nat):(backN n).length=n:=by simp[backN]
theorem backN_at{n k:Nat}(h:k < n):(backN n)[k]?=some ⟨n - 1 - k,by omega⟩:=by
 unfold backN
 rw[List.getElem?_reverse (by simpa using h),List.length_finRange,List.getElem?_eq_getElem (by rw[List.length_finRange];omega)]
 refine congrArg some (Fin.ext ?_)
 simp
theorem backN_take{n k:Nat}(h:k < n):(backN n).take (k+1)=(backN n).take k++[⟨n - 1 - k,by omega⟩]:=by
 rw[List.take_add_one,backN_at h]
 rfl
theorem back1_in(F:Fence)(n:Nat)(hF:F.fn 94)(hro:F.round=none)(hn:1≤n)(l Bs n₀ g cap:Nat)(ps:List Sp)(N:Nat)(hN:N=ps.length)(hps:N≤12)(hcap:N≤cap)(J Jx:List (Fin ps.length)→World→Prop)
  (hY:∀ pre (x:Fin ps.length) W,J pre W→pre.length < N→YieldAt F (n - 1) Tryz.prog l #[.int .i64 (x.1:Int),(ps[x.1]).v] W fun e W'=>
   (e=.returned (.bool true)∧J (pre++[x]) W'∧KpB n₀ Bs (.cells #[.slice (some ⟨g,0,none⟩) N cap] 84 (0,0)) W W')∨(e=.returned (.bool false)∧Jx (pre++[x]) W'))
  (W:World) (hBs:W.heap[Bs]?=some (.cells #[.slice (some ⟨g,0,none⟩) N cap] 84 (0,0)))
  (hc:∀ W',Below n₀ W W'→∀ (i:Nat) (p:Sp),ps[i]?=some p→∀ (j:Nat) (u:Value),p.cells[j]?=some u→W'.cell? ⟨g,i*8+j,none⟩=some u) (h0:J [] W) :
  CallsIn F n Tryz.prog 94 #[.func (.yield l) #[] #[],.pointer (some ⟨Bs,0,none⟩)] W fun e W'=>(∃ v,e=.returned v)∧
   ((∃ ys,ys=backN ps.length∧J ys W')∨(∃ pre,pre <+: backN ps.length∧Jx pre W')):=by
 refine callsIn_of_wp Tryz.func94 rfl hF ?_ hro
 simp only[Tryz.ntmps94,List.size_toArray,List.length_cons,List.length_nil,Nat.reduceAdd,Nat.reduceSub,Array.replicate_succ,Array.replicate_zero,List.push_toArray,List.append_toArray,List.nil_append,List.cons_append]
 have o0:=cell_at hBs 0
 simp only[qqD,qqE] at o0
 have hw:IntKind.i64.wrap ((N:Int) - 1)=(N:Int) - 1:=by rw[IntKind.wrap_i64];omega
 have HBs:=qh hBs
 have HC:=qh hc
 have HN:=qh hN
 have HY:=qh hY
 clear hBs hc hN hY
 gi_wp2
 gi_loopw [3] (fun i wr=>∃ k:Nat,k≤N∧i=.int .i64 ((N:Int) - 1 - k)∧J ((backN ps.length).take k) wr∧Hid (KpB n₀ Bs (.cells #[.slice (some ⟨g,0,none⟩) N cap] 84 (0,0)) W wr)) (fun i _=>(RowKit.intOf i+1).toNat)
 case atStart=>exact⟨0,Nat.zero_le _,by rw[Int.natCast_zero,Int.sub_zero],h0,qh ⟨Below.refl _ _,fun e=>e⟩⟩
 case round=>
  obtain⟨k,hk,rfl,hJs,hK⟩:=hrel
  clear o0
  have o0:=cell_at (hK.out.2 HBs.out) 0
  simp only[qqD,qqE] at o0
  by_cases hlt:k < N
  ·obtain⟨j,hj⟩:∃ j:Nat,(N:Int) - 1 - k=(j:Int):=⟨N - 1 - k,by omega⟩
   have hj2:j < ps.length:=by have:=HN.out;omega
   obtain⟨p,hp⟩:∃ p,p=ps[j]:=⟨_,rfl⟩
   have hp2:ps[j]?=some p:=by rw[hp];exact List.getElem?_eq_getElem hj2
   have hcs:=HC.out wr hK.out.1 j p hp2
   have c0:=hcs 0 _ rfl
   rw[Nat.add_zero] at c0
   have c1:=hcs 1 _ rfl
   have c2:=hcs 2 _ rfl
   have c3:=hcs 3 _ rfl
   have c4:=hcs 4 _ rfl
   have c5:=hcs 5 _ rfl
   have c6:=hcs 6 _ rfl
   have c7:=hcs 7 _ rfl
   obtain⟨fn,tmps,assign,body,hy,hR⟩:=HY.out _ ⟨j,hj2⟩ wr hJs (by rw[List.length_take,backN_len];have:=HN.out;omega)
   have e9:(ps[j]).v=p.v:=by rw[hp]
   rw[e9] at hy
   simp only[Sp.v] at hy
   rw[hj]
   have k2:(0:Int)≤(j:Int):=by omega
   have k3:(j:Int) < (N:Int):=by omega
   have HJ:=qh hj
   have hwj:IntKind.i64.wrap ((j:Int) - 1)=(j:Int) - 1:=by rw[IntKind.wrap_i64];omega
   clear hcs hp hp2 e9 hj
   gi_wp2
   refine hR.mono ?_
   rintro e W3 (⟨rfl,hJ3,hk3⟩|⟨rfl,hJx3⟩)
   ·gi_wp2
    go_roundw
    case rel=>
     have:=HJ.out
     refine⟨k+1,by omega,by congr 1;omega,?_,qh (kpB_t hK.out hk3)⟩
     have hkn:k < ps.length:=by have:=HN.out;omega
     have ej:(⟨j,hj2⟩:Fin ps.length)=⟨ps.length - 1 - k,by omega⟩:=Fin.ext (show j=ps.length - 1 - k by have:=HN.out;omega)
     rw[backN_take hkn,← ej]
     exact hJ3
    case measure=>
     simp[RowKit.intOf]
   ·gi_wp2
    refine bodyPost_ret (results_none rfl _ _ _) rfl ?_
    refine⟨⟨_,rfl⟩,.inr ⟨_,?_,hJx3⟩⟩
    have hkn:k < ps.length:=by have:=HN.out;omega
    have ej:(⟨j,hj2⟩:Fin ps.length)=⟨ps.length - 1 - k,by omega⟩:=Fin.ext (show j=ps.length - 1 - k by have:=HN.out;have:=HJ.out;omega)
    rw[ej,← backN_take hkn]
    exact List.take_prefix _ _
  ·obtain rfl:k=N:=by omega
   have ek:(k:Int) - 1 - k=-1:=by omega
   rw[ek]
   gi_wp2
   go_end0
   refine⟨⟨_,rfl⟩,.inl ⟨_,rfl,?_⟩⟩
   rw[HN.out,List.take_of_length_le (by rw[backN_len];omega)] at hJs
   exact hJs
theorem back_stops(F:Fence)(n:Nat)(hF:F.fn 94)(hro:F.round=none)(hn:1≤n)(Bs n₀ g cap:Nat)(ps:List Sp)(N:Nat)(hN:N=ps.length)(hps:N≤12)(hcap:N≤cap)(w:World)(hn₀:n₀≤w.heap.size)
  (hBs:w.heap[Bs]?=some (.cells #[.slice (some ⟨g,0,none⟩) N cap] 84 (0,0)))
  (hc:∀ W',Below n₀ w W'→∀ (i:Nat) (p:Sp),ps[i]?=some p→∀ (j:Nat) (u:Value),p.cells[j]?=some u→W'.cell? ⟨g,i*8+j,none⟩=some u) :
  SeqStopsK F n Tryz.prog 94 #[.pointer (some ⟨Bs,0,none⟩)] (fun x:Fin ps.length=>#[.int .i64 (x.1:Int),(ps[x.1]).v]) (KpB n₀ Bs (.cells #[.slice (some ⟨g,0,none⟩) N cap] 84 (0,0))) (fun ys=>ys=backN ps.length) (fun pre=>pre <+: backN ps.length) N w:=fun l J Jx W hW _ _ hY h0=>
 back1_in F n hF hro hn l Bs n₀ g cap ps N hN hps hcap J Jx hY W (P3.old_below hBs hW) (fun W' h=>hc W' ((hW.mono hn₀).trans h)) h0
end Go.Proofs.YtjepgclnbbpnaaaGreat.P12
namespace Go.Proofs.YtjepgclnbbpnaaaGreat.P12
open Go Go.RowKit Go.Lib PK
theorem backward_any(W:World)(a:Option Addr)(n c:Nat):Calls Tryz.prog 76 #[.slice a n c] W fun e w'=>e=.returned (.func (.func 94) #[] #[.pointer (some ⟨W.heap.size,0,none⟩)])∧w'=W.alloc (.cells #[.slice a n c] 84):=by
 have hmf:∀ (fn:Fn) (first cap:Array Value) (w:World),(Instr.makeFunc fn first cap).run Tryz.prog w=.ok (.func fn first cap) w:=fun _ _ _ _=>rfl
 go_enter Tryz.func76,Tryz.ntmps76
 go_wp2
 go_ret
 exact⟨rfl,rfl⟩
end Go.Proofs.YtjepgclnbbpnaaaGreat.P12
namespace Go.Proofs.YtjepgclnbbpnaaaGreat.P12
open PK (qqA qqB qqC qqD qqE qqF tk tkS dOne qh)
open Go Go.RowKit Go.Shelf Go.Lib PK
open P9 (kb)
attribute [local go_sem] Oper.semAt_some
def Sp.kkey(p:Sp):ByteArray:=match p.nd with
 | .lf _=>⟨#[]⟩
 | .tw l=>match l[p.at_.toNat]? with
  | some k=>k.key
  | none=>⟨#[]⟩
def OkP(last first:ByteArray)(ps:List Sp)(l:List (Fin ps.length)):Prop:=
 ∀ (k:Nat) (x:Fin ps.length),l[k]?=some x→kb first (ps[x.1]).kkey=false∧(0 < (ps[x.1]).at_→(∀ (j:Nat) (y:Fin ps.length),j < k→l[j]?=some y→(ps[y.1]).at_≤0)→kb last (ps[x.1]).kkey=true)
def tOf(ps:List Sp)(l:List (Fin ps.length)):Bool:=l.any fun x=>decide (0 < (ps[x.1]).at_)
def KidAt(n₀:Nat)(w:World)(p:Sp):Prop:=∃ (g o m c a:Nat) (pg:Int),p.vi=.slice none 0 0∧p.vk=.slice (some ⟨g,o,none⟩) m c∧p.at_=(a:Int)∧a < m∧m≤1000∧m≤c∧
 ∀ W',Below n₀ w W'→W'.cell? ⟨g,o+a*2,none⟩=some (.string p.kkey)∧W'.cell? ⟨g,o+a*2+1,none⟩=some (.int .i64 pg)
theorem bool_result{fn:Func}{q:Tmp}(h:fn.results=#[.cell q 4])(tmps:Array Value)(w:World)(a:Nat)(v:Value)(hq:tmps.getD q undef=.pointer (some ⟨a,0,none⟩))(hc:Boxed w a 4 v) :
  (results fn tmps).run Tryz.prog w=.ok v w:=by
 have e0:(results fn tmps).run Tryz.prog w=((asAddr (tmps.getD q undef)).run Tryz.prog w).andThen fun a w₁=>(loadVar 4 a).run Tryz.prog w₁:=by
  simp only[results,h]
  simp[Sem.run_bind,Result.andThen]
 have e1:(asAddr (.pointer (some ⟨a,0,none⟩))).run Tryz.prog w=.ok ⟨a,0,none⟩ w:=rfl
 have hc1:=hc.cell
 rw[e0,hq,e1,Result.andThen_ok]
 simp[go_sem,loadVar,hc1]
theorem tOf_snoc(ps:List Sp)(l:List (Fin ps.length))(x:Fin ps.length):tOf ps (l++[x])=(tOf ps l || decide (0 < (ps[x.1]).at_)):=by simp[tOf]
theorem tOf_at{ps:List Sp}{l:List (Fin ps.length)}(h:tOf ps l=false){j:Nat}{y:Fin ps.length}(hy:l[j]?=some y):(ps[y.1]).at_≤0:=by
 have:=(List.any_eq_false.1 h) y (List.mem_of_getElem? hy)
 simpa using this
theorem kb_gt(a k:ByteArray):kb k a=!(Op.bytesLess a.toList k.toList || a.toList == k.toList):=(P10.kb_gtr a k).symm
theorem okp_last{last first:ByteArray}{ps:List Sp}{l:List (Fin ps.length)}{x:Fin ps.length}(h:OkP last first ps (l++[x])):kb first (ps[x.1]).kkey=false∧(0 < (ps[x.1]).at_→tOf ps l=false→kb last (ps[x.1]).kkey=true):=by
 obtain⟨h1,h2⟩:=h l.length x (by simp)
 refine⟨h1,fun h0 ht=>h2 h0 fun j y hj hy=>?_⟩
 rw[List.getElem?_append_left hj] at hy
 exact tOf_at ht hy
def BtI(w:World)(last first:ByteArray)(ps:List Sp)(pre:List (Fin ps.length))(W:World):Prop:=
 ((Boxed W (w.heap.size+1+1+1) 4 (.bool (tOf ps pre))∧Boxed W w.heap.size 9 (.string last))∧(Boxed W (w.heap.size+1) 9 (.string first)∧Boxed W (w.heap.size+1+1) 4 (.bool false)))∧(Below w.heap.size w W∧w.heap.size+5≤W.heap.size)
theorem btI_next{w W:World}{last first:ByteArray}{ps:List Sp}{pre:List (Fin ps.length)}(h:BtI w last first ps pre W)(x:Fin ps.length)(v:Bool)(o:Obj)(hv:tOf ps (pre++[x])=v)(B:Nat)(u:Value) :
  KeepsFrom B W ((W.alloc o).setCell ⟨w.heap.size+1+1+1,0,none⟩ (.bool v))∧KpB w.heap.size (w.heap.size+1+1+1+1) (.cells #[u] 84 (0,0)) W ((W.alloc o).setCell ⟨w.heap.size+1+1+1,0,none⟩ (.bool v))∧BtI w last first ps (pre++[x]) ((W.alloc o).setCell ⟨w.heap.size+1+1+1,0,none⟩ (.bool v)):=by
 obtain⟨⟨⟨c3,c0⟩,c1,c2⟩,hB,hZ⟩:=h
 have hBW:Below w.heap.size W ((W.alloc o).setCell ⟨w.heap.size+1+1+1,0,none⟩ (.bool v)):=((Below.refl _ W).alloc hB.size _).setCell (p:=⟨w.heap.size+1+1+1,0,none⟩) (by simp;omega) _
 refine⟨((KeepsOthers.alloc _ _).trans (KeepsOthers.setCell _ _ _)).from _,⟨hBW,fun e=>?_⟩,⟨⟨?_,(c0.alloc _).other (by omega) _⟩,(c1.alloc _).other (by omega) _,(c2.alloc _).other (by omega) _⟩,hB.trans hBW,by have:=hBW.size;omega⟩
 ·exact ((show Boxed _ _ _ _ from e).alloc _).other (by omega) _
 ·rw[hv]
  exact (c3.alloc _).set _
theorem btI_own(w:World)(last first:ByteArray)(ps:List Sp)(B:Nat)(hB:w.heap.size≤B):OwnFrom B (BtI w last first ps):=
 OwnFrom.and (OwnFrom.and (OwnFrom.and (Own.from (boxed_own _ _ _) _) (Own.from (boxed_own _ _ _) _)) (OwnFrom.and (Own.from (boxed_own _ _ _) _) (Own.from (boxed_own _ _ _) _))) (OwnFrom.and (ownFrom_below (Nat.le_refl _) hB) fun _ _ _ _ hs hg _=>Nat.le_trans hs hg.size)
theorem between_any(w:World)(g cap:Nat)(ps:List Sp)(N:Nat)(hN:N=ps.length)(hps:N≤12)(hcap:N≤cap)(last first:ByteArray)
  (hc:∀ W',Below w.heap.size w W'→∀ (i:Nat) (p:Sp),ps[i]?=some p→∀ (j:Nat) (u:Value),p.cells[j]?=some u→W'.cell? ⟨g,i*8+j,none⟩=some u)
  (hk:∀ p∈ps,KidAt w.heap.size w p) (hok:OkP last first ps (backN ps.length)) :
  Calls Tryz.prog 65 #[.slice (some ⟨g,0,none⟩) N cap,.string last,.string first] w fun e w'=>e=.returned (.bool true)∧Below w.heap.size w w':=by
 have HN:=qh hN
 have HC:=qh hc
 have HK:=qh hk
 have HOk:=qh hok
 clear hN hc hk hok
 refine (callsIn_wide (n:=8)).1 ?_
 have hF:∀ k,Fence.wide.fn k:=fun _=>trivial
 have hro:Fence.wide.round=none:=rfl
 refine callsIn_of_wp_marks Tryz.func65 rfl (hF _) ?_ hro
 simp only[Tryz.ntmps65,List.size_toArray,List.length_cons,List.length_nil,Nat.reduceAdd,Nat.reduceSub,Array.replicate_succ,Array.replicate_zero,List.push_toArray,List.append_toArray,List.nil_append,List.cons_append]
 gi_wp2_with (gi_at_call 76;refine (callsIn_wide.2 (backward_any _ _ _ _)).mono ?_;rintro e w' ⟨rfl,rfl⟩)
 obtain⟨W0,hW0⟩:∃ W0,W0=(((((w.alloc (Obj.cells #[Value.string last] 9)).alloc (Obj.cells #[Value.string first] 9)).alloc (Obj.cells #[Value.bool false] 4)).alloc (Obj.cells #[Value.bool false] 4)).alloc (Obj.cells #[Value.slice (some { block:=g,off:=0 }) N cap] 84)):=⟨_,rfl⟩
 have b0:=((((Boxed.new w 9 (.string last)).alloc (Obj.cells #[Value.string first] 9)).alloc (Obj.cells #[Value.bool false] 4)).alloc (Obj.cells #[Value.bool false] 4)).alloc (Obj.cells #[Value.slice (some { block:=g,off:=0 }) N cap] 84)
 have b1:=(((Boxed.new (w.alloc (Obj.cells #[Value.string last] 9)) 9 (.string first)).alloc (Obj.cells #[Value.bool false] 4)).alloc (Obj.cells #[Value.bool false] 4)).alloc (Obj.cells #[Value.slice (some { block:=g,off:=0 }) N cap] 84)
 have b2:=((Boxed.new ((w.alloc (Obj.cells #[Value.string last] 9)).alloc (Obj.cells #[Value.string first] 9)) 4 (.bool false)).alloc (Obj.cells #[Value.bool false] 4)).alloc (Obj.cells #[Value.slice (some { block:=g,off:=0 }) N cap] 84)
 have b3:=(Boxed.new (((w.alloc (Obj.cells #[Value.string last] 9)).alloc (Obj.cells #[Value.string first] 9)).alloc (Obj.cells #[Value.bool false] 4)) 4 (.bool false)).alloc (Obj.cells #[Value.slice (some { block:=g,off:=0 }) N cap] 84)
 have b4:=Boxed.new ((((w.alloc (Obj.cells #[Value.string last] 9)).alloc (Obj.cells #[Value.string first] 9)).alloc (Obj.cells #[Value.bool false] 4)).alloc (Obj.cells #[Value.bool false] 4)) 84 (Value.slice (some { block:=g,off:=0 }) N cap)
 simp only[World.size_alloc] at b1 b2 b3 b4
 have hsz:W0.heap.size=w.heap.size+5:=by rw[hW0];simp
 have hB0:Below w.heap.size w W0:=by
  rw[hW0]
  exact (((((Below.refl _ w).alloc (Nat.le_refl _) _).alloc (by simp) _).alloc (by simp;omega) _).alloc (by simp;omega) _).alloc (by simp;omega) _
 rw[← hW0] at b0 b1 b2 b3 b4 ⊢
 clear hW0
 refine wpIn_rangeFunc_ownH hro (by omega) (gf:=94) (lb:=#[.pointer (some ⟨w.heap.size+1+1+1+1,0,none⟩)]) rfl (hF _) (enters_of Tryz.func94 (by kernel_rfl) rfl)
  (back_stops Fence.wide 7 (hF _) hro (by omega) (w.heap.size+1+1+1+1) w.heap.size g cap ps N HN.out hps hcap W0 (by omega) b4 (fun W' h=>HC.out W' (hB0.trans h))) kpB_t (kpB_b (by omega) (by omega)) (Below.refl _ _) (fun _=>rfl)
  (BtI w last first ps)
  (fun _ pre _=>¬ OkP last first ps pre)
  (btI_own _ _ _ _ _ (by omega))
  (fun _ _ _ _ _ hs _ _=>hs)
  ⟨⟨⟨b3,b0⟩,b1,b2⟩,hB0,by omega⟩
  (fun x a' W=>∃ Bx,w.heap.size+1+1+1+1 < Bx∧W.heap[Bx]?=some (.cells (ps[x.1]).cells.toArray 88 (0,0))∧a'={ tmps:=#[Value.slice (some ⟨g,0,none⟩) N cap,Value.string last,Value.string first,undef,Value.pointer (some ⟨w.heap.size,0,none⟩),Value.pointer (some ⟨w.heap.size+1,0,none⟩),Value.pointer (some ⟨w.heap.size+1+1,0,none⟩),Value.pointer (some ⟨w.heap.size+1+1+1,0,none⟩),undef,Value.pointer (some ⟨Bx,0,none⟩),undef,Value.slice (some ⟨g,0,none⟩) N cap,Value.func (Fn.func 94) #[] #[Value.pointer (some ⟨w.heap.size+1+1+1+1,0,none⟩)],Value.int .i64 (x.1:Int),(ps[x.1]).v,undef,undef,undef,undef,undef,undef,undef,undef,undef,undef,undef,undef,undef,undef,undef,undef,undef,undef,undef,undef,undef,undef,undef,undef,undef,undef,undef,undef,undef,undef,undef,undef],defers:=[] })
  (fun x a' _ X Y row hs hg hr=>by
   obtain⟨Bx,h1,h2,h3⟩:=hs
   exact⟨Bx,h1,(hg.block Bx (lt_of_block h2) (fun e=>by
    obtain⟨_,o,ho,hco⟩:=hr Bx e.symm
    rw[h2] at ho
    cases ho
    cases hco)).trans h2,h3⟩)
  ?assign ?body ?done ?stop
 case assign=>
  rintro l pre x W K ⟨⟨⟨c3,c0⟩,c1,c2⟩,hB,hZ⟩ hK
  obtain⟨p,hp⟩:∃ p,p=ps[x.1]:=⟨_,rfl⟩
  have HP:=qh hp
  rw[← hp] at hK ⊢
  obtain⟨kg,ko,m,c,a,pg,e0,e1,e2,_⟩:=HK.out p (by rw[hp];exact List.getElem_mem _)
  simp only[Sp.v,Sp.cells,e0,e1,e2] at hK ⊢
  clear hp e0 e1 e2
  gi_wp2
  refine hK _ _ ((KeepsOthers.alloc _ _).from _) ⟨(Below.refl _ W).alloc hB.size _,fun e=>((show Boxed _ _ _ _ from e).alloc _)⟩ ⟨⟨⟨c3.alloc _,c0.alloc _⟩,c1.alloc _,c2.alloc _⟩,hB.alloc hB.size _,by simp;omega⟩ ⟨W.heap.size,by omega,new_at _ _ _,rfl⟩
 case body=>
  rintro l pre x a' W hl ⟨r,hr⟩ ⟨⟨⟨c3,c0⟩,c1,c2⟩,hB,hZ⟩ ⟨Bx,hBx,bX,rfl⟩ hlt
  obtain⟨p,hp⟩:∃ p,p=ps[x.1]:=⟨_,rfl⟩
  have HP:=qh hp
  rw[← hp] at bX ⊢
  obtain⟨kg,ko,m,c,a,pg,e0,e1,e2,e3,e4,e5,e6⟩:=HK.out p (by rw[hp];exact List.getElem_mem _)
  obtain⟨q0,q1⟩:=e6 W hB
  simp only[Sp.v,e0,e1,e2]
  simp only[Sp.cells,e0,e1,e2] at bX
  have s2:=cell_at bX 6
  have s7:=cell_at bX 7
  simp only[qqD,qqE,qqF] at s2 s7
  have z0:=(c0.alloc (.cells #[.string p.kkey,.int .i64 pg] 106)).cell
  have z1:=(c1.alloc (.cells #[.string p.kkey,.int .i64 pg] 106)).cell
  have z2:=(c2.alloc (.cells #[.string p.kkey,.int .i64 pg] 106)).cell
  have z2f:=(c2.alloc (.cells #[.string p.kkey,.int .i64 pg] 106)).frozen
  have z3:=(c3.alloc (.cells #[.string p.kkey,.int .i64 pg] 106)).cell
  have z3f:=(c3.alloc (.cells #[.string p.kkey,.int .i64 pg] 106)).frozen
  have s77:=cell_at ((World.grownBy_alloc W (.cells #[.string p.kkey,.int .i64 pg] 106) none).block Bx (lt_of_block bX) (by simp) |>.trans bX) 7
  simp only[qqD,qqE,qqF] at s77
  have k2:(0:Int)≤(a:Int):=by omega
  have k3:(a:Int) < (m:Int):=by omega
  have HE:=qh (And.intro e1 e2)
  clear hp e6 e0 e1 e2 bX
  have HI:Hid (BtI w last first ps pre W):=qh ⟨⟨⟨c3,c0⟩,c1,c2⟩,hB,hZ⟩
  gi_wp2
  all_goals (first
   | (refine⟨((KeepsOthers.alloc _ _).trans (KeepsOthers.setCell _ _ _)).from _,fun hall=>?_⟩
      obtain⟨q1,q2⟩:=okp_last hall
      rw[← HP.out,kb_gt] at q1 q2
      rw[HE.out.2] at q2
      simp_all)
   | (refine btI_next HI.out x _ _ ?_ _ _
      rw[tOf_snoc,← HP.out,HE.out.2]
      simp_all)
   | (exfalso;simp_all;done))
 case done=>
  rintro D ys W hD rfl ⟨⟨⟨c3,c0⟩,c1,c2⟩,hB,hZ⟩ hK
  have z2:=c2.cell
  have z2f:=c2.frozen
  gi_wp2
  have hK2:(W.setCell ⟨w.heap.size+1+1,0,none⟩ (Value.bool true)).heap[D]?=some (.deferred (some [])):=(KeepsOthers.setCell _ _ _).same D _ hK rfl
  have c5:Boxed ((W.setCell ⟨w.heap.size+1+1,0,none⟩ (Value.bool true)).putObj D (.deferred none)) (w.heap.size+1+1) 4 (.bool true):=(c2.set _).kept (grownBy_putObj' _ D _) (by intro e;cases e;omega)
  refine⟨by simp,.inl ⟨_,_,rfl,run_takeDeferred hK2,?_⟩⟩
  exact⟨_,bool_result rfl _ _ _ _ rfl c5,rfl,(hB.setCell (p:=⟨w.heap.size+1+1,0,none⟩) (by simp;omega) _).trans (belowK_b (w:=w) (Nat.le_refl _) _ D _ _ (by omega) hK2 rfl rfl)⟩
 case stop=>
  rintro D c pre W hD hp hno hK
  refine (hno fun k x hx=>?_).elim
  obtain⟨t,ht⟩:=hp
  have hx2:∀ {j:Nat} {y:Fin ps.length},pre[j]?=some y→(backN ps.length)[j]?=some y:=fun {j y} h=>by
   rw[← ht,List.getElem?_append_left (List.getElem?_eq_some_iff.1 h).1]
   exact h
  obtain⟨g1,g2⟩:=HOk.out k x (hx2 hx)
  refine⟨g1,fun h0 hj=>g2 h0 fun j y hjk hy=>hj j y hjk ?_⟩
  rw[← ht,List.getElem?_append_left (by have:=(List.getElem?_eq_some_iff.1 hx).1;omega)] at hy
  exact hy
end Go.Proofs.YtjepgclnbbpnaaaGreat.P12
