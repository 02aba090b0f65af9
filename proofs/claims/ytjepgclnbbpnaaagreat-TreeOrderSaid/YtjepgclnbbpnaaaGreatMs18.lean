/-
  Texts of the proofs of SaidOrd12.
-/
import Derived.Test.YtjepgclnbbpnaaaGreatMs17
set_option linter.unusedVariables false
set_option linter.unusedSimpArgs false
set_option maxHeartbeats 8000000
set_option maxRecDepth 100000
namespace Go.Proofs.YtjepgclnbbpnaaaGreat.P12
open PK (qqA qqB qqC qqD qqE qqF tk tkS dOne qh)
open Go Go.RowKit Go.Lib PK
def Nd.take(nd:Nd)(k:Nat):Nd:=match nd with
 | .lf l=>.lf (l.take k)
 | .tw l=>.tw (l.take k)
def Nd.drop(nd:Nd)(k:Nat):Nd:=match nd with
 | .lf l=>.lf (l.drop k)
 | .tw l=>.tw (l.drop k)
theorem ItT.take{w:World}{x:Option Nat}{a:Option Addr}{c:Nat}{l:List P9.It}(h:ItT w x (.slice a l.length c) l){n:Nat}(hn:n≤l.length):ItT w x (.slice a n c) (l.take n):=by
 refine⟨h.its.take hn,?_,fun A n' c' e=>?_,fun k hk=>h.ty k ?_⟩
 ·obtain⟨a',n',c',e,h1,h2⟩:=h.wide
  simp only[Value.slice.injEq] at e
  obtain⟨rfl,rfl,rfl⟩:=e
  exact⟨_,_,_,rfl,by omega,h2⟩
 ·simp only[Value.slice.injEq] at e
  obtain⟨rfl,_,_⟩:=e
  exact h.plain A _ _ rfl
 ·cases a with
  | none=>cases hk
  | some A=>exact hk
theorem ItT.drop{w:World}{x:Option Nat}{b off c:Nat}{l:List P9.It}(h:ItT w x (.slice (some ⟨b,off,none⟩) l.length c) l){n:Nat}(hn:n≤l.length):ItT w x (.slice (some ⟨b,off+n*3,none⟩) (l.length - n) (c - n)) (l.drop n):=by
 refine⟨h.its.drop hn _,?_,fun A n' c' e=>?_,fun k hk=>h.ty k hk⟩
 ·obtain⟨a',n',c',e,h1,h2⟩:=h.wide
  simp only[Value.slice.injEq] at e
  obtain⟨rfl,rfl,rfl⟩:=e
  exact⟨_,_,_,rfl,by omega,by omega⟩
 ·simp only[Value.slice.injEq,Option.some.injEq] at e
  exact⟨_,_,e.1.symm⟩
theorem KdT.take{w:World}{x:Option Nat}{a:Option Addr}{c:Nat}{l:List P10.It}(h:KdT w x (.slice a l.length c) l){n:Nat}(hn:n≤l.length):KdT w x (.slice a n c) (l.take n):=by
 refine⟨h.its.take hn,?_,fun A n' c' e=>?_,fun k hk=>h.ty k ?_⟩
 ·obtain⟨a',n',c',e,h1,h2⟩:=h.wide
  simp only[Value.slice.injEq] at e
  obtain⟨rfl,rfl,rfl⟩:=e
  exact⟨_,_,_,rfl,by omega,h2⟩
 ·simp only[Value.slice.injEq] at e
  obtain⟨rfl,_,_⟩:=e
  exact h.plain A _ _ rfl
 ·cases a with
  | none=>cases hk
  | some A=>exact hk
theorem KdT.drop{w:World}{x:Option Nat}{b off c:Nat}{l:List P10.It}(h:KdT w x (.slice (some ⟨b,off,none⟩) l.length c) l){n:Nat}(hn:n≤l.length):KdT w x (.slice (some ⟨b,off+n*2,none⟩) (l.length - n) (c - n)) (l.drop n):=by
 refine⟨h.its.drop hn _,?_,fun A n' c' e=>?_,fun k hk=>h.ty k hk⟩
 ·obtain⟨a',n',c',e,h1,h2⟩:=h.wide
  simp only[Value.slice.injEq] at e
  obtain⟨rfl,rfl,rfl⟩:=e
  exact⟨_,_,_,rfl,by omega,by omega⟩
 ·simp only[Value.slice.injEq,Option.some.injEq] at e
  exact⟨_,_,e.1.symm⟩
theorem node_results{fn:Func}{p q:Tmp}(h:fn.results=#[.cell p 80,.cell q 80])(tmps:Array Value)(w:World)(a b:Nat)(cs ds:Array Value)(hp:tmps.getD p undef=.pointer (some ⟨a,0,none⟩))(hq:tmps.getD q undef=.pointer (some ⟨b,0,none⟩))
  (hc:w.heap[a]?=some (.cells cs 80 (0,0))) (hd:w.heap[b]?=some (.cells ds 80 (0,0))) (hs:cs.size=3) (ht:ds.size=3):(results fn tmps).run Tryz.prog w=.ok (.tuple #[.agg cs,.agg ds]) w:=by
 have hi:(Tryz.prog.info? 80).map (·.size)=some cs.size:=by rw[hs];kernel_rfl
 have hj:(Tryz.prog.info? 80).map (·.size)=some ds.size:=by rw[ht];kernel_rfl
 have e0:(results fn tmps).run Tryz.prog w=((asAddr (tmps.getD p undef)).run Tryz.prog w).andThen fun a w₁=>((loadVar 80 a).run Tryz.prog w₁).andThen fun v w₂=>((asAddr (tmps.getD q undef)).run Tryz.prog w₂).andThen fun b w₃=>((loadVar 80 b).run Tryz.prog w₃).andThen fun y w₄=>.ok (.tuple #[v,y]) w₄:=by
  simp only[results,h]
  simp[Sem.run_bind,Result.andThen]
 have e1:∀ k:Nat,(asAddr (.pointer (some ⟨k,0,none⟩))).run Tryz.prog w=.ok ⟨k,0,none⟩ w:=fun _=>rfl
 rw[e0,hp,e1,Result.andThen_ok,run_loadVar_row (P:=Tryz.prog) w a 80 80 cs (0,0) _ hc Tryz.underlying80 rfl hi,Result.andThen_ok,hq,e1,Result.andThen_ok,run_loadVar_row (P:=Tryz.prog) w b 80 80 ds (0,0) _ hd Tryz.underlying80 rfl hj]
 rfl
theorem three_new(w:World)(A B C:Array Value)(r s t:TypeId):∀ W,Below (((w.alloc (.cells A r)).alloc (.cells B s)).alloc (.cells C t)).heap.size (((w.alloc (.cells A r)).alloc (.cells B s)).alloc (.cells C t)) W→
  W.heap[w.heap.size]?=some (.cells A r (0,0))∧W.heap[w.heap.size+1]?=some (.cells B s (0,0))∧W.heap[w.heap.size+2]?=some (.cells C t (0,0)):=fun W hb=>by
 obtain⟨h1,h2⟩:=two_new (w:=w) (A:=A) (B:=B) (s:=r) (t:=s) (Below.refl _ _)
 have e:w.heap.size+2=((w.alloc (.cells A r)).alloc (.cells B s)).heap.size:=by simp
 refine⟨P3.old_below (P3.old_alloc h1 _) hb,P3.old_below (P3.old_alloc h2 _) hb,?_⟩
 rw[hb.block _ (by simp),e]
 exact new_at _ C t
theorem cut_lf(w:World)(bk off c N K:Nat)(hK:0 < K)(hKN:K < N)(hNc:N≤c)(hc:c≤9223372036854775807) :
  Calls Tryz.prog 155 #[.agg #[.int .i64 3,.slice (some ⟨bk,off,none⟩) N c,.slice none 0 0],.int .i64 (K:Nat)] w fun e w'=>e=.returned (.tuple #[.agg #[.int .i64 3,.slice (some ⟨bk,off,none⟩) K c,.slice none 0 0],.agg #[.int .i64 3,.slice (some ⟨bk,off+K*3,none⟩) (N - K) (c - K),.slice none 0 0]])∧Below w.heap.size w w':=by
 obtain⟨X,hX⟩:∃ X,X=((w.alloc (.cells #[.int .i64 3,.slice (some ⟨bk,off,none⟩) N c,.slice none 0 0] 80)).alloc (.cells #[.int .i64 0,.slice none 0 0,.slice none 0 0] 80)).alloc (.cells #[.int .i64 0,.slice none 0 0,.slice none 0 0] 80):=⟨_,rfl⟩
 have hR:∀ W,Below X.heap.size X W→W.heap[w.heap.size]?=some (.cells #[.int .i64 3,.slice (some ⟨bk,off,none⟩) N c,.slice none 0 0] 80 (0,0))∧W.heap[w.heap.size+1]?=some (.cells #[.int .i64 0,.slice none 0 0,.slice none 0 0] 80 (0,0))∧W.heap[w.heap.size+2]?=some (.cells #[.int .i64 0,.slice none 0 0,.slice none 0 0] 80 (0,0)):=by rw[hX];exact three_new w _ _ _ _ _ _
 have hbX:Below w.heap.size w X:=by rw[hX];exact grow (grow (below_new _ _) _) _
 have HR:=qh hR
 have HBX:=qh hbX
 have HXR:=qh (Below.refl X.heap.size X)
 have HS0:Hid (∀ W,Below X.heap.size X W→W.cell? ⟨w.heap.size,0,none⟩=some (.int .i64 3)∧W.cell? ⟨w.heap.size,1,none⟩=some (.slice (some ⟨bk,off,none⟩) N c)∧W.cell? ⟨w.heap.size,2,none⟩=some (.slice none 0 0)):=fun W b=>⟨cell_at (hR W b).1 0,cell_at (hR W b).1 1,cell_at (hR W b).1 2⟩
 have HS2:Hid (∀ W,Below X.heap.size X W→(((W.setCell ⟨w.heap.size+1,0,none⟩ (.int .i64 3)).setCell ⟨w.heap.size+1,1,none⟩ (.slice (some ⟨bk,off,none⟩) K c)).setCell ⟨w.heap.size+1,2,none⟩ (.slice none 0 0)).cell? ⟨w.heap.size,0,none⟩=some (.int .i64 3)∧(((W.setCell ⟨w.heap.size+1,0,none⟩ (.int .i64 3)).setCell ⟨w.heap.size+1,1,none⟩ (.slice (some ⟨bk,off,none⟩) K c)).setCell ⟨w.heap.size+1,2,none⟩ (.slice none 0 0)).cell? ⟨w.heap.size,1,none⟩=some (.slice (some ⟨bk,off,none⟩) N c)∧(((W.setCell ⟨w.heap.size+1,0,none⟩ (.int .i64 3)).setCell ⟨w.heap.size+1,1,none⟩ (.slice (some ⟨bk,off,none⟩) K c)).setCell ⟨w.heap.size+1,2,none⟩ (.slice none 0 0)).cell? ⟨w.heap.size,2,none⟩=some (.slice none 0 0)):=fun W b=>by
  have:=P3.old_set (P3.old_set (P3.old_set (hR W b).1 ⟨w.heap.size+1,0,none⟩ (by simp) (.int .i64 3)) ⟨w.heap.size+1,1,none⟩ (by simp) (.slice (some ⟨bk,off,none⟩) K c)) ⟨w.heap.size+1,2,none⟩ (by simp) (.slice none 0 0)
  exact⟨cell_at this 0,cell_at this 1,cell_at this 2⟩
 have HS3:Hid (∀ W,Below X.heap.size X W→((((((W.setCell ⟨w.heap.size+1,0,none⟩ (.int .i64 3)).setCell ⟨w.heap.size+1,1,none⟩ (.slice (some ⟨bk,off,none⟩) K c)).setCell ⟨w.heap.size+1,2,none⟩ (.slice none 0 0)).setCell ⟨w.heap.size+2,0,none⟩ (.int .i64 3)).setCell ⟨w.heap.size+2,1,none⟩ (.slice (some ⟨bk,off+K*3,none⟩) (N - K) (c - K))).setCell ⟨w.heap.size+2,2,none⟩ (.slice none 0 0)).cell? ⟨w.heap.size,0,none⟩=some (.int .i64 3)∧((((((W.setCell ⟨w.heap.size+1,0,none⟩ (.int .i64 3)).setCell ⟨w.heap.size+1,1,none⟩ (.slice (some ⟨bk,off,none⟩) K c)).setCell ⟨w.heap.size+1,2,none⟩ (.slice none 0 0)).setCell ⟨w.heap.size+2,0,none⟩ (.int .i64 3)).setCell ⟨w.heap.size+2,1,none⟩ (.slice (some ⟨bk,off+K*3,none⟩) (N - K) (c - K))).setCell ⟨w.heap.size+2,2,none⟩ (.slice none 0 0)).cell? ⟨w.heap.size,1,none⟩=some (.slice (some ⟨bk,off,none⟩) N c)∧((((((W.setCell ⟨w.heap.size+1,0,none⟩ (.int .i64 3)).setCell ⟨w.heap.size+1,1,none⟩ (.slice (some ⟨bk,off,none⟩) K c)).setCell ⟨w.heap.size+1,2,none⟩ (.slice none 0 0)).setCell ⟨w.heap.size+2,0,none⟩ (.int .i64 3)).setCell ⟨w.heap.size+2,1,none⟩ (.slice (some ⟨bk,off+K*3,none⟩) (N - K) (c - K))).setCell ⟨w.heap.size+2,2,none⟩ (.slice none 0 0)).cell? ⟨w.heap.size,2,none⟩=some (.slice none 0 0)):=fun W b=>by
  have:=P3.old_set (P3.old_set (P3.old_set (P3.old_set (P3.old_set (P3.old_set (hR W b).1 ⟨w.heap.size+1,0,none⟩ (by simp) (.int .i64 3)) ⟨w.heap.size+1,1,none⟩ (by simp) (.slice (some ⟨bk,off,none⟩) K c)) ⟨w.heap.size+1,2,none⟩ (by simp) (.slice none 0 0)) ⟨w.heap.size+2,0,none⟩ (by simp) (.int .i64 3)) ⟨w.heap.size+2,1,none⟩ (by simp) (.slice (some ⟨bk,off+K*3,none⟩) (N - K) (c - K))) ⟨w.heap.size+2,2,none⟩ (by simp) (.slice none 0 0)
  exact⟨cell_at this 0,cell_at this 1,cell_at this 2⟩
 have k1:(0:Int)≤(K:Int):=by omega
 have k2:(K:Int)≤(N:Int):=by omega
 have k3:(K:Int)≤(c:Int):=by omega
 have k4:¬ (c=K):=by omega
 have k5:(c == K)=false:=beq_false_of_ne k4
 have k6:K≤N:=by omega
 have k7:K≤c:=by omega
 clear hR hbX
 go_enter Tryz.func155,Tryz.ntmps155
 go_upto_region 1 with fail
 rw[← hX]
 clear hX
 have s0:=HS0.out X HXR.out
 obtain⟨s1,s2,s3⟩:=s0
 go_upto_region 2 with fail
 clear s1 s2 s3
 go_region_held3 (fun W=>W.cell? ⟨w.heap.size,0,none⟩=some (.int .i64 3)∧W.cell? ⟨w.heap.size,1,none⟩=some (.slice (some ⟨bk,off,none⟩) N c)∧W.cell? ⟨w.heap.size,2,none⟩=some (.slice none 0 0)) (first|(with_reducible exact HS0.out _ HXR.out)|(with_reducible exact HS0.out _ HXR.out.drew)|(with_reducible exact HS0.out _ HB4.out)|(with_reducible exact HS2.out _ HB4.out)|(with_reducible exact HS3.out _ HB4.out))
  ((first
   | (go_at_call 55;(with_reducible refine (ofItems_any _ _ _ _).mono ?_);rintro e w4 ⟨rfl,hb4⟩;have HB4:Hid (Below X.heap.size X w4):=(by first|exact thenBelow HB4.out hb4|exact HXR.out.drew.trans hb4|exact HXR.out.trans hb4);obtain⟨_,r1,r2⟩:=HR.out _ HB4.out;have p0:=cell_at r1 0;have p1:=cell_at r1 1;have p2:=cell_at r1 2;have p3:=free_at r1 0;have p4:=free_at r1 1;have p5:=free_at r1 2;have q0:=cell_at r2 0;have q1:=cell_at r2 1;have q2:=cell_at r2 2;have q3:=free_at r2 0;have q4:=free_at r2 1;have q5:=free_at r2 2;simp only[qqD,qqE,qqF] at p0 p1 p2 q0 q1 q2;clear hb4 r1 r2)))
 all_goals
  clear p0 p1 p2 p3 p4 p5 q0 q1 q2 q3 q4 q5
  go_wp2
  obtain⟨_,r1,r2⟩:=HR.out _ HB4.out
  have t1:=(r5_set r1 (.int .i64 3) (.slice (some ⟨bk,off,none⟩) K c) (.slice none 0 0)).1
  have t2:=P3.old_set (P3.old_set (P3.old_set r2 (⟨w.heap.size+1,0,none⟩:Addr) (by simp) (.int .i64 3)) (⟨w.heap.size+1,1,none⟩:Addr) (by simp) (.slice (some ⟨bk,off,none⟩) K c)) (⟨w.heap.size+1,2,none⟩:Addr) (by simp) (.slice none 0 0)
  have t3:=(r5_set t2 (.int .i64 3) (.slice (some ⟨bk,off+K*3,none⟩) (N - K) (c - K)) (.slice none 0 0)).1
  have t4:=P3.old_set (P3.old_set (P3.old_set t1 (⟨w.heap.size+2,0,none⟩:Addr) (by simp) (.int .i64 3)) (⟨w.heap.size+2,1,none⟩:Addr) (by simp) (.slice (some ⟨bk,off+K*3,none⟩) (N - K) (c - K))) (⟨w.heap.size+2,2,none⟩:Addr) (by simp) (.slice none 0 0)
  have hbz:=HBX.out.trans (HB4.out.mono HBX.out.size)
  refine bodyPost_ret (node_results rfl _ _ (w.heap.size+1) (w.heap.size+2) _ _ rfl rfl t4 t3 rfl rfl) rfl ⟨rfl,?_⟩
  exact (((((hbz.setCell (p:=⟨w.heap.size+1,0,none⟩) (by simp) _).setCell (p:=⟨w.heap.size+1,1,none⟩) (by simp) _).setCell (p:=⟨w.heap.size+1,2,none⟩) (by simp) _).setCell (p:=⟨w.heap.size+2,0,none⟩) (by simp) _).setCell (p:=⟨w.heap.size+2,1,none⟩) (by simp) _).setCell (p:=⟨w.heap.size+2,2,none⟩) (by simp) _
theorem cut_tw(w:World)(bk off c N K:Nat)(hK:0 < K)(hKN:K < N)(hNc:N≤c)(hc:c≤9223372036854775807) :
  Calls Tryz.prog 155 #[.agg #[.int .i64 4,.slice none 0 0,.slice (some ⟨bk,off,none⟩) N c],.int .i64 (K:Nat)] w fun e w'=>e=.returned (.tuple #[.agg #[.int .i64 4,.slice none 0 0,.slice (some ⟨bk,off,none⟩) K c],.agg #[.int .i64 4,.slice none 0 0,.slice (some ⟨bk,off+K*2,none⟩) (N - K) (c - K)]])∧Below w.heap.size w w':=by
 obtain⟨X,hX⟩:∃ X,X=((w.alloc (.cells #[.int .i64 4,.slice none 0 0,.slice (some ⟨bk,off,none⟩) N c] 80)).alloc (.cells #[.int .i64 0,.slice none 0 0,.slice none 0 0] 80)).alloc (.cells #[.int .i64 0,.slice none 0 0,.slice none 0 0] 80):=⟨_,rfl⟩
 have hR:∀ W,Below X.heap.size X W→W.heap[w.heap.size]?=some (.cells #[.int .i64 4,.slice none 0 0,.slice (some ⟨bk,off,none⟩) N c] 80 (0,0))∧W.heap[w.heap.size+1]?=some (.cells #[.int .i64 0,.slice none 0 0,.slice none 0 0] 80 (0,0))∧W.heap[w.heap.size+2]?=some (.cells #[.int .i64 0,.slice none 0 0,.slice none 0 0] 80 (0,0)):=by rw[hX];exact three_new w _ _ _ _ _ _
 have hbX:Below w.heap.size w X:=by rw[hX];exact grow (grow (below_new _ _) _) _
 have HR:=qh hR
 have HBX:=qh hbX
 have HXR:=qh (Below.refl X.heap.size X)
 have HS0:Hid (∀ W,Below X.heap.size X W→W.cell? ⟨w.heap.size,0,none⟩=some (.int .i64 4)∧W.cell? ⟨w.heap.size,1,none⟩=some (.slice none 0 0)∧W.cell? ⟨w.heap.size,2,none⟩=some (.slice (some ⟨bk,off,none⟩) N c)):=fun W b=>⟨cell_at (hR W b).1 0,cell_at (hR W b).1 1,cell_at (hR W b).1 2⟩
 have HS2:Hid (∀ W,Below X.heap.size X W→(((W.setCell ⟨w.heap.size+1,0,none⟩ (.int .i64 4)).setCell ⟨w.heap.size+1,1,none⟩ (.slice none 0 0)).setCell ⟨w.heap.size+1,2,none⟩ (.slice (some ⟨bk,off,none⟩) K c)).cell? ⟨w.heap.size,0,none⟩=some (.int .i64 4)∧(((W.setCell ⟨w.heap.size+1,0,none⟩ (.int .i64 4)).setCell ⟨w.heap.size+1,1,none⟩ (.slice none 0 0)).setCell ⟨w.heap.size+1,2,none⟩ (.slice (some ⟨bk,off,none⟩) K c)).cell? ⟨w.heap.size,1,none⟩=some (.slice none 0 0)∧(((W.setCell ⟨w.heap.size+1,0,none⟩ (.int .i64 4)).setCell ⟨w.heap.size+1,1,none⟩ (.slice none 0 0)).setCell ⟨w.heap.size+1,2,none⟩ (.slice (some ⟨bk,off,none⟩) K c)).cell? ⟨w.heap.size,2,none⟩=some (.slice (some ⟨bk,off,none⟩) N c)):=fun W b=>by
  have:=P3.old_set (P3.old_set (P3.old_set (hR W b).1 ⟨w.heap.size+1,0,none⟩ (by simp) (.int .i64 4)) ⟨w.heap.size+1,1,none⟩ (by simp) (.slice none 0 0)) ⟨w.heap.size+1,2,none⟩ (by simp) (.slice (some ⟨bk,off,none⟩) K c)
  exact⟨cell_at this 0,cell_at this 1,cell_at this 2⟩
 have HS3:Hid (∀ W,Below X.heap.size X W→((((((W.setCell ⟨w.heap.size+1,0,none⟩ (.int .i64 4)).setCell ⟨w.heap.size+1,1,none⟩ (.slice none 0 0)).setCell ⟨w.heap.size+1,2,none⟩ (.slice (some ⟨bk,off,none⟩) K c)).setCell ⟨w.heap.size+2,0,none⟩ (.int .i64 4)).setCell ⟨w.heap.size+2,1,none⟩ (.slice none 0 0)).setCell ⟨w.heap.size+2,2,none⟩ (.slice (some ⟨bk,off+K*2,none⟩) (N - K) (c - K))).cell? ⟨w.heap.size,0,none⟩=some (.int .i64 4)∧((((((W.setCell ⟨w.heap.size+1,0,none⟩ (.int .i64 4)).setCell ⟨w.heap.size+1,1,none⟩ (.slice none 0 0)).setCell ⟨w.heap.size+1,2,none⟩ (.slice (some ⟨bk,off,none⟩) K c)).setCell ⟨w.heap.size+2,0,none⟩ (.int .i64 4)).setCell ⟨w.heap.size+2,1,none⟩ (.slice none 0 0)).setCell ⟨w.heap.size+2,2,none⟩ (.slice (some ⟨bk,off+K*2,none⟩) (N - K) (c - K))).cell? ⟨w.heap.size,1,none⟩=some (.slice none 0 0)∧((((((W.setCell ⟨w.heap.size+1,0,none⟩ (.int .i64 4)).setCell ⟨w.heap.size+1,1,none⟩ (.slice none 0 0)).setCell ⟨w.heap.size+1,2,none⟩ (.slice (some ⟨bk,off,none⟩) K c)).setCell ⟨w.heap.size+2,0,none⟩ (.int .i64 4)).setCell ⟨w.heap.size+2,1,none⟩ (.slice none 0 0)).setCell ⟨w.heap.size+2,2,none⟩ (.slice (some ⟨bk,off+K*2,none⟩) (N - K) (c - K))).cell? ⟨w.heap.size,2,none⟩=some (.slice (some ⟨bk,off,none⟩) N c)):=fun W b=>by
  have:=P3.old_set (P3.old_set (P3.old_set (P3.old_set (P3.old_set (P3.old_set (hR W b).1 ⟨w.heap.size+1,0,none⟩ (by simp) (.int .i64 4)) ⟨w.heap.size+1,1,none⟩ (by simp) (.slice none 0 0)) ⟨w.heap.size+1,2,none⟩ (by simp) (.slice (some ⟨bk,off,none⟩) K c)) ⟨w.heap.size+2,0,none⟩ (by simp) (.int .i64 4)) ⟨w.heap.size+2,1,none⟩ (by simp) (.slice none 0 0)) ⟨w.heap.size+2,2,none⟩ (by simp) (.slice (some ⟨bk,off+K*2,none⟩) (N - K) (c - K))
  exact⟨cell_at this 0,cell_at this 1,cell_at this 2⟩
 have k1:(0:Int)≤(K:Int):=by omega
 have k2:(K:Int)≤(N:Int):=by omega
 have k3:(K:Int)≤(c:Int):=by omega
 have k4:¬ (c=K):=by omega
 have k5:(c == K)=false:=beq_false_of_ne k4
 have k6:K≤N:=by omega
 have k7:K≤c:=by omega
 clear hR hbX
 go_enter Tryz.func155,Tryz.ntmps155
 go_upto_region 1 with fail
 rw[← hX]
 clear hX
 have s0:=HS0.out X HXR.out
 obtain⟨s1,s2,s3⟩:=s0
 go_upto_region 3 with fail
 clear s1 s2 s3
 go_region_held3 (fun W=>W.cell? ⟨w.heap.size,0,none⟩=some (.int .i64 4)∧W.cell? ⟨w.heap.size,1,none⟩=some (.slice none 0 0)∧W.cell? ⟨w.heap.size,2,none⟩=some (.slice (some ⟨bk,off,none⟩) N c)) (first|(with_reducible exact HS0.out _ HXR.out)|(with_reducible exact HS0.out _ HXR.out.drew)|(with_reducible exact HS0.out _ HB4.out)|(with_reducible exact HS2.out _ HB4.out)|(with_reducible exact HS3.out _ HB4.out))
  ((first
   | (go_at_call 86;(with_reducible refine (ofKids_any _ _ _ _).mono ?_);rintro e w4 ⟨rfl,hb4⟩;have HB4:Hid (Below X.heap.size X w4):=(by first|exact thenBelow HB4.out hb4|exact HXR.out.drew.trans hb4|exact HXR.out.trans hb4);obtain⟨_,r1,r2⟩:=HR.out _ HB4.out;have p0:=cell_at r1 0;have p1:=cell_at r1 1;have p2:=cell_at r1 2;have p3:=free_at r1 0;have p4:=free_at r1 1;have p5:=free_at r1 2;have q0:=cell_at r2 0;have q1:=cell_at r2 1;have q2:=cell_at r2 2;have q3:=free_at r2 0;have q4:=free_at r2 1;have q5:=free_at r2 2;simp only[qqD,qqE,qqF] at p0 p1 p2 q0 q1 q2;clear hb4 r1 r2)))
 all_goals
  clear p0 p1 p2 p3 p4 p5 q0 q1 q2 q3 q4 q5
  go_wp2
  obtain⟨_,r1,r2⟩:=HR.out _ HB4.out
  have t1:=(r5_set r1 (.int .i64 4) (.slice none 0 0) (.slice (some ⟨bk,off,none⟩) K c)).1
  have t2:=P3.old_set (P3.old_set (P3.old_set r2 (⟨w.heap.size+1,0,none⟩:Addr) (by simp) (.int .i64 4)) (⟨w.heap.size+1,1,none⟩:Addr) (by simp) (.slice none 0 0)) (⟨w.heap.size+1,2,none⟩:Addr) (by simp) (.slice (some ⟨bk,off,none⟩) K c)
  have t3:=(r5_set t2 (.int .i64 4) (.slice none 0 0) (.slice (some ⟨bk,off+K*2,none⟩) (N - K) (c - K))).1
  have t4:=P3.old_set (P3.old_set (P3.old_set t1 (⟨w.heap.size+2,0,none⟩:Addr) (by simp) (.int .i64 4)) (⟨w.heap.size+2,1,none⟩:Addr) (by simp) (.slice none 0 0)) (⟨w.heap.size+2,2,none⟩:Addr) (by simp) (.slice (some ⟨bk,off+K*2,none⟩) (N - K) (c - K))
  have hbz:=HBX.out.trans (HB4.out.mono HBX.out.size)
  refine bodyPost_ret (node_results rfl _ _ (w.heap.size+1) (w.heap.size+2) _ _ rfl rfl t4 t3 rfl rfl) rfl ⟨rfl,?_⟩
  exact (((((hbz.setCell (p:=⟨w.heap.size+1,0,none⟩) (by simp) _).setCell (p:=⟨w.heap.size+1,1,none⟩) (by simp) _).setCell (p:=⟨w.heap.size+1,2,none⟩) (by simp) _).setCell (p:=⟨w.heap.size+2,0,none⟩) (by simp) _).setCell (p:=⟨w.heap.size+2,1,none⟩) (by simp) _).setCell (p:=⟨w.heap.size+2,2,none⟩) (by simp) _
theorem cut_any(w:World)(x:Option Nat)(vi vk:Value)(nd:Nd)(K:Nat)(h:NdT w x vi vk nd)(hK:0 < K)(hKN:K < nd.len) :
  Calls Tryz.prog 155 #[nd.v vi vk,.int .i64 (K:Nat)] w fun e w'=>∃ v1 k1 v2 k2,e=.returned (.tuple #[(nd.take K).v v1 k1,(nd.drop K).v v2 k2])∧NdT w' x v1 k1 (nd.take K)∧NdT w' x v2 k2 (nd.drop K)∧Below w.heap.size w w':=by
 cases nd with
 | lf l=>
  have hKN:K < l.length:=hKN
  obtain⟨h1,rfl⟩:=h
  obtain⟨a,c,rfl⟩:=h1.its.slice
  obtain⟨y,hy⟩:∃ y,l[0]?=some y:=⟨_,List.getElem?_eq_getElem (by omega)⟩
  obtain⟨bk,off,rfl,_⟩:=h1.its.at_ hy
  obtain⟨a',n',c',e,h2,h3⟩:=h1.wide
  simp only[Value.slice.injEq] at e
  obtain⟨_,e1,e2⟩:=e
  refine (cut_lf w bk off c l.length K hK hKN (by omega) (by omega)).mono ?_
  rintro e w' ⟨rfl,hb⟩
  exact⟨_,_,_,_,rfl,⟨(h1.take (by omega)).keep (FrT.of hb),rfl⟩,⟨(h1.drop (by omega)).keep (FrT.of hb),rfl⟩,hb⟩
 | tw l=>
  have hKN:K < l.length:=hKN
  obtain⟨rfl,h1⟩:=h
  obtain⟨a,c,rfl⟩:=h1.its.slice
  obtain⟨y,hy⟩:∃ y,l[0]?=some y:=⟨_,List.getElem?_eq_getElem (by omega)⟩
  obtain⟨bk,off,rfl,_⟩:=h1.its.at_ hy
  obtain⟨a',n',c',e,h2,h3⟩:=h1.wide
  simp only[Value.slice.injEq] at e
  obtain⟨_,e1,e2⟩:=e
  refine (cut_tw w bk off c l.length K hK hKN (by omega) (by omega)).mono ?_
  rintro e w' ⟨rfl,hb⟩
  exact⟨_,_,_,_,rfl,⟨rfl,(h1.take (by omega)).keep (FrT.of hb)⟩,⟨rfl,(h1.drop (by omega)).keep (FrT.of hb)⟩,hb⟩
def Nd.ms(nd:Nd)(j:Nat):Nat:=max (1+(nd.take j).sum) (1+(nd.drop j).sum)
structure Best (nd:Nd) (k b m:Nat):Prop where
 lt:b < k
 zero:b=0→m=1+nd.sum
 at_:b≠0→m=nd.ms b
 least:∀ j,1≤j→j < k→m≤nd.ms j
theorem Best.start(nd:Nd):Best nd 1 0 (1+nd.sum):=⟨by omega,fun _=>rfl,fun h=>absurd rfl h,fun j h1 h2=>by omega⟩
theorem Best.skip{nd:Nd}{k b m:Nat}(h:Best nd k b m)(hm:¬ nd.ms k < m):Best nd (k+1) b m:=⟨Nat.lt_succ_of_lt h.lt,h.zero,h.at_,fun j h1 h2=>by
 by_cases e:j=k
 ·rw[e];omega
 ·exact h.least j h1 (by omega)⟩
theorem Best.take{nd:Nd}{k b m:Nat}(h:Best nd k b m)(hk:0 < k)(hm:nd.ms k < m):Best nd (k+1) k (nd.ms k):=⟨by omega,fun e=>by omega,fun _=>rfl,fun j h1 h2=>by
 by_cases e:j=k
 ·rw[e];exact Nat.le_refl _
 ·exact Nat.le_of_lt (Nat.lt_of_lt_of_le hm (h.least j h1 (by omega)))⟩
theorem Nd.take_len(nd:Nd)(k:Nat)(h:k≤nd.len):(nd.take k).len=k:=by
 cases nd with
 | lf l=>show (l.take k).length=k;rw[List.length_take];exact Nat.min_eq_left h
 | tw l=>show (l.take k).length=k;rw[List.length_take];exact Nat.min_eq_left h
theorem Nd.drop_len(nd:Nd)(k:Nat):(nd.drop k).len=nd.len - k:=by
 cases nd with
 | lf l=>show (l.drop k).length=l.length - k;rw[List.length_drop]
 | tw l=>show (l.drop k).length=l.length - k;rw[List.length_drop]
theorem Nd.sum_cut(nd:Nd)(k:Nat):(nd.take k).sum+(nd.drop k).sum=nd.sum:=by
 cases nd with
 | lf l=>show P9.sumI (l.take k)+P9.sumI (l.drop k)=P9.sumI l;rw[← P9.sumI_app,List.take_append_drop]
 | tw l=>show P10.sumI (l.take k)+P10.sumI (l.drop k)=P10.sumI l;rw[← P10.sumI_app,List.take_append_drop]
theorem Nd.take_kind(nd:Nd)(k:Nat):(nd.take k).kind=nd.kind:=by cases nd <;> rfl
theorem Nd.drop_kind(nd:Nd)(k:Nat):(nd.drop k).kind=nd.kind:=by cases nd <;> rfl
theorem middle_any(w:World)(x:Option Nat)(vi vk:Value)(nd:Nd)(h:NdT w x vi vk nd)(hs:nd.sum≤100000)(hl:1≤nd.len) :
  Calls Tryz.prog 154 #[nd.v vi vk] w fun e w'=>∃ b m,e=.returned (.int .i64 (b:Nat))∧Best nd nd.len b m∧Below w.heap.size w w':=by
 have hln:=nd.len_sum
 obtain⟨W1,hW1⟩:∃ W1,W1=w.alloc (.cells #[.int .i64 nd.kind,vi,vk] 80):=⟨_,rfl⟩
 have b1:Below w.heap.size w W1:=by rw[hW1];exact below_new _ _
 have r1:W1.heap[w.heap.size]?=some (.cells #[.int .i64 nd.kind,vi,vk] 80 (0,0)):=by rw[hW1];exact new_at _ _ _
 have HB1:=qh b1
 have HR1:=qh (fun W (k:Below W1.heap.size W1 W)=>P3.old_below r1 k)
 have HN:=qh (fun W (k:Below W1.heap.size W1 W)=>h.keep (FrT.of (thenBelow b1 k)))
 have HSz:=qh (fun W (k:Below W1.heap.size W1 W)=>size_any W x vi vk nd (h.keep (FrT.of (thenBelow b1 k))) (by omega))
 have HCn:=qh (fun W (k:Below W1.heap.size W1 W)=>count_any W x vi vk nd (h.keep (FrT.of (thenBelow b1 k))) (by omega))
 have HCut:=qh (fun W (k:Below W1.heap.size W1 W) K (h1:0 < K) (h2:K < nd.len)=>cut_any W x vi vk nd K (h.keep (FrT.of (thenBelow b1 k))) h1 h2)
 have q:=HR1.out W1 (Below.refl _ _)
 have q0:=cell_at q 0
 have q1:=cell_at q 1
 have q2:=cell_at q 2
 simp only[qqD,qqE,qqF] at q0 q1 q2
 have HX1:=qh (Below.refl W1.heap.size W1)
 obtain⟨a,n,c,a',n',c',rfl,rfl,_⟩:=h.lens
 unfold Nd.v at HSz HCn HCut ⊢
 simp only[Nd.take_kind,Nd.drop_kind] at HCut
 have HL:=qh hl
 have HSm:=qh hs
 obtain⟨Kd,hKd⟩:∃ k,k=nd.kind:=⟨_,rfl⟩
 have HKd:=qh hKd
 rw[← hKd] at HSz HCn HCut HR1 q0 hW1 ⊢
 clear h b1 r1 q hKd
 go_enter Tryz.func154,Tryz.ntmps154
 go_upto_region 1 with fail
 rw[← hW1]
 clear hW1
 go_wp2_with (go_at_call 100;(with_reducible refine (HSz.out _ HX1.out).mono ?_);rintro e w2 ⟨rfl,h2⟩;have H2:=qh h2;clear h2)
 clear q0 q1 q2
 go_loopw [3,4,5] (fun vb vm vt wr=>∃ b m k:Nat,vb=.int .i64 b∧vm=.int .i64 m∧vt=.int .i64 k∧1≤k∧k≤nd.len∧Hid (Best nd k b m)∧Hid (Below W1.heap.size W1 wr)) (fun _ _ vt _=>nd.len - (RowKit.intOf vt).toNat)
 case atStart=>exact⟨0,1+nd.sum,1,rfl,rfl,rfl,Nat.le_refl _,HL.out,qh (Best.start nd),H2⟩
 case round=>
  clear H2
  obtain⟨b,m,k,rfl,rfl,rfl,hk1,hk2,HBe,HB⟩:=hrel
  have q:=HR1.out _ HB.out
  have q0:=cell_at q 0
  have q1:=cell_at q 1
  have q2:=cell_at q 2
  simp only[qqD,qqE,qqF] at q0 q1 q2
  by_cases hlt:k < nd.len
  ·have k1:decide ((k:Int) < (nd.len:Int))=true:=decide_eq_true (by omega)
   generalize hLn:nd.len=Ln at *
   have HLn:=qh hLn
   clear q hLn
   go_upto_region 5 with (go_at_call 97;(with_reducible refine (HCn.out _ HB.out).mono ?_);rintro e w3 ⟨rfl,h3⟩;have H3:=qh (thenBelow HB.out h3);have p:=HR1.out _ (thenBelow HB.out h3);have p0:=cell_at p 0;have p1:=cell_at p 1;have p2:=cell_at p 2;simp only[qqD,qqE,qqF] at p0 p1 p2;clear h3 p)
   have hcut:=HCut.out w3 H3.out k (by omega) hlt
   have HCu:=qh hcut
   clear hcut q0 q1 q2
   go_upto_region 6 with (go_at_call 155;(with_reducible refine HCu.out.mono ?_);rintro e w4 ⟨v1,j1,v2,j2,rfl,h4,h5,h6⟩;have H4:=qh h4;have H5:=qh h5;have H6:=qh (thenBelow H3.out h6);obtain⟨a1,n1,c1,a2,n2,c2,rfl,rfl,_⟩:=h4.lens;obtain⟨a3,n3,c3,a4,n4,c4,rfl,rfl,_⟩:=h5.lens;clear h4 h5 h6)
   obtain⟨g,hg⟩:∃ g,g=w4.heap.size:=⟨_,rfl⟩
   obtain⟨X,hX⟩:∃ X,X=(w4.alloc (.cells #[.int .i64 Kd,.slice a1 n1 c1,.slice a2 n2 c2] 80)).alloc (.cells #[.int .i64 Kd,.slice a3 n3 c3,.slice a4 n4 c4] 80):=⟨_,rfl⟩
   have bX:Below w4.heap.size w4 X:=by rw[hX];exact grow (below_new _ _) _
   have hT:=two_new (w:=w4) (A:=#[.int .i64 Kd,.slice a1 n1 c1,.slice a2 n2 c2]) (B:=#[.int .i64 Kd,.slice a3 n3 c3,.slice a4 n4 c4]) (s:=80) (t:=80) (Below.refl _ _)
   rw[← hX,← hg] at hT
   obtain⟨hT1,hT2⟩:=hT
   rw[← hX,← hg]
   clear hX hg p0 p1 p2
   have HSt:Hid (∀ W,Below X.heap.size X W→W.cell? ⟨g,0,none⟩=some (.int .i64 Kd)∧W.cell? ⟨g,1,none⟩=some (.slice a1 n1 c1)∧W.cell? ⟨g,2,none⟩=some (.slice a2 n2 c2)∧W.cell? ⟨g+1,0,none⟩=some (.int .i64 Kd)∧W.cell? ⟨g+1,1,none⟩=some (.slice a3 n3 c3)∧W.cell? ⟨g+1,2,none⟩=some (.slice a4 n4 c4)):=fun W b=>by
    have z1:=P3.old_below hT1 b
    have z2:=P3.old_below hT2 b
    exact⟨cell_at z1 0,cell_at z1 1,cell_at z1 2,cell_at z2 0,cell_at z2 1,cell_at z2 2⟩
   have HXX:=qh (Below.refl X.heap.size X)
   have HBX:Hid (Below W1.heap.size W1 X):=thenBelow H6.out bX
   have hs1:=nd.sum_cut k
   have HZ1:Hid (∀ W,Below X.heap.size X W→Calls Tryz.prog 100 #[.agg #[.int .i64 Kd,.slice a1 n1 c1,.slice a2 n2 c2]] W fun e w'=>e=.returned (.int .i64 ((1+(nd.take k).sum:Nat):Int))∧Below W.heap.size W w'):=fun W b=>by
    have:=size_any W x (.slice a1 n1 c1) (.slice a2 n2 c2) (nd.take k) (H4.out.keep (FrT.of (thenBelow bX b))) (by have:=HSm.out;omega)
    unfold Nd.v at this
    rw[Nd.take_kind,← HKd.out] at this
    exact this
   have HZ2:Hid (∀ W,Below X.heap.size X W→Calls Tryz.prog 100 #[.agg #[.int .i64 Kd,.slice a3 n3 c3,.slice a4 n4 c4]] W fun e w'=>e=.returned (.int .i64 ((1+(nd.drop k).sum:Nat):Int))∧Below W.heap.size W w'):=fun W b=>by
    have:=size_any W x (.slice a3 n3 c3) (.slice a4 n4 c4) (nd.drop k) (H5.out.keep (FrT.of (thenBelow bX b))) (by have:=HSm.out;omega)
    unfold Nd.v at this
    rw[Nd.drop_kind,← HKd.out] at this
    exact this
   clear hT1 hT2 bX hs1
   have HMs:Hid (((nd.ms k:Nat):Int)=max (((1+(nd.take k).sum:Nat)):Int) ((1+(nd.drop k).sum:Nat):Int)):=by
    unfold Nd.ms
    exact (by omega:((max (1+(nd.take k).sum) (1+(nd.drop k).sum):Nat):Int)=max (((1+(nd.take k).sum:Nat)):Int) ((1+(nd.drop k).sum:Nat):Int))
   obtain⟨S1,hS1⟩:∃ S,S=1+(nd.take k).sum:=⟨_,rfl⟩
   obtain⟨S2,hS2⟩:∃ S,S=1+(nd.drop k).sum:=⟨_,rfl⟩
   rw[← hS1] at HZ1 HMs
   rw[← hS2] at HZ2 HMs
   obtain⟨Ms,hMs⟩:∃ m,m=nd.ms k:=⟨_,rfl⟩
   rw[← hMs] at HMs
   have HMs2:=qh hMs
   have hmx:max (S1:Int) (S2:Int)=(Ms:Int):=HMs.out.symm
   clear hS1 hS2 hMs
   go_region_held3 (fun W=>W.cell? ⟨g,0,none⟩=some (.int .i64 Kd)∧W.cell? ⟨g,1,none⟩=some (.slice a1 n1 c1)∧W.cell? ⟨g,2,none⟩=some (.slice a2 n2 c2)∧W.cell? ⟨g+1,0,none⟩=some (.int .i64 Kd)∧W.cell? ⟨g+1,1,none⟩=some (.slice a3 n3 c3)∧W.cell? ⟨g+1,2,none⟩=some (.slice a4 n4 c4)) (first|(with_reducible exact HSt.out _ HXX.out)|(with_reducible exact HSt.out _ HXX.out.drew)|(with_reducible exact HSt.out _ HB9.out))
    ((first
     | (go_at_call 100;(first|(with_reducible refine (HZ1.out _ (by first|(with_reducible exact HB9.out)|(with_reducible exact HXX.out.drew)|(with_reducible exact HXX.out))).mono ?_)|(with_reducible refine (HZ2.out _ (by first|(with_reducible exact HB9.out)|(with_reducible exact HXX.out.drew)|(with_reducible exact HXX.out))).mono ?_));rintro e w9 ⟨rfl,h9⟩;have HB9:Hid (Below X.heap.size X w9):=(by first|exact thenBelow HB9.out h9|exact HXX.out.drew.trans h9|exact HXX.out.trans h9);clear h9)))
   all_goals
    by_cases hms:Ms < m
    ·have d1:decide ((Ms:Int) < (m:Int))=true:=decide_eq_true (by omega)
     go_wp2
     go_roundw
     case rel=>exact⟨k,Ms,k+1,rfl,rfl,by go_num,by omega,by omega,by have h9:=HBe.out.take (by omega) (by rw[← HMs2.out];exact hms);rw[← HMs2.out] at h9;exact qh h9,qh (thenBelow HBX.out HB9.out)⟩
     case measure=>simp[RowKit.intOf];omega
    ·have d1:decide ((Ms:Int) < (m:Int))=false:=decide_eq_false (by omega)
     go_wp2
     go_roundw
     case rel=>exact⟨b,m,k+1,rfl,rfl,by go_num,by omega,by omega,qh (HBe.out.skip (by rw[← HMs2.out];exact hms)),qh (thenBelow HBX.out HB9.out)⟩
     case measure=>simp[RowKit.intOf];omega
  ·have k1:decide ((k:Int) < (nd.len:Int))=false:=decide_eq_false (by omega)
   have hkn:nd.len=k:=by omega
   have HKn:=qh hkn
   generalize hLn:nd.len=Ln at *
   have HLn2:=qh hLn
   clear q hkn hLn
   go_wp2_with (go_at_call 97;(with_reducible refine (HCn.out _ HB.out).mono ?_);rintro e w3 ⟨rfl,h3⟩;have H3:=qh (thenBelow HB.out h3);clear h3)
   go_ret
   exact⟨b,m,rfl,by rw[HLn2.out,HKn.out];exact HBe.out,thenBelow HB1.out H3.out⟩
end Go.Proofs.YtjepgclnbbpnaaaGreat.P12
