/-
  Texts of the proofs of SaidPlays12.
-/
import Derived.Test.YtjepgclnbbpnaaaGreatMr31
set_option linter.unusedVariables false
set_option linter.unusedSimpArgs false
namespace Go.Proofs.YtjepgclnbbpnaaaGreat.P12
open Go Go.RowKit Go.Lib PK
open P11 (Pg cellsP PgsIn)
open P9 (It kb kb_trans RightI)
theorem CAt.not_node{w:World}{G:Cg}(h:CAt w G){b:Nat}{cs:Array Value}(hb:w.heap[b]?=some (.cells cs 80 (0,0))):¬ G.S b:=fun hk=>by
 rcases hk with hk|hk|hk
 ·obtain⟨cs',t,e,ht⟩:=h.pg.cells_ hk
  rw[hb] at e
  cases e
  rcases ht with ht|ht|ht <;> cases ht
 ·rcases h.sk.kinds hk with ⟨cs',t,e,ht⟩|⟨es,c,e⟩
  ·rw[hb] at e
   cases e
   rcases ht with ht|ht <;> cases ht
  ·rw[hb] at e
   cases e
 ·obtain⟨cs',t,e,ht⟩:=h.ch.kinds hk
  rw[hb] at e
  cases e
  rcases ht with ht|ht|ht <;> cases ht
theorem own_block{lo:Nat}{w:World}{g n c:Nat}{l:List P10.It}(h:P10.OwnI lo w (.slice (some ⟨g,0,none⟩) n c) l):∃ cs,w.heap[g]?=some (.cells cs 106 (0,0)):=row_kind h.1 rfl
theorem CAt.not_kid{w:World}{G:Cg}(h:CAt w G){b:Nat}{cs:Array Value}(hb:w.heap[b]?=some (.cells cs 106 (0,0))):¬ G.S b:=fun hk=>h.notT none b cs 106 hk ⟨.inr rfl,by simp⟩ hb
theorem up_tail{w W5 W6 W7:World}{G0 G5:Cg}{M0:PM}{D:Nat}{root:Int}{ids:List Int}{L':List It}{gr:Bool}{m lo g5 n5 c5:Nat}{R:List P10.It}{ch':Bool}(h0:CAt w G0)(hw:Went w W5 G0 G5)(hs:SameG G0 G5)(hup:UpL M0 D root G0.key ids L' gr G0.ps m G5 (.tw R) ch')
  (hown:P10.OwnI lo W6 (.slice (some ⟨g5,0,none⟩) n5 c5) R) (hlo:w.heap.size≤lo) (f6:P3.Fr (·=g5) W5 W6) (hg5:∃ cs,W5.heap[g5]?=some (.cells cs 106 (0,0))) (k:Below W6.heap.size W6 W7) (c0 c1 c2:Value) (hnb:W7.heap[w.heap.size]?=some (.cells #[c0,c1,c2] 80 (0,0))) :
  UpR w (((W7.setCell ⟨w.heap.size,0,none⟩ (.int .i64 4)).setCell ⟨w.heap.size,1,none⟩ (.slice none 0 0)).setCell ⟨w.heap.size,2,none⟩ (.slice (some ⟨g5,0,none⟩) n5 c5)) G0 M0 D root ids L' gr m G5 (.tw R) (.slice none 0 0) (.slice (some ⟨g5,0,none⟩) n5 c5) ch':=by
 obtain⟨cs5,hg5⟩:=hg5
 have hgl:w.heap.size≤g5:=Nat.le_trans hlo (hown.1.lt g5 rfl).1
 have hw6:=hw.ext h0 hs.ps f6 fun j hj=>⟨by omega,by rw[hj];exact hw.at_.not_kid hg5⟩
 have hw7:=hw6.then k
 have f7:P3.Fr (·=w.heap.size) W7 (((W7.setCell ⟨w.heap.size,0,none⟩ (.int .i64 4)).setCell ⟨w.heap.size,1,none⟩ (.slice none 0 0)).setCell ⟨w.heap.size,2,none⟩ (.slice (some ⟨g5,0,none⟩) n5 c5)):=((fr_set W7 _ 0 _).trans (fr_set _ _ 1 _)).trans (fr_set _ _ 2 _)
 have hw8:=hw7.ext h0 hs.ps f7 fun j hj=>⟨by omega,by rw[hj];exact hw7.at_.not_node hnb⟩
 have hbx:=set_at (set_at (set_at hnb 0 (.int .i64 4)) 1 (.slice none 0 0)) 2 (.slice (some ⟨g5,0,none⟩) n5 c5)
 obtain⟨cs7,hk7⟩:=own_block (owns_below hown.1 k |> fun h=>(⟨h,hown.2⟩:P10.OwnI lo W7 (.slice (some ⟨g5,0,none⟩) n5 c5) R))
 have hne:g5≠w.heap.size:=fun e=>by
  rw[e,hnb] at hk7
  cases hk7
 have ho8:P10.OwnI lo (((W7.setCell ⟨w.heap.size,0,none⟩ (.int .i64 4)).setCell ⟨w.heap.size,1,none⟩ (.slice none 0 0)).setCell ⟨w.heap.size,2,none⟩ (.slice (some ⟨g5,0,none⟩) n5 c5)) (.slice (some ⟨g5,0,none⟩) n5 c5) R:=
  ⟨owns_fr (owns_below hown.1 k) f7 fun j hj e=>hne (by rw[← e];exact Option.some.inj hj),hown.2⟩
 exact⟨hw8,hs,hup,⟨rfl,KdT.own ho8 fun _ e=>by cases e⟩,hbx⟩
end Go.Proofs.YtjepgclnbbpnaaaGreat.P12
