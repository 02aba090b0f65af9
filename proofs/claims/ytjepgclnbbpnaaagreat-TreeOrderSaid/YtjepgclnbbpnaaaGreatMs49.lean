/-
  Texts of the proofs of SaidOrd12.
-/
import Derived.Test.YtjepgclnbbpnaaaGreatMs47
set_option linter.unusedVariables false
set_option linter.unusedSimpArgs false
namespace Go.Proofs.YtjepgclnbbpnaaaGreat.P7
open Go Go.RowKit Go.Lib Go.Maps Go.ChangeMaps Go.MapKept PK
theorem cellsInt7:Tryz.prog.cellsOf 3=1:=by kernel_rfl
section
variable {H:Type} {enc:TypeId×Value→H} {w:World} {base:Nat} {sp:Nat→Bool} {held:Bool}
theorem il_open{n:Nat}{v:Value}{x:DataW H×List MemPlace}(h:DataW.trod enc Tryz.prog w base sp held n 42 [v]=some x):∃ l,IL w v l:=by
 rcases Go.ChangeShapes.open_ints Tryz.underlying42 Tryz.underlying3 cellsInt7 h with ⟨hv,_⟩|⟨a,len,cap,zs,hv,_,hl,hm,hz,_,hcell,_⟩
 ·simp only[List.cons.injEq,and_true] at hv
  rw[hv]
  exact⟨[],IL.nil w⟩
 ·simp only[List.cons.injEq,and_true] at hv
  have hlen:len≤zs.length:=by rw[hz];split <;> omega
  have hm2:maxLen=9223372036854775807:=by decide
  refine⟨zs.take len,some a,cap,by rw[hv,List.length_take,Nat.min_eq_left hlen],(fun e=>by cases e),by rw[List.length_take];omega,fun h0=>?_⟩
  rw[List.length_take,Nat.min_eq_left hlen] at h0
  obtain⟨b,off,spot⟩:=a
  have hc0:=hcell 0 (by omega)
  have hspot:spot=none:=by
   have:=World.cell?_spot (w:=w) (a:=(⟨b,off,spot⟩:Addr).add 0) hc0
   simpa [Addr.add] using this
  subst hspot
  refine⟨b,off,rfl,?_,fun i y hi=>?_⟩
  ·rw[Go.WideShapes.add_plain] at hc0
   exact World.block_lt_of_cell? w _ hc0
  ·have hil:=(List.getElem?_eq_some_iff.1 hi).1
   rw[List.length_take] at hil
   have:=hcell i (by omega)
   rw[Go.WideShapes.add_plain] at this
   rw[this]
   congr 2
   rw[List.getElem?_take_of_lt (by omega)] at hi
   rw[List.getD_eq_getElem?_getD,hi]
   rfl
end
end Go.Proofs.YtjepgclnbbpnaaaGreat.P7
