/-
  Texts of the proofs of SaidDrops12, SaidEmpt12, SaidOlds12.
-/
import Derived.Test.YtjepgclnbbpnaaaGreatMq43
set_option linter.unusedVariables false
set_option linter.unusedSimpArgs false
namespace Go.Proofs.YtjepgclnbbpnaaaGreat.P12
open Go Go.RowKit Go.Lib PK
open P11 (Pg)
open P9 (It ItsIn kb RightI lowK hasK putI dropI)
theorem Live.right{w0:World}{b:Nat}{root:Int}{L:List It}{k:Nat}{w:World}(h:Live w0 b root L k w):RightI L:=by
 obtain⟨_,_,_,_,_,_,_,_,_,t,_⟩:=h
 exact t.right
theorem Live.check{w0:World}{b:Nat}{root:Int}{L:List It}{k:Nat}{w:World}(h:Live w0 b root L k w):Calls Tryz.prog 28 #[pgv b,.int .i64 root] w fun e w'=>e=.returned (.int .i64 0)∧Below w.heap.size w w':=by
 obtain⟨vl,vg,M,D,ids,P,p,q,h1,t,_⟩:=h
 exact trCheck_any w b vl vg M h1 (by have:=t.szl;omega) D root L ids t.tree (by have:=t.deep;omega) t.pool.ids_nodup (by have:=t.idsl;have:=t.llen;omega)
theorem mem_actL_put{L:List It}(hr:RightI L){x y:It}(h:y∈actL L ⟨1,x⟩):y=x∨y∈L:=by
 unfold actL at h
 rw[if_neg (show ¬ ((1:Int)=2) by decide)] at h
 by_cases hok:x.ok=true
 ·rw[if_pos hok] at h
  rcases (P9.mem_putI hr x y).1 h with h9|h9
  ·exact .inl h9
  ·exact .inr h9.1
 ·rw[if_neg hok] at h
  exact .inr h
theorem mem_actL_del{L:List It}(hr:RightI L){x y:It}(h:y∈actL L ⟨2,x⟩):y∈L∧y.key≠x.key:=by
 unfold actL at h
 rw[if_pos rfl] at h
 exact (P9.mem_dropI hr x.key y).1 h
end Go.Proofs.YtjepgclnbbpnaaaGreat.P12
