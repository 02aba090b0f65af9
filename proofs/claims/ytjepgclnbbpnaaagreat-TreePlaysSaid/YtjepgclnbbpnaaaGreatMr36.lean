/-
  Texts of the proofs of SaidPlays12.
-/
import Derived.Test.YtjepgclnbbpnaaaGreatMr35
import Derived.Shelf.SlIterI.Nil
import Derived.Shelf.SortM.Plain
import Derived.Shelf.SortM.SortNone
set_option linter.unusedVariables false
set_option linter.unusedSimpArgs false
set_option maxHeartbeats 8000000
set_option maxRecDepth 100000
namespace Go.Proofs.YtjepgclnbbpnaaaGreat.P12
open PK (qqA qqB qqC qqD qqE qqF tk tkS dOne qh)
open Go Go.RowKit Go.Lib PK
open P11 (Pg)
open P9 (It kb kb_trans RightI)
def Sp.next(p:Sp):Sp:={ p with at_:=p.at_+1 }
def Sp.kl(p:Sp):List P10.It:=match p.nd with
 | .lf _=>[]
 | .tw l=>l
def turnR:List Sp→List Sp×Int
 | []=>([],0)
 | p::r=>match p.kl[(p.at_+1).toNat]? with
  | some q=>(r.reverse++[p.next],q.page)
  | none=>turnR r
def turnP(ps:List Sp):List Sp×Int:=turnR ps.reverse
theorem turnP_snoc(ps:List Sp)(p:Sp):turnP (ps++[p])=match p.kl[(p.at_+1).toNat]? with
  | some q=>(ps++[p.next],q.page)
  | none=>turnP ps:=by
 unfold turnP
 rw[List.reverse_append,List.reverse_cons,List.reverse_nil,List.nil_append,List.singleton_append]
 show (match p.kl[(p.at_+1).toNat]? with|some q=>(ps.reverse.reverse++[p.next],q.page)|none=>turnR ps.reverse)=_
 rw[List.reverse_reverse]
theorem NdT.kids{w:World}{x:Option Nat}{p:Sp}(h:NdT w x p.vi p.vk p.nd):KdT w x p.vk p.kl:=by
 unfold Sp.kl
 cases hn:p.nd with
 | lf l=>
  rw[hn] at h
  rw[h.2]
  exact KdT.nil _ _
 | tw l=>
  rw[hn] at h
  exact h.2
theorem row_cut{w:World}{lo e size n m cap g:Nat}{xs ys:List Value}(h:w.ownsRow lo e size (.slice (some ⟨g,0,none⟩) n cap) n (xs++ys))(hx:xs.length=m*size)(hm:m≤n):w.ownsRow lo e size (.slice (some ⟨g,0,none⟩) m cap) m xs:=by
 refine⟨hx,.inr ?_⟩
 rcases h.2 with ⟨e1,_⟩|⟨g',cap',cur,e1,h1,h2,h3,h4,h5,h6⟩
 ·cases e1
 ·simp only[Value.slice.injEq,Option.some.injEq,Addr.mk.injEq,and_true,true_and] at e1
  obtain⟨rfl,rfl⟩:=e1
  refine⟨g,cap,cur,rfl,h1,h2,by omega,h4,h5,?_⟩
  have h7:(cur.toList.take (n*size)).take (m*size)=xs:=by rw[h6,← hx,List.take_left' rfl]
  rwa[List.take_take,Nat.min_eq_left (Nat.mul_le_mul_right size hm)] at h7
theorem sp_len(ps:List Sp):(ps.map Sp.cells).flatten.length=ps.length*8:=by
 have:=flat_len (n:=8) (l:=ps.map Sp.cells) fun x hx=>by
  obtain⟨q,_,rfl⟩:=List.mem_map.1 hx
  rfl
 rwa[List.length_map] at this
structure TrL (w wr:World) (x:Option Nat) (b s mb g wc:Nat) (ps:List Sp) (sn:List Int) (n k:Nat):Prop where
 obj:wr.heap[s]?=some (.cells #[pgv b,.slice (some ⟨g,0,none⟩) n wc,.map (some mb)] 97 (0,0))
 row:wr.ownsRow 0 88 8 (.slice (some ⟨g,0,none⟩) k wc) k ((ps.take k).map Sp.cells).flatten
 fr:P3.Fr (fun j=>j=s∨j=g) w wr
 eq:turnP ps=turnP (ps.take k)
theorem sk_new{w wr:World}{x:Option Nat}{b s mb g wc:Nat}{ps ps':List Sp}{sn:List Int}{n k:Nat}{vw':Value}(h:SkAt w x b s mb (.slice (some ⟨g,0,none⟩) n wc) ps sn)(f:P3.Fr (fun j=>j=s∨j=g) w wr)(o:wr.heap[s]?=some (.cells #[pgv b,vw',.map (some mb)] 97 (0,0)))
  (r:wr.ownsRow 0 88 8 vw' ps'.length (ps'.map Sp.cells).flatten) (hp:∀ p∈ps',∃ q∈ps,q.nd=p.nd∧q.vi=p.vi∧q.vk=p.vk):SkAt wr x b s mb vw' ps' sn∧FrT x w wr:=by
 have ft:FrT x w wr:=FrT.ofFr f fun k cs t hk hs e=>by
  rcases hk with rfl|rfl
  ·exact h.notT (y:=x) k cs t (.inl rfl) hs e
  ·exact h.notT (y:=x) k cs t (.inr (.inl rfl)) hs e
 refine⟨⟨o,r,fun p hpp=>?_,h.seen.fr f fun e=>?_⟩,ft⟩
 ·obtain⟨q,hq,e1,e2,e3⟩:=hp p hpp
  rw[← e1,← e2,← e3]
  exact (h.nd q hq).keep ft
 ·rcases e with e|e
  ·exact h.s_mb e.symm
  ·exact h.row_mb (j:=g) rfl e.symm
theorem row_cell{w:World}{lo e g n cap:Nat}{ps:List Sp}(h:w.ownsRow lo e 8 (.slice (some ⟨g,0,none⟩) n cap) n (ps.map Sp.cells).flatten){i:Nat}{p:Sp}(hi:ps[i]?=some p) :
  (∃ cur,w.heap[g]?=some (.cells cur e (0,0)))∧∀ (j:Nat) (u:Value),p.cells[j]?=some u→w.cell? ⟨g,i*8+j,none⟩=some u:=by
 rcases h.2 with ⟨e1,_⟩|⟨g',cap',cur,e1,h1,h2,h3,h4,h5,h6⟩
 ·cases e1
 ·simp only[Value.slice.injEq,Option.some.injEq,Addr.mk.injEq,and_true,true_and] at e1
  obtain⟨rfl,rfl⟩:=e1
  refine⟨⟨cur,h2⟩,fun j u hu=>?_⟩
  have h7:((ps.map Sp.cells).flatten)[i*8+j]?=some u:=by
   refine flat_at (n:=8) (l:=ps.map Sp.cells) (fun x hx=>?_) (x:=p.cells) (by rw[List.getElem?_map,hi];rfl) hu
   obtain⟨q,_,rfl⟩:=List.mem_map.1 hx
   rfl
  rw[← h6,List.getElem?_take] at h7
  rw[cell_at h2]
  split at h7
  ·rw[← h7]
   simp
  ·cases h7
theorem row_next{w:World}{lo e g cap j:Nat}{ps:List Sp}{p:Sp}(h:w.ownsRow lo e 8 (.slice (some ⟨g,0,none⟩) (j+1) cap) (j+1) ((ps.take (j+1)).map Sp.cells).flatten)(hp:ps[j]?=some p) :
  (w.setCell ⟨g,j*8+7,none⟩ (.int .i64 (p.at_+1))).ownsRow lo e 8 (.slice (some ⟨g,0,none⟩) (j+1) cap) (j+1) ((ps.take j++[p.next]).map Sp.cells).flatten:=by
 have hl:=(List.getElem?_eq_some_iff.1 hp).1
 have e1:ps.take (j+1)=ps.take j++[p]:=by rw[List.take_add_one,hp];rfl
 have h1:=(h.stored (j*8+7) (.int .i64 (p.at_+1))).1
 have h2:=flat_set (n:=8) (l:=(ps.take (j+1)).map Sp.cells) (fun y hy=>by
  obtain⟨q,_,rfl⟩:=List.mem_map.1 hy
  rfl) (i:=j) (j:=7) (x:=p.cells) (u:=.int .i64 (p.at_+1)) (by rw[e1,List.map_append,List.getElem?_append_right (by rw[List.length_map,List.length_take];omega),List.length_map,List.length_take,Nat.min_eq_left (by omega),Nat.sub_self];rfl) (by omega)
 rw[← h2,e1,List.map_append,List.set_append_right _ _ (by rw[List.length_map,List.length_take];omega)] at h1
 rw[List.length_map,List.length_take,Nat.min_eq_left (by omega),Nat.sub_self] at h1
 rw[List.map_append]
 exact h1
theorem turn_any(w:World)(x:Option Nat)(b s mb:Nat)(vw:Value)(ps:List Sp)(sn:List Int)(h:SkAt w x b s mb vw ps sn)(hps:0 < ps.length)(hl:ps.length≤12)(hat:∀ p∈ps,0≤p.at_∧p.at_≤100000∧p.nd.len≤1000) :
  Calls Tryz.prog 72 #[.pointer (some ⟨s,0,none⟩)] w fun e w'=>∃ vw',e=.returned (.int .i64 (turnP ps).2)∧SkAt w' x b s mb vw' (turnP ps).1 sn∧P3.Fr (fun j=>j=s∨vw.ownBlock=some j) w w'∧(∀ j,vw'.ownBlock=some j→vw.ownBlock=some j)∧FrT x w w':=by
 obtain⟨p0,hp0⟩:∃ p,ps[0]?=some p:=⟨_,List.getElem?_eq_getElem hps⟩
 obtain⟨a,wc,rfl⟩:=h.slice
 obtain⟨g,rfl,_⟩:=h.cells_ hp0
 obtain⟨n,hn⟩:∃ n,n=ps.length:=⟨_,rfl⟩
 rw[← hn] at h hps hl
 have hgs:g≠s:=h.row_s rfl
 have o1:=cell_at h.obj 1
 simp only[qqD,qqE,qqF] at o1
 have hcap:n≤wc:=by
  rcases h.row.2 with ⟨e,_⟩|⟨g9,cap9,cur9,e,_,_,h5,_⟩
  ·simp at e
  ·simp only[Value.slice.injEq] at e
   obtain⟨_,e4,e5⟩:=e
   omega
 have T0:Hid (TrL w w x b s mb g wc ps sn n n):=qh ⟨h.obj,by rw[hn,List.take_length];have:=h.row;rw[hn] at this;exact this,P3.Fr.refl _ _,by rw[hn,List.take_length]⟩
 have k0:IntKind.i64.wrap ((n:Int) - 1)=((n - 1:Nat):Int):=by
  rw[IntKind.wrap_i64]
  omega
 obtain⟨n1,hn1⟩:∃ m,n=m+1:=⟨n - 1,by omega⟩
 have k1:IntKind.i64.wrap ((n:Int) - 1)=(n1:Int):=by rw[k0];omega
 have HH:=qh h
 have HN:=qh hn
 have HN1:=qh hn1
 have HA:=qh hat
 have HGs:=qh hgs
 clear k0 h hp0 hn hn1 hgs hat
 go_enter Tryz.func72,Tryz.ntmps72
 go_wp2
 clear k1 o1
 go_loopw [3] (fun vi wr=>∃ k:Nat,k≤n∧((k=0∧vi=.int .i64 (-1))∨∃ j,k=j+1∧vi=.int .i64 (j:Nat))∧Hid (TrL w wr x b s mb g wc ps sn n k)) (fun vi _=>(RowKit.intOf vi+1).toNat)
 case atStart=>exact⟨n,Nat.le_refl _,.inr ⟨n1,HN1.out,rfl⟩,T0⟩
 case round=>
  clear T0
  obtain⟨k,hk,hcase,HT⟩:=hrel
  rcases hcase with ⟨rfl,rfl⟩|⟨j,rfl,rfl⟩
  ·have o1:=cell_at HT.out.obj 1
   have f1:=free_at HT.out.obj 1
   simp only[qqD,qqE,qqF] at o1
   go_wp2
   go_ret
   have hob:=set_at HT.out.obj 1 (.slice none 0 0)
   have hf:P3.Fr (fun j=>j=s∨j=g) w (wr.setCell ⟨s,1,none⟩ (.slice none 0 0)):=HT.out.fr.trans ((fr_set wr s 1 _).mono fun _ _ e=>.inl e)
   have e0:turnP ps=([],0):=by rw[HT.out.eq];rfl
   rw[e0]
   obtain⟨g1,g2⟩:=sk_new (ps':=[]) (vw':=.slice none 0 0) (n:=n) (k:=0) HH.out hf hob (World.ownsRow_nil _ _ _ _) fun p hp=>by cases hp
   exact⟨.slice none 0 0,rfl,g1,hf.mono fun j _ e=>e.imp id (fun e2=>by rw[e2];rfl),(fun j e=>by cases e),g2⟩
  ·obtain⟨p,hp⟩:∃ p,ps[j]?=some p:=⟨_,List.getElem?_eq_getElem (by have:=HN.out;omega)⟩
   obtain⟨zi,hzi⟩:∃ z:Nat,p.at_+1=(z:Int):=⟨(p.at_+1).toNat,by have:=(HA.out p (List.mem_of_getElem? hp)).1;omega⟩
   have hta:(ps.take (j+1))[j]?=some p:=by rw[List.getElem?_take,if_pos (Nat.lt_succ_self j)];exact hp
   obtain⟨⟨cur,hcu⟩,hce⟩:=row_cell HT.out.row hta
   have hnd:=HH.out.nd p (List.mem_of_getElem? hp)
   have ftw:FrT x w wr:=FrT.ofFr HT.out.fr fun k cs t hk hs e=>by
    rcases hk with rfl|rfl
    ·exact HH.out.notT (y:=x) k cs t (.inl rfl) hs e
    ·exact HH.out.notT (y:=x) k cs t (.inr (.inl rfl)) hs e
   have hkd:=hnd.kids
   obtain⟨ka,kc,hvk⟩:=hkd.its.slice
   obtain⟨kn,hkn⟩:∃ m,m=p.kl.length:=⟨_,rfl⟩
   rw[← hkn] at hvk
   have c6:=hce 6 _ rfl
   have c7:=hce 7 _ rfl
   rw[hvk] at c6
   have f7:=free_at hcu (j*8+7)
   have o1:=cell_at HT.out.obj 1
   simp only[qqD,qqE,qqF] at o1
   have hw1:IntKind.i64.wrap (p.at_+1)=(zi:Int):=by
    rw[hzi,IntKind.wrap_i64]
    have:=(HA.out p (List.mem_of_getElem? hp)).2.1
    omega
   obtain⟨j1,hj1⟩:∃ m,m=j+1:=⟨_,rfl⟩
   have hw2:IntKind.i64.wrap ((j:Int)+1)=(j1:Int):=by
    rw[IntKind.wrap_i64]
    omega
   have l1:(0:Int)≤(j:Int):=by omega
   have l2:(j:Int) < (n:Int):=by omega
   have l3:j1≤wc:=by omega
   have l4:(j1:Int)≤(wc:Int):=by omega
   have l5:(0:Int)≤(j1:Int):=by omega
   have HKd:=qh hkd
   have HP:=qh hp
   have HZi:=qh hzi
   have HKn:=qh hkn
   have HJ1:=qh hj1
   have HVk:=qh hvk
   have HCu:=qh hcu
   have HR5:=qh (row_next HT.out.row hp)
   clear hta hnd ftw hkd hvk hkn hce hcu hzi hj1 hp
   go_upto_region 6 with fail
   obtain⟨W5,hW5⟩:∃ W,W=wr.setCell ⟨g,j*8+7,none⟩ (.int .i64 (zi:Int)):=⟨_,rfl⟩
   rw[← hW5]
   have hr5:W5.ownsRow 0 88 8 (.slice (some ⟨g,0,none⟩) (j+1) wc) (j+1) ((ps.take j++[p.next]).map Sp.cells).flatten:=by rw[hW5,← HZi.out];exact HR5.out
   have hf5:P3.Fr (fun j=>j=s∨j=g) w W5:=by rw[hW5];exact HT.out.fr.trans ((fr_set wr g _ _).mono fun _ _ e=>.inr e)
   have ho5:W5.heap[s]?=some (.cells #[pgv b,.slice (some ⟨g,0,none⟩) n wc,.map (some mb)] 97 (0,0)):=by rw[hW5];exact P3.old_set HT.out.obj _ (fun e=>HGs.out e.symm) _
   obtain⟨_,hc5⟩:=row_cell (ps:=ps.take j++[p.next]) (i:=j) (p:=p.next) hr5 (by rw[List.getElem?_append_right (by rw[List.length_take];omega),List.length_take,Nat.min_eq_left (by have:=(List.getElem?_eq_some_iff.1 HP.out).1;omega),Nat.sub_self];rfl)
   have d6:=hc5 6 _ rfl
   have d7:=hc5 7 _ rfl
   have e6:p.next.vk=.slice ka kn kc:=HVk.out
   have e7:p.next.at_=(zi:Int):=HZi.out
   rw[e6] at d6
   rw[e7] at d7
   have HR5':=qh hr5
   have HF5:=qh hf5
   have HO5:=qh ho5
   have HC5:=qh hc5
   clear c6 c7 f7 o1 hw1 hW5 hr5 hf5 ho5 hc5 e6 e7
   by_cases hlt:zi < kn
   ·have k1:decide ((zi:Int) < (kn:Int))=true:=decide_eq_true (by omega)
    have k2:(zi:Int) < (kn:Int):=by omega
    have k3:(0:Int)≤(zi:Int):=by omega
    go_quiet (fail)
    obtain⟨W6,hW6⟩:∃ W,W=W5.drewN nq:=⟨_,rfl⟩
    have hb6:Below W5.heap.size W5 W6:=by rw[hW6];exact P3.below_drewN W5 _
    rw[← hW6]
    have HB6:=qh hb6
    have o6:=P3.old_below HO5.out hb6
    have HO6:=qh o6
    have q1:=cell_at o6 1
    have z1:=free_at o6 1
    simp only[qqD,qqE,qqF] at q1
    clear hW6 o6 hb6 d6 d7
    go_upto_region 8 with fail
    clear q1 z1
    obtain⟨W7,hW7⟩:∃ W,W=W6.setCell ⟨s,1,none⟩ (.slice (some ⟨g,0,none⟩) j1 wc):=⟨_,rfl⟩
    rw[← hW7]
    have ho7:W7.heap[s]?=some (.cells #[pgv b,.slice (some ⟨g,0,none⟩) j1 wc,.map (some mb)] 97 (0,0)):=by rw[hW7];exact set_at HO6.out 1 _
    have hf7:P3.Fr (fun j=>j=s∨j=g) w W7:=by rw[hW7];exact (HF5.out.trans (P3.Fr.of HB6.out)).trans ((fr_set W6 s _ _).mono fun _ _ e=>.inl e)
    have hlen7:(ps.take j++[p.next]).length=j1:=by rw[List.length_append,List.length_take,List.length_singleton,HJ1.out];have:=(List.getElem?_eq_some_iff.1 HP.out).1;omega
    have hr7:W7.ownsRow 0 88 8 (.slice (some ⟨g,0,none⟩) j1 wc) (ps.take j++[p.next]).length ((ps.take j++[p.next]).map Sp.cells).flatten:=by
     rw[hlen7,hW7,HJ1.out]
     exact owns_fr (owns_below HR5'.out HB6.out) (fr_set W6 s _ _) fun j hj e=>HGs.out (by rw[← e];exact Option.some.inj hj)
    obtain⟨hsk7,hft7⟩:=sk_new (ps':=ps.take j++[p.next]) (n:=n) (k:=0) HH.out hf7 ho7 hr7 fun p' hp'=>by
     rcases List.mem_append.1 hp' with h9|h9
     ·exact⟨p',List.mem_of_mem_take h9,rfl,rfl,rfl⟩
     ·rw[List.mem_singleton] at h9
      exact⟨p,List.mem_of_getElem? HP.out,by rw[h9];rfl,by rw[h9];rfl,by rw[h9];rfl⟩
    obtain⟨q,hq⟩:∃ q,p.kl[zi]?=some q:=⟨_,List.getElem?_eq_getElem (by have:=HKn.out;omega)⟩
    have hkd7:=HKd.out.keep hft7
    rw[HVk.out] at hkd7
    obtain⟨kb,ko,hka,hcc⟩:=hkd7.its.at_ hq
    subst hka
    have hpg:=(hcc _ (Below.refl _ _)).2
    obtain⟨_,hc7⟩:=row_cell (ps:=ps.take j++[p.next]) (i:=j) (p:=p.next) (lo:=0) (e:=88) (n:=j1) (cap:=wc) (g:=g) (w:=W7) (by rw[← hlen7];rw[hlen7];rw[hlen7] at hr7;exact hr7) (by rw[List.getElem?_append_right (by rw[List.length_take];omega),List.length_take,Nat.min_eq_left (by have:=(List.getElem?_eq_some_iff.1 HP.out).1;omega),Nat.sub_self];rfl)
    have d6:=hc7 6 _ rfl
    have d7:=hc7 7 _ rfl
    have e6:p.next.vk=.slice (some ⟨kb,ko,none⟩) kn kc:=HVk.out
    have e7:p.next.at_=(zi:Int):=HZi.out
    rw[e6] at d6
    rw[e7] at d7
    have htp:turnP ps=(ps.take j++[p.next],q.page):=by
     rw[HT.out.eq,show ps.take (j+1)=ps.take j++[p] by rw[List.take_add_one,HP.out];rfl,turnP_snoc,show (p.at_+1).toNat=zi by rw[HZi.out];rfl,hq]
    have HSk7:=qh hsk7
    have HFt7:=qh hft7
    have HF7:=qh hf7
    have HTp:=qh htp
    clear hW7 ho7 hf7 hlen7 hr7 hsk7 hft7 hq hkd7 hcc hc7 e6 e7 htp
    go_quiet (fail)
    all_goals
     go_wp2
     go_ret
     rw[HTp.out]
     exact⟨.slice (some ⟨g,0,none⟩) j1 wc,rfl,HSk7.out.below (P3.below_drewN W7 _),(HF7.out.trans (P3.Fr.of (P3.below_drewN W7 _))).mono fun j _ e=>e.imp id (fun e2=>by rw[e2];rfl),(fun j e=>e),HFt7.out.trans (FrT.of (P3.below_drewN W7 _))⟩
   ·have k1:decide ((zi:Int) < (kn:Int))=false:=decide_eq_false (by omega)
    have k2:¬ ((zi:Int) < (kn:Int)):=by omega
    go_quiet (fail)
    obtain⟨W6,hW6⟩:∃ W,W=W5.drewN nq:=⟨_,rfl⟩
    have hb6:Below W5.heap.size W5 W6:=by rw[hW6];exact P3.below_drewN W5 _
    rw[← hW6]
    have hTL:TrL w W6 x b s mb g wc ps sn n j:=by
     refine⟨P3.old_below HO5.out hb6,?_,HF5.out.trans (P3.Fr.of hb6),?_⟩
     ·have h9:=owns_below HR5'.out hb6
      rw[List.map_append,List.flatten_append] at h9
      refine row_cut h9 ?_ (Nat.le_succ j)
      rw[sp_len,List.length_take,Nat.min_eq_left (by have:=(List.getElem?_eq_some_iff.1 HP.out).1;omega)]
     ·rw[HT.out.eq,show ps.take (j+1)=ps.take j++[p] by rw[List.take_add_one,HP.out];rfl,turnP_snoc,show (p.at_+1).toNat=zi by rw[HZi.out];rfl,List.getElem?_eq_none (by have:=HKn.out;omega)]
    have HTL:=qh hTL
    clear hW6 hb6 hTL d6 d7
    rcases Nat.eq_zero_or_pos j with hj0|hj0
    ·subst hj0
     have w3:IntKind.i64.wrap (((0:Nat):Int) - 1)=-1:=by decide
     have w4:IntKind.i64.wrap ((0:Int) - 1)=-1:=by decide
     go_wp2
     go_roundw
     case rel=>exact⟨0,Nat.zero_le _,.inl ⟨rfl,by first|rfl|(go_num)⟩,HTL⟩
     case measure=>first|decide|simp[RowKit.intOf]
    ·obtain⟨j2,rfl⟩:∃ m,j=m+1:=⟨j - 1,by omega⟩
     have w3:IntKind.i64.wrap (((j2+1:Nat):Int) - 1)=(j2:Int):=by
      rw[IntKind.wrap_i64]
      omega
     go_wp2
     go_roundw
     case rel=>exact⟨j2+1,by omega,.inr ⟨j2,rfl,by first|rfl|(rw[w3])|go_num⟩,HTL⟩
     case measure=>simp[RowKit.intOf];omega
end Go.Proofs.YtjepgclnbbpnaaaGreat.P12
namespace Go.Proofs.YtjepgclnbbpnaaaGreat.P12
open Go Go.RowKit Go.Lib PK
open P11 (Pg)
open P9 (It kb kb_trans RightI lowK)
theorem turn_way{M:PM}{D:Nat}{root:Int}:∀ {fs:List Fr} {d:Nat} {id:Int} {la lb l:List It} {ia ib i:List Int} {ts:List Sp},Way M D root fs (d+1) id la lb ia ib→TreeAt M (d+1) id l i→Room fs l→All2 (StTw M) ts fs.reverse→
  (turnP ts=([],0)∧lb=[]∧ib=[])∨∃ f fu p ts' e lq iq lb2 ib2,turnP ts=(ts'++[p],f.k.page)∧All2 (StTw M) (ts'++[p]) (f::fu).reverse∧Way M D root (f::fu) (e+1) f.k.page (la++l) lb2 (ia++i) ib2∧TreeAt M (e+1) f.k.page lq iq∧Room (f::fu) lq∧lb=lq++lb2∧ib=iq++ib2
 | [],d,id,la,lb,l,ia,ib,i,ts,hw,ht,hr,ha=>by
  obtain⟨_,_,rfl,rfl,rfl,rfl⟩:=hw
  refine .inl ⟨?_,rfl,rfl⟩
  cases ts with
  | nil=>rfl
  | cons=>exact ha.elim
 | f :: fu,d,id,_,_,l,_,_,i,ts,hw0,ht,hr,ha=>by
  obtain⟨hk,htw,l1,i1,l2,i2,la,lb,ia,ib,h1,h2,h3,h4,hw,rfl,rfl,rfl,rfl⟩:=hw0
  rw[List.reverse_cons] at ha
  obtain⟨ts',p,rfl,ha1,ha2⟩:=ha.snoc
  have r:=Room.cons.1 hr
  have hkl:p.kl=f.kids:=by unfold Sp.kl;rw[ha2.1]
  have hat:(p.at_+1).toNat=f.a.length+1:=by rw[ha2.2.1];omega
  have hidx:f.kids[f.a.length+1]?=f.b[0]?:=by
   unfold Fr.kids
   rw[List.getElem?_append_right (by omega),show f.a.length+1 - f.a.length=0+1 by omega,List.getElem?_cons_succ]
  cases hfb:f.b with
  | nil=>
   rw[hfb] at h2
   obtain⟨rfl,rfl⟩:=h2
   have htp:turnP (ts'++[p])=turnP ts':=by rw[turnP_snoc,hkl,hat,hidx,hfb];rfl
   have H:TreeAt M (d+2) f.id (l1++l) (f.id::(i1++i)):=by
    refine⟨f.a++f.k::f.b,i1++i,htw,?_,rfl⟩
    refine Kids.app.2 ⟨l1,i1,l,i,h1,⟨l,i,[],[],by rw[hk];exact ht,r.1.1,r.1.2,by rw[hfb];exact⟨rfl,rfl⟩,by simp,by simp⟩,rfl,rfl⟩
   rcases turn_way (d:=d+1) hw H (Room.app.2 ⟨h3,r.2⟩) ha1 with ⟨g1,g2,g3⟩|⟨f',fu',p',ts2,e,lq,iq,lb2,ib2,g1,g2,g3,g4,g5,g6,g7⟩
   ·exact .inl ⟨by rw[htp,g1],by rw[g2];rfl,by rw[g3];rfl⟩
   ·refine .inr ⟨f',fu',p',ts2,e,lq,iq,lb2,ib2,by rw[htp,g1],g2,?_,g4,g5,by rw[g6];rfl,by rw[g7];rfl⟩
    have e1:la++l1++l=la++(l1++l):=List.append_assoc _ _ _
    have e2:ia++f.id::i1++i=ia++(f.id::(i1++i)):=by simp
    rw[e1,e2]
    exact g3
  | cons q b=>
   rw[hfb] at h2
   obtain⟨lq,iq,l3,i3,k1,k2,k3,k4,rfl,rfl⟩:=h2
   have htp:turnP (ts'++[p])=(ts'++[p.next],q.page):=by rw[turnP_snoc,hkl,hat,hidx,hfb];rfl
   have hkids:(f.a++[f.k])++q::b=f.a++f.k::f.b:=by rw[hfb];simp
   have r4:=Room.app.1 h4
   refine .inr ⟨⟨f.id,f.a++[f.k],q,b⟩,fu,p.next,ts',d,lq,iq,l3++lb,i3++ib,htp,?_,⟨rfl,?_,l1++l,i1++i,l3,i3,la,lb,ia,ib,?_,k4,Room.app.2 ⟨h3,r.2⟩,r4.2,hw,by simp,rfl,by simp,rfl⟩,k1,Room.cons.2 ⟨⟨k2,k3⟩,r4.1⟩,by simp,by simp⟩
   ·rw[List.reverse_cons]
    refine ha1.app ⟨⟨?_,?_,ha2.2.2.1,ha2.2.2.2⟩,trivial⟩
    ·show p.nd=.tw ((f.a++[f.k])++q::b)
     rw[hkids]
     exact ha2.1
    ·show p.at_+1=((f.a++[f.k]).length:Nat)
     rw[ha2.2.1,List.length_append,List.length_singleton]
     rfl
   ·show twigAt M f.id ((f.a++[f.k])++q::b)
    rw[hkids]
    exact htw
   ·have hu:=r.1.2
    rw[hfb] at hu
    exact Kids.app.2 ⟨l1,i1,l,i,h1,⟨l,i,[],[],by rw[hk];exact ht,r.1.1,hu,⟨rfl,rfl⟩,by simp,by simp⟩,rfl,rfl⟩
theorem Way.below{M:PM}{D e:Nat}{root q:Int}{f0:List Fr}{la0 lb0:List It}{ia0 ib0:List Int}{lq:List It}(h0:Way M D root f0 e q la0 lb0 ia0 ib0)(hr:Room f0 lq):∀ {fs:List Fr} {d:Nat} {id:Int} {la lb l:List It} {ia ib:List Int},Way M e q fs d id la lb ia ib→lq=la++l++lb→
  Way M D root (fs++f0) d id (la0++la) (lb++lb0) (ia0++ia) (ib++ib0)
 | [],d,id,la,lb,l,ia,ib,⟨h1,h2,h3,h4,h5,h6⟩,_=>by
  subst h1 h2 h3 h4 h5 h6
  simpa using h0
 | f::fs,d,id,_,_,l,_,_,⟨hk,htw,l1,i1,l2,i2,la,lb,ia,ib,h1,h2,h3,h4,hw,rfl,rfl,rfl,rfl⟩,e0=>by
  have hw':=Way.below h0 hr (l:=l1++l++l2) hw (by rw[e0];simp)
  have hr0:Room f0 (l1++l++l2):=by
   rw[show (la++l1)++l++(l2++lb)=la++(l1++l++l2)++lb by simp] at e0
   rw[e0] at hr
   exact (Room.app.1 (Room.app.1 hr).1).2
  have r1:=Room.app.1 hr0
  have r2:=Room.app.1 r1.1
  have rap:∀ {m:List It},Room fs m→Room f0 m→Room (fs++f0) m:=fun ha hb g hg=>(List.mem_append.1 hg).elim (ha g) (hb g)
  exact⟨hk,htw,l1,i1,l2,i2,la0++la,lb++lb0,ia0++ia,ib++ib0,h1,h2,rap h3 r2.1,rap h4 r1.2,hw',by simp,by simp,by simp,by simp⟩
theorem lows_zero{l:List It}(h:Lows l ⟨#[]⟩):l=[]:=by
 cases l with
 | nil=>rfl
 | cons x l=>
  have:=h x List.mem_cons_self
  rw[kb_zero] at this
  cases this
theorem Way.first{M:PM}{D:Nat}{root:Int}:∀ {fs:List Fr} {d:Nat} {id:Int} {lb:List It} {ia ib:List Int},Way M D root fs d id [] lb ia ib→ia=pathI fs
 | [],_,_,_,_,_,h=>h.2.2.2.2.1
 | f::fs,d,id,_,_,_,⟨hk,htw,l1,i1,l2,i2,la,lb,ia,ib,h1,h2,h3,h4,hw,e1,rfl,rfl,rfl⟩=>by
  have e2:=List.append_eq_nil_iff.1 e1.symm
  obtain⟨rfl,rfl⟩:=e2
  have hfa:i1=[]:=by
   cases hfa:f.a with
   | nil=>rw[hfa] at h1;exact h1.2
   | cons k a=>
    rw[hfa] at h1
    have:=h1.len (c:=1) fun _ _ _ g=>g.ne
    simp at this
  rw[hfa,Way.first hw]
  unfold pathI
  simp
structure Lf (M:PM) (D:Nat) (root:Int) (L:List It) (ids:List Int) (ps:List Sp) (sn:List Int) (fs:List Fr) (la l' lb:List It) (ia i' ib:List Int) (k:Nat):Prop where
 way:∃ id',Way M D root fs 1 id' la lb ia ib∧TreeAt M 1 id' l' i'
 room:Room fs l'
 lE:L=la++l'++lb
 iE:ids=ia++i'++ib
 st:∃ (ts:List Sp) (pl:Sp),ps=ts++[pl]∧All2 (StTw M) ts fs.reverse∧pl.nd=.lf l'∧pl.at_=(k:Int)
 kl:k≤l'.length
 snm:∀ x∈sn,x∈ia++i'
 snl:sn.length≤ia.length+i'.length
theorem Way.plen{M:PM}{D:Nat}{root:Int}:∀ {fs:List Fr} {d:Nat} {id:Int} {la lb:List It} {ia ib:List Int},Way M D root fs d id la lb ia ib→(pathI fs).length≤ia.length
 | [],_,_,_,_,_,_,_=>Nat.zero_le _
 | f::fs,d,id,_,_,_,_,⟨_,_,l1,i1,l2,i2,la,lb,ia,ib,_,_,_,_,hw,_,_,e,_⟩=>by
  have:=hw.plen
  rw[e]
  unfold pathI at this ⊢
  simp only[List.length_map,List.length_reverse,List.length_cons,List.length_append] at this ⊢
  omega
theorem Lf.start{M:PM}{d:Nat}{root:Int}{key:ByteArray}{L:List It}{ids:List Int}{ts:List Sp}{pl:Sp}{fs:List Fr}{id':Int}{l':List It}{i':List Int}(h:Down M (d+1) root key L ids ts pl fs id' l' i') :
  ∃ la lb ia ib,Lf M (d+1) root L ids (ts++[pl]) (pathI fs++[id']) fs la l' lb ia i' ib (lowK l' key)∧Lows la key∧Highs lb key∧(key=⟨#[]⟩→la=[]∧pathI fs++[id']=ia++i'):=by
 obtain⟨la,lb,ia,ib,hw,ht,hro,e1,e2,h1,h2⟩:=h.dn
 have hi:i'=[id']:=ht.2
 refine⟨la,lb,ia,ib,⟨⟨id',hw,ht⟩,hro,e1,e2,⟨ts,pl,rfl,h.tw,h.lf.1,h.lf.2.1⟩,P9.lowK_le _ _,fun x hx=>?_,by rw[hi,List.length_append];have:=hw.plen;simp only[List.length_singleton];omega⟩,h1,h2,fun hk=>?_⟩
 ·rcases List.mem_append.1 hx with hx|hx
  ·unfold pathI at hx
   obtain⟨f,hf,rfl⟩:=List.mem_map.1 hx
   exact List.mem_append_left _ (hw.path f (List.mem_reverse.1 hf))
  ·rw[hi]
   exact List.mem_append_right _ hx
 ·rw[hk] at h1
  have e:=lows_zero h1
  subst e
  exact⟨rfl,by rw[hw.first,hi]⟩
theorem Lf.next{M:PM}{D:Nat}{root:Int}{L:List It}{ids:List Int}{ps:List Sp}{sn:List Int}{fs:List Fr}{la l' lb:List It}{ia i' ib:List Int}{k:Nat}(h:Lf M D root L ids ps sn fs la l' lb ia i' ib k)(hn:ids.Nodup) :
  (turnP ps=([],0)∧lb=[]∧ib=[])∨∃ ps2 e z lq iq,turnP ps=(ps2,z)∧TreeAt M (e+1) z lq iq∧e+1+ps2.length=D∧iq.Nodup∧(∀ j∈iq,j∉sn)∧
   ∀ {ts:List Sp} {pl:Sp} {f2:List Fr} {id2:Int} {l2:List It} {i2:List Int},Down M (e+1) z ⟨#[]⟩ lq iq ts pl f2 id2 l2 i2→
    ∃ fs3 lb3 ib3 ia3,Lf M D root L ids (ps2++ts++[pl]) (sn++pathI f2++[id2]) fs3 (la++l') l2 lb3 ia3 i2 ib3 0∧lb=l2++lb3∧(sn=ia++i'→sn++pathI f2++[id2]=ia3++i2):=by
 obtain⟨id',hw,ht⟩:=h.way
 obtain⟨ts0,pl0,rfl,ha,hnd,hat⟩:=h.st
 have htp:turnP (ts0++[pl0])=turnP ts0:=by
  rw[turnP_snoc]
  unfold Sp.kl
  rw[hnd]
  rfl
 rw[htp]
 have hne:=h.iE
 rcases turn_way (d:=0) hw ht h.room ha with ⟨g1,g2,g3⟩|⟨f,fu,p,ts',e,lq,iq,lb2,ib2,g1,g2,g3,g4,g5,g6,g7⟩
 ·exact .inl ⟨g1,g2,g3⟩
 ·rw [hne,g7] at hn
  obtain⟨n1,n2,n3⟩:=List.nodup_append.1 hn
  refine .inr ⟨ts'++[p],e,f.k.page,lq,iq,g1,g4,?_,(List.nodup_append.1 n2).1,fun j hj hs=>n3 j (h.snm j hs) j (List.mem_append_left _ hj) rfl,fun {ts pl f2 id2 l2 i2} hd=>?_⟩
  ·have h1:=g3.len
   have h2:=g2.len
   rw[List.length_reverse] at h2
   omega
  ·obtain⟨la2,lb4,ia2,ib4,w1,w2,w3,w4,w5,w6,w7⟩:=hd.dn
   have e0:=lows_zero w6
   subst e0
   have hi2:i2=[id2]:=w2.2
   have hia:=w1.first
   have hl0:lowK l2 ⟨#[]⟩=0:=by
    cases l2 with
    | nil=>rfl
    | cons x l2=>rw[P9.lowK_cons,if_neg (by rw[kb_zero];simp)]
   have hroom:Room (f2++f::fu) l2:=fun g hg=>by
    rcases List.mem_append.1 hg with hg|hg
    ·exact w3 g hg
    ·rw[w4] at g5
     exact (Room.app.1 (Room.app.1 g5).1).2 g hg
   have hway:=Way.below g3 g5 w1 w4
   rw[List.append_nil] at hway
   refine⟨f2++f::fu,lb4++lb2,ib4++ib2,ia++i'++ia2,⟨⟨id2,hway,w2⟩,hroom,?_,?_,⟨ts'++[p]++ts,pl,by simp,?_,hd.lf.1,?_⟩,Nat.zero_le _,?_,by rw[hi2,hia];have:=h.snl;simp only[List.length_append,List.length_singleton];omega⟩,?_,fun hsn=>?_⟩
   ·rw[h.lE,g6,w4]
    simp
   ·rw[hne,g7,w5]
    simp
   ·rw[List.reverse_append]
    exact g2.app hd.tw
   ·rw[hd.lf.2.1,hl0]
   ·intro x hx
    rw[List.append_assoc] at hx
    rcases List.mem_append.1 hx with hx|hx
    ·exact List.mem_append_left _ (List.mem_append_left _ (h.snm x hx))
    ·rw[← hia,← hi2] at hx
     rcases List.mem_append.1 hx with hx|hx
     ·exact List.mem_append_left _ (List.mem_append_right _ hx)
     ·exact List.mem_append_right _ hx
   ·rw[g6,w4]
    simp
   ·rw[hsn,hia,hi2]
theorem has_least{R:Nat→Prop}(n:Nat):R n→∃ m,R m∧∀ k,R k→m≤k:=by
 induction n using Nat.strongRecOn with
 | ind n ih=>
  intro h
  by_cases c:∃ m,m < n∧R m
  ·obtain⟨m,hm,hr⟩:=c
   exact ih m hm hr
  ·exact⟨n,h,fun k hk=>Nat.le_of_not_lt fun hlt=>c ⟨k,hlt,hk⟩⟩
open Classical in
noncomputable def leastN(R:Nat→Prop):Nat:=if h:∃ m,R m∧∀ k,R k→m≤k then Classical.choose h else 0
theorem leastN_spec{R:Nat→Prop}{n:Nat}(h:R n):R (leastN R)∧leastN R≤n:=by
 have h1:=has_least n h
 unfold leastN
 rw[dif_pos h1]
 exact⟨(Classical.choose_spec h1).1,(Classical.choose_spec h1).2 n h⟩
structure Sg where
 ps:List Sp
 sn:List Int
 fs:List Fr
 la:List It
 l':List It
 lb:List It
 ia:List Int
 i':List Int
 ib:List Int
 k:Nat
abbrev Sg.ok(g:Sg)(M:PM)(D:Nat)(root:Int)(L:List It)(ids:List Int):Prop:=Lf M D root L ids g.ps g.sn g.fs g.la g.l' g.lb g.ia g.i' g.ib g.k
structure SeeP (M:PM) (D:Nat) (root:Int) (L:List It) (ids:List Int) (w0:World) (b s mb:Nat) (P P2:World→Option Nat→Sg→Prop) (Q:World→List Int→Prop):Prop where
 stop:∀ (W w2:World) (x:Option Nat) (g:Sg) (vw:Value),P2 W x g→SkAt W x b s mb vw g.ps g.sn→g.ok M D root L ids→g.lb=[]→g.ib=[]→Below w0.heap.size w0 w2→P3.Fr (SS s mb vw) W w2→(∀ j,SS s mb vw j→w0.heap.size≤j)→FrT x W w2→Q w2 g.sn
 next:∀ (W w2:World) (x:Option Nat) (g g2:Sg) (vw:Value),P2 W x g→SkAt W x b s mb vw g.ps g.sn→g.ok M D root L ids→g2.ok M D root L ids→g2.la=g.la++g.l'→g.lb=g2.l'++g2.lb→g2.k=0→(g.sn=g.ia++g.i'→g2.sn=g2.ia++g2.i')→Below w0.heap.size w0 w2→P3.Fr (SS s mb vw) W w2→(∀ j,SS s mb vw j→w0.heap.size≤j)→FrT x W w2→P w2 x g2
inductive LvR (M:PM) (D:Nat) (root:Int) (L:List It) (ids:List Int) (w0:World) (b s mb:Nat) (P:World→Option Nat→Sg→Prop) (Q:World→List Int→Prop) (wr:World):Nat→Prop where
 | at_ {x:Option Nat} {vw:Value} {g:Sg} (hb:Below w0.heap.size w0 wr) (hs:SkAt wr x b s mb vw g.ps g.sn) (hn:∀ j,SS s mb vw j→w0.heap.size≤j) (hg:g.ok M D root L ids) (hp:P wr x g):LvR M D root L ids w0 b s mb P Q wr (g.lb.length+1)
 | end_ {x:Option Nat} {vw:Value} {sn:List Int} (hb:Below w0.heap.size w0 wr) (hs:SkAt wr x b s mb vw [] sn) (hq:Q wr sn):LvR M D root L ids w0 b s mb P Q wr 0
theorem Lf.bounds{M:PM}{D:Nat}{root:Int}{L:List It}{ids:List Int}{ps:List Sp}{sn:List Int}{fs:List Fr}{la l' lb:List It}{ia i' ib:List Int}{k:Nat}(h:Lf M D root L ids ps sn fs la l' lb ia i' ib k):0 < ps.length∧ps.length=D∧(∀ p∈ps,0≤p.at_∧p.at_≤100000∧p.nd.len≤1000)∧l'.length≤231∧0 < l'.length:=by
 obtain⟨id',hw,ht⟩:=h.way
 obtain⟨ts,pl,rfl,ha,hnd,hat⟩:=h.st
 have hl:=ha.len
 rw[List.length_reverse] at hl
 have hwl:=hw.len
 have hkl:=h.kl
 obtain⟨tx,_,h1,h2,h3⟩:=ht.1
 have h4:=P9.sumI_len l'
 refine⟨by simp,by rw[List.length_append,List.length_singleton];omega,fun p hp=>?_,by omega,h3⟩
 rcases List.mem_append.1 hp with hp|hp
 ·obtain⟨i,hi,e⟩:=List.mem_iff_getElem.1 hp
  have hi2:i < fs.reverse.length:=by rw[List.length_reverse];omega
  have hst:=ha.at_ (i:=i) (a:=p) (b:=fs.reverse[i]) (by rw[List.getElem?_eq_getElem hi,e]) (List.getElem?_eq_getElem hi2)
  have htw:=hw.pages _ (List.mem_reverse.1 (List.getElem_mem hi2))
  obtain⟨t1,t2,_⟩:=twig_ok htw
  rw[hst.1,hst.2.1]
  have h9:(fs.reverse[i]).kids.length=(fs.reverse[i]).a.length+((fs.reverse[i]).b.length+1):=by
   unfold Fr.kids
   rw[List.length_append,List.length_cons]
  refine⟨by omega,by omega,?_⟩
  show (fs.reverse[i]).kids.length≤1000
  omega
 ·rw[List.mem_singleton] at hp
  subst hp
  rw[hnd,hat]
  refine⟨by omega,by omega,?_⟩
  show l'.length≤1000
  omega
end Go.Proofs.YtjepgclnbbpnaaaGreat.P12
