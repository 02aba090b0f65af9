/-
  Texts of the proofs of SaidOrd12.
-/
import Derived.Test.YtjepgclnbbpnaaaGreatMs15
set_option linter.unusedVariables false
set_option linter.unusedSimpArgs false
set_option maxHeartbeats 8000000
set_option maxRecDepth 100000
namespace Go.Proofs.YtjepgclnbbpnaaaGreat.P12
open PK (qqA qqB qqC qqD qqE qqF tk tkS dOne qh)
open Go Go.RowKit Go.Lib PK
open P9 (It kb)
structure DnS (w wr:World) (x:Option Nat) (b s mb:Nat) (vw vw':Value) (ps':List Sp) (sn':List Int):Prop where
 sk:SkAt wr x b s mb vw' ps' sn'
 fr:P3.Fr (SS s mb vw) w wr
 new:∀ j,vw'.ownBlock=some j→vw.ownBlock=some j∨w.heap.size≤j
theorem DnS.sub{w wr:World}{x:Option Nat}{b s mb:Nat}{vw vw':Value}{ps':List Sp}{sn':List Int}(h:DnS w wr x b s mb vw vw' ps' sn'){j:Nat}(hj:SS s mb vw' j):SS s mb vw j∨w.heap.size≤j:=by
 rcases hj with h1|h1|h1
 ·exact .inl (.inl h1)
 ·rcases h.new j h1 with h2|h2
  ·exact .inl (.inr (.inl h2))
  ·exact .inr h2
 ·exact .inl (.inr (.inr h1))
theorem frThen{S S':Nat→Prop}{a w w':World}(h:P3.Fr S a w)(k:P3.Fr S' w w')(hs:∀ j,j < a.heap.size→S' j→S j):P3.Fr S a w':=
 ⟨k.os.trans h.os,k.tape.trans h.tape,k.output.trans h.output,Nat.le_trans h.size k.size,fun i hi hb=>(k.block i (Nat.lt_of_lt_of_le hi h.size) fun e=>hb (hs i hi e)).trans (h.block i hi hb)⟩
theorem DnS.over{w wr w2:World}{x:Option Nat}{b s mb:Nat}{vw vw' vw2:Value}{ps' ps2:List Sp}{sn' sn2:List Int}(h:DnS w wr x b s mb vw vw' ps' sn')(k:SkAt w2 x b s mb vw2 ps2 sn2)(f:P3.Fr (SS s mb vw') wr w2)
  (hn:∀ j,vw2.ownBlock=some j→vw'.ownBlock=some j∨wr.heap.size≤j):DnS w w2 x b s mb vw vw2 ps2 sn2:=by
 refine⟨k,frThen h.fr f fun j hj hs=>?_,fun j hj=>?_⟩
 ·rcases h.sub hs with h1|h1
  ·exact h1
  ·omega
 ·rcases hn j hj with h1|h1
  ·exact h.new j h1
  ·exact .inr (Nat.le_trans h.fr.size h1)
theorem DnS.pages{w wr:World}{x:Option Nat}{b s mb:Nat}{vw vw':Value}{ps ps':List Sp}{sn sn':List Int}{vl vg:Value}{M:PM}(h:DnS w wr x b s mb vw vw' ps' sn')(k:SkAt w x b s mb vw ps sn)(p:PAt w b vl vg M):PAt wr b vl vg M:=
 p.fr h.fr fun _ hj e=>k.apart p e hj
def wayLen(w:World)(s:Nat):Nat:=match w.cell? ⟨s,1,none⟩ with
 | some (.slice _ n _)=>n
 | _=>0
theorem DnS.len{w wr:World}{x:Option Nat}{b s mb:Nat}{vw vw':Value}{ps':List Sp}{sn':List Int}(h:DnS w wr x b s mb vw vw' ps' sn'):wayLen wr s=ps'.length:=by
 obtain⟨a,c,e⟩:=h.sk.slice
 have:=cell_at h.sk.obj 1
 simp only[qqD,qqE,qqF] at this
 unfold wayLen
 rw[this,e]
theorem set_box{W:World}{x:Option Nat}{b s mb:Nat}{vw:Value}{ps:List Sp}{sn:List Int}(h:SkAt W x b s mb vw ps sn){nb:Nat}{cs:Array Value}(hn:W.heap[nb]?=some (.cells cs 88 (0,0)))(hs:∀ j,SS s mb vw j→j≠nb)(u:Value) :
  SkAt (W.setCell ⟨nb,7,none⟩ u) x b s mb vw ps sn∧FrT x W (W.setCell ⟨nb,7,none⟩ u):=by
 have ft:FrT x W (W.setCell ⟨nb,7,none⟩ u):=FrT.ofFr (fr_set W nb 7 u) fun k cs' t hk hst e=>by
  rw[hk,hn] at e
  cases e
  rcases hst.1 with h9|h9 <;> cases h9
 exact⟨h.fr (fr_set W nb 7 u) ft hs,ft⟩
theorem down_any(w:World)(x:Option Nat)(b:Nat)(vl vg:Value)(M:PM)(s mb:Nat)(vw:Value)(ps:List Sp)(sn:List Int)(h:PAt w b vl vg M)(hs:SkAt w x b s mb vw ps sn)(hl:M.L.length≤100000)
  (d:Nat) (id:Int) (key:ByteArray) (l:List It) (i:List Int) (ht:TreeAt M d id l i) (hd:d+ps.length≤12) (hi:i.Nodup) (hsn:∀ j∈i,j∉sn) (hlen:sn.length≤90000) (hx:∀ k,x=some k→k < w.heap.size) :
  Calls Tryz.prog 53 #[.pointer (some ⟨s,0,none⟩),.int .i64 id,.string key] w fun e w'=>∃ vw' ts pl fs id' l' i',e=.returned (.int .i64 0)∧DnS w w' x b s mb vw vw' (ps++ts++[pl]) (sn++pathI fs++[id'])∧Down M d id key l i ts pl fs id' l' i':=by
 obtain⟨i0,hi0,hz0,hz1,hz2⟩:=info_parts infoEStep
 have HP:=qh h
 have HK:=qh hs
 obtain⟨d,rfl⟩:∃ e,d=e+1:=⟨d - 1,by have:=ht.pos;omega⟩
 have HG0:=qh (Going.start key ht)
 have HNd:=qh hi
 have HSn:=qh hsn
 have HX:=qh hx
 have hid:∀ e (id':Int) (l':List It) (i':List Int),TreeAt M e id' l' i'→2≤id'∧id'≤1000000:=fun e id' l' i' ht'=>by
  have:(M.get id').2=0:=by
   obtain _|_|e:=e
   ·exact ht'.elim
   ·obtain⟨tx,hg,_⟩:=ht'.1
    rw[hg]
   ·obtain⟨ks,i,⟨tx,hg,_⟩,_⟩:=ht'
    rw[hg]
  have:=PM.get_in this
  omega
 have HId:=qh hid
 clear h hs ht hi hsn hx hid
 go_enter Tryz.func53,Tryz.ntmps53
 go_wp2
 go_loopw [1] (fun vi wr=>∃ (vw':Value) (ts:List Sp) (fs:List Fr) (id':Int) (l':List It) (i':List Int),(∃ e,vi=.int .i64 id'∧Hid (DnS w wr x b s mb vw vw' (ps++ts) (sn++pathI fs))∧Hid (Going M (d+1) id key l i ts fs e id' l' i'))∨
  (vi=.int .i64 0∧∃ pl,Hid (DnS w wr x b s mb vw vw' (ps++ts++[pl]) (sn++pathI fs++[id']))∧Hid (Down M (d+1) id key l i ts pl fs id' l' i'))) (fun _ wr=>13 - wayLen wr s)
 case atStart=>
  exact⟨vw,[],[],id,l,i,.inl ⟨d,rfl,by simpa [pathI] using qh (show DnS w w x b s mb vw vw ps sn from⟨HK.out,P3.Fr.refl _ _,fun j hj=>.inl hj⟩),HG0⟩⟩
 case round=>
  clear HG0
  obtain⟨vw',ts,fs,id',l',i',⟨e,rfl,HS,HGo⟩|⟨rfl,pl,HS,HDw⟩⟩:=hrel
  ·obtain⟨va,vc,rfl⟩:=HS.out.sk.slice
   have hlen2:=HGo.out.len
   have hidr:=HId.out _ _ _ _ HGo.out.dn.tree
   have k0:(id' == 0)=false:=beq_false_of_ne (by omega)
   have hwl:=HS.out.len
   obtain⟨N,hN⟩:∃ N,N=(ps++ts).length:=⟨_,rfl⟩
   have hN2:N < 12:=by rw[hN,List.length_append];omega
   rw[← hN] at hwl HS
   have HN:=qh hN
   have HW:=qh hwl
   have k1:((N:Int) == 12)=false:=beq_false_of_ne (by omega)
   obtain⟨hmem,hpath⟩:=HGo.out.dn.fresh HNd.out
   have hnot:id'∉sn++pathI fs:=by
    intro hm
    rcases List.mem_append.1 hm with hm|hm
    ·exact HSn.out _ hmem hm
    ·unfold pathI at hm
     obtain⟨f,hf,e2⟩:=List.mem_map.1 hm
     exact hpath f (List.mem_reverse.1 hf) e2
   have hsl:(sn++pathI fs).length≤100000:=by
    rw[List.length_append,pathI,List.length_map,List.length_reverse]
    have:=HGo.out.tw.len
    rw[List.length_reverse] at this
    omega
   have HPr:=qh (HS.out.pages HK.out HP.out)
   have HXr:Hid (∀ k,x=some k→k < wr.heap.size):=fun k hk=>Nat.lt_of_lt_of_le (HX.out k hk) HS.out.fr.size
   have o1:=cell_at HS.out.sk.obj 1
   simp only[qqD,qqE,qqF] at o1
   clear hN hwl hmem hpath hlen2
   obtain _|e:=e
   ·have hlf:ndAt M id' (.lf l'):=HGo.out.dn.tree.1
    obtain⟨tx,hg,hgood⟩:=hlf
    have HRd:=qh (skRead_any wr x b vl vg M s mb _ (ps++ts) (sn++pathI fs) HPr.out HS.out.sk hl id' (.lf l') tx hg hgood hnot hsl HXr.out)
    have HGet:=qh hg
    have HGood:=qh hgood
    unfold Sp.v at HRd
    simp only[Nd.kind] at HRd
    clear hg hgood hnot hsl
    go_upto_region 5 with (go_at_call 67;(with_reducible refine HRd.out.mono ?_);rintro e w2 ⟨vi,vk,rfl,h1,h2,h3⟩;obtain⟨h1a,h1b⟩:=h1;subst h1b;obtain⟨a,c,e9⟩:=h1a.its.slice;subst e9;have H1:=qh h1a;have H2:=qh h2;have H3:=qh h3;clear h1a h2 h3)
    obtain⟨Ln,hLn⟩:∃ n,n=l'.length:=⟨_,rfl⟩
    rw[← hLn] at H1 ⊢
    have HLn:=qh hLn
    clear hLn
    obtain⟨W3,hW3⟩:∃ W3,W3=w2.alloc (.cells #[.int .i64 3,.int .i64 id',.int .i64 tx,.string (Nd.body (.lf l')),.int .i64 3,.slice a Ln c,.slice none 0 0,.int .i64 0] 88):=⟨_,rfl⟩
    obtain⟨nb,hnb⟩:∃ nb,nb=w2.heap.size:=⟨_,rfl⟩
    have hE3:W3.heap[nb]?=some (.cells #[.int .i64 3,.int .i64 id',.int .i64 tx,.string (Nd.body (.lf l')),.int .i64 3,.slice a Ln c,.slice none 0 0,.int .i64 0] 88 (0,0)):=by rw[hW3,hnb];exact new_at _ _ _
    have b3:Below w2.heap.size w2 W3:=by rw[hW3];exact below_new _ _
    rw[← hW3,← hnb]
    have HNb:=qh hnb
    clear hW3 hnb
    have e4:=cell_at hE3 4
    have e5:=cell_at hE3 5
    simp only[qqD,qqE,qqF] at e4 e5
    have HE3:=qh hE3
    have B3:=qh b3
    have HF:=qh (P9.find_any W3 _ l' key ((H1.out.keep (FrT.of b3)).its) (by have:=HGood.out.sum;have:=(Nd.lf l').len_sum;have e9:(Nd.lf l').len=l'.length:=rfl;omega) HGood.out.1)
    obtain⟨Lk,hLk⟩:∃ k,k=P9.lowK l' key:=⟨_,rfl⟩
    rw[← hLk] at HF
    have HLk:=qh hLk
    clear hE3 b3 hLk
    go_upto_region 12 with (go_at_call 66;(with_reducible refine HF.out.mono ?_);rintro e w4 ⟨rfl,hb4⟩;have B4:=qh hb4;have hE4:=P3.old_below HE3.out hb4;have e7:=cell_at hE4 7;have f7:=free_at hE4 7;simp only[qqD,qqE,qqF] at e7;clear hb4 hE4)
    have hs4:=(H2.out.below B3.out).below B4.out
    have hne4:∀ j,SS s mb (.slice va N vc) j→j≠nb:=fun j hj e9=>by
     have:=H2.out.lt hj
     have:=HNb.out
     omega
    obtain⟨hs5,ft5⟩:=set_box hs4 (P3.old_below HE3.out B4.out) hne4 (.int .i64 (Lk:Nat))
    have hnd5:=((H1.out.keep (FrT.of B3.out)).keep (FrT.of B4.out)).keep ft5
    have hE5:(w4.setCell ⟨nb,7,none⟩ (.int .i64 (Lk:Nat))).heap[nb]?=some (.cells #[.int .i64 3,.int .i64 id',.int .i64 tx,.string (Nd.body (.lf l')),.int .i64 3,.slice a Ln c,.slice none 0 0,.int .i64 (Lk:Nat)] 88 (0,0)):=by
     rw[set_at (P3.old_below HE3.out B4.out) 7]
     rfl
    have fr5:P3.Fr (SS s mb (.slice va N vc)) wr (w4.setCell ⟨nb,7,none⟩ (.int .i64 (Lk:Nat))):=by
     refine frThen (frThen (H3.out.mono fun k _ hk=>.inr (.inr hk)) (P3.Fr.of (S:=fun _=>False) (thenBelow B3.out B4.out)) fun _ _ f=>f.elim) (fr_set w4 nb 7 _) fun j hj e9=>?_
     have:=HNb.out
     have:=H3.out.size
     omega
    obtain⟨W5,hW5⟩:∃ W5,W5=w4.setCell ⟨nb,7,none⟩ (.int .i64 (Lk:Nat)):=⟨_,rfl⟩
    rw[← hW5] at hs5 hnd5 hE5 fr5 ⊢
    have HS5:=qh hs5
    have HND5:=qh hnd5
    have HelW:=qh hE5
    have FR5:=qh fr5
    have HobW:=qh hs5.obj
    have HNe5:=qh hne4
    have hoe:s≠nb:=hne4 s (.inl rfl)
    have HneO:Hid ((Value.slice va N vc).ownBlock≠some s):=fun e9=>hs5.row_s e9 rfl
    have HneE:Hid ((Value.slice va N vc).ownBlock≠some nb):=fun e9=>hne4 nb (.inr (.inl e9)) rfl
    have hrw5:=hs5.row
    rw[← HN.out] at hrw5
    have HRowW:=qh hrw5
    clear hW5 hs4 hne4 hs5 ft5 hnd5 hE5 fr5 hrw5 e4 e5 e7 f7 o1
    have hel0:=HelW.out
    have hob0:=HobW.out
    have eWd:W5.drew.heap[nb]?=some (.cells #[.int .i64 3,.int .i64 id',.int .i64 tx,.string (Nd.body (.lf l')),.int .i64 3,.slice a Ln c,.slice none 0 0,.int .i64 (Lk:Nat)] 88 (0,0)):=hel0
    have oWd:W5.drew.heap[s]?=some (.cells #[pgv b,.slice va N vc,.map (some mb)] 97 (0,0)):=hob0
    have eWn:(W5.drew.alloc (.cells #[.int .i64 3,.int .i64 id',.int .i64 tx,.string (Nd.body (.lf l')),.int .i64 3,.slice a Ln c,.slice none 0 0,.int .i64 (Lk:Nat)] 88)).heap[nb]?=some (.cells #[.int .i64 3,.int .i64 id',.int .i64 tx,.string (Nd.body (.lf l')),.int .i64 3,.slice a Ln c,.slice none 0 0,.int .i64 (Lk:Nat)] 88 (0,0)):=P3.old_alloc eWd _
    have oWn:(W5.drew.alloc (.cells #[.int .i64 3,.int .i64 id',.int .i64 tx,.string (Nd.body (.lf l')),.int .i64 3,.slice a Ln c,.slice none 0 0,.int .i64 (Lk:Nat)] 88)).heap[s]?=some (.cells #[pgv b,.slice va N vc,.map (some mb)] 97 (0,0)):=P3.old_alloc oWd _
    have HeWn:=qh eWn
    have HoWn:=qh oWn
    have HeWd:=qh eWd
    have cA1:=cell_at oWd 1
    have cA2:=cell_at oWn 1
    have cA3:=cell_at (P3.old_alloc hob0 (.cells #[.int .i64 3,.int .i64 id',.int .i64 tx,.string (Nd.body (.lf l')),.int .i64 3,.slice a Ln c,.slice none 0 0,.int .i64 (Lk:Nat)] 88)) 1
    simp only[qqD,qqE,qqF] at cA1 cA2 cA3
    clear hel0 hob0 eWd oWd eWn oWn
    refine wp_region_held_drew (S:=(fun W'=>W'.cell? ⟨nb,0,none⟩=some (.int .i64 3)∧W'.cell? ⟨nb,1,none⟩=some (.int .i64 id')∧W'.cell? ⟨nb,2,none⟩=some (.int .i64 tx)∧W'.cell? ⟨nb,3,none⟩=some (.string (Nd.body (.lf l')))∧W'.cell? ⟨nb,4,none⟩=some (.int .i64 3)∧W'.cell? ⟨nb,5,none⟩=some (.slice a Ln c)∧W'.cell? ⟨nb,6,none⟩=some (.slice none 0 0)∧W'.cell? ⟨nb,7,none⟩=some (.int .i64 (Lk:Nat)))) (by kernel_rfl) ⟨cell_at HeWd.out 0,cell_at HeWd.out 1,cell_at HeWd.out 2,cell_at HeWd.out 3,cell_at HeWd.out 4,cell_at HeWd.out 5,cell_at HeWd.out 6,cell_at HeWd.out 7⟩ (fun hHeld=>?_)
    refine tk 0 ?_
    refine tk 1 ?_
    refine tk 2 ?_
    refine tk 3 ?_
    refine tk 5 ?_
    refine do_two 4 6 rfl rfl (by kernel_rfl) (by rfl) (by rfl) (fun K hK=>?_) (fun K hK=>?_)
    ·go_simp
     refine hK.out _ _ ⟨cell_at HeWd.out 0,cell_at HeWd.out 1,cell_at HeWd.out 2,cell_at HeWd.out 3,cell_at HeWd.out 4,cell_at HeWd.out 5,cell_at HeWd.out 6,cell_at HeWd.out 7⟩ (fun hHeld=>?_)
     clear hK K
     try simp only[Act.put,qqA,qqB,qqC]
     refine dOne 6 fun K hK=>?_
     go_simp
     refine hK.out _ _ ⟨cell_at HeWn.out 0,cell_at HeWn.out 1,cell_at HeWn.out 2,cell_at HeWn.out 3,cell_at HeWn.out 4,cell_at HeWn.out 5,cell_at HeWn.out 6,cell_at HeWn.out 7⟩ (fun hHeld=>?_)
     clear hK K
     try simp only[Act.put,qqA,qqB,qqC]
     refine dOne 7 fun K hK=>?_
     refine wp_app (.tmp 57) (.tmp 59) 84 rfl 0 88 i0 (Value.agg #[.int .i64 0,.int .i64 0,.int .i64 0,.string ⟨#[]⟩,.int .i64 0,.slice none 0 0,.slice none 0 0,.int .i64 0]) 8 104 Tryz.underlying84 hi0 hz0 hz1 hz2 rfl (by decide) (.slice va N vc) N ((ps++ts).map Sp.cells).flatten (by first|rfl|simp[Act.eval,Act.put]) (owns_below HRowW.out ((Below.refl _ _).drew.alloc (Nat.le_refl _) _)) (some ⟨W5.drew.heap.size,0,none⟩) 1 1 [.int .i64 3,.int .i64 id',.int .i64 tx,.string (Nd.body (.lf l')),.int .i64 3,.slice a Ln c,.slice none 0 0,.int .i64 (Lk:Nat)] (by first|rfl|simp[Act.eval,Act.put]) rfl (by intro X hX j u hu;cases hX;exact cells_new W5.drew [.int .i64 3,.int .i64 id',.int .i64 tx,.string (Nd.body (.lf l')),.int .i64 3,.slice a Ln c,.slice none 0 0,.int .i64 (Lk:Nat)] 88 j u hu) (fun e=>by cases e) (by intro u hu;simp only[List.mem_cons,List.not_mem_nil,or_false] at hu;first|(rcases hu with rfl|rfl|rfl|rfl|rfl|rfl|rfl|rfl <;> rfl)|(rcases hu with rfl|rfl|rfl|rfl <;> rfl)|(rcases hu with rfl|rfl <;> rfl)|(cases hu;rfl)) (by unfold maxLen;omega) (by omega) (by simp) ?_
     intro p1 s1 w2 hown2 hgrow2 hat2
     have HAD:Hid (AppD W5 w2 0 88 8 (.slice va N vc) (.slice p1 (N+1:Nat) s1) N ((ps++ts).map Sp.cells).flatten [.int .i64 3,.int .i64 id',.int .i64 tx,.string (Nd.body (.lf l')),.int .i64 3,.slice a Ln c,.slice none 0 0,.int .i64 (Lk:Nat)]):=⟨hown2,hgrow2,hat2⟩
     have e2:w2.heap[nb]?=some (.cells #[.int .i64 3,.int .i64 id',.int .i64 tx,.string (Nd.body (.lf l')),.int .i64 3,.slice a Ln c,.slice none 0 0,.int .i64 (Lk:Nat)] 88 (0,0)):=(hgrow2.block _ (lt_of_block HeWn.out) (fun e=>HneE.out e.symm)).trans HeWn.out
     have o2:w2.heap[s]?=some (.cells #[pgv b,.slice va N vc,.map (some mb)] 97 (0,0)):=(hgrow2.block _ (lt_of_block HoWn.out) (fun e=>HneO.out e.symm)).trans HoWn.out
     have He2:=qh e2
     have Ho2:=qh o2
     clear hown2 hgrow2 hat2 e2 o2
     refine hK.out _ _ ⟨cell_at He2.out 0,cell_at He2.out 1,cell_at He2.out 2,cell_at He2.out 3,cell_at He2.out 4,cell_at He2.out 5,cell_at He2.out 6,cell_at He2.out 7⟩ (fun hHeld=>?_)
     clear hK K
     try simp only[Act.put,qqA,qqB,qqC]
     refine tk 8 ?_
     refine tk 9 ?_
     refine dOne 10 fun K hK=>?_
     have q0:=cell_at Ho2.out 1
     simp only[qqD,qqE,qqF] at q0
     have q1:=free_at Ho2.out 1
     go_simp
     have e3:=P3.old_set He2.out (⟨s,1,none⟩:Addr) (Ne.symm hoe) (.slice p1 (N+1) s1)
     have He3:=qh e3
     clear e3
     refine hK.out _ _ ⟨cell_at He3.out 0,cell_at He3.out 1,cell_at He3.out 2,cell_at He3.out 3,cell_at He3.out 4,cell_at He3.out 5,cell_at He3.out 6,cell_at He3.out 7⟩ (fun hHeld=>?_)
     clear hK K
     try simp only[Act.put,qqA,qqB,qqC]
     refine wpAnyH_done (by kernel_rfl) ?_ _
     clear q0 q1 cA1 cA2 cA3 hHeld
     have hpush:=HS5.out.push (Sp.mk ⟨3,id',tx,(Nd.body (.lf l'))⟩ (.lf l') (.slice a Ln c) (.slice none 0 0) (Lk:Nat)) (by exact⟨HND5.out,rfl⟩) (by rw[← HN.out];exact HAD.out)
     obtain⟨hk6,fr6,_⟩:=hpush
     have hdn:DnS w _ x b s mb vw (.slice p1 (N+1:Nat) s1) (ps++ts++[(Sp.mk ⟨3,id',tx,(Nd.body (.lf l'))⟩ (.lf l') (.slice a Ln c) (.slice none 0 0) (Lk:Nat))]) (sn++pathI fs++[id']):=HS.out.over hk6 (frThen FR5.out fr6 fun _ _ f=>f) (fun j hj=>(HAD.out.new hj).imp (fun h9=>h9) fun h9=>Nat.le_trans FR5.out.size h9)
     have HDn:=qh hdn
     have HLe:=qh hdn.len
     clear hk6 fr6 hdn
     go_wp2
     go_roundw
     case rel=>exact⟨.slice p1 (N+1:Nat) s1,ts,fs,id',l',i',.inr ⟨rfl,(Sp.mk ⟨3,id',tx,(Nd.body (.lf l'))⟩ (.lf l') (.slice a Ln c) (.slice none 0 0) (Lk:Nat)),HDn,qh (HGo.out.leaf ⟨rfl,by rw[← HLk.out],rfl,HGet.out⟩)⟩⟩
     case measure=>
      have h9:=HLe.out
      have h8:=HW.out
      have h7:=HN.out
      have e9:(ps++ts++[(Sp.mk ⟨3,id',tx,(Nd.body (.lf l'))⟩ (.lf l') (.slice a Ln c) (.slice none 0 0) (Lk:Nat))]).length=N+1:=by rw[List.length_append,← h7];rfl
      rw[h8,h9,e9]
      omega
    ·go_simp
     refine hK.out _ _ ⟨cell_at HeWn.out 0,cell_at HeWn.out 1,cell_at HeWn.out 2,cell_at HeWn.out 3,cell_at HeWn.out 4,cell_at HeWn.out 5,cell_at HeWn.out 6,cell_at HeWn.out 7⟩ (fun hHeld=>?_)
     clear hK K
     try simp only[Act.put,qqA,qqB,qqC]
     refine dOne 4 fun K hK=>?_
     go_simp
     refine hK.out _ _ ⟨cell_at HeWn.out 0,cell_at HeWn.out 1,cell_at HeWn.out 2,cell_at HeWn.out 3,cell_at HeWn.out 4,cell_at HeWn.out 5,cell_at HeWn.out 6,cell_at HeWn.out 7⟩ (fun hHeld=>?_)
     clear hK K
     try simp only[Act.put,qqA,qqB,qqC]
     refine dOne 7 fun K hK=>?_
     refine wp_app (.tmp 57) (.tmp 59) 84 rfl 0 88 i0 (Value.agg #[.int .i64 0,.int .i64 0,.int .i64 0,.string ⟨#[]⟩,.int .i64 0,.slice none 0 0,.slice none 0 0,.int .i64 0]) 8 104 Tryz.underlying84 hi0 hz0 hz1 hz2 rfl (by decide) (.slice va N vc) N ((ps++ts).map Sp.cells).flatten (by first|rfl|simp[Act.eval,Act.put]) (owns_below HRowW.out ((Below.refl _ _).drew.alloc (Nat.le_refl _) _)) (some ⟨W5.drew.heap.size,0,none⟩) 1 1 [.int .i64 3,.int .i64 id',.int .i64 tx,.string (Nd.body (.lf l')),.int .i64 3,.slice a Ln c,.slice none 0 0,.int .i64 (Lk:Nat)] (by first|rfl|simp[Act.eval,Act.put]) rfl (by intro X hX j u hu;cases hX;exact cells_new W5.drew [.int .i64 3,.int .i64 id',.int .i64 tx,.string (Nd.body (.lf l')),.int .i64 3,.slice a Ln c,.slice none 0 0,.int .i64 (Lk:Nat)] 88 j u hu) (fun e=>by cases e) (by intro u hu;simp only[List.mem_cons,List.not_mem_nil,or_false] at hu;first|(rcases hu with rfl|rfl|rfl|rfl|rfl|rfl|rfl|rfl <;> rfl)|(rcases hu with rfl|rfl|rfl|rfl <;> rfl)|(rcases hu with rfl|rfl <;> rfl)|(cases hu;rfl)) (by unfold maxLen;omega) (by omega) (by simp) ?_
     intro p1 s1 w2 hown2 hgrow2 hat2
     have HAD:Hid (AppD W5 w2 0 88 8 (.slice va N vc) (.slice p1 (N+1:Nat) s1) N ((ps++ts).map Sp.cells).flatten [.int .i64 3,.int .i64 id',.int .i64 tx,.string (Nd.body (.lf l')),.int .i64 3,.slice a Ln c,.slice none 0 0,.int .i64 (Lk:Nat)]):=⟨hown2,hgrow2,hat2⟩
     have e2:w2.heap[nb]?=some (.cells #[.int .i64 3,.int .i64 id',.int .i64 tx,.string (Nd.body (.lf l')),.int .i64 3,.slice a Ln c,.slice none 0 0,.int .i64 (Lk:Nat)] 88 (0,0)):=(hgrow2.block _ (lt_of_block HeWn.out) (fun e=>HneE.out e.symm)).trans HeWn.out
     have o2:w2.heap[s]?=some (.cells #[pgv b,.slice va N vc,.map (some mb)] 97 (0,0)):=(hgrow2.block _ (lt_of_block HoWn.out) (fun e=>HneO.out e.symm)).trans HoWn.out
     have He2:=qh e2
     have Ho2:=qh o2
     clear hown2 hgrow2 hat2 e2 o2
     refine hK.out _ _ ⟨cell_at He2.out 0,cell_at He2.out 1,cell_at He2.out 2,cell_at He2.out 3,cell_at He2.out 4,cell_at He2.out 5,cell_at He2.out 6,cell_at He2.out 7⟩ (fun hHeld=>?_)
     clear hK K
     try simp only[Act.put,qqA,qqB,qqC]
     refine tk 8 ?_
     refine tk 9 ?_
     refine dOne 10 fun K hK=>?_
     have q0:=cell_at Ho2.out 1
     simp only[qqD,qqE,qqF] at q0
     have q1:=free_at Ho2.out 1
     go_simp
     have e3:=P3.old_set He2.out (⟨s,1,none⟩:Addr) (Ne.symm hoe) (.slice p1 (N+1) s1)
     have He3:=qh e3
     clear e3
     refine hK.out _ _ ⟨cell_at He3.out 0,cell_at He3.out 1,cell_at He3.out 2,cell_at He3.out 3,cell_at He3.out 4,cell_at He3.out 5,cell_at He3.out 6,cell_at He3.out 7⟩ (fun hHeld=>?_)
     clear hK K
     try simp only[Act.put,qqA,qqB,qqC]
     refine wpAnyH_done (by kernel_rfl) ?_ _
     clear q0 q1 cA1 cA2 cA3 hHeld
     have hpush:=HS5.out.push (Sp.mk ⟨3,id',tx,(Nd.body (.lf l'))⟩ (.lf l') (.slice a Ln c) (.slice none 0 0) (Lk:Nat)) (by exact⟨HND5.out,rfl⟩) (by rw[← HN.out];exact HAD.out)
     obtain⟨hk6,fr6,_⟩:=hpush
     have hdn:DnS w _ x b s mb vw (.slice p1 (N+1:Nat) s1) (ps++ts++[(Sp.mk ⟨3,id',tx,(Nd.body (.lf l'))⟩ (.lf l') (.slice a Ln c) (.slice none 0 0) (Lk:Nat))]) (sn++pathI fs++[id']):=HS.out.over hk6 (frThen FR5.out fr6 fun _ _ f=>f) (fun j hj=>(HAD.out.new hj).imp (fun h9=>h9) fun h9=>Nat.le_trans FR5.out.size h9)
     have HDn:=qh hdn
     have HLe:=qh hdn.len
     clear hk6 fr6 hdn
     go_wp2
     go_roundw
     case rel=>exact⟨.slice p1 (N+1:Nat) s1,ts,fs,id',l',i',.inr ⟨rfl,(Sp.mk ⟨3,id',tx,(Nd.body (.lf l'))⟩ (.lf l') (.slice a Ln c) (.slice none 0 0) (Lk:Nat)),HDn,qh (HGo.out.leaf ⟨rfl,by rw[← HLk.out],rfl,HGet.out⟩)⟩⟩
     case measure=>
      have h9:=HLe.out
      have h8:=HW.out
      have h7:=HN.out
      have e9:(ps++ts++[(Sp.mk ⟨3,id',tx,(Nd.body (.lf l'))⟩ (.lf l') (.slice a Ln c) (.slice none 0 0) (Lk:Nat))]).length=N+1:=by rw[List.length_append,← h7];rfl
      rw[h8,h9,e9]
      omega
   ·obtain⟨ka,kk,kb,htw,hfd,hnx⟩:=HGo.out.twig
    obtain⟨ks,hks⟩:∃ ks,ks=ka++kk::kb:=⟨_,rfl⟩
    rw[← hks] at htw hfd
    have hat:ks[ka.length]?=some kk:=by rw[hks];simp
    have htw2:ndAt M id' (.tw ks):=htw
    obtain⟨tx,hg,hgood⟩:=htw2
    obtain⟨J,hJ⟩:∃ J,J=ka.length:=⟨_,rfl⟩
    rw[← hJ] at hfd hat
    have HNx:=qh hnx
    have HKs:=qh hks
    have HJ:=qh hJ
    have HAt:=qh hat
    have HFd:=qh hfd
    clear hnx hfd htw hks hJ hat
    have HRd:=qh (skRead_any wr x b vl vg M s mb _ (ps++ts) (sn++pathI fs) HPr.out HS.out.sk hl id' (.tw ks) tx hg hgood hnot hsl HXr.out)
    have HGet:=qh hg
    have HGood:=qh hgood
    unfold Sp.v at HRd
    simp only[Nd.kind] at HRd
    clear hg hgood hnot hsl
    go_upto_region 5 with (go_at_call 67;(with_reducible refine HRd.out.mono ?_);rintro e w2 ⟨vi,vk,rfl,h1,h2,h3⟩;obtain⟨h1b,h1a⟩:=h1;subst h1b;obtain⟨a,c,e9⟩:=h1a.its.slice;subst e9;have H1:=qh h1a;have H2:=qh h2;have H3:=qh h3;clear h1a h2 h3)
    obtain⟨Ln,hLn⟩:∃ n,n=ks.length:=⟨_,rfl⟩
    rw[← hLn] at H1 ⊢
    have HLn:=qh hLn
    clear hLn
    obtain⟨W3,hW3⟩:∃ W3,W3=w2.alloc (.cells #[.int .i64 4,.int .i64 id',.int .i64 tx,.string (Nd.body (.tw ks)),.int .i64 4,.slice none 0 0,.slice a Ln c,.int .i64 0] 88):=⟨_,rfl⟩
    obtain⟨nb,hnb⟩:∃ nb,nb=w2.heap.size:=⟨_,rfl⟩
    have hE3:W3.heap[nb]?=some (.cells #[.int .i64 4,.int .i64 id',.int .i64 tx,.string (Nd.body (.tw ks)),.int .i64 4,.slice none 0 0,.slice a Ln c,.int .i64 0] 88 (0,0)):=by rw[hW3,hnb];exact new_at _ _ _
    have b3:Below w2.heap.size w2 W3:=by rw[hW3];exact below_new _ _
    rw[← hW3,← hnb]
    have HNb:=qh hnb
    clear hW3 hnb
    have e4:=cell_at hE3 4
    have e5:=cell_at hE3 6
    simp only[qqD,qqE,qqF] at e4 e5
    have HE3:=qh hE3
    have B3:=qh b3
    have HF:=qh (P10.find_any W3 _ ks key ((H1.out.keep (FrT.of b3)).its) (by have:=HGood.out.sum;have:=(Nd.tw ks).len_sum;have e9:(Nd.tw ks).len=ks.length:=rfl;omega) HGood.out.1)
    rw[HFd.out] at HF
    clear hE3 b3
    go_upto_region 11 with (go_at_call 68;(with_reducible refine HF.out.mono ?_);rintro e w4 ⟨rfl,hb4⟩;have B4:=qh hb4;have hE4:=P3.old_below HE3.out hb4;have e7:=cell_at hE4 7;have f7:=free_at hE4 7;simp only[qqD,qqE,qqF] at e7;clear hb4 hE4)
    have hs4:=(H2.out.below B3.out).below B4.out
    have hne4:∀ j,SS s mb (.slice va N vc) j→j≠nb:=fun j hj e9=>by
     have:=H2.out.lt hj
     have:=HNb.out
     omega
    obtain⟨hs5,ft5⟩:=set_box hs4 (P3.old_below HE3.out B4.out) hne4 (.int .i64 (J:Nat))
    have hnd5:=((H1.out.keep (FrT.of B3.out)).keep (FrT.of B4.out)).keep ft5
    have hE5:(w4.setCell ⟨nb,7,none⟩ (.int .i64 (J:Nat))).heap[nb]?=some (.cells #[.int .i64 4,.int .i64 id',.int .i64 tx,.string (Nd.body (.tw ks)),.int .i64 4,.slice none 0 0,.slice a Ln c,.int .i64 (J:Nat)] 88 (0,0)):=by
     rw[set_at (P3.old_below HE3.out B4.out) 7]
     rfl
    have fr5:P3.Fr (SS s mb (.slice va N vc)) wr (w4.setCell ⟨nb,7,none⟩ (.int .i64 (J:Nat))):=by
     refine frThen (frThen (H3.out.mono fun k _ hk=>.inr (.inr hk)) (P3.Fr.of (S:=fun _=>False) (thenBelow B3.out B4.out)) fun _ _ f=>f.elim) (fr_set w4 nb 7 _) fun j hj e9=>?_
     have:=HNb.out
     have:=H3.out.size
     omega
    obtain⟨W5,hW5⟩:∃ W5,W5=w4.setCell ⟨nb,7,none⟩ (.int .i64 (J:Nat)):=⟨_,rfl⟩
    rw[← hW5] at hs5 hnd5 hE5 fr5 ⊢
    have HS5:=qh hs5
    have HND5:=qh hnd5
    have HelW:=qh hE5
    have FR5:=qh fr5
    have HobW:=qh hs5.obj
    have HNe5:=qh hne4
    have hoe:s≠nb:=hne4 s (.inl rfl)
    have HneO:Hid ((Value.slice va N vc).ownBlock≠some s):=fun e9=>hs5.row_s e9 rfl
    have HneE:Hid ((Value.slice va N vc).ownBlock≠some nb):=fun e9=>hne4 nb (.inr (.inl e9)) rfl
    have hrw5:=hs5.row
    rw[← HN.out] at hrw5
    have HRowW:=qh hrw5
    clear hW5 hs4 hne4 hs5 ft5 hnd5 hE5 fr5 hrw5 e4 e5 e7 f7 o1
    have g6:=cell_at HelW.out 6
    have g7:=cell_at HelW.out 7
    simp only[qqD,qqE,qqF] at g6 g7
    obtain⟨bk,off,e9,hcc⟩:=HND5.out.its.at_ HAt.out
    subst e9
    have g8:=(hcc _ (Below.refl _ _)).2
    have j1:(0:Int)≤(J:Int):=by omega
    have j2:(J:Int) < (Ln:Int):=by have:=(List.getElem?_eq_some_iff.1 HAt.out).1;have:=HLn.out;omega
    clear hcc
    go_upto_region 12 with fail
    clear g6 g7 g8
    have hel0:=HelW.out
    have hob0:=HobW.out
    have eWd:W5.drew.heap[nb]?=some (.cells #[.int .i64 4,.int .i64 id',.int .i64 tx,.string (Nd.body (.tw ks)),.int .i64 4,.slice none 0 0,.slice (some ⟨bk,off,none⟩) Ln c,.int .i64 (J:Nat)] 88 (0,0)):=hel0
    have oWd:W5.drew.heap[s]?=some (.cells #[pgv b,.slice va N vc,.map (some mb)] 97 (0,0)):=hob0
    have eWn:(W5.drew.alloc (.cells #[.int .i64 4,.int .i64 id',.int .i64 tx,.string (Nd.body (.tw ks)),.int .i64 4,.slice none 0 0,.slice (some ⟨bk,off,none⟩) Ln c,.int .i64 (J:Nat)] 88)).heap[nb]?=some (.cells #[.int .i64 4,.int .i64 id',.int .i64 tx,.string (Nd.body (.tw ks)),.int .i64 4,.slice none 0 0,.slice (some ⟨bk,off,none⟩) Ln c,.int .i64 (J:Nat)] 88 (0,0)):=P3.old_alloc eWd _
    have oWn:(W5.drew.alloc (.cells #[.int .i64 4,.int .i64 id',.int .i64 tx,.string (Nd.body (.tw ks)),.int .i64 4,.slice none 0 0,.slice (some ⟨bk,off,none⟩) Ln c,.int .i64 (J:Nat)] 88)).heap[s]?=some (.cells #[pgv b,.slice va N vc,.map (some mb)] 97 (0,0)):=P3.old_alloc oWd _
    have HeWn:=qh eWn
    have HoWn:=qh oWn
    have HeWd:=qh eWd
    have cA1:=cell_at oWd 1
    have cA2:=cell_at oWn 1
    have cA3:=cell_at (P3.old_alloc hob0 (.cells #[.int .i64 4,.int .i64 id',.int .i64 tx,.string (Nd.body (.tw ks)),.int .i64 4,.slice none 0 0,.slice (some ⟨bk,off,none⟩) Ln c,.int .i64 (J:Nat)] 88)) 1
    simp only[qqD,qqE,qqF] at cA1 cA2 cA3
    clear hel0 hob0 eWd oWd eWn oWn
    refine wp_region_held_drew (S:=(fun W'=>W'.cell? ⟨nb,0,none⟩=some (.int .i64 4)∧W'.cell? ⟨nb,1,none⟩=some (.int .i64 id')∧W'.cell? ⟨nb,2,none⟩=some (.int .i64 tx)∧W'.cell? ⟨nb,3,none⟩=some (.string (Nd.body (.tw ks)))∧W'.cell? ⟨nb,4,none⟩=some (.int .i64 4)∧W'.cell? ⟨nb,5,none⟩=some (.slice none 0 0)∧W'.cell? ⟨nb,6,none⟩=some (.slice (some ⟨bk,off,none⟩) Ln c)∧W'.cell? ⟨nb,7,none⟩=some (.int .i64 (J:Nat)))) (by kernel_rfl) ⟨cell_at HeWd.out 0,cell_at HeWd.out 1,cell_at HeWd.out 2,cell_at HeWd.out 3,cell_at HeWd.out 4,cell_at HeWd.out 5,cell_at HeWd.out 6,cell_at HeWd.out 7⟩ (fun hHeld=>?_)
    refine tk 0 ?_
    refine tk 1 ?_
    refine tk 2 ?_
    refine tk 3 ?_
    refine tk 5 ?_
    refine do_two 4 6 rfl rfl (by kernel_rfl) (by rfl) (by rfl) (fun K hK=>?_) (fun K hK=>?_)
    ·go_simp
     refine hK.out _ _ ⟨cell_at HeWd.out 0,cell_at HeWd.out 1,cell_at HeWd.out 2,cell_at HeWd.out 3,cell_at HeWd.out 4,cell_at HeWd.out 5,cell_at HeWd.out 6,cell_at HeWd.out 7⟩ (fun hHeld=>?_)
     clear hK K
     try simp only[Act.put,qqA,qqB,qqC]
     refine dOne 6 fun K hK=>?_
     go_simp
     refine hK.out _ _ ⟨cell_at HeWn.out 0,cell_at HeWn.out 1,cell_at HeWn.out 2,cell_at HeWn.out 3,cell_at HeWn.out 4,cell_at HeWn.out 5,cell_at HeWn.out 6,cell_at HeWn.out 7⟩ (fun hHeld=>?_)
     clear hK K
     try simp only[Act.put,qqA,qqB,qqC]
     refine dOne 7 fun K hK=>?_
     refine wp_app (.tmp 57) (.tmp 59) 84 rfl 0 88 i0 (Value.agg #[.int .i64 0,.int .i64 0,.int .i64 0,.string ⟨#[]⟩,.int .i64 0,.slice none 0 0,.slice none 0 0,.int .i64 0]) 8 104 Tryz.underlying84 hi0 hz0 hz1 hz2 rfl (by decide) (.slice va N vc) N ((ps++ts).map Sp.cells).flatten (by first|rfl|simp[Act.eval,Act.put]) (owns_below HRowW.out ((Below.refl _ _).drew.alloc (Nat.le_refl _) _)) (some ⟨W5.drew.heap.size,0,none⟩) 1 1 [.int .i64 4,.int .i64 id',.int .i64 tx,.string (Nd.body (.tw ks)),.int .i64 4,.slice none 0 0,.slice (some ⟨bk,off,none⟩) Ln c,.int .i64 (J:Nat)] (by first|rfl|simp[Act.eval,Act.put]) rfl (by intro X hX j u hu;cases hX;exact cells_new W5.drew [.int .i64 4,.int .i64 id',.int .i64 tx,.string (Nd.body (.tw ks)),.int .i64 4,.slice none 0 0,.slice (some ⟨bk,off,none⟩) Ln c,.int .i64 (J:Nat)] 88 j u hu) (fun e=>by cases e) (by intro u hu;simp only[List.mem_cons,List.not_mem_nil,or_false] at hu;first|(rcases hu with rfl|rfl|rfl|rfl|rfl|rfl|rfl|rfl <;> rfl)|(rcases hu with rfl|rfl|rfl|rfl <;> rfl)|(rcases hu with rfl|rfl <;> rfl)|(cases hu;rfl)) (by unfold maxLen;omega) (by omega) (by simp) ?_
     intro p1 s1 w2 hown2 hgrow2 hat2
     have HAD:Hid (AppD W5 w2 0 88 8 (.slice va N vc) (.slice p1 (N+1:Nat) s1) N ((ps++ts).map Sp.cells).flatten [.int .i64 4,.int .i64 id',.int .i64 tx,.string (Nd.body (.tw ks)),.int .i64 4,.slice none 0 0,.slice (some ⟨bk,off,none⟩) Ln c,.int .i64 (J:Nat)]):=⟨hown2,hgrow2,hat2⟩
     have e2:w2.heap[nb]?=some (.cells #[.int .i64 4,.int .i64 id',.int .i64 tx,.string (Nd.body (.tw ks)),.int .i64 4,.slice none 0 0,.slice (some ⟨bk,off,none⟩) Ln c,.int .i64 (J:Nat)] 88 (0,0)):=(hgrow2.block _ (lt_of_block HeWn.out) (fun e=>HneE.out e.symm)).trans HeWn.out
     have o2:w2.heap[s]?=some (.cells #[pgv b,.slice va N vc,.map (some mb)] 97 (0,0)):=(hgrow2.block _ (lt_of_block HoWn.out) (fun e=>HneO.out e.symm)).trans HoWn.out
     have He2:=qh e2
     have Ho2:=qh o2
     clear hown2 hgrow2 hat2 e2 o2
     refine hK.out _ _ ⟨cell_at He2.out 0,cell_at He2.out 1,cell_at He2.out 2,cell_at He2.out 3,cell_at He2.out 4,cell_at He2.out 5,cell_at He2.out 6,cell_at He2.out 7⟩ (fun hHeld=>?_)
     clear hK K
     try simp only[Act.put,qqA,qqB,qqC]
     refine tk 8 ?_
     refine tk 9 ?_
     refine dOne 10 fun K hK=>?_
     have q0:=cell_at Ho2.out 1
     simp only[qqD,qqE,qqF] at q0
     have q1:=free_at Ho2.out 1
     go_simp
     have e3:=P3.old_set He2.out (⟨s,1,none⟩:Addr) (Ne.symm hoe) (.slice p1 (N+1) s1)
     have He3:=qh e3
     clear e3
     refine hK.out _ _ ⟨cell_at He3.out 0,cell_at He3.out 1,cell_at He3.out 2,cell_at He3.out 3,cell_at He3.out 4,cell_at He3.out 5,cell_at He3.out 6,cell_at He3.out 7⟩ (fun hHeld=>?_)
     clear hK K
     try simp only[Act.put,qqA,qqB,qqC]
     refine wpAnyH_done (by kernel_rfl) ?_ _
     clear q0 q1 cA1 cA2 cA3 hHeld
     have hpush:=HS5.out.push (Sp.mk ⟨4,id',tx,(Nd.body (.tw ks))⟩ (.tw ks) (.slice none 0 0) (.slice (some ⟨bk,off,none⟩) Ln c) (J:Nat)) (by exact⟨rfl,HND5.out⟩) (by rw[← HN.out];exact HAD.out)
     obtain⟨hk6,fr6,_⟩:=hpush
     have hdn:DnS w _ x b s mb vw (.slice p1 (N+1:Nat) s1) (ps++ts++[(Sp.mk ⟨4,id',tx,(Nd.body (.tw ks))⟩ (.tw ks) (.slice none 0 0) (.slice (some ⟨bk,off,none⟩) Ln c) (J:Nat))]) (sn++pathI fs++[id']):=HS.out.over hk6 (frThen FR5.out fr6 fun _ _ f=>f) (fun j hj=>(HAD.out.new hj).imp (fun h9=>h9) fun h9=>Nat.le_trans FR5.out.size h9)
     have HDn:=qh hdn
     have HLe:=qh hdn.len
     clear hk6 fr6 hdn
     go_wp2
     go_roundw
     case rel=>
      obtain⟨l1,i1,hgo⟩:=HNx.out (Sp.mk ⟨4,id',tx,(Nd.body (.tw ks))⟩ (.tw ks) (.slice none 0 0) (.slice (some ⟨bk,off,none⟩) Ln c) (J:Nat)) ⟨by unfold Fr.kids;rw[← HKs.out],by rw[HJ.out],rfl,HGet.out⟩
      refine⟨.slice p1 (N+1:Nat) s1,ts++[(Sp.mk ⟨4,id',tx,(Nd.body (.tw ks))⟩ (.tw ks) (.slice none 0 0) (.slice (some ⟨bk,off,none⟩) Ln c) (J:Nat))],⟨id',ka,kk,kb⟩::fs,kk.page,l1,i1,.inl ⟨e,rfl,?_,qh hgo⟩⟩
      have e9:pathI (⟨id',ka,kk,kb⟩::fs)=pathI fs++[id']:=by unfold pathI;rw[List.reverse_cons,List.map_append];rfl
      rw[e9]
      simpa only [List.append_assoc] using HDn
     case measure=>
      have h9:=HLe.out
      have h8:=HW.out
      have h7:=HN.out
      have e9:(ps++ts++[(Sp.mk ⟨4,id',tx,(Nd.body (.tw ks))⟩ (.tw ks) (.slice none 0 0) (.slice (some ⟨bk,off,none⟩) Ln c) (J:Nat))]).length=N+1:=by rw[List.length_append,← h7];rfl
      rw[h8,h9,e9]
      omega
    ·go_simp
     refine hK.out _ _ ⟨cell_at HeWn.out 0,cell_at HeWn.out 1,cell_at HeWn.out 2,cell_at HeWn.out 3,cell_at HeWn.out 4,cell_at HeWn.out 5,cell_at HeWn.out 6,cell_at HeWn.out 7⟩ (fun hHeld=>?_)
     clear hK K
     try simp only[Act.put,qqA,qqB,qqC]
     refine dOne 4 fun K hK=>?_
     go_simp
     refine hK.out _ _ ⟨cell_at HeWn.out 0,cell_at HeWn.out 1,cell_at HeWn.out 2,cell_at HeWn.out 3,cell_at HeWn.out 4,cell_at HeWn.out 5,cell_at HeWn.out 6,cell_at HeWn.out 7⟩ (fun hHeld=>?_)
     clear hK K
     try simp only[Act.put,qqA,qqB,qqC]
     refine dOne 7 fun K hK=>?_
     refine wp_app (.tmp 57) (.tmp 59) 84 rfl 0 88 i0 (Value.agg #[.int .i64 0,.int .i64 0,.int .i64 0,.string ⟨#[]⟩,.int .i64 0,.slice none 0 0,.slice none 0 0,.int .i64 0]) 8 104 Tryz.underlying84 hi0 hz0 hz1 hz2 rfl (by decide) (.slice va N vc) N ((ps++ts).map Sp.cells).flatten (by first|rfl|simp[Act.eval,Act.put]) (owns_below HRowW.out ((Below.refl _ _).drew.alloc (Nat.le_refl _) _)) (some ⟨W5.drew.heap.size,0,none⟩) 1 1 [.int .i64 4,.int .i64 id',.int .i64 tx,.string (Nd.body (.tw ks)),.int .i64 4,.slice none 0 0,.slice (some ⟨bk,off,none⟩) Ln c,.int .i64 (J:Nat)] (by first|rfl|simp[Act.eval,Act.put]) rfl (by intro X hX j u hu;cases hX;exact cells_new W5.drew [.int .i64 4,.int .i64 id',.int .i64 tx,.string (Nd.body (.tw ks)),.int .i64 4,.slice none 0 0,.slice (some ⟨bk,off,none⟩) Ln c,.int .i64 (J:Nat)] 88 j u hu) (fun e=>by cases e) (by intro u hu;simp only[List.mem_cons,List.not_mem_nil,or_false] at hu;first|(rcases hu with rfl|rfl|rfl|rfl|rfl|rfl|rfl|rfl <;> rfl)|(rcases hu with rfl|rfl|rfl|rfl <;> rfl)|(rcases hu with rfl|rfl <;> rfl)|(cases hu;rfl)) (by unfold maxLen;omega) (by omega) (by simp) ?_
     intro p1 s1 w2 hown2 hgrow2 hat2
     have HAD:Hid (AppD W5 w2 0 88 8 (.slice va N vc) (.slice p1 (N+1:Nat) s1) N ((ps++ts).map Sp.cells).flatten [.int .i64 4,.int .i64 id',.int .i64 tx,.string (Nd.body (.tw ks)),.int .i64 4,.slice none 0 0,.slice (some ⟨bk,off,none⟩) Ln c,.int .i64 (J:Nat)]):=⟨hown2,hgrow2,hat2⟩
     have e2:w2.heap[nb]?=some (.cells #[.int .i64 4,.int .i64 id',.int .i64 tx,.string (Nd.body (.tw ks)),.int .i64 4,.slice none 0 0,.slice (some ⟨bk,off,none⟩) Ln c,.int .i64 (J:Nat)] 88 (0,0)):=(hgrow2.block _ (lt_of_block HeWn.out) (fun e=>HneE.out e.symm)).trans HeWn.out
     have o2:w2.heap[s]?=some (.cells #[pgv b,.slice va N vc,.map (some mb)] 97 (0,0)):=(hgrow2.block _ (lt_of_block HoWn.out) (fun e=>HneO.out e.symm)).trans HoWn.out
     have He2:=qh e2
     have Ho2:=qh o2
     clear hown2 hgrow2 hat2 e2 o2
     refine hK.out _ _ ⟨cell_at He2.out 0,cell_at He2.out 1,cell_at He2.out 2,cell_at He2.out 3,cell_at He2.out 4,cell_at He2.out 5,cell_at He2.out 6,cell_at He2.out 7⟩ (fun hHeld=>?_)
     clear hK K
     try simp only[Act.put,qqA,qqB,qqC]
     refine tk 8 ?_
     refine tk 9 ?_
     refine dOne 10 fun K hK=>?_
     have q0:=cell_at Ho2.out 1
     simp only[qqD,qqE,qqF] at q0
     have q1:=free_at Ho2.out 1
     go_simp
     have e3:=P3.old_set He2.out (⟨s,1,none⟩:Addr) (Ne.symm hoe) (.slice p1 (N+1) s1)
     have He3:=qh e3
     clear e3
     refine hK.out _ _ ⟨cell_at He3.out 0,cell_at He3.out 1,cell_at He3.out 2,cell_at He3.out 3,cell_at He3.out 4,cell_at He3.out 5,cell_at He3.out 6,cell_at He3.out 7⟩ (fun hHeld=>?_)
     clear hK K
     try simp only[Act.put,qqA,qqB,qqC]
     refine wpAnyH_done (by kernel_rfl) ?_ _
     clear q0 q1 cA1 cA2 cA3 hHeld
     have hpush:=HS5.out.push (Sp.mk ⟨4,id',tx,(Nd.body (.tw ks))⟩ (.tw ks) (.slice none 0 0) (.slice (some ⟨bk,off,none⟩) Ln c) (J:Nat)) (by exact⟨rfl,HND5.out⟩) (by rw[← HN.out];exact HAD.out)
     obtain⟨hk6,fr6,_⟩:=hpush
     have hdn:DnS w _ x b s mb vw (.slice p1 (N+1:Nat) s1) (ps++ts++[(Sp.mk ⟨4,id',tx,(Nd.body (.tw ks))⟩ (.tw ks) (.slice none 0 0) (.slice (some ⟨bk,off,none⟩) Ln c) (J:Nat))]) (sn++pathI fs++[id']):=HS.out.over hk6 (frThen FR5.out fr6 fun _ _ f=>f) (fun j hj=>(HAD.out.new hj).imp (fun h9=>h9) fun h9=>Nat.le_trans FR5.out.size h9)
     have HDn:=qh hdn
     have HLe:=qh hdn.len
     clear hk6 fr6 hdn
     go_wp2
     go_roundw
     case rel=>
      obtain⟨l1,i1,hgo⟩:=HNx.out (Sp.mk ⟨4,id',tx,(Nd.body (.tw ks))⟩ (.tw ks) (.slice none 0 0) (.slice (some ⟨bk,off,none⟩) Ln c) (J:Nat)) ⟨by unfold Fr.kids;rw[← HKs.out],by rw[HJ.out],rfl,HGet.out⟩
      refine⟨.slice p1 (N+1:Nat) s1,ts++[(Sp.mk ⟨4,id',tx,(Nd.body (.tw ks))⟩ (.tw ks) (.slice none 0 0) (.slice (some ⟨bk,off,none⟩) Ln c) (J:Nat))],⟨id',ka,kk,kb⟩::fs,kk.page,l1,i1,.inl ⟨e,rfl,?_,qh hgo⟩⟩
      have e9:pathI (⟨id',ka,kk,kb⟩::fs)=pathI fs++[id']:=by unfold pathI;rw[List.reverse_cons,List.map_append];rfl
      rw[e9]
      simpa only [List.append_assoc] using HDn
     case measure=>
      have h9:=HLe.out
      have h8:=HW.out
      have h7:=HN.out
      have e9:(ps++ts++[(Sp.mk ⟨4,id',tx,(Nd.body (.tw ks))⟩ (.tw ks) (.slice none 0 0) (.slice (some ⟨bk,off,none⟩) Ln c) (J:Nat))]).length=N+1:=by rw[List.length_append,← h7];rfl
      rw[h8,h9,e9]
      omega
  ·go_wp2
   go_ret
   exact⟨_,ts,pl,fs,id',l',i',rfl,HS.out,HDw.out⟩
end Go.Proofs.YtjepgclnbbpnaaaGreat.P12
