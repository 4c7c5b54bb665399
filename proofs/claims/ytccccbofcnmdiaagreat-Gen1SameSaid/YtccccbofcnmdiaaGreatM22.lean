/- Lemmas that the law stands on. No condition. -/
import Derived.Test.YtccccbofcnmdiaaGreatM21
namespace Go.Proofs.YtccccbofcnmdiaaGreat
set_option linter.unusedSimpArgs false
set_option linter.unusedVariables false
set_option maxRecDepth 100000
set_option maxHeartbeats 51200000
section
open Go.RowKit
section
variable (m:Mc)(ml:List Lb)(t:Kt)(tl:List Lb)(l:List Jb)(L:List Ml)
theorem filter_bare (p:Jb->Bool)(h:∀ j,p j.bare=p j):(bJ l).filter p=bJ (l.filter p):=by
 rw [List.filter_map]
 congr 1
 exact List.filter_congr fun j _=>h j
theorem onM_bare (s:ByteArray):onM s (bJ l)=onM s l:=by
 unfold onM
 rw [filter_bare l _ (fun _=>rfl),List.map_map]
 exact List.map_congr_left fun _ _=>rfl
theorem freM_bare:freM m.bare (bJ l)=freM m l:=by
 unfold freM
 rw [onM_bare];rfl
theorem rep_bare (s ap nm:ByteArray):rep s ap nm (bJ l)=rep s ap nm l:=by
 unfold rep
 rw [List.any_map]
 congr 1
theorem why_bare:why m.bare ml t.bare tl (bJ l)=why m ml t tl l:=by
 unfold why
 rw [freM_bare,rep_bare];rfl
theorem sco_bare:sco m.bare ml t.bare tl (bJ l)=sco m ml t tl l:=by
 unfold sco
 rw [why_bare,freM_bare];rfl
theorem entry_bare (x:Ml):entry t.bare tl (bJ l) (bX x)=entry t tl l x:=by
 unfold entry bX
 rw [sco_bare];rfl
theorem srt_bare:srt t.bare tl (bJ l) (bM L)=srt t tl l L:=by
 unfold srt
 rw [List.foldl_map]
 congr 1
 funext E x
 rw [entry_bare]
theorem jat_bare (i:Nat):jat (bJ l) i=(jat l i).bare:=by
 unfold jat
 rw [List.getD,List.getElem?_map,List.getD]
 cases l[i]? <;> rfl
theorem wk_congr {c c':Nat->Bool} {ah ah':Nat->Nat->Bool}(h:c=c') (h':ah=ah') (k:Nat):wk c ah k=wk c' ah' k:=by rw [h,h']
theorem weak_bare (k:Nat):weak m.bare t.bare (bJ l) k=weak m t l k:=by
 unfold weak
 refine wk_congr ?_ ?_ k
 ·funext i;unfold wkC;rw [jat_bare];rfl
 ·funext i y;unfold goB;rw [jat_bare,jat_bare];rfl
theorem outJ_bare (g:List Nat) (k:Nat):outJ g (bJ l) k=bJ (outJ g l k):=by
 unfold outJ
 show _=(List.map _ _).map Jb.bare
 rw [List.map_map]
 exact List.map_congr_left fun i _=>jat_bare l i
theorem okK_bare (W:List Nat) (k:Nat):okK m.bare t.bare (bJ l) W k=okK m t l W k:=by
 unfold okK
 rw [outJ_bare,List.length_map,freM_bare];rfl
theorem places_bare:places m.bare ml t.bare tl (bJ l)=places m ml t tl l:=by
 unfold places
 rw [why_bare,weak_bare,List.length_map,show okK m.bare t.bare (bJ l) (weak m t l l.length)=okK m t l (weak m t l l.length) from funext fun k=>okK_bare m t l _ k]
theorem lastP_bare (G:List Nat):lastP (bJ l) G=lastP l G:=by
 unfold lastP
 split
 ·rfl
 ·rw [jat_bare];rfl
theorem getM_bare (i:Nat):(bM L).getD i default=bX (L.getD i default):=by
 rw [List.getD,List.getElem?_map,List.getD]
 cases L[i]? <;> rfl
theorem nmAt_bare (i:Nat):nmAt (bM L) i=nmAt L i:=by
 unfold nmAt
 rw [getM_bare];rfl
theorem plansOf_bare:plansOf (bM L) t.bare tl (bJ l)=plansOf L t tl l:=by
 funext i
 unfold plansOf
 rw [getM_bare]
 exact places_bare _ _ t tl l
theorem cho_bare (pl:Nat->Option (List Nat)):∀ k,cho pl (bJ l) (bM L) k=cho pl l L k
 | 0=>rfl
 | k+1=>by
  rw [cho,cho,cho_bare pl k]
  split
  ·rfl
  ·rw [lastP_bare]
   have hb:∀ g la o,betr (bM L) k g la o=betr L k g la o:=fun g la o=>by
    unfold betr
    cases o with
    | none=>rfl
    | some x=>simp only [nmAt_bare]
   rw [hb]
theorem chN_bare (o:Option Ch):chN (bM L) o=chN L o:=by
 unfold chN
 cases o with
 | none=>rfl
 | some x=>exact nmAt_bare L x.1
theorem chG_bare (o:Option Ch):chG (bM L) t.bare tl (bJ l) o=chG L t tl l o:=by
 unfold chG
 cases o with
 | none=>rfl
 | some x=>
  simp only [plansOf_bare]
  unfold namesAt
  exact List.map_congr_left fun i _=>by rw [jat_bare];rfl
theorem choose_bare (k:Nat):cho (plansOf (bM L) t.bare tl (bJ l)) (bJ l) (bM L) k=cho (plansOf L t tl l) l L k:=by rw [plansOf_bare,cho_bare]
theorem srt14_bare (k:Nat):srt14 (bJ l) k=srt14 l k:=by
 unfold srt14
 refine wk_congr ?_ ?_ k
 ·funext i;unfold waitC;rw [jat_bare];rfl
 ·funext i y;rw [jat_bare,jat_bare];rfl
theorem unitAt_bare (S T:List Nat) (p:Nat):unitAt (bJ l) S T p=unitAt l S T p:=by
 have hg:∀ i,(jat (bJ l) i).ga=(jat l i).ga:=fun i=>by rw [jat_bare];rfl
 have hs:∀ i,(jat (bJ l) i).sz=(jat l i).sz:=fun i=>by rw [jat_bare];rfl
 have hm:∀ s k,manyK (bJ l) s k=manyK l s k:=fun s k=>by
  unfold manyK
  rw [<- List.map_take,filter_bare _ _ (fun _=>rfl),List.length_map]
 have hf:∀ s,firstK (bJ l) s T=firstK l s T:=fun s=>by
  unfold firstK
  congr 1
  funext y
  rw [hg]
 have ho:∀ s,gangOf (bJ l) s S=gangOf l s S:=fun s=>by
  unfold gangOf
  exact List.filter_congr fun y _=>by rw [hg]
 unfold unitAt
 rw [hg,hs,hm,hf,ho,List.length_map]
theorem unitsU_bare:unitsU (bJ l)=unitsU l:=by
 show unitsK (bJ l) (srt14 (bJ l) (bJ l).length) (srt14 (bJ l) (bJ l).length).length=unitsK l (srt14 l l.length) (srt14 l l.length).length
 rw [List.length_map,srt14_bare]
 unfold unitsK
 congr 1
 exact List.map_congr_left fun i _=>unitAt_bare l _ _ _
end
theorem bare3:Bare3 bsF chF unF where
 b M J p:=by
  unfold bsF
  rw [jl_bare,jbs_bare]
  show bestP (srt (jl J p).1.tk.bare (jl J p).2 (bJ (jbs J)) (bM M))=_
  rw [srt_bare]
 c M J p:=by
  have h:choF (bM M) (bL J) p=choF M J p:=by
   unfold choF
   rw [jl_bare,jbs_bare,List.length_map]
   show cho (plansOf (bM M) (jl J p).1.tk.bare (jl J p).2 (bJ (jbs J))) (bJ (jbs J)) (bM M) M.length=_
   rw [choose_bare]
  unfold chF
  rw [h,chN_bare,jl_bare,jbs_bare]
  show (_,chG (bM M) (jl J p).1.tk.bare (jl J p).2 (bJ (jbs J)) _,_)=_
  rw [chG_bare]
 u J:=by
  unfold unF
  rw [jbs_bare];exact unitsU_bare _
end
section
open Go.RowKit
theorem bare_fields {S T:Sg}(h:S.bare=T.bare):S.ck=T.ck/\S.nx=T.nx/\bM S.M=bM T.M/\S.Q=T.Q/\bL S.J=bL T.J:=by
 unfold Sg.bare at h
 injection h with h1 h2 h3 h4 h5
 exact ⟨h1,h2,h3,h4,h5⟩
theorem In2.alike {m:Int}{S T:Sg}(h:In2 m T)(e:S.bare=T.bare):In2 m S:=by
 obtain ⟨e1,e2,e3,e4,e5⟩:=bare_fields e
 have lM:S.M.length=T.M.length:=by have:=congrArg List.length e3;rw [List.length_map,List.length_map] at this;exact this
 have lJ:S.J.length=T.J.length:=by have:=congrArg List.length e5;rw [List.length_map,List.length_map] at this;exact this
 refine ⟨by rw [lM];exact h.M,by rw [e4];exact h.Q,by rw [lJ];exact h.J,fun x hx=>?_,fun x hx=>?_,by rw [e2];exact h.nx,by rw [e1];exact h.ck,by rw [<- keyM_bare,e3,keyM_bare];exact h.aM,by rw [e4];exact h.aQ,fun x hx=>?_⟩
 ·have hm:bX x ∈ bM T.M:=by rw [<- e3];exact List.mem_map_of_mem hx
  obtain ⟨y,hy,e⟩:=List.mem_map.1 hm
  have e2:y.2=x.2:=by have h:=congrArg (fun x:Ml=>x.2) e;exact h
  rw [<- e2];exact h.lM y hy
 ·have hm:bY x ∈ bL T.J:=by rw [<- e5];exact List.mem_map_of_mem hx
  obtain ⟨y,hy,e⟩:=List.mem_map.1 hm
  have e2:y.2=x.2:=by have h:=congrArg (fun x:Jl=>x.2) e;exact h
  rw [<- e2];exact h.lJ y hy
 ·have hm:bY x ∈ bL T.J:=by rw [<- e5];exact List.mem_map_of_mem hx
  obtain ⟨y,hy,e⟩:=List.mem_map.1 hm
  have e2:y.1.bo=x.1.bo:=by have h:=congrArg (fun x:Jl=>x.1.bo) e;exact h
  rw [<- e2];exact h.bo y hy
def Gx (w:World) (b g:Nat)(F:Nat->Prop)(S:Sg):Prop:=∃ lst vM vQ vJ S',Gs w b g lst vM vQ vJ S' /\ S'.bare=S.bare /\ ∀ k,blkG g vM vQ vJ S' k->F k
section
variable {w w':World} {b b' g:Nat} {F F':Nat->Prop}{S:Sg}
theorem Gx.grp {p:Nat->Prop}(h:Gx w b g F S)(hg:GrP p w w')(hp:∀ k,b<=k->F k -> ¬ p k):Gx w' b g F S:=by
 obtain ⟨lst,vM,vQ,vJ,S',h1,h2,h3⟩:=h
 exact ⟨lst,vM,vQ,vJ,S',h1.grp hg fun k hk=>hp k (h1.blk hk).1 (h3 k hk),h2,h3⟩
theorem Gx.below (h:Gx w b g F S)(hb:Below w.heap.size w w'):Gx w' b g F S:=h.grp (GrP.ofBelow (p:=fun _=>False) hb) fun _ _ _ e=>e
theorem Gx.wide (h:Gx w b g F S)(hs:∀ k,k<w.heap.size->F k->F' k):Gx w b g F' S:=by
 obtain ⟨lst,vM,vQ,vJ,S',h1,h2,h3⟩:=h
 exact ⟨lst,vM,vQ,vJ,S',h1,h2,fun k hk=>hs k (h1.blk hk).2 (h3 k hk)⟩
theorem Gx.base (h:Gx w b g F S)(hb:b' <= b):Gx w b' g F S:=by
 obtain ⟨lst,vM,vQ,vJ,S',h1,h2,h3⟩:=h
 exact ⟨lst,vM,vQ,vJ,S',h1.base hb,h2,h3⟩
end
theorem gx_new (w:World):Calls Tryz.prog 14 #[] w fun e w'=>e = .returned (.pointer (some ⟨w.heap.size,0,none⟩))/\Gx w' w.heap.size w.heap.size (fun k=>w.heap.size<=k) Sg.new/\Below w.heap.size w w':=by
 refine (new_any w).mono ?_
 rintro e w' ⟨rfl,h,hb⟩
 exact ⟨rfl,⟨_,_,_,_,_,h,rfl,fun k hk=>(h.blk hk).1⟩,hb⟩
theorem gx_do (bs:Bst)(ch:Chs15)(un:Uns)(hB:BestK bs)(hC:ChoK ch)(hUn:UniK un)(h3:Bare3 bs ch un) (b g:Nat)(F:Nat->Prop) (m:Int)(S:Sg)(x:Oz)(w:World)(hG:Gx w b g F S)(hI:In2 m S)(hm:m<=1152921504606846976)(hx:OzOk w x)(hl1:x.v.l1.length<=1000)(hl3:x.v.l3.length<=1000) :
  Calls Tryz.prog 18 #[.pointer (some ⟨g,0,none⟩),.agg x.arr] w fun e w'=>
   (∃ A n c,e = .returned (.agg #[.int .i64 (stepG bs ch un S x.v).2.1,.slice A n c])/\RetL w.heap.size w' A n c (stepG bs ch un S x.v).2.2)/\Gx w' b g (fun k=>F k ∨ w.heap.size<=k) (stepG bs ch un S x.v).1/\GrP F w w':=by
 obtain ⟨lst,vM,vQ,vJ,S',h1,h2,hF⟩:=hG
 obtain ⟨e1,e2⟩:=stepG_alike (S:=S') (T:=S) h3 h2 x.v
 refine (doG_any bs ch un hB hC hUn b g lst vM vQ vJ S' x w h1 ((hI.alike h2).inv hm) hx hl1 hl3).mono ?_
 rintro e w' ⟨⟨A,n,c,rfl,hR⟩,hW⟩
 rw [e1] at hR ⊢
 obtain ⟨lst',vM',vQ',vJ',S'',g1,g2,g3,g4⟩:=hW
 exact ⟨⟨A,n,c,rfl,hR⟩,⟨lst',vM',vQ',vJ',S'',g1,g2.trans e2,fun k hk=>(g4 k hk).imp (hF k) id⟩,g3.wide fun k _ hk=>hF k hk⟩
theorem gx_state (b g:Nat)(F:Nat->Prop) (m:Int)(S:Sg)(w:World)(hG:Gx w b g F S)(hI:In2 m S) :
  Calls Tryz.prog 20 #[.pointer (some ⟨g,0,none⟩)] w fun e w'=>(∃ vM vQ vJ S',e = .returned (.agg #[.int .i64 S.ck,.int .i64 S.nx,vM,vQ,vJ])/\OwnS w' w.heap.size vM vQ vJ S' /\ S'.bare=S.bare)/\Gx w' b g F S/\Below w.heap.size w w':=by
 obtain ⟨lst,vM,vQ,vJ,S',h1,h2,hF⟩:=hG
 obtain ⟨e1,e2,_⟩:=bare_fields h2
 have hi:=hI.alike h2
 have hsm:Sm S':=⟨Nat.le_trans hi.M (by decide),Nat.le_trans hi.Q (by decide),Nat.le_trans hi.J (by decide),hi.lM,hi.lJ,by have:=hi.nx;omega,by have:=hi.ck;omega⟩
 refine (state_any b g lst vM vQ vJ S' w h1 hsm).mono ?_
 rintro e w' ⟨⟨uM,uQ,uJ,T,rfl,hO,hb⟩,hbb⟩
 exact ⟨⟨uM,uQ,uJ,T,by rw [e1,e2],hO,hb.trans h2⟩,⟨lst,vM,vQ,vJ,S',h1.below hbb,h2,hF⟩,hbb⟩
end
section
open Go.RowKit

theorem within_any (n a b:Int)(w:World):Calls Tryz.prog 48 #[.int .i64 n,.int .i64 a,.int .i64 b] w fun e w'=>e = .returned (.bool (decide (a<=n) && decide (n<=b)))/\w=w':=by
 cases h1:decide (a<=n)
 ·go_enter Tryz.func48,Tryz.ntmps48
  go_wp2
  go_ret
  exact ⟨rfl,rfl⟩
 ·go_enter Tryz.func48,Tryz.ntmps48
  go_wp2
  go_ret
  exact ⟨rfl,rfl⟩

theorem ascM_nil (w:World):Calls Tryz.prog 93 #[.slice none 0 0,.func (.func 94) #[] #[]] w fun e w'=>e = .returned (.bool true)/\Below w.heap.size w w':=by
 go_enter Tryz.func93,Tryz.ntmps93
 go_wp2
 refine wp_loop_rounds 1 ?_
 rw [rounds_succ]
 go_wp2
 go_ret
 exact ⟨rfl,bel⟩

theorem ascQ_nil (w:World):Calls Tryz.prog 95 #[.slice none 0 0,.func (.func 96) #[] #[]] w fun e w'=>e = .returned (.bool true)/\Below w.heap.size w w':=by
 go_enter Tryz.func95,Tryz.ntmps95
 go_wp2
 refine wp_loop_rounds 1 ?_
 rw [rounds_succ]
 go_wp2
 go_ret
 exact ⟨rfl,bel⟩

theorem ascJ_nil (w:World):Calls Tryz.prog 97 #[.slice none 0 0,.func (.func 98) #[] #[]] w fun e w'=>e = .returned (.bool true)/\Below w.heap.size w w':=by
 go_enter Tryz.func97,Tryz.ntmps97
 go_wp2
 refine wp_loop_rounds 1 ?_
 rw [rounds_succ]
 go_wp2
 go_ret
 exact ⟨rfl,bel⟩

theorem areM_nil (w:World):Calls Tryz.prog 49 #[.slice none 0 0] w fun e w'=>e = .returned (.bool true)/\Below w.heap.size w w':=by
 have K1:=Lib.hid (fun W=>ascM_nil W)
 go_enter Tryz.func49,Tryz.ntmps49
 go_wp2_with fail
 refine (K1.out _).mono ?_;rintro e w1 ⟨rfl,hb1⟩
 go_wp2_with fail
 refine wp_loop_rounds 1 ?_
 rw [rounds_succ]
 go_wp2
 go_ret
 exact ⟨rfl,bel⟩

theorem areQ_nil (w:World):Calls Tryz.prog 50 #[.slice none 0 0] w fun e w'=>e = .returned (.bool true)/\Below w.heap.size w w':=by
 have K1:=Lib.hid (fun W=>ascQ_nil W)
 go_enter Tryz.func50,Tryz.ntmps50
 go_wp2_with fail
 refine (K1.out _).mono ?_;rintro e w1 ⟨rfl,hb1⟩
 go_wp2_with fail
 refine wp_loop_rounds 1 ?_
 rw [rounds_succ]
 go_wp2
 go_ret
 exact ⟨rfl,bel⟩

theorem areJ_nil (nx:Int)(w:World):Calls Tryz.prog 51 #[.slice none 0 0,.int .i64 nx] w fun e w'=>e = .returned (.bool true)/\Below w.heap.size w w':=by
 have K1:=Lib.hid (fun W=>ascJ_nil W)
 go_enter Tryz.func51,Tryz.ntmps51
 go_wp2_with fail
 refine (K1.out _).mono ?_;rintro e w1 ⟨rfl,hb1⟩
 go_wp2_with fail
 refine wp_loop_rounds 1 ?_
 rw [rounds_succ]
 go_wp2
 go_ret
 exact ⟨rfl,bel⟩

theorem keepQ_nil (w:World):Calls Tryz.prog 52 #[.slice none 0 0,.slice none 0 0] w fun e w'=>e = .returned (.bool true)/\Below w.heap.size w w':=by
 go_enter Tryz.func52,Tryz.ntmps52
 go_wp2
 refine wp_loop_rounds 1 ?_
 rw [rounds_succ]
 go_wp2
 refine wp_loop_rounds 1 ?_
 rw [rounds_succ]
 go_wp2
 go_ret
 exact ⟨rfl,bel⟩

theorem atHome_nil (w:World):Calls Tryz.prog 53 #[.slice none 0 0,.slice none 0 0] w fun e w'=>e = .returned (.bool true)/\Below w.heap.size w w':=by
 go_enter Tryz.func53,Tryz.ntmps53
 go_wp2
 refine wp_loop_rounds 1 ?_
 rw [rounds_succ]
 go_wp2
 refine wp_loop_rounds 1 ?_
 rw [rounds_succ]
 go_wp2
 go_ret
 exact ⟨rfl,bel⟩


theorem right_blank (w:World):Calls Tryz.prog 23 #[.agg #[.int .i64 0,.int .i64 1,.slice none 0 0,.slice none 0 0,.slice none 0 0]] w fun e w'=>e = .returned (.bool true)/\Below w.heap.size w w':=by
 have k1:∀ W,Calls Tryz.prog 48 #[.int .i64 0,.int .i64 0,.int .i64 1073741824] W fun e w'=>e = .returned (.bool true)/\W=w':=fun W=>within_any 0 0 1073741824 W
 have k2:∀ W,Calls Tryz.prog 48 #[.int .i64 1,.int .i64 1,.int .i64 1073741824] W fun e w'=>e = .returned (.bool true)/\W=w':=fun W=>within_any 1 1 1073741824 W
 have K1:=Lib.hid k1;have K2:=Lib.hid k2;clear k1 k2
 have K3:=Lib.hid (fun W=>areM_nil W);have K4:=Lib.hid (fun W=>areQ_nil W);have K5:=Lib.hid (fun W=>areJ_nil 1 W);have K6:=Lib.hid (fun W=>keepQ_nil W);have K7:=Lib.hid (fun W=>atHome_nil W)
 obtain ⟨W0,hW0⟩:∃ W0,W0=w.alloc (.cells #[.int .i64 0,.int .i64 1,.slice none 0 0,.slice none 0 0,.slice none 0 0] 31):=⟨_,rfl⟩
 have HB0:Hid (Bk W0 w.heap.size 31 #[.int .i64 0,.int .i64 1,.slice none 0 0,.slice none 0 0,.slice none 0 0]):=by rw [hW0];exact Bk.fresh _ _ _
 have hb0:Below w.heap.size w W0:=by rw [hW0];exact (Below.refl _ _).alloc (Nat.le_refl _) _
 subst hW0
 go_enter Tryz.func23,Tryz.ntmps23
 go_wp2_with fail
 refine (K1.out _).mono ?_;rintro e w1 ⟨rfl,rfl⟩
 go_wp2_with fail
 refine (K2.out _).mono ?_;rintro e w1 ⟨rfl,rfl⟩
 go_wp2_with fail
 refine (K3.out _).mono ?_;rintro e w1 ⟨rfl,hb1⟩
 have HB1:=Lib.hid (HB0.out.later hb1)
 have c1:w1.cell? ⟨w.heap.size,3,none⟩=some (.slice none 0 0):=HB1.out.cellAt 3
 go_wp2_with fail
 refine (K4.out _).mono ?_;rintro e w2 ⟨rfl,hb2⟩
 have HB2:=Lib.hid (HB1.out.later hb2)
 clear c1
 have c1:w2.cell? ⟨w.heap.size,4,none⟩=some (.slice none 0 0):=HB2.out.cellAt 4
 have c2:w2.cell? ⟨w.heap.size,1,none⟩=some (.int .i64 1):=HB2.out.cellAt 1
 go_wp2_with fail
 refine (K5.out _).mono ?_;rintro e w3 ⟨rfl,hb3⟩
 have HB3:=Lib.hid (HB2.out.later hb3)
 clear c1 c2
 have c1:w3.cell? ⟨w.heap.size,4,none⟩=some (.slice none 0 0):=HB3.out.cellAt 4
 have c2:w3.cell? ⟨w.heap.size,3,none⟩=some (.slice none 0 0):=HB3.out.cellAt 3
 go_wp2_with fail
 refine (K6.out _).mono ?_;rintro e w4 ⟨rfl,hb4⟩
 have HB4:=Lib.hid (HB3.out.later hb4)
 clear c1 c2
 have c1:w4.cell? ⟨w.heap.size,4,none⟩=some (.slice none 0 0):=HB4.out.cellAt 4
 have c2:w4.cell? ⟨w.heap.size,2,none⟩=some (.slice none 0 0):=HB4.out.cellAt 2
 go_wp2_with fail
 refine (K7.out _).mono ?_;rintro e w5 ⟨rfl,hb5⟩
 have hc1:=hb0.trans (hb1.mono hb0.size)
 have hc2:=hc1.trans (hb2.mono hc1.size)
 have hc3:=hc2.trans (hb3.mono hc2.size)
 have hc4:=hc3.trans (hb4.mono hc3.size)
 have hc5:=hc4.trans (hb5.mono hc4.size)
 go_wp2_with fail
 go_ret
 exact ⟨rfl,hc5⟩
end
section
open Go.RowKit
theorem insQ_end {q:Qx}{Q:List Qx}(h:lbK q.1 (Q.map fun q=>q.1)=Q.length):insQ q Q=Q ++ [q]:=by
 unfold insQ
 rw [h,List.take_length,List.drop_length]
theorem InsQ.end {b:Nat}{vQ:Value}{Q:List Qx}{q:Qx}(h:lbK q.1 (Q.map fun q=>q.1)=Q.length)(hQ:Q.length<=1000):InsQ b vQ Q q:=by
 intro ad c w hO hr hb _ _ _
 rw [insQ_end h,h]
 refine (insertQ_end b vQ Q q ad c Q.length w (show _=_ from rfl) hQ hO hr hb).mono ?_
 rintro e w' ⟨⟨v',rfl,h1,h2⟩,h3⟩
 refine ⟨⟨v',rfl,h1,h2.imp id fun e k hk=>?_⟩,?_⟩
 ·rw [e] at hk;injection hk with hk;omega
 ·exact (GrP.of h3)
theorem bare_alone {S T:Sg}(h:S.bare=T.bare)(hM:T.M=[])(hJ:T.J=[]):S=T:=by
 obtain ⟨a,b,M,Q,J⟩:=S
 obtain ⟨a',b',M',Q',J'⟩:=T
 simp only at hM hJ
 subst hM hJ
 unfold Sg.bare at h
 injection h with h1 h2 h3 h4 h5
 have e1:M=[]:=List.map_eq_nil_iff.1 h3
 have e2:J=[]:=List.map_eq_nil_iff.1 h5
 have h1':a=a':=h1
 have h2':b=b':=h2
 have h4':Q=Q':=h4
 rw [h1',h2',e1,h4',e2]
def ozA:Oz:=⟨{ Ov.zero with k:=3,qn:=⟨#[113]⟩ },none,0,0,none,0,0⟩
def sgA:Sg:={ Sg.new with Q:=[(⟨#[113]⟩,0,0,0)] }
theorem ozA_ok (w:World):OzOk w ozA:=⟨LbOk.nil w,LbOk.nil w,by decide,by decide,by decide,by decide,by decide,by decide,by decide⟩
theorem ozA_B:opB ozA.v=true:=by kernel_rfl
theorem addA:addQ Sg.new ozA.que=(sgA,0,[]):=by kernel_rfl
theorem addB:addQ sgA ozA.que=(sgA,8,[]):=by kernel_rfl
theorem smA:Sm sgA:=⟨by decide,by decide,by decide,fun x hx=>(by cases hx),fun x hx=>(by cases hx),by decide,by decide⟩
theorem ascA0:AscK (Sg.new.Q.map fun q=>q.1):=fun i j hi hj h=>by simp [Sg.new] at hj
theorem ascA1:AscK (sgA.Q.map fun q=>q.1):=fun i j hi hj h=>by
 have:j<1:=hj
 omega
theorem hasA1:hasK ozA.que.1 (sgA.Q.map fun q=>q.1)=true:=by kernel_rfl
theorem doA (b g:Nat)(vM vQ vJ:Value)(w:World)(hG:∃ lst,Gs w b g lst vM vQ vJ Sg.new):Calls Tryz.prog 18 #[.pointer (some ⟨g,0,none⟩),.agg ozA.arr] w fun e w'=>
   (∃ A n c,e = .returned (.agg #[.int .i64 0,.slice A n c]))/\Went w w' b g vM vQ vJ Sg.new sgA:=by
 have h:=do_any b g vM vQ vJ Sg.new ozA (sgA,0,[]) w hG (ozA_ok w) (fun _=>by rw [<- addA];exact perform_3 b g vM vQ vJ Sg.new ozA rfl sm_new ascA0 (fun _=>InsQ.end (by rfl) (by decide)))
 rw [ozA_B] at h
 refine h.mono ?_
 rintro e w' ⟨⟨A,n,c,rfl,_⟩,hW⟩
 exact ⟨⟨A,n,c,rfl⟩,hW⟩
theorem doB (b g:Nat)(vM vQ vJ:Value)(w:World)(hG:∃ lst,Gs w b g lst vM vQ vJ sgA):Calls Tryz.prog 18 #[.pointer (some ⟨g,0,none⟩),.agg ozA.arr] w fun e w'=>
   (∃ A n c,e = .returned (.agg #[.int .i64 8,.slice A n c]))/\Went w w' b g vM vQ vJ sgA sgA:=by
 have h:=do_any b g vM vQ vJ sgA ozA (sgA,8,[]) w hG (ozA_ok w) (fun _=>by rw [<- addB];exact perform_3 b g vM vQ vJ sgA ozA rfl smA ascA1 (fun h=>by rw [hasA1] at h;cases h))
 rw [ozA_B] at h
 refine h.mono ?_
 rintro e w' ⟨⟨A,n,c,rfl,_⟩,hW⟩
 exact ⟨⟨A,n,c,rfl⟩,hW⟩
theorem Went.below {w w':World}{b g:Nat}{lst:Int}{vM vQ vJ:Value}{S T:Sg}(hG:Gs w b g lst vM vQ vJ S)(hb:b<=w.heap.size)(h:Went w w' b g vM vQ vJ S T):Below b w w':=by
 obtain ⟨_,_,_,_,_,_,_,h3,_⟩:=h
 exact h3.below hb fun k hk=>(hG.blk hk).1
theorem stateA (b g:Nat) (lst:Int)(vM vQ vJ:Value)(w:World)(hG:Gs w b g lst vM vQ vJ sgA):Calls Tryz.prog 20 #[.pointer (some ⟨g,0,none⟩)] w fun e w'=>
  (∃ A N c B d C n f,e = .returned (.agg #[.int .i64 0,.int .i64 1,.slice A N c,.slice B 1 d,.slice C n f]))/\Below w.heap.size w w':=by
 refine (state_any b g lst vM vQ vJ sgA w hG smA).mono ?_
 rintro e w' ⟨⟨vM6,vQ6,vJ6,S6,rfl,hO6,hS6⟩,hb6⟩
 obtain rfl:S6=sgA:=bare_alone hS6 rfl rfl
 obtain ⟨B6,c6,hv6,_,_,_,_⟩:=hO6.Q.sl
 have hv7:vQ6 = .slice B6 1 c6:=hv6
 obtain ⟨A6,d6,hv8,_,_,_,_⟩:=hO6.M.sl
 obtain ⟨C6,f6,hv9,_,_,_,_⟩:=hO6.J.sl
 subst hv7 hv8 hv9
 exact ⟨⟨_,_,_,_,_,_,_,_,rfl⟩,hb6⟩
theorem fieldA (A:Option Addr) (N c:Nat)(B:Option Addr) (d:Nat)(C:Option Addr) (n f:Nat)(w:World):(Instr.field 31 (.agg #[.int .i64 0,.int .i64 1,.slice A N c,.slice B 1 d,.slice C n f]) 3).run Tryz.prog w = .ok (.slice B 1 d) w:=by kernel_rfl


theorem awake15_any (w:World):Calls Tryz.prog 12 #[] w fun e w'=>e = .returned (.bool true)/\Below w.heap.size w w':=by
 have K1:=Lib.hid (fun W=>new_any W)
 have K2:=Lib.hid (fun b g vM vQ vJ W h=>doA b g vM vQ vJ W h)
 have K3:=Lib.hid (fun b g vM vQ vJ W h=>doB b g vM vQ vJ W h)
 have K4:=Lib.hid (fun b g lst vM vQ vJ (W:World)(h:Gs W b g lst vM vQ vJ sgA)=>stateA b g lst vM vQ vJ W h)
 have hfd:=fieldA
 have K5:=Lib.hid (fun W=>right_blank W)
 go_enter Tryz.func12,Tryz.ntmps12
 go_wp2_with fail
 refine (K1.out _).mono ?_;rintro e w1 ⟨rfl,hG1,hb1⟩
 have HG1:=Lib.hid hG1;clear hG1
 go_wp2_with fail
 refine (K2.out w.heap.size w.heap.size _ _ _ w1 ⟨0,HG1.out⟩).mono ?_;rintro e w2 ⟨⟨A2,n2,c2,rfl⟩,hW2⟩
 have hb2:Below w.heap.size w w2:=hb1.trans (hW2.below HG1.out hb1.size)
 obtain ⟨lst2,vM2,vQ2,vJ2,S2,hG2,hS2,_,_⟩:=hW2
 obtain rfl:S2=sgA:=bare_alone hS2 rfl rfl
 have HG2:=Lib.hid hG2;clear hG2 HG1 hS2
 go_wp2_with ((with_reducible refine store_bk rfl 36 (.tmp 2) (.tmp 10) rfl w2.heap.size 0 #[.int .i64 0,.slice A2 n2 c2] rfl rfl 36 _ #[.int .i64 0,.slice A2 n2 c2] (Bk.fresh _ _ _) (by kernel_rfl) (by simp) (by kernel_rfl) rfl ?_);intro w3 hB3 hg3 hs3;have hbl3:Below w2.heap.size w2 w3:=grown_below ((Below.refl _ _).alloc (Nat.le_refl _) _) hg3 (Nat.le_refl _);have HB3:=Lib.hid hB3;have HG3:=Lib.hid (HG2.out.below hbl3);have hb3:Below w.heap.size w w3:=hb2.trans (hbl3.mono hb2.size);clear hB3 hg3 hs3)
 refine (K3.out w.heap.size w.heap.size _ _ _ w3 ⟨_,HG3.out⟩).mono ?_;rintro e w4 ⟨⟨A4,n4,c4,rfl⟩,hW4⟩
 have hb4:Below w.heap.size w w4:=hb3.trans (hW4.below HG3.out hb3.size)
 have HB4:Hid (Bk w4 w2.heap.size 36 #[.int .i64 0,.slice A2 n2 c2]):=by
  obtain ⟨_,_,_,_,_,_,_,h3,_⟩:=hW4
  exact HB3.out.grp h3 fun e=>Nat.lt_irrefl _ (HG2.out.blk e).2
 obtain ⟨lst4,vM4,vQ4,vJ4,S4,hG4,hS4,_,_⟩:=hW4
 obtain rfl:S4=sgA:=bare_alone hS4 rfl rfl
 have HG4:=Lib.hid hG4;clear hG4 HG3 hS4 HB3 HG2
 go_wp2_with ((with_reducible refine store_bk rfl 36 (.tmp 3) (.tmp 14) rfl w4.heap.size 0 #[.int .i64 8,.slice A4 n4 c4] rfl rfl 36 _ #[.int .i64 8,.slice A4 n4 c4] (Bk.fresh _ _ _) (by kernel_rfl) (by simp) (by kernel_rfl) rfl ?_);intro w5 hB5 hg5 hs5;have hbl5:Below w4.heap.size w4 w5:=grown_below ((Below.refl _ _).alloc (Nat.le_refl _) _) hg5 (Nat.le_refl _);have HB5:=Lib.hid hB5;have HA5:=Lib.hid (HB4.out.later hbl5);have HG5:=Lib.hid (HG4.out.below hbl5);have hb5:Below w.heap.size w w5:=hb4.trans (hbl5.mono hb4.size);have c0:w5.cell? ⟨w2.heap.size,0,none⟩=some (.int .i64 0):=HA5.out.cellAt 0;have c1:w5.cell? ⟨w4.heap.size,0,none⟩=some (.int .i64 8):=HB5.out.cellAt 0;clear hB5 hg5 hs5 HG4 HB4)
 refine (K4.out w.heap.size w.heap.size _ _ _ _ w5 HG5.out).mono ?_;rintro e w6 ⟨⟨A6,N6,d6,B6,c6,C6,n6,f6,rfl⟩,hb6⟩
 have hb6':Below w.heap.size w w6:=hb5.trans (hb6.mono hb5.size)
 clear HG5 HA5 HB5 c0 c1
 go_wp2_with fail
 refine (K5.out _).mono ?_;rintro e w7 ⟨rfl,hb7⟩
 go_wp2_with fail
 go_ret
 exact ⟨rfl,hb6'.trans (hb7.mono hb6'.size)⟩
end
section
open Go.RowKit
def RetIf (e:Ending)(p:Prop):Prop:=∃ b,e = .returned (.bool b)/\(b=true->p)
theorem RetIf.no {p:Prop}:RetIf (.returned (.bool false)) p:=⟨false,rfl,fun h=>by cases h⟩
theorem RetIf.yes {p:Prop}(h:p):RetIf (.returned (.bool true)) p:=⟨true,rfl,fun _=>h⟩
theorem mem_take_succ {α:Type}{p:α->Prop}{L:List α}{k:Nat}(hk:k<L.length)(h:∀ x ∈ L.take k,p x)(hx:p L[k]):∀ x ∈ L.take (k+1),p x:=by
 intro x hm
 rw [List.take_succ_eq_append_getElem hk] at hm
 rcases List.mem_append.1 hm with h1 | h1
 ·exact h x h1
 ·rw [List.mem_singleton] at h1;subst h1;exact hx
end
end Go.Proofs.YtccccbofcnmdiaaGreat
