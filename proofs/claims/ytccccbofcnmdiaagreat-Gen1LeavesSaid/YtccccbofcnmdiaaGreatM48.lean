/- Lemmas that the law stands on. No condition. -/
import Derived.Test.YtccccbofcnmdiaaGreatM47
namespace Go.Proofs.YtccccbofcnmdiaaGreat
set_option linter.unusedSimpArgs false
set_option linter.unusedVariables false
set_option maxRecDepth 100000
set_option maxHeartbeats 51200000
section
open Go.RowKit
theorem ascK_pw {K:List ByteArray}:AscK K ↔ K.Pairwise fun a b=>sL a b=true:=by
 unfold AscK
 rw [List.pairwise_iff_getElem]
theorem ascK_erase {K:List ByteArray} (h:AscK K) (p:Nat):AscK (K.eraseIdx p):=ascK_pw.2 ((ascK_pw.1 h).sublist (List.eraseIdx_sublist _ _))
theorem ascK_ins {s:ByteArray} {K:List ByteArray} (h:AscK K) (hn:hasK s K=false):AscK (K.take (lbK s K) ++ s :: K.drop (lbK s K)):=by
 have hlt:∀ x ∈ K.take (lbK s K),sL x s=true:=fun x hx=>by
  obtain ⟨t,ht,rfl⟩:=List.getElem_of_mem hx
  rw [List.getElem_take]
  rw [List.length_take] at ht
  exact lbK_lt (by omega) (by omega)
 have hge:∀ y ∈ K.drop (lbK s K),sL s y=true:=fun y hy=>by
  obtain ⟨t,ht,rfl⟩:=List.getElem_of_mem hy
  rw [List.length_drop] at ht
  rw [List.getElem_drop]
  have hm:lbK s K<K.length:=by omega
  have h0:sL s K[lbK s K]=true:=by
   rcases sL_total (lbK_at hm) with h1 | h1
   ·exact h1
   ·exfalso
    have:hasK s K=true:=List.any_eq_true.2 ⟨_,List.getElem_mem hm,by rw [h1];exact sE_refl s⟩
    rw [this] at hn;cases hn
  by_cases e:t=0
  ·subst e;exact h0
  ·exact sL_trans h0 (h _ _ hm (by omega) (by omega))
 have hp:=ascK_pw.1 h
 refine ascK_pw.2 (List.pairwise_append.2 ⟨hp.sublist (List.take_sublist _ _),List.pairwise_cons.2 ⟨hge,hp.sublist (List.drop_sublist _ _)⟩,fun x hx y hy=>?_⟩)
 rcases List.mem_cons.1 hy with rfl | hy
 ·exact hlt x hx
 ·exact sL_trans (hlt x hx) (hge y hy)
theorem keyM_ins (q:Ml) (M:List Ml):keyM (insM q M)=(keyM M).take (lbK q.1.nm (keyM M)) ++ q.1.nm :: (keyM M).drop (lbK q.1.nm (keyM M)):=by
 unfold insM;simp [keyM,List.map_take,List.map_drop]
theorem keyQ_ins (q:Qx) (Q:List Qx):keyQ (insQ q Q)=(keyQ Q).take (lbK q.1 (keyQ Q)) ++ q.1 :: (keyQ Q).drop (lbK q.1 (keyQ Q)):=by
 unfold insQ;simp [keyQ,List.map_take,List.map_drop]
theorem keyM_erase (M:List Ml) (p:Nat):keyM (M.eraseIdx p)=(keyM M).eraseIdx p:=by
 rw [List.eraseIdx_eq_take_drop_succ,List.eraseIdx_eq_take_drop_succ];simp [keyM,List.map_take,List.map_drop]
theorem keyQ_erase (Q:List Qx) (p:Nat):keyQ (Q.eraseIdx p)=(keyQ Q).eraseIdx p:=by
 rw [List.eraseIdx_eq_take_drop_succ,List.eraseIdx_eq_take_drop_succ];simp [keyQ,List.map_take,List.map_drop]
structure In2 (m:Int) (S:Sg):Prop where
 M:S.M.length<=16
 Q:S.Q.length<=8
 J:S.J.length<=48
 lM:∀ x ∈ S.M,x.2.length<=1000
 lJ:∀ x ∈ S.J,x.2.length<=1000
 nx:1<=S.nx/\S.nx<=1073741824
 ck:0<=S.ck/\S.ck<=1073741824
 aM:AscK (keyM S.M)
 aQ:AscK (keyQ S.Q)
 bo:BoK m S.J
theorem In2.inv {m:Int} {S:Sg} (h:In2 m S) (hm:m<=1152921504606846976):Inv S:=
 ⟨⟨by have:=h.M;omega,by have:=h.Q;omega,by have:=h.J;omega,h.lM,h.lJ,by have:=h.nx;omega,by have:=h.ck;omega⟩,⟨h.aM,h.aQ⟩,h.bo.up hm⟩
theorem In2.up {m m':Int} {S:Sg} (h:In2 m S) (hm:m<=m'):In2 m' S:=⟨h.M,h.Q,h.J,h.lM,h.lJ,h.nx,h.ck,h.aM,h.aQ,h.bo.up hm⟩
section
variable {m:Int} {S:Sg}
theorem In2.addN (h:In2 m S) (nm:ByteArray) (a b c:Int) (l:List Lb) (hl:l.length<=1000):In2 m (addN S nm a b c l).1:=by
 unfold Go.Proofs.YtccccbofcnmdiaaGreat.addN
 cases hf:hasK nm (keyM S.M) with
 | true=>exact h
 | false=>
  rw [if_neg (by decide)]
  split
  ·exact h
  ·next hs=>
   refine ⟨?_,h.Q,h.J,fun x hx=>?_,h.lJ,h.nx,h.ck,?_,h.aQ,h.bo⟩
   ·show (insM _ _).length<=16
    have h1:=lbK_le nm (keyM S.M)
    rw [List.length_map] at h1
    unfold insM
    rw [List.length_append,List.length_cons,List.length_take,List.length_drop]
    show min (lbK nm (keyM S.M)) _+(_ - lbK nm (keyM S.M)+1)<=16
    omega
   ·have hx':x ∈ insM (newM S.ck nm a b c none 0 0 l) S.M:=hx
    unfold insM at hx'
    rcases List.mem_append.1 hx' with hx | hx
    ·exact h.lM x (List.mem_of_mem_take hx)
    ·rcases List.mem_cons.1 hx with rfl | hx
     ·exact hl
     ·exact h.lM x (List.mem_of_mem_drop hx)
   ·show AscK (keyM (insM _ _))
    rw [keyM_ins]
    exact ascK_ins h.aM hf
theorem In2.addQ (h:In2 m S) (q:Qx):In2 m (addQ S q).1:=by
 unfold Go.Proofs.YtccccbofcnmdiaaGreat.addQ
 cases hf:hasK q.1 (S.Q.map fun q=>q.1) with
 | true=>exact h
 | false=>
  rw [if_neg (by decide)]
  split
  ·exact h
  ·next hs=>
   refine ⟨h.M,?_,h.J,h.lM,h.lJ,h.nx,h.ck,h.aM,?_,h.bo⟩
   ·show (insQ _ _).length<=8
    have h1:=lbK_le q.1 (keyQ S.Q)
    rw [List.length_map] at h1
    unfold insQ
    rw [List.length_append,List.length_cons,List.length_take,List.length_drop]
    show min (lbK q.1 (keyQ S.Q)) _+(_ - lbK q.1 (keyQ S.Q)+1)<=8
    omega
   ·show AscK (keyQ (insQ _ _))
    rw [keyQ_ins]
    exact ascK_ins h.aQ hf
theorem BoK.sub {J K:List Jl} (h:BoK m K) (hs:∀ x ∈ J,x ∈ K):BoK m J:=fun x hx=>h x (hs x hx)
theorem BoK.same {J K:List Jl} (h:BoK m K) (hc:J.map coreB=K.map coreB):BoK m J:=fun x hx=>by
 have hm:coreB x ∈ K.map coreB:=by rw [<- hc];exact List.mem_map_of_mem hx
 obtain ⟨y,hy,e⟩:=List.mem_map.1 hm
 have e2:y.1.bo=x.1.bo:=by have h:=congrArg (fun x:Jl=>x.1.bo) e;exact h
 rw [<- e2];exact h y hy
theorem lab_same {J K:List Jl} (hc:J.map core=K.map core) (h:∀ x ∈ K,x.2.length<=1000):∀ x ∈ J,x.2.length<=1000:=fun x hx=>by
 obtain ⟨y,hy,e⟩:=core_mem hc hx
 rw [<- (core_tk e).2];exact h y hy
theorem In2.withJ {m':Int} {J:List Jl} (h:In2 m S) (hc:J.map core=S.J.map core) (hb:BoK m' J):In2 m' { S with J:=J }:=
 ⟨h.M,h.Q,by have:=congrArg List.length hc;rw [List.length_map,List.length_map] at this;show J.length<=48;rw [this];exact h.J,h.lM,lab_same hc h.lJ,h.nx,h.ck,h.aM,h.aQ,hb⟩
theorem In2.cutJ (h:In2 m S) (p:Nat):In2 m { S with J:=S.J.eraseIdx p }:=
 ⟨h.M,h.Q,Nat.le_trans (List.length_eraseIdx_le _ _) h.J,h.lM,fun x hx=>h.lJ x (List.mem_of_mem_eraseIdx hx),h.nx,h.ck,h.aM,h.aQ,h.bo.sub fun x hx=>List.mem_of_mem_eraseIdx hx⟩
theorem In2.dropN (h:In2 m S) (s:ByteArray):In2 m (dropN' S s).1:=by
 unfold dropN'
 split
 ·have h1:In2 m { S with J:=relJ s S.J }:=h.withJ (coreB_core (relJ_core s S.J)) (h.bo.same (relJ_core s S.J))
  exact ⟨Nat.le_trans (List.length_eraseIdx_le _ _) h.M,h.Q,h1.J,fun x hx=>h.lM x (List.mem_of_mem_eraseIdx hx),h1.lJ,h.nx,h.ck,by show AscK (keyM (S.M.eraseIdx _));rw [keyM_erase];exact ascK_erase h.aM _,h.aQ,h1.bo⟩
 ·exact h
theorem In2.dropQ (h:In2 m S) (s:ByteArray):In2 m (dropQ S s).1:=by
 unfold Go.Proofs.YtccccbofcnmdiaaGreat.dropQ
 split
 ·split
  ·exact h
  ·exact ⟨h.M,Nat.le_trans (List.length_eraseIdx_le _ _) h.Q,h.J,h.lM,h.lJ,h.nx,h.ck,h.aM,by show AscK (keyQ (S.Q.eraseIdx _));rw [keyQ_erase];exact ascK_erase h.aQ _,h.bo⟩
 ·exact h
theorem In2.canJ (h:In2 m S) (s:ByteArray):In2 m (canJ S s).1:=by
 unfold Go.Proofs.YtccccbofcnmdiaaGreat.canJ
 split
 ·exact h
 ·exact h.cutJ _
theorem In2.finJ (h:In2 m S) (s:ByteArray):In2 m (finJ S s).1:=by
 unfold Go.Proofs.YtccccbofcnmdiaaGreat.finJ
 split
 ·exact h
 ·split
  ·exact h
  ·exact h.cutJ _
theorem map_modify_same {α β:Type} {f:α->β} {g:α->α} {l:List α} {p:Nat} (h:∀ x,f (g x)=f x):(l.modify p g).map f=l.map f:=by
 by_cases hp:p<l.length
 ·rw [modify_set hp];exact map_set_same fun _=>h _
 ·rw [List.modify_eq_self (by omega)]
theorem In2.beatN (h:In2 m S) (s:ByteArray):In2 m (beatN S s).1:=by
 unfold Go.Proofs.YtccccbofcnmdiaaGreat.beatN
 split
 ·refine ⟨by show (S.M.modify _ _).length<=16;rw [List.length_modify];exact h.M,h.Q,h.J,fun x hx=>?_,h.lJ,h.nx,h.ck,?_,h.aQ,h.bo⟩
  ·have h1:(S.M.modify (lbK s (keyM S.M)) (upX S.ck)).map Prod.snd=S.M.map Prod.snd:=map_modify_same fun _=>rfl
   have hm:x.2 ∈ S.M.map Prod.snd:=by rw [<- h1];exact List.mem_map_of_mem hx
   obtain ⟨y,hy,e⟩:=List.mem_map.1 hm
   rw [<- e];exact h.lM y hy
  ·show AscK (keyM (S.M.modify _ _))
   rw [show keyM (S.M.modify (lbK s (keyM S.M)) (upX S.ck))=keyM S.M from map_modify_same fun _=>rfl]
   exact h.aM
 ·exact h
theorem In2.subJ (h:In2 m S) (hm:0<=m) (nm qu:ByteArray) (pr a b c:Int) (ap ga:ByteArray) (sz:Int) (l:List Lb) (hl:l.length<=1000):In2 m (subJ S nm qu pr a b c ap ga sz l).1:=by
 unfold Go.Proofs.YtccccbofcnmdiaaGreat.subJ
 split
 ·exact h
 split
 ·exact h
 split
 ·exact h
 split
 ·exact h
 split
 ·exact h
 ·next h5 h4 h3 h2 h1=>
  have hmem:∀ x ∈ S.J ++ [newJ S.nx nm qu pr a b c none 0 0 ap ga sz l],x ∈ S.J ∨ x=newJ S.nx nm qu pr a b c none 0 0 ap ga sz l:=fun x hx=>(List.mem_append.1 hx).imp id List.mem_singleton.1
  refine ⟨h.M,h.Q,?_,h.lM,fun x hx=>?_,?_,h.ck,h.aM,h.aQ,fun x hx=>?_⟩
  ·show (S.J ++ [_]).length<=48;rw [List.length_append,List.length_singleton];omega
  ·rcases hmem x hx with hx | rfl
   ·exact h.lJ x hx
   ·exact hl
  ·show 1<=S.nx+1/\S.nx+1<=1073741824;have:=h.nx;omega
  ·rcases hmem x hx with hx | rfl
   ·exact h.bo x hx
   ·exact ⟨by show (_:Int)<=0;omega,hm⟩
theorem expK_key (S:Sg):∀ k,keyM (expK S k).1.M=keyM S.M
 | 0=>rfl
 | k+1=>by
  rw [expK_succ]
  have ih:=expK_key S k
  unfold expS
  split
  ·exact (map_set_same fun hp=>by rw [ml_at hp];rfl).trans ih
  ·exact ih
theorem passK_bo {bs:Bst} {ch:Chs15} {M:List Ml} {J:List Jl} {U:List (List Nat)} (hm:0<=m) (hU:∀ u ∈ U,u.length<=1000) (hb:BoK m J):∀ k,k<=U.length->(passK bs ch M J U k).1.map core=J.map core/\BoK (m+1001 * (k:Int)) (passK bs ch M J U k).1
 | 0,_=>⟨rfl,hb.up (by omega)⟩
 | k+1,hk=>by
  obtain ⟨h1,h2⟩:=passK_bo (bs:=bs) (ch:=ch) (M:=M) hm hU hb k (by omega)
  have hu:=hU _ (List.getElem_mem (show k<U.length by omega))
  rw [passK_succ (by omega)]
  exact ⟨unitG_core.trans h1,(unitG_bok (by omega) hu h2).up (by omega)⟩
theorem In2.expG (h:In2 m S):In2 m (expG S).1:=by
 obtain ⟨h1,h2,h3,h4,h5⟩:=expK_same S S.M.length
 obtain ⟨l1,l2,_⟩:=expK_len (S:=S) S.M.length
 refine ⟨by unfold Go.Proofs.YtccccbofcnmdiaaGreat.expG;rw [l1];exact h.M,by unfold Go.Proofs.YtccccbofcnmdiaaGreat.expG;rw [h3];exact h.Q,by unfold Go.Proofs.YtccccbofcnmdiaaGreat.expG;rw [l2];exact h.J,fun x hx=>?_,fun x hx=>?_,by unfold Go.Proofs.YtccccbofcnmdiaaGreat.expG;rw [h5];exact h.nx,by unfold Go.Proofs.YtccccbofcnmdiaaGreat.expG;rw [h4];exact h.ck,by unfold Go.Proofs.YtccccbofcnmdiaaGreat.expG;rw [expK_key];exact h.aM,by unfold Go.Proofs.YtccccbofcnmdiaaGreat.expG;rw [h3];exact h.aQ,by unfold Go.Proofs.YtccccbofcnmdiaaGreat.expG;exact h.bo.same h1⟩
 ·have hm:x.2 ∈ S.M.map Prod.snd:=by rw [<- h2];exact List.mem_map_of_mem hx
  obtain ⟨y,hy,e⟩:=List.mem_map.1 hm
  rw [<- e];exact h.lM y hy
 ·exact lab_same (coreB_core h1) h.lJ x hx
theorem In2.tickG {bs:Bst} {ch:Chs15} {un:Uns} (hU:UniK un) (h:In2 m S) (hm:0<=m):In2 (m+1001000) (tickG bs ch un S).1:=by
 unfold Go.Proofs.YtccccbofcnmdiaaGreat.tickG
 split
 ·exact h.up (by omega)
 ·next hov=>
  have h1:In2 m { S with ck:=S.ck+1 }:=⟨h.M,h.Q,h.J,h.lM,h.lJ,h.nx,(show 0<=S.ck+1/\S.ck+1<=1073741824 by have:=h.ck;omega),h.aM,h.aQ,h.bo⟩
  have h2:=h1.expG
  obtain ⟨T,hT⟩:∃ T,T=Go.Proofs.YtccccbofcnmdiaaGreat.expG { S with ck:=S.ck+1 }:=⟨_,rfl⟩
  rw [<- hT] at h2 ⊢
  have hb:=passK_bo (bs:=bs) (ch:=ch) (M:=T.1.M) hm (fun u hu=>Nat.le_trans (hU.few T.1.J u hu) (Nat.le_trans h2.J (by decide))) h2.bo (un T.1.J).length (Nat.le_refl _)
  have hl:=Nat.le_trans (hU.len T.1.J) h2.J
  exact h2.withJ hb.1 (hb.2.up (by omega))
theorem In2.step {bs:Bst} {ch:Chs15} {un:Uns} (hU:UniK un) (h:In2 m S) (hm:0<=m) (v:Ov) (hl1:v.l1.length<=1000) (hl3:v.l3.length<=1000):In2 (m+1001000) (stepG bs ch un S v).1:=by
 have hu:m<=m+1001000:=by omega
 unfold stepG
 split
 ·unfold opG
  split
  ·exact (h.addN _ _ _ _ _ hl1).up hu
  split
  ·exact (h.dropN _).up hu
  split
  ·exact (h.addQ _).up hu
  split
  ·exact (h.dropQ _).up hu
  split
  ·exact (h.subJ hm _ _ _ _ _ _ _ _ _ _ hl3).up hu
  split
  ·exact (h.canJ _).up hu
  split
  ·exact (h.finJ _).up hu
  split
  ·exact (h.beatN _).up hu
  ·exact h.tickG hU hm
 ·exact h.up hu
end
theorem in2_new:In2 0 Sg.new:=⟨by decide,by decide,by decide,fun x hx=>(by cases hx),fun x hx=>(by cases hx),by decide,by decide,fun i j hi=>(by cases hi),fun i j hi=>(by cases hi),fun x hx=>(by cases hx)⟩
end
section
open Go.RowKit
structure Bare3 (bs:Bst) (ch:Chs15) (un:Uns):Prop where
 b:∀ M J p,bs (bM M) (bL J) p=bs M J p
 c:∀ M J p,ch (bM M) (bL J) p=ch M J p
 u:∀ J,un (bL J)=un J
theorem map_erase {α β:Type} (f:α->β) (l:List α) (p:Nat):(l.eraseIdx p).map f=(l.map f).eraseIdx p:=by
 rw [List.eraseIdx_eq_take_drop_succ,List.eraseIdx_eq_take_drop_succ,List.map_append,List.map_take,List.map_drop]
theorem map_modify2 {α:Type} {f g:α->α} {l:List α} {p:Nat} (h:∀ x,f (g x)=g (f x)):(l.modify p g).map f=(l.map f).modify p g:=by
 by_cases hp:p<l.length
 ·rw [modify_set hp,modify_set (by simpa using hp),List.map_set,List.getElem_map,h]
 ·rw [List.modify_eq_self (by omega),List.modify_eq_self (by simp;omega)]
theorem keyM_bare (M:List Ml):keyM (bM M)=keyM M:=by unfold keyM bM;rw [List.map_map];rfl
theorem hasJ_bare (s:ByteArray) (J:List Jl):hasJ s (bL J)=hasJ s J:=by unfold hasJ bL;rw [List.any_map];rfl
theorem jbs_bare (J:List Jl):jbs (bL J)=bJ (jbs J):=by unfold jbs bL bJ;rw [List.map_map,List.map_map];rfl
theorem fnd_bare (s:ByteArray):∀ (k:Nat) (l:List Jb),fnd s k (bJ l)=fnd s k l
 | k,[]=>rfl
 | k,j :: l=>by
  show fnd s k (j.bare :: bJ l)=_
  unfold fnd
  rw [fnd_bare s (k+1) l];rfl
theorem plJ_bare (s:ByteArray) (J:List Jl):plJ s (bL J)=plJ s J:=by unfold plJ;rw [jbs_bare,fnd_bare]
theorem jl_bare (J:List Jl) (p:Nat):jl (bL J) p=bY (jl J p):=by
 by_cases hp:p<J.length
 ·rw [jl_at hp,jl_at (show p<(bL J).length by simpa using hp)];simp only [bL,List.getElem_map]
 ·rw [jl_no (J:=J) (show J.length<=p by omega),jl_no (J:=bL J) (show (bL J).length<=p by rw [List.length_map];omega)];rfl
theorem ml_bare (M:List Ml) (p:Nat):ml (bM M) p=bX (ml M p):=by
 by_cases hp:p<M.length
 ·rw [ml_at hp,ml_at (show p<(bM M).length by simpa using hp)];simp only [bM,List.getElem_map]
 ·unfold ml;rw [List.getD_eq_getElem?_getD,List.getD_eq_getElem?_getD,List.getElem?_eq_none (l:=bM M) (show (bM M).length<=p by rw [List.length_map];omega),List.getElem?_eq_none (l:=M) (show M.length<=p by omega)];rfl
theorem relJ_bare (s:ByteArray) (J:List Jl):relJ s (bL J)=bL (relJ s J):=by
 unfold relJ bL
 rw [List.map_map,List.map_map]
 refine List.map_congr_left fun x _=>?_
 show relX s (bY x)=bY (relX s x)
 unfold relX
 show (if sE x.1.nd s then _ else _)=_
 cases sE x.1.nd s <;> rfl
theorem relA_bare (s:ByteArray) (J:List Jl):relA s (bL J)=relA s J:=by
 unfold relA bL
 rw [List.filter_map,List.map_map];rfl
theorem ofQ_bare (s:ByteArray) (l:List Jb):ofQ s (bJ l)=ofQ s l:=by
 unfold ofQ bJ
 rw [List.filter_map,List.map_map];rfl
theorem admQ_bare (q:Qx) (J:List Jl) (d e f:Int):admQ q (bL J) d e f=admQ q J d e f:=by unfold admQ usdJ;rw [jbs_bare,ofQ_bare]
theorem insM_bare2 (q:Ml) (M:List Ml):insM (bX q) (bM M)=bM (insM q M):=by
 unfold insM
 rw [keyM_bare]
 show (bM M).take (lbK q.1.nm (keyM M)) ++ bX q :: (bM M).drop (lbK q.1.nm (keyM M))=_
 simp only [bM,List.map_append,List.map_cons,List.map_take,List.map_drop]
section
variable {bs:Bst} {ch:Chs15} {un:Uns} {S:Sg} {M:List Ml} {J:List Jl}
def bR (R:Sg × An):Sg × An:=(R.1.bare,R.2)
theorem addN_bare (nm:ByteArray) (a b c:Int) (l:List Lb):addN S.bare nm a b c l=bR (addN S nm a b c l):=by
 unfold addN
 show (if hasK nm (keyM (bM S.M)) then _ else if 16<=(bM S.M).length then _ else _)=_
 rw [keyM_bare,List.length_map]
 split
 ·rfl
 ·split
  ·rfl
  ·show ((⟨S.ck,S.nx,insM (newM S.ck nm a b c none 0 0 l) (bM S.M),S.Q,bL S.J⟩:Sg),_)=((⟨S.ck,S.nx,bM (insM (newM S.ck nm a b c none 0 0 l) S.M),S.Q,bL S.J⟩:Sg),_)
   rw [<- insM_bare2];rfl
theorem addQ_bare (q:Qx):addQ S.bare q=bR (addQ S q):=by
 unfold addQ
 show (if hasK q.1 (S.Q.map fun q=>q.1) then _ else if 8<=S.Q.length then _ else _)=_
 split
 ·rfl
 ·split <;> rfl
theorem dropN_bare (s:ByteArray):dropN' S.bare s=bR (dropN' S s):=by
 unfold dropN'
 show (if hasK s (keyM (bM S.M)) then _ else _)=_
 rw [keyM_bare]
 split
 ·show ((⟨S.ck,S.nx,(bM S.M).eraseIdx (lbK s (keyM (bM S.M))),S.Q,relJ s (bL S.J)⟩:Sg),_,relA s (bL S.J))=((⟨S.ck,S.nx,bM (S.M.eraseIdx (lbK s (keyM S.M))),S.Q,bL (relJ s S.J)⟩:Sg),_,relA s S.J)
  rw [keyM_bare,relJ_bare,relA_bare];unfold bM;rw [map_erase]
 ·rfl
theorem dropQ_bare (s:ByteArray):dropQ S.bare s=bR (dropQ S s):=by
 unfold dropQ
 show (if hasK s (keyQ S.Q) then (if hasJ s (bL S.J) then _ else _) else _)=_
 rw [hasJ_bare]
 split
 ·split <;> rfl
 ·rfl
theorem beatN_bare (s:ByteArray):beatN S.bare s=bR (beatN S s):=by
 unfold beatN
 show (if hasK s (keyM (bM S.M)) then _ else _)=_
 rw [keyM_bare]
 split
 ·show ((⟨S.ck,S.nx,(bM S.M).modify (lbK s (keyM (bM S.M))) (upX S.ck),S.Q,bL S.J⟩:Sg),_)=((⟨S.ck,S.nx,bM (S.M.modify (lbK s (keyM S.M)) (upX S.ck)),S.Q,bL S.J⟩:Sg),_)
  rw [keyM_bare];unfold bM;rw [map_modify2 (f:=bX) (g:=upX S.ck) (fun _=>rfl)]
 ·rfl
theorem canJ_bare (s:ByteArray):canJ S.bare s=bR (canJ S s):=by
 unfold canJ
 show (if plJ s (bL S.J)<0 then _ else ((⟨S.ck,S.nx,bM S.M,S.Q,(bL S.J).eraseIdx (plJ s (bL S.J)).toNat⟩:Sg),(0:Int),if wB (jl (bL S.J) (plJ s (bL S.J)).toNat).1.nd then [] else [((3:Int),(jl (bL S.J) (plJ s (bL S.J)).toNat).1.nm,(jl (bL S.J) (plJ s (bL S.J)).toNat).1.nd)]))=_
 rw [plJ_bare,jl_bare]
 split
 ·rfl
 ·show _=((⟨S.ck,S.nx,bM S.M,S.Q,bL (S.J.eraseIdx (plJ s S.J).toNat)⟩:Sg),_)
  unfold bL;rw [map_erase];rfl
theorem finJ_bare (s:ByteArray):finJ S.bare s=bR (finJ S s):=by
 unfold finJ
 show (if plJ s (bL S.J)<0 then _ else if wB (jl (bL S.J) (plJ s (bL S.J)).toNat).1.nd then _ else ((⟨S.ck,S.nx,bM S.M,S.Q,(bL S.J).eraseIdx (plJ s (bL S.J)).toNat⟩:Sg),(0:Int),([]:List Ac)))=_
 rw [plJ_bare,jl_bare]
 split
 ·rfl
 ·show (if wB (jl S.J (plJ s S.J).toNat).1.nd then _ else _)=_
  split
  ·rfl
  ·show _=((⟨S.ck,S.nx,bM S.M,S.Q,bL (S.J.eraseIdx (plJ s S.J).toNat)⟩:Sg),_)
   unfold bL;rw [map_erase]
theorem subJ_bare (nm qu:ByteArray) (pr a b c:Int) (ap ga:ByteArray) (sz:Int) (l:List Lb):subJ S.bare nm qu pr a b c ap ga sz l=bR (subJ S nm qu pr a b c ap ga sz l):=by
 unfold subJ
 show (if 0<=plJ nm (bL S.J) then _ else if hasK qu (keyQ S.Q)=false then _ else if 48<=(bL S.J).length then _ else if admQ (ql S.Q (lbK qu (keyQ S.Q))) (bL S.J) a b c ≠ 0 then (S.bare,admQ (ql S.Q (lbK qu (keyQ S.Q))) (bL S.J) a b c,_) else if 1073741824<=S.nx then _ else ((⟨S.ck,S.nx+1,bM S.M,S.Q,bL S.J ++ [newJ S.nx nm qu pr a b c none 0 0 ap ga sz l]⟩:Sg),_))=_
 rw [plJ_bare,List.length_map,admQ_bare]
 split
 ·rfl
 split
 ·rfl
 split
 ·rfl
 split
 ·rfl
 split
 ·rfl
 ·show _=((⟨S.ck,S.nx+1,bM S.M,S.Q,bL (S.J ++ [newJ S.nx nm qu pr a b c none 0 0 ap ga sz l])⟩:Sg),_)
  unfold bL;rw [List.map_append];rfl
theorem expS_bare (T:Sg × List Ac) (i:Nat):expS (T.1.bare,T.2) i=((expS T i).1.bare,(expS T i).2):=by
 unfold expS
 show (if late T.1.ck (ml (bM T.1.M) i) then ((⟨T.1.ck,T.1.nx,(bM T.1.M).set i (downX (ml (bM T.1.M) i)),T.1.Q,relJ (ml (bM T.1.M) i).1.nm (bL T.1.J)⟩:Sg),T.2 ++ relA (ml (bM T.1.M) i).1.nm (bL T.1.J)) else _)=_
 rw [ml_bare]
 show (if late T.1.ck (ml T.1.M i) then ((⟨T.1.ck,T.1.nx,(bM T.1.M).set i (bX (downX (ml T.1.M i))),T.1.Q,relJ (ml T.1.M i).1.nm (bL T.1.J)⟩:Sg),T.2 ++ relA (ml T.1.M i).1.nm (bL T.1.J)) else _)=_
 rw [relJ_bare,relA_bare]
 split
 ·show _=((⟨T.1.ck,T.1.nx,bM (T.1.M.set i (downX (ml T.1.M i))),T.1.Q,bL (relJ (ml T.1.M i).1.nm T.1.J)⟩:Sg),_)
  unfold bM;rw [List.map_set]
 ·rfl
theorem expK_bare:∀ k,expK S.bare k=((expK S k).1.bare,(expK S k).2)
 | 0=>rfl
 | k+1=>by rw [expK_succ,expK_succ,expK_bare k,expS_bare]
theorem expG_bare:expG S.bare=((expG S).1.bare,(expG S).2):=by
 unfold expG
 rw [show S.bare.M.length=S.M.length from List.length_map _]
 exact expK_bare _
theorem bindJ_bare (s:ByteArray) (p:Nat):bindJ s p (bL J)=bL (bindJ s p J):=by
 unfold bindJ
 rw [jl_bare]
 unfold bL
 rw [List.map_set];rfl
theorem tryK_bare (hB:Bare3 bs ch un) (u:List Nat):∀ k,tryK bs (bM M) (bL J) u k=(tryK bs M J u k).map fun r=>(bL r.1,r.2)
 | 0=>rfl
 | k+1=>by
  unfold tryK
  rw [tryK_bare hB u k]
  cases tryK bs M J u k with
  | none=>rfl
  | some r=>
   show (if (bs (bM M) (bL r.1) (u.getD k 0)).2 then some (bindJ (bs (bM M) (bL r.1) (u.getD k 0)).1 (u.getD k 0) (bL r.1),r.2 ++ [(1,(jl (bL r.1) (u.getD k 0)).1.nm,(bs (bM M) (bL r.1) (u.getD k 0)).1)]) else none)=Option.map _ (if (bs M r.1 (u.getD k 0)).2 then some (bindJ (bs M r.1 (u.getD k 0)).1 (u.getD k 0) r.1,r.2 ++ [(1,(jl r.1 (u.getD k 0)).1.nm,(bs M r.1 (u.getD k 0)).1)]) else none)
   rw [hB.b,bindJ_bare,jl_bare]
   split <;> rfl
theorem outS_bare (T:List Jl × List Ac) (s:ByteArray):outS (bL T.1,T.2) s=(bL (outS T s).1,(outS T s).2):=by
 unfold outS
 show ((bL T.1).set (plJ s (bL T.1)).toNat (restX (jl (bL T.1) (plJ s (bL T.1)).toNat)),T.2 ++ [((2:Int),(jl (bL T.1) (plJ s (bL T.1)).toNat).1.nm,(jl (bL T.1) (plJ s (bL T.1)).toNat).1.nd)])=_
 rw [plJ_bare,jl_bare]
 show _=(bL (T.1.set (plJ s T.1).toNat (restX (jl T.1 (plJ s T.1).toNat))),_)
 unfold bL
 rw [List.map_set];rfl
theorem evK_bare (names:List ByteArray):∀ k,k<=names.length->evK (bL J) names k=(bL (evK J names k).1,(evK J names k).2)
 | 0,_=>rfl
 | k+1,hk=>by rw [evK_succ (by omega),evK_succ (by omega),evK_bare names k (by omega),outS_bare]
theorem preG_bare (hB:Bare3 bs ch un) (p:Nat):preG ch (bM M) (bL J) p=(bL (preG ch M J p).1,(preG ch M J p).2):=by
 unfold preG
 rw [hB.c,evK_bare _ _ (Nat.le_refl _)]
 show (if (ch M J p).2.2 then (bindJ (ch M J p).1 p (bL (evK J (ch M J p).2.1 (ch M J p).2.1.length).1),(evK J (ch M J p).2.1 (ch M J p).2.1.length).2 ++ [((1:Int),(jl (bL (evK J (ch M J p).2.1 (ch M J p).2.1.length).1) p).1.nm,(ch M J p).1)]) else _)=_
 rw [bindJ_bare,jl_bare]
 split <;> rfl
theorem unitG_bare (hB:Bare3 bs ch un) (X:List Jl × List Ac) (u:List Nat):unitG bs ch (bM M) (bL X.1,X.2) u=(bL (unitG bs ch M X u).1,(unitG bs ch M X u).2):=by
 unfold unitG
 show (match tryK bs (bM M) (bL X.1) u u.length with | some r=>(r.1,X.2 ++ r.2) | none=>if (jl (bL X.1) (u.getD 0 0)).1.ga.size=0 then ((preG ch (bM M) (bL X.1) (u.getD 0 0)).1,X.2 ++ (preG ch (bM M) (bL X.1) (u.getD 0 0)).2) else (bL X.1,X.2))=_
 rw [tryK_bare hB,jl_bare,preG_bare hB]
 cases tryK bs M X.1 u u.length with
 | some r=>rfl
 | none=>
  show (if (jl X.1 (u.getD 0 0)).1.ga.size=0 then _ else _)=_
  simp only
  split <;> rfl
theorem passK_bare (hB:Bare3 bs ch un) (U:List (List Nat)):∀ k,k<=U.length->passK bs ch (bM M) (bL J) U k=(bL (passK bs ch M J U k).1,(passK bs ch M J U k).2)
 | 0,_=>rfl
 | k+1,hk=>by rw [passK_succ (by omega),passK_succ (by omega),passK_bare hB U k (by omega),unitG_bare hB]
theorem passG_bare (hB:Bare3 bs ch un):passG bs ch un (bM M) (bL J)=(bL (passG bs ch un M J).1,(passG bs ch un M J).2):=by
 unfold passG
 rw [hB.u]
 exact passK_bare hB _ _ (Nat.le_refl _)
theorem tickG_bare (hB:Bare3 bs ch un):tickG bs ch un S.bare=bR (tickG bs ch un S):=by
 have he:expG { S.bare with ck:=S.bare.ck+1 } = ((expG { S with ck:=S.ck+1 }).1.bare,(expG { S with ck:=S.ck+1 }).2):=expG_bare (S:={ S with ck:=S.ck+1 })
 unfold tickG
 rw [he]
 show (if 1073741824<=S.ck then _ else _)=_
 split
 ·rfl
 ·obtain ⟨T,hT⟩:∃ T,T=expG { S with ck:=S.ck+1 }:=⟨_,rfl⟩
  rw [<- hT]
  show ((⟨T.1.ck,T.1.nx,bM T.1.M,T.1.Q,(passG bs ch un (bM T.1.M) (bL T.1.J)).1⟩:Sg),(0:Int),T.2 ++ (passG bs ch un (bM T.1.M) (bL T.1.J)).2)=_
  rw [passG_bare hB]
  rfl
theorem stepG_bare (hB:Bare3 bs ch un) (v:Ov):stepG bs ch un S.bare v=bR (stepG bs ch un S v):=by
 unfold stepG
 split
 ·unfold opG
  split
  ·exact addN_bare _ _ _ _ _
  split
  ·exact dropN_bare _
  split
  ·exact addQ_bare _
  split
  ·exact dropQ_bare _
  split
  ·exact subJ_bare _ _ _ _ _ _ _ _ _ _
  split
  ·exact canJ_bare _
  split
  ·exact finJ_bare _
  split
  ·exact beatN_bare _
  ·exact tickG_bare hB
 ·rfl
theorem stepG_alike (hB:Bare3 bs ch un) {T:Sg} (h:S.bare=T.bare) (v:Ov):(stepG bs ch un S v).2=(stepG bs ch un T v).2/\(stepG bs ch un S v).1.bare=(stepG bs ch un T v).1.bare:=by
 have h1:=stepG_bare (S:=S) hB v
 have h2:=stepG_bare (S:=T) hB v
 rw [h,h2] at h1
 unfold bR at h1
 injection h1 with e1 e2
 exact ⟨e2.symm,e1.symm⟩
end
end
section
open Go.RowKit
section
variable (m:Mc) (ml:List Lb) (t:Kt) (tl:List Lb) (l:List Jb) (L:List Ml)
theorem filter_bare (p:Jb->Bool) (h:∀ j,p j.bare=p j):(bJ l).filter p=bJ (l.filter p):=by
 rw [List.filter_map]
 congr 1
 exact List.filter_congr fun j _=>h j
theorem onM_bare (s:ByteArray):onM s (bJ l)=onM s l:=by
 unfold onM
 rw [filter_bare l _ (fun _=>rfl),List.map_map]
 exact List.map_congr_left fun _ _=>rfl
theorem freM_bare:freM m.bare (bJ l)=freM m l:=by
 unfold freM
 rw [onM_bare];rfl
theorem rep_bare (s ap nm:ByteArray):rep s ap nm (bJ l)=rep s ap nm l:=by
 unfold rep
 rw [List.any_map]
 congr 1
theorem why_bare:why m.bare ml t.bare tl (bJ l)=why m ml t tl l:=by
 unfold why
 rw [freM_bare,rep_bare];rfl
theorem sco_bare:sco m.bare ml t.bare tl (bJ l)=sco m ml t tl l:=by
 unfold sco
 rw [why_bare,freM_bare];rfl
theorem entry_bare (x:Ml):entry t.bare tl (bJ l) (bX x)=entry t tl l x:=by
 unfold entry bX
 rw [sco_bare];rfl
theorem srt_bare:srt t.bare tl (bJ l) (bM L)=srt t tl l L:=by
 unfold srt
 rw [List.foldl_map]
 congr 1
 funext E x
 rw [entry_bare]
theorem jat_bare (i:Nat):jat (bJ l) i=(jat l i).bare:=by
 unfold jat
 rw [List.getD,List.getElem?_map,List.getD]
 cases l[i]? <;> rfl
theorem wk_congr {c c':Nat->Bool} {ah ah':Nat->Nat->Bool} (h:c=c') (h':ah=ah') (k:Nat):wk c ah k=wk c' ah' k:=by rw [h,h']
theorem weak_bare (k:Nat):weak m.bare t.bare (bJ l) k=weak m t l k:=by
 unfold weak
 refine wk_congr ?_ ?_ k
 ·funext i;unfold wkC;rw [jat_bare];rfl
 ·funext i y;unfold goB;rw [jat_bare,jat_bare];rfl
theorem outJ_bare (g:List Nat) (k:Nat):outJ g (bJ l) k=bJ (outJ g l k):=by
 unfold outJ
 show _=(List.map _ _).map Jb.bare
 rw [List.map_map]
 exact List.map_congr_left fun i _=>jat_bare l i
theorem okK_bare (W:List Nat) (k:Nat):okK m.bare t.bare (bJ l) W k=okK m t l W k:=by
 unfold okK
 rw [outJ_bare,List.length_map,freM_bare];rfl
theorem places_bare:places m.bare ml t.bare tl (bJ l)=places m ml t tl l:=by
 unfold places
 rw [why_bare,weak_bare,List.length_map,show okK m.bare t.bare (bJ l) (weak m t l l.length)=okK m t l (weak m t l l.length) from funext fun k=>okK_bare m t l _ k]
theorem lastP_bare (G:List Nat):lastP (bJ l) G=lastP l G:=by
 unfold lastP
 split
 ·rfl
 ·rw [jat_bare];rfl
theorem getM_bare (i:Nat):(bM L).getD i default=bX (L.getD i default):=by
 rw [List.getD,List.getElem?_map,List.getD]
 cases L[i]? <;> rfl
theorem nmAt_bare (i:Nat):nmAt (bM L) i=nmAt L i:=by
 unfold nmAt
 rw [getM_bare];rfl
theorem plansOf_bare:plansOf (bM L) t.bare tl (bJ l)=plansOf L t tl l:=by
 funext i
 unfold plansOf
 rw [getM_bare]
 exact places_bare _ _ t tl l
theorem cho_bare (pl:Nat->Option (List Nat)):∀ k,cho pl (bJ l) (bM L) k=cho pl l L k
 | 0=>rfl
 | k+1=>by
  rw [cho,cho,cho_bare pl k]
  split
  ·rfl
  ·rw [lastP_bare]
   have hb:∀ g la o,betr (bM L) k g la o=betr L k g la o:=fun g la o=>by
    unfold betr
    cases o with
    | none=>rfl
    | some x=>simp only [nmAt_bare]
   rw [hb]
theorem chN_bare (o:Option Ch):chN (bM L) o=chN L o:=by
 unfold chN
 cases o with
 | none=>rfl
 | some x=>exact nmAt_bare L x.1
theorem chG_bare (o:Option Ch):chG (bM L) t.bare tl (bJ l) o=chG L t tl l o:=by
 unfold chG
 cases o with
 | none=>rfl
 | some x=>
  simp only [plansOf_bare]
  unfold namesAt
  exact List.map_congr_left fun i _=>by rw [jat_bare];rfl
theorem choose_bare (k:Nat):cho (plansOf (bM L) t.bare tl (bJ l)) (bJ l) (bM L) k=cho (plansOf L t tl l) l L k:=by rw [plansOf_bare,cho_bare]
theorem srt14_bare (k:Nat):srt14 (bJ l) k=srt14 l k:=by
 unfold srt14
 refine wk_congr ?_ ?_ k
 ·funext i;unfold waitC;rw [jat_bare];rfl
 ·funext i y;rw [jat_bare,jat_bare];rfl
theorem unitAt_bare (S T:List Nat) (p:Nat):unitAt (bJ l) S T p=unitAt l S T p:=by
 have hg:∀ i,(jat (bJ l) i).ga=(jat l i).ga:=fun i=>by rw [jat_bare];rfl
 have hs:∀ i,(jat (bJ l) i).sz=(jat l i).sz:=fun i=>by rw [jat_bare];rfl
 have hm:∀ s k,manyK (bJ l) s k=manyK l s k:=fun s k=>by
  unfold manyK
  rw [<- List.map_take,filter_bare _ _ (fun _=>rfl),List.length_map]
 have hf:∀ s,firstK (bJ l) s T=firstK l s T:=fun s=>by
  unfold firstK
  congr 1
  funext y
  rw [hg]
 have ho:∀ s,gangOf (bJ l) s S=gangOf l s S:=fun s=>by
  unfold gangOf
  exact List.filter_congr fun y _=>by rw [hg]
 unfold unitAt
 rw [hg,hs,hm,hf,ho,List.length_map]
theorem unitsU_bare:unitsU (bJ l)=unitsU l:=by
 show unitsK (bJ l) (srt14 (bJ l) (bJ l).length) (srt14 (bJ l) (bJ l).length).length=unitsK l (srt14 l l.length) (srt14 l l.length).length
 rw [List.length_map,srt14_bare]
 unfold unitsK
 congr 1
 exact List.map_congr_left fun i _=>unitAt_bare l _ _ _
end
theorem bare3:Bare3 bsF chF unF where
 b M J p:=by
  unfold bsF
  rw [jl_bare,jbs_bare]
  show bestP (srt (jl J p).1.tk.bare (jl J p).2 (bJ (jbs J)) (bM M))=_
  rw [srt_bare]
 c M J p:=by
  have h:choF (bM M) (bL J) p=choF M J p:=by
   unfold choF
   rw [jl_bare,jbs_bare,List.length_map]
   show cho (plansOf (bM M) (jl J p).1.tk.bare (jl J p).2 (bJ (jbs J))) (bJ (jbs J)) (bM M) M.length=_
   rw [choose_bare]
  unfold chF
  rw [h,chN_bare,jl_bare,jbs_bare]
  show (_,chG (bM M) (jl J p).1.tk.bare (jl J p).2 (bJ (jbs J)) _,_)=_
  rw [chG_bare]
 u J:=by
  unfold unF
  rw [jbs_bare];exact unitsU_bare _
end
end Go.Proofs.YtccccbofcnmdiaaGreat
