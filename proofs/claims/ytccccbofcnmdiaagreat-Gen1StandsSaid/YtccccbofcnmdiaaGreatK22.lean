/- Lemmas that the law stands on. No condition. -/
import Derived.Test.YtccccbofcnmdiaaGreatK21
namespace Go.Proofs.YtccccbofcnmdiaaGreat
set_option linter.unusedSimpArgs false
set_option linter.unusedVariables false
set_option maxRecDepth 100000
set_option maxHeartbeats 51200000
section
open Go.RowKit
structure Bare3 (bs:Bst)(ch:Chs15)(un:Uns):Prop where
 b:∀ M J p,bs (bM M) (bL J) p=bs M J p
 c:∀ M J p,ch (bM M) (bL J) p=ch M J p
 u:∀ J,un (bL J)=un J
theorem map_erase {α β:Type}(f:α->β)(l:List α) (p:Nat):(l.eraseIdx p).map f=(l.map f).eraseIdx p:=by
 rw [List.eraseIdx_eq_take_drop_succ,List.eraseIdx_eq_take_drop_succ,List.map_append,List.map_take,List.map_drop]
theorem map_modify2 {α:Type}{f g:α->α}{l:List α}{p:Nat}(h:∀ x,f (g x)=g (f x)):(l.modify p g).map f=(l.map f).modify p g:=by
 by_cases hp:p<l.length
 ·rw [modify_set hp,modify_set (by simpa using hp),List.map_set,List.getElem_map,h]
 ·rw [List.modify_eq_self (by omega),List.modify_eq_self (by simp;omega)]
theorem keyM_bare (M:List Ml):keyM (bM M)=keyM M:=by unfold keyM bM;rw [List.map_map];rfl
theorem hasJ_bare (s:ByteArray)(J:List Jl):hasJ s (bL J)=hasJ s J:=by unfold hasJ bL;rw [List.any_map];rfl
theorem jbs_bare (J:List Jl):jbs (bL J)=bJ (jbs J):=by unfold jbs bL bJ;rw [List.map_map,List.map_map];rfl
theorem fnd_bare (s:ByteArray):∀ (k:Nat)(l:List Jb),fnd s k (bJ l)=fnd s k l
 | k,[]=>rfl
 | k,j :: l=>by
  show fnd s k (j.bare :: bJ l)=_
  unfold fnd
  rw [fnd_bare s (k+1) l];rfl
theorem plJ_bare (s:ByteArray)(J:List Jl):plJ s (bL J)=plJ s J:=by unfold plJ;rw [jbs_bare,fnd_bare]
theorem jl_bare (J:List Jl) (p:Nat):jl (bL J) p=bY (jl J p):=by
 by_cases hp:p<J.length
 ·rw [jl_at hp,jl_at (show p<(bL J).length by simpa using hp)];simp only [bL,List.getElem_map]
 ·rw [jl_no (J:=J) (show J.length<=p by omega),jl_no (J:=bL J) (show (bL J).length<=p by rw [List.length_map];omega)];rfl
theorem ml_bare (M:List Ml) (p:Nat):ml (bM M) p=bX (ml M p):=by
 by_cases hp:p<M.length
 ·rw [ml_at hp,ml_at (show p<(bM M).length by simpa using hp)];simp only [bM,List.getElem_map]
 ·unfold ml;rw [List.getD_eq_getElem?_getD,List.getD_eq_getElem?_getD,List.getElem?_eq_none (l:=bM M) (show (bM M).length<=p by rw [List.length_map];omega),List.getElem?_eq_none (l:=M) (show M.length<=p by omega)];rfl
theorem relJ_bare (s:ByteArray)(J:List Jl):relJ s (bL J)=bL (relJ s J):=by
 unfold relJ bL
 rw [List.map_map,List.map_map]
 refine List.map_congr_left fun x _=>?_
 show relX s (bY x)=bY (relX s x)
 unfold relX
 show (if sE x.1.nd s then _ else _)=_
 cases sE x.1.nd s <;> rfl
theorem relA_bare (s:ByteArray)(J:List Jl):relA s (bL J)=relA s J:=by
 unfold relA bL
 rw [List.filter_map,List.map_map];rfl
theorem ofQ_bare (s:ByteArray)(l:List Jb):ofQ s (bJ l)=ofQ s l:=by
 unfold ofQ bJ
 rw [List.filter_map,List.map_map];rfl
theorem admQ_bare (q:Qx)(J:List Jl) (d e f:Int):admQ q (bL J) d e f=admQ q J d e f:=by unfold admQ usdJ;rw [jbs_bare,ofQ_bare]
theorem insM_bare2 (q:Ml)(M:List Ml):insM (bX q) (bM M)=bM (insM q M):=by
 unfold insM
 rw [keyM_bare]
 show (bM M).take (lbK q.1.nm (keyM M)) ++ bX q :: (bM M).drop (lbK q.1.nm (keyM M))=_
 simp only [bM,List.map_append,List.map_cons,List.map_take,List.map_drop]
section
variable {bs:Bst}{ch:Chs15}{un:Uns}{S:Sg}{M:List Ml}{J:List Jl}
def bR (R:Sg × An):Sg × An:=(R.1.bare,R.2)
theorem addN_bare (nm:ByteArray) (a b c:Int)(l:List Lb):addN S.bare nm a b c l=bR (addN S nm a b c l):=by
 unfold addN
 show (if hasK nm (keyM (bM S.M)) then _ else if 16<=(bM S.M).length then _ else _)=_
 rw [keyM_bare,List.length_map]
 split
 ·rfl
 ·split
  ·rfl
  ·show ((⟨S.ck,S.nx,insM (newM S.ck nm a b c none 0 0 l) (bM S.M),S.Q,bL S.J⟩:Sg),_)=((⟨S.ck,S.nx,bM (insM (newM S.ck nm a b c none 0 0 l) S.M),S.Q,bL S.J⟩:Sg),_)
   rw [<- insM_bare2];rfl
theorem addQ_bare (q:Qx):addQ S.bare q=bR (addQ S q):=by
 unfold addQ
 show (if hasK q.1 (S.Q.map fun q=>q.1) then _ else if 8<=S.Q.length then _ else _)=_
 split
 ·rfl
 ·split <;> rfl
theorem dropN_bare (s:ByteArray):dropN' S.bare s=bR (dropN' S s):=by
 unfold dropN'
 show (if hasK s (keyM (bM S.M)) then _ else _)=_
 rw [keyM_bare]
 split
 ·show ((⟨S.ck,S.nx,(bM S.M).eraseIdx (lbK s (keyM (bM S.M))),S.Q,relJ s (bL S.J)⟩:Sg),_,relA s (bL S.J))=((⟨S.ck,S.nx,bM (S.M.eraseIdx (lbK s (keyM S.M))),S.Q,bL (relJ s S.J)⟩:Sg),_,relA s S.J)
  rw [keyM_bare,relJ_bare,relA_bare];unfold bM;rw [map_erase]
 ·rfl
theorem dropQ_bare (s:ByteArray):dropQ S.bare s=bR (dropQ S s):=by
 unfold dropQ
 show (if hasK s (keyQ S.Q) then (if hasJ s (bL S.J) then _ else _) else _)=_
 rw [hasJ_bare]
 split
 ·split <;> rfl
 ·rfl
theorem beatN_bare (s:ByteArray):beatN S.bare s=bR (beatN S s):=by
 unfold beatN
 show (if hasK s (keyM (bM S.M)) then _ else _)=_
 rw [keyM_bare]
 split
 ·show ((⟨S.ck,S.nx,(bM S.M).modify (lbK s (keyM (bM S.M))) (upX S.ck),S.Q,bL S.J⟩:Sg),_)=((⟨S.ck,S.nx,bM (S.M.modify (lbK s (keyM S.M)) (upX S.ck)),S.Q,bL S.J⟩:Sg),_)
  rw [keyM_bare];unfold bM;rw [map_modify2 (f:=bX) (g:=upX S.ck) (fun _=>rfl)]
 ·rfl
theorem canJ_bare (s:ByteArray):canJ S.bare s=bR (canJ S s):=by
 unfold canJ
 show (if plJ s (bL S.J)<0 then _ else ((⟨S.ck,S.nx,bM S.M,S.Q,(bL S.J).eraseIdx (plJ s (bL S.J)).toNat⟩:Sg),(0:Int),if wB (jl (bL S.J) (plJ s (bL S.J)).toNat).1.nd then [] else [((3:Int),(jl (bL S.J) (plJ s (bL S.J)).toNat).1.nm,(jl (bL S.J) (plJ s (bL S.J)).toNat).1.nd)]))=_
 rw [plJ_bare,jl_bare]
 split
 ·rfl
 ·show _=((⟨S.ck,S.nx,bM S.M,S.Q,bL (S.J.eraseIdx (plJ s S.J).toNat)⟩:Sg),_)
  unfold bL;rw [map_erase];rfl
theorem finJ_bare (s:ByteArray):finJ S.bare s=bR (finJ S s):=by
 unfold finJ
 show (if plJ s (bL S.J)<0 then _ else if wB (jl (bL S.J) (plJ s (bL S.J)).toNat).1.nd then _ else ((⟨S.ck,S.nx,bM S.M,S.Q,(bL S.J).eraseIdx (plJ s (bL S.J)).toNat⟩:Sg),(0:Int),([]:List Ac)))=_
 rw [plJ_bare,jl_bare]
 split
 ·rfl
 ·show (if wB (jl S.J (plJ s S.J).toNat).1.nd then _ else _)=_
  split
  ·rfl
  ·show _=((⟨S.ck,S.nx,bM S.M,S.Q,bL (S.J.eraseIdx (plJ s S.J).toNat)⟩:Sg),_)
   unfold bL;rw [map_erase]
theorem subJ_bare (nm qu:ByteArray) (pr a b c:Int)(ap ga:ByteArray) (sz:Int)(l:List Lb):subJ S.bare nm qu pr a b c ap ga sz l=bR (subJ S nm qu pr a b c ap ga sz l):=by
 unfold subJ
 show (if 0<=plJ nm (bL S.J) then _ else if hasK qu (keyQ S.Q)=false then _ else if 48<=(bL S.J).length then _ else if admQ (ql S.Q (lbK qu (keyQ S.Q))) (bL S.J) a b c ≠ 0 then (S.bare,admQ (ql S.Q (lbK qu (keyQ S.Q))) (bL S.J) a b c,_) else if 1073741824<=S.nx then _ else ((⟨S.ck,S.nx+1,bM S.M,S.Q,bL S.J ++ [newJ S.nx nm qu pr a b c none 0 0 ap ga sz l]⟩:Sg),_))=_
 rw [plJ_bare,List.length_map,admQ_bare]
 split
 ·rfl
 split
 ·rfl
 split
 ·rfl
 split
 ·rfl
 split
 ·rfl
 ·show _=((⟨S.ck,S.nx+1,bM S.M,S.Q,bL (S.J ++ [newJ S.nx nm qu pr a b c none 0 0 ap ga sz l])⟩:Sg),_)
  unfold bL;rw [List.map_append];rfl
theorem expS_bare (T:Sg × List Ac) (i:Nat):expS (T.1.bare,T.2) i=((expS T i).1.bare,(expS T i).2):=by
 unfold expS
 show (if late T.1.ck (ml (bM T.1.M) i) then ((⟨T.1.ck,T.1.nx,(bM T.1.M).set i (downX (ml (bM T.1.M) i)),T.1.Q,relJ (ml (bM T.1.M) i).1.nm (bL T.1.J)⟩:Sg),T.2 ++ relA (ml (bM T.1.M) i).1.nm (bL T.1.J)) else _)=_
 rw [ml_bare]
 show (if late T.1.ck (ml T.1.M i) then ((⟨T.1.ck,T.1.nx,(bM T.1.M).set i (bX (downX (ml T.1.M i))),T.1.Q,relJ (ml T.1.M i).1.nm (bL T.1.J)⟩:Sg),T.2 ++ relA (ml T.1.M i).1.nm (bL T.1.J)) else _)=_
 rw [relJ_bare,relA_bare]
 split
 ·show _=((⟨T.1.ck,T.1.nx,bM (T.1.M.set i (downX (ml T.1.M i))),T.1.Q,bL (relJ (ml T.1.M i).1.nm T.1.J)⟩:Sg),_)
  unfold bM;rw [List.map_set]
 ·rfl
theorem expK_bare:∀ k,expK S.bare k=((expK S k).1.bare,(expK S k).2)
 | 0=>rfl
 | k+1=>by rw [expK_succ,expK_succ,expK_bare k,expS_bare]
theorem expG_bare:expG S.bare=((expG S).1.bare,(expG S).2):=by
 unfold expG
 rw [show S.bare.M.length=S.M.length from List.length_map _]
 exact expK_bare _
theorem bindJ_bare (s:ByteArray) (p:Nat):bindJ s p (bL J)=bL (bindJ s p J):=by
 unfold bindJ
 rw [jl_bare]
 unfold bL
 rw [List.map_set];rfl
theorem tryK_bare (hB:Bare3 bs ch un)(u:List Nat):∀ k,tryK bs (bM M) (bL J) u k=(tryK bs M J u k).map fun r=>(bL r.1,r.2)
 | 0=>rfl
 | k+1=>by
  unfold tryK
  rw [tryK_bare hB u k]
  cases tryK bs M J u k with
  | none=>rfl
  | some r=>
   show (if (bs (bM M) (bL r.1) (u.getD k 0)).2 then some (bindJ (bs (bM M) (bL r.1) (u.getD k 0)).1 (u.getD k 0) (bL r.1),r.2 ++ [(1,(jl (bL r.1) (u.getD k 0)).1.nm,(bs (bM M) (bL r.1) (u.getD k 0)).1)]) else none)=Option.map _ (if (bs M r.1 (u.getD k 0)).2 then some (bindJ (bs M r.1 (u.getD k 0)).1 (u.getD k 0) r.1,r.2 ++ [(1,(jl r.1 (u.getD k 0)).1.nm,(bs M r.1 (u.getD k 0)).1)]) else none)
   rw [hB.b,bindJ_bare,jl_bare]
   split <;> rfl
theorem outS_bare (T:List Jl × List Ac)(s:ByteArray):outS (bL T.1,T.2) s=(bL (outS T s).1,(outS T s).2):=by
 unfold outS
 show ((bL T.1).set (plJ s (bL T.1)).toNat (restX (jl (bL T.1) (plJ s (bL T.1)).toNat)),T.2 ++ [((2:Int),(jl (bL T.1) (plJ s (bL T.1)).toNat).1.nm,(jl (bL T.1) (plJ s (bL T.1)).toNat).1.nd)])=_
 rw [plJ_bare,jl_bare]
 show _=(bL (T.1.set (plJ s T.1).toNat (restX (jl T.1 (plJ s T.1).toNat))),_)
 unfold bL
 rw [List.map_set];rfl
theorem evK_bare (names:List ByteArray):∀ k,k<=names.length->evK (bL J) names k=(bL (evK J names k).1,(evK J names k).2)
 | 0,_=>rfl
 | k+1,hk=>by rw [evK_succ (by omega),evK_succ (by omega),evK_bare names k (by omega),outS_bare]
theorem preG_bare (hB:Bare3 bs ch un) (p:Nat):preG ch (bM M) (bL J) p=(bL (preG ch M J p).1,(preG ch M J p).2):=by
 unfold preG
 rw [hB.c,evK_bare _ _ (Nat.le_refl _)]
 show (if (ch M J p).2.2 then (bindJ (ch M J p).1 p (bL (evK J (ch M J p).2.1 (ch M J p).2.1.length).1),(evK J (ch M J p).2.1 (ch M J p).2.1.length).2 ++ [((1:Int),(jl (bL (evK J (ch M J p).2.1 (ch M J p).2.1.length).1) p).1.nm,(ch M J p).1)]) else _)=_
 rw [bindJ_bare,jl_bare]
 split <;> rfl
theorem unitG_bare (hB:Bare3 bs ch un)(X:List Jl × List Ac)(u:List Nat):unitG bs ch (bM M) (bL X.1,X.2) u=(bL (unitG bs ch M X u).1,(unitG bs ch M X u).2):=by
 unfold unitG
 show (match tryK bs (bM M) (bL X.1) u u.length with | some r=>(r.1,X.2 ++ r.2) | none=>if (jl (bL X.1) (u.getD 0 0)).1.ga.size=0 then ((preG ch (bM M) (bL X.1) (u.getD 0 0)).1,X.2 ++ (preG ch (bM M) (bL X.1) (u.getD 0 0)).2) else (bL X.1,X.2))=_
 rw [tryK_bare hB,jl_bare,preG_bare hB]
 cases tryK bs M X.1 u u.length with
 | some r=>rfl
 | none=>
  show (if (jl X.1 (u.getD 0 0)).1.ga.size=0 then _ else _)=_
  simp only
  split <;> rfl
theorem passK_bare (hB:Bare3 bs ch un)(U:List (List Nat)):∀ k,k<=U.length->passK bs ch (bM M) (bL J) U k=(bL (passK bs ch M J U k).1,(passK bs ch M J U k).2)
 | 0,_=>rfl
 | k+1,hk=>by rw [passK_succ (by omega),passK_succ (by omega),passK_bare hB U k (by omega),unitG_bare hB]
theorem passG_bare (hB:Bare3 bs ch un):passG bs ch un (bM M) (bL J)=(bL (passG bs ch un M J).1,(passG bs ch un M J).2):=by
 unfold passG
 rw [hB.u]
 exact passK_bare hB _ _ (Nat.le_refl _)
theorem tickG_bare (hB:Bare3 bs ch un):tickG bs ch un S.bare=bR (tickG bs ch un S):=by
 have he:expG { S.bare with ck:=S.bare.ck+1 } = ((expG { S with ck:=S.ck+1 }).1.bare,(expG { S with ck:=S.ck+1 }).2):=expG_bare (S:={ S with ck:=S.ck+1 })
 unfold tickG
 rw [he]
 show (if 1073741824<=S.ck then _ else _)=_
 split
 ·rfl
 ·obtain ⟨T,hT⟩:∃ T,T=expG { S with ck:=S.ck+1 }:=⟨_,rfl⟩
  rw [<- hT]
  show ((⟨T.1.ck,T.1.nx,bM T.1.M,T.1.Q,(passG bs ch un (bM T.1.M) (bL T.1.J)).1⟩:Sg),(0:Int),T.2 ++ (passG bs ch un (bM T.1.M) (bL T.1.J)).2)=_
  rw [passG_bare hB]
  rfl
theorem stepG_bare (hB:Bare3 bs ch un)(v:Ov):stepG bs ch un S.bare v=bR (stepG bs ch un S v):=by
 unfold stepG
 split
 ·unfold opG
  split
  ·exact addN_bare _ _ _ _ _
  split
  ·exact dropN_bare _
  split
  ·exact addQ_bare _
  split
  ·exact dropQ_bare _
  split
  ·exact subJ_bare _ _ _ _ _ _ _ _ _ _
  split
  ·exact canJ_bare _
  split
  ·exact finJ_bare _
  split
  ·exact beatN_bare _
  ·exact tickG_bare hB
 ·rfl
theorem stepG_alike (hB:Bare3 bs ch un){T:Sg}(h:S.bare=T.bare)(v:Ov):(stepG bs ch un S v).2=(stepG bs ch un T v).2/\(stepG bs ch un S v).1.bare=(stepG bs ch un T v).1.bare:=by
 have h1:=stepG_bare (S:=S) hB v
 have h2:=stepG_bare (S:=T) hB v
 rw [h,h2] at h1
 unfold bR at h1
 injection h1 with e1 e2
 exact ⟨e2.symm,e1.symm⟩
end
end
section
open Go.RowKit
section
variable (m:Mc)(ml:List Lb)(t:Kt)(tl:List Lb)(l:List Jb)(L:List Ml)
theorem filter_bare (p:Jb->Bool)(h:∀ j,p j.bare=p j):(bJ l).filter p=bJ (l.filter p):=by
 rw [List.filter_map]
 congr 1
 exact List.filter_congr fun j _=>h j
theorem onM_bare (s:ByteArray):onM s (bJ l)=onM s l:=by
 unfold onM
 rw [filter_bare l _ (fun _=>rfl),List.map_map]
 exact List.map_congr_left fun _ _=>rfl
theorem freM_bare:freM m.bare (bJ l)=freM m l:=by
 unfold freM
 rw [onM_bare];rfl
theorem rep_bare (s ap nm:ByteArray):rep s ap nm (bJ l)=rep s ap nm l:=by
 unfold rep
 rw [List.any_map]
 congr 1
theorem why_bare:why m.bare ml t.bare tl (bJ l)=why m ml t tl l:=by
 unfold why
 rw [freM_bare,rep_bare];rfl
theorem sco_bare:sco m.bare ml t.bare tl (bJ l)=sco m ml t tl l:=by
 unfold sco
 rw [why_bare,freM_bare];rfl
theorem entry_bare (x:Ml):entry t.bare tl (bJ l) (bX x)=entry t tl l x:=by
 unfold entry bX
 rw [sco_bare];rfl
theorem srt_bare:srt t.bare tl (bJ l) (bM L)=srt t tl l L:=by
 unfold srt
 rw [List.foldl_map]
 congr 1
 funext E x
 rw [entry_bare]
theorem jat_bare (i:Nat):jat (bJ l) i=(jat l i).bare:=by
 unfold jat
 rw [List.getD,List.getElem?_map,List.getD]
 cases l[i]? <;> rfl
theorem wk_congr {c c':Nat->Bool} {ah ah':Nat->Nat->Bool}(h:c=c') (h':ah=ah') (k:Nat):wk c ah k=wk c' ah' k:=by rw [h,h']
theorem weak_bare (k:Nat):weak m.bare t.bare (bJ l) k=weak m t l k:=by
 unfold weak
 refine wk_congr ?_ ?_ k
 ·funext i;unfold wkC;rw [jat_bare];rfl
 ·funext i y;unfold goB;rw [jat_bare,jat_bare];rfl
theorem outJ_bare (g:List Nat) (k:Nat):outJ g (bJ l) k=bJ (outJ g l k):=by
 unfold outJ
 show _=(List.map _ _).map Jb.bare
 rw [List.map_map]
 exact List.map_congr_left fun i _=>jat_bare l i
theorem okK_bare (W:List Nat) (k:Nat):okK m.bare t.bare (bJ l) W k=okK m t l W k:=by
 unfold okK
 rw [outJ_bare,List.length_map,freM_bare];rfl
theorem places_bare:places m.bare ml t.bare tl (bJ l)=places m ml t tl l:=by
 unfold places
 rw [why_bare,weak_bare,List.length_map,show okK m.bare t.bare (bJ l) (weak m t l l.length)=okK m t l (weak m t l l.length) from funext fun k=>okK_bare m t l _ k]
theorem lastP_bare (G:List Nat):lastP (bJ l) G=lastP l G:=by
 unfold lastP
 split
 ·rfl
 ·rw [jat_bare];rfl
theorem getM_bare (i:Nat):(bM L).getD i default=bX (L.getD i default):=by
 rw [List.getD,List.getElem?_map,List.getD]
 cases L[i]? <;> rfl
theorem nmAt_bare (i:Nat):nmAt (bM L) i=nmAt L i:=by
 unfold nmAt
 rw [getM_bare];rfl
theorem plansOf_bare:plansOf (bM L) t.bare tl (bJ l)=plansOf L t tl l:=by
 funext i
 unfold plansOf
 rw [getM_bare]
 exact places_bare _ _ t tl l
theorem cho_bare (pl:Nat->Option (List Nat)):∀ k,cho pl (bJ l) (bM L) k=cho pl l L k
 | 0=>rfl
 | k+1=>by
  rw [cho,cho,cho_bare pl k]
  split
  ·rfl
  ·rw [lastP_bare]
   have hb:∀ g la o,betr (bM L) k g la o=betr L k g la o:=fun g la o=>by
    unfold betr
    cases o with
    | none=>rfl
    | some x=>simp only [nmAt_bare]
   rw [hb]
theorem chN_bare (o:Option Ch):chN (bM L) o=chN L o:=by
 unfold chN
 cases o with
 | none=>rfl
 | some x=>exact nmAt_bare L x.1
theorem chG_bare (o:Option Ch):chG (bM L) t.bare tl (bJ l) o=chG L t tl l o:=by
 unfold chG
 cases o with
 | none=>rfl
 | some x=>
  simp only [plansOf_bare]
  unfold namesAt
  exact List.map_congr_left fun i _=>by rw [jat_bare];rfl
theorem choose_bare (k:Nat):cho (plansOf (bM L) t.bare tl (bJ l)) (bJ l) (bM L) k=cho (plansOf L t tl l) l L k:=by rw [plansOf_bare,cho_bare]
theorem srt14_bare (k:Nat):srt14 (bJ l) k=srt14 l k:=by
 unfold srt14
 refine wk_congr ?_ ?_ k
 ·funext i;unfold waitC;rw [jat_bare];rfl
 ·funext i y;rw [jat_bare,jat_bare];rfl
theorem unitAt_bare (S T:List Nat) (p:Nat):unitAt (bJ l) S T p=unitAt l S T p:=by
 have hg:∀ i,(jat (bJ l) i).ga=(jat l i).ga:=fun i=>by rw [jat_bare];rfl
 have hs:∀ i,(jat (bJ l) i).sz=(jat l i).sz:=fun i=>by rw [jat_bare];rfl
 have hm:∀ s k,manyK (bJ l) s k=manyK l s k:=fun s k=>by
  unfold manyK
  rw [<- List.map_take,filter_bare _ _ (fun _=>rfl),List.length_map]
 have hf:∀ s,firstK (bJ l) s T=firstK l s T:=fun s=>by
  unfold firstK
  congr 1
  funext y
  rw [hg]
 have ho:∀ s,gangOf (bJ l) s S=gangOf l s S:=fun s=>by
  unfold gangOf
  exact List.filter_congr fun y _=>by rw [hg]
 unfold unitAt
 rw [hg,hs,hm,hf,ho,List.length_map]
theorem unitsU_bare:unitsU (bJ l)=unitsU l:=by
 show unitsK (bJ l) (srt14 (bJ l) (bJ l).length) (srt14 (bJ l) (bJ l).length).length=unitsK l (srt14 l l.length) (srt14 l l.length).length
 rw [List.length_map,srt14_bare]
 unfold unitsK
 congr 1
 exact List.map_congr_left fun i _=>unitAt_bare l _ _ _
end
theorem bare3:Bare3 bsF chF unF where
 b M J p:=by
  unfold bsF
  rw [jl_bare,jbs_bare]
  show bestP (srt (jl J p).1.tk.bare (jl J p).2 (bJ (jbs J)) (bM M))=_
  rw [srt_bare]
 c M J p:=by
  have h:choF (bM M) (bL J) p=choF M J p:=by
   unfold choF
   rw [jl_bare,jbs_bare,List.length_map]
   show cho (plansOf (bM M) (jl J p).1.tk.bare (jl J p).2 (bJ (jbs J))) (bJ (jbs J)) (bM M) M.length=_
   rw [choose_bare]
  unfold chF
  rw [h,chN_bare,jl_bare,jbs_bare]
  show (_,chG (bM M) (jl J p).1.tk.bare (jl J p).2 (bJ (jbs J)) _,_)=_
  rw [chG_bare]
 u J:=by
  unfold unF
  rw [jbs_bare];exact unitsU_bare _
end
section
open Go.RowKit
theorem bare_fields {S T:Sg}(h:S.bare=T.bare):S.ck=T.ck/\S.nx=T.nx/\bM S.M=bM T.M/\S.Q=T.Q/\bL S.J=bL T.J:=by
 unfold Sg.bare at h
 injection h with h1 h2 h3 h4 h5
 exact ⟨h1,h2,h3,h4,h5⟩
theorem In2.alike {m:Int}{S T:Sg}(h:In2 m T)(e:S.bare=T.bare):In2 m S:=by
 obtain ⟨e1,e2,e3,e4,e5⟩:=bare_fields e
 have lM:S.M.length=T.M.length:=by have:=congrArg List.length e3;rw [List.length_map,List.length_map] at this;exact this
 have lJ:S.J.length=T.J.length:=by have:=congrArg List.length e5;rw [List.length_map,List.length_map] at this;exact this
 refine ⟨by rw [lM];exact h.M,by rw [e4];exact h.Q,by rw [lJ];exact h.J,fun x hx=>?_,fun x hx=>?_,by rw [e2];exact h.nx,by rw [e1];exact h.ck,by rw [<- keyM_bare,e3,keyM_bare];exact h.aM,by rw [e4];exact h.aQ,fun x hx=>?_⟩
 ·have hm:bX x ∈ bM T.M:=by rw [<- e3];exact List.mem_map_of_mem hx
  obtain ⟨y,hy,e⟩:=List.mem_map.1 hm
  have e2:y.2=x.2:=by have h:=congrArg (fun x:Ml=>x.2) e;exact h
  rw [<- e2];exact h.lM y hy
 ·have hm:bY x ∈ bL T.J:=by rw [<- e5];exact List.mem_map_of_mem hx
  obtain ⟨y,hy,e⟩:=List.mem_map.1 hm
  have e2:y.2=x.2:=by have h:=congrArg (fun x:Jl=>x.2) e;exact h
  rw [<- e2];exact h.lJ y hy
 ·have hm:bY x ∈ bL T.J:=by rw [<- e5];exact List.mem_map_of_mem hx
  obtain ⟨y,hy,e⟩:=List.mem_map.1 hm
  have e2:y.1.bo=x.1.bo:=by have h:=congrArg (fun x:Jl=>x.1.bo) e;exact h
  rw [<- e2];exact h.bo y hy
def Gx (w:World) (b g:Nat)(F:Nat->Prop)(S:Sg):Prop:=∃ lst vM vQ vJ S',Gs w b g lst vM vQ vJ S' /\ S'.bare=S.bare /\ ∀ k,blkG g vM vQ vJ S' k->F k
section
variable {w w':World} {b b' g:Nat} {F F':Nat->Prop}{S:Sg}
theorem Gx.grp {p:Nat->Prop}(h:Gx w b g F S)(hg:GrP p w w')(hp:∀ k,b<=k->F k -> ¬ p k):Gx w' b g F S:=by
 obtain ⟨lst,vM,vQ,vJ,S',h1,h2,h3⟩:=h
 exact ⟨lst,vM,vQ,vJ,S',h1.grp hg fun k hk=>hp k (h1.blk hk).1 (h3 k hk),h2,h3⟩
theorem Gx.below (h:Gx w b g F S)(hb:Below w.heap.size w w'):Gx w' b g F S:=h.grp (GrP.ofBelow (p:=fun _=>False) hb) fun _ _ _ e=>e
theorem Gx.wide (h:Gx w b g F S)(hs:∀ k,k<w.heap.size->F k->F' k):Gx w b g F' S:=by
 obtain ⟨lst,vM,vQ,vJ,S',h1,h2,h3⟩:=h
 exact ⟨lst,vM,vQ,vJ,S',h1,h2,fun k hk=>hs k (h1.blk hk).2 (h3 k hk)⟩
theorem Gx.base (h:Gx w b g F S)(hb:b' <= b):Gx w b' g F S:=by
 obtain ⟨lst,vM,vQ,vJ,S',h1,h2,h3⟩:=h
 exact ⟨lst,vM,vQ,vJ,S',h1.base hb,h2,h3⟩
end
theorem gx_new (w:World):Calls Tryz.prog 14 #[] w fun e w'=>e = .returned (.pointer (some ⟨w.heap.size,0,none⟩))/\Gx w' w.heap.size w.heap.size (fun k=>w.heap.size<=k) Sg.new/\Below w.heap.size w w':=by
 refine (new_any w).mono ?_
 rintro e w' ⟨rfl,h,hb⟩
 exact ⟨rfl,⟨_,_,_,_,_,h,rfl,fun k hk=>(h.blk hk).1⟩,hb⟩
theorem gx_do (bs:Bst)(ch:Chs15)(un:Uns)(hB:BestK bs)(hC:ChoK ch)(hUn:UniK un)(h3:Bare3 bs ch un) (b g:Nat)(F:Nat->Prop) (m:Int)(S:Sg)(x:Oz)(w:World)(hG:Gx w b g F S)(hI:In2 m S)(hm:m<=1152921504606846976)(hx:OzOk w x)(hl1:x.v.l1.length<=1000)(hl3:x.v.l3.length<=1000) :
  Calls Tryz.prog 18 #[.pointer (some ⟨g,0,none⟩),.agg x.arr] w fun e w'=>
   (∃ A n c,e = .returned (.agg #[.int .i64 (stepG bs ch un S x.v).2.1,.slice A n c])/\RetL w.heap.size w' A n c (stepG bs ch un S x.v).2.2)/\Gx w' b g (fun k=>F k ∨ w.heap.size<=k) (stepG bs ch un S x.v).1/\GrP F w w':=by
 obtain ⟨lst,vM,vQ,vJ,S',h1,h2,hF⟩:=hG
 obtain ⟨e1,e2⟩:=stepG_alike (S:=S') (T:=S) h3 h2 x.v
 refine (doG_any bs ch un hB hC hUn b g lst vM vQ vJ S' x w h1 ((hI.alike h2).inv hm) hx hl1 hl3).mono ?_
 rintro e w' ⟨⟨A,n,c,rfl,hR⟩,hW⟩
 rw [e1] at hR ⊢
 obtain ⟨lst',vM',vQ',vJ',S'',g1,g2,g3,g4⟩:=hW
 exact ⟨⟨A,n,c,rfl,hR⟩,⟨lst',vM',vQ',vJ',S'',g1,g2.trans e2,fun k hk=>(g4 k hk).imp (hF k) id⟩,g3.wide fun k _ hk=>hF k hk⟩
theorem gx_state (b g:Nat)(F:Nat->Prop) (m:Int)(S:Sg)(w:World)(hG:Gx w b g F S)(hI:In2 m S) :
  Calls Tryz.prog 20 #[.pointer (some ⟨g,0,none⟩)] w fun e w'=>(∃ vM vQ vJ S',e = .returned (.agg #[.int .i64 S.ck,.int .i64 S.nx,vM,vQ,vJ])/\OwnS w' w.heap.size vM vQ vJ S' /\ S'.bare=S.bare)/\Gx w' b g F S/\Below w.heap.size w w':=by
 obtain ⟨lst,vM,vQ,vJ,S',h1,h2,hF⟩:=hG
 obtain ⟨e1,e2,_⟩:=bare_fields h2
 have hi:=hI.alike h2
 have hsm:Sm S':=⟨Nat.le_trans hi.M (by decide),Nat.le_trans hi.Q (by decide),Nat.le_trans hi.J (by decide),hi.lM,hi.lJ,by have:=hi.nx;omega,by have:=hi.ck;omega⟩
 refine (state_any b g lst vM vQ vJ S' w h1 hsm).mono ?_
 rintro e w' ⟨⟨uM,uQ,uJ,T,rfl,hO,hb⟩,hbb⟩
 exact ⟨⟨uM,uQ,uJ,T,by rw [e1,e2],hO,hb.trans h2⟩,⟨lst,vM,vQ,vJ,S',h1.below hbb,h2,hF⟩,hbb⟩
end
section
open Go.RowKit

theorem within_any (n a b:Int)(w:World):Calls Tryz.prog 48 #[.int .i64 n,.int .i64 a,.int .i64 b] w fun e w'=>e = .returned (.bool (decide (a<=n) && decide (n<=b)))/\w=w':=by
 cases h1:decide (a<=n)
 ·go_enter Tryz.func48,Tryz.ntmps48
  go_wp2
  go_ret
  exact ⟨rfl,rfl⟩
 ·go_enter Tryz.func48,Tryz.ntmps48
  go_wp2
  go_ret
  exact ⟨rfl,rfl⟩

theorem ascM_nil (w:World):Calls Tryz.prog 93 #[.slice none 0 0,.func (.func 94) #[] #[]] w fun e w'=>e = .returned (.bool true)/\Below w.heap.size w w':=by
 go_enter Tryz.func93,Tryz.ntmps93
 go_wp2
 refine wp_loop_rounds 1 ?_
 rw [rounds_succ]
 go_wp2
 go_ret
 exact ⟨rfl,bel⟩

theorem ascQ_nil (w:World):Calls Tryz.prog 95 #[.slice none 0 0,.func (.func 96) #[] #[]] w fun e w'=>e = .returned (.bool true)/\Below w.heap.size w w':=by
 go_enter Tryz.func95,Tryz.ntmps95
 go_wp2
 refine wp_loop_rounds 1 ?_
 rw [rounds_succ]
 go_wp2
 go_ret
 exact ⟨rfl,bel⟩

theorem ascJ_nil (w:World):Calls Tryz.prog 97 #[.slice none 0 0,.func (.func 98) #[] #[]] w fun e w'=>e = .returned (.bool true)/\Below w.heap.size w w':=by
 go_enter Tryz.func97,Tryz.ntmps97
 go_wp2
 refine wp_loop_rounds 1 ?_
 rw [rounds_succ]
 go_wp2
 go_ret
 exact ⟨rfl,bel⟩

theorem areM_nil (w:World):Calls Tryz.prog 49 #[.slice none 0 0] w fun e w'=>e = .returned (.bool true)/\Below w.heap.size w w':=by
 have K1:=Lib.hid (fun W=>ascM_nil W)
 go_enter Tryz.func49,Tryz.ntmps49
 go_wp2_with fail
 refine (K1.out _).mono ?_;rintro e w1 ⟨rfl,hb1⟩
 go_wp2_with fail
 refine wp_loop_rounds 1 ?_
 rw [rounds_succ]
 go_wp2
 go_ret
 exact ⟨rfl,bel⟩

theorem areQ_nil (w:World):Calls Tryz.prog 50 #[.slice none 0 0] w fun e w'=>e = .returned (.bool true)/\Below w.heap.size w w':=by
 have K1:=Lib.hid (fun W=>ascQ_nil W)
 go_enter Tryz.func50,Tryz.ntmps50
 go_wp2_with fail
 refine (K1.out _).mono ?_;rintro e w1 ⟨rfl,hb1⟩
 go_wp2_with fail
 refine wp_loop_rounds 1 ?_
 rw [rounds_succ]
 go_wp2
 go_ret
 exact ⟨rfl,bel⟩

theorem areJ_nil (nx:Int)(w:World):Calls Tryz.prog 51 #[.slice none 0 0,.int .i64 nx] w fun e w'=>e = .returned (.bool true)/\Below w.heap.size w w':=by
 have K1:=Lib.hid (fun W=>ascJ_nil W)
 go_enter Tryz.func51,Tryz.ntmps51
 go_wp2_with fail
 refine (K1.out _).mono ?_;rintro e w1 ⟨rfl,hb1⟩
 go_wp2_with fail
 refine wp_loop_rounds 1 ?_
 rw [rounds_succ]
 go_wp2
 go_ret
 exact ⟨rfl,bel⟩

theorem keepQ_nil (w:World):Calls Tryz.prog 52 #[.slice none 0 0,.slice none 0 0] w fun e w'=>e = .returned (.bool true)/\Below w.heap.size w w':=by
 go_enter Tryz.func52,Tryz.ntmps52
 go_wp2
 refine wp_loop_rounds 1 ?_
 rw [rounds_succ]
 go_wp2
 refine wp_loop_rounds 1 ?_
 rw [rounds_succ]
 go_wp2
 go_ret
 exact ⟨rfl,bel⟩

theorem atHome_nil (w:World):Calls Tryz.prog 53 #[.slice none 0 0,.slice none 0 0] w fun e w'=>e = .returned (.bool true)/\Below w.heap.size w w':=by
 go_enter Tryz.func53,Tryz.ntmps53
 go_wp2
 refine wp_loop_rounds 1 ?_
 rw [rounds_succ]
 go_wp2
 refine wp_loop_rounds 1 ?_
 rw [rounds_succ]
 go_wp2
 go_ret
 exact ⟨rfl,bel⟩


theorem right_blank (w:World):Calls Tryz.prog 23 #[.agg #[.int .i64 0,.int .i64 1,.slice none 0 0,.slice none 0 0,.slice none 0 0]] w fun e w'=>e = .returned (.bool true)/\Below w.heap.size w w':=by
 have k1:∀ W,Calls Tryz.prog 48 #[.int .i64 0,.int .i64 0,.int .i64 1073741824] W fun e w'=>e = .returned (.bool true)/\W=w':=fun W=>within_any 0 0 1073741824 W
 have k2:∀ W,Calls Tryz.prog 48 #[.int .i64 1,.int .i64 1,.int .i64 1073741824] W fun e w'=>e = .returned (.bool true)/\W=w':=fun W=>within_any 1 1 1073741824 W
 have K1:=Lib.hid k1;have K2:=Lib.hid k2;clear k1 k2
 have K3:=Lib.hid (fun W=>areM_nil W);have K4:=Lib.hid (fun W=>areQ_nil W);have K5:=Lib.hid (fun W=>areJ_nil 1 W);have K6:=Lib.hid (fun W=>keepQ_nil W);have K7:=Lib.hid (fun W=>atHome_nil W)
 obtain ⟨W0,hW0⟩:∃ W0,W0=w.alloc (.cells #[.int .i64 0,.int .i64 1,.slice none 0 0,.slice none 0 0,.slice none 0 0] 31):=⟨_,rfl⟩
 have HB0:Hid (Bk W0 w.heap.size 31 #[.int .i64 0,.int .i64 1,.slice none 0 0,.slice none 0 0,.slice none 0 0]):=by rw [hW0];exact Bk.fresh _ _ _
 have hb0:Below w.heap.size w W0:=by rw [hW0];exact (Below.refl _ _).alloc (Nat.le_refl _) _
 subst hW0
 go_enter Tryz.func23,Tryz.ntmps23
 go_wp2_with fail
 refine (K1.out _).mono ?_;rintro e w1 ⟨rfl,rfl⟩
 go_wp2_with fail
 refine (K2.out _).mono ?_;rintro e w1 ⟨rfl,rfl⟩
 go_wp2_with fail
 refine (K3.out _).mono ?_;rintro e w1 ⟨rfl,hb1⟩
 have HB1:=Lib.hid (HB0.out.later hb1)
 have c1:w1.cell? ⟨w.heap.size,3,none⟩=some (.slice none 0 0):=HB1.out.cellAt 3
 go_wp2_with fail
 refine (K4.out _).mono ?_;rintro e w2 ⟨rfl,hb2⟩
 have HB2:=Lib.hid (HB1.out.later hb2)
 clear c1
 have c1:w2.cell? ⟨w.heap.size,4,none⟩=some (.slice none 0 0):=HB2.out.cellAt 4
 have c2:w2.cell? ⟨w.heap.size,1,none⟩=some (.int .i64 1):=HB2.out.cellAt 1
 go_wp2_with fail
 refine (K5.out _).mono ?_;rintro e w3 ⟨rfl,hb3⟩
 have HB3:=Lib.hid (HB2.out.later hb3)
 clear c1 c2
 have c1:w3.cell? ⟨w.heap.size,4,none⟩=some (.slice none 0 0):=HB3.out.cellAt 4
 have c2:w3.cell? ⟨w.heap.size,3,none⟩=some (.slice none 0 0):=HB3.out.cellAt 3
 go_wp2_with fail
 refine (K6.out _).mono ?_;rintro e w4 ⟨rfl,hb4⟩
 have HB4:=Lib.hid (HB3.out.later hb4)
 clear c1 c2
 have c1:w4.cell? ⟨w.heap.size,4,none⟩=some (.slice none 0 0):=HB4.out.cellAt 4
 have c2:w4.cell? ⟨w.heap.size,2,none⟩=some (.slice none 0 0):=HB4.out.cellAt 2
 go_wp2_with fail
 refine (K7.out _).mono ?_;rintro e w5 ⟨rfl,hb5⟩
 have hc1:=hb0.trans (hb1.mono hb0.size)
 have hc2:=hc1.trans (hb2.mono hc1.size)
 have hc3:=hc2.trans (hb3.mono hc2.size)
 have hc4:=hc3.trans (hb4.mono hc3.size)
 have hc5:=hc4.trans (hb5.mono hc4.size)
 go_wp2_with fail
 go_ret
 exact ⟨rfl,hc5⟩
end
section
open Go.RowKit
theorem insQ_end {q:Qx}{Q:List Qx}(h:lbK q.1 (Q.map fun q=>q.1)=Q.length):insQ q Q=Q ++ [q]:=by
 unfold insQ
 rw [h,List.take_length,List.drop_length]
theorem InsQ.end {b:Nat}{vQ:Value}{Q:List Qx}{q:Qx}(h:lbK q.1 (Q.map fun q=>q.1)=Q.length)(hQ:Q.length<=1000):InsQ b vQ Q q:=by
 intro ad c w hO hr hb _ _ _
 rw [insQ_end h,h]
 refine (insertQ_end b vQ Q q ad c Q.length w (show _=_ from rfl) hQ hO hr hb).mono ?_
 rintro e w' ⟨⟨v',rfl,h1,h2⟩,h3⟩
 refine ⟨⟨v',rfl,h1,h2.imp id fun e k hk=>?_⟩,?_⟩
 ·rw [e] at hk;injection hk with hk;omega
 ·exact (GrP.of h3)
theorem bare_alone {S T:Sg}(h:S.bare=T.bare)(hM:T.M=[])(hJ:T.J=[]):S=T:=by
 obtain ⟨a,b,M,Q,J⟩:=S
 obtain ⟨a',b',M',Q',J'⟩:=T
 simp only at hM hJ
 subst hM hJ
 unfold Sg.bare at h
 injection h with h1 h2 h3 h4 h5
 have e1:M=[]:=List.map_eq_nil_iff.1 h3
 have e2:J=[]:=List.map_eq_nil_iff.1 h5
 have h1':a=a':=h1
 have h2':b=b':=h2
 have h4':Q=Q':=h4
 rw [h1',h2',e1,h4',e2]
def ozA:Oz:=⟨{ Ov.zero with k:=3,qn:=⟨#[113]⟩ },none,0,0,none,0,0⟩
def sgA:Sg:={ Sg.new with Q:=[(⟨#[113]⟩,0,0,0)] }
theorem ozA_ok (w:World):OzOk w ozA:=⟨LbOk.nil w,LbOk.nil w,by decide,by decide,by decide,by decide,by decide,by decide,by decide⟩
theorem ozA_B:opB ozA.v=true:=by kernel_rfl
theorem addA:addQ Sg.new ozA.que=(sgA,0,[]):=by kernel_rfl
theorem addB:addQ sgA ozA.que=(sgA,8,[]):=by kernel_rfl
theorem smA:Sm sgA:=⟨by decide,by decide,by decide,fun x hx=>(by cases hx),fun x hx=>(by cases hx),by decide,by decide⟩
theorem ascA0:AscK (Sg.new.Q.map fun q=>q.1):=fun i j hi hj h=>by simp [Sg.new] at hj
theorem ascA1:AscK (sgA.Q.map fun q=>q.1):=fun i j hi hj h=>by
 have:j<1:=hj
 omega
theorem hasA1:hasK ozA.que.1 (sgA.Q.map fun q=>q.1)=true:=by kernel_rfl
theorem doA (b g:Nat)(vM vQ vJ:Value)(w:World)(hG:∃ lst,Gs w b g lst vM vQ vJ Sg.new):Calls Tryz.prog 18 #[.pointer (some ⟨g,0,none⟩),.agg ozA.arr] w fun e w'=>
   (∃ A n c,e = .returned (.agg #[.int .i64 0,.slice A n c]))/\Went w w' b g vM vQ vJ Sg.new sgA:=by
 have h:=do_any b g vM vQ vJ Sg.new ozA (sgA,0,[]) w hG (ozA_ok w) (fun _=>by rw [<- addA];exact perform_3 b g vM vQ vJ Sg.new ozA rfl sm_new ascA0 (fun _=>InsQ.end (by rfl) (by decide)))
 rw [ozA_B] at h
 refine h.mono ?_
 rintro e w' ⟨⟨A,n,c,rfl,_⟩,hW⟩
 exact ⟨⟨A,n,c,rfl⟩,hW⟩
theorem doB (b g:Nat)(vM vQ vJ:Value)(w:World)(hG:∃ lst,Gs w b g lst vM vQ vJ sgA):Calls Tryz.prog 18 #[.pointer (some ⟨g,0,none⟩),.agg ozA.arr] w fun e w'=>
   (∃ A n c,e = .returned (.agg #[.int .i64 8,.slice A n c]))/\Went w w' b g vM vQ vJ sgA sgA:=by
 have h:=do_any b g vM vQ vJ sgA ozA (sgA,8,[]) w hG (ozA_ok w) (fun _=>by rw [<- addB];exact perform_3 b g vM vQ vJ sgA ozA rfl smA ascA1 (fun h=>by rw [hasA1] at h;cases h))
 rw [ozA_B] at h
 refine h.mono ?_
 rintro e w' ⟨⟨A,n,c,rfl,_⟩,hW⟩
 exact ⟨⟨A,n,c,rfl⟩,hW⟩
theorem Went.below {w w':World}{b g:Nat}{lst:Int}{vM vQ vJ:Value}{S T:Sg}(hG:Gs w b g lst vM vQ vJ S)(hb:b<=w.heap.size)(h:Went w w' b g vM vQ vJ S T):Below b w w':=by
 obtain ⟨_,_,_,_,_,_,_,h3,_⟩:=h
 exact h3.below hb fun k hk=>(hG.blk hk).1
theorem stateA (b g:Nat) (lst:Int)(vM vQ vJ:Value)(w:World)(hG:Gs w b g lst vM vQ vJ sgA):Calls Tryz.prog 20 #[.pointer (some ⟨g,0,none⟩)] w fun e w'=>
  (∃ A N c B d C n f,e = .returned (.agg #[.int .i64 0,.int .i64 1,.slice A N c,.slice B 1 d,.slice C n f]))/\Below w.heap.size w w':=by
 refine (state_any b g lst vM vQ vJ sgA w hG smA).mono ?_
 rintro e w' ⟨⟨vM6,vQ6,vJ6,S6,rfl,hO6,hS6⟩,hb6⟩
 obtain rfl:S6=sgA:=bare_alone hS6 rfl rfl
 obtain ⟨B6,c6,hv6,_,_,_,_⟩:=hO6.Q.sl
 have hv7:vQ6 = .slice B6 1 c6:=hv6
 obtain ⟨A6,d6,hv8,_,_,_,_⟩:=hO6.M.sl
 obtain ⟨C6,f6,hv9,_,_,_,_⟩:=hO6.J.sl
 subst hv7 hv8 hv9
 exact ⟨⟨_,_,_,_,_,_,_,_,rfl⟩,hb6⟩
theorem fieldA (A:Option Addr) (N c:Nat)(B:Option Addr) (d:Nat)(C:Option Addr) (n f:Nat)(w:World):(Instr.field 31 (.agg #[.int .i64 0,.int .i64 1,.slice A N c,.slice B 1 d,.slice C n f]) 3).run Tryz.prog w = .ok (.slice B 1 d) w:=by kernel_rfl


theorem awake15_any (w:World):Calls Tryz.prog 12 #[] w fun e w'=>e = .returned (.bool true)/\Below w.heap.size w w':=by
 have K1:=Lib.hid (fun W=>new_any W)
 have K2:=Lib.hid (fun b g vM vQ vJ W h=>doA b g vM vQ vJ W h)
 have K3:=Lib.hid (fun b g vM vQ vJ W h=>doB b g vM vQ vJ W h)
 have K4:=Lib.hid (fun b g lst vM vQ vJ (W:World)(h:Gs W b g lst vM vQ vJ sgA)=>stateA b g lst vM vQ vJ W h)
 have hfd:=fieldA
 have K5:=Lib.hid (fun W=>right_blank W)
 go_enter Tryz.func12,Tryz.ntmps12
 go_wp2_with fail
 refine (K1.out _).mono ?_;rintro e w1 ⟨rfl,hG1,hb1⟩
 have HG1:=Lib.hid hG1;clear hG1
 go_wp2_with fail
 refine (K2.out w.heap.size w.heap.size _ _ _ w1 ⟨0,HG1.out⟩).mono ?_;rintro e w2 ⟨⟨A2,n2,c2,rfl⟩,hW2⟩
 have hb2:Below w.heap.size w w2:=hb1.trans (hW2.below HG1.out hb1.size)
 obtain ⟨lst2,vM2,vQ2,vJ2,S2,hG2,hS2,_,_⟩:=hW2
 obtain rfl:S2=sgA:=bare_alone hS2 rfl rfl
 have HG2:=Lib.hid hG2;clear hG2 HG1 hS2
 go_wp2_with ((with_reducible refine store_bk rfl 36 (.tmp 2) (.tmp 10) rfl w2.heap.size 0 #[.int .i64 0,.slice A2 n2 c2] rfl rfl 36 _ #[.int .i64 0,.slice A2 n2 c2] (Bk.fresh _ _ _) (by kernel_rfl) (by simp) (by kernel_rfl) rfl ?_);intro w3 hB3 hg3 hs3;have hbl3:Below w2.heap.size w2 w3:=grown_below ((Below.refl _ _).alloc (Nat.le_refl _) _) hg3 (Nat.le_refl _);have HB3:=Lib.hid hB3;have HG3:=Lib.hid (HG2.out.below hbl3);have hb3:Below w.heap.size w w3:=hb2.trans (hbl3.mono hb2.size);clear hB3 hg3 hs3)
 refine (K3.out w.heap.size w.heap.size _ _ _ w3 ⟨_,HG3.out⟩).mono ?_;rintro e w4 ⟨⟨A4,n4,c4,rfl⟩,hW4⟩
 have hb4:Below w.heap.size w w4:=hb3.trans (hW4.below HG3.out hb3.size)
 have HB4:Hid (Bk w4 w2.heap.size 36 #[.int .i64 0,.slice A2 n2 c2]):=by
  obtain ⟨_,_,_,_,_,_,_,h3,_⟩:=hW4
  exact HB3.out.grp h3 fun e=>Nat.lt_irrefl _ (HG2.out.blk e).2
 obtain ⟨lst4,vM4,vQ4,vJ4,S4,hG4,hS4,_,_⟩:=hW4
 obtain rfl:S4=sgA:=bare_alone hS4 rfl rfl
 have HG4:=Lib.hid hG4;clear hG4 HG3 hS4 HB3 HG2
 go_wp2_with ((with_reducible refine store_bk rfl 36 (.tmp 3) (.tmp 14) rfl w4.heap.size 0 #[.int .i64 8,.slice A4 n4 c4] rfl rfl 36 _ #[.int .i64 8,.slice A4 n4 c4] (Bk.fresh _ _ _) (by kernel_rfl) (by simp) (by kernel_rfl) rfl ?_);intro w5 hB5 hg5 hs5;have hbl5:Below w4.heap.size w4 w5:=grown_below ((Below.refl _ _).alloc (Nat.le_refl _) _) hg5 (Nat.le_refl _);have HB5:=Lib.hid hB5;have HA5:=Lib.hid (HB4.out.later hbl5);have HG5:=Lib.hid (HG4.out.below hbl5);have hb5:Below w.heap.size w w5:=hb4.trans (hbl5.mono hb4.size);have c0:w5.cell? ⟨w2.heap.size,0,none⟩=some (.int .i64 0):=HA5.out.cellAt 0;have c1:w5.cell? ⟨w4.heap.size,0,none⟩=some (.int .i64 8):=HB5.out.cellAt 0;clear hB5 hg5 hs5 HG4 HB4)
 refine (K4.out w.heap.size w.heap.size _ _ _ _ w5 HG5.out).mono ?_;rintro e w6 ⟨⟨A6,N6,d6,B6,c6,C6,n6,f6,rfl⟩,hb6⟩
 have hb6':Below w.heap.size w w6:=hb5.trans (hb6.mono hb5.size)
 clear HG5 HA5 HB5 c0 c1
 go_wp2_with fail
 refine (K5.out _).mono ?_;rintro e w7 ⟨rfl,hb7⟩
 go_wp2_with fail
 go_ret
 exact ⟨rfl,hb6'.trans (hb7.mono hb6'.size)⟩
end
section
open Go.RowKit
def RetIf (e:Ending)(p:Prop):Prop:=∃ b,e = .returned (.bool b)/\(b=true->p)
theorem RetIf.no {p:Prop}:RetIf (.returned (.bool false)) p:=⟨false,rfl,fun h=>by cases h⟩
theorem RetIf.yes {p:Prop}(h:p):RetIf (.returned (.bool true)) p:=⟨true,rfl,fun _=>h⟩
theorem mem_take_succ {α:Type}{p:α->Prop}{L:List α}{k:Nat}(hk:k<L.length)(h:∀ x ∈ L.take k,p x)(hx:p L[k]):∀ x ∈ L.take (k+1),p x:=by
 intro x hm
 rw [List.take_succ_eq_append_getElem hk] at hm
 rcases List.mem_append.1 hm with h1 | h1
 ·exact h x h1
 ·rw [List.mem_singleton] at h1;subst h1;exact hx
end
end Go.Proofs.YtccccbofcnmdiaaGreat
