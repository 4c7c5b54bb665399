/- Lemmas that the law stands on. No condition. -/
import Derived.Test.YtccccbofcnmdiaaGreatM46
namespace Go.Proofs.YtccccbofcnmdiaaGreat
set_option linter.unusedSimpArgs false
set_option linter.unusedVariables false
set_option maxRecDepth 100000
set_option maxHeartbeats 51200000
section
open Go.RowKit
theorem jat_jbs {J:List Jl} {i:Nat} (h:i<J.length):jat (jbs J) i=J[i].1:=by
 rw [jat_at (by simpa [jbs] using h)];simp [jbs]
theorem srtU_len (l:List Jb):(srtU l).length<=l.length:=by
 rw [(srtU_perm l).length_eq]
 exact Nat.le_trans (List.length_filter_le _ _) (by simp)
def unF (J:List Jl):List (List Nat):=unitsU (jbs J)
theorem uniK:UniK unF where
 calls A n cap J w hn hl hA:=by
  refine (units_any A n cap (jbs J) w (Lib.hid (by rw [hn];simp [jbs])) hl (Lib.hid hA)).mono ?_
  rintro e w' ⟨⟨v,vs,rfl,h1,h2⟩,hb⟩
  refine ⟨?_,hb⟩
  obtain ⟨B,c,hv,hr,-,-,-⟩:=h1.sl
  rw [cellsW_length,h2.len] at hv
  subst hv
  refine ⟨B,c,rfl,fun i hi=>?_⟩
  obtain ⟨v2,hv2,ho2⟩:=h2.el i (unF J)[i] (List.getElem?_eq_getElem hi)
  obtain ⟨g,o,hB,hg,hc⟩:=cellW hr hv2
  obtain ⟨A2,c2,e2,hr2,-,-⟩:=ho2.rdi
  rw [show (ints (unF J)[i]).length=(unF J)[i].length by simp [ints]] at e2
  subst e2
  refine ⟨g,o,A2,c2,hB,h1.block g (by rw [hB];rfl),hg,hc,fun k hk=>?_⟩
  obtain ⟨g2,o2,hA2,hg2,hc2⟩:=RdI.nat hr2 hk
  exact ⟨g2,o2,hA2,ho2.block g2 (by rw [hA2];rfl),hg2,hc2⟩
 ne J u hu:=by
  obtain ⟨p,r,rfl,-⟩:=units_in hu
  simp
 lt J u hu i hi:=by
  obtain ⟨p,r,-,h,-⟩:=units_in hu
  have:=(h i hi).1
  simpa [jbs] using this
 few J u hu:=by
  obtain ⟨i,hi,_,hu2⟩:=units_mem hu (Nat.le_refl _)
  obtain ⟨-,h3,-⟩:=unit_head hi hu2
  have h4:=srtU_len (jbs J)
  have h5:=h3.length_le
  simp only [jbs,List.length_map] at h4 h5 ⊢
  omega
 len J:=by
  have h1:=unitsK_len (jbs J) (srtU (jbs J)) (srtU (jbs J)).length
  have h4:=srtU_len (jbs J)
  show (unitsK (jbs J) (srtU (jbs J)) (srtU (jbs J)).length).length<=_
  simp only [jbs,List.length_map] at h1 h4 ⊢
  omega
theorem insE_mem {x z:En} {E:List En} (h:z ∈ insE x E):z=x ∨ z ∈ E:=by
 unfold insE at h
 rcases List.mem_append.1 h with h | h
 ·exact .inr ((List.takeWhile_sublist _).mem h)
 ·rcases List.mem_cons.1 h with h | h
  ·exact .inl h
  ·exact .inr ((List.dropWhile_sublist _).mem h)
theorem srt_mem (t:Kt) (tl:List Lb) (l:List Jb) {z:En}:∀ (L:List Ml) (E:List En),z ∈ L.foldl (fun E m=>match entry t tl l m with | some x=>insE x E | none=>E) E->z ∈ E ∨ ∃ m ∈ L,m.1.nm=z.1
 | [],E,h=>.inl h
 | m :: L,E,h=>by
  rw [List.foldl_cons] at h
  rcases srt_mem t tl l L _ h with h1 | ⟨x,hx,e⟩
  ·cases he:entry t tl l m with
   | none=>rw [he] at h1;exact .inl h1
   | some y=>
    rw [he] at h1
    rcases insE_mem h1 with h2 | h2
    ·refine .inr ⟨m,by simp,?_⟩
     rw [h2]
     unfold entry at he
     cases hs:sco m.1 m.2 t tl l with
     | none=>rw [hs] at he;cases he
     | some s=>rw [hs] at he;injection he with he;rw [<- he]
    ·exact .inl h2
  ·exact .inr ⟨x,List.mem_cons_of_mem _ hx,e⟩
def bsF (L:List Ml) (J:List Jl) (p:Nat):ByteArray × Bool:=bestP (srt (jl J p).1.tk (jl J p).2 (jbs J) L)
theorem bestK:BestK bsF where
 calls A0 N c0 L A n cap J p w hp hN hNl hL hLo hn hl hA hT:=by
  have h:=best_any A0 N c0 L A n cap (jbs J) J[p].1.tk J[p].2 w (Lib.hid hN) hNl (Lib.hid hL) (Lib.hid hLo) (Lib.hid (by rw [hn];simp [jbs])) hl (Lib.hid hA) (Lib.hid hT)
  refine h.mono ?_
  rintro e w' ⟨rfl,hb⟩
  refine ⟨?_,hb⟩
  unfold bsF
  rw [jl_at hp];rfl
 mem L J p h:=by
  unfold bsF at h ⊢
  cases hE:srt (jl J p).1.tk (jl J p).2 (jbs J) L with
  | nil=>rw [hE] at h;cases h
  | cons x E=>
   have hx:x ∈ srt (jl J p).1.tk (jl J p).2 (jbs J) L:=by rw [hE];simp
   rcases srt_mem _ _ _ L [] hx with h1 | h1
   ·cases h1
   ·exact h1
def choF (L:List Ml) (J:List Jl) (p:Nat):Option Ch:=cho (plansOf L (jl J p).1.tk (jl J p).2 (jbs J)) (jbs J) L L.length
def chF (L:List Ml) (J:List Jl) (p:Nat):ByteArray × List ByteArray × Bool:=(chN L (choF L J p),chG L (jl J p).1.tk (jl J p).2 (jbs J) (choF L J p),(choF L J p).isSome)
theorem choF_is {L:List Ml} {J:List Jl} {p:Nat} {x:Ch} (h:choF L J p=some x):∃ hx:x.1<L.length,∃ G,chN L (some x)=L[x.1].1.nm/\chG L (jl J p).1.tk (jl J p).2 (jbs J) (some x)=namesAt (jbs J) G/\(∀ i ∈ G,i<J.length)/\G.length<=J.length:=by
 obtain ⟨⟨G,h1,-,-,h4⟩,-⟩:=cho_is h
 refine ⟨h4,G,?_,?_,?_,?_⟩
 ·show nmAt L x.1=_
  unfold nmAt;simp [List.getD,h4]
 ·show namesAt _ ((plansOf _ _ _ _ x.1).getD [])=_
  rw [h1];rfl
 ·rw [plansOf_at h4] at h1
  intro i hi
  simpa [jbs] using places_lt h1 i hi
 ·rw [plansOf_at h4] at h1
  simpa [jbs] using places_len h1
theorem choK:ChoK chF where
 calls A0 N c0 L A n cap J p w hp hN hNl hL hLo hn hl hA hT:=by
  have hr:cho (plansOf L J[p].1.tk J[p].2 (jbs J)) (jbs J) L N=choF L J p:=by unfold choF;rw [jl_at hp,hN]
  have h:=vchoose_any A0 N c0 L A n cap (jbs J) J[p].1.tk J[p].2 w (Lib.hid hN) hNl (Lib.hid hL) (Lib.hid hLo) (Lib.hid (by rw [hn];simp [jbs])) hl (Lib.hid hA) (Lib.hid hT) (choF L J p) (Lib.hid hr)
  refine h.mono ?_
  rintro e w' ⟨⟨v,rfl,ho⟩,hb⟩
  refine ⟨⟨v,rfl,?_⟩,hb⟩
  unfold chF
  rw [jl_at hp]
  exact ho
 mem L J p h:=by
  cases hc:choF L J p with
  | none=>unfold chF at h;rw [hc] at h;cases h
  | some x=>
   obtain ⟨hx,G,h1,-⟩:=choF_is hc
   refine ⟨L[x.1],List.getElem_mem hx,?_⟩
   unfold chF
   rw [hc];exact h1.symm
 nms L J p h s hs:=by
  cases hc:choF L J p with
  | none=>unfold chF at h;rw [hc] at h;cases h
  | some x=>
   obtain ⟨hx,G,-,h2,h3,-⟩:=choF_is hc
   unfold chF at hs
   rw [hc] at hs
   have hs:s ∈ chG L (jl J p).1.tk (jl J p).2 (jbs J) (some x):=hs
   rw [h2] at hs
   obtain ⟨i,hi,rfl⟩:=List.mem_map.1 hs
   refine ⟨J[i]'(h3 i hi),List.getElem_mem _,?_⟩
   rw [jat_jbs (h3 i hi)]
   exact sE_iff.2 rfl
 few L J p:=by
  cases hc:choF L J p with
  | none=>unfold chF;rw [hc];exact Nat.zero_le _
  | some x=>
   obtain ⟨hx,G,-,h2,-,h4⟩:=choF_is hc
   unfold chF
   rw [hc]
   show (chG L (jl J p).1.tk (jl J p).2 (jbs J) (some x)).length<=_
   rw [h2];simpa [namesAt] using h4
end
section
open Go.RowKit
def atK (t:ByteArray) (W:List Ac):Nat->Int
 | 0=>-1
 | k+1=>if sE (W.getD k (0,⟨#[]⟩,⟨#[]⟩)).2.1 t then (k:Int) else atK t W k
abbrev atW (t:ByteArray) (W:List Ac):Int:=atK t W W.length
def actW (W:List Ac) (x:Ac):Option (List Ac):=
 if x.1=1 then (if 0<=atW x.2.1 W then none else some (W ++ [x]))
 else if atW x.2.1 W<0 then none
 else if sE (W.getD (atW x.2.1 W).toNat (0,⟨#[]⟩,⟨#[]⟩)).2.2 x.2.2 then some (W.eraseIdx (atW x.2.1 W).toNat) else none
def runW:List Ac->List Ac->Option (List Ac)
 | W,[]=>some W
 | W,x :: l=>(actW W x).bind fun W'=>runW W' l
theorem runW_append:∀ (W l m:List Ac),runW W (l ++ m)=(runW W l).bind fun W'=>runW W' m
 | W,[],m=>rfl
 | W,x :: l,m=>by
  show (actW W x).bind _=((actW W x).bind _).bind _
  cases actW W x with
  | none=>rfl
  | some W'=>exact runW_append W' l m
theorem atK_no {t:ByteArray} {W:List Ac} (h:∀ y ∈ W,sE y.2.1 t=false):∀ k,k<=W.length->atK t W k = -1
 | 0,_=>rfl
 | k+1,hk=>by
  have e:W.getD k (0,⟨#[]⟩,⟨#[]⟩)=W[k]:=by simp [List.getD,List.getElem?_eq_getElem (show k<W.length by omega)]
  unfold atK
  rw [e,h _ (List.getElem_mem _)]
  exact atK_no h k (by omega)
theorem atK_is {t:ByteArray} {W:List Ac} (hn:(W.map fun y=>y.2.1).Nodup) {p:Nat} (hp:p<W.length) (ht:sE W[p].2.1 t=true):∀ k,k<=W.length->p<k->atK t W k=(p:Int)
 | 0,_,h=>by omega
 | k+1,hk,h=>by
  have e:W.getD k (0,⟨#[]⟩,⟨#[]⟩)=W[k]:=by simp [List.getD,List.getElem?_eq_getElem (show k<W.length by omega)]
  unfold atK
  rw [e]
  by_cases hc:sE W[k].2.1 t=true
  ·rw [if_pos hc]
   have h1:(W.map fun y=>y.2.1)[k]'(by simp;omega)=(W.map fun y=>y.2.1)[p]'(by simpa using hp):=by
    rw [List.getElem_map,List.getElem_map,sE_iff.1 hc,sE_iff.1 ht]
   rcases Nat.lt_or_ge p k with hlt | hge
   ·exact absurd h1.symm (List.pairwise_iff_getElem.1 hn p k (by simpa using hp) (by simp;omega) hlt)
   ·have:k=p:=by omega
    rw [this]
  ·rw [if_neg hc]
   have hkp:p ≠ k:=fun hh=>by subst hh;exact hc ht
   exact atK_is hn hp ht k (by omega) (by omega)
def bn1 (x:Jl):List (ByteArray × ByteArray):=if wB x.1.nd then [] else [(x.1.nm,x.1.nd)]
def bnd (J:List Jl):List (ByteArray × ByteArray):=J.flatMap bn1
def NdJ (J:List Jl):Prop:=(J.map fun x=>x.1.nm).Nodup
theorem bnd_sub:∀ J:List Jl,((bnd J).map Prod.fst).Sublist (J.map fun x=>x.1.nm)
 | []=>List.Sublist.slnil
 | x :: J=>by
  have ih:=bnd_sub J
  show ((bn1 x ++ bnd J).map Prod.fst).Sublist _
  unfold bn1
  cases wB x.1.nd with
  | true=>exact ih.cons _
  | false=>exact ih.cons_cons _
theorem bnd_append (J K:List Jl):bnd (J ++ K)=bnd J ++ bnd K:=by unfold bnd;rw [List.flatMap_append]
theorem bnd_split {J:List Jl} {p:Nat} (hp:p<J.length):(bnd J).Perm (bn1 J[p] ++ bnd (J.eraseIdx p)):=by
 have e:J=J.take p ++ J[p] :: J.drop (p+1):=by rw [<- List.drop_eq_getElem_cons hp,List.take_append_drop]
 have e2:J.eraseIdx p=J.take p ++ J.drop (p+1):=List.eraseIdx_eq_take_drop_succ J p
 rw [e2,bnd_append]
 have e3:bnd J=bnd (J.take p) ++ (bn1 J[p] ++ bnd (J.drop (p+1))):=by
  conv=>lhs;rw [e]
  rw [bnd_append];rfl
 rw [e3,<- List.append_assoc,<- List.append_assoc]
 exact List.Perm.append_right _ List.perm_append_comm
theorem bnd_set {J:List Jl} {p:Nat} (hp:p<J.length) (y:Jl):(bnd (J.set p y)).Perm (bn1 y ++ bnd (J.eraseIdx p)):=by
 have h:=bnd_split (J:=J.set p y) (p:=p) (by rw [List.length_set];exact hp)
 rw [List.getElem_set_self] at h
 have e:(J.set p y).eraseIdx p=J.eraseIdx p:=by
  rw [List.eraseIdx_eq_take_drop_succ,List.eraseIdx_eq_take_drop_succ,List.take_set_of_le (Nat.le_refl _),List.drop_set_of_lt (by omega)]
 rwa [e] at h
def Tells (J:List Jl) (W:List Ac):Prop:=(W.map Prod.snd).Perm (bnd J)
theorem Tells.nodup {J:List Jl} {W:List Ac} (h:Tells J W) (hn:NdJ J):(W.map fun y=>y.2.1).Nodup:=by
 have e:(W.map fun y:Ac=>y.2.1)=(W.map Prod.snd).map Prod.fst:=by rw [List.map_map];rfl
 rw [e,(h.map Prod.fst).nodup_iff]
 exact hn.sublist (bnd_sub J)
def Goes (J:List Jl) (l:List Ac) (J':List Jl):Prop:=∀ W,Tells J W -> ∃ W',runW W l=some W' /\ Tells J' W'
theorem Goes.none (J:List Jl):Goes J [] J:=fun W h=>⟨W,rfl,h⟩
theorem Goes.same {J J':List Jl} (e:(bnd J).Perm (bnd J')):Goes J [] J':=fun W h=>⟨W,rfl,h.trans e⟩
theorem Goes.trans {J K L:List Jl} {l m:List Ac} (h:Goes J l K) (g:Goes K m L):Goes J (l ++ m) L:=fun W hW=>by
 obtain ⟨W1,e1,h1⟩:=h W hW
 obtain ⟨W2,e2,h2⟩:=g W1 h1
 exact ⟨W2,by rw [runW_append,e1];exact e2,h2⟩
theorem goes_bind {J J':List Jl} {t n:ByteArray} (hn:NdJ J') (h:(bnd J').Perm ((t,n) :: bnd J)):Goes J [(1,t,n)] J':=fun W hW=>by
 have hno:∀ y ∈ W,sE y.2.1 t=false:=fun y hy=>by
  cases hc:sE y.2.1 t with
  | false=>rfl
  | true=>
   have h1:=(h.map Prod.fst).nodup_iff.1 (hn.sublist (bnd_sub J'))
   rw [List.map_cons,List.nodup_cons] at h1
   refine absurd ?_ h1.1
   rw [<- sE_iff.1 hc]
   exact List.mem_map_of_mem (f:=Prod.fst) (a:=y.2) (hW.mem_iff.1 (List.mem_map_of_mem (f:=Prod.snd) hy))
 refine ⟨W ++ [(1,t,n)],?_,?_⟩
 ·show (actW W (1,t,n)).bind _=_
  unfold actW
  rw [if_pos rfl,atW,atK_no hno _ (Nat.le_refl _),if_neg (by omega)]
  rfl
 ·show ((W ++ [(1,t,n)]).map Prod.snd).Perm _
  rw [List.map_append]
  exact (List.perm_append_comm.trans (hW.cons (t,n))).trans h.symm
theorem erase_perm {α:Type} {l:List α} {p:Nat} (hp:p<l.length):l.Perm (l[p] :: l.eraseIdx p):=by
 have e:l=l.take p ++ l[p] :: l.drop (p+1):=by rw [<- List.drop_eq_getElem_cons hp,List.take_append_drop]
 conv=>lhs;rw [e]
 rw [List.eraseIdx_eq_take_drop_succ]
 exact List.perm_middle
theorem goes_free {J J':List Jl} {k:Int} {t n:ByteArray} (hk:k ≠ 1) (hn:NdJ J) (h:(bnd J).Perm ((t,n) :: bnd J')):Goes J [(k,t,n)] J':=fun W hW=>by
 have hm:(t,n) ∈ W.map Prod.snd:=hW.mem_iff.2 (h.mem_iff.2 List.mem_cons_self)
 obtain ⟨p,hp,e⟩:=List.getElem_of_mem hm
 rw [List.length_map] at hp
 rw [List.getElem_map] at e
 have ea:atW t W=(p:Int):=atK_is (hW.nodup hn) hp (by rw [e];exact sE_refl _) _ (Nat.le_refl _) hp
 have eg:W.getD p (0,⟨#[]⟩,⟨#[]⟩)=W[p]:=by simp [List.getD,List.getElem?_eq_getElem hp]
 refine ⟨W.eraseIdx p,?_,?_⟩
 ·show (actW W (k,t,n)).bind _=_
  unfold actW
  rw [if_neg hk,ea,if_neg (by omega),Int.toNat_natCast,eg,e,if_pos (sE_refl _)]
  rfl
 ·have h1:(W.map Prod.snd).Perm ((t,n) :: (W.eraseIdx p).map Prod.snd):=by
   have:=(erase_perm hp).map Prod.snd
   rwa [List.map_cons,e] at this
  exact ((h1.symm.trans hW).trans h).cons_inv
section
variable {J:List Jl} {p:Nat}
theorem wait_bind {s:ByteArray} (hp:p<J.length) (hw:wB J[p].1.nd=true) (hs:s.size ≠ 0) (hn:NdJ J):Goes J [(1,J[p].1.nm,s)] (J.set p (goX s J[p]))/\NdJ (J.set p (goX s J[p])):=by
 have hn':NdJ (J.set p (goX s J[p])):=by
  unfold NdJ;rw [List.map_set]
  have e:(J.map fun x=>x.1.nm).set p (goX s J[p]).1.nm=J.map fun x=>x.1.nm:=by
   have:(goX s J[p]).1.nm=(J.map fun x=>x.1.nm)[p]'(by simpa using hp):=by rw [List.getElem_map];rfl
   rw [this,List.set_getElem_self]
  rw [e];exact hn
 refine ⟨goes_bind hn' ?_,hn'⟩
 have h1:=bnd_split hp
 have h2:=bnd_set hp (goX s J[p])
 have e1:bn1 J[p]=[]:=by unfold bn1;rw [hw];rfl
 have e2:bn1 (goX s J[p])=[(J[p].1.nm,s)]:=by
  unfold bn1
  have:wB (goX s J[p]).1.nd=false:=decide_eq_false hs
  rw [this];rfl
 rw [e1] at h1;rw [e2] at h2
 exact h2.trans (h1.symm.cons _)
theorem bound_rest {k:Int} (hk:k ≠ 1) (hp:p<J.length) (hw:wB J[p].1.nd=false) (hn:NdJ J):Goes J [(k,J[p].1.nm,J[p].1.nd)] (J.set p (restX J[p]))/\NdJ (J.set p (restX J[p])):=by
 have hn':NdJ (J.set p (restX J[p])):=by
  unfold NdJ;rw [List.map_set]
  have e:(J.map fun x=>x.1.nm).set p (restX J[p]).1.nm=J.map fun x=>x.1.nm:=by
   have:(restX J[p]).1.nm=(J.map fun x=>x.1.nm)[p]'(by simpa using hp):=by rw [List.getElem_map];rfl
   rw [this,List.set_getElem_self]
  rw [e];exact hn
 refine ⟨goes_free hk hn ?_,hn'⟩
 have h1:=bnd_split hp
 have h2:=bnd_set hp (restX J[p])
 have e1:bn1 J[p]=[(J[p].1.nm,J[p].1.nd)]:=by unfold bn1;rw [hw];rfl
 have e2:bn1 (restX J[p])=[]:=by
  unfold bn1
  have:wB (restX J[p]).1.nd=true:=rfl
  rw [this];rfl
 rw [e1] at h1;rw [e2] at h2
 exact h1.trans (h2.symm.cons _)
theorem erase_names (hn:NdJ J):NdJ (J.eraseIdx p):=by
 unfold NdJ
 exact hn.sublist ((List.eraseIdx_sublist J p).map _)
theorem bound_erase {k:Int} (hk:k ≠ 1) (hp:p<J.length) (hw:wB J[p].1.nd=false) (hn:NdJ J):Goes J [(k,J[p].1.nm,J[p].1.nd)] (J.eraseIdx p):=by
 refine goes_free hk hn ?_
 have h1:=bnd_split hp
 have e1:bn1 J[p]=[(J[p].1.nm,J[p].1.nd)]:=by unfold bn1;rw [hw];rfl
 rwa [e1] at h1
theorem wait_erase (hp:p<J.length) (hw:wB J[p].1.nd=true):Goes J [] (J.eraseIdx p):=by
 refine Goes.same ?_
 have h1:=bnd_split hp
 have e1:bn1 J[p]=[]:=by unfold bn1;rw [hw];rfl
 rwa [e1] at h1
end
end
section
open Go.RowKit
def NeM (M:List Ml):Prop:=∀ x ∈ M,x.1.nm.size ≠ 0
def Leads (J:List Jl) (l:List Ac) (J':List Jl):Prop:=NdJ J->Goes J l J' /\ NdJ J'
theorem Leads.none (J:List Jl):Leads J [] J:=fun h=>⟨Goes.none J,h⟩
theorem Leads.trans {J K L:List Jl} {l m:List Ac} (h:Leads J l K) (g:Leads K m L):Leads J (l ++ m) L:=fun hn=>by
 obtain ⟨h1,h2⟩:=h hn
 obtain ⟨g1,g2⟩:=g h2
 exact ⟨h1.trans g1,g2⟩
section
variable {s:ByteArray} {J:List Jl} {p:Nat}
theorem sE_size {a b:ByteArray} (h:sE a b=true) (hb:b.size ≠ 0):wB a=false:=by rw [sE_iff.1 h];exact decide_eq_false hb
theorem relK_leads (hs:s.size ≠ 0):∀ k,k<=J.length->Leads J (relA s (J.take k)) (relK s J k)
 | 0,_=>by rw [relK_zero];exact Leads.none J
 | k+1,hk=>by
  have hk':k<J.length:=by omega
  have ih:=relK_leads hs k (by omega)
  have hl:k<(relK s J k).length:=by rw [relK_length];exact hk'
  have ea:relA s (J.take (k+1))=relA s (J.take k) ++ (if sE J[k].1.nd s then [(3,J[k].1.nm,s)] else []):=by
   unfold relA
   rw [List.take_succ_eq_append_getElem hk',List.filter_append,List.map_append]
   congr 1
   by_cases h:sE J[k].1.nd s=true <;> simp [h]
  rw [ea,relK_succ hk']
  refine ih.trans ?_
  by_cases h:sE J[k].1.nd s=true
  ·rw [if_pos h]
   intro hn
   have e:=relK_at (s:=s) hk'
   have hb:=bound_rest (k:=3) (J:=relK s J k) (p:=k) (by omega) hl (by rw [e];exact sE_size h hs) hn
   rw [e] at hb
   have e2:relX s J[k]=restX J[k]:=by unfold relX;rw [if_pos h]
   rw [e2]
   rw [sE_iff.1 h] at hb
   exact hb
  ·rw [if_neg h]
   have e2:relX s J[k]=J[k]:=by unfold relX;rw [if_neg h]
   have e3:(relK s J k).set k (relX s J[k])=relK s J k:=by
    rw [e2]
    have e:=relK_at (s:=s) hk'
    conv=>lhs;rw [<- e]
    rw [List.set_getElem_self]
   rw [e3]
   exact Leads.none _
theorem relJ_leads (hs:s.size ≠ 0):Leads J (relA s J) (relJ s J):=by
 have h:=relK_leads (J:=J) hs J.length (Nat.le_refl _)
 rwa [relK_all,List.take_length] at h
end
theorem ml_at' {M:List Ml} {i:Nat} (h:i<M.length):ml M i=M[i]:=by simp [ml,List.getD,h]
theorem late_lt {ck:Int} {M:List Ml} {i:Nat} (h:late ck (ml M i)=true):i<M.length:=by
 rcases Nat.lt_or_ge i M.length with h1 | h1
 ·exact h1
 ·have:ml M i=noM:=by unfold ml;rw [List.getD_eq_getElem?_getD,List.getElem?_eq_none h1];rfl
  rw [this] at h
  simp [late,noM] at h
theorem expS_ne {T:Sg × List Ac} {i:Nat} (h:NeM T.1.M):NeM (expS T i).1.M:=by
 unfold expS
 split
 ·rename_i hl
  intro x hx
  rcases List.mem_or_eq_of_mem_set hx with h1 | h1
  ·exact h x h1
  ·rw [h1]
   have:=late_lt hl
   rw [ml_at' this]
   show T.1.M[i].1.nm.size ≠ 0
   exact h _ (List.getElem_mem this)
 ·exact h
theorem expS_leads {S0:List Jl} {T:Sg × List Ac} {i:Nat} (hM:NeM T.1.M) (h:Leads S0 T.2 T.1.J):Leads S0 (expS T i).2 (expS T i).1.J:=by
 unfold expS
 split
 ·rename_i hl
  have:=late_lt hl
  refine h.trans (relJ_leads ?_)
  rw [ml_at' this]
  exact hM _ (List.getElem_mem this)
 ·exact h
theorem expK_leads {S:Sg} (hM:NeM S.M):∀ k,Leads S.J (expK S k).2 (expK S k).1.J/\NeM (expK S k).1.M
 | 0=>⟨Leads.none _,hM⟩
 | k+1=>by
  obtain ⟨h1,h2⟩:=expK_leads hM k
  rw [expK_succ]
  exact ⟨expS_leads h2 h1,expS_ne h2⟩
theorem bindJ_other {s:ByteArray} {p q:Nat} {J:List Jl} (h:p ≠ q):jl (bindJ s p J) q=jl J q:=by
 unfold bindJ
 simp [jl,List.getD,List.getElem?_set_ne h]
theorem tryK_leads {bs:Bst} (hB:BestK bs) {M:List Ml} (hM:NeM M) {J:List Jl} {u:List Nat} (hu:u.Nodup) (hw:∀ q ∈ u,q<J.length/\wB (jl J q).1.nd=true) :
  ∀ k,k<=u.length -> ∀ r,tryK bs M J u k=some r->Leads J r.2 r.1/\r.1.length=J.length /\ ∀ q,q ∉ u.take k->jl r.1 q=jl J q
 | 0,_,r,h=>by injection h with h;subst h;exact ⟨Leads.none _,rfl,fun _ _=>rfl⟩
 | k+1,hk,r',h=>by
  have hk':k<u.length:=by omega
  have eu:u.getD k 0=u[k]:=by simp [List.getD,List.getElem?_eq_getElem hk']
  unfold tryK at h
  cases hr:tryK bs M J u k with
  | none=>rw [hr] at h;cases h
  | some r=>
   obtain ⟨h1,h2,h3⟩:=tryK_leads hB hM hu hw k (by omega) r hr
   rw [hr] at h
   change (if (bs M r.1 (u.getD k 0)).2=true then some (bindJ (bs M r.1 (u.getD k 0)).1 (u.getD k 0) r.1,r.2 ++ [(1,(jl r.1 (u.getD k 0)).1.nm,(bs M r.1 (u.getD k 0)).1)]) else none)=some r' at h
   rw [eu] at h
   by_cases hb:(bs M r.1 u[k]).2=true
   ·rw [if_pos hb] at h
    injection h with h
    subst h
    obtain ⟨q1,q2⟩:=hw u[k] (List.getElem_mem hk')
    have hq:u[k]<r.1.length:=by omega
    have hnt:u[k] ∉ u.take k:=fun hm=>by
     obtain ⟨i,hi,e⟩:=List.getElem_of_mem hm
     rw [List.length_take] at hi
     rw [List.getElem_take] at e
     exact List.pairwise_iff_getElem.1 hu i k (by omega) hk' (by omega) e
    have e3:=h3 _ hnt
    obtain ⟨x,hx,hxn⟩:=hB.mem _ _ _ hb
    have hs:(bs M r.1 u[k]).1.size ≠ 0:=by rw [<- hxn];exact hM x hx
    refine ⟨h1.trans fun hn=>?_,?_,fun q hqn=>?_⟩
    ·have:=wait_bind (J:=r.1) (p:=u[k]) hq (by rw [<- jl_at hq,e3];exact q2) hs hn
     rw [<- jl_at hq] at this
     exact this
    ·show (r.1.set _ _).length=_
     rw [List.length_set];exact h2
    ·rw [List.take_succ_eq_append_getElem hk',List.mem_append,not_or] at hqn
     show jl (bindJ _ _ _) q=_
     rw [bindJ_other (fun e=>hqn.2 (by rw [e];exact List.mem_singleton_self _))]
     exact h3 q hqn.1
   ·rw [if_neg hb] at h;cases h
end
section
open Go.RowKit
theorem plJ_is {J:List Jl} {p:Nat} (hn:NdJ J) (hp:p<J.length) {s:ByteArray} (hs:J[p].1.nm=s):plJ s J=(p:Int):=by
 rcases fnd_cases s (jbs J) 0 with h | ⟨q,hq,h1,h2⟩
 ·exact absurd (by rw [hs];exact sE_refl s) (fnd_none h J[p] (List.getElem_mem hp))
 ·have hq':q<J.length:=by simpa [jbs] using hq
  have e:(jbs J)[q]=J[q].1:=by simp [jbs]
  rw [e] at h2
  have hqp:q=p:=by
   rcases Nat.lt_trichotomy q p with h | h | h
   ·exact absurd (by rw [List.getElem_map,List.getElem_map,sE_iff.1 h2,hs]) (List.pairwise_iff_getElem.1 hn q p (by simpa using hq') (by simpa using hp) h)
   ·exact h
   ·exact absurd (by rw [List.getElem_map,List.getElem_map,sE_iff.1 h2,hs]) (List.pairwise_iff_getElem.1 hn p q (by simpa using hp) (by simpa using hq') h)
  show fnd s 0 (jbs J)=_
  rw [h1,hqp,Nat.zero_add]
theorem nms_set {J:List Jl} {p:Nat} {y:Jl} (hy:∀ h:p<J.length,y.1.nm=J[p].1.nm):(J.set p y).map (fun x=>x.1.nm)=J.map fun x=>x.1.nm:=by
 rw [List.map_set]
 rcases Nat.lt_or_ge p J.length with h | h
 ·have:y.1.nm=(J.map fun x=>x.1.nm)[p]'(by simpa using h):=by rw [List.getElem_map];exact hy h
  rw [this,List.set_getElem_self]
 ·rw [List.set_eq_of_length_le (by simpa using h)]
theorem evK_leads {J:List Jl} {G:List Nat} (hn:NdJ J) (hG:G.Nodup) (hb:∀ i ∈ G,i<J.length/\wB (jl J i).1.nd=false) :
  ∀ k,k<=G.length->Goes J (evK J (namesAt (jbs J) G) k).2 (evK J (namesAt (jbs J) G) k).1/\(evK J (namesAt (jbs J) G) k).1.map (fun x=>x.1.nm)=J.map (fun x=>x.1.nm) /\ ∀ q,q ∉ G.take k->jl (evK J (namesAt (jbs J) G) k).1 q=jl J q
 | 0,_=>⟨Goes.none J,rfl,fun _ _=>rfl⟩
 | k+1,hk=>by
  have hk':k<G.length:=by omega
  obtain ⟨h1,h2,h3⟩:=evK_leads hn hG hb k (by omega)
  have hkn:k<(namesAt (jbs J) G).length:=by rw [namesAt_len];exact hk'
  rw [evK_succ hkn]
  obtain ⟨T,hT⟩:∃ T,T=evK J (namesAt (jbs J) G) k:=⟨_,rfl⟩
  rw [<- hT] at h1 h2 h3 ⊢
  obtain ⟨b1,b2⟩:=hb G[k] (List.getElem_mem hk')
  have hl:T.1.length=J.length:=by simpa using congrArg List.length h2
  have hnt:G[k] ∉ G.take k:=fun hm=>by
   obtain ⟨i,hi,e⟩:=List.getElem_of_mem hm
   rw [List.length_take] at hi
   rw [List.getElem_take] at e
   exact List.pairwise_iff_getElem.1 hG i k (by omega) hk' (by omega) e
  have e3:=h3 _ hnt
  have hp:G[k]<T.1.length:=by omega
  have hnT:NdJ T.1:=by unfold NdJ;rw [h2];exact hn
  have es:(namesAt (jbs J) G)[k]=T.1[G[k]].1.nm:=by
   have e4:T.1[G[k]]=J[G[k]]:=by rw [<- jl_at hp,e3,jl_at b1]
   rw [e4]
   have:(namesAt (jbs J) G)[k]=(jat (jbs J) G[k]).nm:=by simp [namesAt]
   rw [this,jat_jbs b1]
  have epl:plJ (namesAt (jbs J) G)[k] T.1=(G[k]:Int):=plJ_is hnT hp es.symm
  unfold outS
  rw [epl,Int.toNat_natCast]
  have hw:wB T.1[G[k]].1.nd=false:=by rw [<- jl_at hp,e3];exact b2
  have hr:=bound_rest (k:=2) (by omega) hp hw hnT
  rw [<- jl_at hp] at hr
  refine ⟨h1.trans hr.1,?_,fun q hq=>?_⟩
  ·show (T.1.set _ _).map _=_
   rw [nms_set (fun h=>by rw [jl_at h];rfl)]
   exact h2
  ·rw [List.take_succ_eq_append_getElem hk',List.mem_append,not_or] at hq
   have hne:G[k] ≠ q:=fun e=>hq.2 (by rw [e];exact List.mem_singleton_self _)
   show jl (T.1.set _ _) q=_
   rw [<- h3 q hq.1]
   simp [jl,List.getD,List.getElem?_set_ne hne]
def FitC (ch:Chs15):Prop:=∀ L J p,NeM L->(ch L J p).2.2=true -> ∃ G,(ch L J p).2.1=namesAt (jbs J) G/\G.Nodup /\ ∀ i ∈ G,i<J.length/\wB (jl J i).1.nd=false
def FitU (un:Uns):Prop:=∀ J,(un J).flatten.Nodup /\ ∀ u ∈ un J,∀ q ∈ u,wB (jl J q).1.nd=true
theorem preG_leads {ch:Chs15} (hC:ChoK ch) (hF:FitC ch) {M:List Ml} (hM:NeM M) {J:List Jl} {p:Nat} (hn:NdJ J) (hp:p<J.length) (hw:wB (jl J p).1.nd=true) :
  Goes J (preG ch M J p).2 (preG ch M J p).1/\(preG ch M J p).1.map (fun x=>x.1.nm)=J.map (fun x=>x.1.nm) /\ ∀ q,q ≠ p->wB (jl J q).1.nd=true->jl (preG ch M J p).1 q=jl J q:=by
 unfold preG
 by_cases hc:(ch M J p).2.2=true
 ·rw [if_pos hc]
  obtain ⟨G,e,hG,hb⟩:=hF M J p hM hc
  obtain ⟨x,hx,hxn⟩:=hC.mem _ _ _ hc
  have hs:(ch M J p).1.size ≠ 0:=by rw [<- hxn];exact hM x hx
  rw [e,namesAt_len]
  have out:∀ q,wB (jl J q).1.nd=true->q ∉ G.take G.length:=fun q hq hm=>by
   rw [List.take_length] at hm
   have:=(hb q hm).2
   rw [hq] at this;cases this
  obtain ⟨h1,h2,h3⟩:=evK_leads (J:=J) (G:=G) hn hG hb G.length (Nat.le_refl _)
  obtain ⟨T,hT⟩:∃ T,T=evK J (namesAt (jbs J) G) G.length:=⟨_,rfl⟩
  rw [<- hT] at h1 h2 h3 ⊢
  have hlen:T.1.length=J.length:=by simpa using congrArg List.length h2
  have hpT:p<T.1.length:=by omega
  have e3:=h3 p (out p hw)
  have hnT:NdJ T.1:=by unfold NdJ;rw [h2];exact hn
  have hwb:=wait_bind (J:=T.1) (p:=p) hpT (by rw [<- jl_at hpT,e3];exact hw) hs hnT
  rw [<- jl_at hpT] at hwb
  refine ⟨h1.trans hwb.1,?_,fun q hq hqw=>?_⟩
  ·show (T.1.set _ _).map _=_
   rw [nms_set (fun h=>by rw [jl_at h];rfl)]
   exact h2
  ·show jl (bindJ _ _ _) q=_
   rw [bindJ_other (fun e=>hq e.symm)]
   exact h3 q (out q hqw)
 ·rw [if_neg hc]
  exact ⟨Goes.none J,rfl,fun _ _ _=>rfl⟩
theorem tryK_nms {bs:Bst} {M:List Ml} {J:List Jl} {u:List Nat}:∀ k r,tryK bs M J u k=some r->r.1.map (fun x=>x.1.nm)=J.map fun x=>x.1.nm
 | 0,r,h=>by injection h with h;subst h;rfl
 | k+1,r',h=>by
  unfold tryK at h
  cases hr:tryK bs M J u k with
  | none=>rw [hr] at h;cases h
  | some r=>
   have ih:=tryK_nms k r hr
   rw [hr] at h
   change (if (bs M r.1 (u.getD k 0)).2=true then some (bindJ (bs M r.1 (u.getD k 0)).1 (u.getD k 0) r.1,r.2 ++ [(1,(jl r.1 (u.getD k 0)).1.nm,(bs M r.1 (u.getD k 0)).1)]) else none)=some r' at h
   split at h
   ·injection h with h
    subst h
    show (r.1.set _ _).map _=_
    rw [nms_set (fun h=>by rw [jl_at h];rfl)]
    exact ih
   ·cases h
theorem unitG_some {bs:Bst} {ch:Chs15} {M:List Ml} {X r:List Jl × List Ac} {u:List Nat} (h:tryK bs M X.1 u u.length=some r):unitG bs ch M X u=(r.1,X.2 ++ r.2):=by
 unfold unitG;rw [h]
theorem unitG_none {bs:Bst} {ch:Chs15} {M:List Ml} {X:List Jl × List Ac} {u:List Nat} (h:tryK bs M X.1 u u.length=none) :
  unitG bs ch M X u=if (jl X.1 (u.getD 0 0)).1.ga.size=0 then ((preG ch M X.1 (u.getD 0 0)).1,X.2 ++ (preG ch M X.1 (u.getD 0 0)).2) else X:=by
 unfold unitG;rw [h]
theorem unitG_leads {bs:Bst} {ch:Chs15} (hB:BestK bs) (hC:ChoK ch) (hF:FitC ch) {M:List Ml} (hM:NeM M) {S0:List Jl} {X:List Jl × List Ac} {u:List Nat} (h0:0<u.length) (hu:u.Nodup)
  (hw:∀ q ∈ u,q<X.1.length/\wB (jl X.1 q).1.nd=true) (hn:NdJ X.1) (h:Goes S0 X.2 X.1) :
  Goes S0 (unitG bs ch M X u).2 (unitG bs ch M X u).1/\(unitG bs ch M X u).1.map (fun x=>x.1.nm)=X.1.map (fun x=>x.1.nm) /\ ∀ q,q ∉ u->wB (jl X.1 q).1.nd=true->jl (unitG bs ch M X u).1 q=jl X.1 q:=by
 cases hr:tryK bs M X.1 u u.length with
 | some r=>
  rw [unitG_some hr]
  obtain ⟨h1,h2,h3⟩:=tryK_leads hB hM hu hw u.length (Nat.le_refl _) r hr
  rw [List.take_length] at h3
  exact ⟨h.trans (h1 hn).1,show r.1.map (fun x=>x.1.nm)=_ from tryK_nms _ r hr,fun q hq _=>h3 q hq⟩
 | none=>
  rw [unitG_none hr]
  have eu:u.getD 0 0=u[0]:=by simp [List.getD,List.getElem?_eq_getElem h0]
  rw [eu]
  obtain ⟨w1,w2⟩:=hw u[0] (List.getElem_mem h0)
  split
  ·obtain ⟨h1,h2,h3⟩:=preG_leads hC hF hM hn w1 w2
   exact ⟨h.trans h1,h2,fun q hq hqw=>h3 q (fun e=>hq (by rw [e];exact List.getElem_mem h0)) hqw⟩
  ·exact ⟨h,rfl,fun _ _ _=>rfl⟩
theorem passK_leads {bs:Bst} {ch:Chs15} (hB:BestK bs) (hC:ChoK ch) (hF:FitC ch) {M:List Ml} (hM:NeM M) {J:List Jl} {U:List (List Nat)} (hn:NdJ J) (hU:U.flatten.Nodup) (h0:∀ u ∈ U,0<u.length)
  (hw:∀ u ∈ U,∀ q ∈ u,q<J.length/\wB (jl J q).1.nd=true):∀ k,k<=U.length ->
  Goes J (passK bs ch M J U k).2 (passK bs ch M J U k).1/\(passK bs ch M J U k).1.map (fun x=>x.1.nm)=J.map (fun x=>x.1.nm) /\ ∀ q,q ∉ (U.take k).flatten->wB (jl J q).1.nd=true->jl (passK bs ch M J U k).1 q=jl J q
 | 0,_=>⟨Goes.none J,rfl,fun _ _ _=>rfl⟩
 | k+1,hk=>by
  have hk':k<U.length:=by omega
  obtain ⟨h1,h2,h3⟩:=passK_leads hB hC hF hM hn hU h0 hw k (by omega)
  have es:passK bs ch M J U (k+1)=unitG bs ch M (passK bs ch M J U k) U[k]:=by
   unfold passK;rw [List.take_succ_eq_append_getElem hk',List.foldl_append];rfl
  rw [es]
  obtain ⟨X,hX⟩:∃ X,X=passK bs ch M J U k:=⟨_,rfl⟩
  rw [<- hX] at h1 h2 h3 ⊢
  have hl:X.1.length=J.length:=by simpa using congrArg List.length h2
  have hm:=List.getElem_mem hk'
  have hpw:=(List.pairwise_flatten.1 hU)
  have hnot:∀ q ∈ U[k],q ∉ (U.take k).flatten:=fun q hq hf=>by
   obtain ⟨v,hv,hqv⟩:=List.mem_flatten.1 hf
   obtain ⟨i,hi,e⟩:=List.getElem_of_mem hv
   rw [List.length_take] at hi
   rw [List.getElem_take] at e
   subst e
   exact List.pairwise_iff_getElem.1 hpw.2 i k (by omega) hk' (by omega) q hqv q hq rfl
  have hwX:∀ q ∈ U[k],q<X.1.length/\wB (jl X.1 q).1.nd=true:=fun q hq=>by
   obtain ⟨a,b⟩:=hw U[k] hm q hq
   exact ⟨by omega,by rw [h3 q (hnot q hq) b];exact b⟩
  obtain ⟨g1,g2,g3⟩:=unitG_leads hB hC hF hM (S0:=J) (h0 _ hm) (hpw.1 _ hm) hwX (by unfold NdJ;rw [h2];exact hn) h1
  refine ⟨g1,g2.trans h2,fun q hq hqw=>?_⟩
  rw [List.take_succ_eq_append_getElem hk',List.flatten_append,List.mem_append,not_or] at hq
  have e:=h3 q hq.1 hqw
  rw [g3 q (fun h=>hq.2 (by simpa using h)) (by rw [e];exact hqw)]
  exact e
theorem tick_leads {bs:Bst} {ch:Chs15} {un:Uns} (hB:BestK bs) (hC:ChoK ch) (hUn:UniK un) (hF:FitC ch) (hG:FitU un) {S:Sg} (hM:NeM S.M) (hn:NdJ S.J) :
  Goes S.J (tickG bs ch un S).2.2 (tickG bs ch un S).1.J/\NdJ (tickG bs ch un S).1.J/\NeM (tickG bs ch un S).1.M:=by
 unfold tickG
 split
 ·exact ⟨Goes.none _,hn,hM⟩
 ·obtain ⟨h1,h2⟩:=expK_leads (S:={ S with ck:=S.ck+1 }) hM S.M.length
  obtain ⟨E,hE⟩:∃ E,E=expG { S with ck:=S.ck+1 }:=⟨_,rfl⟩
  change Leads S.J (expG { S with ck:=S.ck+1 }).2 (expG { S with ck:=S.ck+1 }).1.J at h1
  change NeM (expG { S with ck:=S.ck+1 }).1.M at h2
  rw [<- hE] at h1 h2 ⊢
  obtain ⟨a1,a2⟩:=h1 hn
  obtain ⟨u1,u2⟩:=hG E.1.J
  obtain ⟨b1,b2,-⟩:=passK_leads hB hC hF h2 a2 u1 (hUn.ne _) (fun u hu q hq=>⟨hUn.lt _ u hu q hq,u2 u hu q hq⟩) _ (Nat.le_refl _)
  refine ⟨a1.trans b1,?_,h2⟩
  show NdJ (passG bs ch un E.1.M E.1.J).1
  unfold NdJ
  rw [show (passG bs ch un E.1.M E.1.J).1.map (fun x=>x.1.nm)=_ from b2]
  exact a2
end
end Go.Proofs.YtccccbofcnmdiaaGreat
