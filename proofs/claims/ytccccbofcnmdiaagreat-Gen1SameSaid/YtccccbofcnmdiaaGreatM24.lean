/- Lemmas that the law stands on. No condition. -/
import Derived.Test.YtccccbofcnmdiaaGreatM23
namespace Go.Proofs.YtccccbofcnmdiaaGreat
set_option linter.unusedSimpArgs false
set_option linter.unusedVariables false
set_option maxRecDepth 100000
set_option maxHeartbeats 51200000
section
open Go.RowKit
def stF (S:Sg)(v:Ov):Sg × An:=stepG bsF chF unF S v
theorem GrP.more {p:Nat->Prop} {w0 wr w':World}{row:Option Nat}(h:GrP p w0 wr)(hg:wr.grownBy w' row)(hn:∀ k,row=some k->p k ∨ w0.heap.size<=k):GrP p w0 w':=
 ⟨hg.os.trans h.os,hg.tape.trans h.tape,hg.output.trans h.output,Nat.le_trans h.size hg.size,fun k hk hp=>(hg.block k (Nat.lt_of_lt_of_le hk h.size) fun e=>by
  rcases hn k e.symm with h1 | h1
  ·exact hp h1
  ·omega).trans (h.block k hk hp)⟩
theorem GrP.late {p:Nat->Prop} {w0 wr w':World}(h:GrP p w0 wr){q:Nat->Prop}(hg:GrP q wr w')(hn:∀ k,q k->p k ∨ w0.heap.size<=k):GrP p w0 w':=
 ⟨hg.os.trans h.os,hg.tape.trans h.tape,hg.output.trans h.output,Nat.le_trans h.size hg.size,fun k hk hp=>(hg.block k (Nat.lt_of_lt_of_le hk h.size) fun e=>by
  rcases hn k e with h1 | h1
  ·exact hp h1
  ·omega).trans (h.block k hk hp)⟩
theorem RdA.grp {p:Nat->Prop} {w w':World}{A:Option Addr}{l:List Ac}(h:RdA w A l)(hg:GrP p w w')(hp:∀ a,A=some a -> ¬ p a.block):RdA w' A l:=fun i x hx=>by
 obtain ⟨g,o,ha,h1,h2,h3⟩:=h i x hx
 have hn:=hp _ ha
 exact ⟨g,o,ha,(hg.cell (World.block_lt_of_cell? w _ h1) hn).trans h1,(hg.cell (World.block_lt_of_cell? w _ h2) hn).trans h2,(hg.cell (World.block_lt_of_cell? w _ h3) hn).trans h3⟩
theorem RdA.aside {w w':World}{A:Option Addr}{l:List Ac}{p:Nat}{t:TypeId}{cs:Array Value}(h:RdA w A l)(hB:Bk w p t cs)(hcs:∀ (j:Nat)(s:ByteArray),cs[j]? ≠ some (Value.string s))(hg:w.grownBy w' (some p)):RdA w' A l:=fun i x hx=>by
 obtain ⟨g,o,ha,h1,h2,h3⟩:=h i x hx
 have hn:¬ some p=some g:=fun e=>by
  injection e with e
  subst e
  rw [hB.cellAt] at h2
  exact hcs _ _ h2
 have hG:=GrP.of hg
 exact ⟨g,o,ha,(hG.cell (World.block_lt_of_cell? w _ h1) hn).trans h1,(hG.cell (World.block_lt_of_cell? w _ h2) hn).trans h2,(hG.cell (World.block_lt_of_cell? w _ h3) hn).trans h3⟩
structure Tg (w wr:World) (g h:Nat)(F K:Nat->Prop)(S T:Sg) (m m2:Int):Prop where
 g1:Gx wr w.heap.size g F S
 g2:Gx wr w.heap.size h K T
 ap:∀ k,F k -> ¬ K k
 b1:∀ k,F k->w.heap.size<=k/\k<wr.heap.size
 b2:∀ k,K k->w.heap.size<=k/\k<wr.heap.size
 i1:In2 m S
 i2:In2 m2 T
 be:Below w.heap.size w wr
def nextF (F:Nat->Prop) (W w':World) (k:Nat):Prop:=(F k ∨ W.heap.size<=k)/\k<w'.heap.size
section
variable {w wr w':World}{g h:Nat}{F K:Nat->Prop} {S T S' T':Sg} {m m2 m':Int}{p:Nat}
theorem nextF.off (hF:¬ F p)(hp:p<wr.heap.size):¬ nextF F wr w' p:=fun h=>h.1.elim hF fun h2=>by omega
theorem Tg.below (H:Tg w wr g h F K S T m m2)(hb:Below wr.heap.size wr w'):Tg w w' g h F K S T m m2:=
 ⟨H.g1.below hb,H.g2.below hb,H.ap,fun k hk=>⟨(H.b1 k hk).1,Nat.lt_of_lt_of_le (H.b1 k hk).2 hb.size⟩,fun k hk=>⟨(H.b2 k hk).1,Nat.lt_of_lt_of_le (H.b2 k hk).2 hb.size⟩,H.i1,H.i2,H.be.trans (hb.mono H.be.size)⟩
theorem Tg.grp (H:Tg w wr g h F K S T m m2){q:Nat->Prop}(hg:GrP q wr w')(hq:∀ k,q k -> ¬ F k /\ ¬ K k/\w.heap.size<=k):Tg w w' g h F K S T m m2:=
 ⟨H.g1.grp hg fun k _ hk e=>(hq k e).1 hk,H.g2.grp hg fun k _ hk e=>(hq k e).2.1 hk,H.ap,fun k hk=>⟨(H.b1 k hk).1,Nat.lt_of_lt_of_le (H.b1 k hk).2 hg.size⟩,fun k hk=>⟨(H.b2 k hk).1,Nat.lt_of_lt_of_le (H.b2 k hk).2 hg.size⟩,H.i1,H.i2,H.be.trans (hg.below H.be.size fun k hk=>(hq k hk).2.2)⟩
theorem Tg.left (H:Tg w wr g h F K S T m m2)(h1:Gx w' w.heap.size g (fun k=>F k ∨ wr.heap.size<=k) S')(hg:GrP F wr w')(hi:In2 m' S'):Tg w w' g h (nextF F wr w') K S' T m' m2:=by
 refine ⟨h1.wide fun k hk hf=>⟨hf,hk⟩,H.g2.grp hg fun k _ hk e=>H.ap k e hk,fun k hk hk2=>?_,fun k hk=>⟨?_,hk.2⟩,fun k hk=>⟨(H.b2 k hk).1,Nat.lt_of_lt_of_le (H.b2 k hk).2 hg.size⟩,hi,H.i2,H.be.trans (hg.below H.be.size fun k hk=>(H.b1 k hk).1)⟩
 ·rcases hk.1 with h3 | h3
  ·exact H.ap k h3 hk2
  ·have:=(H.b2 k hk2).2;omega
 ·rcases hk.1 with h3 | h3
  ·exact (H.b1 k h3).1
  ·exact Nat.le_trans H.be.size h3
theorem Tg.right (H:Tg w wr g h F K S T m m2)(h1:Gx w' w.heap.size h (fun k=>K k ∨ wr.heap.size<=k) T')(hg:GrP K wr w')(hi:In2 m' T'):Tg w w' g h F (nextF K wr w') S T' m m':=by
 refine ⟨H.g1.grp hg fun k _ hk e=>H.ap k hk e,h1.wide fun k hk hf=>⟨hf,hk⟩,fun k hk hk2=>?_,fun k hk=>⟨(H.b1 k hk).1,Nat.lt_of_lt_of_le (H.b1 k hk).2 hg.size⟩,fun k hk=>⟨?_,hk.2⟩,H.i1,hi,H.be.trans (hg.below H.be.size fun k hk=>(H.b2 k hk).1)⟩
 ·rcases hk2.1 with h3 | h3
  ·exact H.ap k hk h3
  ·have:=(H.b1 k hk).2;omega
 ·rcases hk.1 with h3 | h3
  ·exact (H.b2 k h3).1
  ·exact Nat.le_trans H.be.size h3
end
def RetD (b:Nat)(w:World)(e:Ending)(R:An):Prop:=∃ A n c,e = .returned (.agg #[.int .i64 R.1,.slice A n c])/\RetL b w A n c R.2
theorem tg_left {w wr:World}{g h:Nat}{F K:Nat->Prop}{S T:Sg}{m m2:Int}(H:Tg w wr g h F K S T m m2)(hm:0<=m)(hm2:m<=1152921504606846976)(x:Oz)(hx:OzOk wr x)(hl1:x.v.l1.length<=1000)(hl3:x.v.l3.length<=1000) :
  Calls Tryz.prog 18 #[.pointer (some ⟨g,0,none⟩),.agg x.arr] wr fun e w'=>RetD wr.heap.size w' e (stF S x.v).2/\Tg w w' g h (nextF F wr w') K (stF S x.v).1 T (m+1001000) m2/\GrP F wr w':=by
 refine (gx_do bsF chF unF bestK choK uniK bare3 w.heap.size g F m S x wr H.g1 H.i1 hm2 hx hl1 hl3).mono ?_
 rintro e w' ⟨⟨A,n,c,rfl,hR⟩,h1,h2⟩
 exact ⟨⟨A,n,c,rfl,hR⟩,H.left h1 h2 (H.i1.step uniK hm x.v hl1 hl3),h2⟩
theorem tg_right {w wr:World}{g h:Nat}{F K:Nat->Prop}{S T:Sg}{m m2:Int}(H:Tg w wr g h F K S T m m2)(hm:0<=m2)(hm2:m2<=1152921504606846976)(x:Oz)(hx:OzOk wr x)(hl1:x.v.l1.length<=1000)(hl3:x.v.l3.length<=1000) :
  Calls Tryz.prog 18 #[.pointer (some ⟨h,0,none⟩),.agg x.arr] wr fun e w'=>RetD wr.heap.size w' e (stF T x.v).2/\Tg w w' g h F (nextF K wr w') S (stF T x.v).1 m (m2+1001000)/\GrP K wr w':=by
 refine (gx_do bsF chF unF bestK choK uniK bare3 w.heap.size h K m2 T x wr H.g2 H.i2 hm2 hx hl1 hl3).mono ?_
 rintro e w' ⟨⟨A,n,c,rfl,hR⟩,h1,h2⟩
 exact ⟨⟨A,n,c,rfl,hR⟩,H.right h1 h2 (H.i2.step uniK hm x.v hl1 hl3),h2⟩
theorem tg_new1 (w wr:World)(hb:Below w.heap.size w wr):Calls Tryz.prog 14 #[] wr fun e w'=>e = .returned (.pointer (some ⟨wr.heap.size,0,none⟩))/\Gx w' w.heap.size wr.heap.size (fun k=>wr.heap.size<=k/\k<w'.heap.size) Sg.new/\Below wr.heap.size wr w':=by
 refine (gx_new wr).mono ?_
 rintro e w' ⟨rfl,h,hb2⟩
 exact ⟨rfl,(h.base hb.size).wide fun k hk hf=>⟨hf,hk⟩,hb2⟩
end
section
open Go.RowKit
def atK (t:ByteArray)(W:List Ac):Nat->Int
 | 0=>-1
 | k+1=>if sE (W.getD k (0,⟨#[]⟩,⟨#[]⟩)).2.1 t then (k:Int) else atK t W k
abbrev atW (t:ByteArray)(W:List Ac):Int:=atK t W W.length
def actW (W:List Ac)(x:Ac):Option (List Ac):=
 if x.1=1 then (if 0<=atW x.2.1 W then none else some (W ++ [x]))
 else if atW x.2.1 W<0 then none
 else if sE (W.getD (atW x.2.1 W).toNat (0,⟨#[]⟩,⟨#[]⟩)).2.2 x.2.2 then some (W.eraseIdx (atW x.2.1 W).toNat) else none
def runW:List Ac->List Ac->Option (List Ac)
 | W,[]=>some W
 | W,x :: l=>(actW W x).bind fun W'=>runW W' l
theorem runW_append:∀ (W l m:List Ac),runW W (l ++ m)=(runW W l).bind fun W'=>runW W' m
 | W,[],m=>rfl
 | W,x :: l,m=>by
  show (actW W x).bind _=((actW W x).bind _).bind _
  cases actW W x with
  | none=>rfl
  | some W'=>exact runW_append W' l m
theorem atK_no {t:ByteArray}{W:List Ac}(h:∀ y ∈ W,sE y.2.1 t=false):∀ k,k<=W.length->atK t W k = -1
 | 0,_=>rfl
 | k+1,hk=>by
  have e:W.getD k (0,⟨#[]⟩,⟨#[]⟩)=W[k]:=by simp [List.getD,List.getElem?_eq_getElem (show k<W.length by omega)]
  unfold atK
  rw [e,h _ (List.getElem_mem _)]
  exact atK_no h k (by omega)
theorem atK_is {t:ByteArray}{W:List Ac}(hn:(W.map fun y=>y.2.1).Nodup){p:Nat}(hp:p<W.length)(ht:sE W[p].2.1 t=true):∀ k,k<=W.length->p<k->atK t W k=(p:Int)
 | 0,_,h=>by omega
 | k+1,hk,h=>by
  have e:W.getD k (0,⟨#[]⟩,⟨#[]⟩)=W[k]:=by simp [List.getD,List.getElem?_eq_getElem (show k<W.length by omega)]
  unfold atK
  rw [e]
  by_cases hc:sE W[k].2.1 t=true
  ·rw [if_pos hc]
   have h1:(W.map fun y=>y.2.1)[k]'(by simp;omega)=(W.map fun y=>y.2.1)[p]'(by simpa using hp):=by
    rw [List.getElem_map,List.getElem_map,sE_iff.1 hc,sE_iff.1 ht]
   rcases Nat.lt_or_ge p k with hlt | hge
   ·exact absurd h1.symm (List.pairwise_iff_getElem.1 hn p k (by simpa using hp) (by simp;omega) hlt)
   ·have:k=p:=by omega
    rw [this]
  ·rw [if_neg hc]
   have hkp:p ≠ k:=fun hh=>by subst hh;exact hc ht
   exact atK_is hn hp ht k (by omega) (by omega)
def bn1 (x:Jl):List (ByteArray × ByteArray):=if wB x.1.nd then [] else [(x.1.nm,x.1.nd)]
def bnd (J:List Jl):List (ByteArray × ByteArray):=J.flatMap bn1
def NdJ (J:List Jl):Prop:=(J.map fun x=>x.1.nm).Nodup
theorem bnd_sub:∀ J:List Jl,((bnd J).map Prod.fst).Sublist (J.map fun x=>x.1.nm)
 | []=>List.Sublist.slnil
 | x :: J=>by
  have ih:=bnd_sub J
  show ((bn1 x ++ bnd J).map Prod.fst).Sublist _
  unfold bn1
  cases wB x.1.nd with
  | true=>exact ih.cons _
  | false=>exact ih.cons_cons _
theorem bnd_append (J K:List Jl):bnd (J ++ K)=bnd J ++ bnd K:=by unfold bnd;rw [List.flatMap_append]
theorem bnd_split {J:List Jl}{p:Nat}(hp:p<J.length):(bnd J).Perm (bn1 J[p] ++ bnd (J.eraseIdx p)):=by
 have e:J=J.take p ++ J[p] :: J.drop (p+1):=by rw [<- List.drop_eq_getElem_cons hp,List.take_append_drop]
 have e2:J.eraseIdx p=J.take p ++ J.drop (p+1):=List.eraseIdx_eq_take_drop_succ J p
 rw [e2,bnd_append]
 have e3:bnd J=bnd (J.take p) ++ (bn1 J[p] ++ bnd (J.drop (p+1))):=by
  conv=>lhs;rw [e]
  rw [bnd_append];rfl
 rw [e3,<- List.append_assoc,<- List.append_assoc]
 exact List.Perm.append_right _ List.perm_append_comm
theorem bnd_set {J:List Jl}{p:Nat}(hp:p<J.length)(y:Jl):(bnd (J.set p y)).Perm (bn1 y ++ bnd (J.eraseIdx p)):=by
 have h:=bnd_split (J:=J.set p y) (p:=p) (by rw [List.length_set];exact hp)
 rw [List.getElem_set_self] at h
 have e:(J.set p y).eraseIdx p=J.eraseIdx p:=by
  rw [List.eraseIdx_eq_take_drop_succ,List.eraseIdx_eq_take_drop_succ,List.take_set_of_le (Nat.le_refl _),List.drop_set_of_lt (by omega)]
 rwa [e] at h
def Tells (J:List Jl)(W:List Ac):Prop:=(W.map Prod.snd).Perm (bnd J)
theorem Tells.nodup {J:List Jl}{W:List Ac}(h:Tells J W)(hn:NdJ J):(W.map fun y=>y.2.1).Nodup:=by
 have e:(W.map fun y:Ac=>y.2.1)=(W.map Prod.snd).map Prod.fst:=by rw [List.map_map];rfl
 rw [e,(h.map Prod.fst).nodup_iff]
 exact hn.sublist (bnd_sub J)
def Goes (J:List Jl)(l:List Ac) (J':List Jl):Prop:=∀ W,Tells J W -> ∃ W',runW W l=some W' /\ Tells J' W'
theorem Goes.none (J:List Jl):Goes J [] J:=fun W h=>⟨W,rfl,h⟩
theorem Goes.trans {J K L:List Jl}{l m:List Ac}(h:Goes J l K)(g:Goes K m L):Goes J (l ++ m) L:=fun W hW=>by
 obtain ⟨W1,e1,h1⟩:=h W hW
 obtain ⟨W2,e2,h2⟩:=g W1 h1
 exact ⟨W2,by rw [runW_append,e1];exact e2,h2⟩
theorem goes_bind {J J':List Jl}{t n:ByteArray}(hn:NdJ J')(h:(bnd J').Perm ((t,n) :: bnd J)):Goes J [(1,t,n)] J':=fun W hW=>by
 have hno:∀ y ∈ W,sE y.2.1 t=false:=fun y hy=>by
  cases hc:sE y.2.1 t with
  | false=>rfl
  | true=>
   have h1:=(h.map Prod.fst).nodup_iff.1 (hn.sublist (bnd_sub J'))
   rw [List.map_cons,List.nodup_cons] at h1
   refine absurd ?_ h1.1
   rw [<- sE_iff.1 hc]
   exact List.mem_map_of_mem (f:=Prod.fst) (a:=y.2) (hW.mem_iff.1 (List.mem_map_of_mem (f:=Prod.snd) hy))
 refine ⟨W ++ [(1,t,n)],?_,?_⟩
 ·show (actW W (1,t,n)).bind _=_
  unfold actW
  rw [if_pos rfl,atW,atK_no hno _ (Nat.le_refl _),if_neg (by omega)]
  rfl
 ·show ((W ++ [(1,t,n)]).map Prod.snd).Perm _
  rw [List.map_append]
  exact (List.perm_append_comm.trans (hW.cons (t,n))).trans h.symm
theorem erase_perm {α:Type}{l:List α}{p:Nat}(hp:p<l.length):l.Perm (l[p] :: l.eraseIdx p):=by
 have e:l=l.take p ++ l[p] :: l.drop (p+1):=by rw [<- List.drop_eq_getElem_cons hp,List.take_append_drop]
 conv=>lhs;rw [e]
 rw [List.eraseIdx_eq_take_drop_succ]
 exact List.perm_middle
theorem goes_free {J J':List Jl}{k:Int}{t n:ByteArray}(hk:k ≠ 1)(hn:NdJ J)(h:(bnd J).Perm ((t,n) :: bnd J')):Goes J [(k,t,n)] J':=fun W hW=>by
 have hm:(t,n) ∈ W.map Prod.snd:=hW.mem_iff.2 (h.mem_iff.2 List.mem_cons_self)
 obtain ⟨p,hp,e⟩:=List.getElem_of_mem hm
 rw [List.length_map] at hp
 rw [List.getElem_map] at e
 have ea:atW t W=(p:Int):=atK_is (hW.nodup hn) hp (by rw [e];exact sE_refl _) _ (Nat.le_refl _) hp
 have eg:W.getD p (0,⟨#[]⟩,⟨#[]⟩)=W[p]:=by simp [List.getD,List.getElem?_eq_getElem hp]
 refine ⟨W.eraseIdx p,?_,?_⟩
 ·show (actW W (k,t,n)).bind _=_
  unfold actW
  rw [if_neg hk,ea,if_neg (by omega),Int.toNat_natCast,eg,e,if_pos (sE_refl _)]
  rfl
 ·have h1:(W.map Prod.snd).Perm ((t,n) :: (W.eraseIdx p).map Prod.snd):=by
   have:=(erase_perm hp).map Prod.snd
   rwa [List.map_cons,e] at this
  exact ((h1.symm.trans hW).trans h).cons_inv
section
variable {J:List Jl}{p:Nat}
theorem wait_bind {s:ByteArray}(hp:p<J.length)(hw:wB J[p].1.nd=true)(hs:s.size ≠ 0)(hn:NdJ J):Goes J [(1,J[p].1.nm,s)] (J.set p (goX s J[p]))/\NdJ (J.set p (goX s J[p])):=by
 have hn':NdJ (J.set p (goX s J[p])):=by
  unfold NdJ;rw [List.map_set]
  have e:(J.map fun x=>x.1.nm).set p (goX s J[p]).1.nm=J.map fun x=>x.1.nm:=by
   have:(goX s J[p]).1.nm=(J.map fun x=>x.1.nm)[p]'(by simpa using hp):=by rw [List.getElem_map];rfl
   rw [this,List.set_getElem_self]
  rw [e];exact hn
 refine ⟨goes_bind hn' ?_,hn'⟩
 have h1:=bnd_split hp
 have h2:=bnd_set hp (goX s J[p])
 have e1:bn1 J[p]=[]:=by unfold bn1;rw [hw];rfl
 have e2:bn1 (goX s J[p])=[(J[p].1.nm,s)]:=by
  unfold bn1
  have:wB (goX s J[p]).1.nd=false:=decide_eq_false hs
  rw [this];rfl
 rw [e1] at h1;rw [e2] at h2
 exact h2.trans (h1.symm.cons _)
theorem bound_rest {k:Int}(hk:k ≠ 1)(hp:p<J.length)(hw:wB J[p].1.nd=false)(hn:NdJ J):Goes J [(k,J[p].1.nm,J[p].1.nd)] (J.set p (restX J[p]))/\NdJ (J.set p (restX J[p])):=by
 have hn':NdJ (J.set p (restX J[p])):=by
  unfold NdJ;rw [List.map_set]
  have e:(J.map fun x=>x.1.nm).set p (restX J[p]).1.nm=J.map fun x=>x.1.nm:=by
   have:(restX J[p]).1.nm=(J.map fun x=>x.1.nm)[p]'(by simpa using hp):=by rw [List.getElem_map];rfl
   rw [this,List.set_getElem_self]
  rw [e];exact hn
 refine ⟨goes_free hk hn ?_,hn'⟩
 have h1:=bnd_split hp
 have h2:=bnd_set hp (restX J[p])
 have e1:bn1 J[p]=[(J[p].1.nm,J[p].1.nd)]:=by unfold bn1;rw [hw];rfl
 have e2:bn1 (restX J[p])=[]:=by
  unfold bn1
  have:wB (restX J[p]).1.nd=true:=rfl
  rw [this];rfl
 rw [e1] at h1;rw [e2] at h2
 exact h1.trans (h2.symm.cons _)
theorem erase_names (hn:NdJ J):NdJ (J.eraseIdx p):=by
 unfold NdJ
 exact hn.sublist ((List.eraseIdx_sublist J p).map _)
end
end
section
open Go.RowKit
def NeM (M:List Ml):Prop:=∀ x ∈ M,x.1.nm.size ≠ 0
def Leads (J:List Jl)(l:List Ac) (J':List Jl):Prop:=NdJ J->Goes J l J' /\ NdJ J'
theorem Leads.none (J:List Jl):Leads J [] J:=fun h=>⟨Goes.none J,h⟩
theorem Leads.trans {J K L:List Jl}{l m:List Ac}(h:Leads J l K)(g:Leads K m L):Leads J (l ++ m) L:=fun hn=>by
 obtain ⟨h1,h2⟩:=h hn
 obtain ⟨g1,g2⟩:=g h2
 exact ⟨h1.trans g1,g2⟩
section
variable {s:ByteArray}{J:List Jl}{p:Nat}
end
theorem ml_at' {M:List Ml}{i:Nat}(h:i<M.length):ml M i=M[i]:=by simp [ml,List.getD,h]
theorem late_lt {ck:Int}{M:List Ml}{i:Nat}(h:late ck (ml M i)=true):i<M.length:=by
 rcases Nat.lt_or_ge i M.length with h1 | h1
 ·exact h1
 ·have:ml M i=noM:=by unfold ml;rw [List.getD_eq_getElem?_getD,List.getElem?_eq_none h1];rfl
  rw [this] at h
  simp [late,noM] at h
theorem bindJ_other {s:ByteArray}{p q:Nat}{J:List Jl}(h:p ≠ q):jl (bindJ s p J) q=jl J q:=by
 unfold bindJ
 simp [jl,List.getD,List.getElem?_set_ne h]
theorem tryK_leads {bs:Bst}(hB:BestK bs){M:List Ml}(hM:NeM M){J:List Jl}{u:List Nat}(hu:u.Nodup)(hw:∀ q ∈ u,q<J.length/\wB (jl J q).1.nd=true) :
  ∀ k,k<=u.length -> ∀ r,tryK bs M J u k=some r->Leads J r.2 r.1/\r.1.length=J.length /\ ∀ q,q ∉ u.take k->jl r.1 q=jl J q
 | 0,_,r,h=>by injection h with h;subst h;exact ⟨Leads.none _,rfl,fun _ _=>rfl⟩
 | k+1,hk,r',h=>by
  have hk':k<u.length:=by omega
  have eu:u.getD k 0=u[k]:=by simp [List.getD,List.getElem?_eq_getElem hk']
  unfold tryK at h
  cases hr:tryK bs M J u k with
  | none=>rw [hr] at h;cases h
  | some r=>
   obtain ⟨h1,h2,h3⟩:=tryK_leads hB hM hu hw k (by omega) r hr
   rw [hr] at h
   change (if (bs M r.1 (u.getD k 0)).2=true then some (bindJ (bs M r.1 (u.getD k 0)).1 (u.getD k 0) r.1,r.2 ++ [(1,(jl r.1 (u.getD k 0)).1.nm,(bs M r.1 (u.getD k 0)).1)]) else none)=some r' at h
   rw [eu] at h
   by_cases hb:(bs M r.1 u[k]).2=true
   ·rw [if_pos hb] at h
    injection h with h
    subst h
    obtain ⟨q1,q2⟩:=hw u[k] (List.getElem_mem hk')
    have hq:u[k]<r.1.length:=by omega
    have hnt:u[k] ∉ u.take k:=fun hm=>by
     obtain ⟨i,hi,e⟩:=List.getElem_of_mem hm
     rw [List.length_take] at hi
     rw [List.getElem_take] at e
     exact List.pairwise_iff_getElem.1 hu i k (by omega) hk' (by omega) e
    have e3:=h3 _ hnt
    obtain ⟨x,hx,hxn⟩:=hB.mem _ _ _ hb
    have hs:(bs M r.1 u[k]).1.size ≠ 0:=by rw [<- hxn];exact hM x hx
    refine ⟨h1.trans fun hn=>?_,?_,fun q hqn=>?_⟩
    ·have:=wait_bind (J:=r.1) (p:=u[k]) hq (by rw [<- jl_at hq,e3];exact q2) hs hn
     rw [<- jl_at hq] at this
     exact this
    ·show (r.1.set _ _).length=_
     rw [List.length_set];exact h2
    ·rw [List.take_succ_eq_append_getElem hk',List.mem_append,not_or] at hqn
     show jl (bindJ _ _ _) q=_
     rw [bindJ_other (fun e=>hqn.2 (by rw [e];exact List.mem_singleton_self _))]
     exact h3 q hqn.1
   ·rw [if_neg hb] at h;cases h
end
section
open Go.RowKit
theorem plJ_is {J:List Jl}{p:Nat}(hn:NdJ J)(hp:p<J.length){s:ByteArray}(hs:J[p].1.nm=s):plJ s J=(p:Int):=by
 rcases fnd_cases s (jbs J) 0 with h | ⟨q,hq,h1,h2⟩
 ·exact absurd (by rw [hs];exact sE_refl s) (fnd_none h J[p] (List.getElem_mem hp))
 ·have hq':q<J.length:=by simpa [jbs] using hq
  have e:(jbs J)[q]=J[q].1:=by simp [jbs]
  rw [e] at h2
  have hqp:q=p:=by
   rcases Nat.lt_trichotomy q p with h | h | h
   ·exact absurd (by rw [List.getElem_map,List.getElem_map,sE_iff.1 h2,hs]) (List.pairwise_iff_getElem.1 hn q p (by simpa using hq') (by simpa using hp) h)
   ·exact h
   ·exact absurd (by rw [List.getElem_map,List.getElem_map,sE_iff.1 h2,hs]) (List.pairwise_iff_getElem.1 hn p q (by simpa using hp) (by simpa using hq') h)
  show fnd s 0 (jbs J)=_
  rw [h1,hqp,Nat.zero_add]
theorem nms_set {J:List Jl}{p:Nat}{y:Jl}(hy:∀ h:p<J.length,y.1.nm=J[p].1.nm):(J.set p y).map (fun x=>x.1.nm)=J.map fun x=>x.1.nm:=by
 rw [List.map_set]
 rcases Nat.lt_or_ge p J.length with h | h
 ·have:y.1.nm=(J.map fun x=>x.1.nm)[p]'(by simpa using h):=by rw [List.getElem_map];exact hy h
  rw [this,List.set_getElem_self]
 ·rw [List.set_eq_of_length_le (by simpa using h)]
theorem evK_leads {J:List Jl}{G:List Nat}(hn:NdJ J)(hG:G.Nodup)(hb:∀ i ∈ G,i<J.length/\wB (jl J i).1.nd=false) :
  ∀ k,k<=G.length->Goes J (evK J (namesAt (jbs J) G) k).2 (evK J (namesAt (jbs J) G) k).1/\(evK J (namesAt (jbs J) G) k).1.map (fun x=>x.1.nm)=J.map (fun x=>x.1.nm) /\ ∀ q,q ∉ G.take k->jl (evK J (namesAt (jbs J) G) k).1 q=jl J q
 | 0,_=>⟨Goes.none J,rfl,fun _ _=>rfl⟩
 | k+1,hk=>by
  have hk':k<G.length:=by omega
  obtain ⟨h1,h2,h3⟩:=evK_leads hn hG hb k (by omega)
  have hkn:k<(namesAt (jbs J) G).length:=by rw [namesAt_len];exact hk'
  rw [evK_succ hkn]
  obtain ⟨T,hT⟩:∃ T,T=evK J (namesAt (jbs J) G) k:=⟨_,rfl⟩
  rw [<- hT] at h1 h2 h3 ⊢
  obtain ⟨b1,b2⟩:=hb G[k] (List.getElem_mem hk')
  have hl:T.1.length=J.length:=by simpa using congrArg List.length h2
  have hnt:G[k] ∉ G.take k:=fun hm=>by
   obtain ⟨i,hi,e⟩:=List.getElem_of_mem hm
   rw [List.length_take] at hi
   rw [List.getElem_take] at e
   exact List.pairwise_iff_getElem.1 hG i k (by omega) hk' (by omega) e
  have e3:=h3 _ hnt
  have hp:G[k]<T.1.length:=by omega
  have hnT:NdJ T.1:=by unfold NdJ;rw [h2];exact hn
  have es:(namesAt (jbs J) G)[k]=T.1[G[k]].1.nm:=by
   have e4:T.1[G[k]]=J[G[k]]:=by rw [<- jl_at hp,e3,jl_at b1]
   rw [e4]
   have:(namesAt (jbs J) G)[k]=(jat (jbs J) G[k]).nm:=by simp [namesAt]
   rw [this,jat_jbs b1]
  have epl:plJ (namesAt (jbs J) G)[k] T.1=(G[k]:Int):=plJ_is hnT hp es.symm
  unfold outS
  rw [epl,Int.toNat_natCast]
  have hw:wB T.1[G[k]].1.nd=false:=by rw [<- jl_at hp,e3];exact b2
  have hr:=bound_rest (k:=2) (by omega) hp hw hnT
  rw [<- jl_at hp] at hr
  refine ⟨h1.trans hr.1,?_,fun q hq=>?_⟩
  ·show (T.1.set _ _).map _=_
   rw [nms_set (fun h=>by rw [jl_at h];rfl)]
   exact h2
  ·rw [List.take_succ_eq_append_getElem hk',List.mem_append,not_or] at hq
   have hne:G[k] ≠ q:=fun e=>hq.2 (by rw [e];exact List.mem_singleton_self _)
   show jl (T.1.set _ _) q=_
   rw [<- h3 q hq.1]
   simp [jl,List.getD,List.getElem?_set_ne hne]
def FitC (ch:Chs15):Prop:=∀ L J p,NeM L->(ch L J p).2.2=true -> ∃ G,(ch L J p).2.1=namesAt (jbs J) G/\G.Nodup /\ ∀ i ∈ G,i<J.length/\wB (jl J i).1.nd=false
def FitU (un:Uns):Prop:=∀ J,(un J).flatten.Nodup /\ ∀ u ∈ un J,∀ q ∈ u,wB (jl J q).1.nd=true
theorem preG_leads {ch:Chs15}(hC:ChoK ch)(hF:FitC ch){M:List Ml}(hM:NeM M){J:List Jl}{p:Nat}(hn:NdJ J)(hp:p<J.length)(hw:wB (jl J p).1.nd=true) :
  Goes J (preG ch M J p).2 (preG ch M J p).1/\(preG ch M J p).1.map (fun x=>x.1.nm)=J.map (fun x=>x.1.nm) /\ ∀ q,q ≠ p->wB (jl J q).1.nd=true->jl (preG ch M J p).1 q=jl J q:=by
 unfold preG
 by_cases hc:(ch M J p).2.2=true
 ·rw [if_pos hc]
  obtain ⟨G,e,hG,hb⟩:=hF M J p hM hc
  obtain ⟨x,hx,hxn⟩:=hC.mem _ _ _ hc
  have hs:(ch M J p).1.size ≠ 0:=by rw [<- hxn];exact hM x hx
  rw [e,namesAt_len]
  have out:∀ q,wB (jl J q).1.nd=true->q ∉ G.take G.length:=fun q hq hm=>by
   rw [List.take_length] at hm
   have:=(hb q hm).2
   rw [hq] at this;cases this
  obtain ⟨h1,h2,h3⟩:=evK_leads (J:=J) (G:=G) hn hG hb G.length (Nat.le_refl _)
  obtain ⟨T,hT⟩:∃ T,T=evK J (namesAt (jbs J) G) G.length:=⟨_,rfl⟩
  rw [<- hT] at h1 h2 h3 ⊢
  have hlen:T.1.length=J.length:=by simpa using congrArg List.length h2
  have hpT:p<T.1.length:=by omega
  have e3:=h3 p (out p hw)
  have hnT:NdJ T.1:=by unfold NdJ;rw [h2];exact hn
  have hwb:=wait_bind (J:=T.1) (p:=p) hpT (by rw [<- jl_at hpT,e3];exact hw) hs hnT
  rw [<- jl_at hpT] at hwb
  refine ⟨h1.trans hwb.1,?_,fun q hq hqw=>?_⟩
  ·show (T.1.set _ _).map _=_
   rw [nms_set (fun h=>by rw [jl_at h];rfl)]
   exact h2
  ·show jl (bindJ _ _ _) q=_
   rw [bindJ_other (fun e=>hq e.symm)]
   exact h3 q (out q hqw)
 ·rw [if_neg hc]
  exact ⟨Goes.none J,rfl,fun _ _ _=>rfl⟩
theorem tryK_nms {bs:Bst}{M:List Ml}{J:List Jl}{u:List Nat}:∀ k r,tryK bs M J u k=some r->r.1.map (fun x=>x.1.nm)=J.map fun x=>x.1.nm
 | 0,r,h=>by injection h with h;subst h;rfl
 | k+1,r',h=>by
  unfold tryK at h
  cases hr:tryK bs M J u k with
  | none=>rw [hr] at h;cases h
  | some r=>
   have ih:=tryK_nms k r hr
   rw [hr] at h
   change (if (bs M r.1 (u.getD k 0)).2=true then some (bindJ (bs M r.1 (u.getD k 0)).1 (u.getD k 0) r.1,r.2 ++ [(1,(jl r.1 (u.getD k 0)).1.nm,(bs M r.1 (u.getD k 0)).1)]) else none)=some r' at h
   split at h
   ·injection h with h
    subst h
    show (r.1.set _ _).map _=_
    rw [nms_set (fun h=>by rw [jl_at h];rfl)]
    exact ih
   ·cases h
theorem unitG_some {bs:Bst}{ch:Chs15}{M:List Ml}{X r:List Jl × List Ac}{u:List Nat}(h:tryK bs M X.1 u u.length=some r):unitG bs ch M X u=(r.1,X.2 ++ r.2):=by
 unfold unitG;rw [h]
theorem unitG_none {bs:Bst}{ch:Chs15}{M:List Ml}{X:List Jl × List Ac}{u:List Nat}(h:tryK bs M X.1 u u.length=none) :
  unitG bs ch M X u=if (jl X.1 (u.getD 0 0)).1.ga.size=0 then ((preG ch M X.1 (u.getD 0 0)).1,X.2 ++ (preG ch M X.1 (u.getD 0 0)).2) else X:=by
 unfold unitG;rw [h]
theorem unitG_leads {bs:Bst}{ch:Chs15}(hB:BestK bs)(hC:ChoK ch)(hF:FitC ch){M:List Ml}(hM:NeM M){S0:List Jl}{X:List Jl × List Ac}{u:List Nat}(h0:0<u.length)(hu:u.Nodup)
  (hw:∀ q ∈ u,q<X.1.length/\wB (jl X.1 q).1.nd=true)(hn:NdJ X.1)(h:Goes S0 X.2 X.1) :
  Goes S0 (unitG bs ch M X u).2 (unitG bs ch M X u).1/\(unitG bs ch M X u).1.map (fun x=>x.1.nm)=X.1.map (fun x=>x.1.nm) /\ ∀ q,q ∉ u->wB (jl X.1 q).1.nd=true->jl (unitG bs ch M X u).1 q=jl X.1 q:=by
 cases hr:tryK bs M X.1 u u.length with
 | some r=>
  rw [unitG_some hr]
  obtain ⟨h1,h2,h3⟩:=tryK_leads hB hM hu hw u.length (Nat.le_refl _) r hr
  rw [List.take_length] at h3
  exact ⟨h.trans (h1 hn).1,show r.1.map (fun x=>x.1.nm)=_ from tryK_nms _ r hr,fun q hq _=>h3 q hq⟩
 | none=>
  rw [unitG_none hr]
  have eu:u.getD 0 0=u[0]:=by simp [List.getD,List.getElem?_eq_getElem h0]
  rw [eu]
  obtain ⟨w1,w2⟩:=hw u[0] (List.getElem_mem h0)
  split
  ·obtain ⟨h1,h2,h3⟩:=preG_leads hC hF hM hn w1 w2
   exact ⟨h.trans h1,h2,fun q hq hqw=>h3 q (fun e=>hq (by rw [e];exact List.getElem_mem h0)) hqw⟩
  ·exact ⟨h,rfl,fun _ _ _=>rfl⟩
theorem passK_leads {bs:Bst}{ch:Chs15}(hB:BestK bs)(hC:ChoK ch)(hF:FitC ch){M:List Ml}(hM:NeM M){J:List Jl}{U:List (List Nat)}(hn:NdJ J)(hU:U.flatten.Nodup)(h0:∀ u ∈ U,0<u.length)
  (hw:∀ u ∈ U,∀ q ∈ u,q<J.length/\wB (jl J q).1.nd=true):∀ k,k<=U.length ->
  Goes J (passK bs ch M J U k).2 (passK bs ch M J U k).1/\(passK bs ch M J U k).1.map (fun x=>x.1.nm)=J.map (fun x=>x.1.nm) /\ ∀ q,q ∉ (U.take k).flatten->wB (jl J q).1.nd=true->jl (passK bs ch M J U k).1 q=jl J q
 | 0,_=>⟨Goes.none J,rfl,fun _ _ _=>rfl⟩
 | k+1,hk=>by
  have hk':k<U.length:=by omega
  obtain ⟨h1,h2,h3⟩:=passK_leads hB hC hF hM hn hU h0 hw k (by omega)
  have es:passK bs ch M J U (k+1)=unitG bs ch M (passK bs ch M J U k) U[k]:=by
   unfold passK;rw [List.take_succ_eq_append_getElem hk',List.foldl_append];rfl
  rw [es]
  obtain ⟨X,hX⟩:∃ X,X=passK bs ch M J U k:=⟨_,rfl⟩
  rw [<- hX] at h1 h2 h3 ⊢
  have hl:X.1.length=J.length:=by simpa using congrArg List.length h2
  have hm:=List.getElem_mem hk'
  have hpw:=(List.pairwise_flatten.1 hU)
  have hnot:∀ q ∈ U[k],q ∉ (U.take k).flatten:=fun q hq hf=>by
   obtain ⟨v,hv,hqv⟩:=List.mem_flatten.1 hf
   obtain ⟨i,hi,e⟩:=List.getElem_of_mem hv
   rw [List.length_take] at hi
   rw [List.getElem_take] at e
   subst e
   exact List.pairwise_iff_getElem.1 hpw.2 i k (by omega) hk' (by omega) q hqv q hq rfl
  have hwX:∀ q ∈ U[k],q<X.1.length/\wB (jl X.1 q).1.nd=true:=fun q hq=>by
   obtain ⟨a,b⟩:=hw U[k] hm q hq
   exact ⟨by omega,by rw [h3 q (hnot q hq) b];exact b⟩
  obtain ⟨g1,g2,g3⟩:=unitG_leads hB hC hF hM (S0:=J) (h0 _ hm) (hpw.1 _ hm) hwX (by unfold NdJ;rw [h2];exact hn) h1
  refine ⟨g1,g2.trans h2,fun q hq hqw=>?_⟩
  rw [List.take_succ_eq_append_getElem hk',List.flatten_append,List.mem_append,not_or] at hq
  have e:=h3 q hq.1 hqw
  rw [g3 q (fun h=>hq.2 (by simpa using h)) (by rw [e];exact hqw)]
  exact e
end
section
open Go.RowKit
theorem fitC:FitC chF:=fun L J p hM h=>by
 cases hc:choF L J p with
 | none=>unfold chF at h;rw [hc] at h;cases h
 | some x=>
  obtain ⟨⟨G,h1,-,-,h4⟩,-⟩:=cho_is hc
  rw [plansOf_at h4] at h1
  refine ⟨G,?_,?_,fun i hi=>?_⟩
  ·unfold chF;rw [hc]
   show namesAt _ ((plansOf _ _ _ _ x.1).getD [])=_
   rw [plansOf_at h4,h1];rfl
  ·rcases places_is h1 with ⟨_,rfl⟩ | ⟨k,_,_,_,rfl,_⟩
   ·exact List.nodup_nil
   ·exact (weak_nodup _).sublist (List.take_sublist _ _)
  ·obtain ⟨a,b,_⟩:=plan_each h1 i hi
   have ai:i<J.length:=by simpa [jbs] using a
   rw [jat_jbs ai] at b
   refine ⟨ai,?_⟩
   rw [jl_at ai,b]
   exact decide_eq_false (hM _ (List.getElem_mem h4))
theorem fitU:FitU unF:=fun J=>⟨units_nodup (jbs J),fun u hu q hq=>by
 obtain ⟨p,r,_,h,_⟩:=units_in hu
 obtain ⟨a,b,_⟩:=h q hq
 have aq:q<J.length:=by simpa [jbs] using a
 rw [jat_jbs aq] at b
 rw [jl_at aq]
 exact decide_eq_true b⟩
theorem pl_at {s:ByteArray}{J:List Jl}(h:¬ plJ s J<0):∃ p,∃ hp:p<J.length,plJ s J=(p:Int)/\sE J[p].1.nm s=true:=by
 rcases fnd_cases s (jbs J) 0 with e | ⟨p,hp,h1,h2⟩
 ·exact absurd (show plJ s J<0 by show fnd s 0 (jbs J)<0;rw [e];omega) h
 ·have hp':p<J.length:=by simpa [jbs] using hp
  refine ⟨p,hp',by rw [show plJ s J=_ from h1,Nat.zero_add],?_⟩
  have e:(jbs J)[p]=J[p].1:=by simp [jbs]
  rwa [e] at h2
theorem name_ne {s:ByteArray}(h:nameB s=true):s.size ≠ 0:=by
 unfold nameB nameL at h
 simp only [Bool.and_eq_true,decide_eq_true_eq] at h
 have h1:=h.1.1.1
 intro e
 have:s.data.toList.length=s.size:=by rw [Array.length_toList];rfl
 omega
end
section
open Go.RowKit
section
variable {P:Program} {w w':World}{base k:Nat}{e:TypeId}{v:Value}{l:List (List Value)}
end
structure T1 (w wr:World) (g:Nat)(F:Nat->Prop)(S:Sg) (m:Int):Prop where
 g1:Gx wr w.heap.size g F S
 b1:∀ k,F k->w.heap.size<=k/\k<wr.heap.size
 i1:In2 m S
 be:Below w.heap.size w wr
section
variable {w wr w':World}{g:Nat} {F F':Nat->Prop} {S S':Sg} {m m':Int} {v v':Value} {W W':List Ac}
end
def RetT1 (b:Nat)(w:World)(e:Ending)(S:Sg):Prop:=∃ (v:Sv) (S':Sg),e = .returned (.agg v.arr)/\OwnS w b (.slice v.A v.N v.cA) (.slice v.B v.K v.cB) (.slice v.C v.n v.cC) S' /\ RdSt w v S' /\ S'.bare=S.bare/\v.ck=S'.ck/\v.nx=S'.nx
section
variable {w wr w':World}{g p6 n1 c1:Nat}{F:Nat->Prop}{S:Sg}{m u:Int}{A1:Option Addr} {acts W W':List Ac} {v v':Value}
end
section
variable {n c p g:Nat}
end
end
section
open Go.RowKit
theorem onM_cons (s:ByteArray)(j:Jb)(l:List Jb):onM s (j :: l)=if sE j.nd s then j.need :: onM s l else onM s l:=by
 unfold onM
 rw [List.filter_cons]
 split <;> simp
theorem whyT_zero {e:Int}{N K U H R F:Bool}:whyT e N K U H R F=0 ↔ e=0/\N=true/\K=true/\U=true/\H=true/\R=false/\F=true:=by
 unfold whyT
 cases N <;> cases K <;> cases U <;> cases H <;> cases R <;> cases F <;> by_cases he:e=0 <;> simp [he]
theorem sb_is {a b c x y z:Int}(h:sbE a b c x y z=0):rB a b c=true/\rB x y z=true/\rB (a - x) (b - y) (c - z)=true:=by
 unfold sbE at h
 by_cases h1:(rB a b c && rB x y z)=true
 ·rw [if_pos h1] at h
  rw [Bool.and_eq_true] at h1
  by_cases h2:rB (a - x) (b - y) (c - z)=true
  ·exact ⟨h1.1,h1.2,h2⟩
  ·rw [if_neg h2] at h;exact absurd h (by omega)
 ·rw [if_neg h1] at h;exact absurd h (by omega)
theorem sb_mk {a b c x y z:Int}(h1:rB a b c=true)(h2:rB x y z=true)(h3:rB (a - x) (b - y) (c - z)=true):sbE a b c x y z=0/\sbB a b c x y z=true:=by
 unfold sbE sbB;rw [h1,h2,h3];exact ⟨rfl,rfl⟩
theorem rB_of {a b c:Int}(h:0<=a/\a<=1048576/\0<=b/\b<=1048576/\0<=c/\c<=1048576):rB a b c=true:=decide_eq_true h
theorem rB_to {a b c:Int}(h:rB a b c=true):0<=a/\a<=1048576/\0<=b/\b<=1048576/\0<=c/\c<=1048576:=of_decide_eq_true h
section
variable {bs:Bst}{ch:Chs15}{M:List Ml}{J:List Jl}{U:List (List Nat)}
theorem passK_wait (hB:BestK bs)(hC:ChoK ch)(hF:FitC ch)(hM:NeM M)(hn:NdJ J)(hU:U.flatten.Nodup)(h0:∀ u ∈ U,0<u.length)
  (hw:∀ u ∈ U,∀ q ∈ u,q<J.length/\wB (jl J q).1.nd=true){k:Nat}(hk:k<U.length):∀ q ∈ U[k],q<(passK bs ch M J U k).1.length/\jl (passK bs ch M J U k).1 q=jl J q:=fun q hq=>by
 obtain ⟨h1,h2,h3⟩:=passK_leads hB hC hF hM hn hU h0 hw k (by omega)
 have hl:(passK bs ch M J U k).1.length=J.length:=by simpa using congrArg List.length h2
 obtain ⟨a,b⟩:=hw U[k] (List.getElem_mem hk) q hq
 refine ⟨by omega,h3 q (fun hf=>?_) b⟩
 obtain ⟨v,hv,hqv⟩:=List.mem_flatten.1 hf
 obtain ⟨i,hi,e⟩:=List.getElem_of_mem hv
 rw [List.length_take] at hi
 rw [List.getElem_take] at e
 subst e
 exact List.pairwise_iff_getElem.1 (List.pairwise_flatten.1 hU).2 i k (by omega) hk (by omega) q hqv q hq rfl
end
end
section
open Go.RowKit
def tm (f:Jb->Int)(p:Jb->Bool)(x:Jl):Int:=if p x.1 then f x.1 else 0
def onF (f:Jb->Int)(p:Jb->Bool):List Jl->Int
 | []=>0
 | x :: J=>tm f p x+onF f p J
section
variable {f:Jb->Int}{p:Jb->Bool}{J K:List Jl}
theorem onF_append:∀ {J:List Jl},onF f p (J ++ K)=onF f p J+onF f p K
 | []=>by simp [onF]
 | x :: J=>by
  have:=onF_append (J:=J)
  show tm f p x+onF f p (J ++ K)=tm f p x+onF f p J+onF f p K
  omega
theorem onF_set:∀ {J:List Jl}{i:Nat}(h:i<J.length)(y:Jl),onF f p (J.set i y)=onF f p J - tm f p J[i]+tm f p y
 | x :: J,0,_,y=>by show tm f p y+onF f p J=tm f p x+onF f p J - tm f p x+tm f p y;omega
 | x :: J,i+1,h,y=>by
  have hi:i<J.length:=by simpa using h
  have:=onF_set (J:=J) (i:=i) hi y
  show tm f p x+onF f p (J.set i y)=tm f p x+onF f p J - tm f p J[i]+tm f p y
  omega
theorem onF_erase:∀ {J:List Jl}{i:Nat}(h:i<J.length),onF f p (J.eraseIdx i)=onF f p J - tm f p J[i]
 | x :: J,0,_=>by show onF f p J=tm f p x+onF f p J - tm f p x;omega
 | x :: J,i+1,h=>by
  have hi:i<J.length:=by simpa using h
  have:=onF_erase (J:=J) (i:=i) hi
  show tm f p x+onF f p (J.eraseIdx i)=tm f p x+onF f p J - tm f p J[i]
  omega
theorem tm_ge {x:Jl}(h:0<=f x.1):0<=tm f p x:=by unfold tm;split <;> omega
theorem onF_none:∀ {J:List Jl},(∀ x ∈ J,p x.1=false)->onF f p J=0
 | [],_=>rfl
 | x :: J,h=>by
  have h1:=onF_none (J:=J) fun y hy=>h y (List.mem_cons_of_mem _ hy)
  have h2:tm f p x=0:=by unfold tm;rw [h x (by simp)];rfl
  show tm f p x+onF f p J=0
  omega
end
abbrev atM (s:ByteArray)(j:Jb):Bool:=sE j.nd s
abbrev ofN (s:ByteArray)(j:Jb):Bool:=sE j.qu s
theorem s_onM (s:ByteArray):∀ J:List Jl,s1 (onM s (jbs J))=onF (·.a) (atM s) J/\s2 (onM s (jbs J))=onF (·.b) (atM s) J/\s3 (onM s (jbs J))=onF (·.c) (atM s) J
 | []=>⟨rfl,rfl,rfl⟩
 | x :: J=>by
  obtain ⟨h1,h2,h3⟩:=s_onM s J
  show s1 (onM s (x.1 :: jbs J))=tm _ _ x+_/\s2 (onM s (x.1 :: jbs J))=tm _ _ x+_/\s3 (onM s (x.1 :: jbs J))=tm _ _ x+_
  rw [onM_cons]
  cases h:sE x.1.nd s with
  | true=>
   have e:∀ f:Jb->Int,tm f (atM s) x=f x.1:=fun f=>by unfold tm;rw [show atM s x.1=true from h];rfl
   rw [if_pos rfl,s1_cons,s2_cons,s3_cons,h1,h2,h3,e,e,e];exact ⟨rfl,rfl,rfl⟩
  | false=>
   have e:∀ f:Jb->Int,tm f (atM s) x=0:=fun f=>by unfold tm;rw [show atM s x.1=false from h];rfl
   rw [if_neg (by simp),h1,h2,h3,e,e,e,Int.zero_add,Int.zero_add,Int.zero_add];exact ⟨rfl,rfl,rfl⟩
theorem ofQ_cons (s:ByteArray)(j:Jb)(l:List Jb):ofQ s (j :: l)=if sE j.qu s then j.need :: ofQ s l else ofQ s l:=by
 unfold ofQ
 rw [List.filter_cons]
 split <;> simp
theorem s_ofQ (s:ByteArray):∀ J:List Jl,s1 (ofQ s (jbs J))=onF (·.a) (ofN s) J/\s2 (ofQ s (jbs J))=onF (·.b) (ofN s) J/\s3 (ofQ s (jbs J))=onF (·.c) (ofN s) J
 | []=>⟨rfl,rfl,rfl⟩
 | x :: J=>by
  obtain ⟨h1,h2,h3⟩:=s_ofQ s J
  show s1 (ofQ s (x.1 :: jbs J))=tm _ _ x+_/\s2 (ofQ s (x.1 :: jbs J))=tm _ _ x+_/\s3 (ofQ s (x.1 :: jbs J))=tm _ _ x+_
  rw [ofQ_cons]
  cases h:sE x.1.qu s with
  | true=>
   have e:∀ f:Jb->Int,tm f (ofN s) x=f x.1:=fun f=>by unfold tm;rw [show ofN s x.1=true from h];rfl
   rw [if_pos rfl,s1_cons,s2_cons,s3_cons,h1,h2,h3,e,e,e];exact ⟨rfl,rfl,rfl⟩
  | false=>
   have e:∀ f:Jb->Int,tm f (ofN s) x=0:=fun f=>by unfold tm;rw [show ofN s x.1=false from h];rfl
   rw [if_neg (by simp),h1,h2,h3,e,e,e,Int.zero_add,Int.zero_add,Int.zero_add];exact ⟨rfl,rfl,rfl⟩
def Fit (p:Jb->Bool)(J:List Jl) (a b c:Int):Prop:=onF (·.a) p J<=a/\onF (·.b) p J<=b/\onF (·.c) p J<=c
def Apt (x y:Jl):Prop:=x.1.nd.size ≠ 0->x.1.nd=y.1.nd->x.1.ap.size ≠ 0->x.1.ap ≠ y.1.ap
theorem Apt.symm {x y:Jl}(h:Apt x y):Apt y x:=fun h1 h2 h3 e=>h (by rw [<- h2];exact h1) h2.symm (by rw [<- e];exact h3) e.symm
structure RgJ (M:List Ml)(Q:List Qx) (nx:Int)(J:List Jl):Prop where
 sq:J.Pairwise fun x y=>x.1.sq<y.1.sq
 tk:∀ x ∈ J,x.1.tk.ok x.2=true/\1<=x.1.sq/\x.1.sq<=nx - 1/\0<=x.1.bo
 nd:NdJ J
 qu:∀ x ∈ J,hasK x.1.qu (keyQ Q)=true
 us:∀ q ∈ Q,Fit (ofN q.1) J q.2.1 q.2.2.1 q.2.2.2
 hm:∀ x ∈ J,x.1.nd.size ≠ 0->1<=x.1.bo /\ ∃ y ∈ M,y.1.nm=x.1.nd/\y.1.up=true
 be:∀ y ∈ M,Fit (atM y.1.nm) J y.1.a y.1.b y.1.c /\ ∀ x ∈ J,x.1.nd=y.1.nm->hasB y.2 x.2=true
 ap:J.Pairwise Apt
section
variable {M M':List Ml} {Q Q':List Qx}{nx:Int}{J:List Jl}{p:Nat}
theorem tk_need {x:Jl}(h:x.1.tk.ok x.2=true):0<=x.1.a/\0<=x.1.b/\0<=x.1.c:=by
 unfold Kt.ok taskB at h
 simp only [Bool.and_eq_true] at h
 have:=rB_to h.1.1.1.2
 exact ⟨this.1,this.2.2.1,this.2.2.2.2.1⟩
theorem RgJ.ge (h:RgJ M Q nx J):(∀ x ∈ J,0<=x.1.a)/\(∀ x ∈ J,0<=x.1.b) /\ ∀ x ∈ J,0<=x.1.c:=
 ⟨fun x hx=>(tk_need (h.tk x hx).1).1,fun x hx=>(tk_need (h.tk x hx).1).2.1,fun x hx=>(tk_need (h.tk x hx).1).2.2⟩
theorem core_all {x y:Jl}(h:core y=core x):y.1.tk=x.1.tk/\y.2=x.2/\y.1.sq=x.1.sq:=⟨(core_tk h).1,(core_tk h).2,by have:=congrArg (fun z:Jl=>z.1.sq) h;exact this⟩
theorem Fit.erase (h:RgJ M Q nx J){a b c:Int}{t:Jb->Bool}(hf:Fit t J a b c)(hp:p<J.length):Fit t (J.eraseIdx p) a b c:=by
 obtain ⟨g1,g2,g3⟩:=h.ge
 have hm:=List.getElem_mem hp
 have e1:=onF_erase (f:=(·.a)) (p:=t) hp
 have e2:=onF_erase (f:=(·.b)) (p:=t) hp
 have e3:=onF_erase (f:=(·.c)) (p:=t) hp
 have t1:=tm_ge (f:=(·.a)) (p:=t) (g1 _ hm)
 have t2:=tm_ge (f:=(·.b)) (p:=t) (g2 _ hm)
 have t3:=tm_ge (f:=(·.c)) (p:=t) (g3 _ hm)
 obtain ⟨f1,f2,f3⟩:=hf
 exact ⟨by omega,by omega,by omega⟩
theorem RgJ.erase (h:RgJ M Q nx J)(hp:p<J.length):RgJ M Q nx (J.eraseIdx p):=by
 have hs:=List.eraseIdx_sublist J p
 exact ⟨h.sq.sublist hs,fun x hx=>h.tk x (hs.subset hx),erase_names h.nd,fun x hx=>h.qu x (hs.subset hx),fun q hq=>(h.us q hq).erase h hp,fun x hx=>h.hm x (hs.subset hx),
  fun y hy=>⟨(h.be y hy).1.erase h hp,fun x hx=>(h.be y hy).2 x (hs.subset hx)⟩,h.ap.sublist hs⟩
theorem tm_core {f:Jb->Int}{x y:Jl}(s:ByteArray)(h:y.1.qu=x.1.qu)(hf:f y.1=f x.1):tm f (ofN s) y=tm f (ofN s) x:=by
 unfold tm ofN;rw [h,hf]
theorem RgJ.turn (h:RgJ M Q nx J)(hp:p<J.length){y:Jl}(hc:core y=core J[p])(hb:0<=y.1.bo)
  (h1:y.1.nd.size ≠ 0->1<=y.1.bo /\ ∃ m ∈ M,m.1.nm=y.1.nd/\m.1.up=true)
  (h2:∀ m ∈ M,m.1.nm=y.1.nd->(onF (·.a) (atM m.1.nm) J - tm (·.a) (atM m.1.nm) J[p]+y.1.a<=m.1.a/\onF (·.b) (atM m.1.nm) J - tm (·.b) (atM m.1.nm) J[p]+y.1.b<=m.1.b/\onF (·.c) (atM m.1.nm) J - tm (·.c) (atM m.1.nm) J[p]+y.1.c<=m.1.c)/\hasB m.2 y.2=true)
  (h3:∀ j (hj:j<J.length),j ≠ p->Apt y J[j]):RgJ M Q nx (J.set p y):=by
 obtain ⟨k1,k2,k3⟩:=core_all hc
 have hm:=List.getElem_mem hp
 have knm:y.1.nm=J[p].1.nm:=congrArg (fun t:Kt=>t.nm) k1
 have kqu:y.1.qu=J[p].1.qu:=congrArg (fun t:Kt=>t.qu) k1
 have ka:y.1.a=J[p].1.a:=congrArg (fun t:Kt=>t.a) k1
 have kb:y.1.b=J[p].1.b:=congrArg (fun t:Kt=>t.b) k1
 have kc:y.1.c=J[p].1.c:=congrArg (fun t:Kt=>t.c) k1
 obtain ⟨g1,g2,g3⟩:=h.ge
 have mem:∀ x ∈ J.set p y,x ∈ J ∨ x=y:=fun x hx=>List.mem_or_eq_of_mem_set hx
 refine ⟨?_,fun x hx=>?_,?_,fun x hx=>?_,fun q hq=>?_,fun x hx=>?_,fun m hM=>⟨?_,fun x hx hn=>?_⟩,?_⟩
 ·rw [List.pairwise_iff_getElem]
  intro i j hi hj hij
  have hq:=List.pairwise_iff_getElem.1 h.sq i j (by simpa using hi) (by simpa using hj) hij
  rw [List.getElem_set,List.getElem_set]
  split
  ·rename_i e;subst e
   rw [if_neg (by omega),k3];exact hq
  ·split
   ·rename_i e;subst e;rw [k3];exact hq
   ·exact hq
 ·rcases mem x hx with e | e
  ·exact h.tk x e
  ·subst e
   obtain ⟨t1,t2,t3,_⟩:=h.tk _ hm
   refine ⟨by rw [k1,k2];exact t1,by rw [k3];exact t2,by rw [k3];exact t3,hb⟩
 ·unfold NdJ
  rw [nms_set (fun _=>knm)];exact h.nd
 ·rcases mem x hx with e | e
  ·exact h.qu x e
  ·subst e;rw [kqu];exact h.qu _ hm
 ·have hu:=h.us q hq
  unfold Fit at hu ⊢
  rw [onF_set hp,onF_set hp,onF_set hp,tm_core (f:=fun x=>x.a) _ kqu ka,tm_core (f:=fun x=>x.b) _ kqu kb,tm_core (f:=fun x=>x.c) _ kqu kc]
  obtain ⟨u1,u2,u3⟩:=hu
  exact ⟨by omega,by omega,by omega⟩
 ·rcases mem x hx with e | e
  ·exact h.hm x e
  ·subst e;exact h1
 ·have hu:=(h.be m hM).1
  unfold Fit at hu ⊢
  rw [onF_set hp,onF_set hp,onF_set hp]
  have t1:=tm_ge (f:=(·.a)) (p:=atM m.1.nm) (g1 _ hm)
  have t2:=tm_ge (f:=(·.b)) (p:=atM m.1.nm) (g2 _ hm)
  have t3:=tm_ge (f:=(·.c)) (p:=atM m.1.nm) (g3 _ hm)
  obtain ⟨u1,u2,u3⟩:=hu
  by_cases e:m.1.nm=y.1.nd
  ·obtain ⟨⟨v1,v2,v3⟩,_⟩:=h2 m hM e
   have es:atM m.1.nm y.1=true:=sE_iff.2 e.symm
   unfold tm at v1 v2 v3 ⊢
   simp only [es,if_true] at v1 v2 v3 ⊢
   exact ⟨v1,v2,v3⟩
  ·have es:atM m.1.nm y.1=false:=by
    cases hh:sE y.1.nd m.1.nm with
    | false=>exact hh
    | true=>exact absurd (sE_iff.1 hh).symm e
   have z:∀ f:Jb->Int,tm f (atM m.1.nm) y=0:=fun f=>by unfold tm;rw [es];rfl
   rw [z,z,z]
   exact ⟨by omega,by omega,by omega⟩
 ·rcases mem x hx with e | e
  ·exact (h.be m hM).2 x e hn
  ·subst e;exact (h2 m hM hn.symm).2
 ·rw [List.pairwise_iff_getElem]
  intro i j hi hj hij
  have hq:=List.pairwise_iff_getElem.1 h.ap i j (by simpa using hi) (by simpa using hj) hij
  rw [List.getElem_set,List.getElem_set]
  split
  ·rename_i e;subst e
   rw [if_neg (by omega)];exact h3 j (by simpa using hj) (by omega)
  ·split
   ·rename_i e;subst e;exact (h3 i (by simpa using hi) (by omega)).symm
   ·exact hq
theorem RgJ.rest (h:RgJ M Q nx J)(hM:NeM M)(hp:p<J.length):RgJ M Q nx (J.set p (restX J[p])):=by
 have e0:(restX J[p]).1.nd.size=0:=rfl
 refine h.turn hp rfl (h.tk _ (List.getElem_mem hp)).2.2.2 (fun hc=>absurd e0 hc) (fun m hm e=>?_) fun j hj hne hc=>absurd e0 hc
 exact absurd (show m.1.nm.size=0 by rw [e];exact e0) (hM m hm)
theorem RgJ.relK (h:RgJ M Q nx J)(hM:NeM M)(s:ByteArray):∀ k,k<=J.length->RgJ M Q nx (relK s J k)
 | 0,_=>by rw [relK_zero];exact h
 | k+1,hk=>by
  have hk':k<J.length:=by omega
  have ih:=RgJ.relK h hM s k (by omega)
  have hl:k<(Go.Proofs.YtccccbofcnmdiaaGreat.relK s J k).length:=by rw [relK_length];exact hk'
  cases he:sE J[k].1.nd s with
  | false=>rw [relK_skip hk' he];exact ih
  | true=>
   rw [relK_turn hk' he]
   have:=ih.rest hM hl
   rw [relK_at hk'] at this
   exact this
theorem RgJ.relJ (h:RgJ M Q nx J)(hM:NeM M)(s:ByteArray):RgJ M Q nx (relJ s J):=by
 have:=h.relK hM s J.length (Nat.le_refl _)
 rw [show Go.Proofs.YtccccbofcnmdiaaGreat.relK s J J.length=Go.Proofs.YtccccbofcnmdiaaGreat.relJ s J by unfold Go.Proofs.YtccccbofcnmdiaaGreat.relK;rw [List.take_length,List.drop_length,List.append_nil]] at this
 exact this
theorem relJ_off {s:ByteArray}(hs:s.size ≠ 0):∀ x ∈ relJ s J,x.1.nd ≠ s:=fun x hx e=>by
 obtain ⟨y,hy,rfl⟩:=List.mem_map.1 hx
 unfold relX at e
 cases hc:sE y.1.nd s with
 | true=>rw [hc] at e;exact hs (by rw [<- e];rfl)
 | false=>rw [hc] at e;rw [show y.1.nd=s from e,sE_refl] at hc;cases hc
theorem RgJ.mach (h:RgJ M Q nx J)(h1:∀ x ∈ J,x.1.nd.size ≠ 0 -> ∀ y ∈ M,y.1.nm=x.1.nd->y.1.up=true -> ∃ y' ∈ M',y'.1.nm=x.1.nd/\y'.1.up=true)
  (h2:∀ y' ∈ M',(∃ y ∈ M,y'.1.nm=y.1.nm/\y'.1.a=y.1.a/\y'.1.b=y.1.b/\y'.1.c=y.1.c/\y'.2=y.2) ∨ ((∀ x ∈ J,x.1.nd ≠ y'.1.nm)/\0<=y'.1.a/\0<=y'.1.b/\0<=y'.1.c)):RgJ M' Q nx J:=
 ⟨h.sq,h.tk,h.nd,h.qu,h.us,fun x hx hn=>by
  obtain ⟨a,y,hy,b,c⟩:=h.hm x hx hn
  exact ⟨a,h1 x hx hn y hy b c⟩,fun y' hy'=>by
  rcases h2 y' hy' with ⟨y,hy,a,b,c,d,e⟩ | ⟨a,b,c,d⟩
  ·rw [a,b,c,d,e];exact h.be y hy
  ·have z:∀ f:Jb->Int,onF f (atM y'.1.nm) J=0:=fun f=>onF_none fun x hx=>by
    cases hc:sE x.1.nd y'.1.nm with
    | false=>exact hc
    | true=>exact absurd (sE_iff.1 hc) (a x hx)
   refine ⟨?_,fun x hx e=>absurd e (a x hx)⟩
   unfold Fit;rw [z,z,z];exact ⟨b,c,d⟩,h.ap⟩
theorem RgJ.ques (h:RgJ M Q nx J)(h1:∀ x ∈ J,hasK x.1.qu (keyQ Q')=true)(h2:∀ q ∈ Q',q ∈ Q ∨ ((∀ x ∈ J,x.1.qu ≠ q.1)/\0<=q.2.1/\0<=q.2.2.1/\0<=q.2.2.2)):RgJ M Q' nx J:=
 ⟨h.sq,h.tk,h.nd,h1,fun q hq=>by
  rcases h2 q hq with e | ⟨a,b,c,d⟩
  ·exact h.us q e
  ·have z:∀ f:Jb->Int,onF f (ofN q.1) J=0:=fun f=>onF_none fun x hx=>by
    cases hc:sE x.1.qu q.1 with
    | false=>exact hc
    | true=>exact absurd (sE_iff.1 hc) (a x hx)
   unfold Fit;rw [z,z,z];exact ⟨b,c,d⟩,h.hm,h.be,h.ap⟩
theorem RgJ.add (h:RgJ M Q nx J)(hM:NeM M){x:Jl}(hk:x.1.tk.ok x.2=true)(hs:x.1.sq=nx)(h0:1<=nx)(hb:0<=x.1.bo)(hn:x.1.nd.size=0)(hno:∀ y ∈ J,y.1.nm ≠ x.1.nm)(hq:hasK x.1.qu (keyQ Q)=true)
  (hu:∀ q ∈ Q,q.1=x.1.qu->onF (·.a) (ofN q.1) J+x.1.a<=q.2.1/\onF (·.b) (ofN q.1) J+x.1.b<=q.2.2.1/\onF (·.c) (ofN q.1) J+x.1.c<=q.2.2.2):RgJ M Q (nx+1) (J ++ [x]):=by
 have one:∀ (f:Jb->Int)(t:Jb->Bool),onF f t [x]=tm f t x:=fun f t=>Int.add_zero _
 refine ⟨?_,fun y hy=>?_,?_,fun y hy=>?_,fun q hqm=>?_,fun y hy hn'=>?_,fun m hm=>⟨?_,fun y hy hn'=>?_⟩,?_⟩
 ·refine List.pairwise_append.2 ⟨h.sq,List.pairwise_singleton _ _,fun y hy z hz=>?_⟩
  rw [List.mem_singleton] at hz
  subst hz
  have:=h.tk y hy;omega
 ·rcases List.mem_append.1 hy with e | e
  ·have:=h.tk y e;exact ⟨this.1,this.2.1,by omega,this.2.2.2⟩
  ·rw [List.mem_singleton] at e;subst e;exact ⟨hk,by omega,by omega,hb⟩
 ·unfold NdJ
  rw [List.map_append]
  refine List.pairwise_append.2 ⟨h.nd,List.pairwise_singleton _ _,fun a ha b hb' e=>?_⟩
  obtain ⟨y,hy,rfl⟩:=List.mem_map.1 ha
  rw [List.map_singleton,List.mem_singleton] at hb'
  exact hno y hy (e.trans hb')
 ·rcases List.mem_append.1 hy with e | e
  ·exact h.qu y e
  ·rw [List.mem_singleton] at e;subst e;exact hq
 ·have hf:=h.us q hqm
  unfold Fit at hf ⊢
  rw [onF_append,onF_append,onF_append,one,one,one]
  by_cases e:q.1=x.1.qu
  ·have es:ofN q.1 x.1=true:=sE_iff.2 e.symm
   unfold tm
   simp only [es,if_true]
   exact hu q hqm e
  ·have es:ofN q.1 x.1=false:=by
    cases hh:sE x.1.qu q.1 with
    | false=>exact hh
    | true=>exact absurd (sE_iff.1 hh).symm e
   have z:∀ f:Jb->Int,tm f (ofN q.1) x=0:=fun f=>by unfold tm;rw [es];rfl
   rw [z,z,z,Int.add_zero,Int.add_zero,Int.add_zero];exact hf
 ·rcases List.mem_append.1 hy with e | e
  ·exact h.hm y e hn'
  ·rw [List.mem_singleton] at e;subst e;exact absurd hn hn'
 ·have hf:=(h.be m hm).1
  have es:atM m.1.nm x.1=false:=by
   cases hh:sE x.1.nd m.1.nm with
   | false=>exact hh
   | true=>exact absurd (by rw [<- sE_iff.1 hh];exact hn) (hM m hm)
  have z:∀ f:Jb->Int,tm f (atM m.1.nm) x=0:=fun f=>by unfold tm;rw [es];rfl
  unfold Fit at hf ⊢
  rw [onF_append,onF_append,onF_append,one,one,one,z,z,z,Int.add_zero,Int.add_zero,Int.add_zero];exact hf
 ·rcases List.mem_append.1 hy with e | e
  ·exact (h.be m hm).2 y e hn'
  ·rw [List.mem_singleton] at e;subst e
   exact absurd (by rw [<- hn'];exact hn) (hM m hm)
 ·refine List.pairwise_append.2 ⟨h.ap,List.pairwise_singleton _ _,fun y hy z hz=>?_⟩
  rw [List.mem_singleton] at hz
  subst hz
  intro h1 h2
  exact absurd (by rw [h2];exact hn) h1
end
end
end Go.Proofs.YtccccbofcnmdiaaGreat
