/- Lemmas that the law stands on. No condition. -/
import Derived.Test.YtccccbofcnmdiaaGreatM40
namespace Go.Proofs.YtccccbofcnmdiaaGreat
set_option linter.unusedSimpArgs false
set_option linter.unusedVariables false
set_option maxRecDepth 100000
set_option maxHeartbeats 51200000
section
open Go.RowKit
abbrev Ch:=Nat × Nat × Int
def chB (o:Option Ch):Int:=match o with | none=>-1 | some x=>x.1
def lastP (l:List Jb) (G:List Nat):Int:=match G.getLast? with | none=>-1 | some i=>(jat l i).pr
instance:Inhabited Mc:=⟨⟨⟨#[]⟩,0,0,0,none,0,0,false,0⟩⟩
def nmAt (L:List Ml) (i:Nat):ByteArray:=(L.getD i default).1.nm
theorem nmAt_at {L:List Ml} {i:Nat} (h:i<L.length):nmAt L i=L[i].1.nm:=by simp [nmAt,List.getD,List.getElem?_eq_getElem h]
def betr (L:List Ml) (k g:Nat) (la:Int) (o:Option Ch):Bool:=match o with
 | none=>true
 | some x=>decide (g<x.2.1) || (decide (g=x.2.1) && (decide (la<x.2.2) || (decide (la=x.2.2) && sL (nmAt L k) (nmAt L x.1))))
theorem betr_some (L:List Ml) (k g:Nat) (la:Int) (b m:Nat) (tp:Int):betr L k g la (some (b,m,tp))=(decide (g<m) || (decide (g=m) && (decide (la<tp) || (decide (la=tp) && sL (nmAt L k) (nmAt L b))))):=rfl
def cho (pl:Nat->Option (List Nat)) (l:List Jb) (L:List Ml):Nat->Option Ch
 | 0=>none
 | k+1=>match pl k with
  | none=>cho pl l L k
  | some G=>if betr L k G.length (lastP l G) (cho pl l L k) then some (k,G.length,lastP l G) else cho pl l L k
theorem cho_no {pl:Nat->Option (List Nat)} {l:List Jb} {L:List Ml} {k:Nat} (h:pl k=none):cho pl l L (k+1)=cho pl l L k:=by rw [cho,h]
theorem cho_yes {pl:Nat->Option (List Nat)} {l:List Jb} {L:List Ml} {k:Nat} {G:List Nat} (h:pl k=some G):cho pl l L (k+1)=if betr L k G.length (lastP l G) (cho pl l L k) then some (k,G.length,lastP l G) else cho pl l L k:=by rw [cho,h]
def plansOf (L:List Ml) (t:Kt) (tl:List Lb) (l:List Jb) (i:Nat):Option (List Nat):=places (L.getD i default).1 (L.getD i default).2 t tl l
theorem plansOf_at {L:List Ml} {t:Kt} {tl:List Lb} {l:List Jb} {i:Nat} (h:i<L.length):plansOf L t tl l i=places L[i].1 L[i].2 t tl l:=by simp [plansOf,List.getD,List.getElem?_eq_getElem h]
def RetC (b:Nat) (w:World) (e:Ending) (s:ByteArray) (l:List ByteArray) (x:Bool):Prop:=∃ v,e = .returned (.tuple #[.string s,v,.bool x])/\OwnK w b 9 1 v (cellsS l)
def chN (L:List Ml) (o:Option Ch):ByteArray:=match o with | none=>⟨#[]⟩ | some x=>nmAt L x.1
def chG (L:List Ml) (t:Kt) (tl:List Lb) (l:List Jb) (o:Option Ch):List ByteArray:=match o with | none=>[] | some x=>namesAt l ((plansOf L t tl l x.1).getD [])
end
section
open Go.RowKit
section
variable {m:Mc} {ml:List Lb} {t:Kt} {tl:List Lb} {l l':List Jb} {p q s:Int} {G:List Nat} {k:Nat}
theorem why_4 (h:why m ml t tl l=4):∃ p q s,freM m l=(p,q,s,0)/\m.ok ml=true/\t.ok tl=true/\m.up=true/\hasB ml tl=true/\rep m.nm t.ap t.nm l=false/\fB t.a t.b t.c p q s=false:=by
 obtain ⟨f,hf⟩:∃ f,freM m l=f:=⟨_,rfl⟩
 obtain ⟨p,q,s,e⟩:=f
 unfold why whyT at h
 rw [hf] at h
 by_cases he:e=0
 case neg=>rw [if_neg he] at h;cases h
 subst he
 rw [if_pos rfl] at h
 refine ⟨p,q,s,hf,?_⟩
 cases c1:m.ok ml
 ·rw [c1] at h;simp at h
 cases c2:t.ok tl
 ·rw [c1,c2] at h;simp at h
 cases c3:m.up
 ·rw [c1,c2,c3] at h;simp at h
 cases c4:hasB ml tl
 ·rw [c1,c2,c3,c4] at h;simp at h
 cases c5:rep m.nm t.ap t.nm l
 case true=>rw [c1,c2,c3,c4,c5] at h;simp at h
 cases c6:fB t.a t.b t.c p q s
 ·exact ⟨rfl,rfl,rfl,rfl,rfl,rfl⟩
 ·rw [c1,c2,c3,c4,c5] at h;simp [c6] at h
theorem jat_map (l:List Jb):(List.range l.length).map (jat l)=l:=by
 apply List.ext_getElem (by simp)
 intro i h1 h2
 simp only [List.getElem_map,List.getElem_range]
 exact jat_at h2
theorem outJ_nil (l:List Jb):outJ [] l l.length=l:=by
 unfold outJ
 rw [List.filter_eq_self.2 (by simp)]
 exact jat_map l
theorem outJ_mono {G G':List Nat} (h:∀ i ∈ G,i ∈ G') (l:List Jb) (k:Nat):(outJ G' l k).Sublist (outJ G l k):=by
 unfold outJ
 refine List.Sublist.map _ ?_
 have e:(List.range k).filter (fun i=>!(G'.contains i))=((List.range k).filter (fun i=>!(G.contains i))).filter (fun i=>!(G'.contains i)):=by
  rw [List.filter_filter]
  refine List.filter_congr fun i _=>?_
  cases h1:G'.contains i
  ·cases h2:G.contains i
   ·rfl
   ·rw [List.contains_iff_mem] at h2
    have:=h i h2
    rw [<- List.contains_iff_mem,h1] at this;cases this
  ·rfl
 rw [e]
 exact List.filter_sublist
theorem outJ_sub (G:List Nat) (l:List Jb):(outJ G l l.length).Sublist l:=by
 have h:=outJ_mono (G:=[]) (G':=G) (fun i hi=>by cases hi) l l.length
 rwa [outJ_nil] at h
theorem fewest_min {p:Nat->Bool}:∀ {f k r:Nat},fewest p f k=some r -> ∀ i,k<=i->i<r->p i=false
 | 0,k,r,h=>by simp [fewest] at h
 | f+1,k,r,h=>by
  rw [fewest] at h
  split at h
  ·injection h with h;subst h;intro i h1 h2;omega
  ·rename_i hp
   intro i h1 h2
   by_cases e:i=k
   ·subst e;simpa using hp
   ·exact fewest_min h i (by omega) h2
theorem places_is (h:places m ml t tl l=some G):(why m ml t tl l=0/\G=[]) ∨ ∃ k,why m ml t tl l=4/\1<=k/\k<=(weak m t l l.length).length/\G=(weak m t l l.length).take k/\okK m t l (weak m t l l.length) k=true /\ ∀ i,1<=i->i<k->okK m t l (weak m t l l.length) i=false:=by
 unfold places at h
 split at h
 ·rename_i h0
  injection h with h
  exact .inl ⟨h0,h.symm⟩
 ·split at h
  ·rename_i h4
   rw [Option.map_eq_some_iff] at h
   obtain ⟨k,hk,rfl⟩:=h
   obtain ⟨h1,h2,h3⟩:=fewest_le hk
   exact .inr ⟨k,h4,h1,by omega,rfl,h3,fewest_min hk⟩
  ·cases h
theorem plan_each (h:places m ml t tl l=some G):∀ i ∈ G,i<l.length/\(jat l i).nd=m.nm/\(jat l i).pr<t.pr:=by
 intro i hi
 refine ⟨places_lt h i hi,?_⟩
 rcases places_is h with ⟨h0,rfl⟩ | ⟨k,h4,h1,h2,rfl,_,hm⟩
 ·cases hi
 ·have:=wk_ok _ i (List.mem_of_mem_take hi)
  unfold wkC at this
  rw [Bool.and_eq_true,sE_iff,decide_eq_true_eq] at this
  exact this
end
end
section
open Go.RowKit
section
variable {a b c:Jb}
theorem goB_iff:goB a b=true ↔ a.pr<b.pr ∨ (a.pr=b.pr/\b.sq<a.sq):=by unfold goB;simp
theorem goB_no:goB a b=false ↔ ¬ (a.pr<b.pr)/\(a.pr=b.pr -> ¬ b.sq<a.sq):=by unfold goB;simp
theorem goB_irrefl (a:Jb):goB a a=false:=by rw [goB_no];omega
theorem goB_asymm (h:goB a b=true):goB b a=false:=by rw [goB_iff] at h;rw [goB_no];omega
theorem goB_trans (h:goB a b=true) (k:goB b c=true):goB a c=true:=by rw [goB_iff] at *;omega
theorem goB_ntrans (h:goB a b=false) (k:goB b c=false):goB a c=false:=by rw [goB_no] at *;omega
end
section
variable {m:Mc} {t:Kt} {l:List Jb}
def wkJ (m:Mc) (t:Kt) (j:Jb):Bool:=sE j.nd m.nm && decide (j.pr<t.pr)
theorem weak_perm (m:Mc) (t:Kt) (l:List Jb) (k:Nat):(weak m t l k).Perm ((List.range k).filter (wkC m t l)):=wk_perm k
theorem weak_fore (m:Mc) (t:Kt) (l:List Jb) (k:Nat):(weak m t l k).Pairwise (Fore fun i y=>goB (jat l i) (jat l y)):=wk_fore (ah:=fun i y=>goB (jat l i) (jat l y)) (fun u v h=>goB_asymm h) (fun u v w h k=>goB_ntrans h k) k
theorem weak_one {k:Nat} {W:List Nat} (h1:W.Pairwise (Fore fun i y=>goB (jat l i) (jat l y))) (h2:W.Perm ((List.range k).filter (wkC m t l))):W=weak m t l k:=
 fore_one (ah:=fun i y=>goB (jat l i) (jat l y)) (fun u v h=>goB_asymm h) h1 (weak_fore m t l k) (h2.trans (weak_perm m t l k).symm)
theorem weak_nodup (k:Nat):(weak m t l k).Nodup:=wk_nodup k
def weakJ (m:Mc) (t:Kt) (l:List Jb):List Jb:=(weak m t l l.length).map (jat l)
theorem filter_jat (p:Jb->Bool) (l:List Jb):((List.range l.length).filter fun i=>p (jat l i)).map (jat l)=l.filter p:=by
 have e:l.filter p=((List.range l.length).map (jat l)).filter p:=by rw [jat_map]
 rw [e,List.filter_map];rfl
theorem weakJ_len:(weakJ m t l).length=(weak m t l l.length).length:=by simp [weakJ]
theorem outJ_perm {G:List Nat} (hn:G.Nodup) (hG:∀ i ∈ G,i<l.length):(outJ G l l.length ++ G.map (jat l)).Perm l:=by
 have h1:((List.range l.length).filter (fun i=>!(G.contains i)) ++ G).Perm (List.range l.length):=by
  have h2:G.Perm ((List.range l.length).filter fun i=>G.contains i):=by
   refine (List.perm_ext_iff_of_nodup hn (List.Nodup.sublist List.filter_sublist List.nodup_range)).2 fun i=>?_
   rw [List.mem_filter,List.mem_range,List.contains_iff_mem]
   exact ⟨fun h=>⟨hG i h,h⟩,fun h=>h.2⟩
  refine (List.Perm.append_left _ h2).trans ?_
  refine List.perm_append_comm.trans ?_
  exact List.filter_append_perm _ _
 have h3:=h1.map (jat l)
 rw [List.map_append,jat_map] at h3
 exact h3
end
end
section
open Go.RowKit
section
variable {pl:Nat->Option (List Nat)} {l:List Jb} {L:List Ml} {k i:Nat} {g g' g'':Nat} {a a' a'':Int}
theorem betr_iff {b m:Nat} {tp:Int}:betr L k g a (some (b,m,tp))=true ↔ g<m ∨ (g=m/\(a<tp ∨ (a=tp/\sL (nmAt L k) (nmAt L b)=true))):=by rw [betr_some];simp
theorem betr_not {b m:Nat} {tp:Int}:betr L k g a (some (b,m,tp))=false ↔ ¬ g<m/\(g=m -> ¬ a<tp/\(a=tp->sL (nmAt L k) (nmAt L b)=false)):=by
 rw [betr_some];simp
theorem betr_self (L:List Ml) (k g:Nat) (a:Int):betr L k g a (some (k,g,a))=false:=by
 rw [betr_not];exact ⟨by omega,fun _=>⟨by omega,fun _=>sL_irrefl _⟩⟩
theorem sL_not {x y z:ByteArray} (h1:sL x y=false) (h2:sL z y=true):sL x z=false:=by
 cases h:sL x z
 ·rfl
 ·rw [sL_trans h h2] at h1;cases h1
theorem betr_keep {j b m:Nat} {tp:Int} (h1:betr L j g' a' (some (b,m,tp))=false) (h2:betr L k g a (some (b,m,tp))=true):betr L j g' a' (some (k,g,a))=false:=by
 rw [betr_not] at h1 ⊢
 rw [betr_iff] at h2
 obtain ⟨n1,n2⟩:=h1
 rcases h2 with h2 | ⟨e1,h2⟩
 ·exact ⟨by omega,fun e=>by omega⟩
 ·subst e1
  refine ⟨n1,fun e=>?_⟩
  obtain ⟨n3,n4⟩:=n2 e
  rcases h2 with h2 | ⟨e2,h2⟩
  ·exact ⟨by omega,fun e3=>by omega⟩
  ·subst e2
   exact ⟨n3,fun e3=>sL_not (n4 e3) h2⟩
theorem cho_none:∀ {k:Nat},cho pl l L k=none -> ∀ i,i<k->pl i=none
 | 0,h,i,hi=>by omega
 | k+1,h,i,hi=>by
  cases hp:pl k with
  | none=>
   rw [cho_no hp] at h
   by_cases e:i=k
   ·subst e;exact hp
   ·exact cho_none h i (by omega)
  | some G=>
   rw [cho_yes hp] at h
   split at h
   ·cases h
   ·rename_i hb
    rw [h] at hb
    exact absurd rfl hb
theorem cho_is:∀ {k:Nat} {x:Ch},cho pl l L k=some x->(∃ G,pl x.1=some G/\x.2.1=G.length/\x.2.2=lastP l G/\x.1<k) /\ ∀ i,i<k -> ∀ G',pl i=some G' -> betr L i G'.length (lastP l G') (some x)=false
 | 0,x,h=>by simp [cho] at h
 | k+1,x,h=>by
  cases hp:pl k with
  | none=>
   rw [cho_no hp] at h
   obtain ⟨⟨G,h1,h2,h3,h4⟩,h5⟩:=cho_is h
   refine ⟨⟨G,h1,h2,h3,by omega⟩,fun i hi G' hG'=>?_⟩
   by_cases e:i=k
   ·subst e;rw [hp] at hG';cases hG'
   ·exact h5 i (by omega) G' hG'
  | some G=>
   rw [cho_yes hp] at h
   split at h
   ·rename_i hb
    injection h with h;subst h
    refine ⟨⟨G,hp,rfl,rfl,by simp⟩,fun i hi G' hG'=>?_⟩
    by_cases e:i=k
    ·subst e;rw [hp] at hG';injection hG' with hG';subst hG';exact betr_self _ _ _ _
    ·cases ho:cho pl l L k with
     | none=>exact absurd hG' (by rw [cho_none ho i (by omega)];simp)
     | some y=>
      rw [ho] at hb
      exact betr_keep ((cho_is ho).2 i (by omega) G' hG') hb
   ·rename_i hb
    obtain ⟨⟨G0,h1,h2,h3,h4⟩,h5⟩:=cho_is h
    refine ⟨⟨G0,h1,h2,h3,by omega⟩,fun i hi G' hG'=>?_⟩
    by_cases e:i=k
    ·subst e;rw [hp] at hG';injection hG' with hG';subst hG'
     rw [h] at hb
     simpa using hb
    ·exact h5 i (by omega) G' hG'
end
end
section
open Go.RowKit
theorem s_perm {l m:List V3} (h:l.Perm m):s1 l=s1 m/\s2 l=s2 m/\s3 l=s3 m:=by
 induction h with
 | nil=>exact ⟨rfl,rfl,rfl⟩
 | cons x _ ih=>rw [s1_cons,s2_cons,s3_cons,s1_cons,s2_cons,s3_cons,ih.1,ih.2.1,ih.2.2];exact ⟨rfl,rfl,rfl⟩
 | swap x y l=>simp only [s1_cons,s2_cons,s3_cons];refine ⟨?_,?_,?_⟩ <;> omega
 | trans _ _ i1 i2=>exact ⟨i1.1.trans i2.1,i1.2.1.trans i2.2.1,i1.2.2.trans i2.2.2⟩
section
variable {m:Mc} {ml:List Lb} {t:Kt} {tl:List Lb} {l l1 l2:List Jb}
def planJ (m:Mc) (ml:List Lb) (t:Kt) (tl:List Lb) (l:List Jb):Option (List Jb):=(places m ml t tl l).map fun G=>G.map (jat l)
def lastJ (J:List Jb):Int:=match J.getLast? with | none=>-1 | some j=>j.pr
theorem lastP_is (l:List Jb) (G:List Nat):lastP l G=lastJ (G.map (jat l)):=by
 unfold lastP lastJ
 rw [List.getLast?_map]
 cases G.getLast? <;> rfl
theorem namesAt_is (l:List Jb) (G:List Nat):namesAt l G=(G.map (jat l)).map Jb.nm:=by
 unfold namesAt
 rw [List.map_map];rfl
end
section
variable {t:Kt} {tl:List Lb} {l:List Jb} {L:List Ml}
end
end
section
open Go.RowKit
theorem filter_takeJ (p:Jb->Bool) {l:List Jb} {k:Nat} (h:k<l.length):(l.take (k+1)).filter p=(l.take k).filter p ++ if p l[k] then [l[k]] else []:=by
 rw [List.take_succ_eq_append_getElem h,List.filter_append]
 congr 1
 cases hp:p l[k] <;> simp [hp]
section
variable {m:Mc} {ml:List Lb} {t:Kt} {tl:List Lb} {l:List Jb} {p q s a b c a' b' c':Int} {W:List Nat} {k:Nat}
def frK (m:Mc) (l:List Jb) (W:List Nat) (k:Nat):Int × Int × Int × Int:=freM m (outJ (W.take k) l l.length)
theorem frK_0:frK m l W 0=freM m l:=by unfold frK;rw [List.take_zero,outJ_nil]
theorem frK_err (h:freM m l=(p,q,s,0)) (W:List Nat) (k:Nat):∃ a b c,frK m l W k=(a,b,c,0):=by
 obtain ⟨p',q',s',h',_⟩:=freM_less h (outJ_sub (W.take k) l)
 exact ⟨_,_,_,h'⟩
theorem out_step (hn:W.Nodup) (hW:∀ i ∈ W,i<l.length) (hk:k<W.length):(outJ (W.take k) l l.length).Perm (outJ (W.take (k+1)) l l.length ++ [jat l W[k]]):=by
 have e1:=outJ_perm (l:=l) (G:=W.take k) (hn.sublist (List.take_sublist _ _)) (fun i hi=>hW i (List.mem_of_mem_take hi))
 have e2:=outJ_perm (l:=l) (G:=W.take (k+1)) (hn.sublist (List.take_sublist _ _)) (fun i hi=>hW i (List.mem_of_mem_take hi))
 have e3:(W.take (k+1)).map (jat l)=(W.take k).map (jat l) ++ [jat l W[k]]:=by rw [List.take_succ_eq_append_getElem hk,List.map_append];rfl
 rw [e3] at e2
 have e4:=e1.trans e2.symm
 have e5:(outJ (W.take (k+1)) l l.length ++ ((W.take k).map (jat l) ++ [jat l W[k]])).Perm ((outJ (W.take (k+1)) l l.length ++ [jat l W[k]]) ++ (W.take k).map (jat l)):=by
  rw [List.append_assoc];exact List.Perm.append_left _ List.perm_append_comm
 exact (List.perm_append_right_iff _).1 (e4.trans e5)
theorem frK_step (hn:W.Nodup) (hW:∀ i ∈ W,i<l.length/\(jat l i).nd=m.nm) (hk:k<W.length) (h1:frK m l W k=(a,b,c,0)) (h2:frK m l W (k+1)=(a',b',c',0)) :
  adB a b c (jat l W[k]).a (jat l W[k]).b (jat l W[k]).c=true/\a' = a+(jat l W[k]).a/\b' = b+(jat l W[k]).b/\c' = c+(jat l W[k]).c:=by
 have hp:=out_step hn (fun i hi=>(hW i hi).1) hk
 have ho:=(hW _ (List.getElem_mem hk)).2
 unfold frK at h1 h2
 obtain ⟨r1,r2,r3,r4,r5,r6⟩:=freM_0 h1
 obtain ⟨g1,g2,g3,g4,g5,g6⟩:=freM_0 h2
 generalize outJ (W.take k) l l.length=X at *
 generalize outJ (W.take (k+1)) l l.length=Y at *
 generalize jat l W[k]=j at *
 have hon:onM m.nm (Y ++ [j])=onM m.nm Y ++ [j.need]:=by rw [onM_append];congr 1;unfold onM;simp [ho,sE_refl]
 have hq:(onM m.nm X).Perm (onM m.nm Y ++ [j.need]):=by rw [<- hon];unfold onM;exact (hp.filter _).map _
 obtain ⟨t1,t2,t3⟩:=s_perm hq
 have u1:s1 (onM m.nm Y ++ [j.need])=s1 (onM m.nm Y)+j.a:=by rw [s1_append];simp [s1,Jb.need]
 have u2:s2 (onM m.nm Y ++ [j.need])=s2 (onM m.nm Y)+j.b:=by rw [s2_append];simp [s2,Jb.need]
 have u3:s3 (onM m.nm Y ++ [j.need])=s3 (onM m.nm Y)+j.c:=by rw [s3_append];simp [s3,Jb.need]
 have hj:rB j.a j.b j.c=true:=r1 j.need (hq.symm.subset (by simp))
 have ea:a' = a+j.a:=by omega
 have eb:b' = b+j.b:=by omega
 have ec:c' = c+j.c:=by omega
 refine ⟨?_,ea,eb,ec⟩
 unfold adB
 rw [r6,hj,<- ea,<- eb,<- ec,g6]
 rfl
theorem weak_in:∀ i ∈ weak m t l l.length,i<l.length/\(jat l i).nd=m.nm:=by
 intro i hi
 refine ⟨wk_lt _ i hi,?_⟩
 have:=wk_ok _ i hi
 unfold wkC at this
 rw [Bool.and_eq_true,sE_iff] at this
 exact this.1
theorem okK_is (h:frK m l W k=(a,b,c,0)):okK m t l W k=fB t.a t.b t.c a b c:=by
 unfold frK at h
 unfold okK
 rw [h]
 simp
theorem planJ_0 (h:why m ml t tl l=0):planJ m ml t tl l=some []:=by unfold planJ places;rw [if_pos h];rfl
theorem planJ_4 (h:why m ml t tl l=4):planJ m ml t tl l=(fewest (okK m t l (weak m t l l.length)) (weak m t l l.length).length 1).map fun k=>(weakJ m t l).take k:=by
 unfold planJ places weakJ
 rw [if_neg (by rw [h];decide),if_pos h,Option.map_map]
 congr 1
 funext k
 show ((weak m t l l.length).take k).map (jat l)=_
 rw [List.map_take]
theorem planJ_no (h0:why m ml t tl l ≠ 0) (h4:why m ml t tl l ≠ 4):planJ m ml t tl l=none:=by unfold planJ places;rw [if_neg h0,if_neg h4];rfl
theorem weakJ_at {i:Nat} (h:i<(weakJ m t l).length):(weakJ m t l)[i]=jat l ((weak m t l l.length)[i]'(by rw [<- weakJ_len];exact h)):=by simp [weakJ]
theorem weakJ_one {W:List Nat} (h1:W.Perm (List.range (l.filter (wkJ m t)).length)) (h2:W.Pairwise (Fore fun i y=>goB (jat (l.filter (wkJ m t)) i) (jat (l.filter (wkJ m t)) y))):W.map (jat (l.filter (wkJ m t)))=weakJ m t l:=by
 obtain ⟨P,hP⟩:∃ P,P=(List.range l.length).filter (wkC m t l):=⟨_,rfl⟩
 have hf:P.map (jat l)=l.filter (wkJ m t):=by rw [hP];exact filter_jat (wkJ m t) l
 have hl:(l.filter (wkJ m t)).length=P.length:=by rw [<- hf,List.length_map]
 have hj:∀ i,i<P.length->jat (l.filter (wkJ m t)) i=jat l (P.getD i 0):=by
  intro i hi
  rw [jat_at (by omega:i<(l.filter (wkJ m t)).length)]
  simp only [<- hf,List.getElem_map,List.getD,List.getElem?_eq_getElem hi,Option.getD_some]
 have hW:∀ i ∈ W,i<P.length:=fun i hi=>by have:=List.mem_range.1 (h1.subset hi);omega
 have hPs:P.Pairwise (· < ·):=by rw [hP];exact List.Pairwise.filter _ List.pairwise_lt_range
 have hlt:∀ i y,i<y->y<P.length->P.getD i 0<P.getD y 0:=by
  intro i y h hy
  simp only [List.getD,List.getElem?_eq_getElem hy,List.getElem?_eq_getElem (show i<P.length by omega),Option.getD_some]
  exact List.pairwise_iff_getElem.1 hPs i y (by omega) hy h
 have hV:W.map (fun i=>P.getD i 0)=weak m t l l.length:=by
  refine weak_one ?_ ?_
  ·rw [List.pairwise_map]
   refine List.Pairwise.imp_of_mem (fun {x y} hx hy h=>?_) h2
   unfold Fore at h ⊢
   simp only at h ⊢
   rw [hj x (hW x hx),hj y (hW y hy)] at h
   rcases h with h | ⟨h,k⟩
   ·exact .inl h
   ·exact .inr ⟨h,hlt x y k (hW y hy)⟩
  ·refine (h1.map _).trans ?_
   rw [hl,<- hP]
   have:(List.range P.length).map (fun i=>P.getD i 0)=P:=by
    apply List.ext_getElem (by simp)
    intro i h1 h2
    simp [List.getD]
    simp at h1
    rw [List.getElem?_eq_getElem h1];rfl
   rw [this]
 unfold weakJ
 rw [<- hV,List.map_map]
 refine List.map_congr_left fun i hi=>?_
 exact hj i (hW i hi)
end
end
section
open Go.RowKit Go.Sort
def cfJ (x y:Jb):Int:=or2 (cI x.pr y.pr) (cI y.sq x.sq)
theorem cfJ_go (x y:Jb):decide (cfJ x y<0)=goB x y:=by
 unfold cfJ goB or2
 by_cases h:x.pr=y.pr
 ·rw [if_pos (cI_zero.2 h),decide_eq_false (show ¬ x.pr<y.pr by omega),decide_eq_true h]
  simp only [Bool.false_or,Bool.true_and]
  rw [decide_eq_decide];exact cI_neg
 ·rw [if_neg (fun e=>h (cI_zero.1 e)),decide_eq_false h]
  simp only [Bool.false_and,Bool.or_false]
  rw [decide_eq_decide];exact cI_neg


theorem cmpJ_any (x y:Jb) (w:World) :
  Calls Tryz.prog 235 #[.agg x.arr,.agg y.arr] w fun e w'=>e = .returned (.int .i64 (cfJ x y))/\Gw w w':=by
 have k1:=fun W=>compareI_any x.pr y.pr W
 have k2:=fun W=>compareI_any y.sq x.sq W
 have k3:=fun (x y:Int) (g:Nat) W=>or2_any x y g W
 obtain ⟨r,hr⟩:∃ r,r=cfJ x y:=⟨_,rfl⟩
 rw [<- hr]
 unfold cfJ at hr
 generalize cI x.pr y.pr=p at k1 hr
 generalize cI y.sq x.sq=q at k2 hr
 have K1:=Lib.hid k1;have K2:=Lib.hid k2;have K3:=Lib.hid k3;have HR:=Lib.hid hr;clear k1 k2 k3 hr
 go_enter Tryz.func235,Tryz.ntmps235
 go_wp2_with fail
 have hg0:Gw w ((w.alloc (.cells x.arr 66)).alloc (.cells y.arr 66)):=((Gw.refl w).alloc _).alloc _
 have hA0:=(Bk.fresh w 66 x.arr).later (w':=(w.alloc (.cells x.arr 66)).alloc (.cells y.arr 66)) ((Below.refl _ _).alloc (Nat.le_refl _) _)
 have hC0:Bk ((w.alloc (.cells x.arr 66)).alloc (.cells y.arr 66)) (w.heap.size+1) 66 y.arr:=Bk.freshAt _ _ _ (by simp)
 generalize hw1:(w.alloc (.cells x.arr 66)).alloc (.cells y.arr 66)=w1 at hg0 hA0 hC0 ⊢
 clear hw1
 have la:w.heap.size<w1.heap.size:=hA0.here
 have lc:w.heap.size+1<w1.heap.size:=hC0.here
 have a0:w1.cell? ⟨w.heap.size,2,none⟩=some (.int .i64 x.pr):=hA0.cellAt 2
 have a1:w1.cell? ⟨w.heap.size,10,none⟩=some (.int .i64 x.sq):=hA0.cellAt 10
 have c0:w1.cell? ⟨w.heap.size+1,2,none⟩=some (.int .i64 y.pr):=hC0.cellAt 2
 have c1:w1.cell? ⟨w.heap.size+1,10,none⟩=some (.int .i64 y.sq):=hC0.cellAt 10
 have A0:=Lib.hid a0;have A1:=Lib.hid a1;have C0:=Lib.hid c0;have C1:=Lib.hid c1;have LA:=Lib.hid la;have LC:=Lib.hid lc;have HG0:=Lib.hid hg0
 clear hA0 hC0 a0 a1 c0 c1 la lc hg0
 refine wp_region_held_drew (S:=fun W=>Gw w1 W) (by kernel_rfl) ((Gw.refl _).drew) (fun hS0=>?_)
 refine wpAnyH_take (i:=0) (v:=?_) rfl (by kernel_rfl) (by kernel_rfl) (by kernel_rfl) (fun _ _ _ h=>h) (Or.inl ⟨by rfl,?_⟩) hS0 ?_
 rotate_left
 ·intro W _;go_simp;try with_reducible rfl
 try simp only [Act.put,tD,tB,tC,tA,tE,tF]
 refine wpAnyH_take (i:=1) (v:=?_) rfl (by kernel_rfl) (by kernel_rfl) (by kernel_rfl) (fun _ _ _ h=>h) (Or.inl ⟨by rfl,?_⟩) hS0 ?_
 rotate_left
 ·intro W _;go_simp;try with_reducible rfl
 try simp only [Act.put,tD,tB,tC,tA,tE,tF]
 refine wpAnyH_take (i:=2) (v:=?_) rfl (by kernel_rfl) (by kernel_rfl) (by kernel_rfl) (fun _ _ _ h=>h) (Or.inl ⟨by rfl,?_⟩) hS0 ?_
 rotate_left
 ·intro W hSW;have hx:=(hSW.cell LA.out).trans A0.out;go_simp;try with_reducible rfl
 try simp only [Act.put,tD,tB,tC,tA,tE,tF]
 refine wpAnyH_take (i:=3) (v:=?_) rfl (by kernel_rfl) (by kernel_rfl) (by kernel_rfl) (fun _ _ _ h=>h) (Or.inl ⟨by rfl,?_⟩) hS0 ?_
 rotate_left
 ·intro W _;go_simp;try with_reducible rfl
 try simp only [Act.put,tD,tB,tC,tA,tE,tF]
 refine wpAnyH_take (i:=4) (v:=?_) rfl (by kernel_rfl) (by kernel_rfl) (by kernel_rfl) (fun _ _ _ h=>h) (Or.inl ⟨by rfl,?_⟩) hS0 ?_
 rotate_left
 ·intro W _;go_simp;try with_reducible rfl
 try simp only [Act.put,tD,tB,tC,tA,tE,tF]
 refine wpAnyH_take (i:=5) (v:=?_) rfl (by kernel_rfl) (by kernel_rfl) (by kernel_rfl) (fun _ _ _ h=>h) (Or.inl ⟨by rfl,?_⟩) hS0 ?_
 rotate_left
 ·intro W hSW;have hx:=(hSW.cell LC.out).trans C0.out;go_simp;try with_reducible rfl
 try simp only [Act.put,tD,tB,tC,tA,tE,tF]
 refine wpAnyH_take (i:=7) (v:=?_) rfl (by kernel_rfl) (by kernel_rfl) (by kernel_rfl) (fun _ _ _ h=>h) (Or.inl ⟨by rfl,?_⟩) hS0 ?_
 rotate_left
 ·intro W _;go_simp;try with_reducible rfl
 try simp only [Act.put,tD,tB,tC,tA,tE,tF]
 refine wpAnyH_take (i:=8) (v:=?_) rfl (by kernel_rfl) (by kernel_rfl) (by kernel_rfl) (fun _ _ _ h=>h) (Or.inl ⟨by rfl,?_⟩) hS0 ?_
 rotate_left
 ·intro W hSW;have hx:=(hSW.cell LC.out).trans C1.out;go_simp;try with_reducible rfl
 try simp only [Act.put,tD,tB,tC,tA,tE,tF]
 refine wpAnyH_take (i:=9) (v:=?_) rfl (by kernel_rfl) (by kernel_rfl) (by kernel_rfl) (fun _ _ _ h=>h) (Or.inl ⟨by rfl,?_⟩) hS0 ?_
 rotate_left
 ·intro W _;go_simp;try with_reducible rfl
 try simp only [Act.put,tD,tB,tC,tA,tE,tF]
 refine wpAnyH_take (i:=10) (v:=?_) rfl (by kernel_rfl) (by kernel_rfl) (by kernel_rfl) (fun _ _ _ h=>h) (Or.inl ⟨by rfl,?_⟩) hS0 ?_
 rotate_left
 ·intro W hSW;have hx:=(hSW.cell LA.out).trans A1.out;go_simp;try with_reducible rfl
 try simp only [Act.put,tD,tB,tC,tA,tE,tF]
 refine wpAnyH_ready (rs:=[6]) (by kernel_rfl) (by simp) ?_
 refine AllReadyH.cons rfl (fun K hK=>?_) AllReadyH.nil
 go_simp
 refine (K1.out _).mono ?_
 rintro v v1 ⟨rfl,rfl⟩
 go_simp
 refine hK.out _ _ hS0 (fun hS1=>?_)
 clear hK K
 try simp only [Act.put,tD,tB,tC,tA,tE,tF]
 refine wpAnyH_ready (rs:=[11]) (by kernel_rfl) (by simp) ?_
 refine AllReadyH.cons rfl (fun K hK=>?_) AllReadyH.nil
 go_simp
 refine (K2.out _).mono ?_
 rintro v v2 ⟨rfl,rfl⟩
 go_simp
 refine hK.out _ _ hS1 (fun hS2=>?_)
 clear hK K
 try simp only [Act.put,tD,tB,tC,tA,tE,tF]
 refine wpAnyH_ready (rs:=[12]) (by kernel_rfl) (by simp) ?_
 refine AllReadyH.cons rfl (fun K hK=>?_) AllReadyH.nil
 simp only [if_pos,Region.wanted]
 refine itwo_op 11 16 p q rfl rfl rfl ?_
 intro g v3 hg hv3
 subst hg hv3
 refine hK.out _ _ (hS2.alloc _) (fun hS3=>?_)
 clear hK K
 try simp only [Act.put,tD,tB,tC,tA,tE,tF]
 refine wpAnyH_ready (rs:=[13]) (by kernel_rfl) (by simp) ?_
 refine AllReadyH.cons rfl (fun K hK=>?_) AllReadyH.nil
 go_simp
 refine (K3.out p q _ _ (by simp) (by simp) (by simp)).mono ?_
 rintro v v4 ⟨rfl,rfl⟩
 go_simp
 refine hK.out _ _ hS3 (fun hS4=>?_)
 clear hK K
 try simp only [Act.put,tD,tB,tC,tA,tE,tF]
 refine wpAnyH_take (i:=14) (v:=?_) rfl (by kernel_rfl) (by kernel_rfl) (by kernel_rfl) (fun _ _ _ h=>h) (Or.inl ⟨by rfl,?_⟩) hS4 ?_
 rotate_left
 ·intro W _;go_simp;try with_reducible rfl
 try simp only [Act.put,tD,tB,tC,tA,tE,tF]
 refine wpAnyH_done (by kernel_rfl) ?_ _
 go_wp2_with fail
 go_ret
 exact ⟨HR.out.symm ▸ rfl,HG0.out.trans hS4⟩
end
end Go.Proofs.YtccccbofcnmdiaaGreat
