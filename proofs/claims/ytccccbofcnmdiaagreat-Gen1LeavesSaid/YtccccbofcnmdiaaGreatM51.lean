/- Lemmas that the law stands on. No condition. -/
import Derived.Test.YtccccbofcnmdiaaGreatM50
namespace Go.Proofs.YtccccbofcnmdiaaGreat
set_option linter.unusedSimpArgs false
set_option linter.unusedVariables false
set_option maxRecDepth 100000
set_option maxHeartbeats 51200000
section
open Go.RowKit
def Mo1 (x y:Jl):Prop:=y=x ∨ (wB x.1.nd=true /\ ∃ s:ByteArray,s.size ≠ 0/\y=goX s x)
def Mo:List Jl->List Jl->Prop
 | [],[]=>True
 | x :: J,y :: K=>Mo1 x y/\Mo J K
 | _,_=>False
theorem Mo.refl:∀ J,Mo J J
 | []=>by unfold Mo;trivial
 | x :: J=>by unfold Mo;exact ⟨.inl rfl,Mo.refl J⟩
theorem goX_waits {s:ByteArray} (h:s.size ≠ 0) (x:Jl):wB (goX s x).1.nd=false:=decide_eq_false h
theorem Mo.trans:∀ {J K L},Mo J K->Mo K L->Mo J L
 | [],[],[],_,_=>by unfold Mo;trivial
 | x :: J,y :: K,z :: L,h,g=>by
  refine ⟨?_,Mo.trans h.2 g.2⟩
  rcases h.1 with e | ⟨hw,s,hs,e⟩
  ·rw [<- e];exact g.1
  ·rcases g.1 with e2 | ⟨hw2,_⟩
   ·exact .inr ⟨hw,s,hs,e2.trans e⟩
   ·rw [e,goX_waits hs] at hw2;cases hw2
 | [],[],_ :: _,_,g=>g.elim
 | [],_ :: _,_,h,_=>h.elim
 | _ :: _,[],_,h,_=>h.elim
 | _ :: _,_ :: _,[],_,g=>g.elim
theorem Mo.set:∀ {J:List Jl} {p:Nat} {y:Jl},(∀ h:p<J.length,Mo1 J[p] y)->Mo J (J.set p y)
 | [],p,y,_=>by rw [List.set_nil];trivial
 | x :: J,0,y,h=>⟨h (by simp),Mo.refl J⟩
 | x :: J,p+1,y,h=>⟨.inl rfl,Mo.set (p:=p) fun hp=>h (by simpa using hp)⟩
theorem Mo.len:∀ {J K},Mo J K->K.length=J.length
 | [],[],_=>rfl
 | x :: J,y :: K,h=>by rw [List.length_cons,List.length_cons,Mo.len h.2]
 | [],_ :: _,h=>h.elim
 | _ :: _,[],h=>h.elim
theorem Mo.at:∀ {J K:List Jl},Mo J K -> ∀ (i:Nat) (h1:i<J.length) (h2:i<K.length),Mo1 J[i] K[i]
 | x :: J,y :: K,h,0,_,_=>h.1
 | x :: J,y :: K,h,i+1,h1,h2=>Mo.at h.2 i (by simpa using h1) (by simpa using h2)
 | [],_,_,_,h1,_=>by simp at h1
 | _ :: _,[],h,_,_,_=>h.elim
theorem Mo.bind {J:List Jl} {s:ByteArray} {p:Nat} (hw:wB (jl J p).1.nd=true) (hs:s.size ≠ 0):Mo J (bindJ s p J):=Mo.set fun hp=>by
 rw [jl_at hp] at hw ⊢
 exact .inr ⟨hw,s,hs,rfl⟩
theorem sE_waits {x:Jl} {s:ByteArray} (hs:s.size ≠ 0) (hw:wB x.1.nd=true):sE x.1.nd s=false:=by
 cases h:sE x.1.nd s with
 | false=>rfl
 | true=>
  rw [sE_iff.1 h] at hw
  exact absurd (of_decide_eq_true hw) hs
theorem onM_cons (s:ByteArray) (j:Jb) (l:List Jb):onM s (j :: l)=if sE j.nd s then j.need :: onM s l else onM s l:=by
 unfold onM
 rw [List.filter_cons]
 split <;> simp
theorem onM_sub {s:ByteArray} (hs:s.size ≠ 0):∀ {J K},Mo J K->(onM s (jbs J)).Sublist (onM s (jbs K))
 | [],[],_=>List.Sublist.slnil
 | x :: J,y :: K,h=>by
  have ih:=onM_sub hs h.2
  show (onM s (x.1 :: jbs J)).Sublist (onM s (y.1 :: jbs K))
  rw [onM_cons,onM_cons]
  rcases h.1 with e | ⟨hw,t,ht,e⟩
  ·rw [e]
   split
   ·exact ih.cons_cons _
   ·exact ih
  ·rw [if_neg (by rw [sE_waits hs hw];simp)]
   split
   ·exact ih.cons _
   ·exact ih
 | [],_ :: _,h=>h.elim
 | _ :: _,[],h=>h.elim
theorem s_sub:∀ {l m:List V3},l.Sublist m->allR m->allR l/\s1 l<=s1 m/\s2 l<=s2 m/\s3 l<=s3 m
 | _,_,.slnil,h=>⟨h,Int.le_refl _,Int.le_refl _,Int.le_refl _⟩
 | _,_,.cons (l₁:=l) (l₂:=m) t hs,h=>by
  obtain ⟨a,b,c,d⟩:=s_sub hs fun u hu=>h u (by simp [hu])
  have:=rB_bd (h t (by simp))
  refine ⟨a,?_,?_,?_⟩
  ·rw [s1_cons];omega
  ·rw [s2_cons];omega
  ·rw [s3_cons];omega
 | _,_,.cons_cons (l₁:=l) (l₂:=m) t hs,h=>by
  obtain ⟨a,b,c,d⟩:=s_sub hs fun u hu=>h u (by simp [hu])
  refine ⟨fun u hu=>(List.mem_cons.1 hu).elim (fun e=>e ▸ h t (by simp)) (a u),?_,?_,?_⟩
  ·rw [s1_cons,s1_cons];omega
  ·rw [s2_cons,s2_cons];omega
  ·rw [s3_cons,s3_cons];omega
theorem repMo {s ap nm:ByteArray} (hs:s.size ≠ 0) {J K:List Jl} (h:Mo J K) (hr:rep s ap nm (jbs K)=false):rep s ap nm (jbs J)=false:=by
 unfold rep at hr ⊢
 cases hd:decide (ap.size=0) with
 | true=>rfl
 | false=>
  rw [hd] at hr
  simp only [Bool.not_false,Bool.true_and] at hr ⊢
  have key:∀ {J K:List Jl},Mo J K->(jbs K).any (both s ap nm)=false->(jbs J).any (both s ap nm)=false:=by
   intro J
   induction J with
   | nil=>intro K _ _;rfl
   | cons x J ih=>
    intro K h hr
    cases K with
    | nil=>exact h.elim
    | cons y K=>
     change (both s ap nm y.1 || (jbs K).any (both s ap nm))=false at hr
     show (both s ap nm x.1 || (jbs J).any (both s ap nm))=false
     rw [Bool.or_eq_false_iff] at hr ⊢
     refine ⟨?_,ih h.2 hr.2⟩
     rcases h.1 with e | ⟨hw,t,ht,e⟩
     ·rw [<- e];exact hr.1
     ·unfold both;rw [sE_waits hs hw];rfl
  exact key h hr
theorem whyT_zero {e:Int} {N K U H R F:Bool}:whyT e N K U H R F=0 ↔ e=0/\N=true/\K=true/\U=true/\H=true/\R=false/\F=true:=by
 unfold whyT
 cases N <;> cases K <;> cases U <;> cases H <;> cases R <;> cases F <;> by_cases he:e=0 <;> simp [he]
theorem sb_is {a b c x y z:Int} (h:sbE a b c x y z=0):rB a b c=true/\rB x y z=true/\rB (a - x) (b - y) (c - z)=true:=by
 unfold sbE at h
 by_cases h1:(rB a b c && rB x y z)=true
 ·rw [if_pos h1] at h
  rw [Bool.and_eq_true] at h1
  by_cases h2:rB (a - x) (b - y) (c - z)=true
  ·exact ⟨h1.1,h1.2,h2⟩
  ·rw [if_neg h2] at h;exact absurd h (by omega)
 ·rw [if_neg h1] at h;exact absurd h (by omega)
theorem sb_mk {a b c x y z:Int} (h1:rB a b c=true) (h2:rB x y z=true) (h3:rB (a - x) (b - y) (c - z)=true):sbE a b c x y z=0/\sbB a b c x y z=true:=by
 unfold sbE sbB;rw [h1,h2,h3];exact ⟨rfl,rfl⟩
theorem rB_of {a b c:Int} (h:0<=a/\a<=1048576/\0<=b/\b<=1048576/\0<=c/\c<=1048576):rB a b c=true:=decide_eq_true h
theorem rB_to {a b c:Int} (h:rB a b c=true):0<=a/\a<=1048576/\0<=b/\b<=1048576/\0<=c/\c<=1048576:=of_decide_eq_true h
theorem whyMo {m:Mc} {ml:List Lb} {t:Kt} {tl:List Lb} {J K:List Jl} (h:Mo J K) (hw:why m ml t tl (jbs K)=0):why m ml t tl (jbs J)=0:=by
 unfold why at hw ⊢
 rw [whyT_zero] at hw ⊢
 obtain ⟨he,hN,hK,hU,hH,hR,hF⟩:=hw
 have hs:m.nm.size ≠ 0:=name_ne (by unfold Mc.ok nodeB at hN;simp only [Bool.and_eq_true] at hN;exact hN.1.1)
 obtain ⟨x,y,z,v,hsm⟩:∃ x y z v,sm 0 0 0 (onM m.nm (jbs K))=(x,y,z,v):=⟨_,_,_,_,rfl⟩
 unfold freM at he hF ⊢
 rw [hsm] at he hF
 simp only at he hF
 by_cases hv:v=0
 ·subst hv
  rw [fre_0] at he hF
  simp only at he hF
  obtain ⟨a1,a2,a3⟩:=sb_is he
  rw [(sb_mk a1 a2 a3).2] at hF
  simp only [kp_t] at hF
  obtain ⟨b1,b2,b3,b4⟩:=sm_zero hsm
  obtain ⟨c1,c2,c3,c4⟩:=s_sub (onM_sub hs h) b1
  have c5:=allR_ge c1
  have d1:=rB_to a1;have d2:=rB_to a2;have d3:=rB_to a3
  have e1:rB (0+s1 (onM m.nm (jbs J))) (0+s2 (onM m.nm (jbs J))) (0+s3 (onM m.nm (jbs J)))=true:=rB_of (by omega)
  have e2:=sm_mk (l:=onM m.nm (jbs J)) (p:=0) (q:=0) (r:=0) (by decide) c1 e1
  rw [e2]
  simp only
  rw [fre_0]
  simp only
  have e3:rB (m.a - (0+s1 (onM m.nm (jbs J)))) (m.b - (0+s2 (onM m.nm (jbs J)))) (m.c - (0+s3 (onM m.nm (jbs J))))=true:=rB_of (by omega)
  obtain ⟨f1,f2⟩:=sb_mk a1 e1 e3
  rw [f1,f2]
  simp only [kp_t]
  refine ⟨by trivial,hN,hK,hU,hH,repMo hs h hR,?_⟩
  unfold fB at hF ⊢
  have:=of_decide_eq_true hF
  exact decide_eq_true (by omega)
 ·rw [fre_v hv] at he
  exact absurd he hv
def NoEv (l:List Ac):Prop:=∀ a ∈ l,a.1 ≠ 2
theorem tryK_mo {bs:Bst} (hB:BestK bs) {M:List Ml} (hM:NeM M) {J:List Jl} {u:List Nat} (hu:u.Nodup) (hw:∀ q ∈ u,q<J.length/\wB (jl J q).1.nd=true) :
  ∀ k,k<=u.length -> ∀ r,tryK bs M J u k=some r->Mo J r.1
 | 0,_,r,h=>by injection h with h;subst h;exact Mo.refl J
 | k+1,hk,r',h=>by
  have hk':k<u.length:=by omega
  have eu:u.getD k 0=u[k]:=by simp [List.getD,List.getElem?_eq_getElem hk']
  obtain ⟨r,hr,hb,rfl⟩:=tryK_succ h
  have ih:=tryK_mo hB hM hu hw k (by omega) r hr
  have h3:=(tryK_leads hB hM hu hw k (by omega) r hr).2.2
  rw [eu] at hb ⊢
  have hnt:u[k] ∉ u.take k:=fun hm=>by
   obtain ⟨i,hi,e⟩:=List.getElem_of_mem hm
   rw [List.length_take] at hi
   rw [List.getElem_take] at e
   exact List.pairwise_iff_getElem.1 hu i k (by omega) hk' (by omega) e
  obtain ⟨x,hx,hxn⟩:=hB.mem _ _ _ hb
  have hs:(bs M r.1 u[k]).1.size ≠ 0:=by rw [<- hxn];exact hM x hx
  exact ih.trans (Mo.bind (by rw [h3 _ hnt];exact (hw _ (List.getElem_mem hk')).2) hs)
theorem evK_two {J:List Jl} {names:List ByteArray}:∀ k,k<=names.length -> ∀ a ∈ (evK J names k).2,a.1=2
 | 0,_,a,h=>by cases h
 | k+1,hk,a,h=>by
  rw [evK_succ (by omega)] at h
  unfold outS at h
  rcases List.mem_append.1 h with h | h
  ·exact evK_two k (by omega) a h
  ·rw [List.mem_singleton] at h;rw [h]
theorem preG_mo {ch:Chs15} (hC:ChoK ch) {M:List Ml} (hM:NeM M) {J:List Jl} {p:Nat} (hw:wB (jl J p).1.nd=true) (hn:NoEv (preG ch M J p).2):Mo J (preG ch M J p).1:=by
 unfold preG at hn ⊢
 by_cases hb:(ch M J p).2.2=true
 ·rw [if_pos hb] at hn ⊢
  have h0:(ch M J p).2.1.length=0:=by
   rcases Nat.eq_zero_or_pos (ch M J p).2.1.length with e | e
   ·exact e
   ·have hl:=(evK_core (J:=J) (names:=(ch M J p).2.1) _ (Nat.le_refl _)).2
    have hx:=List.getElem_mem (l:=(evK J (ch M J p).2.1 (ch M J p).2.1.length).2) (n:=0) (by omega)
    exact absurd (evK_two _ (Nat.le_refl _) _ hx) (hn _ (List.mem_append_left _ hx))
  obtain ⟨x,hx,hxn⟩:=hC.mem _ _ _ hb
  have hs:(ch M J p).1.size ≠ 0:=by rw [<- hxn];exact hM x hx
  show Mo J (bindJ _ p (evK J (ch M J p).2.1 (ch M J p).2.1.length).1)
  rw [h0]
  exact Mo.bind hw hs
 ·rw [if_neg hb] at hn ⊢
  exact Mo.refl J
theorem unitG_acts {bs:Bst} {ch:Chs15} {M:List Ml} {X:List Jl × List Ac} {u:List Nat}:∃ m,(unitG bs ch M X u).2=X.2 ++ m:=by
 unfold unitG
 cases h:tryK bs M X.1 u u.length with
 | some r=>exact ⟨_,rfl⟩
 | none=>
  simp only
  split
  ·exact ⟨_,rfl⟩
  ·exact ⟨[],by simp⟩
theorem unitG_mo {bs:Bst} {ch:Chs15} (hB:BestK bs) (hC:ChoK ch) {M:List Ml} (hM:NeM M) {X:List Jl × List Ac} {u:List Nat} (h0:0<u.length) (hu:u.Nodup) (hw:∀ q ∈ u,q<X.1.length/\wB (jl X.1 q).1.nd=true)
  (hn:NoEv (unitG bs ch M X u).2):Mo X.1 (unitG bs ch M X u).1:=by
 cases h:tryK bs M X.1 u u.length with
 | some r=>rw [unitG_some h];exact tryK_mo hB hM hu hw _ (Nat.le_refl _) r h
 | none=>
  rw [unitG_none h] at hn ⊢
  have e0:u.getD 0 0=u[0]:=by simp [List.getD,List.getElem?_eq_getElem h0]
  rw [e0] at hn ⊢
  split
  ·rename_i hg
   rw [if_pos hg] at hn
   exact preG_mo hC hM (hw _ (List.getElem_mem h0)).2 fun a ha=>hn a (List.mem_append_right _ ha)
  ·exact Mo.refl _
section
variable {bs:Bst} {ch:Chs15} {M:List Ml} {J:List Jl} {U:List (List Nat)}
theorem passK_noEv {k n:Nat} (hk:k<=n) (hn:n<=U.length) (h:NoEv (passK bs ch M J U n).2):NoEv (passK bs ch M J U k).2:=by
 induction n with
 | zero=>
  have:k=0:=by omega
  rw [this];exact h
 | succ n ih=>
  rcases Nat.lt_or_ge k (n+1) with hl | hl
  ·refine ih (by omega) (by omega) fun a ha=>?_
   rw [passK_succ (by omega)] at h
   obtain ⟨m,e⟩:=unitG_acts (bs:=bs) (ch:=ch) (M:=M) (X:=passK bs ch M J U n) (u:=U[n])
   rw [e] at h
   exact h a (List.mem_append_left _ ha)
  ·have:k=n+1:=by omega
   rw [this];exact h
theorem passK_wait (hB:BestK bs) (hC:ChoK ch) (hF:FitC ch) (hM:NeM M) (hn:NdJ J) (hU:U.flatten.Nodup) (h0:∀ u ∈ U,0<u.length)
  (hw:∀ u ∈ U,∀ q ∈ u,q<J.length/\wB (jl J q).1.nd=true) {k:Nat} (hk:k<U.length):∀ q ∈ U[k],q<(passK bs ch M J U k).1.length/\jl (passK bs ch M J U k).1 q=jl J q:=fun q hq=>by
 obtain ⟨h1,h2,h3⟩:=passK_leads hB hC hF hM hn hU h0 hw k (by omega)
 have hl:(passK bs ch M J U k).1.length=J.length:=by simpa using congrArg List.length h2
 obtain ⟨a,b⟩:=hw U[k] (List.getElem_mem hk) q hq
 refine ⟨by omega,h3 q (fun hf=>?_) b⟩
 obtain ⟨v,hv,hqv⟩:=List.mem_flatten.1 hf
 obtain ⟨i,hi,e⟩:=List.getElem_of_mem hv
 rw [List.length_take] at hi
 rw [List.getElem_take] at e
 subst e
 exact List.pairwise_iff_getElem.1 (List.pairwise_flatten.1 hU).2 i k (by omega) hk (by omega) q hqv q hq rfl
theorem passK_mo (hB:BestK bs) (hC:ChoK ch) (hF:FitC ch) (hM:NeM M) (hn:NdJ J) (hU:U.flatten.Nodup) (h0:∀ u ∈ U,0<u.length)
  (hw:∀ u ∈ U,∀ q ∈ u,q<J.length/\wB (jl J q).1.nd=true) {k n:Nat} (hk:k<=n) (hN:n<=U.length) (hE:NoEv (passK bs ch M J U n).2):Mo (passK bs ch M J U k).1 (passK bs ch M J U n).1:=by
 induction n with
 | zero=>
  have:k=0:=by omega
  rw [this];exact Mo.refl _
 | succ n ih=>
  rcases Nat.lt_or_ge k (n+1) with hl | hl
  ·refine (ih (by omega) (by omega) (passK_noEv (by omega) hN hE)).trans ?_
   have hl2:n<U.length:=by omega
   have hmem:=List.getElem_mem hl2
   rw [passK_succ hl2] at hE ⊢
   exact unitG_mo hB hC hM (h0 _ hmem) ((List.pairwise_flatten.1 hU).1 _ hmem) (fun q hq=>by
    obtain ⟨a,b⟩:=passK_wait hB hC hF hM hn hU h0 hw hl2 q hq
    exact ⟨a,by rw [b];exact (hw _ hmem q hq).2⟩) hE
  ·have:k=n+1:=by omega
   rw [this];exact Mo.refl _
end
theorem bsF_none {M:List Ml} {J:List Jl} {p:Nat} (h:(bsF M J p).2=false):∀ y ∈ M,why y.1 y.2 (jl J p).1.tk (jl J p).2 (jbs J) ≠ 0:=fun y hy hw=>by
 unfold bsF at h
 have hE:srt (jl J p).1.tk (jl J p).2 (jbs J) M=[]:=by
  cases hs:srt (jl J p).1.tk (jl J p).2 (jbs J) M with
  | nil=>rfl
  | cons x E=>rw [hs] at h;cases h
 have hp:=srt_perm (t:=(jl J p).1.tk) (tl:=(jl J p).2) (l:=jbs J) (L:=M)
 rw [hE] at hp
 have ha:able (jl J p).1.tk (jl J p).2 (jbs J) M=[]:=hp.symm.eq_nil
 unfold able at ha
 have h1:=List.filterMap_eq_nil_iff.1 ha y hy
 unfold entry sco at h1
 rw [if_pos hw] at h1
 cases h1
theorem unit_alone {J:List Jl} {i:Nat} (hi:i<J.length) (hw:wB J[i].1.nd=true) (hg:J[i].1.ga.size=0):[i] ∈ unF J:=by
 have hl:i<(jbs J).length:=by simpa [jbs] using hi
 have hj:jat (jbs J) i=J[i].1:=jat_jbs hi
 have h:=units_has hl (by rw [hj];exact of_decide_eq_true hw) (by rw [hj];exact hg)
 obtain ⟨u,hu,hiu⟩:=List.mem_flatten.1 h
 obtain ⟨p,r,rfl,h1,h2⟩:=units_in hu
 have hgp:(jat (jbs J) p).ga.size=0:=by rw [<- (h1 i hiu).2.2,hj];exact hg
 have hr:r=[]:=by
  cases r with
  | nil=>rfl
  | cons q r=>
   have:=h2 q (by simp)
   rw [(h1 q (by simp)).2.2] at this
   exact absurd hgp this
 subst hr
 rw [List.mem_singleton] at hiu
 rw [hiu];exact hu
theorem passG_leaves {M:List Ml} (hM:NeM M) {J:List Jl} (hn:NdJ J) (hE:NoEv (passG bsF chF unF M J).2) (i:Nat) (hi:i<(passG bsF chF unF M J).1.length)
  (hw:wB (passG bsF chF unF M J).1[i].1.nd=true) (hg:(passG bsF chF unF M J).1[i].1.ga.size=0):∀ y ∈ M,why y.1 y.2 (passG bsF chF unF M J).1[i].1.tk (passG bsF chF unF M J).1[i].2 (jbs (passG bsF chF unF M J).1) ≠ 0:=by
 obtain ⟨X,hX⟩:∃ X,X=passG bsF chF unF M J:=⟨_,rfl⟩
 simp only [<- hX] at hE hi hw hg ⊢
 have hXd:X=passK bsF chF M J (unF J) (unF J).length:=hX
 have hwU:∀ u ∈ unF J,∀ q ∈ u,q<J.length/\wB (jl J q).1.nd=true:=fun u hu q hq=>⟨uniK.lt J u hu q hq,(fitU J).2 u hu q hq⟩
 have mo:∀ k n,k<=n->n<=(unF J).length->NoEv (passK bsF chF M J (unF J) n).2->Mo (passK bsF chF M J (unF J) k).1 (passK bsF chF M J (unF J) n).1:=fun k n hk hN hE=>passK_mo bestK choK fitC hM hn (fitU J).1 (uniK.ne J) hwU hk hN hE
 have hE':NoEv (passK bsF chF M J (unF J) (unF J).length).2:=by rw [<- hXd];exact hE
 have m0:Mo J X.1:=by rw [hXd];exact mo 0 _ (Nat.zero_le _) (Nat.le_refl _) hE'
 have hl:X.1.length=J.length:=m0.len
 have hiJ:i<J.length:=by omega
 have eq0:X.1[i]=J[i]:=by
  rcases m0.at i hiJ hi with e | ⟨_,s,hs,e⟩
  ·exact e
  ·rw [e,goX_waits hs] at hw;cases hw
 have hu:=unit_alone hiJ (by rw [<- eq0];exact hw) (by rw [<- eq0];exact hg)
 obtain ⟨k,hk,hku⟩:=List.getElem_of_mem hu
 obtain ⟨q1,q2⟩:=passK_wait bestK choK fitC hM hn (fitU J).1 (uniK.ne J) hwU hk i (by rw [hku];exact List.mem_singleton_self i)
 obtain ⟨Y,hY⟩:∃ Y,Y=passK bsF chF M J (unF J) k:=⟨_,rfl⟩
 rw [<- hY] at q1 q2
 have m1:Mo (unitG bsF chF M Y [i]).1 X.1:=by
  have:=mo (k+1) (unF J).length (by omega) (Nat.le_refl _) hE'
  rw [passK_succ hk,hku,<- hY,<- hXd] at this
  exact this
 have m2:Mo Y.1 X.1:=by rw [hXd,hY];exact mo k _ (by omega) (Nat.le_refl _) hE'
 have hb:(bsF M Y.1 i).2=false:=by
  cases hb:(bsF M Y.1 i).2 with
  | false=>rfl
  | true=>
   exfalso
   have ht:tryK bsF M Y.1 [i] [i].length=some (bindJ (bsF M Y.1 i).1 i Y.1,[] ++ [(1,(jl Y.1 i).1.nm,(bsF M Y.1 i).1)]):=by
    show (if (bsF M Y.1 i).2=true then _ else _)=_
    rw [if_pos hb];rfl
   rw [unitG_some ht] at m1
   obtain ⟨x,hx,hxn⟩:=bestK.mem _ _ _ hb
   have hs:(bsF M Y.1 i).1.size ≠ 0:=by rw [<- hxn];exact hM x hx
   have hlb:i<(bindJ (bsF M Y.1 i).1 i Y.1).length:=by unfold bindJ;rw [List.length_set];exact q1
   have e2:(bindJ (bsF M Y.1 i).1 i Y.1)[i]=goX (bsF M Y.1 i).1 (jl Y.1 i):=by simp [bindJ]
   have hw1:=m1.at i hlb hi
   rw [e2] at hw1
   rcases hw1 with e | ⟨hc,_⟩
   ·rw [e,goX_waits hs] at hw;cases hw
   ·rw [goX_waits hs] at hc;cases hc
 intro y hy hz
 have h1:=bsF_none hb y hy
 rw [q2,jl_at hiJ,<- eq0] at h1
 exact h1 (whyMo m2 hz)
theorem tick_leaves {S:Sg} (h:Led S) (hck:(tickG bsF chF unF S).2.1=0) (hE:NoEv (tickG bsF chF unF S).2.2) (i:Nat) (hi:i<(tickG bsF chF unF S).1.J.length)
  (hw:wB (tickG bsF chF unF S).1.J[i].1.nd=true) (hg:(tickG bsF chF unF S).1.J[i].1.ga.size=0):∀ y ∈ (tickG bsF chF unF S).1.M,why y.1 y.2 (tickG bsF chF unF S).1.J[i].1.tk (tickG bsF chF unF S).1.J[i].2 (jbs (tickG bsF chF unF S).1.J) ≠ 0:=by
 by_cases hk:1073741824<=S.ck
 ·unfold tickG at hck;rw [if_pos hk] at hck;exact absurd hck (by show ¬ (6:Int)=0;omega)
 ·obtain ⟨T,hT⟩:∃ T,T=expG { S with ck:=S.ck+1 }:=⟨_,rfl⟩
  have hd:tickG bsF chF unF S=({ T.1 with J:=(passG bsF chF unF T.1.M T.1.J).1 },0,T.2 ++ (passG bsF chF unF T.1.M T.1.J).2):=by unfold tickG;rw [if_neg hk,<- hT]
  obtain ⟨h1,h2⟩:=expK_leads (S:={ S with ck:=S.ck+1 }) h.2 S.M.length
  have h1':NdJ T.1.J:=by rw [hT];exact (h1 h.1).2
  have h2':NeM T.1.M:=by rw [hT];exact h2
  simp only [hd] at hE hi hw hg ⊢
  exact passG_leaves h2' h1' (fun a ha=>hE a (List.mem_append_right _ ha)) i hi hw hg
theorem leaves_told {S T:Sg} (e:T.bare=S.bare) (h:∀ i (hi:i<S.J.length),wB S.J[i].1.nd=true->S.J[i].1.ga.size=0 -> ∀ y ∈ S.M,why y.1 y.2 S.J[i].1.tk S.J[i].2 (jbs S.J) ≠ 0) :
  ∀ i (hi:i<T.J.length),wB T.J[i].1.nd=true->T.J[i].1.ga.size=0 -> ∀ y ∈ T.M,why y.1 y.2 T.J[i].1.tk T.J[i].2 (jbs T.J) ≠ 0:=by
 obtain ⟨_,_,e3,_,e5⟩:=bare_fields e
 intro i hi hw hg y hy
 have hl:T.J.length=S.J.length:=by have:=congrArg List.length e5;rw [List.length_map,List.length_map] at this;exact this
 have hi':i<S.J.length:=by omega
 have hb:bY T.J[i]=bY S.J[i]:=by
  have h1:(bL T.J)[i]'(by rw [List.length_map];exact hi)=(bL S.J)[i]'(by rw [List.length_map];exact hi'):=by simp only [e5]
  rwa [List.getElem_map,List.getElem_map] at h1
 have b1:T.J[i].1.bare=S.J[i].1.bare:=by have h:=congrArg (fun x:Jl=>x.1) hb;exact h
 have b2:T.J[i].2=S.J[i].2:=by have h:=congrArg (fun x:Jl=>x.2) hb;exact h
 have nd:T.J[i].1.nd=S.J[i].1.nd:=by have h:=congrArg (fun x:Jb=>x.nd) b1;exact h
 have ga:T.J[i].1.ga=S.J[i].1.ga:=by have h:=congrArg (fun x:Jb=>x.ga) b1;exact h
 have tk:T.J[i].1.tk.bare=S.J[i].1.tk.bare:=by have h:=congrArg (fun x:Jb=>x.tk) b1;exact h
 have hm:bX y ∈ bM S.M:=by rw [<- e3];exact List.mem_map_of_mem hy
 obtain ⟨y',hy',ey⟩:=List.mem_map.1 hm
 have y1:y'.1.bare=y.1.bare:=by have h:=congrArg (fun x:Ml=>x.1) ey;exact h
 have y2:y'.2=y.2:=by have h:=congrArg (fun x:Ml=>x.2) ey;exact h
 have jj:bJ (jbs T.J)=bJ (jbs S.J):=by
  have k:∀ J:List Jl,bJ (jbs J)=(bL J).map fun x=>x.1:=fun J=>by rw [List.map_map];show (J.map Prod.fst).map Jb.bare=_;rw [List.map_map];rfl
  rw [k,k,e5]
 rw [<- why_bare,<- y1,<- y2,tk,b2,jj,why_bare]
 exact h i hi' (by rw [<- nd];exact hw) (by rw [<- ga];exact hg) y' hy'
def ozT:Oz:=⟨{ Ov.zero with k:=9 },none,0,0,none,0,0⟩
theorem ozT_ok (w:World):OzOk w ozT:=⟨LbOk.nil w,LbOk.nil w,by decide,by decide,by decide,by decide,by decide,by decide,by decide⟩
theorem ozT_B:opB ozT.v=true:=by kernel_rfl
theorem stF_tick (S:Sg):stF S ozT.v=tickG bsF chF unF S:=by
 unfold stF stepG
 rw [if_pos ozT_B]
 unfold opG
 rw [if_neg (by decide),if_neg (by decide),if_neg (by decide),if_neg (by decide),if_neg (by decide),if_neg (by decide),if_neg (by decide),if_neg (by decide)]
theorem tick_err (S:Sg):(tickG bsF chF unF S).2.1=0 ∨ (tickG bsF chF unF S).2.1=6:=by
 unfold tickG
 split
 ·exact .inr rfl
 ·exact .inl rfl
end
section
open Go.RowKit

theorem insS_none (A:Option Addr) (c:Nat) (w:World):Calls Tryz.prog 145 #[.slice A 0 c,.int .i64 0,.int .i64 0] w fun e w'=>e = .returned (.tuple #[])/\w=w':=by
 go_enter Tryz.func145,Tryz.ntmps145
 go_wp2
 refine wp_loop_rounds 1 ?_
 rw [rounds_succ]
 go_wp2
 go_end0
 exact ⟨rfl,rfl⟩

theorem pdqS_none (A:Option Addr) (c:Nat) (n:Int) (w:World):Calls Tryz.prog 113 #[.slice A 0 c,.int .i64 0,.int .i64 0,.int .i64 n] w fun e w'=>e = .returned (.tuple #[])/\w=w':=by
 go_enter Tryz.func113,Tryz.ntmps113
 go_wp2
 refine wp_loop_rounds 1 ?_
 rw [rounds_succ]
 go_wp2_with (go_at_call 145;refine (insS_none _ _ _).mono ?_;rintro e w' ⟨rfl,rfl⟩)
 (try simp only [Exit.inBlock,Exit.then]);refine bodyPost_ret (results_none rfl _ _ _) rfl ?_
 exact ⟨rfl,rfl⟩

theorem len64_none (w:World):Calls Tryz.prog 155 #[.int .u64 0] w fun e w'=>(∃ q,e = .returned (.int .i64 q))/\w=w':=by
 go_enter Tryz.func155,Tryz.ntmps155
 go_wp2
 all_goals first
  | (go_ret;exact ⟨⟨_,rfl⟩,rfl⟩)
  | (exfalso;have hs:=Lib.len8tab_size;omega)

theorem len_none (w:World):Calls Tryz.prog 114 #[.int .u64 0] w fun e w'=>(∃ q,e = .returned (.int .i64 q))/\w=w':=by
 have K:=Lib.hid (fun W=>len64_none W)
 go_enter Tryz.func114,Tryz.ntmps114
 go_wp2_with fail
 refine (K.out _).mono ?_;rintro e w' ⟨⟨q,rfl⟩,rfl⟩
 go_wp2_with fail
 go_ret
 exact ⟨⟨_,rfl⟩,rfl⟩

theorem sortS_none (A:Option Addr) (c:Nat) (w:World):Calls Tryz.prog 67 #[.slice A 0 c] w fun e w'=>e = .returned (.tuple #[])/\w=w':=by
 have hl:=len_none
 go_enter Tryz.func67,Tryz.ntmps67
 go_wp2_with (first | (go_at_call 114;refine (hl _).mono ?_;rintro e w' ⟨⟨q,rfl⟩,rfl⟩) | (go_at_call 113;refine (pdqS_none _ _ _ _).mono ?_;rintro e w' ⟨rfl,rfl⟩))
 go_end0
 exact ⟨rfl,rfl⟩


theorem all_none (A0:Option Addr) (N c0:Nat) (L:List Ml) (A:Option Addr) (n cap:Nat) (l:List Jb) (t:Kt) (tl:List Lb) (w:World) (hN:Hid (N=L.length)) (hNl:N<=1000000) (hL:Hid (RdM w A0 (mcs L))) (hLo:Hid (MsOk w L)) (hn:Hid (n=l.length)) (hl:n<=1000000) (hA:Hid (RdJ w A l)) (hT:Hid (KtOk w t tl)) (hW:Hid (∀ y ∈ L,why y.1 y.2 t tl l ≠ 0)) :
  Calls Tryz.prog 28 #[.slice A0 N c0,.slice A n cap,.agg t.arr] w fun e w'=>e = .returned (.slice none 0 0)/\Below w.heap.size w w':=by
 have KS:=Lib.hid (fun W=>sortS_none none 0 W)
 go_enter Tryz.func28,Tryz.ntmps28
 have HT0:=Lib.hid (show Bk (w.alloc (.cells t.arr 47)) w.heap.size 47 t.arr from Bk.fresh _ _ _)
 have hB0:Below w.heap.size w (w.alloc (.cells t.arr 47)):=(Below.refl _ _).alloc (Nat.le_refl _) _
 go_wp2_with fail
 go_loopw [7,12] (fun v i wr=>∃ k:Nat,k<=N/\v = .slice none 0 0/\i = .int .i64 k/\Hid (Bk wr w.heap.size 47 t.arr)/\Below w.heap.size w wr) (fun _ i wr=>N - (intOf i).toNat)
 case atStart=>exact ⟨0,Nat.zero_le _,rfl,rfl,HT0,hB0⟩
 case round=>
  clear HT0 hB0
  obtain ⟨k,hk,rfl,rfl,HTb,hb⟩:=hrel
  have lt0:w.heap.size<wr.heap.size:=HTb.out.here
  by_cases hlt:k<N
  ·have hlk:k<L.length:=by have:=hN.out;omega
   obtain ⟨g,o,rfl,hg,hm⟩:=(hL.out.later hb).at (i:=k) (by simpa [mcs] using hlk)
   rw [mcs_at hlk] at hm
   obtain ⟨x,hx⟩:∃ x,x=L[k]:=⟨_,rfl⟩
   rw [<- hx] at hm
   have HMt:=Lib.hid hm;clear hm
   have hxo:McOk w x.1 x.2:=by rw [hx];exact hLo.out.at hlk
   obtain ⟨r,hr⟩:∃ r,why x.1 x.2 t tl l=r:=⟨_,rfl⟩
   have hr0:r ≠ 0:=by rw [<- hr,hx];exact hW.out _ (List.getElem_mem hlk)
   have hr1:((r:Int) == 0)=false:=by simpa using hr0
   have ks:=fun (W:World) (h1:RdJ W A l) (h2:McOk W x.1 x.2) (h3:KtOk W t tl)=>why_any x.1 x.2 A n cap l t tl W hn hl (Lib.hid h1) (Lib.hid h2) (Lib.hid h3) r (Lib.hid hr)
   have KY:=Lib.hid ks;have HXo:=Lib.hid hxo;clear ks hx hr hxo hr0
   go_wp2_with (first | (with_reducible refine load_rg rfl 60 _ rfl g (o+k * 7) rfl x.1.arr _ HMt.out.rg Tryz.underlying60 rfl (by kernel_rfl) ?_) | ((with_reducible refine store_bk rfl 60 (.tmp 9) (.tmp 15) rfl wr.heap.size 0 x.1.arr rfl rfl 60 _ x.1.arr (Bk.fresh _ _ _) (by kernel_rfl) (by simp) (by kernel_rfl) rfl ?_);intro w1 hB1 hg1 hs1;have HX:=Lib.hid hB1;clear hB1;have HT1:=Lib.hid ((HTb.out.later ((Below.refl _ _).alloc (Nat.le_refl _) _)).stays hg1 (by simp;omega));have hb1:Below w.heap.size w w1:=hb.trans ((grown_below ((Below.refl _ _).alloc (Nat.le_refl _) _) hg1 (Nat.le_refl _)).mono hb.size)) | (with_reducible refine load_bk rfl 60 _ rfl wr.heap.size 0 rfl 60 x.1.arr x.1.arr _ HX.out (Part.whole _) Tryz.underlying60 rfl (by kernel_rfl) ?_) | (with_reducible refine load_bk rfl 47 _ rfl w.heap.size 0 rfl 47 t.arr t.arr _ HT1.out (Part.whole _) Tryz.underlying47 rfl (by kernel_rfl) ?_))
   refine (KY.out _ (hA.out.later hb1) (HXo.out.later hb1) (hT.out.later hb1)).mono ?_;rintro v w2 ⟨rfl,hb2⟩
   have HT2:=Lib.hid (HT1.out.later hb2)
   have hB2:Below w.heap.size w w2:=hb1.trans (hb2.mono hb1.size)
   clear HT1 HX hb1 hb2 hg1 hs1
   go_wp2_with fail
   go_round
   case rel=>exact ⟨k+1,by omega,rfl,by go_num,HT2,hB2⟩
   case measure=>simp [intOf];omega
  ·have hk':k=N:=by omega
   subst hk'
   go_wp2_with fail
   refine (KS.out _).mono ?_;rintro e w2 ⟨rfl,rfl⟩
   go_wp2_with fail
   go_ret
   exact ⟨rfl,hb⟩
end
end Go.Proofs.YtccccbofcnmdiaaGreat
