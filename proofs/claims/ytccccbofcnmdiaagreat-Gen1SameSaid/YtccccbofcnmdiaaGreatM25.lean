/- Lemmas that the law stands on. No condition. -/
import Derived.Test.YtccccbofcnmdiaaGreatM24
namespace Go.Proofs.YtccccbofcnmdiaaGreat
set_option linter.unusedSimpArgs false
set_option linter.unusedVariables false
set_option maxRecDepth 100000
set_option maxHeartbeats 51200000
section
open Go.RowKit
def NdM (M:List Ml):Prop:=(M.map fun x=>x.1.nm).Nodup
theorem NdM.one {M:List Ml}(h:NdM M){x y:Ml}(hx:x ∈ M)(hy:y ∈ M)(e:x.1.nm=y.1.nm):x=y:=by
 obtain ⟨i,hi,ei⟩:=List.getElem_of_mem hx
 obtain ⟨j,hj,ej⟩:=List.getElem_of_mem hy
 have h1:(M.map fun x=>x.1.nm)[i]'(by simpa using hi)=(M.map fun x=>x.1.nm)[j]'(by simpa using hj):=by
  rw [List.getElem_map,List.getElem_map,ei,ej];exact e
 have:i=j:=by
  rcases Nat.lt_trichotomy i j with c | c | c
  ·exact absurd h1 (List.pairwise_iff_getElem.1 h i j (by simpa using hi) (by simpa using hj) c)
  ·exact c
  ·exact absurd h1.symm (List.pairwise_iff_getElem.1 h j i (by simpa using hj) (by simpa using hi) c)
 subst this
 rw [<- ei,<- ej]
section
variable {M:List Ml}{Q:List Qx}{nx:Int}{J:List Jl}{p:Nat}
theorem name_one (h:NdJ J){i j:Nat}(hi:i<J.length)(hj:j<J.length)(e:J[i].1.nm=J[j].1.nm):i=j:=by
 have h1:(J.map fun x=>x.1.nm)[i]'(by simpa using hi)=(J.map fun x=>x.1.nm)[j]'(by simpa using hj):=by
  rw [List.getElem_map,List.getElem_map];exact e
 rcases Nat.lt_trichotomy i j with c | c | c
 ·exact absurd h1 (List.pairwise_iff_getElem.1 h i j (by simpa using hi) (by simpa using hj) c)
 ·exact c
 ·exact absurd h1.symm (List.pairwise_iff_getElem.1 h j i (by simpa using hj) (by simpa using hi) c)
theorem RgJ.bind (h:RgJ M Q nx J)(hM:NeM M)(hN:NdM M)(hp:p<J.length)(hw:J[p].1.nd.size=0){y:Ml}(hy:y ∈ M)(hu:y.1.up=true)
  (hf:onF (·.a) (atM y.1.nm) J+J[p].1.a<=y.1.a/\onF (·.b) (atM y.1.nm) J+J[p].1.b<=y.1.b/\onF (·.c) (atM y.1.nm) J+J[p].1.c<=y.1.c)(hl:hasB y.2 J[p].2=true)
  (ha:J[p].1.ap.size ≠ 0 -> ∀ j (hj:j<J.length),j ≠ p->J[j].1.nd=y.1.nm->J[j].1.ap ≠ J[p].1.ap):RgJ M Q nx (bindJ y.1.nm p J):=by
 unfold bindJ
 rw [jl_at hp]
 have hs:=hM y hy
 have hb:=(h.tk _ (List.getElem_mem hp)).2.2.2
 have z:∀ f:Jb->Int,tm f (atM y.1.nm) J[p]=0:=fun f=>by
  unfold tm
  have:atM y.1.nm J[p].1=false:=by
   cases hh:sE J[p].1.nd y.1.nm with
   | false=>exact hh
   | true=>exact absurd (by rw [<- sE_iff.1 hh];exact hw) hs
  rw [this];rfl
 refine h.turn hp rfl (show 0<=J[p].1.bo+1 by omega) (fun _=>⟨show 1<=J[p].1.bo+1 by omega,y,hy,rfl,hu⟩) (fun m hm e=>?_) fun j hj hne h1 h2 h3 e=>?_
 ·have em:m=y:=hN.one hm hy e
  subst em
  rw [z,z,z]
  obtain ⟨f1,f2,f3⟩:=hf
  exact ⟨⟨show _ - 0+J[p].1.a<=_ by omega,show _ - 0+J[p].1.b<=_ by omega,show _ - 0+J[p].1.c<=_ by omega⟩,hl⟩
 ·exact ha h3 j hj hne h2.symm e.symm
theorem tm_size (x:Jl)(s:ByteArray)(h:x.1.nd.size=0)(hs:s.size ≠ 0):atM s x.1=false:=by
 cases hh:sE x.1.nd s with
 | false=>exact hh
 | true=>exact absurd (by rw [<- sE_iff.1 hh];exact h) hs
theorem free_is {m:Mc}{l:List Jb}(he:(freM m l).2.2.2=0):(freM m l).1=m.a - s1 (onM m.nm l)/\(freM m l).2.1=m.b - s2 (onM m.nm l)/\(freM m l).2.2.1=m.c - s3 (onM m.nm l):=by
 obtain ⟨x,y,z,v,hsm⟩:∃ x y z v,sm 0 0 0 (onM m.nm l)=(x,y,z,v):=⟨_,_,_,_,rfl⟩
 unfold freM at he ⊢
 rw [hsm] at he ⊢
 simp only at he ⊢
 by_cases hv:v=0
 ·subst hv
  rw [fre_0] at he ⊢
  simp only at he ⊢
  obtain ⟨a1,a2,a3⟩:=sb_is he
  rw [(sb_mk a1 a2 a3).2]
  simp only [kp_t]
  obtain ⟨b1,b2,b3,b4⟩:=sm_zero hsm
  exact ⟨by omega,by omega,by omega⟩
 ·rw [fre_v hv] at he;exact absurd he hv
theorem fB_to {a b c d e f:Int}(h:fB a b c d e f=true):a<=d/\b<=e/\c<=f:=of_decide_eq_true h
theorem rep_to {s ap nm:ByteArray}{l:List Jb}(h:rep s ap nm l=false)(ha:ap.size ≠ 0):∀ j ∈ l,j.nd=s->j.ap=ap->j.nm=nm:=by
 intro j hj h1 h2
 rw [rep_full ha,List.any_eq_false] at h
 have h3:=h j hj
 unfold both at h3
 rw [h1,h2,sE_refl,sE_refl] at h3
 cases hc:sE j.nm nm with
 | true=>exact sE_iff.1 hc
 | false=>rw [hc] at h3;exact absurd rfl h3
theorem RgJ.best (h:RgJ M Q nx J)(hM:NeM M)(hN:NdM M)(hp:p<J.length)(hw:J[p].1.nd.size=0){y:Ml}(hy:y ∈ M)(hz:why y.1 y.2 J[p].1.tk J[p].2 (jbs J)=0):RgJ M Q nx (bindJ y.1.nm p J):=by
 unfold why at hz
 rw [whyT_zero] at hz
 obtain ⟨he,_,_,hU,hH,hR,hF⟩:=hz
 obtain ⟨f1,f2,f3⟩:=free_is he
 obtain ⟨g1,g2,g3⟩:=fB_to hF
 obtain ⟨o1,o2,o3⟩:=s_onM y.1.nm J
 rw [f1,o1] at g1;rw [f2,o2] at g2;rw [f3,o3] at g3
 refine h.bind hM hN hp hw hy hU ⟨?_,?_,?_⟩ hH fun ha j hj hne hnd e=>?_
 ·have:J[p].1.a<=y.1.a - onF (·.a) (atM y.1.nm) J:=g1
  omega
 ·have:J[p].1.b<=y.1.b - onF (·.b) (atM y.1.nm) J:=g2
  omega
 ·have:J[p].1.c<=y.1.c - onF (·.c) (atM y.1.nm) J:=g3
  omega
 ·have hm:J[j].1 ∈ jbs J:=List.mem_map_of_mem (f:=Prod.fst) (List.getElem_mem hj)
  exact hne (name_one h.nd hj hp (rep_to hR ha _ hm hnd e))
theorem bsF_yes {p:Nat}(h:(bsF M J p).2=true):∃ y ∈ M,y.1.nm=(bsF M J p).1/\why y.1 y.2 (jl J p).1.tk (jl J p).2 (jbs J)=0:=by
 unfold bsF at h ⊢
 cases hs:srt (jl J p).1.tk (jl J p).2 (jbs J) M with
 | nil=>rw [hs] at h;cases h
 | cons x E=>
  have hx:x ∈ able (jl J p).1.tk (jl J p).2 (jbs J) M:=(srt_perm (t:=(jl J p).1.tk) (tl:=(jl J p).2) (l:=jbs J) (L:=M)).subset (by rw [hs];simp)
  unfold able at hx
  obtain ⟨y,hy,e⟩:=List.mem_filterMap.1 hx
  unfold entry sco at e
  by_cases hw:why y.1 y.2 (jl J p).1.tk (jl J p).2 (jbs J)=0
  ·rw [if_pos hw] at e
   injection e with e
   exact ⟨y,hy,by show _=x.1;rw [<- e],hw⟩
  ·rw [if_neg hw] at e;cases e
theorem tryK_rg {u:List Nat}(h:RgJ M Q nx J)(hM:NeM M)(hN:NdM M)(hu:u.Nodup)(hw:∀ q ∈ u,q<J.length/\wB (jl J q).1.nd=true) :
  ∀ k,k<=u.length -> ∀ r,tryK bsF M J u k=some r->RgJ M Q nx r.1
 | 0,_,r,hr=>by injection hr with hr;subst hr;exact h
 | k+1,hk,r',hr'=>by
  have hk':k<u.length:=by omega
  have eu:u.getD k 0=u[k]:=by simp [List.getD,List.getElem?_eq_getElem hk']
  obtain ⟨r,hr,hb,rfl⟩:=tryK_succ hr'
  have ih:=tryK_rg h hM hN hu hw k (by omega) r hr
  obtain ⟨_,hl,h3⟩:=tryK_leads bestK hM hu hw k (by omega) r hr
  rw [eu] at hb ⊢
  have hnt:u[k] ∉ u.take k:=fun hm=>by
   obtain ⟨i,hi,e⟩:=List.getElem_of_mem hm
   rw [List.length_take] at hi
   rw [List.getElem_take] at e
   exact List.pairwise_iff_getElem.1 hu i k (by omega) hk' (by omega) e
  obtain ⟨q1,q2⟩:=hw _ (List.getElem_mem hk')
  have hq:u[k]<r.1.length:=by omega
  have e3:=h3 _ hnt
  obtain ⟨y,hy,hyn,hz⟩:=bsF_yes hb
  rw [jl_at hq] at hz
  show RgJ M Q nx (bindJ (bsF M r.1 u[k]).1 u[k] r.1)
  rw [<- hyn]
  exact ih.best hM hN hq (by rw [<- jl_at hq,e3];exact of_decide_eq_true q2) hy hz
theorem evK_rg {G:List Nat}(h:RgJ M Q nx J)(hM:NeM M)(hG:G.Nodup)(hb:∀ i ∈ G,i<J.length/\wB (jl J i).1.nd=false) :
  ∀ k,k<=G.length->RgJ M Q nx (evK J (namesAt (jbs J) G) k).1 /\ ∀ i ∈ G.take k,jl (evK J (namesAt (jbs J) G) k).1 i=restX (jl J i)
 | 0,_=>⟨h,fun i hi=>by simp at hi⟩
 | k+1,hk=>by
  have hk':k<G.length:=by omega
  obtain ⟨h1,h4⟩:=evK_rg h hM hG hb k (by omega)
  obtain ⟨_,h2,h3⟩:=evK_leads h.nd hG hb k (by omega)
  have hkn:k<(namesAt (jbs J) G).length:=by rw [namesAt_len];exact hk'
  rw [evK_succ hkn]
  obtain ⟨T,hT⟩:∃ T,T=evK J (namesAt (jbs J) G) k:=⟨_,rfl⟩
  rw [<- hT] at h1 h2 h3 h4 ⊢
  obtain ⟨b1,b2⟩:=hb G[k] (List.getElem_mem hk')
  have hl:T.1.length=J.length:=by simpa using congrArg List.length h2
  have hnt:G[k] ∉ G.take k:=fun hm=>by
   obtain ⟨i,hi,e⟩:=List.getElem_of_mem hm
   rw [List.length_take] at hi
   rw [List.getElem_take] at e
   exact List.pairwise_iff_getElem.1 hG i k (by omega) hk' (by omega) e
  have e3:=h3 _ hnt
  have hp:G[k]<T.1.length:=by omega
  have hnT:NdJ T.1:=by unfold NdJ;rw [h2];exact h.nd
  have es:(namesAt (jbs J) G)[k]=T.1[G[k]].1.nm:=by
   have e4:T.1[G[k]]=J[G[k]]:=by rw [<- jl_at hp,e3,jl_at b1]
   rw [e4]
   have:(namesAt (jbs J) G)[k]=(jat (jbs J) G[k]).nm:=by simp [namesAt]
   rw [this,jat_jbs b1]
  have epl:plJ (namesAt (jbs J) G)[k] T.1=(G[k]:Int):=plJ_is hnT hp es.symm
  unfold outS
  rw [epl,Int.toNat_natCast]
  refine ⟨?_,fun i hi=>?_⟩
  ·show RgJ M Q nx (T.1.set G[k] (restX (jl T.1 G[k])))
   rw [jl_at hp];exact h1.rest hM hp
  ·show jl (T.1.set G[k] (restX (jl T.1 G[k]))) i=_
   rw [List.take_succ_eq_append_getElem hk',List.mem_append,List.mem_singleton] at hi
   by_cases e:i=G[k]
   ·rw [e,jl_at (by rw [List.length_set];exact hp),List.getElem_set_self,e3]
   ·have hm:=hi.resolve_right e
    rw [<- h4 i hm]
    simp [jl,List.getD,List.getElem?_set_ne (Ne.symm e)]
theorem onM_range (s:ByteArray)(l:List Nat)(f:Nat->Jb):onM s (l.map f)=(l.filter fun i=>sE (f i).nd s).map fun i=>(f i).need:=by
 unfold onM
 rw [List.filter_map,List.map_map];rfl
theorem jbs_range (J:List Jl):jbs J=(List.range J.length).map fun i=>(jl J i).1:=by
 apply List.ext_getElem
 ·simp
 ·intro i h1 h2
  have hi:i<J.length:=by simpa using h1
  rw [List.getElem_map,List.getElem_map,List.getElem_range,jl_at hi]
theorem onM_out {G:List Nat}{T:List Jl}{s:ByteArray}(hs:s.size ≠ 0)(hl:T.length=J.length)(h1:∀ i ∈ G,jl T i=restX (jl J i))(h2:∀ i,i ∉ G->jl T i=jl J i):onM s (jbs T)=onM s (outJ G (jbs J) (jbs J).length):=by
 unfold outJ
 rw [jbs_range T,onM_range,onM_range,hl,List.filter_filter,jbs_length]
 have e:(List.range J.length).filter (fun i=>sE (jl T i).1.nd s)=(List.range J.length).filter (fun i=>sE (jat (jbs J) i).nd s && !G.contains i):=by
  refine List.filter_congr fun i hi=>?_
  have hi':i<J.length:=List.mem_range.1 hi
  rw [jat_jbs hi',<- jl_at hi']
  by_cases hG:i ∈ G
  ·rw [h1 i hG,List.contains_iff_mem.2 hG]
   rw [show sE (restX (jl J i)).1.nd s=false from tm_size (restX (jl J i)) s rfl hs];simp
  ·rw [h2 i hG,show G.contains i=false by simpa using hG];simp
 rw [e]
 refine List.map_congr_left fun i hi=>?_
 rw [List.mem_filter,Bool.and_eq_true] at hi
 have hi':i<J.length:=List.mem_range.1 hi.1
 rw [jat_jbs hi',<- jl_at hi',h2 i (fun hm=>by have:=hi.2.2;rw [List.contains_iff_mem.2 hm] at this;cases this)]
theorem whyT_four {e:Int}{N K U H R F:Bool}:whyT e N K U H R F=4 ↔ e=0/\N=true/\K=true/\U=true/\H=true/\R=false/\F=false:=by
 unfold whyT
 cases N <;> cases K <;> cases U <;> cases H <;> cases R <;> cases F <;> by_cases he:e=0 <;> simp [he]
theorem preG_rg (h:RgJ M Q nx J)(hM:NeM M)(hN:NdM M)(hp:p<J.length)(hw:wB (jl J p).1.nd=true):RgJ M Q nx (preG chF M J p).1:=by
 have hw0:J[p].1.nd.size=0:=by rw [jl_at hp] at hw;exact of_decide_eq_true hw
 unfold preG
 cases hc:choF M J p with
 | none=>
  have:(chF M J p).2.2=false:=by unfold chF;rw [hc];rfl
  rw [if_neg (by rw [this];simp)];exact h
 | some x=>
  have hy:(chF M J p).2.2=true:=by unfold chF;rw [hc];rfl
  rw [if_pos hy]
  obtain ⟨⟨G,g1,-,-,g4⟩,-⟩:=cho_is hc
  rw [plansOf_at g4] at g1
  have hnm:(chF M J p).1=M[x.1].1.nm:=by
   unfold chF;rw [hc]
   show nmAt M x.1=_
   unfold nmAt;simp [List.getD,g4]
  have hns:(chF M J p).2.1=namesAt (jbs J) G:=by
   unfold chF;rw [hc]
   show namesAt _ ((plansOf _ _ _ _ x.1).getD [])=_
   rw [plansOf_at g4,g1];rfl
  have hym:M[x.1] ∈ M:=List.getElem_mem g4
  rw [hnm,hns,namesAt_len]
  show RgJ M Q nx (bindJ M[x.1].1.nm p (evK J (namesAt (jbs J) G) G.length).1)
  rw [jl_at hp] at g1
  have gw:G.Nodup /\ ∀ i ∈ G,i<J.length/\wB (jl J i).1.nd=false:=by
   refine ⟨?_,fun i hi=>?_⟩
   ·rcases places_is g1 with ⟨_,rfl⟩ | ⟨k,_,_,_,rfl,_⟩
    ·exact List.nodup_nil
    ·exact (weak_nodup _).sublist (List.take_sublist _ _)
   ·obtain ⟨a,b,_⟩:=plan_each g1 i hi
    have ai:i<J.length:=by simpa [jbs] using a
    rw [jat_jbs ai] at b
    refine ⟨ai,?_⟩
    rw [jl_at ai,b]
    exact decide_eq_false (hM _ hym)
  obtain ⟨r1,r4⟩:=evK_rg h hM gw.1 gw.2 G.length (Nat.le_refl _)
  obtain ⟨_,r2,r3⟩:=evK_leads h.nd gw.1 gw.2 G.length (Nat.le_refl _)
  rw [List.take_length] at r3 r4
  obtain ⟨T,hT⟩:∃ T,T=(evK J (namesAt (jbs J) G) G.length).1:=⟨_,rfl⟩
  rw [<- hT] at r1 r2 r3 r4 ⊢
  have hl:T.length=J.length:=by simpa using congrArg List.length r2
  have hpT:p<T.length:=by omega
  have hpG:p ∉ G:=fun hm=>by have:=(gw.2 p hm).2;rw [hw] at this;cases this
  have eT:T[p]=J[p]:=by rw [<- jl_at hpT,r3 p hpG,jl_at hp]
  have ho:=onM_out (s:=M[x.1].1.nm) (hM _ hym) hl r4 r3
  -- what is there
  have key:M[x.1].1.up=true/\hasB M[x.1].2 J[p].2=true/\rep M[x.1].1.nm J[p].1.ap J[p].1.nm (jbs J)=false/\(freM M[x.1].1 (outJ G (jbs J) (jbs J).length)).2.2.2=0 /\
    fB J[p].1.a J[p].1.b J[p].1.c (freM M[x.1].1 (outJ G (jbs J) (jbs J).length)).1 (freM M[x.1].1 (outJ G (jbs J) (jbs J).length)).2.1 (freM M[x.1].1 (outJ G (jbs J) (jbs J).length)).2.2.1=true:=by
   unfold places at g1
   split at g1
   ·rename_i hz
    injection g1 with g1
    subst g1
    have e0:outJ [] (jbs J) (jbs J).length=jbs J:=by
     unfold outJ
     rw [List.filter_eq_self.2 (fun a _=>by simp)]
     apply List.ext_getElem
     ·simp
     ·intro i h1 h2
      have hi:i<J.length:=by simpa [jbs] using h2
      rw [List.getElem_map,List.getElem_range,jat_jbs hi,List.getElem_map]
    unfold why at hz
    rw [whyT_zero] at hz
    obtain ⟨he,_,_,hU,hH,hR,hF⟩:=hz
    rw [e0]
    exact ⟨hU,hH,hR,he,hF⟩
   ·split at g1
    ·rename_i h4
     rw [Option.map_eq_some_iff] at g1
     obtain ⟨k,hk,rfl⟩:=g1
     have hok:=(fewest_le hk).2.2
     unfold okK at hok
     rw [Bool.and_eq_true] at hok
     unfold why at h4
     rw [whyT_four] at h4
     obtain ⟨_,_,_,hU,hH,hR,_⟩:=h4
     exact ⟨hU,hH,hR,of_decide_eq_true hok.1,hok.2⟩
    ·cases g1
  obtain ⟨hU,hH,hR,he,hF⟩:=key
  obtain ⟨f1,f2,f3⟩:=free_is he
  obtain ⟨b1,b2,b3⟩:=fB_to hF
  obtain ⟨o1,o2,o3⟩:=s_onM M[x.1].1.nm T
  rw [ho] at o1 o2 o3
  rw [f1,o1] at b1;rw [f2,o2] at b2;rw [f3,o3] at b3
  refine r1.bind hM hN hpT (by rw [eT];exact hw0) hym hU ⟨by rw [eT];omega,by rw [eT];omega,by rw [eT];omega⟩ (by rw [eT];exact hH) fun ha j hj hne hnd e=>?_
  have hjJ:j<J.length:=by omega
  have hjG:j ∉ G:=fun hm=>by
   have h5:=r4 j hm
   rw [jl_at hj] at h5
   rw [h5] at hnd
   exact hM _ hym (by rw [<- hnd];rfl)
  have eJ:T[j]=J[j]:=by rw [<- jl_at hj,r3 j hjG,jl_at hjJ]
  rw [eT,eJ] at e
  rw [eT] at ha
  rw [eJ] at hnd
  have hm:J[j].1 ∈ jbs J:=List.mem_map_of_mem (f:=Prod.fst) (List.getElem_mem hjJ)
  exact hne (name_one h.nd hjJ hp (rep_to hR ha _ hm hnd e))
theorem unitG_rg {X:List Jl × List Ac}{u:List Nat}(h:RgJ M Q nx X.1)(hM:NeM M)(hN:NdM M)(h0:0<u.length)(hu:u.Nodup)(hw:∀ q ∈ u,q<X.1.length/\wB (jl X.1 q).1.nd=true):RgJ M Q nx (unitG bsF chF M X u).1:=by
 cases hr:tryK bsF M X.1 u u.length with
 | some r=>rw [unitG_some hr];exact tryK_rg h hM hN hu hw _ (Nat.le_refl _) r hr
 | none=>
  rw [unitG_none hr]
  have e0:u.getD 0 0=u[0]:=by simp [List.getD,List.getElem?_eq_getElem h0]
  rw [e0]
  split
  ·obtain ⟨a,b⟩:=hw _ (List.getElem_mem h0)
   exact preG_rg h hM hN a b
  ·exact h
theorem passK_rg (h:RgJ M Q nx J)(hM:NeM M)(hN:NdM M):∀ k,k<=(unF J).length->RgJ M Q nx (passK bsF chF M J (unF J) k).1
 | 0,_=>h
 | k+1,hk=>by
  have hk':k<(unF J).length:=by omega
  have hm:=List.getElem_mem hk'
  have hwU:∀ u ∈ unF J,∀ q ∈ u,q<J.length/\wB (jl J q).1.nd=true:=fun u hu q hq=>⟨uniK.lt J u hu q hq,(fitU J).2 u hu q hq⟩
  rw [passK_succ hk']
  refine unitG_rg (passK_rg h hM hN k (by omega)) hM hN (uniK.ne J _ hm) ((List.pairwise_flatten.1 (fitU J).1).1 _ hm) fun q hq=>?_
  obtain ⟨a,b⟩:=passK_wait bestK choK fitC hM h.nd (fitU J).1 (uniK.ne J) hwU hk' q hq
  exact ⟨a,by rw [b];exact (hwU _ hm q hq).2⟩
end
end
section
open Go.RowKit
structure Rg (S:Sg):Prop where
 mN:∀ x ∈ S.M,x.1.ok x.2=true/\0<=x.1.un/\x.1.un<=1073741828
 qN:∀ q ∈ S.Q,queueB q.1 q.2.1 q.2.2.1 q.2.2.2=true
 j:RgJ S.M S.Q S.nx S.J
theorem ok_name {m:Mc}{l:List Lb}(h:m.ok l=true):m.nm.size ≠ 0/\rB m.a m.b m.c=true:=by
 unfold Mc.ok nodeB at h
 simp only [Bool.and_eq_true] at h
 exact ⟨name_ne h.1.1,h.1.2⟩
theorem que_name {nm:ByteArray}{a b c:Int}(h:queueB nm a b c=true):nm.size ≠ 0/\rB a b c=true:=by
 unfold queueB at h
 simp only [Bool.and_eq_true] at h
 exact ⟨name_ne h.1,h.2⟩
theorem rB_ge {a b c:Int}(h:rB a b c=true):0<=a/\0<=b/\0<=c:=by have:=rB_to h;omega
theorem Rg.neM {S:Sg}(h:Rg S):NeM S.M:=fun x hx=>(ok_name (h.mN x hx).1).1
theorem nodup_of {K:List ByteArray}(h:AscK K):K.Nodup:=by
 refine List.pairwise_iff_getElem.2 fun i j hi hj hij e=>?_
 have:=h i j hi hj hij
 rw [e,sL_irrefl] at this;cases this
theorem hasM_iff {s:ByteArray}{M:List Ml}:hasK s (keyM M)=true ↔ ∃ y ∈ M,y.1.nm=s:=by
 unfold hasK
 rw [List.any_eq_true]
 constructor
 ·rintro ⟨x,hx,he⟩
  obtain ⟨y,hy,rfl⟩:=List.mem_map.1 hx
  exact ⟨y,hy,sE_iff.1 he⟩
 ·rintro ⟨y,hy,rfl⟩
  exact ⟨_,List.mem_map_of_mem (f:=fun q:Ml=>q.1.nm) hy,sE_refl _⟩
theorem hasQ_iff {s:ByteArray}{Q:List Qx}:hasK s (keyQ Q)=true ↔ ∃ q ∈ Q,q.1=s:=by
 unfold hasK
 rw [List.any_eq_true]
 constructor
 ·rintro ⟨x,hx,he⟩
  obtain ⟨y,hy,rfl⟩:=List.mem_map.1 hx
  exact ⟨y,hy,sE_iff.1 he⟩
 ·rintro ⟨y,hy,rfl⟩
  exact ⟨_,List.mem_map_of_mem (f:=fun q:Qx=>q.1) hy,sE_refl _⟩
theorem atM_key {s:ByteArray}{M:List Ml}(hA:AscK (keyM M))(h:hasK s (keyM M)=true):∃ hl:lbK s (keyM M)<M.length,M[lbK s (keyM M)].1.nm=s:=by
 have h1:=hasK_lt h
 have h2:=hasK_at hA h1
 rw [h] at h2
 refine ⟨by simpa using h1,?_⟩
 have h3:=sE_iff.1 h2.symm
 rwa [List.getElem_map] at h3
theorem atQ_key {s:ByteArray}{Q:List Qx}(hA:AscK (keyQ Q))(h:hasK s (keyQ Q)=true):∃ hl:lbK s (keyQ Q)<Q.length,Q[lbK s (keyQ Q)].1=s:=by
 have h1:=hasK_lt h
 have h2:=hasK_at hA h1
 rw [h] at h2
 refine ⟨by simpa using h1,?_⟩
 have h3:=sE_iff.1 h2.symm
 rwa [List.getElem_map] at h3
theorem mem_erase {α:Type}{l:List α}{i k:Nat}(hk:k<l.length)(h:k ≠ i):l[k] ∈ l.eraseIdx i:=by
 rw [List.mem_eraseIdx_iff_getElem]
 exact ⟨k,hk,h,rfl⟩
theorem mem_ins {α:Type}{l:List α}{i:Nat}{x y:α}:y ∈ l.take i ++ x :: l.drop i ↔ y=x ∨ y ∈ l:=by
 rw [List.mem_append,List.mem_cons]
 constructor
 ·rintro (h | h | h)
  ·exact .inr (List.mem_of_mem_take h)
  ·exact .inl h
  ·exact .inr (List.mem_of_mem_drop h)
 ·rintro (h | h)
  ·exact .inr (.inl h)
  ·have:=h
   rw [<- List.take_append_drop i l,List.mem_append] at this
   rcases this with h | h
   ·exact .inl h
   ·exact .inr (.inr h)
section
variable {m:Int}{S:Sg}
theorem Rg.new:Rg Sg.new:=⟨fun x hx=>(by cases hx),fun x hx=>(by cases hx),⟨List.Pairwise.nil,fun x hx=>(by cases hx),List.nodup_nil,fun x hx=>(by cases hx),fun x hx=>(by cases hx),fun x hx=>(by cases hx),fun x hx=>(by cases hx),List.Pairwise.nil⟩⟩
theorem Rg.addN (h:Rg S)(hI:In2 m S){nm:ByteArray}{a b c:Int}{l:List Lb}(hv:nodeB nm a b c l=true):Rg (addN S nm a b c l).1:=by
 unfold Go.Proofs.YtccccbofcnmdiaaGreat.addN
 split
 ·exact h
 ·rename_i hh
  split
  ·exact h
  ·have hn:=ok_name (m:=(newM S.ck nm a b c none 0 0 l).1) (l:=l) hv
   have hck:=hI.ck
   have hno:∀ y ∈ S.M,y.1.nm ≠ nm:=fun y hy e=>hh (hasM_iff.2 ⟨y,hy,e⟩)
   refine ⟨fun x hx=>?_,h.qN,h.j.mach (fun x _ _ y hy e1 e2=>⟨y,mem_ins.2 (.inr hy),e1,e2⟩) fun y' hy'=>?_⟩
   ·rcases mem_ins.1 hx with rfl | e
    ·exact ⟨hv,show 0<=S.ck+4 by omega,show S.ck+4<=1073741828 by omega⟩
    ·exact h.mN x e
   ·rcases mem_ins.1 hy' with rfl | e
    ·refine .inr ⟨fun x hx e=>?_,rB_ge hn.2⟩
     have e':x.1.nd=nm:=e
     obtain ⟨_,y,hy,e2,_⟩:=h.j.hm x hx (by rw [e'];exact hn.1)
     exact hno y hy (e2.trans e')
    ·exact .inl ⟨y',e,rfl,rfl,rfl,rfl,rfl⟩
theorem Rg.dropN (h:Rg S)(hI:In2 m S)(s:ByteArray):Rg (dropN' S s).1:=by
 unfold dropN'
 split
 ·rename_i hh
  obtain ⟨hl,hs⟩:=atM_key hI.aM hh
  have hs0:s.size ≠ 0:=by rw [<- hs];exact h.neM _ (List.getElem_mem hl)
  refine ⟨fun x hx=>h.mN x (List.mem_of_mem_eraseIdx hx),h.qN,(h.j.relJ h.neM s).mach (fun x hx _ y hy e1 e2=>⟨y,?_,e1,e2⟩) fun y' hy'=>.inl ⟨y',List.mem_of_mem_eraseIdx hy',rfl,rfl,rfl,rfl,rfl⟩⟩
  obtain ⟨k,hk,rfl⟩:=List.getElem_of_mem hy
  exact mem_erase hk fun e=>by
   subst e
   exact relJ_off hs0 x hx (e1.symm.trans hs)
 ·exact h
theorem Rg.addQ (h:Rg S){q:Qx}(hv:queueB q.1 q.2.1 q.2.2.1 q.2.2.2=true):Rg (addQ S q).1:=by
 unfold Go.Proofs.YtccccbofcnmdiaaGreat.addQ
 split
 ·exact h
 ·rename_i hh
  split
  ·exact h
  ·have hn:=que_name hv
   refine ⟨h.mN,fun x hx=>?_,h.j.ques (fun x hx=>?_) fun q' hq'=>?_⟩
   ·rcases mem_ins.1 hx with rfl | e
    ·exact hv
    ·exact h.qN x e
   ·obtain ⟨y,hy,e⟩:=hasQ_iff.1 (h.j.qu x hx)
    exact hasQ_iff.2 ⟨y,mem_ins.2 (.inr hy),e⟩
   ·rcases mem_ins.1 hq' with rfl | e
    ·refine .inr ⟨fun x hx e=>hh ?_,rB_ge hn.2⟩
     rw [<- e];exact h.j.qu x hx
    ·exact .inl e
theorem Rg.dropQ (h:Rg S)(hI:In2 m S)(s:ByteArray):Rg (dropQ S s).1:=by
 unfold Go.Proofs.YtccccbofcnmdiaaGreat.dropQ
 split
 ·rename_i hh
  split
  ·exact h
  ·rename_i hj
   obtain ⟨hl,hs⟩:=atQ_key hI.aQ hh
   refine ⟨h.mN,fun x hx=>h.qN x (List.mem_of_mem_eraseIdx hx),h.j.ques (fun x hx=>?_) fun q' hq'=>.inl (List.mem_of_mem_eraseIdx hq')⟩
   obtain ⟨y,hy,e⟩:=hasQ_iff.1 (h.j.qu x hx)
   obtain ⟨k,hk,rfl⟩:=List.getElem_of_mem hy
   refine hasQ_iff.2 ⟨_,mem_erase hk fun e2=>?_,e⟩
   subst e2
   refine hj ?_
   unfold hasJ
   rw [List.any_eq_true]
   exact ⟨x,hx,sE_iff.2 (e.symm.trans hs)⟩
 ·exact h
theorem Rg.subJ (h:Rg S)(hI:In2 m S){nm qu:ByteArray}{pr a b c:Int}{ap ga:ByteArray}{sz:Int}{l:List Lb}(hv:taskB nm qu pr a b c l ap ga sz=true):Rg (subJ S nm qu pr a b c ap ga sz l).1:=by
 unfold Go.Proofs.YtccccbofcnmdiaaGreat.subJ
 split
 ·exact h
 ·rename_i hpl
  split
  ·exact h
  ·rename_i hh
   split
   ·exact h
   ·split
    ·exact h
    ·rename_i hadm
     split
     ·exact h
     ·have hq:hasK qu (keyQ S.Q)=true:=by simpa using hh
      have hno:fnd nm 0 (jbs S.J) = -1:=by
       rcases fnd_cases nm (jbs S.J) 0 with e | ⟨p,hp,h1,h2⟩
       ·exact e
       ·exact absurd (show 0<=plJ nm S.J by show 0<=fnd nm 0 (jbs S.J);rw [h1];omega) hpl
      refine ⟨h.mN,h.qN,h.j.add h.neM hv rfl hI.nx.1 (show (0:Int)<=0 by omega) rfl (fun y hy e=>fnd_none hno y hy (sE_iff.2 e)) hq fun q hqm e=>?_⟩
      obtain ⟨hl,hs⟩:=atQ_key hI.aQ hq
      have eq:ql S.Q (lbK qu (keyQ S.Q))=q:=by
       obtain ⟨k,hk,rfl⟩:=List.getElem_of_mem hqm
       have:lbK qu (keyQ S.Q)=k:=by
        have hnd:=nodup_of hI.aQ
        have e2:(keyQ S.Q)[lbK qu (keyQ S.Q)]'(by simpa using hl)=(keyQ S.Q)[k]'(by simpa using hk):=by rw [List.getElem_map,List.getElem_map,hs];exact e.symm
        rcases Nat.lt_trichotomy (lbK qu (keyQ S.Q)) k with c | c | c
        ·exact absurd e2 (List.pairwise_iff_getElem.1 hnd _ _ (by simpa using hl) (by simpa using hk) c)
        ·exact c
        ·exact absurd e2.symm (List.pairwise_iff_getElem.1 hnd _ _ (by simpa using hk) (by simpa using hl) c)
       rw [this];simp [ql,List.getD,hk]
      have h0:admQ q S.J a b c=0:=by rw [<- eq];exact Decidable.not_not.1 hadm
      obtain ⟨x,y,z,v,hu⟩:∃ x y z v,usdJ q.1 S.J=(x,y,z,v):=⟨_,_,_,_,rfl⟩
      unfold admQ adm at h0
      rw [hu] at h0
      simp only at h0
      split at h0
      ·split at h0
       ·rename_i hv0
        split at h0
        ·rename_i hf
         subst hv0
         unfold usdJ at hu
         obtain ⟨_,u1,u2,u3⟩:=sm_zero hu
         obtain ⟨o1,o2,o3⟩:=s_ofQ q.1 S.J
         obtain ⟨f1,f2,f3⟩:=fB_to hf
         rw [o1] at u1;rw [o2] at u2;rw [o3] at u3
         exact ⟨show _+a<=_ by omega,show _+b<=_ by omega,show _+c<=_ by omega⟩
        ·exact absurd h0 (by omega)
       ·rename_i hv0;exact absurd h0 hv0
      ·exact absurd h0 (by omega)
theorem Rg.canJ (h:Rg S)(s:ByteArray):Rg (canJ S s).1:=by
 unfold Go.Proofs.YtccccbofcnmdiaaGreat.canJ
 split
 ·exact h
 ·rename_i hpl
  obtain ⟨p,hp,e,_⟩:=pl_at hpl
  rw [e,Int.toNat_natCast]
  exact ⟨h.mN,h.qN,h.j.erase hp⟩
theorem Rg.finJ (h:Rg S)(s:ByteArray):Rg (finJ S s).1:=by
 unfold Go.Proofs.YtccccbofcnmdiaaGreat.finJ
 split
 ·exact h
 ·rename_i hpl
  obtain ⟨p,hp,e,_⟩:=pl_at hpl
  rw [e,Int.toNat_natCast]
  split
  ·exact h
  ·exact ⟨h.mN,h.qN,h.j.erase hp⟩
theorem mod_at {M:List Ml}{f:Ml->Ml}{i k:Nat}(hk:k<M.length):∃ h:k<(M.modify i f).length,(M.modify i f)[k]=if i=k then f M[k] else M[k]:=by
 refine ⟨by rw [List.length_modify];exact hk,?_⟩
 rw [List.getElem_modify]
theorem Rg.beatN (h:Rg S)(hI:In2 m S)(s:ByteArray):Rg (beatN S s).1:=by
 unfold Go.Proofs.YtccccbofcnmdiaaGreat.beatN
 split
 ·have hck:=hI.ck
  obtain ⟨i,hi⟩:∃ i,i=lbK s (keyM S.M):=⟨_,rfl⟩
  rw [<- hi]
  have mem:∀ y' ∈ S.M.modify i (upX S.ck),∃ y ∈ S.M,y' = y ∨ y' = upX S.ck y:=fun y' hy'=>by
   obtain ⟨k,hk,rfl⟩:=List.getElem_of_mem hy'
   rw [List.length_modify] at hk
   obtain ⟨_,e⟩:=mod_at (f:=upX S.ck) (i:=i) hk
   refine ⟨S.M[k],List.getElem_mem hk,?_⟩
   rw [e]
   split
   ·exact .inr rfl
   ·exact .inl rfl
  refine ⟨fun x hx=>?_,h.qN,h.j.mach (fun x _ _ y hy e1 e2=>?_) fun y' hy'=>?_⟩
  ·obtain ⟨y,hy,rfl | rfl⟩:=mem x hx
   ·exact h.mN _ hy
   ·exact ⟨(h.mN y hy).1,show 0<=S.ck+4 by omega,show S.ck+4<=1073741828 by omega⟩
  ·obtain ⟨k,hk,rfl⟩:=List.getElem_of_mem hy
   obtain ⟨hk2,e⟩:=mod_at (f:=upX S.ck) (i:=i) hk
   refine ⟨_,List.getElem_mem hk2,?_⟩
   rw [e]
   split
   ·exact ⟨e1,rfl⟩
   ·exact ⟨e1,e2⟩
  ·obtain ⟨y,hy,rfl | rfl⟩:=mem y' hy'
   ·exact .inl ⟨_,hy,rfl,rfl,rfl,rfl,rfl⟩
   ·exact .inl ⟨_,hy,rfl,rfl,rfl,rfl,rfl⟩
 ·exact h
theorem keyM_set {M:List Ml}{i:Nat}{y:Ml}(h:∀ hi:i<M.length,y.1.nm=M[i].1.nm):keyM (M.set i y)=keyM M:=by
 show (M.set i y).map _=_
 exact map_set_same h
theorem Rg.expS {T:Sg × List Ac}{i:Nat}(h:Rg T.1)(hA:AscK (keyM T.1.M)):Rg (expS T i).1/\keyM (expS T i).1.M=keyM T.1.M:=by
 unfold Go.Proofs.YtccccbofcnmdiaaGreat.expS
 split
 ·rename_i hl
  have hi:=late_lt hl
  have em:ml T.1.M i=T.1.M[i]:=ml_at' hi
  rw [em]
  have hs0:=h.neM _ (List.getElem_mem hi)
  refine ⟨⟨fun x hx=>?_,h.qN,(h.j.relJ h.neM T.1.M[i].1.nm).mach (fun x hx _ y hy e1 e2=>⟨y,?_,e1,e2⟩) fun y' hy'=>?_⟩,keyM_set fun _=>rfl⟩
  ·rcases List.mem_or_eq_of_mem_set hx with e | rfl
   ·exact h.mN x e
   ·have hm:=h.mN T.1.M[i] (List.getElem_mem hi)
    exact ⟨hm.1,hm.2⟩
  ·obtain ⟨k,hk,rfl⟩:=List.getElem_of_mem hy
   have hne:i ≠ k:=fun e=>by
    subst e
    exact relJ_off hs0 x hx e1.symm
   have:(T.1.M.set i (downX T.1.M[i]))[k]'(by rw [List.length_set];exact hk)=T.1.M[k]:=by rw [List.getElem_set_ne hne]
   rw [<- this];exact List.getElem_mem _
  ·rcases List.mem_or_eq_of_mem_set hy' with e | rfl
   ·exact .inl ⟨_,e,rfl,rfl,rfl,rfl,rfl⟩
   ·exact .inl ⟨_,List.getElem_mem hi,rfl,rfl,rfl,rfl,rfl⟩
 ·exact ⟨h,rfl⟩
theorem Rg.expK (h:Rg S)(hA:AscK (keyM S.M)):∀ k,Rg (expK S k).1/\keyM (expK S k).1.M=keyM S.M
 | 0=>⟨h,rfl⟩
 | k+1=>by
  obtain ⟨h1,h2⟩:=Rg.expK h hA k
  rw [expK_succ]
  obtain ⟨g1,g2⟩:=h1.expS (i:=k) (by rw [h2];exact hA)
  exact ⟨g1,g2.trans h2⟩
theorem Rg.tick (h:Rg S)(hI:In2 m S):Rg (tickG bsF chF unF S).1:=by
 unfold tickG
 split
 ·exact h
 ·have h1:Rg { S with ck:=S.ck+1 }:=⟨h.mN,h.qN,h.j⟩
  obtain ⟨T,hT⟩:∃ T,T=expG { S with ck:=S.ck+1 }:=⟨_,rfl⟩
  obtain ⟨g1,g2⟩:=h1.expK hI.aM S.M.length
  have e1:Rg T.1:=by rw [hT];exact g1
  have e2:keyM T.1.M=keyM S.M:=by rw [hT];exact g2
  rw [<- hT]
  exact ⟨e1.mN,e1.qN,passK_rg e1.j e1.neM (by have:=nodup_of hI.aM;rw [<- e2] at this;exact this) _ (Nat.le_refl _)⟩
theorem Rg.step (h:Rg S)(hI:In2 m S)(v:Ov):Rg (stF S v).1:=by
 unfold stF stepG
 split
 ·rename_i hb
  unfold opG
  by_cases h1:v.k=1
  ·rw [if_pos h1]
   rw [opB_1 h1] at hb
   simp only [Bool.and_eq_true] at hb
   exact h.addN hI hb.1.1.1
  rw [if_neg h1]
  by_cases h2:v.k=2
  ·rw [if_pos h2];exact h.dropN hI _
  rw [if_neg h2]
  by_cases h3:v.k=3
  ·rw [if_pos h3]
   rw [opB_3 h3] at hb
   simp only [Bool.and_eq_true] at hb
   exact h.addQ hb.1.1.1
  rw [if_neg h3]
  by_cases h4:v.k=4
  ·rw [if_pos h4];exact h.dropQ hI _
  rw [if_neg h4]
  by_cases h5:v.k=5
  ·rw [if_pos h5]
   rw [opB_5 h5] at hb
   simp only [Bool.and_eq_true] at hb
   exact h.subJ hI hb.1.1.1
  rw [if_neg h5]
  by_cases h6:v.k=6
  ·rw [if_pos h6];exact h.canJ _
  rw [if_neg h6]
  by_cases h7:v.k=7
  ·rw [if_pos h7];exact h.finJ _
  rw [if_neg h7]
  by_cases h8:v.k=8
  ·rw [if_pos h8];exact h.beatN hI _
  rw [if_neg h8]
  exact h.tick hI
 ·exact h
theorem allR_on (h:Rg S)(p:Jb->Bool):allR ((((jbs S.J).filter p)).map Jb.need):=fun t ht=>by
 obtain ⟨j,hj,rfl⟩:=List.mem_map.1 ht
 obtain ⟨x,hx,rfl⟩:=List.mem_map.1 (List.mem_filter.1 hj).1
 have:=(h.j.tk x hx).1
 unfold Kt.ok taskB at this
 simp only [Bool.and_eq_true] at this
 exact this.1.1.1.2
theorem Rg.free (h:Rg S):∀ y ∈ S.M,(freM y.1 (jbs S.J)).2.2.2=0:=fun y hy=>by
 obtain ⟨⟨f1,f2,f3⟩,_⟩:=h.j.be y hy
 obtain ⟨o1,o2,o3⟩:=s_onM y.1.nm S.J
 have hall:allR (onM y.1.nm (jbs S.J)):=allR_on h _
 have hge:=allR_ge hall
 have hr:=(ok_name (h.mN y hy).1).2
 have hr2:=rB_to hr
 have e1:rB (0+s1 (onM y.1.nm (jbs S.J))) (0+s2 (onM y.1.nm (jbs S.J))) (0+s3 (onM y.1.nm (jbs S.J)))=true:=rB_of (by omega)
 unfold freM
 rw [sm_mk (by decide) hall e1]
 simp only
 rw [fre_0]
 exact (sb_mk hr e1 (rB_of (by omega))).1
theorem Rg.used (h:Rg S):∀ q ∈ S.Q,(usdJ q.1 S.J).2.2.2=0/\fB (usdJ q.1 S.J).1 (usdJ q.1 S.J).2.1 (usdJ q.1 S.J).2.2.1 q.2.1 q.2.2.1 q.2.2.2=true:=fun q hq=>by
 obtain ⟨f1,f2,f3⟩:=h.j.us q hq
 obtain ⟨o1,o2,o3⟩:=s_ofQ q.1 S.J
 have hall:allR (ofQ q.1 (jbs S.J)):=allR_on h _
 have hge:=allR_ge hall
 have hr2:=rB_to (que_name (h.qN q hq)).2
 have e1:rB (0+s1 (ofQ q.1 (jbs S.J))) (0+s2 (ofQ q.1 (jbs S.J))) (0+s3 (ofQ q.1 (jbs S.J)))=true:=rB_of (by omega)
 unfold usdJ
 rw [sm_mk (by decide) hall e1]
 refine ⟨rfl,decide_eq_true ?_⟩
 show 0+_<=_/\0+_<=_/\0+_<=_
 omega
end
end
end Go.Proofs.YtccccbofcnmdiaaGreat
