/- Lemmas that the law stands on. No condition. -/
import Derived.Test.YtccccbofcnmdiaaGreatK23
namespace Go.Proofs.YtccccbofcnmdiaaGreat
set_option linter.unusedSimpArgs false
set_option linter.unusedVariables false
set_option maxRecDepth 100000
set_option maxHeartbeats 51200000
section
open Go.RowKit
def stF (S:Sg)(v:Ov):Sg × An:=stepG bsF chF unF S v
def nextF (F:Nat->Prop) (W w':World) (k:Nat):Prop:=(F k ∨ W.heap.size<=k)/\k<w'.heap.size
section
variable {w wr w':World}{g h:Nat}{F K:Nat->Prop} {S T S' T':Sg} {m m2 m':Int}{p:Nat}
theorem nextF.off (hF:¬ F p)(hp:p<wr.heap.size):¬ nextF F wr w' p:=fun h=>h.1.elim hF fun h2=>by omega
end
def RetD (b:Nat)(w:World)(e:Ending)(R:An):Prop:=∃ A n c,e = .returned (.agg #[.int .i64 R.1,.slice A n c])/\RetL b w A n c R.2
theorem tg_new1 (w wr:World)(hb:Below w.heap.size w wr):Calls Tryz.prog 14 #[] wr fun e w'=>e = .returned (.pointer (some ⟨wr.heap.size,0,none⟩))/\Gx w' w.heap.size wr.heap.size (fun k=>wr.heap.size<=k/\k<w'.heap.size) Sg.new/\Below wr.heap.size wr w':=by
 refine (gx_new wr).mono ?_
 rintro e w' ⟨rfl,h,hb2⟩
 exact ⟨rfl,(h.base hb.size).wide fun k hk hf=>⟨hf,hk⟩,hb2⟩
end
section
open Go.RowKit
theorem fitC:FitC chF:=fun L J p hM h=>by
 cases hc:choF L J p with
 | none=>unfold chF at h;rw [hc] at h;cases h
 | some x=>
  obtain ⟨⟨G,h1,-,-,h4⟩,-⟩:=cho_is hc
  rw [plansOf_at h4] at h1
  refine ⟨G,?_,?_,fun i hi=>?_⟩
  ·unfold chF;rw [hc]
   show namesAt _ ((plansOf _ _ _ _ x.1).getD [])=_
   rw [plansOf_at h4,h1];rfl
  ·rcases places_is h1 with ⟨_,rfl⟩ | ⟨k,_,_,_,rfl,_⟩
   ·exact List.nodup_nil
   ·exact (weak_nodup _).sublist (List.take_sublist _ _)
  ·obtain ⟨a,b,_⟩:=plan_each h1 i hi
   have ai:i<J.length:=by simpa [jbs] using a
   rw [jat_jbs ai] at b
   refine ⟨ai,?_⟩
   rw [jl_at ai,b]
   exact decide_eq_false (hM _ (List.getElem_mem h4))
theorem fitU:FitU unF:=fun J=>⟨units_nodup (jbs J),fun u hu q hq=>by
 obtain ⟨p,r,_,h,_⟩:=units_in hu
 obtain ⟨a,b,_⟩:=h q hq
 have aq:q<J.length:=by simpa [jbs] using a
 rw [jat_jbs aq] at b
 rw [jl_at aq]
 exact decide_eq_true b⟩
theorem pl_at {s:ByteArray}{J:List Jl}(h:¬ plJ s J<0):∃ p,∃ hp:p<J.length,plJ s J=(p:Int)/\sE J[p].1.nm s=true:=by
 rcases fnd_cases s (jbs J) 0 with e | ⟨p,hp,h1,h2⟩
 ·exact absurd (show plJ s J<0 by show fnd s 0 (jbs J)<0;rw [e];omega) h
 ·have hp':p<J.length:=by simpa [jbs] using hp
  refine ⟨p,hp',by rw [show plJ s J=_ from h1,Nat.zero_add],?_⟩
  have e:(jbs J)[p]=J[p].1:=by simp [jbs]
  rwa [e] at h2
theorem name_ne {s:ByteArray}(h:nameB s=true):s.size ≠ 0:=by
 unfold nameB nameL at h
 simp only [Bool.and_eq_true,decide_eq_true_eq] at h
 have h1:=h.1.1.1
 intro e
 have:s.data.toList.length=s.size:=by rw [Array.length_toList];rfl
 omega
end
section
open Go.RowKit
theorem tickG_few {m:Int}{S:Sg}(hI:In2 m S)(hm:m<=1152921504606846976)(hk:¬ 1073741824<=S.ck):(tickG bsF chF unF S).2.2.length<=2001000:=by
 have hi:=hI.inv hm
 have hck:=hI.ck
 obtain ⟨S1,hS1⟩:∃ S1:Sg,S1 = { S with ck:=S.ck+1 }:=⟨_,rfl⟩
 have hSm1:Sm S1:=by rw [hS1];exact ⟨hi.sm.M,hi.sm.Q,hi.sm.J,hi.sm.lM,hi.sm.lJ,hi.sm.nx,⟨show 0<=S.ck+1 by omega,show S.ck+1<=4611686018427387904 by omega⟩⟩
 have hbo1:BoK 1152921504606846976 S1.J:=by rw [hS1];exact hi.bo
 have h1:=expG_few hSm1.M hSm1.J
 have h2:=passG_few (bs:=bsF) (ch:=chF) (un:=unF) choK uniK (M:=(expG S1).1.M) (J:=(expG S1).1.J) (expG_sm hSm1).J (expG_bo hbo1)
 unfold tickG
 rw [if_neg hk,<- hS1]
 show ((expG S1).2 ++ (passG bsF chF unF (expG S1).1.M (expG S1).1.J).2).length<=_
 rw [List.length_append]
 omega
theorem stF_few {m:Int}{S:Sg}(hI:In2 m S)(hm:m<=1152921504606846976)(v:Ov):(stF S v).2.2.length<=2001000:=by
 unfold stF stepG
 split
 ·unfold opG
  split
  ·unfold addN;split
   ·exact Nat.zero_le _
   ·split <;> exact Nat.zero_le _
  split
  ·unfold dropN';split
   ·have h1:=relA_le (s:=v.s) (J:=S.J) (k:=S.J.length)
    rw [relA_all] at h1
    have h2:=hI.J
    show (relA v.s S.J).length<=_
    omega
   ·exact Nat.zero_le _
  split
  ·unfold addQ;split
   ·exact Nat.zero_le _
   ·split <;> exact Nat.zero_le _
  split
  ·unfold dropQ;split
   ·split <;> exact Nat.zero_le _
   ·exact Nat.zero_le _
  split
  ·unfold subJ;split
   ·exact Nat.zero_le _
   ·split
    ·exact Nat.zero_le _
    ·split
     ·exact Nat.zero_le _
     ·split
      ·exact Nat.zero_le _
      ·split <;> exact Nat.zero_le _
  split
  ·unfold canJ;split
   ·exact Nat.zero_le _
   ·show (if _ then _ else _:List Ac).length<=_
    split
    ·exact Nat.zero_le _
    ·show 1<=_;omega
  split
  ·unfold finJ;split
   ·exact Nat.zero_le _
   ·split <;> exact Nat.zero_le _
  split
  ·unfold beatN;split <;> exact Nat.zero_le _
  ·by_cases hk:1073741824<=S.ck
   ·unfold tickG;rw [if_pos hk];exact Nat.zero_le _
   ·exact tickG_few hI hm hk
 ·exact Nat.zero_le _
section
variable {P:Program} {w w':World}{base k:Nat}{e:TypeId}{v:Value}{l:List (List Value)}
end
structure T1 (w wr:World) (g:Nat)(F:Nat->Prop)(S:Sg) (m:Int):Prop where
 g1:Gx wr w.heap.size g F S
 b1:∀ k,F k->w.heap.size<=k/\k<wr.heap.size
 i1:In2 m S
 be:Below w.heap.size w wr
section
variable {w wr w':World}{g:Nat} {F F':Nat->Prop} {S S':Sg} {m m':Int} {v v':Value} {W W':List Ac}
theorem T1.below (H:T1 w wr g F S m)(hb:Below wr.heap.size wr w'):T1 w w' g F S m:=
 ⟨H.g1.below hb,fun k hk=>⟨(H.b1 k hk).1,Nat.lt_of_lt_of_le (H.b1 k hk).2 hb.size⟩,H.i1,H.be.trans (hb.mono H.be.size)⟩
theorem T1.left (H:T1 w wr g F S m)(h1:Gx w' w.heap.size g (fun k=>F k ∨ wr.heap.size<=k) S')(hg:GrP F wr w')(hi:In2 m' S'):T1 w w' g (nextF F wr w') S' m':=by
 refine ⟨h1.wide fun k hk hf=>⟨hf,hk⟩,fun k hk=>⟨?_,hk.2⟩,hi,H.be.trans (hg.below H.be.size fun k hk=>(H.b1 k hk).1)⟩
 rcases hk.1 with h3 | h3
 ·exact (H.b1 k h3).1
 ·exact Nat.le_trans H.be.size h3
end
theorem t1_do {w wr:World}{g:Nat}{F:Nat->Prop}{S:Sg}{m:Int}(H:T1 w wr g F S m)(hm:0<=m)(hm2:m<=1152921504606846976)(x:Oz)(hx:OzOk wr x)(hl1:x.v.l1.length<=1000)(hl3:x.v.l3.length<=1000) :
  Calls Tryz.prog 18 #[.pointer (some ⟨g,0,none⟩),.agg x.arr] wr fun e w'=>RetD wr.heap.size w' e (stF S x.v).2/\T1 w w' g (nextF F wr w') (stF S x.v).1 (m+1001000)/\GrP F wr w':=by
 refine (gx_do bsF chF unF bestK choK uniK bare3 w.heap.size g F m S x wr H.g1 H.i1 hm2 hx hl1 hl3).mono ?_
 rintro e w' ⟨⟨A,n,c,rfl,hR⟩,h1,h2⟩
 exact ⟨⟨A,n,c,rfl,hR⟩,H.left h1 h2 (H.i1.step uniK hm x.v hl1 hl3),h2⟩
theorem t1_new (w wr:World)(hb:Below w.heap.size w wr):Calls Tryz.prog 14 #[] wr fun e w'=>e = .returned (.pointer (some ⟨wr.heap.size,0,none⟩))/\T1 w w' wr.heap.size (fun k=>wr.heap.size<=k/\k<w'.heap.size) Sg.new 0:=by
 refine (tg_new1 w wr hb).mono ?_
 rintro e w' ⟨rfl,h,hb2⟩
 exact ⟨rfl,h,fun k hk=>⟨Nat.le_trans hb.size hk.1,hk.2⟩,in2_new,hb.trans (hb2.mono hb.size)⟩
def RetT1 (b:Nat)(w:World)(e:Ending)(S:Sg):Prop:=∃ (v:Sv) (S':Sg),e = .returned (.agg v.arr)/\OwnS w b (.slice v.A v.N v.cA) (.slice v.B v.K v.cB) (.slice v.C v.n v.cC) S' /\ RdSt w v S' /\ S'.bare=S.bare/\v.ck=S'.ck/\v.nx=S'.nx
section
variable {w wr w':World}{g p6 n1 c1:Nat}{F:Nat->Prop}{S:Sg}{m u:Int}{A1:Option Addr} {acts W W':List Ac} {v v':Value}
end
section
variable {n c p g:Nat}
end
end
section
open Go.RowKit
theorem onM_cons (s:ByteArray)(j:Jb)(l:List Jb):onM s (j :: l)=if sE j.nd s then j.need :: onM s l else onM s l:=by
 unfold onM
 rw [List.filter_cons]
 split <;> simp
theorem whyT_zero {e:Int}{N K U H R F:Bool}:whyT e N K U H R F=0 ↔ e=0/\N=true/\K=true/\U=true/\H=true/\R=false/\F=true:=by
 unfold whyT
 cases N <;> cases K <;> cases U <;> cases H <;> cases R <;> cases F <;> by_cases he:e=0 <;> simp [he]
theorem sb_is {a b c x y z:Int}(h:sbE a b c x y z=0):rB a b c=true/\rB x y z=true/\rB (a - x) (b - y) (c - z)=true:=by
 unfold sbE at h
 by_cases h1:(rB a b c && rB x y z)=true
 ·rw [if_pos h1] at h
  rw [Bool.and_eq_true] at h1
  by_cases h2:rB (a - x) (b - y) (c - z)=true
  ·exact ⟨h1.1,h1.2,h2⟩
  ·rw [if_neg h2] at h;exact absurd h (by omega)
 ·rw [if_neg h1] at h;exact absurd h (by omega)
theorem sb_mk {a b c x y z:Int}(h1:rB a b c=true)(h2:rB x y z=true)(h3:rB (a - x) (b - y) (c - z)=true):sbE a b c x y z=0/\sbB a b c x y z=true:=by
 unfold sbE sbB;rw [h1,h2,h3];exact ⟨rfl,rfl⟩
theorem rB_of {a b c:Int}(h:0<=a/\a<=1048576/\0<=b/\b<=1048576/\0<=c/\c<=1048576):rB a b c=true:=decide_eq_true h
theorem rB_to {a b c:Int}(h:rB a b c=true):0<=a/\a<=1048576/\0<=b/\b<=1048576/\0<=c/\c<=1048576:=of_decide_eq_true h
section
variable {bs:Bst}{ch:Chs15}{M:List Ml}{J:List Jl}{U:List (List Nat)}
theorem passK_wait (hB:BestK bs)(hC:ChoK ch)(hF:FitC ch)(hM:NeM M)(hn:NdJ J)(hU:U.flatten.Nodup)(h0:∀ u ∈ U,0<u.length)
  (hw:∀ u ∈ U,∀ q ∈ u,q<J.length/\wB (jl J q).1.nd=true){k:Nat}(hk:k<U.length):∀ q ∈ U[k],q<(passK bs ch M J U k).1.length/\jl (passK bs ch M J U k).1 q=jl J q:=fun q hq=>by
 obtain ⟨h1,h2,h3⟩:=passK_leads hB hC hF hM hn hU h0 hw k (by omega)
 have hl:(passK bs ch M J U k).1.length=J.length:=by simpa using congrArg List.length h2
 obtain ⟨a,b⟩:=hw U[k] (List.getElem_mem hk) q hq
 refine ⟨by omega,h3 q (fun hf=>?_) b⟩
 obtain ⟨v,hv,hqv⟩:=List.mem_flatten.1 hf
 obtain ⟨i,hi,e⟩:=List.getElem_of_mem hv
 rw [List.length_take] at hi
 rw [List.getElem_take] at e
 subst e
 exact List.pairwise_iff_getElem.1 (List.pairwise_flatten.1 hU).2 i k (by omega) hk (by omega) q hqv q hq rfl
end
end
section
open Go.RowKit
def tm (f:Jb->Int)(p:Jb->Bool)(x:Jl):Int:=if p x.1 then f x.1 else 0
def onF (f:Jb->Int)(p:Jb->Bool):List Jl->Int
 | []=>0
 | x :: J=>tm f p x+onF f p J
section
variable {f:Jb->Int}{p:Jb->Bool}{J K:List Jl}
theorem onF_append:∀ {J:List Jl},onF f p (J ++ K)=onF f p J+onF f p K
 | []=>by simp [onF]
 | x :: J=>by
  have:=onF_append (J:=J)
  show tm f p x+onF f p (J ++ K)=tm f p x+onF f p J+onF f p K
  omega
theorem onF_set:∀ {J:List Jl}{i:Nat}(h:i<J.length)(y:Jl),onF f p (J.set i y)=onF f p J - tm f p J[i]+tm f p y
 | x :: J,0,_,y=>by show tm f p y+onF f p J=tm f p x+onF f p J - tm f p x+tm f p y;omega
 | x :: J,i+1,h,y=>by
  have hi:i<J.length:=by simpa using h
  have:=onF_set (J:=J) (i:=i) hi y
  show tm f p x+onF f p (J.set i y)=tm f p x+onF f p J - tm f p J[i]+tm f p y
  omega
theorem onF_erase:∀ {J:List Jl}{i:Nat}(h:i<J.length),onF f p (J.eraseIdx i)=onF f p J - tm f p J[i]
 | x :: J,0,_=>by show onF f p J=tm f p x+onF f p J - tm f p x;omega
 | x :: J,i+1,h=>by
  have hi:i<J.length:=by simpa using h
  have:=onF_erase (J:=J) (i:=i) hi
  show tm f p x+onF f p (J.eraseIdx i)=tm f p x+onF f p J - tm f p J[i]
  omega
theorem tm_ge {x:Jl}(h:0<=f x.1):0<=tm f p x:=by unfold tm;split <;> omega
theorem onF_none:∀ {J:List Jl},(∀ x ∈ J,p x.1=false)->onF f p J=0
 | [],_=>rfl
 | x :: J,h=>by
  have h1:=onF_none (J:=J) fun y hy=>h y (List.mem_cons_of_mem _ hy)
  have h2:tm f p x=0:=by unfold tm;rw [h x (by simp)];rfl
  show tm f p x+onF f p J=0
  omega
end
abbrev atM (s:ByteArray)(j:Jb):Bool:=sE j.nd s
abbrev ofN (s:ByteArray)(j:Jb):Bool:=sE j.qu s
theorem s_onM (s:ByteArray):∀ J:List Jl,s1 (onM s (jbs J))=onF (·.a) (atM s) J/\s2 (onM s (jbs J))=onF (·.b) (atM s) J/\s3 (onM s (jbs J))=onF (·.c) (atM s) J
 | []=>⟨rfl,rfl,rfl⟩
 | x :: J=>by
  obtain ⟨h1,h2,h3⟩:=s_onM s J
  show s1 (onM s (x.1 :: jbs J))=tm _ _ x+_/\s2 (onM s (x.1 :: jbs J))=tm _ _ x+_/\s3 (onM s (x.1 :: jbs J))=tm _ _ x+_
  rw [onM_cons]
  cases h:sE x.1.nd s with
  | true=>
   have e:∀ f:Jb->Int,tm f (atM s) x=f x.1:=fun f=>by unfold tm;rw [show atM s x.1=true from h];rfl
   rw [if_pos rfl,s1_cons,s2_cons,s3_cons,h1,h2,h3,e,e,e];exact ⟨rfl,rfl,rfl⟩
  | false=>
   have e:∀ f:Jb->Int,tm f (atM s) x=0:=fun f=>by unfold tm;rw [show atM s x.1=false from h];rfl
   rw [if_neg (by simp),h1,h2,h3,e,e,e,Int.zero_add,Int.zero_add,Int.zero_add];exact ⟨rfl,rfl,rfl⟩
theorem ofQ_cons (s:ByteArray)(j:Jb)(l:List Jb):ofQ s (j :: l)=if sE j.qu s then j.need :: ofQ s l else ofQ s l:=by
 unfold ofQ
 rw [List.filter_cons]
 split <;> simp
theorem s_ofQ (s:ByteArray):∀ J:List Jl,s1 (ofQ s (jbs J))=onF (·.a) (ofN s) J/\s2 (ofQ s (jbs J))=onF (·.b) (ofN s) J/\s3 (ofQ s (jbs J))=onF (·.c) (ofN s) J
 | []=>⟨rfl,rfl,rfl⟩
 | x :: J=>by
  obtain ⟨h1,h2,h3⟩:=s_ofQ s J
  show s1 (ofQ s (x.1 :: jbs J))=tm _ _ x+_/\s2 (ofQ s (x.1 :: jbs J))=tm _ _ x+_/\s3 (ofQ s (x.1 :: jbs J))=tm _ _ x+_
  rw [ofQ_cons]
  cases h:sE x.1.qu s with
  | true=>
   have e:∀ f:Jb->Int,tm f (ofN s) x=f x.1:=fun f=>by unfold tm;rw [show ofN s x.1=true from h];rfl
   rw [if_pos rfl,s1_cons,s2_cons,s3_cons,h1,h2,h3,e,e,e];exact ⟨rfl,rfl,rfl⟩
  | false=>
   have e:∀ f:Jb->Int,tm f (ofN s) x=0:=fun f=>by unfold tm;rw [show ofN s x.1=false from h];rfl
   rw [if_neg (by simp),h1,h2,h3,e,e,e,Int.zero_add,Int.zero_add,Int.zero_add];exact ⟨rfl,rfl,rfl⟩
def Fit (p:Jb->Bool)(J:List Jl) (a b c:Int):Prop:=onF (·.a) p J<=a/\onF (·.b) p J<=b/\onF (·.c) p J<=c
def Apt (x y:Jl):Prop:=x.1.nd.size ≠ 0->x.1.nd=y.1.nd->x.1.ap.size ≠ 0->x.1.ap ≠ y.1.ap
theorem Apt.symm {x y:Jl}(h:Apt x y):Apt y x:=fun h1 h2 h3 e=>h (by rw [<- h2];exact h1) h2.symm (by rw [<- e];exact h3) e.symm
structure RgJ (M:List Ml)(Q:List Qx) (nx:Int)(J:List Jl):Prop where
 sq:J.Pairwise fun x y=>x.1.sq<y.1.sq
 tk:∀ x ∈ J,x.1.tk.ok x.2=true/\1<=x.1.sq/\x.1.sq<=nx - 1/\0<=x.1.bo
 nd:NdJ J
 qu:∀ x ∈ J,hasK x.1.qu (keyQ Q)=true
 us:∀ q ∈ Q,Fit (ofN q.1) J q.2.1 q.2.2.1 q.2.2.2
 hm:∀ x ∈ J,x.1.nd.size ≠ 0->1<=x.1.bo /\ ∃ y ∈ M,y.1.nm=x.1.nd/\y.1.up=true
 be:∀ y ∈ M,Fit (atM y.1.nm) J y.1.a y.1.b y.1.c /\ ∀ x ∈ J,x.1.nd=y.1.nm->hasB y.2 x.2=true
 ap:J.Pairwise Apt
section
variable {M M':List Ml} {Q Q':List Qx}{nx:Int}{J:List Jl}{p:Nat}
theorem tk_need {x:Jl}(h:x.1.tk.ok x.2=true):0<=x.1.a/\0<=x.1.b/\0<=x.1.c:=by
 unfold Kt.ok taskB at h
 simp only [Bool.and_eq_true] at h
 have:=rB_to h.1.1.1.2
 exact ⟨this.1,this.2.2.1,this.2.2.2.2.1⟩
theorem RgJ.ge (h:RgJ M Q nx J):(∀ x ∈ J,0<=x.1.a)/\(∀ x ∈ J,0<=x.1.b) /\ ∀ x ∈ J,0<=x.1.c:=
 ⟨fun x hx=>(tk_need (h.tk x hx).1).1,fun x hx=>(tk_need (h.tk x hx).1).2.1,fun x hx=>(tk_need (h.tk x hx).1).2.2⟩
theorem core_all {x y:Jl}(h:core y=core x):y.1.tk=x.1.tk/\y.2=x.2/\y.1.sq=x.1.sq:=⟨(core_tk h).1,(core_tk h).2,by have:=congrArg (fun z:Jl=>z.1.sq) h;exact this⟩
theorem Fit.erase (h:RgJ M Q nx J){a b c:Int}{t:Jb->Bool}(hf:Fit t J a b c)(hp:p<J.length):Fit t (J.eraseIdx p) a b c:=by
 obtain ⟨g1,g2,g3⟩:=h.ge
 have hm:=List.getElem_mem hp
 have e1:=onF_erase (f:=(·.a)) (p:=t) hp
 have e2:=onF_erase (f:=(·.b)) (p:=t) hp
 have e3:=onF_erase (f:=(·.c)) (p:=t) hp
 have t1:=tm_ge (f:=(·.a)) (p:=t) (g1 _ hm)
 have t2:=tm_ge (f:=(·.b)) (p:=t) (g2 _ hm)
 have t3:=tm_ge (f:=(·.c)) (p:=t) (g3 _ hm)
 obtain ⟨f1,f2,f3⟩:=hf
 exact ⟨by omega,by omega,by omega⟩
theorem RgJ.erase (h:RgJ M Q nx J)(hp:p<J.length):RgJ M Q nx (J.eraseIdx p):=by
 have hs:=List.eraseIdx_sublist J p
 exact ⟨h.sq.sublist hs,fun x hx=>h.tk x (hs.subset hx),erase_names h.nd,fun x hx=>h.qu x (hs.subset hx),fun q hq=>(h.us q hq).erase h hp,fun x hx=>h.hm x (hs.subset hx),
  fun y hy=>⟨(h.be y hy).1.erase h hp,fun x hx=>(h.be y hy).2 x (hs.subset hx)⟩,h.ap.sublist hs⟩
theorem tm_core {f:Jb->Int}{x y:Jl}(s:ByteArray)(h:y.1.qu=x.1.qu)(hf:f y.1=f x.1):tm f (ofN s) y=tm f (ofN s) x:=by
 unfold tm ofN;rw [h,hf]
theorem RgJ.turn (h:RgJ M Q nx J)(hp:p<J.length){y:Jl}(hc:core y=core J[p])(hb:0<=y.1.bo)
  (h1:y.1.nd.size ≠ 0->1<=y.1.bo /\ ∃ m ∈ M,m.1.nm=y.1.nd/\m.1.up=true)
  (h2:∀ m ∈ M,m.1.nm=y.1.nd->(onF (·.a) (atM m.1.nm) J - tm (·.a) (atM m.1.nm) J[p]+y.1.a<=m.1.a/\onF (·.b) (atM m.1.nm) J - tm (·.b) (atM m.1.nm) J[p]+y.1.b<=m.1.b/\onF (·.c) (atM m.1.nm) J - tm (·.c) (atM m.1.nm) J[p]+y.1.c<=m.1.c)/\hasB m.2 y.2=true)
  (h3:∀ j (hj:j<J.length),j ≠ p->Apt y J[j]):RgJ M Q nx (J.set p y):=by
 obtain ⟨k1,k2,k3⟩:=core_all hc
 have hm:=List.getElem_mem hp
 have knm:y.1.nm=J[p].1.nm:=congrArg (fun t:Kt=>t.nm) k1
 have kqu:y.1.qu=J[p].1.qu:=congrArg (fun t:Kt=>t.qu) k1
 have ka:y.1.a=J[p].1.a:=congrArg (fun t:Kt=>t.a) k1
 have kb:y.1.b=J[p].1.b:=congrArg (fun t:Kt=>t.b) k1
 have kc:y.1.c=J[p].1.c:=congrArg (fun t:Kt=>t.c) k1
 obtain ⟨g1,g2,g3⟩:=h.ge
 have mem:∀ x ∈ J.set p y,x ∈ J ∨ x=y:=fun x hx=>List.mem_or_eq_of_mem_set hx
 refine ⟨?_,fun x hx=>?_,?_,fun x hx=>?_,fun q hq=>?_,fun x hx=>?_,fun m hM=>⟨?_,fun x hx hn=>?_⟩,?_⟩
 ·rw [List.pairwise_iff_getElem]
  intro i j hi hj hij
  have hq:=List.pairwise_iff_getElem.1 h.sq i j (by simpa using hi) (by simpa using hj) hij
  rw [List.getElem_set,List.getElem_set]
  split
  ·rename_i e;subst e
   rw [if_neg (by omega),k3];exact hq
  ·split
   ·rename_i e;subst e;rw [k3];exact hq
   ·exact hq
 ·rcases mem x hx with e | e
  ·exact h.tk x e
  ·subst e
   obtain ⟨t1,t2,t3,_⟩:=h.tk _ hm
   refine ⟨by rw [k1,k2];exact t1,by rw [k3];exact t2,by rw [k3];exact t3,hb⟩
 ·unfold NdJ
  rw [nms_set (fun _=>knm)];exact h.nd
 ·rcases mem x hx with e | e
  ·exact h.qu x e
  ·subst e;rw [kqu];exact h.qu _ hm
 ·have hu:=h.us q hq
  unfold Fit at hu ⊢
  rw [onF_set hp,onF_set hp,onF_set hp,tm_core (f:=fun x=>x.a) _ kqu ka,tm_core (f:=fun x=>x.b) _ kqu kb,tm_core (f:=fun x=>x.c) _ kqu kc]
  obtain ⟨u1,u2,u3⟩:=hu
  exact ⟨by omega,by omega,by omega⟩
 ·rcases mem x hx with e | e
  ·exact h.hm x e
  ·subst e;exact h1
 ·have hu:=(h.be m hM).1
  unfold Fit at hu ⊢
  rw [onF_set hp,onF_set hp,onF_set hp]
  have t1:=tm_ge (f:=(·.a)) (p:=atM m.1.nm) (g1 _ hm)
  have t2:=tm_ge (f:=(·.b)) (p:=atM m.1.nm) (g2 _ hm)
  have t3:=tm_ge (f:=(·.c)) (p:=atM m.1.nm) (g3 _ hm)
  obtain ⟨u1,u2,u3⟩:=hu
  by_cases e:m.1.nm=y.1.nd
  ·obtain ⟨⟨v1,v2,v3⟩,_⟩:=h2 m hM e
   have es:atM m.1.nm y.1=true:=sE_iff.2 e.symm
   unfold tm at v1 v2 v3 ⊢
   simp only [es,if_true] at v1 v2 v3 ⊢
   exact ⟨v1,v2,v3⟩
  ·have es:atM m.1.nm y.1=false:=by
    cases hh:sE y.1.nd m.1.nm with
    | false=>exact hh
    | true=>exact absurd (sE_iff.1 hh).symm e
   have z:∀ f:Jb->Int,tm f (atM m.1.nm) y=0:=fun f=>by unfold tm;rw [es];rfl
   rw [z,z,z]
   exact ⟨by omega,by omega,by omega⟩
 ·rcases mem x hx with e | e
  ·exact (h.be m hM).2 x e hn
  ·subst e;exact (h2 m hM hn.symm).2
 ·rw [List.pairwise_iff_getElem]
  intro i j hi hj hij
  have hq:=List.pairwise_iff_getElem.1 h.ap i j (by simpa using hi) (by simpa using hj) hij
  rw [List.getElem_set,List.getElem_set]
  split
  ·rename_i e;subst e
   rw [if_neg (by omega)];exact h3 j (by simpa using hj) (by omega)
  ·split
   ·rename_i e;subst e;exact (h3 i (by simpa using hi) (by omega)).symm
   ·exact hq
theorem RgJ.rest (h:RgJ M Q nx J)(hM:NeM M)(hp:p<J.length):RgJ M Q nx (J.set p (restX J[p])):=by
 have e0:(restX J[p]).1.nd.size=0:=rfl
 refine h.turn hp rfl (h.tk _ (List.getElem_mem hp)).2.2.2 (fun hc=>absurd e0 hc) (fun m hm e=>?_) fun j hj hne hc=>absurd e0 hc
 exact absurd (show m.1.nm.size=0 by rw [e];exact e0) (hM m hm)
theorem RgJ.relK (h:RgJ M Q nx J)(hM:NeM M)(s:ByteArray):∀ k,k<=J.length->RgJ M Q nx (relK s J k)
 | 0,_=>by rw [relK_zero];exact h
 | k+1,hk=>by
  have hk':k<J.length:=by omega
  have ih:=RgJ.relK h hM s k (by omega)
  have hl:k<(Go.Proofs.YtccccbofcnmdiaaGreat.relK s J k).length:=by rw [relK_length];exact hk'
  cases he:sE J[k].1.nd s with
  | false=>rw [relK_skip hk' he];exact ih
  | true=>
   rw [relK_turn hk' he]
   have:=ih.rest hM hl
   rw [relK_at hk'] at this
   exact this
theorem RgJ.relJ (h:RgJ M Q nx J)(hM:NeM M)(s:ByteArray):RgJ M Q nx (relJ s J):=by
 have:=h.relK hM s J.length (Nat.le_refl _)
 rw [show Go.Proofs.YtccccbofcnmdiaaGreat.relK s J J.length=Go.Proofs.YtccccbofcnmdiaaGreat.relJ s J by unfold Go.Proofs.YtccccbofcnmdiaaGreat.relK;rw [List.take_length,List.drop_length,List.append_nil]] at this
 exact this
theorem relJ_off {s:ByteArray}(hs:s.size ≠ 0):∀ x ∈ relJ s J,x.1.nd ≠ s:=fun x hx e=>by
 obtain ⟨y,hy,rfl⟩:=List.mem_map.1 hx
 unfold relX at e
 cases hc:sE y.1.nd s with
 | true=>rw [hc] at e;exact hs (by rw [<- e];rfl)
 | false=>rw [hc] at e;rw [show y.1.nd=s from e,sE_refl] at hc;cases hc
theorem RgJ.mach (h:RgJ M Q nx J)(h1:∀ x ∈ J,x.1.nd.size ≠ 0 -> ∀ y ∈ M,y.1.nm=x.1.nd->y.1.up=true -> ∃ y' ∈ M',y'.1.nm=x.1.nd/\y'.1.up=true)
  (h2:∀ y' ∈ M',(∃ y ∈ M,y'.1.nm=y.1.nm/\y'.1.a=y.1.a/\y'.1.b=y.1.b/\y'.1.c=y.1.c/\y'.2=y.2) ∨ ((∀ x ∈ J,x.1.nd ≠ y'.1.nm)/\0<=y'.1.a/\0<=y'.1.b/\0<=y'.1.c)):RgJ M' Q nx J:=
 ⟨h.sq,h.tk,h.nd,h.qu,h.us,fun x hx hn=>by
  obtain ⟨a,y,hy,b,c⟩:=h.hm x hx hn
  exact ⟨a,h1 x hx hn y hy b c⟩,fun y' hy'=>by
  rcases h2 y' hy' with ⟨y,hy,a,b,c,d,e⟩ | ⟨a,b,c,d⟩
  ·rw [a,b,c,d,e];exact h.be y hy
  ·have z:∀ f:Jb->Int,onF f (atM y'.1.nm) J=0:=fun f=>onF_none fun x hx=>by
    cases hc:sE x.1.nd y'.1.nm with
    | false=>exact hc
    | true=>exact absurd (sE_iff.1 hc) (a x hx)
   refine ⟨?_,fun x hx e=>absurd e (a x hx)⟩
   unfold Fit;rw [z,z,z];exact ⟨b,c,d⟩,h.ap⟩
theorem RgJ.ques (h:RgJ M Q nx J)(h1:∀ x ∈ J,hasK x.1.qu (keyQ Q')=true)(h2:∀ q ∈ Q',q ∈ Q ∨ ((∀ x ∈ J,x.1.qu ≠ q.1)/\0<=q.2.1/\0<=q.2.2.1/\0<=q.2.2.2)):RgJ M Q' nx J:=
 ⟨h.sq,h.tk,h.nd,h1,fun q hq=>by
  rcases h2 q hq with e | ⟨a,b,c,d⟩
  ·exact h.us q e
  ·have z:∀ f:Jb->Int,onF f (ofN q.1) J=0:=fun f=>onF_none fun x hx=>by
    cases hc:sE x.1.qu q.1 with
    | false=>exact hc
    | true=>exact absurd (sE_iff.1 hc) (a x hx)
   unfold Fit;rw [z,z,z];exact ⟨b,c,d⟩,h.hm,h.be,h.ap⟩
theorem RgJ.add (h:RgJ M Q nx J)(hM:NeM M){x:Jl}(hk:x.1.tk.ok x.2=true)(hs:x.1.sq=nx)(h0:1<=nx)(hb:0<=x.1.bo)(hn:x.1.nd.size=0)(hno:∀ y ∈ J,y.1.nm ≠ x.1.nm)(hq:hasK x.1.qu (keyQ Q)=true)
  (hu:∀ q ∈ Q,q.1=x.1.qu->onF (·.a) (ofN q.1) J+x.1.a<=q.2.1/\onF (·.b) (ofN q.1) J+x.1.b<=q.2.2.1/\onF (·.c) (ofN q.1) J+x.1.c<=q.2.2.2):RgJ M Q (nx+1) (J ++ [x]):=by
 have one:∀ (f:Jb->Int)(t:Jb->Bool),onF f t [x]=tm f t x:=fun f t=>Int.add_zero _
 refine ⟨?_,fun y hy=>?_,?_,fun y hy=>?_,fun q hqm=>?_,fun y hy hn'=>?_,fun m hm=>⟨?_,fun y hy hn'=>?_⟩,?_⟩
 ·refine List.pairwise_append.2 ⟨h.sq,List.pairwise_singleton _ _,fun y hy z hz=>?_⟩
  rw [List.mem_singleton] at hz
  subst hz
  have:=h.tk y hy;omega
 ·rcases List.mem_append.1 hy with e | e
  ·have:=h.tk y e;exact ⟨this.1,this.2.1,by omega,this.2.2.2⟩
  ·rw [List.mem_singleton] at e;subst e;exact ⟨hk,by omega,by omega,hb⟩
 ·unfold NdJ
  rw [List.map_append]
  refine List.pairwise_append.2 ⟨h.nd,List.pairwise_singleton _ _,fun a ha b hb' e=>?_⟩
  obtain ⟨y,hy,rfl⟩:=List.mem_map.1 ha
  rw [List.map_singleton,List.mem_singleton] at hb'
  exact hno y hy (e.trans hb')
 ·rcases List.mem_append.1 hy with e | e
  ·exact h.qu y e
  ·rw [List.mem_singleton] at e;subst e;exact hq
 ·have hf:=h.us q hqm
  unfold Fit at hf ⊢
  rw [onF_append,onF_append,onF_append,one,one,one]
  by_cases e:q.1=x.1.qu
  ·have es:ofN q.1 x.1=true:=sE_iff.2 e.symm
   unfold tm
   simp only [es,if_true]
   exact hu q hqm e
  ·have es:ofN q.1 x.1=false:=by
    cases hh:sE x.1.qu q.1 with
    | false=>exact hh
    | true=>exact absurd (sE_iff.1 hh).symm e
   have z:∀ f:Jb->Int,tm f (ofN q.1) x=0:=fun f=>by unfold tm;rw [es];rfl
   rw [z,z,z,Int.add_zero,Int.add_zero,Int.add_zero];exact hf
 ·rcases List.mem_append.1 hy with e | e
  ·exact h.hm y e hn'
  ·rw [List.mem_singleton] at e;subst e;exact absurd hn hn'
 ·have hf:=(h.be m hm).1
  have es:atM m.1.nm x.1=false:=by
   cases hh:sE x.1.nd m.1.nm with
   | false=>exact hh
   | true=>exact absurd (by rw [<- sE_iff.1 hh];exact hn) (hM m hm)
  have z:∀ f:Jb->Int,tm f (atM m.1.nm) x=0:=fun f=>by unfold tm;rw [es];rfl
  unfold Fit at hf ⊢
  rw [onF_append,onF_append,onF_append,one,one,one,z,z,z,Int.add_zero,Int.add_zero,Int.add_zero];exact hf
 ·rcases List.mem_append.1 hy with e | e
  ·exact (h.be m hm).2 y e hn'
  ·rw [List.mem_singleton] at e;subst e
   exact absurd (by rw [<- hn'];exact hn) (hM m hm)
 ·refine List.pairwise_append.2 ⟨h.ap,List.pairwise_singleton _ _,fun y hy z hz=>?_⟩
  rw [List.mem_singleton] at hz
  subst hz
  intro h1 h2
  exact absurd (by rw [h2];exact hn) h1
end
end
section
open Go.RowKit
def NdM (M:List Ml):Prop:=(M.map fun x=>x.1.nm).Nodup
theorem NdM.one {M:List Ml}(h:NdM M){x y:Ml}(hx:x ∈ M)(hy:y ∈ M)(e:x.1.nm=y.1.nm):x=y:=by
 obtain ⟨i,hi,ei⟩:=List.getElem_of_mem hx
 obtain ⟨j,hj,ej⟩:=List.getElem_of_mem hy
 have h1:(M.map fun x=>x.1.nm)[i]'(by simpa using hi)=(M.map fun x=>x.1.nm)[j]'(by simpa using hj):=by
  rw [List.getElem_map,List.getElem_map,ei,ej];exact e
 have:i=j:=by
  rcases Nat.lt_trichotomy i j with c | c | c
  ·exact absurd h1 (List.pairwise_iff_getElem.1 h i j (by simpa using hi) (by simpa using hj) c)
  ·exact c
  ·exact absurd h1.symm (List.pairwise_iff_getElem.1 h j i (by simpa using hj) (by simpa using hi) c)
 subst this
 rw [<- ei,<- ej]
section
variable {M:List Ml}{Q:List Qx}{nx:Int}{J:List Jl}{p:Nat}
theorem name_one (h:NdJ J){i j:Nat}(hi:i<J.length)(hj:j<J.length)(e:J[i].1.nm=J[j].1.nm):i=j:=by
 have h1:(J.map fun x=>x.1.nm)[i]'(by simpa using hi)=(J.map fun x=>x.1.nm)[j]'(by simpa using hj):=by
  rw [List.getElem_map,List.getElem_map];exact e
 rcases Nat.lt_trichotomy i j with c | c | c
 ·exact absurd h1 (List.pairwise_iff_getElem.1 h i j (by simpa using hi) (by simpa using hj) c)
 ·exact c
 ·exact absurd h1.symm (List.pairwise_iff_getElem.1 h j i (by simpa using hj) (by simpa using hi) c)
theorem RgJ.bind (h:RgJ M Q nx J)(hM:NeM M)(hN:NdM M)(hp:p<J.length)(hw:J[p].1.nd.size=0){y:Ml}(hy:y ∈ M)(hu:y.1.up=true)
  (hf:onF (·.a) (atM y.1.nm) J+J[p].1.a<=y.1.a/\onF (·.b) (atM y.1.nm) J+J[p].1.b<=y.1.b/\onF (·.c) (atM y.1.nm) J+J[p].1.c<=y.1.c)(hl:hasB y.2 J[p].2=true)
  (ha:J[p].1.ap.size ≠ 0 -> ∀ j (hj:j<J.length),j ≠ p->J[j].1.nd=y.1.nm->J[j].1.ap ≠ J[p].1.ap):RgJ M Q nx (bindJ y.1.nm p J):=by
 unfold bindJ
 rw [jl_at hp]
 have hs:=hM y hy
 have hb:=(h.tk _ (List.getElem_mem hp)).2.2.2
 have z:∀ f:Jb->Int,tm f (atM y.1.nm) J[p]=0:=fun f=>by
  unfold tm
  have:atM y.1.nm J[p].1=false:=by
   cases hh:sE J[p].1.nd y.1.nm with
   | false=>exact hh
   | true=>exact absurd (by rw [<- sE_iff.1 hh];exact hw) hs
  rw [this];rfl
 refine h.turn hp rfl (show 0<=J[p].1.bo+1 by omega) (fun _=>⟨show 1<=J[p].1.bo+1 by omega,y,hy,rfl,hu⟩) (fun m hm e=>?_) fun j hj hne h1 h2 h3 e=>?_
 ·have em:m=y:=hN.one hm hy e
  subst em
  rw [z,z,z]
  obtain ⟨f1,f2,f3⟩:=hf
  exact ⟨⟨show _ - 0+J[p].1.a<=_ by omega,show _ - 0+J[p].1.b<=_ by omega,show _ - 0+J[p].1.c<=_ by omega⟩,hl⟩
 ·exact ha h3 j hj hne h2.symm e.symm
theorem tm_size (x:Jl)(s:ByteArray)(h:x.1.nd.size=0)(hs:s.size ≠ 0):atM s x.1=false:=by
 cases hh:sE x.1.nd s with
 | false=>exact hh
 | true=>exact absurd (by rw [<- sE_iff.1 hh];exact h) hs
theorem free_is {m:Mc}{l:List Jb}(he:(freM m l).2.2.2=0):(freM m l).1=m.a - s1 (onM m.nm l)/\(freM m l).2.1=m.b - s2 (onM m.nm l)/\(freM m l).2.2.1=m.c - s3 (onM m.nm l):=by
 obtain ⟨x,y,z,v,hsm⟩:∃ x y z v,sm 0 0 0 (onM m.nm l)=(x,y,z,v):=⟨_,_,_,_,rfl⟩
 unfold freM at he ⊢
 rw [hsm] at he ⊢
 simp only at he ⊢
 by_cases hv:v=0
 ·subst hv
  rw [fre_0] at he ⊢
  simp only at he ⊢
  obtain ⟨a1,a2,a3⟩:=sb_is he
  rw [(sb_mk a1 a2 a3).2]
  simp only [kp_t]
  obtain ⟨b1,b2,b3,b4⟩:=sm_zero hsm
  exact ⟨by omega,by omega,by omega⟩
 ·rw [fre_v hv] at he;exact absurd he hv
theorem fB_to {a b c d e f:Int}(h:fB a b c d e f=true):a<=d/\b<=e/\c<=f:=of_decide_eq_true h
theorem rep_to {s ap nm:ByteArray}{l:List Jb}(h:rep s ap nm l=false)(ha:ap.size ≠ 0):∀ j ∈ l,j.nd=s->j.ap=ap->j.nm=nm:=by
 intro j hj h1 h2
 rw [rep_full ha,List.any_eq_false] at h
 have h3:=h j hj
 unfold both at h3
 rw [h1,h2,sE_refl,sE_refl] at h3
 cases hc:sE j.nm nm with
 | true=>exact sE_iff.1 hc
 | false=>rw [hc] at h3;exact absurd rfl h3
theorem RgJ.best (h:RgJ M Q nx J)(hM:NeM M)(hN:NdM M)(hp:p<J.length)(hw:J[p].1.nd.size=0){y:Ml}(hy:y ∈ M)(hz:why y.1 y.2 J[p].1.tk J[p].2 (jbs J)=0):RgJ M Q nx (bindJ y.1.nm p J):=by
 unfold why at hz
 rw [whyT_zero] at hz
 obtain ⟨he,_,_,hU,hH,hR,hF⟩:=hz
 obtain ⟨f1,f2,f3⟩:=free_is he
 obtain ⟨g1,g2,g3⟩:=fB_to hF
 obtain ⟨o1,o2,o3⟩:=s_onM y.1.nm J
 rw [f1,o1] at g1;rw [f2,o2] at g2;rw [f3,o3] at g3
 refine h.bind hM hN hp hw hy hU ⟨?_,?_,?_⟩ hH fun ha j hj hne hnd e=>?_
 ·have:J[p].1.a<=y.1.a - onF (·.a) (atM y.1.nm) J:=g1
  omega
 ·have:J[p].1.b<=y.1.b - onF (·.b) (atM y.1.nm) J:=g2
  omega
 ·have:J[p].1.c<=y.1.c - onF (·.c) (atM y.1.nm) J:=g3
  omega
 ·have hm:J[j].1 ∈ jbs J:=List.mem_map_of_mem (f:=Prod.fst) (List.getElem_mem hj)
  exact hne (name_one h.nd hj hp (rep_to hR ha _ hm hnd e))
theorem bsF_yes {p:Nat}(h:(bsF M J p).2=true):∃ y ∈ M,y.1.nm=(bsF M J p).1/\why y.1 y.2 (jl J p).1.tk (jl J p).2 (jbs J)=0:=by
 unfold bsF at h ⊢
 cases hs:srt (jl J p).1.tk (jl J p).2 (jbs J) M with
 | nil=>rw [hs] at h;cases h
 | cons x E=>
  have hx:x ∈ able (jl J p).1.tk (jl J p).2 (jbs J) M:=(srt_perm (t:=(jl J p).1.tk) (tl:=(jl J p).2) (l:=jbs J) (L:=M)).subset (by rw [hs];simp)
  unfold able at hx
  obtain ⟨y,hy,e⟩:=List.mem_filterMap.1 hx
  unfold entry sco at e
  by_cases hw:why y.1 y.2 (jl J p).1.tk (jl J p).2 (jbs J)=0
  ·rw [if_pos hw] at e
   injection e with e
   exact ⟨y,hy,by show _=x.1;rw [<- e],hw⟩
  ·rw [if_neg hw] at e;cases e
theorem tryK_rg {u:List Nat}(h:RgJ M Q nx J)(hM:NeM M)(hN:NdM M)(hu:u.Nodup)(hw:∀ q ∈ u,q<J.length/\wB (jl J q).1.nd=true) :
  ∀ k,k<=u.length -> ∀ r,tryK bsF M J u k=some r->RgJ M Q nx r.1
 | 0,_,r,hr=>by injection hr with hr;subst hr;exact h
 | k+1,hk,r',hr'=>by
  have hk':k<u.length:=by omega
  have eu:u.getD k 0=u[k]:=by simp [List.getD,List.getElem?_eq_getElem hk']
  obtain ⟨r,hr,hb,rfl⟩:=tryK_succ hr'
  have ih:=tryK_rg h hM hN hu hw k (by omega) r hr
  obtain ⟨_,hl,h3⟩:=tryK_leads bestK hM hu hw k (by omega) r hr
  rw [eu] at hb ⊢
  have hnt:u[k] ∉ u.take k:=fun hm=>by
   obtain ⟨i,hi,e⟩:=List.getElem_of_mem hm
   rw [List.length_take] at hi
   rw [List.getElem_take] at e
   exact List.pairwise_iff_getElem.1 hu i k (by omega) hk' (by omega) e
  obtain ⟨q1,q2⟩:=hw _ (List.getElem_mem hk')
  have hq:u[k]<r.1.length:=by omega
  have e3:=h3 _ hnt
  obtain ⟨y,hy,hyn,hz⟩:=bsF_yes hb
  rw [jl_at hq] at hz
  show RgJ M Q nx (bindJ (bsF M r.1 u[k]).1 u[k] r.1)
  rw [<- hyn]
  exact ih.best hM hN hq (by rw [<- jl_at hq,e3];exact of_decide_eq_true q2) hy hz
theorem evK_rg {G:List Nat}(h:RgJ M Q nx J)(hM:NeM M)(hG:G.Nodup)(hb:∀ i ∈ G,i<J.length/\wB (jl J i).1.nd=false) :
  ∀ k,k<=G.length->RgJ M Q nx (evK J (namesAt (jbs J) G) k).1 /\ ∀ i ∈ G.take k,jl (evK J (namesAt (jbs J) G) k).1 i=restX (jl J i)
 | 0,_=>⟨h,fun i hi=>by simp at hi⟩
 | k+1,hk=>by
  have hk':k<G.length:=by omega
  obtain ⟨h1,h4⟩:=evK_rg h hM hG hb k (by omega)
  obtain ⟨_,h2,h3⟩:=evK_leads h.nd hG hb k (by omega)
  have hkn:k<(namesAt (jbs J) G).length:=by rw [namesAt_len];exact hk'
  rw [evK_succ hkn]
  obtain ⟨T,hT⟩:∃ T,T=evK J (namesAt (jbs J) G) k:=⟨_,rfl⟩
  rw [<- hT] at h1 h2 h3 h4 ⊢
  obtain ⟨b1,b2⟩:=hb G[k] (List.getElem_mem hk')
  have hl:T.1.length=J.length:=by simpa using congrArg List.length h2
  have hnt:G[k] ∉ G.take k:=fun hm=>by
   obtain ⟨i,hi,e⟩:=List.getElem_of_mem hm
   rw [List.length_take] at hi
   rw [List.getElem_take] at e
   exact List.pairwise_iff_getElem.1 hG i k (by omega) hk' (by omega) e
  have e3:=h3 _ hnt
  have hp:G[k]<T.1.length:=by omega
  have hnT:NdJ T.1:=by unfold NdJ;rw [h2];exact h.nd
  have es:(namesAt (jbs J) G)[k]=T.1[G[k]].1.nm:=by
   have e4:T.1[G[k]]=J[G[k]]:=by rw [<- jl_at hp,e3,jl_at b1]
   rw [e4]
   have:(namesAt (jbs J) G)[k]=(jat (jbs J) G[k]).nm:=by simp [namesAt]
   rw [this,jat_jbs b1]
  have epl:plJ (namesAt (jbs J) G)[k] T.1=(G[k]:Int):=plJ_is hnT hp es.symm
  unfold outS
  rw [epl,Int.toNat_natCast]
  refine ⟨?_,fun i hi=>?_⟩
  ·show RgJ M Q nx (T.1.set G[k] (restX (jl T.1 G[k])))
   rw [jl_at hp];exact h1.rest hM hp
  ·show jl (T.1.set G[k] (restX (jl T.1 G[k]))) i=_
   rw [List.take_succ_eq_append_getElem hk',List.mem_append,List.mem_singleton] at hi
   by_cases e:i=G[k]
   ·rw [e,jl_at (by rw [List.length_set];exact hp),List.getElem_set_self,e3]
   ·have hm:=hi.resolve_right e
    rw [<- h4 i hm]
    simp [jl,List.getD,List.getElem?_set_ne (Ne.symm e)]
theorem onM_range (s:ByteArray)(l:List Nat)(f:Nat->Jb):onM s (l.map f)=(l.filter fun i=>sE (f i).nd s).map fun i=>(f i).need:=by
 unfold onM
 rw [List.filter_map,List.map_map];rfl
theorem jbs_range (J:List Jl):jbs J=(List.range J.length).map fun i=>(jl J i).1:=by
 apply List.ext_getElem
 ·simp
 ·intro i h1 h2
  have hi:i<J.length:=by simpa using h1
  rw [List.getElem_map,List.getElem_map,List.getElem_range,jl_at hi]
theorem onM_out {G:List Nat}{T:List Jl}{s:ByteArray}(hs:s.size ≠ 0)(hl:T.length=J.length)(h1:∀ i ∈ G,jl T i=restX (jl J i))(h2:∀ i,i ∉ G->jl T i=jl J i):onM s (jbs T)=onM s (outJ G (jbs J) (jbs J).length):=by
 unfold outJ
 rw [jbs_range T,onM_range,onM_range,hl,List.filter_filter,jbs_length]
 have e:(List.range J.length).filter (fun i=>sE (jl T i).1.nd s)=(List.range J.length).filter (fun i=>sE (jat (jbs J) i).nd s && !G.contains i):=by
  refine List.filter_congr fun i hi=>?_
  have hi':i<J.length:=List.mem_range.1 hi
  rw [jat_jbs hi',<- jl_at hi']
  by_cases hG:i ∈ G
  ·rw [h1 i hG,List.contains_iff_mem.2 hG]
   rw [show sE (restX (jl J i)).1.nd s=false from tm_size (restX (jl J i)) s rfl hs];simp
  ·rw [h2 i hG,show G.contains i=false by simpa using hG];simp
 rw [e]
 refine List.map_congr_left fun i hi=>?_
 rw [List.mem_filter,Bool.and_eq_true] at hi
 have hi':i<J.length:=List.mem_range.1 hi.1
 rw [jat_jbs hi',<- jl_at hi',h2 i (fun hm=>by have:=hi.2.2;rw [List.contains_iff_mem.2 hm] at this;cases this)]
theorem whyT_four {e:Int}{N K U H R F:Bool}:whyT e N K U H R F=4 ↔ e=0/\N=true/\K=true/\U=true/\H=true/\R=false/\F=false:=by
 unfold whyT
 cases N <;> cases K <;> cases U <;> cases H <;> cases R <;> cases F <;> by_cases he:e=0 <;> simp [he]
theorem preG_rg (h:RgJ M Q nx J)(hM:NeM M)(hN:NdM M)(hp:p<J.length)(hw:wB (jl J p).1.nd=true):RgJ M Q nx (preG chF M J p).1:=by
 have hw0:J[p].1.nd.size=0:=by rw [jl_at hp] at hw;exact of_decide_eq_true hw
 unfold preG
 cases hc:choF M J p with
 | none=>
  have:(chF M J p).2.2=false:=by unfold chF;rw [hc];rfl
  rw [if_neg (by rw [this];simp)];exact h
 | some x=>
  have hy:(chF M J p).2.2=true:=by unfold chF;rw [hc];rfl
  rw [if_pos hy]
  obtain ⟨⟨G,g1,-,-,g4⟩,-⟩:=cho_is hc
  rw [plansOf_at g4] at g1
  have hnm:(chF M J p).1=M[x.1].1.nm:=by
   unfold chF;rw [hc]
   show nmAt M x.1=_
   unfold nmAt;simp [List.getD,g4]
  have hns:(chF M J p).2.1=namesAt (jbs J) G:=by
   unfold chF;rw [hc]
   show namesAt _ ((plansOf _ _ _ _ x.1).getD [])=_
   rw [plansOf_at g4,g1];rfl
  have hym:M[x.1] ∈ M:=List.getElem_mem g4
  rw [hnm,hns,namesAt_len]
  show RgJ M Q nx (bindJ M[x.1].1.nm p (evK J (namesAt (jbs J) G) G.length).1)
  rw [jl_at hp] at g1
  have gw:G.Nodup /\ ∀ i ∈ G,i<J.length/\wB (jl J i).1.nd=false:=by
   refine ⟨?_,fun i hi=>?_⟩
   ·rcases places_is g1 with ⟨_,rfl⟩ | ⟨k,_,_,_,rfl,_⟩
    ·exact List.nodup_nil
    ·exact (weak_nodup _).sublist (List.take_sublist _ _)
   ·obtain ⟨a,b,_⟩:=plan_each g1 i hi
    have ai:i<J.length:=by simpa [jbs] using a
    rw [jat_jbs ai] at b
    refine ⟨ai,?_⟩
    rw [jl_at ai,b]
    exact decide_eq_false (hM _ hym)
  obtain ⟨r1,r4⟩:=evK_rg h hM gw.1 gw.2 G.length (Nat.le_refl _)
  obtain ⟨_,r2,r3⟩:=evK_leads h.nd gw.1 gw.2 G.length (Nat.le_refl _)
  rw [List.take_length] at r3 r4
  obtain ⟨T,hT⟩:∃ T,T=(evK J (namesAt (jbs J) G) G.length).1:=⟨_,rfl⟩
  rw [<- hT] at r1 r2 r3 r4 ⊢
  have hl:T.length=J.length:=by simpa using congrArg List.length r2
  have hpT:p<T.length:=by omega
  have hpG:p ∉ G:=fun hm=>by have:=(gw.2 p hm).2;rw [hw] at this;cases this
  have eT:T[p]=J[p]:=by rw [<- jl_at hpT,r3 p hpG,jl_at hp]
  have ho:=onM_out (s:=M[x.1].1.nm) (hM _ hym) hl r4 r3
  -- what is there
  have key:M[x.1].1.up=true/\hasB M[x.1].2 J[p].2=true/\rep M[x.1].1.nm J[p].1.ap J[p].1.nm (jbs J)=false/\(freM M[x.1].1 (outJ G (jbs J) (jbs J).length)).2.2.2=0 /\
    fB J[p].1.a J[p].1.b J[p].1.c (freM M[x.1].1 (outJ G (jbs J) (jbs J).length)).1 (freM M[x.1].1 (outJ G (jbs J) (jbs J).length)).2.1 (freM M[x.1].1 (outJ G (jbs J) (jbs J).length)).2.2.1=true:=by
   unfold places at g1
   split at g1
   ·rename_i hz
    injection g1 with g1
    subst g1
    have e0:outJ [] (jbs J) (jbs J).length=jbs J:=by
     unfold outJ
     rw [List.filter_eq_self.2 (fun a _=>by simp)]
     apply List.ext_getElem
     ·simp
     ·intro i h1 h2
      have hi:i<J.length:=by simpa [jbs] using h2
      rw [List.getElem_map,List.getElem_range,jat_jbs hi,List.getElem_map]
    unfold why at hz
    rw [whyT_zero] at hz
    obtain ⟨he,_,_,hU,hH,hR,hF⟩:=hz
    rw [e0]
    exact ⟨hU,hH,hR,he,hF⟩
   ·split at g1
    ·rename_i h4
     rw [Option.map_eq_some_iff] at g1
     obtain ⟨k,hk,rfl⟩:=g1
     have hok:=(fewest_le hk).2.2
     unfold okK at hok
     rw [Bool.and_eq_true] at hok
     unfold why at h4
     rw [whyT_four] at h4
     obtain ⟨_,_,_,hU,hH,hR,_⟩:=h4
     exact ⟨hU,hH,hR,of_decide_eq_true hok.1,hok.2⟩
    ·cases g1
  obtain ⟨hU,hH,hR,he,hF⟩:=key
  obtain ⟨f1,f2,f3⟩:=free_is he
  obtain ⟨b1,b2,b3⟩:=fB_to hF
  obtain ⟨o1,o2,o3⟩:=s_onM M[x.1].1.nm T
  rw [ho] at o1 o2 o3
  rw [f1,o1] at b1;rw [f2,o2] at b2;rw [f3,o3] at b3
  refine r1.bind hM hN hpT (by rw [eT];exact hw0) hym hU ⟨by rw [eT];omega,by rw [eT];omega,by rw [eT];omega⟩ (by rw [eT];exact hH) fun ha j hj hne hnd e=>?_
  have hjJ:j<J.length:=by omega
  have hjG:j ∉ G:=fun hm=>by
   have h5:=r4 j hm
   rw [jl_at hj] at h5
   rw [h5] at hnd
   exact hM _ hym (by rw [<- hnd];rfl)
  have eJ:T[j]=J[j]:=by rw [<- jl_at hj,r3 j hjG,jl_at hjJ]
  rw [eT,eJ] at e
  rw [eT] at ha
  rw [eJ] at hnd
  have hm:J[j].1 ∈ jbs J:=List.mem_map_of_mem (f:=Prod.fst) (List.getElem_mem hjJ)
  exact hne (name_one h.nd hjJ hp (rep_to hR ha _ hm hnd e))
theorem unitG_rg {X:List Jl × List Ac}{u:List Nat}(h:RgJ M Q nx X.1)(hM:NeM M)(hN:NdM M)(h0:0<u.length)(hu:u.Nodup)(hw:∀ q ∈ u,q<X.1.length/\wB (jl X.1 q).1.nd=true):RgJ M Q nx (unitG bsF chF M X u).1:=by
 cases hr:tryK bsF M X.1 u u.length with
 | some r=>rw [unitG_some hr];exact tryK_rg h hM hN hu hw _ (Nat.le_refl _) r hr
 | none=>
  rw [unitG_none hr]
  have e0:u.getD 0 0=u[0]:=by simp [List.getD,List.getElem?_eq_getElem h0]
  rw [e0]
  split
  ·obtain ⟨a,b⟩:=hw _ (List.getElem_mem h0)
   exact preG_rg h hM hN a b
  ·exact h
theorem passK_rg (h:RgJ M Q nx J)(hM:NeM M)(hN:NdM M):∀ k,k<=(unF J).length->RgJ M Q nx (passK bsF chF M J (unF J) k).1
 | 0,_=>h
 | k+1,hk=>by
  have hk':k<(unF J).length:=by omega
  have hm:=List.getElem_mem hk'
  have hwU:∀ u ∈ unF J,∀ q ∈ u,q<J.length/\wB (jl J q).1.nd=true:=fun u hu q hq=>⟨uniK.lt J u hu q hq,(fitU J).2 u hu q hq⟩
  rw [passK_succ hk']
  refine unitG_rg (passK_rg h hM hN k (by omega)) hM hN (uniK.ne J _ hm) ((List.pairwise_flatten.1 (fitU J).1).1 _ hm) fun q hq=>?_
  obtain ⟨a,b⟩:=passK_wait bestK choK fitC hM h.nd (fitU J).1 (uniK.ne J) hwU hk' q hq
  exact ⟨a,by rw [b];exact (hwU _ hm q hq).2⟩
end
end
section
open Go.RowKit
structure Rg (S:Sg):Prop where
 mN:∀ x ∈ S.M,x.1.ok x.2=true/\0<=x.1.un/\x.1.un<=1073741828
 qN:∀ q ∈ S.Q,queueB q.1 q.2.1 q.2.2.1 q.2.2.2=true
 j:RgJ S.M S.Q S.nx S.J
theorem ok_name {m:Mc}{l:List Lb}(h:m.ok l=true):m.nm.size ≠ 0/\rB m.a m.b m.c=true:=by
 unfold Mc.ok nodeB at h
 simp only [Bool.and_eq_true] at h
 exact ⟨name_ne h.1.1,h.1.2⟩
theorem que_name {nm:ByteArray}{a b c:Int}(h:queueB nm a b c=true):nm.size ≠ 0/\rB a b c=true:=by
 unfold queueB at h
 simp only [Bool.and_eq_true] at h
 exact ⟨name_ne h.1,h.2⟩
theorem rB_ge {a b c:Int}(h:rB a b c=true):0<=a/\0<=b/\0<=c:=by have:=rB_to h;omega
theorem Rg.neM {S:Sg}(h:Rg S):NeM S.M:=fun x hx=>(ok_name (h.mN x hx).1).1
theorem nodup_of {K:List ByteArray}(h:AscK K):K.Nodup:=by
 refine List.pairwise_iff_getElem.2 fun i j hi hj hij e=>?_
 have:=h i j hi hj hij
 rw [e,sL_irrefl] at this;cases this
theorem hasM_iff {s:ByteArray}{M:List Ml}:hasK s (keyM M)=true ↔ ∃ y ∈ M,y.1.nm=s:=by
 unfold hasK
 rw [List.any_eq_true]
 constructor
 ·rintro ⟨x,hx,he⟩
  obtain ⟨y,hy,rfl⟩:=List.mem_map.1 hx
  exact ⟨y,hy,sE_iff.1 he⟩
 ·rintro ⟨y,hy,rfl⟩
  exact ⟨_,List.mem_map_of_mem (f:=fun q:Ml=>q.1.nm) hy,sE_refl _⟩
theorem hasQ_iff {s:ByteArray}{Q:List Qx}:hasK s (keyQ Q)=true ↔ ∃ q ∈ Q,q.1=s:=by
 unfold hasK
 rw [List.any_eq_true]
 constructor
 ·rintro ⟨x,hx,he⟩
  obtain ⟨y,hy,rfl⟩:=List.mem_map.1 hx
  exact ⟨y,hy,sE_iff.1 he⟩
 ·rintro ⟨y,hy,rfl⟩
  exact ⟨_,List.mem_map_of_mem (f:=fun q:Qx=>q.1) hy,sE_refl _⟩
theorem atM_key {s:ByteArray}{M:List Ml}(hA:AscK (keyM M))(h:hasK s (keyM M)=true):∃ hl:lbK s (keyM M)<M.length,M[lbK s (keyM M)].1.nm=s:=by
 have h1:=hasK_lt h
 have h2:=hasK_at hA h1
 rw [h] at h2
 refine ⟨by simpa using h1,?_⟩
 have h3:=sE_iff.1 h2.symm
 rwa [List.getElem_map] at h3
theorem atQ_key {s:ByteArray}{Q:List Qx}(hA:AscK (keyQ Q))(h:hasK s (keyQ Q)=true):∃ hl:lbK s (keyQ Q)<Q.length,Q[lbK s (keyQ Q)].1=s:=by
 have h1:=hasK_lt h
 have h2:=hasK_at hA h1
 rw [h] at h2
 refine ⟨by simpa using h1,?_⟩
 have h3:=sE_iff.1 h2.symm
 rwa [List.getElem_map] at h3
theorem mem_erase {α:Type}{l:List α}{i k:Nat}(hk:k<l.length)(h:k ≠ i):l[k] ∈ l.eraseIdx i:=by
 rw [List.mem_eraseIdx_iff_getElem]
 exact ⟨k,hk,h,rfl⟩
theorem mem_ins {α:Type}{l:List α}{i:Nat}{x y:α}:y ∈ l.take i ++ x :: l.drop i ↔ y=x ∨ y ∈ l:=by
 rw [List.mem_append,List.mem_cons]
 constructor
 ·rintro (h | h | h)
  ·exact .inr (List.mem_of_mem_take h)
  ·exact .inl h
  ·exact .inr (List.mem_of_mem_drop h)
 ·rintro (h | h)
  ·exact .inr (.inl h)
  ·have:=h
   rw [<- List.take_append_drop i l,List.mem_append] at this
   rcases this with h | h
   ·exact .inl h
   ·exact .inr (.inr h)
section
variable {m:Int}{S:Sg}
theorem Rg.new:Rg Sg.new:=⟨fun x hx=>(by cases hx),fun x hx=>(by cases hx),⟨List.Pairwise.nil,fun x hx=>(by cases hx),List.nodup_nil,fun x hx=>(by cases hx),fun x hx=>(by cases hx),fun x hx=>(by cases hx),fun x hx=>(by cases hx),List.Pairwise.nil⟩⟩
theorem Rg.addN (h:Rg S)(hI:In2 m S){nm:ByteArray}{a b c:Int}{l:List Lb}(hv:nodeB nm a b c l=true):Rg (addN S nm a b c l).1:=by
 unfold Go.Proofs.YtccccbofcnmdiaaGreat.addN
 split
 ·exact h
 ·rename_i hh
  split
  ·exact h
  ·have hn:=ok_name (m:=(newM S.ck nm a b c none 0 0 l).1) (l:=l) hv
   have hck:=hI.ck
   have hno:∀ y ∈ S.M,y.1.nm ≠ nm:=fun y hy e=>hh (hasM_iff.2 ⟨y,hy,e⟩)
   refine ⟨fun x hx=>?_,h.qN,h.j.mach (fun x _ _ y hy e1 e2=>⟨y,mem_ins.2 (.inr hy),e1,e2⟩) fun y' hy'=>?_⟩
   ·rcases mem_ins.1 hx with rfl | e
    ·exact ⟨hv,show 0<=S.ck+4 by omega,show S.ck+4<=1073741828 by omega⟩
    ·exact h.mN x e
   ·rcases mem_ins.1 hy' with rfl | e
    ·refine .inr ⟨fun x hx e=>?_,rB_ge hn.2⟩
     have e':x.1.nd=nm:=e
     obtain ⟨_,y,hy,e2,_⟩:=h.j.hm x hx (by rw [e'];exact hn.1)
     exact hno y hy (e2.trans e')
    ·exact .inl ⟨y',e,rfl,rfl,rfl,rfl,rfl⟩
theorem Rg.dropN (h:Rg S)(hI:In2 m S)(s:ByteArray):Rg (dropN' S s).1:=by
 unfold dropN'
 split
 ·rename_i hh
  obtain ⟨hl,hs⟩:=atM_key hI.aM hh
  have hs0:s.size ≠ 0:=by rw [<- hs];exact h.neM _ (List.getElem_mem hl)
  refine ⟨fun x hx=>h.mN x (List.mem_of_mem_eraseIdx hx),h.qN,(h.j.relJ h.neM s).mach (fun x hx _ y hy e1 e2=>⟨y,?_,e1,e2⟩) fun y' hy'=>.inl ⟨y',List.mem_of_mem_eraseIdx hy',rfl,rfl,rfl,rfl,rfl⟩⟩
  obtain ⟨k,hk,rfl⟩:=List.getElem_of_mem hy
  exact mem_erase hk fun e=>by
   subst e
   exact relJ_off hs0 x hx (e1.symm.trans hs)
 ·exact h
theorem Rg.addQ (h:Rg S){q:Qx}(hv:queueB q.1 q.2.1 q.2.2.1 q.2.2.2=true):Rg (addQ S q).1:=by
 unfold Go.Proofs.YtccccbofcnmdiaaGreat.addQ
 split
 ·exact h
 ·rename_i hh
  split
  ·exact h
  ·have hn:=que_name hv
   refine ⟨h.mN,fun x hx=>?_,h.j.ques (fun x hx=>?_) fun q' hq'=>?_⟩
   ·rcases mem_ins.1 hx with rfl | e
    ·exact hv
    ·exact h.qN x e
   ·obtain ⟨y,hy,e⟩:=hasQ_iff.1 (h.j.qu x hx)
    exact hasQ_iff.2 ⟨y,mem_ins.2 (.inr hy),e⟩
   ·rcases mem_ins.1 hq' with rfl | e
    ·refine .inr ⟨fun x hx e=>hh ?_,rB_ge hn.2⟩
     rw [<- e];exact h.j.qu x hx
    ·exact .inl e
theorem Rg.dropQ (h:Rg S)(hI:In2 m S)(s:ByteArray):Rg (dropQ S s).1:=by
 unfold Go.Proofs.YtccccbofcnmdiaaGreat.dropQ
 split
 ·rename_i hh
  split
  ·exact h
  ·rename_i hj
   obtain ⟨hl,hs⟩:=atQ_key hI.aQ hh
   refine ⟨h.mN,fun x hx=>h.qN x (List.mem_of_mem_eraseIdx hx),h.j.ques (fun x hx=>?_) fun q' hq'=>.inl (List.mem_of_mem_eraseIdx hq')⟩
   obtain ⟨y,hy,e⟩:=hasQ_iff.1 (h.j.qu x hx)
   obtain ⟨k,hk,rfl⟩:=List.getElem_of_mem hy
   refine hasQ_iff.2 ⟨_,mem_erase hk fun e2=>?_,e⟩
   subst e2
   refine hj ?_
   unfold hasJ
   rw [List.any_eq_true]
   exact ⟨x,hx,sE_iff.2 (e.symm.trans hs)⟩
 ·exact h
theorem Rg.subJ (h:Rg S)(hI:In2 m S){nm qu:ByteArray}{pr a b c:Int}{ap ga:ByteArray}{sz:Int}{l:List Lb}(hv:taskB nm qu pr a b c l ap ga sz=true):Rg (subJ S nm qu pr a b c ap ga sz l).1:=by
 unfold Go.Proofs.YtccccbofcnmdiaaGreat.subJ
 split
 ·exact h
 ·rename_i hpl
  split
  ·exact h
  ·rename_i hh
   split
   ·exact h
   ·split
    ·exact h
    ·rename_i hadm
     split
     ·exact h
     ·have hq:hasK qu (keyQ S.Q)=true:=by simpa using hh
      have hno:fnd nm 0 (jbs S.J) = -1:=by
       rcases fnd_cases nm (jbs S.J) 0 with e | ⟨p,hp,h1,h2⟩
       ·exact e
       ·exact absurd (show 0<=plJ nm S.J by show 0<=fnd nm 0 (jbs S.J);rw [h1];omega) hpl
      refine ⟨h.mN,h.qN,h.j.add h.neM hv rfl hI.nx.1 (show (0:Int)<=0 by omega) rfl (fun y hy e=>fnd_none hno y hy (sE_iff.2 e)) hq fun q hqm e=>?_⟩
      obtain ⟨hl,hs⟩:=atQ_key hI.aQ hq
      have eq:ql S.Q (lbK qu (keyQ S.Q))=q:=by
       obtain ⟨k,hk,rfl⟩:=List.getElem_of_mem hqm
       have:lbK qu (keyQ S.Q)=k:=by
        have hnd:=nodup_of hI.aQ
        have e2:(keyQ S.Q)[lbK qu (keyQ S.Q)]'(by simpa using hl)=(keyQ S.Q)[k]'(by simpa using hk):=by rw [List.getElem_map,List.getElem_map,hs];exact e.symm
        rcases Nat.lt_trichotomy (lbK qu (keyQ S.Q)) k with c | c | c
        ·exact absurd e2 (List.pairwise_iff_getElem.1 hnd _ _ (by simpa using hl) (by simpa using hk) c)
        ·exact c
        ·exact absurd e2.symm (List.pairwise_iff_getElem.1 hnd _ _ (by simpa using hk) (by simpa using hl) c)
       rw [this];simp [ql,List.getD,hk]
      have h0:admQ q S.J a b c=0:=by rw [<- eq];exact Decidable.not_not.1 hadm
      obtain ⟨x,y,z,v,hu⟩:∃ x y z v,usdJ q.1 S.J=(x,y,z,v):=⟨_,_,_,_,rfl⟩
      unfold admQ adm at h0
      rw [hu] at h0
      simp only at h0
      split at h0
      ·split at h0
       ·rename_i hv0
        split at h0
        ·rename_i hf
         subst hv0
         unfold usdJ at hu
         obtain ⟨_,u1,u2,u3⟩:=sm_zero hu
         obtain ⟨o1,o2,o3⟩:=s_ofQ q.1 S.J
         obtain ⟨f1,f2,f3⟩:=fB_to hf
         rw [o1] at u1;rw [o2] at u2;rw [o3] at u3
         exact ⟨show _+a<=_ by omega,show _+b<=_ by omega,show _+c<=_ by omega⟩
        ·exact absurd h0 (by omega)
       ·rename_i hv0;exact absurd h0 hv0
      ·exact absurd h0 (by omega)
theorem Rg.canJ (h:Rg S)(s:ByteArray):Rg (canJ S s).1:=by
 unfold Go.Proofs.YtccccbofcnmdiaaGreat.canJ
 split
 ·exact h
 ·rename_i hpl
  obtain ⟨p,hp,e,_⟩:=pl_at hpl
  rw [e,Int.toNat_natCast]
  exact ⟨h.mN,h.qN,h.j.erase hp⟩
theorem Rg.finJ (h:Rg S)(s:ByteArray):Rg (finJ S s).1:=by
 unfold Go.Proofs.YtccccbofcnmdiaaGreat.finJ
 split
 ·exact h
 ·rename_i hpl
  obtain ⟨p,hp,e,_⟩:=pl_at hpl
  rw [e,Int.toNat_natCast]
  split
  ·exact h
  ·exact ⟨h.mN,h.qN,h.j.erase hp⟩
theorem mod_at {M:List Ml}{f:Ml->Ml}{i k:Nat}(hk:k<M.length):∃ h:k<(M.modify i f).length,(M.modify i f)[k]=if i=k then f M[k] else M[k]:=by
 refine ⟨by rw [List.length_modify];exact hk,?_⟩
 rw [List.getElem_modify]
theorem Rg.beatN (h:Rg S)(hI:In2 m S)(s:ByteArray):Rg (beatN S s).1:=by
 unfold Go.Proofs.YtccccbofcnmdiaaGreat.beatN
 split
 ·have hck:=hI.ck
  obtain ⟨i,hi⟩:∃ i,i=lbK s (keyM S.M):=⟨_,rfl⟩
  rw [<- hi]
  have mem:∀ y' ∈ S.M.modify i (upX S.ck),∃ y ∈ S.M,y' = y ∨ y' = upX S.ck y:=fun y' hy'=>by
   obtain ⟨k,hk,rfl⟩:=List.getElem_of_mem hy'
   rw [List.length_modify] at hk
   obtain ⟨_,e⟩:=mod_at (f:=upX S.ck) (i:=i) hk
   refine ⟨S.M[k],List.getElem_mem hk,?_⟩
   rw [e]
   split
   ·exact .inr rfl
   ·exact .inl rfl
  refine ⟨fun x hx=>?_,h.qN,h.j.mach (fun x _ _ y hy e1 e2=>?_) fun y' hy'=>?_⟩
  ·obtain ⟨y,hy,rfl | rfl⟩:=mem x hx
   ·exact h.mN _ hy
   ·exact ⟨(h.mN y hy).1,show 0<=S.ck+4 by omega,show S.ck+4<=1073741828 by omega⟩
  ·obtain ⟨k,hk,rfl⟩:=List.getElem_of_mem hy
   obtain ⟨hk2,e⟩:=mod_at (f:=upX S.ck) (i:=i) hk
   refine ⟨_,List.getElem_mem hk2,?_⟩
   rw [e]
   split
   ·exact ⟨e1,rfl⟩
   ·exact ⟨e1,e2⟩
  ·obtain ⟨y,hy,rfl | rfl⟩:=mem y' hy'
   ·exact .inl ⟨_,hy,rfl,rfl,rfl,rfl,rfl⟩
   ·exact .inl ⟨_,hy,rfl,rfl,rfl,rfl,rfl⟩
 ·exact h
theorem keyM_set {M:List Ml}{i:Nat}{y:Ml}(h:∀ hi:i<M.length,y.1.nm=M[i].1.nm):keyM (M.set i y)=keyM M:=by
 show (M.set i y).map _=_
 exact map_set_same h
theorem Rg.expS {T:Sg × List Ac}{i:Nat}(h:Rg T.1)(hA:AscK (keyM T.1.M)):Rg (expS T i).1/\keyM (expS T i).1.M=keyM T.1.M:=by
 unfold Go.Proofs.YtccccbofcnmdiaaGreat.expS
 split
 ·rename_i hl
  have hi:=late_lt hl
  have em:ml T.1.M i=T.1.M[i]:=ml_at' hi
  rw [em]
  have hs0:=h.neM _ (List.getElem_mem hi)
  refine ⟨⟨fun x hx=>?_,h.qN,(h.j.relJ h.neM T.1.M[i].1.nm).mach (fun x hx _ y hy e1 e2=>⟨y,?_,e1,e2⟩) fun y' hy'=>?_⟩,keyM_set fun _=>rfl⟩
  ·rcases List.mem_or_eq_of_mem_set hx with e | rfl
   ·exact h.mN x e
   ·have hm:=h.mN T.1.M[i] (List.getElem_mem hi)
    exact ⟨hm.1,hm.2⟩
  ·obtain ⟨k,hk,rfl⟩:=List.getElem_of_mem hy
   have hne:i ≠ k:=fun e=>by
    subst e
    exact relJ_off hs0 x hx e1.symm
   have:(T.1.M.set i (downX T.1.M[i]))[k]'(by rw [List.length_set];exact hk)=T.1.M[k]:=by rw [List.getElem_set_ne hne]
   rw [<- this];exact List.getElem_mem _
  ·rcases List.mem_or_eq_of_mem_set hy' with e | rfl
   ·exact .inl ⟨_,e,rfl,rfl,rfl,rfl,rfl⟩
   ·exact .inl ⟨_,List.getElem_mem hi,rfl,rfl,rfl,rfl,rfl⟩
 ·exact ⟨h,rfl⟩
theorem Rg.expK (h:Rg S)(hA:AscK (keyM S.M)):∀ k,Rg (expK S k).1/\keyM (expK S k).1.M=keyM S.M
 | 0=>⟨h,rfl⟩
 | k+1=>by
  obtain ⟨h1,h2⟩:=Rg.expK h hA k
  rw [expK_succ]
  obtain ⟨g1,g2⟩:=h1.expS (i:=k) (by rw [h2];exact hA)
  exact ⟨g1,g2.trans h2⟩
theorem Rg.tick (h:Rg S)(hI:In2 m S):Rg (tickG bsF chF unF S).1:=by
 unfold tickG
 split
 ·exact h
 ·have h1:Rg { S with ck:=S.ck+1 }:=⟨h.mN,h.qN,h.j⟩
  obtain ⟨T,hT⟩:∃ T,T=expG { S with ck:=S.ck+1 }:=⟨_,rfl⟩
  obtain ⟨g1,g2⟩:=h1.expK hI.aM S.M.length
  have e1:Rg T.1:=by rw [hT];exact g1
  have e2:keyM T.1.M=keyM S.M:=by rw [hT];exact g2
  rw [<- hT]
  exact ⟨e1.mN,e1.qN,passK_rg e1.j e1.neM (by have:=nodup_of hI.aM;rw [<- e2] at this;exact this) _ (Nat.le_refl _)⟩
theorem Rg.step (h:Rg S)(hI:In2 m S)(v:Ov):Rg (stF S v).1:=by
 unfold stF stepG
 split
 ·rename_i hb
  unfold opG
  by_cases h1:v.k=1
  ·rw [if_pos h1]
   rw [opB_1 h1] at hb
   simp only [Bool.and_eq_true] at hb
   exact h.addN hI hb.1.1.1
  rw [if_neg h1]
  by_cases h2:v.k=2
  ·rw [if_pos h2];exact h.dropN hI _
  rw [if_neg h2]
  by_cases h3:v.k=3
  ·rw [if_pos h3]
   rw [opB_3 h3] at hb
   simp only [Bool.and_eq_true] at hb
   exact h.addQ hb.1.1.1
  rw [if_neg h3]
  by_cases h4:v.k=4
  ·rw [if_pos h4];exact h.dropQ hI _
  rw [if_neg h4]
  by_cases h5:v.k=5
  ·rw [if_pos h5]
   rw [opB_5 h5] at hb
   simp only [Bool.and_eq_true] at hb
   exact h.subJ hI hb.1.1.1
  rw [if_neg h5]
  by_cases h6:v.k=6
  ·rw [if_pos h6];exact h.canJ _
  rw [if_neg h6]
  by_cases h7:v.k=7
  ·rw [if_pos h7];exact h.finJ _
  rw [if_neg h7]
  by_cases h8:v.k=8
  ·rw [if_pos h8];exact h.beatN hI _
  rw [if_neg h8]
  exact h.tick hI
 ·exact h
theorem allR_on (h:Rg S)(p:Jb->Bool):allR ((((jbs S.J).filter p)).map Jb.need):=fun t ht=>by
 obtain ⟨j,hj,rfl⟩:=List.mem_map.1 ht
 obtain ⟨x,hx,rfl⟩:=List.mem_map.1 (List.mem_filter.1 hj).1
 have:=(h.j.tk x hx).1
 unfold Kt.ok taskB at this
 simp only [Bool.and_eq_true] at this
 exact this.1.1.1.2
theorem Rg.free (h:Rg S):∀ y ∈ S.M,(freM y.1 (jbs S.J)).2.2.2=0:=fun y hy=>by
 obtain ⟨⟨f1,f2,f3⟩,_⟩:=h.j.be y hy
 obtain ⟨o1,o2,o3⟩:=s_onM y.1.nm S.J
 have hall:allR (onM y.1.nm (jbs S.J)):=allR_on h _
 have hge:=allR_ge hall
 have hr:=(ok_name (h.mN y hy).1).2
 have hr2:=rB_to hr
 have e1:rB (0+s1 (onM y.1.nm (jbs S.J))) (0+s2 (onM y.1.nm (jbs S.J))) (0+s3 (onM y.1.nm (jbs S.J)))=true:=rB_of (by omega)
 unfold freM
 rw [sm_mk (by decide) hall e1]
 simp only
 rw [fre_0]
 exact (sb_mk hr e1 (rB_of (by omega))).1
theorem Rg.used (h:Rg S):∀ q ∈ S.Q,(usdJ q.1 S.J).2.2.2=0/\fB (usdJ q.1 S.J).1 (usdJ q.1 S.J).2.1 (usdJ q.1 S.J).2.2.1 q.2.1 q.2.2.1 q.2.2.2=true:=fun q hq=>by
 obtain ⟨f1,f2,f3⟩:=h.j.us q hq
 obtain ⟨o1,o2,o3⟩:=s_ofQ q.1 S.J
 have hall:allR (ofQ q.1 (jbs S.J)):=allR_on h _
 have hge:=allR_ge hall
 have hr2:=rB_to (que_name (h.qN q hq)).2
 have e1:rB (0+s1 (ofQ q.1 (jbs S.J))) (0+s2 (ofQ q.1 (jbs S.J))) (0+s3 (ofQ q.1 (jbs S.J)))=true:=rB_of (by omega)
 unfold usdJ
 rw [sm_mk (by decide) hall e1]
 refine ⟨rfl,decide_eq_true ?_⟩
 show 0+_<=_/\0+_<=_/\0+_<=_
 omega
end
end
end Go.Proofs.YtccccbofcnmdiaaGreat
