/- Lemmas that the law stands on. No condition. -/
import Derived.Test.YtccccbofcnmdiaaGreatM26
namespace Go.Proofs.YtccccbofcnmdiaaGreat
set_option linter.unusedSimpArgs false
set_option linter.unusedVariables false
set_option maxRecDepth 100000
set_option maxHeartbeats 51200000
section
open Go.RowKit
abbrev Bst:=List Ml->List Jl->Nat->ByteArray × Bool
structure BestK (bs:Bst):Prop where
 calls:∀ (A0:Option Addr) (N c0:Nat) (L:List Ml) (A:Option Addr) (n cap:Nat) (J:List Jl) (p:Nat) (w:World) (hp:p<J.length),N=L.length->N<=1000000->RdM w A0 (mcs L)->MsOk w L->n=J.length->n<=1000000->RdJ w A (jbs J)->KtOk w J[p].1.tk J[p].2 ->
  Calls Tryz.prog 189 #[.slice A0 N c0,.slice A n cap,.agg J[p].1.tk.arr] w fun e w'=>e = .returned (.tuple #[.string (bs L J p).1,.bool (bs L J p).2])/\Below w.heap.size w w'
 mem:∀ L J p,(bs L J p).2=true -> ∃ x ∈ L,x.1.nm=(bs L J p).1
theorem jl_no {J:List Jl} {p:Nat} (h:J.length<=p):jl J p=noJ:=by unfold jl;rw [List.getD_eq_getElem?_getD,List.getElem?_eq_none h];rfl
def bindJ (s:ByteArray) (p:Nat) (J:List Jl):List Jl:=J.set p (goX s (jl J p))
def tryK (bs:Bst) (M:List Ml) (J:List Jl) (u:List Nat):Nat->Option (List Jl × List Ac)
 | 0=>some (J,[])
 | k+1=>(tryK bs M J u k).bind fun r=>if (bs M r.1 (u.getD k 0)).2 then some (bindJ (bs M r.1 (u.getD k 0)).1 (u.getD k 0) r.1,r.2 ++ [(1,(jl r.1 (u.getD k 0)).1.nm,(bs M r.1 (u.getD k 0)).1)]) else none
def core (x:Jl):Jl:=({ x.1 with nd:=⟨#[]⟩,bo:=0 },x.2)
theorem map_set_same {α β:Type} {f:α->β} {l:List α} {p:Nat} {y:α} (h:∀ hp:p<l.length,f y=f l[p]):(l.set p y).map f=l.map f:=by
 apply List.ext_getElem (by simp)
 intro i h1 h2
 simp only [List.getElem_map,List.getElem_set]
 split
 ·next e=>subst e;exact h (by simpa using h2)
 ·rfl
theorem bind_core {s:ByteArray} {p:Nat} {J:List Jl}:(bindJ s p J).map core=J.map core:=map_set_same fun hp=>by rw [jl_at hp];rfl
theorem core_mem {J K:List Jl} (h:J.map core=K.map core) {x:Jl} (hx:x ∈ J):∃ y ∈ K,core y=core x:=by
 have:core x ∈ K.map core:=by rw [<- h];exact List.mem_map_of_mem hx
 obtain ⟨y,hy,e⟩:=List.mem_map.1 this
 exact ⟨y,hy,e⟩
theorem core_lab {x y:Jl} (h:core y=core x):y.1.A=x.1.A/\y.1.n=x.1.n/\y.1.cp=x.1.cp/\y.2=x.2:=by
 unfold core at h
 injection h with h1 h2
 injection h1
 exact ⟨‹_›,‹_›,‹_›,h2⟩
theorem core_tk {x y:Jl} (h:core y=core x):y.1.tk=x.1.tk/\y.2=x.2:=by
 unfold core at h
 injection h with h1 h2
 injection h1
 exact ⟨by simp only [Jb.tk, *],h2⟩
section
variable {bs:Bst} {M:List Ml} {J:List Jl} {u:List Nat} {r:List Jl × List Ac}
theorem tryK_succ {k:Nat} {r':List Jl × List Ac} (h:tryK bs M J u (k+1)=some r'):∃ r,tryK bs M J u k=some r/\(bs M r.1 (u.getD k 0)).2=true/\r' = (bindJ (bs M r.1 (u.getD k 0)).1 (u.getD k 0) r.1,r.2 ++ [(1,(jl r.1 (u.getD k 0)).1.nm,(bs M r.1 (u.getD k 0)).1)]):=by
 unfold tryK at h
 cases hr:tryK bs M J u k with
 | none=>rw [hr] at h;cases h
 | some r=>
  rw [hr] at h
  simp only [Option.bind_some] at h
  split at h
  ·next hb=>injection h with h;exact ⟨r,rfl,hb,h.symm⟩
  ·cases h
theorem tryK_core:∀ {k:Nat} {r:List Jl × List Ac},tryK bs M J u k=some r->r.1.map core=J.map core/\r.2.length<=k
 | 0,r,h=>by injection h with h;subst h;exact ⟨rfl,Nat.le_refl _⟩
 | k+1,r',h=>by
  obtain ⟨r,hr,_,rfl⟩:=tryK_succ h
  obtain ⟨h1,h2⟩:=tryK_core hr
  exact ⟨bind_core.trans h1,by simp;exact h2⟩
theorem tryK_len {k:Nat} {r:List Jl × List Ac} (h:tryK bs M J u k=some r):r.1.length=J.length:=by
 have:=congrArg List.length (tryK_core h).1
 simpa using this
theorem tryK_bo (hb:∀ x ∈ J,-2305843009213693952<=x.1.bo/\x.1.bo<=2305843009213693952):∀ {k:Nat} {r:List Jl × List Ac},tryK bs M J u k=some r -> ∀ x ∈ r.1,-2305843009213693952<=x.1.bo/\x.1.bo<=2305843009213693952+(k:Int)
 | 0,r,h=>by injection h with h;subst h;exact fun x hx=>⟨(hb x hx).1,by have:=(hb x hx).2;omega⟩
 | k+1,r',h=>by
  obtain ⟨r,hr,_,rfl⟩:=tryK_succ h
  intro x hx
  have ih:=tryK_bo hb hr
  rcases List.mem_or_eq_of_mem_set hx with hx | rfl
  ·have:=ih x hx;exact ⟨this.1,by omega⟩
  ·by_cases hp:u.getD k 0<r.1.length
   ·rw [jl_at hp]
    have:=ih _ (List.getElem_mem hp)
    exact ⟨by show _<=_+1;omega,by show _+1<=_;omega⟩
   ·rw [jl_no (by omega)]
    exact ⟨by show (_:Int)<=0+1;omega,by show (0:Int)+1<=_;omega⟩
theorem tryK_jz (hn:∀ L J p,(bs L J p).2=true -> ∃ x ∈ L,x.1.nm=(bs L J p).1) (hM:∀ x ∈ M,x.1.nm.size<=140737488351232) (hJ:∀ x ∈ J,JzOk x):∀ {k:Nat} {r:List Jl × List Ac},tryK bs M J u k=some r -> ∀ x ∈ r.1,JzOk x
 | 0,r,h=>by injection h with h;subst h;exact hJ
 | k+1,r',h=>by
  obtain ⟨r,hr,hb,rfl⟩:=tryK_succ h
  intro x hx
  have ih:=tryK_jz hn hM hJ hr
  obtain ⟨m,hm,he⟩:=hn _ _ _ hb
  rcases List.mem_or_eq_of_mem_set hx with hx | rfl
  ·exact ih x hx
  ·refine JzOk.go ?_ (by rw [<- he];exact hM m hm)
   by_cases hp:u.getD k 0<r.1.length
   ·rw [jl_at hp];exact ih _ (List.getElem_mem hp)
   ·rw [jl_no (by omega)];exact ⟨by decide,by decide,by decide,by decide,by decide⟩
end
theorem range_tk {w:World} {r o:Nat} {j:Jb} (h:w.rangeAt r o j.arr.toList):w.rangeAt r o j.tk.arr.toList:=fun i u hu=>h i u (by
 have e:j.arr.toList=j.tk.arr.toList ++ [.int .i64 j.sq,.string j.nd,.int .i64 j.bo]:=rfl
 rw [e,List.getElem?_append_left (List.getElem?_eq_some_iff.1 hu).1];exact hu)
def RdN (w:World) (A:Option Addr) (u:List Nat):Prop:=∀ k (h:k<u.length),∃ g o,A=some ⟨g,o,none⟩/\g<w.heap.size/\w.cell? ⟨g,o+k,none⟩=some (.int .i64 (u[k]:Int))
theorem RdN.later {w w':World} {A:Option Addr} {u:List Nat} (h:RdN w A u) (hb:Below w.heap.size w w'):RdN w' A u:=fun k hk=>by
 obtain ⟨g,o,e,hg,hc⟩:=h k hk
 exact ⟨g,o,e,Nat.lt_of_lt_of_le hg hb.size,by rw [hb.cell hg];exact hc⟩
section
variable {w w1:World} {b g:Nat} {lst:Int} {vM vQ vJ v':Value} {S:Sg}
theorem Gs.swapJ {J':List Jl} (h:Gs w b g lst vM vQ vJ S) (hb:Below w.heap.size w w1) (hO:OwnK w1 w.heap.size 66 13 v' (cellsJ (jbs J'))) (hbw:b<=w.heap.size) (hz:∀ x ∈ J',JzOk x) (hc:J'.map core=S.J.map core) :
  Wn w (w1.setCell ⟨g,4,none⟩ v') b g vM vQ vJ S lst vM vQ v' { S with J:=J' }:=
 h.setJ (GrP.ofBelow hb) (hO.base hbw) (.inr hO.block) fun x hx=>⟨hz x hx,.inl (by obtain ⟨y,hy,e⟩:=core_mem hc hx;exact ⟨y,hy,core_lab e⟩)⟩
theorem Gs.ktOk {J':List Jl} (h:Gs w b g lst vM vQ vJ S) (hc:J'.map core=S.J.map core) {p:Nat} (hp:p<J'.length):KtOk w J'[p].1.tk J'[p].2:=by
 obtain ⟨y,hy,e⟩:=core_mem hc (List.getElem_mem hp)
 obtain ⟨e1,e2⟩:=core_tk e
 rw [<- e1,<- e2]
 have hz:=h.own.zJ y hy
 exact ⟨hz.1,hz.2.1,hz.2.2.1,hz.2.2.2.1,(h.own.lJ y hy).ok⟩
theorem Gs.msOk (h:Gs w b g lst vM vQ vJ S):MsOk w S.M:=fun x hx=>⟨h.own.zM x hx,(h.own.lM x hx).ok⟩
end
theorem bo_ok {x:Int} {k:Nat} (h:-2305843009213693952<=x/\x<=2305843009213693952+(k:Int)) (hk:k<=1000):-4611686018427387904<=x/\x<=4611686018427387904:=by omega
structure Tk (w wr:World) (b g:Nat) (lst:Int) (vM vQ vJ:Value) (S:Sg) (bs:Bst) (u:List Nat) (k:Nat) (vT vA:Value) (r:List Jl × List Ac):Prop where
 tr:tryK bs S.M S.J u k=some r
 jb:OwnK wr w.heap.size 66 13 vT (cellsJ (jbs r.1))
 ac:OwnK wr w.heap.size 64 3 vA (cellsA r.2)
 be:Below w.heap.size w wr
def RetT (w w':World) (e:Ending) (b g:Nat) (lst:Int) (vM vQ vJ:Value) (S:Sg):Option (List Jl × List Ac)->Prop
 | none=>e = .returned (.tuple #[.slice none 0 0,.bool false])/\Below w.heap.size w w'
 | some r=>∃ v vJ',e = .returned (.tuple #[v,.bool true])/\OwnK w' w.heap.size 64 3 v (cellsA r.2)/\Wn w w' b g vM vQ vJ S lst vM vQ vJ' { S with J:=r.1 }
theorem tryK_stop {bs:Bst} {M:List Ml} {J:List Jl} {u:List Nat} {r:List Jl × List Ac}:∀ {n k:Nat},k<n->tryK bs M J u k=some r->(bs M r.1 (u.getD k 0)).2=false->tryK bs M J u n=none
 | 0,k,h,_,_=>by omega
 | n+1,k,h,h1,h2=>by
  by_cases e:k=n
  ·subst e;unfold tryK;rw [h1];show (if (bs M r.1 (u.getD k 0)).2 then _ else none)=none;rw [h2];rfl
  ·unfold tryK;rw [tryK_stop (by omega) h1 h2];rfl
theorem tryK_next {bs:Bst} {M:List Ml} {J:List Jl} {u:List Nat} {r:List Jl × List Ac} {k p:Nat} (h:tryK bs M J u k=some r) (hp:u.getD k 0=p) (hb:(bs M r.1 p).2=true):tryK bs M J u (k+1)=some (bindJ (bs M r.1 p).1 p r.1,r.2 ++ [(1,(jl r.1 p).1.nm,(bs M r.1 p).1)]):=by
 unfold tryK;rw [h];show (if (bs M r.1 (u.getD k 0)).2 then _ else none)=_;rw [hp,hb];rfl


theorem place_any (bs:Bst) (hB:Hid (BestK bs)) (b g:Nat) (lst:Int) (vM vQ vJ:Value) (S:Sg) (Au:Option Addr) (nu cu:Nat) (u:List Nat) (w:World) (hG:Hid (Gs w b g lst vM vQ vJ S)) (hM:Hid (Sm S)) (hbw:Hid (b<=w.heap.size)) (hnu:Hid (nu=u.length)) (hul:Hid (nu<=1000)) (hU:Hid (RdN w Au u)) (huJ:Hid (∀ i ∈ u,i<S.J.length)) (hbo:Hid (∀ x ∈ S.J,-2305843009213693952<=x.1.bo/\x.1.bo<=2305843009213693952)) :
  Calls Tryz.prog 170 #[.pointer (some ⟨g,0,none⟩),.slice Au nu cu] w fun e w'=>RetT w w' e b g lst vM vQ vJ S (tryK bs S.M S.J u u.length):=by
 obtain ⟨A0,c0,hv,-,-,-,-⟩:=hG.out.own.M.sl
 obtain ⟨N,hN⟩:∃ N,N=S.M.length:=⟨_,rfl⟩
 rw [cellsM_length,List.length_map,<- hN] at hv
 subst hv
 obtain ⟨C,cC,hv,hrd,-,-,-⟩:=hG.out.own.J.sl
 obtain ⟨n,hn⟩:∃ n,n=S.J.length:=⟨_,rfl⟩
 rw [cellsJ_length,List.length_map,<- hn] at hv
 subst hv
 have HN:=Lib.hid hN;have HNJ:=Lib.hid hn
 have HNB:Hid (N<=1000):=by show _<=_;rw [hN];exact hM.out.M
 have HJB:Hid (n<=1000):=by show _<=_;rw [hn];exact hM.out.J
 have c4:w.cell? ⟨g,4,none⟩=some (.slice C n cC):=hG.out.bk.cellAt 4
 have KC:=Lib.hid (cloneJ_any C n cC (jbs S.J) w (show n=_ by rw [List.length_map];exact hn) hrd HJB.out)
 obtain ⟨R,hR⟩:∃ R,R=tryK bs S.M S.J u u.length:=⟨_,rfl⟩
 rw [<- hR]
 have HR:=Lib.hid hR
 clear hN hn hrd hR
 go_enter Tryz.func170,Tryz.ntmps170
 go_wp2_with fail
 refine KC.out.mono ?_;rintro e w1 ⟨vT,rfl,hO1,hb1⟩
 obtain ⟨CT,cT,hvT,-,-,-,-⟩:=hO1.sl
 rw [cellsJ_length,List.length_map,<- HNJ.out] at hvT
 subst hvT
 have H0:Hid (Tk w w1 b g lst (.slice A0 N c0) vQ (.slice C n cC) S bs u 0 (.slice CT n cT) (.slice none 0 0) (S.J,[])):=⟨rfl,hO1,OwnK.nil _ _ _ _,hb1⟩
 clear hO1 hb1 KC c4
 go_wp2_with fail
 go_loopw [7,19] (fun s7 s19 wr=>∃ (k:Nat) (r:List Jl × List Ac),k<=nu/\s19 = .int .i64 k/\Hid (Tk w wr b g lst (.slice A0 N c0) vQ (.slice C n cC) S bs u k (.slice CT n cT) s7 r)) (fun s7 s19 wr=>nu - (intOf s19).toNat)
 case atStart=>exact ⟨0,_,Nat.zero_le _,rfl,H0⟩
 case round=>
  clear H0
  obtain ⟨k,⟨J,acts⟩,hk,rfl,H⟩:=hrel
  by_cases hlt:k<nu
  ·have hku:k<u.length:=by rw [<- hnu.out];exact hlt
   obtain ⟨p,hp⟩:∃ p,p=u[k]:=⟨_,rfl⟩
   have hgd:u.getD k 0=p:=by rw [hp];simp [List.getD,hku]
   have hpS:p<S.J.length:=by rw [hp];exact huJ.out _ (List.getElem_mem hku)
   have hpn:p<n:=by rw [HNJ.out];exact hpS
   have hJl:J.length=S.J.length:=tryK_len H.out.tr
   have hpJ:p<J.length:=by rw [hJl];exact hpS
   have HPJ:=Lib.hid hpJ;have HGD:=Lib.hid hgd;have HJL:=Lib.hid hJl
   obtain ⟨gu,ou,rfl,hgu,hcu⟩:=(hU.out.later H.out.be) k hku
   rw [<- hp] at hcu
   obtain ⟨r,rfl⟩:=H.out.jb.at0 (by rw [cellsJ_length,List.length_map];show 0<J.length;omega)
   obtain ⟨j,hj⟩:∃ j,j=(J[p]'hpJ).1:=⟨_,rfl⟩
   have hjj:(jbs J)[p]'(by rw [List.length_map];exact hpJ)=j:=by rw [hj];simp [jbs]
   have HJJ:=Lib.hid hjj;have HJE:=Lib.hid hj
   have krg:∀ W,OwnK W w.heap.size 66 13 (.slice (some ⟨r,0,none⟩) n cT) (cellsJ (jbs J))->W.rangeAt r (p * 13) j.tk.arr.toList:=fun W h=>by
    have h1:=h.range (p:=p) (by rw [cellsJ_length,List.length_map];exact hpJ)
    have h2:(cellsJ (jbs J))[p]'(by rw [cellsJ_length,List.length_map];exact hpJ)=j.cells:=by simp [cellsJ,hj]
    rw [h2] at h1
    exact range_tk h1
   obtain ⟨mn,hmn⟩:∃ mn,mn=(bs S.M J p).1:=⟨_,rfl⟩
   obtain ⟨ok,hok⟩:∃ ok,ok=(bs S.M J p).2:=⟨_,rfl⟩
   have kb:∀ W,Gs W b g lst (.slice A0 N c0) vQ (.slice C n cC) S->OwnK W w.heap.size 66 13 (.slice (some ⟨r,0,none⟩) n cT) (cellsJ (jbs J))->Calls Tryz.prog 189 #[.slice A0 N c0,.slice (some ⟨r,0,none⟩) n cT,.agg j.tk.arr] W fun e w'=>e = .returned (.tuple #[.string mn,.bool ok])/\Below W.heap.size W w':=fun W h1 h2=>by
    obtain ⟨A',c',hv',hr',-,-,-⟩:=h2.sl
    injection hv' with e1 e2 e3
    subst e1
    have:=hB.out.calls A0 N c0 S.M (some ⟨r,0,none⟩) n cT J p W hpJ HN.out (by have:=HNB.out;omega) h1.own.rdMs h1.msOk (by rw [hJl];exact HNJ.out) (by have:=HJB.out;omega) hr' (h1.ktOk (tryK_core H.out.tr).1 hpJ)
    rw [<- hj,<- hmn,<- hok] at this
    exact this
   have KRG:=Lib.hid krg;have KB:=Lib.hid kb;have HMN:=Lib.hid hmn;have HOK:=Lib.hid hok
   have HG:=Lib.hid (hG.out.below H.out.be);have HJ:=Lib.hid H.out.jb;have HAC:=Lib.hid H.out.ac;have HBE:=Lib.hid H.out.be;have HTR:=Lib.hid H.out.tr
   have hwk:wrap64 ((k:Int)+1)=((k+1:Nat):Int):=by have:=hul.out;unfold wrap64;omega
   have HU1:=Lib.hid (show RdN w (some ⟨gu,ou,none⟩) u from hU.out)
   clear krg kb hgu hp hpS hgd hJl hj hjj hmn hok hku H
   go_wp2_with fail
   refine wp_region_held_drew (S:=fun W=>Gs W b g lst (.slice A0 N c0) vQ (.slice C n cC) S/\OwnK W w.heap.size 66 13 (.slice (some ⟨r,0,none⟩) n cT) (cellsJ (jbs J))/\OwnK W w.heap.size 64 3 u7 (cellsA acts)/\Below w.heap.size w W) (by kernel_rfl) (⟨HG.out.below (Below.drew (Below.refl _ _)),HJ.out.below (Below.drew (Below.refl _ _)),HAC.out.below (Below.drew (Below.refl _ _)),Below.drew HBE.out⟩) (fun hS0=>?_)
   refine wpAnyH_take (i:=0) (v:=?_) rfl (by kernel_rfl) (by kernel_rfl) (by kernel_rfl) (fun _ _ _ h=>h) (Or.inl ⟨by rfl,?_⟩) hS0 ?_
   rotate_left
   ·intro W _;go_simp;try with_reducible rfl
   try simp only [Act.put,tD,tB,tA,tE,tF]
   refine wpAnyH_take (i:=1) (v:=?_) rfl (by kernel_rfl) (by kernel_rfl) (by kernel_rfl) (fun _ _ _ h=>h) (Or.inl ⟨by rfl,?_⟩) hS0 ?_
   rotate_left
   ·intro W _;go_simp;try with_reducible rfl
   try simp only [Act.put,tD,tB,tC,tA,tE,tF]
   refine wpAnyH_take (i:=2) (v:=?_) rfl (by kernel_rfl) (by kernel_rfl) (by kernel_rfl) (fun _ _ _ h=>h) (Or.inl ⟨by rfl,?_⟩) hS0 ?_
   rotate_left
   ·intro W _;go_simp;try with_reducible rfl
   try simp only [Act.put,tD,tB,tC,tA,tE,tF]
   refine wpAnyH_take (i:=3) (v:=?_) rfl (by kernel_rfl) (by kernel_rfl) (by kernel_rfl) (fun _ _ _ h=>h) (Or.inl ⟨by rfl,?_⟩) hS0 ?_
   rotate_left
   ·intro W hSW;have hx:=hSW.1.bk.cellAt 2;go_simp;try with_reducible rfl
   try simp only [Act.put,tD,tB,tC,tA,tE,tF]
   refine wpAnyH_take (i:=4) (v:=?_) rfl (by kernel_rfl) (by kernel_rfl) (by kernel_rfl) (fun _ _ _ h=>h) (Or.inl ⟨by rfl,?_⟩) hS0 ?_
   rotate_left
   ·intro W _;go_simp;try with_reducible rfl
   try simp only [Act.put,tD,tB,tC,tA,tE,tF]
   refine wpAnyH_take (i:=5) (v:=?_) rfl (by kernel_rfl) (by kernel_rfl) (by kernel_rfl) (fun _ _ _ h=>h) (Or.inl ⟨by rfl,?_⟩) hS0 ?_
   rotate_left
   ·intro W _;go_simp;try with_reducible rfl
   try simp only [Act.put,tD,tB,tC,tA,tE,tF]
   refine wpAnyH_take (i:=6) (v:=?_) rfl (by kernel_rfl) (by kernel_rfl) (by kernel_rfl) (fun _ _ _ h=>h) (Or.inl ⟨by rfl,?_⟩) hS0 ?_
   rotate_left
   ·intro W _;go_simp;try with_reducible rfl
   try simp only [Act.put,tD,tB,tC,tA,tE,tF]
   refine wpAnyH_take (i:=7) (v:=?_) rfl (by kernel_rfl) (by kernel_rfl) (by kernel_rfl) (fun _ _ _ h=>h) (Or.inl ⟨by rfl,?_⟩) hS0 ?_
   rotate_left
   ·intro W _;go_simp;try with_reducible rfl
   try simp only [Act.put,tD,tB,tC,tA,tE,tF]
   refine wpAnyH_take (i:=8) (v:=?_) rfl (by kernel_rfl) (by kernel_rfl) (by kernel_rfl) (fun _ _ _ h=>h) (Or.inl ⟨by rfl,?_⟩) hS0 ?_
   rotate_left
   ·intro W _;go_simp;try with_reducible rfl
   try simp only [Act.put,tD,tB,tC,tA,tE,tF]
   refine wpAnyH_take (i:=9) (v:=.agg j.tk.arr) rfl (by kernel_rfl) (by kernel_rfl) (by kernel_rfl) (fun _ _ _ h=>h) (yields_rg (by rfl) 47 _ rfl r (p * 13) rfl j.tk.arr _ (fun W hW=>KRG.out W hW.2.1) Tryz.underlying47 rfl (by kernel_rfl)) hS0 ?_
   try simp only [Act.put,tD,tB,tC,tA,tE,tF]
   refine wpAnyH_ready (rs:=[10]) (by kernel_rfl) (by simp) ?_
   refine AllReadyH.cons rfl (fun K hK=>?_) AllReadyH.nil
   go_simp
   refine (KB.out _ hS0.1 hS0.2.1).mono ?_
   rintro e w5 ⟨rfl,hb5⟩
   go_simp
   refine hK.out _ _ (⟨hS0.1.below hb5,hS0.2.1.below hb5,hS0.2.2.1.below hb5,hS0.2.2.2.trans (hb5.mono hS0.2.2.2.size)⟩) (fun hS1=>?_)
   clear hK K
   try simp only [Act.put,tD,tB,tC,tA,tE,tF]
   refine wpAnyH_take (i:=11) (v:=?_) rfl (by kernel_rfl) (by kernel_rfl) (by kernel_rfl) (fun _ _ _ h=>h) (Or.inl ⟨by rfl,?_⟩) hS1 ?_
   rotate_left
   ·intro W _;go_simp;try with_reducible rfl
   try simp only [Act.put,tD,tB,tC,tA,tE,tF]
   refine wpAnyH_take (i:=12) (v:=?_) rfl (by kernel_rfl) (by kernel_rfl) (by kernel_rfl) (fun _ _ _ h=>h) (Or.inl ⟨by rfl,?_⟩) hS1 ?_
   rotate_left
   ·intro W _;go_simp;try with_reducible rfl
   try simp only [Act.put,tD,tB,tC,tA,tE,tF]
   refine wpAnyH_take (i:=14) (v:=?_) rfl (by kernel_rfl) (by kernel_rfl) (by kernel_rfl) (fun _ _ _ h=>h) (Or.inl ⟨by rfl,?_⟩) hS1 ?_
   rotate_left
   ·intro W _;go_simp;try with_reducible rfl
   try simp only [Act.put,tD,tB,tC,tA,tE,tF]
   refine wpAnyH_take (i:=13) (v:=?_) rfl (by kernel_rfl) (by kernel_rfl) (by kernel_rfl) (fun _ _ _ h=>h) (Or.inl ⟨by rfl,?_⟩) hS1 ?_
   rotate_left
   ·intro W _;go_simp;try with_reducible rfl
   try simp only [Act.put,tD,tB,tC,tA,tE,tF]
   refine wpAnyH_take (i:=15) (v:=?_) rfl (by kernel_rfl) (by kernel_rfl) (by kernel_rfl) (fun _ _ _ h=>h) (Or.inl ⟨by rfl,?_⟩) hS1 ?_
   rotate_left
   ·intro W _;go_simp;try with_reducible rfl
   try simp only [Act.put,tD,tB,tC,tA,tE,tF]
   refine wpAnyH_done (by kernel_rfl) ?_ _
   have HG5:=Lib.hid hS1.1;have HJ5:=Lib.hid hS1.2.1;have HA5:=Lib.hid hS1.2.2.1;have HB5:=Lib.hid hS1.2.2.2
   clear hS0 hS1 HG HJ HAC HBE hcu
   cases ok
   case false=>
    have HRN:Hid (R=none):=by show _=_;rw [HR.out];exact tryK_stop (by rw [<- hnu.out];exact hlt) HTR.out (by rw [HGD.out];exact HOK.out.symm)
    go_wp2_with fail
    exact bodyPost_ret (v:=.tuple #[.slice none 0 0,.bool false]) (by simp [results,Tryz.results170,go_sem]) rfl (by rw [HRN.out];exact ⟨rfl,HB5.out⟩)
   case true=>
    have KU:=Lib.hid (bind_any w.heap.size r n cT p mn (jbs J) w5 (by rw [List.length_map];exact HPJ.out) (by rw [HJJ.out,HJE.out];exact bo_ok (tryK_bo hbo.out HTR.out _ (List.getElem_mem HPJ.out)) (Nat.le_trans (Nat.le_of_lt hlt) hul.out)) HJ5)
    rw [HJJ.out] at KU
    go_wp2_with fail
    refine KU.out.mono ?_;rintro e w6 ⟨rfl,hO6,hg6⟩
    have hb6:Below w.heap.size w5 w6:=hg6.below HB5.out.size fun q hq=>by rw [hq];exact HJ5.out.block _ rfl
    have HA6:Hid (OwnK w6 w.heap.size 64 3 u7 (cellsA acts)):=HA5.out.grp hg6 fun q hq e=>HA5.out.parted HJ5.out (by decide) hq (by rw [e];rfl)
    have HJ6:Hid (OwnK w6 w.heap.size 66 13 (.slice (some ⟨r,0,none⟩) n cT) (cellsJ (jbs (bindJ mn p J)))):=by
     show OwnK _ _ _ _ _ _
     rw [show jbs (bindJ mn p J)=(jbs J).set p (j.go mn) by unfold bindJ;rw [jl_at HPJ.out,HJE.out];simp [jbs,List.map_set,goX]]
     exact hO6
    have HB6:Hid (Below w.heap.size w w6):=HB5.out.trans hb6
    have HAL:Hid (acts.length<=1000):=Nat.le_trans (show acts.length<=k from (tryK_core HTR.out).2) (Nat.le_trans (Nat.le_of_lt hlt) hul.out)
    clear hO6 hg6 hb6 KU HJ5 HA5 HB5
    go_wp2_with ((with_reducible refine append_ka _ rfl (.tmp 39) (.tmp 45) 34 rfl w.heap.size 64 _ 3 40 Tryz.underlying34 infoA15 rfl (by omega) u7 (cellsA acts) rfl (HA6.out.alloc _) ⟨w6.heap.size,0,none⟩ 1 1 (cellsA [(1,j.nm,mn)]) rfl (rdA1 (x:=(1,j.nm,mn)) (Bk.fresh _ _ _)) (cellsA_k _) (cellsA_one _) rfl (by have:=HAL.out;rw [cellsA_length,cellsA_length [(1,j.nm,mn)]];simp [maxLen];omega) (by have:=HAL.out;rw [cellsA_length,cellsA_length [(1,j.nm,mn)]];simp;omega) (by have:=HB6.out.size;simp;omega) ?_);intro v7 w7 hO7 hg7 hat7;clear hat7;have H7:Hid (Tk w w7 b g lst (.slice A0 N c0) vQ (.slice C n cC) S bs u (k+1) (.slice (some ⟨r,0,none⟩) n cT) v7 (bindJ mn p J,acts ++ [(1,j.nm,mn)])):=(by
     refine ⟨?_,?_,by rw [cellsA_append];exact hO7,?_⟩
     ·rw [tryK_next HTR.out HGD.out (by rw [<- HOK.out]),<- HMN.out,jl_at HPJ.out,<- HJE.out]
     ·exact (HJ6.out.alloc _).grp (GrP.of hg7) fun q hq e=>HJ6.out.parted HA6.out (by decide) hq e
     ·exact (HB6.out.alloc HB6.out.size _).grown hg7 (by have:=HB6.out.size;simp;omega) (fun q e=>(HA6.out.block _ e)));clear hO7 hg7)
    clear HA6 HJ6 HB6
    go_round
    case rel=>exact ⟨k+1,_,hlt,by go_num,H7⟩
    case measure=>rw [hwk];show nu - ((k+1:Nat):Int).toNat<nu - (k:Int).toNat;rw [Int.toNat_natCast,Int.toNat_natCast];exact Nat.sub_lt_sub_left hlt (Nat.lt_succ_self k)
  ·have hkn:k=nu:=by omega
   have HRS:Hid (R=some (J,acts)):=by show _=_;rw [HR.out,<- hnu.out,<- hkn];exact H.out.tr
   have hgb:Bk wr g 73 #[.int .i64 S.ck,.int .i64 lst,.slice A0 N c0,vQ,.slice C n cC]:=(hG.out.below H.out.be).bk
   have c4:wr.cell? ⟨g,4,none⟩=some (.slice C n cC):=hgb.cellAt 4
   have f4:wr.frozen? ⟨g,4,none⟩=false:=hgb.free 4
   have HF:=Lib.hid (hG.out.swapJ H.out.be H.out.jb hbw.out (tryK_jz hB.out.mem hG.out.own.zM hG.out.own.zJ H.out.tr) (tryK_core H.out.tr).1)
   have HFA:Hid (OwnK (wr.setCell ⟨g,4,none⟩ (.slice CT n cT)) w.heap.size 64 3 u7 (cellsA acts)):=H.out.ac.far (by show g<_;exact hG.out.bk.here) _
   clear hk hlt hgb H
   go_wp2_with fail
   exact bodyPost_ret (v:=.tuple #[u7,.bool true]) (by simp [results,Tryz.results170,go_sem]) rfl (by rw [HRS.out];exact ⟨u7,_,rfl,HFA.out,HF.out⟩)
end
end Go.Proofs.YtccccbofcnmdiaaGreat
