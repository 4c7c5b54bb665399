/- Lemmas that the law stands on. No condition. -/
import Derived.Test.YtccccbofcnmdiaaGreatM28
namespace Go.Proofs.YtccccbofcnmdiaaGreat
set_option linter.unusedSimpArgs false
set_option linter.unusedVariables false
set_option maxRecDepth 100000
set_option maxHeartbeats 51200000
section
open Go.RowKit
def RdNl (lo:Nat) (w:World) (A:Option Addr) (u:List Nat):Prop:=∀ k (h:k<u.length),∃ g o,A=some ⟨g,o,none⟩/\lo<=g/\g<w.heap.size/\w.cell? ⟨g,o+k,none⟩=some (.int .i64 (u[k]:Int))
theorem RdNl.rdn {lo:Nat} {w:World} {A:Option Addr} {u:List Nat} (h:RdNl lo w A u):RdN w A u:=fun k hk=>by
 obtain ⟨g,o,e,_,hg,hc⟩:=h k hk;exact ⟨g,o,e,hg,hc⟩
def RdUn (lo:Nat) (w:World) (B:Option Addr) (U:List (List Nat)):Prop:=∀ i (h:i<U.length),∃ g o A c,B=some ⟨g,o,none⟩/\lo<=g/\g<w.heap.size/\w.cell? ⟨g,o+i,none⟩=some (.slice A U[i].length c)/\RdNl lo w A U[i]
theorem RdNl.kept {lo:Nat} {w w':World} {A:Option Addr} {u:List Nat} {p:Nat->Prop} (h:RdNl lo w A u) (hg:GrP p w w') (hp:∀ k,lo<=k->k<w.heap.size -> ¬ p k):RdNl lo w' A u:=fun k hk=>by
 obtain ⟨g,o,e,hl,hgl,hc⟩:=h k hk
 exact ⟨g,o,e,hl,Nat.lt_of_lt_of_le hgl hg.size,by rw [hg.cell hgl (hp g hl hgl)];exact hc⟩
abbrev Uns:=List Jl->List (List Nat)
structure UniK (un:Uns):Prop where
 calls:∀ (A:Option Addr) (n cap:Nat) (J:List Jl) (w:World),n=J.length->n<=1000000->RdJ w A (jbs J)->Calls Tryz.prog 169 #[.slice A n cap] w fun e w'=>(∃ B c,e = .returned (.slice B (un J).length c)/\RdUn w.heap.size w' B (un J))/\Below w.heap.size w w'
 ne:∀ J,∀ u ∈ un J,0<u.length
 lt:∀ J,∀ u ∈ un J,∀ i ∈ u,i<J.length
 few:∀ J,∀ u ∈ un J,u.length<=J.length
 len:∀ J,(un J).length<=J.length
section
variable (bs:Bst) (ch:Chs15) (un:Uns) (M:List Ml)
def unitG (X:List Jl × List Ac) (u:List Nat):List Jl × List Ac:=
 match tryK bs M X.1 u u.length with
 | some r=>(r.1,X.2 ++ r.2)
 | none=>if (jl X.1 (u.getD 0 0)).1.ga.size=0 then ((preG ch M X.1 (u.getD 0 0)).1,X.2 ++ (preG ch M X.1 (u.getD 0 0)).2) else X
def passK (J:List Jl) (U:List (List Nat)) (k:Nat):List Jl × List Ac:=(U.take k).foldl (unitG bs ch M) (J,[])
def passG (J:List Jl):List Jl × List Ac:=passK bs ch M J (un J) (un J).length
end
theorem preG_core {ch:Chs15} {M:List Ml} {J:List Jl} {p:Nat}:(preG ch M J p).1.map core=J.map core:=by
 unfold preG
 split
 ·exact bind_core.trans (coreB_core (evK_core _ (Nat.le_refl _)).1)
 ·rfl
theorem unitG_core {bs:Bst} {ch:Chs15} {M:List Ml} {X:List Jl × List Ac} {u:List Nat}:(unitG bs ch M X u).1.map core=X.1.map core:=by
 unfold unitG
 cases h:tryK bs M X.1 u u.length with
 | some r=>exact (tryK_core h).1
 | none=>
  simp only
  split
  ·exact preG_core
  ·rfl
theorem passK_succ {bs:Bst} {ch:Chs15} {M:List Ml} {J:List Jl} {U:List (List Nat)} {k:Nat} (hk:k<U.length):passK bs ch M J U (k+1)=unitG bs ch M (passK bs ch M J U k) U[k]:=by
 unfold passK;rw [List.take_succ_eq_append_getElem hk,List.foldl_append];rfl
def BoK (m:Int) (J:List Jl):Prop:=∀ x ∈ J,-2305843009213693952<=x.1.bo/\x.1.bo<=m
theorem BoK.set {m:Int} {J:List Jl} {p:Nat} {y:Jl} (h:BoK m J) (hy:-2305843009213693952<=y.1.bo/\y.1.bo<=m):BoK m (J.set p y):=fun x hx=>by
 rcases List.mem_or_eq_of_mem_set hx with hx | rfl
 ·exact h x hx
 ·exact hy
theorem BoK.at {m:Int} {J:List Jl} (h:BoK m J) (hm:0<=m) (p:Nat):-2305843009213693952<=(jl J p).1.bo/\(jl J p).1.bo<=m:=by
 by_cases hp:p<J.length
 ·rw [jl_at hp];exact h _ (List.getElem_mem hp)
 ·rw [jl_no (by omega)];exact ⟨by show (_:Int)<=0;omega,hm⟩
theorem BoK.up {m m':Int} {J:List Jl} (h:BoK m J) (hm:m<=m'):BoK m' J:=fun x hx=>⟨(h x hx).1,Int.le_trans (h x hx).2 hm⟩
theorem BoK.bind {m:Int} {J:List Jl} (h:BoK m J) (hm:0<=m) (s:ByteArray) (p:Nat):BoK (m+1) (bindJ s p J):=(h.up (by omega)).set (by have:=h.at hm p;show _<=_+1/\_+1<=_;omega)
theorem tryK_bok {bs:Bst} {M:List Ml} {J:List Jl} {u:List Nat} {m:Int} (hm:0<=m) (hb:BoK m J):∀ {k:Nat} {r:List Jl × List Ac},tryK bs M J u k=some r->BoK (m+(k:Int)) r.1
 | 0,r,h=>by injection h with h;subst h;exact hb.up (by omega)
 | k+1,r',h=>by
  obtain ⟨r,hr,_,rfl⟩:=tryK_succ h
  have ih:=tryK_bok hm hb hr
  have h0:0<=m+(k:Int):=by omega
  exact (ih.bind h0 _ _).up (by omega)
theorem evK_bok {J:List Jl} {names:List ByteArray} {m:Int} (hm:0<=m) (hb:BoK m J):∀ k,k<=names.length->BoK m (evK J names k).1
 | 0,_=>hb
 | k+1,hk=>by
  rw [evK_succ (by omega)]
  have ih:=evK_bok (names:=names) hm hb k (by omega)
  exact ih.set (ih.at hm _)
theorem preG_bok {ch:Chs15} {M:List Ml} {J:List Jl} {p:Nat} {m:Int} (hm:0<=m) (hb:BoK m J):BoK (m+1) (preG ch M J p).1:=by
 unfold preG
 split
 ·exact (evK_bok hm hb _ (Nat.le_refl _)).bind hm _ _
 ·exact hb.up (by omega)
theorem unitG_bok {bs:Bst} {ch:Chs15} {M:List Ml} {X:List Jl × List Ac} {u:List Nat} {m:Int} (hm:0<=m) (hu:u.length<=1000) (hb:BoK m X.1):BoK (m+1001) (unitG bs ch M X u).1:=by
 unfold unitG
 cases h:tryK bs M X.1 u u.length with
 | some r=>exact (tryK_bok hm hb h).up (by omega)
 | none=>
  simp only
  split
  ·exact (preG_bok hm hb).up (by omega)
  ·exact hb.up (by omega)
theorem preG_few {ch:Chs15} (hC:ChoK ch) {M:List Ml} {J:List Jl} {p:Nat}:(preG ch M J p).2.length<=J.length+1:=by
 unfold preG
 split
 ·rw [List.length_append,(evK_core _ (Nat.le_refl _)).2,List.length_singleton];have:=hC.few M J p;omega
 ·exact Nat.zero_le _
theorem unitG_few {bs:Bst} {ch:Chs15} (hC:ChoK ch) {M:List Ml} {X:List Jl × List Ac} {u:List Nat} (hu:u.length<=1000) (hJ:X.1.length<=1000):(unitG bs ch M X u).2.length<=X.2.length+1001:=by
 unfold unitG
 cases h:tryK bs M X.1 u u.length with
 | some r=>rw [List.length_append];have:=(tryK_core h).2;omega
 | none=>
  simp only
  split
  ·rw [List.length_append];have:=preG_few hC (M:=M) (J:=X.1) (p:=u.getD 0 0);omega
  ·omega
theorem passK_all {bs:Bst} {ch:Chs15} (hC:ChoK ch) {M:List Ml} {J:List Jl} {U:List (List Nat)} (hU:∀ u ∈ U,u.length<=1000) (hJ:J.length<=1000) (hb:BoK 1152921504606846976 J):∀ k,k<=U.length->(passK bs ch M J U k).1.map core=J.map core/\BoK (1152921504606846976+1001 * (k:Int)) (passK bs ch M J U k).1/\(passK bs ch M J U k).2.length<=1001 * k
 | 0,_=>⟨rfl,hb.up (by omega),Nat.le_refl _⟩
 | k+1,hk=>by
  obtain ⟨h1,h2,h3⟩:=passK_all (bs:=bs) hC (M:=M) hU hJ hb k (by omega)
  have hu:=hU _ (List.getElem_mem (show k<U.length by omega))
  have hl:(passK bs ch M J U k).1.length=J.length:=by have:=congrArg List.length h1;simpa using this
  rw [passK_succ (by omega)]
  refine ⟨unitG_core.trans h1,(unitG_bok (by omega) hu h2).up (by omega),?_⟩
  have:=unitG_few (bs:=bs) hC (M:=M) hu (show (passK bs ch M J U k).1.length<=1000 by omega)
  omega
def Pa (w wr:World) (b g:Nat) (lst:Int) (vM vQ vJ:Value) (S:Sg) (X:List Jl × List Ac) (vA:Value):Prop:=
 ∃ C c,Wn w wr b g vM vQ vJ S lst vM vQ (.slice C S.J.length c) { S with J:=X.1 } /\ OwnK wr w.heap.size 64 3 vA (cellsA X.2)
theorem Wn.mid {w w':World} {b g:Nat} {lst:Int} {vM vQ vJ vJ':Value} {S S':Sg} (h:Wn w w' b g vM vQ vJ S lst vM vQ vJ' S') (hl:S'.J.length=S.J.length):∃ C c,vJ' = .slice C S.J.length c:=by
 obtain ⟨C,c,hv,-,-,-,-⟩:=h.gs.own.J.sl
 rw [cellsJ_length,List.length_map,hl] at hv
 exact ⟨C,c,hv⟩
theorem Sm.withJ {S:Sg} {J:List Jl} (h:Sm S) (hc:J.map core=S.J.map core):Sm { S with J:=J }:=
 ⟨h.M,h.Q,by have:=congrArg List.length hc;rw [List.length_map,List.length_map] at this;show J.length<=1000;rw [this];exact h.J,h.lM,fun x hx=>by obtain ⟨y,hy,e⟩:=core_mem hc hx;rw [<- (core_tk e).2];exact h.lJ y hy,h.nx,h.ck⟩
theorem Pa.put {w1 w5 w7:World} {b g:Nat} {lst:Int} {vM vQ vJ vJ5 u3 v7:Value} {S:Sg} {J5:List Jl} {X2 l5:List Ac} (hW:Wn w1 w5 b g vM vQ vJ S lst vM vQ vJ5 { S with J:=J5 }) (hl:J5.length=S.J.length) (hA:OwnK w5 w1.heap.size 64 3 u3 (cellsA X2)) (hO:OwnK w7 w1.heap.size 64 3 v7 (cellsA X2 ++ cellsA l5)) (hg:w5.grownBy w7 u3.ownBlock):Pa w1 w7 b g lst vM vQ vJ S (J5,X2 ++ l5) v7:=by
 obtain ⟨C,c,rfl⟩:=hW.mid hl
 exact ⟨C,c,hW.acts hA hg (Nat.le_refl _),by rw [cellsA_append];exact hO⟩
theorem acts_fit {a b:List Ac} (h:(a ++ b).length<=2000000):(cellsA a).length+(cellsA b).length<=maxLen/\((cellsA a).length+(cellsA b).length) * 40<=140737488355328:=by
 rw [cellsA_length,cellsA_length]
 rw [List.length_append] at h
 exact ⟨by simp only [maxLen];omega,by omega⟩


theorem pass_any (bs:Bst) (ch:Chs15) (un:Uns) (hB:Hid (BestK bs)) (hC:Hid (ChoK ch)) (hUn:Hid (UniK un)) (b g:Nat) (lst:Int) (vM vQ vJ:Value) (S:Sg) (w:World) (hG:Hid (Gs w b g lst vM vQ vJ S)) (hM:Hid (Sm S)) (hbo:Hid (BoK 1152921504606846976 S.J)) :
  Calls Tryz.prog 135 #[.pointer (some ⟨g,0,none⟩)] w fun e w'=>(∃ v,e = .returned v/\OwnK w' w.heap.size 64 3 v (cellsA (passG bs ch un S.M S.J).2)) /\ ∃ vJ',Wn w w' b g vM vQ vJ S lst vM vQ vJ' { S with J:=(passG bs ch un S.M S.J).1 }:=by
 obtain ⟨C,cC,hv,hrd,-,-,-⟩:=hG.out.own.J.sl
 obtain ⟨n,hn⟩:∃ n,n=S.J.length:=⟨_,rfl⟩
 rw [cellsJ_length,List.length_map,<- hn] at hv
 subst hv
 have HNJ:=Lib.hid hn
 have HJB:Hid (n<=1000):=by show _<=_;rw [hn];exact hM.out.J
 have KU:=Lib.hid (hUn.out.calls C n cC S.J w hn (by have:=HJB.out;omega) hrd)
 have c4:w.cell? ⟨g,4,none⟩=some (.slice C n cC):=hG.out.bk.cellAt 4
 obtain ⟨U,hU⟩:∃ U,U=un S.J:=⟨_,rfl⟩
 have hUf:∀ u ∈ U,u.length<=1000:=fun u hu=>by rw [hU] at hu;exact Nat.le_trans (hUn.out.few _ u hu) hM.out.J
 have hUl:∀ u ∈ U,0<u.length /\ ∀ i ∈ u,i<S.J.length:=fun u hu=>by rw [hU] at hu;exact ⟨hUn.out.ne _ u hu,hUn.out.lt _ u hu⟩
 have hUn1:U.length<=1000:=by rw [hU];exact Nat.le_trans (hUn.out.len _) hM.out.J
 obtain ⟨nU,hnU⟩:∃ nU,nU=U.length:=⟨_,rfl⟩
 rw [<- hU,<- hnU] at KU
 have HALL:=Lib.hid (passK_all (bs:=bs) hC.out (M:=S.M) hUf hM.out.J hbo.out)
 have HR:Hid (passG bs ch un S.M S.J=passK bs ch S.M S.J U nU):=by show _=_;unfold passG;rw [<- hU,<- hnU]
 have HUF:=Lib.hid hUf;have HUL:=Lib.hid hUl;have HUN:=Lib.hid hUn1;have HNU:=Lib.hid hnU
 obtain ⟨R,hR⟩:∃ R,R=passG bs ch un S.M S.J:=⟨_,rfl⟩
 rw [<- hR] at HR ⊢
 clear hn hrd hU hUf hUl hUn1 hnU hR
 go_enter Tryz.func135,Tryz.ntmps135
 go_wp2_with fail
 refine KU.out.mono ?_;rintro e w1 ⟨⟨B,cB,rfl,hrU⟩,hb1⟩
 have HRU:=Lib.hid hrU
 have HB1:=Lib.hid hb1
 have HG1:=Lib.hid (hG.out.below hb1)
 have H0:Hid (Pa w1 w1 b g lst vM vQ (.slice C n cC) S (passK bs ch S.M S.J U 0) (.slice none 0 0)):=by
  refine ⟨C,cC,?_,OwnK.nil _ _ _ _⟩
  rw [<- HNJ.out];exact Wn.refl HG1.out
 clear hrU hb1 KU c4
 go_wp2_with fail
 go_loopw [3,15] (fun s3 s15 wr=>∃ (k:Nat),k<=nU/\s15 = .int .i64 k/\Hid (Pa w1 wr b g lst vM vQ (.slice C n cC) S (passK bs ch S.M S.J U k) s3)) (fun s3 s15 wr=>nU - (intOf s15).toNat)
 case atStart=>exact ⟨0,Nat.zero_le _,rfl,H0⟩
 case round=>
  clear H0
  obtain ⟨k,hk,rfl,H⟩:=hrel
  by_cases hlt:k<nU
  ·have hkl:k<U.length:=by rw [<- HNU.out];exact hlt
   obtain ⟨u,hu⟩:∃ u,u=U[k]:=⟨_,rfl⟩
   obtain ⟨X,hX⟩:∃ X,X=passK bs ch S.M S.J U k:=⟨_,rfl⟩
   have hsu:=passK_succ (bs:=bs) (ch:=ch) (M:=S.M) (J:=S.J) hkl
   have hall:=HALL.out k (Nat.le_of_lt hkl)
   rw [<- hX,<- hu] at hsu
   rw [<- hX] at H hall
   have hum:u ∈ U:=by rw [hu];exact List.getElem_mem hkl
   have hXl:X.1.length=S.J.length:=by have:=congrArg List.length hall.1;rw [List.length_map,List.length_map] at this;exact this
   obtain ⟨C1,c1,hW,hA⟩:=H.out
   have hWn:=hW
   rw [<- HNJ.out] at hW
   have hnp:∀ q,w.heap.size<=q->q<w1.heap.size -> ¬ blkG g vM vQ (.slice C n cC) S q:=fun q h1 h2 h3=>by have:=(hG.out.blk h3).2;omega
   obtain ⟨gB,oB,Au,cu,rfl,hlB,hgB,hcB1,hru1⟩:=HRU.out k hkl
   rw [<- hu] at hru1
   have hru:RdNl w.heap.size wr Au u:=hru1.kept hW.gr hnp
   have hcB:wr.cell? ⟨gB,oB+k,none⟩=some (.slice Au u.length cu):=by rw [hW.gr.cell hgB (hnp gB hlB hgB),hcB1,hu]
   obtain ⟨nu,hnu⟩:∃ nu,nu=u.length:=⟨_,rfl⟩
   rw [<- hnu] at hcB
   have HW:=Lib.hid hW;have HA:=Lib.hid hA
   have HSm:Hid (Sm { S with J:=X.1 }):=hM.out.withJ hall.1
   have HLT:Hid (∀ i ∈ u,i<({ S with J:=X.1 }:Sg).J.length):=fun i hi=>by show i<X.1.length;rw [hXl];exact (HUL.out u hum).2 i hi
   have HBO:Hid (BoK 2305843009213693952 X.1):=hall.2.1.up (by have:=HUN.out;have:=HNU.out;omega)
   have KP:=Lib.hid (place_any bs hB b g lst vM vQ (.slice C1 n c1) { S with J:=X.1 } Au nu cu u wr HW.out.gs HSm (show b<=wr.heap.size from Nat.le_of_lt (Nat.lt_of_le_of_lt HW.out.gs.le HW.out.gs.bk.here)) hnu (show nu<=1000 by rw [hnu];exact HUF.out u hum) hru.rdn HLT HBO)
   have hall1:=HALL.out (k+1) hkl
   have HX2:Hid ((passK bs ch S.M S.J U (k+1)).2.length<=2000000):=by have h1:=hall1.2.2;have h2:=HUN.out;show _<=2000000;omega
   have HL1:Hid ((passK bs ch S.M S.J U (k+1)).1.length=S.J.length):=by have:=congrArg List.length hall1.1;rw [List.length_map,List.length_map] at this;exact this
   have hu0:0<u.length:=(HUL.out u hum).1
   have hnu0:0<nu:=by rw [hnu];exact hu0
   obtain ⟨gu,ou,rfl,hlu,hgu,-⟩:=hru1 0 hu0
   obtain ⟨p0,hp0⟩:∃ p0,p0=u.getD 0 0:=⟨_,rfl⟩
   have hp0':u[0]=p0:=by rw [hp0];simp [List.getD,hu0]
   have HU0:Hid (∀ W:World,GrP (blkG g vM vQ (.slice C n cC) S) w1 W->W.cell? ⟨gu,ou,none⟩=some (.int .i64 (p0:Int))):=fun W hW=>by
    obtain ⟨g',o',e,_,_,hc⟩:=(hru1.kept hW hnp) 0 hu0
    injection e with e
    injection e with e1 e2
    subst e1 e2
    rw [<- hp0'];exact hc
   have HPS:Hid (p0<X.1.length):=by show _<_;rw [hXl,<- hp0'];exact (HUL.out u hum).2 _ (List.getElem_mem hu0)
   have HXL:=Lib.hid hXl
   have HWK:Hid (wrap64 ((k:Int)+1)=((k+1:Nat):Int)):=by have:=HUN.out;have:=HNU.out;show _=_;unfold wrap64;omega
   cases htr:tryK bs S.M X.1 u u.length with
   | some r=>
    have HS1:Hid (passK bs ch S.M S.J U (k+1)=(r.1,X.2 ++ r.2)):=by show _=_;rw [hsu];unfold unitG;rw [htr]
    have kp:Calls Tryz.prog 170 #[.pointer (some ⟨g,0,none⟩),.slice (some ⟨gu,ou,none⟩) nu cu] wr fun e w'=>∃ v vJ',e = .returned (.tuple #[v,.bool true])/\OwnK w' wr.heap.size 64 3 v (cellsA r.2)/\Wn wr w' b g vM vQ (.slice C1 n c1) { S with J:=X.1 } lst vM vQ vJ' { S with J:=r.1 }:=by
     have h:=KP.out
     rw [show tryK bs ({ S with J:=X.1 }:Sg).M ({ S with J:=X.1 }:Sg).J u u.length=some r from htr] at h
     exact h
    clear KP
    have KP:=Lib.hid kp
    clear htr kp hsu hall hall1 hWn hru hru1 hlB hgB hcB1 hum hXl hu0 hp0 hp0' hlu hgu hnp hW hA hX hu hkl H hnu
    go_wp2_with fail
    refine KP.out.mono ?_;rintro e w5 ⟨v,vJ5,rfl,hO5,hW5⟩
    obtain ⟨A5,c5,hv5,hr5,-,-,-⟩:=hO5.sl
    obtain ⟨m5,hm5⟩:∃ m5,m5=(cellsA r.2).length:=⟨_,rfl⟩
    rw [<- hm5] at hv5
    subst hv5
    have HR5:=Lib.hid hr5;have HM5:=Lib.hid hm5
    have HW5:=Lib.hid (HW.out.trans hW5)
    have HA5:=Lib.hid (hW5.rowA HW.out.gs HA.out)
    have HSZ:Hid (w1.heap.size<=w5.heap.size):=HW5.out.gr.size
    have c0:w5.cell? ⟨gu,ou,none⟩=some (.int .i64 (p0:Int)):=HU0.out _ HW5.out.gr
    have HFIT:Hid _:=acts_fit (a:=X.2) (b:=r.2) (by have:=HX2.out;rw [HS1.out] at this;exact this)
    have HL5:Hid (r.1.length=S.J.length):=by have:=HL1.out;rw [HS1.out] at this;exact this
    clear hO5 hW5 hr5 hm5 KP hcB HW HA
    go_wp2_with ((with_reducible refine append15_kn _ rfl (.tmp 45) (.tmp 46) 34 rfl w1.heap.size 64 _ 3 40 Tryz.underlying34 infoA15 rfl (by omega) u3 (cellsA X.2) rfl HA5.out A5 c5 m5 (cellsA r.2) rfl HR5.out (cellsA_k _) (cellsA_one _) HM5.out HFIT.out.1 HFIT.out.2 HSZ.out ?_);intro v7 w7 hO7 hg7;have H7:Hid (Pa w1 w7 b g lst vM vQ (.slice C n cC) S (passK bs ch S.M S.J U (k+1)) v7):=(by rw [HS1.out];exact Pa.put HW5.out HL5.out HA5.out hO7 hg7);clear hO7 hg7)
    have hwk:=HWK.out
    go_round
    case rel=>exact ⟨k+1,hlt,by go_num,H7⟩
    case measure=>rw [hwk];show nU - ((k+1:Nat):Int).toNat<nU - (k:Int).toNat;rw [Int.toNat_natCast,Int.toNat_natCast];exact Nat.sub_lt_sub_left hlt (Nat.lt_succ_self k)
   | none=>
    have kp:Calls Tryz.prog 170 #[.pointer (some ⟨g,0,none⟩),.slice (some ⟨gu,ou,none⟩) nu cu] wr fun e w'=>e = .returned (.tuple #[.slice none 0 0,.bool false])/\Below wr.heap.size wr w':=by
     have h:=KP.out
     rw [show tryK bs ({ S with J:=X.1 }:Sg).M ({ S with J:=X.1 }:Sg).J u u.length=none from htr] at h
     exact h
    clear KP
    have KP:=Lib.hid kp
    obtain ⟨ga,hga⟩:∃ ga,ga=(jl X.1 p0).1.ga:=⟨_,rfl⟩
    have HSn:Hid (passK bs ch S.M S.J U (k+1)=if ga.size=0 then ((preG ch S.M X.1 p0).1,X.2 ++ (preG ch S.M X.1 p0).2) else X):=by show _=_;rw [hsu];unfold unitG;rw [htr,<- hp0,<- hga]
    obtain ⟨r1,rfl⟩:=HW.out.gs.own.J.at0 (by rw [cellsJ_length,List.length_map];exact Nat.lt_of_le_of_lt (Nat.zero_le _) HPS.out)
    have hpn:p0<n:=by have h:=HPS.out;rw [hXl,<- HNJ.out] at h;exact h
    have HGA:Hid (∀ W,OwnK W b 66 13 (.slice (some ⟨r1,0,none⟩) n c1) (cellsJ (jbs X.1))->W.cell? ⟨r1,p0 * 13+8,none⟩=some (.string ga)):=fun W h=>by
     refine h.jobAt (p:=p0) (j:=8) (by rw [List.length_map];exact HPS.out) ?_
     rw [hga,jl_at HPS.out]
     simp only [jbs,List.getElem_map];rfl
    clear htr kp hsu hall hall1 hWn hru hru1 hlB hgB hcB1 hum hXl hu0 hp0 hp0' hlu hgu hnp hW hA hX hu hkl H hnu hga
    go_wp2_with fail
    refine KP.out.mono ?_;rintro e w5 ⟨rfl,hb5⟩
    have HW5:=Lib.hid (HW.out.below hb5)
    have HA5:=Lib.hid (HA.out.below hb5)
    have HSZ:Hid (w1.heap.size<=w5.heap.size):=HW5.out.gr.size
    have c0:w5.cell? ⟨gu,ou,none⟩=some (.int .i64 (p0:Int)):=HU0.out _ HW5.out.gr
    have c4:w5.cell? ⟨g,4,none⟩=some (.slice (some ⟨r1,0,none⟩) n c1):=HW5.out.gs.bk.cellAt 4
    have cga:w5.cell? ⟨r1,p0 * 13+8,none⟩=some (.string ga):=HGA.out _ HW5.out.gs.own.J
    clear hb5 KP hcB HW HA HGA
    by_cases hz:ga.size=0
    ·obtain rfl:=empty_of hz
     have HS1:Hid (passK bs ch S.M S.J U (k+1)=((preG ch S.M X.1 p0).1,X.2 ++ (preG ch S.M X.1 p0).2)):=by have:=HSn.out;rw [if_pos hz] at this;exact this
     have KE:=Lib.hid (preempt_any ch hC b g p0 lst vM vQ (.slice (some ⟨r1,0,none⟩) n c1) { S with J:=X.1 } w5 (Lib.hid HW5.out.gs) HSm HPS.out (show ∀ x ∈ X.1,_ from fun x hx=>⟨Int.le_trans (by decide) (HBO.out x hx).1,Int.le_trans (HBO.out x hx).2 (by decide)⟩))
     clear HSn hz
     go_wp2_with fail
     refine KE.out.mono ?_;rintro e w6 ⟨⟨v,rfl,hO6⟩,hW6⟩
     obtain ⟨l6,hl6⟩:∃ l6,l6=(preG ch S.M X.1 p0).2:=⟨_,rfl⟩
     have hO6':OwnK w6 w5.heap.size 64 3 v (cellsA l6):=by rw [hl6];exact hO6
     obtain ⟨A5,c5,hv5,hr5,-,-,-⟩:=hO6'.sl
     obtain ⟨m5,hm5⟩:∃ m5,m5=(cellsA l6).length:=⟨_,rfl⟩
     rw [<- hm5] at hv5
     subst hv5
     have HR5:=Lib.hid hr5;have HM5:=Lib.hid hm5
     have HW6:=Lib.hid (HW5.out.trans hW6)
     have HA6:=Lib.hid (hW6.rowA HW5.out.gs HA5.out)
     have HSZ6:Hid (w1.heap.size<=w6.heap.size):=HW6.out.gr.size
     rw [<- hl6] at HS1
     have HFIT:Hid _:=acts_fit (a:=X.2) (b:=l6) (by have:=HX2.out;rw [HS1.out] at this;exact this)
     have HL5:Hid ((preG ch S.M X.1 p0).1.length=S.J.length):=by have:=HL1.out;rw [HS1.out] at this;exact this
     clear hO6 hO6' hW6 hr5 hm5 hl6 KE c4 cga c0 HW5 HA5 HSZ
     go_wp2_with ((with_reducible refine append15_kn _ rfl (.tmp 45) (.tmp 46) 34 rfl w1.heap.size 64 _ 3 40 Tryz.underlying34 infoA15 rfl (by omega) u3 (cellsA X.2) rfl HA6.out A5 c5 m5 (cellsA l6) rfl HR5.out (cellsA_k _) (cellsA_one _) HM5.out HFIT.out.1 HFIT.out.2 HSZ6.out ?_);intro v7 w7 hO7 hg7;have H7:Hid (Pa w1 w7 b g lst vM vQ (.slice C n cC) S (passK bs ch S.M S.J U (k+1)) v7):=(by rw [HS1.out];exact Pa.put HW6.out HL5.out HA6.out hO7 hg7);clear hO7 hg7)
     have hwk:=HWK.out
     go_round
     case rel=>exact ⟨k+1,hlt,by go_num,H7⟩
     case measure=>rw [hwk];show nU - ((k+1:Nat):Int).toNat<nU - (k:Int).toNat;rw [Int.toNat_natCast,Int.toNat_natCast];exact Nat.sub_lt_sub_left hlt (Nat.lt_succ_self k)
    ·have HS1:Hid (passK bs ch S.M S.J U (k+1)=(X.1,X.2 ++ [])):=by have:=HSn.out;rw [if_neg hz] at this;rw [List.append_nil];exact this
     have hz2:=full_of hz
     obtain ⟨hz3,hz4⟩:=hz2
     have HFIT:Hid _:=acts_fit (a:=X.2) (b:=[]) (by have:=HX2.out;rw [HS1.out] at this;exact this)
     have HL5:Hid (X.1.length=S.J.length):=HXL.out
     have HRN:Hid (RdK w5 3 none (cellsA [])):=RdK.nil _ _ _
     clear HSn hz
     go_wp2_with ((with_reducible refine append15_kn _ rfl (.tmp 45) (.tmp 46) 34 rfl w1.heap.size 64 _ 3 40 Tryz.underlying34 infoA15 rfl (by omega) u3 (cellsA X.2) rfl HA5.out none 0 0 (cellsA []) rfl HRN.out (cellsA_k _) (cellsA_one _) rfl HFIT.out.1 HFIT.out.2 HSZ.out ?_);intro v7 w7 hO7 hg7;have H7:Hid (Pa w1 w7 b g lst vM vQ (.slice C n cC) S (passK bs ch S.M S.J U (k+1)) v7):=(by rw [HS1.out];exact Pa.put HW5.out HL5.out HA5.out hO7 hg7);clear hO7 hg7)
     have hwk:=HWK.out
     go_round
     case rel=>exact ⟨k+1,hlt,by go_num,H7⟩
     case measure=>rw [hwk];show nU - ((k+1:Nat):Int).toNat<nU - (k:Int).toNat;rw [Int.toNat_natCast,Int.toNat_natCast];exact Nat.sub_lt_sub_left hlt (Nat.lt_succ_self k)
  ·have hkn:k=nU:=by omega
   have HF:Hid (OwnK wr w.heap.size 64 3 u3 (cellsA R.2) /\ ∃ vJ',Wn w wr b g vM vQ (.slice C n cC) S lst vM vQ vJ' { S with J:=R.1 }):=by
    obtain ⟨C1,c1,hW,hA⟩:=H.out
    rw [HR.out,<- hkn]
    exact ⟨hA.base HB1.out.size,_,(Wn.first hG.out HB1.out).trans hW⟩
   clear H hk hlt
   go_wp2_with fail
   go_ret
   exact ⟨⟨u3,rfl,HF.out.1⟩,HF.out.2⟩
end
section
open Go.RowKit
def tickG (bs:Bst) (ch:Chs15) (un:Uns) (S:Sg):Sg × An:=
 if 1073741824<=S.ck then (S,6,[]) else
  ({ (expG { S with ck:=S.ck+1 }).1 with J:=(passG bs ch un (expG { S with ck:=S.ck+1 }).1.M (expG { S with ck:=S.ck+1 }).1.J).1 },0,(expG { S with ck:=S.ck+1 }).2 ++ (passG bs ch un (expG { S with ck:=S.ck+1 }).1.M (expG { S with ck:=S.ck+1 }).1.J).2)
theorem relJ_core (s:ByteArray) (J:List Jl):(relJ s J).map coreB=J.map coreB:=by
 unfold relJ
 rw [List.map_map]
 refine List.map_congr_left fun x _=>?_
 show coreB (relX s x)=coreB x
 unfold relX
 split <;> rfl
theorem expK_same (S:Sg):∀ k,(expK S k).1.J.map coreB=S.J.map coreB/\(expK S k).1.M.map Prod.snd=S.M.map Prod.snd/\(expK S k).1.Q=S.Q/\(expK S k).1.ck=S.ck/\(expK S k).1.nx=S.nx
 | 0=>⟨rfl,rfl,rfl,rfl,rfl⟩
 | k+1=>by
  rw [expK_succ]
  obtain ⟨h1,h2,h3,h4,h5⟩:=expK_same S k
  unfold expS
  split
  ·exact ⟨(relJ_core _ _).trans h1,(map_set_same fun hp=>by rw [ml_at hp];rfl).trans h2,h3,h4,h5⟩
  ·exact ⟨h1,h2,h3,h4,h5⟩
theorem expG_sm {S:Sg} (h:Sm S):Sm (expG S).1:=by
 obtain ⟨h1,h2,h3,h4,h5⟩:=expK_same S S.M.length
 obtain ⟨l1,l2,_⟩:=expK_len (S:=S) S.M.length
 refine ⟨by unfold expG;rw [l1];exact h.M,by unfold expG;rw [h3];exact h.Q,by unfold expG;rw [l2];exact h.J,fun x hx=>?_,fun x hx=>?_,by unfold expG;rw [h5];exact h.nx,by unfold expG;rw [h4];exact h.ck⟩
 ·have hm:x.2 ∈ S.M.map Prod.snd:=by rw [<- h2];exact List.mem_map_of_mem hx
  obtain ⟨y,hy,e⟩:=List.mem_map.1 hm
  rw [<- e];exact h.lM y hy
 ·obtain ⟨y,hy,e⟩:=core_mem (coreB_core h1) hx
  rw [<- (core_tk e).2];exact h.lJ y hy
theorem expG_bo {S:Sg} {m:Int} (h:BoK m S.J):BoK m (expG S).1.J:=fun x hx=>by
 obtain ⟨h1,_⟩:=expK_same S S.M.length
 have hm:coreB x ∈ S.J.map coreB:=by rw [<- h1];exact List.mem_map_of_mem hx
 obtain ⟨y,hy,e⟩:=List.mem_map.1 hm
 have e2:y.1.bo=x.1.bo:=by have h:=congrArg (fun x:Jl=>x.1.bo) e;exact h
 rw [<- e2];exact h y hy
section
variable {w:World} {b g:Nat} {lst:Int} {vM vQ vJ:Value} {S:Sg}
theorem Gs.setC (h:Gs w b g lst vM vQ vJ S) (ck:Int):Wn w (w.setCell ⟨g,0,none⟩ (.int .i64 ck)) b g vM vQ vJ S lst vM vQ vJ { S with ck:=ck }:=by
 have hg:GrP (fun k=>k=g) w (w.setCell ⟨g,0,none⟩ (.int .i64 ck)):=(GrP.refl (fun k=>k=g) w).set (a:=⟨g,0,none⟩) rfl _
 have ho:=h.own.grp hg fun k hk e=>h.ne k hk e
 exact ⟨⟨h.bk.put 0 _,h.nx,⟨ho.M,ho.Q,ho.J,ho.lM,ho.lJ,ho.zM,ho.zQ,ho.zJ⟩,h.le,h.ne⟩,hg.wide fun k _ e=>.inl e,fun k hk=>.inl hk⟩
end
theorem passG_few {bs:Bst} {ch:Chs15} {un:Uns} (hC:ChoK ch) (hU:UniK un) {M:List Ml} {J:List Jl} (hJ:J.length<=1000) (hb:BoK 1152921504606846976 J):(passG bs ch un M J).2.length<=1001000:=by
 have h:=(passK_all (bs:=bs) hC (M:=M) (U:=un J) (fun u hu=>Nat.le_trans (hU.few J u hu) hJ) hJ hb (un J).length (Nat.le_refl _)).2.2
 have h2:=hU.len J
 unfold passG
 omega
theorem expG_few {S:Sg} (hM:S.M.length<=1000) (hJ:S.J.length<=1000):(expG S).2.length<=1000000:=by
 have h:=(expK_len (S:=S) S.M.length).2.2
 have h2:S.M.length * S.J.length<=1000 * 1000:=Nat.mul_le_mul hM hJ
 unfold expG
 omega
theorem acts_fit3 {a b:List Ac} (h1:a.length<=1000000) (h2:b.length<=1001000):(cellsA a).length+(cellsA b).length<=maxLen/\((cellsA a).length+(cellsA b).length) * 40<=140737488355328:=by
 rw [cellsA_length,cellsA_length]
 exact ⟨by simp only [maxLen];omega,by omega⟩


theorem tick_any (bs:Bst) (ch:Chs15) (un:Uns) (hB:Hid (BestK bs)) (hC:Hid (ChoK ch)) (hUn:Hid (UniK un)) (b g:Nat) (lst:Int) (vM vQ vJ:Value) (S:Sg) (w:World) (hG:Hid (Gs w b g lst vM vQ vJ S)) (hM:Hid (Sm S)) (hbo:Hid (BoK 1152921504606846976 S.J)) :
  Calls Tryz.prog 91 #[.pointer (some ⟨g,0,none⟩)] w fun e w'=>(∃ A n c,e = .returned (.tuple #[.slice A n c,.int .i64 (tickG bs ch un S).2.1])/\RetL w.heap.size w' A n c (tickG bs ch un S).2.2)/\Went w w' b g vM vQ vJ S (tickG bs ch un S).1:=by
 obtain ⟨ck,hck⟩:∃ ck,ck=S.ck:=⟨_,rfl⟩
 have c0:w.cell? ⟨g,0,none⟩=some (.int .i64 ck):=by rw [hck];exact hG.out.bk.cellAt 0
 have f0:w.frozen? ⟨g,0,none⟩=false:=hG.out.bk.free 0
 by_cases hov:1073741824<=ck
 ·have hd:tickG bs ch un S=(S,6,[]):=by unfold tickG;rw [if_pos (by rw [<- hck];exact hov)]
  rw [hd]
  clear hd hck
  go_enter Tryz.func91,Tryz.ntmps91
  go_wp2_with fail
  exact bodyPost_ret (v:=.tuple #[.slice none 0 0,.int .i64 6]) (by simp [results,Tryz.results91,go_sem]) rfl ⟨⟨none,0,0,rfl,RetL.nil _ _⟩,Went.same hG.out (Below.refl _ _)⟩
 ·obtain ⟨S1,hS1⟩:∃ S1:Sg,S1 = { S with ck:=ck+1 }:=⟨_,rfl⟩
  obtain ⟨T,hT⟩:∃ T,T=expG S1:=⟨_,rfl⟩
  obtain ⟨P,hP⟩:∃ P,P=passG bs ch un T.1.M T.1.J:=⟨_,rfl⟩
  have hd:tickG bs ch un S=({ T.1 with J:=P.1 },0,T.2 ++ P.2):=by unfold tickG;rw [if_neg (by rw [<- hck];exact hov),<- hck,<- hS1,<- hT,<- hP]
  rw [hd]
  have hck2:0<=ck:=by rw [hck];exact hM.out.ck.1
  have hSm1:Sm S1:=by rw [hS1];exact ⟨hM.out.M,hM.out.Q,hM.out.J,hM.out.lM,hM.out.lJ,hM.out.nx,⟨show 0<=ck+1 by omega,show ck+1<=4611686018427387904 by omega⟩⟩
  have HW0:Hid (Wn w (w.setCell ⟨g,0,none⟩ (.int .i64 (ck+1))) b g vM vQ vJ S lst vM vQ vJ S1):=by rw [hS1];exact hG.out.setC (ck+1)
  have hbo1:BoK 1152921504606846976 S1.J:=by rw [hS1];exact hbo.out
  have HSmT:Hid (Sm T.1):=by rw [hT];exact expG_sm hSm1
  have HBoT:Hid (BoK 1152921504606846976 T.1.J):=by rw [hT];exact expG_bo hbo1
  have HF1:Hid (T.2.length<=1000000):=by rw [hT];exact expG_few hSm1.M hSm1.J
  have HF2:Hid (P.2.length<=1001000):=by rw [hP];exact passG_few hC.out hUn.out HSmT.out.J HBoT.out
  have KE:=Lib.hid (expire_any b g lst vM vQ vJ S1 _ (Lib.hid HW0.out.gs) hSm1.M hSm1.J)
  rw [<- hT] at KE
  have KP:=Lib.hid (fun (vJ:Value) (W:World) (h:Gs W b g lst vM vQ vJ T.1)=>pass_any bs ch un hB hC hUn b g lst vM vQ vJ T.1 W h HSmT HBoT)
  rw [<- hP] at KP
  have hw1:IntKind.i64.wrap (ck+1)=ck+1:=by rw [IntKind.wrap_i64];omega
  clear hd hck hS1 hT hP hSm1 hbo1 hck2
  go_enter Tryz.func91,Tryz.ntmps91
  go_wp2_with fail
  refine KE.out.mono ?_;rintro e w1 ⟨⟨v1,rfl,hO1⟩,hW1⟩
  have HO1:=Lib.hid hO1;have HW1:=Lib.hid hW1
  clear hO1 hW1 KE c0 f0
  go_wp2_with fail
  refine (KP.out vJ _ HW1.out.gs).mono ?_;rintro e w2 ⟨⟨v2,rfl,hO2⟩,vJ2,hW2⟩
  obtain ⟨A2,c2,hv2,hr2,-,-,-⟩:=hO2.sl
  obtain ⟨m2,hm2⟩:∃ m2,m2=(cellsA P.2).length:=⟨_,rfl⟩
  rw [<- hm2] at hv2
  subst hv2
  have HR2:=Lib.hid hr2;have HM2:=Lib.hid hm2
  have HA2:Hid (OwnK w2 w.heap.size 64 3 v1 (cellsA T.2)):=(hW2.rowA HW1.out.gs HO1.out).base (by simp)
  have HW2:Hid (Wn w w2 b g vM vQ vJ S lst vM vQ vJ2 { T.1 with J:=P.1 }):=(HW0.out.trans HW1.out).trans hW2
  have HSZ:Hid (w.heap.size<=w2.heap.size):=((HW0.out.trans HW1.out).trans hW2).gr.size
  have HFIT:=Lib.hid (acts_fit3 HF1.out HF2.out)
  clear hO2 hW2 hr2 hm2 KP HO1 HW1
  go_wp2_with ((with_reducible refine append15_kn _ rfl (.tmp 19) (.tmp 21) 34 rfl w.heap.size 64 _ 3 40 Tryz.underlying34 infoA15 rfl (by omega) v1 (cellsA T.2) rfl HA2.out A2 c2 m2 (cellsA P.2) rfl HR2.out (cellsA_k _) (cellsA_one _) HM2.out HFIT.out.1 HFIT.out.2 HSZ.out ?_);intro v7 w7 hO7 hg7;have HW7:=Lib.hid (HW2.out.acts HA2.out hg7 (Nat.le_refl _));have HO7:Hid (OwnK w7 w.heap.size 64 3 v7 (cellsA (T.2 ++ P.2))):=(by rw [cellsA_append];exact hO7);clear hO7 hg7)
  obtain ⟨A7,c7,hv7,-,-,-⟩:=HO7.out.acts
  subst hv7
  exact bodyPost_ret (v:=.tuple #[.slice A7 (T.2 ++ P.2).length c7,.int .i64 0]) (by simp [results,Tryz.results91,go_sem]) rfl ⟨⟨A7,_,c7,rfl,RetL.own HO7.out⟩,HW7.out.went rfl⟩
end
end Go.Proofs.YtccccbofcnmdiaaGreat
