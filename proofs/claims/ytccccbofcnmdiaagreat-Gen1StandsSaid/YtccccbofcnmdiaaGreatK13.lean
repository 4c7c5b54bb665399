/- Lemmas that the law stands on. No condition. -/
import Derived.Test.YtccccbofcnmdiaaGreatK12
namespace Go.Proofs.YtccccbofcnmdiaaGreat
set_option linter.unusedSimpArgs false
set_option linter.unusedVariables false
set_option maxRecDepth 100000
set_option maxHeartbeats 51200000
section
open Go.RowKit
def RdNl (lo:Nat)(w:World)(A:Option Addr)(u:List Nat):Prop:=∀ k (h:k<u.length),∃ g o,A=some ⟨g,o,none⟩/\lo<=g/\g<w.heap.size/\w.cell? ⟨g,o+k,none⟩=some (.int .i64 (u[k]:Int))
theorem RdNl.rdn {lo:Nat}{w:World}{A:Option Addr}{u:List Nat}(h:RdNl lo w A u):RdN w A u:=fun k hk=>by
 obtain ⟨g,o,e,_,hg,hc⟩:=h k hk;exact ⟨g,o,e,hg,hc⟩
def RdUn (lo:Nat)(w:World)(B:Option Addr)(U:List (List Nat)):Prop:=∀ i (h:i<U.length),∃ g o A c,B=some ⟨g,o,none⟩/\lo<=g/\g<w.heap.size/\w.cell? ⟨g,o+i,none⟩=some (.slice A U[i].length c)/\RdNl lo w A U[i]
theorem RdNl.kept {lo:Nat} {w w':World}{A:Option Addr}{u:List Nat}{p:Nat->Prop}(h:RdNl lo w A u)(hg:GrP p w w')(hp:∀ k,lo<=k->k<w.heap.size -> ¬ p k):RdNl lo w' A u:=fun k hk=>by
 obtain ⟨g,o,e,hl,hgl,hc⟩:=h k hk
 exact ⟨g,o,e,hl,Nat.lt_of_lt_of_le hgl hg.size,by rw [hg.cell hgl (hp g hl hgl)];exact hc⟩
abbrev Uns:=List Jl->List (List Nat)
structure UniK (un:Uns):Prop where
 calls:∀ (A:Option Addr) (n cap:Nat)(J:List Jl)(w:World),n=J.length->n<=1000000->RdJ w A (jbs J)->Calls Tryz.prog 169 #[.slice A n cap] w fun e w'=>(∃ B c,e = .returned (.slice B (un J).length c)/\RdUn w.heap.size w' B (un J))/\Below w.heap.size w w'
 ne:∀ J,∀ u ∈ un J,0<u.length
 lt:∀ J,∀ u ∈ un J,∀ i ∈ u,i<J.length
 few:∀ J,∀ u ∈ un J,u.length<=J.length
 len:∀ J,(un J).length<=J.length
section
variable (bs:Bst)(ch:Chs15)(un:Uns)(M:List Ml)
def unitG (X:List Jl × List Ac)(u:List Nat):List Jl × List Ac:=
 match tryK bs M X.1 u u.length with
 | some r=>(r.1,X.2 ++ r.2)
 | none=>if (jl X.1 (u.getD 0 0)).1.ga.size=0 then ((preG ch M X.1 (u.getD 0 0)).1,X.2 ++ (preG ch M X.1 (u.getD 0 0)).2) else X
def passK (J:List Jl)(U:List (List Nat)) (k:Nat):List Jl × List Ac:=(U.take k).foldl (unitG bs ch M) (J,[])
def passG (J:List Jl):List Jl × List Ac:=passK bs ch M J (un J) (un J).length
end
theorem preG_core {ch:Chs15}{M:List Ml}{J:List Jl}{p:Nat}:(preG ch M J p).1.map core=J.map core:=by
 unfold preG
 split
 ·exact bind_core.trans (coreB_core (evK_core _ (Nat.le_refl _)).1)
 ·rfl
theorem unitG_core {bs:Bst}{ch:Chs15}{M:List Ml}{X:List Jl × List Ac}{u:List Nat}:(unitG bs ch M X u).1.map core=X.1.map core:=by
 unfold unitG
 cases h:tryK bs M X.1 u u.length with
 | some r=>exact (tryK_core h).1
 | none=>
  simp only
  split
  ·exact preG_core
  ·rfl
theorem passK_succ {bs:Bst}{ch:Chs15}{M:List Ml}{J:List Jl}{U:List (List Nat)}{k:Nat}(hk:k<U.length):passK bs ch M J U (k+1)=unitG bs ch M (passK bs ch M J U k) U[k]:=by
 unfold passK;rw [List.take_succ_eq_append_getElem hk,List.foldl_append];rfl
def BoK (m:Int)(J:List Jl):Prop:=∀ x ∈ J,-2305843009213693952<=x.1.bo/\x.1.bo<=m
theorem BoK.set {m:Int}{J:List Jl}{p:Nat}{y:Jl}(h:BoK m J)(hy:-2305843009213693952<=y.1.bo/\y.1.bo<=m):BoK m (J.set p y):=fun x hx=>by
 rcases List.mem_or_eq_of_mem_set hx with hx | rfl
 ·exact h x hx
 ·exact hy
theorem BoK.at {m:Int}{J:List Jl}(h:BoK m J)(hm:0<=m) (p:Nat):-2305843009213693952<=(jl J p).1.bo/\(jl J p).1.bo<=m:=by
 by_cases hp:p<J.length
 ·rw [jl_at hp];exact h _ (List.getElem_mem hp)
 ·rw [jl_no (by omega)];exact ⟨by show (_:Int)<=0;omega,hm⟩
theorem BoK.up {m m':Int}{J:List Jl}(h:BoK m J)(hm:m<=m'):BoK m' J:=fun x hx=>⟨(h x hx).1,Int.le_trans (h x hx).2 hm⟩
theorem BoK.bind {m:Int}{J:List Jl}(h:BoK m J)(hm:0<=m)(s:ByteArray) (p:Nat):BoK (m+1) (bindJ s p J):=(h.up (by omega)).set (by have:=h.at hm p;show _<=_+1/\_+1<=_;omega)
theorem tryK_bok {bs:Bst}{M:List Ml}{J:List Jl}{u:List Nat}{m:Int}(hm:0<=m)(hb:BoK m J):∀ {k:Nat}{r:List Jl × List Ac},tryK bs M J u k=some r->BoK (m+(k:Int)) r.1
 | 0,r,h=>by injection h with h;subst h;exact hb.up (by omega)
 | k+1,r',h=>by
  obtain ⟨r,hr,_,rfl⟩:=tryK_succ h
  have ih:=tryK_bok hm hb hr
  have h0:0<=m+(k:Int):=by omega
  exact (ih.bind h0 _ _).up (by omega)
theorem evK_bok {J:List Jl}{names:List ByteArray}{m:Int}(hm:0<=m)(hb:BoK m J):∀ k,k<=names.length->BoK m (evK J names k).1
 | 0,_=>hb
 | k+1,hk=>by
  rw [evK_succ (by omega)]
  have ih:=evK_bok (names:=names) hm hb k (by omega)
  exact ih.set (ih.at hm _)
theorem preG_bok {ch:Chs15}{M:List Ml}{J:List Jl}{p:Nat}{m:Int}(hm:0<=m)(hb:BoK m J):BoK (m+1) (preG ch M J p).1:=by
 unfold preG
 split
 ·exact (evK_bok hm hb _ (Nat.le_refl _)).bind hm _ _
 ·exact hb.up (by omega)
theorem unitG_bok {bs:Bst}{ch:Chs15}{M:List Ml}{X:List Jl × List Ac}{u:List Nat}{m:Int}(hm:0<=m)(hu:u.length<=1000)(hb:BoK m X.1):BoK (m+1001) (unitG bs ch M X u).1:=by
 unfold unitG
 cases h:tryK bs M X.1 u u.length with
 | some r=>exact (tryK_bok hm hb h).up (by omega)
 | none=>
  simp only
  split
  ·exact (preG_bok hm hb).up (by omega)
  ·exact hb.up (by omega)
theorem preG_few {ch:Chs15}(hC:ChoK ch){M:List Ml}{J:List Jl}{p:Nat}:(preG ch M J p).2.length<=J.length+1:=by
 unfold preG
 split
 ·rw [List.length_append,(evK_core _ (Nat.le_refl _)).2,List.length_singleton];have:=hC.few M J p;omega
 ·exact Nat.zero_le _
theorem unitG_few {bs:Bst}{ch:Chs15}(hC:ChoK ch){M:List Ml}{X:List Jl × List Ac}{u:List Nat}(hu:u.length<=1000)(hJ:X.1.length<=1000):(unitG bs ch M X u).2.length<=X.2.length+1001:=by
 unfold unitG
 cases h:tryK bs M X.1 u u.length with
 | some r=>rw [List.length_append];have:=(tryK_core h).2;omega
 | none=>
  simp only
  split
  ·rw [List.length_append];have:=preG_few hC (M:=M) (J:=X.1) (p:=u.getD 0 0);omega
  ·omega
theorem passK_all {bs:Bst}{ch:Chs15}(hC:ChoK ch){M:List Ml}{J:List Jl}{U:List (List Nat)}(hU:∀ u ∈ U,u.length<=1000)(hJ:J.length<=1000)(hb:BoK 1152921504606846976 J):∀ k,k<=U.length->(passK bs ch M J U k).1.map core=J.map core/\BoK (1152921504606846976+1001 * (k:Int)) (passK bs ch M J U k).1/\(passK bs ch M J U k).2.length<=1001 * k
 | 0,_=>⟨rfl,hb.up (by omega),Nat.le_refl _⟩
 | k+1,hk=>by
  obtain ⟨h1,h2,h3⟩:=passK_all (bs:=bs) hC (M:=M) hU hJ hb k (by omega)
  have hu:=hU _ (List.getElem_mem (show k<U.length by omega))
  have hl:(passK bs ch M J U k).1.length=J.length:=by have:=congrArg List.length h1;simpa using this
  rw [passK_succ (by omega)]
  refine ⟨unitG_core.trans h1,(unitG_bok (by omega) hu h2).up (by omega),?_⟩
  have:=unitG_few (bs:=bs) hC (M:=M) hu (show (passK bs ch M J U k).1.length<=1000 by omega)
  omega
def Pa (w wr:World) (b g:Nat) (lst:Int)(vM vQ vJ:Value)(S:Sg)(X:List Jl × List Ac)(vA:Value):Prop:=
 ∃ C c,Wn w wr b g vM vQ vJ S lst vM vQ (.slice C S.J.length c) { S with J:=X.1 } /\ OwnK wr w.heap.size 64 3 vA (cellsA X.2)
theorem Wn.mid {w w':World}{b g:Nat}{lst:Int} {vM vQ vJ vJ':Value} {S S':Sg}(h:Wn w w' b g vM vQ vJ S lst vM vQ vJ' S')(hl:S'.J.length=S.J.length):∃ C c,vJ' = .slice C S.J.length c:=by
 obtain ⟨C,c,hv,-,-,-,-⟩:=h.gs.own.J.sl
 rw [cellsJ_length,List.length_map,hl] at hv
 exact ⟨C,c,hv⟩
theorem Sm.withJ {S:Sg}{J:List Jl}(h:Sm S)(hc:J.map core=S.J.map core):Sm { S with J:=J }:=
 ⟨h.M,h.Q,by have:=congrArg List.length hc;rw [List.length_map,List.length_map] at this;show J.length<=1000;rw [this];exact h.J,h.lM,fun x hx=>by obtain ⟨y,hy,e⟩:=core_mem hc hx;rw [<- (core_tk e).2];exact h.lJ y hy,h.nx,h.ck⟩
theorem Pa.put {w1 w5 w7:World}{b g:Nat}{lst:Int}{vM vQ vJ vJ5 u3 v7:Value}{S:Sg}{J5:List Jl}{X2 l5:List Ac}(hW:Wn w1 w5 b g vM vQ vJ S lst vM vQ vJ5 { S with J:=J5 })(hl:J5.length=S.J.length)(hA:OwnK w5 w1.heap.size 64 3 u3 (cellsA X2))(hO:OwnK w7 w1.heap.size 64 3 v7 (cellsA X2 ++ cellsA l5))(hg:w5.grownBy w7 u3.ownBlock):Pa w1 w7 b g lst vM vQ vJ S (J5,X2 ++ l5) v7:=by
 obtain ⟨C,c,rfl⟩:=hW.mid hl
 exact ⟨C,c,hW.acts hA hg (Nat.le_refl _),by rw [cellsA_append];exact hO⟩
theorem acts_fit {a b:List Ac}(h:(a ++ b).length<=2000000):(cellsA a).length+(cellsA b).length<=maxLen/\((cellsA a).length+(cellsA b).length) * 40<=140737488355328:=by
 rw [cellsA_length,cellsA_length]
 rw [List.length_append] at h
 exact ⟨by simp only [maxLen];omega,by omega⟩


theorem pass_any (bs:Bst)(ch:Chs15)(un:Uns)(hB:Hid (BestK bs))(hC:Hid (ChoK ch))(hUn:Hid (UniK un)) (b g:Nat) (lst:Int)(vM vQ vJ:Value)(S:Sg)(w:World)(hG:Hid (Gs w b g lst vM vQ vJ S))(hM:Hid (Sm S))(hbo:Hid (BoK 1152921504606846976 S.J)) :
  Calls Tryz.prog 135 #[.pointer (some ⟨g,0,none⟩)] w fun e w'=>(∃ v,e = .returned v/\OwnK w' w.heap.size 64 3 v (cellsA (passG bs ch un S.M S.J).2)) /\ ∃ vJ',Wn w w' b g vM vQ vJ S lst vM vQ vJ' { S with J:=(passG bs ch un S.M S.J).1 }:=by
 obtain ⟨C,cC,hv,hrd,-,-,-⟩:=hG.out.own.J.sl
 obtain ⟨n,hn⟩:∃ n,n=S.J.length:=⟨_,rfl⟩
 rw [cellsJ_length,List.length_map,<- hn] at hv
 subst hv
 have HNJ:=Lib.hid hn
 have HJB:Hid (n<=1000):=by show _<=_;rw [hn];exact hM.out.J
 have KU:=Lib.hid (hUn.out.calls C n cC S.J w hn (by have:=HJB.out;omega) hrd)
 have c4:w.cell? ⟨g,4,none⟩=some (.slice C n cC):=hG.out.bk.cellAt 4
 obtain ⟨U,hU⟩:∃ U,U=un S.J:=⟨_,rfl⟩
 have hUf:∀ u ∈ U,u.length<=1000:=fun u hu=>by rw [hU] at hu;exact Nat.le_trans (hUn.out.few _ u hu) hM.out.J
 have hUl:∀ u ∈ U,0<u.length /\ ∀ i ∈ u,i<S.J.length:=fun u hu=>by rw [hU] at hu;exact ⟨hUn.out.ne _ u hu,hUn.out.lt _ u hu⟩
 have hUn1:U.length<=1000:=by rw [hU];exact Nat.le_trans (hUn.out.len _) hM.out.J
 obtain ⟨nU,hnU⟩:∃ nU,nU=U.length:=⟨_,rfl⟩
 rw [<- hU,<- hnU] at KU
 have HALL:=Lib.hid (passK_all (bs:=bs) hC.out (M:=S.M) hUf hM.out.J hbo.out)
 have HR:Hid (passG bs ch un S.M S.J=passK bs ch S.M S.J U nU):=by show _=_;unfold passG;rw [<- hU,<- hnU]
 have HUF:=Lib.hid hUf;have HUL:=Lib.hid hUl;have HUN:=Lib.hid hUn1;have HNU:=Lib.hid hnU
 obtain ⟨R,hR⟩:∃ R,R=passG bs ch un S.M S.J:=⟨_,rfl⟩
 rw [<- hR] at HR ⊢
 clear hn hrd hU hUf hUl hUn1 hnU hR
 go_enter Tryz.func135,Tryz.ntmps135
 go_wp2_with fail
 refine KU.out.mono ?_;rintro e w1 ⟨⟨B,cB,rfl,hrU⟩,hb1⟩
 have HRU:=Lib.hid hrU
 have HB1:=Lib.hid hb1
 have HG1:=Lib.hid (hG.out.below hb1)
 have H0:Hid (Pa w1 w1 b g lst vM vQ (.slice C n cC) S (passK bs ch S.M S.J U 0) (.slice none 0 0)):=by
  refine ⟨C,cC,?_,OwnK.nil _ _ _ _⟩
  rw [<- HNJ.out];exact Wn.refl HG1.out
 clear hrU hb1 KU c4
 go_wp2_with fail
 go_loopw [3,15] (fun s3 s15 wr=>∃ (k:Nat),k<=nU/\s15 = .int .i64 k/\Hid (Pa w1 wr b g lst vM vQ (.slice C n cC) S (passK bs ch S.M S.J U k) s3)) (fun s3 s15 wr=>nU - (intOf s15).toNat)
 case atStart=>exact ⟨0,Nat.zero_le _,rfl,H0⟩
 case round=>
  clear H0
  obtain ⟨k,hk,rfl,H⟩:=hrel
  by_cases hlt:k<nU
  ·have hkl:k<U.length:=by rw [<- HNU.out];exact hlt
   obtain ⟨u,hu⟩:∃ u,u=U[k]:=⟨_,rfl⟩
   obtain ⟨X,hX⟩:∃ X,X=passK bs ch S.M S.J U k:=⟨_,rfl⟩
   have hsu:=passK_succ (bs:=bs) (ch:=ch) (M:=S.M) (J:=S.J) hkl
   have hall:=HALL.out k (Nat.le_of_lt hkl)
   rw [<- hX,<- hu] at hsu
   rw [<- hX] at H hall
   have hum:u ∈ U:=by rw [hu];exact List.getElem_mem hkl
   have hXl:X.1.length=S.J.length:=by have:=congrArg List.length hall.1;rw [List.length_map,List.length_map] at this;exact this
   obtain ⟨C1,c1,hW,hA⟩:=H.out
   have hWn:=hW
   rw [<- HNJ.out] at hW
   have hnp:∀ q,w.heap.size<=q->q<w1.heap.size -> ¬ blkG g vM vQ (.slice C n cC) S q:=fun q h1 h2 h3=>by have:=(hG.out.blk h3).2;omega
   obtain ⟨gB,oB,Au,cu,rfl,hlB,hgB,hcB1,hru1⟩:=HRU.out k hkl
   rw [<- hu] at hru1
   have hru:RdNl w.heap.size wr Au u:=hru1.kept hW.gr hnp
   have hcB:wr.cell? ⟨gB,oB+k,none⟩=some (.slice Au u.length cu):=by rw [hW.gr.cell hgB (hnp gB hlB hgB),hcB1,hu]
   obtain ⟨nu,hnu⟩:∃ nu,nu=u.length:=⟨_,rfl⟩
   rw [<- hnu] at hcB
   have HW:=Lib.hid hW;have HA:=Lib.hid hA
   have HSm:Hid (Sm { S with J:=X.1 }):=hM.out.withJ hall.1
   have HLT:Hid (∀ i ∈ u,i<({ S with J:=X.1 }:Sg).J.length):=fun i hi=>by show i<X.1.length;rw [hXl];exact (HUL.out u hum).2 i hi
   have HBO:Hid (BoK 2305843009213693952 X.1):=hall.2.1.up (by have:=HUN.out;have:=HNU.out;omega)
   have KP:=Lib.hid (place_any bs hB b g lst vM vQ (.slice C1 n c1) { S with J:=X.1 } Au nu cu u wr HW.out.gs HSm (show b<=wr.heap.size from Nat.le_of_lt (Nat.lt_of_le_of_lt HW.out.gs.le HW.out.gs.bk.here)) hnu (show nu<=1000 by rw [hnu];exact HUF.out u hum) hru.rdn HLT HBO)
   have hall1:=HALL.out (k+1) hkl
   have HX2:Hid ((passK bs ch S.M S.J U (k+1)).2.length<=2000000):=by have h1:=hall1.2.2;have h2:=HUN.out;show _<=2000000;omega
   have HL1:Hid ((passK bs ch S.M S.J U (k+1)).1.length=S.J.length):=by have:=congrArg List.length hall1.1;rw [List.length_map,List.length_map] at this;exact this
   have hu0:0<u.length:=(HUL.out u hum).1
   have hnu0:0<nu:=by rw [hnu];exact hu0
   obtain ⟨gu,ou,rfl,hlu,hgu,-⟩:=hru1 0 hu0
   obtain ⟨p0,hp0⟩:∃ p0,p0=u.getD 0 0:=⟨_,rfl⟩
   have hp0':u[0]=p0:=by rw [hp0];simp [List.getD,hu0]
   have HU0:Hid (∀ W:World,GrP (blkG g vM vQ (.slice C n cC) S) w1 W->W.cell? ⟨gu,ou,none⟩=some (.int .i64 (p0:Int))):=fun W hW=>by
    obtain ⟨g',o',e,_,_,hc⟩:=(hru1.kept hW hnp) 0 hu0
    injection e with e
    injection e with e1 e2
    subst e1 e2
    rw [<- hp0'];exact hc
   have HPS:Hid (p0<X.1.length):=by show _<_;rw [hXl,<- hp0'];exact (HUL.out u hum).2 _ (List.getElem_mem hu0)
   have HXL:=Lib.hid hXl
   have HWK:Hid (wrap64 ((k:Int)+1)=((k+1:Nat):Int)):=by have:=HUN.out;have:=HNU.out;show _=_;unfold wrap64;omega
   cases htr:tryK bs S.M X.1 u u.length with
   | some r=>
    have HS1:Hid (passK bs ch S.M S.J U (k+1)=(r.1,X.2 ++ r.2)):=by show _=_;rw [hsu];unfold unitG;rw [htr]
    have kp:Calls Tryz.prog 170 #[.pointer (some ⟨g,0,none⟩),.slice (some ⟨gu,ou,none⟩) nu cu] wr fun e w'=>∃ v vJ',e = .returned (.tuple #[v,.bool true])/\OwnK w' wr.heap.size 64 3 v (cellsA r.2)/\Wn wr w' b g vM vQ (.slice C1 n c1) { S with J:=X.1 } lst vM vQ vJ' { S with J:=r.1 }:=by
     have h:=KP.out
     rw [show tryK bs ({ S with J:=X.1 }:Sg).M ({ S with J:=X.1 }:Sg).J u u.length=some r from htr] at h
     exact h
    clear KP
    have KP:=Lib.hid kp
    clear htr kp hsu hall hall1 hWn hru hru1 hlB hgB hcB1 hum hXl hu0 hp0 hp0' hlu hgu hnp hW hA hX hu hkl H hnu
    go_wp2_with fail
    refine KP.out.mono ?_;rintro e w5 ⟨v,vJ5,rfl,hO5,hW5⟩
    obtain ⟨A5,c5,hv5,hr5,-,-,-⟩:=hO5.sl
    obtain ⟨m5,hm5⟩:∃ m5,m5=(cellsA r.2).length:=⟨_,rfl⟩
    rw [<- hm5] at hv5
    subst hv5
    have HR5:=Lib.hid hr5;have HM5:=Lib.hid hm5
    have HW5:=Lib.hid (HW.out.trans hW5)
    have HA5:=Lib.hid (hW5.rowA HW.out.gs HA.out)
    have HSZ:Hid (w1.heap.size<=w5.heap.size):=HW5.out.gr.size
    have c0:w5.cell? ⟨gu,ou,none⟩=some (.int .i64 (p0:Int)):=HU0.out _ HW5.out.gr
    have HFIT:Hid _:=acts_fit (a:=X.2) (b:=r.2) (by have:=HX2.out;rw [HS1.out] at this;exact this)
    have HL5:Hid (r.1.length=S.J.length):=by have:=HL1.out;rw [HS1.out] at this;exact this
    clear hO5 hW5 hr5 hm5 KP hcB HW HA
    go_wp2_with ((with_reducible refine append15_kn _ rfl (.tmp 45) (.tmp 46) 34 rfl w1.heap.size 64 _ 3 40 Tryz.underlying34 infoA15 rfl (by omega) u3 (cellsA X.2) rfl HA5.out A5 c5 m5 (cellsA r.2) rfl HR5.out (cellsA_k _) (cellsA_one _) HM5.out HFIT.out.1 HFIT.out.2 HSZ.out ?_);intro v7 w7 hO7 hg7;have H7:Hid (Pa w1 w7 b g lst vM vQ (.slice C n cC) S (passK bs ch S.M S.J U (k+1)) v7):=(by rw [HS1.out];exact Pa.put HW5.out HL5.out HA5.out hO7 hg7);clear hO7 hg7)
    have hwk:=HWK.out
    go_round
    case rel=>exact ⟨k+1,hlt,by go_num,H7⟩
    case measure=>rw [hwk];show nU - ((k+1:Nat):Int).toNat<nU - (k:Int).toNat;rw [Int.toNat_natCast,Int.toNat_natCast];exact Nat.sub_lt_sub_left hlt (Nat.lt_succ_self k)
   | none=>
    have kp:Calls Tryz.prog 170 #[.pointer (some ⟨g,0,none⟩),.slice (some ⟨gu,ou,none⟩) nu cu] wr fun e w'=>e = .returned (.tuple #[.slice none 0 0,.bool false])/\Below wr.heap.size wr w':=by
     have h:=KP.out
     rw [show tryK bs ({ S with J:=X.1 }:Sg).M ({ S with J:=X.1 }:Sg).J u u.length=none from htr] at h
     exact h
    clear KP
    have KP:=Lib.hid kp
    obtain ⟨ga,hga⟩:∃ ga,ga=(jl X.1 p0).1.ga:=⟨_,rfl⟩
    have HSn:Hid (passK bs ch S.M S.J U (k+1)=if ga.size=0 then ((preG ch S.M X.1 p0).1,X.2 ++ (preG ch S.M X.1 p0).2) else X):=by show _=_;rw [hsu];unfold unitG;rw [htr,<- hp0,<- hga]
    obtain ⟨r1,rfl⟩:=HW.out.gs.own.J.at0 (by rw [cellsJ_length,List.length_map];exact Nat.lt_of_le_of_lt (Nat.zero_le _) HPS.out)
    have hpn:p0<n:=by have h:=HPS.out;rw [hXl,<- HNJ.out] at h;exact h
    have HGA:Hid (∀ W,OwnK W b 66 13 (.slice (some ⟨r1,0,none⟩) n c1) (cellsJ (jbs X.1))->W.cell? ⟨r1,p0 * 13+8,none⟩=some (.string ga)):=fun W h=>by
     refine h.jobAt (p:=p0) (j:=8) (by rw [List.length_map];exact HPS.out) ?_
     rw [hga,jl_at HPS.out]
     simp only [jbs,List.getElem_map];rfl
    clear htr kp hsu hall hall1 hWn hru hru1 hlB hgB hcB1 hum hXl hu0 hp0 hp0' hlu hgu hnp hW hA hX hu hkl H hnu hga
    go_wp2_with fail
    refine KP.out.mono ?_;rintro e w5 ⟨rfl,hb5⟩
    have HW5:=Lib.hid (HW.out.below hb5)
    have HA5:=Lib.hid (HA.out.below hb5)
    have HSZ:Hid (w1.heap.size<=w5.heap.size):=HW5.out.gr.size
    have c0:w5.cell? ⟨gu,ou,none⟩=some (.int .i64 (p0:Int)):=HU0.out _ HW5.out.gr
    have c4:w5.cell? ⟨g,4,none⟩=some (.slice (some ⟨r1,0,none⟩) n c1):=HW5.out.gs.bk.cellAt 4
    have cga:w5.cell? ⟨r1,p0 * 13+8,none⟩=some (.string ga):=HGA.out _ HW5.out.gs.own.J
    clear hb5 KP hcB HW HA HGA
    by_cases hz:ga.size=0
    ·obtain rfl:=empty_of hz
     have HS1:Hid (passK bs ch S.M S.J U (k+1)=((preG ch S.M X.1 p0).1,X.2 ++ (preG ch S.M X.1 p0).2)):=by have:=HSn.out;rw [if_pos hz] at this;exact this
     have KE:=Lib.hid (preempt_any ch hC b g p0 lst vM vQ (.slice (some ⟨r1,0,none⟩) n c1) { S with J:=X.1 } w5 (Lib.hid HW5.out.gs) HSm HPS.out (show ∀ x ∈ X.1,_ from fun x hx=>⟨Int.le_trans (by decide) (HBO.out x hx).1,Int.le_trans (HBO.out x hx).2 (by decide)⟩))
     clear HSn hz
     go_wp2_with fail
     refine KE.out.mono ?_;rintro e w6 ⟨⟨v,rfl,hO6⟩,hW6⟩
     obtain ⟨l6,hl6⟩:∃ l6,l6=(preG ch S.M X.1 p0).2:=⟨_,rfl⟩
     have hO6':OwnK w6 w5.heap.size 64 3 v (cellsA l6):=by rw [hl6];exact hO6
     obtain ⟨A5,c5,hv5,hr5,-,-,-⟩:=hO6'.sl
     obtain ⟨m5,hm5⟩:∃ m5,m5=(cellsA l6).length:=⟨_,rfl⟩
     rw [<- hm5] at hv5
     subst hv5
     have HR5:=Lib.hid hr5;have HM5:=Lib.hid hm5
     have HW6:=Lib.hid (HW5.out.trans hW6)
     have HA6:=Lib.hid (hW6.rowA HW5.out.gs HA5.out)
     have HSZ6:Hid (w1.heap.size<=w6.heap.size):=HW6.out.gr.size
     rw [<- hl6] at HS1
     have HFIT:Hid _:=acts_fit (a:=X.2) (b:=l6) (by have:=HX2.out;rw [HS1.out] at this;exact this)
     have HL5:Hid ((preG ch S.M X.1 p0).1.length=S.J.length):=by have:=HL1.out;rw [HS1.out] at this;exact this
     clear hO6 hO6' hW6 hr5 hm5 hl6 KE c4 cga c0 HW5 HA5 HSZ
     go_wp2_with ((with_reducible refine append15_kn _ rfl (.tmp 45) (.tmp 46) 34 rfl w1.heap.size 64 _ 3 40 Tryz.underlying34 infoA15 rfl (by omega) u3 (cellsA X.2) rfl HA6.out A5 c5 m5 (cellsA l6) rfl HR5.out (cellsA_k _) (cellsA_one _) HM5.out HFIT.out.1 HFIT.out.2 HSZ6.out ?_);intro v7 w7 hO7 hg7;have H7:Hid (Pa w1 w7 b g lst vM vQ (.slice C n cC) S (passK bs ch S.M S.J U (k+1)) v7):=(by rw [HS1.out];exact Pa.put HW6.out HL5.out HA6.out hO7 hg7);clear hO7 hg7)
     have hwk:=HWK.out
     go_round
     case rel=>exact ⟨k+1,hlt,by go_num,H7⟩
     case measure=>rw [hwk];show nU - ((k+1:Nat):Int).toNat<nU - (k:Int).toNat;rw [Int.toNat_natCast,Int.toNat_natCast];exact Nat.sub_lt_sub_left hlt (Nat.lt_succ_self k)
    ·have HS1:Hid (passK bs ch S.M S.J U (k+1)=(X.1,X.2 ++ [])):=by have:=HSn.out;rw [if_neg hz] at this;rw [List.append_nil];exact this
     have hz2:=full_of hz
     obtain ⟨hz3,hz4⟩:=hz2
     have HFIT:Hid _:=acts_fit (a:=X.2) (b:=[]) (by have:=HX2.out;rw [HS1.out] at this;exact this)
     have HL5:Hid (X.1.length=S.J.length):=HXL.out
     have HRN:Hid (RdK w5 3 none (cellsA [])):=RdK.nil _ _ _
     clear HSn hz
     go_wp2_with ((with_reducible refine append15_kn _ rfl (.tmp 45) (.tmp 46) 34 rfl w1.heap.size 64 _ 3 40 Tryz.underlying34 infoA15 rfl (by omega) u3 (cellsA X.2) rfl HA5.out none 0 0 (cellsA []) rfl HRN.out (cellsA_k _) (cellsA_one _) rfl HFIT.out.1 HFIT.out.2 HSZ.out ?_);intro v7 w7 hO7 hg7;have H7:Hid (Pa w1 w7 b g lst vM vQ (.slice C n cC) S (passK bs ch S.M S.J U (k+1)) v7):=(by rw [HS1.out];exact Pa.put HW5.out HL5.out HA5.out hO7 hg7);clear hO7 hg7)
     have hwk:=HWK.out
     go_round
     case rel=>exact ⟨k+1,hlt,by go_num,H7⟩
     case measure=>rw [hwk];show nU - ((k+1:Nat):Int).toNat<nU - (k:Int).toNat;rw [Int.toNat_natCast,Int.toNat_natCast];exact Nat.sub_lt_sub_left hlt (Nat.lt_succ_self k)
  ·have hkn:k=nU:=by omega
   have HF:Hid (OwnK wr w.heap.size 64 3 u3 (cellsA R.2) /\ ∃ vJ',Wn w wr b g vM vQ (.slice C n cC) S lst vM vQ vJ' { S with J:=R.1 }):=by
    obtain ⟨C1,c1,hW,hA⟩:=H.out
    rw [HR.out,<- hkn]
    exact ⟨hA.base HB1.out.size,_,(Wn.first hG.out HB1.out).trans hW⟩
   clear H hk hlt
   go_wp2_with fail
   go_ret
   exact ⟨⟨u3,rfl,HF.out.1⟩,HF.out.2⟩
end
section
open Go.RowKit
def tickG (bs:Bst)(ch:Chs15)(un:Uns)(S:Sg):Sg × An:=
 if 1073741824<=S.ck then (S,6,[]) else
  ({ (expG { S with ck:=S.ck+1 }).1 with J:=(passG bs ch un (expG { S with ck:=S.ck+1 }).1.M (expG { S with ck:=S.ck+1 }).1.J).1 },0,(expG { S with ck:=S.ck+1 }).2 ++ (passG bs ch un (expG { S with ck:=S.ck+1 }).1.M (expG { S with ck:=S.ck+1 }).1.J).2)
theorem relJ_core (s:ByteArray)(J:List Jl):(relJ s J).map coreB=J.map coreB:=by
 unfold relJ
 rw [List.map_map]
 refine List.map_congr_left fun x _=>?_
 show coreB (relX s x)=coreB x
 unfold relX
 split <;> rfl
theorem expK_same (S:Sg):∀ k,(expK S k).1.J.map coreB=S.J.map coreB/\(expK S k).1.M.map Prod.snd=S.M.map Prod.snd/\(expK S k).1.Q=S.Q/\(expK S k).1.ck=S.ck/\(expK S k).1.nx=S.nx
 | 0=>⟨rfl,rfl,rfl,rfl,rfl⟩
 | k+1=>by
  rw [expK_succ]
  obtain ⟨h1,h2,h3,h4,h5⟩:=expK_same S k
  unfold expS
  split
  ·exact ⟨(relJ_core _ _).trans h1,(map_set_same fun hp=>by rw [ml_at hp];rfl).trans h2,h3,h4,h5⟩
  ·exact ⟨h1,h2,h3,h4,h5⟩
theorem expG_sm {S:Sg}(h:Sm S):Sm (expG S).1:=by
 obtain ⟨h1,h2,h3,h4,h5⟩:=expK_same S S.M.length
 obtain ⟨l1,l2,_⟩:=expK_len (S:=S) S.M.length
 refine ⟨by unfold expG;rw [l1];exact h.M,by unfold expG;rw [h3];exact h.Q,by unfold expG;rw [l2];exact h.J,fun x hx=>?_,fun x hx=>?_,by unfold expG;rw [h5];exact h.nx,by unfold expG;rw [h4];exact h.ck⟩
 ·have hm:x.2 ∈ S.M.map Prod.snd:=by rw [<- h2];exact List.mem_map_of_mem hx
  obtain ⟨y,hy,e⟩:=List.mem_map.1 hm
  rw [<- e];exact h.lM y hy
 ·obtain ⟨y,hy,e⟩:=core_mem (coreB_core h1) hx
  rw [<- (core_tk e).2];exact h.lJ y hy
theorem expG_bo {S:Sg}{m:Int}(h:BoK m S.J):BoK m (expG S).1.J:=fun x hx=>by
 obtain ⟨h1,_⟩:=expK_same S S.M.length
 have hm:coreB x ∈ S.J.map coreB:=by rw [<- h1];exact List.mem_map_of_mem hx
 obtain ⟨y,hy,e⟩:=List.mem_map.1 hm
 have e2:y.1.bo=x.1.bo:=by have h:=congrArg (fun x:Jl=>x.1.bo) e;exact h
 rw [<- e2];exact h y hy
section
variable {w:World}{b g:Nat}{lst:Int}{vM vQ vJ:Value}{S:Sg}
theorem Gs.setC (h:Gs w b g lst vM vQ vJ S) (ck:Int):Wn w (w.setCell ⟨g,0,none⟩ (.int .i64 ck)) b g vM vQ vJ S lst vM vQ vJ { S with ck:=ck }:=by
 have hg:GrP (fun k=>k=g) w (w.setCell ⟨g,0,none⟩ (.int .i64 ck)):=(GrP.refl (fun k=>k=g) w).set (a:=⟨g,0,none⟩) rfl _
 have ho:=h.own.grp hg fun k hk e=>h.ne k hk e
 exact ⟨⟨h.bk.put 0 _,h.nx,⟨ho.M,ho.Q,ho.J,ho.lM,ho.lJ,ho.zM,ho.zQ,ho.zJ⟩,h.le,h.ne⟩,hg.wide fun k _ e=>.inl e,fun k hk=>.inl hk⟩
end
theorem passG_few {bs:Bst}{ch:Chs15}{un:Uns}(hC:ChoK ch)(hU:UniK un){M:List Ml}{J:List Jl}(hJ:J.length<=1000)(hb:BoK 1152921504606846976 J):(passG bs ch un M J).2.length<=1001000:=by
 have h:=(passK_all (bs:=bs) hC (M:=M) (U:=un J) (fun u hu=>Nat.le_trans (hU.few J u hu) hJ) hJ hb (un J).length (Nat.le_refl _)).2.2
 have h2:=hU.len J
 unfold passG
 omega
theorem expG_few {S:Sg}(hM:S.M.length<=1000)(hJ:S.J.length<=1000):(expG S).2.length<=1000000:=by
 have h:=(expK_len (S:=S) S.M.length).2.2
 have h2:S.M.length * S.J.length<=1000 * 1000:=Nat.mul_le_mul hM hJ
 unfold expG
 omega
theorem acts_fit3 {a b:List Ac}(h1:a.length<=1000000)(h2:b.length<=1001000):(cellsA a).length+(cellsA b).length<=maxLen/\((cellsA a).length+(cellsA b).length) * 40<=140737488355328:=by
 rw [cellsA_length,cellsA_length]
 exact ⟨by simp only [maxLen];omega,by omega⟩


theorem tick_any (bs:Bst)(ch:Chs15)(un:Uns)(hB:Hid (BestK bs))(hC:Hid (ChoK ch))(hUn:Hid (UniK un)) (b g:Nat) (lst:Int)(vM vQ vJ:Value)(S:Sg)(w:World)(hG:Hid (Gs w b g lst vM vQ vJ S))(hM:Hid (Sm S))(hbo:Hid (BoK 1152921504606846976 S.J)) :
  Calls Tryz.prog 91 #[.pointer (some ⟨g,0,none⟩)] w fun e w'=>(∃ A n c,e = .returned (.tuple #[.slice A n c,.int .i64 (tickG bs ch un S).2.1])/\RetL w.heap.size w' A n c (tickG bs ch un S).2.2)/\Went w w' b g vM vQ vJ S (tickG bs ch un S).1:=by
 obtain ⟨ck,hck⟩:∃ ck,ck=S.ck:=⟨_,rfl⟩
 have c0:w.cell? ⟨g,0,none⟩=some (.int .i64 ck):=by rw [hck];exact hG.out.bk.cellAt 0
 have f0:w.frozen? ⟨g,0,none⟩=false:=hG.out.bk.free 0
 by_cases hov:1073741824<=ck
 ·have hd:tickG bs ch un S=(S,6,[]):=by unfold tickG;rw [if_pos (by rw [<- hck];exact hov)]
  rw [hd]
  clear hd hck
  go_enter Tryz.func91,Tryz.ntmps91
  go_wp2_with fail
  exact bodyPost_ret (v:=.tuple #[.slice none 0 0,.int .i64 6]) (by simp [results,Tryz.results91,go_sem]) rfl ⟨⟨none,0,0,rfl,RetL.nil _ _⟩,Went.same hG.out (Below.refl _ _)⟩
 ·obtain ⟨S1,hS1⟩:∃ S1:Sg,S1 = { S with ck:=ck+1 }:=⟨_,rfl⟩
  obtain ⟨T,hT⟩:∃ T,T=expG S1:=⟨_,rfl⟩
  obtain ⟨P,hP⟩:∃ P,P=passG bs ch un T.1.M T.1.J:=⟨_,rfl⟩
  have hd:tickG bs ch un S=({ T.1 with J:=P.1 },0,T.2 ++ P.2):=by unfold tickG;rw [if_neg (by rw [<- hck];exact hov),<- hck,<- hS1,<- hT,<- hP]
  rw [hd]
  have hck2:0<=ck:=by rw [hck];exact hM.out.ck.1
  have hSm1:Sm S1:=by rw [hS1];exact ⟨hM.out.M,hM.out.Q,hM.out.J,hM.out.lM,hM.out.lJ,hM.out.nx,⟨show 0<=ck+1 by omega,show ck+1<=4611686018427387904 by omega⟩⟩
  have HW0:Hid (Wn w (w.setCell ⟨g,0,none⟩ (.int .i64 (ck+1))) b g vM vQ vJ S lst vM vQ vJ S1):=by rw [hS1];exact hG.out.setC (ck+1)
  have hbo1:BoK 1152921504606846976 S1.J:=by rw [hS1];exact hbo.out
  have HSmT:Hid (Sm T.1):=by rw [hT];exact expG_sm hSm1
  have HBoT:Hid (BoK 1152921504606846976 T.1.J):=by rw [hT];exact expG_bo hbo1
  have HF1:Hid (T.2.length<=1000000):=by rw [hT];exact expG_few hSm1.M hSm1.J
  have HF2:Hid (P.2.length<=1001000):=by rw [hP];exact passG_few hC.out hUn.out HSmT.out.J HBoT.out
  have KE:=Lib.hid (expire_any b g lst vM vQ vJ S1 _ (Lib.hid HW0.out.gs) hSm1.M hSm1.J)
  rw [<- hT] at KE
  have KP:=Lib.hid (fun (vJ:Value)(W:World)(h:Gs W b g lst vM vQ vJ T.1)=>pass_any bs ch un hB hC hUn b g lst vM vQ vJ T.1 W h HSmT HBoT)
  rw [<- hP] at KP
  have hw1:IntKind.i64.wrap (ck+1)=ck+1:=by rw [IntKind.wrap_i64];omega
  clear hd hck hS1 hT hP hSm1 hbo1 hck2
  go_enter Tryz.func91,Tryz.ntmps91
  go_wp2_with fail
  refine KE.out.mono ?_;rintro e w1 ⟨⟨v1,rfl,hO1⟩,hW1⟩
  have HO1:=Lib.hid hO1;have HW1:=Lib.hid hW1
  clear hO1 hW1 KE c0 f0
  go_wp2_with fail
  refine (KP.out vJ _ HW1.out.gs).mono ?_;rintro e w2 ⟨⟨v2,rfl,hO2⟩,vJ2,hW2⟩
  obtain ⟨A2,c2,hv2,hr2,-,-,-⟩:=hO2.sl
  obtain ⟨m2,hm2⟩:∃ m2,m2=(cellsA P.2).length:=⟨_,rfl⟩
  rw [<- hm2] at hv2
  subst hv2
  have HR2:=Lib.hid hr2;have HM2:=Lib.hid hm2
  have HA2:Hid (OwnK w2 w.heap.size 64 3 v1 (cellsA T.2)):=(hW2.rowA HW1.out.gs HO1.out).base (by simp)
  have HW2:Hid (Wn w w2 b g vM vQ vJ S lst vM vQ vJ2 { T.1 with J:=P.1 }):=(HW0.out.trans HW1.out).trans hW2
  have HSZ:Hid (w.heap.size<=w2.heap.size):=((HW0.out.trans HW1.out).trans hW2).gr.size
  have HFIT:=Lib.hid (acts_fit3 HF1.out HF2.out)
  clear hO2 hW2 hr2 hm2 KP HO1 HW1
  go_wp2_with ((with_reducible refine append15_kn _ rfl (.tmp 19) (.tmp 21) 34 rfl w.heap.size 64 _ 3 40 Tryz.underlying34 infoA15 rfl (by omega) v1 (cellsA T.2) rfl HA2.out A2 c2 m2 (cellsA P.2) rfl HR2.out (cellsA_k _) (cellsA_one _) HM2.out HFIT.out.1 HFIT.out.2 HSZ.out ?_);intro v7 w7 hO7 hg7;have HW7:=Lib.hid (HW2.out.acts HA2.out hg7 (Nat.le_refl _));have HO7:Hid (OwnK w7 w.heap.size 64 3 v7 (cellsA (T.2 ++ P.2))):=(by rw [cellsA_append];exact hO7);clear hO7 hg7)
  obtain ⟨A7,c7,hv7,-,-,-⟩:=HO7.out.acts
  subst hv7
  exact bodyPost_ret (v:=.tuple #[.slice A7 (T.2 ++ P.2).length c7,.int .i64 0]) (by simp [results,Tryz.results91,go_sem]) rfl ⟨⟨A7,_,c7,rfl,RetL.own HO7.out⟩,HW7.out.went rfl⟩
end
section
open Go.RowKit


theorem perform_any9 (bs:Bst)(ch:Chs15)(un:Uns)(hB:BestK bs)(hC:ChoK ch)(hUn:UniK un) (b g:Nat)(vM vQ vJ:Value)(S:Sg)(x:Oz)(hk:x.v.k=9)(hM:Sm S)(hbo:BoK 1152921504606846976 S.J):Performs b g vM vQ vJ S x (tickG bs ch un S):=by
 intro w hG hx
 have k1:=fun (W:World)(h:∃ lst,Gs W b g lst vM vQ vJ S)=>h.elim fun lst h=>tick_any bs ch un hB hC hUn b g lst vM vQ vJ S W h hM hbo
 obtain ⟨R,hR⟩:∃ R,R=tickG bs ch un S:=⟨_,rfl⟩
 rw [<- hR] at k1 ⊢
 have K1:=Lib.hid k1;have HG:=Lib.hid hG
 clear k1 hG hx hM hbo hR hB hC hUn
 obtain ⟨⟨k,nn,a1,b1,c1,l1,qn,a2,b2,c2,tn,tq,tp,a3,b3,c3,l3,ta,tg,ts,s⟩,A1,m1,p1,A3,m3,p3⟩:=x
 simp only at hk
 subst hk
 obtain ⟨R1,err,acts⟩:=R
 obtain ⟨oc,hoc⟩:∃ oc:Array Value,oc = #[.int .i64 9,.string nn,.int .i64 a1,.int .i64 b1,.int .i64 c1,.slice A1 m1 p1,.string qn,.int .i64 a2,.int .i64 b2,.int .i64 c2,.string tn,.string tq,.int .i64 tp,.int .i64 a3,.int .i64 b3,.int .i64 c3,.slice A3 m3 p3,.string ta,.string tg,.int .i64 ts,.string s]:=⟨_,rfl⟩
 have hB0:Below w.heap.size w (w.alloc (.cells #[.int .i64 9,.string nn,.int .i64 a1,.int .i64 b1,.int .i64 c1,.slice A1 m1 p1,.string qn,.int .i64 a2,.int .i64 b2,.int .i64 c2,.string tn,.string tq,.int .i64 tp,.int .i64 a3,.int .i64 b3,.int .i64 c3,.slice A3 m3 p3,.string ta,.string tg,.int .i64 ts,.string s] 49)):=(Below.refl _ _).alloc (Nat.le_refl _) _
 clear hoc
 go_enter Tryz.func44,Tryz.ntmps44
 go_wp2_with fail
 refine (K1.out _ (HG.out.elim fun lst h=>⟨lst,h.below hB0⟩)).mono ?_;rintro e w2 ⟨⟨A,n,c,rfl,hRL⟩,hW⟩
 have HW:=Lib.hid hW;have HR:=Lib.hid hRL;clear hW hRL
 go_wp2_with fail
 exact bodyPost_ret (v:=.tuple #[.slice A n c,.int .i64 err]) (by simp [results,Tryz.results44,go_sem]) rfl ⟨⟨A,n,c,rfl,HR.out.base hB0.size⟩,Went.before hB0 HW.out⟩
section
variable (bs:Bst)(ch:Chs15)(un:Uns)
def opG (S:Sg)(v:Ov):Sg × An:=
 if v.k=1 then addN S v.nn v.a1 v.b1 v.c1 v.l1 else if v.k=2 then dropN' S v.s else if v.k=3 then addQ S (v.qn,v.a2,v.b2,v.c2) else if v.k=4 then dropQ S v.s
 else if v.k=5 then subJ S v.tn v.tq v.tp v.a3 v.b3 v.c3 v.ta v.tg v.ts v.l3 else if v.k=6 then canJ S v.s else if v.k=7 then finJ S v.s else if v.k=8 then beatN S v.s else tickG bs ch un S
def stepG (S:Sg)(v:Ov):Sg × An:=if opB v then opG bs ch un S v else (S,1,[])
end
structure Inv (S:Sg):Prop where
 sm:Sm S
 asc:AscS S
 bo:BoK 1152921504606846976 S.J
theorem performs_any (bs:Bst)(ch:Chs15)(un:Uns)(hB:BestK bs)(hC:ChoK ch)(hUn:UniK un) (b g:Nat)(vM vQ vJ:Value)(S:Sg)(x:Oz)(hI:Inv S)(hb:opB x.v=true)(h1:x.v.l1.length<=1000)(h3:x.v.l3.length<=1000):Performs b g vM vQ vJ S x (opG bs ch un S x.v):=by
 have hk:1<=x.v.k/\x.v.k<=9:=by
  by_cases h:1<=x.v.k/\x.v.k<=9
  ·exact h
  ·rw [opB_no h] at hb;cases hb
 have hc:x.v.k=1 ∨ x.v.k=2 ∨ x.v.k=3 ∨ x.v.k=4 ∨ x.v.k=5 ∨ x.v.k=6 ∨ x.v.k=7 ∨ x.v.k=8 ∨ x.v.k=9:=by omega
 unfold opG
 rcases hc with h | h | h | h | h | h | h | h | h
 ·rw [if_pos h];exact perform_any1 b g vM vQ vJ S x h hI.sm hI.asc h1
 ·rw [if_neg (by omega),if_pos h];exact perform_any2 b g vM vQ vJ S x h hI.sm hI.asc h3
 ·rw [if_neg (by omega),if_neg (by omega),if_pos h];exact perform_any3 b g vM vQ vJ S x h hI.sm hI.asc
 ·rw [if_neg (by omega),if_neg (by omega),if_neg (by omega),if_pos h];exact perform_any4 b g vM vQ vJ S x h hI.sm hI.asc h3
 ·rw [if_neg (by omega),if_neg (by omega),if_neg (by omega),if_neg (by omega),if_pos h];exact perform_any5 b g vM vQ vJ S x h hI.sm hI.asc h3
 ·rw [if_neg (by omega),if_neg (by omega),if_neg (by omega),if_neg (by omega),if_neg (by omega),if_pos h];exact perform_any6 b g vM vQ vJ S x h hI.sm hI.asc h3
 ·rw [if_neg (by omega),if_neg (by omega),if_neg (by omega),if_neg (by omega),if_neg (by omega),if_neg (by omega),if_pos h];exact perform_any7 b g vM vQ vJ S x h hI.sm hI.asc h3
 ·rw [if_neg (by omega),if_neg (by omega),if_neg (by omega),if_neg (by omega),if_neg (by omega),if_neg (by omega),if_neg (by omega),if_pos h];exact perform_any8 b g vM vQ vJ S x h hI.sm hI.asc h3
 ·rw [if_neg (by omega),if_neg (by omega),if_neg (by omega),if_neg (by omega),if_neg (by omega),if_neg (by omega),if_neg (by omega),if_neg (by omega)];exact perform_any9 bs ch un hB hC hUn b g vM vQ vJ S x h hI.sm hI.bo
theorem doG_any (bs:Bst)(ch:Chs15)(un:Uns)(hB:BestK bs)(hC:ChoK ch)(hUn:UniK un) (b g:Nat) (lst:Int)(vM vQ vJ:Value)(S:Sg)(x:Oz)(w:World)(hG:Gs w b g lst vM vQ vJ S)(hI:Inv S)(hx:OzOk w x)(h1:x.v.l1.length<=1000)(h3:x.v.l3.length<=1000) :
  Calls Tryz.prog 18 #[.pointer (some ⟨g,0,none⟩),.agg x.arr] w fun e w'=>
   (∃ A n c,e = .returned (.agg #[.int .i64 (stepG bs ch un S x.v).2.1,.slice A n c])/\RetL w.heap.size w' A n c (stepG bs ch un S x.v).2.2)/\Went w w' b g vM vQ vJ S (stepG bs ch un S x.v).1:=by
 have h:=do_any b g vM vQ vJ S x (opG bs ch un S x.v) w ⟨lst,hG⟩ hx fun hb=>performs_any bs ch un hB hC hUn b g vM vQ vJ S x hI hb h1 h3
 unfold stepG
 cases hb:opB x.v with
 | true=>rw [hb] at h;exact h
 | false=>rw [hb] at h;exact h
end
section
open Go.RowKit
def cellsS (l:List ByteArray):List (List Value):=l.map fun s=>[.string s]
theorem cellsS_length (l:List ByteArray):(cellsS l).length=l.length:=by simp [cellsS]
theorem cellsS_append (l m:List ByteArray):cellsS (l ++ m)=cellsS l ++ cellsS m:=by simp [cellsS]
theorem cellsS_k (l:List ByteArray):∀ x ∈ cellsS l,x.length=1:=by
 intro x hx
 simp only [cellsS,List.mem_map] at hx
 obtain ⟨j,_,rfl⟩:=hx
 rfl
theorem cellsS_one (l:List ByteArray):∀ y ∈ cellsS l,∀ u ∈ y,u.oneCell' = true:=by
 intro x hx u hu
 simp only [cellsS,List.mem_map] at hx
 obtain ⟨j,_,rfl⟩:=hx
 simp at hu;subst hu;rfl
def RdS (w:World)(A:Option Addr)(l:List ByteArray):Prop:=RdK w 1 A (cellsS l)
theorem RdS.later {w w':World}{A:Option Addr}{l:List ByteArray}(h:RdS w A l)(hb:Below w.heap.size w w'):RdS w' A l:=RdK.later h hb
theorem RdS.at {w:World}{A:Option Addr}{l:List ByteArray}(h:RdS w A l){i:Nat}(hi:i<l.length):∃ g o,A=some ⟨g,o,none⟩/\g<w.heap.size/\w.cell? ⟨g,o+i,none⟩=some (.string l[i]):=by
 obtain ⟨g,o,ha,hr⟩:=RdK.at h (i:=i) (by rw [cellsS_length];exact hi)
 have hc:=hr 0 (.string l[i]) (by simp [cellsS])
 rw [Nat.mul_one,Nat.add_zero] at hc
 exact ⟨g,o,ha,World.block_lt_of_cell? w _ hc,hc⟩
theorem OwnK.rds {w:World}{base:Nat}{e:TypeId}{v:Value}{l:List ByteArray}(h:OwnK w base e 1 v (cellsS l)):∃ A c,v = .slice A l.length c/\RdS w A l/\l.length<=c/\c<=9223372036854775807:=by
 obtain ⟨A,c,hv,hr,h1,h2,_⟩:=h.sl
 rw [cellsS_length] at hv h1
 refine ⟨A,c,hv,hr,h1,?_⟩
 unfold maxLen at h2;omega
def cellsI (l:List Int):List (List Value):=l.map fun s=>[.int .i64 s]
theorem cellsI_length (l:List Int):(cellsI l).length=l.length:=by simp [cellsI]
theorem cellsI_append (l m:List Int):cellsI (l ++ m)=cellsI l ++ cellsI m:=by simp [cellsI]
theorem cellsI_k (l:List Int):∀ x ∈ cellsI l,x.length=1:=by
 intro x hx
 simp only [cellsI,List.mem_map] at hx
 obtain ⟨j,_,rfl⟩:=hx
 rfl
theorem cellsI_one (l:List Int):∀ y ∈ cellsI l,∀ u ∈ y,u.oneCell' = true:=by
 intro x hx u hu
 simp only [cellsI,List.mem_map] at hx
 obtain ⟨j,_,rfl⟩:=hx
 simp at hu;subst hu;rfl
def RdI (w:World)(A:Option Addr)(l:List Int):Prop:=RdK w 1 A (cellsI l)
theorem RdI.later {w w':World}{A:Option Addr}{l:List Int}(h:RdI w A l)(hb:Below w.heap.size w w'):RdI w' A l:=RdK.later h hb
theorem RdI.at {w:World}{A:Option Addr}{l:List Int}(h:RdI w A l){i:Nat}(hi:i<l.length):∃ g o,A=some ⟨g,o,none⟩/\g<w.heap.size/\w.cell? ⟨g,o+i,none⟩=some (.int .i64 l[i]):=by
 obtain ⟨g,o,ha,hr⟩:=RdK.at h (i:=i) (by rw [cellsI_length];exact hi)
 have hc:=hr 0 (.int .i64 l[i]) (by simp [cellsI])
 rw [Nat.mul_one,Nat.add_zero] at hc
 exact ⟨g,o,ha,World.block_lt_of_cell? w _ hc,hc⟩
theorem OwnK.rdi {w:World}{base:Nat}{e:TypeId}{v:Value}{l:List Int}(h:OwnK w base e 1 v (cellsI l)):∃ A c,v = .slice A l.length c/\RdI w A l/\l.length<=c/\c<=9223372036854775807:=by
 obtain ⟨A,c,hv,hr,h1,h2,_⟩:=h.sl
 rw [cellsI_length] at hv h1
 refine ⟨A,c,hv,hr,h1,?_⟩
 unfold maxLen at h2;omega
theorem infoS:(Tryz.prog.info? 9).map (fun i=>(i.zero,i.size,i.bytes))=some (some (.string ⟨#[]⟩),1,16):=by kernel_rfl
theorem infoI:(Tryz.prog.info? 3).map (fun i=>(i.zero,i.size,i.bytes))=some (some (.int .i64 0),1,8):=by kernel_rfl
def RetS (b:Nat)(w:World)(e:Ending)(l:List ByteArray):Prop:=∃ v,e = .returned v/\OwnK w b 9 1 v (cellsS l)
section
variable {o:Oper}{a:Act}{w:World}{K:Act->World->Prop}{Q:Exit->Act->World->Prop}
end
end
section
open Go.RowKit
section
variable {P:Program}
end
def insB (p:Nat->Bool) (x:Nat)(l:List Nat):List Nat:=(l.reverse.dropWhile p).reverse ++ x :: (l.reverse.takeWhile p).reverse
theorem insB_len (p:Nat->Bool) (x:Nat)(l:List Nat):(insB p x l).length=l.length+1:=by
 have h:(l.reverse.takeWhile p).length+(l.reverse.dropWhile p).length=l.length:=by rw [<- List.length_append,List.takeWhile_append_dropWhile,List.length_reverse]
 unfold insB
 rw [List.length_append,List.length_cons,List.length_reverse,List.length_reverse];omega
theorem insB_mem {p:Nat->Bool}{x y:Nat}{l:List Nat}(h:y ∈ insB p x l):y=x ∨ y ∈ l:=by
 unfold insB at h
 rw [List.mem_append,List.mem_cons,List.mem_reverse,List.mem_reverse] at h
 rcases h with h | h | h
 ·exact .inr (List.mem_reverse.1 ((List.dropWhile_sublist _).subset h))
 ·exact .inl h
 ·exact .inr (List.mem_reverse.1 ((List.takeWhile_sublist _).subset h))
def wk (c:Nat->Bool)(ah:Nat->Nat->Bool) (k:Nat):List Nat:=(List.range k).foldl (fun out i=>if c i then insB (ah i) i out else out) []
section
variable {c:Nat->Bool}{ah:Nat->Nat->Bool}{k:Nat}
theorem wk_zero:wk c ah 0=[]:=rfl
theorem wk_succ:wk c ah (k+1)=if c k then insB (ah k) k (wk c ah k) else wk c ah k:=by
 unfold wk;rw [List.range_succ,List.foldl_append];rfl
theorem wk_len:∀ k,(wk c ah k).length<=k
 | 0=>by simp [wk_zero]
 | k+1=>by
  have:=wk_len k
  rw [wk_succ]
  split
  ·rw [insB_len];omega
  ·omega
theorem wk_lt:∀ k,∀ y ∈ wk c ah k,y<k
 | 0=>by simp [wk_zero]
 | k+1=>fun y hy=>by
  rw [wk_succ] at hy
  split at hy
  ·rcases insB_mem hy with rfl | h
   ·omega
   ·have:=wk_lt k y h;omega
  ·have:=wk_lt k y hy;omega
theorem wk_ok:∀ k,∀ y ∈ wk c ah k,c y=true
 | 0=>by simp [wk_zero]
 | k+1=>fun y hy=>by
  rw [wk_succ] at hy
  split at hy
  ·rename_i h
   rcases insB_mem hy with rfl | h'
   ·exact h
   ·exact wk_ok k y h'
  ·exact wk_ok k y hy
end
instance:Inhabited Jb:=⟨⟨⟨#[]⟩,⟨#[]⟩,0,0,0,0,none,0,0,⟨#[]⟩,⟨#[]⟩,0,0,⟨#[]⟩,0⟩⟩
abbrev jat (l:List Jb) (i:Nat):Jb:=l.getD i default
theorem jat_at {l:List Jb}{i:Nat}(h:i<l.length):jat l i=l[i]:=by simp [jat,List.getD,List.getElem?_eq_getElem h]
abbrev ints (l:List Nat):List Int:=l.map fun (n:Nat)=>(n:Int)
end
section
open Go.RowKit
def goB (a b:Jb):Bool:=decide (a.pr<b.pr) || (decide (a.pr=b.pr) && decide (b.sq<a.sq))
def tryB (a b:Jb):Bool:=decide (b.pr<a.pr) || (decide (a.pr=b.pr) && decide (a.sq<b.sq))
end
section
open Go.RowKit
def waitC (l:List Jb) (i:Nat):Bool:=decide ((jat l i).nd.size=0)
def srt14 (l:List Jb) (k:Nat):List Nat:=wk (waitC l) (fun i y=>tryB (jat l i) (jat l y)) k
def RetI14 (b:Nat)(w:World)(e:Ending)(l:List Int):Prop:=∃ v,e = .returned v/\OwnK w b 3 1 v (cellsI l)
end
section
open Go.RowKit
theorem JAt.ga {w:World}{g o:Nat}{j:Jb}(h:JAt w g o j):w.cell? ⟨g,o+8,none⟩=some (.string j.ga):=h.rg 8 _ rfl
def manyK (l:List Jb)(s:ByteArray) (k:Nat):Nat:=((l.take k).filter fun j=>sE j.ga s).length
theorem manyK_succ {l:List Jb}{s:ByteArray}{k:Nat}(h:k<l.length):manyK l s (k+1)=manyK l s k+if sE l[k].ga s then 1 else 0:=by
 unfold manyK
 rw [List.take_succ_eq_append_getElem h,List.filter_append,List.length_append]
 cases he:sE l[k].ga s
 ·rw [List.filter_cons_of_neg (by simp [he])];rfl
 ·rw [List.filter_cons_of_pos (p:=fun j:Jb=>sE j.ga s) he];rfl
theorem manyK_le (l:List Jb)(s:ByteArray) (k:Nat):manyK l s k<=k:=by
 unfold manyK
 refine Nat.le_trans (List.length_filter_le _ _) ?_
 rw [List.length_take];omega
def firstK (l:List Jb)(s:ByteArray)(S:List Nat):Bool:=S.all fun y=>!sE (jat l y).ga s
def gangOf (l:List Jb)(s:ByteArray)(S:List Nat):List Nat:=S.filter fun y=>sE (jat l y).ga s
def unitAt (l:List Jb)(S T:List Nat) (p:Nat):List (List Nat):=
 if (jat l p).ga.size=0 then [[p]] else if firstK l (jat l p).ga T && decide ((jat l p).sz<=(manyK l (jat l p).ga l.length:Int)) then [gangOf l (jat l p).ga S] else []
def unitsK (l:List Jb)(S:List Nat) (k:Nat):List (List Nat):=((List.range k).map fun i=>unitAt l S (S.take i) (S.getD i 0)).flatten
theorem unitsK_succ {l:List Jb}{S:List Nat}{k:Nat}(h:k<S.length):unitsK l S (k+1)=unitsK l S k ++ unitAt l S (S.take k) S[k]:=by
 unfold unitsK
 rw [List.range_succ,List.map_append,List.flatten_append]
 simp [List.getD,List.getElem?_eq_getElem h]
theorem unitAt_len (l:List Jb)(S T:List Nat) (p:Nat):(unitAt l S T p).length<=1:=by
 unfold unitAt;split
 ·simp
 ·split <;> simp
theorem unitsK_len (l:List Jb)(S:List Nat):∀ k,(unitsK l S k).length<=k
 | 0=>by simp [unitsK]
 | k+1=>by
  have h:=unitsK_len l S k
  unfold unitsK at h ⊢
  rw [List.range_succ,List.map_append,List.flatten_append,List.length_append]
  have:=unitAt_len l S (S.take k) (S.getD k 0)
  simp only [List.map_cons,List.map_nil,List.flatten_cons,List.flatten_nil,List.append_nil]
  omega
def cellsW (vs:List Value):List (List Value):=vs.map fun v=>[v]
theorem cellsW_length (vs:List Value):(cellsW vs).length=vs.length:=by simp [cellsW]
theorem cellsW_append (a b:List Value):cellsW (a ++ b)=cellsW a ++ cellsW b:=by simp [cellsW]
theorem cellsW_k (vs:List Value):∀ x ∈ cellsW vs,x.length=1:=by
 intro x hx
 simp only [cellsW,List.mem_map] at hx
 obtain ⟨j,_,rfl⟩:=hx
 rfl
theorem OwnK.apart {w:World} {b b' k k':Nat} {e e':TypeId} {v v':Value} {l l':List (List Value)}(h:OwnK w b e k v l) (h':OwnK w b' e' k' v' l')(hne:e ≠ e'):v.ownBlock=none ∨ v.ownBlock ≠ v'.ownBlock:=by
 rcases h.2.2 with ⟨rfl,_⟩ | ⟨g,cap,cur,rfl,_,hg,_⟩
 ·exact .inl rfl
 ·rcases h'.2.2 with ⟨rfl,_⟩ | ⟨g',cap',cur',rfl,_,hg',_⟩
  ·exact .inr (by intro e;cases e)
  ·refine .inr fun he=>?_
   injection he with he
   subst he
   have:=hg.symm.trans hg'
   injection this with this
   injection this with _ this
   exact hne this
theorem OwnK.grown {w w':World}{b k:Nat}{e:TypeId}{v:Value}{l:List (List Value)}{row:Option Nat}(h:OwnK w b e k v l)(hg:w.grownBy w' row)(hne:v.ownBlock=none ∨ v.ownBlock ≠ row):OwnK w' b e k v l:=⟨h.1,World.ownsRow.kept h.2 hg hne⟩
theorem OwnK.lit1 (w:World) (b:Nat)(e:TypeId)(v:Value)(hb:b<=w.heap.size):OwnK (w.alloc (.cells #[v] e)) b e 1 (.slice (some ⟨w.heap.size,0,none⟩) 1 1) [[v]]:=
 ⟨by simp,by have h:=World.ownsRow_lit (base:=b) (e:=e) (size:=1) w #[v] 1 hb (by simp [maxLen]) rfl;simpa using h⟩
structure UOk (w:World) (b:Nat)(vs:List Value)(U:List (List Nat)):Prop where
 len:vs.length=U.length
 el:∀ (i:Nat)(u:List Nat),U[i]? = some u -> ∃ v,vs[i]? = some v/\OwnK w b 3 1 v (cellsI (ints u))
theorem UOk.later {w w':World}{b:Nat}{vs:List Value}{U:List (List Nat)}(h:UOk w b vs U)(hb:Below w.heap.size w w'):UOk w' b vs U:=⟨h.len,fun i u hu=>by
 obtain ⟨v,h1,h2⟩:=h.el i u hu
 exact ⟨v,h1,h2.below hb⟩⟩
theorem UOk.grown {w w':World} {b b':Nat}{vs:List Value}{U:List (List Nat)}{v:Value}{l:List (List Value)}(h:UOk w b vs U)(ho:OwnK w b' 150 1 v l)(hg:w.grownBy w' v.ownBlock):UOk w' b vs U:=⟨h.len,fun i u hu=>by
 obtain ⟨v,h1,h2⟩:=h.el i u hu
 exact ⟨v,h1,h2.grown hg (h2.apart ho (by decide))⟩⟩
theorem UOk.nil (w:World) (b:Nat):UOk w b [] []:=⟨rfl,fun i u hu=>by simp at hu⟩
theorem UOk.snoc {w:World}{b:Nat}{vs:List Value}{U:List (List Nat)}(h:UOk w b vs U){v:Value}{u:List Nat}(hr:OwnK w b 3 1 v (cellsI (ints u))):UOk w b (vs ++ [v]) (U ++ [u]):=by
 refine ⟨by simp [h.len],fun i x hx=>?_⟩
 by_cases hi:i<U.length
 ·rw [List.getElem?_append_left hi] at hx
  obtain ⟨v',h1,h2⟩:=h.el i x hx
  exact ⟨v',by rw [List.getElem?_append_left (by rw [h.len];exact hi)];exact h1,h2⟩
 ·rw [List.getElem?_append_right (by omega)] at hx
  have hi0:i - U.length=0:=by
   have:=(List.getElem?_eq_some_iff.1 hx).1
   simp at this;omega
  rw [hi0] at hx
  simp at hx;subst hx
  exact ⟨v,by rw [List.getElem?_append_right (by rw [h.len];omega),h.len,hi0];rfl,hr⟩
def RetU (b:Nat)(w:World)(e:Ending)(U:List (List Nat)):Prop:=∃ v vs,e = .returned v/\OwnK w b 150 1 v (cellsW vs)/\UOk w b vs U
theorem infoU:(Tryz.prog.info? 150).map (fun i=>(i.zero,i.size,i.bytes))=some (some (.slice none 0 0),1,24):=by kernel_rfl
end
section
section
variable {ah:Nat->Nat->Bool}
def Fore (ah:Nat->Nat->Bool) (u v:Nat):Prop:=ah u v=true ∨ (ah v u=false/\u<v)
theorem fore_one (has:∀ u v,ah u v=true->ah v u=false):∀ {E F:List Nat},E.Pairwise (Fore ah)->F.Pairwise (Fore ah)->E.Perm F->E=F
 | [],F,_,_,h=>h.nil_eq
 | x :: E,[],_,_,h=>by have:=h.length_eq;simp at this
 | x :: E,y :: F,h1,h2,h=>by
  rw [List.pairwise_cons] at h1 h2
  have hx:x ∈ y :: F:=h.subset (by simp)
  have hy:y ∈ x :: E:=h.symm.subset (by simp)
  have e:x=y:=by
   rcases List.mem_cons.1 hx with hx | hx
   ·exact hx
   ·rcases List.mem_cons.1 hy with hy | hy
    ·exact hy.symm
    ·rcases h1.1 y hy with k1 | ⟨k1,k2⟩
     ·rcases h2.1 x hx with k3 | ⟨k3,k4⟩
      ·have:=has _ _ k1;rw [k3] at this;cases this
      ·rw [k1] at k3;cases k3
     ·rcases h2.1 x hx with k3 | ⟨k3,k4⟩
      ·rw [k3] at k1;cases k1
      ·omega
  subst e
  rw [fore_one has h1.2 h2.2 ((List.perm_cons x).1 h)]
end
end
section
open Go.RowKit
section
variable {c:Nat->Bool}{ah:Nat->Nat->Bool}
theorem insB_perm (p:Nat->Bool) (x:Nat)(l:List Nat):(insB p x l).Perm (x :: l):=by
 unfold insB
 refine List.perm_middle.trans (List.Perm.cons x ?_)
 rw [<- List.reverse_append,List.takeWhile_append_dropWhile,List.reverse_reverse]
theorem wk_perm:∀ k,(wk c ah k).Perm ((List.range k).filter c)
 | 0=>by simp [wk_zero]
 | k+1=>by
  rw [List.range_succ,List.filter_append,wk_succ]
  have ih:=wk_perm k
  cases hc:c k
  ·simp [hc];exact ih
  ·simp only [hc,if_true,List.filter_cons_of_pos,List.filter_nil]
   refine (insB_perm _ _ _).trans ((List.Perm.cons k ih).trans ?_)
   exact (List.perm_append_singleton k _).symm
theorem insB_fore (has:∀ u v,ah u v=true->ah v u=false)(hnt:∀ u v w,ah u v=false->ah v w=false->ah u w=false){x:Nat}{l:List Nat}(h:l.Pairwise (Fore ah))(hx:∀ y ∈ l,y<x):(insB (ah x) x l).Pairwise (Fore ah):=by
 unfold insB
 have hl:l=(l.reverse.dropWhile (ah x)).reverse ++ (l.reverse.takeWhile (ah x)).reverse:=by
  rw [<- List.reverse_append,List.takeWhile_append_dropWhile,List.reverse_reverse]
 have h':=h
 rw [hl,List.pairwise_append] at h'
 obtain ⟨h1,h2,h3⟩:=h'
 have hr:∀ v ∈ (l.reverse.takeWhile (ah x)).reverse,ah x v=true:=by
  intro v hv
  rw [List.mem_reverse] at hv
  have:=List.all_takeWhile (p:=ah x) (l:=l.reverse)
  rw [List.all_eq_true] at this
  exact this v hv
 have hlft:∀ u ∈ (l.reverse.dropWhile (ah x)).reverse,ah x u=false:=by
  cases hq:l.reverse.dropWhile (ah x) with
  | nil=>intro u hu;simp at hu
  | cons z r=>
   have hz:ah x z=false:=by
    have:=List.head_dropWhile_not (ah x) (l:=l.reverse) (by rw [hq];simp)
    simpa [hq] using this
   rw [hq,List.reverse_cons,List.pairwise_append] at h1
   intro u hu
   rw [List.reverse_cons] at hu
   rcases List.mem_append.1 hu with hu | hu
   ·have:=h1.2.2 u hu z (by simp)
    rcases this with h | ⟨h,_⟩
    ·exact hnt x z u hz (has u z h)
    ·exact hnt x z u hz h
   ·simp at hu;subst hu;exact hz
 have hxl:∀ u ∈ (l.reverse.dropWhile (ah x)).reverse,u<x:=fun u hu=>hx u (by rw [hl];exact List.mem_append.2 (.inl hu))
 rw [List.pairwise_append]
 refine ⟨h1,List.pairwise_cons.2 ⟨fun v hv=>.inl (hr v hv),h2⟩,?_⟩
 intro u hu v hv
 rcases List.mem_cons.1 hv with rfl | hv
 ·exact .inr ⟨hlft u hu,hxl u hu⟩
 ·exact h3 u hu v hv
theorem wk_fore (has:∀ u v,ah u v=true->ah v u=false)(hnt:∀ u v w,ah u v=false->ah v w=false->ah u w=false):∀ k,(wk c ah k).Pairwise (Fore ah)
 | 0=>by simp [wk_zero]
 | k+1=>by
  rw [wk_succ]
  split
  ·exact insB_fore has hnt (wk_fore has hnt k) (wk_lt k)
  ·exact wk_fore has hnt k
theorem wk_nodup (k:Nat):(wk c ah k).Nodup:=(wk_perm k).nodup_iff.2 (List.Nodup.sublist List.filter_sublist List.nodup_range)
end
end
section
open Go.RowKit
section
variable {a b c:Jb}
theorem tryB_iff:tryB a b=true ↔ b.pr<a.pr ∨ (a.pr=b.pr/\a.sq<b.sq):=by unfold tryB;simp
theorem tryB_no:tryB a b=false ↔ ¬ (b.pr<a.pr)/\(a.pr=b.pr -> ¬ a.sq<b.sq):=by unfold tryB;simp
theorem tryB_irrefl (a:Jb):tryB a a=false:=by rw [tryB_no];omega
theorem tryB_asymm (h:tryB a b=true):tryB b a=false:=by rw [tryB_iff] at h;rw [tryB_no];omega
theorem tryB_ntrans (h:tryB a b=false)(k:tryB b c=false):tryB a c=false:=by rw [tryB_no] at *;omega
theorem tryB_trans (h:tryB a b=true)(k:tryB b c=true):tryB a c=true:=by rw [tryB_iff] at *;omega
end
section
variable {l:List Jb}{S T:List Nat}{u v:List Nat}{g:ByteArray}{k p i:Nat}
abbrev srtU (l:List Jb):List Nat:=srt14 l l.length
abbrev unitsU (l:List Jb):List (List Nat):=unitsK l (srtU l) (srtU l).length
abbrev ahU (l:List Jb) (i y:Nat):Bool:=tryB (jat l i) (jat l y)
theorem srtU_perm (l:List Jb):(srtU l).Perm ((List.range l.length).filter (waitC l)):=wk_perm l.length
theorem srtU_fore (l:List Jb):(srtU l).Pairwise (Fore (ahU l)):=wk_fore (ah:=ahU l) (fun u v h=>tryB_asymm h) (fun u v w h k=>tryB_ntrans h k) l.length
theorem srtU_nodup (l:List Jb):(srtU l).Nodup:=wk_nodup l.length
theorem srtU_mem:p ∈ srtU l ↔ p<l.length/\waitC l p=true:=by rw [(srtU_perm l).mem_iff,List.mem_filter,List.mem_range]
theorem srtU_one {W:List Nat}(h1:W.Pairwise (Fore (ahU l)))(h2:W.Perm ((List.range l.length).filter (waitC l))):W=srtU l:=
 fore_one (ah:=ahU l) (fun u v h=>tryB_asymm h) h1 (srtU_fore l) (h2.trans (srtU_perm l).symm)
theorem units_mem (h:u ∈ unitsK l S k)(hk:k<=S.length):∃ i,∃ hi:i<S.length,i<k/\u ∈ unitAt l S (S.take i) S[i]:=by
 induction k with
 | zero=>simp [unitsK] at h
 | succ k ih=>
  rw [unitsK_succ (show k<S.length by omega),List.mem_append] at h
  rcases h with h | h
  ·obtain ⟨i,hi,h1,h2⟩:=ih h (by omega)
   exact ⟨i,hi,by omega,h2⟩
  ·exact ⟨k,by omega,by omega,h⟩
theorem unitAt_is (h:u ∈ unitAt l S T p):((jat l p).ga.size=0/\u=[p]) ∨ ((jat l p).ga.size ≠ 0/\firstK l (jat l p).ga T=true/\(jat l p).sz<=(manyK l (jat l p).ga l.length:Int)/\u=gangOf l (jat l p).ga S):=by
 unfold unitAt at h
 split at h
 ·rename_i h0
  simp at h
  exact .inl ⟨h0,h⟩
 ·rename_i h0
  split at h
  ·rename_i h1
   rw [Bool.and_eq_true,decide_eq_true_eq] at h1
   simp at h
   exact .inr ⟨h0,h1.1,h1.2,h⟩
  ·simp at h
theorem gangOf_nil (h:firstK l g T=true):gangOf l g T=[]:=by
 unfold gangOf
 unfold firstK at h
 rw [List.filter_eq_nil_iff]
 intro y hy
 have:=List.all_eq_true.1 h y hy
 simpa using this
theorem gangOf_first (hi:i<S.length)(hg:(jat l S[i]).ga=g)(h:firstK l g (S.take i)=true):gangOf l g S=S[i] :: gangOf l g (S.drop (i+1)):=by
 have e:S=S.take i ++ (S[i] :: S.drop (i+1)):=by rw [<- List.drop_eq_getElem_cons hi,List.take_append_drop]
 have h1:gangOf l g S=gangOf l g (S.take i) ++ gangOf l g (S[i] :: S.drop (i+1)):=by
  have:=congrArg (gangOf l g) e
  rw [this]
  unfold gangOf
  rw [List.filter_append]
 rw [h1,gangOf_nil h,List.nil_append]
 unfold gangOf
 rw [List.filter_cons_of_pos (by show sE (jat l S[i]).ga g=true;rw [hg];exact sE_refl _)]
theorem gangOf_mem {y:Nat}:y ∈ gangOf l g S ↔ y ∈ S/\(jat l y).ga=g:=by unfold gangOf;rw [List.mem_filter,sE_iff]
theorem unit_head (hi:i<S.length)(h:u ∈ unitAt l S (S.take i) S[i]):(∃ r,u=S[i] :: r /\ ∀ q ∈ r,(jat l q).ga.size ≠ 0)/\u.Sublist S /\ ∀ q ∈ u,(jat l q).ga=(jat l S[i]).ga:=by
 rcases unitAt_is h with ⟨h0,rfl⟩ | ⟨h0,h1,h2,rfl⟩
 ·refine ⟨⟨[],rfl,fun q hq=>by cases hq⟩,List.singleton_sublist.2 (List.getElem_mem hi),fun q hq=>?_⟩
  rw [List.mem_singleton] at hq;rw [hq]
 ·have e:=gangOf_first (g:=(jat l S[i]).ga) hi rfl h1
  refine ⟨⟨_,e,fun q hq=>?_⟩,List.filter_sublist,fun q hq=>(gangOf_mem.1 hq).2⟩
  rw [(gangOf_mem.1 hq).2];exact h0
theorem units_in (h:u ∈ unitsU l):∃ p r,u=p :: r/\(∀ q ∈ u,q<l.length/\(jat l q).nd.size=0/\(jat l q).ga=(jat l p).ga) /\ ∀ q ∈ r,(jat l q).ga.size ≠ 0:=by
 obtain ⟨i,hi,_,hu⟩:=units_mem h (Nat.le_refl _)
 obtain ⟨⟨r,h1,h2⟩,h3,h4⟩:=unit_head hi hu
 refine ⟨(srtU l)[i],r,h1,fun q hq=>?_,h2⟩
 obtain ⟨k1,k2⟩:=srtU_mem.1 (h3.subset hq)
 unfold waitC at k2
 exact ⟨k1,of_decide_eq_true k2,h4 q hq⟩
theorem units_apart (hn:S.Nodup):∀ k,k<=S.length->(unitsK l S k).Pairwise fun u v=>∀ q ∈ u,∀ q' ∈ v,q ≠ q'
 | 0,_=>by simp [unitsK]
 | k+1,hk=>by
  have hk':k<S.length:=by omega
  rw [unitsK_succ hk',List.pairwise_append]
  refine ⟨units_apart hn k (by omega),?_,?_⟩
  ·have:=unitAt_len l S (S.take k) S[k]
   match hq:unitAt l S (S.take k) S[k] with
   | []=>exact List.Pairwise.nil
   | [x]=>exact List.pairwise_singleton _ _
   | x :: y :: r=>rw [hq] at this;simp at this
  ·intro u hu v hv
   obtain ⟨i,hi,hik,hu⟩:=units_mem hu (by omega)
   obtain ⟨⟨r,hr,hr2⟩,h3,h4⟩:=unit_head hi hu
   obtain ⟨⟨r',hr',hr2'⟩,h3',h4'⟩:=unit_head hk' hv
   intro q hq q2 hq' eq
   subst eq
   have e1:=h4 q hq
   have e2:=h4' q hq'
   have hne:S[i] ≠ S[k]:=List.pairwise_iff_getElem.1 hn i k hi hk' hik
   rcases unitAt_is hv with ⟨h0,rfl⟩ | ⟨h0,h1,_,rfl⟩
   ·rcases unitAt_is hu with ⟨h0',rfl⟩ | ⟨h0',_⟩
    ·rw [List.mem_singleton] at hq hq'
     exact hne (hq.symm.trans hq')
    ·rw [<- e1,e2] at h0';exact h0' h0
   ·have hm:S[i] ∈ S.take k:=by
     rw [List.mem_take_iff_getElem]
     exact ⟨i,by omega,rfl⟩
    have:=List.all_eq_true.1 h1 _ hm
    rw [<- e1,e2,sE_refl] at this
    cases this
theorem units_nodup (l:List Jb):(unitsU l).flatten.Nodup:=by
 show (unitsU l).flatten.Pairwise (· ≠ ·)
 rw [List.pairwise_flatten]
 refine ⟨fun u hu=>?_,units_apart (srtU_nodup l) _ (Nat.le_refl _)⟩
 obtain ⟨i,hi,_,hu⟩:=units_mem hu (Nat.le_refl _)
 exact (unit_head hi hu).2.1.nodup (srtU_nodup l)
theorem first_nil:firstK l g S=true ↔ gangOf l g S=[]:=by
 constructor
 ·exact gangOf_nil
 ·intro h
  unfold firstK
  rw [List.all_eq_true]
  intro y hy
  cases hs:sE (jat l y).ga g
  ·rfl
  ·have:y ∈ gangOf l g S:=gangOf_mem.2 ⟨hy,sE_iff.1 hs⟩
   rw [h] at this;cases this
end
end
end Go.Proofs.YtccccbofcnmdiaaGreat
