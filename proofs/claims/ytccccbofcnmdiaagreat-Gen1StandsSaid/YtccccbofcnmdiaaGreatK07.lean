/- Lemmas that the law stands on. No condition. -/
import Derived.Test.YtccccbofcnmdiaaGreatK06
namespace Go.Proofs.YtccccbofcnmdiaaGreat
set_option linter.unusedSimpArgs false
set_option linter.unusedVariables false
set_option maxRecDepth 100000
set_option maxHeartbeats 51200000
section
open Go.RowKit
def wB (s:ByteArray):Bool:=decide (s.size=0)

theorem waits_any (j:Jb)(w:World):Calls Tryz.prog 101 #[.agg j.arr] w fun e w'=>e = .returned (.bool (wB j.nd))/\Below w.heap.size w w':=by
 obtain ⟨nm,qu,pr,a,b,c,A,n,cp,ap,ga,sz,sq,nd,bo⟩:=j
 by_cases h:nd.size=0
 ·obtain rfl:=empty_of h
  go_enter Tryz.func101,Tryz.ntmps101
  go_wp2
  go_ret
  exact ⟨rfl,bel⟩
 ·have h1:=full_of h
  have hres:wB nd=false:=decide_eq_false h
  show Calls _ _ _ _ fun e w'=>e = .returned (.bool (wB nd))/\_
  rw [hres]
  clear hres h
  obtain ⟨h1,h2⟩:=h1
  go_enter Tryz.func101,Tryz.ntmps101
  go_wp2
  go_ret
  exact ⟨rfl,bel⟩
def fnd (s:ByteArray):Nat->List Jb->Int
 | _,[]=>-1
 | k,j :: l=>if sE j.nm s then k else fnd s (k+1) l
theorem fnd_yes {s:ByteArray}{k:Nat}{l:List Jb}(h:k<l.length)(he:sE l[k].nm s=true):fnd s k (l.drop k)=k:=by
 rw [List.drop_eq_getElem_cons h,fnd,if_pos he]
theorem fnd_no {s:ByteArray}{k:Nat}{l:List Jb}(h:k<l.length)(he:sE l[k].nm s=false):fnd s k (l.drop k)=fnd s (k+1) (l.drop (k+1)):=by
 rw [List.drop_eq_getElem_cons h,fnd,he];rfl

theorem find_any (A:Option Addr) (n cap:Nat)(l:List Jb)(s:ByteArray)(w:World)(hn:Hid (n=l.length))(hl:n<=9223372036854775807)(hA:Hid (RdJ w A l)) (r:Int)(hs:Hid (fnd s 0 l=r)) :
  Calls Tryz.prog 99 #[.slice A n cap,.string s] w fun e w'=>e = .returned (.int .i64 r)/\Below w.heap.size w w':=by
 go_enter Tryz.func99,Tryz.ntmps99
 go_wp2_with fail
 go_loopw [9] (fun i wr=>∃ k:Nat,k<=n/\i = .int .i64 k/\Hid (fnd s k (l.drop k)=r)/\Below w.heap.size w wr) (fun i wr=>n - (intOf i).toNat)
 case atStart=>exact ⟨0,Nat.zero_le _,rfl,(show fnd s 0 (l.drop 0)=r by simpa using hs.out),Below.refl _ _⟩
 case round=>
  obtain ⟨k,hk,rfl,HS,hb⟩:=hrel
  by_cases hlt:k<n
  ·have hlk:k<l.length:=by have:=hn.out;omega
   obtain ⟨g,o,rfl,hg,hj⟩:=(hA.out.later hb).at hlk
   obtain ⟨j,hjk⟩:∃ j,j=l[k]:=⟨_,rfl⟩
   rw [<- hjk] at hj
   have HJ:=Lib.hid hj;clear hj
   cases he:sE j.nm s
   ·have hfin:=HS.out
    rw [fnd_no hlk (hjk ▸ he)] at hfin
    have HF:=Lib.hid hfin;clear hfin
    have he':(j.nm.toList == s.toList)=false:=he
    have HJK:=Lib.hid hjk;clear hjk he
    go_wp2_with (first | (with_reducible refine load_rg rfl 66 _ rfl g (o+k * 13) rfl j.arr _ HJ.out.rg Tryz.underlying66 rfl (by kernel_rfl) ?_) | ((with_reducible refine store_bk rfl 66 (.tmp 6) (.tmp 13) rfl wr.heap.size 0 j.arr rfl rfl 66 _ j.arr (Bk.fresh _ _ _) (by kernel_rfl) (by simp) (by kernel_rfl) rfl ?_);intro w1 hB1 hg1 hs1;have hn1:=hB1.cellAt 0;simp at hn1))
    go_round
    case rel=>exact ⟨k+1,by omega,by go_num,HF,grown_below (hb.alloc hb.size _) hg1 (by have:=hb.size;omega)⟩
    case measure=>simp [intOf];omega
   ·have hfin:=HS.out
    rw [fnd_yes hlk (hjk ▸ he)] at hfin
    subst hfin
    have he':(j.nm.toList == s.toList)=true:=he
    have HJK:=Lib.hid hjk;clear hjk he
    go_wp2_with (first | (with_reducible refine load_rg rfl 66 _ rfl g (o+k * 13) rfl j.arr _ HJ.out.rg Tryz.underlying66 rfl (by kernel_rfl) ?_) | ((with_reducible refine store_bk rfl 66 (.tmp 6) (.tmp 13) rfl wr.heap.size 0 j.arr rfl rfl 66 _ j.arr (Bk.fresh _ _ _) (by kernel_rfl) (by simp) (by kernel_rfl) rfl ?_);intro w1 hB1 hg1 hs1;have hn1:=hB1.cellAt 0;simp at hn1))
    go_ret
    exact ⟨rfl,grown_below (hb.alloc hb.size _) hg1 (by have:=hb.size;omega)⟩
  ·have hk':k=n:=by omega
   subst hk'
   have hfin:=HS.out
   rw [hn.out,List.drop_length,fnd] at hfin
   subst hfin
   go_wp2_with fail
   go_ret
   exact ⟨rfl,hb⟩
end
section
open Go.RowKit
abbrev keyQ (Q:List Qx):List ByteArray:=Q.map fun q=>q.1
theorem OwnS.rdJs {w:World}{b:Nat}{vM vQ:Value}{S:Sg}{C:Option Addr}{n cC:Nat}(h:OwnS w b vM vQ (.slice C n cC) S):RdJ w C (jbs S.J):=by
 obtain ⟨A',c,hv,hr,_⟩:=h.J.sl
 injection hv with h1;subst h1;exact hr
theorem OwnS.lenJ {w:World}{b:Nat}{vM vQ:Value}{S:Sg}{C:Option Addr}{n cC:Nat}(h:OwnS w b vM vQ (.slice C n cC) S):n=S.J.length:=by
 obtain ⟨A',c,hv,hr,_⟩:=h.J.sl
 injection hv with h1 h2;rw [h2,cellsJ_length,List.length_map]


theorem dropNode_no (b g:Nat) (lst:Int)(vM vQ vJ:Value)(S:Sg)(s:ByteArray)(w:World)(hG:Gs w b g lst vM vQ vJ S)(hM:Sm S)(hA:AscK (keyM S.M))(hf:hasK s (keyM S.M)=false) :
  Calls Tryz.prog 84 #[.pointer (some ⟨g,0,none⟩),.string s] w fun e w'=>e = .returned (.tuple #[.slice none 0 0,.int .i64 7])/\Below w.heap.size w w':=by
 obtain ⟨⟨ck,nx,A,N,cA,B,K0,cB,C,n,cC⟩,hva,hvr⟩:=hG.own.rd
 have hv1:.slice A N cA=vM:=congrArg (fun a:Array Value=>a.getD 2 undef) hva
 have hv2:.slice B K0 cB=vQ:=congrArg (fun a:Array Value=>a.getD 3 undef) hva
 have hv3:.slice C n cC=vJ:=congrArg (fun a:Array Value=>a.getD 4 undef) hva
 subst hv1 hv2 hv3
 clear hva hvr
 have hl:N=S.M.length:=hG.own.lenM
 have hlb:N<=1000:=by rw [hl];exact hM.M
 obtain ⟨p,hp⟩:∃ p,p=lbK s (keyM S.M):=⟨_,rfl⟩
 have kf:∀ W,RdM W A (mcs S.M)->Calls Tryz.prog 102 #[.slice A N cA,.string s,.func (.func 94) #[] #[]] W fun e w'=>e = .returned (.tuple #[.int .i64 p,.bool false])/\Below W.heap.size W w':=fun W h=>by
  have hx:=findM_any A N cA S.M s W hl h hlb hA
  rw [hf,<- hp] at hx
  exact hx
 have k1:=kf w hG.own.rdMs
 have c1:w.cell? ⟨g,2,none⟩=some (.slice A N cA):=hG.bk.cellAt 2
 have K1:=Lib.hid k1
 clear k1 hG hf hl hlb hM kf hp hA
 go_enter Tryz.func84,Tryz.ntmps84
 go_wp2_with fail
 refine K1.out.mono ?_;rintro e w1 ⟨rfl,hb1⟩
 go_wp2_with fail
 exact bodyPost_ret (v:=.tuple #[.slice none 0 0,.int .i64 7]) (by simp [results,Tryz.results84,go_sem]) rfl ⟨rfl,hb1⟩


theorem dropQueue_no (b g:Nat) (lst:Int)(vM vQ vJ:Value)(S:Sg)(s:ByteArray)(w:World)(hG:Gs w b g lst vM vQ vJ S)(hM:Sm S)(hA:AscK (keyQ S.Q))(hf:hasK s (keyQ S.Q)=false) :
  Calls Tryz.prog 86 #[.pointer (some ⟨g,0,none⟩),.string s] w fun e w'=>e = .returned (.int .i64 7)/\Below w.heap.size w w':=by
 obtain ⟨⟨ck,nx,A,N,cA,B,K0,cB,C,n,cC⟩,hva,hvr⟩:=hG.own.rd
 have hv1:.slice A N cA=vM:=congrArg (fun a:Array Value=>a.getD 2 undef) hva
 have hv2:.slice B K0 cB=vQ:=congrArg (fun a:Array Value=>a.getD 3 undef) hva
 have hv3:.slice C n cC=vJ:=congrArg (fun a:Array Value=>a.getD 4 undef) hva
 subst hv1 hv2 hv3
 clear hva hvr
 have hl:K0=S.Q.length:=hG.own.lenQ
 have hlb:K0<=1000:=by rw [hl];exact hM.Q
 obtain ⟨p,hp⟩:∃ p,p=lbK s (keyQ S.Q):=⟨_,rfl⟩
 have kf:∀ W,RdQ W B S.Q->Calls Tryz.prog 100 #[.slice B K0 cB,.string s,.func (.func 96) #[] #[]] W fun e w'=>e = .returned (.tuple #[.int .i64 p,.bool false])/\Below W.heap.size W w':=fun W h=>by
  have hx:=findQ_any B K0 cB S.Q s W hl h hlb hA
  rw [hf,<- hp] at hx
  exact hx
 have k1:=kf w hG.own.rdQ
 have c1:w.cell? ⟨g,3,none⟩=some (.slice B K0 cB):=hG.bk.cellAt 3
 have K1:=Lib.hid k1
 clear k1 hG hf hl hlb hM kf hp hA
 go_enter Tryz.func86,Tryz.ntmps86
 go_wp2_with fail
 refine K1.out.mono ?_;rintro e w1 ⟨rfl,hb1⟩
 go_wp2_with fail
 go_ret
 exact ⟨rfl,hb1⟩


theorem beat_no (b g:Nat) (lst:Int)(vM vQ vJ:Value)(S:Sg)(s:ByteArray)(w:World)(hG:Gs w b g lst vM vQ vJ S)(hM:Sm S)(hA:AscK (keyM S.M))(hf:hasK s (keyM S.M)=false) :
  Calls Tryz.prog 90 #[.pointer (some ⟨g,0,none⟩),.string s] w fun e w'=>e = .returned (.int .i64 7)/\Below w.heap.size w w':=by
 obtain ⟨⟨ck,nx,A,N,cA,B,K0,cB,C,n,cC⟩,hva,hvr⟩:=hG.own.rd
 have hv1:.slice A N cA=vM:=congrArg (fun a:Array Value=>a.getD 2 undef) hva
 have hv2:.slice B K0 cB=vQ:=congrArg (fun a:Array Value=>a.getD 3 undef) hva
 have hv3:.slice C n cC=vJ:=congrArg (fun a:Array Value=>a.getD 4 undef) hva
 subst hv1 hv2 hv3
 clear hva hvr
 have hl:N=S.M.length:=hG.own.lenM
 have hlb:N<=1000:=by rw [hl];exact hM.M
 obtain ⟨p,hp⟩:∃ p,p=lbK s (keyM S.M):=⟨_,rfl⟩
 have kf:∀ W,RdM W A (mcs S.M)->Calls Tryz.prog 102 #[.slice A N cA,.string s,.func (.func 94) #[] #[]] W fun e w'=>e = .returned (.tuple #[.int .i64 p,.bool false])/\Below W.heap.size W w':=fun W h=>by
  have hx:=findM_any A N cA S.M s W hl h hlb hA
  rw [hf,<- hp] at hx
  exact hx
 have k1:=kf w hG.own.rdMs
 have c1:w.cell? ⟨g,2,none⟩=some (.slice A N cA):=hG.bk.cellAt 2
 have K1:=Lib.hid k1
 clear k1 hG hf hl hlb hM kf hp hA
 go_enter Tryz.func90,Tryz.ntmps90
 go_wp2_with fail
 refine K1.out.mono ?_;rintro e w1 ⟨rfl,hb1⟩
 go_wp2_with fail
 go_ret
 exact ⟨rfl,hb1⟩


theorem cancel_no (b g:Nat) (lst:Int)(vM vQ vJ:Value)(S:Sg)(s:ByteArray)(w:World)(hG:Gs w b g lst vM vQ vJ S)(hM:Sm S)(hf:fnd s 0 (jbs S.J) = -1) :
  Calls Tryz.prog 88 #[.pointer (some ⟨g,0,none⟩),.string s] w fun e w'=>e = .returned (.tuple #[.slice none 0 0,.int .i64 7])/\Below w.heap.size w w':=by
 obtain ⟨⟨ck,nx,A,N,cA,B,K0,cB,C,n,cC⟩,hva,hvr⟩:=hG.own.rd
 have hv1:.slice A N cA=vM:=congrArg (fun a:Array Value=>a.getD 2 undef) hva
 have hv2:.slice B K0 cB=vQ:=congrArg (fun a:Array Value=>a.getD 3 undef) hva
 have hv3:.slice C n cC=vJ:=congrArg (fun a:Array Value=>a.getD 4 undef) hva
 subst hv1 hv2 hv3
 clear hva hvr
 have hl:n=S.J.length:=hG.own.lenJ
 have hlb:n<=1000:=by rw [hl];exact hM.J
 have k1:=find_any C n cC (jbs S.J) s w (show _=_ by rw [List.length_map];exact hl) (by omega) hG.own.rdJs (-1) hf
 have c1:w.cell? ⟨g,4,none⟩=some (.slice C n cC):=hG.bk.cellAt 4
 have K1:=Lib.hid k1
 clear k1 hG hf hl hlb hM 
 go_enter Tryz.func88,Tryz.ntmps88
 go_wp2_with fail
 refine K1.out.mono ?_;rintro e w1 ⟨rfl,hb1⟩
 go_wp2_with fail
 exact bodyPost_ret (v:=.tuple #[.slice none 0 0,.int .i64 7]) (by simp [results,Tryz.results88,go_sem]) rfl ⟨rfl,hb1⟩


theorem finish_no (b g:Nat) (lst:Int)(vM vQ vJ:Value)(S:Sg)(s:ByteArray)(w:World)(hG:Gs w b g lst vM vQ vJ S)(hM:Sm S)(hf:fnd s 0 (jbs S.J) = -1) :
  Calls Tryz.prog 89 #[.pointer (some ⟨g,0,none⟩),.string s] w fun e w'=>e = .returned (.int .i64 7)/\Below w.heap.size w w':=by
 obtain ⟨⟨ck,nx,A,N,cA,B,K0,cB,C,n,cC⟩,hva,hvr⟩:=hG.own.rd
 have hv1:.slice A N cA=vM:=congrArg (fun a:Array Value=>a.getD 2 undef) hva
 have hv2:.slice B K0 cB=vQ:=congrArg (fun a:Array Value=>a.getD 3 undef) hva
 have hv3:.slice C n cC=vJ:=congrArg (fun a:Array Value=>a.getD 4 undef) hva
 subst hv1 hv2 hv3
 clear hva hvr
 have hl:n=S.J.length:=hG.own.lenJ
 have hlb:n<=1000:=by rw [hl];exact hM.J
 have k1:=find_any C n cC (jbs S.J) s w (show _=_ by rw [List.length_map];exact hl) (by omega) hG.own.rdJs (-1) hf
 have c1:w.cell? ⟨g,4,none⟩=some (.slice C n cC):=hG.bk.cellAt 4
 have K1:=Lib.hid k1
 clear k1 hG hf hl hlb hM 
 go_enter Tryz.func89,Tryz.ntmps89
 go_wp2_with fail
 refine K1.out.mono ?_;rintro e w1 ⟨rfl,hb1⟩
 go_wp2_with fail
 go_ret
 exact ⟨rfl,hb1⟩


theorem perform_1 (b g:Nat)(vM vQ vJ:Value)(S:Sg)(x:Oz)(hk:x.v.k=1)(hM:Sm S)(hA:AscK (keyM S.M))(hll:x.v.l1.length<=1000)(hI:hasK x.v.nn (keyM S.M)=false->InsM b vM S.M x.v.nn):Performs b g vM vQ vJ S x (addN S x.v.nn x.v.a1 x.v.b1 x.v.c1 x.v.l1):=by
 intro w hG hx
 have hbg:b<=w.heap.size:=hG.elim fun lst h=>Nat.le_trans h.le (Nat.le_of_lt h.bk.here)
 have k1:=fun (W:World)(h:∃ lst,Gs W b g lst vM vQ vJ S)(hb:Below w.heap.size w W)=>h.elim fun lst h=>addNode_any b g lst vM vQ vJ S x.v.nn x.v.a1 x.v.b1 x.v.c1 x.A1 x.m1 x.p1 x.v.l1 W h hM hA hx.nn (hx.l1.later hb) hll (Nat.le_trans hbg hb.size) hI
 have K1:=Lib.hid k1;have HG:=Lib.hid hG
 clear k1 hG hx hA hI hll hbg hM
 obtain ⟨R,hR⟩:∃ R,R=addN S x.v.nn x.v.a1 x.v.b1 x.v.c1 x.v.l1:=⟨_,rfl⟩
 rw [<- hR] at K1 ⊢
 have hR3:R.2.2=[]:=by rw [hR];unfold addN;split;rfl;split <;> rfl
 clear hR
 obtain ⟨⟨k,nn,a1,b1,c1,l1,qn,a2,b2,c2,tn,tq,tp,a3,b3,c3,l3,ta,tg,ts,s⟩,A1,m1,p1,A3,m3,p3⟩:=x
 simp only at hk
 subst hk
 obtain ⟨R1,err,acts⟩:=R
 simp only at hR3
 subst hR3
 have HO0:Hid (Bk (w.alloc (.cells #[.int .i64 1,.string nn,.int .i64 a1,.int .i64 b1,.int .i64 c1,.slice A1 m1 p1,.string qn,.int .i64 a2,.int .i64 b2,.int .i64 c2,.string tn,.string tq,.int .i64 tp,.int .i64 a3,.int .i64 b3,.int .i64 c3,.slice A3 m3 p3,.string ta,.string tg,.int .i64 ts,.string s] 49)) w.heap.size 49 #[.int .i64 1,.string nn,.int .i64 a1,.int .i64 b1,.int .i64 c1,.slice A1 m1 p1,.string qn,.int .i64 a2,.int .i64 b2,.int .i64 c2,.string tn,.string tq,.int .i64 tp,.int .i64 a3,.int .i64 b3,.int .i64 c3,.slice A3 m3 p3,.string ta,.string tg,.int .i64 ts,.string s]):=Bk.fresh w _ _
 have hB0:Below w.heap.size w (w.alloc (.cells #[.int .i64 1,.string nn,.int .i64 a1,.int .i64 b1,.int .i64 c1,.slice A1 m1 p1,.string qn,.int .i64 a2,.int .i64 b2,.int .i64 c2,.string tn,.string tq,.int .i64 tp,.int .i64 a3,.int .i64 b3,.int .i64 c3,.slice A3 m3 p3,.string ta,.string tg,.int .i64 ts,.string s] 49)):=(Below.refl _ _).alloc (Nat.le_refl _) _
 go_enter Tryz.func44,Tryz.ntmps44
 go_wp2_with ((with_reducible refine load_bk rfl 43 _ rfl w.heap.size 1 rfl 49 #[.int .i64 1,.string nn,.int .i64 a1,.int .i64 b1,.int .i64 c1,.slice A1 m1 p1,.string qn,.int .i64 a2,.int .i64 b2,.int .i64 c2,.string tn,.string tq,.int .i64 tp,.int .i64 a3,.int .i64 b3,.int .i64 c3,.slice A3 m3 p3,.string ta,.string tg,.int .i64 ts,.string s] #[.string nn,.int .i64 a1,.int .i64 b1,.int .i64 c1,.slice A1 m1 p1] _ HO0.out (Part.of rfl) Tryz.underlying43 rfl (by kernel_rfl) ?_))
 refine (K1.out _ (HG.out.elim fun lst h=>⟨lst,h.below hB0⟩) hB0).mono ?_;rintro e w2 ⟨rfl,hW⟩
 have HW:=Lib.hid hW;clear hW
 go_wp2_with fail
 exact bodyPost_ret (v:=.tuple #[.slice none 0 0,.int .i64 err]) (by simp [results,Tryz.results44,go_sem]) rfl ⟨⟨none,0,0,rfl,RetL.nil _ _⟩,Went.before hB0 HW.out⟩
end
section
open Go.RowKit
structure RowKg (w:World) (g:Nat)(e:TypeId) (k:Nat)(L:List (List Value)):Prop where
 row:w.heap[g]? = some (.cells L.flatten.toArray e (0,0))
 each:∀ x ∈ L,x.length=k
theorem chunks (k:Nat):∀ (m:Nat)(l:List Value),l.length=m * k -> ∃ S:List (List Value),S.length=m/\S.flatten=l /\ ∀ x ∈ S,x.length=k
 | 0,l,h=>by
  have:l=[]:=List.length_eq_zero_iff.1 (by simpa using h)
  subst this
  exact ⟨[],rfl,rfl,by simp⟩
 | m+1,l,h=>by
  rw [Nat.add_mul,Nat.one_mul] at h
  obtain ⟨S,h1,h2,h3⟩:=chunks k m (l.drop k) (by rw [List.length_drop];omega)
  refine ⟨l.take k :: S,by simp [h1],by rw [List.flatten_cons,h2,List.take_append_drop],fun x hx=>?_⟩
  rcases List.mem_cons.1 hx with rfl | hx
  ·rw [List.length_take];omega
  ·exact h3 x hx
theorem flat_take {k:Nat}:∀ {L:List (List Value)},(∀ x ∈ L,x.length=k) -> ∀ n,(L.take n).flatten=L.flatten.take (n * k)
 | [],_,n=>by simp
 | x :: L,h,0=>by simp
 | x :: L,h,n+1=>by
  have hx:x.length=k:=h x (by simp)
  have ht:x.take ((n+1) * k)=x:=List.take_of_length_le (by rw [hx,Nat.add_mul];omega)
  rw [List.take_succ_cons,List.flatten_cons,List.flatten_cons,flat_take (fun y hy=>h y (by simp [hy])) n,List.take_append,ht,hx,show (n+1) * k - k=n * k by rw [Nat.add_mul];omega]
theorem flat_drop {k:Nat}:∀ {L:List (List Value)},(∀ x ∈ L,x.length=k) -> ∀ n,(L.drop n).flatten=L.flatten.drop (n * k)
 | [],_,n=>by simp
 | x :: L,h,0=>by simp
 | x :: L,h,n+1=>by
  have hx:x.length=k:=h x (by simp)
  have ht:x.drop ((n+1) * k)=[]:=List.drop_of_length_le (by rw [hx,Nat.add_mul];omega)
  rw [List.drop_succ_cons,List.flatten_cons,flat_drop (fun y hy=>h y (by simp [hy])) n,List.drop_append,ht,List.nil_append,hx,show (n+1) * k - k=n * k by rw [Nat.add_mul];omega]
section
variable {w w':World}{g k base n c:Nat}{e:TypeId}{l L:List (List Value)}
theorem OwnK.whole (h:OwnK w base e k (.slice (some ⟨g,0,none⟩) n c) l):∃ S:List (List Value),RowKg w g e k (l ++ S)/\l.length+S.length=c/\n=l.length/\c<=maxLen/\base<=g:=by
 obtain ⟨hk,hlen,hr⟩:=h
 rcases hr with ⟨h1,_⟩ | ⟨g',cap,cur,h1,hb,hg,hn,hm,hc,ht⟩
 ·cases h1
 ·injection h1 with e1 e2 e3
  injection e1 with e1
  injection e1 with e1
  subst e1 e3
  obtain ⟨S,s1,s2,s3⟩:=chunks k (c - l.length) (cur.toList.drop (l.length * k)) (by rw [List.length_drop,Array.length_toList,hc,Nat.sub_mul])
  refine ⟨S,⟨?_,fun x hx=>(List.mem_append.1 hx).elim (hk x) (s3 x)⟩,by omega,e2,hm,hb⟩
  rw [List.flatten_append,s2,<- ht,List.take_append_drop,Array.toArray_toList]
  exact hg
theorem RowKg.own (h:RowKg w g e k L)(hb:base<=g)(hc:L.length=c)(hm:c<=maxLen)(hn:n<=c):OwnK w base e k (.slice (some ⟨g,0,none⟩) n c) (L.take n):=by
 have hl:(L.take n).length=n:=by rw [List.length_take];omega
 refine ⟨fun x hx=>h.each x (List.mem_of_mem_take hx),by rw [hl,flat_length (fun x hx=>h.each x (List.mem_of_mem_take hx)),hl],.inr ⟨g,c,L.flatten.toArray,by rw [hl],hb,h.row,by rw [hl];exact hn,hm,?_,?_⟩⟩
 ·rw [List.size_toArray,flat_length h.each,hc]
 ·rw [hl,flat_take h.each]
theorem RowKg.part (h:RowKg w g e k L) (o m:Nat):∀ j u,((L.drop o).take m).flatten[j]? = some u->w.cell? ((⟨g,o * k,none⟩:Addr).add j)=some u:=fun j u hu=>by
 rw [flat_take (fun x hx=>h.each x (List.mem_of_mem_drop hx)),flat_drop h.each,List.getElem?_take] at hu
 split at hu
 ·rw [List.getElem?_drop] at hu
  rw [Addr.add_lit,cell_of_row w g _ _ e (0,0) h.row]
  simpa using hu
 ·cases hu
end
theorem RowKg.drew {w:World}{g k:Nat}{e:TypeId}{L:List (List Value)}(h:RowKg w g e k L):RowKg w.drew g e k L:=⟨h.row,h.each⟩
theorem drew_grown {w w':World}{row:Option Nat}(h:w.drew.grownBy w' row):w.grownBy w' row:=⟨h.os,h.tape,h.output,h.size,h.block⟩
theorem grown_setRow (w:World) (g:Nat)(cs:Array Value):w.grownBy (w.setRow g cs) (some g):=
 ⟨rfl,rfl,rfl,by simp,fun i _ hne=>setRow_other w g i cs (fun e=>hne (by rw [e]))⟩
section
variable {P:Program}
theorem run_copy_k (w:World)(dT sT ty e:TypeId) (k:Nat)(hu:P.underlying dT=some (.slice e))(hs:(P.info? e).map (·.size)=some k)
  (g d dLen dCap:Nat)(L:List (List Value))(hr:RowKg w g e k L)(a:Addr) (sLen sCap:Nat)(X:List (List Value))(hX:∀ x ∈ X,x.length=k)(h1:∀ x ∈ X,∀ u ∈ x,u.oneCell' = true)
  (hn:X.length=Nat.min sLen dLen)(hsrc:∀ j u,X.flatten[j]? = some u->w.cell? (a.add j)=some u)(hfit:d+X.length<=L.length) :
  ∃ w',(Builtin.copy_ #[dT,sT] ty #[.slice (some ⟨g,d * k,none⟩) dLen dCap,.slice (some a) sLen sCap]).run P w = .ok (goInt X.length) w' /\ RowKg w' g e k (L.take d ++ X ++ L.drop (d+X.length))/\w.grownBy w' (some g)/\w'.heap.size=w.heap.size:=by
 have hXl:X.flatten.length=X.length * k:=flat_length hX
 have hLl:L.flatten.length=L.length * k:=flat_length hr.each
 have hle:d * k+X.flatten.length<=L.flatten.toArray.size:=by
  rw [List.size_toArray,hXl,hLl,<- Nat.add_mul]
  exact Nat.mul_le_mul_right k hfit
 have hl:=run_loadCells_list (P:=P) w a X.flatten hsrc
 have hst:=run_storeCells_at P g (d * k) e X.flatten 0 L.flatten.toArray w hr.row (by simpa using hle) (fun u hu'=>by
  obtain ⟨y,hy,hu''⟩:=List.mem_flatten.1 hu'
  exact h1 y hy u hu'')
 refine ⟨w.setRow g (L.flatten.take (d * k) ++ X.flatten ++ L.flatten.drop (d * k+X.flatten.length)).toArray,?_,⟨?_,?_⟩,grown_setRow _ _ _,by simp⟩
 ·cases hq:P.info? e with
  | none=>simp [hq] at hs
  | some i=>
   have hi:i.size=k:=by simpa [hq] using hs
   rw [hXl] at hl hst
   simp only [Nat.add_zero] at hst
   simp [Builtin.copy_,run_underlying hu,Builtin.lenOf,Builtin.firstCells,sizeOf,typeInfo,hq,hi,<- hn,hl,hst,hXl]
 ·rw [setRow_heap w g _ _ e (0,0) hr.row]
  congr 3
  rw [List.flatten_append,List.flatten_append,flat_take hr.each,flat_drop hr.each,Nat.add_mul,hXl]
 ·intro x hx
  rcases List.mem_append.1 hx with hx | hx
  ·rcases List.mem_append.1 hx with hx | hx
   ·exact hr.each x (List.mem_of_mem_take hx)
   ·exact hX x hx
  ·exact hr.each x (List.mem_of_mem_drop hx)
theorem run_made_k (w:World)(t tn ty e:TypeId)(z:Value) (k b:Nat)(kn kq:IntKind)(ht:P.underlying t=some (.slice e))(htn:P.underlying tn=some (.int kn))(h2:(P.info? e).map (fun i=>(i.zero,i.size,i.bytes))=some (some z,k,b))(hz:z.cells.size=k)(hk:0<k)
  (a:Addr) (n c m:Nat)(l:List (List Value))(hl:∀ x ∈ l,x.length=k)(hn:n=l.length)(hsrc:∀ j u,l.flatten[j]? = some u->w.cell? (a.add j)=some u)
  (h0:0<m)(hroom:c<n+m)(hmax:n+m<=maxLen)(hbig:(n+m) * b<=140737488355328) :
  ∃ w' G S,(Builtin.append_ #[t,tn] ty #[.slice (some a) n c,.int kq (m:Int)]).run P w = .ok (.slice (some ⟨w.heap.size,0,none⟩) (n+m) G) w' /\ RowKg w' w.heap.size e k (l ++ S)/\n+S.length=G/\n+m<=G/\G<=maxLen/\w.grownBy w' none/\w'.heap.size=w.heap.size+1:=by
 obtain ⟨i,hi,hiz,his,hib⟩:=info_partsK h2
 subst his hib
 have hold:(Builtin.firstCells i.size n (.slice (some a) n c)).run P w.drew = .ok l.flatten.toArray w.drew:=
  run_firstCells_some w.drew i.size n a n c l.flatten (by rw [flat_length hl,hn]) (fun j u hj=>hsrc j u hj)
 have hrun:=Lib.run_append_grow_zeros w t tn ty e i z kq kn ht htn hi hiz (some a) n c l.flatten hold m h0 hk hroom (by unfold maxLen at hmax;omega)
  (Nat.le_trans (Nat.mul_le_mul_right _ (Nat.le_add_left m n)) (by omega)) (growslice_fits hroom hbig)
 have hge:=grownCap_ge w (n+m) c e
 have hle:=grownCap_le_maxLen w (n+m) c e hmax
 obtain ⟨S,s1,s2,s3⟩:=chunks i.size (grownCap w (n+m) c e - n) (Builtin.zeroCells z.cells m ++ Builtin.zeroCells z.cells (grownCap w (n+m) c e - (n+m))).toList (by
  rw [Array.toList_append,List.length_append,Array.length_toList,Array.length_toList,size_zeroCells,size_zeroCells,hz,<- Nat.add_mul]
  congr 1;omega)
 refine ⟨_,grownCap w (n+m) c e,S,hrun,⟨?_,fun x hx=>(List.mem_append.1 hx).elim (hl x) (s3 x)⟩,by omega,hge,hle,?_,by simp⟩
 ·have h:=heap_alloc_new w.drew (.cells (l.flatten.toArray ++ Builtin.zeroCells z.cells m ++ Builtin.zeroCells z.cells (grownCap w (n+m) c e - (n+m))) e)
  refine h.trans ?_
  congr 2
  rw [List.flatten_append,s2]
  apply Array.toList_inj.1
  simp
 ·exact ⟨rfl,rfl,rfl,by simp,fun j hj _=>heap_alloc_old w.drew _ hj⟩
theorem copy_k_op (w:World){o:Oper}{a:Act}{K:Act->World->Prop}{Q:Exit->Act->World->Prop}(d x:Operand)(t:TypeId)(hop:o.op=Op.call { callee:=Callee.builtin Builtin.copy,args:=#[d,x],argTypes:=#[t,t] })
  (e:TypeId) (k:Nat)(hu:P.underlying t=some (.slice e))(hs:(P.info? e).map (·.size)=some k) (g dd dk dLen dCap:Nat)(L:List (List Value))(hr:RowKg w g e k L)(hd:a.eval d = .slice (some ⟨g,dk,none⟩) dLen dCap)(hdk:dk=dd * k)
  (A:Addr) (sLen sCap:Nat)(hx:a.eval x = .slice (some A) sLen sCap)(X:List (List Value))(hX:∀ x ∈ X,x.length=k)(h1:∀ x ∈ X,∀ u ∈ x,u.oneCell' = true)
  (hn:X.length=Nat.min sLen dLen)(hsrc:∀ j u,X.flatten[j]? = some u->w.cell? (A.add j)=some u)(hfit:dd+X.length<=L.length)
  (hK:∀ w',RowKg w' g e k (L.take dd ++ X ++ L.drop (dd+X.length))->w.grownBy w' (some g)->w'.heap.size=w.heap.size->K (a.put o.dst (goInt X.length)) w'):o.wp P a w K Q:=by
 subst hdk
 obtain ⟨w',hrun,r1,r2,r3⟩:=run_copy_k (P:=P) w t t o.type e k hu hs g dd dLen dCap L hr A sLen sCap X hX h1 hn hsrc hfit
 unfold Oper.wp
 simp [execOp,hop,resolve,invoke,builtin,hd,hx,hrun,Result.andThen]
 exact hK w' r1 r2 r3
theorem copy_k {ops:Array Oper}{rest:List Oper}(w:World){o:Oper}{a:Act}{Q:Exit->Act->World->Prop}(hw:Region.wanted o (yielded ops a.tmps)=true)(d x:Operand)(t:TypeId)(hop:o.op=Op.call { callee:=Callee.builtin Builtin.copy,args:=#[d,x],argTypes:=#[t,t] })
  (e:TypeId) (k:Nat)(hu:P.underlying t=some (.slice e))(hs:(P.info? e).map (·.size)=some k) (g dd dk dLen dCap:Nat)(L:List (List Value))(hr:RowKg w g e k L)(hd:a.eval d = .slice (some ⟨g,dk,none⟩) dLen dCap)(hdk:dk=dd * k)
  (A:Addr) (sLen sCap:Nat)(hx:a.eval x = .slice (some A) sLen sCap)(X:List (List Value))(hX:∀ x ∈ X,x.length=k)(h1:∀ x ∈ X,∀ u ∈ x,u.oneCell' = true)
  (hn:X.length=Nat.min sLen dLen)(hsrc:∀ j u,X.flatten[j]? = some u->w.cell? (A.add j)=some u)(hfit:dd+X.length<=L.length)
  (hK:∀ w',RowKg w' g e k (L.take dd ++ X ++ L.drop (dd+X.length))->w.grownBy w' (some g)->w'.heap.size=w.heap.size->wpList P ops Q rest (a.put o.dst (goInt X.length)) w'):wpList P ops Q (o :: rest) a w:=
 BigFrame.wpList_want hw fun K hKK=>copy_k_op w d x t hop e k hu hs g dd dk dLen dCap L hr hd hdk A sLen sCap hx X hX h1 hn hsrc hfit (fun w' a b c=>hKK _ _ (hK w' a b c))
theorem step_copy_k {ops:Array Oper}{o:Oper}{a:Act}{w:World}{K:Act->World->Prop}{Q:Exit->Act->World->Prop}{E:Prop}(hg:o.guard=none)(d x:Operand)(t:TypeId)(hop:o.op=Op.call { callee:=Callee.builtin Builtin.copy,args:=#[d,x],argTypes:=#[t,t] })
  (e:TypeId) (k:Nat)(hu:P.underlying t=some (.slice e))(hs:(P.info? e).map (·.size)=some k) (g dd dk dLen dCap:Nat)(L:List (List Value))(hr:RowKg w g e k L)(hd:a.eval d = .slice (some ⟨g,dk,none⟩) dLen dCap)(hdk:dk=dd * k)
  (A:Addr) (sLen sCap:Nat)(hx:a.eval x = .slice (some A) sLen sCap)(X:List (List Value))(hX:∀ x ∈ X,x.length=k)(h1:∀ x ∈ X,∀ u ∈ x,u.oneCell' = true)
  (hn:X.length=Nat.min sLen dLen)(hsrc:∀ j u,X.flatten[j]? = some u->w.cell? (A.add j)=some u)(hfit:dd+X.length<=L.length)
  (hK:∀ w',RowKg w' g e k (L.take dd ++ X ++ L.drop (dd+X.length))->w.grownBy w' (some g)->w'.heap.size=w.heap.size->K (a.put o.dst (goInt X.length)) w') :
  if Region.wanted o (yielded ops a.tmps)=true then Oper.wp P o a w K Q else E:=by
 rw [if_pos (by simp [Region.wanted,hg])]
 exact copy_k_op w d x t hop e k hu hs g dd dk dLen dCap L hr hd hdk A sLen sCap hx X hX h1 hn hsrc hfit hK
theorem made_k {ops:Array Oper}{rest:List Oper}(w:World){o:Oper}{a:Act}{Q:Exit->Act->World->Prop}(hw:Region.wanted o (yielded ops a.tmps)=true)(s x:Operand)(t tn:TypeId)(hop:o.op=Op.call { callee:=Callee.builtin Builtin.append,args:=#[s,x],argTypes:=#[t,tn] })
  (e:TypeId)(z:Value) (k b:Nat)(kn kq:IntKind)(ht:P.underlying t=some (.slice e))(htn:P.underlying tn=some (.int kn))(h2:(P.info? e).map (fun i=>(i.zero,i.size,i.bytes))=some (some z,k,b))(hz:z.cells.size=k)(hk:0<k)
  (A:Addr) (n c m:Nat)(l:List (List Value))(hs:a.eval s = .slice (some A) n c) (M:Int)(hx:a.eval x = .int kq M)(hM:M=(m:Int))(hl:∀ x ∈ l,x.length=k)(hn:n=l.length)(hsrc:∀ j u,l.flatten[j]? = some u->w.cell? (A.add j)=some u)
  (nm:Nat)(hnm:n+m=nm)(h0:0<m)(hroom:c<n+m)(hmax:n+m<=maxLen)(hbig:(n+m) * b<=140737488355328)
  (hK:∀ w' G S,RowKg w' w.heap.size e k (l ++ S)->n+S.length=G->nm<=G->G<=maxLen->w.grownBy w' none->w'.heap.size=w.heap.size+1->wpList P ops Q rest (a.put o.dst (.slice (some ⟨w.heap.size,0,none⟩) nm G)) w'):wpList P ops Q (o :: rest) a w:=
 BigFrame.wpList_want hw fun K hKK=>by
  subst hM hnm
  obtain ⟨w',G,S,hrun,r1,r2,r3,r4,r5,r6⟩:=run_made_k (P:=P) w t tn o.type e z k b kn kq ht htn h2 hz hk A n c m l hl hn hsrc h0 hroom hmax hbig
  unfold Oper.wp
  simp [execOp,hop,resolve,invoke,builtin,hs,hx,hrun,Result.andThen]
  exact hKK _ _ (hK w' G S r1 r2 r3 r4 r5 r6)
end
end
section
open Go.RowKit
theorem run_apart {P:Program}{w:World}(tS tR e:TypeId)(ht:P.underlying tS=some (.slice e)) (size:Nat)(hz:(P.info? e).map (·.size)=some size)
  (a b:Addr) (la ca lb cb:Nat)(hne:a.block ≠ b.block)(tA:TypeId)(cs:Array Value)(ha:Bk w a.block tA cs)(L:List (List Value)) (k:Nat)(hb:RowKg w b.block e k L)(hL:0<L.length)(hk:0<k) :
  (Extern.SlicesOverlaps.overlaps #[tS,tS] #[tR] #[.slice (some a) la ca,.slice (some b) lb cb]).run P w = .ok (.bool false) w:=by
 have hl:L.flatten.toArray.size ≠ 0:=by
  rw [List.size_toArray,flat_length hb.each]
  exact Nat.ne_of_gt (Nat.mul_pos hL hk)
 have hA:w.heap[a.block]? = some (.cells cs tA (0,0)):=ha
 refine Lib.run_overlaps_apart w tS tR e ht size (fun w=>?_) a b la ca lb cb hne tA e cs.size L.flatten.toArray.size (by simp [World.shape?,hA]) (by simp [World.shape?,hb.row]) hl (by simp [World.frozen?,hA]) (by simp [World.frozen?,hA])
 cases hq:P.info? e with
 | none=>simp [hq] at hz
 | some i=>
  have hi:i.size=size:=by simpa [hq] using hz
  simp [sizeOf,typeInfo,hq,hi]
theorem mid_room {l S:List (List Value)}{x:List Value}{n i:Nat}(hl:l.length=n)(hi:i<n)(hS:0<S.length) :
  (((l ++ S).take (i+1) ++ l.drop i ++ (l ++ S).drop (i+1+(l.drop i).length)).take i ++ [x] ++ ((l ++ S).take (i+1) ++ l.drop i ++ (l ++ S).drop (i+1+(l.drop i).length)).drop (i+[x].length)).take (n+1)=l.take i ++ x :: l.drop i:=by
 have e1:((l ++ S).take (i+1) ++ l.drop i ++ (l ++ S).drop (i+1+(l.drop i).length)).take i=l.take i:=by
  rw [List.append_assoc,List.take_append_of_le_length (by rw [List.length_take,List.length_append];omega),List.take_take,Nat.min_eq_left (by omega),List.take_append_of_le_length (by omega)]
 have e2:((l ++ S).take (i+1) ++ l.drop i ++ (l ++ S).drop (i+1+(l.drop i).length)).drop (i+[x].length)=l.drop i ++ (l ++ S).drop (i+1+(l.drop i).length):=by
  rw [List.append_assoc,List.drop_append_of_le_length (by rw [List.length_take,List.length_append,List.length_singleton];omega),List.drop_of_length_le (by rw [List.length_take,List.length_append,List.length_singleton];omega),List.nil_append]
 rw [e1,e2,<- List.append_assoc,List.append_assoc (l.take i),List.take_append_of_le_length (by simp only [List.length_append,List.length_take,List.length_drop,List.length_singleton];omega),List.take_of_length_le (by simp only [List.length_append,List.length_take,List.length_drop,List.length_singleton];omega)]
 simp
theorem mid_grow {l S:List (List Value)}{x:List Value}{n i:Nat}(hl:l.length=n)(hi:i<n)(hS:n+1<=i+S.length) :
  (((l.take i ++ S).take i ++ [x] ++ (l.take i ++ S).drop (i+[x].length)).take (i+1) ++ l.drop i ++ ((l.take i ++ S).take i ++ [x] ++ (l.take i ++ S).drop (i+[x].length)).drop (i+1+(l.drop i).length)).take (n+1)=l.take i ++ x :: l.drop i:=by
 have e0:(l.take i ++ S).take i=l.take i:=by
  rw [List.take_append_of_le_length (by rw [List.length_take];omega),List.take_take,Nat.min_self]
 have e1:((l.take i ++ S).take i ++ [x] ++ (l.take i ++ S).drop (i+[x].length)).take (i+1)=l.take i ++ [x]:=by
  rw [e0,List.take_append_of_le_length (by simp only [List.length_append,List.length_take,List.length_singleton];omega),List.take_of_length_le (by simp only [List.length_append,List.length_take,List.length_singleton];omega)]
 rw [e1,List.take_append_of_le_length (by simp only [List.length_append,List.length_take,List.length_drop,List.length_singleton];omega),List.take_of_length_le (by simp only [List.length_append,List.length_take,List.length_drop,List.length_singleton];omega)]
 simp


theorem insertQ_room (base g n c i:Nat)(l S:List (List Value))(x:List Value)(ad:Addr) (cv:Nat)(tA:TypeId)(cs:Array Value)(w:World)(hl:Hid (l.length=n))(hbig:n<=1000)(hi:i<n)(hR:Hid (RowKg w g 45 4 (l ++ S)))(hS:Hid (n+S.length=c))(hbg:Hid (base<=g))(hc:n<c)(hc2:c<=9223372036854775807)(hc3:Hid (c<=maxLen))
  (h1:Hid (∀ x ∈ l,∀ u ∈ x,u.oneCell' = true))(hx:Hid (x.length=4 /\ ∀ u ∈ x,u.oneCell' = true))(hr:Hid (RdK w 4 (some ad) [x]))(hA:Hid (Bk w ad.block tA cs))(hne:Hid (ad.block ≠ g)) :
  Calls Tryz.prog 128 #[.slice (some ⟨g,0,none⟩) n c,.int .i64 i,.slice (some ad) 1 cv] w fun e w'=>e = .returned (.slice (some ⟨g,0,none⟩) (n+1) c)/\OwnK w' base 45 4 (.slice (some ⟨g,0,none⟩) (n+1) c) (l.take i ++ x :: l.drop i)/\w.grownBy w' (some g)/\w'.heap.size=w.heap.size:=by
 have hov:∀ o lb cb,(callFunc 163 #[.slice (some ad) 1 cv,.slice (some ⟨g,o,none⟩) lb cb]).run Tryz.prog w = .ok (.value (.bool false)) w:=fun o lb cb=>by
  rw [run_callFunc_extern Tryz.func163 (by kernel_rfl) (by kernel_rfl) (by kernel_rfl) (e:=Extern.SlicesOverlaps.overlaps #[28,28] #[4]) (by kernel_rfl),
   run_apart 28 4 45 Tryz.underlying28 4 (by kernel_rfl) ad ⟨g,o,none⟩ 1 cv lb cb hne.out tA cs hA.out (l ++ S) 4 hR.out (by rw [List.length_append];have:=hl.out;omega) (by decide)]
  rfl
 have hmid:=Lib.hid (mid_room (S:=S) (x:=x) hl.out hi (by have:=hS.out;omega):_=l.take i ++ x :: l.drop i)
 have hL:Hid ((l ++ S).length=c):=by show _=_;rw [List.length_append,hl.out];exact hS.out
 have hD:Hid ((l.drop i).length=n - i):=by show _=_;rw [List.length_drop,hl.out]
 have hP:Hid (∀ j u,(l.drop i).flatten[j]? = some u->w.cell? ((⟨g,i * 4,none⟩:Addr).add j)=some u):=by
  have:=hR.out.part i (n - i)
  rw [List.drop_append_of_le_length (by have:=hl.out;omega),List.take_append_of_le_length (by rw [hD.out];exact Nat.le_refl _),List.take_of_length_le (by rw [hD.out];exact Nat.le_refl _)] at this
  exact this
 have hw1:IntKind.i64.wrap ((i:Int)+1)=(i:Int)+1:=by rw [IntKind.wrap_i64];omega
 have hb1:(0:Int)<=(i:Int)+1:=by omega
 have hin:i<=n:=by omega
 have htn:((i:Int)+1).toNat=i+1:=by omega
 have hb2:¬ (c=i+1):=by omega
 have hb3:(i:Int)<=(n:Int)+1:=by omega
 have hb4:¬ (c=i):=by omega
 have hsr:∀ (W:World),w.grownBy W (some g) -> ∀ j u,[x].flatten[j]? = some u->W.cell? (ad.add j)=some u:=fun W hg=>by
  have hne':=hne.out
  have hrd:=hr.out
  refine RdK.cells (k:=4) (fun i y hy=>?_) (fun y hy=>by rw [List.mem_singleton.1 hy];exact hx.out.1)
  obtain ⟨g',o,ha,hra⟩:=hrd i y hy
  refine ⟨g',o,ha,fun j v hv=>hg.cell (hra j v hv) ?_⟩
  injection ha with ha
  subst ha
  intro e
  injection e with e
  exact hne' e
 have hsr':=Lib.hid hsr
 clear hsr
 go_enter Tryz.func128,Tryz.ntmps128
 go_wp2_with (simp only [hov])
 go_region_law (refine step_copy_k rfl (.tmp 73) (.tmp 76) 28 rfl 45 4 Tryz.underlying28 (by kernel_rfl) g (i+1) ((i+1) * 4) (n+1 - (i+1)) (c - (i+1)) (l ++ S) hR.out.drew (by simp [Act.eval,Act.put]) rfl ⟨g,i * 4,none⟩ (n+1 - i) (c - i) (by simp [Act.eval,Act.put]) (l.drop i) (fun y hy=>hR.out.each y (List.mem_append_left _ (List.mem_of_mem_drop hy))) (fun y hy=>h1.out y (List.mem_of_mem_drop hy)) (by rw [hD.out];show _=min _ _;omega) hP.out (by rw [hD.out,hL.out];omega) ?_;intro w1 r1 g1 z1)
 have T:=Lib.hid (drew_grown g1)
 have R1:=Lib.hid r1
 have Z1:Hid (w1.heap.size=w.heap.size):=z1
 clear g1 r1 z1
 go_wp2_with (first | (with_reducible refine copy_k _ rfl (.tmp 80) (.tmp 81) 28 rfl 45 4 Tryz.underlying28 (by kernel_rfl) g i (i * 4) (n+1 - i) (c - i) _ R1.out rfl rfl ad 1 cv rfl [x] (fun y hy=>by rw [List.mem_singleton.1 hy];exact hx.out.1) (fun y hy=>by rw [List.mem_singleton.1 hy];exact hx.out.2) (by rw [List.length_singleton];show _=min _ _;omega) (hsr'.out _ T.out) (by have h1:=hL.out;have h2:=hD.out;have h3:=hl.out;have h4:=hS.out;simp only [List.length_append,List.length_take,List.length_drop,List.length_singleton] at *;omega) ?_;intro w2 r2 g2 z2))
 all_goals go_ret
 all_goals
  have q:=r2.own (n:=n+1) (c:=c) hbg.out (by have h1:=hL.out;have h2:=hD.out;have h3:=hl.out;have h4:=hS.out;simp only [List.length_append,List.length_take,List.length_drop,List.length_singleton] at *;omega) hc3.out (by omega)
  rw [hmid.out] at q
  exact ⟨rfl,q,⟨g2.os.trans T.out.os,g2.tape.trans T.out.tape,g2.output.trans T.out.output,Nat.le_trans T.out.size g2.size,fun k hk hn=>(g2.block k (Nat.lt_of_lt_of_le hk T.out.size) hn).trans (T.out.block k hk hn)⟩,z2.trans Z1.out⟩


theorem insertQ_grow (base g n i:Nat)(l:List (List Value))(x:List Value)(ad:Addr) (cv:Nat)(w:World)(hl:Hid (l.length=n))(hbig:n<=1000)(hi:i<n)(hR:Hid (RowKg w g 45 4 l))(hbg:Hid (base<=w.heap.size))(hgl:Hid (g<w.heap.size))(hal:Hid (ad.block<w.heap.size))
  (h1:Hid (∀ x ∈ l,∀ u ∈ x,u.oneCell' = true))(hx:Hid (x.length=4 /\ ∀ u ∈ x,u.oneCell' = true))(hr:Hid (RdK w 4 (some ad) [x])) :
  Calls Tryz.prog 128 #[.slice (some ⟨g,0,none⟩) n n,.int .i64 i,.slice (some ad) 1 cv] w fun e w'=>∃ c,e = .returned (.slice (some ⟨w.heap.size,0,none⟩) (n+1) c)/\OwnK w' base 45 4 (.slice (some ⟨w.heap.size,0,none⟩) (n+1) c) (l.take i ++ x :: l.drop i)/\w.grownBy w' none/\w'.heap.size=w.heap.size+1:=by
 have hne1:((i:Int) == (n:Int))=false:=by simp;omega
 have hD:Hid ((l.drop i).length=n - i):=by show _=_;rw [List.length_drop,hl.out]
 have hT:Hid ((l.take i).length=i):=by show _=_;rw [List.length_take,hl.out];omega
 have hP:Hid (∀ (W:World),w.grownBy W none -> ∀ j u,(l.drop i).flatten[j]? = some u->W.cell? ((⟨g,i * 4,none⟩:Addr).add j)=some u):=fun W hg j u hu=>by
  have:=hR.out.part i (n - i)
  rw [List.take_of_length_le (by rw [hD.out];exact Nat.le_refl _)] at this
  have h:=this j u hu
  rw [Addr.add_lit] at h ⊢
  exact hg.cell h (by simp)
 have hsr:Hid (∀ (W:World),w.grownBy W none -> ∀ j u,[x].flatten[j]? = some u->W.cell? (ad.add j)=some u):=fun W hg=>by
  have hrd:=hr.out
  refine RdK.cells (k:=4) (fun i y hy=>?_) (fun y hy=>by rw [List.mem_singleton.1 hy];exact hx.out.1)
  obtain ⟨g',o,ha,hra⟩:=hrd i y hy
  exact ⟨g',o,ha,fun j v hv=>hg.cell (hra j v hv) (by simp)⟩
 have hQ:Hid (∀ j u,(l.take i).flatten[j]? = some u->w.cell? ((⟨g,0,none⟩:Addr).add j)=some u):=by
  have:=hR.out.part 0 i
  rw [Nat.zero_mul,List.drop_zero] at this
  exact this
 have hw1:IntKind.i64.wrap ((i:Int)+1)=(i:Int)+1:=by rw [IntKind.wrap_i64];omega
 have hb1:(0:Int)<=(i:Int)+1:=by omega
 have hin:i<=n:=by omega
 have htn:((i:Int)+1).toNat=i+1:=by omega
 have hb3:(i:Int)<=(n:Int)+1:=by omega
 have hb4:¬ (n=i):=by omega
 have hone:=Lib.hid (fun (W:World)(h:w.grownBy W none)=>h)
 go_enter Tryz.func128,Tryz.ntmps128
 go_wp2_with (first
  | (with_reducible refine made_k _ rfl (.tmp 34) (.tmp 39) 28 3 rfl 45 _ 4 40 .i64 .i64 Tryz.underlying28 (by kernel_rfl) infoQ15 rfl (by omega) ⟨g,0,none⟩ i n (n+1 - i) (l.take i) rfl _ rfl (by omega) (fun y hy=>hR.out.each y (List.mem_of_mem_take hy)) hT.out.symm hQ.out (n+1) (by omega) (by omega) (by omega) (by unfold maxLen;omega) (by omega) ?_;intro w1 G S r1 s1 s2 s3 g1 z1;have hG1:¬ (G=i):=(by omega);have hG2:¬ (G=i+1):=(by omega);have hG3:G<=9223372036854775807:=(by unfold maxLen at s3;omega);have R1:=Lib.hid r1;have S1:=Lib.hid s1;have S3:=Lib.hid s3;have T1:=Lib.hid g1;have Z1:=Lib.hid z1;clear r1 s1 s3 g1 z1)
  | (with_reducible refine copy_k _ rfl (.tmp 43) (.tmp 44) 28 rfl 45 4 Tryz.underlying28 (by kernel_rfl) w.heap.size i (i * 4) (n+1 - i) (G - i) _ R1.out rfl rfl ad 1 cv rfl [x] (fun y hy=>by rw [List.mem_singleton.1 hy];exact hx.out.1) (fun y hy=>by rw [List.mem_singleton.1 hy];exact hx.out.2) (by rw [List.length_singleton];show _=min _ _;omega) (hsr.out _ T1.out) (by have h1:=hT.out;have h4:=S1.out;simp only [List.length_append,List.length_singleton] at *;omega) ?_;intro w2 r2 g2 z2))
 have hlt:=Lib.hid hgl.out
 have T2:Hid (w.grownBy w2 none):=⟨g2.os.trans T1.out.os,g2.tape.trans T1.out.tape,g2.output.trans T1.out.output,Nat.le_trans T1.out.size g2.size,fun k hk hn=>(g2.block k (Nat.lt_of_lt_of_le hk T1.out.size) (by intro e;injection e with e;omega)).trans (T1.out.block k hk hn)⟩
 have R2:=Lib.hid r2
 have Z2:=Lib.hid z2
 clear r2 g2 z2
 go_region_law (refine step_copy_k rfl (.tmp 50) (.tmp 53) 28 rfl 45 4 Tryz.underlying28 (by kernel_rfl) w.heap.size (i+1) ((i+1) * 4) (n+1 - (i+1)) (G - (i+1)) _ R2.out.drew (by simp [Act.eval,Act.put]) rfl ⟨g,i * 4,none⟩ (n - i) (n - i) (by simp [Act.eval,Act.put]) (l.drop i) (fun y hy=>hR.out.each y (List.mem_of_mem_drop hy)) (fun y hy=>h1.out y (List.mem_of_mem_drop hy)) (by rw [hD.out];show _=min _ _;omega) (hP.out w2 T2.out) (by have h1:=hT.out;have h4:=S1.out;have h5:=hD.out;simp only [List.length_append,List.length_take,List.length_drop,List.length_singleton] at *;omega) ?_;intro w3 r3 g3 z3)
 have g3':=drew_grown g3
 go_wp2
 go_ret
 all_goals
  have hlen:=S1.out
  have q:=r3.own (n:=n+1) (c:=G) hbg.out (by have h1:=hT.out;have h4:=S1.out;have h5:=hD.out;simp only [List.length_append,List.length_take,List.length_drop,List.length_singleton] at *;omega) S3.out (by omega)
  rw [mid_grow hl.out hi (by omega)] at q
  exact ⟨G,rfl,q,⟨g3'.os.trans T2.out.os,g3'.tape.trans T2.out.tape,g3'.output.trans T2.out.output,Nat.le_trans T2.out.size g3'.size,fun k hk hn=>(g3'.block k (Nat.lt_of_lt_of_le hk T2.out.size) (by intro e;injection e with e;omega)).trans (T2.out.block k hk hn)⟩,(z3.trans Z2.out).trans Z1.out⟩


theorem insertM_room (base g n c i:Nat)(l S:List (List Value))(x:List Value)(ad:Addr) (cv:Nat)(tA:TypeId)(cs:Array Value)(w:World)(hl:Hid (l.length=n))(hbig:n<=1000)(hi:i<n)(hR:Hid (RowKg w g 60 7 (l ++ S)))(hS:Hid (n+S.length=c))(hbg:Hid (base<=g))(hc:n<c)(hc2:c<=9223372036854775807)(hc3:Hid (c<=maxLen))
  (h1:Hid (∀ x ∈ l,∀ u ∈ x,u.oneCell' = true))(hx:Hid (x.length=7 /\ ∀ u ∈ x,u.oneCell' = true))(hr:Hid (RdK w 7 (some ad) [x]))(hA:Hid (Bk w ad.block tA cs))(hne:Hid (ad.block ≠ g)) :
  Calls Tryz.prog 124 #[.slice (some ⟨g,0,none⟩) n c,.int .i64 i,.slice (some ad) 1 cv] w fun e w'=>e = .returned (.slice (some ⟨g,0,none⟩) (n+1) c)/\OwnK w' base 60 7 (.slice (some ⟨g,0,none⟩) (n+1) c) (l.take i ++ x :: l.drop i)/\w.grownBy w' (some g)/\w'.heap.size=w.heap.size:=by
 have hov:∀ o lb cb,(callFunc 160 #[.slice (some ad) 1 cv,.slice (some ⟨g,o,none⟩) lb cb]).run Tryz.prog w = .ok (.value (.bool false)) w:=fun o lb cb=>by
  rw [run_callFunc_extern Tryz.func160 (by kernel_rfl) (by kernel_rfl) (by kernel_rfl) (e:=Extern.SlicesOverlaps.overlaps #[27,27] #[4]) (by kernel_rfl),
   run_apart 27 4 60 Tryz.underlying27 7 (by kernel_rfl) ad ⟨g,o,none⟩ 1 cv lb cb hne.out tA cs hA.out (l ++ S) 7 hR.out (by rw [List.length_append];have:=hl.out;omega) (by decide)]
  rfl
 have hmid:=Lib.hid (mid_room (S:=S) (x:=x) hl.out hi (by have:=hS.out;omega):_=l.take i ++ x :: l.drop i)
 have hL:Hid ((l ++ S).length=c):=by show _=_;rw [List.length_append,hl.out];exact hS.out
 have hD:Hid ((l.drop i).length=n - i):=by show _=_;rw [List.length_drop,hl.out]
 have hP:Hid (∀ j u,(l.drop i).flatten[j]? = some u->w.cell? ((⟨g,i * 7,none⟩:Addr).add j)=some u):=by
  have:=hR.out.part i (n - i)
  rw [List.drop_append_of_le_length (by have:=hl.out;omega),List.take_append_of_le_length (by rw [hD.out];exact Nat.le_refl _),List.take_of_length_le (by rw [hD.out];exact Nat.le_refl _)] at this
  exact this
 have hw1:IntKind.i64.wrap ((i:Int)+1)=(i:Int)+1:=by rw [IntKind.wrap_i64];omega
 have hb1:(0:Int)<=(i:Int)+1:=by omega
 have hin:i<=n:=by omega
 have htn:((i:Int)+1).toNat=i+1:=by omega
 have hb2:¬ (c=i+1):=by omega
 have hb3:(i:Int)<=(n:Int)+1:=by omega
 have hb4:¬ (c=i):=by omega
 have hsr:∀ (W:World),w.grownBy W (some g) -> ∀ j u,[x].flatten[j]? = some u->W.cell? (ad.add j)=some u:=fun W hg=>by
  have hne':=hne.out
  have hrd:=hr.out
  refine RdK.cells (k:=7) (fun i y hy=>?_) (fun y hy=>by rw [List.mem_singleton.1 hy];exact hx.out.1)
  obtain ⟨g',o,ha,hra⟩:=hrd i y hy
  refine ⟨g',o,ha,fun j v hv=>hg.cell (hra j v hv) ?_⟩
  injection ha with ha
  subst ha
  intro e
  injection e with e
  exact hne' e
 have hsr':=Lib.hid hsr
 clear hsr
 go_enter Tryz.func124,Tryz.ntmps124
 go_wp2_with (simp only [hov])
 go_region_law (refine step_copy_k rfl (.tmp 73) (.tmp 76) 27 rfl 60 7 Tryz.underlying27 (by kernel_rfl) g (i+1) ((i+1) * 7) (n+1 - (i+1)) (c - (i+1)) (l ++ S) hR.out.drew (by simp [Act.eval,Act.put]) rfl ⟨g,i * 7,none⟩ (n+1 - i) (c - i) (by simp [Act.eval,Act.put]) (l.drop i) (fun y hy=>hR.out.each y (List.mem_append_left _ (List.mem_of_mem_drop hy))) (fun y hy=>h1.out y (List.mem_of_mem_drop hy)) (by rw [hD.out];show _=min _ _;omega) hP.out (by rw [hD.out,hL.out];omega) ?_;intro w1 r1 g1 z1)
 have T:=Lib.hid (drew_grown g1)
 have R1:=Lib.hid r1
 have Z1:Hid (w1.heap.size=w.heap.size):=z1
 clear g1 r1 z1
 go_wp2_with (first | (with_reducible refine copy_k _ rfl (.tmp 80) (.tmp 81) 27 rfl 60 7 Tryz.underlying27 (by kernel_rfl) g i (i * 7) (n+1 - i) (c - i) _ R1.out rfl rfl ad 1 cv rfl [x] (fun y hy=>by rw [List.mem_singleton.1 hy];exact hx.out.1) (fun y hy=>by rw [List.mem_singleton.1 hy];exact hx.out.2) (by rw [List.length_singleton];show _=min _ _;omega) (hsr'.out _ T.out) (by have h1:=hL.out;have h2:=hD.out;have h3:=hl.out;have h4:=hS.out;simp only [List.length_append,List.length_take,List.length_drop,List.length_singleton] at *;omega) ?_;intro w2 r2 g2 z2))
 all_goals go_ret
 all_goals
  have q:=r2.own (n:=n+1) (c:=c) hbg.out (by have h1:=hL.out;have h2:=hD.out;have h3:=hl.out;have h4:=hS.out;simp only [List.length_append,List.length_take,List.length_drop,List.length_singleton] at *;omega) hc3.out (by omega)
  rw [hmid.out] at q
  exact ⟨rfl,q,⟨g2.os.trans T.out.os,g2.tape.trans T.out.tape,g2.output.trans T.out.output,Nat.le_trans T.out.size g2.size,fun k hk hn=>(g2.block k (Nat.lt_of_lt_of_le hk T.out.size) hn).trans (T.out.block k hk hn)⟩,z2.trans Z1.out⟩


theorem insertM_grow (base g n i:Nat)(l:List (List Value))(x:List Value)(ad:Addr) (cv:Nat)(w:World)(hl:Hid (l.length=n))(hbig:n<=1000)(hi:i<n)(hR:Hid (RowKg w g 60 7 l))(hbg:Hid (base<=w.heap.size))(hgl:Hid (g<w.heap.size))(hal:Hid (ad.block<w.heap.size))
  (h1:Hid (∀ x ∈ l,∀ u ∈ x,u.oneCell' = true))(hx:Hid (x.length=7 /\ ∀ u ∈ x,u.oneCell' = true))(hr:Hid (RdK w 7 (some ad) [x])) :
  Calls Tryz.prog 124 #[.slice (some ⟨g,0,none⟩) n n,.int .i64 i,.slice (some ad) 1 cv] w fun e w'=>∃ c,e = .returned (.slice (some ⟨w.heap.size,0,none⟩) (n+1) c)/\OwnK w' base 60 7 (.slice (some ⟨w.heap.size,0,none⟩) (n+1) c) (l.take i ++ x :: l.drop i)/\w.grownBy w' none/\w'.heap.size=w.heap.size+1:=by
 have hne1:((i:Int) == (n:Int))=false:=by simp;omega
 have hD:Hid ((l.drop i).length=n - i):=by show _=_;rw [List.length_drop,hl.out]
 have hT:Hid ((l.take i).length=i):=by show _=_;rw [List.length_take,hl.out];omega
 have hP:Hid (∀ (W:World),w.grownBy W none -> ∀ j u,(l.drop i).flatten[j]? = some u->W.cell? ((⟨g,i * 7,none⟩:Addr).add j)=some u):=fun W hg j u hu=>by
  have:=hR.out.part i (n - i)
  rw [List.take_of_length_le (by rw [hD.out];exact Nat.le_refl _)] at this
  have h:=this j u hu
  rw [Addr.add_lit] at h ⊢
  exact hg.cell h (by simp)
 have hsr:Hid (∀ (W:World),w.grownBy W none -> ∀ j u,[x].flatten[j]? = some u->W.cell? (ad.add j)=some u):=fun W hg=>by
  have hrd:=hr.out
  refine RdK.cells (k:=7) (fun i y hy=>?_) (fun y hy=>by rw [List.mem_singleton.1 hy];exact hx.out.1)
  obtain ⟨g',o,ha,hra⟩:=hrd i y hy
  exact ⟨g',o,ha,fun j v hv=>hg.cell (hra j v hv) (by simp)⟩
 have hQ:Hid (∀ j u,(l.take i).flatten[j]? = some u->w.cell? ((⟨g,0,none⟩:Addr).add j)=some u):=by
  have:=hR.out.part 0 i
  rw [Nat.zero_mul,List.drop_zero] at this
  exact this
 have hw1:IntKind.i64.wrap ((i:Int)+1)=(i:Int)+1:=by rw [IntKind.wrap_i64];omega
 have hb1:(0:Int)<=(i:Int)+1:=by omega
 have hin:i<=n:=by omega
 have htn:((i:Int)+1).toNat=i+1:=by omega
 have hb3:(i:Int)<=(n:Int)+1:=by omega
 have hb4:¬ (n=i):=by omega
 have hone:=Lib.hid (fun (W:World)(h:w.grownBy W none)=>h)
 go_enter Tryz.func124,Tryz.ntmps124
 go_wp2_with (first
  | (with_reducible refine made_k _ rfl (.tmp 34) (.tmp 39) 27 3 rfl 60 _ 7 80 .i64 .i64 Tryz.underlying27 (by kernel_rfl) infoM15 rfl (by omega) ⟨g,0,none⟩ i n (n+1 - i) (l.take i) rfl _ rfl (by omega) (fun y hy=>hR.out.each y (List.mem_of_mem_take hy)) hT.out.symm hQ.out (n+1) (by omega) (by omega) (by omega) (by unfold maxLen;omega) (by omega) ?_;intro w1 G S r1 s1 s2 s3 g1 z1;have hG1:¬ (G=i):=(by omega);have hG2:¬ (G=i+1):=(by omega);have hG3:G<=9223372036854775807:=(by unfold maxLen at s3;omega);have R1:=Lib.hid r1;have S1:=Lib.hid s1;have S3:=Lib.hid s3;have T1:=Lib.hid g1;have Z1:=Lib.hid z1;clear r1 s1 s3 g1 z1)
  | (with_reducible refine copy_k _ rfl (.tmp 43) (.tmp 44) 27 rfl 60 7 Tryz.underlying27 (by kernel_rfl) w.heap.size i (i * 7) (n+1 - i) (G - i) _ R1.out rfl rfl ad 1 cv rfl [x] (fun y hy=>by rw [List.mem_singleton.1 hy];exact hx.out.1) (fun y hy=>by rw [List.mem_singleton.1 hy];exact hx.out.2) (by rw [List.length_singleton];show _=min _ _;omega) (hsr.out _ T1.out) (by have h1:=hT.out;have h4:=S1.out;simp only [List.length_append,List.length_singleton] at *;omega) ?_;intro w2 r2 g2 z2))
 have hlt:=Lib.hid hgl.out
 have T2:Hid (w.grownBy w2 none):=⟨g2.os.trans T1.out.os,g2.tape.trans T1.out.tape,g2.output.trans T1.out.output,Nat.le_trans T1.out.size g2.size,fun k hk hn=>(g2.block k (Nat.lt_of_lt_of_le hk T1.out.size) (by intro e;injection e with e;omega)).trans (T1.out.block k hk hn)⟩
 have R2:=Lib.hid r2
 have Z2:=Lib.hid z2
 clear r2 g2 z2
 go_region_law (refine step_copy_k rfl (.tmp 50) (.tmp 53) 27 rfl 60 7 Tryz.underlying27 (by kernel_rfl) w.heap.size (i+1) ((i+1) * 7) (n+1 - (i+1)) (G - (i+1)) _ R2.out.drew (by simp [Act.eval,Act.put]) rfl ⟨g,i * 7,none⟩ (n - i) (n - i) (by simp [Act.eval,Act.put]) (l.drop i) (fun y hy=>hR.out.each y (List.mem_of_mem_drop hy)) (fun y hy=>h1.out y (List.mem_of_mem_drop hy)) (by rw [hD.out];show _=min _ _;omega) (hP.out w2 T2.out) (by have h1:=hT.out;have h4:=S1.out;have h5:=hD.out;simp only [List.length_append,List.length_take,List.length_drop,List.length_singleton] at *;omega) ?_;intro w3 r3 g3 z3)
 have g3':=drew_grown g3
 go_wp2
 go_ret
 all_goals
  have hlen:=S1.out
  have q:=r3.own (n:=n+1) (c:=G) hbg.out (by have h1:=hT.out;have h4:=S1.out;have h5:=hD.out;simp only [List.length_append,List.length_take,List.length_drop,List.length_singleton] at *;omega) S3.out (by omega)
  rw [mid_grow hl.out hi (by omega)] at q
  exact ⟨G,rfl,q,⟨g3'.os.trans T2.out.os,g3'.tape.trans T2.out.tape,g3'.output.trans T2.out.output,Nat.le_trans T2.out.size g3'.size,fun k hk hn=>(g3'.block k (Nat.lt_of_lt_of_le hk T2.out.size) (by intro e;injection e with e;omega)).trans (T2.out.block k hk hn)⟩,(z3.trans Z2.out).trans Z1.out⟩

theorem insertQ_any (base:Nat)(v:Value)(L:List Qx)(q:Qx) (i:Nat)(ad:Addr) (cv:Nat)(w:World)(hbig:L.length<=1000)(hi:i<=L.length)(hO:Hid (OwnK w base 45 4 v (cellsQ L)))(hr:Hid (RdK w 4 (some ad) (cellsQ [q])))(hA:Hid (∃ t cs,Bk w ad.block t cs))(hne:Hid (∀ g,v.ownBlock=some g->ad.block ≠ g))(hb:base<=w.heap.size) :
  Calls Tryz.prog 128 #[v,.int .i64 i,.slice (some ad) 1 cv] w fun e w'=>(∃ v',e = .returned v' /\ OwnK w' base 45 4 v' (cellsQ (L.take i ++ q :: L.drop i))/\(v'.ownBlock=v.ownBlock ∨ v'.ownBlock=some w.heap.size))/\w.grownBy w' v.ownBlock:=by
 by_cases hil:i=L.length
 ·subst hil
  rw [List.take_length,List.drop_length]
  exact insertQ_end base v L q ad cv L.length w (show _=_ from rfl) hbig hO hr hb
 ·have hlt:i<L.length:=by omega
  have hcl:(cellsQ L).length=L.length:=cellsQ_length L
  have hx1':cellsQ [q]=[Qx.cells q]:=rfl
  obtain ⟨x,hx⟩:∃ x,x=Qx.cells q:=⟨_,rfl⟩
  have hx1:cellsQ [q]=[x]:=by rw [hx];rfl
  have hcc:cellsQ (L.take i ++ q :: L.drop i)=(cellsQ L).take i ++ x :: (cellsQ L).drop i:=by rw [hx];simp [cellsQ,List.map_take,List.map_drop]
  clear hx1' hx
  have hxx:x.length=4 /\ ∀ u ∈ x,u.oneCell' = true:=⟨cellsQ_k [q] x (by rw [hx1];simp),cellsQ_one [q] x (by rw [hx1];simp)⟩
  rw [hx1] at hr
  obtain ⟨A,c,hv,_,hc1,hc2,hnw⟩:=hO.out.sl
  rw [hcl] at hv hc1
  cases A with
  | none=>
   exfalso
   rcases hO.out.2.2 with ⟨hv',h0⟩ | ⟨g,cap,cur,hv',_⟩
   ·omega
   ·rw [hv] at hv';injection hv' with e;cases e
  | some a=>
   obtain ⟨g,rfl⟩:∃ g,a=⟨g,0,none⟩:=by
    rcases hO.out.2.2 with ⟨hv',h0⟩ | ⟨g,cap,cur,hv',_⟩
    ·omega
    ·rw [hv] at hv';injection hv' with e;injection e with e;exact ⟨g,e⟩
   subst hv
   obtain ⟨S,hR,hS,_,hc3,hbg⟩:=OwnK.whole (l:=cellsQ L) hO.out
   rw [hcl] at hS
   obtain ⟨tA,cs,hA'⟩:=hA.out
   have hgl:=(hnw g 0 none rfl).2
   by_cases hc:L.length<c
   ·refine (insertQ_room base g L.length c i (cellsQ L) S x ad cv tA cs w hcl hbig hlt hR hS hbg hc (by unfold maxLen at hc3;omega) hc3 (cellsQ_one L) hxx hr hA' (hne.out g rfl)).mono ?_
    rintro e w' ⟨rfl,h1,h2,_⟩
    exact ⟨⟨_,rfl,by rw [hcc];exact h1,.inl rfl⟩,h2⟩
   ·have hce:c=L.length:=by omega
    subst hce
    have hS0:S=[]:=List.length_eq_zero_iff.1 (by omega)
    subst hS0
    rw [List.append_nil] at hR
    refine (insertQ_grow base g L.length i (cellsQ L) x ad cv w hcl hbig hlt hR hb hgl (Array.getElem?_eq_some_iff.1 hA').1 (cellsQ_one L) hxx hr).mono ?_
    rintro e w' ⟨c,rfl,h1,h2,_⟩
    exact ⟨⟨_,rfl,by rw [hcc];exact h1,.inr rfl⟩,h2.os,h2.tape,h2.output,h2.size,fun k hk hn=>h2.block k hk (by simp)⟩

theorem insertM_any (base:Nat)(v:Value)(L:List Mc)(q:Mc) (i:Nat)(ad:Addr) (cv:Nat)(w:World)(hbig:L.length<=1000)(hi:i<=L.length)(hO:Hid (OwnK w base 60 7 v (cellsM L)))(hr:Hid (RdK w 7 (some ad) (cellsM [q])))(hA:Hid (∃ t cs,Bk w ad.block t cs))(hne:Hid (∀ g,v.ownBlock=some g->ad.block ≠ g))(hb:base<=w.heap.size) :
  Calls Tryz.prog 124 #[v,.int .i64 i,.slice (some ad) 1 cv] w fun e w'=>(∃ v',e = .returned v' /\ OwnK w' base 60 7 v' (cellsM (L.take i ++ q :: L.drop i))/\(v'.ownBlock=v.ownBlock ∨ v'.ownBlock=some w.heap.size))/\w.grownBy w' v.ownBlock:=by
 by_cases hil:i=L.length
 ·subst hil
  rw [List.take_length,List.drop_length]
  exact insertM_end base v L q ad cv L.length w (show _=_ from rfl) hbig hO hr hb
 ·have hlt:i<L.length:=by omega
  have hcl:(cellsM L).length=L.length:=cellsM_length L
  have hx1':cellsM [q]=[Mc.cells q]:=rfl
  obtain ⟨x,hx⟩:∃ x,x=Mc.cells q:=⟨_,rfl⟩
  have hx1:cellsM [q]=[x]:=by rw [hx];rfl
  have hcc:cellsM (L.take i ++ q :: L.drop i)=(cellsM L).take i ++ x :: (cellsM L).drop i:=by rw [hx];simp [cellsM,List.map_take,List.map_drop]
  clear hx1' hx
  have hxx:x.length=7 /\ ∀ u ∈ x,u.oneCell' = true:=⟨cellsM_k [q] x (by rw [hx1];simp),cellsM_one [q] x (by rw [hx1];simp)⟩
  rw [hx1] at hr
  obtain ⟨A,c,hv,_,hc1,hc2,hnw⟩:=hO.out.sl
  rw [hcl] at hv hc1
  cases A with
  | none=>
   exfalso
   rcases hO.out.2.2 with ⟨hv',h0⟩ | ⟨g,cap,cur,hv',_⟩
   ·omega
   ·rw [hv] at hv';injection hv' with e;cases e
  | some a=>
   obtain ⟨g,rfl⟩:∃ g,a=⟨g,0,none⟩:=by
    rcases hO.out.2.2 with ⟨hv',h0⟩ | ⟨g,cap,cur,hv',_⟩
    ·omega
    ·rw [hv] at hv';injection hv' with e;injection e with e;exact ⟨g,e⟩
   subst hv
   obtain ⟨S,hR,hS,_,hc3,hbg⟩:=OwnK.whole (l:=cellsM L) hO.out
   rw [hcl] at hS
   obtain ⟨tA,cs,hA'⟩:=hA.out
   have hgl:=(hnw g 0 none rfl).2
   by_cases hc:L.length<c
   ·refine (insertM_room base g L.length c i (cellsM L) S x ad cv tA cs w hcl hbig hlt hR hS hbg hc (by unfold maxLen at hc3;omega) hc3 (cellsM_one L) hxx hr hA' (hne.out g rfl)).mono ?_
    rintro e w' ⟨rfl,h1,h2,_⟩
    exact ⟨⟨_,rfl,by rw [hcc];exact h1,.inl rfl⟩,h2⟩
   ·have hce:c=L.length:=by omega
    subst hce
    have hS0:S=[]:=List.length_eq_zero_iff.1 (by omega)
    subst hS0
    rw [List.append_nil] at hR
    refine (insertM_grow base g L.length i (cellsM L) x ad cv w hcl hbig hlt hR hb hgl (Array.getElem?_eq_some_iff.1 hA').1 (cellsM_one L) hxx hr).mono ?_
    rintro e w' ⟨c,rfl,h1,h2,_⟩
    exact ⟨⟨_,rfl,by rw [hcc];exact h1,.inr rfl⟩,h2.os,h2.tape,h2.output,h2.size,fun k hk hn=>h2.block k hk (by simp)⟩
end
end Go.Proofs.YtccccbofcnmdiaaGreat
