/- Lemmas that the law stands on. No condition. -/
import Derived.Test.YtccccbofcnmdiaaGreatK03
namespace Go.Proofs.YtccccbofcnmdiaaGreat
set_option linter.unusedSimpArgs false
set_option linter.unusedVariables false
set_option maxRecDepth 100000
set_option maxHeartbeats 51200000
section
open Go.RowKit

theorem leased_any (g:Nat) (ck lst:Int)(vM vQ vJ:Value)(w:World)(hB:Hid (Bk w g 73 #[.int .i64 ck,.int .i64 lst,vM,vQ,vJ]))(h1:0<=ck/\ck<=4611686018427387904) :
  Calls Tryz.prog 125 #[.pointer (some ⟨g,0,none⟩)] w fun e w'=>e = .returned (.int .i64 (ck+4))/\w=w':=by
 have c1:w.cell? ⟨g,0,none⟩=some (.int .i64 ck):=hB.out.cellAt 0
 go_enter Tryz.func125,Tryz.ntmps125
 go_wp2
 go_ret
 exact ⟨rfl,rfl⟩
abbrev keyM (M:List Ml):List ByteArray:=M.map fun q=>q.1.nm
def insM (q:Ml)(M:List Ml):List Ml:=M.take (lbK q.1.nm (keyM M)) ++ q :: M.drop (lbK q.1.nm (keyM M))
def newM (ck:Int)(nm:ByteArray) (a b c:Int)(A:Option Addr) (n cp:Nat)(l:List Lb):Ml:=(⟨nm,a,b,c,A,n,cp,true,ck+4⟩,l)
def addN (S:Sg)(nm:ByteArray) (a b c:Int)(l:List Lb):Sg × An:=
 if hasK nm (keyM S.M) then (S,8,[]) else if 16<=S.M.length then (S,10,[]) else ({ S with M:=insM (newM S.ck nm a b c none 0 0 l) S.M },0,[])
theorem insM_bare (ck:Int)(nm:ByteArray) (a b c:Int)(A:Option Addr) (n cp:Nat)(l:List Lb)(M:List Ml):bM (insM (newM ck nm a b c A n cp l) M)=bM (insM (newM ck nm a b c none 0 0 l) M):=by
 unfold insM bM
 rw [List.map_append,List.map_append,List.map_cons,List.map_cons];rfl
def InsM (b:Nat)(vM:Value)(M:List Ml)(nm:ByteArray):Prop:=∀ (q:Ml)(ad:Addr) (c:Nat)(w:World),q.1.nm=nm->Hid (OwnK w b 60 7 vM (cellsM (mcs M)))->Hid (RdK w 7 (some ad) (cellsM [q.1]))->b<=w.heap.size->ad.block+1=w.heap.size->(∃ t cs,Bk w ad.block t cs)->(∀ k,vM.ownBlock=some k->ad.block ≠ k) ->
 Calls Tryz.prog 124 #[vM,.int .i64 (lbK nm (keyM M)),.slice (some ad) 1 c] w fun e w'=>(∃ v',e = .returned v' /\ OwnK w' b 60 7 v' (cellsM (mcs (insM q M)))/\(v'.ownBlock=vM.ownBlock ∨ ∀ k,v'.ownBlock=some k->w.heap.size<=k))/\GrP (fun k=>vM.ownBlock=some k) w w'
theorem mrd {w:World}{g:Nat}{t:TypeId}{q:Mc}(h:Bk w g t q.arr):RdK w 7 (some ⟨g,0,none⟩) (cellsM [q]):=fun i x hx=>by
 match i,hx with
 | 0,hx=>simp [cellsM] at hx;subst hx;exact ⟨g,0,rfl,h.range (Part.whole _)⟩
 | i+1,hx=>simp [cellsM] at hx
section
variable {o:Oper}{a:Act}{w:World}{K:Act->World->Prop}{Q:Exit->Act->World->Prop}
theorem mone15_op (t:Tmp)(m:Mc)(ho:o.op = .buildSlice 27 1 #[(0,.tmp t)])(hx:a.tmps[t]?.getD undef = .agg m.arr)(h:∀ g w',g=w.heap.size->w'.heap.size=w.heap.size+1->Bk w' g 60 m.arr->Below w.heap.size w w' -> K (a.put o.dst (.slice (some ⟨g,0,none⟩) 1 1)) w'):o.wp Tryz.prog a w K Q:=by
 unfold Oper.wp execOp
 simp only [ho]
 go_simp
 exact h _ _ rfl (by simp) (Bk.fresh w _ _) ((Below.refl _ _).alloc (Nat.le_refl _) _)
end
theorem OwnS.rdMs {w:World}{b:Nat}{vQ vJ:Value}{S:Sg}{A:Option Addr}{N cA:Nat}(h:OwnS w b (.slice A N cA) vQ vJ S):RdM w A (mcs S.M):=by
 obtain ⟨A',c,hv,hr,_⟩:=h.M.sl
 injection hv with h1;subst h1;exact hr
theorem OwnS.lenM {w:World}{b:Nat}{vQ vJ:Value}{S:Sg}{A:Option Addr}{N cA:Nat}(h:OwnS w b (.slice A N cA) vQ vJ S):N=S.M.length:=by
 obtain ⟨A',c,hv,hr,_⟩:=h.M.sl
 injection hv with h1 h2;rw [h2,cellsM_length,List.length_map]


theorem addNode_any (b g:Nat) (lst:Int)(vM vQ vJ:Value)(S:Sg)(q0:ByteArray) (q1 q2 q3:Int)(qA:Option Addr) (qn qc:Nat)(l:List Lb)(w:World)(hG:Hid (Gs w b g lst vM vQ vJ S))(hM:Hid (Sm S))(hA:Hid (AscK (keyM S.M)))(hq:q0.size<=140737488351232)(hl:Hid (LbOk w qA qn qc l))(hll:l.length<=1000)(hbw:b<=w.heap.size)(hI:Hid (hasK q0 (keyM S.M)=false->InsM b vM S.M q0)) :
  Calls Tryz.prog 83 #[.pointer (some ⟨g,0,none⟩),.agg #[.string q0,.int .i64 q1,.int .i64 q2,.int .i64 q3,.slice qA qn qc]] w fun e w'=>e = .returned (.int .i64 (addN S q0 q1 q2 q3 l).2.1)/\Went w w' b g vM vQ vJ S (addN S q0 q1 q2 q3 l).1:=by
 obtain ⟨⟨ck,nx,A,N,cA,B,K0,cB,C,n,cC⟩,hva,hvr⟩:=hG.out.own.rd
 have hv1:.slice A N cA=vM:=congrArg (fun a:Array Value=>a.getD 2 undef) hva
 have hv2:.slice B K0 cB=vQ:=congrArg (fun a:Array Value=>a.getD 3 undef) hva
 have hv3:.slice C n cC=vJ:=congrArg (fun a:Array Value=>a.getD 4 undef) hva
 have e1:ck=S.ck:=hvr.ck
 have e2:nx=S.nx:=hvr.nx
 subst hv1 hv2 hv3 e1 e2
 clear hva hvr
 have hKl:N=S.M.length:=hG.out.own.lenM
 have hKb:N<=1000:=by rw [hKl];exact hM.out.M
 have kf:=fun (W:World)(h:RdM W A (mcs S.M))=>findM_any A N cA S.M q0 W hKl h hKb hA
 obtain ⟨p,hp⟩:∃ p,p=lbK q0 (keyM S.M):=⟨_,rfl⟩
 obtain ⟨f,hf⟩:∃ f,f=hasK q0 (keyM S.M):=⟨_,rfl⟩
 have kf':∀ W,RdM W A (mcs S.M)->Calls Tryz.prog 102 #[.slice A N cA,.string q0,.func (.func 94) #[] #[]] W fun e w'=>e = .returned (.tuple #[.int .i64 p,.bool f])/\Below W.heap.size W w':=by rw [hp,hf];exact kf
 obtain ⟨r,hr⟩:∃ r,r=addN S q0 q1 q2 q3 l:=⟨_,rfl⟩
 have hrr:=hr
 unfold addN at hrr
 rw [<- hf,<- hKl] at hrr
 rw [<- hr]
 have hi:=hI.out
 unfold InsM at hi
 rw [<- hp,<- hf] at hi
 have kc:=fun (W:World)(h:LbOk W qA qn qc l)=>cloneL_any qA qn qc l W (show qn=_ from h.len) (show RdK _ _ _ _ from h.rd.rdk) (by have:=h.len;omega)
 have KC:=Lib.hid kc;clear kc
 have HI0:=Lib.hid hi;clear hi hI
 have KF:=Lib.hid kf';have HR:=Lib.hid hrr;have HP:=Lib.hid hp;have HKl:=Lib.hid hKl
 clear kf kf' hrr hr hp hf hKl
 obtain ⟨W0,hW0⟩:∃ W0,W0=w.alloc (.cells #[.string q0,.int .i64 q1,.int .i64 q2,.int .i64 q3,.slice qA qn qc] 43):=⟨_,rfl⟩
 have HG0:Hid (Gs W0 b g lst (.slice A N cA) (.slice B K0 cB) (.slice C n cC) S):=by rw [hW0];exact hG.out.below ((Below.refl _ _).alloc (Nat.le_refl _) _)
 have HQ0:Hid (Bk W0 w.heap.size 43 #[.string q0,.int .i64 q1,.int .i64 q2,.int .i64 q3,.slice qA qn qc]):=by rw [hW0];exact Bk.fresh _ _ _
 have hB0:Below w.heap.size w W0:=by rw [hW0];exact (Below.refl _ _).alloc (Nat.le_refl _) _
 go_enter Tryz.func83,Tryz.ntmps83
 go_wp2_with fail
 rw [<- hW0]
 clear hW0
 refine wp_region_held_drew (S:=fun W=>Gs W b g lst (.slice A N cA) (.slice B K0 cB) (.slice C n cC) S/\Bk W w.heap.size 43 #[.string q0,.int .i64 q1,.int .i64 q2,.int .i64 q3,.slice qA qn qc]/\Below w.heap.size w W) (by kernel_rfl) (⟨HG0.out.below (Below.drew (Below.refl _ _)),HQ0.out.drewB,Below.drew hB0⟩) (fun hS0=>?_)
 refine wU (i:=0) (v:=?_) rfl ?_ hS0 ?_
 rotate_left
 ·intro W _;go_simp;try with_reducible rfl
 try simp only [Act.put,tD,tB,tA,tE,tF]
 refine wU (i:=1) (v:=?_) rfl ?_ hS0 ?_
 rotate_left
 ·intro W _;go_simp;try with_reducible rfl
 try simp only [Act.put,tZ]
 refine wU (i:=2) (v:=?_) rfl ?_ hS0 ?_
 rotate_left
 ·intro W _;go_simp;try with_reducible rfl
 try simp only [Act.put,tZ]
 refine wU (i:=3) (v:=?_) rfl ?_ hS0 ?_
 rotate_left
 ·intro W hSW;have hx:=hSW.1.bk.cellAt 2;go_simp;try with_reducible rfl
 try simp only [Act.put,tZ]
 refine wU (i:=4) (v:=?_) rfl ?_ hS0 ?_
 rotate_left
 ·intro W _;go_simp;try with_reducible rfl
 try simp only [Act.put,tZ]
 refine wU (i:=5) (v:=?_) rfl ?_ hS0 ?_
 rotate_left
 ·intro W hSW;have hx:=hSW.2.1.cellAt 0;go_simp;try with_reducible rfl
 try simp only [Act.put,tZ]
 refine wpAnyH_ready (rs:=[6]) (by kernel_rfl) (by simp) ?_
 refine AllReadyH.cons rfl (fun K hK=>?_) AllReadyH.nil
 go_simp
 refine (KF.out _ (hS0.1.own.rdMs)).mono ?_
 rintro e w1 ⟨rfl,hb1⟩
 go_simp
 refine hK.out _ _ (⟨hS0.1.below hb1,hS0.2.1.later hb1,hS0.2.2.trans (hb1.mono hS0.2.2.size)⟩) (fun hS1=>?_)
 clear hK K
 try simp only [Act.put,tZ]
 refine wU (i:=7) (v:=?_) rfl ?_ hS1 ?_
 rotate_left
 ·intro W _;go_simp;try with_reducible rfl
 try simp only [Act.put,tZ]
 refine wU (i:=8) (v:=?_) rfl ?_ hS1 ?_
 rotate_left
 ·intro W _;go_simp;try with_reducible rfl
 try simp only [Act.put,tZ]
 refine wU (i:=10) (v:=?_) rfl ?_ hS1 ?_
 rotate_left
 ·intro W _;go_simp;try with_reducible rfl
 try simp only [Act.put,tZ]
 refine wU (i:=9) (v:=?_) rfl ?_ hS1 ?_
 rotate_left
 ·intro W _;go_simp;try with_reducible rfl
 try simp only [Act.put,tZ]
 refine wU (i:=11) (v:=?_) rfl ?_ hS1 ?_
 rotate_left
 ·intro W _;go_simp;try with_reducible rfl
 try simp only [Act.put,tZ]
 refine wpAnyH_done (by kernel_rfl) ?_ _
 obtain ⟨hG1,hQ1,hbb⟩:=hS1
 have HG1:=Lib.hid hG1;have HQ1:=Lib.hid hQ1
 have c3:w1.cell? ⟨g,2,none⟩=some (.slice A N cA):=hG1.bk.cellAt 2
 clear hS0 hG1 hQ1 hb1 HG0 HQ0 hB0 KF
 cases f
 case true=>
  have hr:(S,8,[])=r:=HR.out.symm
  subst hr
  go_wp2_with fail
  go_ret
  exact ⟨rfl,Went.same hG.out hbb⟩
 case false=>
  by_cases h8:16<=N
  ·have hr:(S,10,[])=r:=by rw [HR.out,if_neg (by simp),if_pos h8]
   subst hr
   have d8:decide (16<=(N:Int))=true:=by rw [decide_eq_true_eq];omega
   go_wp2_with fail
   go_ret
   exact ⟨rfl,Went.same hG.out hbb⟩
  ·have hr:({ S with M:=insM (newM S.ck q0 q1 q2 q3 none 0 0 l) S.M },0,[])=r:=by rw [HR.out,if_neg (by simp),if_neg h8]
   subst hr
   have d8:decide (16<=(N:Int))=false:=by rw [decide_eq_false_iff_not];omega
   clear HR
   have HI:=Lib.hid (HI0.out rfl)
   have c4:w1.cell? ⟨w.heap.size,4,none⟩=some (.slice qA qn qc):=HQ1.out.cellAt 4
   go_wp2_with fail
   refine (KC.out w1 (hl.out.later hbb)).mono ?_;rintro e w2 ⟨v2,rfl,hO2,hb2⟩
   obtain ⟨A2,c2,hv2,_,_,_,_⟩:=hO2.sl
   rw [cellsLb_length] at hv2
   subst hv2
   have HL2:Hid (LbNew w2 w1.heap.size A2 l.length c2 l):=⟨hO2,hl.out.sz⟩
   have HG2:=Lib.hid (HG1.out.below hb2);have HQ2':=Lib.hid (HQ1.out.later hb2)
   have hbb2:Below w.heap.size w w2:=hbb.trans (hb2.mono hbb.size)
   clear c3 c4 hO2
   have c4:w2.cell? ⟨w.heap.size,4,none⟩=some (.slice qA qn qc):=HQ2'.out.cellAt 4
   have f4:w2.frozen? ⟨w.heap.size,4,none⟩=false:=HQ2'.out.free 4
   have hw1:w.heap.size<w1.heap.size:=HQ1.out.here
   obtain ⟨w3,hw3⟩:∃ w3,w3=w2.setCell ⟨w.heap.size,4,none⟩ (.slice A2 l.length c2):=⟨_,rfl⟩
   have HN3:Hid (Bk w3 w.heap.size 43 #[.string q0,.int .i64 q1,.int .i64 q2,.int .i64 q3,.slice A2 l.length c2]):=by rw [hw3];exact HQ2'.out.put 4 _
   have hgs:GrP (fun k=>k=w.heap.size) w2 w3:=by rw [hw3];exact (GrP.refl (fun k=>k=w.heap.size) w2).set rfl _
   have HG3:Hid (Gs w3 b g lst (.slice A N cA) (.slice B K0 cB) (.slice C n cC) S):=HG2.out.grp hgs fun k hk e=>by have:=(hG.out.blk hk).2;omega
   have HL3:Hid (LbNew w3 w1.heap.size A2 l.length c2 l):=HL2.out.grp hgs fun k hk e=>by have:=(HL2.out.blk hk).1;omega
   have hbb3:Below w.heap.size w w3:=by rw [hw3];exact hbb2.setCell (Nat.le_refl _) _
   have hsz3:w.heap.size<=w1.heap.size:=hbb.size
   have hsz3':w.heap.size<=w3.heap.size:=hbb3.size
   clear HG2 HL2 HQ2' hgs HG1 HQ1 hb2 hbb2
   go_wp2_with fail
   rw [<- hw3]
   clear hw3 c4 f4
   refine wp_region_E (S:=fun W=>Bk W g 73 #[.int .i64 S.ck,.int .i64 lst,.slice A N cA,.slice B K0 cB,.slice C n cC]/\Bk W w.heap.size 43 #[.string q0,.int .i64 q1,.int .i64 q2,.int .i64 q3,.slice A2 l.length c2]/\GrP (fun k=>(Value.slice A N cA).ownBlock=some k) w3 W) 14 (by kernel_rfl) (⟨(HG3.out.bk).drewB,HN3.out.drewB,GrP.ofBelow (Below.drew (Below.refl _ _))⟩) (fun hS0=>?_)
   refine wpAnyE_take (i:=0) (v:=?_) rfl (by kernel_rfl) (by kernel_rfl) (by kernel_rfl) (by kernel_rfl) (by kernel_rfl) (fun _ _ _ h=>h) (Or.inl ⟨by rfl,?_⟩) hS0 ?_
   rotate_left
   ·intro W _;go_simp;try with_reducible rfl
   try simp only [Act.put,tD,tB,tA,tE,tF]
   refine wpAnyE_take (i:=1) (v:=?_) rfl (by kernel_rfl) (by kernel_rfl) (by kernel_rfl) (by kernel_rfl) (by kernel_rfl) (fun _ _ _ h=>h) (Or.inl ⟨by rfl,?_⟩) hS0 ?_
   rotate_left
   ·intro W _;go_simp;try with_reducible rfl
   try simp only [Act.put,tZ]
   refine wpAnyE_take (i:=2) (v:=?_) rfl (by kernel_rfl) (by kernel_rfl) (by kernel_rfl) (by kernel_rfl) (by kernel_rfl) (fun _ _ _ h=>h) (Or.inl ⟨by rfl,?_⟩) hS0 ?_
   rotate_left
   ·intro W _;go_simp;try with_reducible rfl
   try simp only [Act.put,tZ]
   refine wpAnyE_take (i:=3) (v:=?_) rfl (by kernel_rfl) (by kernel_rfl) (by kernel_rfl) (by kernel_rfl) (by kernel_rfl) (fun _ _ _ h=>h) (Or.inl ⟨by rfl,?_⟩) hS0 ?_
   rotate_left
   ·intro W _;go_simp;try with_reducible rfl
   try simp only [Act.put,tZ]
   refine wpAnyE_take (i:=4) (v:=?_) rfl (by kernel_rfl) (by kernel_rfl) (by kernel_rfl) (by kernel_rfl) (by kernel_rfl) (fun _ _ _ h=>h) (Or.inl ⟨by rfl,?_⟩) hS0 ?_
   rotate_left
   ·intro W hSW;have hx:=hSW.1.cellAt 2;go_simp;try with_reducible rfl
   try simp only [Act.put,tZ]
   refine wpAnyE_take (i:=5) (v:=?_) rfl (by kernel_rfl) (by kernel_rfl) (by kernel_rfl) (by kernel_rfl) (by kernel_rfl) (fun _ _ _ h=>h) (Or.inl ⟨by rfl,?_⟩) hS0 ?_
   rotate_left
   ·intro W _;go_simp;try with_reducible rfl
   try simp only [Act.put,tZ]
   refine wpAnyE_take (i:=6) (v:=.agg #[.string q0,.int .i64 q1,.int .i64 q2,.int .i64 q3,.slice A2 l.length c2]) rfl (by kernel_rfl) (by kernel_rfl) (by kernel_rfl) (by kernel_rfl) (by kernel_rfl) (fun _ _ _ h=>h) (yields_bk (by rfl) 43 _ rfl w.heap.size 0 rfl 43 #[.string q0,.int .i64 q1,.int .i64 q2,.int .i64 q3,.slice A2 l.length c2] #[.string q0,.int .i64 q1,.int .i64 q2,.int .i64 q3,.slice A2 l.length c2] _ (fun W hW=>hW.2.1) (Part.whole _) Tryz.underlying43 rfl (by kernel_rfl)) hS0 ?_
   try simp only [Act.put,tZ]
   refine wpAnyE_take (i:=7) (v:=?_) rfl (by kernel_rfl) (by kernel_rfl) (by kernel_rfl) (by kernel_rfl) (by kernel_rfl) (fun _ _ _ h=>h) (Or.inl ⟨by rfl,?_⟩) hS0 ?_
   rotate_left
   ·intro W _;go_simp;try with_reducible rfl
   try simp only [Act.put,tZ]
   refine wpAnyE_ready (rs:=[8]) (by kernel_rfl) (by simp) ?_
   refine AllReadyE.cons rfl (fun K hK=>?_) AllReadyE.nil
   go_simp
   refine (leased_any g S.ck lst _ _ _ _ hS0.1 hM.out.ck).mono ?_
   rintro e w9 ⟨rfl,rfl⟩
   go_simp
   refine hK.out _ _ (hS0) (fun hS1=>?_)
   clear hK K
   try simp only [Act.put,tZ]
   refine wpAnyE_take (i:=9) (v:=?_) rfl (by kernel_rfl) (by kernel_rfl) (by kernel_rfl) (by kernel_rfl) (by kernel_rfl) (fun _ _ _ h=>h) (Or.inl ⟨by rfl,?_⟩) hS1 ?_
   rotate_left
   ·intro W _;go_simp;try with_reducible rfl
   try simp only [Act.put,tZ]
   refine wpAnyE_ready (rs:=[10]) (by kernel_rfl) (by simp) ?_
   refine AllReadyE.cons rfl (fun K hK=>?_) AllReadyE.nil
   rw [if_pos (by rfl)]
   refine mone15_op 39 ⟨q0,q1,q2,q3,A2,l.length,c2,true,S.ck+4⟩ rfl rfl ?_
   intro g2 w4 hg2 hsz2x hB2 hb2
   refine hK.out _ _ (⟨hS1.1.later hb2,hS1.2.1.later hb2,hS1.2.2.trans (GrP.ofBelow hb2)⟩) (fun hS2=>?_)
   clear hK K
   try simp only [Act.put,tZ]
   have HS2:=Lib.hid hS2;have HB2:=Lib.hid hB2;have HSZ2:Hid (g2+1=w4.heap.size):=(by show _=_;rw [hg2,hsz2x]);have HGE2:Hid (w3.heap.size<=g2):=(by show w3.heap.size<=g2;rw [hg2];exact Nat.le_refl _);have HBL2:Hid (Below w3.heap.size w3 w4):=(show Below w3.heap.size w3 w3.drew from Below.drew (Below.refl _ _)).trans hb2;have HQ2:Hid (OwnK w4 b 60 7 (.slice A N cA) (cellsM (mcs S.M))):=HG3.out.own.M.below HBL2.out;clear hB2 hg2 hsz2x hb2 hS0 hS1 hS2
   refine wpAnyE_ready (rs:=[11]) (by kernel_rfl) (by simp) ?_
   refine AllReadyE.cons rfl (fun K hK=>?_) AllReadyE.nil
   go_simp
   refine (HI.out (newM S.ck q0 q1 q2 q3 A2 l.length c2 l) ⟨g2,0,none⟩ 1 w4 rfl HQ2.out (mrd HB2.out) (by have:=HG3.out.le;have:=HS2.out.1.here;omega) HSZ2.out ⟨_,_,HB2.out⟩ (fun k hk=>by have h1:=HGE2.out;have h2:=HG3.out.own.M.lt hk;show g2 ≠ k;omega)).mono ?_
   rintro e w5 ⟨⟨v3,rfl,hO3,hat3⟩,hgr3⟩
   obtain ⟨aQ,xQ,hv3,_,_,_,_⟩:=hO3.sl
   rw [cellsM_length,List.length_map] at hv3
   generalize (insM (newM S.ck q0 q1 q2 q3 A2 l.length c2 l) S.M).length=nQ at hv3
   subst hv3
   have HO3:=Lib.hid hO3;have HAT3:=Lib.hid hat3;have HGR3:=Lib.hid hgr3;clear hO3 hat3 hgr3
   go_simp
   refine hK.out _ _ (⟨HS2.out.1.grp HGR3.out (fun e=>(HG3.out.ne _ (.inl e)) rfl),HS2.out.2.1.grp HGR3.out (fun e=>by have:=(hG.out.own.blk (.inl e)).2;omega),HS2.out.2.2.trans HGR3.out⟩) (fun hS3=>?_)
   clear hK K
   try simp only [Act.put,tZ]
   have HB3:=Lib.hid hS3.1;have HGW:=Lib.hid hS3.2.2
   refine wpAnyE_ready (rs:=[12]) (by kernel_rfl) (by simp) ?_
   refine AllReadyE.cons rfl (fun K hK=>?_) AllReadyE.nil
   go_simp
   refine hK.out _ _ (hS3) (fun hS4=>?_)
   clear hK K
   try simp only [Act.put,tZ]
   refine wpAnyE_take (i:=13) (v:=?_) rfl (by kernel_rfl) (by kernel_rfl) (by kernel_rfl) (by kernel_rfl) (by kernel_rfl) (fun _ _ _ h=>h) (Or.inl ⟨by rfl,?_⟩) hS4 ?_
   rotate_left
   ·intro W _;go_simp;try with_reducible rfl
   try simp only [Act.put,tZ]
   have cst:w5.cell? ⟨g,2,none⟩=some (.slice A N cA):=HB3.out.cellAt 2;have fst:w5.frozen? ⟨g,2,none⟩=false:=HB3.out.free 2;clear hS3 hS4
   refine wpAnyE_ready (rs:=[14]) (by kernel_rfl) (by simp) ?_
   refine AllReadyE.last rfl (by kernel_rfl) (fun K hK=>?_) AllReadyE.nil
   go_simp
   refine hK.out _ _ ?_
   clear hK K
   try simp only [Act.put,tZ]
   refine wpAny_of_held (S:=fun _=>True) _ _ _ _ ?_
   refine wpAnyH_done (by kernel_rfl) ?_ _
   have hBK:Bk (w5.setCell ⟨g,2,none⟩ (.slice aQ nQ xQ)) g 73 #[.int .i64 S.ck,.int .i64 lst,.slice aQ nQ xQ,.slice B K0 cB,.slice C n cC]:=HB3.out.put 2 _
   have hG9:GrP (fun k=>(Value.slice A N cA).ownBlock=some k ∨ k=g) w3 (w5.setCell ⟨g,2,none⟩ (.slice aQ nQ xQ)):=(HGW.out.wide (fun _ _ h=>.inl h)).set (.inr rfl) _
   have hv9:∀ k,(Value.slice aQ nQ xQ).ownBlock=some k->k ≠ g:=fun k hk=>by
    rcases HAT3.out with e | e
    ·exact HG3.out.ne k (.inl (by rw [<- e];exact hk))
    ·have:=e k hk;have:=HS2.out.1.here;omega
   have hM9:OwnK (w5.setCell ⟨g,2,none⟩ (.slice aQ nQ xQ)) b 60 7 (.slice aQ nQ xQ) (cellsM (mcs (insM (newM S.ck q0 q1 q2 q3 A2 l.length c2 l) S.M))):=
    HO3.out.grp ((GrP.refl (fun k=>k=g) w5).set rfl _) fun k hk e=>hv9 k hk e
   have hQ9:=HG3.out.own.Q.grp hG9 fun k hk e=>e.elim (fun e=>HG3.out.own.Q.parted HG3.out.own.M (by decide) hk e) (HG3.out.ne k (.inr (.inl hk)))
   have hJ9:=HG3.out.own.J.grp hG9 fun k hk e=>e.elim (fun e=>HG3.out.own.J.parted HG3.out.own.M (by decide) hk e) (HG3.out.ne k (.inr (.inr (.inl hk))))
   have hgA:∀ k,blkA A2 k->w.heap.size<=k:=fun k hk=>Nat.le_trans hsz3 (HL3.out.blk hk).1
   have hlN:LbNew (w5.setCell ⟨g,2,none⟩ (.slice aQ nQ xQ)) b A2 l.length c2 l:=(HL3.out.grp hG9 fun k hk e=>e.elim (fun e=>HL3.out.off HG3.out.own.M (by decide) hk e) (fun e=>by have h1:=hgA k hk;have h2:=hG.out.bk.here;omega)).base (Nat.le_trans hbw hsz3)
   have hlM9:∀ x ∈ insM (newM S.ck q0 q1 q2 q3 A2 l.length c2 l) S.M,LbNew (w5.setCell ⟨g,2,none⟩ (.slice aQ nQ xQ)) b x.1.A x.1.n x.1.cp x.2:=fun x hx=>by
    have hold:x ∈ S.M->LbNew (w5.setCell ⟨g,2,none⟩ (.slice aQ nQ xQ)) b x.1.A x.1.n x.1.cp x.2:=fun hx=>(HG3.out.own.lM x hx).grp hG9 fun k hk e=>e.elim (fun e=>(HG3.out.own.lM x hx).off HG3.out.own.M (by decide) hk e) (HG3.out.ne k (.inr (.inr (.inr (.inl ⟨x,hx,hk⟩)))))
    unfold insM at hx
    rcases List.mem_append.1 hx with hx | hx
    ·exact hold (List.mem_of_mem_take hx)
    ·rcases List.mem_cons.1 hx with rfl | hx
     ·exact hlN
     ·exact hold (List.mem_of_mem_drop hx)
   have hlJ9:=fun x hx=>(HG3.out.own.lJ x hx).grp hG9 fun k hk e=>e.elim (fun e=>(HG3.out.own.lJ x hx).off HG3.out.own.M (by decide) hk e) (HG3.out.ne k (.inr (.inr (.inr (.inr ⟨x,hx,hk⟩)))))
   have hmem:∀ x ∈ insM (newM S.ck q0 q1 q2 q3 A2 l.length c2 l) S.M,x=(newM S.ck q0 q1 q2 q3 A2 l.length c2 l) ∨ x ∈ S.M:=fun x hx=>by
    unfold insM at hx
    rcases List.mem_append.1 hx with hx | hx
    ·exact .inr (List.mem_of_mem_take hx)
    ·rcases List.mem_cons.1 hx with rfl | hx
     ·exact .inl rfl
     ·exact .inr (List.mem_of_mem_drop hx)
   have hsz9:w.heap.size<=w4.heap.size:=Nat.le_trans hsz3' HBL2.out.size
   have hnew:∀ k,blkG g (.slice aQ nQ xQ) (.slice B K0 cB) (.slice C n cC) { S with M:=insM (newM S.ck q0 q1 q2 q3 A2 l.length c2 l) S.M } k->blkG g (.slice A N cA) (.slice B K0 cB) (.slice C n cC) S k ∨ w.heap.size<=k:=fun k hk=>by
    rcases hk with e | e | e | e | ⟨x,hx,e⟩ | e
    ·exact .inl (.inl e)
    ·rcases HAT3.out with h | h
     ·exact .inl (.inr (.inl (by rw [<- h];exact e)))
     ·exact .inr (Nat.le_trans hsz9 (h k e))
    ·exact .inl (.inr (.inr (.inl e)))
    ·exact .inl (.inr (.inr (.inr (.inl e))))
    ·rcases hmem x hx with rfl | hx
     ·exact .inr (hgA k e)
     ·exact .inl (.inr (.inr (.inr (.inr (.inl ⟨x,hx,e⟩)))))
    ·exact .inl (.inr (.inr (.inr (.inr (.inr e)))))
   have hne9:∀ k,blkS (.slice aQ nQ xQ) (.slice B K0 cB) (.slice C n cC) { S with M:=insM (newM S.ck q0 q1 q2 q3 A2 l.length c2 l) S.M } k->k ≠ g:=fun k hk=>by
    rcases hk with e | e | e | ⟨x,hx,e⟩ | e
    ·exact hv9 k e
    ·exact HG3.out.ne k (.inr (.inl e))
    ·exact HG3.out.ne k (.inr (.inr (.inl e)))
    ·rcases hmem x hx with rfl | hx
     ·have h1:=hgA k e;have h2:=hG.out.bk.here;omega
     ·exact HG3.out.ne k (.inr (.inr (.inr (.inl ⟨x,hx,e⟩))))
    ·exact HG3.out.ne k (.inr (.inr (.inr (.inr e))))
   have hzM:∀ x ∈ insM (newM S.ck q0 q1 q2 q3 A2 l.length c2 l) S.M,x.1.nm.size<=140737488351232:=fun x hx=>by
    rcases hmem x hx with rfl | hx
    ·exact hq
    ·exact HG3.out.own.zM x hx
   have hGr:GrP (blkG g (.slice A N cA) (.slice B K0 cB) (.slice C n cC) S) w (w5.setCell ⟨g,2,none⟩ (.slice aQ nQ xQ)):=(GrP.ofBelow hbb3).trans (hG9.wide fun k _ e=>e.elim (fun e=>.inr (.inl e)) .inl)
   have HF:Hid (Went w (w5.setCell ⟨g,2,none⟩ (.slice aQ nQ xQ)) b g (.slice A N cA) (.slice B K0 cB) (.slice C n cC) S { S with M:=insM (newM S.ck q0 q1 q2 q3 none 0 0 l) S.M }):=⟨lst,_,_,_,{ S with M:=insM (newM S.ck q0 q1 q2 q3 A2 l.length c2 l) S.M },⟨hBK,hG.out.nx,⟨hM9,hQ9,hJ9,hlM9,hlJ9,hzM,HG3.out.own.zQ,HG3.out.own.zJ⟩,HG3.out.le,hne9⟩,(by show (⟨S.ck,S.nx,bM (insM (newM S.ck q0 q1 q2 q3 A2 l.length c2 l) S.M),S.Q,bL S.J⟩:Sg)=⟨S.ck,S.nx,bM (insM (newM S.ck q0 q1 q2 q3 none 0 0 l) S.M),S.Q,bL S.J⟩;rw [insM_bare]),hGr,hnew⟩
   clear hBK hG9 hv9 hQ9 hM9 hJ9 hlM9 hlJ9 hsz9 hnew hne9 hzM hGr cst fst hmem hlN hgA
   go_wp2_with fail
   go_ret
   exact ⟨rfl,HF.out⟩
end
section
open Go.RowKit
theorem bcell {W w1:World}(hb:Below W.heap.size W w1):(∀ b o,b<W.heap.size->w1.cell? ⟨b,o,none⟩=W.cell? ⟨b,o,none⟩)/\(∀ b o,b<W.heap.size->w1.frozen? ⟨b,o,none⟩=W.frozen? ⟨b,o,none⟩):=
 ⟨fun b o h=>hb.cell (p:=⟨b,o,none⟩) h,fun b o h=>hb.frozen (p:=⟨b,o,none⟩) h⟩
def eq3 (a b c d e f:Int):Bool:=a == d && b == e && c == f
def rB (a b c:Int):Bool:=decide (0<=a/\a<=1048576/\0<=b/\b<=1048576/\0<=c/\c<=1048576)

theorem bounded_any (a b c:Int)(w:World) :
  Calls Tryz.prog 143 #[.agg #[.int .i64 a,.int .i64 b,.int .i64 c]] w fun e w'=>e = .returned (.agg #[.int .i64 (min (max a 0) 1048576),.int .i64 (min (max b 0) 1048576),.int .i64 (min (max c 0) 1048576)])/\Below w.heap.size w w':=by
 have i0:∀ w,(Instr.index 40 (.agg #[.int .i64 a,.int .i64 b,.int .i64 c]) (.int .i64 0)).run Tryz.prog w = .ok (.int .i64 a) w:=fun _=>by kernel_rfl
 have i1:∀ w,(Instr.index 40 (.agg #[.int .i64 a,.int .i64 b,.int .i64 c]) (.int .i64 1)).run Tryz.prog w = .ok (.int .i64 b) w:=fun _=>by kernel_rfl
 have i2:∀ w,(Instr.index 40 (.agg #[.int .i64 a,.int .i64 b,.int .i64 c]) (.int .i64 2)).run Tryz.prog w = .ok (.int .i64 c) w:=fun _=>by kernel_rfl
 go_enter Tryz.func143,Tryz.ntmps143
 go_wp2
 go_rounds 4
 exact bodyPost_ret (v:=.agg #[.int .i64 (min (max a 0) 1048576),.int .i64 (min (max b 0) 1048576),.int .i64 (min (max c 0) 1048576)]) (by simp [results,Tryz.results143,go_sem]) rfl ⟨rfl,by go_grown⟩
@[go_sem] theorem run_eq3 (a b c d e f:Int)(w:World):(Op.equalIn 10000 40 (.agg #[.int .i64 a,.int .i64 b,.int .i64 c]) (.agg #[.int .i64 d,.int .i64 e,.int .i64 f])).run Tryz.prog w = .ok (eq3 a b c d e f) w:=by
 have u3:=Tryz.underlying3
 have a3:=Tryz.isAgg3
 have z3:=Tryz.sizeOf3
 rw [show (10000:Nat)=9999+1 from rfl,Op.equalIn]
 simp only [Sem.run_bind,run_underlying Tryz.underlying40,Result.andThen_ok]
 simp only [Std.Legacy.Range.forIn_eq_forIn_range',Std.Legacy.Range.size,Nat.sub_zero,Nat.add_sub_cancel,Nat.div_one,List.range'_succ,List.range'_zero,List.forIn_cons,List.forIn_nil]
 go_simp
 by_cases h1:a=d <;> by_cases h2:b=e <;> by_cases h3:c=f <;> simp [h1,h2,h3,eq3]
theorem eq3_bounded (a b c:Int):eq3 a b c (min (max a 0) 1048576) (min (max b 0) 1048576) (min (max c 0) 1048576)=rB a b c:=by
 rw [Bool.eq_iff_iff]
 simp only [eq3,rB,Bool.and_eq_true,beq_iff_eq,decide_eq_true_eq]
 omega

theorem right_any (a b c:Int)(w:World) :
  Calls Tryz.prog 109 #[.agg #[.int .i64 a,.int .i64 b,.int .i64 c]] w fun e w'=>e = .returned (.bool (rB a b c))/\Below w.heap.size w w':=by
 have E:=eq3_bounded a b c
 go_enter Tryz.func109,Tryz.ntmps109
 go_wp2
 go_region_with (go_at_call 143;refine (bounded_any _ _ _ _).mono ?_;rintro e w1 ⟨rfl,hb1⟩;obtain ⟨hc1,hf1⟩:=bcell hb1)
 all_goals go_wp2
 all_goals go_ret
 all_goals clear hc1 hf1
 all_goals refine ⟨by rfl,?_⟩
 all_goals exact (((Below.refl _ _).alloc (Nat.le_refl _) _).drew.trans (hb1.mono (by simp)))
theorem rB_mk {a b c:Int}(h:0<=a/\a<=1048576/\0<=b/\b<=1048576/\0<=c/\c<=1048576):rB a b c=true:=decide_eq_true h
theorem rB_bd {a b c:Int}(h:rB a b c=true):0<=a/\a<=1048576/\0<=b/\b<=1048576/\0<=c/\c<=1048576:=of_decide_eq_true h
end
section
open Go.RowKit
theorem sE_on {a b:ByteArray}(h:sE a b=true):a.toList=b.toList:=by rw [sE_iff.1 h]
theorem sE_off {a b:ByteArray}(h:sE a b=false):(a.toList == b.toList)=false:=h
def sameNodeB (nm:ByteArray) (a b c:Int)(l:List Lb) (nm':ByteArray) (a' b' c':Int) (l':List Lb):Bool:=sE nm nm' && eq3 a b c a' b' c' && sameB l l'
def sameTaskB (nm qu:ByteArray) (pr a b c:Int)(l:List Lb)(ap ga:ByteArray) (sz:Int) (nm' qu':ByteArray) (pr' a' b' c':Int) (l':List Lb) (ap' ga':ByteArray) (sz':Int):Bool:=
 sE nm nm' && sE qu qu' && (pr == pr') && eq3 a b c a' b' c' && sameB l l' && sE ap ap' && sE ga ga' && (sz == sz')


theorem sameNode_any (nm:ByteArray) (a b c:Int)(A:Option Addr) (n cp:Nat)(l:List Lb) (nm':ByteArray) (a' b' c':Int)(B:Option Addr) (m dp:Nat) (l':List Lb)(w:World)(hn:Hid (n=l.length))(hr:Hid (RdL w A l))(hc:n<=cp)(hc2:cp<=9223372036854775807)(hm:Hid (m=l'.length))(hq:Hid (RdL w B l'))(hd:m<=dp)(hd2:dp<=9223372036854775807):Calls Tryz.prog 45 #[.agg #[.string nm,.int .i64 a,.int .i64 b,.int .i64 c,.slice A n cp],.agg #[.string nm',.int .i64 a',.int .i64 b',.int .i64 c',.slice B m dp]] w fun e w'=>e = .returned (.bool (sameNodeB nm a b c l nm' a' b' c' l'))/\Below w.heap.size w w':=by
 have ks:=fun W (h:RdL W A l)(g:RdL W B l')=>same_any A B n cp m dp l l' W hn hm (Lib.hid h) (Lib.hid g) hc hc2 hd hd2
 by_cases k0:sE nm nm' = true
 case neg=>
  have k0x:sE nm nm' = false:=by simpa using k0
  have hres:sameNodeB nm a b c l nm' a' b' c' l' = false:=by unfold sameNodeB;rw [k0x];simp
  rw [hres]
  have e0:=sE_off k0x
  clear hres k0 k0x ks
  go_enter Tryz.func45,Tryz.ntmps45
  go_wp2
  go_ret
  exact ⟨rfl,bel⟩
 case pos=>
  by_cases k1:eq3 a b c a' b' c' = true
  case neg=>
   have k1x:eq3 a b c a' b' c' = false:=by simpa using k1
   have hres:sameNodeB nm a b c l nm' a' b' c' l' = false:=by unfold sameNodeB;rw [k1x];simp
   rw [hres]
   have e0:=sE_on k0
   clear hres k1 k0 ks
   go_enter Tryz.func45,Tryz.ntmps45
   go_wp2
   go_ret
   exact ⟨rfl,bel⟩
  case pos=>
   by_cases k2:sameB l l' = true
   case neg=>
    have k2x:sameB l l' = false:=by simpa using k2
    have hres:sameNodeB nm a b c l nm' a' b' c' l' = false:=by unfold sameNodeB;rw [k2x];simp
    rw [hres]
    have e0:=sE_on k0
    rw [k2x] at ks
    have HS:=Lib.hid ks
    clear hres k2 k0 k2x ks
    go_enter Tryz.func45,Tryz.ntmps45
    go_wp2_with fail
    refine (HS.out _ (hr.out.later bel) (hq.out.later bel)).mono ?_;rintro e w1 ⟨rfl,hb1⟩
    obtain ⟨hc1,hf1⟩:=bcell hb1;have hz1:w.heap.size<w1.heap.size:=by have h:=hb1.size;(simp only [World.size_alloc] at h);omega
    have hz2:w.heap.size+1<w1.heap.size:=by have h:=hb1.size;(simp only [World.size_alloc] at h);omega
    go_wp2
    go_ret
    exact ⟨rfl,bel⟩
   case pos=>
    rw [k2] at ks
    have hres:sameNodeB nm a b c l nm' a' b' c' l' = true:=by unfold sameNodeB;rw [k0,k1,k2];rfl
    rw [hres]
    have HS:=Lib.hid ks
    have e0:=sE_on k0
    clear hres ks k0 k2
    go_enter Tryz.func45,Tryz.ntmps45
    go_wp2_with fail
    refine (HS.out _ (hr.out.later bel) (hq.out.later bel)).mono ?_;rintro e w1 ⟨rfl,hb1⟩
    obtain ⟨hc1,hf1⟩:=bcell hb1;have hz1:w.heap.size<w1.heap.size:=by have h:=hb1.size;(simp only [World.size_alloc] at h);omega
    have hz2:w.heap.size+1<w1.heap.size:=by have h:=hb1.size;(simp only [World.size_alloc] at h);omega
    go_wp2
    go_ret
    exact ⟨rfl,bel⟩


theorem sameTask_any (nm qu:ByteArray) (pr a b c:Int)(A:Option Addr) (n cp:Nat)(l:List Lb)(ap ga:ByteArray) (sz:Int) (nm' qu':ByteArray) (pr' a' b' c':Int)(B:Option Addr) (m dp:Nat) (l':List Lb) (ap' ga':ByteArray) (sz':Int)(w:World)(hn:Hid (n=l.length))(hr:Hid (RdL w A l))(hc:n<=cp)(hc2:cp<=9223372036854775807)(hm:Hid (m=l'.length))(hq:Hid (RdL w B l'))(hd:m<=dp)(hd2:dp<=9223372036854775807):Calls Tryz.prog 46 #[.agg #[.string nm,.string qu,.int .i64 pr,.int .i64 a,.int .i64 b,.int .i64 c,.slice A n cp,.string ap,.string ga,.int .i64 sz],.agg #[.string nm',.string qu',.int .i64 pr',.int .i64 a',.int .i64 b',.int .i64 c',.slice B m dp,.string ap',.string ga',.int .i64 sz']] w fun e w'=>e = .returned (.bool (sameTaskB nm qu pr a b c l ap ga sz nm' qu' pr' a' b' c' l' ap' ga' sz'))/\Below w.heap.size w w':=by
 have ks:=fun W (h:RdL W A l)(g:RdL W B l')=>same_any A B n cp m dp l l' W hn hm (Lib.hid h) (Lib.hid g) hc hc2 hd hd2
 by_cases k0:sE nm nm' = true
 case neg=>
  have k0x:sE nm nm' = false:=by simpa using k0
  have hres:sameTaskB nm qu pr a b c l ap ga sz nm' qu' pr' a' b' c' l' ap' ga' sz' = false:=by unfold sameTaskB;rw [k0x];simp
  rw [hres]
  have e0:=sE_off k0x
  clear hres k0 k0x ks
  go_enter Tryz.func46,Tryz.ntmps46
  go_wp2
  go_ret
  exact ⟨rfl,bel⟩
 case pos=>
  by_cases k1:sE qu qu' = true
  case neg=>
   have k1x:sE qu qu' = false:=by simpa using k1
   have hres:sameTaskB nm qu pr a b c l ap ga sz nm' qu' pr' a' b' c' l' ap' ga' sz' = false:=by unfold sameTaskB;rw [k1x];simp
   rw [hres]
   have e0:=sE_on k0
   have e1:=sE_off k1x
   clear hres k1 k0 k1x ks
   go_enter Tryz.func46,Tryz.ntmps46
   go_wp2
   go_ret
   exact ⟨rfl,bel⟩
  case pos=>
   by_cases k2:(pr == pr')=true
   case neg=>
    have k2x:(pr == pr')=false:=by simpa using k2
    have hres:sameTaskB nm qu pr a b c l ap ga sz nm' qu' pr' a' b' c' l' ap' ga' sz' = false:=by unfold sameTaskB;rw [k2x];simp
    rw [hres]
    have e0:=sE_on k0
    have e1:=sE_on k1
    clear hres k2 k0 k1 ks
    go_enter Tryz.func46,Tryz.ntmps46
    go_wp2
    go_ret
    exact ⟨rfl,bel⟩
   case pos=>
    by_cases k3:eq3 a b c a' b' c' = true
    case neg=>
     have k3x:eq3 a b c a' b' c' = false:=by simpa using k3
     have hres:sameTaskB nm qu pr a b c l ap ga sz nm' qu' pr' a' b' c' l' ap' ga' sz' = false:=by unfold sameTaskB;rw [k3x];simp
     rw [hres]
     have e0:=sE_on k0
     have e1:=sE_on k1
     clear hres k3 k0 k1 ks
     go_enter Tryz.func46,Tryz.ntmps46
     go_wp2
     go_ret
     exact ⟨rfl,bel⟩
    case pos=>
     by_cases k4:sameB l l' = true
     case neg=>
      have k4x:sameB l l' = false:=by simpa using k4
      have hres:sameTaskB nm qu pr a b c l ap ga sz nm' qu' pr' a' b' c' l' ap' ga' sz' = false:=by unfold sameTaskB;rw [k4x];simp
      rw [hres]
      have e0:=sE_on k0
      have e1:=sE_on k1
      rw [k4x] at ks
      have HS:=Lib.hid ks
      clear hres k4 k0 k1 k4x ks
      go_enter Tryz.func46,Tryz.ntmps46
      go_wp2_with fail
      refine (HS.out _ (hr.out.later bel) (hq.out.later bel)).mono ?_;rintro e w1 ⟨rfl,hb1⟩
      obtain ⟨hc1,hf1⟩:=bcell hb1;have hz1:w.heap.size<w1.heap.size:=by have h:=hb1.size;(simp only [World.size_alloc] at h);omega
      have hz2:w.heap.size+1<w1.heap.size:=by have h:=hb1.size;(simp only [World.size_alloc] at h);omega
      go_wp2
      go_ret
      exact ⟨rfl,bel⟩
     case pos=>
      rw [k4] at ks
      by_cases k5:sE ap ap' = true
      case neg=>
       have k5x:sE ap ap' = false:=by simpa using k5
       have hres:sameTaskB nm qu pr a b c l ap ga sz nm' qu' pr' a' b' c' l' ap' ga' sz' = false:=by unfold sameTaskB;rw [k5x];simp
       rw [hres]
       have e0:=sE_on k0
       have e1:=sE_on k1
       have e5:=sE_off k5x
       have HS:=Lib.hid ks
       clear hres k5 k0 k1 k4 k5x ks
       go_enter Tryz.func46,Tryz.ntmps46
       go_wp2_with fail
       refine (HS.out _ (hr.out.later bel) (hq.out.later bel)).mono ?_;rintro e w1 ⟨rfl,hb1⟩
       obtain ⟨hc1,hf1⟩:=bcell hb1;have hz1:w.heap.size<w1.heap.size:=by have h:=hb1.size;(simp only [World.size_alloc] at h);omega
       have hz2:w.heap.size+1<w1.heap.size:=by have h:=hb1.size;(simp only [World.size_alloc] at h);omega
       go_wp2
       go_ret
       exact ⟨rfl,bel⟩
      case pos=>
       by_cases k6:sE ga ga' = true
       case neg=>
        have k6x:sE ga ga' = false:=by simpa using k6
        have hres:sameTaskB nm qu pr a b c l ap ga sz nm' qu' pr' a' b' c' l' ap' ga' sz' = false:=by unfold sameTaskB;rw [k6x];simp
        rw [hres]
        have e0:=sE_on k0
        have e1:=sE_on k1
        have e5:=sE_on k5
        have e6:=sE_off k6x
        have HS:=Lib.hid ks
        clear hres k6 k0 k1 k4 k5 k6x ks
        go_enter Tryz.func46,Tryz.ntmps46
        go_wp2_with fail
        refine (HS.out _ (hr.out.later bel) (hq.out.later bel)).mono ?_;rintro e w1 ⟨rfl,hb1⟩
        obtain ⟨hc1,hf1⟩:=bcell hb1;have hz1:w.heap.size<w1.heap.size:=by have h:=hb1.size;(simp only [World.size_alloc] at h);omega
        have hz2:w.heap.size+1<w1.heap.size:=by have h:=hb1.size;(simp only [World.size_alloc] at h);omega
        go_wp2
        go_ret
        exact ⟨rfl,bel⟩
       case pos=>
        by_cases k7:(sz == sz')=true
        case neg=>
         have k7x:(sz == sz')=false:=by simpa using k7
         have hres:sameTaskB nm qu pr a b c l ap ga sz nm' qu' pr' a' b' c' l' ap' ga' sz' = false:=by unfold sameTaskB;rw [k7x];simp
         rw [hres]
         have e0:=sE_on k0
         have e1:=sE_on k1
         have e5:=sE_on k5
         have e6:=sE_on k6
         have HS:=Lib.hid ks
         clear hres k7 k0 k1 k4 k5 k6 ks
         go_enter Tryz.func46,Tryz.ntmps46
         go_wp2_with fail
         refine (HS.out _ (hr.out.later bel) (hq.out.later bel)).mono ?_;rintro e w1 ⟨rfl,hb1⟩
         obtain ⟨hc1,hf1⟩:=bcell hb1;have hz1:w.heap.size<w1.heap.size:=by have h:=hb1.size;(simp only [World.size_alloc] at h);omega
         have hz2:w.heap.size+1<w1.heap.size:=by have h:=hb1.size;(simp only [World.size_alloc] at h);omega
         go_wp2
         go_ret
         exact ⟨rfl,bel⟩
        case pos=>
         have hres:sameTaskB nm qu pr a b c l ap ga sz nm' qu' pr' a' b' c' l' ap' ga' sz' = true:=by unfold sameTaskB;rw [k0,k1,k2,k3,k4,k5,k6,k7];rfl
         rw [hres]
         have HS:=Lib.hid ks
         have e0:=sE_on k0
         have e1:=sE_on k1
         have e5:=sE_on k5
         have e6:=sE_on k6
         clear hres ks k0 k1 k4 k5 k6
         go_enter Tryz.func46,Tryz.ntmps46
         go_wp2_with fail
         refine (HS.out _ (hr.out.later bel) (hq.out.later bel)).mono ?_;rintro e w1 ⟨rfl,hb1⟩
         obtain ⟨hc1,hf1⟩:=bcell hb1;have hz1:w.heap.size<w1.heap.size:=by have h:=hb1.size;(simp only [World.size_alloc] at h);omega
         have hz2:w.heap.size+1<w1.heap.size:=by have h:=hb1.size;(simp only [World.size_alloc] at h);omega
         go_wp2
         go_ret
         exact ⟨rfl,bel⟩
theorem eq3_in (d:Nat) (a b c a' b' c':Int)(w:World):(Op.equalIn (d+2) 40 (.agg #[.int .i64 a,.int .i64 b,.int .i64 c]) (.agg #[.int .i64 a',.int .i64 b',.int .i64 c'])).run Tryz.prog w = .ok (eq3 a b c a' b' c') w:=by
 have u3:=Tryz.underlying3
 have a3:=Tryz.isAgg3
 have z3:=Tryz.sizeOf3
 rw [Op.equalIn]
 simp only [Sem.run_bind,run_underlying Tryz.underlying40,Result.andThen_ok]
 simp only [Std.Legacy.Range.forIn_eq_forIn_range',Std.Legacy.Range.size,Nat.sub_zero,Nat.add_sub_cancel,Nat.div_one,List.range'_succ,List.range'_zero,List.forIn_cons,List.forIn_nil]
 go_simp
 by_cases h1:a=a' <;> by_cases h2:b=b' <;> by_cases h3:c=c' <;> simp [h1,h2,h3,eq3]
theorem eq_queue_in (s s':ByteArray) (a b c a' b' c':Int)(w:World):(Op.equalIn 10000 45 (.agg #[.string s,.int .i64 a,.int .i64 b,.int .i64 c]) (.agg #[.string s',.int .i64 a',.int .i64 b',.int .i64 c'])).run Tryz.prog w = .ok (sE s s' && eq3 a b c a' b' c') w:=by
 have h:=eq3_in 9997 a b c a' b' c'
 have u9:=Tryz.underlying9
 rw [show (10000:Nat)=9999+1 from rfl,run_equalIn_agg w 9999 _ _ _ (by kernel_rfl) (by kernel_rfl)]
 have hf : Tryz.prog.fieldsOf 45 = #[{ name := "Name", type := 9, offset := 0, embedded := false, tag := "", pkgPath := "", byteOffset := 0 }, { name := "Quota", type := 40, offset := 1, embedded := false, tag := "", pkgPath := "", byteOffset := 16 }] := by kernel_rfl
 rw [hf]
 by_cases k:sE s s' = true
 ·have e:=sE_on k
  rw [k,Bool.true_and]
  generalize eq3 a b c a' b' c' = r at h ⊢
  cases r <;> go_simp
 ·have k':sE s s' = false:=by simpa using k
  have e:=sE_off k'
  rw [k',Bool.false_and]
  go_simp
theorem neq_queue_any (s s':ByteArray) (a b c a' b' c':Int)(w:World):(binOp .neq 45 (.agg #[.string s,.int .i64 a,.int .i64 b,.int .i64 c]) (.agg #[.string s',.int .i64 a',.int .i64 b',.int .i64 c'])).run Tryz.prog w = .ok (.bool (!(sE s s' && eq3 a b c a' b' c'))) w:=by
 rw [run_neq_struct,eq_queue_in];rfl
theorem eql_queue_any (s s':ByteArray) (a b c a' b' c':Int)(w:World):(binOp .eql 45 (.agg #[.string s,.int .i64 a,.int .i64 b,.int .i64 c]) (.agg #[.string s',.int .i64 a',.int .i64 b',.int .i64 c'])).run Tryz.prog w = .ok (.bool (sE s s' && eq3 a b c a' b' c')) w:=by
 rw [run_eql_struct,eq_queue_in];rfl
end
section
open Go.RowKit
theorem any_at {l:List Lb}{p:Lb->Bool}{k:Nat}(hk:k<l.length)(hp:p l[k]=true):l.any p=true:=List.any_eq_true.2 ⟨l[k],List.getElem_mem hk,hp⟩
theorem any_takeL {l:List Lb}{p:Lb->Bool}{k:Nat}(h:k<l.length):(l.take (k+1)).any p=((l.take k).any p || p l[k]):=by
 rw [List.take_succ_eq_append_getElem h,List.any_append];simp
def retV (r:ByteArray × Bool):Ending:=.returned (.tuple #[.string r.1,.bool r.2])
def containsB (l:List Lb)(x:Lb):Bool:=l.any fun y=>lE y x
def hasB (l ws:List Lb):Bool:=ws.all (containsB l)

theorem contains_any (A:Option Addr) (n c:Nat)(l:List Lb)(a b:ByteArray)(w:World)(hn:Hid (n=l.length))(hr:Hid (RdL w A l))(hc:n<=c)(hc2:c<=9223372036854775807) :
  Calls Tryz.prog 144 #[.slice A n c,.agg #[.string a,.string b]] w fun e w'=>e = .returned (.bool (containsB l (a,b)))/\Below w.heap.size w w':=by
 go_enter Tryz.func144,Tryz.ntmps144
 go_wp2
 go_loopw [6,9] (fun _ i wr=>∃ k:Nat,k<=n/\i = .int .i64 k/\Hid ((l.take k).any (fun y=>lE y (a,b))=false)/\Below (w.heap.size+1) (w.alloc (.cells #[.string a,.string b] 70)) wr) (fun _ i wr=>n - (intOf i).toNat)
 case atStart=>exact ⟨0,Nat.zero_le _,rfl,rfl,Below.refl _ _⟩
 case round=>
  obtain ⟨k,hk,rfl,HA,hb0⟩:=hrel
  have hb:Below w.heap.size w wr:=((Below.refl _ _).alloc (Nat.le_refl _) _).trans (hb0.mono (by omega))
  have hsz:w.heap.size<wr.heap.size:=by have:=hb0.size;simp at this;omega
  have k1:wr.cell? ⟨w.heap.size,0,none⟩=some (.string a):=(hb0.cell (p:=⟨w.heap.size,0,none⟩) (by simp)).trans (by simp)
  have k2:wr.cell? ⟨w.heap.size,1,none⟩=some (.string b):=(hb0.cell (p:=⟨w.heap.size,1,none⟩) (by simp)).trans (by simp)
  by_cases hlt:k<n
  ·have hl:k<l.length:=by have:=hn.out;omega
   obtain ⟨g,o,rfl,hg,h1,h2⟩:=(hr.out.later hb).at hl
   by_cases hE:lE l[k] (a,b)=true
   ·have HV:Hid (containsB l (a,b)=true):=any_at hl hE
    obtain ⟨e1,e2⟩:=lE_yes hE
    simp only [] at e1 e2
    clear hE HA
    go_wp2
    go_ret
    exact ⟨ret_bool' HV.out.symm,bel⟩
   ·have HS:Hid ((l.take (k+1)).any (fun y=>lE y (a,b))=false):=by
     show _=_
     rw [any_takeL hl,HA.out];simpa using hE
    have hE':=lE_no (by simpa using hE)
    simp only [] at hE'
    clear hE HA
    rcases hE' with e1 | ⟨e1,e2⟩
    all_goals
     go_wp2
     go_round
     case rel=>exact ⟨k+1,by omega,by go_num,HS,bel⟩
     case measure=>simp [intOf];omega
  ·have HV:Hid (containsB l (a,b)=false):=by have:=HA.out;rwa [List.take_of_length_le (by have:=hn.out;omega)] at this
   go_wp2
   go_ret
   exact ⟨ret_bool' HV.out.symm,bel⟩

theorem has_any (A B:Option Addr) (n c m d:Nat)(l r:List Lb)(w:World)(hn:Hid (n=l.length))(hm:Hid (m=r.length))(hr:Hid (RdL w A l))(hq:Hid (RdL w B r))(hc:n<=c)(hc2:c<=9223372036854775807)(hd:m<=d)(hd2:d<=9223372036854775807) :
  Calls Tryz.prog 111 #[.slice A n c,.slice B m d] w fun e w'=>e = .returned (.bool (hasB l r))/\Below w.heap.size w w':=by
 go_enter Tryz.func111,Tryz.ntmps111
 go_wp2
 go_loopw [6,9] (fun _ i wr=>∃ k:Nat,k<=m/\i = .int .i64 k/\Hid ((r.take k).all (containsB l)=true)/\Below w.heap.size w wr) (fun _ i wr=>m - (intOf i).toNat)
 case atStart=>exact ⟨0,Nat.zero_le _,rfl,rfl,Below.refl _ _⟩
 case round=>
  obtain ⟨k,hk,rfl,HA,hb⟩:=hrel
  have hsz:=hb.size
  by_cases hlt:k<m
  ·have hl:k<r.length:=by have:=hm.out;omega
   obtain ⟨g,o,rfl,hg,h1,h2⟩:=(hq.out.later hb).at hl
   have hcon:=fun W (h:RdL W A l)=>contains_any A n c l r[k].1 r[k].2 W hn h hc hc2
   by_cases hE:containsB l r[k]=true
   ·have HS:Hid ((r.take (k+1)).all (containsB l)=true):=by show _=_;rw [all_takeL hl,HA.out,hE];rfl
    rw [show containsB l (r[k].1,r[k].2)=true from hE] at hcon
    have HC:Hid _:=hcon
    clear hE HA hcon
    go_wp2_with fail
    refine (HC.out _ (hr.out.later bel)).mono ?_;rintro e w1 ⟨rfl,hb1⟩
    go_wp2
    go_round
    case rel=>exact ⟨k+1,by omega,by go_num,HS,bel⟩
    case measure=>simp [intOf];omega
   ·have hE':containsB l r[k]=false:=by simpa using hE
    have HV:Hid (hasB l r=false):=all_take_falseL hl hE'
    rw [show containsB l (r[k].1,r[k].2)=false from hE'] at hcon
    have HC:Hid _:=hcon
    clear hE hE' HA hcon
    go_wp2_with fail
    refine (HC.out _ (hr.out.later bel)).mono ?_;rintro e w1 ⟨rfl,hb1⟩
    go_wp2
    go_ret
    exact ⟨ret_bool' HV.out.symm,bel⟩
  ·have HV:Hid (hasB l r=true):=by have:=HA.out;rwa [List.take_of_length_le (by have:=hm.out;omega)] at this
   go_wp2
   go_ret
   exact ⟨ret_bool' HV.out.symm,bel⟩
end
section
open Go.RowKit
def okI (c:Int):Bool:=decide (97<=c/\c<=122 ∨ 48<=c/\c<=57 ∨ c=45)
def nameL (l:List UInt8):Bool:=decide (1<=l.length) && decide (l.length<=16) && !(l.head? == some 45) && l.all fun c=>okI c.toNat
def nameB (s:ByteArray):Bool:=nameL s.data.toList
theorem ret_bool {a b:Bool}(h:a=b):Ending.returned (.bool a) = .returned (.bool b):=by rw [h]

theorem inName_any (c:Int)(w:World):Calls Tryz.prog 121 #[.int .u8 c] w fun e w'=>e = .returned (.bool (okI c))/\w=w':=by
  obtain ⟨r,hr⟩:∃ r,r=okI c:=⟨_,rfl⟩
  rw [<- hr]
  unfold okI at hr
  by_cases h1:97<=c <;> by_cases h2:c<=122 <;> by_cases h3:48<=c <;> by_cases h4:c<=57 <;> by_cases h5:c=45
  all_goals try (have hb5:(c == 45)=false:=by simpa using h5)
  all_goals first
    | (exfalso;omega)
    | (have hr':r=true:=by rw [hr];exact decide_eq_true (by omega)
       clear hr;subst hr'
       go_enter Tryz.func121,Tryz.ntmps121
       go_wp2
       go_ret
       exact ⟨rfl,rfl⟩)
    | (have hr':r=false:=by rw [hr];exact decide_eq_false (by omega)
       clear hr;subst hr'
       go_enter Tryz.func121,Tryz.ntmps121
       go_wp2
       go_ret
       exact ⟨rfl,rfl⟩)
theorem nameL_long {l:List UInt8}(h:16<l.length):nameL l=false:=by
 unfold nameL
 rw [show decide (l.length<=16)=false from decide_eq_false (by omega)];simp
theorem nameL_mk {l:List UInt8}{c:UInt8}(h1:l.length<=16)(h2:l[0]? = some c)(h3:c ≠ 45):nameL l=l.all fun c=>okI c.toNat:=by
 cases l with
 | nil=>simp at h2
 | cons d l=>
  simp at h2;subst h2
  unfold nameL
  simp at h1
  simp [h1,h3]
theorem nameL_dash {l:List UInt8}(h2:l[0]? = some 45):nameL l=false:=by
 cases l with
 | nil=>simp at h2
 | cons d l=>simp at h2;subst h2;unfold nameL;simp
theorem all_take {l:List UInt8}{p:UInt8->Bool}{k:Nat}(h:k<l.length):(l.take (k+1)).all p=((l.take k).all p && p l[k]):=by
 rw [List.take_succ_eq_append_getElem h,List.all_append];simp
theorem all_take_false {l:List UInt8}{p:UInt8->Bool}{k:Nat}(h:k<l.length)(hp:p l[k]=false):l.all p=false:=by
 rw [List.all_eq_false]
 exact ⟨l[k],List.getElem_mem h,by simp [hp]⟩
theorem strN_at (s:ByteArray) (k:Nat)(h:k<s.size):s.data.toList[k]? = some s[k]:=by
 rw [List.getElem?_eq_getElem (by simpa using h)];rfl
theorem u8_dash (c:UInt8):(c=45) ↔ ((c.toNat:Int)=45):=by
 constructor
 ·rintro rfl;rfl
 ·intro h;exact UInt8.toNat_inj.1 (by
   have:c.toNat=45:=by omega
   rw [this];rfl)

theorem name_any (s:ByteArray)(w:World)(hs:s.size<=9223372036854775807):Calls Tryz.prog 81 #[.string s] w fun e w'=>e = .returned (.bool (nameB s))/\w=w':=by
 by_cases h0:s.size=0
 ·have e:s=⟨#[]⟩:=by cases s;congr;exact Array.eq_empty_of_size_eq_zero h0
  have hr:nameB s=false:=by rw [e];rfl
  rw [hr,e]
  go_enter Tryz.func81,Tryz.ntmps81
  go_wp2
  go_ret
  exact ⟨rfl,rfl⟩
 have hpos:0<s.size:=by omega
 have hne:(s.toList.isEmpty)=false:=by
  rw [Bool.eq_false_iff];intro hc
  rw [List.isEmpty_iff] at hc
  have:s.toList.length=s.size:=by rw [ByteArray.toList_eq];simp
  rw [hc] at this;simp at this;omega
 have hne2:¬ s.toList=[]:=by intro hc;rw [hc] at hne;simp at hne
 by_cases h16:16<s.size
 ·have hr:nameB s=false:=nameL_long (by simpa using h16)
  rw [hr]
  go_enter Tryz.func81,Tryz.ntmps81
  go_wp2
  go_ret
  exact ⟨rfl,rfl⟩
 by_cases hd:(s[0].toNat:Int)=45
 ·have hr:nameB s=false:=nameL_dash (by rw [strN_at s 0 hpos];rw [(u8_dash _).2 hd])
  rw [hr]
  have hd':((s[0].toNat:Int) == 45)=true:=by simpa using hd
  go_enter Tryz.func81,Tryz.ntmps81
  go_wp2
  go_ret
  exact ⟨rfl,rfl⟩
 have hd':((s[0].toNat:Int) == 45)=false:=by simpa using hd
 have HR:Hid (nameB s=s.data.toList.all fun c=>okI c.toNat):=nameL_mk (by simpa using h16) (strN_at s 0 hpos) (fun h=>hd ((u8_dash _).1 h))
 clear hd
 go_enter Tryz.func81,Tryz.ntmps81
 go_wp2
 go_loop [3,18] (fun _ i=>∃ k:Nat,k<=s.size/\i = .int .i64 k/\Hid ((s.data.toList.take k).all (fun c=>okI c.toNat)=true)) (fun _ i=>s.size - (intOf i).toNat)
 case atStart=>exact ⟨0,Nat.zero_le _,rfl,rfl⟩
 case round=>
  obtain ⟨k,hk,rfl,HA⟩:=hrel
  by_cases hlt:k<s.size
  ·have HS:Hid ((s.data.toList.take (k+1)).all (fun c=>okI c.toNat)=((s.data.toList.take k).all (fun c=>okI c.toNat) && okI s[k].toNat)):=all_take (by simpa using hlt)
   have HF:Hid (okI s[k].toNat=false->s.data.toList.all (fun c=>okI c.toNat)=false):=fun h=>all_take_false (k:=k) (by simpa using hlt) h
   by_cases hok:okI s[k].toNat=true
   ·have hcon:=fun w=>inName_any s[k].toNat w
    rw [hok] at hcon
    have HK:Hid (okI s[k].toNat=true):=hok
    clear hok HF
    go_wp2_with (go_at_call 121;refine (hcon _).mono ?_;rintro e w' ⟨rfl,rfl⟩)
    go_round
    case rel=>exact ⟨k+1,by omega,by go_num,(show _=_ by rw [HS.out,HA.out,HK.out];rfl)⟩
    case measure=>simp [intOf];omega
   ·have hok':okI s[k].toNat=false:=by simpa using hok
    have hcon:=fun w=>inName_any s[k].toNat w
    rw [hok'] at hcon
    have HR2:Hid (nameB s=false):=by show _=_;rw [HR.out];exact HF.out hok'
    clear hok hok' HF HS
    go_wp2_with (go_at_call 121;refine (hcon _).mono ?_;rintro e w' ⟨rfl,rfl⟩)
    go_ret
    exact ⟨ret_bool HR2.out.symm,rfl⟩
  ·have:k=s.size:=by omega
   subst this
   have HR2:Hid (nameB s=true):=by
    show _=_
    rw [HR.out,<- HA.out,List.take_of_length_le (by simp)]
   go_wp2
   go_ret
   exact ⟨ret_bool HR2.out.symm,rfl⟩
end
section
open Go.RowKit
def labAt (l:List Lb) (i:Nat):Bool:=nameB (l.getD i default).1 && nameB (l.getD i default).2 && (decide (i=0) || sL (l.getD (i - 1) default).1 (l.getD i default).1)
def labelsB (l:List Lb):Bool:=decide (l.length<=4) && (List.range l.length).all (labAt l)
theorem labAt_lt {l:List Lb}{i:Nat}(h:i<l.length):labAt l i=(nameB l[i].1 && nameB l[i].2 && (decide (i=0) || sL (l.getD (i - 1) default).1 l[i].1)):=by
 unfold labAt
 rw [show l.getD i default=l[i] by simp [List.getD,List.getElem?_eq_getElem h]]
theorem labAt_succ {l:List Lb}{i:Nat}(h:i+1<l.length):labAt l (i+1)=(nameB l[i+1].1 && nameB l[i+1].2 && sL l[i].1 l[i+1].1):=by
 rw [labAt_lt h,Nat.add_sub_cancel,show l.getD i default=l[i] by simp [List.getD,List.getElem?_eq_getElem (show i<l.length by omega)]];simp
theorem range_all {p:Nat->Bool}{k:Nat}:(List.range (k+1)).all p=((List.range k).all p && p k):=by
 rw [List.range_succ,List.all_append];simp
theorem labelsB_bad {l:List Lb}{k:Nat}(h:k<l.length)(hp:labAt l k=false):labelsB l=false:=by
 unfold labelsB
 rw [Bool.and_eq_false_iff];right
 rw [List.all_eq_false]
 exact ⟨k,List.mem_range.2 h,by simp [hp]⟩
theorem labelsB_long {l:List Lb}(h:4<l.length):labelsB l=false:=by
 unfold labelsB;rw [show decide (l.length<=4)=false from decide_eq_false (by omega)];rfl
theorem labelsB_good {l:List Lb}(h:l.length<=4)(h2:(List.range l.length).all (labAt l)=true):labelsB l=true:=by
 unfold labelsB;rw [h2,decide_eq_true h];rfl


theorem labels_any (A:Option Addr) (n c:Nat)(l:List Lb)(w:World)(hn:Hid (n=l.length))(hr:Hid (RdL w A l))(hz:Hid (Sz l))(hc:n<=c)(hc2:c<=9223372036854775807) :
  Calls Tryz.prog 118 #[.slice A n c] w fun e w'=>e = .returned (.bool (labelsB l))/\Below w.heap.size w w':=by
 by_cases h4:4<n
 ·have hr:labelsB l=false:=labelsB_long (by have:=hn.out;omega)
  rw [hr]
  go_enter Tryz.func118,Tryz.ntmps118
  go_wp2
  go_ret
  exact ⟨rfl,Below.refl _ _⟩
 have h4':n<=4:=by omega
 go_enter Tryz.func118,Tryz.ntmps118
 go_wp2
 go_loopw [3,4,10] (fun _ _ i wr=>∃ k:Nat,k<=n/\i = .int .i64 k/\Hid ((List.range k).all (labAt l)=true)/\Below w.heap.size w wr) (fun _ _ i wr=>n - (intOf i).toNat)
 case atStart=>exact ⟨0,Nat.zero_le _,rfl,rfl,Below.refl _ _⟩
 case round=>
  obtain ⟨k,hk,rfl,HA,hb⟩:=hrel
  have hsz:=hb.size
  by_cases hlt:k<n
  ·have hl:k<l.length:=by have:=hn.out;omega
   obtain ⟨g,o,rfl,hg,h1,h2⟩:=(hr.out.later hb).at hl
   obtain ⟨z1,z2⟩:=hz.out.at hl
   have hL:=labAt_lt hl
   have hcon1:=fun w=>name_any l[k].1 w (by omega)
   have hcon2:=fun w=>name_any l[k].2 w (by omega)
   by_cases hN1:nameB l[k].1=true
   ·rw [hN1] at hcon1
    have HC1:Hid _:=hcon1
    clear hcon1
    by_cases hN2:nameB l[k].2=true
    ·rw [hN2] at hcon2
     have HC2:Hid _:=hcon2
     clear hcon2
     by_cases hpos:0<k
     case neg=>
      have HS:Hid ((List.range (k+1)).all (labAt l)=true):=by show _=_;rw [range_all,HA.out,hL,hN1,hN2,decide_eq_true (show k=0 by omega)];rfl
      have hp0:decide ((0:Int)<(k:Int))=false:=decide_eq_false (by omega)
      clear hL hN1 hN2 HA
      go_wp2_with fail
      refine (HC1.out _).mono ?_;rintro e w1 ⟨rfl,rfl⟩
      go_wp2_with fail
      refine (HC2.out _).mono ?_;rintro e w1 ⟨rfl,rfl⟩
      go_wp2_with fail
      go_quiet (fail)
      go_wp2
      go_round
      case rel=>exact ⟨k+1,by omega,by go_num,HS,bel⟩
      case measure=>simp [intOf];omega
     case pos=>
      obtain ⟨j,rfl⟩:∃ j,k=j+1:=⟨k - 1,by omega⟩
      have hL2:=labAt_succ hl
      obtain ⟨g',o',ha,hg',h1',h2'⟩:=(hr.out.later hb).at (show j<l.length by omega)
      injection ha with ha;injection ha with ha1 ha2;subst ha1 ha2
      have hwp:IntKind.i64.wrap (j:Int)=(j:Int):=by rw [IntKind.wrap_i64];omega
      have jn:(j:Int)<(n:Int):=by omega
      have jt:((j:Int)).toNat=j:=by omega
      by_cases hS:sL l[j].1 l[j+1].1=true
      ·have HS:Hid ((List.range (j+1+1)).all (labAt l)=true):=by show _=_;rw [range_all,HA.out,hL2,hN1,hN2,hS];rfl
       have e1:Op.bytesLess l[j].1.toList l[j+1].1.toList=true:=hS
       clear hL hN1 hN2 HA hL2 hS
       go_wp2_with fail
       refine (HC1.out _).mono ?_;rintro e w1 ⟨rfl,rfl⟩
       go_wp2_with fail
       refine (HC2.out _).mono ?_;rintro e w1 ⟨rfl,rfl⟩
       go_wp2_with fail
       go_quiet (fail)
       go_wp2
       go_round
       case rel=>exact ⟨j+1+1,by omega,by go_num,HS,bel⟩
       case measure=>simp [intOf];omega
      ·have hS':sL l[j].1 l[j+1].1=false:=by simpa using hS
       have HV:Hid (labelsB l=false):=labelsB_bad hl (by rw [hL2,hS'];simp)
       have e1:Op.bytesLess l[j].1.toList l[j+1].1.toList=false:=hS'
       clear hL hN1 hN2 HA hL2 hS hS'
       go_wp2_with fail
       refine (HC1.out _).mono ?_;rintro e w1 ⟨rfl,rfl⟩
       go_wp2_with fail
       refine (HC2.out _).mono ?_;rintro e w1 ⟨rfl,rfl⟩
       go_wp2_with fail
       go_quiet (fail)
       go_wp2
       go_ret
       exact ⟨ret_bool' HV.out.symm,bel⟩
    ·have hN2':nameB l[k].2=false:=by simpa using hN2
     have HV:Hid (labelsB l=false):=labelsB_bad hl (by rw [hL,hN2'];simp)
     rw [hN2'] at hcon2
     have HC2:Hid _:=hcon2
     clear hL hN1 hN2 hN2' HA hcon2
     go_wp2_with fail
     refine (HC1.out _).mono ?_;rintro e w1 ⟨rfl,rfl⟩
     go_wp2_with fail
     refine (HC2.out _).mono ?_;rintro e w1 ⟨rfl,rfl⟩
     go_wp2
     go_ret
     exact ⟨ret_bool' HV.out.symm,bel⟩
   ·have hN1':nameB l[k].1=false:=by simpa using hN1
    have HV:Hid (labelsB l=false):=labelsB_bad hl (by rw [hL,hN1'];simp)
    rw [hN1'] at hcon1
    have HC1:Hid _:=hcon1
    clear hL hN1 hN1' HA hcon1 hcon2
    go_wp2_with fail
    refine (HC1.out _).mono ?_;rintro e w1 ⟨rfl,rfl⟩
    go_wp2
    go_ret
    exact ⟨ret_bool' HV.out.symm,bel⟩
  ·have HV:Hid (labelsB l=true):=labelsB_good (by have:=hn.out;omega) (by have:=HA.out;rwa [show k=l.length by have:=hn.out;omega] at this)
   go_wp2
   go_ret
   exact ⟨ret_bool' HV.out.symm,bel⟩
end
end Go.Proofs.YtccccbofcnmdiaaGreat
