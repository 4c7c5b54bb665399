/- Lemmas that the law stands on. No condition. -/
import Derived.Test.YtccccbofcnmdiaaGreatM21
namespace Go.Proofs.YtccccbofcnmdiaaGreat
set_option linter.unusedSimpArgs false
set_option linter.unusedVariables false
set_option maxRecDepth 100000
set_option maxHeartbeats 51200000
section
open Go.RowKit
section
variable {w w' w1 w2:World} {b g:Nat} {lst lst' lst1 lst2:Int} {vM vQ vJ vM' vQ' vJ' vM1 vQ1 vJ1 vM2 vQ2 vJ2 v':Value} {S S' S1 S2 T:Sg}
theorem Wn.rowA (h:Wn w w1 b g vM vQ vJ S lst1 vM1 vQ1 vJ1 S1) (hG:Gs w b g lst vM vQ vJ S) {bA:Nat} {v:Value} {l:List (List Value)} (hA:OwnK w bA 64 3 v l):OwnK w1 bA 64 3 v l:=hA.grp h.gr fun k hk e=>hG.notActs hA hk e
theorem RetL.own {bA:Nat} {A:Option Addr} {n c:Nat} {l:List Ac} (h:OwnK w bA 64 3 (.slice A n c) (cellsA l)):RetL bA w A n c l:=by
 obtain ⟨A',c',hv,hr,h1,h2⟩:=h.acts
 injection hv with e1 e2 e3
 subst e1 e3
 exact ⟨e2,hr,by omega,h2,fun a ha=>h.block _ (by rw [ha];rfl)⟩
end
theorem hasK_lt {s:ByteArray} {K:List ByteArray} (h:hasK s K=true):lbK s K<K.length:=by
 have h1:=lbK_le s K
 by_cases e:lbK s K=K.length
 ·rw [hasK_end e] at h;cases h
 ·omega
theorem mcs_erase (M:List Ml) (p:Nat):mcs (M.eraseIdx p)=(mcs M).eraseIdx p:=by
 rw [List.eraseIdx_eq_take_drop_succ,List.eraseIdx_eq_take_drop_succ];simp [mcs,List.map_take,List.map_drop]
theorem jbs_erase (J:List Jl) (p:Nat):jbs (J.eraseIdx p)=(jbs J).eraseIdx p:=by
 rw [List.eraseIdx_eq_take_drop_succ,List.eraseIdx_eq_take_drop_succ];simp [jbs,List.map_take,List.map_drop]


theorem dropNode_any (b g:Nat) (lst:Int) (vM vQ vJ:Value) (S:Sg) (s:ByteArray) (w:World) (hG:Hid (Gs w b g lst vM vQ vJ S)) (hM:Hid (Sm S)) (hA:Hid (AscK (keyM S.M))) :
  Calls Tryz.prog 84 #[.pointer (some ⟨g,0,none⟩),.string s] w fun e w'=>(∃ A n c,e = .returned (.tuple #[.slice A n c,.int .i64 (dropN' S s).2.1])/\RetL w.heap.size w' A n c (dropN' S s).2.2)/\Went w w' b g vM vQ vJ S (dropN' S s).1:=by
 cases hf:hasK s (keyM S.M)
 case false=>
  have hd:dropN' S s=(S,7,[]):=by unfold dropN';rw [hf];rfl
  rw [hd]
  refine (dropNode_no b g lst vM vQ vJ S s w hG.out hM.out hA.out hf).mono ?_
  rintro e w' ⟨rfl,hb⟩
  exact ⟨⟨none,0,0,rfl,RetL.nil _ _⟩,Went.same hG.out hb⟩
 case true=>
  obtain ⟨A,cA,hv,_,_,_,_⟩:=hG.out.own.M.sl
  obtain ⟨N,hN⟩:∃ N,N=S.M.length:=⟨_,rfl⟩
  rw [cellsM_length,List.length_map,<- hN] at hv
  subst hv
  obtain ⟨p,hp⟩:∃ p,p=lbK s (keyM S.M):=⟨_,rfl⟩
  have hd:dropN' S s=({ S with M:=S.M.eraseIdx p,J:=relJ s S.J },0,relA s S.J):=by unfold dropN';rw [hf,hp];rfl
  have hpl:p<S.M.length:=by have:=hasK_lt hf;rw [List.length_map] at this;rw [hp];exact this
  rw [hd]
  clear hd
  have kf:∀ W,RdM W A (mcs S.M)->Calls Tryz.prog 102 #[.slice A N cA,.string s,.func (.func 94) #[] #[]] W fun e w'=>e = .returned (.tuple #[.int .i64 p,.bool true])/\Below W.heap.size W w':=fun W h=>by
   have hx:=findM_any A N cA S.M s W hN h (by rw [hN];exact hM.out.M) hA.out
   rw [hf,<- hp] at hx
   exact hx
  have k1:=kf w hG.out.own.rdMs
  have c1:w.cell? ⟨g,2,none⟩=some (.slice A N cA):=hG.out.bk.cellAt 2
  have K1:=Lib.hid k1;have HPL:=Lib.hid hpl
  have HML:Hid (S.M.length<=1000):=hM.out.M
  have HJL:Hid (S.J.length<=1000):=hM.out.J
  clear k1 kf hp hf hpl hN hM hA
  go_enter Tryz.func84,Tryz.ntmps84
  go_wp2_with fail
  refine K1.out.mono ?_;rintro e w1 ⟨rfl,hb1⟩
  have HG1:=Lib.hid (hG.out.below hb1)
  have HW1:=Lib.hid (Wn.first hG.out hb1)
  clear hb1 c1 K1
  go_wp2_with fail
  refine (release_any b g lst _ vQ vJ S s w1 HG1 HJL.out).mono ?_;rintro e w2 ⟨⟨v,rfl,hO2⟩,hW2⟩
  obtain ⟨A2,c2,hv2,_,_,_⟩:=hO2.acts
  obtain ⟨n2,hn2⟩:∃ n2,n2=(relA s S.J).length:=⟨_,rfl⟩
  rw [<- hn2] at hv2
  subst hv2
  clear hn2
  have HO2:=Lib.hid hO2;have HW2:=Lib.hid hW2
  have c2':w2.cell? ⟨g,2,none⟩=some (.slice A N cA):=hW2.gs.bk.cellAt 2
  clear hO2 hW2
  go_wp2_with fail
  refine (removeM_any b (.slice A N cA) (mcs S.M) p w2 (by rw [List.length_map];exact HML.out) (by rw [List.length_map];exact HPL.out) (Lib.hid HW2.out.gs.own.M)).mono ?_;rintro e w3 ⟨⟨v',rfl,hO3,hat3⟩,hg3⟩
  rw [<- mcs_erase] at hO3
  obtain ⟨A3,c3,hv3,_,_,_,_⟩:=hO3.sl
  obtain ⟨n3,hn3⟩:∃ n3,n3=(cellsM (mcs (S.M.eraseIdx p))).length:=⟨_,rfl⟩
  rw [<- hn3] at hv3
  subst hv3
  clear hn3
  have hgb:Bk w3 g 73 #[.int .i64 S.ck,.int .i64 lst,.slice A N cA,vQ,vJ]:=HW2.out.gs.bk.grp hg3 fun e=>HW2.out.gs.ne _ (.inl e) rfl
  have c3':w3.cell? ⟨g,2,none⟩=some (.slice A N cA):=hgb.cellAt 2
  have f3':w3.frozen? ⟨g,2,none⟩=false:=hgb.free 2
  have HS:=Lib.hid (HW2.out.gs.setM (M':=S.M.eraseIdx p) hg3 hO3 (.inl hat3) fun x hx=>⟨HW2.out.gs.own.zM x (List.mem_of_mem_eraseIdx hx),.inl ⟨x,List.mem_of_mem_eraseIdx hx,rfl,rfl,rfl,rfl⟩⟩)
  clear hO3 hat3 hg3 hgb c2'
  go_wp2_with fail
  exact bodyPost_ret (v:=.tuple #[.slice A2 n2 c2,.int .i64 0]) (by simp [results,Tryz.results84,go_sem]) rfl ⟨⟨A2,n2,c2,rfl,RetL.own ((HS.out.rowA HW2.out.gs HO2.out).base (by exact HW1.out.gr.size))⟩,((HW1.out.trans HW2.out).trans HS.out).went rfl⟩
def hasQ (s:ByteArray) (l:List Jb):Bool:=l.any fun j=>sE j.qu s
theorem hasQ_jbs (s:ByteArray) (J:List Jl):hasQ s (jbs J)=hasJ s J:=by unfold hasQ hasJ jbs;rw [List.any_map];rfl

theorem hasJ1_any (c:Nat) (s:ByteArray) (j:Jb) (w:World) (hc:w.cell? ⟨c,0,none⟩=some (.string s)) :
  Calls Tryz.prog 166 #[.agg j.arr,.pointer (some ⟨c,0,none⟩)] w fun e w'=>e = .returned (.bool (sE j.qu s))/\Below w.heap.size w w':=by
 obtain ⟨nm,qu,pr,a,b,cc,A,n,cp,ap,ga,sz,sq,nd,bo⟩:=j
 have hc':(w.alloc (.cells #[.string nm,.string qu,.int .i64 pr,.int .i64 a,.int .i64 b,.int .i64 cc,.slice A n cp,.string ap,.string ga,.int .i64 sz,.int .i64 sq,.string nd,.int .i64 bo] 66)).cell? ⟨c,0,none⟩=some (.string s):=Lib.cell?_alloc_some _ hc
 go_enter Tryz.func166,Tryz.ntmps166
 go_wp2_with fail
 go_ret
 exact ⟨rfl,(Below.refl _ _).alloc (Nat.le_refl _) _⟩


theorem idxJ_any (A:Option Addr) (n cap c:Nat) (L:List Jb) (s:ByteArray) (w:World) (hn:Hid (n=L.length)) (hbig:Hid (n<=1000)) (hr:Hid (RdJ w A L)) (hc:Hid (w.cell? ⟨c,0,none⟩=some (.string s))) :
  Calls Tryz.prog 186 #[.slice A n cap,.func (.func 166) #[] #[.pointer (some ⟨c,0,none⟩)]] w fun e w'=>(∃ i:Int,e = .returned (.int .i64 i)/\decide (0<=i)=hasQ s L)/\Below w.heap.size w w':=by
 have K1:=Lib.hid (fun (j:Jb) (W:World) (h:W.cell? ⟨c,0,none⟩=some (.string s))=>hasJ1_any c s j W h)
 have hlt:=World.block_lt_of_cell? w _ hc.out
 have HLT:Hid (c<w.heap.size):=hlt
 clear hlt
 go_enter Tryz.func186,Tryz.ntmps186
 go_wp2_with fail
 go_loopw [8] (fun s8 wr=>∃ (k:Nat),k<=n/\s8 = .int .i64 k/\Hid (hasQ s (L.take k)=false)/\Hid (Below w.heap.size w wr)) (fun s8 wr=>n - (intOf s8).toNat)
 case atStart=>exact ⟨0,Nat.zero_le _,rfl,(show hasQ s (L.take 0)=false from rfl),Below.refl _ _⟩
 case round=>
  obtain ⟨k,hk,rfl,H,hb⟩:=hrel
  by_cases hlt:k<n
  ·have hkl:Hid (k<L.length):=by show k<L.length;rw [<- hn.out];exact hlt
   have hwk:wrap64 ((k:Int)+1)=((k+1:Nat):Int):=by have:=hbig.out;unfold wrap64;omega
   obtain ⟨g,o,rfl,hg,hj⟩:=(hr.out.later hb.out).at hkl.out
   obtain ⟨j,hje⟩:∃ j,j=L[k]'hkl.out:=⟨_,rfl⟩
   rw [<- hje] at hj
   have HJ:=Lib.hid hj;have HJE:=Lib.hid hje
   have hcr:Hid (wr.cell? ⟨c,0,none⟩=some (.string s)):=by show _=_;rw [hb.out.cell HLT.out];exact hc.out
   clear hj hje hg
   go_wp2_with ((with_reducible refine load_rg rfl 66 _ rfl g (o+k * 13) rfl j.arr _ HJ.out.rg Tryz.underlying66 rfl (by kernel_rfl) ?_))
   refine (K1.out j _ hcr.out).mono ?_;rintro e w1 ⟨rfl,hb1⟩
   have HB1:Hid (Below w.heap.size w w1):=hb.out.trans (hb1.mono hb.out.size)
   clear hb1 hb hcr HJ
   cases he:sE j.qu s
   case true=>
    have HF:Hid (decide ((0:Int)<=(k:Int))=hasQ s L):=by
     show _=_
     rw [decide_eq_true (by omega)]
     exact (List.any_eq_true.2 ⟨j,by rw [HJE.out];exact List.getElem_mem _,he⟩).symm
    clear he H
    go_wp2_with fail
    go_ret
    exact ⟨⟨k,rfl,HF.out⟩,HB1.out⟩
   case false=>
    have HF:Hid (hasQ s (L.take (k+1))=false):=by
     show _=_
     rw [List.take_succ_eq_append_getElem hkl.out]
     unfold hasQ
     rw [List.any_append,show (L.take k).any (fun j=>sE j.qu s)=false from H.out,<- HJE.out]
     simp [he]
    clear he H
    go_wp2_with fail
    go_round
    case rel=>exact ⟨k+1,by omega,by go_num,HF,HB1⟩
    case measure=>rw [hwk];show n - ((k+1:Nat):Int).toNat<n - (k:Int).toNat;rw [Int.toNat_natCast,Int.toNat_natCast];omega
  ·have hkn:k=n:=by omega
   subst hkn
   have HF:Hid (decide ((0:Int) <= -1)=hasQ s L):=by show _=_;have:=H.out;rw [List.take_of_length_le (by rw [<- hn.out];exact Nat.le_refl _)] at this;rw [this];rfl
   clear H hk hlt
   go_wp2_with fail
   go_ret
   exact ⟨⟨-1,rfl,HF.out⟩,hb.out⟩


theorem conJ_any (A:Option Addr) (n cap c:Nat) (L:List Jb) (s:ByteArray) (w:World) (hn:Hid (n=L.length)) (hbig:Hid (n<=1000)) (hr:Hid (RdJ w A L)) (hc:Hid (w.cell? ⟨c,0,none⟩=some (.string s))) :
  Calls Tryz.prog 165 #[.slice A n cap,.func (.func 166) #[] #[.pointer (some ⟨c,0,none⟩)]] w fun e w'=>e = .returned (.bool (hasQ s L))/\Below w.heap.size w w':=by
 have K1:=Lib.hid (idxJ_any A n cap c L s w hn hbig hr hc)
 clear hr hc
 go_enter Tryz.func165,Tryz.ntmps165
 go_wp2_with fail
 refine K1.out.mono ?_;rintro e w1 ⟨⟨i,rfl,hi⟩,hb1⟩
 have HI:=Lib.hid hi
 clear hi K1
 go_wp2_with fail
 go_ret
 exact ⟨by rw [<- HI.out];rfl,hb1⟩


theorem hasJobs_any (b g:Nat) (lst:Int) (vM vQ vJ:Value) (S:Sg) (s:ByteArray) (w:World) (hG:Hid (Gs w b g lst vM vQ vJ S)) (hM:S.J.length<=1000) :
  Calls Tryz.prog 129 #[.pointer (some ⟨g,0,none⟩),.string s] w fun e w'=>e = .returned (.bool (hasJ s S.J))/\Below w.heap.size w w':=by
 obtain ⟨C,cC,hv,hrd,_,_,_⟩:=hG.out.own.J.sl
 obtain ⟨n,hn⟩:∃ n,n=S.J.length:=⟨_,rfl⟩
 rw [cellsJ_length,List.length_map,<- hn] at hv
 subst hv
 obtain ⟨W0,hW0⟩:∃ W0,W0=w.alloc (.cells #[.string s] 9):=⟨_,rfl⟩
 have hB0:Below w.heap.size w W0:=by rw [hW0];exact (Below.refl _ _).alloc (Nat.le_refl _) _
 have hS0:W0.cell? ⟨w.heap.size,0,none⟩=some (.string s):=by rw [hW0];exact (Bk.fresh w 9 #[.string s]).cellAt 0
 have K1:=Lib.hid (conJ_any C n cC w.heap.size (jbs S.J) s W0 (show n=_ by rw [List.length_map];exact hn) (show n<=1000 by rw [hn];exact hM) (show RdJ W0 C _ from RdK.later hrd hB0) hS0)
 rw [hasQ_jbs] at K1
 have c4:W0.cell? ⟨g,4,none⟩=some (.slice C n cC):=(hG.out.below hB0).bk.cellAt 4
 have HB0:=Lib.hid hB0
 clear hrd hn hM hG hB0 hS0
 subst hW0
 have hmf:∀ (fn:Fn) (first cap:Array Value) (w:World),(Instr.makeFunc fn first cap).run Tryz.prog w = .ok (.func fn first cap) w:=fun _ _ _ _=>rfl
 go_enter Tryz.func129,Tryz.ntmps129
 go_wp2_with fail
 refine K1.out.mono ?_
 rintro e w1 ⟨rfl,hb1⟩
 go_wp2_with fail
 go_ret
 exact ⟨rfl,HB0.out.trans (hb1.mono HB0.out.size)⟩
end
section
open Go.RowKit


theorem dropQueue_any (b g:Nat) (lst:Int) (vM vQ vJ:Value) (S:Sg) (s:ByteArray) (w:World) (hG:Hid (Gs w b g lst vM vQ vJ S)) (hM:Hid (Sm S)) (hA:Hid (AscK (keyQ S.Q))) :
  Calls Tryz.prog 86 #[.pointer (some ⟨g,0,none⟩),.string s] w fun e w'=>e = .returned (.int .i64 (dropQ S s).2.1)/\Went w w' b g vM vQ vJ S (dropQ S s).1:=by
 cases hf:hasK s (keyQ S.Q)
 case false=>
  have hd:dropQ S s=(S,7,[]):=by unfold dropQ;rw [hf];rfl
  rw [hd]
  refine (dropQueue_no b g lst vM vQ vJ S s w hG.out hM.out hA.out hf).mono ?_
  rintro e w' ⟨rfl,hb⟩
  exact ⟨rfl,Went.same hG.out hb⟩
 case true=>
  obtain ⟨B,cB,hv,_,_,_,_⟩:=hG.out.own.Q.sl
  obtain ⟨K0,hN⟩:∃ N,N=S.Q.length:=⟨_,rfl⟩
  rw [cellsQ_length,<- hN] at hv
  subst hv
  obtain ⟨p,hp⟩:∃ p,p=lbK s (keyQ S.Q):=⟨_,rfl⟩
  have hpl:p<S.Q.length:=by have:=hasK_lt hf;rw [List.length_map] at this;rw [hp];exact this
  obtain ⟨q,hq⟩:∃ q,q=hasJ s S.J:=⟨_,rfl⟩
  have hd:dropQ S s=if q then (S,11,[]) else ({ S with Q:=S.Q.eraseIdx p },0,[]):=by unfold dropQ;rw [hf,hp,hq];rfl
  rw [hd]
  clear hd
  have kf:∀ W,RdQ W B S.Q->Calls Tryz.prog 100 #[.slice B K0 cB,.string s,.func (.func 96) #[] #[]] W fun e w'=>e = .returned (.tuple #[.int .i64 p,.bool true])/\Below W.heap.size W w':=fun W h=>by
   have hx:=findQ_any B K0 cB S.Q s W hN h (by rw [hN];exact hM.out.Q) hA.out
   rw [hf,<- hp] at hx
   exact hx
  have k1:=kf w hG.out.own.rdQ
  have c1:w.cell? ⟨g,3,none⟩=some (.slice B K0 cB):=hG.out.bk.cellAt 3
  have K1:=Lib.hid k1;have HPL:=Lib.hid hpl
  have HQL:Hid (S.Q.length<=1000):=hM.out.Q
  have HJL:Hid (S.J.length<=1000):=hM.out.J
  have K2:=Lib.hid (fun W (h:Gs W b g lst vM (.slice B K0 cB) vJ S)=>hasJobs_any b g lst _ _ _ S s W h HJL.out)
  rw [<- hq] at K2
  clear k1 kf hp hf hpl hN hM hA hq
  go_enter Tryz.func86,Tryz.ntmps86
  go_wp2_with fail
  refine K1.out.mono ?_;rintro e w1 ⟨rfl,hb1⟩
  have HG1:=Lib.hid (hG.out.below hb1)
  have HW1:=Lib.hid (Wn.first hG.out hb1)
  clear hb1 c1 K1
  go_wp2_with fail
  refine (K2.out _ HG1.out).mono ?_;rintro e w2 ⟨rfl,hb2⟩
  have HW2:=Lib.hid (HW1.out.below hb2)
  clear hb2 HG1 HW1 K2
  cases q
  case true=>
   go_wp2_with fail
   go_ret
   exact ⟨rfl,HW2.out.went rfl⟩
  case false=>
   have c2':w2.cell? ⟨g,3,none⟩=some (.slice B K0 cB):=HW2.out.gs.bk.cellAt 3
   go_wp2_with fail
   refine (removeQ_any b (.slice B K0 cB) S.Q p w2 HQL.out HPL.out (Lib.hid HW2.out.gs.own.Q)).mono ?_;rintro e w3 ⟨⟨v',rfl,hO3,hat3⟩,hg3⟩
   obtain ⟨A3,c3,hv3,_,_,_,_⟩:=hO3.sl
   obtain ⟨n3,hn3⟩:∃ n3,n3=(cellsQ (S.Q.eraseIdx p)).length:=⟨_,rfl⟩
   rw [<- hn3] at hv3
   subst hv3
   clear hn3
   have hgb:Bk w3 g 73 #[.int .i64 S.ck,.int .i64 lst,vM,.slice B K0 cB,vJ]:=HW2.out.gs.bk.grp hg3 fun e=>HW2.out.gs.ne _ (.inr (.inl e)) rfl
   have c3':w3.cell? ⟨g,3,none⟩=some (.slice B K0 cB):=hgb.cellAt 3
   have f3':w3.frozen? ⟨g,3,none⟩=false:=hgb.free 3
   have HS:=Lib.hid (HW2.out.gs.setQ (Q':=S.Q.eraseIdx p) hg3 hO3 (.inl hat3) fun x hx=>HW2.out.gs.own.zQ x (List.mem_of_mem_eraseIdx hx))
   clear hO3 hat3 hg3 hgb c2'
   go_wp2_with fail
   go_ret
   exact ⟨rfl,(HW2.out.trans HS.out).went rfl⟩
section
variable {w w' w1 w2:World} {b g:Nat} {lst:Int} {vM vQ vJ v':Value} {S:Sg}
theorem Gs.oneM {p:Nat} {y:Ml} (h:Gs w b g lst vM vQ vJ S) (hp:p<S.M.length) (hg:GrP (fun k=>vM.ownBlock=some k) w w') (hO:OwnK w' b 60 7 vM (cellsM ((mcs S.M).set p y.1))) (hy:y.1.nm.size<=140737488351232) (hl:S.M[p].1.A=y.1.A/\S.M[p].1.n=y.1.n/\S.M[p].1.cp=y.1.cp/\S.M[p].2=y.2) :
  Wn w w' b g vM vQ vJ S lst vM vQ vJ { S with M:=S.M.set p y }:=by
 have hM:∀ x ∈ S.M.set p y,x.1.nm.size<=140737488351232 /\ ∃ z ∈ S.M,z.1.A=x.1.A/\z.1.n=x.1.n/\z.1.cp=x.1.cp/\z.2=x.2:=fun x hx=>by
  rcases List.mem_or_eq_of_mem_set hx with hx | rfl
  ·exact ⟨h.own.zM x hx,x,hx,rfl,rfl,rfl,rfl⟩
  ·exact ⟨hy,_,List.getElem_mem hp,hl⟩
 have hM9:OwnK w' b 60 7 vM (cellsM (mcs (S.M.set p y))):=by rw [show mcs (S.M.set p y)=(mcs S.M).set p y.1 by simp [mcs,List.map_set]];exact hO
 have hQ9:=h.own.Q.grp hg fun k hk e=>h.own.Q.parted h.own.M (by decide) hk e
 have hJ9:=h.own.J.grp hg fun k hk e=>h.own.J.parted h.own.M (by decide) hk e
 have hlJ9:=fun x hx=>(h.own.lJ x hx).grp hg fun k hk e=>(h.own.lJ x hx).off h.own.M (by decide) hk e
 have hlM9:∀ x ∈ S.M.set p y,LbNew w' b x.1.A x.1.n x.1.cp x.2:=fun x hx=>by
  obtain ⟨z,hz,e1,e2,e3,e4⟩:=(hM x hx).2
  rw [<- e1,<- e2,<- e3,<- e4]
  exact (h.own.lM z hz).grp hg fun k hk e=>(h.own.lM z hz).off h.own.M (by decide) hk e
 refine ⟨⟨h.bk.grp hg (fun e=>h.ne g (.inl e) rfl),h.nx,⟨hM9,hQ9,hJ9,hlM9,hlJ9,fun x hx=>(hM x hx).1,h.own.zQ,h.own.zJ⟩,h.le,fun k hk=>?_⟩,hg.wide fun k _ e=>.inr (.inl e),fun k hk=>.inl ?_⟩
 ·rcases hk with e | e | e | ⟨x,hx,e⟩ | e
  ·exact h.ne k (.inl e)
  ·exact h.ne k (.inr (.inl e))
  ·exact h.ne k (.inr (.inr (.inl e)))
  ·obtain ⟨z,hz,e1,_⟩:=(hM x hx).2
   exact h.ne k (.inr (.inr (.inr (.inl ⟨z,hz,by rw [e1];exact e⟩))))
  ·exact h.ne k (.inr (.inr (.inr (.inr e))))
 ·rcases hk with e | e | e | e | ⟨x,hx,e⟩ | e
  ·exact .inl e
  ·exact .inr (.inl e)
  ·exact .inr (.inr (.inl e))
  ·exact .inr (.inr (.inr (.inl e)))
  ·obtain ⟨z,hz,e1,_⟩:=(hM x hx).2
   exact .inr (.inr (.inr (.inr (.inl ⟨z,hz,by rw [e1];exact e⟩))))
  ·exact .inr (.inr (.inr (.inr (.inr e))))
end
theorem cellsM_up {L:List Mc} {p:Nat} (hp:p<L.length) (u:Int):cellsM (L.set p { L[p] with up:=true,un:=u })=((cellsM L).set p (((cellsM L)[p]'(by rw [cellsM_length];exact hp)).set 5 (.bool true))).set p ((((cellsM L).set p (((cellsM L)[p]'(by rw [cellsM_length];exact hp)).set 5 (.bool true)))[p]'(by rw [List.length_set,cellsM_length];exact hp)).set 6 (.int .i64 u)):=by
 simp only [List.getElem_set_self,List.set_set]
 simp only [cellsM,List.map_set,List.getElem_map]
 rfl
theorem modify_set {α:Type} {l:List α} {p:Nat} {f:α->α} (hp:p<l.length):l.modify p f=l.set p (f l[p]):=by
 apply List.ext_getElem (by simp)
 intro i h1 h2
 rw [List.getElem_modify,List.getElem_set]
 by_cases e:p=i
 ·subst e;simp
 ·rw [if_neg e,if_neg e]
theorem OwnK.beats {w:World} {b r n c p:Nat} {L:List Mc} (h:OwnK w b 60 7 (.slice (some ⟨r,0,none⟩) n c) (cellsM L)) (hp:p<L.length) (u:Int) :
  (w.cell? ⟨r,p * 7+5,none⟩).isSome/\w.frozen? ⟨r,p * 7+5,none⟩=false/\((w.setCell ⟨r,p * 7+5,none⟩ (.bool true)).cell? ⟨r,p * 7+6,none⟩).isSome/\(w.setCell ⟨r,p * 7+5,none⟩ (.bool true)).frozen? ⟨r,p * 7+6,none⟩=false /\
  OwnK ((w.setCell ⟨r,p * 7+5,none⟩ (.bool true)).setCell ⟨r,p * 7+6,none⟩ (.int .i64 u)) b 60 7 (.slice (some ⟨r,0,none⟩) n c) (cellsM (L.set p { L[p] with up:=true,un:=u })):=by
 have h1:=h.put (show p<(cellsM L).length by rw [cellsM_length];exact hp) (show 5<7 by decide) (.bool true)
 have h2:=h1.1.put (show p<_ by rw [List.length_set,cellsM_length];exact hp) (show 6<7 by decide) (.int .i64 u)
 rw [cellsM_up hp]
 exact ⟨h1.2.1,h1.2.2,h2.2.1,h2.2.2,h2.1⟩


theorem beat_any (b g:Nat) (lst:Int) (vM vQ vJ:Value) (S:Sg) (s:ByteArray) (w:World) (hG:Hid (Gs w b g lst vM vQ vJ S)) (hM:Hid (Sm S)) (hA:Hid (AscK (keyM S.M))) :
  Calls Tryz.prog 90 #[.pointer (some ⟨g,0,none⟩),.string s] w fun e w'=>e = .returned (.int .i64 (beatN S s).2.1)/\Went w w' b g vM vQ vJ S (beatN S s).1:=by
 cases hf:hasK s (keyM S.M)
 case false=>
  have hd:beatN S s=(S,7,[]):=by unfold beatN;rw [hf];rfl
  rw [hd]
  refine (beat_no b g lst vM vQ vJ S s w hG.out hM.out hA.out hf).mono ?_
  rintro e w' ⟨rfl,hb⟩
  exact ⟨rfl,Went.same hG.out hb⟩
 case true=>
  obtain ⟨A,cA,hv,_,_,_,_⟩:=hG.out.own.M.sl
  obtain ⟨N,hN⟩:∃ N,N=S.M.length:=⟨_,rfl⟩
  rw [cellsM_length,List.length_map,<- hN] at hv
  subst hv
  obtain ⟨p,hp⟩:∃ p,p=lbK s (keyM S.M):=⟨_,rfl⟩
  have hpl:p<S.M.length:=by have:=hasK_lt hf;rw [List.length_map] at this;rw [hp];exact this
  have hd:beatN S s=({ S with M:=S.M.set p (upX S.ck S.M[p]) },0,[]):=by
   unfold beatN;rw [hf,<- hp,if_pos rfl,modify_set hpl]
  rw [hd]
  clear hd
  obtain ⟨M',hM'⟩:∃ M',M' = S.M.set p (upX S.ck S.M[p]):=⟨_,rfl⟩
  rw [<- hM']
  have HM':Hid (M' = S.M.set p (upX S.ck S.M[p])):=hM'
  clear hM'
  obtain ⟨r,rfl⟩:=hG.out.own.M.at0 (by rw [cellsM_length,List.length_map];omega)
  have kf:∀ W,RdM W (some ⟨r,0,none⟩) (mcs S.M)->Calls Tryz.prog 102 #[.slice (some ⟨r,0,none⟩) N cA,.string s,.func (.func 94) #[] #[]] W fun e w'=>e = .returned (.tuple #[.int .i64 p,.bool true])/\Below W.heap.size W w':=fun W h=>by
   have hx:=findM_any (some ⟨r,0,none⟩) N cA S.M s W hN h (by rw [hN];exact hM.out.M) hA.out
   rw [hf,<- hp] at hx
   exact hx
  have k1:=kf w hG.out.own.rdMs
  have c1:w.cell? ⟨g,2,none⟩=some (.slice (some ⟨r,0,none⟩) N cA):=hG.out.bk.cellAt 2
  have hpN:p<N:=by rw [hN];exact hpl
  have K1:=Lib.hid k1;have HPL:=Lib.hid hpl
  have HCK:Hid (0<=S.ck/\S.ck<=4611686018427387904):=hM.out.ck
  clear k1 kf hp hf hN hM hA
  go_enter Tryz.func90,Tryz.ntmps90
  go_wp2_with fail
  refine K1.out.mono ?_;rintro e w1 ⟨rfl,hb1⟩
  have HW1:=Lib.hid (Wn.first hG.out hb1)
  have c2':w1.cell? ⟨g,2,none⟩=some (.slice (some ⟨r,0,none⟩) N cA):=HW1.out.gs.bk.cellAt 2
  clear hb1 c1 K1
  go_wp2_with fail
  refine (leased_any g S.ck lst _ _ _ w1 HW1.out.gs.bk HCK.out).mono ?_;rintro e w2 ⟨rfl,rfl⟩
  have hB:=HW1.out.gs.own.M.beats (p:=p) (by rw [List.length_map];exact HPL.out) (S.ck+4)
  obtain ⟨u5,hu5⟩:=Option.isSome_iff_exists.1 hB.1
  obtain ⟨u6,hu6⟩:=Option.isSome_iff_exists.1 hB.2.2.1
  have f5:=hB.2.1
  have f6:=hB.2.2.2.1
  have HS:Hid (Wn w1 ((w1.setCell ⟨r,p * 7+5,none⟩ (.bool true)).setCell ⟨r,p * 7+6,none⟩ (.int .i64 (S.ck+4))) b g (.slice (some ⟨r,0,none⟩) N cA) vQ vJ S lst (.slice (some ⟨r,0,none⟩) N cA) vQ vJ { S with M:=M' }):=by
   rw [HM'.out]
   have hg1:GrP (fun k=>(Value.slice (some ⟨r,0,none⟩) N cA).ownBlock=some k) w1 (w1.setCell ⟨r,p * 7+5,none⟩ (.bool true)):=(GrP.refl (fun k=>(Value.slice (some ⟨r,0,none⟩) N cA).ownBlock=some k) w1).set (a:=⟨r,p * 7+5,none⟩) rfl _
   have hg2:GrP (fun k=>(Value.slice (some ⟨r,0,none⟩) N cA).ownBlock=some k) w1 ((w1.setCell ⟨r,p * 7+5,none⟩ (.bool true)).setCell ⟨r,p * 7+6,none⟩ (.int .i64 (S.ck+4))):=hg1.set (a:=⟨r,p * 7+6,none⟩) rfl _
   refine HW1.out.gs.oneM (y:=upX S.ck (S.M[p]'HPL.out)) HPL.out hg2 ?_ (HW1.out.gs.own.zM (S.M[p]'HPL.out) (List.getElem_mem HPL.out)) ⟨rfl,rfl,rfl,rfl⟩
   have h:=hB.2.2.2.2
   rw [show (mcs S.M)[p]'(by rw [List.length_map];exact HPL.out)=(S.M[p]'HPL.out).1 by simp [mcs]] at h
   exact h
  clear hB c2'
  go_wp2_with fail
  go_ret
  exact ⟨rfl,(HW1.out.trans HS.out).went rfl⟩
end
end Go.Proofs.YtccccbofcnmdiaaGreat
