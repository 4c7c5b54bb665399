/- Lemmas that the law stands on. No condition. -/
import Derived.Test.YtccccbofcnmdiaaGreatM22
namespace Go.Proofs.YtccccbofcnmdiaaGreat
set_option linter.unusedSimpArgs false
set_option linter.unusedVariables false
set_option maxRecDepth 100000
set_option maxHeartbeats 51200000
section
open Go.RowKit
theorem fnd_cases (s:ByteArray):∀ (l:List Jb) (k:Nat),fnd s k l = -1 ∨ ∃ p,∃ h:p<l.length,fnd s k l=((k+p:Nat):Int)/\sE l[p].nm s=true
 | [],k=>.inl rfl
 | j :: l,k=>by
  unfold fnd
  by_cases h:sE j.nm s=true
  ·rw [if_pos h];exact .inr ⟨0,by simp,by simp,h⟩
  ·rw [if_neg h]
   rcases fnd_cases s l (k+1) with e | ⟨p,hp,e,e2⟩
   ·exact .inl e
   ·exact .inr ⟨p+1,by simp;exact hp,by rw [e];congr 1;omega,e2⟩
theorem jl_at {J:List Jl} {p:Nat} (hp:p<J.length):jl J p=J[p]:=by simp [jl,List.getD,hp]
section
variable {w w' w1 w2:World} {b g:Nat} {lst:Int} {vM vQ vJ v':Value} {S:Sg}
theorem Gs.dropJ {p:Nat} (h:Gs w b g lst vM vQ vJ S) (hg:GrP (fun k=>vJ.ownBlock=some k) w w') (hO:OwnK w' b 66 13 v' (cellsJ ((jbs S.J).eraseIdx p))) (hat:v'.ownBlock=vJ.ownBlock) :
  Wn w (w'.setCell ⟨g,4,none⟩ v') b g vM vQ vJ S lst vM vQ v' { S with J:=S.J.eraseIdx p }:=
 h.setJ hg (by rw [jbs_erase];exact hO) (.inl hat) fun x hx=>⟨h.own.zJ x (List.mem_of_mem_eraseIdx hx),.inl ⟨x,List.mem_of_mem_eraseIdx hx,rfl,rfl,rfl,rfl⟩⟩
end
theorem erase_set {α:Type} {l:List α} {p:Nat} {y:α}:(l.set p y).eraseIdx p=l.eraseIdx p:=by
 rw [List.eraseIdx_eq_take_drop_succ,List.eraseIdx_eq_take_drop_succ,List.take_set_of_le (Nat.le_refl _),List.drop_set_of_lt (by omega)]


theorem finish_any (b g:Nat) (lst:Int) (vM vQ vJ:Value) (S:Sg) (s:ByteArray) (w:World) (hG:Hid (Gs w b g lst vM vQ vJ S)) (hM:Hid (Sm S)) :
  Calls Tryz.prog 89 #[.pointer (some ⟨g,0,none⟩),.string s] w fun e w'=>e = .returned (.int .i64 (finJ S s).2.1)/\Went w w' b g vM vQ vJ S (finJ S s).1:=by
 rcases fnd_cases s (jbs S.J) 0 with hf | ⟨p,hpj,hpe,hse⟩
 ·have hd:finJ S s=(S,7,[]):=by unfold finJ plJ;rw [hf];rfl
  rw [hd]
  refine (finish_no b g lst vM vQ vJ S s w hG.out hM.out hf).mono ?_
  rintro e w' ⟨rfl,hb⟩
  exact ⟨rfl,Went.same hG.out hb⟩
 ·skip
  obtain ⟨C,cC,hv,_,_,_,_⟩:=hG.out.own.J.sl
  obtain ⟨n,hn⟩:∃ n,n=S.J.length:=⟨_,rfl⟩
  rw [cellsJ_length,List.length_map,<- hn] at hv
  subst hv
  have hpl:p<S.J.length:=by rw [List.length_map] at hpj;exact hpj
  obtain ⟨r,rfl⟩:=hG.out.own.J.at0 (by rw [cellsJ_length,List.length_map];omega)
  have hpn:p<n:=by rw [hn];exact hpl
  obtain ⟨j,hj⟩:∃ j,j=(S.J[p]'hpl).1:=⟨_,rfl⟩
  have hjl:(jl S.J p).1=j:=by rw [jl_at hpl,hj]
  rw [Nat.zero_add] at hpe
  obtain ⟨q,hq⟩:∃ q,q=wB j.nd:=⟨_,rfl⟩
  have hd:finJ S s=if q then (S,12,[]) else ({ S with J:=S.J.eraseIdx p },0,[]):=by unfold finJ plJ;rw [hpe,if_neg (by omega),Int.toNat_natCast,hjl,hq]
  rw [hd]
  clear hd
  have k1:=find_any (some ⟨r,0,none⟩) n cC (jbs S.J) s w (show _=_ by rw [List.length_map];exact hn) (by have:=hM.out.J;omega) hG.out.own.rdJs (p:Int) hpe
  have c1:w.cell? ⟨g,4,none⟩=some (.slice (some ⟨r,0,none⟩) n cC):=hG.out.bk.cellAt 4
  have K1:=Lib.hid k1;have HPL:=Lib.hid hpl;have HJ:=Lib.hid hj;have HQ:=Lib.hid hq
  have HJL:Hid (S.J.length<=1000):=hM.out.J
  have HJN:Hid ((jbs S.J)[p]'(by rw [List.length_map];exact hpl)=j):=by show _=_;simp [jbs,hj]
  have hjat:∀ W,Gs W b g lst vM vQ (.slice (some ⟨r,0,none⟩) n cC) S->JAt W r (p * 13) j:=fun W h=>⟨by
   have h1:=h.own.J.range (p:=p) (by rw [cellsJ_length,List.length_map];exact HPL.out)
   have h2:(cellsJ (jbs S.J))[p]'(by rw [cellsJ_length,List.length_map];exact HPL.out)=j.cells:=by simp [cellsJ,hj]
   rw [h2] at h1
   exact h1⟩
  have KAT:=Lib.hid hjat
  clear k1 hjat hpj hpe hse hM hj hjl hn hq
  go_enter Tryz.func89,Tryz.ntmps89
  go_wp2_with fail
  refine K1.out.mono ?_;rintro e w1 ⟨rfl,hb1⟩
  have HW1:=Lib.hid (Wn.first hG.out hb1)
  have c2':w1.cell? ⟨g,4,none⟩=some (.slice (some ⟨r,0,none⟩) n cC):=HW1.out.gs.bk.cellAt 4
  have HAT:=Lib.hid (KAT.out _ HW1.out.gs)
  clear hb1 c1 K1 KAT
  go_wp2_with ((with_reducible refine load_rg rfl 66 _ rfl r (p * 13) rfl j.arr _ HAT.out.rg Tryz.underlying66 rfl (by kernel_rfl) ?_))
  refine (waits_any j _).mono ?_;rintro e w2 ⟨rfl,hb2⟩
  rw [<- HQ.out]
  have HW2:=Lib.hid (HW1.out.below hb2)
  clear hb2 c2' HAT HW1
  cases q
  case true=>
   go_wp2_with fail
   go_ret
   exact ⟨rfl,HW2.out.went rfl⟩
  case false=>
   have KR:=Lib.hid (fun W (h:OwnK W b 66 13 (.slice (some ⟨r,0,none⟩) n cC) (cellsJ (jbs S.J)))=>removeJ_any b (.slice (some ⟨r,0,none⟩) n cC) (jbs S.J) p W (by rw [List.length_map];exact HJL.out) (by rw [List.length_map];exact HPL.out) (Lib.hid h))
   have c4:w2.cell? ⟨g,4,none⟩=some (.slice (some ⟨r,0,none⟩) n cC):=HW2.out.gs.bk.cellAt 4
   go_wp2_with fail
   refine (KR.out _ HW2.out.gs.own.J).mono ?_;rintro e w8 ⟨⟨v',rfl,hO3,hat3⟩,hg3⟩
   obtain ⟨A3,c3,hv3,_,_,_,_⟩:=hO3.sl
   generalize hn3:List.length _=n3 at hv3
   subst hv3
   clear hn3
   have hgb:Bk w8 g 73 #[.int .i64 S.ck,.int .i64 lst,vM,vQ,.slice (some ⟨r,0,none⟩) n cC]:=HW2.out.gs.bk.grp hg3 fun e=>HW2.out.gs.ne _ (.inr (.inr (.inl e))) rfl
   have c8:w8.cell? ⟨g,4,none⟩=some (.slice (some ⟨r,0,none⟩) n cC):=hgb.cellAt 4
   have f8:w8.frozen? ⟨g,4,none⟩=false:=hgb.free 4
   have HS:=Lib.hid (HW2.out.gs.dropJ (p:=p) hg3 hO3 hat3)
   clear hO3 hat3 hg3 hgb c4
   go_wp2_with fail
   go_ret
   exact ⟨rfl,(HW2.out.trans HS.out).went rfl⟩


theorem cancel_any (b g:Nat) (lst:Int) (vM vQ vJ:Value) (S:Sg) (s:ByteArray) (w:World) (hG:Hid (Gs w b g lst vM vQ vJ S)) (hM:Hid (Sm S)) :
  Calls Tryz.prog 88 #[.pointer (some ⟨g,0,none⟩),.string s] w fun e w'=>(∃ A n c,e = .returned (.tuple #[.slice A n c,.int .i64 (canJ S s).2.1])/\RetL w.heap.size w' A n c (canJ S s).2.2)/\Went w w' b g vM vQ vJ S (canJ S s).1:=by
 rcases fnd_cases s (jbs S.J) 0 with hf | ⟨p,hpj,hpe,hse⟩
 ·have hd:canJ S s=(S,7,[]):=by unfold canJ plJ;rw [hf];rfl
  rw [hd]
  refine (cancel_no b g lst vM vQ vJ S s w hG.out hM.out hf).mono ?_
  rintro e w' ⟨rfl,hb⟩
  exact ⟨⟨none,0,0,rfl,RetL.nil _ _⟩,Went.same hG.out hb⟩
 ·skip
  obtain ⟨C,cC,hv,_,_,_,_⟩:=hG.out.own.J.sl
  obtain ⟨n,hn⟩:∃ n,n=S.J.length:=⟨_,rfl⟩
  rw [cellsJ_length,List.length_map,<- hn] at hv
  subst hv
  have hpl:p<S.J.length:=by rw [List.length_map] at hpj;exact hpj
  obtain ⟨r,rfl⟩:=hG.out.own.J.at0 (by rw [cellsJ_length,List.length_map];omega)
  have hpn:p<n:=by rw [hn];exact hpl
  obtain ⟨j,hj⟩:∃ j,j=(S.J[p]'hpl).1:=⟨_,rfl⟩
  have hjl:(jl S.J p).1=j:=by rw [jl_at hpl,hj]
  rw [Nat.zero_add] at hpe
  obtain ⟨q,hq⟩:∃ q,q=wB j.nd:=⟨_,rfl⟩
  have hd:canJ S s=({ S with J:=S.J.eraseIdx p },0,if q then [] else [(3,j.nm,j.nd)]):=by unfold canJ plJ;rw [hpe,if_neg (by omega),Int.toNat_natCast,hjl,hq]
  rw [hd]
  clear hd
  have k1:=find_any (some ⟨r,0,none⟩) n cC (jbs S.J) s w (show _=_ by rw [List.length_map];exact hn) (by have:=hM.out.J;omega) hG.out.own.rdJs (p:Int) hpe
  have c1:w.cell? ⟨g,4,none⟩=some (.slice (some ⟨r,0,none⟩) n cC):=hG.out.bk.cellAt 4
  have K1:=Lib.hid k1;have HPL:=Lib.hid hpl;have HJ:=Lib.hid hj;have HQ:=Lib.hid hq
  have HJL:Hid (S.J.length<=1000):=hM.out.J
  have HJN:Hid ((jbs S.J)[p]'(by rw [List.length_map];exact hpl)=j):=by show _=_;simp [jbs,hj]
  have hjat:∀ W,Gs W b g lst vM vQ (.slice (some ⟨r,0,none⟩) n cC) S->JAt W r (p * 13) j:=fun W h=>⟨by
   have h1:=h.own.J.range (p:=p) (by rw [cellsJ_length,List.length_map];exact HPL.out)
   have h2:(cellsJ (jbs S.J))[p]'(by rw [cellsJ_length,List.length_map];exact HPL.out)=j.cells:=by simp [cellsJ,hj]
   rw [h2] at h1
   exact h1⟩
  have KAT:=Lib.hid hjat
  clear k1 hjat hpj hpe hse hM hj hjl hn hq
  go_enter Tryz.func88,Tryz.ntmps88
  go_wp2_with fail
  refine K1.out.mono ?_;rintro e w1 ⟨rfl,hb1⟩
  have HW1:=Lib.hid (Wn.first hG.out hb1)
  have c2':w1.cell? ⟨g,4,none⟩=some (.slice (some ⟨r,0,none⟩) n cC):=HW1.out.gs.bk.cellAt 4
  have HAT:=Lib.hid (KAT.out _ HW1.out.gs)
  clear hb1 c1 K1 KAT
  go_wp2_with ((with_reducible refine load_rg rfl 66 _ rfl r (p * 13) rfl j.arr _ HAT.out.rg Tryz.underlying66 rfl (by kernel_rfl) ?_))
  refine (waits_any j _).mono ?_;rintro e w2 ⟨rfl,hb2⟩
  rw [<- HQ.out]
  have HW2:=Lib.hid (HW1.out.below hb2)
  clear hb2 c2' HAT HW1
  cases q
  case true=>
   have KR:=Lib.hid (fun W (h:OwnK W b 66 13 (.slice (some ⟨r,0,none⟩) n cC) (cellsJ (jbs S.J)))=>removeJ_any b (.slice (some ⟨r,0,none⟩) n cC) (jbs S.J) p W (by rw [List.length_map];exact HJL.out) (by rw [List.length_map];exact HPL.out) (Lib.hid h))
   have c4:w2.cell? ⟨g,4,none⟩=some (.slice (some ⟨r,0,none⟩) n cC):=HW2.out.gs.bk.cellAt 4
   go_wp2_with fail
   refine (KR.out _ HW2.out.gs.own.J).mono ?_;rintro e w8 ⟨⟨v',rfl,hO3,hat3⟩,hg3⟩
   obtain ⟨A3,c3,hv3,_,_,_,_⟩:=hO3.sl
   generalize hn3:List.length _=n3 at hv3
   subst hv3
   clear hn3
   have hgb:Bk w8 g 73 #[.int .i64 S.ck,.int .i64 lst,vM,vQ,.slice (some ⟨r,0,none⟩) n cC]:=HW2.out.gs.bk.grp hg3 fun e=>HW2.out.gs.ne _ (.inr (.inr (.inl e))) rfl
   have c8:w8.cell? ⟨g,4,none⟩=some (.slice (some ⟨r,0,none⟩) n cC):=hgb.cellAt 4
   have f8:w8.frozen? ⟨g,4,none⟩=false:=hgb.free 4
   have HS:=Lib.hid (HW2.out.gs.dropJ (p:=p) hg3 hO3 hat3)
   clear hO3 hat3 hg3 hgb c4
   go_wp2_with fail
   exact bodyPost_ret (v:=.tuple #[.slice none 0 0,.int .i64 0]) (by simp [results,Tryz.results88,go_sem]) rfl ⟨⟨none,0,0,rfl,RetL.nil _ _⟩,(HW2.out.trans HS.out).went rfl⟩
  case false=>
   have c4:w2.cell? ⟨g,4,none⟩=some (.slice (some ⟨r,0,none⟩) n cC):=HW2.out.gs.bk.cellAt 4
   have KU:=Lib.hid (unbind_any b r n cC p 3 (jbs S.J) w2 (by rw [List.length_map];exact HPL.out) (Lib.hid HW2.out.gs.own.J))
   rw [HJN.out] at KU
   go_wp2_with fail
   refine KU.out.mono ?_;rintro e w5 ⟨rfl,hO5,hg5⟩
   have hT:Wn w2 w5 b g vM vQ (.slice (some ⟨r,0,none⟩) n cC) S lst vM vQ (.slice (some ⟨r,0,none⟩) n cC) { S with J:=S.J.set p (restX (S.J[p]'HPL.out)) }:=HW2.out.gs.oneJ (y:=restX (S.J[p]'HPL.out)) HPL.out (hg5.wide fun q _ e=>by rw [e];rfl) (by show OwnK _ _ _ _ _ (cellsJ ((jbs S.J).set p (S.J[p]'HPL.out).1.rest));rw [<- HJ.out];exact hO5) (JzOk.rest (HW2.out.gs.own.zJ _ (List.getElem_mem HPL.out))) ⟨rfl,rfl,rfl,rfl⟩
   have HT:=Lib.hid (HW2.out.trans hT)
   have HSZ:Hid (w.heap.size<=w5.heap.size):=(HW2.out.trans hT).gr.size
   clear hO5 hg5 hT KU c4
   go_wp2_with ((with_reducible refine append_ka _ rfl (.tmp 25) (.tmp 33) 34 rfl w.heap.size 64 _ 3 40 Tryz.underlying34 infoA15 rfl (by omega) (.slice none 0 0) [] rfl (OwnK.nil _ _ _ _) ⟨w5.heap.size,0,none⟩ 1 1 (cellsA [(3,j.nm,j.nd)]) rfl (rdA1 (x:=(3,j.nm,j.nd)) (Bk.fresh _ _ _)) (cellsA_k _) (cellsA_one _) rfl (by rw [cellsA_length [(3,j.nm,j.nd)]];simp [maxLen]) (by rw [cellsA_length [(3,j.nm,j.nd)]];simp) (by have:=HSZ.out;simp;omega) ?_);intro v6 w6 hO6 hg6 hat6;clear hat6;have HW6:=Lib.hid ((HT.out.below ((Below.refl _ _).alloc (Nat.le_refl _) _)).acts (OwnK.nil _ w.heap.size 64 3) hg6 (Nat.le_refl _));have HO6:Hid (OwnK w6 w.heap.size 64 3 v6 (cellsA [(3,j.nm,j.nd)])):=hO6;clear hO6 hg6;have c4:w6.cell? ⟨g,4,none⟩=some (.slice (some ⟨r,0,none⟩) n cC):=HW6.out.gs.bk.cellAt 4)
   have KR:=Lib.hid (fun W (h:OwnK W b 66 13 (.slice (some ⟨r,0,none⟩) n cC) (cellsJ (jbs (S.J.set p (restX (S.J[p]'HPL.out))))))=>removeJ_any b (.slice (some ⟨r,0,none⟩) n cC) (jbs (S.J.set p (restX (S.J[p]'HPL.out)))) p W (by rw [List.length_map,List.length_set];exact HJL.out) (by rw [List.length_map,List.length_set];exact HPL.out) (Lib.hid h))
   refine (KR.out _ HW6.out.gs.own.J).mono ?_;rintro e w8 ⟨⟨v',rfl,hO3,hat3⟩,hg3⟩
   obtain ⟨A3,c3,hv3,_,_,_,_⟩:=hO3.sl
   generalize hn3:List.length _=n3 at hv3
   subst hv3
   clear hn3
   have hgb:Bk w8 g 73 #[.int .i64 S.ck,.int .i64 lst,vM,vQ,.slice (some ⟨r,0,none⟩) n cC]:=HW6.out.gs.bk.grp hg3 fun e=>HW6.out.gs.ne _ (.inr (.inr (.inl e))) rfl
   have c8:w8.cell? ⟨g,4,none⟩=some (.slice (some ⟨r,0,none⟩) n cC):=hgb.cellAt 4
   have f8:w8.frozen? ⟨g,4,none⟩=false:=hgb.free 4
   have HS:=Lib.hid (HW6.out.gs.dropJ (p:=p) hg3 hO3 hat3)
   clear hO3 hat3 hg3 hgb c4
   go_wp2_with fail
   obtain ⟨A6,c6,hv6,_,_,_⟩:=HO6.out.acts
   subst hv6
   exact bodyPost_ret (v:=.tuple #[.slice A6 1 c6,.int .i64 0]) (by simp [results,Tryz.results88,go_sem]) rfl ⟨⟨A6,1,c6,rfl,RetL.own (HS.out.rowA HW6.out.gs HO6.out)⟩,(HW6.out.trans HS.out).went (by show (⟨_,_,_,_,_⟩:Sg)=⟨_,_,_,_,_⟩;simp only [erase_set])⟩
end
end Go.Proofs.YtccccbofcnmdiaaGreat
