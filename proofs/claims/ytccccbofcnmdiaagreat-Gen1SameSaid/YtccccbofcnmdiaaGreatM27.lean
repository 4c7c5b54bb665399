/- Lemmas that the law stands on. No condition. -/
import Derived.Test.YtccccbofcnmdiaaGreatM26
namespace Go.Proofs.YtccccbofcnmdiaaGreat
set_option linter.unusedSimpArgs false
set_option linter.unusedVariables false
set_option maxRecDepth 100000
set_option maxHeartbeats 51200000
section
open Go.RowKit


theorem load_yes (v:Sv)(S:Sg) (m:Int)(w:World)(hS:Hid (RdSt w v S))(hI:Hid (In2 m S))(hm:m<=1099511627776)(hR:Hid (Rg S)) :
  Calls Tryz.prog 22 #[.agg v.arr] w fun e w'=>(∃ g,e = .returned (.tuple #[.pointer (some ⟨g,0,none⟩),.int .i64 0])/\Gx w' w.heap.size g (fun k=>w.heap.size<=k) S)/\Below w.heap.size w w':=by
 have KR:=Lib.hid (fun (W:World)(h:RdSt W v S)=>right_yes v S m W (Lib.hid h) hI hm hR)
 have KC:=Lib.hid (fun (W:World)(h:RdSt W v S)=>copy_any v S W h (by rw [h.N];exact Nat.le_trans hI.out.M (by decide)) (by rw [h.K];exact Nat.le_trans hI.out.Q (by decide)) (by rw [h.n];exact Nat.le_trans hI.out.J (by decide)) hI.out.lM hI.out.lJ)
 have hck:v.ck=S.ck:=hS.out.ck
 have hnx:v.nx=S.nx:=hS.out.nx
 have hn1:=hI.out.nx
 rw [<- hnx] at hn1
 obtain ⟨ck,nx,A,N,cA,B,K0,cB,C,n,cC⟩:=v
 simp only at hck hnx hn1
 have HB0:Hid (Bk (w.alloc (.cells (⟨ck,nx,A,N,cA,B,K0,cB,C,n,cC⟩:Sv).arr 31)) w.heap.size 31 (⟨ck,nx,A,N,cA,B,K0,cB,C,n,cC⟩:Sv).arr):=Bk.fresh _ _ _
 have hb0:Below w.heap.size w (w.alloc (.cells (⟨ck,nx,A,N,cA,B,K0,cB,C,n,cC⟩:Sv).arr 31)):=(Below.refl _ _).alloc (Nat.le_refl _) _
 have HCK:=Lib.hid hck;have HNX:=Lib.hid hnx
 clear hck hnx
 go_enter Tryz.func22,Tryz.ntmps22
 go_wp2_with (with_reducible refine load_bk rfl 31 _ rfl w.heap.size 0 rfl 31 (⟨ck,nx,A,N,cA,B,K0,cB,C,n,cC⟩:Sv).arr (⟨ck,nx,A,N,cA,B,K0,cB,C,n,cC⟩:Sv).arr _ HB0.out (Part.whole _) Tryz.underlying31 rfl (by kernel_rfl) ?_)
 refine (KR.out _ (hS.out.later hb0)).mono ?_;rintro e w1 ⟨rfl,hb1⟩
 have HB1:=Lib.hid (HB0.out.later hb1)
 have hbb1:Below w.heap.size w w1:=hb0.trans (hb1.mono hb0.size)
 clear hb1 hb0 HB0
 go_wp2_with (with_reducible refine load_bk rfl 31 _ rfl w.heap.size 0 rfl 31 (⟨ck,nx,A,N,cA,B,K0,cB,C,n,cC⟩:Sv).arr (⟨ck,nx,A,N,cA,B,K0,cB,C,n,cC⟩:Sv).arr _ HB1.out (Part.whole _) Tryz.underlying31 rfl (by kernel_rfl) ?_)
 refine (KC.out _ (hS.out.later hbb1)).mono ?_
 rintro e w2 ⟨⟨uM,uQ,uJ,T,rfl,hO,hbr⟩,hb2⟩
 obtain ⟨⟨ck2,nx2,A2,N2,cA2,B2,K2,cB2,C2,n2,cC2⟩,hva,hvr⟩:=hO.rd
 have hv1:.slice A2 N2 cA2=uM:=congrArg (fun a:Array Value=>a.getD 2 undef) hva
 have hv2:.slice B2 K2 cB2=uQ:=congrArg (fun a:Array Value=>a.getD 3 undef) hva
 have hv3:.slice C2 n2 cC2=uJ:=congrArg (fun a:Array Value=>a.getD 4 undef) hva
 subst hv1 hv2 hv3
 clear hva hvr
 have hbb2:Below w.heap.size w w2:=hbb1.trans (hb2.mono hbb1.size)
 have HO:=Lib.hid (hO.base hbb1.size)
 have HBR:=Lib.hid hbr
 clear hO hbr hb2 HB1
 rw [show S.ck=ck from HCK.out.symm,show S.nx=nx from HNX.out.symm]
 go_wp2_with (first | ((with_reducible refine store_bk rfl 31 (.tmp 4) (.tmp 9) rfl w2.heap.size 0 #[.int .i64 ck,.int .i64 nx,(.slice A2 N2 cA2),(.slice B2 K2 cB2),(.slice C2 n2 cC2)] rfl rfl 31 _ #[.int .i64 ck,.int .i64 nx,(.slice A2 N2 cA2),(.slice B2 K2 cB2),(.slice C2 n2 cC2)] (Bk.fresh _ _ _) (by kernel_rfl) (by simp) (by kernel_rfl) rfl ?_);intro w3 hB3 hg3 hs3;have hb3:Below w2.heap.size w2 w3:=((Below.refl _ _).alloc (Nat.le_refl _) _).grown hg3 (by simp) (by intro k hk;injection hk with hk;omega);have HL3:Hid (w2.heap.size<w3.heap.size):=hB3.here;have c0:=hB3.cellAt 0;have c1:=hB3.cellAt 1;have c2:=hB3.cellAt 2;have c3:=hB3.cellAt 3;have c4:=hB3.cellAt 4;clear hB3 hg3 hs3))
 have hbb3:Below w.heap.size w w3:=hbb2.trans (hb3.mono hbb2.size)
 obtain ⟨e1,e2,_⟩:=bare_fields HBR.out
 have hbW:Below w3.heap.size w3 (w3.alloc (.cells #[.int .i64 ck,.int .i64 (nx - 1),(.slice A2 N2 cA2),(.slice B2 K2 cB2),(.slice C2 n2 cC2)] 73)):=(Below.refl _ _).alloc (Nat.le_refl _) _
 have HG:Gx (w3.alloc (.cells #[.int .i64 ck,.int .i64 (nx - 1),(.slice A2 N2 cA2),(.slice B2 K2 cB2),(.slice C2 n2 cC2)] 73)) w.heap.size w3.heap.size (fun k=>w.heap.size<=k) S:=by
  refine ⟨nx - 1,_,_,_,T,⟨?_,?_,(HO.out.below hb3).below hbW,hbb3.size,fun k hk=>?_⟩,HBR.out,fun k hk=>?_⟩
  ·rw [e1,<- HCK.out];exact Bk.fresh _ _ _
  ·rw [e2,<- HNX.out];omega
  ·have h1:=(HO.out.blk hk).2;have h2:=HL3.out;omega
  ·rcases hk with e | e
   ·rw [e];exact hbb3.size
   ·exact (HO.out.blk e).1
 have HF:Hid (Below w.heap.size w (w3.alloc (.cells #[.int .i64 ck,.int .i64 (nx - 1),(.slice A2 N2 cA2),(.slice B2 K2 cB2),(.slice C2 n2 cC2)] 73))):=hbb3.trans (hbW.mono hbb3.size)
 exact bodyPost_ret (v:=.tuple #[.pointer (some ⟨w3.heap.size,0,none⟩),.int .i64 0]) (by simp [results,Tryz.results22,go_sem]) rfl ⟨⟨w3.heap.size,rfl,HG⟩,HF.out⟩
end
section
open Go.RowKit
theorem onF_map {f:Jb->Int}{p:Jb->Bool}(hf:∀ j:Jb,f j.bare=f j)(hp:∀ j:Jb,p j.bare=p j):∀ J:List Jl,onF f p (bL J)=onF f p J
 | []=>rfl
 | x :: J=>by
  have ih:=onF_map hf hp J
  have e:tm f p (bY x)=tm f p x:=by unfold tm;rw [show (bY x).1=x.1.bare from rfl,hf,hp]
  show tm f p (bY x)+onF f p (bL J)=tm f p x+onF f p J
  rw [ih,e]
theorem Fit.map {p:Jb->Bool}(hp:∀ j:Jb,p j.bare=p j){J:List Jl}{a b c:Int}:Fit p (bL J) a b c ↔ Fit p J a b c:=by
 unfold Fit
 rw [onF_map (fun _=>rfl) hp,onF_map (fun _=>rfl) hp,onF_map (fun _=>rfl) hp]
theorem Rg.bared {S:Sg}:Rg S.bare ↔ Rg S:=by
 have mX:∀ {P:Ml->Prop},(∀ x ∈ bM S.M,P x) ↔ ∀ x ∈ S.M,P (bX x):=fun {P}=>⟨fun h x hx=>h _ (List.mem_map_of_mem hx),fun h x hx=>by obtain ⟨y,hy,rfl⟩:=List.mem_map.1 hx;exact h y hy⟩
 have mY:∀ {P:Jl->Prop},(∀ x ∈ bL S.J,P x) ↔ ∀ x ∈ S.J,P (bY x):=fun {P}=>⟨fun h x hx=>h _ (List.mem_map_of_mem hx),fun h x hx=>by obtain ⟨y,hy,rfl⟩:=List.mem_map.1 hx;exact h y hy⟩
 have nms:(bL S.J).map (fun x=>x.1.nm)=S.J.map fun x=>x.1.nm:=by rw [List.map_map];rfl
 constructor
 ·intro h
  have h1:=mX.1 h.mN
  refine ⟨h1,h.qN,⟨?_,mY.1 h.j.tk,?_,mY.1 h.j.qu,fun q hq=>(Fit.map fun _=>rfl).1 (h.j.us q hq),fun x hx hn=>?_,fun y hy=>?_,?_⟩⟩
  ·have h5:(S.J.map bY).Pairwise fun x y=>x.1.sq<y.1.sq:=h.j.sq
   have h6:=List.pairwise_map.1 h5
   exact h6
  ·have:=h.j.nd;unfold NdJ at this ⊢;rw [<- nms];exact this
  ·obtain ⟨a,y,hy,b,c⟩:=mY.1 h.j.hm x hx hn
   obtain ⟨z,hz,rfl⟩:=List.mem_map.1 hy
   exact ⟨a,z,hz,b,c⟩
  ·obtain ⟨a,b⟩:=mX.1 h.j.be y hy
   exact ⟨(Fit.map fun _=>rfl).1 a,mY.1 b⟩
  ·have h5:(S.J.map bY).Pairwise Apt:=h.j.ap
   have h6:=List.pairwise_map.1 h5
   exact h6
 ·intro h
  refine ⟨mX.2 h.mN,h.qN,⟨?_,mY.2 h.j.tk,?_,mY.2 h.j.qu,fun q hq=>(Fit.map fun _=>rfl).2 (h.j.us q hq),mY.2 fun x hx hn=>?_,mX.2 fun y hy=>?_,?_⟩⟩
  ·show (S.J.map bY).Pairwise fun x y=>x.1.sq<y.1.sq
   exact List.pairwise_map.2 h.j.sq
  ·have:=h.j.nd;unfold NdJ at this ⊢
   show ((bL S.J).map fun x=>x.1.nm).Nodup
   rw [nms];exact this
  ·obtain ⟨a,y,hy,b,c⟩:=h.j.hm x hx hn
   exact ⟨a,bX y,List.mem_map_of_mem hy,b,c⟩
  ·obtain ⟨a,b⟩:=h.j.be y hy
   exact ⟨(Fit.map fun _=>rfl).2 a,mY.2 b⟩
  ·show (S.J.map bY).Pairwise Apt
   exact List.pairwise_map.2 h.j.ap
theorem Rg.alike {S T:Sg}(h:Rg S)(e:T.bare=S.bare):Rg T:=Rg.bared.1 (by rw [e];exact Rg.bared.2 h)
theorem gx_told {b g:Nat}{F:Nat->Prop}{m:Int}{S:Sg}{w:World}(hG:Gx w b g F S)(hI:In2 m S) :
  Calls Tryz.prog 20 #[.pointer (some ⟨g,0,none⟩)] w fun e w'=>RetT1 w.heap.size w' e S/\Below w.heap.size w w':=by
 refine (gx_state b g F m S w hG hI).mono ?_
 rintro e w' ⟨⟨uM,uQ,uJ,S',rfl,hO,hbr⟩,-,hb⟩
 obtain ⟨⟨ck,nx,A,N,cA,B,K,cB,C,n,cC⟩,hva,hvr⟩:=hO.rd
 have hv1:.slice A N cA=uM:=congrArg (fun a:Array Value=>a.getD 2 undef) hva
 have hv2:.slice B K cB=uQ:=congrArg (fun a:Array Value=>a.getD 3 undef) hva
 have hv3:.slice C n cC=uJ:=congrArg (fun a:Array Value=>a.getD 4 undef) hva
 subst hv1 hv2 hv3
 have hck:S.ck=S'.ck:=(congrArg Sg.ck hbr:S'.bare.ck=S.bare.ck).symm
 have hnx:S.nx=S'.nx:=(congrArg Sg.nx hbr:S'.bare.nx=S.bare.nx).symm
 exact ⟨⟨⟨S.ck,S.nx,A,N,cA,B,K,cB,C,n,cC⟩,S',rfl,hO,hO.rdOf hck hnx,hbr,hck,hnx⟩,hb⟩
theorem load_told {v:Sv}{S T:Sg}{m:Int}{w:World}(hS:RdSt w v T)(e:T.bare=S.bare)(hI:In2 m S)(hm:m<=1099511627776)(hR:Rg S) :
  Calls Tryz.prog 22 #[.agg v.arr] w fun e w'=>(∃ g,e = .returned (.tuple #[.pointer (some ⟨g,0,none⟩),.int .i64 0])/\Gx w' w.heap.size g (fun k=>w.heap.size<=k) S)/\Below w.heap.size w w':=by
 refine (load_yes v T m w (Lib.hid hS) (Lib.hid (hI.alike e)) hm (Lib.hid (hR.alike e))).mono ?_
 rintro e' w' ⟨⟨g,rfl,lst,vM,vQ,vJ,S',h1,h2,h3⟩,hb⟩
 exact ⟨⟨g,rfl,lst,vM,vQ,vJ,S',h1,h2.trans e,h3⟩,hb⟩
theorem Tg.anew {w wr w1 w':World} {g h g':Nat}{F K:Nat->Prop}{S:Sg}{m:Int}(H:Tg w wr g h F K S S m m)(hb:Below wr.heap.size wr w1)(hb2:Below w1.heap.size w1 w')(hG:Gx w' w1.heap.size g' (fun k=>w1.heap.size<=k) S) :
  Tg w w' g g' F (fun k=>w1.heap.size<=k/\k<w'.heap.size) S S m m:=by
 have hb3:Below wr.heap.size wr w':=hb.trans (hb2.mono hb.size)
 have h1:=H.below hb3
 refine ⟨h1.g1,(hG.base (Nat.le_trans H.be.size hb.size)).wide fun k hk hf=>⟨hf,hk⟩,fun k hk hk2=>?_,h1.b1,fun k hk=>⟨Nat.le_trans (Nat.le_trans H.be.size hb.size) hk.1,hk.2⟩,H.i1,H.i1,h1.be⟩
 have:=(H.b1 k hk).2
 have:=hb.size
 have:=hk2.1
 omega
end
end Go.Proofs.YtccccbofcnmdiaaGreat
