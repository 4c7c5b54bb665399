/- Lemmas that the law stands on. No condition. -/
import Derived.Test.YtccccbofcnmdiaaGreatM27
namespace Go.Proofs.YtccccbofcnmdiaaGreat
set_option linter.unusedSimpArgs false
set_option linter.unusedVariables false
set_option maxRecDepth 100000
set_option maxHeartbeats 51200000
section
open Go.RowKit
abbrev Chs15:=List Ml->List Jl->Nat->ByteArray × List ByteArray × Bool
def cellsN (l:List ByteArray):List (List Value):=l.map fun s=>[.string s]
structure ChoK (ch:Chs15):Prop where
 calls:∀ (A0:Option Addr) (N c0:Nat) (L:List Ml) (A:Option Addr) (n cap:Nat) (J:List Jl) (p:Nat) (w:World) (hp:p<J.length),N=L.length->N<=1000000->RdM w A0 (mcs L)->MsOk w L->n=J.length->n<=1000000->RdJ w A (jbs J)->KtOk w J[p].1.tk J[p].2 ->
  Calls Tryz.prog 191 #[.slice A0 N c0,.slice A n cap,.agg J[p].1.tk.arr] w fun e w'=>(∃ v,e = .returned (.tuple #[.string (ch L J p).1,v,.bool (ch L J p).2.2])/\OwnK w' w.heap.size 9 1 v (cellsN (ch L J p).2.1))/\Below w.heap.size w w'
 mem:∀ L J p,(ch L J p).2.2=true -> ∃ x ∈ L,x.1.nm=(ch L J p).1
 nms:∀ L J p,(ch L J p).2.2=true -> ∀ s ∈ (ch L J p).2.1,∃ x ∈ J,sE x.1.nm s=true
 few:∀ L J p,(ch L J p).2.1.length<=J.length
def outS (T:List Jl × List Ac) (s:ByteArray):List Jl × List Ac:=
 (T.1.set (plJ s T.1).toNat (restX (jl T.1 (plJ s T.1).toNat)),T.2 ++ [(2,(jl T.1 (plJ s T.1).toNat).1.nm,(jl T.1 (plJ s T.1).toNat).1.nd)])
def evK (J:List Jl) (names:List ByteArray) (k:Nat):List Jl × List Ac:=(names.take k).foldl outS (J,[])
def preG (ch:Chs15) (M:List Ml) (J:List Jl) (p:Nat):List Jl × List Ac:=
 if (ch M J p).2.2 then (bindJ (ch M J p).1 p (evK J (ch M J p).2.1 (ch M J p).2.1.length).1,(evK J (ch M J p).2.1 (ch M J p).2.1.length).2 ++ [(1,(jl (evK J (ch M J p).2.1 (ch M J p).2.1.length).1 p).1.nm,(ch M J p).1)]) else (J,[])
def coreB (x:Jl):Jl:=({ x.1 with nd:=⟨#[]⟩ },x.2)
theorem coreB_core {J K:List Jl} (h:J.map coreB=K.map coreB):J.map core=K.map core:=by
 have h1:∀ L:List Jl,L.map core=(L.map coreB).map core:=fun L=>by rw [List.map_map];rfl
 rw [h1 J,h1 K,h]
theorem outS_core (T:List Jl × List Ac) (s:ByteArray):(outS T s).1.map coreB=T.1.map coreB:=map_set_same fun hp=>by rw [jl_at hp];rfl
theorem evK_succ {J:List Jl} {names:List ByteArray} {k:Nat} (hk:k<names.length):evK J names (k+1)=outS (evK J names k) names[k]:=by
 unfold evK;rw [List.take_succ_eq_append_getElem hk,List.foldl_append];rfl
theorem evK_core {J:List Jl} {names:List ByteArray}:∀ k,k<=names.length->(evK J names k).1.map coreB=J.map coreB/\(evK J names k).2.length=k
 | 0,_=>⟨rfl,rfl⟩
 | k+1,hk=>by
  rw [evK_succ (by omega)]
  obtain ⟨h1,h2⟩:=evK_core (J:=J) (names:=names) k (by omega)
  exact ⟨(outS_core _ _).trans h1,by unfold outS;simp [h2]⟩
theorem coreB_at {J K:List Jl} (h:J.map coreB=K.map coreB) {p:Nat} (hp:p<J.length) (hk:p<K.length):coreB J[p]=coreB K[p]:=by
 have h1:(J.map coreB)[p]'(by simpa using hp)=(K.map coreB)[p]'(by simpa using hk):=by simp only [h]
 simpa using h1
theorem fnd_none {s:ByteArray} {J:List Jl} (h:fnd s 0 (jbs J) = -1):∀ y ∈ J,¬ sE y.1.nm s=true:=by
 have key:∀ (l:List Jb) (k:Nat),fnd s k l = -1 -> ∀ y ∈ l,¬ sE y.nm s=true:=by
  intro l
  induction l with
  | nil=>intro k _ y hy;cases hy
  | cons j l ih=>
   intro k hk y hy
   unfold fnd at hk
   by_cases h:sE j.nm s=true
   ·rw [if_pos h] at hk;omega
   ·rw [if_neg h] at hk
    rcases List.mem_cons.1 hy with rfl | hy
    ·exact h
    ·exact ih _ hk y hy
 exact fun y hy=>key _ 0 h y.1 (List.mem_map_of_mem hy)
theorem coreB_nm {J K:List Jl} (h:J.map coreB=K.map coreB) {s:ByteArray} (hx:∃ x ∈ K,sE x.1.nm s=true):∃ q,∃ hq:q<J.length,plJ s J=(q:Int):=by
 rcases fnd_cases s (jbs J) 0 with hf | ⟨q,hq,he,_⟩
 ·exfalso
  obtain ⟨x,hx,hs⟩:=hx
  obtain ⟨y,hy,e⟩:=core_mem (coreB_core h.symm) hx
  have e1:y.1.nm=x.1.nm:=(congrArg (fun t:Kt=>t.nm) (core_tk e).1)
  exact fnd_none hf y hy (by rw [e1];exact hs)
 ·exact ⟨q,by rw [List.length_map] at hq;exact hq,by unfold plJ;rw [he,Nat.zero_add]⟩
structure Ou (w wr:World) (b g:Nat) (lst:Int) (vM vQ vJ:Value) (S:Sg) (T:List Jl × List Ac) (vN:Value) (names:List ByteArray) (vA:Value):Prop where
 wn:Wn w wr b g vM vQ vJ S lst vM vQ vJ { S with J:=T.1 }
 ac:OwnK wr w.heap.size 64 3 vA (cellsA T.2)
 nm:OwnK wr w.heap.size 9 1 vN (cellsN names)
section
variable {w wr w' w1 w2 w3:World} {b g r n c q:Nat} {lst:Int} {vM vQ vJ vA vN v':Value} {S:Sg} {T:List Jl × List Ac} {names:List ByteArray}
theorem Ou.below (h:Ou w wr b g lst vM vQ vJ S T vN names vA) (hb:Below wr.heap.size wr w'):Ou w w' b g lst vM vQ vJ S T vN names vA:=⟨h.wn.below hb,h.ac.below hb,h.nm.below hb⟩
theorem Ou.turn (h:Ou w wr b g lst vM vQ vJ S T vN names vA) (hq:q<T.1.length) (hg:GrP (fun k=>vJ.ownBlock=some k) wr w1) (hO:OwnK w1 b 66 13 vJ (cellsJ ((jbs T.1).set q T.1[q].1.rest))) :
  Wn w w1 b g vM vQ vJ S lst vM vQ vJ { S with J:=T.1.set q (restX T.1[q]) } /\ OwnK w1 w.heap.size 64 3 vA (cellsA T.2)/\OwnK w1 w.heap.size 9 1 vN (cellsN names):=
 ⟨h.wn.trans (h.wn.gs.oneJ (y:=restX T.1[q]) hq hg hO (JzOk.rest (h.wn.gs.own.zJ T.1[q] (List.getElem_mem hq))) ⟨rfl,rfl,rfl,rfl⟩),h.ac.grp hg fun k hk e=>h.ac.parted h.wn.gs.own.J (by decide) hk e,h.nm.grp hg fun k hk e=>h.nm.parted h.wn.gs.own.J (by decide) hk e⟩
theorem Ou.put {vB:Value} {x:Ac} {J':List Jl} (h:Wn w w1 b g vM vQ vJ S lst vM vQ vJ { S with J:=J' } /\ OwnK w1 w.heap.size 64 3 vA (cellsA T.2)/\OwnK w1 w.heap.size 9 1 vN (cellsN names)) (hb:Below w1.heap.size w1 w2) (hO:OwnK w3 w.heap.size 64 3 vB (cellsA T.2 ++ cellsA [x])) (hg:w2.grownBy w3 vA.ownBlock) :
  Ou w w3 b g lst vM vQ vJ S (J',T.2 ++ [x]) vN names vB:=
 ⟨(h.1.below hb).acts (h.2.1.below hb) hg (Nat.le_refl _),by rw [cellsA_append];exact hO,(h.2.2.below hb).grp (GrP.of hg) fun k hk e=>(h.2.2.below hb).parted (h.2.1.below hb) (by decide) hk e⟩
end
section
variable {o:Oper} {a:Act} {w:World} {K:Act->World->Prop} {Q:Exit->Act->World->Prop}
theorem aone15_op (t:Tmp) (m:Ac) (ho:o.op = .buildSlice 34 1 #[(0,.tmp t)]) (hx:a.tmps[t]?.getD undef = .agg #[.int .i64 m.1,.string m.2.1,.string m.2.2]) (h:∀ g w',g=w.heap.size->w'.heap.size=w.heap.size+1->Bk w' g 64 #[.int .i64 m.1,.string m.2.1,.string m.2.2]->Below w.heap.size w w' -> K (a.put o.dst (.slice (some ⟨g,0,none⟩) 1 1)) w'):o.wp Tryz.prog a w K Q:=by
 unfold Oper.wp execOp
 simp only [ho]
 go_simp
 exact h _ _ rfl (by simp) (Bk.fresh w _ _) ((Below.refl _ _).alloc (Nat.le_refl _) _)
end


theorem preempt_any (ch:Chs15) (hC:Hid (ChoK ch)) (b g p:Nat) (lst:Int) (vM vQ vJ:Value) (S:Sg) (w:World) (hG:Hid (Gs w b g lst vM vQ vJ S)) (hM:Hid (Sm S)) (hp:p<S.J.length) (hbo:Hid (∀ x ∈ S.J,-4611686018427387904<=x.1.bo/\x.1.bo<=4611686018427387904)) :
  Calls Tryz.prog 171 #[.pointer (some ⟨g,0,none⟩),.int .i64 p] w fun e w'=>(∃ v,e = .returned v/\OwnK w' w.heap.size 64 3 v (cellsA (preG ch S.M S.J p).2))/\Wn w w' b g vM vQ vJ S lst vM vQ vJ { S with J:=(preG ch S.M S.J p).1 }:=by
 obtain ⟨A0,c0,hv,-,-,-,-⟩:=hG.out.own.M.sl
 obtain ⟨N,hN⟩:∃ N,N=S.M.length:=⟨_,rfl⟩
 rw [cellsM_length,List.length_map,<- hN] at hv
 subst hv
 obtain ⟨C,cC,hv,hrd,-,-,-⟩:=hG.out.own.J.sl
 obtain ⟨n,hn⟩:∃ n,n=S.J.length:=⟨_,rfl⟩
 rw [cellsJ_length,List.length_map,<- hn] at hv
 subst hv
 obtain ⟨r,rfl⟩:=hG.out.own.J.at0 (by rw [cellsJ_length,List.length_map];omega)
 have HN:=Lib.hid hN;have HNJ:=Lib.hid hn
 have HNB:Hid (N<=1000):=by show _<=_;rw [hN];exact hM.out.M
 have HJB:Hid (n<=1000):=by show _<=_;rw [hn];exact hM.out.J
 have hpn:p<n:=by rw [hn];exact hp
 have HP:=Lib.hid hp
 obtain ⟨j,hj⟩:∃ j,j=(S.J[p]'hp).1:=⟨_,rfl⟩
 have krg:∀ W,Gs W b g lst (.slice A0 N c0) vQ (.slice (some ⟨r,0,none⟩) n cC) S->W.rangeAt r (p * 13) j.tk.arr.toList:=fun W h=>by
  have h1:=h.own.J.range (p:=p) (by rw [cellsJ_length,List.length_map];exact hp)
  have h2:(cellsJ (jbs S.J))[p]'(by rw [cellsJ_length,List.length_map];exact hp)=j.cells:=by simp [cellsJ,hj]
  rw [h2] at h1
  exact range_tk h1
 obtain ⟨mn,hmn⟩:∃ mn,mn=(ch S.M S.J p).1:=⟨_,rfl⟩
 obtain ⟨names,hnm⟩:∃ names,names=(ch S.M S.J p).2.1:=⟨_,rfl⟩
 obtain ⟨ok,hok⟩:∃ ok,ok=(ch S.M S.J p).2.2:=⟨_,rfl⟩
 have kb:∀ W,Gs W b g lst (.slice A0 N c0) vQ (.slice (some ⟨r,0,none⟩) n cC) S->Calls Tryz.prog 191 #[.slice A0 N c0,.slice (some ⟨r,0,none⟩) n cC,.agg j.tk.arr] W fun e w'=>(∃ v,e = .returned (.tuple #[.string mn,v,.bool ok])/\OwnK w' W.heap.size 9 1 v (cellsN names))/\Below W.heap.size W w':=fun W h=>by
  have:=hC.out.calls A0 N c0 S.M (some ⟨r,0,none⟩) n cC S.J p W hp hN (by have:=HNB.out;omega) h.own.rdMs h.msOk hn (by have:=HJB.out;omega) h.own.rdJs (h.ktOk rfl hp)
  rw [<- hj,<- hmn,<- hok,<- hnm] at this
  exact this
 have hpre:preG ch S.M S.J p=if ok then (bindJ mn p (evK S.J names names.length).1,(evK S.J names names.length).2 ++ [(1,(jl (evK S.J names names.length).1 p).1.nm,mn)]) else (S.J,[]):=by unfold preG;rw [<- hok,<- hnm,<- hmn]
 have hnms:ok=true -> ∀ s ∈ names,∃ x ∈ S.J,sE x.1.nm s=true:=fun e=>by rw [hnm];exact hC.out.nms _ _ _ (by rw [<- hok];exact e)
 have hmem:ok=true->mn.size<=140737488351232:=fun e=>by obtain ⟨x,hx,he⟩:=hC.out.mem S.M S.J p (by rw [<- hok];exact e);rw [hmn,<- he];exact hG.out.own.zM x hx
 have hfew:names.length<=1000:=by rw [hnm];exact Nat.le_trans (hC.out.few _ _ _) hM.out.J
 obtain ⟨R,hR⟩:∃ R,R=preG ch S.M S.J p:=⟨_,rfl⟩
 rw [<- hR]
 rw [<- hR] at hpre
 have KRG:=Lib.hid krg;have KB:=Lib.hid kb;have HPRE:=Lib.hid hpre;have HNMS:=Lib.hid hnms;have HMEM:=Lib.hid hmem;have HFEW:=Lib.hid hfew;have HJE:=Lib.hid hj
 clear krg kb hpre hnms hmem hfew hR hmn hnm hok hN hn hrd hj hM
 go_enter Tryz.func171,Tryz.ntmps171
 go_wp2_with fail
 refine wp_region_held_drew (S:=fun W=>Gs W b g lst (.slice A0 N c0) vQ (.slice (some ⟨r,0,none⟩) n cC) S/\Below w.heap.size w W) (by kernel_rfl) (⟨hG.out.below (Below.drew (Below.refl _ _)),Below.drew (Below.refl _ _)⟩) (fun hS0=>?_)
 refine wpAnyH_take (i:=0) (v:=?_) rfl (by kernel_rfl) (by kernel_rfl) (by kernel_rfl) (fun _ _ _ h=>h) (Or.inl ⟨by rfl,?_⟩) hS0 ?_
 rotate_left
 ·intro W _;go_simp;try with_reducible rfl
 try simp only [Act.put,tD,tB,tA,tE,tF]
 refine wpAnyH_take (i:=1) (v:=?_) rfl (by kernel_rfl) (by kernel_rfl) (by kernel_rfl) (fun _ _ _ h=>h) (Or.inl ⟨by rfl,?_⟩) hS0 ?_
 rotate_left
 ·intro W _;go_simp;try with_reducible rfl
 try simp only [Act.put,tD,tB,tC,tA,tE,tF]
 refine wpAnyH_take (i:=2) (v:=?_) rfl (by kernel_rfl) (by kernel_rfl) (by kernel_rfl) (fun _ _ _ h=>h) (Or.inl ⟨by rfl,?_⟩) hS0 ?_
 rotate_left
 ·intro W _;go_simp;try with_reducible rfl
 try simp only [Act.put,tD,tB,tC,tA,tE,tF]
 refine wpAnyH_take (i:=3) (v:=?_) rfl (by kernel_rfl) (by kernel_rfl) (by kernel_rfl) (fun _ _ _ h=>h) (Or.inl ⟨by rfl,?_⟩) hS0 ?_
 rotate_left
 ·intro W hSW;have hx:=hSW.1.bk.cellAt 2;go_simp;try with_reducible rfl
 try simp only [Act.put,tD,tB,tC,tA,tE,tF]
 refine wpAnyH_take (i:=4) (v:=?_) rfl (by kernel_rfl) (by kernel_rfl) (by kernel_rfl) (fun _ _ _ h=>h) (Or.inl ⟨by rfl,?_⟩) hS0 ?_
 rotate_left
 ·intro W _;go_simp;try with_reducible rfl
 try simp only [Act.put,tD,tB,tC,tA,tE,tF]
 refine wpAnyH_take (i:=5) (v:=?_) rfl (by kernel_rfl) (by kernel_rfl) (by kernel_rfl) (fun _ _ _ h=>h) (Or.inl ⟨by rfl,?_⟩) hS0 ?_
 rotate_left
 ·intro W _;go_simp;try with_reducible rfl
 try simp only [Act.put,tD,tB,tC,tA,tE,tF]
 refine wpAnyH_take (i:=6) (v:=?_) rfl (by kernel_rfl) (by kernel_rfl) (by kernel_rfl) (fun _ _ _ h=>h) (Or.inl ⟨by rfl,?_⟩) hS0 ?_
 rotate_left
 ·intro W _;go_simp;try with_reducible rfl
 try simp only [Act.put,tD,tB,tC,tA,tE,tF]
 refine wpAnyH_take (i:=7) (v:=?_) rfl (by kernel_rfl) (by kernel_rfl) (by kernel_rfl) (fun _ _ _ h=>h) (Or.inl ⟨by rfl,?_⟩) hS0 ?_
 rotate_left
 ·intro W hSW;have hx:=hSW.1.bk.cellAt 4;go_simp;try with_reducible rfl
 try simp only [Act.put,tD,tB,tC,tA,tE,tF]
 refine wpAnyH_take (i:=8) (v:=?_) rfl (by kernel_rfl) (by kernel_rfl) (by kernel_rfl) (fun _ _ _ h=>h) (Or.inl ⟨by rfl,?_⟩) hS0 ?_
 rotate_left
 ·intro W _;go_simp;try with_reducible rfl
 try simp only [Act.put,tD,tB,tC,tA,tE,tF]
 refine wpAnyH_take (i:=9) (v:=?_) rfl (by kernel_rfl) (by kernel_rfl) (by kernel_rfl) (fun _ _ _ h=>h) (Or.inl ⟨by rfl,?_⟩) hS0 ?_
 rotate_left
 ·intro W _;go_simp;try with_reducible rfl
 try simp only [Act.put,tD,tB,tC,tA,tE,tF]
 refine wpAnyH_take (i:=10) (v:=?_) rfl (by kernel_rfl) (by kernel_rfl) (by kernel_rfl) (fun _ _ _ h=>h) (Or.inl ⟨by rfl,?_⟩) hS0 ?_
 rotate_left
 ·intro W _;go_simp;try with_reducible rfl
 try simp only [Act.put,tD,tB,tC,tA,tE,tF]
 refine wpAnyH_take (i:=11) (v:=?_) rfl (by kernel_rfl) (by kernel_rfl) (by kernel_rfl) (fun _ _ _ h=>h) (Or.inl ⟨by rfl,?_⟩) hS0 ?_
 rotate_left
 ·intro W hSW;have hx:=hSW.1.bk.cellAt 4;go_simp;try with_reducible rfl
 try simp only [Act.put,tD,tB,tC,tA,tE,tF]
 refine wpAnyH_take (i:=12) (v:=?_) rfl (by kernel_rfl) (by kernel_rfl) (by kernel_rfl) (fun _ _ _ h=>h) (Or.inl ⟨by rfl,?_⟩) hS0 ?_
 rotate_left
 ·intro W _;go_simp;try with_reducible rfl
 try simp only [Act.put,tD,tB,tC,tA,tE,tF]
 refine wpAnyH_take (i:=13) (v:=?_) rfl (by kernel_rfl) (by kernel_rfl) (by kernel_rfl) (fun _ _ _ h=>h) (Or.inl ⟨by rfl,?_⟩) hS0 ?_
 rotate_left
 ·intro W _;go_simp;try with_reducible rfl
 try simp only [Act.put,tD,tB,tC,tA,tE,tF]
 refine wpAnyH_take (i:=14) (v:=?_) rfl (by kernel_rfl) (by kernel_rfl) (by kernel_rfl) (fun _ _ _ h=>h) (Or.inl ⟨by rfl,?_⟩) hS0 ?_
 rotate_left
 ·intro W _;go_simp;try with_reducible rfl
 try simp only [Act.put,tD,tB,tC,tA,tE,tF]
 refine wpAnyH_take (i:=15) (v:=.agg j.tk.arr) rfl (by kernel_rfl) (by kernel_rfl) (by kernel_rfl) (fun _ _ _ h=>h) (yields_rg (by rfl) 47 _ rfl r (p * 13) rfl j.tk.arr _ (fun W hW=>KRG.out W hW.1) Tryz.underlying47 rfl (by kernel_rfl)) hS0 ?_
 try simp only [Act.put,tD,tB,tC,tA,tE,tF]
 refine wpAnyH_ready (rs:=[16]) (by kernel_rfl) (by simp) ?_
 refine AllReadyH.cons rfl (fun K hK=>?_) AllReadyH.nil
 go_simp
 refine (KB.out _ hS0.1).mono ?_
 rintro e w1 ⟨⟨vN,rfl,hN1⟩,hb1⟩
 go_simp
 refine hK.out _ _ (⟨hS0.1.below hb1,hS0.2.trans (hb1.mono hS0.2.size)⟩) (fun hS1=>?_)
 clear hK K
 try simp only [Act.put,tD,tB,tC,tA,tE,tF]
 refine wpAnyH_take (i:=17) (v:=?_) rfl (by kernel_rfl) (by kernel_rfl) (by kernel_rfl) (fun _ _ _ h=>h) (Or.inl ⟨by rfl,?_⟩) hS1 ?_
 rotate_left
 ·intro W _;go_simp;try with_reducible rfl
 try simp only [Act.put,tD,tB,tC,tA,tE,tF]
 refine wpAnyH_take (i:=18) (v:=?_) rfl (by kernel_rfl) (by kernel_rfl) (by kernel_rfl) (fun _ _ _ h=>h) (Or.inl ⟨by rfl,?_⟩) hS1 ?_
 rotate_left
 ·intro W _;go_simp;try with_reducible rfl
 try simp only [Act.put,tD,tB,tC,tA,tE,tF]
 refine wpAnyH_take (i:=21) (v:=?_) rfl (by kernel_rfl) (by kernel_rfl) (by kernel_rfl) (fun _ _ _ h=>h) (Or.inl ⟨by rfl,?_⟩) hS1 ?_
 rotate_left
 ·intro W _;go_simp;try with_reducible rfl
 try simp only [Act.put,tD,tB,tC,tA,tE,tF]
 refine wpAnyH_take (i:=19) (v:=?_) rfl (by kernel_rfl) (by kernel_rfl) (by kernel_rfl) (fun _ _ _ h=>h) (Or.inl ⟨by rfl,?_⟩) hS1 ?_
 rotate_left
 ·intro W _;go_simp;try with_reducible rfl
 try simp only [Act.put,tD,tB,tC,tA,tE,tF]
 refine wpAnyH_take (i:=22) (v:=?_) rfl (by kernel_rfl) (by kernel_rfl) (by kernel_rfl) (fun _ _ _ h=>h) (Or.inl ⟨by rfl,?_⟩) hS1 ?_
 rotate_left
 ·intro W _;go_simp;try with_reducible rfl
 try simp only [Act.put,tD,tB,tC,tA,tE,tF]
 refine wpAnyH_take (i:=20) (v:=?_) rfl (by kernel_rfl) (by kernel_rfl) (by kernel_rfl) (fun _ _ _ h=>h) (Or.inl ⟨by rfl,?_⟩) hS1 ?_
 rotate_left
 ·intro W _;go_simp;try with_reducible rfl
 try simp only [Act.put,tD,tB,tC,tA,tE,tF]
 refine wpAnyH_take (i:=23) (v:=?_) rfl (by kernel_rfl) (by kernel_rfl) (by kernel_rfl) (fun _ _ _ h=>h) (Or.inl ⟨by rfl,?_⟩) hS1 ?_
 rotate_left
 ·intro W _;go_simp;try with_reducible rfl
 try simp only [Act.put,tD,tB,tC,tA,tE,tF]
 refine wpAnyH_done (by kernel_rfl) ?_ _
 have HG1:=Lib.hid hS1.1;have HBE1:=Lib.hid hS1.2
 have HN1:Hid (OwnK w1 w.heap.size 9 1 vN (cellsN names)):=hN1
 clear hS0 hS1 hN1 hb1
 cases ok
 case false=>
  have HR:Hid (R=(S.J,[])):=HPRE.out
  go_wp2_with fail
  go_ret
  rw [HR.out]
  exact ⟨⟨_,rfl,OwnK.nil _ _ _ _⟩,Wn.first hG.out HBE1.out⟩
 case true=>
  have hn1:=HNMS.out rfl
  have hm1:=HMEM.out rfl
  clear HNMS HMEM
  have HNMS:=Lib.hid hn1;have HMEM:=Lib.hid hm1
  clear hn1 hm1
  have HR:Hid (R=(bindJ mn p (evK S.J names names.length).1,(evK S.J names names.length).2 ++ [(1,(jl (evK S.J names names.length).1 p).1.nm,mn)])):=HPRE.out
  obtain ⟨An,cn,hvN,-,-,-,-⟩:=HN1.out.sl
  obtain ⟨nn,hnn⟩:∃ nn,nn=names.length:=⟨_,rfl⟩
  rw [show (cellsN names).length=names.length by simp [cellsN],<- hnn] at hvN
  subst hvN
  have HNN:=Lib.hid hnn
  have H0:Hid (Ou w w1 b g lst (.slice A0 N c0) vQ (.slice (some ⟨r,0,none⟩) n cC) S (evK S.J names 0) (.slice An nn cn) names (.slice none 0 0)):=⟨Wn.first hG.out HBE1.out,OwnK.nil _ _ _ _,HN1.out⟩
  clear HPRE hnn HN1
  go_wp2_with fail
  go_loopw [8,36] (fun s8 s36 wr=>∃ (k:Nat),k<=nn/\s36 = .int .i64 k/\Hid (Ou w wr b g lst (.slice A0 N c0) vQ (.slice (some ⟨r,0,none⟩) n cC) S (evK S.J names k) (.slice An nn cn) names s8)) (fun s8 s36 wr=>nn - (intOf s36).toNat)
  case atStart=>exact ⟨0,Nat.zero_le _,rfl,H0⟩
  case round=>
   clear H0
   obtain ⟨k,hk,rfl,H⟩:=hrel
   by_cases hlt:k<nn
   ·have hkl:k<names.length:=by rw [<- HNN.out];exact hlt
    obtain ⟨s,hs⟩:∃ s,s=names[k]:=⟨_,rfl⟩
    obtain ⟨T,hT⟩:∃ T,T=evK S.J names k:=⟨_,rfl⟩
    have hsu:=evK_succ (J:=S.J) hkl
    rw [<- hT,<- hs] at hsu
    rw [<- hT] at H
    have hco:=evK_core (J:=S.J) (names:=names) k (Nat.le_of_lt hkl)
    rw [<- hT] at hco
    obtain ⟨q,hql,hq⟩:=coreB_nm hco.1 (HNMS.out s (by rw [hs];exact List.getElem_mem hkl))
    have HQL:=Lib.hid hql
    have hTl:T.1.length=n:=by have:=congrArg List.length hco.1;rw [List.length_map,List.length_map] at this;rw [this];exact HNJ.out.symm
    have hqn:q<n:=by rw [<- hTl];exact hql
    have HSU:Hid (evK S.J names (k+1)=(T.1.set q (restX T.1[q]),T.2 ++ [(2,T.1[q].1.nm,T.1[q].1.nd)])):=by show _=_;rw [hsu];unfold outS;rw [hq,Int.toNat_natCast,jl_at hql];rfl
    have HJQ:Hid ((jbs T.1)[q]'(by rw [List.length_map];exact hql)=(T.1[q]'HQL.out).1):=by show _=_;simp [jbs]
    have HAL:Hid ((cellsA T.2).length+(cellsA [(2,(T.1[q]'HQL.out).1.nm,(T.1[q]'HQL.out).1.nd)]).length<=maxLen/\((cellsA T.2).length+(cellsA [(2,(T.1[q]'HQL.out).1.nm,(T.1[q]'HQL.out).1.nd)]).length) * 40<=140737488355328):=by
     show _/\_
     rw [cellsA_length,cellsA_length,hco.2,List.length_singleton]
     have h1:=HFEW.out
     exact ⟨by simp only [maxLen];omega,by omega⟩
    have KF:=Lib.hid (fun (W:World) (h:Gs W b g lst (.slice A0 N c0) vQ (.slice (some ⟨r,0,none⟩) n cC) { S with J:=T.1 })=>find_any (some ⟨r,0,none⟩) n cC (jbs T.1) s W (show n=_ by rw [List.length_map];exact hTl.symm) (by have:=HJB.out;omega) h.own.rdJs (q:Int) hq)
    have hrn:RdK wr 1 An (cellsN names):=by
     obtain ⟨A',c',hv',hr',-,-,-⟩:=H.out.nm.sl
     injection hv' with e1;subst e1;exact hr'
    obtain ⟨gu,ou,rfl,hcu⟩:=hrn k [.string s] (by rw [hs];simp [cellsN,hkl])
    have hcu:wr.cell? ⟨gu,ou+k,none⟩=some (.string s):=by have:=hcu 0 _ rfl;rw [Nat.mul_one] at this;exact this
    have hwk:Hid (wrap64 ((k:Int)+1)=((k+1:Nat):Int)):=by have:=HFEW.out;show _=_;unfold wrap64;omega
    have HD:=Lib.hid (H.out.below (w':=wr.drew) (Below.drew (Below.refl _ _)))
    clear hkl hs hT hsu hco hq hTl hrn H
    go_wp2_with fail
    refine wp_region_held_drew (S:=fun W=>Bk W g 73 #[.int .i64 S.ck,.int .i64 lst,.slice A0 N c0,vQ,.slice (some ⟨r,0,none⟩) n cC]) (by kernel_rfl) (HD.out.wn.gs.bk) (fun hS0=>?_)
    refine wpAnyH_take (i:=0) (v:=?_) rfl (by kernel_rfl) (by kernel_rfl) (by kernel_rfl) (fun _ _ _ h=>h) (Or.inl ⟨by rfl,?_⟩) hS0 ?_
    rotate_left
    ·intro W _;go_simp;try with_reducible rfl
    try simp only [Act.put,tD,tB,tA,tE,tF]
    refine wpAnyH_take (i:=1) (v:=?_) rfl (by kernel_rfl) (by kernel_rfl) (by kernel_rfl) (fun _ _ _ h=>h) (Or.inl ⟨by rfl,?_⟩) hS0 ?_
    rotate_left
    ·intro W _;go_simp;try with_reducible rfl
    try simp only [Act.put,tD,tB,tC,tA,tE,tF]
    refine wpAnyH_take (i:=2) (v:=?_) rfl (by kernel_rfl) (by kernel_rfl) (by kernel_rfl) (fun _ _ _ h=>h) (Or.inl ⟨by rfl,?_⟩) hS0 ?_
    rotate_left
    ·intro W _;go_simp;try with_reducible rfl
    try simp only [Act.put,tD,tB,tC,tA,tE,tF]
    refine wpAnyH_take (i:=3) (v:=?_) rfl (by kernel_rfl) (by kernel_rfl) (by kernel_rfl) (fun _ _ _ h=>h) (Or.inl ⟨by rfl,?_⟩) hS0 ?_
    rotate_left
    ·intro W _;go_simp;try with_reducible rfl
    try simp only [Act.put,tD,tB,tC,tA,tE,tF]
    refine wpAnyH_take (i:=4) (v:=?_) rfl (by kernel_rfl) (by kernel_rfl) (by kernel_rfl) (fun _ _ _ h=>h) (Or.inl ⟨by rfl,?_⟩) hS0 ?_
    rotate_left
    ·intro W hSW;have hx:=hSW.cellAt 4;go_simp;try with_reducible rfl
    try simp only [Act.put,tD,tB,tC,tA,tE,tF]
    refine wpAnyH_take (i:=5) (v:=?_) rfl (by kernel_rfl) (by kernel_rfl) (by kernel_rfl) (fun _ _ _ h=>h) (Or.inl ⟨by rfl,?_⟩) hS0 ?_
    rotate_left
    ·intro W _;go_simp;try with_reducible rfl
    try simp only [Act.put,tD,tB,tC,tA,tE,tF]
    refine wpAnyH_take (i:=6) (v:=?_) rfl (by kernel_rfl) (by kernel_rfl) (by kernel_rfl) (fun _ _ _ h=>h) (Or.inl ⟨by rfl,?_⟩) hS0 ?_
    rotate_left
    ·intro W _;go_simp;try with_reducible rfl
    try simp only [Act.put,tD,tB,tC,tA,tE,tF]
    refine wpAnyH_take (i:=7) (v:=?_) rfl (by kernel_rfl) (by kernel_rfl) (by kernel_rfl) (fun _ _ _ h=>h) (Or.inl ⟨by rfl,?_⟩) hS0 ?_
    rotate_left
    ·intro W _;go_simp;try with_reducible rfl
    try simp only [Act.put,tD,tB,tC,tA,tE,tF]
    refine wpAnyH_take (i:=8) (v:=?_) rfl (by kernel_rfl) (by kernel_rfl) (by kernel_rfl) (fun _ _ _ h=>h) (Or.inl ⟨by rfl,?_⟩) hS0 ?_
    rotate_left
    ·intro W hSW;have hx:=hSW.cellAt 4;go_simp;try with_reducible rfl
    try simp only [Act.put,tD,tB,tC,tA,tE,tF]
    refine wpAnyH_take (i:=9) (v:=?_) rfl (by kernel_rfl) (by kernel_rfl) (by kernel_rfl) (fun _ _ _ h=>h) (Or.inl ⟨by rfl,?_⟩) hS0 ?_
    rotate_left
    ·intro W _;go_simp;try with_reducible rfl
    try simp only [Act.put,tD,tB,tC,tA,tE,tF]
    refine wpAnyH_ready (rs:=[10]) (by kernel_rfl) (by simp) ?_
    refine AllReadyH.cons rfl (fun K hK=>?_) AllReadyH.nil
    go_simp
    refine (KF.out _ HD.out.wn.gs).mono ?_
    rintro e w3 ⟨rfl,hb3⟩
    have HD3:=Lib.hid (HD.out.below hb3)
    clear hb3
    go_simp
    refine hK.out _ _ (HD3.out.wn.gs.bk) (fun hS1=>?_)
    clear hK K
    try simp only [Act.put,tD,tB,tC,tA,tE,tF]
    refine wpAnyH_take (i:=11) (v:=?_) rfl (by kernel_rfl) (by kernel_rfl) (by kernel_rfl) (fun _ _ _ h=>h) (Or.inl ⟨by rfl,?_⟩) hS1 ?_
    rotate_left
    ·intro W _;go_simp;try with_reducible rfl
    try simp only [Act.put,tD,tB,tC,tA,tE,tF]
    refine wpAnyH_ready (rs:=[12]) (by kernel_rfl) (by simp) ?_
    refine AllReadyH.cons rfl (fun K hK=>?_) AllReadyH.nil
    go_simp
    refine (unbind_any b r n cC q 2 (jbs T.1) w3 (by rw [List.length_map];exact HQL.out) (Lib.hid HD3.out.wn.gs.own.J)).mono ?_
    rintro e w5 ⟨rfl,hO5,hg5⟩
    rw [HJQ.out] at hO5 ⊢
    have HD5:=Lib.hid (HD3.out.turn HQL.out (hg5.wide fun k _ e=>by rw [e];rfl) hO5)
    clear hO5 hg5
    go_simp
    refine hK.out _ _ (HD5.out.1.gs.bk) (fun hS2=>?_)
    clear hK K
    try simp only [Act.put,tD,tB,tC,tA,tE,tF]
    refine wpAnyH_ready (rs:=[13]) (by kernel_rfl) (by simp) ?_
    refine AllReadyH.cons rfl (fun K hK=>?_) AllReadyH.nil
    rw [if_pos (by rfl)]
    refine aone15_op 52 (2,(T.1[q]'HQL.out).1.nm,(T.1[q]'HQL.out).1.nd) rfl rfl ?_
    intro g6 w6 hg6 hs6 hB6 hb6
    have HB6:=Lib.hid hB6;have HBE6:=Lib.hid hb6
    clear hB6 hb6 hg6 hs6
    refine hK.out _ _ (HD5.out.1.gs.bk.later HBE6.out) (fun hS3=>?_)
    clear hK K
    try simp only [Act.put,tD,tB,tC,tA,tE,tF]
    refine wpAnyH_ready (rs:=[14]) (by kernel_rfl) (by simp) ?_
    refine AllReadyH.cons rfl (fun K hK=>?_) AllReadyH.nil
    rw [if_pos (by rfl)]
    refine append15_op _ (.tmp 40) (.tmp 53) 34 rfl w.heap.size 64 _ 3 40 Tryz.underlying34 infoA15 rfl (by omega) u8 (cellsA T.2) rfl (HD5.out.2.1.below HBE6.out) ⟨g6,0,none⟩ 1 1 (cellsA [(2,(T.1[q]'HQL.out).1.nm,(T.1[q]'HQL.out).1.nd)]) rfl (rdA1 HB6.out) (cellsA_k _) (cellsA_one _) rfl (HAL.out.1) (HAL.out.2) (Nat.le_trans HD5.out.1.gr.size HBE6.out.size) ?_
    intro v7 w7 hO7 hg7 _
    have H7:Hid (Ou w w7 b g lst (.slice A0 N c0) vQ (.slice (some ⟨r,0,none⟩) n cC) S (evK S.J names (k+1)) (.slice (some ⟨gu,ou,none⟩) nn cn) names v7):=by
     rw [HSU.out]
     exact Ou.put HD5.out HBE6.out hO7 hg7
    clear hO7 hg7
    refine hK.out _ _ (H7.out.wn.gs.bk) (fun hS4=>?_)
    clear hK K
    try simp only [Act.put,tD,tB,tC,tA,tE,tF]
    refine wpAnyH_take (i:=15) (v:=?_) rfl (by kernel_rfl) (by kernel_rfl) (by kernel_rfl) (fun _ _ _ h=>h) (Or.inl ⟨by rfl,?_⟩) hS4 ?_
    rotate_left
    ·intro W _;go_simp;try with_reducible rfl
    try simp only [Act.put,tD,tB,tC,tA,tE,tF]
    refine wpAnyH_done (by kernel_rfl) ?_ _
    clear hS0 hS1 hS2 hS3 hS4 HD HD3 HD5 HB6 HBE6 hcu
    have hwk:=hwk.out
    go_wp2_with fail
    go_round
    case rel=>exact ⟨k+1,hlt,by go_num,H7⟩
    case measure=>rw [hwk];show nn - ((k+1:Nat):Int).toNat<nn - (k:Int).toNat;rw [Int.toNat_natCast,Int.toNat_natCast];exact Nat.sub_lt_sub_left hlt (Nat.lt_succ_self k)
   ·have hkn:k=nn:=by omega
    obtain ⟨T,hT⟩:∃ T,T=evK S.J names k:=⟨_,rfl⟩
    have hTn:T=evK S.J names names.length:=by rw [hT,hkn,HNN.out]
    rw [<- hT] at H
    have hco:=evK_core (J:=S.J) (names:=names) k (by rw [<- HNN.out];exact hk)
    rw [<- hT] at hco
    have hTl:T.1.length=S.J.length:=by have:=congrArg List.length hco.1;rw [List.length_map,List.length_map] at this;exact this
    have hpT:p<T.1.length:=by rw [hTl];exact HP.out
    have HPT:=Lib.hid hpT
    have hcb:=coreB_at hco.1 hpT HP.out
    have hbT:T.1[p].1.bo=S.J[p].1.bo:=by have h:=congrArg (fun x:Jl=>x.1.bo) hcb;exact h
    rw [<- hTn] at HR
    have HR1:Hid (R=(T.1.set p (goX mn (T.1[p]'HPT.out)),T.2 ++ [(1,(T.1[p]'HPT.out).1.nm,mn)])):=by show _=_;rw [HR.out];unfold bindJ;rw [jl_at hpT]
    have HJQ:Hid ((jbs T.1)[p]'(by rw [List.length_map];exact hpT)=(T.1[p]'HPT.out).1):=by show _=_;simp [jbs]
    have hbb:-4611686018427387904<=(T.1[p]'HPT.out).1.bo/\(T.1[p]'HPT.out).1.bo<=4611686018427387904:=by have h:=hbo.out _ (List.getElem_mem HP.out);exact ⟨Int.le_trans h.1 (Int.le_of_eq hbT.symm),Int.le_trans (Int.le_of_eq hbT) h.2⟩
    have KU:=Lib.hid (bind_any b r n cC p mn (jbs T.1) wr (by rw [List.length_map];exact hpT) (by rw [HJQ.out];exact hbb) (Lib.hid H.out.wn.gs.own.J))
    rw [HJQ.out] at KU
    have HAL:Hid ((cellsA T.2).length+(cellsA [(1,(T.1[p]'HPT.out).1.nm,mn)]).length<=maxLen/\((cellsA T.2).length+(cellsA [(1,(T.1[p]'HPT.out).1.nm,mn)]).length) * 40<=140737488355328):=by
     show _/\_
     rw [cellsA_length,cellsA_length,hco.2,List.length_singleton]
     have h1:=HFEW.out;have h2:=HNN.out
     exact ⟨by simp only [maxLen];omega,by omega⟩
    have c4:wr.cell? ⟨g,4,none⟩=some (.slice (some ⟨r,0,none⟩) n cC):=H.out.wn.gs.bk.cellAt 4
    clear hT hTn hco hTl hcb hbT hbb HR hk hlt
    go_wp2_with fail
    refine KU.out.mono ?_;rintro e w6 ⟨rfl,hO6,hg6⟩
    have hgj:GrP (fun k=>(Value.slice (some ⟨r,0,none⟩) n cC).ownBlock=some k) wr w6:=hg6.wide fun k _ e=>by rw [e];rfl
    have HW6:=Lib.hid (H.out.wn.trans (H.out.wn.gs.oneJ (y:=goX mn (T.1[p]'HPT.out)) HPT.out hgj hO6 (JzOk.go (H.out.wn.gs.own.zJ _ (List.getElem_mem HPT.out)) HMEM.out) ⟨rfl,rfl,rfl,rfl⟩))
    have HA6:Hid (OwnK w6 w.heap.size 64 3 u8 (cellsA T.2)):=H.out.ac.grp hgj fun k hk e=>H.out.ac.parted H.out.wn.gs.own.J (by decide) hk e
    have HSZ:Hid (w.heap.size<=w6.heap.size):=HW6.out.gr.size
    clear hO6 hg6 hgj KU c4 H
    go_wp2_with ((with_reducible refine append_ka _ rfl (.tmp 56) (.tmp 65) 34 rfl w.heap.size 64 _ 3 40 Tryz.underlying34 infoA15 rfl (by omega) u8 (cellsA T.2) rfl (HA6.out.alloc _) ⟨w6.heap.size,0,none⟩ 1 1 (cellsA [(1,(T.1[p]'HPT.out).1.nm,mn)]) rfl (rdA1 (x:=(1,(T.1[p]'HPT.out).1.nm,mn)) (Bk.fresh _ _ _)) (cellsA_k _) (cellsA_one _) rfl HAL.out.1 HAL.out.2 (by have:=HSZ.out;rw [World.size_alloc];omega) ?_);intro v7 w7 hO7 hg7 hat7;clear hat7)
    go_ret
    rw [HR1.out]
    exact ⟨⟨v7,rfl,by rw [cellsA_append];exact hO7⟩,(HW6.out.below ((Below.refl _ _).alloc (Nat.le_refl _) _)).acts (HA6.out.alloc _) hg7 (Nat.le_refl _)⟩
end
end Go.Proofs.YtccccbofcnmdiaaGreat
