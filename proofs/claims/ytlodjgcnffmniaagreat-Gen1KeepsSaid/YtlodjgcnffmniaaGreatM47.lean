/- Lemmas that the law stands on. No condition. -/
import Derived.Test.YtlodjgcnffmniaaGreatM46
namespace Go.Proofs.YtlodjgcnffmniaaGreat
set_option linter.unusedSimpArgs false
set_option linter.unusedVariables false
set_option maxRecDepth 100000
set_option maxHeartbeats 51200000
section
open Go.RowKit
theorem jat_jbs {J:List Jl} {i:Nat} (h:i<J.length):jat (jbs J) i=J[i].1:=by
 rw [jat_at (by simpa [jbs] using h)];simp [jbs]
theorem srtU_len (l:List Jb):(srtU l).length<=l.length:=by
 rw [(srtU_perm l).length_eq]
 exact Nat.le_trans (List.length_filter_le _ _) (by simp)
def unF (J:List Jl):List (List Nat):=unitsU (jbs J)
theorem uniK:UniK unF where
 calls A n cap J w hn hl hA:=by
  refine (units_any A n cap (jbs J) w (Lib.hid (by rw [hn];simp [jbs])) hl (Lib.hid hA)).mono ?_
  rintro e w' ⟨⟨v,vs,rfl,h1,h2⟩,hb⟩
  refine ⟨?_,hb⟩
  obtain ⟨B,c,hv,hr,-,-,-⟩:=h1.sl
  rw [cellsW_length,h2.len] at hv
  subst hv
  refine ⟨B,c,rfl,fun i hi=>?_⟩
  obtain ⟨v2,hv2,ho2⟩:=h2.el i (unF J)[i] (List.getElem?_eq_getElem hi)
  obtain ⟨g,o,hB,hg,hc⟩:=cellW hr hv2
  obtain ⟨A2,c2,e2,hr2,-,-⟩:=ho2.rdi
  rw [show (ints (unF J)[i]).length=(unF J)[i].length by simp [ints]] at e2
  subst e2
  refine ⟨g,o,A2,c2,hB,h1.block g (by rw [hB];rfl),hg,hc,fun k hk=>?_⟩
  obtain ⟨g2,o2,hA2,hg2,hc2⟩:=RdI.nat hr2 hk
  exact ⟨g2,o2,hA2,ho2.block g2 (by rw [hA2];rfl),hg2,hc2⟩
 ne J u hu:=by
  obtain ⟨p,r,rfl,-⟩:=units_in hu
  simp
 lt J u hu i hi:=by
  obtain ⟨p,r,-,h,-⟩:=units_in hu
  have:=(h i hi).1
  simpa [jbs] using this
 few J u hu:=by
  obtain ⟨i,hi,_,hu2⟩:=units_mem hu (Nat.le_refl _)
  obtain ⟨-,h3,-⟩:=unit_head hi hu2
  have h4:=srtU_len (jbs J)
  have h5:=h3.length_le
  simp only [jbs,List.length_map] at h4 h5 ⊢
  omega
 len J:=by
  have h1:=unitsK_len (jbs J) (srtU (jbs J)) (srtU (jbs J)).length
  have h4:=srtU_len (jbs J)
  show (unitsK (jbs J) (srtU (jbs J)) (srtU (jbs J)).length).length<=_
  simp only [jbs,List.length_map] at h1 h4 ⊢
  omega
theorem insE_mem {x z:En} {E:List En} (h:z ∈ insE x E):z=x ∨ z ∈ E:=by
 unfold insE at h
 rcases List.mem_append.1 h with h | h
 ·exact .inr ((List.takeWhile_sublist _).mem h)
 ·rcases List.mem_cons.1 h with h | h
  ·exact .inl h
  ·exact .inr ((List.dropWhile_sublist _).mem h)
theorem srt_mem (t:Kt) (tl:List Lb) (l:List Jb) {z:En}:∀ (L:List Ml) (E:List En),z ∈ L.foldl (fun E m=>match entry t tl l m with | some x=>insE x E | none=>E) E->z ∈ E ∨ ∃ m ∈ L,m.1.nm=z.1
 | [],E,h=>.inl h
 | m :: L,E,h=>by
  rw [List.foldl_cons] at h
  rcases srt_mem t tl l L _ h with h1 | ⟨x,hx,e⟩
  ·cases he:entry t tl l m with
   | none=>rw [he] at h1;exact .inl h1
   | some y=>
    rw [he] at h1
    rcases insE_mem h1 with h2 | h2
    ·refine .inr ⟨m,by simp,?_⟩
     rw [h2]
     unfold entry at he
     cases hs:sco m.1 m.2 t tl l with
     | none=>rw [hs] at he;cases he
     | some s=>rw [hs] at he;injection he with he;rw [<- he]
    ·exact .inl h2
  ·exact .inr ⟨x,List.mem_cons_of_mem _ hx,e⟩
def bsF (L:List Ml) (J:List Jl) (p:Nat):ByteArray × Bool:=bestP (srt (jl J p).1.tk (jl J p).2 (jbs J) L)
theorem bestK:BestK bsF where
 calls A0 N c0 L A n cap J p w hp hN hNl hL hLo hn hl hA hT:=by
  have h:=best_any A0 N c0 L A n cap (jbs J) J[p].1.tk J[p].2 w (Lib.hid hN) hNl (Lib.hid hL) (Lib.hid hLo) (Lib.hid (by rw [hn];simp [jbs])) hl (Lib.hid hA) (Lib.hid hT)
  refine h.mono ?_
  rintro e w' ⟨rfl,hb⟩
  refine ⟨?_,hb⟩
  unfold bsF
  rw [jl_at hp];rfl
 mem L J p h:=by
  unfold bsF at h ⊢
  cases hE:srt (jl J p).1.tk (jl J p).2 (jbs J) L with
  | nil=>rw [hE] at h;cases h
  | cons x E=>
   have hx:x ∈ srt (jl J p).1.tk (jl J p).2 (jbs J) L:=by rw [hE];simp
   rcases srt_mem _ _ _ L [] hx with h1 | h1
   ·cases h1
   ·exact h1
def choF (L:List Ml) (J:List Jl) (p:Nat):Option Ch:=cho (plansOf L (jl J p).1.tk (jl J p).2 (jbs J)) (jbs J) L L.length
def chF (L:List Ml) (J:List Jl) (p:Nat):ByteArray × List ByteArray × Bool:=(chN L (choF L J p),chG L (jl J p).1.tk (jl J p).2 (jbs J) (choF L J p),(choF L J p).isSome)
theorem choF_is {L:List Ml} {J:List Jl} {p:Nat} {x:Ch} (h:choF L J p=some x):∃ hx:x.1<L.length,∃ G,chN L (some x)=L[x.1].1.nm/\chG L (jl J p).1.tk (jl J p).2 (jbs J) (some x)=namesAt (jbs J) G/\(∀ i ∈ G,i<J.length)/\G.length<=J.length:=by
 obtain ⟨⟨G,h1,-,-,h4⟩,-⟩:=cho_is h
 refine ⟨h4,G,?_,?_,?_,?_⟩
 ·show nmAt L x.1=_
  unfold nmAt;simp [List.getD,h4]
 ·show namesAt _ ((plansOf _ _ _ _ x.1).getD [])=_
  rw [h1];rfl
 ·rw [plansOf_at h4] at h1
  intro i hi
  simpa [jbs] using places_lt h1 i hi
 ·rw [plansOf_at h4] at h1
  simpa [jbs] using places_len h1
theorem choK:ChoK chF where
 calls A0 N c0 L A n cap J p w hp hN hNl hL hLo hn hl hA hT:=by
  have hr:cho (plansOf L J[p].1.tk J[p].2 (jbs J)) (jbs J) L N=choF L J p:=by unfold choF;rw [jl_at hp,hN]
  have h:=vchoose_any A0 N c0 L A n cap (jbs J) J[p].1.tk J[p].2 w (Lib.hid hN) hNl (Lib.hid hL) (Lib.hid hLo) (Lib.hid (by rw [hn];simp [jbs])) hl (Lib.hid hA) (Lib.hid hT) (choF L J p) (Lib.hid hr)
  refine h.mono ?_
  rintro e w' ⟨⟨v,rfl,ho⟩,hb⟩
  refine ⟨⟨v,rfl,?_⟩,hb⟩
  unfold chF
  rw [jl_at hp]
  exact ho
 mem L J p h:=by
  cases hc:choF L J p with
  | none=>unfold chF at h;rw [hc] at h;cases h
  | some x=>
   obtain ⟨hx,G,h1,-⟩:=choF_is hc
   refine ⟨L[x.1],List.getElem_mem hx,?_⟩
   unfold chF
   rw [hc];exact h1.symm
 nms L J p h s hs:=by
  cases hc:choF L J p with
  | none=>unfold chF at h;rw [hc] at h;cases h
  | some x=>
   obtain ⟨hx,G,-,h2,h3,-⟩:=choF_is hc
   unfold chF at hs
   rw [hc] at hs
   have hs:s ∈ chG L (jl J p).1.tk (jl J p).2 (jbs J) (some x):=hs
   rw [h2] at hs
   obtain ⟨i,hi,rfl⟩:=List.mem_map.1 hs
   refine ⟨J[i]'(h3 i hi),List.getElem_mem _,?_⟩
   rw [jat_jbs (h3 i hi)]
   exact sE_iff.2 rfl
 few L J p:=by
  cases hc:choF L J p with
  | none=>unfold chF;rw [hc];exact Nat.zero_le _
  | some x=>
   obtain ⟨hx,G,-,h2,-,h4⟩:=choF_is hc
   unfold chF
   rw [hc]
   show (chG L (jl J p).1.tk (jl J p).2 (jbs J) (some x)).length<=_
   rw [h2];simpa [namesAt] using h4
end
section
open Go.RowKit
def tickG (bs:Bst) (ch:Chs15) (un:Uns) (S:Sg):Sg × An:=
 if 1073741824<=S.ck then (S,6,[]) else
  ({ (expG { S with ck:=S.ck+1 }).1 with J:=(passG bs ch un (expG { S with ck:=S.ck+1 }).1.M (expG { S with ck:=S.ck+1 }).1.J).1 },0,(expG { S with ck:=S.ck+1 }).2 ++ (passG bs ch un (expG { S with ck:=S.ck+1 }).1.M (expG { S with ck:=S.ck+1 }).1.J).2)
theorem relJ_core (s:ByteArray) (J:List Jl):(relJ s J).map coreB=J.map coreB:=by
 unfold relJ
 rw [List.map_map]
 refine List.map_congr_left fun x _=>?_
 show coreB (relX s x)=coreB x
 unfold relX
 split <;> rfl
theorem expK_same (S:Sg):∀ k,(expK S k).1.J.map coreB=S.J.map coreB/\(expK S k).1.M.map Prod.snd=S.M.map Prod.snd/\(expK S k).1.Q=S.Q/\(expK S k).1.ck=S.ck/\(expK S k).1.nx=S.nx
 | 0=>⟨rfl,rfl,rfl,rfl,rfl⟩
 | k+1=>by
  rw [expK_succ]
  obtain ⟨h1,h2,h3,h4,h5⟩:=expK_same S k
  unfold expS
  split
  ·exact ⟨(relJ_core _ _).trans h1,(map_set_same fun hp=>by rw [ml_at hp];rfl).trans h2,h3,h4,h5⟩
  ·exact ⟨h1,h2,h3,h4,h5⟩
theorem expG_sm {S:Sg} (h:Sm S):Sm (expG S).1:=by
 obtain ⟨h1,h2,h3,h4,h5⟩:=expK_same S S.M.length
 obtain ⟨l1,l2,_⟩:=expK_len (S:=S) S.M.length
 refine ⟨by unfold expG;rw [l1];exact h.M,by unfold expG;rw [h3];exact h.Q,by unfold expG;rw [l2];exact h.J,fun x hx=>?_,fun x hx=>?_,by unfold expG;rw [h5];exact h.nx,by unfold expG;rw [h4];exact h.ck⟩
 ·have hm:x.2 ∈ S.M.map Prod.snd:=by rw [<- h2];exact List.mem_map_of_mem hx
  obtain ⟨y,hy,e⟩:=List.mem_map.1 hm
  rw [<- e];exact h.lM y hy
 ·obtain ⟨y,hy,e⟩:=core_mem (coreB_core h1) hx
  rw [<- (core_tk e).2];exact h.lJ y hy
theorem expG_bo {S:Sg} {m:Int} (h:BoK m S.J):BoK m (expG S).1.J:=fun x hx=>by
 obtain ⟨h1,_⟩:=expK_same S S.M.length
 have hm:coreB x ∈ S.J.map coreB:=by rw [<- h1];exact List.mem_map_of_mem hx
 obtain ⟨y,hy,e⟩:=List.mem_map.1 hm
 have e2:y.1.bo=x.1.bo:=by have h:=congrArg (fun x:Jl=>x.1.bo) e;exact h
 rw [<- e2];exact h y hy
section
variable {w:World} {b g:Nat} {lst:Int} {vM vQ vJ:Value} {S:Sg}
theorem Gs.setC (h:Gs w b g lst vM vQ vJ S) (ck:Int):Wn w (w.setCell ⟨g,0,none⟩ (.int .i64 ck)) b g vM vQ vJ S lst vM vQ vJ { S with ck:=ck }:=by
 have hg:GrP (fun k=>k=g) w (w.setCell ⟨g,0,none⟩ (.int .i64 ck)):=(GrP.refl (fun k=>k=g) w).set (a:=⟨g,0,none⟩) rfl _
 have ho:=h.own.grp hg fun k hk e=>h.ne k hk e
 exact ⟨⟨h.bk.put 0 _,h.nx,⟨ho.M,ho.Q,ho.J,ho.lM,ho.lJ,ho.zM,ho.zQ,ho.zJ⟩,h.le,h.ne⟩,hg.wide fun k _ e=>.inl e,fun k hk=>.inl hk⟩
end
theorem passG_few {bs:Bst} {ch:Chs15} {un:Uns} (hC:ChoK ch) (hU:UniK un) {M:List Ml} {J:List Jl} (hJ:J.length<=1000) (hb:BoK 1152921504606846976 J):(passG bs ch un M J).2.length<=1001000:=by
 have h:=(passK_all (bs:=bs) hC (M:=M) (U:=un J) (fun u hu=>Nat.le_trans (hU.few J u hu) hJ) hJ hb (un J).length (Nat.le_refl _)).2.2
 have h2:=hU.len J
 unfold passG
 omega
theorem expG_few {S:Sg} (hM:S.M.length<=1000) (hJ:S.J.length<=1000):(expG S).2.length<=1000000:=by
 have h:=(expK_len (S:=S) S.M.length).2.2
 have h2:S.M.length * S.J.length<=1000 * 1000:=Nat.mul_le_mul hM hJ
 unfold expG
 omega
theorem acts_fit3 {a b:List Ac} (h1:a.length<=1000000) (h2:b.length<=1001000):(cellsA a).length+(cellsA b).length<=maxLen/\((cellsA a).length+(cellsA b).length) * 40<=140737488355328:=by
 rw [cellsA_length,cellsA_length]
 exact ⟨by simp only [maxLen];omega,by omega⟩


theorem tick_any (bs:Bst) (ch:Chs15) (un:Uns) (hB:Hid (BestK bs)) (hC:Hid (ChoK ch)) (hUn:Hid (UniK un)) (b g:Nat) (lst:Int) (vM vQ vJ:Value) (S:Sg) (w:World) (hG:Hid (Gs w b g lst vM vQ vJ S)) (hM:Hid (Sm S)) (hbo:Hid (BoK 1152921504606846976 S.J)) :
  Calls Tryz.prog 91 #[.pointer (some ⟨g,0,none⟩)] w fun e w'=>(∃ A n c,e = .returned (.tuple #[.slice A n c,.int .i64 (tickG bs ch un S).2.1])/\RetL w.heap.size w' A n c (tickG bs ch un S).2.2)/\Went w w' b g vM vQ vJ S (tickG bs ch un S).1:=by
 obtain ⟨ck,hck⟩:∃ ck,ck=S.ck:=⟨_,rfl⟩
 have c0:w.cell? ⟨g,0,none⟩=some (.int .i64 ck):=by rw [hck];exact hG.out.bk.cellAt 0
 have f0:w.frozen? ⟨g,0,none⟩=false:=hG.out.bk.free 0
 by_cases hov:1073741824<=ck
 ·have hd:tickG bs ch un S=(S,6,[]):=by unfold tickG;rw [if_pos (by rw [<- hck];exact hov)]
  rw [hd]
  clear hd hck
  go_enter Tryz.func91,Tryz.ntmps91
  go_wp2_with fail
  exact bodyPost_ret (v:=.tuple #[.slice none 0 0,.int .i64 6]) (by simp [results,Tryz.results91,go_sem]) rfl ⟨⟨none,0,0,rfl,RetL.nil _ _⟩,Went.same hG.out (Below.refl _ _)⟩
 ·obtain ⟨S1,hS1⟩:∃ S1:Sg,S1 = { S with ck:=ck+1 }:=⟨_,rfl⟩
  obtain ⟨T,hT⟩:∃ T,T=expG S1:=⟨_,rfl⟩
  obtain ⟨P,hP⟩:∃ P,P=passG bs ch un T.1.M T.1.J:=⟨_,rfl⟩
  have hd:tickG bs ch un S=({ T.1 with J:=P.1 },0,T.2 ++ P.2):=by unfold tickG;rw [if_neg (by rw [<- hck];exact hov),<- hck,<- hS1,<- hT,<- hP]
  rw [hd]
  have hck2:0<=ck:=by rw [hck];exact hM.out.ck.1
  have hSm1:Sm S1:=by rw [hS1];exact ⟨hM.out.M,hM.out.Q,hM.out.J,hM.out.lM,hM.out.lJ,hM.out.nx,⟨show 0<=ck+1 by omega,show ck+1<=4611686018427387904 by omega⟩⟩
  have HW0:Hid (Wn w (w.setCell ⟨g,0,none⟩ (.int .i64 (ck+1))) b g vM vQ vJ S lst vM vQ vJ S1):=by rw [hS1];exact hG.out.setC (ck+1)
  have hbo1:BoK 1152921504606846976 S1.J:=by rw [hS1];exact hbo.out
  have HSmT:Hid (Sm T.1):=by rw [hT];exact expG_sm hSm1
  have HBoT:Hid (BoK 1152921504606846976 T.1.J):=by rw [hT];exact expG_bo hbo1
  have HF1:Hid (T.2.length<=1000000):=by rw [hT];exact expG_few hSm1.M hSm1.J
  have HF2:Hid (P.2.length<=1001000):=by rw [hP];exact passG_few hC.out hUn.out HSmT.out.J HBoT.out
  have KE:=Lib.hid (expire_any b g lst vM vQ vJ S1 _ (Lib.hid HW0.out.gs) hSm1.M hSm1.J)
  rw [<- hT] at KE
  have KP:=Lib.hid (fun (vJ:Value) (W:World) (h:Gs W b g lst vM vQ vJ T.1)=>pass_any bs ch un hB hC hUn b g lst vM vQ vJ T.1 W h HSmT HBoT)
  rw [<- hP] at KP
  have hw1:IntKind.i64.wrap (ck+1)=ck+1:=by rw [IntKind.wrap_i64];omega
  clear hd hck hS1 hT hP hSm1 hbo1 hck2
  go_enter Tryz.func91,Tryz.ntmps91
  go_wp2_with fail
  refine KE.out.mono ?_;rintro e w1 ⟨⟨v1,rfl,hO1⟩,hW1⟩
  have HO1:=Lib.hid hO1;have HW1:=Lib.hid hW1
  clear hO1 hW1 KE c0 f0
  go_wp2_with fail
  refine (KP.out vJ _ HW1.out.gs).mono ?_;rintro e w2 ⟨⟨v2,rfl,hO2⟩,vJ2,hW2⟩
  obtain ⟨A2,c2,hv2,hr2,-,-,-⟩:=hO2.sl
  obtain ⟨m2,hm2⟩:∃ m2,m2=(cellsA P.2).length:=⟨_,rfl⟩
  rw [<- hm2] at hv2
  subst hv2
  have HR2:=Lib.hid hr2;have HM2:=Lib.hid hm2
  have HA2:Hid (OwnK w2 w.heap.size 64 3 v1 (cellsA T.2)):=(hW2.rowA HW1.out.gs HO1.out).base (by simp)
  have HW2:Hid (Wn w w2 b g vM vQ vJ S lst vM vQ vJ2 { T.1 with J:=P.1 }):=(HW0.out.trans HW1.out).trans hW2
  have HSZ:Hid (w.heap.size<=w2.heap.size):=((HW0.out.trans HW1.out).trans hW2).gr.size
  have HFIT:=Lib.hid (acts_fit3 HF1.out HF2.out)
  clear hO2 hW2 hr2 hm2 KP HO1 HW1
  go_wp2_with ((with_reducible refine append15_kn _ rfl (.tmp 19) (.tmp 21) 34 rfl w.heap.size 64 _ 3 40 Tryz.underlying34 infoA15 rfl (by omega) v1 (cellsA T.2) rfl HA2.out A2 c2 m2 (cellsA P.2) rfl HR2.out (cellsA_k _) (cellsA_one _) HM2.out HFIT.out.1 HFIT.out.2 HSZ.out ?_);intro v7 w7 hO7 hg7;have HW7:=Lib.hid (HW2.out.acts HA2.out hg7 (Nat.le_refl _));have HO7:Hid (OwnK w7 w.heap.size 64 3 v7 (cellsA (T.2 ++ P.2))):=(by rw [cellsA_append];exact hO7);clear hO7 hg7)
  obtain ⟨A7,c7,hv7,-,-,-⟩:=HO7.out.acts
  subst hv7
  exact bodyPost_ret (v:=.tuple #[.slice A7 (T.2 ++ P.2).length c7,.int .i64 0]) (by simp [results,Tryz.results91,go_sem]) rfl ⟨⟨A7,_,c7,rfl,RetL.own HO7.out⟩,HW7.out.went rfl⟩
end
section
open Go.RowKit


theorem perform_any9 (bs:Bst) (ch:Chs15) (un:Uns) (hB:BestK bs) (hC:ChoK ch) (hUn:UniK un) (b g:Nat) (vM vQ vJ:Value) (S:Sg) (x:Oz) (hk:x.v.k=9) (hM:Sm S) (hbo:BoK 1152921504606846976 S.J):Performs b g vM vQ vJ S x (tickG bs ch un S):=by
 intro w hG hx
 have k1:=fun (W:World) (h:∃ lst,Gs W b g lst vM vQ vJ S)=>h.elim fun lst h=>tick_any bs ch un hB hC hUn b g lst vM vQ vJ S W h hM hbo
 obtain ⟨R,hR⟩:∃ R,R=tickG bs ch un S:=⟨_,rfl⟩
 rw [<- hR] at k1 ⊢
 have K1:=Lib.hid k1;have HG:=Lib.hid hG
 clear k1 hG hx hM hbo hR hB hC hUn
 obtain ⟨⟨k,nn,a1,b1,c1,l1,qn,a2,b2,c2,tn,tq,tp,a3,b3,c3,l3,ta,tg,ts,s⟩,A1,m1,p1,A3,m3,p3⟩:=x
 simp only at hk
 subst hk
 obtain ⟨R1,err,acts⟩:=R
 obtain ⟨oc,hoc⟩:∃ oc:Array Value,oc = #[.int .i64 9,.string nn,.int .i64 a1,.int .i64 b1,.int .i64 c1,.slice A1 m1 p1,.string qn,.int .i64 a2,.int .i64 b2,.int .i64 c2,.string tn,.string tq,.int .i64 tp,.int .i64 a3,.int .i64 b3,.int .i64 c3,.slice A3 m3 p3,.string ta,.string tg,.int .i64 ts,.string s]:=⟨_,rfl⟩
 have hB0:Below w.heap.size w (w.alloc (.cells #[.int .i64 9,.string nn,.int .i64 a1,.int .i64 b1,.int .i64 c1,.slice A1 m1 p1,.string qn,.int .i64 a2,.int .i64 b2,.int .i64 c2,.string tn,.string tq,.int .i64 tp,.int .i64 a3,.int .i64 b3,.int .i64 c3,.slice A3 m3 p3,.string ta,.string tg,.int .i64 ts,.string s] 49)):=(Below.refl _ _).alloc (Nat.le_refl _) _
 clear hoc
 go_enter Tryz.func44,Tryz.ntmps44
 go_wp2_with fail
 refine (K1.out _ (HG.out.elim fun lst h=>⟨lst,h.below hB0⟩)).mono ?_;rintro e w2 ⟨⟨A,n,c,rfl,hRL⟩,hW⟩
 have HW:=Lib.hid hW;have HR:=Lib.hid hRL;clear hW hRL
 go_wp2_with fail
 exact bodyPost_ret (v:=.tuple #[.slice A n c,.int .i64 err]) (by simp [results,Tryz.results44,go_sem]) rfl ⟨⟨A,n,c,rfl,HR.out.base hB0.size⟩,Went.before hB0 HW.out⟩
section
variable (bs:Bst) (ch:Chs15) (un:Uns)
def opG (S:Sg) (v:Ov):Sg × An:=
 if v.k=1 then addN S v.nn v.a1 v.b1 v.c1 v.l1 else if v.k=2 then dropN' S v.s else if v.k=3 then addQ S (v.qn,v.a2,v.b2,v.c2) else if v.k=4 then dropQ S v.s
 else if v.k=5 then subJ S v.tn v.tq v.tp v.a3 v.b3 v.c3 v.ta v.tg v.ts v.l3 else if v.k=6 then canJ S v.s else if v.k=7 then finJ S v.s else if v.k=8 then beatN S v.s else tickG bs ch un S
def stepG (S:Sg) (v:Ov):Sg × An:=if opB v then opG bs ch un S v else (S,1,[])
end
structure Inv (S:Sg):Prop where
 sm:Sm S
 asc:AscS S
 bo:BoK 1152921504606846976 S.J
theorem performs_any (bs:Bst) (ch:Chs15) (un:Uns) (hB:BestK bs) (hC:ChoK ch) (hUn:UniK un) (b g:Nat) (vM vQ vJ:Value) (S:Sg) (x:Oz) (hI:Inv S) (hb:opB x.v=true) (h1:x.v.l1.length<=1000) (h3:x.v.l3.length<=1000):Performs b g vM vQ vJ S x (opG bs ch un S x.v):=by
 have hk:1<=x.v.k/\x.v.k<=9:=by
  by_cases h:1<=x.v.k/\x.v.k<=9
  ·exact h
  ·rw [opB_no h] at hb;cases hb
 have hc:x.v.k=1 ∨ x.v.k=2 ∨ x.v.k=3 ∨ x.v.k=4 ∨ x.v.k=5 ∨ x.v.k=6 ∨ x.v.k=7 ∨ x.v.k=8 ∨ x.v.k=9:=by omega
 unfold opG
 rcases hc with h | h | h | h | h | h | h | h | h
 ·rw [if_pos h];exact perform_any1 b g vM vQ vJ S x h hI.sm hI.asc h1
 ·rw [if_neg (by omega),if_pos h];exact perform_any2 b g vM vQ vJ S x h hI.sm hI.asc h3
 ·rw [if_neg (by omega),if_neg (by omega),if_pos h];exact perform_any3 b g vM vQ vJ S x h hI.sm hI.asc
 ·rw [if_neg (by omega),if_neg (by omega),if_neg (by omega),if_pos h];exact perform_any4 b g vM vQ vJ S x h hI.sm hI.asc h3
 ·rw [if_neg (by omega),if_neg (by omega),if_neg (by omega),if_neg (by omega),if_pos h];exact perform_any5 b g vM vQ vJ S x h hI.sm hI.asc h3
 ·rw [if_neg (by omega),if_neg (by omega),if_neg (by omega),if_neg (by omega),if_neg (by omega),if_pos h];exact perform_any6 b g vM vQ vJ S x h hI.sm hI.asc h3
 ·rw [if_neg (by omega),if_neg (by omega),if_neg (by omega),if_neg (by omega),if_neg (by omega),if_neg (by omega),if_pos h];exact perform_any7 b g vM vQ vJ S x h hI.sm hI.asc h3
 ·rw [if_neg (by omega),if_neg (by omega),if_neg (by omega),if_neg (by omega),if_neg (by omega),if_neg (by omega),if_neg (by omega),if_pos h];exact perform_any8 b g vM vQ vJ S x h hI.sm hI.asc h3
 ·rw [if_neg (by omega),if_neg (by omega),if_neg (by omega),if_neg (by omega),if_neg (by omega),if_neg (by omega),if_neg (by omega),if_neg (by omega)];exact perform_any9 bs ch un hB hC hUn b g vM vQ vJ S x h hI.sm hI.bo
theorem doG_any (bs:Bst) (ch:Chs15) (un:Uns) (hB:BestK bs) (hC:ChoK ch) (hUn:UniK un) (b g:Nat) (lst:Int) (vM vQ vJ:Value) (S:Sg) (x:Oz) (w:World) (hG:Gs w b g lst vM vQ vJ S) (hI:Inv S) (hx:OzOk w x) (h1:x.v.l1.length<=1000) (h3:x.v.l3.length<=1000) :
  Calls Tryz.prog 18 #[.pointer (some ⟨g,0,none⟩),.agg x.arr] w fun e w'=>
   (∃ A n c,e = .returned (.agg #[.int .i64 (stepG bs ch un S x.v).2.1,.slice A n c])/\RetL w.heap.size w' A n c (stepG bs ch un S x.v).2.2)/\Went w w' b g vM vQ vJ S (stepG bs ch un S x.v).1:=by
 have h:=do_any b g vM vQ vJ S x (opG bs ch un S x.v) w ⟨lst,hG⟩ hx fun hb=>performs_any bs ch un hB hC hUn b g vM vQ vJ S x hI hb h1 h3
 unfold stepG
 cases hb:opB x.v with
 | true=>rw [hb] at h;exact h
 | false=>rw [hb] at h;exact h
end
section
open Go.RowKit
theorem ascK_pw {K:List ByteArray}:AscK K ↔ K.Pairwise fun a b=>sL a b=true:=by
 unfold AscK
 rw [List.pairwise_iff_getElem]
theorem ascK_erase {K:List ByteArray} (h:AscK K) (p:Nat):AscK (K.eraseIdx p):=ascK_pw.2 ((ascK_pw.1 h).sublist (List.eraseIdx_sublist _ _))
theorem ascK_ins {s:ByteArray} {K:List ByteArray} (h:AscK K) (hn:hasK s K=false):AscK (K.take (lbK s K) ++ s :: K.drop (lbK s K)):=by
 have hlt:∀ x ∈ K.take (lbK s K),sL x s=true:=fun x hx=>by
  obtain ⟨t,ht,rfl⟩:=List.getElem_of_mem hx
  rw [List.getElem_take]
  rw [List.length_take] at ht
  exact lbK_lt (by omega) (by omega)
 have hge:∀ y ∈ K.drop (lbK s K),sL s y=true:=fun y hy=>by
  obtain ⟨t,ht,rfl⟩:=List.getElem_of_mem hy
  rw [List.length_drop] at ht
  rw [List.getElem_drop]
  have hm:lbK s K<K.length:=by omega
  have h0:sL s K[lbK s K]=true:=by
   rcases sL_total (lbK_at hm) with h1 | h1
   ·exact h1
   ·exfalso
    have:hasK s K=true:=List.any_eq_true.2 ⟨_,List.getElem_mem hm,by rw [h1];exact sE_refl s⟩
    rw [this] at hn;cases hn
  by_cases e:t=0
  ·subst e;exact h0
  ·exact sL_trans h0 (h _ _ hm (by omega) (by omega))
 have hp:=ascK_pw.1 h
 refine ascK_pw.2 (List.pairwise_append.2 ⟨hp.sublist (List.take_sublist _ _),List.pairwise_cons.2 ⟨hge,hp.sublist (List.drop_sublist _ _)⟩,fun x hx y hy=>?_⟩)
 rcases List.mem_cons.1 hy with rfl | hy
 ·exact hlt x hx
 ·exact sL_trans (hlt x hx) (hge y hy)
theorem keyM_ins (q:Ml) (M:List Ml):keyM (insM q M)=(keyM M).take (lbK q.1.nm (keyM M)) ++ q.1.nm :: (keyM M).drop (lbK q.1.nm (keyM M)):=by
 unfold insM;simp [keyM,List.map_take,List.map_drop]
theorem keyQ_ins (q:Qx) (Q:List Qx):keyQ (insQ q Q)=(keyQ Q).take (lbK q.1 (keyQ Q)) ++ q.1 :: (keyQ Q).drop (lbK q.1 (keyQ Q)):=by
 unfold insQ;simp [keyQ,List.map_take,List.map_drop]
theorem keyM_erase (M:List Ml) (p:Nat):keyM (M.eraseIdx p)=(keyM M).eraseIdx p:=by
 rw [List.eraseIdx_eq_take_drop_succ,List.eraseIdx_eq_take_drop_succ];simp [keyM,List.map_take,List.map_drop]
theorem keyQ_erase (Q:List Qx) (p:Nat):keyQ (Q.eraseIdx p)=(keyQ Q).eraseIdx p:=by
 rw [List.eraseIdx_eq_take_drop_succ,List.eraseIdx_eq_take_drop_succ];simp [keyQ,List.map_take,List.map_drop]
structure In2 (m:Int) (S:Sg):Prop where
 M:S.M.length<=16
 Q:S.Q.length<=8
 J:S.J.length<=48
 lM:∀ x ∈ S.M,x.2.length<=1000
 lJ:∀ x ∈ S.J,x.2.length<=1000
 nx:1<=S.nx/\S.nx<=1073741824
 ck:0<=S.ck/\S.ck<=1073741824
 aM:AscK (keyM S.M)
 aQ:AscK (keyQ S.Q)
 bo:BoK m S.J
theorem In2.inv {m:Int} {S:Sg} (h:In2 m S) (hm:m<=1152921504606846976):Inv S:=
 ⟨⟨by have:=h.M;omega,by have:=h.Q;omega,by have:=h.J;omega,h.lM,h.lJ,by have:=h.nx;omega,by have:=h.ck;omega⟩,⟨h.aM,h.aQ⟩,h.bo.up hm⟩
theorem In2.up {m m':Int} {S:Sg} (h:In2 m S) (hm:m<=m'):In2 m' S:=⟨h.M,h.Q,h.J,h.lM,h.lJ,h.nx,h.ck,h.aM,h.aQ,h.bo.up hm⟩
section
variable {m:Int} {S:Sg}
theorem In2.addN (h:In2 m S) (nm:ByteArray) (a b c:Int) (l:List Lb) (hl:l.length<=1000):In2 m (addN S nm a b c l).1:=by
 unfold Go.Proofs.YtlodjgcnffmniaaGreat.addN
 cases hf:hasK nm (keyM S.M) with
 | true=>exact h
 | false=>
  rw [if_neg (by decide)]
  split
  ·exact h
  ·next hs=>
   refine ⟨?_,h.Q,h.J,fun x hx=>?_,h.lJ,h.nx,h.ck,?_,h.aQ,h.bo⟩
   ·show (insM _ _).length<=16
    have h1:=lbK_le nm (keyM S.M)
    rw [List.length_map] at h1
    unfold insM
    rw [List.length_append,List.length_cons,List.length_take,List.length_drop]
    show min (lbK nm (keyM S.M)) _+(_ - lbK nm (keyM S.M)+1)<=16
    omega
   ·have hx':x ∈ insM (newM S.ck nm a b c none 0 0 l) S.M:=hx
    unfold insM at hx'
    rcases List.mem_append.1 hx' with hx | hx
    ·exact h.lM x (List.mem_of_mem_take hx)
    ·rcases List.mem_cons.1 hx with rfl | hx
     ·exact hl
     ·exact h.lM x (List.mem_of_mem_drop hx)
   ·show AscK (keyM (insM _ _))
    rw [keyM_ins]
    exact ascK_ins h.aM hf
theorem In2.addQ (h:In2 m S) (q:Qx):In2 m (addQ S q).1:=by
 unfold Go.Proofs.YtlodjgcnffmniaaGreat.addQ
 cases hf:hasK q.1 (S.Q.map fun q=>q.1) with
 | true=>exact h
 | false=>
  rw [if_neg (by decide)]
  split
  ·exact h
  ·next hs=>
   refine ⟨h.M,?_,h.J,h.lM,h.lJ,h.nx,h.ck,h.aM,?_,h.bo⟩
   ·show (insQ _ _).length<=8
    have h1:=lbK_le q.1 (keyQ S.Q)
    rw [List.length_map] at h1
    unfold insQ
    rw [List.length_append,List.length_cons,List.length_take,List.length_drop]
    show min (lbK q.1 (keyQ S.Q)) _+(_ - lbK q.1 (keyQ S.Q)+1)<=8
    omega
   ·show AscK (keyQ (insQ _ _))
    rw [keyQ_ins]
    exact ascK_ins h.aQ hf
theorem BoK.sub {J K:List Jl} (h:BoK m K) (hs:∀ x ∈ J,x ∈ K):BoK m J:=fun x hx=>h x (hs x hx)
theorem BoK.same {J K:List Jl} (h:BoK m K) (hc:J.map coreB=K.map coreB):BoK m J:=fun x hx=>by
 have hm:coreB x ∈ K.map coreB:=by rw [<- hc];exact List.mem_map_of_mem hx
 obtain ⟨y,hy,e⟩:=List.mem_map.1 hm
 have e2:y.1.bo=x.1.bo:=by have h:=congrArg (fun x:Jl=>x.1.bo) e;exact h
 rw [<- e2];exact h y hy
theorem lab_same {J K:List Jl} (hc:J.map core=K.map core) (h:∀ x ∈ K,x.2.length<=1000):∀ x ∈ J,x.2.length<=1000:=fun x hx=>by
 obtain ⟨y,hy,e⟩:=core_mem hc hx
 rw [<- (core_tk e).2];exact h y hy
theorem In2.withJ {m':Int} {J:List Jl} (h:In2 m S) (hc:J.map core=S.J.map core) (hb:BoK m' J):In2 m' { S with J:=J }:=
 ⟨h.M,h.Q,by have:=congrArg List.length hc;rw [List.length_map,List.length_map] at this;show J.length<=48;rw [this];exact h.J,h.lM,lab_same hc h.lJ,h.nx,h.ck,h.aM,h.aQ,hb⟩
theorem In2.cutJ (h:In2 m S) (p:Nat):In2 m { S with J:=S.J.eraseIdx p }:=
 ⟨h.M,h.Q,Nat.le_trans (List.length_eraseIdx_le _ _) h.J,h.lM,fun x hx=>h.lJ x (List.mem_of_mem_eraseIdx hx),h.nx,h.ck,h.aM,h.aQ,h.bo.sub fun x hx=>List.mem_of_mem_eraseIdx hx⟩
theorem In2.dropN (h:In2 m S) (s:ByteArray):In2 m (dropN' S s).1:=by
 unfold dropN'
 split
 ·have h1:In2 m { S with J:=relJ s S.J }:=h.withJ (coreB_core (relJ_core s S.J)) (h.bo.same (relJ_core s S.J))
  exact ⟨Nat.le_trans (List.length_eraseIdx_le _ _) h.M,h.Q,h1.J,fun x hx=>h.lM x (List.mem_of_mem_eraseIdx hx),h1.lJ,h.nx,h.ck,by show AscK (keyM (S.M.eraseIdx _));rw [keyM_erase];exact ascK_erase h.aM _,h.aQ,h1.bo⟩
 ·exact h
theorem In2.dropQ (h:In2 m S) (s:ByteArray):In2 m (dropQ S s).1:=by
 unfold Go.Proofs.YtlodjgcnffmniaaGreat.dropQ
 split
 ·split
  ·exact h
  ·exact ⟨h.M,Nat.le_trans (List.length_eraseIdx_le _ _) h.Q,h.J,h.lM,h.lJ,h.nx,h.ck,h.aM,by show AscK (keyQ (S.Q.eraseIdx _));rw [keyQ_erase];exact ascK_erase h.aQ _,h.bo⟩
 ·exact h
theorem In2.canJ (h:In2 m S) (s:ByteArray):In2 m (canJ S s).1:=by
 unfold Go.Proofs.YtlodjgcnffmniaaGreat.canJ
 split
 ·exact h
 ·exact h.cutJ _
theorem In2.finJ (h:In2 m S) (s:ByteArray):In2 m (finJ S s).1:=by
 unfold Go.Proofs.YtlodjgcnffmniaaGreat.finJ
 split
 ·exact h
 ·split
  ·exact h
  ·exact h.cutJ _
theorem map_modify_same {α β:Type} {f:α->β} {g:α->α} {l:List α} {p:Nat} (h:∀ x,f (g x)=f x):(l.modify p g).map f=l.map f:=by
 by_cases hp:p<l.length
 ·rw [modify_set hp];exact map_set_same fun _=>h _
 ·rw [List.modify_eq_self (by omega)]
theorem In2.beatN (h:In2 m S) (s:ByteArray):In2 m (beatN S s).1:=by
 unfold Go.Proofs.YtlodjgcnffmniaaGreat.beatN
 split
 ·refine ⟨by show (S.M.modify _ _).length<=16;rw [List.length_modify];exact h.M,h.Q,h.J,fun x hx=>?_,h.lJ,h.nx,h.ck,?_,h.aQ,h.bo⟩
  ·have h1:(S.M.modify (lbK s (keyM S.M)) (upX S.ck)).map Prod.snd=S.M.map Prod.snd:=map_modify_same fun _=>rfl
   have hm:x.2 ∈ S.M.map Prod.snd:=by rw [<- h1];exact List.mem_map_of_mem hx
   obtain ⟨y,hy,e⟩:=List.mem_map.1 hm
   rw [<- e];exact h.lM y hy
  ·show AscK (keyM (S.M.modify _ _))
   rw [show keyM (S.M.modify (lbK s (keyM S.M)) (upX S.ck))=keyM S.M from map_modify_same fun _=>rfl]
   exact h.aM
 ·exact h
theorem In2.subJ (h:In2 m S) (hm:0<=m) (nm qu:ByteArray) (pr a b c:Int) (ap ga:ByteArray) (sz:Int) (l:List Lb) (hl:l.length<=1000):In2 m (subJ S nm qu pr a b c ap ga sz l).1:=by
 unfold Go.Proofs.YtlodjgcnffmniaaGreat.subJ
 split
 ·exact h
 split
 ·exact h
 split
 ·exact h
 split
 ·exact h
 split
 ·exact h
 ·next h5 h4 h3 h2 h1=>
  have hmem:∀ x ∈ S.J ++ [newJ S.nx nm qu pr a b c none 0 0 ap ga sz l],x ∈ S.J ∨ x=newJ S.nx nm qu pr a b c none 0 0 ap ga sz l:=fun x hx=>(List.mem_append.1 hx).imp id List.mem_singleton.1
  refine ⟨h.M,h.Q,?_,h.lM,fun x hx=>?_,?_,h.ck,h.aM,h.aQ,fun x hx=>?_⟩
  ·show (S.J ++ [_]).length<=48;rw [List.length_append,List.length_singleton];omega
  ·rcases hmem x hx with hx | rfl
   ·exact h.lJ x hx
   ·exact hl
  ·show 1<=S.nx+1/\S.nx+1<=1073741824;have:=h.nx;omega
  ·rcases hmem x hx with hx | rfl
   ·exact h.bo x hx
   ·exact ⟨by show (_:Int)<=0;omega,hm⟩
theorem expK_key (S:Sg):∀ k,keyM (expK S k).1.M=keyM S.M
 | 0=>rfl
 | k+1=>by
  rw [expK_succ]
  have ih:=expK_key S k
  unfold expS
  split
  ·exact (map_set_same fun hp=>by rw [ml_at hp];rfl).trans ih
  ·exact ih
theorem passK_bo {bs:Bst} {ch:Chs15} {M:List Ml} {J:List Jl} {U:List (List Nat)} (hm:0<=m) (hU:∀ u ∈ U,u.length<=1000) (hb:BoK m J):∀ k,k<=U.length->(passK bs ch M J U k).1.map core=J.map core/\BoK (m+1001 * (k:Int)) (passK bs ch M J U k).1
 | 0,_=>⟨rfl,hb.up (by omega)⟩
 | k+1,hk=>by
  obtain ⟨h1,h2⟩:=passK_bo (bs:=bs) (ch:=ch) (M:=M) hm hU hb k (by omega)
  have hu:=hU _ (List.getElem_mem (show k<U.length by omega))
  rw [passK_succ (by omega)]
  exact ⟨unitG_core.trans h1,(unitG_bok (by omega) hu h2).up (by omega)⟩
theorem In2.expG (h:In2 m S):In2 m (expG S).1:=by
 obtain ⟨h1,h2,h3,h4,h5⟩:=expK_same S S.M.length
 obtain ⟨l1,l2,_⟩:=expK_len (S:=S) S.M.length
 refine ⟨by unfold Go.Proofs.YtlodjgcnffmniaaGreat.expG;rw [l1];exact h.M,by unfold Go.Proofs.YtlodjgcnffmniaaGreat.expG;rw [h3];exact h.Q,by unfold Go.Proofs.YtlodjgcnffmniaaGreat.expG;rw [l2];exact h.J,fun x hx=>?_,fun x hx=>?_,by unfold Go.Proofs.YtlodjgcnffmniaaGreat.expG;rw [h5];exact h.nx,by unfold Go.Proofs.YtlodjgcnffmniaaGreat.expG;rw [h4];exact h.ck,by unfold Go.Proofs.YtlodjgcnffmniaaGreat.expG;rw [expK_key];exact h.aM,by unfold Go.Proofs.YtlodjgcnffmniaaGreat.expG;rw [h3];exact h.aQ,by unfold Go.Proofs.YtlodjgcnffmniaaGreat.expG;exact h.bo.same h1⟩
 ·have hm:x.2 ∈ S.M.map Prod.snd:=by rw [<- h2];exact List.mem_map_of_mem hx
  obtain ⟨y,hy,e⟩:=List.mem_map.1 hm
  rw [<- e];exact h.lM y hy
 ·exact lab_same (coreB_core h1) h.lJ x hx
theorem In2.tickG {bs:Bst} {ch:Chs15} {un:Uns} (hU:UniK un) (h:In2 m S) (hm:0<=m):In2 (m+1001000) (tickG bs ch un S).1:=by
 unfold Go.Proofs.YtlodjgcnffmniaaGreat.tickG
 split
 ·exact h.up (by omega)
 ·next hov=>
  have h1:In2 m { S with ck:=S.ck+1 }:=⟨h.M,h.Q,h.J,h.lM,h.lJ,h.nx,(show 0<=S.ck+1/\S.ck+1<=1073741824 by have:=h.ck;omega),h.aM,h.aQ,h.bo⟩
  have h2:=h1.expG
  obtain ⟨T,hT⟩:∃ T,T=Go.Proofs.YtlodjgcnffmniaaGreat.expG { S with ck:=S.ck+1 }:=⟨_,rfl⟩
  rw [<- hT] at h2 ⊢
  have hb:=passK_bo (bs:=bs) (ch:=ch) (M:=T.1.M) hm (fun u hu=>Nat.le_trans (hU.few T.1.J u hu) (Nat.le_trans h2.J (by decide))) h2.bo (un T.1.J).length (Nat.le_refl _)
  have hl:=Nat.le_trans (hU.len T.1.J) h2.J
  exact h2.withJ hb.1 (hb.2.up (by omega))
theorem In2.step {bs:Bst} {ch:Chs15} {un:Uns} (hU:UniK un) (h:In2 m S) (hm:0<=m) (v:Ov) (hl1:v.l1.length<=1000) (hl3:v.l3.length<=1000):In2 (m+1001000) (stepG bs ch un S v).1:=by
 have hu:m<=m+1001000:=by omega
 unfold stepG
 split
 ·unfold opG
  split
  ·exact (h.addN _ _ _ _ _ hl1).up hu
  split
  ·exact (h.dropN _).up hu
  split
  ·exact (h.addQ _).up hu
  split
  ·exact (h.dropQ _).up hu
  split
  ·exact (h.subJ hm _ _ _ _ _ _ _ _ _ _ hl3).up hu
  split
  ·exact (h.canJ _).up hu
  split
  ·exact (h.finJ _).up hu
  split
  ·exact (h.beatN _).up hu
  ·exact h.tickG hU hm
 ·exact h.up hu
end
theorem in2_new:In2 0 Sg.new:=⟨by decide,by decide,by decide,fun x hx=>(by cases hx),fun x hx=>(by cases hx),by decide,by decide,fun i j hi=>(by cases hi),fun i j hi=>(by cases hi),fun x hx=>(by cases hx)⟩
end
end Go.Proofs.YtlodjgcnffmniaaGreat
