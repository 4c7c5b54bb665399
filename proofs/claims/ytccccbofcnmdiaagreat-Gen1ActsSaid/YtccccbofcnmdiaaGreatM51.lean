/- Lemmas that the law stands on. No condition. -/
import Derived.Test.YtccccbofcnmdiaaGreatM50
namespace Go.Proofs.YtccccbofcnmdiaaGreat
set_option linter.unusedSimpArgs false
set_option linter.unusedVariables false
set_option maxRecDepth 100000
set_option maxHeartbeats 51200000
section
open Go.RowKit
theorem wrap_lt {k n:Nat} (h:k<n) (hn:n<=3000000):wrap64 ((k:Int)+1)=((k+1:Nat):Int):=by unfold wrap64;omega
theorem wrapI_lt {k n:Nat} (h:k<n) (hn:n<=3000000):IntKind.i64.wrap ((k:Int)+1)=((k+1:Nat):Int):=by rw [IntKind.wrap_i64];omega
theorem rest_at {n c p g:Nat} (hp:p<n) (hn:n<=c):0<n - (p+1)->(if c=p+1 then some (⟨g,0,none⟩:Addr) else some ⟨g,(p+1) * 3,none⟩)=some ⟨g,(p+1) * 3,none⟩:=fun h=>if_neg (by omega)
theorem cut_fit {L:List Ac} {n p:Nat} (h:n=L.length) (hb:n<=2001048) (hp:p<n):p<(cellsA L).length/\n - (p+1)=(cellsA L).length - (p+1)/\(cellsA L).length * 40<=140737488355328:=by
 rw [cellsA_length,<- h];exact ⟨hp,rfl,by omega⟩
theorem put_fit {L:List Ac} {n:Nat} (h:n=L.length) (hb:n<=2001048) (x:Ac):(cellsA L).length+(cellsA [x]).length<=maxLen/\((cellsA L).length+(cellsA [x]).length) * 40<=140737488355328:=by
 rw [cellsA_length,cellsA_length,<- h];exact ⟨by simp only [maxLen,List.length_singleton];omega,by rw [List.length_singleton];omega⟩
theorem runW_len:∀ (W l W':List Ac),runW W l=some W' -> W'.length<=W.length+l.length
 | W,[],W',h=>by injection h with h;subst h;exact Nat.le_add_right _ _
 | W,x :: l,W',h=>by
  change (actW W x).bind _=_ at h
  cases hA:actW W x with
  | none=>rw [hA] at h;cases h
  | some B=>
   rw [hA] at h
   have h1:=runW_len B l W' h
   have h2:B.length<=W.length+1:=by
    rcases actW_is hA with ⟨_,_,rfl⟩ | ⟨_,p,_,_,_,rfl⟩
    ·simp
    ·exact Nat.le_trans (List.length_eraseIdx_le _ _) (Nat.le_succ _)
   rw [List.length_cons]
   omega
theorem tickG_few {m:Int} {S:Sg} (hI:In2 m S) (hm:m<=1152921504606846976) (hk:¬ 1073741824<=S.ck):(tickG bsF chF unF S).2.2.length<=2001000:=by
 have hi:=hI.inv hm
 have hck:=hI.ck
 obtain ⟨S1,hS1⟩:∃ S1:Sg,S1 = { S with ck:=S.ck+1 }:=⟨_,rfl⟩
 have hSm1:Sm S1:=by rw [hS1];exact ⟨hi.sm.M,hi.sm.Q,hi.sm.J,hi.sm.lM,hi.sm.lJ,hi.sm.nx,⟨show 0<=S.ck+1 by omega,show S.ck+1<=4611686018427387904 by omega⟩⟩
 have hbo1:BoK 1152921504606846976 S1.J:=by rw [hS1];exact hi.bo
 have h1:=expG_few hSm1.M hSm1.J
 have h2:=passG_few (bs:=bsF) (ch:=chF) (un:=unF) choK uniK (M:=(expG S1).1.M) (J:=(expG S1).1.J) (expG_sm hSm1).J (expG_bo hbo1)
 unfold tickG
 rw [if_neg hk,<- hS1]
 show ((expG S1).2 ++ (passG bsF chF unF (expG S1).1.M (expG S1).1.J).2).length<=_
 rw [List.length_append]
 omega
theorem stF_few {m:Int} {S:Sg} (hI:In2 m S) (hm:m<=1152921504606846976) (v:Ov):(stF S v).2.2.length<=2001000:=by
 unfold stF stepG
 split
 ·unfold opG
  split
  ·unfold addN;split
   ·exact Nat.zero_le _
   ·split <;> exact Nat.zero_le _
  split
  ·unfold dropN';split
   ·have h1:=relA_le (s:=v.s) (J:=S.J) (k:=S.J.length)
    rw [relA_all] at h1
    have h2:=hI.J
    show (relA v.s S.J).length<=_
    omega
   ·exact Nat.zero_le _
  split
  ·unfold addQ;split
   ·exact Nat.zero_le _
   ·split <;> exact Nat.zero_le _
  split
  ·unfold dropQ;split
   ·split <;> exact Nat.zero_le _
   ·exact Nat.zero_le _
  split
  ·unfold subJ;split
   ·exact Nat.zero_le _
   ·split
    ·exact Nat.zero_le _
    ·split
     ·exact Nat.zero_le _
     ·split
      ·exact Nat.zero_le _
      ·split <;> exact Nat.zero_le _
  split
  ·unfold canJ;split
   ·exact Nat.zero_le _
   ·show (if _ then _ else _:List Ac).length<=_
    split
    ·exact Nat.zero_le _
    ·show 1<=_;omega
  split
  ·unfold finJ;split
   ·exact Nat.zero_le _
   ·split <;> exact Nat.zero_le _
  split
  ·unfold beatN;split <;> exact Nat.zero_le _
  ·by_cases hk:1073741824<=S.ck
   ·unfold tickG;rw [if_pos hk];exact Nat.zero_le _
   ·exact tickG_few hI hm hk
 ·exact Nat.zero_le _
section
variable {P:Program} {w w':World} {base k:Nat} {e:TypeId} {v:Value} {l:List (List Value)}
theorem put_at_op {o:Oper} {a:Act} {K:Act->World->Prop} {Q:Exit->Act->World->Prop}
  (s x:Operand) (t:TypeId) (hop:o.op=Op.call { callee:=Callee.builtin Builtin.append,args:=#[s,x],argTypes:=#[t,t] })
  (z:Value) (b:Nat) (h1:P.underlying t=some (.slice e)) (h2:(P.info? e).map (fun i=>(i.zero,i.size,i.bytes))=some (some z,k,b)) (hz:z.cells.size=k) (hk:0<k)
  (hs:a.eval s=v) (hown:CutK w base e k v l) (ad:Addr) (c m:Nat) (news:List (List Value))
  (hx:a.eval x = .slice (some ad) m c) (hr:RdK w k (some ad) news) (hn:∀ y ∈ news,y.length=k) (hone:∀ y ∈ news,∀ u ∈ y,u.oneCell' = true) (hm:m=news.length) (hm0:0<m)
  (b0:l.length+news.length<=maxLen) (b1:(l.length+news.length) * b<=140737488355328) (hbase:base<=w.heap.size)
  (hK:∀ v' w',CutK w' base e k v' (l ++ news)->w.grownBy w' v.ownBlock->(v'.ownBlock=v.ownBlock ∨ ∀ q,v'.ownBlock=some q->w.heap.size<=q)->K (a.put o.dst v') w'):o.wp P a w K Q:=by
 rcases hown with h | ⟨g,h⟩
 ·subst hm
  obtain ⟨i,hi,hiz,his,hib⟩:=info_partsK h2
  obtain ⟨v',w',hrun,r1,r2,r3,r4⟩:=run_append_own_at (P:=P) w base t o.type e i z k b h1 hi hiz his hib hz hk v l.length l.flatten h.2 ad news.length c news.flatten (flat_length hn) (hr.cells hn)
   (fun u hu=>by obtain ⟨y,hy,hu'⟩:=List.mem_flatten.1 hu;exact hone y hy u hu') b0 b1 hbase
  unfold Oper.wp
  simp [execOp,hop,resolve,invoke,builtin,hs,hx,hrun,Result.andThen]
  exact hK v' w' (.inl ⟨fun y hy=>(List.mem_append.1 hy).elim (h.1 y) (hn y),by rw [List.length_append,List.flatten_append];exact r1⟩) r2 (r4.imp id fun e q hq=>by rw [e] at hq;injection hq with hq;omega)
 ·subst hm
  obtain ⟨i,hi,hiz,his,hib⟩:=info_partsK h2
  rw [h.val] at hs
  obtain ⟨v',w',hrun,r1,r2⟩:=run_append_arg_grows (P:=P) w t o.type e i z k b h1 hi hiz his hib hz hk ⟨g,0,none⟩ l.length l.length l.flatten (flat_length h.len) (h.rd.cells h.len)
   ad news.length c news.flatten (flat_length hn) (hr.cells hn) (by omega) b0 b1
  unfold Oper.wp
  simp [execOp,hop,resolve,invoke,builtin,hs,hx,hrun,Result.andThen]
  have hO:OwnK w' w.heap.size e k v' (l ++ news):=⟨fun y hy=>(List.mem_append.1 hy).elim (h.len y) (hn y),by rw [List.length_append,List.flatten_append];exact r1⟩
  exact hK _ _ (.inl (hO.base hbase)) ⟨r2.os,r2.tape,r2.output,r2.size,fun q hq _=>r2.block q hq (by simp)⟩ (.inr hO.block)
end
structure T1 (w wr:World) (g:Nat) (F:Nat->Prop) (S:Sg) (m:Int):Prop where
 g1:Gx wr w.heap.size g F S
 b1:∀ k,F k->w.heap.size<=k/\k<wr.heap.size
 i1:In2 m S
 be:Below w.heap.size w wr
structure Wr (w wr:World) (F:Nat->Prop) (v:Value) (W:List Ac):Prop where
 cut:CutK wr w.heap.size 64 3 v (cellsA W)
 off:∀ q,v.ownBlock=some q -> ¬ F q
section
variable {w wr w':World} {g:Nat} {F F':Nat->Prop} {S S':Sg} {m m':Int} {v v':Value} {W W':List Ac}
theorem T1.below (H:T1 w wr g F S m) (hb:Below wr.heap.size wr w'):T1 w w' g F S m:=
 ⟨H.g1.below hb,fun k hk=>⟨(H.b1 k hk).1,Nat.lt_of_lt_of_le (H.b1 k hk).2 hb.size⟩,H.i1,H.be.trans (hb.mono H.be.size)⟩
theorem T1.grp (H:T1 w wr g F S m) {q:Nat->Prop} (hg:GrP q wr w') (hq:∀ k,q k -> ¬ F k/\w.heap.size<=k):T1 w w' g F S m:=
 ⟨H.g1.grp hg fun k _ hk e=>(hq k e).1 hk,fun k hk=>⟨(H.b1 k hk).1,Nat.lt_of_lt_of_le (H.b1 k hk).2 hg.size⟩,H.i1,H.be.trans (hg.below H.be.size fun k hk=>(hq k hk).2)⟩
theorem T1.left (H:T1 w wr g F S m) (h1:Gx w' w.heap.size g (fun k=>F k ∨ wr.heap.size<=k) S') (hg:GrP F wr w') (hi:In2 m' S'):T1 w w' g (nextF F wr w') S' m':=by
 refine ⟨h1.wide fun k hk hf=>⟨hf,hk⟩,fun k hk=>⟨?_,hk.2⟩,hi,H.be.trans (hg.below H.be.size fun k hk=>(H.b1 k hk).1)⟩
 rcases hk.1 with h3 | h3
 ·exact (H.b1 k h3).1
 ·exact Nat.le_trans H.be.size h3
theorem Wr.below (h:Wr w wr F v W) (hb:Below wr.heap.size wr w'):Wr w w' F v W:=⟨h.cut.below hb,h.off⟩
theorem Wr.step (h:Wr w wr F v W) (hg:GrP F wr w'):Wr w w' (nextF F wr w') v W:=⟨h.cut.grp hg h.off,fun q hq=>nextF.off (h.off q hq) (h.cut.block q hq).2⟩
theorem Wr.sl (h:Wr w wr F v W):∃ A c,v = .slice A W.length c/\RdA wr A W/\W.length<=c/\c<=9223372036854775807:=by
 obtain ⟨A,c,hs⟩:=h.cut.sl
 have h1:=hs.val;have h2:=hs.cap;have h3:=hs.cap2
 rw [cellsA_length] at h1 h2
 exact ⟨A,c,h1,hs.rd.acts,h2,h3⟩
theorem Wr.new (w wr:World) (F:Nat->Prop):Wr w wr F (.slice none 0 0) []:=⟨.inl (OwnK.nil _ _ _ _),fun q hq=>by cases hq⟩
end
theorem t1_do {w wr:World} {g:Nat} {F:Nat->Prop} {S:Sg} {m:Int} (H:T1 w wr g F S m) (hm:0<=m) (hm2:m<=1152921504606846976) (x:Oz) (hx:OzOk wr x) (hl1:x.v.l1.length<=1000) (hl3:x.v.l3.length<=1000) :
  Calls Tryz.prog 18 #[.pointer (some ⟨g,0,none⟩),.agg x.arr] wr fun e w'=>RetD wr.heap.size w' e (stF S x.v).2/\T1 w w' g (nextF F wr w') (stF S x.v).1 (m+1001000)/\GrP F wr w':=by
 refine (gx_do bsF chF unF bestK choK uniK bare3 w.heap.size g F m S x wr H.g1 H.i1 hm2 hx hl1 hl3).mono ?_
 rintro e w' ⟨⟨A,n,c,rfl,hR⟩,h1,h2⟩
 exact ⟨⟨A,n,c,rfl,hR⟩,H.left h1 h2 (H.i1.step uniK hm x.v hl1 hl3),h2⟩
theorem t1_new (w wr:World) (hb:Below w.heap.size w wr):Calls Tryz.prog 14 #[] wr fun e w'=>e = .returned (.pointer (some ⟨wr.heap.size,0,none⟩))/\T1 w w' wr.heap.size (fun k=>wr.heap.size<=k/\k<w'.heap.size) Sg.new 0:=by
 refine (tg_new1 w wr hb).mono ?_
 rintro e w' ⟨rfl,h,hb2⟩
 exact ⟨rfl,h,fun k hk=>⟨Nat.le_trans hb.size hk.1,hk.2⟩,in2_new,hb.trans (hb2.mono hb.size)⟩
def RetT1 (b:Nat) (w:World) (e:Ending) (S:Sg):Prop:=∃ (v:Sv) (S':Sg),e = .returned (.agg v.arr)/\OwnS w b (.slice v.A v.N v.cA) (.slice v.B v.K v.cB) (.slice v.C v.n v.cC) S' /\ RdSt w v S' /\ S'.bare=S.bare/\v.ck=S'.ck/\v.nx=S'.nx
theorem t1_state {w wr:World} {g:Nat} {F:Nat->Prop} {S:Sg} {m:Int} (H:T1 w wr g F S m) :
  Calls Tryz.prog 20 #[.pointer (some ⟨g,0,none⟩)] wr fun e w'=>RetT1 wr.heap.size w' e S/\Below wr.heap.size wr w':=by
 refine (gx_state w.heap.size g F m S wr H.g1 H.i1).mono ?_
 rintro e w' ⟨⟨uM,uQ,uJ,S',rfl,hO,hbr⟩,-,hb⟩
 obtain ⟨⟨ck,nx,A,N,cA,B,K,cB,C,n,cC⟩,hva,hvr⟩:=hO.rd
 have hv1:.slice A N cA=uM:=congrArg (fun a:Array Value=>a.getD 2 undef) hva
 have hv2:.slice B K cB=uQ:=congrArg (fun a:Array Value=>a.getD 3 undef) hva
 have hv3:.slice C n cC=uJ:=congrArg (fun a:Array Value=>a.getD 4 undef) hva
 subst hv1 hv2 hv3
 have hck:S.ck=S'.ck:=(congrArg Sg.ck hbr:S'.bare.ck=S.bare.ck).symm
 have hnx:S.nx=S'.nx:=(congrArg Sg.nx hbr:S'.bare.nx=S.bare.nx).symm
 exact ⟨⟨⟨S.ck,S.nx,A,N,cA,B,K,cB,C,n,cC⟩,S',rfl,hO,hO.rdOf hck hnx,hbr,hck,hnx⟩,hb⟩
def mnyB (J:List Jl) (k:Nat):Nat:=((J.take k).filter fun x=>!wB x.1.nd).length
theorem mnyB_le (J:List Jl) (k:Nat):mnyB J k<=J.length:=Nat.le_trans (List.length_filter_le _ _) (by rw [List.length_take];omega)
theorem mnyB_skip {J:List Jl} {k:Nat} (h:k<J.length) (hw:wB J[k].1.nd=true):mnyB J (k+1)=mnyB J k:=by
 unfold mnyB;rw [List.take_succ_eq_append_getElem h,List.filter_append];simp [hw]
theorem mnyB_turn {J:List Jl} {k:Nat} (h:k<J.length) (hw:wB J[k].1.nd=false):mnyB J (k+1)=mnyB J k+1:=by
 unfold mnyB;rw [List.take_succ_eq_append_getElem h,List.filter_append];simp [hw]
theorem tells_bare {J J':List Jl} {W:List Ac} (h:Tells J W) (e:bL J' = bL J):Tells J' W:=by
 have h1:∀ L:List Jl,bnd (bL L)=bnd L:=fun L=>by
  induction L with
  | nil=>rfl
  | cons x L ih=>
   show bn1 (bY x) ++ bnd (bL L)=bn1 x ++ bnd L
   rw [ih];rfl
 unfold Tells
 rw [<- h1 J',e,h1 J]
 exact h
theorem tells_all {J:List Jl} {W:List Ac} (h:Tells J W):mnyB J J.length=W.length:=by
 unfold mnyB;rw [List.take_length];exact (tells_many h).1
def fndW (W:List Ac) (t n:ByteArray) (k:Nat):Bool:=(W.take k).any fun y=>sE y.2.1 t && sE y.2.2 n
theorem fndW_step {W:List Ac} {k:Nat} (h:k<W.length) (t n:ByteArray):fndW W t n (k+1)=(fndW W t n k || (sE W[k].2.1 t && sE W[k].2.2 n)):=by
 unfold fndW;rw [List.take_succ_eq_append_getElem h,List.any_append];simp
theorem fndW_all {J:List Jl} {W:List Ac} (h:Tells J W) {x:Jl} (hx:x ∈ J) (hw:wB x.1.nd=false):fndW W x.1.nm x.1.nd W.length=true:=by
 obtain ⟨y,hy,e1,e2⟩:=(tells_many h).2 x hx hw
 unfold fndW
 rw [List.take_length,List.any_eq_true]
 exact ⟨y,hy,by rw [e1,e2,sE_refl,sE_refl];rfl⟩
theorem rdA_rdk {w:World} {A:Option Addr} {l:List Ac} (h:RdA w A l):RdK w 3 A (cellsA l):=fun i x hx=>by
 unfold cellsA at hx
 rw [List.getElem?_map] at hx
 cases hl:l[i]? with
 | none=>rw [hl] at hx;cases hx
 | some y=>
  rw [hl] at hx
  injection hx with hx
  subst hx
  obtain ⟨g,o,ha,h1,h2,h3⟩:=h i y hl
  refine ⟨g,o,ha,fun j v hv=>?_⟩
  match j,hv with
  | 0,hv=>injection hv with hv;subst hv;exact h1
  | 1,hv=>injection hv with hv;subst hv;exact h2
  | 2,hv=>injection hv with hv;subst hv;exact h3
def Fo (F:Nat->Prop) (p6:Nat) (A1:Option Addr) (acts:List Ac) (k:Nat):Prop:=F k ∨ k=p6 ∨ (acts ≠ [] /\ ∃ a,A1=some a/\a.block=k)
structure Ww (w wr:World) (g:Nat) (F:Nat->Prop) (S:Sg) (m:Int) (p6:Nat) (u:Int) (A1:Option Addr) (n1 c1:Nat) (acts:List Ac) (v:Value) (W:List Ac):Prop where
 t:T1 w wr g F S m
 l:Wr w wr (Fo F p6 A1 acts) v W
 b:Bk wr p6 36 #[.int .i64 u,.slice A1 n1 c1]
 r:RdA wr A1 acts
section
variable {w wr w':World} {g p6 n1 c1:Nat} {F:Nat->Prop} {S:Sg} {m u:Int} {A1:Option Addr} {acts W W':List Ac} {v v':Value}
theorem Ww.below (h:Ww w wr g F S m p6 u A1 n1 c1 acts v W) (hb:Below wr.heap.size wr w'):Ww w w' g F S m p6 u A1 n1 c1 acts v W:=
 ⟨h.t.below hb,h.l.below hb,h.b.later hb,h.r.later hb⟩
theorem Ww.lt (h:Ww w wr g F S m p6 u A1 n1 c1 acts v W) {k:Nat} (hk:Fo F p6 A1 acts k):k<wr.heap.size:=by
 rcases hk with e | e | ⟨e,a,ha,hb⟩
 ·exact (h.t.b1 k e).2
 ·rw [e];exact h.b.here
 ·obtain ⟨g',o,ha',hlt,_⟩:=h.r.at (i:=0) (List.length_pos_iff.2 e)
  rw [ha] at ha'
  injection ha' with ha'
  rw [<- hb,ha'];exact hlt
theorem Ww.put (h:Ww w wr g F S m p6 u A1 n1 c1 acts v W) (hO:CutK w' w.heap.size 64 3 v' (cellsA W')) (hg:wr.grownBy w' v.ownBlock) (hat:v'.ownBlock=v.ownBlock ∨ ∀ q,v'.ownBlock=some q->wr.heap.size<=q) :
  Ww w w' g F S m p6 u A1 n1 c1 acts v' W':=by
 have hG:=GrP.of hg
 refine ⟨h.t.grp hG fun k hk=>⟨fun e=>h.l.off k hk (.inl e),(h.l.cut.block k hk).1⟩,⟨hO,fun q hq hf=>?_⟩,h.b.grp hG fun e=>h.l.off _ e (.inr (.inl rfl)),fun i x hx=>?_⟩
 ·rcases hat with e | e
  ·exact h.l.off q (by rw [<- e];exact hq) hf
  ·have h1:=e q hq;have h2:=h.lt hf;omega
 ·have hne:acts ≠ []:=fun e=>by rw [e] at hx;simp at hx
  obtain ⟨g',o,ha,h1,h2,h3⟩:=h.r i x hx
  have hn:¬ v.ownBlock=some g':=fun e=>h.l.off _ e (.inr (.inr ⟨hne,_,ha,rfl⟩))
  exact ⟨g',o,ha,(hG.cell (World.block_lt_of_cell? wr _ h1) hn).trans h1,(hG.cell (World.block_lt_of_cell? wr _ h2) hn).trans h2,(hG.cell (World.block_lt_of_cell? wr _ h3) hn).trans h3⟩
theorem cellsA_erase (l:List Ac) (p:Nat):cellsA (l.eraseIdx p)=(cellsA l).eraseIdx p:=by
 unfold cellsA
 rw [List.eraseIdx_eq_take_drop_succ,List.eraseIdx_eq_take_drop_succ];simp [List.map_take,List.map_drop]
theorem Ww.cut {q2 n c p:Nat} (h:Ww w wr g F S m p6 u A1 n1 c1 acts (.slice (some ⟨q2,0,none⟩) n c) W) (hO:CutK w' w.heap.size 64 3 v' ((cellsA W).eraseIdx p)) (hg:wr.grownBy w' none)
  (hat:v'.ownBlock=some q2 ∨ ∀ q,v'.ownBlock=some q->wr.heap.size<=q):Ww w w' g F S m p6 u A1 n1 c1 acts v' (W.eraseIdx p):=
 h.put (by rw [cellsA_erase];exact hO) ⟨hg.os,hg.tape,hg.output,hg.size,fun q hq _=>hg.block q hq (by simp)⟩ (hat.imp (fun e=>e) id)
theorem Ww.first {w0 w5 w6:World} {F0:Nat->Prop} (h0:T1 w w0 g F0 S m) (hl0:Wr w w0 F0 v W) {S5:Sg} {m5:Int} (h5:T1 w w5 g (nextF F0 w0 w5) S5 m5) (hG:GrP F0 w0 w5) (hR:RetL w0.heap.size w5 A1 n1 c1 acts)
  (hb:Below w5.heap.size w5 w6) (hB:Bk w6 w5.heap.size 36 #[.int .i64 u,.slice A1 n1 c1]):Ww w w6 g (nextF F0 w0 w5) S5 m5 w5.heap.size u A1 n1 c1 acts v W:=by
 have hl:=hl0.step hG
 refine ⟨h5.below hb,⟨hl.cut.below hb,fun q hq hf=>?_⟩,hB,hR.2.1.later hb⟩
 have hq0:=(hl0.cut.block q hq).2
 rcases hf with e | e | ⟨_,a,ha,e⟩
 ·exact hl.off q hq e
 ·have:=hG.size;omega
 ·have:=hR.2.2.2.2 a ha;omega
theorem Ww.last (h:Ww w wr g F S m p6 u A1 n1 c1 acts v W):T1 w wr g F S m/\Wr w wr F v W:=⟨h.t,h.l.cut,fun q hq hf=>h.l.off q hq (.inl hf)⟩
theorem Ww.at0 (h:Ww w wr g F S m p6 u A1 n1 c1 acts v W) (h0:0<W.length):∃ q c,v = .slice (some ⟨q,0,none⟩) W.length c/\RdA wr (some ⟨q,0,none⟩) W/\W.length<=c/\c<=9223372036854775807:=by
 obtain ⟨A,c,hv,hr,h1,h2⟩:=h.l.sl
 have:∃ q,A=some ⟨q,0,none⟩:=by
  rcases h.l.cut with hO | ⟨q,hF⟩
  ·rw [hv] at hO;exact hO.at0 (by rw [cellsA_length];exact h0)
  ·have e:=hF.val;rw [hv] at e;injection e with e;exact ⟨q,e⟩
 obtain ⟨q,rfl⟩:=this
 exact ⟨q,c,hv,hr,h1,h2⟩
end
theorem put_at {P:Program} {ops:Array Oper} {rest:List Oper} {w:World} {base k:Nat} {e:TypeId} {v:Value} {l:List (List Value)} {o:Oper} {a:Act} {Q:Exit->Act->World->Prop} (hw:Region.wanted o (yielded ops a.tmps)=true)
  (s x:Operand) (t:TypeId) (hop:o.op=Op.call { callee:=Callee.builtin Builtin.append,args:=#[s,x],argTypes:=#[t,t] })
  (z:Value) (b:Nat) (h1:P.underlying t=some (.slice e)) (h2:(P.info? e).map (fun i=>(i.zero,i.size,i.bytes))=some (some z,k,b)) (hz:z.cells.size=k) (hk:0<k)
  (hs:a.eval s=v) (hown:CutK w base e k v l) (ad:Addr) (c m:Nat) (news:List (List Value))
  (hx:a.eval x = .slice (some ad) m c) (hr:RdK w k (some ad) news) (hn:∀ y ∈ news,y.length=k) (hone:∀ y ∈ news,∀ u ∈ y,u.oneCell' = true) (hm:m=news.length) (hm0:0<m)
  (b0:l.length+news.length<=maxLen) (b1:(l.length+news.length) * b<=140737488355328) (hbase:base<=w.heap.size)
  (hK:∀ v' w',CutK w' base e k v' (l ++ news)->w.grownBy w' v.ownBlock->(v'.ownBlock=v.ownBlock ∨ ∀ q,v'.ownBlock=some q->w.heap.size<=q)->wpList P ops Q rest (a.put o.dst v') w'):wpList P ops Q (o :: rest) a w:=
 BigFrame.wpList_want hw fun K hKK=>put_at_op s x t hop z b h1 h2 hz hk hs hown ad c m news hx hr hn hone hm hm0 b0 b1 hbase (fun v' w' a b c=>hKK _ _ (hK v' w' a b c))
section
variable {n c p g:Nat}
end
end
end Go.Proofs.YtccccbofcnmdiaaGreat
