/- Lemmas that the law stands on. No condition. -/
import Derived.Test.YtccccbofcnmdiaaGreatK10
namespace Go.Proofs.YtccccbofcnmdiaaGreat
set_option linter.unusedSimpArgs false
set_option linter.unusedVariables false
set_option maxRecDepth 100000
set_option maxHeartbeats 51200000
section
open Go.RowKit
section
variable {P:Program}
theorem append15_op (w:World){o:Oper}{a:Act}{K:Act->World->Prop}{Q:Exit->Act->World->Prop}
  (s x:Operand)(t:TypeId)(hop:o.op=Op.call { callee:=Callee.builtin Builtin.append,args:=#[s,x],argTypes:=#[t,t] })
  (base:Nat)(e:TypeId)(z:Value) (k b:Nat)(h1:P.underlying t=some (.slice e))(h2:(P.info? e).map (fun i=>(i.zero,i.size,i.bytes))=some (some z,k,b))(hz:z.cells.size=k)(hk:0<k)
  (v:Value)(l:List (List Value))(hs:a.eval s=v)(hown:OwnK w base e k v l)(ad:Addr) (c m:Nat)(news:List (List Value))
  (hx:a.eval x = .slice (some ad) m c)(hr:RdK w k (some ad) news)(hn:∀ y ∈ news,y.length=k)(hone:∀ y ∈ news,∀ u ∈ y,u.oneCell' = true)(hm:m=news.length)
  (b0:l.length+news.length<=maxLen)(b1:(l.length+news.length) * b<=140737488355328)(hbase:base<=w.heap.size)
  (hK:∀ v' w',OwnK w' base e k v' (l ++ news)->w.grownBy w' v.ownBlock->(v'.ownBlock=v.ownBlock ∨ v'.ownBlock=some w.heap.size)->K (a.put o.dst v') w'):o.wp P a w K Q:=by
 subst hm
 obtain ⟨i,hi,hiz,his,hib⟩:=info_partsK h2
 obtain ⟨v',w',hrun,r1,r2,r3,r4⟩:=run_append_own_at (P:=P) w base t o.type e i z k b h1 hi hiz his hib hz hk v l.length l.flatten hown.2 ad news.length c news.flatten (flat_length hn) (hr.cells hn)
  (fun u hu=>by obtain ⟨y,hy,hu'⟩:=List.mem_flatten.1 hu;exact hone y hy u hu') b0 b1 hbase
 unfold Oper.wp
 simp [execOp,hop,resolve,invoke,builtin,hs,hx,hrun,Result.andThen]
 exact hK v' w' ⟨fun y hy=>(List.mem_append.1 hy).elim (hown.1 y) (hn y),by rw [List.length_append,List.flatten_append];exact r1⟩ r2 r4
end
section
variable {o:Oper}{a:Act}{w:World}{K:Act->World->Prop}{Q:Exit->Act->World->Prop}
theorem jone15_op (t:Tmp)(m:Jb)(ho:o.op = .buildSlice 29 1 #[(0,.tmp t)])(hx:a.tmps[t]?.getD undef = .agg m.arr)(h:∀ g w',g=w.heap.size->w'.heap.size=w.heap.size+1->Bk w' g 66 m.arr->Below w.heap.size w w' -> K (a.put o.dst (.slice (some ⟨g,0,none⟩) 1 1)) w'):o.wp Tryz.prog a w K Q:=by
 unfold Oper.wp execOp
 simp only [ho]
 go_simp
 exact h _ _ rfl (by simp) (Bk.fresh w _ _) ((Below.refl _ _).alloc (Nat.le_refl _) _)
end
theorem jrd15 {w:World}{g:Nat}{t:TypeId}{q:Jb}(h:Bk w g t q.arr):RdK w 13 (some ⟨g,0,none⟩) (cellsJ [q]):=fun i x hx=>by
 match i,hx with
 | 0,hx=>simp [cellsJ] at hx;subst hx;exact ⟨g,0,rfl,h.range (Part.whole _)⟩
 | i+1,hx=>simp [cellsJ] at hx
theorem RdQ.rg {w:World}{r:Nat}{Q:List Qx}(h:RdQ w (some ⟨r,0,none⟩) Q){p:Nat}(hp:p<Q.length):w.rangeAt r (p * 4) Q[p].arr.toList:=by
 obtain ⟨g,o,ha,_,hq⟩:=h.at hp
 injection ha with ha
 injection ha with e1 e2
 subst e1 e2
 have:=hq.rg
 rw [Nat.zero_add] at this
 exact this
theorem ql_at {Q:List Qx}{p:Nat}(hp:p<Q.length):ql Q p=Q[p]:=by simp [ql,List.getD,hp]
section
variable {w w' w1 w2:World}{b g:Nat}{lst:Int} {vM vQ vJ v':Value}{S:Sg}
theorem Gs.moreJ {x:Jl}(h0:Gs w b g lst vM vQ vJ S)(hb:Below w.heap.size w w1)(hg:GrP (fun k=>vJ.ownBlock=some k) w1 w')(hO:OwnK w' b 66 13 v' (cellsJ (jbs (S.J ++ [x]))))(hat:v'.ownBlock=vJ.ownBlock ∨ ∀ k,v'.ownBlock=some k->w.heap.size<=k)
  (hz:JzOk x)(hl:LbNew w1 w.heap.size x.1.A x.1.n x.1.cp x.2)(hbw:b<=w.heap.size) :
  Wn w ((w'.setCell ⟨g,4,none⟩ v').setCell ⟨g,1,none⟩ (.int .i64 (lst+1))) b g vM vQ vJ S (lst+1) vM vQ v' { S with nx:=S.nx+1,J:=S.J ++ [x] }:=by
 have h:=h0.below hb
 have hgl:g<w.heap.size:=h0.bk.here
 have hgb:Bk w' g 73 #[.int .i64 S.ck,.int .i64 lst,vM,vQ,vJ]:=h.bk.grp hg fun e=>h.ne _ (.inr (.inr (.inl e))) rfl
 have hBK:Bk ((w'.setCell ⟨g,4,none⟩ v').setCell ⟨g,1,none⟩ (.int .i64 (lst+1))) g 73 #[.int .i64 S.ck,.int .i64 (lst+1),vM,vQ,v']:=(hgb.put 4 v').put 1 _
 have hG9:GrP (fun k=>vJ.ownBlock=some k ∨ k=g) w1 ((w'.setCell ⟨g,4,none⟩ v').setCell ⟨g,1,none⟩ (.int .i64 (lst+1))):=((hg.wide (fun _ _ h=>.inl h)).set (a:=⟨g,4,none⟩) (.inr rfl) _).set (a:=⟨g,1,none⟩) (.inr rfl) _
 have hv9:∀ k,v'.ownBlock=some k->k ≠ g:=fun k hk=>by
  rcases hat with e | e
  ·exact h.ne k (.inr (.inr (.inl (by rw [<- e];exact hk))))
  ·have:=e k hk;omega
 have hJ9:OwnK ((w'.setCell ⟨g,4,none⟩ v').setCell ⟨g,1,none⟩ (.int .i64 (lst+1))) b 66 13 v' (cellsJ (jbs (S.J ++ [x]))):=hO.grp (((GrP.refl (fun k=>k=g) w').set (a:=⟨g,4,none⟩) rfl _).set (a:=⟨g,1,none⟩) rfl _) fun k hk e=>hv9 k hk e
 have hM9:=h.own.M.grp hG9 fun k hk e=>e.elim (fun e=>h.own.M.parted h.own.J (by decide) hk e) (h.ne k (.inl hk))
 have hQ9:=h.own.Q.grp hG9 fun k hk e=>e.elim (fun e=>h.own.Q.parted h.own.J (by decide) hk e) (h.ne k (.inr (.inl hk)))
 have hlM9:=fun x hx=>(h.own.lM x hx).grp hG9 fun k hk e=>e.elim (fun e=>(h.own.lM x hx).off h.own.J (by decide) hk e) (h.ne k (.inr (.inr (.inr (.inl ⟨x,hx,hk⟩)))))
 have hmem:∀ y ∈ S.J ++ [x],y ∈ S.J ∨ y=x:=fun y hy=>(List.mem_append.1 hy).imp id (fun e=>List.mem_singleton.1 e)
 have hlJ9:∀ y ∈ S.J ++ [x],LbNew ((w'.setCell ⟨g,4,none⟩ v').setCell ⟨g,1,none⟩ (.int .i64 (lst+1))) b y.1.A y.1.n y.1.cp y.2:=fun y hy=>by
  rcases hmem y hy with hy | rfl
  ·exact (h.own.lJ y hy).grp hG9 fun k hk e=>e.elim (fun e=>(h.own.lJ y hy).off h.own.J (by decide) hk e) (h.ne k (.inr (.inr (.inr (.inr ⟨y,hy,hk⟩)))))
  ·exact (hl.grp hG9 fun k hk e=>e.elim (fun e=>hl.off h.own.J (by decide) hk e) (fun e=>by have:=(hl.blk hk).1;omega)).base hbw
 refine ⟨⟨hBK,by show S.nx+1=lst+1+1;rw [h.nx],⟨hM9,hQ9,hJ9,hlM9,hlJ9,h.own.zM,h.own.zQ,fun y hy=>(hmem y hy).elim (h.own.zJ y) (fun e=>by rw [e];exact hz)⟩,h.le,fun k hk=>?_⟩,(GrP.ofBelow hb).trans (hG9.wide fun k _ e=>e.elim (fun e=>.inr (.inr (.inr (.inl e)))) .inl),fun k hk=>?_⟩
 ·rcases hk with e | e | e | e | ⟨y,hy,e⟩
  ·exact h.ne k (.inl e)
  ·exact h.ne k (.inr (.inl e))
  ·exact hv9 k e
  ·exact h.ne k (.inr (.inr (.inr (.inl e))))
  ·rcases hmem y hy with hy | rfl
   ·exact h.ne k (.inr (.inr (.inr (.inr ⟨y,hy,e⟩))))
   ·have:=(hl.blk e).1;omega
 ·rcases hk with e | e | e | e | e | ⟨y,hy,e⟩
  ·exact .inl (.inl e)
  ·exact .inl (.inr (.inl e))
  ·exact .inl (.inr (.inr (.inl e)))
  ·rcases hat with h' | h'
   ·exact .inl (.inr (.inr (.inr (.inl (by rw [<- h'];exact e)))))
   ·exact .inr (h' k e)
  ·exact .inl (.inr (.inr (.inr (.inr (.inl e)))))
  ·rcases hmem y hy with hy | rfl
   ·exact .inl (.inr (.inr (.inr (.inr (.inr ⟨y,hy,e⟩)))))
   ·exact .inr (hl.blk e).1
end


theorem submit_any (b g:Nat) (lst:Int)(vM vQ vJ:Value)(S:Sg)(t0 t1:ByteArray) (t2 t3 t4 t5:Int)(t6:Option Addr) (t7 t8:Nat)(t9 t10:ByteArray) (t11:Int)(l:List Lb)(w:World)(hG:Hid (Gs w b g lst vM vQ vJ S))(hM:Hid (Sm S))(hA:Hid (AscK (keyQ S.Q)))
  (hL:Hid (LbOk w t6 t7 t8 l))(hll:Hid (l.length<=1000))(hbw:Hid (b<=w.heap.size))(hz:Hid (t0.size<=140737488351232/\t1.size<=140737488351232/\t9.size<=140737488351232/\t10.size<=140737488351232)) :
  Calls Tryz.prog 87 #[.pointer (some ⟨g,0,none⟩),.agg #[.string t0,.string t1,.int .i64 t2,.int .i64 t3,.int .i64 t4,.int .i64 t5,.slice t6 t7 t8,.string t9,.string t10,.int .i64 t11]] w fun e w'=>e = .returned (.int .i64 (subJ S t0 t1 t2 t3 t4 t5 t9 t10 t11 l).2.1)/\Went w w' b g vM vQ vJ S (subJ S t0 t1 t2 t3 t4 t5 t9 t10 t11 l).1:=by
 obtain ⟨B,cB,hv,_,_,_,_⟩:=hG.out.own.Q.sl
 obtain ⟨K0,hl⟩:∃ N,N=S.Q.length:=⟨_,rfl⟩
 rw [cellsQ_length,<- hl] at hv
 subst hv
 obtain ⟨C,cC,hv,_,_,_,_⟩:=hG.out.own.J.sl
 obtain ⟨n,hln⟩:∃ n,n=S.J.length:=⟨_,rfl⟩
 rw [cellsJ_length,List.length_map,<- hln] at hv
 subst hv
 have hlb:K0<=1000:=by rw [hl];exact hM.out.Q
 have hlnb:n<=1000:=by rw [hln];exact hM.out.J
 obtain ⟨p,hp⟩:∃ p,p=lbK t1 (keyQ S.Q):=⟨_,rfl⟩
 obtain ⟨f,hf⟩:∃ f,f=hasK t1 (keyQ S.Q):=⟨_,rfl⟩
 obtain ⟨r,hr⟩:∃ r,r=fnd t0 0 (jbs S.J):=⟨_,rfl⟩
 obtain ⟨R,hR⟩:∃ R,R=subJ S t0 t1 t2 t3 t4 t5 t9 t10 t11 l:=⟨_,rfl⟩
 rw [<- hR]
 have HR0:Hid (R=if 0<=r then (S,8,[]) else if f=false then (S,7,[]) else if 48<=n then (S,10,[]) else if admQ (ql S.Q p) S.J t3 t4 t5 ≠ 0 then (S,admQ (ql S.Q p) S.J t3 t4 t5,[]) else if 1073741824<=S.nx then (S,6,[]) else ({ S with J:=S.J ++ [newJ S.nx t0 t1 t2 t3 t4 t5 none 0 0 t9 t10 t11 l],nx:=S.nx+1 },0,[])):=by
  show _=_;rw [hR];unfold subJ plJ;rw [<- hf,<- hp,<- hr,<- hln]
 have kq:∀ W,RdQ W B S.Q->Calls Tryz.prog 100 #[.slice B K0 cB,.string t1,.func (.func 96) #[] #[]] W fun e w'=>e = .returned (.tuple #[.int .i64 p,.bool f])/\Below W.heap.size W w':=fun W h=>by
  have hx:=findQ_any B K0 cB S.Q t1 W hl h hlb hA.out
  rw [<- hf,<- hp] at hx
  exact hx
 have kj:=fun (W:World)(h:RdJ W C (jbs S.J))=>find_any C n cC (jbs S.J) t0 W (show _=_ by rw [List.length_map];exact hln) (by omega) h r hr.symm
 have hpf:f=true->p<S.Q.length:=fun e=>by rw [hf] at e;have:=hasK_lt e;rw [List.length_map] at this;rw [hp];exact this
 have KQ:=Lib.hid kq;have KJ:=Lib.hid kj;have HPF:=Lib.hid hpf;have HL0:=Lib.hid hl;have HLN:=Lib.hid hln
 have HJL:Hid (S.J.length<=1000):=hM.out.J
 have HNX:Hid (S.nx=lst+1/\1<=S.nx/\S.nx<=4611686018427387904):=⟨hG.out.nx,hM.out.nx⟩
 have HS0:Hid ((fun W=>Bk W g 73 #[.int .i64 S.ck,.int .i64 lst,vM,.slice B K0 cB,.slice C n cC]/\Bk W w.heap.size 47 #[.string t0,.string t1,.int .i64 t2,.int .i64 t3,.int .i64 t4,.int .i64 t5,.slice t6 t7 t8,.string t9,.string t10,.int .i64 t11]/\RdQ W B S.Q/\RdJ W C (jbs S.J)/\Below w.heap.size w W) (w.alloc (.cells #[.string t0,.string t1,.int .i64 t2,.int .i64 t3,.int .i64 t4,.int .i64 t5,.slice t6 t7 t8,.string t9,.string t10,.int .i64 t11] 47)).drew):=⟨(hG.out.bk.later ((Below.refl _ _).alloc (Nat.le_refl _) _)).drewB,(Bk.fresh w _ _).drewB,hG.out.own.rdQ.later (Below.drew ((Below.refl _ _).alloc (Nat.le_refl _) _)),hG.out.own.rdJs.later (Below.drew ((Below.refl _ _).alloc (Nat.le_refl _) _)),Below.drew ((Below.refl _ _).alloc (Nat.le_refl _) _)⟩
 clear kq kj hp hf hpf hl hlb hln hlnb hM hA hR hr
 go_enter Tryz.func87,Tryz.ntmps87
 go_wp2_with fail
 refine wp_region_held_drew (S:=fun W=>Bk W g 73 #[.int .i64 S.ck,.int .i64 lst,vM,.slice B K0 cB,.slice C n cC]/\Bk W w.heap.size 47 #[.string t0,.string t1,.int .i64 t2,.int .i64 t3,.int .i64 t4,.int .i64 t5,.slice t6 t7 t8,.string t9,.string t10,.int .i64 t11]/\RdQ W B S.Q/\RdJ W C (jbs S.J)/\Below w.heap.size w W) (by kernel_rfl) (HS0.out) (fun hS0=>?_)
 refine wU (i:=0) (v:=?_) rfl ?_ hS0 ?_
 rotate_left
 ·intro W _;go_simp;try with_reducible rfl
 try simp only [Act.put,tD,tB,tA,tE,tF]
 refine wU (i:=1) (v:=?_) rfl ?_ hS0 ?_
 rotate_left
 ·intro W _;go_simp;try with_reducible rfl
 try simp only [Act.put,tZ]
 refine wU (i:=2) (v:=?_) rfl ?_ hS0 ?_
 rotate_left
 ·intro W _;go_simp;try with_reducible rfl
 try simp only [Act.put,tZ]
 refine wU (i:=3) (v:=?_) rfl ?_ hS0 ?_
 rotate_left
 ·intro W hSW;have hx:=hSW.1.cellAt 3;go_simp;try with_reducible rfl
 try simp only [Act.put,tZ]
 refine wU (i:=4) (v:=?_) rfl ?_ hS0 ?_
 rotate_left
 ·intro W _;go_simp;try with_reducible rfl
 try simp only [Act.put,tZ]
 refine wU (i:=5) (v:=?_) rfl ?_ hS0 ?_
 rotate_left
 ·intro W hSW;have hx:=hSW.2.1.cellAt 1;go_simp;try with_reducible rfl
 try simp only [Act.put,tZ]
 refine wpAnyH_ready (rs:=[6]) (by kernel_rfl) (by simp) ?_
 refine AllReadyH.cons rfl (fun K hK=>?_) AllReadyH.nil
 go_simp
 refine (KQ.out _ hS0.2.2.1).mono ?_
 rintro e w1 ⟨rfl,hb1⟩
 go_simp
 refine hK.out _ _ (⟨hS0.1.later hb1,hS0.2.1.later hb1,hS0.2.2.1.later hb1,hS0.2.2.2.1.later hb1,hS0.2.2.2.2.trans (hb1.mono hS0.2.2.2.2.size)⟩) (fun hS1=>?_)
 clear hK K
 try simp only [Act.put,tZ]
 refine wU (i:=7) (v:=?_) rfl ?_ hS1 ?_
 rotate_left
 ·intro W _;go_simp;try with_reducible rfl
 try simp only [Act.put,tZ]
 refine wU (i:=8) (v:=?_) rfl ?_ hS1 ?_
 rotate_left
 ·intro W _;go_simp;try with_reducible rfl
 try simp only [Act.put,tZ]
 refine wU (i:=10) (v:=?_) rfl ?_ hS1 ?_
 rotate_left
 ·intro W _;go_simp;try with_reducible rfl
 try simp only [Act.put,tZ]
 refine wU (i:=9) (v:=?_) rfl ?_ hS1 ?_
 rotate_left
 ·intro W _;go_simp;try with_reducible rfl
 try simp only [Act.put,tZ]
 refine wU (i:=11) (v:=?_) rfl ?_ hS1 ?_
 rotate_left
 ·intro W _;go_simp;try with_reducible rfl
 try simp only [Act.put,tZ]
 refine wpAnyH_done (by kernel_rfl) ?_ _
 have HS1:=Lib.hid hS1
 clear hS0 hS1 HS0
 go_wp2_with fail
 refine wp_region_held_drew (S:=fun W=>Bk W g 73 #[.int .i64 S.ck,.int .i64 lst,vM,.slice B K0 cB,.slice C n cC]/\Bk W w.heap.size 47 #[.string t0,.string t1,.int .i64 t2,.int .i64 t3,.int .i64 t4,.int .i64 t5,.slice t6 t7 t8,.string t9,.string t10,.int .i64 t11]/\RdQ W B S.Q/\RdJ W C (jbs S.J)/\Below w.heap.size w W) (by kernel_rfl) (⟨HS1.out.1.drewB,HS1.out.2.1.drewB,HS1.out.2.2.1,HS1.out.2.2.2.1,Below.drew HS1.out.2.2.2.2⟩) (fun hS0=>?_)
 refine wU (i:=0) (v:=?_) rfl ?_ hS0 ?_
 rotate_left
 ·intro W _;go_simp;try with_reducible rfl
 try simp only [Act.put,tD,tB,tA,tE,tF]
 refine wU (i:=1) (v:=?_) rfl ?_ hS0 ?_
 rotate_left
 ·intro W _;go_simp;try with_reducible rfl
 try simp only [Act.put,tZ]
 refine wU (i:=2) (v:=?_) rfl ?_ hS0 ?_
 rotate_left
 ·intro W _;go_simp;try with_reducible rfl
 try simp only [Act.put,tZ]
 refine wU (i:=3) (v:=?_) rfl ?_ hS0 ?_
 rotate_left
 ·intro W hSW;have hx:=hSW.1.cellAt 4;go_simp;try with_reducible rfl
 try simp only [Act.put,tZ]
 refine wU (i:=4) (v:=?_) rfl ?_ hS0 ?_
 rotate_left
 ·intro W _;go_simp;try with_reducible rfl
 try simp only [Act.put,tZ]
 refine wU (i:=5) (v:=?_) rfl ?_ hS0 ?_
 rotate_left
 ·intro W hSW;have hx:=hSW.2.1.cellAt 0;go_simp;try with_reducible rfl
 try simp only [Act.put,tZ]
 refine wpAnyH_ready (rs:=[6]) (by kernel_rfl) (by simp) ?_
 refine AllReadyH.cons rfl (fun K hK=>?_) AllReadyH.nil
 go_simp
 refine (KJ.out _ hS0.2.2.2.1).mono ?_
 rintro e w2 ⟨rfl,hb2⟩
 go_simp
 refine hK.out _ _ (⟨hS0.1.later hb2,hS0.2.1.later hb2,hS0.2.2.1.later hb2,hS0.2.2.2.1.later hb2,hS0.2.2.2.2.trans (hb2.mono hS0.2.2.2.2.size)⟩) (fun hS1=>?_)
 clear hK K
 try simp only [Act.put,tZ]
 refine wU (i:=7) (v:=?_) rfl ?_ hS1 ?_
 rotate_left
 ·intro W _;go_simp;try with_reducible rfl
 try simp only [Act.put,tZ]
 refine wU (i:=8) (v:=?_) rfl ?_ hS1 ?_
 rotate_left
 ·intro W _;go_simp;try with_reducible rfl
 try simp only [Act.put,tZ]
 refine wpAnyH_done (by kernel_rfl) ?_ _
 have HS2:=Lib.hid hS1
 clear hS0 hS1 HS1
 by_cases hr0:(0:Int)<=r
 ·have HR1:Hid (R=(S,8,[])):=by have:=HR0.out;rw [if_pos hr0] at this;exact this
  have hbz:=HS2.out.2.2.2.2
  clear HR0 HS2
  go_wp2_with fail
  go_ret
  rw [HR1.out]
  exact ⟨rfl,Went.same hG.out hbz⟩
 ·cases f
  case false=>
   have HR1:Hid (R=(S,7,[])):=by have:=HR0.out;rw [if_neg hr0,if_pos rfl] at this;exact this
   have hbz:=HS2.out.2.2.2.2
   clear HR0 HS2
   go_wp2_with fail
   go_ret
   rw [HR1.out]
   exact ⟨rfl,Went.same hG.out hbz⟩
  case true=>
   have HPL:Hid (p<S.Q.length):=HPF.out rfl
   have c4:w2.cell? ⟨g,4,none⟩=some (.slice C n cC):=HS2.out.1.cellAt 4
   by_cases hfull:48<=n
   ·have HR1:Hid (R=(S,10,[])):=by have:=HR0.out;rw [if_neg hr0,if_neg (by decide),if_pos hfull] at this;exact this
    have hbz:=HS2.out.2.2.2.2
    have hfi:(48:Int)<=(n:Int):=by omega
    clear HR0 HS2
    go_wp2_with fail
    go_ret
    rw [HR1.out]
    exact ⟨rfl,Went.same hG.out hbz⟩
   ·obtain ⟨ad,had⟩:∃ ad,ad=admQ (ql S.Q p) S.J t3 t4 t5:=⟨_,rfl⟩
    have HR1:Hid (R=if ad ≠ 0 then (S,ad,[]) else if 1073741824<=S.nx then (S,6,[]) else ({ S with J:=S.J ++ [newJ S.nx t0 t1 t2 t3 t4 t5 none 0 0 t9 t10 t11 l],nx:=S.nx+1 },0,[])):=by have:=HR0.out;rw [if_neg hr0,if_neg (by decide),if_neg hfull,<- had] at this;exact this
    obtain ⟨rq,rfl⟩:=hG.out.own.Q.at0 (by rw [cellsQ_length];have:=HPL.out;omega)
    obtain ⟨⟨q0,q1,q2,q3⟩,hq⟩:∃ q,q=S.Q[p]'HPL.out:=⟨_,rfl⟩
    have hq0:q0.size<=140737488351232:=by have:=hG.out.own.zQ _ (List.getElem_mem HPL.out);rw [<- hq] at this;exact this
    have krg:∀ W,RdQ W (some ⟨rq,0,none⟩) S.Q->W.rangeAt rq (p * 4) (#[.string q0,.int .i64 q1,.int .i64 q2,.int .i64 q3]:Array Value).toList:=fun W h=>by have:=h.rg HPL.out;rw [<- hq] at this;exact this
    have ka:∀ W,RdJ W C (jbs S.J)->Calls Tryz.prog 131 #[.agg #[.string q0,.int .i64 q1,.int .i64 q2,.int .i64 q3],.slice C n cC,.agg #[.int .i64 t3,.int .i64 t4,.int .i64 t5]] W fun r w'=>r = .returned (.int .i64 ad)/\Below W.heap.size W w':=fun W h=>by
     rw [had,ql_at HPL.out,<- hq]
     exact admit_any q0 q1 q2 q3 C n cC (jbs S.J) t3 t4 t5 W (show _=_ by rw [List.length_map];exact HLN.out) (by have:=HLN.out;have:=HJL.out;omega) h (by omega) _ _ _ _ rfl
    have KRG:=Lib.hid krg;have KA:=Lib.hid ka
    have hpK:p<K0:=by rw [HL0.out];exact HPL.out
    have hni:¬ (48:Int)<=(n:Int):=by omega
    clear krg ka hq hq0 had HR0
    go_wp2_with fail
    clear c4
    refine wp_region_held_drew (S:=fun W=>Bk W g 73 #[.int .i64 S.ck,.int .i64 lst,vM,.slice (some ⟨rq,0,none⟩) K0 cB,.slice C n cC]/\Bk W w.heap.size 47 #[.string t0,.string t1,.int .i64 t2,.int .i64 t3,.int .i64 t4,.int .i64 t5,.slice t6 t7 t8,.string t9,.string t10,.int .i64 t11]/\RdQ W (some ⟨rq,0,none⟩) S.Q/\RdJ W C (jbs S.J)/\Below w.heap.size w W) (by kernel_rfl) (⟨HS2.out.1.drewB,HS2.out.2.1.drewB,HS2.out.2.2.1,HS2.out.2.2.2.1,Below.drew HS2.out.2.2.2.2⟩) (fun hS0=>?_)
    refine wU (i:=0) (v:=?_) rfl ?_ hS0 ?_
    rotate_left
    ·intro W _;go_simp;try with_reducible rfl
    try simp only [Act.put,tD,tB,tA,tE,tF]
    refine wU (i:=1) (v:=?_) rfl ?_ hS0 ?_
    rotate_left
    ·intro W _;go_simp;try with_reducible rfl
    try simp only [Act.put,tZ]
    refine wU (i:=2) (v:=?_) rfl ?_ hS0 ?_
    rotate_left
    ·intro W _;go_simp;try with_reducible rfl
    try simp only [Act.put,tZ]
    refine wU (i:=3) (v:=?_) rfl ?_ hS0 ?_
    rotate_left
    ·intro W hSW;have hx:=hSW.1.cellAt 3;go_simp;try with_reducible rfl
    try simp only [Act.put,tZ]
    refine wU (i:=4) (v:=?_) rfl ?_ hS0 ?_
    rotate_left
    ·intro W _;go_simp;try with_reducible rfl
    try simp only [Act.put,tZ]
    refine wU (i:=5) (v:=?_) rfl ?_ hS0 ?_
    rotate_left
    ·intro W _;go_simp;try with_reducible rfl
    try simp only [Act.put,tZ]
    refine wT (i:=6) (v:=.agg #[.string q0,.int .i64 q1,.int .i64 q2,.int .i64 q3]) rfl (yields_rg (by rfl) 45 _ rfl rq (p * 4) rfl #[.string q0,.int .i64 q1,.int .i64 q2,.int .i64 q3] _ (fun W hW=>KRG.out W hW.2.2.1) Tryz.underlying45 rfl (by kernel_rfl)) hS0 ?_
    try simp only [Act.put,tZ]
    refine wU (i:=7) (v:=?_) rfl ?_ hS0 ?_
    rotate_left
    ·intro W _;go_simp;try with_reducible rfl
    try simp only [Act.put,tZ]
    refine wU (i:=8) (v:=?_) rfl ?_ hS0 ?_
    rotate_left
    ·intro W _;go_simp;try with_reducible rfl
    try simp only [Act.put,tZ]
    refine wU (i:=9) (v:=?_) rfl ?_ hS0 ?_
    rotate_left
    ·intro W _;go_simp;try with_reducible rfl
    try simp only [Act.put,tZ]
    refine wU (i:=10) (v:=?_) rfl ?_ hS0 ?_
    rotate_left
    ·intro W hSW;have hx:=hSW.1.cellAt 4;go_simp;try with_reducible rfl
    try simp only [Act.put,tZ]
    refine wU (i:=11) (v:=?_) rfl ?_ hS0 ?_
    rotate_left
    ·intro W _;go_simp;try with_reducible rfl
    try simp only [Act.put,tZ]
    refine wT (i:=12) (v:=.agg #[.int .i64 t3,.int .i64 t4,.int .i64 t5]) rfl (yields_bk (by rfl) 40 _ rfl w.heap.size 3 rfl 47 #[.string t0,.string t1,.int .i64 t2,.int .i64 t3,.int .i64 t4,.int .i64 t5,.slice t6 t7 t8,.string t9,.string t10,.int .i64 t11] #[.int .i64 t3,.int .i64 t4,.int .i64 t5] _ (fun W hW=>hW.2.1) (Part.of rfl) Tryz.underlying40 rfl (by kernel_rfl)) hS0 ?_
    try simp only [Act.put,tZ]
    refine wpAnyH_ready (rs:=[13]) (by kernel_rfl) (by simp) ?_
    refine AllReadyH.cons rfl (fun K hK=>?_) AllReadyH.nil
    go_simp
    refine (KA.out _ hS0.2.2.2.1).mono ?_
    rintro e w3 ⟨rfl,hb3⟩
    go_simp
    refine hK.out _ _ (⟨hS0.1.later hb3,hS0.2.1.later hb3,hS0.2.2.1.later hb3,hS0.2.2.2.1.later hb3,hS0.2.2.2.2.trans (hb3.mono hS0.2.2.2.2.size)⟩) (fun hS1=>?_)
    clear hK K
    try simp only [Act.put,tZ]
    refine wU (i:=14) (v:=?_) rfl ?_ hS1 ?_
    rotate_left
    ·intro W _;go_simp;try with_reducible rfl
    try simp only [Act.put,tZ]
    refine wpAnyH_done (by kernel_rfl) ?_ _
    have HS3:=Lib.hid hS1
    clear hS0 hS1 HS2
    by_cases had0:ad=0
    ·subst had0
     have HR2:Hid (R=if 1073741824<=S.nx then (S,6,[]) else ({ S with J:=S.J ++ [newJ S.nx t0 t1 t2 t3 t4 t5 none 0 0 t9 t10 t11 l],nx:=S.nx+1 },0,[])):=by have:=HR1.out;rw [if_neg (by simp)] at this;exact this
     have HG3:=Lib.hid (hG.out.below HS3.out.2.2.2.2)
     clear HR1
     go_wp2_with fail
     refine (next_any g S.ck lst S.nx _ _ _ _ HS3.out.1 HNX.out.1 HNX.out.2).mono ?_
     rintro e w4 ⟨rfl,rfl⟩
     by_cases hov:1073741824<=S.nx
     ·have HR3:Hid (R=(S,6,[])):=by have:=HR2.out;rw [if_pos hov] at this;exact this
      have hbz:=HS3.out.2.2.2.2
      clear HR2 HS3
      go_wp2_with fail
      go_ret
      rw [HR3.out]
      exact ⟨rfl,Went.same hG.out hbz⟩
     ·have HR3:Hid (R=({ S with J:=S.J ++ [newJ S.nx t0 t1 t2 t3 t4 t5 none 0 0 t9 t10 t11 l],nx:=S.nx+1 },0,[])):=by have:=HR2.out;rw [if_neg hov] at this;exact this
      have c36:w3.cell? ⟨w.heap.size,6,none⟩=some (.slice t6 t7 t8):=HS3.out.2.1.cellAt 6
      clear HR2
      go_wp2_with fail
      refine (cloneL_any t6 t7 t8 l w3 hL.out.len (RdL.rdk (hL.out.rd.later HS3.out.2.2.2.2)) (by rw [hL.out.len];exact hll.out)).mono ?_
      rintro e w9 ⟨v9,rfl,hO9,hb9⟩
      obtain ⟨A2,c2,hv9,_,_,_,_⟩:=hO9.sl
      rw [cellsLb_length] at hv9
      subst hv9
      have HT9:=Lib.hid (HS3.out.2.1.later hb9)
      have hbb9:=HS3.out.2.2.2.2.trans (hb9.mono HS3.out.2.2.2.2.size)
      have HL9:Hid (LbNew w9 w.heap.size A2 l.length c2 l):=⟨hO9.base HS3.out.2.2.2.2.size,hL.out.sz⟩
      have c9:w9.cell? ⟨w.heap.size,6,none⟩=some (.slice t6 t7 t8):=HT9.out.cellAt 6
      have f9:w9.frozen? ⟨w.heap.size,6,none⟩=false:=HT9.out.free 6
      obtain ⟨w10,hw10⟩:∃ w10,w10=w9.setCell ⟨w.heap.size,6,none⟩ (.slice A2 l.length c2):=⟨_,rfl⟩
      have hbb10:Below w.heap.size w w10:=by rw [hw10];exact hbb9.setCell (Nat.le_refl _) _
      have HN10:Hid (Bk w10 w.heap.size 47 #[.string t0,.string t1,.int .i64 t2,.int .i64 t3,.int .i64 t4,.int .i64 t5,.slice A2 l.length c2,.string t9,.string t10,.int .i64 t11]):=by rw [hw10];exact HT9.out.put 6 _
      have HL10:Hid (LbNew w10 w.heap.size A2 l.length c2 l):=by
       rw [hw10]
       exact HL9.out.grp ((GrP.refl (fun k=>k=w.heap.size) w9).set (a:=⟨w.heap.size,6,none⟩) rfl _) fun k hk e=>by
        obtain ⟨a,rfl,hak⟩:=hk
        exact (hO9.notBk HT9.out (by decide)).elim (fun e=>by cases e) (fun h=>h (by show some a.block=_;rw [hak,e]))
      have HG10:=Lib.hid (hG.out.below hbb10)
      have HB10:=Lib.hid hbb10
      clear hO9 hb9 hbb9 hbb10 HT9 HL9 HS3 HG3 c36
      go_wp2_with fail
      rw [<- hw10]
      clear hw10 c9 f9
      refine wp_region_E (S:=fun W=>Bk W g 73 #[.int .i64 S.ck,.int .i64 lst,vM,.slice (some ⟨rq,0,none⟩) K0 cB,.slice C n cC]/\Bk W w.heap.size 47 #[.string t0,.string t1,.int .i64 t2,.int .i64 t3,.int .i64 t4,.int .i64 t5,.slice A2 l.length c2,.string t9,.string t10,.int .i64 t11]/\GrP (fun k=>(Value.slice C n cC).ownBlock=some k) w10 W) 13 (by kernel_rfl) (⟨HG10.out.bk.drewB,HN10.out.drewB,GrP.ofBelow (Below.drew (Below.refl _ _))⟩) (fun hS0=>?_)
      refine wpAnyE_take (i:=0) (v:=?_) rfl (by kernel_rfl) (by kernel_rfl) (by kernel_rfl) (by kernel_rfl) (by kernel_rfl) (fun _ _ _ h=>h) (Or.inl ⟨by rfl,?_⟩) hS0 ?_
      rotate_left
      ·intro W _;go_simp;try with_reducible rfl
      try simp only [Act.put,tD,tB,tA,tE,tF]
      refine wpAnyE_take (i:=1) (v:=?_) rfl (by kernel_rfl) (by kernel_rfl) (by kernel_rfl) (by kernel_rfl) (by kernel_rfl) (fun _ _ _ h=>h) (Or.inl ⟨by rfl,?_⟩) hS0 ?_
      rotate_left
      ·intro W _;go_simp;try with_reducible rfl
      try simp only [Act.put,tZ]
      refine wpAnyE_take (i:=2) (v:=?_) rfl (by kernel_rfl) (by kernel_rfl) (by kernel_rfl) (by kernel_rfl) (by kernel_rfl) (fun _ _ _ h=>h) (Or.inl ⟨by rfl,?_⟩) hS0 ?_
      rotate_left
      ·intro W _;go_simp;try with_reducible rfl
      try simp only [Act.put,tZ]
      refine wpAnyE_take (i:=3) (v:=?_) rfl (by kernel_rfl) (by kernel_rfl) (by kernel_rfl) (by kernel_rfl) (by kernel_rfl) (fun _ _ _ h=>h) (Or.inl ⟨by rfl,?_⟩) hS0 ?_
      rotate_left
      ·intro W _;go_simp;try with_reducible rfl
      try simp only [Act.put,tZ]
      refine wpAnyE_take (i:=4) (v:=?_) rfl (by kernel_rfl) (by kernel_rfl) (by kernel_rfl) (by kernel_rfl) (by kernel_rfl) (fun _ _ _ h=>h) (Or.inl ⟨by rfl,?_⟩) hS0 ?_
      rotate_left
      ·intro W hSW;have hx:=hSW.1.cellAt 4;go_simp;try with_reducible rfl
      try simp only [Act.put,tZ]
      refine wpAnyE_take (i:=5) (v:=.agg #[.string t0,.string t1,.int .i64 t2,.int .i64 t3,.int .i64 t4,.int .i64 t5,.slice A2 l.length c2,.string t9,.string t10,.int .i64 t11]) rfl (by kernel_rfl) (by kernel_rfl) (by kernel_rfl) (by kernel_rfl) (by kernel_rfl) (fun _ _ _ h=>h) (yields_bk (by rfl) 47 _ rfl w.heap.size 0 rfl 47 #[.string t0,.string t1,.int .i64 t2,.int .i64 t3,.int .i64 t4,.int .i64 t5,.slice A2 l.length c2,.string t9,.string t10,.int .i64 t11] #[.string t0,.string t1,.int .i64 t2,.int .i64 t3,.int .i64 t4,.int .i64 t5,.slice A2 l.length c2,.string t9,.string t10,.int .i64 t11] _ (fun W hW=>hW.2.1) (Part.whole _) Tryz.underlying47 rfl (by kernel_rfl)) hS0 ?_
      try simp only [Act.put,tZ]
      refine wpAnyE_take (i:=6) (v:=?_) rfl (by kernel_rfl) (by kernel_rfl) (by kernel_rfl) (by kernel_rfl) (by kernel_rfl) (fun _ _ _ h=>h) (Or.inl ⟨by rfl,?_⟩) hS0 ?_
      rotate_left
      ·intro W _;go_simp;try with_reducible rfl
      try simp only [Act.put,tZ]
      refine wpAnyE_ready (rs:=[7]) (by kernel_rfl) (by simp) ?_
      refine AllReadyE.cons rfl (fun K hK=>?_) AllReadyE.nil
      go_simp
      refine (next_any g S.ck lst S.nx _ _ _ _ hS0.1 HNX.out.1 HNX.out.2).mono ?_
      rintro e w11 ⟨rfl,rfl⟩
      go_simp
      refine hK.out _ _ (hS0) (fun hS1=>?_)
      clear hK K
      try simp only [Act.put,tZ]
      refine wpAnyE_take (i:=8) (v:=?_) rfl (by kernel_rfl) (by kernel_rfl) (by kernel_rfl) (by kernel_rfl) (by kernel_rfl) (fun _ _ _ h=>h) (Or.inl ⟨by rfl,?_⟩) hS1 ?_
      rotate_left
      ·intro W _;go_simp;try with_reducible rfl
      try simp only [Act.put,tZ]
      refine wpAnyE_ready (rs:=[9]) (by kernel_rfl) (by simp) ?_
      refine AllReadyE.cons rfl (fun K hK=>?_) AllReadyE.nil
      rw [if_pos (by rfl)]
      refine jone15_op 69 ⟨t0,t1,t2,t3,t4,t5,A2,l.length,c2,t9,t10,t11,S.nx,⟨#[]⟩,0⟩ rfl rfl ?_
      intro g2 w12 hg2 hsz2 hB2 hb2
      refine hK.out _ _ (⟨hS1.1.later hb2,hS1.2.1.later hb2,hS1.2.2.trans (GrP.ofBelow hb2)⟩) (fun hS2=>?_)
      clear hK K
      try simp only [Act.put,tZ]
      have HS12:=Lib.hid hS2;have HB2:=Lib.hid hB2;have HBL2:Hid (Below w10.heap.size w10 w12):=(show Below w10.heap.size w10 w10.drew from Below.drew (Below.refl _ _)).trans hb2;have HQ2:Hid (OwnK w12 b 66 13 (.slice C n cC) (cellsJ (jbs S.J))):=HG10.out.own.J.below HBL2.out;clear hB2 hg2 hsz2 hb2 hS0 hS1 hS2
      refine wpAnyE_ready (rs:=[10]) (by kernel_rfl) (by simp) ?_
      refine AllReadyE.cons rfl (fun K hK=>?_) AllReadyE.nil
      rw [if_pos (by rfl)]
      refine append15_op _ (.tmp 65) (.tmp 70) 29 rfl b 66 _ 13 160 Tryz.underlying29 infoJ15 rfl (by omega) (.slice C n cC) (cellsJ (jbs S.J)) rfl HQ2.out ⟨g2,0,none⟩ 1 1 (cellsJ [⟨t0,t1,t2,t3,t4,t5,A2,l.length,c2,t9,t10,t11,S.nx,⟨#[]⟩,0⟩]) rfl (jrd15 HB2.out) (cellsJ_k _) (cellsJ_one _) rfl (by have:=HJL.out;rw [cellsJ_length,cellsJ_length,List.length_map];simp [maxLen];omega) (by have:=HJL.out;rw [cellsJ_length,cellsJ_length,List.length_map];simp;omega) (by have:=HG10.out.le;have:=HS12.out.1.here;omega) ?_
      intro v5 w5 hO5 hg5 hat5
      obtain ⟨aQ,xQ,hv5,_,_,_,_⟩:=hO5.sl
      generalize hnQ:List.length (cellsJ (jbs S.J) ++ _)=nQ at hv5
      subst hv5
      have HO5:=Lib.hid hO5;have HG5:=Lib.hid (GrP.of hg5);have HAT5:=Lib.hid hat5;clear hO5 hg5 hat5 hnQ
      refine hK.out _ _ (⟨HS12.out.1.grp HG5.out (fun e=>(HG10.out.ne _ (.inr (.inr (.inl e)))) rfl),HS12.out.2.1.grp HG5.out (fun e=>by have:=(hG.out.own.blk (.inr (.inr (.inl e)))).2;omega),HS12.out.2.2.trans HG5.out⟩) (fun hS3=>?_)
      clear hK K
      try simp only [Act.put,tZ]
      have HB5:=Lib.hid hS3.1;have HGW:=Lib.hid hS3.2.2
      refine wpAnyE_ready (rs:=[11]) (by kernel_rfl) (by simp) ?_
      refine AllReadyE.cons rfl (fun K hK=>?_) AllReadyE.nil
      go_simp
      refine hK.out _ _ (hS3) (fun hS4=>?_)
      clear hK K
      try simp only [Act.put,tZ]
      refine wpAnyE_take (i:=12) (v:=?_) rfl (by kernel_rfl) (by kernel_rfl) (by kernel_rfl) (by kernel_rfl) (by kernel_rfl) (fun _ _ _ h=>h) (Or.inl ⟨by rfl,?_⟩) hS4 ?_
      rotate_left
      ·intro W _;go_simp;try with_reducible rfl
      try simp only [Act.put,tZ]
      have cst:w5.cell? ⟨g,4,none⟩=some (.slice C n cC):=HB5.out.cellAt 4;have fst:w5.frozen? ⟨g,4,none⟩=false:=HB5.out.free 4;clear hS3 hS4
      refine wpAnyE_ready (rs:=[13]) (by kernel_rfl) (by simp) ?_
      refine AllReadyE.last rfl (by kernel_rfl) (fun K hK=>?_) AllReadyE.nil
      go_simp
      refine hK.out _ _ ?_
      clear hK K
      try simp only [Act.put,tZ]
      refine wpAny_of_held (S:=fun _=>True) _ _ _ _ ?_
      refine wpAnyH_done (by kernel_rfl) ?_ _
      have HF:=Lib.hid (hG.out.moreJ (x:=newJ S.nx t0 t1 t2 t3 t4 t5 A2 l.length c2 t9 t10 t11 l) HB10.out HGW.out (by rw [show jbs (S.J ++ [newJ S.nx t0 t1 t2 t3 t4 t5 A2 l.length c2 t9 t10 t11 l])=jbs S.J ++ [⟨t0,t1,t2,t3,t4,t5,A2,l.length,c2,t9,t10,t11,S.nx,⟨#[]⟩,0⟩] by simp [jbs,newJ],show cellsJ (jbs S.J ++ [⟨t0,t1,t2,t3,t4,t5,A2,l.length,c2,t9,t10,t11,S.nx,⟨#[]⟩,0⟩])=cellsJ (jbs S.J) ++ cellsJ [⟨t0,t1,t2,t3,t4,t5,A2,l.length,c2,t9,t10,t11,S.nx,⟨#[]⟩,0⟩] by simp [cellsJ]];exact HO5.out) (HAT5.out.imp id fun e k hk=>by rw [e] at hk;injection hk with hk;have:=HB10.out.size;have:=HBL2.out.size;omega) ⟨hz.out.1,hz.out.2.1,hz.out.2.2.1,hz.out.2.2.2,(show (⟨#[]⟩:ByteArray).size<=_ from by decide)⟩ HL10.out hbw.out)
      have HBS:Hid (Bk (w5.setCell ⟨g,4,none⟩ (.slice aQ nQ xQ)) g 73 #[.int .i64 S.ck,.int .i64 lst,vM,.slice (some ⟨rq,0,none⟩) K0 cB,.slice aQ nQ xQ]):=HB5.out.put 4 _
      have cl1:(w5.setCell ⟨g,4,none⟩ (.slice aQ nQ xQ)).cell? ⟨g,1,none⟩=some (.int .i64 lst):=HBS.out.cellAt 1
      have fl1:(w5.setCell ⟨g,4,none⟩ (.slice aQ nQ xQ)).frozen? ⟨g,1,none⟩=false:=HBS.out.free 1
      have hw1:IntKind.i64.wrap (lst+1)=lst+1:=by have:=HNX.out;rw [IntKind.wrap_i64];omega
      clear cst fst HBS
      go_wp2_with fail
      go_ret
      rw [HR3.out]
      exact ⟨rfl,HF.out.went (by show (⟨_,_,_,_,_⟩:Sg)=⟨_,_,_,_,_⟩;simp only [bL,List.map_append];rfl)⟩
    ·have HR2:Hid (R=(S,ad,[])):=by have:=HR1.out;rw [if_pos had0] at this;exact this
     have hadb:(ad == 0)=false:=by rw [Bool.eq_false_iff];intro e;exact had0 (by simpa using e)
     have hbz:=HS3.out.2.2.2.2
     clear HR1 HS3 had0
     go_wp2_with fail
     go_ret
     rw [HR2.out]
     exact ⟨rfl,Went.same hG.out hbz⟩
end
section
open Go.RowKit
theorem RetL.base {w:World} {b b':Nat}{A:Option Addr}{n c:Nat}{acts:List Ac}(h:RetL b w A n c acts)(hb:b' <= b):RetL b' w A n c acts:=⟨h.1,h.2.1,h.2.2.1,h.2.2.2.1,fun a ha=>Nat.le_trans hb (h.2.2.2.2 a ha)⟩
structure AscS (S:Sg):Prop where
 M:AscK (keyM S.M)
 Q:AscK (keyQ S.Q)


theorem perform_any2 (b g:Nat)(vM vQ vJ:Value)(S:Sg)(x:Oz)(hk:x.v.k=2)(hM:Sm S)(hA:AscS S)(hll:x.v.l3.length<=1000):Performs b g vM vQ vJ S x (dropN' S x.v.s):=by
 intro w hG hx
 have hbg:b<=w.heap.size:=hG.elim fun lst h=>Nat.le_trans h.le (Nat.le_of_lt h.bk.here)
 have k1:=fun (W:World)(h:∃ lst,Gs W b g lst vM vQ vJ S)(hb:Below w.heap.size w W)=>h.elim fun lst h=>dropNode_any b g lst vM vQ vJ S x.v.s W h hM hA.M
 obtain ⟨R,hR⟩:∃ R,R=dropN' S x.v.s:=⟨_,rfl⟩
 rw [<- hR] at k1 ⊢
 have K1:=Lib.hid k1;have HG:=Lib.hid hG
 clear k1 hG hx hM hA hll hR hbg
 obtain ⟨⟨k,nn,a1,b1,c1,l1,qn,a2,b2,c2,tn,tq,tp,a3,b3,c3,l3,ta,tg,ts,s⟩,A1,m1,p1,A3,m3,p3⟩:=x
 simp only at hk
 subst hk
 obtain ⟨R1,err,acts⟩:=R
 have HO0:Hid (Bk (w.alloc (.cells #[.int .i64 2,.string nn,.int .i64 a1,.int .i64 b1,.int .i64 c1,.slice A1 m1 p1,.string qn,.int .i64 a2,.int .i64 b2,.int .i64 c2,.string tn,.string tq,.int .i64 tp,.int .i64 a3,.int .i64 b3,.int .i64 c3,.slice A3 m3 p3,.string ta,.string tg,.int .i64 ts,.string s] 49)) w.heap.size 49 #[.int .i64 2,.string nn,.int .i64 a1,.int .i64 b1,.int .i64 c1,.slice A1 m1 p1,.string qn,.int .i64 a2,.int .i64 b2,.int .i64 c2,.string tn,.string tq,.int .i64 tp,.int .i64 a3,.int .i64 b3,.int .i64 c3,.slice A3 m3 p3,.string ta,.string tg,.int .i64 ts,.string s]):=Bk.fresh w _ _
 have hB0:Below w.heap.size w (w.alloc (.cells #[.int .i64 2,.string nn,.int .i64 a1,.int .i64 b1,.int .i64 c1,.slice A1 m1 p1,.string qn,.int .i64 a2,.int .i64 b2,.int .i64 c2,.string tn,.string tq,.int .i64 tp,.int .i64 a3,.int .i64 b3,.int .i64 c3,.slice A3 m3 p3,.string ta,.string tg,.int .i64 ts,.string s] 49)):=(Below.refl _ _).alloc (Nat.le_refl _) _
 go_enter Tryz.func44,Tryz.ntmps44
 go_wp2_with fail
 refine (K1.out _ (HG.out.elim fun lst h=>⟨lst,h.below hB0⟩) hB0).mono ?_;rintro e w2 ⟨⟨A,n,c,rfl,hRL⟩,hW⟩
 have HW:=Lib.hid hW;have HR:=Lib.hid hRL;clear hW hRL
 go_wp2_with fail
 exact bodyPost_ret (v:=.tuple #[.slice A n c,.int .i64 err]) (by simp [results,Tryz.results44,go_sem]) rfl ⟨⟨A,n,c,rfl,HR.out.base hB0.size⟩,Went.before hB0 HW.out⟩


theorem perform_any4 (b g:Nat)(vM vQ vJ:Value)(S:Sg)(x:Oz)(hk:x.v.k=4)(hM:Sm S)(hA:AscS S)(hll:x.v.l3.length<=1000):Performs b g vM vQ vJ S x (dropQ S x.v.s):=by
 intro w hG hx
 have hbg:b<=w.heap.size:=hG.elim fun lst h=>Nat.le_trans h.le (Nat.le_of_lt h.bk.here)
 have k1:=fun (W:World)(h:∃ lst,Gs W b g lst vM vQ vJ S)(hb:Below w.heap.size w W)=>h.elim fun lst h=>dropQueue_any b g lst vM vQ vJ S x.v.s W h hM hA.Q
 obtain ⟨R,hR⟩:∃ R,R=dropQ S x.v.s:=⟨_,rfl⟩
 rw [<- hR] at k1 ⊢
 have hR3:R.2.2=[]:=by rw [hR];unfold dropQ;(repeat' split) <;> rfl
 have K1:=Lib.hid k1;have HG:=Lib.hid hG
 clear k1 hG hx hM hA hll hR hbg
 obtain ⟨⟨k,nn,a1,b1,c1,l1,qn,a2,b2,c2,tn,tq,tp,a3,b3,c3,l3,ta,tg,ts,s⟩,A1,m1,p1,A3,m3,p3⟩:=x
 simp only at hk
 subst hk
 obtain ⟨R1,err,acts⟩:=R
 simp only at hR3
 subst hR3
 have HO0:Hid (Bk (w.alloc (.cells #[.int .i64 4,.string nn,.int .i64 a1,.int .i64 b1,.int .i64 c1,.slice A1 m1 p1,.string qn,.int .i64 a2,.int .i64 b2,.int .i64 c2,.string tn,.string tq,.int .i64 tp,.int .i64 a3,.int .i64 b3,.int .i64 c3,.slice A3 m3 p3,.string ta,.string tg,.int .i64 ts,.string s] 49)) w.heap.size 49 #[.int .i64 4,.string nn,.int .i64 a1,.int .i64 b1,.int .i64 c1,.slice A1 m1 p1,.string qn,.int .i64 a2,.int .i64 b2,.int .i64 c2,.string tn,.string tq,.int .i64 tp,.int .i64 a3,.int .i64 b3,.int .i64 c3,.slice A3 m3 p3,.string ta,.string tg,.int .i64 ts,.string s]):=Bk.fresh w _ _
 have hB0:Below w.heap.size w (w.alloc (.cells #[.int .i64 4,.string nn,.int .i64 a1,.int .i64 b1,.int .i64 c1,.slice A1 m1 p1,.string qn,.int .i64 a2,.int .i64 b2,.int .i64 c2,.string tn,.string tq,.int .i64 tp,.int .i64 a3,.int .i64 b3,.int .i64 c3,.slice A3 m3 p3,.string ta,.string tg,.int .i64 ts,.string s] 49)):=(Below.refl _ _).alloc (Nat.le_refl _) _
 go_enter Tryz.func44,Tryz.ntmps44
 go_wp2_with fail
 refine (K1.out _ (HG.out.elim fun lst h=>⟨lst,h.below hB0⟩) hB0).mono ?_;rintro e w2 ⟨rfl,hW⟩
 have HW:=Lib.hid hW;clear hW
 go_wp2_with fail
 exact bodyPost_ret (v:=.tuple #[.slice none 0 0,.int .i64 err]) (by simp [results,Tryz.results44,go_sem]) rfl ⟨⟨none,0,0,rfl,RetL.nil _ _⟩,Went.before hB0 HW.out⟩


theorem perform_any5 (b g:Nat)(vM vQ vJ:Value)(S:Sg)(x:Oz)(hk:x.v.k=5)(hM:Sm S)(hA:AscS S)(hll:x.v.l3.length<=1000):Performs b g vM vQ vJ S x (subJ S x.v.tn x.v.tq x.v.tp x.v.a3 x.v.b3 x.v.c3 x.v.ta x.v.tg x.v.ts x.v.l3):=by
 intro w hG hx
 have hbg:b<=w.heap.size:=hG.elim fun lst h=>Nat.le_trans h.le (Nat.le_of_lt h.bk.here)
 have k1:=fun (W:World)(h:∃ lst,Gs W b g lst vM vQ vJ S)(hb:Below w.heap.size w W)=>h.elim fun lst h=>submit_any b g lst vM vQ vJ S x.v.tn x.v.tq x.v.tp x.v.a3 x.v.b3 x.v.c3 x.A3 x.m3 x.p3 x.v.ta x.v.tg x.v.ts x.v.l3 W h hM hA.Q (hx.l3.later hb) hll (show b<=W.heap.size from Nat.le_trans hbg hb.size) ⟨hx.tn,hx.tq,hx.ta,hx.tg⟩
 obtain ⟨R,hR⟩:∃ R,R=subJ S x.v.tn x.v.tq x.v.tp x.v.a3 x.v.b3 x.v.c3 x.v.ta x.v.tg x.v.ts x.v.l3:=⟨_,rfl⟩
 rw [<- hR] at k1 ⊢
 have hR3:R.2.2=[]:=by rw [hR];unfold subJ;(repeat' split) <;> rfl
 have K1:=Lib.hid k1;have HG:=Lib.hid hG
 clear k1 hG hx hM hA hll hR hbg
 obtain ⟨⟨k,nn,a1,b1,c1,l1,qn,a2,b2,c2,tn,tq,tp,a3,b3,c3,l3,ta,tg,ts,s⟩,A1,m1,p1,A3,m3,p3⟩:=x
 simp only at hk
 subst hk
 obtain ⟨R1,err,acts⟩:=R
 simp only at hR3
 subst hR3
 have HO0:Hid (Bk (w.alloc (.cells #[.int .i64 5,.string nn,.int .i64 a1,.int .i64 b1,.int .i64 c1,.slice A1 m1 p1,.string qn,.int .i64 a2,.int .i64 b2,.int .i64 c2,.string tn,.string tq,.int .i64 tp,.int .i64 a3,.int .i64 b3,.int .i64 c3,.slice A3 m3 p3,.string ta,.string tg,.int .i64 ts,.string s] 49)) w.heap.size 49 #[.int .i64 5,.string nn,.int .i64 a1,.int .i64 b1,.int .i64 c1,.slice A1 m1 p1,.string qn,.int .i64 a2,.int .i64 b2,.int .i64 c2,.string tn,.string tq,.int .i64 tp,.int .i64 a3,.int .i64 b3,.int .i64 c3,.slice A3 m3 p3,.string ta,.string tg,.int .i64 ts,.string s]):=Bk.fresh w _ _
 have hB0:Below w.heap.size w (w.alloc (.cells #[.int .i64 5,.string nn,.int .i64 a1,.int .i64 b1,.int .i64 c1,.slice A1 m1 p1,.string qn,.int .i64 a2,.int .i64 b2,.int .i64 c2,.string tn,.string tq,.int .i64 tp,.int .i64 a3,.int .i64 b3,.int .i64 c3,.slice A3 m3 p3,.string ta,.string tg,.int .i64 ts,.string s] 49)):=(Below.refl _ _).alloc (Nat.le_refl _) _
 go_enter Tryz.func44,Tryz.ntmps44
 go_wp2_with ((with_reducible refine load_bk rfl 47 _ rfl w.heap.size 10 rfl 49 #[.int .i64 5,.string nn,.int .i64 a1,.int .i64 b1,.int .i64 c1,.slice A1 m1 p1,.string qn,.int .i64 a2,.int .i64 b2,.int .i64 c2,.string tn,.string tq,.int .i64 tp,.int .i64 a3,.int .i64 b3,.int .i64 c3,.slice A3 m3 p3,.string ta,.string tg,.int .i64 ts,.string s] #[.string tn,.string tq,.int .i64 tp,.int .i64 a3,.int .i64 b3,.int .i64 c3,.slice A3 m3 p3,.string ta,.string tg,.int .i64 ts] _ HO0.out (Part.of rfl) Tryz.underlying47 rfl (by kernel_rfl) ?_))
 refine (K1.out _ (HG.out.elim fun lst h=>⟨lst,h.below hB0⟩) hB0).mono ?_;rintro e w2 ⟨rfl,hW⟩
 have HW:=Lib.hid hW;clear hW
 go_wp2_with fail
 exact bodyPost_ret (v:=.tuple #[.slice none 0 0,.int .i64 err]) (by simp [results,Tryz.results44,go_sem]) rfl ⟨⟨none,0,0,rfl,RetL.nil _ _⟩,Went.before hB0 HW.out⟩


theorem perform_any6 (b g:Nat)(vM vQ vJ:Value)(S:Sg)(x:Oz)(hk:x.v.k=6)(hM:Sm S)(hA:AscS S)(hll:x.v.l3.length<=1000):Performs b g vM vQ vJ S x (canJ S x.v.s):=by
 intro w hG hx
 have hbg:b<=w.heap.size:=hG.elim fun lst h=>Nat.le_trans h.le (Nat.le_of_lt h.bk.here)
 have k1:=fun (W:World)(h:∃ lst,Gs W b g lst vM vQ vJ S)(hb:Below w.heap.size w W)=>h.elim fun lst h=>cancel_any b g lst vM vQ vJ S x.v.s W h hM
 obtain ⟨R,hR⟩:∃ R,R=canJ S x.v.s:=⟨_,rfl⟩
 rw [<- hR] at k1 ⊢
 have K1:=Lib.hid k1;have HG:=Lib.hid hG
 clear k1 hG hx hM hA hll hR hbg
 obtain ⟨⟨k,nn,a1,b1,c1,l1,qn,a2,b2,c2,tn,tq,tp,a3,b3,c3,l3,ta,tg,ts,s⟩,A1,m1,p1,A3,m3,p3⟩:=x
 simp only at hk
 subst hk
 obtain ⟨R1,err,acts⟩:=R
 have HO0:Hid (Bk (w.alloc (.cells #[.int .i64 6,.string nn,.int .i64 a1,.int .i64 b1,.int .i64 c1,.slice A1 m1 p1,.string qn,.int .i64 a2,.int .i64 b2,.int .i64 c2,.string tn,.string tq,.int .i64 tp,.int .i64 a3,.int .i64 b3,.int .i64 c3,.slice A3 m3 p3,.string ta,.string tg,.int .i64 ts,.string s] 49)) w.heap.size 49 #[.int .i64 6,.string nn,.int .i64 a1,.int .i64 b1,.int .i64 c1,.slice A1 m1 p1,.string qn,.int .i64 a2,.int .i64 b2,.int .i64 c2,.string tn,.string tq,.int .i64 tp,.int .i64 a3,.int .i64 b3,.int .i64 c3,.slice A3 m3 p3,.string ta,.string tg,.int .i64 ts,.string s]):=Bk.fresh w _ _
 have hB0:Below w.heap.size w (w.alloc (.cells #[.int .i64 6,.string nn,.int .i64 a1,.int .i64 b1,.int .i64 c1,.slice A1 m1 p1,.string qn,.int .i64 a2,.int .i64 b2,.int .i64 c2,.string tn,.string tq,.int .i64 tp,.int .i64 a3,.int .i64 b3,.int .i64 c3,.slice A3 m3 p3,.string ta,.string tg,.int .i64 ts,.string s] 49)):=(Below.refl _ _).alloc (Nat.le_refl _) _
 go_enter Tryz.func44,Tryz.ntmps44
 go_wp2_with fail
 refine (K1.out _ (HG.out.elim fun lst h=>⟨lst,h.below hB0⟩) hB0).mono ?_;rintro e w2 ⟨⟨A,n,c,rfl,hRL⟩,hW⟩
 have HW:=Lib.hid hW;have HR:=Lib.hid hRL;clear hW hRL
 go_wp2_with fail
 exact bodyPost_ret (v:=.tuple #[.slice A n c,.int .i64 err]) (by simp [results,Tryz.results44,go_sem]) rfl ⟨⟨A,n,c,rfl,HR.out.base hB0.size⟩,Went.before hB0 HW.out⟩


theorem perform_any7 (b g:Nat)(vM vQ vJ:Value)(S:Sg)(x:Oz)(hk:x.v.k=7)(hM:Sm S)(hA:AscS S)(hll:x.v.l3.length<=1000):Performs b g vM vQ vJ S x (finJ S x.v.s):=by
 intro w hG hx
 have hbg:b<=w.heap.size:=hG.elim fun lst h=>Nat.le_trans h.le (Nat.le_of_lt h.bk.here)
 have k1:=fun (W:World)(h:∃ lst,Gs W b g lst vM vQ vJ S)(hb:Below w.heap.size w W)=>h.elim fun lst h=>finish_any b g lst vM vQ vJ S x.v.s W h hM
 obtain ⟨R,hR⟩:∃ R,R=finJ S x.v.s:=⟨_,rfl⟩
 rw [<- hR] at k1 ⊢
 have hR3:R.2.2=[]:=by rw [hR];unfold finJ;(repeat' split) <;> rfl
 have K1:=Lib.hid k1;have HG:=Lib.hid hG
 clear k1 hG hx hM hA hll hR hbg
 obtain ⟨⟨k,nn,a1,b1,c1,l1,qn,a2,b2,c2,tn,tq,tp,a3,b3,c3,l3,ta,tg,ts,s⟩,A1,m1,p1,A3,m3,p3⟩:=x
 simp only at hk
 subst hk
 obtain ⟨R1,err,acts⟩:=R
 simp only at hR3
 subst hR3
 have HO0:Hid (Bk (w.alloc (.cells #[.int .i64 7,.string nn,.int .i64 a1,.int .i64 b1,.int .i64 c1,.slice A1 m1 p1,.string qn,.int .i64 a2,.int .i64 b2,.int .i64 c2,.string tn,.string tq,.int .i64 tp,.int .i64 a3,.int .i64 b3,.int .i64 c3,.slice A3 m3 p3,.string ta,.string tg,.int .i64 ts,.string s] 49)) w.heap.size 49 #[.int .i64 7,.string nn,.int .i64 a1,.int .i64 b1,.int .i64 c1,.slice A1 m1 p1,.string qn,.int .i64 a2,.int .i64 b2,.int .i64 c2,.string tn,.string tq,.int .i64 tp,.int .i64 a3,.int .i64 b3,.int .i64 c3,.slice A3 m3 p3,.string ta,.string tg,.int .i64 ts,.string s]):=Bk.fresh w _ _
 have hB0:Below w.heap.size w (w.alloc (.cells #[.int .i64 7,.string nn,.int .i64 a1,.int .i64 b1,.int .i64 c1,.slice A1 m1 p1,.string qn,.int .i64 a2,.int .i64 b2,.int .i64 c2,.string tn,.string tq,.int .i64 tp,.int .i64 a3,.int .i64 b3,.int .i64 c3,.slice A3 m3 p3,.string ta,.string tg,.int .i64 ts,.string s] 49)):=(Below.refl _ _).alloc (Nat.le_refl _) _
 go_enter Tryz.func44,Tryz.ntmps44
 go_wp2_with fail
 refine (K1.out _ (HG.out.elim fun lst h=>⟨lst,h.below hB0⟩) hB0).mono ?_;rintro e w2 ⟨rfl,hW⟩
 have HW:=Lib.hid hW;clear hW
 go_wp2_with fail
 exact bodyPost_ret (v:=.tuple #[.slice none 0 0,.int .i64 err]) (by simp [results,Tryz.results44,go_sem]) rfl ⟨⟨none,0,0,rfl,RetL.nil _ _⟩,Went.before hB0 HW.out⟩


theorem perform_any8 (b g:Nat)(vM vQ vJ:Value)(S:Sg)(x:Oz)(hk:x.v.k=8)(hM:Sm S)(hA:AscS S)(hll:x.v.l3.length<=1000):Performs b g vM vQ vJ S x (beatN S x.v.s):=by
 intro w hG hx
 have hbg:b<=w.heap.size:=hG.elim fun lst h=>Nat.le_trans h.le (Nat.le_of_lt h.bk.here)
 have k1:=fun (W:World)(h:∃ lst,Gs W b g lst vM vQ vJ S)(hb:Below w.heap.size w W)=>h.elim fun lst h=>beat_any b g lst vM vQ vJ S x.v.s W h hM hA.M
 obtain ⟨R,hR⟩:∃ R,R=beatN S x.v.s:=⟨_,rfl⟩
 rw [<- hR] at k1 ⊢
 have hR3:R.2.2=[]:=by rw [hR];unfold beatN;(repeat' split) <;> rfl
 have K1:=Lib.hid k1;have HG:=Lib.hid hG
 clear k1 hG hx hM hA hll hR hbg
 obtain ⟨⟨k,nn,a1,b1,c1,l1,qn,a2,b2,c2,tn,tq,tp,a3,b3,c3,l3,ta,tg,ts,s⟩,A1,m1,p1,A3,m3,p3⟩:=x
 simp only at hk
 subst hk
 obtain ⟨R1,err,acts⟩:=R
 simp only at hR3
 subst hR3
 have HO0:Hid (Bk (w.alloc (.cells #[.int .i64 8,.string nn,.int .i64 a1,.int .i64 b1,.int .i64 c1,.slice A1 m1 p1,.string qn,.int .i64 a2,.int .i64 b2,.int .i64 c2,.string tn,.string tq,.int .i64 tp,.int .i64 a3,.int .i64 b3,.int .i64 c3,.slice A3 m3 p3,.string ta,.string tg,.int .i64 ts,.string s] 49)) w.heap.size 49 #[.int .i64 8,.string nn,.int .i64 a1,.int .i64 b1,.int .i64 c1,.slice A1 m1 p1,.string qn,.int .i64 a2,.int .i64 b2,.int .i64 c2,.string tn,.string tq,.int .i64 tp,.int .i64 a3,.int .i64 b3,.int .i64 c3,.slice A3 m3 p3,.string ta,.string tg,.int .i64 ts,.string s]):=Bk.fresh w _ _
 have hB0:Below w.heap.size w (w.alloc (.cells #[.int .i64 8,.string nn,.int .i64 a1,.int .i64 b1,.int .i64 c1,.slice A1 m1 p1,.string qn,.int .i64 a2,.int .i64 b2,.int .i64 c2,.string tn,.string tq,.int .i64 tp,.int .i64 a3,.int .i64 b3,.int .i64 c3,.slice A3 m3 p3,.string ta,.string tg,.int .i64 ts,.string s] 49)):=(Below.refl _ _).alloc (Nat.le_refl _) _
 go_enter Tryz.func44,Tryz.ntmps44
 go_wp2_with fail
 refine (K1.out _ (HG.out.elim fun lst h=>⟨lst,h.below hB0⟩) hB0).mono ?_;rintro e w2 ⟨rfl,hW⟩
 have HW:=Lib.hid hW;clear hW
 go_wp2_with fail
 exact bodyPost_ret (v:=.tuple #[.slice none 0 0,.int .i64 err]) (by simp [results,Tryz.results44,go_sem]) rfl ⟨⟨none,0,0,rfl,RetL.nil _ _⟩,Went.before hB0 HW.out⟩
theorem perform_any1 (b g:Nat)(vM vQ vJ:Value)(S:Sg)(x:Oz)(hk:x.v.k=1)(hM:Sm S)(hA:AscS S)(hll:x.v.l1.length<=1000):Performs b g vM vQ vJ S x (addN S x.v.nn x.v.a1 x.v.b1 x.v.c1 x.v.l1):=perform_1 b g vM vQ vJ S x hk hM hA.M hll fun _=>InsM.any hM.M
theorem perform_any3 (b g:Nat)(vM vQ vJ:Value)(S:Sg)(x:Oz)(hk:x.v.k=3)(hM:Sm S)(hA:AscS S):Performs b g vM vQ vJ S x (addQ S x.que):=perform_3 b g vM vQ vJ S x hk hM hA.Q fun _=>InsQ.any hM.Q
end
section
open Go.RowKit
def Jb.go (j:Jb)(s:ByteArray):Jb:={ j with nd:=s,bo:=j.bo+1 }
def goX (s:ByteArray)(x:Jl):Jl:=(x.1.go s,x.2)
theorem JzOk.go {x:Jl}{s:ByteArray}(h:JzOk x)(hs:s.size<=140737488351232):JzOk (goX s x):=⟨h.1,h.2.1,h.2.2.1,h.2.2.2.1,hs⟩
theorem cellsJ_go {L:List Jb}{p:Nat}(hp:p<L.length)(s:ByteArray):cellsJ (L.set p (L[p].go s))=((cellsJ L).set p (((cellsJ L)[p]'(by rw [cellsJ_length];exact hp)).set 11 (.string s))).set p ((((cellsJ L).set p (((cellsJ L)[p]'(by rw [cellsJ_length];exact hp)).set 11 (.string s)))[p]'(by rw [List.length_set,cellsJ_length];exact hp)).set 12 (.int .i64 (L[p].bo+1))):=by
 simp only [List.getElem_set_self,List.set_set]
 simp only [cellsJ,List.map_set,List.getElem_map]
 rfl
theorem OwnK.goes {w:World}{b r n c p:Nat}{L:List Jb}(h:OwnK w b 66 13 (.slice (some ⟨r,0,none⟩) n c) (cellsJ L))(hp:p<L.length)(s:ByteArray) :
  w.frozen? ⟨r,p * 13+11,none⟩=false/\(w.setCell ⟨r,p * 13+11,none⟩ (.string s)).cell? ⟨r,p * 13+12,none⟩=some (.int .i64 L[p].bo)/\(w.setCell ⟨r,p * 13+11,none⟩ (.string s)).frozen? ⟨r,p * 13+12,none⟩=false /\
  OwnK ((w.setCell ⟨r,p * 13+11,none⟩ (.string s)).setCell ⟨r,p * 13+12,none⟩ (.int .i64 (L[p].bo+1))) b 66 13 (.slice (some ⟨r,0,none⟩) n c) (cellsJ (L.set p (L[p].go s))):=by
 have h1:=h.put (show p<(cellsJ L).length by rw [cellsJ_length];exact hp) (show 11<13 by decide) (.string s)
 have h2:=h1.1.put (show p<_ by rw [List.length_set,cellsJ_length];exact hp) (show 12<13 by decide) (.int .i64 (L[p].bo+1))
 have h3:OwnK (w.setCell ⟨r,p * 13+11,none⟩ (.string s)) b 66 13 (.slice (some ⟨r,0,none⟩) n c) (cellsJ (L.set p { L[p] with nd:=s })):=by rw [cellsJ_nd hp];exact h1.1
 have h4:=h3.jobAt (p:=p) (j:=12) (u:=.int .i64 L[p].bo) (by rw [List.length_set];exact hp) (by rw [List.getElem_set_self];rfl)
 rw [cellsJ_go hp]
 exact ⟨h1.2.2,h4,h2.2.2,h2.1⟩


theorem bind_any (b r n c p:Nat)(s:ByteArray)(L:List Jb)(w:World)(hp:p<L.length)(hbo:-4611686018427387904<=L[p].bo/\L[p].bo<=4611686018427387904)(hO:Hid (OwnK w b 66 13 (.slice (some ⟨r,0,none⟩) n c) (cellsJ L))) :
  Calls Tryz.prog 190 #[.pointer (some ⟨r,p * 13,none⟩),.string s] w fun e w'=>e = .returned (.agg #[.int .i64 1,.string L[p].nm,.string s])/\OwnK w' b 66 13 (.slice (some ⟨r,0,none⟩) n c) (cellsJ (L.set p (L[p].go s)))/\GrP (fun k=>k=r) w w':=by
 obtain ⟨nm,hnm⟩:∃ nm,nm=L[p].nm:=⟨_,rfl⟩
 obtain ⟨bo,hbo'⟩:∃ bo,bo=L[p].bo:=⟨_,rfl⟩
 rw [<- hbo'] at hbo
 rw [<- hnm]
 have hr:r<w.heap.size:=hO.out.isRow
 obtain ⟨W0,hW0⟩:∃ W0,W0=w.alloc (.cells #[.int .i64 0,.string ⟨#[]⟩,.string ⟨#[]⟩] 64):=⟨_,rfl⟩
 have HO0:Hid (OwnK W0 b 66 13 (.slice (some ⟨r,0,none⟩) n c) (cellsJ L)):=by rw [hW0];exact hO.out.below ((Below.refl _ _).alloc (Nat.le_refl _) _)
 have HA0:Hid (Bk W0 w.heap.size 64 #[.int .i64 0,.string ⟨#[]⟩,.string ⟨#[]⟩]):=by rw [hW0];exact Bk.fresh _ _ _
 have hB0:Below w.heap.size w W0:=by rw [hW0];exact (Below.refl _ _).alloc (Nat.le_refl _) _
 have hG:=HO0.out.goes hp s
 rw [<- hbo'] at hG
 have f11:W0.frozen? ⟨r,p * 13+11,none⟩=false:=hG.1
 have c11:W0.cell? ⟨r,p * 13+11,none⟩=some (.string L[p].nd):=HO0.out.jobAt hp (j:=11) rfl
 have c12:(W0.setCell ⟨r,p * 13+11,none⟩ (.string s)).cell? ⟨r,p * 13+12,none⟩=some (.int .i64 bo):=hG.2.1
 have f12:(W0.setCell ⟨r,p * 13+11,none⟩ (.string s)).frozen? ⟨r,p * 13+12,none⟩=false:=hG.2.2.1
 have HO3:Hid (OwnK ((W0.setCell ⟨r,p * 13+11,none⟩ (.string s)).setCell ⟨r,p * 13+12,none⟩ (.int .i64 (bo+1))) b 66 13 (.slice (some ⟨r,0,none⟩) n c) (cellsJ (L.set p (L[p].go s)))):=hG.2.2.2
 have hG3:GrP (fun k=>k=r) w ((W0.setCell ⟨r,p * 13+11,none⟩ (.string s)).setCell ⟨r,p * 13+12,none⟩ (.int .i64 (bo+1))):=((GrP.ofBelow (p:=fun k=>k=r) hB0).set (a:=⟨r,p * 13+11,none⟩) rfl _).set (a:=⟨r,p * 13+12,none⟩) rfl _
 have HA3:Hid (Bk ((W0.setCell ⟨r,p * 13+11,none⟩ (.string s)).setCell ⟨r,p * 13+12,none⟩ (.int .i64 (bo+1))) w.heap.size 64 #[.int .i64 0,.string ⟨#[]⟩,.string ⟨#[]⟩]):=(HA0.out.set (p:=⟨r,p * 13+11,none⟩) (fun e=>by simp only at e;omega) _).set (p:=⟨r,p * 13+12,none⟩) (fun e=>by simp only at e;omega) _
 have c30:((W0.setCell ⟨r,p * 13+11,none⟩ (.string s)).setCell ⟨r,p * 13+12,none⟩ (.int .i64 (bo+1))).cell? ⟨r,p * 13,none⟩=some (.string nm):=by
  have h:=HO3.out.jobAt (p:=p) (j:=0) (u:=.string nm) (by rw [List.length_set];exact hp) (by rw [List.getElem_set_self,hnm];rfl)
  exact h
 have hw1:IntKind.i64.wrap (bo+1)=bo+1:=by rw [IntKind.wrap_i64];omega
 subst hW0
 have e1:∀ u,(w.alloc (.cells #[.int .i64 0,.string ⟨#[]⟩,.string ⟨#[]⟩] 64)).setCell ⟨r,p * 13+11,none⟩ u=(w.setCell ⟨r,p * 13+11,none⟩ u).alloc (.cells #[.int .i64 0,.string ⟨#[]⟩,.string ⟨#[]⟩] 64):=fun u=>World.setCell_alloc_past _ _ _ _ hr
 have e2:∀ u v,((w.setCell ⟨r,p * 13+11,none⟩ u).alloc (.cells #[.int .i64 0,.string ⟨#[]⟩,.string ⟨#[]⟩] 64)).setCell ⟨r,p * 13+12,none⟩ v=((w.setCell ⟨r,p * 13+11,none⟩ u).setCell ⟨r,p * 13+12,none⟩ v).alloc (.cells #[.int .i64 0,.string ⟨#[]⟩,.string ⟨#[]⟩] 64):=fun u v=>World.setCell_alloc_past _ _ _ _ (by simpa using hr)
 rw [e1] at c12 f12
 rw [e1,e2] at HO3 HA3 hG3 c30
 have HG3:=Lib.hid hG3
 clear e1 e2 hG hG3 hbo hnm hbo' hB0 HO0 HA0
 go_enter Tryz.func190,Tryz.ntmps190
 go_wp2_with ((with_reducible refine store_bk rfl 64 (.tmp 4) (.tmp 22) rfl w.heap.size 0 #[.int .i64 1,.string nm,.string s] rfl rfl 64 #[.int .i64 0,.string ⟨#[]⟩,.string ⟨#[]⟩] #[.int .i64 1,.string nm,.string s] HA3.out (by kernel_rfl) (by simp) (by kernel_rfl) rfl ?_;intro w4 hB4 hg4 hs4))
 exact bodyPost_ret (v:=.agg #[.int .i64 1,.string nm,.string s]) (results_bk1 Tryz.results190 _ _ w.heap.size 64 _ _ rfl hB4 Tryz.underlying64 rfl (by kernel_rfl)) rfl ⟨rfl,HO3.out.grp (GrP.of hg4) (fun k hk e=>by injection e with e;injection hk with hk;simp only at hk;omega),by
  have h5:GrP (fun k=>k=r ∨ k=w.heap.size) w _:=(HG3.out.wide fun k _ e=>.inl e).trans ((GrP.of hg4).wide fun k _ e=>.inr (by injection e with e;exact e.symm))
  exact h5.wide fun k hk e=>e.resolve_right (by omega)⟩
end
end Go.Proofs.YtccccbofcnmdiaaGreat
