/- Lemmas that the law stands on. No condition. -/
import Derived.Test.YtccccbofcnmdiaaGreatM02
namespace Go.Proofs.YtccccbofcnmdiaaGreat
set_option linter.unusedSimpArgs false
set_option linter.unusedVariables false
set_option maxRecDepth 100000
set_option maxHeartbeats 51200000
section
open Go.RowKit
structure RowKg (w:World) (g:Nat) (e:TypeId) (k:Nat) (L:List (List Value)):Prop where
 row:w.heap[g]? = some (.cells L.flatten.toArray e (0,0))
 each:∀ x ∈ L,x.length=k
theorem chunks (k:Nat):∀ (m:Nat) (l:List Value),l.length=m * k -> ∃ S:List (List Value),S.length=m/\S.flatten=l /\ ∀ x ∈ S,x.length=k
 | 0,l,h=>by
  have:l=[]:=List.length_eq_zero_iff.1 (by simpa using h)
  subst this
  exact ⟨[],rfl,rfl,by simp⟩
 | m+1,l,h=>by
  rw [Nat.add_mul,Nat.one_mul] at h
  obtain ⟨S,h1,h2,h3⟩:=chunks k m (l.drop k) (by rw [List.length_drop];omega)
  refine ⟨l.take k :: S,by simp [h1],by rw [List.flatten_cons,h2,List.take_append_drop],fun x hx=>?_⟩
  rcases List.mem_cons.1 hx with rfl | hx
  ·rw [List.length_take];omega
  ·exact h3 x hx
theorem flat_take {k:Nat}:∀ {L:List (List Value)},(∀ x ∈ L,x.length=k) -> ∀ n,(L.take n).flatten=L.flatten.take (n * k)
 | [],_,n=>by simp
 | x :: L,h,0=>by simp
 | x :: L,h,n+1=>by
  have hx:x.length=k:=h x (by simp)
  have ht:x.take ((n+1) * k)=x:=List.take_of_length_le (by rw [hx,Nat.add_mul];omega)
  rw [List.take_succ_cons,List.flatten_cons,List.flatten_cons,flat_take (fun y hy=>h y (by simp [hy])) n,List.take_append,ht,hx,show (n+1) * k - k=n * k by rw [Nat.add_mul];omega]
theorem flat_drop {k:Nat}:∀ {L:List (List Value)},(∀ x ∈ L,x.length=k) -> ∀ n,(L.drop n).flatten=L.flatten.drop (n * k)
 | [],_,n=>by simp
 | x :: L,h,0=>by simp
 | x :: L,h,n+1=>by
  have hx:x.length=k:=h x (by simp)
  have ht:x.drop ((n+1) * k)=[]:=List.drop_of_length_le (by rw [hx,Nat.add_mul];omega)
  rw [List.drop_succ_cons,List.flatten_cons,flat_drop (fun y hy=>h y (by simp [hy])) n,List.drop_append,ht,List.nil_append,hx,show (n+1) * k - k=n * k by rw [Nat.add_mul];omega]
section
variable {w w':World} {g k base n c:Nat} {e:TypeId} {l L:List (List Value)}
theorem OwnK.whole (h:OwnK w base e k (.slice (some ⟨g,0,none⟩) n c) l):∃ S:List (List Value),RowKg w g e k (l ++ S)/\l.length+S.length=c/\n=l.length/\c<=maxLen/\base<=g:=by
 obtain ⟨hk,hlen,hr⟩:=h
 rcases hr with ⟨h1,_⟩ | ⟨g',cap,cur,h1,hb,hg,hn,hm,hc,ht⟩
 ·cases h1
 ·injection h1 with e1 e2 e3
  injection e1 with e1
  injection e1 with e1
  subst e1 e3
  obtain ⟨S,s1,s2,s3⟩:=chunks k (c - l.length) (cur.toList.drop (l.length * k)) (by rw [List.length_drop,Array.length_toList,hc,Nat.sub_mul])
  refine ⟨S,⟨?_,fun x hx=>(List.mem_append.1 hx).elim (hk x) (s3 x)⟩,by omega,e2,hm,hb⟩
  rw [List.flatten_append,s2,<- ht,List.take_append_drop,Array.toArray_toList]
  exact hg
theorem RowKg.own (h:RowKg w g e k L) (hb:base<=g) (hc:L.length=c) (hm:c<=maxLen) (hn:n<=c):OwnK w base e k (.slice (some ⟨g,0,none⟩) n c) (L.take n):=by
 have hl:(L.take n).length=n:=by rw [List.length_take];omega
 refine ⟨fun x hx=>h.each x (List.mem_of_mem_take hx),by rw [hl,flat_length (fun x hx=>h.each x (List.mem_of_mem_take hx)),hl],.inr ⟨g,c,L.flatten.toArray,by rw [hl],hb,h.row,by rw [hl];exact hn,hm,?_,?_⟩⟩
 ·rw [List.size_toArray,flat_length h.each,hc]
 ·rw [hl,flat_take h.each]
theorem RowKg.part (h:RowKg w g e k L) (o m:Nat):∀ j u,((L.drop o).take m).flatten[j]? = some u->w.cell? ((⟨g,o * k,none⟩:Addr).add j)=some u:=fun j u hu=>by
 rw [flat_take (fun x hx=>h.each x (List.mem_of_mem_drop hx)),flat_drop h.each,List.getElem?_take] at hu
 split at hu
 ·rw [List.getElem?_drop] at hu
  rw [Addr.add_lit,cell_of_row w g _ _ e (0,0) h.row]
  simpa using hu
 ·cases hu
end
theorem RowKg.drew {w:World} {g k:Nat} {e:TypeId} {L:List (List Value)} (h:RowKg w g e k L):RowKg w.drew g e k L:=⟨h.row,h.each⟩
theorem drew_grown {w w':World} {row:Option Nat} (h:w.drew.grownBy w' row):w.grownBy w' row:=⟨h.os,h.tape,h.output,h.size,h.block⟩
theorem grown_setRow (w:World) (g:Nat) (cs:Array Value):w.grownBy (w.setRow g cs) (some g):=
 ⟨rfl,rfl,rfl,by simp,fun i _ hne=>setRow_other w g i cs (fun e=>hne (by rw [e]))⟩
section
variable {P:Program}
theorem run_copy_k (w:World) (dT sT ty e:TypeId) (k:Nat) (hu:P.underlying dT=some (.slice e)) (hs:(P.info? e).map (·.size)=some k)
  (g d dLen dCap:Nat) (L:List (List Value)) (hr:RowKg w g e k L) (a:Addr) (sLen sCap:Nat) (X:List (List Value)) (hX:∀ x ∈ X,x.length=k) (h1:∀ x ∈ X,∀ u ∈ x,u.oneCell' = true)
  (hn:X.length=Nat.min sLen dLen) (hsrc:∀ j u,X.flatten[j]? = some u->w.cell? (a.add j)=some u) (hfit:d+X.length<=L.length) :
  ∃ w',(Builtin.copy_ #[dT,sT] ty #[.slice (some ⟨g,d * k,none⟩) dLen dCap,.slice (some a) sLen sCap]).run P w = .ok (goInt X.length) w' /\ RowKg w' g e k (L.take d ++ X ++ L.drop (d+X.length))/\w.grownBy w' (some g)/\w'.heap.size=w.heap.size:=by
 have hXl:X.flatten.length=X.length * k:=flat_length hX
 have hLl:L.flatten.length=L.length * k:=flat_length hr.each
 have hle:d * k+X.flatten.length<=L.flatten.toArray.size:=by
  rw [List.size_toArray,hXl,hLl,<- Nat.add_mul]
  exact Nat.mul_le_mul_right k hfit
 have hl:=run_loadCells_list (P:=P) w a X.flatten hsrc
 have hst:=run_storeCells_at P g (d * k) e X.flatten 0 L.flatten.toArray w hr.row (by simpa using hle) (fun u hu'=>by
  obtain ⟨y,hy,hu''⟩:=List.mem_flatten.1 hu'
  exact h1 y hy u hu'')
 refine ⟨w.setRow g (L.flatten.take (d * k) ++ X.flatten ++ L.flatten.drop (d * k+X.flatten.length)).toArray,?_,⟨?_,?_⟩,grown_setRow _ _ _,by simp⟩
 ·cases hq:P.info? e with
  | none=>simp [hq] at hs
  | some i=>
   have hi:i.size=k:=by simpa [hq] using hs
   rw [hXl] at hl hst
   simp only [Nat.add_zero] at hst
   simp [Builtin.copy_,run_underlying hu,Builtin.lenOf,Builtin.firstCells,sizeOf,typeInfo,hq,hi,<- hn,hl,hst,hXl]
 ·rw [setRow_heap w g _ _ e (0,0) hr.row]
  congr 3
  rw [List.flatten_append,List.flatten_append,flat_take hr.each,flat_drop hr.each,Nat.add_mul,hXl]
 ·intro x hx
  rcases List.mem_append.1 hx with hx | hx
  ·rcases List.mem_append.1 hx with hx | hx
   ·exact hr.each x (List.mem_of_mem_take hx)
   ·exact hX x hx
  ·exact hr.each x (List.mem_of_mem_drop hx)
theorem run_made_k (w:World) (t tn ty e:TypeId) (z:Value) (k b:Nat) (kn kq:IntKind) (ht:P.underlying t=some (.slice e)) (htn:P.underlying tn=some (.int kn)) (h2:(P.info? e).map (fun i=>(i.zero,i.size,i.bytes))=some (some z,k,b)) (hz:z.cells.size=k) (hk:0<k)
  (a:Addr) (n c m:Nat) (l:List (List Value)) (hl:∀ x ∈ l,x.length=k) (hn:n=l.length) (hsrc:∀ j u,l.flatten[j]? = some u->w.cell? (a.add j)=some u)
  (h0:0<m) (hroom:c<n+m) (hmax:n+m<=maxLen) (hbig:(n+m) * b<=140737488355328) :
  ∃ w' G S,(Builtin.append_ #[t,tn] ty #[.slice (some a) n c,.int kq (m:Int)]).run P w = .ok (.slice (some ⟨w.heap.size,0,none⟩) (n+m) G) w' /\ RowKg w' w.heap.size e k (l ++ S)/\n+S.length=G/\n+m<=G/\G<=maxLen/\w.grownBy w' none/\w'.heap.size=w.heap.size+1:=by
 obtain ⟨i,hi,hiz,his,hib⟩:=info_partsK h2
 subst his hib
 have hold:(Builtin.firstCells i.size n (.slice (some a) n c)).run P w.drew = .ok l.flatten.toArray w.drew:=
  run_firstCells_some w.drew i.size n a n c l.flatten (by rw [flat_length hl,hn]) (fun j u hj=>hsrc j u hj)
 have hrun:=Lib.run_append_grow_zeros w t tn ty e i z kq kn ht htn hi hiz (some a) n c l.flatten hold m h0 hk hroom (by unfold maxLen at hmax;omega)
  (Nat.le_trans (Nat.mul_le_mul_right _ (Nat.le_add_left m n)) (by omega)) (growslice_fits hroom hbig)
 have hge:=grownCap_ge w (n+m) c e
 have hle:=grownCap_le_maxLen w (n+m) c e hmax
 obtain ⟨S,s1,s2,s3⟩:=chunks i.size (grownCap w (n+m) c e - n) (Builtin.zeroCells z.cells m ++ Builtin.zeroCells z.cells (grownCap w (n+m) c e - (n+m))).toList (by
  rw [Array.toList_append,List.length_append,Array.length_toList,Array.length_toList,size_zeroCells,size_zeroCells,hz,<- Nat.add_mul]
  congr 1;omega)
 refine ⟨_,grownCap w (n+m) c e,S,hrun,⟨?_,fun x hx=>(List.mem_append.1 hx).elim (hl x) (s3 x)⟩,by omega,hge,hle,?_,by simp⟩
 ·have h:=heap_alloc_new w.drew (.cells (l.flatten.toArray ++ Builtin.zeroCells z.cells m ++ Builtin.zeroCells z.cells (grownCap w (n+m) c e - (n+m))) e)
  refine h.trans ?_
  congr 2
  rw [List.flatten_append,s2]
  apply Array.toList_inj.1
  simp
 ·exact ⟨rfl,rfl,rfl,by simp,fun j hj _=>heap_alloc_old w.drew _ hj⟩
theorem copy_k_op (w:World) {o:Oper} {a:Act} {K:Act->World->Prop} {Q:Exit->Act->World->Prop} (d x:Operand) (t:TypeId) (hop:o.op=Op.call { callee:=Callee.builtin Builtin.copy,args:=#[d,x],argTypes:=#[t,t] })
  (e:TypeId) (k:Nat) (hu:P.underlying t=some (.slice e)) (hs:(P.info? e).map (·.size)=some k) (g dd dk dLen dCap:Nat) (L:List (List Value)) (hr:RowKg w g e k L) (hd:a.eval d = .slice (some ⟨g,dk,none⟩) dLen dCap) (hdk:dk=dd * k)
  (A:Addr) (sLen sCap:Nat) (hx:a.eval x = .slice (some A) sLen sCap) (X:List (List Value)) (hX:∀ x ∈ X,x.length=k) (h1:∀ x ∈ X,∀ u ∈ x,u.oneCell' = true)
  (hn:X.length=Nat.min sLen dLen) (hsrc:∀ j u,X.flatten[j]? = some u->w.cell? (A.add j)=some u) (hfit:dd+X.length<=L.length)
  (hK:∀ w',RowKg w' g e k (L.take dd ++ X ++ L.drop (dd+X.length))->w.grownBy w' (some g)->w'.heap.size=w.heap.size->K (a.put o.dst (goInt X.length)) w'):o.wp P a w K Q:=by
 subst hdk
 obtain ⟨w',hrun,r1,r2,r3⟩:=run_copy_k (P:=P) w t t o.type e k hu hs g dd dLen dCap L hr A sLen sCap X hX h1 hn hsrc hfit
 unfold Oper.wp
 simp [execOp,hop,resolve,invoke,builtin,hd,hx,hrun,Result.andThen]
 exact hK w' r1 r2 r3
theorem copy_k {ops:Array Oper} {rest:List Oper} (w:World) {o:Oper} {a:Act} {Q:Exit->Act->World->Prop} (hw:Region.wanted o (yielded ops a.tmps)=true) (d x:Operand) (t:TypeId) (hop:o.op=Op.call { callee:=Callee.builtin Builtin.copy,args:=#[d,x],argTypes:=#[t,t] })
  (e:TypeId) (k:Nat) (hu:P.underlying t=some (.slice e)) (hs:(P.info? e).map (·.size)=some k) (g dd dk dLen dCap:Nat) (L:List (List Value)) (hr:RowKg w g e k L) (hd:a.eval d = .slice (some ⟨g,dk,none⟩) dLen dCap) (hdk:dk=dd * k)
  (A:Addr) (sLen sCap:Nat) (hx:a.eval x = .slice (some A) sLen sCap) (X:List (List Value)) (hX:∀ x ∈ X,x.length=k) (h1:∀ x ∈ X,∀ u ∈ x,u.oneCell' = true)
  (hn:X.length=Nat.min sLen dLen) (hsrc:∀ j u,X.flatten[j]? = some u->w.cell? (A.add j)=some u) (hfit:dd+X.length<=L.length)
  (hK:∀ w',RowKg w' g e k (L.take dd ++ X ++ L.drop (dd+X.length))->w.grownBy w' (some g)->w'.heap.size=w.heap.size->wpList P ops Q rest (a.put o.dst (goInt X.length)) w'):wpList P ops Q (o :: rest) a w:=
 BigFrame.wpList_want hw fun K hKK=>copy_k_op w d x t hop e k hu hs g dd dk dLen dCap L hr hd hdk A sLen sCap hx X hX h1 hn hsrc hfit (fun w' a b c=>hKK _ _ (hK w' a b c))
theorem step_copy_k {ops:Array Oper} {o:Oper} {a:Act} {w:World} {K:Act->World->Prop} {Q:Exit->Act->World->Prop} {E:Prop} (hg:o.guard=none) (d x:Operand) (t:TypeId) (hop:o.op=Op.call { callee:=Callee.builtin Builtin.copy,args:=#[d,x],argTypes:=#[t,t] })
  (e:TypeId) (k:Nat) (hu:P.underlying t=some (.slice e)) (hs:(P.info? e).map (·.size)=some k) (g dd dk dLen dCap:Nat) (L:List (List Value)) (hr:RowKg w g e k L) (hd:a.eval d = .slice (some ⟨g,dk,none⟩) dLen dCap) (hdk:dk=dd * k)
  (A:Addr) (sLen sCap:Nat) (hx:a.eval x = .slice (some A) sLen sCap) (X:List (List Value)) (hX:∀ x ∈ X,x.length=k) (h1:∀ x ∈ X,∀ u ∈ x,u.oneCell' = true)
  (hn:X.length=Nat.min sLen dLen) (hsrc:∀ j u,X.flatten[j]? = some u->w.cell? (A.add j)=some u) (hfit:dd+X.length<=L.length)
  (hK:∀ w',RowKg w' g e k (L.take dd ++ X ++ L.drop (dd+X.length))->w.grownBy w' (some g)->w'.heap.size=w.heap.size->K (a.put o.dst (goInt X.length)) w') :
  if Region.wanted o (yielded ops a.tmps)=true then Oper.wp P o a w K Q else E:=by
 rw [if_pos (by simp [Region.wanted,hg])]
 exact copy_k_op w d x t hop e k hu hs g dd dk dLen dCap L hr hd hdk A sLen sCap hx X hX h1 hn hsrc hfit hK
theorem made_k {ops:Array Oper} {rest:List Oper} (w:World) {o:Oper} {a:Act} {Q:Exit->Act->World->Prop} (hw:Region.wanted o (yielded ops a.tmps)=true) (s x:Operand) (t tn:TypeId) (hop:o.op=Op.call { callee:=Callee.builtin Builtin.append,args:=#[s,x],argTypes:=#[t,tn] })
  (e:TypeId) (z:Value) (k b:Nat) (kn kq:IntKind) (ht:P.underlying t=some (.slice e)) (htn:P.underlying tn=some (.int kn)) (h2:(P.info? e).map (fun i=>(i.zero,i.size,i.bytes))=some (some z,k,b)) (hz:z.cells.size=k) (hk:0<k)
  (A:Addr) (n c m:Nat) (l:List (List Value)) (hs:a.eval s = .slice (some A) n c) (M:Int) (hx:a.eval x = .int kq M) (hM:M=(m:Int)) (hl:∀ x ∈ l,x.length=k) (hn:n=l.length) (hsrc:∀ j u,l.flatten[j]? = some u->w.cell? (A.add j)=some u)
  (nm:Nat) (hnm:n+m=nm) (h0:0<m) (hroom:c<n+m) (hmax:n+m<=maxLen) (hbig:(n+m) * b<=140737488355328)
  (hK:∀ w' G S,RowKg w' w.heap.size e k (l ++ S)->n+S.length=G->nm<=G->G<=maxLen->w.grownBy w' none->w'.heap.size=w.heap.size+1->wpList P ops Q rest (a.put o.dst (.slice (some ⟨w.heap.size,0,none⟩) nm G)) w'):wpList P ops Q (o :: rest) a w:=
 BigFrame.wpList_want hw fun K hKK=>by
  subst hM hnm
  obtain ⟨w',G,S,hrun,r1,r2,r3,r4,r5,r6⟩:=run_made_k (P:=P) w t tn o.type e z k b kn kq ht htn h2 hz hk A n c m l hl hn hsrc h0 hroom hmax hbig
  unfold Oper.wp
  simp [execOp,hop,resolve,invoke,builtin,hs,hx,hrun,Result.andThen]
  exact hKK _ _ (hK w' G S r1 r2 r3 r4 r5 r6)
end
end
end Go.Proofs.YtccccbofcnmdiaaGreat
