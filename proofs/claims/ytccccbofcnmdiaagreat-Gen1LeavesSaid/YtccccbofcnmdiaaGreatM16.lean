/- Lemmas that the law stands on. No condition. -/
import Derived.Test.YtccccbofcnmdiaaGreatM15
namespace Go.Proofs.YtccccbofcnmdiaaGreat
set_option linter.unusedSimpArgs false
set_option linter.unusedVariables false
set_option maxRecDepth 100000
set_option maxHeartbeats 51200000
section
open Go.RowKit
section
variable {P:Program}
theorem room_k_op (w:World) {o:Oper} {a:Act} {K:Act->World->Prop} {Q:Exit->Act->World->Prop} (s x:Operand) (t:TypeId) (hop:o.op=Op.call { callee:=Callee.builtin Builtin.append,args:=#[s,x],argTypes:=#[t,t] })
  (e:TypeId) (k:Nat) (hu:P.underlying t=some (.slice e)) (hs:(P.info? e).map (·.size)=some k) (g d c:Nat) (L:List (List Value)) (hr:RowKg w g e k L) (hd:a.eval s = .slice (some ⟨g,0,none⟩) d c)
  (A:Addr) (m cm:Nat) (hx:a.eval x = .slice (some A) m cm) (X:List (List Value)) (hX:∀ x ∈ X,x.length=k) (h1:∀ x ∈ X,∀ u ∈ x,u.oneCell' = true) (hm:m=X.length)
  (hsrc:∀ j u,X.flatten[j]? = some u->w.cell? (A.add j)=some u) (nm:Nat) (hnm:d+m=nm) (hroom:nm<=c) (hfit:nm<=L.length)
  (hK:∀ w',RowKg w' g e k (L.take d ++ X ++ L.drop nm)->w.grownBy w' (some g)->w'.heap.size=w.heap.size->K (a.put o.dst (.slice (some ⟨g,0,none⟩) nm c)) w'):o.wp P a w K Q:=by
 subst hnm hm
 have hXl:X.flatten.length=X.length * k:=flat_length hX
 have hLl:L.flatten.length=L.length * k:=flat_length hr.each
 cases hq:P.info? e with
 | none=>simp [hq] at hs
 | some i=>
  have hi:i.size=k:=by simpa [hq] using hs
  subst hi
  have hle:d * i.size+X.flatten.length<=L.flatten.toArray.size:=by
   rw [List.size_toArray,hXl,hLl,<- Nat.add_mul]
   exact Nat.mul_le_mul_right _ hfit
  have hrun:=run_append_room (P:=P) w t o.type e i hu hq g d c L.flatten.toArray hr.row A X.length cm X.flatten hXl hsrc (fun u hu'=>by
   obtain ⟨y,hy,hu''⟩:=List.mem_flatten.1 hu'
   exact h1 y hy u hu'') hroom hle
  unfold Oper.wp
  simp [execOp,hop,resolve,invoke,builtin,hd,hx,Result.andThen]
  simp [hrun,Result.andThen]
  refine hK _ ⟨?_,fun x hx=>?_⟩ (grown_setRow _ _ _) (by simp)
  ·have h:=setRow_heap w g _ (L.flatten.take (d * i.size) ++ (X.flatten ++ L.flatten.drop (d * i.size+X.flatten.length))).toArray e (0,0) hr.row
   rw [List.flatten_append,List.flatten_append,flat_take hr.each,flat_drop hr.each,Nat.add_mul,<- hXl,List.append_assoc]
   simpa using h
  ·rcases List.mem_append.1 hx with hx | hx
   ·rcases List.mem_append.1 hx with hx | hx
    ·exact hr.each x (List.mem_of_mem_take hx)
    ·exact hX x hx
   ·exact hr.each x (List.mem_of_mem_drop hx)
theorem step_room_k {ops:Array Oper} {o:Oper} {a:Act} {w:World} {K:Act->World->Prop} {Q:Exit->Act->World->Prop} {E:Prop} (hg:o.guard=none) (s x:Operand) (t:TypeId) (hop:o.op=Op.call { callee:=Callee.builtin Builtin.append,args:=#[s,x],argTypes:=#[t,t] })
  (e:TypeId) (k:Nat) (hu:P.underlying t=some (.slice e)) (hs:(P.info? e).map (·.size)=some k) (g d c:Nat) (L:List (List Value)) (hr:RowKg w g e k L) (hd:a.eval s = .slice (some ⟨g,0,none⟩) d c)
  (A:Addr) (m cm:Nat) (hx:a.eval x = .slice (some A) m cm) (X:List (List Value)) (hX:∀ x ∈ X,x.length=k) (h1:∀ x ∈ X,∀ u ∈ x,u.oneCell' = true) (hm:m=X.length)
  (hsrc:∀ j u,X.flatten[j]? = some u->w.cell? (A.add j)=some u) (nm:Nat) (hnm:d+m=nm) (hroom:nm<=c) (hfit:nm<=L.length)
  (hK:∀ w',RowKg w' g e k (L.take d ++ X ++ L.drop nm)->w.grownBy w' (some g)->w'.heap.size=w.heap.size->K (a.put o.dst (.slice (some ⟨g,0,none⟩) nm c)) w') :
  if Region.wanted o (yielded ops a.tmps)=true then Oper.wp P o a w K Q else E:=by
 rw [if_pos (by simp [Region.wanted,hg])]
 exact room_k_op w s x t hop e k hu hs g d c L hr hd A m cm hx X hX h1 hm hsrc nm hnm hroom hfit hK
theorem clear1_k {ops:Array Oper} {rest:List Oper} (w:World) {o:Oper} {a:Act} {Q:Exit->Act->World->Prop} (hw:Region.wanted o (yielded ops a.tmps)=true) (x:Operand) (t:TypeId) (hop:o.op=Op.call { callee:=Callee.builtin Builtin.clear,args:=#[x],argTypes:=#[t] })
  (e:TypeId) (z:Value) (k b:Nat) (hu:P.underlying t=some (.slice e)) (h2:(P.info? e).map (fun i=>(i.zero,i.size,i.bytes))=some (some z,k,b)) (hz:z.cells.size=k) (hk:0<k) (h1:∀ u ∈ z.cells.toList,u.oneCell' = true)
  (g d dk cm:Nat) (hdk:dk=d * k) (L:List (List Value)) (hr:RowKg w g e k L) (on:Nat) (hx:a.eval x = .slice (some ⟨g,dk,none⟩) on cm) (hon:on=1) (hfit:d+1<=L.length)
  (hK:∀ w' zx,RowKg w' g e k (L.take d ++ [zx] ++ L.drop (d+1))->w.grownBy w' (some g)->w'.heap.size=w.heap.size->wpList P ops Q rest (a.put o.dst (.tuple #[])) w'):wpList P ops Q (o :: rest) a w:=
 BigFrame.wpList_want hw fun K hKK=>by
  subst hdk hon
  obtain ⟨i,hi,hiz,his,hib⟩:=info_partsK h2
  have hLl:L.flatten.length=L.length * k:=flat_length hr.each
  have hzc:(Builtin.zeroCells z.cells 1).toList=z.cells.toList:=by
   apply List.ext_getElem
   ·simp [Builtin.zeroCells]
   ·intro j h1 h2
    have hj:j<z.cells.size:=by simpa using h2
    simp [Builtin.zeroCells,Nat.mod_eq_of_lt hj,hj]
  have hzl:z.cells.toList.length=k:=by simpa using hz
  have hst:=run_storeCells_at P g (d * k) e z.cells.toList 0 L.flatten.toArray w hr.row (by
   rw [List.size_toArray,hLl,hzl,Nat.add_zero]
   have:=Nat.mul_le_mul_right k hfit
   rw [Nat.add_mul] at this;omega) h1
  unfold Oper.wp
  simp only [Nat.add_zero] at hst
  have hrun:(Builtin.clear_ #[t] o.type #[.slice (some ⟨g,d * k,none⟩) 1 cm]).run P w = .ok (.tuple #[]) (w.setRow g (L.flatten.take (d * k) ++ z.cells.toList ++ L.flatten.drop (d * k+z.cells.toList.length)).toArray):=by
   simp [Builtin.clear_,run_underlying hu,zeroValue,typeInfo,hi,hiz,hzc,hst]
  simp [execOp,hop,resolve,invoke,builtin,hx,Result.andThen]
  simp only [hrun]
  refine hKK _ _ (hK _ z.cells.toList ⟨?_,fun y hy=>?_⟩ (grown_setRow _ _ _) (by simp))
  ·rw [setRow_heap w g _ _ e (0,0) hr.row]
   congr 3
   rw [List.flatten_append,List.flatten_append,flat_take hr.each,flat_drop hr.each,Nat.add_mul,hzl]
   simp
  ·rcases List.mem_append.1 hy with hy | hy
   ·rcases List.mem_append.1 hy with hy | hy
    ·exact hr.each y (List.mem_of_mem_take hy)
    ·rw [List.mem_singleton.1 hy];exact hzl
   ·exact hr.each y (List.mem_of_mem_drop hy)
end
theorem zoneM15:∀ u ∈ ((.agg #[.string ⟨#[]⟩,.int .i64 0,.int .i64 0,.int .i64 0,.slice none 0 0,.bool false,.int .i64 0]:Value).cells).toList,u.oneCell' = true:=by
 have h:(((.agg #[.string ⟨#[]⟩,.int .i64 0,.int .i64 0,.int .i64 0,.slice none 0 0,.bool false,.int .i64 0]:Value).cells).toList.all fun u=>u.oneCell')=true:=by rfl
 exact List.all_eq_true.1 h
theorem zoneQ15:∀ u ∈ ((.agg #[.string ⟨#[]⟩,.int .i64 0,.int .i64 0,.int .i64 0]:Value).cells).toList,u.oneCell' = true:=by
 have h:(((.agg #[.string ⟨#[]⟩,.int .i64 0,.int .i64 0,.int .i64 0]:Value).cells).toList.all fun u=>u.oneCell')=true:=by rfl
 exact List.all_eq_true.1 h
theorem zoneJ15:∀ u ∈ ((.agg #[.string ⟨#[]⟩,.string ⟨#[]⟩,.int .i64 0,.int .i64 0,.int .i64 0,.int .i64 0,.slice none 0 0,.string ⟨#[]⟩,.string ⟨#[]⟩,.int .i64 0,.int .i64 0,.string ⟨#[]⟩,.int .i64 0]:Value).cells).toList,u.oneCell' = true:=by
 have h:(((.agg #[.string ⟨#[]⟩,.string ⟨#[]⟩,.int .i64 0,.int .i64 0,.int .i64 0,.int .i64 0,.slice none 0 0,.string ⟨#[]⟩,.string ⟨#[]⟩,.int .i64 0,.int .i64 0,.string ⟨#[]⟩,.int .i64 0]:Value).cells).toList.all fun u=>u.oneCell')=true:=by rfl
 exact List.all_eq_true.1 h
theorem del_mid {l S:List (List Value)} {y:List Value} {n i:Nat} (hl:l.length=n) (hi:i<n) :
  (((l ++ S).take i ++ l.drop (i+1) ++ (l ++ S).drop (n - 1)).take (n - 1) ++ [y] ++ ((l ++ S).take i ++ l.drop (i+1) ++ (l ++ S).drop (n - 1)).drop (n - 1+1)).take (n - 1)=l.take i ++ l.drop (i+1):=by
 have e0:(l ++ S).take i=l.take i:=List.take_append_of_le_length (by omega)
 rw [e0,List.append_assoc,List.take_append_of_le_length (by simp only [List.length_append,List.length_take,List.length_drop];omega),List.take_take,Nat.min_self,List.take_append_of_le_length (by simp only [List.length_append,List.length_take,List.length_drop];omega),List.take_of_length_le (by simp only [List.length_append,List.length_take,List.length_drop];omega)]


theorem deleteQ_far (base g n c i:Nat) (l S:List (List Value)) (w:World) (hl:Hid (l.length=n)) (hbig:n<=1000) (hi:i<n) (hR:Hid (RowKg w g 45 4 (l ++ S))) (hS:Hid (n+S.length=c)) (hnc:n<=c) (hbg:Hid (base<=g)) (hc2:c<=9223372036854775807) (hc3:Hid (c<=maxLen))
  (h1:Hid (∀ x ∈ l,∀ u ∈ x,u.oneCell' = true)) (hce:¬ (c=i+1)) :
  Calls Tryz.prog 167 #[.slice (some ⟨g,0,none⟩) n c,.int .i64 i,.int .i64 ((i:Int)+1)] w fun e w'=>e = .returned (.slice (some ⟨g,0,none⟩) (n - 1) c)/\OwnK w' base 45 4 (.slice (some ⟨g,0,none⟩) (n - 1) c) (l.take i ++ l.drop (i+1))/\w.grownBy w' (some g)/\w'.heap.size=w.heap.size:=by
 have hL:Hid ((l ++ S).length=c):=by show _=_;rw [List.length_append,hl.out];exact hS.out
 have hD:Hid ((l.drop (i+1)).length=n - (i+1)):=by show _=_;rw [List.length_drop,hl.out]
 have hP:Hid (∀ j u,(l.drop (i+1)).flatten[j]? = some u->w.drew.cell? ((⟨g,(i+1) * 4,none⟩:Addr).add j)=some u):=by
  have:=hR.out.drew.part (i+1) (n - (i+1))
  rw [List.drop_append_of_le_length (by have:=hl.out;omega),List.take_append_of_le_length (by rw [hD.out];exact Nat.le_refl _),List.take_of_length_le (by rw [hD.out];exact Nat.le_refl _)] at this
  exact this
 have hne1:((i:Int) == (i:Int)+1)=false:=by simp;omega
 have hb1:(0:Int)<=(i:Int)+1:=by omega
 have hin:i<=n:=by omega
 have htn:((i:Int)+1).toNat=i+1:=by omega
 have hb3:(i:Int)+1<=(n:Int):=by omega
 have hb4:¬ (n=i):=by omega
 have hb5:¬ (c=i):=by omega
 have hic:i<=c:=by omega
 have hnm:n - 1<=n:=by omega
 have hb6:¬ (c=n - 1):=by omega
 have hb7:(i:Int)<=(i:Int)+1:=by omega
 have hb8:(n:Int)<=(c:Int):=by omega
 go_enter Tryz.func167,Tryz.ntmps167
 go_wp2_with fail
 go_region_law (refine step_room_k rfl (.tmp 22) (.tmp 25) 28 rfl 45 4 Tryz.underlying28 (by kernel_rfl) g i c (l ++ S) hR.out.drew (by simp [Act.eval,Act.put]) ⟨g,(i+1) * 4,none⟩ (n - (i+1)) (c - (i+1)) (by simp [Act.eval,Act.put]) (l.drop (i+1)) (fun y hy=>hR.out.each y (List.mem_append_left _ (List.mem_of_mem_drop hy))) (fun y hy=>h1.out y (List.mem_of_mem_drop hy)) hD.out.symm hP.out (n - 1) (by omega) (by omega) (by rw [hL.out];omega) ?_;intro w1 r1 g1 z1)
 have T:=Lib.hid (drew_grown g1)
 have R1:=Lib.hid r1
 have Z1:Hid (w1.heap.size=w.heap.size):=z1
 clear g1 r1 z1
 go_wp2_with (first
  | (with_reducible refine clear1_k _ rfl (.tmp 31) 28 rfl 45 _ 4 40 Tryz.underlying28 infoQ15 rfl (by omega) zoneQ15 g (n - 1) ((n - 1) * 4) _ rfl _ R1.out _ rfl (by omega) (by have h1:=hL.out;have h2:=hD.out;have h3:=hl.out;have h4:=hS.out;simp only [List.length_append,List.length_take,List.length_drop] at *;omega) ?_;intro w2 zx r2 g2 z2))
 all_goals go_ret
 all_goals
  have q:=r2.own (n:=n - 1) (c:=c) hbg.out (by have h1:=hL.out;have h2:=hD.out;have h3:=hl.out;have h4:=hS.out;simp only [List.length_append,List.length_take,List.length_drop,List.length_singleton] at *;omega) hc3.out (by omega)
  rw [del_mid hl.out hi] at q
  exact ⟨rfl,q,⟨g2.os.trans T.out.os,g2.tape.trans T.out.tape,g2.output.trans T.out.output,Nat.le_trans T.out.size g2.size,fun k hk hn=>(g2.block k (Nat.lt_of_lt_of_le hk T.out.size) hn).trans (T.out.block k hk hn)⟩,z2.trans Z1.out⟩


theorem deleteQ_near (base g i:Nat) (l:List (List Value)) (w:World) (hl:Hid (l.length=i+1)) (hbig:i+1<=1000) (hR:Hid (RowKg w g 45 4 l)) (hbg:Hid (base<=g)) (hc3:Hid (i+1<=maxLen)) :
  Calls Tryz.prog 167 #[.slice (some ⟨g,0,none⟩) (i+1) (i+1),.int .i64 i,.int .i64 ((i:Int)+1)] w fun e w'=>e = .returned (.slice (some ⟨g,0,none⟩) i (i+1))/\OwnK w' base 45 4 (.slice (some ⟨g,0,none⟩) i (i+1)) (l.take i)/\w.grownBy w' (some g)/\w'.heap.size=w.heap.size:=by
 have hne1:((i:Int) == (i:Int)+1)=false:=by simp;omega
 have hb1:(0:Int)<=(i:Int)+1:=by omega
 have htn:((i:Int)+1).toNat=i+1:=by omega
 have hb3:(i:Int)+1<=(i:Int)+1:=by omega
 have hic:i<=i+1:=by omega
 have hb6:¬ (i+1=i):=by omega
 have hb7:(i:Int)<=(i:Int)+1:=by omega
 go_enter Tryz.func167,Tryz.ntmps167
 go_wp2_with fail
 go_region_law (refine step_room_k rfl (.tmp 22) (.tmp 25) 28 rfl 45 4 Tryz.underlying28 (by kernel_rfl) g i (i+1) l hR.out.drew (by simp [Act.eval,Act.put]) ⟨g,0,none⟩ 0 0 (by simp [Act.eval,Act.put]) [] (by simp) (by simp) rfl (by simp) i (by omega) (by omega) (by rw [hl.out];omega) ?_;intro w1 r1 g1 z1)
 have T:=Lib.hid (drew_grown g1)
 have R1:=Lib.hid r1
 have Z1:Hid (w1.heap.size=w.heap.size):=z1
 clear g1 r1 z1
 go_wp2_with (first
  | (with_reducible refine clear1_k _ rfl (.tmp 31) 28 rfl 45 _ 4 40 Tryz.underlying28 infoQ15 rfl (by omega) zoneQ15 g i (i * 4) _ rfl _ R1.out _ rfl (by omega) (by have h3:=hl.out;simp only [List.append_nil] at *;simp only [List.length_append,List.length_take,List.length_drop] at *;omega) ?_;intro w2 zx r2 g2 z2))
 all_goals go_ret
 all_goals
  have q:=r2.own (n:=i) (c:=i+1) hbg.out (by have h3:=hl.out;simp only [List.length_append,List.length_take,List.length_drop,List.length_singleton,List.length_nil] at *;omega) hc3.out (by omega)
  have e:((l.take i ++ [] ++ l.drop i).take i ++ [zx] ++ (l.take i ++ [] ++ l.drop i).drop (i+1)).take i=l.take i:=by
   rw [List.append_nil,List.take_append_drop,List.append_assoc,List.take_append_of_le_length (by rw [List.length_take,hl.out];omega),List.take_take,Nat.min_self]
  rw [e] at q
  exact ⟨rfl,q,⟨g2.os.trans T.out.os,g2.tape.trans T.out.tape,g2.output.trans T.out.output,Nat.le_trans T.out.size g2.size,fun k hk hn=>(g2.block k (Nat.lt_of_lt_of_le hk T.out.size) hn).trans (T.out.block k hk hn)⟩,z2.trans Z1.out⟩
theorem deleteQ_any (base:Nat) (v:Value) (L:List Qx) (i:Nat) (w:World) (hbig:L.length<=1000) (hi:i<L.length) (hO:Hid (OwnK w base 45 4 v (cellsQ L))) :
  Calls Tryz.prog 167 #[v,.int .i64 i,.int .i64 ((i:Int)+1)] w fun e w'=>(∃ v',e = .returned v' /\ OwnK w' base 45 4 v' (cellsQ (L.eraseIdx i))/\v'.ownBlock=v.ownBlock)/\w.grownBy w' v.ownBlock/\w'.heap.size=w.heap.size:=by
 have hcl:(cellsQ L).length=L.length:=by simp [cellsQ]
 have hcc:cellsQ (L.eraseIdx i)=(cellsQ L).take i ++ (cellsQ L).drop (i+1):=by rw [List.eraseIdx_eq_take_drop_succ];simp [cellsQ,List.map_take,List.map_drop]
 obtain ⟨A,c,hv,_,hc1,hc2,hnw⟩:=hO.out.sl
 rw [hcl] at hv hc1
 cases A with
 | none=>
  exfalso
  rcases hO.out.2.2 with ⟨hv',h0⟩ | ⟨g,cap,cur,hv',_⟩
  ·omega
  ·rw [hv] at hv';injection hv' with e;cases e
 | some a=>
  obtain ⟨g,rfl⟩:∃ g,a=⟨g,0,none⟩:=by
   rcases hO.out.2.2 with ⟨hv',h0⟩ | ⟨g,cap,cur,hv',_⟩
   ·omega
   ·rw [hv] at hv';injection hv' with e;injection e with e;exact ⟨g,e⟩
  subst hv
  obtain ⟨S,hR,hS,_,hc3,hbg⟩:=OwnK.whole (l:=cellsQ L) hO.out
  rw [hcl] at hS
  by_cases hc:c=i+1
  ·subst hc
   have hn:L.length=i+1:=by omega
   have hS0:S=[]:=List.length_eq_zero_iff.1 (by omega)
   subst hS0
   rw [List.append_nil] at hR
   rw [hn]
   refine (deleteQ_near base g i (cellsQ L) w (show _=_ from hcl.trans hn) (by omega) hR hbg hc3).mono ?_
   rintro e w' ⟨rfl,h1,h2,h3⟩
   refine ⟨⟨_,rfl,?_,rfl⟩,h2,h3⟩
   rw [hcc,List.drop_of_length_le (by omega),List.append_nil]
   exact h1
  ·refine (deleteQ_far base g L.length c i (cellsQ L) S w hcl hbig hi hR hS hc1 hbg (by unfold maxLen at hc3;omega) hc3 (cellsQ_one L) hc).mono ?_
   rintro e w' ⟨rfl,h1,h2,h3⟩
   exact ⟨⟨_,rfl,by rw [hcc];exact h1,rfl⟩,h2,h3⟩


theorem deleteM_far (base g n c i:Nat) (l S:List (List Value)) (w:World) (hl:Hid (l.length=n)) (hbig:n<=1000) (hi:i<n) (hR:Hid (RowKg w g 60 7 (l ++ S))) (hS:Hid (n+S.length=c)) (hnc:n<=c) (hbg:Hid (base<=g)) (hc2:c<=9223372036854775807) (hc3:Hid (c<=maxLen))
  (h1:Hid (∀ x ∈ l,∀ u ∈ x,u.oneCell' = true)) (hce:¬ (c=i+1)) :
  Calls Tryz.prog 162 #[.slice (some ⟨g,0,none⟩) n c,.int .i64 i,.int .i64 ((i:Int)+1)] w fun e w'=>e = .returned (.slice (some ⟨g,0,none⟩) (n - 1) c)/\OwnK w' base 60 7 (.slice (some ⟨g,0,none⟩) (n - 1) c) (l.take i ++ l.drop (i+1))/\w.grownBy w' (some g)/\w'.heap.size=w.heap.size:=by
 have hL:Hid ((l ++ S).length=c):=by show _=_;rw [List.length_append,hl.out];exact hS.out
 have hD:Hid ((l.drop (i+1)).length=n - (i+1)):=by show _=_;rw [List.length_drop,hl.out]
 have hP:Hid (∀ j u,(l.drop (i+1)).flatten[j]? = some u->w.drew.cell? ((⟨g,(i+1) * 7,none⟩:Addr).add j)=some u):=by
  have:=hR.out.drew.part (i+1) (n - (i+1))
  rw [List.drop_append_of_le_length (by have:=hl.out;omega),List.take_append_of_le_length (by rw [hD.out];exact Nat.le_refl _),List.take_of_length_le (by rw [hD.out];exact Nat.le_refl _)] at this
  exact this
 have hne1:((i:Int) == (i:Int)+1)=false:=by simp;omega
 have hb1:(0:Int)<=(i:Int)+1:=by omega
 have hin:i<=n:=by omega
 have htn:((i:Int)+1).toNat=i+1:=by omega
 have hb3:(i:Int)+1<=(n:Int):=by omega
 have hb4:¬ (n=i):=by omega
 have hb5:¬ (c=i):=by omega
 have hic:i<=c:=by omega
 have hnm:n - 1<=n:=by omega
 have hb6:¬ (c=n - 1):=by omega
 have hb7:(i:Int)<=(i:Int)+1:=by omega
 have hb8:(n:Int)<=(c:Int):=by omega
 go_enter Tryz.func162,Tryz.ntmps162
 go_wp2_with fail
 go_region_law (refine step_room_k rfl (.tmp 22) (.tmp 25) 27 rfl 60 7 Tryz.underlying27 (by kernel_rfl) g i c (l ++ S) hR.out.drew (by simp [Act.eval,Act.put]) ⟨g,(i+1) * 7,none⟩ (n - (i+1)) (c - (i+1)) (by simp [Act.eval,Act.put]) (l.drop (i+1)) (fun y hy=>hR.out.each y (List.mem_append_left _ (List.mem_of_mem_drop hy))) (fun y hy=>h1.out y (List.mem_of_mem_drop hy)) hD.out.symm hP.out (n - 1) (by omega) (by omega) (by rw [hL.out];omega) ?_;intro w1 r1 g1 z1)
 have T:=Lib.hid (drew_grown g1)
 have R1:=Lib.hid r1
 have Z1:Hid (w1.heap.size=w.heap.size):=z1
 clear g1 r1 z1
 go_wp2_with (first
  | (with_reducible refine clear1_k _ rfl (.tmp 31) 27 rfl 60 _ 7 80 Tryz.underlying27 infoM15 rfl (by omega) zoneM15 g (n - 1) ((n - 1) * 7) _ rfl _ R1.out _ rfl (by omega) (by have h1:=hL.out;have h2:=hD.out;have h3:=hl.out;have h4:=hS.out;simp only [List.length_append,List.length_take,List.length_drop] at *;omega) ?_;intro w2 zx r2 g2 z2))
 all_goals go_ret
 all_goals
  have q:=r2.own (n:=n - 1) (c:=c) hbg.out (by have h1:=hL.out;have h2:=hD.out;have h3:=hl.out;have h4:=hS.out;simp only [List.length_append,List.length_take,List.length_drop,List.length_singleton] at *;omega) hc3.out (by omega)
  rw [del_mid hl.out hi] at q
  exact ⟨rfl,q,⟨g2.os.trans T.out.os,g2.tape.trans T.out.tape,g2.output.trans T.out.output,Nat.le_trans T.out.size g2.size,fun k hk hn=>(g2.block k (Nat.lt_of_lt_of_le hk T.out.size) hn).trans (T.out.block k hk hn)⟩,z2.trans Z1.out⟩


theorem deleteM_near (base g i:Nat) (l:List (List Value)) (w:World) (hl:Hid (l.length=i+1)) (hbig:i+1<=1000) (hR:Hid (RowKg w g 60 7 l)) (hbg:Hid (base<=g)) (hc3:Hid (i+1<=maxLen)) :
  Calls Tryz.prog 162 #[.slice (some ⟨g,0,none⟩) (i+1) (i+1),.int .i64 i,.int .i64 ((i:Int)+1)] w fun e w'=>e = .returned (.slice (some ⟨g,0,none⟩) i (i+1))/\OwnK w' base 60 7 (.slice (some ⟨g,0,none⟩) i (i+1)) (l.take i)/\w.grownBy w' (some g)/\w'.heap.size=w.heap.size:=by
 have hne1:((i:Int) == (i:Int)+1)=false:=by simp;omega
 have hb1:(0:Int)<=(i:Int)+1:=by omega
 have htn:((i:Int)+1).toNat=i+1:=by omega
 have hb3:(i:Int)+1<=(i:Int)+1:=by omega
 have hic:i<=i+1:=by omega
 have hb6:¬ (i+1=i):=by omega
 have hb7:(i:Int)<=(i:Int)+1:=by omega
 go_enter Tryz.func162,Tryz.ntmps162
 go_wp2_with fail
 go_region_law (refine step_room_k rfl (.tmp 22) (.tmp 25) 27 rfl 60 7 Tryz.underlying27 (by kernel_rfl) g i (i+1) l hR.out.drew (by simp [Act.eval,Act.put]) ⟨g,0,none⟩ 0 0 (by simp [Act.eval,Act.put]) [] (by simp) (by simp) rfl (by simp) i (by omega) (by omega) (by rw [hl.out];omega) ?_;intro w1 r1 g1 z1)
 have T:=Lib.hid (drew_grown g1)
 have R1:=Lib.hid r1
 have Z1:Hid (w1.heap.size=w.heap.size):=z1
 clear g1 r1 z1
 go_wp2_with (first
  | (with_reducible refine clear1_k _ rfl (.tmp 31) 27 rfl 60 _ 7 80 Tryz.underlying27 infoM15 rfl (by omega) zoneM15 g i (i * 7) _ rfl _ R1.out _ rfl (by omega) (by have h3:=hl.out;simp only [List.append_nil] at *;simp only [List.length_append,List.length_take,List.length_drop] at *;omega) ?_;intro w2 zx r2 g2 z2))
 all_goals go_ret
 all_goals
  have q:=r2.own (n:=i) (c:=i+1) hbg.out (by have h3:=hl.out;simp only [List.length_append,List.length_take,List.length_drop,List.length_singleton,List.length_nil] at *;omega) hc3.out (by omega)
  have e:((l.take i ++ [] ++ l.drop i).take i ++ [zx] ++ (l.take i ++ [] ++ l.drop i).drop (i+1)).take i=l.take i:=by
   rw [List.append_nil,List.take_append_drop,List.append_assoc,List.take_append_of_le_length (by rw [List.length_take,hl.out];omega),List.take_take,Nat.min_self]
  rw [e] at q
  exact ⟨rfl,q,⟨g2.os.trans T.out.os,g2.tape.trans T.out.tape,g2.output.trans T.out.output,Nat.le_trans T.out.size g2.size,fun k hk hn=>(g2.block k (Nat.lt_of_lt_of_le hk T.out.size) hn).trans (T.out.block k hk hn)⟩,z2.trans Z1.out⟩
theorem deleteM_any (base:Nat) (v:Value) (L:List Mc) (i:Nat) (w:World) (hbig:L.length<=1000) (hi:i<L.length) (hO:Hid (OwnK w base 60 7 v (cellsM L))) :
  Calls Tryz.prog 162 #[v,.int .i64 i,.int .i64 ((i:Int)+1)] w fun e w'=>(∃ v',e = .returned v' /\ OwnK w' base 60 7 v' (cellsM (L.eraseIdx i))/\v'.ownBlock=v.ownBlock)/\w.grownBy w' v.ownBlock/\w'.heap.size=w.heap.size:=by
 have hcl:(cellsM L).length=L.length:=by simp [cellsM]
 have hcc:cellsM (L.eraseIdx i)=(cellsM L).take i ++ (cellsM L).drop (i+1):=by rw [List.eraseIdx_eq_take_drop_succ];simp [cellsM,List.map_take,List.map_drop]
 obtain ⟨A,c,hv,_,hc1,hc2,hnw⟩:=hO.out.sl
 rw [hcl] at hv hc1
 cases A with
 | none=>
  exfalso
  rcases hO.out.2.2 with ⟨hv',h0⟩ | ⟨g,cap,cur,hv',_⟩
  ·omega
  ·rw [hv] at hv';injection hv' with e;cases e
 | some a=>
  obtain ⟨g,rfl⟩:∃ g,a=⟨g,0,none⟩:=by
   rcases hO.out.2.2 with ⟨hv',h0⟩ | ⟨g,cap,cur,hv',_⟩
   ·omega
   ·rw [hv] at hv';injection hv' with e;injection e with e;exact ⟨g,e⟩
  subst hv
  obtain ⟨S,hR,hS,_,hc3,hbg⟩:=OwnK.whole (l:=cellsM L) hO.out
  rw [hcl] at hS
  by_cases hc:c=i+1
  ·subst hc
   have hn:L.length=i+1:=by omega
   have hS0:S=[]:=List.length_eq_zero_iff.1 (by omega)
   subst hS0
   rw [List.append_nil] at hR
   rw [hn]
   refine (deleteM_near base g i (cellsM L) w (show _=_ from hcl.trans hn) (by omega) hR hbg hc3).mono ?_
   rintro e w' ⟨rfl,h1,h2,h3⟩
   refine ⟨⟨_,rfl,?_,rfl⟩,h2,h3⟩
   rw [hcc,List.drop_of_length_le (by omega),List.append_nil]
   exact h1
  ·refine (deleteM_far base g L.length c i (cellsM L) S w hcl hbig hi hR hS hc1 hbg (by unfold maxLen at hc3;omega) hc3 (cellsM_one L) hc).mono ?_
   rintro e w' ⟨rfl,h1,h2,h3⟩
   exact ⟨⟨_,rfl,by rw [hcc];exact h1,rfl⟩,h2,h3⟩


theorem deleteJ_far (base g n c i:Nat) (l S:List (List Value)) (w:World) (hl:Hid (l.length=n)) (hbig:n<=1000) (hi:i<n) (hR:Hid (RowKg w g 66 13 (l ++ S))) (hS:Hid (n+S.length=c)) (hnc:n<=c) (hbg:Hid (base<=g)) (hc2:c<=9223372036854775807) (hc3:Hid (c<=maxLen))
  (h1:Hid (∀ x ∈ l,∀ u ∈ x,u.oneCell' = true)) (hce:¬ (c=i+1)) :
  Calls Tryz.prog 168 #[.slice (some ⟨g,0,none⟩) n c,.int .i64 i,.int .i64 ((i:Int)+1)] w fun e w'=>e = .returned (.slice (some ⟨g,0,none⟩) (n - 1) c)/\OwnK w' base 66 13 (.slice (some ⟨g,0,none⟩) (n - 1) c) (l.take i ++ l.drop (i+1))/\w.grownBy w' (some g)/\w'.heap.size=w.heap.size:=by
 have hL:Hid ((l ++ S).length=c):=by show _=_;rw [List.length_append,hl.out];exact hS.out
 have hD:Hid ((l.drop (i+1)).length=n - (i+1)):=by show _=_;rw [List.length_drop,hl.out]
 have hP:Hid (∀ j u,(l.drop (i+1)).flatten[j]? = some u->w.drew.cell? ((⟨g,(i+1) * 13,none⟩:Addr).add j)=some u):=by
  have:=hR.out.drew.part (i+1) (n - (i+1))
  rw [List.drop_append_of_le_length (by have:=hl.out;omega),List.take_append_of_le_length (by rw [hD.out];exact Nat.le_refl _),List.take_of_length_le (by rw [hD.out];exact Nat.le_refl _)] at this
  exact this
 have hne1:((i:Int) == (i:Int)+1)=false:=by simp;omega
 have hb1:(0:Int)<=(i:Int)+1:=by omega
 have hin:i<=n:=by omega
 have htn:((i:Int)+1).toNat=i+1:=by omega
 have hb3:(i:Int)+1<=(n:Int):=by omega
 have hb4:¬ (n=i):=by omega
 have hb5:¬ (c=i):=by omega
 have hic:i<=c:=by omega
 have hnm:n - 1<=n:=by omega
 have hb6:¬ (c=n - 1):=by omega
 have hb7:(i:Int)<=(i:Int)+1:=by omega
 have hb8:(n:Int)<=(c:Int):=by omega
 go_enter Tryz.func168,Tryz.ntmps168
 go_wp2_with fail
 go_region_law (refine step_room_k rfl (.tmp 22) (.tmp 25) 29 rfl 66 13 Tryz.underlying29 (by kernel_rfl) g i c (l ++ S) hR.out.drew (by simp [Act.eval,Act.put]) ⟨g,(i+1) * 13,none⟩ (n - (i+1)) (c - (i+1)) (by simp [Act.eval,Act.put]) (l.drop (i+1)) (fun y hy=>hR.out.each y (List.mem_append_left _ (List.mem_of_mem_drop hy))) (fun y hy=>h1.out y (List.mem_of_mem_drop hy)) hD.out.symm hP.out (n - 1) (by omega) (by omega) (by rw [hL.out];omega) ?_;intro w1 r1 g1 z1)
 have T:=Lib.hid (drew_grown g1)
 have R1:=Lib.hid r1
 have Z1:Hid (w1.heap.size=w.heap.size):=z1
 clear g1 r1 z1
 go_wp2_with (first
  | (with_reducible refine clear1_k _ rfl (.tmp 31) 29 rfl 66 _ 13 160 Tryz.underlying29 infoJ15 rfl (by omega) zoneJ15 g (n - 1) ((n - 1) * 13) _ rfl _ R1.out _ rfl (by omega) (by have h1:=hL.out;have h2:=hD.out;have h3:=hl.out;have h4:=hS.out;simp only [List.length_append,List.length_take,List.length_drop] at *;omega) ?_;intro w2 zx r2 g2 z2))
 all_goals go_ret
 all_goals
  have q:=r2.own (n:=n - 1) (c:=c) hbg.out (by have h1:=hL.out;have h2:=hD.out;have h3:=hl.out;have h4:=hS.out;simp only [List.length_append,List.length_take,List.length_drop,List.length_singleton] at *;omega) hc3.out (by omega)
  rw [del_mid hl.out hi] at q
  exact ⟨rfl,q,⟨g2.os.trans T.out.os,g2.tape.trans T.out.tape,g2.output.trans T.out.output,Nat.le_trans T.out.size g2.size,fun k hk hn=>(g2.block k (Nat.lt_of_lt_of_le hk T.out.size) hn).trans (T.out.block k hk hn)⟩,z2.trans Z1.out⟩


theorem deleteJ_near (base g i:Nat) (l:List (List Value)) (w:World) (hl:Hid (l.length=i+1)) (hbig:i+1<=1000) (hR:Hid (RowKg w g 66 13 l)) (hbg:Hid (base<=g)) (hc3:Hid (i+1<=maxLen)) :
  Calls Tryz.prog 168 #[.slice (some ⟨g,0,none⟩) (i+1) (i+1),.int .i64 i,.int .i64 ((i:Int)+1)] w fun e w'=>e = .returned (.slice (some ⟨g,0,none⟩) i (i+1))/\OwnK w' base 66 13 (.slice (some ⟨g,0,none⟩) i (i+1)) (l.take i)/\w.grownBy w' (some g)/\w'.heap.size=w.heap.size:=by
 have hne1:((i:Int) == (i:Int)+1)=false:=by simp;omega
 have hb1:(0:Int)<=(i:Int)+1:=by omega
 have htn:((i:Int)+1).toNat=i+1:=by omega
 have hb3:(i:Int)+1<=(i:Int)+1:=by omega
 have hic:i<=i+1:=by omega
 have hb6:¬ (i+1=i):=by omega
 have hb7:(i:Int)<=(i:Int)+1:=by omega
 go_enter Tryz.func168,Tryz.ntmps168
 go_wp2_with fail
 go_region_law (refine step_room_k rfl (.tmp 22) (.tmp 25) 29 rfl 66 13 Tryz.underlying29 (by kernel_rfl) g i (i+1) l hR.out.drew (by simp [Act.eval,Act.put]) ⟨g,0,none⟩ 0 0 (by simp [Act.eval,Act.put]) [] (by simp) (by simp) rfl (by simp) i (by omega) (by omega) (by rw [hl.out];omega) ?_;intro w1 r1 g1 z1)
 have T:=Lib.hid (drew_grown g1)
 have R1:=Lib.hid r1
 have Z1:Hid (w1.heap.size=w.heap.size):=z1
 clear g1 r1 z1
 go_wp2_with (first
  | (with_reducible refine clear1_k _ rfl (.tmp 31) 29 rfl 66 _ 13 160 Tryz.underlying29 infoJ15 rfl (by omega) zoneJ15 g i (i * 13) _ rfl _ R1.out _ rfl (by omega) (by have h3:=hl.out;simp only [List.append_nil] at *;simp only [List.length_append,List.length_take,List.length_drop] at *;omega) ?_;intro w2 zx r2 g2 z2))
 all_goals go_ret
 all_goals
  have q:=r2.own (n:=i) (c:=i+1) hbg.out (by have h3:=hl.out;simp only [List.length_append,List.length_take,List.length_drop,List.length_singleton,List.length_nil] at *;omega) hc3.out (by omega)
  have e:((l.take i ++ [] ++ l.drop i).take i ++ [zx] ++ (l.take i ++ [] ++ l.drop i).drop (i+1)).take i=l.take i:=by
   rw [List.append_nil,List.take_append_drop,List.append_assoc,List.take_append_of_le_length (by rw [List.length_take,hl.out];omega),List.take_take,Nat.min_self]
  rw [e] at q
  exact ⟨rfl,q,⟨g2.os.trans T.out.os,g2.tape.trans T.out.tape,g2.output.trans T.out.output,Nat.le_trans T.out.size g2.size,fun k hk hn=>(g2.block k (Nat.lt_of_lt_of_le hk T.out.size) hn).trans (T.out.block k hk hn)⟩,z2.trans Z1.out⟩
theorem deleteJ_any (base:Nat) (v:Value) (L:List Jb) (i:Nat) (w:World) (hbig:L.length<=1000) (hi:i<L.length) (hO:Hid (OwnK w base 66 13 v (cellsJ L))) :
  Calls Tryz.prog 168 #[v,.int .i64 i,.int .i64 ((i:Int)+1)] w fun e w'=>(∃ v',e = .returned v' /\ OwnK w' base 66 13 v' (cellsJ (L.eraseIdx i))/\v'.ownBlock=v.ownBlock)/\w.grownBy w' v.ownBlock/\w'.heap.size=w.heap.size:=by
 have hcl:(cellsJ L).length=L.length:=by simp [cellsJ]
 have hcc:cellsJ (L.eraseIdx i)=(cellsJ L).take i ++ (cellsJ L).drop (i+1):=by rw [List.eraseIdx_eq_take_drop_succ];simp [cellsJ,List.map_take,List.map_drop]
 obtain ⟨A,c,hv,_,hc1,hc2,hnw⟩:=hO.out.sl
 rw [hcl] at hv hc1
 cases A with
 | none=>
  exfalso
  rcases hO.out.2.2 with ⟨hv',h0⟩ | ⟨g,cap,cur,hv',_⟩
  ·omega
  ·rw [hv] at hv';injection hv' with e;cases e
 | some a=>
  obtain ⟨g,rfl⟩:∃ g,a=⟨g,0,none⟩:=by
   rcases hO.out.2.2 with ⟨hv',h0⟩ | ⟨g,cap,cur,hv',_⟩
   ·omega
   ·rw [hv] at hv';injection hv' with e;injection e with e;exact ⟨g,e⟩
  subst hv
  obtain ⟨S,hR,hS,_,hc3,hbg⟩:=OwnK.whole (l:=cellsJ L) hO.out
  rw [hcl] at hS
  by_cases hc:c=i+1
  ·subst hc
   have hn:L.length=i+1:=by omega
   have hS0:S=[]:=List.length_eq_zero_iff.1 (by omega)
   subst hS0
   rw [List.append_nil] at hR
   rw [hn]
   refine (deleteJ_near base g i (cellsJ L) w (show _=_ from hcl.trans hn) (by omega) hR hbg hc3).mono ?_
   rintro e w' ⟨rfl,h1,h2,h3⟩
   refine ⟨⟨_,rfl,?_,rfl⟩,h2,h3⟩
   rw [hcc,List.drop_of_length_le (by omega),List.append_nil]
   exact h1
  ·refine (deleteJ_far base g L.length c i (cellsJ L) S w hcl hbig hi hR hS hc1 hbg (by unfold maxLen at hc3;omega) hc3 (cellsJ_one L) hc).mono ?_
   rintro e w' ⟨rfl,h1,h2,h3⟩
   exact ⟨⟨_,rfl,by rw [hcc];exact h1,rfl⟩,h2,h3⟩
end
end Go.Proofs.YtccccbofcnmdiaaGreat
