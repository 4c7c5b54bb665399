/- Lemmas that the law stands on. No condition. -/
import Derived.Test.YtccccbofcnmdiaaGreatK07
namespace Go.Proofs.YtccccbofcnmdiaaGreat
set_option linter.unusedSimpArgs false
set_option linter.unusedVariables false
set_option maxRecDepth 100000
set_option maxHeartbeats 51200000
section
open Go.RowKit
section
variable {P:Program}
theorem room_k_op (w:World){o:Oper}{a:Act}{K:Act->World->Prop}{Q:Exit->Act->World->Prop}(s x:Operand)(t:TypeId)(hop:o.op=Op.call { callee:=Callee.builtin Builtin.append,args:=#[s,x],argTypes:=#[t,t] })
  (e:TypeId) (k:Nat)(hu:P.underlying t=some (.slice e))(hs:(P.info? e).map (·.size)=some k) (g d c:Nat)(L:List (List Value))(hr:RowKg w g e k L)(hd:a.eval s = .slice (some ⟨g,0,none⟩) d c)
  (A:Addr) (m cm:Nat)(hx:a.eval x = .slice (some A) m cm)(X:List (List Value))(hX:∀ x ∈ X,x.length=k)(h1:∀ x ∈ X,∀ u ∈ x,u.oneCell' = true)(hm:m=X.length)
  (hsrc:∀ j u,X.flatten[j]? = some u->w.cell? (A.add j)=some u) (nm:Nat)(hnm:d+m=nm)(hroom:nm<=c)(hfit:nm<=L.length)
  (hK:∀ w',RowKg w' g e k (L.take d ++ X ++ L.drop nm)->w.grownBy w' (some g)->w'.heap.size=w.heap.size->K (a.put o.dst (.slice (some ⟨g,0,none⟩) nm c)) w'):o.wp P a w K Q:=by
 subst hnm hm
 have hXl:X.flatten.length=X.length * k:=flat_length hX
 have hLl:L.flatten.length=L.length * k:=flat_length hr.each
 cases hq:P.info? e with
 | none=>simp [hq] at hs
 | some i=>
  have hi:i.size=k:=by simpa [hq] using hs
  subst hi
  have hle:d * i.size+X.flatten.length<=L.flatten.toArray.size:=by
   rw [List.size_toArray,hXl,hLl,<- Nat.add_mul]
   exact Nat.mul_le_mul_right _ hfit
  have hrun:=run_append_room (P:=P) w t o.type e i hu hq g d c L.flatten.toArray hr.row A X.length cm X.flatten hXl hsrc (fun u hu'=>by
   obtain ⟨y,hy,hu''⟩:=List.mem_flatten.1 hu'
   exact h1 y hy u hu'') hroom hle
  unfold Oper.wp
  simp [execOp,hop,resolve,invoke,builtin,hd,hx,Result.andThen]
  simp [hrun,Result.andThen]
  refine hK _ ⟨?_,fun x hx=>?_⟩ (grown_setRow _ _ _) (by simp)
  ·have h:=setRow_heap w g _ (L.flatten.take (d * i.size) ++ (X.flatten ++ L.flatten.drop (d * i.size+X.flatten.length))).toArray e (0,0) hr.row
   rw [List.flatten_append,List.flatten_append,flat_take hr.each,flat_drop hr.each,Nat.add_mul,<- hXl,List.append_assoc]
   simpa using h
  ·rcases List.mem_append.1 hx with hx | hx
   ·rcases List.mem_append.1 hx with hx | hx
    ·exact hr.each x (List.mem_of_mem_take hx)
    ·exact hX x hx
   ·exact hr.each x (List.mem_of_mem_drop hx)
theorem step_room_k {ops:Array Oper}{o:Oper}{a:Act}{w:World}{K:Act->World->Prop}{Q:Exit->Act->World->Prop}{E:Prop}(hg:o.guard=none)(s x:Operand)(t:TypeId)(hop:o.op=Op.call { callee:=Callee.builtin Builtin.append,args:=#[s,x],argTypes:=#[t,t] })
  (e:TypeId) (k:Nat)(hu:P.underlying t=some (.slice e))(hs:(P.info? e).map (·.size)=some k) (g d c:Nat)(L:List (List Value))(hr:RowKg w g e k L)(hd:a.eval s = .slice (some ⟨g,0,none⟩) d c)
  (A:Addr) (m cm:Nat)(hx:a.eval x = .slice (some A) m cm)(X:List (List Value))(hX:∀ x ∈ X,x.length=k)(h1:∀ x ∈ X,∀ u ∈ x,u.oneCell' = true)(hm:m=X.length)
  (hsrc:∀ j u,X.flatten[j]? = some u->w.cell? (A.add j)=some u) (nm:Nat)(hnm:d+m=nm)(hroom:nm<=c)(hfit:nm<=L.length)
  (hK:∀ w',RowKg w' g e k (L.take d ++ X ++ L.drop nm)->w.grownBy w' (some g)->w'.heap.size=w.heap.size->K (a.put o.dst (.slice (some ⟨g,0,none⟩) nm c)) w') :
  if Region.wanted o (yielded ops a.tmps)=true then Oper.wp P o a w K Q else E:=by
 rw [if_pos (by simp [Region.wanted,hg])]
 exact room_k_op w s x t hop e k hu hs g d c L hr hd A m cm hx X hX h1 hm hsrc nm hnm hroom hfit hK
theorem clear1_k {ops:Array Oper}{rest:List Oper}(w:World){o:Oper}{a:Act}{Q:Exit->Act->World->Prop}(hw:Region.wanted o (yielded ops a.tmps)=true)(x:Operand)(t:TypeId)(hop:o.op=Op.call { callee:=Callee.builtin Builtin.clear,args:=#[x],argTypes:=#[t] })
  (e:TypeId)(z:Value) (k b:Nat)(hu:P.underlying t=some (.slice e))(h2:(P.info? e).map (fun i=>(i.zero,i.size,i.bytes))=some (some z,k,b))(hz:z.cells.size=k)(hk:0<k)(h1:∀ u ∈ z.cells.toList,u.oneCell' = true)
  (g d dk cm:Nat)(hdk:dk=d * k)(L:List (List Value))(hr:RowKg w g e k L) (on:Nat)(hx:a.eval x = .slice (some ⟨g,dk,none⟩) on cm)(hon:on=1)(hfit:d+1<=L.length)
  (hK:∀ w' zx,RowKg w' g e k (L.take d ++ [zx] ++ L.drop (d+1))->w.grownBy w' (some g)->w'.heap.size=w.heap.size->wpList P ops Q rest (a.put o.dst (.tuple #[])) w'):wpList P ops Q (o :: rest) a w:=
 BigFrame.wpList_want hw fun K hKK=>by
  subst hdk hon
  obtain ⟨i,hi,hiz,his,hib⟩:=info_partsK h2
  have hLl:L.flatten.length=L.length * k:=flat_length hr.each
  have hzc:(Builtin.zeroCells z.cells 1).toList=z.cells.toList:=by
   apply List.ext_getElem
   ·simp [Builtin.zeroCells]
   ·intro j h1 h2
    have hj:j<z.cells.size:=by simpa using h2
    simp [Builtin.zeroCells,Nat.mod_eq_of_lt hj,hj]
  have hzl:z.cells.toList.length=k:=by simpa using hz
  have hst:=run_storeCells_at P g (d * k) e z.cells.toList 0 L.flatten.toArray w hr.row (by
   rw [List.size_toArray,hLl,hzl,Nat.add_zero]
   have:=Nat.mul_le_mul_right k hfit
   rw [Nat.add_mul] at this;omega) h1
  unfold Oper.wp
  simp only [Nat.add_zero] at hst
  have hrun:(Builtin.clear_ #[t] o.type #[.slice (some ⟨g,d * k,none⟩) 1 cm]).run P w = .ok (.tuple #[]) (w.setRow g (L.flatten.take (d * k) ++ z.cells.toList ++ L.flatten.drop (d * k+z.cells.toList.length)).toArray):=by
   simp [Builtin.clear_,run_underlying hu,zeroValue,typeInfo,hi,hiz,hzc,hst]
  simp [execOp,hop,resolve,invoke,builtin,hx,Result.andThen]
  simp only [hrun]
  refine hKK _ _ (hK _ z.cells.toList ⟨?_,fun y hy=>?_⟩ (grown_setRow _ _ _) (by simp))
  ·rw [setRow_heap w g _ _ e (0,0) hr.row]
   congr 3
   rw [List.flatten_append,List.flatten_append,flat_take hr.each,flat_drop hr.each,Nat.add_mul,hzl]
   simp
  ·rcases List.mem_append.1 hy with hy | hy
   ·rcases List.mem_append.1 hy with hy | hy
    ·exact hr.each y (List.mem_of_mem_take hy)
    ·rw [List.mem_singleton.1 hy];exact hzl
   ·exact hr.each y (List.mem_of_mem_drop hy)
end
theorem zoneM15:∀ u ∈ ((.agg #[.string ⟨#[]⟩,.int .i64 0,.int .i64 0,.int .i64 0,.slice none 0 0,.bool false,.int .i64 0]:Value).cells).toList,u.oneCell' = true:=by
 have h:(((.agg #[.string ⟨#[]⟩,.int .i64 0,.int .i64 0,.int .i64 0,.slice none 0 0,.bool false,.int .i64 0]:Value).cells).toList.all fun u=>u.oneCell')=true:=by rfl
 exact List.all_eq_true.1 h
theorem zoneQ15:∀ u ∈ ((.agg #[.string ⟨#[]⟩,.int .i64 0,.int .i64 0,.int .i64 0]:Value).cells).toList,u.oneCell' = true:=by
 have h:(((.agg #[.string ⟨#[]⟩,.int .i64 0,.int .i64 0,.int .i64 0]:Value).cells).toList.all fun u=>u.oneCell')=true:=by rfl
 exact List.all_eq_true.1 h
theorem zoneJ15:∀ u ∈ ((.agg #[.string ⟨#[]⟩,.string ⟨#[]⟩,.int .i64 0,.int .i64 0,.int .i64 0,.int .i64 0,.slice none 0 0,.string ⟨#[]⟩,.string ⟨#[]⟩,.int .i64 0,.int .i64 0,.string ⟨#[]⟩,.int .i64 0]:Value).cells).toList,u.oneCell' = true:=by
 have h:(((.agg #[.string ⟨#[]⟩,.string ⟨#[]⟩,.int .i64 0,.int .i64 0,.int .i64 0,.int .i64 0,.slice none 0 0,.string ⟨#[]⟩,.string ⟨#[]⟩,.int .i64 0,.int .i64 0,.string ⟨#[]⟩,.int .i64 0]:Value).cells).toList.all fun u=>u.oneCell')=true:=by rfl
 exact List.all_eq_true.1 h
theorem del_mid {l S:List (List Value)}{y:List Value}{n i:Nat}(hl:l.length=n)(hi:i<n) :
  (((l ++ S).take i ++ l.drop (i+1) ++ (l ++ S).drop (n - 1)).take (n - 1) ++ [y] ++ ((l ++ S).take i ++ l.drop (i+1) ++ (l ++ S).drop (n - 1)).drop (n - 1+1)).take (n - 1)=l.take i ++ l.drop (i+1):=by
 have e0:(l ++ S).take i=l.take i:=List.take_append_of_le_length (by omega)
 rw [e0,List.append_assoc,List.take_append_of_le_length (by simp only [List.length_append,List.length_take,List.length_drop];omega),List.take_take,Nat.min_self,List.take_append_of_le_length (by simp only [List.length_append,List.length_take,List.length_drop];omega),List.take_of_length_le (by simp only [List.length_append,List.length_take,List.length_drop];omega)]


theorem deleteQ_far (base g n c i:Nat)(l S:List (List Value))(w:World)(hl:Hid (l.length=n))(hbig:n<=1000)(hi:i<n)(hR:Hid (RowKg w g 45 4 (l ++ S)))(hS:Hid (n+S.length=c))(hnc:n<=c)(hbg:Hid (base<=g))(hc2:c<=9223372036854775807)(hc3:Hid (c<=maxLen))
  (h1:Hid (∀ x ∈ l,∀ u ∈ x,u.oneCell' = true))(hce:¬ (c=i+1)) :
  Calls Tryz.prog 167 #[.slice (some ⟨g,0,none⟩) n c,.int .i64 i,.int .i64 ((i:Int)+1)] w fun e w'=>e = .returned (.slice (some ⟨g,0,none⟩) (n - 1) c)/\OwnK w' base 45 4 (.slice (some ⟨g,0,none⟩) (n - 1) c) (l.take i ++ l.drop (i+1))/\w.grownBy w' (some g)/\w'.heap.size=w.heap.size:=by
 have hL:Hid ((l ++ S).length=c):=by show _=_;rw [List.length_append,hl.out];exact hS.out
 have hD:Hid ((l.drop (i+1)).length=n - (i+1)):=by show _=_;rw [List.length_drop,hl.out]
 have hP:Hid (∀ j u,(l.drop (i+1)).flatten[j]? = some u->w.drew.cell? ((⟨g,(i+1) * 4,none⟩:Addr).add j)=some u):=by
  have:=hR.out.drew.part (i+1) (n - (i+1))
  rw [List.drop_append_of_le_length (by have:=hl.out;omega),List.take_append_of_le_length (by rw [hD.out];exact Nat.le_refl _),List.take_of_length_le (by rw [hD.out];exact Nat.le_refl _)] at this
  exact this
 have hne1:((i:Int) == (i:Int)+1)=false:=by simp;omega
 have hb1:(0:Int)<=(i:Int)+1:=by omega
 have hin:i<=n:=by omega
 have htn:((i:Int)+1).toNat=i+1:=by omega
 have hb3:(i:Int)+1<=(n:Int):=by omega
 have hb4:¬ (n=i):=by omega
 have hb5:¬ (c=i):=by omega
 have hic:i<=c:=by omega
 have hnm:n - 1<=n:=by omega
 have hb6:¬ (c=n - 1):=by omega
 have hb7:(i:Int)<=(i:Int)+1:=by omega
 have hb8:(n:Int)<=(c:Int):=by omega
 go_enter Tryz.func167,Tryz.ntmps167
 go_wp2_with fail
 go_region_law (refine step_room_k rfl (.tmp 22) (.tmp 25) 28 rfl 45 4 Tryz.underlying28 (by kernel_rfl) g i c (l ++ S) hR.out.drew (by simp [Act.eval,Act.put]) ⟨g,(i+1) * 4,none⟩ (n - (i+1)) (c - (i+1)) (by simp [Act.eval,Act.put]) (l.drop (i+1)) (fun y hy=>hR.out.each y (List.mem_append_left _ (List.mem_of_mem_drop hy))) (fun y hy=>h1.out y (List.mem_of_mem_drop hy)) hD.out.symm hP.out (n - 1) (by omega) (by omega) (by rw [hL.out];omega) ?_;intro w1 r1 g1 z1)
 have T:=Lib.hid (drew_grown g1)
 have R1:=Lib.hid r1
 have Z1:Hid (w1.heap.size=w.heap.size):=z1
 clear g1 r1 z1
 go_wp2_with (first
  | (with_reducible refine clear1_k _ rfl (.tmp 31) 28 rfl 45 _ 4 40 Tryz.underlying28 infoQ15 rfl (by omega) zoneQ15 g (n - 1) ((n - 1) * 4) _ rfl _ R1.out _ rfl (by omega) (by have h1:=hL.out;have h2:=hD.out;have h3:=hl.out;have h4:=hS.out;simp only [List.length_append,List.length_take,List.length_drop] at *;omega) ?_;intro w2 zx r2 g2 z2))
 all_goals go_ret
 all_goals
  have q:=r2.own (n:=n - 1) (c:=c) hbg.out (by have h1:=hL.out;have h2:=hD.out;have h3:=hl.out;have h4:=hS.out;simp only [List.length_append,List.length_take,List.length_drop,List.length_singleton] at *;omega) hc3.out (by omega)
  rw [del_mid hl.out hi] at q
  exact ⟨rfl,q,⟨g2.os.trans T.out.os,g2.tape.trans T.out.tape,g2.output.trans T.out.output,Nat.le_trans T.out.size g2.size,fun k hk hn=>(g2.block k (Nat.lt_of_lt_of_le hk T.out.size) hn).trans (T.out.block k hk hn)⟩,z2.trans Z1.out⟩


theorem deleteQ_near (base g i:Nat)(l:List (List Value))(w:World)(hl:Hid (l.length=i+1))(hbig:i+1<=1000)(hR:Hid (RowKg w g 45 4 l))(hbg:Hid (base<=g))(hc3:Hid (i+1<=maxLen)) :
  Calls Tryz.prog 167 #[.slice (some ⟨g,0,none⟩) (i+1) (i+1),.int .i64 i,.int .i64 ((i:Int)+1)] w fun e w'=>e = .returned (.slice (some ⟨g,0,none⟩) i (i+1))/\OwnK w' base 45 4 (.slice (some ⟨g,0,none⟩) i (i+1)) (l.take i)/\w.grownBy w' (some g)/\w'.heap.size=w.heap.size:=by
 have hne1:((i:Int) == (i:Int)+1)=false:=by simp;omega
 have hb1:(0:Int)<=(i:Int)+1:=by omega
 have htn:((i:Int)+1).toNat=i+1:=by omega
 have hb3:(i:Int)+1<=(i:Int)+1:=by omega
 have hic:i<=i+1:=by omega
 have hb6:¬ (i+1=i):=by omega
 have hb7:(i:Int)<=(i:Int)+1:=by omega
 go_enter Tryz.func167,Tryz.ntmps167
 go_wp2_with fail
 go_region_law (refine step_room_k rfl (.tmp 22) (.tmp 25) 28 rfl 45 4 Tryz.underlying28 (by kernel_rfl) g i (i+1) l hR.out.drew (by simp [Act.eval,Act.put]) ⟨g,0,none⟩ 0 0 (by simp [Act.eval,Act.put]) [] (by simp) (by simp) rfl (by simp) i (by omega) (by omega) (by rw [hl.out];omega) ?_;intro w1 r1 g1 z1)
 have T:=Lib.hid (drew_grown g1)
 have R1:=Lib.hid r1
 have Z1:Hid (w1.heap.size=w.heap.size):=z1
 clear g1 r1 z1
 go_wp2_with (first
  | (with_reducible refine clear1_k _ rfl (.tmp 31) 28 rfl 45 _ 4 40 Tryz.underlying28 infoQ15 rfl (by omega) zoneQ15 g i (i * 4) _ rfl _ R1.out _ rfl (by omega) (by have h3:=hl.out;simp only [List.append_nil] at *;simp only [List.length_append,List.length_take,List.length_drop] at *;omega) ?_;intro w2 zx r2 g2 z2))
 all_goals go_ret
 all_goals
  have q:=r2.own (n:=i) (c:=i+1) hbg.out (by have h3:=hl.out;simp only [List.length_append,List.length_take,List.length_drop,List.length_singleton,List.length_nil] at *;omega) hc3.out (by omega)
  have e:((l.take i ++ [] ++ l.drop i).take i ++ [zx] ++ (l.take i ++ [] ++ l.drop i).drop (i+1)).take i=l.take i:=by
   rw [List.append_nil,List.take_append_drop,List.append_assoc,List.take_append_of_le_length (by rw [List.length_take,hl.out];omega),List.take_take,Nat.min_self]
  rw [e] at q
  exact ⟨rfl,q,⟨g2.os.trans T.out.os,g2.tape.trans T.out.tape,g2.output.trans T.out.output,Nat.le_trans T.out.size g2.size,fun k hk hn=>(g2.block k (Nat.lt_of_lt_of_le hk T.out.size) hn).trans (T.out.block k hk hn)⟩,z2.trans Z1.out⟩
theorem deleteQ_any (base:Nat)(v:Value)(L:List Qx) (i:Nat)(w:World)(hbig:L.length<=1000)(hi:i<L.length)(hO:Hid (OwnK w base 45 4 v (cellsQ L))) :
  Calls Tryz.prog 167 #[v,.int .i64 i,.int .i64 ((i:Int)+1)] w fun e w'=>(∃ v',e = .returned v' /\ OwnK w' base 45 4 v' (cellsQ (L.eraseIdx i))/\v'.ownBlock=v.ownBlock)/\w.grownBy w' v.ownBlock/\w'.heap.size=w.heap.size:=by
 have hcl:(cellsQ L).length=L.length:=by simp [cellsQ]
 have hcc:cellsQ (L.eraseIdx i)=(cellsQ L).take i ++ (cellsQ L).drop (i+1):=by rw [List.eraseIdx_eq_take_drop_succ];simp [cellsQ,List.map_take,List.map_drop]
 obtain ⟨A,c,hv,_,hc1,hc2,hnw⟩:=hO.out.sl
 rw [hcl] at hv hc1
 cases A with
 | none=>
  exfalso
  rcases hO.out.2.2 with ⟨hv',h0⟩ | ⟨g,cap,cur,hv',_⟩
  ·omega
  ·rw [hv] at hv';injection hv' with e;cases e
 | some a=>
  obtain ⟨g,rfl⟩:∃ g,a=⟨g,0,none⟩:=by
   rcases hO.out.2.2 with ⟨hv',h0⟩ | ⟨g,cap,cur,hv',_⟩
   ·omega
   ·rw [hv] at hv';injection hv' with e;injection e with e;exact ⟨g,e⟩
  subst hv
  obtain ⟨S,hR,hS,_,hc3,hbg⟩:=OwnK.whole (l:=cellsQ L) hO.out
  rw [hcl] at hS
  by_cases hc:c=i+1
  ·subst hc
   have hn:L.length=i+1:=by omega
   have hS0:S=[]:=List.length_eq_zero_iff.1 (by omega)
   subst hS0
   rw [List.append_nil] at hR
   rw [hn]
   refine (deleteQ_near base g i (cellsQ L) w (show _=_ from hcl.trans hn) (by omega) hR hbg hc3).mono ?_
   rintro e w' ⟨rfl,h1,h2,h3⟩
   refine ⟨⟨_,rfl,?_,rfl⟩,h2,h3⟩
   rw [hcc,List.drop_of_length_le (by omega),List.append_nil]
   exact h1
  ·refine (deleteQ_far base g L.length c i (cellsQ L) S w hcl hbig hi hR hS hc1 hbg (by unfold maxLen at hc3;omega) hc3 (cellsQ_one L) hc).mono ?_
   rintro e w' ⟨rfl,h1,h2,h3⟩
   exact ⟨⟨_,rfl,by rw [hcc];exact h1,rfl⟩,h2,h3⟩


theorem deleteM_far (base g n c i:Nat)(l S:List (List Value))(w:World)(hl:Hid (l.length=n))(hbig:n<=1000)(hi:i<n)(hR:Hid (RowKg w g 60 7 (l ++ S)))(hS:Hid (n+S.length=c))(hnc:n<=c)(hbg:Hid (base<=g))(hc2:c<=9223372036854775807)(hc3:Hid (c<=maxLen))
  (h1:Hid (∀ x ∈ l,∀ u ∈ x,u.oneCell' = true))(hce:¬ (c=i+1)) :
  Calls Tryz.prog 162 #[.slice (some ⟨g,0,none⟩) n c,.int .i64 i,.int .i64 ((i:Int)+1)] w fun e w'=>e = .returned (.slice (some ⟨g,0,none⟩) (n - 1) c)/\OwnK w' base 60 7 (.slice (some ⟨g,0,none⟩) (n - 1) c) (l.take i ++ l.drop (i+1))/\w.grownBy w' (some g)/\w'.heap.size=w.heap.size:=by
 have hL:Hid ((l ++ S).length=c):=by show _=_;rw [List.length_append,hl.out];exact hS.out
 have hD:Hid ((l.drop (i+1)).length=n - (i+1)):=by show _=_;rw [List.length_drop,hl.out]
 have hP:Hid (∀ j u,(l.drop (i+1)).flatten[j]? = some u->w.drew.cell? ((⟨g,(i+1) * 7,none⟩:Addr).add j)=some u):=by
  have:=hR.out.drew.part (i+1) (n - (i+1))
  rw [List.drop_append_of_le_length (by have:=hl.out;omega),List.take_append_of_le_length (by rw [hD.out];exact Nat.le_refl _),List.take_of_length_le (by rw [hD.out];exact Nat.le_refl _)] at this
  exact this
 have hne1:((i:Int) == (i:Int)+1)=false:=by simp;omega
 have hb1:(0:Int)<=(i:Int)+1:=by omega
 have hin:i<=n:=by omega
 have htn:((i:Int)+1).toNat=i+1:=by omega
 have hb3:(i:Int)+1<=(n:Int):=by omega
 have hb4:¬ (n=i):=by omega
 have hb5:¬ (c=i):=by omega
 have hic:i<=c:=by omega
 have hnm:n - 1<=n:=by omega
 have hb6:¬ (c=n - 1):=by omega
 have hb7:(i:Int)<=(i:Int)+1:=by omega
 have hb8:(n:Int)<=(c:Int):=by omega
 go_enter Tryz.func162,Tryz.ntmps162
 go_wp2_with fail
 go_region_law (refine step_room_k rfl (.tmp 22) (.tmp 25) 27 rfl 60 7 Tryz.underlying27 (by kernel_rfl) g i c (l ++ S) hR.out.drew (by simp [Act.eval,Act.put]) ⟨g,(i+1) * 7,none⟩ (n - (i+1)) (c - (i+1)) (by simp [Act.eval,Act.put]) (l.drop (i+1)) (fun y hy=>hR.out.each y (List.mem_append_left _ (List.mem_of_mem_drop hy))) (fun y hy=>h1.out y (List.mem_of_mem_drop hy)) hD.out.symm hP.out (n - 1) (by omega) (by omega) (by rw [hL.out];omega) ?_;intro w1 r1 g1 z1)
 have T:=Lib.hid (drew_grown g1)
 have R1:=Lib.hid r1
 have Z1:Hid (w1.heap.size=w.heap.size):=z1
 clear g1 r1 z1
 go_wp2_with (first
  | (with_reducible refine clear1_k _ rfl (.tmp 31) 27 rfl 60 _ 7 80 Tryz.underlying27 infoM15 rfl (by omega) zoneM15 g (n - 1) ((n - 1) * 7) _ rfl _ R1.out _ rfl (by omega) (by have h1:=hL.out;have h2:=hD.out;have h3:=hl.out;have h4:=hS.out;simp only [List.length_append,List.length_take,List.length_drop] at *;omega) ?_;intro w2 zx r2 g2 z2))
 all_goals go_ret
 all_goals
  have q:=r2.own (n:=n - 1) (c:=c) hbg.out (by have h1:=hL.out;have h2:=hD.out;have h3:=hl.out;have h4:=hS.out;simp only [List.length_append,List.length_take,List.length_drop,List.length_singleton] at *;omega) hc3.out (by omega)
  rw [del_mid hl.out hi] at q
  exact ⟨rfl,q,⟨g2.os.trans T.out.os,g2.tape.trans T.out.tape,g2.output.trans T.out.output,Nat.le_trans T.out.size g2.size,fun k hk hn=>(g2.block k (Nat.lt_of_lt_of_le hk T.out.size) hn).trans (T.out.block k hk hn)⟩,z2.trans Z1.out⟩


theorem deleteM_near (base g i:Nat)(l:List (List Value))(w:World)(hl:Hid (l.length=i+1))(hbig:i+1<=1000)(hR:Hid (RowKg w g 60 7 l))(hbg:Hid (base<=g))(hc3:Hid (i+1<=maxLen)) :
  Calls Tryz.prog 162 #[.slice (some ⟨g,0,none⟩) (i+1) (i+1),.int .i64 i,.int .i64 ((i:Int)+1)] w fun e w'=>e = .returned (.slice (some ⟨g,0,none⟩) i (i+1))/\OwnK w' base 60 7 (.slice (some ⟨g,0,none⟩) i (i+1)) (l.take i)/\w.grownBy w' (some g)/\w'.heap.size=w.heap.size:=by
 have hne1:((i:Int) == (i:Int)+1)=false:=by simp;omega
 have hb1:(0:Int)<=(i:Int)+1:=by omega
 have htn:((i:Int)+1).toNat=i+1:=by omega
 have hb3:(i:Int)+1<=(i:Int)+1:=by omega
 have hic:i<=i+1:=by omega
 have hb6:¬ (i+1=i):=by omega
 have hb7:(i:Int)<=(i:Int)+1:=by omega
 go_enter Tryz.func162,Tryz.ntmps162
 go_wp2_with fail
 go_region_law (refine step_room_k rfl (.tmp 22) (.tmp 25) 27 rfl 60 7 Tryz.underlying27 (by kernel_rfl) g i (i+1) l hR.out.drew (by simp [Act.eval,Act.put]) ⟨g,0,none⟩ 0 0 (by simp [Act.eval,Act.put]) [] (by simp) (by simp) rfl (by simp) i (by omega) (by omega) (by rw [hl.out];omega) ?_;intro w1 r1 g1 z1)
 have T:=Lib.hid (drew_grown g1)
 have R1:=Lib.hid r1
 have Z1:Hid (w1.heap.size=w.heap.size):=z1
 clear g1 r1 z1
 go_wp2_with (first
  | (with_reducible refine clear1_k _ rfl (.tmp 31) 27 rfl 60 _ 7 80 Tryz.underlying27 infoM15 rfl (by omega) zoneM15 g i (i * 7) _ rfl _ R1.out _ rfl (by omega) (by have h3:=hl.out;simp only [List.append_nil] at *;simp only [List.length_append,List.length_take,List.length_drop] at *;omega) ?_;intro w2 zx r2 g2 z2))
 all_goals go_ret
 all_goals
  have q:=r2.own (n:=i) (c:=i+1) hbg.out (by have h3:=hl.out;simp only [List.length_append,List.length_take,List.length_drop,List.length_singleton,List.length_nil] at *;omega) hc3.out (by omega)
  have e:((l.take i ++ [] ++ l.drop i).take i ++ [zx] ++ (l.take i ++ [] ++ l.drop i).drop (i+1)).take i=l.take i:=by
   rw [List.append_nil,List.take_append_drop,List.append_assoc,List.take_append_of_le_length (by rw [List.length_take,hl.out];omega),List.take_take,Nat.min_self]
  rw [e] at q
  exact ⟨rfl,q,⟨g2.os.trans T.out.os,g2.tape.trans T.out.tape,g2.output.trans T.out.output,Nat.le_trans T.out.size g2.size,fun k hk hn=>(g2.block k (Nat.lt_of_lt_of_le hk T.out.size) hn).trans (T.out.block k hk hn)⟩,z2.trans Z1.out⟩
theorem deleteM_any (base:Nat)(v:Value)(L:List Mc) (i:Nat)(w:World)(hbig:L.length<=1000)(hi:i<L.length)(hO:Hid (OwnK w base 60 7 v (cellsM L))) :
  Calls Tryz.prog 162 #[v,.int .i64 i,.int .i64 ((i:Int)+1)] w fun e w'=>(∃ v',e = .returned v' /\ OwnK w' base 60 7 v' (cellsM (L.eraseIdx i))/\v'.ownBlock=v.ownBlock)/\w.grownBy w' v.ownBlock/\w'.heap.size=w.heap.size:=by
 have hcl:(cellsM L).length=L.length:=by simp [cellsM]
 have hcc:cellsM (L.eraseIdx i)=(cellsM L).take i ++ (cellsM L).drop (i+1):=by rw [List.eraseIdx_eq_take_drop_succ];simp [cellsM,List.map_take,List.map_drop]
 obtain ⟨A,c,hv,_,hc1,hc2,hnw⟩:=hO.out.sl
 rw [hcl] at hv hc1
 cases A with
 | none=>
  exfalso
  rcases hO.out.2.2 with ⟨hv',h0⟩ | ⟨g,cap,cur,hv',_⟩
  ·omega
  ·rw [hv] at hv';injection hv' with e;cases e
 | some a=>
  obtain ⟨g,rfl⟩:∃ g,a=⟨g,0,none⟩:=by
   rcases hO.out.2.2 with ⟨hv',h0⟩ | ⟨g,cap,cur,hv',_⟩
   ·omega
   ·rw [hv] at hv';injection hv' with e;injection e with e;exact ⟨g,e⟩
  subst hv
  obtain ⟨S,hR,hS,_,hc3,hbg⟩:=OwnK.whole (l:=cellsM L) hO.out
  rw [hcl] at hS
  by_cases hc:c=i+1
  ·subst hc
   have hn:L.length=i+1:=by omega
   have hS0:S=[]:=List.length_eq_zero_iff.1 (by omega)
   subst hS0
   rw [List.append_nil] at hR
   rw [hn]
   refine (deleteM_near base g i (cellsM L) w (show _=_ from hcl.trans hn) (by omega) hR hbg hc3).mono ?_
   rintro e w' ⟨rfl,h1,h2,h3⟩
   refine ⟨⟨_,rfl,?_,rfl⟩,h2,h3⟩
   rw [hcc,List.drop_of_length_le (by omega),List.append_nil]
   exact h1
  ·refine (deleteM_far base g L.length c i (cellsM L) S w hcl hbig hi hR hS hc1 hbg (by unfold maxLen at hc3;omega) hc3 (cellsM_one L) hc).mono ?_
   rintro e w' ⟨rfl,h1,h2,h3⟩
   exact ⟨⟨_,rfl,by rw [hcc];exact h1,rfl⟩,h2,h3⟩


theorem deleteJ_far (base g n c i:Nat)(l S:List (List Value))(w:World)(hl:Hid (l.length=n))(hbig:n<=1000)(hi:i<n)(hR:Hid (RowKg w g 66 13 (l ++ S)))(hS:Hid (n+S.length=c))(hnc:n<=c)(hbg:Hid (base<=g))(hc2:c<=9223372036854775807)(hc3:Hid (c<=maxLen))
  (h1:Hid (∀ x ∈ l,∀ u ∈ x,u.oneCell' = true))(hce:¬ (c=i+1)) :
  Calls Tryz.prog 168 #[.slice (some ⟨g,0,none⟩) n c,.int .i64 i,.int .i64 ((i:Int)+1)] w fun e w'=>e = .returned (.slice (some ⟨g,0,none⟩) (n - 1) c)/\OwnK w' base 66 13 (.slice (some ⟨g,0,none⟩) (n - 1) c) (l.take i ++ l.drop (i+1))/\w.grownBy w' (some g)/\w'.heap.size=w.heap.size:=by
 have hL:Hid ((l ++ S).length=c):=by show _=_;rw [List.length_append,hl.out];exact hS.out
 have hD:Hid ((l.drop (i+1)).length=n - (i+1)):=by show _=_;rw [List.length_drop,hl.out]
 have hP:Hid (∀ j u,(l.drop (i+1)).flatten[j]? = some u->w.drew.cell? ((⟨g,(i+1) * 13,none⟩:Addr).add j)=some u):=by
  have:=hR.out.drew.part (i+1) (n - (i+1))
  rw [List.drop_append_of_le_length (by have:=hl.out;omega),List.take_append_of_le_length (by rw [hD.out];exact Nat.le_refl _),List.take_of_length_le (by rw [hD.out];exact Nat.le_refl _)] at this
  exact this
 have hne1:((i:Int) == (i:Int)+1)=false:=by simp;omega
 have hb1:(0:Int)<=(i:Int)+1:=by omega
 have hin:i<=n:=by omega
 have htn:((i:Int)+1).toNat=i+1:=by omega
 have hb3:(i:Int)+1<=(n:Int):=by omega
 have hb4:¬ (n=i):=by omega
 have hb5:¬ (c=i):=by omega
 have hic:i<=c:=by omega
 have hnm:n - 1<=n:=by omega
 have hb6:¬ (c=n - 1):=by omega
 have hb7:(i:Int)<=(i:Int)+1:=by omega
 have hb8:(n:Int)<=(c:Int):=by omega
 go_enter Tryz.func168,Tryz.ntmps168
 go_wp2_with fail
 go_region_law (refine step_room_k rfl (.tmp 22) (.tmp 25) 29 rfl 66 13 Tryz.underlying29 (by kernel_rfl) g i c (l ++ S) hR.out.drew (by simp [Act.eval,Act.put]) ⟨g,(i+1) * 13,none⟩ (n - (i+1)) (c - (i+1)) (by simp [Act.eval,Act.put]) (l.drop (i+1)) (fun y hy=>hR.out.each y (List.mem_append_left _ (List.mem_of_mem_drop hy))) (fun y hy=>h1.out y (List.mem_of_mem_drop hy)) hD.out.symm hP.out (n - 1) (by omega) (by omega) (by rw [hL.out];omega) ?_;intro w1 r1 g1 z1)
 have T:=Lib.hid (drew_grown g1)
 have R1:=Lib.hid r1
 have Z1:Hid (w1.heap.size=w.heap.size):=z1
 clear g1 r1 z1
 go_wp2_with (first
  | (with_reducible refine clear1_k _ rfl (.tmp 31) 29 rfl 66 _ 13 160 Tryz.underlying29 infoJ15 rfl (by omega) zoneJ15 g (n - 1) ((n - 1) * 13) _ rfl _ R1.out _ rfl (by omega) (by have h1:=hL.out;have h2:=hD.out;have h3:=hl.out;have h4:=hS.out;simp only [List.length_append,List.length_take,List.length_drop] at *;omega) ?_;intro w2 zx r2 g2 z2))
 all_goals go_ret
 all_goals
  have q:=r2.own (n:=n - 1) (c:=c) hbg.out (by have h1:=hL.out;have h2:=hD.out;have h3:=hl.out;have h4:=hS.out;simp only [List.length_append,List.length_take,List.length_drop,List.length_singleton] at *;omega) hc3.out (by omega)
  rw [del_mid hl.out hi] at q
  exact ⟨rfl,q,⟨g2.os.trans T.out.os,g2.tape.trans T.out.tape,g2.output.trans T.out.output,Nat.le_trans T.out.size g2.size,fun k hk hn=>(g2.block k (Nat.lt_of_lt_of_le hk T.out.size) hn).trans (T.out.block k hk hn)⟩,z2.trans Z1.out⟩


theorem deleteJ_near (base g i:Nat)(l:List (List Value))(w:World)(hl:Hid (l.length=i+1))(hbig:i+1<=1000)(hR:Hid (RowKg w g 66 13 l))(hbg:Hid (base<=g))(hc3:Hid (i+1<=maxLen)) :
  Calls Tryz.prog 168 #[.slice (some ⟨g,0,none⟩) (i+1) (i+1),.int .i64 i,.int .i64 ((i:Int)+1)] w fun e w'=>e = .returned (.slice (some ⟨g,0,none⟩) i (i+1))/\OwnK w' base 66 13 (.slice (some ⟨g,0,none⟩) i (i+1)) (l.take i)/\w.grownBy w' (some g)/\w'.heap.size=w.heap.size:=by
 have hne1:((i:Int) == (i:Int)+1)=false:=by simp;omega
 have hb1:(0:Int)<=(i:Int)+1:=by omega
 have htn:((i:Int)+1).toNat=i+1:=by omega
 have hb3:(i:Int)+1<=(i:Int)+1:=by omega
 have hic:i<=i+1:=by omega
 have hb6:¬ (i+1=i):=by omega
 have hb7:(i:Int)<=(i:Int)+1:=by omega
 go_enter Tryz.func168,Tryz.ntmps168
 go_wp2_with fail
 go_region_law (refine step_room_k rfl (.tmp 22) (.tmp 25) 29 rfl 66 13 Tryz.underlying29 (by kernel_rfl) g i (i+1) l hR.out.drew (by simp [Act.eval,Act.put]) ⟨g,0,none⟩ 0 0 (by simp [Act.eval,Act.put]) [] (by simp) (by simp) rfl (by simp) i (by omega) (by omega) (by rw [hl.out];omega) ?_;intro w1 r1 g1 z1)
 have T:=Lib.hid (drew_grown g1)
 have R1:=Lib.hid r1
 have Z1:Hid (w1.heap.size=w.heap.size):=z1
 clear g1 r1 z1
 go_wp2_with (first
  | (with_reducible refine clear1_k _ rfl (.tmp 31) 29 rfl 66 _ 13 160 Tryz.underlying29 infoJ15 rfl (by omega) zoneJ15 g i (i * 13) _ rfl _ R1.out _ rfl (by omega) (by have h3:=hl.out;simp only [List.append_nil] at *;simp only [List.length_append,List.length_take,List.length_drop] at *;omega) ?_;intro w2 zx r2 g2 z2))
 all_goals go_ret
 all_goals
  have q:=r2.own (n:=i) (c:=i+1) hbg.out (by have h3:=hl.out;simp only [List.length_append,List.length_take,List.length_drop,List.length_singleton,List.length_nil] at *;omega) hc3.out (by omega)
  have e:((l.take i ++ [] ++ l.drop i).take i ++ [zx] ++ (l.take i ++ [] ++ l.drop i).drop (i+1)).take i=l.take i:=by
   rw [List.append_nil,List.take_append_drop,List.append_assoc,List.take_append_of_le_length (by rw [List.length_take,hl.out];omega),List.take_take,Nat.min_self]
  rw [e] at q
  exact ⟨rfl,q,⟨g2.os.trans T.out.os,g2.tape.trans T.out.tape,g2.output.trans T.out.output,Nat.le_trans T.out.size g2.size,fun k hk hn=>(g2.block k (Nat.lt_of_lt_of_le hk T.out.size) hn).trans (T.out.block k hk hn)⟩,z2.trans Z1.out⟩
theorem deleteJ_any (base:Nat)(v:Value)(L:List Jb) (i:Nat)(w:World)(hbig:L.length<=1000)(hi:i<L.length)(hO:Hid (OwnK w base 66 13 v (cellsJ L))) :
  Calls Tryz.prog 168 #[v,.int .i64 i,.int .i64 ((i:Int)+1)] w fun e w'=>(∃ v',e = .returned v' /\ OwnK w' base 66 13 v' (cellsJ (L.eraseIdx i))/\v'.ownBlock=v.ownBlock)/\w.grownBy w' v.ownBlock/\w'.heap.size=w.heap.size:=by
 have hcl:(cellsJ L).length=L.length:=by simp [cellsJ]
 have hcc:cellsJ (L.eraseIdx i)=(cellsJ L).take i ++ (cellsJ L).drop (i+1):=by rw [List.eraseIdx_eq_take_drop_succ];simp [cellsJ,List.map_take,List.map_drop]
 obtain ⟨A,c,hv,_,hc1,hc2,hnw⟩:=hO.out.sl
 rw [hcl] at hv hc1
 cases A with
 | none=>
  exfalso
  rcases hO.out.2.2 with ⟨hv',h0⟩ | ⟨g,cap,cur,hv',_⟩
  ·omega
  ·rw [hv] at hv';injection hv' with e;cases e
 | some a=>
  obtain ⟨g,rfl⟩:∃ g,a=⟨g,0,none⟩:=by
   rcases hO.out.2.2 with ⟨hv',h0⟩ | ⟨g,cap,cur,hv',_⟩
   ·omega
   ·rw [hv] at hv';injection hv' with e;injection e with e;exact ⟨g,e⟩
  subst hv
  obtain ⟨S,hR,hS,_,hc3,hbg⟩:=OwnK.whole (l:=cellsJ L) hO.out
  rw [hcl] at hS
  by_cases hc:c=i+1
  ·subst hc
   have hn:L.length=i+1:=by omega
   have hS0:S=[]:=List.length_eq_zero_iff.1 (by omega)
   subst hS0
   rw [List.append_nil] at hR
   rw [hn]
   refine (deleteJ_near base g i (cellsJ L) w (show _=_ from hcl.trans hn) (by omega) hR hbg hc3).mono ?_
   rintro e w' ⟨rfl,h1,h2,h3⟩
   refine ⟨⟨_,rfl,?_,rfl⟩,h2,h3⟩
   rw [hcc,List.drop_of_length_le (by omega),List.append_nil]
   exact h1
  ·refine (deleteJ_far base g L.length c i (cellsJ L) S w hcl hbig hi hR hS hc1 hbg (by unfold maxLen at hc3;omega) hc3 (cellsJ_one L) hc).mono ?_
   rintro e w' ⟨rfl,h1,h2,h3⟩
   exact ⟨⟨_,rfl,by rw [hcc];exact h1,rfl⟩,h2,h3⟩
end
section
open Go.RowKit
structure Wn (w w':World) (b g:Nat)(vM vQ vJ:Value)(S:Sg) (lst':Int) (vM' vQ' vJ':Value) (S':Sg):Prop where
 gs:Gs w' b g lst' vM' vQ' vJ' S'
 gr:GrP (blkG g vM vQ vJ S) w w'
 bl:∀ k,blkG g vM' vQ' vJ' S' k->blkG g vM vQ vJ S k ∨ w.heap.size<=k
section
variable {w w' w1 w2:World}{b g:Nat} {lst lst' lst1 lst2:Int} {vM vQ vJ vM' vQ' vJ' vM1 vQ1 vJ1 vM2 vQ2 vJ2 v':Value} {S S' S1 S2 T:Sg}
theorem Wn.went (h:Wn w w' b g vM vQ vJ S lst' vM' vQ' vJ' S')(he:S'.bare=T.bare):Went w w' b g vM vQ vJ S T:=⟨_,_,_,_,_,h.gs,he,h.gr,h.bl⟩
theorem Wn.refl (h:Gs w b g lst vM vQ vJ S):Wn w w b g vM vQ vJ S lst vM vQ vJ S:=⟨h,GrP.refl _ _,fun k hk=>.inl hk⟩
theorem Wn.first (h:Gs w b g lst vM vQ vJ S)(hb:Below w.heap.size w w'):Wn w w' b g vM vQ vJ S lst vM vQ vJ S:=⟨h.below hb,GrP.ofBelow hb,fun k hk=>.inl hk⟩
theorem Wn.trans (h:Wn w w1 b g vM vQ vJ S lst1 vM1 vQ1 vJ1 S1)(k:Wn w1 w2 b g vM1 vQ1 vJ1 S1 lst2 vM2 vQ2 vJ2 S2):Wn w w2 b g vM vQ vJ S lst2 vM2 vQ2 vJ2 S2:=
 ⟨k.gs,⟨k.gr.os.trans h.gr.os,k.gr.tape.trans h.gr.tape,k.gr.output.trans h.gr.output,Nat.le_trans h.gr.size k.gr.size,fun i hi hn=>(k.gr.block i (Nat.lt_of_lt_of_le hi h.gr.size) (fun e=>(h.bl i e).elim hn (fun h=>by omega))).trans (h.gr.block i hi hn)⟩,
  fun i hi=>(k.bl i hi).elim (fun e=>h.bl i e) (fun e=>.inr (Nat.le_trans h.gr.size e))⟩
theorem Wn.below (h:Wn w w1 b g vM vQ vJ S lst1 vM1 vQ1 vJ1 S1)(hb:Below w1.heap.size w1 w2):Wn w w2 b g vM vQ vJ S lst1 vM1 vQ1 vJ1 S1:=h.trans (Wn.first h.gs hb)
theorem Gs.setQ {Q':List Qx}(h:Gs w b g lst vM vQ vJ S)(hg:GrP (fun k=>vQ.ownBlock=some k) w w')(hO:OwnK w' b 45 4 v' (cellsQ Q'))(hat:v'.ownBlock=vQ.ownBlock ∨ ∀ k,v'.ownBlock=some k->w.heap.size<=k)(hz:QsOk Q') :
  Wn w (w'.setCell ⟨g,3,none⟩ v') b g vM vQ vJ S lst vM v' vJ { S with Q:=Q' }:=by
 have hgb:Bk w' g 73 #[.int .i64 S.ck,.int .i64 lst,vM,vQ,vJ]:=h.bk.grp hg fun e=>h.ne _ (.inr (.inl e)) rfl
 have hBK:Bk (w'.setCell ⟨g,3,none⟩ v') g 73 #[.int .i64 S.ck,.int .i64 lst,vM,v',vJ]:=hgb.put 3 _
 have hG9:GrP (fun k=>vQ.ownBlock=some k ∨ k=g) w (w'.setCell ⟨g,3,none⟩ v'):=(hg.wide (fun _ _ h=>.inl h)).set (.inr rfl) _
 have hv9:∀ k,v'.ownBlock=some k->k ≠ g:=fun k hk=>by
  rcases hat with e | e
  ·exact h.ne k (.inr (.inl (by rw [<- e];exact hk)))
  ·have:=e k hk;have:=h.bk.here;omega
 have hQ9:OwnK (w'.setCell ⟨g,3,none⟩ v') b 45 4 v' (cellsQ Q'):=hO.grp ((GrP.refl (fun k=>k=g) w').set rfl _) fun k hk e=>hv9 k hk e
 have hM9:=h.own.M.grp hG9 fun k hk e=>e.elim (fun e=>h.own.M.parted h.own.Q (by decide) hk e) (h.ne k (.inl hk))
 have hJ9:=h.own.J.grp hG9 fun k hk e=>e.elim (fun e=>h.own.J.parted h.own.Q (by decide) hk e) (h.ne k (.inr (.inr (.inl hk))))
 have hlM9:=fun x hx=>(h.own.lM x hx).grp hG9 fun k hk e=>e.elim (fun e=>(h.own.lM x hx).off h.own.Q (by decide) hk e) (h.ne k (.inr (.inr (.inr (.inl ⟨x,hx,hk⟩)))))
 have hlJ9:=fun x hx=>(h.own.lJ x hx).grp hG9 fun k hk e=>e.elim (fun e=>(h.own.lJ x hx).off h.own.Q (by decide) hk e) (h.ne k (.inr (.inr (.inr (.inr ⟨x,hx,hk⟩)))))
 refine ⟨⟨hBK,h.nx,⟨hM9,hQ9,hJ9,hlM9,hlJ9,h.own.zM,hz,h.own.zJ⟩,h.le,fun k hk=>?_⟩,hG9.wide fun k _ e=>e.elim (fun e=>.inr (.inr (.inl e))) .inl,fun k hk=>?_⟩
 ·rcases hk with e | e | e | e | e
  ·exact h.ne k (.inl e)
  ·exact hv9 k e
  ·exact h.ne k (.inr (.inr (.inl e)))
  ·exact h.ne k (.inr (.inr (.inr (.inl e))))
  ·exact h.ne k (.inr (.inr (.inr (.inr e))))
 ·rcases hk with e | e | e | e | e | e
  ·exact .inl (.inl e)
  ·exact .inl (.inr (.inl e))
  ·rcases hat with h' | h'
   ·exact .inl (.inr (.inr (.inl (by rw [<- h'];exact e))))
   ·exact .inr (h' k e)
  ·exact .inl (.inr (.inr (.inr (.inl e))))
  ·exact .inl (.inr (.inr (.inr (.inr (.inl e)))))
  ·exact .inl (.inr (.inr (.inr (.inr (.inr e)))))
theorem Gs.setM {M':List Ml}(h:Gs w b g lst vM vQ vJ S)(hg:GrP (fun k=>vM.ownBlock=some k) w w')(hO:OwnK w' b 60 7 v' (cellsM (mcs M')))(hat:v'.ownBlock=vM.ownBlock ∨ ∀ k,v'.ownBlock=some k->w.heap.size<=k)
  (hl:∀ x ∈ M',x.1.nm.size<=140737488351232/\((∃ y ∈ S.M,y.1.A=x.1.A/\y.1.n=x.1.n/\y.1.cp=x.1.cp/\y.2=x.2) ∨ (LbNew w b x.1.A x.1.n x.1.cp x.2 /\ ∀ k,blkA x.1.A k->g<k/\vM.ownBlock ≠ some k/\(w.heap.size<=k ∨ blkG g vM vQ vJ S k)))) :
  Wn w (w'.setCell ⟨g,2,none⟩ v') b g vM vQ vJ S lst v' vQ vJ { S with M:=M' }:=by
 have hgb:Bk w' g 73 #[.int .i64 S.ck,.int .i64 lst,vM,vQ,vJ]:=h.bk.grp hg fun e=>h.ne _ (.inl e) rfl
 have hBK:Bk (w'.setCell ⟨g,2,none⟩ v') g 73 #[.int .i64 S.ck,.int .i64 lst,v',vQ,vJ]:=hgb.put 2 _
 have hG9:GrP (fun k=>vM.ownBlock=some k ∨ k=g) w (w'.setCell ⟨g,2,none⟩ v'):=(hg.wide (fun _ _ h=>.inl h)).set (.inr rfl) _
 have hv9:∀ k,v'.ownBlock=some k->k ≠ g:=fun k hk=>by
  rcases hat with e | e
  ·exact h.ne k (.inl (by rw [<- e];exact hk))
  ·have:=e k hk;have:=h.bk.here;omega
 have hM9:OwnK (w'.setCell ⟨g,2,none⟩ v') b 60 7 v' (cellsM (mcs M')):=hO.grp ((GrP.refl (fun k=>k=g) w').set rfl _) fun k hk e=>hv9 k hk e
 have hQ9:=h.own.Q.grp hG9 fun k hk e=>e.elim (fun e=>h.own.Q.parted h.own.M (by decide) hk e) (h.ne k (.inr (.inl hk)))
 have hJ9:=h.own.J.grp hG9 fun k hk e=>e.elim (fun e=>h.own.J.parted h.own.M (by decide) hk e) (h.ne k (.inr (.inr (.inl hk))))
 have hlM9:∀ x ∈ M',LbNew (w'.setCell ⟨g,2,none⟩ v') b x.1.A x.1.n x.1.cp x.2:=fun x hx=>by
  rcases (hl x hx).2 with ⟨y,hy,e1,e2,e3,e4⟩ | ⟨hn,hk⟩
  ·rw [<- e1,<- e2,<- e3,<- e4]
   exact (h.own.lM y hy).grp hG9 fun k hk e=>e.elim (fun e=>(h.own.lM y hy).off h.own.M (by decide) hk e) (h.ne k (.inr (.inr (.inr (.inl ⟨y,hy,hk⟩)))))
  ·exact hn.grp hG9 fun k hk' e=>e.elim (fun e=>(hk k hk').2.1 e) (fun e=>by have:=(hk k hk').1;omega)
 have hlJ9:=fun x hx=>(h.own.lJ x hx).grp hG9 fun k hk e=>e.elim (fun e=>(h.own.lJ x hx).off h.own.M (by decide) hk e) (h.ne k (.inr (.inr (.inr (.inr ⟨x,hx,hk⟩)))))
 refine ⟨⟨hBK,h.nx,⟨hM9,hQ9,hJ9,hlM9,hlJ9,fun x hx=>(hl x hx).1,h.own.zQ,h.own.zJ⟩,h.le,fun k hk=>?_⟩,hG9.wide fun k _ e=>e.elim (fun e=>.inr (.inl e)) .inl,fun k hk=>?_⟩
 ·rcases hk with e | e | e | ⟨x,hx,e⟩ | e
  ·exact hv9 k e
  ·exact h.ne k (.inr (.inl e))
  ·exact h.ne k (.inr (.inr (.inl e)))
  ·rcases (hl x hx).2 with ⟨y,hy,e1,_⟩ | ⟨_,hk⟩
   ·exact h.ne k (.inr (.inr (.inr (.inl ⟨y,hy,by rw [e1];exact e⟩))))
   ·have:=(hk k e).1;omega
  ·exact h.ne k (.inr (.inr (.inr (.inr e))))
 ·rcases hk with e | e | e | e | ⟨x,hx,e⟩ | e
  ·exact .inl (.inl e)
  ·rcases hat with h' | h'
   ·exact .inl (.inr (.inl (by rw [<- h'];exact e)))
   ·exact .inr (h' k e)
  ·exact .inl (.inr (.inr (.inl e)))
  ·exact .inl (.inr (.inr (.inr (.inl e))))
  ·rcases (hl x hx).2 with ⟨y,hy,e1,_⟩ | ⟨_,hk⟩
   ·exact .inl (.inr (.inr (.inr (.inr (.inl ⟨y,hy,by rw [e1];exact e⟩)))))
   ·exact (hk k e).2.2.symm
  ·exact .inl (.inr (.inr (.inr (.inr (.inr e)))))
def JzOk (x:Jl):Prop:=x.1.nm.size<=140737488351232/\x.1.qu.size<=140737488351232/\x.1.ap.size<=140737488351232/\x.1.ga.size<=140737488351232/\x.1.nd.size<=140737488351232
theorem Gs.setJ {J':List Jl}(h:Gs w b g lst vM vQ vJ S)(hg:GrP (fun k=>vJ.ownBlock=some k) w w')(hO:OwnK w' b 66 13 v' (cellsJ (jbs J')))(hat:v'.ownBlock=vJ.ownBlock ∨ ∀ k,v'.ownBlock=some k->w.heap.size<=k)
  (hl:∀ x ∈ J',JzOk x/\((∃ y ∈ S.J,y.1.A=x.1.A/\y.1.n=x.1.n/\y.1.cp=x.1.cp/\y.2=x.2) ∨ (LbNew w b x.1.A x.1.n x.1.cp x.2 /\ ∀ k,blkA x.1.A k->g<k/\vJ.ownBlock ≠ some k/\(w.heap.size<=k ∨ blkG g vM vQ vJ S k)))) :
  Wn w (w'.setCell ⟨g,4,none⟩ v') b g vM vQ vJ S lst vM vQ v' { S with J:=J' }:=by
 have hgb:Bk w' g 73 #[.int .i64 S.ck,.int .i64 lst,vM,vQ,vJ]:=h.bk.grp hg fun e=>h.ne _ (.inr (.inr (.inl e))) rfl
 have hBK:Bk (w'.setCell ⟨g,4,none⟩ v') g 73 #[.int .i64 S.ck,.int .i64 lst,vM,vQ,v']:=hgb.put 4 _
 have hG9:GrP (fun k=>vJ.ownBlock=some k ∨ k=g) w (w'.setCell ⟨g,4,none⟩ v'):=(hg.wide (fun _ _ h=>.inl h)).set (.inr rfl) _
 have hv9:∀ k,v'.ownBlock=some k->k ≠ g:=fun k hk=>by
  rcases hat with e | e
  ·exact h.ne k (.inr (.inr (.inl (by rw [<- e];exact hk))))
  ·have:=e k hk;have:=h.bk.here;omega
 have hJ9:OwnK (w'.setCell ⟨g,4,none⟩ v') b 66 13 v' (cellsJ (jbs J')):=hO.grp ((GrP.refl (fun k=>k=g) w').set rfl _) fun k hk e=>hv9 k hk e
 have hM9:=h.own.M.grp hG9 fun k hk e=>e.elim (fun e=>h.own.M.parted h.own.J (by decide) hk e) (h.ne k (.inl hk))
 have hQ9:=h.own.Q.grp hG9 fun k hk e=>e.elim (fun e=>h.own.Q.parted h.own.J (by decide) hk e) (h.ne k (.inr (.inl hk)))
 have hlM9:=fun x hx=>(h.own.lM x hx).grp hG9 fun k hk e=>e.elim (fun e=>(h.own.lM x hx).off h.own.J (by decide) hk e) (h.ne k (.inr (.inr (.inr (.inl ⟨x,hx,hk⟩)))))
 have hlJ9:∀ x ∈ J',LbNew (w'.setCell ⟨g,4,none⟩ v') b x.1.A x.1.n x.1.cp x.2:=fun x hx=>by
  rcases (hl x hx).2 with ⟨y,hy,e1,e2,e3,e4⟩ | ⟨hn,hk⟩
  ·rw [<- e1,<- e2,<- e3,<- e4]
   exact (h.own.lJ y hy).grp hG9 fun k hk e=>e.elim (fun e=>(h.own.lJ y hy).off h.own.J (by decide) hk e) (h.ne k (.inr (.inr (.inr (.inr ⟨y,hy,hk⟩)))))
  ·exact hn.grp hG9 fun k hk' e=>e.elim (fun e=>(hk k hk').2.1 e) (fun e=>by have:=(hk k hk').1;omega)
 refine ⟨⟨hBK,h.nx,⟨hM9,hQ9,hJ9,hlM9,hlJ9,h.own.zM,h.own.zQ,fun x hx=>(hl x hx).1⟩,h.le,fun k hk=>?_⟩,hG9.wide fun k _ e=>e.elim (fun e=>.inr (.inr (.inr (.inl e)))) .inl,fun k hk=>?_⟩
 ·rcases hk with e | e | e | e | ⟨x,hx,e⟩
  ·exact h.ne k (.inl e)
  ·exact h.ne k (.inr (.inl e))
  ·exact hv9 k e
  ·exact h.ne k (.inr (.inr (.inr (.inl e))))
  ·rcases (hl x hx).2 with ⟨y,hy,e1,_⟩ | ⟨_,hk⟩
   ·exact h.ne k (.inr (.inr (.inr (.inr ⟨y,hy,by rw [e1];exact e⟩))))
   ·have:=(hk k e).1;omega
 ·rcases hk with e | e | e | e | e | ⟨x,hx,e⟩
  ·exact .inl (.inl e)
  ·exact .inl (.inr (.inl e))
  ·exact .inl (.inr (.inr (.inl e)))
  ·rcases hat with h' | h'
   ·exact .inl (.inr (.inr (.inr (.inl (by rw [<- h'];exact e)))))
   ·exact .inr (h' k e)
  ·exact .inl (.inr (.inr (.inr (.inr (.inl e)))))
  ·rcases (hl x hx).2 with ⟨y,hy,e1,_⟩ | ⟨_,hk⟩
   ·exact .inl (.inr (.inr (.inr (.inr (.inr ⟨y,hy,by rw [e1];exact e⟩)))))
   ·exact (hk k e).2.2.symm
theorem Gs.putJ {J':List Jl}(h:Gs w b g lst vM vQ vJ S)(hg:GrP (fun k=>vJ.ownBlock=some k) w w')(hO:OwnK w' b 66 13 vJ (cellsJ (jbs J')))
  (hl:∀ x ∈ J',JzOk x /\ ∃ y ∈ S.J,y.1.A=x.1.A/\y.1.n=x.1.n/\y.1.cp=x.1.cp/\y.2=x.2) :
  Wn w w' b g vM vQ vJ S lst vM vQ vJ { S with J:=J' }:=by
 have hM9:=h.own.M.grp hg fun k hk e=>h.own.M.parted h.own.J (by decide) hk e
 have hQ9:=h.own.Q.grp hg fun k hk e=>h.own.Q.parted h.own.J (by decide) hk e
 have hlM9:=fun x hx=>(h.own.lM x hx).grp hg fun k hk e=>(h.own.lM x hx).off h.own.J (by decide) hk e
 have hlJ9:∀ x ∈ J',LbNew w' b x.1.A x.1.n x.1.cp x.2:=fun x hx=>by
  obtain ⟨y,hy,e1,e2,e3,e4⟩:=(hl x hx).2
  rw [<- e1,<- e2,<- e3,<- e4]
  exact (h.own.lJ y hy).grp hg fun k hk e=>(h.own.lJ y hy).off h.own.J (by decide) hk e
 refine ⟨⟨h.bk.grp hg (fun e=>h.ne g (.inr (.inr (.inl e))) rfl),h.nx,⟨hM9,hQ9,hO,hlM9,hlJ9,h.own.zM,h.own.zQ,fun x hx=>(hl x hx).1⟩,h.le,fun k hk=>?_⟩,hg.wide fun k _ e=>.inr (.inr (.inr (.inl e))),fun k hk=>.inl ?_⟩
 ·rcases hk with e | e | e | e | ⟨x,hx,e⟩
  ·exact h.ne k (.inl e)
  ·exact h.ne k (.inr (.inl e))
  ·exact h.ne k (.inr (.inr (.inl e)))
  ·exact h.ne k (.inr (.inr (.inr (.inl e))))
  ·obtain ⟨y,hy,e1,_⟩:=(hl x hx).2
   exact h.ne k (.inr (.inr (.inr (.inr ⟨y,hy,by rw [e1];exact e⟩))))
 ·rcases hk with e | e | e | e | e | ⟨x,hx,e⟩
  ·exact .inl e
  ·exact .inr (.inl e)
  ·exact .inr (.inr (.inl e))
  ·exact .inr (.inr (.inr (.inl e)))
  ·exact .inr (.inr (.inr (.inr (.inl e))))
  ·obtain ⟨y,hy,e1,_⟩:=(hl x hx).2
   exact .inr (.inr (.inr (.inr (.inr ⟨y,hy,by rw [e1];exact e⟩))))
theorem Gs.oneJ {p:Nat}{y:Jl}(h:Gs w b g lst vM vQ vJ S)(hp:p<S.J.length)(hg:GrP (fun k=>vJ.ownBlock=some k) w w')(hO:OwnK w' b 66 13 vJ (cellsJ ((jbs S.J).set p y.1)))(hy:JzOk y)(hl:S.J[p].1.A=y.1.A/\S.J[p].1.n=y.1.n/\S.J[p].1.cp=y.1.cp/\S.J[p].2=y.2) :
  Wn w w' b g vM vQ vJ S lst vM vQ vJ { S with J:=S.J.set p y }:=by
 refine h.putJ hg (by rw [show jbs (S.J.set p y)=(jbs S.J).set p y.1 by simp [jbs,List.map_set]];exact hO) fun x hx=>?_
 rcases List.mem_or_eq_of_mem_set hx with hx | rfl
 ·exact ⟨h.own.zJ x hx,x,hx,rfl,rfl,rfl,rfl⟩
 ·exact ⟨hy,_,List.getElem_mem hp,hl⟩
theorem Gs.notActs {bA k:Nat}{v:Value}{l:List (List Value)}(h:Gs w b g lst vM vQ vJ S)(hA:OwnK w bA 64 3 v l)(hk:v.ownBlock=some k):¬ blkG g vM vQ vJ S k:=by
 rintro (rfl | e | e | e | ⟨x,hx,e⟩ | ⟨x,hx,e⟩)
 ·exact (hA.notBk h.bk (by decide)).elim (fun e=>by rw [e] at hk;cases hk) (fun e=>e hk)
 ·exact hA.parted h.own.M (by decide) hk e
 ·exact hA.parted h.own.Q (by decide) hk e
 ·exact hA.parted h.own.J (by decide) hk e
 ·exact (h.own.lM x hx).off hA (by decide) e hk
 ·exact (h.own.lJ x hx).off hA (by decide) e hk
theorem Wn.acts (h:Wn w w1 b g vM vQ vJ S lst1 vM1 vQ1 vJ1 S1){bA:Nat}{v:Value}{l:List (List Value)}(hA:OwnK w1 bA 64 3 v l)(hg:w1.grownBy w2 v.ownBlock)(hb:w.heap.size<=bA):Wn w w2 b g vM vQ vJ S lst1 vM1 vQ1 vJ1 S1:=
 ⟨h.gs.grp (GrP.of hg) fun k hk e=>h.gs.notActs hA e hk,
  ⟨hg.os.trans h.gr.os,hg.tape.trans h.gr.tape,hg.output.trans h.gr.output,Nat.le_trans h.gr.size hg.size,fun k hk hn=>(hg.block k (Nat.lt_of_lt_of_le hk h.gr.size) (fun e=>by have:=hA.block k e.symm;omega)).trans (h.gr.block k hk hn)⟩,h.bl⟩
end
theorem InsQ.any {b:Nat}{vQ:Value}{Q:List Qx}{q:Qx}(hQ:Q.length<=1000):InsQ b vQ Q q:=by
 have hi:=lbK_le q.1 (Q.map fun q=>q.1)
 rw [List.length_map] at hi
 intro ad c w hO hr hb _ hA hne
 unfold insQ
 generalize lbK q.1 (Q.map fun q=>q.1)=i at hi ⊢
 refine (insertQ_any b vQ Q q i ad c w hQ hi hO hr hA hne hb).mono ?_
 rintro e w' ⟨⟨v',rfl,h1,h2⟩,h3⟩
 refine ⟨⟨v',rfl,h1,h2.imp id fun e k hk=>?_⟩,GrP.of h3⟩
 rw [e] at hk;injection hk with hk;omega
theorem InsM.any {b:Nat}{vM:Value}{M:List Ml}{nm:ByteArray}(hM:M.length<=1000):InsM b vM M nm:=by
 intro q ad c w hnm hO hr hb _ hA hne
 subst hnm
 have hi:=lbK_le q.1.nm (keyM M)
 rw [List.length_map] at hi
 have hcc:mcs (insM q M)=(mcs M).take (lbK q.1.nm (keyM M)) ++ q.1 :: (mcs M).drop (lbK q.1.nm (keyM M)):=by unfold insM;simp [mcs,List.map_take,List.map_drop]
 rw [hcc]
 generalize lbK q.1.nm (keyM M)=i at hi ⊢
 refine (insertM_any b vM (mcs M) q.1 i ad c w (by rw [List.length_map];exact hM) (by rw [List.length_map];exact hi) hO hr hA hne hb).mono ?_
 rintro e w' ⟨⟨v',rfl,h1,h2⟩,h3⟩
 refine ⟨⟨v',rfl,h1,h2.imp id fun e k hk=>?_⟩,GrP.of h3⟩
 rw [e] at hk;injection hk with hk;omega
end
section
open Go.RowKit
def Jb.rest (j:Jb):Jb:={ j with nd:=⟨#[]⟩ }
def restX (x:Jl):Jl:=(x.1.rest,x.2)
def relX (s:ByteArray)(x:Jl):Jl:=if sE x.1.nd s then restX x else x
def relJ (s:ByteArray)(J:List Jl):List Jl:=J.map (relX s)
def relA (s:ByteArray)(J:List Jl):List Ac:=(J.filter fun x:Jl=>sE x.1.nd s).map fun x=>(3,x.1.nm,s)
def relK (s:ByteArray)(J:List Jl) (k:Nat):List Jl:=relJ s (J.take k) ++ J.drop k
section
variable {s:ByteArray}{J:List Jl}{k:Nat}
theorem relK_zero:relK s J 0=J:=by simp [relK,relJ]
theorem relK_all:relK s J J.length=relJ s J:=by simp [relK]
theorem relK_length:(relK s J k).length=J.length:=by simp [relK,relJ];omega
theorem relK_at (h:k<J.length):(relK s J k)[k]'(by rw [relK_length];exact h)=J[k]:=by
 unfold relK
 rw [List.getElem_append_right (by simp [relJ];omega)]
 simp [relJ,Nat.min_eq_left (Nat.le_of_lt h)]
theorem relK_succ (h:k<J.length):relK s J (k+1)=(relK s J k).set k (relX s J[k]):=by
 unfold relK relJ
 rw [List.take_succ_eq_append_getElem h,List.map_append,List.drop_eq_getElem_cons h,List.set_append_right _ _ (by simp;omega)]
 rw [List.length_map,List.length_take,Nat.min_eq_left (Nat.le_of_lt h),Nat.sub_self,tE]
 simp
theorem relK_skip (h:k<J.length)(he:sE J[k].1.nd s=false):relK s J (k+1)=relK s J k:=by
 rw [relK_succ h]
 unfold relX
 rw [he,if_neg (by decide)]
 apply List.ext_getElem (by simp)
 intro i h1 h2
 rw [List.getElem_set]
 split
 ·next e=>subst e;exact (relK_at h).symm
 ·rfl
theorem relK_turn (h:k<J.length)(he:sE J[k].1.nd s=true):relK s J (k+1)=(relK s J k).set k (restX J[k]):=by
 rw [relK_succ h]
 unfold relX
 rw [he,if_pos rfl]
theorem relA_zero:relA s (J.take 0)=[]:=by simp [relA]
theorem relA_all:relA s (J.take J.length)=relA s J:=by rw [List.take_length]
theorem relA_skip (h:k<J.length)(he:sE J[k].1.nd s=false):relA s (J.take (k+1))=relA s (J.take k):=by
 unfold relA
 rw [List.take_succ_eq_append_getElem h,List.filter_append]
 simp [he]
theorem relA_turn (h:k<J.length)(he:sE J[k].1.nd s=true):relA s (J.take (k+1))=relA s (J.take k) ++ [(3,J[k].1.nm,J[k].1.nd)]:=by
 unfold relA
 rw [List.take_succ_eq_append_getElem h,List.filter_append,List.map_append]
 have h1:[J[k]].filter (fun x:Jl=>sE x.1.nd s)=[J[k]]:=by rw [List.filter_cons,he];rfl
 rw [h1,sE_iff.1 he]
 rfl
theorem relA_le:(relA s (J.take k)).length<=J.length:=by
 unfold relA
 rw [List.length_map]
 exact Nat.le_trans (List.length_filter_le _ _) (by rw [List.length_take];omega)
end
end
section
open Go.RowKit
theorem OwnK.jobAt {w:World}{b r n c p j:Nat}{L:List Jb}{u:Value}(h:OwnK w b 66 13 (.slice (some ⟨r,0,none⟩) n c) (cellsJ L))(hp:p<L.length)(hu:(L[p].cells)[j]? = some u):w.cell? ⟨r,p * 13+j,none⟩=some u:=by
 have h1:=h.range (p:=p) (by rw [cellsJ_length];exact hp)
 have h2:(cellsJ L)[p]'(by rw [cellsJ_length];exact hp)=L[p].cells:=by simp [cellsJ]
 rw [h2] at h1
 exact h1 j u hu
theorem cellsJ_nd {L:List Jb}{p:Nat}(hp:p<L.length)(s:ByteArray):cellsJ (L.set p { L[p] with nd:=s })=(cellsJ L).set p (((cellsJ L)[p]'(by rw [cellsJ_length];exact hp)).set 11 (.string s)):=by
 simp only [cellsJ,List.map_set,List.getElem_map]
 rfl
theorem OwnK.isRow {w:World}{b r n c k:Nat}{e:TypeId}{l:List (List Value)}(h:OwnK w b e k (.slice (some ⟨r,0,none⟩) n c) l):r<w.heap.size:=h.lt rfl


theorem unbind_any (b r n c p:Nat) (kd:Int)(L:List Jb)(w:World)(hp:p<L.length)(hO:Hid (OwnK w b 66 13 (.slice (some ⟨r,0,none⟩) n c) (cellsJ L))) :
  Calls Tryz.prog 132 #[.pointer (some ⟨r,p * 13,none⟩),.int .i64 kd] w fun e w'=>e = .returned (.agg #[.int .i64 kd,.string L[p].nm,.string L[p].nd])/\OwnK w' b 66 13 (.slice (some ⟨r,0,none⟩) n c) (cellsJ (L.set p L[p].rest))/\GrP (fun k=>k=r) w w':=by
 obtain ⟨nm,hnm⟩:∃ nm,nm=L[p].nm:=⟨_,rfl⟩
 obtain ⟨nd,hnd⟩:∃ nd,nd=L[p].nd:=⟨_,rfl⟩
 rw [<- hnm,<- hnd]
 have k1:∀ (W:World),OwnK W b 66 13 (.slice (some ⟨r,0,none⟩) n c) (cellsJ L)->W.cell? ⟨r,p * 13,none⟩=some (.string nm):=fun W h=>by rw [hnm];exact h.jobAt hp (j:=0) rfl
 have k2:∀ (W:World),OwnK W b 66 13 (.slice (some ⟨r,0,none⟩) n c) (cellsJ L)->W.cell? ⟨r,p * 13+11,none⟩=some (.string nd):=fun W h=>by rw [hnd];exact h.jobAt hp (j:=11) rfl
 have k3:∀ (W:World),OwnK W b 66 13 (.slice (some ⟨r,0,none⟩) n c) (cellsJ L)->W.frozen? ⟨r,p * 13+11,none⟩=false/\OwnK (W.setCell ⟨r,p * 13+11,none⟩ (.string ⟨#[]⟩)) b 66 13 (.slice (some ⟨r,0,none⟩) n c) (cellsJ (L.set p L[p].rest)):=fun W h=>by
  have hq:=h.put (show p<(cellsJ L).length by rw [cellsJ_length];exact hp) (show 11<13 by decide) (.string ⟨#[]⟩)
  exact ⟨hq.2.2,by have e:=cellsJ_nd hp ⟨#[]⟩;unfold Jb.rest;rw [e];exact hq.1⟩
 have K1:=Lib.hid k1;have K2:=Lib.hid k2;have K3:=Lib.hid k3
 clear k1 k2 k3 hnm hnd
 have hr:r<w.heap.size:=hO.out.isRow
 obtain ⟨W0,hW0⟩:∃ W0,W0=w.alloc (.cells #[.int .i64 0,.string ⟨#[]⟩,.string ⟨#[]⟩] 64):=⟨_,rfl⟩
 have HO0:Hid (OwnK W0 b 66 13 (.slice (some ⟨r,0,none⟩) n c) (cellsJ L)):=by rw [hW0];exact hO.out.below ((Below.refl _ _).alloc (Nat.le_refl _) _)
 have HA0:Hid (Bk W0 w.heap.size 64 #[.int .i64 0,.string ⟨#[]⟩,.string ⟨#[]⟩]):=by rw [hW0];exact Bk.fresh _ _ _
 have hB0:Below w.heap.size w W0:=by rw [hW0];exact (Below.refl _ _).alloc (Nat.le_refl _) _
 have hs0:w.heap.size<W0.heap.size:=HA0.out.here
 go_enter Tryz.func132,Tryz.ntmps132
 go_wp2_with fail
 rw [<- hW0]
 clear hW0
 refine wp_region_held_drew (S:=fun W=>OwnK W b 66 13 (.slice (some ⟨r,0,none⟩) n c) (cellsJ L)/\Bk W w.heap.size 64 #[.int .i64 0,.string ⟨#[]⟩,.string ⟨#[]⟩]/\Below w.heap.size w W) (by kernel_rfl) (⟨HO0.out.below (Below.drew (Below.refl _ _)),HA0.out.drewB,Below.drew hB0⟩) (fun hS0=>?_)
 refine wU (i:=0) (v:=?_) rfl ?_ hS0 ?_
 rotate_left
 ·intro W _;go_simp;try with_reducible rfl
 try simp only [Act.put,tD,tB,tA,tE,tF]
 refine wU (i:=1) (v:=?_) rfl ?_ hS0 ?_
 rotate_left
 ·intro W _;go_simp;try with_reducible rfl
 try simp only [Act.put,tZ]
 refine wU (i:=2) (v:=?_) rfl ?_ hS0 ?_
 rotate_left
 ·intro W _;go_simp;try with_reducible rfl
 try simp only [Act.put,tZ]
 refine wU (i:=3) (v:=?_) rfl ?_ hS0 ?_
 rotate_left
 ·intro W _;go_simp;try with_reducible rfl
 try simp only [Act.put,tZ]
 refine wU (i:=4) (v:=?_) rfl ?_ hS0 ?_
 rotate_left
 ·intro W _;go_simp;try with_reducible rfl
 try simp only [Act.put,tZ]
 refine wU (i:=5) (v:=?_) rfl ?_ hS0 ?_
 rotate_left
 ·intro W hSW;have hx:=K1.out _ hSW.1;go_simp;try with_reducible rfl
 try simp only [Act.put,tZ]
 refine wU (i:=6) (v:=?_) rfl ?_ hS0 ?_
 rotate_left
 ·intro W _;go_simp;try with_reducible rfl
 try simp only [Act.put,tZ]
 refine wU (i:=7) (v:=?_) rfl ?_ hS0 ?_
 rotate_left
 ·intro W _;go_simp;try with_reducible rfl
 try simp only [Act.put,tZ]
 refine wU (i:=8) (v:=?_) rfl ?_ hS0 ?_
 rotate_left
 ·intro W _;go_simp;try with_reducible rfl
 try simp only [Act.put,tZ]
 refine wU (i:=9) (v:=?_) rfl ?_ hS0 ?_
 rotate_left
 ·intro W hSW;have hx:=K2.out _ hSW.1;go_simp;try with_reducible rfl
 try simp only [Act.put,tZ]
 refine wU (i:=10) (v:=?_) rfl ?_ hS0 ?_
 rotate_left
 ·intro W _;go_simp;try with_reducible rfl
 try simp only [Act.put,tZ]
 refine wpAnyH_ready (rs:=[11]) (by kernel_rfl) (by simp) ?_
 refine AllReadyH.cons rfl (fun K hK=>?_) AllReadyH.nil
 go_simp
 refine hK.out _ _ (⟨hS0.1.below ((Below.refl _ _).alloc (Nat.le_refl _) _),hS0.2.1.later ((Below.refl _ _).alloc (Nat.le_refl _) _),hS0.2.2.trans ((Below.refl _ _).alloc hS0.2.2.size _)⟩) (fun hS1=>?_)
 clear hK K
 try simp only [Act.put,tZ]
 have HB5:Hid (Bk _ W0.heap.size 64 #[.int .i64 0,.string ⟨#[]⟩,.string ⟨#[]⟩]):=Bk.fresh W0.drew 64 #[.int .i64 0,.string ⟨#[]⟩,.string ⟨#[]⟩]
 refine wpAnyH_ready (rs:=[12]) (by kernel_rfl) (by simp) ?_
 refine AllReadyH.cons rfl (fun K hK=>?_) AllReadyH.nil
 rw [if_pos (by rfl)]
 refine store_bk_op 64 (.tmp 5) (.tmp 16) rfl W0.heap.size 0 #[.int .i64 kd,.string nm,.string nd] rfl rfl 64 #[.int .i64 0,.string ⟨#[]⟩,.string ⟨#[]⟩] #[.int .i64 kd,.string nm,.string nd] HB5.out (by kernel_rfl) (by simp) (by kernel_rfl) rfl ?_
 intro w2 hB2 hg2 hs2
 refine hK.out _ _ (⟨hS1.1.grp (GrP.of hg2) (fun k hk e=>by injection e with e;injection hk with hk;simp only at hk;omega),hS1.2.1.grp (GrP.of hg2) (fun e=>by injection e with e;omega),hS1.2.2.grown hg2 hS1.2.2.size (fun q e=>by injection e with e;omega)⟩) (fun hS2=>?_)
 clear hK K
 try simp only [Act.put,tZ]
 refine wpAnyH_done (by kernel_rfl) ?_ _
 have HO2:=Lib.hid hS2.1;have HA2:=Lib.hid hS2.2.1;have hb2:=hS2.2.2
 have HB2:=Lib.hid hB2
 have f11:w2.frozen? ⟨r,p * 13+11,none⟩=false:=(K3.out _ HO2.out).1
 have c11:w2.cell? ⟨r,p * 13+11,none⟩=some (.string nd):=K2.out _ HO2.out
 clear hS0 hS1 hS2 hB2 hg2 hs2 HB5 HO0 HA0
 have HO3:Hid (OwnK (w2.setCell ⟨r,p * 13+11,none⟩ (.string ⟨#[]⟩)) b 66 13 (.slice (some ⟨r,0,none⟩) n c) (cellsJ (L.set p L[p].rest))):=(K3.out _ HO2.out).2
 have hG3:GrP (fun k=>k=r) w (w2.setCell ⟨r,p * 13+11,none⟩ (.string ⟨#[]⟩)):=(GrP.ofBelow (p:=fun k=>k=r) hb2).set rfl _
 have HB3:Hid (Bk (w2.setCell ⟨r,p * 13+11,none⟩ (.string ⟨#[]⟩)) W0.heap.size 64 #[.int .i64 kd,.string nm,.string nd]):=HB2.out.set (fun e=>by simp only at e;omega) _
 have HA3:Hid (Bk (w2.setCell ⟨r,p * 13+11,none⟩ (.string ⟨#[]⟩)) w.heap.size 64 #[.int .i64 0,.string ⟨#[]⟩,.string ⟨#[]⟩]):=HA2.out.set (fun e=>by simp only at e;omega) _
 clear HO2 HA2 HB2
 go_wp2_with (first
  | (with_reducible refine load_bk rfl 64 _ rfl W0.heap.size 0 rfl 64 #[.int .i64 kd,.string nm,.string nd] #[.int .i64 kd,.string nm,.string nd] _ HB3.out (Part.whole _) Tryz.underlying64 rfl (by kernel_rfl) ?_)
  | (with_reducible refine store_bk rfl 64 (.tmp 4) (.tmp 20) rfl w.heap.size 0 #[.int .i64 kd,.string nm,.string nd] rfl rfl 64 #[.int .i64 0,.string ⟨#[]⟩,.string ⟨#[]⟩] #[.int .i64 kd,.string nm,.string nd] HA3.out (by kernel_rfl) (by simp) (by kernel_rfl) rfl ?_;intro w4 hB4 hg4 hs4))
 exact bodyPost_ret (v:=.agg #[.int .i64 kd,.string nm,.string nd]) (results_bk1 Tryz.results132 _ _ w.heap.size 64 _ _ rfl hB4 Tryz.underlying64 rfl (by kernel_rfl)) rfl ⟨rfl,HO3.out.grp (GrP.of hg4) (fun k hk e=>by injection e with e;injection hk with hk;simp only at hk;omega),by
  have h5:GrP (fun k=>k=r ∨ k=w.heap.size) w _:=(hG3.wide fun k _ e=>.inl e).trans ((GrP.of hg4).wide fun k _ e=>.inr (by injection e with e;exact e.symm))
  exact h5.wide fun k hk e=>e.resolve_right (by omega)⟩

theorem removeQ_any (base:Nat)(v:Value)(L:List Qx) (i:Nat)(w:World)(hbig:L.length<=1000)(hi:i<L.length)(hO:Hid (OwnK w base 45 4 v (cellsQ L))) :
  Calls Tryz.prog 130 #[v,.int .i64 i] w fun e w'=>(∃ v',e = .returned v' /\ OwnK w' base 45 4 v' (cellsQ (L.eraseIdx i))/\v'.ownBlock=v.ownBlock)/\GrP (fun k=>v.ownBlock=some k) w w':=by
 have k1:=fun W h=>deleteQ_any base v L i W hbig hi h
 have hw1:IntKind.i64.wrap ((i:Int)+1)=(i:Int)+1:=by rw [IntKind.wrap_i64];omega
 have K1:=Lib.hid k1
 clear k1
 obtain ⟨A,c,hv,_⟩:=hO.out.sl
 subst hv
 go_enter Tryz.func130,Tryz.ntmps130
 go_wp2_with fail
 refine (K1.out _ hO).mono ?_;rintro e w1 ⟨⟨v',rfl,h1,h2⟩,h3,_⟩
 go_wp2_with fail
 go_ret
 exact ⟨⟨v',rfl,h1,h2⟩,GrP.of h3⟩

theorem removeM_any (base:Nat)(v:Value)(L:List Mc) (i:Nat)(w:World)(hbig:L.length<=1000)(hi:i<L.length)(hO:Hid (OwnK w base 60 7 v (cellsM L))) :
  Calls Tryz.prog 127 #[v,.int .i64 i] w fun e w'=>(∃ v',e = .returned v' /\ OwnK w' base 60 7 v' (cellsM (L.eraseIdx i))/\v'.ownBlock=v.ownBlock)/\GrP (fun k=>v.ownBlock=some k) w w':=by
 have k1:=fun W h=>deleteM_any base v L i W hbig hi h
 have hw1:IntKind.i64.wrap ((i:Int)+1)=(i:Int)+1:=by rw [IntKind.wrap_i64];omega
 have K1:=Lib.hid k1
 clear k1
 obtain ⟨A,c,hv,_⟩:=hO.out.sl
 subst hv
 go_enter Tryz.func127,Tryz.ntmps127
 go_wp2_with fail
 refine (K1.out _ hO).mono ?_;rintro e w1 ⟨⟨v',rfl,h1,h2⟩,h3,_⟩
 go_wp2_with fail
 go_ret
 exact ⟨⟨v',rfl,h1,h2⟩,GrP.of h3⟩

theorem removeJ_any (base:Nat)(v:Value)(L:List Jb) (i:Nat)(w:World)(hbig:L.length<=1000)(hi:i<L.length)(hO:Hid (OwnK w base 66 13 v (cellsJ L))) :
  Calls Tryz.prog 133 #[v,.int .i64 i] w fun e w'=>(∃ v',e = .returned v' /\ OwnK w' base 66 13 v' (cellsJ (L.eraseIdx i))/\v'.ownBlock=v.ownBlock)/\GrP (fun k=>v.ownBlock=some k) w w':=by
 have k1:=fun W h=>deleteJ_any base v L i W hbig hi h
 have hw1:IntKind.i64.wrap ((i:Int)+1)=(i:Int)+1:=by rw [IntKind.wrap_i64];omega
 have K1:=Lib.hid k1
 clear k1
 obtain ⟨A,c,hv,_⟩:=hO.out.sl
 subst hv
 go_enter Tryz.func133,Tryz.ntmps133
 go_wp2_with fail
 refine (K1.out _ hO).mono ?_;rintro e w1 ⟨⟨v',rfl,h1,h2⟩,h3,_⟩
 go_wp2_with fail
 go_ret
 exact ⟨⟨v',rfl,h1,h2⟩,GrP.of h3⟩
end
end Go.Proofs.YtccccbofcnmdiaaGreat
