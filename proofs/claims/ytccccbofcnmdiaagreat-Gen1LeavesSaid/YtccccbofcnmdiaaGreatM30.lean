/- Lemmas that the law stands on. No condition. -/
import Derived.Test.YtccccbofcnmdiaaGreatM29
namespace Go.Proofs.YtccccbofcnmdiaaGreat
set_option linter.unusedSimpArgs false
set_option linter.unusedVariables false
set_option maxRecDepth 100000
set_option maxHeartbeats 51200000
section
open Go.RowKit


theorem perform_any9 (bs:Bst) (ch:Chs15) (un:Uns) (hB:BestK bs) (hC:ChoK ch) (hUn:UniK un) (b g:Nat) (vM vQ vJ:Value) (S:Sg) (x:Oz) (hk:x.v.k=9) (hM:Sm S) (hbo:BoK 1152921504606846976 S.J):Performs b g vM vQ vJ S x (tickG bs ch un S):=by
 intro w hG hx
 have k1:=fun (W:World) (h:∃ lst,Gs W b g lst vM vQ vJ S)=>h.elim fun lst h=>tick_any bs ch un hB hC hUn b g lst vM vQ vJ S W h hM hbo
 obtain ⟨R,hR⟩:∃ R,R=tickG bs ch un S:=⟨_,rfl⟩
 rw [<- hR] at k1 ⊢
 have K1:=Lib.hid k1;have HG:=Lib.hid hG
 clear k1 hG hx hM hbo hR hB hC hUn
 obtain ⟨⟨k,nn,a1,b1,c1,l1,qn,a2,b2,c2,tn,tq,tp,a3,b3,c3,l3,ta,tg,ts,s⟩,A1,m1,p1,A3,m3,p3⟩:=x
 simp only at hk
 subst hk
 obtain ⟨R1,err,acts⟩:=R
 obtain ⟨oc,hoc⟩:∃ oc:Array Value,oc = #[.int .i64 9,.string nn,.int .i64 a1,.int .i64 b1,.int .i64 c1,.slice A1 m1 p1,.string qn,.int .i64 a2,.int .i64 b2,.int .i64 c2,.string tn,.string tq,.int .i64 tp,.int .i64 a3,.int .i64 b3,.int .i64 c3,.slice A3 m3 p3,.string ta,.string tg,.int .i64 ts,.string s]:=⟨_,rfl⟩
 have hB0:Below w.heap.size w (w.alloc (.cells #[.int .i64 9,.string nn,.int .i64 a1,.int .i64 b1,.int .i64 c1,.slice A1 m1 p1,.string qn,.int .i64 a2,.int .i64 b2,.int .i64 c2,.string tn,.string tq,.int .i64 tp,.int .i64 a3,.int .i64 b3,.int .i64 c3,.slice A3 m3 p3,.string ta,.string tg,.int .i64 ts,.string s] 49)):=(Below.refl _ _).alloc (Nat.le_refl _) _
 clear hoc
 go_enter Tryz.func44,Tryz.ntmps44
 go_wp2_with fail
 refine (K1.out _ (HG.out.elim fun lst h=>⟨lst,h.below hB0⟩)).mono ?_;rintro e w2 ⟨⟨A,n,c,rfl,hRL⟩,hW⟩
 have HW:=Lib.hid hW;have HR:=Lib.hid hRL;clear hW hRL
 go_wp2_with fail
 exact bodyPost_ret (v:=.tuple #[.slice A n c,.int .i64 err]) (by simp [results,Tryz.results44,go_sem]) rfl ⟨⟨A,n,c,rfl,HR.out.base hB0.size⟩,Went.before hB0 HW.out⟩
section
variable (bs:Bst) (ch:Chs15) (un:Uns)
def opG (S:Sg) (v:Ov):Sg × An:=
 if v.k=1 then addN S v.nn v.a1 v.b1 v.c1 v.l1 else if v.k=2 then dropN' S v.s else if v.k=3 then addQ S (v.qn,v.a2,v.b2,v.c2) else if v.k=4 then dropQ S v.s
 else if v.k=5 then subJ S v.tn v.tq v.tp v.a3 v.b3 v.c3 v.ta v.tg v.ts v.l3 else if v.k=6 then canJ S v.s else if v.k=7 then finJ S v.s else if v.k=8 then beatN S v.s else tickG bs ch un S
def stepG (S:Sg) (v:Ov):Sg × An:=if opB v then opG bs ch un S v else (S,1,[])
end
structure Inv (S:Sg):Prop where
 sm:Sm S
 asc:AscS S
 bo:BoK 1152921504606846976 S.J
theorem performs_any (bs:Bst) (ch:Chs15) (un:Uns) (hB:BestK bs) (hC:ChoK ch) (hUn:UniK un) (b g:Nat) (vM vQ vJ:Value) (S:Sg) (x:Oz) (hI:Inv S) (hb:opB x.v=true) (h1:x.v.l1.length<=1000) (h3:x.v.l3.length<=1000):Performs b g vM vQ vJ S x (opG bs ch un S x.v):=by
 have hk:1<=x.v.k/\x.v.k<=9:=by
  by_cases h:1<=x.v.k/\x.v.k<=9
  ·exact h
  ·rw [opB_no h] at hb;cases hb
 have hc:x.v.k=1 ∨ x.v.k=2 ∨ x.v.k=3 ∨ x.v.k=4 ∨ x.v.k=5 ∨ x.v.k=6 ∨ x.v.k=7 ∨ x.v.k=8 ∨ x.v.k=9:=by omega
 unfold opG
 rcases hc with h | h | h | h | h | h | h | h | h
 ·rw [if_pos h];exact perform_any1 b g vM vQ vJ S x h hI.sm hI.asc h1
 ·rw [if_neg (by omega),if_pos h];exact perform_any2 b g vM vQ vJ S x h hI.sm hI.asc h3
 ·rw [if_neg (by omega),if_neg (by omega),if_pos h];exact perform_any3 b g vM vQ vJ S x h hI.sm hI.asc
 ·rw [if_neg (by omega),if_neg (by omega),if_neg (by omega),if_pos h];exact perform_any4 b g vM vQ vJ S x h hI.sm hI.asc h3
 ·rw [if_neg (by omega),if_neg (by omega),if_neg (by omega),if_neg (by omega),if_pos h];exact perform_any5 b g vM vQ vJ S x h hI.sm hI.asc h3
 ·rw [if_neg (by omega),if_neg (by omega),if_neg (by omega),if_neg (by omega),if_neg (by omega),if_pos h];exact perform_any6 b g vM vQ vJ S x h hI.sm hI.asc h3
 ·rw [if_neg (by omega),if_neg (by omega),if_neg (by omega),if_neg (by omega),if_neg (by omega),if_neg (by omega),if_pos h];exact perform_any7 b g vM vQ vJ S x h hI.sm hI.asc h3
 ·rw [if_neg (by omega),if_neg (by omega),if_neg (by omega),if_neg (by omega),if_neg (by omega),if_neg (by omega),if_neg (by omega),if_pos h];exact perform_any8 b g vM vQ vJ S x h hI.sm hI.asc h3
 ·rw [if_neg (by omega),if_neg (by omega),if_neg (by omega),if_neg (by omega),if_neg (by omega),if_neg (by omega),if_neg (by omega),if_neg (by omega)];exact perform_any9 bs ch un hB hC hUn b g vM vQ vJ S x h hI.sm hI.bo
theorem doG_any (bs:Bst) (ch:Chs15) (un:Uns) (hB:BestK bs) (hC:ChoK ch) (hUn:UniK un) (b g:Nat) (lst:Int) (vM vQ vJ:Value) (S:Sg) (x:Oz) (w:World) (hG:Gs w b g lst vM vQ vJ S) (hI:Inv S) (hx:OzOk w x) (h1:x.v.l1.length<=1000) (h3:x.v.l3.length<=1000) :
  Calls Tryz.prog 18 #[.pointer (some ⟨g,0,none⟩),.agg x.arr] w fun e w'=>
   (∃ A n c,e = .returned (.agg #[.int .i64 (stepG bs ch un S x.v).2.1,.slice A n c])/\RetL w.heap.size w' A n c (stepG bs ch un S x.v).2.2)/\Went w w' b g vM vQ vJ S (stepG bs ch un S x.v).1:=by
 have h:=do_any b g vM vQ vJ S x (opG bs ch un S x.v) w ⟨lst,hG⟩ hx fun hb=>performs_any bs ch un hB hC hUn b g vM vQ vJ S x hI hb h1 h3
 unfold stepG
 cases hb:opB x.v with
 | true=>rw [hb] at h;exact h
 | false=>rw [hb] at h;exact h
end
section
open Go.RowKit
def cellsS (l:List ByteArray):List (List Value):=l.map fun s=>[.string s]
theorem cellsS_length (l:List ByteArray):(cellsS l).length=l.length:=by simp [cellsS]
theorem cellsS_append (l m:List ByteArray):cellsS (l ++ m)=cellsS l ++ cellsS m:=by simp [cellsS]
theorem cellsS_k (l:List ByteArray):∀ x ∈ cellsS l,x.length=1:=by
 intro x hx
 simp only [cellsS,List.mem_map] at hx
 obtain ⟨j,_,rfl⟩:=hx
 rfl
theorem cellsS_one (l:List ByteArray):∀ y ∈ cellsS l,∀ u ∈ y,u.oneCell' = true:=by
 intro x hx u hu
 simp only [cellsS,List.mem_map] at hx
 obtain ⟨j,_,rfl⟩:=hx
 simp at hu;subst hu;rfl
def RdS (w:World) (A:Option Addr) (l:List ByteArray):Prop:=RdK w 1 A (cellsS l)
theorem RdS.at {w:World} {A:Option Addr} {l:List ByteArray} (h:RdS w A l) {i:Nat} (hi:i<l.length):∃ g o,A=some ⟨g,o,none⟩/\g<w.heap.size/\w.cell? ⟨g,o+i,none⟩=some (.string l[i]):=by
 obtain ⟨g,o,ha,hr⟩:=RdK.at h (i:=i) (by rw [cellsS_length];exact hi)
 have hc:=hr 0 (.string l[i]) (by simp [cellsS])
 rw [Nat.mul_one,Nat.add_zero] at hc
 exact ⟨g,o,ha,World.block_lt_of_cell? w _ hc,hc⟩
theorem OwnK.rds {w:World} {base:Nat} {e:TypeId} {v:Value} {l:List ByteArray} (h:OwnK w base e 1 v (cellsS l)):∃ A c,v = .slice A l.length c/\RdS w A l/\l.length<=c/\c<=9223372036854775807:=by
 obtain ⟨A,c,hv,hr,h1,h2,_⟩:=h.sl
 rw [cellsS_length] at hv h1
 refine ⟨A,c,hv,hr,h1,?_⟩
 unfold maxLen at h2;omega
def cellsI (l:List Int):List (List Value):=l.map fun s=>[.int .i64 s]
theorem cellsI_length (l:List Int):(cellsI l).length=l.length:=by simp [cellsI]
theorem cellsI_append (l m:List Int):cellsI (l ++ m)=cellsI l ++ cellsI m:=by simp [cellsI]
theorem cellsI_k (l:List Int):∀ x ∈ cellsI l,x.length=1:=by
 intro x hx
 simp only [cellsI,List.mem_map] at hx
 obtain ⟨j,_,rfl⟩:=hx
 rfl
theorem cellsI_one (l:List Int):∀ y ∈ cellsI l,∀ u ∈ y,u.oneCell' = true:=by
 intro x hx u hu
 simp only [cellsI,List.mem_map] at hx
 obtain ⟨j,_,rfl⟩:=hx
 simp at hu;subst hu;rfl
def RdI (w:World) (A:Option Addr) (l:List Int):Prop:=RdK w 1 A (cellsI l)
theorem RdI.later {w w':World} {A:Option Addr} {l:List Int} (h:RdI w A l) (hb:Below w.heap.size w w'):RdI w' A l:=RdK.later h hb
theorem RdI.at {w:World} {A:Option Addr} {l:List Int} (h:RdI w A l) {i:Nat} (hi:i<l.length):∃ g o,A=some ⟨g,o,none⟩/\g<w.heap.size/\w.cell? ⟨g,o+i,none⟩=some (.int .i64 l[i]):=by
 obtain ⟨g,o,ha,hr⟩:=RdK.at h (i:=i) (by rw [cellsI_length];exact hi)
 have hc:=hr 0 (.int .i64 l[i]) (by simp [cellsI])
 rw [Nat.mul_one,Nat.add_zero] at hc
 exact ⟨g,o,ha,World.block_lt_of_cell? w _ hc,hc⟩
theorem OwnK.rdi {w:World} {base:Nat} {e:TypeId} {v:Value} {l:List Int} (h:OwnK w base e 1 v (cellsI l)):∃ A c,v = .slice A l.length c/\RdI w A l/\l.length<=c/\c<=9223372036854775807:=by
 obtain ⟨A,c,hv,hr,h1,h2,_⟩:=h.sl
 rw [cellsI_length] at hv h1
 refine ⟨A,c,hv,hr,h1,?_⟩
 unfold maxLen at h2;omega
theorem infoS:(Tryz.prog.info? 9).map (fun i=>(i.zero,i.size,i.bytes))=some (some (.string ⟨#[]⟩),1,16):=by kernel_rfl
theorem infoI:(Tryz.prog.info? 3).map (fun i=>(i.zero,i.size,i.bytes))=some (some (.int .i64 0),1,8):=by kernel_rfl
def RetS (b:Nat) (w:World) (e:Ending) (l:List ByteArray):Prop:=∃ v,e = .returned v/\OwnK w b 9 1 v (cellsS l)
section
variable {o:Oper} {a:Act} {w:World} {K:Act->World->Prop} {Q:Exit->Act->World->Prop}
end
end
section
open Go.RowKit
section
variable {P:Program}
end
def insB (p:Nat->Bool) (x:Nat) (l:List Nat):List Nat:=(l.reverse.dropWhile p).reverse ++ x :: (l.reverse.takeWhile p).reverse
theorem insB_len (p:Nat->Bool) (x:Nat) (l:List Nat):(insB p x l).length=l.length+1:=by
 have h:(l.reverse.takeWhile p).length+(l.reverse.dropWhile p).length=l.length:=by rw [<- List.length_append,List.takeWhile_append_dropWhile,List.length_reverse]
 unfold insB
 rw [List.length_append,List.length_cons,List.length_reverse,List.length_reverse];omega
theorem insB_mem {p:Nat->Bool} {x y:Nat} {l:List Nat} (h:y ∈ insB p x l):y=x ∨ y ∈ l:=by
 unfold insB at h
 rw [List.mem_append,List.mem_cons,List.mem_reverse,List.mem_reverse] at h
 rcases h with h | h | h
 ·exact .inr (List.mem_reverse.1 ((List.dropWhile_sublist _).subset h))
 ·exact .inl h
 ·exact .inr (List.mem_reverse.1 ((List.takeWhile_sublist _).subset h))
def wk (c:Nat->Bool) (ah:Nat->Nat->Bool) (k:Nat):List Nat:=(List.range k).foldl (fun out i=>if c i then insB (ah i) i out else out) []
section
variable {c:Nat->Bool} {ah:Nat->Nat->Bool} {k:Nat}
theorem wk_zero:wk c ah 0=[]:=rfl
theorem wk_succ:wk c ah (k+1)=if c k then insB (ah k) k (wk c ah k) else wk c ah k:=by
 unfold wk;rw [List.range_succ,List.foldl_append];rfl
theorem wk_len:∀ k,(wk c ah k).length<=k
 | 0=>by simp [wk_zero]
 | k+1=>by
  have:=wk_len k
  rw [wk_succ]
  split
  ·rw [insB_len];omega
  ·omega
theorem wk_lt:∀ k,∀ y ∈ wk c ah k,y<k
 | 0=>by simp [wk_zero]
 | k+1=>fun y hy=>by
  rw [wk_succ] at hy
  split at hy
  ·rcases insB_mem hy with rfl | h
   ·omega
   ·have:=wk_lt k y h;omega
  ·have:=wk_lt k y hy;omega
theorem wk_ok:∀ k,∀ y ∈ wk c ah k,c y=true
 | 0=>by simp [wk_zero]
 | k+1=>fun y hy=>by
  rw [wk_succ] at hy
  split at hy
  ·rename_i h
   rcases insB_mem hy with rfl | h'
   ·exact h
   ·exact wk_ok k y h'
  ·exact wk_ok k y hy
end
instance:Inhabited Jb:=⟨⟨⟨#[]⟩,⟨#[]⟩,0,0,0,0,none,0,0,⟨#[]⟩,⟨#[]⟩,0,0,⟨#[]⟩,0⟩⟩
abbrev jat (l:List Jb) (i:Nat):Jb:=l.getD i default
theorem jat_at {l:List Jb} {i:Nat} (h:i<l.length):jat l i=l[i]:=by simp [jat,List.getD,List.getElem?_eq_getElem h]
abbrev ints (l:List Nat):List Int:=l.map fun (n:Nat)=>(n:Int)
end
section
open Go.RowKit
def goB (a b:Jb):Bool:=decide (a.pr<b.pr) || (decide (a.pr=b.pr) && decide (b.sq<a.sq))
def tryB (a b:Jb):Bool:=decide (b.pr<a.pr) || (decide (a.pr=b.pr) && decide (a.sq<b.sq))
end
section
open Go.RowKit
def waitC (l:List Jb) (i:Nat):Bool:=decide ((jat l i).nd.size=0)
def srt14 (l:List Jb) (k:Nat):List Nat:=wk (waitC l) (fun i y=>tryB (jat l i) (jat l y)) k
def RetI14 (b:Nat) (w:World) (e:Ending) (l:List Int):Prop:=∃ v,e = .returned v/\OwnK w b 3 1 v (cellsI l)
end
section
open Go.RowKit
theorem JAt.ga {w:World} {g o:Nat} {j:Jb} (h:JAt w g o j):w.cell? ⟨g,o+8,none⟩=some (.string j.ga):=h.rg 8 _ rfl
def manyK (l:List Jb) (s:ByteArray) (k:Nat):Nat:=((l.take k).filter fun j=>sE j.ga s).length
theorem manyK_succ {l:List Jb} {s:ByteArray} {k:Nat} (h:k<l.length):manyK l s (k+1)=manyK l s k+if sE l[k].ga s then 1 else 0:=by
 unfold manyK
 rw [List.take_succ_eq_append_getElem h,List.filter_append,List.length_append]
 cases he:sE l[k].ga s
 ·rw [List.filter_cons_of_neg (by simp [he])];rfl
 ·rw [List.filter_cons_of_pos (p:=fun j:Jb=>sE j.ga s) he];rfl
theorem manyK_le (l:List Jb) (s:ByteArray) (k:Nat):manyK l s k<=k:=by
 unfold manyK
 refine Nat.le_trans (List.length_filter_le _ _) ?_
 rw [List.length_take];omega
def firstK (l:List Jb) (s:ByteArray) (S:List Nat):Bool:=S.all fun y=>!sE (jat l y).ga s
def gangOf (l:List Jb) (s:ByteArray) (S:List Nat):List Nat:=S.filter fun y=>sE (jat l y).ga s
def unitAt (l:List Jb) (S T:List Nat) (p:Nat):List (List Nat):=
 if (jat l p).ga.size=0 then [[p]] else if firstK l (jat l p).ga T && decide ((jat l p).sz<=(manyK l (jat l p).ga l.length:Int)) then [gangOf l (jat l p).ga S] else []
def unitsK (l:List Jb) (S:List Nat) (k:Nat):List (List Nat):=((List.range k).map fun i=>unitAt l S (S.take i) (S.getD i 0)).flatten
theorem unitsK_succ {l:List Jb} {S:List Nat} {k:Nat} (h:k<S.length):unitsK l S (k+1)=unitsK l S k ++ unitAt l S (S.take k) S[k]:=by
 unfold unitsK
 rw [List.range_succ,List.map_append,List.flatten_append]
 simp [List.getD,List.getElem?_eq_getElem h]
theorem unitAt_len (l:List Jb) (S T:List Nat) (p:Nat):(unitAt l S T p).length<=1:=by
 unfold unitAt;split
 ·simp
 ·split <;> simp
theorem unitsK_len (l:List Jb) (S:List Nat):∀ k,(unitsK l S k).length<=k
 | 0=>by simp [unitsK]
 | k+1=>by
  have h:=unitsK_len l S k
  unfold unitsK at h ⊢
  rw [List.range_succ,List.map_append,List.flatten_append,List.length_append]
  have:=unitAt_len l S (S.take k) (S.getD k 0)
  simp only [List.map_cons,List.map_nil,List.flatten_cons,List.flatten_nil,List.append_nil]
  omega
def cellsW (vs:List Value):List (List Value):=vs.map fun v=>[v]
theorem cellsW_length (vs:List Value):(cellsW vs).length=vs.length:=by simp [cellsW]
theorem cellsW_append (a b:List Value):cellsW (a ++ b)=cellsW a ++ cellsW b:=by simp [cellsW]
theorem cellsW_k (vs:List Value):∀ x ∈ cellsW vs,x.length=1:=by
 intro x hx
 simp only [cellsW,List.mem_map] at hx
 obtain ⟨j,_,rfl⟩:=hx
 rfl
theorem OwnK.apart {w:World} {b b' k k':Nat} {e e':TypeId} {v v':Value} {l l':List (List Value)} (h:OwnK w b e k v l) (h':OwnK w b' e' k' v' l') (hne:e ≠ e'):v.ownBlock=none ∨ v.ownBlock ≠ v'.ownBlock:=by
 rcases h.2.2 with ⟨rfl,_⟩ | ⟨g,cap,cur,rfl,_,hg,_⟩
 ·exact .inl rfl
 ·rcases h'.2.2 with ⟨rfl,_⟩ | ⟨g',cap',cur',rfl,_,hg',_⟩
  ·exact .inr (by intro e;cases e)
  ·refine .inr fun he=>?_
   injection he with he
   subst he
   have:=hg.symm.trans hg'
   injection this with this
   injection this with _ this
   exact hne this
theorem OwnK.grown {w w':World} {b k:Nat} {e:TypeId} {v:Value} {l:List (List Value)} {row:Option Nat} (h:OwnK w b e k v l) (hg:w.grownBy w' row) (hne:v.ownBlock=none ∨ v.ownBlock ≠ row):OwnK w' b e k v l:=⟨h.1,World.ownsRow.kept h.2 hg hne⟩
theorem OwnK.lit1 (w:World) (b:Nat) (e:TypeId) (v:Value) (hb:b<=w.heap.size):OwnK (w.alloc (.cells #[v] e)) b e 1 (.slice (some ⟨w.heap.size,0,none⟩) 1 1) [[v]]:=
 ⟨by simp,by have h:=World.ownsRow_lit (base:=b) (e:=e) (size:=1) w #[v] 1 hb (by simp [maxLen]) rfl;simpa using h⟩
structure UOk (w:World) (b:Nat) (vs:List Value) (U:List (List Nat)):Prop where
 len:vs.length=U.length
 el:∀ (i:Nat) (u:List Nat),U[i]? = some u -> ∃ v,vs[i]? = some v/\OwnK w b 3 1 v (cellsI (ints u))
theorem UOk.later {w w':World} {b:Nat} {vs:List Value} {U:List (List Nat)} (h:UOk w b vs U) (hb:Below w.heap.size w w'):UOk w' b vs U:=⟨h.len,fun i u hu=>by
 obtain ⟨v,h1,h2⟩:=h.el i u hu
 exact ⟨v,h1,h2.below hb⟩⟩
theorem UOk.grown {w w':World} {b b':Nat} {vs:List Value} {U:List (List Nat)} {v:Value} {l:List (List Value)} (h:UOk w b vs U) (ho:OwnK w b' 150 1 v l) (hg:w.grownBy w' v.ownBlock):UOk w' b vs U:=⟨h.len,fun i u hu=>by
 obtain ⟨v,h1,h2⟩:=h.el i u hu
 exact ⟨v,h1,h2.grown hg (h2.apart ho (by decide))⟩⟩
theorem UOk.nil (w:World) (b:Nat):UOk w b [] []:=⟨rfl,fun i u hu=>by simp at hu⟩
theorem UOk.snoc {w:World} {b:Nat} {vs:List Value} {U:List (List Nat)} (h:UOk w b vs U) {v:Value} {u:List Nat} (hr:OwnK w b 3 1 v (cellsI (ints u))):UOk w b (vs ++ [v]) (U ++ [u]):=by
 refine ⟨by simp [h.len],fun i x hx=>?_⟩
 by_cases hi:i<U.length
 ·rw [List.getElem?_append_left hi] at hx
  obtain ⟨v',h1,h2⟩:=h.el i x hx
  exact ⟨v',by rw [List.getElem?_append_left (by rw [h.len];exact hi)];exact h1,h2⟩
 ·rw [List.getElem?_append_right (by omega)] at hx
  have hi0:i - U.length=0:=by
   have:=(List.getElem?_eq_some_iff.1 hx).1
   simp at this;omega
  rw [hi0] at hx
  simp at hx;subst hx
  exact ⟨v,by rw [List.getElem?_append_right (by rw [h.len];omega),h.len,hi0];rfl,hr⟩
def RetU (b:Nat) (w:World) (e:Ending) (U:List (List Nat)):Prop:=∃ v vs,e = .returned v/\OwnK w b 150 1 v (cellsW vs)/\UOk w b vs U
theorem infoU:(Tryz.prog.info? 150).map (fun i=>(i.zero,i.size,i.bytes))=some (some (.slice none 0 0),1,24):=by kernel_rfl
end
section
section
variable {ah:Nat->Nat->Bool}
def Fore (ah:Nat->Nat->Bool) (u v:Nat):Prop:=ah u v=true ∨ (ah v u=false/\u<v)
theorem fore_one (has:∀ u v,ah u v=true->ah v u=false):∀ {E F:List Nat},E.Pairwise (Fore ah)->F.Pairwise (Fore ah)->E.Perm F->E=F
 | [],F,_,_,h=>h.nil_eq
 | x :: E,[],_,_,h=>by have:=h.length_eq;simp at this
 | x :: E,y :: F,h1,h2,h=>by
  rw [List.pairwise_cons] at h1 h2
  have hx:x ∈ y :: F:=h.subset (by simp)
  have hy:y ∈ x :: E:=h.symm.subset (by simp)
  have e:x=y:=by
   rcases List.mem_cons.1 hx with hx | hx
   ·exact hx
   ·rcases List.mem_cons.1 hy with hy | hy
    ·exact hy.symm
    ·rcases h1.1 y hy with k1 | ⟨k1,k2⟩
     ·rcases h2.1 x hx with k3 | ⟨k3,k4⟩
      ·have:=has _ _ k1;rw [k3] at this;cases this
      ·rw [k1] at k3;cases k3
     ·rcases h2.1 x hx with k3 | ⟨k3,k4⟩
      ·rw [k3] at k1;cases k1
      ·omega
  subst e
  rw [fore_one has h1.2 h2.2 ((List.perm_cons x).1 h)]
end
end
section
open Go.RowKit
section
variable {c:Nat->Bool} {ah:Nat->Nat->Bool}
theorem insB_perm (p:Nat->Bool) (x:Nat) (l:List Nat):(insB p x l).Perm (x :: l):=by
 unfold insB
 refine List.perm_middle.trans (List.Perm.cons x ?_)
 rw [<- List.reverse_append,List.takeWhile_append_dropWhile,List.reverse_reverse]
theorem wk_perm:∀ k,(wk c ah k).Perm ((List.range k).filter c)
 | 0=>by simp [wk_zero]
 | k+1=>by
  rw [List.range_succ,List.filter_append,wk_succ]
  have ih:=wk_perm k
  cases hc:c k
  ·simp [hc];exact ih
  ·simp only [hc,if_true,List.filter_cons_of_pos,List.filter_nil]
   refine (insB_perm _ _ _).trans ((List.Perm.cons k ih).trans ?_)
   exact (List.perm_append_singleton k _).symm
theorem insB_fore (has:∀ u v,ah u v=true->ah v u=false) (hnt:∀ u v w,ah u v=false->ah v w=false->ah u w=false) {x:Nat} {l:List Nat} (h:l.Pairwise (Fore ah)) (hx:∀ y ∈ l,y<x):(insB (ah x) x l).Pairwise (Fore ah):=by
 unfold insB
 have hl:l=(l.reverse.dropWhile (ah x)).reverse ++ (l.reverse.takeWhile (ah x)).reverse:=by
  rw [<- List.reverse_append,List.takeWhile_append_dropWhile,List.reverse_reverse]
 have h':=h
 rw [hl,List.pairwise_append] at h'
 obtain ⟨h1,h2,h3⟩:=h'
 have hr:∀ v ∈ (l.reverse.takeWhile (ah x)).reverse,ah x v=true:=by
  intro v hv
  rw [List.mem_reverse] at hv
  have:=List.all_takeWhile (p:=ah x) (l:=l.reverse)
  rw [List.all_eq_true] at this
  exact this v hv
 have hlft:∀ u ∈ (l.reverse.dropWhile (ah x)).reverse,ah x u=false:=by
  cases hq:l.reverse.dropWhile (ah x) with
  | nil=>intro u hu;simp at hu
  | cons z r=>
   have hz:ah x z=false:=by
    have:=List.head_dropWhile_not (ah x) (l:=l.reverse) (by rw [hq];simp)
    simpa [hq] using this
   rw [hq,List.reverse_cons,List.pairwise_append] at h1
   intro u hu
   rw [List.reverse_cons] at hu
   rcases List.mem_append.1 hu with hu | hu
   ·have:=h1.2.2 u hu z (by simp)
    rcases this with h | ⟨h,_⟩
    ·exact hnt x z u hz (has u z h)
    ·exact hnt x z u hz h
   ·simp at hu;subst hu;exact hz
 have hxl:∀ u ∈ (l.reverse.dropWhile (ah x)).reverse,u<x:=fun u hu=>hx u (by rw [hl];exact List.mem_append.2 (.inl hu))
 rw [List.pairwise_append]
 refine ⟨h1,List.pairwise_cons.2 ⟨fun v hv=>.inl (hr v hv),h2⟩,?_⟩
 intro u hu v hv
 rcases List.mem_cons.1 hv with rfl | hv
 ·exact .inr ⟨hlft u hu,hxl u hu⟩
 ·exact h3 u hu v hv
theorem wk_fore (has:∀ u v,ah u v=true->ah v u=false) (hnt:∀ u v w,ah u v=false->ah v w=false->ah u w=false):∀ k,(wk c ah k).Pairwise (Fore ah)
 | 0=>by simp [wk_zero]
 | k+1=>by
  rw [wk_succ]
  split
  ·exact insB_fore has hnt (wk_fore has hnt k) (wk_lt k)
  ·exact wk_fore has hnt k
theorem wk_nodup (k:Nat):(wk c ah k).Nodup:=(wk_perm k).nodup_iff.2 (List.Nodup.sublist List.filter_sublist List.nodup_range)
end
end
section
open Go.RowKit
section
variable {a b c:Jb}
theorem tryB_iff:tryB a b=true ↔ b.pr<a.pr ∨ (a.pr=b.pr/\a.sq<b.sq):=by unfold tryB;simp
theorem tryB_no:tryB a b=false ↔ ¬ (b.pr<a.pr)/\(a.pr=b.pr -> ¬ a.sq<b.sq):=by unfold tryB;simp
theorem tryB_irrefl (a:Jb):tryB a a=false:=by rw [tryB_no];omega
theorem tryB_asymm (h:tryB a b=true):tryB b a=false:=by rw [tryB_iff] at h;rw [tryB_no];omega
theorem tryB_ntrans (h:tryB a b=false) (k:tryB b c=false):tryB a c=false:=by rw [tryB_no] at *;omega
theorem tryB_trans (h:tryB a b=true) (k:tryB b c=true):tryB a c=true:=by rw [tryB_iff] at *;omega
end
section
variable {l:List Jb} {S T:List Nat} {u v:List Nat} {g:ByteArray} {k p i:Nat}
abbrev srtU (l:List Jb):List Nat:=srt14 l l.length
abbrev unitsU (l:List Jb):List (List Nat):=unitsK l (srtU l) (srtU l).length
abbrev ahU (l:List Jb) (i y:Nat):Bool:=tryB (jat l i) (jat l y)
theorem srtU_perm (l:List Jb):(srtU l).Perm ((List.range l.length).filter (waitC l)):=wk_perm l.length
theorem srtU_fore (l:List Jb):(srtU l).Pairwise (Fore (ahU l)):=wk_fore (ah:=ahU l) (fun u v h=>tryB_asymm h) (fun u v w h k=>tryB_ntrans h k) l.length
theorem srtU_nodup (l:List Jb):(srtU l).Nodup:=wk_nodup l.length
theorem srtU_mem:p ∈ srtU l ↔ p<l.length/\waitC l p=true:=by rw [(srtU_perm l).mem_iff,List.mem_filter,List.mem_range]
theorem srtU_one {W:List Nat} (h1:W.Pairwise (Fore (ahU l))) (h2:W.Perm ((List.range l.length).filter (waitC l))):W=srtU l:=
 fore_one (ah:=ahU l) (fun u v h=>tryB_asymm h) h1 (srtU_fore l) (h2.trans (srtU_perm l).symm)
theorem units_mem (h:u ∈ unitsK l S k) (hk:k<=S.length):∃ i,∃ hi:i<S.length,i<k/\u ∈ unitAt l S (S.take i) S[i]:=by
 induction k with
 | zero=>simp [unitsK] at h
 | succ k ih=>
  rw [unitsK_succ (show k<S.length by omega),List.mem_append] at h
  rcases h with h | h
  ·obtain ⟨i,hi,h1,h2⟩:=ih h (by omega)
   exact ⟨i,hi,by omega,h2⟩
  ·exact ⟨k,by omega,by omega,h⟩
theorem unitAt_is (h:u ∈ unitAt l S T p):((jat l p).ga.size=0/\u=[p]) ∨ ((jat l p).ga.size ≠ 0/\firstK l (jat l p).ga T=true/\(jat l p).sz<=(manyK l (jat l p).ga l.length:Int)/\u=gangOf l (jat l p).ga S):=by
 unfold unitAt at h
 split at h
 ·rename_i h0
  simp at h
  exact .inl ⟨h0,h⟩
 ·rename_i h0
  split at h
  ·rename_i h1
   rw [Bool.and_eq_true,decide_eq_true_eq] at h1
   simp at h
   exact .inr ⟨h0,h1.1,h1.2,h⟩
  ·simp at h
theorem gangOf_nil (h:firstK l g T=true):gangOf l g T=[]:=by
 unfold gangOf
 unfold firstK at h
 rw [List.filter_eq_nil_iff]
 intro y hy
 have:=List.all_eq_true.1 h y hy
 simpa using this
theorem gangOf_first (hi:i<S.length) (hg:(jat l S[i]).ga=g) (h:firstK l g (S.take i)=true):gangOf l g S=S[i] :: gangOf l g (S.drop (i+1)):=by
 have e:S=S.take i ++ (S[i] :: S.drop (i+1)):=by rw [<- List.drop_eq_getElem_cons hi,List.take_append_drop]
 have h1:gangOf l g S=gangOf l g (S.take i) ++ gangOf l g (S[i] :: S.drop (i+1)):=by
  have:=congrArg (gangOf l g) e
  rw [this]
  unfold gangOf
  rw [List.filter_append]
 rw [h1,gangOf_nil h,List.nil_append]
 unfold gangOf
 rw [List.filter_cons_of_pos (by show sE (jat l S[i]).ga g=true;rw [hg];exact sE_refl _)]
theorem gangOf_mem {y:Nat}:y ∈ gangOf l g S ↔ y ∈ S/\(jat l y).ga=g:=by unfold gangOf;rw [List.mem_filter,sE_iff]
theorem unit_head (hi:i<S.length) (h:u ∈ unitAt l S (S.take i) S[i]):(∃ r,u=S[i] :: r /\ ∀ q ∈ r,(jat l q).ga.size ≠ 0)/\u.Sublist S /\ ∀ q ∈ u,(jat l q).ga=(jat l S[i]).ga:=by
 rcases unitAt_is h with ⟨h0,rfl⟩ | ⟨h0,h1,h2,rfl⟩
 ·refine ⟨⟨[],rfl,fun q hq=>by cases hq⟩,List.singleton_sublist.2 (List.getElem_mem hi),fun q hq=>?_⟩
  rw [List.mem_singleton] at hq;rw [hq]
 ·have e:=gangOf_first (g:=(jat l S[i]).ga) hi rfl h1
  refine ⟨⟨_,e,fun q hq=>?_⟩,List.filter_sublist,fun q hq=>(gangOf_mem.1 hq).2⟩
  rw [(gangOf_mem.1 hq).2];exact h0
theorem units_in (h:u ∈ unitsU l):∃ p r,u=p :: r/\(∀ q ∈ u,q<l.length/\(jat l q).nd.size=0/\(jat l q).ga=(jat l p).ga) /\ ∀ q ∈ r,(jat l q).ga.size ≠ 0:=by
 obtain ⟨i,hi,_,hu⟩:=units_mem h (Nat.le_refl _)
 obtain ⟨⟨r,h1,h2⟩,h3,h4⟩:=unit_head hi hu
 refine ⟨(srtU l)[i],r,h1,fun q hq=>?_,h2⟩
 obtain ⟨k1,k2⟩:=srtU_mem.1 (h3.subset hq)
 unfold waitC at k2
 exact ⟨k1,of_decide_eq_true k2,h4 q hq⟩
theorem units_apart (hn:S.Nodup):∀ k,k<=S.length->(unitsK l S k).Pairwise fun u v=>∀ q ∈ u,∀ q' ∈ v,q ≠ q'
 | 0,_=>by simp [unitsK]
 | k+1,hk=>by
  have hk':k<S.length:=by omega
  rw [unitsK_succ hk',List.pairwise_append]
  refine ⟨units_apart hn k (by omega),?_,?_⟩
  ·have:=unitAt_len l S (S.take k) S[k]
   match hq:unitAt l S (S.take k) S[k] with
   | []=>exact List.Pairwise.nil
   | [x]=>exact List.pairwise_singleton _ _
   | x :: y :: r=>rw [hq] at this;simp at this
  ·intro u hu v hv
   obtain ⟨i,hi,hik,hu⟩:=units_mem hu (by omega)
   obtain ⟨⟨r,hr,hr2⟩,h3,h4⟩:=unit_head hi hu
   obtain ⟨⟨r',hr',hr2'⟩,h3',h4'⟩:=unit_head hk' hv
   intro q hq q2 hq' eq
   subst eq
   have e1:=h4 q hq
   have e2:=h4' q hq'
   have hne:S[i] ≠ S[k]:=List.pairwise_iff_getElem.1 hn i k hi hk' hik
   rcases unitAt_is hv with ⟨h0,rfl⟩ | ⟨h0,h1,_,rfl⟩
   ·rcases unitAt_is hu with ⟨h0',rfl⟩ | ⟨h0',_⟩
    ·rw [List.mem_singleton] at hq hq'
     exact hne (hq.symm.trans hq')
    ·rw [<- e1,e2] at h0';exact h0' h0
   ·have hm:S[i] ∈ S.take k:=by
     rw [List.mem_take_iff_getElem]
     exact ⟨i,by omega,rfl⟩
    have:=List.all_eq_true.1 h1 _ hm
    rw [<- e1,e2,sE_refl] at this
    cases this
theorem units_nodup (l:List Jb):(unitsU l).flatten.Nodup:=by
 show (unitsU l).flatten.Pairwise (· ≠ ·)
 rw [List.pairwise_flatten]
 refine ⟨fun u hu=>?_,units_apart (srtU_nodup l) _ (Nat.le_refl _)⟩
 obtain ⟨i,hi,_,hu⟩:=units_mem hu (Nat.le_refl _)
 exact (unit_head hi hu).2.1.nodup (srtU_nodup l)
theorem units_has (hp:p<l.length) (hw:(jat l p).nd.size=0) (hg:(jat l p).ga.size=0):p ∈ (unitsU l).flatten:=by
 have hm:p ∈ srtU l:=srtU_mem.2 ⟨hp,by unfold waitC;exact decide_eq_true hw⟩
 obtain ⟨i,hi,he⟩:=List.getElem_of_mem hm
 have h1:[p] ∈ unitsU l:=by
  show [p] ∈ unitsK l (srtU l) (srtU l).length
  unfold unitsK
  rw [List.mem_flatten]
  refine ⟨unitAt l (srtU l) ((srtU l).take i) ((srtU l).getD i 0),List.mem_map.2 ⟨i,List.mem_range.2 hi,rfl⟩,?_⟩
  have:(srtU l).getD i 0=p:=by rw [List.getD,List.getElem?_eq_getElem hi,he];rfl
  rw [this]
  unfold unitAt
  rw [if_pos hg];simp
 exact List.mem_flatten.2 ⟨_,h1,by simp⟩
theorem first_nil:firstK l g S=true ↔ gangOf l g S=[]:=by
 constructor
 ·exact gangOf_nil
 ·intro h
  unfold firstK
  rw [List.all_eq_true]
  intro y hy
  cases hs:sE (jat l y).ga g
  ·rfl
  ·have:y ∈ gangOf l g S:=gangOf_mem.2 ⟨hy,sE_iff.1 hs⟩
   rw [h] at this;cases this
end
end
end Go.Proofs.YtccccbofcnmdiaaGreat
