/- Lemmas that the law stands on. No condition. -/
import Derived.Test.YtlodjgcnffmniaaGreatM30
namespace Go.Proofs.YtlodjgcnffmniaaGreat
set_option linter.unusedSimpArgs false
set_option linter.unusedVariables false
set_option maxRecDepth 100000
set_option maxHeartbeats 51200000
section
open Go.RowKit
theorem JAt.ga {w:World} {g o:Nat} {j:Jb} (h:JAt w g o j):w.cell? ⟨g,o+8,none⟩=some (.string j.ga):=h.rg 8 _ rfl
def manyK (l:List Jb) (s:ByteArray) (k:Nat):Nat:=((l.take k).filter fun j=>sE j.ga s).length
theorem manyK_succ {l:List Jb} {s:ByteArray} {k:Nat} (h:k<l.length):manyK l s (k+1)=manyK l s k+if sE l[k].ga s then 1 else 0:=by
 unfold manyK
 rw [List.take_succ_eq_append_getElem h,List.filter_append,List.length_append]
 cases he:sE l[k].ga s
 ·rw [List.filter_cons_of_neg (by simp [he])];rfl
 ·rw [List.filter_cons_of_pos (p:=fun j:Jb=>sE j.ga s) he];rfl
theorem manyK_le (l:List Jb) (s:ByteArray) (k:Nat):manyK l s k<=k:=by
 unfold manyK
 refine Nat.le_trans (List.length_filter_le _ _) ?_
 rw [List.length_take];omega
def firstK (l:List Jb) (s:ByteArray) (S:List Nat):Bool:=S.all fun y=>!sE (jat l y).ga s
def gangOf (l:List Jb) (s:ByteArray) (S:List Nat):List Nat:=S.filter fun y=>sE (jat l y).ga s
def unitAt (l:List Jb) (S T:List Nat) (p:Nat):List (List Nat):=
 if (jat l p).ga.size=0 then [[p]] else if firstK l (jat l p).ga T && decide ((jat l p).sz<=(manyK l (jat l p).ga l.length:Int)) then [gangOf l (jat l p).ga S] else []
def unitsK (l:List Jb) (S:List Nat) (k:Nat):List (List Nat):=((List.range k).map fun i=>unitAt l S (S.take i) (S.getD i 0)).flatten
theorem unitsK_succ {l:List Jb} {S:List Nat} {k:Nat} (h:k<S.length):unitsK l S (k+1)=unitsK l S k ++ unitAt l S (S.take k) S[k]:=by
 unfold unitsK
 rw [List.range_succ,List.map_append,List.flatten_append]
 simp [List.getD,List.getElem?_eq_getElem h]
theorem unitAt_len (l:List Jb) (S T:List Nat) (p:Nat):(unitAt l S T p).length<=1:=by
 unfold unitAt;split
 ·simp
 ·split <;> simp
theorem unitsK_len (l:List Jb) (S:List Nat):∀ k,(unitsK l S k).length<=k
 | 0=>by simp [unitsK]
 | k+1=>by
  have h:=unitsK_len l S k
  unfold unitsK at h ⊢
  rw [List.range_succ,List.map_append,List.flatten_append,List.length_append]
  have:=unitAt_len l S (S.take k) (S.getD k 0)
  simp only [List.map_cons,List.map_nil,List.flatten_cons,List.flatten_nil,List.append_nil]
  omega
def cellsW (vs:List Value):List (List Value):=vs.map fun v=>[v]
theorem cellsW_length (vs:List Value):(cellsW vs).length=vs.length:=by simp [cellsW]
theorem cellsW_append (a b:List Value):cellsW (a ++ b)=cellsW a ++ cellsW b:=by simp [cellsW]
theorem cellsW_k (vs:List Value):∀ x ∈ cellsW vs,x.length=1:=by
 intro x hx
 simp only [cellsW,List.mem_map] at hx
 obtain ⟨j,_,rfl⟩:=hx
 rfl
theorem OwnK.apart {w:World} {b b' k k':Nat} {e e':TypeId} {v v':Value} {l l':List (List Value)} (h:OwnK w b e k v l) (h':OwnK w b' e' k' v' l') (hne:e ≠ e'):v.ownBlock=none ∨ v.ownBlock ≠ v'.ownBlock:=by
 rcases h.2.2 with ⟨rfl,_⟩ | ⟨g,cap,cur,rfl,_,hg,_⟩
 ·exact .inl rfl
 ·rcases h'.2.2 with ⟨rfl,_⟩ | ⟨g',cap',cur',rfl,_,hg',_⟩
  ·exact .inr (by intro e;cases e)
  ·refine .inr fun he=>?_
   injection he with he
   subst he
   have:=hg.symm.trans hg'
   injection this with this
   injection this with _ this
   exact hne this
theorem OwnK.grown {w w':World} {b k:Nat} {e:TypeId} {v:Value} {l:List (List Value)} {row:Option Nat} (h:OwnK w b e k v l) (hg:w.grownBy w' row) (hne:v.ownBlock=none ∨ v.ownBlock ≠ row):OwnK w' b e k v l:=⟨h.1,World.ownsRow.kept h.2 hg hne⟩
theorem OwnK.lit1 (w:World) (b:Nat) (e:TypeId) (v:Value) (hb:b<=w.heap.size):OwnK (w.alloc (.cells #[v] e)) b e 1 (.slice (some ⟨w.heap.size,0,none⟩) 1 1) [[v]]:=
 ⟨by simp,by have h:=World.ownsRow_lit (base:=b) (e:=e) (size:=1) w #[v] 1 hb (by simp [maxLen]) rfl;simpa using h⟩
structure UOk (w:World) (b:Nat) (vs:List Value) (U:List (List Nat)):Prop where
 len:vs.length=U.length
 el:∀ (i:Nat) (u:List Nat),U[i]? = some u -> ∃ v,vs[i]? = some v/\OwnK w b 3 1 v (cellsI (ints u))
theorem UOk.later {w w':World} {b:Nat} {vs:List Value} {U:List (List Nat)} (h:UOk w b vs U) (hb:Below w.heap.size w w'):UOk w' b vs U:=⟨h.len,fun i u hu=>by
 obtain ⟨v,h1,h2⟩:=h.el i u hu
 exact ⟨v,h1,h2.below hb⟩⟩
theorem UOk.grown {w w':World} {b b':Nat} {vs:List Value} {U:List (List Nat)} {v:Value} {l:List (List Value)} (h:UOk w b vs U) (ho:OwnK w b' 150 1 v l) (hg:w.grownBy w' v.ownBlock):UOk w' b vs U:=⟨h.len,fun i u hu=>by
 obtain ⟨v,h1,h2⟩:=h.el i u hu
 exact ⟨v,h1,h2.grown hg (h2.apart ho (by decide))⟩⟩
theorem UOk.nil (w:World) (b:Nat):UOk w b [] []:=⟨rfl,fun i u hu=>by simp at hu⟩
theorem UOk.snoc {w:World} {b:Nat} {vs:List Value} {U:List (List Nat)} (h:UOk w b vs U) {v:Value} {u:List Nat} (hr:OwnK w b 3 1 v (cellsI (ints u))):UOk w b (vs ++ [v]) (U ++ [u]):=by
 refine ⟨by simp [h.len],fun i x hx=>?_⟩
 by_cases hi:i<U.length
 ·rw [List.getElem?_append_left hi] at hx
  obtain ⟨v',h1,h2⟩:=h.el i x hx
  exact ⟨v',by rw [List.getElem?_append_left (by rw [h.len];exact hi)];exact h1,h2⟩
 ·rw [List.getElem?_append_right (by omega)] at hx
  have hi0:i - U.length=0:=by
   have:=(List.getElem?_eq_some_iff.1 hx).1
   simp at this;omega
  rw [hi0] at hx
  simp at hx;subst hx
  exact ⟨v,by rw [List.getElem?_append_right (by rw [h.len];omega),h.len,hi0];rfl,hr⟩
def RetU (b:Nat) (w:World) (e:Ending) (U:List (List Nat)):Prop:=∃ v vs,e = .returned v/\OwnK w b 150 1 v (cellsW vs)/\UOk w b vs U
theorem infoU:(Tryz.prog.info? 150).map (fun i=>(i.zero,i.size,i.bytes))=some (some (.slice none 0 0),1,24):=by kernel_rfl
end
section
section
variable {ah:Nat->Nat->Bool}
def Fore (ah:Nat->Nat->Bool) (u v:Nat):Prop:=ah u v=true ∨ (ah v u=false/\u<v)
theorem fore_one (has:∀ u v,ah u v=true->ah v u=false):∀ {E F:List Nat},E.Pairwise (Fore ah)->F.Pairwise (Fore ah)->E.Perm F->E=F
 | [],F,_,_,h=>h.nil_eq
 | x :: E,[],_,_,h=>by have:=h.length_eq;simp at this
 | x :: E,y :: F,h1,h2,h=>by
  rw [List.pairwise_cons] at h1 h2
  have hx:x ∈ y :: F:=h.subset (by simp)
  have hy:y ∈ x :: E:=h.symm.subset (by simp)
  have e:x=y:=by
   rcases List.mem_cons.1 hx with hx | hx
   ·exact hx
   ·rcases List.mem_cons.1 hy with hy | hy
    ·exact hy.symm
    ·rcases h1.1 y hy with k1 | ⟨k1,k2⟩
     ·rcases h2.1 x hx with k3 | ⟨k3,k4⟩
      ·have:=has _ _ k1;rw [k3] at this;cases this
      ·rw [k1] at k3;cases k3
     ·rcases h2.1 x hx with k3 | ⟨k3,k4⟩
      ·rw [k3] at k1;cases k1
      ·omega
  subst e
  rw [fore_one has h1.2 h2.2 ((List.perm_cons x).1 h)]
end
end
section
open Go.RowKit
section
variable {c:Nat->Bool} {ah:Nat->Nat->Bool}
theorem insB_perm (p:Nat->Bool) (x:Nat) (l:List Nat):(insB p x l).Perm (x :: l):=by
 unfold insB
 refine List.perm_middle.trans (List.Perm.cons x ?_)
 rw [<- List.reverse_append,List.takeWhile_append_dropWhile,List.reverse_reverse]
theorem wk_perm:∀ k,(wk c ah k).Perm ((List.range k).filter c)
 | 0=>by simp [wk_zero]
 | k+1=>by
  rw [List.range_succ,List.filter_append,wk_succ]
  have ih:=wk_perm k
  cases hc:c k
  ·simp [hc];exact ih
  ·simp only [hc,if_true,List.filter_cons_of_pos,List.filter_nil]
   refine (insB_perm _ _ _).trans ((List.Perm.cons k ih).trans ?_)
   exact (List.perm_append_singleton k _).symm
theorem insB_fore (has:∀ u v,ah u v=true->ah v u=false) (hnt:∀ u v w,ah u v=false->ah v w=false->ah u w=false) {x:Nat} {l:List Nat} (h:l.Pairwise (Fore ah)) (hx:∀ y ∈ l,y<x):(insB (ah x) x l).Pairwise (Fore ah):=by
 unfold insB
 have hl:l=(l.reverse.dropWhile (ah x)).reverse ++ (l.reverse.takeWhile (ah x)).reverse:=by
  rw [<- List.reverse_append,List.takeWhile_append_dropWhile,List.reverse_reverse]
 have h':=h
 rw [hl,List.pairwise_append] at h'
 obtain ⟨h1,h2,h3⟩:=h'
 have hr:∀ v ∈ (l.reverse.takeWhile (ah x)).reverse,ah x v=true:=by
  intro v hv
  rw [List.mem_reverse] at hv
  have:=List.all_takeWhile (p:=ah x) (l:=l.reverse)
  rw [List.all_eq_true] at this
  exact this v hv
 have hlft:∀ u ∈ (l.reverse.dropWhile (ah x)).reverse,ah x u=false:=by
  cases hq:l.reverse.dropWhile (ah x) with
  | nil=>intro u hu;simp at hu
  | cons z r=>
   have hz:ah x z=false:=by
    have:=List.head_dropWhile_not (ah x) (l:=l.reverse) (by rw [hq];simp)
    simpa [hq] using this
   rw [hq,List.reverse_cons,List.pairwise_append] at h1
   intro u hu
   rw [List.reverse_cons] at hu
   rcases List.mem_append.1 hu with hu | hu
   ·have:=h1.2.2 u hu z (by simp)
    rcases this with h | ⟨h,_⟩
    ·exact hnt x z u hz (has u z h)
    ·exact hnt x z u hz h
   ·simp at hu;subst hu;exact hz
 have hxl:∀ u ∈ (l.reverse.dropWhile (ah x)).reverse,u<x:=fun u hu=>hx u (by rw [hl];exact List.mem_append.2 (.inl hu))
 rw [List.pairwise_append]
 refine ⟨h1,List.pairwise_cons.2 ⟨fun v hv=>.inl (hr v hv),h2⟩,?_⟩
 intro u hu v hv
 rcases List.mem_cons.1 hv with rfl | hv
 ·exact .inr ⟨hlft u hu,hxl u hu⟩
 ·exact h3 u hu v hv
theorem wk_fore (has:∀ u v,ah u v=true->ah v u=false) (hnt:∀ u v w,ah u v=false->ah v w=false->ah u w=false):∀ k,(wk c ah k).Pairwise (Fore ah)
 | 0=>by simp [wk_zero]
 | k+1=>by
  rw [wk_succ]
  split
  ·exact insB_fore has hnt (wk_fore has hnt k) (wk_lt k)
  ·exact wk_fore has hnt k
theorem wk_nodup (k:Nat):(wk c ah k).Nodup:=(wk_perm k).nodup_iff.2 (List.Nodup.sublist List.filter_sublist List.nodup_range)
end
end
section
open Go.RowKit
section
variable {a b c:Jb}
theorem tryB_iff:tryB a b=true ↔ b.pr<a.pr ∨ (a.pr=b.pr/\a.sq<b.sq):=by unfold tryB;simp
theorem tryB_no:tryB a b=false ↔ ¬ (b.pr<a.pr)/\(a.pr=b.pr -> ¬ a.sq<b.sq):=by unfold tryB;simp
theorem tryB_irrefl (a:Jb):tryB a a=false:=by rw [tryB_no];omega
theorem tryB_asymm (h:tryB a b=true):tryB b a=false:=by rw [tryB_iff] at h;rw [tryB_no];omega
theorem tryB_ntrans (h:tryB a b=false) (k:tryB b c=false):tryB a c=false:=by rw [tryB_no] at *;omega
theorem tryB_trans (h:tryB a b=true) (k:tryB b c=true):tryB a c=true:=by rw [tryB_iff] at *;omega
end
section
variable {l:List Jb} {S T:List Nat} {u v:List Nat} {g:ByteArray} {k p i:Nat}
abbrev srtU (l:List Jb):List Nat:=srt14 l l.length
abbrev unitsU (l:List Jb):List (List Nat):=unitsK l (srtU l) (srtU l).length
abbrev ahU (l:List Jb) (i y:Nat):Bool:=tryB (jat l i) (jat l y)
theorem srtU_perm (l:List Jb):(srtU l).Perm ((List.range l.length).filter (waitC l)):=wk_perm l.length
theorem srtU_fore (l:List Jb):(srtU l).Pairwise (Fore (ahU l)):=wk_fore (ah:=ahU l) (fun u v h=>tryB_asymm h) (fun u v w h k=>tryB_ntrans h k) l.length
theorem srtU_nodup (l:List Jb):(srtU l).Nodup:=wk_nodup l.length
theorem srtU_mem:p ∈ srtU l ↔ p<l.length/\waitC l p=true:=by rw [(srtU_perm l).mem_iff,List.mem_filter,List.mem_range]
theorem srtU_one {W:List Nat} (h1:W.Pairwise (Fore (ahU l))) (h2:W.Perm ((List.range l.length).filter (waitC l))):W=srtU l:=
 fore_one (ah:=ahU l) (fun u v h=>tryB_asymm h) h1 (srtU_fore l) (h2.trans (srtU_perm l).symm)
theorem units_mem (h:u ∈ unitsK l S k) (hk:k<=S.length):∃ i,∃ hi:i<S.length,i<k/\u ∈ unitAt l S (S.take i) S[i]:=by
 induction k with
 | zero=>simp [unitsK] at h
 | succ k ih=>
  rw [unitsK_succ (show k<S.length by omega),List.mem_append] at h
  rcases h with h | h
  ·obtain ⟨i,hi,h1,h2⟩:=ih h (by omega)
   exact ⟨i,hi,by omega,h2⟩
  ·exact ⟨k,by omega,by omega,h⟩
theorem unitAt_is (h:u ∈ unitAt l S T p):((jat l p).ga.size=0/\u=[p]) ∨ ((jat l p).ga.size ≠ 0/\firstK l (jat l p).ga T=true/\(jat l p).sz<=(manyK l (jat l p).ga l.length:Int)/\u=gangOf l (jat l p).ga S):=by
 unfold unitAt at h
 split at h
 ·rename_i h0
  simp at h
  exact .inl ⟨h0,h⟩
 ·rename_i h0
  split at h
  ·rename_i h1
   rw [Bool.and_eq_true,decide_eq_true_eq] at h1
   simp at h
   exact .inr ⟨h0,h1.1,h1.2,h⟩
  ·simp at h
theorem gangOf_nil (h:firstK l g T=true):gangOf l g T=[]:=by
 unfold gangOf
 unfold firstK at h
 rw [List.filter_eq_nil_iff]
 intro y hy
 have:=List.all_eq_true.1 h y hy
 simpa using this
theorem gangOf_first (hi:i<S.length) (hg:(jat l S[i]).ga=g) (h:firstK l g (S.take i)=true):gangOf l g S=S[i] :: gangOf l g (S.drop (i+1)):=by
 have e:S=S.take i ++ (S[i] :: S.drop (i+1)):=by rw [<- List.drop_eq_getElem_cons hi,List.take_append_drop]
 have h1:gangOf l g S=gangOf l g (S.take i) ++ gangOf l g (S[i] :: S.drop (i+1)):=by
  have:=congrArg (gangOf l g) e
  rw [this]
  unfold gangOf
  rw [List.filter_append]
 rw [h1,gangOf_nil h,List.nil_append]
 unfold gangOf
 rw [List.filter_cons_of_pos (by show sE (jat l S[i]).ga g=true;rw [hg];exact sE_refl _)]
theorem gangOf_mem {y:Nat}:y ∈ gangOf l g S ↔ y ∈ S/\(jat l y).ga=g:=by unfold gangOf;rw [List.mem_filter,sE_iff]
theorem unit_head (hi:i<S.length) (h:u ∈ unitAt l S (S.take i) S[i]):(∃ r,u=S[i] :: r /\ ∀ q ∈ r,(jat l q).ga.size ≠ 0)/\u.Sublist S /\ ∀ q ∈ u,(jat l q).ga=(jat l S[i]).ga:=by
 rcases unitAt_is h with ⟨h0,rfl⟩ | ⟨h0,h1,h2,rfl⟩
 ·refine ⟨⟨[],rfl,fun q hq=>by cases hq⟩,List.singleton_sublist.2 (List.getElem_mem hi),fun q hq=>?_⟩
  rw [List.mem_singleton] at hq;rw [hq]
 ·have e:=gangOf_first (g:=(jat l S[i]).ga) hi rfl h1
  refine ⟨⟨_,e,fun q hq=>?_⟩,List.filter_sublist,fun q hq=>(gangOf_mem.1 hq).2⟩
  rw [(gangOf_mem.1 hq).2];exact h0
theorem units_in (h:u ∈ unitsU l):∃ p r,u=p :: r/\(∀ q ∈ u,q<l.length/\(jat l q).nd.size=0/\(jat l q).ga=(jat l p).ga) /\ ∀ q ∈ r,(jat l q).ga.size ≠ 0:=by
 obtain ⟨i,hi,_,hu⟩:=units_mem h (Nat.le_refl _)
 obtain ⟨⟨r,h1,h2⟩,h3,h4⟩:=unit_head hi hu
 refine ⟨(srtU l)[i],r,h1,fun q hq=>?_,h2⟩
 obtain ⟨k1,k2⟩:=srtU_mem.1 (h3.subset hq)
 unfold waitC at k2
 exact ⟨k1,of_decide_eq_true k2,h4 q hq⟩
theorem first_nil:firstK l g S=true ↔ gangOf l g S=[]:=by
 constructor
 ·exact gangOf_nil
 ·intro h
  unfold firstK
  rw [List.all_eq_true]
  intro y hy
  cases hs:sE (jat l y).ga g
  ·rfl
  ·have:y ∈ gangOf l g S:=gangOf_mem.2 ⟨hy,sE_iff.1 hs⟩
   rw [h] at this;cases this
end
end
section
open Go.RowKit Go.Sort
theorem Gw.below {w w1:World} (h:Gw w w1):Below w.heap.size w w1:=by
 obtain ⟨q,os,rfl⟩:=h
 refine ⟨rfl,rfl,rfl,by simp,fun k hk=>?_⟩
 rw [heap_grow_old _ _ (by exact hk)];rfl
def cfo (x y:Jb):Int:=or2 (cI y.pr x.pr) (cI x.sq y.sq)
theorem cfo_try (x y:Jb):decide (cfo x y<0)=tryB x y:=by
 rw [Bool.eq_iff_iff,decide_eq_true_eq,tryB_iff]
 unfold cfo or2
 by_cases h:x.pr=y.pr
 ·rw [if_pos (cI_zero.2 h.symm),cI_neg];omega
 ·rw [if_neg (fun e=>h (cI_zero.1 e).symm),cI_neg];omega


theorem compare14_any (x y:Jb) (w:World) :
  Calls Tryz.prog 203 #[.agg x.arr,.agg y.arr] w fun e w'=>e = .returned (.int .i64 (cfo x y))/\Gw w w':=by
 have k1:=fun W=>compareI_any y.pr x.pr W
 have k2:=fun W=>compareI_any x.sq y.sq W
 have k3:=fun (x y:Int) (g:Nat) W=>or2_any x y g W
 obtain ⟨r,hr⟩:∃ r,r=cfo x y:=⟨_,rfl⟩
 rw [<- hr]
 unfold cfo at hr
 generalize cI y.pr x.pr=p at k1 hr
 generalize cI x.sq y.sq=q at k2 hr
 have K1:=Lib.hid k1;have K2:=Lib.hid k2;have K3:=Lib.hid k3;have HR:=Lib.hid hr;clear k1 k2 k3 hr
 go_enter Tryz.func203,Tryz.ntmps203
 go_wp2_with fail
 have hg0:Gw w ((w.alloc (.cells x.arr 66)).alloc (.cells y.arr 66)):=((Gw.refl w).alloc _).alloc _
 have hA0:=(Bk.fresh w 66 x.arr).later (w':=(w.alloc (.cells x.arr 66)).alloc (.cells y.arr 66)) ((Below.refl _ _).alloc (Nat.le_refl _) _)
 have hC0:Bk ((w.alloc (.cells x.arr 66)).alloc (.cells y.arr 66)) (w.heap.size+1) 66 y.arr:=Bk.freshAt _ _ _ (by simp)
 generalize hw1:(w.alloc (.cells x.arr 66)).alloc (.cells y.arr 66)=w1 at hg0 hA0 hC0 ⊢
 clear hw1
 have la:w.heap.size<w1.heap.size:=hA0.here
 have lc:w.heap.size+1<w1.heap.size:=hC0.here
 have a0:w1.cell? ⟨w.heap.size,2,none⟩=some (.int .i64 x.pr):=hA0.cellAt 2
 have a1:w1.cell? ⟨w.heap.size,10,none⟩=some (.int .i64 x.sq):=hA0.cellAt 10
 have c0:w1.cell? ⟨w.heap.size+1,2,none⟩=some (.int .i64 y.pr):=hC0.cellAt 2
 have c1:w1.cell? ⟨w.heap.size+1,10,none⟩=some (.int .i64 y.sq):=hC0.cellAt 10
 have A0:=Lib.hid a0;have A1:=Lib.hid a1;have C0:=Lib.hid c0;have C1:=Lib.hid c1;have LA:=Lib.hid la;have LC:=Lib.hid lc;have HG0:=Lib.hid hg0
 clear hA0 hC0 a0 a1 c0 c1 la lc hg0
 refine wp_region_held_drew (S:=fun W=>Gw w1 W) (by kernel_rfl) ((Gw.refl _).drew) (fun hS0=>?_)
 refine wpAnyH_take (i:=0) (v:=?_) rfl (by kernel_rfl) (by kernel_rfl) (by kernel_rfl) (fun _ _ _ h=>h) (Or.inl ⟨by rfl,?_⟩) hS0 ?_
 rotate_left
 ·intro W _;go_simp;try with_reducible rfl
 try simp only [Act.put,tD,tB,tC,tA,tE,tF]
 refine wpAnyH_take (i:=1) (v:=?_) rfl (by kernel_rfl) (by kernel_rfl) (by kernel_rfl) (fun _ _ _ h=>h) (Or.inl ⟨by rfl,?_⟩) hS0 ?_
 rotate_left
 ·intro W _;go_simp;try with_reducible rfl
 try simp only [Act.put,tD,tB,tC,tA,tE,tF]
 refine wpAnyH_take (i:=2) (v:=?_) rfl (by kernel_rfl) (by kernel_rfl) (by kernel_rfl) (fun _ _ _ h=>h) (Or.inl ⟨by rfl,?_⟩) hS0 ?_
 rotate_left
 ·intro W hSW;have hx:=(hSW.cell LC.out).trans C0.out;go_simp;try with_reducible rfl
 try simp only [Act.put,tD,tB,tC,tA,tE,tF]
 refine wpAnyH_take (i:=3) (v:=?_) rfl (by kernel_rfl) (by kernel_rfl) (by kernel_rfl) (fun _ _ _ h=>h) (Or.inl ⟨by rfl,?_⟩) hS0 ?_
 rotate_left
 ·intro W _;go_simp;try with_reducible rfl
 try simp only [Act.put,tD,tB,tC,tA,tE,tF]
 refine wpAnyH_take (i:=4) (v:=?_) rfl (by kernel_rfl) (by kernel_rfl) (by kernel_rfl) (fun _ _ _ h=>h) (Or.inl ⟨by rfl,?_⟩) hS0 ?_
 rotate_left
 ·intro W _;go_simp;try with_reducible rfl
 try simp only [Act.put,tD,tB,tC,tA,tE,tF]
 refine wpAnyH_take (i:=5) (v:=?_) rfl (by kernel_rfl) (by kernel_rfl) (by kernel_rfl) (fun _ _ _ h=>h) (Or.inl ⟨by rfl,?_⟩) hS0 ?_
 rotate_left
 ·intro W hSW;have hx:=(hSW.cell LA.out).trans A0.out;go_simp;try with_reducible rfl
 try simp only [Act.put,tD,tB,tC,tA,tE,tF]
 refine wpAnyH_take (i:=7) (v:=?_) rfl (by kernel_rfl) (by kernel_rfl) (by kernel_rfl) (fun _ _ _ h=>h) (Or.inl ⟨by rfl,?_⟩) hS0 ?_
 rotate_left
 ·intro W _;go_simp;try with_reducible rfl
 try simp only [Act.put,tD,tB,tC,tA,tE,tF]
 refine wpAnyH_take (i:=8) (v:=?_) rfl (by kernel_rfl) (by kernel_rfl) (by kernel_rfl) (fun _ _ _ h=>h) (Or.inl ⟨by rfl,?_⟩) hS0 ?_
 rotate_left
 ·intro W hSW;have hx:=(hSW.cell LA.out).trans A1.out;go_simp;try with_reducible rfl
 try simp only [Act.put,tD,tB,tC,tA,tE,tF]
 refine wpAnyH_take (i:=9) (v:=?_) rfl (by kernel_rfl) (by kernel_rfl) (by kernel_rfl) (fun _ _ _ h=>h) (Or.inl ⟨by rfl,?_⟩) hS0 ?_
 rotate_left
 ·intro W _;go_simp;try with_reducible rfl
 try simp only [Act.put,tD,tB,tC,tA,tE,tF]
 refine wpAnyH_take (i:=10) (v:=?_) rfl (by kernel_rfl) (by kernel_rfl) (by kernel_rfl) (fun _ _ _ h=>h) (Or.inl ⟨by rfl,?_⟩) hS0 ?_
 rotate_left
 ·intro W hSW;have hx:=(hSW.cell LC.out).trans C1.out;go_simp;try with_reducible rfl
 try simp only [Act.put,tD,tB,tC,tA,tE,tF]
 refine wpAnyH_ready (rs:=[6]) (by kernel_rfl) (by simp) ?_
 refine AllReadyH.cons rfl (fun K hK=>?_) AllReadyH.nil
 go_simp
 refine (K1.out _).mono ?_
 rintro v v1 ⟨rfl,rfl⟩
 go_simp
 refine hK.out _ _ hS0 (fun hS1=>?_)
 clear hK K
 try simp only [Act.put,tD,tB,tC,tA,tE,tF]
 refine wpAnyH_ready (rs:=[11]) (by kernel_rfl) (by simp) ?_
 refine AllReadyH.cons rfl (fun K hK=>?_) AllReadyH.nil
 go_simp
 refine (K2.out _).mono ?_
 rintro v v2 ⟨rfl,rfl⟩
 go_simp
 refine hK.out _ _ hS1 (fun hS2=>?_)
 clear hK K
 try simp only [Act.put,tD,tB,tC,tA,tE,tF]
 refine wpAnyH_ready (rs:=[12]) (by kernel_rfl) (by simp) ?_
 refine AllReadyH.cons rfl (fun K hK=>?_) AllReadyH.nil
 simp only [if_pos,Region.wanted]
 refine itwo_op 11 16 p q rfl rfl rfl ?_
 intro g v3 hg hv3
 subst hg hv3
 refine hK.out _ _ (hS2.alloc _) (fun hS3=>?_)
 clear hK K
 try simp only [Act.put,tD,tB,tC,tA,tE,tF]
 refine wpAnyH_ready (rs:=[13]) (by kernel_rfl) (by simp) ?_
 refine AllReadyH.cons rfl (fun K hK=>?_) AllReadyH.nil
 go_simp
 refine (K3.out p q _ _ (by simp) (by simp) (by simp)).mono ?_
 rintro v v4 ⟨rfl,rfl⟩
 go_simp
 refine hK.out _ _ hS3 (fun hS4=>?_)
 clear hK K
 try simp only [Act.put,tD,tB,tC,tA,tE,tF]
 refine wpAnyH_take (i:=14) (v:=?_) rfl (by kernel_rfl) (by kernel_rfl) (by kernel_rfl) (fun _ _ _ h=>h) (Or.inl ⟨by rfl,?_⟩) hS4 ?_
 rotate_left
 ·intro W _;go_simp;try with_reducible rfl
 try simp only [Act.put,tD,tB,tC,tA,tE,tF]
 refine wpAnyH_done (by kernel_rfl) ?_ _
 go_wp2_with fail
 go_ret
 exact ⟨HR.out.symm ▸ rfl,HG0.out.trans hS4⟩

theorem waits14_any (j:Jb) (w:World):Calls Tryz.prog 101 #[.agg j.arr] w fun e w'=>e = .returned (.bool (decide (j.nd.size=0)))/\Below w.heap.size w w':=by
 obtain ⟨nm,qu,pr,a,b,c,A,n,cp,ap,ga,sz,sq,nd,bo⟩:=j
 by_cases h:nd.size=0
 ·obtain rfl:=empty_of h
  go_enter Tryz.func101,Tryz.ntmps101
  go_wp2
  go_ret
  exact ⟨rfl,(by (repeat' (first | (with_reducible exact Below.refl _ _) | (with_reducible refine bdrewN ?_ _) | (with_reducible refine Below.drew ?_) | (with_reducible refine Below.setCell ?_ ?_ _) | (with_reducible refine Below.alloc ?_ ?_ _) | (with_reducible exact Nat.le_refl _) | (with_reducible assumption) | omega | (simp only [World.size_alloc,World.size_setCell,World.size_drew,sz_drewN];omega))))⟩
 ·have h1:=full_of h
  have hres:decide (nd.size=0)=false:=decide_eq_false h
  show Calls _ _ _ _ fun e w'=>e = .returned (.bool (decide (nd.size=0)))/\_
  rw [hres]
  clear hres h
  obtain ⟨h1,h2⟩:=h1
  go_enter Tryz.func101,Tryz.ntmps101
  go_wp2
  go_ret
  exact ⟨rfl,(by (repeat' (first | (with_reducible exact Below.refl _ _) | (with_reducible refine bdrewN ?_ _) | (with_reducible refine Below.drew ?_) | (with_reducible refine Below.setCell ?_ ?_ _) | (with_reducible refine Below.alloc ?_ ?_ _) | (with_reducible exact Nat.le_refl _) | (with_reducible assumption) | omega | (simp only [World.size_alloc,World.size_setCell,World.size_drew,sz_drewN];omega))))⟩


theorem closure14_any (A:Option Addr) (n cap g9:Nat) (l:List Jb) (x y:Nat) (W:World) (hn:Hid (n=l.length)) (hx:x<n) (hy:y<n) (hl:n<=1000000) (hA:Hid (RdJ W A l)) (hg9:Hid (W.cell? ⟨g9,0,none⟩=some (.slice A n cap))) :
  Calls Tryz.prog 202 #[.int .i64 x,.int .i64 y,.pointer (some ⟨g9,0,none⟩)] W fun e w'=>e = .returned (.int .i64 (cfo (jat l x) (jat l y)))/\Gw W w':=by
 have hxl:x<l.length:=by have:=hn.out;omega
 have hyl:y<l.length:=by have:=hn.out;omega
 obtain ⟨g,o,hAg,hg,hj1⟩:=hA.out.at hxl
 subst hAg
 obtain ⟨g',o',hAg,hg',hj2⟩:=hA.out.at hyl
 injection hAg with hAg;injection hAg with e1 e2;subst e1 e2
 obtain ⟨j1,hj1k⟩:∃ j,j=l[x]:=⟨_,rfl⟩
 obtain ⟨j2,hj2k⟩:∃ j,j=l[y]:=⟨_,rfl⟩
 rw [<- hj1k] at hj1;rw [<- hj2k] at hj2
 obtain ⟨r,hr⟩:∃ r,r=cfo (jat l x) (jat l y):=⟨_,rfl⟩
 rw [<- hr]
 rw [jat_at hxl,jat_at hyl,<- hj1k,<- hj2k] at hr
 have k1:=fun (W:World)=>compare14_any j1 j2 W
 rw [<- hr] at k1
 have l9:g9<W.heap.size:=World.block_lt_of_cell? W _ hg9.out
 have K1:=Lib.hid k1;have HJ1:=Lib.hid hj1;have HJ2:=Lib.hid hj2;have L9:=Lib.hid l9
 clear k1 hr hj1 hj2 hj1k hj2k l9
 go_enter Tryz.func202,Tryz.ntmps202
 go_wp2_with fail
 refine wp_region_held_drew (S:=fun X=>Gw W X) (by kernel_rfl) ((Gw.refl _).drew) (fun hS0=>?_)
 refine wpAnyH_take (i:=0) (v:=?_) rfl (by kernel_rfl) (by kernel_rfl) (by kernel_rfl) (fun _ _ _ h=>h) (Or.inl ⟨by rfl,?_⟩) hS0 ?_
 rotate_left
 ·intro W hSW;have hx:=(hSW.cell L9.out).trans hg9.out;go_simp;try with_reducible rfl
 try simp only [Act.put,tD,tB,tC,tA,tE,tF]
 refine wpAnyH_take (i:=1) (v:=?_) rfl (by kernel_rfl) (by kernel_rfl) (by kernel_rfl) (fun _ _ _ h=>h) (Or.inl ⟨by rfl,?_⟩) hS0 ?_
 rotate_left
 ·intro W _;go_simp;try with_reducible rfl
 try simp only [Act.put,tD,tB,tC,tA,tE,tF]
 refine wpAnyH_take (i:=2) (v:=?_) rfl (by kernel_rfl) (by kernel_rfl) (by kernel_rfl) (fun _ _ _ h=>h) (Or.inl ⟨by rfl,?_⟩) hS0 ?_
 rotate_left
 ·intro W _;go_simp;try with_reducible rfl
 try simp only [Act.put,tD,tB,tC,tA,tE,tF]
 refine wpAnyH_take (i:=3) (v:=.agg j1.arr) rfl (by kernel_rfl) (by kernel_rfl) (by kernel_rfl) (fun _ _ _ h=>h) (yields_rg rfl 66 _ rfl g (o+x * 13) rfl j1.arr _ (fun X hX=>(HJ1.out.later hX.below).rg) Tryz.underlying66 rfl (by kernel_rfl)) hS0 ?_
 try simp only [Act.put,tD,tB,tC,tA,tE,tF]
 refine wpAnyH_take (i:=4) (v:=?_) rfl (by kernel_rfl) (by kernel_rfl) (by kernel_rfl) (fun _ _ _ h=>h) (Or.inl ⟨by rfl,?_⟩) hS0 ?_
 rotate_left
 ·intro W hSW;have hx:=(hSW.cell L9.out).trans hg9.out;go_simp;try with_reducible rfl
 try simp only [Act.put,tD,tB,tC,tA,tE,tF]
 refine wpAnyH_take (i:=5) (v:=?_) rfl (by kernel_rfl) (by kernel_rfl) (by kernel_rfl) (fun _ _ _ h=>h) (Or.inl ⟨by rfl,?_⟩) hS0 ?_
 rotate_left
 ·intro W _;go_simp;try with_reducible rfl
 try simp only [Act.put,tD,tB,tC,tA,tE,tF]
 refine wpAnyH_take (i:=6) (v:=?_) rfl (by kernel_rfl) (by kernel_rfl) (by kernel_rfl) (fun _ _ _ h=>h) (Or.inl ⟨by rfl,?_⟩) hS0 ?_
 rotate_left
 ·intro W _;go_simp;try with_reducible rfl
 try simp only [Act.put,tD,tB,tC,tA,tE,tF]
 refine wpAnyH_take (i:=7) (v:=.agg j2.arr) rfl (by kernel_rfl) (by kernel_rfl) (by kernel_rfl) (fun _ _ _ h=>h) (yields_rg rfl 66 _ rfl g (o+y * 13) rfl j2.arr _ (fun X hX=>(HJ2.out.later hX.below).rg) Tryz.underlying66 rfl (by kernel_rfl)) hS0 ?_
 try simp only [Act.put,tD,tB,tC,tA,tE,tF]
 refine wpAnyH_ready (rs:=[8]) (by kernel_rfl) (by simp) ?_
 refine AllReadyH.cons rfl (fun K hK=>?_) AllReadyH.nil
 go_simp
 refine (K1.out _).mono ?_
 rintro v v1 ⟨rfl,hb1⟩
 go_simp
 refine hK.out _ _ (hS0.trans hb1) (fun hS1=>?_)
 clear hK K
 try simp only [Act.put,tD,tB,tC,tA,tE,tF]
 refine wpAnyH_take (i:=9) (v:=?_) rfl (by kernel_rfl) (by kernel_rfl) (by kernel_rfl) (fun _ _ _ h=>h) (Or.inl ⟨by rfl,?_⟩) hS1 ?_
 rotate_left
 ·intro W _;go_simp;try with_reducible rfl
 try simp only [Act.put,tD,tB,tC,tA,tE,tF]
 refine wpAnyH_done (by kernel_rfl) ?_ _
 go_wp2_with fail
 go_ret
 exact ⟨rfl,hS1⟩
end
end Go.Proofs.YtlodjgcnffmniaaGreat
