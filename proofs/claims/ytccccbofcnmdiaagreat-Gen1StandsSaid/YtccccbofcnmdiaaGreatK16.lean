/- Lemmas that the law stands on. No condition. -/
import Derived.Test.YtccccbofcnmdiaaGreatK15
namespace Go.Proofs.YtccccbofcnmdiaaGreat
set_option linter.unusedSimpArgs false
set_option linter.unusedVariables false
set_option maxRecDepth 100000
set_option maxHeartbeats 51200000
section
open Go.Shelf Go.RowKit Go.Lib Go.Sort Go.Proofs
section
variable {β:Type}
def tagd (l:List β):Array (β × Nat):=l.zipIdx.toArray
theorem tagd_size (l:List β):(tagd l).size=l.length:=by simp [tagd]
theorem tagd_get [Inhabited β]{l:List β}{i:Nat}(h:i<l.length):(tagd l)[i]! = (l[i],i):=by
 rw [getElem!_pos _ i (by rw [tagd_size];exact h)]
 simp [tagd]
theorem tagd_map (l:List β){γ:Type}(f:β->γ):(tagd l).toList.map (fun x=>f x.1)=l.map f:=by
 unfold tagd
 simp only
 apply List.ext_getElem (by simp)
 intro i h1 h2
 simp
def ltTag (lt:β->β->Bool)(x y:β × Nat):Bool:=lt x.1 y.1 || (!lt y.1 x.1 && decide (x.2<y.2))
theorem ltTag_iff {lt:β->β->Bool}{x y:β × Nat}:ltTag lt x y=true ↔ lt x.1 y.1=true ∨ (lt y.1 x.1=false/\x.2<y.2):=by unfold ltTag;simp
theorem ltTag_no {lt:β->β->Bool}{x y:β × Nat}:ltTag lt x y=false ↔ lt x.1 y.1=false/\(lt y.1 x.1=false -> ¬ x.2<y.2):=by unfold ltTag;simp
theorem swo_left {lt:β->β->Bool}(h:SWO lt){x y z:β}(h1:lt x y=true)(h2:lt z y=false):lt x z=true:=by
 cases h3:lt x z
 ·have:=h.ntrans x z y h3 h2
  rw [h1] at this;cases this
 ·rfl
theorem swo_right {lt:β->β->Bool}(h:SWO lt){x y z:β}(h1:lt y x=false)(h2:lt y z=true):lt x z=true:=by
 cases h3:lt x z
 ·have:=h.ntrans y x z h1 h3
  rw [h2] at this;cases this
 ·rfl
theorem swoTag {lt:β->β->Bool}(h:SWO lt):SWO (ltTag lt) where
 irrefl x:=by rw [ltTag_no];exact ⟨h.irrefl _,fun _=>by omega⟩
 trans x y z h1 h2:=by
  rw [ltTag_iff] at *
  rcases h1 with h1 | ⟨h1,k1⟩ <;> rcases h2 with h2 | ⟨h2,k2⟩
  ·exact .inl (h.trans _ _ _ h1 h2)
  ·exact .inl (swo_left h h1 h2)
  ·exact .inl (swo_right h h1 h2)
  ·exact .inr ⟨h.ntrans _ _ _ h2 h1,by omega⟩
 ntrans x y z h1 h2:=by
  rw [ltTag_no] at *
  refine ⟨h.ntrans _ _ _ h1.1 h2.1,fun hz=>?_⟩
  have e1:lt y.1 x.1=false:=by
   cases h3:lt y.1 x.1
   ·rfl
   ·have:=swo_left h h3 hz
    rw [h2.1] at this;cases this
  have e2:lt z.1 y.1=false:=by
   cases h3:lt z.1 y.1
   ·rfl
   ·have:=swo_left h h3 h1.1
    rw [hz] at this;cases this
  have:=h1.2 e1
  have:=h2.2 e2
  omega
def cfTag (cf:β->β->Int)(x y:β × Nat):Int:=cf x.1 y.1
theorem swoCf {cf:β->β->Int}(h:SWO (ltOf cf)):SWO (ltOf (cfTag cf)):=⟨fun x=>h.irrefl x.1,fun x y z=>h.trans x.1 y.1 z.1,fun x y z=>h.ntrans x.1 y.1 z.1⟩
theorem tagd_say [Inhabited β]{cf:β->β->Int}{l:List β}{i j:Nat}(hij:i<j)(hj:j<l.length):decide (cfTag cf (tagd l)[j]! (tagd l)[i]! < 0)=ltTag (ltOf cf) (tagd l)[j]! (tagd l)[i]!:=by
 rw [tagd_get hj,tagd_get (show i<l.length by omega)]
 unfold ltTag cfTag ltOf
 simp only
 rw [decide_eq_false (show ¬ j<i by omega),Bool.and_false,Bool.or_false]
theorem stable_places [Inhabited β]{cf:β->β->Int}{l:List β}{D:Array (β × Nat)}(hp:PermIn 0 l.length (tagd l) D)(hs:SortedIn (ltTag (ltOf cf)) 0 l.length D) :
  ∃ W:List Nat,W.Perm (List.range l.length)/\W.Pairwise (Fore fun i y=>ltOf cf (l.getD i default) (l.getD y default))/\D.toList.map (fun x=>x.1)=W.map fun i=>l.getD i default:=by
 obtain ⟨h1,_,h3⟩:=hp
 rw [tagd_size] at h1
 have h4:D.toList.Perm (tagd l).toList:=by
  have e:D.extract 0 l.length=D:=by rw [<- h1];simp
  have e2:(tagd l).extract 0 l.length=tagd l:=by rw [<- tagd_size l];simp
  rw [e,e2] at h3
  exact h3
 have hz:∀ x ∈ D.toList,x.2<l.length/\x.1=l.getD x.2 default:=by
  intro x hx
  have hx2:=h4.subset hx
  unfold tagd at hx2
  simp only at hx2
  obtain ⟨i,hi,e⟩:=List.getElem_of_mem hx2
  rw [List.getElem_zipIdx] at e
  have hi':i<l.length:=by simpa using hi
  subst e
  simp only [Nat.zero_add]
  exact ⟨hi',by rw [List.getD_eq_getElem?_getD,List.getElem?_eq_getElem hi',Option.getD_some]⟩
 have hperm:(D.toList.map (·.2)).Perm (List.range l.length):=by
  refine (h4.map (·.2)).trans ?_
  unfold tagd
  simp only
  rw [show l.zipIdx.map (fun x=>x.2)=List.range l.length by
   apply List.ext_getElem (by simp)
   intro i h1 h2
   simp]
 refine ⟨D.toList.map (·.2),hperm,?_,?_⟩
 ·have hnd:(D.toList.map (·.2)).Nodup:=hperm.nodup_iff.2 List.nodup_range
  rw [List.pairwise_iff_getElem]
  intro i j hi hj hij
  have hi':i<D.size:=by simpa using hi
  have hj':j<D.size:=by simpa using hj
  have hso:=hs i j (Nat.zero_le _) hij (by omega)
  rw [getElem!_pos D i hi',getElem!_pos D j hj'] at hso
  have ei:=hz D[i] (by simp)
  have ej:=hz D[j] (by simp)
  have hne:D[i].2 ≠ D[j].2:=by
   have:=List.pairwise_iff_getElem.1 hnd i j hi hj hij
   simpa using this
  rw [ltTag_no,ei.2,ej.2] at hso
  simp only [List.getElem_map,Array.getElem_toList]
  cases hc:ltOf cf (l.getD D[i].2 default) (l.getD D[j].2 default)
  ·refine .inr ⟨hso.1,?_⟩
   have:=hso.2 hc
   omega
  ·exact .inl hc
 ·rw [List.map_map]
  refine List.map_congr_left fun x hx=>?_
  exact (hz x hx).2
end
section
variable {α:Type} [Inhabited α]{enc:α->List Value}{k:Nat}
theorem heap_sort {w:World}{g n:Nat}{os:Array Obj}{cur:Array Value}{e:TypeId}{fr:Nat × Nat}(F:Array Value)(hb:w.heap[g]? = some (.cells cur e fr)) :
  (grow (putRow id (Sort.ahead w n) g 0 F) os).heap[g]? = some (.cells (putCells id 0 F cur) e fr):=by
 have hg:g<w.heap.size:=(Array.getElem?_eq_some_iff.1 hb).1
 rw [heap_grow_old _ _ (by simpa using hg)]
 simp [putRow,mapBlock,Sort.ahead,Array.getElem?_modify,hb,onCells]
theorem take_put (cur F:Array Value)(h:F.size<=cur.size):(putCells id 0 F cur).toList.take F.size=F.toList:=by
 apply List.ext_getElem?
 intro j
 by_cases hj:j<F.size
 ·rw [List.getElem?_take_of_lt hj,Array.getElem?_toList,Array.getElem?_toList]
  simp [putCells,hj,show j<cur.size by omega]
 ·rw [List.getElem?_take_eq_none (by omega),List.getElem?_eq_none (by simp;omega)]
theorem flatK_is (hk:∀ x,(enc x).length=k)(h0:0<k)(D:Array α):(flatK enc k D).toList=(D.toList.map enc).flatten:=by
 have hl:∀ x ∈ D.toList.map enc,x.length=k:=by
  intro x hx
  rw [List.mem_map] at hx
  obtain ⟨y,_,rfl⟩:=hx
  exact hk y
 have hlen:(D.toList.map enc).flatten.length=D.size * k:=by rw [flat_length hl];simp
 apply List.ext_getElem (by rw [hlen];simp)
 intro t h1 h2
 have ht:t<D.size * k:=by rw [<- hlen];exact h2
 have hi:t / k<D.size:=(Nat.div_lt_iff_lt_mul h0).2 ht
 have hj:t % k<k:=Nat.mod_lt _ h0
 have hx:(D.toList.map enc)[t / k]? = some (enc D[t / k]!):=by
  rw [List.getElem?_map,Array.getElem?_toList,Array.getElem?_eq_getElem hi,getElem!_pos D (t / k) hi];rfl
 have hv:(enc D[t / k]!)[t % k]? = some ((enc D[t / k]!)[t % k]'(by rw [hk];exact hj)):=List.getElem?_eq_getElem _
 have hf:=flat_get hl hx hv
 rw [Nat.div_add_mod' t k,List.getElem?_eq_getElem h2] at hf
 injection hf with hf
 rw [hf]
 have hg:=get_flatK enc k D t ht
 rw [getElem!_pos _ t (by rw [size_flatK];exact ht),getElem!_pos (enc D[t / k]!) (t % k) (by rw [hk];exact hj)] at hg
 simpa using hg
theorem own_sorted (hk:∀ x,(enc x).length=k)(h0:0<k) {w w':World}{base g cap:Nat}{e:TypeId}{l:List α}{D:Array α}(h:OwnK w base e k (.slice (some ⟨g,0,none⟩) l.length cap) (l.map enc))(hS:SWK enc k w g 0 D w')(hD:D.size=l.length) :
  OwnK w' base e k (.slice (some ⟨g,0,none⟩) l.length cap) (D.toList.map enc):=by
 obtain ⟨n,os,rfl⟩:=hS
 have hfl:(flatK enc k D).size=l.length * k:=by rw [size_flatK,hD]
 obtain ⟨hk',hl',hr⟩:=h
 rw [List.length_map] at hr
 rcases hr with ⟨hv,_⟩ | ⟨g',cap',cur,hv,hb,hg,hn,hm,hc,ht⟩
 ·cases hv
 ·injection hv with hv1 hv2 hv3
  injection hv1 with hv1
  injection hv1 with hv1
  subst hv1 hv3
  have hml:(D.toList.map enc).length=l.length:=by simp [hD]
  refine ⟨fun x hx=>?_,?_,.inr ⟨g,cap,_,?_,hb,heap_sort (flatK enc k D) hg,?_,hm,by simp [putCells,hc],?_⟩⟩
  ·rw [List.mem_map] at hx
   obtain ⟨y,_,rfl⟩:=hx
   exact hk y
  ·rw [hml,<- flatK_is hk h0];simp [hD]
  ·rw [hml]
  ·rw [hml];exact hn
  ·rw [hml,<- flatK_is hk h0,<- hfl]
   exact take_put cur _ (by rw [hfl,hc];exact Nat.mul_le_mul_right k hn)
end
end
namespace StI
open Go.Shelf Go.RowKit Go.Lib Go.Sort Go.Proofs
def encV {β:Type}(val:β->Int)(x:β × Nat):Value:=.int .i64 (val x.1)
theorem oneV {β:Type}(val:β->Int):OneCell (encV val):=fun _=>rfl
section
variable {β:Type} [Inhabited β]{val:β->Int}{cf:β->β->Int}{g:Nat}{cb:Array Value}
theorem grown_sort (val:β->Int)(w:World) (b n:Nat)(d:Array (β × Nat))(os:Array Obj):w.grownBy (sortWorld (encV val) w b 0 n d os) (some b):=by
 refine ⟨rfl,rfl,rfl,by simp [sortWorld],fun k hk hne=>?_⟩
 unfold sortWorld
 rw [heap_grow_old _ _ (by simpa using hk)]
 have:b ≠ k:=fun e=>hne (by rw [e])
 simp [putRow,mapBlock,Sort.ahead,Array.getElem?_modify,this]
theorem heap_sortV {w:World}{b n:Nat}{os:Array Obj}{cur:Array Value}{e:TypeId}{fr:Nat × Nat}(d:Array (β × Nat))(hb:w.heap[b]? = some (.cells cur e fr)):(sortWorld (encV val) w b 0 n d os).heap[b]? = some (.cells (putCells (encV val) 0 d cur) e fr):=by
 have hg:b<w.heap.size:=(Array.getElem?_eq_some_iff.1 hb).1
 unfold sortWorld
 rw [heap_grow_old _ _ (by simpa using hg)]
 simp [putRow,mapBlock,Sort.ahead,Array.getElem?_modify,hb,onCells]
theorem take_putV (cur:Array Value)(d:Array (β × Nat))(h:d.size<=cur.size):(putCells (encV val) 0 d cur).toList.take d.size=d.toList.map (encV val):=by
 apply List.ext_getElem?
 intro j
 by_cases hj:j<d.size
 ·rw [List.getElem?_take_of_lt hj,Array.getElem?_toList]
  simp [putCells,hj,show j<cur.size by omega]
 ·rw [List.getElem?_take_eq_none (by omega),List.getElem?_eq_none (by simp;omega)]
theorem flatV (l:List Int):(cellsI l).flatten=l.map fun x=>Value.int .i64 x:=by
 unfold cellsI
 induction l with
 | nil=>rfl
 | cons a r ih=>simp [ih]
theorem stable_own (swo:SWO (ltOf cf))(ent:∀ args w,(callFunc g args).run Tryz.prog w = .ok (.enter g args) w){l:List β}{w:World}{base:Nat}{v:Value}{A:Option Addr}{n cap:Nat}(hv:v = .slice A n cap)(hn:n=l.length)(h:OwnK w base 3 1 v (cellsI (l.map val)))(hb:base<=w.heap.size)(hl:n<1152921504606846976)
  (call:∀ b,v.ownBlock=some b -> ∀ W,w.grownBy W (some b) -> ∀ x y:β,Calls Tryz.prog g (#[.int .i64 (val x),.int .i64 (val y)] ++ cb) W fun e w'=>e = .returned (.int .i64 (cf x y))/\Gw W w') :
  Calls Tryz.prog 201 #[.slice A n cap,.func (.func g) #[] cb] w fun e w'=>e = .returned (.tuple #[]) /\ ∃ W:List Nat,W.Perm (List.range l.length)/\W.Pairwise (Fore fun i y=>ltOf cf (l.getD i default) (l.getD y default))/\OwnK w' base 3 1 v (cellsI ((W.map fun i=>l.getD i default).map val))/\Below base w w':=by
 subst hv
 have h':=h
 obtain ⟨hk,hs0,hr⟩:=h
 rcases hr with ⟨h1,h0⟩ | ⟨b,cap1,cur,h1,hbg,hg,hn1,hm1,hc1,ht1⟩
 ·rw [cellsI_length,List.length_map] at h0
  have hl0:l=[]:=List.length_eq_zero_iff.1 h0
  subst hl0
  injection h1 with e1 e2 e3
  subst e1 e2 e3
  refine (sortStable_none none 0 w).mono ?_
  rintro e w' ⟨he,rfl⟩
  exact ⟨he,[],by simp,List.Pairwise.nil,OwnK.nil _ _ _ _,Below.refl _ _⟩
 ·rw [cellsI_length,List.length_map] at h1 hn1 ht1
  rw [Nat.mul_one] at ht1
  injection h1 with e1 e2 e3
  subst e1 e3
  rw [flatV] at ht1
  have hblk:b<w.heap.size:=Bk.here hg
  have htag:(tagd l).size=n:=by rw [hn,tagd_size]
  have hH:Holds (encV val) w b 0 (tagd l):=by
   intro j hj
   have hj':j<l.length:=by rw [tagd_size] at hj;exact hj
   refine ⟨?_,Bk.free hg _⟩
   rw [Nat.zero_add,Bk.cellAt hg j,tagd_get hj',<- Array.getElem?_toList]
   have h9:(cur.toList.take l.length)[j]? = ((l.map val).map fun x=>Value.int .i64 x)[j]?:=by rw [ht1]
   rw [List.getElem?_take_of_lt hj'] at h9
   rw [h9]
   simp [encV,hj']
  have C:CmpOk (encV val) (cfTag cf) g cb b 0 (tagd l).size w:=⟨swoCf swo,ent,fun m os dk hsz x y=>call b rfl _ (grown_sort val w b m dk os) x.1 y.1⟩
  have R:Row1 (encV val) w b 0 (tagd l):=⟨oneV val,hH,hblk⟩
  have hc:=sortStable_any (ltTag (ltOf cf)) (swoTag swo) b 0 cap n (tagd l) w C R htag.symm hl (fun i j hij hj=>tagd_say hij (by omega))
  refine Calls.mono hc ?_
  rintro e w' ⟨he,D,hp,hs,hS⟩
  rw [hn] at hp hs
  obtain ⟨W,w1,w2,w3⟩:=stable_places hp hs
  have hD:D.size=l.length:=by rw [<- tagd_size l];exact hp.1
  obtain ⟨m,os,rfl⟩:=hS
  refine ⟨he,W,w1,w2,?_,?_⟩
  ·rw [<- w3]
   have hdl:(List.map val (List.map (fun x=>x.1) D.toList)).length=l.length:=by simp [hD]
   refine ⟨cellsI_k _,by rw [flatV,cellsI_length];simp,.inr ⟨b,cap,_,by rw [cellsI_length,hdl,<- e2,hn],hbg,heap_sortV D hg,by rw [cellsI_length,hdl];exact hn1,hm1,by simp [putCells,hc1],?_⟩⟩
   rw [cellsI_length,hdl,Nat.mul_one,<- hD,take_putV cur D (by rw [hD,hc1,Nat.mul_one];exact hn1),flatV,List.map_map,List.map_map]
   rfl
  ·exact (Below.refl base w).grown (grown_sort val w b m D os) hb (fun k hk=>by injection hk with hk;subst hk;exact hbg)
end
end StI
section
open Go.RowKit
theorem gangOf_take {l:List Jb}{s:ByteArray}{S:List Nat}{a:Nat}(h:a<S.length):gangOf l s (S.take (a+1))=gangOf l s (S.take a) ++ if sE (jat l S[a]).ga s then [S[a]] else []:=by
 unfold gangOf;rw [List.take_succ_eq_append_getElem h,List.filter_append]
 cases he:sE (jat l S[a]).ga s
 ·rw [List.filter_cons_of_neg (p:=fun y=>sE (jat l y).ga s) (by show ¬ sE (jat l S[a]).ga s=true;rw [he];exact Bool.false_ne_true)];simp
 ·rw [List.filter_cons_of_pos (p:=fun y=>sE (jat l y).ga s) he];simp
theorem gangOf_len (l:List Jb)(s:ByteArray)(S:List Nat):(gangOf l s S).length<=S.length:=List.length_filter_le _ _
theorem rdOf {w:World}{b:Nat}{B:Option Addr}{q c:Nat}{l:List Int}{e:TypeId}(h:OwnK w b e 1 (.slice B q c) (cellsI l)):RdI w B l:=by
 obtain ⟨A,c',hv,hr,_⟩:=h.rdi
 injection hv with h1
 subst h1;exact hr
end
section
open Go.RowKit Go.Sort
theorem enter14:∀ args w,(callFunc 202 args).run Tryz.prog w = .ok (.enter 202 args) w:=enters_of Tryz.func202 (by kernel_rfl) rfl
abbrev waitK (l:List Jb) (k:Nat):List Nat:=(List.range k).filter (waitC l)
theorem waitK_succ (l:List Jb) (k:Nat):waitK l (k+1)=waitK l k ++ if waitC l k then [k] else []:=by
 unfold waitK
 rw [List.range_succ,List.filter_append]
 cases h:waitC l k
 ·rw [List.filter_cons_of_neg (by rw [h];exact Bool.false_ne_true)];simp
 ·rw [List.filter_cons_of_pos h];simp
theorem waitK_len (l:List Jb) (k:Nat):(waitK l k).length<=k:=Nat.le_trans (List.length_filter_le _ _) (by rw [List.length_range];exact Nat.le_refl _)
abbrev at14 (l:List Jb) (i:Nat):Nat:=min i (l.length - 1)
def val14 (l:List Jb) (i:Nat):Int:=(at14 l i:Int)
def cf14 (l:List Jb) (i k:Nat):Int:=cfo (jat l (at14 l i)) (jat l (at14 l k))
theorem lt14 (l:List Jb) (i k:Nat):ltOf (cf14 l) i k=ahU l (at14 l i) (at14 l k):=by
 unfold ltOf cf14;exact cfo_try _ _
theorem swo14 (l:List Jb):SWO (ltOf (cf14 l)) where
 irrefl x:=by rw [lt14];exact tryB_irrefl _
 trans x y z h1 h2:=by rw [lt14] at *;exact tryB_trans h1 h2
 ntrans x y z h1 h2:=by rw [lt14] at *;exact tryB_ntrans h1 h2
theorem vals14 (l:List Jb):(waitK l l.length).map (val14 l)=ints (waitK l l.length):=by
 unfold ints
 refine List.map_congr_left fun i hi=>?_
 have:=List.mem_range.1 (List.mem_filter.1 hi).1
 show ((min i (l.length - 1):Nat):Int)=_
 rw [Nat.min_eq_left (by omega)]
theorem sorted14 {l:List Jb}{W:List Nat}(h1:W.Perm (List.range (waitK l l.length).length))(h2:W.Pairwise (Fore fun i y=>ltOf (cf14 l) ((waitK l l.length).getD i default) ((waitK l l.length).getD y default))):(W.map fun i=>(waitK l l.length).getD i default)=srtU l:=by
 have hW:∀ i ∈ W,i<(waitK l l.length).length:=fun i hi=>List.mem_range.1 (h1.subset hi)
 have hasc:(waitK l l.length).Pairwise (· < ·):=List.pairwise_lt_range.sublist List.filter_sublist
 have e:∀ i (h:i<(waitK l l.length).length),(waitK l l.length).getD i default=(waitK l l.length)[i]:=by
  intro i hi;simp [List.getD,List.getElem?_eq_getElem hi]
 have hl:∀ i (h:i<(waitK l l.length).length),at14 l ((waitK l l.length).getD i default)=(waitK l l.length).getD i default:=by
  intro i hi
  rw [e i hi]
  have:=List.mem_range.1 (List.mem_filter.1 (List.getElem_mem hi)).1
  show min _ _=_
  rw [Nat.min_eq_left (by omega)]
 refine srtU_one ?_ ?_
 ·rw [List.pairwise_map]
  refine List.Pairwise.imp_of_mem (fun {x y} hx hy h=>?_) h2
  unfold Fore at h ⊢
  simp only at h ⊢
  rw [lt14,lt14,hl x (hW x hx),hl y (hW y hy)] at h
  refine h.imp id fun ⟨k1,k2⟩=>⟨k1,?_⟩
  rw [e x (hW x hx),e y (hW y hy)]
  exact List.pairwise_iff_getElem.1 hasc x y (hW x hx) (hW y hy) k2
 ·refine (h1.map _).trans ?_
  rw [show (List.range (waitK l l.length).length).map (fun i=>(waitK l l.length).getD i default)=waitK l l.length from ?_]
  apply List.ext_getElem (by simp)
  intro i k1 k2
  simp [List.getD,List.getElem?_eq_getElem k2]
theorem infoI14:(Tryz.prog.info? 3).map (fun i=>(i.zero,i.size,i.bytes))=some (some (.int .i64 0),1,8):=by kernel_rfl


theorem waiting14_any (A:Option Addr) (n cap:Nat)(l:List Jb)(w:World)(hn:Hid (n=l.length))(hl:n<=1000000)(hA:Hid (RdJ w A l)) :
  Calls Tryz.prog 187 #[.slice A n cap] w fun e w'=>RetI14 w.heap.size w' e (ints (srtU l))/\Below w.heap.size w w':=by
 go_enter Tryz.func187,Tryz.ntmps187
 have hB0:Below w.heap.size w (w.alloc (.cells #[.slice A n cap] 29)):=(Below.refl _ _).alloc (Nat.le_refl _) _
 have HX0:=Lib.hid (show Bk (w.alloc (.cells #[.slice A n cap] 29)) w.heap.size 29 #[.slice A n cap] from Bk.fresh w _ _)
 go_wp2_with fail
 go_loopw [3,8] (fun vo i wr=>∃ k:Nat,k<=n/\i = .int .i64 k/\Hid (OwnK wr (w.heap.size+1) 3 1 vo (cellsI (ints (waitK l k))))/\Hid (n=0->vo = .slice none 0 0)/\Hid (Bk wr w.heap.size 29 #[.slice A n cap])/\Below w.heap.size w wr) (fun _ i wr=>n - (intOf i).toNat)
 case atStart=>exact ⟨0,Nat.zero_le _,rfl,(show OwnK _ _ _ _ _ (cellsI (ints (waitK l 0))) from OwnK.nil _ _ _ _),(show _->_ from fun _=>rfl),HX0,hB0⟩
 case round=>
  clear HX0 hB0
  obtain ⟨k,hk,rfl,HO,HV,HX,hb⟩:=hrel
  have lt0:w.heap.size<wr.heap.size:=HX.out.here
  by_cases hlt:k<n
  ·have hlk:k<l.length:=by have:=hn.out;omega
   obtain ⟨E,hE⟩:∃ E,E=waitK l k:=⟨_,rfl⟩
   have hst:=waitK_succ l k
   have h7:=HO.out
   rw [<- hE] at h7 hst
   have hEl:E.length<=k:=by rw [hE];exact waitK_len l k
   obtain ⟨g,o,hAg,hg,hj⟩:=(hA.out.later hb).at hlk
   subst hAg
   obtain ⟨j,hjk⟩:∃ j,j=l[k]:=⟨_,rfl⟩
   rw [<- hjk] at hj
   have hwc:waitC l k=decide (j.nd.size=0):=by unfold waitC;rw [jat_at hlk,<- hjk]
   rw [hwc] at hst
   obtain ⟨R,hR⟩:∃ R,decide (j.nd.size=0)=R:=⟨_,rfl⟩
   have k1:=fun (W:World)=>waits14_any j W
   rw [hR] at k1 hst
   have K1:=Lib.hid k1;have HJ:=Lib.hid hj;have HO7:=Lib.hid h7;have HST:=Lib.hid hst
   clear k1 hj h7 hst HO HV hjk hwc hR hE
   go_wp2_with (first | (with_reducible refine load_rg rfl 66 _ rfl g (o+k * 13) rfl j.arr _ HJ.out.rg Tryz.underlying66 rfl (by kernel_rfl) ?_) | ((with_reducible refine store_bk rfl 66 (.tmp 5) (.tmp 12) rfl wr.heap.size 0 j.arr rfl rfl 66 _ j.arr (Bk.fresh _ _ _) (by kernel_rfl) (by simp) (by kernel_rfl) rfl ?_);intro w1 hB1 hg1 hs1;have bl1:Below wr.heap.size wr w1:=grown_below ((Below.refl _ _).alloc (Nat.le_refl _) _) hg1 (Nat.le_refl _);have HX1:=Lib.hid hB1;clear hB1 hg1 hs1) | (with_reducible refine load_bk rfl 66 _ rfl wr.heap.size 0 rfl 66 j.arr j.arr _ HX1.out (Part.whole _) Tryz.underlying66 rfl (by kernel_rfl) ?_))
   refine (K1.out _).mono ?_;rintro e w2 ⟨rfl,hb2⟩
   have hb12:Below wr.heap.size wr w2:=bl1.trans (hb2.mono bl1.size)
   have hB2:Below w.heap.size w w2:=hb.trans (hb12.mono hb.size)
   have HO2:=Lib.hid (HO7.out.below hb12);have HBx:=Lib.hid (HX.out.later hb12)
   have lt2:w.heap.size<w2.heap.size:=HBx.out.here
   cases R
   ·have HS:Hid (waitK l (k+1)=E):=by show _=_;rw [HST.out];simp
    go_wp2_with fail
    go_round
    case rel=>exact ⟨k+1,by omega,by go_num,(by show OwnK _ _ _ _ _ _;rw [HS.out];exact HO2.out),(show _->_ from fun e=>absurd e (by omega)),HBx,hB2⟩
    case measure=>simp [intOf];omega
   ·have HS:Hid (waitK l (k+1)=E ++ [k]):=by show _=_;rw [HST.out];simp
    go_wp2_with (first | ((with_reducible refine append_k _ rfl (.tmp 15) (.tmp 17) 150 rfl (w.heap.size+1) 3 _ 1 8 Tryz.underlying150 infoI14 rfl (by omega) u3 (cellsI (ints E)) rfl (HO2.out.alloc _) ⟨w2.heap.size,0,none⟩ 1 1 (cellsI [(k:Int)]) rfl (fresh_k w2 1 _ _ rfl) (cellsI_k _) (cellsI_one _) rfl (by simp [cellsI,ints,maxLen];omega) (by simp [cellsI,ints];omega) (by simp;omega) ?_);intro u7' w3 hO3 hg3;rw [<- cellsI_append] at hO3;have HO3:=Lib.hid hO3;clear hO3;have HBx3:=Lib.hid ((HBx.out.later ((Below.refl _ _).alloc (Nat.le_refl _) _)).stays hg3 (fun e=>by have:=HO2.out.block _ e.symm;omega));have hB3:Below w.heap.size w w3:=(hB2.alloc hB2.size _).grown hg3 (by simp;omega) (fun g e=>by have:=HO2.out.block _ e;omega);clear hg3))
    go_round
    case rel=>exact ⟨k+1,by omega,by go_num,(by show OwnK _ _ _ _ _ _;rw [HS.out];have h:=HO3.out;simpa [ints] using h),(show _->_ from fun e=>absurd e (by omega)),HBx3,hB3⟩
    case measure=>simp [intOf];omega
  ·have hk':k=n:=by omega
   subst hk'
   have h:=HO.out
   obtain ⟨B,c,hv,hr',hc1,hc2,_⟩:=h.sl
   have hv':=hv
   rw [cellsI_length] at hv'
   obtain ⟨nf,hnf⟩:∃ nf,nf=(ints (waitK l k)).length:=⟨_,rfl⟩
   have hnf2:nf=(waitK l l.length).length:=by rw [hnf,hn.out];simp [ints]
   have hnl:nf<=1000000:=by rw [hnf2];have:=waitK_len l l.length;have:=hn.out;omega
   rw [<- hnf] at hv'
   rw [show waitK l k=waitK l l.length by rw [hn.out],<- vals14] at h
   rw [hv'] at h
   have k1:=StI.stable_own (val:=val14 l) (cf:=cf14 l) (cb:=#[.pointer (some ⟨w.heap.size,0,none⟩)]) (swo14 l) enter14 (l:=waitK l l.length) (w:=wr) (base:=w.heap.size+1) (v:=.slice B nf c) rfl hnf2 h (by omega) (by omega) (fun b hbv W hgW x y=>by
    have hn0:0<k:=by
     rcases Nat.eq_zero_or_pos k with h0 | h0
     ·rw [<- hv',HV.out h0] at hbv;cases hbv
     ·exact h0
    have hgb:=h.block b hbv
    have hbW:Below (w.heap.size+1) wr W:=(Below.refl _ _).grown hgW (by omega) (fun g e=>by injection e with e;omega)
    have hk2:=hn.out
    exact closure14_any A k cap w.heap.size l (at14 l x) (at14 l y) W hn (by show min _ _<_;omega) (by show min _ _<_;omega) hl (Lib.hid (hA.out.later (hb.trans (hbW.mono (by omega))))) (Lib.hid ((hbW.cell (p:=⟨w.heap.size,0,none⟩) (by show w.heap.size<_;omega)).trans (HX.out.cellAt 0))))
   have K1:=Lib.hid k1
   have HW:Hid (∀ W:List Nat,W.Perm (List.range (waitK l l.length).length)->W.Pairwise (Fore fun i y=>ltOf (cf14 l) ((waitK l l.length).getD i default) ((waitK l l.length).getD y default))->((W.map fun i=>(waitK l l.length).getD i default)).map (val14 l)=ints (srtU l)):=fun W h1 h2=>by
    rw [sorted14 h1 h2]
    unfold ints
    refine List.map_congr_left fun i hi=>?_
    have:=(srtU_mem.1 hi).1
    show ((min i (l.length - 1):Nat):Int)=_
    rw [Nat.min_eq_left (by omega)]
   subst hv'
   clear k1 h hr' hc1 hc2 hv hnf hnf2 HO HV
   go_wp2_with fail
   refine K1.out.mono ?_;rintro e w2 ⟨rfl,W,hW1,hW2,hO2,hb2⟩
   rw [HW.out W hW1 hW2] at hO2
   have HO2:=Lib.hid hO2
   clear hW1 hW2 hO2
   go_wp2_with fail
   go_ret
   exact ⟨⟨_,rfl,OwnK.base HO2.out (by omega)⟩,hb.trans (hb2.mono (by omega))⟩
end
section
open Go.RowKit
def cntG (l:List Jb) (k:Nat)(s:ByteArray):Nat:=if s.size=0 then 0 else manyK l s k
def selG (l:List Jb)(S:List Nat)(s:ByteArray):List Nat:=if s.size=0 then [] else gangOf l s S
theorem cntG_le (l:List Jb) (k:Nat)(s:ByteArray):cntG l k s<=k:=by
 unfold cntG;split
 ·omega
 ·exact manyK_le l s k
theorem selG_len (l:List Jb)(S:List Nat)(s:ByteArray):(selG l S s).length<=S.length:=by
 unfold selG;split
 ·simp
 ·exact gangOf_len l s S
theorem cntG_zero (l:List Jb)(s:ByteArray):cntG l 0 s=0:=by unfold cntG manyK;simp
theorem cntG_no {l:List Jb}{k:Nat}(h:k<l.length)(hg:l[k].ga.size=0)(s:ByteArray):cntG l (k+1) s=cntG l k s:=by
 unfold cntG
 by_cases hs:s.size=0
 ·rw [if_pos hs,if_pos hs]
 ·rw [if_neg hs,if_neg hs,manyK_succ h]
  have:sE l[k].ga s=false:=by
   cases he:sE l[k].ga s
   ·rfl
   ·rw [sE_iff] at he;rw [he] at hg;exact absurd hg hs
  rw [this];rfl
theorem cntG_yes {l:List Jb}{k:Nat}(h:k<l.length)(hg:l[k].ga.size ≠ 0)(s:ByteArray):cntG l (k+1) s=if s=l[k].ga then cntG l k l[k].ga+1 else cntG l k s:=by
 by_cases hs:s=l[k].ga
 ·rw [if_pos hs]
  subst hs
  unfold cntG
  rw [if_neg hg,if_neg hg,manyK_succ h,sE_refl];rfl
 ·rw [if_neg hs]
  unfold cntG
  by_cases hz:s.size=0
  ·rw [if_pos hz,if_pos hz]
  ·rw [if_neg hz,if_neg hz,manyK_succ h]
   have:sE l[k].ga s=false:=by
    cases he:sE l[k].ga s
    ·rfl
    ·rw [sE_iff] at he;exact absurd he.symm hs
   rw [this];rfl
theorem selG_no {l:List Jb}{S:List Nat}{k:Nat}(h:k<S.length)(hg:(jat l S[k]).ga.size=0)(s:ByteArray):selG l (S.take (k+1)) s=selG l (S.take k) s:=by
 unfold selG
 by_cases hs:s.size=0
 ·rw [if_pos hs,if_pos hs]
 ·rw [if_neg hs,if_neg hs,gangOf_take h]
  have:sE (jat l S[k]).ga s=false:=by
   cases he:sE (jat l S[k]).ga s
   ·rfl
   ·rw [sE_iff] at he;rw [he] at hg;exact absurd hg hs
  rw [this];simp
theorem selG_yes {l:List Jb}{S:List Nat}{k:Nat}(h:k<S.length)(hg:(jat l S[k]).ga.size ≠ 0)(s:ByteArray):selG l (S.take (k+1)) s=if s=(jat l S[k]).ga then selG l (S.take k) (jat l S[k]).ga ++ [S[k]] else selG l (S.take k) s:=by
 by_cases hs:s=(jat l S[k]).ga
 ·rw [if_pos hs]
  subst hs
  unfold selG
  rw [if_neg hg,if_neg hg,gangOf_take h,sE_refl];rfl
 ·rw [if_neg hs]
  unfold selG
  by_cases hz:s.size=0
  ·rw [if_pos hz,if_pos hz]
  ·rw [if_neg hz,if_neg hz,gangOf_take h]
   have:sE (jat l S[k]).ga s=false:=by
    cases he:sE (jat l S[k]).ga s
    ·rfl
    ·rw [sE_iff] at he;exact absurd he.symm hs
   rw [this];simp
abbrev zG:Value:=.agg #[.int .i64 0,.slice none 0 0]
theorem zeroG (w:World):(zeroValue 219).run Tryz.prog w = .ok zG w:=by kernel_rfl
def entG (l:List Jb) (k:Nat)(V:ByteArray->Value)(s:ByteArray):Value:=.agg #[.int .i64 (cntG l k s),V s]
structure Gok (w:World) (b:Nat)(V:ByteArray->Value)(G:ByteArray->List Nat):Prop where
 el:∀ s,OwnK w b 3 1 (V s) (cellsI (ints (G s)))
 ap:∀ s s',s ≠ s' -> (V s).ownBlock=none ∨ (V s).ownBlock ≠ (V s').ownBlock
theorem Gok.later {w w':World}{b:Nat}{V:ByteArray->Value}{G:ByteArray->List Nat}(h:Gok w b V G)(hb:Below w.heap.size w w'):Gok w' b V G:=⟨fun s=>(h.el s).below hb,h.ap⟩
theorem Gok.grown {w w':World}{b:Nat}{V:ByteArray->Value}{G:ByteArray->List Nat}{row:Option Nat}(h:Gok w b V G)(hg:w.grownBy w' row)(hne:∀ s,(V s).ownBlock=none ∨ (V s).ownBlock ≠ row):Gok w' b V G:=⟨fun s=>(h.el s).grown hg (hne s),h.ap⟩
theorem Gok.put {w w':World}{b:Nat}{V:ByteArray->Value} {G G':ByteArray->List Nat} {v':Value}{s:ByteArray}(h:Gok w b V G)(hO:OwnK w' b 3 1 v' (cellsI (ints (G' s))))(hg:w.grownBy w' (V s).ownBlock)
  (hat:v'.ownBlock=(V s).ownBlock ∨ v'.ownBlock=some w.heap.size)(hG:∀ s',s' ≠ s->G' s' = G s'):Gok w' b (fun s'=>if s' = s then v' else V s') G' where
 el s':=by
  show OwnK w' b 3 1 (if s' = s then v' else V s') _
  by_cases hs:s' = s
  ·subst hs;rw [if_pos rfl];exact hO
  ·rw [if_neg hs,hG s' hs];exact (h.el s').grown hg (h.ap s' s hs)
 ap s1 s2 hne:=by
  show (if s1=s then v' else V s1).ownBlock=none ∨ (if s1=s then v' else V s1).ownBlock ≠ (if s2=s then v' else V s2).ownBlock
  by_cases h1:s1=s
  ·subst h1
   rw [if_pos rfl,if_neg (fun e=>hne e.symm)]
   rcases hat with hat | hat
   ·rw [hat];exact h.ap s1 s2 hne
   ·refine .inr fun e=>?_
    rw [hat] at e
    have:=(h.el s2).lt e.symm
    omega
  ·rw [if_neg h1]
   by_cases h2:s2=s
   ·subst h2
    rw [if_pos rfl]
    rcases hat with hat | hat
    ·rw [hat];exact h.ap s1 s2 hne
    ·refine .inr fun e=>?_
     rw [hat] at e
     have:=(h.el s1).lt e
     omega
   ·rw [if_neg h2];exact h.ap s1 s2 hne


theorem collect14_any (A:Option Addr) (n cap:Nat)(l:List Jb)(B:Option Addr) (q c:Nat)(S:List Nat)(w:World)(hn:Hid (n=l.length))(hl:n<=1000000)(hA:Hid (RdJ w A l))(hq:Hid (q=S.length))(hB:Hid (RdI w B (ints S)))(hS:Hid (∀ y ∈ S,y<l.length))(hqn:q<=n) :
  Calls Tryz.prog 188 #[.slice A n cap,.slice B q c] w fun e w'=>(∃ b V,e = .returned (.map (some b))/\w.heap.size<=b/\MapF w' b zG (entG l n V)/\Gok w' w.heap.size V (selG l S))/\Below w.heap.size w w':=by
 have hmm:=@run_makeMap Tryz.prog
 go_enter Tryz.func188,Tryz.ntmps188
 have HM0:=Lib.hid (show MapF (w.alloc (.map #[] 0)) w.heap.size zG (entG l 0 fun _=>.slice none 0 0) from by
  have h:=MapF.made w zG
  rwa [show (fun _=>zG)=entG l 0 fun _=>.slice none 0 0 from funext fun s=>by unfold entG;rw [cntG_zero];rfl] at h)
 have hB0:Below w.heap.size w (w.alloc (.map #[] 0)):=(Below.refl _ _).alloc (Nat.le_refl _) _
 go_wp2_with fail
 clear hmm
 go_loopw [17] (fun i wr=>∃ k:Nat,k<=n/\i = .int .i64 k/\Hid (MapF wr w.heap.size zG (entG l k fun _=>.slice none 0 0))/\Below w.heap.size w wr) (fun i wr=>n - (intOf i).toNat)
 case atStart=>exact ⟨0,Nat.zero_le _,rfl,HM0,hB0⟩
 case round=>
  clear HM0 hB0
  obtain ⟨k,hk,rfl,HM,hb⟩:=hrel
  have lt0:w.heap.size<wr.heap.size:=HM.out.lt
  by_cases hlt:k<n
  ·have hlk:k<l.length:=by have:=hn.out;omega
   obtain ⟨g,o,hAg,hg,hj⟩:=(hA.out.later hb).at hlk
   subst hAg
   have hno:=cntG_no hlk
   have hyes:=cntG_yes hlk
   obtain ⟨j,hjk⟩:∃ j,j=l[k]:=⟨_,rfl⟩
   rw [<- hjk] at hj hno hyes
   have HJ:=Lib.hid hj;have HNo:=Lib.hid hno;have HYes:=Lib.hid hyes
   clear hj hjk hno hyes
   by_cases h0:j.ga.size=0
   ·have hga:j.ga=⟨#[]⟩:=empty_of h0
    have HE:Hid (entG l (k+1) (fun _=>.slice none 0 0)=entG l k fun _=>.slice none 0 0):=by
     show _=_
     funext s
     unfold entG
     rw [HNo.out h0 s]
    have HGA:=Lib.hid hga
    clear h0 hga HNo HYes
    go_wp2_with (first | (with_reducible refine load_rg rfl 66 _ rfl g (o+k * 13) rfl j.arr _ HJ.out.rg Tryz.underlying66 rfl (by kernel_rfl) ?_) | ((with_reducible refine store_bk rfl 66 (.tmp 7) (.tmp 20) rfl wr.heap.size 0 j.arr rfl rfl 66 _ j.arr (Bk.fresh _ _ _) (by kernel_rfl) (by simp) (by kernel_rfl) rfl ?_);intro w1 hB1 hg1 hs1;have bl1:Below wr.heap.size wr w1:=grown_below ((Below.refl _ _).alloc (Nat.le_refl _) _) hg1 (Nat.le_refl _);have c8:w1.cell? ⟨wr.heap.size,8,none⟩=some (.string ⟨#[]⟩):=(hB1.cellAt 8).trans (congrArg (fun x=>some (Value.string x)) HGA.out);clear hB1 hg1 hs1))
    go_round
    case rel=>exact ⟨k+1,by omega,by go_num,(by show MapF _ _ _ _;rw [HE.out];exact HM.out.later bl1),hb.trans (bl1.mono hb.size)⟩
    case measure=>simp [intOf];omega
   ·obtain ⟨hf1,hf2⟩:=full_of h0
    obtain ⟨x,hx⟩:∃ x,x=cntG l k j.ga:=⟨_,rfl⟩
    have hxk:x<=k:=by rw [hx];exact cntG_le l k j.ga
    have HE:Hid ((fun s=>if s=j.ga then Value.agg #[.int .i64 ((x:Int)+1),.slice none 0 0] else entG l k (fun _=>.slice none 0 0) s)=entG l (k+1) fun _=>.slice none 0 0):=by
     show _=_
     funext s
     unfold entG
     rw [HYes.out h0 s]
     by_cases hs:s=j.ga
     ·rw [if_pos hs,if_pos hs,hx];rfl
     ·rw [if_neg hs,if_neg hs]
    have HV:Hid (entG l k (fun _=>.slice none 0 0) j.ga = .agg #[.int .i64 (x:Int),.slice none 0 0]):=by show _=_;unfold entG;rw [hx]
    clear h0 hx HNo HYes
    go_wp2_with (first | (with_reducible refine load_rg rfl 66 _ rfl g (o+k * 13) rfl j.arr _ HJ.out.rg Tryz.underlying66 rfl (by kernel_rfl) ?_) | ((with_reducible refine store_bk rfl 66 (.tmp 7) (.tmp 20) rfl wr.heap.size 0 j.arr rfl rfl 66 _ j.arr (Bk.fresh _ _ _) (by kernel_rfl) (by simp) (by kernel_rfl) rfl ?_);intro w1 hB1 hg1 hs1;have bl1:Below wr.heap.size wr w1:=grown_below ((Below.refl _ _).alloc (Nat.le_refl _) _) hg1 (Nat.le_refl _);have c8:w1.cell? ⟨wr.heap.size,8,none⟩=some (.string j.ga):=hB1.cellAt 8;have lw1:wr.heap.size<w1.heap.size:=hB1.here;have HM1:=Lib.hid (HM.out.later bl1);clear hB1 hg1 hs1) | (with_reducible refine look_v _ rfl _ _ 216 rfl 9 219 Tryz.underlying216 Tryz.underlying9 zG (zeroG _) w.heap.size _ rfl HM1.out j.ga rfl _ HV.out ?_) | ((with_reducible refine store_bk rfl 219 (.tmp 9) (.tmp 28) rfl w1.heap.size 0 #[.int .i64 (x:Int),.slice none 0 0] rfl rfl 219 _ #[.int .i64 (x:Int),.slice none 0 0] (Bk.fresh _ _ _) (by kernel_rfl) (by simp) (by kernel_rfl) rfl ?_);intro w2 hB2 hg2 hs2;have bl2:Below wr.heap.size wr w2:=bl1.trans ((grown_below ((Below.refl _ _).alloc (Nat.le_refl _) _) hg2 (Nat.le_refl _)).mono bl1.size);have cg0:w2.cell? ⟨w1.heap.size,0,none⟩=some (.int .i64 (x:Int)):=hB2.cellAt 0;have HB2:=Lib.hid hB2;clear hB2 hg2 hs2) | ((with_reducible refine store1_bk rfl 3 (.tmp 32) (.tmp 31) rfl w1.heap.size 0 (.int .i64 ((x:Int)+1)) rfl rfl 219 _ #[.int .i64 ((x:Int)+1),.slice none 0 0] HB2.out (by kernel_rfl) (by simp) rfl rfl rfl ?_);intro w3 hB3 hg3 hs3;have bl3:Below wr.heap.size wr w3:=bl2.grown hg3 bl2.size (fun gg e=>by injection e with e;omega);have HB3:=Lib.hid hB3;have HM3:=Lib.hid (HM.out.later bl3);clear hB3 hg3 hs3) | (with_reducible refine load_bk rfl 219 _ rfl w1.heap.size 0 rfl 219 #[.int .i64 ((x:Int)+1),.slice none 0 0] #[.int .i64 ((x:Int)+1),.slice none 0 0] _ HB3.out (Part.whole _) Tryz.underlying219 rfl (by kernel_rfl) ?_) | ((with_reducible refine store_f _ rfl _ _ _ 216 rfl 9 219 Tryz.underlying216 Tryz.underlying9 w.heap.size zG _ rfl HM3.out j.ga rfl (.agg #[.int .i64 ((x:Int)+1),.slice none 0 0]) rfl ?_);intro w4 hM4 hg4;rw [HE.out] at hM4;have HM4:=Lib.hid hM4;have hB4:Below w.heap.size w w4:=(hb.trans (bl3.mono hb.size)).grown hg4 (Nat.le_trans hb.size bl3.size) (fun gg e=>by injection e with e;omega);clear hM4 hg4))
    go_round
    case rel=>exact ⟨k+1,by omega,by go_num,HM4,hB4⟩
    case measure=>simp [intOf];omega
  ·have hk':k=n:=by omega
   subst hk'
   obtain ⟨wa,hwa⟩:∃ wa,wa=wr:=⟨_,rfl⟩
   subst hwa
   have hG0:Gok wa (w.heap.size+1) (fun _=>.slice none 0 0) (selG l (S.take 0)):=⟨fun s=>by rw [show selG l (S.take 0) s=[] by unfold selG gangOf;simp];exact OwnK.nil _ _ _ _,fun _ _ _=>.inl rfl⟩
   have HG0:=Lib.hid hG0;clear hG0
   go_wp2_with fail
   go_loopw [39] (fun i wi=>∃ a:Nat,a<=q/\i = .int .i64 a/\(∃ V,Hid (MapF wi w.heap.size zG (entG l k V))/\Hid (Gok wi (w.heap.size+1) V (selG l (S.take a))))/\Below w.heap.size w wi) (fun i wi=>q - (intOf i).toNat)
   case atStart=>exact ⟨0,Nat.zero_le _,rfl,⟨_,HM,HG0⟩,hb⟩
   case round=>
    clear HG0 HM hb lt0
    obtain ⟨a,ha,rfl,⟨V,HM,HG⟩,hb⟩:=hrel
    have lt0:w.heap.size<wr.heap.size:=HM.out.lt
    by_cases haq:a<q
    ·have haS:a<S.length:=by have:=hq.out;omega
     obtain ⟨g7,o7,hB7,hg7,c7⟩:=(hB.out.later hb).at (i:=a) (by simpa [ints] using haS)
     subst hB7
     have hno:=selG_no (l:=l) haS
     have hyes:=selG_yes (l:=l) haS
     obtain ⟨p,hp⟩:∃ p,p=S[a]:=⟨_,rfl⟩
     rw [show (ints S)[a]'(by simpa [ints] using haS)=(p:Int) by rw [hp];simp [ints]] at c7
     have hpl:p<l.length:=by rw [hp];exact hS.out _ (List.getElem_mem haS)
     rw [<- hp,jat_at hpl] at hno hyes
     have hpn:p<k:=by have:=hn.out;omega
     obtain ⟨g,o,hAg,hg,hj⟩:=(hA.out.later hb).at hpl
     subst hAg
     obtain ⟨j,hjk⟩:∃ j,j=l[p]:=⟨_,rfl⟩
     rw [<- hjk] at hj hno hyes
     have c8:=hj.ga
     have HNo:=Lib.hid hno;have HYes:=Lib.hid hyes
     clear hj hjk hno hyes hp
     by_cases h0:j.ga.size=0
     ·have hga:j.ga=⟨#[]⟩:=empty_of h0
      have HE:Hid (selG l (S.take (a+1))=selG l (S.take a)):=by show _=_;funext s;exact HNo.out h0 s
      rw [hga] at c8
      clear h0 hga HNo HYes
      go_wp2_with fail
      go_round
      case rel=>exact ⟨a+1,by omega,by go_num,⟨V,HM,(by show Gok _ _ _ _;rw [HE.out];exact HG.out)⟩,hb⟩
      case measure=>simp [intOf];omega
     ·obtain ⟨hf1,hf2⟩:=full_of h0
      obtain ⟨E,hE⟩:∃ E,E=selG l (S.take a) j.ga:=⟨_,rfl⟩
      have hEl:E.length<=a:=by rw [hE];exact Nat.le_trans (selG_len _ _ _) (by rw [List.length_take];omega)
      have ho:=HG.out.el j.ga
      rw [<- hE] at ho
      obtain ⟨Ag,cg,hv,_,_,_⟩:=ho.rdi
      obtain ⟨mg,hmg⟩:∃ mg,mg=(ints E).length:=⟨_,rfl⟩
      rw [<- hmg] at hv
      rw [hv] at ho
      obtain ⟨x,hx⟩:∃ x,x=cntG l k j.ga:=⟨_,rfl⟩
      have HV:Hid (entG l k V j.ga = .agg #[.int .i64 (x:Int),.slice Ag mg cg]):=by show _=_;unfold entG;rw [hx,hv]
      have HNew:Hid (∀ v',(fun s=>if s=j.ga then Value.agg #[.int .i64 (x:Int),v'] else entG l k V s)=entG l k fun s=>if s=j.ga then v' else V s):=by
       show ∀ v',_=_
       intro v'
       funext s
       unfold entG
       by_cases hs:s=j.ga
       ·subst hs
        simp [hx]
       ·simp [hs]
      have HSel:Hid (selG l (S.take (a+1)) j.ga=E ++ [p]):=by show _=_;rw [HYes.out h0,if_pos rfl,hE]
      have HOth:Hid (∀ s,s ≠ j.ga->selG l (S.take (a+1)) s=selG l (S.take a) s):=by show ∀ s,_->_;intro s hs;rw [HYes.out h0,if_neg hs]
      have HO:=Lib.hid ho;have HVv:=Lib.hid hv
      clear h0 hx HNo HYes hE ho hv hmg
      go_wp2_with (first | (with_reducible refine look_v _ rfl _ _ 216 rfl 9 219 Tryz.underlying216 Tryz.underlying9 zG (zeroG _) w.heap.size _ rfl HM.out j.ga rfl _ HV.out ?_) | ((with_reducible refine store_bk rfl 219 (.tmp 13) (.tmp 53) rfl wr.heap.size 0 #[.int .i64 (x:Int),.slice Ag mg cg] rfl rfl 219 _ #[.int .i64 (x:Int),.slice Ag mg cg] (Bk.fresh _ _ _) (by kernel_rfl) (by simp) (by kernel_rfl) rfl ?_);intro w2 hB2 hg2 hs2;have bl2:Below wr.heap.size wr w2:=grown_below ((Below.refl _ _).alloc (Nat.le_refl _) _) hg2 (Nat.le_refl _);have cg1:w2.cell? ⟨wr.heap.size,1,none⟩=some (.slice Ag mg cg):=hB2.cellAt 1;have HB2:=Lib.hid hB2;have lw2:wr.heap.size<w2.heap.size:=hB2.here;clear hB2 hg2 hs2) | ((with_reducible refine append_ka _ rfl (.tmp 55) (.tmp 57) 150 rfl (w.heap.size+1) 3 _ 1 8 Tryz.underlying150 infoI rfl (by omega) (.slice Ag mg cg) (cellsI (ints E)) rfl ((HO.out.below bl2).alloc _) ⟨w2.heap.size,0,none⟩ 1 1 (cellsI [(p:Int)]) rfl (fresh_k w2 1 _ _ rfl) (cellsI_k _) (cellsI_one _) rfl (by simp [cellsI,ints,maxLen];omega) (by simp [cellsI,ints];omega) (by simp;omega) ?_);intro v' w3 hO3 hg3 hat3;rw [<- cellsI_append] at hO3;have hal:Below w2.heap.size w2 (w2.alloc (.cells #[.int .i64 (p:Int)] 3)):=(Below.refl _ _).alloc (Nat.le_refl _) _;have hG3:Gok w3 (w.heap.size+1) (fun s=>if s=j.ga then v' else V s) (selG l (S.take (a+1))):=Gok.put ((HG.out.later bl2).later hal) (by rw [HSel.out];simpa [ints] using hO3) (by rw [HVv.out];exact hg3) (by rw [HVv.out];exact hat3) HOth.out;have hB3:Bk w3 wr.heap.size 219 #[.int .i64 (x:Int),.slice Ag mg cg]:=(HB2.out.later hal).stays hg3 (fun e=>(((HO.out.below bl2).below hal).notBk (HB2.out.later hal) (by decide)).elim (fun h=>by rw [h] at e;cases e) (fun h=>h e.symm));have hM3:MapF w3 w.heap.size zG (entG l k V):=((HM.out.later bl2).later hal).kept hg3 (fun e=>by have:=HO.out.block _ e.symm;omega);have hBl3:Below w.heap.size w w3:=((hb.trans (bl2.mono hb.size)).trans (hal.mono (by omega))).grown hg3 (by simp;omega) (fun gg e=>by have:=HO.out.block _ e;omega);have HG3:=Lib.hid hG3;have HB3:=Lib.hid hB3;have HM3:=Lib.hid hM3;have HO3:=Lib.hid hO3;clear hG3 hB3 hM3 hO3 hg3 hat3 hal) | ((with_reducible refine store1_bk rfl 150 (.tmp 59) (.tmp 58) rfl wr.heap.size 1 v' rfl rfl 219 _ #[.int .i64 (x:Int),v'] HB3.out (by kernel_rfl) (by simp) HO3.out.one1 HO3.out.cellsV rfl ?_);intro w4 hB4 hg4 hs4;have HM4:=Lib.hid (HM3.out.kept hg4 (fun e=>by injection e with e;omega));have HG4:=Lib.hid (HG3.out.grown hg4 (fun s=>(HG3.out.el s).notBk HB3.out (by decide)));have hBl4:Below w.heap.size w w4:=hBl3.grown hg4 hBl3.size (fun gg e=>by injection e with e;omega);have HB4:=Lib.hid hB4;clear hB4 hg4 hs4) | (with_reducible refine load_bk rfl 219 _ rfl wr.heap.size 0 rfl 219 #[.int .i64 (x:Int),v'] #[.int .i64 (x:Int),v'] _ HB4.out (Part.whole _) Tryz.underlying219 rfl (by kernel_rfl) ?_) | ((with_reducible refine store_f _ rfl _ _ _ 216 rfl 9 219 Tryz.underlying216 Tryz.underlying9 w.heap.size zG _ rfl HM4.out j.ga rfl (.agg #[.int .i64 (x:Int),v']) rfl ?_);intro w5 hM5 hg5;rw [HNew.out v'] at hM5;have HM5:=Lib.hid hM5;have HG5:=Lib.hid (HG4.out.grown hg5 (fun s=>(HG4.out.el s).notMap HM4.out));have hB5:Below w.heap.size w w5:=hBl4.grown hg5 hBl4.size (fun gg e=>by injection e with e;omega);clear hM5 hg5))
      go_round
      case rel=>exact ⟨a+1,by omega,by go_num,⟨_,HM5,HG5⟩,hB5⟩
      case measure=>simp [intOf];omega
    ·have haq':a=q:=by omega
     subst haq'
     have hg:=HG.out
     rw [show S.take a=S by rw [hq.out];exact List.take_length] at hg
     have HG6:=Lib.hid hg;clear hg HG
     go_wp2_with fail
     go_ret
     exact ⟨⟨_,V,rfl,Nat.le_refl _,HM.out,⟨fun s=>OwnK.base (HG6.out.el s) (by omega),HG6.out.ap⟩⟩,hb⟩
end
section
open Go.RowKit
theorem cellW {w:World}{A:Option Addr}{vs:List Value}(h:RdK w 1 A (cellsW vs)){i:Nat}{v:Value}(hv:vs[i]? = some v):∃ g o,A=some ⟨g,o,none⟩/\g<w.heap.size/\w.cell? ⟨g,o+i,none⟩=some v:=by
 obtain ⟨g,o,ha,hr⟩:=h i [v] (by simp [cellsW,hv])
 have hc:=hr 0 v rfl
 rw [Nat.mul_one,Nat.add_zero] at hc
 exact ⟨g,o,ha,World.block_lt_of_cell? w _ hc,hc⟩
end
section
open Go.RowKit
section
variable {w w':World}{A B:Option Addr}{U:List (List Nat)}{u:List Nat}{i k b:Nat}{e:Ending}
theorem RdI.nat (h:RdI w A (ints u))(hk:k<u.length):∃ g o,A=some ⟨g,o,none⟩/\g<w.heap.size/\w.cell? ⟨g,o+k,none⟩=some (.int .i64 (u[k]:Int)):=by
 obtain ⟨g,o,hA,hg,hc⟩:=h.at (i:=k) (by simpa [ints] using hk)
 refine ⟨g,o,hA,hg,?_⟩
 rw [hc];simp [ints]
end
end
section
open Go.RowKit
theorem head14 {l:List Jb}{S:List Nat}{i:Nat}{g:ByteArray}(hn:S.Nodup)(hi:i<S.length)(hg:(jat l S[i]).ga=g):∃ h r,gangOf l g S=h :: r/\firstK l g (S.take i)=decide (h=S[i]):=by
 cases hf:firstK l g (S.take i)
 ·cases hG:gangOf l g (S.take i) with
  | nil=>rw [first_nil.2 hG] at hf;cases hf
  | cons h r=>
   have h1:gangOf l g (S.take i ++ S.drop i)=gangOf l g (S.take i) ++ gangOf l g (S.drop i):=by unfold gangOf;rw [List.filter_append]
   rw [List.take_append_drop,hG,List.cons_append] at h1
   refine ⟨h,_,h1,(decide_eq_false fun he=>?_).symm⟩
   have h2:h ∈ S.take i:=(gangOf_mem.1 (show h ∈ gangOf l g (S.take i) by rw [hG];simp)).1
   obtain ⟨m,hm,hms⟩:=List.mem_take_iff_getElem.1 h2
   exact List.pairwise_iff_getElem.1 hn m i (by omega) hi (by omega) (hms.trans he)
 ·exact ⟨S[i],_,gangOf_first hi hg hf,by simp⟩


theorem units_any (A:Option Addr) (n cap:Nat)(l:List Jb)(w:World)(hn:Hid (n=l.length))(hl:n<=1000000)(hA:Hid (RdJ w A l)) :
  Calls Tryz.prog 169 #[.slice A n cap] w fun e w'=>RetU w.heap.size w' e (unitsU l)/\Below w.heap.size w w':=by
 have k1:=fun (W:World)(h:Hid (RdJ W A l))=>waiting14_any A n cap l W hn hl h
 obtain ⟨S,hS⟩:∃ S,S=srtU l:=⟨_,rfl⟩
 show Calls _ _ _ _ fun e w'=>RetU w.heap.size w' e (unitsK l (srtU l) (srtU l).length)/\_
 rw [<- hS] at k1 ⊢
 have hSlt:∀ y ∈ S,y<l.length:=fun y hy=>by rw [hS] at hy;exact (srtU_mem.1 hy).1
 have hSl:S.length<=n:=by
  rw [hS,(srtU_perm l).length_eq,hn.out]
  exact waitK_len l l.length
 have HNd:Hid S.Nodup:=by show S.Nodup;rw [hS];exact srtU_nodup l
 have K1:=Lib.hid k1;have HSlt:=Lib.hid hSlt
 obtain ⟨q,hq⟩:∃ q,q=S.length:=⟨_,rfl⟩
 rw [<- hq]
 have HQ:=Lib.hid hq
 have k2:=fun (B:Option Addr) (c:Nat)(W:World)(hA:Hid (RdJ W A l))(hB:Hid (RdI W B (ints S)))=>collect14_any A n cap l B q c S W hn hl hA HQ hB HSlt (by omega)
 have K2:=Lib.hid k2
 have hql:q<=n:=by omega
 clear k1 k2 hS hSlt hSl hq
 go_enter Tryz.func169,Tryz.ntmps169
 go_wp2_with fail
 refine (K1.out _ hA).mono ?_;rintro e w1 ⟨⟨u,rfl,hO⟩,hb1⟩
 obtain ⟨B,c,hv,hr,hc,hc'⟩:=hO.rdi
 rw [show (ints S).length=S.length by simp [ints],<- HQ.out] at hv
 subst hv
 have HOL0:=Lib.hid hO;have HR0:=Lib.hid hr
 clear hO hr hc
 go_wp2_with fail
 refine (K2.out B c _ (Lib.hid (hA.out.later hb1)) HR0).mono ?_;rintro e w2 ⟨⟨b9,V,rfl,hb9,hM,hG⟩,hb2⟩
 have hB2:Below w.heap.size w w2:=hb1.trans (hb2.mono hb1.size)
 have HM0:=Lib.hid hM
 have HG0:=Lib.hid (fun s=>OwnK.base (hG.el s) hb1.size)
 have HOL1:=Lib.hid (HOL0.out.below hb2)
 clear hM hG hb9 HR0 HOL0
 go_wp2_with fail
 go_loopw [5,17] (fun vo i wr=>∃ k:Nat,k<=q/\i = .int .i64 k/\(∃ vs,Hid (OwnK wr w.heap.size 150 1 vo (cellsW vs))/\Hid (UOk wr w.heap.size vs (unitsK l S k)))/\Hid (OwnK wr w.heap.size 3 1 (.slice B q c) (cellsI (ints S)))/\Hid (MapF wr b9 zG (entG l n V))/\Hid (∀ s,OwnK wr w.heap.size 3 1 (V s) (cellsI (ints (selG l S s))))/\Below w.heap.size w wr) (fun _ i wr=>q - (intOf i).toNat)
 case atStart=>exact ⟨0,Nat.zero_le _,rfl,⟨[],(show OwnK _ _ _ _ _ (cellsW []) from OwnK.nil _ _ _ _),(show UOk _ _ _ (unitsK l S 0) from UOk.nil _ _)⟩,HOL1,HM0,HG0,hB2⟩
 case round=>
  clear HOL1 HM0 HG0 hB2 hb1 hb2
  obtain ⟨k,hk,rfl,⟨vs,HO,HU⟩,HOL,HM,HG,hb⟩:=hrel
  by_cases hlt:k<q
  ·have hkS:k<S.length:=by have:=HQ.out;omega
   obtain ⟨U,hU⟩:∃ U,U=unitsK l S k:=⟨_,rfl⟩
   have hu:=HU.out
   rw [<- hU] at hu
   have hUl:U.length<=k:=by rw [hU];exact unitsK_len l S k
   have hvl:vs.length<=k:=by rw [hu.len];exact hUl
   have hsucc:=unitsK_succ (l:=l) hkS
   rw [<- hU] at hsucc
   have HRb:=Lib.hid (show RdI wr B (ints S) from rdOf HOL.out)
   obtain ⟨g7,o7,hB7,hg7,c7⟩:=HRb.out.at (i:=k) (by simpa [ints] using hkS)
   subst hB7
   obtain ⟨p,hp⟩:∃ p,p=S[k]:=⟨_,rfl⟩
   rw [show (ints S)[k]'(by simpa [ints] using hkS)=(p:Int) by rw [hp];simp [ints]] at c7
   have hpl:p<l.length:=by rw [hp];exact HSlt.out _ (List.getElem_mem hkS)
   have hpn:p<n:=by have:=hn.out;omega
   obtain ⟨g,o,hAg,hg,hj⟩:=(hA.out.later hb).at hpl
   subst hAg
   obtain ⟨j,hjk⟩:∃ j,j=l[p]:=⟨_,rfl⟩
   rw [<- hjk] at hj
   have hjj:jat l p=j:=by rw [jat_at hpl,<- hjk]
   rw [<- hp] at hsucc
   obtain ⟨h9,r9,hE9,hhd⟩:=head14 HNd.out hkS (show (jat l S[k]).ga=j.ga by rw [<- hp,hjj])
   rw [<- hp] at hhd
   have hjt:wr.rangeAt g (o+p * 13) j.task.toList:=by
    have h:=range_part hj.rg 0 10
    exact h
   have HU2:=Lib.hid hu;have HJT:=Lib.hid hjt;have HJJ:=Lib.hid hjj;have HSc:=Lib.hid hsucc
   clear HU hu hj hjt hjj hjk hsucc hU
   by_cases h0:j.ga.size=0
   ·have hga:j.ga=⟨#[]⟩:=empty_of h0
    have HS2:Hid (unitsK l S (k+1)=U ++ [[p]]):=by show _=_;rw [HSc.out];unfold unitAt;rw [HJJ.out,if_pos h0]
    have HGA:=Lib.hid hga;clear hga h0 hE9 hhd hp HSc HRb
    go_wp2_with (first | (with_reducible refine load_rg rfl 47 _ rfl g (o+p * 13) rfl j.task _ HJT.out Tryz.underlying47 rfl (by kernel_rfl) ?_) | ((with_reducible refine store_bk rfl 47 (.tmp 8) (.tmp 25) rfl wr.heap.size 0 j.task rfl rfl 47 _ j.task (Bk.fresh _ _ _) (by kernel_rfl) (by simp) (by kernel_rfl) rfl ?_);intro w2 hB1 hg1 hs1;have bl1:Below wr.heap.size wr w2:=grown_below ((Below.refl _ _).alloc (Nat.le_refl _) _) hg1 (Nat.le_refl _);have c8:w2.cell? ⟨wr.heap.size,8,none⟩=some (.string ⟨#[]⟩):=(hB1.cellAt 8).trans (congrArg (fun x=>some (Value.string x)) HGA.out);clear hB1 hg1 hs1;have hbX:Below w.heap.size w w2:=hb.trans (bl1.mono hb.size);have hone:OwnK (w2.alloc (.cells #[.int .i64 p] 3)) w.heap.size 3 1 (.slice (some ⟨w2.heap.size,0,none⟩) 1 1) (cellsI (ints [p])):=OwnK.lit1 w2 w.heap.size 3 (.int .i64 p) hbX.size;have hbB:Below (w2.alloc (.cells #[.int .i64 p] 3)).heap.size (w2.alloc (.cells #[.int .i64 p] 3)) ((w2.alloc (.cells #[.int .i64 p] 3)).alloc (.cells #[(.slice (some ⟨w2.heap.size,0,none⟩) 1 1)] 150)):=(Below.refl _ _).alloc (Nat.le_refl _) _;have hbA:Below w2.heap.size w2 ((w2.alloc (.cells #[.int .i64 p] 3)).alloc (.cells #[(.slice (some ⟨w2.heap.size,0,none⟩) 1 1)] 150)):=((Below.refl _ _).alloc (Nat.le_refl _) _).alloc (by simp) _;have hbR:=bl1.trans (hbA.mono bl1.size);have HOne:=Lib.hid (hone.below hbB);have HOut:=Lib.hid (show OwnK ((w2.alloc (.cells #[.int .i64 p] 3)).alloc (.cells #[(.slice (some ⟨w2.heap.size,0,none⟩) 1 1)] 150)) w.heap.size 150 1 u5 (cellsW vs) from HO.out.below hbR);have HUB:=Lib.hid (HU2.out.later hbR);have HOLB:=Lib.hid (HOL.out.below hbR);have HMB:=Lib.hid (HM.out.later hbR);have HGB:=Lib.hid (fun s=>(HG.out s).below hbR);have HFr:=Lib.hid (show RdK ((w2.alloc (.cells #[.int .i64 p] 3)).alloc (.cells #[(.slice (some ⟨w2.heap.size,0,none⟩) 1 1)] 150)) 1 (some ⟨w2.heap.size+1,0,none⟩) (cellsW [(.slice (some ⟨w2.heap.size,0,none⟩) 1 1)]) from fresh_k (w2.alloc (.cells #[.int .i64 p] 3)) 1 [(.slice (some ⟨w2.heap.size,0,none⟩) 1 1)] 150 (g:=w2.heap.size+1) (by simp));have hBB:Below w.heap.size w ((w2.alloc (.cells #[.int .i64 p] 3)).alloc (.cells #[(.slice (some ⟨w2.heap.size,0,none⟩) 1 1)] 150)):=hb.trans (hbR.mono hb.size);clear hone hbB hbA hbR hbX) | ((with_reducible refine append_k _ rfl (.tmp 29) (.tmp 32) 148 rfl w.heap.size 150 _ 1 24 Tryz.underlying148 infoU rfl (by omega) u5 (cellsW vs) rfl HOut.out ⟨w2.heap.size+1,0,none⟩ 1 1 (cellsW [(.slice (some ⟨w2.heap.size,0,none⟩) 1 1)]) rfl HFr.out (cellsW_k _) (by simp [cellsW,Value.oneCell']) rfl (by simp [cellsW,maxLen];omega) (by simp [cellsW,maxLen];omega) hBB.size ?_);intro u6' w3 hO3 hg3;have HO3:=Lib.hid hO3;clear hO3;have HUC:=Lib.hid ((HUB.out.grown HOut.out hg3).snoc (HOne.out.grown hg3 (HOne.out.apart HOut.out (by decide))));have HOLC:=Lib.hid (HOLB.out.grown hg3 (HOLB.out.apart HOut.out (by decide)));have HMC:=Lib.hid (HMB.out.kept hg3 (fun e=>(HOut.out.notMap HMB.out).elim (fun h=>by rw [h] at e;cases e) (fun h=>h e.symm)));have HGC:=Lib.hid (fun s=>(HGB.out s).grown hg3 ((HGB.out s).apart HOut.out (by decide)));have hB3:Below w.heap.size w w3:=hBB.grown hg3 hBB.size (fun gg e=>HOut.out.block gg e);clear hg3))
    go_round
    case rel=>exact ⟨k+1,by omega,by go_num,⟨vs ++ [(.slice (some ⟨w2.heap.size,0,none⟩) 1 1)],(by show OwnK _ _ _ _ _ _;rw [cellsW_append];exact HO3.out),(by show UOk _ _ _ _;rw [HS2.out];exact HUC.out)⟩,HOLC,HMC,HGC,hB3⟩
    case measure=>simp [intOf];omega
   ·obtain ⟨hf1,hf2⟩:=full_of h0
    have hgs:selG l S j.ga=gangOf l j.ga S:=by unfold selG;rw [if_neg h0]
    have ho:=HG.out j.ga
    rw [hgs,hE9] at ho
    obtain ⟨Ag,cg,hv,hrd,_,_⟩:=ho.rdi
    obtain ⟨mg,hmg⟩:∃ mg,mg=(ints (h9 :: r9)).length:=⟨_,rfl⟩
    have hm0:0<mg:=by rw [hmg];simp [ints]
    rw [<- hmg] at hv
    rw [hv] at ho
    obtain ⟨gh,oh,hAh,hgh,ch⟩:=hrd.nat (k:=0) (by simp)
    subst hAh
    rw [tB,Nat.add_zero] at ch
    obtain ⟨x,hx⟩:∃ x,x=cntG l n j.ga:=⟨_,rfl⟩
    have e1:cntG l n j.ga=manyK l j.ga n:=by unfold cntG;rw [if_neg h0]
    have hun:unitAt l S (S.take k) p=if decide (h9=p) && decide (j.sz<=(x:Int)) then [h9 :: r9] else []:=by
     unfold unitAt
     rw [HJJ.out,if_neg h0,<- hn.out,hhd,hE9,hx,e1]
    have HV:Hid (entG l n V j.ga = .agg #[.int .i64 (x:Int),.slice (some ⟨gh,oh,none⟩) mg cg]):=by show _=_;unfold entG;rw [<- hx,hv]
    have HUn:=Lib.hid hun
    have HOE:=Lib.hid ho
    clear h0 hhd hp hgs hE9 ho hv hrd hmg hun hx e1 HRb
    by_cases he:h9=p
    case neg=>
     have dne:((h9:Int) == (p:Int))=false:=by simp;omega
     have HS2:Hid (unitsK l S (k+1)=U):=by show _=_;rw [HSc.out,HUn.out,decide_eq_false he];simp
     clear he HSc HUn
     go_wp2_with (first | (with_reducible refine load_rg rfl 47 _ rfl g (o+p * 13) rfl j.task _ HJT.out Tryz.underlying47 rfl (by kernel_rfl) ?_) | ((with_reducible refine store_bk rfl 47 (.tmp 8) (.tmp 25) rfl wr.heap.size 0 j.task rfl rfl 47 _ j.task (Bk.fresh _ _ _) (by kernel_rfl) (by simp) (by kernel_rfl) rfl ?_);intro w2 hB1 hg1 hs1;have bl2:Below wr.heap.size wr w2:=grown_below ((Below.refl _ _).alloc (Nat.le_refl _) _) hg1 (Nat.le_refl _);have c8:w2.cell? ⟨wr.heap.size,8,none⟩=some (.string j.ga):=hB1.cellAt 8;have HT2:=Lib.hid hB1;have lw2:wr.heap.size<w2.heap.size:=hB1.here;clear hB1 hg1 hs1;have HMB2:=Lib.hid (HM.out.later bl2)) | (with_reducible refine look_v _ rfl _ _ 216 rfl 9 219 Tryz.underlying216 Tryz.underlying9 zG (zeroG _) b9 _ rfl HMB2.out j.ga rfl _ HV.out ?_) | ((with_reducible refine store_bk rfl 219 (.tmp 9) (.tmp 37) rfl w2.heap.size 0 #[.int .i64 (x:Int),.slice (some ⟨gh,oh,none⟩) mg cg] rfl rfl 219 _ #[.int .i64 (x:Int),.slice (some ⟨gh,oh,none⟩) mg cg] (Bk.fresh _ _ _) (by kernel_rfl) (by simp) (by kernel_rfl) rfl ?_);intro w4 hB2 hg2 hs2;have bl24:Below w2.heap.size w2 w4:=grown_below ((Below.refl _ _).alloc (Nat.le_refl _) _) hg2 (Nat.le_refl _);have bl4:Below wr.heap.size wr w4:=bl2.trans (bl24.mono bl2.size);have cg0:w4.cell? ⟨w2.heap.size,0,none⟩=some (.int .i64 (x:Int)):=hB2.cellAt 0;have cg1:w4.cell? ⟨w2.heap.size,1,none⟩=some (.slice (some ⟨gh,oh,none⟩) mg cg):=hB2.cellAt 1;have ch4:w4.cell? ⟨gh,oh,none⟩=some (.int .i64 (h9:Int)):=(bl4.cell (p:=⟨gh,oh,none⟩) hgh).trans ch;have c9:w4.cell? ⟨wr.heap.size,9,none⟩=some (.int .i64 j.sz):=(HT2.out.later bl24).cellAt 9;have lw4:w2.heap.size<w4.heap.size:=hB2.here;clear hB2 hg2 hs2;have hB4:Below w.heap.size w w4:=hb.trans (bl4.mono hb.size);clear bl24))
     go_round
     case rel=>exact ⟨k+1,by omega,by go_num,⟨vs,HO.out.below bl4,(by show UOk _ _ _ _;rw [HS2.out];exact HU2.out.later bl4)⟩,HOL.out.below bl4,HM.out.later bl4,(fun s=>(HG.out s).below bl4),hB4⟩
     case measure=>simp [intOf];omega
    subst he
    by_cases hsz:j.sz<=(x:Int)
    case neg=>
     have HS2:Hid (unitsK l S (k+1)=U):=by show _=_;rw [HSc.out,HUn.out,decide_eq_false hsz];simp
     have dsz:decide (j.sz<=(x:Int))=false:=decide_eq_false hsz
     have dsz':decide ((x:Int) ≥ j.sz)=false:=decide_eq_false hsz
     clear HSc HUn
     go_wp2_with (first | (with_reducible refine load_rg rfl 47 _ rfl g (o+h9 * 13) rfl j.task _ HJT.out Tryz.underlying47 rfl (by kernel_rfl) ?_) | ((with_reducible refine store_bk rfl 47 (.tmp 8) (.tmp 25) rfl wr.heap.size 0 j.task rfl rfl 47 _ j.task (Bk.fresh _ _ _) (by kernel_rfl) (by simp) (by kernel_rfl) rfl ?_);intro w2 hB1 hg1 hs1;have bl2:Below wr.heap.size wr w2:=grown_below ((Below.refl _ _).alloc (Nat.le_refl _) _) hg1 (Nat.le_refl _);have c8:w2.cell? ⟨wr.heap.size,8,none⟩=some (.string j.ga):=hB1.cellAt 8;have HT2:=Lib.hid hB1;have lw2:wr.heap.size<w2.heap.size:=hB1.here;clear hB1 hg1 hs1;have HMB2:=Lib.hid (HM.out.later bl2)) | (with_reducible refine look_v _ rfl _ _ 216 rfl 9 219 Tryz.underlying216 Tryz.underlying9 zG (zeroG _) b9 _ rfl HMB2.out j.ga rfl _ HV.out ?_) | ((with_reducible refine store_bk rfl 219 (.tmp 9) (.tmp 37) rfl w2.heap.size 0 #[.int .i64 (x:Int),.slice (some ⟨gh,oh,none⟩) mg cg] rfl rfl 219 _ #[.int .i64 (x:Int),.slice (some ⟨gh,oh,none⟩) mg cg] (Bk.fresh _ _ _) (by kernel_rfl) (by simp) (by kernel_rfl) rfl ?_);intro w4 hB2 hg2 hs2;have bl24:Below w2.heap.size w2 w4:=grown_below ((Below.refl _ _).alloc (Nat.le_refl _) _) hg2 (Nat.le_refl _);have bl4:Below wr.heap.size wr w4:=bl2.trans (bl24.mono bl2.size);have cg0:w4.cell? ⟨w2.heap.size,0,none⟩=some (.int .i64 (x:Int)):=hB2.cellAt 0;have cg1:w4.cell? ⟨w2.heap.size,1,none⟩=some (.slice (some ⟨gh,oh,none⟩) mg cg):=hB2.cellAt 1;have ch4:w4.cell? ⟨gh,oh,none⟩=some (.int .i64 (h9:Int)):=(bl4.cell (p:=⟨gh,oh,none⟩) hgh).trans ch;have c9:w4.cell? ⟨wr.heap.size,9,none⟩=some (.int .i64 j.sz):=(HT2.out.later bl24).cellAt 9;have lw4:w2.heap.size<w4.heap.size:=hB2.here;clear hB2 hg2 hs2;have hB4:Below w.heap.size w w4:=hb.trans (bl4.mono hb.size);clear bl24))
     go_round
     case rel=>exact ⟨k+1,by omega,by go_num,⟨vs,HO.out.below bl4,(by show UOk _ _ _ _;rw [HS2.out];exact HU2.out.later bl4)⟩,HOL.out.below bl4,HM.out.later bl4,(fun s=>(HG.out s).below bl4),hB4⟩
     case measure=>simp [intOf];omega
    have HS2:Hid (unitsK l S (k+1)=U ++ [h9 :: r9]):=by show _=_;rw [HSc.out,HUn.out,decide_eq_true hsz];simp
    have dsz:decide (j.sz<=(x:Int))=true:=decide_eq_true hsz
    have dsz':decide ((x:Int) ≥ j.sz)=true:=decide_eq_true hsz
    clear HSc HUn
    go_wp2_with (first | (with_reducible refine load_rg rfl 47 _ rfl g (o+h9 * 13) rfl j.task _ HJT.out Tryz.underlying47 rfl (by kernel_rfl) ?_) | ((with_reducible refine store_bk rfl 47 (.tmp 8) (.tmp 25) rfl wr.heap.size 0 j.task rfl rfl 47 _ j.task (Bk.fresh _ _ _) (by kernel_rfl) (by simp) (by kernel_rfl) rfl ?_);intro w2 hB1 hg1 hs1;have bl2:Below wr.heap.size wr w2:=grown_below ((Below.refl _ _).alloc (Nat.le_refl _) _) hg1 (Nat.le_refl _);have c8:w2.cell? ⟨wr.heap.size,8,none⟩=some (.string j.ga):=hB1.cellAt 8;have HT2:=Lib.hid hB1;have lw2:wr.heap.size<w2.heap.size:=hB1.here;clear hB1 hg1 hs1;have HMB2:=Lib.hid (HM.out.later bl2)) | (with_reducible refine look_v _ rfl _ _ 216 rfl 9 219 Tryz.underlying216 Tryz.underlying9 zG (zeroG _) b9 _ rfl HMB2.out j.ga rfl _ HV.out ?_) | ((with_reducible refine store_bk rfl 219 (.tmp 9) (.tmp 37) rfl w2.heap.size 0 #[.int .i64 (x:Int),.slice (some ⟨gh,oh,none⟩) mg cg] rfl rfl 219 _ #[.int .i64 (x:Int),.slice (some ⟨gh,oh,none⟩) mg cg] (Bk.fresh _ _ _) (by kernel_rfl) (by simp) (by kernel_rfl) rfl ?_);intro w4 hB2 hg2 hs2;have bl24:Below w2.heap.size w2 w4:=grown_below ((Below.refl _ _).alloc (Nat.le_refl _) _) hg2 (Nat.le_refl _);have bl4:Below wr.heap.size wr w4:=bl2.trans (bl24.mono bl2.size);have cg0:w4.cell? ⟨w2.heap.size,0,none⟩=some (.int .i64 (x:Int)):=hB2.cellAt 0;have cg1:w4.cell? ⟨w2.heap.size,1,none⟩=some (.slice (some ⟨gh,oh,none⟩) mg cg):=hB2.cellAt 1;have ch4:w4.cell? ⟨gh,oh,none⟩=some (.int .i64 (h9:Int)):=(bl4.cell (p:=⟨gh,oh,none⟩) hgh).trans ch;have c9:w4.cell? ⟨wr.heap.size,9,none⟩=some (.int .i64 j.sz):=(HT2.out.later bl24).cellAt 9;have lw4:w2.heap.size<w4.heap.size:=hB2.here;clear hB2 hg2 hs2;have hB4:Below w.heap.size w w4:=hb.trans (bl4.mono hb.size);clear bl24;have hbA:Below w4.heap.size w4 (w4.alloc (.cells #[.slice (some ⟨gh,oh,none⟩) mg cg] 150)):=(Below.refl _ _).alloc (Nat.le_refl _) _;have hbR:=bl4.trans (hbA.mono bl4.size);have HOne:=Lib.hid (HOE.out.below hbR);have HOut:=Lib.hid (show OwnK (w4.alloc (.cells #[.slice (some ⟨gh,oh,none⟩) mg cg] 150)) w.heap.size 150 1 u5 (cellsW vs) from HO.out.below hbR);have HUB:=Lib.hid (HU2.out.later hbR);have HOLB:=Lib.hid (HOL.out.below hbR);have HMB:=Lib.hid (HM.out.later hbR);have HGB:=Lib.hid (fun s=>(HG.out s).below hbR);have HFr:=Lib.hid (show RdK (w4.alloc (.cells #[.slice (some ⟨gh,oh,none⟩) mg cg] 150)) 1 (some ⟨w4.heap.size,0,none⟩) (cellsW [.slice (some ⟨gh,oh,none⟩) mg cg]) from fresh_k w4 1 [.slice (some ⟨gh,oh,none⟩) mg cg] 150 rfl);have hBB:Below w.heap.size w (w4.alloc (.cells #[.slice (some ⟨gh,oh,none⟩) mg cg] 150)):=hb.trans (hbR.mono hb.size);clear hbA hbR) | ((with_reducible refine append_k _ rfl (.tmp 51) (.tmp 54) 148 rfl w.heap.size 150 _ 1 24 Tryz.underlying148 infoU rfl (by omega) u5 (cellsW vs) rfl HOut.out ⟨w4.heap.size,0,none⟩ 1 1 (cellsW [.slice (some ⟨gh,oh,none⟩) mg cg]) rfl HFr.out (cellsW_k _) (by simp [cellsW,Value.oneCell']) rfl (by simp [cellsW,maxLen];omega) (by simp [cellsW,maxLen];omega) hBB.size ?_);intro u6' w3 hO3 hg3;have HO3:=Lib.hid hO3;clear hO3;have HUC:=Lib.hid ((HUB.out.grown HOut.out hg3).snoc (HOne.out.grown hg3 (HOne.out.apart HOut.out (by decide))));have HOLC:=Lib.hid (HOLB.out.grown hg3 (HOLB.out.apart HOut.out (by decide)));have HMC:=Lib.hid (HMB.out.kept hg3 (fun e=>(HOut.out.notMap HMB.out).elim (fun h=>by rw [h] at e;cases e) (fun h=>h e.symm)));have HGC:=Lib.hid (fun s=>(HGB.out s).grown hg3 ((HGB.out s).apart HOut.out (by decide)));have hB3:Below w.heap.size w w3:=hBB.grown hg3 hBB.size (fun gg e=>HOut.out.block gg e);clear hg3))
    go_round
    case rel=>exact ⟨k+1,by omega,by go_num,⟨vs ++ [.slice (some ⟨gh,oh,none⟩) mg cg],(by show OwnK _ _ _ _ _ _;rw [cellsW_append];exact HO3.out),(by show UOk _ _ _ _;rw [HS2.out];exact HUC.out)⟩,HOLC,HMC,HGC,hB3⟩
    case measure=>simp [intOf];omega
  ·have hk':k=q:=by omega
   subst hk'
   go_wp2_with fail
   go_ret
   exact ⟨⟨_,vs,rfl,HO.out,HU.out⟩,hb⟩
end
end Go.Proofs.YtccccbofcnmdiaaGreat
