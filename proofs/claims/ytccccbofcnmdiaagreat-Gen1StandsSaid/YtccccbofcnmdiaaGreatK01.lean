/- Lemmas that the law stands on. No condition. -/
import Derived.Test.YtccccbofcnmdiaaGreatK00
namespace Go.Proofs.YtccccbofcnmdiaaGreat
set_option linter.unusedSimpArgs false
set_option linter.unusedVariables false
set_option maxRecDepth 100000
set_option maxHeartbeats 51200000
section
open Go.RowKit
section
variable {P:Program}
def keyB (e:MapEntry)(s:ByteArray):Bool:=match e.key with | .string a=>decide (a=s) | _=>false
theorem keyB_iff {e:MapEntry}{s:ByteArray}:keyB e s=true ↔ e.key = .string s:=by
 unfold keyB
 split
 ·rename_i a ha
  rw [ha,decide_eq_true_eq]
  exact ⟨fun h=>by rw [h],fun h=>by injection h⟩
 ·rename_i h
  constructor
  ·intro h';cases h'
  ·intro h';exact absurd h' (h s)
theorem keyB_no {e:MapEntry}{s:ByteArray}(h:¬ e.key = .string s):keyB e s=false:=Bool.eq_false_iff.2 fun h'=>h (keyB_iff.1 h')
def hitS (s:ByteArray):List MapEntry->Nat->Option (Nat × Value)
 | [],_=>none
 | e :: es,i=>if keyB e s then some (i,e.val) else hitS s es (i+1)
def StrK (es:List MapEntry):Prop:=∀ e ∈ es,∃ s,e.key = .string s
theorem ba_eq {a b:ByteArray}:(a == b)=decide (a=b):=by
 rw [Bool.eq_iff_iff,decide_eq_true_eq];exact MapKept.bytes_beq a b
theorem findNow_hit (s:ByteArray):∀ (es:List MapEntry) (i:Nat),StrK es->Instr.findNow .string (.string s) es i=some (hitS s es i)
 | [],_,_=>rfl
 | e :: es,i,h=>by
  obtain ⟨a,ha⟩:=h e (by simp)
  unfold Instr.findNow hitS
  rw [ha]
  simp only [Instr.sameNow,ba_eq]
  by_cases hs:s=a
  ·rw [decide_eq_true hs,keyB_iff.2 (by rw [ha,hs])];rfl
  ·rw [decide_eq_false hs,keyB_no (by rw [ha];intro e;injection e with e;exact hs e.symm)]
   exact findNow_hit s es (i+1) (fun x hx=>h x (by simp [hx]))
theorem run_findKey {k:TypeId}(hk:P.underlying k=some .string)(w:World)(s:ByteArray)(es:List MapEntry)(h:StrK es):(Instr.findKey k (.string s) es).run P w = .ok (hitS s es 0) w:=by
 unfold Instr.findKey
 simp [run_underlying hk,findNow_hit s es 0 h]
theorem run_checkKey {k:TypeId}(hk:P.underlying k=some .string)(w:World)(em:Bool)(s:ByteArray):(Instr.checkKey em 10000 k (.string s)).run P w = .ok () w:=by
 unfold Instr.checkKey
 simp [run_underlying hk]
def valS (z:Value)(es:List MapEntry)(s:ByteArray):Value:=((hitS s es 0).map (·.2)).getD z
theorem hitS_cons (s:ByteArray)(x:MapEntry)(es:List MapEntry) (i:Nat):hitS s (x :: es) i=if keyB x s then some (i,x.val) else hitS s es (i+1):=rfl
theorem hitS_none {s:ByteArray}:∀ {es:List MapEntry}{i:Nat},hitS s es i=none -> ∀ e ∈ es,¬ e.key = .string s
 | [],_,_,e,he=>by cases he
 | x :: es,i,h,e,he=>by
  rw [hitS_cons] at h
  by_cases hx:keyB x s=true
  ·rw [if_pos hx] at h;cases h
  ·rw [if_neg hx] at h
   rcases List.mem_cons.1 he with rfl | he
   ·exact fun h'=>hx (keyB_iff.2 h')
   ·exact hitS_none h e he
theorem hitS_some {s:ByteArray}:∀ {es:List MapEntry}{i j:Nat}{v:Value},hitS s es i=some (j,v) -> ∃ m e,j=i+m/\es[m]? = some e/\e.key = .string s/\e.val=v
 | [],_,_,_,h=>by cases h
 | x :: es,i,j,v,h=>by
  rw [hitS_cons] at h
  by_cases hx:keyB x s=true
  ·rw [if_pos hx] at h
   injection h with h;injection h with h1 h2
   exact ⟨0,x,by omega,rfl,keyB_iff.1 hx,h2⟩
  ·rw [if_neg hx] at h
   obtain ⟨m,e,h1,h2,h3,h4⟩:=hitS_some h
   exact ⟨m+1,e,by omega,by simpa using h2,h3,h4⟩
theorem hitS_val (s:ByteArray):∀ (es:List MapEntry) (i j:Nat),(hitS s es i).map (·.2)=(hitS s es j).map (·.2)
 | [],_,_=>rfl
 | x :: es,i,j=>by
  rw [hitS_cons,hitS_cons]
  split
  ·rfl
  ·exact hitS_val s es (i+1) (j+1)
theorem valS_cons (z:Value)(x:MapEntry)(es:List MapEntry)(s:ByteArray):valS z (x :: es) s=if keyB x s then x.val else valS z es s:=by
 unfold valS
 rw [hitS_cons]
 split
 ·rfl
 ·rw [hitS_val s es (0+1) 0]
theorem valS_push (z:Value)(s:ByteArray)(v:Value) (born:Nat) (s':ByteArray):∀ (es:List MapEntry),(∀ e ∈ es,¬ e.key = .string s)->valS z (es ++ [⟨.string s,v,born⟩]) s' = if s' = s then v else valS z es s'
 | [],_=>by
  rw [List.nil_append,valS_cons]
  by_cases h:s' = s
  ·rw [if_pos (keyB_iff.2 (by rw [h])),if_pos h]
  ·rw [keyB_no (fun e=>h (by injection e with e;exact e.symm)),if_neg h];rfl
 | x :: es,h=>by
  rw [List.cons_append,valS_cons,valS_cons,valS_push z s v born s' es (fun e he=>h e (by simp [he]))]
  by_cases hs:s' = s
  ·subst hs
   rw [keyB_no (h x (by simp))];simp
  ·rw [if_neg hs,if_neg hs]
theorem valS_modify (z:Value)(s:ByteArray)(v:Value) (s':ByteArray):∀ (es:List MapEntry) (i j:Nat)(u:Value),hitS s es i=some (i+j,u)->valS z (es.modify j fun e=>{ e with key:=.string s,val:=v }) s' = if s' = s then v else valS z es s'
 | [],_,_,_,h=>by cases h
 | x :: es,i,0,u,h=>by
  have hx:x.key = .string s:=by
   rw [hitS_cons] at h
   by_cases hk:keyB x s=true
   ·exact keyB_iff.1 hk
   ·rw [if_neg hk] at h
    obtain ⟨m,_,h1,_⟩:=hitS_some h
    omega
  rw [List.modify_zero_cons,valS_cons,valS_cons]
  by_cases hs:s' = s
  ·rw [if_pos (keyB_iff.2 (by rw [hs])),if_pos hs]
  ·rw [keyB_no (fun e=>hs (by injection e with e;exact e.symm)),if_neg hs,keyB_no (fun e=>hs (by rw [hx] at e;injection e with e;exact e.symm))]
   rfl
 | x :: es,i,j+1,u,h=>by
  have hx:¬ keyB x s=true:=by
   intro hx
   rw [hitS_cons,if_pos hx] at h
   injection h with h;injection h with h1 h2
   omega
  have h':hitS s es (i+1)=some ((i+1)+j,u):=by
   rw [hitS_cons,if_neg hx] at h
   rw [h,show i+(j+1)=i+1+j by omega]
  rw [List.modify_succ_cons,valS_cons,valS_cons,valS_modify z s v s' es (i+1) j u h']
  by_cases hs:s' = s
  ·subst hs
   rw [if_neg hx];simp
  ·rw [if_neg hs,if_neg hs]
def MapF (w:World) (b:Nat)(z:Value)(f:ByteArray->Value):Prop:=∃ es clock,w.heap[b]? = some (.map es clock)/\StrK es.toList /\ ∀ s,valS z es.toList s=f s
section
variable {w w':World}{b:Nat}{z:Value}{f:ByteArray->Value}{row:Option Nat}
theorem MapF.lt (h:MapF w b z f):b<w.heap.size:=by
 obtain ⟨es,clock,hb,_⟩:=h
 exact (Array.getElem?_eq_some_iff.1 hb).1
theorem MapF.kept (h:MapF w b z f)(hg:w.grownBy w' row)(hne:some b ≠ row):MapF w' b z f:=by
 have hlt:=h.lt
 obtain ⟨es,clock,hb,h1,h2⟩:=h
 exact ⟨es,clock,(hg.block b hlt hne).trans hb,h1,h2⟩
theorem MapF.later (h:MapF w b z f)(hg:Below w.heap.size w w'):MapF w' b z f:=by
 have hlt:=h.lt
 obtain ⟨es,clock,hb,h1,h2⟩:=h
 exact ⟨es,clock,(hg.block b hlt).trans hb,h1,h2⟩
theorem MapF.made (w:World)(z:Value):MapF (w.alloc (.map #[] 0)) w.heap.size z fun _=>z:=
 ⟨#[],0,(MapKept.heap_alloc w _).1,by intro e he;simp at he,fun s=>rfl⟩
theorem MapF.look (h:MapF w b z f){t k e:TypeId}(ht:P.underlying t=some (.map k e))(hk:P.underlying k=some .string)(hz:(zeroValue e).run P w = .ok z w)(s:ByteArray):(Instr.lookup t (.map (some b)) (.string s) false).run P w = .ok (f s) w:=by
 obtain ⟨es,clock,hb,h1,h2⟩:=h
 have h3:=h2 s
 unfold valS at h3
 cases hh:hitS s es.toList 0 with
 | none=>
  rw [hh] at h3
  simp only [Option.map_none,Option.getD_none] at h3
  simp [Instr.lookup,run_underlying ht,MapKept.run_getObj_map hb,run_checkKey hk,run_findKey hk w s es.toList h1,hh,hz,Result.andThen,h3]
 | some x=>
  rw [hh] at h3
  simp only [Option.map_some,Option.getD_some] at h3
  simp [Instr.lookup,run_underlying ht,MapKept.run_getObj_map hb,run_checkKey hk,run_findKey hk w s es.toList h1,hh,Result.andThen,h3]
theorem MapF.store (h:MapF w b z f){t k e:TypeId}(ht:P.underlying t=some (.map k e))(hk:P.underlying k=some .string)(s:ByteArray)(v:Value):∃ w',(Instr.mapUpdate t (.map (some b)) (.string s) v).run P w = .ok () w' /\ MapF w' b z (fun s'=>if s' = s then v else f s')/\w.grownBy w' (some b):=by
 obtain ⟨es,clock,hb,h1,h2⟩:=h
 have hgr:∀ o,w.grownBy (ChangeMaps.setBlock w b o) (some b):=fun o=>⟨rfl,rfl,rfl,by simp [ChangeMaps.setBlock],fun i _ hi=>ChangeMaps.heap_setBlock_other hb _ (fun e=>hi (by rw [e]))⟩
 cases hh:hitS s es.toList 0 with
 | none=>
  refine ⟨ChangeMaps.setBlock w b (.map (es.push ⟨.string s,v,clock⟩) (clock+1)),?_,⟨es.push ⟨.string s,v,clock⟩,clock+1,ChangeMaps.heap_setBlock_same hb _,?_,fun s'=>?_⟩,hgr _⟩
  ·simp [Instr.mapUpdate,run_underlying ht,MapKept.run_getObj_map hb,run_checkKey hk,run_findKey hk w s es.toList h1,hh,MapKept.run_setObj_map _ hb,Result.andThen,ChangeMaps.setBlock]
  ·intro e he
   rw [Array.toList_push,List.mem_append] at he
   rcases he with he | he
   ·exact h1 e he
   ·simp at he;subst he;exact ⟨s,rfl⟩
  ·rw [Array.toList_push,valS_push z s v clock s' _ (hitS_none hh),h2]
 | some x=>
  obtain ⟨j,u⟩:=x
  obtain ⟨m,e,hj,he,hek,hev⟩:=hitS_some hh
  rw [Nat.zero_add] at hj
  subst hj
  have hkeep:(Instr.keyThatStays (((es[j]?).map (·.key)).getD (.string s)) (.string s)).run P w = .ok (.string s) w:=by
   rw [show es[j]? = some e by rw [<- Array.getElem?_toList];exact he]
   simp only [Option.map_some,Option.getD_some,hek]
   unfold Instr.keyThatStays
   rw [if_pos (by unfold Instr.sameBits;simp [ba_eq])]
   rfl
  refine ⟨ChangeMaps.setBlock w b (.map (es.modify j fun e=>{ e with key:=.string s,val:=v }) clock),?_,⟨_,clock,ChangeMaps.heap_setBlock_same hb _,?_,fun s'=>?_⟩,hgr _⟩
  ·simp [Instr.mapUpdate,run_underlying ht,MapKept.run_getObj_map hb,run_checkKey hk,run_findKey hk w s es.toList h1,hh,hkeep,MapKept.run_setObj_map _ hb,Result.andThen,ChangeMaps.setBlock]
  ·intro x hx
   rw [Array.toList_modify] at hx
   obtain ⟨i,hi,rfl⟩:=List.getElem_of_mem hx
   rw [List.getElem_modify]
   split
   ·exact ⟨s,rfl⟩
   ·exact h1 _ (List.getElem_mem _)
  ·rw [Array.toList_modify,valS_modify z s v s' es.toList 0 j u (by rw [Nat.zero_add];exact hh),h2]
theorem look_f {ops:Array Oper}{rest:List Oper}(w:World){o:Oper}{a:Act}{Q:Exit->Act->World->Prop}(hw:Region.wanted o (yielded ops a.tmps)=true)
  (m x:Operand)(t:TypeId)(hop:o.op=Op.lookup t m x false)(k e:TypeId)(ht:P.underlying t=some (.map k e))(hk:P.underlying k=some .string)(z:Value)(hz:(zeroValue e).run P w = .ok z w)
  (b:Nat)(f:ByteArray->Value)(hm:a.eval m = .map (some b))(h:MapF w b z f)(s:ByteArray)(hx:a.eval x = .string s)
  (hK:wpList P ops Q rest (a.put o.dst (f s)) w):wpList P ops Q (o :: rest) a w:=
 BigFrame.wpList_want hw fun K hKK=>by
  have hrun:=h.look ht hk hz s
  unfold Oper.wp
  simp [execOp,hop,hm,hx,hrun,Result.andThen]
  exact hKK _ _ hK
theorem store_f {ops:Array Oper}{rest:List Oper}(w:World){o:Oper}{a:Act}{Q:Exit->Act->World->Prop}(hw:Region.wanted o (yielded ops a.tmps)=true)
  (m x v:Operand)(t:TypeId)(hop:o.op=Op.mapUpdate t m x v)(k e:TypeId)(ht:P.underlying t=some (.map k e))(hk:P.underlying k=some .string)
  (b:Nat)(z:Value)(f:ByteArray->Value)(hm:a.eval m = .map (some b))(h:MapF w b z f)(s:ByteArray)(hx:a.eval x = .string s)(val:Value)(hv:a.eval v=val)
  (hK:∀ w',MapF w' b z (fun s'=>if s' = s then val else f s')->w.grownBy w' (some b)->wpList P ops Q rest (a.put o.dst undef) w'):wpList P ops Q (o :: rest) a w:=
 BigFrame.wpList_want hw fun K hKK=>by
  obtain ⟨w',hrun,r1,r2⟩:=h.store ht hk s val
  unfold Oper.wp
  simp [execOp,hop,hm,hx,hv,hrun,Result.andThen]
  exact hKK _ _ (hK w' r1 r2)
end
theorem look_v {ops:Array Oper}{rest:List Oper}(w:World){o:Oper}{a:Act}{Q:Exit->Act->World->Prop}(hw:Region.wanted o (yielded ops a.tmps)=true)
  (m x:Operand)(t:TypeId)(hop:o.op=Op.lookup t m x false)(k e:TypeId)(ht:P.underlying t=some (.map k e))(hk:P.underlying k=some .string)(z:Value)(hz:(zeroValue e).run P w = .ok z w)
  (b:Nat)(f:ByteArray->Value)(hm:a.eval m = .map (some b))(h:MapF w b z f)(s:ByteArray)(hx:a.eval x = .string s)(v:Value)(hv:f s=v)
  (hK:wpList P ops Q rest (a.put o.dst v) w):wpList P ops Q (o :: rest) a w:=look_f w hw m x t hop k e ht hk z hz b f hm h s hx (by rw [hv];exact hK)
theorem append_ka {ops:Array Oper}{rest:List Oper}(w:World){o:Oper}{a:Act}{Q:Exit->Act->World->Prop}(hw:Region.wanted o (yielded ops a.tmps)=true)
  (s x:Operand)(t:TypeId)(hop:o.op=Op.call { callee:=Callee.builtin Builtin.append,args:=#[s,x],argTypes:=#[t,t] })
  (base:Nat)(e:TypeId)(z:Value) (k b:Nat)(h1:P.underlying t=some (.slice e))(h2:(P.info? e).map (fun i=>(i.zero,i.size,i.bytes))=some (some z,k,b))(hz:z.cells.size=k)(hk:0<k)
  (v:Value)(l:List (List Value))(hs:a.eval s=v)(hown:OwnK w base e k v l)(ad:Addr) (c m:Nat)(news:List (List Value))
  (hx:a.eval x = .slice (some ad) m c)(hr:RdK w k (some ad) news)(hn:∀ y ∈ news,y.length=k)(hone:∀ y ∈ news,∀ u ∈ y,u.oneCell' = true)(hm:m=news.length)
  (b0:l.length+news.length<=maxLen)(b1:(l.length+news.length) * b<=140737488355328)(hbase:base<=w.heap.size)
  (hK:∀ v' w',OwnK w' base e k v' (l ++ news)->w.grownBy w' v.ownBlock->(v'.ownBlock=v.ownBlock ∨ v'.ownBlock=some w.heap.size)->wpList P ops Q rest (a.put o.dst v') w'):wpList P ops Q (o :: rest) a w:=
 BigFrame.wpList_want hw fun K hKK=>by
  subst hm
  obtain ⟨i,hi,hiz,his,hib⟩:=info_partsK h2
  obtain ⟨v',w',hrun,r1,r2,r3,r4⟩:=run_append_own_at (P:=P) w base t o.type e i z k b h1 hi hiz his hib hz hk v l.length l.flatten hown.2 ad news.length c news.flatten (flat_length hn) (hr.cells hn)
   (fun u hu=>by obtain ⟨y,hy,hu'⟩:=List.mem_flatten.1 hu;exact hone y hy u hu') b0 b1 hbase
  unfold Oper.wp
  simp [execOp,hop,resolve,invoke,builtin,hs,hx,hrun,Result.andThen]
  exact hKK _ _ (hK v' w' ⟨fun y hy=>(List.mem_append.1 hy).elim (hown.1 y) (hn y),by rw [List.length_append,List.flatten_append];exact r1⟩ r2 r4)
theorem store1_bk {ops:Array Oper}{rest:List Oper}{o:Oper}{a:Act}{w:World}{Q:Exit->Act->World->Prop}(hw:Region.wanted o (yielded ops a.tmps)=true)(ty:TypeId)(x y:Operand)(ho:o.op = .store ty x y)
  (g off:Nat)(u:Value)(hx:a.eval x = .pointer (some ⟨g,off,none⟩))(hy:a.eval y=u)(t:TypeId) (cs cs':Array Value)(hg:Bk w g t cs)
  (hi:(P.info? ty).map (·.size)=some 1)(hl:off<cs.size)(h1:u.oneCell' = true)(hu:u.cells = #[u])(hc:cs' = cs.setIfInBounds off u)
  (h:∀ w',Bk w' g t cs' -> w.grownBy w' (some g)->w'.heap.size=w.heap.size->wpList P ops Q rest (a.put o.dst undef) w'):wpList P ops Q (o :: rest) a w:=
 BigFrame.wpList_want hw fun K hKK=>by
  have hst:=run_storeCells_at P g off t [u] 0 cs w hg (by simp;omega) (fun v hv=>by simp at hv;subst hv;exact h1)
  have hpp:putPart cs off #[u]=cs.setIfInBounds off u:=by
   unfold putPart
   apply Array.ext'
   apply List.ext_getElem?
   intro i
   simp only [List.size_toArray,List.length_cons,List.length_nil,Array.toList_setIfInBounds,List.getElem?_set]
   by_cases h1:i<off
   ·rw [List.append_assoc,List.getElem?_append_left (by simp;omega),List.getElem?_take_of_lt h1,if_neg (by omega)]
   ·by_cases h2:i=off
    ·subst h2
     rw [List.append_assoc,List.getElem?_append_right (by simp;omega)]
     simp [hl,show min i cs.size=i by omega]
    ·rw [List.append_assoc,List.getElem?_append_right (by simp;omega),List.getElem?_append_right (by simp;omega),List.getElem?_drop,if_neg (fun e=>h2 e.symm)]
     congr 1
     simp
     omega
  have hsv:(storeVar ty ⟨g,off,none⟩ u).run P w = .ok () (w.setRow g (putPart cs off #[u])):=by
   cases hq:P.info? ty with
   | none=>simp [hq] at hi
   | some i=>
    have hs:i.size=1:=by simpa [hq] using hi
    simp only [Nat.add_zero] at hst
    simp [storeVar,sizeOf,typeInfo,hq,hu,hs]
    rw [hst];simp [putPart]
  unfold Oper.wp execOp
  simp only [ho,hx,hy,Instr.storeAt,Instr.sureAddr,Sem.run_bind,Sem.run_pure,Result.andThen_ok,hsv]
  refine hKK _ _ (h _ ?_ ⟨rfl,rfl,rfl,by simp,fun i hi hne=>?_⟩ (by simp))
  ·rw [hc,<- hpp];exact setRow_heap w g cs _ t _ hg
  ·exact setRow_other w g i _ (fun e=>hne (by rw [e]))
end
theorem OwnK.notBk {w:World}{b k g:Nat}{e t:TypeId}{v:Value}{l:List (List Value)}{cs:Array Value}(h:OwnK w b e k v l)(hB:Bk w g t cs)(hne:e ≠ t):v.ownBlock=none ∨ v.ownBlock ≠ some g:=by
 rcases h.2.2 with ⟨rfl,_⟩ | ⟨g',cap,cur,rfl,_,hg,_⟩
 ·exact .inl rfl
 ·refine .inr fun he=>?_
  injection he with he
  subst he
  have:=hg.symm.trans hB
  injection this with this
  injection this with _ this
  exact hne this
theorem OwnK.notMap {w:World}{b k g:Nat}{e:TypeId}{v z:Value}{l:List (List Value)}{f:ByteArray->Value}(h:OwnK w b e k v l)(hB:MapF w g z f):v.ownBlock=none ∨ v.ownBlock ≠ some g:=by
 rcases h.2.2 with ⟨rfl,_⟩ | ⟨g',cap,cur,rfl,_,hg,_⟩
 ·exact .inl rfl
 ·refine .inr fun he=>?_
  injection he with he
  subst he
  obtain ⟨es,clock,hb,_⟩:=hB
  have:=hg.symm.trans hb
  injection this with this
  cases this
theorem OwnK.cellsV {w:World}{b k:Nat}{e:TypeId}{v:Value}{l:List (List Value)}(h:OwnK w b e k v l):v.cells = #[v]:=by
 obtain ⟨A,c,hv,_⟩:=h.sl
 rw [hv];rfl
theorem OwnK.lt {w:World}{b k g:Nat}{e:TypeId}{v:Value}{l:List (List Value)}(h:OwnK w b e k v l)(hg:v.ownBlock=some g):g<w.heap.size:=(World.ownsRow.lt h.2 g hg).2
theorem OwnK.one1 {w:World}{b k:Nat}{e:TypeId}{v:Value}{l:List (List Value)}(h:OwnK w b e k v l):v.oneCell' = true:=by
 obtain ⟨A,c,hv,_⟩:=h.sl
 rw [hv];rfl
end
section
open Go.RowKit
abbrev Jl:=Jb × List Lb
abbrev Qx:=ByteArray × Int × Int × Int
abbrev jbs (J:List Jl):List Jb:=J.map Prod.fst
structure Sg where
 ck:Int
 nx:Int
 M:List Ml
 Q:List Qx
 J:List Jl
def Sg.new:Sg:=⟨0,1,[],[],[]⟩
abbrev An:=Int × List Ac
def Jb.bare (j:Jb):Jb:={ j with A:=none,n:=0,cp:=0 }
def Mc.bare (m:Mc):Mc:={ m with A:=none,n:=0,cp:=0 }
def Kt.bare (t:Kt):Kt:={ t with A:=none,n:=0,cp:=0 }
abbrev bJ (l:List Jb):List Jb:=l.map Jb.bare
def bX (x:Ml):Ml:=(x.1.bare,x.2)
abbrev bM (L:List Ml):List Ml:=L.map bX
def bY (x:Jl):Jl:=(x.1.bare,x.2)
abbrev bL (J:List Jl):List Jl:=J.map bY
def Sg.bare (S:Sg):Sg:={ S with M:=bM S.M,J:=bL S.J }
def Qx.cells (q:Qx):List Value:=[.string q.1,.int .i64 q.2.1,.int .i64 q.2.2.1,.int .i64 q.2.2.2]
abbrev Qx.arr (q:Qx):Array Value:=#[.string q.1,.int .i64 q.2.1,.int .i64 q.2.2.1,.int .i64 q.2.2.2]
def cellsQ (l:List Qx):List (List Value):=l.map Qx.cells
theorem cellsQ_length (l:List Qx):(cellsQ l).length=l.length:=by simp [cellsQ]
theorem cellsQ_append (l m:List Qx):cellsQ (l ++ m)=cellsQ l ++ cellsQ m:=by simp [cellsQ]
theorem cellsQ_k (l:List Qx):∀ x ∈ cellsQ l,x.length=4:=by
 intro x hx
 simp only [cellsQ,List.mem_map] at hx
 obtain ⟨j,_,rfl⟩:=hx
 rfl
theorem cellsQ_one (l:List Qx):∀ y ∈ cellsQ l,∀ u ∈ y,u.oneCell' = true:=by
 intro x hx u hu
 simp only [cellsQ,List.mem_map] at hx
 obtain ⟨j,_,rfl⟩:=hx
 simp only [Qx.cells,List.mem_cons,List.not_mem_nil,or_false] at hu
 rcases hu with rfl | rfl | rfl | rfl <;> rfl
theorem cellsM_one (l:List Mc):∀ y ∈ cellsM l,∀ u ∈ y,u.oneCell' = true:=by
 intro x hx
 simp only [cellsM,List.mem_map] at hx
 obtain ⟨j,_,rfl⟩:=hx
 exact j.cells_one
def RdQ (w:World)(A:Option Addr)(l:List Qx):Prop:=RdK w 4 A (cellsQ l)
theorem RdQ.later {w w':World}{A:Option Addr}{l:List Qx}(h:RdQ w A l)(hb:Below w.heap.size w w'):RdQ w' A l:=RdK.later h hb
structure QAt (w:World) (g o:Nat)(q:Qx):Prop where
 rg:w.rangeAt g o q.arr.toList
section
variable {w w':World}{g o:Nat}{q:Qx}
end
theorem RdQ.at {w:World}{A:Option Addr}{l:List Qx}(h:RdQ w A l){i:Nat}(hi:i<l.length):∃ g o,A=some ⟨g,o,none⟩/\g<w.heap.size/\QAt w g (o+i * 4) l[i]:=by
 obtain ⟨g,o,ha,hr⟩:=RdK.at h (i:=i) (by rw [cellsQ_length];exact hi)
 have hr':w.rangeAt g (o+i * 4) l[i].arr.toList:=by have h2:=hr;simp only [cellsQ,List.getElem_map] at h2;exact h2
 exact ⟨g,o,ha,range_lt hr' (by show 0<4;omega),⟨hr'⟩⟩
def QsOk (Q:List Qx):Prop:=∀ q ∈ Q,q.1.size<=140737488351232
def JsOk (w:World)(J:List Jl):Prop:=∀ x ∈ J,KtOk w x.1.tk x.2
theorem JsOk.later {w w':World}{J:List Jl}(h:JsOk w J)(hb:Below w.heap.size w w'):JsOk w' J:=fun x hx=>(h x hx).later hb
theorem JsOk.at {w:World}{J:List Jl}(h:JsOk w J){i:Nat}(hi:i<J.length):KtOk w J[i].1.tk J[i].2:=h _ (List.getElem_mem hi)
theorem jbs_at {J:List Jl}{i:Nat}(hi:i<J.length):(jbs J)[i]'(by simpa using hi)=J[i].1:=by simp [jbs]
theorem jbs_length (J:List Jl):(jbs J).length=J.length:=by simp
def cellsLb (l:List Lb):List (List Value):=l.map fun x=>[.string x.1,.string x.2]
theorem cellsLb_length (l:List Lb):(cellsLb l).length=l.length:=by simp [cellsLb]
theorem cellsLb_k (l:List Lb):∀ x ∈ cellsLb l,x.length=2:=by
 intro x hx
 simp only [cellsLb,List.mem_map] at hx
 obtain ⟨j,_,rfl⟩:=hx
 rfl
theorem cellsLb_one (l:List Lb):∀ y ∈ cellsLb l,∀ u ∈ y,u.oneCell' = true:=by
 intro x hx u hu
 simp only [cellsLb,List.mem_map] at hx
 obtain ⟨j,_,rfl⟩:=hx
 simp only [List.mem_cons,List.not_mem_nil,or_false] at hu
 rcases hu with rfl | rfl <;> rfl
theorem RdL.rdk {w:World}{A:Option Addr}{l:List Lb}(h:RdL w A l):RdK w 2 A (cellsLb l):=fun i x hx=>by
 simp only [cellsLb,List.getElem?_map,Option.map_eq_some_iff] at hx
 obtain ⟨y,hy,rfl⟩:=hx
 obtain ⟨g,o,ha,h1,h2⟩:=h i y hy
 refine ⟨g,o,ha,fun j v hv=>?_⟩
 match j,hv with
 | 0,hv=>simp at hv;subst hv;exact h1
 | 1,hv=>simp at hv;subst hv;exact h2
 | j+2,hv=>simp at hv
theorem RdK.labs {w:World}{A:Option Addr}{l:List Lb}(h:RdK w 2 A (cellsLb l)):RdL w A l:=fun i x hx=>by
 obtain ⟨g,o,ha,hr⟩:=h i [.string x.1,.string x.2] (by simp [cellsLb,hx])
 exact ⟨g,o,ha,by simpa using hr 0 _ rfl,hr 1 _ rfl⟩
structure Sv where
 ck:Int
 nx:Int
 A:Option Addr
 N:Nat
 cA:Nat
 B:Option Addr
 K:Nat
 cB:Nat
 C:Option Addr
 n:Nat
 cC:Nat
abbrev Sv.arr (v:Sv):Array Value:=#[.int .i64 v.ck,.int .i64 v.nx,.slice v.A v.N v.cA,.slice v.B v.K v.cB,.slice v.C v.n v.cC]
structure RdSt (w:World)(v:Sv)(S:Sg):Prop where
 ck:v.ck=S.ck
 nx:v.nx=S.nx
 N:v.N=S.M.length
 M:RdM w v.A (mcs S.M)
 oM:MsOk w S.M
 cA:v.N<=v.cA
 cA2:v.cA<=9223372036854775807
 K:v.K=S.Q.length
 Q:RdQ w v.B S.Q
 oQ:QsOk S.Q
 cB:v.K<=v.cB
 cB2:v.cB<=9223372036854775807
 n:v.n=S.J.length
 J:RdJ w v.C (jbs S.J)
 oJ:JsOk w S.J
 oN:∀ x ∈ S.J,x.1.nd.size<=140737488351232
 cC:v.n<=v.cC
 cC2:v.cC<=9223372036854775807
theorem RdSt.later {w w':World}{v:Sv}{S:Sg}(h:RdSt w v S)(hb:Below w.heap.size w w'):RdSt w' v S:=
 ⟨h.ck,h.nx,h.N,h.M.later hb,h.oM.later hb,h.cA,h.cA2,h.K,h.Q.later hb,h.oQ,h.cB,h.cB2,h.n,h.J.later hb,h.oJ.later hb,h.oN,h.cC,h.cC2⟩
structure GrP (p:Nat->Prop) (w w':World):Prop where
 os:w'.os=w.os
 tape:w'.tape=w.tape
 output:w'.output=w.output
 size:w.heap.size<=w'.heap.size
 block:∀ k,k<w.heap.size -> ¬ p k->w'.heap[k]? = w.heap[k]?
theorem GrP.refl (p:Nat->Prop)(w:World):GrP p w w:=⟨rfl,rfl,rfl,Nat.le_refl _,fun _ _ _=>rfl⟩
theorem GrP.trans {p:Nat->Prop}{a b c:World}(h:GrP p a b)(k:GrP p b c):GrP p a c:=
 ⟨k.os.trans h.os,k.tape.trans h.tape,k.output.trans h.output,Nat.le_trans h.size k.size,fun i hi hn=>(k.block i (Nat.lt_of_lt_of_le hi h.size) hn).trans (h.block i hi hn)⟩
theorem GrP.wide {p q:Nat->Prop} {w w':World}(h:GrP p w w')(hs:∀ k,k<w.heap.size->p k->q k):GrP q w w':=⟨h.os,h.tape,h.output,h.size,fun k hk hn=>h.block k hk (fun e=>hn (hs k hk e))⟩
theorem GrP.ofBelow {p:Nat->Prop} {w w':World}(h:Below w.heap.size w w'):GrP p w w':=⟨h.os,h.tape,h.output,h.size,fun k hk _=>h.block k hk⟩
theorem GrP.of {w w':World}{row:Option Nat}(h:w.grownBy w' row):GrP (fun k=>row=some k) w w':=⟨h.os,h.tape,h.output,h.size,fun k hk hn=>h.block k hk (fun e=>hn e.symm)⟩
theorem GrP.below {p:Nat->Prop} {w w':World}{B:Nat}(h:GrP p w w')(hB:B<=w.heap.size)(hp:∀ k,p k->B<=k):Below B w w':=
 ⟨h.os,h.tape,h.output,h.size,fun k hk=>h.block k (by omega) (fun e=>by have:=hp k e;omega)⟩
theorem GrP.cell {p:Nat->Prop} {w w':World}(h:GrP p w w'){b o:Nat}(hb:b<w.heap.size)(hn:¬ p b):w'.cell? ⟨b,o,none⟩=w.cell? ⟨b,o,none⟩:=World.cell?_of_block (w:=w) (h.block b hb hn)
theorem GrP.set {p:Nat->Prop} {w w':World}(h:GrP p w w'){a:Addr}(ha:p a.block)(u:Value):GrP p w (w'.setCell a u):=
 ⟨h.os,h.tape,h.output,by simpa using h.size,fun k hk hn=>(Below.heap_setCell w' a u k (fun e=>hn (by rw [e];exact ha))).trans (h.block k hk hn)⟩
theorem Bk.grp {w w':World}{g:Nat}{t:TypeId}{cs:Array Value}{p:Nat->Prop}(h:Bk w g t cs)(hb:GrP p w w')(hg:¬ p g):Bk w' g t cs:=(hb.block g h.here hg).trans h
theorem OwnK.grp {w w':World}{b k:Nat}{e:TypeId}{v:Value}{l:List (List Value)}{p:Nat->Prop}(h:OwnK w b e k v l)(hg:GrP p w w')(hp:∀ g,v.ownBlock=some g -> ¬ p g):OwnK w' b e k v l:=by
 obtain ⟨hk,hl,h⟩:=h
 refine ⟨hk,hl,?_⟩
 rcases h with h | ⟨g,cap,cur,rfl,h1,h2,h3⟩
 ·exact .inl h
 ·exact .inr ⟨g,cap,cur,rfl,h1,(hg.block g (by
   by_cases hh:g<w.heap.size
   ·exact hh
   ·rw [Array.getElem?_eq_none_iff.2 (by omega)] at h2;cases h2) (hp g rfl)).trans h2,h3⟩
theorem OwnK.parted {w:World} {b b' k k' g:Nat} {e e':TypeId} {v v':Value} {l l':List (List Value)}(h:OwnK w b e k v l) (h':OwnK w b' e' k' v' l')(hne:e ≠ e')(hg:v.ownBlock=some g) (hg':v'.ownBlock=some g):False:=by
 rcases h.2.2 with ⟨rfl,_⟩ | ⟨g1,cap,cur,rfl,_,h2,_⟩
 ·cases hg
 ·rcases h'.2.2 with ⟨rfl,_⟩ | ⟨g2,cap',cur',rfl,_,h2',_⟩
  ·cases hg'
  ·have e1:g1=g:=by injection hg
   have e2:g2=g:=by injection hg'
   subst e1
   subst e2
   have:=h2.symm.trans h2'
   injection this with this
   injection this with _ this
   exact hne this
structure LbNew (w:World) (b:Nat)(A:Option Addr) (n cp:Nat)(l:List Lb):Prop where
 own:OwnK w b 70 2 (.slice A n cp) (cellsLb l)
 sz:Sz l
theorem LbNew.ok {w:World}{b:Nat}{A:Option Addr}{n cp:Nat}{l:List Lb}(h:LbNew w b A n cp l):LbOk w A n cp l:=by
 obtain ⟨B,c,hv,hr,hc,hc2,_⟩:=h.own.sl
 injection hv with h1 h2 h3
 subst h1 h3
 rw [cellsLb_length] at h2 hc
 exact ⟨h2,hr.labs,by omega,by unfold maxLen at hc2;omega,h.sz⟩
structure OwnS (w:World) (b:Nat)(vM vQ vJ:Value)(S:Sg):Prop where
 M:OwnK w b 60 7 vM (cellsM (mcs S.M))
 Q:OwnK w b 45 4 vQ (cellsQ S.Q)
 J:OwnK w b 66 13 vJ (cellsJ (jbs S.J))
 lM:∀ x ∈ S.M,LbNew w b x.1.A x.1.n x.1.cp x.2
 lJ:∀ x ∈ S.J,LbNew w b x.1.A x.1.n x.1.cp x.2
 zM:∀ x ∈ S.M,x.1.nm.size<=140737488351232
 zQ:QsOk S.Q
 zJ:∀ x ∈ S.J,x.1.nm.size<=140737488351232/\x.1.qu.size<=140737488351232/\x.1.ap.size<=140737488351232/\x.1.ga.size<=140737488351232/\x.1.nd.size<=140737488351232
def blkA (A:Option Addr) (k:Nat):Prop:=∃ a,A=some a/\a.block=k
def blkS (vM vQ vJ:Value)(S:Sg) (k:Nat):Prop:=
 vM.ownBlock=some k ∨ vQ.ownBlock=some k ∨ vJ.ownBlock=some k ∨ (∃ x ∈ S.M,blkA x.1.A k) ∨ ∃ x ∈ S.J,blkA x.1.A k
theorem blkA_own {A:Option Addr}{n c k:Nat}(h:(Value.slice A n c).ownBlock=some k):blkA A k:=by
 cases A with
 | none=>cases h
 | some a=>exact ⟨a,rfl,by injection h⟩
section
variable {w w':World} {b b':Nat}{vM vQ vJ:Value}{S:Sg}
theorem LbNew.grp {A:Option Addr}{n cp:Nat}{l:List Lb}{p:Nat->Prop}(h:LbNew w b A n cp l)(hg:GrP p w w')(hp:∀ k,blkA A k -> ¬ p k):LbNew w' b A n cp l:=⟨h.own.grp hg fun g hg=>hp g (blkA_own hg),h.sz⟩
theorem OwnS.grp {p:Nat->Prop}(h:OwnS w b vM vQ vJ S)(hg:GrP p w w')(hp:∀ k,blkS vM vQ vJ S k -> ¬ p k):OwnS w' b vM vQ vJ S:=
 ⟨h.M.grp hg fun g e=>hp g (.inl e),h.Q.grp hg fun g e=>hp g (.inr (.inl e)),h.J.grp hg fun g e=>hp g (.inr (.inr (.inl e))),
  fun x hx=>(h.lM x hx).grp hg fun k hk=>hp k (.inr (.inr (.inr (.inl ⟨x,hx,hk⟩)))),fun x hx=>(h.lJ x hx).grp hg fun k hk=>hp k (.inr (.inr (.inr (.inr ⟨x,hx,hk⟩)))),h.zM,h.zQ,h.zJ⟩
theorem LbNew.base {A:Option Addr}{n cp:Nat}{l:List Lb}(h:LbNew w b A n cp l)(hb:b' <= b):LbNew w b' A n cp l:=⟨h.own.base hb,h.sz⟩
theorem OwnS.base (h:OwnS w b vM vQ vJ S)(hb:b' <= b):OwnS w b' vM vQ vJ S:=
 ⟨h.M.base hb,h.Q.base hb,h.J.base hb,fun x hx=>(h.lM x hx).base hb,fun x hx=>(h.lJ x hx).base hb,h.zM,h.zQ,h.zJ⟩
theorem LbNew.blk {A:Option Addr}{n cp k:Nat}{l:List Lb}(h:LbNew w b A n cp l)(hk:blkA A k):b<=k/\k<w.heap.size:=by
 obtain ⟨B,c,hv,_,_,_,hn⟩:=h.own.sl
 injection hv with h1 h2 h3
 subst h1
 obtain ⟨⟨g,o,pp⟩,rfl,rfl⟩:=hk
 exact hn _ _ _ rfl
theorem OwnS.blk (h:OwnS w b vM vQ vJ S){k:Nat}(hk:blkS vM vQ vJ S k):b<=k/\k<w.heap.size:=by
 rcases hk with e | e | e | ⟨x,hx,e⟩ | ⟨x,hx,e⟩
 ·exact ⟨h.M.block _ e,h.M.lt e⟩
 ·exact ⟨h.Q.block _ e,h.Q.lt e⟩
 ·exact ⟨h.J.block _ e,h.J.lt e⟩
 ·exact (h.lM x hx).blk e
 ·exact (h.lJ x hx).blk e
theorem OwnS.below (h:OwnS w b vM vQ vJ S)(hb:Below w.heap.size w w'):OwnS w' b vM vQ vJ S:=h.grp (GrP.ofBelow (p:=fun _=>False) hb) fun _ _ e=>e
theorem OwnS.rd (h:OwnS w b vM vQ vJ S):∃ v:Sv,v.arr = #[.int .i64 S.ck,.int .i64 S.nx,vM,vQ,vJ]/\RdSt w v S:=by
 obtain ⟨A,cA,a1,a2,a3,a4,_⟩:=h.M.sl
 obtain ⟨B,cB,b1,b2,b3,b4,_⟩:=h.Q.sl
 obtain ⟨C,cC,c1,c2,c3,c4,_⟩:=h.J.sl
 rw [cellsM_length,List.length_map] at a1 a3
 rw [cellsQ_length] at b1 b3
 rw [cellsJ_length,List.length_map] at c1 c3
 unfold maxLen at a4 b4 c4
 exact ⟨⟨S.ck,S.nx,A,S.M.length,cA,B,S.Q.length,cB,C,S.J.length,cC⟩,by rw [a1,b1,c1],⟨rfl,rfl,rfl,a2,fun x hx=>⟨h.zM x hx,(h.lM x hx).ok⟩,a3,by omega,rfl,b2,h.zQ,b3,by omega,rfl,c2,fun x hx=>⟨(h.zJ x hx).1,(h.zJ x hx).2.1,(h.zJ x hx).2.2.1,(h.zJ x hx).2.2.2.1,(h.lJ x hx).ok⟩,fun x hx=>(h.zJ x hx).2.2.2.2,c3,by omega⟩⟩
end
def cellsA (l:List Ac):List (List Value):=l.map fun x=>[.int .i64 x.1,.string x.2.1,.string x.2.2]
theorem cellsA_length (l:List Ac):(cellsA l).length=l.length:=by simp [cellsA]
theorem cellsA_append (l m:List Ac):cellsA (l ++ m)=cellsA l ++ cellsA m:=by simp [cellsA]
theorem cellsA_k (l:List Ac):∀ x ∈ cellsA l,x.length=3:=by
 intro x hx
 simp only [cellsA,List.mem_map] at hx
 obtain ⟨j,_,rfl⟩:=hx
 rfl
theorem cellsA_one (l:List Ac):∀ y ∈ cellsA l,∀ u ∈ y,u.oneCell' = true:=by
 intro x hx u hu
 simp only [cellsA,List.mem_map] at hx
 obtain ⟨j,_,rfl⟩:=hx
 simp only [List.mem_cons,List.not_mem_nil,or_false] at hu
 rcases hu with rfl | rfl | rfl <;> rfl
theorem RdK.acts {w:World}{A:Option Addr}{l:List Ac}(h:RdK w 3 A (cellsA l)):RdA w A l:=fun i x hx=>by
 obtain ⟨g,o,ha,hr⟩:=h i [.int .i64 x.1,.string x.2.1,.string x.2.2] (by simp [cellsA,hx])
 exact ⟨g,o,ha,by simpa using hr 0 _ rfl,hr 1 _ rfl,hr 2 _ rfl⟩
theorem OwnK.acts {w:World}{b:Nat}{e:TypeId}{v:Value}{l:List Ac}(h:OwnK w b e 3 v (cellsA l)):∃ A c,v = .slice A l.length c/\RdA w A l/\l.length<=c/\c<=9223372036854775807:=by
 obtain ⟨A,c,hv,hr,h1,h2,_⟩:=h.sl
 rw [cellsA_length] at hv h1
 refine ⟨A,c,hv,hr.acts,h1,?_⟩
 unfold maxLen at h2;omega
end
section
open Go.RowKit
theorem infoM15:(Tryz.prog.info? 60).map (fun i=>(i.zero,i.size,i.bytes))=some (some (.agg #[.string ⟨#[]⟩,.int .i64 0,.int .i64 0,.int .i64 0,.slice none 0 0,.bool false,.int .i64 0]),7,80):=by kernel_rfl
theorem infoQ15:(Tryz.prog.info? 45).map (fun i=>(i.zero,i.size,i.bytes))=some (some (.agg #[.string ⟨#[]⟩,.int .i64 0,.int .i64 0,.int .i64 0]),4,40):=by kernel_rfl
theorem infoJ15:(Tryz.prog.info? 66).map (fun i=>(i.zero,i.size,i.bytes))=some (some (.agg #[.string ⟨#[]⟩,.string ⟨#[]⟩,.int .i64 0,.int .i64 0,.int .i64 0,.int .i64 0,.slice none 0 0,.string ⟨#[]⟩,.string ⟨#[]⟩,.int .i64 0,.int .i64 0,.string ⟨#[]⟩,.int .i64 0]),13,160):=by kernel_rfl
theorem infoL15:(Tryz.prog.info? 70).map (fun i=>(i.zero,i.size,i.bytes))=some (some (.agg #[.string ⟨#[]⟩,.string ⟨#[]⟩]),2,32):=by kernel_rfl
theorem infoA15:(Tryz.prog.info? 64).map (fun i=>(i.zero,i.size,i.bytes))=some (some (.agg #[.int .i64 0,.string ⟨#[]⟩,.string ⟨#[]⟩]),3,40):=by kernel_rfl


theorem cloneM_any (A:Option Addr) (n c:Nat)(l:List Mc)(w:World)(hn:Hid (n=l.length))(hr:Hid (RdK w 7 A (cellsM l)))(hbig:n<=1000) :
  Calls Tryz.prog 68 #[.slice A n c] w fun e w'=>∃ v,e = .returned v/\OwnK w' w.heap.size 60 7 v (cellsM l)/\Below w.heap.size w w':=by
 have q22:∀ (w:World)(a:Option Addr) (n c n' c':Nat),(binOp .eql 27 (.slice a n c) (.slice none n' c')).run Tryz.prog w = .ok (.bool a.isNone) w:=fun w a n c n' c'=>Lib.run_eql_slice_nil w _ _ a n c n' c' Tryz.underlying27
 cases A with
 | none=>
  have hl:l=[]:=by
   cases l with
   | nil=>rfl
   | cons x r=>obtain ⟨_,_,ha,_⟩:=hr.out 0 _ (by simp [cellsM];rfl);cases ha
  have HL:=Lib.hid hl
  clear hl
  go_enter Tryz.func68,Tryz.ntmps68
  go_wp2
  go_ret
  exact ⟨_,rfl,by rw [HL.out];exact OwnK.nil _ _ _ _,Below.refl _ _⟩
 | some a=>
  have hr2:=Lib.hid (hr.out.later ((Below.refl w.heap.size w).alloc (Nat.le_refl _) (.cells #[] 60)))
  have hlen:(cellsM l).length=n:=by rw [cellsM_length,hn.out]
  have HLen:=Lib.hid hlen
  clear hlen
  go_enter Tryz.func68,Tryz.ntmps68
  go_wp2_with ((with_reducible refine append_k _ rfl (.tmp 5) (.tmp 6) 27 rfl w.heap.size 60 _ 7 80 Tryz.underlying27 infoM15 rfl (by omega) (.slice (some ⟨w.heap.size,0,none⟩) 0 0) [] rfl (OwnK.empty w w.heap.size 60 7 (Nat.le_refl _) rfl) a c n (cellsM l) rfl hr2.out (cellsM_k l) (cellsM_one l) HLen.out.symm (by have:=HLen.out;simp only [List.length_nil,maxLen];omega) (by have:=HLen.out;simp only [List.length_nil];omega) (by simp) ?_);intro v' w1 hown hgrow)
  go_ret
  refine ⟨v',rfl,by simpa using hown,?_⟩
  exact ((Below.refl _ w).alloc (Nat.le_refl _) _).grown hgrow (by simp) (by intro k hk;simp [Value.ownBlock] at hk;omega)


theorem cloneQ_any (A:Option Addr) (n c:Nat)(l:List Qx)(w:World)(hn:Hid (n=l.length))(hr:Hid (RdK w 4 A (cellsQ l)))(hbig:n<=1000) :
  Calls Tryz.prog 69 #[.slice A n c] w fun e w'=>∃ v,e = .returned v/\OwnK w' w.heap.size 45 4 v (cellsQ l)/\Below w.heap.size w w':=by
 have q22:∀ (w:World)(a:Option Addr) (n c n' c':Nat),(binOp .eql 28 (.slice a n c) (.slice none n' c')).run Tryz.prog w = .ok (.bool a.isNone) w:=fun w a n c n' c'=>Lib.run_eql_slice_nil w _ _ a n c n' c' Tryz.underlying28
 cases A with
 | none=>
  have hl:l=[]:=by
   cases l with
   | nil=>rfl
   | cons x r=>obtain ⟨_,_,ha,_⟩:=hr.out 0 _ (by simp [cellsQ];rfl);cases ha
  have HL:=Lib.hid hl
  clear hl
  go_enter Tryz.func69,Tryz.ntmps69
  go_wp2
  go_ret
  exact ⟨_,rfl,by rw [HL.out];exact OwnK.nil _ _ _ _,Below.refl _ _⟩
 | some a=>
  have hr2:=Lib.hid (hr.out.later ((Below.refl w.heap.size w).alloc (Nat.le_refl _) (.cells #[] 45)))
  have hlen:(cellsQ l).length=n:=by rw [cellsQ_length,hn.out]
  have HLen:=Lib.hid hlen
  clear hlen
  go_enter Tryz.func69,Tryz.ntmps69
  go_wp2_with ((with_reducible refine append_k _ rfl (.tmp 5) (.tmp 6) 28 rfl w.heap.size 45 _ 4 40 Tryz.underlying28 infoQ15 rfl (by omega) (.slice (some ⟨w.heap.size,0,none⟩) 0 0) [] rfl (OwnK.empty w w.heap.size 45 4 (Nat.le_refl _) rfl) a c n (cellsQ l) rfl hr2.out (cellsQ_k l) (cellsQ_one l) HLen.out.symm (by have:=HLen.out;simp only [List.length_nil,maxLen];omega) (by have:=HLen.out;simp only [List.length_nil];omega) (by simp) ?_);intro v' w1 hown hgrow)
  go_ret
  refine ⟨v',rfl,by simpa using hown,?_⟩
  exact ((Below.refl _ w).alloc (Nat.le_refl _) _).grown hgrow (by simp) (by intro k hk;simp [Value.ownBlock] at hk;omega)


theorem cloneJ_any (A:Option Addr) (n c:Nat)(l:List Jb)(w:World)(hn:Hid (n=l.length))(hr:Hid (RdK w 13 A (cellsJ l)))(hbig:n<=1000) :
  Calls Tryz.prog 70 #[.slice A n c] w fun e w'=>∃ v,e = .returned v/\OwnK w' w.heap.size 66 13 v (cellsJ l)/\Below w.heap.size w w':=by
 have q22:∀ (w:World)(a:Option Addr) (n c n' c':Nat),(binOp .eql 29 (.slice a n c) (.slice none n' c')).run Tryz.prog w = .ok (.bool a.isNone) w:=fun w a n c n' c'=>Lib.run_eql_slice_nil w _ _ a n c n' c' Tryz.underlying29
 cases A with
 | none=>
  have hl:l=[]:=by
   cases l with
   | nil=>rfl
   | cons x r=>obtain ⟨_,_,ha,_⟩:=hr.out 0 _ (by simp [cellsJ];rfl);cases ha
  have HL:=Lib.hid hl
  clear hl
  go_enter Tryz.func70,Tryz.ntmps70
  go_wp2
  go_ret
  exact ⟨_,rfl,by rw [HL.out];exact OwnK.nil _ _ _ _,Below.refl _ _⟩
 | some a=>
  have hr2:=Lib.hid (hr.out.later ((Below.refl w.heap.size w).alloc (Nat.le_refl _) (.cells #[] 66)))
  have hlen:(cellsJ l).length=n:=by rw [cellsJ_length,hn.out]
  have HLen:=Lib.hid hlen
  clear hlen
  go_enter Tryz.func70,Tryz.ntmps70
  go_wp2_with ((with_reducible refine append_k _ rfl (.tmp 5) (.tmp 6) 29 rfl w.heap.size 66 _ 13 160 Tryz.underlying29 infoJ15 rfl (by omega) (.slice (some ⟨w.heap.size,0,none⟩) 0 0) [] rfl (OwnK.empty w w.heap.size 66 13 (Nat.le_refl _) rfl) a c n (cellsJ l) rfl hr2.out (cellsJ_k l) (cellsJ_one l) HLen.out.symm (by have:=HLen.out;simp only [List.length_nil,maxLen];omega) (by have:=HLen.out;simp only [List.length_nil];omega) (by simp) ?_);intro v' w1 hown hgrow)
  go_ret
  refine ⟨v',rfl,by simpa using hown,?_⟩
  exact ((Below.refl _ w).alloc (Nat.le_refl _) _).grown hgrow (by simp) (by intro k hk;simp [Value.ownBlock] at hk;omega)


theorem cloneL_any (A:Option Addr) (n c:Nat)(l:List Lb)(w:World)(hn:Hid (n=l.length))(hr:Hid (RdK w 2 A (cellsLb l)))(hbig:n<=1000) :
  Calls Tryz.prog 71 #[.slice A n c] w fun e w'=>∃ v,e = .returned v/\OwnK w' w.heap.size 70 2 v (cellsLb l)/\Below w.heap.size w w':=by
 have q22:∀ (w:World)(a:Option Addr) (n c n' c':Nat),(binOp .eql 41 (.slice a n c) (.slice none n' c')).run Tryz.prog w = .ok (.bool a.isNone) w:=fun w a n c n' c'=>Lib.run_eql_slice_nil w _ _ a n c n' c' Tryz.underlying41
 cases A with
 | none=>
  have hl:l=[]:=by
   cases l with
   | nil=>rfl
   | cons x r=>obtain ⟨_,_,ha,_⟩:=hr.out 0 _ (by simp [cellsLb];rfl);cases ha
  have HL:=Lib.hid hl
  clear hl
  go_enter Tryz.func71,Tryz.ntmps71
  go_wp2
  go_ret
  exact ⟨_,rfl,by rw [HL.out];exact OwnK.nil _ _ _ _,Below.refl _ _⟩
 | some a=>
  have hr2:=Lib.hid (hr.out.later ((Below.refl w.heap.size w).alloc (Nat.le_refl _) (.cells #[] 70)))
  have hlen:(cellsLb l).length=n:=by rw [cellsLb_length,hn.out]
  have HLen:=Lib.hid hlen
  clear hlen
  go_enter Tryz.func71,Tryz.ntmps71
  go_wp2_with ((with_reducible refine append_k _ rfl (.tmp 5) (.tmp 6) 41 rfl w.heap.size 70 _ 2 32 Tryz.underlying41 infoL15 rfl (by omega) (.slice (some ⟨w.heap.size,0,none⟩) 0 0) [] rfl (OwnK.empty w w.heap.size 70 2 (Nat.le_refl _) rfl) a c n (cellsLb l) rfl hr2.out (cellsLb_k l) (cellsLb_one l) HLen.out.symm (by have:=HLen.out;simp only [List.length_nil,maxLen];omega) (by have:=HLen.out;simp only [List.length_nil];omega) (by simp) ?_);intro v' w1 hown hgrow)
  go_ret
  refine ⟨v',rfl,by simpa using hown,?_⟩
  exact ((Below.refl _ w).alloc (Nat.le_refl _) _).grown hgrow (by simp) (by intro k hk;simp [Value.ownBlock] at hk;omega)
end
section
open Go.RowKit
theorem flat_set {k:Nat}:∀ {l:List (List Value)},(∀ x ∈ l,x.length=k) -> ∀ {p j:Nat}{u:Value}(hp:p<l.length),j<k->(l.set p (l[p].set j u)).flatten=l.flatten.set (p * k+j) u
 | [],_,p,j,u,hp,_=>by simp at hp
 | y :: l,hk,0,j,u,hp,hj=>by
  have hy:y.length=k:=hk y (by simp)
  simp only [tE,List.flatten_cons,tB,Nat.zero_mul,Nat.zero_add]
  rw [List.set_append_left _ _ (by omega)]
 | y :: l,hk,p+1,j,u,hp,hj=>by
  have hy:y.length=k:=hk y (by simp)
  simp only [tF,List.flatten_cons,tC]
  rw [flat_set (fun z hz=>hk z (by simp [hz])) (by simpa using hp) hj,List.set_append_right _ _ (by rw [hy,Nat.add_mul];omega)]
  congr 2
  rw [hy,Nat.add_mul];omega
section
variable {P:Program}{w:World}{base k g n c p j:Nat}{e:TypeId}{l:List (List Value)}{u:Value}
theorem OwnK.put (h:OwnK w base e k (.slice (some ⟨g,0,none⟩) n c) l)(hp:p<l.length)(hj:j<k)(u:Value) :
  OwnK (w.setCell ⟨g,p * k+j,none⟩ u) base e k (.slice (some ⟨g,0,none⟩) n c) (l.set p (l[p].set j u))/\(w.cell? ⟨g,p * k+j,none⟩).isSome/\w.frozen? ⟨g,p * k+j,none⟩=false:=by
 obtain ⟨hk,hlen,hr⟩:=h
 rcases hr with ⟨h1,_⟩ | ⟨g',cap,cur,h1,hb,hg,hn,hm,hc,ht⟩
 ·cases h1
 ·injection h1 with e1 e2 e3
  injection e1 with e1
  injection e1 with e1
  subst e1 e3
  have hlt:p * k+j<l.length * k:=by
   have:=Nat.mul_le_mul_right k (show p+1<=l.length from hp)
   rw [Nat.add_mul] at this;omega
  have hsz:p * k+j<cur.size:=by rw [hc];exact Nat.lt_of_lt_of_le hlt (Nat.mul_le_mul_right k hn)
  refine ⟨⟨fun x hx=>?_,?_,.inr ⟨g,c,cur.setIfInBounds (p * k+j) u,by rw [List.length_set,e2],hb,heap_setCell_same w g _ cur e u hg,by rw [List.length_set];exact hn,hm,by simpa using hc,?_⟩⟩,?_,?_⟩
  ·rcases List.mem_or_eq_of_mem_set hx with hx | rfl
   ·exact hk x hx
   ·rw [List.length_set];exact hk _ (List.getElem_mem hp)
  ·rw [flat_set hk hp hj,List.length_set,List.length_set];exact hlen
  ·rw [flat_set hk hp hj,List.length_set,Array.toList_setIfInBounds,List.take_set,ht]
  ·rw [cell_of_row w g _ cur e (0,0) hg];simp [hsz]
  ·exact Bk.free hg _
theorem OwnK.range (h:OwnK w base e k (.slice (some ⟨g,0,none⟩) n c) l)(hp:p<l.length):w.rangeAt g (p * k) l[p]:=by
 obtain ⟨A,c',hv,hr,_⟩:=h.sl
 injection hv with e1
 subst e1
 obtain ⟨g',o,ha,hx⟩:=hr.at hp
 injection ha with ha
 injection ha with e1 e2
 subst e1 e2
 simpa using hx
theorem store_own {ops:Array Oper}{rest:List Oper}{o:Oper}{a:Act}{Q:Exit->Act->World->Prop}(hw:Region.wanted o (yielded ops a.tmps)=true)(ty:TypeId)(x y:Operand)(ho:o.op = .store ty x y)
  (off:Nat)(u:Value)(hx:a.eval x = .pointer (some ⟨g,off,none⟩))(hy:a.eval y=u)(hown:OwnK w base e k (.slice (some ⟨g,0,none⟩) n c) l) (p j:Nat)(hoff:off=p * k+j)(hp:p<l.length)(hj:j<k)
  (hi:(P.info? ty).map (·.size)=some 1)(h1:u.oneCell' = true)(hu:u.cells = #[u])
  (h:∀ w',OwnK w' base e k (.slice (some ⟨g,0,none⟩) n c) (l.set p (l[p].set j u))->w.grownBy w' (some g)->w'.heap.size=w.heap.size->wpList P ops Q rest (a.put o.dst undef) w'):wpList P ops Q (o :: rest) a w:=
 BigFrame.wpList_want hw fun K hKK=>by
  subst hoff
  obtain ⟨q1,q2,q3⟩:=hown.put hp hj u
  have hsv:(storeVar ty ⟨g,p * k+j,none⟩ u).run P w = .ok () (w.setCell ⟨g,p * k+j,none⟩ u):=by
   cases hq:P.info? ty with
   | none=>simp [hq] at hi
   | some i=>
    have hs:i.size=1:=by simpa [hq] using hi
    obtain ⟨v,hv⟩:=Option.isSome_iff_exists.1 q2
    simp [storeVar,sizeOf,typeInfo,hq,hu,hs,storeCells]
    rw [run_store P w _ _ _ h1]
    simp [stored,hv,q3,Addr.add]
  unfold Oper.wp execOp
  simp only [ho,hx,hy,Instr.storeAt,Instr.sureAddr,Sem.run_bind,Sem.run_pure,Result.andThen_ok,hsv]
  exact hKK _ _ (h _ q1 ⟨rfl,rfl,rfl,by simp,fun i hi hne=>Below.heap_setCell w _ u i (fun e=>hne (by rw [e]))⟩ (by simp))
end
section
variable {P:Program}
theorem results_bk1 {fn:Func}{p:Tmp}{ty:TypeId}(h:fn.results = #[.cell p ty])(tmps:Array Value)(w:World) (g:Nat)(t:TypeId)(cs:Array Value)(d:TypeDesc)
  (hp:tmps.getD p undef = .pointer (some ⟨g,0,none⟩))(hg:Bk w g t cs)(hu:P.underlying ty=some d)(hd:d.isRow=true)(hi:(P.info? ty).map (·.size)=some cs.size) :
  (results fn tmps).run P w = .ok (.agg cs) w:=by
 have hp':tmps[p]?.getD undef = .pointer (some ⟨g,0,none⟩):=by simpa using hp
 simp [results,h,hp',asAddr,loadVar_bk hg hu hd hi]
end
theorem OwnK.beside {w w':World} {b b' k k' g:Nat} {e e':TypeId} {v v':Value} {l l':List (List Value)}(h:OwnK w b e k v l) (h':OwnK w b' e' k' v' l')(hne:e ≠ e')(hv:v'.ownBlock=some g)(hg:w.grownBy w' (some g)):OwnK w' b e k v l:=
 h.grp (GrP.of hg) fun i hi e=>by injection e with e;subst e;exact h.parted h' hne hi hv
theorem LbNew.beside {w w':World} {b b' n cp k' g:Nat}{A:Option Addr}{l:List Lb} {e':TypeId} {v':Value} {l':List (List Value)}(h:LbNew w b A n cp l) (h':OwnK w b' e' k' v' l')(hne:70 ≠ e')(hv:v'.ownBlock=some g)(hg:w.grownBy w' (some g)):LbNew w' b A n cp l:=⟨h.own.beside h' hne hv hg,h.sz⟩
theorem LbNew.off {w:World} {b b' n cp k' g:Nat}{A:Option Addr}{l:List Lb} {e':TypeId} {v':Value} {l':List (List Value)}(h:LbNew w b A n cp l) (h':OwnK w b' e' k' v' l')(hne:70 ≠ e')(hg:blkA A g)(hv:v'.ownBlock=some g):False:=by
 obtain ⟨a,rfl,rfl⟩:=hg
 exact h.own.parted h' hne rfl hv
theorem OwnK.far {w:World}{b k:Nat}{e:TypeId}{v:Value}{l:List (List Value)}(h:OwnK w b e k v l){p:Addr}(hp:p.block<b)(u:Value):OwnK (w.setCell p u) b e k v l:=
 h.grp (p:=fun k=>k=p.block) ⟨rfl,rfl,rfl,by simp,fun k _ hn=>Below.heap_setCell w p u k hn⟩ fun i hi e=>by have:=h.block i hi;omega
theorem Bk.set {w:World}{g:Nat}{t:TypeId}{cs:Array Value}(h:Bk w g t cs){p:Addr}(hp:g ≠ p.block)(u:Value):Bk (w.setCell p u) g t cs:=h.other hp u
end
section
section
variable {P:Program}{ops:Array Oper}{Q:Exit->Act->World->Prop}{md:Region.Mode} {S S':World->Prop}{k0:Nat}
def wpAnyE (P:Program)(md:Region.Mode)(ops:Array Oper)(Q:Exit->Act->World->Prop)(S:World->Prop) (k0:Nat):Nat->Array Bool->Act->World->Prop
 | 0,listed,a,w=>Region.ready md ops listed=[]/\Q .normal a w
 | fuel+1,listed,a,w=>
  (Region.ready md ops listed=[]->Q .normal a w) /\
  ∀ i ∈ Region.ready md ops listed,wpOp P ops Q i (fun a' w'=>((listed.setIfInBounds i true).getD k0 false=true ∨ S w')/\wpAnyE P md ops Q S k0 fuel (listed.setIfInBounds i true) a' w') a w
theorem wpAny_of_E:∀ (fuel:Nat)(listed:Array Bool)(a:Act)(w:World),wpAnyE P md ops Q S k0 fuel listed a w->wpAny P md ops Q fuel listed a w
 | 0,_,_,_,h=>h
 | fuel+1,_,_,_,h=>⟨h.1,fun i hi=>wpOp_mono (fun a' w' h'=>wpAny_of_E fuel _ a' w' h'.2) (h.2 i hi)⟩
theorem getD_stays {l:Array Bool}{i k:Nat}(h:l.getD k false=true):(l.setIfInBounds i true).getD k false=true:=by
 simp only [Array.getD_eq_getD_getElem?,Array.getElem?_setIfInBounds] at h ⊢
 split
 ·split
  ·rfl
  ·rename_i h1 h2
   subst h1
   rw [Array.getElem?_eq_none (by omega)] at h;cases h
 ·exact h
theorem wpAnyE_out:∀ (fuel:Nat)(listed:Array Bool)(a:Act)(w:World),listed.getD k0 false=true->wpAny P md ops Q fuel listed a w->wpAnyE P md ops Q S k0 fuel listed a w
 | 0,_,_,_,_,h=>h
 | fuel+1,_,_,_,hk,h=>⟨h.1,fun i hi=>wpOp_mono (fun a' w' h'=>⟨.inl (getD_stays hk),wpAnyE_out fuel _ a' w' (getD_stays hk) h'⟩) (h.2 i hi)⟩
theorem wpAnyE_up (hS:∀ w,S' w->S w):∀ (fuel:Nat)(listed:Array Bool)(a:Act)(w:World),wpAnyE P md ops Q S' k0 fuel listed a w->wpAnyE P md ops Q S k0 fuel listed a w
 | 0,_,_,_,h=>h
 | fuel+1,_,_,_,h=>⟨h.1,fun i hi=>wpOp_mono (fun a' w' h'=>⟨h'.1.imp id (hS _),wpAnyE_up hS fuel _ a' w' h'.2⟩) (h.2 i hi)⟩
theorem getD_other {l:Array Bool}{i k:Nat}(h:i ≠ k):(l.setIfInBounds i true).getD k false=l.getD k false:=by
 simp only [Array.getD_eq_getD_getElem?,Array.getElem?_setIfInBounds]
 rw [if_neg h]
theorem getD_setE {l:Array Bool}{i k:Nat}(b:Bool)(h:i ≠ k):(l.setIfInBounds i true).getD k b=l.getD k b:=by
 simp only [Array.getD_eq_getD_getElem?,Array.getElem?_setIfInBounds]
 rw [if_neg h]
theorem wpAnyE_first {i:Nat}{oi:Oper}{v:Value}(hi:ops[i]? = some oi)(hsel:∀ (j:Nat)(o:Oper) cs b,ops[j]? = some o->o.op ≠ .select cs b)
  (hQ:∀ c a w,Q (.panic c) (a.put oi.dst v) w->Q (.panic c) a w)(hk:k0 ≠ i)(hwait:∀ ok,ops[k0]? = some ok -> ∃ e ∈ ok.after,Region.binds md e=true/\e.on=i) :
  ∀ (fuel:Nat)(listed:Array Bool)(a:Act)(w:World),listed.getD k0 false=false ->
   (∀ j oj,ops[j]? = some oj->j ≠ i->listed.getD j true=false->(∀ e ∈ oj.after,Region.binds md e=true->e.on ≠ i)->oi.apart ops oj=true) ->
   i ∈ Region.ready md ops listed->YieldsIf P ops S oi v a->S w ->
   wpAnyE P md ops Q S k0 fuel (listed.setIfInBounds i true) (a.put oi.dst v) w->wpAnyE P md ops Q S k0 (fuel+1) listed a w:=by
 intro fuel
 induction fuel with
 | zero=>
  intro listed a w _ _ hr hy hS H
  refine ⟨fun h=>(by rw [h] at hr;cases hr),fun j hj=>?_⟩
  by_cases hji:j=i
  ·subst hji;exact hy.wpOp hi hS ⟨.inr hS,H⟩
  ·have:=ready_mono hj hji
   rw [H.1] at this
   cases this
 | succ fuel ih=>
  intro listed a w hl0 hfree hr hy hS H
  refine ⟨fun h=>(by rw [h] at hr;cases hr),fun j hj=>?_⟩
  by_cases hji:j=i
  ·subst hji;exact hy.wpOp hi hS ⟨.inr hS,H⟩
  ·have h1:=H.2 j (ready_mono hj hji)
   obtain ⟨hjun,oj,hoj,hall⟩:=mem_ready.1 hj
   have hnot:∀ e ∈ oj.after,Region.binds md e=true->e.on ≠ i:=fun e he hb heq=>by
    have h1:=hall e he hb
    have h0:=(mem_ready.1 hr).1
    rw [heq] at h1
    rcases Nat.lt_or_ge i listed.size with h' | h'
    ·simp [h'] at h0 h1;rw [h0] at h1;cases h1
    ·simp [Array.getElem?_eq_none h'] at h1
   have hjk:j ≠ k0:=fun e=>by
    subst e
    obtain ⟨e,he,hb,heq⟩:=hwait oj hoj
    exact hnot e he hb heq
   have h2:=wpOp_putIf hoj (hfree j oj hoj hji hjun hnot) (fun cs b=>hsel i oi cs b hi) (fun cs b=>hsel j oj cs b hoj) hQ hy h1
   have hfree':∀ k ok,ops[k]? = some ok->k ≠ i->(listed.setIfInBounds j true).getD k true=false ->
     (∀ e ∈ ok.after,Region.binds md e=true->e.on ≠ i)->oi.apart ops ok=true:=fun k ok hk hki hun hno=>by
    refine hfree k ok hk hki ?_ hno
    by_cases hjk:j=k
    ·subst hjk;exact hjun
    ·rw [getD_setE true hjk] at hun;exact hun
   have hl1:(listed.setIfInBounds j true).getD k0 false=false:=by rw [getD_other hjk];exact hl0
   have hl2:((listed.setIfInBounds i true).setIfInBounds j true).getD k0 false=false:=by rw [getD_other hjk,getD_other (Ne.symm hk)];exact hl0
   refine wpOp_mono (fun a' w' h3=>?_) h2
   have hS':S w':=h3.2.1.resolve_left (by rw [hl2];simp)
   refine ⟨.inr hS',ih (listed.setIfInBounds j true) a' w' hl1 hfree' (ready_mono hr (Ne.symm hji)) h3.1 hS' ?_⟩
   rw [Array.setIfInBounds_comm _ _ hji]
   exact h3.2.2
def waitsB (md:Region.Mode)(ops:Array Oper) (k0 i:Nat):Bool:=k0 != i && match ops[k0]? with | none=>true | some ok=>ok.after.any (fun e=>Region.binds md e && e.on == i)
theorem waitsB_spec {i:Nat}(h:waitsB md ops k0 i=true):k0 ≠ i /\ ∀ ok,ops[k0]? = some ok -> ∃ e ∈ ok.after,Region.binds md e=true/\e.on=i:=by
 unfold waitsB at h
 rw [Bool.and_eq_true] at h
 refine ⟨by simpa using h.1,fun ok hok=>?_⟩
 have h2:=h.2
 rw [hok] at h2
 obtain ⟨e,he,hb⟩:=Array.any_eq_true'.1 h2
 simp only [Bool.and_eq_true,beq_iff_eq] at hb
 exact ⟨e,he,hb⟩
theorem wpAnyE_take {i:Nat}{oi:Oper}{v:Value}{fuel:Nat}{listed:Array Bool}{a:Act}{w:World}(hi:ops[i]? = some oi)
  (hs:Region.noSelect ops=true)(hf:Region.free md ops listed i=true)(hr:(Region.ready md ops listed).contains i=true)(hk:waitsB md ops k0 i=true)(hl:listed.getD k0 false=false)
  (hQ:∀ c a w,Q (.panic c) (a.put oi.dst v) w->Q (.panic c) a w)(hy:YieldsIf P ops S oi v a)(hS:S w)
  (h:wpAnyE P md ops Q S k0 fuel (listed.setIfInBounds i true) (a.put oi.dst v) w):wpAnyE P md ops Q S k0 (fuel+1) listed a w:=
 wpAnyE_first hi (Region.noSelect_spec hs) hQ (waitsB_spec hk).1 (waitsB_spec hk).2 fuel listed a w hl (Region.free_spec hi hf) (by simpa using hr) hy hS h
def AllReadyE (P:Program)(md:Region.Mode)(ops:Array Oper)(Q:Exit->Act->World->Prop)(S:World->Prop) (k0:Nat) (fuel:Nat)(listed:Array Bool)(a:Act)(w:World)(rs:List Nat):Prop:=
 ∀ i ∈ rs,wpOp P ops Q i (fun a' w'=>((listed.setIfInBounds i true).getD k0 false=true ∨ S w')/\wpAnyE P md ops Q S k0 fuel (listed.setIfInBounds i true) a' w') a w
theorem AllReadyE.nil {fuel:Nat}{listed:Array Bool}{a:Act}{w:World}:AllReadyE P md ops Q S k0 fuel listed a w []:=fun _ h=>by cases h
theorem AllReadyE.cons {fuel:Nat}{listed:Array Bool}{a:Act}{w:World}{i:Nat}{o:Oper}{rs:List Nat}(ho:ops[i]? = some o)
  (h:∀ K':Act->World->Prop,Shut (∀ a w,S w->(S w->wpAnyE P md ops Q S k0 fuel (listed.setIfInBounds i true) a w)->K' a w)->if Region.wanted o (yielded ops a.tmps)=true then Oper.wp P o a w K' Q else K' (a.put o.dst undef) w)
  (hs:AllReadyE P md ops Q S k0 fuel listed a w rs):AllReadyE P md ops Q S k0 fuel listed a w (i :: rs):=fun j hj=>by
 rcases List.mem_cons.1 hj with rfl | hj
 ·exact wpOp_step ho (fun K' hK=>h K' (fun a w hS hW=>hK a w ⟨.inr hS,hW hS⟩))
 ·exact hs j hj
theorem AllReadyE.last {fuel:Nat}{listed:Array Bool}{a:Act}{w:World}{i:Nat}{o:Oper}{rs:List Nat}(ho:ops[i]? = some o)(hl:(listed.setIfInBounds i true).getD k0 false=true)
  (h:∀ K':Act->World->Prop,Shut (∀ a w,wpAny P md ops Q fuel (listed.setIfInBounds i true) a w->K' a w)->if Region.wanted o (yielded ops a.tmps)=true then Oper.wp P o a w K' Q else K' (a.put o.dst undef) w)
  (hs:AllReadyE P md ops Q S k0 fuel listed a w rs):AllReadyE P md ops Q S k0 fuel listed a w (i :: rs):=fun j hj=>by
 rcases List.mem_cons.1 hj with rfl | hj
 ·exact wpOp_step ho (fun K' hK=>h K' (fun a w hW=>hK a w ⟨.inl hl,wpAnyE_out _ _ _ _ hl hW⟩))
 ·exact hs j hj
theorem wpAnyE_ready {rs:List Nat}{fuel:Nat}{listed:Array Bool}{a:Act}{w:World}(hr:Region.ready md ops listed=rs)(hne:rs ≠ [])
  (h:AllReadyE P md ops Q S k0 fuel listed a w rs):wpAnyE P md ops Q S k0 (fuel+1) listed a w:=⟨fun h0=>absurd (hr ▸ h0) hne,hr ▸ h⟩
theorem wp_region_E {id:Nat}{a:Act}{w:World} (k0:Nat)(hm:P.follows .mixedOrders=true)(hS:S w.drew)
  (h:S w.drew->wpAnyE P .any ops Q S k0 ops.size (Array.replicate ops.size false) a w.drew):(Code.region id ops true).wp P Q a w:=
 wp_region_any hm (wpAny_of_E _ _ _ _ (h hS))
end
end
end Go.Proofs.YtccccbofcnmdiaaGreat
