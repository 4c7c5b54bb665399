/- Lemmas that the law stands on. No condition. -/
import Derived.Test.YtccccbofcnmdiaaGreatM00
namespace Go.Proofs.YtccccbofcnmdiaaGreat
set_option linter.unusedSimpArgs false
set_option linter.unusedVariables false
set_option maxRecDepth 100000
set_option maxHeartbeats 51200000
section
open Go.ChangeShapes Go.WideShapes Go.RowKit Go.Deep
theorem cellsInt:Tryz.prog.cellsOf 3=1:=by kernel_rfl
theorem cellsRes:Tryz.prog.cellsOf 40=3:=by kernel_rfl
theorem cellsLabs:Tryz.prog.cellsOf 41=1:=by kernel_rfl
theorem cellsNode:Tryz.prog.cellsOf 43=5:=by kernel_rfl
theorem cellsQueue:Tryz.prog.cellsOf 45=4:=by kernel_rfl
theorem cellsTask:Tryz.prog.cellsOf 47=10:=by kernel_rfl
theorem list5 {α:Type} (l:List α) (h:l.length=5):∃ a b c d e,l=[a,b,c,d,e]:=by
 match l,h with
 | [a,b,c,d,e],_=>exact ⟨a,b,c,d,e,rfl⟩
theorem list3' {α:Type} (l:List α) (h:l.length=3):∃ a b c,l=[a,b,c]:=by
 match l,h with
 | [a,b,c],_=>exact ⟨a,b,c,rfl⟩
theorem list8 {α:Type} (l:List α) (h:l.length=8):∃ a b c d e f g i,l=[a,b,c,d,e,f,g,i]:=by
 match l,h with
 | [a,b,c,d,e,f,g,i],_=>exact ⟨a,b,c,d,e,f,g,i,rfl⟩
section
variable {H:Type} {enc:TypeId × Value->H} {W:World} {base:Nat} {sp:Nat->Bool} {held:Bool}
structure LabsIn (W:World) (d:DataW H) (A:Option Addr) (n c:Nat) (l:List Lb):Prop where
 len:n=l.length
 rd:RdL W A l
 cap:n<=c
 cap2:c<=9223372036854775807
 dat:∀ x ∈ l,∃ elems spare,d = .slice elems spare/\datL x ∈ elems
theorem open_field_labs {fuel:Nat} {c:Value} {y:DataW H × List MemPlace} (h:DataW.trod enc Tryz.prog W base sp held fuel 41 [c]=some y) :
  ∃ A n cp l,c = .slice A n cp/\LabsIn W y.1 A n cp l:=by
 have key:∀ A n cp,c = .slice A n cp -> ∃ A n cp l,c = .slice A n cp/\LabsIn W y.1 A n cp l:=fun A n cp hc=>by
  subst hc
  obtain ⟨l,h1,h2,h3,h4,h5⟩:=open_labs (enc:=enc) (base:=base) (sp:=sp) (held:=held) (p:=y.2) (d:=y.1) ⟨fuel,by simpa [Value.cells] using h⟩
  exact ⟨A,n,cp,l,rfl,h1,h2,h3,h4,h5⟩
 rcases open_slice Tryz.underlying41 h with ⟨hcs,_⟩ | ⟨a,len,cap,_,_,_,_,hcs,_⟩
 ·simp at hcs;exact key _ _ _ hcs
 ·simp at hcs;exact key _ _ _ hcs
theorem open_field_res {fuel:Nat} {c0 c1 c2:Value} {y:DataW H × List MemPlace} (h:DataW.trod enc Tryz.prog W base sp held fuel 40 [c0,c1,c2]=some y) :
  ∃ a b c:Int,c0 = .int .i64 a/\c1 = .int .i64 b/\c2 = .int .i64 c:=by
 obtain ⟨y0,y1,y2,m,_,hy0,hy1,hy2⟩:=trod_array3 Tryz.underlying40 cellsInt h
 obtain ⟨x0,e0,_,_⟩:=DataW.trod_int Tryz.underlying3 hy0
 obtain ⟨x1,e1,_,_⟩:=DataW.trod_int Tryz.underlying3 hy1
 obtain ⟨x2,e2,_,_⟩:=DataW.trod_int Tryz.underlying3 hy2
 simp at e0 e1 e2
 exact ⟨x0,x1,x2,e0,e1,e2⟩
theorem open_field_string {fuel:Nat} {c:Value} {y:DataW H × List MemPlace} (h:DataW.trod enc Tryz.prog W base sp held fuel 9 [c]=some y) :
  ∃ s:ByteArray,c = .string s/\y.1 = .lit (.string s.data.toList):=by
 obtain ⟨s,e,r,_⟩:=DataW.trod_string Tryz.underlying9 h
 simp at e
 exact ⟨s,e,by rw [r]⟩
theorem open_field_int {fuel:Nat} {c:Value} {y:DataW H × List MemPlace} (h:DataW.trod enc Tryz.prog W base sp held fuel 3 [c]=some y):∃ a:Int,c = .int .i64 a:=by
 obtain ⟨x,e,_,_⟩:=DataW.trod_int Tryz.underlying3 h
 simp at e
 exact ⟨x,e⟩
theorem sized_inner {ts:List TypeId} {ds:List (DataW H)} (h:(DataW.weightsEach Tryz.prog ts ds).all (· <= reachBytes)=true) {j:Nat} {t:TypeId} {fs:Array Field} {parts:List (DataW H)} (hu:Tryz.prog.underlying t=some (.struct fs))
  (ht:ts[j]? = some t) (hd:ds[j]? = some (.agg parts)):(DataW.weightsEach Tryz.prog (fs.toList.map (·.type)) parts).all (· <= reachBytes)=true:=by
 rw [List.all_eq_true]
 intro n hn
 refine List.all_eq_true.1 h n (DataW.weights_mem_each ht hd n ?_)
 simp only [DataW.weights,hu]
 exact hn
theorem sized_str {ts:List TypeId} {ds:List (DataW H)} (h:(DataW.weightsEach Tryz.prog ts ds).all (· <= reachBytes)=true) {j:Nat} {t:TypeId} {s:ByteArray} (ht:ts[j]? = some t) (hd:ds[j]? = some (.lit (.string s.data.toList))):s.size<=140737488351232:=by
 have:=sized_string h ht hd
 have e:s.data.toList.length=s.size:=by simp
 simp only [reachBytes] at this
 omega
theorem sized_node {ts:List TypeId} {ds:List (DataW H)} (h:(DataW.weightsEach Tryz.prog ts ds).all (· <= reachBytes)=true) {j:Nat} {nm:ByteArray} {da dl:DataW H} (ht:ts[j]? = some 43) (hd:ds[j]? = some (.agg [.lit (.string nm.data.toList),da,dl])) {W:World} {A:Option Addr} {n c:Nat} {l:List Lb} (hl:LabsIn W dl A n c l) :
  nm.size<=140737488351232/\Sz l:=by
 have hi:=sized_inner h Tryz.underlying43 ht hd
 refine ⟨sized_str hi (j:=0) rfl rfl,fun x hx=>?_⟩
 obtain ⟨el,sp,rfl,hm⟩:=hl.dat x hx
 exact sized_labs hi (j:=2) rfl rfl hm
theorem sized_queue {ts:List TypeId} {ds:List (DataW H)} (h:(DataW.weightsEach Tryz.prog ts ds).all (· <= reachBytes)=true) {j:Nat} {nm:ByteArray} {da:DataW H} (ht:ts[j]? = some 45) (hd:ds[j]? = some (.agg [.lit (.string nm.data.toList),da])) :
  nm.size<=140737488351232:=sized_str (sized_inner h Tryz.underlying45 ht hd) (j:=0) rfl rfl
theorem sized_task {ts:List TypeId} {ds:List (DataW H)} (h:(DataW.weightsEach Tryz.prog ts ds).all (· <= reachBytes)=true) {j:Nat} {nm qu ap ga:ByteArray} {d2 d3 d4 d7:DataW H} (ht:ts[j]? = some 47)
  (hd:ds[j]? = some (.agg [.lit (.string nm.data.toList),.lit (.string qu.data.toList),d2,d3,d4,.lit (.string ap.data.toList),.lit (.string ga.data.toList),d7])) {W:World} {A:Option Addr} {n c:Nat} {l:List Lb} (hl:LabsIn W d4 A n c l) :
  nm.size<=140737488351232/\qu.size<=140737488351232/\ap.size<=140737488351232/\ga.size<=140737488351232/\Sz l:=by
 have hi:=sized_inner h Tryz.underlying47 ht hd
 refine ⟨sized_str hi (j:=0) rfl rfl,sized_str hi (j:=1) rfl rfl,sized_str hi (j:=5) rfl rfl,sized_str hi (j:=6) rfl rfl,fun x hx=>?_⟩
 obtain ⟨el,sp,rfl,hm⟩:=hl.dat x hx
 exact sized_labs hi (j:=4) rfl rfl hm
end
end
section
open Go.ChangeShapes Go.WideShapes Go.RowKit Go.Deep
structure Jb where
 nm:ByteArray
 qu:ByteArray
 pr:Int
 a:Int
 b:Int
 c:Int
 A:Option Addr
 n:Nat
 cp:Nat
 ap:ByteArray
 ga:ByteArray
 sz:Int
 sq:Int
 nd:ByteArray
 bo:Int
abbrev Jb.task (j:Jb):Array Value:=#[.string j.nm,.string j.qu,.int .i64 j.pr,.int .i64 j.a,.int .i64 j.b,.int .i64 j.c,.slice j.A j.n j.cp,.string j.ap,.string j.ga,.int .i64 j.sz]
abbrev Jb.arr (j:Jb):Array Value:=#[.string j.nm,.string j.qu,.int .i64 j.pr,.int .i64 j.a,.int .i64 j.b,.int .i64 j.c,.slice j.A j.n j.cp,.string j.ap,.string j.ga,.int .i64 j.sz,.int .i64 j.sq,.string j.nd,.int .i64 j.bo]
def Jb.cells (j:Jb):List Value:=j.arr.toList
theorem Jb.cells_length (j:Jb):j.cells.length=13:=rfl
theorem Jb.cells_one (j:Jb):∀ u ∈ j.cells,u.oneCell' = true:=by
 intro u hu
 simp only [Jb.cells,Jb.arr,List.mem_cons,List.not_mem_nil,or_false] at hu
 rcases hu with rfl | rfl | rfl | rfl | rfl | rfl | rfl | rfl | rfl | rfl | rfl | rfl | rfl <;> rfl
def cellsJ (l:List Jb):List (List Value):=l.map Jb.cells
theorem cellsJ_length (l:List Jb):(cellsJ l).length=l.length:=by simp [cellsJ]
theorem cellsJ_append (l m:List Jb):cellsJ (l ++ m)=cellsJ l ++ cellsJ m:=by simp [cellsJ]
theorem cellsJ_k (l:List Jb):∀ x ∈ cellsJ l,x.length=13:=by
 intro x hx
 simp only [cellsJ,List.mem_map] at hx
 obtain ⟨j,_,rfl⟩:=hx
 rfl
theorem cellsJ_one (l:List Jb):∀ y ∈ cellsJ l,∀ u ∈ y,u.oneCell' = true:=by
 intro x hx
 simp only [cellsJ,List.mem_map] at hx
 obtain ⟨j,_,rfl⟩:=hx
 exact j.cells_one
def RdJ (w:World) (A:Option Addr) (l:List Jb):Prop:=RdK w 13 A (cellsJ l)
structure JAt (w:World) (g o:Nat) (j:Jb):Prop where
 rg:w.rangeAt g o j.arr.toList
section
variable {w w':World} {g o:Nat} {j:Jb}
theorem JAt.later (h:JAt w g o j) (hb:Below w.heap.size w w'):JAt w' g o j:=⟨range_keep h.rg hb⟩
theorem JAt.pr (h:JAt w g o j):w.cell? ⟨g,o+2,none⟩=some (.int .i64 j.pr):=h.rg 2 _ rfl
end
section
variable {w w':World} {A:Option Addr} {l:List Jb}
theorem RdJ.nil (w:World) (A:Option Addr):RdJ w A []:=RdK.nil _ _ _
theorem RdJ.later (h:RdJ w A l) (hb:Below w.heap.size w w'):RdJ w' A l:=RdK.later h hb
theorem RdJ.at (h:RdJ w A l) {i:Nat} (hi:i<l.length):∃ g o,A=some ⟨g,o,none⟩/\g<w.heap.size/\JAt w g (o+i * 13) l[i]:=by
 obtain ⟨g,o,ha,hr⟩:=RdK.at h (i:=i) (by rw [cellsJ_length];exact hi)
 have hr':w.rangeAt g (o+i * 13) l[i].arr.toList:=by have h2:=hr;simp only [cellsJ,List.getElem_map] at h2;exact h2
 exact ⟨g,o,ha,range_lt hr' (by show 0<13;omega),⟨hr'⟩⟩
end
section
variable {H:Type} {enc:TypeId × Value->H} {W:World} {base:Nat} {sp:Nat->Bool} {held:Bool}
end
end
section
open Go.RowKit
abbrev Jb.need (j:Jb):Int × Int × Int:=(j.a,j.b,j.c)
theorem infoJ:(Tryz.prog.info? 66).map (fun i=>(i.zero,i.size,i.bytes))=some (some (.agg #[.string ⟨#[]⟩,.string ⟨#[]⟩,.int .i64 0,.int .i64 0,.int .i64 0,.int .i64 0,.slice none 0 0,.string ⟨#[]⟩,.string ⟨#[]⟩,.int .i64 0,.int .i64 0,.string ⟨#[]⟩,.int .i64 0]),13,160):=by kernel_rfl
theorem OwnK.rdj {w:World} {base:Nat} {e:TypeId} {v:Value} {l:List Jb} (h:OwnK w base e 13 v (cellsJ l)):∃ A c,v = .slice A l.length c/\RdJ w A l/\l.length<=c/\c<=9223372036854775807:=by
 obtain ⟨A,c,hv,hr,h1,h2,_⟩:=h.sl
 rw [cellsJ_length] at hv h1
 refine ⟨A,c,hv,hr,h1,?_⟩
 unfold maxLen at h2;omega
section
variable {o:Oper} {a:Act} {w:World} {K:Act->World->Prop} {Q:Exit->Act->World->Prop}
end
end
section
open Go.ChangeShapes Go.WideShapes Go.RowKit Go.Deep
structure Mc where
 nm:ByteArray
 a:Int
 b:Int
 c:Int
 A:Option Addr
 n:Nat
 cp:Nat
 up:Bool
 un:Int
abbrev Mc.node (m:Mc):Array Value:=#[.string m.nm,.int .i64 m.a,.int .i64 m.b,.int .i64 m.c,.slice m.A m.n m.cp]
abbrev Mc.arr (m:Mc):Array Value:=#[.string m.nm,.int .i64 m.a,.int .i64 m.b,.int .i64 m.c,.slice m.A m.n m.cp,.bool m.up,.int .i64 m.un]
def Mc.cells (m:Mc):List Value:=m.arr.toList
theorem Mc.cells_one (m:Mc):∀ u ∈ m.cells,u.oneCell' = true:=by
 intro u hu
 simp only [Mc.cells,Mc.arr,List.mem_cons,List.not_mem_nil,or_false] at hu
 rcases hu with rfl | rfl | rfl | rfl | rfl | rfl | rfl <;> rfl
def cellsM (l:List Mc):List (List Value):=l.map Mc.cells
theorem cellsM_length (l:List Mc):(cellsM l).length=l.length:=by simp [cellsM]
theorem cellsM_append (l m:List Mc):cellsM (l ++ m)=cellsM l ++ cellsM m:=by simp [cellsM]
theorem cellsM_k (l:List Mc):∀ x ∈ cellsM l,x.length=7:=by
 intro x hx
 simp only [cellsM,List.mem_map] at hx
 obtain ⟨j,_,rfl⟩:=hx
 rfl
def RdM (w:World) (A:Option Addr) (l:List Mc):Prop:=RdK w 7 A (cellsM l)
structure MAt (w:World) (g o:Nat) (m:Mc):Prop where
 rg:w.rangeAt g o m.arr.toList
section
variable {w w':World} {g o:Nat} {m:Mc}
end
section
variable {w w':World} {A:Option Addr} {l:List Mc}
theorem RdM.later (h:RdM w A l) (hb:Below w.heap.size w w'):RdM w' A l:=RdK.later h hb
theorem RdM.at (h:RdM w A l) {i:Nat} (hi:i<l.length):∃ g o,A=some ⟨g,o,none⟩/\g<w.heap.size/\MAt w g (o+i * 7) l[i]:=by
 obtain ⟨g,o,ha,hr⟩:=RdK.at h (i:=i) (by rw [cellsM_length];exact hi)
 have hr':w.rangeAt g (o+i * 7) l[i].arr.toList:=by have h2:=hr;simp only [cellsM,List.getElem_map] at h2;exact h2
 exact ⟨g,o,ha,range_lt hr' (by show 0<7;omega),⟨hr'⟩⟩
end
structure Kt where
 nm:ByteArray
 qu:ByteArray
 pr:Int
 a:Int
 b:Int
 c:Int
 A:Option Addr
 n:Nat
 cp:Nat
 ap:ByteArray
 ga:ByteArray
 sz:Int
abbrev Kt.arr (t:Kt):Array Value:=#[.string t.nm,.string t.qu,.int .i64 t.pr,.int .i64 t.a,.int .i64 t.b,.int .i64 t.c,.slice t.A t.n t.cp,.string t.ap,.string t.ga,.int .i64 t.sz]
abbrev Jb.tk (j:Jb):Kt:=⟨j.nm,j.qu,j.pr,j.a,j.b,j.c,j.A,j.n,j.cp,j.ap,j.ga,j.sz⟩
abbrev Kt.job (t:Kt) (s:ByteArray):Jb:=⟨t.nm,t.qu,t.pr,t.a,t.b,t.c,t.A,t.n,t.cp,t.ap,t.ga,t.sz,0,s,0⟩
structure LbOk (w:World) (A:Option Addr) (n cp:Nat) (l:List Lb):Prop where
 len:n=l.length
 rd:RdL w A l
 cap:n<=cp
 cap2:cp<=9223372036854775807
 sz:Sz l
theorem LbOk.later {w w':World} {A:Option Addr} {n cp:Nat} {l:List Lb} (h:LbOk w A n cp l) (hb:Below w.heap.size w w'):LbOk w' A n cp l:=⟨h.len,h.rd.later hb,h.cap,h.cap2,h.sz⟩
theorem LbOk.nil (w:World):LbOk w none 0 0 []:=⟨rfl,RdL.nil _ _,Nat.le_refl _,by omega,fun x hx=>by simp at hx⟩
structure McOk (w:World) (m:Mc) (l:List Lb):Prop where
 nm:m.nm.size<=140737488351232
 lb:LbOk w m.A m.n m.cp l
theorem McOk.later {w w':World} {m:Mc} {l:List Lb} (h:McOk w m l) (hb:Below w.heap.size w w'):McOk w' m l:=⟨h.nm,h.lb.later hb⟩
structure KtOk (w:World) (t:Kt) (l:List Lb):Prop where
 nm:t.nm.size<=140737488351232
 qu:t.qu.size<=140737488351232
 ap:t.ap.size<=140737488351232
 ga:t.ga.size<=140737488351232
 lb:LbOk w t.A t.n t.cp l
theorem KtOk.later {w w':World} {t:Kt} {l:List Lb} (h:KtOk w t l) (hb:Below w.heap.size w w'):KtOk w' t l:=⟨h.nm,h.qu,h.ap,h.ga,h.lb.later hb⟩
section
variable {H:Type} {enc:TypeId × Value->H} {W:World} {base:Nat} {sp:Nat->Bool} {held:Bool}
end
end
section
open Go.ChangeShapes Go.WideShapes Go.RowKit Go.Deep
abbrev Ml:=Mc × List Lb
abbrev mcs (L:List Ml):List Mc:=L.map Prod.fst
def MsOk (w:World) (L:List Ml):Prop:=∀ x ∈ L,McOk w x.1 x.2
theorem MsOk.later {w w':World} {L:List Ml} (h:MsOk w L) (hb:Below w.heap.size w w'):MsOk w' L:=fun x hx=>(h x hx).later hb
theorem MsOk.at {w:World} {L:List Ml} (h:MsOk w L) {i:Nat} (hi:i<L.length):McOk w L[i].1 L[i].2:=h _ (List.getElem_mem hi)
theorem mcs_at {L:List Ml} {i:Nat} (hi:i<L.length):(mcs L)[i]'(by simpa using hi)=L[i].1:=by simp [mcs]
section
variable {H:Type} {enc:TypeId × Value->H} {W:World} {base:Nat} {sp:Nat->Bool} {held:Bool}
end
end
section
open Go.RowKit
theorem ret_bool' {a b:Bool} (h:a=b):Ending.returned (.bool a) = .returned (.bool b):=by rw [h]
theorem all_takeL {l:List Lb} {p:Lb->Bool} {k:Nat} (h:k<l.length):(l.take (k+1)).all p=((l.take k).all p && p l[k]):=by
 rw [List.take_succ_eq_append_getElem h,List.all_append];simp
theorem all_take_falseL {l:List Lb} {p:Lb->Bool} {k:Nat} (h:k<l.length) (hp:p l[k]=false):l.all p=false:=by
 rw [List.all_eq_false]
 exact ⟨l[k],List.getElem_mem h,by simp [hp]⟩
theorem lE_yes {x y:Lb} (h:lE x y=true):x.1.toList=y.1.toList/\x.2.toList=y.2.toList:=by rw [lE_iff.1 h];exact ⟨rfl,rfl⟩
theorem lE_no {x y:Lb} (h:lE x y=false):(x.1.toList ≠ y.1.toList) ∨ (x.1.toList=y.1.toList/\x.2.toList ≠ y.2.toList):=by
 by_cases h1:x.1.toList=y.1.toList
 ·refine .inr ⟨h1,fun h2=>?_⟩
  unfold lE sE at h
  simp [h1,h2] at h
 ·exact .inl h1
def sameB (l m:List Lb):Bool:=decide (l=m)
end
section
open Go.RowKit
abbrev Ac:=Int × ByteArray × ByteArray
def RdA (w:World) (A:Option Addr) (l:List Ac):Prop:=
 ∀ i x,l[i]? = some x -> ∃ g o,A=some ⟨g,o,none⟩/\w.cell? ⟨g,o+i * 3,none⟩=some (.int .i64 x.1)/\w.cell? ⟨g,o+i * 3+1,none⟩=some (.string x.2.1)/\w.cell? ⟨g,o+i * 3+2,none⟩=some (.string x.2.2)
section
variable {w w':World} {A:Option Addr} {l:List Ac}
theorem RdA.later (h:RdA w A l) (hb:Below w.heap.size w w'):RdA w' A l:=fun i b hb'=>by
 obtain ⟨g,o,ha,h1,h2,h3⟩:=h i b hb'
 exact ⟨g,o,ha,(hb.cell (World.block_lt_of_cell? w _ h1)).trans h1,(hb.cell (World.block_lt_of_cell? w _ h2)).trans h2,(hb.cell (World.block_lt_of_cell? w _ h3)).trans h3⟩
theorem RdA.at (h:RdA w A l) {i:Nat} (hi:i<l.length):∃ g o,A=some ⟨g,o,none⟩/\g<w.heap.size/\w.cell? ⟨g,o+i * 3,none⟩=some (.int .i64 l[i].1)/\w.cell? ⟨g,o+i * 3+1,none⟩=some (.string l[i].2.1)/\w.cell? ⟨g,o+i * 3+2,none⟩=some (.string l[i].2.2):=by
 obtain ⟨g,o,ha,h1,h2,h3⟩:=h i l[i] (List.getElem?_eq_getElem hi)
 exact ⟨g,o,ha,World.block_lt_of_cell? w _ h1,h1,h2,h3⟩
end
end
section
open Go.RowKit
section
variable {P:Program}
def keyB (e:MapEntry) (s:ByteArray):Bool:=match e.key with | .string a=>decide (a=s) | _=>false
theorem keyB_iff {e:MapEntry} {s:ByteArray}:keyB e s=true ↔ e.key = .string s:=by
 unfold keyB
 split
 ·rename_i a ha
  rw [ha,decide_eq_true_eq]
  exact ⟨fun h=>by rw [h],fun h=>by injection h⟩
 ·rename_i h
  constructor
  ·intro h';cases h'
  ·intro h';exact absurd h' (h s)
theorem keyB_no {e:MapEntry} {s:ByteArray} (h:¬ e.key = .string s):keyB e s=false:=Bool.eq_false_iff.2 fun h'=>h (keyB_iff.1 h')
def hitS (s:ByteArray):List MapEntry->Nat->Option (Nat × Value)
 | [],_=>none
 | e :: es,i=>if keyB e s then some (i,e.val) else hitS s es (i+1)
def StrK (es:List MapEntry):Prop:=∀ e ∈ es,∃ s,e.key = .string s
theorem ba_eq {a b:ByteArray}:(a == b)=decide (a=b):=by
 rw [Bool.eq_iff_iff,decide_eq_true_eq];exact MapKept.bytes_beq a b
theorem findNow_hit (s:ByteArray):∀ (es:List MapEntry) (i:Nat),StrK es->Instr.findNow .string (.string s) es i=some (hitS s es i)
 | [],_,_=>rfl
 | e :: es,i,h=>by
  obtain ⟨a,ha⟩:=h e (by simp)
  unfold Instr.findNow hitS
  rw [ha]
  simp only [Instr.sameNow,ba_eq]
  by_cases hs:s=a
  ·rw [decide_eq_true hs,keyB_iff.2 (by rw [ha,hs])];rfl
  ·rw [decide_eq_false hs,keyB_no (by rw [ha];intro e;injection e with e;exact hs e.symm)]
   exact findNow_hit s es (i+1) (fun x hx=>h x (by simp [hx]))
theorem run_findKey {k:TypeId} (hk:P.underlying k=some .string) (w:World) (s:ByteArray) (es:List MapEntry) (h:StrK es):(Instr.findKey k (.string s) es).run P w = .ok (hitS s es 0) w:=by
 unfold Instr.findKey
 simp [run_underlying hk,findNow_hit s es 0 h]
theorem run_checkKey {k:TypeId} (hk:P.underlying k=some .string) (w:World) (em:Bool) (s:ByteArray):(Instr.checkKey em 10000 k (.string s)).run P w = .ok () w:=by
 unfold Instr.checkKey
 simp [run_underlying hk]
def valS (z:Value) (es:List MapEntry) (s:ByteArray):Value:=((hitS s es 0).map (·.2)).getD z
theorem hitS_cons (s:ByteArray) (x:MapEntry) (es:List MapEntry) (i:Nat):hitS s (x :: es) i=if keyB x s then some (i,x.val) else hitS s es (i+1):=rfl
theorem hitS_none {s:ByteArray}:∀ {es:List MapEntry} {i:Nat},hitS s es i=none -> ∀ e ∈ es,¬ e.key = .string s
 | [],_,_,e,he=>by cases he
 | x :: es,i,h,e,he=>by
  rw [hitS_cons] at h
  by_cases hx:keyB x s=true
  ·rw [if_pos hx] at h;cases h
  ·rw [if_neg hx] at h
   rcases List.mem_cons.1 he with rfl | he
   ·exact fun h'=>hx (keyB_iff.2 h')
   ·exact hitS_none h e he
theorem hitS_some {s:ByteArray}:∀ {es:List MapEntry} {i j:Nat} {v:Value},hitS s es i=some (j,v) -> ∃ m e,j=i+m/\es[m]? = some e/\e.key = .string s/\e.val=v
 | [],_,_,_,h=>by cases h
 | x :: es,i,j,v,h=>by
  rw [hitS_cons] at h
  by_cases hx:keyB x s=true
  ·rw [if_pos hx] at h
   injection h with h;injection h with h1 h2
   exact ⟨0,x,by omega,rfl,keyB_iff.1 hx,h2⟩
  ·rw [if_neg hx] at h
   obtain ⟨m,e,h1,h2,h3,h4⟩:=hitS_some h
   exact ⟨m+1,e,by omega,by simpa using h2,h3,h4⟩
theorem hitS_val (s:ByteArray):∀ (es:List MapEntry) (i j:Nat),(hitS s es i).map (·.2)=(hitS s es j).map (·.2)
 | [],_,_=>rfl
 | x :: es,i,j=>by
  rw [hitS_cons,hitS_cons]
  split
  ·rfl
  ·exact hitS_val s es (i+1) (j+1)
theorem valS_cons (z:Value) (x:MapEntry) (es:List MapEntry) (s:ByteArray):valS z (x :: es) s=if keyB x s then x.val else valS z es s:=by
 unfold valS
 rw [hitS_cons]
 split
 ·rfl
 ·rw [hitS_val s es (0+1) 0]
theorem valS_push (z:Value) (s:ByteArray) (v:Value) (born:Nat) (s':ByteArray):∀ (es:List MapEntry),(∀ e ∈ es,¬ e.key = .string s)->valS z (es ++ [⟨.string s,v,born⟩]) s' = if s' = s then v else valS z es s'
 | [],_=>by
  rw [List.nil_append,valS_cons]
  by_cases h:s' = s
  ·rw [if_pos (keyB_iff.2 (by rw [h])),if_pos h]
  ·rw [keyB_no (fun e=>h (by injection e with e;exact e.symm)),if_neg h];rfl
 | x :: es,h=>by
  rw [List.cons_append,valS_cons,valS_cons,valS_push z s v born s' es (fun e he=>h e (by simp [he]))]
  by_cases hs:s' = s
  ·subst hs
   rw [keyB_no (h x (by simp))];simp
  ·rw [if_neg hs,if_neg hs]
theorem valS_modify (z:Value) (s:ByteArray) (v:Value) (s':ByteArray):∀ (es:List MapEntry) (i j:Nat) (u:Value),hitS s es i=some (i+j,u)->valS z (es.modify j fun e=>{ e with key:=.string s,val:=v }) s' = if s' = s then v else valS z es s'
 | [],_,_,_,h=>by cases h
 | x :: es,i,0,u,h=>by
  have hx:x.key = .string s:=by
   rw [hitS_cons] at h
   by_cases hk:keyB x s=true
   ·exact keyB_iff.1 hk
   ·rw [if_neg hk] at h
    obtain ⟨m,_,h1,_⟩:=hitS_some h
    omega
  rw [List.modify_zero_cons,valS_cons,valS_cons]
  by_cases hs:s' = s
  ·rw [if_pos (keyB_iff.2 (by rw [hs])),if_pos hs]
  ·rw [keyB_no (fun e=>hs (by injection e with e;exact e.symm)),if_neg hs,keyB_no (fun e=>hs (by rw [hx] at e;injection e with e;exact e.symm))]
   rfl
 | x :: es,i,j+1,u,h=>by
  have hx:¬ keyB x s=true:=by
   intro hx
   rw [hitS_cons,if_pos hx] at h
   injection h with h;injection h with h1 h2
   omega
  have h':hitS s es (i+1)=some ((i+1)+j,u):=by
   rw [hitS_cons,if_neg hx] at h
   rw [h,show i+(j+1)=i+1+j by omega]
  rw [List.modify_succ_cons,valS_cons,valS_cons,valS_modify z s v s' es (i+1) j u h']
  by_cases hs:s' = s
  ·subst hs
   rw [if_neg hx];simp
  ·rw [if_neg hs,if_neg hs]
def MapF (w:World) (b:Nat) (z:Value) (f:ByteArray->Value):Prop:=∃ es clock,w.heap[b]? = some (.map es clock)/\StrK es.toList /\ ∀ s,valS z es.toList s=f s
section
variable {w w':World} {b:Nat} {z:Value} {f:ByteArray->Value} {row:Option Nat}
theorem MapF.lt (h:MapF w b z f):b<w.heap.size:=by
 obtain ⟨es,clock,hb,_⟩:=h
 exact (Array.getElem?_eq_some_iff.1 hb).1
theorem MapF.kept (h:MapF w b z f) (hg:w.grownBy w' row) (hne:some b ≠ row):MapF w' b z f:=by
 have hlt:=h.lt
 obtain ⟨es,clock,hb,h1,h2⟩:=h
 exact ⟨es,clock,(hg.block b hlt hne).trans hb,h1,h2⟩
theorem MapF.later (h:MapF w b z f) (hg:Below w.heap.size w w'):MapF w' b z f:=by
 have hlt:=h.lt
 obtain ⟨es,clock,hb,h1,h2⟩:=h
 exact ⟨es,clock,(hg.block b hlt).trans hb,h1,h2⟩
theorem MapF.made (w:World) (z:Value):MapF (w.alloc (.map #[] 0)) w.heap.size z fun _=>z:=
 ⟨#[],0,(MapKept.heap_alloc w _).1,by intro e he;simp at he,fun s=>rfl⟩
theorem MapF.look (h:MapF w b z f) {t k e:TypeId} (ht:P.underlying t=some (.map k e)) (hk:P.underlying k=some .string) (hz:(zeroValue e).run P w = .ok z w) (s:ByteArray):(Instr.lookup t (.map (some b)) (.string s) false).run P w = .ok (f s) w:=by
 obtain ⟨es,clock,hb,h1,h2⟩:=h
 have h3:=h2 s
 unfold valS at h3
 cases hh:hitS s es.toList 0 with
 | none=>
  rw [hh] at h3
  simp only [Option.map_none,Option.getD_none] at h3
  simp [Instr.lookup,run_underlying ht,MapKept.run_getObj_map hb,run_checkKey hk,run_findKey hk w s es.toList h1,hh,hz,Result.andThen,h3]
 | some x=>
  rw [hh] at h3
  simp only [Option.map_some,Option.getD_some] at h3
  simp [Instr.lookup,run_underlying ht,MapKept.run_getObj_map hb,run_checkKey hk,run_findKey hk w s es.toList h1,hh,Result.andThen,h3]
theorem MapF.store (h:MapF w b z f) {t k e:TypeId} (ht:P.underlying t=some (.map k e)) (hk:P.underlying k=some .string) (s:ByteArray) (v:Value):∃ w',(Instr.mapUpdate t (.map (some b)) (.string s) v).run P w = .ok () w' /\ MapF w' b z (fun s'=>if s' = s then v else f s')/\w.grownBy w' (some b):=by
 obtain ⟨es,clock,hb,h1,h2⟩:=h
 have hgr:∀ o,w.grownBy (ChangeMaps.setBlock w b o) (some b):=fun o=>⟨rfl,rfl,rfl,by simp [ChangeMaps.setBlock],fun i _ hi=>ChangeMaps.heap_setBlock_other hb _ (fun e=>hi (by rw [e]))⟩
 cases hh:hitS s es.toList 0 with
 | none=>
  refine ⟨ChangeMaps.setBlock w b (.map (es.push ⟨.string s,v,clock⟩) (clock+1)),?_,⟨es.push ⟨.string s,v,clock⟩,clock+1,ChangeMaps.heap_setBlock_same hb _,?_,fun s'=>?_⟩,hgr _⟩
  ·simp [Instr.mapUpdate,run_underlying ht,MapKept.run_getObj_map hb,run_checkKey hk,run_findKey hk w s es.toList h1,hh,MapKept.run_setObj_map _ hb,Result.andThen,ChangeMaps.setBlock]
  ·intro e he
   rw [Array.toList_push,List.mem_append] at he
   rcases he with he | he
   ·exact h1 e he
   ·simp at he;subst he;exact ⟨s,rfl⟩
  ·rw [Array.toList_push,valS_push z s v clock s' _ (hitS_none hh),h2]
 | some x=>
  obtain ⟨j,u⟩:=x
  obtain ⟨m,e,hj,he,hek,hev⟩:=hitS_some hh
  rw [Nat.zero_add] at hj
  subst hj
  have hkeep:(Instr.keyThatStays (((es[j]?).map (·.key)).getD (.string s)) (.string s)).run P w = .ok (.string s) w:=by
   rw [show es[j]? = some e by rw [<- Array.getElem?_toList];exact he]
   simp only [Option.map_some,Option.getD_some,hek]
   unfold Instr.keyThatStays
   rw [if_pos (by unfold Instr.sameBits;simp [ba_eq])]
   rfl
  refine ⟨ChangeMaps.setBlock w b (.map (es.modify j fun e=>{ e with key:=.string s,val:=v }) clock),?_,⟨_,clock,ChangeMaps.heap_setBlock_same hb _,?_,fun s'=>?_⟩,hgr _⟩
  ·simp [Instr.mapUpdate,run_underlying ht,MapKept.run_getObj_map hb,run_checkKey hk,run_findKey hk w s es.toList h1,hh,hkeep,MapKept.run_setObj_map _ hb,Result.andThen,ChangeMaps.setBlock]
  ·intro x hx
   rw [Array.toList_modify] at hx
   obtain ⟨i,hi,rfl⟩:=List.getElem_of_mem hx
   rw [List.getElem_modify]
   split
   ·exact ⟨s,rfl⟩
   ·exact h1 _ (List.getElem_mem _)
  ·rw [Array.toList_modify,valS_modify z s v s' es.toList 0 j u (by rw [Nat.zero_add];exact hh),h2]
theorem look_f {ops:Array Oper} {rest:List Oper} (w:World) {o:Oper} {a:Act} {Q:Exit->Act->World->Prop} (hw:Region.wanted o (yielded ops a.tmps)=true)
  (m x:Operand) (t:TypeId) (hop:o.op=Op.lookup t m x false) (k e:TypeId) (ht:P.underlying t=some (.map k e)) (hk:P.underlying k=some .string) (z:Value) (hz:(zeroValue e).run P w = .ok z w)
  (b:Nat) (f:ByteArray->Value) (hm:a.eval m = .map (some b)) (h:MapF w b z f) (s:ByteArray) (hx:a.eval x = .string s)
  (hK:wpList P ops Q rest (a.put o.dst (f s)) w):wpList P ops Q (o :: rest) a w:=
 BigFrame.wpList_want hw fun K hKK=>by
  have hrun:=h.look ht hk hz s
  unfold Oper.wp
  simp [execOp,hop,hm,hx,hrun,Result.andThen]
  exact hKK _ _ hK
theorem store_f {ops:Array Oper} {rest:List Oper} (w:World) {o:Oper} {a:Act} {Q:Exit->Act->World->Prop} (hw:Region.wanted o (yielded ops a.tmps)=true)
  (m x v:Operand) (t:TypeId) (hop:o.op=Op.mapUpdate t m x v) (k e:TypeId) (ht:P.underlying t=some (.map k e)) (hk:P.underlying k=some .string)
  (b:Nat) (z:Value) (f:ByteArray->Value) (hm:a.eval m = .map (some b)) (h:MapF w b z f) (s:ByteArray) (hx:a.eval x = .string s) (val:Value) (hv:a.eval v=val)
  (hK:∀ w',MapF w' b z (fun s'=>if s' = s then val else f s')->w.grownBy w' (some b)->wpList P ops Q rest (a.put o.dst undef) w'):wpList P ops Q (o :: rest) a w:=
 BigFrame.wpList_want hw fun K hKK=>by
  obtain ⟨w',hrun,r1,r2⟩:=h.store ht hk s val
  unfold Oper.wp
  simp [execOp,hop,hm,hx,hv,hrun,Result.andThen]
  exact hKK _ _ (hK w' r1 r2)
end
theorem look_v {ops:Array Oper} {rest:List Oper} (w:World) {o:Oper} {a:Act} {Q:Exit->Act->World->Prop} (hw:Region.wanted o (yielded ops a.tmps)=true)
  (m x:Operand) (t:TypeId) (hop:o.op=Op.lookup t m x false) (k e:TypeId) (ht:P.underlying t=some (.map k e)) (hk:P.underlying k=some .string) (z:Value) (hz:(zeroValue e).run P w = .ok z w)
  (b:Nat) (f:ByteArray->Value) (hm:a.eval m = .map (some b)) (h:MapF w b z f) (s:ByteArray) (hx:a.eval x = .string s) (v:Value) (hv:f s=v)
  (hK:wpList P ops Q rest (a.put o.dst v) w):wpList P ops Q (o :: rest) a w:=look_f w hw m x t hop k e ht hk z hz b f hm h s hx (by rw [hv];exact hK)
theorem append_ka {ops:Array Oper} {rest:List Oper} (w:World) {o:Oper} {a:Act} {Q:Exit->Act->World->Prop} (hw:Region.wanted o (yielded ops a.tmps)=true)
  (s x:Operand) (t:TypeId) (hop:o.op=Op.call { callee:=Callee.builtin Builtin.append,args:=#[s,x],argTypes:=#[t,t] })
  (base:Nat) (e:TypeId) (z:Value) (k b:Nat) (h1:P.underlying t=some (.slice e)) (h2:(P.info? e).map (fun i=>(i.zero,i.size,i.bytes))=some (some z,k,b)) (hz:z.cells.size=k) (hk:0<k)
  (v:Value) (l:List (List Value)) (hs:a.eval s=v) (hown:OwnK w base e k v l) (ad:Addr) (c m:Nat) (news:List (List Value))
  (hx:a.eval x = .slice (some ad) m c) (hr:RdK w k (some ad) news) (hn:∀ y ∈ news,y.length=k) (hone:∀ y ∈ news,∀ u ∈ y,u.oneCell' = true) (hm:m=news.length)
  (b0:l.length+news.length<=maxLen) (b1:(l.length+news.length) * b<=140737488355328) (hbase:base<=w.heap.size)
  (hK:∀ v' w',OwnK w' base e k v' (l ++ news)->w.grownBy w' v.ownBlock->(v'.ownBlock=v.ownBlock ∨ v'.ownBlock=some w.heap.size)->wpList P ops Q rest (a.put o.dst v') w'):wpList P ops Q (o :: rest) a w:=
 BigFrame.wpList_want hw fun K hKK=>by
  subst hm
  obtain ⟨i,hi,hiz,his,hib⟩:=info_partsK h2
  obtain ⟨v',w',hrun,r1,r2,r3,r4⟩:=run_append_own_at (P:=P) w base t o.type e i z k b h1 hi hiz his hib hz hk v l.length l.flatten hown.2 ad news.length c news.flatten (flat_length hn) (hr.cells hn)
   (fun u hu=>by obtain ⟨y,hy,hu'⟩:=List.mem_flatten.1 hu;exact hone y hy u hu') b0 b1 hbase
  unfold Oper.wp
  simp [execOp,hop,resolve,invoke,builtin,hs,hx,hrun,Result.andThen]
  exact hKK _ _ (hK v' w' ⟨fun y hy=>(List.mem_append.1 hy).elim (hown.1 y) (hn y),by rw [List.length_append,List.flatten_append];exact r1⟩ r2 r4)
theorem store1_bk {ops:Array Oper} {rest:List Oper} {o:Oper} {a:Act} {w:World} {Q:Exit->Act->World->Prop} (hw:Region.wanted o (yielded ops a.tmps)=true) (ty:TypeId) (x y:Operand) (ho:o.op = .store ty x y)
  (g off:Nat) (u:Value) (hx:a.eval x = .pointer (some ⟨g,off,none⟩)) (hy:a.eval y=u) (t:TypeId) (cs cs':Array Value) (hg:Bk w g t cs)
  (hi:(P.info? ty).map (·.size)=some 1) (hl:off<cs.size) (h1:u.oneCell' = true) (hu:u.cells = #[u]) (hc:cs' = cs.setIfInBounds off u)
  (h:∀ w',Bk w' g t cs' -> w.grownBy w' (some g)->w'.heap.size=w.heap.size->wpList P ops Q rest (a.put o.dst undef) w'):wpList P ops Q (o :: rest) a w:=
 BigFrame.wpList_want hw fun K hKK=>by
  have hst:=run_storeCells_at P g off t [u] 0 cs w hg (by simp;omega) (fun v hv=>by simp at hv;subst hv;exact h1)
  have hpp:putPart cs off #[u]=cs.setIfInBounds off u:=by
   unfold putPart
   apply Array.ext'
   apply List.ext_getElem?
   intro i
   simp only [List.size_toArray,List.length_cons,List.length_nil,Array.toList_setIfInBounds,List.getElem?_set]
   by_cases h1:i<off
   ·rw [List.append_assoc,List.getElem?_append_left (by simp;omega),List.getElem?_take_of_lt h1,if_neg (by omega)]
   ·by_cases h2:i=off
    ·subst h2
     rw [List.append_assoc,List.getElem?_append_right (by simp;omega)]
     simp [hl,show min i cs.size=i by omega]
    ·rw [List.append_assoc,List.getElem?_append_right (by simp;omega),List.getElem?_append_right (by simp;omega),List.getElem?_drop,if_neg (fun e=>h2 e.symm)]
     congr 1
     simp
     omega
  have hsv:(storeVar ty ⟨g,off,none⟩ u).run P w = .ok () (w.setRow g (putPart cs off #[u])):=by
   cases hq:P.info? ty with
   | none=>simp [hq] at hi
   | some i=>
    have hs:i.size=1:=by simpa [hq] using hi
    simp only [Nat.add_zero] at hst
    simp [storeVar,sizeOf,typeInfo,hq,hu,hs]
    rw [hst];simp [putPart]
  unfold Oper.wp execOp
  simp only [ho,hx,hy,Instr.storeAt,Instr.sureAddr,Sem.run_bind,Sem.run_pure,Result.andThen_ok,hsv]
  refine hKK _ _ (h _ ?_ ⟨rfl,rfl,rfl,by simp,fun i hi hne=>?_⟩ (by simp))
  ·rw [hc,<- hpp];exact setRow_heap w g cs _ t _ hg
  ·exact setRow_other w g i _ (fun e=>hne (by rw [e]))
end
theorem OwnK.notBk {w:World} {b k g:Nat} {e t:TypeId} {v:Value} {l:List (List Value)} {cs:Array Value} (h:OwnK w b e k v l) (hB:Bk w g t cs) (hne:e ≠ t):v.ownBlock=none ∨ v.ownBlock ≠ some g:=by
 rcases h.2.2 with ⟨rfl,_⟩ | ⟨g',cap,cur,rfl,_,hg,_⟩
 ·exact .inl rfl
 ·refine .inr fun he=>?_
  injection he with he
  subst he
  have:=hg.symm.trans hB
  injection this with this
  injection this with _ this
  exact hne this
theorem OwnK.notMap {w:World} {b k g:Nat} {e:TypeId} {v z:Value} {l:List (List Value)} {f:ByteArray->Value} (h:OwnK w b e k v l) (hB:MapF w g z f):v.ownBlock=none ∨ v.ownBlock ≠ some g:=by
 rcases h.2.2 with ⟨rfl,_⟩ | ⟨g',cap,cur,rfl,_,hg,_⟩
 ·exact .inl rfl
 ·refine .inr fun he=>?_
  injection he with he
  subst he
  obtain ⟨es,clock,hb,_⟩:=hB
  have:=hg.symm.trans hb
  injection this with this
  cases this
theorem OwnK.cellsV {w:World} {b k:Nat} {e:TypeId} {v:Value} {l:List (List Value)} (h:OwnK w b e k v l):v.cells = #[v]:=by
 obtain ⟨A,c,hv,_⟩:=h.sl
 rw [hv];rfl
theorem OwnK.lt {w:World} {b k g:Nat} {e:TypeId} {v:Value} {l:List (List Value)} (h:OwnK w b e k v l) (hg:v.ownBlock=some g):g<w.heap.size:=(World.ownsRow.lt h.2 g hg).2
theorem OwnK.one1 {w:World} {b k:Nat} {e:TypeId} {v:Value} {l:List (List Value)} (h:OwnK w b e k v l):v.oneCell' = true:=by
 obtain ⟨A,c,hv,_⟩:=h.sl
 rw [hv];rfl
end
end Go.Proofs.YtccccbofcnmdiaaGreat
