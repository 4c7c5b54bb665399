/- Lemmas that the law stands on. No condition. -/
import Derived.Test.YtlodjgcnffmniaaGreatM00
namespace Go.Proofs.YtlodjgcnffmniaaGreat
set_option linter.unusedSimpArgs false
set_option linter.unusedVariables false
set_option maxRecDepth 100000
set_option maxHeartbeats 51200000
section
open Go.ChangeShapes Go.WideShapes Go.RowKit Go.Deep
theorem cellsInt:Tryz.prog.cellsOf 3=1:=by kernel_rfl
theorem cellsRes:Tryz.prog.cellsOf 40=3:=by kernel_rfl
theorem cellsLabs:Tryz.prog.cellsOf 41=1:=by kernel_rfl
theorem cellsNode:Tryz.prog.cellsOf 43=5:=by kernel_rfl
theorem cellsQueue:Tryz.prog.cellsOf 45=4:=by kernel_rfl
theorem cellsTask:Tryz.prog.cellsOf 47=10:=by kernel_rfl
theorem list5 {α:Type} (l:List α) (h:l.length=5):∃ a b c d e,l=[a,b,c,d,e]:=by
 match l,h with
 | [a,b,c,d,e],_=>exact ⟨a,b,c,d,e,rfl⟩
theorem list3' {α:Type} (l:List α) (h:l.length=3):∃ a b c,l=[a,b,c]:=by
 match l,h with
 | [a,b,c],_=>exact ⟨a,b,c,rfl⟩
theorem list8 {α:Type} (l:List α) (h:l.length=8):∃ a b c d e f g i,l=[a,b,c,d,e,f,g,i]:=by
 match l,h with
 | [a,b,c,d,e,f,g,i],_=>exact ⟨a,b,c,d,e,f,g,i,rfl⟩
section
variable {H:Type} {enc:TypeId × Value->H} {W:World} {base:Nat} {sp:Nat->Bool} {held:Bool}
structure LabsIn (W:World) (d:DataW H) (A:Option Addr) (n c:Nat) (l:List Lb):Prop where
 len:n=l.length
 rd:RdL W A l
 cap:n<=c
 cap2:c<=9223372036854775807
 dat:∀ x ∈ l,∃ elems spare,d = .slice elems spare/\datL x ∈ elems
theorem open_field_labs {fuel:Nat} {c:Value} {y:DataW H × List MemPlace} (h:DataW.trod enc Tryz.prog W base sp held fuel 41 [c]=some y) :
  ∃ A n cp l,c = .slice A n cp/\LabsIn W y.1 A n cp l:=by
 have key:∀ A n cp,c = .slice A n cp -> ∃ A n cp l,c = .slice A n cp/\LabsIn W y.1 A n cp l:=fun A n cp hc=>by
  subst hc
  obtain ⟨l,h1,h2,h3,h4,h5⟩:=open_labs (enc:=enc) (base:=base) (sp:=sp) (held:=held) (p:=y.2) (d:=y.1) ⟨fuel,by simpa [Value.cells] using h⟩
  exact ⟨A,n,cp,l,rfl,h1,h2,h3,h4,h5⟩
 rcases open_slice Tryz.underlying41 h with ⟨hcs,_⟩ | ⟨a,len,cap,_,_,_,_,hcs,_⟩
 ·simp at hcs;exact key _ _ _ hcs
 ·simp at hcs;exact key _ _ _ hcs
theorem open_field_res {fuel:Nat} {c0 c1 c2:Value} {y:DataW H × List MemPlace} (h:DataW.trod enc Tryz.prog W base sp held fuel 40 [c0,c1,c2]=some y) :
  ∃ a b c:Int,c0 = .int .i64 a/\c1 = .int .i64 b/\c2 = .int .i64 c:=by
 obtain ⟨y0,y1,y2,m,_,hy0,hy1,hy2⟩:=trod_array3 Tryz.underlying40 cellsInt h
 obtain ⟨x0,e0,_,_⟩:=DataW.trod_int Tryz.underlying3 hy0
 obtain ⟨x1,e1,_,_⟩:=DataW.trod_int Tryz.underlying3 hy1
 obtain ⟨x2,e2,_,_⟩:=DataW.trod_int Tryz.underlying3 hy2
 simp at e0 e1 e2
 exact ⟨x0,x1,x2,e0,e1,e2⟩
theorem open_field_string {fuel:Nat} {c:Value} {y:DataW H × List MemPlace} (h:DataW.trod enc Tryz.prog W base sp held fuel 9 [c]=some y) :
  ∃ s:ByteArray,c = .string s/\y.1 = .lit (.string s.data.toList):=by
 obtain ⟨s,e,r,_⟩:=DataW.trod_string Tryz.underlying9 h
 simp at e
 exact ⟨s,e,by rw [r]⟩
theorem open_field_int {fuel:Nat} {c:Value} {y:DataW H × List MemPlace} (h:DataW.trod enc Tryz.prog W base sp held fuel 3 [c]=some y):∃ a:Int,c = .int .i64 a:=by
 obtain ⟨x,e,_,_⟩:=DataW.trod_int Tryz.underlying3 h
 simp at e
 exact ⟨x,e⟩
theorem sized_inner {ts:List TypeId} {ds:List (DataW H)} (h:(DataW.weightsEach Tryz.prog ts ds).all (· <= reachBytes)=true) {j:Nat} {t:TypeId} {fs:Array Field} {parts:List (DataW H)} (hu:Tryz.prog.underlying t=some (.struct fs))
  (ht:ts[j]? = some t) (hd:ds[j]? = some (.agg parts)):(DataW.weightsEach Tryz.prog (fs.toList.map (·.type)) parts).all (· <= reachBytes)=true:=by
 rw [List.all_eq_true]
 intro n hn
 refine List.all_eq_true.1 h n (DataW.weights_mem_each ht hd n ?_)
 simp only [DataW.weights,hu]
 exact hn
theorem sized_str {ts:List TypeId} {ds:List (DataW H)} (h:(DataW.weightsEach Tryz.prog ts ds).all (· <= reachBytes)=true) {j:Nat} {t:TypeId} {s:ByteArray} (ht:ts[j]? = some t) (hd:ds[j]? = some (.lit (.string s.data.toList))):s.size<=140737488351232:=by
 have:=sized_string h ht hd
 have e:s.data.toList.length=s.size:=by simp
 simp only [reachBytes] at this
 omega
theorem sized_node {ts:List TypeId} {ds:List (DataW H)} (h:(DataW.weightsEach Tryz.prog ts ds).all (· <= reachBytes)=true) {j:Nat} {nm:ByteArray} {da dl:DataW H} (ht:ts[j]? = some 43) (hd:ds[j]? = some (.agg [.lit (.string nm.data.toList),da,dl])) {W:World} {A:Option Addr} {n c:Nat} {l:List Lb} (hl:LabsIn W dl A n c l) :
  nm.size<=140737488351232/\Sz l:=by
 have hi:=sized_inner h Tryz.underlying43 ht hd
 refine ⟨sized_str hi (j:=0) rfl rfl,fun x hx=>?_⟩
 obtain ⟨el,sp,rfl,hm⟩:=hl.dat x hx
 exact sized_labs hi (j:=2) rfl rfl hm
theorem sized_queue {ts:List TypeId} {ds:List (DataW H)} (h:(DataW.weightsEach Tryz.prog ts ds).all (· <= reachBytes)=true) {j:Nat} {nm:ByteArray} {da:DataW H} (ht:ts[j]? = some 45) (hd:ds[j]? = some (.agg [.lit (.string nm.data.toList),da])) :
  nm.size<=140737488351232:=sized_str (sized_inner h Tryz.underlying45 ht hd) (j:=0) rfl rfl
theorem sized_task {ts:List TypeId} {ds:List (DataW H)} (h:(DataW.weightsEach Tryz.prog ts ds).all (· <= reachBytes)=true) {j:Nat} {nm qu ap ga:ByteArray} {d2 d3 d4 d7:DataW H} (ht:ts[j]? = some 47)
  (hd:ds[j]? = some (.agg [.lit (.string nm.data.toList),.lit (.string qu.data.toList),d2,d3,d4,.lit (.string ap.data.toList),.lit (.string ga.data.toList),d7])) {W:World} {A:Option Addr} {n c:Nat} {l:List Lb} (hl:LabsIn W d4 A n c l) :
  nm.size<=140737488351232/\qu.size<=140737488351232/\ap.size<=140737488351232/\ga.size<=140737488351232/\Sz l:=by
 have hi:=sized_inner h Tryz.underlying47 ht hd
 refine ⟨sized_str hi (j:=0) rfl rfl,sized_str hi (j:=1) rfl rfl,sized_str hi (j:=5) rfl rfl,sized_str hi (j:=6) rfl rfl,fun x hx=>?_⟩
 obtain ⟨el,sp,rfl,hm⟩:=hl.dat x hx
 exact sized_labs hi (j:=4) rfl rfl hm
end
end
section
open Go.ChangeShapes Go.WideShapes Go.RowKit Go.Deep
structure Jb where
 nm:ByteArray
 qu:ByteArray
 pr:Int
 a:Int
 b:Int
 c:Int
 A:Option Addr
 n:Nat
 cp:Nat
 ap:ByteArray
 ga:ByteArray
 sz:Int
 sq:Int
 nd:ByteArray
 bo:Int
abbrev Jb.task (j:Jb):Array Value:=#[.string j.nm,.string j.qu,.int .i64 j.pr,.int .i64 j.a,.int .i64 j.b,.int .i64 j.c,.slice j.A j.n j.cp,.string j.ap,.string j.ga,.int .i64 j.sz]
abbrev Jb.arr (j:Jb):Array Value:=#[.string j.nm,.string j.qu,.int .i64 j.pr,.int .i64 j.a,.int .i64 j.b,.int .i64 j.c,.slice j.A j.n j.cp,.string j.ap,.string j.ga,.int .i64 j.sz,.int .i64 j.sq,.string j.nd,.int .i64 j.bo]
def Jb.cells (j:Jb):List Value:=j.arr.toList
theorem Jb.cells_length (j:Jb):j.cells.length=13:=rfl
theorem Jb.cells_one (j:Jb):∀ u ∈ j.cells,u.oneCell' = true:=by
 intro u hu
 simp only [Jb.cells,Jb.arr,List.mem_cons,List.not_mem_nil,or_false] at hu
 rcases hu with rfl | rfl | rfl | rfl | rfl | rfl | rfl | rfl | rfl | rfl | rfl | rfl | rfl <;> rfl
def cellsJ (l:List Jb):List (List Value):=l.map Jb.cells
theorem cellsJ_length (l:List Jb):(cellsJ l).length=l.length:=by simp [cellsJ]
theorem cellsJ_append (l m:List Jb):cellsJ (l ++ m)=cellsJ l ++ cellsJ m:=by simp [cellsJ]
theorem cellsJ_k (l:List Jb):∀ x ∈ cellsJ l,x.length=13:=by
 intro x hx
 simp only [cellsJ,List.mem_map] at hx
 obtain ⟨j,_,rfl⟩:=hx
 rfl
theorem cellsJ_one (l:List Jb):∀ y ∈ cellsJ l,∀ u ∈ y,u.oneCell' = true:=by
 intro x hx
 simp only [cellsJ,List.mem_map] at hx
 obtain ⟨j,_,rfl⟩:=hx
 exact j.cells_one
def RdJ (w:World) (A:Option Addr) (l:List Jb):Prop:=RdK w 13 A (cellsJ l)
structure JAt (w:World) (g o:Nat) (j:Jb):Prop where
 rg:w.rangeAt g o j.arr.toList
section
variable {w w':World} {g o:Nat} {j:Jb}
theorem JAt.later (h:JAt w g o j) (hb:Below w.heap.size w w'):JAt w' g o j:=⟨range_keep h.rg hb⟩
theorem JAt.pr (h:JAt w g o j):w.cell? ⟨g,o+2,none⟩=some (.int .i64 j.pr):=h.rg 2 _ rfl
end
section
variable {w w':World} {A:Option Addr} {l:List Jb}
theorem RdJ.nil (w:World) (A:Option Addr):RdJ w A []:=RdK.nil _ _ _
theorem RdJ.later (h:RdJ w A l) (hb:Below w.heap.size w w'):RdJ w' A l:=RdK.later h hb
theorem RdJ.at (h:RdJ w A l) {i:Nat} (hi:i<l.length):∃ g o,A=some ⟨g,o,none⟩/\g<w.heap.size/\JAt w g (o+i * 13) l[i]:=by
 obtain ⟨g,o,ha,hr⟩:=RdK.at h (i:=i) (by rw [cellsJ_length];exact hi)
 have hr':w.rangeAt g (o+i * 13) l[i].arr.toList:=by have h2:=hr;simp only [cellsJ,List.getElem_map] at h2;exact h2
 exact ⟨g,o,ha,range_lt hr' (by show 0<13;omega),⟨hr'⟩⟩
end
section
variable {H:Type} {enc:TypeId × Value->H} {W:World} {base:Nat} {sp:Nat->Bool} {held:Bool}
end
end
section
open Go.RowKit
abbrev Jb.need (j:Jb):Int × Int × Int:=(j.a,j.b,j.c)
theorem infoJ:(Tryz.prog.info? 66).map (fun i=>(i.zero,i.size,i.bytes))=some (some (.agg #[.string ⟨#[]⟩,.string ⟨#[]⟩,.int .i64 0,.int .i64 0,.int .i64 0,.int .i64 0,.slice none 0 0,.string ⟨#[]⟩,.string ⟨#[]⟩,.int .i64 0,.int .i64 0,.string ⟨#[]⟩,.int .i64 0]),13,160):=by kernel_rfl
theorem OwnK.rdj {w:World} {base:Nat} {e:TypeId} {v:Value} {l:List Jb} (h:OwnK w base e 13 v (cellsJ l)):∃ A c,v = .slice A l.length c/\RdJ w A l/\l.length<=c/\c<=9223372036854775807:=by
 obtain ⟨A,c,hv,hr,h1,h2,_⟩:=h.sl
 rw [cellsJ_length] at hv h1
 refine ⟨A,c,hv,hr,h1,?_⟩
 unfold maxLen at h2;omega
section
variable {o:Oper} {a:Act} {w:World} {K:Act->World->Prop} {Q:Exit->Act->World->Prop}
end
end
section
open Go.ChangeShapes Go.WideShapes Go.RowKit Go.Deep
structure Mc where
 nm:ByteArray
 a:Int
 b:Int
 c:Int
 A:Option Addr
 n:Nat
 cp:Nat
 up:Bool
 un:Int
abbrev Mc.node (m:Mc):Array Value:=#[.string m.nm,.int .i64 m.a,.int .i64 m.b,.int .i64 m.c,.slice m.A m.n m.cp]
abbrev Mc.arr (m:Mc):Array Value:=#[.string m.nm,.int .i64 m.a,.int .i64 m.b,.int .i64 m.c,.slice m.A m.n m.cp,.bool m.up,.int .i64 m.un]
def Mc.cells (m:Mc):List Value:=m.arr.toList
theorem Mc.cells_one (m:Mc):∀ u ∈ m.cells,u.oneCell' = true:=by
 intro u hu
 simp only [Mc.cells,Mc.arr,List.mem_cons,List.not_mem_nil,or_false] at hu
 rcases hu with rfl | rfl | rfl | rfl | rfl | rfl | rfl <;> rfl
def cellsM (l:List Mc):List (List Value):=l.map Mc.cells
theorem cellsM_length (l:List Mc):(cellsM l).length=l.length:=by simp [cellsM]
theorem cellsM_append (l m:List Mc):cellsM (l ++ m)=cellsM l ++ cellsM m:=by simp [cellsM]
theorem cellsM_k (l:List Mc):∀ x ∈ cellsM l,x.length=7:=by
 intro x hx
 simp only [cellsM,List.mem_map] at hx
 obtain ⟨j,_,rfl⟩:=hx
 rfl
def RdM (w:World) (A:Option Addr) (l:List Mc):Prop:=RdK w 7 A (cellsM l)
structure MAt (w:World) (g o:Nat) (m:Mc):Prop where
 rg:w.rangeAt g o m.arr.toList
section
variable {w w':World} {g o:Nat} {m:Mc}
end
section
variable {w w':World} {A:Option Addr} {l:List Mc}
theorem RdM.later (h:RdM w A l) (hb:Below w.heap.size w w'):RdM w' A l:=RdK.later h hb
theorem RdM.at (h:RdM w A l) {i:Nat} (hi:i<l.length):∃ g o,A=some ⟨g,o,none⟩/\g<w.heap.size/\MAt w g (o+i * 7) l[i]:=by
 obtain ⟨g,o,ha,hr⟩:=RdK.at h (i:=i) (by rw [cellsM_length];exact hi)
 have hr':w.rangeAt g (o+i * 7) l[i].arr.toList:=by have h2:=hr;simp only [cellsM,List.getElem_map] at h2;exact h2
 exact ⟨g,o,ha,range_lt hr' (by show 0<7;omega),⟨hr'⟩⟩
end
structure Kt where
 nm:ByteArray
 qu:ByteArray
 pr:Int
 a:Int
 b:Int
 c:Int
 A:Option Addr
 n:Nat
 cp:Nat
 ap:ByteArray
 ga:ByteArray
 sz:Int
abbrev Kt.arr (t:Kt):Array Value:=#[.string t.nm,.string t.qu,.int .i64 t.pr,.int .i64 t.a,.int .i64 t.b,.int .i64 t.c,.slice t.A t.n t.cp,.string t.ap,.string t.ga,.int .i64 t.sz]
abbrev Jb.tk (j:Jb):Kt:=⟨j.nm,j.qu,j.pr,j.a,j.b,j.c,j.A,j.n,j.cp,j.ap,j.ga,j.sz⟩
abbrev Kt.job (t:Kt) (s:ByteArray):Jb:=⟨t.nm,t.qu,t.pr,t.a,t.b,t.c,t.A,t.n,t.cp,t.ap,t.ga,t.sz,0,s,0⟩
structure LbOk (w:World) (A:Option Addr) (n cp:Nat) (l:List Lb):Prop where
 len:n=l.length
 rd:RdL w A l
 cap:n<=cp
 cap2:cp<=9223372036854775807
 sz:Sz l
theorem LbOk.later {w w':World} {A:Option Addr} {n cp:Nat} {l:List Lb} (h:LbOk w A n cp l) (hb:Below w.heap.size w w'):LbOk w' A n cp l:=⟨h.len,h.rd.later hb,h.cap,h.cap2,h.sz⟩
theorem LbOk.nil (w:World):LbOk w none 0 0 []:=⟨rfl,RdL.nil _ _,Nat.le_refl _,by omega,fun x hx=>by simp at hx⟩
structure McOk (w:World) (m:Mc) (l:List Lb):Prop where
 nm:m.nm.size<=140737488351232
 lb:LbOk w m.A m.n m.cp l
theorem McOk.later {w w':World} {m:Mc} {l:List Lb} (h:McOk w m l) (hb:Below w.heap.size w w'):McOk w' m l:=⟨h.nm,h.lb.later hb⟩
structure KtOk (w:World) (t:Kt) (l:List Lb):Prop where
 nm:t.nm.size<=140737488351232
 qu:t.qu.size<=140737488351232
 ap:t.ap.size<=140737488351232
 ga:t.ga.size<=140737488351232
 lb:LbOk w t.A t.n t.cp l
theorem KtOk.later {w w':World} {t:Kt} {l:List Lb} (h:KtOk w t l) (hb:Below w.heap.size w w'):KtOk w' t l:=⟨h.nm,h.qu,h.ap,h.ga,h.lb.later hb⟩
section
variable {H:Type} {enc:TypeId × Value->H} {W:World} {base:Nat} {sp:Nat->Bool} {held:Bool}
end
end
section
open Go.ChangeShapes Go.WideShapes Go.RowKit Go.Deep
abbrev Ml:=Mc × List Lb
abbrev mcs (L:List Ml):List Mc:=L.map Prod.fst
def MsOk (w:World) (L:List Ml):Prop:=∀ x ∈ L,McOk w x.1 x.2
theorem MsOk.later {w w':World} {L:List Ml} (h:MsOk w L) (hb:Below w.heap.size w w'):MsOk w' L:=fun x hx=>(h x hx).later hb
theorem MsOk.at {w:World} {L:List Ml} (h:MsOk w L) {i:Nat} (hi:i<L.length):McOk w L[i].1 L[i].2:=h _ (List.getElem_mem hi)
theorem mcs_at {L:List Ml} {i:Nat} (hi:i<L.length):(mcs L)[i]'(by simpa using hi)=L[i].1:=by simp [mcs]
section
variable {H:Type} {enc:TypeId × Value->H} {W:World} {base:Nat} {sp:Nat->Bool} {held:Bool}
end
end
section
open Go.RowKit
theorem ret_bool' {a b:Bool} (h:a=b):Ending.returned (.bool a) = .returned (.bool b):=by rw [h]
theorem all_takeL {l:List Lb} {p:Lb->Bool} {k:Nat} (h:k<l.length):(l.take (k+1)).all p=((l.take k).all p && p l[k]):=by
 rw [List.take_succ_eq_append_getElem h,List.all_append];simp
theorem all_take_falseL {l:List Lb} {p:Lb->Bool} {k:Nat} (h:k<l.length) (hp:p l[k]=false):l.all p=false:=by
 rw [List.all_eq_false]
 exact ⟨l[k],List.getElem_mem h,by simp [hp]⟩
theorem lE_yes {x y:Lb} (h:lE x y=true):x.1.toList=y.1.toList/\x.2.toList=y.2.toList:=by rw [lE_iff.1 h];exact ⟨rfl,rfl⟩
theorem lE_no {x y:Lb} (h:lE x y=false):(x.1.toList ≠ y.1.toList) ∨ (x.1.toList=y.1.toList/\x.2.toList ≠ y.2.toList):=by
 by_cases h1:x.1.toList=y.1.toList
 ·refine .inr ⟨h1,fun h2=>?_⟩
  unfold lE sE at h
  simp [h1,h2] at h
 ·exact .inl h1
def sameB (l m:List Lb):Bool:=decide (l=m)
theorem same_len {l m:List Lb} (h:l.length ≠ m.length):sameB l m=false:=decide_eq_false fun hc=>h (by rw [hc])
theorem same_at {l m:List Lb} {k:Nat} (h1:k<l.length) (h2:k<m.length) (h:lE l[k] m[k]=false):sameB l m=false:=decide_eq_false fun hc=>by
 subst hc
 rw [lE_iff.2 rfl] at h;cases h

theorem same_any (A B:Option Addr) (n c m d:Nat) (l r:List Lb) (w:World) (hn:Hid (n=l.length)) (hm:Hid (m=r.length)) (hr:Hid (RdL w A l)) (hq:Hid (RdL w B r)) (hc:n<=c) (hc2:c<=9223372036854775807) (hd:m<=d) (hd2:d<=9223372036854775807) :
  Calls Tryz.prog 92 #[.slice A n c,.slice B m d] w fun e w'=>e = .returned (.bool (sameB l r))/\Below w.heap.size w w':=by
 by_cases hnm:n=m
 ·obtain rfl:n=m:=hnm
  go_enter Tryz.func92,Tryz.ntmps92
  go_wp2
  go_loopw [5,13] (fun _ i wr=>∃ k:Nat,k<=n/\i = .int .i64 k/\Hid (l.take k=r.take k)/\Below w.heap.size w wr) (fun _ i wr=>n - (intOf i).toNat)
  case atStart=>exact ⟨0,Nat.zero_le _,rfl,(show l.take 0=r.take 0 by simp),Below.refl _ _⟩
  case round=>
   obtain ⟨k,hk,rfl,HA,hb⟩:=hrel
   by_cases hlt:k<n
   ·have hl:k<l.length:=by have:=hn.out;omega
    have hl2:k<r.length:=by have:=hm.out;omega
    obtain ⟨g,o,rfl,hg,h1,h2⟩:=(hr.out.later hb).at hl
    obtain ⟨g',o',rfl,hg',h1',h2'⟩:=(hq.out.later hb).at hl2
    by_cases hE:lE l[k] r[k]=true
    ·have HS:Hid (l.take (k+1)=r.take (k+1)):=by
      show _=_
      rw [List.take_succ_eq_append_getElem hl,List.take_succ_eq_append_getElem hl2,HA.out,lE_iff.1 hE]
     obtain ⟨e1,e2⟩:=lE_yes hE
     clear hE
     go_wp2_with fail
     go_quiet (fail)
     go_wp2
     go_round
     case rel=>exact ⟨k+1,by omega,by go_num,HS,(by (repeat' (first | (with_reducible exact Below.refl _ _) | (with_reducible refine bdrewN ?_ _) | (with_reducible refine Below.drew ?_) | (with_reducible refine Below.setCell ?_ ?_ _) | (with_reducible refine Below.alloc ?_ ?_ _) | (with_reducible refine Below.trans ?_ (Below.mono hb ?_)) | (with_reducible exact Nat.le_refl _) | (with_reducible assumption) | omega | (simp only [World.size_alloc,World.size_setCell,World.size_drew,sz_drewN];omega))))⟩
     case measure=>simp [intOf];omega
    ·have HK:Hid (sameB l r=false):=same_at hl hl2 (by simpa using hE)
     have hE':=lE_no (by simpa using hE)
     clear hE
     rcases hE' with e1 | ⟨e1,e2⟩
     all_goals
      go_wp2_with fail
      go_quiet (fail)
      go_wp2
      go_ret
      exact ⟨ret_bool' HK.out.symm,(by (repeat' (first | (with_reducible exact Below.refl _ _) | (with_reducible refine bdrewN ?_ _) | (with_reducible refine Below.drew ?_) | (with_reducible refine Below.setCell ?_ ?_ _) | (with_reducible refine Below.alloc ?_ ?_ _) | (with_reducible refine Below.trans ?_ (Below.mono hb ?_)) | (with_reducible exact Nat.le_refl _) | (with_reducible assumption) | omega | (simp only [World.size_alloc,World.size_setCell,World.size_drew,sz_drewN];omega))))⟩
   ·have HK:Hid (sameB l r=true):=decide_eq_true (by
     have:=HA.out
     rwa [List.take_of_length_le (by have:=hn.out;omega),List.take_of_length_le (by have:=hm.out;omega)] at this)
    go_wp2
    go_ret
    exact ⟨ret_bool' HK.out.symm,(by (repeat' (first | (with_reducible exact Below.refl _ _) | (with_reducible refine bdrewN ?_ _) | (with_reducible refine Below.drew ?_) | (with_reducible refine Below.setCell ?_ ?_ _) | (with_reducible refine Below.alloc ?_ ?_ _) | (with_reducible refine Below.trans ?_ (Below.mono hb ?_)) | (with_reducible exact Nat.le_refl _) | (with_reducible assumption) | omega | (simp only [World.size_alloc,World.size_setCell,World.size_drew,sz_drewN];omega))))⟩
 ·have hr:sameB l r=false:=same_len (by have:=hn.out;have:=hm.out;omega)
  rw [hr]
  go_enter Tryz.func92,Tryz.ntmps92
  go_wp2
  go_ret
  exact ⟨rfl,Below.refl _ _⟩
end
section
open Go.RowKit
abbrev Ac:=Int × ByteArray × ByteArray
def RdA (w:World) (A:Option Addr) (l:List Ac):Prop:=
 ∀ i x,l[i]? = some x -> ∃ g o,A=some ⟨g,o,none⟩/\w.cell? ⟨g,o+i * 3,none⟩=some (.int .i64 x.1)/\w.cell? ⟨g,o+i * 3+1,none⟩=some (.string x.2.1)/\w.cell? ⟨g,o+i * 3+2,none⟩=some (.string x.2.2)
section
variable {w w':World} {A:Option Addr} {l:List Ac}
theorem RdA.later (h:RdA w A l) (hb:Below w.heap.size w w'):RdA w' A l:=fun i b hb'=>by
 obtain ⟨g,o,ha,h1,h2,h3⟩:=h i b hb'
 exact ⟨g,o,ha,(hb.cell (World.block_lt_of_cell? w _ h1)).trans h1,(hb.cell (World.block_lt_of_cell? w _ h2)).trans h2,(hb.cell (World.block_lt_of_cell? w _ h3)).trans h3⟩
theorem RdA.at (h:RdA w A l) {i:Nat} (hi:i<l.length):∃ g o,A=some ⟨g,o,none⟩/\g<w.heap.size/\w.cell? ⟨g,o+i * 3,none⟩=some (.int .i64 l[i].1)/\w.cell? ⟨g,o+i * 3+1,none⟩=some (.string l[i].2.1)/\w.cell? ⟨g,o+i * 3+2,none⟩=some (.string l[i].2.2):=by
 obtain ⟨g,o,ha,h1,h2,h3⟩:=h i l[i] (List.getElem?_eq_getElem hi)
 exact ⟨g,o,ha,World.block_lt_of_cell? w _ h1,h1,h2,h3⟩
end
theorem aE_no {x y:Ac} (h:¬ x=y):(¬ x.1=y.1) ∨ (x.1=y.1/\x.2.1.toList ≠ y.2.1.toList) ∨ (x.1=y.1/\x.2.1.toList=y.2.1.toList/\x.2.2.toList ≠ y.2.2.toList):=by
 have key:∀ a b:ByteArray,a.toList=b.toList->a=b:=fun a b h=>sE_iff.1 (by unfold sE;rw [h];simp)
 by_cases h1:x.1=y.1
 ·by_cases h2:x.2.1.toList=y.2.1.toList
  ·by_cases h3:x.2.2.toList=y.2.2.toList
   ·exact absurd (Prod.ext h1 (Prod.ext (key _ _ h2) (key _ _ h3))) h
   ·exact .inr (.inr ⟨h1,h2,h3⟩)
  ·exact .inr (.inl ⟨h1,h2⟩)
 ·exact .inl h1
def sameA (l m:List Ac):Bool:=decide (l=m)
theorem sameA_refl (l:List Ac):sameA l l=true:=decide_eq_true rfl
theorem sameA_len {l m:List Ac} (h:l.length ≠ m.length):sameA l m=false:=decide_eq_false fun hc=>h (by rw [hc])
theorem sameA_at {l m:List Ac} {k:Nat} (h1:k<l.length) (h2:k<m.length) (h:¬ l[k]=m[k]):sameA l m=false:=decide_eq_false fun hc=>by subst hc;exact h rfl


theorem acts_any (A B:Option Addr) (n c m d:Nat) (l r:List Ac) (w:World) (hn:Hid (n=l.length)) (hm:Hid (m=r.length)) (hr:Hid (RdA w A l)) (hq:Hid (RdA w B r)) (hc:n<=c) (hc2:c<=9223372036854775807) (hd:m<=d) (hd2:d<=9223372036854775807) :
  Calls Tryz.prog 42 #[.slice A n c,.slice B m d] w fun e w'=>e = .returned (.bool (sameA l r))/\Below w.heap.size w w':=by
 by_cases hnm:n=m
 ·obtain rfl:n=m:=hnm
  go_enter Tryz.func42,Tryz.ntmps42
  go_wp2
  go_loopw [5,13] (fun _ i wr=>∃ k:Nat,k<=n/\i = .int .i64 k/\Hid (l.take k=r.take k)/\Below w.heap.size w wr) (fun _ i wr=>n - (intOf i).toNat)
  case atStart=>exact ⟨0,Nat.zero_le _,rfl,(show l.take 0=r.take 0 by simp),Below.refl _ _⟩
  case round=>
   obtain ⟨k,hk,rfl,HA,hb⟩:=hrel
   by_cases hlt:k<n
   ·have hl:k<l.length:=by have:=hn.out;omega
    have hl2:k<r.length:=by have:=hm.out;omega
    obtain ⟨g,o,rfl,hg,h1,h2,h3⟩:=(hr.out.later hb).at hl
    obtain ⟨g',o',rfl,hg',h1',h2',h3'⟩:=(hq.out.later hb).at hl2
    by_cases hE:l[k]=r[k]
    ·have HS:Hid (l.take (k+1)=r.take (k+1)):=by
      show _=_
      rw [List.take_succ_eq_append_getElem hl,List.take_succ_eq_append_getElem hl2,HA.out,hE]
     rw [<- hE] at h1' h2' h3'
     clear hE
     go_wp2_with fail
     go_quiet (fail)
     go_wp2
     go_round
     case rel=>exact ⟨k+1,by omega,by go_num,HS,(by (repeat' (first | (with_reducible exact Below.refl _ _) | (with_reducible refine bdrewN ?_ _) | (with_reducible refine Below.drew ?_) | (with_reducible refine Below.setCell ?_ ?_ _) | (with_reducible refine Below.alloc ?_ ?_ _) | (with_reducible refine Below.trans ?_ (Below.mono hb ?_)) | (with_reducible exact Nat.le_refl _) | (with_reducible assumption) | omega | (simp only [World.size_alloc,World.size_setCell,World.size_drew,sz_drewN];omega))))⟩
     case measure=>simp [intOf];omega
    ·have HK:Hid (sameA l r=false):=sameA_at hl hl2 hE
     have hE':=aE_no hE
     clear hE
     rcases hE' with e1 | ⟨e1,e2⟩ | ⟨e1,e2,e3⟩
     ·go_wp2_with fail
      go_quiet (fail)
      go_wp2
      go_ret
      exact ⟨ret_bool' HK.out.symm,(by (repeat' (first | (with_reducible exact Below.refl _ _) | (with_reducible refine bdrewN ?_ _) | (with_reducible refine Below.drew ?_) | (with_reducible refine Below.setCell ?_ ?_ _) | (with_reducible refine Below.alloc ?_ ?_ _) | (with_reducible refine Below.trans ?_ (Below.mono hb ?_)) | (with_reducible exact Nat.le_refl _) | (with_reducible assumption) | omega | (simp only [World.size_alloc,World.size_setCell,World.size_drew,sz_drewN];omega))))⟩
     ·rw [<- e1] at h1'
      clear e1
      go_wp2_with fail
      go_quiet (fail)
      go_wp2
      go_ret
      exact ⟨ret_bool' HK.out.symm,(by (repeat' (first | (with_reducible exact Below.refl _ _) | (with_reducible refine bdrewN ?_ _) | (with_reducible refine Below.drew ?_) | (with_reducible refine Below.setCell ?_ ?_ _) | (with_reducible refine Below.alloc ?_ ?_ _) | (with_reducible refine Below.trans ?_ (Below.mono hb ?_)) | (with_reducible exact Nat.le_refl _) | (with_reducible assumption) | omega | (simp only [World.size_alloc,World.size_setCell,World.size_drew,sz_drewN];omega))))⟩
     ·rw [<- e1] at h1'
      clear e1
      go_wp2_with fail
      go_quiet (fail)
      go_wp2
      go_ret
      exact ⟨ret_bool' HK.out.symm,(by (repeat' (first | (with_reducible exact Below.refl _ _) | (with_reducible refine bdrewN ?_ _) | (with_reducible refine Below.drew ?_) | (with_reducible refine Below.setCell ?_ ?_ _) | (with_reducible refine Below.alloc ?_ ?_ _) | (with_reducible refine Below.trans ?_ (Below.mono hb ?_)) | (with_reducible exact Nat.le_refl _) | (with_reducible assumption) | omega | (simp only [World.size_alloc,World.size_setCell,World.size_drew,sz_drewN];omega))))⟩
   ·have HK:Hid (sameA l r=true):=decide_eq_true (by
     have:=HA.out
     rwa [List.take_of_length_le (by have:=hn.out;omega),List.take_of_length_le (by have:=hm.out;omega)] at this)
    go_wp2
    go_ret
    exact ⟨ret_bool' HK.out.symm,(by (repeat' (first | (with_reducible exact Below.refl _ _) | (with_reducible refine bdrewN ?_ _) | (with_reducible refine Below.drew ?_) | (with_reducible refine Below.setCell ?_ ?_ _) | (with_reducible refine Below.alloc ?_ ?_ _) | (with_reducible refine Below.trans ?_ (Below.mono hb ?_)) | (with_reducible exact Nat.le_refl _) | (with_reducible assumption) | omega | (simp only [World.size_alloc,World.size_setCell,World.size_drew,sz_drewN];omega))))⟩
 ·have hr:sameA l r=false:=sameA_len (by have:=hn.out;have:=hm.out;omega)
  rw [hr]
  go_enter Tryz.func42,Tryz.ntmps42
  go_wp2
  go_ret
  exact ⟨rfl,Below.refl _ _⟩
def sameAns (e1:Int) (l:List Ac) (e2:Int) (r:List Ac):Bool:=(e1 == e2) && sameA l r
theorem sameAns_refl (e:Int) (l:List Ac):sameAns e l e l=true:=by unfold sameAns;rw [sameA_refl];simp


theorem rsameAns_any (e1 e2:Int) (A B:Option Addr) (n c m d:Nat) (l r:List Ac) (w:World) (hn:Hid (n=l.length)) (hm:Hid (m=r.length)) (hr:Hid (RdA w A l)) (hq:Hid (RdA w B r)) (hc:n<=c) (hc2:c<=9223372036854775807) (hd:m<=d) (hd2:d<=9223372036854775807) :
  Calls Tryz.prog 17 #[.agg #[.int .i64 e1,.slice A n c],.agg #[.int .i64 e2,.slice B m d]] w fun e w'=>e = .returned (.bool (sameAns e1 l e2 r))/\Below w.heap.size w w':=by
 have ks:=fun W (h:RdA W A l) (g:RdA W B r)=>acts_any A B n c m d l r W hn hm (Lib.hid h) (Lib.hid g) hc hc2 hd hd2
 unfold sameAns
 generalize sameA l r=q at ks ⊢
 have KS:=Lib.hid ks
 clear ks
 by_cases he:(e1 == e2)=true
 case neg=>
  have he':(e1 == e2)=false:=by simpa using he
  rw [he']
  clear he
  go_enter Tryz.func17,Tryz.ntmps17
  go_wp2
  go_ret
  exact ⟨rfl,(by (repeat' (first | (with_reducible exact Below.refl _ _) | (with_reducible refine bdrewN ?_ _) | (with_reducible refine Below.drew ?_) | (with_reducible refine Below.setCell ?_ ?_ _) | (with_reducible refine Below.alloc ?_ ?_ _) | (with_reducible exact Nat.le_refl _) | (with_reducible assumption) | omega | (simp only [World.size_alloc,World.size_setCell,World.size_drew,sz_drewN];omega))))⟩
 case pos=>
  rw [he]
  go_enter Tryz.func17,Tryz.ntmps17
  go_wp2_with fail
  refine (KS.out _ (hr.out.later (by (repeat' (first | (with_reducible exact Below.refl _ _) | (with_reducible refine bdrewN ?_ _) | (with_reducible refine Below.drew ?_) | (with_reducible refine Below.setCell ?_ ?_ _) | (with_reducible refine Below.alloc ?_ ?_ _) | (with_reducible exact Nat.le_refl _) | (with_reducible assumption) | omega | (simp only [World.size_alloc,World.size_setCell,World.size_drew,sz_drewN];omega))))) (hq.out.later (by (repeat' (first | (with_reducible exact Below.refl _ _) | (with_reducible refine bdrewN ?_ _) | (with_reducible refine Below.drew ?_) | (with_reducible refine Below.setCell ?_ ?_ _) | (with_reducible refine Below.alloc ?_ ?_ _) | (with_reducible exact Nat.le_refl _) | (with_reducible assumption) | omega | (simp only [World.size_alloc,World.size_setCell,World.size_drew,sz_drewN];omega)))))).mono ?_
  rintro e w1 ⟨rfl,hb1⟩
  go_wp2
  go_ret
  exact ⟨rfl,(by (repeat' (first | (with_reducible exact Below.refl _ _) | (with_reducible refine bdrewN ?_ _) | (with_reducible refine Below.drew ?_) | (with_reducible refine Below.setCell ?_ ?_ _) | (with_reducible refine Below.alloc ?_ ?_ _) | (with_reducible refine Below.trans ?_ (Below.mono hb1 ?_)) | (with_reducible exact Nat.le_refl _) | (with_reducible assumption) | omega | (simp only [World.size_alloc,World.size_setCell,World.size_drew,sz_drewN];omega))))⟩
end
end Go.Proofs.YtlodjgcnffmniaaGreat
