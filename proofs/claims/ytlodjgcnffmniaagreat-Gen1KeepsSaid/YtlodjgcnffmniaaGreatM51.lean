/- Lemmas that the law stands on. No condition. -/
import Derived.Test.YtlodjgcnffmniaaGreatM49
import Derived.Test.YtlodjgcnffmniaaGreatM50
namespace Go.Proofs.YtlodjgcnffmniaaGreat
set_option linter.unusedSimpArgs false
set_option linter.unusedVariables false
set_option maxRecDepth 100000
set_option maxHeartbeats 51200000
section
open Go.RowKit
theorem OwnS.rdOf {w:World} {b:Nat} {S:Sg} {ck nx:Int} {A:Option Addr} {N cA:Nat} {B:Option Addr} {K cB:Nat} {C:Option Addr} {n cC:Nat} (h:OwnS w b (.slice A N cA) (.slice B K cB) (.slice C n cC) S) (h1:ck=S.ck) (h2:nx=S.nx):RdSt w ⟨ck,nx,A,N,cA,B,K,cB,C,n,cC⟩ S:=by
 obtain ⟨⟨ck',nx',A',N',cA',B',K',cB',C',n',cC'⟩,hv,hr⟩:=h.rd
 have e1:Value.slice A' N' cA' = .slice A N cA:=congrArg (fun a:Array Value=>a.getD 2 undef) hv
 have e2:Value.slice B' K' cB' = .slice B K cB:=congrArg (fun a:Array Value=>a.getD 3 undef) hv
 have e3:Value.slice C' n' cC' = .slice C n cC:=congrArg (fun a:Array Value=>a.getD 4 undef) hv
 injection e1 with x1 x2 x3
 injection e2 with x4 x5 x6
 injection e3 with x7 x8 x9
 subst x1 x2 x3 x4 x5 x6 x7 x8 x9
 have e4:ck' = S.ck:=hr.ck
 have e5:nx' = S.nx:=hr.nx
 rw [e4,<- h1,e5,<- h2] at hr
 exact hr


theorem small15_any (x:Oz) (w:World) (hx:OzOk w x):Calls Tryz.prog 29 #[.agg x.arr] w fun e w'=>RetIf e (x.m1<=20/\x.m3<=20)/\Below w.heap.size w w':=by
 obtain ⟨⟨k,nn,a1,b1,c1,l1,qn,a2,b2,c2,tn,tq,tp,a3,b3,c3,l3,ta,tg,ts,s⟩,A1,m1,p1,A3,m3,p3⟩:=x
 have h1:nn.size<=140737488351232:=hx.nn
 have h2:qn.size<=140737488351232:=hx.qn
 have h3:tn.size<=140737488351232:=hx.tn
 have h4:tq.size<=140737488351232:=hx.tq
 have h5:ta.size<=140737488351232:=hx.ta
 have h6:tg.size<=140737488351232:=hx.tg
 have h7:s.size<=140737488351232:=hx.s
 clear hx
 have hb0:Below w.heap.size w (w.alloc (.cells #[.int .i64 k,.string nn,.int .i64 a1,.int .i64 b1,.int .i64 c1,.slice A1 m1 p1,.string qn,.int .i64 a2,.int .i64 b2,.int .i64 c2,.string tn,.string tq,.int .i64 tp,.int .i64 a3,.int .i64 b3,.int .i64 c3,.slice A3 m3 p3,.string ta,.string tg,.int .i64 ts,.string s] 49)):=(Below.refl _ _).alloc (Nat.le_refl _) _
 by_cases e1:m1<=20
 ·by_cases e2:m3<=20
  ·have d1:decide ((m1:Int)<=20)=true:=by rw [decide_eq_true_eq];omega
   have d2:decide ((m3:Int)<=20)=true:=by rw [decide_eq_true_eq];omega
   have HP:Hid (m1<=20/\m3<=20):=⟨e1,e2⟩
   go_enter Tryz.func29,Tryz.ntmps29
   go_wp2
   go_ret
   exact ⟨⟨_,rfl,fun _=>HP.out⟩,hb0⟩
  ·have d1:decide ((m1:Int)<=20)=true:=by rw [decide_eq_true_eq];omega
   have d2:decide ((m3:Int)<=20)=false:=by rw [decide_eq_false_iff_not];omega
   go_enter Tryz.func29,Tryz.ntmps29
   go_wp2
   go_ret
   exact ⟨RetIf.no,hb0⟩
 ·have d1:decide ((m1:Int)<=20)=false:=by rw [decide_eq_false_iff_not];omega
  go_enter Tryz.func29,Tryz.ntmps29
  go_wp2
  go_ret
  exact ⟨RetIf.no,hb0⟩
end
section
open Go.ChangeShapes Go.WideShapes Go.RowKit Go.Deep
theorem cellsOp:Tryz.prog.cellsOf 49=21:=by kernel_rfl
theorem list21 {α:Type} (l:List α) (h:l.length=21):∃ a0 a1 a2 a3 a4 a5 a6 a7 a8 a9 b0 b1 b2 b3 b4 b5 b6 b7 b8 b9 z,l=[a0,a1,a2,a3,a4,a5,a6,a7,a8,a9,b0,b1,b2,b3,b4,b5,b6,b7,b8,b9,z]:=by
 match l,h with
 | [a0,a1,a2,a3,a4,a5,a6,a7,a8,a9,b0,b1,b2,b3,b4,b5,b6,b7,b8,b9,z],_=>exact ⟨a0,a1,a2,a3,a4,a5,a6,a7,a8,a9,b0,b1,b2,b3,b4,b5,b6,b7,b8,b9,z,rfl⟩
section
variable {H:Type} {enc:TypeId × Value->H} {W:World} {base:Nat} {sp:Nat->Bool} {held:Bool}

theorem open_node_f {fuel:Nat} {c0 c1 c2 c3 c4:Value} {y:DataW H × List MemPlace} (h:DataW.trod enc Tryz.prog W base sp held fuel 43 [c0,c1,c2,c3,c4]=some y) :
  ∃ nm a b c A n cp l da dl,c0 = .string nm/\c1 = .int .i64 a/\c2 = .int .i64 b/\c3 = .int .i64 c/\c4 = .slice A n cp/\y.1 = .agg [.lit (.string nm.data.toList),da,dl]/\LabsIn W dl A n cp l:=by
 obtain ⟨ys,n,_,hx,_,hyl,hg⟩:=DataW.trod_struct Tryz.underlying43 h
 obtain ⟨y0,y1,y2,rfl⟩:=list3' ys (by simpa using hyl)
 have h0:DataW.trod enc Tryz.prog W base sp held n 9 (List.take (Tryz.prog.cellsOf 9) [c0,c1,c2,c3,c4])=some y0:=hg 0 _ rfl
 have h1:DataW.trod enc Tryz.prog W base sp held n 40 (List.take (Tryz.prog.cellsOf 40) [c1,c2,c3,c4])=some y1:=hg 1 _ rfl
 have h2:DataW.trod enc Tryz.prog W base sp held n 41 (List.take (Tryz.prog.cellsOf 41) [c4])=some y2:=hg 2 _ rfl
 rw [cells9] at h0
 rw [cellsRes] at h1
 rw [cellsLabs] at h2
 obtain ⟨s,rfl,e0⟩:=open_field_string h0
 obtain ⟨a,b,c,rfl,rfl,rfl⟩:=open_field_res h1
 obtain ⟨A,m,cp,l,rfl,hl⟩:=open_field_labs h2
 exact ⟨s,a,b,c,A,m,cp,l,y1.1,y2.1,rfl,rfl,rfl,rfl,rfl,by have:=congrArg Prod.fst hx;simpa [e0] using this,hl⟩

theorem open_queue_f {fuel:Nat} {c0 c1 c2 c3:Value} {y:DataW H × List MemPlace} (h:DataW.trod enc Tryz.prog W base sp held fuel 45 [c0,c1,c2,c3]=some y) :
  ∃ nm a b c da,c0 = .string nm/\c1 = .int .i64 a/\c2 = .int .i64 b/\c3 = .int .i64 c/\y.1 = .agg [.lit (.string nm.data.toList),da]:=by
 obtain ⟨ys,n,_,hx,_,hyl,hg⟩:=DataW.trod_struct Tryz.underlying45 h
 obtain ⟨y0,y1,rfl⟩:=list2 ys (by simpa using hyl)
 have h0:DataW.trod enc Tryz.prog W base sp held n 9 (List.take (Tryz.prog.cellsOf 9) [c0,c1,c2,c3])=some y0:=hg 0 _ rfl
 have h1:DataW.trod enc Tryz.prog W base sp held n 40 (List.take (Tryz.prog.cellsOf 40) [c1,c2,c3])=some y1:=hg 1 _ rfl
 rw [cells9] at h0
 rw [cellsRes] at h1
 obtain ⟨s,rfl,e0⟩:=open_field_string h0
 obtain ⟨a,b,c,rfl,rfl,rfl⟩:=open_field_res h1
 exact ⟨s,a,b,c,y1.1,rfl,rfl,rfl,rfl,by have:=congrArg Prod.fst hx;simpa [e0] using this⟩

theorem open_task_f {fuel:Nat} {c0 c1 c2 c3 c4 c5 c6 c7 c8 c9:Value} {y:DataW H × List MemPlace} (h:DataW.trod enc Tryz.prog W base sp held fuel 47 [c0,c1,c2,c3,c4,c5,c6,c7,c8,c9]=some y) :
  ∃ nm qu pr a b c A n cp l ap ga sz d2 d3 d4 d7,c0 = .string nm/\c1 = .string qu/\c2 = .int .i64 pr/\c3 = .int .i64 a/\c4 = .int .i64 b/\c5 = .int .i64 c/\c6 = .slice A n cp/\c7 = .string ap/\c8 = .string ga/\c9 = .int .i64 sz /\
   y.1 = .agg [.lit (.string nm.data.toList),.lit (.string qu.data.toList),d2,d3,d4,.lit (.string ap.data.toList),.lit (.string ga.data.toList),d7]/\LabsIn W d4 A n cp l:=by
 obtain ⟨ys,n,_,hx,_,hyl,hg⟩:=DataW.trod_struct Tryz.underlying47 h
 obtain ⟨y0,y1,y2,y3,y4,y5,y6,y7,rfl⟩:=list8 ys (by simpa using hyl)
 have h0:DataW.trod enc Tryz.prog W base sp held n 9 (List.take (Tryz.prog.cellsOf 9) [c0,c1,c2,c3,c4,c5,c6,c7,c8,c9])=some y0:=hg 0 _ rfl
 have h1:DataW.trod enc Tryz.prog W base sp held n 9 (List.take (Tryz.prog.cellsOf 9) [c1,c2,c3,c4,c5,c6,c7,c8,c9])=some y1:=hg 1 _ rfl
 have h2:DataW.trod enc Tryz.prog W base sp held n 3 (List.take (Tryz.prog.cellsOf 3) [c2,c3,c4,c5,c6,c7,c8,c9])=some y2:=hg 2 _ rfl
 have h3:DataW.trod enc Tryz.prog W base sp held n 40 (List.take (Tryz.prog.cellsOf 40) [c3,c4,c5,c6,c7,c8,c9])=some y3:=hg 3 _ rfl
 have h4:DataW.trod enc Tryz.prog W base sp held n 41 (List.take (Tryz.prog.cellsOf 41) [c6,c7,c8,c9])=some y4:=hg 4 _ rfl
 have h5:DataW.trod enc Tryz.prog W base sp held n 9 (List.take (Tryz.prog.cellsOf 9) [c7,c8,c9])=some y5:=hg 5 _ rfl
 have h6:DataW.trod enc Tryz.prog W base sp held n 9 (List.take (Tryz.prog.cellsOf 9) [c8,c9])=some y6:=hg 6 _ rfl
 have h7:DataW.trod enc Tryz.prog W base sp held n 3 (List.take (Tryz.prog.cellsOf 3) [c9])=some y7:=hg 7 _ rfl
 rw [cells9] at h0 h1 h5 h6
 rw [cellsInt] at h2 h7
 rw [cellsRes] at h3
 rw [cellsLabs] at h4
 obtain ⟨nm,rfl,e0⟩:=open_field_string h0
 obtain ⟨qu,rfl,e1⟩:=open_field_string h1
 obtain ⟨pr,rfl⟩:=open_field_int h2
 obtain ⟨a,b,c,rfl,rfl,rfl⟩:=open_field_res h3
 obtain ⟨A,m,cp,l,rfl,hl⟩:=open_field_labs h4
 obtain ⟨ap,rfl,e5⟩:=open_field_string h5
 obtain ⟨ga,rfl,e6⟩:=open_field_string h6
 obtain ⟨sz,rfl⟩:=open_field_int h7
 exact ⟨nm,qu,pr,a,b,c,A,m,cp,l,ap,ga,sz,y2.1,y3.1,y4.1,y7.1,rfl,rfl,rfl,rfl,rfl,rfl,rfl,rfl,rfl,rfl,by have:=congrArg Prod.fst hx;simpa [e0,e1,e5,e6] using this,hl⟩
theorem sized_op {ts:List TypeId} {ds:List (DataW H)} (h:(DataW.weightsEach Tryz.prog ts ds).all (· <= reachBytes)=true) {j:Nat} {nn qn tn tq ta tg s:ByteArray} {d0 da dl qa e2 e3 e4 e7:DataW H} (ht:ts[j]? = some 49)
  (hd:ds[j]? = some (.agg [d0,.agg [.lit (.string nn.data.toList),da,dl],.agg [.lit (.string qn.data.toList),qa],.agg [.lit (.string tn.data.toList),.lit (.string tq.data.toList),e2,e3,e4,.lit (.string ta.data.toList),.lit (.string tg.data.toList),e7],.lit (.string s.data.toList)]))
  {A1 A3:Option Addr} {m1 p1 m3 p3:Nat} {l1 l3:List Lb} (hl1:LabsIn W dl A1 m1 p1 l1) (hl3:LabsIn W e4 A3 m3 p3 l3) :
  Sz l1/\Sz l3/\nn.size<=140737488351232/\qn.size<=140737488351232/\tn.size<=140737488351232/\tq.size<=140737488351232/\ta.size<=140737488351232/\tg.size<=140737488351232/\s.size<=140737488351232:=by
 have hi:=sized_inner h Tryz.underlying49 ht hd
 obtain ⟨n1,n2⟩:=sized_node hi (j:=1) rfl rfl hl1
 have q1:=sized_queue hi (j:=2) rfl rfl
 obtain ⟨t1,t2,t3,t4,t5⟩:=sized_task hi (j:=3) rfl rfl hl3
 exact ⟨n2,t5,n1,q1,t1,t2,t3,t4,sized_str hi (j:=4) rfl rfl⟩
end
end
section
open Go.ChangeShapes Go.WideShapes Go.RowKit Go.Deep
def eZ (x:Oz):List Value:=x.arr.toList
structure RdOps (w:World) (A:Option Addr) (z:List Oz):Prop where
 rd:RdK w 21 A (z.map eZ)
 ok:∀ x ∈ z,OzOk w x
theorem RdOps.later {w w':World} {A:Option Addr} {z:List Oz} (h:RdOps w A z) (hb:Below w.heap.size w w'):RdOps w' A z:=⟨h.rd.later hb,fun x hx=>(h.ok x hx).later hb⟩
section
variable {H:Type} {enc:TypeId × Value->H} {W:World} {base:Nat} {sp:Nat->Bool} {held:Bool}
def OzIn (W:World) (d:DataW H) (x:Oz):Prop:=∃ d0 da dl qa e2 e3 e4 e7,d = .agg [d0,.agg [.lit (.string x.v.nn.data.toList),da,dl],.agg [.lit (.string x.v.qn.data.toList),qa],.agg [.lit (.string x.v.tn.data.toList),.lit (.string x.v.tq.data.toList),e2,e3,e4,.lit (.string x.v.ta.data.toList),.lit (.string x.v.tg.data.toList),e7],.lit (.string x.v.s.data.toList)]/\LabsIn W dl x.A1 x.m1 x.p1 x.v.l1/\LabsIn W e4 x.A3 x.m3 x.p3 x.v.l3

theorem trod_oz {fuel:Nat} {cs:List Value} {x:DataW H × List MemPlace} (hf:DataW.trod enc Tryz.prog W base sp held fuel 49 cs=some x):∃ y:Oz,cs=eZ y/\OzIn W x.1 y:=by
 obtain ⟨ys,n,_,hx,hsz,hyl,hg⟩:=DataW.trod_struct Tryz.underlying49 hf
 rw [cellsOp] at hsz
 obtain ⟨x0,x1,x2,x3,x4,x5,x6,x7,x8,x9,u0,u1,u2,u3,u4,u5,u6,u7,u8,u9,z,rfl⟩:=list21 cs hsz
 obtain ⟨y0,y1,y2,y3,y4,rfl⟩:=list5 ys (by simpa using hyl)
 have h0:DataW.trod enc Tryz.prog W base sp held n 3 (List.take (Tryz.prog.cellsOf 3) [x0,x1,x2,x3,x4,x5,x6,x7,x8,x9,u0,u1,u2,u3,u4,u5,u6,u7,u8,u9,z])=some y0:=hg 0 _ rfl
 have h1:DataW.trod enc Tryz.prog W base sp held n 43 (List.take (Tryz.prog.cellsOf 43) [x1,x2,x3,x4,x5,x6,x7,x8,x9,u0,u1,u2,u3,u4,u5,u6,u7,u8,u9,z])=some y1:=hg 1 _ rfl
 have h2:DataW.trod enc Tryz.prog W base sp held n 45 (List.take (Tryz.prog.cellsOf 45) [x6,x7,x8,x9,u0,u1,u2,u3,u4,u5,u6,u7,u8,u9,z])=some y2:=hg 2 _ rfl
 have h3:DataW.trod enc Tryz.prog W base sp held n 47 (List.take (Tryz.prog.cellsOf 47) [u0,u1,u2,u3,u4,u5,u6,u7,u8,u9,z])=some y3:=hg 3 _ rfl
 have h4:DataW.trod enc Tryz.prog W base sp held n 9 (List.take (Tryz.prog.cellsOf 9) [z])=some y4:=hg 4 _ rfl
 rw [cellsInt] at h0
 rw [cellsNode] at h1
 rw [cellsQueue] at h2
 rw [cellsTask] at h3
 rw [cells9] at h4
 obtain ⟨k,rfl⟩:=open_field_int h0
 obtain ⟨nn,a1,b1,c1,A1,m1,p1,l1,da,dl,rfl,rfl,rfl,rfl,rfl,e1,hl1⟩:=open_node_f h1
 obtain ⟨qn,a2,b2,c2,qa,rfl,rfl,rfl,rfl,e2⟩:=open_queue_f h2
 obtain ⟨tn,tq,tp,a3,b3,c3,A3,m3,p3,l3,ta,tg,ts,d2,d3,d4,d7,rfl,rfl,rfl,rfl,rfl,rfl,rfl,rfl,rfl,rfl,e3,hl3⟩:=open_task_f h3
 obtain ⟨s,rfl,e4⟩:=open_field_string h4
 exact ⟨⟨⟨k,nn,a1,b1,c1,l1,qn,a2,b2,c2,tn,tq,tp,a3,b3,c3,l3,ta,tg,ts,s⟩,A1,m1,p1,A3,m3,p3⟩,rfl,y0.1,da,dl,qa,d2,d3,d4,d7,by have:=congrArg Prod.fst hx;simpa [e1,e2,e3,e4] using this,hl1,hl3⟩
theorem open_rowsO {κ:Type} {a:Option Addr} {len cap:Nat} {d:DataW H} {p:List MemPlace} {tS e k:Nat} (encE:κ->List Value) (okE:DataW H->κ->Prop)
  (hu:Tryz.prog.underlying tS=some (.slice e)) (hk:Tryz.prog.cellsOf e=k) (hk0:0<k) (hlen:∀ y,(encE y).length=k)
  (htr:∀ (sp:Nat->Bool) (held:Bool) (base fuel:Nat) (cs:List Value) (x:DataW H × List MemPlace),DataW.trod enc Tryz.prog W base sp held fuel e cs=some x -> ∃ y:κ,cs=encE y/\okE x.1 y)
  (h:DataW.Trod enc Tryz.prog W base sp held tS (.slice a len cap) d p) :
  ∃ l:List κ,len=l.length/\RdK W k a (l.map encE)/\len<=cap/\cap<=9223372036854775807 /\ ∀ y ∈ l,∃ elems spare e,d = .slice elems spare/\e ∈ elems/\okE e y:=by
 obtain ⟨fuel,hf⟩:=h
 rcases open_slice hu hf with ⟨hcs,_⟩ | ⟨x,n',c,m,n,D,Pl,hcs,_,hl,hm,hmm,hx,hi⟩
 ·simp [Value.cells] at hcs
  obtain ⟨rfl,rfl,rfl⟩:=hcs
  exact ⟨[],rfl,RdK.nil _ _ _,Nat.le_refl _,by omega,by simp⟩
 ·simp [Value.cells] at hcs
  obtain ⟨rfl,rfl,rfl⟩:=hcs
  rw [hk] at hi
  have hlm:len<=m:=by rw [hmm];split <;> omega
  have hm':cap<=9223372036854775807:=by unfold maxLen at hm;omega
  have hdat:d = .slice ((List.range len).map D) ((List.range (m - len)).map fun j=>D (len+j)):=congrArg Prod.fst hx
  have hspot:0<len->x.spot=none:=fun h=>by
   obtain ⟨cs',hc,ht⟩:=hi 0 (by omega)
   obtain ⟨_,hcl,hat⟩:=World.cells?_some hc
   have h0:=hat 0 (by omega)
   rw [List.getElem?_eq_getElem (by omega)] at h0
   simpa [Addr.add] using World.cell?_spot h0
  have key:∀ i,i<len -> ∃ y:κ,∃ g o,x=⟨g,o,none⟩/\W.rangeAt g (o+i * k) (encE y)/\okE (D i) y:=fun i hlt=>by
   obtain ⟨cs',hc,ht⟩:=hi i (by omega)
   obtain ⟨_,hcl,hat⟩:=World.cells?_some hc
   obtain ⟨y,rfl,hok⟩:=htr _ _ _ _ _ _ ht
   obtain ⟨g,o,spot⟩:=x
   have hs:spot=none:=hspot (by omega)
   subst hs
   refine ⟨y,g,o,rfl,fun j v hv=>?_,hok⟩
   have hj:j<k:=by rw [<- hlen y];exact (List.getElem?_eq_some_iff.1 hv).1
   have h1:=hat j (by omega)
   rw [Addr.add_lit,Addr.add_lit,hv] at h1
   exact h1
  have pick:∀ n,n<=len -> ∃ l:List κ,l.length=n/\RdK W k (some x) (l.map encE) /\ ∀ i y,l[i]? = some y->okE (D i) y:=by
   intro n
   induction n with
   | zero=>exact fun _=>⟨[],rfl,RdK.nil _ _ _,fun i y hy=>by simp at hy⟩
   | succ n ih=>
    intro hn
    obtain ⟨l,hll,hr,hall⟩:=ih (by omega)
    obtain ⟨y,g,o,hxx,hrg,hok⟩:=key n (by omega)
    refine ⟨l ++ [y],by simp [hll],fun i z hz=>?_,fun i z hz=>?_⟩
    ·rw [List.map_append] at hz
     by_cases hi':i<(l.map encE).length
     ·rw [List.getElem?_append_left hi'] at hz;exact hr i z hz
     ·rw [List.getElem?_append_right (by omega)] at hz
      have e:i=n:=by
       have:=(List.getElem?_eq_some_iff.1 hz).1
       simp at this hi';omega
      subst e
      simp [hll] at hz
      subst hz
      exact ⟨g,o,by rw [hxx],hrg⟩
    ·by_cases hi':i<l.length
     ·rw [List.getElem?_append_left hi'] at hz;exact hall i z hz
     ·rw [List.getElem?_append_right (by omega)] at hz
      have e:i=n:=by
       have:=(List.getElem?_eq_some_iff.1 hz).1
       simp at this;omega
      subst e
      rw [show i - l.length=0 by omega] at hz
      simp at hz;subst hz
      exact hok
  obtain ⟨l,hll,hr,hall⟩:=pick len (Nat.le_refl _)
  refine ⟨l,hll.symm,hr,by omega,hm',fun y hy=>?_⟩
  obtain ⟨i,hi',e⟩:=List.getElem_of_mem hy
  exact ⟨_,_,D i,hdat,List.mem_map.2 ⟨i,List.mem_range.2 (by omega),rfl⟩,hall i y (by rw [List.getElem?_eq_getElem hi',e])⟩
theorem open_ozs {a:Option Addr} {len cap:Nat} {d:DataW H} {p:List MemPlace} (h:DataW.Trod enc Tryz.prog W base sp held 22 (.slice a len cap) d p):∃ l:List Oz,len=l.length/\RdK W 21 a (l.map eZ)/\len<=cap/\cap<=9223372036854775807 /\ ∀ y ∈ l,∃ elems spare e,d = .slice elems spare/\e ∈ elems/\OzIn W e y:=
 open_rowsO eZ (OzIn W) Tryz.underlying22 cellsOp (by omega) (fun _=>rfl) (fun _ _ _ _ _ _ h=>trod_oz h) h
theorem okOz {ts:List TypeId} {ds:List (DataW H)} (h:(DataW.weightsEach Tryz.prog ts ds).all (· <= reachBytes)=true) {j:Nat} {d:DataW H} (ht:ts[j]? = some 49) (hd:ds[j]? = some d) {W:World} {x:Oz} (hk:OzIn W d x):OzOk W x:=by
 obtain ⟨d0,da,dl,qa,e2,e3,e4,e7,rfl,h1,h3⟩:=hk
 obtain ⟨z1,z3,n1,q1,t1,t2,t3,t4,s1⟩:=sized_op h ht hd h1 h3
 exact ⟨⟨h1.len,h1.rd,h1.cap,h1.cap2,z1⟩,⟨h3.len,h3.rd,h3.cap,h3.cap2,z3⟩,n1,q1,t1,t2,t3,t4,s1⟩
theorem okOzs {ts:List TypeId} {ds:List (DataW H)} (h:(DataW.weightsEach Tryz.prog ts ds).all (· <= reachBytes)=true) {j:Nat} {d:DataW H} (ht:ts[j]? = some 22) (hd:ds[j]? = some d) {W:World} {L:List Oz}
  (hL:∀ y ∈ L,∃ elems spare e,d = .slice elems spare/\e ∈ elems/\OzIn W e y):∀ y ∈ L,OzOk W y:=fun x hx=>by
 obtain ⟨el,spa,e,rfl,he,hk⟩:=hL x hx
 have hall:(DataW.weightsEach Tryz.prog [49] [e]).all (· <= reachBytes)=true:=by
  rw [List.all_eq_true] at h ⊢
  intro n hn
  refine h n (DataW.weights_mem_each ht hd n ?_)
  simp only [DataW.weights,Tryz.underlying22,List.mem_cons,List.mem_append]
  refine .inr (.inl (weightsAll_mem' he n ?_))
  simpa [DataW.weightsEach] using hn
 exact okOz hall (j:=0) rfl rfl hk
end


theorem few15_any (A:Option Addr) (n c:Nat) (z:List Oz) (w:World) (hn:Hid (n=z.length)) (hm:n<=9223372036854775807) (hr:Hid (RdOps w A z)):Calls Tryz.prog 13 #[.slice A n c] w fun e w'=>RetIf e (n<=150 /\ ∀ x ∈ z,x.m1<=20/\x.m3<=20)/\Below w.heap.size w w':=by
 by_cases h1:n<=150
 case neg=>
  have hni:(150:Int)<(n:Int):=by omega
  clear h1
  go_enter Tryz.func13,Tryz.ntmps13
  go_wp2_with fail
  go_ret
  exact ⟨RetIf.no,Below.refl _ _⟩
 have hni:¬ (150:Int)<(n:Int):=by omega
 have H1:=Lib.hid h1
 have KS:=Lib.hid (fun (x:Oz) W (h:OzOk W x)=>small15_any x W h)
 clear hm h1
 go_enter Tryz.func13,Tryz.ntmps13
 go_wp2_with fail
 clear hni
 go_loopw [9] (fun s9 wr=>∃ k:Nat,k<=n/\s9 = .int .i64 k/\Hid (∀ x ∈ z.take k,x.m1<=20/\x.m3<=20)/\Hid (Below w.heap.size w wr)) (fun s9 wr=>n - (intOf s9).toNat)
 case atStart=>exact ⟨0,Nat.zero_le _,rfl,(by intro x hx;simp at hx),Below.refl _ _⟩
 case round=>
  obtain ⟨k,hk,rfl,HA,HB⟩:=hrel
  by_cases hlt:k<n
  ·have hkl:Hid (k<z.length):=by show k<z.length;rw [<- hn.out];exact hlt
   obtain ⟨x,hx⟩:∃ x,x=z[k]'hkl.out:=⟨_,rfl⟩
   obtain ⟨g,o,hA,hrg⟩:=(hr.out.later HB.out).rd.at (i:=k) (by rw [List.length_map];exact hkl.out)
   rw [List.getElem_map,<- hx] at hrg
   have HX:Hid (wr.rangeAt g (o+k * 21) x.arr.toList):=hrg
   have HOK:Hid (OzOk wr x):=(hr.out.later HB.out).ok x (by rw [hx];exact List.getElem_mem _)
   have HXE:=Lib.hid hx
   subst hA
   have hwk:wrap64 ((k:Int)+1)=((k+1:Nat):Int):=by have:=H1.out;unfold wrap64;omega
   clear hrg hx
   go_wp2_with (with_reducible refine load_rg rfl 49 _ rfl g (o+k * 21) rfl x.arr _ HX.out Tryz.underlying49 rfl (by kernel_rfl) ?_)
   refine (KS.out x _ HOK.out).mono ?_
   rintro e w2 ⟨⟨b,rfl,hbt⟩,hb2⟩
   have HB2:=Lib.hid (HB.out.trans (hb2.mono HB.out.size))
   clear hb2
   cases b with
   | false=>
    clear hbt
    go_wp2_with fail
    go_ret
    exact ⟨RetIf.no,HB2.out⟩
   | true=>
    have HA2:Hid (∀ x ∈ z.take (k+1),x.m1<=20/\x.m3<=20):=mem_take_succ hkl.out HA.out (by rw [<- HXE.out];exact hbt rfl)
    clear hbt
    go_wp2_with fail
    go_round
    case rel=>exact ⟨k+1,by omega,by go_num,HA2,HB2⟩
    case measure=>
     first
     | (rw [hwk];show n - ((k+1:Nat):Int).toNat<n - ((k:Nat):Int).toNat;rw [Int.toNat_natCast,Int.toNat_natCast];omega)
     | (show n - ((k:Int)+1).toNat<n - ((k:Nat):Int).toNat;omega)
  ·have hkn:k=n:=by omega
   have HF:Hid (∀ x ∈ z,x.m1<=20/\x.m3<=20):=by have h:=HA.out;rw [hkn,hn.out,List.take_length] at h;exact h
   clear HA hk hlt
   subst hkn
   go_wp2_with fail
   go_ret
   exact ⟨RetIf.yes ⟨H1.out,HF.out⟩,HB.out⟩
end
section
open Go.RowKit
def stF (S:Sg) (v:Ov):Sg × An:=stepG bsF chF unF S v
theorem GrP.more {p:Nat->Prop} {w0 wr w':World} {row:Option Nat} (h:GrP p w0 wr) (hg:wr.grownBy w' row) (hn:∀ k,row=some k->p k ∨ w0.heap.size<=k):GrP p w0 w':=
 ⟨hg.os.trans h.os,hg.tape.trans h.tape,hg.output.trans h.output,Nat.le_trans h.size hg.size,fun k hk hp=>(hg.block k (Nat.lt_of_lt_of_le hk h.size) fun e=>by
  rcases hn k e.symm with h1 | h1
  ·exact hp h1
  ·omega).trans (h.block k hk hp)⟩
theorem GrP.late {p:Nat->Prop} {w0 wr w':World} (h:GrP p w0 wr) {q:Nat->Prop} (hg:GrP q wr w') (hn:∀ k,q k->p k ∨ w0.heap.size<=k):GrP p w0 w':=
 ⟨hg.os.trans h.os,hg.tape.trans h.tape,hg.output.trans h.output,Nat.le_trans h.size hg.size,fun k hk hp=>(hg.block k (Nat.lt_of_lt_of_le hk h.size) fun e=>by
  rcases hn k e with h1 | h1
  ·exact hp h1
  ·omega).trans (h.block k hk hp)⟩
theorem RdA.grp {p:Nat->Prop} {w w':World} {A:Option Addr} {l:List Ac} (h:RdA w A l) (hg:GrP p w w') (hp:∀ a,A=some a -> ¬ p a.block):RdA w' A l:=fun i x hx=>by
 obtain ⟨g,o,ha,h1,h2,h3⟩:=h i x hx
 have hn:=hp _ ha
 exact ⟨g,o,ha,(hg.cell (World.block_lt_of_cell? w _ h1) hn).trans h1,(hg.cell (World.block_lt_of_cell? w _ h2) hn).trans h2,(hg.cell (World.block_lt_of_cell? w _ h3) hn).trans h3⟩
theorem RdA.aside {w w':World} {A:Option Addr} {l:List Ac} {p:Nat} {t:TypeId} {cs:Array Value} (h:RdA w A l) (hB:Bk w p t cs) (hcs:∀ (j:Nat) (s:ByteArray),cs[j]? ≠ some (Value.string s)) (hg:w.grownBy w' (some p)):RdA w' A l:=fun i x hx=>by
 obtain ⟨g,o,ha,h1,h2,h3⟩:=h i x hx
 have hn:¬ some p=some g:=fun e=>by
  injection e with e
  subst e
  rw [hB.cellAt] at h2
  exact hcs _ _ h2
 have hG:=GrP.of hg
 exact ⟨g,o,ha,(hG.cell (World.block_lt_of_cell? w _ h1) hn).trans h1,(hG.cell (World.block_lt_of_cell? w _ h2) hn).trans h2,(hG.cell (World.block_lt_of_cell? w _ h3) hn).trans h3⟩
structure Tg (w wr:World) (g h:Nat) (F K:Nat->Prop) (S T:Sg) (m m2:Int):Prop where
 g1:Gx wr w.heap.size g F S
 g2:Gx wr w.heap.size h K T
 ap:∀ k,F k -> ¬ K k
 b1:∀ k,F k->w.heap.size<=k/\k<wr.heap.size
 b2:∀ k,K k->w.heap.size<=k/\k<wr.heap.size
 i1:In2 m S
 i2:In2 m2 T
 be:Below w.heap.size w wr
def nextF (F:Nat->Prop) (W w':World) (k:Nat):Prop:=(F k ∨ W.heap.size<=k)/\k<w'.heap.size
section
variable {w wr w':World} {g h:Nat} {F K:Nat->Prop} {S T S' T':Sg} {m m2 m':Int} {p:Nat}
theorem nextF.off (hF:¬ F p) (hp:p<wr.heap.size):¬ nextF F wr w' p:=fun h=>h.1.elim hF fun h2=>by omega
theorem Tg.below (H:Tg w wr g h F K S T m m2) (hb:Below wr.heap.size wr w'):Tg w w' g h F K S T m m2:=
 ⟨H.g1.below hb,H.g2.below hb,H.ap,fun k hk=>⟨(H.b1 k hk).1,Nat.lt_of_lt_of_le (H.b1 k hk).2 hb.size⟩,fun k hk=>⟨(H.b2 k hk).1,Nat.lt_of_lt_of_le (H.b2 k hk).2 hb.size⟩,H.i1,H.i2,H.be.trans (hb.mono H.be.size)⟩
theorem Tg.grp (H:Tg w wr g h F K S T m m2) {q:Nat->Prop} (hg:GrP q wr w') (hq:∀ k,q k -> ¬ F k /\ ¬ K k/\w.heap.size<=k):Tg w w' g h F K S T m m2:=
 ⟨H.g1.grp hg fun k _ hk e=>(hq k e).1 hk,H.g2.grp hg fun k _ hk e=>(hq k e).2.1 hk,H.ap,fun k hk=>⟨(H.b1 k hk).1,Nat.lt_of_lt_of_le (H.b1 k hk).2 hg.size⟩,fun k hk=>⟨(H.b2 k hk).1,Nat.lt_of_lt_of_le (H.b2 k hk).2 hg.size⟩,H.i1,H.i2,H.be.trans (hg.below H.be.size fun k hk=>(hq k hk).2.2)⟩
theorem Tg.left (H:Tg w wr g h F K S T m m2) (h1:Gx w' w.heap.size g (fun k=>F k ∨ wr.heap.size<=k) S') (hg:GrP F wr w') (hi:In2 m' S'):Tg w w' g h (nextF F wr w') K S' T m' m2:=by
 refine ⟨h1.wide fun k hk hf=>⟨hf,hk⟩,H.g2.grp hg fun k _ hk e=>H.ap k e hk,fun k hk hk2=>?_,fun k hk=>⟨?_,hk.2⟩,fun k hk=>⟨(H.b2 k hk).1,Nat.lt_of_lt_of_le (H.b2 k hk).2 hg.size⟩,hi,H.i2,H.be.trans (hg.below H.be.size fun k hk=>(H.b1 k hk).1)⟩
 ·rcases hk.1 with h3 | h3
  ·exact H.ap k h3 hk2
  ·have:=(H.b2 k hk2).2;omega
 ·rcases hk.1 with h3 | h3
  ·exact (H.b1 k h3).1
  ·exact Nat.le_trans H.be.size h3
theorem Tg.right (H:Tg w wr g h F K S T m m2) (h1:Gx w' w.heap.size h (fun k=>K k ∨ wr.heap.size<=k) T') (hg:GrP K wr w') (hi:In2 m' T'):Tg w w' g h F (nextF K wr w') S T' m m':=by
 refine ⟨H.g1.grp hg fun k _ hk e=>H.ap k hk e,h1.wide fun k hk hf=>⟨hf,hk⟩,fun k hk hk2=>?_,fun k hk=>⟨(H.b1 k hk).1,Nat.lt_of_lt_of_le (H.b1 k hk).2 hg.size⟩,fun k hk=>⟨?_,hk.2⟩,H.i1,hi,H.be.trans (hg.below H.be.size fun k hk=>(H.b2 k hk).1)⟩
 ·rcases hk2.1 with h3 | h3
  ·exact H.ap k hk h3
  ·have:=(H.b1 k hk).2;omega
 ·rcases hk.1 with h3 | h3
  ·exact (H.b2 k h3).1
  ·exact Nat.le_trans H.be.size h3
end
def RetD (b:Nat) (w:World) (e:Ending) (R:An):Prop:=∃ A n c,e = .returned (.agg #[.int .i64 R.1,.slice A n c])/\RetL b w A n c R.2
theorem tg_left {w wr:World} {g h:Nat} {F K:Nat->Prop} {S T:Sg} {m m2:Int} (H:Tg w wr g h F K S T m m2) (hm:0<=m) (hm2:m<=1152921504606846976) (x:Oz) (hx:OzOk wr x) (hl1:x.v.l1.length<=1000) (hl3:x.v.l3.length<=1000) :
  Calls Tryz.prog 18 #[.pointer (some ⟨g,0,none⟩),.agg x.arr] wr fun e w'=>RetD wr.heap.size w' e (stF S x.v).2/\Tg w w' g h (nextF F wr w') K (stF S x.v).1 T (m+1001000) m2/\GrP F wr w':=by
 refine (gx_do bsF chF unF bestK choK uniK bare3 w.heap.size g F m S x wr H.g1 H.i1 hm2 hx hl1 hl3).mono ?_
 rintro e w' ⟨⟨A,n,c,rfl,hR⟩,h1,h2⟩
 exact ⟨⟨A,n,c,rfl,hR⟩,H.left h1 h2 (H.i1.step uniK hm x.v hl1 hl3),h2⟩
theorem tg_right {w wr:World} {g h:Nat} {F K:Nat->Prop} {S T:Sg} {m m2:Int} (H:Tg w wr g h F K S T m m2) (hm:0<=m2) (hm2:m2<=1152921504606846976) (x:Oz) (hx:OzOk wr x) (hl1:x.v.l1.length<=1000) (hl3:x.v.l3.length<=1000) :
  Calls Tryz.prog 18 #[.pointer (some ⟨h,0,none⟩),.agg x.arr] wr fun e w'=>RetD wr.heap.size w' e (stF T x.v).2/\Tg w w' g h F (nextF K wr w') S (stF T x.v).1 m (m2+1001000)/\GrP K wr w':=by
 refine (gx_do bsF chF unF bestK choK uniK bare3 w.heap.size h K m2 T x wr H.g2 H.i2 hm2 hx hl1 hl3).mono ?_
 rintro e w' ⟨⟨A,n,c,rfl,hR⟩,h1,h2⟩
 exact ⟨⟨A,n,c,rfl,hR⟩,H.right h1 h2 (H.i2.step uniK hm x.v hl1 hl3),h2⟩
theorem tg_new1 (w wr:World) (hb:Below w.heap.size w wr):Calls Tryz.prog 14 #[] wr fun e w'=>e = .returned (.pointer (some ⟨wr.heap.size,0,none⟩))/\Gx w' w.heap.size wr.heap.size (fun k=>wr.heap.size<=k/\k<w'.heap.size) Sg.new/\Below wr.heap.size wr w':=by
 refine (gx_new wr).mono ?_
 rintro e w' ⟨rfl,h,hb2⟩
 exact ⟨rfl,(h.base hb.size).wide fun k hk hf=>⟨hf,hk⟩,hb2⟩
end
section
open Go.RowKit
def RowF (w:World) (A:Option Addr) (n:Nat):Prop:=n=0 ∨ ∃ g cur,A=some ⟨g,0,none⟩/\Bk w g 70 cur/\n * 2<=cur.size
theorem LbNew.rowF {w:World} {b:Nat} {A:Option Addr} {n cp:Nat} {l:List Lb} (h:LbNew w b A n cp l):RowF w A n:=by
 obtain ⟨hk,hl,h⟩:=h.own
 rcases h with ⟨hv,h0⟩ | ⟨g,cap,cur,hv,h1,h2,h3,h4,h5,h6⟩
 ·injection hv with e1 e2 e3;exact .inl e2
 ·injection hv with e1 e2 e3
  refine .inr ⟨g,cur,e1,h2,?_⟩
  rw [h5,e2];exact Nat.mul_le_mul_right 2 h3
theorem RowF.set {w:World} {A:Option Addr} {n:Nat} (h:RowF w A n) (g o:Nat) (u:Value):RowF (w.setCell ⟨g,o,none⟩ u) A n:=by
 rcases h with h | ⟨g',cur,hA,hB,hs⟩
 ·exact .inl h
 ·by_cases e:g' = g
  ·subst e;exact .inr ⟨g',_,hA,hB.put o u,by simpa using hs⟩
  ·exact .inr ⟨g',cur,hA,hB.other e u,hs⟩
structure Mut (w:World) (b:Nat) (A:Option Addr) (N cA:Nat) (B:Option Addr) (K cB:Nat) (C:Option Addr) (n cC:Nat) (S:Sg):Prop where
 M:∃ L:List Mc,L.length=N/\(∀ i (h1:i<L.length) (h2:i<S.M.length),L[i].A=S.M[i].1.A/\L[i].n=S.M[i].1.n/\L[i].cp=S.M[i].1.cp)/\OwnK w b 60 7 (.slice A N cA) (cellsM L)
 Q:∃ L:List Qx,L.length=K/\OwnK w b 45 4 (.slice B K cB) (cellsQ L)
 J:∃ L:List Jb,L.length=n/\(∀ i (h1:i<L.length) (h2:i<S.J.length),L[i].A=S.J[i].1.A/\L[i].n=S.J[i].1.n/\L[i].cp=S.J[i].1.cp)/\OwnK w b 66 13 (.slice C n cC) (cellsJ L)
 lM:∀ x ∈ S.M,RowF w x.1.A x.1.n
 lJ:∀ x ∈ S.J,RowF w x.1.A x.1.n
section
variable {w:World} {b:Nat} {A:Option Addr} {N cA:Nat} {B:Option Addr} {K cB:Nat} {C:Option Addr} {n cC:Nat} {S:Sg}
theorem OwnS.mut (h:OwnS w b (.slice A N cA) (.slice B K cB) (.slice C n cC) S):Mut w b A N cA B K cB C n cC S:=by
 obtain ⟨_,_,a1,_⟩:=h.M.sl
 obtain ⟨_,_,b1,_⟩:=h.Q.sl
 obtain ⟨_,_,c1,_⟩:=h.J.sl
 injection a1 with _ a1;injection b1 with _ b1;injection c1 with _ c1
 rw [cellsM_length] at a1;rw [cellsQ_length] at b1;rw [cellsJ_length] at c1
 exact ⟨⟨mcs S.M,a1.symm,fun i h1 h2=>by simp [mcs],h.M⟩,⟨S.Q,b1.symm,h.Q⟩,⟨jbs S.J,c1.symm,fun i h1 h2=>by simp [jbs],h.J⟩,fun x hx=>(h.lM x hx).rowF,fun x hx=>(h.lJ x hx).rowF⟩
theorem OwnK.aside {w:World} {b b' k k' g o:Nat} {e e':TypeId} {v v':Value} {l l':List (List Value)} (h:OwnK w b e k v l) (h':OwnK w b' e' k' v' l') (hne:e ≠ e') (hv:v'.ownBlock=some g) (u:Value):OwnK (w.setCell ⟨g,o,none⟩ u) b e k v l:=
 h.grp (p:=fun k=>k=g) ((GrP.refl (fun k=>k=g) w).set (a:=⟨g,o,none⟩) rfl u) fun i hi e=>by subst e;exact h.parted h' hne hi hv
theorem OwnK.asideL {w:World} {b k g o:Nat} {e:TypeId} {v:Value} {l:List (List Value)} {cur:Array Value} (h:OwnK w b e k v l) (hB:Bk w g 70 cur) (hne:e ≠ 70) (u:Value):OwnK (w.setCell ⟨g,o,none⟩ u) b e k v l:=
 h.grp (p:=fun k=>k=g) ((GrP.refl (fun k=>k=g) w).set (a:=⟨g,o,none⟩) rfl u) fun i hi e=>by
  subst e
  rcases h.notBk hB hne with h1 | h1
  ·rw [h1] at hi;cases hi
  ·exact h1 hi
theorem Mut.setL (h:Mut w b A N cA B K cB C n cC S) {A':Option Addr} {m i j:Nat} (hr:RowF w A' m) (hi:i<m) (hj:j<2) (u:ByteArray):∃ g,A' = some ⟨g,0,none⟩/\(∃ v,w.cell? ⟨g,i * 2+j,none⟩=some v)/\w.frozen? ⟨g,i * 2+j,none⟩=false/\Mut (w.setCell ⟨g,i * 2+j,none⟩ (.string u)) b A N cA B K cB C n cC S:=by
 obtain ⟨L,hL,hh,hO⟩:=h.M
 obtain ⟨LQ,hLQ,hOQ⟩:=h.Q
 obtain ⟨LJ,hLJ,hhJ,hOJ⟩:=h.J
 rcases hr with hr | ⟨g,cur,hA,hB,hs⟩
 ·omega
 ·refine ⟨g,hA,⟨cur[i * 2+j]'(by omega),by rw [hB.cellAt];exact Array.getElem?_eq_getElem _⟩,hB.free _,⟨L,hL,hh,hO.asideL hB (by decide) _⟩,⟨LQ,hLQ,hOQ.asideL hB (by decide) _⟩,⟨LJ,hLJ,hhJ,hOJ.asideL hB (by decide) _⟩,fun x hx=>(h.lM x hx).set _ _ _,fun x hx=>(h.lJ x hx).set _ _ _⟩
theorem Mut.headM (h:Mut w b A N cA B K cB C n cC S) {k:Nat} (hk:k<N) (hk2:k<S.M.length):∃ g,A=some ⟨g,0,none⟩/\w.cell? ⟨g,k * 7+4,none⟩=some (.slice S.M[k].1.A S.M[k].1.n S.M[k].1.cp):=by
 obtain ⟨L,hL,hh,hO⟩:=h.M
 have hkl:k<(cellsM L).length:=by rw [cellsM_length,hL];exact hk
 obtain ⟨g,c,hv,_⟩:=hO.somes (by omega)
 injection hv with e1 e2 e3
 subst e1 e3
 refine ⟨g,rfl,?_⟩
 have hr:=hO.range hkl 4 (.slice L[k].A L[k].n L[k].cp) (by simp [cellsM,Mc.cells])
 obtain ⟨q1,q2,q3⟩:=hh k (by omega) hk2
 rw [q1,q2,q3] at hr
 exact hr
end
theorem store_cell {P:Program} {w:World} {ops:Array Oper} {rest:List Oper} {o:Oper} {a:Act} {Q:Exit->Act->World->Prop} (hw:Region.wanted o (yielded ops a.tmps)=true) (ty:TypeId) (x y:Operand) (ho:o.op = .store ty x y)
  (p:Addr) (u:Value) (hx:a.eval x = .pointer (some p)) (hy:a.eval y=u) (v0:Value) (hc:w.cell? p=some v0) (hf:w.frozen? p=false)
  (hi:(P.info? ty).map (·.size)=some 1) (h1:u.oneCell' = true) (hu:u.cells = #[u])
  (h:∀ w',w' = w.setCell p u->wpList P ops Q rest (a.put o.dst undef) w'):wpList P ops Q (o :: rest) a w:=
 BigFrame.wpList_want hw fun K hKK=>by
  have hsv:(storeVar ty p u).run P w = .ok () (w.setCell p u):=by
   cases hq:P.info? ty with
   | none=>simp [hq] at hi
   | some i=>
    have hs:i.size=1:=by simpa [hq] using hi
    have hp:p.add 0=p:=by cases p;rfl
    simp [storeVar,sizeOf,typeInfo,hq,hu,hs,storeCells]
    rw [hp,run_store P w _ _ _ h1]
    simp [stored,hc,hf]
  unfold Oper.wp execOp
  simp only [ho,hx,hy,Instr.storeAt,Instr.sureAddr,Sem.run_bind,Sem.run_pure,Result.andThen_ok,hsv]
  exact hKK _ _ (h _ rfl)
theorem OwnS.offBk {w:World} {b p:Nat} {vM vQ vJ:Value} {S:Sg} {cs:Array Value} (h:OwnS w b vM vQ vJ S) (hB:Bk w p 31 cs):∀ k,blkS vM vQ vJ S k->k ≠ p:=by
 intro k hk e
 subst e
 have ho:∀ {e kk:Nat} {v:Value} {l:List (List Value)},OwnK w b e kk v l->e ≠ 31->v.ownBlock=some k->False:=fun h1 hne hv=>by
  rcases h1.notBk hB hne with h2 | h2
  ·rw [h2] at hv;cases hv
  ·exact h2 hv
 rcases hk with e | e | e | ⟨x,hx,a,e1,e2⟩ | ⟨x,hx,a,e1,e2⟩
 ·exact ho h.M (by decide) e
 ·exact ho h.Q (by decide) e
 ·exact ho h.J (by decide) e
 ·exact ho (h.lM x hx).own (by decide) (by rw [e1];exact congrArg some e2)
 ·exact ho (h.lJ x hx).own (by decide) (by rw [e1];exact congrArg some e2)
end
end Go.Proofs.YtlodjgcnffmniaaGreat
