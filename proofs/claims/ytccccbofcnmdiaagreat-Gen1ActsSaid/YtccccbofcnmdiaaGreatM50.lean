/- Lemmas that the law stands on. No condition. -/
import Derived.Test.YtccccbofcnmdiaaGreatM49
namespace Go.Proofs.YtccccbofcnmdiaaGreat
set_option linter.unusedSimpArgs false
set_option linter.unusedVariables false
set_option maxRecDepth 100000
set_option maxHeartbeats 51200000
section
open Go.ChangeShapes Go.WideShapes Go.RowKit Go.Deep
def eZ (x:Oz):List Value:=x.arr.toList
structure RdOps (w:World) (A:Option Addr) (z:List Oz):Prop where
 rd:RdK w 21 A (z.map eZ)
 ok:∀ x ∈ z,OzOk w x
theorem RdOps.later {w w':World} {A:Option Addr} {z:List Oz} (h:RdOps w A z) (hb:Below w.heap.size w w'):RdOps w' A z:=⟨h.rd.later hb,fun x hx=>(h.ok x hx).later hb⟩
section
variable {H:Type} {enc:TypeId × Value->H} {W:World} {base:Nat} {sp:Nat->Bool} {held:Bool}
def OzIn (W:World) (d:DataW H) (x:Oz):Prop:=∃ d0 da dl qa e2 e3 e4 e7,d = .agg [d0,.agg [.lit (.string x.v.nn.data.toList),da,dl],.agg [.lit (.string x.v.qn.data.toList),qa],.agg [.lit (.string x.v.tn.data.toList),.lit (.string x.v.tq.data.toList),e2,e3,e4,.lit (.string x.v.ta.data.toList),.lit (.string x.v.tg.data.toList),e7],.lit (.string x.v.s.data.toList)]/\LabsIn W dl x.A1 x.m1 x.p1 x.v.l1/\LabsIn W e4 x.A3 x.m3 x.p3 x.v.l3

theorem trod_oz {fuel:Nat} {cs:List Value} {x:DataW H × List MemPlace} (hf:DataW.trod enc Tryz.prog W base sp held fuel 49 cs=some x):∃ y:Oz,cs=eZ y/\OzIn W x.1 y:=by
 obtain ⟨ys,n,_,hx,hsz,hyl,hg⟩:=DataW.trod_struct Tryz.underlying49 hf
 rw [cellsOp] at hsz
 obtain ⟨x0,x1,x2,x3,x4,x5,x6,x7,x8,x9,u0,u1,u2,u3,u4,u5,u6,u7,u8,u9,z,rfl⟩:=list21 cs hsz
 obtain ⟨y0,y1,y2,y3,y4,rfl⟩:=list5 ys (by simpa using hyl)
 have h0:DataW.trod enc Tryz.prog W base sp held n 3 (List.take (Tryz.prog.cellsOf 3) [x0,x1,x2,x3,x4,x5,x6,x7,x8,x9,u0,u1,u2,u3,u4,u5,u6,u7,u8,u9,z])=some y0:=hg 0 _ rfl
 have h1:DataW.trod enc Tryz.prog W base sp held n 43 (List.take (Tryz.prog.cellsOf 43) [x1,x2,x3,x4,x5,x6,x7,x8,x9,u0,u1,u2,u3,u4,u5,u6,u7,u8,u9,z])=some y1:=hg 1 _ rfl
 have h2:DataW.trod enc Tryz.prog W base sp held n 45 (List.take (Tryz.prog.cellsOf 45) [x6,x7,x8,x9,u0,u1,u2,u3,u4,u5,u6,u7,u8,u9,z])=some y2:=hg 2 _ rfl
 have h3:DataW.trod enc Tryz.prog W base sp held n 47 (List.take (Tryz.prog.cellsOf 47) [u0,u1,u2,u3,u4,u5,u6,u7,u8,u9,z])=some y3:=hg 3 _ rfl
 have h4:DataW.trod enc Tryz.prog W base sp held n 9 (List.take (Tryz.prog.cellsOf 9) [z])=some y4:=hg 4 _ rfl
 rw [cellsInt] at h0
 rw [cellsNode] at h1
 rw [cellsQueue] at h2
 rw [cellsTask] at h3
 rw [cells9] at h4
 obtain ⟨k,rfl⟩:=open_field_int h0
 obtain ⟨nn,a1,b1,c1,A1,m1,p1,l1,da,dl,rfl,rfl,rfl,rfl,rfl,e1,hl1⟩:=open_node_f h1
 obtain ⟨qn,a2,b2,c2,qa,rfl,rfl,rfl,rfl,e2⟩:=open_queue_f h2
 obtain ⟨tn,tq,tp,a3,b3,c3,A3,m3,p3,l3,ta,tg,ts,d2,d3,d4,d7,rfl,rfl,rfl,rfl,rfl,rfl,rfl,rfl,rfl,rfl,e3,hl3⟩:=open_task_f h3
 obtain ⟨s,rfl,e4⟩:=open_field_string h4
 exact ⟨⟨⟨k,nn,a1,b1,c1,l1,qn,a2,b2,c2,tn,tq,tp,a3,b3,c3,l3,ta,tg,ts,s⟩,A1,m1,p1,A3,m3,p3⟩,rfl,y0.1,da,dl,qa,d2,d3,d4,d7,by have:=congrArg Prod.fst hx;simpa [e1,e2,e3,e4] using this,hl1,hl3⟩
theorem open_rowsO {κ:Type} {a:Option Addr} {len cap:Nat} {d:DataW H} {p:List MemPlace} {tS e k:Nat} (encE:κ->List Value) (okE:DataW H->κ->Prop)
  (hu:Tryz.prog.underlying tS=some (.slice e)) (hk:Tryz.prog.cellsOf e=k) (hk0:0<k) (hlen:∀ y,(encE y).length=k)
  (htr:∀ (sp:Nat->Bool) (held:Bool) (base fuel:Nat) (cs:List Value) (x:DataW H × List MemPlace),DataW.trod enc Tryz.prog W base sp held fuel e cs=some x -> ∃ y:κ,cs=encE y/\okE x.1 y)
  (h:DataW.Trod enc Tryz.prog W base sp held tS (.slice a len cap) d p) :
  ∃ l:List κ,len=l.length/\RdK W k a (l.map encE)/\len<=cap/\cap<=9223372036854775807 /\ ∀ y ∈ l,∃ elems spare e,d = .slice elems spare/\e ∈ elems/\okE e y:=by
 obtain ⟨fuel,hf⟩:=h
 rcases open_slice hu hf with ⟨hcs,_⟩ | ⟨x,n',c,m,n,D,Pl,hcs,_,hl,hm,hmm,hx,hi⟩
 ·simp [Value.cells] at hcs
  obtain ⟨rfl,rfl,rfl⟩:=hcs
  exact ⟨[],rfl,RdK.nil _ _ _,Nat.le_refl _,by omega,by simp⟩
 ·simp [Value.cells] at hcs
  obtain ⟨rfl,rfl,rfl⟩:=hcs
  rw [hk] at hi
  have hlm:len<=m:=by rw [hmm];split <;> omega
  have hm':cap<=9223372036854775807:=by unfold maxLen at hm;omega
  have hdat:d = .slice ((List.range len).map D) ((List.range (m - len)).map fun j=>D (len+j)):=congrArg Prod.fst hx
  have hspot:0<len->x.spot=none:=fun h=>by
   obtain ⟨cs',hc,ht⟩:=hi 0 (by omega)
   obtain ⟨_,hcl,hat⟩:=World.cells?_some hc
   have h0:=hat 0 (by omega)
   rw [List.getElem?_eq_getElem (by omega)] at h0
   simpa [Addr.add] using World.cell?_spot h0
  have key:∀ i,i<len -> ∃ y:κ,∃ g o,x=⟨g,o,none⟩/\W.rangeAt g (o+i * k) (encE y)/\okE (D i) y:=fun i hlt=>by
   obtain ⟨cs',hc,ht⟩:=hi i (by omega)
   obtain ⟨_,hcl,hat⟩:=World.cells?_some hc
   obtain ⟨y,rfl,hok⟩:=htr _ _ _ _ _ _ ht
   obtain ⟨g,o,spot⟩:=x
   have hs:spot=none:=hspot (by omega)
   subst hs
   refine ⟨y,g,o,rfl,fun j v hv=>?_,hok⟩
   have hj:j<k:=by rw [<- hlen y];exact (List.getElem?_eq_some_iff.1 hv).1
   have h1:=hat j (by omega)
   rw [Addr.add_lit,Addr.add_lit,hv] at h1
   exact h1
  have pick:∀ n,n<=len -> ∃ l:List κ,l.length=n/\RdK W k (some x) (l.map encE) /\ ∀ i y,l[i]? = some y->okE (D i) y:=by
   intro n
   induction n with
   | zero=>exact fun _=>⟨[],rfl,RdK.nil _ _ _,fun i y hy=>by simp at hy⟩
   | succ n ih=>
    intro hn
    obtain ⟨l,hll,hr,hall⟩:=ih (by omega)
    obtain ⟨y,g,o,hxx,hrg,hok⟩:=key n (by omega)
    refine ⟨l ++ [y],by simp [hll],fun i z hz=>?_,fun i z hz=>?_⟩
    ·rw [List.map_append] at hz
     by_cases hi':i<(l.map encE).length
     ·rw [List.getElem?_append_left hi'] at hz;exact hr i z hz
     ·rw [List.getElem?_append_right (by omega)] at hz
      have e:i=n:=by
       have:=(List.getElem?_eq_some_iff.1 hz).1
       simp at this hi';omega
      subst e
      simp [hll] at hz
      subst hz
      exact ⟨g,o,by rw [hxx],hrg⟩
    ·by_cases hi':i<l.length
     ·rw [List.getElem?_append_left hi'] at hz;exact hall i z hz
     ·rw [List.getElem?_append_right (by omega)] at hz
      have e:i=n:=by
       have:=(List.getElem?_eq_some_iff.1 hz).1
       simp at this;omega
      subst e
      rw [show i - l.length=0 by omega] at hz
      simp at hz;subst hz
      exact hok
  obtain ⟨l,hll,hr,hall⟩:=pick len (Nat.le_refl _)
  refine ⟨l,hll.symm,hr,by omega,hm',fun y hy=>?_⟩
  obtain ⟨i,hi',e⟩:=List.getElem_of_mem hy
  exact ⟨_,_,D i,hdat,List.mem_map.2 ⟨i,List.mem_range.2 (by omega),rfl⟩,hall i y (by rw [List.getElem?_eq_getElem hi',e])⟩
theorem open_ozs {a:Option Addr} {len cap:Nat} {d:DataW H} {p:List MemPlace} (h:DataW.Trod enc Tryz.prog W base sp held 22 (.slice a len cap) d p):∃ l:List Oz,len=l.length/\RdK W 21 a (l.map eZ)/\len<=cap/\cap<=9223372036854775807 /\ ∀ y ∈ l,∃ elems spare e,d = .slice elems spare/\e ∈ elems/\OzIn W e y:=
 open_rowsO eZ (OzIn W) Tryz.underlying22 cellsOp (by omega) (fun _=>rfl) (fun _ _ _ _ _ _ h=>trod_oz h) h
theorem okOz {ts:List TypeId} {ds:List (DataW H)} (h:(DataW.weightsEach Tryz.prog ts ds).all (· <= reachBytes)=true) {j:Nat} {d:DataW H} (ht:ts[j]? = some 49) (hd:ds[j]? = some d) {W:World} {x:Oz} (hk:OzIn W d x):OzOk W x:=by
 obtain ⟨d0,da,dl,qa,e2,e3,e4,e7,rfl,h1,h3⟩:=hk
 obtain ⟨z1,z3,n1,q1,t1,t2,t3,t4,s1⟩:=sized_op h ht hd h1 h3
 exact ⟨⟨h1.len,h1.rd,h1.cap,h1.cap2,z1⟩,⟨h3.len,h3.rd,h3.cap,h3.cap2,z3⟩,n1,q1,t1,t2,t3,t4,s1⟩
theorem okOzs {ts:List TypeId} {ds:List (DataW H)} (h:(DataW.weightsEach Tryz.prog ts ds).all (· <= reachBytes)=true) {j:Nat} {d:DataW H} (ht:ts[j]? = some 22) (hd:ds[j]? = some d) {W:World} {L:List Oz}
  (hL:∀ y ∈ L,∃ elems spare e,d = .slice elems spare/\e ∈ elems/\OzIn W e y):∀ y ∈ L,OzOk W y:=fun x hx=>by
 obtain ⟨el,spa,e,rfl,he,hk⟩:=hL x hx
 have hall:(DataW.weightsEach Tryz.prog [49] [e]).all (· <= reachBytes)=true:=by
  rw [List.all_eq_true] at h ⊢
  intro n hn
  refine h n (DataW.weights_mem_each ht hd n ?_)
  simp only [DataW.weights,Tryz.underlying22,List.mem_cons,List.mem_append]
  refine .inr (.inl (weightsAll_mem' he n ?_))
  simpa [DataW.weightsEach] using hn
 exact okOz hall (j:=0) rfl rfl hk
end


theorem few15_any (A:Option Addr) (n c:Nat) (z:List Oz) (w:World) (hn:Hid (n=z.length)) (hm:n<=9223372036854775807) (hr:Hid (RdOps w A z)):Calls Tryz.prog 13 #[.slice A n c] w fun e w'=>RetIf e (n<=150 /\ ∀ x ∈ z,x.m1<=20/\x.m3<=20)/\Below w.heap.size w w':=by
 by_cases h1:n<=150
 case neg=>
  have hni:(150:Int)<(n:Int):=by omega
  clear h1
  go_enter Tryz.func13,Tryz.ntmps13
  go_wp2_with fail
  go_ret
  exact ⟨RetIf.no,Below.refl _ _⟩
 have hni:¬ (150:Int)<(n:Int):=by omega
 have H1:=Lib.hid h1
 have KS:=Lib.hid (fun (x:Oz) W (h:OzOk W x)=>small15_any x W h)
 clear hm h1
 go_enter Tryz.func13,Tryz.ntmps13
 go_wp2_with fail
 clear hni
 go_loopw [9] (fun s9 wr=>∃ k:Nat,k<=n/\s9 = .int .i64 k/\Hid (∀ x ∈ z.take k,x.m1<=20/\x.m3<=20)/\Hid (Below w.heap.size w wr)) (fun s9 wr=>n - (intOf s9).toNat)
 case atStart=>exact ⟨0,Nat.zero_le _,rfl,(by intro x hx;simp at hx),Below.refl _ _⟩
 case round=>
  obtain ⟨k,hk,rfl,HA,HB⟩:=hrel
  by_cases hlt:k<n
  ·have hkl:Hid (k<z.length):=by show k<z.length;rw [<- hn.out];exact hlt
   obtain ⟨x,hx⟩:∃ x,x=z[k]'hkl.out:=⟨_,rfl⟩
   obtain ⟨g,o,hA,hrg⟩:=(hr.out.later HB.out).rd.at (i:=k) (by rw [List.length_map];exact hkl.out)
   rw [List.getElem_map,<- hx] at hrg
   have HX:Hid (wr.rangeAt g (o+k * 21) x.arr.toList):=hrg
   have HOK:Hid (OzOk wr x):=(hr.out.later HB.out).ok x (by rw [hx];exact List.getElem_mem _)
   have HXE:=Lib.hid hx
   subst hA
   have hwk:wrap64 ((k:Int)+1)=((k+1:Nat):Int):=by have:=H1.out;unfold wrap64;omega
   clear hrg hx
   go_wp2_with (with_reducible refine load_rg rfl 49 _ rfl g (o+k * 21) rfl x.arr _ HX.out Tryz.underlying49 rfl (by kernel_rfl) ?_)
   refine (KS.out x _ HOK.out).mono ?_
   rintro e w2 ⟨⟨b,rfl,hbt⟩,hb2⟩
   have HB2:=Lib.hid (HB.out.trans (hb2.mono HB.out.size))
   clear hb2
   cases b with
   | false=>
    clear hbt
    go_wp2_with fail
    go_ret
    exact ⟨RetIf.no,HB2.out⟩
   | true=>
    have HA2:Hid (∀ x ∈ z.take (k+1),x.m1<=20/\x.m3<=20):=mem_take_succ hkl.out HA.out (by rw [<- HXE.out];exact hbt rfl)
    clear hbt
    go_wp2_with fail
    go_round
    case rel=>exact ⟨k+1,by omega,by go_num,HA2,HB2⟩
    case measure=>
     first
     | (rw [hwk];show n - ((k+1:Nat):Int).toNat<n - ((k:Nat):Int).toNat;rw [Int.toNat_natCast,Int.toNat_natCast];omega)
     | (show n - ((k:Int)+1).toNat<n - ((k:Nat):Int).toNat;omega)
  ·have hkn:k=n:=by omega
   have HF:Hid (∀ x ∈ z,x.m1<=20/\x.m3<=20):=by have h:=HA.out;rw [hkn,hn.out,List.take_length] at h;exact h
   clear HA hk hlt
   subst hkn
   go_wp2_with fail
   go_ret
   exact ⟨RetIf.yes ⟨H1.out,HF.out⟩,HB.out⟩
end
section
open Go.RowKit
def stF (S:Sg) (v:Ov):Sg × An:=stepG bsF chF unF S v
theorem GrP.more {p:Nat->Prop} {w0 wr w':World} {row:Option Nat} (h:GrP p w0 wr) (hg:wr.grownBy w' row) (hn:∀ k,row=some k->p k ∨ w0.heap.size<=k):GrP p w0 w':=
 ⟨hg.os.trans h.os,hg.tape.trans h.tape,hg.output.trans h.output,Nat.le_trans h.size hg.size,fun k hk hp=>(hg.block k (Nat.lt_of_lt_of_le hk h.size) fun e=>by
  rcases hn k e.symm with h1 | h1
  ·exact hp h1
  ·omega).trans (h.block k hk hp)⟩
def nextF (F:Nat->Prop) (W w':World) (k:Nat):Prop:=(F k ∨ W.heap.size<=k)/\k<w'.heap.size
section
variable {w wr w':World} {g h:Nat} {F K:Nat->Prop} {S T S' T':Sg} {m m2 m':Int} {p:Nat}
theorem nextF.off (hF:¬ F p) (hp:p<wr.heap.size):¬ nextF F wr w' p:=fun h=>h.1.elim hF fun h2=>by omega
end
def RetD (b:Nat) (w:World) (e:Ending) (R:An):Prop:=∃ A n c,e = .returned (.agg #[.int .i64 R.1,.slice A n c])/\RetL b w A n c R.2
theorem tg_new1 (w wr:World) (hb:Below w.heap.size w wr):Calls Tryz.prog 14 #[] wr fun e w'=>e = .returned (.pointer (some ⟨wr.heap.size,0,none⟩))/\Gx w' w.heap.size wr.heap.size (fun k=>wr.heap.size<=k/\k<w'.heap.size) Sg.new/\Below wr.heap.size wr w':=by
 refine (gx_new wr).mono ?_
 rintro e w' ⟨rfl,h,hb2⟩
 exact ⟨rfl,(h.base hb.size).wide fun k hk hf=>⟨hf,hk⟩,hb2⟩
end
section
open Go.RowKit
theorem fitC:FitC chF:=fun L J p hM h=>by
 cases hc:choF L J p with
 | none=>unfold chF at h;rw [hc] at h;cases h
 | some x=>
  obtain ⟨⟨G,h1,-,-,h4⟩,-⟩:=cho_is hc
  rw [plansOf_at h4] at h1
  refine ⟨G,?_,?_,fun i hi=>?_⟩
  ·unfold chF;rw [hc]
   show namesAt _ ((plansOf _ _ _ _ x.1).getD [])=_
   rw [plansOf_at h4,h1];rfl
  ·rcases places_is h1 with ⟨_,rfl⟩ | ⟨k,_,_,_,rfl,_⟩
   ·exact List.nodup_nil
   ·exact (weak_nodup _).sublist (List.take_sublist _ _)
  ·obtain ⟨a,b,_⟩:=plan_each h1 i hi
   have ai:i<J.length:=by simpa [jbs] using a
   rw [jat_jbs ai] at b
   refine ⟨ai,?_⟩
   rw [jl_at ai,b]
   exact decide_eq_false (hM _ (List.getElem_mem h4))
theorem fitU:FitU unF:=fun J=>⟨units_nodup (jbs J),fun u hu q hq=>by
 obtain ⟨p,r,_,h,_⟩:=units_in hu
 obtain ⟨a,b,_⟩:=h q hq
 have aq:q<J.length:=by simpa [jbs] using a
 rw [jat_jbs aq] at b
 rw [jl_at aq]
 exact decide_eq_true b⟩
def Led (S:Sg):Prop:=NdJ S.J/\NeM S.M
def LedTo (S:Sg) (r:Sg × An):Prop:=Goes S.J r.2.2 r.1.J/\Led r.1
theorem LedTo.same {S:Sg} (h:Led S) (e:Int):LedTo S (S,e,[]):=⟨Goes.none _,h⟩
theorem addN_led {S:Sg} (h:Led S) {nm:ByteArray} (hs:nm.size ≠ 0) (a b c:Int) (l:List Lb):LedTo S (addN S nm a b c l):=by
 unfold addN
 split
 ·exact LedTo.same h _
 ·split
  ·exact LedTo.same h _
  ·refine ⟨Goes.none _,h.1,fun x hx=>?_⟩
   change x ∈ insM _ _ at hx
   unfold insM at hx
   rcases List.mem_append.1 hx with h1 | h1
   ·exact h.2 x (List.mem_of_mem_take h1)
   ·rcases List.mem_cons.1 h1 with rfl | h1
    ·exact hs
    ·exact h.2 x (List.mem_of_mem_drop h1)
theorem has_ne {M:List Ml} (hM:NeM M) {s:ByteArray} (h:hasK s (keyM M)=true):s.size ≠ 0:=by
 unfold hasK at h
 obtain ⟨x,hx,hs⟩:=List.any_eq_true.1 h
 obtain ⟨y,hy,rfl⟩:=List.mem_map.1 hx
 rw [<- sE_iff.1 hs]
 exact hM y hy
theorem dropN_led {S:Sg} (h:Led S) (s:ByteArray):LedTo S (dropN' S s):=by
 unfold dropN'
 split
 ·rename_i hh
  obtain ⟨a,b⟩:=relJ_leads (J:=S.J) (has_ne h.2 hh) h.1
  exact ⟨a,b,fun x hx=>h.2 x ((List.eraseIdx_sublist _ _).subset hx)⟩
 ·exact LedTo.same h _
theorem addQ_led {S:Sg} (h:Led S) (q:Qx):LedTo S (addQ S q):=by
 unfold addQ
 split
 ·exact LedTo.same h _
 ·split
  ·exact LedTo.same h _
  ·exact ⟨Goes.none _,h⟩
theorem dropQ_led {S:Sg} (h:Led S) (s:ByteArray):LedTo S (dropQ S s):=by
 unfold dropQ
 split
 ·split
  ·exact LedTo.same h _
  ·exact ⟨Goes.none _,h⟩
 ·exact LedTo.same h _
theorem pl_at {s:ByteArray} {J:List Jl} (h:¬ plJ s J<0):∃ p,∃ hp:p<J.length,plJ s J=(p:Int)/\sE J[p].1.nm s=true:=by
 rcases fnd_cases s (jbs J) 0 with e | ⟨p,hp,h1,h2⟩
 ·exact absurd (show plJ s J<0 by show fnd s 0 (jbs J)<0;rw [e];omega) h
 ·have hp':p<J.length:=by simpa [jbs] using hp
  refine ⟨p,hp',by rw [show plJ s J=_ from h1,Nat.zero_add],?_⟩
  have e:(jbs J)[p]=J[p].1:=by simp [jbs]
  rwa [e] at h2
theorem subJ_led {S:Sg} (h:Led S) (nm qu:ByteArray) (pr a b c:Int) (ap ga:ByteArray) (sz:Int) (l:List Lb):LedTo S (subJ S nm qu pr a b c ap ga sz l):=by
 unfold subJ
 split
 ·exact LedTo.same h _
 ·rename_i hpl
  split
  ·exact LedTo.same h _
  ·split
   ·exact LedTo.same h _
   ·split
    ·exact LedTo.same h _
    ·split
     ·exact LedTo.same h _
     ·have hno:fnd nm 0 (jbs S.J) = -1:=by
       rcases fnd_cases nm (jbs S.J) 0 with e | ⟨p,hp,h1,h2⟩
       ·exact e
       ·exact absurd (show 0<=plJ nm S.J by show 0<=fnd nm 0 (jbs S.J);rw [h1];omega) hpl
      refine ⟨Goes.same ?_,?_,h.2⟩
      ·show (bnd S.J).Perm (bnd (S.J ++ [_]))
       rw [bnd_append]
       show (bnd S.J).Perm (bnd S.J ++ [])
       rw [List.append_nil]
      ·show NdJ (S.J ++ [_])
       unfold NdJ
       rw [List.map_append]
       show ((S.J.map fun x=>x.1.nm) ++ [nm]).Nodup
       refine List.pairwise_append.2 ⟨h.1,List.pairwise_singleton _ _,fun x hx y hy e=>?_⟩
       rw [List.mem_singleton] at hy
       obtain ⟨z,hz,rfl⟩:=List.mem_map.1 hx
       exact fnd_none hno z hz (sE_iff.2 (e.trans hy))
theorem canJ_led {S:Sg} (h:Led S) (s:ByteArray):LedTo S (canJ S s):=by
 unfold canJ
 split
 ·exact LedTo.same h _
 ·rename_i hpl
  obtain ⟨p,hp,e,_⟩:=pl_at hpl
  rw [e,Int.toNat_natCast,jl_at hp]
  cases hw:wB S.J[p].1.nd with
  | true=>exact ⟨wait_erase hp hw,erase_names h.1,h.2⟩
  | false=>exact ⟨bound_erase (by omega) hp hw h.1,erase_names h.1,h.2⟩
theorem beatN_led {S:Sg} (h:Led S) (s:ByteArray):LedTo S (beatN S s):=by
 unfold beatN
 split
 ·refine ⟨Goes.none _,h.1,fun x hx=>?_⟩
  change x ∈ S.M.modify _ _ at hx
  obtain ⟨i,hi,e⟩:=List.getElem_of_mem hx
  rw [List.getElem_modify] at e
  rw [List.length_modify] at hi
  split at e
  ·rw [<- e]
   show S.M[i].1.nm.size ≠ 0
   exact h.2 _ (List.getElem_mem hi)
  ·rw [<- e];exact h.2 _ (List.getElem_mem hi)
 ·exact LedTo.same h _
theorem finJ_led {S:Sg} (h:Led S) (s:ByteArray):Led (finJ S s).1/\(finJ S s).2.2=[]/\((finJ S s).2.1=0 -> ∃ p,∃ hp:p<S.J.length,sE S.J[p].1.nm s=true/\wB S.J[p].1.nd=false/\(finJ S s).1.J=S.J.eraseIdx p)/\((finJ S s).2.1 ≠ 0->(finJ S s).1=S):=by
 unfold finJ
 split
 ·exact ⟨h,rfl,fun e=>absurd e (by show ¬ (7:Int)=0;omega),fun _=>rfl⟩
 ·rename_i hpl
  obtain ⟨p,hp,e,hs⟩:=pl_at hpl
  rw [e,Int.toNat_natCast,jl_at hp]
  split
  ·exact ⟨h,rfl,fun e=>absurd e (by show ¬ (12:Int)=0;omega),fun _=>rfl⟩
  ·rename_i hw
   exact ⟨⟨erase_names h.1,h.2⟩,rfl,fun _=>⟨p,hp,hs,by simpa using hw,rfl⟩,fun e=>absurd rfl e⟩
theorem name_ne {s:ByteArray} (h:nameB s=true):s.size ≠ 0:=by
 unfold nameB nameL at h
 simp only [Bool.and_eq_true,decide_eq_true_eq] at h
 have h1:=h.1.1.1
 intro e
 have:s.data.toList.length=s.size:=by rw [Array.length_toList];rfl
 omega
theorem step_led {S:Sg} (h:Led S) (v:Ov):Led (stF S v).1/\(¬ (v.k=7/\(stF S v).2.1=0)->Goes S.J (stF S v).2.2 (stF S v).1.J) /\
  (v.k=7->(stF S v).2.1=0->(stF S v).2.2=[] /\ ∃ p,∃ hp:p<S.J.length,sE S.J[p].1.nm v.s=true/\wB S.J[p].1.nd=false/\(stF S v).1.J=S.J.eraseIdx p):=by
 unfold stF stepG
 by_cases hb:opB v=true
 ·rw [if_pos hb]
  unfold opG
  have fin:∀ {r:Sg × An},v.k ≠ 7->LedTo S r->Led r.1/\(¬ (v.k=7/\r.2.1=0)->Goes S.J r.2.2 r.1.J)/\(v.k=7->r.2.1=0->r.2.2=[] /\ ∃ p,∃ hp:p<S.J.length,sE S.J[p].1.nm v.s=true/\wB S.J[p].1.nd=false/\r.1.J=S.J.eraseIdx p):=
   fun h7 hr=>⟨hr.2,fun _=>hr.1,fun e=>absurd e h7⟩
  by_cases h1:v.k=1
  ·rw [if_pos h1]
   rw [opB_1 h1] at hb
   refine fin (by omega) (addN_led h ?_ _ _ _ _)
   simp only [Bool.and_eq_true,Ov.vN,nodeB] at hb
   exact name_ne hb.1.1.1.1.1
  rw [if_neg h1]
  by_cases h2:v.k=2
  ·rw [if_pos h2];exact fin (by omega) (dropN_led h _)
  rw [if_neg h2]
  by_cases h3:v.k=3
  ·rw [if_pos h3];exact fin (by omega) (addQ_led h _)
  rw [if_neg h3]
  by_cases h4:v.k=4
  ·rw [if_pos h4];exact fin (by omega) (dropQ_led h _)
  rw [if_neg h4]
  by_cases h5:v.k=5
  ·rw [if_pos h5];exact fin (by omega) (subJ_led h ..)
  rw [if_neg h5]
  by_cases h6:v.k=6
  ·rw [if_pos h6];exact fin (by omega) (canJ_led h _)
  rw [if_neg h6]
  by_cases h7:v.k=7
  ·rw [if_pos h7]
   obtain ⟨f1,f2,f3,f4⟩:=finJ_led h v.s
   refine ⟨f1,fun hn=>?_,fun _ e=>⟨f2,f3 e⟩⟩
   rw [f2,f4 (fun e=>hn ⟨h7,e⟩)]
   exact Goes.none _
  rw [if_neg h7]
  by_cases h8:v.k=8
  ·rw [if_pos h8];exact fin (by omega) (beatN_led h _)
  rw [if_neg h8]
  obtain ⟨a,b,c⟩:=tick_leads bestK choK uniK fitC fitU h.2 h.1
  exact fin h7 ⟨a,b,c⟩
 ·rw [if_neg hb]
  exact ⟨h,fun _=>Goes.none _,fun _ e=>absurd e (by show ¬ (1:Int)=0;omega)⟩
theorem led_new:Led Sg.new:=⟨List.nodup_nil,fun x hx=>by cases hx⟩
theorem tells_new:Tells Sg.new.J []:=List.Perm.nil
theorem tells_fin {J:List Jl} {W:List Ac} {p:Nat} (hn:NdJ J) (hW:Tells J W) (hp:p<J.length) (hw:wB J[p].1.nd=false) {s:ByteArray} (hs:sE J[p].1.nm s=true) :
  ∃ q,∃ hq:q<W.length,sE W[q].2.1 s=true/\Tells (J.eraseIdx p) (W.eraseIdx q):=by
 obtain ⟨W',h1,h2⟩:=bound_erase (k:=3) (by omega) hp hw hn W hW
 have hm:(J[p].1.nm,J[p].1.nd) ∈ W.map Prod.snd:=hW.mem_iff.2 ((bnd_split hp).mem_iff.2 (List.mem_append_left _ (by unfold bn1;rw [hw];exact List.mem_singleton_self _)))
 obtain ⟨q,hq,e⟩:=List.getElem_of_mem hm
 rw [List.length_map] at hq
 rw [List.getElem_map] at e
 refine ⟨q,hq,by rw [e];exact hs,?_⟩
 have hx:(W.map Prod.snd).Perm ((J[p].1.nm,J[p].1.nd) :: (W.eraseIdx q).map Prod.snd):=by
  have:=(erase_perm hq).map Prod.snd
  rwa [List.map_cons,e] at this
 have hy:=bnd_split hp
 have e1:bn1 J[p]=[(J[p].1.nm,J[p].1.nd)]:=by unfold bn1;rw [hw];rfl
 rw [e1] at hy
 exact ((hx.symm.trans hW).trans hy).cons_inv
theorem tells_many {J:List Jl} {W:List Ac} (h:Tells J W):(J.filter fun x=>!wB x.1.nd).length=W.length /\ ∀ x ∈ J,wB x.1.nd=false -> ∃ y ∈ W,y.2.1=x.1.nm/\y.2.2=x.1.nd:=by
 constructor
 ·have h1:=h.length_eq
  rw [List.length_map] at h1
  rw [h1]
  clear h h1
  induction J with
  | nil=>rfl
  | cons x J ih=>
   show _=(bn1 x ++ bnd J).length
   unfold bn1
   cases hw:wB x.1.nd <;> simp [hw,ih]
 ·intro x hx hw
  have hm:(x.1.nm,x.1.nd) ∈ W.map Prod.snd:=h.mem_iff.2 (List.mem_flatMap.2 ⟨x,hx,by unfold bn1;rw [hw];exact List.mem_singleton_self _⟩)
  obtain ⟨y,hy,e⟩:=List.mem_map.1 hm
  exact ⟨y,hy,by rw [e],by rw [e]⟩
theorem runW_at {W W':List Ac} {l:List Ac} (h:runW W l=some W') {k:Nat} (hk:k<l.length):∃ A B,runW W (l.take k)=some A/\actW A l[k]=some B/\runW W (l.take (k+1))=some B:=by
 have e:l=l.take k ++ l[k] :: l.drop (k+1):=by rw [<- List.drop_eq_getElem_cons hk,List.take_append_drop]
 have h1:=h
 rw [e,runW_append] at h1
 cases hA:runW W (l.take k) with
 | none=>rw [hA] at h1;cases h1
 | some A=>
  rw [hA] at h1
  change (actW A l[k]).bind _=_ at h1
  cases hB:actW A l[k] with
  | none=>rw [hB] at h1;cases h1
  | some B=>
   refine ⟨A,B,rfl,hB,?_⟩
   rw [List.take_succ_eq_append_getElem hk,runW_append,hA]
   show (actW A l[k]).bind _=_
   rw [hB];rfl
theorem atK_range (t:ByteArray) (W:List Ac):∀ k,k<=W.length->atK t W k = -1 ∨ ∃ p,p<k/\p<W.length/\atK t W k=(p:Int)
 | 0,_=>.inl rfl
 | k+1,hk=>by
  unfold atK
  split
  ·exact .inr ⟨k,by omega,by omega,rfl⟩
  ·rcases atK_range t W k (by omega) with h | ⟨p,h1,h2,h3⟩
   ·exact .inl h
   ·exact .inr ⟨p,by omega,h2,h3⟩
theorem actW_is {W B:List Ac} {x:Ac} (h:actW W x=some B):(x.1=1/\atW x.2.1 W = -1/\B=W ++ [x]) ∨ (x.1 ≠ 1 /\ ∃ p,∃ hp:p<W.length,atW x.2.1 W=(p:Int)/\sE W[p].2.2 x.2.2=true/\B=W.eraseIdx p):=by
 have hr:=atK_range x.2.1 W W.length (Nat.le_refl _)
 unfold actW at h
 by_cases hk:x.1=1
 ·rw [if_pos hk] at h
  split at h
  ·cases h
  ·rename_i ha
   injection h with h
   refine .inl ⟨hk,?_,h.symm⟩
   rcases hr with e | ⟨p,-,-,e⟩
   ·exact e
   ·exact absurd (show 0<=atW x.2.1 W by show 0<=atK _ _ _;rw [e];omega) ha
 ·rw [if_neg hk] at h
  split at h
  ·cases h
  ·rename_i ha
   rcases hr with e | ⟨p,-,hp,e⟩
   ·exact absurd (show atW x.2.1 W<0 by show atK _ _ _<0;rw [e];omega) ha
   ·have e':atW x.2.1 W=(p:Int):=e
    have eg:W.getD p (0,⟨#[]⟩,⟨#[]⟩)=W[p]:=by simp [List.getD,List.getElem?_eq_getElem hp]
    rw [e',Int.toNat_natCast,eg] at h
    split at h
    ·rename_i hs
     injection h with h
     exact .inr ⟨hk,p,hp,e',hs,h.symm⟩
    ·cases h
theorem tells_len {J:List Jl} {W:List Ac} (h:Tells J W):W.length<=J.length:=by
 rw [<- (tells_many h).1];exact List.length_filter_le _ _
theorem task_one {W:List Ac} (hn:(W.map fun y=>y.2.1).Nodup) {q n:Nat} (hq:q<W.length) (hl:n<W.length) {s:ByteArray} (h1:sE W[q].2.1 s=true) (h2:sE W[n].2.1 s=true):n=q:=by
 rcases Nat.lt_trichotomy n q with h | h | h
 ·exact absurd (by rw [List.getElem_map,List.getElem_map,sE_iff.1 h1,sE_iff.1 h2]) (List.pairwise_iff_getElem.1 hn n q (by simpa using hl) (by simpa using hq) h)
 ·exact h
 ·exact absurd (by rw [List.getElem_map,List.getElem_map,sE_iff.1 h1,sE_iff.1 h2]) (List.pairwise_iff_getElem.1 hn q n (by simpa using hq) (by simpa using hl) h)
theorem step_fin {S:Sg} (h:Led S) (v:Ov) {W:List Ac} (hW:Tells S.J W) (hk:v.k=7) (he:(stF S v).2.1=0) :
  (stF S v).2.2=[] /\ ∃ q,∃ hq:q<W.length,sE W[q].2.1 v.s=true/\(∀ n (hn:n<W.length),n<q->sE W[n].2.1 v.s=false)/\Tells (stF S v).1.J (W.eraseIdx q):=by
 obtain ⟨e,p,hp,hs,hw,hJ⟩:=(step_led h v).2.2 hk he
 obtain ⟨q,hq,hqs,hT⟩:=tells_fin h.1 hW hp hw hs
 refine ⟨e,q,hq,hqs,fun n hn hnq=>?_,by rw [hJ];exact hT⟩
 cases hc:sE W[n].2.1 v.s with
 | false=>rfl
 | true=>exact absurd (task_one (hW.nodup h.1) hq hn hqs hc) (by omega)
end
section
open Go.RowKit
structure FullK (w:World) (base k:Nat) (v:Value) (l:List (List Value)) (g:Nat):Prop where
 val:v = .slice (some ⟨g,0,none⟩) l.length l.length
 le:base<=g
 lt:g<w.heap.size
 rd:RdK w k (some ⟨g,0,none⟩) l
 len:∀ x ∈ l,x.length=k
 cap:l.length<=maxLen
def CutK (w:World) (base:Nat) (e:TypeId) (k:Nat) (v:Value) (l:List (List Value)):Prop:=OwnK w base e k v l ∨ ∃ g,FullK w base k v l g
section
variable {P:Program} {w w':World} {base k:Nat} {e:TypeId} {v:Value} {l:List (List Value)}
theorem CutK.below (h:CutK w base e k v l) (hb:Below w.heap.size w w'):CutK w' base e k v l:=by
 rcases h with h | ⟨g,h⟩
 ·exact .inl (h.below hb)
 ·exact .inr ⟨g,h.val,h.le,Nat.lt_of_lt_of_le h.lt hb.size,h.rd.later hb,h.len,h.cap⟩
theorem CutK.len (h:CutK w base e k v l):∀ x ∈ l,x.length=k:=by
 rcases h with h | ⟨g,h⟩
 ·exact h.1
 ·exact h.len
theorem CutK.sl (h:CutK w base e k v l):∃ A c,SlK w base k v l A c:=by
 rcases h with h | ⟨g,h⟩
 ·exact h.sl
 ·exact ⟨_,_,h.val,h.rd,Nat.le_refl _,h.cap,fun g' o p e=>by injection e with e;injection e with e1 e2 e3;subst e1;exact ⟨h.le,h.lt⟩⟩
theorem RdK.dropC {A:Option Addr} (h:RdK w k A l) (n:Nat) {g o:Nat} (hA:A=some ⟨g,o,none⟩):RdK w k (some ⟨g,o+n * k,none⟩) (l.drop n):=fun i x hx=>by
 rw [List.getElem?_drop] at hx
 obtain ⟨g',o',e1,e2⟩:=h _ x hx
 rw [hA] at e1
 injection e1 with e1
 injection e1 with e1 e3
 subst e1 e3
 refine ⟨_,_,rfl,?_⟩
 have:o+n * k+i * k=o+(n+i) * k:=by rw [Nat.add_mul];omega
 rw [this];exact e2
theorem run_void_full (t ty:TypeId) (i:TypeInfo) (ht:P.underlying t=some (.slice e)) (hi:P.info? e=some i) (a:Addr) (p:Nat) (B:Option Addr) (c:Nat) :
  (Builtin.append_ #[t,t] ty #[.slice (some a) p p,.slice B 0 c]).run P w = .ok (.slice (some a) p p) w:=by
 cases B <;> simp [Builtin.append_,run_underlying ht,sizeOf,typeInfo,hi,Builtin.lenOf,Builtin.firstCells,storeCells,loadCells,loadCellsFrom]
theorem cut_op {o:Oper} {a:Act} {K:Act->World->Prop} {Q:Exit->Act->World->Prop}
  (s x:Operand) (t:TypeId) (hop:o.op=Op.call { callee:=Callee.builtin Builtin.append,args:=#[s,x],argTypes:=#[t,t] })
  (z:Value) (b:Nat) (h1:P.underlying t=some (.slice e)) (h2:(P.info? e).map (fun i=>(i.zero,i.size,i.bytes))=some (some z,k,b)) (hz:z.cells.size=k) (hk:0<k)
  (hown:CutK w base e k v l) (p:Nat) (hp:p<l.length) (g:Nat) (n c:Nat) (hv:v = .slice (some ⟨g,0,none⟩) n c) (hs:a.eval s = .slice (some ⟨g,0,none⟩) p p)
  (B:Option Addr) (m c':Nat) (hx:a.eval x = .slice B m c') (hm:m=l.length - (p+1)) (hB:0<m->B=some ⟨g,(p+1) * k,none⟩)
  (b1:l.length * b<=140737488355328) (hbase:base<=w.heap.size)
  (hK:∀ v' w',CutK w' base e k v' (l.eraseIdx p)->w.grownBy w' none->(v'.ownBlock=some g ∨ ∀ q,v'.ownBlock=some q->w.heap.size<=q)->K (a.put o.dst v') w'):o.wp P a w K Q:=by
 obtain ⟨A,c2,hS⟩:=hown.sl
 have e1:=hS.val
 rw [hv] at e1
 injection e1 with e1 e2 e3
 have hrd:RdK w k (some ⟨g,0,none⟩) l:=by rw [e1];exact hS.rd
 obtain ⟨gb,gl⟩:=hS.new g 0 none e1.symm
 have ee:l.eraseIdx p=l.take p ++ l.drop (p+1):=List.eraseIdx_eq_take_drop_succ l p
 have hc2:=hS.cap
 have hc3:=hS.cap2
 obtain ⟨i,hi,hiz,his,hib⟩:=info_partsK h2
 rcases Nat.eq_zero_or_pos m with h0 | h0
 ·have hd:l.drop (p+1)=[]:=List.drop_eq_nil_of_le (by omega)
  rw [hd,List.append_nil] at ee
  have hrun:=run_void_full (P:=P) (w:=w) t o.type i h1 hi ⟨g,0,none⟩ p B c'
  rw [h0] at hx
  unfold Oper.wp
  simp [execOp,hop,resolve,invoke,builtin,hs,hx,hrun,Result.andThen]
  refine hK _ _ (.inr ⟨g,?_,gb,gl,?_,?_,?_⟩) ⟨rfl,rfl,rfl,Nat.le_refl _,fun _ _ _=>rfl⟩ (.inl rfl)
  ·rw [ee,List.length_take,Nat.min_eq_left (by omega)]
  ·rw [ee];exact hrd.take p
  ·rw [ee];exact fun y hy=>hown.len y (List.mem_of_mem_take hy)
  ·rw [ee,List.length_take];omega
 ·have ht1:∀ y ∈ l.take p,y.length=k:=fun y hy=>hown.len y (List.mem_of_mem_take hy)
  have ht2:∀ y ∈ l.drop (p+1),y.length=k:=fun y hy=>hown.len y (List.mem_of_mem_drop hy)
  have hl1:(l.take p).length=p:=by rw [List.length_take];omega
  have hl2:(l.drop (p+1)).length=m:=by rw [List.length_drop];omega
  have hpm:p+m<=l.length:=by omega
  obtain ⟨v',w',hrun,r1,r2⟩:=run_append_arg_grows (P:=P) w t o.type e i z k b h1 hi hiz his hib hz hk ⟨g,0,none⟩ p p (l.take p).flatten (by rw [flat_length ht1,hl1]) ((hrd.take p).cells ht1)
   ⟨g,(p+1) * k,none⟩ m c' (l.drop (p+1)).flatten (by rw [flat_length ht2,hl2]) (RdK.cells (by have:=hrd.dropC (p+1) rfl;rwa [Nat.zero_add] at this) ht2) (by omega) (by omega)
   (Nat.le_trans (Nat.mul_le_mul_right b hpm) b1)
  rw [hB h0] at hx
  unfold Oper.wp
  simp [execOp,hop,resolve,invoke,builtin,hs,hx,hrun,Result.andThen]
  have hO:OwnK w' w.heap.size e k v' (l.eraseIdx p):=⟨by rw [ee];exact fun y hy=>(List.mem_append.1 hy).elim (ht1 y) (ht2 y),by rw [ee,List.length_append,List.flatten_append,hl1,hl2];exact r1⟩
  exact hK _ _ (.inl (hO.base hbase)) r2 (.inr hO.block)
theorem CutK.grp {p:Nat->Prop} (h:CutK w base e k v l) (hg:GrP p w w') (hp:∀ g,v.ownBlock=some g -> ¬ p g):CutK w' base e k v l:=by
 rcases h with h | ⟨g,h⟩
 ·exact .inl (h.grp hg hp)
 ·have hb:=hg.block g h.lt (hp g (by rw [h.val];rfl))
  refine .inr ⟨g,h.val,h.le,Nat.lt_of_lt_of_le h.lt hg.size,fun i x hx=>?_,h.len,h.cap⟩
  obtain ⟨g',o,e1,e2⟩:=h.rd i x hx
  injection e1 with e1
  injection e1 with e1 e3
  subst e1 e3
  exact ⟨_,_,rfl,fun j u hu=>by
   have:=e2 j u hu
   unfold World.cell? at this ⊢
   rw [hb];exact this⟩
theorem CutK.block (h:CutK w base e k v l):∀ g,v.ownBlock=some g->base<=g/\g<w.heap.size:=by
 rcases h with h | ⟨g,h⟩
 ·exact fun g hg=>⟨h.block g hg,h.lt hg⟩
 ·intro g' hg
  rw [h.val] at hg
  injection hg with hg
  subst hg
  exact ⟨h.le,h.lt⟩
end
end
end Go.Proofs.YtccccbofcnmdiaaGreat
