/- Lemmas that the law stands on. No condition. -/
import Derived.Test.YtccccbofcnmdiaaGreatM49
namespace Go.Proofs.YtccccbofcnmdiaaGreat
set_option linter.unusedSimpArgs false
set_option linter.unusedVariables false
set_option maxRecDepth 100000
set_option maxHeartbeats 51200000
section
open Go.ChangeShapes Go.WideShapes Go.RowKit Go.Deep
def eZ (x:Oz):List Value:=x.arr.toList
structure RdOps (w:World) (A:Option Addr) (z:List Oz):Prop where
 rd:RdK w 21 A (z.map eZ)
 ok:∀ x ∈ z,OzOk w x
theorem RdOps.later {w w':World} {A:Option Addr} {z:List Oz} (h:RdOps w A z) (hb:Below w.heap.size w w'):RdOps w' A z:=⟨h.rd.later hb,fun x hx=>(h.ok x hx).later hb⟩
section
variable {H:Type} {enc:TypeId × Value->H} {W:World} {base:Nat} {sp:Nat->Bool} {held:Bool}
def OzIn (W:World) (d:DataW H) (x:Oz):Prop:=∃ d0 da dl qa e2 e3 e4 e7,d = .agg [d0,.agg [.lit (.string x.v.nn.data.toList),da,dl],.agg [.lit (.string x.v.qn.data.toList),qa],.agg [.lit (.string x.v.tn.data.toList),.lit (.string x.v.tq.data.toList),e2,e3,e4,.lit (.string x.v.ta.data.toList),.lit (.string x.v.tg.data.toList),e7],.lit (.string x.v.s.data.toList)]/\LabsIn W dl x.A1 x.m1 x.p1 x.v.l1/\LabsIn W e4 x.A3 x.m3 x.p3 x.v.l3

theorem trod_oz {fuel:Nat} {cs:List Value} {x:DataW H × List MemPlace} (hf:DataW.trod enc Tryz.prog W base sp held fuel 49 cs=some x):∃ y:Oz,cs=eZ y/\OzIn W x.1 y:=by
 obtain ⟨ys,n,_,hx,hsz,hyl,hg⟩:=DataW.trod_struct Tryz.underlying49 hf
 rw [cellsOp] at hsz
 obtain ⟨x0,x1,x2,x3,x4,x5,x6,x7,x8,x9,u0,u1,u2,u3,u4,u5,u6,u7,u8,u9,z,rfl⟩:=list21 cs hsz
 obtain ⟨y0,y1,y2,y3,y4,rfl⟩:=list5 ys (by simpa using hyl)
 have h0:DataW.trod enc Tryz.prog W base sp held n 3 (List.take (Tryz.prog.cellsOf 3) [x0,x1,x2,x3,x4,x5,x6,x7,x8,x9,u0,u1,u2,u3,u4,u5,u6,u7,u8,u9,z])=some y0:=hg 0 _ rfl
 have h1:DataW.trod enc Tryz.prog W base sp held n 43 (List.take (Tryz.prog.cellsOf 43) [x1,x2,x3,x4,x5,x6,x7,x8,x9,u0,u1,u2,u3,u4,u5,u6,u7,u8,u9,z])=some y1:=hg 1 _ rfl
 have h2:DataW.trod enc Tryz.prog W base sp held n 45 (List.take (Tryz.prog.cellsOf 45) [x6,x7,x8,x9,u0,u1,u2,u3,u4,u5,u6,u7,u8,u9,z])=some y2:=hg 2 _ rfl
 have h3:DataW.trod enc Tryz.prog W base sp held n 47 (List.take (Tryz.prog.cellsOf 47) [u0,u1,u2,u3,u4,u5,u6,u7,u8,u9,z])=some y3:=hg 3 _ rfl
 have h4:DataW.trod enc Tryz.prog W base sp held n 9 (List.take (Tryz.prog.cellsOf 9) [z])=some y4:=hg 4 _ rfl
 rw [cellsInt] at h0
 rw [cellsNode] at h1
 rw [cellsQueue] at h2
 rw [cellsTask] at h3
 rw [cells9] at h4
 obtain ⟨k,rfl⟩:=open_field_int h0
 obtain ⟨nn,a1,b1,c1,A1,m1,p1,l1,da,dl,rfl,rfl,rfl,rfl,rfl,e1,hl1⟩:=open_node_f h1
 obtain ⟨qn,a2,b2,c2,qa,rfl,rfl,rfl,rfl,e2⟩:=open_queue_f h2
 obtain ⟨tn,tq,tp,a3,b3,c3,A3,m3,p3,l3,ta,tg,ts,d2,d3,d4,d7,rfl,rfl,rfl,rfl,rfl,rfl,rfl,rfl,rfl,rfl,e3,hl3⟩:=open_task_f h3
 obtain ⟨s,rfl,e4⟩:=open_field_string h4
 exact ⟨⟨⟨k,nn,a1,b1,c1,l1,qn,a2,b2,c2,tn,tq,tp,a3,b3,c3,l3,ta,tg,ts,s⟩,A1,m1,p1,A3,m3,p3⟩,rfl,y0.1,da,dl,qa,d2,d3,d4,d7,by have:=congrArg Prod.fst hx;simpa [e1,e2,e3,e4] using this,hl1,hl3⟩
theorem open_rowsO {κ:Type} {a:Option Addr} {len cap:Nat} {d:DataW H} {p:List MemPlace} {tS e k:Nat} (encE:κ->List Value) (okE:DataW H->κ->Prop)
  (hu:Tryz.prog.underlying tS=some (.slice e)) (hk:Tryz.prog.cellsOf e=k) (hk0:0<k) (hlen:∀ y,(encE y).length=k)
  (htr:∀ (sp:Nat->Bool) (held:Bool) (base fuel:Nat) (cs:List Value) (x:DataW H × List MemPlace),DataW.trod enc Tryz.prog W base sp held fuel e cs=some x -> ∃ y:κ,cs=encE y/\okE x.1 y)
  (h:DataW.Trod enc Tryz.prog W base sp held tS (.slice a len cap) d p) :
  ∃ l:List κ,len=l.length/\RdK W k a (l.map encE)/\len<=cap/\cap<=9223372036854775807 /\ ∀ y ∈ l,∃ elems spare e,d = .slice elems spare/\e ∈ elems/\okE e y:=by
 obtain ⟨fuel,hf⟩:=h
 rcases open_slice hu hf with ⟨hcs,_⟩ | ⟨x,n',c,m,n,D,Pl,hcs,_,hl,hm,hmm,hx,hi⟩
 ·simp [Value.cells] at hcs
  obtain ⟨rfl,rfl,rfl⟩:=hcs
  exact ⟨[],rfl,RdK.nil _ _ _,Nat.le_refl _,by omega,by simp⟩
 ·simp [Value.cells] at hcs
  obtain ⟨rfl,rfl,rfl⟩:=hcs
  rw [hk] at hi
  have hlm:len<=m:=by rw [hmm];split <;> omega
  have hm':cap<=9223372036854775807:=by unfold maxLen at hm;omega
  have hdat:d = .slice ((List.range len).map D) ((List.range (m - len)).map fun j=>D (len+j)):=congrArg Prod.fst hx
  have hspot:0<len->x.spot=none:=fun h=>by
   obtain ⟨cs',hc,ht⟩:=hi 0 (by omega)
   obtain ⟨_,hcl,hat⟩:=World.cells?_some hc
   have h0:=hat 0 (by omega)
   rw [List.getElem?_eq_getElem (by omega)] at h0
   simpa [Addr.add] using World.cell?_spot h0
  have key:∀ i,i<len -> ∃ y:κ,∃ g o,x=⟨g,o,none⟩/\W.rangeAt g (o+i * k) (encE y)/\okE (D i) y:=fun i hlt=>by
   obtain ⟨cs',hc,ht⟩:=hi i (by omega)
   obtain ⟨_,hcl,hat⟩:=World.cells?_some hc
   obtain ⟨y,rfl,hok⟩:=htr _ _ _ _ _ _ ht
   obtain ⟨g,o,spot⟩:=x
   have hs:spot=none:=hspot (by omega)
   subst hs
   refine ⟨y,g,o,rfl,fun j v hv=>?_,hok⟩
   have hj:j<k:=by rw [<- hlen y];exact (List.getElem?_eq_some_iff.1 hv).1
   have h1:=hat j (by omega)
   rw [Addr.add_lit,Addr.add_lit,hv] at h1
   exact h1
  have pick:∀ n,n<=len -> ∃ l:List κ,l.length=n/\RdK W k (some x) (l.map encE) /\ ∀ i y,l[i]? = some y->okE (D i) y:=by
   intro n
   induction n with
   | zero=>exact fun _=>⟨[],rfl,RdK.nil _ _ _,fun i y hy=>by simp at hy⟩
   | succ n ih=>
    intro hn
    obtain ⟨l,hll,hr,hall⟩:=ih (by omega)
    obtain ⟨y,g,o,hxx,hrg,hok⟩:=key n (by omega)
    refine ⟨l ++ [y],by simp [hll],fun i z hz=>?_,fun i z hz=>?_⟩
    ·rw [List.map_append] at hz
     by_cases hi':i<(l.map encE).length
     ·rw [List.getElem?_append_left hi'] at hz;exact hr i z hz
     ·rw [List.getElem?_append_right (by omega)] at hz
      have e:i=n:=by
       have:=(List.getElem?_eq_some_iff.1 hz).1
       simp at this hi';omega
      subst e
      simp [hll] at hz
      subst hz
      exact ⟨g,o,by rw [hxx],hrg⟩
    ·by_cases hi':i<l.length
     ·rw [List.getElem?_append_left hi'] at hz;exact hall i z hz
     ·rw [List.getElem?_append_right (by omega)] at hz
      have e:i=n:=by
       have:=(List.getElem?_eq_some_iff.1 hz).1
       simp at this;omega
      subst e
      rw [show i - l.length=0 by omega] at hz
      simp at hz;subst hz
      exact hok
  obtain ⟨l,hll,hr,hall⟩:=pick len (Nat.le_refl _)
  refine ⟨l,hll.symm,hr,by omega,hm',fun y hy=>?_⟩
  obtain ⟨i,hi',e⟩:=List.getElem_of_mem hy
  exact ⟨_,_,D i,hdat,List.mem_map.2 ⟨i,List.mem_range.2 (by omega),rfl⟩,hall i y (by rw [List.getElem?_eq_getElem hi',e])⟩
theorem open_ozs {a:Option Addr} {len cap:Nat} {d:DataW H} {p:List MemPlace} (h:DataW.Trod enc Tryz.prog W base sp held 22 (.slice a len cap) d p):∃ l:List Oz,len=l.length/\RdK W 21 a (l.map eZ)/\len<=cap/\cap<=9223372036854775807 /\ ∀ y ∈ l,∃ elems spare e,d = .slice elems spare/\e ∈ elems/\OzIn W e y:=
 open_rowsO eZ (OzIn W) Tryz.underlying22 cellsOp (by omega) (fun _=>rfl) (fun _ _ _ _ _ _ h=>trod_oz h) h
theorem okOz {ts:List TypeId} {ds:List (DataW H)} (h:(DataW.weightsEach Tryz.prog ts ds).all (· <= reachBytes)=true) {j:Nat} {d:DataW H} (ht:ts[j]? = some 49) (hd:ds[j]? = some d) {W:World} {x:Oz} (hk:OzIn W d x):OzOk W x:=by
 obtain ⟨d0,da,dl,qa,e2,e3,e4,e7,rfl,h1,h3⟩:=hk
 obtain ⟨z1,z3,n1,q1,t1,t2,t3,t4,s1⟩:=sized_op h ht hd h1 h3
 exact ⟨⟨h1.len,h1.rd,h1.cap,h1.cap2,z1⟩,⟨h3.len,h3.rd,h3.cap,h3.cap2,z3⟩,n1,q1,t1,t2,t3,t4,s1⟩
theorem okOzs {ts:List TypeId} {ds:List (DataW H)} (h:(DataW.weightsEach Tryz.prog ts ds).all (· <= reachBytes)=true) {j:Nat} {d:DataW H} (ht:ts[j]? = some 22) (hd:ds[j]? = some d) {W:World} {L:List Oz}
  (hL:∀ y ∈ L,∃ elems spare e,d = .slice elems spare/\e ∈ elems/\OzIn W e y):∀ y ∈ L,OzOk W y:=fun x hx=>by
 obtain ⟨el,spa,e,rfl,he,hk⟩:=hL x hx
 have hall:(DataW.weightsEach Tryz.prog [49] [e]).all (· <= reachBytes)=true:=by
  rw [List.all_eq_true] at h ⊢
  intro n hn
  refine h n (DataW.weights_mem_each ht hd n ?_)
  simp only [DataW.weights,Tryz.underlying22,List.mem_cons,List.mem_append]
  refine .inr (.inl (weightsAll_mem' he n ?_))
  simpa [DataW.weightsEach] using hn
 exact okOz hall (j:=0) rfl rfl hk
end


theorem few15_any (A:Option Addr) (n c:Nat) (z:List Oz) (w:World) (hn:Hid (n=z.length)) (hm:n<=9223372036854775807) (hr:Hid (RdOps w A z)):Calls Tryz.prog 13 #[.slice A n c] w fun e w'=>RetIf e (n<=150 /\ ∀ x ∈ z,x.m1<=20/\x.m3<=20)/\Below w.heap.size w w':=by
 by_cases h1:n<=150
 case neg=>
  have hni:(150:Int)<(n:Int):=by omega
  clear h1
  go_enter Tryz.func13,Tryz.ntmps13
  go_wp2_with fail
  go_ret
  exact ⟨RetIf.no,Below.refl _ _⟩
 have hni:¬ (150:Int)<(n:Int):=by omega
 have H1:=Lib.hid h1
 have KS:=Lib.hid (fun (x:Oz) W (h:OzOk W x)=>small15_any x W h)
 clear hm h1
 go_enter Tryz.func13,Tryz.ntmps13
 go_wp2_with fail
 clear hni
 go_loopw [9] (fun s9 wr=>∃ k:Nat,k<=n/\s9 = .int .i64 k/\Hid (∀ x ∈ z.take k,x.m1<=20/\x.m3<=20)/\Hid (Below w.heap.size w wr)) (fun s9 wr=>n - (intOf s9).toNat)
 case atStart=>exact ⟨0,Nat.zero_le _,rfl,(by intro x hx;simp at hx),Below.refl _ _⟩
 case round=>
  obtain ⟨k,hk,rfl,HA,HB⟩:=hrel
  by_cases hlt:k<n
  ·have hkl:Hid (k<z.length):=by show k<z.length;rw [<- hn.out];exact hlt
   obtain ⟨x,hx⟩:∃ x,x=z[k]'hkl.out:=⟨_,rfl⟩
   obtain ⟨g,o,hA,hrg⟩:=(hr.out.later HB.out).rd.at (i:=k) (by rw [List.length_map];exact hkl.out)
   rw [List.getElem_map,<- hx] at hrg
   have HX:Hid (wr.rangeAt g (o+k * 21) x.arr.toList):=hrg
   have HOK:Hid (OzOk wr x):=(hr.out.later HB.out).ok x (by rw [hx];exact List.getElem_mem _)
   have HXE:=Lib.hid hx
   subst hA
   have hwk:wrap64 ((k:Int)+1)=((k+1:Nat):Int):=by have:=H1.out;unfold wrap64;omega
   clear hrg hx
   go_wp2_with (with_reducible refine load_rg rfl 49 _ rfl g (o+k * 21) rfl x.arr _ HX.out Tryz.underlying49 rfl (by kernel_rfl) ?_)
   refine (KS.out x _ HOK.out).mono ?_
   rintro e w2 ⟨⟨b,rfl,hbt⟩,hb2⟩
   have HB2:=Lib.hid (HB.out.trans (hb2.mono HB.out.size))
   clear hb2
   cases b with
   | false=>
    clear hbt
    go_wp2_with fail
    go_ret
    exact ⟨RetIf.no,HB2.out⟩
   | true=>
    have HA2:Hid (∀ x ∈ z.take (k+1),x.m1<=20/\x.m3<=20):=mem_take_succ hkl.out HA.out (by rw [<- HXE.out];exact hbt rfl)
    clear hbt
    go_wp2_with fail
    go_round
    case rel=>exact ⟨k+1,by omega,by go_num,HA2,HB2⟩
    case measure=>
     first
     | (rw [hwk];show n - ((k+1:Nat):Int).toNat<n - ((k:Nat):Int).toNat;rw [Int.toNat_natCast,Int.toNat_natCast];omega)
     | (show n - ((k:Int)+1).toNat<n - ((k:Nat):Int).toNat;omega)
  ·have hkn:k=n:=by omega
   have HF:Hid (∀ x ∈ z,x.m1<=20/\x.m3<=20):=by have h:=HA.out;rw [hkn,hn.out,List.take_length] at h;exact h
   clear HA hk hlt
   subst hkn
   go_wp2_with fail
   go_ret
   exact ⟨RetIf.yes ⟨H1.out,HF.out⟩,HB.out⟩
end
section
open Go.RowKit
def stF (S:Sg) (v:Ov):Sg × An:=stepG bsF chF unF S v
def nextF (F:Nat->Prop) (W w':World) (k:Nat):Prop:=(F k ∨ W.heap.size<=k)/\k<w'.heap.size
section
variable {w wr w':World} {g h:Nat} {F K:Nat->Prop} {S T S' T':Sg} {m m2 m':Int} {p:Nat}
theorem nextF.off (hF:¬ F p) (hp:p<wr.heap.size):¬ nextF F wr w' p:=fun h=>h.1.elim hF fun h2=>by omega
end
def RetD (b:Nat) (w:World) (e:Ending) (R:An):Prop:=∃ A n c,e = .returned (.agg #[.int .i64 R.1,.slice A n c])/\RetL b w A n c R.2
theorem tg_new1 (w wr:World) (hb:Below w.heap.size w wr):Calls Tryz.prog 14 #[] wr fun e w'=>e = .returned (.pointer (some ⟨wr.heap.size,0,none⟩))/\Gx w' w.heap.size wr.heap.size (fun k=>wr.heap.size<=k/\k<w'.heap.size) Sg.new/\Below wr.heap.size wr w':=by
 refine (gx_new wr).mono ?_
 rintro e w' ⟨rfl,h,hb2⟩
 exact ⟨rfl,(h.base hb.size).wide fun k hk hf=>⟨hf,hk⟩,hb2⟩
end
section
open Go.RowKit
theorem fitC:FitC chF:=fun L J p hM h=>by
 cases hc:choF L J p with
 | none=>unfold chF at h;rw [hc] at h;cases h
 | some x=>
  obtain ⟨⟨G,h1,-,-,h4⟩,-⟩:=cho_is hc
  rw [plansOf_at h4] at h1
  refine ⟨G,?_,?_,fun i hi=>?_⟩
  ·unfold chF;rw [hc]
   show namesAt _ ((plansOf _ _ _ _ x.1).getD [])=_
   rw [plansOf_at h4,h1];rfl
  ·rcases places_is h1 with ⟨_,rfl⟩ | ⟨k,_,_,_,rfl,_⟩
   ·exact List.nodup_nil
   ·exact (weak_nodup _).sublist (List.take_sublist _ _)
  ·obtain ⟨a,b,_⟩:=plan_each h1 i hi
   have ai:i<J.length:=by simpa [jbs] using a
   rw [jat_jbs ai] at b
   refine ⟨ai,?_⟩
   rw [jl_at ai,b]
   exact decide_eq_false (hM _ (List.getElem_mem h4))
theorem fitU:FitU unF:=fun J=>⟨units_nodup (jbs J),fun u hu q hq=>by
 obtain ⟨p,r,_,h,_⟩:=units_in hu
 obtain ⟨a,b,_⟩:=h q hq
 have aq:q<J.length:=by simpa [jbs] using a
 rw [jat_jbs aq] at b
 rw [jl_at aq]
 exact decide_eq_true b⟩
def Led (S:Sg):Prop:=NdJ S.J/\NeM S.M
def LedTo (S:Sg) (r:Sg × An):Prop:=Goes S.J r.2.2 r.1.J/\Led r.1
theorem LedTo.same {S:Sg} (h:Led S) (e:Int):LedTo S (S,e,[]):=⟨Goes.none _,h⟩
theorem addN_led {S:Sg} (h:Led S) {nm:ByteArray} (hs:nm.size ≠ 0) (a b c:Int) (l:List Lb):LedTo S (addN S nm a b c l):=by
 unfold addN
 split
 ·exact LedTo.same h _
 ·split
  ·exact LedTo.same h _
  ·refine ⟨Goes.none _,h.1,fun x hx=>?_⟩
   change x ∈ insM _ _ at hx
   unfold insM at hx
   rcases List.mem_append.1 hx with h1 | h1
   ·exact h.2 x (List.mem_of_mem_take h1)
   ·rcases List.mem_cons.1 h1 with rfl | h1
    ·exact hs
    ·exact h.2 x (List.mem_of_mem_drop h1)
theorem has_ne {M:List Ml} (hM:NeM M) {s:ByteArray} (h:hasK s (keyM M)=true):s.size ≠ 0:=by
 unfold hasK at h
 obtain ⟨x,hx,hs⟩:=List.any_eq_true.1 h
 obtain ⟨y,hy,rfl⟩:=List.mem_map.1 hx
 rw [<- sE_iff.1 hs]
 exact hM y hy
theorem dropN_led {S:Sg} (h:Led S) (s:ByteArray):LedTo S (dropN' S s):=by
 unfold dropN'
 split
 ·rename_i hh
  obtain ⟨a,b⟩:=relJ_leads (J:=S.J) (has_ne h.2 hh) h.1
  exact ⟨a,b,fun x hx=>h.2 x ((List.eraseIdx_sublist _ _).subset hx)⟩
 ·exact LedTo.same h _
theorem addQ_led {S:Sg} (h:Led S) (q:Qx):LedTo S (addQ S q):=by
 unfold addQ
 split
 ·exact LedTo.same h _
 ·split
  ·exact LedTo.same h _
  ·exact ⟨Goes.none _,h⟩
theorem dropQ_led {S:Sg} (h:Led S) (s:ByteArray):LedTo S (dropQ S s):=by
 unfold dropQ
 split
 ·split
  ·exact LedTo.same h _
  ·exact ⟨Goes.none _,h⟩
 ·exact LedTo.same h _
theorem pl_at {s:ByteArray} {J:List Jl} (h:¬ plJ s J<0):∃ p,∃ hp:p<J.length,plJ s J=(p:Int)/\sE J[p].1.nm s=true:=by
 rcases fnd_cases s (jbs J) 0 with e | ⟨p,hp,h1,h2⟩
 ·exact absurd (show plJ s J<0 by show fnd s 0 (jbs J)<0;rw [e];omega) h
 ·have hp':p<J.length:=by simpa [jbs] using hp
  refine ⟨p,hp',by rw [show plJ s J=_ from h1,Nat.zero_add],?_⟩
  have e:(jbs J)[p]=J[p].1:=by simp [jbs]
  rwa [e] at h2
theorem subJ_led {S:Sg} (h:Led S) (nm qu:ByteArray) (pr a b c:Int) (ap ga:ByteArray) (sz:Int) (l:List Lb):LedTo S (subJ S nm qu pr a b c ap ga sz l):=by
 unfold subJ
 split
 ·exact LedTo.same h _
 ·rename_i hpl
  split
  ·exact LedTo.same h _
  ·split
   ·exact LedTo.same h _
   ·split
    ·exact LedTo.same h _
    ·split
     ·exact LedTo.same h _
     ·have hno:fnd nm 0 (jbs S.J) = -1:=by
       rcases fnd_cases nm (jbs S.J) 0 with e | ⟨p,hp,h1,h2⟩
       ·exact e
       ·exact absurd (show 0<=plJ nm S.J by show 0<=fnd nm 0 (jbs S.J);rw [h1];omega) hpl
      refine ⟨Goes.same ?_,?_,h.2⟩
      ·show (bnd S.J).Perm (bnd (S.J ++ [_]))
       rw [bnd_append]
       show (bnd S.J).Perm (bnd S.J ++ [])
       rw [List.append_nil]
      ·show NdJ (S.J ++ [_])
       unfold NdJ
       rw [List.map_append]
       show ((S.J.map fun x=>x.1.nm) ++ [nm]).Nodup
       refine List.pairwise_append.2 ⟨h.1,List.pairwise_singleton _ _,fun x hx y hy e=>?_⟩
       rw [List.mem_singleton] at hy
       obtain ⟨z,hz,rfl⟩:=List.mem_map.1 hx
       exact fnd_none hno z hz (sE_iff.2 (e.trans hy))
theorem canJ_led {S:Sg} (h:Led S) (s:ByteArray):LedTo S (canJ S s):=by
 unfold canJ
 split
 ·exact LedTo.same h _
 ·rename_i hpl
  obtain ⟨p,hp,e,_⟩:=pl_at hpl
  rw [e,Int.toNat_natCast,jl_at hp]
  cases hw:wB S.J[p].1.nd with
  | true=>exact ⟨wait_erase hp hw,erase_names h.1,h.2⟩
  | false=>exact ⟨bound_erase (by omega) hp hw h.1,erase_names h.1,h.2⟩
theorem beatN_led {S:Sg} (h:Led S) (s:ByteArray):LedTo S (beatN S s):=by
 unfold beatN
 split
 ·refine ⟨Goes.none _,h.1,fun x hx=>?_⟩
  change x ∈ S.M.modify _ _ at hx
  obtain ⟨i,hi,e⟩:=List.getElem_of_mem hx
  rw [List.getElem_modify] at e
  rw [List.length_modify] at hi
  split at e
  ·rw [<- e]
   show S.M[i].1.nm.size ≠ 0
   exact h.2 _ (List.getElem_mem hi)
  ·rw [<- e];exact h.2 _ (List.getElem_mem hi)
 ·exact LedTo.same h _
theorem finJ_led {S:Sg} (h:Led S) (s:ByteArray):Led (finJ S s).1/\(finJ S s).2.2=[]/\((finJ S s).2.1=0 -> ∃ p,∃ hp:p<S.J.length,sE S.J[p].1.nm s=true/\wB S.J[p].1.nd=false/\(finJ S s).1.J=S.J.eraseIdx p)/\((finJ S s).2.1 ≠ 0->(finJ S s).1=S):=by
 unfold finJ
 split
 ·exact ⟨h,rfl,fun e=>absurd e (by show ¬ (7:Int)=0;omega),fun _=>rfl⟩
 ·rename_i hpl
  obtain ⟨p,hp,e,hs⟩:=pl_at hpl
  rw [e,Int.toNat_natCast,jl_at hp]
  split
  ·exact ⟨h,rfl,fun e=>absurd e (by show ¬ (12:Int)=0;omega),fun _=>rfl⟩
  ·rename_i hw
   exact ⟨⟨erase_names h.1,h.2⟩,rfl,fun _=>⟨p,hp,hs,by simpa using hw,rfl⟩,fun e=>absurd rfl e⟩
theorem name_ne {s:ByteArray} (h:nameB s=true):s.size ≠ 0:=by
 unfold nameB nameL at h
 simp only [Bool.and_eq_true,decide_eq_true_eq] at h
 have h1:=h.1.1.1
 intro e
 have:s.data.toList.length=s.size:=by rw [Array.length_toList];rfl
 omega
theorem step_led {S:Sg} (h:Led S) (v:Ov):Led (stF S v).1/\(¬ (v.k=7/\(stF S v).2.1=0)->Goes S.J (stF S v).2.2 (stF S v).1.J) /\
  (v.k=7->(stF S v).2.1=0->(stF S v).2.2=[] /\ ∃ p,∃ hp:p<S.J.length,sE S.J[p].1.nm v.s=true/\wB S.J[p].1.nd=false/\(stF S v).1.J=S.J.eraseIdx p):=by
 unfold stF stepG
 by_cases hb:opB v=true
 ·rw [if_pos hb]
  unfold opG
  have fin:∀ {r:Sg × An},v.k ≠ 7->LedTo S r->Led r.1/\(¬ (v.k=7/\r.2.1=0)->Goes S.J r.2.2 r.1.J)/\(v.k=7->r.2.1=0->r.2.2=[] /\ ∃ p,∃ hp:p<S.J.length,sE S.J[p].1.nm v.s=true/\wB S.J[p].1.nd=false/\r.1.J=S.J.eraseIdx p):=
   fun h7 hr=>⟨hr.2,fun _=>hr.1,fun e=>absurd e h7⟩
  by_cases h1:v.k=1
  ·rw [if_pos h1]
   rw [opB_1 h1] at hb
   refine fin (by omega) (addN_led h ?_ _ _ _ _)
   simp only [Bool.and_eq_true,Ov.vN,nodeB] at hb
   exact name_ne hb.1.1.1.1.1
  rw [if_neg h1]
  by_cases h2:v.k=2
  ·rw [if_pos h2];exact fin (by omega) (dropN_led h _)
  rw [if_neg h2]
  by_cases h3:v.k=3
  ·rw [if_pos h3];exact fin (by omega) (addQ_led h _)
  rw [if_neg h3]
  by_cases h4:v.k=4
  ·rw [if_pos h4];exact fin (by omega) (dropQ_led h _)
  rw [if_neg h4]
  by_cases h5:v.k=5
  ·rw [if_pos h5];exact fin (by omega) (subJ_led h ..)
  rw [if_neg h5]
  by_cases h6:v.k=6
  ·rw [if_pos h6];exact fin (by omega) (canJ_led h _)
  rw [if_neg h6]
  by_cases h7:v.k=7
  ·rw [if_pos h7]
   obtain ⟨f1,f2,f3,f4⟩:=finJ_led h v.s
   refine ⟨f1,fun hn=>?_,fun _ e=>⟨f2,f3 e⟩⟩
   rw [f2,f4 (fun e=>hn ⟨h7,e⟩)]
   exact Goes.none _
  rw [if_neg h7]
  by_cases h8:v.k=8
  ·rw [if_pos h8];exact fin (by omega) (beatN_led h _)
  rw [if_neg h8]
  obtain ⟨a,b,c⟩:=tick_leads bestK choK uniK fitC fitU h.2 h.1
  exact fin h7 ⟨a,b,c⟩
 ·rw [if_neg hb]
  exact ⟨h,fun _=>Goes.none _,fun _ e=>absurd e (by show ¬ (1:Int)=0;omega)⟩
theorem led_new:Led Sg.new:=⟨List.nodup_nil,fun x hx=>by cases hx⟩
end
section
open Go.RowKit
theorem tickG_few {m:Int} {S:Sg} (hI:In2 m S) (hm:m<=1152921504606846976) (hk:¬ 1073741824<=S.ck):(tickG bsF chF unF S).2.2.length<=2001000:=by
 have hi:=hI.inv hm
 have hck:=hI.ck
 obtain ⟨S1,hS1⟩:∃ S1:Sg,S1 = { S with ck:=S.ck+1 }:=⟨_,rfl⟩
 have hSm1:Sm S1:=by rw [hS1];exact ⟨hi.sm.M,hi.sm.Q,hi.sm.J,hi.sm.lM,hi.sm.lJ,hi.sm.nx,⟨show 0<=S.ck+1 by omega,show S.ck+1<=4611686018427387904 by omega⟩⟩
 have hbo1:BoK 1152921504606846976 S1.J:=by rw [hS1];exact hi.bo
 have h1:=expG_few hSm1.M hSm1.J
 have h2:=passG_few (bs:=bsF) (ch:=chF) (un:=unF) choK uniK (M:=(expG S1).1.M) (J:=(expG S1).1.J) (expG_sm hSm1).J (expG_bo hbo1)
 unfold tickG
 rw [if_neg hk,<- hS1]
 show ((expG S1).2 ++ (passG bsF chF unF (expG S1).1.M (expG S1).1.J).2).length<=_
 rw [List.length_append]
 omega
theorem stF_few {m:Int} {S:Sg} (hI:In2 m S) (hm:m<=1152921504606846976) (v:Ov):(stF S v).2.2.length<=2001000:=by
 unfold stF stepG
 split
 ·unfold opG
  split
  ·unfold addN;split
   ·exact Nat.zero_le _
   ·split <;> exact Nat.zero_le _
  split
  ·unfold dropN';split
   ·have h1:=relA_le (s:=v.s) (J:=S.J) (k:=S.J.length)
    rw [relA_all] at h1
    have h2:=hI.J
    show (relA v.s S.J).length<=_
    omega
   ·exact Nat.zero_le _
  split
  ·unfold addQ;split
   ·exact Nat.zero_le _
   ·split <;> exact Nat.zero_le _
  split
  ·unfold dropQ;split
   ·split <;> exact Nat.zero_le _
   ·exact Nat.zero_le _
  split
  ·unfold subJ;split
   ·exact Nat.zero_le _
   ·split
    ·exact Nat.zero_le _
    ·split
     ·exact Nat.zero_le _
     ·split
      ·exact Nat.zero_le _
      ·split <;> exact Nat.zero_le _
  split
  ·unfold canJ;split
   ·exact Nat.zero_le _
   ·show (if _ then _ else _:List Ac).length<=_
    split
    ·exact Nat.zero_le _
    ·show 1<=_;omega
  split
  ·unfold finJ;split
   ·exact Nat.zero_le _
   ·split <;> exact Nat.zero_le _
  split
  ·unfold beatN;split <;> exact Nat.zero_le _
  ·by_cases hk:1073741824<=S.ck
   ·unfold tickG;rw [if_pos hk];exact Nat.zero_le _
   ·exact tickG_few hI hm hk
 ·exact Nat.zero_le _
section
variable {P:Program} {w w':World} {base k:Nat} {e:TypeId} {v:Value} {l:List (List Value)}
end
structure T1 (w wr:World) (g:Nat) (F:Nat->Prop) (S:Sg) (m:Int):Prop where
 g1:Gx wr w.heap.size g F S
 b1:∀ k,F k->w.heap.size<=k/\k<wr.heap.size
 i1:In2 m S
 be:Below w.heap.size w wr
section
variable {w wr w':World} {g:Nat} {F F':Nat->Prop} {S S':Sg} {m m':Int} {v v':Value} {W W':List Ac}
theorem T1.below (H:T1 w wr g F S m) (hb:Below wr.heap.size wr w'):T1 w w' g F S m:=
 ⟨H.g1.below hb,fun k hk=>⟨(H.b1 k hk).1,Nat.lt_of_lt_of_le (H.b1 k hk).2 hb.size⟩,H.i1,H.be.trans (hb.mono H.be.size)⟩
theorem T1.left (H:T1 w wr g F S m) (h1:Gx w' w.heap.size g (fun k=>F k ∨ wr.heap.size<=k) S') (hg:GrP F wr w') (hi:In2 m' S'):T1 w w' g (nextF F wr w') S' m':=by
 refine ⟨h1.wide fun k hk hf=>⟨hf,hk⟩,fun k hk=>⟨?_,hk.2⟩,hi,H.be.trans (hg.below H.be.size fun k hk=>(H.b1 k hk).1)⟩
 rcases hk.1 with h3 | h3
 ·exact (H.b1 k h3).1
 ·exact Nat.le_trans H.be.size h3
end
theorem t1_do {w wr:World} {g:Nat} {F:Nat->Prop} {S:Sg} {m:Int} (H:T1 w wr g F S m) (hm:0<=m) (hm2:m<=1152921504606846976) (x:Oz) (hx:OzOk wr x) (hl1:x.v.l1.length<=1000) (hl3:x.v.l3.length<=1000) :
  Calls Tryz.prog 18 #[.pointer (some ⟨g,0,none⟩),.agg x.arr] wr fun e w'=>RetD wr.heap.size w' e (stF S x.v).2/\T1 w w' g (nextF F wr w') (stF S x.v).1 (m+1001000)/\GrP F wr w':=by
 refine (gx_do bsF chF unF bestK choK uniK bare3 w.heap.size g F m S x wr H.g1 H.i1 hm2 hx hl1 hl3).mono ?_
 rintro e w' ⟨⟨A,n,c,rfl,hR⟩,h1,h2⟩
 exact ⟨⟨A,n,c,rfl,hR⟩,H.left h1 h2 (H.i1.step uniK hm x.v hl1 hl3),h2⟩
theorem t1_new (w wr:World) (hb:Below w.heap.size w wr):Calls Tryz.prog 14 #[] wr fun e w'=>e = .returned (.pointer (some ⟨wr.heap.size,0,none⟩))/\T1 w w' wr.heap.size (fun k=>wr.heap.size<=k/\k<w'.heap.size) Sg.new 0:=by
 refine (tg_new1 w wr hb).mono ?_
 rintro e w' ⟨rfl,h,hb2⟩
 exact ⟨rfl,h,fun k hk=>⟨Nat.le_trans hb.size hk.1,hk.2⟩,in2_new,hb.trans (hb2.mono hb.size)⟩
def RetT1 (b:Nat) (w:World) (e:Ending) (S:Sg):Prop:=∃ (v:Sv) (S':Sg),e = .returned (.agg v.arr)/\OwnS w b (.slice v.A v.N v.cA) (.slice v.B v.K v.cB) (.slice v.C v.n v.cC) S' /\ RdSt w v S' /\ S'.bare=S.bare/\v.ck=S'.ck/\v.nx=S'.nx
theorem t1_state {w wr:World} {g:Nat} {F:Nat->Prop} {S:Sg} {m:Int} (H:T1 w wr g F S m) :
  Calls Tryz.prog 20 #[.pointer (some ⟨g,0,none⟩)] wr fun e w'=>RetT1 wr.heap.size w' e S/\Below wr.heap.size wr w':=by
 refine (gx_state w.heap.size g F m S wr H.g1 H.i1).mono ?_
 rintro e w' ⟨⟨uM,uQ,uJ,S',rfl,hO,hbr⟩,-,hb⟩
 obtain ⟨⟨ck,nx,A,N,cA,B,K,cB,C,n,cC⟩,hva,hvr⟩:=hO.rd
 have hv1:.slice A N cA=uM:=congrArg (fun a:Array Value=>a.getD 2 undef) hva
 have hv2:.slice B K cB=uQ:=congrArg (fun a:Array Value=>a.getD 3 undef) hva
 have hv3:.slice C n cC=uJ:=congrArg (fun a:Array Value=>a.getD 4 undef) hva
 subst hv1 hv2 hv3
 have hck:S.ck=S'.ck:=(congrArg Sg.ck hbr:S'.bare.ck=S.bare.ck).symm
 have hnx:S.nx=S'.nx:=(congrArg Sg.nx hbr:S'.bare.nx=S.bare.nx).symm
 exact ⟨⟨⟨S.ck,S.nx,A,N,cA,B,K,cB,C,n,cC⟩,S',rfl,hO,hO.rdOf hck hnx,hbr,hck,hnx⟩,hb⟩
section
variable {w wr w':World} {g p6 n1 c1:Nat} {F:Nat->Prop} {S:Sg} {m u:Int} {A1:Option Addr} {acts W W':List Ac} {v v':Value}
end
section
variable {n c p g:Nat}
end
end
end Go.Proofs.YtccccbofcnmdiaaGreat
