/- Lemmas that the law stands on. No condition. -/
import Derived.Test.YtlodjgcnffmniaaGreatM02
namespace Go.Proofs.YtlodjgcnffmniaaGreat
set_option linter.unusedSimpArgs false
set_option linter.unusedVariables false
set_option maxRecDepth 100000
set_option maxHeartbeats 51200000
section
open Go.RowKit
theorem infoM15:(Tryz.prog.info? 60).map (fun i=>(i.zero,i.size,i.bytes))=some (some (.agg #[.string ⟨#[]⟩,.int .i64 0,.int .i64 0,.int .i64 0,.slice none 0 0,.bool false,.int .i64 0]),7,80):=by kernel_rfl
theorem infoQ15:(Tryz.prog.info? 45).map (fun i=>(i.zero,i.size,i.bytes))=some (some (.agg #[.string ⟨#[]⟩,.int .i64 0,.int .i64 0,.int .i64 0]),4,40):=by kernel_rfl
theorem infoJ15:(Tryz.prog.info? 66).map (fun i=>(i.zero,i.size,i.bytes))=some (some (.agg #[.string ⟨#[]⟩,.string ⟨#[]⟩,.int .i64 0,.int .i64 0,.int .i64 0,.int .i64 0,.slice none 0 0,.string ⟨#[]⟩,.string ⟨#[]⟩,.int .i64 0,.int .i64 0,.string ⟨#[]⟩,.int .i64 0]),13,160):=by kernel_rfl
theorem infoL15:(Tryz.prog.info? 70).map (fun i=>(i.zero,i.size,i.bytes))=some (some (.agg #[.string ⟨#[]⟩,.string ⟨#[]⟩]),2,32):=by kernel_rfl
theorem infoA15:(Tryz.prog.info? 64).map (fun i=>(i.zero,i.size,i.bytes))=some (some (.agg #[.int .i64 0,.string ⟨#[]⟩,.string ⟨#[]⟩]),3,40):=by kernel_rfl


theorem cloneM_any (A:Option Addr) (n c:Nat) (l:List Mc) (w:World) (hn:Hid (n=l.length)) (hr:Hid (RdK w 7 A (cellsM l))) (hbig:n<=1000) :
  Calls Tryz.prog 68 #[.slice A n c] w fun e w'=>∃ v,e = .returned v/\OwnK w' w.heap.size 60 7 v (cellsM l)/\Below w.heap.size w w':=by
 have q22:∀ (w:World) (a:Option Addr) (n c n' c':Nat),(binOp .eql 27 (.slice a n c) (.slice none n' c')).run Tryz.prog w = .ok (.bool a.isNone) w:=fun w a n c n' c'=>Lib.run_eql_slice_nil w _ _ a n c n' c' Tryz.underlying27
 cases A with
 | none=>
  have hl:l=[]:=by
   cases l with
   | nil=>rfl
   | cons x r=>obtain ⟨_,_,ha,_⟩:=hr.out 0 _ (by simp [cellsM];rfl);cases ha
  have HL:=Lib.hid hl
  clear hl
  go_enter Tryz.func68,Tryz.ntmps68
  go_wp2
  go_ret
  exact ⟨_,rfl,by rw [HL.out];exact OwnK.nil _ _ _ _,Below.refl _ _⟩
 | some a=>
  have hr2:=Lib.hid (hr.out.later ((Below.refl w.heap.size w).alloc (Nat.le_refl _) (.cells #[] 60)))
  have hlen:(cellsM l).length=n:=by rw [cellsM_length,hn.out]
  have HLen:=Lib.hid hlen
  clear hlen
  go_enter Tryz.func68,Tryz.ntmps68
  go_wp2_with ((with_reducible refine append_k _ rfl (.tmp 5) (.tmp 6) 27 rfl w.heap.size 60 _ 7 80 Tryz.underlying27 infoM15 rfl (by omega) (.slice (some ⟨w.heap.size,0,none⟩) 0 0) [] rfl (OwnK.empty w w.heap.size 60 7 (Nat.le_refl _) rfl) a c n (cellsM l) rfl hr2.out (cellsM_k l) (cellsM_one l) HLen.out.symm (by have:=HLen.out;simp only [List.length_nil,maxLen];omega) (by have:=HLen.out;simp only [List.length_nil];omega) (by simp) ?_);intro v' w1 hown hgrow)
  go_ret
  refine ⟨v',rfl,by simpa using hown,?_⟩
  exact ((Below.refl _ w).alloc (Nat.le_refl _) _).grown hgrow (by simp) (by intro k hk;simp [Value.ownBlock] at hk;omega)


theorem cloneQ_any (A:Option Addr) (n c:Nat) (l:List Qx) (w:World) (hn:Hid (n=l.length)) (hr:Hid (RdK w 4 A (cellsQ l))) (hbig:n<=1000) :
  Calls Tryz.prog 69 #[.slice A n c] w fun e w'=>∃ v,e = .returned v/\OwnK w' w.heap.size 45 4 v (cellsQ l)/\Below w.heap.size w w':=by
 have q22:∀ (w:World) (a:Option Addr) (n c n' c':Nat),(binOp .eql 28 (.slice a n c) (.slice none n' c')).run Tryz.prog w = .ok (.bool a.isNone) w:=fun w a n c n' c'=>Lib.run_eql_slice_nil w _ _ a n c n' c' Tryz.underlying28
 cases A with
 | none=>
  have hl:l=[]:=by
   cases l with
   | nil=>rfl
   | cons x r=>obtain ⟨_,_,ha,_⟩:=hr.out 0 _ (by simp [cellsQ];rfl);cases ha
  have HL:=Lib.hid hl
  clear hl
  go_enter Tryz.func69,Tryz.ntmps69
  go_wp2
  go_ret
  exact ⟨_,rfl,by rw [HL.out];exact OwnK.nil _ _ _ _,Below.refl _ _⟩
 | some a=>
  have hr2:=Lib.hid (hr.out.later ((Below.refl w.heap.size w).alloc (Nat.le_refl _) (.cells #[] 45)))
  have hlen:(cellsQ l).length=n:=by rw [cellsQ_length,hn.out]
  have HLen:=Lib.hid hlen
  clear hlen
  go_enter Tryz.func69,Tryz.ntmps69
  go_wp2_with ((with_reducible refine append_k _ rfl (.tmp 5) (.tmp 6) 28 rfl w.heap.size 45 _ 4 40 Tryz.underlying28 infoQ15 rfl (by omega) (.slice (some ⟨w.heap.size,0,none⟩) 0 0) [] rfl (OwnK.empty w w.heap.size 45 4 (Nat.le_refl _) rfl) a c n (cellsQ l) rfl hr2.out (cellsQ_k l) (cellsQ_one l) HLen.out.symm (by have:=HLen.out;simp only [List.length_nil,maxLen];omega) (by have:=HLen.out;simp only [List.length_nil];omega) (by simp) ?_);intro v' w1 hown hgrow)
  go_ret
  refine ⟨v',rfl,by simpa using hown,?_⟩
  exact ((Below.refl _ w).alloc (Nat.le_refl _) _).grown hgrow (by simp) (by intro k hk;simp [Value.ownBlock] at hk;omega)


theorem cloneJ_any (A:Option Addr) (n c:Nat) (l:List Jb) (w:World) (hn:Hid (n=l.length)) (hr:Hid (RdK w 13 A (cellsJ l))) (hbig:n<=1000) :
  Calls Tryz.prog 70 #[.slice A n c] w fun e w'=>∃ v,e = .returned v/\OwnK w' w.heap.size 66 13 v (cellsJ l)/\Below w.heap.size w w':=by
 have q22:∀ (w:World) (a:Option Addr) (n c n' c':Nat),(binOp .eql 29 (.slice a n c) (.slice none n' c')).run Tryz.prog w = .ok (.bool a.isNone) w:=fun w a n c n' c'=>Lib.run_eql_slice_nil w _ _ a n c n' c' Tryz.underlying29
 cases A with
 | none=>
  have hl:l=[]:=by
   cases l with
   | nil=>rfl
   | cons x r=>obtain ⟨_,_,ha,_⟩:=hr.out 0 _ (by simp [cellsJ];rfl);cases ha
  have HL:=Lib.hid hl
  clear hl
  go_enter Tryz.func70,Tryz.ntmps70
  go_wp2
  go_ret
  exact ⟨_,rfl,by rw [HL.out];exact OwnK.nil _ _ _ _,Below.refl _ _⟩
 | some a=>
  have hr2:=Lib.hid (hr.out.later ((Below.refl w.heap.size w).alloc (Nat.le_refl _) (.cells #[] 66)))
  have hlen:(cellsJ l).length=n:=by rw [cellsJ_length,hn.out]
  have HLen:=Lib.hid hlen
  clear hlen
  go_enter Tryz.func70,Tryz.ntmps70
  go_wp2_with ((with_reducible refine append_k _ rfl (.tmp 5) (.tmp 6) 29 rfl w.heap.size 66 _ 13 160 Tryz.underlying29 infoJ15 rfl (by omega) (.slice (some ⟨w.heap.size,0,none⟩) 0 0) [] rfl (OwnK.empty w w.heap.size 66 13 (Nat.le_refl _) rfl) a c n (cellsJ l) rfl hr2.out (cellsJ_k l) (cellsJ_one l) HLen.out.symm (by have:=HLen.out;simp only [List.length_nil,maxLen];omega) (by have:=HLen.out;simp only [List.length_nil];omega) (by simp) ?_);intro v' w1 hown hgrow)
  go_ret
  refine ⟨v',rfl,by simpa using hown,?_⟩
  exact ((Below.refl _ w).alloc (Nat.le_refl _) _).grown hgrow (by simp) (by intro k hk;simp [Value.ownBlock] at hk;omega)


theorem cloneL_any (A:Option Addr) (n c:Nat) (l:List Lb) (w:World) (hn:Hid (n=l.length)) (hr:Hid (RdK w 2 A (cellsLb l))) (hbig:n<=1000) :
  Calls Tryz.prog 71 #[.slice A n c] w fun e w'=>∃ v,e = .returned v/\OwnK w' w.heap.size 70 2 v (cellsLb l)/\Below w.heap.size w w':=by
 have q22:∀ (w:World) (a:Option Addr) (n c n' c':Nat),(binOp .eql 41 (.slice a n c) (.slice none n' c')).run Tryz.prog w = .ok (.bool a.isNone) w:=fun w a n c n' c'=>Lib.run_eql_slice_nil w _ _ a n c n' c' Tryz.underlying41
 cases A with
 | none=>
  have hl:l=[]:=by
   cases l with
   | nil=>rfl
   | cons x r=>obtain ⟨_,_,ha,_⟩:=hr.out 0 _ (by simp [cellsLb];rfl);cases ha
  have HL:=Lib.hid hl
  clear hl
  go_enter Tryz.func71,Tryz.ntmps71
  go_wp2
  go_ret
  exact ⟨_,rfl,by rw [HL.out];exact OwnK.nil _ _ _ _,Below.refl _ _⟩
 | some a=>
  have hr2:=Lib.hid (hr.out.later ((Below.refl w.heap.size w).alloc (Nat.le_refl _) (.cells #[] 70)))
  have hlen:(cellsLb l).length=n:=by rw [cellsLb_length,hn.out]
  have HLen:=Lib.hid hlen
  clear hlen
  go_enter Tryz.func71,Tryz.ntmps71
  go_wp2_with ((with_reducible refine append_k _ rfl (.tmp 5) (.tmp 6) 41 rfl w.heap.size 70 _ 2 32 Tryz.underlying41 infoL15 rfl (by omega) (.slice (some ⟨w.heap.size,0,none⟩) 0 0) [] rfl (OwnK.empty w w.heap.size 70 2 (Nat.le_refl _) rfl) a c n (cellsLb l) rfl hr2.out (cellsLb_k l) (cellsLb_one l) HLen.out.symm (by have:=HLen.out;simp only [List.length_nil,maxLen];omega) (by have:=HLen.out;simp only [List.length_nil];omega) (by simp) ?_);intro v' w1 hown hgrow)
  go_ret
  refine ⟨v',rfl,by simpa using hown,?_⟩
  exact ((Below.refl _ w).alloc (Nat.le_refl _) _).grown hgrow (by simp) (by intro k hk;simp [Value.ownBlock] at hk;omega)
end
section
open Go.RowKit
theorem flat_set {k:Nat}:∀ {l:List (List Value)},(∀ x ∈ l,x.length=k) -> ∀ {p j:Nat} {u:Value} (hp:p<l.length),j<k->(l.set p (l[p].set j u)).flatten=l.flatten.set (p * k+j) u
 | [],_,p,j,u,hp,_=>by simp at hp
 | y :: l,hk,0,j,u,hp,hj=>by
  have hy:y.length=k:=hk y (by simp)
  simp only [tE,List.flatten_cons,tB,Nat.zero_mul,Nat.zero_add]
  rw [List.set_append_left _ _ (by omega)]
 | y :: l,hk,p+1,j,u,hp,hj=>by
  have hy:y.length=k:=hk y (by simp)
  simp only [tF,List.flatten_cons,tC]
  rw [flat_set (fun z hz=>hk z (by simp [hz])) (by simpa using hp) hj,List.set_append_right _ _ (by rw [hy,Nat.add_mul];omega)]
  congr 2
  rw [hy,Nat.add_mul];omega
section
variable {P:Program} {w:World} {base k g n c p j:Nat} {e:TypeId} {l:List (List Value)} {u:Value}
theorem OwnK.put (h:OwnK w base e k (.slice (some ⟨g,0,none⟩) n c) l) (hp:p<l.length) (hj:j<k) (u:Value) :
  OwnK (w.setCell ⟨g,p * k+j,none⟩ u) base e k (.slice (some ⟨g,0,none⟩) n c) (l.set p (l[p].set j u))/\(w.cell? ⟨g,p * k+j,none⟩).isSome/\w.frozen? ⟨g,p * k+j,none⟩=false:=by
 obtain ⟨hk,hlen,hr⟩:=h
 rcases hr with ⟨h1,_⟩ | ⟨g',cap,cur,h1,hb,hg,hn,hm,hc,ht⟩
 ·cases h1
 ·injection h1 with e1 e2 e3
  injection e1 with e1
  injection e1 with e1
  subst e1 e3
  have hlt:p * k+j<l.length * k:=by
   have:=Nat.mul_le_mul_right k (show p+1<=l.length from hp)
   rw [Nat.add_mul] at this;omega
  have hsz:p * k+j<cur.size:=by rw [hc];exact Nat.lt_of_lt_of_le hlt (Nat.mul_le_mul_right k hn)
  refine ⟨⟨fun x hx=>?_,?_,.inr ⟨g,c,cur.setIfInBounds (p * k+j) u,by rw [List.length_set,e2],hb,heap_setCell_same w g _ cur e u hg,by rw [List.length_set];exact hn,hm,by simpa using hc,?_⟩⟩,?_,?_⟩
  ·rcases List.mem_or_eq_of_mem_set hx with hx | rfl
   ·exact hk x hx
   ·rw [List.length_set];exact hk _ (List.getElem_mem hp)
  ·rw [flat_set hk hp hj,List.length_set,List.length_set];exact hlen
  ·rw [flat_set hk hp hj,List.length_set,Array.toList_setIfInBounds,List.take_set,ht]
  ·rw [cell_of_row w g _ cur e (0,0) hg];simp [hsz]
  ·exact Bk.free hg _
theorem OwnK.range (h:OwnK w base e k (.slice (some ⟨g,0,none⟩) n c) l) (hp:p<l.length):w.rangeAt g (p * k) l[p]:=by
 obtain ⟨A,c',hv,hr,_⟩:=h.sl
 injection hv with e1
 subst e1
 obtain ⟨g',o,ha,hx⟩:=hr.at hp
 injection ha with ha
 injection ha with e1 e2
 subst e1 e2
 simpa using hx
theorem store_own {ops:Array Oper} {rest:List Oper} {o:Oper} {a:Act} {Q:Exit->Act->World->Prop} (hw:Region.wanted o (yielded ops a.tmps)=true) (ty:TypeId) (x y:Operand) (ho:o.op = .store ty x y)
  (off:Nat) (u:Value) (hx:a.eval x = .pointer (some ⟨g,off,none⟩)) (hy:a.eval y=u) (hown:OwnK w base e k (.slice (some ⟨g,0,none⟩) n c) l) (p j:Nat) (hoff:off=p * k+j) (hp:p<l.length) (hj:j<k)
  (hi:(P.info? ty).map (·.size)=some 1) (h1:u.oneCell' = true) (hu:u.cells = #[u])
  (h:∀ w',OwnK w' base e k (.slice (some ⟨g,0,none⟩) n c) (l.set p (l[p].set j u))->w.grownBy w' (some g)->w'.heap.size=w.heap.size->wpList P ops Q rest (a.put o.dst undef) w'):wpList P ops Q (o :: rest) a w:=
 BigFrame.wpList_want hw fun K hKK=>by
  subst hoff
  obtain ⟨q1,q2,q3⟩:=hown.put hp hj u
  have hsv:(storeVar ty ⟨g,p * k+j,none⟩ u).run P w = .ok () (w.setCell ⟨g,p * k+j,none⟩ u):=by
   cases hq:P.info? ty with
   | none=>simp [hq] at hi
   | some i=>
    have hs:i.size=1:=by simpa [hq] using hi
    obtain ⟨v,hv⟩:=Option.isSome_iff_exists.1 q2
    simp [storeVar,sizeOf,typeInfo,hq,hu,hs,storeCells]
    rw [run_store P w _ _ _ h1]
    simp [stored,hv,q3,Addr.add]
  unfold Oper.wp execOp
  simp only [ho,hx,hy,Instr.storeAt,Instr.sureAddr,Sem.run_bind,Sem.run_pure,Result.andThen_ok,hsv]
  exact hKK _ _ (h _ q1 ⟨rfl,rfl,rfl,by simp,fun i hi hne=>Below.heap_setCell w _ u i (fun e=>hne (by rw [e]))⟩ (by simp))
end
section
variable {P:Program}
theorem results_bk1 {fn:Func} {p:Tmp} {ty:TypeId} (h:fn.results = #[.cell p ty]) (tmps:Array Value) (w:World) (g:Nat) (t:TypeId) (cs:Array Value) (d:TypeDesc)
  (hp:tmps.getD p undef = .pointer (some ⟨g,0,none⟩)) (hg:Bk w g t cs) (hu:P.underlying ty=some d) (hd:d.isRow=true) (hi:(P.info? ty).map (·.size)=some cs.size) :
  (results fn tmps).run P w = .ok (.agg cs) w:=by
 have hp':tmps[p]?.getD undef = .pointer (some ⟨g,0,none⟩):=by simpa using hp
 simp [results,h,hp',asAddr,loadVar_bk hg hu hd hi]
end
theorem OwnK.beside {w w':World} {b b' k k' g:Nat} {e e':TypeId} {v v':Value} {l l':List (List Value)} (h:OwnK w b e k v l) (h':OwnK w b' e' k' v' l') (hne:e ≠ e') (hv:v'.ownBlock=some g) (hg:w.grownBy w' (some g)):OwnK w' b e k v l:=
 h.grp (GrP.of hg) fun i hi e=>by injection e with e;subst e;exact h.parted h' hne hi hv
theorem LbNew.beside {w w':World} {b b' n cp k' g:Nat} {A:Option Addr} {l:List Lb} {e':TypeId} {v':Value} {l':List (List Value)} (h:LbNew w b A n cp l) (h':OwnK w b' e' k' v' l') (hne:70 ≠ e') (hv:v'.ownBlock=some g) (hg:w.grownBy w' (some g)):LbNew w' b A n cp l:=⟨h.own.beside h' hne hv hg,h.sz⟩
theorem LbNew.off {w:World} {b b' n cp k' g:Nat} {A:Option Addr} {l:List Lb} {e':TypeId} {v':Value} {l':List (List Value)} (h:LbNew w b A n cp l) (h':OwnK w b' e' k' v' l') (hne:70 ≠ e') (hg:blkA A g) (hv:v'.ownBlock=some g):False:=by
 obtain ⟨a,rfl,rfl⟩:=hg
 exact h.own.parted h' hne rfl hv
theorem OwnK.far {w:World} {b k:Nat} {e:TypeId} {v:Value} {l:List (List Value)} (h:OwnK w b e k v l) {p:Addr} (hp:p.block<b) (u:Value):OwnK (w.setCell p u) b e k v l:=
 h.grp (p:=fun k=>k=p.block) ⟨rfl,rfl,rfl,by simp,fun k _ hn=>Below.heap_setCell w p u k hn⟩ fun i hi e=>by have:=h.block i hi;omega
theorem Bk.set {w:World} {g:Nat} {t:TypeId} {cs:Array Value} (h:Bk w g t cs) {p:Addr} (hp:g ≠ p.block) (u:Value):Bk (w.setCell p u) g t cs:=h.other hp u
end
section
section
variable {P:Program} {ops:Array Oper} {Q:Exit->Act->World->Prop} {md:Region.Mode} {S S':World->Prop} {k0:Nat}
def wpAnyE (P:Program) (md:Region.Mode) (ops:Array Oper) (Q:Exit->Act->World->Prop) (S:World->Prop) (k0:Nat):Nat->Array Bool->Act->World->Prop
 | 0,listed,a,w=>Region.ready md ops listed=[]/\Q .normal a w
 | fuel+1,listed,a,w=>
  (Region.ready md ops listed=[]->Q .normal a w) /\
  ∀ i ∈ Region.ready md ops listed,wpOp P ops Q i (fun a' w'=>((listed.setIfInBounds i true).getD k0 false=true ∨ S w')/\wpAnyE P md ops Q S k0 fuel (listed.setIfInBounds i true) a' w') a w
theorem wpAny_of_E:∀ (fuel:Nat) (listed:Array Bool) (a:Act) (w:World),wpAnyE P md ops Q S k0 fuel listed a w->wpAny P md ops Q fuel listed a w
 | 0,_,_,_,h=>h
 | fuel+1,_,_,_,h=>⟨h.1,fun i hi=>wpOp_mono (fun a' w' h'=>wpAny_of_E fuel _ a' w' h'.2) (h.2 i hi)⟩
theorem getD_stays {l:Array Bool} {i k:Nat} (h:l.getD k false=true):(l.setIfInBounds i true).getD k false=true:=by
 simp only [Array.getD_eq_getD_getElem?,Array.getElem?_setIfInBounds] at h ⊢
 split
 ·split
  ·rfl
  ·rename_i h1 h2
   subst h1
   rw [Array.getElem?_eq_none (by omega)] at h;cases h
 ·exact h
theorem wpAnyE_out:∀ (fuel:Nat) (listed:Array Bool) (a:Act) (w:World),listed.getD k0 false=true->wpAny P md ops Q fuel listed a w->wpAnyE P md ops Q S k0 fuel listed a w
 | 0,_,_,_,_,h=>h
 | fuel+1,_,_,_,hk,h=>⟨h.1,fun i hi=>wpOp_mono (fun a' w' h'=>⟨.inl (getD_stays hk),wpAnyE_out fuel _ a' w' (getD_stays hk) h'⟩) (h.2 i hi)⟩
theorem wpAnyE_up (hS:∀ w,S' w->S w):∀ (fuel:Nat) (listed:Array Bool) (a:Act) (w:World),wpAnyE P md ops Q S' k0 fuel listed a w->wpAnyE P md ops Q S k0 fuel listed a w
 | 0,_,_,_,h=>h
 | fuel+1,_,_,_,h=>⟨h.1,fun i hi=>wpOp_mono (fun a' w' h'=>⟨h'.1.imp id (hS _),wpAnyE_up hS fuel _ a' w' h'.2⟩) (h.2 i hi)⟩
theorem getD_other {l:Array Bool} {i k:Nat} (h:i ≠ k):(l.setIfInBounds i true).getD k false=l.getD k false:=by
 simp only [Array.getD_eq_getD_getElem?,Array.getElem?_setIfInBounds]
 rw [if_neg h]
theorem getD_setE {l:Array Bool} {i k:Nat} (b:Bool) (h:i ≠ k):(l.setIfInBounds i true).getD k b=l.getD k b:=by
 simp only [Array.getD_eq_getD_getElem?,Array.getElem?_setIfInBounds]
 rw [if_neg h]
theorem wpAnyE_first {i:Nat} {oi:Oper} {v:Value} (hi:ops[i]? = some oi) (hsel:∀ (j:Nat) (o:Oper) cs b,ops[j]? = some o->o.op ≠ .select cs b)
  (hQ:∀ c a w,Q (.panic c) (a.put oi.dst v) w->Q (.panic c) a w) (hk:k0 ≠ i) (hwait:∀ ok,ops[k0]? = some ok -> ∃ e ∈ ok.after,Region.binds md e=true/\e.on=i) :
  ∀ (fuel:Nat) (listed:Array Bool) (a:Act) (w:World),listed.getD k0 false=false ->
   (∀ j oj,ops[j]? = some oj->j ≠ i->listed.getD j true=false->(∀ e ∈ oj.after,Region.binds md e=true->e.on ≠ i)->oi.apart ops oj=true) ->
   i ∈ Region.ready md ops listed->YieldsIf P ops S oi v a->S w ->
   wpAnyE P md ops Q S k0 fuel (listed.setIfInBounds i true) (a.put oi.dst v) w->wpAnyE P md ops Q S k0 (fuel+1) listed a w:=by
 intro fuel
 induction fuel with
 | zero=>
  intro listed a w _ _ hr hy hS H
  refine ⟨fun h=>(by rw [h] at hr;cases hr),fun j hj=>?_⟩
  by_cases hji:j=i
  ·subst hji;exact hy.wpOp hi hS ⟨.inr hS,H⟩
  ·have:=ready_mono hj hji
   rw [H.1] at this
   cases this
 | succ fuel ih=>
  intro listed a w hl0 hfree hr hy hS H
  refine ⟨fun h=>(by rw [h] at hr;cases hr),fun j hj=>?_⟩
  by_cases hji:j=i
  ·subst hji;exact hy.wpOp hi hS ⟨.inr hS,H⟩
  ·have h1:=H.2 j (ready_mono hj hji)
   obtain ⟨hjun,oj,hoj,hall⟩:=mem_ready.1 hj
   have hnot:∀ e ∈ oj.after,Region.binds md e=true->e.on ≠ i:=fun e he hb heq=>by
    have h1:=hall e he hb
    have h0:=(mem_ready.1 hr).1
    rw [heq] at h1
    rcases Nat.lt_or_ge i listed.size with h' | h'
    ·simp [h'] at h0 h1;rw [h0] at h1;cases h1
    ·simp [Array.getElem?_eq_none h'] at h1
   have hjk:j ≠ k0:=fun e=>by
    subst e
    obtain ⟨e,he,hb,heq⟩:=hwait oj hoj
    exact hnot e he hb heq
   have h2:=wpOp_putIf hoj (hfree j oj hoj hji hjun hnot) (fun cs b=>hsel i oi cs b hi) (fun cs b=>hsel j oj cs b hoj) hQ hy h1
   have hfree':∀ k ok,ops[k]? = some ok->k ≠ i->(listed.setIfInBounds j true).getD k true=false ->
     (∀ e ∈ ok.after,Region.binds md e=true->e.on ≠ i)->oi.apart ops ok=true:=fun k ok hk hki hun hno=>by
    refine hfree k ok hk hki ?_ hno
    by_cases hjk:j=k
    ·subst hjk;exact hjun
    ·rw [getD_setE true hjk] at hun;exact hun
   have hl1:(listed.setIfInBounds j true).getD k0 false=false:=by rw [getD_other hjk];exact hl0
   have hl2:((listed.setIfInBounds i true).setIfInBounds j true).getD k0 false=false:=by rw [getD_other hjk,getD_other (Ne.symm hk)];exact hl0
   refine wpOp_mono (fun a' w' h3=>?_) h2
   have hS':S w':=h3.2.1.resolve_left (by rw [hl2];simp)
   refine ⟨.inr hS',ih (listed.setIfInBounds j true) a' w' hl1 hfree' (ready_mono hr (Ne.symm hji)) h3.1 hS' ?_⟩
   rw [Array.setIfInBounds_comm _ _ hji]
   exact h3.2.2
def waitsB (md:Region.Mode) (ops:Array Oper) (k0 i:Nat):Bool:=k0 != i && match ops[k0]? with | none=>true | some ok=>ok.after.any (fun e=>Region.binds md e && e.on == i)
theorem waitsB_spec {i:Nat} (h:waitsB md ops k0 i=true):k0 ≠ i /\ ∀ ok,ops[k0]? = some ok -> ∃ e ∈ ok.after,Region.binds md e=true/\e.on=i:=by
 unfold waitsB at h
 rw [Bool.and_eq_true] at h
 refine ⟨by simpa using h.1,fun ok hok=>?_⟩
 have h2:=h.2
 rw [hok] at h2
 obtain ⟨e,he,hb⟩:=Array.any_eq_true'.1 h2
 simp only [Bool.and_eq_true,beq_iff_eq] at hb
 exact ⟨e,he,hb⟩
theorem wpAnyE_take {i:Nat} {oi:Oper} {v:Value} {fuel:Nat} {listed:Array Bool} {a:Act} {w:World} (hi:ops[i]? = some oi)
  (hs:Region.noSelect ops=true) (hf:Region.free md ops listed i=true) (hr:(Region.ready md ops listed).contains i=true) (hk:waitsB md ops k0 i=true) (hl:listed.getD k0 false=false)
  (hQ:∀ c a w,Q (.panic c) (a.put oi.dst v) w->Q (.panic c) a w) (hy:YieldsIf P ops S oi v a) (hS:S w)
  (h:wpAnyE P md ops Q S k0 fuel (listed.setIfInBounds i true) (a.put oi.dst v) w):wpAnyE P md ops Q S k0 (fuel+1) listed a w:=
 wpAnyE_first hi (Region.noSelect_spec hs) hQ (waitsB_spec hk).1 (waitsB_spec hk).2 fuel listed a w hl (Region.free_spec hi hf) (by simpa using hr) hy hS h
def AllReadyE (P:Program) (md:Region.Mode) (ops:Array Oper) (Q:Exit->Act->World->Prop) (S:World->Prop) (k0:Nat) (fuel:Nat) (listed:Array Bool) (a:Act) (w:World) (rs:List Nat):Prop:=
 ∀ i ∈ rs,wpOp P ops Q i (fun a' w'=>((listed.setIfInBounds i true).getD k0 false=true ∨ S w')/\wpAnyE P md ops Q S k0 fuel (listed.setIfInBounds i true) a' w') a w
theorem AllReadyE.nil {fuel:Nat} {listed:Array Bool} {a:Act} {w:World}:AllReadyE P md ops Q S k0 fuel listed a w []:=fun _ h=>by cases h
theorem AllReadyE.cons {fuel:Nat} {listed:Array Bool} {a:Act} {w:World} {i:Nat} {o:Oper} {rs:List Nat} (ho:ops[i]? = some o)
  (h:∀ K':Act->World->Prop,Shut (∀ a w,S w->(S w->wpAnyE P md ops Q S k0 fuel (listed.setIfInBounds i true) a w)->K' a w)->if Region.wanted o (yielded ops a.tmps)=true then Oper.wp P o a w K' Q else K' (a.put o.dst undef) w)
  (hs:AllReadyE P md ops Q S k0 fuel listed a w rs):AllReadyE P md ops Q S k0 fuel listed a w (i :: rs):=fun j hj=>by
 rcases List.mem_cons.1 hj with rfl | hj
 ·exact wpOp_step ho (fun K' hK=>h K' (fun a w hS hW=>hK a w ⟨.inr hS,hW hS⟩))
 ·exact hs j hj
theorem AllReadyE.last {fuel:Nat} {listed:Array Bool} {a:Act} {w:World} {i:Nat} {o:Oper} {rs:List Nat} (ho:ops[i]? = some o) (hl:(listed.setIfInBounds i true).getD k0 false=true)
  (h:∀ K':Act->World->Prop,Shut (∀ a w,wpAny P md ops Q fuel (listed.setIfInBounds i true) a w->K' a w)->if Region.wanted o (yielded ops a.tmps)=true then Oper.wp P o a w K' Q else K' (a.put o.dst undef) w)
  (hs:AllReadyE P md ops Q S k0 fuel listed a w rs):AllReadyE P md ops Q S k0 fuel listed a w (i :: rs):=fun j hj=>by
 rcases List.mem_cons.1 hj with rfl | hj
 ·exact wpOp_step ho (fun K' hK=>h K' (fun a w hW=>hK a w ⟨.inl hl,wpAnyE_out _ _ _ _ hl hW⟩))
 ·exact hs j hj
theorem wpAnyE_ready {rs:List Nat} {fuel:Nat} {listed:Array Bool} {a:Act} {w:World} (hr:Region.ready md ops listed=rs) (hne:rs ≠ [])
  (h:AllReadyE P md ops Q S k0 fuel listed a w rs):wpAnyE P md ops Q S k0 (fuel+1) listed a w:=⟨fun h0=>absurd (hr ▸ h0) hne,hr ▸ h⟩
theorem wp_region_E {id:Nat} {a:Act} {w:World} (k0:Nat) (hm:P.follows .mixedOrders=true) (hS:S w.drew)
  (h:S w.drew->wpAnyE P .any ops Q S k0 ops.size (Array.replicate ops.size false) a w.drew):(Code.region id ops true).wp P Q a w:=
 wp_region_any hm (wpAny_of_E _ _ _ _ (h hS))
end
end
end Go.Proofs.YtlodjgcnffmniaaGreat
