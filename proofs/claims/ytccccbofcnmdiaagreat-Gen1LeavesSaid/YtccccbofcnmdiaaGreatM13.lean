/- Lemmas that the law stands on. No condition. -/
import Derived.Test.YtccccbofcnmdiaaGreatM12
namespace Go.Proofs.YtccccbofcnmdiaaGreat
set_option linter.unusedSimpArgs false
set_option linter.unusedVariables false
set_option maxRecDepth 100000
set_option maxHeartbeats 51200000
section
open Go.RowKit
structure Oz where
 v:Ov
 A1:Option Addr
 m1:Nat
 p1:Nat
 A3:Option Addr
 m3:Nat
 p3:Nat
abbrev Oz.arr (x:Oz):Array Value:=#[.int .i64 x.v.k,.string x.v.nn,.int .i64 x.v.a1,.int .i64 x.v.b1,.int .i64 x.v.c1,.slice x.A1 x.m1 x.p1,.string x.v.qn,.int .i64 x.v.a2,.int .i64 x.v.b2,.int .i64 x.v.c2,.string x.v.tn,.string x.v.tq,.int .i64 x.v.tp,.int .i64 x.v.a3,.int .i64 x.v.b3,.int .i64 x.v.c3,.slice x.A3 x.m3 x.p3,.string x.v.ta,.string x.v.tg,.int .i64 x.v.ts,.string x.v.s]
def Oz.que (x:Oz):Qx:=(x.v.qn,x.v.a2,x.v.b2,x.v.c2)
structure OzOk (w:World) (x:Oz):Prop where
 l1:LbOk w x.A1 x.m1 x.p1 x.v.l1
 l3:LbOk w x.A3 x.m3 x.p3 x.v.l3
 nn:x.v.nn.size<=140737488351232
 qn:x.v.qn.size<=140737488351232
 tn:x.v.tn.size<=140737488351232
 tq:x.v.tq.size<=140737488351232
 ta:x.v.ta.size<=140737488351232
 tg:x.v.tg.size<=140737488351232
 s:x.v.s.size<=140737488351232
theorem OzOk.later {w w':World} {x:Oz} (h:OzOk w x) (hb:Below w.heap.size w w'):OzOk w' x:=⟨h.l1.later hb,h.l3.later hb,h.nn,h.qn,h.tn,h.tq,h.ta,h.tg,h.s⟩
theorem ozRight_any (x:Oz) (w:World) (h:OzOk w x):Calls Tryz.prog 43 #[.agg x.arr] w fun e w'=>e = .returned (.bool (opB x.v))/\Below w.heap.size w w':=
 opRight_any x.v.k x.v.nn x.v.a1 x.v.b1 x.v.c1 x.A1 x.m1 x.p1 x.v.l1 x.v.qn x.v.a2 x.v.b2 x.v.c2 x.v.tn x.v.tq x.v.tp x.v.a3 x.v.b3 x.v.c3 x.A3 x.m3 x.p3 x.v.l3 x.v.ta x.v.tg x.v.ts x.v.s w h.l1.len h.l1.cap h.l1.cap2 h.l3.len h.l3.cap h.l3.cap2 h.l1.rd h.l3.rd h.l1.sz h.l3.sz h.nn h.qn h.tn h.tq h.ta h.tg h.s
def RetL (b:Nat) (w:World) (A:Option Addr) (n c:Nat) (acts:List Ac):Prop:=n=acts.length/\RdA w A acts/\n<=c/\c<=9223372036854775807 /\ ∀ a,A=some a->b<=a.block
theorem RetL.nil (b:Nat) (w:World):RetL b w none 0 0 []:=⟨rfl,fun i x h=>(by simp at h),Nat.le_refl _,by omega,fun a h=>(by cases h)⟩
def Performs (b g:Nat) (vM vQ vJ:Value) (S:Sg) (x:Oz) (R:Sg × An):Prop:=∀ w,(∃ lst,Gs w b g lst vM vQ vJ S)->OzOk w x ->
 Calls Tryz.prog 44 #[.pointer (some ⟨g,0,none⟩),.agg x.arr] w fun e w'=>(∃ A n c,e = .returned (.tuple #[.slice A n c,.int .i64 R.2.1])/\RetL w.heap.size w' A n c R.2.2)/\Went w w' b g vM vQ vJ S R.1
theorem Went.wrap {w w1 w2 w3:World} {b g a:Nat} {lst:Int} {vM vQ vJ:Value} {S T:Sg} (hG:Gs w b g lst vM vQ vJ S) (hb:Below w.heap.size w w1) (h:Went w1 w2 b g vM vQ vJ S T) (hg:w2.grownBy w3 (some a)) (ha:w.heap.size<=a) (ha2:a<w1.heap.size):Went w w3 b g vM vQ vJ S T:=by
 obtain ⟨lst',vM',vQ',vJ',S',h1,h2,h3,h4⟩:=h
 have ho:∀ k,blkG g vM' vQ' vJ' S' k->k ≠ a:=fun k hk e=>by
  rcases h4 k hk with h | h
  ·have:=(hG.blk h).2;omega
  ·omega
 refine ⟨lst',vM',vQ',vJ',S',h1.grp (GrP.of hg) (fun k hk e=>by injection e with e;exact ho k hk e.symm),h2,?_,fun k hk=>(h4 k hk).imp id (fun h=>Nat.le_trans hb.size h)⟩
 have h5:GrP (fun k=>blkG g vM vQ vJ S k ∨ k=a) w w3:=((GrP.ofBelow hb).trans (h3.wide fun k _ e=>.inl e)).trans ((GrP.of hg).wide fun k _ e=>.inr (by injection e with e;exact e.symm))
 exact h5.wide fun k hk e=>e.resolve_right (by omega)
theorem Went.before {w w1 w2:World} {b g:Nat} {vM vQ vJ:Value} {S T:Sg} (hb:Below w.heap.size w w1) (h:Went w1 w2 b g vM vQ vJ S T):Went w w2 b g vM vQ vJ S T:=by
 obtain ⟨lst',vM',vQ',vJ',S',h1,h2,h3,h4⟩:=h
 exact ⟨lst',vM',vQ',vJ',S',h1,h2,(GrP.ofBelow hb).trans h3,fun k hk=>(h4 k hk).imp id (fun h=>Nat.le_trans hb.size h)⟩
theorem RetL.past {w w':World} {b b' a:Nat} {A:Option Addr} {n c:Nat} {acts:List Ac} (h:RetL b w A n c acts) (hb:b' <= b) (hg:w.grownBy w' (some a)) (ha:a<b):RetL b' w' A n c acts:=by
 obtain ⟨h1,h2,h3,h4,h5⟩:=h
 refine ⟨h1,fun i x hx=>?_,h3,h4,fun p hp=>Nat.le_trans hb (h5 p hp)⟩
 obtain ⟨g,o,hA,c1,c2,c3⟩:=h2 i x hx
 have hga:g ≠ a:=by have:=h5 _ hA;simp only at this;omega
 have hc:∀ (o:Nat) (u:Value),w.cell? ⟨g,o,none⟩=some u->w'.cell? ⟨g,o,none⟩=some u:=fun o u hu=>by
  rw [World.cell?_of_block (hg.block g (World.block_lt_of_cell? w _ hu) (by simp;exact hga))];exact hu
 exact ⟨g,o,hA,hc _ _ c1,hc _ _ c2,hc _ _ c3⟩


theorem do_any (b g:Nat) (vM vQ vJ:Value) (S:Sg) (x:Oz) (R:Sg × An) (w:World) (hG:Hid (∃ lst,Gs w b g lst vM vQ vJ S)) (hx:Hid (OzOk w x)) (hP:opB x.v=true->Performs b g vM vQ vJ S x R) :
  Calls Tryz.prog 18 #[.pointer (some ⟨g,0,none⟩),.agg x.arr] w fun e w'=>
   (∃ A n c,e = .returned (.agg #[.int .i64 (if opB x.v then R.2.1 else 1),.slice A n c])/\RetL w.heap.size w' A n c (if opB x.v then R.2.2 else []))/\Went w w' b g vM vQ vJ S (if opB x.v then R.1 else S):=by
 have k1:=fun W h=>ozRight_any x W h
 obtain ⟨o,ho⟩:∃ o,opB x.v=o:=⟨_,rfl⟩
 rw [ho] at k1 hP ⊢
 have K1:=Lib.hid k1;have HP:=Lib.hid hP
 clear k1 hP ho
 have hxl:=fun W (h:Below w.heap.size w W)=>hx.out.later h
 have HX:=Lib.hid hxl;clear hxl
 obtain ⟨⟨k,nn,a1,b1,c1,l1,qn,a2,b2,c2,tn,tq,tp,a3,b3,c3,l3,ta,tg,ts,s⟩,A1,m1,p1,A3,m3,p3⟩:=x
 obtain ⟨e0,e1⟩:∃ e0 e1,R=(e0,e1):=⟨_,_,rfl⟩
 obtain ⟨W0,hW0⟩:∃ W0,W0=(w.alloc (.cells #[.int .i64 k,.string nn,.int .i64 a1,.int .i64 b1,.int .i64 c1,.slice A1 m1 p1,.string qn,.int .i64 a2,.int .i64 b2,.int .i64 c2,.string tn,.string tq,.int .i64 tp,.int .i64 a3,.int .i64 b3,.int .i64 c3,.slice A3 m3 p3,.string ta,.string tg,.int .i64 ts,.string s] 49)).alloc (.cells #[.int .i64 0,.slice none 0 0] 36):=⟨_,rfl⟩
 have HO0:Hid (Bk W0 w.heap.size 49 #[.int .i64 k,.string nn,.int .i64 a1,.int .i64 b1,.int .i64 c1,.slice A1 m1 p1,.string qn,.int .i64 a2,.int .i64 b2,.int .i64 c2,.string tn,.string tq,.int .i64 tp,.int .i64 a3,.int .i64 b3,.int .i64 c3,.slice A3 m3 p3,.string ta,.string tg,.int .i64 ts,.string s]):=by rw [hW0];exact (Bk.fresh w _ _).later ((Below.refl _ _).alloc (Nat.le_refl _) _)
 have HA0:Hid (Bk W0 (w.heap.size+1) 36 #[.int .i64 0,.slice none 0 0]):=by rw [hW0];exact Bk.freshAt _ _ _ (by simp)
 have hB0:Below w.heap.size w W0:=by rw [hW0];exact ((Below.refl _ _).alloc (Nat.le_refl _) _).alloc (by simp) _
 subst hW0
 go_enter Tryz.func18,Tryz.ntmps18
 go_wp2_with ((with_reducible refine load_bk rfl 49 _ rfl w.heap.size 0 rfl 49 #[.int .i64 k,.string nn,.int .i64 a1,.int .i64 b1,.int .i64 c1,.slice A1 m1 p1,.string qn,.int .i64 a2,.int .i64 b2,.int .i64 c2,.string tn,.string tq,.int .i64 tp,.int .i64 a3,.int .i64 b3,.int .i64 c3,.slice A3 m3 p3,.string ta,.string tg,.int .i64 ts,.string s] #[.int .i64 k,.string nn,.int .i64 a1,.int .i64 b1,.int .i64 c1,.slice A1 m1 p1,.string qn,.int .i64 a2,.int .i64 b2,.int .i64 c2,.string tn,.string tq,.int .i64 tp,.int .i64 a3,.int .i64 b3,.int .i64 c3,.slice A3 m3 p3,.string ta,.string tg,.int .i64 ts,.string s] _ HO0.out (Part.whole _) Tryz.underlying49 rfl (by kernel_rfl) ?_))
 refine (K1.out _ (HX.out _ hB0)).mono ?_;rintro e w1 ⟨rfl,hb1⟩
 have HO1:=Lib.hid (HO0.out.later hb1);have HA1:=Lib.hid (HA0.out.later hb1)
 have hB1:Below w.heap.size w w1:=hB0.trans (hb1.mono hB0.size)
 have lt1:w.heap.size+1<w1.heap.size:=HA1.out.here
 clear HO0 HA0 hB0 hb1 K1
 cases o
 case false=>
  go_wp2_with ((with_reducible refine store_bk rfl 36 (.tmp 4) (.tmp 14) rfl (w.heap.size+1) 0 #[.int .i64 1,.slice none 0 0] rfl rfl 36 _ #[.int .i64 1,.slice none 0 0] HA1.out (by kernel_rfl) (by simp) (by kernel_rfl) rfl ?_);intro w2 hB2 hg2 hs2)
  obtain ⟨lst,hG'⟩:=hG.out
  exact bodyPost_ret (v:=.agg #[.int .i64 1,.slice none 0 0]) (results_bk1 Tryz.results18 _ _ (w.heap.size+1) 36 _ _ rfl hB2 Tryz.underlying36 rfl (by kernel_rfl)) rfl ⟨⟨none,0,0,rfl,RetL.nil _ _⟩,Went.wrap hG' hB1 (Went.same (hG'.below hB1) (Below.refl _ _)) hg2 (by omega) lt1⟩
 case true=>
  have hP1:=HP.out rfl w1 (by obtain ⟨lst,hG'⟩:=hG.out;exact ⟨lst,hG'.below hB1⟩) (HX.out _ hB1)
  have HP1:=Lib.hid hP1;clear hP1
  go_wp2_with ((with_reducible refine load_bk rfl 49 _ rfl w.heap.size 0 rfl 49 #[.int .i64 k,.string nn,.int .i64 a1,.int .i64 b1,.int .i64 c1,.slice A1 m1 p1,.string qn,.int .i64 a2,.int .i64 b2,.int .i64 c2,.string tn,.string tq,.int .i64 tp,.int .i64 a3,.int .i64 b3,.int .i64 c3,.slice A3 m3 p3,.string ta,.string tg,.int .i64 ts,.string s] #[.int .i64 k,.string nn,.int .i64 a1,.int .i64 b1,.int .i64 c1,.slice A1 m1 p1,.string qn,.int .i64 a2,.int .i64 b2,.int .i64 c2,.string tn,.string tq,.int .i64 tp,.int .i64 a3,.int .i64 b3,.int .i64 c3,.slice A3 m3 p3,.string ta,.string tg,.int .i64 ts,.string s] _ HO1.out (Part.whole _) Tryz.underlying49 rfl (by kernel_rfl) ?_))
  refine HP1.out.mono ?_;rintro e w2 ⟨⟨A,n,c,rfl,hR⟩,hW⟩
  have HW:=Lib.hid hW;have HR:=Lib.hid hR;clear hW hR
  have HA2:Hid (Bk w2 (w.heap.size+1) 36 #[.int .i64 0,.slice none 0 0]):=by
   obtain ⟨lst,hG'⟩:=hG.out
   obtain ⟨_,_,_,_,_,_,_,h3,_⟩:=HW.out
   exact HA1.out.grp h3 fun e=>by have:=(hG'.blk e).2;omega
  obtain ⟨R1,err,acts⟩:=R
  simp only at HW HR
  go_wp2_with ((with_reducible refine store_bk rfl 36 (.tmp 4) (.tmp 23) rfl (w.heap.size+1) 0 #[.int .i64 err,.slice A n c] rfl rfl 36 _ #[.int .i64 err,.slice A n c] HA2.out (by kernel_rfl) (by simp) (by kernel_rfl) rfl ?_);intro w3 hB3 hg3 hs3)
  obtain ⟨lst,hG'⟩:=hG.out
  exact bodyPost_ret (v:=.agg #[.int .i64 err,.slice A n c]) (results_bk1 Tryz.results18 _ _ (w.heap.size+1) 36 _ _ rfl hB3 Tryz.underlying36 rfl (by kernel_rfl)) rfl ⟨⟨A,n,c,rfl,HR.out.past hB1.size hg3 lt1⟩,Went.wrap hG' hB1 HW.out hg3 (by omega) lt1⟩


theorem perform_3 (b g:Nat) (vM vQ vJ:Value) (S:Sg) (x:Oz) (hk:x.v.k=3) (hM:Sm S) (hA:AscK (S.Q.map fun q=>q.1)) (hI:hasK x.que.1 (S.Q.map fun q=>q.1)=false->InsQ b vQ S.Q x.que):Performs b g vM vQ vJ S x (addQ S x.que):=by
 intro w hG hx
 have k1:=fun (W:World) (h:∃ lst,Gs W b g lst vM vQ vJ S)=>h.elim fun lst h=>addQueue_any b g lst vM vQ vJ S x.que W h hM hA hx.qn hI
 have K1:=Lib.hid k1;have HG:=Lib.hid hG
 clear k1 hG hx hA hI
 obtain ⟨R,hR⟩:∃ R,R=addQ S x.que:=⟨_,rfl⟩
 rw [<- hR] at K1 ⊢
 have hR3:R.2.2=[]:=by rw [hR];unfold addQ;split;rfl;split <;> rfl
 clear hR
 obtain ⟨⟨k,nn,a1,b1,c1,l1,qn,a2,b2,c2,tn,tq,tp,a3,b3,c3,l3,ta,tg,ts,s⟩,A1,m1,p1,A3,m3,p3⟩:=x
 simp only at hk
 subst hk
 obtain ⟨R1,err,acts⟩:=R
 simp only at hR3
 subst hR3
 have HO0:Hid (Bk (w.alloc (.cells #[.int .i64 3,.string nn,.int .i64 a1,.int .i64 b1,.int .i64 c1,.slice A1 m1 p1,.string qn,.int .i64 a2,.int .i64 b2,.int .i64 c2,.string tn,.string tq,.int .i64 tp,.int .i64 a3,.int .i64 b3,.int .i64 c3,.slice A3 m3 p3,.string ta,.string tg,.int .i64 ts,.string s] 49)) w.heap.size 49 #[.int .i64 3,.string nn,.int .i64 a1,.int .i64 b1,.int .i64 c1,.slice A1 m1 p1,.string qn,.int .i64 a2,.int .i64 b2,.int .i64 c2,.string tn,.string tq,.int .i64 tp,.int .i64 a3,.int .i64 b3,.int .i64 c3,.slice A3 m3 p3,.string ta,.string tg,.int .i64 ts,.string s]):=Bk.fresh w _ _
 have hB0:Below w.heap.size w (w.alloc (.cells #[.int .i64 3,.string nn,.int .i64 a1,.int .i64 b1,.int .i64 c1,.slice A1 m1 p1,.string qn,.int .i64 a2,.int .i64 b2,.int .i64 c2,.string tn,.string tq,.int .i64 tp,.int .i64 a3,.int .i64 b3,.int .i64 c3,.slice A3 m3 p3,.string ta,.string tg,.int .i64 ts,.string s] 49)):=(Below.refl _ _).alloc (Nat.le_refl _) _
 go_enter Tryz.func44,Tryz.ntmps44
 go_wp2_with ((with_reducible refine load_bk rfl 45 _ rfl w.heap.size 6 rfl 49 #[.int .i64 3,.string nn,.int .i64 a1,.int .i64 b1,.int .i64 c1,.slice A1 m1 p1,.string qn,.int .i64 a2,.int .i64 b2,.int .i64 c2,.string tn,.string tq,.int .i64 tp,.int .i64 a3,.int .i64 b3,.int .i64 c3,.slice A3 m3 p3,.string ta,.string tg,.int .i64 ts,.string s] #[.string qn,.int .i64 a2,.int .i64 b2,.int .i64 c2] _ HO0.out (Part.of rfl) Tryz.underlying45 rfl (by kernel_rfl) ?_))
 refine (K1.out _ (HG.out.elim fun lst h=>⟨lst,h.below hB0⟩)).mono ?_;rintro e w2 ⟨rfl,hW⟩
 have HW:=Lib.hid hW;clear hW
 go_wp2_with fail
 exact bodyPost_ret (v:=.tuple #[.slice none 0 0,.int .i64 err]) (by simp [results,Tryz.results44,go_sem]) rfl ⟨⟨none,0,0,rfl,RetL.nil _ _⟩,Went.before hB0 HW.out⟩
end
section
open Go.RowKit
def wB (s:ByteArray):Bool:=decide (s.size=0)

theorem waits_any (j:Jb) (w:World):Calls Tryz.prog 101 #[.agg j.arr] w fun e w'=>e = .returned (.bool (wB j.nd))/\Below w.heap.size w w':=by
 obtain ⟨nm,qu,pr,a,b,c,A,n,cp,ap,ga,sz,sq,nd,bo⟩:=j
 by_cases h:nd.size=0
 ·obtain rfl:=empty_of h
  go_enter Tryz.func101,Tryz.ntmps101
  go_wp2
  go_ret
  exact ⟨rfl,(by (repeat' (first | (with_reducible exact Below.refl _ _) | (with_reducible refine bdrewN ?_ _) | (with_reducible refine Below.drew ?_) | (with_reducible refine Below.setCell ?_ ?_ _) | (with_reducible refine Below.alloc ?_ ?_ _) | (with_reducible exact Nat.le_refl _) | (with_reducible assumption) | omega | (simp only [World.size_alloc,World.size_setCell,World.size_drew,sz_drewN];omega))))⟩
 ·have h1:=full_of h
  have hres:wB nd=false:=decide_eq_false h
  show Calls _ _ _ _ fun e w'=>e = .returned (.bool (wB nd))/\_
  rw [hres]
  clear hres h
  obtain ⟨h1,h2⟩:=h1
  go_enter Tryz.func101,Tryz.ntmps101
  go_wp2
  go_ret
  exact ⟨rfl,(by (repeat' (first | (with_reducible exact Below.refl _ _) | (with_reducible refine bdrewN ?_ _) | (with_reducible refine Below.drew ?_) | (with_reducible refine Below.setCell ?_ ?_ _) | (with_reducible refine Below.alloc ?_ ?_ _) | (with_reducible exact Nat.le_refl _) | (with_reducible assumption) | omega | (simp only [World.size_alloc,World.size_setCell,World.size_drew,sz_drewN];omega))))⟩
def fnd (s:ByteArray):Nat->List Jb->Int
 | _,[]=>-1
 | k,j :: l=>if sE j.nm s then k else fnd s (k+1) l
theorem fnd_yes {s:ByteArray} {k:Nat} {l:List Jb} (h:k<l.length) (he:sE l[k].nm s=true):fnd s k (l.drop k)=k:=by
 rw [List.drop_eq_getElem_cons h,fnd,if_pos he]
theorem fnd_no {s:ByteArray} {k:Nat} {l:List Jb} (h:k<l.length) (he:sE l[k].nm s=false):fnd s k (l.drop k)=fnd s (k+1) (l.drop (k+1)):=by
 rw [List.drop_eq_getElem_cons h,fnd,he];rfl

theorem find_any (A:Option Addr) (n cap:Nat) (l:List Jb) (s:ByteArray) (w:World) (hn:Hid (n=l.length)) (hl:n<=9223372036854775807) (hA:Hid (RdJ w A l)) (r:Int) (hs:Hid (fnd s 0 l=r)) :
  Calls Tryz.prog 99 #[.slice A n cap,.string s] w fun e w'=>e = .returned (.int .i64 r)/\Below w.heap.size w w':=by
 go_enter Tryz.func99,Tryz.ntmps99
 go_wp2_with fail
 go_loopw [9] (fun i wr=>∃ k:Nat,k<=n/\i = .int .i64 k/\Hid (fnd s k (l.drop k)=r)/\Below w.heap.size w wr) (fun i wr=>n - (intOf i).toNat)
 case atStart=>exact ⟨0,Nat.zero_le _,rfl,(show fnd s 0 (l.drop 0)=r by simpa using hs.out),Below.refl _ _⟩
 case round=>
  obtain ⟨k,hk,rfl,HS,hb⟩:=hrel
  by_cases hlt:k<n
  ·have hlk:k<l.length:=by have:=hn.out;omega
   obtain ⟨g,o,rfl,hg,hj⟩:=(hA.out.later hb).at hlk
   obtain ⟨j,hjk⟩:∃ j,j=l[k]:=⟨_,rfl⟩
   rw [<- hjk] at hj
   have HJ:=Lib.hid hj;clear hj
   cases he:sE j.nm s
   ·have hfin:=HS.out
    rw [fnd_no hlk (hjk ▸ he)] at hfin
    have HF:=Lib.hid hfin;clear hfin
    have he':(j.nm.toList == s.toList)=false:=he
    have HJK:=Lib.hid hjk;clear hjk he
    go_wp2_with (first | (with_reducible refine load_rg rfl 66 _ rfl g (o+k * 13) rfl j.arr _ HJ.out.rg Tryz.underlying66 rfl (by kernel_rfl) ?_) | ((with_reducible refine store_bk rfl 66 (.tmp 6) (.tmp 13) rfl wr.heap.size 0 j.arr rfl rfl 66 _ j.arr (Bk.fresh _ _ _) (by kernel_rfl) (by simp) (by kernel_rfl) rfl ?_);intro w1 hB1 hg1 hs1;have hn1:=hB1.cellAt 0;simp at hn1))
    go_round
    case rel=>exact ⟨k+1,by omega,by go_num,HF,grown_below (hb.alloc hb.size _) hg1 (by have:=hb.size;omega)⟩
    case measure=>simp [intOf];omega
   ·have hfin:=HS.out
    rw [fnd_yes hlk (hjk ▸ he)] at hfin
    subst hfin
    have he':(j.nm.toList == s.toList)=true:=he
    have HJK:=Lib.hid hjk;clear hjk he
    go_wp2_with (first | (with_reducible refine load_rg rfl 66 _ rfl g (o+k * 13) rfl j.arr _ HJ.out.rg Tryz.underlying66 rfl (by kernel_rfl) ?_) | ((with_reducible refine store_bk rfl 66 (.tmp 6) (.tmp 13) rfl wr.heap.size 0 j.arr rfl rfl 66 _ j.arr (Bk.fresh _ _ _) (by kernel_rfl) (by simp) (by kernel_rfl) rfl ?_);intro w1 hB1 hg1 hs1;have hn1:=hB1.cellAt 0;simp at hn1))
    go_ret
    exact ⟨rfl,grown_below (hb.alloc hb.size _) hg1 (by have:=hb.size;omega)⟩
  ·have hk':k=n:=by omega
   subst hk'
   have hfin:=HS.out
   rw [hn.out,List.drop_length,fnd] at hfin
   subst hfin
   go_wp2_with fail
   go_ret
   exact ⟨rfl,hb⟩
end
section
open Go.RowKit
abbrev keyQ (Q:List Qx):List ByteArray:=Q.map fun q=>q.1
theorem OwnS.rdJs {w:World} {b:Nat} {vM vQ:Value} {S:Sg} {C:Option Addr} {n cC:Nat} (h:OwnS w b vM vQ (.slice C n cC) S):RdJ w C (jbs S.J):=by
 obtain ⟨A',c,hv,hr,_⟩:=h.J.sl
 injection hv with h1;subst h1;exact hr
theorem OwnS.lenJ {w:World} {b:Nat} {vM vQ:Value} {S:Sg} {C:Option Addr} {n cC:Nat} (h:OwnS w b vM vQ (.slice C n cC) S):n=S.J.length:=by
 obtain ⟨A',c,hv,hr,_⟩:=h.J.sl
 injection hv with h1 h2;rw [h2,cellsJ_length,List.length_map]


theorem dropNode_no (b g:Nat) (lst:Int) (vM vQ vJ:Value) (S:Sg) (s:ByteArray) (w:World) (hG:Gs w b g lst vM vQ vJ S) (hM:Sm S) (hA:AscK (keyM S.M)) (hf:hasK s (keyM S.M)=false) :
  Calls Tryz.prog 84 #[.pointer (some ⟨g,0,none⟩),.string s] w fun e w'=>e = .returned (.tuple #[.slice none 0 0,.int .i64 7])/\Below w.heap.size w w':=by
 obtain ⟨⟨ck,nx,A,N,cA,B,K0,cB,C,n,cC⟩,hva,hvr⟩:=hG.own.rd
 have hv1:.slice A N cA=vM:=congrArg (fun a:Array Value=>a.getD 2 undef) hva
 have hv2:.slice B K0 cB=vQ:=congrArg (fun a:Array Value=>a.getD 3 undef) hva
 have hv3:.slice C n cC=vJ:=congrArg (fun a:Array Value=>a.getD 4 undef) hva
 subst hv1 hv2 hv3
 clear hva hvr
 have hl:N=S.M.length:=hG.own.lenM
 have hlb:N<=1000:=by rw [hl];exact hM.M
 obtain ⟨p,hp⟩:∃ p,p=lbK s (keyM S.M):=⟨_,rfl⟩
 have kf:∀ W,RdM W A (mcs S.M)->Calls Tryz.prog 102 #[.slice A N cA,.string s,.func (.func 94) #[] #[]] W fun e w'=>e = .returned (.tuple #[.int .i64 p,.bool false])/\Below W.heap.size W w':=fun W h=>by
  have hx:=findM_any A N cA S.M s W hl h hlb hA
  rw [hf,<- hp] at hx
  exact hx
 have k1:=kf w hG.own.rdMs
 have c1:w.cell? ⟨g,2,none⟩=some (.slice A N cA):=hG.bk.cellAt 2
 have K1:=Lib.hid k1
 clear k1 hG hf hl hlb hM kf hp hA
 go_enter Tryz.func84,Tryz.ntmps84
 go_wp2_with fail
 refine K1.out.mono ?_;rintro e w1 ⟨rfl,hb1⟩
 go_wp2_with fail
 exact bodyPost_ret (v:=.tuple #[.slice none 0 0,.int .i64 7]) (by simp [results,Tryz.results84,go_sem]) rfl ⟨rfl,hb1⟩


theorem dropQueue_no (b g:Nat) (lst:Int) (vM vQ vJ:Value) (S:Sg) (s:ByteArray) (w:World) (hG:Gs w b g lst vM vQ vJ S) (hM:Sm S) (hA:AscK (keyQ S.Q)) (hf:hasK s (keyQ S.Q)=false) :
  Calls Tryz.prog 86 #[.pointer (some ⟨g,0,none⟩),.string s] w fun e w'=>e = .returned (.int .i64 7)/\Below w.heap.size w w':=by
 obtain ⟨⟨ck,nx,A,N,cA,B,K0,cB,C,n,cC⟩,hva,hvr⟩:=hG.own.rd
 have hv1:.slice A N cA=vM:=congrArg (fun a:Array Value=>a.getD 2 undef) hva
 have hv2:.slice B K0 cB=vQ:=congrArg (fun a:Array Value=>a.getD 3 undef) hva
 have hv3:.slice C n cC=vJ:=congrArg (fun a:Array Value=>a.getD 4 undef) hva
 subst hv1 hv2 hv3
 clear hva hvr
 have hl:K0=S.Q.length:=hG.own.lenQ
 have hlb:K0<=1000:=by rw [hl];exact hM.Q
 obtain ⟨p,hp⟩:∃ p,p=lbK s (keyQ S.Q):=⟨_,rfl⟩
 have kf:∀ W,RdQ W B S.Q->Calls Tryz.prog 100 #[.slice B K0 cB,.string s,.func (.func 96) #[] #[]] W fun e w'=>e = .returned (.tuple #[.int .i64 p,.bool false])/\Below W.heap.size W w':=fun W h=>by
  have hx:=findQ_any B K0 cB S.Q s W hl h hlb hA
  rw [hf,<- hp] at hx
  exact hx
 have k1:=kf w hG.own.rdQ
 have c1:w.cell? ⟨g,3,none⟩=some (.slice B K0 cB):=hG.bk.cellAt 3
 have K1:=Lib.hid k1
 clear k1 hG hf hl hlb hM kf hp hA
 go_enter Tryz.func86,Tryz.ntmps86
 go_wp2_with fail
 refine K1.out.mono ?_;rintro e w1 ⟨rfl,hb1⟩
 go_wp2_with fail
 go_ret
 exact ⟨rfl,hb1⟩


theorem beat_no (b g:Nat) (lst:Int) (vM vQ vJ:Value) (S:Sg) (s:ByteArray) (w:World) (hG:Gs w b g lst vM vQ vJ S) (hM:Sm S) (hA:AscK (keyM S.M)) (hf:hasK s (keyM S.M)=false) :
  Calls Tryz.prog 90 #[.pointer (some ⟨g,0,none⟩),.string s] w fun e w'=>e = .returned (.int .i64 7)/\Below w.heap.size w w':=by
 obtain ⟨⟨ck,nx,A,N,cA,B,K0,cB,C,n,cC⟩,hva,hvr⟩:=hG.own.rd
 have hv1:.slice A N cA=vM:=congrArg (fun a:Array Value=>a.getD 2 undef) hva
 have hv2:.slice B K0 cB=vQ:=congrArg (fun a:Array Value=>a.getD 3 undef) hva
 have hv3:.slice C n cC=vJ:=congrArg (fun a:Array Value=>a.getD 4 undef) hva
 subst hv1 hv2 hv3
 clear hva hvr
 have hl:N=S.M.length:=hG.own.lenM
 have hlb:N<=1000:=by rw [hl];exact hM.M
 obtain ⟨p,hp⟩:∃ p,p=lbK s (keyM S.M):=⟨_,rfl⟩
 have kf:∀ W,RdM W A (mcs S.M)->Calls Tryz.prog 102 #[.slice A N cA,.string s,.func (.func 94) #[] #[]] W fun e w'=>e = .returned (.tuple #[.int .i64 p,.bool false])/\Below W.heap.size W w':=fun W h=>by
  have hx:=findM_any A N cA S.M s W hl h hlb hA
  rw [hf,<- hp] at hx
  exact hx
 have k1:=kf w hG.own.rdMs
 have c1:w.cell? ⟨g,2,none⟩=some (.slice A N cA):=hG.bk.cellAt 2
 have K1:=Lib.hid k1
 clear k1 hG hf hl hlb hM kf hp hA
 go_enter Tryz.func90,Tryz.ntmps90
 go_wp2_with fail
 refine K1.out.mono ?_;rintro e w1 ⟨rfl,hb1⟩
 go_wp2_with fail
 go_ret
 exact ⟨rfl,hb1⟩


theorem cancel_no (b g:Nat) (lst:Int) (vM vQ vJ:Value) (S:Sg) (s:ByteArray) (w:World) (hG:Gs w b g lst vM vQ vJ S) (hM:Sm S) (hf:fnd s 0 (jbs S.J) = -1) :
  Calls Tryz.prog 88 #[.pointer (some ⟨g,0,none⟩),.string s] w fun e w'=>e = .returned (.tuple #[.slice none 0 0,.int .i64 7])/\Below w.heap.size w w':=by
 obtain ⟨⟨ck,nx,A,N,cA,B,K0,cB,C,n,cC⟩,hva,hvr⟩:=hG.own.rd
 have hv1:.slice A N cA=vM:=congrArg (fun a:Array Value=>a.getD 2 undef) hva
 have hv2:.slice B K0 cB=vQ:=congrArg (fun a:Array Value=>a.getD 3 undef) hva
 have hv3:.slice C n cC=vJ:=congrArg (fun a:Array Value=>a.getD 4 undef) hva
 subst hv1 hv2 hv3
 clear hva hvr
 have hl:n=S.J.length:=hG.own.lenJ
 have hlb:n<=1000:=by rw [hl];exact hM.J
 have k1:=find_any C n cC (jbs S.J) s w (show _=_ by rw [List.length_map];exact hl) (by omega) hG.own.rdJs (-1) hf
 have c1:w.cell? ⟨g,4,none⟩=some (.slice C n cC):=hG.bk.cellAt 4
 have K1:=Lib.hid k1
 clear k1 hG hf hl hlb hM 
 go_enter Tryz.func88,Tryz.ntmps88
 go_wp2_with fail
 refine K1.out.mono ?_;rintro e w1 ⟨rfl,hb1⟩
 go_wp2_with fail
 exact bodyPost_ret (v:=.tuple #[.slice none 0 0,.int .i64 7]) (by simp [results,Tryz.results88,go_sem]) rfl ⟨rfl,hb1⟩


theorem finish_no (b g:Nat) (lst:Int) (vM vQ vJ:Value) (S:Sg) (s:ByteArray) (w:World) (hG:Gs w b g lst vM vQ vJ S) (hM:Sm S) (hf:fnd s 0 (jbs S.J) = -1) :
  Calls Tryz.prog 89 #[.pointer (some ⟨g,0,none⟩),.string s] w fun e w'=>e = .returned (.int .i64 7)/\Below w.heap.size w w':=by
 obtain ⟨⟨ck,nx,A,N,cA,B,K0,cB,C,n,cC⟩,hva,hvr⟩:=hG.own.rd
 have hv1:.slice A N cA=vM:=congrArg (fun a:Array Value=>a.getD 2 undef) hva
 have hv2:.slice B K0 cB=vQ:=congrArg (fun a:Array Value=>a.getD 3 undef) hva
 have hv3:.slice C n cC=vJ:=congrArg (fun a:Array Value=>a.getD 4 undef) hva
 subst hv1 hv2 hv3
 clear hva hvr
 have hl:n=S.J.length:=hG.own.lenJ
 have hlb:n<=1000:=by rw [hl];exact hM.J
 have k1:=find_any C n cC (jbs S.J) s w (show _=_ by rw [List.length_map];exact hl) (by omega) hG.own.rdJs (-1) hf
 have c1:w.cell? ⟨g,4,none⟩=some (.slice C n cC):=hG.bk.cellAt 4
 have K1:=Lib.hid k1
 clear k1 hG hf hl hlb hM 
 go_enter Tryz.func89,Tryz.ntmps89
 go_wp2_with fail
 refine K1.out.mono ?_;rintro e w1 ⟨rfl,hb1⟩
 go_wp2_with fail
 go_ret
 exact ⟨rfl,hb1⟩


theorem perform_1 (b g:Nat) (vM vQ vJ:Value) (S:Sg) (x:Oz) (hk:x.v.k=1) (hM:Sm S) (hA:AscK (keyM S.M)) (hll:x.v.l1.length<=1000) (hI:hasK x.v.nn (keyM S.M)=false->InsM b vM S.M x.v.nn):Performs b g vM vQ vJ S x (addN S x.v.nn x.v.a1 x.v.b1 x.v.c1 x.v.l1):=by
 intro w hG hx
 have hbg:b<=w.heap.size:=hG.elim fun lst h=>Nat.le_trans h.le (Nat.le_of_lt h.bk.here)
 have k1:=fun (W:World) (h:∃ lst,Gs W b g lst vM vQ vJ S) (hb:Below w.heap.size w W)=>h.elim fun lst h=>addNode_any b g lst vM vQ vJ S x.v.nn x.v.a1 x.v.b1 x.v.c1 x.A1 x.m1 x.p1 x.v.l1 W h hM hA hx.nn (hx.l1.later hb) hll (Nat.le_trans hbg hb.size) hI
 have K1:=Lib.hid k1;have HG:=Lib.hid hG
 clear k1 hG hx hA hI hll hbg hM
 obtain ⟨R,hR⟩:∃ R,R=addN S x.v.nn x.v.a1 x.v.b1 x.v.c1 x.v.l1:=⟨_,rfl⟩
 rw [<- hR] at K1 ⊢
 have hR3:R.2.2=[]:=by rw [hR];unfold addN;split;rfl;split <;> rfl
 clear hR
 obtain ⟨⟨k,nn,a1,b1,c1,l1,qn,a2,b2,c2,tn,tq,tp,a3,b3,c3,l3,ta,tg,ts,s⟩,A1,m1,p1,A3,m3,p3⟩:=x
 simp only at hk
 subst hk
 obtain ⟨R1,err,acts⟩:=R
 simp only at hR3
 subst hR3
 have HO0:Hid (Bk (w.alloc (.cells #[.int .i64 1,.string nn,.int .i64 a1,.int .i64 b1,.int .i64 c1,.slice A1 m1 p1,.string qn,.int .i64 a2,.int .i64 b2,.int .i64 c2,.string tn,.string tq,.int .i64 tp,.int .i64 a3,.int .i64 b3,.int .i64 c3,.slice A3 m3 p3,.string ta,.string tg,.int .i64 ts,.string s] 49)) w.heap.size 49 #[.int .i64 1,.string nn,.int .i64 a1,.int .i64 b1,.int .i64 c1,.slice A1 m1 p1,.string qn,.int .i64 a2,.int .i64 b2,.int .i64 c2,.string tn,.string tq,.int .i64 tp,.int .i64 a3,.int .i64 b3,.int .i64 c3,.slice A3 m3 p3,.string ta,.string tg,.int .i64 ts,.string s]):=Bk.fresh w _ _
 have hB0:Below w.heap.size w (w.alloc (.cells #[.int .i64 1,.string nn,.int .i64 a1,.int .i64 b1,.int .i64 c1,.slice A1 m1 p1,.string qn,.int .i64 a2,.int .i64 b2,.int .i64 c2,.string tn,.string tq,.int .i64 tp,.int .i64 a3,.int .i64 b3,.int .i64 c3,.slice A3 m3 p3,.string ta,.string tg,.int .i64 ts,.string s] 49)):=(Below.refl _ _).alloc (Nat.le_refl _) _
 go_enter Tryz.func44,Tryz.ntmps44
 go_wp2_with ((with_reducible refine load_bk rfl 43 _ rfl w.heap.size 1 rfl 49 #[.int .i64 1,.string nn,.int .i64 a1,.int .i64 b1,.int .i64 c1,.slice A1 m1 p1,.string qn,.int .i64 a2,.int .i64 b2,.int .i64 c2,.string tn,.string tq,.int .i64 tp,.int .i64 a3,.int .i64 b3,.int .i64 c3,.slice A3 m3 p3,.string ta,.string tg,.int .i64 ts,.string s] #[.string nn,.int .i64 a1,.int .i64 b1,.int .i64 c1,.slice A1 m1 p1] _ HO0.out (Part.of rfl) Tryz.underlying43 rfl (by kernel_rfl) ?_))
 refine (K1.out _ (HG.out.elim fun lst h=>⟨lst,h.below hB0⟩) hB0).mono ?_;rintro e w2 ⟨rfl,hW⟩
 have HW:=Lib.hid hW;clear hW
 go_wp2_with fail
 exact bodyPost_ret (v:=.tuple #[.slice none 0 0,.int .i64 err]) (by simp [results,Tryz.results44,go_sem]) rfl ⟨⟨none,0,0,rfl,RetL.nil _ _⟩,Went.before hB0 HW.out⟩
end
end Go.Proofs.YtccccbofcnmdiaaGreat
