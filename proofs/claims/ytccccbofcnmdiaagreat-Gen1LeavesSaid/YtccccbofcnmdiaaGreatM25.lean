/- Lemmas that the law stands on. No condition. -/
import Derived.Test.YtccccbofcnmdiaaGreatM24
namespace Go.Proofs.YtccccbofcnmdiaaGreat
set_option linter.unusedSimpArgs false
set_option linter.unusedVariables false
set_option maxRecDepth 100000
set_option maxHeartbeats 51200000
section
open Go.RowKit
theorem RetL.base {w:World} {b b':Nat} {A:Option Addr} {n c:Nat} {acts:List Ac} (h:RetL b w A n c acts) (hb:b' <= b):RetL b' w A n c acts:=⟨h.1,h.2.1,h.2.2.1,h.2.2.2.1,fun a ha=>Nat.le_trans hb (h.2.2.2.2 a ha)⟩
structure AscS (S:Sg):Prop where
 M:AscK (keyM S.M)
 Q:AscK (keyQ S.Q)


theorem perform_any2 (b g:Nat) (vM vQ vJ:Value) (S:Sg) (x:Oz) (hk:x.v.k=2) (hM:Sm S) (hA:AscS S) (hll:x.v.l3.length<=1000):Performs b g vM vQ vJ S x (dropN' S x.v.s):=by
 intro w hG hx
 have hbg:b<=w.heap.size:=hG.elim fun lst h=>Nat.le_trans h.le (Nat.le_of_lt h.bk.here)
 have k1:=fun (W:World) (h:∃ lst,Gs W b g lst vM vQ vJ S) (hb:Below w.heap.size w W)=>h.elim fun lst h=>dropNode_any b g lst vM vQ vJ S x.v.s W h hM hA.M
 obtain ⟨R,hR⟩:∃ R,R=dropN' S x.v.s:=⟨_,rfl⟩
 rw [<- hR] at k1 ⊢
 have K1:=Lib.hid k1;have HG:=Lib.hid hG
 clear k1 hG hx hM hA hll hR hbg
 obtain ⟨⟨k,nn,a1,b1,c1,l1,qn,a2,b2,c2,tn,tq,tp,a3,b3,c3,l3,ta,tg,ts,s⟩,A1,m1,p1,A3,m3,p3⟩:=x
 simp only at hk
 subst hk
 obtain ⟨R1,err,acts⟩:=R
 have HO0:Hid (Bk (w.alloc (.cells #[.int .i64 2,.string nn,.int .i64 a1,.int .i64 b1,.int .i64 c1,.slice A1 m1 p1,.string qn,.int .i64 a2,.int .i64 b2,.int .i64 c2,.string tn,.string tq,.int .i64 tp,.int .i64 a3,.int .i64 b3,.int .i64 c3,.slice A3 m3 p3,.string ta,.string tg,.int .i64 ts,.string s] 49)) w.heap.size 49 #[.int .i64 2,.string nn,.int .i64 a1,.int .i64 b1,.int .i64 c1,.slice A1 m1 p1,.string qn,.int .i64 a2,.int .i64 b2,.int .i64 c2,.string tn,.string tq,.int .i64 tp,.int .i64 a3,.int .i64 b3,.int .i64 c3,.slice A3 m3 p3,.string ta,.string tg,.int .i64 ts,.string s]):=Bk.fresh w _ _
 have hB0:Below w.heap.size w (w.alloc (.cells #[.int .i64 2,.string nn,.int .i64 a1,.int .i64 b1,.int .i64 c1,.slice A1 m1 p1,.string qn,.int .i64 a2,.int .i64 b2,.int .i64 c2,.string tn,.string tq,.int .i64 tp,.int .i64 a3,.int .i64 b3,.int .i64 c3,.slice A3 m3 p3,.string ta,.string tg,.int .i64 ts,.string s] 49)):=(Below.refl _ _).alloc (Nat.le_refl _) _
 go_enter Tryz.func44,Tryz.ntmps44
 go_wp2_with fail
 refine (K1.out _ (HG.out.elim fun lst h=>⟨lst,h.below hB0⟩) hB0).mono ?_;rintro e w2 ⟨⟨A,n,c,rfl,hRL⟩,hW⟩
 have HW:=Lib.hid hW;have HR:=Lib.hid hRL;clear hW hRL
 go_wp2_with fail
 exact bodyPost_ret (v:=.tuple #[.slice A n c,.int .i64 err]) (by simp [results,Tryz.results44,go_sem]) rfl ⟨⟨A,n,c,rfl,HR.out.base hB0.size⟩,Went.before hB0 HW.out⟩


theorem perform_any4 (b g:Nat) (vM vQ vJ:Value) (S:Sg) (x:Oz) (hk:x.v.k=4) (hM:Sm S) (hA:AscS S) (hll:x.v.l3.length<=1000):Performs b g vM vQ vJ S x (dropQ S x.v.s):=by
 intro w hG hx
 have hbg:b<=w.heap.size:=hG.elim fun lst h=>Nat.le_trans h.le (Nat.le_of_lt h.bk.here)
 have k1:=fun (W:World) (h:∃ lst,Gs W b g lst vM vQ vJ S) (hb:Below w.heap.size w W)=>h.elim fun lst h=>dropQueue_any b g lst vM vQ vJ S x.v.s W h hM hA.Q
 obtain ⟨R,hR⟩:∃ R,R=dropQ S x.v.s:=⟨_,rfl⟩
 rw [<- hR] at k1 ⊢
 have hR3:R.2.2=[]:=by rw [hR];unfold dropQ;(repeat' split) <;> rfl
 have K1:=Lib.hid k1;have HG:=Lib.hid hG
 clear k1 hG hx hM hA hll hR hbg
 obtain ⟨⟨k,nn,a1,b1,c1,l1,qn,a2,b2,c2,tn,tq,tp,a3,b3,c3,l3,ta,tg,ts,s⟩,A1,m1,p1,A3,m3,p3⟩:=x
 simp only at hk
 subst hk
 obtain ⟨R1,err,acts⟩:=R
 simp only at hR3
 subst hR3
 have HO0:Hid (Bk (w.alloc (.cells #[.int .i64 4,.string nn,.int .i64 a1,.int .i64 b1,.int .i64 c1,.slice A1 m1 p1,.string qn,.int .i64 a2,.int .i64 b2,.int .i64 c2,.string tn,.string tq,.int .i64 tp,.int .i64 a3,.int .i64 b3,.int .i64 c3,.slice A3 m3 p3,.string ta,.string tg,.int .i64 ts,.string s] 49)) w.heap.size 49 #[.int .i64 4,.string nn,.int .i64 a1,.int .i64 b1,.int .i64 c1,.slice A1 m1 p1,.string qn,.int .i64 a2,.int .i64 b2,.int .i64 c2,.string tn,.string tq,.int .i64 tp,.int .i64 a3,.int .i64 b3,.int .i64 c3,.slice A3 m3 p3,.string ta,.string tg,.int .i64 ts,.string s]):=Bk.fresh w _ _
 have hB0:Below w.heap.size w (w.alloc (.cells #[.int .i64 4,.string nn,.int .i64 a1,.int .i64 b1,.int .i64 c1,.slice A1 m1 p1,.string qn,.int .i64 a2,.int .i64 b2,.int .i64 c2,.string tn,.string tq,.int .i64 tp,.int .i64 a3,.int .i64 b3,.int .i64 c3,.slice A3 m3 p3,.string ta,.string tg,.int .i64 ts,.string s] 49)):=(Below.refl _ _).alloc (Nat.le_refl _) _
 go_enter Tryz.func44,Tryz.ntmps44
 go_wp2_with fail
 refine (K1.out _ (HG.out.elim fun lst h=>⟨lst,h.below hB0⟩) hB0).mono ?_;rintro e w2 ⟨rfl,hW⟩
 have HW:=Lib.hid hW;clear hW
 go_wp2_with fail
 exact bodyPost_ret (v:=.tuple #[.slice none 0 0,.int .i64 err]) (by simp [results,Tryz.results44,go_sem]) rfl ⟨⟨none,0,0,rfl,RetL.nil _ _⟩,Went.before hB0 HW.out⟩


theorem perform_any5 (b g:Nat) (vM vQ vJ:Value) (S:Sg) (x:Oz) (hk:x.v.k=5) (hM:Sm S) (hA:AscS S) (hll:x.v.l3.length<=1000):Performs b g vM vQ vJ S x (subJ S x.v.tn x.v.tq x.v.tp x.v.a3 x.v.b3 x.v.c3 x.v.ta x.v.tg x.v.ts x.v.l3):=by
 intro w hG hx
 have hbg:b<=w.heap.size:=hG.elim fun lst h=>Nat.le_trans h.le (Nat.le_of_lt h.bk.here)
 have k1:=fun (W:World) (h:∃ lst,Gs W b g lst vM vQ vJ S) (hb:Below w.heap.size w W)=>h.elim fun lst h=>submit_any b g lst vM vQ vJ S x.v.tn x.v.tq x.v.tp x.v.a3 x.v.b3 x.v.c3 x.A3 x.m3 x.p3 x.v.ta x.v.tg x.v.ts x.v.l3 W h hM hA.Q (hx.l3.later hb) hll (show b<=W.heap.size from Nat.le_trans hbg hb.size) ⟨hx.tn,hx.tq,hx.ta,hx.tg⟩
 obtain ⟨R,hR⟩:∃ R,R=subJ S x.v.tn x.v.tq x.v.tp x.v.a3 x.v.b3 x.v.c3 x.v.ta x.v.tg x.v.ts x.v.l3:=⟨_,rfl⟩
 rw [<- hR] at k1 ⊢
 have hR3:R.2.2=[]:=by rw [hR];unfold subJ;(repeat' split) <;> rfl
 have K1:=Lib.hid k1;have HG:=Lib.hid hG
 clear k1 hG hx hM hA hll hR hbg
 obtain ⟨⟨k,nn,a1,b1,c1,l1,qn,a2,b2,c2,tn,tq,tp,a3,b3,c3,l3,ta,tg,ts,s⟩,A1,m1,p1,A3,m3,p3⟩:=x
 simp only at hk
 subst hk
 obtain ⟨R1,err,acts⟩:=R
 simp only at hR3
 subst hR3
 have HO0:Hid (Bk (w.alloc (.cells #[.int .i64 5,.string nn,.int .i64 a1,.int .i64 b1,.int .i64 c1,.slice A1 m1 p1,.string qn,.int .i64 a2,.int .i64 b2,.int .i64 c2,.string tn,.string tq,.int .i64 tp,.int .i64 a3,.int .i64 b3,.int .i64 c3,.slice A3 m3 p3,.string ta,.string tg,.int .i64 ts,.string s] 49)) w.heap.size 49 #[.int .i64 5,.string nn,.int .i64 a1,.int .i64 b1,.int .i64 c1,.slice A1 m1 p1,.string qn,.int .i64 a2,.int .i64 b2,.int .i64 c2,.string tn,.string tq,.int .i64 tp,.int .i64 a3,.int .i64 b3,.int .i64 c3,.slice A3 m3 p3,.string ta,.string tg,.int .i64 ts,.string s]):=Bk.fresh w _ _
 have hB0:Below w.heap.size w (w.alloc (.cells #[.int .i64 5,.string nn,.int .i64 a1,.int .i64 b1,.int .i64 c1,.slice A1 m1 p1,.string qn,.int .i64 a2,.int .i64 b2,.int .i64 c2,.string tn,.string tq,.int .i64 tp,.int .i64 a3,.int .i64 b3,.int .i64 c3,.slice A3 m3 p3,.string ta,.string tg,.int .i64 ts,.string s] 49)):=(Below.refl _ _).alloc (Nat.le_refl _) _
 go_enter Tryz.func44,Tryz.ntmps44
 go_wp2_with ((with_reducible refine load_bk rfl 47 _ rfl w.heap.size 10 rfl 49 #[.int .i64 5,.string nn,.int .i64 a1,.int .i64 b1,.int .i64 c1,.slice A1 m1 p1,.string qn,.int .i64 a2,.int .i64 b2,.int .i64 c2,.string tn,.string tq,.int .i64 tp,.int .i64 a3,.int .i64 b3,.int .i64 c3,.slice A3 m3 p3,.string ta,.string tg,.int .i64 ts,.string s] #[.string tn,.string tq,.int .i64 tp,.int .i64 a3,.int .i64 b3,.int .i64 c3,.slice A3 m3 p3,.string ta,.string tg,.int .i64 ts] _ HO0.out (Part.of rfl) Tryz.underlying47 rfl (by kernel_rfl) ?_))
 refine (K1.out _ (HG.out.elim fun lst h=>⟨lst,h.below hB0⟩) hB0).mono ?_;rintro e w2 ⟨rfl,hW⟩
 have HW:=Lib.hid hW;clear hW
 go_wp2_with fail
 exact bodyPost_ret (v:=.tuple #[.slice none 0 0,.int .i64 err]) (by simp [results,Tryz.results44,go_sem]) rfl ⟨⟨none,0,0,rfl,RetL.nil _ _⟩,Went.before hB0 HW.out⟩


theorem perform_any6 (b g:Nat) (vM vQ vJ:Value) (S:Sg) (x:Oz) (hk:x.v.k=6) (hM:Sm S) (hA:AscS S) (hll:x.v.l3.length<=1000):Performs b g vM vQ vJ S x (canJ S x.v.s):=by
 intro w hG hx
 have hbg:b<=w.heap.size:=hG.elim fun lst h=>Nat.le_trans h.le (Nat.le_of_lt h.bk.here)
 have k1:=fun (W:World) (h:∃ lst,Gs W b g lst vM vQ vJ S) (hb:Below w.heap.size w W)=>h.elim fun lst h=>cancel_any b g lst vM vQ vJ S x.v.s W h hM
 obtain ⟨R,hR⟩:∃ R,R=canJ S x.v.s:=⟨_,rfl⟩
 rw [<- hR] at k1 ⊢
 have K1:=Lib.hid k1;have HG:=Lib.hid hG
 clear k1 hG hx hM hA hll hR hbg
 obtain ⟨⟨k,nn,a1,b1,c1,l1,qn,a2,b2,c2,tn,tq,tp,a3,b3,c3,l3,ta,tg,ts,s⟩,A1,m1,p1,A3,m3,p3⟩:=x
 simp only at hk
 subst hk
 obtain ⟨R1,err,acts⟩:=R
 have HO0:Hid (Bk (w.alloc (.cells #[.int .i64 6,.string nn,.int .i64 a1,.int .i64 b1,.int .i64 c1,.slice A1 m1 p1,.string qn,.int .i64 a2,.int .i64 b2,.int .i64 c2,.string tn,.string tq,.int .i64 tp,.int .i64 a3,.int .i64 b3,.int .i64 c3,.slice A3 m3 p3,.string ta,.string tg,.int .i64 ts,.string s] 49)) w.heap.size 49 #[.int .i64 6,.string nn,.int .i64 a1,.int .i64 b1,.int .i64 c1,.slice A1 m1 p1,.string qn,.int .i64 a2,.int .i64 b2,.int .i64 c2,.string tn,.string tq,.int .i64 tp,.int .i64 a3,.int .i64 b3,.int .i64 c3,.slice A3 m3 p3,.string ta,.string tg,.int .i64 ts,.string s]):=Bk.fresh w _ _
 have hB0:Below w.heap.size w (w.alloc (.cells #[.int .i64 6,.string nn,.int .i64 a1,.int .i64 b1,.int .i64 c1,.slice A1 m1 p1,.string qn,.int .i64 a2,.int .i64 b2,.int .i64 c2,.string tn,.string tq,.int .i64 tp,.int .i64 a3,.int .i64 b3,.int .i64 c3,.slice A3 m3 p3,.string ta,.string tg,.int .i64 ts,.string s] 49)):=(Below.refl _ _).alloc (Nat.le_refl _) _
 go_enter Tryz.func44,Tryz.ntmps44
 go_wp2_with fail
 refine (K1.out _ (HG.out.elim fun lst h=>⟨lst,h.below hB0⟩) hB0).mono ?_;rintro e w2 ⟨⟨A,n,c,rfl,hRL⟩,hW⟩
 have HW:=Lib.hid hW;have HR:=Lib.hid hRL;clear hW hRL
 go_wp2_with fail
 exact bodyPost_ret (v:=.tuple #[.slice A n c,.int .i64 err]) (by simp [results,Tryz.results44,go_sem]) rfl ⟨⟨A,n,c,rfl,HR.out.base hB0.size⟩,Went.before hB0 HW.out⟩


theorem perform_any7 (b g:Nat) (vM vQ vJ:Value) (S:Sg) (x:Oz) (hk:x.v.k=7) (hM:Sm S) (hA:AscS S) (hll:x.v.l3.length<=1000):Performs b g vM vQ vJ S x (finJ S x.v.s):=by
 intro w hG hx
 have hbg:b<=w.heap.size:=hG.elim fun lst h=>Nat.le_trans h.le (Nat.le_of_lt h.bk.here)
 have k1:=fun (W:World) (h:∃ lst,Gs W b g lst vM vQ vJ S) (hb:Below w.heap.size w W)=>h.elim fun lst h=>finish_any b g lst vM vQ vJ S x.v.s W h hM
 obtain ⟨R,hR⟩:∃ R,R=finJ S x.v.s:=⟨_,rfl⟩
 rw [<- hR] at k1 ⊢
 have hR3:R.2.2=[]:=by rw [hR];unfold finJ;(repeat' split) <;> rfl
 have K1:=Lib.hid k1;have HG:=Lib.hid hG
 clear k1 hG hx hM hA hll hR hbg
 obtain ⟨⟨k,nn,a1,b1,c1,l1,qn,a2,b2,c2,tn,tq,tp,a3,b3,c3,l3,ta,tg,ts,s⟩,A1,m1,p1,A3,m3,p3⟩:=x
 simp only at hk
 subst hk
 obtain ⟨R1,err,acts⟩:=R
 simp only at hR3
 subst hR3
 have HO0:Hid (Bk (w.alloc (.cells #[.int .i64 7,.string nn,.int .i64 a1,.int .i64 b1,.int .i64 c1,.slice A1 m1 p1,.string qn,.int .i64 a2,.int .i64 b2,.int .i64 c2,.string tn,.string tq,.int .i64 tp,.int .i64 a3,.int .i64 b3,.int .i64 c3,.slice A3 m3 p3,.string ta,.string tg,.int .i64 ts,.string s] 49)) w.heap.size 49 #[.int .i64 7,.string nn,.int .i64 a1,.int .i64 b1,.int .i64 c1,.slice A1 m1 p1,.string qn,.int .i64 a2,.int .i64 b2,.int .i64 c2,.string tn,.string tq,.int .i64 tp,.int .i64 a3,.int .i64 b3,.int .i64 c3,.slice A3 m3 p3,.string ta,.string tg,.int .i64 ts,.string s]):=Bk.fresh w _ _
 have hB0:Below w.heap.size w (w.alloc (.cells #[.int .i64 7,.string nn,.int .i64 a1,.int .i64 b1,.int .i64 c1,.slice A1 m1 p1,.string qn,.int .i64 a2,.int .i64 b2,.int .i64 c2,.string tn,.string tq,.int .i64 tp,.int .i64 a3,.int .i64 b3,.int .i64 c3,.slice A3 m3 p3,.string ta,.string tg,.int .i64 ts,.string s] 49)):=(Below.refl _ _).alloc (Nat.le_refl _) _
 go_enter Tryz.func44,Tryz.ntmps44
 go_wp2_with fail
 refine (K1.out _ (HG.out.elim fun lst h=>⟨lst,h.below hB0⟩) hB0).mono ?_;rintro e w2 ⟨rfl,hW⟩
 have HW:=Lib.hid hW;clear hW
 go_wp2_with fail
 exact bodyPost_ret (v:=.tuple #[.slice none 0 0,.int .i64 err]) (by simp [results,Tryz.results44,go_sem]) rfl ⟨⟨none,0,0,rfl,RetL.nil _ _⟩,Went.before hB0 HW.out⟩


theorem perform_any8 (b g:Nat) (vM vQ vJ:Value) (S:Sg) (x:Oz) (hk:x.v.k=8) (hM:Sm S) (hA:AscS S) (hll:x.v.l3.length<=1000):Performs b g vM vQ vJ S x (beatN S x.v.s):=by
 intro w hG hx
 have hbg:b<=w.heap.size:=hG.elim fun lst h=>Nat.le_trans h.le (Nat.le_of_lt h.bk.here)
 have k1:=fun (W:World) (h:∃ lst,Gs W b g lst vM vQ vJ S) (hb:Below w.heap.size w W)=>h.elim fun lst h=>beat_any b g lst vM vQ vJ S x.v.s W h hM hA.M
 obtain ⟨R,hR⟩:∃ R,R=beatN S x.v.s:=⟨_,rfl⟩
 rw [<- hR] at k1 ⊢
 have hR3:R.2.2=[]:=by rw [hR];unfold beatN;(repeat' split) <;> rfl
 have K1:=Lib.hid k1;have HG:=Lib.hid hG
 clear k1 hG hx hM hA hll hR hbg
 obtain ⟨⟨k,nn,a1,b1,c1,l1,qn,a2,b2,c2,tn,tq,tp,a3,b3,c3,l3,ta,tg,ts,s⟩,A1,m1,p1,A3,m3,p3⟩:=x
 simp only at hk
 subst hk
 obtain ⟨R1,err,acts⟩:=R
 simp only at hR3
 subst hR3
 have HO0:Hid (Bk (w.alloc (.cells #[.int .i64 8,.string nn,.int .i64 a1,.int .i64 b1,.int .i64 c1,.slice A1 m1 p1,.string qn,.int .i64 a2,.int .i64 b2,.int .i64 c2,.string tn,.string tq,.int .i64 tp,.int .i64 a3,.int .i64 b3,.int .i64 c3,.slice A3 m3 p3,.string ta,.string tg,.int .i64 ts,.string s] 49)) w.heap.size 49 #[.int .i64 8,.string nn,.int .i64 a1,.int .i64 b1,.int .i64 c1,.slice A1 m1 p1,.string qn,.int .i64 a2,.int .i64 b2,.int .i64 c2,.string tn,.string tq,.int .i64 tp,.int .i64 a3,.int .i64 b3,.int .i64 c3,.slice A3 m3 p3,.string ta,.string tg,.int .i64 ts,.string s]):=Bk.fresh w _ _
 have hB0:Below w.heap.size w (w.alloc (.cells #[.int .i64 8,.string nn,.int .i64 a1,.int .i64 b1,.int .i64 c1,.slice A1 m1 p1,.string qn,.int .i64 a2,.int .i64 b2,.int .i64 c2,.string tn,.string tq,.int .i64 tp,.int .i64 a3,.int .i64 b3,.int .i64 c3,.slice A3 m3 p3,.string ta,.string tg,.int .i64 ts,.string s] 49)):=(Below.refl _ _).alloc (Nat.le_refl _) _
 go_enter Tryz.func44,Tryz.ntmps44
 go_wp2_with fail
 refine (K1.out _ (HG.out.elim fun lst h=>⟨lst,h.below hB0⟩) hB0).mono ?_;rintro e w2 ⟨rfl,hW⟩
 have HW:=Lib.hid hW;clear hW
 go_wp2_with fail
 exact bodyPost_ret (v:=.tuple #[.slice none 0 0,.int .i64 err]) (by simp [results,Tryz.results44,go_sem]) rfl ⟨⟨none,0,0,rfl,RetL.nil _ _⟩,Went.before hB0 HW.out⟩
theorem perform_any1 (b g:Nat) (vM vQ vJ:Value) (S:Sg) (x:Oz) (hk:x.v.k=1) (hM:Sm S) (hA:AscS S) (hll:x.v.l1.length<=1000):Performs b g vM vQ vJ S x (addN S x.v.nn x.v.a1 x.v.b1 x.v.c1 x.v.l1):=perform_1 b g vM vQ vJ S x hk hM hA.M hll fun _=>InsM.any hM.M
theorem perform_any3 (b g:Nat) (vM vQ vJ:Value) (S:Sg) (x:Oz) (hk:x.v.k=3) (hM:Sm S) (hA:AscS S):Performs b g vM vQ vJ S x (addQ S x.que):=perform_3 b g vM vQ vJ S x hk hM hA.Q fun _=>InsQ.any hM.Q
end
section
open Go.RowKit
def Jb.go (j:Jb) (s:ByteArray):Jb:={ j with nd:=s,bo:=j.bo+1 }
def goX (s:ByteArray) (x:Jl):Jl:=(x.1.go s,x.2)
theorem JzOk.go {x:Jl} {s:ByteArray} (h:JzOk x) (hs:s.size<=140737488351232):JzOk (goX s x):=⟨h.1,h.2.1,h.2.2.1,h.2.2.2.1,hs⟩
theorem cellsJ_go {L:List Jb} {p:Nat} (hp:p<L.length) (s:ByteArray):cellsJ (L.set p (L[p].go s))=((cellsJ L).set p (((cellsJ L)[p]'(by rw [cellsJ_length];exact hp)).set 11 (.string s))).set p ((((cellsJ L).set p (((cellsJ L)[p]'(by rw [cellsJ_length];exact hp)).set 11 (.string s)))[p]'(by rw [List.length_set,cellsJ_length];exact hp)).set 12 (.int .i64 (L[p].bo+1))):=by
 simp only [List.getElem_set_self,List.set_set]
 simp only [cellsJ,List.map_set,List.getElem_map]
 rfl
theorem OwnK.goes {w:World} {b r n c p:Nat} {L:List Jb} (h:OwnK w b 66 13 (.slice (some ⟨r,0,none⟩) n c) (cellsJ L)) (hp:p<L.length) (s:ByteArray) :
  w.frozen? ⟨r,p * 13+11,none⟩=false/\(w.setCell ⟨r,p * 13+11,none⟩ (.string s)).cell? ⟨r,p * 13+12,none⟩=some (.int .i64 L[p].bo)/\(w.setCell ⟨r,p * 13+11,none⟩ (.string s)).frozen? ⟨r,p * 13+12,none⟩=false /\
  OwnK ((w.setCell ⟨r,p * 13+11,none⟩ (.string s)).setCell ⟨r,p * 13+12,none⟩ (.int .i64 (L[p].bo+1))) b 66 13 (.slice (some ⟨r,0,none⟩) n c) (cellsJ (L.set p (L[p].go s))):=by
 have h1:=h.put (show p<(cellsJ L).length by rw [cellsJ_length];exact hp) (show 11<13 by decide) (.string s)
 have h2:=h1.1.put (show p<_ by rw [List.length_set,cellsJ_length];exact hp) (show 12<13 by decide) (.int .i64 (L[p].bo+1))
 have h3:OwnK (w.setCell ⟨r,p * 13+11,none⟩ (.string s)) b 66 13 (.slice (some ⟨r,0,none⟩) n c) (cellsJ (L.set p { L[p] with nd:=s })):=by rw [cellsJ_nd hp];exact h1.1
 have h4:=h3.jobAt (p:=p) (j:=12) (u:=.int .i64 L[p].bo) (by rw [List.length_set];exact hp) (by rw [List.getElem_set_self];rfl)
 rw [cellsJ_go hp]
 exact ⟨h1.2.2,h4,h2.2.2,h2.1⟩


theorem bind_any (b r n c p:Nat) (s:ByteArray) (L:List Jb) (w:World) (hp:p<L.length) (hbo:-4611686018427387904<=L[p].bo/\L[p].bo<=4611686018427387904) (hO:Hid (OwnK w b 66 13 (.slice (some ⟨r,0,none⟩) n c) (cellsJ L))) :
  Calls Tryz.prog 190 #[.pointer (some ⟨r,p * 13,none⟩),.string s] w fun e w'=>e = .returned (.agg #[.int .i64 1,.string L[p].nm,.string s])/\OwnK w' b 66 13 (.slice (some ⟨r,0,none⟩) n c) (cellsJ (L.set p (L[p].go s)))/\GrP (fun k=>k=r) w w':=by
 obtain ⟨nm,hnm⟩:∃ nm,nm=L[p].nm:=⟨_,rfl⟩
 obtain ⟨bo,hbo'⟩:∃ bo,bo=L[p].bo:=⟨_,rfl⟩
 rw [<- hbo'] at hbo
 rw [<- hnm]
 have hr:r<w.heap.size:=hO.out.isRow
 obtain ⟨W0,hW0⟩:∃ W0,W0=w.alloc (.cells #[.int .i64 0,.string ⟨#[]⟩,.string ⟨#[]⟩] 64):=⟨_,rfl⟩
 have HO0:Hid (OwnK W0 b 66 13 (.slice (some ⟨r,0,none⟩) n c) (cellsJ L)):=by rw [hW0];exact hO.out.below ((Below.refl _ _).alloc (Nat.le_refl _) _)
 have HA0:Hid (Bk W0 w.heap.size 64 #[.int .i64 0,.string ⟨#[]⟩,.string ⟨#[]⟩]):=by rw [hW0];exact Bk.fresh _ _ _
 have hB0:Below w.heap.size w W0:=by rw [hW0];exact (Below.refl _ _).alloc (Nat.le_refl _) _
 have hG:=HO0.out.goes hp s
 rw [<- hbo'] at hG
 have f11:W0.frozen? ⟨r,p * 13+11,none⟩=false:=hG.1
 have c11:W0.cell? ⟨r,p * 13+11,none⟩=some (.string L[p].nd):=HO0.out.jobAt hp (j:=11) rfl
 have c12:(W0.setCell ⟨r,p * 13+11,none⟩ (.string s)).cell? ⟨r,p * 13+12,none⟩=some (.int .i64 bo):=hG.2.1
 have f12:(W0.setCell ⟨r,p * 13+11,none⟩ (.string s)).frozen? ⟨r,p * 13+12,none⟩=false:=hG.2.2.1
 have HO3:Hid (OwnK ((W0.setCell ⟨r,p * 13+11,none⟩ (.string s)).setCell ⟨r,p * 13+12,none⟩ (.int .i64 (bo+1))) b 66 13 (.slice (some ⟨r,0,none⟩) n c) (cellsJ (L.set p (L[p].go s)))):=hG.2.2.2
 have hG3:GrP (fun k=>k=r) w ((W0.setCell ⟨r,p * 13+11,none⟩ (.string s)).setCell ⟨r,p * 13+12,none⟩ (.int .i64 (bo+1))):=((GrP.ofBelow (p:=fun k=>k=r) hB0).set (a:=⟨r,p * 13+11,none⟩) rfl _).set (a:=⟨r,p * 13+12,none⟩) rfl _
 have HA3:Hid (Bk ((W0.setCell ⟨r,p * 13+11,none⟩ (.string s)).setCell ⟨r,p * 13+12,none⟩ (.int .i64 (bo+1))) w.heap.size 64 #[.int .i64 0,.string ⟨#[]⟩,.string ⟨#[]⟩]):=(HA0.out.set (p:=⟨r,p * 13+11,none⟩) (fun e=>by simp only at e;omega) _).set (p:=⟨r,p * 13+12,none⟩) (fun e=>by simp only at e;omega) _
 have c30:((W0.setCell ⟨r,p * 13+11,none⟩ (.string s)).setCell ⟨r,p * 13+12,none⟩ (.int .i64 (bo+1))).cell? ⟨r,p * 13,none⟩=some (.string nm):=by
  have h:=HO3.out.jobAt (p:=p) (j:=0) (u:=.string nm) (by rw [List.length_set];exact hp) (by rw [List.getElem_set_self,hnm];rfl)
  exact h
 have hw1:IntKind.i64.wrap (bo+1)=bo+1:=by rw [IntKind.wrap_i64];omega
 subst hW0
 have e1:∀ u,(w.alloc (.cells #[.int .i64 0,.string ⟨#[]⟩,.string ⟨#[]⟩] 64)).setCell ⟨r,p * 13+11,none⟩ u=(w.setCell ⟨r,p * 13+11,none⟩ u).alloc (.cells #[.int .i64 0,.string ⟨#[]⟩,.string ⟨#[]⟩] 64):=fun u=>World.setCell_alloc_past _ _ _ _ hr
 have e2:∀ u v,((w.setCell ⟨r,p * 13+11,none⟩ u).alloc (.cells #[.int .i64 0,.string ⟨#[]⟩,.string ⟨#[]⟩] 64)).setCell ⟨r,p * 13+12,none⟩ v=((w.setCell ⟨r,p * 13+11,none⟩ u).setCell ⟨r,p * 13+12,none⟩ v).alloc (.cells #[.int .i64 0,.string ⟨#[]⟩,.string ⟨#[]⟩] 64):=fun u v=>World.setCell_alloc_past _ _ _ _ (by simpa using hr)
 rw [e1] at c12 f12
 rw [e1,e2] at HO3 HA3 hG3 c30
 have HG3:=Lib.hid hG3
 clear e1 e2 hG hG3 hbo hnm hbo' hB0 HO0 HA0
 go_enter Tryz.func190,Tryz.ntmps190
 go_wp2_with ((with_reducible refine store_bk rfl 64 (.tmp 4) (.tmp 22) rfl w.heap.size 0 #[.int .i64 1,.string nm,.string s] rfl rfl 64 #[.int .i64 0,.string ⟨#[]⟩,.string ⟨#[]⟩] #[.int .i64 1,.string nm,.string s] HA3.out (by kernel_rfl) (by simp) (by kernel_rfl) rfl ?_;intro w4 hB4 hg4 hs4))
 exact bodyPost_ret (v:=.agg #[.int .i64 1,.string nm,.string s]) (results_bk1 Tryz.results190 _ _ w.heap.size 64 _ _ rfl hB4 Tryz.underlying64 rfl (by kernel_rfl)) rfl ⟨rfl,HO3.out.grp (GrP.of hg4) (fun k hk e=>by injection e with e;injection hk with hk;simp only at hk;omega),by
  have h5:GrP (fun k=>k=r ∨ k=w.heap.size) w _:=(HG3.out.wide fun k _ e=>.inl e).trans ((GrP.of hg4).wide fun k _ e=>.inr (by injection e with e;exact e.symm))
  exact h5.wide fun k hk e=>e.resolve_right (by omega)⟩
end
end Go.Proofs.YtccccbofcnmdiaaGreat
