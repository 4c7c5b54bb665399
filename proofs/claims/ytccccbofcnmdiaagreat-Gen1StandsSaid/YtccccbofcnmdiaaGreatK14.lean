/- Lemmas that the law stands on. No condition. -/
import Derived.Test.YtccccbofcnmdiaaGreatK13
namespace Go.Proofs.YtccccbofcnmdiaaGreat
set_option linter.unusedSimpArgs false
set_option linter.unusedVariables false
set_option maxRecDepth 100000
set_option maxHeartbeats 51200000
section
open Go.RowKit Go.Sort
theorem Gw.below {w w1:World}(h:Gw w w1):Below w.heap.size w w1:=by
 obtain ⟨q,os,rfl⟩:=h
 refine ⟨rfl,rfl,rfl,by simp,fun k hk=>?_⟩
 rw [heap_grow_old _ _ (by exact hk)];rfl
def cfo (x y:Jb):Int:=or2 (cI y.pr x.pr) (cI x.sq y.sq)
theorem cfo_try (x y:Jb):decide (cfo x y<0)=tryB x y:=by
 rw [Bool.eq_iff_iff,decide_eq_true_eq,tryB_iff]
 unfold cfo or2
 by_cases h:x.pr=y.pr
 ·rw [if_pos (cI_zero.2 h.symm),cI_neg];omega
 ·rw [if_neg (fun e=>h (cI_zero.1 e).symm),cI_neg];omega


theorem compare14_any (x y:Jb)(w:World) :
  Calls Tryz.prog 203 #[.agg x.arr,.agg y.arr] w fun e w'=>e = .returned (.int .i64 (cfo x y))/\Gw w w':=by
 have k1:=fun W=>compareI_any y.pr x.pr W
 have k2:=fun W=>compareI_any x.sq y.sq W
 have k3:=fun (x y:Int) (g:Nat) W=>or2_any x y g W
 obtain ⟨r,hr⟩:∃ r,r=cfo x y:=⟨_,rfl⟩
 rw [<- hr]
 unfold cfo at hr
 generalize cI y.pr x.pr=p at k1 hr
 generalize cI x.sq y.sq=q at k2 hr
 have K1:=Lib.hid k1;have K2:=Lib.hid k2;have K3:=Lib.hid k3;have HR:=Lib.hid hr;clear k1 k2 k3 hr
 go_enter Tryz.func203,Tryz.ntmps203
 go_wp2_with fail
 have hg0:Gw w ((w.alloc (.cells x.arr 66)).alloc (.cells y.arr 66)):=((Gw.refl w).alloc _).alloc _
 have hA0:=(Bk.fresh w 66 x.arr).later (w':=(w.alloc (.cells x.arr 66)).alloc (.cells y.arr 66)) ((Below.refl _ _).alloc (Nat.le_refl _) _)
 have hC0:Bk ((w.alloc (.cells x.arr 66)).alloc (.cells y.arr 66)) (w.heap.size+1) 66 y.arr:=Bk.freshAt _ _ _ (by simp)
 generalize hw1:(w.alloc (.cells x.arr 66)).alloc (.cells y.arr 66)=w1 at hg0 hA0 hC0 ⊢
 clear hw1
 have la:w.heap.size<w1.heap.size:=hA0.here
 have lc:w.heap.size+1<w1.heap.size:=hC0.here
 have a0:w1.cell? ⟨w.heap.size,2,none⟩=some (.int .i64 x.pr):=hA0.cellAt 2
 have a1:w1.cell? ⟨w.heap.size,10,none⟩=some (.int .i64 x.sq):=hA0.cellAt 10
 have c0:w1.cell? ⟨w.heap.size+1,2,none⟩=some (.int .i64 y.pr):=hC0.cellAt 2
 have c1:w1.cell? ⟨w.heap.size+1,10,none⟩=some (.int .i64 y.sq):=hC0.cellAt 10
 have A0:=Lib.hid a0;have A1:=Lib.hid a1;have C0:=Lib.hid c0;have C1:=Lib.hid c1;have LA:=Lib.hid la;have LC:=Lib.hid lc;have HG0:=Lib.hid hg0
 clear hA0 hC0 a0 a1 c0 c1 la lc hg0
 refine wp_region_held_drew (S:=fun W=>Gw w1 W) (by kernel_rfl) ((Gw.refl _).drew) (fun hS0=>?_)
 refine wU (i:=0) (v:=?_) rfl ?_ hS0 ?_
 rotate_left
 ·intro W _;go_simp;try with_reducible rfl
 try simp only [Act.put,tZ]
 refine wU (i:=1) (v:=?_) rfl ?_ hS0 ?_
 rotate_left
 ·intro W _;go_simp;try with_reducible rfl
 try simp only [Act.put,tZ]
 refine wU (i:=2) (v:=?_) rfl ?_ hS0 ?_
 rotate_left
 ·intro W hSW;have hx:=(hSW.cell LC.out).trans C0.out;go_simp;try with_reducible rfl
 try simp only [Act.put,tZ]
 refine wU (i:=3) (v:=?_) rfl ?_ hS0 ?_
 rotate_left
 ·intro W _;go_simp;try with_reducible rfl
 try simp only [Act.put,tZ]
 refine wU (i:=4) (v:=?_) rfl ?_ hS0 ?_
 rotate_left
 ·intro W _;go_simp;try with_reducible rfl
 try simp only [Act.put,tZ]
 refine wU (i:=5) (v:=?_) rfl ?_ hS0 ?_
 rotate_left
 ·intro W hSW;have hx:=(hSW.cell LA.out).trans A0.out;go_simp;try with_reducible rfl
 try simp only [Act.put,tZ]
 refine wU (i:=7) (v:=?_) rfl ?_ hS0 ?_
 rotate_left
 ·intro W _;go_simp;try with_reducible rfl
 try simp only [Act.put,tZ]
 refine wU (i:=8) (v:=?_) rfl ?_ hS0 ?_
 rotate_left
 ·intro W hSW;have hx:=(hSW.cell LA.out).trans A1.out;go_simp;try with_reducible rfl
 try simp only [Act.put,tZ]
 refine wU (i:=9) (v:=?_) rfl ?_ hS0 ?_
 rotate_left
 ·intro W _;go_simp;try with_reducible rfl
 try simp only [Act.put,tZ]
 refine wU (i:=10) (v:=?_) rfl ?_ hS0 ?_
 rotate_left
 ·intro W hSW;have hx:=(hSW.cell LC.out).trans C1.out;go_simp;try with_reducible rfl
 try simp only [Act.put,tZ]
 refine wpAnyH_ready (rs:=[6]) (by kernel_rfl) (by simp) ?_
 refine AllReadyH.cons rfl (fun K hK=>?_) AllReadyH.nil
 go_simp
 refine (K1.out _).mono ?_
 rintro v v1 ⟨rfl,rfl⟩
 go_simp
 refine hK.out _ _ hS0 (fun hS1=>?_)
 clear hK K
 try simp only [Act.put,tZ]
 refine wpAnyH_ready (rs:=[11]) (by kernel_rfl) (by simp) ?_
 refine AllReadyH.cons rfl (fun K hK=>?_) AllReadyH.nil
 go_simp
 refine (K2.out _).mono ?_
 rintro v v2 ⟨rfl,rfl⟩
 go_simp
 refine hK.out _ _ hS1 (fun hS2=>?_)
 clear hK K
 try simp only [Act.put,tZ]
 refine wpAnyH_ready (rs:=[12]) (by kernel_rfl) (by simp) ?_
 refine AllReadyH.cons rfl (fun K hK=>?_) AllReadyH.nil
 simp only [if_pos,Region.wanted]
 refine itwo_op 11 16 p q rfl rfl rfl ?_
 intro g v3 hg hv3
 subst hg hv3
 refine hK.out _ _ (hS2.alloc _) (fun hS3=>?_)
 clear hK K
 try simp only [Act.put,tZ]
 refine wpAnyH_ready (rs:=[13]) (by kernel_rfl) (by simp) ?_
 refine AllReadyH.cons rfl (fun K hK=>?_) AllReadyH.nil
 go_simp
 refine (K3.out p q _ _ (by simp) (by simp) (by simp)).mono ?_
 rintro v v4 ⟨rfl,rfl⟩
 go_simp
 refine hK.out _ _ hS3 (fun hS4=>?_)
 clear hK K
 try simp only [Act.put,tZ]
 refine wU (i:=14) (v:=?_) rfl ?_ hS4 ?_
 rotate_left
 ·intro W _;go_simp;try with_reducible rfl
 try simp only [Act.put,tZ]
 refine wpAnyH_done (by kernel_rfl) ?_ _
 go_wp2_with fail
 go_ret
 exact ⟨HR.out.symm ▸ rfl,HG0.out.trans hS4⟩

theorem waits14_any (j:Jb)(w:World):Calls Tryz.prog 101 #[.agg j.arr] w fun e w'=>e = .returned (.bool (decide (j.nd.size=0)))/\Below w.heap.size w w':=by
 obtain ⟨nm,qu,pr,a,b,c,A,n,cp,ap,ga,sz,sq,nd,bo⟩:=j
 by_cases h:nd.size=0
 ·obtain rfl:=empty_of h
  go_enter Tryz.func101,Tryz.ntmps101
  go_wp2
  go_ret
  exact ⟨rfl,bel⟩
 ·have h1:=full_of h
  have hres:decide (nd.size=0)=false:=decide_eq_false h
  show Calls _ _ _ _ fun e w'=>e = .returned (.bool (decide (nd.size=0)))/\_
  rw [hres]
  clear hres h
  obtain ⟨h1,h2⟩:=h1
  go_enter Tryz.func101,Tryz.ntmps101
  go_wp2
  go_ret
  exact ⟨rfl,bel⟩


theorem closure14_any (A:Option Addr) (n cap g9:Nat)(l:List Jb) (x y:Nat)(W:World)(hn:Hid (n=l.length))(hx:x<n)(hy:y<n)(hl:n<=1000000)(hA:Hid (RdJ W A l))(hg9:Hid (W.cell? ⟨g9,0,none⟩=some (.slice A n cap))) :
  Calls Tryz.prog 202 #[.int .i64 x,.int .i64 y,.pointer (some ⟨g9,0,none⟩)] W fun e w'=>e = .returned (.int .i64 (cfo (jat l x) (jat l y)))/\Gw W w':=by
 have hxl:x<l.length:=by have:=hn.out;omega
 have hyl:y<l.length:=by have:=hn.out;omega
 obtain ⟨g,o,hAg,hg,hj1⟩:=hA.out.at hxl
 subst hAg
 obtain ⟨g',o',hAg,hg',hj2⟩:=hA.out.at hyl
 injection hAg with hAg;injection hAg with e1 e2;subst e1 e2
 obtain ⟨j1,hj1k⟩:∃ j,j=l[x]:=⟨_,rfl⟩
 obtain ⟨j2,hj2k⟩:∃ j,j=l[y]:=⟨_,rfl⟩
 rw [<- hj1k] at hj1;rw [<- hj2k] at hj2
 obtain ⟨r,hr⟩:∃ r,r=cfo (jat l x) (jat l y):=⟨_,rfl⟩
 rw [<- hr]
 rw [jat_at hxl,jat_at hyl,<- hj1k,<- hj2k] at hr
 have k1:=fun (W:World)=>compare14_any j1 j2 W
 rw [<- hr] at k1
 have l9:g9<W.heap.size:=World.block_lt_of_cell? W _ hg9.out
 have K1:=Lib.hid k1;have HJ1:=Lib.hid hj1;have HJ2:=Lib.hid hj2;have L9:=Lib.hid l9
 clear k1 hr hj1 hj2 hj1k hj2k l9
 go_enter Tryz.func202,Tryz.ntmps202
 go_wp2_with fail
 refine wp_region_held_drew (S:=fun X=>Gw W X) (by kernel_rfl) ((Gw.refl _).drew) (fun hS0=>?_)
 refine wU (i:=0) (v:=?_) rfl ?_ hS0 ?_
 rotate_left
 ·intro W hSW;have hx:=(hSW.cell L9.out).trans hg9.out;go_simp;try with_reducible rfl
 try simp only [Act.put,tZ]
 refine wU (i:=1) (v:=?_) rfl ?_ hS0 ?_
 rotate_left
 ·intro W _;go_simp;try with_reducible rfl
 try simp only [Act.put,tZ]
 refine wU (i:=2) (v:=?_) rfl ?_ hS0 ?_
 rotate_left
 ·intro W _;go_simp;try with_reducible rfl
 try simp only [Act.put,tZ]
 refine wT (i:=3) (v:=.agg j1.arr) rfl (yields_rg rfl 66 _ rfl g (o+x * 13) rfl j1.arr _ (fun X hX=>(HJ1.out.later hX.below).rg) Tryz.underlying66 rfl (by kernel_rfl)) hS0 ?_
 try simp only [Act.put,tZ]
 refine wU (i:=4) (v:=?_) rfl ?_ hS0 ?_
 rotate_left
 ·intro W hSW;have hx:=(hSW.cell L9.out).trans hg9.out;go_simp;try with_reducible rfl
 try simp only [Act.put,tZ]
 refine wU (i:=5) (v:=?_) rfl ?_ hS0 ?_
 rotate_left
 ·intro W _;go_simp;try with_reducible rfl
 try simp only [Act.put,tZ]
 refine wU (i:=6) (v:=?_) rfl ?_ hS0 ?_
 rotate_left
 ·intro W _;go_simp;try with_reducible rfl
 try simp only [Act.put,tZ]
 refine wT (i:=7) (v:=.agg j2.arr) rfl (yields_rg rfl 66 _ rfl g (o+y * 13) rfl j2.arr _ (fun X hX=>(HJ2.out.later hX.below).rg) Tryz.underlying66 rfl (by kernel_rfl)) hS0 ?_
 try simp only [Act.put,tZ]
 refine wpAnyH_ready (rs:=[8]) (by kernel_rfl) (by simp) ?_
 refine AllReadyH.cons rfl (fun K hK=>?_) AllReadyH.nil
 go_simp
 refine (K1.out _).mono ?_
 rintro v v1 ⟨rfl,hb1⟩
 go_simp
 refine hK.out _ _ (hS0.trans hb1) (fun hS1=>?_)
 clear hK K
 try simp only [Act.put,tZ]
 refine wU (i:=9) (v:=?_) rfl ?_ hS1 ?_
 rotate_left
 ·intro W _;go_simp;try with_reducible rfl
 try simp only [Act.put,tZ]
 refine wpAnyH_done (by kernel_rfl) ?_ _
 go_wp2_with fail
 go_ret
 exact ⟨rfl,hS1⟩
end
section
open Go.Sort
variable {α:Type} [Inhabited α]
def swapN (d:Array α) (a b:Nat):Nat->Array α
 | 0=>d
 | i+1=>swp (swapN d a b i) (a+i) (b+i)
theorem size_swapN (d:Array α) (a b:Nat):∀ n,(swapN d a b n).size=d.size
 | 0=>rfl
 | n+1=>by rw [swapN,swp_size,size_swapN d a b n]
theorem get_swapN (d:Array α) (a b:Nat):∀ n,a+n<=b->b+n<=d.size -> ∀ t,(swapN d a b n)[t]! = if a<=t/\t<a+n then d[t - a+b]! else if b<=t/\t<b+n then d[t - b+a]! else d[t]!
 | 0,_,_,t=>by rw [if_neg (by omega),if_neg (by omega)];rfl
 | n+1,h1,h2,t=>by
  have ih:=get_swapN d a b n (by omega) (by omega)
  rw [swapN,swp_get _ (by rw [size_swapN];omega) (by rw [size_swapN];omega),ih t,ih (a+n),ih (b+n)]
  by_cases c1:t=b+n
  ·rw [if_pos c1,if_neg (by omega),if_neg (by omega),if_neg (by omega),if_pos (by omega),show t - b+a=a+n by omega]
  ·rw [if_neg c1]
   by_cases c2:t=a+n
   ·rw [if_pos c2,if_neg (by omega),if_neg (by omega),if_pos (by omega),show t - a+b=b+n by omega]
   ·rw [if_neg c2]
    by_cases c3:a<=t/\t<a+n
    ·rw [if_pos c3,if_pos (by omega)]
    ·rw [if_neg c3,if_neg (show ¬ (a<=t/\t<a+(n+1)) by omega)]
     by_cases c4:b<=t/\t<b+n
     ·rw [if_pos c4,if_pos (show b<=t/\t<b+(n+1) by omega)]
     ·rw [if_neg c4,if_neg (show ¬ (b<=t/\t<b+(n+1)) by omega)]
theorem perm_swapN (d:Array α) (a b lo hi:Nat)(hlo:lo<=a)(hlo2:lo<=b):∀ n,a+n<=hi->b+n<=hi->hi<=d.size->PermIn lo hi d (swapN d a b n)
 | 0,_,_,_=>permIn_refl _ _ _
 | n+1,h1,h2,h3=>permIn_trans _ _ _ _ _ (perm_swapN d a b lo hi hlo hlo2 n (by omega) (by omega) h3)
   (swp_permIn _ _ _ _ _ (by omega) (by omega) (by omega) (by omega) (by rw [size_swapN];exact h3))
structure RotInv (d dk:Array α)(F:Nat->α) (a m b i j:Nat):Prop where
 perm:PermIn a b d dk
 size:dk.size=d.size
 lo:∀ t,m - i<=t->t<m - i+j->dk[t+i]! = F t
 hi:∀ t,m - i+j<=t->t<m+j->dk[t - j]! = F t
 out:∀ t,a<=t->t<b->(t<m - i ∨ m+j<=t)->dk[t]! = F t
def rotF (d:Array α) (a m b:Nat) (t:Nat):α:=if t<a+(b - m) then d[t+(m - a)]! else d[t - (b - m)]!
theorem RotInv.start (d:Array α) (a m b:Nat)(h1:a<=m)(h2:m<=b):RotInv d d (rotF d a m b) a m b (m - a) (b - m) where
 perm:=permIn_refl _ _ _
 size:=rfl
 lo t h h':=by unfold rotF;rw [if_pos (by omega)]
 hi t h h':=by unfold rotF;rw [if_neg (by omega)]
 out t h h' h'':=by omega
theorem RotInv.more {d dk:Array α}{F:Nat->α}{a m b i j:Nat}(h:RotInv d dk F a m b i j)(hi:i<=m - a)(ha:a<=m)(hj:m+j<=b)(hb:b<=d.size)(hij:j<i)(hj0:0<j) :
  RotInv d (swapN dk (m - i) m j) F a m b (i - j) j where
 perm:=permIn_trans _ _ _ _ _ h.perm (perm_swapN dk _ _ _ _ (by omega) (by omega) _ (by omega) (by omega) (by rw [h.size];omega))
 size:=by rw [size_swapN,h.size]
 lo t h1 h2:=by
  rw [get_swapN dk _ _ _ (by omega) (by rw [h.size];omega),if_neg (by omega),if_pos (by omega),show t+(i - j) - m+(m - i)=t - j by omega]
  exact h.hi t (by omega) (by omega)
 hi t h1 h2:=by
  rw [get_swapN dk _ _ _ (by omega) (by rw [h.size];omega),if_neg (by omega),if_neg (by omega)]
  exact h.hi t (by omega) (by omega)
 out t h1 h2 h3:=by
  rw [get_swapN dk _ _ _ (by omega) (by rw [h.size];omega)]
  by_cases c:m - i<=t/\t<m - i+j
  ·rw [if_pos c,show t - (m - i)+m=t+i by omega];exact h.lo t (by omega) (by omega)
  ·rw [if_neg c,if_neg (by omega)];exact h.out t h1 h2 (by omega)
theorem RotInv.less {d dk:Array α}{F:Nat->α}{a m b i j:Nat}(h:RotInv d dk F a m b i j)(hi:i<=m - a)(ha:a<=m)(hj:m+j<=b)(hb:b<=d.size)(hij:i<j)(hi0:0<i) :
  RotInv d (swapN dk (m - i) (m+j - i) i) F a m b i (j - i) where
 perm:=permIn_trans _ _ _ _ _ h.perm (perm_swapN dk _ _ _ _ (by omega) (by omega) _ (by omega) (by omega) (by rw [h.size];omega))
 size:=by rw [size_swapN,h.size]
 lo t h1 h2:=by
  rw [get_swapN dk _ _ _ (by omega) (by rw [h.size];omega),if_neg (by omega),if_neg (by omega)]
  exact h.lo t (by omega) (by omega)
 hi t h1 h2:=by
  rw [get_swapN dk _ _ _ (by omega) (by rw [h.size];omega),if_pos (by omega),show t - (j - i) - (m - i)+(m+j - i)=t+i by omega]
  exact h.lo t (by omega) (by omega)
 out t h1 h2 h3:=by
  rw [get_swapN dk _ _ _ (by omega) (by rw [h.size];omega)]
  by_cases c:m+j - i<=t/\t<m+j - i+i
  ·rw [if_neg (by omega),if_pos c,show t - (m+j - i)+(m - i)=t - j by omega];exact h.hi t (by omega) (by omega)
  ·rw [if_neg (by omega),if_neg c];exact h.out t h1 h2 (by omega)
structure Rot (d d':Array α) (a m b:Nat):Prop where
 perm:PermIn a b d d'
 size:d'.size=d.size
 get:∀ t,a<=t->t<b->d'[t]! = rotF d a m b t
theorem RotInv.done {d dk:Array α}{a m b i:Nat}(h:RotInv d dk (rotF d a m b) a m b i i)(hi:i<=m - a)(ha:a<=m)(hj:m+i<=b)(hb:b<=d.size)(hi0:0<i) :
  Rot d (swapN dk (m - i) m i) a m b where
 perm:=permIn_trans _ _ _ _ _ h.perm (perm_swapN dk _ _ _ _ (by omega) (by omega) _ (by omega) (by omega) (by rw [h.size];omega))
 size:=by rw [size_swapN,h.size]
 get t h1 h2:=by
  rw [get_swapN dk _ _ _ (by omega) (by rw [h.size];omega)]
  by_cases c:m - i<=t/\t<m - i+i
  ·rw [if_pos c,show t - (m - i)+m=t+i by omega];exact h.lo t (by omega) (by omega)
  ·rw [if_neg c]
   by_cases c2:m<=t/\t<m+i
   ·rw [if_pos c2,show t - m+(m - i)=t - i by omega];exact h.hi t (by omega) (by omega)
   ·rw [if_neg c2];exact h.out t h1 h2 (by omega)
theorem Rot.none (d:Array α) (a m b:Nat)(h:m=a ∨ m=b)(h1:a<=m)(h2:m<=b):Rot d d a m b where
 perm:=permIn_refl _ _ _
 size:=rfl
 get t g1 g2:=by
  unfold rotF
  rcases h with rfl | rfl
  ·rw [if_pos (by omega),show t+(m - m)=t by omega]
  ·rw [if_neg (by omega),show t - (m - m)=t by omega]
section
variable {lt':α->α->Bool}
structure FindA (lt':α->α->Bool)(d:Array α) (a m b lo hi:Nat):Prop where
 yes:∀ t,m<=t->t<lo->lt' d[t]! d[a]! = true
 no:∀ t,hi<=t->t<b->lt' d[t]! d[a]! = false
theorem FindA.up (hO:SWO lt'){d:Array α}{a m b lo hi h:Nat}(F:FindA lt' d a m b lo hi)(hS:SortedIn lt' m b d)(h1:m<=h)(h2:h<b)(hy:lt' d[h]! d[a]! = true):FindA lt' d a m b (h+1) hi where
 yes t g1 g2:=by
  rcases Nat.lt_or_ge t h with g | g
  ·by_cases c:lt' d[t]! d[a]! = true
   ·exact c
   ·have:=hO.ntrans _ _ _ (hS t h g1 g h2) (by simpa using c);rw [this] at hy;cases hy
  ·rw [show t=h by omega];exact hy
 no:=F.no
theorem FindA.down (hO:SWO lt'){d:Array α}{a m b lo hi h:Nat}(F:FindA lt' d a m b lo hi)(hS:SortedIn lt' m b d)(h1:m<=h)(hn:lt' d[h]! d[a]! = false):FindA lt' d a m b lo h where
 yes:=F.yes
 no t g1 g2:=by
  rcases Nat.eq_or_lt_of_le g1 with g | g
  ·rw [<- g];exact hn
  ·exact hO.ntrans _ _ _ (hS h t h1 g g2) hn
structure MoveA (d dk:Array α) (a b k:Nat):Prop where
 perm:PermIn a b d dk
 lo:∀ t,a<=t->t<k->dk[t]! = d[t+1]!
 at_:dk[k]! = d[a]!
 hi:∀ t,k<t->dk[t]! = d[t]!
theorem MoveA.start (d:Array α) (a b:Nat):MoveA d d a b a:=⟨permIn_refl _ _ _,fun t h1 h2=>by omega,rfl,fun _ _=>rfl⟩
theorem MoveA.next {d dk:Array α}{a b k:Nat}(M:MoveA d dk a b k)(h1:a<=k)(h2:k+1<b)(h3:b<=d.size):MoveA d (swp dk k (k+1)) a b (k+1) where
 perm:=permIn_trans _ _ _ _ _ M.perm (swp_permIn _ _ _ _ _ h1 (by omega) (by omega) h2 (by rw [M.perm.1];exact h3))
 lo t g1 g2:=by
  rw [swp_get _ (by rw [M.perm.1];omega) (by rw [M.perm.1];omega),if_neg (by omega)]
  by_cases c:t=k
  ·rw [if_pos c,M.hi (k+1) (by omega),c]
  ·rw [if_neg c,M.lo t g1 (by omega)]
 at_:=by rw [swp_get _ (by rw [M.perm.1];omega) (by rw [M.perm.1];omega),if_pos rfl,M.at_]
 hi t g:=by rw [swp_get _ (by rw [M.perm.1];omega) (by rw [M.perm.1];omega),if_neg (by omega),if_neg (by omega),M.hi t (by omega)]
theorem MoveA.done (hO:SWO lt'){d dk:Array α}{a b i:Nat}(M:MoveA d dk a b (i - 1))(F:FindA lt' d a (a+1) b i i)(hS:SortedIn lt' (a+1) b d)(h1:a+1<=i)(h2:i<=b):SortedIn lt' a b dk:=by
 intro p q hp hpq hq
 rcases Nat.lt_trichotomy q (i - 1) with g | g | g
 ·rw [M.lo p hp (by omega),M.lo q (by omega) g];exact hS _ _ (by omega) (by omega) (by omega)
 ·rw [g,M.at_,M.lo p hp (by omega)];exact hO.asymmA (F.yes _ (by omega) (by omega))
 ·rw [M.hi q g]
  rcases Nat.lt_trichotomy p (i - 1) with g' | g' | g'
  ·rw [M.lo p hp g'];exact hS _ _ (by omega) (by omega) hq
  ·rw [g',M.at_];exact F.no q (by omega) hq
  ·rw [M.hi p g'];exact hS _ _ (by omega) hpq hq
structure FindB (lt':α->α->Bool)(d:Array α) (a m lo hi:Nat):Prop where
 no:∀ t,a<=t->t<lo->lt' d[m]! d[t]! = false
 yes:∀ t,hi<=t->t<m->lt' d[m]! d[t]! = true
theorem FindB.up (hO:SWO lt'){d:Array α}{a m lo hi h:Nat}(F:FindB lt' d a m lo hi)(hS:SortedIn lt' a m d)(h1:a<=h)(h2:h<m)(hn:lt' d[m]! d[h]! = false):FindB lt' d a m (h+1) hi where
 no t g1 g2:=by
  rcases Nat.lt_or_ge t h with g | g
  ·exact hO.ntrans _ _ _ hn (hS t h g1 g h2)
  ·rw [show t=h by omega];exact hn
 yes:=F.yes
theorem FindB.down (hO:SWO lt'){d:Array α}{a m lo hi h:Nat}(F:FindB lt' d a m lo hi)(hS:SortedIn lt' a m d)(h1:a<=h)(hy:lt' d[m]! d[h]! = true):FindB lt' d a m lo h where
 no:=F.no
 yes t g1 g2:=by
  rcases Nat.eq_or_lt_of_le g1 with g | g
  ·rw [<- g];exact hy
  ·by_cases c:lt' d[m]! d[t]! = true
   ·exact c
   ·have:=hO.ntrans _ _ _ (by simpa using c) (hS h t h1 g g2);rw [this] at hy;cases hy
structure MoveB (d dk:Array α) (a m k:Nat):Prop where
 perm:PermIn a (m+1) d dk
 lo:∀ t,t<k->dk[t]! = d[t]!
 at_:dk[k]! = d[m]!
 hi:∀ t,k<t->t<=m->dk[t]! = d[t - 1]!
theorem MoveB.start (d:Array α) (a m:Nat):MoveB d d a m m:=⟨permIn_refl _ _ _,fun _ _=>rfl,rfl,fun t h1 h2=>by omega⟩
theorem MoveB.next {d dk:Array α}{a m k:Nat}(M:MoveB d dk a m (k+1))(h1:a<=k)(h2:k+1<=m)(h3:m+1<=d.size):MoveB d (swp dk (k+1) k) a m k where
 perm:=permIn_trans _ _ _ _ _ M.perm (swp_permIn _ _ _ _ _ (by omega) (by omega) h1 (by omega) (by rw [M.perm.1];exact h3))
 lo t g:=by rw [swp_get _ (by rw [M.perm.1];omega) (by rw [M.perm.1];omega),if_neg (by omega),if_neg (by omega),M.lo t (by omega)]
 at_:=by rw [swp_get _ (by rw [M.perm.1];omega) (by rw [M.perm.1];omega),if_pos rfl,M.at_]
 hi t g1 g2:=by
  rw [swp_get _ (by rw [M.perm.1];omega) (by rw [M.perm.1];omega),if_neg (by omega)]
  by_cases c:t=k+1
  ·rw [if_pos c,M.lo k (by omega),c,Nat.add_sub_cancel]
  ·rw [if_neg c,M.hi t (by omega) g2]
theorem MoveB.done (hO:SWO lt'){d dk:Array α}{a m i:Nat}(M:MoveB d dk a m i)(F:FindB lt' d a m i i)(hS:SortedIn lt' a m d)(h1:a<=i)(h2:i<=m):SortedIn lt' a (m+1) dk:=by
 intro p q hp hpq hq
 rcases Nat.lt_trichotomy q i with g | g | g
 ·rw [M.lo p (by omega),M.lo q g];exact hS _ _ hp hpq (by omega)
 ·rw [g,M.at_,M.lo p (by omega)];exact F.no _ hp (by omega)
 ·rw [M.hi q g (by omega)]
  rcases Nat.lt_trichotomy p i with g' | g' | g'
  ·rw [M.lo p g'];exact hS _ _ hp (by omega) (by omega)
  ·rw [g',M.at_];exact hO.asymmA (F.yes _ (by omega) (by omega))
  ·rw [M.hi p g' (by omega)];exact hS _ _ (by omega) (by omega) (by omega)
structure FindC (lt':α->α->Bool)(d:Array α) (s0 r0 n lo hi:Nat):Prop where
 no:∀ c,s0<=c->c<lo->lt' d[n - 1 - c]! d[c]! = false
 yes:∀ c,hi<=c->c<r0->lt' d[n - 1 - c]! d[c]! = true
structure BndC (a m b mid s0 r0:Nat):Prop where
 am:a<m
 mb:m<b
 mid_:mid=(a+b) / 2
 s0_:s0=if mid<m then mid+m - b else a
 r0_:r0=if mid<m then mid else m
theorem BndC.of {a m b mid s0 r0:Nat}(B:BndC a m b mid s0 r0){c:Nat}(h1:s0<=c)(h2:c<r0):a<=c/\c<m/\m<=mid+m - 1 - c/\mid+m - 1 - c<b/\c<mid+m - 1+1:=by
 obtain ⟨h3,h4,h5,h6,h7⟩:=B
 by_cases c1:mid<m
 ·rw [if_pos c1] at h6 h7;omega
 ·rw [if_neg c1] at h6 h7;omega
theorem SortedIn.le_of (hO:SWO lt'){d:Array α}{a b p q:Nat}(hS:SortedIn lt' a b d)(hp:a<=p)(hpq:p<=q)(hq:q<b):lt' d[q]! d[p]! = false:=by
 rcases Nat.eq_or_lt_of_le hpq with g | g
 ·rw [g];exact hO.irrefl _
 ·exact hS _ _ hp g hq
theorem FindC.up (hO:SWO lt'){d:Array α}{a m b mid s0 r0 lo hi c:Nat}(B:BndC a m b mid s0 r0)(F:FindC lt' d s0 r0 (mid+m) lo hi)(hS1:SortedIn lt' a m d)(hS2:SortedIn lt' m b d)
  (h1:s0<=c)(h2:c<r0)(hn:lt' d[mid+m - 1 - c]! d[c]! = false):FindC lt' d s0 r0 (mid+m) (c+1) hi where
 no t g1 g2:=by
  have b1:=B.of g1 (show t<r0 by omega)
  have b2:=B.of h1 h2
  have x1:=SortedIn.le_of hO hS1 (p:=t) (q:=c) (by omega) (by omega) (by omega)
  have x2:=SortedIn.le_of hO hS2 (p:=mid+m - 1 - c) (q:=mid+m - 1 - t) (by omega) (by omega) (by omega)
  exact hO.ntrans _ _ _ x2 (hO.ntrans _ _ _ hn x1)
 yes:=F.yes
theorem FindC.down (hO:SWO lt'){d:Array α}{a m b mid s0 r0 lo hi c:Nat}(B:BndC a m b mid s0 r0)(F:FindC lt' d s0 r0 (mid+m) lo hi)(hS1:SortedIn lt' a m d)(hS2:SortedIn lt' m b d)
  (h1:s0<=c)(h2:c<r0)(hy:lt' d[mid+m - 1 - c]! d[c]! = true):FindC lt' d s0 r0 (mid+m) lo c where
 no:=F.no
 yes t g1 g2:=by
  have b1:=B.of (show s0<=t by omega) g2
  have b2:=B.of h1 h2
  have x1:=SortedIn.le_of hO hS1 (p:=c) (q:=t) (by omega) (by omega) (by omega)
  have x2:=SortedIn.le_of hO hS2 (p:=mid+m - 1 - t) (q:=mid+m - 1 - c) (by omega) (by omega) (by omega)
  by_cases g:lt' d[mid+m - 1 - t]! d[t]! = true
  ·exact g
  ·have:=hO.ntrans _ _ _ x2 (hO.ntrans _ _ _ (show lt' d[mid+m - 1 - t]! d[t]! = false by simpa using g) x1)
   rw [this] at hy;cases hy
theorem cut_cross (hO:SWO lt'){d d1:Array α}{a m b mid s0 r0 s:Nat}(B:BndC a m b mid s0 r0)(F:FindC lt' d s0 r0 (mid+m) s s)(hS1:SortedIn lt' a m d)(hS2:SortedIn lt' m b d)
  (h1:s0<=s)(h2:s<=r0)(R:Rot d d1 s m (mid+m - s)):∀ i j,a<=i->i<mid->mid<=j->j<b->lt' d1[j]! d1[i]! = false:=by
 intro i j gi gi' gj gj'
 have hb:mid+m - s<=b/\s<=m/\s<=mid/\a<=s/\a<mid/\mid<b:=by
  obtain ⟨h3,h4,h5,h6,h7⟩:=B
  by_cases c1:mid<m
  ·rw [if_pos c1] at h6 h7;omega
  ·rw [if_neg c1] at h6 h7;omega
 have hout:∀ t,a<=t->t<b->(t<s ∨ mid+m - s<=t)->d1[t]! = d[t]!:=fun t _ _ h=>R.perm.2.1 t (by omega)
 by_cases ci:i<s
 ·rw [hout i gi (by omega) (.inl ci)]
  by_cases cj:j<mid+m - s
  ·rw [R.get j (by omega) cj];unfold rotF;rw [if_neg (by omega)]
   exact SortedIn.le_of hO hS1 gi (by omega) (by omega)
  ·rw [hout j (by omega) gj' (.inr (by omega))]
   have hs:s0<s:=by
    obtain ⟨h3,h4,h5,h6,h7⟩:=B
    by_cases c1:mid<m
    ·rw [if_pos c1] at h6 h7;omega
    ·rw [if_neg c1] at h6 h7;omega
   have x:=F.no (s - 1) (by omega) (by omega)
   rw [show mid+m - 1 - (s - 1)=mid+m - s by omega] at x
   exact hO.ntrans _ _ _ (SortedIn.le_of hO hS2 (p:=mid+m - s) (by omega) (by omega) gj') (hO.ntrans _ _ _ x (SortedIn.le_of hO hS1 gi (by omega) (by omega)))
 ·rw [R.get i (by omega) (by omega)]
  have e1:rotF d s m (mid+m - s) i=d[i+(m - s)]!:=by unfold rotF;rw [if_pos (by omega)]
  rw [e1]
  by_cases cj:j<mid+m - s
  ·rw [R.get j (by omega) cj]
   have e2:rotF d s m (mid+m - s) j=d[j - (mid+m - s - m)]!:=by unfold rotF;rw [if_neg (by omega)]
   rw [e2]
   have hs:s<r0:=by
    obtain ⟨h3,h4,h5,h6,h7⟩:=B
    by_cases c1:mid<m
    ·rw [if_pos c1] at h6 h7;omega
    ·rw [if_neg c1] at h6 h7;omega
   have x:=F.yes s (Nat.le_refl _) hs
   have y1:=SortedIn.le_of hO hS2 (p:=i+(m - s)) (q:=mid+m - 1 - s) (by omega) (by omega) (by omega)
   have y2:=SortedIn.le_of hO hS1 (p:=s) (q:=j - (mid+m - s - m)) (by omega) (by omega) (by omega)
   by_cases g:lt' d[j - (mid+m - s - m)]! d[i+(m - s)]! = true
   ·exfalso
    have z:=hO.asymmA g
    have:=hO.ntrans _ _ _ y1 (hO.ntrans _ _ _ z y2)
    rw [this] at x;cases x
   ·simpa using g
  ·rw [hout j (by omega) gj' (.inr (by omega))]
   exact SortedIn.le_of hO hS2 (by omega) (by omega) gj'
theorem halves_sorted {d1 d2 d3:Array α}{a mid b:Nat}(hm:a<=mid)(hmb:mid<=b)(hb:b<=d1.size)(hx:∀ i j,a<=i->i<mid->mid<=j->j<b->lt' d1[j]! d1[i]! = false)
  (p2:PermIn a mid d1 d2)(s2:SortedIn lt' a mid d2)(p3:PermIn mid b d2 d3)(s3:SortedIn lt' mid b d3):PermIn a b d1 d3/\SortedIn lt' a b d3:=by
 have q2:=permIn_mono d1 d2 a mid a b (Nat.le_refl _) hmb hb p2
 have q3:=permIn_mono d2 d3 mid b a b hm (Nat.le_refl _) (by rw [p2.1];exact hb) p3
 refine ⟨permIn_trans _ _ _ _ _ q2 q3,?_⟩
 have e2:∀ j,mid<=j->j<b->d2[j]! = d1[j]!:=fun j h _=>p2.2.1 j (.inr h)
 have e3:∀ i,i<mid->d3[i]! = d2[i]!:=fun i h=>p3.2.1 i (.inl h)
 have x2:∀ j,mid<=j->j<b -> ∀ i,a<=i->i<mid->lt' d2[j]! d2[i]! = false:=fun j g g'=>by
  rw [e2 j g g']
  exact permIn_all d1 d2 a mid (fun y=>lt' d1[j]! y=false) (by omega) p2 (fun i h h'=>hx i j h h' g g')
 have x3:∀ i,a<=i->i<mid -> ∀ j,mid<=j->j<b->lt' d3[j]! d3[i]! = false:=fun i g g'=>by
  rw [e3 i g']
  exact permIn_all d2 d3 mid b (fun y=>lt' y d2[i]! = false) (by rw [p2.1];exact hb) p3 (fun j h h'=>x2 j h h' i g g')
 intro p q hp hpq hq
 by_cases c1:q<mid
 ·rw [e3 p (by omega),e3 q c1];exact s2 p q hp hpq c1
 ·by_cases c2:p<mid
  ·exact x3 p hp c2 q (by omega) hq
  ·exact s3 p q (by omega) hpq hq
end
section
variable {lt lt':α->α->Bool}
theorem insInner_congr (a:Nat):∀ (j:Nat)(dk:Array α),j<dk.size->(∀ t,a<=t->t<j->lt dk[j]! dk[t]! = lt' dk[j]! dk[t]!)->insInner lt a j dk=insInner lt' a j dk
 | 0,_,_,_=>rfl
 | j+1,dk,hj,h=>by
  rw [insInner,insInner]
  by_cases c:j+1 > a
  ·rw [h j (by omega) (by omega)]
   split
   ·refine insInner_congr a j _ (by rw [swp_size];omega) fun t h1 h2=>?_
    rw [swp_get _ hj (by omega),swp_get _ hj (by omega),if_pos rfl,if_neg (by omega),if_neg (by omega)]
    exact h t h1 (by omega)
   ·rfl
  ·rw [show (decide (j+1 > a))=false from decide_eq_false c];simp
theorem insInner_perm (a b i:Nat)(hS:SWO lt)(hib:i<b)(d:Array α)(hb:b<=d.size)(hai:a<=i):PermIn a (i+1) d (insInner lt a i d):=by
 have:∀ (j:Nat)(dk:Array α),j<=i->i<dk.size->PermIn a (i+1) dk (insInner lt a j dk):=by
  intro j
  induction j with
  | zero=>intro dk _ _;exact permIn_refl _ _ _
  | succ j ih=>
   intro dk h1 h2
   rw [insInner]
   split
   ·rename_i hc
    simp only [Bool.and_eq_true,decide_eq_true_eq] at hc
    exact permIn_trans _ _ _ _ _ (swp_permIn dk a (i+1) (j+1) j (by omega) (by omega) (by omega) (by omega) (by omega)) (ih _ (by omega) (by rw [swp_size];exact h2))
   ·exact permIn_refl _ _ _
 exact this i d (Nat.le_refl _) (by omega)
theorem insOuter_yes (lt:α->α->Bool){a b i:Nat}(d:Array α)(h:i<b):insOuter lt a b i d=insOuter lt a b (i+1) (insInner lt a i d):=by
 conv=>lhs;rw [insOuter,if_pos h]
theorem insOuter_no (lt:α->α->Bool){a b i:Nat}(d:Array α)(h:¬ i<b):insOuter lt a b i d=d:=by
 rw [insOuter,if_neg h]
theorem insOuter_congr (hS:SWO lt) (a b:Nat):∀ (k i:Nat)(dk:Array α),b - i<=k->a<=i->b<=dk.size->(∀ q,i<=q->q<b -> ∀ t,a<=t->t<q->lt dk[q]! dk[t]! = lt' dk[q]! dk[t]!)->insOuter lt a b i dk=insOuter lt' a b i dk:=by
 intro k
 induction k with
 | zero=>intro i dk h1 h2 h3 h;rw [insOuter_no lt dk (by omega),insOuter_no lt' dk (by omega)]
 | succ k ih=>
  intro i dk h1 h2 h3 h
  by_cases c:i<b
  ·rw [insOuter_yes lt dk c,insOuter_yes lt' dk c,<- insInner_congr a i dk (by omega) (h i (Nat.le_refl _) c)]
   have p:=insInner_perm (lt:=lt) a b i hS c dk h3 h2
   refine ih (i+1) _ (by omega) (by omega) (by rw [p.1];exact h3) fun q g1 g2 t g3 g4=>?_
   have eq:(insInner lt a i dk)[q]! = dk[q]!:=p.2.1 q (.inr (by omega))
   rw [eq]
   by_cases ct:t<i+1
   ·exact permIn_all dk _ a (i+1) (fun y=>lt dk[q]! y=lt' dk[q]! y) (by omega) p (fun t' u1 u2=>h q (by omega) g2 t' u1 (by omega)) t g3 ct
   ·rw [p.2.1 t (.inr (by omega))];exact h q (by omega) g2 t g3 g4
  ·rw [insOuter_no lt dk c,insOuter_no lt' dk c]
theorem insertion_congr (hS:SWO lt)(d:Array α) (a b:Nat)(hb:b<=d.size)(h:∀ q t,a<=t->t<q->q<b->lt d[q]! d[t]! = lt' d[q]! d[t]!):insertionSort lt d a b=insertionSort lt' d a b:=
 insOuter_congr hS a b _ _ d (Nat.le_refl _) (by omega) hb fun q g1 g2 t g3 g4=>h q t g3 g4 g2
end
end
namespace StI
open Go.Shelf Go.RowKit Go.Lib Go.Sort Go.Proofs
structure LayS (P:Program):Prop where
 mixed:P.follows .mixedOrders=true
 f34:P.funcs[236]? = some Tryz.f236
 f32:P.funcs[224]? = some Tryz.f224
 f30:P.funcs[219]? = some Tryz.f219
 t0:P.underlying 0=some (TypeDesc.tuple #[])
 a0:∀ w,(isAgg 0).run P w = .ok false w
 z0:∀ w,(Go.sizeOf 0).run P w = .ok 1 w
 v0:∀ w,(zeroValue 0).run P w = .ok (Value.tuple #[]) w
 t3:P.underlying 3=some (TypeDesc.int IntKind.i64)
 a3:∀ w,(isAgg 3).run P w = .ok false w
 z3:∀ w,(Go.sizeOf 3).run P w = .ok 1 w
 v3:∀ w,(zeroValue 3).run P w = .ok (Value.int IntKind.i64 0) w
 t4:P.underlying 4=some (TypeDesc.bool)
 a4:∀ w,(isAgg 4).run P w = .ok false w
 z4:∀ w,(Go.sizeOf 4).run P w = .ok 1 w
 v4:∀ w,(zeroValue 4).run P w = .ok (Value.bool false) w
 t22:P.underlying 150=some (TypeDesc.slice 3)
 a22:∀ w,(isAgg 150).run P w = .ok false w
 z22:∀ w,(Go.sizeOf 150).run P w = .ok 1 w
 v22:∀ w,(zeroValue 150).run P w = .ok (Value.slice none 0 0) w
 t40:P.underlying 232=some (TypeDesc.func #[3,3] #[3] false)
 a40:∀ w,(isAgg 232).run P w = .ok false w
 z40:∀ w,(Go.sizeOf 232).run P w = .ok 1 w
 v40:∀ w,(zeroValue 232).run P w = .ok (Value.nilFunc) w
 t45:P.underlying 74=some (TypeDesc.int IntKind.u64)
 a45:∀ w,(isAgg 74).run P w = .ok false w
 z45:∀ w,(Go.sizeOf 74).run P w = .ok 1 w
 v45:∀ w,(zeroValue 74).run P w = .ok (Value.int IntKind.u64 0) w
 aE:∀ w,(isAgg 3).run P w = .ok false w
 zE:∀ w,(Go.sizeOf 3).run P w = .ok 1 w
theorem layTry:LayS Tryz.prog:=⟨by kernel_rfl,Tryz.func236,Tryz.func224,Tryz.func219,Tryz.underlying0,Tryz.isAgg0,Tryz.sizeOf0,Tryz.zeroValue0,Tryz.underlying3,Tryz.isAgg3,Tryz.sizeOf3,Tryz.zeroValue3,
 Tryz.underlying4,Tryz.isAgg4,Tryz.sizeOf4,Tryz.zeroValue4,Tryz.underlying150,Tryz.isAgg150,Tryz.sizeOf150,Tryz.zeroValue150,Tryz.underlying232,Tryz.isAgg232,Tryz.sizeOf232,Tryz.zeroValue232,Tryz.underlying74,Tryz.isAgg74,Tryz.sizeOf74,Tryz.zeroValue74,Tryz.isAgg3,Tryz.sizeOf3⟩
variable {P:Program}{α:Type} [Inhabited α]


theorem swapRange_any (L:LayS P)(enc:α->Value) (g:Nat)(cb:Array Value) (blk off cap a b n:Nat)(d0 d:Array α)(w0 w:World)
  (R:Row1 enc w0 blk off d0)(hs:d0.size=d.size)(S:SW enc w0 blk off d w)(hab:a+n<=d.size)(hb:b+n<=d.size)(hsz:d.size<4611686018427387904) :
  Calls P 236 #[.slice (some ⟨blk,off,none⟩) d.size cap,.int .i64 a,.int .i64 b,.int .i64 n,.func (.func g) #[] cb] w fun e w'=>e = .returned (.tuple #[])/\SW enc w0 blk off (swapN d a b n) w':=by
 have mixed:=L.mixed;have t0:=L.t0;have a0:=L.a0;have z0:=L.z0;have v0:=L.v0;have t3:=L.t3;have a3:=L.a3;have z3:=L.z3;have v3:=L.v3;have t4:=L.t4;have a4:=L.a4;have z4:=L.z4;have v4:=L.v4;have t22:=L.t22;have a22:=L.a22;have z22:=L.z22;have v22:=L.v22;have t40:=L.t40;have a40:=L.a40;have z40:=L.z40;have v40:=L.v40
 have aE:=L.aE;have zE:=L.zE
 have hcl0:=R.hO.cells
 simp only [Value.cells] at hcl0
 have hst:=R.hO.store P
 have FG:=L.f34
 have S0:Aside (SW enc w0 blk off (swapN d a b 0) w):=S
 clear S
 go_enter FG,Tryz.ntmps236
 go_wp2
 go_loopg [10] n (fun kx s10 wr=>∃ i:Nat,s10 = .int .i64 i/\i<=n/\n - i<=kx/\Aside (SW enc w0 blk off (swapN d a b i) wr))
 case atStart=>exact ⟨0,rfl,Nat.zero_le _,by omega,S0⟩
 case round=>
  clear S0
  obtain ⟨i,rfl,hin,hkx,S1⟩:=hrel
  by_cases hlt:i<n
  ·have hds:(swapN d a b i).size=d.size:=size_swapN d a b i
   obtain ⟨dk,hdk⟩:∃ dk,dk=swapN d a b i:=⟨_,rfl⟩
   have hnx:swapN d a b (i+1)=swp (swapN d a b i) (a+i) (b+i):=rfl
   rw [<- hdk] at S1 hds hnx
   have HN:Hid _:=hnx
   clear hnx hdk
   have hltz:(i:Int)<(n:Int):=by omega
   go_wp2_with fail
   have ea:((a:Int)+(i:Int)).toNat=a+i:=by omega
   have pa:(0:Int)<=(a:Int)+(i:Int):=by omega
   have ba:(a:Int)+(i:Int)<(d.size:Int):=by omega
   have ra:IntKind.i64.wrap ((a:Int)+(i:Int))=(a:Int)+(i:Int):=by rw [IntKind.wrap_i64];omega
   have ec:((b:Int)+(i:Int)).toNat=b+i:=by omega
   have pc:(0:Int)<=(b:Int)+(i:Int):=by omega
   have bc:(b:Int)+(i:Int)<(d.size:Int):=by omega
   have rc:IntKind.i64.wrap ((b:Int)+(i:Int))=(b:Int)+(i:Int):=by rw [IntKind.wrap_i64];omega
   have S2:Aside (SW enc w0 blk off (swp dk (a+i) (b+i)) (((wr.setCell ⟨blk,off+(a+i),none⟩ (enc dk[b+i]!)).setCell ⟨blk,off+(b+i),none⟩ (enc dk[a+i]!)).drew)):=S1.out.swapped R (a+i) (b+i) (by omega) (by omega)
   have q1:=S1.out.c1 R (by omega) (a+i) (by omega)
   have q2:=S1.out.c1 R (by omega) (b+i) (by omega)
   have q3:=S1.out.f1 R (by omega) (a+i) (by omega)
   have q4:=S1.out.f1 R (by omega) (b+i) (by omega)
   obtain ⟨u9,q5⟩:=S1.out.c2 R (by omega) (a+i) (b+i) (by omega) (by omega) (enc dk[b+i]!)
   generalize dk[a+i]! = x9 at S2 q1
   generalize dk[b+i]! = y9 at S2 q2 q5
   clear S1
   go_big_region_o
   clear q1 q2 q3 q4 q5
   generalize ((wr.setCell ⟨blk,off+(a+i),none⟩ (enc y9)).setCell ⟨blk,off+(b+i),none⟩ (enc x9)).drew=w2 at S2 ⊢
   go_wp2
   go_roundg (n - (i+1))
   case measure=>omega
   case rel=>exact ⟨i+1,by go_num,by omega,Nat.le_refl _,(show Aside _ from by rw [HN.out];exact S2)⟩
  ·have hkn:i=n:=by omega
   have hltz:¬ (i:Int)<(n:Int):=by omega
   go_wp2
   go_end0
   exact ⟨rfl,by rw [<- hkn];exact S1.out⟩


theorem rotate_any (L:LayS P)(enc:α->Value) (g:Nat)(cb:Array Value) (blk off cap a m b:Nat)(d0 d:Array α)(w0 w:World)
  (R:Row1 enc w0 blk off d0)(hs:d0.size=d.size)(S:SW enc w0 blk off d w)(ham:a<m)(hmb:m<b)(hb:b<=d.size)(hsz:d.size<4611686018427387904) :
  Calls P 224 #[.slice (some ⟨blk,off,none⟩) d.size cap,.int .i64 a,.int .i64 m,.int .i64 b,.func (.func g) #[] cb] w fun e w'=>e = .returned (.tuple #[]) /\ ∃ d',Rot d d' a m b/\SW enc w0 blk off d' w':=by
 have mixed:=L.mixed;have t0:=L.t0;have a0:=L.a0;have z0:=L.z0;have v0:=L.v0;have t3:=L.t3;have a3:=L.a3;have z3:=L.z3;have v3:=L.v3;have t4:=L.t4;have a4:=L.a4;have z4:=L.z4;have v4:=L.v4;have t22:=L.t22;have a22:=L.a22;have z22:=L.z22;have v22:=L.v22;have t40:=L.t40;have a40:=L.a40;have z40:=L.z40;have v40:=L.v40
 have e34:∀ args w,(callFunc 236 args).run P w = .ok (.enter 236 args) w:=enters_of L.f34 (by kernel_rfl) rfl
 have FG:=L.f32
 have S0:Aside (SW enc w0 blk off d w):=S
 clear S
 go_enter FG,Tryz.ntmps224
 go_wp2
 go_loopg [10,11] (b - a) (fun kx s10 s11 wr=>∃ (i j:Nat)(dk:Array α),s10 = .int .i64 i/\s11 = .int .i64 j/\0<i/\0<j/\i<=m - a/\m+j<=b/\i+j<=kx/\Hid (RotInv d dk (rotF d a m b) a m b i j)/\Aside (SW enc w0 blk off dk wr))
 case atStart=>exact ⟨m - a,b - m,d,congrArg (Value.int .i64) (by omega),congrArg (Value.int .i64) (by omega),by omega,by omega,by omega,by omega,by omega,RotInv.start d a m b (by omega) (by omega),S0⟩
 case round=>
  clear S0
  obtain ⟨i,j,dk,rfl,rfl,hi0,hj0,hi,hj,hkx,HI,S1⟩:=hrel
  have hds:dk.size=d.size:=HI.out.size
  have HD:Hid (dk.size=d.size):=hds
  have rm:IntKind.i64.wrap ((m:Int) - (i:Int))=(m:Int) - (i:Int):=by rw [IntKind.wrap_i64];omega
  have rs:IntKind.i64.wrap ((m:Int)+(j:Int))=(m:Int)+(j:Int):=by rw [IntKind.wrap_i64];omega
  have rt:IntKind.i64.wrap ((m:Int)+(j:Int) - (i:Int))=(m:Int)+(j:Int) - (i:Int):=by rw [IntKind.wrap_i64];omega
  have c1:((m - i:Nat):Int)=(m:Int) - (i:Int):=by omega
  by_cases heq:i=j
  ·subst heq
   have hcon:=swapRange_any L enc g cb blk off cap (m - i) m i d0 dk w0 wr R (by omega) S1.out (by omega) (by omega) (by omega)
   rw [hds,c1] at hcon
   have hsw:Rot d (swapN dk (m - i) m i) a m b:=HI.out.done hi (by omega) hj hb hi0
   have HS:Hid _:=hsw
   clear hsw hds c1 S1
   go_wp2_with (go_at_fn 236;refine hcon.mono ?_;rintro e w' ⟨rfl,S2⟩)
   go_end0
   exact ⟨rfl,_,HS.out,S2⟩
  ·by_cases hij:j<i
   ·have hcon:=swapRange_any L enc g cb blk off cap (m - i) m j d0 dk w0 wr R (by omega) S1.out (by omega) (by omega) (by omega)
    rw [hds,c1] at hcon
    have HN:Hid (RotInv d (swapN dk (m - i) m j) (rotF d a m b) a m b (i - j) j):=HI.out.more hi (by omega) hj hb hij hj0
    have hne:¬ (i:Int)=(j:Int):=by omega
    have hijz:(j:Int)<(i:Int):=by omega
    clear hds c1 S1 HI
    go_wp2_with (go_at_fn 236;refine hcon.mono ?_;rintro e w' ⟨rfl,S2⟩)
    go_roundg (i - j+j)
    case measure=>omega
    case rel=>exact ⟨i - j,j,_,congrArg (Value.int .i64) (by omega),rfl,by omega,hj0,by omega,hj,Nat.le_refl _,HN,S2⟩
   ·have hcon:=swapRange_any L enc g cb blk off cap (m - i) (m+j - i) i d0 dk w0 wr R (by omega) S1.out (by omega) (by omega) (by omega)
    have c2:((m+j - i:Nat):Int)=(m:Int)+(j:Int) - (i:Int):=by omega
    rw [hds,c1,c2] at hcon
    have HN:Hid (RotInv d (swapN dk (m - i) (m+j - i) i) (rotF d a m b) a m b i (j - i)):=HI.out.less hi (by omega) hj hb (by omega) hi0
    have hne:¬ (i:Int)=(j:Int):=by omega
    have hijz:¬ (j:Int)<(i:Int):=by omega
    clear hds c1 c2 S1 HI
    go_wp2_with (go_at_fn 236;refine hcon.mono ?_;rintro e w' ⟨rfl,S2⟩)
    go_roundg (i+(j - i))
    case measure=>omega
    case rel=>exact ⟨i,j - i,_,rfl,congrArg (Value.int .i64) (by omega),hi0,by omega,hi,by omega,Nat.le_refl _,HN,S2⟩
end StI
namespace StI
open Go.Shelf Go.RowKit Go.Lib Go.Sort Go.Proofs
variable {P:Program}{α:Type} [Inhabited α]
def Cross (cf:α->α->Int) (lt':α->α->Bool)(d:Array α) (a m b:Nat):Prop:=∀ i j,a<=i->i<m->m<=j->j<b->decide (cf d[j]! d[i]! < 0)=lt' d[j]! d[i]!
def Merged (lt':α->α->Bool)(enc:α->Value)(w0:World) (blk off:Nat)(d:Array α) (a b:Nat)(e:Ending) (w':World):Prop:=
 e = .returned (.tuple #[]) /\ ∃ d',PermIn a b d d' /\ SortedIn lt' a b d' /\ SW enc w0 blk off d' w'


theorem symA (L:LayS P)(enc:α->Value)(cf:α->α->Int) (lt':α->α->Bool)(hO:SWO lt') (g:Nat)(cb:Array Value) (blk off cap a m b:Nat)(d0 d:Array α)(w0 w:World)
  (eg:∀ args w,(callFunc g args).run P w = .ok (.enter g args) w)(hcmp:CmpLays1 P g cb enc cf blk off d.size w0)
  (R:Row1 enc w0 blk off d0)(hs:d0.size=d.size)(S:SW enc w0 blk off d w)(ham:m=a+1)(hmb:m<b)(hb:b<=d.size)(hsz:d.size<4611686018427387904)
  (h2:SortedIn lt' m b d)(hX:Cross cf lt' d a m b) :
  Calls P 219 #[.slice (some ⟨blk,off,none⟩) d.size cap,.int .i64 a,.int .i64 m,.int .i64 b,.func (.func g) #[] cb] w (Merged lt' enc w0 blk off d a b):=by
 have mixed:=L.mixed;have t0:=L.t0;have a0:=L.a0;have z0:=L.z0;have v0:=L.v0;have t3:=L.t3;have a3:=L.a3;have z3:=L.z3;have v3:=L.v3;have t4:=L.t4;have a4:=L.a4;have z4:=L.z4;have v4:=L.v4;have t22:=L.t22;have a22:=L.a22;have z22:=L.z22;have v22:=L.v22;have t40:=L.t40;have a40:=L.a40;have z40:=L.z40;have v40:=L.v40;have t45:=L.t45;have a45:=L.a45;have z45:=L.z45;have v45:=L.v45
 have u22:=run_underlying L.t22;have u3:=run_underlying L.t3;have u45:=run_underlying L.t45
 have aE:=L.aE;have zE:=L.zE
 have hcl0:=R.hO.cells
 simp only [Value.cells] at hcl0
 have hst:=R.hO.store P
 have FG:=L.f30
 have S0:Aside (SW enc w0 blk off d w):=S
 have HC:Hid _:=hcmp
 have H2:Hid _:=h2
 have HX:Hid _:=hX
 have hm1:((m:Int) - (a:Int) == 1)=true:=by simp;omega
 have HM:Hid (m=a+1):=ham
 have hma:a<m:=by omega
 have HF0:Hid (FindA lt' d a m b m b):=⟨fun t h1 h2=>by omega,fun t h1 h2=>by omega⟩
 clear S hcmp h2 hX ham
 go_enter FG,Tryz.ntmps219
 go_wp2
 go_loopg [10,11,12] (b - m) (fun kx s10 s11 _ wr=>∃ i j:Nat,s10 = .int .i64 i/\s11 = .int .i64 j/\m<=i/\i<=j/\j<=b/\j - i<=kx/\Hid (FindA lt' d a m b i j)/\Aside (SW enc w0 blk off d wr))
 case atStart=>exact ⟨m,b,rfl,rfl,Nat.le_refl _,by omega,Nat.le_refl _,Nat.le_refl _,HF0,S0⟩
 case round=>
  clear S0 HF0
  obtain ⟨i,j,rfl,rfl,hmi,hij,hjb,hkx,HF,S1⟩:=hrel
  by_cases hlt:i<j
  ·have hltz:(i:Int)<(j:Int):=by omega
   go_wp2_with fail
   rw [show ((i:Int)+(j:Int)) / 2=(((i+j) / 2:Nat):Int) by omega]
   obtain ⟨h,hh⟩:∃ h,h=(i+j) / 2:=⟨_,rfl⟩
   rw [<- hh]
   have hih:i<=h:=by omega
   have hhj:h<j:=by omega
   clear hh
   have eh:((h:Int)).toNat=h:=by omega
   have bh:(h:Int)<(d.size:Int):=by omega
   have rh:IntKind.i64.wrap (h:Int)=(h:Int):=by rw [IntKind.wrap_i64];omega
   have ea:((a:Int)).toNat=a:=by omega
   have ba:(a:Int)<(d.size:Int):=by omega
   have ra:IntKind.i64.wrap (a:Int)=(a:Int):=by rw [IntKind.wrap_i64];omega
   have lh:=S1.out.cl R (by omega) h (by omega)
   have la:=S1.out.cl R (by omega) a (by omega)
   have hcg:=S1.out.cmp HC.out rfl d[h]! d[a]!
   have hx:=HX.out a h (Nat.le_refl _) hma (by omega) (by omega)
   have HY:Hid (decide (cf d[h]! d[a]! < 0)=true->FindA lt' d a m b (h+1) j):=fun hy=>HF.out.up hO H2.out (by omega) (by omega) (by rw [<- hx];exact hy)
   have HN:Hid (decide (cf d[h]! d[a]! < 0)=false->FindA lt' d a m b i h):=fun hy=>HF.out.down hO H2.out (by omega) (by rw [<- hx];exact hy)
   have SG:Hid (∀ nq osq,SW enc w0 blk off d (grow (wr.drewN nq) osq)):=fun nq osq=>S1.out.grown nq osq
   clear hx S1 HF
   generalize hch:cf d[h]! d[a]! = ch at hcg HY HN
   clear hch
   generalize enc d[h]! = xh at lh hcg
   generalize enc d[a]! = xa at la hcg
   by_cases hlv:ch<0
   ·have HF2:Hid (FindA lt' d a m b (h+1) j):=HY.out (decide_eq_true hlv)
    clear HY HN
    go_quiet_grown (first | (go_at_fn g;refine Calls.grown_of (hcg _ _)))
    go_wp2
    go_roundg (j - (h+1))
    case measure=>omega
    case rel=>exact ⟨h+1,j,by go_num,rfl,by omega,by omega,hjb,Nat.le_refl _,HF2,SG.out nq osq⟩
   ·have HF2:Hid (FindA lt' d a m b i h):=HN.out (decide_eq_false hlv)
    clear HY HN
    go_quiet_grown (first | (go_at_fn g;refine Calls.grown_of (hcg _ _)))
    go_wp2
    go_roundg (h - i)
    case measure=>omega
    case rel=>exact ⟨i,h,rfl,rfl,hmi,by omega,by omega,Nat.le_refl _,HF2,SG.out nq osq⟩
  ·have hij':i=j:=by omega
   subst hij'
   obtain ⟨wo,hwo⟩:∃ wo,wo=wr:=⟨_,rfl⟩
   subst hwo
   clear hlt
   go_wp2
   go_loopg [13] (i - 1 - a) (fun kx s13 wr=>∃ (q:Nat)(dk:Array α),s13 = .int .i64 q/\a<=q/\q<=i - 1/\i - 1 - q<=kx/\Hid (MoveA d dk a b q)/\Aside (SW enc w0 blk off dk wr))
   case atStart=>exact ⟨a,d,rfl,Nat.le_refl _,by omega,Nat.le_refl _,MoveA.start d a b,S1⟩
   case round=>
    obtain ⟨q,dk,rfl,haq,hqi,hkx2,HV,S2⟩:=hrel
    have hds:dk.size=d.size:=HV.out.perm.1
    by_cases hlt:q<i - 1
    ·have hltz:(q:Int)<(i:Int) - 1:=by omega
     have HV2:Hid (MoveA d (swp dk q (q+1)) a b (q+1)):=HV.out.next haq (by omega) hb
     have eq0:((q:Int)).toNat=q:=by omega
     have bq:(q:Int)<(d.size:Int):=by omega
     have rq:IntKind.i64.wrap (q:Int)=(q:Int):=by rw [IntKind.wrap_i64];omega
     have eq1:((q:Int)+1).toNat=q+1:=by omega
     have pq1:(0:Int)<=(q:Int)+1:=by omega
     have bq1:(q:Int)+1<(d.size:Int):=by omega
     have rq1:IntKind.i64.wrap ((q:Int)+1)=(q:Int)+1:=by rw [IntKind.wrap_i64];omega
     have S3:Aside (SW enc w0 blk off (swp dk q (q+1)) (((wr.setCell ⟨blk,off+q,none⟩ (enc dk[q+1]!)).setCell ⟨blk,off+(q+1),none⟩ (enc dk[q]!)).drew)):=S2.out.swapped R q (q+1) (by omega) (by omega)
     have q1:=S2.out.c1 R (by omega) q (by omega)
     have q2:=S2.out.c1 R (by omega) (q+1) (by omega)
     have q3:=S2.out.f1 R (by omega) q (by omega)
     have q4:=S2.out.f1 R (by omega) (q+1) (by omega)
     obtain ⟨u9,q5⟩:=S2.out.c2 R (by omega) q (q+1) (by omega) (by omega) (enc dk[q+1]!)
     have HD:Hid (dk.size=d.size):=hds
     generalize dk[q]! = x9 at S3 q1
     generalize dk[q+1]! = y9 at S3 q2 q5
     clear S2 HV hds S1
     go_wp2_with fail
     go_big_region_o
     clear q1 q2 q3 q4 q5
     generalize ((wr.setCell ⟨blk,off+q,none⟩ (enc y9)).setCell ⟨blk,off+(q+1),none⟩ (enc x9)).drew=w2 at S3 ⊢
     go_wp2
     go_roundg (i - 1 - (q+1))
     case measure=>omega
     case rel=>exact ⟨q+1,_,by go_num,by omega,by omega,Nat.le_refl _,HV2,S3⟩
    ·have hqe:q=i - 1:=by omega
     subst hqe
     have hltz:¬ ((i - 1:Nat):Int)<(i:Int) - 1:=by omega
     have hfin:SortedIn lt' a b dk:=by
      have F:=HF.out
      have H:=H2.out
      rw [HM.out] at F H
      exact HV.out.done hO F H (by have:=HM.out;omega) hjb
     have HFin:Hid _:=hfin
     clear hfin S1
     go_wp2
     go_end0
     exact ⟨rfl,dk,HV.out.perm,HFin.out,S2.out⟩


theorem symB (L:LayS P)(enc:α->Value)(cf:α->α->Int) (lt':α->α->Bool)(hO:SWO lt') (g:Nat)(cb:Array Value) (blk off cap a m b:Nat)(d0 d:Array α)(w0 w:World)
  (eg:∀ args w,(callFunc g args).run P w = .ok (.enter g args) w)(hcmp:CmpLays1 P g cb enc cf blk off d.size w0)
  (R:Row1 enc w0 blk off d0)(hs:d0.size=d.size)(S:SW enc w0 blk off d w)(ham:a<m)(hna:m ≠ a+1)(hbm:b=m+1)(hb:b<=d.size)(hsz:d.size<4611686018427387904)
  (h2:SortedIn lt' a m d)(hX:Cross cf lt' d a m b) :
  Calls P 219 #[.slice (some ⟨blk,off,none⟩) d.size cap,.int .i64 a,.int .i64 m,.int .i64 b,.func (.func g) #[] cb] w (Merged lt' enc w0 blk off d a b):=by
 have mixed:=L.mixed;have t0:=L.t0;have a0:=L.a0;have z0:=L.z0;have v0:=L.v0;have t3:=L.t3;have a3:=L.a3;have z3:=L.z3;have v3:=L.v3;have t4:=L.t4;have a4:=L.a4;have z4:=L.z4;have v4:=L.v4;have t22:=L.t22;have a22:=L.a22;have z22:=L.z22;have v22:=L.v22;have t40:=L.t40;have a40:=L.a40;have z40:=L.z40;have v40:=L.v40;have t45:=L.t45;have a45:=L.a45;have z45:=L.z45;have v45:=L.v45
 have u22:=run_underlying L.t22;have u3:=run_underlying L.t3;have u45:=run_underlying L.t45
 have aE:=L.aE;have zE:=L.zE
 have hcl0:=R.hO.cells
 simp only [Value.cells] at hcl0
 have hst:=R.hO.store P
 have FG:=L.f30
 have S0:Aside (SW enc w0 blk off d w):=S
 have HC:Hid _:=hcmp
 have H2:Hid _:=h2
 have HX:Hid _:=hX
 have hm1:((m:Int) - (a:Int) == 1)=false:=by simp;omega
 have hb1:((b:Int) - (m:Int) == 1)=true:=by simp;omega
 have HB:Hid (b=m+1):=hbm
 have hmb:m<b:=by omega
 have hmb1:b<=m+1:=by omega
 have HF0:Hid (FindB lt' d a m a m):=⟨fun t h1 h2=>by omega,fun t h1 h2=>by omega⟩
 clear S hcmp h2 hX hna hbm
 go_enter FG,Tryz.ntmps219
 go_wp2
 go_loopg [14,15,16] (m - a) (fun kx s10 s11 _ wr=>∃ i j:Nat,s10 = .int .i64 i/\s11 = .int .i64 j/\a<=i/\i<=j/\j<=m/\j - i<=kx/\Hid (FindB lt' d a m i j)/\Aside (SW enc w0 blk off d wr))
 case atStart=>exact ⟨a,m,rfl,rfl,Nat.le_refl _,by omega,Nat.le_refl _,Nat.le_refl _,HF0,S0⟩
 case round=>
  clear S0 HF0
  obtain ⟨i,j,rfl,rfl,hai,hij,hjm,hkx,HF,S1⟩:=hrel
  by_cases hlt:i<j
  ·have hltz:(i:Int)<(j:Int):=by omega
   go_wp2_with fail
   rw [show ((i:Int)+(j:Int)) / 2=(((i+j) / 2:Nat):Int) by omega]
   obtain ⟨h,hh⟩:∃ h,h=(i+j) / 2:=⟨_,rfl⟩
   rw [<- hh]
   have hih:i<=h:=by omega
   have hhj:h<j:=by omega
   clear hh
   have eh:((h:Int)).toNat=h:=by omega
   have bh:(h:Int)<(d.size:Int):=by omega
   have rh:IntKind.i64.wrap (h:Int)=(h:Int):=by rw [IntKind.wrap_i64];omega
   have ea:((m:Int)).toNat=m:=by omega
   have ba:(m:Int)<(d.size:Int):=by omega
   have ra:IntKind.i64.wrap (m:Int)=(m:Int):=by rw [IntKind.wrap_i64];omega
   have lh:=S1.out.cl R (by omega) h (by omega)
   have la:=S1.out.cl R (by omega) m (by omega)
   have hcg:=S1.out.cmp HC.out rfl d[m]! d[h]!
   have hx:=HX.out h m (by omega) (by omega) (Nat.le_refl _) hmb
   have HY:Hid (decide (cf d[m]! d[h]! < 0)=true->FindB lt' d a m i h):=fun hy=>HF.out.down hO H2.out (by omega) (by rw [<- hx];exact hy)
   have HN:Hid (decide (cf d[m]! d[h]! < 0)=false->FindB lt' d a m (h+1) j):=fun hy=>HF.out.up hO H2.out (by omega) (by omega) (by rw [<- hx];exact hy)
   have SG:Hid (∀ nq osq,SW enc w0 blk off d (grow (wr.drewN nq) osq)):=fun nq osq=>S1.out.grown nq osq
   clear hx S1 HF
   generalize hch:cf d[m]! d[h]! = ch at hcg HY HN
   clear hch
   generalize enc d[h]! = xh at lh hcg
   generalize enc d[m]! = xa at la hcg
   by_cases hlv:ch<0
   ·have HF2:Hid (FindB lt' d a m i h):=HY.out (decide_eq_true hlv)
    clear HY HN
    go_quiet_grown (first | (go_at_fn g;refine Calls.grown_of (hcg _ _)))
    go_wp2
    go_roundg (h - i)
    case measure=>omega
    case rel=>exact ⟨i,h,rfl,rfl,hai,by omega,by omega,Nat.le_refl _,HF2,SG.out nq osq⟩
   ·have HF2:Hid (FindB lt' d a m (h+1) j):=HN.out (decide_eq_false hlv)
    clear HY HN
    go_quiet_grown (first | (go_at_fn g;refine Calls.grown_of (hcg _ _)))
    go_wp2
    go_roundg (j - (h+1))
    case measure=>omega
    case rel=>exact ⟨h+1,j,by go_num,rfl,by omega,by omega,hjm,Nat.le_refl _,HF2,SG.out nq osq⟩
  ·have hij':i=j:=by omega
   subst hij'
   obtain ⟨wo,hwo⟩:∃ wo,wo=wr:=⟨_,rfl⟩
   subst hwo
   clear hlt
   go_wp2
   go_loopg [17] (m - i) (fun kx s17 wr=>∃ (q:Nat)(dk:Array α),s17 = .int .i64 q/\i<=q/\q<=m/\q - i<=kx/\Hid (MoveB d dk a m q)/\Aside (SW enc w0 blk off dk wr))
   case atStart=>exact ⟨m,d,rfl,by omega,Nat.le_refl _,Nat.le_refl _,MoveB.start d a m,S1⟩
   case round=>
    obtain ⟨q',dk,rfl,hiq,hqm,hkx2,HV,S2⟩:=hrel
    have hds:dk.size=d.size:=HV.out.perm.1
    by_cases hlt:i<q'
    ·obtain ⟨q,rfl⟩:∃ q,q' = q+1:=⟨q' - 1,by omega⟩
     have hltz:(i:Int)<(q:Int)+1:=by omega
     have HV2:Hid (MoveB d (swp dk (q+1) q) a m q):=HV.out.next (by omega) hqm (by omega)
     have eq0:((q:Int)).toNat=q:=by omega
     have bq:(q:Int)<(d.size:Int):=by omega
     have rq:IntKind.i64.wrap (q:Int)=(q:Int):=by rw [IntKind.wrap_i64];omega
     have eq1:((q:Int)+1).toNat=q+1:=by omega
     have pq1:(0:Int)<=(q:Int)+1:=by omega
     have bq1:(q:Int)+1<(d.size:Int):=by omega
     have rq1:IntKind.i64.wrap ((q:Int)+1)=(q:Int)+1:=by rw [IntKind.wrap_i64];omega
     have S3:Aside (SW enc w0 blk off (swp dk (q+1) q) (((wr.setCell ⟨blk,off+(q+1),none⟩ (enc dk[q]!)).setCell ⟨blk,off+q,none⟩ (enc dk[q+1]!)).drew)):=S2.out.swapped R (q+1) q (by omega) (by omega)
     have q1:=S2.out.c1 R (by omega) (q+1) (by omega)
     have q2:=S2.out.c1 R (by omega) q (by omega)
     have q3:=S2.out.f1 R (by omega) (q+1) (by omega)
     have q4:=S2.out.f1 R (by omega) q (by omega)
     obtain ⟨u9,q5⟩:=S2.out.c2 R (by omega) (q+1) q (by omega) (by omega) (enc dk[q]!)
     have HD:Hid (dk.size=d.size):=hds
     generalize dk[q+1]! = x9 at S3 q1
     generalize dk[q]! = y9 at S3 q2 q5
     clear S2 HV hds S1
     go_wp2_with fail
     go_big_region_o
     clear q1 q2 q3 q4 q5
     generalize ((wr.setCell ⟨blk,off+(q+1),none⟩ (enc y9)).setCell ⟨blk,off+q,none⟩ (enc x9)).drew=w2 at S3 ⊢
     go_wp2
     go_roundg (q - i)
     case measure=>omega
     case rel=>exact ⟨q,_,by first | rfl | go_num | (congr 1;omega),by omega,by omega,Nat.le_refl _,HV2,S3⟩
    ·have hqe:q' = i:=by omega
     subst hqe
     have hltz:¬ (q':Int)<(q':Int):=by omega
     have hfin:PermIn a b d dk/\SortedIn lt' a b dk:=by
      rw [HB.out]
      exact ⟨HV.out.perm,HV.out.done hO HF.out H2.out hai hqm⟩
     have HFin:Hid _:=hfin
     clear hfin S1
     go_wp2
     go_end0
     exact ⟨rfl,dk,HFin.out.1,HFin.out.2,S2.out⟩
end StI
section
open Go.Sort
variable {α:Type} [Inhabited α] {lt':α->α->Bool}
def CrossQ (Q:α->α->Prop)(d:Array α) (a m b:Nat):Prop:=∀ i j,a<=i->i<m->m<=j->j<b->Q d[j]! d[i]!
theorem BndC.ends {a m b mid s0 r0 s:Nat}(B:BndC a m b mid s0 r0)(h1:s0<=s)(h2:s<=r0):mid+m - s<=b/\s<=m/\s<=mid/\a<=s/\a<mid/\mid<b/\m<=mid+m - s/\s0<=r0:=by
 obtain ⟨h3,h4,h5,h6,h7⟩:=B
 by_cases c1:mid<m
 ·rw [if_pos c1] at h6 h7;omega
 ·rw [if_neg c1] at h6 h7;omega
theorem cut_low {d d1:Array α}{Q:α->α->Prop}{a m b mid s:Nat}(hs:s<=m)(hs2:s<=mid)(has:a<=s)(hme:m<=mid+m - s)(heb:mid+m - s<=b)(R:Rot d d1 s m (mid+m - s))
  (hS1:SortedIn lt' a m d)(hS2:SortedIn lt' m b d)(hX:CrossQ Q d a m b):SortedIn lt' a s d1/\SortedIn lt' s mid d1/\CrossQ Q d1 a s mid:=by
 have e1:∀ t,t<s->d1[t]! = d[t]!:=fun t h=>R.perm.2.1 t (.inl h)
 have e2:∀ t,s<=t->t<mid->d1[t]! = d[t+(m - s)]!:=fun t h h'=>by rw [R.get t h (by omega)];unfold rotF;rw [if_pos (by omega)]
 refine ⟨fun i j g1 g2 g3=>?_,fun i j g1 g2 g3=>?_,fun i j g1 g2 g3 g4=>?_⟩
 ·rw [e1 i (by omega),e1 j g3];exact hS1 i j g1 g2 (by omega)
 ·rw [e2 i g1 (by omega),e2 j (by omega) g3];exact hS2 _ _ (by omega) (by omega) (by omega)
 ·rw [e1 i g2,e2 j g3 g4];exact hX i _ g1 (by omega) (by omega) (by omega)
theorem cut_high {d d1 d2:Array α}{Q:α->α->Prop}{a m b mid s:Nat}(hs:s<=m)(hs2:s<=mid)(has:a<=s)(hme:m<=mid+m - s)(heb:mid+m - s<=b)(R:Rot d d1 s m (mid+m - s))
  (hS1:SortedIn lt' a m d)(hS2:SortedIn lt' m b d)(hX:CrossQ Q d a m b)(p:PermIn a mid d1 d2):SortedIn lt' mid (mid+m - s) d2/\SortedIn lt' (mid+m - s) b d2/\CrossQ Q d2 mid (mid+m - s) b:=by
 have e0:∀ t,mid<=t->d2[t]! = d1[t]!:=fun t h=>p.2.1 t (.inr h)
 have e1:∀ t,mid<=t->t<mid+m - s->d2[t]! = d[t - (mid+m - s - m)]!:=fun t h h'=>by rw [e0 t h,R.get t (by omega) h'];unfold rotF;rw [if_neg (by omega)]
 have e2:∀ t,mid+m - s<=t->d2[t]! = d[t]!:=fun t h=>by rw [e0 t (by omega)];exact R.perm.2.1 t (.inr h)
 refine ⟨fun i j g1 g2 g3=>?_,fun i j g1 g2 g3=>?_,fun i j g1 g2 g3 g4=>?_⟩
 ·rw [e1 i g1 (by omega),e1 j (by omega) g3];exact hS1 _ _ (by omega) (by omega) (by omega)
 ·rw [e2 i g1,e2 j (by omega)];exact hS2 i j (by omega) g2 g3
 ·rw [e1 i g1 g2,e2 j g3];exact hX _ j (by omega) (by omega) (by omega) g4
theorem sorted_glue0 {d:Array α}{a s:Nat}{b:Nat}(h:SortedIn lt' s b d)(e:s=a):SortedIn lt' a b d:=by rw [<- e];exact h
theorem sorted_glue1 {d:Array α}{a s:Nat}{b:Nat}(h:SortedIn lt' a s d)(e:s=b):SortedIn lt' a b d:=by rw [<- e];exact h
theorem cut_done (hO:SWO lt'){d d1 d2 d3:Array α}{a m b mid s0 r0 s:Nat}(B:BndC a m b mid s0 r0)(F:FindC lt' d s0 r0 (mid+m) s s)(hS1:SortedIn lt' a m d)(hS2:SortedIn lt' m b d)
  (h1:s0<=s)(h2:s<=r0)(hb:b<=d.size)(R:Rot d d1 s m (mid+m - s))(p2:PermIn a mid d1 d2)(s2:SortedIn lt' a mid d2)(p3:PermIn mid b d2 d3)(s3:SortedIn lt' mid b d3) :
  PermIn a b d d3/\SortedIn lt' a b d3:=by
 obtain ⟨x1,x2,x3,x4,x5,x6,x7,x8⟩:=B.ends h1 h2
 have h:=halves_sorted (by omega) (by omega) (by rw [R.size];exact hb) (cut_cross hO B F hS1 hS2 h1 h2 R) p2 s2 p3 s3
 exact ⟨permIn_trans _ _ _ _ _ (permIn_mono _ _ _ _ _ _ x4 x1 hb R.perm) h.1,h.2⟩
theorem FindC.start (d:Array α) (s0 r0 n:Nat):FindC lt' d s0 r0 n s0 r0:=⟨fun c h1 h2=>by omega,fun c h1 h2=>by omega⟩
end
end Go.Proofs.YtccccbofcnmdiaaGreat
