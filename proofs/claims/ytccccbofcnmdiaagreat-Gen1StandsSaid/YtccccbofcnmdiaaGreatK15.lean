/- Lemmas that the law stands on. No condition. -/
import Derived.Test.YtccccbofcnmdiaaGreatK14
namespace Go.Proofs.YtccccbofcnmdiaaGreat
set_option linter.unusedSimpArgs false
set_option linter.unusedVariables false
set_option maxRecDepth 100000
set_option maxHeartbeats 51200000
namespace StI
open Go.Shelf Go.RowKit Go.Lib Go.Sort Go.Proofs
variable {P:Program}{α:Type} [Inhabited α]
def SymRec (P:Program)(enc:α->Value)(cf:α->α->Int) (lt':α->α->Bool) (g:Nat)(cb:Array Value) (blk off cap size:Nat)(w0:World) (N:Nat):Prop:=
 ∀ (a' m' b':Nat) (d':Array α) (w':World),b' - a' < N->d'.size=size->SW enc w0 blk off d' w' -> a' < m' -> m' < b' -> b' <= size->SortedIn lt' a' m' d' -> SortedIn lt' m' b' d' -> Cross cf lt' d' a' m' b' ->
  Calls P 219 #[.slice (some ⟨blk,off,none⟩) size cap,.int .i64 a',.int .i64 m',.int .i64 b',.func (.func g) #[] cb] w' (Merged lt' enc w0 blk off d' a' b')


theorem symC1 (L:LayS P)(enc:α->Value)(cf:α->α->Int) (lt':α->α->Bool)(hO:SWO lt') (g:Nat)(cb:Array Value) (blk off cap a m b:Nat)(d0 d:Array α)(w0 w:World)
  (eg:∀ args w,(callFunc g args).run P w = .ok (.enter g args) w)(hcmp:CmpLays1 P g cb enc cf blk off d.size w0)
  (R:Row1 enc w0 blk off d0)(hs:d0.size=d.size)(S:SW enc w0 blk off d w)(ham:a<m)(hna:m ≠ a+1)(hmb:m<b)(hnb:b ≠ m+1)(hb:b<=d.size)(hsz:d.size<4611686018427387904)
  (h1:SortedIn lt' a m d)(h2:SortedIn lt' m b d)(hX:Cross cf lt' d a m b)(hmm0:(a+b) / 2<m)(hrec0:SymRec P enc cf lt' g cb blk off cap d.size w0 (b - a)) :
  Calls P 219 #[.slice (some ⟨blk,off,none⟩) d.size cap,.int .i64 a,.int .i64 m,.int .i64 b,.func (.func g) #[] cb] w (Merged lt' enc w0 blk off d a b):=by
 have mixed:=L.mixed;have t0:=L.t0;have a0:=L.a0;have z0:=L.z0;have v0:=L.v0;have t3:=L.t3;have a3:=L.a3;have z3:=L.z3;have v3:=L.v3;have t4:=L.t4;have a4:=L.a4;have z4:=L.z4;have v4:=L.v4;have t22:=L.t22;have a22:=L.a22;have z22:=L.z22;have v22:=L.v22;have t40:=L.t40;have a40:=L.a40;have z40:=L.z40;have v40:=L.v40;have t45:=L.t45;have a45:=L.a45;have z45:=L.z45;have v45:=L.v45
 have u22:=run_underlying L.t22;have u3:=run_underlying L.t3;have u45:=run_underlying L.t45
 have aE:=L.aE;have zE:=L.zE
 have hcl0:=R.hO.cells
 simp only [Value.cells] at hcl0
 have hst:=R.hO.store P
 have e30:∀ args w,(callFunc 219 args).run P w = .ok (.enter 219 args) w:=enters_of L.f30 (by kernel_rfl) rfl
 have e32:∀ args w,(callFunc 224 args).run P w = .ok (.enter 224 args) w:=enters_of L.f32 (by kernel_rfl) rfl
 have FG:=L.f30
 have S0:Aside (SW enc w0 blk off d w):=S
 have HC:=Lib.hid hcmp
 have H1:=Lib.hid h1
 have H2:=Lib.hid h2
 have HX:Hid (CrossQ (fun y x=>decide (cf y x<0)=lt' y x) d a m b):=hX
 have hrec:Hid (SymRec P enc cf lt' g cb blk off cap d.size w0 (b - a)):=hrec0
 have hm1:((m:Int) - (a:Int) == 1)=false:=by simp;omega
 have hb1:((b:Int) - (m:Int) == 1)=false:=by simp;omega
 obtain ⟨mid,hmid⟩:∃ mid,mid=(a+b) / 2:=⟨_,rfl⟩
 obtain ⟨s0,hs0⟩:∃ s0,s0=if mid<m then mid+m - b else a:=⟨_,rfl⟩
 obtain ⟨r0,hr0⟩:∃ r0,r0=if mid<m then mid else m:=⟨_,rfl⟩
 have hmm:mid<m:=by omega
 have HBnd:Hid (BndC a m b mid s0 r0):=⟨ham,hmb,hmid,hs0,hr0⟩
 have hmd1:2 * mid<=a+b:=by omega
 have hmd2:a+b<2 * mid+2:=by omega
 have hsr0:s0<=r0:=by
  by_cases c:mid<m
  ·rw [if_pos c] at hs0 hr0;omega
  ·rw [if_neg c] at hs0 hr0;omega
 have hs0':(mid<m->(s0:Int)=(mid:Int)+m - b)/\(¬ mid<m->s0=a):=⟨fun c=>by rw [if_pos c] at hs0;omega,fun c=>by rw [if_neg c] at hs0;exact hs0⟩
 have hr0':(mid<m->r0=mid)/\(¬ mid<m->r0=m):=⟨fun c=>by rw [if_pos c] at hr0;exact hr0,fun c=>by rw [if_neg c] at hr0;exact hr0⟩
 have HS0:=Lib.hid hs0'
 have HR0:=Lib.hid hr0'
 have HF0:Hid (FindC lt' d s0 r0 (mid+m) s0 r0):=FindC.start d s0 r0 (mid+m)
 have hr0b:r0<=b:=by
  rcases Nat.lt_or_ge mid m with c | c
  ·rw [hr0'.1 c];omega
  ·rw [hr0'.2 (by omega)];omega
 clear S hcmp h1 h2 hX hrec0 hna hnb hmid hs0 hr0 hs0' hr0'
 have hmz:((a:Int)+(b:Int)) / 2<(m:Int):=by omega
 have e20:Value.int .i64 ((mid:Int)+(m:Int) - (b:Int)) = .int .i64 s0:=congrArg (Value.int .i64) (HS0.out.1 hmm).symm
 have e21:Value.int .i64 (mid:Int) = .int .i64 r0:=congrArg (Value.int .i64) (by rw [HR0.out.1 hmm])
 have HE20:=Lib.hid e20
 have HE21:=Lib.hid e21
 clear e20 e21
 go_enter FG,Tryz.ntmps219
 go_wp2_with fail
 rw [show ((a:Int)+(b:Int)) / 2=(mid:Int) by omega]
 go_loopg [20,21,23] (r0 - s0) (fun kx s20 s21 _ wr=>∃ i j:Nat,s20 = .int .i64 i/\s21 = .int .i64 j/\s0<=i/\i<=j/\j<=r0/\j - i<=kx/\Hid (FindC lt' d s0 r0 (mid+m) i j)/\Aside (SW enc w0 blk off d wr))
 case atStart=>exact ⟨s0,r0,HE20.out,HE21.out,Nat.le_refl _,hsr0,Nat.le_refl _,Nat.le_refl _,HF0,S0⟩
 case round=>
  clear S0 HF0 HE20 HE21
  obtain ⟨i,j,rfl,rfl,hsi,hij,hjr,hkx,HF,S1⟩:=hrel
  by_cases hlt:i<j
  ·have hltz:(i:Int)<(j:Int):=by omega
   go_wp2_with fail
   rw [show ((i:Int)+(j:Int)) / 2=(((i+j) / 2:Nat):Int) by omega]
   obtain ⟨h,hh⟩:∃ h,h=(i+j) / 2:=⟨_,rfl⟩
   rw [<- hh]
   have hih:i<=h:=by omega
   have hhj:h<j:=by omega
   clear hh
   obtain ⟨b1,b2,b3,b4,b5⟩:=HBnd.out.of (show s0<=h by omega) (show h<r0 by omega)
   obtain ⟨u,hu⟩:∃ u,u=mid+m - 1 - h:=⟨_,rfl⟩
   have HU:Hid (u=mid+m - 1 - h):=hu
   have eu:((mid:Int)+(m:Int) - 1 - (h:Int)).toNat=u:=by omega
   have pu:(0:Int)<=(mid:Int)+(m:Int) - 1 - (h:Int):=by omega
   have bu:(mid:Int)+(m:Int) - 1 - (h:Int)<(d.size:Int):=by omega
   have qu:(h:Int)<=(mid:Int)+(m:Int) - 1:=by omega
   have ru:IntKind.i64.wrap ((mid:Int)+(m:Int) - 1 - (h:Int))=(mid:Int)+(m:Int) - 1 - (h:Int):=by rw [IntKind.wrap_i64];omega
   have eh:((h:Int)).toNat=h:=by omega
   have bh:(h:Int)<(d.size:Int):=by omega
   have rh:IntKind.i64.wrap (h:Int)=(h:Int):=by rw [IntKind.wrap_i64];omega
   have lu:=S1.out.cl R (by omega) u (by omega)
   have lh:=S1.out.cl R (by omega) h (by omega)
   have hcg:=S1.out.cmp HC.out rfl d[u]! d[h]!
   have hx:=HX.out h u b1 b2 (by omega) (by omega)
   have HY:Hid (decide (cf d[u]! d[h]! < 0)=true->FindC lt' d s0 r0 (mid+m) i h):=fun hy=>HF.out.down hO HBnd.out H1.out H2.out (by omega) (by omega) (by rw [<- HU.out,<- hx];exact hy)
   have HN:Hid (decide (cf d[u]! d[h]! < 0)=false->FindC lt' d s0 r0 (mid+m) (h+1) j):=fun hy=>HF.out.up hO HBnd.out H1.out H2.out (by omega) (by omega) (by rw [<- HU.out,<- hx];exact hy)
   have SG:Hid (∀ nq osq,SW enc w0 blk off d (grow (wr.drewN nq) osq)):=fun nq osq=>S1.out.grown nq osq
   clear hx S1 HF hu
   generalize hch:cf d[u]! d[h]! = ch at hcg HY HN
   clear hch
   generalize enc d[u]! = xu at lu hcg
   generalize enc d[h]! = xh at lh hcg
   by_cases hlv:ch<0
   ·have HF2:Hid (FindC lt' d s0 r0 (mid+m) i h):=HY.out (decide_eq_true hlv)
    clear HY HN
    go_quiet_grown (first | (go_at_fn g;refine Calls.grown_of (hcg _ _)))
    go_wp2
    go_roundg (h - i)
    case measure=>omega
    case rel=>exact ⟨i,h,rfl,rfl,hsi,by omega,by omega,Nat.le_refl _,HF2,SG.out nq osq⟩
   ·have HF2:Hid (FindC lt' d s0 r0 (mid+m) (h+1) j):=HN.out (decide_eq_false hlv)
    clear HY HN
    go_quiet_grown (first | (go_at_fn g;refine Calls.grown_of (hcg _ _)))
    go_wp2
    go_roundg (j - (h+1))
    case measure=>omega
    case rel=>exact ⟨h+1,j,by go_num,rfl,by omega,by omega,hjr,Nat.le_refl _,HF2,SG.out nq osq⟩
  ·have hij':i=j:=by omega
   subst hij'
   obtain ⟨s,hsi'⟩:∃ s,s=i:=⟨_,rfl⟩
   subst hsi'
   have h0s:s0<=s:=hsi
   have hsr:s<=r0:=hjr
   obtain ⟨x1,x2,x3,x4,x5,x6,x7,x8⟩:=HBnd.out.ends h0s hsr
   have ce:((mid+m - s:Nat):Int)=(mid:Int)+(m:Int) - (s:Int):=by omega
   clear hlt hij hkx hsi hjr
   by_cases hsm:s<m
   ·by_cases hsd:s<mid
    ·by_cases has:a<s
     ·by_cases hse:mid+m - s<b
      ·have z1:(s:Int)<(m:Int):=by omega
       have z2:(m:Int)<(mid:Int)+(m:Int) - (s:Int):=by omega
       have z3:(a:Int)<(s:Int):=by omega
       have z4:(s:Int)<(mid:Int):=by omega
       have z5:(mid:Int)<(mid:Int)+(m:Int) - (s:Int):=by omega
       have z6:(mid:Int)+(m:Int) - (s:Int)<(b:Int):=by omega
       have hrot:=rotate_any L enc g cb blk off cap s m (mid+m - s) d0 d w0 wr R hs S1.out (by omega) (by omega) (by omega) hsz
       rw [ce] at hrot
       have HRot:=Lib.hid hrot;clear hrot
       go_wp2_with (go_at_fn 224;refine HRot.out.mono ?_;rintro e wa ⟨rfl,d1,R1,Sa⟩)
       have hlow:=cut_low x2 x3 x4 x7 x1 R1 H1.out H2.out HX.out
       have HLow:=Lib.hid hlow;clear hlow
       have HR1:=Lib.hid R1;clear R1
       have HSa:=Lib.hid Sa;clear Sa
       have hcl:=hrec.out a s mid d1 _ (by omega) HR1.out.size HSa.out (by omega) (by omega) (by omega) HLow.out.1 HLow.out.2.1 HLow.out.2.2
       have HCL:=Lib.hid hcl;clear hcl
       go_wp2_with (go_at_fn 219;refine HCL.out.mono ?_;rintro e wb ⟨rfl,d2,P2,O2,Sb⟩)
       have hhigh:=cut_high x2 x3 x4 x7 x1 HR1.out H1.out H2.out HX.out P2
       have HHigh:=Lib.hid hhigh;clear hhigh
       have HP2:=Lib.hid P2;clear P2
       have HO2:=Lib.hid O2;clear O2
       have HSb:=Lib.hid Sb;clear Sb
       have hch:=hrec.out mid (mid+m - s) b d2 _ (by omega) (HP2.out.1.trans HR1.out.size) HSb.out (by omega) (by omega) (by omega) HHigh.out.1 HHigh.out.2.1 HHigh.out.2.2
       rw [ce] at hch
       have HCH:=Lib.hid hch;clear hch
       go_wp2_with (go_at_fn 219;refine HCH.out.mono ?_;rintro e wc ⟨rfl,d3,P3,O3,Sc⟩)
       go_end0
       have hfin:=cut_done hO HBnd.out HF.out H1.out H2.out h0s hsr hb HR1.out HP2.out HO2.out P3 O3
       exact ⟨rfl,d3,hfin.1,hfin.2,Sc⟩
      ·have z1:(s:Int)<(m:Int):=by omega
       have z2:(m:Int)<(mid:Int)+(m:Int) - (s:Int):=by omega
       have z3:(a:Int)<(s:Int):=by omega
       have z4:(s:Int)<(mid:Int):=by omega
       have z5:(mid:Int)<(mid:Int)+(m:Int) - (s:Int):=by omega
       have z6:¬ (mid:Int)+(m:Int) - (s:Int)<(b:Int):=by omega
       have hrot:=rotate_any L enc g cb blk off cap s m (mid+m - s) d0 d w0 wr R hs S1.out (by omega) (by omega) (by omega) hsz
       rw [ce] at hrot
       have HRot:=Lib.hid hrot;clear hrot
       go_wp2_with (go_at_fn 224;refine HRot.out.mono ?_;rintro e wa ⟨rfl,d1,R1,Sa⟩)
       have hlow:=cut_low x2 x3 x4 x7 x1 R1 H1.out H2.out HX.out
       have HLow:=Lib.hid hlow;clear hlow
       have HR1:=Lib.hid R1;clear R1
       have HSa:=Lib.hid Sa;clear Sa
       have hcl:=hrec.out a s mid d1 _ (by omega) HR1.out.size HSa.out (by omega) (by omega) (by omega) HLow.out.1 HLow.out.2.1 HLow.out.2.2
       have HCL:=Lib.hid hcl;clear hcl
       go_wp2_with (go_at_fn 219;refine HCL.out.mono ?_;rintro e wb ⟨rfl,d2,P2,O2,Sb⟩)
       have hhigh:=cut_high x2 x3 x4 x7 x1 HR1.out H1.out H2.out HX.out P2
       have HHigh:=Lib.hid hhigh;clear hhigh
       have HP2:=Lib.hid P2;clear P2
       have HO2:=Lib.hid O2;clear O2
       have HSb:=Lib.hid Sb;clear Sb
       obtain ⟨d3,hd3⟩:∃ d3,d3=d2:=⟨_,rfl⟩
       have P3:PermIn mid b d2 d3:=by rw [hd3];exact permIn_refl _ _ _
       have O3:SortedIn lt' mid b d3:=by rw [hd3];first | exact sorted_glue0 HHigh.out.2.1 (by omega) | exact sorted_glue1 HHigh.out.1 (by omega)
       have Sc:=HSb.out;rw [<- hd3] at Sc
       clear hd3
       go_wp2
       go_end0
       have hfin:=cut_done hO HBnd.out HF.out H1.out H2.out h0s hsr hb HR1.out HP2.out HO2.out P3 O3
       exact ⟨rfl,d3,hfin.1,hfin.2,Sc⟩
     ·by_cases hse:mid+m - s<b
      ·have z1:(s:Int)<(m:Int):=by omega
       have z2:(m:Int)<(mid:Int)+(m:Int) - (s:Int):=by omega
       have z3:¬ (a:Int)<(s:Int):=by omega
       have z5:(mid:Int)<(mid:Int)+(m:Int) - (s:Int):=by omega
       have z6:(mid:Int)+(m:Int) - (s:Int)<(b:Int):=by omega
       have hrot:=rotate_any L enc g cb blk off cap s m (mid+m - s) d0 d w0 wr R hs S1.out (by omega) (by omega) (by omega) hsz
       rw [ce] at hrot
       have HRot:=Lib.hid hrot;clear hrot
       go_wp2_with (go_at_fn 224;refine HRot.out.mono ?_;rintro e wa ⟨rfl,d1,R1,Sa⟩)
       have hlow:=cut_low x2 x3 x4 x7 x1 R1 H1.out H2.out HX.out
       have HLow:=Lib.hid hlow;clear hlow
       have HR1:=Lib.hid R1;clear R1
       have HSa:=Lib.hid Sa;clear Sa
       obtain ⟨d2,hd2⟩:∃ d2,d2=d1:=⟨_,rfl⟩
       have P2:PermIn a mid d1 d2:=by rw [hd2];exact permIn_refl _ _ _
       have O2:SortedIn lt' a mid d2:=by rw [hd2];first | exact sorted_glue0 HLow.out.2.1 (by omega) | exact sorted_glue1 HLow.out.1 (by omega)
       have Sb:=HSa.out;rw [<- hd2] at Sb
       clear hd2
       have hhigh:=cut_high x2 x3 x4 x7 x1 HR1.out H1.out H2.out HX.out P2
       have HHigh:=Lib.hid hhigh;clear hhigh
       have HP2:=Lib.hid P2;clear P2
       have HO2:=Lib.hid O2;clear O2
       have HSb:=Lib.hid Sb;clear Sb
       have hch:=hrec.out mid (mid+m - s) b d2 _ (by omega) (HP2.out.1.trans HR1.out.size) HSb.out (by omega) (by omega) (by omega) HHigh.out.1 HHigh.out.2.1 HHigh.out.2.2
       rw [ce] at hch
       have HCH:=Lib.hid hch;clear hch
       go_wp2_with (go_at_fn 219;refine HCH.out.mono ?_;rintro e wc ⟨rfl,d3,P3,O3,Sc⟩)
       go_end0
       have hfin:=cut_done hO HBnd.out HF.out H1.out H2.out h0s hsr hb HR1.out HP2.out HO2.out P3 O3
       exact ⟨rfl,d3,hfin.1,hfin.2,Sc⟩
      ·have z1:(s:Int)<(m:Int):=by omega
       have z2:(m:Int)<(mid:Int)+(m:Int) - (s:Int):=by omega
       have z3:¬ (a:Int)<(s:Int):=by omega
       have z5:(mid:Int)<(mid:Int)+(m:Int) - (s:Int):=by omega
       have z6:¬ (mid:Int)+(m:Int) - (s:Int)<(b:Int):=by omega
       have hrot:=rotate_any L enc g cb blk off cap s m (mid+m - s) d0 d w0 wr R hs S1.out (by omega) (by omega) (by omega) hsz
       rw [ce] at hrot
       have HRot:=Lib.hid hrot;clear hrot
       go_wp2_with (go_at_fn 224;refine HRot.out.mono ?_;rintro e wa ⟨rfl,d1,R1,Sa⟩)
       have hlow:=cut_low x2 x3 x4 x7 x1 R1 H1.out H2.out HX.out
       have HLow:=Lib.hid hlow;clear hlow
       have HR1:=Lib.hid R1;clear R1
       have HSa:=Lib.hid Sa;clear Sa
       obtain ⟨d2,hd2⟩:∃ d2,d2=d1:=⟨_,rfl⟩
       have P2:PermIn a mid d1 d2:=by rw [hd2];exact permIn_refl _ _ _
       have O2:SortedIn lt' a mid d2:=by rw [hd2];first | exact sorted_glue0 HLow.out.2.1 (by omega) | exact sorted_glue1 HLow.out.1 (by omega)
       have Sb:=HSa.out;rw [<- hd2] at Sb
       clear hd2
       have hhigh:=cut_high x2 x3 x4 x7 x1 HR1.out H1.out H2.out HX.out P2
       have HHigh:=Lib.hid hhigh;clear hhigh
       have HP2:=Lib.hid P2;clear P2
       have HO2:=Lib.hid O2;clear O2
       have HSb:=Lib.hid Sb;clear Sb
       obtain ⟨d3,hd3⟩:∃ d3,d3=d2:=⟨_,rfl⟩
       have P3:PermIn mid b d2 d3:=by rw [hd3];exact permIn_refl _ _ _
       have O3:SortedIn lt' mid b d3:=by rw [hd3];first | exact sorted_glue0 HHigh.out.2.1 (by omega) | exact sorted_glue1 HHigh.out.1 (by omega)
       have Sc:=HSb.out;rw [<- hd3] at Sc
       clear hd3
       go_wp2
       go_end0
       have hfin:=cut_done hO HBnd.out HF.out H1.out H2.out h0s hsr hb HR1.out HP2.out HO2.out P3 O3
       exact ⟨rfl,d3,hfin.1,hfin.2,Sc⟩
    ·have z1:(s:Int)<(m:Int):=by omega
     have z2:¬ (m:Int)<(mid:Int)+(m:Int) - (s:Int):=by omega
     have z3:(a:Int)<(s:Int):=by omega
     have z4:¬ (s:Int)<(mid:Int):=by omega
     have z5:(mid:Int)<(mid:Int)+(m:Int) - (s:Int):=by omega
     have z6:(mid:Int)+(m:Int) - (s:Int)<(b:Int):=by omega
     obtain ⟨d1,hd1⟩:∃ d1,d1=d:=⟨_,rfl⟩
     have R1:Rot d d1 s m (mid+m - s):=by rw [hd1];exact Rot.none d s m (mid+m - s) (by omega) (by omega) (by omega)
     have Sa:SW enc w0 blk off d1 wr:=by rw [hd1];exact S1.out
     clear hd1
     have hlow:=cut_low x2 x3 x4 x7 x1 R1 H1.out H2.out HX.out
     have HLow:=Lib.hid hlow;clear hlow
     have HR1:=Lib.hid R1;clear R1
     have HSa:=Lib.hid Sa;clear Sa
     obtain ⟨d2,hd2⟩:∃ d2,d2=d1:=⟨_,rfl⟩
     have P2:PermIn a mid d1 d2:=by rw [hd2];exact permIn_refl _ _ _
     have O2:SortedIn lt' a mid d2:=by rw [hd2];first | exact sorted_glue0 HLow.out.2.1 (by omega) | exact sorted_glue1 HLow.out.1 (by omega)
     have Sb:=HSa.out;rw [<- hd2] at Sb
     clear hd2
     have hhigh:=cut_high x2 x3 x4 x7 x1 HR1.out H1.out H2.out HX.out P2
     have HHigh:=Lib.hid hhigh;clear hhigh
     have HP2:=Lib.hid P2;clear P2
     have HO2:=Lib.hid O2;clear O2
     have HSb:=Lib.hid Sb;clear Sb
     have hch:=hrec.out mid (mid+m - s) b d2 _ (by omega) (HP2.out.1.trans HR1.out.size) HSb.out (by omega) (by omega) (by omega) HHigh.out.1 HHigh.out.2.1 HHigh.out.2.2
     rw [ce] at hch
     have HCH:=Lib.hid hch;clear hch
     go_wp2_with (go_at_fn 219;refine HCH.out.mono ?_;rintro e wc ⟨rfl,d3,P3,O3,Sc⟩)
     go_end0
     have hfin:=cut_done hO HBnd.out HF.out H1.out H2.out h0s hsr hb HR1.out HP2.out HO2.out P3 O3
     exact ⟨rfl,d3,hfin.1,hfin.2,Sc⟩
   ·exfalso;omega
end StI
namespace StI
open Go.Shelf Go.RowKit Go.Lib Go.Sort Go.Proofs
variable {P:Program}{α:Type} [Inhabited α]
def SymRec' (P:Program)(enc:α->Value)(cf:α->α->Int) (lt':α->α->Bool) (g:Nat)(cb:Array Value) (blk off cap size:Nat)(w0:World) (N:Nat):Prop:=
 ∀ (a' m' b':Nat) (d':Array α) (w':World),b' - a' < N->d'.size=size->SW enc w0 blk off d' w' -> a' < m' -> m' < b' -> b' <= size->SortedIn lt' a' m' d' -> SortedIn lt' m' b' d' -> Cross cf lt' d' a' m' b' ->
  Calls P 219 #[.slice (some ⟨blk,off,none⟩) size cap,.int .i64 a',.int .i64 m',.int .i64 b',.func (.func g) #[] cb] w' (Merged lt' enc w0 blk off d' a' b')


theorem symC2 (L:LayS P)(enc:α->Value)(cf:α->α->Int) (lt':α->α->Bool)(hO:SWO lt') (g:Nat)(cb:Array Value) (blk off cap a m b:Nat)(d0 d:Array α)(w0 w:World)
  (eg:∀ args w,(callFunc g args).run P w = .ok (.enter g args) w)(hcmp:CmpLays1 P g cb enc cf blk off d.size w0)
  (R:Row1 enc w0 blk off d0)(hs:d0.size=d.size)(S:SW enc w0 blk off d w)(ham:a<m)(hna:m ≠ a+1)(hmb:m<b)(hnb:b ≠ m+1)(hb:b<=d.size)(hsz:d.size<4611686018427387904)
  (h1:SortedIn lt' a m d)(h2:SortedIn lt' m b d)(hX:Cross cf lt' d a m b)(hmm0:¬ (a+b) / 2<m)(hrec0:SymRec' P enc cf lt' g cb blk off cap d.size w0 (b - a)) :
  Calls P 219 #[.slice (some ⟨blk,off,none⟩) d.size cap,.int .i64 a,.int .i64 m,.int .i64 b,.func (.func g) #[] cb] w (Merged lt' enc w0 blk off d a b):=by
 have mixed:=L.mixed;have t0:=L.t0;have a0:=L.a0;have z0:=L.z0;have v0:=L.v0;have t3:=L.t3;have a3:=L.a3;have z3:=L.z3;have v3:=L.v3;have t4:=L.t4;have a4:=L.a4;have z4:=L.z4;have v4:=L.v4;have t22:=L.t22;have a22:=L.a22;have z22:=L.z22;have v22:=L.v22;have t40:=L.t40;have a40:=L.a40;have z40:=L.z40;have v40:=L.v40;have t45:=L.t45;have a45:=L.a45;have z45:=L.z45;have v45:=L.v45
 have u22:=run_underlying L.t22;have u3:=run_underlying L.t3;have u45:=run_underlying L.t45
 have aE:=L.aE;have zE:=L.zE
 have hcl0:=R.hO.cells
 simp only [Value.cells] at hcl0
 have hst:=R.hO.store P
 have e30:∀ args w,(callFunc 219 args).run P w = .ok (.enter 219 args) w:=enters_of L.f30 (by kernel_rfl) rfl
 have e32:∀ args w,(callFunc 224 args).run P w = .ok (.enter 224 args) w:=enters_of L.f32 (by kernel_rfl) rfl
 have FG:=L.f30
 have S0:Aside (SW enc w0 blk off d w):=S
 have HC:=Lib.hid hcmp
 have H1:=Lib.hid h1
 have H2:=Lib.hid h2
 have HX:Hid (CrossQ (fun y x=>decide (cf y x<0)=lt' y x) d a m b):=hX
 have hrec:Hid (SymRec' P enc cf lt' g cb blk off cap d.size w0 (b - a)):=hrec0
 have hm1:((m:Int) - (a:Int) == 1)=false:=by simp;omega
 have hb1:((b:Int) - (m:Int) == 1)=false:=by simp;omega
 obtain ⟨mid,hmid⟩:∃ mid,mid=(a+b) / 2:=⟨_,rfl⟩
 obtain ⟨s0,hs0⟩:∃ s0,s0=if mid<m then mid+m - b else a:=⟨_,rfl⟩
 obtain ⟨r0,hr0⟩:∃ r0,r0=if mid<m then mid else m:=⟨_,rfl⟩
 have hmm:¬ mid<m:=by omega
 have HBnd:Hid (BndC a m b mid s0 r0):=⟨ham,hmb,hmid,hs0,hr0⟩
 have hmd1:2 * mid<=a+b:=by omega
 have hmd2:a+b<2 * mid+2:=by omega
 have hsr0:s0<=r0:=by
  by_cases c:mid<m
  ·rw [if_pos c] at hs0 hr0;omega
  ·rw [if_neg c] at hs0 hr0;omega
 have hs0':(mid<m->(s0:Int)=(mid:Int)+m - b)/\(¬ mid<m->s0=a):=⟨fun c=>by rw [if_pos c] at hs0;omega,fun c=>by rw [if_neg c] at hs0;exact hs0⟩
 have hr0':(mid<m->r0=mid)/\(¬ mid<m->r0=m):=⟨fun c=>by rw [if_pos c] at hr0;exact hr0,fun c=>by rw [if_neg c] at hr0;exact hr0⟩
 have HS0:=Lib.hid hs0'
 have HR0:=Lib.hid hr0'
 have HF0:Hid (FindC lt' d s0 r0 (mid+m) s0 r0):=FindC.start d s0 r0 (mid+m)
 have hr0b:r0<=b:=by
  rcases Nat.lt_or_ge mid m with c | c
  ·rw [hr0'.1 c];omega
  ·rw [hr0'.2 (by omega)];omega
 clear S hcmp h1 h2 hX hrec0 hna hnb hmid hs0 hr0 hs0' hr0'
 have hmz:¬ ((a:Int)+(b:Int)) / 2<(m:Int):=by omega
 have e20:Value.int .i64 (a:Int) = .int .i64 s0:=congrArg (Value.int .i64) (by rw [HS0.out.2 hmm])
 have e21:Value.int .i64 (m:Int) = .int .i64 r0:=congrArg (Value.int .i64) (by rw [HR0.out.2 hmm])
 have HE20:=Lib.hid e20
 have HE21:=Lib.hid e21
 clear e20 e21
 go_enter FG,Tryz.ntmps219
 go_wp2_with fail
 rw [show ((a:Int)+(b:Int)) / 2=(mid:Int) by omega]
 go_loopg [20,21,23] (r0 - s0) (fun kx s20 s21 _ wr=>∃ i j:Nat,s20 = .int .i64 i/\s21 = .int .i64 j/\s0<=i/\i<=j/\j<=r0/\j - i<=kx/\Hid (FindC lt' d s0 r0 (mid+m) i j)/\Aside (SW enc w0 blk off d wr))
 case atStart=>exact ⟨s0,r0,HE20.out,HE21.out,Nat.le_refl _,hsr0,Nat.le_refl _,Nat.le_refl _,HF0,S0⟩
 case round=>
  clear S0 HF0 HE20 HE21
  obtain ⟨i,j,rfl,rfl,hsi,hij,hjr,hkx,HF,S1⟩:=hrel
  by_cases hlt:i<j
  ·have hltz:(i:Int)<(j:Int):=by omega
   go_wp2_with fail
   rw [show ((i:Int)+(j:Int)) / 2=(((i+j) / 2:Nat):Int) by omega]
   obtain ⟨h,hh⟩:∃ h,h=(i+j) / 2:=⟨_,rfl⟩
   rw [<- hh]
   have hih:i<=h:=by omega
   have hhj:h<j:=by omega
   clear hh
   obtain ⟨b1,b2,b3,b4,b5⟩:=HBnd.out.of (show s0<=h by omega) (show h<r0 by omega)
   obtain ⟨u,hu⟩:∃ u,u=mid+m - 1 - h:=⟨_,rfl⟩
   have HU:Hid (u=mid+m - 1 - h):=hu
   have eu:((mid:Int)+(m:Int) - 1 - (h:Int)).toNat=u:=by omega
   have pu:(0:Int)<=(mid:Int)+(m:Int) - 1 - (h:Int):=by omega
   have bu:(mid:Int)+(m:Int) - 1 - (h:Int)<(d.size:Int):=by omega
   have qu:(h:Int)<=(mid:Int)+(m:Int) - 1:=by omega
   have ru:IntKind.i64.wrap ((mid:Int)+(m:Int) - 1 - (h:Int))=(mid:Int)+(m:Int) - 1 - (h:Int):=by rw [IntKind.wrap_i64];omega
   have eh:((h:Int)).toNat=h:=by omega
   have bh:(h:Int)<(d.size:Int):=by omega
   have rh:IntKind.i64.wrap (h:Int)=(h:Int):=by rw [IntKind.wrap_i64];omega
   have lu:=S1.out.cl R (by omega) u (by omega)
   have lh:=S1.out.cl R (by omega) h (by omega)
   have hcg:=S1.out.cmp HC.out rfl d[u]! d[h]!
   have hx:=HX.out h u b1 b2 (by omega) (by omega)
   have HY:Hid (decide (cf d[u]! d[h]! < 0)=true->FindC lt' d s0 r0 (mid+m) i h):=fun hy=>HF.out.down hO HBnd.out H1.out H2.out (by omega) (by omega) (by rw [<- HU.out,<- hx];exact hy)
   have HN:Hid (decide (cf d[u]! d[h]! < 0)=false->FindC lt' d s0 r0 (mid+m) (h+1) j):=fun hy=>HF.out.up hO HBnd.out H1.out H2.out (by omega) (by omega) (by rw [<- HU.out,<- hx];exact hy)
   have SG:Hid (∀ nq osq,SW enc w0 blk off d (grow (wr.drewN nq) osq)):=fun nq osq=>S1.out.grown nq osq
   clear hx S1 HF hu
   generalize hch:cf d[u]! d[h]! = ch at hcg HY HN
   clear hch
   generalize enc d[u]! = xu at lu hcg
   generalize enc d[h]! = xh at lh hcg
   by_cases hlv:ch<0
   ·have HF2:Hid (FindC lt' d s0 r0 (mid+m) i h):=HY.out (decide_eq_true hlv)
    clear HY HN
    go_quiet_grown (first | (go_at_fn g;refine Calls.grown_of (hcg _ _)))
    go_wp2
    go_roundg (h - i)
    case measure=>omega
    case rel=>exact ⟨i,h,rfl,rfl,hsi,by omega,by omega,Nat.le_refl _,HF2,SG.out nq osq⟩
   ·have HF2:Hid (FindC lt' d s0 r0 (mid+m) (h+1) j):=HN.out (decide_eq_false hlv)
    clear HY HN
    go_quiet_grown (first | (go_at_fn g;refine Calls.grown_of (hcg _ _)))
    go_wp2
    go_roundg (j - (h+1))
    case measure=>omega
    case rel=>exact ⟨h+1,j,by go_num,rfl,by omega,by omega,hjr,Nat.le_refl _,HF2,SG.out nq osq⟩
  ·have hij':i=j:=by omega
   subst hij'
   obtain ⟨s,hsi'⟩:∃ s,s=i:=⟨_,rfl⟩
   subst hsi'
   have h0s:s0<=s:=hsi
   have hsr:s<=r0:=hjr
   obtain ⟨x1,x2,x3,x4,x5,x6,x7,x8⟩:=HBnd.out.ends h0s hsr
   have ce:((mid+m - s:Nat):Int)=(mid:Int)+(m:Int) - (s:Int):=by omega
   clear hlt hij hkx hsi hjr
   by_cases hsm:s<m
   ·by_cases hsd:s<mid
    ·by_cases has:a<s
     ·by_cases hse:mid+m - s<b
      ·have z1:(s:Int)<(m:Int):=by omega
       have z2:(m:Int)<(mid:Int)+(m:Int) - (s:Int):=by omega
       have z3:(a:Int)<(s:Int):=by omega
       have z4:(s:Int)<(mid:Int):=by omega
       have z5:(mid:Int)<(mid:Int)+(m:Int) - (s:Int):=by omega
       have z6:(mid:Int)+(m:Int) - (s:Int)<(b:Int):=by omega
       have hrot:=rotate_any L enc g cb blk off cap s m (mid+m - s) d0 d w0 wr R hs S1.out (by omega) (by omega) (by omega) hsz
       rw [ce] at hrot
       have HRot:=Lib.hid hrot;clear hrot
       go_wp2_with (go_at_fn 224;refine HRot.out.mono ?_;rintro e wa ⟨rfl,d1,R1,Sa⟩)
       have hlow:=cut_low x2 x3 x4 x7 x1 R1 H1.out H2.out HX.out
       have HLow:=Lib.hid hlow;clear hlow
       have HR1:=Lib.hid R1;clear R1
       have HSa:=Lib.hid Sa;clear Sa
       have hcl:=hrec.out a s mid d1 _ (by omega) HR1.out.size HSa.out (by omega) (by omega) (by omega) HLow.out.1 HLow.out.2.1 HLow.out.2.2
       have HCL:=Lib.hid hcl;clear hcl
       go_wp2_with (go_at_fn 219;refine HCL.out.mono ?_;rintro e wb ⟨rfl,d2,P2,O2,Sb⟩)
       have hhigh:=cut_high x2 x3 x4 x7 x1 HR1.out H1.out H2.out HX.out P2
       have HHigh:=Lib.hid hhigh;clear hhigh
       have HP2:=Lib.hid P2;clear P2
       have HO2:=Lib.hid O2;clear O2
       have HSb:=Lib.hid Sb;clear Sb
       have hch:=hrec.out mid (mid+m - s) b d2 _ (by omega) (HP2.out.1.trans HR1.out.size) HSb.out (by omega) (by omega) (by omega) HHigh.out.1 HHigh.out.2.1 HHigh.out.2.2
       rw [ce] at hch
       have HCH:=Lib.hid hch;clear hch
       go_wp2_with (go_at_fn 219;refine HCH.out.mono ?_;rintro e wc ⟨rfl,d3,P3,O3,Sc⟩)
       go_end0
       have hfin:=cut_done hO HBnd.out HF.out H1.out H2.out h0s hsr hb HR1.out HP2.out HO2.out P3 O3
       exact ⟨rfl,d3,hfin.1,hfin.2,Sc⟩
      ·exfalso;omega
     ·by_cases hse:mid+m - s<b
      ·have z1:(s:Int)<(m:Int):=by omega
       have z2:(m:Int)<(mid:Int)+(m:Int) - (s:Int):=by omega
       have z3:¬ (a:Int)<(s:Int):=by omega
       have z5:(mid:Int)<(mid:Int)+(m:Int) - (s:Int):=by omega
       have z6:(mid:Int)+(m:Int) - (s:Int)<(b:Int):=by omega
       have hrot:=rotate_any L enc g cb blk off cap s m (mid+m - s) d0 d w0 wr R hs S1.out (by omega) (by omega) (by omega) hsz
       rw [ce] at hrot
       have HRot:=Lib.hid hrot;clear hrot
       go_wp2_with (go_at_fn 224;refine HRot.out.mono ?_;rintro e wa ⟨rfl,d1,R1,Sa⟩)
       have hlow:=cut_low x2 x3 x4 x7 x1 R1 H1.out H2.out HX.out
       have HLow:=Lib.hid hlow;clear hlow
       have HR1:=Lib.hid R1;clear R1
       have HSa:=Lib.hid Sa;clear Sa
       obtain ⟨d2,hd2⟩:∃ d2,d2=d1:=⟨_,rfl⟩
       have P2:PermIn a mid d1 d2:=by rw [hd2];exact permIn_refl _ _ _
       have O2:SortedIn lt' a mid d2:=by rw [hd2];first | exact sorted_glue0 HLow.out.2.1 (by omega) | exact sorted_glue1 HLow.out.1 (by omega)
       have Sb:=HSa.out;rw [<- hd2] at Sb
       clear hd2
       have hhigh:=cut_high x2 x3 x4 x7 x1 HR1.out H1.out H2.out HX.out P2
       have HHigh:=Lib.hid hhigh;clear hhigh
       have HP2:=Lib.hid P2;clear P2
       have HO2:=Lib.hid O2;clear O2
       have HSb:=Lib.hid Sb;clear Sb
       have hch:=hrec.out mid (mid+m - s) b d2 _ (by omega) (HP2.out.1.trans HR1.out.size) HSb.out (by omega) (by omega) (by omega) HHigh.out.1 HHigh.out.2.1 HHigh.out.2.2
       rw [ce] at hch
       have HCH:=Lib.hid hch;clear hch
       go_wp2_with (go_at_fn 219;refine HCH.out.mono ?_;rintro e wc ⟨rfl,d3,P3,O3,Sc⟩)
       go_end0
       have hfin:=cut_done hO HBnd.out HF.out H1.out H2.out h0s hsr hb HR1.out HP2.out HO2.out P3 O3
       exact ⟨rfl,d3,hfin.1,hfin.2,Sc⟩
      ·have z1:(s:Int)<(m:Int):=by omega
       have z2:(m:Int)<(mid:Int)+(m:Int) - (s:Int):=by omega
       have z3:¬ (a:Int)<(s:Int):=by omega
       have z5:(mid:Int)<(mid:Int)+(m:Int) - (s:Int):=by omega
       have z6:¬ (mid:Int)+(m:Int) - (s:Int)<(b:Int):=by omega
       have hrot:=rotate_any L enc g cb blk off cap s m (mid+m - s) d0 d w0 wr R hs S1.out (by omega) (by omega) (by omega) hsz
       rw [ce] at hrot
       have HRot:=Lib.hid hrot;clear hrot
       go_wp2_with (go_at_fn 224;refine HRot.out.mono ?_;rintro e wa ⟨rfl,d1,R1,Sa⟩)
       have hlow:=cut_low x2 x3 x4 x7 x1 R1 H1.out H2.out HX.out
       have HLow:=Lib.hid hlow;clear hlow
       have HR1:=Lib.hid R1;clear R1
       have HSa:=Lib.hid Sa;clear Sa
       obtain ⟨d2,hd2⟩:∃ d2,d2=d1:=⟨_,rfl⟩
       have P2:PermIn a mid d1 d2:=by rw [hd2];exact permIn_refl _ _ _
       have O2:SortedIn lt' a mid d2:=by rw [hd2];first | exact sorted_glue0 HLow.out.2.1 (by omega) | exact sorted_glue1 HLow.out.1 (by omega)
       have Sb:=HSa.out;rw [<- hd2] at Sb
       clear hd2
       have hhigh:=cut_high x2 x3 x4 x7 x1 HR1.out H1.out H2.out HX.out P2
       have HHigh:=Lib.hid hhigh;clear hhigh
       have HP2:=Lib.hid P2;clear P2
       have HO2:=Lib.hid O2;clear O2
       have HSb:=Lib.hid Sb;clear Sb
       obtain ⟨d3,hd3⟩:∃ d3,d3=d2:=⟨_,rfl⟩
       have P3:PermIn mid b d2 d3:=by rw [hd3];exact permIn_refl _ _ _
       have O3:SortedIn lt' mid b d3:=by rw [hd3];first | exact sorted_glue0 HHigh.out.2.1 (by omega) | exact sorted_glue1 HHigh.out.1 (by omega)
       have Sc:=HSb.out;rw [<- hd3] at Sc
       clear hd3
       go_wp2
       go_end0
       have hfin:=cut_done hO HBnd.out HF.out H1.out H2.out h0s hsr hb HR1.out HP2.out HO2.out P3 O3
       exact ⟨rfl,d3,hfin.1,hfin.2,Sc⟩
    ·exfalso;omega
   ·by_cases hsd:s<mid
    ·have z1:¬ (s:Int)<(m:Int):=by omega
     have z3:(a:Int)<(s:Int):=by omega
     have z4:(s:Int)<(mid:Int):=by omega
     have z5:¬ (mid:Int)<(mid:Int)+(m:Int) - (s:Int):=by omega
     obtain ⟨d1,hd1⟩:∃ d1,d1=d:=⟨_,rfl⟩
     have R1:Rot d d1 s m (mid+m - s):=by rw [hd1];exact Rot.none d s m (mid+m - s) (by omega) (by omega) (by omega)
     have Sa:SW enc w0 blk off d1 wr:=by rw [hd1];exact S1.out
     clear hd1
     have hlow:=cut_low x2 x3 x4 x7 x1 R1 H1.out H2.out HX.out
     have HLow:=Lib.hid hlow;clear hlow
     have HR1:=Lib.hid R1;clear R1
     have HSa:=Lib.hid Sa;clear Sa
     have hcl:=hrec.out a s mid d1 _ (by omega) HR1.out.size HSa.out (by omega) (by omega) (by omega) HLow.out.1 HLow.out.2.1 HLow.out.2.2
     have HCL:=Lib.hid hcl;clear hcl
     go_wp2_with (go_at_fn 219;refine HCL.out.mono ?_;rintro e wb ⟨rfl,d2,P2,O2,Sb⟩)
     have hhigh:=cut_high x2 x3 x4 x7 x1 HR1.out H1.out H2.out HX.out P2
     have HHigh:=Lib.hid hhigh;clear hhigh
     have HP2:=Lib.hid P2;clear P2
     have HO2:=Lib.hid O2;clear O2
     have HSb:=Lib.hid Sb;clear Sb
     obtain ⟨d3,hd3⟩:∃ d3,d3=d2:=⟨_,rfl⟩
     have P3:PermIn mid b d2 d3:=by rw [hd3];exact permIn_refl _ _ _
     have O3:SortedIn lt' mid b d3:=by rw [hd3];first | exact sorted_glue0 HHigh.out.2.1 (by omega) | exact sorted_glue1 HHigh.out.1 (by omega)
     have Sc:=HSb.out;rw [<- hd3] at Sc
     clear hd3
     go_wp2
     go_end0
     have hfin:=cut_done hO HBnd.out HF.out H1.out H2.out h0s hsr hb HR1.out HP2.out HO2.out P3 O3
     exact ⟨rfl,d3,hfin.1,hfin.2,Sc⟩
    ·have z1:¬ (s:Int)<(m:Int):=by omega
     have z3:(a:Int)<(s:Int):=by omega
     have z4:¬ (s:Int)<(mid:Int):=by omega
     have z5:¬ (mid:Int)<(mid:Int)+(m:Int) - (s:Int):=by omega
     obtain ⟨d1,hd1⟩:∃ d1,d1=d:=⟨_,rfl⟩
     have R1:Rot d d1 s m (mid+m - s):=by rw [hd1];exact Rot.none d s m (mid+m - s) (by omega) (by omega) (by omega)
     have Sa:SW enc w0 blk off d1 wr:=by rw [hd1];exact S1.out
     clear hd1
     have hlow:=cut_low x2 x3 x4 x7 x1 R1 H1.out H2.out HX.out
     have HLow:=Lib.hid hlow;clear hlow
     have HR1:=Lib.hid R1;clear R1
     have HSa:=Lib.hid Sa;clear Sa
     obtain ⟨d2,hd2⟩:∃ d2,d2=d1:=⟨_,rfl⟩
     have P2:PermIn a mid d1 d2:=by rw [hd2];exact permIn_refl _ _ _
     have O2:SortedIn lt' a mid d2:=by rw [hd2];first | exact sorted_glue0 HLow.out.2.1 (by omega) | exact sorted_glue1 HLow.out.1 (by omega)
     have Sb:=HSa.out;rw [<- hd2] at Sb
     clear hd2
     have hhigh:=cut_high x2 x3 x4 x7 x1 HR1.out H1.out H2.out HX.out P2
     have HHigh:=Lib.hid hhigh;clear hhigh
     have HP2:=Lib.hid P2;clear P2
     have HO2:=Lib.hid O2;clear O2
     have HSb:=Lib.hid Sb;clear Sb
     obtain ⟨d3,hd3⟩:∃ d3,d3=d2:=⟨_,rfl⟩
     have P3:PermIn mid b d2 d3:=by rw [hd3];exact permIn_refl _ _ _
     have O3:SortedIn lt' mid b d3:=by rw [hd3];first | exact sorted_glue0 HHigh.out.2.1 (by omega) | exact sorted_glue1 HHigh.out.1 (by omega)
     have Sc:=HSb.out;rw [<- hd3] at Sc
     clear hd3
     go_wp2
     go_end0
     have hfin:=cut_done hO HBnd.out HF.out H1.out H2.out h0s hsr hb HR1.out HP2.out HO2.out P3 O3
     exact ⟨rfl,d3,hfin.1,hfin.2,Sc⟩
end StI
namespace StI
open Go.Shelf Go.RowKit Go.Lib Go.Sort Go.Proofs
variable {P:Program}{α:Type} [Inhabited α]
theorem sym_any (L:LayS P)(enc:α->Value)(cf:α->α->Int) (lt':α->α->Bool)(hO:SWO lt') (g:Nat)(cb:Array Value) (blk off cap size:Nat)(d0:Array α)(w0:World)
  (eg:∀ args w,(callFunc g args).run P w = .ok (.enter g args) w)(hcmp:CmpLays1 P g cb enc cf blk off size w0)
  (R:Row1 enc w0 blk off d0)(hs:d0.size=size)(hsz:size<4611686018427387904):∀ N,SymRec P enc cf lt' g cb blk off cap size w0 N:=by
 intro N
 induction N with
 | zero=>intro a m b d w h;omega
 | succ N ih=>
  intro a m b d w hN hd S ham hmb hb h1 h2 hX
  by_cases hA:m=a+1
  ·subst hd;exact symA L enc cf lt' hO g cb blk off cap a m b d0 d w0 w eg hcmp R hs S hA hmb hb hsz h2 hX
  ·by_cases hB:b=m+1
   ·subst hd;exact symB L enc cf lt' hO g cb blk off cap a m b d0 d w0 w eg hcmp R hs S ham hA hB hb hsz h1 hX
   ·subst hd
    by_cases hC:(a+b) / 2<m
    ·exact symC1 L enc cf lt' hO g cb blk off cap a m b d0 d w0 w eg hcmp R hs S ham hA hmb hB hb hsz h1 h2 hX hC (fun a' m' b' d' w' hl=>ih a' m' b' d' w' (by omega))
    ·exact symC2 L enc cf lt' hO g cb blk off cap a m b d0 d w0 w eg hcmp R hs S ham hA hmb hB hb hsz h1 h2 hX hC (fun a' m' b' d' w' hl=>ih a' m' b' d' w' (by omega))
end StI
section
open Go.Sort
variable {α:Type} [Inhabited α] {lt':α->α->Bool}{Q:α->α->Prop}
def XC (Q:α->α->Prop) (n:Nat)(ok:Nat->Prop)(d:Array α):Prop:=∀ c i j,ok c->i<c->c<=j->j<n->Q d[j]! d[i]!
theorem XC.perm {n:Nat}{ok:Nat->Prop} {d d':Array α}{a b:Nat}(h:XC Q n ok d)(p:PermIn a b d d')(hok:∀ c,ok c->c<=a ∨ b<=c)(hb:b<=n)(hn:n<=d.size):XC Q n ok d':=by
 intro c i j hc hi hj hjn
 rcases hok c hc with g | g
 ·rw [p.2.1 i (.inl (by omega))]
  by_cases gj:a<=j/\j<b
  ·exact permIn_all d d' a b (fun y=>Q y d[i]!) (by omega) p (fun t h1 h2=>h c i t hc hi (by omega) (by omega)) j gj.1 gj.2
  ·rw [p.2.1 j (by omega)];exact h c i j hc hi hj hjn
 ·rw [p.2.1 j (.inr (by omega))]
  by_cases gi:a<=i/\i<b
  ·exact permIn_all d d' a b (fun y=>Q d[j]! y) (by omega) p (fun t h1 h2=>h c t j hc (by omega) hj hjn) i gi.1 gi.2
  ·rw [p.2.1 i (by omega)];exact h c i j hc hi hj hjn
theorem XC.mono {n:Nat} {ok ok':Nat->Prop}{d:Array α}(h:XC Q n ok d)(hh:∀ c,ok' c->ok c):XC Q n ok' d:=fun c i j hc=>h c i j (hh c hc)
theorem mul_gap {q p M:Nat}:q * M<=p * M ∨ p * M+M<=q * M:=by
 rcases Nat.lt_or_ge p q with h | h
 ·right;have:=Nat.mul_le_mul_right M (show p+1<=q from h);rwa [Nat.add_mul,Nat.one_mul] at this
 ·left;exact Nat.mul_le_mul_right M h
theorem mul_gap' {q p M:Nat}(h:q * M<p * M):q * M+M<=p * M:=by
 rcases @mul_gap p q M with h' | h'
 ·omega
 ·exact h'
def SB (lt':α->α->Bool) (n L lo hi:Nat)(d:Array α):Prop:=∀ q,lo<=q * L->q * L<hi->SortedIn lt' (q * L) (min (q * L+L) n) d
theorem SB.keep {n L lo hi:Nat} {d d':Array α}{a b:Nat}(h:SB lt' n L lo hi d)(p:PermIn a b d d')(hd:∀ q,lo<=q * L->q * L<hi->min (q * L+L) n<=a ∨ b<=q * L):SB lt' n L lo hi d':=by
 intro q h1 h2 i j g1 g2 g3
 rcases hd q h1 h2 with g | g
 ·rw [p.2.1 i (.inl (by omega)),p.2.1 j (.inl (by omega))];exact h q h1 h2 i j g1 g2 g3
 ·rw [p.2.1 i (.inr (by omega)),p.2.1 j (.inr (by omega))];exact h q h1 h2 i j g1 g2 g3
structure InsInv (Q:α->α->Prop) (lt':α->α->Bool)(d dk:Array α) (n L a:Nat):Prop where
 size:dk.size=d.size
 perm:PermIn 0 n d dk
 x:XC Q n (fun c=>∃ q,c=q * L) dk
 done_:SB lt' n L 0 a dk
 rest:∀ t,a<=t->dk[t]! = d[t]!
theorem InsInv.start {d:Array α}{n L:Nat}(hQ:∀ i j,i<j->j<n->Q d[j]! d[i]!):InsInv Q lt' d d n L 0:=
 ⟨rfl,permIn_refl _ _ _,fun c i j _ h1 h2 h3=>hQ i j (by omega) h3,fun q h1 h2=>by omega,fun _ _=>rfl⟩
theorem InsInv.step {d dk dk':Array α}{n L p b:Nat}(h:InsInv Q lt' d dk n L (p * L))(hn:n<=d.size)(hpn:p * L<=n)(hb:b=min (p * L+L) n)(hp:PermIn (p * L) b dk dk')(hs:SortedIn lt' (p * L) b dk') :
  InsInv Q lt' d dk' n L b where
 size:=hp.1.trans h.size
 perm:=permIn_trans _ _ _ _ _ h.perm (permIn_mono _ _ _ _ _ _ (Nat.zero_le _) (by omega) (by rw [h.size];exact hn) hp)
 x:=h.x.perm hp (fun c hc=>by obtain ⟨q,rfl⟩:=hc;rcases @mul_gap q p L with g | g <;> omega) (by omega) (by rw [h.size];exact hn)
 done_:=by
  intro q h1 h2
  rcases @mul_gap q p L with g | g
  ·rcases Nat.eq_or_lt_of_le g with e | e
   ·rw [e,<- hb];exact hs
   ·have:=mul_gap' e
    exact SB.keep (hi:=p * L) h.done_ hp (fun q' u1 u2=>by have:=mul_gap' u2;omega) q h1 e
  ·omega
 rest t g:=by rw [hp.2.1 t (.inr g)];exact h.rest t (by omega)
structure PassInv (Q:α->α->Prop) (lt':α->α->Bool)(d dk:Array α) (n L a:Nat):Prop where
 size:dk.size=d.size
 perm:PermIn 0 n d dk
 x:XC Q n (fun c=>(∃ q,c=q * (2 * L)) ∨ (a<=c /\ ∃ q,c=q * L)) dk
 done_:SB lt' n (2 * L) 0 a dk
 todo:SB lt' n L a n dk
theorem PassInv.start {d dk:Array α}{n L:Nat}(h1:dk.size=d.size)(h2:PermIn 0 n d dk)(h3:XC Q n (fun c=>∃ q,c=q * L) dk)(h4:SB lt' n L 0 n dk):PassInv Q lt' d dk n L 0 where
 size:=h1
 perm:=h2
 x:=h3.mono fun c hc=>by
  rcases hc with ⟨q,rfl⟩ | ⟨_,hc⟩
  ·exact ⟨q * 2,by rw [Nat.mul_assoc]⟩
  ·exact hc
 done_:=fun q _ h=>by omega
 todo:=h4
theorem PassInv.ready {d dk:Array α}{n L p e:Nat}(h:PassInv Q lt' d dk n L (p * (2 * L)))(hL:0<L)(h1:p * (2 * L)+L<e)(he:e=min (p * (2 * L)+2 * L) n) :
  SortedIn lt' (p * (2 * L)) (p * (2 * L)+L) dk/\SortedIn lt' (p * (2 * L)+L) e dk/\CrossQ Q dk (p * (2 * L)) (p * (2 * L)+L) e:=by
 have e1:(p * 2) * L=p * (2 * L):=by rw [Nat.mul_assoc]
 have e2:(p * 2+1) * L=p * (2 * L)+L:=by rw [Nat.add_mul,e1,Nat.one_mul]
 have s1:=h.todo (p * 2) (by omega) (by omega)
 have s2:=h.todo (p * 2+1) (by omega) (by omega)
 rw [e1] at s1
 rw [e2] at s2
 rw [show min (p * (2 * L)+L) n=p * (2 * L)+L by omega] at s1
 rw [show min (p * (2 * L)+L+L) n=e by omega] at s2
 refine ⟨s1,s2,fun i j g1 g2 g3 g4=>h.x (p * (2 * L)+L) i j (.inr ⟨by omega,p * 2+1,e2.symm⟩) g2 g3 (by omega)⟩
theorem PassInv.step {d dk dk':Array α}{n L p e:Nat}(h:PassInv Q lt' d dk n L (p * (2 * L)))(hL:0<L)(hn:n<=d.size)(he:e=min (p * (2 * L)+2 * L) n)
  (hp:PermIn (p * (2 * L)) e dk dk')(hs:SortedIn lt' (p * (2 * L)) e dk'):PassInv Q lt' d dk' n L e where
 size:=hp.1.trans h.size
 perm:=permIn_trans _ _ _ _ _ h.perm (permIn_mono _ _ _ _ _ _ (Nat.zero_le _) (by omega) (by rw [h.size];exact hn) hp)
 x:=by
  by_cases hen:e=p * (2 * L)+2 * L
  ·exact (h.x.mono (fun c hc=>by
    rcases hc with hc | ⟨hc1,hc2⟩
    ·exact .inl hc
    ·exact .inr ⟨by omega,hc2⟩)).perm hp (fun c hc=>by
     rcases hc with ⟨q,rfl⟩ | ⟨hc1,_⟩
     ·rcases @mul_gap q p (2 * L) with g | g <;> omega
     ·right;exact hc1) (by omega) (by rw [h.size];exact hn)
  ·have hen':e=n:=by omega
   have h':XC Q n (fun c=>(∃ q,c=q * (2 * L))) dk':=(h.x.mono (fun c hc=>.inl hc)).perm hp (fun c hc=>by
    obtain ⟨q,rfl⟩:=hc
    rcases @mul_gap q p (2 * L) with g | g <;> omega) (by omega) (by rw [h.size];exact hn)
   intro c i j hc u1 u2 u3
   rcases hc with hc | ⟨hc1,_⟩
   ·exact h' c i j hc u1 u2 u3
   ·omega
 done_:=by
  intro q h1 h2
  rcases @mul_gap q p (2 * L) with g | g
  ·rcases Nat.eq_or_lt_of_le g with u | u
   ·rw [u,<- he];exact hs
   ·exact SB.keep (hi:=p * (2 * L)) h.done_ hp (fun q' u1 u2=>by have:=mul_gap' u2;omega) q h1 u
  ·omega
 todo:=by
  intro q h1 h2 i j g1 g2 g3
  rw [hp.2.1 i (.inr (by omega)),hp.2.1 j (.inr (by omega))]
  exact h.todo q (by omega) h2 i j g1 g2 g3
theorem PassInv.next {d dk:Array α}{n L e:Nat}(h:PassInv Q lt' d dk n L e)(he:n<=e):PassInv Q lt' d dk n (2 * L) 0:=
 PassInv.start h.size h.perm (h.x.mono fun c hc=>.inl hc) (fun q h1 h2=>h.done_ q h1 (by omega))
theorem PassInv.whole {d dk:Array α}{n L:Nat}(h:PassInv Q lt' d dk n L 0)(hL:n<=L):PermIn 0 n d dk/\SortedIn lt' 0 n dk:=by
 refine ⟨h.perm,?_⟩
 rcases Nat.eq_zero_or_pos n with g | g
 ·intro i j h1 h2 h3;omega
 ·have:=h.todo 0 (by omega) (by omega)
  rw [Nat.zero_mul,show min (0+L) n=n by omega] at this
  exact this
theorem InsInv.pass {d dk:Array α}{n L e:Nat}(h:InsInv Q lt' d dk n L e)(he:n<=e):PassInv Q lt' d dk n L 0:=
 PassInv.start h.size h.perm h.x (fun q h1 h2=>h.done_ q h1 (by omega))
theorem PassInv.tail {d dk:Array α}{n L p:Nat}(h:PassInv Q lt' d dk n L (p * (2 * L)))(hL:0<L)(h1:n<=p * (2 * L)+L):PassInv Q lt' d dk n L n where
 size:=h.size
 perm:=h.perm
 x:=fun c i j hc u1 u2 u3=>by
  rcases hc with hc | ⟨hc,_⟩
  ·exact h.x c i j (.inl hc) u1 u2 u3
  ·omega
 done_:=by
  intro q g1 g2
  rcases @mul_gap q p (2 * L) with g | g
  ·rcases Nat.eq_or_lt_of_le g with u | u
   ·have e1:(p * 2) * L=p * (2 * L):=by rw [Nat.mul_assoc]
    have s1:=h.todo (p * 2) (by omega) (by omega)
    rw [e1] at s1
    rw [u,show min (p * (2 * L)+2 * L) n=min (p * (2 * L)+L) n by omega];exact s1
   ·exact h.done_ q g1 u
  ·omega
 todo:=fun q g1 g2=>by omega
end
namespace StI
open Go.Shelf Go.RowKit Go.Lib Go.Sort Go.Proofs
def renI:Ren:=⟨fun x=>if x=20 then 218 else x,fun x=>if x=24 then 3 else if x=25 then 232 else if x=22 then 150 else x,fun x=>x⟩
theorem layIns:SlLaysF.n20 Tryz.prog renI where
 mixed:=by kernel_rfl
 f20:=⟨Tryz.f218.name,by kernel_rfl,by kernel_rfl⟩
 t0:=Tryz.underlying0
 a0:=Tryz.isAgg0
 z0:=Tryz.sizeOf0
 v0:=Tryz.zeroValue0
 t3:=Tryz.underlying3
 a3:=Tryz.isAgg3
 z3:=Tryz.sizeOf3
 v3:=Tryz.zeroValue3
 t4:=Tryz.underlying4
 a4:=Tryz.isAgg4
 z4:=Tryz.sizeOf4
 v4:=Tryz.zeroValue4
 t22:=Tryz.underlying150
 a22:=Tryz.isAgg150
 z22:=Tryz.sizeOf150
 v22:=Tryz.zeroValue150
 t25:=Tryz.underlying232
 a25:=Tryz.isAgg232
 z25:=Tryz.sizeOf232
 v25:=Tryz.zeroValue232
 a24:=Tryz.isAgg3
 z24:=Tryz.sizeOf3
section
variable {α:Type} [Inhabited α]{enc:α->Value}{cf:α->α->Int}{g:Nat}{cb:Array Value}
structure CmpOk (enc:α->Value)(cf:α->α->Int) (g:Nat)(cb:Array Value) (blk off size:Nat)(w0:World):Prop where
 swo:SWO (ltOf cf)
 ent:∀ args w,(callFunc g args).run Tryz.prog w = .ok (.enter g args) w
 lays:CmpLays1 Tryz.prog g cb enc cf blk off size w0
theorem ins_any (blk off cap a b:Nat)(d0 d:Array α)(w0 w:World)(C:CmpOk enc cf g cb blk off d0.size w0)(R:Row1 enc w0 blk off d0)(hs:d.size=d0.size)(S:SW enc w0 blk off d w)(hab:a<=b)(hb:b<=d.size)(hsz:d.size<4611686018427387904) :
  Calls Tryz.prog 218 #[.slice (some ⟨blk,off,none⟩) d.size cap,.int .i64 a,.int .i64 b,.func (.func g) #[] cb] w fun e w'=>e = .returned (.tuple #[])/\SW enc w0 blk off (Sort.insertionSort (ltOf cf) d a b) w':=
 Any.insertionSortCmpFunc_s layIns enc cf g cb blk off cap a b d0 d w0 w C.ent C.lays R hs.symm S hab hb hsz
def QT (cf:α->α->Int) (lt':α->α->Bool)(y x:α):Prop:=decide (cf y x<0)=lt' y x
theorem ins_step (hC:SWO (ltOf cf)) (lt':α->α->Bool)(hO:SWO lt'){d dk:Array α}{n p b:Nat}(h:InsInv (QT cf lt') lt' d dk n 20 (p * 20))(hn:n<=d.size)(hpn:p * 20<=n)(hb:b=min (p * 20+20) n)
  (hQ:∀ i j,i<j->j<n->QT cf lt' d[j]! d[i]!):InsInv (QT cf lt') lt' d (Sort.insertionSort (ltOf cf) dk (p * 20) b) n 20 b:=by
 have e:Sort.insertionSort (ltOf cf) dk (p * 20) b=Sort.insertionSort lt' dk (p * 20) b:=
  insertion_congr hC dk (p * 20) b (by rw [h.size];omega) fun q t h1 h2 h3=>by
   rw [h.rest q (by omega),h.rest t h1];exact hQ t q h2 (by omega)
 rw [e]
 have hh:=insertionSort_holds hO dk (p * 20) b (by omega) (by rw [h.size];omega)
 exact h.step hn hpn hb hh.1 hh.2


theorem stable_any (lt':α->α->Bool)(hO:SWO lt') (blk off cap n:Nat)(d:Array α)(w0:World)(C:CmpOk enc cf g cb blk off d.size w0)(R:Row1 enc w0 blk off d)(hn:n=d.size)(hsz:n<1152921504606846976)
  (hQ:∀ i j,i<j->j<n->QT cf lt' d[j]! d[i]!) :
  Calls Tryz.prog 210 #[.slice (some ⟨blk,off,none⟩) n cap,.int .i64 n,.func (.func g) #[] cb] w0 fun e w'=>e = .returned (.tuple #[]) /\ ∃ d',PermIn 0 n d d' /\ SortedIn lt' 0 n d' /\ SW enc w0 blk off d' w':=by
 have S0:Aside (SW enc w0 blk off d w0):=SW.start R.hH
 have HQ:Hid (∀ i j,i<j->j<n->QT cf lt' d[j]! d[i]!):=Lib.hid hQ
 have HN:Hid (n=d.size):=Lib.hid hn
 have HI0:Hid (InsInv (QT cf lt') lt' d d n 20 0):=Lib.hid (InsInv.start hQ)
 have hsym:=fun N=>sym_any layTry enc cf lt' hO g cb blk off cap n d w0 C.ent (by rw [hn];exact C.lays) R hn.symm (by omega) N
 have HSym:=Lib.hid hsym
 clear hQ hn hsym
 go_enter Tryz.func210,Tryz.ntmps210
 go_wp2
 go_loopg [7,8] n (fun kx s7 s8 wr=>∃ (a:Nat)(dk:Array α),s7 = .int .i64 a/\s8 = .int .i64 ((a:Int)+20)/\a<=n/\n - a<=kx/\Hid (∃ p,a=p * 20)/\Hid (InsInv (QT cf lt') lt' d dk n 20 a)/\Aside (SW enc w0 blk off dk wr))
 case atStart=>exact ⟨0,d,rfl,rfl,Nat.zero_le _,by omega,⟨0,rfl⟩,HI0,S0⟩
 case round=>
  clear S0 HI0
  obtain ⟨a,dk,rfl,rfl,han,hkx,HP,HI,S1⟩:=hrel
  have hds:dk.size=n:=by rw [HN.out];exact HI.out.size
  by_cases hlt:a+20<=n
  ·have hins:=ins_any blk off cap a (a+20) d dk w0 wr C R (by rw [hds];exact HN.out) S1.out (by omega) (by omega) (by omega)
   rw [hds,show ((a+20:Nat):Int)=(a:Int)+20 by omega] at hins
   have HIns:=Lib.hid hins
   have HI2:Hid (InsInv (QT cf lt') lt' d (Sort.insertionSort (ltOf cf) dk a (a+20)) n 20 (a+20)):=by
    obtain ⟨p,hp⟩:=HP.out
    have H:=HI.out
    subst hp
    exact Lib.hid (ins_step C.swo lt' hO H (Nat.le_of_eq HN.out) han (by omega) HQ.out)
   have hltz:(a:Int)+20<=(n:Int):=by omega
   clear hins hds S1 HI
   go_wp2_with (go_at_call 218;refine HIns.out.mono ?_;rintro e w' ⟨rfl,S2⟩)
   go_roundg (n - (a+20))
   case measure=>omega
   case rel=>exact ⟨a+20,_,by go_num,by first | rfl | go_num | (congr 1;omega),hlt,Nat.le_refl _,Lib.hid (by obtain ⟨p,hp⟩:=HP.out;exact ⟨p+1,by omega⟩),HI2,S2⟩
  ·have hins:=ins_any blk off cap a n d dk w0 wr C R (by rw [hds];exact HN.out) S1.out (by omega) (by omega) (by omega)
   rw [hds] at hins
   have HIns:=Lib.hid hins
   have HI2:Hid (PassInv (QT cf lt') lt' d (Sort.insertionSort (ltOf cf) dk a n) n 20 0):=by
    obtain ⟨p,hp⟩:=HP.out
    have H:=HI.out
    subst hp
    exact Lib.hid ((ins_step C.swo lt' hO H (Nat.le_of_eq HN.out) han (by omega) HQ.out).pass (Nat.le_refl _))
   have hltz:¬ (a:Int)+20<=(n:Int):=by omega
   clear hins hds S1 HI HP hkx
   go_wp2_with (go_at_call 218;refine HIns.out.mono ?_;rintro e w1 ⟨rfl,S2⟩)
   have SA:Aside _:=S2
   clear S2
   generalize Sort.insertionSort (ltOf cf) dk a n=d1 at HI2 SA
   clear HIns hlt hltz han
   go_loopg [6,7,8,9] n (fun kx s6 _ _ _ wr=>∃ (L:Nat)(dk:Array α),s6 = .int .i64 L/\20<=L/\L<=2 * n+20/\n - L<=kx/\Hid (PassInv (QT cf lt') lt' d dk n L 0)/\Aside (SW enc w0 blk off dk wr))
   case atStart=>exact ⟨20,d1,rfl,Nat.le_refl _,by omega,by omega,HI2,SA⟩
   case round=>
    clear SA HI2
    obtain ⟨L,d2,rfl,hL,hL2,hkx,HP,S1⟩:=hrel
    by_cases hLn:L<n
    ·have hLnz:(L:Int)<(n:Int):=by omega
     obtain ⟨wo,hwo⟩:∃ wo,wo=wr:=⟨_,rfl⟩
     subst hwo
     go_wp2
     go_loopg [7,8] n (fun kx s7 s8 wr=>∃ (a:Nat)(dk:Array α),s7 = .int .i64 a/\s8 = .int .i64 ((a:Int)+2 * (L:Int))/\a<=n/\n - a<=kx/\Hid (∃ p,a=p * (2 * L))/\Hid (PassInv (QT cf lt') lt' d dk n L a)/\Aside (SW enc w0 blk off dk wr))
     case atStart=>exact ⟨0,d2,rfl,by first | rfl | go_num | (congr 1;omega),Nat.zero_le _,by omega,⟨0,by omega⟩,HP,S1⟩
     case round=>
      clear S1 HP
      obtain ⟨a,dk,rfl,rfl,han,hkx2,HPa,HPi,S1⟩:=hrel
      have hds:dk.size=n:=by rw [HN.out];exact HPi.out.size
      by_cases hlt:a+2 * L<=n
      ·have hr:SortedIn lt' a (a+L) dk/\SortedIn lt' (a+L) (a+2 * L) dk/\CrossQ (QT cf lt') dk a (a+L) (a+2 * L):=by
        obtain ⟨p,hp⟩:=HPa.out
        have H:=HPi.out
        subst hp
        exact H.ready (by omega) (by omega) (by omega)
       have hcon:=HSym.out (2 * L+1) a (a+L) (a+2 * L) dk wr (by omega) hds S1.out (by omega) (by omega) hlt hr.1 hr.2.1 hr.2.2
       rw [show ((a+L:Nat):Int)=(a:Int)+(L:Int) by omega,show ((a+2 * L:Nat):Int)=(a:Int)+2 * (L:Int) by omega] at hcon
       have HCon:=Lib.hid hcon
       have hltz:(a:Int)+2 * (L:Int)<=(n:Int):=by omega
       clear hcon hr hds S1
       go_wp2_with (go_at_call 219;refine HCon.out.mono ?_;rintro e w' ⟨rfl,d3,P3,O3,S3⟩)
       have HPn:Hid (PassInv (QT cf lt') lt' d d3 n L (a+2 * L)):=by
        obtain ⟨p,hp⟩:=HPa.out
        have H:=HPi.out
        subst hp
        exact Lib.hid (H.step (by omega) (Nat.le_of_eq HN.out) (by omega) P3 O3)
       clear P3 O3
       go_roundg (n - (a+2 * L))
       case measure=>omega
       case rel=>exact ⟨a+2 * L,d3,by first | rfl | go_num | (congr 1;omega),by first | rfl | go_num | (congr 1;omega),hlt,Nat.le_refl _,Lib.hid (by obtain ⟨p,hp⟩:=HPa.out;exact ⟨p+1,by rw [hp,Nat.add_mul,Nat.one_mul]⟩),HPn,S3⟩
      ·have hltz:¬ (a:Int)+2 * (L:Int)<=(n:Int):=by omega
       by_cases ht:a+L<n
       ·have htz:(a:Int)+(L:Int)<(n:Int):=by omega
        have hr:SortedIn lt' a (a+L) dk/\SortedIn lt' (a+L) n dk/\CrossQ (QT cf lt') dk a (a+L) n:=by
         obtain ⟨p,hp⟩:=HPa.out
         have H:=HPi.out
         subst hp
         exact H.ready (by omega) (by omega) (by omega)
        have hcon:=HSym.out (n+1) a (a+L) n dk wr (by omega) hds S1.out (by omega) (by omega) (Nat.le_refl _) hr.1 hr.2.1 hr.2.2
        rw [show ((a+L:Nat):Int)=(a:Int)+(L:Int) by omega] at hcon
        have HCon:=Lib.hid hcon
        clear hcon hr hds S1
        go_wp2_with (go_at_call 219;refine HCon.out.mono ?_;rintro e w' ⟨rfl,d3,P3,O3,S3⟩)
        have HPn:Hid (PassInv (QT cf lt') lt' d d3 n (2 * L) 0):=by
         obtain ⟨p,hp⟩:=HPa.out
         have H:=HPi.out
         subst hp
         exact Lib.hid ((H.step (e:=n) (by omega) (Nat.le_of_eq HN.out) (by omega) P3 O3).next (Nat.le_refl _))
        clear P3 O3
        go_roundg (n - 2 * L)
        case measure=>omega
        case rel=>exact ⟨2 * L,d3,by first | rfl | go_num | (congr 1;omega),by omega,by omega,Nat.le_refl _,HPn,S3⟩
       ·have htz:¬ (a:Int)+(L:Int)<(n:Int):=by omega
        have HPn:Hid (PassInv (QT cf lt') lt' d dk n (2 * L) 0):=by
         obtain ⟨p,hp⟩:=HPa.out
         have H:=HPi.out
         subst hp
         exact Lib.hid ((H.tail (by omega) (by omega)).next (Nat.le_refl _))
        go_wp2
        go_roundg (n - 2 * L)
        case measure=>omega
        case rel=>exact ⟨2 * L,dk,by first | rfl | go_num | (congr 1;omega),by omega,by omega,Nat.le_refl _,HPn,S1⟩
    ·have hLnz:¬ (L:Int)<(n:Int):=by omega
     go_wp2
     go_end0
     have hw:=HP.out.whole (by omega)
     exact ⟨rfl,d2,hw.1,hw.2,S1.out⟩

theorem sortStable_any (lt':α->α->Bool)(hO:SWO lt') (blk off cap n:Nat)(d:Array α)(w0:World)(C:CmpOk enc cf g cb blk off d.size w0)(R:Row1 enc w0 blk off d)(hn:n=d.size)(hsz:n<1152921504606846976)
  (hQ:∀ i j,i<j->j<n->QT cf lt' d[j]! d[i]!) :
  Calls Tryz.prog 201 #[.slice (some ⟨blk,off,none⟩) n cap,.func (.func g) #[] cb] w0 fun e w'=>e = .returned (.tuple #[]) /\ ∃ d',PermIn 0 n d d' /\ SortedIn lt' 0 n d' /\ SW enc w0 blk off d' w':=by
 have hcon:=Lib.hid (stable_any lt' hO blk off cap n d w0 C R hn hsz hQ)
 clear R hQ hn
 go_enter Tryz.func201,Tryz.ntmps201
 go_wp2_with (go_at_call 210;refine hcon.out.mono ?_;rintro e w' ⟨rfl,h⟩)
 go_end0
 exact ⟨rfl,h⟩

theorem ins_none (A:Option Addr) (c:Nat)(w:World):Calls Tryz.prog 218 #[.slice A 0 c,.int .i64 0,.int .i64 0,.func (.func g) #[] cb] w fun e w'=>e = .returned (.tuple #[])/\w=w':=by
 go_enter Tryz.func218,Tryz.ntmps218
 go_wp2
 refine wp_loop_rounds 1 ?_
 rw [rounds_succ]
 go_wp2
 go_end0
 exact ⟨rfl,rfl⟩

theorem stable_none (A:Option Addr) (c:Nat)(w:World):Calls Tryz.prog 210 #[.slice A 0 c,.int .i64 0,.func (.func g) #[] cb] w fun e w'=>e = .returned (.tuple #[])/\w=w':=by
 go_enter Tryz.func210,Tryz.ntmps210
 go_wp2
 refine wp_loop_rounds 1 ?_
 rw [rounds_succ]
 go_wp2_with (go_at_call 218;refine (ins_none _ _ _).mono ?_;rintro e w' ⟨rfl,rfl⟩)
 refine wp_loop_rounds 1 ?_
 rw [rounds_succ]
 go_wp2
 go_end0
 exact ⟨rfl,rfl⟩

theorem sortStable_none (A:Option Addr) (c:Nat)(w:World):Calls Tryz.prog 201 #[.slice A 0 c,.func (.func g) #[] cb] w fun e w'=>e = .returned (.tuple #[])/\w=w':=by
 go_enter Tryz.func201,Tryz.ntmps201
 go_wp2_with (go_at_call 210;refine (stable_none _ _ _).mono ?_;rintro e w' ⟨rfl,rfl⟩)
 go_end0
 exact ⟨rfl,rfl⟩
end
end StI
section
open Go.Shelf Go.RowKit Go.Lib Go.Sort Go.Proofs
section
variable {α:Type} [Inhabited α]{enc:α->List Value}{k:Nat}
theorem own_holds (hk:∀ x,(enc x).length=k)(h0:0<k){w:World}{base g cap:Nat}{e:TypeId}{l:List α}(h:OwnK w base e k (.slice (some ⟨g,0,none⟩) l.length cap) (l.map enc)):HoldsK enc k w g 0 l.toArray:=by
 intro t ht
 rw [size_flatK,List.size_toArray] at ht
 have hi:t / k<l.length:=(Nat.div_lt_iff_lt_mul h0).2 ht
 have hj:t % k<k:=Nat.mod_lt _ h0
 rw [get_flatK _ _ _ _ (by rw [List.size_toArray];exact ht),getElem!_pos l.toArray (t / k) (by simpa using hi)]
 have hx:(l.map enc)[t / k]? = some (enc l[t / k]):=by rw [List.getElem?_map,List.getElem?_eq_getElem hi];rfl
 have hv:(enc l[t / k])[t % k]? = some ((enc l[t / k])[t % k]'(by rw [hk];exact hj)):=List.getElem?_eq_getElem _
 have hf:=flat_get h.1 hx hv
 rw [Nat.div_add_mod' t k] at hf
 have c:=World.ownsRow.cells h.2 (g:=g) rfl _ _ hf
 rw [Addr.add_lit] at c
 refine ⟨?_,?_⟩
 ·rw [c]
  have e1:(enc l[t / k])[t % k]! = (enc l[t / k])[t % k]'(by rw [hk];exact hj):=getElem!_pos _ _ _
  simp only [tD]
  rw [e1];rfl
 ·have h2:=h.2
  rw [List.length_map] at h2
  have f:=World.ownsRow.frozenAt h2 t
  rwa [Nat.zero_add]
theorem own_row (hk:∀ x,(enc x).length=k)(h0:0<k)(h1:∀ x,∀ v ∈ enc x,v.oneCell' = true){w:World}{base g cap:Nat}{e:TypeId}{l:List α}(h:OwnK w base e k (.slice (some ⟨g,0,none⟩) l.length cap) (l.map enc)):RowK enc k w g 0 l.toArray:=
 ⟨hk,h1,own_holds hk h0 h,(World.ownsRow.lt h.2 g rfl).2⟩
theorem holds_rdk (hk:∀ x,(enc x).length=k){w:World}{g:Nat}{D:Array α}(h:HoldsK enc k w g 0 D):RdK w k (some ⟨g,0,none⟩) (D.toList.map enc):=by
 intro i x hx
 rw [List.getElem?_map] at hx
 have hi:i<D.size:=by
  rcases Nat.lt_or_ge i D.size with h | h
  ·exact h
  ·rw [List.getElem?_eq_none (by simpa using h)] at hx;cases hx
 have e:enc D[i]! = x:=by
  rw [List.getElem?_eq_getElem (by simpa using hi)] at hx
  simp at hx
  rw [getElem!_pos D i hi];exact hx
 subst e
 refine ⟨g,0,rfl,fun j v hv=>?_⟩
 obtain ⟨hj,e⟩:=List.getElem?_eq_some_iff.1 hv
 have c:=(h.cell (i:=i) (c:=j) hi (by rw [<- hk D[i]!];exact hj)).1
 rw [getElem!_pos (enc D[i]!) j hj,e] at c
 exact c
theorem sw_below {w W:World}{g B:Nat}{D:Array α}(h:SWK enc k w g 0 D W)(hB:B<=g)(hB2:B<=w.heap.size):Below B w W:=by
 obtain ⟨n,os,rfl⟩:=h
 unfold sortWorldK putRowK
 have h1:Below B w (putRow id (Sort.ahead w n) g 0 (flatK enc k D)):=Lib.below_putRow (Below.refl _ _) hB
 exact ⟨h1.os,h1.tape,h1.output,by rw [size_grow];exact Nat.le_trans h1.size (Nat.le_add_right _ _),fun k hk=>by
  rw [<- h1.block k hk]
  unfold grow
  simp only []
  rw [Array.getElem?_append_left (Nat.lt_of_lt_of_le hk (Nat.le_trans hB2 h1.size))]⟩
end
end
end Go.Proofs.YtccccbofcnmdiaaGreat
