/- Lemmas that the law stands on. No condition. -/
import Derived.Test.YtccccbofcnmdiaaGreatM32
import Derived.Test.YtccccbofcnmdiaaGreatM42
namespace Go.Proofs.YtccccbofcnmdiaaGreat
set_option linter.unusedSimpArgs false
set_option linter.unusedVariables false
set_option maxRecDepth 100000
set_option maxHeartbeats 51200000
namespace StJ
open Go.Shelf Go.RowKit Go.Lib Go.Sort Go.Proofs
variable {P:Program} {α:Type} [Inhabited α]
def SymRec (P:Program) (enc:α->List Value) (k:Nat) (cf:α->α->Int) (lt':α->α->Bool) (g:Nat) (cb:Array Value) (blk off cap size:Nat) (w0:World) (N:Nat):Prop:=
 ∀ (a' m' b':Nat) (d':Array α) (w':World),b' - a' < N->d'.size=size->SWK enc k w0 blk off d' w' -> a' < m' -> m' < b' -> b' <= size->SortedIn lt' a' m' d' -> SortedIn lt' m' b' d' -> Cross cf lt' d' a' m' b' ->
  Calls P 243 #[.slice (some ⟨blk,off,none⟩) size cap,.int .i64 a',.int .i64 m',.int .i64 b',.func (.func g) #[] cb] w' (Merged lt' enc k w0 blk off d' a' b')


theorem symC1 {k:Nat} (L:LayS P k) (enc:α->List Value) (cf:α->α->Int) (lt':α->α->Bool) (hO:SWO lt') (g:Nat) (cb:Array Value) (blk off cap a m b:Nat) (d0 d:Array α) (w0 w:World)
  (eg:∀ args w,(callFunc g args).run P w = .ok (.enter g args) w) (hcmp:CmpLays P g cb enc k cf blk off d.size w0)
  (R:RowK enc k w0 blk off d0) (hs:d0.size=d.size) (S:SWK enc k w0 blk off d w) (ham:a<m) (hna:m ≠ a+1) (hmb:m<b) (hnb:b ≠ m+1) (hb:b<=d.size) (hsz:d.size<4611686018427387904)
  (h1:SortedIn lt' a m d) (h2:SortedIn lt' m b d) (hX:Cross cf lt' d a m b) (hmm0:(a+b) / 2<m) (hrec0:SymRec P enc k cf lt' g cb blk off cap d.size w0 (b - a)) :
  Calls P 243 #[.slice (some ⟨blk,off,none⟩) d.size cap,.int .i64 a,.int .i64 m,.int .i64 b,.func (.func g) #[] cb] w (Merged lt' enc k w0 blk off d a b):=by
 have mixed:=L.mixed;have t0:=L.t0;have a0:=L.a0;have z0:=L.z0;have v0:=L.v0;have t3:=L.t3;have a3:=L.a3;have z3:=L.z3;have v3:=L.v3;have t4:=L.t4;have a4:=L.a4;have z4:=L.z4;have v4:=L.v4;have t22:=L.t22;have a22:=L.a22;have z22:=L.z22;have v22:=L.v22;have t40:=L.t40;have a40:=L.a40;have z40:=L.z40;have v40:=L.v40;have t45:=L.t45;have a45:=L.a45;have z45:=L.z45;have v45:=L.v45
 have u22:=run_underlying L.t22;have u3:=run_underlying L.t3;have u45:=run_underlying L.t45
 have aE:=L.aE;have zE:=L.zE
 have e30:∀ args w,(callFunc 243 args).run P w = .ok (.enter 243 args) w:=enters_of L.f30 (by kernel_rfl) rfl
 have e32:∀ args w,(callFunc 244 args).run P w = .ok (.enter 244 args) w:=enters_of L.f32 (by kernel_rfl) rfl
 have FG:=L.f30
 have S0:Aside (SWK enc k w0 blk off d w):=S
 have HC:=Lib.hid hcmp
 have H1:=Lib.hid h1
 have H2:=Lib.hid h2
 have HX:Hid (CrossQ (fun y x=>decide (cf y x<0)=lt' y x) d a m b):=hX
 have hrec:Hid (SymRec P enc k cf lt' g cb blk off cap d.size w0 (b - a)):=hrec0
 have hm1:((m:Int) - (a:Int) == 1)=false:=by simp;omega
 have hb1:((b:Int) - (m:Int) == 1)=false:=by simp;omega
 obtain ⟨mid,hmid⟩:∃ mid,mid=(a+b) / 2:=⟨_,rfl⟩
 obtain ⟨s0,hs0⟩:∃ s0,s0=if mid<m then mid+m - b else a:=⟨_,rfl⟩
 obtain ⟨r0,hr0⟩:∃ r0,r0=if mid<m then mid else m:=⟨_,rfl⟩
 have hmm:mid<m:=by omega
 have HBnd:Hid (BndC a m b mid s0 r0):=⟨ham,hmb,hmid,hs0,hr0⟩
 have hmd1:2 * mid<=a+b:=by omega
 have hmd2:a+b<2 * mid+2:=by omega
 have hsr0:s0<=r0:=by
  by_cases c:mid<m
  ·rw [if_pos c] at hs0 hr0;omega
  ·rw [if_neg c] at hs0 hr0;omega
 have hs0':(mid<m->(s0:Int)=(mid:Int)+m - b)/\(¬ mid<m->s0=a):=⟨fun c=>by rw [if_pos c] at hs0;omega,fun c=>by rw [if_neg c] at hs0;exact hs0⟩
 have hr0':(mid<m->r0=mid)/\(¬ mid<m->r0=m):=⟨fun c=>by rw [if_pos c] at hr0;exact hr0,fun c=>by rw [if_neg c] at hr0;exact hr0⟩
 have HS0:=Lib.hid hs0'
 have HR0:=Lib.hid hr0'
 have HF0:Hid (FindC lt' d s0 r0 (mid+m) s0 r0):=FindC.start d s0 r0 (mid+m)
 have hr0b:r0<=b:=by
  rcases Nat.lt_or_ge mid m with c | c
  ·rw [hr0'.1 c];omega
  ·rw [hr0'.2 (by omega)];omega
 clear S hcmp h1 h2 hX hrec0 hna hnb hmid hs0 hr0 hs0' hr0'
 have hmz:((a:Int)+(b:Int)) / 2<(m:Int):=by omega
 have e20:Value.int .i64 ((mid:Int)+(m:Int) - (b:Int)) = .int .i64 s0:=congrArg (Value.int .i64) (HS0.out.1 hmm).symm
 have e21:Value.int .i64 (mid:Int) = .int .i64 r0:=congrArg (Value.int .i64) (by rw [HR0.out.1 hmm])
 have HE20:=Lib.hid e20
 have HE21:=Lib.hid e21
 clear e20 e21
 go_enter FG,Tryz.ntmps243
 go_wp2_with fail
 rw [show ((a:Int)+(b:Int)) / 2=(mid:Int) by omega]
 go_loopg [20,21,23] (r0 - s0) (fun kx s20 s21 _ wr=>∃ i j:Nat,s20 = .int .i64 i/\s21 = .int .i64 j/\s0<=i/\i<=j/\j<=r0/\j - i<=kx/\Hid (FindC lt' d s0 r0 (mid+m) i j)/\Aside (SWK enc k w0 blk off d wr))
 case atStart=>exact ⟨s0,r0,HE20.out,HE21.out,Nat.le_refl _,hsr0,Nat.le_refl _,Nat.le_refl _,HF0,S0⟩
 case round=>
  clear S0 HF0 HE20 HE21
  obtain ⟨i,j,rfl,rfl,hsi,hij,hjr,hkx,HF,S1⟩:=hrel
  by_cases hlt:i<j
  ·have hltz:(i:Int)<(j:Int):=by omega
   go_wp2_with fail
   rw [show ((i:Int)+(j:Int)) / 2=(((i+j) / 2:Nat):Int) by omega]
   obtain ⟨h,hh⟩:∃ h,h=(i+j) / 2:=⟨_,rfl⟩
   rw [<- hh]
   have hih:i<=h:=by omega
   have hhj:h<j:=by omega
   clear hh
   obtain ⟨b1,b2,b3,b4,b5⟩:=HBnd.out.of (show s0<=h by omega) (show h<r0 by omega)
   obtain ⟨u,hu⟩:∃ u,u=mid+m - 1 - h:=⟨_,rfl⟩
   have HU:Hid (u=mid+m - 1 - h):=hu
   have eu:((mid:Int)+(m:Int) - 1 - (h:Int)).toNat=u:=by omega
   have pu:(0:Int)<=(mid:Int)+(m:Int) - 1 - (h:Int):=by omega
   have bu:(mid:Int)+(m:Int) - 1 - (h:Int)<(d.size:Int):=by omega
   have qu:(h:Int)<=(mid:Int)+(m:Int) - 1:=by omega
   have ru:IntKind.i64.wrap ((mid:Int)+(m:Int) - 1 - (h:Int))=(mid:Int)+(m:Int) - 1 - (h:Int):=by rw [IntKind.wrap_i64];omega
   have eh:((h:Int)).toNat=h:=by omega
   have bh:(h:Int)<(d.size:Int):=by omega
   have rh:IntKind.i64.wrap (h:Int)=(h:Int):=by rw [IntKind.wrap_i64];omega
   have lu:=S1.out.ld R (by omega) P u (by omega)
   have lh:=S1.out.ld R (by omega) P h (by omega)
   have hcg:=S1.out.cmp HC.out rfl d[u]! d[h]!
   have hx:=HX.out h u b1 b2 (by omega) (by omega)
   have HY:Hid (decide (cf d[u]! d[h]! < 0)=true->FindC lt' d s0 r0 (mid+m) i h):=fun hy=>HF.out.down hO HBnd.out H1.out H2.out (by omega) (by omega) (by rw [<- HU.out,<- hx];exact hy)
   have HN:Hid (decide (cf d[u]! d[h]! < 0)=false->FindC lt' d s0 r0 (mid+m) (h+1) j):=fun hy=>HF.out.up hO HBnd.out H1.out H2.out (by omega) (by omega) (by rw [<- HU.out,<- hx];exact hy)
   have SG:Hid (∀ nq osq,SWK enc k w0 blk off d (grow (wr.drewN nq) osq)):=fun nq osq=>S1.out.grown nq osq
   clear hx S1 HF hu
   generalize hch:cf d[u]! d[h]! = ch at hcg HY HN
   clear hch
   generalize enc d[u]! = xu at lu hcg
   generalize enc d[h]! = xh at lh hcg
   by_cases hlv:ch<0
   ·have HF2:Hid (FindC lt' d s0 r0 (mid+m) i h):=HY.out (decide_eq_true hlv)
    clear HY HN
    go_quiet_grown (first | (go_at_fn g;refine Calls.grown_of (hcg _ _)))
    go_wp2
    go_roundg (h - i)
    case measure=>omega
    case rel=>exact ⟨i,h,rfl,rfl,hsi,by omega,by omega,Nat.le_refl _,HF2,SG.out nq osq⟩
   ·have HF2:Hid (FindC lt' d s0 r0 (mid+m) (h+1) j):=HN.out (decide_eq_false hlv)
    clear HY HN
    go_quiet_grown (first | (go_at_fn g;refine Calls.grown_of (hcg _ _)))
    go_wp2
    go_roundg (j - (h+1))
    case measure=>omega
    case rel=>exact ⟨h+1,j,by go_num,rfl,by omega,by omega,hjr,Nat.le_refl _,HF2,SG.out nq osq⟩
  ·have hij':i=j:=by omega
   subst hij'
   obtain ⟨s,hsi'⟩:∃ s,s=i:=⟨_,rfl⟩
   subst hsi'
   have h0s:s0<=s:=hsi
   have hsr:s<=r0:=hjr
   obtain ⟨x1,x2,x3,x4,x5,x6,x7,x8⟩:=HBnd.out.ends h0s hsr
   have ce:((mid+m - s:Nat):Int)=(mid:Int)+(m:Int) - (s:Int):=by omega
   clear hlt hij hkx hsi hjr
   by_cases hsm:s<m
   ·by_cases hsd:s<mid
    ·by_cases has:a<s
     ·by_cases hse:mid+m - s<b
      ·have z1:(s:Int)<(m:Int):=by omega
       have z2:(m:Int)<(mid:Int)+(m:Int) - (s:Int):=by omega
       have z3:(a:Int)<(s:Int):=by omega
       have z4:(s:Int)<(mid:Int):=by omega
       have z5:(mid:Int)<(mid:Int)+(m:Int) - (s:Int):=by omega
       have z6:(mid:Int)+(m:Int) - (s:Int)<(b:Int):=by omega
       have hrot:=rotate_any L enc g cb blk off cap s m (mid+m - s) d0 d w0 wr R hs S1.out (by omega) (by omega) (by omega) hsz
       rw [ce] at hrot
       have HRot:=Lib.hid hrot;clear hrot
       go_wp2_with (go_at_fn 244;refine HRot.out.mono ?_;rintro e wa ⟨rfl,d1,R1,Sa⟩)
       have hlow:=cut_low x2 x3 x4 x7 x1 R1 H1.out H2.out HX.out
       have HLow:=Lib.hid hlow;clear hlow
       have HR1:=Lib.hid R1;clear R1
       have HSa:=Lib.hid Sa;clear Sa
       have hcl:=hrec.out a s mid d1 _ (by omega) HR1.out.size HSa.out (by omega) (by omega) (by omega) HLow.out.1 HLow.out.2.1 HLow.out.2.2
       have HCL:=Lib.hid hcl;clear hcl
       go_wp2_with (go_at_fn 243;refine HCL.out.mono ?_;rintro e wb ⟨rfl,d2,P2,O2,Sb⟩)
       have hhigh:=cut_high x2 x3 x4 x7 x1 HR1.out H1.out H2.out HX.out P2
       have HHigh:=Lib.hid hhigh;clear hhigh
       have HP2:=Lib.hid P2;clear P2
       have HO2:=Lib.hid O2;clear O2
       have HSb:=Lib.hid Sb;clear Sb
       have hch:=hrec.out mid (mid+m - s) b d2 _ (by omega) (HP2.out.1.trans HR1.out.size) HSb.out (by omega) (by omega) (by omega) HHigh.out.1 HHigh.out.2.1 HHigh.out.2.2
       rw [ce] at hch
       have HCH:=Lib.hid hch;clear hch
       go_wp2_with (go_at_fn 243;refine HCH.out.mono ?_;rintro e wc ⟨rfl,d3,P3,O3,Sc⟩)
       go_end0
       have hfin:=cut_done hO HBnd.out HF.out H1.out H2.out h0s hsr hb HR1.out HP2.out HO2.out P3 O3
       exact ⟨rfl,d3,hfin.1,hfin.2,Sc⟩
      ·have z1:(s:Int)<(m:Int):=by omega
       have z2:(m:Int)<(mid:Int)+(m:Int) - (s:Int):=by omega
       have z3:(a:Int)<(s:Int):=by omega
       have z4:(s:Int)<(mid:Int):=by omega
       have z5:(mid:Int)<(mid:Int)+(m:Int) - (s:Int):=by omega
       have z6:¬ (mid:Int)+(m:Int) - (s:Int)<(b:Int):=by omega
       have hrot:=rotate_any L enc g cb blk off cap s m (mid+m - s) d0 d w0 wr R hs S1.out (by omega) (by omega) (by omega) hsz
       rw [ce] at hrot
       have HRot:=Lib.hid hrot;clear hrot
       go_wp2_with (go_at_fn 244;refine HRot.out.mono ?_;rintro e wa ⟨rfl,d1,R1,Sa⟩)
       have hlow:=cut_low x2 x3 x4 x7 x1 R1 H1.out H2.out HX.out
       have HLow:=Lib.hid hlow;clear hlow
       have HR1:=Lib.hid R1;clear R1
       have HSa:=Lib.hid Sa;clear Sa
       have hcl:=hrec.out a s mid d1 _ (by omega) HR1.out.size HSa.out (by omega) (by omega) (by omega) HLow.out.1 HLow.out.2.1 HLow.out.2.2
       have HCL:=Lib.hid hcl;clear hcl
       go_wp2_with (go_at_fn 243;refine HCL.out.mono ?_;rintro e wb ⟨rfl,d2,P2,O2,Sb⟩)
       have hhigh:=cut_high x2 x3 x4 x7 x1 HR1.out H1.out H2.out HX.out P2
       have HHigh:=Lib.hid hhigh;clear hhigh
       have HP2:=Lib.hid P2;clear P2
       have HO2:=Lib.hid O2;clear O2
       have HSb:=Lib.hid Sb;clear Sb
       obtain ⟨d3,hd3⟩:∃ d3,d3=d2:=⟨_,rfl⟩
       have P3:PermIn mid b d2 d3:=by rw [hd3];exact permIn_refl _ _ _
       have O3:SortedIn lt' mid b d3:=by rw [hd3];first | exact sorted_glue0 HHigh.out.2.1 (by omega) | exact sorted_glue1 HHigh.out.1 (by omega)
       have Sc:=HSb.out;rw [<- hd3] at Sc
       clear hd3
       go_wp2
       go_end0
       have hfin:=cut_done hO HBnd.out HF.out H1.out H2.out h0s hsr hb HR1.out HP2.out HO2.out P3 O3
       exact ⟨rfl,d3,hfin.1,hfin.2,Sc⟩
     ·by_cases hse:mid+m - s<b
      ·have z1:(s:Int)<(m:Int):=by omega
       have z2:(m:Int)<(mid:Int)+(m:Int) - (s:Int):=by omega
       have z3:¬ (a:Int)<(s:Int):=by omega
       have z5:(mid:Int)<(mid:Int)+(m:Int) - (s:Int):=by omega
       have z6:(mid:Int)+(m:Int) - (s:Int)<(b:Int):=by omega
       have hrot:=rotate_any L enc g cb blk off cap s m (mid+m - s) d0 d w0 wr R hs S1.out (by omega) (by omega) (by omega) hsz
       rw [ce] at hrot
       have HRot:=Lib.hid hrot;clear hrot
       go_wp2_with (go_at_fn 244;refine HRot.out.mono ?_;rintro e wa ⟨rfl,d1,R1,Sa⟩)
       have hlow:=cut_low x2 x3 x4 x7 x1 R1 H1.out H2.out HX.out
       have HLow:=Lib.hid hlow;clear hlow
       have HR1:=Lib.hid R1;clear R1
       have HSa:=Lib.hid Sa;clear Sa
       obtain ⟨d2,hd2⟩:∃ d2,d2=d1:=⟨_,rfl⟩
       have P2:PermIn a mid d1 d2:=by rw [hd2];exact permIn_refl _ _ _
       have O2:SortedIn lt' a mid d2:=by rw [hd2];first | exact sorted_glue0 HLow.out.2.1 (by omega) | exact sorted_glue1 HLow.out.1 (by omega)
       have Sb:=HSa.out;rw [<- hd2] at Sb
       clear hd2
       have hhigh:=cut_high x2 x3 x4 x7 x1 HR1.out H1.out H2.out HX.out P2
       have HHigh:=Lib.hid hhigh;clear hhigh
       have HP2:=Lib.hid P2;clear P2
       have HO2:=Lib.hid O2;clear O2
       have HSb:=Lib.hid Sb;clear Sb
       have hch:=hrec.out mid (mid+m - s) b d2 _ (by omega) (HP2.out.1.trans HR1.out.size) HSb.out (by omega) (by omega) (by omega) HHigh.out.1 HHigh.out.2.1 HHigh.out.2.2
       rw [ce] at hch
       have HCH:=Lib.hid hch;clear hch
       go_wp2_with (go_at_fn 243;refine HCH.out.mono ?_;rintro e wc ⟨rfl,d3,P3,O3,Sc⟩)
       go_end0
       have hfin:=cut_done hO HBnd.out HF.out H1.out H2.out h0s hsr hb HR1.out HP2.out HO2.out P3 O3
       exact ⟨rfl,d3,hfin.1,hfin.2,Sc⟩
      ·have z1:(s:Int)<(m:Int):=by omega
       have z2:(m:Int)<(mid:Int)+(m:Int) - (s:Int):=by omega
       have z3:¬ (a:Int)<(s:Int):=by omega
       have z5:(mid:Int)<(mid:Int)+(m:Int) - (s:Int):=by omega
       have z6:¬ (mid:Int)+(m:Int) - (s:Int)<(b:Int):=by omega
       have hrot:=rotate_any L enc g cb blk off cap s m (mid+m - s) d0 d w0 wr R hs S1.out (by omega) (by omega) (by omega) hsz
       rw [ce] at hrot
       have HRot:=Lib.hid hrot;clear hrot
       go_wp2_with (go_at_fn 244;refine HRot.out.mono ?_;rintro e wa ⟨rfl,d1,R1,Sa⟩)
       have hlow:=cut_low x2 x3 x4 x7 x1 R1 H1.out H2.out HX.out
       have HLow:=Lib.hid hlow;clear hlow
       have HR1:=Lib.hid R1;clear R1
       have HSa:=Lib.hid Sa;clear Sa
       obtain ⟨d2,hd2⟩:∃ d2,d2=d1:=⟨_,rfl⟩
       have P2:PermIn a mid d1 d2:=by rw [hd2];exact permIn_refl _ _ _
       have O2:SortedIn lt' a mid d2:=by rw [hd2];first | exact sorted_glue0 HLow.out.2.1 (by omega) | exact sorted_glue1 HLow.out.1 (by omega)
       have Sb:=HSa.out;rw [<- hd2] at Sb
       clear hd2
       have hhigh:=cut_high x2 x3 x4 x7 x1 HR1.out H1.out H2.out HX.out P2
       have HHigh:=Lib.hid hhigh;clear hhigh
       have HP2:=Lib.hid P2;clear P2
       have HO2:=Lib.hid O2;clear O2
       have HSb:=Lib.hid Sb;clear Sb
       obtain ⟨d3,hd3⟩:∃ d3,d3=d2:=⟨_,rfl⟩
       have P3:PermIn mid b d2 d3:=by rw [hd3];exact permIn_refl _ _ _
       have O3:SortedIn lt' mid b d3:=by rw [hd3];first | exact sorted_glue0 HHigh.out.2.1 (by omega) | exact sorted_glue1 HHigh.out.1 (by omega)
       have Sc:=HSb.out;rw [<- hd3] at Sc
       clear hd3
       go_wp2
       go_end0
       have hfin:=cut_done hO HBnd.out HF.out H1.out H2.out h0s hsr hb HR1.out HP2.out HO2.out P3 O3
       exact ⟨rfl,d3,hfin.1,hfin.2,Sc⟩
    ·have z1:(s:Int)<(m:Int):=by omega
     have z2:¬ (m:Int)<(mid:Int)+(m:Int) - (s:Int):=by omega
     have z3:(a:Int)<(s:Int):=by omega
     have z4:¬ (s:Int)<(mid:Int):=by omega
     have z5:(mid:Int)<(mid:Int)+(m:Int) - (s:Int):=by omega
     have z6:(mid:Int)+(m:Int) - (s:Int)<(b:Int):=by omega
     obtain ⟨d1,hd1⟩:∃ d1,d1=d:=⟨_,rfl⟩
     have R1:Rot d d1 s m (mid+m - s):=by rw [hd1];exact Rot.none d s m (mid+m - s) (by omega) (by omega) (by omega)
     have Sa:SWK enc k w0 blk off d1 wr:=by rw [hd1];exact S1.out
     clear hd1
     have hlow:=cut_low x2 x3 x4 x7 x1 R1 H1.out H2.out HX.out
     have HLow:=Lib.hid hlow;clear hlow
     have HR1:=Lib.hid R1;clear R1
     have HSa:=Lib.hid Sa;clear Sa
     obtain ⟨d2,hd2⟩:∃ d2,d2=d1:=⟨_,rfl⟩
     have P2:PermIn a mid d1 d2:=by rw [hd2];exact permIn_refl _ _ _
     have O2:SortedIn lt' a mid d2:=by rw [hd2];first | exact sorted_glue0 HLow.out.2.1 (by omega) | exact sorted_glue1 HLow.out.1 (by omega)
     have Sb:=HSa.out;rw [<- hd2] at Sb
     clear hd2
     have hhigh:=cut_high x2 x3 x4 x7 x1 HR1.out H1.out H2.out HX.out P2
     have HHigh:=Lib.hid hhigh;clear hhigh
     have HP2:=Lib.hid P2;clear P2
     have HO2:=Lib.hid O2;clear O2
     have HSb:=Lib.hid Sb;clear Sb
     have hch:=hrec.out mid (mid+m - s) b d2 _ (by omega) (HP2.out.1.trans HR1.out.size) HSb.out (by omega) (by omega) (by omega) HHigh.out.1 HHigh.out.2.1 HHigh.out.2.2
     rw [ce] at hch
     have HCH:=Lib.hid hch;clear hch
     go_wp2_with (go_at_fn 243;refine HCH.out.mono ?_;rintro e wc ⟨rfl,d3,P3,O3,Sc⟩)
     go_end0
     have hfin:=cut_done hO HBnd.out HF.out H1.out H2.out h0s hsr hb HR1.out HP2.out HO2.out P3 O3
     exact ⟨rfl,d3,hfin.1,hfin.2,Sc⟩
   ·exfalso;omega
end StJ
end Go.Proofs.YtccccbofcnmdiaaGreat
