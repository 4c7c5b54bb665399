/- Lemmas that the law stands on. No condition. -/
import Derived.Test.YtccccbofcnmdiaaGreatM35
import Derived.Test.YtccccbofcnmdiaaGreatM43
namespace Go.Proofs.YtccccbofcnmdiaaGreat
set_option linter.unusedSimpArgs false
set_option linter.unusedVariables false
set_option maxRecDepth 100000
set_option maxHeartbeats 51200000
namespace StJ
open Go.Shelf Go.RowKit Go.Lib Go.Sort Go.Proofs
variable {P:Program} {α:Type} [Inhabited α]
def SymRec' (P:Program) (enc:α->List Value) (k:Nat) (cf:α->α->Int) (lt':α->α->Bool) (g:Nat) (cb:Array Value) (blk off cap size:Nat) (w0:World) (N:Nat):Prop:=
 ∀ (a' m' b':Nat) (d':Array α) (w':World),b' - a' < N->d'.size=size->SWK enc k w0 blk off d' w' -> a' < m' -> m' < b' -> b' <= size->SortedIn lt' a' m' d' -> SortedIn lt' m' b' d' -> Cross cf lt' d' a' m' b' ->
  Calls P 243 #[.slice (some ⟨blk,off,none⟩) size cap,.int .i64 a',.int .i64 m',.int .i64 b',.func (.func g) #[] cb] w' (Merged lt' enc k w0 blk off d' a' b')


theorem symC2 {k:Nat} (L:LayS P k) (enc:α->List Value) (cf:α->α->Int) (lt':α->α->Bool) (hO:SWO lt') (g:Nat) (cb:Array Value) (blk off cap a m b:Nat) (d0 d:Array α) (w0 w:World)
  (eg:∀ args w,(callFunc g args).run P w = .ok (.enter g args) w) (hcmp:CmpLays P g cb enc k cf blk off d.size w0)
  (R:RowK enc k w0 blk off d0) (hs:d0.size=d.size) (S:SWK enc k w0 blk off d w) (ham:a<m) (hna:m ≠ a+1) (hmb:m<b) (hnb:b ≠ m+1) (hb:b<=d.size) (hsz:d.size<4611686018427387904)
  (h1:SortedIn lt' a m d) (h2:SortedIn lt' m b d) (hX:Cross cf lt' d a m b) (hmm0:¬ (a+b) / 2<m) (hrec0:SymRec' P enc k cf lt' g cb blk off cap d.size w0 (b - a)) :
  Calls P 243 #[.slice (some ⟨blk,off,none⟩) d.size cap,.int .i64 a,.int .i64 m,.int .i64 b,.func (.func g) #[] cb] w (Merged lt' enc k w0 blk off d a b):=by
 have mixed:=L.mixed;have t0:=L.t0;have a0:=L.a0;have z0:=L.z0;have v0:=L.v0;have t3:=L.t3;have a3:=L.a3;have z3:=L.z3;have v3:=L.v3;have t4:=L.t4;have a4:=L.a4;have z4:=L.z4;have v4:=L.v4;have t22:=L.t22;have a22:=L.a22;have z22:=L.z22;have v22:=L.v22;have t40:=L.t40;have a40:=L.a40;have z40:=L.z40;have v40:=L.v40;have t45:=L.t45;have a45:=L.a45;have z45:=L.z45;have v45:=L.v45
 have u22:=run_underlying L.t22;have u3:=run_underlying L.t3;have u45:=run_underlying L.t45
 have aE:=L.aE;have zE:=L.zE
 have e30:∀ args w,(callFunc 243 args).run P w = .ok (.enter 243 args) w:=enters_of L.f30 (by kernel_rfl) rfl
 have e32:∀ args w,(callFunc 244 args).run P w = .ok (.enter 244 args) w:=enters_of L.f32 (by kernel_rfl) rfl
 have FG:=L.f30
 have S0:Aside (SWK enc k w0 blk off d w):=S
 have HC:=Lib.hid hcmp
 have H1:=Lib.hid h1
 have H2:=Lib.hid h2
 have HX:Hid (CrossQ (fun y x=>decide (cf y x<0)=lt' y x) d a m b):=hX
 have hrec:Hid (SymRec' P enc k cf lt' g cb blk off cap d.size w0 (b - a)):=hrec0
 have hm1:((m:Int) - (a:Int) == 1)=false:=by simp;omega
 have hb1:((b:Int) - (m:Int) == 1)=false:=by simp;omega
 obtain ⟨mid,hmid⟩:∃ mid,mid=(a+b) / 2:=⟨_,rfl⟩
 obtain ⟨s0,hs0⟩:∃ s0,s0=if mid<m then mid+m - b else a:=⟨_,rfl⟩
 obtain ⟨r0,hr0⟩:∃ r0,r0=if mid<m then mid else m:=⟨_,rfl⟩
 have hmm:¬ mid<m:=by omega
 have HBnd:Hid (BndC a m b mid s0 r0):=⟨ham,hmb,hmid,hs0,hr0⟩
 have hmd1:2 * mid<=a+b:=by omega
 have hmd2:a+b<2 * mid+2:=by omega
 have hsr0:s0<=r0:=by
  by_cases c:mid<m
  ·rw [if_pos c] at hs0 hr0;omega
  ·rw [if_neg c] at hs0 hr0;omega
 have hs0':(mid<m->(s0:Int)=(mid:Int)+m - b)/\(¬ mid<m->s0=a):=⟨fun c=>by rw [if_pos c] at hs0;omega,fun c=>by rw [if_neg c] at hs0;exact hs0⟩
 have hr0':(mid<m->r0=mid)/\(¬ mid<m->r0=m):=⟨fun c=>by rw [if_pos c] at hr0;exact hr0,fun c=>by rw [if_neg c] at hr0;exact hr0⟩
 have HS0:=Lib.hid hs0'
 have HR0:=Lib.hid hr0'
 have HF0:Hid (FindC lt' d s0 r0 (mid+m) s0 r0):=FindC.start d s0 r0 (mid+m)
 have hr0b:r0<=b:=by
  rcases Nat.lt_or_ge mid m with c | c
  ·rw [hr0'.1 c];omega
  ·rw [hr0'.2 (by omega)];omega
 clear S hcmp h1 h2 hX hrec0 hna hnb hmid hs0 hr0 hs0' hr0'
 have hmz:¬ ((a:Int)+(b:Int)) / 2<(m:Int):=by omega
 have e20:Value.int .i64 (a:Int) = .int .i64 s0:=congrArg (Value.int .i64) (by rw [HS0.out.2 hmm])
 have e21:Value.int .i64 (m:Int) = .int .i64 r0:=congrArg (Value.int .i64) (by rw [HR0.out.2 hmm])
 have HE20:=Lib.hid e20
 have HE21:=Lib.hid e21
 clear e20 e21
 go_enter FG,Tryz.ntmps243
 go_wp2_with fail
 rw [show ((a:Int)+(b:Int)) / 2=(mid:Int) by omega]
 go_loopg [20,21,23] (r0 - s0) (fun kx s20 s21 _ wr=>∃ i j:Nat,s20 = .int .i64 i/\s21 = .int .i64 j/\s0<=i/\i<=j/\j<=r0/\j - i<=kx/\Hid (FindC lt' d s0 r0 (mid+m) i j)/\Aside (SWK enc k w0 blk off d wr))
 case atStart=>exact ⟨s0,r0,HE20.out,HE21.out,Nat.le_refl _,hsr0,Nat.le_refl _,Nat.le_refl _,HF0,S0⟩
 case round=>
  clear S0 HF0 HE20 HE21
  obtain ⟨i,j,rfl,rfl,hsi,hij,hjr,hkx,HF,S1⟩:=hrel
  by_cases hlt:i<j
  ·have hltz:(i:Int)<(j:Int):=by omega
   go_wp2_with fail
   rw [show ((i:Int)+(j:Int)) / 2=(((i+j) / 2:Nat):Int) by omega]
   obtain ⟨h,hh⟩:∃ h,h=(i+j) / 2:=⟨_,rfl⟩
   rw [<- hh]
   have hih:i<=h:=by omega
   have hhj:h<j:=by omega
   clear hh
   obtain ⟨b1,b2,b3,b4,b5⟩:=HBnd.out.of (show s0<=h by omega) (show h<r0 by omega)
   obtain ⟨u,hu⟩:∃ u,u=mid+m - 1 - h:=⟨_,rfl⟩
   have HU:Hid (u=mid+m - 1 - h):=hu
   have eu:((mid:Int)+(m:Int) - 1 - (h:Int)).toNat=u:=by omega
   have pu:(0:Int)<=(mid:Int)+(m:Int) - 1 - (h:Int):=by omega
   have bu:(mid:Int)+(m:Int) - 1 - (h:Int)<(d.size:Int):=by omega
   have qu:(h:Int)<=(mid:Int)+(m:Int) - 1:=by omega
   have ru:IntKind.i64.wrap ((mid:Int)+(m:Int) - 1 - (h:Int))=(mid:Int)+(m:Int) - 1 - (h:Int):=by rw [IntKind.wrap_i64];omega
   have eh:((h:Int)).toNat=h:=by omega
   have bh:(h:Int)<(d.size:Int):=by omega
   have rh:IntKind.i64.wrap (h:Int)=(h:Int):=by rw [IntKind.wrap_i64];omega
   have lu:=S1.out.ld R (by omega) P u (by omega)
   have lh:=S1.out.ld R (by omega) P h (by omega)
   have hcg:=S1.out.cmp HC.out rfl d[u]! d[h]!
   have hx:=HX.out h u b1 b2 (by omega) (by omega)
   have HY:Hid (decide (cf d[u]! d[h]! < 0)=true->FindC lt' d s0 r0 (mid+m) i h):=fun hy=>HF.out.down hO HBnd.out H1.out H2.out (by omega) (by omega) (by rw [<- HU.out,<- hx];exact hy)
   have HN:Hid (decide (cf d[u]! d[h]! < 0)=false->FindC lt' d s0 r0 (mid+m) (h+1) j):=fun hy=>HF.out.up hO HBnd.out H1.out H2.out (by omega) (by omega) (by rw [<- HU.out,<- hx];exact hy)
   have SG:Hid (∀ nq osq,SWK enc k w0 blk off d (grow (wr.drewN nq) osq)):=fun nq osq=>S1.out.grown nq osq
   clear hx S1 HF hu
   generalize hch:cf d[u]! d[h]! = ch at hcg HY HN
   clear hch
   generalize enc d[u]! = xu at lu hcg
   generalize enc d[h]! = xh at lh hcg
   by_cases hlv:ch<0
   ·have HF2:Hid (FindC lt' d s0 r0 (mid+m) i h):=HY.out (decide_eq_true hlv)
    clear HY HN
    go_quiet_grown (first | (go_at_fn g;refine Calls.grown_of (hcg _ _)))
    go_wp2
    go_roundg (h - i)
    case measure=>omega
    case rel=>exact ⟨i,h,rfl,rfl,hsi,by omega,by omega,Nat.le_refl _,HF2,SG.out nq osq⟩
   ·have HF2:Hid (FindC lt' d s0 r0 (mid+m) (h+1) j):=HN.out (decide_eq_false hlv)
    clear HY HN
    go_quiet_grown (first | (go_at_fn g;refine Calls.grown_of (hcg _ _)))
    go_wp2
    go_roundg (j - (h+1))
    case measure=>omega
    case rel=>exact ⟨h+1,j,by go_num,rfl,by omega,by omega,hjr,Nat.le_refl _,HF2,SG.out nq osq⟩
  ·have hij':i=j:=by omega
   subst hij'
   obtain ⟨s,hsi'⟩:∃ s,s=i:=⟨_,rfl⟩
   subst hsi'
   have h0s:s0<=s:=hsi
   have hsr:s<=r0:=hjr
   obtain ⟨x1,x2,x3,x4,x5,x6,x7,x8⟩:=HBnd.out.ends h0s hsr
   have ce:((mid+m - s:Nat):Int)=(mid:Int)+(m:Int) - (s:Int):=by omega
   clear hlt hij hkx hsi hjr
   by_cases hsm:s<m
   ·by_cases hsd:s<mid
    ·by_cases has:a<s
     ·by_cases hse:mid+m - s<b
      ·have z1:(s:Int)<(m:Int):=by omega
       have z2:(m:Int)<(mid:Int)+(m:Int) - (s:Int):=by omega
       have z3:(a:Int)<(s:Int):=by omega
       have z4:(s:Int)<(mid:Int):=by omega
       have z5:(mid:Int)<(mid:Int)+(m:Int) - (s:Int):=by omega
       have z6:(mid:Int)+(m:Int) - (s:Int)<(b:Int):=by omega
       have hrot:=rotate_any L enc g cb blk off cap s m (mid+m - s) d0 d w0 wr R hs S1.out (by omega) (by omega) (by omega) hsz
       rw [ce] at hrot
       have HRot:=Lib.hid hrot;clear hrot
       go_wp2_with (go_at_fn 244;refine HRot.out.mono ?_;rintro e wa ⟨rfl,d1,R1,Sa⟩)
       have hlow:=cut_low x2 x3 x4 x7 x1 R1 H1.out H2.out HX.out
       have HLow:=Lib.hid hlow;clear hlow
       have HR1:=Lib.hid R1;clear R1
       have HSa:=Lib.hid Sa;clear Sa
       have hcl:=hrec.out a s mid d1 _ (by omega) HR1.out.size HSa.out (by omega) (by omega) (by omega) HLow.out.1 HLow.out.2.1 HLow.out.2.2
       have HCL:=Lib.hid hcl;clear hcl
       go_wp2_with (go_at_fn 243;refine HCL.out.mono ?_;rintro e wb ⟨rfl,d2,P2,O2,Sb⟩)
       have hhigh:=cut_high x2 x3 x4 x7 x1 HR1.out H1.out H2.out HX.out P2
       have HHigh:=Lib.hid hhigh;clear hhigh
       have HP2:=Lib.hid P2;clear P2
       have HO2:=Lib.hid O2;clear O2
       have HSb:=Lib.hid Sb;clear Sb
       have hch:=hrec.out mid (mid+m - s) b d2 _ (by omega) (HP2.out.1.trans HR1.out.size) HSb.out (by omega) (by omega) (by omega) HHigh.out.1 HHigh.out.2.1 HHigh.out.2.2
       rw [ce] at hch
       have HCH:=Lib.hid hch;clear hch
       go_wp2_with (go_at_fn 243;refine HCH.out.mono ?_;rintro e wc ⟨rfl,d3,P3,O3,Sc⟩)
       go_end0
       have hfin:=cut_done hO HBnd.out HF.out H1.out H2.out h0s hsr hb HR1.out HP2.out HO2.out P3 O3
       exact ⟨rfl,d3,hfin.1,hfin.2,Sc⟩
      ·exfalso;omega
     ·by_cases hse:mid+m - s<b
      ·have z1:(s:Int)<(m:Int):=by omega
       have z2:(m:Int)<(mid:Int)+(m:Int) - (s:Int):=by omega
       have z3:¬ (a:Int)<(s:Int):=by omega
       have z5:(mid:Int)<(mid:Int)+(m:Int) - (s:Int):=by omega
       have z6:(mid:Int)+(m:Int) - (s:Int)<(b:Int):=by omega
       have hrot:=rotate_any L enc g cb blk off cap s m (mid+m - s) d0 d w0 wr R hs S1.out (by omega) (by omega) (by omega) hsz
       rw [ce] at hrot
       have HRot:=Lib.hid hrot;clear hrot
       go_wp2_with (go_at_fn 244;refine HRot.out.mono ?_;rintro e wa ⟨rfl,d1,R1,Sa⟩)
       have hlow:=cut_low x2 x3 x4 x7 x1 R1 H1.out H2.out HX.out
       have HLow:=Lib.hid hlow;clear hlow
       have HR1:=Lib.hid R1;clear R1
       have HSa:=Lib.hid Sa;clear Sa
       obtain ⟨d2,hd2⟩:∃ d2,d2=d1:=⟨_,rfl⟩
       have P2:PermIn a mid d1 d2:=by rw [hd2];exact permIn_refl _ _ _
       have O2:SortedIn lt' a mid d2:=by rw [hd2];first | exact sorted_glue0 HLow.out.2.1 (by omega) | exact sorted_glue1 HLow.out.1 (by omega)
       have Sb:=HSa.out;rw [<- hd2] at Sb
       clear hd2
       have hhigh:=cut_high x2 x3 x4 x7 x1 HR1.out H1.out H2.out HX.out P2
       have HHigh:=Lib.hid hhigh;clear hhigh
       have HP2:=Lib.hid P2;clear P2
       have HO2:=Lib.hid O2;clear O2
       have HSb:=Lib.hid Sb;clear Sb
       have hch:=hrec.out mid (mid+m - s) b d2 _ (by omega) (HP2.out.1.trans HR1.out.size) HSb.out (by omega) (by omega) (by omega) HHigh.out.1 HHigh.out.2.1 HHigh.out.2.2
       rw [ce] at hch
       have HCH:=Lib.hid hch;clear hch
       go_wp2_with (go_at_fn 243;refine HCH.out.mono ?_;rintro e wc ⟨rfl,d3,P3,O3,Sc⟩)
       go_end0
       have hfin:=cut_done hO HBnd.out HF.out H1.out H2.out h0s hsr hb HR1.out HP2.out HO2.out P3 O3
       exact ⟨rfl,d3,hfin.1,hfin.2,Sc⟩
      ·have z1:(s:Int)<(m:Int):=by omega
       have z2:(m:Int)<(mid:Int)+(m:Int) - (s:Int):=by omega
       have z3:¬ (a:Int)<(s:Int):=by omega
       have z5:(mid:Int)<(mid:Int)+(m:Int) - (s:Int):=by omega
       have z6:¬ (mid:Int)+(m:Int) - (s:Int)<(b:Int):=by omega
       have hrot:=rotate_any L enc g cb blk off cap s m (mid+m - s) d0 d w0 wr R hs S1.out (by omega) (by omega) (by omega) hsz
       rw [ce] at hrot
       have HRot:=Lib.hid hrot;clear hrot
       go_wp2_with (go_at_fn 244;refine HRot.out.mono ?_;rintro e wa ⟨rfl,d1,R1,Sa⟩)
       have hlow:=cut_low x2 x3 x4 x7 x1 R1 H1.out H2.out HX.out
       have HLow:=Lib.hid hlow;clear hlow
       have HR1:=Lib.hid R1;clear R1
       have HSa:=Lib.hid Sa;clear Sa
       obtain ⟨d2,hd2⟩:∃ d2,d2=d1:=⟨_,rfl⟩
       have P2:PermIn a mid d1 d2:=by rw [hd2];exact permIn_refl _ _ _
       have O2:SortedIn lt' a mid d2:=by rw [hd2];first | exact sorted_glue0 HLow.out.2.1 (by omega) | exact sorted_glue1 HLow.out.1 (by omega)
       have Sb:=HSa.out;rw [<- hd2] at Sb
       clear hd2
       have hhigh:=cut_high x2 x3 x4 x7 x1 HR1.out H1.out H2.out HX.out P2
       have HHigh:=Lib.hid hhigh;clear hhigh
       have HP2:=Lib.hid P2;clear P2
       have HO2:=Lib.hid O2;clear O2
       have HSb:=Lib.hid Sb;clear Sb
       obtain ⟨d3,hd3⟩:∃ d3,d3=d2:=⟨_,rfl⟩
       have P3:PermIn mid b d2 d3:=by rw [hd3];exact permIn_refl _ _ _
       have O3:SortedIn lt' mid b d3:=by rw [hd3];first | exact sorted_glue0 HHigh.out.2.1 (by omega) | exact sorted_glue1 HHigh.out.1 (by omega)
       have Sc:=HSb.out;rw [<- hd3] at Sc
       clear hd3
       go_wp2
       go_end0
       have hfin:=cut_done hO HBnd.out HF.out H1.out H2.out h0s hsr hb HR1.out HP2.out HO2.out P3 O3
       exact ⟨rfl,d3,hfin.1,hfin.2,Sc⟩
    ·exfalso;omega
   ·by_cases hsd:s<mid
    ·have z1:¬ (s:Int)<(m:Int):=by omega
     have z3:(a:Int)<(s:Int):=by omega
     have z4:(s:Int)<(mid:Int):=by omega
     have z5:¬ (mid:Int)<(mid:Int)+(m:Int) - (s:Int):=by omega
     obtain ⟨d1,hd1⟩:∃ d1,d1=d:=⟨_,rfl⟩
     have R1:Rot d d1 s m (mid+m - s):=by rw [hd1];exact Rot.none d s m (mid+m - s) (by omega) (by omega) (by omega)
     have Sa:SWK enc k w0 blk off d1 wr:=by rw [hd1];exact S1.out
     clear hd1
     have hlow:=cut_low x2 x3 x4 x7 x1 R1 H1.out H2.out HX.out
     have HLow:=Lib.hid hlow;clear hlow
     have HR1:=Lib.hid R1;clear R1
     have HSa:=Lib.hid Sa;clear Sa
     have hcl:=hrec.out a s mid d1 _ (by omega) HR1.out.size HSa.out (by omega) (by omega) (by omega) HLow.out.1 HLow.out.2.1 HLow.out.2.2
     have HCL:=Lib.hid hcl;clear hcl
     go_wp2_with (go_at_fn 243;refine HCL.out.mono ?_;rintro e wb ⟨rfl,d2,P2,O2,Sb⟩)
     have hhigh:=cut_high x2 x3 x4 x7 x1 HR1.out H1.out H2.out HX.out P2
     have HHigh:=Lib.hid hhigh;clear hhigh
     have HP2:=Lib.hid P2;clear P2
     have HO2:=Lib.hid O2;clear O2
     have HSb:=Lib.hid Sb;clear Sb
     obtain ⟨d3,hd3⟩:∃ d3,d3=d2:=⟨_,rfl⟩
     have P3:PermIn mid b d2 d3:=by rw [hd3];exact permIn_refl _ _ _
     have O3:SortedIn lt' mid b d3:=by rw [hd3];first | exact sorted_glue0 HHigh.out.2.1 (by omega) | exact sorted_glue1 HHigh.out.1 (by omega)
     have Sc:=HSb.out;rw [<- hd3] at Sc
     clear hd3
     go_wp2
     go_end0
     have hfin:=cut_done hO HBnd.out HF.out H1.out H2.out h0s hsr hb HR1.out HP2.out HO2.out P3 O3
     exact ⟨rfl,d3,hfin.1,hfin.2,Sc⟩
    ·have z1:¬ (s:Int)<(m:Int):=by omega
     have z3:(a:Int)<(s:Int):=by omega
     have z4:¬ (s:Int)<(mid:Int):=by omega
     have z5:¬ (mid:Int)<(mid:Int)+(m:Int) - (s:Int):=by omega
     obtain ⟨d1,hd1⟩:∃ d1,d1=d:=⟨_,rfl⟩
     have R1:Rot d d1 s m (mid+m - s):=by rw [hd1];exact Rot.none d s m (mid+m - s) (by omega) (by omega) (by omega)
     have Sa:SWK enc k w0 blk off d1 wr:=by rw [hd1];exact S1.out
     clear hd1
     have hlow:=cut_low x2 x3 x4 x7 x1 R1 H1.out H2.out HX.out
     have HLow:=Lib.hid hlow;clear hlow
     have HR1:=Lib.hid R1;clear R1
     have HSa:=Lib.hid Sa;clear Sa
     obtain ⟨d2,hd2⟩:∃ d2,d2=d1:=⟨_,rfl⟩
     have P2:PermIn a mid d1 d2:=by rw [hd2];exact permIn_refl _ _ _
     have O2:SortedIn lt' a mid d2:=by rw [hd2];first | exact sorted_glue0 HLow.out.2.1 (by omega) | exact sorted_glue1 HLow.out.1 (by omega)
     have Sb:=HSa.out;rw [<- hd2] at Sb
     clear hd2
     have hhigh:=cut_high x2 x3 x4 x7 x1 HR1.out H1.out H2.out HX.out P2
     have HHigh:=Lib.hid hhigh;clear hhigh
     have HP2:=Lib.hid P2;clear P2
     have HO2:=Lib.hid O2;clear O2
     have HSb:=Lib.hid Sb;clear Sb
     obtain ⟨d3,hd3⟩:∃ d3,d3=d2:=⟨_,rfl⟩
     have P3:PermIn mid b d2 d3:=by rw [hd3];exact permIn_refl _ _ _
     have O3:SortedIn lt' mid b d3:=by rw [hd3];first | exact sorted_glue0 HHigh.out.2.1 (by omega) | exact sorted_glue1 HHigh.out.1 (by omega)
     have Sc:=HSb.out;rw [<- hd3] at Sc
     clear hd3
     go_wp2
     go_end0
     have hfin:=cut_done hO HBnd.out HF.out H1.out H2.out h0s hsr hb HR1.out HP2.out HO2.out P3 O3
     exact ⟨rfl,d3,hfin.1,hfin.2,Sc⟩
end StJ
namespace StJ
open Go.Shelf Go.RowKit Go.Lib Go.Sort Go.Proofs
variable {P:Program} {α:Type} [Inhabited α]
theorem sym_any {k:Nat} (L:LayS P k) (enc:α->List Value) (cf:α->α->Int) (lt':α->α->Bool) (hO:SWO lt') (g:Nat) (cb:Array Value) (blk off cap size:Nat) (d0:Array α) (w0:World)
  (eg:∀ args w,(callFunc g args).run P w = .ok (.enter g args) w) (hcmp:CmpLays P g cb enc k cf blk off size w0)
  (R:RowK enc k w0 blk off d0) (hs:d0.size=size) (hsz:size<4611686018427387904):∀ N,SymRec P enc k cf lt' g cb blk off cap size w0 N:=by
 intro N
 induction N with
 | zero=>intro a m b d w h;omega
 | succ N ih=>
  intro a m b d w hN hd S ham hmb hb h1 h2 hX
  by_cases hA:m=a+1
  ·subst hd;exact symA L enc cf lt' hO g cb blk off cap a m b d0 d w0 w eg hcmp R hs S hA hmb hb hsz h2 hX
  ·by_cases hB:b=m+1
   ·subst hd;exact symB L enc cf lt' hO g cb blk off cap a m b d0 d w0 w eg hcmp R hs S ham hA hB hb hsz h1 hX
   ·subst hd
    by_cases hC:(a+b) / 2<m
    ·exact symC1 L enc cf lt' hO g cb blk off cap a m b d0 d w0 w eg hcmp R hs S ham hA hmb hB hb hsz h1 h2 hX hC (fun a' m' b' d' w' hl=>ih a' m' b' d' w' (by omega))
    ·exact symC2 L enc cf lt' hO g cb blk off cap a m b d0 d w0 w eg hcmp R hs S ham hA hmb hB hb hsz h1 h2 hX hC (fun a' m' b' d' w' hl=>ih a' m' b' d' w' (by omega))
end StJ
namespace StJ
open Go.Shelf Go.RowKit Go.Lib Go.Sort Go.Proofs
def renI:Ren:=⟨fun x=>if x=20 then 242 else x,fun x=>if x=24 then 66 else if x=25 then 231 else if x=22 then 29 else x,fun x=>x⟩
theorem layIns:SlLaysF0.n20 Tryz.prog renI where
 mixed:=by kernel_rfl
 f20:=⟨Tryz.f242.name,by kernel_rfl,by kernel_rfl⟩
 t0:=Tryz.underlying0
 a0:=Tryz.isAgg0
 z0:=Tryz.sizeOf0
 v0:=Tryz.zeroValue0
 t3:=Tryz.underlying3
 a3:=Tryz.isAgg3
 z3:=Tryz.sizeOf3
 v3:=Tryz.zeroValue3
 t4:=Tryz.underlying4
 a4:=Tryz.isAgg4
 z4:=Tryz.sizeOf4
 v4:=Tryz.zeroValue4
 t22:=Tryz.underlying29
 a22:=Tryz.isAgg29
 z22:=Tryz.sizeOf29
 v22:=Tryz.zeroValue29
 t25:=Tryz.underlying231
 a25:=Tryz.isAgg231
 z25:=Tryz.sizeOf231
 v25:=Tryz.zeroValue231
section
variable {α:Type} [Inhabited α] {enc:α->List Value} {cf:α->α->Int} {g:Nat} {cb:Array Value}
structure CmpOk (enc:α->List Value) (cf:α->α->Int) (g:Nat) (cb:Array Value):Prop where
 len:∀ x,(enc x).length=13
 one:∀ x,∀ v ∈ enc x,v.oneCell' = true
 swo:SWO (ltOf cf)
 ent:∀ args w,(callFunc g args).run Tryz.prog w = .ok (.enter g args) w
 lays:∀ blk off size w,CmpLays Tryz.prog g cb enc 13 cf blk off size w
theorem ins_any (C:CmpOk enc cf g cb) (blk off cap a b:Nat) (d0 d:Array α) (w0 w:World) (R:RowK enc 13 w0 blk off d0) (hs:d.size=d0.size) (S:SWK enc 13 w0 blk off d w) (hab:a<=b) (hb:b<=d.size) (hsz:d.size<4611686018427387904) :
  Calls Tryz.prog 242 #[.slice (some ⟨blk,off,none⟩) d.size cap,.int .i64 a,.int .i64 b,.func (.func g) #[] cb] w fun e w'=>e = .returned (.tuple #[])/\SWK enc 13 w0 blk off (Sort.insertionSort (ltOf cf) d a b) w':=by
 have h:=AnyQ.insertionSortCmpFunc layIns 13 Tryz.isAgg66 Tryz.sizeOf66 enc C.len C.one cf g cb blk off cap a b d w C.ent (C.lays _ _ _ _) (S.holds R.hblk R.hH hs) (S.lt R.hblk) hab hb hsz
 refine Calls.mono h ?_
 rintro e w' ⟨he,n,os,rfl⟩
 refine ⟨he,S.on R.hblk n _ os ?_⟩
 exact (insertionSort_holds C.swo d a b hab hb).1.1
def QT (cf:α->α->Int) (lt':α->α->Bool) (y x:α):Prop:=decide (cf y x<0)=lt' y x
theorem ins_step (hC:SWO (ltOf cf)) (lt':α->α->Bool) (hO:SWO lt') {d dk:Array α} {n p b:Nat} (h:InsInv (QT cf lt') lt' d dk n 20 (p * 20)) (hn:n<=d.size) (hpn:p * 20<=n) (hb:b=min (p * 20+20) n)
  (hQ:∀ i j,i<j->j<n->QT cf lt' d[j]! d[i]!):InsInv (QT cf lt') lt' d (Sort.insertionSort (ltOf cf) dk (p * 20) b) n 20 b:=by
 have e:Sort.insertionSort (ltOf cf) dk (p * 20) b=Sort.insertionSort lt' dk (p * 20) b:=
  insertion_congr hC dk (p * 20) b (by rw [h.size];omega) fun q t h1 h2 h3=>by
   rw [h.rest q (by omega),h.rest t h1];exact hQ t q h2 (by omega)
 rw [e]
 have hh:=insertionSort_holds hO dk (p * 20) b (by omega) (by rw [h.size];omega)
 exact h.step hn hpn hb hh.1 hh.2


theorem stable_any (C:CmpOk enc cf g cb) (lt':α->α->Bool) (hO:SWO lt') (blk off cap n:Nat) (d:Array α) (w0:World) (R:RowK enc 13 w0 blk off d) (hn:n=d.size) (hsz:n<1152921504606846976)
  (hQ:∀ i j,i<j->j<n->QT cf lt' d[j]! d[i]!) :
  Calls Tryz.prog 240 #[.slice (some ⟨blk,off,none⟩) n cap,.int .i64 n,.func (.func g) #[] cb] w0 fun e w'=>e = .returned (.tuple #[]) /\ ∃ d',PermIn 0 n d d' /\ SortedIn lt' 0 n d' /\ SWK enc 13 w0 blk off d' w':=by
 have S0:Aside (SWK enc 13 w0 blk off d w0):=SWK.start R.hH
 have HQ:Hid (∀ i j,i<j->j<n->QT cf lt' d[j]! d[i]!):=Lib.hid hQ
 have HN:Hid (n=d.size):=Lib.hid hn
 have HI0:Hid (InsInv (QT cf lt') lt' d d n 20 0):=Lib.hid (InsInv.start hQ)
 have hsym:=fun N=>sym_any layTry enc cf lt' hO g cb blk off cap n d w0 C.ent (C.lays _ _ _ _) R hn.symm (by omega) N
 have HSym:=Lib.hid hsym
 clear hQ hn hsym
 go_enter Tryz.func240,Tryz.ntmps240
 go_wp2
 go_loopg [7,8] n (fun kx s7 s8 wr=>∃ (a:Nat) (dk:Array α),s7 = .int .i64 a/\s8 = .int .i64 ((a:Int)+20)/\a<=n/\n - a<=kx/\Hid (∃ p,a=p * 20)/\Hid (InsInv (QT cf lt') lt' d dk n 20 a)/\Aside (SWK enc 13 w0 blk off dk wr))
 case atStart=>exact ⟨0,d,rfl,rfl,Nat.zero_le _,by omega,⟨0,rfl⟩,HI0,S0⟩
 case round=>
  clear S0 HI0
  obtain ⟨a,dk,rfl,rfl,han,hkx,HP,HI,S1⟩:=hrel
  have hds:dk.size=n:=by rw [HN.out];exact HI.out.size
  by_cases hlt:a+20<=n
  ·have hins:=ins_any C blk off cap a (a+20) d dk w0 wr R (by rw [hds];exact HN.out) S1.out (by omega) (by omega) (by omega)
   rw [hds,show ((a+20:Nat):Int)=(a:Int)+20 by omega] at hins
   have HIns:=Lib.hid hins
   have HI2:Hid (InsInv (QT cf lt') lt' d (Sort.insertionSort (ltOf cf) dk a (a+20)) n 20 (a+20)):=by
    obtain ⟨p,hp⟩:=HP.out
    have H:=HI.out
    subst hp
    exact Lib.hid (ins_step C.swo lt' hO H (Nat.le_of_eq HN.out) han (by omega) HQ.out)
   have hltz:(a:Int)+20<=(n:Int):=by omega
   clear hins hds S1 HI
   go_wp2_with (go_at_call 242;refine HIns.out.mono ?_;rintro e w' ⟨rfl,S2⟩)
   go_roundg (n - (a+20))
   case measure=>omega
   case rel=>exact ⟨a+20,_,by go_num,by first | rfl | go_num | (congr 1;omega),hlt,Nat.le_refl _,Lib.hid (by obtain ⟨p,hp⟩:=HP.out;exact ⟨p+1,by omega⟩),HI2,S2⟩
  ·have hins:=ins_any C blk off cap a n d dk w0 wr R (by rw [hds];exact HN.out) S1.out (by omega) (by omega) (by omega)
   rw [hds] at hins
   have HIns:=Lib.hid hins
   have HI2:Hid (PassInv (QT cf lt') lt' d (Sort.insertionSort (ltOf cf) dk a n) n 20 0):=by
    obtain ⟨p,hp⟩:=HP.out
    have H:=HI.out
    subst hp
    exact Lib.hid ((ins_step C.swo lt' hO H (Nat.le_of_eq HN.out) han (by omega) HQ.out).pass (Nat.le_refl _))
   have hltz:¬ (a:Int)+20<=(n:Int):=by omega
   clear hins hds S1 HI HP hkx
   go_wp2_with (go_at_call 242;refine HIns.out.mono ?_;rintro e w1 ⟨rfl,S2⟩)
   have SA:Aside _:=S2
   clear S2
   generalize Sort.insertionSort (ltOf cf) dk a n=d1 at HI2 SA
   clear HIns hlt hltz han
   go_loopg [6,7,8,9] n (fun kx s6 _ _ _ wr=>∃ (L:Nat) (dk:Array α),s6 = .int .i64 L/\20<=L/\L<=2 * n+20/\n - L<=kx/\Hid (PassInv (QT cf lt') lt' d dk n L 0)/\Aside (SWK enc 13 w0 blk off dk wr))
   case atStart=>exact ⟨20,d1,rfl,Nat.le_refl _,by omega,by omega,HI2,SA⟩
   case round=>
    clear SA HI2
    obtain ⟨L,d2,rfl,hL,hL2,hkx,HP,S1⟩:=hrel
    by_cases hLn:L<n
    ·have hLnz:(L:Int)<(n:Int):=by omega
     obtain ⟨wo,hwo⟩:∃ wo,wo=wr:=⟨_,rfl⟩
     subst hwo
     go_wp2
     go_loopg [7,8] n (fun kx s7 s8 wr=>∃ (a:Nat) (dk:Array α),s7 = .int .i64 a/\s8 = .int .i64 ((a:Int)+2 * (L:Int))/\a<=n/\n - a<=kx/\Hid (∃ p,a=p * (2 * L))/\Hid (PassInv (QT cf lt') lt' d dk n L a)/\Aside (SWK enc 13 w0 blk off dk wr))
     case atStart=>exact ⟨0,d2,rfl,by first | rfl | go_num | (congr 1;omega),Nat.zero_le _,by omega,⟨0,by omega⟩,HP,S1⟩
     case round=>
      clear S1 HP
      obtain ⟨a,dk,rfl,rfl,han,hkx2,HPa,HPi,S1⟩:=hrel
      have hds:dk.size=n:=by rw [HN.out];exact HPi.out.size
      by_cases hlt:a+2 * L<=n
      ·have hr:SortedIn lt' a (a+L) dk/\SortedIn lt' (a+L) (a+2 * L) dk/\CrossQ (QT cf lt') dk a (a+L) (a+2 * L):=by
        obtain ⟨p,hp⟩:=HPa.out
        have H:=HPi.out
        subst hp
        exact H.ready (by omega) (by omega) (by omega)
       have hcon:=HSym.out (2 * L+1) a (a+L) (a+2 * L) dk wr (by omega) hds S1.out (by omega) (by omega) hlt hr.1 hr.2.1 hr.2.2
       rw [show ((a+L:Nat):Int)=(a:Int)+(L:Int) by omega,show ((a+2 * L:Nat):Int)=(a:Int)+2 * (L:Int) by omega] at hcon
       have HCon:=Lib.hid hcon
       have hltz:(a:Int)+2 * (L:Int)<=(n:Int):=by omega
       clear hcon hr hds S1
       go_wp2_with (go_at_call 243;refine HCon.out.mono ?_;rintro e w' ⟨rfl,d3,P3,O3,S3⟩)
       have HPn:Hid (PassInv (QT cf lt') lt' d d3 n L (a+2 * L)):=by
        obtain ⟨p,hp⟩:=HPa.out
        have H:=HPi.out
        subst hp
        exact Lib.hid (H.step (by omega) (Nat.le_of_eq HN.out) (by omega) P3 O3)
       clear P3 O3
       go_roundg (n - (a+2 * L))
       case measure=>omega
       case rel=>exact ⟨a+2 * L,d3,by first | rfl | go_num | (congr 1;omega),by first | rfl | go_num | (congr 1;omega),hlt,Nat.le_refl _,Lib.hid (by obtain ⟨p,hp⟩:=HPa.out;exact ⟨p+1,by rw [hp,Nat.add_mul,Nat.one_mul]⟩),HPn,S3⟩
      ·have hltz:¬ (a:Int)+2 * (L:Int)<=(n:Int):=by omega
       by_cases ht:a+L<n
       ·have htz:(a:Int)+(L:Int)<(n:Int):=by omega
        have hr:SortedIn lt' a (a+L) dk/\SortedIn lt' (a+L) n dk/\CrossQ (QT cf lt') dk a (a+L) n:=by
         obtain ⟨p,hp⟩:=HPa.out
         have H:=HPi.out
         subst hp
         exact H.ready (by omega) (by omega) (by omega)
        have hcon:=HSym.out (n+1) a (a+L) n dk wr (by omega) hds S1.out (by omega) (by omega) (Nat.le_refl _) hr.1 hr.2.1 hr.2.2
        rw [show ((a+L:Nat):Int)=(a:Int)+(L:Int) by omega] at hcon
        have HCon:=Lib.hid hcon
        clear hcon hr hds S1
        go_wp2_with (go_at_call 243;refine HCon.out.mono ?_;rintro e w' ⟨rfl,d3,P3,O3,S3⟩)
        have HPn:Hid (PassInv (QT cf lt') lt' d d3 n (2 * L) 0):=by
         obtain ⟨p,hp⟩:=HPa.out
         have H:=HPi.out
         subst hp
         exact Lib.hid ((H.step (e:=n) (by omega) (Nat.le_of_eq HN.out) (by omega) P3 O3).next (Nat.le_refl _))
        clear P3 O3
        go_roundg (n - 2 * L)
        case measure=>omega
        case rel=>exact ⟨2 * L,d3,by first | rfl | go_num | (congr 1;omega),by omega,by omega,Nat.le_refl _,HPn,S3⟩
       ·have htz:¬ (a:Int)+(L:Int)<(n:Int):=by omega
        have HPn:Hid (PassInv (QT cf lt') lt' d dk n (2 * L) 0):=by
         obtain ⟨p,hp⟩:=HPa.out
         have H:=HPi.out
         subst hp
         exact Lib.hid ((H.tail (by omega) (by omega)).next (Nat.le_refl _))
        go_wp2
        go_roundg (n - 2 * L)
        case measure=>omega
        case rel=>exact ⟨2 * L,dk,by first | rfl | go_num | (congr 1;omega),by omega,by omega,Nat.le_refl _,HPn,S1⟩
    ·have hLnz:¬ (L:Int)<(n:Int):=by omega
     go_wp2
     go_end0
     have hw:=HP.out.whole (by omega)
     exact ⟨rfl,d2,hw.1,hw.2,S1.out⟩

theorem sortStable_any (C:CmpOk enc cf g cb) (lt':α->α->Bool) (hO:SWO lt') (blk off cap n:Nat) (d:Array α) (w0:World) (R:RowK enc 13 w0 blk off d) (hn:n=d.size) (hsz:n<1152921504606846976)
  (hQ:∀ i j,i<j->j<n->QT cf lt' d[j]! d[i]!) :
  Calls Tryz.prog 234 #[.slice (some ⟨blk,off,none⟩) n cap,.func (.func g) #[] cb] w0 fun e w'=>e = .returned (.tuple #[]) /\ ∃ d',PermIn 0 n d d' /\ SortedIn lt' 0 n d' /\ SWK enc 13 w0 blk off d' w':=by
 have hcon:=Lib.hid (stable_any C lt' hO blk off cap n d w0 R hn hsz hQ)
 clear R hQ hn
 go_enter Tryz.func234,Tryz.ntmps234
 go_wp2_with (go_at_call 240;refine hcon.out.mono ?_;rintro e w' ⟨rfl,h⟩)
 go_end0
 exact ⟨rfl,h⟩

theorem ins_none (A:Option Addr) (c:Nat) (w:World):Calls Tryz.prog 242 #[.slice A 0 c,.int .i64 0,.int .i64 0,.func (.func g) #[] cb] w fun e w'=>e = .returned (.tuple #[])/\w=w':=by
 go_enter Tryz.func242,Tryz.ntmps242
 go_wp2
 refine wp_loop_rounds 1 ?_
 rw [rounds_succ]
 go_wp2
 go_end0
 exact ⟨rfl,rfl⟩

theorem stable_none (A:Option Addr) (c:Nat) (w:World):Calls Tryz.prog 240 #[.slice A 0 c,.int .i64 0,.func (.func g) #[] cb] w fun e w'=>e = .returned (.tuple #[])/\w=w':=by
 go_enter Tryz.func240,Tryz.ntmps240
 go_wp2
 refine wp_loop_rounds 1 ?_
 rw [rounds_succ]
 go_wp2_with (go_at_call 242;refine (ins_none _ _ _).mono ?_;rintro e w' ⟨rfl,rfl⟩)
 refine wp_loop_rounds 1 ?_
 rw [rounds_succ]
 go_wp2
 go_end0
 exact ⟨rfl,rfl⟩

theorem sortStable_none (A:Option Addr) (c:Nat) (w:World):Calls Tryz.prog 234 #[.slice A 0 c,.func (.func g) #[] cb] w fun e w'=>e = .returned (.tuple #[])/\w=w':=by
 go_enter Tryz.func234,Tryz.ntmps234
 go_wp2_with (go_at_call 240;refine (stable_none _ _ _).mono ?_;rintro e w' ⟨rfl,rfl⟩)
 go_end0
 exact ⟨rfl,rfl⟩
end
end StJ
namespace StJ
open Go.Shelf Go.RowKit Go.Lib Go.Sort Go.Proofs
section
variable {β:Type} [Inhabited β] {enc:β->List Value} {cf:β->β->Int} {g:Nat} {cb:Array Value}
structure CmpAny (enc:β->List Value) (cf:β->β->Int) (g:Nat) (cb:Array Value):Prop where
 len:∀ x,(enc x).length=13
 one:∀ x,∀ v ∈ enc x,v.oneCell' = true
 swo:SWO (ltOf cf)
 ent:∀ args w,(callFunc g args).run Tryz.prog w = .ok (.enter g args) w
 call:∀ x y W,Calls Tryz.prog g (#[.agg (enc x).toArray,.agg (enc y).toArray] ++ cb) W fun e w'=>e = .returned (.int .i64 (cf x y))/\Gw W w'
theorem CmpAny.tag (C:CmpAny enc cf g cb):CmpOk (fun x:β × Nat=>enc x.1) (cfTag cf) g cb:=
 ⟨fun x=>C.len x.1,fun x=>C.one x.1,swoCf C.swo,C.ent,fun _ _ _ _ _ _ _ _ x y=>C.call x.1 y.1 _⟩
theorem stable_own (C:CmpAny enc cf g cb) {l:List β} {w:World} {base:Nat} {v:Value} {A:Option Addr} {n cap:Nat} (hv:v = .slice A n cap) (hn:n=l.length) (h:OwnK w base 66 13 v (l.map enc)) (hb:base<=w.heap.size) (hl:n<1152921504606846976) :
  Calls Tryz.prog 234 #[.slice A n cap,.func (.func g) #[] cb] w fun e w'=>e = .returned (.tuple #[]) /\ ∃ W:List Nat,W.Perm (List.range l.length)/\W.Pairwise (Fore fun i y=>ltOf cf (l.getD i default) (l.getD y default))/\OwnK w' base 66 13 v ((W.map fun i=>l.getD i default).map enc)/\Below base w w':=by
 subst hv
 rcases h.2.2 with ⟨h1,h0⟩ | ⟨g1,cap1,cur,h1,hbg,hg,hn1,hm1,_,_⟩
 ·rw [List.length_map] at h0
  have hl0:l=[]:=List.length_eq_zero_iff.1 h0
  subst hl0
  injection h1 with e1 e2 e3
  subst e1 e2 e3
  refine (sortStable_none none 0 w).mono ?_
  rintro e w' ⟨he,rfl⟩
  exact ⟨he,[],by simp,List.Pairwise.nil,OwnK.nil _ _ _ _,Below.refl _ _⟩
 ·rw [List.length_map] at h1 hn1
  injection h1 with e1 e2 e3
  subst e1 e3
  have hmap:(tagd l).toList.map (fun x=>enc x.1)=l.map enc:=tagd_map l enc
  have hlen:(tagd l).toList.length=n:=by rw [hn,Array.length_toList,tagd_size]
  have h':OwnK w base 66 13 (.slice (some ⟨g1,0,none⟩) (tagd l).toList.length cap) ((tagd l).toList.map fun x=>enc x.1):=by rw [hmap,hlen];exact h
  have R:=own_row (enc:=fun x:β × Nat=>enc x.1) (k:=13) C.tag.len (by omega) C.tag.one h'
  rw [Array.toArray_toList] at R
  have hc:=sortStable_any C.tag (ltTag (ltOf cf)) (swoTag C.swo) g1 0 cap n (tagd l) w R (by rw [tagd_size];exact hn) hl (fun i j hij hj=>tagd_say hij (by omega))
  refine Calls.mono hc ?_
  rintro e w' ⟨he,D,hp,hs,hS⟩
  rw [hn] at hp hs
  obtain ⟨W,w1,w2,w3⟩:=stable_places hp hs
  have hD:D.size=(tagd l).toList.length:=by rw [hlen,hn,<- tagd_size l];exact hp.1
  have ho:=own_sorted (enc:=fun x:β × Nat=>enc x.1) (k:=13) C.tag.len (by omega) h' hS hD
  refine ⟨he,W,w1,w2,?_,sw_below hS hbg hb⟩
  rw [hlen] at ho
  rw [<- w3,List.map_map]
  exact ho
end
end StJ
end Go.Proofs.YtccccbofcnmdiaaGreat
