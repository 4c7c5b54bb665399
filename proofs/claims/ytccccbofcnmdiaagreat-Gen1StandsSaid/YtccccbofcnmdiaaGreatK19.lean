/- Lemmas that the law stands on. No condition. -/
import Derived.Test.YtccccbofcnmdiaaGreatK14
namespace Go.Proofs.YtccccbofcnmdiaaGreat
set_option linter.unusedSimpArgs false
set_option linter.unusedVariables false
set_option maxRecDepth 100000
set_option maxHeartbeats 51200000
namespace StJ
open Go.Shelf Go.RowKit Go.Lib Go.Sort Go.Proofs
structure LayS (P:Program) (k:Nat):Prop where
 mixed:P.follows .mixedOrders=true
 f34:P.funcs[245]? = some Tryz.f245
 f32:P.funcs[244]? = some Tryz.f244
 f30:P.funcs[243]? = some Tryz.f243
 t0:P.underlying 0=some (TypeDesc.tuple #[])
 a0:∀ w,(isAgg 0).run P w = .ok false w
 z0:∀ w,(Go.sizeOf 0).run P w = .ok 1 w
 v0:∀ w,(zeroValue 0).run P w = .ok (Value.tuple #[]) w
 t3:P.underlying 3=some (TypeDesc.int IntKind.i64)
 a3:∀ w,(isAgg 3).run P w = .ok false w
 z3:∀ w,(Go.sizeOf 3).run P w = .ok 1 w
 v3:∀ w,(zeroValue 3).run P w = .ok (Value.int IntKind.i64 0) w
 t4:P.underlying 4=some (TypeDesc.bool)
 a4:∀ w,(isAgg 4).run P w = .ok false w
 z4:∀ w,(Go.sizeOf 4).run P w = .ok 1 w
 v4:∀ w,(zeroValue 4).run P w = .ok (Value.bool false) w
 t22:P.underlying 29=some (TypeDesc.slice 66)
 a22:∀ w,(isAgg 29).run P w = .ok false w
 z22:∀ w,(Go.sizeOf 29).run P w = .ok 1 w
 v22:∀ w,(zeroValue 29).run P w = .ok (Value.slice none 0 0) w
 t40:P.underlying 231=some (TypeDesc.func #[66,66] #[3] false)
 a40:∀ w,(isAgg 231).run P w = .ok false w
 z40:∀ w,(Go.sizeOf 231).run P w = .ok 1 w
 v40:∀ w,(zeroValue 231).run P w = .ok (Value.nilFunc) w
 t45:P.underlying 74=some (TypeDesc.int IntKind.u64)
 a45:∀ w,(isAgg 74).run P w = .ok false w
 z45:∀ w,(Go.sizeOf 74).run P w = .ok 1 w
 v45:∀ w,(zeroValue 74).run P w = .ok (Value.int IntKind.u64 0) w
 aE:∀ w,(isAgg 66).run P w = .ok true w
 zE:∀ w,(Go.sizeOf 66).run P w = .ok k w
theorem layTry:LayS Tryz.prog 13:=⟨by kernel_rfl,Tryz.func245,Tryz.func244,Tryz.func243,Tryz.underlying0,Tryz.isAgg0,Tryz.sizeOf0,Tryz.zeroValue0,Tryz.underlying3,Tryz.isAgg3,Tryz.sizeOf3,Tryz.zeroValue3,
 Tryz.underlying4,Tryz.isAgg4,Tryz.sizeOf4,Tryz.zeroValue4,Tryz.underlying29,Tryz.isAgg29,Tryz.sizeOf29,Tryz.zeroValue29,Tryz.underlying231,Tryz.isAgg231,Tryz.sizeOf231,Tryz.zeroValue231,Tryz.underlying74,Tryz.isAgg74,Tryz.sizeOf74,Tryz.zeroValue74,Tryz.isAgg66,Tryz.sizeOf66⟩
variable {P:Program}{α:Type} [Inhabited α]


theorem swapRange_any {k:Nat}(L:LayS P k)(enc:α->List Value) (g:Nat)(cb:Array Value) (blk off cap a b n:Nat)(d0 d:Array α)(w0 w:World)
  (R:RowK enc k w0 blk off d0)(hs:d0.size=d.size)(S:SWK enc k w0 blk off d w)(hab:a+n<=d.size)(hb:b+n<=d.size)(hsz:d.size<4611686018427387904) :
  Calls P 245 #[.slice (some ⟨blk,off,none⟩) d.size cap,.int .i64 a,.int .i64 b,.int .i64 n,.func (.func g) #[] cb] w fun e w'=>e = .returned (.tuple #[])/\SWK enc k w0 blk off (swapN d a b n) w':=by
 have mixed:=L.mixed;have t0:=L.t0;have a0:=L.a0;have z0:=L.z0;have v0:=L.v0;have t3:=L.t3;have a3:=L.a3;have z3:=L.z3;have v3:=L.v3;have t4:=L.t4;have a4:=L.a4;have z4:=L.z4;have v4:=L.v4;have t22:=L.t22;have a22:=L.a22;have z22:=L.z22;have v22:=L.v22;have t40:=L.t40;have a40:=L.a40;have z40:=L.z40;have v40:=L.v40
 have aE:=L.aE;have zE:=L.zE
 have FG:=L.f34
 have S0:Aside (SWK enc k w0 blk off (swapN d a b 0) w):=S
 clear S
 go_enter FG,Tryz.ntmps245
 go_wp2
 go_loopg [10] n (fun kx s10 wr=>∃ i:Nat,s10 = .int .i64 i/\i<=n/\n - i<=kx/\Aside (SWK enc k w0 blk off (swapN d a b i) wr))
 case atStart=>exact ⟨0,rfl,Nat.zero_le _,by omega,S0⟩
 case round=>
  clear S0
  obtain ⟨i,rfl,hin,hkx,S1⟩:=hrel
  by_cases hlt:i<n
  ·have hds:(swapN d a b i).size=d.size:=size_swapN d a b i
   obtain ⟨dk,hdk⟩:∃ dk,dk=swapN d a b i:=⟨_,rfl⟩
   have hnx:swapN d a b (i+1)=swp (swapN d a b i) (a+i) (b+i):=rfl
   rw [<- hdk] at S1 hds hnx
   have HN:Hid _:=hnx
   clear hnx hdk
   have hltz:(i:Int)<(n:Int):=by omega
   go_wp2_with fail
   have ea:((a:Int)+(i:Int)).toNat=a+i:=by omega
   have pa:(0:Int)<=(a:Int)+(i:Int):=by omega
   have ba:(a:Int)+(i:Int)<(d.size:Int):=by omega
   have ra:IntKind.i64.wrap ((a:Int)+(i:Int))=(a:Int)+(i:Int):=by rw [IntKind.wrap_i64];omega
   have ec:((b:Int)+(i:Int)).toNat=b+i:=by omega
   have pc:(0:Int)<=(b:Int)+(i:Int):=by omega
   have bc:(b:Int)+(i:Int)<(d.size:Int):=by omega
   have rc:IntKind.i64.wrap ((b:Int)+(i:Int))=(b:Int)+(i:Int):=by rw [IntKind.wrap_i64];omega
   have S2:Aside (SWK enc k w0 blk off (swp dk (a+i) (b+i)) ((wr.drew.setCells blk (off+(a+i) * k) (enc dk[b+i]!)).setCells blk (off+(b+i) * k) (enc dk[a+i]!))):=S1.out.swapped R (a+i) (b+i) (by omega) (by omega)
   have l1:=S1.out.ld1 R (by omega) P (a+i) (by omega)
   have l2:=S1.out.ld1 R (by omega) P (b+i) (by omega)
   have s1:=S1.out.st1 R (by omega) P (a+i) (by omega) dk[b+i]!
   have s2:=S1.out.st2 R (by omega) P (a+i) (b+i) (by omega) (by omega) dk[b+i]! dk[a+i]!
   have n1:(enc dk[a+i]!).length=k:=R.hk _
   have n2:(enc dk[b+i]!).length=k:=R.hk _
   generalize enc dk[a+i]! = cI at S2 l1 s2 n1
   generalize enc dk[b+i]! = cJ at S2 l2 s1 s2 n2
   clear S1
   go_big_region_o
   clear l1 l2 s1 s2
   generalize (wr.drew.setCells blk (off+(a+i) * k) cJ).setCells blk (off+(b+i) * k) cI=w2 at S2 ⊢
   go_wp2
   go_roundg (n - (i+1))
   case measure=>omega
   case rel=>exact ⟨i+1,by go_num,by omega,Nat.le_refl _,(show Aside _ from by rw [HN.out];exact S2)⟩
  ·have hkn:i=n:=by omega
   have hltz:¬ (i:Int)<(n:Int):=by omega
   go_wp2
   go_end0
   exact ⟨rfl,by rw [<- hkn];exact S1.out⟩


theorem rotate_any {k:Nat}(L:LayS P k)(enc:α->List Value) (g:Nat)(cb:Array Value) (blk off cap a m b:Nat)(d0 d:Array α)(w0 w:World)
  (R:RowK enc k w0 blk off d0)(hs:d0.size=d.size)(S:SWK enc k w0 blk off d w)(ham:a<m)(hmb:m<b)(hb:b<=d.size)(hsz:d.size<4611686018427387904) :
  Calls P 244 #[.slice (some ⟨blk,off,none⟩) d.size cap,.int .i64 a,.int .i64 m,.int .i64 b,.func (.func g) #[] cb] w fun e w'=>e = .returned (.tuple #[]) /\ ∃ d',Rot d d' a m b/\SWK enc k w0 blk off d' w':=by
 have mixed:=L.mixed;have t0:=L.t0;have a0:=L.a0;have z0:=L.z0;have v0:=L.v0;have t3:=L.t3;have a3:=L.a3;have z3:=L.z3;have v3:=L.v3;have t4:=L.t4;have a4:=L.a4;have z4:=L.z4;have v4:=L.v4;have t22:=L.t22;have a22:=L.a22;have z22:=L.z22;have v22:=L.v22;have t40:=L.t40;have a40:=L.a40;have z40:=L.z40;have v40:=L.v40
 have e34:∀ args w,(callFunc 245 args).run P w = .ok (.enter 245 args) w:=enters_of L.f34 (by kernel_rfl) rfl
 have FG:=L.f32
 have S0:Aside (SWK enc k w0 blk off d w):=S
 clear S
 go_enter FG,Tryz.ntmps244
 go_wp2
 go_loopg [10,11] (b - a) (fun kx s10 s11 wr=>∃ (i j:Nat)(dk:Array α),s10 = .int .i64 i/\s11 = .int .i64 j/\0<i/\0<j/\i<=m - a/\m+j<=b/\i+j<=kx/\Hid (RotInv d dk (rotF d a m b) a m b i j)/\Aside (SWK enc k w0 blk off dk wr))
 case atStart=>exact ⟨m - a,b - m,d,congrArg (Value.int .i64) (by omega),congrArg (Value.int .i64) (by omega),by omega,by omega,by omega,by omega,by omega,RotInv.start d a m b (by omega) (by omega),S0⟩
 case round=>
  clear S0
  obtain ⟨i,j,dk,rfl,rfl,hi0,hj0,hi,hj,hkx,HI,S1⟩:=hrel
  have hds:dk.size=d.size:=HI.out.size
  have HD:Hid (dk.size=d.size):=hds
  have rm:IntKind.i64.wrap ((m:Int) - (i:Int))=(m:Int) - (i:Int):=by rw [IntKind.wrap_i64];omega
  have rs:IntKind.i64.wrap ((m:Int)+(j:Int))=(m:Int)+(j:Int):=by rw [IntKind.wrap_i64];omega
  have rt:IntKind.i64.wrap ((m:Int)+(j:Int) - (i:Int))=(m:Int)+(j:Int) - (i:Int):=by rw [IntKind.wrap_i64];omega
  have c1:((m - i:Nat):Int)=(m:Int) - (i:Int):=by omega
  by_cases heq:i=j
  ·subst heq
   have hcon:=swapRange_any L enc g cb blk off cap (m - i) m i d0 dk w0 wr R (by omega) S1.out (by omega) (by omega) (by omega)
   rw [hds,c1] at hcon
   have hsw:Rot d (swapN dk (m - i) m i) a m b:=HI.out.done hi (by omega) hj hb hi0
   have HS:Hid _:=hsw
   clear hsw hds c1 S1
   go_wp2_with (go_at_fn 245;refine hcon.mono ?_;rintro e w' ⟨rfl,S2⟩)
   go_end0
   exact ⟨rfl,_,HS.out,S2⟩
  ·by_cases hij:j<i
   ·have hcon:=swapRange_any L enc g cb blk off cap (m - i) m j d0 dk w0 wr R (by omega) S1.out (by omega) (by omega) (by omega)
    rw [hds,c1] at hcon
    have HN:Hid (RotInv d (swapN dk (m - i) m j) (rotF d a m b) a m b (i - j) j):=HI.out.more hi (by omega) hj hb hij hj0
    have hne:¬ (i:Int)=(j:Int):=by omega
    have hijz:(j:Int)<(i:Int):=by omega
    clear hds c1 S1 HI
    go_wp2_with (go_at_fn 245;refine hcon.mono ?_;rintro e w' ⟨rfl,S2⟩)
    go_roundg (i - j+j)
    case measure=>omega
    case rel=>exact ⟨i - j,j,_,congrArg (Value.int .i64) (by omega),rfl,by omega,hj0,by omega,hj,Nat.le_refl _,HN,S2⟩
   ·have hcon:=swapRange_any L enc g cb blk off cap (m - i) (m+j - i) i d0 dk w0 wr R (by omega) S1.out (by omega) (by omega) (by omega)
    have c2:((m+j - i:Nat):Int)=(m:Int)+(j:Int) - (i:Int):=by omega
    rw [hds,c1,c2] at hcon
    have HN:Hid (RotInv d (swapN dk (m - i) (m+j - i) i) (rotF d a m b) a m b i (j - i)):=HI.out.less hi (by omega) hj hb (by omega) hi0
    have hne:¬ (i:Int)=(j:Int):=by omega
    have hijz:¬ (j:Int)<(i:Int):=by omega
    clear hds c1 c2 S1 HI
    go_wp2_with (go_at_fn 245;refine hcon.mono ?_;rintro e w' ⟨rfl,S2⟩)
    go_roundg (i+(j - i))
    case measure=>omega
    case rel=>exact ⟨i,j - i,_,rfl,congrArg (Value.int .i64) (by omega),hi0,by omega,hi,by omega,Nat.le_refl _,HN,S2⟩
end StJ
namespace StJ
open Go.Shelf Go.RowKit Go.Lib Go.Sort Go.Proofs
variable {P:Program}{α:Type} [Inhabited α]
def Cross (cf:α->α->Int) (lt':α->α->Bool)(d:Array α) (a m b:Nat):Prop:=∀ i j,a<=i->i<m->m<=j->j<b->decide (cf d[j]! d[i]! < 0)=lt' d[j]! d[i]!
def Merged (lt':α->α->Bool)(enc:α->List Value) (k:Nat)(w0:World) (blk off:Nat)(d:Array α) (a b:Nat)(e:Ending) (w':World):Prop:=
 e = .returned (.tuple #[]) /\ ∃ d',PermIn a b d d' /\ SortedIn lt' a b d' /\ SWK enc k w0 blk off d' w'


theorem symA {k:Nat}(L:LayS P k)(enc:α->List Value)(cf:α->α->Int) (lt':α->α->Bool)(hO:SWO lt') (g:Nat)(cb:Array Value) (blk off cap a m b:Nat)(d0 d:Array α)(w0 w:World)
  (eg:∀ args w,(callFunc g args).run P w = .ok (.enter g args) w)(hcmp:CmpLays P g cb enc k cf blk off d.size w0)
  (R:RowK enc k w0 blk off d0)(hs:d0.size=d.size)(S:SWK enc k w0 blk off d w)(ham:m=a+1)(hmb:m<b)(hb:b<=d.size)(hsz:d.size<4611686018427387904)
  (h2:SortedIn lt' m b d)(hX:Cross cf lt' d a m b) :
  Calls P 243 #[.slice (some ⟨blk,off,none⟩) d.size cap,.int .i64 a,.int .i64 m,.int .i64 b,.func (.func g) #[] cb] w (Merged lt' enc k w0 blk off d a b):=by
 have mixed:=L.mixed;have t0:=L.t0;have a0:=L.a0;have z0:=L.z0;have v0:=L.v0;have t3:=L.t3;have a3:=L.a3;have z3:=L.z3;have v3:=L.v3;have t4:=L.t4;have a4:=L.a4;have z4:=L.z4;have v4:=L.v4;have t22:=L.t22;have a22:=L.a22;have z22:=L.z22;have v22:=L.v22;have t40:=L.t40;have a40:=L.a40;have z40:=L.z40;have v40:=L.v40;have t45:=L.t45;have a45:=L.a45;have z45:=L.z45;have v45:=L.v45
 have u22:=run_underlying L.t22;have u3:=run_underlying L.t3;have u45:=run_underlying L.t45
 have aE:=L.aE;have zE:=L.zE
 have FG:=L.f30
 have S0:Aside (SWK enc k w0 blk off d w):=S
 have HC:Hid _:=hcmp
 have H2:Hid _:=h2
 have HX:Hid _:=hX
 have hm1:((m:Int) - (a:Int) == 1)=true:=by simp;omega
 have HM:Hid (m=a+1):=ham
 have hma:a<m:=by omega
 have HF0:Hid (FindA lt' d a m b m b):=⟨fun t h1 h2=>by omega,fun t h1 h2=>by omega⟩
 clear S hcmp h2 hX ham
 go_enter FG,Tryz.ntmps243
 go_wp2
 go_loopg [10,11,12] (b - m) (fun kx s10 s11 _ wr=>∃ i j:Nat,s10 = .int .i64 i/\s11 = .int .i64 j/\m<=i/\i<=j/\j<=b/\j - i<=kx/\Hid (FindA lt' d a m b i j)/\Aside (SWK enc k w0 blk off d wr))
 case atStart=>exact ⟨m,b,rfl,rfl,Nat.le_refl _,by omega,Nat.le_refl _,Nat.le_refl _,HF0,S0⟩
 case round=>
  clear S0 HF0
  obtain ⟨i,j,rfl,rfl,hmi,hij,hjb,hkx,HF,S1⟩:=hrel
  by_cases hlt:i<j
  ·have hltz:(i:Int)<(j:Int):=by omega
   go_wp2_with fail
   rw [show ((i:Int)+(j:Int)) / 2=(((i+j) / 2:Nat):Int) by omega]
   obtain ⟨h,hh⟩:∃ h,h=(i+j) / 2:=⟨_,rfl⟩
   rw [<- hh]
   have hih:i<=h:=by omega
   have hhj:h<j:=by omega
   clear hh
   have eh:((h:Int)).toNat=h:=by omega
   have bh:(h:Int)<(d.size:Int):=by omega
   have rh:IntKind.i64.wrap (h:Int)=(h:Int):=by rw [IntKind.wrap_i64];omega
   have ea:((a:Int)).toNat=a:=by omega
   have ba:(a:Int)<(d.size:Int):=by omega
   have ra:IntKind.i64.wrap (a:Int)=(a:Int):=by rw [IntKind.wrap_i64];omega
   have lh:=S1.out.ld R (by omega) P h (by omega)
   have la:=S1.out.ld R (by omega) P a (by omega)
   have hcg:=S1.out.cmp HC.out rfl d[h]! d[a]!
   have hx:=HX.out a h (Nat.le_refl _) hma (by omega) (by omega)
   have HY:Hid (decide (cf d[h]! d[a]! < 0)=true->FindA lt' d a m b (h+1) j):=fun hy=>HF.out.up hO H2.out (by omega) (by omega) (by rw [<- hx];exact hy)
   have HN:Hid (decide (cf d[h]! d[a]! < 0)=false->FindA lt' d a m b i h):=fun hy=>HF.out.down hO H2.out (by omega) (by rw [<- hx];exact hy)
   have SG:Hid (∀ nq osq,SWK enc k w0 blk off d (grow (wr.drewN nq) osq)):=fun nq osq=>S1.out.grown nq osq
   clear hx S1 HF
   generalize hch:cf d[h]! d[a]! = ch at hcg HY HN
   clear hch
   generalize enc d[h]! = xh at lh hcg
   generalize enc d[a]! = xa at la hcg
   by_cases hlv:ch<0
   ·have HF2:Hid (FindA lt' d a m b (h+1) j):=HY.out (decide_eq_true hlv)
    clear HY HN
    go_quiet_grown (first | (go_at_fn g;refine Calls.grown_of (hcg _ _)))
    go_wp2
    go_roundg (j - (h+1))
    case measure=>omega
    case rel=>exact ⟨h+1,j,by go_num,rfl,by omega,by omega,hjb,Nat.le_refl _,HF2,SG.out nq osq⟩
   ·have HF2:Hid (FindA lt' d a m b i h):=HN.out (decide_eq_false hlv)
    clear HY HN
    go_quiet_grown (first | (go_at_fn g;refine Calls.grown_of (hcg _ _)))
    go_wp2
    go_roundg (h - i)
    case measure=>omega
    case rel=>exact ⟨i,h,rfl,rfl,hmi,by omega,by omega,Nat.le_refl _,HF2,SG.out nq osq⟩
  ·have hij':i=j:=by omega
   subst hij'
   obtain ⟨wo,hwo⟩:∃ wo,wo=wr:=⟨_,rfl⟩
   subst hwo
   clear hlt
   go_wp2
   go_loopg [13] (i - 1 - a) (fun kx s13 wr=>∃ (q:Nat)(dk:Array α),s13 = .int .i64 q/\a<=q/\q<=i - 1/\i - 1 - q<=kx/\Hid (MoveA d dk a b q)/\Aside (SWK enc k w0 blk off dk wr))
   case atStart=>exact ⟨a,d,rfl,Nat.le_refl _,by omega,Nat.le_refl _,MoveA.start d a b,S1⟩
   case round=>
    obtain ⟨q,dk,rfl,haq,hqi,hkx2,HV,S2⟩:=hrel
    have hds:dk.size=d.size:=HV.out.perm.1
    by_cases hlt:q<i - 1
    ·have hltz:(q:Int)<(i:Int) - 1:=by omega
     have HV2:Hid (MoveA d (swp dk q (q+1)) a b (q+1)):=HV.out.next haq (by omega) hb
     have eq0:((q:Int)).toNat=q:=by omega
     have bq:(q:Int)<(d.size:Int):=by omega
     have rq:IntKind.i64.wrap (q:Int)=(q:Int):=by rw [IntKind.wrap_i64];omega
     have eq1:((q:Int)+1).toNat=q+1:=by omega
     have pq1:(0:Int)<=(q:Int)+1:=by omega
     have bq1:(q:Int)+1<(d.size:Int):=by omega
     have rq1:IntKind.i64.wrap ((q:Int)+1)=(q:Int)+1:=by rw [IntKind.wrap_i64];omega
     have S3:Aside (SWK enc k w0 blk off (swp dk q (q+1)) ((wr.drew.setCells blk (off+q * k) (enc dk[q+1]!)).setCells blk (off+(q+1) * k) (enc dk[q]!))):=S2.out.swapped R q (q+1) (by omega) (by omega)
     have l1:=S2.out.ld1 R (by omega) P q (by omega)
     have l2:=S2.out.ld1 R (by omega) P (q+1) (by omega)
     have s1:=S2.out.st1 R (by omega) P q (by omega) dk[q+1]!
     have s2:=S2.out.st2 R (by omega) P q (q+1) (by omega) (by omega) dk[q+1]! dk[q]!
     have n1:(enc dk[q]!).length=k:=R.hk _
     have n2:(enc dk[q+1]!).length=k:=R.hk _
     have HD:Hid (dk.size=d.size):=hds
     generalize enc dk[q]! = cI at S3 l1 s2 n1
     generalize enc dk[q+1]! = cJ at S3 l2 s1 s2 n2
     clear S2 HV hds S1
     go_wp2_with fail
     go_big_region_o
     clear l1 l2 s1 s2
     generalize (wr.drew.setCells blk (off+q * k) cJ).setCells blk (off+(q+1) * k) cI=w2 at S3 ⊢
     go_wp2
     go_roundg (i - 1 - (q+1))
     case measure=>omega
     case rel=>exact ⟨q+1,_,by go_num,by omega,by omega,Nat.le_refl _,HV2,S3⟩
    ·have hqe:q=i - 1:=by omega
     subst hqe
     have hltz:¬ ((i - 1:Nat):Int)<(i:Int) - 1:=by omega
     have hfin:SortedIn lt' a b dk:=by
      have F:=HF.out
      have H:=H2.out
      rw [HM.out] at F H
      exact HV.out.done hO F H (by have:=HM.out;omega) hjb
     have HFin:Hid _:=hfin
     clear hfin S1
     go_wp2
     go_end0
     exact ⟨rfl,dk,HV.out.perm,HFin.out,S2.out⟩


theorem symB {k:Nat}(L:LayS P k)(enc:α->List Value)(cf:α->α->Int) (lt':α->α->Bool)(hO:SWO lt') (g:Nat)(cb:Array Value) (blk off cap a m b:Nat)(d0 d:Array α)(w0 w:World)
  (eg:∀ args w,(callFunc g args).run P w = .ok (.enter g args) w)(hcmp:CmpLays P g cb enc k cf blk off d.size w0)
  (R:RowK enc k w0 blk off d0)(hs:d0.size=d.size)(S:SWK enc k w0 blk off d w)(ham:a<m)(hna:m ≠ a+1)(hbm:b=m+1)(hb:b<=d.size)(hsz:d.size<4611686018427387904)
  (h2:SortedIn lt' a m d)(hX:Cross cf lt' d a m b) :
  Calls P 243 #[.slice (some ⟨blk,off,none⟩) d.size cap,.int .i64 a,.int .i64 m,.int .i64 b,.func (.func g) #[] cb] w (Merged lt' enc k w0 blk off d a b):=by
 have mixed:=L.mixed;have t0:=L.t0;have a0:=L.a0;have z0:=L.z0;have v0:=L.v0;have t3:=L.t3;have a3:=L.a3;have z3:=L.z3;have v3:=L.v3;have t4:=L.t4;have a4:=L.a4;have z4:=L.z4;have v4:=L.v4;have t22:=L.t22;have a22:=L.a22;have z22:=L.z22;have v22:=L.v22;have t40:=L.t40;have a40:=L.a40;have z40:=L.z40;have v40:=L.v40;have t45:=L.t45;have a45:=L.a45;have z45:=L.z45;have v45:=L.v45
 have u22:=run_underlying L.t22;have u3:=run_underlying L.t3;have u45:=run_underlying L.t45
 have aE:=L.aE;have zE:=L.zE
 have FG:=L.f30
 have S0:Aside (SWK enc k w0 blk off d w):=S
 have HC:Hid _:=hcmp
 have H2:Hid _:=h2
 have HX:Hid _:=hX
 have hm1:((m:Int) - (a:Int) == 1)=false:=by simp;omega
 have hb1:((b:Int) - (m:Int) == 1)=true:=by simp;omega
 have HB:Hid (b=m+1):=hbm
 have hmb:m<b:=by omega
 have hmb1:b<=m+1:=by omega
 have HF0:Hid (FindB lt' d a m a m):=⟨fun t h1 h2=>by omega,fun t h1 h2=>by omega⟩
 clear S hcmp h2 hX hna hbm
 go_enter FG,Tryz.ntmps243
 go_wp2
 go_loopg [14,15,16] (m - a) (fun kx s10 s11 _ wr=>∃ i j:Nat,s10 = .int .i64 i/\s11 = .int .i64 j/\a<=i/\i<=j/\j<=m/\j - i<=kx/\Hid (FindB lt' d a m i j)/\Aside (SWK enc k w0 blk off d wr))
 case atStart=>exact ⟨a,m,rfl,rfl,Nat.le_refl _,by omega,Nat.le_refl _,Nat.le_refl _,HF0,S0⟩
 case round=>
  clear S0 HF0
  obtain ⟨i,j,rfl,rfl,hai,hij,hjm,hkx,HF,S1⟩:=hrel
  by_cases hlt:i<j
  ·have hltz:(i:Int)<(j:Int):=by omega
   go_wp2_with fail
   rw [show ((i:Int)+(j:Int)) / 2=(((i+j) / 2:Nat):Int) by omega]
   obtain ⟨h,hh⟩:∃ h,h=(i+j) / 2:=⟨_,rfl⟩
   rw [<- hh]
   have hih:i<=h:=by omega
   have hhj:h<j:=by omega
   clear hh
   have eh:((h:Int)).toNat=h:=by omega
   have bh:(h:Int)<(d.size:Int):=by omega
   have rh:IntKind.i64.wrap (h:Int)=(h:Int):=by rw [IntKind.wrap_i64];omega
   have ea:((m:Int)).toNat=m:=by omega
   have ba:(m:Int)<(d.size:Int):=by omega
   have ra:IntKind.i64.wrap (m:Int)=(m:Int):=by rw [IntKind.wrap_i64];omega
   have lh:=S1.out.ld R (by omega) P h (by omega)
   have la:=S1.out.ld R (by omega) P m (by omega)
   have hcg:=S1.out.cmp HC.out rfl d[m]! d[h]!
   have hx:=HX.out h m (by omega) (by omega) (Nat.le_refl _) hmb
   have HY:Hid (decide (cf d[m]! d[h]! < 0)=true->FindB lt' d a m i h):=fun hy=>HF.out.down hO H2.out (by omega) (by rw [<- hx];exact hy)
   have HN:Hid (decide (cf d[m]! d[h]! < 0)=false->FindB lt' d a m (h+1) j):=fun hy=>HF.out.up hO H2.out (by omega) (by omega) (by rw [<- hx];exact hy)
   have SG:Hid (∀ nq osq,SWK enc k w0 blk off d (grow (wr.drewN nq) osq)):=fun nq osq=>S1.out.grown nq osq
   clear hx S1 HF
   generalize hch:cf d[m]! d[h]! = ch at hcg HY HN
   clear hch
   generalize enc d[h]! = xh at lh hcg
   generalize enc d[m]! = xa at la hcg
   by_cases hlv:ch<0
   ·have HF2:Hid (FindB lt' d a m i h):=HY.out (decide_eq_true hlv)
    clear HY HN
    go_quiet_grown (first | (go_at_fn g;refine Calls.grown_of (hcg _ _)))
    go_wp2
    go_roundg (h - i)
    case measure=>omega
    case rel=>exact ⟨i,h,rfl,rfl,hai,by omega,by omega,Nat.le_refl _,HF2,SG.out nq osq⟩
   ·have HF2:Hid (FindB lt' d a m (h+1) j):=HN.out (decide_eq_false hlv)
    clear HY HN
    go_quiet_grown (first | (go_at_fn g;refine Calls.grown_of (hcg _ _)))
    go_wp2
    go_roundg (j - (h+1))
    case measure=>omega
    case rel=>exact ⟨h+1,j,by go_num,rfl,by omega,by omega,hjm,Nat.le_refl _,HF2,SG.out nq osq⟩
  ·have hij':i=j:=by omega
   subst hij'
   obtain ⟨wo,hwo⟩:∃ wo,wo=wr:=⟨_,rfl⟩
   subst hwo
   clear hlt
   go_wp2
   go_loopg [17] (m - i) (fun kx s17 wr=>∃ (q:Nat)(dk:Array α),s17 = .int .i64 q/\i<=q/\q<=m/\q - i<=kx/\Hid (MoveB d dk a m q)/\Aside (SWK enc k w0 blk off dk wr))
   case atStart=>exact ⟨m,d,rfl,by omega,Nat.le_refl _,Nat.le_refl _,MoveB.start d a m,S1⟩
   case round=>
    obtain ⟨q',dk,rfl,hiq,hqm,hkx2,HV,S2⟩:=hrel
    have hds:dk.size=d.size:=HV.out.perm.1
    by_cases hlt:i<q'
    ·obtain ⟨q,rfl⟩:∃ q,q' = q+1:=⟨q' - 1,by omega⟩
     have hltz:(i:Int)<(q:Int)+1:=by omega
     have HV2:Hid (MoveB d (swp dk (q+1) q) a m q):=HV.out.next (by omega) hqm (by omega)
     have eq0:((q:Int)).toNat=q:=by omega
     have bq:(q:Int)<(d.size:Int):=by omega
     have rq:IntKind.i64.wrap (q:Int)=(q:Int):=by rw [IntKind.wrap_i64];omega
     have eq1:((q:Int)+1).toNat=q+1:=by omega
     have pq1:(0:Int)<=(q:Int)+1:=by omega
     have bq1:(q:Int)+1<(d.size:Int):=by omega
     have rq1:IntKind.i64.wrap ((q:Int)+1)=(q:Int)+1:=by rw [IntKind.wrap_i64];omega
     have S3:Aside (SWK enc k w0 blk off (swp dk (q+1) q) ((wr.drew.setCells blk (off+(q+1) * k) (enc dk[q]!)).setCells blk (off+q * k) (enc dk[q+1]!))):=S2.out.swapped R (q+1) q (by omega) (by omega)
     have l1:=S2.out.ld1 R (by omega) P (q+1) (by omega)
     have l2:=S2.out.ld1 R (by omega) P q (by omega)
     have s1:=S2.out.st1 R (by omega) P (q+1) (by omega) dk[q]!
     have s2:=S2.out.st2 R (by omega) P (q+1) q (by omega) (by omega) dk[q]! dk[q+1]!
     have n1:(enc dk[q+1]!).length=k:=R.hk _
     have n2:(enc dk[q]!).length=k:=R.hk _
     have HD:Hid (dk.size=d.size):=hds
     generalize enc dk[q+1]! = cI at S3 l1 s2 n1
     generalize enc dk[q]! = cJ at S3 l2 s1 s2 n2
     clear S2 HV hds S1
     go_wp2_with fail
     go_big_region_o
     clear l1 l2 s1 s2
     generalize (wr.drew.setCells blk (off+(q+1) * k) cJ).setCells blk (off+q * k) cI=w2 at S3 ⊢
     go_wp2
     go_roundg (q - i)
     case measure=>omega
     case rel=>exact ⟨q,_,by first | rfl | go_num | (congr 1;omega),by omega,by omega,Nat.le_refl _,HV2,S3⟩
    ·have hqe:q' = i:=by omega
     subst hqe
     have hltz:¬ (q':Int)<(q':Int):=by omega
     have hfin:PermIn a b d dk/\SortedIn lt' a b dk:=by
      rw [HB.out]
      exact ⟨HV.out.perm,HV.out.done hO HF.out H2.out hai hqm⟩
     have HFin:Hid _:=hfin
     clear hfin S1
     go_wp2
     go_end0
     exact ⟨rfl,dk,HFin.out.1,HFin.out.2,S2.out⟩
end StJ
namespace StJ
open Go.Shelf Go.RowKit Go.Lib Go.Sort Go.Proofs
variable {P:Program}{α:Type} [Inhabited α]
def SymRec (P:Program)(enc:α->List Value) (k:Nat)(cf:α->α->Int) (lt':α->α->Bool) (g:Nat)(cb:Array Value) (blk off cap size:Nat)(w0:World) (N:Nat):Prop:=
 ∀ (a' m' b':Nat) (d':Array α) (w':World),b' - a' < N->d'.size=size->SWK enc k w0 blk off d' w' -> a' < m' -> m' < b' -> b' <= size->SortedIn lt' a' m' d' -> SortedIn lt' m' b' d' -> Cross cf lt' d' a' m' b' ->
  Calls P 243 #[.slice (some ⟨blk,off,none⟩) size cap,.int .i64 a',.int .i64 m',.int .i64 b',.func (.func g) #[] cb] w' (Merged lt' enc k w0 blk off d' a' b')


theorem symC1 {k:Nat}(L:LayS P k)(enc:α->List Value)(cf:α->α->Int) (lt':α->α->Bool)(hO:SWO lt') (g:Nat)(cb:Array Value) (blk off cap a m b:Nat)(d0 d:Array α)(w0 w:World)
  (eg:∀ args w,(callFunc g args).run P w = .ok (.enter g args) w)(hcmp:CmpLays P g cb enc k cf blk off d.size w0)
  (R:RowK enc k w0 blk off d0)(hs:d0.size=d.size)(S:SWK enc k w0 blk off d w)(ham:a<m)(hna:m ≠ a+1)(hmb:m<b)(hnb:b ≠ m+1)(hb:b<=d.size)(hsz:d.size<4611686018427387904)
  (h1:SortedIn lt' a m d)(h2:SortedIn lt' m b d)(hX:Cross cf lt' d a m b)(hmm0:(a+b) / 2<m)(hrec0:SymRec P enc k cf lt' g cb blk off cap d.size w0 (b - a)) :
  Calls P 243 #[.slice (some ⟨blk,off,none⟩) d.size cap,.int .i64 a,.int .i64 m,.int .i64 b,.func (.func g) #[] cb] w (Merged lt' enc k w0 blk off d a b):=by
 have mixed:=L.mixed;have t0:=L.t0;have a0:=L.a0;have z0:=L.z0;have v0:=L.v0;have t3:=L.t3;have a3:=L.a3;have z3:=L.z3;have v3:=L.v3;have t4:=L.t4;have a4:=L.a4;have z4:=L.z4;have v4:=L.v4;have t22:=L.t22;have a22:=L.a22;have z22:=L.z22;have v22:=L.v22;have t40:=L.t40;have a40:=L.a40;have z40:=L.z40;have v40:=L.v40;have t45:=L.t45;have a45:=L.a45;have z45:=L.z45;have v45:=L.v45
 have u22:=run_underlying L.t22;have u3:=run_underlying L.t3;have u45:=run_underlying L.t45
 have aE:=L.aE;have zE:=L.zE
 have e30:∀ args w,(callFunc 243 args).run P w = .ok (.enter 243 args) w:=enters_of L.f30 (by kernel_rfl) rfl
 have e32:∀ args w,(callFunc 244 args).run P w = .ok (.enter 244 args) w:=enters_of L.f32 (by kernel_rfl) rfl
 have FG:=L.f30
 have S0:Aside (SWK enc k w0 blk off d w):=S
 have HC:=Lib.hid hcmp
 have H1:=Lib.hid h1
 have H2:=Lib.hid h2
 have HX:Hid (CrossQ (fun y x=>decide (cf y x<0)=lt' y x) d a m b):=hX
 have hrec:Hid (SymRec P enc k cf lt' g cb blk off cap d.size w0 (b - a)):=hrec0
 have hm1:((m:Int) - (a:Int) == 1)=false:=by simp;omega
 have hb1:((b:Int) - (m:Int) == 1)=false:=by simp;omega
 obtain ⟨mid,hmid⟩:∃ mid,mid=(a+b) / 2:=⟨_,rfl⟩
 obtain ⟨s0,hs0⟩:∃ s0,s0=if mid<m then mid+m - b else a:=⟨_,rfl⟩
 obtain ⟨r0,hr0⟩:∃ r0,r0=if mid<m then mid else m:=⟨_,rfl⟩
 have hmm:mid<m:=by omega
 have HBnd:Hid (BndC a m b mid s0 r0):=⟨ham,hmb,hmid,hs0,hr0⟩
 have hmd1:2 * mid<=a+b:=by omega
 have hmd2:a+b<2 * mid+2:=by omega
 have hsr0:s0<=r0:=by
  by_cases c:mid<m
  ·rw [if_pos c] at hs0 hr0;omega
  ·rw [if_neg c] at hs0 hr0;omega
 have hs0':(mid<m->(s0:Int)=(mid:Int)+m - b)/\(¬ mid<m->s0=a):=⟨fun c=>by rw [if_pos c] at hs0;omega,fun c=>by rw [if_neg c] at hs0;exact hs0⟩
 have hr0':(mid<m->r0=mid)/\(¬ mid<m->r0=m):=⟨fun c=>by rw [if_pos c] at hr0;exact hr0,fun c=>by rw [if_neg c] at hr0;exact hr0⟩
 have HS0:=Lib.hid hs0'
 have HR0:=Lib.hid hr0'
 have HF0:Hid (FindC lt' d s0 r0 (mid+m) s0 r0):=FindC.start d s0 r0 (mid+m)
 have hr0b:r0<=b:=by
  rcases Nat.lt_or_ge mid m with c | c
  ·rw [hr0'.1 c];omega
  ·rw [hr0'.2 (by omega)];omega
 clear S hcmp h1 h2 hX hrec0 hna hnb hmid hs0 hr0 hs0' hr0'
 have hmz:((a:Int)+(b:Int)) / 2<(m:Int):=by omega
 have e20:Value.int .i64 ((mid:Int)+(m:Int) - (b:Int)) = .int .i64 s0:=congrArg (Value.int .i64) (HS0.out.1 hmm).symm
 have e21:Value.int .i64 (mid:Int) = .int .i64 r0:=congrArg (Value.int .i64) (by rw [HR0.out.1 hmm])
 have HE20:=Lib.hid e20
 have HE21:=Lib.hid e21
 clear e20 e21
 go_enter FG,Tryz.ntmps243
 go_wp2_with fail
 rw [show ((a:Int)+(b:Int)) / 2=(mid:Int) by omega]
 go_loopg [20,21,23] (r0 - s0) (fun kx s20 s21 _ wr=>∃ i j:Nat,s20 = .int .i64 i/\s21 = .int .i64 j/\s0<=i/\i<=j/\j<=r0/\j - i<=kx/\Hid (FindC lt' d s0 r0 (mid+m) i j)/\Aside (SWK enc k w0 blk off d wr))
 case atStart=>exact ⟨s0,r0,HE20.out,HE21.out,Nat.le_refl _,hsr0,Nat.le_refl _,Nat.le_refl _,HF0,S0⟩
 case round=>
  clear S0 HF0 HE20 HE21
  obtain ⟨i,j,rfl,rfl,hsi,hij,hjr,hkx,HF,S1⟩:=hrel
  by_cases hlt:i<j
  ·have hltz:(i:Int)<(j:Int):=by omega
   go_wp2_with fail
   rw [show ((i:Int)+(j:Int)) / 2=(((i+j) / 2:Nat):Int) by omega]
   obtain ⟨h,hh⟩:∃ h,h=(i+j) / 2:=⟨_,rfl⟩
   rw [<- hh]
   have hih:i<=h:=by omega
   have hhj:h<j:=by omega
   clear hh
   obtain ⟨b1,b2,b3,b4,b5⟩:=HBnd.out.of (show s0<=h by omega) (show h<r0 by omega)
   obtain ⟨u,hu⟩:∃ u,u=mid+m - 1 - h:=⟨_,rfl⟩
   have HU:Hid (u=mid+m - 1 - h):=hu
   have eu:((mid:Int)+(m:Int) - 1 - (h:Int)).toNat=u:=by omega
   have pu:(0:Int)<=(mid:Int)+(m:Int) - 1 - (h:Int):=by omega
   have bu:(mid:Int)+(m:Int) - 1 - (h:Int)<(d.size:Int):=by omega
   have qu:(h:Int)<=(mid:Int)+(m:Int) - 1:=by omega
   have ru:IntKind.i64.wrap ((mid:Int)+(m:Int) - 1 - (h:Int))=(mid:Int)+(m:Int) - 1 - (h:Int):=by rw [IntKind.wrap_i64];omega
   have eh:((h:Int)).toNat=h:=by omega
   have bh:(h:Int)<(d.size:Int):=by omega
   have rh:IntKind.i64.wrap (h:Int)=(h:Int):=by rw [IntKind.wrap_i64];omega
   have lu:=S1.out.ld R (by omega) P u (by omega)
   have lh:=S1.out.ld R (by omega) P h (by omega)
   have hcg:=S1.out.cmp HC.out rfl d[u]! d[h]!
   have hx:=HX.out h u b1 b2 (by omega) (by omega)
   have HY:Hid (decide (cf d[u]! d[h]! < 0)=true->FindC lt' d s0 r0 (mid+m) i h):=fun hy=>HF.out.down hO HBnd.out H1.out H2.out (by omega) (by omega) (by rw [<- HU.out,<- hx];exact hy)
   have HN:Hid (decide (cf d[u]! d[h]! < 0)=false->FindC lt' d s0 r0 (mid+m) (h+1) j):=fun hy=>HF.out.up hO HBnd.out H1.out H2.out (by omega) (by omega) (by rw [<- HU.out,<- hx];exact hy)
   have SG:Hid (∀ nq osq,SWK enc k w0 blk off d (grow (wr.drewN nq) osq)):=fun nq osq=>S1.out.grown nq osq
   clear hx S1 HF hu
   generalize hch:cf d[u]! d[h]! = ch at hcg HY HN
   clear hch
   generalize enc d[u]! = xu at lu hcg
   generalize enc d[h]! = xh at lh hcg
   by_cases hlv:ch<0
   ·have HF2:Hid (FindC lt' d s0 r0 (mid+m) i h):=HY.out (decide_eq_true hlv)
    clear HY HN
    go_quiet_grown (first | (go_at_fn g;refine Calls.grown_of (hcg _ _)))
    go_wp2
    go_roundg (h - i)
    case measure=>omega
    case rel=>exact ⟨i,h,rfl,rfl,hsi,by omega,by omega,Nat.le_refl _,HF2,SG.out nq osq⟩
   ·have HF2:Hid (FindC lt' d s0 r0 (mid+m) (h+1) j):=HN.out (decide_eq_false hlv)
    clear HY HN
    go_quiet_grown (first | (go_at_fn g;refine Calls.grown_of (hcg _ _)))
    go_wp2
    go_roundg (j - (h+1))
    case measure=>omega
    case rel=>exact ⟨h+1,j,by go_num,rfl,by omega,by omega,hjr,Nat.le_refl _,HF2,SG.out nq osq⟩
  ·have hij':i=j:=by omega
   subst hij'
   obtain ⟨s,hsi'⟩:∃ s,s=i:=⟨_,rfl⟩
   subst hsi'
   have h0s:s0<=s:=hsi
   have hsr:s<=r0:=hjr
   obtain ⟨x1,x2,x3,x4,x5,x6,x7,x8⟩:=HBnd.out.ends h0s hsr
   have ce:((mid+m - s:Nat):Int)=(mid:Int)+(m:Int) - (s:Int):=by omega
   clear hlt hij hkx hsi hjr
   by_cases hsm:s<m
   ·by_cases hsd:s<mid
    ·by_cases has:a<s
     ·by_cases hse:mid+m - s<b
      ·have z1:(s:Int)<(m:Int):=by omega
       have z2:(m:Int)<(mid:Int)+(m:Int) - (s:Int):=by omega
       have z3:(a:Int)<(s:Int):=by omega
       have z4:(s:Int)<(mid:Int):=by omega
       have z5:(mid:Int)<(mid:Int)+(m:Int) - (s:Int):=by omega
       have z6:(mid:Int)+(m:Int) - (s:Int)<(b:Int):=by omega
       have hrot:=rotate_any L enc g cb blk off cap s m (mid+m - s) d0 d w0 wr R hs S1.out (by omega) (by omega) (by omega) hsz
       rw [ce] at hrot
       have HRot:=Lib.hid hrot;clear hrot
       go_wp2_with (go_at_fn 244;refine HRot.out.mono ?_;rintro e wa ⟨rfl,d1,R1,Sa⟩)
       have hlow:=cut_low x2 x3 x4 x7 x1 R1 H1.out H2.out HX.out
       have HLow:=Lib.hid hlow;clear hlow
       have HR1:=Lib.hid R1;clear R1
       have HSa:=Lib.hid Sa;clear Sa
       have hcl:=hrec.out a s mid d1 _ (by omega) HR1.out.size HSa.out (by omega) (by omega) (by omega) HLow.out.1 HLow.out.2.1 HLow.out.2.2
       have HCL:=Lib.hid hcl;clear hcl
       go_wp2_with (go_at_fn 243;refine HCL.out.mono ?_;rintro e wb ⟨rfl,d2,P2,O2,Sb⟩)
       have hhigh:=cut_high x2 x3 x4 x7 x1 HR1.out H1.out H2.out HX.out P2
       have HHigh:=Lib.hid hhigh;clear hhigh
       have HP2:=Lib.hid P2;clear P2
       have HO2:=Lib.hid O2;clear O2
       have HSb:=Lib.hid Sb;clear Sb
       have hch:=hrec.out mid (mid+m - s) b d2 _ (by omega) (HP2.out.1.trans HR1.out.size) HSb.out (by omega) (by omega) (by omega) HHigh.out.1 HHigh.out.2.1 HHigh.out.2.2
       rw [ce] at hch
       have HCH:=Lib.hid hch;clear hch
       go_wp2_with (go_at_fn 243;refine HCH.out.mono ?_;rintro e wc ⟨rfl,d3,P3,O3,Sc⟩)
       go_end0
       have hfin:=cut_done hO HBnd.out HF.out H1.out H2.out h0s hsr hb HR1.out HP2.out HO2.out P3 O3
       exact ⟨rfl,d3,hfin.1,hfin.2,Sc⟩
      ·have z1:(s:Int)<(m:Int):=by omega
       have z2:(m:Int)<(mid:Int)+(m:Int) - (s:Int):=by omega
       have z3:(a:Int)<(s:Int):=by omega
       have z4:(s:Int)<(mid:Int):=by omega
       have z5:(mid:Int)<(mid:Int)+(m:Int) - (s:Int):=by omega
       have z6:¬ (mid:Int)+(m:Int) - (s:Int)<(b:Int):=by omega
       have hrot:=rotate_any L enc g cb blk off cap s m (mid+m - s) d0 d w0 wr R hs S1.out (by omega) (by omega) (by omega) hsz
       rw [ce] at hrot
       have HRot:=Lib.hid hrot;clear hrot
       go_wp2_with (go_at_fn 244;refine HRot.out.mono ?_;rintro e wa ⟨rfl,d1,R1,Sa⟩)
       have hlow:=cut_low x2 x3 x4 x7 x1 R1 H1.out H2.out HX.out
       have HLow:=Lib.hid hlow;clear hlow
       have HR1:=Lib.hid R1;clear R1
       have HSa:=Lib.hid Sa;clear Sa
       have hcl:=hrec.out a s mid d1 _ (by omega) HR1.out.size HSa.out (by omega) (by omega) (by omega) HLow.out.1 HLow.out.2.1 HLow.out.2.2
       have HCL:=Lib.hid hcl;clear hcl
       go_wp2_with (go_at_fn 243;refine HCL.out.mono ?_;rintro e wb ⟨rfl,d2,P2,O2,Sb⟩)
       have hhigh:=cut_high x2 x3 x4 x7 x1 HR1.out H1.out H2.out HX.out P2
       have HHigh:=Lib.hid hhigh;clear hhigh
       have HP2:=Lib.hid P2;clear P2
       have HO2:=Lib.hid O2;clear O2
       have HSb:=Lib.hid Sb;clear Sb
       obtain ⟨d3,hd3⟩:∃ d3,d3=d2:=⟨_,rfl⟩
       have P3:PermIn mid b d2 d3:=by rw [hd3];exact permIn_refl _ _ _
       have O3:SortedIn lt' mid b d3:=by rw [hd3];first | exact sorted_glue0 HHigh.out.2.1 (by omega) | exact sorted_glue1 HHigh.out.1 (by omega)
       have Sc:=HSb.out;rw [<- hd3] at Sc
       clear hd3
       go_wp2
       go_end0
       have hfin:=cut_done hO HBnd.out HF.out H1.out H2.out h0s hsr hb HR1.out HP2.out HO2.out P3 O3
       exact ⟨rfl,d3,hfin.1,hfin.2,Sc⟩
     ·by_cases hse:mid+m - s<b
      ·have z1:(s:Int)<(m:Int):=by omega
       have z2:(m:Int)<(mid:Int)+(m:Int) - (s:Int):=by omega
       have z3:¬ (a:Int)<(s:Int):=by omega
       have z5:(mid:Int)<(mid:Int)+(m:Int) - (s:Int):=by omega
       have z6:(mid:Int)+(m:Int) - (s:Int)<(b:Int):=by omega
       have hrot:=rotate_any L enc g cb blk off cap s m (mid+m - s) d0 d w0 wr R hs S1.out (by omega) (by omega) (by omega) hsz
       rw [ce] at hrot
       have HRot:=Lib.hid hrot;clear hrot
       go_wp2_with (go_at_fn 244;refine HRot.out.mono ?_;rintro e wa ⟨rfl,d1,R1,Sa⟩)
       have hlow:=cut_low x2 x3 x4 x7 x1 R1 H1.out H2.out HX.out
       have HLow:=Lib.hid hlow;clear hlow
       have HR1:=Lib.hid R1;clear R1
       have HSa:=Lib.hid Sa;clear Sa
       obtain ⟨d2,hd2⟩:∃ d2,d2=d1:=⟨_,rfl⟩
       have P2:PermIn a mid d1 d2:=by rw [hd2];exact permIn_refl _ _ _
       have O2:SortedIn lt' a mid d2:=by rw [hd2];first | exact sorted_glue0 HLow.out.2.1 (by omega) | exact sorted_glue1 HLow.out.1 (by omega)
       have Sb:=HSa.out;rw [<- hd2] at Sb
       clear hd2
       have hhigh:=cut_high x2 x3 x4 x7 x1 HR1.out H1.out H2.out HX.out P2
       have HHigh:=Lib.hid hhigh;clear hhigh
       have HP2:=Lib.hid P2;clear P2
       have HO2:=Lib.hid O2;clear O2
       have HSb:=Lib.hid Sb;clear Sb
       have hch:=hrec.out mid (mid+m - s) b d2 _ (by omega) (HP2.out.1.trans HR1.out.size) HSb.out (by omega) (by omega) (by omega) HHigh.out.1 HHigh.out.2.1 HHigh.out.2.2
       rw [ce] at hch
       have HCH:=Lib.hid hch;clear hch
       go_wp2_with (go_at_fn 243;refine HCH.out.mono ?_;rintro e wc ⟨rfl,d3,P3,O3,Sc⟩)
       go_end0
       have hfin:=cut_done hO HBnd.out HF.out H1.out H2.out h0s hsr hb HR1.out HP2.out HO2.out P3 O3
       exact ⟨rfl,d3,hfin.1,hfin.2,Sc⟩
      ·have z1:(s:Int)<(m:Int):=by omega
       have z2:(m:Int)<(mid:Int)+(m:Int) - (s:Int):=by omega
       have z3:¬ (a:Int)<(s:Int):=by omega
       have z5:(mid:Int)<(mid:Int)+(m:Int) - (s:Int):=by omega
       have z6:¬ (mid:Int)+(m:Int) - (s:Int)<(b:Int):=by omega
       have hrot:=rotate_any L enc g cb blk off cap s m (mid+m - s) d0 d w0 wr R hs S1.out (by omega) (by omega) (by omega) hsz
       rw [ce] at hrot
       have HRot:=Lib.hid hrot;clear hrot
       go_wp2_with (go_at_fn 244;refine HRot.out.mono ?_;rintro e wa ⟨rfl,d1,R1,Sa⟩)
       have hlow:=cut_low x2 x3 x4 x7 x1 R1 H1.out H2.out HX.out
       have HLow:=Lib.hid hlow;clear hlow
       have HR1:=Lib.hid R1;clear R1
       have HSa:=Lib.hid Sa;clear Sa
       obtain ⟨d2,hd2⟩:∃ d2,d2=d1:=⟨_,rfl⟩
       have P2:PermIn a mid d1 d2:=by rw [hd2];exact permIn_refl _ _ _
       have O2:SortedIn lt' a mid d2:=by rw [hd2];first | exact sorted_glue0 HLow.out.2.1 (by omega) | exact sorted_glue1 HLow.out.1 (by omega)
       have Sb:=HSa.out;rw [<- hd2] at Sb
       clear hd2
       have hhigh:=cut_high x2 x3 x4 x7 x1 HR1.out H1.out H2.out HX.out P2
       have HHigh:=Lib.hid hhigh;clear hhigh
       have HP2:=Lib.hid P2;clear P2
       have HO2:=Lib.hid O2;clear O2
       have HSb:=Lib.hid Sb;clear Sb
       obtain ⟨d3,hd3⟩:∃ d3,d3=d2:=⟨_,rfl⟩
       have P3:PermIn mid b d2 d3:=by rw [hd3];exact permIn_refl _ _ _
       have O3:SortedIn lt' mid b d3:=by rw [hd3];first | exact sorted_glue0 HHigh.out.2.1 (by omega) | exact sorted_glue1 HHigh.out.1 (by omega)
       have Sc:=HSb.out;rw [<- hd3] at Sc
       clear hd3
       go_wp2
       go_end0
       have hfin:=cut_done hO HBnd.out HF.out H1.out H2.out h0s hsr hb HR1.out HP2.out HO2.out P3 O3
       exact ⟨rfl,d3,hfin.1,hfin.2,Sc⟩
    ·have z1:(s:Int)<(m:Int):=by omega
     have z2:¬ (m:Int)<(mid:Int)+(m:Int) - (s:Int):=by omega
     have z3:(a:Int)<(s:Int):=by omega
     have z4:¬ (s:Int)<(mid:Int):=by omega
     have z5:(mid:Int)<(mid:Int)+(m:Int) - (s:Int):=by omega
     have z6:(mid:Int)+(m:Int) - (s:Int)<(b:Int):=by omega
     obtain ⟨d1,hd1⟩:∃ d1,d1=d:=⟨_,rfl⟩
     have R1:Rot d d1 s m (mid+m - s):=by rw [hd1];exact Rot.none d s m (mid+m - s) (by omega) (by omega) (by omega)
     have Sa:SWK enc k w0 blk off d1 wr:=by rw [hd1];exact S1.out
     clear hd1
     have hlow:=cut_low x2 x3 x4 x7 x1 R1 H1.out H2.out HX.out
     have HLow:=Lib.hid hlow;clear hlow
     have HR1:=Lib.hid R1;clear R1
     have HSa:=Lib.hid Sa;clear Sa
     obtain ⟨d2,hd2⟩:∃ d2,d2=d1:=⟨_,rfl⟩
     have P2:PermIn a mid d1 d2:=by rw [hd2];exact permIn_refl _ _ _
     have O2:SortedIn lt' a mid d2:=by rw [hd2];first | exact sorted_glue0 HLow.out.2.1 (by omega) | exact sorted_glue1 HLow.out.1 (by omega)
     have Sb:=HSa.out;rw [<- hd2] at Sb
     clear hd2
     have hhigh:=cut_high x2 x3 x4 x7 x1 HR1.out H1.out H2.out HX.out P2
     have HHigh:=Lib.hid hhigh;clear hhigh
     have HP2:=Lib.hid P2;clear P2
     have HO2:=Lib.hid O2;clear O2
     have HSb:=Lib.hid Sb;clear Sb
     have hch:=hrec.out mid (mid+m - s) b d2 _ (by omega) (HP2.out.1.trans HR1.out.size) HSb.out (by omega) (by omega) (by omega) HHigh.out.1 HHigh.out.2.1 HHigh.out.2.2
     rw [ce] at hch
     have HCH:=Lib.hid hch;clear hch
     go_wp2_with (go_at_fn 243;refine HCH.out.mono ?_;rintro e wc ⟨rfl,d3,P3,O3,Sc⟩)
     go_end0
     have hfin:=cut_done hO HBnd.out HF.out H1.out H2.out h0s hsr hb HR1.out HP2.out HO2.out P3 O3
     exact ⟨rfl,d3,hfin.1,hfin.2,Sc⟩
   ·exfalso;omega
end StJ
namespace StJ
open Go.Shelf Go.RowKit Go.Lib Go.Sort Go.Proofs
variable {P:Program}{α:Type} [Inhabited α]
def SymRec' (P:Program)(enc:α->List Value) (k:Nat)(cf:α->α->Int) (lt':α->α->Bool) (g:Nat)(cb:Array Value) (blk off cap size:Nat)(w0:World) (N:Nat):Prop:=
 ∀ (a' m' b':Nat) (d':Array α) (w':World),b' - a' < N->d'.size=size->SWK enc k w0 blk off d' w' -> a' < m' -> m' < b' -> b' <= size->SortedIn lt' a' m' d' -> SortedIn lt' m' b' d' -> Cross cf lt' d' a' m' b' ->
  Calls P 243 #[.slice (some ⟨blk,off,none⟩) size cap,.int .i64 a',.int .i64 m',.int .i64 b',.func (.func g) #[] cb] w' (Merged lt' enc k w0 blk off d' a' b')


theorem symC2 {k:Nat}(L:LayS P k)(enc:α->List Value)(cf:α->α->Int) (lt':α->α->Bool)(hO:SWO lt') (g:Nat)(cb:Array Value) (blk off cap a m b:Nat)(d0 d:Array α)(w0 w:World)
  (eg:∀ args w,(callFunc g args).run P w = .ok (.enter g args) w)(hcmp:CmpLays P g cb enc k cf blk off d.size w0)
  (R:RowK enc k w0 blk off d0)(hs:d0.size=d.size)(S:SWK enc k w0 blk off d w)(ham:a<m)(hna:m ≠ a+1)(hmb:m<b)(hnb:b ≠ m+1)(hb:b<=d.size)(hsz:d.size<4611686018427387904)
  (h1:SortedIn lt' a m d)(h2:SortedIn lt' m b d)(hX:Cross cf lt' d a m b)(hmm0:¬ (a+b) / 2<m)(hrec0:SymRec' P enc k cf lt' g cb blk off cap d.size w0 (b - a)) :
  Calls P 243 #[.slice (some ⟨blk,off,none⟩) d.size cap,.int .i64 a,.int .i64 m,.int .i64 b,.func (.func g) #[] cb] w (Merged lt' enc k w0 blk off d a b):=by
 have mixed:=L.mixed;have t0:=L.t0;have a0:=L.a0;have z0:=L.z0;have v0:=L.v0;have t3:=L.t3;have a3:=L.a3;have z3:=L.z3;have v3:=L.v3;have t4:=L.t4;have a4:=L.a4;have z4:=L.z4;have v4:=L.v4;have t22:=L.t22;have a22:=L.a22;have z22:=L.z22;have v22:=L.v22;have t40:=L.t40;have a40:=L.a40;have z40:=L.z40;have v40:=L.v40;have t45:=L.t45;have a45:=L.a45;have z45:=L.z45;have v45:=L.v45
 have u22:=run_underlying L.t22;have u3:=run_underlying L.t3;have u45:=run_underlying L.t45
 have aE:=L.aE;have zE:=L.zE
 have e30:∀ args w,(callFunc 243 args).run P w = .ok (.enter 243 args) w:=enters_of L.f30 (by kernel_rfl) rfl
 have e32:∀ args w,(callFunc 244 args).run P w = .ok (.enter 244 args) w:=enters_of L.f32 (by kernel_rfl) rfl
 have FG:=L.f30
 have S0:Aside (SWK enc k w0 blk off d w):=S
 have HC:=Lib.hid hcmp
 have H1:=Lib.hid h1
 have H2:=Lib.hid h2
 have HX:Hid (CrossQ (fun y x=>decide (cf y x<0)=lt' y x) d a m b):=hX
 have hrec:Hid (SymRec' P enc k cf lt' g cb blk off cap d.size w0 (b - a)):=hrec0
 have hm1:((m:Int) - (a:Int) == 1)=false:=by simp;omega
 have hb1:((b:Int) - (m:Int) == 1)=false:=by simp;omega
 obtain ⟨mid,hmid⟩:∃ mid,mid=(a+b) / 2:=⟨_,rfl⟩
 obtain ⟨s0,hs0⟩:∃ s0,s0=if mid<m then mid+m - b else a:=⟨_,rfl⟩
 obtain ⟨r0,hr0⟩:∃ r0,r0=if mid<m then mid else m:=⟨_,rfl⟩
 have hmm:¬ mid<m:=by omega
 have HBnd:Hid (BndC a m b mid s0 r0):=⟨ham,hmb,hmid,hs0,hr0⟩
 have hmd1:2 * mid<=a+b:=by omega
 have hmd2:a+b<2 * mid+2:=by omega
 have hsr0:s0<=r0:=by
  by_cases c:mid<m
  ·rw [if_pos c] at hs0 hr0;omega
  ·rw [if_neg c] at hs0 hr0;omega
 have hs0':(mid<m->(s0:Int)=(mid:Int)+m - b)/\(¬ mid<m->s0=a):=⟨fun c=>by rw [if_pos c] at hs0;omega,fun c=>by rw [if_neg c] at hs0;exact hs0⟩
 have hr0':(mid<m->r0=mid)/\(¬ mid<m->r0=m):=⟨fun c=>by rw [if_pos c] at hr0;exact hr0,fun c=>by rw [if_neg c] at hr0;exact hr0⟩
 have HS0:=Lib.hid hs0'
 have HR0:=Lib.hid hr0'
 have HF0:Hid (FindC lt' d s0 r0 (mid+m) s0 r0):=FindC.start d s0 r0 (mid+m)
 have hr0b:r0<=b:=by
  rcases Nat.lt_or_ge mid m with c | c
  ·rw [hr0'.1 c];omega
  ·rw [hr0'.2 (by omega)];omega
 clear S hcmp h1 h2 hX hrec0 hna hnb hmid hs0 hr0 hs0' hr0'
 have hmz:¬ ((a:Int)+(b:Int)) / 2<(m:Int):=by omega
 have e20:Value.int .i64 (a:Int) = .int .i64 s0:=congrArg (Value.int .i64) (by rw [HS0.out.2 hmm])
 have e21:Value.int .i64 (m:Int) = .int .i64 r0:=congrArg (Value.int .i64) (by rw [HR0.out.2 hmm])
 have HE20:=Lib.hid e20
 have HE21:=Lib.hid e21
 clear e20 e21
 go_enter FG,Tryz.ntmps243
 go_wp2_with fail
 rw [show ((a:Int)+(b:Int)) / 2=(mid:Int) by omega]
 go_loopg [20,21,23] (r0 - s0) (fun kx s20 s21 _ wr=>∃ i j:Nat,s20 = .int .i64 i/\s21 = .int .i64 j/\s0<=i/\i<=j/\j<=r0/\j - i<=kx/\Hid (FindC lt' d s0 r0 (mid+m) i j)/\Aside (SWK enc k w0 blk off d wr))
 case atStart=>exact ⟨s0,r0,HE20.out,HE21.out,Nat.le_refl _,hsr0,Nat.le_refl _,Nat.le_refl _,HF0,S0⟩
 case round=>
  clear S0 HF0 HE20 HE21
  obtain ⟨i,j,rfl,rfl,hsi,hij,hjr,hkx,HF,S1⟩:=hrel
  by_cases hlt:i<j
  ·have hltz:(i:Int)<(j:Int):=by omega
   go_wp2_with fail
   rw [show ((i:Int)+(j:Int)) / 2=(((i+j) / 2:Nat):Int) by omega]
   obtain ⟨h,hh⟩:∃ h,h=(i+j) / 2:=⟨_,rfl⟩
   rw [<- hh]
   have hih:i<=h:=by omega
   have hhj:h<j:=by omega
   clear hh
   obtain ⟨b1,b2,b3,b4,b5⟩:=HBnd.out.of (show s0<=h by omega) (show h<r0 by omega)
   obtain ⟨u,hu⟩:∃ u,u=mid+m - 1 - h:=⟨_,rfl⟩
   have HU:Hid (u=mid+m - 1 - h):=hu
   have eu:((mid:Int)+(m:Int) - 1 - (h:Int)).toNat=u:=by omega
   have pu:(0:Int)<=(mid:Int)+(m:Int) - 1 - (h:Int):=by omega
   have bu:(mid:Int)+(m:Int) - 1 - (h:Int)<(d.size:Int):=by omega
   have qu:(h:Int)<=(mid:Int)+(m:Int) - 1:=by omega
   have ru:IntKind.i64.wrap ((mid:Int)+(m:Int) - 1 - (h:Int))=(mid:Int)+(m:Int) - 1 - (h:Int):=by rw [IntKind.wrap_i64];omega
   have eh:((h:Int)).toNat=h:=by omega
   have bh:(h:Int)<(d.size:Int):=by omega
   have rh:IntKind.i64.wrap (h:Int)=(h:Int):=by rw [IntKind.wrap_i64];omega
   have lu:=S1.out.ld R (by omega) P u (by omega)
   have lh:=S1.out.ld R (by omega) P h (by omega)
   have hcg:=S1.out.cmp HC.out rfl d[u]! d[h]!
   have hx:=HX.out h u b1 b2 (by omega) (by omega)
   have HY:Hid (decide (cf d[u]! d[h]! < 0)=true->FindC lt' d s0 r0 (mid+m) i h):=fun hy=>HF.out.down hO HBnd.out H1.out H2.out (by omega) (by omega) (by rw [<- HU.out,<- hx];exact hy)
   have HN:Hid (decide (cf d[u]! d[h]! < 0)=false->FindC lt' d s0 r0 (mid+m) (h+1) j):=fun hy=>HF.out.up hO HBnd.out H1.out H2.out (by omega) (by omega) (by rw [<- HU.out,<- hx];exact hy)
   have SG:Hid (∀ nq osq,SWK enc k w0 blk off d (grow (wr.drewN nq) osq)):=fun nq osq=>S1.out.grown nq osq
   clear hx S1 HF hu
   generalize hch:cf d[u]! d[h]! = ch at hcg HY HN
   clear hch
   generalize enc d[u]! = xu at lu hcg
   generalize enc d[h]! = xh at lh hcg
   by_cases hlv:ch<0
   ·have HF2:Hid (FindC lt' d s0 r0 (mid+m) i h):=HY.out (decide_eq_true hlv)
    clear HY HN
    go_quiet_grown (first | (go_at_fn g;refine Calls.grown_of (hcg _ _)))
    go_wp2
    go_roundg (h - i)
    case measure=>omega
    case rel=>exact ⟨i,h,rfl,rfl,hsi,by omega,by omega,Nat.le_refl _,HF2,SG.out nq osq⟩
   ·have HF2:Hid (FindC lt' d s0 r0 (mid+m) (h+1) j):=HN.out (decide_eq_false hlv)
    clear HY HN
    go_quiet_grown (first | (go_at_fn g;refine Calls.grown_of (hcg _ _)))
    go_wp2
    go_roundg (j - (h+1))
    case measure=>omega
    case rel=>exact ⟨h+1,j,by go_num,rfl,by omega,by omega,hjr,Nat.le_refl _,HF2,SG.out nq osq⟩
  ·have hij':i=j:=by omega
   subst hij'
   obtain ⟨s,hsi'⟩:∃ s,s=i:=⟨_,rfl⟩
   subst hsi'
   have h0s:s0<=s:=hsi
   have hsr:s<=r0:=hjr
   obtain ⟨x1,x2,x3,x4,x5,x6,x7,x8⟩:=HBnd.out.ends h0s hsr
   have ce:((mid+m - s:Nat):Int)=(mid:Int)+(m:Int) - (s:Int):=by omega
   clear hlt hij hkx hsi hjr
   by_cases hsm:s<m
   ·by_cases hsd:s<mid
    ·by_cases has:a<s
     ·by_cases hse:mid+m - s<b
      ·have z1:(s:Int)<(m:Int):=by omega
       have z2:(m:Int)<(mid:Int)+(m:Int) - (s:Int):=by omega
       have z3:(a:Int)<(s:Int):=by omega
       have z4:(s:Int)<(mid:Int):=by omega
       have z5:(mid:Int)<(mid:Int)+(m:Int) - (s:Int):=by omega
       have z6:(mid:Int)+(m:Int) - (s:Int)<(b:Int):=by omega
       have hrot:=rotate_any L enc g cb blk off cap s m (mid+m - s) d0 d w0 wr R hs S1.out (by omega) (by omega) (by omega) hsz
       rw [ce] at hrot
       have HRot:=Lib.hid hrot;clear hrot
       go_wp2_with (go_at_fn 244;refine HRot.out.mono ?_;rintro e wa ⟨rfl,d1,R1,Sa⟩)
       have hlow:=cut_low x2 x3 x4 x7 x1 R1 H1.out H2.out HX.out
       have HLow:=Lib.hid hlow;clear hlow
       have HR1:=Lib.hid R1;clear R1
       have HSa:=Lib.hid Sa;clear Sa
       have hcl:=hrec.out a s mid d1 _ (by omega) HR1.out.size HSa.out (by omega) (by omega) (by omega) HLow.out.1 HLow.out.2.1 HLow.out.2.2
       have HCL:=Lib.hid hcl;clear hcl
       go_wp2_with (go_at_fn 243;refine HCL.out.mono ?_;rintro e wb ⟨rfl,d2,P2,O2,Sb⟩)
       have hhigh:=cut_high x2 x3 x4 x7 x1 HR1.out H1.out H2.out HX.out P2
       have HHigh:=Lib.hid hhigh;clear hhigh
       have HP2:=Lib.hid P2;clear P2
       have HO2:=Lib.hid O2;clear O2
       have HSb:=Lib.hid Sb;clear Sb
       have hch:=hrec.out mid (mid+m - s) b d2 _ (by omega) (HP2.out.1.trans HR1.out.size) HSb.out (by omega) (by omega) (by omega) HHigh.out.1 HHigh.out.2.1 HHigh.out.2.2
       rw [ce] at hch
       have HCH:=Lib.hid hch;clear hch
       go_wp2_with (go_at_fn 243;refine HCH.out.mono ?_;rintro e wc ⟨rfl,d3,P3,O3,Sc⟩)
       go_end0
       have hfin:=cut_done hO HBnd.out HF.out H1.out H2.out h0s hsr hb HR1.out HP2.out HO2.out P3 O3
       exact ⟨rfl,d3,hfin.1,hfin.2,Sc⟩
      ·exfalso;omega
     ·by_cases hse:mid+m - s<b
      ·have z1:(s:Int)<(m:Int):=by omega
       have z2:(m:Int)<(mid:Int)+(m:Int) - (s:Int):=by omega
       have z3:¬ (a:Int)<(s:Int):=by omega
       have z5:(mid:Int)<(mid:Int)+(m:Int) - (s:Int):=by omega
       have z6:(mid:Int)+(m:Int) - (s:Int)<(b:Int):=by omega
       have hrot:=rotate_any L enc g cb blk off cap s m (mid+m - s) d0 d w0 wr R hs S1.out (by omega) (by omega) (by omega) hsz
       rw [ce] at hrot
       have HRot:=Lib.hid hrot;clear hrot
       go_wp2_with (go_at_fn 244;refine HRot.out.mono ?_;rintro e wa ⟨rfl,d1,R1,Sa⟩)
       have hlow:=cut_low x2 x3 x4 x7 x1 R1 H1.out H2.out HX.out
       have HLow:=Lib.hid hlow;clear hlow
       have HR1:=Lib.hid R1;clear R1
       have HSa:=Lib.hid Sa;clear Sa
       obtain ⟨d2,hd2⟩:∃ d2,d2=d1:=⟨_,rfl⟩
       have P2:PermIn a mid d1 d2:=by rw [hd2];exact permIn_refl _ _ _
       have O2:SortedIn lt' a mid d2:=by rw [hd2];first | exact sorted_glue0 HLow.out.2.1 (by omega) | exact sorted_glue1 HLow.out.1 (by omega)
       have Sb:=HSa.out;rw [<- hd2] at Sb
       clear hd2
       have hhigh:=cut_high x2 x3 x4 x7 x1 HR1.out H1.out H2.out HX.out P2
       have HHigh:=Lib.hid hhigh;clear hhigh
       have HP2:=Lib.hid P2;clear P2
       have HO2:=Lib.hid O2;clear O2
       have HSb:=Lib.hid Sb;clear Sb
       have hch:=hrec.out mid (mid+m - s) b d2 _ (by omega) (HP2.out.1.trans HR1.out.size) HSb.out (by omega) (by omega) (by omega) HHigh.out.1 HHigh.out.2.1 HHigh.out.2.2
       rw [ce] at hch
       have HCH:=Lib.hid hch;clear hch
       go_wp2_with (go_at_fn 243;refine HCH.out.mono ?_;rintro e wc ⟨rfl,d3,P3,O3,Sc⟩)
       go_end0
       have hfin:=cut_done hO HBnd.out HF.out H1.out H2.out h0s hsr hb HR1.out HP2.out HO2.out P3 O3
       exact ⟨rfl,d3,hfin.1,hfin.2,Sc⟩
      ·have z1:(s:Int)<(m:Int):=by omega
       have z2:(m:Int)<(mid:Int)+(m:Int) - (s:Int):=by omega
       have z3:¬ (a:Int)<(s:Int):=by omega
       have z5:(mid:Int)<(mid:Int)+(m:Int) - (s:Int):=by omega
       have z6:¬ (mid:Int)+(m:Int) - (s:Int)<(b:Int):=by omega
       have hrot:=rotate_any L enc g cb blk off cap s m (mid+m - s) d0 d w0 wr R hs S1.out (by omega) (by omega) (by omega) hsz
       rw [ce] at hrot
       have HRot:=Lib.hid hrot;clear hrot
       go_wp2_with (go_at_fn 244;refine HRot.out.mono ?_;rintro e wa ⟨rfl,d1,R1,Sa⟩)
       have hlow:=cut_low x2 x3 x4 x7 x1 R1 H1.out H2.out HX.out
       have HLow:=Lib.hid hlow;clear hlow
       have HR1:=Lib.hid R1;clear R1
       have HSa:=Lib.hid Sa;clear Sa
       obtain ⟨d2,hd2⟩:∃ d2,d2=d1:=⟨_,rfl⟩
       have P2:PermIn a mid d1 d2:=by rw [hd2];exact permIn_refl _ _ _
       have O2:SortedIn lt' a mid d2:=by rw [hd2];first | exact sorted_glue0 HLow.out.2.1 (by omega) | exact sorted_glue1 HLow.out.1 (by omega)
       have Sb:=HSa.out;rw [<- hd2] at Sb
       clear hd2
       have hhigh:=cut_high x2 x3 x4 x7 x1 HR1.out H1.out H2.out HX.out P2
       have HHigh:=Lib.hid hhigh;clear hhigh
       have HP2:=Lib.hid P2;clear P2
       have HO2:=Lib.hid O2;clear O2
       have HSb:=Lib.hid Sb;clear Sb
       obtain ⟨d3,hd3⟩:∃ d3,d3=d2:=⟨_,rfl⟩
       have P3:PermIn mid b d2 d3:=by rw [hd3];exact permIn_refl _ _ _
       have O3:SortedIn lt' mid b d3:=by rw [hd3];first | exact sorted_glue0 HHigh.out.2.1 (by omega) | exact sorted_glue1 HHigh.out.1 (by omega)
       have Sc:=HSb.out;rw [<- hd3] at Sc
       clear hd3
       go_wp2
       go_end0
       have hfin:=cut_done hO HBnd.out HF.out H1.out H2.out h0s hsr hb HR1.out HP2.out HO2.out P3 O3
       exact ⟨rfl,d3,hfin.1,hfin.2,Sc⟩
    ·exfalso;omega
   ·by_cases hsd:s<mid
    ·have z1:¬ (s:Int)<(m:Int):=by omega
     have z3:(a:Int)<(s:Int):=by omega
     have z4:(s:Int)<(mid:Int):=by omega
     have z5:¬ (mid:Int)<(mid:Int)+(m:Int) - (s:Int):=by omega
     obtain ⟨d1,hd1⟩:∃ d1,d1=d:=⟨_,rfl⟩
     have R1:Rot d d1 s m (mid+m - s):=by rw [hd1];exact Rot.none d s m (mid+m - s) (by omega) (by omega) (by omega)
     have Sa:SWK enc k w0 blk off d1 wr:=by rw [hd1];exact S1.out
     clear hd1
     have hlow:=cut_low x2 x3 x4 x7 x1 R1 H1.out H2.out HX.out
     have HLow:=Lib.hid hlow;clear hlow
     have HR1:=Lib.hid R1;clear R1
     have HSa:=Lib.hid Sa;clear Sa
     have hcl:=hrec.out a s mid d1 _ (by omega) HR1.out.size HSa.out (by omega) (by omega) (by omega) HLow.out.1 HLow.out.2.1 HLow.out.2.2
     have HCL:=Lib.hid hcl;clear hcl
     go_wp2_with (go_at_fn 243;refine HCL.out.mono ?_;rintro e wb ⟨rfl,d2,P2,O2,Sb⟩)
     have hhigh:=cut_high x2 x3 x4 x7 x1 HR1.out H1.out H2.out HX.out P2
     have HHigh:=Lib.hid hhigh;clear hhigh
     have HP2:=Lib.hid P2;clear P2
     have HO2:=Lib.hid O2;clear O2
     have HSb:=Lib.hid Sb;clear Sb
     obtain ⟨d3,hd3⟩:∃ d3,d3=d2:=⟨_,rfl⟩
     have P3:PermIn mid b d2 d3:=by rw [hd3];exact permIn_refl _ _ _
     have O3:SortedIn lt' mid b d3:=by rw [hd3];first | exact sorted_glue0 HHigh.out.2.1 (by omega) | exact sorted_glue1 HHigh.out.1 (by omega)
     have Sc:=HSb.out;rw [<- hd3] at Sc
     clear hd3
     go_wp2
     go_end0
     have hfin:=cut_done hO HBnd.out HF.out H1.out H2.out h0s hsr hb HR1.out HP2.out HO2.out P3 O3
     exact ⟨rfl,d3,hfin.1,hfin.2,Sc⟩
    ·have z1:¬ (s:Int)<(m:Int):=by omega
     have z3:(a:Int)<(s:Int):=by omega
     have z4:¬ (s:Int)<(mid:Int):=by omega
     have z5:¬ (mid:Int)<(mid:Int)+(m:Int) - (s:Int):=by omega
     obtain ⟨d1,hd1⟩:∃ d1,d1=d:=⟨_,rfl⟩
     have R1:Rot d d1 s m (mid+m - s):=by rw [hd1];exact Rot.none d s m (mid+m - s) (by omega) (by omega) (by omega)
     have Sa:SWK enc k w0 blk off d1 wr:=by rw [hd1];exact S1.out
     clear hd1
     have hlow:=cut_low x2 x3 x4 x7 x1 R1 H1.out H2.out HX.out
     have HLow:=Lib.hid hlow;clear hlow
     have HR1:=Lib.hid R1;clear R1
     have HSa:=Lib.hid Sa;clear Sa
     obtain ⟨d2,hd2⟩:∃ d2,d2=d1:=⟨_,rfl⟩
     have P2:PermIn a mid d1 d2:=by rw [hd2];exact permIn_refl _ _ _
     have O2:SortedIn lt' a mid d2:=by rw [hd2];first | exact sorted_glue0 HLow.out.2.1 (by omega) | exact sorted_glue1 HLow.out.1 (by omega)
     have Sb:=HSa.out;rw [<- hd2] at Sb
     clear hd2
     have hhigh:=cut_high x2 x3 x4 x7 x1 HR1.out H1.out H2.out HX.out P2
     have HHigh:=Lib.hid hhigh;clear hhigh
     have HP2:=Lib.hid P2;clear P2
     have HO2:=Lib.hid O2;clear O2
     have HSb:=Lib.hid Sb;clear Sb
     obtain ⟨d3,hd3⟩:∃ d3,d3=d2:=⟨_,rfl⟩
     have P3:PermIn mid b d2 d3:=by rw [hd3];exact permIn_refl _ _ _
     have O3:SortedIn lt' mid b d3:=by rw [hd3];first | exact sorted_glue0 HHigh.out.2.1 (by omega) | exact sorted_glue1 HHigh.out.1 (by omega)
     have Sc:=HSb.out;rw [<- hd3] at Sc
     clear hd3
     go_wp2
     go_end0
     have hfin:=cut_done hO HBnd.out HF.out H1.out H2.out h0s hsr hb HR1.out HP2.out HO2.out P3 O3
     exact ⟨rfl,d3,hfin.1,hfin.2,Sc⟩
end StJ
namespace StJ
open Go.Shelf Go.RowKit Go.Lib Go.Sort Go.Proofs
variable {P:Program}{α:Type} [Inhabited α]
theorem sym_any {k:Nat}(L:LayS P k)(enc:α->List Value)(cf:α->α->Int) (lt':α->α->Bool)(hO:SWO lt') (g:Nat)(cb:Array Value) (blk off cap size:Nat)(d0:Array α)(w0:World)
  (eg:∀ args w,(callFunc g args).run P w = .ok (.enter g args) w)(hcmp:CmpLays P g cb enc k cf blk off size w0)
  (R:RowK enc k w0 blk off d0)(hs:d0.size=size)(hsz:size<4611686018427387904):∀ N,SymRec P enc k cf lt' g cb blk off cap size w0 N:=by
 intro N
 induction N with
 | zero=>intro a m b d w h;omega
 | succ N ih=>
  intro a m b d w hN hd S ham hmb hb h1 h2 hX
  by_cases hA:m=a+1
  ·subst hd;exact symA L enc cf lt' hO g cb blk off cap a m b d0 d w0 w eg hcmp R hs S hA hmb hb hsz h2 hX
  ·by_cases hB:b=m+1
   ·subst hd;exact symB L enc cf lt' hO g cb blk off cap a m b d0 d w0 w eg hcmp R hs S ham hA hB hb hsz h1 hX
   ·subst hd
    by_cases hC:(a+b) / 2<m
    ·exact symC1 L enc cf lt' hO g cb blk off cap a m b d0 d w0 w eg hcmp R hs S ham hA hmb hB hb hsz h1 h2 hX hC (fun a' m' b' d' w' hl=>ih a' m' b' d' w' (by omega))
    ·exact symC2 L enc cf lt' hO g cb blk off cap a m b d0 d w0 w eg hcmp R hs S ham hA hmb hB hb hsz h1 h2 hX hC (fun a' m' b' d' w' hl=>ih a' m' b' d' w' (by omega))
end StJ
end Go.Proofs.YtccccbofcnmdiaaGreat
