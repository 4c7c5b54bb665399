/- Lemmas that the law stands on. No condition. -/
import Derived.Test.YtccccbofcnmdiaaGreatK16
import Derived.Test.YtccccbofcnmdiaaGreatK18
import Derived.Test.YtccccbofcnmdiaaGreatK19
namespace Go.Proofs.YtccccbofcnmdiaaGreat
set_option linter.unusedSimpArgs false
set_option linter.unusedVariables false
set_option maxRecDepth 100000
set_option maxHeartbeats 51200000
namespace StJ
open Go.Shelf Go.RowKit Go.Lib Go.Sort Go.Proofs
def renI:Ren:=⟨fun x=>if x=20 then 242 else x,fun x=>if x=24 then 66 else if x=25 then 231 else if x=22 then 29 else x,fun x=>x⟩
theorem layIns:SlLaysF0.n20 Tryz.prog renI where
 mixed:=by kernel_rfl
 f20:=⟨Tryz.f242.name,by kernel_rfl,by kernel_rfl⟩
 t0:=Tryz.underlying0
 a0:=Tryz.isAgg0
 z0:=Tryz.sizeOf0
 v0:=Tryz.zeroValue0
 t3:=Tryz.underlying3
 a3:=Tryz.isAgg3
 z3:=Tryz.sizeOf3
 v3:=Tryz.zeroValue3
 t4:=Tryz.underlying4
 a4:=Tryz.isAgg4
 z4:=Tryz.sizeOf4
 v4:=Tryz.zeroValue4
 t22:=Tryz.underlying29
 a22:=Tryz.isAgg29
 z22:=Tryz.sizeOf29
 v22:=Tryz.zeroValue29
 t25:=Tryz.underlying231
 a25:=Tryz.isAgg231
 z25:=Tryz.sizeOf231
 v25:=Tryz.zeroValue231
section
variable {α:Type} [Inhabited α]{enc:α->List Value}{cf:α->α->Int}{g:Nat}{cb:Array Value}
structure CmpOk (enc:α->List Value)(cf:α->α->Int) (g:Nat)(cb:Array Value):Prop where
 len:∀ x,(enc x).length=13
 one:∀ x,∀ v ∈ enc x,v.oneCell' = true
 swo:SWO (ltOf cf)
 ent:∀ args w,(callFunc g args).run Tryz.prog w = .ok (.enter g args) w
 lays:∀ blk off size w,CmpLays Tryz.prog g cb enc 13 cf blk off size w
theorem ins_any (C:CmpOk enc cf g cb) (blk off cap a b:Nat)(d0 d:Array α)(w0 w:World)(R:RowK enc 13 w0 blk off d0)(hs:d.size=d0.size)(S:SWK enc 13 w0 blk off d w)(hab:a<=b)(hb:b<=d.size)(hsz:d.size<4611686018427387904) :
  Calls Tryz.prog 242 #[.slice (some ⟨blk,off,none⟩) d.size cap,.int .i64 a,.int .i64 b,.func (.func g) #[] cb] w fun e w'=>e = .returned (.tuple #[])/\SWK enc 13 w0 blk off (Sort.insertionSort (ltOf cf) d a b) w':=by
 have h:=AnyQ.insertionSortCmpFunc layIns 13 Tryz.isAgg66 Tryz.sizeOf66 enc C.len C.one cf g cb blk off cap a b d w C.ent (C.lays _ _ _ _) (S.holds R.hblk R.hH hs) (S.lt R.hblk) hab hb hsz
 refine Calls.mono h ?_
 rintro e w' ⟨he,n,os,rfl⟩
 refine ⟨he,S.on R.hblk n _ os ?_⟩
 exact (insertionSort_holds C.swo d a b hab hb).1.1
def QT (cf:α->α->Int) (lt':α->α->Bool)(y x:α):Prop:=decide (cf y x<0)=lt' y x
theorem ins_step (hC:SWO (ltOf cf)) (lt':α->α->Bool)(hO:SWO lt'){d dk:Array α}{n p b:Nat}(h:InsInv (QT cf lt') lt' d dk n 20 (p * 20))(hn:n<=d.size)(hpn:p * 20<=n)(hb:b=min (p * 20+20) n)
  (hQ:∀ i j,i<j->j<n->QT cf lt' d[j]! d[i]!):InsInv (QT cf lt') lt' d (Sort.insertionSort (ltOf cf) dk (p * 20) b) n 20 b:=by
 have e:Sort.insertionSort (ltOf cf) dk (p * 20) b=Sort.insertionSort lt' dk (p * 20) b:=
  insertion_congr hC dk (p * 20) b (by rw [h.size];omega) fun q t h1 h2 h3=>by
   rw [h.rest q (by omega),h.rest t h1];exact hQ t q h2 (by omega)
 rw [e]
 have hh:=insertionSort_holds hO dk (p * 20) b (by omega) (by rw [h.size];omega)
 exact h.step hn hpn hb hh.1 hh.2


theorem stable_any (C:CmpOk enc cf g cb) (lt':α->α->Bool)(hO:SWO lt') (blk off cap n:Nat)(d:Array α)(w0:World)(R:RowK enc 13 w0 blk off d)(hn:n=d.size)(hsz:n<1152921504606846976)
  (hQ:∀ i j,i<j->j<n->QT cf lt' d[j]! d[i]!) :
  Calls Tryz.prog 240 #[.slice (some ⟨blk,off,none⟩) n cap,.int .i64 n,.func (.func g) #[] cb] w0 fun e w'=>e = .returned (.tuple #[]) /\ ∃ d',PermIn 0 n d d' /\ SortedIn lt' 0 n d' /\ SWK enc 13 w0 blk off d' w':=by
 have S0:Aside (SWK enc 13 w0 blk off d w0):=SWK.start R.hH
 have HQ:Hid (∀ i j,i<j->j<n->QT cf lt' d[j]! d[i]!):=Lib.hid hQ
 have HN:Hid (n=d.size):=Lib.hid hn
 have HI0:Hid (InsInv (QT cf lt') lt' d d n 20 0):=Lib.hid (InsInv.start hQ)
 have hsym:=fun N=>sym_any layTry enc cf lt' hO g cb blk off cap n d w0 C.ent (C.lays _ _ _ _) R hn.symm (by omega) N
 have HSym:=Lib.hid hsym
 clear hQ hn hsym
 go_enter Tryz.func240,Tryz.ntmps240
 go_wp2
 go_loopg [7,8] n (fun kx s7 s8 wr=>∃ (a:Nat)(dk:Array α),s7 = .int .i64 a/\s8 = .int .i64 ((a:Int)+20)/\a<=n/\n - a<=kx/\Hid (∃ p,a=p * 20)/\Hid (InsInv (QT cf lt') lt' d dk n 20 a)/\Aside (SWK enc 13 w0 blk off dk wr))
 case atStart=>exact ⟨0,d,rfl,rfl,Nat.zero_le _,by omega,⟨0,rfl⟩,HI0,S0⟩
 case round=>
  clear S0 HI0
  obtain ⟨a,dk,rfl,rfl,han,hkx,HP,HI,S1⟩:=hrel
  have hds:dk.size=n:=by rw [HN.out];exact HI.out.size
  by_cases hlt:a+20<=n
  ·have hins:=ins_any C blk off cap a (a+20) d dk w0 wr R (by rw [hds];exact HN.out) S1.out (by omega) (by omega) (by omega)
   rw [hds,show ((a+20:Nat):Int)=(a:Int)+20 by omega] at hins
   have HIns:=Lib.hid hins
   have HI2:Hid (InsInv (QT cf lt') lt' d (Sort.insertionSort (ltOf cf) dk a (a+20)) n 20 (a+20)):=by
    obtain ⟨p,hp⟩:=HP.out
    have H:=HI.out
    subst hp
    exact Lib.hid (ins_step C.swo lt' hO H (Nat.le_of_eq HN.out) han (by omega) HQ.out)
   have hltz:(a:Int)+20<=(n:Int):=by omega
   clear hins hds S1 HI
   go_wp2_with (go_at_call 242;refine HIns.out.mono ?_;rintro e w' ⟨rfl,S2⟩)
   go_roundg (n - (a+20))
   case measure=>omega
   case rel=>exact ⟨a+20,_,by go_num,by first | rfl | go_num | (congr 1;omega),hlt,Nat.le_refl _,Lib.hid (by obtain ⟨p,hp⟩:=HP.out;exact ⟨p+1,by omega⟩),HI2,S2⟩
  ·have hins:=ins_any C blk off cap a n d dk w0 wr R (by rw [hds];exact HN.out) S1.out (by omega) (by omega) (by omega)
   rw [hds] at hins
   have HIns:=Lib.hid hins
   have HI2:Hid (PassInv (QT cf lt') lt' d (Sort.insertionSort (ltOf cf) dk a n) n 20 0):=by
    obtain ⟨p,hp⟩:=HP.out
    have H:=HI.out
    subst hp
    exact Lib.hid ((ins_step C.swo lt' hO H (Nat.le_of_eq HN.out) han (by omega) HQ.out).pass (Nat.le_refl _))
   have hltz:¬ (a:Int)+20<=(n:Int):=by omega
   clear hins hds S1 HI HP hkx
   go_wp2_with (go_at_call 242;refine HIns.out.mono ?_;rintro e w1 ⟨rfl,S2⟩)
   have SA:Aside _:=S2
   clear S2
   generalize Sort.insertionSort (ltOf cf) dk a n=d1 at HI2 SA
   clear HIns hlt hltz han
   go_loopg [6,7,8,9] n (fun kx s6 _ _ _ wr=>∃ (L:Nat)(dk:Array α),s6 = .int .i64 L/\20<=L/\L<=2 * n+20/\n - L<=kx/\Hid (PassInv (QT cf lt') lt' d dk n L 0)/\Aside (SWK enc 13 w0 blk off dk wr))
   case atStart=>exact ⟨20,d1,rfl,Nat.le_refl _,by omega,by omega,HI2,SA⟩
   case round=>
    clear SA HI2
    obtain ⟨L,d2,rfl,hL,hL2,hkx,HP,S1⟩:=hrel
    by_cases hLn:L<n
    ·have hLnz:(L:Int)<(n:Int):=by omega
     obtain ⟨wo,hwo⟩:∃ wo,wo=wr:=⟨_,rfl⟩
     subst hwo
     go_wp2
     go_loopg [7,8] n (fun kx s7 s8 wr=>∃ (a:Nat)(dk:Array α),s7 = .int .i64 a/\s8 = .int .i64 ((a:Int)+2 * (L:Int))/\a<=n/\n - a<=kx/\Hid (∃ p,a=p * (2 * L))/\Hid (PassInv (QT cf lt') lt' d dk n L a)/\Aside (SWK enc 13 w0 blk off dk wr))
     case atStart=>exact ⟨0,d2,rfl,by first | rfl | go_num | (congr 1;omega),Nat.zero_le _,by omega,⟨0,by omega⟩,HP,S1⟩
     case round=>
      clear S1 HP
      obtain ⟨a,dk,rfl,rfl,han,hkx2,HPa,HPi,S1⟩:=hrel
      have hds:dk.size=n:=by rw [HN.out];exact HPi.out.size
      by_cases hlt:a+2 * L<=n
      ·have hr:SortedIn lt' a (a+L) dk/\SortedIn lt' (a+L) (a+2 * L) dk/\CrossQ (QT cf lt') dk a (a+L) (a+2 * L):=by
        obtain ⟨p,hp⟩:=HPa.out
        have H:=HPi.out
        subst hp
        exact H.ready (by omega) (by omega) (by omega)
       have hcon:=HSym.out (2 * L+1) a (a+L) (a+2 * L) dk wr (by omega) hds S1.out (by omega) (by omega) hlt hr.1 hr.2.1 hr.2.2
       rw [show ((a+L:Nat):Int)=(a:Int)+(L:Int) by omega,show ((a+2 * L:Nat):Int)=(a:Int)+2 * (L:Int) by omega] at hcon
       have HCon:=Lib.hid hcon
       have hltz:(a:Int)+2 * (L:Int)<=(n:Int):=by omega
       clear hcon hr hds S1
       go_wp2_with (go_at_call 243;refine HCon.out.mono ?_;rintro e w' ⟨rfl,d3,P3,O3,S3⟩)
       have HPn:Hid (PassInv (QT cf lt') lt' d d3 n L (a+2 * L)):=by
        obtain ⟨p,hp⟩:=HPa.out
        have H:=HPi.out
        subst hp
        exact Lib.hid (H.step (by omega) (Nat.le_of_eq HN.out) (by omega) P3 O3)
       clear P3 O3
       go_roundg (n - (a+2 * L))
       case measure=>omega
       case rel=>exact ⟨a+2 * L,d3,by first | rfl | go_num | (congr 1;omega),by first | rfl | go_num | (congr 1;omega),hlt,Nat.le_refl _,Lib.hid (by obtain ⟨p,hp⟩:=HPa.out;exact ⟨p+1,by rw [hp,Nat.add_mul,Nat.one_mul]⟩),HPn,S3⟩
      ·have hltz:¬ (a:Int)+2 * (L:Int)<=(n:Int):=by omega
       by_cases ht:a+L<n
       ·have htz:(a:Int)+(L:Int)<(n:Int):=by omega
        have hr:SortedIn lt' a (a+L) dk/\SortedIn lt' (a+L) n dk/\CrossQ (QT cf lt') dk a (a+L) n:=by
         obtain ⟨p,hp⟩:=HPa.out
         have H:=HPi.out
         subst hp
         exact H.ready (by omega) (by omega) (by omega)
        have hcon:=HSym.out (n+1) a (a+L) n dk wr (by omega) hds S1.out (by omega) (by omega) (Nat.le_refl _) hr.1 hr.2.1 hr.2.2
        rw [show ((a+L:Nat):Int)=(a:Int)+(L:Int) by omega] at hcon
        have HCon:=Lib.hid hcon
        clear hcon hr hds S1
        go_wp2_with (go_at_call 243;refine HCon.out.mono ?_;rintro e w' ⟨rfl,d3,P3,O3,S3⟩)
        have HPn:Hid (PassInv (QT cf lt') lt' d d3 n (2 * L) 0):=by
         obtain ⟨p,hp⟩:=HPa.out
         have H:=HPi.out
         subst hp
         exact Lib.hid ((H.step (e:=n) (by omega) (Nat.le_of_eq HN.out) (by omega) P3 O3).next (Nat.le_refl _))
        clear P3 O3
        go_roundg (n - 2 * L)
        case measure=>omega
        case rel=>exact ⟨2 * L,d3,by first | rfl | go_num | (congr 1;omega),by omega,by omega,Nat.le_refl _,HPn,S3⟩
       ·have htz:¬ (a:Int)+(L:Int)<(n:Int):=by omega
        have HPn:Hid (PassInv (QT cf lt') lt' d dk n (2 * L) 0):=by
         obtain ⟨p,hp⟩:=HPa.out
         have H:=HPi.out
         subst hp
         exact Lib.hid ((H.tail (by omega) (by omega)).next (Nat.le_refl _))
        go_wp2
        go_roundg (n - 2 * L)
        case measure=>omega
        case rel=>exact ⟨2 * L,dk,by first | rfl | go_num | (congr 1;omega),by omega,by omega,Nat.le_refl _,HPn,S1⟩
    ·have hLnz:¬ (L:Int)<(n:Int):=by omega
     go_wp2
     go_end0
     have hw:=HP.out.whole (by omega)
     exact ⟨rfl,d2,hw.1,hw.2,S1.out⟩

theorem sortStable_any (C:CmpOk enc cf g cb) (lt':α->α->Bool)(hO:SWO lt') (blk off cap n:Nat)(d:Array α)(w0:World)(R:RowK enc 13 w0 blk off d)(hn:n=d.size)(hsz:n<1152921504606846976)
  (hQ:∀ i j,i<j->j<n->QT cf lt' d[j]! d[i]!) :
  Calls Tryz.prog 234 #[.slice (some ⟨blk,off,none⟩) n cap,.func (.func g) #[] cb] w0 fun e w'=>e = .returned (.tuple #[]) /\ ∃ d',PermIn 0 n d d' /\ SortedIn lt' 0 n d' /\ SWK enc 13 w0 blk off d' w':=by
 have hcon:=Lib.hid (stable_any C lt' hO blk off cap n d w0 R hn hsz hQ)
 clear R hQ hn
 go_enter Tryz.func234,Tryz.ntmps234
 go_wp2_with (go_at_call 240;refine hcon.out.mono ?_;rintro e w' ⟨rfl,h⟩)
 go_end0
 exact ⟨rfl,h⟩

theorem ins_none (A:Option Addr) (c:Nat)(w:World):Calls Tryz.prog 242 #[.slice A 0 c,.int .i64 0,.int .i64 0,.func (.func g) #[] cb] w fun e w'=>e = .returned (.tuple #[])/\w=w':=by
 go_enter Tryz.func242,Tryz.ntmps242
 go_wp2
 refine wp_loop_rounds 1 ?_
 rw [rounds_succ]
 go_wp2
 go_end0
 exact ⟨rfl,rfl⟩

theorem stable_none (A:Option Addr) (c:Nat)(w:World):Calls Tryz.prog 240 #[.slice A 0 c,.int .i64 0,.func (.func g) #[] cb] w fun e w'=>e = .returned (.tuple #[])/\w=w':=by
 go_enter Tryz.func240,Tryz.ntmps240
 go_wp2
 refine wp_loop_rounds 1 ?_
 rw [rounds_succ]
 go_wp2_with (go_at_call 242;refine (ins_none _ _ _).mono ?_;rintro e w' ⟨rfl,rfl⟩)
 refine wp_loop_rounds 1 ?_
 rw [rounds_succ]
 go_wp2
 go_end0
 exact ⟨rfl,rfl⟩

theorem sortStable_none (A:Option Addr) (c:Nat)(w:World):Calls Tryz.prog 234 #[.slice A 0 c,.func (.func g) #[] cb] w fun e w'=>e = .returned (.tuple #[])/\w=w':=by
 go_enter Tryz.func234,Tryz.ntmps234
 go_wp2_with (go_at_call 240;refine (stable_none _ _ _).mono ?_;rintro e w' ⟨rfl,rfl⟩)
 go_end0
 exact ⟨rfl,rfl⟩
end
end StJ
namespace StJ
open Go.Shelf Go.RowKit Go.Lib Go.Sort Go.Proofs
section
variable {β:Type} [Inhabited β]{enc:β->List Value}{cf:β->β->Int}{g:Nat}{cb:Array Value}
structure CmpAny (enc:β->List Value)(cf:β->β->Int) (g:Nat)(cb:Array Value):Prop where
 len:∀ x,(enc x).length=13
 one:∀ x,∀ v ∈ enc x,v.oneCell' = true
 swo:SWO (ltOf cf)
 ent:∀ args w,(callFunc g args).run Tryz.prog w = .ok (.enter g args) w
 call:∀ x y W,Calls Tryz.prog g (#[.agg (enc x).toArray,.agg (enc y).toArray] ++ cb) W fun e w'=>e = .returned (.int .i64 (cf x y))/\Gw W w'
theorem CmpAny.tag (C:CmpAny enc cf g cb):CmpOk (fun x:β × Nat=>enc x.1) (cfTag cf) g cb:=
 ⟨fun x=>C.len x.1,fun x=>C.one x.1,swoCf C.swo,C.ent,fun _ _ _ _ _ _ _ _ x y=>C.call x.1 y.1 _⟩
theorem stable_own (C:CmpAny enc cf g cb){l:List β}{w:World}{base:Nat}{v:Value}{A:Option Addr}{n cap:Nat}(hv:v = .slice A n cap)(hn:n=l.length)(h:OwnK w base 66 13 v (l.map enc))(hb:base<=w.heap.size)(hl:n<1152921504606846976) :
  Calls Tryz.prog 234 #[.slice A n cap,.func (.func g) #[] cb] w fun e w'=>e = .returned (.tuple #[]) /\ ∃ W:List Nat,W.Perm (List.range l.length)/\W.Pairwise (Fore fun i y=>ltOf cf (l.getD i default) (l.getD y default))/\OwnK w' base 66 13 v ((W.map fun i=>l.getD i default).map enc)/\Below base w w':=by
 subst hv
 rcases h.2.2 with ⟨h1,h0⟩ | ⟨g1,cap1,cur,h1,hbg,hg,hn1,hm1,_,_⟩
 ·rw [List.length_map] at h0
  have hl0:l=[]:=List.length_eq_zero_iff.1 h0
  subst hl0
  injection h1 with e1 e2 e3
  subst e1 e2 e3
  refine (sortStable_none none 0 w).mono ?_
  rintro e w' ⟨he,rfl⟩
  exact ⟨he,[],by simp,List.Pairwise.nil,OwnK.nil _ _ _ _,Below.refl _ _⟩
 ·rw [List.length_map] at h1 hn1
  injection h1 with e1 e2 e3
  subst e1 e3
  have hmap:(tagd l).toList.map (fun x=>enc x.1)=l.map enc:=tagd_map l enc
  have hlen:(tagd l).toList.length=n:=by rw [hn,Array.length_toList,tagd_size]
  have h':OwnK w base 66 13 (.slice (some ⟨g1,0,none⟩) (tagd l).toList.length cap) ((tagd l).toList.map fun x=>enc x.1):=by rw [hmap,hlen];exact h
  have R:=own_row (enc:=fun x:β × Nat=>enc x.1) (k:=13) C.tag.len (by omega) C.tag.one h'
  rw [Array.toArray_toList] at R
  have hc:=sortStable_any C.tag (ltTag (ltOf cf)) (swoTag C.swo) g1 0 cap n (tagd l) w R (by rw [tagd_size];exact hn) hl (fun i j hij hj=>tagd_say hij (by omega))
  refine Calls.mono hc ?_
  rintro e w' ⟨he,D,hp,hs,hS⟩
  rw [hn] at hp hs
  obtain ⟨W,w1,w2,w3⟩:=stable_places hp hs
  have hD:D.size=(tagd l).toList.length:=by rw [hlen,hn,<- tagd_size l];exact hp.1
  have ho:=own_sorted (enc:=fun x:β × Nat=>enc x.1) (k:=13) C.tag.len (by omega) h' hS hD
  refine ⟨he,W,w1,w2,?_,sw_below hS hbg hb⟩
  rw [hlen] at ho
  rw [<- w3,List.map_map]
  exact ho
end
end StJ
section
open Go.RowKit Go.Sort
theorem enterJ:∀ args w,(callFunc 235 args).run Tryz.prog w = .ok (.enter 235 args) w:=enters_of Tryz.func235 (by kernel_rfl) rfl
instance:Inhabited Jb:=⟨⟨⟨#[]⟩,⟨#[]⟩,0,0,0,0,none,0,0,⟨#[]⟩,⟨#[]⟩,0,0,⟨#[]⟩,0⟩⟩
theorem swoJ:SWO (ltOf cfJ) where
 irrefl x:=by show decide (cfJ x x<0)=false;rw [cfJ_go];exact goB_irrefl x
 trans x y z h1 h2:=by
  have h1':goB x y=true:=by rw [<- cfJ_go];exact h1
  have h2':goB y z=true:=by rw [<- cfJ_go];exact h2
  show decide (cfJ x z<0)=true;rw [cfJ_go];exact goB_trans h1' h2'
 ntrans x y z h1 h2:=by
  have h1':goB x y=false:=by rw [<- cfJ_go];exact h1
  have h2':goB y z=false:=by rw [<- cfJ_go];exact h2
  show decide (cfJ x z<0)=false;rw [cfJ_go];exact goB_ntrans h1' h2'
theorem anyJ:StJ.CmpAny Jb.cells cfJ 235 #[]:=⟨fun x=>x.cells_length,fun x=>x.cells_one,swoJ,enterJ,fun x y W=>cmpJ_any x y W⟩
theorem sorted_weak {m:Mc}{t:Kt}{l:List Jb}{W:List Nat}(h1:W.Perm (List.range (l.filter (wkJ m t)).length))(h2:W.Pairwise (Fore fun i y=>ltOf cfJ ((l.filter (wkJ m t)).getD i default) ((l.filter (wkJ m t)).getD y default))):(W.map fun i=>(l.filter (wkJ m t)).getD i default)=weakJ m t l:=by
 have hW:∀ i ∈ W,i<(l.filter (wkJ m t)).length:=fun i hi=>List.mem_range.1 (h1.subset hi)
 have e:∀ i,i<(l.filter (wkJ m t)).length->(l.filter (wkJ m t)).getD i default=jat (l.filter (wkJ m t)) i:=by
  intro i hi
  rw [jat_at hi]
  simp [List.getD,List.getElem?_eq_getElem hi]
 refine (List.map_congr_left fun i hi=>e i (hW i hi)).trans (weakJ_one h1 ?_)
 ·refine List.Pairwise.imp_of_mem (fun {x y} hx hy h=>?_) h2
  unfold Fore at h ⊢
  simp only at h ⊢
  rw [e x (hW x hx),e y (hW y hy)] at h
  unfold ltOf at h
  rwa [cfJ_go,cfJ_go] at h


theorem vweaker_any (m:Mc)(A:Option Addr) (n cap:Nat)(l:List Jb)(t:Kt)(w:World)(hn:Hid (n=l.length))(hl:n<=1000000)(hA:Hid (RdJ w A l)) :
  Calls Tryz.prog 223 #[.agg m.arr,.slice A n cap,.agg t.arr] w fun e w'=>RetJ w.heap.size w' e (weakJ m t l)/\Below w.heap.size w w':=by
 go_enter Tryz.func223,Tryz.ntmps223
 have HM0:=Lib.hid (show Bk ((w.alloc (.cells m.arr 60)).alloc (.cells t.arr 47)) w.heap.size 60 m.arr from (Bk.fresh w _ _).later ((Below.refl _ _).alloc (Nat.le_refl _) _))
 have HT0:=Lib.hid (show Bk ((w.alloc (.cells m.arr 60)).alloc (.cells t.arr 47)) (w.heap.size+1) 47 t.arr from Bk.freshAt _ _ _ (by simp))
 have hB0:Below w.heap.size w ((w.alloc (.cells m.arr 60)).alloc (.cells t.arr 47)):=((Below.refl _ _).alloc (Nat.le_refl _) _).alloc (by simp) _
 go_wp2_with fail
 go_loopw [7,12] (fun vo i wr=>∃ k:Nat,k<=n/\i = .int .i64 k/\Hid (OwnK wr (w.heap.size+2) 66 13 vo (cellsJ ((l.take k).filter (wkJ m t))))/\Hid (Bk wr w.heap.size 60 m.arr)/\Hid (Bk wr (w.heap.size+1) 47 t.arr)/\Below w.heap.size w wr) (fun _ i wr=>n - (intOf i).toNat)
 case atStart=>exact ⟨0,Nat.zero_le _,rfl,(show OwnK _ _ _ _ _ (cellsJ ((l.take 0).filter (wkJ m t))) from OwnK.nil _ _ _ _),HM0,HT0,hB0⟩
 case round=>
  clear HM0 HT0 hB0
  obtain ⟨k,hk,rfl,HO,HMb,HTb,hb⟩:=hrel
  have lt1:w.heap.size+1<wr.heap.size:=HTb.out.here
  have lt0:w.heap.size<wr.heap.size:=by omega
  by_cases hlt:k<n
  ·have hlk:k<l.length:=by have:=hn.out;omega
   obtain ⟨E,hE⟩:∃ E,E=cellsJ ((l.take k).filter (wkJ m t)):=⟨_,rfl⟩
   have h7:=HO.out
   rw [<- hE] at h7
   have hEl:E.length<=k:=by rw [hE,cellsJ_length];exact Nat.le_trans (List.length_filter_le _ _) (by rw [List.length_take];omega)
   obtain ⟨g,o,hAg,hg,hj⟩:=(hA.out.later hb).at hlk
   subst hAg
   have hst:=filter_takeJ (wkJ m t) hlk
   obtain ⟨j,hjk⟩:∃ j,j=l[k]:=⟨_,rfl⟩
   rw [<- hjk] at hj hst
   have HJ:=Lib.hid hj;have HO7:=Lib.hid h7;have HE:=Lib.hid hE;have HST:=Lib.hid hst
   clear hj h7 hE hst HO hjk
   cases he:sE j.nd m.nm
   ·have he':(j.nd.toList == m.nm.toList)=false:=he
    have HE2:Hid (cellsJ ((l.take (k+1)).filter (wkJ m t))=E):=by
     show _=_
     rw [HST.out,HE.out,show wkJ m t j=false by unfold wkJ;rw [he];rfl];simp
    clear he HST HE
    go_wp2_with (first | (with_reducible refine load_rg rfl 66 _ rfl g (o+k * 13) rfl j.arr _ HJ.out.rg Tryz.underlying66 rfl (by kernel_rfl) ?_) | ((with_reducible refine store_bk rfl 66 (.tmp 9) (.tmp 15) rfl wr.heap.size 0 j.arr rfl rfl 66 _ j.arr (Bk.fresh _ _ _) (by kernel_rfl) (by simp) (by kernel_rfl) rfl ?_);intro w1 hB1 hg1 hs1;have bl1:Below wr.heap.size wr w1:=grown_below ((Below.refl _ _).alloc (Nat.le_refl _) _) hg1 (Nat.le_refl _);have HX:=Lib.hid hB1;have c11:w1.cell? ⟨wr.heap.size,11,none⟩=some (.string j.nd):=hB1.cellAt 11;have c2:w1.cell? ⟨wr.heap.size,2,none⟩=some (.int .i64 j.pr):=hB1.cellAt 2;clear hB1 hg1 hs1;have HM1:=Lib.hid (HMb.out.later bl1);have HT1:=Lib.hid (HTb.out.later bl1);have cm:w1.cell? ⟨w.heap.size,0,none⟩=some (.string m.nm):=HM1.out.cellAt 0;have cp:w1.cell? ⟨w.heap.size+1,2,none⟩=some (.int .i64 t.pr):=HT1.out.cellAt 2;have hb1:Below w.heap.size w w1:=hb.trans (bl1.mono hb.size)))
    go_round
    case rel=>exact ⟨k+1,by omega,by go_num,(by show OwnK _ _ _ _ _ _;rw [HE2.out];exact HO7.out.below bl1),HM1,HT1,hb1⟩
    case measure=>simp [intOf];omega
   ·have he':(j.nd.toList == m.nm.toList)=true:=he
    by_cases hp:j.pr<t.pr
    case neg=>
     have hp':decide (j.pr<t.pr)=false:=decide_eq_false hp
     have HE2:Hid (cellsJ ((l.take (k+1)).filter (wkJ m t))=E):=by
      show _=_
      rw [HST.out,HE.out,show wkJ m t j=false by unfold wkJ;rw [hp',Bool.and_false]];simp
     clear he hp HST HE
     go_wp2_with (first | (with_reducible refine load_rg rfl 66 _ rfl g (o+k * 13) rfl j.arr _ HJ.out.rg Tryz.underlying66 rfl (by kernel_rfl) ?_) | ((with_reducible refine store_bk rfl 66 (.tmp 9) (.tmp 15) rfl wr.heap.size 0 j.arr rfl rfl 66 _ j.arr (Bk.fresh _ _ _) (by kernel_rfl) (by simp) (by kernel_rfl) rfl ?_);intro w1 hB1 hg1 hs1;have bl1:Below wr.heap.size wr w1:=grown_below ((Below.refl _ _).alloc (Nat.le_refl _) _) hg1 (Nat.le_refl _);have HX:=Lib.hid hB1;have c11:w1.cell? ⟨wr.heap.size,11,none⟩=some (.string j.nd):=hB1.cellAt 11;have c2:w1.cell? ⟨wr.heap.size,2,none⟩=some (.int .i64 j.pr):=hB1.cellAt 2;clear hB1 hg1 hs1;have HM1:=Lib.hid (HMb.out.later bl1);have HT1:=Lib.hid (HTb.out.later bl1);have cm:w1.cell? ⟨w.heap.size,0,none⟩=some (.string m.nm):=HM1.out.cellAt 0;have cp:w1.cell? ⟨w.heap.size+1,2,none⟩=some (.int .i64 t.pr):=HT1.out.cellAt 2;have hb1:Below w.heap.size w w1:=hb.trans (bl1.mono hb.size)))
     go_round
     case rel=>exact ⟨k+1,by omega,by go_num,(by show OwnK _ _ _ _ _ _;rw [HE2.out];exact HO7.out.below bl1),HM1,HT1,hb1⟩
     case measure=>simp [intOf];omega
    case pos=>
     have hp':decide (j.pr<t.pr)=true:=decide_eq_true hp
     have HE2:Hid (cellsJ ((l.take (k+1)).filter (wkJ m t))=E ++ cellsJ [j]):=by
      show _=_
      rw [HST.out,HE.out,show wkJ m t j=true by unfold wkJ;rw [he,hp'];rfl,cellsJ_append];simp
     clear he hp HST HE
     go_wp2_with (first | (with_reducible refine load_rg rfl 66 _ rfl g (o+k * 13) rfl j.arr _ HJ.out.rg Tryz.underlying66 rfl (by kernel_rfl) ?_) | ((with_reducible refine store_bk rfl 66 (.tmp 9) (.tmp 15) rfl wr.heap.size 0 j.arr rfl rfl 66 _ j.arr (Bk.fresh _ _ _) (by kernel_rfl) (by simp) (by kernel_rfl) rfl ?_);intro w1 hB1 hg1 hs1;have bl1:Below wr.heap.size wr w1:=grown_below ((Below.refl _ _).alloc (Nat.le_refl _) _) hg1 (Nat.le_refl _);have HX:=Lib.hid hB1;have c11:w1.cell? ⟨wr.heap.size,11,none⟩=some (.string j.nd):=hB1.cellAt 11;have c2:w1.cell? ⟨wr.heap.size,2,none⟩=some (.int .i64 j.pr):=hB1.cellAt 2;clear hB1 hg1 hs1;have HM1:=Lib.hid (HMb.out.later bl1);have HT1:=Lib.hid (HTb.out.later bl1);have cm:w1.cell? ⟨w.heap.size,0,none⟩=some (.string m.nm):=HM1.out.cellAt 0;have cp:w1.cell? ⟨w.heap.size+1,2,none⟩=some (.int .i64 t.pr):=HT1.out.cellAt 2;have hb1:Below w.heap.size w w1:=hb.trans (bl1.mono hb.size);have HO1:=Lib.hid (HO7.out.below bl1)) | (with_reducible refine load_bk rfl 66 _ rfl wr.heap.size 0 rfl 66 j.arr j.arr _ HX.out (Part.whole _) Tryz.underlying66 rfl (by kernel_rfl) ?_) | ((with_reducible refine append_k _ rfl (.tmp 30) (.tmp 32) 29 rfl (w.heap.size+2) 66 _ 13 160 Tryz.underlying29 infoJ rfl (by omega) u7 E rfl (HO1.out.alloc _) ⟨w1.heap.size,0,none⟩ 1 1 (cellsJ [j]) rfl (fresh_k w1 13 _ _ rfl) (cellsJ_k _) (cellsJ_one _) rfl (by simp [cellsJ,maxLen] at hEl ⊢;omega) (by simp [cellsJ] at hEl ⊢;omega) (by have:=HT1.out.here;simp;omega) ?_);intro u7' w3 hO3 hg3))
     go_round
     case rel=>exact ⟨k+1,by omega,by go_num,(by show OwnK _ _ _ _ _ _;rw [HE2.out];exact hO3),(HM1.out.later ((Below.refl _ _).alloc (Nat.le_refl _) _)).stays hg3 (fun e=>by have:=HO1.out.block _ e.symm;omega),(HT1.out.later ((Below.refl _ _).alloc (Nat.le_refl _) _)).stays hg3 (fun e=>by have:=HO1.out.block _ e.symm;omega),(hb1.alloc hb1.size _).grown hg3 (by have:=HT1.out.here;simp;omega) (fun g e=>by have:=HO1.out.block _ e;omega)⟩
     case measure=>simp [intOf];omega
  ·have hk':k=n:=by omega
   subst hk'
   have h:=HO.out
   rw [show l.take k=l by rw [hn.out];exact List.take_length] at h
   obtain ⟨B,c,hv,hr',hc1,hc2,_⟩:=h.sl
   have hv':=hv
   rw [cellsJ_length] at hv'
   obtain ⟨nf,hnf⟩:∃ nf,nf=(l.filter (wkJ m t)).length:=⟨_,rfl⟩
   have hnl:nf<=1000000:=by rw [hnf];exact Nat.le_trans (List.length_filter_le _ _) (by have:=hn.out;omega)
   rw [<- hnf] at hv'
   have k1:=fun (W:World)(h:OwnK W (w.heap.size+2) 66 13 (.slice B nf c) ((l.filter (wkJ m t)).map Jb.cells))(hs:w.heap.size+2<=W.heap.size)=>StJ.stable_own anyJ (l:=l.filter (wkJ m t)) (w:=W) (base:=w.heap.size+2) (v:=.slice B nf c) rfl hnf h hs (by omega)
   have K1:=Lib.hid k1
   subst hv'
   have HO7:=Lib.hid h
   have HW:Hid (∀ W:List Nat,W.Perm (List.range (l.filter (wkJ m t)).length)->W.Pairwise (Fore fun i y=>ltOf cfJ ((l.filter (wkJ m t)).getD i default) ((l.filter (wkJ m t)).getD y default))->(W.map fun i=>(l.filter (wkJ m t)).getD i default)=weakJ m t l):=fun W h1 h2=>sorted_weak h1 h2
   clear k1 h hr' hc1 hc2 hv hnf HO
   go_wp2_with fail
   refine (K1.out _ HO7.out (by omega)).mono ?_;rintro e w2 ⟨rfl,W,hW1,hW2,hO2,hb2⟩
   rw [HW.out W hW1 hW2] at hO2
   have HO2:=Lib.hid hO2
   clear hW1 hW2 hO2
   go_wp2_with fail
   go_ret
   exact ⟨⟨_,rfl,OwnK.base HO2.out (by omega)⟩,hb.trans (hb2.mono (by omega))⟩
end
section
open Go.RowKit
def RetO (b:Nat)(w:World)(e:Ending)(r:Option (List Jb)):Prop:=∃ A c,e = .returned (.tuple #[.slice A (r.getD []).length c,.bool r.isSome])/\RdJ w A (r.getD [])/\(r.getD []).length<=c/\c<=9223372036854775807 /\ ∀ a,A=some a->b<=a.block
theorem OwnK.past {w w':World}{b0 k g:Nat}{e:TypeId}{v:Value}{l:List (List Value)}(h:OwnK w b0 e k v l)(hg:w.grownBy w' (some g))(hlt:g<b0):OwnK w' b0 e k v l:=
 ⟨h.1,World.ownsRow.kept h.2 hg (by
  cases hv:v.ownBlock with
  | none=>exact .inl rfl
  | some x=>exact .inr fun e=>by injection e with e;have:=h.block x hv;omega)⟩
theorem RdJ.take {w:World}{A:Option Addr}{l:List Jb}(h:RdJ w A l) (k:Nat):RdJ w A (l.take k):=by
 have:=RdK.take h k
 unfold RdJ cellsJ
 rw [List.map_take];exact this


theorem vmake_any (m:Mc)(ml:List Lb)(A:Option Addr) (n cap:Nat)(l:List Jb)(t:Kt)(tl:List Lb)(w:World)(hn:Hid (n=l.length))(hl:n<=1000000)(hA:Hid (RdJ w A l))(h4:Hid (why m ml t tl l=4))(r:Option (List Jb))(hr:Hid (planJ m ml t tl l=r)) :
  Calls Tryz.prog 216 #[.agg m.arr,.slice A n cap,.agg t.arr] w fun e w'=>RetO w.heap.size w' e r/\Below w.heap.size w w':=by
 obtain ⟨p,q,s,hf,_⟩:=why_4 h4.out
 have hpl:=planJ_4 h4.out
 rw [hr.out] at hpl
 obtain ⟨W,hW⟩:∃ W,W=weak m t l l.length:=⟨_,rfl⟩
 have hWn:W.Nodup:=by rw [hW];exact weak_nodup _
 have hWi:∀ i ∈ W,i<l.length/\(jat l i).nd=m.nm:=by rw [hW];exact weak_in
 rw [<- hW] at hpl
 obtain ⟨E,hE⟩:∃ E,E=weakJ m t l:=⟨_,rfl⟩
 have hEW:E.length=W.length:=by rw [hE,hW];exact weakJ_len
 have hEat:∀ i (h:i<E.length)(h2:i<W.length),E[i]=jat l W[i]:=by subst hE hW;exact fun i h _=>weakJ_at h
 have hEl:E.length<=1000000:=by rw [hEW,hW];exact Nat.le_trans (wk_len _) (by have:=hn.out;omega)
 rw [<- hE] at hpl
 have kf:=fun (W:World)(h:Hid (RdJ W A l))=>freeM_any m A n cap l W hn hl h p q s 0 hf
 have kw:=fun (W:World)(h:Hid (RdJ W A l))=>vweaker_any m A n cap l t W hn hl h
 rw [<- hE] at kw
 have ka:=fun (a b c d e f:Int)(h:adB a b c d e f=true)(W:World)=>add_any a b c d e f W
 have kx:=fun (a b c d e f:Int)(W:World)=>fits_any a b c d e f W
 have KF:=Lib.hid kf;have KW:=Lib.hid kw;have KA:=Lib.hid ka;have KX:=Lib.hid kx;have HF:=Lib.hid hf;have HP:=Lib.hid hpl;have HWn:=Lib.hid hWn;have HWi:=Lib.hid hWi;have HEW:=Lib.hid hEW;have HEat:=Lib.hid hEat
 have h0:Hid (frK m l W 0=(p,q,s,0)):=by show _=_;rw [frK_0];exact hf
 clear kf kw ka kx hf hpl hWn hWi hEW hEat hE hW
 go_enter Tryz.func216,Tryz.ntmps216
 have HM0:=Lib.hid (show Bk ((w.alloc (.cells m.arr 60)).alloc (.cells t.arr 47)) w.heap.size 60 m.arr from (Bk.fresh w _ _).later ((Below.refl _ _).alloc (Nat.le_refl _) _))
 have HT0:=Lib.hid (show Bk ((w.alloc (.cells m.arr 60)).alloc (.cells t.arr 47)) (w.heap.size+1) 47 t.arr from Bk.freshAt _ _ _ (by simp))
 have hB0:Below w.heap.size w ((w.alloc (.cells m.arr 60)).alloc (.cells t.arr 47)):=((Below.refl _ _).alloc (Nat.le_refl _) _).alloc (by simp) _
 go_wp2_with (with_reducible refine load_bk rfl 60 _ rfl w.heap.size 0 rfl 60 m.arr m.arr _ HM0.out (Part.whole _) Tryz.underlying60 rfl (by kernel_rfl) ?_)
 refine (KF.out _ (hA.out.later hB0)).mono ?_;rintro v w1 ⟨rfl,hb1⟩
 have hB1:Below w.heap.size w w1:=hB0.trans (hb1.mono hB0.size)
 have HM1:=Lib.hid (HM0.out.later hb1);have HT1:=Lib.hid (HT0.out.later hb1);clear HM0 HT0 hB0 hb1
 have lt1:w.heap.size+1<w1.heap.size:=HT1.out.here
 go_wp2_with (first | ((with_reducible refine store_bk rfl 40 (.tmp 8) (.tmp 17) rfl w1.heap.size 0 #[.int .i64 p,.int .i64 q,.int .i64 s] rfl rfl 40 _ #[.int .i64 p,.int .i64 q,.int .i64 s] (Bk.fresh _ _ _) (by kernel_rfl) (by simp) (by kernel_rfl) rfl ?_);intro w2 hR2 hg2 hs2;have bl2:Below w1.heap.size w1 w2:=grown_below ((Below.refl _ _).alloc (Nat.le_refl _) _) hg2 (Nat.le_refl _);have HR2:=Lib.hid hR2;clear hR2 hg2 hs2;have HM2:=Lib.hid (HM1.out.later bl2);have HT2:=Lib.hid (HT1.out.later bl2);have hB2:Below w.heap.size w w2:=hB1.trans (bl2.mono hB1.size)) | (with_reducible refine load_bk rfl 60 _ rfl w.heap.size 0 rfl 60 m.arr m.arr _ HM2.out (Part.whole _) Tryz.underlying60 rfl (by kernel_rfl) ?_) | (with_reducible refine load_bk rfl 47 _ rfl (w.heap.size+1) 0 rfl 47 t.arr t.arr _ HT2.out (Part.whole _) Tryz.underlying47 rfl (by kernel_rfl) ?_))
 refine (KW.out _ (hA.out.later hB2)).mono ?_;rintro v w3 ⟨⟨v3,rfl,hO3⟩,hb3⟩
 obtain ⟨B,c,hv,hrd,hc1,hc2⟩:=OwnK.rdj hO3
 clear hrd
 subst hv
 obtain ⟨N,hN⟩:∃ N,N=E.length:=⟨_,rfl⟩
 rw [<- hN] at hEl hc1 hO3 ⊢
 have HOw3:=Lib.hid hO3;have HN:=Lib.hid hN
 have lt2:w1.heap.size<w2.heap.size:=HR2.out.here
 have hB3:Below w.heap.size w w3:=hB2.trans (hb3.mono hB2.size)
 have HT3:=Lib.hid (HT2.out.later hb3);have HR3:=Lib.hid (HR2.out.later hb3);clear HM1 HT1 HM2 HT2 HR2 hB1 hB2 hb3 bl2 hO3 hN
 go_wp2_with fail
 go_loopw [25] (fun i wr=>∃ k:Nat,k<=N/\i = .int .i64 k/\(∃ x y z:Int,Hid (frK m l W k=(x,y,z,0))/\Hid (Bk wr w1.heap.size 40 #[.int .i64 x,.int .i64 y,.int .i64 z]))/\Hid (r=(fewest (okK m t l W) (N - k) (k+1)).map fun k=>E.take k)/\Hid (Bk wr (w.heap.size+1) 47 t.arr)/\Hid (OwnK wr w2.heap.size 66 13 (.slice B N c) (cellsJ E))/\Below w1.heap.size w3 wr) (fun i wr=>N - (intOf i).toNat)
 case atStart=>exact ⟨0,Nat.zero_le _,rfl,⟨p,q,s,h0,HR3⟩,(by show _=_;rw [HP.out,HN.out,HEW.out];rfl),HT3,HOw3,Below.refl _ _⟩
 case round=>
  have lt3:w1.heap.size<w3.heap.size:=HR3.out.here
  clear HT3 HR3 HF HP h0 HOw3
  obtain ⟨k,hk,rfl,⟨x,y,z,HX,HRb⟩,HP,HTb,HOw,hb⟩:=hrel
  have lt0:w1.heap.size<wr.heap.size:=HRb.out.here
  have hbw:Below w.heap.size w wr:=hB3.trans (hb.mono (by omega))
  by_cases hlt:k<N
  ·have hkE:k<E.length:=by have:=HN.out;omega
   have hkW:k<W.length:=by have:=HEW.out;omega
   obtain ⟨A',c',hv',hrd,_,_⟩:=OwnK.rdj HOw.out
   injection hv' with i1 i2 i3
   subst i1 i3
   clear i2
   obtain ⟨g,o,hBg,hg,hj⟩:=hrd.at hkE
   subst hBg
   obtain ⟨j,hjk⟩:∃ j,j=E[k]:=⟨_,rfl⟩
   rw [<- hjk] at hj
   have hjw:j=jat l W[k]:=by rw [hjk];exact HEat.out k hkE hkW
   obtain ⟨p',q',s',hf,_⟩:=why_4 h4.out
   obtain ⟨x',y',z',hX'⟩:=frK_err hf W (k+1)
   obtain ⟨ha,e1,e2,e3⟩:=frK_step HWn.out HWi.out hkW HX.out hX'
   rw [<- hjw] at ha e1 e2 e3
   have kadd:=fun (Z:World)=>KA.out x y z j.a j.b j.c ha Z
   rw [ha] at kadd
   simp only [kp_t] at kadd
   rw [<- e1,<- e2,<- e3] at kadd
   generalize adE x y z j.a j.b j.c=er at kadd
   have kfit:=fun (Z:World)=>KX.out t.a t.b t.c x' y' z' Z
   have hok:=okK_is (t:=t) hX'
   obtain ⟨Fb,hFb⟩:∃ Fb,fB t.a t.b t.c x' y' z' = Fb:=⟨_,rfl⟩
   rw [hFb] at kfit hok
   obtain ⟨f',hf'⟩:∃ f',N - k=f' + 1:=⟨N - k - 1,by omega⟩
   have hfe:=HP.out
   rw [hf',fewest,hok] at hfe
   have hf2:f' = N - (k+1):=by omega
   rw [hf2] at hfe
   have KAdd:=Lib.hid kadd;have KFit:=Lib.hid kfit;have HFe:=Lib.hid hfe;have HJ:=Lib.hid hj;have HX2:=Lib.hid hX'
   clear kadd kfit hfe hj hX' hf ha e1 e2 e3 hjw hjk hok hFb hf' hf2 HX HP hrd
   go_wp2_with (first | (with_reducible refine load_rg rfl 66 _ rfl g (o+k * 13) rfl j.arr _ HJ.out.rg Tryz.underlying66 rfl (by kernel_rfl) ?_) | ((with_reducible refine store_bk rfl 66 (.tmp 12) (.tmp 29) rfl wr.heap.size 0 j.arr rfl rfl 66 _ j.arr (Bk.fresh _ _ _) (by kernel_rfl) (by simp) (by kernel_rfl) rfl ?_);intro w4 hB4 hg4 hs4;have bl4:Below wr.heap.size wr w4:=grown_below ((Below.refl _ _).alloc (Nat.le_refl _) _) hg4 (Nat.le_refl _);have HJ4:=Lib.hid hB4;clear hB4 hg4 hs4;have HR4:=Lib.hid (HRb.out.later bl4);have HT4:=Lib.hid (HTb.out.later bl4);have HOw4:=Lib.hid (HOw.out.below bl4);have hb4:Below w1.heap.size w3 w4:=hb.trans (bl4.mono (by omega))) | (with_reducible refine load_bk rfl 40 _ rfl w1.heap.size 0 rfl 40 #[.int .i64 x,.int .i64 y,.int .i64 z] #[.int .i64 x,.int .i64 y,.int .i64 z] _ HR4.out (Part.whole _) Tryz.underlying40 rfl (by kernel_rfl) ?_) | (with_reducible refine load_bk rfl 40 _ rfl wr.heap.size 3 rfl 66 j.arr #[.int .i64 j.a,.int .i64 j.b,.int .i64 j.c] _ HJ4.out (Part.of rfl) Tryz.underlying40 rfl (by kernel_rfl) ?_))
   refine (KAdd.out _).mono ?_;rintro v w5 ⟨rfl,hb5⟩
   have HR5:=Lib.hid (HR4.out.later hb5);have HT5:=Lib.hid (HT4.out.later hb5);have HOw5:=Lib.hid (HOw4.out.below hb5);have hB5:Below w1.heap.size w3 w5:=hb4.trans (hb5.mono (by have:=HR4.out.here;omega))
   have lt5:w1.heap.size<w5.heap.size:=HR5.out.here
   clear HR4 HT4 HJ4 hb4 hb5 bl4 HRb HTb HOw HOw4
   go_wp2_with (first | ((with_reducible refine store_bk rfl 40 (.tmp 8) (.tmp 36) rfl w1.heap.size 0 #[.int .i64 x',.int .i64 y',.int .i64 z'] rfl rfl 40 _ #[.int .i64 x',.int .i64 y',.int .i64 z'] HR5.out (by kernel_rfl) (by simp) (by kernel_rfl) rfl ?_);intro w6 hR6 hg6 hs6;have HR6:=Lib.hid hR6;have HT6:=Lib.hid (HT5.out.stays hg6 (by simp;omega));have HOw6:=Lib.hid (OwnK.past HOw5.out hg6 lt2);have hb6:Below w1.heap.size w3 w6:=hB5.grown hg6 (by omega) (fun g e=>by injection e with e;omega);have lt6:w1.heap.size<w6.heap.size:=HR6.out.here;clear hR6 hs6 hg6) | (with_reducible refine load_bk rfl 40 _ rfl (w.heap.size+1) 3 rfl 47 t.arr #[.int .i64 t.a,.int .i64 t.b,.int .i64 t.c] _ HT6.out (Part.of rfl) Tryz.underlying40 rfl (by kernel_rfl) ?_) | (with_reducible refine load_bk rfl 40 _ rfl w1.heap.size 0 rfl 40 #[.int .i64 x',.int .i64 y',.int .i64 z'] #[.int .i64 x',.int .i64 y',.int .i64 z'] _ HR6.out (Part.whole _) Tryz.underlying40 rfl (by kernel_rfl) ?_))
   refine (KFit.out _).mono ?_;rintro v w7 ⟨rfl,hb7⟩
   have HR7:=Lib.hid (HR6.out.later hb7);have HT7:=Lib.hid (HT6.out.later hb7);have HOw7:=Lib.hid (HOw6.out.below hb7);have hB7:Below w1.heap.size w3 w7:=hb6.trans (hb7.mono (by omega))
   clear HR6 HT6 HOw6 hb6 hb7 HR5 HT5 HOw5 hB5
   cases Fb
   ·have hfe:Hid (r=(fewest (okK m t l W) (N - (k+1)) (k+1+1)).map fun k=>E.take k):=by show _=_;rw [HFe.out];rfl
    go_wp2_with fail
    go_round
    case rel=>exact ⟨k+1,by omega,by go_num,⟨x',y',z',HX2,HR7⟩,hfe,HT7,HOw7,hB7⟩
    case measure=>simp [intOf];omega
   ·have hfe:r=some (E.take (k+1)):=HFe.out
    subst hfe
    obtain ⟨A',c',hv',hrd,hk1,hk2⟩:=OwnK.rdj HOw7.out
    injection hv' with i1 i2 i3
    subst i1 i3
    have hl:((some (E.take (k+1)):Option (List Jb)).getD []).length=k+1:=by show (E.take (k+1)).length=k+1;rw [List.length_take];omega
    have HRd:=Lib.hid (RdJ.take hrd (k+1));have HL:=Lib.hid hl
    have hB9:Below w.heap.size w w7:=hB3.trans (hB7.mono (by omega))
    have hgB:w.heap.size<=g:=by have:=HOw7.out.block g rfl;omega
    clear hrd hl
    go_wp2_with fail
    go_ret2
    exact ⟨⟨_,c,by rw [HL.out];rfl,HRd.out,by rw [HL.out];omega,hc2,fun a h=>by injection h with h;subst h;exact hgB⟩,hB9⟩
  ·have hk':k=N:=by omega
   subst hk'
   have hfe:r=none:=by have h:=HP.out;rw [Nat.sub_self] at h;rw [h];rfl
   subst hfe
   go_wp2_with fail
   go_ret2
   exact ⟨⟨none,0,rfl,RdJ.nil _ _,Nat.le_refl _,by omega,fun a h=>by cases h⟩,hbw⟩
end
section
open Go.RowKit
theorem nmsJ_take {l:List Jb}{a:Nat}(h:a<l.length):(l.take (a+1)).map Jb.nm=(l.take a).map Jb.nm ++ [l[a].nm]:=by
 rw [List.take_succ_eq_append_getElem h,List.map_append];rfl

theorem vnames_any (A:Option Addr) (n cap:Nat)(l:List Jb)(w:World)(hn:Hid (n=l.length))(hl:n<=1000000)(hA:Hid (RdJ w A l)) :
  Calls Tryz.prog 207 #[.slice A n cap] w fun e w'=>RetS w.heap.size w' e (l.map Jb.nm)/\Below w.heap.size w w':=by
 go_enter Tryz.func207,Tryz.ntmps207
 go_wp2_with fail
 go_loopw [3,8] (fun vo i wr=>∃ a:Nat,a<=n/\i = .int .i64 a/\Hid (OwnK wr w.heap.size 9 1 vo (cellsS ((l.take a).map Jb.nm)))/\Below w.heap.size w wr) (fun _ i wr=>n - (intOf i).toNat)
 case atStart=>exact ⟨0,Nat.zero_le _,rfl,(show OwnK _ _ _ _ _ (cellsS ((l.take 0).map Jb.nm)) from OwnK.nil _ _ _ _),Below.refl _ _⟩
 case round=>
  obtain ⟨a,ha,rfl,HO,hb⟩:=hrel
  by_cases haq:a<n
  ·have hal:a<l.length:=by have:=hn.out;omega
   obtain ⟨g,o,rfl,hg,hj⟩:=(hA.out.later hb).at hal
   have hs:=nmsJ_take hal
   obtain ⟨j,hjk⟩:∃ j,j=l[a]:=⟨_,rfl⟩
   rw [<- hjk] at hj hs
   have HJ:=Lib.hid hj;have HS:=Lib.hid hs
   obtain ⟨T,hT⟩:∃ T,T=cellsS ((l.take a).map Jb.nm):=⟨_,rfl⟩
   have hlen:T.length<=a:=by rw [hT,cellsS_length,List.length_map,List.length_take];omega
   have HO1:=HO.out
   rw [<- hT] at HO1
   have HQ:=Lib.hid HO1;have HT:=Lib.hid hT
   clear hs hj hjk HO HO1 hT
   go_wp2_with (first | (with_reducible refine load_rg rfl 66 _ rfl g (o+a * 13) rfl j.arr _ HJ.out.rg Tryz.underlying66 rfl (by kernel_rfl) ?_) | ((with_reducible refine store_bk rfl 66 (.tmp 5) (.tmp 11) rfl wr.heap.size 0 j.arr rfl rfl 66 _ j.arr (Bk.fresh _ _ _) (by kernel_rfl) (by simp) (by kernel_rfl) rfl ?_);intro w1 hB1 hg1 hs1;have c0:w1.cell? ⟨wr.heap.size,0,none⟩=some (.string j.nm):=hB1.cellAt 0;have bl1:Below wr.heap.size wr w1:=grown_below ((Below.refl _ _).alloc (Nat.le_refl _) _) hg1 (Nat.le_refl _);clear hs1 hB1 hg1;have HQ1:=Lib.hid (HQ.out.below bl1);have hb1:Below w.heap.size w w1:=hb.trans (bl1.mono hb.size)) | ((with_reducible refine append_k _ rfl (.tmp 12) (.tmp 16) 67 rfl w.heap.size 9 _ 1 16 Tryz.underlying67 infoS rfl (by omega) _ T rfl (HQ1.out.alloc _) ⟨w1.heap.size,0,none⟩ 1 1 (cellsS [j.nm]) rfl (fresh_k w1 1 _ _ rfl) (cellsS_k _) (cellsS_one _) rfl (by simp [cellsS,maxLen] at hlen ⊢;omega) (by simp [cellsS] at hlen ⊢;omega) (by have:=hb1.size;simp;omega) ?_);intro u6' w3 hO3 hg3))
   go_round
   case rel=>exact ⟨a+1,by omega,by go_num,(by show OwnK _ _ _ _ _ _;rw [HS.out,cellsS_append,<- HT.out];exact hO3),(hb1.alloc hb1.size _).grown hg3 (by have:=hb1.size;simp;omega) (fun g e=>HQ1.out.block g e)⟩
   case measure=>simp [intOf];omega
  ·have haq':a=n:=by omega
   subst haq'
   have h:=HO.out
   rw [show l.take a=l by rw [hn.out];exact List.take_length] at h
   have H:=Lib.hid h;clear h
   go_wp2_with fail
   go_ret
   exact ⟨⟨_,rfl,H.out⟩,hb⟩
end
section
open Go.RowKit


theorem vtop_any (m:Mc)(ml:List Lb)(A:Option Addr) (n cap:Nat)(l:List Jb)(t:Kt)(tl:List Lb)(w:World)(hn:Hid (n=l.length))(hl:n<=1000000)(hA:Hid (RdJ w A l))(hM:Hid (McOk w m ml))(hT:Hid (KtOk w t tl))(r:Option (List Jb))(hr:Hid (planJ m ml t tl l=r)) :
  Calls Tryz.prog 205 #[.agg m.arr,.slice A n cap,.agg t.arr] w fun e w'=>RetO w.heap.size w' e r/\Below w.heap.size w w':=by
 obtain ⟨x,hx⟩:∃ x,why m ml t tl l=x:=⟨_,rfl⟩
 have k1:=fun (W:World)(h:Hid (RdJ W A l))(h2:Hid (McOk W m ml))(h3:Hid (KtOk W t tl))=>why_any m ml A n cap l t tl W hn hl h h2 h3 x hx
 have K1:=Lib.hid k1;have HX:=Lib.hid hx;clear k1 hx
 go_enter Tryz.func205,Tryz.ntmps205
 have HM0:=Lib.hid (show Bk ((w.alloc (.cells m.arr 60)).alloc (.cells t.arr 47)) w.heap.size 60 m.arr from (Bk.fresh w _ _).later ((Below.refl _ _).alloc (Nat.le_refl _) _))
 have HT0:=Lib.hid (show Bk ((w.alloc (.cells m.arr 60)).alloc (.cells t.arr 47)) (w.heap.size+1) 47 t.arr from Bk.freshAt _ _ _ (by simp))
 have hB0:Below w.heap.size w ((w.alloc (.cells m.arr 60)).alloc (.cells t.arr 47)):=((Below.refl _ _).alloc (Nat.le_refl _) _).alloc (by simp) _
 go_wp2_with (first | (with_reducible refine load_bk rfl 60 _ rfl w.heap.size 0 rfl 60 m.arr m.arr _ HM0.out (Part.whole _) Tryz.underlying60 rfl (by kernel_rfl) ?_) | (with_reducible refine load_bk rfl 47 _ rfl (w.heap.size+1) 0 rfl 47 t.arr t.arr _ HT0.out (Part.whole _) Tryz.underlying47 rfl (by kernel_rfl) ?_))
 refine (K1.out _ (hA.out.later hB0) (hM.out.later hB0) (hT.out.later hB0)).mono ?_;rintro v w1 ⟨rfl,hb1⟩
 have hB1:Below w.heap.size w w1:=hB0.trans (hb1.mono hB0.size)
 have HM1:=Lib.hid (HM0.out.later hb1);have HT1:=Lib.hid (HT0.out.later hb1);clear HM0 HT0 hB0 hb1
 by_cases h0:x=0
 ·subst h0
  have hq:r=some []:=by rw [<- hr.out];exact planJ_0 HX.out
  subst hq
  go_wp2_with fail
  go_ret2
  exact ⟨⟨none,0,rfl,RdJ.nil _ _,Nat.le_refl _,by omega,fun a h=>by cases h⟩,hB1⟩
 ·have d0:(x == 0)=false:=by simpa using h0
  by_cases h4:x=4
  ·subst h4
   have k2:=fun (W:World)(h:Hid (RdJ W A l))=>vmake_any m ml A n cap l t tl W hn hl h HX r hr
   have K2:=Lib.hid k2;clear k2 h0
   go_wp2_with (first | (with_reducible refine load_bk rfl 60 _ rfl w.heap.size 0 rfl 60 m.arr m.arr _ HM1.out (Part.whole _) Tryz.underlying60 rfl (by kernel_rfl) ?_) | (with_reducible refine load_bk rfl 47 _ rfl (w.heap.size+1) 0 rfl 47 t.arr t.arr _ HT1.out (Part.whole _) Tryz.underlying47 rfl (by kernel_rfl) ?_))
   refine (K2.out _ (hA.out.later hB1)).mono ?_;rintro v w2 ⟨⟨B,c,rfl,h1,h2,h3,h4⟩,hb2⟩
   have H1:=Lib.hid h1;clear h1
   generalize hq:(r.getD []).length=q at h2 ⊢
   have HQ:=Lib.hid hq;clear hq
   go_wp2_with fail
   go_ret2
   exact ⟨⟨B,c,by rw [HQ.out];rfl,H1.out,by rw [HQ.out];exact h2,h3,fun a h=>by have:=h4 a h;have:=hB1.size;omega⟩,hB1.trans (hb2.mono hB1.size)⟩
  ·have d4:(x == 4)=false:=by simpa using h4
   have hq:r=none:=by rw [<- hr.out];exact planJ_no (by rw [HX.out];exact h0) (by rw [HX.out];exact h4)
   subst hq
   clear h0 h4
   go_wp2_with fail
   go_ret2
   exact ⟨⟨none,0,rfl,RdJ.nil _ _,Nat.le_refl _,by omega,fun a h=>by cases h⟩,hB1⟩
end
section
open Go.RowKit Go.Sort
def or3 (x y z:Int):Int:=if x=0 then or2 y z else x

theorem or3_any (x y z:Int) (g:Nat)(w:World)(hg:g<w.heap.size)(c0:w.cell? ⟨g,0,none⟩=some (.int .i64 x))(c1:w.cell? ⟨g,1,none⟩=some (.int .i64 y))(c2:w.cell? ⟨g,2,none⟩=some (.int .i64 z)) :
  Calls Tryz.prog 211 #[.slice (some ⟨g,0,none⟩) 3 3] w fun e w'=>e = .returned (.int .i64 (or3 x y z))/\w=w':=by
 obtain ⟨r,hr⟩:∃ r,r=or3 x y z:=⟨_,rfl⟩
 rw [<- hr]
 have HR:=Lib.hid hr;clear hr
 by_cases h1:x=0
 case neg=>
  have hq:r=x:=by rw [HR.out];unfold or3;rw [if_neg h1]
  subst hq
  have h3:(r != 0)=true:=by simpa using h1
  have h4:(r == 0)=false:=by simpa using h1
  clear h1 HR
  go_enter Tryz.func211,Tryz.ntmps211
  go_wp2_with fail
  refine wp_loop_rounds 4 ?_
  rw [rounds_succ]
  go_wp2_with fail
  go_ret
  exact ⟨rfl,rfl⟩
 have hq:r=or2 y z:=by rw [HR.out];unfold or3;rw [if_pos h1]
 subst h1
 clear HR
 by_cases h2:y=0
 case neg=>
  rw [show or2 y z=y from if_neg h2] at hq
  subst hq
  have h3:(r != 0)=true:=by simpa using h2
  have h4:(r == 0)=false:=by simpa using h2
  clear h2
  go_enter Tryz.func211,Tryz.ntmps211
  go_wp2_with fail
  refine wp_loop_rounds 4 ?_
  rw [rounds_succ]
  go_wp2_with fail
  rw [rounds_succ]
  go_wp2_with fail
  go_ret
  exact ⟨rfl,rfl⟩
 rw [show or2 y z=z from if_pos h2] at hq
 subst h2 hq
 by_cases h5:r=0
 ·subst h5
  go_enter Tryz.func211,Tryz.ntmps211
  go_wp2_with fail
  refine wp_loop_rounds 4 ?_
  rw [rounds_succ]
  go_wp2_with fail
  rw [rounds_succ]
  go_wp2_with fail
  rw [rounds_succ]
  go_wp2_with fail
  rw [rounds_succ]
  go_wp2_with fail
  go_ret
  exact ⟨rfl,rfl⟩
 ·have h3:(r != 0)=true:=by simpa using h5
  have h4:(r == 0)=false:=by simpa using h5
  clear h5
  go_enter Tryz.func211,Tryz.ntmps211
  go_wp2_with fail
  refine wp_loop_rounds 4 ?_
  rw [rounds_succ]
  go_wp2_with fail
  rw [rounds_succ]
  go_wp2_with fail
  rw [rounds_succ]
  go_wp2_with fail
  go_ret
  exact ⟨rfl,rfl⟩
theorem lastJ_at {J:List Jb}{k:Nat}(h:J.length=k+1):lastJ J=(J[k]'(by omega)).pr:=by
 have e:J.length - 1=k:=by omega
 unfold lastJ
 rw [List.getLast?_eq_getElem?,e,List.getElem?_eq_getElem (show k<J.length by omega)]

theorem vlast_any (A:Option Addr) (n cap:Nat)(l:List Jb)(w:World)(hn:Hid (n=l.length))(hl:n<=1000000)(hA:Hid (RdJ w A l)) :
  Calls Tryz.prog 217 #[.slice A n cap] w fun e w'=>e = .returned (.int .i64 (lastJ l))/\Below w.heap.size w w':=by
 obtain ⟨r,hr⟩:∃ r,r=lastJ l:=⟨_,rfl⟩
 rw [<- hr]
 have HR:=Lib.hid hr;clear hr
 by_cases h:n=0
 ·subst h
  have hl0:l=[]:=List.length_eq_zero_iff.1 hn.out.symm
  have hq:r = -1:=by rw [HR.out,hl0];rfl
  subst hq
  clear hl0
  go_enter Tryz.func217,Tryz.ntmps217
  go_wp2_with fail
  go_ret
  exact ⟨rfl,Below.refl _ _⟩
 ·obtain ⟨k,rfl⟩:∃ k,n=k+1:=⟨n - 1,by omega⟩
  have hk:l.length=k+1:=hn.out.symm
  have hkl:k<l.length:=by omega
  obtain ⟨g,o,rfl,hg,hj⟩:=hA.out.at hkl
  have c2:=hj.pr
  have hq:r=l[k].pr:=by rw [HR.out];exact lastJ_at hk
  rw [<- hq] at c2
  have e1:(((k+1:Nat):Int) == 0)=false:=by simp;omega
  have e2:wrap64 (((k+1:Nat):Int) - 1)=(k:Int):=by simp [wrap64];omega
  have hj':(k:Int)<((k+1:Nat):Int):=by omega
  have e3:((k:Int)).toNat=k:=by omega
  clear hj hq h hk hkl
  go_enter Tryz.func217,Tryz.ntmps217
  go_wp2_with fail
  go_ret
  exact ⟨rfl,Below.refl _ _⟩
section
variable {ops:Array Oper}{o:Oper}{a:Act}{w:World}{K:Act->World->Prop}{Q:Exit->Act->World->Prop}
theorem ithree_op (t u v:Tmp) (x y z:Int)(ho:o.op = .buildSlice 150 3 #[(0,.tmp t),(1,.tmp u),(2,.tmp v)])(hx:a.tmps[t]?.getD undef = .int .i64 x)(hy:a.tmps[u]?.getD undef = .int .i64 y)(hz:a.tmps[v]?.getD undef = .int .i64 z)(h:∀ g w',g=w.heap.size->w' = w.alloc (.cells #[.int .i64 x,.int .i64 y,.int .i64 z] 3)->K (a.put o.dst (.slice (some ⟨g,0,none⟩) 3 3)) w'):o.wp Tryz.prog a w K Q:=by
 unfold Oper.wp execOp
 simp only [ho]
 go_simp
 exact h _ _ rfl rfl
end
def cfC (s:ByteArray)(l:List Jb)(s2:ByteArray)(l2:List Jb):Int:=or3 (cI l.length l2.length) (cI (lastJ l) (lastJ l2)) (Lib.compareBytes s.data.toList s2.data.toList)


theorem vcompare_any (s:ByteArray)(A:Option Addr) (n c:Nat)(l:List Jb)(s2:ByteArray)(A2:Option Addr) (n2 c2:Nat)(l2:List Jb)(w:World)(hn:Hid (n=l.length))(hl:n<=1000000)(hA:Hid (RdJ w A l))(hn2:Hid (n2=l2.length))(hl2:n2<=1000000)(hA2:Hid (RdJ w A2 l2)) :
  Calls Tryz.prog 206 #[.agg #[.string s,.slice A n c],.agg #[.string s2,.slice A2 n2 c2]] w fun e w'=>e = .returned (.int .i64 (cfC s l s2 l2))/\Below w.heap.size w w':=by
 have k1:=fun W=>compareI_any (n:Int) (n2:Int) W
 have k2:=fun (W:World)(h:Hid (RdJ W A l))=>vlast_any A n c l W hn hl h
 have k3:=fun (W:World)(h:Hid (RdJ W A2 l2))=>vlast_any A2 n2 c2 l2 W hn2 hl2 h
 have k4:=fun W=>compareI_any (lastJ l) (lastJ l2) W
 have k5:=fun W=>compare_any s s2 W
 have k6:=fun (x y z:Int) (g:Nat) W=>or3_any x y z g W
 obtain ⟨r,hr⟩:∃ r,r=cfC s l s2 l2:=⟨_,rfl⟩
 rw [<- hr]
 unfold cfC at hr
 rw [<- hn.out,<- hn2.out] at hr
 generalize cI (n:Int) (n2:Int)=p at k1 hr
 generalize cI (lastJ l) (lastJ l2)=q at k4 hr
 generalize lastJ l=la at k2 k4
 generalize lastJ l2=lb at k3 k4
 generalize Lib.compareBytes s.data.toList s2.data.toList=u at k5 hr
 have K1:=Lib.hid k1;have K2:=Lib.hid k2;have K3:=Lib.hid k3;have K4:=Lib.hid k4;have K5:=Lib.hid k5;have K6:=Lib.hid k6;have HR:=Lib.hid hr;clear k1 k2 k3 k4 k5 k6 hr
 go_enter Tryz.func206,Tryz.ntmps206
 have hb0:Below w.heap.size w ((w.alloc (.cells #[.string s,.slice A n c] 234)).alloc (.cells #[.string s2,.slice A2 n2 c2] 234)):=((Below.refl _ _).alloc (Nat.le_refl _) _).alloc (by simp) _
 have hA0:Bk ((w.alloc (.cells #[.string s,.slice A n c] 234)).alloc (.cells #[.string s2,.slice A2 n2 c2] 234)) w.heap.size 234 #[.string s,.slice A n c]:=(Bk.fresh w _ _).later ((Below.refl _ _).alloc (Nat.le_refl _) _)
 have hC0:Bk ((w.alloc (.cells #[.string s,.slice A n c] 234)).alloc (.cells #[.string s2,.slice A2 n2 c2] 234)) (w.heap.size+1) 234 #[.string s2,.slice A2 n2 c2]:=Bk.freshAt _ _ _ (by simp)
 go_wp2_with fail
 generalize hw1:(w.alloc (.cells #[.string s,.slice A n c] 234)).alloc (.cells #[.string s2,.slice A2 n2 c2] 234)=w1 at hb0 hA0 hC0 ⊢
 clear hw1
 have HP1:=Lib.hid (hA.out.later hb0);have HP2:=Lib.hid (hA2.out.later hb0)
 have lc:w.heap.size+1<w1.heap.size:=hC0.here
 have HA0:=Lib.hid hA0;have HC0:=Lib.hid hC0
 clear hA0 hC0
 refine wp_region_held_drew (S:=fun X=>Below w1.heap.size w1 X) (by kernel_rfl) (Below.drew (Below.refl _ _)) (fun hS0=>?_)
 refine wU (i:=0) (v:=?_) rfl ?_ hS0 ?_
 rotate_left
 ·intro W _;go_simp;try with_reducible rfl
 try simp only [Act.put,tZ]
 refine wU (i:=1) (v:=?_) rfl ?_ hS0 ?_
 rotate_left
 ·intro W hSW;have hx:=(hSW.cell (by show w.heap.size<w1.heap.size;omega)).trans (HA0.out.cellAt 1);go_simp;try with_reducible rfl
 try simp only [Act.put,tZ]
 refine wU (i:=2) (v:=?_) rfl ?_ hS0 ?_
 rotate_left
 ·intro W _;go_simp;try with_reducible rfl
 try simp only [Act.put,tZ]
 refine wU (i:=3) (v:=?_) rfl ?_ hS0 ?_
 rotate_left
 ·intro W _;go_simp;try with_reducible rfl
 try simp only [Act.put,tZ]
 refine wU (i:=4) (v:=?_) rfl ?_ hS0 ?_
 rotate_left
 ·intro W hSW;have hx:=(hSW.cell (by show w.heap.size+1<w1.heap.size;omega)).trans (HC0.out.cellAt 1);go_simp;try with_reducible rfl
 try simp only [Act.put,tZ]
 refine wU (i:=5) (v:=?_) rfl ?_ hS0 ?_
 rotate_left
 ·intro W _;go_simp;try with_reducible rfl
 try simp only [Act.put,tZ]
 refine wU (i:=7) (v:=?_) rfl ?_ hS0 ?_
 rotate_left
 ·intro W _;go_simp;try with_reducible rfl
 try simp only [Act.put,tZ]
 refine wU (i:=8) (v:=?_) rfl ?_ hS0 ?_
 rotate_left
 ·intro W hSW;have hx:=(hSW.cell (by show w.heap.size<w1.heap.size;omega)).trans (HA0.out.cellAt 1);go_simp;try with_reducible rfl
 try simp only [Act.put,tZ]
 refine wU (i:=10) (v:=?_) rfl ?_ hS0 ?_
 rotate_left
 ·intro W _;go_simp;try with_reducible rfl
 try simp only [Act.put,tZ]
 refine wU (i:=11) (v:=?_) rfl ?_ hS0 ?_
 rotate_left
 ·intro W hSW;have hx:=(hSW.cell (by show w.heap.size+1<w1.heap.size;omega)).trans (HC0.out.cellAt 1);go_simp;try with_reducible rfl
 try simp only [Act.put,tZ]
 refine wU (i:=14) (v:=?_) rfl ?_ hS0 ?_
 rotate_left
 ·intro W _;go_simp;try with_reducible rfl
 try simp only [Act.put,tZ]
 refine wU (i:=15) (v:=?_) rfl ?_ hS0 ?_
 rotate_left
 ·intro W hSW;have hx:=(hSW.cell (by show w.heap.size<w1.heap.size;omega)).trans (HA0.out.cellAt 0);go_simp;try with_reducible rfl
 try simp only [Act.put,tZ]
 refine wU (i:=16) (v:=?_) rfl ?_ hS0 ?_
 rotate_left
 ·intro W _;go_simp;try with_reducible rfl
 try simp only [Act.put,tZ]
 refine wU (i:=17) (v:=?_) rfl ?_ hS0 ?_
 rotate_left
 ·intro W hSW;have hx:=(hSW.cell (by show w.heap.size+1<w1.heap.size;omega)).trans (HC0.out.cellAt 0);go_simp;try with_reducible rfl
 try simp only [Act.put,tZ]
 refine wpAnyH_ready (rs:=[6]) (by kernel_rfl) (by simp) ?_
 refine AllReadyH.cons rfl (fun K hK=>?_) AllReadyH.nil
 go_simp
 refine (K1.out _).mono ?_
 rintro v v1 ⟨rfl,rfl⟩
 go_simp
 refine hK.out _ _ hS0 (fun hS1=>?_)
 clear hK K
 try simp only [Act.put,tZ]
 refine wpAnyH_ready (rs:=[9]) (by kernel_rfl) (by simp) ?_
 refine AllReadyH.cons rfl (fun K hK=>?_) AllReadyH.nil
 go_simp
 refine (K2.out _ (HP1.out.later hS1)).mono ?_
 rintro v v2 ⟨rfl,hbl⟩
 go_simp
 refine hK.out _ _ (hS1.trans (hbl.mono hS1.size)) (fun hS2=>?_)
 clear hK K
 try simp only [Act.put,tZ]
 clear hbl
 refine wpAnyH_ready (rs:=[12]) (by kernel_rfl) (by simp) ?_
 refine AllReadyH.cons rfl (fun K hK=>?_) AllReadyH.nil
 go_simp
 refine (K3.out _ (HP2.out.later hS2)).mono ?_
 rintro v v3 ⟨rfl,hbl⟩
 go_simp
 refine hK.out _ _ (hS2.trans (hbl.mono hS2.size)) (fun hS3=>?_)
 clear hK K
 try simp only [Act.put,tZ]
 clear hbl
 refine wpAnyH_ready (rs:=[13]) (by kernel_rfl) (by simp) ?_
 refine AllReadyH.cons rfl (fun K hK=>?_) AllReadyH.nil
 go_simp
 refine (K4.out _).mono ?_
 rintro v v4 ⟨rfl,rfl⟩
 go_simp
 refine hK.out _ _ hS3 (fun hS4=>?_)
 clear hK K
 try simp only [Act.put,tZ]
 refine wpAnyH_ready (rs:=[18]) (by kernel_rfl) (by simp) ?_
 refine AllReadyH.cons rfl (fun K hK=>?_) AllReadyH.nil
 go_simp
 refine (K5.out _).mono ?_
 rintro v v5 ⟨rfl,rfl⟩
 go_simp
 refine hK.out _ _ hS4 (fun hS5=>?_)
 clear hK K
 try simp only [Act.put,tZ]
 refine wpAnyH_ready (rs:=[19]) (by kernel_rfl) (by simp) ?_
 refine AllReadyH.cons rfl (fun K hK=>?_) AllReadyH.nil
 simp only [if_pos,Region.wanted]
 refine ithree_op 11 18 23 p q u rfl rfl rfl rfl ?_
 intro g v6 hg hv6
 subst hg hv6
 refine hK.out _ _ (hS5.alloc hS5.size _) (fun hS6=>?_)
 clear hK K
 try simp only [Act.put,tZ]
 refine wpAnyH_ready (rs:=[20]) (by kernel_rfl) (by simp) ?_
 refine AllReadyH.cons rfl (fun K hK=>?_) AllReadyH.nil
 go_simp
 refine (K6.out p q u _ _ (by simp) (by simp) (by simp) (by simp)).mono ?_
 rintro v v7 ⟨rfl,rfl⟩
 go_simp
 refine hK.out _ _ hS6 (fun hS7=>?_)
 clear hK K
 try simp only [Act.put,tZ]
 refine wU (i:=21) (v:=?_) rfl ?_ hS7 ?_
 rotate_left
 ·intro W _;go_simp;try with_reducible rfl
 try simp only [Act.put,tZ]
 refine wpAnyH_done (by kernel_rfl) ?_ _
 go_wp2_with fail
 go_ret
 exact ⟨HR.out.symm ▸ rfl,hb0.trans (hS7.mono hb0.size)⟩
end
end Go.Proofs.YtccccbofcnmdiaaGreat
